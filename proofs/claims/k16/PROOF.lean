import PyProof.Rows.All
import Wide.All
import OpenK.AllK
import Wide.FinOn
import Lean
import PyProof.EqAt
import PyProof.EqKinds
import PyProof.TupleCall
import PySem.Challenge.RW_momentwright_k16_signs_at_roots
set_option compiler.extract_closed false
local macro_rules | `(tactic| walk_at "o")=>`(tactic| first | lia | omega)
set_option hygiene false in
local macro_rules | `(nofun)=>`(hr.mono (by walk_at "a2"))
local macro_rules | `(())=>`(by walk_at "o")
local macro_rules | `(∅)=>`(by decide)
local macro_rules | `(⋯)=>`(by grind)
local macro_rules | `((·))=>`(by walk_at "a1")
local macro_rules | `(tactic| nofun)=>`(tactic| walk_at "o")
local macro_rules | `(tactic| symm)=>`(tactic| walk_at "vc")
local macro_rules | `(tactic| walk_at "a1")=>`(tactic| first | exact Or.inl rfl | exact Or.inr rfl)
local macro_rules | `(tactic| walk_at "a2")=>`(tactic| first | decide | walk_at "o")
local macro_rules | `(tactic| walk_at "a3")=>`(tactic| exact ⟨rfl,rfl,rfl,by decide +kernel,rfl,by decide +kernel,by decide +kernel⟩)
set_option Elab.async false
set_option linter.all false
set_option maxRecDepth 100000
theorem Ya:type_of% @List.getElem?_eq_getElem:=@List.getElem?_eq_getElem
theorem Yb:type_of% @List.length_map:=@List.length_map
theorem Yc:type_of% @if_neg:=@if_neg
theorem Yd:type_of% @List.mem_cons_of_mem:=@List.mem_cons_of_mem
theorem Ye:type_of% @List.mem_cons_self:=@List.mem_cons_self
theorem Yf:type_of% @Rat.mul_nonneg:=@Rat.mul_nonneg
theorem Yg:type_of% @if_pos:=@if_pos
theorem Yh:type_of% @List.mem_cons:=@List.mem_cons
theorem Yi:type_of% @Rat.intCast_mul:=@Rat.intCast_mul
theorem Yj:type_of% @List.getElem?_map:=@List.getElem?_map
theorem Yk:type_of% @List.mem_singleton:=@List.mem_singleton
theorem Yl:type_of% @Rat.le_of_lt:=@Rat.le_of_lt
theorem Ym:type_of% @PySem.W.mg_of:=@PySem.W.mg_of
theorem Yn:type_of% @Nat.le_refl:=@Nat.le_refl
theorem Yo:type_of% @Rat.mul_pos:=@Rat.mul_pos
theorem Yp:type_of% @List.getElem_mem:=@List.getElem_mem
theorem Yq:type_of% @List.map_append:=@List.map_append
theorem Yr:type_of% @Nat.lt_of_lt_of_le:=@Nat.lt_of_lt_of_le
theorem Ys:type_of% @List.getElem?_eq_some_iff:=@List.getElem?_eq_some_iff
theorem Yt:type_of% @Classical.byContradiction:=@Classical.byContradiction
theorem Yu:type_of% @List.size_toArray:=@List.size_toArray
theorem Yv:type_of% @List.length_take:=@List.length_take
theorem Yw:type_of% @List.take_add_one:=@List.take_add_one
theorem Yx:type_of% @List.length_append:=@List.length_append
theorem Yy:type_of% @List.length_pos_iff:=@List.length_pos_iff
theorem Yz:type_of% @Int.mul_zero:=@Int.mul_zero
theorem YA:type_of% @Rat.intCast_pos:=@Rat.intCast_pos
theorem YB:type_of% @Nat.le_trans:=@Nat.le_trans
theorem YC:type_of% @List.length_cons:=@List.length_cons
theorem YD:type_of% @Rat.intCast_le_intCast:=@Rat.intCast_le_intCast
theorem YE:type_of% @Rat.mul_eq_zero:=@Rat.mul_eq_zero
theorem YF:type_of% @List.filter_cons_of_pos:=@List.filter_cons_of_pos
theorem YG:type_of% @Int.one_mul:=@Int.one_mul
theorem YH:type_of% @List.getD_eq_getElem?_getD:=@List.getD_eq_getElem?_getD
theorem YI:type_of% @Int.natAbs_mul:=@Int.natAbs_mul
theorem YJ:type_of% @Int.mul_assoc:=@Int.mul_assoc
theorem YK:type_of% @List.mem_append:=@List.mem_append
theorem YL:type_of% @Int.mul_ne_zero:=@Int.mul_ne_zero
theorem YM:type_of% @Bool.false_ne_true:=@Bool.false_ne_true
theorem YN:type_of% @Rat.lt_div_iff:=@Rat.lt_div_iff
theorem YO:type_of% @List.getElem?_append_right:=@List.getElem?_append_right
theorem YQ:type_of% @List.mem_of_getElem?:=@List.mem_of_getElem?
theorem YR:type_of% @PySem.F.plainAttrs_list:=@PySem.F.plainAttrs_list
theorem YS:type_of% @List.filter_cons_of_neg:=@List.filter_cons_of_neg
theorem YT:type_of% @List.mem_append_right:=@List.mem_append_right
theorem YU:type_of% @Rat.div_mul_cancel:=@Rat.div_mul_cancel
theorem YV:type_of% @List.getLast?_eq_getElem?:=@List.getLast?_eq_getElem?
theorem YW:type_of% @List.getElem?_append_left:=@List.getElem?_append_left
theorem YX:type_of% @List.mem_map:=@List.mem_map
theorem YY:type_of% @Nat.ne_of_lt:=@Nat.ne_of_lt
theorem YZ:type_of% @List.append_assoc:=@List.append_assoc
theorem Y0:type_of% @List.pairwise_cons:=@List.pairwise_cons
theorem Y1:type_of% @PySem.mem_of_lookup:=@PySem.mem_of_lookup
theorem Y2:type_of% @Int.mul_comm:=@Int.mul_comm
theorem Y3:type_of% @Nat.zero_le:=@Nat.zero_le
theorem Y4:type_of% @List.map_cons:=@List.map_cons
theorem Y5:type_of% @PySem.F.type_list_append:=@PySem.F.type_list_append
theorem Y6:type_of% @PySem.F.slot_list_append:=@PySem.F.slot_list_append
theorem Y7:type_of% @List.take_length:=@List.take_length
theorem Y8:type_of% @PySem.W.mg_none_of:=@PySem.W.mg_none_of
theorem Y9:type_of% @Nat.mul_le_mul_left:=@Nat.mul_le_mul_left
theorem Xa:type_of% @Rat.intCast_inj:=@Rat.intCast_inj
theorem Xb:type_of% @Option.some.inj:=@Option.some.inj
theorem Xc:type_of% @List.getElem?_eq_none:=@List.getElem?_eq_none
theorem Xd:type_of% @PySem.W.kia_one:=@PySem.W.kia_one
theorem Xe:type_of% @List.mem_filter:=@List.mem_filter
theorem Xf:type_of% @Nat.mul_le_mul:=@Nat.mul_le_mul
theorem Xg:type_of% @Nat.mul_le_mul_right:=@Nat.mul_le_mul_right
theorem Xh:type_of% @decide_eq_false:=@decide_eq_false
theorem Xi:type_of% @Rat.intCast_neg:=@Rat.intCast_neg
theorem Xj:type_of% @Nat.two_pow_pos:=@Nat.two_pow_pos
theorem Xk:type_of% @Int.pow_ne_zero:=@Int.pow_ne_zero
theorem Xl:type_of% @Bool.and_eq_true:=@Bool.and_eq_true
theorem Xm:type_of% @List.replicate_succ:=@List.replicate_succ
theorem Xn:type_of% @PyProof.Rows.callWith_type1:=@PyProof.Rows.callWith_type1
theorem Xo:type_of% @decide_eq_true:=@decide_eq_true
theorem Xp:type_of% @Rat.intCast_add:=@Rat.intCast_add
theorem Xq:type_of% @Nat.zero_add:=@Nat.zero_add
theorem Xr:type_of% @List.take_of_length_le:=@List.take_of_length_le
theorem Xs:type_of% @Int.fmod_nonneg_of_pos:=@Int.fmod_nonneg_of_pos
theorem Xt:type_of% @List.drop_eq_getElem_cons:=@List.drop_eq_getElem_cons
theorem Xu:type_of% @Int.natAbs_dvd_natAbs:=@Int.natAbs_dvd_natAbs
theorem Xv:type_of% @List.append_nil:=@List.append_nil
theorem Xw:type_of% @List.not_mem_nil:=@List.not_mem_nil
theorem Xx:type_of% @Nat.pow_le_pow_right:=@Nat.pow_le_pow_right
theorem Xy:type_of% @List.getElem?_of_mem:=@List.getElem?_of_mem
theorem Xz:type_of% @List.length_eq_zero_iff:=@List.length_eq_zero_iff
theorem XA:type_of% @Nat.lt_irrefl:=@Nat.lt_irrefl
theorem XB:type_of% @Int.toNat_natCast:=@Int.toNat_natCast
theorem XC:type_of% @Rat.intCast_lt_intCast:=@Rat.intCast_lt_intCast
theorem XD:type_of% @Int.pow_zero:=@Int.pow_zero
theorem XE:type_of% @Int.pow_succ:=@Int.pow_succ
theorem XF:type_of% @Nat.le_mul_of_pos_right:=@Nat.le_mul_of_pos_right
theorem XG:type_of% @List.getLast?_cons_cons:=@List.getLast?_cons_cons
theorem XH:type_of% @List.getElem_of_mem:=@List.getElem_of_mem
theorem XI:type_of% @List.getElem?_set_self:=@List.getElem?_set_self
theorem XJ:type_of% @Rat.div_def:=@Rat.div_def
theorem XM:type_of% @Int.mul_one:=@Int.mul_one
theorem XN:type_of% @Int.natAbs_natCast:=@Int.natAbs_natCast
theorem XO:type_of% @Int.fmod_lt_of_pos:=@Int.fmod_lt_of_pos
theorem XQ:type_of% @List.nodup_cons:=@List.nodup_cons
theorem XR:type_of% @Nat.pow_add:=@Nat.pow_add
theorem XS:type_of% @Nat.sub_self:=@Nat.sub_self
theorem XT:type_of% @Bool.eq_iff_iff:=@Bool.eq_iff_iff
theorem XU:type_of% @Int.gcd_dvd_right:=@Int.gcd_dvd_right
theorem XV:type_of% @List.find?_cons:=@List.find?_cons
theorem XW:type_of% @List.getElem?_set_ne:=@List.getElem?_set_ne
theorem XX:type_of% @List.length_set:=@List.length_set
theorem XY:type_of% @List.map_nil:=@List.map_nil
theorem XZ:type_of% @List.mem_append_left:=@List.mem_append_left
theorem X0:type_of% @Nat.add_mul:=@Nat.add_mul
theorem X2:type_of% @Nat.le_of_lt:=@Nat.le_of_lt
theorem X3:type_of% @Nat.mul_comm:=@Nat.mul_comm
theorem X4:type_of% @Nat.pow_succ:=@Nat.pow_succ
theorem X5:type_of% @Rat.not_le:=@Rat.not_le
theorem X6:type_of% @Rat.not_lt:=@Rat.not_lt
theorem X7:type_of% @congrArg:=@congrArg
namespace L2
open PySem PySem.Spec PyProof.Rows
abbrev iA:=Sum Int Str
def qZ:iA->Value->Bool
 | .inl k,v=>Value.isInt k v
 | .inr x,v=>Value.isStrOf x v
def KU(w:World):iA->Int
 | .inl k=>hashInt k
 | .inr x=>hashStr w x
theorem cU:∀{k:iA}{v:Value},qZ k v=true->(∃i t,k=Sum.inl i/\v=Value.int i t)\/(∃x t,k=Sum.inr x/\v=Value.str x t)
 | .inl i,v,h=>by
  obtain⟨t,e⟩:=Value.isInt_shape (k:=i) (v:=v) h;exact .inl ⟨i,t,rfl,e⟩
 | .inr x,v,h=>by
  obtain⟨t,e⟩:=Value.isStrOf_shape (x:=x) (v:=v) h;exact .inr ⟨x,t,rfl,e⟩
theorem zy(i:Int)(t:Tok):qZ (.inl i) (.int i t)=true:=by simp[qZ,Value.isInt]
theorem zi(x:Str)(t:Tok):qZ (.inr x) (.str x t)=true:=by simp[qZ,Value.isStrOf]
theorem IS(a b:Int):decide ((Sum.inl a:iA)=Sum.inl b)=(a==b):=by
 by_cases e:a=b
 .subst e;simp
 .have h:¬ (Sum.inl a:iA)=Sum.inl b:=λq=>e (Sum.inl.inj q);rw[Xh h];exact (beq_eq_false_iff_ne.mpr e).symm
theorem GY(a b:Str):decide ((Sum.inr a:iA)=Sum.inr b)=decide (a=b):=by
 by_cases e:a=b
 .subst e;simp
 .have h:¬ (Sum.inr a:iA)=Sum.inr b:=λq=>e (Sum.inr.inj q);rw[Xh h,Xh e]
theorem GC(a:Int)(b:Str):decide ((Sum.inl a:iA)=Sum.inr b)=false:=Xh (λq=>nomatch q)
theorem IR(a:Str)(b:Int):decide ((Sum.inr a:iA)=Sum.inl b)=false:=Xh (λq=>nomatch q)
def dS(prog:Program)(w:World):PySem.KeyKind prog w iA where
 is:=qZ
 hash:=KU w
 inj:=λv a b ha hb=>by
  rcases cU ha with ⟨i,t,rfl,rfl⟩|⟨x,t,rfl,rfl⟩
  .rcases cU hb with ⟨j,u,rfl,e⟩|⟨y,u,rfl,e⟩
   .injection e with e1 _;rw[e1]
   .exact nomatch e
  .rcases cU hb with ⟨j,u,rfl,e⟩|⟨y,u,rfl,e⟩
   .exact nomatch e
   .injection e with e1 _;rw[e1]
 byValue:=λk v h=>by
  rcases cU h with ⟨i,t,rfl,rfl⟩|⟨x,t,rfl,rfl⟩<;>rfl
 pyHash:=λhv h=>by
  rcases cU hv with ⟨i,t,rfl,rfl⟩|⟨x,t,rfl,rfl⟩
  .exact wpAny_pyHash_int h
  .exact wpAny_pyHash_str h
 eqBool:=λhu hv h=>by
  rcases cU hu with ⟨i,t,rfl,rfl⟩|⟨x,t,rfl,rfl⟩
  .rcases cU hv with ⟨j,u,rfl,rfl⟩|⟨y,u,rfl,rfl⟩
   .rw[IS] at h;exact wpAny_eqBool_int h
   .rw[GC] at h;exact SeqAt.EqAt.int_str i t y u _ _ _ _ h
  .rcases cU hv with ⟨j,u,rfl,rfl⟩|⟨y,u,rfl,rfl⟩
   .rw[IR] at h;exact SeqAt.EqAt.str_int x t j u _ _ _ _ h
   .rw[GY] at h;exact wpAny_eqBool_str h
 «strs»:=λk x t v h=>by
  rcases cU h with ⟨i,u,rfl,e⟩|⟨y,u,rfl,e⟩
  .exact nomatch e
  .injection e with e1 _
   subst e1;cases v<;>rfl
theorem uT(prog:Program)(w:World)(i:Int)(t:Tok):(dS prog w).is (.inl i) (.int i t)=true:=zy i t
theorem vi(prog:Program)(w:World)(x:Str)(t:Tok):(dS prog w).is (.inr x) (.str x t)=true:=zi x t
inductive V where
 | non|bl (b:Bool)|int (i:Int)|str (x:Str)|byt (b:Array UInt8)|flt (b:UInt64)|ref (a:Addr)|ty (n:String)
 deriving DecidableEq
def bK:V->Value->Prop
 | .non,u=>u=Value.none
 | .bl b,u=>u=Value.bool b
 | .int i,u=>∃t,u=Value.int i t
 | .str x,u=>∃t,u=Value.str x t
 | .byt b,u=>∃t,u=Value.bytes b t
 | .flt b,u=>∃t,u=Value.float b t
 | .ref a,u=>u=Value.ref a
 | .ty n,u=>u=Value.type n
abbrev aX:List V->List Value->Prop:=Paired bK
theorem aX.length{xs:List V}{us:List Value}(r:aX xs us):xs.length=us.length:=Paired.length r
theorem aX.get:∀{xs:List V}{us:List Value}{i:Nat}{x:V},aX xs us->xs[i]? = some x -> ∃u,us[i]? = some u/\bK x u
 | _,_,_,_,.nil,e=>by simp at e
 | _,_,0,_,.cons r _,e=>by simp at e;subst e;exact⟨_,rfl,r⟩
 | _,_,i+1,x,.cons _ t,e=>by
  obtain⟨u,h1,h2⟩:=aX.get (i:=i) (x:=x) t (by simpa using e)
  exact⟨u,by simpa using h1,h2⟩
theorem aX.set{x:V}{u:Value}(r:bK x u):∀{xs:List V}{us:List Value}(i:Nat),aX xs us->aX (xs.set i x) (us.set i u)
 | _,_,_,.nil=>.nil
 | _,_,0,.cons _ t=>.cons r t
 | _,_,i+1,.cons q t=>.cons q (aX.set r i t)
theorem aX.append:∀{xs ys:List V}{us ws:List Value},aX xs us->aX ys ws->aX (xs++ys) (us++ws)
 | _,_,_,_,.nil,s=>s
 | _,_,_,_,.cons r t,s=>.cons r (aX.append t s)
theorem aX.take:∀{xs:List V}{us:List Value}(n:Nat),aX xs us->aX (xs.take n) (us.take n)
 | _,_,0,_=>.nil
 | _,_,_+1,.nil=>.nil
 | _,_,n+1,.cons r t=>.cons r (aX.take n t)
theorem aX.drop:∀{xs:List V}{us:List Value}(n:Nat),aX xs us->aX (xs.drop n) (us.drop n)
 | _,_,0,r=>r
 | _,_,_+1,.nil=>.nil
 | _,_,n+1,.cons _ t=>aX.drop n t
def tF:Option V->Option Value->Prop
 | some v,some u=>bK v u
 | none,none=>True
 | _,_=>False
def KV{κ:Type}:List (κ×V)->List (κ×Value)->Prop:=Paired λ(p:κ×V)(q:κ×Value)=>p.1=q.1/\bK p.2 q.2
def kV:iA->V
 | .inl i=>.int i
 | .inr x=>.str x
inductive HO where
 /-- a list -/
 | lst (xs:List V)
 /-- a tuple (never changes) -/
 | tup (xs:List V)
 /-- a dict whose keys are ints and texts;one whose keys are tuples of ints and texts (the empty one is both) -/
 | dK (kvs:List (iA×V))|dT (kvs:List (List iA×V))
 /-- a set of ints: its members,its size -/
 | set (S:Int->Bool)(n:Nat)
 /-- an instance of the class at C,its dict at dx,its attributes -/
 | ins (C dx:Addr)(fs:List (Str×V))
 /-- the dict of the instance at x -/
 | own (x:Addr)
 /-- the dict of an exception -/
 | xd (fs:List (Str×V))
 /-- a bound method,f of x -/
 | met (f x:Addr)
 /-- a range object lo,lo+1,.. below hi -/
 | rng (lo hi:Int)
 /-- a thing that is known to the object (the script;a dict while a loop walks it): read,never written while it is so -/
 | frz (o:Obj)(u:HO)
 /-- a code object's table -/
 | tbl (ps:Array Value)
 /-- any other thing,by what is true of its one object (a def of one's own: SetO a S n:=HO.ext λh=>..) -/
 | ext (φ:Heap->Prop)
abbrev Hp:=Addr->Option HO
def upd(H:Hp)(a:Addr)(o:HO):Hp:=λb=>if b=a then some o else H b
theorem bB{H:Hp}{a:Addr}{o:HO}:upd H a o a=some o:=by unfold upd;rw[Yg rfl]
theorem aL{H:Hp}{a b:Addr}{o:HO}(h:b≠a):upd H a o b=H b:=by unfold upd;rw[Yc h]
theorem ak{H:Hp}{a b:Addr}{o:HO}(h:H a=some o)(h':H b=none):a≠b:=by
 intro e;subst e;rw[h] at h';cases h'
section
variable (P:Program)(w:World)
def cO(H:Hp)(h:Heap)(a:Addr):HO->Prop
 | .lst xs=>xs.length<=sizeLine /\ ∃(its:List Value)(n:Nat),aX xs its/\h.get? a=some { cls:=.type "list",data:=.seq its.toArray n }
 | .tup xs=>xs.length<=sizeLine /\ ∃its:List Value,aX xs its/\IsTup h a its.toArray
 | .dK kvs=>kvs.length<=sizeLine/\(a==sysModules)=false /\ ∃vs,KV kvs vs/\h.DictOf (dS P w) a vs
 | .dT kvs=>kvs.length<=sizeLine/\(a==sysModules)=false /\ ∃xs:List (List iA×Addr×Value),
   Paired (λ(p:List iA×V)(q:List iA×Addr×Value)=>p.1=q.1/\H q.2.1=some (.tup (p.1.map kV))/\bK p.2 q.2.2) kvs xs /\
   ∃o es ep,h.get? a=some o/\o.ExactDict/\o.data=.dict es ep/\es.toList=xs.map (entryOfKey (tupleKind (dS P w)))/\(xs.map (·.1)).Nodup
 | .set S n=>h.SetOf (intKind P w) a S n
 | .ins C dx fs=>H dx=some (.own a)/\fs.length<=1000/\dx≠a/\h.get? a=some (PySem.W.instObj C dx) /\
   ∃mA,h.Ns1 dx mA/\(∀f,tF (fs.lookup f) (mA f))/\PySem.Within mA (fs.map (·.1))
 | .own _=>∃o,h.get? a=some o
 | .xd fs=>∃mA,h.Ns1 a mA /\ ∀f,tF (fs.lookup f) (mA f)
 | .rng lo hi=>∃t u v,h.get? a=some { cls:=.type "range",data:=.fields #[.int lo t,.int hi u,.int 1 v] }
 | .frz o u=>h.get? a=some o/\cO H h a u
 | .tbl ps=>h.get? a=some { cls:=.none,data:=.fields ps }
 | .met f x=>h.get? a=some (PySem.W.methodObj (.ref f) (.ref x))
 | .ext φ=>φ h/\(∃o,h.get? a=some o) /\ ∀h1 h2:Heap,φ h1->(∀o,h1.get? a=some o->h2.get? a=some o)->φ h2
def j9(H:Hp)(h:Heap):Prop:=∀a o,H a=some o->cO P w H h a o
end
section
variable {P:Program}{w:World}{H H':Hp}{h h':Heap}{a:Addr}{o:HO}
theorem cO.lt(x:cO P w H h a o):a<h.objs.size:=by
 cases o with
 | lst xs=>obtain⟨_,_,_,_,e⟩:=x;exact Heap.lt_size e
 | tup xs=>obtain⟨_,_,_,p⟩:=x;exact p.lt
 | dK kvs=>obtain⟨_,_,_,_,o,_,_,e,_⟩:=x;exact Heap.lt_size e
 | dT kvs=>obtain⟨_,_,_,_,o,_,_,e,_⟩:=x;exact Heap.lt_size e
 | set S n=>obtain⟨o,_,_,_,e,_⟩:=x;exact Heap.lt_size e
 | ins C dx fs=>obtain⟨_,_,_,e,_⟩:=x;exact Heap.lt_size e
 | own y=>obtain⟨_,e⟩:=x;exact Heap.lt_size e
 | xd fs=>obtain⟨_,⟨_,_,_,e,_⟩,_⟩:=x;exact Heap.lt_size e
 | rng lo hi=>obtain⟨_,_,_,e⟩:=x;exact Heap.lt_size e
 | frz ob u=>obtain⟨e,_⟩:=x;exact Heap.lt_size e
 | tbl ps=>exact Heap.lt_size (show h.get? a=some _ from x)
 | met f y=>exact Heap.lt_size (show h.get? a=some _ from x)
 | ext φ=>obtain⟨_,⟨_,e⟩,_⟩:=x;exact Heap.lt_size e
theorem Paired.mapP{α β:Type}{F G:α->β->Prop}:∀{l₁:List α}{l₂:List β},Paired F l₁ l₂->(∀a b,F a b->G a b)->Paired G l₁ l₂
 | _,_,.nil,_=>.nil
 | _,_,.cons r t,f=>.cons (f _ _ r) (Paired.mapP t f)
theorem cO.stay(x:cO P w H h a o)(k:∀b u,(b=a\/H b=some (.own a))->h.get? b=some u->h'.get? b=some u)
  (ho:∀b,H b=some (.own a)->H' b=some (.own a))(ht:∀b xs,H b=some (.tup xs)->H' b=some (.tup xs)):cO P w H' h' a o:=by
 induction o with
 | lst xs=>obtain⟨z,its,n,r,e⟩:=x;exact⟨z,its,n,r,k _ _ (.inl rfl) e⟩
 | tup xs=>obtain⟨z,its,r,ob,e,c⟩:=x;exact⟨z,its,r,ob,k _ _ (.inl rfl) e,c⟩
 | dK kvs=>obtain⟨z,y,vs,r,ob,es,ep,e,c⟩:=x;exact⟨z,y,vs,r,ob,es,ep,k _ _ (.inl rfl) e,c⟩
 | dT kvs =>
  obtain⟨z,y,xs,r,ob,es,ep,e,c⟩:=x;exact⟨z,y,xs,Paired.mapP r λp q z=>⟨z.1,ht _ _ z.2.1,z.2.2⟩,ob,es,ep,k _ _ (.inl rfl) e,c⟩
 | set S n=>obtain⟨ob,es,ep,t,e,c⟩:=x;exact⟨ob,es,ep,t,k _ _ (.inl rfl) e,c⟩
 | ins C dx fs =>
  obtain⟨d,z,ne,e,mA,⟨od,es,ep,e2,c⟩,r⟩:=x;exact⟨ho _ d,z,ne,k _ _ (.inl rfl) e,mA,⟨od,es,ep,k _ _ (.inr d) e2,c⟩,r⟩
 | own y=>obtain⟨ob,e⟩:=x;exact⟨ob,k _ _ (.inl rfl) e⟩
 | xd fs=>obtain⟨mA,⟨od,es,ep,e,c⟩,r⟩:=x;exact⟨mA,⟨od,es,ep,k _ _ (.inl rfl) e,c⟩,r⟩
 | rng lo hi=>obtain⟨t,u,v,e⟩:=x;exact⟨t,u,v,k _ _ (.inl rfl) e⟩
 | frz ob u ih=>obtain⟨e,q⟩:=x;exact⟨k _ _ (.inl rfl) e,ih q⟩
 | tbl ps =>
  have e:h.get? a=some { cls:=.none,data:=.fields ps }:=x;show h'.get? a=some { cls:=.none,data:=.fields ps };exact k a _ (.inl rfl) e
 | met f y =>
  have e:h.get? a=some (PySem.W.methodObj (.ref f) (.ref y)):=x;show h'.get? a=some (PySem.W.methodObj (.ref f) (.ref y));exact k a _ (.inl rfl) e
 | ext φ=>obtain⟨p,⟨o,e⟩,st⟩:=x;exact⟨st _ _ p λo q=>k _ _ (.inl rfl) q,⟨o,k _ _ (.inl rfl) e⟩,st⟩
theorem j9.lt(x:j9 P w H h)(e:H a=some o):a<h.objs.size:=(x a o e).lt
theorem j9.fresh(x:j9 P w H h)(e:h.objs.size<=a):H a=none:=by
 cases q:H a with
 | none=>rfl
 | some u=>exact absurd (Yr (x.lt q) e) (XA _)
theorem j9.kept(x:j9 P w H h)(k:∀b u,h.get? b=some u->h'.get? b=some u):j9 P w H h':=λa o e =>
 (x a o e).stay (λb u _ q=>k b u q) (λ_ q=>q) λ_ _ q=>q
theorem j9.laid(x:j9 P w H h)(k:∀b u,h.get? b=some u->h'.get? b=some u)(hp:h.objs.size<=a)(new:cO P w (upd H a o) h' a o):j9 P w (upd H a o) h':=λb u e=>by
 have hn:=x.fresh hp;by_cases hb:b=a
 .subst hb;rw[bB] at e;cases e;exact new
 .rw[aL hb] at e;exact (x b u e).stay (λc v _ q=>k c v q) (λc q=>by rw[aL (ak q hn)];exact q) λc xs q=>by rw[aL (ak q hn)];exact q
end
def Rd(H:Hp)(a:Addr)(u:HO):Prop:=H a=some u \/ ∃o,H a=some (.frz o u)
theorem Rd.ok{P:Program}{w:World}{H:Hp}{h:Heap}{a:Addr}{u:HO}(r:Rd H a u)(x:j9 P w H h):cO P w H h a u:=by
 rcases r with r|⟨o,r⟩
 .exact x a u r
 .obtain⟨_,q⟩:=x a _ r;exact q
def JR:Option HO->Prop
 | some (.lst _)=>True
 | some (.dK _)=>True
 | some (.dT _)=>True
 | some (.set _ _)=>True
 | some (.ins _ _ _)=>True
 | some (.ext _)=>True
 | _=>False
section
variable {P:Program}{w:World}{H:Hp}{h h':Heap}{x e:Addr}{o':HO}
theorem j9.write(ok:j9 P w H h)(mu:JR (H x))(he:e=x\/H e=some (.own x))(k:∀b u,b≠e->h.get? b=some u->h'.get? b=some u)(heo:∃u,h'.get? e=some u)
  (new:cO P w (upd H x o') h' x o'):j9 P w (upd H x o') h':=λb u q=>by
 have nown:∀c y,H c=some (.own y)->c≠x:=λc y r z=>by subst z;rw[r] at mu;exact mu
 have ntup:∀c xs,H c=some (.tup xs)->c≠x:=λc xs r z=>by subst z;rw[r] at mu;exact mu
 by_cases hb:b=x
 .subst hb;rw[bB] at q;cases q;exact new
 .rw[aL hb] at q;by_cases hbe:b=e
  .have q':H b=some (.own x):=by
    rcases he with z|z
    .exact absurd (hbe.trans z) hb
    .rw[hbe];exact z
   rw[q] at q';cases q';obtain⟨v,hv⟩:=heo;exact⟨v,by rw[hbe];exact hv⟩
  .refine (ok b u q).stay (λc v hc r=>k c v ?_ r) (λc r=>by rw[aL (nown c b r)];exact r) λc xs r=>by rw[aL (ntup c xs r)];exact r
   rcases hc with rfl|hc
   .exact hbe
   .rintro rfl;rcases he with z|z
    .exact nown c b hc z
    .rw[hc] at z;cases z;exact hb rfl
end
structure Un (fs ex:List Addr)(H H':Hp)(h h':Heap):Prop where
 keep:∀b o,h.get? b=some o->H b=none->b∉fs->b∉ex->h'.get? b=some o
 slot:∀b o,h.get? b=some o->H b=none->b∈fs->b∉ex -> ∃sl,h'.get? b=some { o with slots:=sl }
 free:∀b o,h.get? b=some o->H b=none->b∉ex->H' b=none
 there:∀b o,h.get? b=some o->b∉ex -> ∃o',h'.get? b=some o'
 tups:∀b xs,H b=some (.tup xs)->H' b=some (.tup xs)
 frzs:∀b o u,H b=some (.frz o u)->H' b=some (.frz o u)
 tbls:∀b ps,H b=some (.tbl ps) -> ∃more,H' b=some (.tbl (ps++more))
section
variable {fs fs' ex ex':List Addr}{H H1 H2:Hp}{h h1 h2 h':Heap}{a x e:Addr}{o:HO}
theorem Un.any(u:Un fs ex H H1 h h1) {b:Addr}{ob:Obj}(q:h.get? b=some ob)(n:H b=none)(hx:b∉ex):∃sl,h1.get? b=some { ob with slots:=sl }:=by
 by_cases hb:b∈fs
 .exact u.slot b ob q n hb hx
 .exact⟨ob.slots,u.keep b ob q n hb hx⟩
theorem Un.kept(k:∀b u,h.get? b=some u->h'.get? b=some u):Un fs ex H H h h' :=
 ⟨λb ob q _ _ _=>k b ob q,λb ob q _ _ _=>⟨ob.slots,k b ob q⟩,λ_ _ _ n _=>n,λb ob q _=>⟨ob,k b ob q⟩,λ_ _ q=>q,λ_ _ _ q=>q,λ_ ps q=>⟨#[],by rw[q];simp⟩⟩
theorem Un.refl:Un fs ex H H h h:=Un.kept λ_ _ q=>q
theorem Un.laid(k:∀b u,h.get? b=some u->h'.get? b=some u)(hp:h.objs.size<=a)(hn:H a=none):Un fs ex H (upd H a o) h h' where
 keep:=λb u q _ _ _=>k b u q
 slot:=λb u q _ _ _=>⟨u.slots,k b u q⟩
 free:=λb u q n _=>by rw[aL (YY (Yr (Heap.lt_size q) hp))];exact n
 there:=λb u q _=>⟨u,k b u q⟩
 tups:=λb xs q=>by rw[aL (ak q hn)];exact q
 frzs:=λb u xs q=>by rw[aL (ak q hn)];exact q
 tbls:=λb ps q=>⟨#[],by rw[aL (ak q hn),q];simp⟩
theorem Un.write(mu:JR (H x))(he:e=x\/H e=some (.own x))(k:∀b u,b≠e->h.get? b=some u->h'.get? b=some u)(heo:∃u,h'.get? e=some u):Un fs ex H (upd H x o) h h':=by
 have hx:∀b,H b=none->b≠x:=λb n z=>by subst z;rw[n] at mu;exact mu
 have hb:∀b,H b=none->b≠e:=λb n z=>by
  subst z;rcases he with r|r
  .exact hx b n r
  .rw[n] at r;cases r
 have hm:∀b u,H b=some u -> ¬ JR (some u)->b≠x:=λb u q nm z=>by subst z;rw[q] at mu;exact nm mu
 refine⟨λb u q n _ _=>k b u (hb b n) q,λb u q n _ _=>⟨u.slots,k b u (hb b n) q⟩,λb u q n _=>by rw[aL (hx b n)];exact n,λb u q _=>?_,
  λb xs q=>by rw[aL (hm b _ q λz=>z)];exact q,λb u xs q=>by rw[aL (hm b _ q λz=>z)];exact q,λb ps q=>⟨#[],by rw[aL (hm b _ q λz=>z),q];simp⟩⟩
 by_cases hbe:b=e
 .subst hbe;exact heo
 .exact⟨u,k b u hbe q⟩
end
def Kz(h:Heap)(H:Hp):List Addr:=(List.range h.objs.size).filter λa=>(H a).isSome
def pB(h:Heap)(H:Hp):Heap:=PySem.W.hideAll h (Kz h H)
theorem zT(h:Heap)(H:Hp):(pB h H).objs.size=h.objs.size:=PySem.W.hideAll_size _ _
theorem Cu{h:Heap}{H:Hp}{b:Addr}{o:Obj}(e:h.get? b=some o)(n:H b=none):(pB h H).get? b=some o :=
 PySem.W.hideAll_get _ e λhm=>by
  have q:(H b).isSome=true:=(Xe.mp hm).2;rw[n] at q;simp at q
theorem Fe{h:Heap}{H:Hp}{b:Addr}{o:Obj}(e:(pB h H).get? b=some o):h.get? b=some o/\H b=none:=by
 have e':h.get? b=some o:=PySem.W.of_hideAll (Kz h H) e;refine⟨e',?_⟩;cases q:H b with
 | none=>rfl
 | some x =>
  have hm:b∈Kz h H:=Xe.mpr ⟨List.mem_range.mpr (Heap.lt_size e'),by simp[q]⟩
  have z:(pB h H).get? b=none:=PySem.W.hideAll_none (Kz h H) hm;rw[z] at e;cases e
def DN(g h:Heap)(L:Addr):List (Addr×Obj):=(List.range h.objs.size).filterMap λa=>if a=L\/(g.get? a).isSome=true then none else (h.get? a).map λo=>(a,o)
def rest(g h:Heap)(L d:Addr):List (Addr×Obj):=(DN g h L).filter λp=>decide (p.1≠d)
structure Mod (K:W.Frag)(mg:Str->Option Value)(base:Heap):Prop where
 kin:K.In base
 glob:base.Ns mainGlobals mg
 blt:∃mb,base.Ns builtinsNs mb /\ ∀x:Str,x ≠ "__name__" -> mb x=bootBuiltins x
 nolimit:base.NoLimit
structure Cx where
 prog:Program
 w:World
 K:W.Frag
 mg:Str->Option Value
 base:Heap
 A:Around
 N:List Str
 s₀:Shared
 H₀:Hp
 env:Env
 outer:List Env
 stack:List Env
 ex:List Addr
 fn:Str->Bool
 calm:Bool
 pn:List (Addr×Obj)
 xe:Value->Shared->Prop
def iW(l:List Env):List Addr:=l.filterMap (·.frame)
abbrev Cx.fs (X:Cx):List Addr:=iW X.outer
def GR(sc:Scope)(x:Str):Prop:=sc.names.lookup x=some .local\/sc.names.lookup x=some .cell\/sc.names.lookup x=some .free
def Dt(sc:Scope)(x:Str):Prop:=sc.names.lookup x=some .local\/sc.names.lookup x=some .cell
def JA(env:Env)(h:Heap)(m:Str->Option Value)(x:Str)(u:Value):Prop :=
 (env.kindOf x=some .local/\m x=some u)\/((env.kindOf x=some .cell\/env.kindOf x=some .free) /\ ∃c,env.cells.lookup x=some c/\h.IsCell c (some u))
structure Cx.Ok (X:Cx):Prop where
 mod:Mod X.K X.mg X.base
 kind:X.env.scope.kind=.function
 glob:X.env.globals=mainGlobals
 blt:X.env.builtins=builtinsNs
 above:X.s₀.heap.objs.size<=X.env.locals
 inj:∀x y c,X.env.cells.lookup x=some c->X.env.cells.lookup y=some c->x=y
 has:∀x,(X.env.kindOf x=some .cell\/X.env.kindOf x=some .free) -> ∃c,X.env.cells.lookup x=some c
 cab:∀x c,X.fn x=true->X.env.cells.lookup x=some c->X.s₀.heap.objs.size<=c
 hd:X.calm=true->X.A.handled=none
 frames:X.A.frames=some X.stack
 stk:X.stack=X.outer\/(X.stack=X.env::X.outer/\X.env.frame=some X.env.locals)
 exf:∀b∈X.ex,b≠X.env.locals /\ ∀x c,X.env.cells.lookup x=some c->c≠b
 bs:∀b o,X.base.get? b=some o->X.s₀.heap.get? b=some o/\X.H₀ b=none
 bsz:X.base.objs.size<=X.s₀.heap.objs.size
 noex:∀b o,X.base.get? b=some o->b∉X.ex
 exfs:∀b∈X.ex,b∉X.fs
 funs:X.s₀.heap.FunFrames X.base X.outer
 frf:∀b∈X.fs,X.H₀ b=none
structure aH (X:Cx)(pins:List (Addr×Obj))(σ:List (Option V))(H:Hp)(s:Shared):Prop where
 ok:X.Ok
 os:s.os=X.s₀.os
 bare:AllBare s.gens
 base:Un X.fs X.ex X.H₀ H X.s₀.heap s.heap
 loc:∃m,s.heap.Ns X.env.locals m /\ ∀(i:Nat)(x:Str)(v:V),X.N[i]? = some x->σ[i]? = some (some v)->GR X.env.scope x -> ∃u,bK v u/\JA X.env s.heap m x u
 cell:∀x c,X.env.cells.lookup x=some c -> ∃v,s.heap.IsCell c v
 free:H X.env.locals=none
 freeC:∀x c,X.env.cells.lookup x=some c->H c=none
 pin:∀p∈X.pn++pins,s.heap.get? p.1=some p.2/\H p.1=none/\p.1≠X.env.locals/\p.1∉X.fs /\ ∀v,p.2.data ≠ .cell v
 hok:j9 X.prog X.w H s.heap
 len:σ.length=X.N.length
section
variable {X:Cx}{pins:List (Addr×Obj)}{σ:List (Option V)}{H H':Hp}{s:Shared}{h':Heap}
theorem Cx.Ok.nofr(ok:X.Ok){b:Addr}{o:Obj}(e:X.base.get? b=some o):b∉X.fs:=λhb=>by
 have:=(ok.funs.mem hb).1;rw[e] at this;cases this
theorem aH.bs(I:aH X pins σ H s):∀b o,X.base.get? b=some o->s.heap.get? b=some o/\H b=none:=λb o e =>
 ⟨I.base.keep b o (I.ok.bs b o e).1 (I.ok.bs b o e).2 (I.ok.nofr e) (I.ok.noex b o e),I.base.free b o (I.ok.bs b o e).1 (I.ok.bs b o e).2 (I.ok.noex b o e)⟩
theorem aH.bk(I:aH X pins σ H s):∀b o,X.base.get? b=some o->s.heap.get? b=some o:=λb o e=>(I.bs b o e).1
theorem aH.mod(I:aH X pins σ H s):Mod X.K X.mg X.base:=I.ok.mod
theorem aH.kIn(I:aH X pins σ H s):X.K.In s.heap:=I.ok.mod.kin.keeps I.bk
theorem aH.nolimit(I:aH X pins σ H s):s.heap.NoLimit:=I.ok.mod.nolimit.keeps I.bk
theorem aH.lt(I:aH X pins σ H s):X.env.locals<s.heap.objs.size:=let ⟨_,hn,_⟩:=I.loc;hn.lt
theorem aH.sz(I:aH X pins σ H s):X.s₀.heap.objs.size<=s.heap.objs.size:=YB I.ok.above (X2 I.lt)
theorem aH.nofs(I:aH X pins σ H s) {a:Addr}(h:s.heap.objs.size<=a):a∉X.fs:=λhb=>by
 obtain⟨_,o,ho,_⟩:=I.ok.funs.mem hb;exact absurd (Yr (Heap.lt_size ho) (YB I.sz h)) (XA _)
theorem aH.cne(I:aH X pins σ H s):∀x c,X.env.cells.lookup x=some c->c≠X.env.locals:=λx c e z=>by
 obtain⟨v,o,ho,hd⟩:=I.cell x c e;obtain⟨m,⟨o',es,ep,ho',hd',_⟩,_⟩:=I.loc;rw[z,ho'] at ho;cases ho;rw[hd'] at hd;cases hd
theorem aH.funs(I:aH X pins σ H s):s.heap.FunFrames X.base X.outer:=by
 have all:∀(l:List Env),(∀b∈iW l,b∈X.fs)->X.s₀.heap.FunFrames X.base l->s.heap.FunFrames X.base l:=by
  intro l;induction l with
  | nil=>intro _ _;trivial
  | cons env r ih =>
   intro hs hl;obtain⟨hk,⟨L,o,hf,hn,ho,hd⟩,hr⟩:=hl;have hL:L∈X.fs:=hs L (by unfold iW;rw[List.filterMap_cons,hf];exact Ye)
   obtain⟨sl,e⟩:=I.base.slot L o ho (I.ok.frf L hL) hL λz=>I.ok.exfs L z hL;exact⟨hk,⟨L,_,hf,hn,e,hd⟩,ih (λb hb=>hs b (by unfold iW;rw[List.filterMap_cons,hf];exact Yd _ hb)) hr⟩
 exact all X.outer (λ_ hb=>hb) I.ok.funs
theorem aH.stack(I:aH X pins σ H s):s.heap.FunFrames X.base X.stack:=by
 rcases I.ok.stk with e|⟨e,hf⟩
 .rw[e];exact I.funs
 .rw[e];obtain⟨m,hn,_⟩:=I.loc;refine .cons (by rw[I.ok.kind];decide) hf hn ?_ I.funs
  exact Heap.get?_none_of_le (YB I.ok.bsz I.ok.above)
theorem aH.stkSub(I:aH X pins σ H s):∀b∈iW X.stack,b∈X.env.locals::X.fs:=λb hb=>by
 rcases I.ok.stk with e|⟨e,hf⟩
 .rw[e] at hb;exact Yd _ hb
 .rw[e] at hb;unfold iW at hb;rw[List.filterMap_cons,hf] at hb;exact hb
theorem aH.stkFree(I:aH X pins σ H s):∀b∈iW X.stack,H b=none:=λb hb=>by
 rcases Yh.mp (I.stkSub b hb) with e|hb
 .rw[e];exact I.free
 .obtain⟨_,o,ho,_⟩:=I.ok.funs.mem hb;exact I.base.free b o ho (I.ok.frf b hb) λz=>I.ok.exfs b z hb
theorem aH.step{g':Array GenState}{t':Nat}{d':Drawn}{ch:List Addr}(I:aH X pins σ H s)
  (hch:∀b∈ch,(b∈X.ex\/X.s₀.heap.objs.size<=b)/\b≠X.env.locals/\(∀x c,X.env.cells.lookup x=some c->c≠b) /\ ∀p∈X.pn++pins,p.1≠b)
  (keep:∀b o,b≠X.env.locals->b∉X.fs->b∉ch->s.heap.get? b=some o->H b=none->h'.get? b=some o)
  (slot:∀b o,b≠X.env.locals->b∈X.fs->b∉ch->s.heap.get? b=some o->H b=none -> ∃sl,h'.get? b=some { o with slots:=sl })(free:∀b o,b∉ch->s.heap.get? b=some o->H b=none->H' b=none)
  (there:∀b o,b∉ch->s.heap.get? b=some o -> ∃o',h'.get? b=some o')
  (tups:∀b xs,H b=some (.tup xs)->H' b=some (.tup xs))(frzs:∀b o u,H b=some (.frz o u)->H' b=some (.frz o u))(tbls:∀b ps,H b=some (.tbl ps) -> ∃more,H' b=some (.tbl (ps++more)))
  (ns:∀m,s.heap.Ns X.env.locals m->h'.Ns X.env.locals m)(hok:j9 X.prog X.w H' h')(hg:AllBare g') :
  aH X pins σ H' { s with heap:=h',gens:=g',drawn:=d',toks:=t' }:=by
 have neL:∀b o,X.s₀.heap.get? b=some o->b≠X.env.locals:=λb o e=>YY (Yr (Heap.lt_size e) I.ok.above);have neC:∀b o,X.s₀.heap.get? b=some o->b∉X.ex->b∉ch:=λb o e hx hb=>by
  rcases (hch b hb).1 with z|z
  .exact hx z
  .exact absurd (Yr (Heap.lt_size e) z) (XA _)
 have cellK:∀x c,X.env.cells.lookup x=some c -> ∀v,s.heap.IsCell c v->h'.IsCell c v:=λx c e v ⟨o,ho,hd⟩=>by
  have nch:c∉ch:=λz=>(hch c z).2.2.1 x c e rfl;by_cases hc:c∈X.fs
  .obtain⟨sl,q⟩:=slot c o (I.cne x c e) hc nch ho (I.freeC x c e);exact⟨_,q,hd⟩
  .exact⟨o,keep c o (I.cne x c e) hc nch ho (I.freeC x c e),hd⟩
 refine⟨I.ok,I.os,hg,⟨λb o e n hb hx=>?_,λb o e n hb hx=>?_,λb o e n hx=>?_,λb o e hx=>?_,λb xs e=>tups b xs (I.base.tups b xs e),λb o xs e=>frzs b o xs (I.base.frzs b o xs e),λb ps e=>?_⟩,?_,λx c e=>?_,?_,λx c e=>?_,λp hp=>?_,hok,I.len⟩
 .exact keep b o (neL b o e) hb (neC b o e hx) (I.base.keep b o e n hb hx) (I.base.free b o e n hx)
 .obtain⟨sl,e1⟩:=I.base.slot b o e n hb hx;obtain⟨sl',e2⟩:=slot b _ (neL b o e) hb (neC b o e hx) e1 (I.base.free b o e n hx);exact⟨sl',e2⟩
 .obtain⟨o',e1⟩:=I.base.there b o e hx;exact free b o' (neC b o e hx) e1 (I.base.free b o e n hx)
 .obtain⟨o',e1⟩:=I.base.there b o e hx;exact there b o' (neC b o e hx) e1
 .obtain⟨m1,e1⟩:=I.base.tbls b ps e;obtain⟨m2,e2⟩:=tbls b _ e1;exact⟨m1++m2,by rw[e2,Array.append_assoc]⟩
 .obtain⟨m,hn,hl⟩:=I.loc;refine⟨m,ns m hn,λi x v e1 e2 e3=>?_⟩;obtain⟨u,r,l⟩:=hl i x v e1 e2 e3;refine⟨u,r,?_⟩;rcases l with l|⟨k,c,e,z⟩
  .exact .inl l
  .exact .inr ⟨k,c,e,cellK x c e _ z⟩
 .obtain⟨v,z⟩:=I.cell x c e;exact⟨v,cellK x c e v z⟩
 .obtain⟨m,⟨o,_,_,ho,_⟩,_⟩:=I.loc;exact free _ o (λz=>(hch _ z).2.1 rfl) ho I.free
 .obtain⟨v,o,ho,hd⟩:=I.cell x c e;exact free c o (λz=>(hch c z).2.2.1 x c e rfl) ho (I.freeC x c e)
 .obtain⟨e,n,ne,nf,d⟩:=I.pin p hp;have nch:p.1∉ch:=λz=>(hch p.1 z).2.2.2 p hp rfl;exact⟨keep p.1 p.2 ne nf nch e n,free p.1 p.2 nch e n,ne,nf,d⟩
theorem aH.un{t':Nat}(I:aH X pins σ H s)(u:Un X.fs [] H H' s.heap h')(hok:j9 X.prog X.w H' h'):aH X pins σ H' { s with heap:=h',toks:=t' }:=by
 obtain⟨m,⟨o,es,ep,ho,r⟩,_⟩:=id I.loc;obtain⟨sl,hL⟩:=u.any ho I.free (by simp)
 exact I.step (g':=s.gens) (d':=s.drawn) (ch:=[]) (λ_ z=>nomatch z) (λb o _ hb _ e n=>u.keep b o e n hb (by simp)) (λb o _ hb _ e n=>u.slot b o e n hb (by simp)) (λb o _ e n=>u.free b o e n (by simp)) (λb o _ e=>u.there b o e (by simp)) u.tups u.frzs u.tbls (λm' hm=>by
  obtain⟨o',es',ep',ho',r'⟩:=hm;rw[ho] at ho';cases ho';exact⟨_,es',ep',hL,r'⟩) hok I.bare
theorem aH.call{g':Array GenState}{t':Nat}{d':Drawn}{ch:List Addr}(I:aH X pins σ H s)(u:Un (iW X.stack) ch H H' s.heap h')(hok:j9 X.prog X.w H' h')(hg:AllBare g')
  (hch:∀b∈ch,(b∈X.ex\/X.s₀.heap.objs.size<=b)/\b≠X.env.locals/\(∀x c,X.env.cells.lookup x=some c->c≠b) /\ ∀p∈X.pn++pins,p.1≠b) :
  aH X pins σ H' { s with heap:=h',gens:=g',drawn:=d',toks:=t' }:=by
 obtain⟨m,⟨o,es,ep,ho,r⟩,_⟩:=id I.loc;obtain⟨sl,hL⟩:=u.any ho I.free λz=>(hch _ z).2.1 rfl;exact I.step (ch:=ch) hch (λb o hL hb hc e n=>u.keep b o e n (λz=>(Yh.mp (I.stkSub b z)).elim hL hb) hc) (λb o _ _ hc e n=>u.any e n hc) (λb o hc e n=>u.free b o e n hc) (λb o hc e=>u.there b o e hc) u.tups u.frzs u.tbls (λm' hm=>by
  obtain⟨o',es',ep',ho',r'⟩:=hm;rw[ho] at ho';cases ho';exact⟨_,es',ep',hL,r'⟩) hok hg
theorem aH.turned{t':Nat}{it:Addr}(I:aH X pins σ H s)(k:∀b o,b≠it->s.heap.get? b=some o->h'.get? b=some o)(hn:H it=none)(hL:it≠X.env.locals)
  (h1:it∈X.ex\/X.s₀.heap.objs.size<=it)(h2:∀x c,X.env.cells.lookup x=some c->c≠it)(h3:∀p∈X.pn++pins,p.1≠it):aH X pins σ H { s with heap:=h',toks:=t' }:=by
 have nit:∀b u,H b=some u->b≠it:=λb u e z=>by rw[z,hn] at e;cases e
 refine I.step (g':=s.gens) (d':=s.drawn) (ch:=[it]) (λb hb=>?_) (λb o _ _ hc e _=>k b o (λz=>hc (by simp[z])) e) (λb o _ _ hc e _=>⟨o.slots,k b o (λz=>hc (by simp[z])) e⟩) (λ_ _ _ _ n=>n)
  (λb o hc e=>⟨o,k b o (λz=>hc (by simp[z])) e⟩) (λ_ _ e=>e) (λ_ _ _ e=>e) (λb ps e=>⟨#[],by rw[e];simp⟩) (λm hm=>?_) (λb u e=>?_) I.bare
 .have e:b=it:=by simpa using hb
  subst e;exact⟨h1,hL,h2,h3⟩
 .obtain⟨o,es,ep,ho,r⟩:=hm;exact⟨o,es,ep,k _ o (Ne.symm hL) ho,r⟩
 .refine (I.hok b u e).stay (λc v hc q=>k c v ?_ q) (λ_ q=>q) λ_ _ q=>q;rcases hc with z|z
  .rw[z];exact nit b u e
  .exact nit c _ z
theorem aH.tok(I:aH X pins σ H s)(t:Nat):aH X pins σ H { s with toks:=t }:=I.un (h':=s.heap) (t':=t) Un.refl I.hok
theorem aH.kept{t':Nat}(I:aH X pins σ H s)(k:∀b u,s.heap.get? b=some u->h'.get? b=some u):aH X pins σ H { s with heap:=h',toks:=t' }:=I.un (Un.kept k) (I.hok.kept k)
theorem aH.laid{a:Addr}{o:HO}{t':Nat}(I:aH X pins σ H s)(k:∀b u,s.heap.get? b=some u->h'.get? b=some u)(hp:s.heap.objs.size<=a)(new:cO X.prog X.w (upd H a o) h' a o) :
  aH X pins σ (upd H a o) { s with heap:=h',toks:=t' }:=I.un (Un.laid k hp (I.hok.fresh hp)) (I.hok.laid k hp new)
theorem aH.write{x e:Addr}{o:HO}{t':Nat}(I:aH X pins σ H s)(mu:JR (H x))(he:e=x\/H e=some (.own x))(k:∀b u,b≠e->s.heap.get? b=some u->h'.get? b=some u)(heo:∃u,h'.get? e=some u)
  (new:cO X.prog X.w (upd H x o) h' x o):aH X pins σ (upd H x o) { s with heap:=h',toks:=t' }:=I.un (Un.write mu he k heo) (I.hok.write mu he k heo new)
theorem aH.pins_of{pins':List (Addr×Obj)}(I:aH X pins σ H s)(h:∀p∈pins',s.heap.get? p.1=some p.2/\H p.1=none/\p.1≠X.env.locals/\p.1∉X.fs /\ ∀v,p.2.data ≠ .cell v):aH X pins' σ H s :=
 ⟨I.ok,I.os,I.bare,I.base,I.loc,I.cell,I.free,I.freeC,λp hp=>(YK.mp hp).elim (λz=>I.pin p (XZ _ z)) (h p),I.hok,I.len⟩
theorem ub{N:List Str}(hN:N.Nodup) {i j:Nat}{x:Str}(a:N[i]? = some x)(b:N[j]? = some x):i=j:=by
 obtain⟨h1,e1⟩:=Ys.mp a;obtain⟨h2,e2⟩:=Ys.mp b;exact (List.getElem_inj hN).mp (e1.trans e2.symm)
theorem rM{M:Model}{A:Around}{E:Value->Shared->Prop}{i:Nat}{x:Str}{v:V}{u:Value}{Q:Unit->Shared->Prop}(I:aH X pins σ H s)(hN:X.N.Nodup)(hi:X.N[i]? = some x)(hx:Dt X.env.scope x)(r:bK v u)
  (h:∀s',aH X pins (σ.set i (some v)) H s'->(∃a,Heap.SameBut a s.heap s'.heap/\(a=X.env.locals\/X.env.cells.lookup x=some a))->Q PUnit.unit s')(hf:X.fn x=true\/X.env.scope.names.lookup x=some .local:=by first|exact .inl rfl|exact .inr rfl|assumption):wpAny M A (storeName X.env x u) Q E s:=by
 obtain⟨m,hn,hl⟩:=id I.loc;have hcls:(X.env.scope.kind == .class || (X.env.scope.kind == .module && X.env.locals != X.env.globals))=false:=by rw[I.ok.kind];rfl
 have hiσ:i<σ.length:=by rw[I.len];exact (Ys.mp hi).1
 have cne:=I.cne;have tracked:∀{a:Addr}{h':Heap},(∃o,s.heap.get? a=some o/\H a=none)->Heap.SameBut a s.heap h'->j9 X.prog X.w H h':=λ{a h'} ha hs b ob e=>by
  obtain⟨_,_,hfree⟩:=ha;refine (I.hok b ob e).stay (λc w' hc q=>(hs.2 c ?_).trans q) (λ_ q=>q) λ_ _ q=>q;rintro rfl;rcases hc with rfl|hc
  .rw[hfree] at e;cases e
  .rw[hfree] at hc;cases hc
 rcases hx with hk|hk
 .refine wpAny_storeName_local hk hn (λh' hn' hs=>?_) hcls;obtain⟨oL,_,_,hoL,_⟩:=id hn;refine h _ ⟨I.ok,I.os,I.bare,⟨λb o e n hb hx=>?_,λb o e n hb hx=>?_,I.base.free,λb o e hx=>?_,I.base.tups,I.base.frzs,I.base.tbls⟩,⟨_,hn',λj y v' e1 e2 e3=>?_⟩,λy c e=>?_,I.free,I.freeC,λp hp=>?_,tracked ⟨oL,hoL,I.free⟩ hs,by simpa using I.len⟩ ⟨_,hs,.inl rfl⟩
  .exact (hs.2 b (YY (Yr (Heap.lt_size e) I.ok.above))).trans (I.base.keep b o e n hb hx)
  .obtain⟨sl,e1⟩:=I.base.slot b o e n hb hx;exact⟨sl,(hs.2 b (YY (Yr (Heap.lt_size e) I.ok.above))).trans e1⟩
  .obtain⟨o',e1⟩:=I.base.there b o e hx;exact⟨o',(hs.2 b (YY (Yr (Heap.lt_size e) I.ok.above))).trans e1⟩
  .by_cases hj:j=i
   .subst hj;rw[hi] at e1;cases e1;rw[XI hiσ] at e2;cases e2;exact⟨u,r,.inl ⟨hk,by simp⟩⟩
   .rw[XW (Ne.symm hj)] at e2;obtain⟨u',r',q⟩:=hl j y v' e1 e2 e3;refine⟨u',r',?_⟩;rcases q with ⟨k,e⟩|⟨k,c,e,z⟩
    .refine .inl ⟨k,?_⟩;have:y≠x:=λe=>hj (ub hN e1 (e▸hi));simp[this,e]
    .exact .inr ⟨k,c,e,z.sameBut hs (cne y c e)⟩
  .obtain⟨w',z⟩:=I.cell y c e;exact⟨w',z.sameBut hs (cne y c e)⟩
  .obtain⟨e,n,ne,nf,d⟩:=I.pin p hp;exact⟨(hs.2 p.1 ne).trans e,n,ne,nf,d⟩
 .have hfn:X.fn x=true:=by
   rcases hf with z|z
   .exact z
   .rw[z] at hk;cases hk
  obtain⟨c,hc⟩:=I.ok.has x (.inl hk);obtain⟨w',z⟩:=I.cell x c hc;refine wpAny_storeName_cell I.ok.kind hk hc z (λh' hc' hs=>?_);obtain⟨oc,hoc,hocd⟩:=id z;refine h { s with heap:=h' } ⟨I.ok,I.os,I.bare,⟨λb o e n hb hx=>?_,λb o e n hb hx=>?_,I.base.free,λb o e hx=>?_,I.base.tups,I.base.frzs,I.base.tbls⟩,⟨m,hn.sameBut hs (Ne.symm (cne x c hc)),λj y v' e1 e2 e3=>?_⟩,λy c' e=>?_,I.free,I.freeC,λp hp=>?_,tracked ⟨oc,hoc,I.freeC x c hc⟩ hs,by simpa using I.len⟩ ⟨c,hs,.inr hc⟩
  .exact (hs.2 b (YY (Yr (Heap.lt_size e) (I.ok.cab x c hfn hc)))).trans (I.base.keep b o e n hb hx)
  .obtain⟨sl,e1⟩:=I.base.slot b o e n hb hx;exact⟨sl,(hs.2 b (YY (Yr (Heap.lt_size e) (I.ok.cab x c hfn hc)))).trans e1⟩
  .obtain⟨o',e1⟩:=I.base.there b o e hx;exact⟨o',(hs.2 b (YY (Yr (Heap.lt_size e) (I.ok.cab x c hfn hc)))).trans e1⟩
  .by_cases hj:j=i
   .subst hj;rw[hi] at e1;cases e1;rw[XI hiσ] at e2;cases e2;exact⟨u,r,.inr ⟨.inl hk,c,hc,hc'⟩⟩
   .rw[XW (Ne.symm hj)] at e2;obtain⟨u',r',q⟩:=hl j y v' e1 e2 e3;refine⟨u',r',?_⟩;rcases q with q|⟨k,c',e,z'⟩
    .exact .inl q
    .refine .inr ⟨k,c',e,z'.sameBut hs ?_⟩;rintro rfl;exact hj (ub hN e1 (I.ok.inj _ _ _ e hc▸hi))
  .by_cases hcc:c'=c
   .subst hcc;exact⟨_,hc'⟩
   .obtain⟨w2,z2⟩:=I.cell y c' e;exact⟨w2,z2.sameBut hs hcc⟩
  .obtain⟨e,n,ne,nf,d⟩:=I.pin p hp;refine⟨(hs.2 p.1 ?_).trans e,n,ne,nf,d⟩;intro q;rw[q,hoc] at e;have q':oc=p.2:=Xb e;exact d w' (by rw[<-q'];exact hocd)
theorem i4{M:Model}{A:Around}{E:Value->Shared->Prop}{i:Nat}{x:Str}{v:V}{u:Value}{Q:Unit->Shared->Prop}(I:aH X pins σ H s)(hN:X.N.Nodup)(hi:X.N[i]? = some x)(hx:Dt X.env.scope x)(r:bK v u)
  (h:∀s',aH X pins (σ.set i (some v)) H s'->Q PUnit.unit s')(hf:X.fn x=true\/X.env.scope.names.lookup x=some .local:=by first|exact .inl rfl|exact .inr rfl|assumption):wpAny M A (storeName X.env x u) Q E s :=
 rM I hN hi hx r (λs' I' _=>h s' I') hf
theorem aH.call'{s':Shared}{ch:List Addr}(I:aH X pins σ H s)(ho:s'.os=s.os)(u:Un (iW X.stack) ch H H' s.heap s'.heap)(hok:j9 X.prog X.w H' s'.heap)(hg:AllBare s'.gens)
  (hch:∀b∈ch,(b∈X.ex\/X.s₀.heap.objs.size<=b)/\b≠X.env.locals/\(∀x c,X.env.cells.lookup x=some c->c≠b) /\ ∀p∈X.pn++pins,p.1≠b):aH X pins σ H' s':=by
 obtain⟨h',g',d',t',o'⟩:=s';have e:o'=s.os:=ho;subst e;exact I.call (g':=g') (t':=t') (d':=d') u hok hg hch
end
abbrev XK:=Value->Option Addr->Hp->Prop
abbrev St:=List (Option V)
abbrev VK:=V->Hp->Prop
abbrev TE:=St->Hp->VK->Prop
abbrev TT:=St->Hp->(Bool->Hp->Prop)->Prop
abbrev TA:=St->Hp->(List V->Hp->Prop)->Prop
structure oB where
 nx:St->Hp->Prop
 rt:VK
 bk:St->Hp->Prop:=λ_ _=>False
 ct:St->Hp->Prop:=λ_ _=>False
abbrev TS:=oB->St->Hp->Prop
def EP(X:Cx)(pins:List (Addr×Obj))(σ:St)(Q:VK)(u:Value)(s':Shared):Prop:=∃v H',aH X pins σ H' s'/\bK v u/\Q v H'
def TP(X:Cx)(pins:List (Addr×Obj))(σ:St)(Q:Bool->Hp->Prop)(b:Bool)(s':Shared):Prop:=∃H',aH X pins σ H' s'/\Q b H'
def AP(X:Cx)(pins:List (Addr×Obj))(σ:St)(Q:List V->Hp->Prop)(us:List Value)(s':Shared):Prop:=∃vs H',aH X pins σ H' s'/\aX vs us/\Q vs H'
def SP(X:Cx)(pins:List (Addr×Obj))(D:oB)(f:Flow)(s':Shared):Prop :=
 match f with
 | .next=>∃σ' H',aH X pins σ' H' s'/\D.nx σ' H'
 | .brk=>∃σ' H',aH X pins σ' H' s'/\D.bk σ' H'
 | .cont=>∃σ' H',aH X pins σ' H' s'/\D.ct σ' H'
 | .ret u=>∃v σ' H',aH X pins σ' H' s'/\bK v u/\D.rt v H'
def PE(X:Cx)(e:Expr)(t:TE):Prop :=
 ∀(pins:List (Addr×Obj))(s:Shared)(σ:St)(H:Hp)(Q:VK),aH X pins σ H s->t σ H Q->wpAny (model X.prog X.w) X.A (eval e X.env) (EP X pins σ Q) X.xe s
def PT(X:Cx)(e:Expr)(t:TT):Prop :=
 ∀(pins:List (Addr×Obj))(s:Shared)(σ:St)(H:Hp)(Q:Bool->Hp->Prop),aH X pins σ H s->t σ H Q->wpAny (model X.prog X.w) X.A (isTrue e X.env (eval e X.env)) (TP X pins σ Q) X.xe s
def PW(X:Cx)(e:Expr)(t:TT):Prop :=
 ∀(whole:Sem Value)(pins:List (Addr×Obj))(s:Shared)(σ:St)(H:Hp)(Q:Bool->Hp->Prop),aH X pins σ H s->t σ H Q->wpAny (model X.prog X.w) X.A (isTrue e X.env whole) (TP X pins σ Q) X.xe s
theorem PW.pt{X:Cx}{e:Expr}{t:TT}(h:PW X e t):PT X e t:=h _
def PA(X:Cx)(es:List Expr)(t:TA):Prop :=
 ∀(pos:Pos)(pins:List (Addr×Obj))(s:Shared)(σ:St)(H:Hp)(Q:List V->Hp->Prop),aH X pins σ H s->t σ H Q->wpAny (model X.prog X.w) X.A (spliced (backTo pos (starEach es X.env))) (AP X pins σ Q) X.xe s
def PS(X:Cx)(st:Stmt)(t:TS):Prop :=
 ∀(pins:List (Addr×Obj))(s:Shared)(σ:St)(H:Hp)(D:oB),aH X pins σ H s->t D σ H->wpAny (model X.prog X.w) X.A (exec st X.env) (SP X pins D) X.xe s
def sR(X:Cx)(st:List Stmt)(t:TS):Prop :=
 ∀(pins:List (Addr×Obj))(s:Shared)(σ:St)(H:Hp)(D:oB),aH X pins σ H s->t D σ H->wpAny (model X.prog X.w) X.A (execs st X.env) (SP X pins D) X.xe s
theorem dq{α:Type}{t:Sem α}{Q Q':α->Shared->Prop}{M:Model}{A:Around}{E:Value->Shared->Prop}{s:Shared}(h:wpAny M A t Q E s)(hQ:∀a s,Q a s->Q' a s):wpAny M A t Q' E s:=wpAny_mono h hQ λ_ _ x=>x
section
variable {X:Cx}
def DX(i:Nat):TE:=λσ H Q=>∃v,σ[i]? = some (some v)/\Q v H
def tC(v:V):TE:=λ_ H Q=>Q v H
theorem BB{i:Nat}{x:Str}{pos:Pos}(hN:X.N[i]? = some x)(hv:GR X.env.scope x)(hd:(x==("__debug__" : Str))=false:=by decide) (hcd:(x==("__classdict__" : Str))=false:=by decide):PE X (.Name x pos) (DX i):=by
 intro pins s σ H Q I h;obtain⟨v,e,h⟩:=h;obtain⟨m,hn,hl⟩:=I.loc;obtain⟨u,r,l⟩:=hl i x v hN e hv;have fin:EP X pins σ Q u s:=⟨v,H,I,r,h⟩;rcases l with ⟨hk,hm⟩|⟨hk,c,hc,hcell⟩
 .exact wpAny_Name (wpAny_loadName_local I.ok.kind hk hn hm fin) hd
 .rcases hk with hk|hk
  .exact wpAny_Name (wpAny_loadName_cell I.ok.kind hk hc hcell fin) hd
  .exact wpAny_Name (wpAny_loadName_free I.ok.kind hk hc hcell fin hcd) hd
theorem HC {i j pos}:PE X (.Constant (.int i) j pos) (tC (.int i)):=λ_ _ _ H _ I h=>wpAny_Constant_int ⟨.int i,H,I.tok _,⟨_,rfl⟩,h⟩
theorem Jt {b j pos}:PE X (.Constant (.bool b) j pos) (tC (.bl b)):=λ_ _ _ H _ I h=>Constant_bool ⟨.bl b,H,I,rfl,h⟩
theorem GO {j pos}:PE X (.Constant .none j pos) (tC .non):=λ_ _ _ H _ I h=>Constant_none ⟨.non,H,I,rfl,h⟩
theorem Iu {x j pos}:PE X (.Constant (.str x) j pos) (tC (.str x)):=λ_ _ _ H _ I h=>Calls.Constant_str ⟨.str x,H,I.tok _,⟨_,rfl⟩,h⟩
def Gl(X:Cx)(x:Str):Prop:=X.env.kindOf x=some .globalImplicit
theorem jY{E:Value->Shared->Prop}{pins:List (Addr×Obj)}{s:Shared}{σ:St}{H:Hp}{x:Str}{u:Value}{pos:Pos}{Q:Value->Shared->Prop}(I:aH X pins σ H s)(hg:Gl X x)(hm:X.mg x=some u)(h:Q u s)
  (hd:(x==("__debug__" : Str))=false:=by decide):wpAny (model X.prog X.w) X.A (eval (.Name x pos) X.env) Q E s :=
 Calls.Name_function_global I.ok.kind hg (Calls.loadGlobal_global (by rw[I.ok.glob];exact I.mod.glob.keeps I.bk) hm h) hd
theorem jB{E:Value->Shared->Prop}{pins:List (Addr×Obj)}{s:Shared}{σ:St}{H:Hp}{x:Str}{u:Value}{pos:Pos}{Q:Value->Shared->Prop}(I:aH X pins σ H s)(hg:Gl X x)(hm:X.mg x=none)(hv:bootBuiltins x=some u)(h:Q u s)
  (hn:x ≠ "__name__":=by decide) (hd:(x==("__debug__" : Str))=false:=by decide):wpAny (model X.prog X.w) X.A (eval (.Name x pos) X.env) Q E s:=by
 obtain⟨mb,h1,h2⟩:=I.mod.blt;exact Calls.Name_function_global I.ok.kind hg (Calls.loadGlobal_builtin (by rw[I.ok.glob];exact I.mod.glob.keeps I.bk) hm (by rw[I.ok.blt];exact h1.keeps I.bk) ((h2 x hn).trans hv) h) hd
theorem DH{x:Str}{v:V}{u:Value}{pos:Pos}(hg:Gl X x)(hm:X.mg x=some u)(r:bK v u)(hd:(x==("__debug__" : Str))=false:=by decide):PE X (.Name x pos) (tC v) :=
 λ_ _ _ H _ I h=>jY I hg hm ⟨v,H,I,r,h⟩ hd
theorem Fo{x:Str}{v:V}{u:Value}{pos:Pos}(hg:Gl X x)(hm:X.mg x=none)(hv:bootBuiltins x=some u)(r:bK v u)(hn:x ≠ "__name__":=by decide) (hd:(x==("__debug__" : Str))=false:=by decide):PE X (.Name x pos) (tC v) :=
 λ_ _ _ H _ I h=>jB I hg hm hv ⟨v,H,I,r,h⟩ hn hd
variable {a b:Expr}{ta tb:TE}{pos:Pos}
def tB(t:TE):TT:=λσ H Q=>t σ H λx H1=>∃c,x=.bl c/\Q c H1
theorem IB{e:Expr}{t:TE}(h:PE X e t)(he:∀whole,isTrue e X.env whole=(do let v <-whole;standAt e.pos;holding [v] (truthy v)):=by intro _;rfl):PT X e (tB t):=by
 intro pins s σ H Q I hw;refine isTrue_plain (dq (h pins s σ H _ I hw) λv s1 ⟨x,H1,I1,r1,q1⟩=>?_) (he _);obtain⟨d,rfl,q⟩:=q1;cases r1;exact wpAny_truthy_bool ⟨H1,I1,q⟩
variable {tA tB':TT}{rest:List Expr}
def GN(t u:TT):TT:=λσ H Q=>t σ H λc H1=>if c=true then u σ H1 Q else Q false H1
def KL(t u:TT):TT:=λσ H Q=>t σ H λc H1=>if c=true then Q true H1 else u σ H1 Q
def Jb(t:TT):TT:=λσ H Q=>t σ H λc H1=>Q (!c) H1
theorem ES(ha:PT X a tA):PW X (.BoolOp .And [a] pos) tA:=by
 intro wh pins s σ H Q I h;refine isTrue_and (dq (ha pins s σ H Q I h) λc s1 e=>?_);cases c with
 | true=>exact isTrue_and_nil e
 | false=>exact e
theorem IM(ha:PT X a tA):PW X (.BoolOp .Or [a] pos) tA:=by
 intro wh pins s σ H Q I h;refine isTrue_or (dq (ha pins s σ H Q I h) λc s1 e=>?_);cases c with
 | false=>exact isTrue_or_nil e
 | true=>exact e
theorem HG(ha:PT X a tA)(hb:PW X (.BoolOp .And (b::rest) pos) tB'):PW X (.BoolOp .And (a::b::rest) pos) (GN tA tB'):=by
 intro wh pins s σ H Q I h;refine isTrue_and (dq (ha pins s σ H _ I h) λc s1 ⟨H1,I1,q1⟩=>?_);cases c with
 | true=>exact hb wh pins s1 σ H1 Q I1 q1
 | false=>exact⟨H1,I1,q1⟩
theorem J6(ha:PT X a tA)(hb:PW X (.BoolOp .Or (b::rest) pos) tB'):PW X (.BoolOp .Or (a::b::rest) pos) (KL tA tB'):=by
 intro wh pins s σ H Q I h;refine isTrue_or (dq (ha pins s σ H _ I h) λc s1 ⟨H1,I1,q1⟩=>?_);cases c with
 | true=>exact⟨H1,I1,q1⟩
 | false=>exact hb wh pins s1 σ H1 Q I1 q1
theorem GX(ha:PT X a tA):PT X (.UnaryOp .Not a pos) (Jb tA):=by
 intro pins s σ H Q I h;exact isTrue_not (ha pins s σ H (λc H1=>Q (!c) H1) I h)
def Gj(ta tb:TE):TE:=λσ H Q=>ta σ H λx H1=>∃c,x=.bl c/\if c=true then tb σ H1 Q else Q (.bl false) H1
def Ke(ta tb:TE):TE:=λσ H Q=>ta σ H λx H1=>∃c,x=.bl c/\if c=true then Q (.bl true) H1 else tb σ H1 Q
def Gf(ta:TE):TE:=λσ H Q=>ta σ H λx H1=>∃c,x=.bl c/\Q (.bl (!c)) H1
def K1(t:TT)(ta tb:TE):TE:=λσ H Q=>t σ H λc H1=>if c=true then ta σ H1 Q else tb σ H1 Q
theorem BP{c:Expr}(hc:PT X c tA)(ha:PE X a ta)(hb:PE X b tb):PE X (.IfExp c a b pos) (K1 tA ta tb):=by
 intro pins s σ H Q I h;refine wpAny_IfExp (dq (hc pins s σ H _ I h) λd s1 ⟨H1,I1,q1⟩=>?_);cases d with
 | true=>exact ha pins s1 σ H1 Q I1 q1
 | false=>exact hb pins s1 σ H1 Q I1 q1
end
def jz(K:W.Frag)(H:Hp)(a:Addr)(xs:List V):Prop :=
 Rd H a (.lst xs) \/
  ∃(o:Obj)(its:Array Value)(n:Nat),K.lookup a=some o/\o.cls=.type "list" /\ o.dict=none/\o.data=.seq its n/\its.size<=sizeLine/\aX xs its.toList
def wB(K:W.Frag)(H:Hp)(a:Addr)(xs:List V):Prop :=
 Rd H a (.tup xs) \/
  ∃(o:Obj)(its:Array Value)(n:Nat),K.lookup a=some o/\o.cls=.type "tuple" /\ o.data=.seq its n/\its.size<=sizeLine/\aX xs its.toList
def Jn:Value->Option V
 | .none=>some .non
 | .bool b=>some (.bl b)
 | .int i _=>some (.int i)
 | .str x _=>some (.str x)
 | .bytes b _=>some (.byt b)
 | .float b _=>some (.flt b)
 | .ref a=>some (.ref a)
 | .type n=>some (.ty n)
 | _=>none
theorem bK.abs{x:V}{u:Value}(r:bK x u):Jn u=some x:=by
 cases x with
 | non=>cases r;rfl
 | bl _=>cases r;rfl
 | int _=>obtain⟨t,rfl⟩:=r;rfl
 | str _=>obtain⟨t,rfl⟩:=r;rfl
 | byt _=>obtain⟨t,rfl⟩:=r;rfl
 | flt _=>obtain⟨t,rfl⟩:=r;rfl
 | ref _=>cases r;rfl
 | ty _=>cases r;rfl
theorem bK.inj{x y:V}{u:Value}(r:bK x u)(q:bK y u):x=y:=Xb (r.abs.symm.trans q.abs)
theorem aX.inj:∀{xs ys:List V}{us:List Value},aX xs us->aX ys us->xs=ys
 | _,_,_,.nil,.nil=>rfl
 | _,_,_,.cons r t,.cons r' t'=>by rw[r.inj r',aX.inj t t']
section
variable {X:Cx}{pins:List (Addr×Obj)}{σ:St}{H:Hp}{s:Shared}{a:Addr}{xs ys:List V}
theorem jz.of{K:W.Frag}(h:H a=some (.lst xs)):jz K H a xs:=.inl (.inl h)
theorem wB.of{K:W.Frag}(h:H a=some (.tup xs)):wB K H a xs:=.inl (.inl h)
theorem aH.list(I:aH X pins σ H s)(h:jz X.K H a xs):∃its:List Value,aX xs its/\PlainL s.heap a its.toArray/\xs.length<=sizeLine:=by
 rcases h with h|⟨o,its,n,hk,hc,hd,hs,hz,r⟩
 .obtain⟨z,its,n,r,e⟩:=h.ok I.hok;exact⟨its,r,⟨_,n,e,rfl,rfl,rfl⟩,z⟩
 .refine⟨its.toList,r,⟨o,n,I.kIn a o hk,hc,hd,by simpa using hs⟩,?_⟩
  have e:=r.length;simp only[Array.length_toList] at e;nofun
theorem aH.tuple(I:aH X pins σ H s)(h:wB X.K H a xs):∃its:List Value,aX xs its/\IsTup s.heap a its.toArray/\xs.length<=sizeLine:=by
 rcases h with h|⟨o,its,n,hk,hc,hs,hz,r⟩
 .obtain⟨z,its,r,p⟩:=h.ok I.hok;exact⟨its,r,p,z⟩
 .refine⟨its.toList,r,⟨o,I.kIn a o hk,hc,n,by simpa using hs⟩,?_⟩
  have e:=r.length;simp only[Array.length_toList] at e;nofun
theorem aH.list_inj(I:aH X pins σ H s)(h:jz X.K H a xs)(h':jz X.K H a ys):xs=ys:=by
 obtain⟨its,r,⟨o,n,e,_,_,d⟩,_⟩:=I.list h;obtain⟨its',r',⟨o',n',e',_,_,d'⟩,_⟩:=I.list h';rw[e] at e';cases e';rw[d] at d';injection d' with d1 _
 have:its=its':=by simpa using X7 Array.toList d1
 subst this;exact r.inj r'
end
abbrev Cx.wish (X:Cx)(E:Value->Shared->Prop):Cx:={ X with xe:=E }
abbrev Cx.nox (X:Cx):Cx:=X.wish λ_ _=>False
theorem Cx.Ok.wish{X:Cx}(ok:X.Ok)(E:Value->Shared->Prop):(X.wish E).Ok :=
 ⟨ok.mod,ok.kind,ok.glob,ok.blt,ok.above,ok.inj,ok.has,ok.cab,ok.hd,ok.frames,ok.stk,ok.exf,ok.bs,ok.bsz,ok.noex,ok.exfs,ok.funs,ok.frf⟩
theorem Cx.Ok.unwish{X:Cx}{E:Value->Shared->Prop}(ok:(X.wish E).Ok):X.Ok :=
 ⟨ok.mod,ok.kind,ok.glob,ok.blt,ok.above,ok.inj,ok.has,ok.cab,ok.hd,ok.frames,ok.stk,ok.exf,ok.bs,ok.bsz,ok.noex,ok.exfs,ok.funs,ok.frf⟩
section
variable {X:Cx}{pins:List (Addr×Obj)}{σ:St}{H:Hp}{s:Shared}{E:Value->Shared->Prop}
theorem aH.wish(I:aH X pins σ H s)(E:Value->Shared->Prop):aH (X.wish E) pins σ H s:=⟨I.ok.wish E,I.os,I.bare,I.base,I.loc,I.cell,I.free,I.freeC,I.pin,I.hok,I.len⟩
theorem aH.unwish(I:aH (X.wish E) pins σ H s):aH X pins σ H s:=⟨I.ok.unwish,I.os,I.bare,I.base,I.loc,I.cell,I.free,I.freeC,I.pin,I.hok,I.len⟩
theorem SP.unwish{D:oB}{f:Flow}{s':Shared}(h:SP (X.wish E) pins D f s'):SP X pins D f s':=by
 cases f with
 | next=>obtain⟨σ',H',I,q⟩:=h;exact⟨σ',H',I.unwish,q⟩
 | brk=>obtain⟨σ',H',I,q⟩:=h;exact⟨σ',H',I.unwish,q⟩
 | cont=>obtain⟨σ',H',I,q⟩:=h;exact⟨σ',H',I.unwish,q⟩
 | ret u=>obtain⟨v,σ',H',I,r,q⟩:=h;exact⟨v,σ',H',I.unwish,r,q⟩
theorem sR.nox{st:List Stmt}{t:TS}(h:sR X.nox st t):sR X st t:=λpins s σ H D I hw =>
 wpAny_mono (h pins s σ H D (I.wish _) hw) (λ_ _ q=>q.unwish) λ_ _ z=>False.elim z
end
section
variable {X:Cx}{st:Stmt}{rest:List Stmt}{t u:TS}{e:Expr}{te:TE}{pos:Pos}
def CK:TS:=λD σ H=>D.nx σ H
def aT(t u:TS):TS:=λD σ H=>t { D with nx:=u D } σ H
theorem EF:sR X [] CK:=λ_ _ σ H _ I h=>wpAny_execs_nil ⟨σ,H,I,h⟩
theorem CD(h1:PS X st t)(h2:sR X rest u):sR X (st::rest) (aT t u):=by
 intro pins s σ H D I h;refine wpAny_execs_cons (dq (h1 pins s σ H { D with nx:=u D } I h) λf s1 q=>?_)
 cases f with
 | next =>
  obtain⟨σ',H',I',q⟩:=q;exact h2 pins s1 σ' H' D I' q
 | ret v=>exact q
 | brk=>exact q
 | cont=>exact q
theorem Fp(h1:PS X st t):sR X [st] t:=by
 intro pins s σ H D I h;refine wpAny_execs_cons (dq (h1 pins s σ H D I h) λf s1 q=>?_);cases f with
 | next=>exact wpAny_execs_nil q
 | ret v=>exact q
 | brk=>exact q
 | cont=>exact q
theorem aH.quiet{pins:List (Addr×Obj)}{σ:St}{H:Hp}{s:Shared}(I:aH X pins σ H s):interactive X.env=false:=by simp[interactive,I.ok.kind]
def CG(te:TE):TS:=λD σ H=>te σ H λ_ H1=>D.nx σ H1
theorem Ef(he:PE X e te)(hs:swapsWith e none pos.line X.env=pure false:=by rfl):PS X (.Expr e pos) (CG te):=by
 intro pins s σ H D I h;exact wpAny_Expr_any (dq (he pins s σ H _ I h) λv s1 ⟨x,H1,I1,r1,q1⟩=>⟨σ,H1,I1,q1⟩) I.quiet hs
def Ir(te:TE):TS:=λD σ H=>te σ H D.rt
theorem Gx(he:PE X e te):PS X (.Return (some e) pos) (Ir te):=by
 intro pins s σ H D I h;exact wpAny_Return_some (dq (he pins s σ H _ I h) λv s1 ⟨x,H1,I1,r1,q1⟩=>⟨x,σ,H1,I1,r1,q1⟩)
def Jo:TS:=λD _ H=>D.rt .non H
def Ht(c:TT)(t u:TS):TS:=λD σ H=>c σ H λb H1=>if b=true then t D σ H1 else u D σ H1
theorem JV{c:Expr}{a b:List Stmt}{tc:TT}(hc:PT X c tc)(ha:sR X a t)(hb:sR X b u):PS X (.If c a b pos) (Ht tc t u):=by
 intro pins s σ H D I h;refine wpAny_If (dq (hc pins s σ H _ I h) λd s1 ⟨H1,I1,q1⟩=>?_);cases d with
 | true=>exact ha pins s1 σ H1 D I1 q1
 | false=>exact hb pins s1 σ H1 D I1 q1
def pC:TS:=λ_ _ _=>False
theorem AB:PS X st pC:=λ_ _ _ _ _ _ h=>h.elim
theorem zX{sts:List Stmt}:sR X sts pC:=λ_ _ _ _ _ _ h=>h.elim
end
abbrev TG:=V->St->Hp->(St->Hp->Prop)->Prop
abbrev Ai:=List V->St->Hp->(St->Hp->Prop)->Prop
def PG(X:Cx)(target:Expr)(t:TG):Prop :=
 ∀(pins:List (Addr×Obj))(s:Shared)(σ:St)(H:Hp)(v:V)(u:Value)(Q:St->Hp->Prop),aH X pins σ H s->bK v u->t v σ H Q ->
  wpAny (model X.prog X.w) X.A (assign target X.env u) (λ_ s'=>∃σ' H',aH X pins σ' H' s'/\Q σ' H') X.xe s
def Jd(X:Cx)(ts:List Expr)(t:Ai):Prop :=
 ∀(pins:List (Addr×Obj))(s:Shared)(σ:St)(H:Hp)(vs:List V)(us:List Value)(Q:St->Hp->Prop),aH X pins σ H s->aX vs us->t vs σ H Q ->
  wpAny (model X.prog X.w) X.A (assignInOrder ((assignEach ts X.env).map (·.2)) us) (λ_ s'=>∃σ' H',aH X pins σ' H' s'/\Q σ' H') X.xe s
abbrev vJ:=V->V->V->Hp->(Hp->Prop)->Prop
def yY(X:Cx)(t:vJ):Prop :=
 ∀(pins:List (Addr×Obj))(s:Shared)(σ:St)(H:Hp)(o i v:V)(ov iv u:Value)(Q:Hp->Prop),aH X pins σ H s->bK o ov->bK i iv->bK v u->t o i v H Q ->
  wpAny (model X.prog X.w) X.A (setItem ov iv u) (λ_ s'=>∃H',aH X pins σ H' s'/\Q H') X.xe s
abbrev Ds:=V->V->Hp->VK->Prop
def Gh(X:Cx)(op:Operator)(t:Ds):Prop :=
 ∀(pins:List (Addr×Obj))(s:Shared)(σ:St)(H:Hp)(x y:V)(v u:Value)(Q:VK),aH X pins σ H s->bK x v->bK y u->t x y H Q ->
  wpAny (model X.prog X.w) X.A (inplaceOp op v u) (EP X pins σ Q) X.xe s
section
variable {X:Cx}{pos:Pos}
def jL(i:Nat):TG:=λv σ H Q=>Q (σ.set i (some v)) H
theorem Fm{i:Nat}{x:Str}(hN:X.N.Nodup)(hi:X.N[i]? = some x)(hx:Dt X.env.scope x)(hf:X.fn x=true\/X.env.scope.names.lookup x=some .local:=by first|exact .inl rfl|exact .inr rfl|assumption):PG X (.Name x pos) (jL i):=by
 intro pins s σ H v u Q I r h;exact wpAny_assign_Name (i4 I hN hi hx r (λs' I'=>⟨_,H,I',h⟩) hf)
def AA:Ai:=λvs σ H Q=>vs=[]/\Q σ H
def qF(t:TG)(u:Ai):Ai:=λvs σ H Q=>∃v r,vs=v::r/\t v σ H λσ' H'=>u r σ' H' Q
theorem Fy:Jd X [] AA:=by
 intro pins s σ H vs us Q I r h;obtain⟨e,h⟩:=h;subst e;cases r;exact assignInOrder_nil ⟨σ,H,I,h⟩
theorem A6{e:Expr}{es:List Expr}{t:TG}{u:Ai}(h1:PG X e t)(h2:Jd X es u)
  (hs:(assignEach (e::es) X.env).map (·.2)=assign e X.env::(assignEach es X.env).map (·.2):=by rfl):Jd X (e::es) (qF t u):=by
 intro pins s σ H vs us Q I r h;obtain⟨v,vr,e1,h⟩:=h;subst e1;cases r with
 | cons r rr =>
  rw[hs];refine assignInOrder_cons (dq (h1 pins s σ H _ _ _ I r h) λ_ s1 ⟨σ1,H1,I1,q1⟩=>?_);exact h2 pins s1 σ1 H1 _ _ Q I1 rr q1
def JC(K:W.Frag)(n:Nat)(t:Ai):TG:=λv σ H Q=>∃a xs,v=.ref a/\wB K H a xs/\xs.length=n/\t xs σ H Q
theorem HA{es:List Expr}{k:Nat}{t:Ai}{n:Nat}(hc:X.calm=true)(h:Jd X es t)
  (hn:(assignEach es X.env).length=n:=by rfl)(hst:(assignEach es X.env).findIdx? (·.1)=none:=by rfl):PG X (.Tuple es k pos) (JC X.K n t):=by
 intro pins s σ H v u Q I r hw;obtain⟨a,xs,e1,hq,hl,hw⟩:=hw;subst e1;cases r;obtain⟨its,rv,ht,hz⟩:=I.tuple hq;refine assign_Tuple_tuple (I.ok.hd hc) ht (by simp[hn,<-hl,rv.length]) hst λh' hx=>?_
 have I1:aH X pins σ H { s with heap:=h' }:=I.kept (t':=s.toks) λb o e=>hx b o (YY (Heap.lt_size e)) e
 exact h pins _ σ H xs _ Q I1 (by simpa using rv) hw
def Ik(to ti:TE)(t:vJ):TG:=λv σ H Q=>to σ H λo H1=>ti σ H1 λi H2=>t o i v H2 λH3=>Q σ H3
theorem HH{o i:Expr}{to ti:TE}{t:vJ}(ho:PE X o to)(hi:PE X i ti)(hs:yY X t)
  (ha:∀v,assign (.Subscript o i pos) X.env v=(do
   let ov <-holding [v] (eval o X.env)
   let iv <-holding [v,ov] (eval i X.env)
   standAt pos
   holding [v,ov,iv] (setItem ov iv v)
   release [v,ov,iv] []):=by intro _;rfl):PG X (.Subscript o i pos) (Ik to ti t):=by
 intro pins s σ H v u Q I r h;rw[ha];refine wpAny_bind (wpAny_holding (dq (ho pins s σ H _ I h) λov s1 ⟨x,H1,I1,r1,q1⟩=>?_));refine wpAny_bind (wpAny_holding (dq (hi pins s1 σ H1 _ I1 q1) λiv s2 ⟨y,H2,I2,r2,q2⟩=>?_));refine wpAny_bind (wpAny_standAt (wpAny_bind (wpAny_holding (dq (hs pins s2 σ H2 x y v ov iv u _ I2 r1 r2 r q2) λ_ s3 ⟨H3,I3,q3⟩=>?_))));exact wpAny_release ⟨σ,H3,I3,q3⟩
def wC(te:TE)(g:TG):TS:=λD σ H=>te σ H λx H1=>g x σ H1 D.nx
theorem IA{tg e:Expr}{te:TE}{g:TG}(he:PE X e te)(hg:PG X tg g)(hs:swapsWithSole [tg] e pos.line X.env=pure false:=by rfl)(hw:swappedStores [tg] e X.env=pure none:=by rfl)
  (h1:(assignEach [tg] X.env).map (·.2)=[assign tg X.env]:=by rfl):PS X (.Assign [tg] e pos) (wC te g):=by
 intro pins s σ H D I h;refine wpAny_Assign_stores (dq (he pins s σ H _ I h) λv s1 ⟨x,H1,I1,r1,q1⟩=>?_) hs hw;rw[h1];exact dq (hg pins s1 σ H1 x v _ I1 r1 q1) λ_ s2 q=>q
theorem IX{i:Nat}{x:Str}{e:Expr}{te:TE}{pos':Pos}(hN:X.N.Nodup)(hi:X.N[i]? = some x)(hx:Dt X.env.scope x)(he:PE X e te)(hs:swapsWith e (some (.Name x pos')) pos.line X.env=pure false:=by rfl)(hf:X.fn x=true\/X.env.scope.names.lookup x=some .local:=by first|exact .inl rfl|exact .inr rfl|assumption) :
  PS X (.Assign [.Name x pos'] e pos) (wC te (jL i)):=by
 intro pins s σ H D I h;refine wpAny_Assign_Name (dq (he pins s σ H _ I h) λv s1 ⟨y,H1,I1,r1,q1⟩=>?_) hs;exact i4 I1 hN hi hx r1 (λs2 I2=>⟨_,H1,I2,q1⟩) hf
def Fk(i j:Nat)(ta:TA):TS:=λD σ H=>ta σ H λvs H1=>∃v w,vs=[v,w]/\D.nx ((σ.set i (some v)).set j (some w)) H1
theorem Ic{i j:Nat}{x y:Str}{a b:Expr}{ta:TA}{px py pt:Pos} {kt k2 pt2}(hc:X.calm=true)(hN:X.N.Nodup)(hi:X.N[i]? = some x)(hj:X.N[j]? = some y)(hij:i≠j)
  (hx:X.env.scope.names.lookup x=some .local)(hy:X.env.scope.names.lookup y=some .local)(ha:PA X [a,b] ta)
  (hw:swappedStores [.Tuple [.Name x px,.Name y py] kt pt] (.Tuple [a,b] k2 pt2) X.env=pure (some [x,y]))
  (hs:swapsWithSole [.Tuple [.Name x px,.Name y py] kt pt] (.Tuple [a,b] k2 pt2) pos.line X.env=pure false:=by rfl) :
  PS X (.Assign [.Tuple [.Name x px,.Name y py] kt pt] (.Tuple [a,b] k2 pt2) pos) (Fk i j ta):=by
 intro pins s σ H D I h;rw[exec_Assign_arm];refine wpAny_bind (wpAny_standAt ?_);rw[hs];refine wpAny_bind (wpAny_pure ?_);rw[Yc ∅];refine wpAny_bind (Tuple_ (dq (ha _ pins s σ H _ I h) λus s1 ⟨vs,H1,I1,r1,q1⟩=>?_));obtain⟨v,w,e1,q1⟩:=q1;subst e1;obtain⟨u1,u2,rfl,rv,rw'⟩ : ∃u1 u2,us=[u1,u2]/\bK v u1/\bK w u2:=by
  cases r1 with
  | cons p q =>
   cases q with
   | cons p' q' =>
    cases q';exact⟨_,_,rfl,p,p'⟩
 refine wpAny_newObj_type ?_ (by show 2<=sizeLine;decide)
 have I2:aH X pins σ H1 { s1 with heap:=s1.heap.push { cls:=.type "tuple",data:=.seq [u1,u2].toArray } }:=I1.kept (t':=s1.toks) λb o e=>Heap.get?_push_of_some _ e
 rw[hw];refine wpAny_bind (wpAny_pure ?_);show wpAny (model X.prog X.w) X.A (do rule "assign.swapped-stores";let items <-unpackItems (.ref s1.heap.objs.size) 2 none;assignInOrder [λv=>bindName X.env y v,λv=>bindName X.env x v] items.reverse;pure Flow.next) _ _ _
 refine wpAny_bind (wpAny_rule (wpAny_bind (unpackItems_tuple (items:=#[u1,u2]) (I.ok.hd hc) (IsTup.new s1.heap _) λh' hx'=>?_)));have I3:=I2.kept (h':=h') (t':=s1.toks) λb o e=>hx' b o (YY (Heap.lt_size e)) e;show wpAny _ _ (assignInOrder [λv=>bindName X.env y v,λv=>bindName X.env x v] [u2,u1] >>= λ_=>pure Flow.next) _ _ _
 refine wpAny_bind (assignInOrder_cons (wpAny_bindName (i4 I3 hN hj (.inl hy) rw' (λs2 I4=>?_) (.inr hy))));refine assignInOrder_cons (wpAny_bindName (i4 I4 hN hi (.inl hx) rv (λs3 I5=>assignInOrder_nil (wpAny_pure ?_)) (.inr hx)));rw[List.set_comm _ _ (Ne.symm hij)] at I5;exact⟨_,H1,I5,q1⟩
def Gz(i:Nat)(te:TE)(ti:Ds):TS:=λD σ H=>∃x,σ[i]? = some (some x)/\te σ H λy H1=>ti x y H1 λz H2=>D.nx (σ.set i (some z)) H2
theorem HS{i:Nat}{x:Str}{e:Expr}{te:TE}{op:Operator}{ti:Ds}{pos':Pos}(hN:X.N.Nodup)(hi:X.N[i]? = some x)(hx:Dt X.env.scope x)(he:PE X e te)(ho:Gh X op ti)(hf:X.fn x=true\/X.env.scope.names.lookup x=some .local:=by first|exact .inl rfl|exact .inr rfl|assumption) :
  PS X (.AugAssign (.Name x pos') op e pos) (Gz i te ti):=by
 intro pins s σ H D I h;obtain⟨v,e1,h⟩:=h;obtain⟨m,hn,hl⟩:=I.loc;have vis:GR X.env.scope x:=by rcases hx with k|k;exact .inl k;exact .inr (.inl k)
 obtain⟨u,r,l⟩:=hl i x v hi e1 vis;refine wpAny_AugAssign_Name ?_;have go:wpAny (model X.prog X.w) X.A (eval e X.env) (λw s₂=>wpAny (model X.prog X.w) X.A (inplaceOp op u w) (λr s₃=>wpAny (model X.prog X.w) X.A (storeName X.env x r) (λ_=>SP X pins D .next) X.xe s₃) X.xe s₂) X.xe s:=by
  refine dq (he pins s σ H _ I h) λw s1 ⟨y,H1,I1,r1,q1⟩=>?_;refine dq (ho pins s1 σ H1 v y u w _ I1 r r1 q1) λz s2 ⟨zv,H2,I2,r2,q2⟩=>?_;exact i4 I2 hN hi hx r2 (λs3 I3=>⟨_,H2,I3,q2⟩) hf
 rcases l with ⟨hk,hm⟩|⟨hk,c,hc,hcell⟩
 .exact wpAny_loadName_local I.ok.kind hk hn hm go
 .rcases hk with hk|hk
  .exact wpAny_loadName_cell I.ok.kind hk hc hcell go
  .rcases hx with k|k
   .have:X.env.scope.names.lookup x=some .free:=hk;rw[k] at this;cases this
   .have:X.env.scope.names.lookup x=some .free:=hk;rw[k] at this;cases this
def yA(to ti te:TE)(tget:V->V->Hp->VK->Prop)(tip:Ds)(tset:vJ):TS:=λD σ H=>to σ H λo H1=>ti σ H1 λi H2=>tget o i H2 λx H3=>te σ H3 λy H4=>tip x y H4 λz H5=>tset o i z H5 λH6=>D.nx σ H6
def GU(X:Cx)(t:V->V->Hp->VK->Prop):Prop :=
 ∀(pins:List (Addr×Obj))(s:Shared)(σ:St)(H:Hp)(o i:V)(ov iv:Value)(Q:VK),aH X pins σ H s->bK o ov->bK i iv->t o i H Q ->
  wpAny (model X.prog X.w) X.A (getItem ov iv) (EP X pins σ Q) X.xe s
theorem E4{o i e:Expr}{to ti te:TE}{tget:V->V->Hp->VK->Prop}{tip:Ds}{tset:vJ}{op:Operator}{tpos:Pos}(ho:PE X o to)(hi:PE X i ti)(hg:GU X tget)(he:PE X e te)(hp:Gh X op tip)(hs:yY X tset)
  (ha:∀ov iv new,augStore i ov iv new=(do holding [new,ov,iv] (setItem ov iv new);release [new,ov,iv] [];pure .next):=by intros;rfl):PS X (.AugAssign (.Subscript o i tpos) op e pos) (yA to ti te tget tip tset):=by
 intro pins s σ H D I h;refine wpAny_AugAssign_SubscriptAny (dq (ho pins s σ H _ I h) λov s1 ⟨x1,H1,I1,r1,q1⟩=>?_) ha;refine dq (hi pins s1 σ H1 _ I1 q1) λiv s2 ⟨x2,H2,I2,r2,q2⟩=>?_;refine dq (hg pins s2 σ H2 x1 x2 ov iv _ I2 r1 r2 q2) λold s3 ⟨x3,H3,I3,r3,q3⟩=>?_;refine dq (he pins s3 σ H3 _ I3 q3) λv s4 ⟨x4,H4,I4,r4,q4⟩=>?_;refine dq (hp pins s4 σ H4 x3 x4 old v _ I4 r3 r4 q4) λnew s5 ⟨x5,H5,I5,r5,q5⟩=>?_;exact dq (hs pins s5 σ H5 x1 x2 x5 ov iv new _ I5 r1 r2 r5 q5) λ_ s6 ⟨H6,I6,q6⟩=>⟨σ,H6,I6,q6⟩
def KB(f:Int->Int->Int):Ds:=λx y H Q=>∃i j,x=.int i/\y=.int j/\Q (.int (f i j)) H
theorem BQ:Gh X .Add (KB λi j=>i+j):=by
 intro pins s σ H x y v u Q I r1 r2 h;obtain⟨i,j,e1,e2,q⟩:=h;subst e1;subst e2;obtain⟨t,rfl⟩:=r1;obtain⟨t',rfl⟩:=r2;exact iadd_int ⟨.int _,H,I.tok _,⟨_,rfl⟩,q⟩
theorem wl:Gh X .Sub (KB λi j=>i-j):=by
 intro pins s σ H x y v u Q I r1 r2 h;obtain⟨i,j,e1,e2,q⟩:=h;subst e1;subst e2;obtain⟨t,rfl⟩:=r1;obtain⟨t',rfl⟩:=r2;exact isub_int ⟨.int _,H,I.tok _,⟨_,rfl⟩,q⟩
end
section
variable {X:Cx}{pos:Pos}
def Bv(c:TT)(tb:TS):TS:=λD σ H=>∃W:Nat->St->Hp->Prop,(∃m,W m σ H) /\ ∀m σ H,W m σ H ->
 c σ H λb H1=>if b=true then ∃N:St->Hp->Prop,(∀σ' H',N σ' H' -> ∃m',m'<m/\W m' σ' H')/\tb { D with nx:=N,ct:=N,bk:=D.nx } σ H1 else D.nx σ H1
theorem C8{c:Expr}{body:List Stmt}{tc:TT}{tb:TS}(hp:PassesOwn (model X.prog X.w) X.A X.env X.xe)(hc:PT X c tc)(hb:sR X body tb):PS X (.While c body [] pos) (Bv tc tb):=by
 intro pins s σ H D I h;obtain⟨W,⟨m0,w0⟩,turn⟩:=h;refine wpAny_While (codeAny_whileLoop (λn s'=>∃σ' H',aH X pins σ' H' s'/\W n σ' H') ?_ m0 ⟨σ,H,I,w0⟩);rintro n s1 ⟨σ1,H1,I1,w1⟩;refine wpAny_passesOwn hp (dq (hc pins s1 σ1 H1 _ I1 (turn n σ1 H1 w1)) λb s2 ⟨H2,I2,q2⟩=>?_);cases b with
 | true =>
  obtain⟨N,hN,q2⟩:=q2;rw[Yg rfl];refine wpAny_passesOwn hp (dq (hb pins s2 σ1 H2 _ I2 q2) λf s3 q3=>?_);cases f with
  | next =>
   obtain⟨σ3,H3,I3,n3⟩:=q3;obtain⟨m',hm,w3⟩:=hN σ3 H3 n3;exact⟨m',hm,σ3,H3,I3,w3⟩
  | cont =>
   obtain⟨σ3,H3,I3,n3⟩:=q3;obtain⟨m',hm,w3⟩:=hN σ3 H3 n3;exact⟨m',hm,σ3,H3,I3,w3⟩
  | brk=>exact q3
  | ret v=>exact q3
 | false =>
  rw[Yc YM];exact wpAny_execs_nil ⟨σ1,H2,I2,q2⟩
end
structure It where
 go:Nat->Hp->Prop
 yld:Nat->Hp->V->Hp->Prop
 stop:Nat->Hp->Prop
def qf(X:Cx)(pins:List (Addr×Obj))(H:Hp)(b:Addr):Prop :=
 H b=none/\b≠X.env.locals/\b∉X.fs/\(b∈X.ex\/X.s₀.heap.objs.size<=b)/\(∀x c,X.env.cells.lookup x=some c->c≠b) /\ ∀p∈X.pn++pins,p.1≠b
theorem aH.fpOk{X:Cx}{pins:List (Addr×Obj)}{σ:St}{H H':Hp}{s:Shared}{b:Addr}(I:aH X pins σ H s)(hb:s.heap.objs.size<=b)(hn:H' b=none):qf X pins H' b:=by
 refine⟨hn,Nat.ne_of_gt (Yr I.lt hb),I.nofs hb,.inr (YB I.sz hb),λx c e z=>?_,λp hp z=>?_⟩
 .obtain⟨v,q⟩:=I.cell x c e;exact absurd (Yr q.lt (by rw[z];exact hb)) (XA _)
 .exact absurd (Yr (Heap.lt_size (I.pin p hp).1) (by rw[z];exact hb)) (XA _)
structure yZ (P:Program)(w:World)(K:W.Frag)(tg:Expr)(J:It)(fp:List Addr)(it:Addr)(tn:Nat->Heap->Prop):Prop where
 mem:it∈fp
 obj:∀i h,tn i h -> ∀b∈fp,∃o,h.get? b=some o /\ ∀v,o.data ≠ .cell v
 keep:∀i h h',tn i h->(∀b∈fp,∀o,h.get? b=some o->h'.get? b=some o)->tn i h'
 item:∀(X:Cx),X.prog=P->X.w=w->X.K=K->X.calm=true -> ∀(i:Nat)(pins:List (Addr×Obj))(s:Shared)(σ:St)(H:Hp)(E:Value->Shared->Prop),aH X pins σ H s->(∀b∈fp,qf X pins H b)->tn i s.heap->J.go i H ->
  wpAny (model P w) X.A (pyNext (.ref it)) (λr s1=>∃u,r=some u /\
   wpAny (model P w) X.A (letOwnedTupleGo tg (.ref it) u) (λ_ s2=>∃x H',aH X pins σ H' s2/\bK x u/\J.yld i H x H'/\tn (i+1) s2.heap /\ ∀b∈fp,H' b=none) E s1) E s
 done:∀(X:Cx),X.prog=P->X.w=w->X.K=K->X.calm=true -> ∀(i:Nat)(pins:List (Addr×Obj))(s:Shared)(σ:St)(H:Hp)(E:Value->Shared->Prop),aH X pins σ H s->(∀b∈fp,qf X pins H b)->tn i s.heap->J.stop i H ->
  wpAny (model P w) X.A (pyNext (.ref it)) (λr s1=>r=none/\aH X pins σ H s1) E s
 self:∀(A:Around)(i:Nat)(s:Shared)(Q:Value->Shared->Prop)(E:Value->Shared->Prop),tn i s.heap->Q (.ref it) s->wpAny (model P w) A (pyIter (.ref it)) Q E s
abbrev TI:=St->Hp->(It->Hp->Prop)->Prop
def Lv(X:Cx)(pins:List (Addr×Obj))(σ:St)(tg:Expr)(R:It->Hp->Prop)(itv:Value)(s2:Shared):Prop :=
 ∃(it:Addr)(fp:List Addr)(tn:Nat->Heap->Prop)(J:It)(H':Hp),itv=.ref it/\aH X pins σ H' s2/\yZ X.prog X.w X.K tg J fp it tn/\tn 0 s2.heap/\(∀b∈fp,qf X pins H' b)/\R J H'
def PI(X:Cx)(tg iter:Expr)(wi:TI):Prop :=
 ∀(pins:List (Addr×Obj))(s:Shared)(σ:St)(H:Hp)(R:It->Hp->Prop),aH X pins σ H s->wi σ H R ->
  wpAny (model X.prog X.w) X.A (eval iter X.env) (λv s1=>wpAny (model X.prog X.w) X.A (pyIter v) (Lv X pins σ tg R) X.xe s1) X.xe s
theorem wZ{M:Model}{A:Around}{E:Value->Shared->Prop}{s:Shared}{tg:Expr}{it:Addr}{u:Value}{o:Obj}{n:String}{vs:Array Value}{Q:Unit->Shared->Prop}(ho:s.heap.get? it=some o)(hc:o.cls=.type n)(hd:o.data=.fields vs)
  (hn:["enumerate", "zip", "dict_itemiterator", "dict_reverseitemiterator", "odict_iterator", "itertools.zip_longest", "itertools.pairwise"].contains n=false) (hQ:Q PUnit.unit s):wpAny M A (letOwnedTupleGo tg (.ref it) u) Q E s:=by
 unfold letOwnedTupleGo;cases tg<;>first
  | exact wpAny_pure hQ
  | (cases u<;>first
    | exact wpAny_pure hQ
    | (refine wpAny_bind (wpAny_load ho ?_)
       rw[hc,hd];show wpAny M A (if (["enumerate", "zip", "dict_itemiterator", "dict_reverseitemiterator", "odict_iterator", "itertools.zip_longest", "itertools.pairwise"].contains n && vs[0]? == some (rawInt _))=true then _ else _) Q E s
       rw[Yc (by intro h;rw[hn,Bool.false_and] at h;cases h)]
       exact wpAny_pure hQ))
def KI(K:W.Frag)(a:Addr):It :=
 ⟨λi H=>∃xs x,jz K H a xs/\xs[i]? = some x,λi H x H'=>H'=H /\ ∀xs,jz K H a xs->xs[i]? = some x,λi H=>∃xs,jz K H a xs/\xs.length<=i⟩
def Lw(K:W.Frag)(a:Addr):It :=
 ⟨λi H=>∃xs x,wB K H a xs/\xs[i]? = some x,λi H x H'=>H'=H /\ ∀xs,wB K H a xs->xs[i]? = some x,λi H=>∃xs,wB K H a xs/\xs.length<=i⟩
def Je(lo:Int)(n:Nat):It:=⟨λi _=>i<n,λi H x H'=>H'=H/\x=.int (lo+i),λi _=>n<=i⟩
theorem zF{P:Program}{w:World}{K:W.Frag}{tg:Expr}(a it:Addr):yZ P w K tg (KI K a) [it] it (λi h=>h.IsListIter it a i) where
 mem:=by simp
 obj:=λi h st b hb=>by
  have e:b=it:=by simpa using hb
  subst e;obtain⟨o,e,c,d⟩:=st;exact⟨o,e,λv z=>by rw[d] at z;cases z⟩
 keep:=λi h h' st k=>st.at λo e=>k it (by simp) o e
 item:=by
  intro X hP hw hK hc i pins s σ H E I hf st hg;subst hP hw hK;obtain⟨xs,x,hq,hx⟩:=hg;obtain⟨its,rv,p,hz⟩:=I.list hq;obtain⟨u,hu,ru⟩:=rv.get hx;obtain⟨f0,f1,f2,f3,f4,f5⟩:=hf it (by simp)
  refine wpAny_pyNext_list_item st p.isList (x:=u) (by simpa using hu) λh' st' sb=>?_
  have I1:aH X pins σ H { s with heap:=h' }:=I.turned (t':=s.toks) (λb o hb e=>(sb.2 b hb).trans e) f0 f1 f3 f4 f5
  obtain⟨o,e,c,d⟩:=id st';exact⟨u,rfl,wZ (s:={ s with heap:=h' }) e c d ∅ ⟨x,H,I1,ru,⟨rfl,λys hy=>by rw[I.list_inj hy hq];exact hx⟩,st',λb hb=>(hf b hb).1⟩⟩
 done:=by
  intro X hP hw hK hc i pins s σ H E I hf st hg;subst hP hw hK;obtain⟨xs,hq,hx⟩:=hg;obtain⟨its,rv,p,hz⟩:=I.list hq;obtain⟨f0,f1,f2,f3,f4,f5⟩:=hf it (by simp)
  have hl:=rv.length;exact wpAny_pyNext_list_end (I.ok.hd hc) st p.isList (by simp;nofun) λh' eb=>⟨rfl,I.turned (t':=s.toks) (λb o hb e=>eb b o hb e) f0 f1 f3 f4 f5⟩
 self:=λ_ _ _ _ _ st h=>wpAny_pyIter_listiter st h
theorem wV{P:Program}{w:World}{K:W.Frag}{tg:Expr}(it:Addr)(lo:Int)(n:Nat):yZ P w K tg (Je lo n) [it] it (λi h=>IsRangeIter h it (lo+(i:Nat)*1) ((n:Int)-(i:Nat)) 1) where
 mem:=by simp
 obj:=λi h st b hb=>by
  have e:b=it:=by simpa using hb
  subst e;exact⟨_,st,λv z=>by
   have z':Data.fields _=Data.cell v:=z;cases z'⟩
 keep:=λi h h' st k=>k it (by simp) _ st
 item:=by
  intro X hP hw hK hc i pins s σ H E I hf st hg;subst hP hw hK;obtain⟨f0,f1,f2,f3,f4,f5⟩:=hf it (by simp)
  have W:=Walks.range (prog:=X.prog) (w:=X.w) (I.ok.hd hc) it lo 1 n;refine W.item i s _ _ hg st λv h' tk hv st' kk=>?_;obtain⟨t,rfl⟩:=hv;have I1:aH X pins σ H { s with heap:=h',toks:=tk }:=I.turned (λb o hb e=>kk b o (by simpa using hb) e) f0 f1 f3 f4 f5
  refine⟨_,rfl,wZ (s:={ s with heap:=h',toks:=tk }) (n:="range_iterator") st' rfl rfl ∅ ⟨.int (lo+i),H,I1,⟨t,?_⟩,⟨rfl,rfl⟩,st',λb hb=>(hf b hb).1⟩⟩
  rw[XM]
 done:=by
  intro X hP hw hK hc i pins s σ H E I hf st hg;subst hP hw hK;obtain⟨f0,f1,f2,f3,f4,f5⟩:=hf it (by simp)
  exact wpAny_pyNext_range_end (I.ok.hd hc) st (by have:n<=i:=hg;nofun) λh' eb=>⟨rfl,I.turned (t':=s.toks) (λb o hb e=>eb b o hb e) f0 f1 f3 f4 f5⟩
 self:=λ_ _ _ _ _ st h=>wpAny_pyIter_rangeiter st h
section
variable {X:Cx}{tg:Expr}
def yH(K:W.Frag)(tl:TE):TI:=λσ H R=>tl σ H λx H1=>∃a,x=.ref a/\(∃xs,jz K H1 a xs)/\R (KI K a) H1
def KN(K:W.Frag)(tl:TE):TI:=λσ H R=>tl σ H λx H1=>∃a,x=.ref a/\(∃xs,wB K H1 a xs)/\R (Lw K a) H1
theorem E2{l:Expr}{tl:TE}(hl:PE X l tl):PI X tg l (yH X.K tl):=by
 intro pins s σ H R I h;refine dq (hl pins s σ H _ I h) λv s1 ⟨x,H1,I1,r1,q1⟩=>?_;obtain⟨a,e,⟨xs,hq⟩,q⟩:=q1;subst e;cases r1;obtain⟨its,rv,p,hz⟩:=I1.list hq;refine wpAny_pyIter_list p.isList ?_;refine⟨s1.heap.objs.size,[s1.heap.objs.size],_,_,H1,rfl,I1.kept (t':=s1.toks) λb o e=>Heap.get?_push_of_some _ e,zF a _,⟨_,Heap.get?_push_size _ rfl,rfl,rfl⟩,λb hb=>?_,q⟩;have e:b=s1.heap.objs.size:=by simpa using hb
 subst e;exact I1.fpOk (Yn _) (I1.hok.fresh (Yn _))
theorem uk{pins:List (Addr×Obj)}{σ:St}{H:Hp}{s:Shared}{R:It->Hp->Prop}{E:Value->Shared->Prop}{lo hi:Int}{t u v:Tok}{tk:Nat}(I:aH X pins σ H s)(h1 : -(2^62)<=lo)(h2:lo<2^62)(h3 : -(2^62)<=hi)(h4:hi<2^62)
  (q:R (Je lo (hi-lo).toNat) H):wpAny (model X.prog X.w) X.A (pyIter (.ref s.heap.objs.size)) (Lv X pins σ tg R) E { s with heap:=s.heap.push { cls:=.type "range",data:=.fields #[.int lo t,.int hi u,.int 1 v] },toks:=tk }:=by
 refine wpAny_pyIter_range (IsRange.new ..) (small_one h1 h2 h3 h4) ?_;have I1:aH X pins σ H { s with heap:=s.heap.push { cls:=.type "range",data:=.fields #[.int lo t,.int hi u,.int 1 v] },toks:=tk }:=I.kept λb o e=>Heap.get?_push_of_some _ e
 refine⟨(s.heap.push { cls:=.type "range",data:=.fields #[.int lo t,.int hi u,.int 1 v] }).objs.size,[(s.heap.push { cls:=.type "range",data:=.fields #[.int lo t,.int hi u,.int 1 v] }).objs.size],_,_,H,rfl,
  I1.kept (t':=tk) λb o e=>Heap.get?_push_of_some _ e,wV _ lo (hi-lo).toNat,?_,λb hb=>?_,q⟩
 .have e1:lo+((0:Nat):Int)*1=lo:=by simp
  have e2:(((hi-lo).toNat:Nat):Int)-((0:Nat):Int)=Builtin.Range.rangeSize lo hi 1:=by rw[rangeSize_one];split<;>nofun
  show IsRangeIter _ _ (lo+((0:Nat):Int)*1) ((((hi-lo).toNat:Nat):Int)-((0:Nat):Int)) 1;rw[e1,e2];exact Heap.get?_push_size _ rfl
 .have e:b=(s.heap.push { cls:=.type "range",data:=.fields #[.int lo t,.int hi u,.int 1 v] }).objs.size:=by simpa using hb
  subst e;exact I1.fpOk (Yn _) (I1.hok.fresh (Yn _))
def yw(ta:TA):TI:=λσ H R=>ta σ H λvs H1=>∃j:Int,vs=[.int j] /\ -(2^62)<=j/\j<2^62/\R (Je 0 j.toNat) H1
def Al(ta:TA):TI:=λσ H R=>ta σ H λvs H1=>∃i j:Int,vs=[.int i,.int j]/\(-(2^62)<=i/\i<2^62 /\ -(2^62)<=j/\j<2^62)/\R (Je i (j-i).toNat) H1
theorem zP{a:Expr}{ta:TA}{p pos:Pos}(hg:Gl X "range") (hm:X.mg "range" = none) (ha:PA X [a] ta)(hs:starEach [a] X.env=[(false,eval a X.env)]:=by rfl):PI X tg (.Call (.Name "range" p) [a] [] pos) (yw ta):=by
 intro pins s σ H R I h;refine Call_ (jB I hg hm boot_range (Xn (dq (ha pos pins s σ H _ I h) λus s1 ⟨vs,H1,I1,r1,q1⟩=>?_) hs rfl));obtain⟨j,e,q1,q2,q⟩:=q1;subst e;cases r1 with
 | cons r rr =>
  cases rr;obtain⟨t,rfl⟩:=r;exact call_range_1 (uk I1 () () q1 q2 (by simpa using q))
theorem zS{a b:Expr}{ta:TA}{p pos:Pos}(hg:Gl X "range") (hm:X.mg "range" = none) (ha:PA X [a,b] ta)(hs:starEach [a,b] X.env=[(false,eval a X.env),(false,eval b X.env)]:=by rfl)(hs2:starEach [b] X.env=[(false,eval b X.env)]:=by rfl) :
  PI X tg (.Call (.Name "range" p) [a,b] [] pos) (Al ta):=by
 intro pins s σ H R I h;refine Call_ (jB I hg hm boot_range (Xn (dq (ha pos pins s σ H _ I h) λus s1 ⟨vs,H1,I1,r1,q1⟩=>?_) (by rw[hs,hs2]) (by rw[hs2];rfl)))
 obtain⟨i,j,e,⟨q1,q2,q3,q4⟩,q⟩:=q1;subst e;cases r1 with
 | cons r rr =>
  cases rr with
  | cons r' rr =>
   cases rr;obtain⟨t,rfl⟩:=r;obtain⟨t',rfl⟩:=r';exact call_range_2 (uk I1 q1 q2 q3 q4 q)
def HZ(wi:TI)(g:TG)(tb:TS):TS:=λD σ H=>wi σ H λJ H1=>∃W:Nat->Nat->St->Hp->Prop,(∃m,W 0 m σ H1) /\ ∀i m σ H,W i m σ H ->
 (J.stop i H/\D.nx σ H)\/(J.go i H /\ ∃N:St->Hp->Prop,(∀σ' H',N σ' H' -> ∃m',m'<m/\W (i+1) m' σ' H') /\ ∀x H',J.yld i H x H'->g x σ H' λσ2 H2=>tb { D with nx:=N,ct:=N,bk:=D.nx } σ2 H2)
def oJ(fp:List Addr)(h:Heap):List (Addr×Obj):=fp.filterMap λb=>(h.get? b).map λo=>(b,o)
theorem jf{fp:List Addr}{h:Heap}{b:Addr}{o:Obj}(hb:b∈fp)(e:h.get? b=some o):(b,o)∈oJ fp h:=List.mem_filterMap.mpr ⟨b,hb,by rw[e];rfl⟩
theorem zx{fp:List Addr}{h:Heap}{p:Addr×Obj}(hp:p∈oJ fp h):p.1∈fp/\h.get? p.1=some p.2:=by
 obtain⟨b,hb,e⟩:=List.mem_filterMap.mp hp;cases q:h.get? b with
 | none=>rw[q] at e;cases e
 | some o =>
  rw[q] at e;have e':(b,o)=p:=Xb e;subst e';exact⟨hb,q⟩
theorem aH.pinned{pins:List (Addr×Obj)}{σ:St}{H:Hp}{s:Shared}{fp:List Addr}(I:aH X pins σ H s)(hf:∀b∈fp,qf X pins H b)(ho:∀b∈fp,∃o,s.heap.get? b=some o /\ ∀v,o.data ≠ .cell v):aH X (pins++oJ fp s.heap) σ H s :=
 I.pins_of λp hp=>(YK.mp hp).elim (λz=>I.pin p (YT _ z)) λz=>by
  obtain⟨hb,e⟩:=zx z;obtain⟨f0,f1,f2,_⟩:=hf p.1 hb;obtain⟨o,e',d⟩:=ho p.1 hb;rw[e] at e';cases e';exact⟨e,f0,f1,f2,d⟩
theorem aH.unpinned{pins pl:List (Addr×Obj)}{σ:St}{H:Hp}{s:Shared}(I:aH X (pins++pl) σ H s):aH X pins σ H s:=I.pins_of λp hp=>I.pin p (YT _ (XZ _ hp))
theorem Ip{iter:Expr}{body:List Stmt}{wi:TI}{g:TG}{tb:TS}{pos:Pos}(hp:PassesOwn (model X.prog X.w) X.A X.env X.xe)(hc:X.calm=true)(hi:PI X tg iter wi)(hg:PG X tg g)(hb:sR X body tb)
  (hs:∀x,foldedSetIterable iter X.env x=pure x:=by intro _;rfl):PS X (.For tg iter body [] pos) (HZ wi g tb):=by
 intro pins s σ H D I h;refine wpAny_For (dq (hi pins s σ H _ I h) λv s1 h1=>dq h1 λitv s2 h2=>?_) hs;obtain⟨it,fp,tn,J,H2,e,I2,T,st2,f2,W,⟨m0,w0⟩,turn⟩:=h2;subst e;have stat:∀{H':Hp},(∀b∈fp,H' b=none) -> ∀b∈fp,qf X pins H' b:=λhn b hb=>⟨hn b hb,(f2 b hb).2⟩;refine codeAny_forLoop_any (λn s'=>∃i σ' H',aH X pins σ' H' s'/\tn i s'.heap/\(∀b∈fp,H' b=none)/\W i n σ' H') ?_ m0 ⟨0,σ,H2,I2,st2,λb hb=>(f2 b hb).1,w0⟩;rintro n s3 ⟨i,σ3,H3,I3,st3,fr3,w3⟩;rcases turn i n σ3 H3 w3 with ⟨stop,qn⟩|⟨go,N,hN,step⟩
 .refine wpAny_passesOwn hp (dq (T.done X rfl rfl rfl hc i pins s3 σ3 H3 X.xe I3 (stat fr3) st3 stop) λr s4 ⟨hr,I4⟩=>?_);subst hr;exact wpAny_execs_nil ⟨σ3,H3,I4,qn⟩
 .refine wpAny_passesOwn hp (dq (T.item X rfl rfl rfl hc i pins s3 σ3 H3 X.xe I3 (stat fr3) st3 go) λr s4 ⟨u,hr,h4⟩=>?_);subst hr;refine wpAny_passesOwn hp (dq h4 λ_ s5 ⟨x,H5,I5,r5,y5,st5,fr5⟩=>?_);have I5':=I5.pinned (stat fr5) (T.obj _ _ st5);refine wpAny_passesOwn hp (dq (hg _ s5 σ3 H5 x u _ I5' r5 (step x H5 y5)) λ_ s6 ⟨σ6,H6,I6,q6⟩=>?_);refine wpAny_passesOwn hp (dq (hb _ s6 σ6 H6 _ I6 q6) λf s7 q7=>?_);have again:∀{σ7:St}{H7:Hp},aH X (pins++oJ fp s5.heap) σ7 H7 s7->N σ7 H7 -> ∃m,m<n /\ ∃i σ' H',aH X pins σ' H' s7/\tn i s7.heap/\(∀b∈fp,H' b=none)/\W i m σ' H':=λ{σ7 H7} I7 n7=>by
   obtain⟨m',hm,w7⟩:=hN σ7 H7 n7;refine⟨m',hm,i+1,σ7,H7,I7.unpinned,T.keep _ _ _ st5 λb hb o e=>(I7.pin (b,o) (YT _ (YT _ (jf hb e)))).1,λb hb=>?_,w7⟩;obtain⟨o,e,d⟩:=T.obj _ _ st5 b hb;exact (I7.pin (b,o) (YT _ (YT _ (jf hb e)))).2.1
  cases f with
  | next=>obtain⟨σ7,H7,I7,n7⟩:=q7;exact again I7 n7
  | cont=>obtain⟨σ7,H7,I7,n7⟩:=q7;exact again I7 n7
  | brk=>obtain⟨σ7,H7,I7,q7⟩:=q7;exact⟨σ7,H7,I7.unpinned,q7⟩
  | ret v=>obtain⟨x7,σ7,H7,I7,r7,q7⟩:=q7;exact⟨x7,σ7,H7,I7.unpinned,r7,q7⟩
end
abbrev R2:=V->V->Hp->VK->Prop
def gk(X:Cx)(f:Value->Value->Sem Value)(r:R2):Prop :=
 ∀(pins:List (Addr×Obj))(s:Shared)(σ:St)(H:Hp)(x y:V)(v u:Value)(Q:VK),aH X pins σ H s->bK x v->bK y u->r x y H Q ->
  wpAny (model X.prog X.w) X.A (f v u) (EP X pins σ Q) X.xe s
def KC(X:Cx)(f:Value->Sem Value)(r:V->Hp->VK->Prop):Prop :=
 ∀(pins:List (Addr×Obj))(s:Shared)(σ:St)(H:Hp)(x:V)(v:Value)(Q:VK),aH X pins σ H s->bK x v->r x H Q ->
  wpAny (model X.prog X.w) X.A (f v) (EP X pins σ Q) X.xe s
def fj(X:Cx)(f:Value)(r:List V->Hp->VK->Prop):Prop :=
 ∀(pins:List (Addr×Obj))(s:Shared)(σ:St)(H:Hp)(xs:List V)(us:List Value)(Q:VK),aH X pins σ H s->aX xs us->r xs H Q ->
  wpAny (model X.prog X.w) X.A (call f us) (EP X pins σ Q) X.xe s
def KQ(X:Cx)(r:V->Hp->(Bool->Hp->Prop)->Prop):Prop :=
 ∀(pins:List (Addr×Obj))(s:Shared)(σ:St)(H:Hp)(x:V)(v:Value)(Q:Bool->Hp->Prop),aH X pins σ H s->bK x v->r x H Q ->
  wpAny (model X.prog X.w) X.A (truthy v) (TP X pins σ Q) X.xe s
def DW(r:R2)(ta tb:TE):TE:=λσ H Q=>ta σ H λx H1=>tb σ H1 λy H2=>r x y H2 Q
def KZ(r:V->Hp->VK->Prop)(ta:TE):TE:=λσ H Q=>ta σ H λx H1=>r x H1 Q
def rI(C:Int->Int->Prop)(g:Int->Int->V):R2:=λx y H Q=>∃i j,x=.int i/\y=.int j/\C i j/\Q (g i j) H
def zn(g:Int->Int->V):R2:=λx y H Q=>∃i j,x=.int i/\y=.int j/\Q (g i j) H
def rU(g:Int->V):V->Hp->VK->Prop:=λx H Q=>∃i,x=.int i/\Q (g i) H
section
variable {X:Cx}{a b c:Expr}{ta tb tc:TE}{pos:Pos}
theorem Ie(ha:PE X a ta)(hb:PE X b tb) {pins:List (Addr×Obj)}{s:Shared}{σ:St}{H:Hp}{R:V->V->Hp->Prop}(I:aH X pins σ H s)
  (h:ta σ H λx H1=>tb σ H1 λy H2=>R x y H2) {Q:Value->Shared->Prop}{f:Value->Value->Sem Value}
  (hf:∀v u s2 x y H2,aH X pins σ H2 s2->bK x v->bK y u->R x y H2->wpAny (model X.prog X.w) X.A (f v u) Q X.xe s2) :
  wpAny (model X.prog X.w) X.A (eval a X.env) (λv s₁=>wpAny (model X.prog X.w) X.A (eval b X.env) (λu s₂=>wpAny (model X.prog X.w) X.A (f v u) Q X.xe s₂) X.xe s₁) X.xe s:=by
 refine dq (ha pins s σ H _ I h) λv s1 ⟨x,H1,I1,r1,q1⟩=>?_;refine dq (hb pins s1 σ H1 _ I1 q1) λu s2 ⟨y,H2,I2,r2,q2⟩=>?_;exact hf v u s2 x y H2 I2 r1 r2 q2
theorem JD{op:Operator}{r:R2}(ho:gk X (binaryOp op) r)(ha:PE X a ta)(hb:PE X b tb):PE X (.BinOp a op b pos) (DW r ta tb):=by
 intro pins s σ H Q I h;exact wpAny_BinOp (Ie ha hb I h λv u s2 x y H2 I2 rx ry q=>ho pins s2 σ H2 x y v u Q I2 rx ry q)
theorem JX{op:UnaryOp}{r:V->Hp->VK->Prop}(ho:KC X (unaryOp op) r)(ha:PE X a ta):PE X (.UnaryOp op a pos) (KZ r ta):=by
 intro pins s σ H Q I h;exact UnaryOp_ (dq (ha pins s σ H _ I h) λv s1 ⟨x,H1,I1,r1,q1⟩=>ho pins s1 σ H1 x v Q I1 r1 q1)
theorem Jf{f:Value->Value->Sem Value}{C:Int->Int->Prop}{g:Int->Int->Int}
  (rule:∀(i j:Int)(t u:Tok)(s:Shared)(Q:Value->Shared->Prop)(E:Value->Shared->Prop),C i j->Q (.int (g i j) s.toks) { s with toks:=s.toks+1 } -> wpAny (model X.prog X.w) X.A (f (.int i t) (.int j u)) Q E s) :
  gk X f (rI C λi j=>.int (g i j)):=by
 intro pins s σ H x y v u Q I rx ry h;obtain⟨i,j,rfl,rfl,hc,q⟩:=h;obtain⟨t,rfl⟩:=rx;obtain⟨t',rfl⟩:=ry;exact rule i j t t' s _ _ hc ⟨.int (g i j),H,I.tok _,⟨_,rfl⟩,q⟩
theorem JK{f:Value->Value->Sem Value}{g:Int->Int->Int}
  (rule:∀(i j:Int)(t u:Tok)(s:Shared)(Q:Value->Shared->Prop)(E:Value->Shared->Prop),Q (.int (g i j) s.toks) { s with toks:=s.toks+1 } -> wpAny (model X.prog X.w) X.A (f (.int i t) (.int j u)) Q E s) :
  gk X f (zn λi j=>.int (g i j)):=by
 intro pins s σ H x y v u Q I rx ry h;obtain⟨i,j,rfl,rfl,q⟩:=h;obtain⟨t,rfl⟩:=rx;obtain⟨t',rfl⟩:=ry;exact rule i j t t' s _ _ ⟨.int (g i j),H,I.tok _,⟨_,rfl⟩,q⟩
theorem Iy{f:Value->Value->Sem Value}{g:Int->Int->Bool}
  (rule:∀(i j:Int)(t u:Tok)(s:Shared)(Q:Value->Shared->Prop)(E:Value->Shared->Prop),Q (.bool (g i j)) s->wpAny (model X.prog X.w) X.A (f (.int i t) (.int j u)) Q E s) :
  gk X f (zn λi j=>.bl (g i j)):=by
 intro pins s σ H x y v u Q I rx ry h;obtain⟨i,j,rfl,rfl,q⟩:=h;obtain⟨t,rfl⟩:=rx;obtain⟨t',rfl⟩:=ry;exact rule i j t t' s _ _ ⟨.bl (g i j),H,I,rfl,q⟩
def Jx(i j:Int):Prop:=0<=j/\j<=1000000/\i.natAbs<2^64
theorem HJ:gk X (binaryOp .Add) (zn λi j=>.int (i+j)):=JK λ_ _ _ _ _ _ _ q=>add_int q
theorem cK:gk X (binaryOp .Sub) (zn λi j=>.int (i-j)):=JK λ_ _ _ _ _ _ _ q=>sub_int q
theorem Eg:gk X (binaryOp .Mod) (rI (λ_ j=>j≠0) λi j=>.int (i.fmod j)):=Jf λ_ _ _ _ _ _ _ hc q=>mod_int' hc q
theorem wI:gk X (binaryOp .Pow) (rI Jx λi j=>.int (i^j.toNat)):=Jf λ_ _ _ _ _ _ _ hc q=>pow_int_small hc.1 hc.2.1 hc.2.2 q
theorem Lx{f:Value->Sem Value}{g:Int->Int}
  (rule:∀(i:Int)(t:Tok)(s:Shared)(Q:Value->Shared->Prop)(E:Value->Shared->Prop),Q (.int (g i) s.toks) { s with toks:=s.toks+1 } -> wpAny (model X.prog X.w) X.A (f (.int i t)) Q E s) :
  KC X f (rU λi=>.int (g i)):=by
 intro pins s σ H x v Q I rx h;obtain⟨i,rfl,q⟩:=h;obtain⟨t,rfl⟩:=rx;exact rule i t s _ _ ⟨.int (g i),H,I.tok _,⟨_,rfl⟩,q⟩
theorem eV:KC X (unaryOp .USub) (rU λi=>.int (-i)):=Lx λ_ _ _ _ _ q=>neg_int q
end
def Aa:V->V->Bool
 | .non,.non=>true | .non,.int _=>true | .int _,.non=>true | .non,.bl _=>true | .bl _,.non=>true | .non,.str _=>true | .str _,.non=>true
 | .int _,.int _=>true | .bl _,.bl _=>true | .str _,.str _=>true | .byt _,.byt _=>true
 | .int _,.str _=>true | .str _,.int _=>true | .bl _,.str _=>true | .str _,.bl _=>true
 | _,_=>false
def Jl:R2:=λx y H Q=>Aa x y=true/\Q (.bl (decide (x=y))) H
def Ji:R2:=λx y H Q=>Aa x y=true/\Q (.bl (!decide (x=y))) H
theorem yg{i j:Int}:decide (V.int i=V.int j)=(i==j):=by
 rw[XT];simp
theorem Dd{i j:Bool}:decide (V.bl i=V.bl j)=(i==j):=by
 rw[XT];simp
theorem yk{i j:Str}:decide (V.str i=V.str j)=(i==j):=by
 rw[XT];simp
theorem xH{i j:Array UInt8}:decide (V.byt i=V.byt j)=(i.toList==j.toList):=by
 rw[XT];cases i;cases j;simp
section
variable {X:Cx}{a b c:Expr}{ta tb tc:TE}{pos:Pos}
theorem bV{pins:List (Addr×Obj)}{σ:St}{H:Hp}{s:Shared}{Q:VK}{k k':Bool}(I:aH X pins σ H s)(q:Q (.bl k) H)(e:k=k'):EP X pins σ Q (.bool k') s:=by
 subst e;exact⟨.bl k,H,I,rfl,q⟩
theorem ik:gk X (compareOp .Eq) Jl:=by
 intro pins s σ H x y v u Q I rx ry h;obtain⟨hs,q⟩:=h;cases x with
 | non =>
  cases rx;cases y with
  | non=>cases ry;exact PySem.EqNone.eq_none_none (bV I q (by simp))
  | bl j=>cases ry;exact PySem.EqNone.eq_none_bool (bV I q (by simp))
  | int j=>obtain⟨t',rfl⟩:=ry;exact PySem.EqNone.eq_none_int (bV I q (by simp))
  | str j=>obtain⟨t',rfl⟩:=ry;exact PySem.EqNone.eq_none_str (bV I q (by simp))
  | _=>exact absurd (show false=true from hs) YM
 | bl i =>
  cases rx;cases y with
  | non=>cases ry;exact PySem.EqNone.eq_bool_none (bV I q (by simp))
  | bl j=>cases ry;exact eq_bool (bV I q Dd)
  | str j=>obtain⟨t',rfl⟩:=ry;exact PySem.EqMixed.eq_bool_str (bV I q (by simp))
  | _=>exact absurd (show false=true from hs) YM
 | int i =>
  obtain⟨t,rfl⟩:=rx;cases y with
  | non=>cases ry;exact PySem.EqNone.eq_int_none (bV I q (by simp))
  | int j=>obtain⟨t',rfl⟩:=ry;exact eq_int (bV I q yg)
  | str j=>obtain⟨t',rfl⟩:=ry;exact PySem.EqMixed.eq_int_str (bV I q (by simp))
  | _=>exact absurd (show false=true from hs) YM
 | str i =>
  obtain⟨t,rfl⟩:=rx;cases y with
  | non=>cases ry;exact PySem.EqNone.eq_str_none (bV I q (by simp))
  | bl j=>cases ry;exact PySem.EqMixed.eq_str_bool (bV I q (by simp))
  | int j=>obtain⟨t',rfl⟩:=ry;exact PySem.EqMixed.eq_str_int (bV I q (by simp))
  | str j=>obtain⟨t',rfl⟩:=ry;exact eq_str (bV I q yk)
  | _=>exact absurd (show false=true from hs) YM
 | byt i =>
  obtain⟨t,rfl⟩:=rx;cases y with
  | byt j=>obtain⟨t',rfl⟩:=ry;exact PySem.W.eq_bytes (bV I q xH)
  | _=>exact absurd (show false=true from hs) YM
 | _=>cases y<;>exact absurd (show false=true from hs) YM
theorem qM:gk X (compareOp .NotEq) Ji:=by
 intro pins s σ H x y v u Q I rx ry h;obtain⟨hs,q⟩:=h;cases x with
 | non =>
  cases rx;cases y with
  | non=>cases ry;exact PySem.EqNone.ne_none_none (bV I q (by simp))
  | bl j=>cases ry;exact PySem.EqNone.ne_none_bool (bV I q (by simp))
  | int j=>obtain⟨t',rfl⟩:=ry;exact PySem.EqNone.ne_none_int (bV I q (by simp))
  | str j=>obtain⟨t',rfl⟩:=ry;exact PySem.EqNone.ne_none_str (bV I q (by simp))
  | _=>exact absurd (show false=true from hs) YM
 | bl i =>
  cases rx;cases y with
  | non=>cases ry;exact PySem.EqNone.ne_bool_none (bV I q (by simp))
  | bl j=>cases ry;exact ne_bool (bV I q (X7 not Dd))
  | str j=>obtain⟨t',rfl⟩:=ry;exact PySem.EqMixed.ne_bool_str (bV I q (by simp))
  | _=>exact absurd (show false=true from hs) YM
 | int i =>
  obtain⟨t,rfl⟩:=rx;cases y with
  | non=>cases ry;exact PySem.EqNone.ne_int_none (bV I q (by simp))
  | int j=>obtain⟨t',rfl⟩:=ry;exact ne_int (bV I q (X7 not yg))
  | str j=>obtain⟨t',rfl⟩:=ry;exact PySem.EqMixed.ne_int_str (bV I q (by simp))
  | _=>exact absurd (show false=true from hs) YM
 | str i =>
  obtain⟨t,rfl⟩:=rx;cases y with
  | non=>cases ry;exact PySem.EqNone.ne_str_none (bV I q (by simp))
  | bl j=>cases ry;exact PySem.EqMixed.ne_str_bool (bV I q (by simp))
  | int j=>obtain⟨t',rfl⟩:=ry;exact PySem.EqMixed.ne_str_int (bV I q (by simp))
  | str j=>obtain⟨t',rfl⟩:=ry;exact ne_str (bV I q (X7 not yk))
  | _=>exact absurd (show false=true from hs) YM
 | byt i =>
  obtain⟨t,rfl⟩:=rx;cases y with
  | byt j=>obtain⟨t',rfl⟩:=ry;exact PySem.W.ne_bytes (bV I q (X7 not xH))
  | _=>exact absurd (show false=true from hs) YM
 | _=>cases y<;>exact absurd (show false=true from hs) YM
theorem C5:gk X (compareOp .Lt) (zn λi j=>.bl (decide (i<j))):=Iy λ_ _ _ _ _ _ _ q=>lt_int q
theorem nj:gk X (compareOp .Gt) (zn λi j=>.bl (decide (j<i))):=Iy λ_ _ _ _ _ _ _ q=>gt_int q
theorem Ki:gk X (compareOp .GtE) (zn λi j=>.bl (decide (j<=i))):=Iy λ_ _ _ _ _ _ _ q=>ge_int q
theorem gk.or{f:Value->Value->Sem Value}{r r':R2}(h:gk X f r)(h':gk X f r'):gk X f (λx y H Q=>r x y H Q\/r' x y H Q):=by
 intro pins s σ H x y v u Q I rx ry q;rcases q with q|q
 .exact h pins s σ H x y v u Q I rx ry q
 .exact h' pins s σ H x y v u Q I rx ry q
theorem aR(b:Expr){op:CmpOp}(h:op ≠ .In:=by decide)(h2:op ≠ .NotIn:=by decide):behindInMarks op b=false:=by
 have e1:(op==CmpOp.In)=false:=by cases op<;>first|rfl|exact absurd rfl h
 have e2:(op==CmpOp.NotIn)=false:=by cases op<;>first|rfl|exact absurd rfl h2
 cases b<;>simp[behindInMarks,e1,e2]
theorem EC{op:CmpOp}{r:R2}(ho:gk X (compareOp op) r)(ha:PE X a ta)(hb:PE X b tb)(hm:behindInMarks op b=false):PE X (.Compare a [op] [b] pos) (DW r ta tb):=by
 intro pins s σ H Q I h;exact wpAny_Compare1 (Ie ha hb I h λv u s2 x y H2 I2 rx ry q=>ho pins s2 σ H2 x y v u Q I2 rx ry q) hm
def ye(t:TE):TT:=λσ H Q=>t σ H λx H'=>∃k,x=.bl k/\Q k H'
theorem EN{op:CmpOp}{r:R2}(ho:gk X (compareOp op) r)(ha:PE X a ta)(hb:PE X b tb)(hm:behindInMarks op b=false):PT X (.Compare a [op] [b] pos) (ye (DW r ta tb)):=by
 intro pins s σ H Q I h;refine wpAny_isTrue_Compare1 (dq (ha pins s σ H _ I h) λv s1 ⟨x,H1,I1,r1,q1⟩=>dq (hb pins s1 σ H1 _ I1 q1) λu s2 ⟨y,H2,I2,r2,q2⟩ =>
  dq (ho pins s2 σ H2 x y v u _ I2 r1 r2 q2) λc s3 ⟨z,H3,I3,r3,k,e,q3⟩=>?_) hm
 subst e;cases r3;exact wpAny_truthy_bool ⟨H3,I3,q3⟩
def wA(K:W.Frag)(x:V)(H:Hp)(k:Bool):Prop :=
 match x with
 | .non=>k=false
 | .bl b=>k=b
 | .int i=>k=(i != 0)
 | .str y=>y.length<=sizeLine/\k=((y.length:Int) != 0)
 | .byt y=>y.size<=sizeLine/\k=((y.size:Int) != 0)
 | .ref p=>(∃xs,jz K H p xs/\k = !xs.isEmpty)\/(∃xs,wB K H p xs/\k = !xs.isEmpty) \/ ∃kvs,H p=some (.dK kvs)/\k = !kvs.isEmpty
 | _=>False
theorem vC{κ:Type}{kvs:List (κ×V)}{vs:List (κ×Value)}(r:KV kvs vs):(!vs.isEmpty) = !kvs.isEmpty:=by
 cases r<;>rfl
theorem oW{xs:List V}{its:List Value}(r:aX xs its):(!its.toArray.isEmpty) = !xs.isEmpty:=by
 cases r<;>simp
theorem mS:(sizeLine:Nat)<2^63:=by rw[sizeLine_eq];decide
theorem HR:KQ X (λx H Q=>∃k,wA X.K x H k/\Q k H):=by
 intro pins s σ H x v Q I rx h;obtain⟨k,e,q⟩:=h;have hl:=mS;have hs:sizeLine=16777216:=sizeLine_eq;cases x with
 | non =>
  cases rx;have e':k=false:=e;subst e';exact truthy_none ⟨H,I,q⟩
 | bl b =>
  cases rx;have e':k=b:=e;subst e';exact wpAny_truthy_bool ⟨H,I,q⟩
 | int i =>
  obtain⟨t,rfl⟩:=rx;have e':k=(i != 0):=e;subst e';exact PySem.P.truthy_int ⟨H,I,q⟩
 | str y =>
  obtain⟨t,rfl⟩:=rx;obtain⟨hy,e'⟩ : y.length<=sizeLine/\k=((y.length:Int) != 0):=e;subst e';exact PySem.P.truthy_str () ⟨H,I.tok _,q⟩
 | byt y =>
  obtain⟨t,rfl⟩:=rx;obtain⟨hy,e'⟩ : y.size<=sizeLine/\k=((y.size:Int) != 0):=e;subst e';exact PySem.W.truthy_bytes () ⟨H,I.tok _,q⟩
 | ref p =>
  cases rx;have e':(∃xs,jz X.K H p xs/\k = !xs.isEmpty)\/(∃xs,wB X.K H p xs/\k = !xs.isEmpty) \/ ∃kvs,H p=some (.dK kvs)/\k = !kvs.isEmpty:=e;rcases e' with ⟨xs,hx,e'⟩|⟨xs,hx,e'⟩|⟨kvs,hx,e'⟩
  .subst e';obtain⟨its,r,pl,hz⟩:=I.list hx;have hlen:=r.length;exact wpAny_truthy_list pl.isList (by simp only[Yu];nofun) ⟨H,I.tok _,by rw[oW r];exact q⟩
  .subst e';obtain⟨its,r,pl,hz⟩:=I.tuple hx;have hlen:=r.length;exact truthy_tuple pl (by simp only[Yu];nofun) ⟨H,I.tok _,by rw[oW r];exact q⟩
  .subst e';obtain⟨hz,hS,vs,r,m⟩ : kvs.length<=sizeLine/\(p==sysModules)=false /\ ∃vs,KV kvs vs/\s.heap.DictOf (dS X.prog X.w) p vs:=I.hok p _ hx;have hlen:kvs.length=vs.length:=Paired.length r;exact wpAny_truthy_dict hS m () ⟨H,I.tok _,by rw[vC r];exact q⟩
 | _=>exact (show False from e).elim
theorem Do(ha:PE X a ta)(he:∀whole,isTrue a X.env whole=(do let v <-whole;standAt a.pos;holding [v] (truthy v))) :
  PT X a (λσ H Q=>ta σ H λx H'=>∃k,wA X.K x H' k/\Q k H'):=by
 intro pins s σ H Q I h;exact isTrue_plain (dq (ha pins s σ H _ I h) λv s1 ⟨x,H1,I1,r1,q1⟩=>HR pins s1 σ H1 x v Q I1 r1 q1) (he _)
theorem uM{x:V}{us:List Value}(r:aX [x] us):∃u,us=[u]/\bK x u:=by
 cases r with
 | cons r1 r2=>cases r2;exact⟨_,rfl,r1⟩
theorem xM{x y:V}{us:List Value}(r:aX [x,y] us):∃u w',us=[u,w']/\bK x u/\bK y w':=by
 cases r with
 | cons r1 r2 =>
  cases r2 with
  | cons r3 r4=>cases r4;exact⟨_,_,rfl,r1,r3⟩
theorem jD:fj X (.builtin "abs") (λxs H Q=>∃i,xs=[.int i]/\Q (.int (if i<0 then -i else i)) H):=by
 intro pins s σ H xs us Q I r h;obtain⟨i,rfl,q⟩:=h;obtain⟨u,rfl,t,rfl⟩:=uM r;exact call_abs_int λu tk=>⟨.int (if i<0 then -i else i),H,I.tok _,⟨_,rfl⟩,q⟩
theorem mv(hc:X.calm=true):fj X (.builtin "max") (λxs H Q=>∃i j,xs=[.int i,.int j]/\Q (.int (if j > i then j else i)) H):=by
 intro pins s σ H xs us Q I r h;obtain⟨i,j,rfl,q⟩:=h;obtain⟨u,w',rfl,⟨t,rfl⟩,⟨t',rfl⟩⟩:=xM r;refine max_two_ints (I.ok.hd hc) λh' tk k=>⟨_,H,I.kept k,?_,q⟩;by_cases hj:j > i
 .rw[Yg hj,Yg hj];exact⟨_,rfl⟩
 .rw[Yc hj,Yc hj];exact⟨_,rfl⟩
theorem rE(hc:X.calm=true):fj X (.builtin "min") (λxs H Q=>∃i j,xs=[.int i,.int j]/\Q (.int (if j<i then j else i)) H):=by
 intro pins s σ H xs us Q I r h;obtain⟨i,j,rfl,q⟩:=h;obtain⟨u,w',rfl,⟨t,rfl⟩,⟨t',rfl⟩⟩:=xM r;refine min_two_ints (I.ok.hd hc) λh' tk k=>⟨_,H,I.kept k,?_,q⟩;by_cases hj:j<i
 .rw[Yg hj,Yg hj];exact⟨_,rfl⟩
 .rw[Yc hj,Yc hj];exact⟨_,rfl⟩
theorem jR:fj X (.type "int") (λxs H Q=>(∃i,xs=[.int i]/\Q (.int i) H) \/ ∃k,xs=[.bl k]/\Q (.int (if k then 1 else 0)) H):=by
 intro pins s σ H xs us Q I r h;rcases h with ⟨i,rfl,q⟩|⟨k,rfl,q⟩
 .obtain⟨u,rfl,t,rfl⟩:=uM r;exact call_int_int ⟨.int i,H,I,⟨_,rfl⟩,q⟩
 .obtain⟨u,rfl,r1⟩:=uM r;cases r1;exact call_int_bool ⟨.int (if k then 1 else 0),H,I.tok _,⟨_,rfl⟩,q⟩
end
structure HU (h:Heap)(x dx C:Addr)(mA:Str->Option Value):Prop where
 obj:h.get? x=some (PySem.W.instObj C dx)
 ns:h.Ns1 dx mA
 ne:dx≠x
theorem Ac{h:Heap}{dx:Addr}{mA:Str->Option Value}(n:h.Ns1 dx mA):∃od,h.get? dx=some od /\ ∀name,PySem.W.lookIn name od=some (mA name):=by
 obtain⟨o,es,ep,ho,hd,hk,_,hm⟩:=n;refine⟨o,ho,λname=>?_⟩;have e:=hm name;unfold nsFind findBy at e;rw[<-Array.find?_toList] at e;unfold PySem.W.lookIn;rw[hd];dsimp only;split
 .rename_i y q
  rw[q] at e;exact X7 some e
 .rename_i q
  rw[q] at e;have a:es.toList.any (·.refKey)=false:=by
   rw[List.any_eq_false];intro y hy;obtain⟨z,t,hkey⟩:=hk y (Array.mem_toList_iff.mp hy);simp[DictEntry.refKey,hkey]
  have a':¬ es.toList.any (·.refKey)=true:=by rw[a];exact YM
  rw[Yc a'];exact X7 some e
theorem HU.look{h:Heap}{x dx C:Addr}{mA:Str->Option Value}(I:HU h x dx C mA):∃od,PySem.W.InstAt h x (PySem.W.instObj C dx) C (some od) /\ ∀name,PySem.W.lookIn name od=some (mA name) :=
 let ⟨od,ho,hl⟩:=Ac I.ns
 ⟨od,⟨I.obj,rfl,rfl,ho⟩,hl⟩
theorem tF.some_of{v:V}{o:Option Value}(r:tF (some v) o):∃u,o=some u/\bK v u:=by
 cases o with
 | none=>exact (show False from r).elim
 | some u=>exact⟨u,rfl,r⟩
section
variable {P:Program}{w:World}{H H':Hp}{h h':Heap}{a C dx:Addr}{fs fs':List (Str×V)}
theorem Es(hok:j9 P w H h)(e:H a=some (.ins C dx fs)):∃mA,HU h a dx C mA/\(∀f,tF (fs.lookup f) (mA f))/\PySem.Within mA (fs.map (·.1))/\fs.length<=1000/\H dx=some (.own a):=by
 obtain⟨d,z,ne,ob,mA,n,r,q⟩:=(show cO P w H h a (.ins C dx fs) from hok a _ e)
 exact⟨mA,⟨ob,n,ne⟩,r,q,z,d⟩
end
structure K4 (K:W.Frag)(C:Addr):Prop where
 pg:PySem.W.plainGet K C Str.empty=true
 hd:PySem.W.hasDictIn K C=true
 po:PySem.W.plainOver K C=true
 sa:PySem.W.findIn K (.ref C) "__setattr__" = some (some (.builtin "object.__setattr__"))
theorem K4.get{K:W.Frag}{C:Addr}(c:K4 K C)(f:Str):PySem.W.plainGet K C f=true:=c.pg
section
variable {X:Cx}{pins:List (Addr×Obj)}{σ:St}{H:Hp}{s:Shared}{A:Around}{E:Value->Shared->Prop}{Q:Value->Shared->Prop}{c:Value}{b:Bool}
inductive nR (K:W.Frag)(H:Hp):V->Value->Prop where
 | non:nR K H .non (.type "NoneType")
 | bl (x:Bool):nR K H (.bl x) (.type "bool")
 | int (i:Int):nR K H (.int i) (.type "int")
 | str (x:Str):nR K H (.str x) (.type "str")
 | flt (x:UInt64):nR K H (.flt x) (.type "float")
 | lst {a:Addr}{xs:List V}(e:H a=some (.lst xs)):nR K H (.ref a) (.type "list")
 | frz {a:Addr}{o:Obj}{xs:List V}(e:H a=some (.frz o (.lst xs))):nR K H (.ref a) (.type "list")
 | tup {a:Addr}{xs:List V}(e:H a=some (.tup xs)):nR K H (.ref a) (.type "tuple")
 | dK {a:Addr}{kvs:List (iA×V)}(e:H a=some (.dK kvs)):nR K H (.ref a) (.type "dict")
 | dT {a:Addr}{kvs:List (List iA×V)}(e:H a=some (.dT kvs)):nR K H (.ref a) (.type "dict")
 | ins {a C dx:Addr}{fs:List (Str×V)}(e:H a=some (.ins C dx fs))(cl:K4 K C)(ha:PySem.W.findIn K (.ref C) "__class__" = some (some (.builtin "object.__class__")))
   (hn:PySem.W.specialIn K (.builtin "object.__class__") "__get__" = some (some (.builtin "getset_descriptor.__get__"))) (htk:PySem.W.takesIn K (.builtin "object.__class__")=some true)
   (hm:PySem.W.mroIn K C (.type "object")=some true):nR K H (.ref a) (.ref C)
theorem gj{x:V}{u t:Value}(I:aH X pins σ H s)(rx:bK x u)(ty:nR X.K H x t)(e:PySem.W.kitOne X.K t c=some b)(h:∀tk,Q (.bool b) { s with toks:=tk }) :
  wpAny (model X.prog X.w) A (call (.builtin "isinstance") [u,c]) Q E s:=by
 cases ty with
 | non=>cases (show u=Value.none from rx);exact Xd PySem.W.kitx_none I.kIn True.intro e (λz=>nomatch z) h
 | bl y=>cases (show u=Value.bool y from rx);exact Xd PySem.W.kitx_bool I.kIn True.intro e (λz=>nomatch z) h
 | int i=>obtain⟨t,q⟩:=(show ∃t,u=Value.int i t from rx);cases q;exact Xd PySem.W.kitx_int I.kIn True.intro e (λz=>nomatch z) h
 | str y=>obtain⟨t,q⟩:=(show ∃t,u=Value.str y t from rx);cases q;exact Xd PySem.W.kitx_str I.kIn True.intro e (λz=>nomatch z) h
 | flt y=>obtain⟨t,q⟩:=(show ∃t,u=Value.float y t from rx);cases q;exact Xd PySem.W.kitx_float I.kIn True.intro e (λz=>nomatch z) h
 | @lst a xs ea =>
  cases (show u=Value.ref a from rx)
  obtain⟨_,_,n,_,h1⟩:=(show cO X.prog X.w H s.heap a (.lst xs) from I.hok a _ ea)
  exact Xd PySem.W.kitx_list I.kIn ⟨_,h1,rfl⟩ e (λz=>nomatch z) h
 | @frz a ob xs ea =>
  cases (show u=Value.ref a from rx)
  obtain⟨_,_,_,n,_,h1⟩:=(show cO X.prog X.w H s.heap a (.frz ob (.lst xs)) from I.hok a _ ea)
  exact Xd PySem.W.kitx_list I.kIn ⟨_,h1,rfl⟩ e (λz=>nomatch z) h
 | @tup a xs ea =>
  cases (show u=Value.ref a from rx)
  obtain⟨_,_,_,p⟩:=(show cO X.prog X.w H s.heap a (.tup xs) from I.hok a _ ea)
  obtain⟨o,h1,h2,_⟩:=p;exact Xd PySem.W.kitx_tuple I.kIn ⟨o,h1,h2⟩ e (λz=>nomatch z) h
 | @dK a kvs ea =>
  cases (show u=Value.ref a from rx)
  obtain⟨_,_,vs,_,p⟩:=(show cO X.prog X.w H s.heap a (.dK kvs) from I.hok a _ ea)
  obtain⟨o,es,ep,h1,h2,_⟩:=p;exact Xd PySem.W.kitx_dict I.kIn ⟨o,h1,h2.1⟩ e (λz=>nomatch z) h
 | @dT a kvs ea =>
  cases (show u=Value.ref a from rx)
  obtain⟨_,_,xs,_,o,es,ep,h1,h2,_⟩:=(show cO X.prog X.w H s.heap a (.dT kvs) from I.hok a _ ea)
  exact Xd PySem.W.kitx_dict I.kIn ⟨o,h1,h2.1⟩ e (λz=>nomatch z) h
 | @ins a C dx fs ea cl ha hn htk hm =>
  cases (show u=Value.ref a from rx)
  obtain⟨mA,O,_⟩:=Es I.hok ea;obtain⟨od,J,_⟩:=O.look;exact Xd (PySem.W.kitx_own (cl.get _) cl.hd ha hn htk hm) I.kIn J e (λz=>nomatch z) h
end
structure dz (k:Nat)(A:Around):Prop where
 hd:A.handled=none
 dp:A.depth+3*k+105<recursionLimit
 un:A.units+16*k+200<cLine
theorem dz.mono{j k:Nat}{A:Around}(r:dz k A)(h:j<=k):dz j A:=⟨r.hd,by have:=r.dp;nofun,by have:=r.un;nofun⟩
theorem dz.deeper{k:Nat}{A:Around}(r:dz (k+1) A)(env:Env):dz k (A.deeper env) :=
 ⟨r.hd,by have:=r.dp;show A.depth+1+3*k+105<_;nofun,by have:=r.un;show A.units+3+16*k+200<_;nofun⟩
theorem dz.depth{k:Nat}{A:Around}(r:dz k A):A.depth<recursionLimit:=by have:=r.dp;nofun
def Hr:TA:=λ_ H Q=>Q [] H
def Dc(ta:TE)(tr:TA):TA:=λσ H Q=>ta σ H λx H1=>tr σ H1 λxs H2=>Q (x::xs) H2
section
variable {X:Cx}{e:Expr}{es:List Expr}{te:TE}{t:TA}{pos:Pos}
theorem HP:PA X [] Hr:=λ_ _ _ _ H Q I h=>Calls.spliced_nil ⟨[],H,I,.nil,h⟩
theorem Dz(ha:PE X e te)(hr:PA X es t)(hs:starEach (e::es) X.env=(false,eval e X.env)::starEach es X.env:=by rfl):PA X (e::es) (Dc te t):=by
 intro pos pins s σ H Q I h;rw[hs];show wpAny _ _ (spliced ((false,eval e X.env)::backTo pos (starEach es X.env))) _ _ s;refine Calls.spliced_cons (dq (ha pins s σ H _ I h) λu s1 ⟨x,H1,I1,r1,q1⟩=>?_);exact dq (hr pos pins s1 σ H1 _ I1 q1) λus s2 ⟨xs,H2,I2,r2,q2⟩=>⟨x::xs,H2,I2,.cons r1 r2,q2⟩
end
abbrev Sp:=List V->Hp->VK->XK->Prop
abbrev vP:=List Env->Hp->Shared->XK->Value->Shared->Prop
structure qq (P:Program)(w:World)(K:W.Frag)(mg:Str->Option Value)(base:Heap)(A:Around)(outer:List Env)(s:Shared)(H:Hp):Prop where
 frames:A.frames=some outer
 mod:Mod K mg base
 bs:∀b o,base.get? b=some o->s.heap.get? b=some o/\H b=none
 bsz:base.objs.size<=s.heap.objs.size
 funs:s.heap.FunFrames base outer
 frf:∀b∈iW outer,H b=none
 hok:j9 P w H s.heap
 bare:AllBare s.gens
def CE(outer:List Env)(P:Program)(w:World)(H:Hp)(s:Shared)(Q:VK)(u:Value)(s':Shared):Prop :=
 ∃v H',s'.os=s.os/\AllBare s'.gens/\Un (iW outer) [] H H' s.heap s'.heap/\j9 P w H' s'.heap/\bK v u/\Q v H'
def CR(CX:vP)(outer:List Env)(P:Program)(w:World)(H:Hp)(s:Shared)(Q:VK)(E:XK)(r:Result)(s':Shared):Prop :=
 match r with
 | .ok (.ret u)=>CE outer P w H s Q u s'
 | .ok _=>False
 | .error e=>CX outer H s E e s'
structure cj (P:Program)(w:World)(K:W.Frag)(mg:Str->Option Value)(base:Heap)(CX:vP)(k:Nat)(f:Addr)(fd:FuncData)(ps:List Str)(sp:Sp):Prop where
 len:∀vs H Q E,sp vs H Q E->vs.length=ps.length
 run:∀(A:Around)(outer:List Env)(s:Shared)(H:Hp)(args:Args)(us:List Value)(vs:List V)(Q:VK)(E:XK),dz k A->qq P w K mg base A outer s H->BindsTo s fd args (ps.zip us)->aX vs us->sp vs H Q E ->
  codeAny (model P w) A (.call (.ref f) args) (CR CX outer P w H s Q E) s
section
variable {X:Cx}{pins:List (Addr×Obj)}{σ:St}{H:Hp}{s s':Shared}
theorem aH.env0(I:aH X pins σ H s):qq X.prog X.w X.K X.mg X.base X.A X.stack s H :=
 ⟨I.ok.frames,I.ok.mod,I.bs,YB I.ok.bsz I.sz,I.stack,I.stkFree,I.hok,I.bare⟩
theorem aH.after{Q:VK}{u:Value}(I:aH X pins σ H s)(h:CE X.stack X.prog X.w H s Q u s'):EP X pins σ Q u s':=by
 obtain⟨v,H',os,bare,un,hok,r,q⟩:=h;obtain⟨hh,g,d,t,os'⟩:=s';obtain rfl:os'=s.os:=os;exact⟨v,H',I.call (h':=hh) (g':=g) (d':=d) (t':=t) (ch:=[]) un hok bare (λb z=>absurd z (by simp)),r,q⟩
end
def JS(sp:Sp)(dvs:List V)(E:XK)(t:TA):TE:=λσ H Q=>t σ H λvs H1=>sp (vs++dvs) H1 Q E
def kW(K:W.Frag)(fd:FuncData)(ps:List Str)(ds:List Value):Prop :=
 ∀(s:Shared)(us:List Value),K.In s.heap->(us++ds).length=ps.length->BindsTo s fd ⟨us,[]⟩ (ps.zip (us++ds))
theorem kW.all{K:W.Frag}{fd:FuncData}{ps:List Str}(h:∀us:List Value,us.length=ps.length->bindArgs fd ⟨us,[]⟩=pure (ps.zip us)):kW K fd ps []:=λs us _ hl=>by
 rw[Xv] at hl ⊢;exact .of_eq (h us hl)
def wL(CX:vP)(X:Cx)(E:XK):Prop:=∀(pins:List (Addr×Obj))(σ:St)(H:Hp)(s:Shared)(e:Value)(s':Shared),aH X pins σ H s->CX X.stack H s E e s'->X.xe e s'
section
variable {X:Cx}{CX:vP}{k:Nat}{f C:Addr}{fd:FuncData}{ps:List Str}{sp:Sp}{dvs:List V}{ds:List Value}{E:XK}{x m:Str}{p pos apos:Pos}{e o:Expr}{es:List Expr}{ta:TE}{t:TA}
theorem IE{pins:List (Addr×Obj)}{σ:St}{H:Hp}{s:Shared}{Q:VK}{us:List Value}{vs:List V}(F:cj X.prog X.w X.K X.mg X.base CX k f fd ps sp)(hr:dz k X.A)(hb:kW X.K fd ps ds)(hd:aX dvs ds)(hx:wL CX X E)
  (I:aH X pins σ H s)(r:aX vs us)(h:sp (vs++dvs) H Q E):wpAny (model X.prog X.w) X.A (call (.ref f) us) (EP X pins σ Q) X.xe s:=by
 have r2:aX (vs++dvs) (us++ds):=r.append hd;have hl:(us++ds).length=ps.length:=by rw[<-r2.length];exact F.len _ _ _ _ h
 refine wpAny_call (codeAny_mono (F.run X.A X.stack s H ⟨us,[]⟩ (us++ds) (vs++dvs) Q E hr I.env0 (hb s us I.kIn hl) r2 h) λr s' hq=>?_);cases r with
 | error e=>exact hx pins σ H s e s' I hq
 | ok fl =>
  cases fl with
  | ret u=>exact I.after hq
  | next=>exact False.elim hq
  | brk=>exact False.elim hq
  | cont=>exact False.elim hq
theorem EQ(F:cj X.prog X.w X.K X.mg X.base CX k f fd ps sp)(hr:dz k X.A)(hg:Gl X x)(hm:X.mg x=some (.ref f))(hk:PySem.W.keepIn X.K (.ref f)=true)(hb:kW X.K fd ps ds)(hd:aX dvs ds)(hx:wL CX X E)
  (ha:PA X (e::es) t)(hdb:(x==("__debug__" : Str))=false:=by decide) (he:starEach (e::es) X.env=(false,eval e X.env)::starEach es X.env:=by rfl)(hpl:(backTo pos (starEach es X.env)).any (·.1)=false:=by rfl) :
  PE X (.Call (.Name x p) (e::es) [] pos) (JS sp dvs E t):=by
 intro pins s σ H Q I h;refine wpAny_Call_Name_kw (jY I hg hm ?_ hdb);refine PySem.W.callWith_K (h₀:=X.base) I.ok.mod.kin hk (dq (ha pos pins s σ H _ I h) λus s1 ⟨vs,H1,I1,r,q⟩=>⟨I1.kIn,?_⟩) he hpl;exact IE F hr hb hd hx I1 r q
end
structure aD (N P:List Str)(sc:Scope):Prop where
 kind:sc.kind=.function
 co:sc.isCoroutine=false
 gen:sc.isGenerator=false
 nd:N.Nodup
 pre:N.take P.length=P
 par:∀x∈P,sc.names.lookup x=some .local\/sc.names.lookup x=some .cell
 nofree:∀y∈sc.names,y.2 ≠ .free
theorem qV{kindOf:Str->Option NameKind}{x:Str}:∀{binds:List (Str×Value)}{m:Str->Option Value},(∀v,(x,v)∉binds)->bindL kindOf binds m x=m x
 | [],_,_=>rfl
 | (n,v)::r,m,h=>by
  unfold bindL;rw[qV λw hw=>h w (Yd _ hw)];split
  .have:x≠n:=by rintro rfl;exact h v Ye
   simp[this]
  .rfl
theorem qY{kindOf:Str->Option NameKind}{x:Str}:∀{binds:List (Str×Value)}{m:Str->Option Value},(∀v,(x,v)∉binds)->bindC kindOf binds m x=m x
 | [],_,_=>rfl
 | (n,v)::r,m,h=>by
  unfold bindC;rw[qY λw hw=>h w (Yd _ hw)];split
  .rfl
  .have:x≠n:=by rintro rfl;exact h v Ye
   simp[this]
theorem qT{kindOf:Str->Option NameKind}{x:Str}{v:Value}:∀{P:List Str}{vs:List Value}{i:Nat}{m:Str->Option Value},P.Nodup->P[i]? = some x->vs[i]? = some v->kindOf x=some .local ->
  bindL kindOf (P.zip vs) m x=some v
 | [],_,_,_,_,h,_,_=>by simp at h
 | _::_,[],_,_,_,_,h,_=>by simp at h
 | p::P,w::vs,0,m,nd,h1,h2,hk=>by
  simp at h1 h2;subst h1;subst h2;show bindL kindOf ((p,w)::P.zip vs) m p=_;unfold bindL;rw[qV λv hv=>(XQ.mp nd).1 (List.of_mem_zip hv).1,Yg hk];simp
 | p::P,w::vs,i+1,m,nd,h1,h2,hk=>by
  show bindL kindOf ((p,w)::P.zip vs) m x=_;unfold bindL;exact qT (i:=i) (XQ.mp nd).2 (by simpa using h1) (by simpa using h2) hk
theorem qD{kindOf:Str->Option NameKind}{x:Str}{v:Value}:∀{P:List Str}{vs:List Value}{i:Nat}{m:Str->Option Value},P.Nodup->P[i]? = some x->vs[i]? = some v->kindOf x≠some .local ->
  bindC kindOf (P.zip vs) m x=some v
 | [],_,_,_,_,h,_,_=>by simp at h
 | _::_,[],_,_,_,_,h,_=>by simp at h
 | p::P,w::vs,0,m,nd,h1,h2,hk=>by
  simp at h1 h2;subst h1;subst h2;show bindC kindOf ((p,w)::P.zip vs) m p=_;unfold bindC;rw[qY λv hv=>(XQ.mp nd).1 (List.of_mem_zip hv).1,Yc hk];simp
 | p::P,w::vs,i+1,m,nd,h1,h2,hk=>by
  show bindC kindOf ((p,w)::P.zip vs) m x=_;unfold bindC;exact qD (i:=i) (XQ.mp nd).2 (by simpa using h1) (by simpa using h2) hk
def start(N:List Str)(vs:List V):St:=vs.map some++List.replicate (N.length-vs.length) none
def gB(CX:vP)(P:Program)(w:World)(K:W.Frag)(mg:Str->Option Value)(base:Heap)(N:List Str)(qual:Str)(scope:Scope)(f:Addr)(cd:Value)(A:Around)(outer:List Env)(s:Shared)(H:Hp)(E:XK):Cx where
 prog:=P
 w:=w
 K:=K
 mg:=mg
 base:=base
 A:=A.deeper (envOfC qual scope s.heap.objs.size f cd)
 N:=N
 s₀:=s
 H₀:=H
 env:=envOfC qual scope s.heap.objs.size f cd
 outer:=outer
 stack:=envOfC qual scope s.heap.objs.size f cd::outer
 ex:=[]
 calm:=true
 fn:=λ_=>true
 pn:=[]
 xe:=λe s'=>wpAny (model P w) (A.deeper (envOfC qual scope s.heap.objs.size f cd)) (leaving (envOfC qual scope s.heap.objs.size f cd) e) (λ_ s''=>CX outer H s E e s'') (λe' s''=>CX outer H s E e' s'') s'
theorem uH{sc:Scope}{n:Nat}{x:Str}(h:sc.names.lookup x=some .cell):∃c,(cellsFrom n sc.names []).lookup x=some c:=by
 have q:=PySem.W.cellsFrom_some sc.names n [] (.inl h);exact Option.isSome_iff_exists.mp q
theorem rf{CX:vP}{P:Program}{w:World}{K:W.Frag}{mg:Str->Option Value}{base:Heap}{N ps:List Str}{qual:Str}{scope:Scope}{f:Addr}{cd:Value}{A:Around}{outer:List Env}{s s1:Shared}{H:Hp}{E:XK}{us:List Value}{vs:List V}
  (S:aD N ps scope)(hd:A.handled=none)(e0:qq P w K mg base A outer s H)(hl:vs.length=ps.length)(r:aX vs us)
  (x:InCallC s s.heap.objs.size (bindL (envOfC qual scope s.heap.objs.size f cd).kindOf (ps.zip us) λ_=>none) (cellsFrom (s.heap.objs.size+1) scope.names []) (bindC (envOfC qual scope s.heap.objs.size f cd).kindOf (ps.zip us) λ_=>none) s1) :
  aH (gB CX P w K mg base N qual scope f cd A outer s H E) [] (start N vs) H s1:=by
 have hpl:ps.length<=N.length:=by have:=X7 List.length S.pre;rw[Yv] at this;nofun
 obtain⟨h1,tk,rfl,hk⟩:=x.done;have noA:∀b:Addr,b∉(gB CX P w K mg base N qual scope f cd A outer s H E).ex:=λb z=>absurd (show b∈([]:List Addr) from z) (by simp)
 refine⟨⟨e0.mod,S.kind,rfl,rfl,Yn _,λy z c h1 h2=>?_,λy hy=>?_,λy c _ h=>?_,λ_=>hd,Around.frames_deeper e0.frames,.inr ⟨rfl,rfl⟩,λb z=>absurd z (noA b),e0.bs,e0.bsz,λb _ _=>noA b,λb z=>absurd z (noA b),e0.funs,e0.frf⟩,
  rfl,e0.bare,Un.kept hk,⟨_,x.toInCall.ns,λi y v h1 h2 h3=>?_⟩,λy c h=>⟨_,x.cell y c h⟩,e0.hok.fresh (Yn _),λy c h=>?_,λp hp=>absurd (show p∈([]:List (Addr×Obj)) from hp) (by simp),e0.hok.kept hk,?_⟩
 .exact name_of_addr x.apart (Y1 h1) (Y1 h2)
 .have hy:scope.names.lookup y=some .cell\/scope.names.lookup y=some .free:=hy;rcases hy with hy|hy
  .exact uH hy
  .exact absurd rfl (S.nofree _ (Y1 hy))
 .exact X2 (x.above y c (Y1 h))
 .have hi:i<vs.length:=by
   unfold start at h2;by_cases hi:i<vs.length
   .exact hi
   .rw[YO (by simpa using hi)] at h2
    rw[List.getElem?_replicate] at h2;split at h2<;>cases h2
  have ha:vs[i]? = some v:=by
   unfold start at h2;rw[YW (by simpa using hi),Yj] at h2
   cases e:vs[i]? with
   | none=>rw[e] at h2;cases h2
   | some a=>rw[e] at h2;cases h2;rfl
  obtain⟨u,hu,rv⟩:=r.get ha;have hp:ps[i]? = some y:=by
   rw[<-S.pre,List.getElem?_take_of_lt ()];exact h1
  have ndP:ps.Nodup:=by rw[<-S.pre];exact S.nd.sublist (List.take_sublist _ _)
  refine⟨u,rv,?_⟩;rcases S.par y (YQ hp) with k|k
  .exact .inl ⟨k,qT ndP hp hu k⟩
  .obtain⟨c,e⟩:=uH (n:=s.heap.objs.size+1) k;refine .inr ⟨.inl k,c,e,?_⟩;have q:=x.cell y c e;rw[qD ndP hp hu (by show scope.names.lookup y≠_;rw[k];decide)] at q
   exact q
 .exact e0.hok.fresh (X2 (x.above y c (Y1 h)))
 .unfold start;show _=N.length;rw[Yx,Yb,List.length_replicate];nofun
theorem AC{CX:vP}{P:Program}{w:World}{K:W.Frag}{mg:Str->Option Value}{base:Heap}{k:Nat}{f:Addr}{name qual:Str}{params:Arguments}{body:List Stmt}{scope:Scope}{dV kV doc pm cdv ct oc:Value}{an od:Option Addr}
  {osl:Array (Option Value)}{N ps:List Str}{sp:Sp}(lk:K.lookup f=some ⟨oc,od,.func (PySem.W.fnOf name qual params body scope dV kV doc pm an cdv ct),osl⟩)(hcd:PySem.W.codeIn K cdv qual=true)(S:aD N ps scope)
  (len:∀vs H Q E,sp vs H Q E->vs.length=ps.length)
  (hbody:∀(A:Around)(outer:List Env)(s:Shared)(H:Hp)(vs:List V)(Q:VK)(E:XK),dz k (A.deeper (envOfC qual scope s.heap.objs.size f cdv))->sp vs H Q E ->
   ∃t,sR (gB CX P w K mg base N qual scope f cdv A outer s H E) body t/\t { nx:=λ_ H'=>Q .non H',rt:=Q } (start N vs) H) :
  cj P w K mg base CX (k+1) f (PySem.W.fnOf name qual params body scope dV kV doc pm an cdv ct) ps sp:=by
 refine⟨len,λA outer s H args us vs Q E hr e0 hb r hsp=>?_⟩;have hl:=len _ _ _ _ hsp;have KX:K.In s.heap:=e0.mod.kin.keeps λb o e=>(e0.bs b o e).1;have lim:s.heap.NoLimit:=e0.mod.nolimit.keeps λb o e=>(e0.bs b o e).1;have hkind:∀y∈ps.zip us,scope.names.lookup y.1=some .local\/(scope.names.lookup y.1=some .cell/\((cellsFrom (s.heap.objs.size+1) scope.names []).lookup y.1).isSome=true):=λ⟨n,v⟩ hy=>by
  rcases S.par n (List.of_mem_zip hy).1 with q|q
  .exact .inl q
  .exact .inr ⟨q,PySem.W.cellsFrom_some _ _ _ (.inl q)⟩
 refine codeAny_call_function hr.depth (KX _ _ lk) rfl S.co S.gen rfl (PySem.W.codeRec_of KX hcd) (hb _ _ _ _ ?_);refine wpAny_newFunctionEnv_cells S.kind hkind λenv he s1 x=>?_;subst he;refine⟨lim.keeps x.toInCall.keep,codeAny_func ?_⟩;obtain⟨t,ht,hq⟩:=hbody A outer s H vs Q E (hr.deeper _) hsp;have I:aH (gB CX P w K mg base N qual scope f cdv A outer s H E) [] (start N vs) H s1:=rf S hr.hd e0 hl r x;refine wpAny_mono (ht [] s1 (start N vs) H _ I hq) (λfl s' hs=>?_) λe s' hs=>hs;have fin:∀{σ':St}{H':Hp}{v:V}{u:Value},aH (gB CX P w K mg base N qual scope f cdv A outer s H E) [] σ' H' s'->bK v u->Q v H'->CE outer P w H s Q u s' :=
  λ{σ' H' v u} J rv q=>⟨v,H',J.os,J.bare,J.base,J.hok,rv,q⟩
 cases fl with
 | ret u =>
  obtain⟨v,σ',H',J,rv,q⟩:=hs;exact fin J rv q
 | next =>
  obtain⟨σ',H',J,q⟩:=hs;exact fin (v:=V.non) (u:=Value.none) J rfl q
 | brk =>
  obtain⟨_,_,_,q⟩:=hs;exact False.elim q
 | cont =>
  obtain⟨_,_,_,q⟩:=hs;exact False.elim q
section
variable {X:Cx}{x:Str}{p pos:Pos}{e:Expr}{es:List Expr}{t:TA}{id T:String}{r:List V->Hp->VK->Prop}
def Eu(r:List V->Hp->VK->Prop)(t:TA):TE:=λσ H Q=>t σ H λvs H1=>r vs H1 Q
theorem Aw(hc:fj X (.builtin id) r)(hg:Gl X x)(hm:X.mg x=none)(hv:bootBuiltins x=some (.builtin id))(ha:PA X (e::es) t)(hn:x ≠ "__name__":=by decide) (hdb:(x==("__debug__" : Str))=false:=by decide)
  (he:starEach (e::es) X.env=(false,eval e X.env)::starEach es X.env:=by rfl)(hpl:(backTo pos (starEach es X.env)).any (·.1)=false:=by rfl):PE X (.Call (.Name x p) (e::es) [] pos) (Eu r t):=by
 intro pins s σ H Q I h;refine wpAny_Call_Name_kw (jB I hg hm hv ?_ hn hdb);exact PyProof.Rows.callWith_builtin1 (dq (ha pos pins s σ H _ I h) λus s1 ⟨vs,H1,I1,r1,q1⟩=>hc pins s1 σ H1 vs us Q I1 r1 q1) he hpl
theorem zD(hc:fj X (.type T) r)(hg:Gl X x)(hm:X.mg x=none)(hv:bootBuiltins x=some (.type T))(ha:PA X (e::es) t)(hn:x ≠ "__name__":=by decide) (hdb:(x==("__debug__" : Str))=false:=by decide)
  (he:starEach (e::es) X.env=(false,eval e X.env)::starEach es X.env:=by rfl)(hpl:(backTo pos (starEach es X.env)).any (·.1)=false:=by rfl):PE X (.Call (.Name x p) (e::es) [] pos) (Eu r t):=by
 intro pins s σ H Q I h;refine wpAny_Call_Name_kw (jB I hg hm hv ?_ hn hdb);exact Xn (dq (ha pos pins s σ H _ I h) λus s1 ⟨vs,H1,I1,r1,q1⟩=>hc pins s1 σ H1 vs us Q I1 r1 q1) he hpl
end
end L2
namespace HT
open PySem PyProof.Rows
section
open PySem.SeqAt
open PySem.AutoSeq1 (wpAny_loadPart')
open PySem.MeetsSeq PySem.MeetsSeq2 PySem.MeetsSeq3
end
section
variable {prog:Program}{w:World}{A:Around}{E:Value->Shared->Prop}{s:Shared}
def sIx(n d:Nat):Option Int->Nat
 | none=>d
 | some v=>if v<0 then (v+(n:Int)).toNat else min v.toNat n
theorem yI(n d k:Nat):sIx n d (some (k:Int))=min k n:=by
 show (if (k:Int)<0 then ((k:Int)+(n:Int)).toNat else min (k:Int).toNat n)=min k n
 rw[Yc (),XB]
theorem HQ(n d:Nat)(hd:d<=n)(o:Option Int):sIx n d o<=n:=by
 cases o with
 | none=>exact hd
 | some v =>
  show (if v<0 then (v+(n:Int)).toNat else min v.toNat n)<=n
  by_cases hv:v<0
  .rw[Yg hv];nofun
  .rw[Yc hv];exact Nat.min_le_right _ _
theorem xh(v:Int)(n d:Nat):(if v<0 then max (v+(n:Int)) 0 else min v (n:Int))=((sIx n d (some v):Nat):Int):=by
 show (if v<0 then max (v+(n:Int)) 0 else min v (n:Int))=(((if v<0 then (v+(n:Int)).toNat else min v.toNat n):Nat):Int)
 by_cases hv:v<0
 .simp only[Yg hv];nofun
 .simp only[Yc hv];nofun
theorem v9(lo hi:Option Int)(n:Nat):Builtin.Slice.sliceAdjust lo hi 1 (n:Int)=(((sIx n 0 lo:Nat):Int),((sIx n n hi:Nat):Int)):=by
 have h1:¬ ((1:Int)<0):=();unfold Builtin.Slice.sliceAdjust;simp only[h1,if_false];refine Prod.ext ?_ ?_
 .cases lo with
  | none=>rfl
  | some v=>exact xh v n 0
 .cases hi with
  | none=>rfl
  | some v=>exact xh v n n
theorem wQ (i j:Nat):Builtin.Slice.slicePlaces (i:Int) (j:Int) 1=j-i:=by
 unfold Builtin.Slice.slicePlaces;have h1:(1:Int) > 0:=();simp only[h1,if_true,Int.ediv_one];split<;>nofun
theorem pQ{v:Value}{o:Option Int}{Q:Option Int->Shared->Prop}(p:IsPart v o)(h:Q o s):wpAny (model prog w) A (Builtin.Slice.slicePartIndex v) Q E s:=by
 cases p with
 | none=>exact slicePart_none h
 | int i t=>exact slicePart_int h
theorem mR{sl:Addr}{vl vu:Value}{lo hi:Option Int}{n:Nat}{Q:Int×Int×Nat->Shared->Prop}(hs:s.heap.IsSliceOf sl vl vu .none)(pl:IsPart vl lo)(pu:IsPart vu hi)
  (h:Q (((sIx n 0 lo:Nat):Int),1,sIx n n hi-sIx n 0 lo) s):wpAny (model prog w) A (Builtin.Slice.sliceApplied (.ref sl) (pure (n:Int))) Q E s:=by
 obtain⟨os,hos,hcs,hds⟩:=id hs;unfold Builtin.Slice.sliceApplied Builtin.Slice.sliceFields;refine wpAny_bind (wpAny_bind (wpAny_field hos hds (x:=vl) rfl (wpAny_bind (wpAny_field hos hds (x:=vu) rfl (wpAny_bind (wpAny_field hos hds (x:=.none) rfl (wpAny_pure ?_)))))));refine wpAny_bind (slicePart_none ?_);show wpAny _ _ (if ((1:Int)==0)=true then _ else _) _ _ s
 rw[Yc ∅];refine wpAny_bind (pQ pl (wpAny_bind (pQ pu (wpAny_bind (wpAny_pure ?_)))));show wpAny _ _ (match Builtin.Slice.sliceAdjust lo hi 1 (n:Int) with|(lo,hi)=>pure (lo,(1:Int),Builtin.Slice.slicePlaces lo hi 1)) _ _ s
 rw[v9 lo hi n];show wpAny _ _ (pure (((sIx n 0 lo:Nat):Int),(1:Int),Builtin.Slice.slicePlaces ((sIx n 0 lo:Nat):Int) ((sIx n n hi:Nat):Int) 1)) _ _ s;rw[wQ];exact wpAny_pure h
theorem BY(xs:Array Value)(i k:Nat):((List.range k).filterMap λ(m:Nat)=>xs[((i:Int)+(m:Int)*1).toNat]?).toArray=((xs.toList.drop i).take k).toArray:=by
 have e:(λ(m:Nat)=>xs[((i:Int)+(m:Int)*1).toNat]?)=λm=>xs[i+m]?:=by
  funext m;have:((i:Int)+(m:Int)*1).toNat=i+m:=();rw[this]
 rw[e];have:=pick_run xs i k;rw[List.filterMap_map] at this;have e2:((λx=>xs[x]?) ∘ λx=>i+x)=λm=>xs[i+m]?:=rfl;rw[e2] at this;rw[this]
theorem getItem_tuple_cut{t sl:Addr}{items:Array Value}{vl vu:Value}{lo hi:Option Int}{Q:Value->Shared->Prop}(ht:IsTup s.heap t items)(hs:s.heap.IsSliceOf sl vl vu .none)(pl:IsPart vl lo)(pu:IsPart vu hi)
  (hw:¬ (sIx items.size 0 lo=0/\sIx items.size items.size hi=items.size))
  (h:Q (.ref s.heap.objs.size) { s with heap:=s.heap.push { cls:=.type "tuple",data:=.seq ((items.toList.drop (sIx items.size 0 lo)).take (sIx items.size items.size hi-sIx items.size 0 lo)).toArray } })
  (hsz:items.size<=sizeLine):wpAny (model prog w) A (getItem (.ref t) (.ref sl)) Q E s:=by
 have htake:sizeOk (.seq ((items.toList.drop (sIx items.size 0 lo)).take (sIx items.size items.size hi-sIx items.size 0 lo)).toArray):=by
  show ((items.toList.drop (sIx items.size 0 lo)).take (sIx items.size items.size hi-sIx items.size 0 lo)).toArray.size<=sizeLine;rw[Yu,Yv,List.length_drop,Array.length_toList];nofun
 have hj:sIx items.size items.size hi<=items.size:=HQ _ _ (Yn _) hi;obtain⟨os,hos,hcs,hds⟩:=id hs;have hTs:s.TypeIs (.ref sl) "slice":=⟨os,hos,hcs⟩;unfold getItem
 try with_reducible refine wpAny_holding ?_
 first|refine wpAny_bind (wpAny_pure ?_)|skip
 refine wpAny_bind (wpAny_sequenceKey ht.typeIs ∅ ?_);refine wpAny_bind (wpAny_callSpecial?_slot (name:=Str.ofString "__getitem__") ht.typeIs PyProof.Rows.slot_tuple_getitem
  (wpAny_call_entry PyProof.Rows.slot_tuple_getitem ht.typeIs entry_tuple_getitem ?_ (args_tuple_getitem _ _)))
 show wpAny _ _ (Builtin.Tuple.tupleItemsOf (.ref t) >>= _) _ _ s;refine wpAny_bind (tupleItemsOf_ ht ?_);refine wpAny_bind (wpAny_typeOf hTs ?_);rw[Yg ∅];refine wpAny_bind (mR hs pl pu ?_);have hno:¬ ((((sIx items.size 0 lo:Nat):Int)==0 && (1:Int)==1 && (sIx items.size items.size hi-sIx items.size 0 lo)==items.size)=true):=by
  intro q;rw[Xl,Xl] at q;have q1:((sIx items.size 0 lo:Nat):Int)=0:=eq_of_beq q.1.1;have q2:sIx items.size items.size hi-sIx items.size 0 lo=items.size:=eq_of_beq q.2;exact hw ⟨(),()⟩
 show wpAny _ _ (if (((sIx items.size 0 lo:Nat):Int)==0 && (1:Int)==1 && (sIx items.size items.size hi-sIx items.size 0 lo)==items.size)=true then _ else _) _ _ s
 rw[Yc hno,BY]
 first
  | exact wpAny_bind (m:=Builtin.Tuple.tupleExact _) (wpAny_newObj_type (wpAny_pure ⟨_,rfl,wpAny_pure h⟩) htake)
  | exact wpAny_bind (m:=Builtin.Tuple.tupleExact _) (wpAny_newObj_type (wpAny_bind (wpAny_pure (wpAny_pure ⟨_,rfl,wpAny_pure h⟩))) htake)
  | exact wpAny_bind (wpAny_bind (m:=Builtin.Tuple.tupleExact _) (wpAny_newObj_type (wpAny_pure (wpAny_pure ⟨_,rfl,wpAny_pure h⟩)) htake))
  | exact wpAny_bind (wpAny_bind (m:=Builtin.Tuple.tupleExact _) (wpAny_newObj_type (wpAny_pure ⟨_,rfl,wpAny_pure h⟩) htake))
end
end HT
namespace L2
open PySem PySem.Spec PyProof.Rows
abbrev TO:=St->Hp->(Option Int->Hp->Prop)->Prop
def PO(X:Cx)(e:Option Expr)(t:TO):Prop :=
 ∀(pins:List (Addr×Obj))(s:Shared)(σ:St)(H:Hp)(Q:Option Int->Hp->Prop),aH X pins σ H s->t σ H Q ->
  wpAny (model X.prog X.w) X.A (evalPart e X.env) (λu s'=>∃o H',aH X pins σ H' s'/\IsPart u o/\Q o H') X.xe s
def tD:TO:=λ_ H Q=>Q none H
def x9(t:TE):TO:=λσ H Q=>t σ H λx H1=>∃i,x=.int i/\Q (some i) H1
section
variable {X:Cx}{e:Expr}{te:TE}{lo hi:Option Expr}{tl th:TO}{pos p2:Pos}
theorem Fa:PO X none tD:=by
 intro pins s σ H Q I h;rw[evalPart_none];exact wpAny_pure ⟨none,H,I,.none,h⟩
theorem ER(h:PE X e te):PO X (some e) (x9 te):=by
 intro pins s σ H Q I hw;rw[evalPart_some];refine dq (h pins s σ H _ I hw) λu s1 ⟨x,H1,I1,r1,q1⟩=>?_;obtain⟨i,rfl,q⟩:=q1;obtain⟨t,rfl⟩:=r1;exact⟨some i,H1,I1,.int i t,q⟩
def Aj(X:Cx)(r:V->Option Int->Option Int->Hp->VK->Prop):Prop :=
 ∀(pins:List (Addr×Obj))(s:Shared)(σ:St)(H:Hp)(x:V)(v vl vu:Value)(lo hi:Option Int)(sl:Addr)(Q:VK),aH X pins σ H s->bK x v->s.heap.IsSliceOf sl vl vu .none->IsPart vl lo->IsPart vu hi->r x lo hi H Q ->
  ∃T id,typeLookup (.type T) "__getitem__" = pure (some (.builtin id))/\s.TypeIs v T/\wpAny (model X.prog X.w) X.A (getItem v (.ref sl)) (EP X pins σ Q) X.xe s
def Lf(r:V->Option Int->Option Int->Hp->VK->Prop)(te:TE)(tl th:TO):TE:=λσ H Q=>te σ H λx H1=>tl σ H1 λl H2=>th σ H2 λu H3=>r x l u H3 Q
theorem BX{r:V->Option Int->Option Int->Hp->VK->Prop}(hr:Aj X r)(he:PE X e te)(hl:PO X lo tl)(hu:PO X hi th):PE X (.Subscript e (.Slice lo hi none p2) pos) (Lf r te tl th):=by
 intro pins s σ H Q I h;refine Subscript_ (dq (he pins s σ H _ I h) λv s1 ⟨x,H1,I1,r1,q1⟩=>?_);refine wpAny_Slice (dq (hl pins s1 σ H1 _ I1 q1) λvl s2 ⟨l,H2,I2,pl,q2⟩=>dq (hu pins s2 σ H2 _ I2 q2) λvu s3 ⟨u,H3,I3,pu,q3⟩=>?_);rw[evalPart_none];refine wpAny_pure ?_;have I4:aH X pins σ H3 { s3 with heap:=s3.heap.push { cls:=.type "slice",data:=.fields #[vl,vu,.none] } }:=I3.kept (t':=s3.toks) λb ob q=>Heap.get?_push_of_some _ q
 obtain⟨T,id,hT,ht,hg⟩:=hr pins { s3 with heap:=s3.heap.push { cls:=.type "slice",data:=.fields #[vl,vu,.none] } } σ H3 x v vl vu l u s3.heap.objs.size Q I4 r1 (Heap.IsSliceOf.new ..) pl pu q3;show wpAny (model X.prog X.w) X.A (subscriptTail e (.Slice lo hi none p2) v (.ref s3.heap.objs.size)) (EP X pins σ Q) X.xe { s3 with heap:=s3.heap.push { cls:=.type "slice",data:=.fields #[vl,vu,.none] } }
 exact tail_any (ops:=[.ref s3.heap.objs.size,v]) ht hT hg (by with_unfolding_all rfl)
def ju(xs:List V)(lo hi:Option Int):List V:=(xs.drop (HT.sIx xs.length 0 lo)).take (HT.sIx xs.length xs.length hi-HT.sIx xs.length 0 lo)
theorem ni(xs:List V)(lo hi:Option Int):(ju xs lo hi).length<=xs.length:=by
 unfold ju;rw[Yv,List.length_drop];nofun
def Ll(K:W.Frag):V->Option Int->Option Int->Hp->VK->Prop:=λx lo hi H Q=>∃a xs,x=.ref a/\wB K H a xs /\
 ¬ (HT.sIx xs.length 0 lo=0/\HT.sIx xs.length xs.length hi=xs.length) /\ ∀p,H p=none->Q (.ref p) (upd H p (.tup (ju xs lo hi)))
theorem GH:Aj X (Ll X.K):=by
 intro pins s σ H x v vl vu lo hi sl Q I rx hs pl pu h;obtain⟨a,xs,rfl,hx,hw,q⟩:=h;cases rx;obtain⟨its,r,ht,hz⟩:=I.tuple hx;have hlen:its.toArray.size=xs.length:=by rw[Yu];exact r.length.symm
 refine⟨"tuple",_,PyProof.Rows.slot_tuple_getitem.lookup,ht.typeIs,?_⟩;refine HT.getItem_tuple_cut ht hs pl pu (by rw[hlen];exact hw) ?_ (by rw[hlen];exact hz)
 rw[hlen];refine⟨.ref s.heap.objs.size,_,I.laid (t':=s.toks) (o:=.tup (ju xs lo hi)) (λb ob q=>Heap.get?_push_of_some _ q) (Yn _) ?_,rfl,q _ (I.hok.fresh (Yn _))⟩;exact⟨YB (ni xs lo hi) hz,_,(r.drop (HT.sIx xs.length 0 lo)).take (HT.sIx xs.length xs.length hi-HT.sIx xs.length 0 lo),IsTup.new _ _⟩
end
def vB(n:Nat)(i:Int):Option Nat:=if 0<=i then (if i<n then some i.toNat else none) else if -(n:Int)<=i then some (i+n).toNat else none
def pE{α:Type}(xs:List α)(i:Int):Option α:=(vB xs.length i).bind λj=>xs[j]?
theorem xj{n:Nat}{i:Int}{j:Nat}(h:vB n i=some j):seqIndex? i n=some j/\j<n /\ -(n:Int)<=i/\i<n:=by
 unfold vB at h;by_cases h0:0<=i
 .rw[Yg h0] at h;by_cases h1:i<n
  .rw[Yg h1] at h;have e:i.toNat=j:=Xb h;exact⟨by rw[seqIndex_of h0 h1,e],(),(),h1⟩
  .rw[Yc h1] at h;cases h
 .rw[Yc h0] at h;by_cases h1 : -(n:Int)<=i
  .rw[Yg h1] at h;have e:(i+n).toNat=j:=Xb h;exact⟨by rw[seqIndex_neg () h1,e],(),h1,()⟩
  .rw[Yc h1] at h;cases h
theorem tf{α:Type}{xs:List α}{i:Int}{v:α}(h:pE xs i=some v):∃j,seqIndex? i xs.length=some j/\xs[j]? = some v/\j<xs.length /\ -(xs.length:Int)<=i/\i<xs.length:=by
 unfold pE at h;cases e:vB xs.length i with
 | none=>rw[e] at h;cases h
 | some j =>
  rw[e] at h;obtain⟨h1,h2,h3,h4⟩:=xj e;exact⟨j,h1,h,h2,h3,h4⟩
theorem cw{α:Type}{xs:List α}{j:Nat}{v:α}(h:xs[j]? = some v):pE xs (j:Int)=some v:=by
 have hj:j<xs.length:=(Ys.mp h).1;have e:vB xs.length (j:Int)=some j:=by
  unfold vB;rw[Yg (),Yg ()];simp
 unfold pE;rw[e];exact h
theorem Ax{α:Type}(xs:List α)(v:α):pE (xs++[v]) (-1)=some v:=by
 have hl:(xs++[v]).length=xs.length+1:=by simp
 have e:vB (xs++[v]).length (-1)=some xs.length:=by
  unfold vB;rw[hl,Yc ∅,Yg ()];congr 1
  nofun
 unfold pE;rw[e];show (xs++[v])[xs.length]? = some v;simp
def yK(b:Expr):Prop:=∀o i,subscripted b false o i=operate [o,i] (getItem o i)
def wE(X:Cx)(r:R2):Prop :=
 ∀(value slice:Expr)(pins:List (Addr×Obj))(s:Shared)(σ:St)(H:Hp)(x y:V)(v u:Value)(Q:VK),aH X pins σ H s->bK x v->bK y u->r x y H Q ->
  subscripted slice false v u=operate [v,u] (getItem v u)->wpAny (model X.prog X.w) X.A (subscriptTail value slice v u) (EP X pins σ Q) X.xe s
def J9(X:Cx)(id:String)(r:V->List V->Hp->VK->Prop):Prop :=
 ∀(pins:List (Addr×Obj))(s:Shared)(σ:St)(H:Hp)(x:V)(xs:List V)(v:Value)(us:List Value)(Q:VK),aH X pins σ H s->bK x v->aX xs us->r x xs H Q ->
  wpAny (model X.prog X.w) X.A (call (.builtin id) (v::us)) (EP X pins σ Q) X.xe s
section
variable {X:Cx}{a b:Expr}{ta tb:TE}{pos:Pos}
theorem Js{r:R2}(hr:wE X r)(ha:PE X a ta)(hb:PE X b tb)(hs:yK b):PE X (.Subscript a b pos) (DW r ta tb):=by
 intro pins s σ H Q I h;exact Subscript_ (Ie ha hb I h λv u s2 x y H2 I2 rx ry q=>hr a b pins s2 σ H2 x y v u Q I2 rx ry q (hs _ _))
def Ka(K:W.Frag):R2:=λx y H Q=>∃p xs i v,x=.ref p/\y=.int i/\jz K H p xs/\pE xs i=some v/\Q v H
def Ju(K:W.Frag):R2:=λx y H Q=>∃p xs i v,x=.ref p/\y=.int i/\wB K H p xs/\pE xs i=some v/\Q v H
theorem xw:wE X (Ka X.K):=by
 intro value slice pins s σ H x y v u Q I rx ry h hs;obtain⟨p,xs,i,z,rfl,rfl,hq,he,q⟩:=h;cases rx;obtain⟨t,rfl⟩:=ry;obtain⟨its,r,pl,hz⟩:=I.list hq;obtain⟨j,h1,h2,h3,h4,h5⟩:=tf he;obtain⟨w,ew,rw'⟩:=r.get h2;have hl:=r.length;have hn:=mS;have fin:EP X pins σ Q w s:=⟨z,H,I,rw',q⟩;by_cases h0:0<=i
 .have hj:i.toNat=j:=by
   rw[seqIndex_of h0 h5] at h1;exact Xb h1
  exact item_listR pl.isList h0 () (by rw[hj];simpa using ew) fin hs
 .have hj:(i+(its.toArray.size:Int)).toNat=j:=by
   rw[seqIndex_neg () h4] at h1;rw[Yu,<-hl];exact Xb h1
  exact subscriptTail_builtinR (x:=w) pl.isList.typeIs slot_list_getitem.lookup
   (wpAny_getItem_list_neg (Q:=λr s'=>r=w/\EP X pins σ Q r s') pl.isList () (by rw[Yu]<;>nofun) () (by rw[hj];simpa using ew) ⟨rfl,fin⟩) hs
theorem IW:wE X (Ju X.K):=by
 intro value slice pins s σ H x y v u Q I rx ry h hs;obtain⟨p,xs,i,z,rfl,rfl,hq,he,q⟩:=h;cases rx;obtain⟨t,rfl⟩:=ry;obtain⟨its,r,pl,hz⟩:=I.tuple hq;obtain⟨j,h1,h2,h3,h4,h5⟩:=tf he;obtain⟨w,ew,rw'⟩:=r.get h2;have hl:=r.length;have hn:=mS;have fin:EP X pins σ Q w s:=⟨z,H,I,rw',q⟩;exact subscriptTail_builtinR (x:=w) pl.typeIs slot_tuple_getitem.lookup
  (getItem_tuple (j:=j) (Q:=λr s'=>r=w/\EP X pins σ Q r s') pl () () (by rw[Yu,<-hl];exact h1) (by simpa using ew) ⟨rfl,fin⟩) hs
theorem vO(its:List Value)(n j:Nat)(u:Value):Obj.mapSeq (·.setIfInBounds j u) { cls:=.type "list",data:=.seq its.toArray n } = { cls:=.type "list",data:=.seq (its.set j u).toArray n }:=by
 simp[Obj.mapSeq]
theorem aH.lst{pins:List (Addr×Obj)}{σ:St}{H:Hp}{s:Shared}{p:Addr}{xs:List V}(I:aH X pins σ H s)(h:H p=some (.lst xs)) :
  ∃(its:List Value)(n:Nat),aX xs its/\s.heap.get? p=some { cls:=.type "list",data:=.seq its.toArray n } /\ xs.length<=sizeLine:=by
 obtain⟨z,its,n,r,e⟩:=I.hok p _ h;exact⟨its,n,r,e,z⟩
theorem aH.lstUpd{pins:List (Addr×Obj)}{σ:St}{H:Hp}{s:Shared}{p:Addr}{xs ys:List V}{its its':List Value}{n n':Nat}{f:Obj->Obj}(I:aH X pins σ H s)(h:H p=some (.lst xs))
  (ho:s.heap.get? p=some { cls:=.type "list",data:=.seq its.toArray n }) (hf:f { cls:=.type "list",data:=.seq its.toArray n } = { cls:=.type "list",data:=.seq its'.toArray n' }) (r:aX ys its')(hz:ys.length<=sizeLine)(t:Nat) :
  aH X pins σ (upd H p (.lst ys)) { s with heap:=s.heap.update p f,toks:=t }:=by
 have e:(s.heap.update p f).get? p=some { cls:=.type "list",data:=.seq its'.toArray n' }:=by
  rw[Heap.get?_update_self f ho (by rw[hf]<;>rfl),hf]
 refine I.write (x:=p) (e:=p) (by rw[h];trivial) (.inl rfl) (λb u hb q=>(Heap.get?_update_other _ _ (Ne.symm hb)).trans q) ⟨_,e⟩ ?_
 exact⟨hz,its',n',r,e⟩
def J7:V->V->V->Hp->(Hp->Prop)->Prop:=λo i v H Q=>∃p xs k j,o=.ref p/\i=.int k/\H p=some (.lst xs)/\vB xs.length k=some j/\Q (upd H p (.lst (xs.set j v)))
theorem Aq:yY X J7:=by
 intro pins s σ H o i v ov iv u Q I ro ri rv h;obtain⟨p,xs,k,j,rfl,rfl,hp,hj,q⟩:=h;cases ro;obtain⟨t,rfl⟩:=ri;obtain⟨its,n,r,ho,hz⟩:=I.lst hp;obtain⟨h1,h2,h3,h4⟩:=xj hj;have hl:=r.length;have hn:=mS;have I':aH X pins σ (upd H p (.lst (xs.set j v))) { s with heap:=s.heap.update p (Obj.mapSeq (·.setIfInBounds j u)) } :=
  I.lstUpd hp ho (vO its n j u) (r.set rv j) (by rw[XX];exact hz) s.toks
 by_cases h0:0<=k
 .have hk:k.toNat=j:=by
   rw[seqIndex_of h0 h4] at h1;exact Xb h1
  exact PySem.W.ki_setAt ho h0 () (by rw[Yu,<-hl];exact h4) (by rw[hk];exact⟨_,I',q⟩)
 .have hk:(k+(its.toArray.size:Int)).toNat=j:=by
   rw[seqIndex_neg () h3] at h1;rw[Yu,<-hl];exact Xb h1
  exact PySem.W.ki_setBack ho () (by rw[Yu,<-hl];exact h3) () (by rw[hk];exact⟨_,I',q⟩)
theorem rX(lo hi:Option Int)(n:Nat):(sliceBounds lo hi none n).1=((HT.sIx n 0 lo:Nat):Int)/\(sliceBounds lo hi none n).2.1=((HT.sIx n n hi:Nat):Int)/\(sliceBounds lo hi none n).2.2=1:=by
 refine⟨?_,?_,rfl⟩
 .cases lo with
  | none=>simp[sliceBounds,HT.sIx]
  | some i =>
   simp only[sliceBounds,HT.sIx,Option.getD_none,show (1:Int) > 0 by decide,if_true]
   by_cases h:i<0
   .simp only[h,if_true]<;>nofun
   .simp only[h,if_false]<;>nofun
 .cases hi with
  | none=>simp[sliceBounds,HT.sIx]
  | some i =>
   simp only[sliceBounds,HT.sIx,Option.getD_none,show (1:Int) > 0 by decide,if_true]
   by_cases h:i<0
   .simp only[h,if_true]<;>nofun
   .simp only[h,if_false]<;>nofun
theorem qj(its:List Value)(lo hi:Option Int):slicePick its.toArray lo hi none=((its.drop (HT.sIx its.length 0 lo)).take (HT.sIx its.length its.length hi-HT.sIx its.length 0 lo)).toArray:=by
 obtain⟨h1,h2,h3⟩:=rX lo hi its.toArray.size;unfold slicePick;rw[h1,h2,h3];simp only[sliceRange_one,pick_run,Yu]<;>rfl
def K6(K:W.Frag):V->Option Int->Option Int->Hp->VK->Prop:=λx lo hi H Q=>∃a xs,x=.ref a/\jz K H a xs /\ ∀p,H p=none->Q (.ref p) (upd H p (.lst (ju xs lo hi)))
theorem FA:Aj X (K6 X.K):=by
 intro pins s σ H x v vl vu lo hi sl Q I rx hs pl pu h;obtain⟨a,xs,rfl,hx,q⟩:=h;cases rx;obtain⟨its,r,ht,hz⟩:=I.list hx;have hlen:=r.length;refine⟨"list",_,slot_list_getitem.lookup,ht.isList.typeIs,?_⟩;refine wpAny_getItem_list_slice ht.isList hs pl pu .none (by simp) ?_ (by rw[Yu]<;>nofun)
 rw[qj,<-hlen];refine⟨.ref s.heap.objs.size,_,I.laid (t':=s.toks) (o:=.lst (ju xs lo hi)) (λb ob q=>Heap.get?_push_of_some _ q) (Yn _) ?_,rfl,q _ (I.hok.fresh (Yn _))⟩;exact⟨YB (ni xs lo hi) hz,_,0,(r.drop (HT.sIx xs.length 0 lo)).take (HT.sIx xs.length xs.length hi-HT.sIx xs.length 0 lo),Heap.get?_push_size _ rfl⟩
theorem jc:fj X (.builtin "len") (λxs H Q=>∃p ys,xs=[.ref p]/\(jz X.K H p ys\/wB X.K H p ys)/\Q (.int ys.length) H):=by
 intro pins s σ H xs us Q I r h;obtain⟨p,ys,rfl,hq,q⟩:=h;obtain⟨u,rfl,rx⟩:=uM r;cases rx;have hn:=mS;rcases hq with hq|hq
 .obtain⟨its,r',pl,hz⟩:=I.list hq;have hlen:=r'.length;exact Calls.call_len_list pl.isList (by simp only[Yu]<;>nofun) ⟨.int ys.length,H,I.tok _,⟨s.toks+1,by rw[Yu,hlen]⟩,q⟩
 .obtain⟨its,r',pl,hz⟩:=I.tuple hq;have hlen:=r'.length;exact len_tuple pl (by simp only[Yu]<;>nofun) ⟨.int ys.length,H,I.tok _,⟨s.toks+1,by rw[Yu,hlen]⟩,q⟩
theorem sH:fj X (.type "list") (λxs H Q=>∃p ys,xs=[.ref p]/\(jz X.K H p ys\/wB X.K H p ys) /\ ∀l,H l=none->Q (.ref l) (upd H l (.lst ys))):=by
 intro pins s σ H xs us Q I r h;obtain⟨p,ys,rfl,hq,q⟩:=h;obtain⟨u,rfl,rx⟩:=uM r;cases rx;have fin:∀(its:List Value),aX ys its->ys.length<=sizeLine -> ∀(h':Heap)(c':Nat),(∀b o',s.heap.get? b=some o'->h'.get? b=some o') ->
   h'.get? s.heap.objs.size=some { cls:=.type "list",dict:=none,data:=.seq its.toArray c',slots:=#[] } -> EP X pins σ Q (.ref s.heap.objs.size) { s with heap:=h' }:=λits r' hz h' c' kp e =>
  ⟨.ref s.heap.objs.size,_,I.laid (t':=s.toks) kp (Yn _) (show cO X.prog X.w _ h' _ (.lst ys) from ⟨hz,its,c',r',e⟩),rfl,q _ (I.hok.fresh (Yn _))⟩
 rcases hq with hq|hq
 .obtain⟨its,r',pl,hz⟩:=I.list hq;have hlen:=r'.length;obtain⟨o,ho,hc,n,hd⟩:=pl.isList;exact call_list_seq p (.inl rfl) ho hc hd (λh' c' kp e=>fin its r' hz h' c' kp e) (by simp only[Yu]<;>nofun)
 .obtain⟨its,r',pl,hz⟩:=I.tuple hq;have hlen:=r'.length;obtain⟨o,ho,hc,n,hd⟩:=pl;exact call_list_seq p (.inr rfl) ho hc hd (λh' c' kp e=>fin its r' hz h' c' kp e) (by simp only[Yu]<;>nofun)
def Jh(K:W.Frag)(T:String)(x:V)(H:Hp):Prop:=match x with
 | .str _=>T = "str"
 | .int _=>T = "int"
 | .ref p=>(T = "list" /\ ∃xs,jz K H p xs)\/(T = "tuple" /\ ∃o,K.lookup p=some o/\o.cls=.type "tuple" /\ o.dict=none) \/
   (T = "dict" /\ ((∃kvs,H p=some (.dK kvs)) \/ ∃kvs,H p=some (.dT kvs)))\/(T = "set" /\ ∃S n,H p=some (.set S n))
 | _=>False
theorem A2{pins:List (Addr×Obj)}{σ:St}{H:Hp}{s:Shared}{T:String}{x:V}{v:Value}(I:aH X pins σ H s)(r:bK x v)(ty:Jh X.K T x H) :
  s.TypeIs v T /\ ∀a,v=.ref a -> ∃ob,s.heap.get? a=some ob/\ob.dict=none:=by
 cases x with
 | str z =>
  obtain⟨t,rfl⟩:=r;cases (show T = "str" from ty)
  exact⟨typeIs_str s z t,λ_ e=>nomatch e⟩
 | int i =>
  obtain⟨t,rfl⟩:=r;cases (show T = "int" from ty)
  exact⟨typeIs_int s i t,λ_ e=>nomatch e⟩
 | ref p =>
  cases r;rcases ty with ⟨rfl,xs,hq⟩|⟨rfl,o,hk,hc,hd⟩|⟨rfl,hk⟩|⟨rfl,S,n,hk⟩
  .obtain⟨its,_,pl,_⟩:=I.list hq;refine⟨pl.isList.typeIs,λa e=>?_⟩;cases e;obtain⟨o,n,e,c,hd,_⟩:=pl;exact⟨o,e,hd⟩
  .refine⟨⟨o,I.kIn p o hk,hc⟩,λa e=>?_⟩;cases e;exact⟨o,I.kIn _ o hk,hd⟩
  .have z:∃o,s.heap.get? p=some o/\o.ExactDict:=by
    rcases hk with ⟨kvs,hk⟩|⟨kvs,hk⟩
    .obtain⟨_,_,_,_,o,_,_,e,ex,_⟩:=I.hok p _ hk;exact⟨o,e,ex⟩
    .obtain⟨_,_,_,_,o,_,_,e,ex,_⟩:=I.hok p _ hk;exact⟨o,e,ex⟩
   obtain⟨o,e,ex⟩:=z;refine⟨⟨o,e,ex.1⟩,λa e2=>?_⟩;cases e2;exact⟨o,e,ex.2.1⟩
  .obtain⟨o,_,_,_,e,ex,_⟩:=I.hok p _ hk;refine⟨⟨o,e,ex.1⟩,λa e2=>?_⟩;cases e2;exact⟨o,e,ex.2.1⟩
 | _=>exact False.elim ty
def Hk(K:W.Frag)(T:String)(r:V->List V->Hp->VK->Prop)(to:TE):TE:=λσ H Q=>to σ H λx H1=>Jh K T x H1/\r x [] H1 Q
def KY(K:W.Frag)(T:String)(r:V->List V->Hp->VK->Prop)(to:TE)(t:TA):TE:=λσ H Q=>to σ H λx H1=>Jh K T x H1/\t σ H1 λxs H2=>r x xs H2 Q
variable {o e:Expr}{es:List Expr}{to:TE}{t:TA}{name:Str}{apos cpos:Pos}{T id:String}{r:V->List V->Hp->VK->Prop}
theorem Gu(pa:PlainAttrs T)(slot:Slot T name id)(hty:typeOf (.builtin id)=pure (.type "method_descriptor")) (hm:J9 X id r)(ho:PE X o to)
  (hbase:attributeBase o name X.env (eval o X.env)=eval o X.env:=by rfl)(hline:(apos.endLine==cpos.line)=true:=by rfl):PE X (.Call (.Attribute o name apos) [] [] cpos) (Hk X.K T r to):=by
 intro pins s σ H Q I h;refine wpAny_Call_method0_late hbase hline (dq (ho pins s σ H _ I h) λv s1 ⟨x,H1,I1,r1,ty,q1⟩=>?_);obtain⟨h1,h2⟩:=A2 I1 r1 ty;exact⟨T,id,pa,slot,hty,h1,h2,Calls.callWith_builtin rfl (PySem.evalArgs_none (hm pins s1 σ H1 x [] v [] Q I1 r1 .nil q1))⟩
theorem J2(pa:PlainAttrs T)(slot:Slot T name id)(hty:typeOf (.builtin id)=pure (.type "method_descriptor")) (hm:J9 X id r)(ho:PE X o to)(ha:PA X (e::es) t)
  (hbase:attributeBase o name X.env (eval o X.env)=eval o X.env:=by rfl)
  (hfew:((backTo cpos (starEach (e::es) X.env)).all (λx=>!x.1) && (backToKw cpos (keywordEach [] X.env)).all (λx=>x.1.isSome)
   && decide ((e::es).length+([]:List Keyword).length+(if ([]:List Keyword).isEmpty then 0 else 1)<30))=true:=by rfl)
  (hline:(apos.endLine==cpos.line)=true:=by rfl)(hs:starEach (e::es) X.env=(false,eval e X.env)::starEach es X.env:=by rfl)(hplain:(backTo cpos (starEach es X.env)).any (·.1)=false:=by rfl) :
  PE X (.Call (.Attribute o name apos) (e::es) [] cpos) (KY X.K T r to t):=by
 intro pins s σ H Q I h;refine wpAny_Call_method_late hbase hfew hline rfl (dq (ho pins s σ H _ I h) λv s1 ⟨x,H1,I1,r1,ty,q1⟩=>?_);obtain⟨h1,h2⟩:=A2 I1 r1 ty;refine⟨T,id,pa,slot,hty,h1,h2,?_⟩;have hA:=ha cpos pins s1 σ H1 _ I1 q1;rw[hs] at hA ⊢;refine Calls.callWith_builtin (by show (false || (backTo cpos (starEach es X.env)).any (·.1))=false;rw[hplain]<;>rfl) (Calls.evalArgs_plain ?_)
 exact dq hA λus s2 ⟨vs,H2,I2,r2,q2⟩=>hm pins s2 σ H2 x vs v us Q I2 r1 r2 q2
end
def JF(X:Cx)(id:String)(r:V->List V->Hp->VK->Prop):Prop :=
 ∀(pins:List (Addr×Obj))(s:Shared)(σ:St)(H:Hp)(x:V)(xs:List V)(v:Value)(us:List Value)(Q:VK),aH X pins σ H s->bK x v->aX xs us->r x xs H Q ->
  wpAny (model X.prog X.w) X.A (call (.builtin id) (v::us)) (EP X pins σ Q) X.xe s
theorem aX.one:∀{x:V}{us:List Value},aX [x] us -> ∃u,us=[u]/\bK x u
 | _,_,.cons r .nil=>⟨_,rfl,r⟩
theorem aX.zero:∀{us:List Value},aX [] us->us=[]
 | _,.nil=>rfl
theorem aX.dropLast{xs:List V}{us:List Value}(h:aX xs us):aX xs.dropLast us.dropLast:=by
 induction h with
 | nil=>exact .nil
 | cons r t ih =>
  cases t with
  | nil=>exact .nil
  | cons q t'=>exact .cons r ih
theorem aX.rep{xs:List V}{us:List Value}(h:aX xs us):∀k:Nat,aX (List.replicate k xs).flatten (List.replicate k us).flatten
 | 0=>.nil
 | k+1=>by
  rw[Xm,Xm,List.flatten_cons,List.flatten_cons];exact aX.append h (aX.rep h k)
theorem vL{α:Type}(l:List α):l.eraseIdx (l.length-1)=l.dropLast:=by
 induction l with
 | nil=>rfl
 | cons a r ih =>
  cases r with
  | nil=>rfl
  | cons b r =>
   have e:(a::b::r).length-1=((b::r).length-1)+1:=by
    have h1:(a::b::r).length=r.length+2:=rfl;have h2:(b::r).length=r.length+1:=rfl;nofun
   rw[e,List.eraseIdx_cons_succ,ih]
   all_goals rfl
theorem rR(its:List Value):∀(k:Nat)(acc:List Value),
  List.foldl (λx1 x2=>x1++x2) acc.toArray (List.replicate k its.toArray)=(acc++(List.replicate k its).flatten).toArray
 | 0,acc=>by simp
 | k+1,acc=>by
  have e:acc.toArray++its.toArray=(acc++its).toArray:=by simp
  have e2:(acc++its)++(List.replicate k its).flatten=acc++(List.replicate (k+1) its).flatten:=by
   rw[Xm,List.flatten_cons,YZ]
  rw[<-e2,<-rR its k (acc++its),<-e,Xm,List.foldl_cons]
section
variable {X:Cx}{pins:List (Addr×Obj)}{σ:St}{H:Hp}{s:Shared}{l b:Addr}{xs ys zs:List V}
theorem aH.lset{its its':List Value}{n:Nat}{f:Array Value->Array Value}{t':Nat}(I:aH X pins σ H s)(hH:H l=some (.lst xs))
  (e:s.heap.get? l=some { cls:=.type "list",data:=.seq its.toArray n }) (hf:f its.toArray=its'.toArray)(hv:aX ys its')(hz:ys.length<=sizeLine) :
  aH X pins σ (upd H l (.lst ys)) { s with heap:=s.heap.update l (Obj.mapSeq f),toks:=t' }:=by
 have q:=PySem.IsL.update e f;rw[hf] at q;refine I.write (x:=l) (e:=l) (by rw[hH];exact trivial) (.inl rfl) (λb' u hb hu=>(Heap.get?_update_other s.heap (Obj.mapSeq f) (Ne.symm hb)).trans hu) ⟨_,q⟩ ?_
 exact⟨hz,its',_,hv,q⟩
theorem aH.lnew{its:List Value}{t':Nat}(I:aH X pins σ H s)(hv:aX ys its)(hz:ys.length<=sizeLine) :
  aH X pins σ (upd H s.heap.objs.size (.lst ys)) { s with heap:=s.heap.push { cls:=.type "list",data:=.seq its.toArray },toks:=t' } :=
 I.laid (λ_ _ q=>Heap.get?_push_of_some _ q) (Yn _) ⟨hz,its,0,hv,Heap.get?_push_size _ rfl⟩
theorem aH.fresh(I:aH X pins σ H s):H s.heap.objs.size=none:=I.hok.fresh (Yn _)
theorem aH.lstM(I:aH X pins σ H s)(hH:H l=some (.lst xs)):xs.length<=sizeLine /\ ∃(its:List Value)(n:Nat),aX xs its/\xs.length=its.length/\s.heap.get? l=some { cls:=.type "list",data:=.seq its.toArray n }:=by
 obtain⟨z,its,n,r,e⟩:=I.hok l _ hH;exact⟨z,its,n,r,r.length,e⟩
theorem Ct{n:Nat}(h:n<=sizeLine):Builtin.List.listTooLong n=false:=by
 unfold Builtin.List.listTooLong;exact Xh ()
end
section
variable {X:Cx}
def ED:V->List V->Hp->VK->Prop:=λx vs H Q=>∃l xs y,x=.ref l/\vs=[y]/\H l=some (.lst xs)/\xs.length<sizeLine/\Q .non (upd H l (.lst (xs++[y])))
theorem qA:JF X "list.append" ED:=by
 intro pins s σ H x vs v us Q I rx rv h;obtain⟨l,xs,y,rfl,rfl,hH,hz,q⟩:=h;cases rx;obtain⟨u,rfl,ru⟩:=rv.one;obtain⟨z,its,n,r,hl,e⟩:=I.lstM hH;refine call_meets F.slot_list_append ⟨_,e,rfl⟩ F.entry_list_append (F.args_list_append_2 _ _) (PySem.list_append l its.toArray n u (by rw[Yu];nofun)) ⟨e,?_⟩
 refine⟨.non,_,I.lset (its':=its++[u]) hH e (by simp) (r.append (.cons ru .nil)) ?_,rfl,q⟩
 rw[Yx,List.length_singleton];nofun
def Lk:V->List V->Hp->VK->Prop:=λx vs H Q=>∃l xs y,x=.ref l/\vs=[]/\H l=some (.lst xs)/\xs[xs.length-1]? = some y/\Q y (upd H l (.lst xs.dropLast))
theorem Gp:JF X "list.pop" Lk:=by
 intro pins s σ H x vs v us Q I rx rv h;obtain⟨l,xs,y,rfl,rfl,hH,hy,q⟩:=h;cases rx;have hus:=rv.zero;subst hus;obtain⟨z,its,n,r,hl,e⟩:=I.lstM hH;obtain⟨u,hu,ru⟩:=r.get hy;have hy':its.toArray[its.toArray.size-1]? = some u:=by
  show its.toArray[its.length-1]? = some u;rw[<-Array.getElem?_toList,<-hl];exact hu
 refine call_meets F.slot_list_pop ⟨_,e,rfl⟩ F.entry_list_pop (F.args_list_pop_1 _) (MeetsSeq.list_pop_last l its.toArray n u hy' (by rw[Yu];nofun)) ⟨e,?_⟩
 refine⟨y,_,I.lset (its':=its.dropLast) hH e ?_ r.dropLast ?_,ru,q⟩
 .show its.toArray.eraseIdxIfInBounds (its.toArray.size-1)=its.dropLast.toArray;rw[Yu,List.eraseIdxIfInBounds_toArray,vL]
 .rw[List.length_dropLast];nofun
def K0:R2:=λx y H Q=>∃l b xs zs,x=.ref l/\y=.ref b/\H l=some (.lst xs)/\H b=some (.lst zs)/\xs.length+zs.length<=sizeLine /\ ∀p,H p=none->Q (.ref p) (upd H p (.lst (xs++zs)))
theorem HX:gk X (binaryOp .Add) K0:=by
 intro pins s σ H x y v u Q I rx ry h;obtain⟨l,b,xs,zs,rfl,rfl,hH,hB,hz,q⟩:=h;cases rx;cases ry;obtain⟨z,its,n,r,hl,e⟩:=I.lstM hH;obtain⟨z2,its2,n2,r2,hl2,e2⟩:=I.lstM hB;refine PySem.P.add_list e e2 ?_ (by rw[Yu,Yu];nofun)
 have ea:its.toArray++its2.toArray=(its++its2).toArray:=by simp
 rw[ea];exact⟨.ref _,_,I.lnew (t':=s.toks) (r.append r2) (by rw[Yx];nofun),rfl,q _ I.fresh⟩
def Le:R2:=λx y H Q=>∃l k xs,x=.ref l/\y=.int k/\H l=some (.lst xs) /\ -(2^63)<=k/\k<2^63/\xs.length*k.toNat<=sizeLine /\
 ∀p,H p=none->Q (.ref p) (upd H p (.lst (List.replicate k.toNat xs).flatten))
theorem FG{α:Type}(xs:List α)(k:Nat):(List.replicate k xs).flatten.length=k*xs.length:=by
 induction k with
 | zero=>simp
 | succ k ih=>rw[Xm,List.flatten_cons,Yx,ih,Nat.succ_mul,Nat.add_comm]
theorem Hi:gk X (binaryOp .Mult) Le:=by
 intro pins s σ H x y v u Q I rx ry h;obtain⟨l,k,xs,rfl,rfl,hH,h1,h2,hz,q⟩:=h;cases rx;obtain⟨t,rfl⟩:=ry;obtain⟨z,its,n,r,hl,e⟩:=I.lstM hH;have hlen:its.toArray.size*k.toNat<=sizeLine:=by rw[Yu,<-hl];exact hz
 have hcap:¬ its.toArray.size*k.toNat > (2^63-1)/8:=by
  have:(sizeLine:Nat)<=(2^63-1)/8:=∅;nofun
 have hfit:¬ (!Builtin.List.listFitsIndex k)=true:=by
  rw[fitsIndex_both h1 h2];exact YM
 have hlong:¬ Builtin.List.listTooLong (its.toArray.size*k.toNat)=true:=by
  rw[Ct hlen];exact YM
 have hnew:List.foldl (λx1 x2=>x1++x2) #[] (List.replicate (if its.toArray.isEmpty=true then 0 else k.toNat) its.toArray)=(List.replicate k.toNat its).flatten.toArray:=by
  have f0:∀m:Nat,List.foldl (λx1 x2=>x1++x2) #[] (List.replicate m its.toArray)=(List.replicate m its).flatten.toArray:=λm=>by
   have:=rR its m [];rw[List.nil_append] at this;exact this
  rw[f0];cases its with
  | nil=>simp
  | cons a r'=>rw[Yc (by simp)]
 refine wpAny_binaryOp_repeat_ref (T:="list") (U:="int") ∅ ⟨_,e,rfl⟩ (λs'=>typeIs_int s' k t) noFill_list_mul F.fills_int_mul F.slot_int_rmul repeat_list F.slot_int_index.lookup
  (call_meets F.slot_int_rmul (typeIs_int s k t) F.entry_int_rmul (F.args_int_rmul_2 _ _) (int___rmul___int_list k t l its.toArray n)
   ⟨e,rfl,⟨_,e,rfl⟩,call_meets F.slot_list_mul ⟨_,e,rfl⟩ F.entry_list_mul (F.args_list_mul_2 _ _) (AutoListH.list___mul___list_int_3 l its.toArray n k t hfit hcap hlong) ⟨e,?_⟩⟩)
 rw[hnew];exact⟨.ref _,_,I.lnew (t':=s.toks) (r.rep k.toNat) (by rw[FG,X3];exact hz),rfl,q _ I.fresh⟩
end
end L2
namespace Att
open PySem PySem.W PySem.Calls PyProof.Rows
theorem nJ{P:Params}{h:Heap}:∀(ns:List Int)(vs:List Value),WellAll P h vs (ns.map WData.int)->IntsAre vs ns:=by
 intro ns;induction ns with
 | nil =>
  intro vs w;rw[XY] at w;cases w;exact .nil
 | cons n ns ih =>
  intro vs w;rw[Y4] at w;cases w with
  | cons a b =>
   cases a;exact .cons _ _ (ih _ b)
theorem zm{l:OpenLaw}{n:Nat}(hn:l.most=some n) {P:Params}{h:Heap}{args:List WData}{vals:List Value}
  (hpre:l.row.toRowW.claim.pre args=true)(hwl:WellAll P h vals args) :
  ∃a vs ns,vals=[Value.ref a]/\args=[WData.list (ns.map WData.int)]/\h.get? a=some { cls:=.type "list",data:=.seq vs.toArray } /\ IntsAre vs ns/\ns.length<=n:=by
 have hsh:WShape.hasAll [] args [.list .int]=true:=(pre_splitW hpre).1;have hc:l.pre.holds [] { args:=args } = true:=(pre_splitW hpre).2;obtain⟨d,r,rfl,h1,h2⟩:=hasAllW_cons hsh;obtain rfl:=hasAllW_nil h2;obtain⟨xs,rfl,h3⟩:=hasW_list h1;obtain⟨ns,rfl⟩:=items_int h3;have hlen:ns.length<=n:=by
  unfold OpenLaw.pre at hc;have h4:(WTm.not (.lt (.lit (.int (n:Int))) (.len (.arg 0)))).holds [] { args:=[.list (ns.map .int)] } = true:=by
   have h4:=(holds_andW hc).1;rw[hn] at h4;exact h4
  have h5:=condW_of h4 (w_not (w_lt w_lit (w_len_list (w_arg rfl))));rw[Yb] at h5;refine Nat.le_of_not_lt λq=>?_;have q':(n:Int)<((ns.length:Nat):Int):=()
  first
   | (rw[Xo q'] at h5;exact absurd h5 ∅)
   | (simp at h5;nofun)
 cases hwl with
 | cons w1 w2 =>
  cases w2;cases w1 with
  | list ho hall=>exact⟨_,_,ns,rfl,rfl,ho,nJ ns _ hall,hlen⟩
theorem ze(l:OpenLaw)(args:List WData):l.row.toRowW.claim.post args (.bool true) args=true :=
 postW_of (r:=l.row.toRowW) (X:=(true==true))
  (show WShape.has [] (.bool true) .bool=true by first|rfl|decide|simp[WShape.has,WShape.arms,WShape.armsAll])
  (show (WTm.eq .res (.lit (.bool true))).value [] { args:=args,res:=some (.bool true),after:=args } = some (.bool (true==true)) from w_eq_bool (w_res rfl) w_lit) rfl
theorem attach_call{l:OpenLaw}{n:Nat}{q:Program}{loose:List Str}{XP:(Str->Option Value)->Heap->Prop}{YP:World->Heap->Prop}{d:DefRec}
  (hn:l.most=some n)(hdf:d.params.defaults=[])
  (call:∀(w:World)(s₀ s₁:Shared)(mg mb:Str->Option Value)(fa:Addr)(o:Obj)(pm cd doc:Value)(a:Addr)(vs:List Value)(ns:List Int),
   Ground q loose [] XP w s₀ mg mb s₁.heap->YP w s₁.heap ->
   s₁.heap.get? fa=some o->o.data=.func (docDef d.name d.params d.body d.scope pm cd doc)->s₁.heap.CodeRec cd d.name->mg d.name=some (.ref fa) ->
   s₁.heap.get? a=some { cls:=.type "list",data:=.seq vs.toArray } -> IntsAre vs ns->ns.length<=n->s₁.gens = #[] ->
   codeAny (model l.prog w) callerA (.call (.ref fa) ⟨[.ref a],[]⟩) (λr s'=>r=.ok (.ret (.bool true))/\OldK s₁.heap s'.heap/\s'.os=s₁.os/\AllBare s'.gens) s₁) :
  WalkO q loose XP YP l.row.toRowW d [] (λf vs=>PySem.call f vs):=by
 intro w s₀ s₁ mg mb G Y fa o pm cd doc dV kV ho hd hcd hD hmg hg args vals as hpre hlay hrd hwl hlo;obtain rfl:dV=.none:=Dflts.none hD hdf;obtain rfl:kV=.none:=Dflts.noKw hD;obtain⟨a,vs,ns,rfl,rfl,hobj,hints,hlen⟩:=zm hn hpre hwl;refine enter_call (codeAny_mono (call w s₀ s₁ mg mb fa o pm cd doc a vs ns G Y ho (fd_plain hd) hcd hmg hobj hints hlen hg) λr s' hq=>?_);obtain⟨rfl,h2,h3,h4⟩:=hq;exact⟨.inl ⟨.bool true,.bool true,[],rfl,λ_=>rfl,.bool true,ze l _,λ_=>⟨List.Pairwise.nil,λ_ hm=>(nomatch hm)⟩⟩,h2,h3,h4⟩
end Att
namespace L2
open PySem PySem.Spec PyProof.Rows
theorem rA:∀{vs:List Value}{ns:List Int},IntsAre vs ns->aX (ns.map V.int) vs
 | _,_,.nil=>.nil
 | _,_,.cons n t h=>.cons ⟨t,rfl⟩ (rA h)
def aG(s:Stmt):Arguments:=match s with
 | .FunctionDef _ a _ _ _ _ _ _ _ _=>a
 | _=>{ posonlyargs:=[],args:=[],vararg:=none,kwonlyargs:=[],kw_defaults:=[],kwarg:=none,defaults:=[] }
def aA(s:Stmt):List Stmt:=match s with
 | .FunctionDef _ _ b _ _ _ _ _ _ _=>b
 | _=>[]
def ah(s:Stmt):Scope:=match s with
 | .FunctionDef _ _ _ _ _ _ sc _ _ _=>sc
 | _=>{ kind:=.function,names:=[],isGenerator:=false,isCoroutine:=false }
abbrev fW:vP:=λ_ _ _ _ _ _=>False
abbrev E0:XK:=λ_ _ _=>False
theorem J5{X:Cx}:wL fW X E0:=λ_ _ _ _ _ _ _ h=>h.elim
structure fY (K:W.Frag)(x qual:Str)(st:Stmt)(f:Addr)(fd:FuncData):Prop where
 ex:∃(oc:Value)(od:Option Addr)(kV doc pm:Value)(an:Option Addr)(cdv ct:Value)(osl:Array (Option Value)),
  fd=PySem.W.fnOf x qual (aG st) (aA st) (ah st) .none kV doc pm an cdv ct/\K.lookup f=some ⟨oc,od,.func fd,osl⟩/\PySem.W.codeIn K cdv qual=true
 kp:PySem.W.keepIn K (.ref f)=true
section
variable {P:Program}{w:World}{K:W.Frag}{mg:Str->Option Value}{base:Heap}
theorem fY.ok{x qual:Str}{st:Stmt}{f:Addr}{fd:FuncData}{N ps:List Str}{k:Nat}{sp:Sp}(F:fY K x qual st f fd)(S:aD N ps (ah st))(len:∀vs H Q E,sp vs H Q E->vs.length=ps.length)
  (hbody:∀(cdv:Value)(A:Around)(outer:List Env)(s:Shared)(H:Hp)(vs:List V)(Q:VK)(E:XK),dz k (A.deeper (envOfC qual (ah st) s.heap.objs.size f cdv))->sp vs H Q E ->
   ∃t,sR (gB fW P w K mg base N qual (ah st) f cdv A outer s H E).nox (aA st) t/\t { nx:=λ_ H'=>Q .non H',rt:=Q } (start N vs) H):cj P w K mg base fW (k+1) f fd ps sp:=by
 obtain⟨oc,od,kV,doc,pm,an,cdv,ct,osl,rfl,lk,hcd⟩:=F.ex;refine AC lk hcd S len λA outer s H vs Q E hr hsp=>?_;obtain⟨t,h,q⟩:=hbody cdv A outer s H vs Q E hr hsp;exact⟨t,h.nox,q⟩
theorem fY.binds{x qual:Str}{st:Stmt}{f:Addr}{fd:FuncData}{ps:List Str}(F:fY K x qual st f fd)
  (h:∀(kV doc pm:Value)(an:Option Addr)(cdv ct:Value)(us:List Value),us.length=ps.length->bindArgs (PySem.W.fnOf x qual (aG st) (aA st) (ah st) .none kV doc pm an cdv ct) ⟨us,[]⟩=pure (ps.zip us)):kW K fd ps []:=by
 obtain⟨oc,od,kV,doc,pm,an,cdv,ct,osl,rfl,lk,hcd⟩:=F.ex;exact .all (h kV doc pm an cdv ct)
theorem aQ{x qual:Str}{st:Stmt}{f:Addr}{oc:Value}{od an:Option Addr}{osl:Array (Option Value)}{kV doc pm cdv ct:Value}(l:K.lookup f=some ⟨oc,od,.func (PySem.W.fnOf x qual (aG st) (aA st) (ah st) .none kV doc pm an cdv ct),osl⟩)
  (c:PySem.W.codeIn K cdv qual=true)(k:PySem.W.keepIn K (.ref f)=true):fY K x qual st f (PySem.W.fnOf x qual (aG st) (aA st) (ah st) .none kV doc pm an cdv ct):=⟨⟨oc,od,kV,doc,pm,an,cdv,ct,osl,rfl,l,c⟩,k⟩
end
section
variable {X:Cx}
theorem pv(i:Nat){x:Str}{pos:Pos}(hN:X.N[i]? = some x:=by rfl)(hv:GR X.env.scope x:=by first|exact Or.inl rfl|exact Or.inr (Or.inl rfl)|exact Or.inr (Or.inr rfl))(hd:(x==("__debug__" : Str))=false:=by decide)
  (hcd:(x==("__classdict__" : Str))=false:=by decide):PE X (.Name x pos) (DX i):=BB hN hv hd hcd
end
theorem cZ{c A B:Prop} [Decidable c] (h1:c->A)(h2:¬ c->B):if c then A else B:=by
 by_cases h:c
 .rw[Yg h];exact h1 h
 .rw[Yc h];exact h2 h
def ay(H H':Hp):Prop:=∀b o,H b=some o->H' b=some o
theorem ay.refl(H:Hp):ay H H:=λ_ _ h=>h
theorem ay.trans{H H1 H2:Hp}(a:ay H H1)(b:ay H1 H2):ay H H2:=λc o h=>b c o (a c o h)
theorem ay.free{H H':Hp}(e:ay H H') {l:Addr}(h:H' l=Option.none):H l=Option.none:=by
 cases q:H l with
 | none=>rfl
 | some o =>
  rw[e l o q] at h;cases h
structure cg (P:Program)(w:World)(K:W.Frag)(mg:Str->Option Value)(base:Heap)(x:Str)(ps:List Str)(k:Nat)(sp:Sp):Prop where
 ex:∃f fd,cj P w K mg base fW k f fd ps sp/\mg x=some (.ref f)/\PySem.W.keepIn K (.ref f)=true/\kW K fd ps []
section
variable {X:Cx}{x:Str}{p pos:Pos}{e:Expr}{es:List Expr}{t:TA}{ps:List Str}{k:Nat}{sp:Sp}
def IZ(sp:Sp)(t:TA):TE:=λσ H Q=>t σ H λvs H1=>sp vs H1 Q E0
theorem GA(C:cg X.prog X.w X.K X.mg X.base x ps k sp)(hr:dz k X.A)(hg:Gl X x)(ha:PA X (e::es) t)(hdb:(x==("__debug__" : Str))=false:=by decide)
  (he:starEach (e::es) X.env=(false,eval e X.env)::starEach es X.env:=by rfl)(hpl:(backTo pos (starEach es X.env)).any (·.1)=false:=by rfl) :
  PE X (.Call (.Name x p) (e::es) [] pos) (IZ sp t):=by
 obtain⟨f,fd,F,hm,hk,hb⟩:=C.ex;intro pins s σ H Q I h;refine EQ (E:=E0) (dvs:=[]) F hr hg hm hk hb .nil J5 ha hdb he hpl pins s σ H Q I ?_;show t σ H λvs H1=>sp (vs++[]) H1 Q E0;have e:(λ(vs:List V) H1=>sp (vs++[]) H1 Q E0)=λvs H1=>sp vs H1 Q E0:=by
  funext vs H1;rw[Xv]
 rw[e];exact h
end
section
variable {X:Cx}
theorem DY:gk X (binaryOp .Mult) (rI IntMulOk λi j=>.int (i*j)):=Jf λ_ _ _ _ _ _ _ hc q=>mul_int q hc
def FX(_ j:Int):Prop:=j≠0/\j.natAbs.log2<9000
theorem pj:gk X (binaryOp .FloorDiv) (rI FX λi j=>.int (i.fdiv j)):=Jf λ_ _ _ _ _ _ _ hc q=>floordiv_int hc.1 q (.inl (PyProof.noPylong_of_log2 hc.2))
theorem gU:gk X (binaryOp .Mod) (rI (λ_ j=>j≠0) λi j=>.int (i.fmod j)):=Eg
end
theorem Ca{CX:vP}{P:Program}{w:World}{K:W.Frag}{mg:Str->Option Value}{base:Heap}{N:List Str}{qual:Str}{scope:Scope}{f:Addr}{cd:Value}{A:Around}{outer:List Env}{s:Shared}{H:Hp}{E:XK} :
  (gB CX P w K mg base N qual scope f cd A outer s H E).K=K:=rfl
def zB:List Value->Option (List V)
 | []=>some []
 | u::us=>match Jn u,zB us with
  | some x,some xs=>some (x::xs)
  | _,_=>none
theorem rJ:∀{us:List Value}{xs:List V},zB us=some xs->aX xs us
 | [],xs,h=>by cases h;exact .nil
 | u::us,xs,h=>by
  unfold zB at h;split at h
  .rename_i x ys e1 e2
   cases h;refine .cons ?_ (rJ e2);cases u<;>first|(cases e1;first|exact rfl|exact⟨_,rfl⟩)|cases e1
  .cases h
def Ea(o:Obj):Option HO:=match o.data with
 | .seq its _=>if o.cls=.type "tuple" /\ its.size<=sizeLine then (zB its.toList).map HO.tup else none
 | _=>none
def vw(K:W.Frag)(H:Hp):Hp:=λa=>match K.lookup a with
 | some o=>Ea o
 | none=>H a
theorem BI{o:Obj}{u:HO}(h:Ea o=some u):∃xs,u=.tup xs:=by
 unfold Ea at h;split at h
 .split at h
  .cases e:zB _ with
   | none=>rw[e] at h;cases h
   | some xs=>rw[e] at h;cases h;exact⟨xs,rfl⟩
  .cases h
 .cases h
theorem dD{K:W.Frag}{H:Hp}{a:Addr}(hk:K.lookup a=none):vw K H a=H a:=by
 unfold vw;rw[hk]
theorem mE{K:W.Frag}{H:Hp}{a:Addr}{xs:List V}(h:vw K H a=some (.tup xs)):wB K H a xs:=by
 unfold vw at h;split at h
 .rename_i o ho
  unfold Ea at h;split at h
  .rename_i its n hd
   split at h
   .rename_i hc
    cases e:zB its.toList with
    | none=>rw[e] at h;cases h
    | some ys =>
     rw[e] at h;cases h;exact .inr ⟨o,its,n,ho,hc.1,hd,hc.2,rJ e⟩
   .cases h
  .cases h
 .exact .of h
theorem ji{K:W.Frag}{H:Hp}{a:Addr}{u:HO}(h:vw K H a=some u)(hu:∀xs,u ≠ .tup xs):H a=some u:=by
 unfold vw at h;split at h
 .obtain⟨xs,rfl⟩:=BI h;exact absurd rfl (hu xs)
 .exact h
theorem aF{K:W.Frag}{H:Hp}{a:Addr}{xs:List V}(h:vw K H a=some (.lst xs)):H a=some (.lst xs):=ji h λ_ e=>by cases e
theorem kQ{K:W.Frag}{H H':Hp}(S:ay H H'):ay (vw K H) (vw K H'):=λb o e=>by
 unfold vw at e ⊢;split at e
 .exact e
 .exact S _ _ e
def gF(l:Addr)(H H':Hp):Prop:=∀b o,b≠l->H b=some o->H' b=some o
theorem tR{K:W.Frag}{l:Addr}{H H':Hp}(S:gF l H H'):gF l (vw K H) (vw K H'):=λb o hb e=>by
 unfold vw at e ⊢;split at e
 .exact e
 .exact S _ _ hb e
theorem aH.noK{X:Cx}{pins:List (Addr×Obj)}{σ:St}{H:Hp}{s:Shared}{p:Addr}{o:HO}(I:aH X pins σ H s)(h:H p=some o):X.K.lookup p=none:=by
 cases e:X.K.lookup p with
 | none=>rfl
 | some ob =>
  have:=(I.bs p ob (I.mod.kin p ob e)).2;rw[h] at this;cases this
theorem aH.newK{X:Cx}{pins:List (Addr×Obj)}{σ:St}{H:Hp}{s:Shared}{p:Addr}(I:aH X pins σ H s)(hp:s.heap.objs.size<=p):X.K.lookup p=none:=by
 cases e:X.K.lookup p with
 | none=>rfl
 | some o=>exact absurd (Yr (Heap.lt_size (I.kIn p o e)) hp) (XA _)
def Kf(K:W.Frag)(v:V)(H:Hp):Prop:=∀p o,v=.ref p->H p=some o->K.lookup p=none
section
variable {X:Cx}
theorem gk.kf{f:Value->Value->Sem Value}{r:R2}(h:gk X f r):gk X f (λx y H Q=>r x y H λv H'=>Kf X.K v H'->Q v H'):=λpins s σ H x y v u Q I rx ry q =>
 dq (h pins s σ H x y v u _ I rx ry q) λu' s' ⟨v',H',I',r',q'⟩=>⟨v',H',I',r',q' λp o _ hp=>I'.noK hp⟩
theorem fj.kf{f:Value}{r:List V->Hp->VK->Prop}(h:fj X f r):fj X f (λxs H Q=>r xs H λv H'=>Kf X.K v H'->Q v H'):=λpins s σ H xs us Q I rs q =>
 dq (h pins s σ H xs us _ I rs q) λu' s' ⟨v',H',I',r',q'⟩=>⟨v',H',I',r',q' λp o _ hp=>I'.noK hp⟩
theorem Aj.kf{r:V->Option Int->Option Int->Hp->VK->Prop}(h:Aj X r):Aj X (λx a b H Q=>r x a b H λv H'=>Kf X.K v H'->Q v H'):=by
 intro pins s σ H x v vl vu lo hi sl Q I rx hs pl pu q;obtain⟨T,id,e1,e2,e3⟩:=h pins s σ H x v vl vu lo hi sl _ I rx hs pl pu q;exact⟨T,id,e1,e2,dq e3 λu' s' ⟨v',H',I',r',q'⟩=>⟨v',H',I',r',q' λp o _ hp=>I'.noK hp⟩⟩
end
theorem ay.upd{H:Hp}{p:Addr}{o:HO}(hp:H p=none):ay H (upd H p o):=λb u e=>by
 rw[aL (ak e hp)];exact e
theorem gF.upd{H:Hp}{l:Addr}{o:HO}:gF l H (upd H l o):=λb u hb e=>by
 rw[aL hb];exact e
theorem ay.but{H H':Hp}(h:ay H H')(l:Addr):gF l H H':=λb o _ e=>h b o e
theorem gF.trans{l:Addr}{H H1 H2:Hp}(a:gF l H H1)(b:gF l H1 H2):gF l H H2:=λc o hc h=>b c o hc (a c o hc h)
theorem aH.big{X:Cx}{pins:List (Addr×Obj)}{σ:St}{H:Hp}{s:Shared}(I:aH X pins σ H s):sysModules<s.heap.objs.size:=by
 have h:mainGlobals<s.heap.objs.size:=(I.mod.glob.keeps I.bk).lt;exact Nat.lt_trans ∅ h
theorem Dq{P:Program}{w:World}{H:Hp}(h:Heap)(hb:sysModules<h.objs.size):cO P w H (h.push { cls:=.type "dict",data:=.dict #[] }) h.objs.size (.dK []) :=
 ⟨Y3 _,beq_eq_false_iff_ne.mpr (Ne.symm (YY hb)),[],.nil,Heap.DictOf.new h⟩
def KH(H:Hp):V->Option String
 | .non=>some "NoneType"
 | .bl _=>some "bool"
 | .int _=>some "int"
 | .str _=>some "str"
 | .ref a=>match H a with
  | some (.lst _)=>some "list"
  | some (.frz _ (.lst _))=>some "list"
  | some (.tup _)=>some "tuple"
  | some (.dK _)=>some "dict"
  | _=>none
 | _=>none
def qR(n c:String):Bool:=n==c || (n == "bool" && c == "int")
def Ix(n:String):Prop:=n = "NoneType" \/ n = "bool" \/ n = "int" \/ n = "str" \/ n = "list" \/ n = "tuple" \/ n = "dict"
def pc(c:String):Prop:=c = "bool" \/ c = "int" \/ c = "list" \/ c = "tuple" \/ c = "str" \/ c = "dict"
theorem fJ{K:W.Frag}{n c:String}(hn:Ix n)(hc:pc c):PySem.W.kitOne K (.type n) (.type c)=some (qR n c):=by
 rcases hn with rfl|rfl|rfl|rfl|rfl|rfl|rfl<;>rcases hc with rfl|rfl|rfl|rfl|rfl|rfl<;>rfl
section
variable {X:Cx}
theorem m5:fj X (.builtin "isinstance") (λxs H Q=>∃x c n,xs=[x,.ty c]/\pc c/\KH (vw X.K H) x=some n/\Q (.bl (qR n c)) H):=by
 intro pins s σ H xs us Q I r h;obtain⟨x,c,n,rfl,hc,hn,q⟩:=h;obtain⟨u,w',rfl,rx,ry⟩:=xM r;cases ry;have fin:∀tk,EP X pins σ Q (.bool (qR n c)) { s with toks:=tk }:=λtk=>⟨.bl _,H,I.tok tk,rfl,q⟩
 cases x with
 | non=>cases hn;exact gj I rx .non (fJ (.inl rfl) hc) fin
 | bl b=>cases hn;exact gj I rx (.bl b) (fJ (.inr (.inl rfl)) hc) fin
 | int b=>cases hn;exact gj I rx (.int b) (fJ (.inr (.inr (.inl rfl))) hc) fin
 | str b=>cases hn;exact gj I rx (.str b) (fJ (.inr (.inr (.inr (.inl rfl)))) hc) fin
 | flt b=>cases hn
 | byt b=>cases hn
 | ty b=>cases hn
 | ref a =>
  unfold KH at hn;dsimp only at hn;split at hn
  .rename_i e;cases hn;exact gj I rx (.lst (aF e)) (fJ (.inr (.inr (.inr (.inr (.inl rfl))))) hc) fin
  .rename_i e;cases hn;exact gj I rx (.frz (ji e λ_ z=>by cases z)) (fJ (.inr (.inr (.inr (.inr (.inl rfl))))) hc) fin
  .rename_i ys e
   cases hn;cases (show u=Value.ref a from rx)
   obtain⟨its,rv,p,hz⟩:=I.tuple (mE e);obtain⟨o,h1,h2,_⟩:=p;exact Xd PySem.W.kitx_tuple I.kIn ⟨o,h1,h2⟩ (fJ (.inr (.inr (.inr (.inr (.inr (.inl rfl)))))) hc) (λz=>nomatch z) fin
  .rename_i e;cases hn;exact gj I rx (.dK (ji e λ_ z=>by cases z)) (fJ (.inr (.inr (.inr (.inr (.inr (.inr rfl)))))) hc) fin
  .cases hn
end
theorem Eo:pc "int":=.inr (.inl rfl)
theorem De:pc "bool":=.inl rfl
theorem Bk:pc "list":=.inr (.inr (.inl rfl))
theorem yW:pc "tuple":=.inr (.inr (.inr (.inl rfl)))
theorem oU:bootBuiltins "abs" = some (.builtin "abs"):=by decide +kernel
theorem cC:bootBuiltins "len" = some (.builtin "len"):=by decide +kernel
theorem be:bootBuiltins "isinstance" = some (.builtin "isinstance"):=by decide +kernel
theorem wH:bootBuiltins "max" = some (.builtin "max"):=by decide +kernel
theorem AT:bootBuiltins "min" = some (.builtin "min"):=by decide +kernel
theorem sJ:bootBuiltins "int" = some (.type "int"):=by decide +kernel
theorem DO:bootBuiltins "bool" = some (.type "bool"):=by decide +kernel
theorem sO:bootBuiltins "list" = some (.type "list"):=by decide +kernel
theorem sQ:bootBuiltins "enumerate" = some (.type "enumerate"):=by decide +kernel
theorem vp:bootBuiltins "reversed" = some (.type "reversed"):=by decide +kernel
section
variable {X:Cx}
theorem wE.imp{r r':R2}(h:wE X r)(hi:∀x y H Q,r' x y H Q->r x y H Q):wE X r':=λv sl pins s σ H x y vv u Q I rx ry q hs=>h v sl pins s σ H x y vv u Q I rx ry (hi _ _ _ _ q) hs
theorem fj.imp{f:Value}{r r':List V->Hp->VK->Prop}(h:fj X f r)(hi:∀xs H Q,r' xs H Q->r xs H Q):fj X f r':=λpins s σ H xs us Q I rs q=>h pins s σ H xs us Q I rs (hi _ _ _ q)
def wP(K:W.Frag):R2:=λx y H Q=>∃p i,x=.ref p/\y=.int i /\ ∃xs,vw K H p=some (.lst xs) /\ ∃v,pE xs i=some v/\Q v H
def An(K:W.Frag):R2:=λx y H Q=>∃p i,x=.ref p/\y=.int i /\ ∃xs,vw K H p=some (.tup xs) /\ ∃v,pE xs i=some v/\Q v H
theorem eI:wE X (wP X.K):=xw.imp λ_ _ _ _ ⟨p,i,e1,e2,xs,e3,v,e4,q⟩=>⟨p,xs,i,v,e1,e2,.of (aF e3),e4,q⟩
theorem dk:wE X (An X.K):=IW.imp λ_ _ _ _ ⟨p,i,e1,e2,xs,e3,v,e4,q⟩=>⟨p,xs,i,v,e1,e2,mE e3,e4,q⟩
def gH(H:Hp)(p:Addr):Option Nat:=match H p with
 | some (.lst xs)=>some xs.length
 | some (.frz _ (.lst xs))=>some xs.length
 | some (.tup xs)=>some xs.length
 | _=>none
theorem aU:fj X (.builtin "len") (λxs H Q=>∃p,xs=[.ref p] /\ ∃n:Nat,gH (vw X.K H) p=some n/\Q (.int n) H):=jc.imp λxs H Q ⟨p,e,n,hn,q⟩=>by
 unfold gH at hn;split at hn
 .rename_i ys hp
  cases hn;exact⟨p,ys,e,.inl (.of (aF hp)),q⟩
 .rename_i o ys hp
  cases hn;exact⟨p,ys,e,.inl (.inl (.inr ⟨o,ji hp λ_ z=>by cases z⟩)),q⟩
 .rename_i ys hp
  cases hn;exact⟨p,ys,e,.inr (mE hp),q⟩
 .cases hn
def uD(K:W.Frag)(n:Nat)(t:Ai):TG:=λv σ H Q=>∃a,v=.ref a /\ ∃xs,vw K H a=some (.tup xs)/\xs.length=n/\t xs σ H Q
theorem Ec{es:List Expr}{k:Nat}{t:Ai}{n:Nat}{pos:Pos}(hc:X.calm=true)(h:Jd X es t)
  (hn:(assignEach es X.env).length=n:=by rfl)(hst:(assignEach es X.env).findIdx? (·.1)=none:=by rfl):PG X (.Tuple es k pos) (uD X.K n t) :=
 λpins s σ H v u Q I r ⟨a,e,xs,hx,hl,q⟩=>HA hc h hn hst pins s σ H v u Q I r ⟨a,xs,e,mE hx,hl,q⟩
theorem eK{α:Type}{x:α}{xs:List α}:pE (x::xs) 0=some x:=cw (j:=0) rfl
theorem i5{α:Type}{x y:α}{xs:List α}:pE (x::y::xs) 1=some y:=cw (j:=1) rfl
theorem JE{α:Type}{x y z:α}{xs:List α}:pE (x::y::z::xs) 2=some z:=cw (j:=2) rfl
theorem DI{α:Type}{xs:List α}{r:Int}(h0:0<=r)(h1:r<xs.length):∃v,pE xs r=some v/\v∈xs:=by
 have h2:r.toNat<xs.length:=();refine⟨xs[r.toNat],?_,Yp h2⟩;have e:=cw (xs:=xs) (j:=r.toNat) (v:=xs[r.toNat]) (Ya h2);rw[show ((r.toNat:Nat):Int)=r by nofun] at e
 exact e
theorem ay.but_trans{H H1 H2:Hp}{st:Addr}(s:ay H H1)(hn:H st=none)(b:gF st H1 H2):ay H H2:=λc o e=>b c o (ak e hn) (s c o e)
theorem gF.same_trans{H H1 H2:Hp}{st:Addr}(b:gF st H H1)(s:ay H1 H2):gF st H H2:=b.trans (s.but st)
theorem EO:vB 2 0=some 0:=rfl
theorem DM{K:W.Frag}{b k:Bool}{H:Hp}:wA K (.bl b) H k=(k=b):=rfl
theorem A7{K:W.Frag}{i:Int}{k:Bool}{H:Hp}:wA K (.int i) H k=(k=(i != 0)):=rfl
theorem yB{i j:Int}(h:0<=j/\j<=1000000/\i.natAbs<2^64):Jx i j:=h
end
def Nw(K:W.Frag)(H:Hp)(o:HO)(Q:VK):Prop:=∀p H2,vw K H p=none->ay (vw K H) (vw K H2)->vw K H2 p=some o->Q (.ref p) H2
theorem Nw.ok{K:W.Frag}{H:Hp}{o:HO}{Q:VK}(h:Nw K H o Q) {p:Addr}(hk:K.lookup p=none)(hp:H p=none):Q (.ref p) (upd H p o) :=
 h p _ (by rw[dD hk];exact hp) (kQ (ay.upd hp)) (by rw[dD hk];exact bB)
theorem Nw.al{K:W.Frag}{H:Hp}{o:HO}{Q:VK}(h:Nw K H o Q):∀p,H p=none->Kf K (.ref p) (upd H p o)->Q (.ref p) (upd H p o):=λp hp hk=>h.ok (hk p _ rfl bB) hp
def CL(K:W.Frag)(t:TA):TE:=λσ H Q=>t σ H λxs H1=>xs.length<=sizeLine/\Nw K H1 (.tup xs) Q
def qP(K:W.Frag)(t:TA):TE:=λσ H Q=>t σ H λxs H1=>xs.length<=sizeLine/\Nw K H1 (.lst xs) Q
def Kn(K:W.Frag):TE:=λ_ H Q=>Nw K H (.dK []) Q
section
variable {X:Cx}{es:List Expr}{t:TA}{pos:Pos}
theorem D4 {x1}(h:PA X es t):PE X (.Tuple es x1 pos) (CL X.K t):=by
 intro pins s σ H Q I hq;refine wpAny_Tuple_spliced (dq (h pos pins s σ H _ I hq) λus s1 ⟨xs,H1,I1,r,z,q⟩=>⟨by rw[<-r.length];exact z,?_⟩)
 have hf:H1 s1.heap.objs.size=none:=I1.hok.fresh (Yn _);refine⟨.ref s1.heap.objs.size,upd H1 s1.heap.objs.size (.tup xs),I1.laid (t':=s1.toks) (λb u e=>Heap.get?_push_of_some _ e) (Yn _) ?_,rfl,q.ok (I1.newK (Yn _)) hf⟩;exact⟨z,us,r,⟨_,Heap.get?_push_size _ rfl,rfl,_,rfl⟩⟩
theorem EU(h:PA X es t):PE X (.List es pos) (qP X.K t):=by
 intro pins s σ H Q I hq;refine wpAny_List_spliced (dq (h pos pins s σ H _ I hq) λus s1 ⟨xs,H1,I1,r,z,q⟩=>⟨by rw[<-r.length];exact z,?_⟩)
 have hf:H1 s1.heap.objs.size=none:=I1.hok.fresh (Yn _);refine⟨.ref s1.heap.objs.size,upd H1 s1.heap.objs.size (.lst xs),I1.laid (t':=s1.toks) (λb u e=>Heap.get?_push_of_some _ e) (Yn _) ?_,rfl,q.ok (I1.newK (Yn _)) hf⟩;exact⟨z,us,0,r,Heap.get?_push_size _ rfl⟩
theorem gk.imp{f:Value->Value->Sem Value}{r r':R2}(h:gk X f r)(hi:∀x y H Q,r' x y H Q->r x y H Q):gk X f r':=λpins s σ H x y v u Q I rx ry q=>h pins s σ H x y v u Q I rx ry (hi _ _ _ _ q)
def x6(K:W.Frag):R2:=λx y H Q=>∃l b,x=.ref l/\y=.ref b /\ ∃xs,vw K H l=some (.lst xs) /\ ∃zs,vw K H b=some (.lst zs)/\xs.length+zs.length<=sizeLine/\Nw K H (.lst (xs++zs)) Q
theorem DD:gk X (binaryOp .Add) (x6 X.K):=HX.kf.imp λ_ _ _ _ ⟨l,b,e1,e2,xs,h1,zs,h2,z,q⟩=>⟨l,b,xs,zs,e1,e2,aF h1,aF h2,z,q.al⟩
def ya(K:W.Frag):R2:=λx y H Q=>∃l k,x=.ref l/\y=.int k /\ ∃xs,vw K H l=some (.lst xs) /\ -(2^63)<=k/\k<2^63/\xs.length*k.toNat<=sizeLine/\Nw K H (.lst (List.replicate k.toNat xs).flatten) Q
theorem E7:gk X (binaryOp .Mult) (ya X.K):=Hi.kf.imp λ_ _ _ _ ⟨l,k,e1,e2,xs,h1,z1,z2,z3,q⟩=>⟨l,k,xs,e1,e2,aF h1,z1,z2,z3,q.al⟩
def jv(K:W.Frag):R2:=λx y H Q=>rI IntMulOk (λi j=>.int (i*j)) x y H Q\/ya K x y H Q
def lV(K:W.Frag):R2:=λx y H Q=>zn (λi j=>.int (i+j)) x y H Q\/x6 K x y H Q
theorem aV:gk X (binaryOp .Mult) (jv X.K):=DY.or E7
theorem bY:gk X (binaryOp .Add) (lV X.K):=HJ.or DD
theorem eP{K:W.Frag}{i j:Int}{H:Hp}{Q:VK}:jv K (.int i) (.int j) H Q=(IntMulOk i j/\Q (.int (i*j)) H):=by
 simp[jv,rI,ya]
theorem jJ{K:W.Frag}{l:Addr}{j:Int}{H:Hp}{Q:VK}:jv K (.ref l) (.int j) H Q = ∃xs,vw K H l=some (.lst xs) /\ -(2^63)<=j/\j<2^63/\xs.length*j.toNat<=sizeLine/\Nw K H (.lst (List.replicate j.toNat xs).flatten) Q:=by
 simp[jv,rI,ya]
theorem ke{K:W.Frag}{i j:Int}{H:Hp}{Q:VK}:lV K (.int i) (.int j) H Q=Q (.int (i+j)) H:=by
 simp[lV,zn,x6]
theorem mw{K:W.Frag}{l b:Addr}{H:Hp}{Q:VK}:lV K (.ref l) (.ref b) H Q = ∃xs,vw K H l=some (.lst xs) /\ ∃zs,vw K H b=some (.lst zs)/\xs.length+zs.length<=sizeLine/\Nw K H (.lst (xs++zs)) Q:=by
 simp[lV,zn,x6]
theorem pN:fj X (.type "list") (λxs H Q=>∃p,xs=[.ref p] /\ ∃ys,vw X.K H p=some (.lst ys)/\Nw X.K H (.lst ys) Q):=sH.kf.imp λ_ _ _ ⟨p,e,ys,h,q⟩=>⟨p,ys,e,.inl (.of (aF h)),q.al⟩
theorem Aj.imp{r r':V->Option Int->Option Int->Hp->VK->Prop}(h:Aj X r)(hi:∀x a b H Q,r' x a b H Q->r x a b H Q):Aj X r':=by
 intro value p2 pins s σ H x lo hi' v vl vh sl Q
 intros
 apply h<;>first|assumption|(apply hi;assumption)
def Kt(K:W.Frag):V->Option Int->Option Int->Hp->VK->Prop:=λx lo hi H Q=>∃a,x=.ref a /\ ∃xs,vw K H a=some (.lst xs)/\Nw K H (.lst (ju xs lo hi)) Q
theorem lD:Aj X (Kt X.K):=FA.kf.imp λ_ _ _ _ _ ⟨a,e,xs,h,q⟩=>⟨a,xs,e,.of (aF h),q.al⟩
def Dp(K:W.Frag)(H:Hp)(l:Addr)(o:HO)(Q:Hp->Prop):Prop:=∀H2,gF l (vw K H) (vw K H2)->vw K H2 l=some o->Q H2
theorem Dp.ok{K:W.Frag}{H:Hp}{l:Addr}{o:HO}{Q:Hp->Prop}(h:Dp K H l o Q)(hk:K.lookup l=none):Q (upd H l o):=h _ (tR gF.upd) (by rw[dD hk];exact bB)
def Bs(K:W.Frag):V->V->V->Hp->(Hp->Prop)->Prop:=λo i v H Q=>∃p k,o=.ref p/\i=.int k /\ ∃xs,vw K H p=some (.lst xs) /\ ∃j,vB xs.length k=some j/\Dp K H p (.lst (xs.set j v)) Q
theorem gf:yY X (Bs X.K):=λpins s σ H o i v ov iv u Q I ro ri rv ⟨p,k,e1,e2,xs,h,j,e3,q⟩=>Aq pins s σ H o i v ov iv u Q I ro ri rv ⟨p,xs,k,j,e1,e2,aF h,e3,q.ok (I.noK (aF h))⟩
def Au(K:W.Frag):V->List V->Hp->VK->Prop:=λx vs H Q=>∃l y,x=.ref l/\vs=[y] /\ ∃xs,vw K H l=some (.lst xs)/\xs.length<sizeLine/\Dp K H l (.lst (xs++[y])) (Q .non)
theorem dX:JF X "list.append" (Au X.K):=λpins s σ H x vs v us Q I rx rv ⟨l,y,e1,e2,xs,h,z,q⟩=>qA pins s σ H x vs v us Q I rx rv ⟨l,xs,y,e1,e2,aF h,z,q.ok (I.noK (aF h))⟩
def Ge(K:W.Frag):V->List V->Hp->VK->Prop:=λx vs H Q=>∃l,x=.ref l/\vs=[] /\ ∃xs,vw K H l=some (.lst xs) /\ ∃y,xs[xs.length-1]? = some y/\Dp K H l (.lst xs.dropLast) (Q y)
theorem xD:JF X "list.pop" (Ge X.K):=λpins s σ H x vs v us Q I rx rv ⟨l,e1,e2,xs,h,y,e3,q⟩=>Gp pins s σ H x vs v us Q I rx rv ⟨l,xs,y,e1,e2,aF h,e3,q.ok (I.noK (aF h))⟩
end
def Ce(J:It)(g:TG)(tb:TS)(D:oB)(σ:St)(H1:Hp):Prop:=∃W:Nat->Nat->St->Hp->Prop,(∃m,W 0 m σ H1) /\ ∀i m σ H,W i m σ H ->
 (J.stop i H/\D.nx σ H)\/(J.go i H /\ ∃N:St->Hp->Prop,(∀σ' H',N σ' H' -> ∃m',m'<m/\W (i+1) m' σ' H') /\ ∀x H',J.yld i H x H'->g x σ H' λσ2 H2=>tb { D with nx:=N,ct:=N,bk:=D.nx } σ2 H2)
theorem EJ(wi:TI)(g:TG)(tb:TS)(D:oB)(σ:St)(H:Hp):HZ wi g tb D σ H=wi σ H λJ H1=>Ce J g tb D σ H1:=rfl
inductive D where
 | non|bl (b:Bool)|int (i:Int)|str (x:Str)|dict|tup (ds:List D)|lst (ds:List D)
mutual
def aW(H:Hp):D->V->Prop
 | .non,v=>v=.non
 | .bl b,v=>v=.bl b
 | .int i,v=>v=.int i
 | .str x,v=>v=.str x
 | .dict,v=>∃a kvs,v=.ref a/\H a=some (.dK kvs)
 | .tup ds,v=>∃a xs,v=.ref a/\H a=some (.tup xs)/\aK H ds xs
 | .lst ds,v=>∃a xs,v=.ref a/\H a=some (.lst xs)/\aK H ds xs
def aK(H:Hp):List D->List V->Prop
 | [],xs=>xs=[]
 | d::ds,xs=>∃x r,xs=x::r/\aW H d x/\aK H ds r
end
mutual
theorem aW.same{H H':Hp}(S:ay H H'):∀(d:D)(v:V),aW H d v->aW H' d v
 | .non,v,h=>by unfold aW at h ⊢;exact h
 | .bl b,v,h=>by unfold aW at h ⊢;exact h
 | .int i,v,h=>by unfold aW at h ⊢;exact h
 | .str x,v,h=>by unfold aW at h ⊢;exact h
 | .dict,v,h=>by
  unfold aW at h ⊢;obtain⟨a,kvs,e,h⟩:=h;exact⟨a,kvs,e,S _ _ h⟩
 | .tup ds,v,h=>by
  unfold aW at h ⊢;obtain⟨a,xs,e,h,r⟩:=h;exact⟨a,xs,e,S _ _ h,aK.same S ds xs r⟩
 | .lst ds,v,h=>by
  unfold aW at h ⊢;obtain⟨a,xs,e,h,r⟩:=h;exact⟨a,xs,e,S _ _ h,aK.same S ds xs r⟩
theorem aK.same{H H':Hp}(S:ay H H'):∀(ds:List D)(xs:List V),aK H ds xs->aK H' ds xs
 | [],xs,h=>by unfold aK at h ⊢;exact h
 | d::ds,xs,h=>by
  unfold aK at h ⊢;obtain⟨x,r,e,h1,h2⟩:=h;exact⟨x,r,e,aW.same S d x h1,aK.same S ds r h2⟩
end
theorem aK.get{H:Hp}:∀{ds:List D}{xs:List V}{i:Nat}{x:V},aK H ds xs->xs[i]? = some x -> ∃d,ds[i]? = some d/\aW H d x
 | [],xs,i,x,h,e=>by
  unfold aK at h;subst h;simp at e
 | d::ds,xs,i,x,h,e=>by
  unfold aK at h;obtain⟨y,r,rfl,h1,h2⟩:=h;cases i with
  | zero =>
   have e':y=x:=by simpa using e
   subst e';exact⟨d,by simp,h1⟩
  | succ i =>
   obtain⟨d',e1,e2⟩:=aK.get (i:=i) h2 (by simpa using e)
   exact⟨d',by simpa using e1,e2⟩
theorem aK.length{H:Hp}:∀{ds:List D}{xs:List V},aK H ds xs->xs.length=ds.length
 | [],xs,h=>by
  unfold aK at h;subst h;rfl
 | d::ds,xs,h=>by
  unfold aK at h;obtain⟨y,r,rfl,_,h2⟩:=h;simp[aK.length h2]
theorem uu(a b:Int):Int.gcd b (a.fmod b)=Int.gcd a b:=by
 rw[Int.fmod_def,Int.gcd_comm a b];have:a-b*a.fdiv b=a+b*(- a.fdiv b):=by rw[Int.mul_neg];nofun
 rw[this];simp
theorem xY(a:Int){b:Int}(hb:b≠0):(a.fmod b).natAbs<b.natAbs:=by
 rcases Int.lt_or_gt_of_ne hb with h|h
 .obtain⟨n,rfl⟩ : ∃n:Nat,b=Int.negSucc n:=⟨(-b-1).toNat,()⟩;cases a with
  | ofNat m =>
   cases m with
   | zero=>simp[Int.fmod]
   | succ m =>
    show (Int.subNatNat (m%(n+1)) n).natAbs<n+1;have:=Nat.mod_lt m (show 0<n+1 by nofun)
    rw[Int.subNatNat_eq_coe];generalize m%(n+1)=z at *
    nofun
  | negSucc m =>
   show (-((((m+1)%(n+1):Nat)):Int)).natAbs<n+1;have:=Nat.mod_lt (m+1) (show 0<n+1 by nofun)
   generalize (m+1)%(n+1)=z at *
   nofun
 .have h1:=Xs a h;have h2:=XO a h;nofun
def lg(a b:Int):Int:=if b<0 then -(Int.gcd a b:Int) else (Int.gcd a b:Int)
def lo(a b:Int):Int×Int:=(a.fdiv (lg a b),b.fdiv (lg a b))
def fr(q:Int×Int):D:=.tup [.int q.1,.int q.2]
def Fq(q:Int×Int):Prop:=0<q.2/\Int.gcd q.1 q.2=1
theorem BK{a b:Int}(hb:b≠0):lg a b≠0:=by
 have h:Int.gcd a b≠0:=λe=>hb (Int.gcd_eq_zero_iff.mp e).2;unfold lg;split<;>nofun
theorem u6(a b:Int):lg a b∣a:=by
 unfold lg;split
 .exact Int.neg_dvd.mpr (Int.gcd_dvd_left ..)
 .exact Int.gcd_dvd_left ..
theorem rT(a b:Int):lg a b∣b:=by
 unfold lg;split
 .exact Int.neg_dvd.mpr (XU ..)
 .exact XU ..
theorem iO{a b:Int}(hb:b≠0):(lo a b).1*lg a b=a:=by
 show a.fdiv (lg a b)*lg a b=a;exact Int.fdiv_mul_cancel (u6 a b)
theorem gT{a b:Int}(hb:b≠0):(lo a b).2*lg a b=b:=by
 show b.fdiv (lg a b)*lg a b=b;exact Int.fdiv_mul_cancel (rT a b)
theorem zJ(a b:Int):(lg a b).natAbs=Int.gcd a b:=by
 unfold lg;split<;>nofun
theorem qX{a b:Int}(hb:b≠0):Fq (lo a b):=by
 have h1:=iO (a:=a) hb;have h2:=gT (a:=a) hb;have hg:0<Int.gcd a b:=Nat.pos_of_ne_zero λe=>hb (Int.gcd_eq_zero_iff.mp e).2;constructor
 .by_cases hn:b<0
  .have e:lg a b = -(Int.gcd a b:Int):=Yg hn;rw[e] at h2;rcases Int.lt_trichotomy (lo a b).2 0 with h|h|h
   .have:=Int.mul_nonneg_of_nonpos_of_nonpos (Int.le_of_lt h) (show -(Int.gcd a b:Int)<=0 by nofun)
    nofun
   .rw[h] at h2;nofun
   .exact h
  .have e:lg a b=(Int.gcd a b:Int):=Yc hn;rw[e] at h2;rcases Int.lt_trichotomy (lo a b).2 0 with h|h|h
   .have:=Int.mul_nonpos_of_nonpos_of_nonneg (Int.le_of_lt h) (show 0<=(Int.gcd a b:Int) by nofun)
    nofun
   .rw[h] at h2;nofun
   .exact h
 .have e:Int.gcd ((lo a b).1*lg a b) ((lo a b).2*lg a b)=Int.gcd (lo a b).1 (lo a b).2*(lg a b).natAbs:=Int.gcd_mul_right ..;rw[h1,h2,zJ] at e;have:1*Int.gcd a b=Int.gcd (lo a b).1 (lo a b).2*Int.gcd a b:=();exact (Nat.eq_of_mul_eq_mul_right hg this).symm
mutual
def D.noSt:D->Bool
 | .lst [.int _,.bl _]=>false
 | .lst ds=>D.noSts ds
 | .tup ds=>D.noSts ds
 | _=>true
def D.noSts:List D->Bool
 | []=>true
 | d::ds=>d.noSt && D.noSts ds
end
def ix(H:Hp)(st:Addr):Prop:=∃x b,H st=some (.lst [.int x,.bl b])/\(b=false->0<=x/\x<2147483647)
theorem aW.lst_st{H:Hp}{ds:List D}{x:Int}{b:Bool}(h:aK H ds [.int x,.bl b]):ds=[.int x,.bl b]:=by
 match ds with
 | []=>unfold aK at h;cases h
 | [d] =>
  unfold aK at h;obtain⟨_,_,e,_,h⟩:=h;unfold aK at h;subst h;cases e
 | d1::d2::d3::r =>
  have:=aK.length h;simp at this
 | [d1,d2] =>
  unfold aK at h;obtain⟨_,_,e,h1,h⟩:=h;cases e;unfold aK at h;obtain⟨_,_,e,h2,h⟩:=h;cases e;have e1:d1=.int x:=by
   cases d1<;>unfold aW at h1<;>first|(cases h1;rfl)|(obtain⟨_,_,e,_⟩:=h1;cases e)|cases h1
  have e2:d2=.bl b:=by
   cases d2<;>unfold aW at h2<;>first|(cases h2;rfl)|(obtain⟨_,_,e,_⟩:=h2;cases e)|cases h2
  rw[e1,e2]
theorem ix.same{H H':Hp}{st:Addr}(h:ix H st)(S:ay H H'):ix H' st:=by
 obtain⟨x,b,e,k⟩:=h;exact⟨x,b,S _ _ e,k⟩
theorem ix.ne{H:Hp}{st p:Addr}(h:ix H st)(hp:H p=none):p≠st:=by
 obtain⟨x,b,e,k⟩:=h;exact (ak e hp).symm
theorem aW.tup_at{H:Hp}{ds:List D}{v:V}(h:aW H (.tup ds) v):∃a xs,v=.ref a/\H a=some (.tup xs)/\aK H ds xs:=by
 unfold aW at h;exact h
theorem aW.lst_at{H:Hp}{ds:List D}{v:V}(h:aW H (.lst ds) v):∃a xs,v=.ref a/\H a=some (.lst xs)/\aK H ds xs:=by
 unfold aW at h;exact h
theorem aK.nil_at{H:Hp}{xs:List V}(h:aK H [] xs):xs=[]:=by
 unfold aK at h;exact h
theorem aK.cons_at{H:Hp}{d:D}{ds:List D}{xs:List V}(h:aK H (d::ds) xs):∃x r,xs=x::r/\aW H d x/\aK H ds r:=by
 unfold aK at h;exact h
theorem aW.int_at{H:Hp}{i:Int}{v:V}(h:aW H (.int i) v):v=.int i:=by
 unfold aW at h;exact h
theorem aW.mk_int{H:Hp}(i:Int):aW H (.int i) (.int i):=by unfold aW;rfl
theorem aW.mk_str{H:Hp}(i:Str):aW H (.str i) (.str i):=by unfold aW;rfl
theorem aK.mk_nil{H:Hp}:aK H [] []:=by unfold aK;rfl
theorem aK.mk_cons{H:Hp}{d:D}{ds:List D}{x:V}{xs:List V}(h1:aW H d x)(h2:aK H ds xs):aK H (d::ds) (x::xs):=by unfold aK;exact⟨_,_,rfl,h1,h2⟩
theorem aW.mk_tup{H:Hp}{a:Addr}{ds:List D}{xs:List V}(h:H a=some (.tup xs))(r:aK H ds xs):aW H (.tup ds) (.ref a):=by unfold aW;exact⟨_,_,rfl,h,r⟩
theorem aW.mk_lst{H:Hp}{a:Addr}{ds:List D}{xs:List V}(h:H a=some (.lst xs))(r:aK H ds xs):aW H (.lst ds) (.ref a):=by unfold aW;exact⟨_,_,rfl,h,r⟩
theorem aW.fr_at{H:Hp}{q:Int×Int}{v:V}(h:aW H (fr q) v):∃a,v=.ref a/\H a=some (.tup [.int q.1,.int q.2]):=by
 obtain⟨a,xs,e,ha,r⟩:=h.tup_at;obtain⟨x1,r1,rfl,h1,r⟩:=r.cons_at;obtain⟨x2,r2,rfl,h2,r⟩:=r.cons_at;cases r.nil_at;rw[h1.int_at,h2.int_at] at ha;exact⟨a,e,ha⟩
abbrev Bt (n:Nat)(x:Int):Prop:=x.natAbs<2^n
theorem Bt.ib{n:Nat}{x:Int}(h:Bt n x):Builtin.Int.intBits x<=n:=by
 unfold Builtin.Int.intBits;split
 .exact Y3 _
 .rename_i h0
  have h1:x.natAbs≠0:=by
   intro e;apply h0
   have:x=0:=();rw[this];rfl
  have:=(Nat.log2_lt h1).mpr h;nofun
theorem cQ{m n:Nat}{x y:Int}(hx:Bt m x)(hy:Bt n y)(h:m+n<=134217728:=by decide):IntMulOk x y:=PySem.IntMulOk.of_le hx.ib hy.ib h
theorem Bt.mono{m n:Nat}{x:Int}(hx:Bt m x)(h:m<=n):Bt n x:=Yr hx (Xx ∅ h)
theorem Bt.mul{m n:Nat}{x y:Int}(hx:Bt m x)(hy:Bt n y):Bt (m+n) (x*y):=by
 unfold Bt;rw[YI,XR];exact Nat.mul_lt_mul'' hx hy
theorem Bt.add{m n:Nat}{x y:Int}(hx:Bt m x)(hy:Bt n y):Bt (max m n+1) (x+y):=by
 have h1:=hx.mono (Nat.le_max_left m n);have h2:=hy.mono (Nat.le_max_right m n);unfold Bt at *
 rw[X4];have:=Int.natAbs_add_le x y;nofun
theorem Jc{x y:Int}(h:y≠0)(hb:Bt 9000 y):FX x y:=⟨h,by
 by_cases h0:y.natAbs=0
 .rw[h0];decide +kernel
 .exact (Nat.log2_lt h0).mpr hb⟩
theorem xT{x k:Int}{n:Nat}(hk:0<k)(h:k.natAbs<=2^n):Bt n (x.fmod k):=by
 have h1:=Xs x hk;have h2:=XO x hk;unfold Bt;nofun
theorem ot{x y:Int}(hx:Bt 64 x):IntMulOk x y:=.of_left hx.ib
theorem Fg{x y:Int}(hy:Bt 64 y):IntMulOk x y:=.of_right hy.ib
end L2
namespace L2
theorem JU{c A B:Prop} [Decidable c] (hc:c)(h:A):if c then A else B:=by rw[Yg hc];exact h
theorem wK{c A B:Prop} [Decidable c] (hc:¬ c)(h:B):if c then A else B:=by rw[Yc hc];exact h
end L2
namespace L2
open PySem
mutual
def D.ib:D->Bool
 | .int i=>decide (i.natAbs<2^200)
 | .tup ds=>D.ibs ds
 | .lst ds=>D.ibs ds
 | _=>true
def D.ibs:List D->Bool
 | []=>true
 | d::ds=>d.ib && D.ibs ds
end
end L2
namespace L2
open PySem PySem.Spec PyProof.Rows
section
variable {prog:Program}{w:World}{A:Around}{R:Result->Shared->Prop}{s:Shared}
theorem sC{elt target iter:Expr}{ifs:List Expr}{scope:Scope}{pos:Pos}{it acc:Value}{env:Env}{EE:Value->Shared->Prop}(hEE:EE=notedBy (model prog w) A env λe s'=>R (.error e) s')(Iv:Nat->Shared->Prop)
  (turn:∀n s,Iv n s->wpAny (model prog w) A (pyNext it) (λr s1=>match r with
   | none=>R (.ok .next) s1
   | some v=>wpAny (model prog w) A (letOwnedTupleGo target it v) (λ_ s2=>wpAny (model prog w) A (assign target env v) (λ_ s3 =>
     wpAny (model prog w) A (forIn ifs true λc r=>if r=true then do let ok <-isTrue c env (eval c env);pure (ForInStep.yield ok) else pure (ForInStep.yield r)) (λok s4 =>
      if ok=true then wpAny (model prog w) A (eval elt env) (λx s5=>wpAny (model prog w) A (call (.builtin "list.append") [acc,x]) (λ_ s6=>∃m,m<n/\Iv m s6) EE s5) EE s4
      else ∃m,m<n/\Iv m s4) EE s3) EE s2) EE s1) EE s)
  (n:Nat)(h:Iv n s):codeAny (model prog w) A (.compLoop (.ListComp elt [⟨target,iter,ifs,0⟩] scope pos) 0 it acc env) R s:=by
 subst hEE;refine codeAny_loop rfl Iv (λn s hI=>?_) n h;show wpAny _ A ((compTurn (.ListComp elt [⟨target,iter,ifs,0⟩] scope pos) 0 it acc env).onRaise (λx=>do noteFrame x env;theTreesLotGoes x)) _ _ s
 refine wpAny_noted ?_;rw[compTurn_list];refine wpAny_bind (wpAny_standAt (wpAny_bind (wpAny_mono (turn n s hI) (λr s1 h1=>?_) λ_ _ h'=>h')));cases r with
 | none=>exact wpAny_pure h1
 | some v =>
  refine wpAny_bind (wpAny_mono h1 (λ_ s2 h2=>?_) λ_ _ h'=>h');refine wpAny_bind (wpAny_mono h2 (λ_ s3 h3=>wpAny_bind (wpAny_mono h3 (λok s4 h4=>?_) λ_ _ h'=>h')) λ_ _ h'=>h');cases ok with
  | false=>exact wpAny_pure ⟨rfl,h4⟩
  | true=>exact wpAny_bind (wpAny_bind (wpAny_mono h4 (λx s5 h5=>wpAny_bind (wpAny_mono h5 (λ_ s6 h6=>wpAny_pure (wpAny_pure ⟨rfl,h6⟩)) λ_ _ h'=>h')) λ_ _ h'=>h'))
end
def nG(X:Cx)(scope:Scope)(cl:List (Str×Addr))(N:List Str)(C:Addr)(s:Shared)(H:Hp)(ex:List Addr):Cx :=
 { X with N:=N,s₀:=s,H₀:=H,env:=compEnvC scope cl C X.env,outer:=X.stack,ex:=ex,fn:=λ_=>false,pn:=[],xe:=λ_ _=>False }
def u9(X:Cx)(scope:Scope)(cl:List (Str×Addr)):List Str->List Nat->Prop
 | [],[]=>True
 | x::xs,j::js=>(X.N[j]? = some x /\ X.env.kindOf x = some .cell /\ (relabel scope X.env).names.lookup x = some .cell /\ (∃c,cl.lookup x = some c)) /\ u9 X scope cl xs js
 | _,_=>False
theorem u9.length{X:Cx}{scope:Scope}{cl:List (Str×Addr)}:∀{xs:List Str}{js:List Nat},u9 X scope cl xs js->js.length=xs.length
 | [],[],_=>rfl
 | _::_,_::_,h=>by simp[u9.length h.2]
 | [],_::_,h=>h.elim
 | _::_,[],h=>h.elim
theorem u9.get{X:Cx}{scope:Scope}{cl:List (Str×Addr)}:∀{xs:List Str}{js:List Nat}{k j:Nat}{x:Str},u9 X scope cl xs js->xs[k]? = some x->js[k]? = some j ->
  X.N[j]? = some x /\ X.env.kindOf x = some .cell /\ (relabel scope X.env).names.lookup x = some .cell /\ ∃c,cl.lookup x = some c
 | [],_,_,_,_,_,e,_=>by simp at e
 | _::_,[],_,_,_,_,_,e=>by simp at e
 | x::xs,j::js,0,_,_,h,e1,e2=>by
  simp at e1 e2;subst e1;subst e2;exact h.1
 | x::xs,j::js,k+1,_,_,h,e1,e2=>u9.get (k:=k) h.2 (by simpa using e1) (by simpa using e2)
def kP(X:Cx):List (Str×Addr)->Prop
 | []=>True
 | p::r=>X.env.cells.lookup p.1=some p.2/\kP X r
theorem kP.mem{X:Cx}:∀{cl:List (Str×Addr)},kP X cl -> ∀p∈cl,X.env.cells.lookup p.1=some p.2
 | [],_,p,hp=>by cases hp
 | q::r,h,p,hp=>by
  rcases Yh.mp hp with rfl|hp
  .exact h.1
  .exact kP.mem h.2 p hp
structure oD (X:Cx)(scope:Scope)(cl:List (Str×Addr))(own outs:List Str)(ixs:List Nat):Prop where
 nocell:(scope.names.all λy=>y.2 != .cell)=true
 kind:scope.kind=.function
 names:(scope.names.all λy=>y.2 != .local || scope.names.lookup y.1==some .local)=true
 cells:kP X cl
 has:((relabel scope X.env).names.all λy=>!(y.2 == .cell || y.2 == .free) || (cl.lookup y.1).isSome) = true
 outs:u9 X scope cl outs ixs
def PF(X:Cx)(ifs:List Expr)(t:TT):Prop :=
 ∀(pins:List (Addr×Obj))(s:Shared)(σ:St)(H:Hp)(Q:Bool->Hp->Prop),aH X pins σ H s->t σ H Q ->
  wpAny (model X.prog X.w) X.A (forIn ifs true λc r=>if r=true then do let ok <-isTrue c X.env (eval c X.env);pure (ForInStep.yield ok) else pure (ForInStep.yield r)) (TP X pins σ Q) X.xe s
def Ib:TT:=λ_ H Q=>Q true H
theorem Hn{X:Cx}:PF X [] Ib:=λ_ _ _ H _ I h=>wpAny_tests_nil ⟨H,I,h⟩
theorem Gn{X:Cx}{c:Expr}{t:TT}(h:PT X c t):PF X [c] t:=λpins s σ H Q I q=>wpAny_tests_one (h pins s σ H Q I q)
def sw(K:W.Frag)(J:It)(g:TG)(tif:TT)(te:TE)(a:Addr)(σ0:St)(H0:Hp)(Q:Hp->Prop):Prop:=∃W:Nat->Nat->St->Hp->Prop,(∃m,W 0 m σ0 H0) /\ ∀i m σ H,W i m σ H ->
 (J.stop i H/\Q H)\/(J.go i H /\ ∃N:St->Hp->Prop,(∀σ' H',N σ' H' -> ∃m',m'<m/\W (i+1) m' σ' H') /\ ∀x H',J.yld i H x H'->g x σ H' λσ2 H2=>tif σ2 H2 λb H3=>if b=true then te σ2 H3 λv H4=>∃xs,vw K H4 a=some (.lst xs)/\xs.length<sizeLine /\
  ∀H5,gF a (vw K H4) (vw K H5)->vw K H5 a=some (.lst (xs++[v]))->N σ2 H5 else N σ2 H3)
def vM(σ:St)(ixs:List Nat):St:=ixs.map λj=>(σ[j]?).join
def uU(K:W.Frag)(wi:TI)(n:Nat)(ixs:List Nat)(g:TG)(tif:TT)(te:TE):TE:=λσ H Q=>wi σ H λJ H1=>∀a H2,vw K H1 a=none->ay (vw K H1) (vw K H2)->vw K H2 a=some (.lst [])->sw K J g tif te a (List.replicate n none++vM σ ixs) H2 (Q (.ref a))
section
variable {X:Cx}
theorem re{tg iter elt:Expr}{ifs:List Expr}{scope:Scope}{pos ipos:Pos}{wi:TI}{g:TG}{tif:TT}{te:TE}{cl:List (Str×Addr)}{own outs:List Str}{ixs:List Nat}{use:Option (Value->Sem Unit)}{Qv:Value->Shared->Prop}
  (hc:X.calm=true)(hi:PI X tg iter wi)(hclos:closureFor scope X.env=pure cl)(S:oD X scope cl own outs ixs)
  {G:Shared->Hp->List Addr->Prop}(hb:∀C s H ex,G s H ex->PG (nG X scope cl (own++outs) C s H ex) tg g/\PF (nG X scope cl (own++outs) C s H ex) ifs tif/\PE (nG X scope cl (own++outs) C s H ex) elt te)
  (hs:∀x,foldedSetIterable iter X.env x=pure x) {pins:List (Addr×Obj)}{s:Shared}{σ:St}{H:Hp}(hG:∀s2 H1 H2 fp,aH X pins σ H2 s2->(∀b∈fp,qf X pins H1 b)->G s2 H2 fp)(I:aH X pins σ H s)(Qd:Addr->Hp->Prop)
  (hfin:∀(a C:Addr)(H':Hp)(s4:Shared)(m:Str->Option Value),aH X pins σ H' s4->qf X pins H' C->s4.heap.Ns C m->Qd a H'->compPost (model X.prog X.w) X.A X.xe use Qv (.ref a) C (.ok .next) s4)
  (h:wi σ H λJ H1=>∀a H2,vw X.K H1 a=none->ay (vw X.K H1) (vw X.K H2)->vw X.K H2 a=some (.lst [])->sw X.K J g tif te a (List.replicate own.length none++vM σ ixs) H2 (Qd a)) :
  wpAny (model X.prog X.w) X.A (comprehension (.ListComp elt [⟨tg,iter,ifs,0⟩] scope pos) scope X.env ipos (newList []) false (eval iter X.env) use) Qv X.xe s:=by
 have Snc:∀y∈scope.names,y.2 ≠ .cell:=λy hy z=>by
  have:=List.all_eq_true.mp S.nocell y hy;rw[z] at this;cases this
 have Snm:∀y∈scope.names,y.2=.local->scope.names.lookup y.1=some .local:=λy hy z=>by
  have:=List.all_eq_true.mp S.names y hy;rw[z] at this;simpa using this
 have Shs:∀y∈(relabel scope X.env).names,(y.2=.cell \/ y.2=.free) -> (cl.lookup y.1).isSome = true:=λy hy z=>by
  have:=List.all_eq_true.mp S.has y hy;rcases z with z|z
  .rw[z] at this;simpa using this
  .rw[z] at this;simpa using this
 refine wpAny_comprehension_free (use:=use) rfl hs hclos S.kind Snm (wpAny_mono (hi pins s σ H _ I h) (λxv s1 h1=>wpAny_mono h1 (λitv s2 h2=>?_) λ_ _ e=>e) λ_ _ e=>e);obtain⟨it,fp,tn,J,H1,rfl,I1,T,st1,f1,q⟩:=h2;refine wpAny_newObj_type (wpAny_newFunctionEnv Snc (by intro y hy;simp at hy) (λh₁ hns₁ hsb₁=>?_) S.kind)
 dsimp only at hns₁ hsb₁ ⊢;have I2:aH X pins σ (upd H1 s2.heap.objs.size (.lst [])) { s2 with heap:=s2.heap.push { cls:=.type "list",dict:=none,data:=.seq ([]:List Value).toArray } }:=I1.lnew (t':=s2.toks) .nil (Y3 _)
 have q2:=q s2.heap.objs.size (upd H1 s2.heap.objs.size (.lst [])) (by rw[dD (I1.newK (Yn _))];exact I1.fresh) (kQ (ay.upd I1.fresh)) (by rw[dD (I1.newK (Yn _))];exact bB)
 have fr2:∀b∈fp,(upd H1 s2.heap.objs.size (.lst [])) b=none:=λb hb=>by
  obtain⟨o,ho,_⟩:=T.obj _ _ st1 b hb;rw[aL (YY (Heap.lt_size ho))];exact (f1 b hb).1
 generalize hH2:upd H1 s2.heap.objs.size (.lst [])=H2 at I2 q2 fr2;generalize hs3:s2.heap.push { cls:=.type "list",dict:=none,data:=.seq ([]:List Value).toArray } = hp3 at I2 hns₁ hsb₁ ⊢;have old23:∀b o,s2.heap.get? b=some o->hp3.get? b=some o:=λb o e=>hs3▸Heap.get?_push_of_some _ e;have ltC:∀{b:Addr}{o:Obj},hp3.get? b=some o->b≠hp3.objs.size:=λe=>YY (Heap.lt_size e);have old:∀b o,hp3.get? b=some o->h₁.get? b=some o:=λb o e=>hsb₁.extBut b o (ltC e) (Heap.get?_push_of_some _ e);have clc:∀x c,cl.lookup x=some c->X.env.cells.lookup x=some c:=λx c e=>S.cells.mem (x,c) (Y1 e);obtain⟨W,⟨m0,w0⟩,turn⟩:=q2;have fpo:∀b∈fp,∃o,hp3.get? b=some o:=λb hb=>by
  obtain⟨o,ho,_⟩:=T.obj _ _ st1 b hb;exact⟨o,old23 b o ho⟩
 have ok:(nG X scope cl (own++outs) hp3.objs.size { s2 with heap:=hp3 } H2 fp).Ok:=by
  refine⟨I.ok.mod,S.kind,I.ok.glob,I.ok.blt,Yn _,λx y c e1 e2=>I.ok.inj x y c (clc x c e1) (clc y c e2),λx hx=>?_,λx c hf _=>(by cases hf),I.ok.hd,I.ok.frames,.inl rfl,λb hb=>⟨?_,λx c e=>?_⟩,I2.bs,YB I.ok.bsz I2.sz,λb o e hb=>?_,λb hb hz=>?_,I2.stack,I2.stkFree⟩
  .have hx':(relabel scope X.env).names.lookup x = some .cell \/ (relabel scope X.env).names.lookup x = some .free:=hx;have:(cl.lookup x).isSome=true:=by
    rcases hx' with e|e
    .exact Shs _ (Y1 e) (.inl rfl)
    .exact Shs _ (Y1 e) (.inr rfl)
   exact Option.isSome_iff_exists.mp this
  .obtain⟨o,ho⟩:=fpo b hb;exact ltC ho
  .exact (f1 b hb).2.2.2.2.1 x c (clc x c e)
  .rcases (f1 b hb).2.2.2.1 with z|z
   .exact I.ok.noex b o e z
   .exact absurd (Yr (Heap.lt_size e) (YB I.ok.bsz z)) (XA _)
  .rcases Yh.mp (I2.stkSub b hz) with z|z
   .exact (f1 b hb).2.1 z
   .exact (f1 b hb).2.2.1 z
 have I4:aH (nG X scope cl (own++outs) hp3.objs.size { s2 with heap:=hp3 } H2 fp) [] (List.replicate own.length none++vM σ ixs) H2 { s2 with heap:=h₁,toks:=s2.toks+([]:List (Str×Value)).length }:=by
  refine⟨ok,rfl,I2.bare,Un.kept old,⟨_,hns₁,λi x v e1 e2 e3=>?_⟩,λx c e=>?_,I2.hok.fresh (Yn _),λx c e=>I2.freeC x c (clc x c e),λp hp=>by simp[nG] at hp,I2.hok.kept old,?_⟩
  .have e1':(own++outs)[i]? = some x:=e1;have hi':own.length<=i:=by
    by_cases hlt:i<own.length
    .rw[YW (by simpa using hlt),List.getElem?_replicate,Yg hlt] at e2
     cases e2
    .nofun
   rw[YO (by simpa using hi')] at e2
   rw[YO hi'] at e1';rw[List.length_replicate] at e2;unfold vM at e2;rw[Yj] at e2;cases ej:ixs[i-own.length]? with
   | none=>rw[ej] at e2;cases e2
   | some j =>
    rw[ej] at e2;obtain⟨hN,hk,hr,c,hcl⟩:=S.outs.get e1' ej;have e4:(σ[j]?).join=some v:=Xb e2;have e5:σ[j]? = some (some v):=by
     cases es:σ[j]? with
     | none=>rw[es] at e4;cases e4
     | some o=>rw[es] at e4;exact X7 some e4
    obtain⟨m,hn,hl⟩:=I2.loc;obtain⟨u,ru,l⟩:=hl j x v hN e5 (.inr (.inl hk));refine⟨u,ru,.inr ⟨.inl hr,c,hcl,?_⟩⟩;rcases l with ⟨z,_⟩|⟨_,c',hc',cell⟩
    .rw[hk] at z;cases z
    .rw[clc x c hcl] at hc';cases hc';obtain⟨o,ho,hd⟩:=cell;exact⟨o,old _ _ ho,hd⟩
  .obtain⟨v,o,ho,hd⟩:=I2.cell x c (clc x c e);exact⟨v,o,old _ _ ho,hd⟩
  .show (List.replicate own.length none++vM σ ixs).length=(own++outs).length;unfold vM;rw[Yx,Yx,List.length_replicate,Yb,S.outs.length]
 obtain⟨hg,hf,he⟩:=hb hp3.objs.size { s2 with heap:=hp3 } H2 fp (hG _ _ _ _ I2 f1);have stat:∀{H':Hp},(∀b∈fp,H' b=none) -> ∀b∈fp,qf (nG X scope cl (own++outs) hp3.objs.size { s2 with heap:=hp3 } H2 fp) [] H' b:=λhn b hb =>
  ⟨hn b hb,(ok.exf b hb).1,ok.exfs b hb,.inl hb,(ok.exf b hb).2,λp hp=>by simp[nG] at hp⟩
 have noE:∀{α:Type}{t:Sem α}{Q':α->Shared->Prop}{s':Shared}{E':Value->Shared->Prop},wpAny (model X.prog X.w) X.A t Q' (λ_ _=>False) s'->wpAny (model X.prog X.w) X.A t Q' E' s':=λh=>wpAny_mono h (λ_ _ z=>z) λ_ _ z=>z.elim;have loop:codeAny (model X.prog X.w) X.A (.compLoop (.ListComp elt [⟨tg,iter,ifs,0⟩] scope pos) 0 (.ref it) (.ref s2.heap.objs.size) (compEnvC scope cl hp3.objs.size X.env))
   (compPost (model X.prog X.w) X.A X.xe use Qv (.ref s2.heap.objs.size) hp3.objs.size) { s2 with heap:=h₁,toks:=s2.toks+([]:List (Str×Value)).length }:=by
  refine sC rfl (λn s'=>∃i σ' H',aH (nG X scope cl (own++outs) hp3.objs.size { s2 with heap:=hp3 } H2 fp) [] σ' H' s'/\tn i s'.heap/\(∀b∈fp,H' b=none)/\W i n σ' H') ?_ m0
   ⟨0,_,H2,I4,T.keep _ _ _ st1 λb hb o e=>old b o (old23 b o e),fr2,w0⟩
  rintro n s' ⟨i,σ',H',I',st',fr',w'⟩;rcases turn i n σ' H' w' with ⟨stop,qn⟩|⟨go,N,hN,step⟩
  .refine dq (T.done (nG X scope cl (own++outs) hp3.objs.size { s2 with heap:=hp3 } H2 fp) rfl rfl rfl hc i [] s' σ' H' _ I' (stat fr') st' stop) λr s4 ⟨hr,I4'⟩=>?_
   subst hr;obtain⟨m,hn,_⟩:=I4'.loc;have kC:∀b o,b≠hp3.objs.size->s4.heap.get? b=some o->s4.heap.get? b=some o:=λb o hb e=>e;have tC:∀b u,H' b=some u->b≠hp3.objs.size:=λb u e z=>by
    have:=I4'.free;rw[z] at e;rw[show H' hp3.objs.size=none from this] at e
    cases e
   have base:=I4'.base;have un:Un (iW X.stack) fp H2 H' hp3 s4.heap:=⟨λb o e n1 hb hx=>kC b o (ltC e) (base.keep b o e n1 hb hx),λb o e n1 hb hx=>by
     obtain⟨sl,z⟩:=base.slot b o e n1 hb hx;exact⟨sl,kC b _ (ltC e) z⟩,base.free,λb o e hx=>by
     obtain⟨o',z⟩:=base.there b o e hx;exact⟨o',kC b o' (ltC e) z⟩,base.tups,base.frzs,base.tbls⟩
   exact hfin _ _ H' s4 m (I2.call' (s':=s4) (ch:=fp) I4'.os un I4'.hok I4'.bare (λb hb=>⟨(f1 b hb).2.2.2.1,(f1 b hb).2.1,(f1 b hb).2.2.2.2.1,(f1 b hb).2.2.2.2.2⟩)) (I2.fpOk (Yn _) I4'.free) hn qn
  .refine dq (T.item (nG X scope cl (own++outs) hp3.objs.size { s2 with heap:=hp3 } H2 fp) rfl rfl rfl hc i [] s' σ' H' _ I' (stat fr') st' go) λr s4 ⟨u,hr,h4⟩=>?_
   subst hr;refine dq h4 λ_ s5 ⟨x,H5,I5,r5,y5,st5,fr5⟩=>?_;have I5':=I5.pinned (stat fr5) (T.obj _ _ st5);have back:∀{σ7:St}{H7:Hp}{s7:Shared},aH (nG X scope cl (own++outs) hp3.objs.size { s2 with heap:=hp3 } H2 fp) ([]++oJ fp s5.heap) σ7 H7 s7 -> ∀m',m'<n->W (i+1) m' σ7 H7 ->
     ∃m,m<n /\ ∃i σ' H',aH (nG X scope cl (own++outs) hp3.objs.size { s2 with heap:=hp3 } H2 fp) [] σ' H' s7/\tn i s7.heap/\(∀b∈fp,H' b=none)/\W i m σ' H':=λ{σ7 H7 s7} I7 m' hm w7=>by
    refine⟨m',hm,i+1,σ7,H7,I7.unpinned,T.keep _ _ _ st5 λb hb o e=>(I7.pin (b,o) (YT _ (YT _ (jf hb e)))).1,λb hb=>?_,w7⟩;obtain⟨o,e,d⟩:=T.obj _ _ st5 b hb;exact (I7.pin (b,o) (YT _ (YT _ (jf hb e)))).2.1
   refine dq (noE (hg _ s5 σ' H5 x u _ I5' r5 (step x H5 y5))) λ_ s6 ⟨σ6,H6,I6,q6⟩=>?_;refine dq (noE (hf _ s6 σ6 H6 _ I6 q6)) λok s7 ⟨H7,I7,q7⟩=>?_;cases ok with
   | false =>
    rw[Yc YM] at q7 ⊢;obtain⟨m',hm,w7⟩:=hN _ _ q7;exact back I7 m' hm w7
   | true =>
    rw[Yg rfl] at q7 ⊢;refine dq (noE (he _ s7 σ6 H7 _ I7 q7)) λv s8 ⟨xv,H8,I8,r8,q8⟩=>?_;obtain⟨xs,hxs,hz,q8⟩:=q8;refine dq (noE (qA _ s8 σ6 H8 (.ref s2.heap.objs.size) [xv] _ [v] (λ_ H9=>N σ6 H9) I8 rfl (.cons r8 .nil) ⟨_,xs,xv,rfl,rfl,aF hxs,hz,q8 _ (tR gF.upd) ((dD (show X.K.lookup _=none from I8.noK (aF hxs))).trans bB)⟩)) λ_ s9 ⟨_,H9,I9,_,n9⟩=>?_
    obtain⟨m',hm,w9⟩:=hN _ _ n9;exact back I9 m' hm w9
 exact codeAny_compStart_list loop (T.self _ 0 _ _ _ (T.keep _ _ _ st1 λb hb o e=>old b o (old23 b o e)) loop)
theorem D6{tg iter elt:Expr}{ifs:List Expr}{scope:Scope}{pos:Pos}{wi:TI}{g:TG}{tif:TT}{te:TE}{cl:List (Str×Addr)}{own outs:List Str}{ixs:List Nat}
  (hc:X.calm=true)(hi:PI X tg iter wi)(hclos:closureFor scope X.env=pure cl)(S:oD X scope cl own outs ixs)
  (hb:∀C s H ex,PG (nG X scope cl (own++outs) C s H ex) tg g/\PF (nG X scope cl (own++outs) C s H ex) ifs tif/\PE (nG X scope cl (own++outs) C s H ex) elt te)
  (hs:∀x,foldedSetIterable iter X.env x=pure x:=by intro _;rfl) :
  PE X (.ListComp elt [⟨tg,iter,ifs,0⟩] scope pos) (uU X.K wi own.length ixs g tif te):=by
 intro pins s σ H Q I h;rw[eval_ListComp];refine re (G:=λ_ _ _=>True) hc hi hclos S (λC s H ex _=>hb C s H ex) hs (λ_ _ _ _ _ _=>trivial) I (λa H'=>Q (.ref a) H') (λa C H' s4 m J4 fC hn q=>⟨m,hn,λh' hsb=>?_⟩) h;obtain⟨f0,f1,f2,f3,f4,f5⟩:=fC;exact⟨.ref a,H',J4.turned (t':=s4.toks) (λb o hb e=>hsb.extBut b o hb e) f0 f1 f3 f4 f5,rfl,q⟩
theorem Fl{tg iter elt:Expr}{ifs:List Expr}{scope:Scope}{pos spos py:Pos}{y:Str}{i:Nat}{wi:TI}{g:TG}{tif:TT}{te:TE}{cl:List (Str×Addr)}{own outs:List Str}{ixs:List Nat}
  (hN:X.N.Nodup)(hy:X.N[i]? = some y)(hx:Dt X.env.scope y)(hc:X.calm=true)(hi:PI X tg iter wi)(hclos:closureFor scope X.env=pure cl)(S:oD X scope cl own outs ixs)
  (hb:∀C s H ex,PG (nG X scope cl (own++outs) C s H ex) tg g/\PF (nG X scope cl (own++outs) C s H ex) ifs tif/\PE (nG X scope cl (own++outs) C s H ex) elt te)
  (hsw:swapsWith (.ListComp elt [⟨tg,iter,ifs,0⟩] scope pos) (some (.Name y py)) spos.line X.env=pure true:=by rfl)
  (hs:∀x,foldedSetIterable iter X.env x=pure x:=by intro _;rfl)(hf:X.fn y=true\/X.env.scope.names.lookup y=some .local:=by first|exact .inl rfl|exact .inr rfl|assumption) :
  PS X (.Assign [.Name y py] (.ListComp elt [⟨tg,iter,ifs,0⟩] scope pos) spos) (wC (uU X.K wi own.length ixs g tif te) (jL i)):=by
 intro pins s σ H D I h;rw[exec_Assign_Name_used _ _ _ _ hsw];refine wpAny_bind (wpAny_standAt (wpAny_bind ?_));show wpAny _ X.A (do let _ <-comprehension (.ListComp elt [⟨tg,iter,ifs,0⟩] scope pos) scope X.env _ (newList []) false (eval iter X.env) (some (assign (.Name y py) X.env))) _ _ s
 refine wpAny_bind (wpAny_mono (re (use:=some (assign (.Name y py) X.env)) (Qv:=λ_ s'=>SP X pins D .next s') (G:=λ_ _ _=>True) hc hi hclos S (λC s H ex _=>hb C s H ex) hs (λ_ _ _ _ _ _=>trivial) I (λa H'=>D.nx (σ.set i (some (.ref a))) H') (λa C H' s4 m J4 fC hn q=>?_) h) (λ_ s' hq=>wpAny_pure (wpAny_pure hq)) λ_ _ e=>e)
 obtain⟨f0,f1,f2,f3,f4,f5⟩:=fC;refine wpAny_assign_Name (rM J4 hN hy hx (v:=.ref a) rfl (λs5 I5 hsame=>?_) hf);obtain⟨b,sb,hb'⟩:=hsame;have nb:C≠b:=λe=>by
  rcases hb' with z|z
  .exact f1 (e.trans z)
  .exact f4 _ _ z e.symm
 exact⟨m,hn.sameBut sb nb,λh' hsb=>⟨_,H',I5.turned (t':=s5.toks) (λb o hb e=>hsb.extBut b o hb e) f0 f1 f3 f4 f5,q⟩⟩
end
theorem J8{X:Cx}{scope:Scope}{cl:List (Str×Addr)}{N:List Str}{C:Addr}{s:Shared}{H:Hp}{ex:List Addr}:(nG X scope cl N C s H ex).K=X.K:=rfl
mutual
def D.py:D->PyData
 | .non=>.none
 | .bl b=>.bool b
 | .int i=>.int i
 | .str x=>.str x
 | .dict=>.dict []
 | .tup ds=>.tuple (D.pys ds)
 | .lst ds=>.list (D.pys ds)
def D.pys:List D->List PyData
 | []=>[]
 | d::ds=>d.py::D.pys ds
end
def D.cmp(d:D):Prop:=d.py.canLay0=true/\d.py.depth<=30
def zt(d e:D):Bool:=PyData.eqv d.py e.py
section
variable {X:Cx}{pins:List (Addr×Obj)}{σ:St}{H:Hp}{s:Shared}
mutual
theorem aW.reads(I:aH X pins σ H s):∀(d:D)(v:V)(u:Value),aW (vw X.K H) d v->bK v u->d.py.canLay0=true -> ∃as,Reads s.heap u d.py as
 | .non,v,u,h,r,_=>by
  unfold aW at h;subst h;cases r;exact⟨_,by unfold D.py;exact .none⟩
 | .bl b,v,u,h,r,_=>by
  unfold aW at h;subst h;cases r;exact⟨_,by unfold D.py;exact .bool b⟩
 | .int i,v,u,h,r,_=>by
  unfold aW at h;subst h;obtain⟨t,rfl⟩:=r;exact⟨_,by unfold D.py;exact .int i t⟩
 | .str x,v,u,h,r,_=>by
  unfold aW at h;subst h;obtain⟨t,rfl⟩:=r;exact⟨_,by unfold D.py;exact .str x t⟩
 | .dict,v,u,h,r,hc=>by
  unfold D.py PyData.canLay0 at hc;cases hc
 | .tup ds,v,u,h,r,hc=>by
  obtain⟨a,xs,rfl,ha,rs⟩:=h.tup_at;cases r;unfold D.py at hc ⊢;obtain⟨its,rv,p,hz⟩:=I.tuple (mE ha);obtain⟨o,h1,h2,n,h3⟩:=p;obtain⟨as,ra⟩:=aK.reads I ds xs its rs rv (by unfold PyData.canLay0 at hc;exact hc)
  exact⟨_,.tuple h1 h2 h3 (by simpa using ra)⟩
 | .lst ds,v,u,h,r,hc=>by
  obtain⟨a,xs,rfl,ha,rs⟩:=h.lst_at;cases r;unfold D.py at hc ⊢;obtain⟨its,rv,p,hz⟩:=I.list (jz.of (K:=X.K) (aF ha));obtain⟨o,n,h1,h2,h3,h4⟩:=p;obtain⟨as,ra⟩:=aK.reads I ds xs its rs rv (by unfold PyData.canLay0 at hc;exact hc)
  exact⟨_,.list h1 h2 h4 (by simpa using ra)⟩
theorem aK.reads(I:aH X pins σ H s):∀(ds:List D)(xs:List V)(us:List Value),aK (vw X.K H) ds xs->aX xs us->PyData.canLayAll0 (D.pys ds)=true -> ∃as,ReadsAll s.heap us (D.pys ds) as
 | [],xs,us,h,r,_=>by
  cases h.nil_at;cases r;exact⟨_,by unfold D.pys;exact .nil⟩
 | d::ds,xs,us,h,r,hc=>by
  obtain⟨x,ys,rfl,h1,h2⟩:=h.cons_at;cases r with
  | cons r1 r2 =>
   unfold D.pys PyData.canLayAll0 at hc;rw[Xl] at hc;obtain⟨as,ra⟩:=aW.reads I d x _ h1 r1 hc.1;obtain⟨bs,rb⟩:=aK.reads I ds ys _ h2 r2 hc.2;exact⟨_,by unfold D.pys;exact .cons ra rb⟩
end
end
def EX(K:W.Frag)(neg:Bool):R2:=λx y H Q=>∃d e,aW (vw K H) d x/\aW (vw K H) e y/\d.cmp/\e.cmp/\Q (.bl (if neg then !zt d e else zt d e)) H
section
variable {X:Cx}
theorem vN(hu:X.A.units+64<cLine):gk X (compareOp .Eq) (EX X.K false):=by
 intro pins s σ H x y v u Q I rx ry h;obtain⟨d,e,h1,h2,c1,c2,q⟩:=h;obtain⟨as,r1⟩:=aW.reads I d x v h1 rx c1.1;obtain⟨bs,r2⟩:=aW.reads I e y u h2 ry c2.1;exact SeqAt.compareEq_reads r1 r2 c1.1 c2.1 (by have:=c1.2;nofun) ⟨.bl _,H,I,rfl,q⟩
theorem wM(hu:X.A.units+64<cLine):gk X (compareOp .NotEq) (EX X.K true):=by
 intro pins s σ H x y v u Q I rx ry h;obtain⟨d,e,h1,h2,c1,c2,q⟩:=h;obtain⟨as,r1⟩:=aW.reads I d x v h1 rx c1.1;obtain⟨bs,r2⟩:=aW.reads I e y u h2 ry c2.1;exact SeqAt.compareNe_reads r1 r2 c1.1 c2.1 (by have:=c1.2;nofun) ⟨.bl _,H,I,rfl,q⟩
end
def ky(K:W.Frag)(H:Hp)(a:Addr)(xs:List V):Prop:=(K.lookup a=none/\Rd H a (.lst xs)) \/
 ∃(o:Obj)(its:Array Value)(n:Nat),K.lookup a=some o/\o.cls=.type "list" /\ o.dict=none/\o.data=.seq its n/\its.size<=sizeLine/\aX xs its.toList
theorem ky.sq{K:W.Frag}{H:Hp}{a:Addr}{xs:List V}(h:ky K H a xs):jz K H a xs:=h.imp (λz=>z.2) λz=>z
theorem ky.of{K:W.Frag}{H:Hp}{a:Addr}{xs:List V}(h:jz K H a xs)(hk:H a≠none->K.lookup a=none):ky K H a xs:=by
 rcases h with h|h
 .refine .inl ⟨hk ?_,h⟩;rcases h with h|⟨o,h⟩<;>rw[h]<;>simp
 .exact .inr h
end L2
namespace L2
open PySem PySem.Spec PyProof.Rows
mutual
def D.flat:D->Bool
 | .lst _=>false
 | .tup ds=>D.flats ds
 | _=>true
def D.flats:List D->Bool
 | []=>true
 | d::ds=>d.flat && D.flats ds
end
section
variable {H H':Hp}{l:Addr}{xs:List V}
mutual
theorem aW.flat_but(hl:H l=some (.lst xs))(S:gF l H H'):∀(d:D)(v:V),d.flat=true->aW H d v->aW H' d v
 | .non,v,_,h=>by unfold aW at h ⊢;exact h
 | .bl b,v,_,h=>by unfold aW at h ⊢;exact h
 | .int i,v,_,h=>by unfold aW at h ⊢;exact h
 | .str x,v,_,h=>by unfold aW at h ⊢;exact h
 | .dict,v,_,h=>by
  unfold aW at h ⊢;obtain⟨a,kvs,rfl,h⟩:=h;exact⟨a,kvs,rfl,S _ _ (λe=>by rw[e,hl] at h;cases h) h⟩
 | .tup ds,v,hf,h=>by
  obtain⟨a,ys,rfl,h,rs⟩:=h.tup_at;unfold D.flat at hf;exact .mk_tup (S _ _ (λe=>by rw[e,hl] at h;cases h) h) (aK.flat_but hl S ds ys hf rs)
 | .lst ds,v,hf,h=>by unfold D.flat at hf;cases hf
theorem aK.flat_but(hl:H l=some (.lst xs))(S:gF l H H'):∀(ds:List D)(ys:List V),D.flats ds=true->aK H ds ys->aK H' ds ys
 | [],ys,_,h=>by cases h.nil_at;exact .mk_nil
 | d::ds,ys,hf,h=>by
  obtain⟨y,r,rfl,h1,h2⟩:=h.cons_at;unfold D.flats at hf;rw[Xl] at hf;exact .mk_cons (aW.flat_but hl S d y hf.1 h1) (aK.flat_but hl S ds r hf.2 h2)
end
end
theorem gN(q:Int×Int):(fr q).flat=true:=by simp[fr,D.flat,D.flats]
theorem mf:∀(qs:List (Int×Int)),D.flats (qs.map fr)=true
 | []=>by simp[D.flats]
 | q::qs=>by
  rw[Y4];unfold D.flats;rw[gN,mf qs];rfl
theorem aK.app{H:Hp}:∀{ds es:List D}{xs ys:List V},aK H ds xs->aK H es ys->aK H (ds++es) (xs++ys)
 | [],es,xs,ys,h,g=>by cases h.nil_at;exact g
 | d::ds,es,xs,ys,h,g=>by
  obtain⟨x,r,rfl,h1,h2⟩:=h.cons_at;exact .mk_cons h1 (aK.app h2 g)
theorem aK.snoc{H:Hp}{ds:List D}{xs:List V}{d:D}{x:V}(h:aK H ds xs)(g:aW H d x):aK H (ds++[d]) (xs++[x]):=h.app (.mk_cons g .mk_nil)
theorem aK.at{H:Hp}{ds:List D}{xs:List V}(h:aK H ds xs) {i:Nat}{d:D}(hd:ds[i]? = some d):∃x,xs[i]? = some x/\aW H d x:=by
 have hi:i<ds.length:=(Ys.mp hd).1;have hi':i<xs.length:=by rw[h.length];exact hi
 obtain⟨d',e,r⟩:=h.get (Ya hi');rw[hd] at e;cases e;exact⟨_,Ya hi',r⟩
theorem aK.take{H:Hp}:∀{ds:List D}{xs:List V}(n:Nat),aK H ds xs->aK H (ds.take n) (xs.take n)
 | ds,xs,0,h=>by simp;exact .mk_nil
 | [],xs,n+1,h=>by cases h.nil_at;exact .mk_nil
 | d::ds,xs,n+1,h=>by
  obtain⟨x,r,rfl,h1,h2⟩:=h.cons_at;exact .mk_cons h1 (h2.take n)
theorem aK.drop{H:Hp}:∀{ds:List D}{xs:List V}(n:Nat),aK H ds xs->aK H (ds.drop n) (xs.drop n)
 | ds,xs,0,h=>h
 | [],xs,n+1,h=>by cases h.nil_at;exact .mk_nil
 | d::ds,xs,n+1,h=>by
  obtain⟨x,r,rfl,h1,h2⟩:=h.cons_at;exact h2.drop n
def ft(G:Hp)(a:Addr)(qs:List (Int×Int)):Prop:=∃xs,G a=some (.lst xs)/\aK G (qs.map fr) xs
section
variable {G G':Hp}{a l:Addr}{qs:List (Int×Int)}{xs:List V}
theorem ft.same(h:ft G a qs)(S:ay G G'):ft G' a qs:=by
 obtain⟨ys,h1,h2⟩:=h;exact⟨ys,S _ _ h1,h2.same S⟩
theorem ft.rep(h:ft G a qs):aW G (.lst (qs.map fr)) (.ref a):=by
 obtain⟨ys,h1,h2⟩:=h;exact .mk_lst h1 h2
theorem ft.len(h:ft G a qs):gH G a=some qs.length:=by
 obtain⟨ys,h1,h2⟩:=h;unfold gH;rw[h1];simp only[h2.length,Yb]
theorem ix.but{st:Addr}(h:ix G st)(hl:G l=some (.lst xs))(hn:st≠l)(S:gF l G G'):ix G' st:=by
 obtain⟨x,b,h3,h4⟩:=h;exact⟨x,b,S _ _ hn h3,h4⟩
end
theorem zf{CX:vP}{P:Program}{w:World}{K:W.Frag}{mg:Str->Option Value}{base:Heap}{N:List Str}{qual:Str}{scope:Scope}{f:Addr}{cd:Value}{A:Around}{outer:List Env}{s:Shared}{H:Hp}{E:XK} :
  (gB CX P w K mg base N qual scope f cd A outer s H E).nox.K=K:=rfl
def Ay(t u:TS):TS:=λD σ H=>∃R:St->Hp->Prop,(∀σ' H',R σ' H'->u D σ' H')/\t { D with nx:=R } σ H
theorem Ay.mk{t u:TS}{D:oB}{σ:St}{H:Hp}(R:St->Hp->Prop)(h1:t { D with nx:=R } σ H)(h2:∀σ' H',R σ' H'->u D σ' H'):Ay t u D σ H:=⟨R,h2,h1⟩
theorem D5{X:Cx}{st:Stmt}{rest:List Stmt}{t u:TS}(h1:PS X st t)(h2:sR X rest u):sR X (st::rest) (Ay t u):=by
 rintro pins s σ H D I ⟨R,hR,h⟩;refine wpAny_execs_cons (dq (h1 pins s σ H { D with nx:=R } I h) λf s1 q=>?_)
 cases f with
 | next =>
  obtain⟨σ',H',I',q⟩:=q;exact h2 pins s1 σ' H' D I' (hR _ _ q)
 | ret v=>exact q
 | brk=>exact q
 | cont=>exact q
def oK(J:It)(H:Hp)(its:List V):Prop:=(∀i,i<its.length->J.go i H)/\(∀i x H',i<its.length->J.yld i H x H'->H'=H/\its[i]? = some x)/\J.stop its.length H
def iB(lo:Int)(n:Nat):List V:=(List.range n).map λ(k:Nat)=>V.int (lo+k)
theorem cp{lo:Int}{n:Nat}{H:Hp}:oK (Je lo n) H (iB lo n):=by
 refine⟨λi hi=>by show i<n;simpa [iB] using hi,λi x H' hi y=>⟨y.1,?_⟩,by show n<=(iB lo n).length;simp[iB]⟩
 have hi':i<n:=by simpa [iB] using hi
 rw[y.2];simp[iB,hi']
theorem aM{K:W.Frag}{H:Hp}{a:Addr}{xs:List V}(h:vw K H a=some (.lst xs)):oK (KI K a) H xs :=
 ⟨λi hi=>⟨xs,xs[i],.of (aF h),by simp[hi]⟩,λi x H' _ y=>⟨y.1,y.2 xs (.of (aF h))⟩,⟨xs,.of (aF h),Yn _⟩⟩
theorem aY{J:It}{its:List V}{g:TG}{tb:TS}{D:oB}{σ:St}{H:Hp}(Pv:Nat->St->Hp->Prop)(hl:∀i σ H,i<=its.length->Pv i σ H->oK J H its)(h0:Pv 0 σ H)
  (hs:∀i x σ H,i<its.length->its[i]? = some x->Pv i σ H->g x σ H λσ2 H2=>tb { D with nx:=Pv (i+1),ct:=Pv (i+1),bk:=D.nx } σ2 H2)(hd:∀σ H,Pv its.length σ H->D.nx σ H):Ce J g tb D σ H:=by
 refine⟨λi m σ H=>m=its.length-i/\i<=its.length/\Pv i σ H,⟨its.length,by simp,Y3 _,h0⟩,?_⟩
 rintro i m σ H ⟨rfl,hi,p⟩;obtain⟨q1,q2,q3⟩:=hl i σ H hi p;by_cases hlt:i<its.length
 .refine .inr ⟨q1 i hlt,Pv (i+1),λσ' H' p'=>⟨its.length-(i+1),(),rfl,hlt,p'⟩,λx H' y=>?_⟩;obtain⟨e,y2⟩:=q2 i x H' hlt y;subst e;exact hs i x σ _ hlt y2 p
 .have e:i=its.length:=();subst e;exact .inl ⟨q3,hd σ H p⟩
def CN(K:W.Frag)(a:Addr)(σr:St)(Pv:List V->Hp->Prop):St->Hp->Prop:=λσ H=>(∃y,σ=y::σr) /\ ∃xs,vw K H a=some (.lst xs)/\Pv xs H
def II(K:W.Frag)(a:Addr)(N:Hp->Prop):V->Hp->Prop:=λv H4=>∃xs,vw K H4 a=some (.lst xs)/\xs.length<sizeLine /\ ∀H5,gF a (vw K H4) (vw K H5)->vw K H5 a=some (.lst (xs++[v]))->N H5
theorem bH{K:W.Frag}{J:It}{its:List V}{tif:TT}{te:TE}{a:Addr}{x0:Option V}{σr:St}{H0:Hp}{Q:Hp->Prop}(Pv:Nat->List V->Hp->Prop)
  (hl:∀i xs H,i<=its.length->vw K H a=some (.lst xs)->Pv i xs H->oK J H its)(ha:vw K H0 a=some (.lst []))(h0:Pv 0 [] H0)
  (hs:∀i x xs H,i<its.length->its[i]? = some x->vw K H a=some (.lst xs)->Pv i xs H->tif (some x::σr) H λb H3=>if b=true then te (some x::σr) H3 (II K a (CN K a σr (Pv (i+1)) (some x::σr))) else CN K a σr (Pv (i+1)) (some x::σr) H3)
  (hd:∀xs H,vw K H a=some (.lst xs)->Pv its.length xs H->Q H):sw K J (jL 0) tif te a (x0::σr) H0 Q:=by
 refine⟨λi m σ H=>m=its.length-i/\i<=its.length/\CN K a σr (Pv i) σ H,⟨its.length,by simp,Y3 _,⟨_,rfl⟩,_,ha,h0⟩,?_⟩
 rintro i m σ H ⟨rfl,hi,⟨y,rfl⟩,xs,hxs,p⟩;obtain⟨q1,q2,q3⟩:=hl i xs H hi hxs p;by_cases hlt:i<its.length
 .refine .inr ⟨q1 i hlt,CN K a σr (Pv (i+1)),λσ' H' p'=>⟨its.length-(i+1),(),rfl,hlt,p'⟩,λx H' y=>?_⟩;obtain⟨e,y2⟩:=q2 i x H' hlt y;subst e;exact hs i x xs _ hlt y2 hxs p
 .have e:i=its.length:=();subst e;exact .inl ⟨q3,hd xs H hxs p⟩
theorem II.mk{K:W.Frag}{a:Addr}{σr:St}{Pv:List V->Hp->Prop}{x:Option V}{v:V}{H:Hp}{xs:List V}(h:vw K H a=some (.lst xs))(hz:xs.length<sizeLine)
  (q:∀H5,gF a (vw K H) (vw K H5)->vw K H5 a=some (.lst (xs++[v]))->Pv (xs++[v]) H5):II K a (CN K a σr Pv (x::σr)) v H:=⟨xs,h,hz,λH5 B h5=>⟨⟨_,rfl⟩,_,h5,q H5 B h5⟩⟩
theorem CN.mk{K:W.Frag}{a:Addr}{σr:St}{Pv:List V->Hp->Prop}{x:Option V}{H:Hp}{xs:List V}(h:vw K H a=some (.lst xs))(q:Pv xs H):CN K a σr Pv (x::σr) H:=⟨⟨_,rfl⟩,_,h,q⟩
theorem iI{lo:Int}{n i:Nat}{x:V}(h:(iB lo n)[i]? = some x):i<n/\x=.int (lo+i):=by
 have hi:i<n:=by simpa [iB] using (Ys.mp h).1
 simp[iB,hi] at h;exact⟨hi,h.symm⟩
theorem dY{lo:Int}{n:Nat}:(iB lo n).length=n:=by simp[iB]
theorem yI{n d:Nat}{k:Nat}(h:k<=n):HT.sIx n d (some (k:Int))=k:=by
 unfold HT.sIx;simp only[XB];rw[Yc ()];nofun
theorem sL{xs:List V}{k:Nat}(h:k<=xs.length):ju xs none (some (k:Int))=xs.take k:=by
 unfold ju;rw[yI h];simp[HT.sIx]
theorem jh{α:Type}{xs:List α}{x:α}(h:xs.getLast? = some x):pE xs (-1)=some x:=by
 obtain⟨ys,rfl⟩:=List.getLast?_eq_some_iff.mp h;exact Ax ys x
def Hm(K:W.Frag)(neg:Bool):R2:=λx y H Q=>∃p q,x=.ref p/\y=.ref q /\ ∃xs,vw K H p=some (.lst xs)/\vw K H q=some (.lst [])/\Q (.bl (if neg then !xs.isEmpty else xs.isEmpty)) H
section
variable {X:Cx}
theorem AS(hu:X.A.units<cLine):gk X (compareOp .NotEq) (Hm X.K true):=by
 intro pins s σ H x y v u Q I rx ry h;obtain⟨p,q,rfl,rfl,xs,h1,h2,k⟩:=h;cases rx;cases ry;obtain⟨its,r,⟨o,n,e1,e2,e3,e4⟩,_⟩:=I.list (jz.of (K:=X.K) (aF h1));obtain⟨its2,r2,⟨o2,n2,f1,f2,f3,f4⟩,_⟩:=I.list (jz.of (K:=X.K) (aF h2));cases r2;have fin:EP X pins σ Q (.bool !xs.isEmpty) s:=⟨.bl _,H,I,rfl,k⟩;cases xs with
 | nil =>
  cases r;exact SeqAt.RcNeAt.lists (e:=λ_=>true) ⟨_,e1,e2,_,e4⟩ ⟨_,f1,f2,_,f4⟩ rfl hu (λj h1=>absurd h1 (by simp)) _ _ _ _ fin
 | cons x xs =>
  cases r;exact SeqAt.RcNeAt.lists_lengths ⟨_,e1,e2,_,e4⟩ ⟨_,f1,f2,_,f4⟩ (by simp) hu _ _ _ _ fin
end
theorem dz.ul{k:Nat}{A:Around}(r:dz k A):A.units<cLine:=by have:=r.un;nofun
theorem dz.u64{k:Nat}{A:Around}(r:dz k A):A.units+64<cLine:=by have:=r.un;nofun
theorem Cq(p q:Int×Int):zt (fr p) (fr q)=decide (p=q):=by
 unfold zt fr D.py D.pys D.pys D.pys D.py;simp only[PyData.eqv,PyData.eqvAll];rw[XT];simp[Prod.ext_iff]
theorem vD(q:Int×Int):(fr q).cmp:=by
 unfold D.cmp fr D.py D.pys D.pys D.pys D.py;exact⟨rfl,Nat.le_of_ble_eq_true rfl⟩
theorem cq{H:Hp}{a:Addr}{i j:Int}(h:H a=some (.tup [.int i,.int j])):aW H (fr (i,j)) (.ref a):=.mk_tup h (.mk_cons (.mk_int _) (.mk_cons (.mk_int _) .mk_nil))
end L2
namespace L2
open PySem PySem.Spec PyProof.Rows
theorem aK.repl{H:Hp}{d:D}{x:V}(h:aW H d x):∀n,aK H (List.replicate n d) (List.replicate n x)
 | 0=>.mk_nil
 | n+1=>.mk_cons h (aK.repl h n)
theorem ay.rfl{H:Hp}:ay H H:=λ_ _ z=>z
end L2
set_option autoImplicit true
namespace L2
open PySem PySem.Spec PyProof.Rows
structure QE (X:Cx)(e:Expr)(t:TE):Prop where
 h:PE X e t
structure QT (X:Cx)(e:Expr)(t:TT):Prop where
 h:PT X e t
structure QW (X:Cx)(e:Expr)(t:TT):Prop where
 h:PW X e t
structure QA (X:Cx)(e:List Expr)(t:TA):Prop where
 h:PA X e t
structure QS (X:Cx)(e:Stmt)(t:TS):Prop where
 h:PS X e t
structure vA (X:Cx)(e:List Stmt)(t:TS):Prop where
 h:sR X e t
structure QG (X:Cx)(e:Expr)(t:TG):Prop where
 h:PG X e t
structure Kx (X:Cx)(e:List Expr)(t:Ai):Prop where
 h:Jd X e t
structure QF (X:Cx)(e:List Expr)(t:TT):Prop where
 h:PF X e t
structure QO (X:Cx)(e:Option Expr)(t:TO):Prop where
 h:PO X e t
structure QI (X:Cx)(tg e:Expr)(t:TI):Prop where
 h:PI X tg e t
section
variable {X:Cx}{pos p p2 apos cpos pos':Pos}{a b e o l:Expr}{es rest:List Expr}{te ta tb to:TE}{tA tB':TT}{st:Stmt}{rest':List Stmt}{lo hi:Option Expr}{id:String}
theorem rB {b j pos}:QE X (.Constant (.bool b) j pos) (tC (.bl b)):=⟨Jt ⟩
theorem af {i j pos}:QE X (.Constant (.int i) j pos) (tC (.int i)):=⟨HC ⟩
theorem Bi {j pos}:QE X (.Constant .none j pos) (tC .non):=⟨GO ⟩
theorem fE {x j pos}:QE X (.Constant (.str x) j pos) (tC (.str x)):=⟨Iu ⟩
theorem gR{x:Str}{v:V}{u:Value}{pos:Pos}(hg:Gl X x)(hm:X.mg x=some u)(r:bK v u)(hd:(x==("__debug__" : Str))=false:=by decide):QE X (.Name x pos) (tC v):=⟨DH (hg:=hg) (hm:=hm) (r:=r) (hd:=hd)⟩
theorem sX{x:Str}{v:V}{u:Value}{pos:Pos}(hg:Gl X x)(hm:X.mg x=none)(hv:bootBuiltins x=some u)(r:bK v u)(hn:x ≠ "__name__":=by decide) (hd:(x==("__debug__" : Str))=false:=by decide):QE X (.Name x pos) (tC v):=⟨Fo (hg:=hg) (hm:=hm) (hv:=hv) (r:=r) (hn:=hn) (hd:=hd)⟩
theorem aw{op:Operator}{r:R2}(ho:gk X (binaryOp op) r)(ha:QE X a ta)(hb:QE X b tb):QE X (.BinOp a op b pos) (DW r ta tb):=⟨JD (ho:=ho) (ha:=ha.h) (hb:=hb.h)⟩
theorem gD{op:UnaryOp}{r:V->Hp->VK->Prop}(ho:KC X (unaryOp op) r)(ha:QE X a ta):QE X (.UnaryOp op a pos) (KZ r ta):=⟨JX (ho:=ho) (ha:=ha.h)⟩
theorem sZ{op:CmpOp}{r:R2}(ho:gk X (compareOp op) r)(ha:QE X a ta)(hb:QE X b tb)(hm:behindInMarks op b=false):QE X (.Compare a [op] [b] pos) (DW r ta tb):=⟨EC (ho:=ho) (ha:=ha.h) (hb:=hb.h) (hm:=hm)⟩
theorem fQ{c:Expr}(hc:QT X c tA)(ha:QE X a ta)(hb:QE X b tb):QE X (.IfExp c a b pos) (K1 tA ta tb):=⟨BP (hc:=hc.h) (ha:=ha.h) (hb:=hb.h)⟩
theorem aP {x1}(h:QA X es t):QE X (.Tuple es x1 pos) (CL X.K t):=⟨D4 (h:=h.h)⟩
theorem aJ(h:QA X es t):QE X (.List es pos) (qP X.K t):=⟨EU (h:=h.h)⟩
theorem jw{r:V->Option Int->Option Int->Hp->VK->Prop}(hr:Aj X r)(he:QE X e te)(hl:QO X lo tl)(hu:QO X hi th):QE X (.Subscript e (.Slice lo hi none p2) pos) (Lf r te tl th):=⟨BX (hr:=hr) (he:=he.h) (hl:=hl.h) (hu:=hu.h)⟩
theorem kX  : QO X none tD:=⟨Fa ⟩
theorem lc(h:QE X e te):QO X (some e) (x9 te):=⟨ER (h:=h.h)⟩
theorem aE{r:R2}(hr:wE X r)(ha:QE X a ta)(hb:QE X b tb)(hs:yK b):QE X (.Subscript a b pos) (DW r ta tb):=⟨Js (hr:=hr) (ha:=ha.h) (hb:=hb.h) (hs:=hs)⟩
theorem av(C:cg X.prog X.w X.K X.mg X.base x ps k sp)(hr:dz k X.A)(hg:Gl X x)(ha:QA X (e::es) t)(hdb:(x==("__debug__" : Str))=false:=by decide) (he:starEach (e::es) X.env=(false,eval e X.env)::starEach es X.env:=by rfl)(hpl:(backTo pos (starEach es X.env)).any (·.1)=false:=by rfl) :
  QE X (.Call (.Name x p) (e::es) [] pos) (IZ sp t):=⟨GA (C:=C) (hr:=hr) (hg:=hg) (ha:=ha.h) (hdb:=hdb) (he:=he) (hpl:=hpl)⟩
theorem az(hc:fj X (.builtin id) r)(hg:Gl X x)(hm:X.mg x=none)(hv:bootBuiltins x=some (.builtin id))(ha:QA X (e::es) t)(hn:x ≠ "__name__":=by decide) (hdb:(x==("__debug__" : Str))=false:=by decide) (he:starEach (e::es) X.env=(false,eval e X.env)::starEach es X.env:=by rfl)(hpl:(backTo pos (starEach es X.env)).any (·.1)=false:=by rfl):QE X (.Call (.Name x p) (e::es) [] pos) (Eu r t):=⟨Aw (hc:=hc) (hg:=hg) (hm:=hm) (hv:=hv) (ha:=ha.h) (hn:=hn) (hdb:=hdb) (he:=he) (hpl:=hpl)⟩
theorem hU(hc:fj X (.type T) r)(hg:Gl X x)(hm:X.mg x=none)(hv:bootBuiltins x=some (.type T))(ha:QA X (e::es) t)(hn:x ≠ "__name__":=by decide) (hdb:(x==("__debug__" : Str))=false:=by decide) (he:starEach (e::es) X.env=(false,eval e X.env)::starEach es X.env:=by rfl)(hpl:(backTo pos (starEach es X.env)).any (·.1)=false:=by rfl):QE X (.Call (.Name x p) (e::es) [] pos) (Eu r t):=⟨zD (hc:=hc) (hg:=hg) (hm:=hm) (hv:=hv) (ha:=ha.h) (hn:=hn) (hdb:=hdb) (he:=he) (hpl:=hpl)⟩
theorem ku(pa:PlainAttrs T)(slot:Slot T name id)(hty:typeOf (.builtin id)=pure (.type "method_descriptor")) (hm:J9 X id r)(ho:QE X o to)(ha:QA X (e::es) t)(hbase:attributeBase o name X.env (eval o X.env)=eval o X.env:=by rfl)(hfew:((backTo cpos (starEach (e::es) X.env)).all (λx=>!x.1) && (backToKw cpos (keywordEach [] X.env)).all (λx=>x.1.isSome)
   && decide ((e::es).length+([]:List Keyword).length+(if ([]:List Keyword).isEmpty then 0 else 1)<30))=true:=by rfl) (hline:(apos.endLine==cpos.line)=true:=by rfl)(hs:starEach (e::es) X.env=(false,eval e X.env)::starEach es X.env:=by rfl)(hplain:(backTo cpos (starEach es X.env)).any (·.1)=false:=by rfl) :
  QE X (.Call (.Attribute o name apos) (e::es) [] cpos) (KY X.K T r to t):=⟨J2 (pa:=pa) (slot:=slot) (hty:=hty) (hm:=hm) (ho:=ho.h) (ha:=ha.h) (hbase:=hbase) (hfew:=hfew) (hline:=hline) (hs:=hs) (hplain:=hplain)⟩
theorem tE(pa:PlainAttrs T)(slot:Slot T name id)(hty:typeOf (.builtin id)=pure (.type "method_descriptor")) (hm:J9 X id r)(ho:QE X o to)(hbase:attributeBase o name X.env (eval o X.env)=eval o X.env:=by rfl)(hline:(apos.endLine==cpos.line)=true:=by rfl):QE X (.Call (.Attribute o name apos) [] [] cpos) (Hk X.K T r to):=⟨Gu (pa:=pa) (slot:=slot) (hty:=hty) (hm:=hm) (ho:=ho.h) (hbase:=hbase) (hline:=hline)⟩
theorem ae  : QA X [] Hr:=⟨HP ⟩
theorem aa(ha:QE X e te)(hr:QA X es t)(hs:starEach (e::es) X.env=(false,eval e X.env)::starEach es X.env:=by rfl):QA X (e::es) (Dc te t):=⟨Dz (ha:=ha.h) (hr:=hr.h) (hs:=hs)⟩
theorem aN{op:CmpOp}{r:R2}(ho:gk X (compareOp op) r)(ha:QE X a ta)(hb:QE X b tb)(hm:behindInMarks op b=false):QT X (.Compare a [op] [b] pos) (ye (DW r ta tb)):=⟨EN (ho:=ho) (ha:=ha.h) (hb:=hb.h) (hm:=hm)⟩
theorem mY(ha:QT X a tA):QT X (.UnaryOp .Not a pos) (Jb tA):=⟨GX (ha:=ha.h)⟩
theorem QW.pt{X:Cx}{e:Expr}{t:TT}(h:QW X e t):QT X e t:=⟨PW.pt (h:=h.h)⟩
theorem oq(ha:QT X a tA):QW X (.BoolOp .And [a] pos) tA:=⟨ES (ha:=ha.h)⟩
theorem sD(ha:QT X a tA)(hb:QW X (.BoolOp .And (b::rest) pos) tB'):QW X (.BoolOp .And (a::b::rest) pos) (GN tA tB'):=⟨HG (ha:=ha.h) (hb:=hb.h)⟩
theorem Ao(ha:QT X a tA):QW X (.BoolOp .Or [a] pos) tA:=⟨IM (ha:=ha.h)⟩
theorem Db(ha:QT X a tA)(hb:QW X (.BoolOp .Or (b::rest) pos) tB'):QW X (.BoolOp .Or (a::b::rest) pos) (KL tA tB'):=⟨J6 (ha:=ha.h) (hb:=hb.h)⟩
theorem dZ(ha:QE X a ta)(he:∀whole,isTrue a X.env whole=(do let v <-whole;standAt a.pos;holding [v] (truthy v))) :
  QT X a (λσ H Q=>ta σ H λx H'=>∃k,wA X.K x H' k/\Q k H'):=⟨Do (ha:=ha.h) (he:=he)⟩
theorem tL{e:Expr}{t:TE}(h:QE X e t)(he:∀whole,isTrue e X.env whole=(do let v <-whole;standAt e.pos;holding [v] (truthy v)):=by intro _;rfl):QT X e (tB t):=⟨IB (h:=h.h) (he:=he)⟩
theorem aq{i:Nat}{x:Str}(hN:X.N.Nodup)(hi:X.N[i]? = some x)(hx:Dt X.env.scope x)(hf:X.fn x=true\/X.env.scope.names.lookup x=some .local:=by first|exact .inl rfl|exact .inr rfl|assumption):QG X (.Name x pos) (jL i):=⟨Fm (hN:=hN) (hi:=hi) (hx:=hx) (hf:=hf)⟩
theorem dU{es:List Expr}{k:Nat}{t:Ai}{n:Nat}{pos:Pos}(hc:X.calm=true)(h:Kx X es t)(hn:(assignEach es X.env).length=n:=by rfl)(hst:(assignEach es X.env).findIdx? (·.1)=none:=by rfl):QG X (.Tuple es k pos) (uD X.K n t):=⟨Ec (hc:=hc) (h:=h.h) (hn:=hn) (hst:=hst)⟩
theorem dQ  : Kx X [] AA:=⟨Fy ⟩
theorem aB{e:Expr}{es:List Expr}{t:TG}{u:Ai}(h1:QG X e t)(h2:Kx X es u)(hs:(assignEach (e::es) X.env).map (·.2)=assign e X.env::(assignEach es X.env).map (·.2):=by rfl):Kx X (e::es) (qF t u):=⟨A6 (h1:=h1.h) (h2:=h2.h) (hs:=hs)⟩
theorem pe{o i:Expr}{to ti:TE}{t:vJ}(ho:QE X o to)(hi:QE X i ti)(hs:yY X t)(ha:∀v,assign (.Subscript o i pos) X.env v=(do
   let ov <-holding [v] (eval o X.env)
   let iv <-holding [v,ov] (eval i X.env)
   standAt pos
   holding [v,ov,iv] (setItem ov iv v)
   release [v,ov,iv] []):=by intro _;rfl):QG X (.Subscript o i pos) (Ik to ti t):=⟨HH (ho:=ho.h) (hi:=hi.h) (hs:=hs) (ha:=ha)⟩
theorem fe{a:Expr}{ta:TA}{p pos:Pos}(hg:Gl X "range") (hm:X.mg "range" = none) (ha:QA X [a] ta)(hs:starEach [a] X.env=[(false,eval a X.env)]:=by rfl):QI X tg (.Call (.Name "range" p) [a] [] pos) (yw ta):=⟨zP (hg:=hg) (hm:=hm) (ha:=ha.h) (hs:=hs)⟩
theorem qx{a b:Expr}{ta:TA}{p pos:Pos}(hg:Gl X "range") (hm:X.mg "range" = none) (ha:QA X [a,b] ta)(hs:starEach [a,b] X.env=[(false,eval a X.env),(false,eval b X.env)]:=by rfl)(hs2:starEach [b] X.env=[(false,eval b X.env)]:=by rfl) :
  QI X tg (.Call (.Name "range" p) [a,b] [] pos) (Al ta):=⟨zS (hg:=hg) (hm:=hm) (ha:=ha.h) (hs:=hs) (hs2:=hs2)⟩
theorem bU{l:Expr}{tl:TE}(hl:QE X l tl):QI X tg l (yH X.K tl):=⟨E2 (hl:=hl.h)⟩
theorem aI(he:QE X e te):QS X (.Return (some e) pos) (Ir te):=⟨Gx (he:=he.h)⟩
theorem fP(he:QE X e te)(hs:swapsWith e none pos.line X.env=pure false:=by rfl):QS X (.Expr e pos) (CG te):=⟨Ef (he:=he.h) (hs:=hs)⟩
theorem dy{c:Expr}{a b:List Stmt}{tc:TT}(hc:QT X c tc)(ha:vA X a t)(hb:vA X b u):QS X (.If c a b pos) (Ht tc t u):=⟨JV (hc:=hc.h) (ha:=ha.h) (hb:=hb.h)⟩
theorem iw{c:Expr}{body:List Stmt}{tc:TT}{tb:TS}(hp:PassesOwn (model X.prog X.w) X.A X.env X.xe)(hc:QT X c tc)(hb:vA X body tb):QS X (.While c body [] pos) (Bv tc tb):=⟨C8 (hp:=hp) (hc:=hc.h) (hb:=hb.h)⟩
theorem cL{iter:Expr}{body:List Stmt}{wi:TI}{g:TG}{tb:TS}{pos:Pos}(hp:PassesOwn (model X.prog X.w) X.A X.env X.xe)(hc:X.calm=true)(hi:QI X tg iter wi)(hg:QG X tg g)(hb:vA X body tb)(hs:∀x,foldedSetIterable iter X.env x=pure x:=by intro _;rfl):QS X (.For tg iter body [] pos) (HZ wi g tb):=⟨Ip (hp:=hp) (hc:=hc) (hi:=hi.h) (hg:=hg.h) (hb:=hb.h) (hs:=hs)⟩
theorem ax{i:Nat}{x:Str}{e:Expr}{te:TE}{pos':Pos}(hN:X.N.Nodup)(hi:X.N[i]? = some x)(hx:Dt X.env.scope x)(he:QE X e te)(hs:swapsWith e (some (.Name x pos')) pos.line X.env=pure false:=by rfl)(hf:X.fn x=true\/X.env.scope.names.lookup x=some .local:=by first|exact .inl rfl|exact .inr rfl|assumption) :
  QS X (.Assign [.Name x pos'] e pos) (wC te (jL i)):=⟨IX (hN:=hN) (hi:=hi) (hx:=hx) (he:=he.h) (hs:=hs) (hf:=hf)⟩
theorem pi{i j:Nat}{x y:Str}{a b:Expr}{ta:TA}{px py pt:Pos} {kt k2 pt2}(hc:X.calm=true)(hN:X.N.Nodup)(hi:X.N[i]? = some x)(hj:X.N[j]? = some y)(hij:i≠j)(hx:X.env.scope.names.lookup x=some .local)(hy:X.env.scope.names.lookup y=some .local)(ha:QA X [a,b] ta)(hw:swappedStores [.Tuple [.Name x px,.Name y py] kt pt] (.Tuple [a,b] k2 pt2) X.env=pure (some [x,y]))(hs:swapsWithSole [.Tuple [.Name x px,.Name y py] kt pt] (.Tuple [a,b] k2 pt2) pos.line X.env=pure false:=by rfl) :
  QS X (.Assign [.Tuple [.Name x px,.Name y py] kt pt] (.Tuple [a,b] k2 pt2) pos) (Fk i j ta):=⟨Ic (hc:=hc) (hN:=hN) (hi:=hi) (hj:=hj) (hij:=hij) (hx:=hx) (hy:=hy) (ha:=ha.h) (hw:=hw) (hs:=hs)⟩
theorem gd{tg e:Expr}{te:TE}{g:TG}(he:QE X e te)(hg:QG X tg g)(hs:swapsWithSole [tg] e pos.line X.env=pure false:=by rfl)(hw:swappedStores [tg] e X.env=pure none:=by rfl)(h1:(assignEach [tg] X.env).map (·.2)=[assign tg X.env]:=by rfl):QS X (.Assign [tg] e pos) (wC te g):=⟨IA (he:=he.h) (hg:=hg.h) (hs:=hs) (hw:=hw) (h1:=h1)⟩
theorem jM{i:Nat}{x:Str}{e:Expr}{te:TE}{op:Operator}{ti:Ds}{pos':Pos}(hN:X.N.Nodup)(hi:X.N[i]? = some x)(hx:Dt X.env.scope x)(he:QE X e te)(ho:Gh X op ti)(hf:X.fn x=true\/X.env.scope.names.lookup x=some .local:=by first|exact .inl rfl|exact .inr rfl|assumption) :
  QS X (.AugAssign (.Name x pos') op e pos) (Gz i te ti):=⟨HS (hN:=hN) (hi:=hi) (hx:=hx) (he:=he.h) (ho:=ho) (hf:=hf)⟩
theorem w8{o i e:Expr}{to ti te:TE}{tget:V->V->Hp->VK->Prop}{tip:Ds}{tset:vJ}{op:Operator}{tpos:Pos}(ho:QE X o to)(hi:QE X i ti)(hg:GU X tget)(he:QE X e te)(hp:Gh X op tip)(hs:yY X tset)(ha:∀ov iv new,augStore i ov iv new=(do holding [new,ov,iv] (setItem ov iv new);release [new,ov,iv] [];pure .next):=by intros;rfl):QS X (.AugAssign (.Subscript o i tpos) op e pos) (yA to ti te tget tip tset):=⟨E4 (ho:=ho.h) (hi:=hi.h) (hg:=hg) (he:=he.h) (hp:=hp) (hs:=hs) (ha:=ha)⟩
theorem bC  : vA X [] CK:=⟨EF ⟩
theorem aj(h1:QS X st t):vA X [st] t:=⟨Fp (h1:=h1.h)⟩
theorem ag(h1:QS X st t)(h2:vA X rest' u):vA X (st::rest') (aT t u):=⟨CD (h1:=h1.h) (h2:=h2.h)⟩
theorem DC{X:Cx}{st:Stmt}{rest':List Stmt}{t u:TS}(h1:QS X st t)(h2:vA X rest' u):vA X (st::rest') (Ay t u):=⟨D5 (h1:=h1.h) (h2:=h2.h)⟩
theorem gh{X:Cx}:QF X [] Ib:=⟨Hn ⟩
theorem vU{X:Cx}{c:Expr}{t:TT}(h:QT X c t):QF X [c] t:=⟨Gn (h:=h.h)⟩
theorem qv(i:Nat){x:Str}{pos:Pos}(hN:X.N[i]? = some x:=by rfl)(hv:GR X.env.scope x:=by first|exact Or.inl rfl|exact Or.inr (Or.inl rfl)|exact Or.inr (Or.inr rfl))(hd:(x==("__debug__" : Str))=false:=by decide) (hcd:(x==("__classdict__" : Str))=false:=by decide):QE X (.Name x pos) (DX i):=⟨pv (i:=i) (hN:=hN) (hv:=hv) (hd:=hd) (hcd:=hcd)⟩
theorem fv{tg iter elt:Expr}{ifs:List Expr}{scope:Scope}{wi:TI}{g:TG}{tif:TT}{te:TE}{cl:List (Str×Addr)}{own outs:List Str}{ixs:List Nat}
  (hc:X.calm=true)(hi:QI X tg iter wi)(hclos:closureFor scope X.env=pure cl)(S:oD X scope cl own outs ixs)
  (hb:∀C s H ex,QG (nG X scope cl (own++outs) C s H ex) tg g/\QF (nG X scope cl (own++outs) C s H ex) ifs tif/\QE (nG X scope cl (own++outs) C s H ex) elt te)
  (hs:∀x,foldedSetIterable iter X.env x=pure x:=by intro _;rfl):QE X (.ListComp elt [⟨tg,iter,ifs,0⟩] scope pos) (uU X.K wi own.length ixs g tif te) :=
 ⟨D6 hc hi.h hclos S (λC s H ex=>⟨(hb C s H ex).1.h,(hb C s H ex).2.1.h,(hb C s H ex).2.2.h⟩) hs⟩
theorem oe{tg iter elt:Expr}{ifs:List Expr}{scope:Scope}{spos py:Pos}{y:Str}{i:Nat}{wi:TI}{g:TG}{tif:TT}{te:TE}{cl:List (Str×Addr)}{own outs:List Str}{ixs:List Nat}
  (hN:X.N.Nodup)(hy:X.N[i]? = some y)(hx:Dt X.env.scope y)(hc:X.calm=true)(hi:QI X tg iter wi)(hclos:closureFor scope X.env=pure cl)(S:oD X scope cl own outs ixs)
  (hb:∀C s H ex,QG (nG X scope cl (own++outs) C s H ex) tg g/\QF (nG X scope cl (own++outs) C s H ex) ifs tif/\QE (nG X scope cl (own++outs) C s H ex) elt te)
  (hsw:swapsWith (.ListComp elt [⟨tg,iter,ifs,0⟩] scope pos) (some (.Name y py)) spos.line X.env=pure true:=by rfl)
  (hs:∀x,foldedSetIterable iter X.env x=pure x:=by intro _;rfl)(hf:X.fn y=true\/X.env.scope.names.lookup y=some .local:=by first|exact .inl rfl|exact .inr rfl|assumption) :
  QS X (.Assign [.Name y py] (.ListComp elt [⟨tg,iter,ifs,0⟩] scope pos) spos) (wC (uU X.K wi own.length ixs g tif te) (jL i)) :=
 ⟨Fl hN hy hx hc hi.h hclos S (λC s H ex=>⟨(hb C s H ex).1.h,(hb C s H ex).2.1.h,(hb C s H ex).2.2.h⟩) hsw hs hf⟩
end
section
variable {P:Program}{w:World}{K:W.Frag}{mg:Str->Option Value}{base:Heap}
theorem fY.okQ{x qual:Str}{st:Stmt}{f:Addr}{fd:FuncData}{N ps:List Str}{k:Nat}{sp:Sp}(F:fY K x qual st f fd)(S:aD N ps (ah st))(len:∀vs H Q E,sp vs H Q E->vs.length=ps.length)
  (hbody:∀(cdv:Value)(A:Around)(outer:List Env)(s:Shared)(H:Hp)(vs:List V)(Q:VK)(E:XK),dz k (A.deeper (envOfC qual (ah st) s.heap.objs.size f cdv))->sp vs H Q E ->
   ∃t,vA (gB fW P w K mg base N qual (ah st) f cdv A outer s H E).nox (aA st) t/\t { nx:=λ_ H'=>Q .non H',rt:=Q } (start N vs) H):cj P w K mg base fW (k+1) f fd ps sp :=
 F.ok S len λcdv A outer s H vs Q E hr h=>(hbody cdv A outer s H vs Q E hr h).imp λt z=>⟨z.1.h,z.2⟩
end
section
variable {X:Cx}{pins:List (Addr×Obj)}{σ:St}{H:Hp}{s:Shared}{h':Heap}
theorem aH.turnT{t':Nat}{ch:List Addr}{T:Addr}{xs:List V}{its:List Value}(I:aH X pins σ H s)(k:∀b o,b∉ch->s.heap.get? b=some o->h'.get? b=some o)(hf:∀b∈ch,qf X pins H b)
  (hT:s.heap.objs.size<=T)(hz:xs.length<=sizeLine)(rv:aX xs its)(ht:IsTup h' T its.toArray):aH X pins σ (upd H T (.tup xs)) { s with heap:=h',toks:=t' }:=by
 have hn:H T=none:=I.hok.fresh hT;have nT:∀b o,s.heap.get? b=some o->b≠T:=λb o e=>YY (Yr (Heap.lt_size e) hT);refine I.step (g':=s.gens) (d':=s.drawn) (ch:=ch) (λb hb=>?_) (λb o _ _ hc e _=>k b o hc e) (λb o _ _ hc e _=>⟨o.slots,k b o hc e⟩) (λb o _ e n=>?_)
  (λb o hc e=>⟨o,k b o hc e⟩) (λb ys e=>?_) (λb o u e=>?_) (λb ps e=>⟨#[],?_⟩) (λm hm=>?_) (λb u e=>?_) I.bare
 .obtain⟨_,f1,_,f3,f4,f5⟩:=hf b hb;exact⟨f3,f1,f4,f5⟩
 .rw[aL (nT b o e)];exact n
 .rw[aL (ak e hn)];exact e
 .rw[aL (ak e hn)];exact e
 .rw[aL (ak e hn),e];simp
 .obtain⟨o,es,ep,ho,r⟩:=hm;exact⟨o,es,ep,k _ o (λz=>(hf _ z).2.1 rfl) ho,r⟩
 .by_cases hb:b=T
  .subst hb;rw[bB] at e;cases e;exact⟨hz,its,rv,ht⟩
  .rw[aL hb] at e;have nch:∀c v,H c=some v->c∉ch:=λc v z hc=>by
    rw[(hf c hc).1] at z;cases z
   refine (I.hok b u e).stay (λc v hc q=>k c v ?_ q) (λc q=>?_) λc ys q=>?_
   .rcases hc with z|z
    .rw[z];exact nch b u e
    .exact nch c _ z
   .rw[aL (ak q hn)];exact q
   .rw[aL (ak q hn)];exact q
end
def K3(K:W.Frag)(R:Hp->List (List V)->Prop):It :=
 ⟨λi H=>∃ys t,R H ys/\ys[i]? = some t,λi H x H'=>∃p t,x=.ref p/\vw K H p=none/\ay (vw K H) (vw K H')/\vw K H' p=some (.tup t) /\ ∀ys,R H ys->ys[i]? = some t,λi H=>∃ys,R H ys/\ys.length=i⟩
def FQ(K:W.Frag)(a:Addr):Hp->List (List V)->Prop:=λH ys=>∃xs,H a=some (.lst xs)/\ys=xs.mapIdx λi x=>[V.int i,x]
theorem zE{P:Program}{w:World}{K:W.Frag}{elts:List Expr}{x1:Nat}{pos:Pos}(a e it:Addr)(hne:e≠it)(ha:a≠e)(ha2:a≠it) :
  yZ P w K (.Tuple elts x1 pos) (K3 K (FQ K a)) [e,it] e (λi h=>(∃old,IsEnum h e it (i:Int) old)/\h.IsListIter it a i) where
 mem:=by simp
 obj:=λi h st b hb=>by
  obtain⟨⟨old,h1⟩,o,h2,c,d⟩:=st;simp only[Yh,Xw,or_false] at hb;rcases hb with rfl|rfl
  .exact⟨_,h1,λv z=>by cases z⟩
  .exact⟨o,h2,λv z=>by rw[d] at z;cases z⟩
 keep:=λi h h' st k=>by
  obtain⟨⟨old,h1⟩,h2⟩:=st;exact⟨⟨old,k e (by simp) _ h1⟩,h2.at λo z=>k it (by simp) o z⟩
 item:=by
  intro X hP hw hK hc i pins s σ H E I hf st hg;subst hP hw hK;obtain⟨⟨old,h1⟩,h2⟩:=st;obtain⟨ys,t,⟨xs,hxs,rfl⟩,ht⟩:=hg;rw[List.getElem?_mapIdx] at ht;cases hx:xs[i]? with
  | none=>rw[hx] at ht;cases ht
  | some x =>
   rw[hx] at ht;cases ht;obtain⟨its,rv,p,hz⟩:=I.list (jz.of (K:=X.K) hxs);obtain⟨u,hu,ru⟩:=rv.get hx;refine wpAny_pyNext_enum_item h1 h2 p.isList (x:=u) (by simpa using hu) hne λh3 heo hit ht3 hz3 hk3=>⟨_,rfl,?_⟩
   refine wpAny_letOwnedTupleGo_enum (s:={ s with heap:=h3,toks:=s.toks+1 }) heo λh4 he4 hs4=>?_
   have hes:e<s.heap.objs.size:=Heap.lt_size h1;have ht4:=hs4.extBut _ _ (Nat.ne_of_gt hes) ht3;have k4:∀b o,b∉[e,it]->s.heap.get? b=some o->h4.get? b=some o:=λb o hb z=>by
    simp only[Yh,Xw,or_false,not_or] at hb;exact hs4.extBut _ _ hb.1 (hk3 b o hb.1 hb.2 z)
   have I4:aH X pins σ (upd H s.heap.objs.size (.tup [.int i,x])) { s with heap:=h4,toks:=s.toks+1 } :=
    I.turnT (its:=[.int i s.toks,u]) k4 hf (Yn _) (show 2<=sizeLine by decide) (.cons ⟨_,rfl⟩ (.cons ru .nil)) ⟨_,ht4,rfl,_,rfl⟩
   have fr:=I.hok.fresh (Yn s.heap.objs.size);have nk:=I.newK (Yn s.heap.objs.size);refine⟨.ref s.heap.objs.size,_,I4,rfl,⟨_,_,rfl,by rw[dD nk];exact fr,kQ (ay.upd fr),by rw[dD nk];exact bB,?_⟩,⟨⟨_,he4⟩,hit.extBut hs4.extBut hne.symm⟩,λb hb=>?_⟩
   .rintro ys ⟨zs,hzs,rfl⟩;rw[hxs] at hzs;cases hzs;rw[List.getElem?_mapIdx,hx];rfl
   .have:b<s.heap.objs.size:=by
     simp only[Yh,Xw,or_false] at hb;rcases hb with rfl|rfl
     .exact hes
     .obtain⟨_,z,_⟩:=h2;exact Heap.lt_size z
    rw[aL (YY this)];exact (hf b hb).1
 done:=by
  intro X hP hw hK hc i pins s σ H E I hf st hg;subst hP hw hK;obtain⟨⟨old,h1⟩,h2⟩:=st;obtain⟨ys,⟨xs,hxs,rfl⟩,hl⟩:=hg;obtain⟨its,rv,p,hz⟩:=I.list (jz.of (K:=X.K) hxs);have hl':=rv.length;rw[List.length_mapIdx] at hl;obtain⟨f0,f1,f2,f3,f4,f5⟩:=hf it (by simp)
  exact wpAny_pyNext_enum_end (I.ok.hd hc) h1 h2 p.isList (by simp;nofun) λh' eb=>⟨rfl,I.turned (t':=s.toks) (λb o hb z=>eb b o hb z) f0 f1 f3 f4 f5⟩
 self:=λ_ _ _ _ _ st h=>by
  obtain⟨⟨old,h1⟩,_⟩:=st;exact wpAny_pyIter_enum h1 h
def xB(K:W.Frag)(ta:TA):TI:=λσ H R=>ta σ H λvs H1=>∃a,vs=[.ref a]/\(∃xs,vw K H1 a=some (.lst xs))/\R (K3 K (FQ K a)) H1
theorem Fw{X:Cx}{elts:List Expr}{x1:Nat}{tp p pos:Pos}{a:Expr}{ta:TA}(hg:Gl X "enumerate") (hm:X.mg "enumerate" = none) (ha:PA X [a] ta)(hs:starEach [a] X.env=[(false,eval a X.env)]:=by rfl) :
  PI X (.Tuple elts x1 tp) (.Call (.Name "enumerate" p) [a] [] pos) (xB X.K ta):=by
 intro pins s σ H R I h;refine Call_ (jB I hg hm sQ (Xn (dq (ha pos pins s σ H _ I h) λus s1 ⟨vs,H1,I1,r1,q1⟩=>?_) hs rfl));obtain⟨b,e,⟨xs,hx⟩,q⟩:=q1;subst e;cases r1 with
 | cons r rr =>
  cases rr;cases r;have hx':=aF hx;obtain⟨hz,its,n,rv,ho⟩:=I1.hok b _ hx';refine call_enumerate_1 ho λh2 he hit hsz hk=>?_;refine wpAny_pyIter_enum (s:={ s1 with heap:=h2 }) he ?_
  have hb:b<s1.heap.objs.size:=Heap.lt_size ho;refine⟨_,[s1.heap.objs.size+1,s1.heap.objs.size],_,_,H1,rfl,I1.kept (t':=s1.toks) hk,zE b _ _ (Nat.ne_of_gt (Nat.lt_succ_self _)) (YY (Nat.lt_succ_of_lt hb)) (YY hb),⟨⟨_,he⟩,hit⟩,λc hc=>?_,q⟩;have hc':s1.heap.objs.size<=c:=by
   simp only[Yh,Xw,or_false] at hc;rcases hc with z|z
   .rw[z];exact Nat.le_succ _
   .rw[z];exact Yn _
  exact I1.fpOk hc' (I1.hok.fresh hc')
theorem vo{K:W.Frag}{R:Hp->List (List V)->Prop}{rows:List (List V)}{g:TG}{tb:TS}{D:oB}{σ:St}{H:Hp}(Pv:Nat->St->Hp->Prop)(hl:∀i σ H,i<=rows.length->Pv i σ H->R H rows)(h0:Pv 0 σ H)
  (hs:∀i t σ H p H',i<rows.length->rows[i]? = some t->Pv i σ H->vw K H p=none->ay (vw K H) (vw K H')->vw K H' p=some (.tup t)->g (.ref p) σ H' λσ2 H2=>tb { D with nx:=Pv (i+1),ct:=Pv (i+1),bk:=D.nx } σ2 H2)
  (hd:∀σ H,Pv rows.length σ H->D.nx σ H):Ce (K3 K R) g tb D σ H:=by
 refine⟨λi m σ H=>m=rows.length-i/\i<=rows.length/\Pv i σ H,⟨rows.length,by simp,Y3 _,h0⟩,?_⟩
 rintro i m σ H ⟨rfl,hi,p⟩;have q:=hl i σ H hi p;by_cases hlt:i<rows.length
 .refine .inr ⟨⟨rows,rows[i],q,by simp[hlt]⟩,Pv (i+1),λσ' H' p'=>⟨rows.length-(i+1),(),rfl,hlt,p'⟩,λx H' y=>?_⟩
  obtain⟨a,t,rfl,y1,y2,y3,y4⟩:=y;exact hs i t σ H a H' hlt (y4 rows q) p y1 y2 y3
 .have e:i=rows.length:=();subst e;exact .inl ⟨⟨rows,q,rfl⟩,hd σ H p⟩
theorem yi{X:Cx}{elts:List Expr}{x1:Nat}{tp p pos:Pos}{a:Expr}{ta:TA}(hg:Gl X "enumerate") (hm:X.mg "enumerate" = none) (ha:QA X [a] ta)(hs:starEach [a] X.env=[(false,eval a X.env)]:=by rfl) :
  QI X (.Tuple elts x1 tp) (.Call (.Name "enumerate" p) [a] [] pos) (xB X.K ta):=⟨Fw hg hm ha.h hs⟩
def Bq(n:Nat)(q:Int×Int):Prop:=Bt n q.1/\Bt n q.2
theorem Bq.mono{m n:Nat}{q:Int×Int}(h:Bq m q)(hl:m<=n):Bq n q:=⟨h.1.mono hl,h.2.mono hl⟩
def IQ(p q:Int×Int):Bool:=decide (p.1*q.2<q.1*p.2)
def oZ(p q:Int×Int):Int×Int:=lo (p.1*q.2+q.1*p.2) (p.2*q.2)
theorem yz{a b:Int}{n:Nat}(hb:b≠0)(h1:Bt n a)(h2:Bt n b):Bq n (lo a b):=by
 have e1:=iO (a:=a) hb;have e2:=gT (a:=a) hb;have hl:0<(lg a b).natAbs:=by have:=BK (a:=a) hb;nofun
 constructor
 .unfold Bt at *
  have:=YI (lo a b).1 (lg a b);rw[e1] at this;have:=XF (lo a b).1.natAbs hl;nofun
 .unfold Bt at *
  have:=YI (lo a b).2 (lg a b);rw[e2] at this;have:=XF (lo a b).2.natAbs hl;nofun
theorem xZ{p q:Int×Int}(hp:Fq p)(hq:Fq q):Fq (oZ p q):=qX (by have:=Int.mul_pos hp.1 hq.1;nofun)
theorem DS{p q:Int×Int}{m n:Nat}(hp:Fq p)(hq:Fq q)(h1:Bq m p)(h2:Bq n q):Bq (m+n+1) (oZ p q):=by
 refine yz (by have:=Int.mul_pos hp.1 hq.1;nofun) ?_ ?_
 .have:=(h1.1.mul h2.2).add (h2.1.mul h1.2);exact this.mono ()
 .exact (h1.2.mul h2.2).mono ()
def iz(G:Hp)(a:Addr)(ds:List D):Prop:=∃xs,G a=some (.lst xs)/\aK G ds xs
section
variable {G G':Hp}{a l:Addr}{ds:List D}{xs:List V}
theorem iz.same(h:iz G a ds)(S:ay G G'):iz G' a ds:=by
 obtain⟨ys,h1,h2⟩:=h;exact⟨ys,S _ _ h1,h2.same S⟩
theorem iz.but(h:iz G a ds)(hf:D.flats ds=true)(hl:G l=some (.lst xs))(hn:a≠l)(S:gF l G G'):iz G' a ds:=by
 obtain⟨ys,h1,h2⟩:=h;exact⟨ys,S _ _ hn h1,aK.flat_but hl S _ _ hf h2⟩
theorem iz.ne_st{st:Addr}(h:iz G a ds)(hd:∀i b,ds≠[.int i,.bl b])(hst:ix G st):a≠st:=by
 rintro rfl;obtain⟨ys,h1,h2⟩:=h;obtain⟨x,b,h3,_⟩:=hst;rw[h1] at h3;cases h3;exact hd _ _ (aW.lst_st h2)
theorem iz.stBut{st:Addr}(h:iz G a ds)(hf:D.flats ds=true)(hd:∀i b,ds≠[.int i,.bl b])(hst:ix G st)(S:gF st G G'):iz G' a ds:=by
 obtain⟨x,b,h3,h4⟩:=id hst;exact h.but hf h3 (h.ne_st hd hst) S
end
theorem mB{K:W.Frag}{H:Hp}{p:Addr}{xs:List V}(h:vw K H p=some (.lst xs)):Jh K "list" (.ref p) H:=.inl ⟨rfl,xs,.of (aF h)⟩
theorem iz.ty{K:W.Frag}{H:Hp}{p:Addr}{ds:List D}(h:iz (vw K H) p ds):Jh K "list" (.ref p) H:=by
 obtain⟨xs,h,_⟩:=h;exact mB h
abbrev KW:=(Int×Int)×(Int×Int)
def JP(K:W.Frag)(a:Addr)(σr:St)(Pv:List V->Hp->Prop):St->Hp->Prop:=λσ H=>(∃y z,σ=y::z::σr) /\ ∃xs,vw K H a=some (.lst xs)/\Pv xs H
theorem II.mk2{K:W.Frag}{a:Addr}{σr:St}{Pv:List V->Hp->Prop}{x y:Option V}{v:V}{H:Hp}{xs:List V}(h:vw K H a=some (.lst xs))(hz:xs.length<sizeLine)
  (q:∀H5,gF a (vw K H) (vw K H5)->vw K H5 a=some (.lst (xs++[v]))->Pv (xs++[v]) H5):II K a (JP K a σr Pv (x::y::σr)) v H:=⟨xs,h,hz,λH5 B h5=>⟨⟨_,_,rfl⟩,_,h5,q H5 B h5⟩⟩
def wv(q:Int×Int):Rat:=(q.1:Rat)/(q.2:Rat)
theorem aC{b:Int}(h:b≠0):(b:Rat)≠0:=by simpa using h
theorem pA{a b:Int}(hb:b≠0):wv (lo a b)=(a:Rat)/(b:Rat):=by
 have e1:=iO (a:=a) hb;have e2:=gT (a:=a) hb;have hg:=aC (BK (a:=a) hb);have hd:(lo a b).2≠0:=by have:=(qX (a:=a) hb).1;nofun
 have hd':=aC hd;have c1:((lo a b).1:Rat)*(lg a b:Rat)=(a:Rat):=by
  have:=X7 (λi:Int=>(i:Rat)) e1;simpa using this
 have c2:((lo a b).2:Rat)*(lg a b:Rat)=(b:Rat):=by
  have:=X7 (λi:Int=>(i:Rat)) e2;simpa using this
 unfold wv;rw[<-c1,<-c2];grind
theorem yq{a b c:Int}(h:b∣a*c)(hg:Int.gcd a b=1):b∣c:=by
 have h1:b.natAbs∣a.natAbs*c.natAbs:=by
  rw[<-YI];exact Xu.mpr h
 have h2:Nat.Coprime b.natAbs a.natAbs:=by
  unfold Nat.Coprime;rw[Nat.gcd_comm];exact hg
 exact Xu.mp (Nat.Coprime.dvd_of_dvd_mul_left h2 h1)
theorem ww{p q:Int×Int}(hp:Fq p)(hq:Fq q)(h:wv p=wv q):p=q:=by
 have h1:=aC (show p.2≠0 by have:=hp.1;nofun)
 have h2:=aC (show q.2≠0 by have:=hq.1;nofun)
 have e:p.1*q.2=q.1*p.2:=by
  unfold wv at h;have:(p.1:Rat)*(q.2:Rat)=(q.1:Rat)*(p.2:Rat):=⋯;have h3:((p.1*q.2:Int):Rat)=((q.1*p.2:Int):Rat):=by simpa using this
  exact Xa.mp h3
 have d1:p.2∣q.2:=by
  have:p.2∣p.1*q.2:=⟨q.1,by rw[e,Y2]⟩
  exact yq this hp.2
 have d2:q.2∣p.2:=by
  have:q.2∣q.1*p.2:=⟨p.1,by rw[<-e,Y2]⟩
  exact yq this hq.2
 have e2:p.2=q.2:=Int.dvd_antisymm (Int.le_of_lt hp.1) (Int.le_of_lt hq.1) d1 d2;rw[e2] at e;have e1:p.1=q.1:=Int.eq_of_mul_eq_mul_right (by have:=hq.1;nofun) e
 exact Prod.ext e1 e2
theorem Iw{p q:Int×Int}(hp:p.2≠0)(hq:q.2≠0):wv (oZ p q)=wv p+wv q:=by
 unfold oZ;rw[pA (YL hp hq)];unfold wv;have h1:=aC hp;have h2:=aC hq;simp only[Xp,Yi];grind
def yX(p q:Int×Int):Int×Int:=lo (p.1*q.1) (p.2*q.2)
theorem yN{p q:Int×Int}(hp:Fq p)(hq:Fq q):Fq (yX p q):=qX (by have:=Int.mul_pos hp.1 hq.1;nofun)
theorem w5{p q:Int×Int}{m n:Nat}(hp:Fq p)(hq:Fq q)(h1:Bq m p)(h2:Bq n q):Bq (m+n) (yX p q):=yz (by have:=Int.mul_pos hp.1 hq.1;nofun) (h1.1.mul h2.1) (h1.2.mul h2.2)
theorem By{p q:Int×Int}(hp:p.2≠0)(hq:q.2≠0):wv (yX p q)=wv p*wv q:=by
 unfold yX;rw[pA (YL hp hq)];unfold wv;have h1:=aC hp;have h2:=aC hq;simp only[Yi];grind
section
variable {X:Cx}
theorem ow:Gh X .Mult (λx y H Q=>∃i j,x=.int i/\y=.int j/\IntMulOk i j/\Q (.int (i*j)) H):=by
 intro pins s σ H x y v u Q I r1 r2 h;obtain⟨i,j,rfl,rfl,m,q⟩:=h;obtain⟨t,rfl⟩:=r1;obtain⟨t',rfl⟩:=r2;exact imul_int ⟨.int _,H,I.tok _,⟨_,rfl⟩,q⟩ m
theorem BE{st:Stmt}:QS X st pC:=⟨AB⟩
end
theorem wX{K:W.Frag}{J:It}{its:List V}{ps:List (V×V)}{tif:TT}{te:TE}{a:Addr}{x0 x1:Option V}{σr:St}{H0:Hp}{Q:Hp->Prop}(Pv:Nat->List V->Hp->Prop)(hlen:its.length=ps.length)
  (hl:∀i xs H,i<=its.length->vw K H a=some (.lst xs)->Pv i xs H->oK J H its /\ ∀(j:Nat)(x y:V),ps[j]? = some (x,y) -> ∃p:Addr,its[j]? = some (V.ref p)/\vw K H p=some (HO.tup [x,y]))(ha:vw K H0 a=some (.lst []))(h0:Pv 0 [] H0)
  (hs:∀i x y xs H,i<ps.length->ps[i]? = some (x,y)->vw K H a=some (.lst xs)->Pv i xs H->tif (some x::some y::σr) H λb H3=>if b=true then te (some x::some y::σr) H3 (II K a (JP K a σr (Pv (i+1)) (some x::some y::σr))) else JP K a σr (Pv (i+1)) (some x::some y::σr) H3)
  (hd:∀xs H,vw K H a=some (.lst xs)->Pv ps.length xs H->Q H):sw K J (uD K 2 (qF (jL 0) (qF (jL 1) AA))) tif te a (x0::x1::σr) H0 Q:=by
 refine⟨λi m σ H=>m=ps.length-i/\i<=ps.length/\JP K a σr (Pv i) σ H,⟨ps.length,by simp,Y3 _,⟨_,_,rfl⟩,_,ha,h0⟩,?_⟩
 rintro i m σ H ⟨rfl,hi,⟨y,z,rfl⟩,xs,hxs,p⟩;obtain⟨⟨q1,q2,q3⟩,q4⟩:=hl i xs H () hxs p;by_cases hlt:i<ps.length
 .refine .inr ⟨q1 i (),JP K a σr (Pv (i+1)),λσ' H' p'=>⟨ps.length-(i+1),(),rfl,hlt,p'⟩,λx H' y=>?_⟩;obtain⟨e,y2⟩:=q2 i x H' () y;subst e;obtain⟨b,e1,e2⟩:=q4 i _ _ (Ya hlt);rw[e1] at y2;cases y2;exact⟨b,rfl,_,e2,rfl,_,_,rfl,_,_,rfl,rfl,hs i _ _ xs _ hlt (Ya hlt) hxs p⟩
 .have e:i=ps.length:=();subst e;exact .inl ⟨hlen▸q3,hd xs H hxs p⟩
theorem gC{g q:Int}(hg:g≠0)(h:g∣q):q.fdiv g*g=q:=by
 obtain⟨m,rfl⟩:=h;rw[Y2 g m,Int.mul_fdiv_cancel m hg]
theorem yC{a b:Int}(ha:0<=a)(hb:1<=b):a<=a*b:=by
 have:=Int.mul_le_mul_of_nonneg_left hb ha;nofun
theorem uG{b q:Int}(hb:0<b)(hq:0<q):0<q.fdiv (Int.gcd b q:Int)/\q.fdiv (Int.gcd b q:Int)<=q/\q∣b*q.fdiv (Int.gcd b q:Int)/\(Int.gcd b q:Int)≠0/\(Int.gcd b q:Int)<=q:=by
 have hg:(Int.gcd b q:Int)≠0:=by
  have:Int.gcd b q≠0:=λe=>by
   have:=(Int.gcd_eq_zero_iff.mp e).2;nofun
  nofun
 have hg0:0<(Int.gcd b q:Int):=();have e:=gC hg (XU b q);have hle:(Int.gcd b q:Int)<=q:=Int.le_of_dvd hq (XU b q);generalize q.fdiv (Int.gcd b q:Int)=c at e;obtain⟨m,hm⟩:=Int.gcd_dvd_left b q;have hc:0<c:=by
  refine Int.pos_of_mul_pos_left ?_ hg0;rw[e];exact hq
 refine⟨hc,?_,⟨m,?_⟩,hg,hle⟩
 .rw[<-e];exact yC () ()
 .rw[<-e];generalize (Int.gcd b q:Int)=g at *
  rw[hm];rw[Int.mul_right_comm,Y2 c g]
theorem Bt.le{n:Nat}{x y:Int}(h:Bt n y)(h0:0<=x)(hl:x<=y):Bt n x:=by
 unfold Bt at *
 nofun
theorem uW{q:Int×Int}{D:Int}{m n:Nat}(hq:Fq q)(hd:q.2∣D)(hD:0<D)(b1:Bt m D)(b2:Bt n q.1):((q.1*D.fdiv q.2:Int):Rat)=wv q*(D:Rat)/\Bt (m+n) (q.1*D.fdiv q.2)/\Bt m (D.fdiv q.2):=by
 have h2:q.2≠0:=by have:=hq.1;nofun
 have e:=gC h2 hd;have hp:0<D.fdiv q.2:=by
  refine Int.pos_of_mul_pos_left ?_ hq.1;rw[e];exact hD
 have hle:D.fdiv q.2<=D:=by
  have:=yC (Int.le_of_lt hp) (show 1<=q.2 by have:=hq.1;nofun)
  rw[e] at this;exact this
 have bm:=b1.le (Int.le_of_lt hp) hle;refine⟨?_,(b2.mul bm).mono (),bm⟩;generalize D.fdiv q.2=c at *
 have h3:=aC h2;rw[<-e];unfold wv;simp only[Yi];grind
def dj(x:Rat):Nat->Rat
 | 0=>1
 | k+1=>dj x k*x
theorem qy(x:Rat)(k:Nat):dj x (k+1)=dj x k*x:=rfl
theorem lY{d:D}(h:d.cmp):zt d d=true:=SeqAt.eqv_refl _ h.1
def KP(K:W.Frag)(a:Addr)(n:Nat):It :=
 ⟨λi H=>∃xs,jz K H a xs/\xs.length=n/\i<n,λi H x H'=>H'=H /\ ∀xs,jz K H a xs->xs[n-1-i]? = some x,λi _=>i=n⟩
theorem CT{P:Program}{w:World}{K:W.Frag}{tg:Expr}(a it:Addr)(n:Nat):yZ P w K tg (KP K a n) [it] it (λi h=>h.IsRevIter it a ((n:Int)-1-(i:Int))) where
 mem:=by simp
 obj:=λi h st b hb=>by
  have e:b=it:=by simpa using hb
  subst e;obtain⟨o,e,c,d⟩:=st;exact⟨o,e,λv z=>by rw[d] at z;cases z⟩
 keep:=λi h h' st k=>st.at λo e=>k it (by simp) o e
 item:=by
  intro X hP hw hK hc i pins s σ H E I hf st hg;subst hP hw hK;obtain⟨xs,hq,hl,hi⟩:=hg;obtain⟨its,rv,p,hz⟩:=I.list hq;have hx:xs[n-1-i]? = some (xs[n-1-i]'()):=Ya ();obtain⟨u,hu,ru⟩:=rv.get hx;obtain⟨f0,f1,f2,f3,f4,f5⟩:=hf it (by simp)
  have e:(n:Int)-1-(i:Int)=((n-1-i:Nat):Int):=();have st2:s.heap.IsRevIter it a ((n-1-i:Nat):Int):=e▸st;refine wpAny_pyNext_rev_item st2 p.isList (x:=u) (by simpa using hu) λh' st' sb=>?_
  have I1:aH X pins σ H { s with heap:=h' }:=I.turned (t':=s.toks) (λb o hb e=>(sb.2 b hb).trans e) f0 f1 f3 f4 f5
  obtain⟨o,e1,c,d⟩:=id st';refine⟨u,rfl,wZ (s:={ s with heap:=h' }) e1 c d ∅ ⟨_,H,I1,ru,⟨rfl,λys hy=>by rw[I.list_inj hy hq];exact hx⟩,?_,λb hb=>(hf b hb).1⟩⟩
  rw[show (n:Int)-1-((i+1:Nat):Int)=((n-1-i:Nat):Int)-1 by nofun]
  exact st'
 done:=by
  intro X hP hw hK hc i pins s σ H E I hf st hg;subst hP hw hK;have hg':i=n:=hg;subst hg';obtain⟨f0,f1,f2,f3,f4,f5⟩:=hf it (by simp)
  have st2:s.heap.IsRevIter it a (-1):=by
   have e:(i:Int)-1-(i:Int) = -1:=();exact e▸st
  exact wpAny_pyNext_rev_end (I.ok.hd hc) st2 λh' eb=>⟨rfl,I.turned (t':=s.toks) (λb o hb e=>eb b o hb e) f0 f1 f3 f4 f5⟩
 self:=λ_ _ _ _ _ st h=>wpAny_pyIter_revIter st h
def Ia(K:W.Frag)(ta:TA):TI:=λσ H R=>ta σ H λvs H1=>∃a,vs=[.ref a] /\ ∃xs,vw K H1 a=some (.lst xs)/\R (KP K a xs.length) H1
theorem GS{X:Cx}{tg:Expr}{p pos:Pos}{a:Expr}{ta:TA}(hg:Gl X "reversed") (hm:X.mg "reversed" = none) (ha:PA X [a] ta)(hs:starEach [a] X.env=[(false,eval a X.env)]:=by rfl) :
  PI X tg (.Call (.Name "reversed" p) [a] [] pos) (Ia X.K ta):=by
 intro pins s σ H R I h;refine Call_ (jB I hg hm vp (Xn (dq (ha pos pins s σ H _ I h) λus s1 ⟨vs,H1,I1,r1,q1⟩=>?_) hs rfl));obtain⟨b,e,xs,hx,q⟩:=q1;subst e;cases r1 with
 | cons r rr =>
  cases rr;cases r;obtain⟨its,rv,pl,hz⟩:=I1.list (jz.of (K:=X.K) (aF hx));have hl:=rv.length;refine call_reversed_list pl.isList ?_;have st:(s1.heap.push (revObj b ((its.toArray.size:Int)-1))).IsRevIter s1.heap.objs.size b ((its.toArray.size:Int)-1):=⟨_,Heap.get?_push_size _ rfl,rfl,rfl⟩;refine wpAny_pyIter_revIter (s:={ s1 with heap:=s1.heap.push (revObj b ((its.toArray.size:Int)-1)) }) st ?_
  refine⟨_,[s1.heap.objs.size],_,_,H1,rfl,I1.kept (t':=s1.toks) λc o e=>Heap.get?_push_of_some _ e,CT b _ xs.length,?_,λc hc=>?_,q⟩
  .show Heap.IsRevIter _ _ _ _;have e:(xs.length:Int)-1-((0:Nat):Int)=(its.toArray.size:Int)-1:=by simp;nofun
   rw[e];exact st
  .have e:c=s1.heap.objs.size:=by simpa using hc
   subst e;exact I1.fpOk (Yn _) (I1.hok.fresh (Yn _))
theorem HY{X:Cx}{tg:Expr}{p pos:Pos}{a:Expr}{ta:TA}(hg:Gl X "reversed") (hm:X.mg "reversed" = none) (ha:QA X [a] ta)(hs:starEach [a] X.env=[(false,eval a X.env)]:=by rfl) :
  QI X tg (.Call (.Name "reversed" p) [a] [] pos) (Ia X.K ta):=⟨GS hg hm ha.h hs⟩
theorem zg{K:W.Frag}{H:Hp}{a:Addr}{xs:List V}(h:vw K H a=some (.lst xs)):oK (KP K a xs.length) H xs.reverse:=by
 refine⟨λi hi=>⟨xs,.of (aF h),rfl,by simpa using hi⟩,λi x H' hi y=>⟨y.1,?_⟩,by show xs.reverse.length=xs.length;simp⟩
 rw[List.getElem?_reverse (by simpa using hi)]
 exact y.2 xs (.of (aF h))
theorem oj{q:Int×Int}(hq:q.2≠0):wv q=0↔q.1=0:=by
 have h2:=aC hq;unfold wv;constructor
 .intro h;have:(q.1:Rat)=0:=⋯;simpa using this
 .intro h;have:(q.1:Rat)=0:=by rw[h];rfl
  rw[this];grind
def cf(qs:List (Int×Int))(k:Nat):Rat:=match qs[k]? with
 | some q=>wv q
 | none=>0
def fR(qs:List (Int×Int)):Prop:=(∀q∈qs,Fq q) /\ ∀q,qs.getLast? = some q->q.1≠0
theorem Fq.ne{q:Int×Int}(h:Fq q):q.2≠0:=by have:=h.1;nofun
theorem fu{qs:List (Int×Int)}{k:Nat}{q:Int×Int}(h:qs[k]? = some q):cf qs k=wv q:=by unfold cf;rw[h]
theorem cD{qs:List (Int×Int)}{k:Nat}(h:qs.length<=k):cf qs k=0:=by unfold cf;rw[Xc h]
theorem xA{qs:List (Int×Int)}{n:Nat}(hF:∀q∈qs,Fq q)(hz:∀q∈qs.drop n,q.1=0)(k:Nat):cf (qs.take n) k=cf qs k:=by
 by_cases hk:k<n
 .unfold cf;rw[List.getElem?_take,Yg hk]
 .unfold cf;rw[List.getElem?_take,Yc hk];cases e:qs[k]? with
  | none=>rfl
  | some q =>
   have hm:q∈qs.drop n:=YQ (i:=k-n) (by rw[List.getElem?_drop,show n+(k-n)=k by nofun];exact e)
   exact ((oj (hF q (YQ e)).ne).mpr (hz q hm)).symm
theorem yc{q:Int×Int}(h:Fq q):q=(0,1)↔q.1=0:=by
 constructor
 .rintro rfl;rfl
 .intro e;obtain⟨h1,h2⟩:=h;rw[e] at h2;have:q.2.natAbs=1:=by simpa using h2
  exact Prod.ext e (by show q.2=1;nofun)
def iL:List Int->Rat->Rat
 | [],_=>0
 | n::ns,x=>(n:Rat)+x*iL ns x
theorem zU{α:Type}{l:List α}{j:Nat}(h:j<l.length):l.drop (l.length-(j+1))=l[l.length-1-j]'()::l.drop (l.length-j):=by
 rw[Xt (show l.length-(j+1)<l.length by nofun)]
 have e1:l.length-(j+1)=l.length-1-j:=();have e2:l.length-(j+1)+1=l.length-j:=();simp only[e1,e2];congr 2
 nofun
def pz(f g:Nat->Int):Nat->Nat->Int
 | 0,_=>0
 | j+1,k=>pz f g j k+if j<=k then f j*g (k-j) else 0
def pr(f g:Nat->Rat):Nat->Nat->Rat
 | 0,_=>0
 | j+1,k=>pr f g j k+if j<=k then f j*g (k-j) else 0
theorem sB{f g:Nat->Int}{F G:Nat->Rat}{c d:Rat}(hf:∀i,(f i:Rat)=F i*c)(hg:∀i,(g i:Rat)=G i*d):∀j k,((pz f g j k:Int):Rat)=pr F G j k*(c*d)
 | 0,k=>by
  show ((0:Int):Rat)=0*(c*d);grind
 | j+1,k=>by
  show (((pz f g j k+if j<=k then f j*g (k-j) else 0:Int)):Rat)=(pr F G j k+if j<=k then F j*G (k-j) else 0)*(c*d)
  rw[Xp,sB hf hg j k];split
  .rw[Yi,hf,hg];grind
  .grind
theorem gv{n:Nat}:Bt n 0:=by
 show (0:Int).natAbs<2^n;exact Xj n
theorem FU{f g:Nat->Int}{m n:Nat}(hf:∀i,Bt m (f i))(hg:∀i,Bt n (g i)):∀j k,Bt (m+n+j) (pz f g j k)
 | 0,k=>gv
 | j+1,k=>by
  have h1:=FU hf hg j k;have h2:Bt (m+n) (if j<=k then f j*g (k-j) else 0):=by
   split
   .exact (hf j).mul (hg _)
   .exact gv
  exact (h1.add h2).mono ()
def qz(f g:Nat->Int)(j l k:Nat):Int:=pz f g j k+if j<=k/\k-j<l then f j*g (k-j) else 0
theorem Lh(f g:Nat->Int)(j k:Nat):qz f g j 0 k=pz f g j k:=by simp[qz]
theorem Ks(f g:Nat->Int)(j l k:Nat):qz f g j (l+1) k=if k=j+l then qz f g j l (j+l)+f j*g l else qz f g j l k:=by
 by_cases h:k=j+l
 .subst h;rw[Yg rfl];unfold qz;rw[Yg (),Yc (),show j+l-j=l by nofun]
  nofun
 .rw[Yc h];unfold qz;by_cases h2:j<=k/\k-j<l
  .rw[Yg h2,Yg ()]
  .rw[Yc h2,Yc ()]
theorem Gv{f g:Nat->Int}{n:Nat}(hg:∀i,n<=i->g i=0)(j k:Nat):qz f g j n k=pz f g (j+1) k:=by
 show _=pz f g j k+if j<=k then f j*g (k-j) else 0
 unfold qz;by_cases h:j<=k
 .rw[Yg h];by_cases h2:k-j<n
  .rw[Yg ⟨h,h2⟩]
  .rw[Yc (),hg _ (),Yz]
 .rw[Yc h,Yc ()]
def qr(f g:Nat->Rat)(j l k:Nat):Rat:=pr f g j k+if j<=k/\k-j<l then f j*g (k-j) else 0
theorem Ld(f g:Nat->Rat)(j k:Nat):qr f g j 0 k=pr f g j k:=by
 unfold qr;rw[Yc ()];grind
theorem JY(f g:Nat->Rat)(j l k:Nat):qr f g j (l+1) k=if k=j+l then qr f g j l (j+l)+f j*g l else qr f g j l k:=by
 by_cases h:k=j+l
 .subst h;rw[Yg rfl];unfold qr;rw[Yg (),Yc (),show j+l-j=l by nofun]
  grind
 .rw[Yc h];unfold qr;by_cases h2:j<=k/\k-j<l
  .rw[Yg h2,Yg ()]
  .rw[Yc h2,Yc ()]
theorem Im{f g:Nat->Rat}{n:Nat}(hg:∀i,n<=i->g i=0)(j k:Nat):qr f g j n k=pr f g (j+1) k:=by
 show _=pr f g j k+if j<=k then f j*g (k-j) else 0
 unfold qr;by_cases h:j<=k
 .rw[Yg h];by_cases h2:k-j<n
  .rw[Yg ⟨h,h2⟩]
  .rw[Yc (),hg _ ()];grind
 .rw[Yc h,Yc ()]
theorem gu{f g:Nat->Rat}{n:Nat}(hg:∀i,n<=i->g i=0):∀(j k:Nat),j+n<=k+1->pr f g j k=0
 | 0,k,_=>rfl
 | j+1,k,h=>by
  show pr f g j k+(if j<=k then f j*g (k-j) else 0)=0
  rw[gu hg j k ()];by_cases h1:j<=k
  .rw[Yg h1,hg _ ()];grind
  .rw[Yc h1];grind
def lz{α:Type}(n:Nat)(h:Nat->α):List α:=(List.range n).map h
theorem gI{α:Type}{n:Nat}{h:Nat->α}:(lz n h).length=n:=by simp[lz]
theorem jP{α:Type}{n:Nat}{h:Nat->α}{i:Nat}(hi:i<n):(lz n h)[i]? = some (h i):=by simp[lz,hi]
theorem oO{α:Type}{n:Nat}{h g:Nat->α}(e:∀k,k<n->h k=g k):lz n h=lz n g:=by
 apply List.ext_getElem?
 intro i;by_cases hi:i<n
 .rw[jP hi,jP hi,e i hi]
 .rw[Xc (by rw[gI];nofun),Xc (by rw[gI];nofun)]
theorem Hz{α:Type}{n:Nat}{h:Nat->α}{i:Nat}{v:α}:(lz n h).set i v=lz n λk=>if k=i then v else h k:=by
 apply List.ext_getElem?
 intro k;by_cases hk:k<n
 .rw[jP hk];by_cases e:k=i
  .subst e;rw[XI (by rw[gI];exact hk),Yg rfl]
  .rw[XW (Ne.symm e),jP hk,Yc e]
 .rw[Xc (by rw[XX,gI];nofun),Xc (by rw[gI];nofun)]
theorem HD{α β:Type}{n:Nat}{h:Nat->α}(f:α->β):(lz n h).map f=lz n λk=>f (h k):=by simp[lz]
theorem Is{α:Type}(n:Nat)(x:α):(List.replicate n [x]).flatten=lz n λ_=>x:=by
 induction n with
 | zero=>rfl
 | succ n ih =>
  apply List.ext_getElem?
  intro i;rw[show (List.replicate (n+1) [x]).flatten=List.replicate (n+1) x by simp]
  by_cases hi:i<n+1
  .rw[jP hi,List.getElem?_replicate_of_lt hi]
  .rw[Xc (by simp;nofun),Xc (by rw[gI];nofun)]
def nz(ns:List Int)(k:Nat):Int:=ns.getD k 0
theorem aZ{ns:List Int}{k:Nat}{n:Int}(h:ns[k]? = some n):nz ns k=n:=by simp[nz,YH,h]
theorem aS{ns:List Int}{k:Nat}(h:ns.length<=k):nz ns k=0:=by simp[nz,YH,Xc h]
theorem pK{ns:List Int}{m:Nat}(h:∀n∈ns,Bt m n)(k:Nat):Bt m (nz ns k):=by
 cases e:ns[k]? with
 | none=>rw[aS (List.getElem?_eq_none_iff.mp e)];exact gv
 | some n=>rw[aZ e];exact h n (YQ e)
theorem CJ{n k:Nat}{h:Nat->Int}(hk:k<n):nz (lz n h) k=h k:=aZ (jP hk)
theorem uJ{qs:List (Int×Int)}{ns:List Int}{D:Rat}(hl:ns.length=qs.length)(h:∀(i:Nat)(n:Int)(q:Int×Int),ns[i]? = some n->qs[i]? = some q->(n:Rat)=wv q*D)(i:Nat):((nz ns i:Int):Rat)=cf qs i*D:=by
 by_cases hi:i<qs.length
 .have e1:=Ya hi;have e2:=Ya (show i<ns.length by nofun)
  rw[aZ e2,fu e1];exact h i _ _ e2 e1
 .rw[aS (),cD ()];show ((0:Int):Rat)=0*D;grind
theorem aK.set{H:Hp}:∀{ds:List D}{xs:List V}(i:Nat) {d:D}{x:V},aK H ds xs->aW H d x->aK H (ds.set i d) (xs.set i x)
 | [],xs,i,d,x,h,g=>by
  cases h.nil_at;exact .mk_nil
 | d0::ds,xs,i,d,x,h,g=>by
  obtain⟨x0,r,rfl,h1,h2⟩:=h.cons_at;cases i with
  | zero=>exact .mk_cons g h2
  | succ i=>exact .mk_cons h1 (h2.set i g)
theorem D7{qs:List (Int×Int)}{i k:Nat}{q:Int×Int}(hi:i<qs.length):cf (qs.set i q) k=if k=i then wv q else cf qs k:=by
 by_cases h:k=i
 .subst h;rw[Yg rfl,fu (XI hi)]
 .rw[Yc h];unfold cf;rw[XW (Ne.symm h)]
theorem nU{n k:Nat}(h:k<n):vB n (k:Int)=some k:=by
 unfold vB;simp;nofun
theorem qL{X:Cx}:GU X (λo i H Q=>∃p k,o=.ref p/\i=.int k /\ ∃xs,vw X.K H p=some (.lst xs) /\ ∃v,pE xs k=some v/\Q v H):=by
 intro pins s σ H x y v u Q I rx ry h;obtain⟨p,k,rfl,rfl,xs,hx,z,he,q⟩:=h;cases rx;obtain⟨t,rfl⟩:=ry;obtain⟨its,r,pl,hz⟩:=I.list (jz.of (K:=X.K) (aF hx));obtain⟨j,h1,h2,h3,h4,h5⟩:=tf he;obtain⟨w,ew,rw'⟩:=r.get h2;have hl:=r.length;have hn:=mS;have fin:EP X pins σ Q w s:=⟨z,H,I,rw',q⟩;by_cases h0:0<=k
 .have hj:k.toNat=j:=by
   rw[seqIndex_of h0 h5] at h1;exact Xb h1
  exact wpAny_getItem_list pl.isList h0 () (by rw[hj];simpa using ew) fin
 .have hj:(k+(its.toArray.size:Int)).toNat=j:=by
   rw[seqIndex_neg () h4] at h1;rw[Yu,<-hl];exact Xb h1
  exact wpAny_getItem_list_neg pl.isList () (by rw[Yu]<;>nofun) () (by rw[hj];simpa using ew) fin
theorem gO{K:W.Frag}{H:Hp}{p:Addr}{xs:List V}(h:vw K H p=some (.lst xs)):wA K (.ref p) H (!xs.isEmpty):=.inl ⟨xs,.of (aF h),rfl⟩
theorem ay.none{G G':Hp}{c:Addr}(S:ay G G')(h:G' c=none):G c=none:=by
 cases e:G c with
 | none=>rfl
 | some o=>rw[S _ _ e] at h;cases h
theorem Gc:Fq (0,1):=⟨∅,∅⟩
theorem yl:wv (0,1)=0:=(oj (q:=(0,1)) ∅).mpr rfl
theorem uN{α:Type}(n:Nat)(x:α):(List.replicate n [x]).flatten=List.replicate n x:=by simp
theorem yp{α β:Type}(f:α->β)(n:Nat)(x:α):(List.replicate n x).map f=List.replicate n (f x):=by simp
theorem Ck{qs:List (Int×Int)}{n:Nat}(hF:∀q∈qs,Fq q)(hz:∀q,(qs.take n).getLast? = some q->q.1≠0):fR (qs.take n):=⟨λq hq=>hF q (List.mem_of_mem_take hq),hz⟩
theorem ft.chg{G G':Hp}{e:Addr}{qs:List (Int×Int)}{xs:List V}{i:Nat}{q:Int×Int}{v:V}(h:G e=some (.lst xs))(r:aK G (qs.map fr) xs)(rv:aW G (fr q) v)(B:gF e G G')(h':G' e=some (.lst (xs.set i v))):ft G' e (qs.set i q):=by
 refine⟨_,h',?_⟩;have r':=aK.flat_but h B _ _ (mf qs) r;have:=r'.set i (aW.flat_but h B _ _ (gN q) rv);rw[List.map_set];exact this
theorem Kc(q:Int×Int):(fr q).py=.tuple [.int q.1,.int q.2]:=by
 unfold fr;simp only[D.py,D.pys]
theorem C4:∀(qs:List (Int×Int)),PyData.canLayAll0 (D.pys (qs.map fr))=true/\PyData.depthAll (D.pys (qs.map fr))<=4
 | []=>by
  simp only[XY,D.pys];exact⟨rfl,by simp[PyData.depthAll]⟩
 | c::cs=>by
  obtain⟨h1,h2⟩:=C4 cs;simp only[Y4,D.pys,Kc,PyData.canLayAll0,PyData.canLay0,h1,PyData.depthAll,PyData.depth];refine⟨∅,?_⟩;nofun
theorem Dy(fs:List (Int×Int)):(D.lst (fs.map fr)).cmp:=by
 obtain⟨h1,h2⟩:=C4 fs;unfold D.cmp;simp only[D.py,PyData.canLay0,PyData.depth];exact⟨h1,()⟩
structure zw (outer:List Env)(H H':Hp)(h:Heap)(B:Heap):Prop where
 b1:∀b,H' b≠none -> ∃o,B.get? b=some o
 b2:∀b o,h.get? b=some o->H b=none->b∉iW outer->B.get? b=some o
 b3:∀b o,h.get? b=some o->b∉iW outer -> ∃o',B.get? b=some o'
def nE(P:Program)(w:World):vP:=λouter H s E e s' =>
 ∃(a C:Addr)(a0:Value)(B:Heap)(H':Hp),e=.ref a/\s'.os=s.os/\AllBare s'.gens/\Un (iW outer) [] H H' s.heap s'.heap/\j9 P w H' s'.heap /\
  Heap.FlyingW B outer a (.ref C) a0 s'.heap/\zw outer H H' s.heap B/\E (.ref C) none H'
theorem cO.there{P:Program}{w:World}{H:Hp}{h:Heap}{a:Addr}{o:HO}(x:cO P w H h a o):∃ob,h.get? a=some ob:=by
 cases o with
 | lst xs=>obtain⟨_,_,_,_,e⟩:=x;exact⟨_,e⟩
 | tup xs=>obtain⟨_,_,_,_,e,_⟩:=x;exact⟨_,e⟩
 | dK kvs=>obtain⟨_,_,_,_,o,_,_,e,_⟩:=x;exact⟨_,e⟩
 | dT kvs=>obtain⟨_,_,_,_,o,_,_,e,_⟩:=x;exact⟨_,e⟩
 | set S n=>obtain⟨o,_,_,_,e,_⟩:=x;exact⟨_,e⟩
 | ins C dx fs=>obtain⟨_,_,_,e,_⟩:=x;exact⟨_,e⟩
 | own y=>obtain⟨_,e⟩:=x;exact⟨_,e⟩
 | xd fs=>obtain⟨_,⟨_,_,_,e,_⟩,_⟩:=x;exact⟨_,e⟩
 | rng lo hi=>obtain⟨_,_,_,e⟩:=x;exact⟨_,e⟩
 | frz ob u=>obtain⟨e,_⟩:=x;exact⟨_,e⟩
 | tbl ps=>exact⟨_,show h.get? a=some _ from x⟩
 | met f y=>exact⟨_,show h.get? a=some _ from x⟩
 | ext φ=>obtain⟨_,e,_⟩:=x;exact e
theorem jF{P:Program}{w:World}{H:Hp}{h h':Heap}(x:j9 P w H h)(k:∀b u,H b≠none->h.get? b=some u->h'.get? b=some u):j9 P w H h':=λa o e =>
 (x a o e).stay (λb u hb q=>k b u (by
  rcases hb with rfl|z
  .rw[e];simp
  .rw[z];simp) q) (λ_ q=>q) λ_ _ q=>q
section
variable {X:Cx}{pins:List (Addr×Obj)}{σ:St}{H H':Hp}{s s':Shared}
theorem aH.nofrs(I:aH X pins σ H s) {b:Addr}(h:H b≠none):b∉iW X.stack:=λz=>h (I.stkFree b z)
theorem aH.flyB(I:aH X pins σ H s)(hx:X.ex=[])(hs:X.stack=X.env::X.outer)(hfr:X.env.frame=some X.env.locals) {B:Heap}(F:zw X.stack H H' s.heap B):zw X.outer X.H₀ H' X.s₀.heap B:=by
 have nL:∀b o,X.s₀.heap.get? b=some o->b∉iW X.outer->b∉iW X.stack:=λb o e n z=>by
  rcases Yh.mp (I.stkSub b z) with q|q
  .exact absurd (Yr (Heap.lt_size e) (q▸I.ok.above)) (XA _)
  .exact n q
 have nx:∀b,b∉X.ex:=λb z=>by rw[hx] at z;exact absurd z (by simp)
 refine⟨F.b1,λb o e n nb=>?_,λb o e nb=>?_⟩
 .exact F.b2 b o (I.base.keep b o e n nb (nx b)) (I.base.free b o e n (nx b)) (nL b o e nb)
 .obtain⟨o',e'⟩:=I.base.there b o e (nx b);exact F.b3 b o' e' (nL b o e nb)
theorem aH.flyUn(I:aH X pins σ H s)(hx:X.ex=[])(hs:X.stack=X.env::X.outer)(hfr:X.env.frame=some X.env.locals) {B h h':Heap}(F:zw X.stack H H' s.heap B)(u:Un (iW X.stack) [] H H' s.heap h)(hB:B.StaysIn h')(up:h.UpToSlots h'):Un (iW X.outer) [] X.H₀ H' X.s₀.heap h':=by
 have FB:=I.flyB hx hs hfr F;have nx:∀b,b∉X.ex:=λb z=>by rw[hx] at z;exact absurd z (by simp)
 have n0:∀b:Addr,b∉([]:List Addr):=λb z=>absurd z (by simp)
 have frame:∀b,b∈iW X.outer -> ∀o,X.s₀.heap.get? b=some o -> ∃sl,h'.get? b=some { o with slots:=sl }:=λb hb o e=>by
  have hfree:=I.ok.frf b hb;obtain⟨sl,e1⟩:=I.base.slot b o e hfree hb (nx b);have h1:=I.base.free b o e hfree (nx b);obtain⟨sl2,e2⟩:=u.any e1 h1 (n0 b);obtain⟨_,o',e3,hd⟩:=I.ok.funs.mem hb;rw[e] at e3;cases e3;obtain⟨sl3,e4⟩:=up b _ e2 hd;exact⟨sl3,e4⟩
 refine⟨λb o e n nb _=>hB b o (FB.b2 b o e n nb),λb o e n nb _=>frame b nb o e,λb o e n _=>?_,λb o e _=>?_,λb xs e=>u.tups b xs (I.base.tups b xs e),λb o v e=>u.frzs b o v (I.base.frzs b o v e),λb ps e=>?_⟩
 .obtain⟨o',e1⟩:=I.base.there b o e (nx b);exact u.free b o' e1 (I.base.free b o e n (nx b)) (n0 b)
 .by_cases hb:b∈iW X.outer
  .obtain⟨sl,q⟩:=frame b hb o e;exact⟨_,q⟩
  .obtain⟨o',q⟩:=FB.b3 b o e hb;exact⟨o',hB b o' q⟩
 .obtain⟨m1,e1⟩:=I.base.tbls b ps e;obtain⟨m2,e2⟩:=u.tbls b _ e1;exact⟨m1++m2,by rw[e2,Array.append_assoc]⟩
theorem aH.raised{E:XK}{e C:Addr}{vs:List Value}{h':Heap}{Q':Value->Shared->Prop}{M:Model}(I:aH X pins σ H s)(hx:X.ex=[])(hs:X.stack=X.env::X.outer)(hfr:X.env.frame=some X.env.locals)
  (hm:Heap.MadeExcOf s.heap h' e (.ref C) vs)(hE:E (.ref C) none H) {g:Array GenState}{d:Drawn}{t:Tok}{os:OsState}(hos:os=s.os)(hg:AllBare g) :
  wpAny M X.A (leaving X.env (.ref e)) (λ_ s''=>nE X.prog X.w X.outer X.H₀ X.s₀ E (.ref e) s'') Q' ⟨h',g,d,t,os⟩:=by
 have hfr':X.A.frames=some (X.env::X.outer):=by rw[I.ok.frames,hs]
 have hin:∀env∈X.stack,∀b,env.frame=some b->b∈iW X.stack:=λenv he b hb=>List.mem_filterMap.mpr ⟨env,he,hb⟩;have st:=I.stack;have FF:=PySem.W.funFrames_hide st hin;have hkb:(PySem.W.hideAll s.heap (iW X.stack)).StaysIn s.heap:=λb o q=>PySem.W.of_hideAll _ q;have FF2:s.heap.FunFrames (PySem.W.hideAll s.heap (iW X.stack)) (X.env::X.outer):=by
  have z:=FF;rw[show X.stack=X.env::X.outer from hs] at z ⊢
  exact z
 refine wpAny_leaves_madeW (s:=⟨h',g,d,t,os⟩) hfr' hfr hkb FF2 hm λh2 t2 fl tup nt up=>?_;have up2:s.heap.UpToSlots h2:=(Heap.UpToSlots.of_keeps hm.keeps).trans up;have getB:∀b o,s.heap.get? b=some o->b∉iW X.stack->(PySem.W.hideAll s.heap (iW X.stack)).get? b=some o:=λb o e n=>PySem.W.hideAll_get _ e n;have F:zw X.stack H H s.heap (PySem.W.hideAll s.heap (iW X.stack)):=⟨λb hb=>by
  cases q:H b with
  | none=>exact absurd q hb
  | some u =>
   obtain⟨o,ho⟩:=(I.hok b u q).there;exact⟨o,getB b o ho (I.nofrs hb)⟩,λb o e _ nb=>getB b o e nb,λb o e nb=>⟨o,getB b o e nb⟩⟩
 refine⟨e,C,.ref t2,_,H,rfl,?_,?_,?_,?_,fl,I.flyB hx hs hfr F,hE⟩
 .show os=_;rw[hos];exact I.os
 .exact hg
 .exact I.flyUn hx hs hfr F (h:=s.heap) ⟨λ_ _ q _ _ _=>q,λ_ o q _ _ _=>⟨o.slots,q⟩,λ_ _ _ q _=>q,λ_ o q _=>⟨o,q⟩,λ_ _ q=>q,λ_ _ _ q=>q,λb ps q=>⟨#[],by rw[q];simp⟩⟩ fl.1 up2
 .exact jF I.hok λb u hb q=>fl.1 b u (getB b u q (I.nofrs hb))
theorem aH.passed{E E':XK}{e:Value}{Q':Value->Shared->Prop}{M:Model}(I:aH X pins σ H s)(hx:X.ex=[])(hs:X.stack=X.env::X.outer)(hfr:X.env.frame=some X.env.locals)
  (h:nE X.prog X.w X.stack H s E e s')(hE:∀c o H',E c o H'->E' c o H'):wpAny M X.A (leaving X.env e) (λ_ s''=>nE X.prog X.w X.outer X.H₀ X.s₀ E' e s'') Q' s':=by
 obtain⟨a,C,a0,B,H',rfl,os,gb,un,hok,fl,F,q⟩:=h;have hfr':X.A.frames=some (X.env::X.outer):=by rw[I.ok.frames,hs]
 rw[hs] at fl;refine wpAny_leaves_onW hfr' hfr fl λh2 fl2 up=>?_;refine⟨a,C,a0,B,H',rfl,os.trans I.os,gb,I.flyUn hx hs hfr F un fl2.1 up,jF hok λb u hb z=>?_,fl2,I.flyB hx hs hfr F,hE _ _ _ q⟩;obtain⟨o,ho⟩:=F.b1 b hb;have e1:=fl.1 b o ho;rw[z] at e1;cases e1;exact fl2.1 b _ ho
end
abbrev Gk:List Value:=[.type "ValueError",.type "Exception",.type "BaseException",.type "object"]
def u8(K:W.Frag)(C:Addr):Prop:=PySem.W.excIn K C Gk "ValueError.__new__" = true
theorem u8.obj{K:W.Frag}{h:Heap}{C:Addr}(KX:K.In h)(z:u8 K C):∃tl N nm qn bs y1 sn sb ab cl dd j0 j1 j2 j3 j5 mN,
  h.get? C=some (excClassObj nm qn C N bs tl y1 sn sb ab cl dd j0 j1 j2 j3 j5 "ValueError.__new__")/\h.Ns N mN/\mN "__init__" = none/\OwnTail h Gk tl:=by
 unfold u8 PySem.W.excIn at z;split at z
 case h_2=>cases z
 case h_1 ob dct cdt sls look =>
  split at z
  case h_2=>cases z
  case h_1 C2 tl j0 j1 j2 j3 nid j5 hmro hsls =>
   rw[Xl,Xl,Xl,Xl,Xl] at z;obtain⟨⟨⟨⟨⟨z1,z2⟩,z3⟩,z4⟩,z5⟩,z6⟩:=z;have c1:=beq_iff_eq.mp z1;have c2:=beq_iff_eq.mp z2;have c6:=beq_iff_eq.mp z6;subst c1 c2;have c3:cdt.hasDel=false:=by simpa using z3
   have c7:sls = #[j0,j1,j2,j3,some (.builtin "ValueError.__new__"),j5]:=by
    cases sls with
    | mk l=>exact X7 Array.mk hsls
   have G:=KX _ _ look;cases cdt with
   | mk nm bs mro ns qn hd sn sb ab cl del =>
    cases hmro;cases c3;rw[c7] at G;exact⟨tl,ns,nm,qn,bs,hd,sn,sb,ab,cl,dct,j0,j1,j2,j3,j5,_,G,.of_isNs (PySem.W.isNs_of_in KX z5),PySem.W.nsMap_none_of_in KX z5 c6,PySem.W.tail_of_in KX z4⟩
def wD(E:XK)(C:Addr)(t:TA):TS:=λ_ σ H=>t σ H λvs H1=>vs.length<=1000/\E (.ref C) none H1
section
variable {P:Program}{w:World}{K:W.Frag}{mg:Str->Option Value}{base:Heap}{N:List Str}{qual:Str}{scope:Scope}{f:Addr}{cd:Value}{A:Around}{outer:List Env}{s₀:Shared}{H₀:Hp}{E:XK}{C:Addr}
theorem BA{x:Str}{np cpos pos:Pos}{e:Expr}{es:List Expr}{t:TA}(z:u8 K C)(hg:Gl (gB (nE P w) P w K mg base N qual scope f cd A outer s₀ H₀ E) x)(hm:mg x=some (.ref C))
  (ha:PA (gB (nE P w) P w K mg base N qual scope f cd A outer s₀ H₀ E) (e::es) t)(hdb:(x==("__debug__" : Str))=false:=by decide)
  (he:starEach (e::es) (envOfC qual scope s₀.heap.objs.size f cd)=(false,eval e (envOfC qual scope s₀.heap.objs.size f cd))::starEach es (envOfC qual scope s₀.heap.objs.size f cd):=by rfl)(hpl:(backTo cpos (starEach es (envOfC qual scope s₀.heap.objs.size f cd))).any (·.1)=false:=by rfl) :
  PS (gB (nE P w) P w K mg base N qual scope f cd A outer s₀ H₀ E) (.Raise (some (.Call (.Name x np) (e::es) [] cpos)) none pos) (wD E C t):=by
 intro pins s σ H D I h;obtain⟨tl,N',nm,qn,bs,y1,sn,sb,ab,cl,dd,j0,j1,j2,j3,j5,mN,hC,hN,hni,T⟩:=z.obj I.ok.mod.kin;refine wpAny_Raise_call_subU (nm:=nm) (q:=qn) (C:=C) (N:=N') (bs:=bs) (bm:=tl) (hdct:=y1) (sn:=sn) (sub:=sb) (ab:=ab) (col:=cl) (dd:=dd) (k0:=j0) (k1:=j1) (k2:=j2) (k3:=j3) (k5:=j5)
  PySem.F.excBase_ValueError ∅ PySem.F.excBase_ValueError (mN:=mN) (T.hasType ∅) (I.ok.hd rfl) ?_ hni (jY I hg hm ⟨rfl,?_⟩ hdb)
 .show (backTo cpos (starEach (e::es) (envOfC qual scope s₀.heap.objs.size f cd))).any (·.1)=false;rw[he];show (false || (backTo cpos (starEach es (envOfC qual scope s₀.heap.objs.size f cd))).any (·.1))=false
  rw[hpl];rfl
 .have go:=ha cpos pins s σ H _ I h;show wpAny _ _ (evalArgs (.ref C) true (backTo cpos (starEach (e::es) (envOfC qual scope s₀.heap.objs.size f cd))) []) _ _ _;have go':wpAny (model P w) (A.deeper (envOfC qual scope s₀.heap.objs.size f cd)) (spliced (backTo cpos (starEach (e::es) (envOfC qual scope s₀.heap.objs.size f cd)))) _ _ s:=go;rw[he] at go' ⊢;refine Calls.evalArgs_plain (dq go' λus s1 ⟨vs,H1,I1,r,q⟩=>?_);obtain⟨hl,q⟩:=q;refine⟨rfl,?_,I1.bk _ _ hC,hN.keeps I1.bk,T.keeps I1.bk,λh' ea hm'=>?_⟩
  .show us.length<=sizeLine;rw[<-r.length];exact YB hl ∅
  .exact I1.raised rfl rfl rfl hm' q rfl I1.bare
end
end L2
namespace L2
open PySem PySem.Spec PySem.Calls PyProof.Rows PySem.W PySem.Builtin PySem.Builtin.ObjectAttr PySem.Builtin.Getset_descriptor
section
variable {prog:Program}{w:World}{A:Around}{E:Value->Shared->Prop}{K:Frag}{x C:Addr}{ob:Obj}{hh:Heap}{g:Array GenState}{d:Drawn}{t:Nat}{os:OsState}
structure rW (K:Frag)(C:Addr):Prop where
 ga:findIn K (.ref C) "__getattribute__" = some (some (.builtin "BaseException.__getattribute__"))
 gt:findIn K (.ref C) "__getattr__" = some none
 cl:findIn K (.ref C) "__class__" = some (some (.builtin "object.__class__"))
 mo:mroIn K C (.type "object")=some true
 mb:mroIn K C (.type "BaseException")=some true
 ic:(clsIn K C).isSome=true
theorem GJ{R:Result->Shared->Prop}{tp:Value}(Z:rW K C)(X:K.In hh)(hx:hh.get? x=some ob)(hc:ob.cls=.ref C)
  (h:R (.ok (.ret (.ref C))) ⟨hh,g,d,t,os⟩):codeAny (model prog w) A (.call (.builtin "getset_descriptor.__get__") ⟨[.builtin "object.__class__",.ref x,tp],[]⟩) R ⟨hh,g,d,t,os⟩:=by
 have L0:Looks (model prog w) hh (typeOf (.ref x)) (.ref C):=hc▸(Looks.ld hx).andThen .now;have L1:=looks_mroIn (M:=model prog w) X Z.mo;refine codeAny_call_builtin KF.slot_gs.plain KF.entry_gs (KF.slot_gs.check _ _ _ _ _ _ _ _ KF.type_class (KF.args_gs _ _ _) ?_);unfold Builtin.«getset_descriptor.__get__»;unfold descrGet;rw[dga_obj];refine wpAny_bind (wpAny_pure ?_);unfold descrGetter;unfold descrCheckInstance;unfold descrNameAndClass;unfold isInstance;simp only[KF.owner_class]
 repeat lk
 refine And.intro (Code.quiet_builtin _ (by decide +kernel)) (codeAny_builtin KF.entry_class ?_)
 unfold Builtin.«object.__class__»;unfold shownTypeOf
 repeat lk
 exact h
theorem BV{tk:Tok}{Q:Fin->Shared->Prop}(Z:rW K C)(X:K.In hh)(hx:hh.get? x=some ob)(hc:ob.cls=.ref C)(hq:Q (.done (.ret (.ref C))) ⟨hh,g,d,t,os⟩) :
  wpAny (model prog w) A (Builtin.«object.__getattribute__» ⟨[.ref x,.str "__class__" tk],[]⟩) Q E ⟨hh,g,d,t,os⟩:=by
 have hT5:(⟨hh,g,d,t,os⟩ : Shared).TypeIs (.builtin "object.__class__") "getset_descriptor":=F.typeOf_object_class;have f5:=F.typeOf_object_class;have f6:=F.slot_gs_get.lookup;have f7:=F.slot_gs_set.lookup;have L0:Looks (model prog w) hh (typeOf (.ref x)) (.ref C):=hc▸(Looks.ld hx).andThen .now;have L2:=looks_findIn (M:=model prog w) X Z.cl
 repeat (any_goals (first|assumption|(with_reducible refine L0.at ?_)|(with_reducible refine L2.at ?_)|(with_reducible refine wpAny_loadPart_at hx ?_;rw[hc])|wp_step))
 refine GJ Z X hx hc ?_
 repeat (any_goals (first|assumption|wp_step))
theorem Cf{M:Model}{nv:Value}{Q:Unit->Shared->Prop}(Z:rW K C)(X:K.In hh)(hx:hh.get? x=some ob)(hc:ob.cls=.ref C)(hq:Q PUnit.unit ⟨hh,g,d,t,os⟩) :
  wpAny M A (checkBuiltinCall "BaseException.__getattribute__" ⟨[.ref x,nv],[]⟩) Q E ⟨hh,g,d,t,os⟩:=by
 have b1:splitId "BaseException.__getattribute__" = some ("BaseException", "__getattribute__")/\builtinKind "BaseException.__getattribute__" = some .slot:=⟨by decide +kernel,by decide +kernel⟩
 have b3:=F.args_bexc_ga (.ref x) nv;have L0:Looks M hh (typeOf (.ref x)) (.ref C):=hc▸(Looks.ld hx).andThen .now;have L1:=looks_mroIn (M:=M) X Z.mb;have LI:Looks M hh (isInstance (.ref x) (.type "BaseException")) true:=L0.andThen L1;simp only[checkBuiltinCall,b1.1,b1.2];refine wpAny_bind (LI.at ?_)
 repeat (any_goals (first|assumption|wp_step))
theorem DK{tk:Tok}{R:Result->Shared->Prop}(Z:rW K C)(X:K.In hh)(hx:hh.get? x=some ob)(hc:ob.cls=.ref C)(h:R (.ok (.ret (.ref C))) ⟨hh,g,d,t,os⟩) :
  codeAny (model prog w) A (.call (.builtin "BaseException.__getattribute__") ⟨[.ref x,.str "__class__" tk],[]⟩) R ⟨hh,g,d,t,os⟩ :=
 codeAny_call_builtin F.attr_ValueError.ga.plain F.entry_bexc_ga (Cf Z X hx hc (BV Z X hx hc h))
theorem Jp{tk:Tok}{Q:Value->Shared->Prop}(Z:rW K C)(X:K.In hh)(hx:hh.get? x=some ob)(hc:ob.cls=.ref C)(hq:Q (.ref C) ⟨hh,g,d,t,os⟩) :
  wpAny (model prog w) A (getAttrBy (.ref x) (.str "__class__" tk) false) Q E ⟨hh,g,d,t,os⟩:=by
 have b3:=F.attr_ValueError.ga.bind (.ref x);have y2:(Value.builtin "BaseException.__getattribute__" == Value.builtin "object.__getattribute__")=false:=by decide +kernel
 have y1:(onTheHeap (Value.ref C) && (Value.builtin "BaseException.__getattribute__" == Value.builtin "object.__getattribute__"))=false:=by rw[y2,Bool.and_false]
 have L0:Looks (model prog w) hh (typeOf (.ref x)) (.ref C):=hc▸(Looks.ld hx).andThen .now;have L1:=looks_findIn (M:=model prog w) X Z.ga;have L2:=looks_findIn (M:=model prog w) X Z.gt;unfold getAttrBy;refine wpAny_holding (wpAny_bind (L0.at (wpAny_bind (L1.at ?_))));show wpAny _ _ (if (onTheHeap (Value.ref C) && (Value.builtin "BaseException.__getattribute__" == Value.builtin "object.__getattribute__"))=true then _ else getAttrByItsOwn _ _ _ _ _ _) _ _ _
 rw[Yc (by rw[y1];simp)]
 unfold getAttrByItsOwn hookBefore;rw[Yg (show onTheHeap (Value.ref C)=true from rfl)]
 refine wpAny_bind (L2.at ?_);unfold callGetattribute boundAndCalled
 repeat (any_goals (first|assumption|wp_step))
 refine DK Z X hx hc ?_
 repeat (any_goals (first|assumption|wp_step))
theorem Ez{Q:Option Value->Shared->Prop}(Z:rW K C)(X:K.In hh)(hx:hh.get? x=some ob)(hc:ob.cls=.ref C)(hq:Q (some (.ref C)) ⟨hh,g,d,t+1,os⟩) :
  wpAny (model prog w) A (getAttr? (.ref x) "__class__") Q E ⟨hh,g,d,t,os⟩:=by
 unfold getAttr?;unfold getAttrBy?;refine wpAny_bind (wpAny_mkText (wpAny_bind (wpAny_attempt (Jp Z X hx hc ?_))));exact wpAny_pure hq
def Bn(x C:Addr)(h:Heap):Prop:=∃ob,h.get? x=some ob/\ob.cls=.ref C
theorem Cb(Z:rW K C):KitX K (.ref x) (.ref C) (Bn x C) where
 ty:=λ_ _ _ ⟨_,h1,h2⟩=>h2▸(Looks.ld h1).andThen .now
 it:=λM h X _=>by
  have z:=Z.ic;cases e:clsIn K C with
  | none=>rw[e] at z;cases z
  | some cd =>
   unfold clsIn at e;split at e
   .rename_i look
    intro A1 Q1 E1 s1 k1 q1;unfold isType;unfold loadHead;refine wpAny_bind (wpAny_loadPart (k1 _ _ (X _ _ look)) (wpAny_pure ?_));exact q1
   .cases e
 ne:=λh tp dd its n sl X htp=>by
  rw[Bool.eq_false_iff];intro q;have e1:C=tp:=by
   have:=beq_iff_eq.mp q;cases this;rfl
  subst e1;have z:=Z.ic;unfold clsIn at z;split at z
  .rename_i look
   have e2:=X _ _ look;rw[htp] at e2;cases e2
  .cases z
 ca:=λ{_ _ _ _ _ s} X ⟨_,h1,h2⟩ k=>by
  obtain⟨hp,g1,d1,t1,os1⟩:=s;exact Ez Z X h1 h2 k
end
end L2
namespace L2
open PySem PySem.Spec PyProof.Rows
def PX(X:Cx)(e:Expr)(t:St->Hp->XK->Prop):Prop :=
 ∀(pins:List (Addr×Obj))(s:Shared)(σ:St)(H:Hp)(E:XK),aH X pins σ H s->t σ H E->wpAny (model X.prog X.w) X.A (eval e X.env) (λ_ _=>False) (λev s'=>∃s1 H1,aH X pins σ H1 s1/\nE X.prog X.w X.stack H1 s1 E ev s') s
def Jg(x C:Addr):HO:=.ext (Bn x C)
section
variable {X:Cx}{pins:List (Addr×Obj)}{σ:St}{H H':Hp}{s s':Shared}
theorem aH.landed{B h:Heap}(I:aH X pins σ H s)(F:zw X.stack H H' s.heap B)(u:Un (iW X.stack) [] H H' s.heap s'.heap)(hok:j9 X.prog X.w H' s'.heap)(hs':B.StaysIn s'.heap)(hB:B.StaysIn h)(up:s'.heap.UpToSlots h)(hos:s'.os=s.os)(hg:AllBare s'.gens) :
  aH X pins σ H' { s' with heap:=h }:=by
 obtain⟨h1,g1,d1,t1,os1⟩:=s';have e0:os1=s.os:=hos;subst e0;have n0:∀b:Addr,b∉([]:List Addr):=λb z=>absurd z (by simp)
 have slots:∀b,b∈iW X.stack -> ∀o,s.heap.get? b=some o->H b=none -> ∃sl,h.get? b=some { o with slots:=sl }:=λb hb o e n=>by
  obtain⟨sl,e1⟩:=u.any e n (n0 b);obtain⟨_,o',e3,hd⟩:=I.stack.mem hb;rw[e] at e3;cases e3;obtain⟨sl2,e2⟩:=up b _ e1 hd;exact⟨sl2,e2⟩
 have nst:∀b,b≠X.env.locals->b∉X.fs->b∉iW X.stack:=λb h1 h2 z=>(Yh.mp (I.stkSub b z)).elim h1 h2;have hfin:j9 X.prog X.w H' h:=jF hok λb v hb z=>by
  obtain⟨o,ho⟩:=F.b1 b hb;have e1:=hs' b o ho;have e2:h1.get? b=some v:=z;rw[e2] at e1;cases e1;exact hB b _ ho
 have key:=I.step (h':=h) (g':=g1) (d':=d1) (t':=t1) (ch:=[]) (λ_ z=>nomatch z) (λb o hL hf _ e n=>hB b o (F.b2 b o e n (nst b hL hf)))
  (λb o hL hf _ e n=>?_) (λb o _ e n=>u.free b o e n (n0 b)) (λb o _ e=>?_) u.tups u.frzs u.tbls (λm hm=>?_) hfin hg
 .exact key
 .by_cases hb:b∈iW X.stack
  .exact slots b hb o e n
  .exact⟨o.slots,hB b o (F.b2 b o e n hb)⟩
 .by_cases hb:b∈iW X.stack
  .obtain⟨sl,q⟩:=slots b hb o e (I.stkFree b hb);exact⟨_,q⟩
  .obtain⟨o',q⟩:=F.b3 b o e hb;exact⟨o',hB b o' q⟩
 .obtain⟨o,es,ep,ho,hd,r⟩:=hm;by_cases hb:X.env.locals∈iW X.stack
  .obtain⟨sl,q⟩:=slots _ hb o ho I.free;exact⟨_,es,ep,q,hd,r⟩
  .exact⟨o,es,ep,hB _ o (F.b2 _ o ho I.free hb),hd,r⟩
theorem aH.track{a:Addr}{o:HO}(I:aH X pins σ H s)(ha:H a=none)(h0:X.s₀.heap.get? a=none)(hL:a≠X.env.locals)(hc:∀x c,X.env.cells.lookup x=some c->c≠a)(hp:∀p∈X.pn++pins,p.1≠a)
  (new:cO X.prog X.w (upd H a o) s.heap a o):aH X pins σ (upd H a o) s:=by
 have ne:∀b u,H b=some u->b≠a:=λb u e z=>by rw[z,ha] at e;cases e
 refine⟨I.ok,I.os,I.bare,⟨I.base.keep,I.base.slot,λb ob e n hx=>?_,I.base.there,λb xs e=>?_,λb ob v e=>?_,λb ps e=>?_⟩,I.loc,I.cell,?_,λx c e=>?_,λp hp'=>?_,λb u e=>?_,I.len⟩
 .have:b≠a:=λz=>by rw[z,h0] at e;cases e
  rw[aL this];exact I.base.free b ob e n hx
 .have q:=I.base.tups b xs e;rw[aL (ne b _ q)];exact q
 .have q:=I.base.frzs b ob v e;rw[aL (ne b _ q)];exact q
 .obtain⟨m,q⟩:=I.base.tbls b ps e;exact⟨m,by rw[aL (ne b _ q)];exact q⟩
 .rw[aL (Ne.symm hL)];exact I.free
 .rw[aL (hc x c e)];exact I.freeC x c e
 .obtain⟨q1,q2,q3⟩:=I.pin p hp';exact⟨q1,by rw[aL (hp p hp')];exact q2,q3⟩
 .by_cases hb:b=a
  .subst hb;rw[bB] at e;cases e;exact new
  .rw[aL hb] at e;exact (I.hok b u e).stay (λ_ _ _ q=>q) (λc q=>by rw[aL (ne c _ q)];exact q) λc xs q=>by rw[aL (ne c _ q)];exact q
abbrev Cx.marked (X:Cx)(v:Value):Cx:={ X with A:=X.A.mark (some v),calm:=false,xe:=λ_ _=>False }
theorem aH.mark(I:aH X pins σ H s)(v:Value):aH (X.marked v) pins σ H s :=
 ⟨⟨I.ok.mod,I.ok.kind,I.ok.glob,I.ok.blt,I.ok.above,I.ok.inj,I.ok.has,I.ok.cab,(λz=>nomatch z),I.ok.frames,I.ok.stk,I.ok.exf,I.ok.bs,I.ok.bsz,I.ok.noex,I.ok.exfs,I.ok.funs,I.ok.frf⟩,I.os,I.bare,I.base,I.loc,I.cell,I.free,I.freeC,I.pin,I.hok,I.len⟩
theorem aH.unmark{v:Value}(I:aH (X.marked v) pins σ H s)(ok:X.Ok):aH X pins σ H s:=⟨ok,I.os,I.bare,I.base,I.loc,I.cell,I.free,I.freeC,I.pin,I.hok,I.len⟩
theorem aH.unset{i:Nat}{n:Str}{h:Heap}{v:Option Value}{m:Str->Option Value}{t:Tok}(I:aH X pins σ H s)(hN:X.N.Nodup)(hi:X.N[i]? = some n)
  (hm:s.heap.Ns X.env.locals m)(hl:∀(j:Nat)(x:Str)(w:V),X.N[j]? = some x->σ[j]? = some (some w)->GR X.env.scope x -> ∃u,bK w u/\JA X.env s.heap m x u)
  (hn:h.Ns X.env.locals (λx=>if x=n then v else m x))(hs:Heap.SameBut X.env.locals s.heap h):aH X pins (σ.set i none) H { s with heap:=h,toks:=t }:=by
 have sm:∀b o,b≠X.env.locals->s.heap.get? b=some o->h.get? b=some o:=λb o hb e=>(hs.2 b hb).trans e;have cellK:∀x c,X.env.cells.lookup x=some c -> ∀w,s.heap.IsCell c w->h.IsCell c w:=λx c e w ⟨o,ho,hd⟩=>⟨o,sm c o (I.cne x c e) ho,hd⟩;refine⟨I.ok,I.os,I.bare,⟨λb o e n' hb hx=>?_,λb o e n' hb hx=>?_,I.base.free,λb o e hx=>?_,I.base.tups,I.base.frzs,I.base.tbls⟩,⟨_,hn,λj x w e1 e2 e3=>?_⟩,λx c e=>?_,I.free,I.freeC,λp hp=>?_,λb u e=>?_,by rw[XX];exact I.len⟩
 .have neL:b≠X.env.locals:=YY (Yr (Heap.lt_size e) I.ok.above);exact sm b o neL (I.base.keep b o e n' hb hx)
 .have neL:b≠X.env.locals:=YY (Yr (Heap.lt_size e) I.ok.above);obtain⟨sl,q⟩:=I.base.slot b o e n' hb hx;exact⟨sl,sm b _ neL q⟩
 .have neL:b≠X.env.locals:=YY (Yr (Heap.lt_size e) I.ok.above);obtain⟨o',q⟩:=I.base.there b o e hx;exact⟨o',sm b _ neL q⟩
 .have hij:j≠i:=λz=>by
   subst z;rw[XI (by rw[I.len];exact (Ys.mp hi).1)] at e2
   cases e2
  rw[XW (Ne.symm hij)] at e2;have hxn:x≠n:=λz=>by
   subst z;exact hij ((List.getElem?_inj (Ys.mp e1).1 hN).mp (e1.trans hi.symm))
  obtain⟨u,r,l⟩:=hl j x w e1 e2 e3;refine⟨u,r,?_⟩;rcases l with ⟨k,q⟩|⟨k,c,q,z⟩
  .exact .inl ⟨k,(Yc hxn).trans q⟩
  .exact .inr ⟨k,c,q,cellK x c q _ z⟩
 .obtain⟨w,z⟩:=I.cell x c e;exact⟨w,cellK x c e w z⟩
 .obtain⟨q1,q2,q3,q4,q5⟩:=I.pin p hp;exact⟨sm _ _ q3 q1,q2,q3,q4,q5⟩
 .refine (I.hok b u e).stay (λc w hc q=>sm c w (λz=>?_) q) (λ_ q=>q) λ_ _ q=>q;subst z;rcases hc with z|z
  .rw[<-z,I.free] at e;cases e
  .rw[I.free] at z;cases z
end
def IT(K:W.Frag)(C0:Addr)(i:Nat)(tb:St->Hp->XK->Prop)(ts:TS):TS:=λD σ H =>
 tb σ H λc _ H1=>∃C,c=.ref C/\PySem.W.exmOne K (.ref C) (.ref C0)=some true /\ ∀a H2,vw K H1 a=none->ay (vw K H1) (vw K H2)->vw K H2 a=some (Jg a C)->ts { nx:=λσ2 H2=>D.nx (σ2.set i none) H2,rt:=λ_ _=>False } (σ.set i (some (.ref a))) H2
section
variable {X:Cx}
theorem Iz{e:Expr}{cls n:Str}{b0:Stmt}{suite:List Stmt}{p1 np hp pos:Pos}{C0:Addr}{i:Nat}{tb:St->Hp->XK->Prop}{ts:TS}(hx0:X.ex=[])(hs:X.stack=X.env::X.outer)(hfr:X.env.frame=some X.env.locals)
  (hb:PX X e tb)(hN:X.N.Nodup)(hi:X.N[i]? = some n)(hloc:X.env.scope.names.lookup n=some .local)(hg:Gl X cls)(hm:X.mg cls=some (.ref C0))(hsu:∀v,sR (X.marked v) (b0::suite) ts)
  (hdb:(cls==("__debug__" : Str))=false:=by decide) (hsw:swapsWith e none p1.line X.env=pure false:=by rfl) :
  PS X (.Try [.Expr e p1] [.ExceptHandler (some (.Name cls np)) (some n) (b0::suite) hp] [] [] pos) (IT X.K C0 i tb ts):=by
 intro pins s σ H D I h;obtain⟨E1,hE1⟩ : ∃E1:XK,E1=λc _ H1=>∃C,c=.ref C/\PySem.W.exmOne X.K (.ref C) (.ref C0)=some true /\ ∀a H2,vw X.K H1 a=none->ay (vw X.K H1) (vw X.K H2)->vw X.K H2 a=some (Jg a C)->ts { nx:=λσ2 H2=>D.nx (σ2.set i none) H2,rt:=λ_ _=>False } (σ.set i (some (.ref a))) H2:=⟨_,rfl⟩;have h':tb σ H E1:=by rw[hE1];exact h
 refine wpAny_Try_except (wpAny_mono (Q:=λ_ _=>False) (E:=λev s'=>∃s1 H1,aH X pins σ H1 s1/\nE X.prog X.w X.stack H1 s1 E1 ev s') ?_ (λ_ _ z=>z.elim) λev s' hx=>?_)
 .refine wpAny_execs_cons (wpAny_Expr_any (dq (hb pins s σ H E1 I h') λ_ _ z=>z.elim) I.quiet hsw)
 .obtain⟨s1,H1,I1,a,C,a0,B,H',rfl,os,gb,un,hok,fl,F,q⟩:=hx;rw[hE1] at q;obtain⟨C',ec,hex,q⟩:=q;cases ec;have hfr':X.A.frames=some (X.env::X.outer):=by rw[I1.ok.frames,hs]
  have fl0:=fl;rw[hs] at fl;have nB:B.get? a=none:=fl0.2.1;obtain⟨oa,va,ga,ca,da,_⟩:=fl0.first
  have n1:s1.heap.get? a=none:=by
   cases z:s1.heap.get? a with
   | none=>rfl
   | some o =>
    by_cases hf:a∈iW X.stack
    .obtain⟨_,o',e3,hd⟩:=fl0.2.2.1.mem hf;rw[ga] at e3;cases e3;exact absurd da (hd _)
    .obtain⟨o',q'⟩:=F.b3 a o z hf;rw[nB] at q';cases q'
  have n0:X.s₀.heap.get? a=none:=by
   cases z:X.s₀.heap.get? a with
   | none=>rfl
   | some o =>
    obtain⟨o',q'⟩:=I1.base.there a o z (by rw[hx0];simp)
    rw[n1] at q';cases q'
  have nH:H' a=none:=by
   cases z:H' a with
   | none=>rfl
   | some u =>
    obtain⟨o',q'⟩:=F.b1 a (by rw[z];simp)
    rw[nB] at q';cases q'
  have nL:a≠X.env.locals:=λz=>by
   obtain⟨m,⟨o,_,_,ho,_⟩,_⟩:=I1.loc;rw[<-z,n1] at ho;cases ho
  have nC:∀x c,X.env.cells.lookup x=some c->c≠a:=λx c e' z=>by
   obtain⟨v,o,ho,_⟩:=I1.cell x c e';rw[z,n1] at ho;cases ho
  have nP:∀p∈X.pn++pins,p.1≠a:=λp hp' z=>by
   have ho:=(I1.pin p hp').1;rw[z,n1] at ho;cases ho
  refine wpAny_looks_onW hfr' hfr fl λh4 held4 up4=>?_;refine wpAny_landsW held4 λh5 fl5 up5=>?_;have up45:=up4.trans up5;have I5:=I1.landed F un hok fl0.1 fl5.1 up45 os gb;refine wpAny_handleBy_cons (codeAny_handlers_test ?_) (by intro z;cases z)
  refine jY (X:=X.marked (.ref a)) (I5.mark (.ref a)) hg hm ?_ hdb;obtain⟨o5,g5,c5⟩:=fl5.there;have LT:PySem.W.Looks (model X.prog X.w) h5 (typeOf (.ref a)) (.ref C):=c5▸(PySem.W.Looks.ld g5).andThen .now;refine (PySem.W.exm_one I5.kIn LT hex).here ?_;refine codeAny_handlers_suite_as ?_;refine lands_againW fl5 λh6 fl6 up6=>?_;have I6:=I1.landed F un hok fl0.1 fl6.1 (up45.trans up6) os gb;obtain⟨o6,g6,c6⟩:=fl6.there;have I7:=I6.track (a:=a) (o:=Jg a C) nH n0 nL nC nP ⟨⟨o6,g6,c6⟩,⟨o6,g6⟩,λha hb ⟨o,e1,e2⟩ k=>⟨o,k o e1,e2⟩⟩;have hKa:X.K.lookup a=none:=by
   cases z:X.K.lookup a with
   | none=>rfl
   | some ob =>
    have e1:=I1.bk a ob (I1.ok.mod.kin a ob z);rw[n1] at e1;cases e1
  have hv1:vw X.K H' a=none:=(dD hKa).trans nH;have hv2:vw X.K (upd H' a (Jg a C)) a=some (Jg a C):=(dD hKa).trans bB;refine i4 I7 hN hi (.inl hloc) (v:=.ref a) rfl (λs8 I8=>?_) (.inr hloc);refine wpAny_mono ((hsu (.ref a)) pins s8 _ _ _ (I8.mark (.ref a)) (q a _ hv1 (kQ (ay.upd nH)) hv2)) (λf s9 z=>?_) λ_ _ z=>z.elim;cases f with
  | next =>
   obtain⟨σ9,H9,I9,q9⟩:=z;have I9':=I9.unmark I.ok;obtain⟨m,hn,hl⟩:=id I9'.loc;refine wpAny_nameGoes_keeps hloc hn (by rw[I.ok.kind];rfl) λh10 v10 hn10 hs10=>?_
   exact⟨_,H9,I9'.unset hN hi hn hl hn10 hs10,q9⟩
  | brk=>obtain⟨_,_,_,z⟩:=z;exact z.elim
  | cont=>obtain⟨_,_,_,z⟩:=z;exact z.elim
  | ret u=>obtain⟨_,_,_,_,_,z⟩:=z;exact z.elim
end
theorem nE.imp{P:Program}{w:World}{outer:List Env}{H:Hp}{s s':Shared}{E E':XK}{e:Value}(h:nE P w outer H s E e s')(k:∀c o H',E c o H'->E' c o H'):nE P w outer H s E' e s':=by
 obtain⟨a,C,a0,B,H',h1,h2,h3,h4,h5,h6,h7,h8⟩:=h;exact⟨a,C,a0,B,H',h1,h2,h3,h4,h5,h6,h7,k _ _ _ h8⟩
structure Kb (P:Program)(w:World)(K:W.Frag)(mg:Str->Option Value)(base:Heap)(k:Nat)(p C:Addr)(s:Shared)(H:Hp)(outer:List Env):Prop where
 fn:∃oc od fd sl,s.heap.get? p=some ⟨oc,od,.func fd,sl⟩
 free:H p=none
 nof:p∉iW outer
 run:∀(A':Around)(outer':List Env)(s':Shared),dz k A'->qq P w K mg base A' outer' s' H->(∀b o,s.heap.get? b=some o->H b=none->b∉iW outer->s'.heap.get? b=some o) ->
  codeAny (model P w) A' (.call (.ref p) ⟨[],[]⟩) (CR (nE P w) outer' P w H s' (λ_ _=>False) (λc o H'=>c=.ref C/\o=none/\ay (vw K H) (vw K H'))) s'
theorem GB{X:Cx}{k i:Nat}{x:Str}{p C:Addr}{p1 p2:Pos}(hx0:X.ex=[])(L:Kb X.prog X.w X.K X.mg X.base k p C X.s₀ X.H₀ X.outer)(hr:dz k X.A)(hi:X.N[i]? = some x)(hv:GR X.env.scope x)
  (hd:(x==("__debug__" : Str))=false:=by decide) (hcd:(x==("__classdict__" : Str))=false:=by decide) :
  PX X (.Call (.Name x p1) [] [] p2) (λσ H E=>H=X.H₀/\σ[i]? = some (some (.ref p)) /\ ∀H',ay (vw X.K X.H₀) (vw X.K H')->E (.ref C) none H'):=by
 intro pins s σ H E I h;obtain⟨rfl,hσ,hE⟩:=h;have nx:∀b,b∉X.ex:=λb z=>by rw[hx0] at z;exact absurd z (by simp)
 refine wpAny_Call_Name_kw ?_;refine dq (BB (X:=X.wish λev s'=>∃s1 H1,aH X pins σ H1 s1/\nE X.prog X.w X.stack H1 s1 E ev s') hi hv hd hcd pins s σ X.H₀ (λv H1=>v=.ref p/\H1=X.H₀) (I.wish _) ⟨.ref p,hσ,rfl,rfl⟩) (λu s1 z=>?_);obtain⟨v,H1,I1,r,rfl,rfl⟩:=z;have I1:=I1.unwish;cases r;have keep:∀b o,X.s₀.heap.get? b=some o->X.H₀ b=none->b∉iW X.outer->s1.heap.get? b=some o:=λb o e n nf=>I1.base.keep b o e n nf (nx b);obtain⟨oc,od,fd,sl,hfn⟩:=L.fn;refine PySem.W.callWith_F0 ⟨oc,od,fd,sl,keep _ _ hfn L.free L.nof⟩ ?_;refine wpAny_call (codeAny_mono (L.run X.A X.stack s1 hr I1.env0 keep) λr s' hq=>?_);cases r with
 | error e =>
  have hq':nE X.prog X.w X.stack X.H₀ s1 (λc o H'=>c=.ref C/\o=none/\ay (vw X.K X.H₀) (vw X.K H')) e s':=hq;exact⟨s1,X.H₀,I1,hq'.imp λc o H' ⟨q1,q2,q3⟩=>by subst q1 q2;exact hE H' q3⟩
 | ok fl =>
  cases fl with
  | ret u=>obtain⟨_,_,_,_,_,_,_,z⟩:=hq;exact z.elim
  | next=>exact False.elim hq
  | brk=>exact False.elim hq
  | cont=>exact False.elim hq
theorem HB{CX:vP}{P:Program}{w:World}{K:W.Frag}{mg:Str->Option Value}{base:Heap}{k:Nat}{f:Addr}{name qual:Str}{params:Arguments}{body:List Stmt}{scope:Scope}{dV kV doc pm cdv ct oc:Value}{an od:Option Addr}
  {osl:Array (Option Value)}{N ps:List Str}{A:Around}{outer:List Env}{s:Shared}{H:Hp}{args:Args}{us:List Value}{vs:List V}{Q:VK}{E:XK}
  (lk:K.lookup f=some ⟨oc,od,.func (PySem.W.fnOf name qual params body scope dV kV doc pm an cdv ct),osl⟩)(hcd:PySem.W.codeIn K cdv qual=true)(S:aD N ps scope)
  (hr:dz (k+1) A)(e0:qq P w K mg base A outer s H)(hb:BindsTo s (PySem.W.fnOf name qual params body scope dV kV doc pm an cdv ct) args (ps.zip us))(r:aX vs us)(hl:vs.length=ps.length)
  (hbody:dz k (A.deeper (envOfC qual scope s.heap.objs.size f cdv)) -> ∃t,sR (gB CX P w K mg base N qual scope f cdv A outer s H E) body t/\t { nx:=λ_ H'=>Q .non H',rt:=Q } (start N vs) H) :
  codeAny (model P w) A (.call (.ref f) args) (CR CX outer P w H s Q E) s:=by
 have KX:K.In s.heap:=e0.mod.kin.keeps λb o e=>(e0.bs b o e).1;have lim:s.heap.NoLimit:=e0.mod.nolimit.keeps λb o e=>(e0.bs b o e).1;have hkind:∀y∈ps.zip us,scope.names.lookup y.1=some .local\/(scope.names.lookup y.1=some .cell/\((cellsFrom (s.heap.objs.size+1) scope.names []).lookup y.1).isSome=true):=λ⟨n,v⟩ hy=>by
  rcases S.par n (List.of_mem_zip hy).1 with q|q
  .exact .inl q
  .exact .inr ⟨q,PySem.W.cellsFrom_some _ _ _ (.inl q)⟩
 refine codeAny_call_function hr.depth (KX _ _ lk) rfl S.co S.gen rfl (PySem.W.codeRec_of KX hcd) (hb _ _ _ _ ?_);refine wpAny_newFunctionEnv_cells S.kind hkind λenv he s1 x=>?_;subst he;refine⟨lim.keeps x.toInCall.keep,codeAny_func ?_⟩;obtain⟨t,ht,hq⟩:=hbody (hr.deeper _);have I:aH (gB CX P w K mg base N qual scope f cdv A outer s H E) [] (start N vs) H s1:=rf S hr.hd e0 hl r x;refine wpAny_mono (ht [] s1 (start N vs) H _ I hq) (λfl s' hs=>?_) λe s' hs=>hs;have fin:∀{σ':St}{H':Hp}{v:V}{u:Value},aH (gB CX P w K mg base N qual scope f cdv A outer s H E) [] σ' H' s'->bK v u->Q v H'->CE outer P w H s Q u s' :=
  λ{σ' H' v u} J rv q=>⟨v,H',J.os,J.bare,J.base,J.hok,rv,q⟩
 cases fl with
 | ret u =>
  obtain⟨v,σ',H',J,rv,q⟩:=hs;exact fin J rv q
 | next =>
  obtain⟨σ',H',J,q⟩:=hs;exact fin (v:=V.non) (u:=Value.none) J rfl q
 | brk =>
  obtain⟨_,_,_,q⟩:=hs;exact False.elim q
 | cont =>
  obtain⟨_,_,_,q⟩:=hs;exact False.elim q
def uo(c:Addr)(qual:Str):HO:=.ext (λh=>h.CodeRec (.ref c) qual)
def dA(H:Hp)(P:Addr)(qual:Str):Prop:=∃ps,H P=some (.tbl ps)/\TriplesOk ps.toList /\ ∀pos cv,codeAmong pos ps.toList=some cv -> ∃c,cv=.ref c/\H c=some (uo c qual)
theorem qt{pos:Pos}{a b:Int}{c cv:Value}(l:List Value)(h:TriplesOk l)(z:codeAmong pos (l++[rawInt a,rawInt b,c])=some cv):codeAmong pos l=some cv\/cv=c:=by
 fun_induction TriplesOk l with
 | case1 =>
  simp only[List.nil_append,codeAmong,rawInt] at z;split at z
  .exact .inr (Xb z).symm
  .cases z
 | case2 a' t b' u x rest ih =>
  simp only[List.cons_append,codeAmong] at z ⊢;by_cases hh:(a'==(pos.line:Int) && b'==(pos.col:Int))=true
  .rw[Yg hh] at z ⊢;exact .inl z
  .rw[Yc hh] at z ⊢;exact ih h z
 | case3 l h1 h2=>exact h.elim
theorem aH.tabbed{X:Cx}{pins:List (Addr×Obj)}{σ:St}{H:Hp}{s:Shared}{P c':Addr}{qual:Str}{ps more:Array Value}{h2:Heap}{t':Nat}(I:aH X pins σ H s)(hP:H P=some (.tbl ps))(hx:Heap.ExtBut P s.heap h2)(hc:s.heap.objs.size<=c')
  (hr:h2.CodeRec (.ref c') qual)(hP2:h2.get? P=some { cls:=.none,data:=.fields (ps++more) }):aH X pins σ (upd (upd H P (.tbl (ps++more))) c' (uo c' qual)) { s with heap:=h2,toks:=t' }:=by
 have nc:H c'=none:=I.hok.fresh hc;have cP:c'≠P:=λz=>by rw[z,hP] at nc;cases nc
 have nP:∀b,H b=none->b≠P:=λb n z=>by rw[z,hP] at n;cases n
 have old:∀b o,s.heap.get? b=some o->b≠c':=λb o e z=>by rw[z] at e;exact absurd (Yr (Heap.lt_size e) hc) (XA _)
 have JZ:∀b u,H b=some u->(∀q,u ≠ .tbl q)->upd (upd H P (.tbl (ps++more))) c' (uo c' qual) b=some u:=λb u e nt=>by
  rw[aL (ak e nc),aL (λz=>by rw[z,hP] at e;cases e;exact nt _ rfl)]
  exact e
 refine I.step (h':=h2) (g':=s.gens) (d':=s.drawn) (t':=t') (ch:=[]) (λ_ z=>nomatch z) (λb o _ _ _ e n=>hx b o (nP b n) e) (λb o _ _ _ e n=>⟨o.slots,hx b o (nP b n) e⟩) (λb o _ e n=>?_) (λb o _ e=>?_)
  (λb xs e=>JZ b _ e (λ_ z=>by cases z)) (λb o u e=>JZ b _ e (λ_ z=>by cases z)) (λb qs e=>?_) (λm hm=>?_) (λb u e=>?_) I.bare
 .rw[aL (old b o e),aL (nP b n)];exact n
 .by_cases hb:b=P
  .exact⟨_,by rw[hb];exact hP2⟩
  .exact⟨o,hx b o hb e⟩
 .by_cases hb:b=P
  .subst hb;rw[hP] at e;cases e;exact⟨more,by rw[aL (Ne.symm cP),bB]⟩
  .exact⟨#[],by rw[aL (ak e nc),aL hb,e];simp⟩
 .obtain⟨o,es,ep,ho,r⟩:=hm;exact⟨o,es,ep,hx _ o (nP _ I.free) ho,r⟩
 .by_cases hb:b=c'
  .subst hb;rw[bB] at e;cases e;obtain⟨c2,oc,vs,t,e1,e2,e3⟩:=id hr;cases e1;exact⟨hr,⟨_,e2⟩,λha hb ⟨c3,o3,v3,t3,q1,q2,q3⟩ k=>by cases q1;exact⟨_,o3,v3,t3,rfl,k o3 q2,q3⟩⟩
  .rw[aL hb] at e;by_cases hp:b=P
   .subst hp;rw[bB] at e;cases e;exact hP2
   .rw[aL hp] at e;refine (I.hok b u e).stay (λc v hc' q=>hx c v (λz=>?_) q) (λc q=>JZ c _ q λ_ z=>by cases z) λc xs q=>JZ c _ q λ_ z=>by cases z
    rcases hc' with z2|z2
    .exact hp (z2.symm.trans z)
    .rw[z,hP] at z2;cases z2
theorem sP{env:Env}:∀(l:List (Str×NameKind))(acc:List (Str×Addr)),(∀q∈l,q.2=.free -> ∃c,env.cells.lookup q.1=some c)->(∀x∈acc,env.cells.lookup x.1=some x.2) ->
  ∃r,(forIn l acc (λ(x:Str×NameKind)(cs:List (Str×Addr))=>(if (x.2==NameKind.free)=true then do let c <-cellOf env x.1;pure (ForInStep.yield ((x.1,c)::cs)) else pure (ForInStep.yield cs):Sem (ForInStep (List (Str×Addr))))):Sem (List (Str×Addr)))=pure r /\
   (∀x∈r,env.cells.lookup x.1=some x.2)/\(∀q∈l,q.2=.free -> ∃c,(q.1,c)∈r) /\ ∀x∈acc,x∈r
 | [],acc,_,ha=>⟨acc,rfl,ha,by simp,λ_ z=>z⟩
 | q::l,acc,h,ha=>by
  obtain⟨n,kd⟩:=q;rw[List.forIn_cons];by_cases hk:kd=.free
  .subst hk;obtain⟨c,hc⟩:=h (n,.free) (by simp) rfl
   obtain⟨r,e1,e2,e3,e4⟩:=sP (env:=env) l ((n,c)::acc) (λq hq=>h q (by simp[hq])) (λx hx=>by
    rcases Yh.mp hx with z|z
    .rw[z];exact hc
    .exact ha x z)
   refine⟨r,?_,e2,λq hq hf=>?_,λx hx=>e4 x (by simp[hx])⟩
   .simp only[cellOf,hc,pure_bind,beq_self_eq_true,if_true];exact e1
   .rcases Yh.mp hq with z|z
    .rw[z];exact⟨c,e4 _ (by simp)⟩
    .exact e3 q z hf
  .obtain⟨r,e1,e2,e3,e4⟩:=sP (env:=env) l acc (λq hq=>h q (by simp[hq])) ha
   refine⟨r,?_,e2,λq hq hf=>?_,e4⟩
   .have:(kd==NameKind.free)=false:=by simpa using hk
    simp only[this,Bool.false_eq_true,if_false,pure_bind];exact e1
   .rcases Yh.mp hq with z|z
    .rw[z] at hf;exact absurd hf hk
    .exact e3 q z hf
theorem Dx{env:Env}{scope:Scope}(h:∀q∈scope.names,q.2=.free -> ∃c,env.cells.lookup q.1=some c):∃r,closureFor scope env=pure r/\(∀x∈r,env.cells.lookup x.1=some x.2)/\(∀q∈scope.names,q.2=.free -> ∃c,(q.1,c)∈r):=by
 obtain⟨r,e1,e2,e3,_⟩:=sP (env:=env) scope.names [] h (by simp)
 refine⟨r,?_,e2,e3⟩;unfold closureFor;have e1':=e1
 first
  | (rw[<-e1];simp;done)
  | (simp only[bind_pure];rw[<-e1];rfl)
  | (show (forIn scope.names [] _ >>= pure)=_;rw[bind_pure];rw[<-e1];rfl)
structure yP (X:Cx)(c P:Addr):Prop where
 code:X.env.code=.ref c
 hd:PySem.W.CodeHd X.base c P
 bi:∃bm o,X.mg "__builtins__" = some (.ref bm)/\bm≠builtinsNs/\bm≠mainGlobals/\X.base.get? bm=some o/\o.cls=.type "module" /\ o.dict=some builtinsNs/\o.data=.plain
abbrev kK (X:Cx):Str:=X.env.qual ++ "<lambda>"
theorem Df{X:Cx}{pins:List (Addr×Obj)}{σ:St}{H:Hp}{s:Shared}{params:Arguments}{body:Expr}{scope:Scope}{pos:Pos}{c P:Addr}{M':Model}{A':Around}{Q:Value->Shared->Prop}{E:Value->Shared->Prop}
  (M:yP X c P)(hdef:defaultsOf params X.env=([],[]))(I:aH X pins σ H s)(hT:dA H P (kK X))(hfree:∀q∈scope.names,q.2=.free->X.env.kindOf q.1=some .cell)
  (k:∀(p c':Addr)(pm ctv:Value)(clos:List (Str×Addr))(H1:Hp)(s1:Shared),(∀x∈clos,X.env.cells.lookup x.1=some x.2)->(∀q∈scope.names,q.2=.free -> ∃c,(q.1,c)∈clos)->aH X pins σ H1 s1->gF P H H1->dA H1 P (kK X) ->
   s1.heap.get? p=some (PySem.W.kla_obj "<lambda>" (kK X) params body scope clos pm c' ctv)->H1 p=none->s.heap.objs.size<=p->H1 c'=some (uo c' (kK X))->Q (.ref p) s1) :
  wpAny M' A' (eval (.Lambda params body scope pos) X.env) Q E s:=by
 obtain⟨clos,hcl,hc1,hc2⟩:=Dx (env:=X.env) (scope:=scope) λq hq hf=>I.ok.has q.1 (.inl (hfree q hq hf));refine PySem.W.kla_eval hdef ?_;obtain⟨ps,hP,ht,hall⟩:=hT;have oP:s.heap.get? P=some (PySem.W.tabObj ps):=I.hok P _ hP;obtain⟨bm,o,b1,b2,b3,b4,b5,b6,b7⟩:=M.bi;have bP:bm≠P:=λz=>by
  have:=(I.bs bm o b4).2;rw[z,hP] at this;cases this
 have gP:mainGlobals≠P:=λz=>by
  obtain⟨og,_,_,eg,_⟩:=I.mod.glob;have:=(I.bs _ og eg).2;rw[z,hP] at this;cases this
 have hb:s.heap.BuiltinsAt X.mg P:=⟨bm,o,b1,b2,b3,bP,I.bk _ _ b4,b5,b6,b7⟩;cases hh:codeAmong pos ps.toList with
 | none =>
  refine PySem.W.kla_makeFunction hcl I.ok.glob (I.mod.glob.keeps I.bk) M.code (M.hd.keeps I.bk) oP ht hh gP hb λc' ctv h' tk hx hge hlt hrec htb=>?_;have I1:=I.tabbed (t':=tk) hP hx hge hrec htb;have I2:=I1.kept (t':=tk) (h':=h'.push (PySem.W.kla_obj "<lambda>" (kK X) params body scope clos ((X.mg "__name__").getD .none) c' ctv)) λb o e=>Heap.get?_push_of_some _ e;have nc:H c'=none:=I.hok.fresh hge;have cP:c'≠P:=λz=>by rw[z,hP] at nc;cases nc
  have hle:s.heap.objs.size<=h'.objs.size:=YB hge (X2 hlt);refine k _ c' _ ctv clos _ _ hc1 hc2 I2 (λb o hb e=>?_) ⟨_,by rw[aL (Ne.symm cP),bB],?_,λpos' cv z=>?_⟩ (Heap.get?_push_size _ rfl) (I1.hok.fresh (Yn _)) hle bB
  .rw[aL (ak e nc),aL hb];exact e
  .rw[Array.toList_append];exact TriplesOk_snoc _ _ _ _ ht
  .rw[Array.toList_append] at z;rcases qt _ ht z with q|q
   .obtain⟨c2,e2,e3⟩:=hall pos' cv q;refine⟨c2,e2,?_⟩;rw[aL (ak e3 nc),aL (λz=>by rw[z,hP] at e3;cases e3)]
    exact e3
   .exact⟨c',q,bB⟩
 | some cv =>
  obtain⟨c',rfl,hcO⟩:=hall pos cv hh;refine PySem.W.kla_makeFunctionHit hcl I.ok.glob (I.mod.glob.keeps I.bk) M.code (M.hd.keeps I.bk) oP ht hh hb λctv h' tk hk hsz=>?_;have I1:=I.kept (t':=tk) (h':=h') hk;have I2:=I1.kept (t':=tk) (h':=h'.push (PySem.W.kla_obj "<lambda>" (kK X) params body scope clos ((X.mg "__name__").getD .none) c' ctv)) λb o e=>Heap.get?_push_of_some _ e;exact k _ c' _ ctv clos _ _ hc1 hc2 I2 (λb o _ e=>e) ⟨ps,hP,ht,hall⟩ (Heap.get?_push_size _ rfl) (I1.hok.fresh (Yn _)) hsz hcO
def qQ(P:Program)(w:World)(K:W.Frag)(mg:Str->Option Value)(base:Heap)(N:List Str)(qual:Str)(scope:Scope)(p:Addr)(cd:Value)(cl:List (Str×Addr))(A:Around)(outer:List Env)(s:Shared)(H:Hp):Cx where
 prog:=P
 w:=w
 K:=K
 mg:=mg
 base:=base
 A:=A.deeper (PySem.W.envX qual scope s.heap.objs.size p cd cl)
 N:=N
 s₀:=s
 H₀:=H
 env:=PySem.W.envX qual scope s.heap.objs.size p cd cl
 outer:=outer
 stack:=PySem.W.envX qual scope s.heap.objs.size p cd cl::outer
 ex:=[]
 fn:=λ_=>false
 calm:=true
 pn:=[]
 xe:=λ_ _=>False
theorem kr{cl:List (Str×Addr)}{f:Str->Option Addr}(h:∀x∈cl,f x.1=some x.2) {n:Str}{c:Addr}(hm:(n,c)∈cl):cl.lookup n=some c:=by
 induction cl with
 | nil=>cases hm
 | cons q r ih =>
  obtain⟨m,d⟩:=q;rw[List.lookup_cons];by_cases e:n=m
  .subst e;have h1:=h (n,d) (by simp)
   have h2:=h (n,c) hm;rw[h1] at h2;cases h2;simp
  .have:(n==m)=false:=by simpa using e
   rw[this];refine ih (λx hx=>h x (by simp[hx])) ?_
   rcases Yh.mp hm with z|z
   .cases z;exact absurd rfl e
   .exact z
theorem iq{cl:List (Str×Addr)}{n:Str}{c:Addr}(h:cl.lookup n=some c):(n,c)∈cl:=by
 induction cl with
 | nil=>cases h
 | cons q r ih =>
  obtain⟨m,d⟩:=q;rw[List.lookup_cons] at h;by_cases e:(n==m)=true
  .rw[e] at h;cases h;rw[eq_of_beq e];simp
  .have:(n==m)=false:=by simpa using e
   rw[this] at h;exact Yd _ (ih h)
theorem Fd{P:Program}{w:World}{K:W.Frag}{mg:Str->Option Value}{base:Heap}{N:List Str}{qual:Str}{scope:Scope}{p:Addr}{cd:Value}{cl:List (Str×Addr)}{A:Around}{outer:List Env}{s:Shared}{H:Hp}{σ:St}{h1:Heap}{t:Nat}{g:Str->Option Addr}
  (hk:scope.kind=.function)(hh:A.handled=none)(e0:qq P w K mg base A outer s H)(hg:∀x∈cl,g x.1=some x.2)(hinj:∀x y c,g x=some c->g y=some c->x=y)(hfr:∀q∈scope.names,q.2=.free -> ∃c,(q.1,c)∈cl)(hnc:∀q∈scope.names,q.2 ≠ .cell)
  (hns:h1.Ns s.heap.objs.size (λ_=>none))(keep:∀b o,s.heap.get? b=some o->h1.get? b=some o)(hcell:∀x c,cl.lookup x=some c->H c=none /\ ∃v,s.heap.IsCell c v)
  (hloc:∀(i:Nat)(x:Str)(v:V),N[i]? = some x->σ[i]? = some (some v)->scope.names.lookup x=some .free /\ ∃u c,bK v u/\cl.lookup x=some c/\s.heap.IsCell c (some u))(hlen:σ.length=N.length) :
  aH (qQ P w K mg base N qual scope p cd cl A outer s H) [] σ H { s with heap:=h1,toks:=t }:=by
 have noA:∀b:Addr,b∉(qQ P w K mg base N qual scope p cd cl A outer s H).ex:=λb z=>absurd (show b∈([]:List Addr) from z) (by simp)
 refine⟨⟨e0.mod,hk,rfl,rfl,Yn _,λx y c h1 h2=>?_,λx hx=>?_,(λx c h=>nomatch h),λ_=>hh,Around.frames_deeper e0.frames,.inr ⟨rfl,rfl⟩,λb z=>absurd z (noA b),e0.bs,e0.bsz,λb _ _=>noA b,λb z=>absurd z (noA b),e0.funs,e0.frf⟩,
  rfl,e0.bare,Un.kept keep,⟨_,hns,λi x v h1 h2 h3=>?_⟩,λx c h=>?_,e0.hok.fresh (Yn _),λx c h=>(hcell x c h).1,λq hq=>absurd (show q∈([]:List (Addr×Obj)) from hq) (by simp),e0.hok.kept keep,hlen⟩
 .exact hinj x y c (hg _ (iq h1)) (hg _ (iq h2))
 .have hx':scope.names.lookup x=some .cell\/scope.names.lookup x=some .free:=hx;rcases hx' with z|z
  .exact absurd rfl (hnc _ (Y1 z))
  .obtain⟨c,hc⟩:=hfr _ (Y1 z) rfl;exact⟨c,kr hg hc⟩
 .obtain⟨hf,u,c,r,hc,o,ho,hd⟩:=hloc i x v h1 h2;exact⟨u,r,.inr ⟨.inr hf,c,hc,o,keep _ _ ho,hd⟩⟩
 .obtain⟨_,v,o,ho,hd⟩:=hcell x c h;exact⟨v,o,keep _ _ ho,hd⟩
theorem IC{X:Cx}{pins:List (Addr×Obj)}{σ σl:St}{H:Hp}{s:Shared}{params:Arguments}{body:Expr}{scope:Scope}{qual:Str}{p c' C:Addr}{pm ctv:Value}{clos:List (Str×Addr)}{Nl:List Str}{k:Nat}{tl:St->Hp->XK->Prop}
  (hfn:∀x,X.fn x=true)(I:aH X pins σ H s)(hc1:∀x∈clos,X.env.cells.lookup x.1=some x.2)(hc2:∀q∈scope.names,q.2=.free -> ∃c,(q.1,c)∈clos)
  (hp:s.heap.get? p=some (PySem.W.kla_obj "<lambda>" qual params body scope clos pm c' ctv)) (hpn:H p=none)(hpf:p∉iW X.stack)(hco:H c'=some (uo c' qual))
  (hk:scope.kind=.function)(hnc:∀q∈scope.names,q.2 ≠ .cell)(hsc:scope.isCoroutine=false/\scope.isGenerator=false)(hbind:bindArgs (PySem.W.kla_fn "<lambda>" qual params body scope clos pm (.ref c') ctv) ⟨[],[]⟩=pure [])
  (hN:∀(i:Nat)(x:Str)(v:V),Nl[i]? = some x->σl[i]? = some (some v)->scope.names.lookup x=some .free/\X.env.kindOf x=some .cell /\ ∃j:Nat,X.N[j]? = some x/\σ[j]? = some (some v))(hlen:σl.length=Nl.length)
  (hb:∀(A':Around)(outer':List Env)(s':Shared),dz k (A'.deeper (PySem.W.envX qual scope s'.heap.objs.size p (.ref c') clos))->PX (qQ X.prog X.w X.K X.mg X.base Nl qual scope p (.ref c') clos A' outer' s' H) body tl)
  (ht:tl σl H λc o H'=>c=.ref C/\o=none/\ay (vw X.K H) (vw X.K H')):Kb X.prog X.w X.K X.mg X.base (k+1) p C s H X.stack:=by
 have cells:∀x c,clos.lookup x=some c->X.env.cells.lookup x=some c:=λx c h=>hc1 _ (iq h);have cfree:∀x c,X.env.cells.lookup x=some c->c∉iW X.stack:=λx c e z=>by
  rcases Yh.mp (I.stkSub c z) with q|q
  .exact I.cne x c e q
  .obtain⟨_,o,ho,_⟩:=I.ok.funs.mem q;exact absurd (Yr (Heap.lt_size ho) (I.ok.cab x c (hfn x) e)) (XA _)
 refine⟨⟨_,_,_,_,hp⟩,hpn,hpf,λA' outer' s' hr e0 keep=>?_⟩;have KX:X.K.In s'.heap:=e0.mod.kin.keeps λb o e=>(e0.bs b o e).1;have lim:s'.heap.NoLimit:=e0.mod.nolimit.keeps λb o e=>(e0.bs b o e).1;have hrec:s'.heap.CodeRec (.ref c') qual:=(e0.hok c' _ hco).1;have cellAt:∀x c v,X.env.cells.lookup x=some c->s.heap.IsCell c v->s'.heap.IsCell c v:=λx c v e ⟨o,ho,hd⟩=>⟨o,keep c o ho (I.freeC x c e) (cfree x c e),hd⟩;refine PySem.W.kla_callFunE hr.depth (keep _ _ hp hpn hpf) rfl hsc.1 hsc.2 rfl hrec ?_;rw[hbind];refine wpAny_pure (wpAny_newFunctionEnv hnc (λy hy=>absurd hy (by simp)) (λh1 hns hsb=>⟨lim.fresh _ hsb,?_⟩) hk)
 show codeAny _ _ (.expr body (PySem.W.envX qual scope s'.heap.objs.size p (.ref c') clos)) _ _;have kp:∀b o,s'.heap.get? b=some o->h1.get? b=some o:=λb o e=>hsb.extBut b o (YY (Heap.lt_size e)) (Heap.get?_push_of_some _ e);have J:aH (qQ X.prog X.w X.K X.mg X.base Nl qual scope p (.ref c') clos A' outer' s' H) [] σl H { s' with heap:=h1,toks:=s'.toks+([]:List (Str×Value)).length }:=by
  refine Fd (g:=λx=>X.env.cells.lookup x) hk hr.hd e0 hc1 (λx y c h1 h2=>I.ok.inj x y c h1 h2) hc2 hnc (by simpa using hns) kp (λx c e=>⟨I.freeC x c (cells x c e),?_⟩) (λi x v e1 e2=>?_) hlen
  .obtain⟨v,z⟩:=I.cell x c (cells x c e);exact⟨v,cellAt x c v (cells x c e) z⟩
  .obtain⟨f1,f2,j,f3,f4⟩:=hN i x v e1 e2;obtain⟨m,hn,hl⟩:=I.loc;obtain⟨u,r,l⟩:=hl j x v f3 f4 (.inr (.inl f2));refine⟨f1,u,?_⟩;rcases l with ⟨z,_⟩|⟨_,c,hc,hz⟩
   .rw[f2] at z;cases z
   .obtain⟨c2,hm⟩:=hc2 _ (Y1 f1) rfl;have l2:=kr (f:=λx=>X.env.cells.lookup x) hc1 hm;have e3:=cells _ _ l2;rw[hc] at e3;cases e3;exact⟨c,r,l2,cellAt x c _ hc hz⟩
 refine PySem.W.kla_codeExpr (wpAny_mono ((hb A' outer' s' (hr.deeper _)) [] _ σl H _ J ht) (λ_ _ z=>z.elim) λev s2 z=>?_);obtain⟨s3,H3,J3,z⟩:=z;exact J3.passed rfl rfl rfl z λ_ _ _ q=>q
def Lc:V->Value->Prop
 | .ref a,u=>u=.ref a
 | .ty n,u=>u=.type n
 | _,_=>False
theorem ck{X:Cx}:fj X (.builtin "isinstance") (λxs H Q=>∃p c,xs=[.ref p,c] /\ ∃C,vw X.K H p=some (Jg p C)/\rW X.K C /\ ∃cv,Lc c cv /\ ∃b,PySem.W.kitOne X.K (.ref C) cv=some b/\Q (.bl b) H):=by
 intro pins s σ H xs us Q I r h;obtain⟨p,c,rfl,C,hp,Z,cv,hc,b,hk,q⟩:=h;obtain⟨u,w',rfl,rx,ry⟩:=xM r;cases rx;have e1:w'=cv:=by
  cases c with
  | ref a=>exact (show w'=Value.ref a from ry).trans hc.symm
  | ty n=>exact (show w'=Value.type n from ry).trans hc.symm
  | non=>exact hc.elim
  | bl _=>exact hc.elim
  | int _=>exact hc.elim
  | str _=>exact hc.elim
  | byt _=>exact hc.elim
  | flt _=>exact hc.elim
 subst e1;have hx:Bn p C s.heap:=(I.hok p _ (ji hp (λ_ z=>by cases z))).1
 exact Xd (Cb Z) I.kIn hx hk (by intro z;cases z) λtk=>⟨.bl b,H,I.tok tk,rfl,q⟩
def Ar:List Str:=["NoFraction", "NoPolynomial", "NoSums", "NoFlock", "NoWalk", "NoSum", "NoDeed", "NoText", "NoRow"]
structure Ae (K:W.Frag)(mg:Str->Option Value)(C:Addr)(i:Nat):Prop where
 cls:rW K C
 kinds:∀(j:Nat)(n:Str),Ar[j]? = some n -> ∃c,mg n=some (.ref c)/\PySem.W.kitOne K (.ref C) (.ref c)=some (decide (j=i))
 mom:∃c,mg "MomentError" = some (.ref c)/\PySem.W.exmOne K (.ref C) (.ref c)=some true
 ve:PySem.W.kitOne K (.ref C) (.type "ValueError")=some true
structure yS (P:Program)(w:World)(K:W.Frag)(mg:Str->Option Value)(base:Heap)(kl:Nat):Prop where
 ex:∃f,mg "_law_refused" = some (.ref f)/\PySem.W.keepIn K (.ref f)=true /\ ∀(A:Around)(outer:List Env)(s:Shared)(H:Hp)(p C:Addr)(i:Nat)(Q:VK),dz (kl+1) A->qq P w K mg base A outer s H->Kb P w K mg base kl p C s H outer->Ae K mg C i->i<9 ->
  (∀q H',ay (vw K H) (vw K H')->vw K H q=none->vw K H' q=some (.lst [.int i])->Q (.ref q) H')->codeAny (model P w) A (.call (.ref f) ⟨[.ref p],[]⟩) (CR fW outer P w H s Q E0) s
theorem aH.vwT{X:Cx}{pins:List (Addr×Obj)}{σ:St}{H:Hp}{s:Shared}{b:Addr}{o:HO}(I:aH X pins σ H s)(e:H b=some o):vw X.K H b=some o:=by
 have hk:X.K.lookup b=none:=by
  cases z:X.K.lookup b with
  | none=>rfl
  | some ob =>
   have:=(I.bs b ob (I.ok.mod.kin b ob z)).2;rw[e] at this;cases this
 rw[dD hk];exact e
theorem dA.raw{K:W.Frag}{H:Hp}{P:Addr}{qual:Str}(h:dA (vw K H) P qual):dA H P qual:=by
 obtain⟨ps,h1,h2,h3⟩:=h;refine⟨ps,ji h1 (λ_ z=>by cases z),h2,λpos cv z=>?_⟩
 obtain⟨c,e1,e2⟩:=h3 pos cv z;exact⟨c,e1,ji e2 (λ_ z=>by cases z)⟩
theorem aH.tabV{X:Cx}{pins:List (Addr×Obj)}{σ:St}{H:Hp}{s:Shared}{P:Addr}{qual:Str}(I:aH X pins σ H s)(h:dA H P qual):dA (vw X.K H) P qual:=by
 obtain⟨ps,h1,h2,h3⟩:=h;refine⟨ps,I.vwT h1,h2,λpos cv z=>?_⟩;obtain⟨c,e1,e2⟩:=h3 pos cv z;exact⟨c,e1,I.vwT e2⟩
def xE(K:W.Frag)(P:Addr)(qual:Str)(ixs:List Nat)(C:Addr)(i:Nat)(tl:St->Hp->XK->Prop):TE:=λσ H Q=>dA (vw K H) P qual /\ ∀H1,gF P (vw K H) (vw K H1)->dA (vw K H1) P qual -> ∃σl:St,σl=ixs.map (λj=>(σ[j]?).join)/\tl σl H1 (λc o H'=>c=.ref C/\o=none/\ay (vw K H1) (vw K H')) /\
 ∀q H',ay (vw K H1) (vw K H')->vw K H1 q=none->vw K H' q=some (.lst [.int i])->Q (.ref q) H'
theorem Fu{X:Cx}{params:Arguments}{body:Expr}{scope:Scope}{c P C:Addr}{kl i:Nat}{p1 lpos pos:Pos}{Nl:List Str}{ixs:List Nat}{tl:St->Hp->XK->Prop}
  (R:yS X.prog X.w X.K X.mg X.base (kl+1))(M:yP X c P)(hr:dz (kl+2) X.A)(hg:Gl X "_law_refused") (Z:Ae X.K X.mg C i)(hi:i<9)(hfn:∀x,X.fn x=true)(hdef:defaultsOf params X.env=([],[]))
  (hfree:∀q∈scope.names,q.2=.free->X.env.kindOf q.1=some .cell)(hk:scope.kind=.function)(hnc:∀q∈scope.names,q.2 ≠ .cell)(hsc:scope.isCoroutine=false/\scope.isGenerator=false)
  (hbind:∀clos pm c' ctv,bindArgs (PySem.W.kla_fn "<lambda>" (kK X) params body scope clos pm (.ref c') ctv) ⟨[],[]⟩=pure []) (hlen:ixs.length=Nl.length)(hNl:∀(j:Nat)(x:Str),Nl[j]? = some x->scope.names.lookup x=some .free /\ ∃l,ixs[j]? = some l/\X.N[l]? = some x)
  (hb:∀(p c':Addr)(clos:List (Str×Addr))(H1:Hp)(A':Around)(outer':List Env)(s':Shared),dz kl (A'.deeper (PySem.W.envX (kK X) scope s'.heap.objs.size p (.ref c') clos))->PX (qQ X.prog X.w X.K X.mg X.base Nl (kK X) scope p (.ref c') clos A' outer' s' H1) body tl)
  (he:starEach [Expr.Lambda params body scope lpos] X.env=[(false,eval (.Lambda params body scope lpos) X.env)]:=by rfl) :
  PE X (.Call (.Name "_law_refused" p1) [.Lambda params body scope lpos] [] pos) (xE X.K P (kK X) ixs C i tl):=by
 intro pins s σ H Q I h;obtain⟨hT,h⟩:=h;obtain⟨f,hm,hkp,run⟩:=R.ex;refine wpAny_Call_Name_kw (jY I hg hm ?_ ∅);refine PySem.W.callWith_K (h₀:=X.base) I.ok.mod.kin hkp ?_ he rfl;rw[he];show wpAny _ _ (spliced [(false,eval (.Lambda params body scope lpos) X.env)]) _ _ s;refine Calls.spliced_cons (Df M hdef I (dA.raw hT) hfree λp c' pm ctv clos H1 s1 hc1 hc2 I1 B1 T1 hp hpn hps hco=>?_);refine Calls.spliced_nil ⟨I1.kIn,?_⟩;obtain⟨σl,eσ,ht,fin⟩:=h H1 (tR B1) (I1.tabV T1);have hpf:p∉iW X.stack:=λz=>by
  rcases Yh.mp (I.stkSub p z) with q|q
  .exact absurd (Yr I.lt (q▸hps)) (XA _)
  .exact I.nofs hps q
 have L:Kb X.prog X.w X.K X.mg X.base (kl+1) p C s1 H1 X.stack:=by
  refine IC (σl:=σl) (Nl:=Nl) hfn I1 hc1 hc2 hp hpn hpf hco hk hnc hsc (hbind clos pm c' ctv) (λj x v e1 e2=>?_) (by rw[eσ,Yb];exact hlen) (λA' outer' s' hr'=>hb p c' clos H1 A' outer' s' hr') ht
  obtain⟨a1,l,a2,a3⟩:=hNl j x e1;rw[eσ,Yj,a2] at e2;have e3:(σ[l]?).join=some v:=by
   have e4:some ((σ[l]?).join)=some (some v):=e2;exact Xb e4
  refine⟨a1,hfree _ (Y1 a1) rfl,l,a3,?_⟩;cases e5:σ[l]? with
  | none=>rw[e5] at e3;cases e3
  | some w=>rw[e5] at e3;cases w with
   | none=>cases e3
   | some w=>cases e3;rfl
 refine wpAny_call (codeAny_mono (run X.A X.stack s1 H1 p C i Q hr I1.env0 L Z hi fin) λr s' hq=>?_);cases r with
 | error e=>exact False.elim hq
 | ok fl =>
  cases fl with
  | ret u=>exact I1.after hq
  | next=>exact False.elim hq
  | brk=>exact False.elim hq
  | cont=>exact False.elim hq
def tY(G G':Hp):Prop:=∀b o,G b=some o->(∀ps,o ≠ .tbl ps)->G' b=some o
theorem tY.of{G G':Hp}(S:ay G G'):tY G G':=λb o e _=>S b o e
theorem tY.trans{G G1 G2:Hp}(a:tY G G1)(b:tY G1 G2):tY G G2:=λc o e n=>b c o (a c o e n) n
theorem tY.rfl{G:Hp}:tY G G:=λ_ _ e _=>e
theorem tY.but{G G':Hp}{P:Addr}{ps:Array Value}(h:G P=some (.tbl ps))(B:gF P G G'):tY G G':=λb o e n=>B b o (λz=>by rw[z,h] at e;cases e;exact n _ _root_.rfl) e
theorem dA.same{G G':Hp}{P:Addr}{qual:Str}(h:dA G P qual)(S:ay G G'):dA G' P qual:=by
 obtain⟨ps,h1,h2,h3⟩:=h;refine⟨ps,S _ _ h1,h2,λpos cv z=>?_⟩;obtain⟨c,e1,e2⟩:=h3 pos cv z;exact⟨c,e1,S _ _ e2⟩
theorem dA.start{G:Hp}{P:Addr}{qual:Str}(h:G P=some (.tbl #[])):dA G P qual:=⟨#[],h,trivial,λpos cv z=>by cases z⟩
theorem ky.smT{K:W.Frag}{H H':Hp}{a:Addr}{xs:List V}(h:ky K H a xs)(S:tY (vw K H) (vw K H')):ky K H' a xs:=by
 rcases h with ⟨hk,h⟩|h
 .refine .inl ⟨hk,?_⟩;rcases h with h|⟨o,h⟩
  .have:=S a _ (by rw[dD hk];exact h) (λ_ z=>by cases z)
   rw[dD hk] at this;exact .inl this
  .have:=S a _ (by rw[dD hk];exact h) (λ_ z=>by cases z)
   rw[dD hk] at this;exact .inr ⟨o,this⟩
 .exact .inr h
structure Li (K:W.Frag)(mg:Str->Option Value)(base:Heap)(fd:FuncData)(c P:Addr):Prop where
 code:fd.code=.ref c
 hd:PySem.W.CodeHd base c P
 bi:∃bm o,mg "__builtins__" = some (.ref bm)/\bm≠builtinsNs/\bm≠mainGlobals/\base.get? bm=some o/\o.cls=.type "module" /\ o.dict=some builtinsNs/\o.data=.plain
theorem t8{P:Program}{w:World}{K:W.Frag}{mg:Str->Option Value}{base:Heap}{N:List Str}{qual:Str}{scope:Scope}{f:Addr}{cdv:Value}{A:Around}{outer:List Env}{s:Shared}{H:Hp}{E:XK}{fd:FuncData}{c Pt:Addr}(h:fd.code=cdv)(k:Li K mg base fd c Pt) :
  yP ((gB fW P w K mg base N qual scope f cdv A outer s H E).nox) c Pt:=⟨h▸k.code,k.hd,k.bi⟩
structure Co (P:Program)(w:World)(K:W.Frag)(mg:Str->Option Value)(base:Heap)(x:Str)(ps:List Str)(k:Nat)(sp:Sp):Prop where
 ex:∃f fd,cj P w K mg base (nE P w) k f fd ps sp/\mg x=some (.ref f)/\PySem.W.keepIn K (.ref f)=true/\kW K fd ps []
structure QX (X:Cx)(e:Expr)(t:St->Hp->XK->Prop):Prop where
 h:PX X e t
def yu(sp:Sp)(t:TA):St->Hp->XK->Prop:=λσ H E=>t σ H λvs H1=>sp vs H1 (λ_ _=>False) E
theorem wj{X:Cx}{x:Str}{p pos:Pos}{e:Expr}{es:List Expr}{t:TA}{ps:List Str}{k:Nat}{sp:Sp}(C:Co X.prog X.w X.K X.mg X.base x ps k sp)(hr:dz k X.A)(hg:Gl X x)(ha:∀E,QA (X.wish E) (e::es) t)(hdb:(x==("__debug__" : Str))=false:=by decide)
  (he:starEach (e::es) X.env=(false,eval e X.env)::starEach es X.env:=by rfl)(hpl:(backTo pos (starEach es X.env)).any (·.1)=false:=by rfl) :
  QX X (.Call (.Name x p) (e::es) [] pos) (yu sp t):=⟨by
 obtain⟨f,fd,F,hm,hk,hb⟩:=C.ex;intro pins s σ H E I h;refine wpAny_Call_Name_kw (jY I hg hm ?_ hdb);have ha':=(ha λev s'=>∃s1 H1,aH X pins σ H1 s1/\nE X.prog X.w X.stack H1 s1 E ev s').h pos pins s σ H _ (I.wish _) h;refine PySem.W.callWith_K (h₀:=X.base) I.ok.mod.kin hk (dq ha' λus s1 ⟨vs,H1,I1,r,q⟩=>⟨I1.kIn,?_⟩) he hpl;have I1:=I1.unwish;have hl:us.length=ps.length:=by rw[<-r.length];exact F.len _ _ _ _ q
 have hb':=hb s1 us I1.kIn (by simpa using hl)
 rw[Xv] at hb';refine wpAny_call (codeAny_mono (F.run X.A X.stack s1 H1 ⟨us,[]⟩ us vs _ E hr I1.env0 hb' r q) λr s' hq=>?_);cases r with
 | error e=>exact⟨s1,H1,I1,hq⟩
 | ok fl =>
  cases fl with
  | ret u=>obtain⟨_,_,_,_,_,_,_,z⟩:=hq;exact z.elim
  | next=>exact False.elim hq
  | brk=>exact False.elim hq
  | cont=>exact False.elim hq⟩
section
variable {P:Program}{w:World}{K:W.Frag}{mg:Str->Option Value}{base:Heap}
theorem fY.okX{x qual:Str}{st:Stmt}{f:Addr}{fd:FuncData}{N ps:List Str}{k:Nat}{sp:Sp}(F:fY K x qual st f fd)(S:aD N ps (ah st))(len:∀vs H Q E,sp vs H Q E->vs.length=ps.length)
  (hbody:∀(cdv:Value)(A:Around)(outer:List Env)(s:Shared)(H:Hp)(vs:List V)(Q:VK)(E:XK),dz k (A.deeper (envOfC qual (ah st) s.heap.objs.size f cdv))->sp vs H Q E ->
   ∃t,vA (gB (nE P w) P w K mg base N qual (ah st) f cdv A outer s H E) (aA st) t/\t { nx:=λ_ H'=>Q .non H',rt:=Q } (start N vs) H):cj P w K mg base (nE P w) (k+1) f fd ps sp:=by
 obtain⟨oc,od,kV,doc,pm,an,cdv,ct,osl,rfl,lk,hcd⟩:=F.ex;refine AC lk hcd S len λA outer s H vs Q E hr hsp=>?_;obtain⟨t,h,q⟩:=hbody cdv A outer s H vs Q E hr hsp;exact⟨t,h.h,q⟩
theorem CQ{N:List Str}{qual:Str}{scope:Scope}{f:Addr}{cd:Value}{A:Around}{outer:List Env}{s₀:Shared}{H₀:Hp}{E:XK}{C:Addr}{x:Str}{np cpos pos:Pos}{e:Expr}{es:List Expr}{t:TA}(z:u8 K C)(hg:Gl (gB (nE P w) P w K mg base N qual scope f cd A outer s₀ H₀ E) x)(hm:mg x=some (.ref C))
  (ha:QA (gB (nE P w) P w K mg base N qual scope f cd A outer s₀ H₀ E) (e::es) t)(hdb:(x==("__debug__" : Str))=false:=by decide)
  (he:starEach (e::es) (envOfC qual scope s₀.heap.objs.size f cd)=(false,eval e (envOfC qual scope s₀.heap.objs.size f cd))::starEach es (envOfC qual scope s₀.heap.objs.size f cd):=by rfl)(hpl:(backTo cpos (starEach es (envOfC qual scope s₀.heap.objs.size f cd))).any (·.1)=false:=by rfl) :
  QS (gB (nE P w) P w K mg base N qual scope f cd A outer s₀ H₀ E) (.Raise (some (.Call (.Name x np) (e::es) [] cpos)) none pos) (wD E C t):=⟨BA z hg hm ha.h hdb he hpl⟩
end
section
variable {X:Cx}
theorem HE{e:Expr}{cls n:Str}{b0:Stmt}{suite:List Stmt}{p1 np hp pos:Pos}{C0:Addr}{i:Nat}{tb:St->Hp->XK->Prop}{ts:TS}(hx0:X.ex=[])(hs:X.stack=X.env::X.outer)(hfr:X.env.frame=some X.env.locals)
  (hb:PX X e tb)(hN:X.N.Nodup)(hi:X.N[i]? = some n)(hloc:X.env.scope.names.lookup n=some .local)(hg:Gl X cls)(hm:X.mg cls=some (.ref C0))(hsu:∀v,vA (X.marked v) (b0::suite) ts)
  (hdb:(cls==("__debug__" : Str))=false:=by decide) (hsw:swapsWith e none p1.line X.env=pure false:=by rfl) :
  QS X (.Try [.Expr e p1] [.ExceptHandler (some (.Name cls np)) (some n) (b0::suite) hp] [] [] pos) (IT X.K C0 i tb ts):=⟨Iz hx0 hs hfr hb hN hi hloc hg hm (λv=>(hsu v).h) hdb hsw⟩
theorem xb{params:Arguments}{body:Expr}{scope:Scope}{c P C:Addr}{kl i:Nat}{p1 lpos pos:Pos}{Nl:List Str}{ixs:List Nat}{tl:St->Hp->XK->Prop}
  (R:yS X.prog X.w X.K X.mg X.base (kl+1))(M:yP X c P)(hr:dz (kl+2) X.A)(hg:Gl X "_law_refused") (Z:Ae X.K X.mg C i)(hi:i<9)(hfn:∀x,X.fn x=true)(hdef:defaultsOf params X.env=([],[]))
  (hfree:∀q∈scope.names,q.2=.free->X.env.kindOf q.1=some .cell)(hk:scope.kind=.function)(hnc:∀q∈scope.names,q.2 ≠ .cell)(hsc:scope.isCoroutine=false/\scope.isGenerator=false)
  (hbind:∀clos pm c' ctv,bindArgs (PySem.W.kla_fn "<lambda>" (kK X) params body scope clos pm (.ref c') ctv) ⟨[],[]⟩=pure []) (hlen:ixs.length=Nl.length)(hNl:∀(j:Nat)(x:Str),Nl[j]? = some x->scope.names.lookup x=some .free /\ ∃l,ixs[j]? = some l/\X.N[l]? = some x)
  (hb:∀(p c':Addr)(clos:List (Str×Addr))(H1:Hp)(A':Around)(outer':List Env)(s':Shared),dz kl (A'.deeper (PySem.W.envX (kK X) scope s'.heap.objs.size p (.ref c') clos))->QX (qQ X.prog X.w X.K X.mg X.base Nl (kK X) scope p (.ref c') clos A' outer' s' H1) body tl)
  (he:starEach [Expr.Lambda params body scope lpos] X.env=[(false,eval (.Lambda params body scope lpos) X.env)]:=by rfl) :
  QE X (.Call (.Name "_law_refused" p1) [.Lambda params body scope lpos] [] pos) (xE X.K P (kK X) ixs C i tl) :=
 ⟨Fu R M hr hg Z hi hfn hdef hfree hk hnc hsc hbind hlen hNl (λp c' clos H1 A' outer' s' hr'=>(hb p c' clos H1 A' outer' s' hr').h) he⟩
end
def vX(mg:Str->Option Value)(base:Heap):Prop:=∃bm o,mg "__builtins__" = some (.ref bm)/\bm≠builtinsNs/\bm≠mainGlobals/\base.get? bm=some o/\o.cls=.type "module" /\ o.dict=some builtinsNs/\o.data=.plain
def JW(ts:List (Addr×Addr))(H:Hp):Prop:=∀b,H b=none\/(∃o xs,H b=some (.frz o (.lst xs)))\/(H b=some (.tbl #[]) /\ ∃q∈ts,q.2=b)
theorem zO{P:Program}{w:World}{K:W.Frag}{mg mb:Str->Option Value}{CX:vP}{k:Nat}{fa a:Addr}{fd:FuncData}{x:Str}{sp:Sp}{s₁:Shared}{vs:List Value}{ns:List Int}{ts:List (Addr×Addr)}
  (KX:K.In s₁.heap)(hns:s₁.heap.Ns mainGlobals mg)(hb:s₁.heap.Ns builtinsNs mb)(hbb:∀x:Str,x ≠ "__name__" -> mb x=bootBuiltins x) (hlim:s₁.heap.NoLimit)(hg:s₁.gens = #[])
  (ha:s₁.heap.get? a=some { cls:=.type "list",data:=.seq vs.toArray }) (hi:IntsAre vs ns)(hl:ns.length<=sizeLine)(hr:dz k callerA)(hT:∀q∈ts,PySem.W.codeHdIn K q.1 q.2=true/\K.lookup q.2=none/\s₁.heap.get? q.2=some (PySem.W.tabObj #[]))
  (hB:vX mg s₁.heap)(hSr:s₁.heap.NoSeer)(F:∀base:Heap,K.In base->base.Ns mainGlobals mg->vX mg base->base.NoSeer->cj P w K mg base CX k fa fd [x] sp)(hbind:∀(s:Shared)(u:Value),BindsTo s fd ⟨[u],[]⟩ [(x,u)])
  (hsp:∀H:Hp,(∀q∈ts,vw K H q.2=some (.tbl #[]))->(H a≠none->K.lookup a=none)->jz K H a (ns.map V.int)->sp [.ref a] H (λv _=>v=.bl true) λ_ _ _=>False)
  (hCX:∀H e s',CX [] H s₁ (λ_ _ _=>False) e s'->False) :
  codeAny (model P w) callerA (.call (.ref fa) ⟨[.ref a],[]⟩) (λr s'=>r=.ok (.ret (.bool true))/\OldK s₁.heap s'.heap/\s'.os=s₁.os/\AllBare s'.gens) s₁:=by
 have rv:=rA hi;have lenV:=hi.length;have na:∀q∈ts,q.2≠a:=λq hq z=>by
  have:=(hT q hq).2.2;rw[z,ha] at this;cases this
 have core:∀H:Hp,JW ts H->(∀q∈ts,H q.2=some (.tbl #[]))->jz K H a (ns.map V.int)->j9 P w H s₁.heap->(∀b,H b≠none->b=a \/ ∃q∈ts,q.2=b)->(H a≠none->K.lookup a=none) ->
   codeAny (model P w) callerA (.call (.ref fa) ⟨[.ref a],[]⟩) (λr s'=>r=.ok (.ret (.bool true))/\OldK s₁.heap s'.heap/\s'.os=s₁.os/\AllBare s'.gens) s₁:=by
  intro H hO hTT hS hok hA hK;have base_of:∀{b:Addr}{o:Obj},s₁.heap.get? b=some o->H b=none->(pB s₁.heap H).get? b=some o:=λe n=>Cu e n;have noA:∀{b:Addr}{o:Obj}{es:Array DictEntry}{ep:Nat},s₁.heap.get? b=some o->o.data=.dict es ep->H b=none:=λ{b o es ep} e d=>by
   cases q:H b with
   | none=>rfl
   | some u =>
    rcases hA b (by rw[q];simp) with e'|⟨y,hy,e'⟩
    .subst e';rw[ha] at e;cases e;have d':Data.seq vs.toArray _=Data.dict es ep:=d;cases d'
    .subst e';rw[(hT y hy).2.2] at e;cases e;have d':Data.fields (#[]:Array Value)=Data.dict es ep:=d;cases d'
  have nsK:∀{b:Addr}{m:Str->Option Value},s₁.heap.Ns b m->(pB s₁.heap H).Ns b m:=λ{b m} ⟨o,es,ep,e,d,r⟩=>⟨o,es,ep,base_of e (noA e d),d,r⟩;have hKb:K.In (pB s₁.heap H):=λb o e=>base_of (KX b o e) (by
   cases q:H b with
   | none=>rfl
   | some u =>
    rcases hA b (by rw[q];simp) with e'|⟨y,hy,e'⟩
    .subst e';rw[hK (by rw[q];simp)] at e;cases e
    .subst e';rw[(hT y hy).2.1] at e;cases e)
  have hM:Mod K mg (pB s₁.heap H):=⟨hKb,nsK hns,⟨mb,nsK hb,hbb⟩,let ⟨mc,h1,h2⟩:=hlim;⟨mc,nsK h1,h2⟩⟩;have e0:qq P w K mg (pB s₁.heap H) callerA [] s₁ H:=⟨rfl,hM,λb o e=>Fe e,Nat.le_of_eq (zT _ _),trivial,λb hb=>absurd (show b∈([]:List Addr) from hb) (by simp),hok,.of_eq hg⟩
  have hBb:vX mg (pB s₁.heap H):=by
   obtain⟨bm,ob,b1,b2,b3,b4,b5,b6,b7⟩:=hB;refine⟨bm,ob,b1,b2,b3,base_of b4 ?_,b5,b6,b7⟩;cases q:H bm with
   | none=>rfl
   | some u =>
    rcases hA bm (by rw[q];simp) with e'|⟨y,hy,e'⟩
    .rw[e',ha] at b4;cases b4;simp at b5
    .rw[<-e',(hT y hy).2.2] at b4;cases b4;cases b5
  have hSb:(pB s₁.heap H).NoSeer:=by
   refine⟨let ⟨mc,a,b⟩:=hSr.statics;⟨mc,nsK a,b⟩,let ⟨mm,a,b⟩:=hSr.mods;⟨mm,nsK a,b⟩,let ⟨mb,a,b⟩:=hSr.imp;⟨mb,nsK a,b⟩,?_⟩;obtain⟨mg',bm,ob,b1,b2,b4,b5,b6⟩:=hSr.main;refine⟨mg',bm,ob,nsK b1,b2,base_of b4 ?_,b5,b6⟩;cases q:H bm with
   | none=>rfl
   | some u =>
    rcases hA bm (by rw[q];simp) with e'|⟨y,hy,e'⟩
    .rw[e',ha] at b4;cases b4;simp at b5
    .rw[<-e',(hT y hy).2.2] at b4;cases b4;cases b5
  refine codeAny_mono ((F _ hKb (nsK hns) hBb hSb).run callerA [] s₁ H ⟨[.ref a],[]⟩ [.ref a] [.ref a] _ _ hr e0 (hbind s₁ (.ref a)) (.cons rfl .nil) (hsp H (λq hq=>(dD (hT q hq).2.1).trans (hTT q hq)) hK hS)) λr s' h=>?_;cases r with
  | error e=>exact (hCX H e s' h).elim
  | ok fl =>
   cases fl with
   | next=>exact False.elim h
   | brk=>exact False.elim h
   | cont=>exact False.elim h
   | ret u =>
    obtain⟨v,H',os,bare,un,hok',r',q⟩:=h;have q':v=.bl true:=q;subst q';obtain rfl:u=Value.bool true:=r';have key:∀b o,s₁.heap.get? b=some o->s'.heap.get? b=some o\/((∃y∈ts,y.2=b)/\o=PySem.W.tabObj #[] /\ ∃more,s'.heap.get? b=some (PySem.W.tabObj more)):=λb o e=>by
     cases q:H b with
     | none=>exact .inl (un.keep b o e q (by intro z;exact absurd (show b∈([]:List Addr) from z) (by simp)) (by simp))
     | some u =>
      rcases hO b with z|⟨ob,xs,z⟩|⟨z,y,hy,e'⟩
      .rw[q] at z;cases z
      .have z2:=un.frzs b ob _ z;obtain⟨e1,_⟩:=hok b _ z;obtain⟨e2,_⟩:=hok' b _ z2;rw[e] at e1;cases e1;exact .inl e2
      .obtain⟨more,z2⟩:=un.tbls b #[] z;have e1:s₁.heap.get? b=some (PySem.W.tabObj #[]):=hok b _ z;have e2:s'.heap.get? b=some (PySem.W.tabObj (#[]++more)):=hok' b _ z2;rw[e] at e1;cases e1;exact .inr ⟨⟨y,hy,e'⟩,rfl,_,e2⟩
    refine⟨rfl,⟨λb o e=>?_,λb o e=>?_⟩,os,bare⟩
    .rcases key b o e with z|⟨⟨y,hy,e'⟩,z1,more,z2⟩
     .exact .inl z
     .subst z1 e';have cd:=PySem.W.codeHd_of_K KX (hT y hy).1;exact .inr (.inl ⟨(cd.tab (hT y hy).2.2).isCodeTable,rfl,#[],more,rfl,by rw[z2];simp⟩)
    .rcases key b o e with z|⟨_,_,more,z2⟩
     .exact⟨o,z⟩
     .exact⟨_,z2⟩
 have dec:∀b,Decidable (∃q∈ts,q.2=b):=λb=>Classical.propDecidable _;have tabH:∀q∈ts,cO P w (λ_=>none) s₁.heap q.2 (.tbl #[]):=λq hq=>(hT q hq).2.2;cases hk:K.lookup a with
 | some o =>
  have e:=KX a o hk;rw[ha] at e;cases e;refine core (λb=>@ite _ (∃q∈ts,q.2=b) (dec b) (some (.tbl #[])) none) (λb=>?_) (λq hq=>Yg ⟨q,hq,rfl⟩) (.inr ⟨_,vs.toArray,_,hk,rfl,rfl,rfl,by rw[Yu,lenV];exact hl,by simpa using rv⟩) (λb u z=>?_) (λb z=>?_) λz=>?_
  .by_cases hb:∃q∈ts,q.2=b
   .exact .inr (.inr ⟨Yg hb,hb⟩)
   .exact .inl (Yc hb)
  .by_cases hb:∃q∈ts,q.2=b
   .have z':=(Yg hb).symm.trans z;cases z';obtain⟨q,hq,rfl⟩:=hb;exact (hT q hq).2.2
   .have z':=(Yc hb).symm.trans z;cases z'
  .by_cases hb:∃q∈ts,q.2=b
   .exact .inr hb
   .exact absurd (Yc hb) z
  .have:¬ ∃q∈ts,q.2=a:=λ⟨q,hq,e⟩=>na q hq e;exact absurd (Yc this) z
 | none =>
  have ia:¬ ∃q∈ts,q.2=a:=λ⟨q,hq,e⟩=>na q hq e;refine core (λb=>if b=a then some (.frz { cls:=.type "list",data:=.seq vs.toArray } (.lst (ns.map V.int))) else @ite _ (∃q∈ts,q.2=b) (dec b) (some (.tbl #[])) none) (λb=>?_) (λq hq=>?_) (.inl (.inr ⟨{ cls:=.type "list",data:=.seq vs.toArray },Yg rfl⟩)) (λb u z=>?_) (λb z=>?_) λ_=>hk
  .by_cases hb:b=a
   .exact .inr (.inl ⟨_,_,Yg hb⟩)
   .by_cases hb2:∃q∈ts,q.2=b
    .exact .inr (.inr ⟨(Yc hb).trans (Yg hb2),hb2⟩)
    .exact .inl ((Yc hb).trans (Yc hb2))
  .exact (Yc (na q hq)).trans (Yg ⟨q,hq,rfl⟩)
  .by_cases hb:b=a
   .have z':=(Yg hb).symm.trans z;cases z';subst hb;exact⟨ha,by rw[Yb];exact hl,vs,_,rv,ha⟩
   .by_cases hb2:∃q∈ts,q.2=b
    .have z':=((Yc hb).trans (Yg hb2)).symm.trans z;cases z';obtain⟨q,hq,rfl⟩:=hb2;exact (hT q hq).2.2
    .have z':=((Yc hb).trans (Yc hb2)).symm.trans z;cases z'
  .by_cases hb:b=a
   .exact .inl hb
   .by_cases hb2:∃q∈ts,q.2=b
    .exact .inr hb2
    .exact absurd ((Yc hb).trans (Yc hb2)) z
theorem walk_ofM{l:PySem.W.OpenLaw}{n k:Nat}{q:Program}{loose:List Str}{XP:(Str->Option Value)->Heap->Prop}{YP:World->Heap->Prop}{d:DefRec}{K:Params->W.Frag}{CX:World->vP}{sp:World->Sp}{x:Str}(ts:World->List (Addr×Addr))
  (hn:l.most=some n)(hn2:n<=sizeLine)(hdf:d.params.defaults=[])(hr:dz k callerA)(hi:importsNone q=true)
  (hY:∀(w:World)(h:Heap),YP w h->(K w.params).In h /\ ∀q∈ts w,PySem.W.codeHdIn (K w.params) q.1 q.2=true/\(K w.params).lookup q.2=none/\h.get? q.2=some (PySem.W.tabObj #[]))
  (F:∀(w:World)(mg:Str->Option Value)(fa:Addr)(h:Heap),(K w.params).In h->h.Ns mainGlobals mg->mg d.name=some (.ref fa) ->
   ∃fd:FuncData,(∀(s:Shared)(u:Value),BindsTo s fd ⟨[u],[]⟩ [(x,u)]) /\
    ∀base:Heap,(K w.params).In base->base.Ns mainGlobals mg->vX mg base->base.NoSeer->cj l.prog w (K w.params) mg base (CX w) k fa fd [x] (sp w))
  (hsp:∀(w:World)(H:Hp)(a:Addr)(ns:List Int),ns.length<=n->(∀q∈ts w,vw (K w.params) H q.2=some (.tbl #[]))->(H a≠none->(K w.params).lookup a=none)->jz (K w.params) H a (ns.map V.int)->sp w [.ref a] H (λv _=>v=.bl true) λ_ _ _=>False)
  (hCX:∀(w:World)(H:Hp)(s:Shared)(e:Value)(s':Shared),CX w [] H s (λ_ _ _=>False) e s'->False) :
  PySem.W.WalkO q loose XP YP l.row.toRowW d [] (λf vs=>PySem.call f vs):=by
 refine Att.attach_call hn hdf λw s₀ s₁ mg mb fa o pm cd doc a vs ns G Y ho hd hcd hmg hobj hints hlen hg=>?_;obtain⟨KX,hT⟩:=hY w _ Y;obtain⟨fd,hb,hF⟩:=F w mg fa _ KX G.T.g hmg;have hB:vX mg s₁.heap:=by
  obtain⟨bm,ob,b1,b2,b3,b4,b5,b6⟩:=G.T.bmain;refine⟨bm,ob,b1,b2,λz=>?_,b3,b4,b5,b6⟩;obtain⟨o,es,ep,e,hd',_⟩:=G.T.g;rw[z,e] at b3;cases b3;rw[hd'] at b6;cases b6
 exact zO KX G.T.g G.T.b G.T.builtins G.T.nolimit hg hobj hints (YB hlen hn2) hr hT hB (G.T.seer hi) hF hb (λH hTT hK hS=>hsp w H a ns hlen hTT hK hS) λH e s'=>hCX w H s₁ e s'
section
variable {P:Program}{w:World}{K:W.Frag}{mg:Str->Option Value}{base:Heap}
theorem fY.okM{x qual:Str}{st:Stmt}{f:Addr}{fd:FuncData}{N ps:List Str}{k:Nat}{sp:Sp}(F:fY K x qual st f fd)(S:aD N ps (ah st))(len:∀vs H Q E,sp vs H Q E->vs.length=ps.length)
  (hbody:∀(cdv:Value)(A:Around)(outer:List Env)(s:Shared)(H:Hp)(vs:List V)(Q:VK)(E:XK),fd.code=cdv->dz k (A.deeper (envOfC qual (ah st) s.heap.objs.size f cdv))->sp vs H Q E ->
   ∃t,vA (gB fW P w K mg base N qual (ah st) f cdv A outer s H E).nox (aA st) t/\t { nx:=λ_ H'=>Q .non H',rt:=Q } (start N vs) H):cj P w K mg base fW (k+1) f fd ps sp:=by
 obtain⟨oc,od,kV,doc,pm,an,cdv,ct,osl,rfl,lk,hcd⟩:=F.ex;refine AC lk hcd S len λA outer s H vs Q E hr hsp=>?_;obtain⟨t,h,q⟩:=hbody cdv A outer s H vs Q E rfl hr hsp;exact⟨t,h.h.nox,q⟩
theorem fY.runQ{x qual:Str}{st:Stmt}{f:Addr}{fd:FuncData}{N ps:List Str}{k:Nat}{A:Around}{outer:List Env}{s:Shared}{H:Hp}{us:List Value}{vs:List V}{Q:VK}{E:XK}(F:fY K x qual st f fd)(S:aD N ps (ah st))(hr:dz (k+1) A)(e0:qq P w K mg base A outer s H)
  (hb:kW K fd ps [])(r:aX vs us)(hl:vs.length=ps.length)
  (hbody:∀cdv,dz k (A.deeper (envOfC qual (ah st) s.heap.objs.size f cdv)) -> ∃t,vA (gB fW P w K mg base N qual (ah st) f cdv A outer s H E).nox (aA st) t/\t { nx:=λ_ H'=>Q .non H',rt:=Q } (start N vs) H) :
  codeAny (model P w) A (.call (.ref f) ⟨us,[]⟩) (CR fW outer P w H s Q E) s:=by
 obtain⟨oc,od,kV,doc,pm,an,cdv,ct,osl,rfl,lk,hcd⟩:=F.ex;have KX:K.In s.heap:=e0.mod.kin.keeps λb o e=>(e0.bs b o e).1;have hb':=hb s us KX (by rw[Xv,<-r.length];exact hl)
 rw[Xv] at hb';refine HB lk hcd S hr e0 hb' r hl λhr'=>?_;obtain⟨t,h,q⟩:=hbody cdv hr';exact⟨t,h.h.nox,q⟩
end
theorem xg{X:Cx}{scope sc:Scope}(h:X.env.scope=sc)(z:scope.names.all (λq=>q.2 != .free || sc.names.lookup q.1==some .cell)=true):∀q∈scope.names,q.2=.free->X.env.kindOf q.1=some .cell:=λq hq hf=>by
 have h2:=List.all_eq_true.mp z q hq;rw[Bool.or_eq_true] at h2;rcases h2 with h2|h2
 .rw[hf] at h2;cases h2
 .show X.env.scope.names.lookup q.1=_;rw[h];exact beq_iff_eq.mp h2
theorem qN{scope:Scope}(z:scope.names.all (λq=>q.2 != .cell)=true):∀q∈scope.names,q.2 ≠ .cell:=λq hq e=>by
 have h2:=List.all_eq_true.mp z q hq;rw[e] at h2;cases h2
theorem qo:bootBuiltins "ValueError" = some (.type "ValueError"):=by decide +kernel
def Em(K:W.Frag)(ta:TE):TT:=λσ H Q=>ta σ H λx H'=>∃k,wA K x H' k/\Q k H'
abbrev C9 (n:Str):Str:=n ++ ".<locals>." ++ "<lambda>"
theorem iX(i:Int):(D.lst [.int i]).cmp:=by
 unfold D.cmp D.py D.pys D.pys D.py;exact⟨rfl,Nat.le_of_ble_eq_true rfl⟩
theorem dA.butL{G G':Hp}{P l:Addr}{qual:Str}{xs:List V}(h:dA G P qual)(hl:G l=some (.lst xs))(B:gF l G G'):dA G' P qual:=by
 obtain⟨ps,h1,h2,h3⟩:=h;refine⟨ps,B _ _ (λz=>by rw[z,hl] at h1;cases h1) h1,h2,λpos cv z=>?_⟩
 obtain⟨c,e1,e2⟩:=h3 pos cv z;exact⟨c,e1,B _ _ (λz=>by rw[z,hl] at e2;cases e2) e2⟩
theorem dA.smT{G G':Hp}{P:Addr}{qual:Str}(h:dA G P qual)(B:gF P G G')(T:dA G' P qual):tY G G':=by
 obtain⟨ps,h1,_⟩:=h;exact tY.but h1 B
section
variable {P:Program}{w:World}{K:W.Frag}{mg:Str->Option Value}{base:Heap}
def Gb(E:XK)(t:St->Hp->XK->Prop):TS:=λ_ σ H=>t σ H E
end
def cF(f g:Nat->Rat):Nat->Rat
 | 0=>0
 | n+1=>cF f g n+f n*g n
theorem mX{f g f' g':Nat->Rat}:∀n,(∀i,i<n->f i=f' i)->(∀i,i<n->g i=g' i)->cF f g n=cF f' g' n
 | 0,_,_=>rfl
 | n+1,h1,h2=>by
  show cF f g n+f n*g n=cF f' g' n+f' n*g' n;rw[mX n (λi hi=>h1 i ()) (λi hi=>h2 i ()),h1 n (),h2 n ()]
def Sx(b:Nat)(q:Int×Int):Prop:=∃n:Int,wv q=(n:Rat)/6/\n.natAbs<=b
theorem Sx.lo{a z:Int}{b:Nat}(h0:0<=z)(h3:z<3)(ha:6*a.natAbs<=b):Sx b (lo a (1+z)):=by
 have hz:1+z≠0:=();have c1:((1:Int):Rat)=1:=rfl;have c2:((2:Int):Rat)=2:=rfl;have c3:((3:Int):Rat)=3:=rfl;have c6:((6:Int):Rat)=6:=rfl;rcases (show z=0\/z=1\/z=2 by nofun) with rfl|rfl|rfl
 .refine⟨6*a,?_,()⟩;rw[pA hz,show (1:Int)+0=1 from rfl,Yi,c1,c6]
  grind
 .refine⟨3*a,?_,()⟩;rw[pA hz,show (1:Int)+1=2 from rfl,Yi,c2,c3]
  grind
 .refine⟨2*a,?_,()⟩;rw[pA hz,show (1:Int)+2=3 from rfl,Yi,c2,c3]
  grind
theorem aT.gen{t u:TS}{D:oB}{σ:St}{H:Hp}(h:∀N:St->Hp->Prop,(∀σ' H',u D σ' H'->N σ' H')->t { D with nx:=N } σ H):aT t u D σ H:=h (u D) λ_ _ z=>z
theorem lH(a b:Int):Builtin.Range.rangeSize a b (-1)=if b<a then a-b else 0:=by
 unfold Builtin.Range.rangeSize;simp only[show ¬ ((-1:Int) > 0) by decide,if_false,Int.neg_neg,Int.ediv_one]
 split<;>(try split)<;>nofun
theorem Am{a b:Int}(ha : -(2^61)<=a)(ha':a<2^61)(hb : -(2^61)<=b)(hb':b<2^61):Builtin.Range.small a b (-1)=true:=by
 unfold Builtin.Range.small;rw[lH];simp only[Builtin.Range.rangeFitsLong,Xl,Bool.or_eq_true,decide_eq_true_eq,beq_iff_eq,show ¬ ((-1:Int) > 0) by decide,if_false]
 split<;>nofun
def K5(lo:Int)(n:Nat):It:=⟨λi _=>i<n,λi H x H'=>H'=H/\x=.int (lo-i),λi _=>n<=i⟩
theorem EY{P:Program}{w:World}{K:W.Frag}{tg:Expr}(it:Addr)(lo:Int)(n:Nat):yZ P w K tg (K5 lo n) [it] it (λj hp=>IsRangeIter hp it (lo+(j:Nat)*(-1)) ((n:Int)-(j:Nat)) (-1)) where
 mem:=Yk.mpr rfl
 obj:=λj hp st b hb=>by
  cases Yk.mp hb;refine⟨_,st,λv z=>?_⟩;exact Data.noConfusion (show Data.fields _=Data.cell v from z)
 keep:=λ_ _ _ st k=>k it (Yk.mpr rfl) _ st
 item:=by
  intro Y hP hw hK hc j pins s σ H E J hf st hg;subst hP hw hK;obtain⟨g0,g1,g2,g3,g4,g5⟩:=hf it (Yk.mpr rfl);refine (Walks.range (prog:=Y.prog) (w:=Y.w) (J.ok.hd hc) it lo (-1) n).item j s _ _ hg st λv hp tk hv st1 kk=>?_;obtain⟨t,rfl⟩:=hv;have J1:aH Y pins σ H { s with heap:=hp,toks:=tk }:=J.turned (λb o hb e=>kk b o (λz=>hb (Yk.mp z)) e) g0 g1 g3 g4 g5
  refine⟨_,rfl,wZ (s:={ s with heap:=hp,toks:=tk }) (n:="range_iterator") st1 rfl rfl ∅ ⟨.int (lo-j),H,J1,⟨t,?_⟩,⟨rfl,rfl⟩,st1,λb hb=>(hf b hb).1⟩⟩
  rw[show lo+(j:Nat)*(-1)=lo-(j:Int) by nofun]
 done:=by
  intro Y hP hw hK hc j pins s σ H E J hf st hg;subst hP hw hK;obtain⟨g0,g1,g2,g3,g4,g5⟩:=hf it (Yk.mpr rfl);have hj:n<=j:=hg;exact wpAny_pyNext_range_end (J.ok.hd hc) st () λhp eb=>⟨rfl,J.turned (t':=s.toks) (λb o hb e=>eb b o hb e) g0 g1 g3 g4 g5⟩
 self:=λ_ _ _ _ _ st h=>wpAny_pyIter_rangeiter st h
section
variable {X:Cx}{tg:Expr}
def CP(ta:TA):TI:=λσ H R=>ta σ H λvs H1=>∃i j:Int,vs=[.int i,.int j,.int (-1)]/\(-(2^61)<=i/\i<2^61 /\ -(2^61)<=j/\j<2^61)/\R (K5 i (i-j).toNat) H1
theorem yU{a b c:Expr}{ta:TA}{p pos:Pos}(hg:Gl X "range") (hm:X.mg "range" = none) (ha:PA X [a,b,c] ta)(hs:starEach [a,b,c] X.env=[(false,eval a X.env),(false,eval b X.env),(false,eval c X.env)]:=by rfl)
  (hs2:starEach [b,c] X.env=[(false,eval b X.env),(false,eval c X.env)]:=by rfl):PI X tg (.Call (.Name "range" p) [a,b,c] [] pos) (CP ta):=by
 intro pins s σ H R I h;refine Call_ (jB I hg hm boot_range (Xn (dq (ha pos pins s σ H _ I h) λus s1 ⟨vs,H1,I1,r1,q1⟩=>?_) (by rw[hs,hs2]) (by rw[hs2];rfl)))
 obtain⟨i,j,e,⟨q1,q2,q3,q4⟩,q⟩:=q1;subst e;cases r1 with
 | cons ri rr =>
  cases rr with
  | cons rj rr =>
   cases rr with
   | cons rk rr =>
    cases rr;obtain⟨t1,rfl⟩:=ri;obtain⟨t2,rfl⟩:=rj;obtain⟨t3,rfl⟩:=rk;refine call_range_3 ∅ ?_ (.inl (PyProof.noPylong_of_log2 (by decide +kernel)))
    refine wpAny_pyIter_range (IsRange.new ..) (Am q1 q2 q3 q4) ?_;have J:aH X pins σ H1 { s1 with heap:=s1.heap.push { cls:=.type "range",data:=.fields #[.int i t1,.int j t2,.int (-1) t3] },toks:=s1.toks }:=I1.kept λb o e=>Heap.get?_push_of_some _ e
    obtain⟨a1,ha1⟩ : ∃a1,a1=(s1.heap.push { cls:=.type "range",data:=.fields #[.int i t1,.int j t2,.int (-1) t3] }).objs.size:=⟨_,rfl⟩;refine⟨_,[_],_,_,H1,rfl,J.kept (t':=s1.toks) λb o e=>Heap.get?_push_of_some _ e,EY _ i (i-j).toNat,?_,λb hb=>?_,q⟩
    .have e1:i+((0:Nat):Int)*(-1)=i:=by simp
     have e2:(((i-j).toNat:Nat):Int)-((0:Nat):Int)=Builtin.Range.rangeSize i j (-1):=by rw[lH];split<;>nofun
     show IsRangeIter _ _ (i+((0:Nat):Int)*(-1)) ((((i-j).toNat:Nat):Int)-((0:Nat):Int)) (-1);rw[e1,e2];exact Heap.get?_push_size _ rfl
    .cases Yk.mp hb;exact J.fpOk (Yn _) (J.hok.fresh (Yn _))
theorem zC{a b c:Expr}{ta:TA}{p pos:Pos}(hg:Gl X "range") (hm:X.mg "range" = none) (ha:QA X [a,b,c] ta)(hs:starEach [a,b,c] X.env=[(false,eval a X.env),(false,eval b X.env),(false,eval c X.env)]:=by rfl)
  (hs2:starEach [b,c] X.env=[(false,eval b X.env),(false,eval c X.env)]:=by rfl):QI X tg (.Call (.Name "range" p) [a,b,c] [] pos) (CP ta):=⟨yU hg hm ha.h hs hs2⟩
end
def Ah(lo:Int)(n:Nat):List V:=(List.range n).map λ(k:Nat)=>V.int (lo-k)
theorem DB{lo:Int}{n:Nat}:(Ah lo n).length=n:=by simp[Ah]
theorem Ig{lo:Int}{n i:Nat}{x:V}(h:(Ah lo n)[i]? = some x):i<n/\x=.int (lo-i):=by
 have hi:i<n:=by
  have:=(Ys.mp h).1;simpa [Ah] using this
 refine⟨hi,?_⟩;simp[Ah,hi] at h;exact h.symm
theorem BZ{lo:Int}{n:Nat}{H:Hp}:oK (K5 lo n) H (Ah lo n):=by
 refine⟨λi hi=>by show i<n;simpa [Ah] using hi,λi x H' hi y=>⟨y.1,?_⟩,by show n<=(Ah lo n).length;simp[Ah]⟩
 have hi':i<n:=by simpa [Ah] using hi
 obtain⟨_,rfl⟩:=y;simp[Ah,hi']
theorem nu{f g:Nat->Rat}{d i:Nat}(hg:∀j,d<j->g j=0)(hf:∀j,i<j->f j=0):∀n,pr f g n (i+d)=if i<n then f i*g d else 0
 | 0=>by simp[pr]
 | n+1=>by
  have ih:=nu hg hf n;show pr f g n (i+d)+(if n<=i+d then f n*g (i+d-n) else 0)=_
  rw[ih];rcases Nat.lt_trichotomy i n with h|h|h
  .rw[hf n h,Yg h,Yg (show i<n+1 by nofun)]
   split<;>grind
  .subst h;rw[Yc (),Yg (),Yg (),show i+d-i=d by nofun]
   grind
  .rw[Yc (),Yg (),Yc (),hg _ ()];grind
theorem vY{f f' g:Nat->Rat}:∀n k,pr (λi=>f i-f' i) g n k=pr f g n k-pr f' g n k
 | 0,_=>by
  show (0:Rat)=0-0;grind
 | n+1,k=>by
  show pr _ g n k+(if n<=k then (f n-f' n)*g (k-n) else 0)=(pr f g n k+if n<=k then f n*g (k-n) else 0)-(pr f' g n k+if n<=k then f' n*g (k-n) else 0)
  rw[vY n k];split<;>grind
theorem kR{f g:Nat->Rat}{n:Nat}(hf:∀i,n<=i->f i=0):∀m k,pr f g (n+m) k=pr f g n k
 | 0,_=>rfl
 | m+1,k=>by
  show pr f g (n+m) k+(if n+m<=k then f (n+m)*g (k-(n+m)) else 0)=_
  rw[kR hf m k,hf (n+m) ()];split<;>grind
theorem Cd{e g r:Nat->Rat}{n d:Nat}(he:∀i,n<=i->e i=0)(hg:∀j,d<j->g j=0)(hd:g d≠0)(hr:∀k,d<=k->r k=0)(h:∀k,pr e g n k=r k):∀i,e i=0:=by
 have step:∀m i,n<=i+m->e i=0:=by
  intro m;induction m with
  | zero=>intro i hi;exact he i hi
  | succ m ih =>
   intro i hi;by_cases hin:n<=i
   .exact he i hin
   have hab:∀j,i<j->e j=0:=λj hj=>ih j ();have e1:=nu hg hab n;rw[Yg (),h,hr _ ()] at e1;rcases YE.mp e1.symm with z|z
   .exact z
   .exact absurd z hd
 intro i;exact step n i ()
theorem v8{q q' g r r':Nat->Rat}{n n' d:Nat}(hq:∀i,n<=i->q i=0)(hq':∀i,n'<=i->q' i=0)(hg:∀j,d<j->g j=0)(hd:g d≠0)(hr:∀k,d<=k->r k=0)(hr':∀k,d<=k->r' k=0)
  (h:∀k,pr q g n k+r k=pr q' g n' k+r' k):(∀i,q i=q' i) /\ ∀k,r k=r' k:=by
 have a:∀k,pr q g (n+n') k=pr q g n k:=λk=>kR hq n' k;have b:∀k,pr q' g (n+n') k=pr q' g n' k:=λk=>by rw[Nat.add_comm];exact kR hq' n k
 have z:=Cd (e:=λi=>q i-q' i) (g:=g) (r:=λk=>r' k-r k) (n:=n+n') (d:=d) (λi hi=>by
  show q i-q' i=0;rw[hq i (),hq' i ()];grind) hg hd (λk hk=>by
  show r' k-r k=0;rw[hr k hk,hr' k hk];grind) (λk=>by
  rw[vY,a,b];have:=h k;grind)
 have e:∀i,q i=q' i:=λi=>by
  have:q i-q' i=0:=z i;grind
 refine⟨e,λk=>?_⟩;have e2:pr q g n k=pr q' g n' k:=by
  rw[<-a,<-b,show q=q' from funext e]
 have:=h k;grind
theorem IH{rs:List (Int×Int)}(h:fR rs) {m:Nat}(hz:∀k,m<=k->cf rs k=0):rs.length<=m:=by
 refine Nat.le_of_not_lt λhm=>?_;have hl:rs.length-1<rs.length:=();have e:rs.getLast? = some rs[rs.length-1]:=by rw[YV,Ya hl]
 have z:=hz (rs.length-1) ();rw[fu (Ya hl)] at z;exact h.2 _ e ((oj (h.1 _ (Yp hl)).ne).mp z)
theorem EL(m n:Int):zt (.int m) (.int n)=decide (m=n):=by
 unfold zt D.py;simp only[PyData.eqv];rw[XT];simp
theorem xc(i:Int):(D.int i).cmp:=by
 unfold D.cmp D.py;exact⟨rfl,Nat.le_of_ble_eq_true rfl⟩
theorem yd{ns:List Int}{m:Nat}(h:∀n∈ns.drop m,n=0)(k:Nat):nz (ns.take m) k=nz ns k:=by
 unfold nz;rw[YH,YH,List.getElem?_take];by_cases hk:k<m
 .rw[Yg hk]
 .rw[Yc hk];cases e:ns[k]? with
  | none=>rfl
  | some n =>
   have:n∈ns.drop m:=by
    have e2:(ns.drop m)[k-m]? = some n:=by rw[List.getElem?_drop,show m+(k-m)=k by nofun];exact e
    exact YQ e2
   rw[h n this];rfl
def Dv(D:Int)(b:Nat)(qs:List (Int×Int)):Prop:=∃F:Nat->Int,(∀k,cf qs k=(F k:Rat)/(D:Rat)) /\ ∀k,Bt b (F k)
theorem As{f g:Nat->Int}{i:Nat}{c:Int}(h0:f i=0):∀n k,pz (λj=>if j=i then c else f j) g n k=pz f g n k+if i<n/\i<=k then c*g (k-i) else 0
 | 0,k=>by
  show (0:Int)=0+_;rw[Yc ()];rfl
 | n+1,k=>by
  show pz _ g n k+(if n<=k then (if n=i then c else f n)*g (k-n) else 0)=(pz f g n k+if n<=k then f n*g (k-n) else 0)+_
  rw[As h0 n k];rcases Nat.lt_trichotomy n i with h|h|h
  .simp only[Yc (show ¬ (i<n/\i<=k) by nofun),Yc (show ¬ n=i by nofun),Yc (show ¬ (i<n+1/\i<=k) by nofun)]
   nofun
  .subst h;rw[h0];by_cases hk:n<=k
   .simp only[Yg hk,Yg (show n<n+1/\n<=k from ⟨(),hk⟩),Yc (show ¬ (n<n/\n<=k) by nofun),Int.zero_mul,if_true]
    try nofun
   .simp only[Yc hk,Yc (show ¬ (n<n+1/\n<=k) by nofun),Yc (show ¬ (n<n/\n<=k) by nofun)]
  .simp only[Yc (show ¬ n=i by nofun)]
   by_cases hk:i<=k
   .simp only[Yg (show i<n/\i<=k from ⟨h,hk⟩),Yg (show i<n+1/\i<=k from ⟨(),hk⟩)]
    nofun
   .simp only[Yc (show ¬ (i<n/\i<=k) by nofun),Yc (show ¬ (i<n+1/\i<=k) by nofun)]
    nofun
theorem tU{f g:Nat->Int}{c:Int}:∀n k,pz (λj=>c*f j) g n k=c*pz f g n k
 | 0,_=>by show (0:Int)=c*0;nofun
 | n+1,k=>by
  show pz _ g n k+(if n<=k then c*f n*g (k-n) else 0)=c*(pz f g n k+if n<=k then f n*g (k-n) else 0)
  rw[tU n k];split
  .rw[Int.mul_add,YJ]
  .simp
theorem xx{f g:Nat->Int}(h:∀i,f i=0):∀n k,pz f g n k=0
 | 0,_=>rfl
 | n+1,k=>by
  show pz f g n k+(if n<=k then f n*g (k-n) else 0)=0
  rw[xx h n k,h n];simp
theorem sG{ns:List Int}{i k:Nat}{v:Int}(hi:i<ns.length):nz (ns.set i v) k=if k=i then v else nz ns k:=by
 unfold nz;rw[YH,YH,List.getElem?_set];by_cases h:i=k
 .subst h;simp[hi]
 .rw[Yc h,Yc (λz=>h z.symm)]
theorem cW{ns:List Int}{c:Int}(k:Nat):nz (ns.map λx=>c*x) k=c*nz ns k:=by
 unfold nz;rw[YH,YH,Yj];cases ns[k]?<;>simp
theorem nD{ns:List Int}(k:Nat):nz ns.dropLast k=if k=ns.length-1 then 0 else nz ns k:=by
 unfold nz;rw[YH,YH,List.getElem?_dropLast];by_cases h:k<ns.length-1
 .rw[Yg h,Yc ()]
 .rw[Yc h];by_cases h2:k=ns.length-1
  .rw[Yg h2];rfl
  .rw[Yc h2,Xc ()]
theorem Af{ms:Nat->Int}{S P:Int}{Q Q' N R R1 R2:Nat->Int}{n p l:Nat}(h:∀k,S*ms k=pz Q N n k+R k)(h0:Q p=0)(hQ:∀k,Q' k=if k=p then P else Q k)(hp:p<n)(hN:∀j,l<j->N j=0)
  (ht:R (p+l)=P*N l)(h1:∀k,R1 k=if k=p+l then 0 else R k)(h2:∀k,R2 k=R1 k-if p<=k/\k<p+l then P*N (k-p) else 0):∀k,S*ms k=pz Q' N n k+R2 k:=by
 intro k;rw[show Q'=λj=>if j=p then P else Q j from funext hQ,As h0,h k,h2 k,h1 k]
 by_cases a:p<=k
 .rw[Yg ⟨hp,a⟩];rcases Nat.lt_trichotomy k (p+l) with b|b|b
  .rw[Yc (show ¬ k=p+l by nofun),Yg ⟨a,b⟩]
   nofun
  .subst b;rw[Yg rfl,Yc (),ht,show p+l-p=l by nofun]
   nofun
  .rw[Yc (show ¬ k=p+l by nofun),Yc (),hN _ (show l<k-p by nofun)]
   nofun
 .rw[Yc (),Yc (show ¬ k=p+l by nofun),Yc ()]
  nofun
def wN(x:V)(P:Bool->Prop):Prop:=match x with | .bl k=>P k|_=>False
def isInt(x:V)(P:Int->Prop):Prop:=match x with | .int k=>P k|_=>False
def jp(x:V)(P:Addr->Prop):Prop:=match x with | .ref k=>P k|_=>False
def uy(x:Option (Option V))(P:V->Prop):Prop:=match x with|some (some v)=>P v|_=>False
def Jj(x:List V)(P:V->Prop):Prop:=match x with|[v]=>P v|_=>False
def KG(x:List V)(P:V->V->Prop):Prop:=match x with|[v,u]=>P v u|_=>False
theorem E9{k:Bool}{P:Bool->Prop}:wN (.bl k) P=P k:=rfl
theorem BS{k:Int}{P:Int->Prop}:isInt (.int k) P=P k:=rfl
theorem A4{k:Addr}{P:Addr->Prop}:jp (.ref k) P=P k:=rfl
theorem Bc{k:V}{P:V->Prop}:uy (some (some k)) P=P k:=rfl
theorem HF{k:V}{P:V->Prop}:Jj [k] P=P k:=rfl
theorem GV{k l:V}{P:V->V->Prop}:KG [k,l] P=P k l:=rfl
theorem jI{x:V}{P:Bool->Prop}:wN x P = ∃k,x=.bl k/\P k:=propext (by cases x<;>simp[wN])
theorem dC{x:V}{P:Int->Prop}:isInt x P = ∃k,x=.int k/\P k:=propext (by cases x<;>simp[isInt])
theorem fi{x:V}{P:Addr->Prop}:jp x P = ∃k,x=.ref k/\P k:=propext (by cases x<;>simp[jp])
theorem mG{x:Option (Option V)}{P:V->Prop}:uy x P = ∃k,x=some (some k)/\P k:=propext (by rcases x with _|_|v<;>simp[uy])
theorem nX{x:List V}{P:V->Prop}:Jj x P = ∃k,x=[k]/\P k:=propext (by rcases x with _|⟨v,_|⟨u,r⟩⟩<;>simp[Jj])
theorem tJ{x:List V}{P:V->V->Prop}:KG x P = ∃k l,x=[k,l]/\P k l:=propext ⟨λh=>match x,h with|[v,u],h=>⟨v,u,rfl,h⟩,λ⟨k,l,e,h⟩=>by subst e;exact h⟩
theorem FY{α β:Sort _}{A:α->Prop}{B:β->Prop}{C:α->β->Prop}:(∃i j,A i/\B j/\C i j) = ∃i,A i /\ ∃j,B j/\C i j:=propext ⟨λ⟨i,j,a,b,c⟩=>⟨i,a,j,b,c⟩,λ⟨i,a,j,b,c⟩=>⟨i,j,a,b,c⟩⟩
def Kj(i:Nat):TE:=λσ H Q=>uy σ[i]? λv=>Q v H
theorem GM{i:Nat}:DX i=Kj i:=by funext σ H Q;exact mG.symm
def xk(t:TE):TT:=λσ H Q=>t σ H λx H'=>wN x λk=>Q k H'
theorem xK{t:TE}:ye t=xk t:=by
 funext σ H Q;unfold ye xk;congr 1
 funext x H';exact jI.symm
theorem KS{t:TE}:tB t=xk t:=xK
def BW(ta tb:TE):TE:=λσ H Q=>ta σ H λx H1=>wN x λc=>if c=true then tb σ H1 Q else Q (.bl false) H1
theorem Er{ta tb:TE}:Gj ta tb=BW ta tb:=by
 funext σ H Q;unfold Gj BW;congr 1
 funext x H';exact jI.symm
def IL(ta tb:TE):TE:=λσ H Q=>ta σ H λx H1=>wN x λc=>if c=true then Q (.bl true) H1 else tb σ H1 Q
theorem Il{ta tb:TE}:Ke ta tb=IL ta tb:=by
 funext σ H Q;unfold Ke IL;congr 1
 funext x H';exact jI.symm
def At(ta:TE):TE:=λσ H Q=>ta σ H λx H1=>wN x λc=>Q (.bl (!c)) H1
theorem DR{ta:TE}:Gf ta=At ta:=by
 funext σ H Q;unfold Gf At;congr 1
 funext x H';exact jI.symm
def mI(C:Int->Int->Prop)(g:Int->Int->V):R2:=λx y H Q=>isInt x λi=>isInt y λj=>C i j/\Q (g i j) H
theorem K2{C:Int->Int->Prop}{g:Int->Int->V}:rI C g=mI C g:=by
 funext x y H Q;unfold rI mI;rw[dC];simp only[dC];exact FY
def Lj(g:Int->Int->V):R2:=λx y H Q=>isInt x λi=>isInt y λj=>Q (g i j) H
theorem JL{g:Int->Int->V}:zn g=Lj g:=by
 funext x y H Q;unfold zn Lj;simp only[dC];exact FY
def mU(g:Int->V):V->Hp->VK->Prop:=λx H Q=>isInt x λi=>Q (g i) H
theorem K9{g:Int->V}:rU g=mU g:=by
 funext x H Q;exact dC.symm
theorem pH{i j:Int}:Aa (.int i) (.int j)=true:=rfl
theorem Ee{i j:Bool}:Aa (.bl i) (.bl j)=true:=rfl
def Ky:R2:=λx y H Q=>match x,y with | .int i,.int j=>Q (.bl (decide (i=j))) H|_,_=>Jl x y H Q
theorem D9{i j:Int}{H:Hp}{Q:VK}:Ky (.int i) (.int j) H Q=Q (.bl (decide (i=j))) H:=rfl
theorem FW:Jl=Ky:=by
 funext x y H Q;unfold Ky;split
 .unfold Jl;show (Aa _ _=true/\_)=_;simp only[pH,V.int.injEq,true_and]
 .rfl
theorem FC{x y:V}{H:Hp}{Q:VK}:Ky x y H Q=Jl x y H Q:=by rw[FW]
def Kv:R2:=λx y H Q=>match x,y with | .int i,.int j=>Q (.bl (!decide (i=j))) H|_,_=>Ji x y H Q
theorem FE{i j:Int}{H:Hp}{Q:VK}:Kv (.int i) (.int j) H Q=Q (.bl (!decide (i=j))) H:=rfl
theorem Gd:Ji=Kv:=by
 funext x y H Q;unfold Kv;split
 .unfold Ji;show (Aa _ _=true/\_)=_;simp only[pH,V.int.injEq,true_and]
 .rfl
theorem E3{x y:V}{H:Hp}{Q:VK}:Kv x y H Q=Ji x y H Q:=by rw[Gd]
section
variable {K:W.Frag}
def IP(K:W.Frag):R2:=λx y H Q=>jp x λp=>isInt y λi=>∃xs,vw K H p=some (.lst xs) /\ ∃v,pE xs i=some v/\Q v H
theorem IF:wP K=IP K:=by
 funext x y H Q;unfold wP IP;simp only[dC,fi];exact FY
def HV(K:W.Frag):R2:=λx y H Q=>jp x λp=>isInt y λi=>∃xs,vw K H p=some (.tup xs) /\ ∃v,pE xs i=some v/\Q v H
theorem IY:An K=HV K:=by
 funext x y H Q;unfold An HV;simp only[dC,fi];exact FY
def GW(K:W.Frag)(neg:Bool):R2:=λx y H Q=>∃d,aW (vw K H) d x /\ ∃e,aW (vw K H) e y/\d.cmp/\e.cmp/\Q (.bl (cond neg (!zt d e) (zt d e))) H
theorem HL{neg:Bool}:EX K neg=GW K neg:=by
 funext x y H Q;unfold EX GW;cases neg<;>exact FY
def Ih(K:W.Frag)(neg:Bool):R2:=λx y H Q=>jp x λp=>jp y λq=>∃xs,vw K H p=some (.lst xs)/\vw K H q=some (.lst [])/\Q (.bl (cond neg (!xs.isEmpty) xs.isEmpty)) H
theorem Hx{neg:Bool}:Hm K neg=Ih K neg:=by
 funext x y H Q;unfold Hm Ih;simp only[fi];cases neg<;>exact FY
def A3(t:TE):TO:=λσ H Q=>t σ H λx H1=>isInt x λi=>Q (some i) H1
theorem DU{t:TE}:x9 t=A3 t:=by
 funext σ H Q;unfold x9 A3;congr 1
 funext x H';exact dC.symm
def Km(K:W.Frag):V->Option Int->Option Int->Hp->VK->Prop:=λx lo hi H Q=>jp x λa=>∃xs,vw K H a=some (.lst xs)/\Nw K H (.lst (ju xs lo hi)) Q
theorem GD:Kt K=Km K:=by
 funext x lo hi H Q;exact fi.symm
def Bp(K:W.Frag):V->List V->Hp->VK->Prop:=λx vs H Q=>jp x λl=>Jj vs λy=>∃xs,vw K H l=some (.lst xs)/\xs.length<sizeLine/\Dp K H l (.lst (xs++[y])) (Q .non)
theorem Dw:Au K=Bp K:=by
 funext x y H Q;unfold Au Bp;simp only[fi,nX];exact FY
def C3(K:W.Frag):V->V->V->Hp->(Hp->Prop)->Prop:=λo i v H Q=>jp o λp=>isInt i λk=>∃xs,vw K H p=some (.lst xs) /\ ∃j,vB xs.length k=some j/\Dp K H p (.lst (xs.set j v)) Q
theorem DE:Bs K=C3 K:=by
 funext x y v H Q;unfold Bs C3;simp only[fi,dC];exact FY
def HI(i j:Nat)(ta:TA):TS:=λD σ H=>ta σ H λvs H1=>KG vs λv w=>D.nx ((σ.set i (some v)).set j (some w)) H1
theorem GI{i j:Nat}{ta:TA}:Fk i j ta=HI i j ta:=by
 funext D σ H;unfold Fk HI;congr 1
 funext x H';exact tJ.symm
def Jv(i:Nat)(te:TE)(ti:Ds):TS:=λD σ H=>uy σ[i]? λx=>te σ H λy H1=>ti x y H1 λz H2=>D.nx (σ.set i (some z)) H2
theorem HK{i:Nat}{te:TE}{ti:Ds}:Gz i te ti=Jv i te ti:=by
 funext D σ H;exact mG.symm
def AJ(K:W.Frag)(tl:TE):TI:=λσ H R=>tl σ H λx H1=>jp x λa=>(∃xs,jz K H1 a xs)/\R (KI K a) H1
theorem Ew{tl:TE}:yH K tl=AJ K tl:=by
 funext σ H R;unfold yH AJ;congr 1
 funext x H';exact fi.symm
def Dg(ta:TA):TI:=λσ H R=>ta σ H λvs H1=>Jj vs λx=>isInt x λj=>-(2^62)<=j/\j<2^62/\R (Je 0 j.toNat) H1
theorem Eb{ta:TA}:yw ta=Dg ta:=by
 funext σ H R;unfold yw Dg;congr 1
 funext x H';simp only[nX,dC];exact propext ⟨λ⟨j,a,b⟩=>⟨_,a,j,rfl,b⟩,λ⟨_,a,j,e,b⟩=>⟨j,by rw[a,e],b⟩⟩
def uQ(K:W.Frag):R2:=λx y H Q=>match x,y with
 | .int i,.int j=>Q (.int (i+j)) H
 | .ref l,.ref b=>∃xs,vw K H l=some (.lst xs) /\ ∃zs,vw K H b=some (.lst zs)/\xs.length+zs.length<=sizeLine/\Nw K H (.lst (xs++zs)) Q
 | _,_=>lV K x y H Q
theorem zI{i j:Int}{H:Hp}{Q:VK}:uQ K (.int i) (.int j) H Q=Q (.int (i+j)) H:=rfl
theorem y7{l b:Addr}{H:Hp}{Q:VK}:uQ K (.ref l) (.ref b) H Q = ∃xs,vw K H l=some (.lst xs) /\ ∃zs,vw K H b=some (.lst zs)/\xs.length+zs.length<=sizeLine/\Nw K H (.lst (xs++zs)) Q:=rfl
theorem yb:lV K=uQ K:=by
 funext x y H Q;unfold uQ;split
 .exact ke
 .exact mw
 .rfl
theorem zd{x y:V}{H:Hp}{Q:VK}:uQ K x y H Q=lV K x y H Q:=by rw[yb]
def DP(K:W.Frag):R2:=λx y H Q=>match x,y with
 | .int i,.int j=>IntMulOk i j/\Q (.int (i*j)) H
 | _,_=>jv K x y H Q
theorem Av{i j:Int}{H:Hp}{Q:VK}:DP K (.int i) (.int j) H Q=(IntMulOk i j/\Q (.int (i*j)) H):=rfl
theorem BO:jv K=DP K:=by
 funext x y H Q;unfold DP;split
 .exact eP
 .rfl
theorem AU{x y:V}{H:Hp}{Q:VK}:DP K x y H Q=jv K x y H Q:=by rw[BO]
end
def KM(P:Addr->Hp->VK->Prop)(t:TA):TE:=λσ H Q=>t σ H λvs H1=>Jj vs λx=>jp x λp=>P p H1 Q
theorem JI{P:Addr->Hp->VK->Prop}{t:TA}:Eu (λxs H Q=>∃p,xs=[.ref p]/\P p H Q) t=KM P t:=by
 funext σ H Q;unfold Eu KM;congr 1
 funext x H';simp only[nX,fi];exact propext ⟨λ⟨j,a,b⟩=>⟨_,a,j,rfl,b⟩,λ⟨_,a,j,e,b⟩=>⟨j,by rw[a,e],b⟩⟩
def K7(P:Int->Int->Hp->VK->Prop)(t:TA):TE:=λσ H Q=>t σ H λvs H1=>KG vs λx y=>isInt x λi=>isInt y λj=>P i j H1 Q
theorem JB{P:Int->Int->Hp->VK->Prop}{t:TA}:Eu (λxs H Q=>∃i j,xs=[.int i,.int j]/\P i j H Q) t=K7 P t:=by
 funext σ H Q;unfold Eu K7;congr 1
 funext x H';simp only[tJ,dC];exact propext ⟨λ⟨i,j,a,b⟩=>⟨_,_,a,i,rfl,j,rfl,b⟩,λ⟨_,_,a,i,e,j,e',b⟩=>⟨i,j,by rw[a,e,e'],b⟩⟩
end L2
namespace L2
open PySem
theorem eU{α:Sort _}{g z:List Value->α}(us:List Value)(hl:us.length=1)(h:∀a0,g [a0]=z [a0]):g us=z us:=by
 rcases us with _|⟨a0,_|⟨b,r⟩⟩
 all_goals first|exact h _|(simp at hl;done)
theorem di{α:Sort _}{g z:List Value->α}(us:List Value)(hl:us.length=2)(h:∀a0 a1,g [a0,a1]=z [a0,a1]):g us=z us:=by
 rcases us with _|⟨a0,_|⟨a1,_|⟨b,r⟩⟩⟩
 all_goals first|exact h _ _|(simp at hl;done)
theorem rZ{α:Sort _}{g z:List Value->α}(us:List Value)(hl:us.length=3)(h:∀a0 a1 a2,g [a0,a1,a2]=z [a0,a1,a2]):g us=z us:=by
 rcases us with _|⟨a0,_|⟨a1,_|⟨a2,_|⟨b,r⟩⟩⟩⟩
 all_goals first|exact h _ _ _|(simp at hl;done)
end L2
namespace L2
open PySem PySem.Spec PyProof.Rows
def ch:Nat->Nat->Nat
 | _,0=>1
 | 0,_+1=>0
 | n+1,k+1=>ch n k+ch n (k+1)
def dl(a:Rat)(s:Nat->Rat):Nat->Nat->Rat
 | 0,i=>s i
 | k+1,i=>dl a s k (i+1)-a*dl a s k i
theorem Fi{xs:List V}{k:Nat}:ju xs none (some (k:Int))=xs.take k:=by
 by_cases h:k<=xs.length
 .exact sL h
 .unfold ju;have e:∀d,HT.sIx xs.length d (some (k:Int))=xs.length:=λd=>by
   unfold HT.sIx;simp only[XB];rw[Yc ()];nofun
  rw[e];simp[HT.sIx];rw[Xr ()]
def bw(t r:Nat->Rat):Nat->Nat->Rat
 | 0,h=>if h=0 then 1 else 0
 | k+1,h=>bw t r k (h+1)+t h*bw t r k h+(if h=0 then 0 else r h*bw t r k (h-1))
end L2
namespace L2
open PySem PySem.Spec PyProof.Rows
section
variable {P:Program}{w:World}{K:W.Frag}{mg:Str->Option Value}{base:Heap}
theorem Bo{N:List Str}{qual:Str}{scope:Scope}{f:Addr}{cd:Value}{A:Around}{outer:List Env}{s₀:Shared}{H₀:Hp}{E:XK}{e:Expr}{pos:Pos}{t:St->Hp->XK->Prop}
  (hb:QX (gB (nE P w) P w K mg base N qual scope f cd A outer s₀ H₀ E) e t)(hsw:swapsWith e none pos.line (gB (nE P w) P w K mg base N qual scope f cd A outer s₀ H₀ E).env=pure false:=by rfl):QS (gB (nE P w) P w K mg base N qual scope f cd A outer s₀ H₀ E) (.Expr e pos) (Gb E t):=⟨by
 intro pins s σ H D I h;refine wpAny_Expr_any (wpAny_mono (hb.h pins s σ H E I h) (λ_ _ z=>z.elim) λev s' z=>?_) I.quiet hsw;obtain⟨s1,H1,I1,z⟩:=z;exact I1.passed rfl rfl rfl z λ_ _ _ q=>q⟩
end
def F8(te:TE)(g1 g2:TG):TS:=λD σ H=>te σ H λv H1=>g1 v σ H1 λσ1 H2=>g2 v σ1 H2 D.nx
theorem Et{X:Cx}{t1 t2 e:Expr}{te:TE}{g1 g2:TG}{pos:Pos}(he:QE X e te)(h1:QG X t1 g1)(h2:QG X t2 g2)
  (hz:(assignEach [t1,t2] X.env).map (·.2)=[assign t1 X.env,assign t2 X.env]:=by rfl)(hw:swappedStores [t1,t2] e X.env=pure none:=by rfl):QS X (.Assign [t1,t2] e pos) (F8 te g1 g2):=⟨by
 intro pins s σ H D I h;refine wpAny_Assign_two (dq (he.h pins s σ H _ I h) λv s1 ⟨x,H1,I1,r1,q1⟩=>?_) hz hw;refine dq (h1.h pins s1 σ H1 x v _ I1 r1 q1) λ_ s2 ⟨σ2,H2,I2,q2⟩=>?_;exact dq (h2.h pins s2 σ2 H2 x v _ I2 r1 q2) λ_ s3 q=>q⟩
structure J0 where
 params:Arguments
 body:Expr
 scope:Scope
 Nl:List Str
 ixs:List Nat
 tl:TE
structure Lr where
 t:Addr
 p:Addr
 c:Addr
 d:Addr
 ps:Arguments
 b:Expr
 sc:Scope
 ds:List D
def Ob(D:Int)(B:Nat)(f:Nat->Rat):Prop:=∀k,∃n:Int,f k=(n:Rat)/(D:Rat)/\Bt B n
section
variable {D E:Int}{a b e:Nat}{f g:Nat->Rat}
theorem Ly{n:Nat}:Bt n 0:=Xj n
theorem Ob.mono(h:Ob D a f)(hl:a<=b):Ob D b f:=λk=>by
 obtain⟨n,e1,h1⟩:=h k;exact⟨n,e1,h1.mono hl⟩
theorem Ob.congr(h:Ob D a f)(e:∀k,g k=f k):Ob D a g:=λk=>by
 rw[e k];exact h k
theorem Ob.bq{qs:List (Int×Int)}(h:Ob D a (cf qs))(hD:D≠0)(hb:Bt a D)(hF:∀q∈qs,Fq q):∀q∈qs,Bq a q:=λq hq=>by
 obtain⟨k,hk,rfl⟩:=XH hq;obtain⟨n,e1,h1⟩:=h k;rw[fu (Ya hk)] at e1;rw[ww (hF _ hq) (qX hD) (by rw[pA hD,e1])]
 exact yz hD h1 hb
theorem Ob.add(h1:Ob D a f)(h2:Ob D b g):Ob D (max a b+1) (λk=>f k+g k):=λk=>by
 obtain⟨m,e1,b1⟩:=h1 k;obtain⟨n,e2,b2⟩:=h2 k;refine⟨m+n,?_,b1.add b2⟩;show f k+g k=_;rw[e1,e2,Xp];grind
theorem Ob.pr(hD:D≠0)(hE:E≠0)(h1:Ob D a f)(h2:Ob E b g):∀n,Ob (D*E) (a+b+n) (λk=>pr f g n k)
 | 0=>λk=>⟨0,by
  show (0:Rat)=((0:Int):Rat)/_;have c0:((0:Int):Rat)=0:=rfl;rw[c0];grind,Ly⟩
 | n+1=>λk=>by
  obtain⟨m,e1,b1⟩:=Ob.pr hD hE h1 h2 n k;show ∃m,L2.pr f g n k+(if n<=k then f n*g (k-n) else 0)=_/\_
  have e1:L2.pr f g n k=(m:Rat)/((D*E:Int):Rat):=e1;split
  .obtain⟨x,e2,b2⟩:=h1 n;obtain⟨y,e3,b3⟩:=h2 (k-n);refine⟨m+x*y,?_,(b1.add (b2.mul b3)).mono ()⟩;have:=aC hD;have:=aC hE;rw[e1,e2,e3,Xp,Yi,Yi];grind
  .refine⟨m,?_,b1.mono ()⟩;rw[e1];grind
def Pb(a:Nat)(f:Nat->Rat):Prop:=∃D:Int,D≠0/\Bt a D/\Ob D a f
theorem Pb.mono(h:Pb a f)(hl:a<=b):Pb b f:=by
 obtain⟨D,h1,h2,h3⟩:=h;exact⟨D,h1,h2.mono hl,h3.mono hl⟩
theorem Pb.congr(h:Pb a f)(e:∀k,g k=f k):Pb a g:=by
 obtain⟨D,h1,h2,h3⟩:=h;exact⟨D,h1,h2,h3.congr e⟩
theorem Pb.bq{qs:List (Int×Int)}(h:Pb a (cf qs))(hF:∀q∈qs,Fq q):∀q∈qs,Bq a q:=by
 obtain⟨D,h1,h2,h3⟩:=h;exact h3.bq h1 h2 hF
theorem Pb.pr(h1:Pb a f)(h2:Pb b g)(n:Nat):Pb (a+b+n) (λk=>L2.pr f g n k):=by
 obtain⟨D,d1,d2,d3⟩:=h1;obtain⟨E,e1,e2,e3⟩:=h2;exact⟨D*E,YL d1 e1,(d2.mul e2).mono (),Ob.pr d1 e1 d3 e3 n⟩
end
def lin(p q:Rat)(f:Nat->Rat):Nat->Rat
 | 0=>f 0*p
 | k+1=>f (k+1)*p+f k*q
theorem vj{a b c:Int}(h:Int.gcd a b=1)(hd:a∣b*c):a∣c:=by
 rw[<-Xu] at hd ⊢;rw[YI] at hd;exact Nat.Coprime.dvd_of_dvd_mul_left h hd
theorem Ei{b q E:Int}(hb:0<b)(hq:0<q)(h1:b∣E)(h2:q∣E):b*q.fdiv (Int.gcd b q:Int)∣E:=by
 obtain⟨_,_,_,hg,_⟩:=uG hb hq;have e:=gC hg (XU b q);obtain⟨m,hm⟩:=Int.gcd_dvd_left b q;obtain⟨g,hgg⟩ : ∃g:Nat,g=Int.gcd b q:=⟨_,rfl⟩;generalize hc:q.fdiv (Int.gcd b q:Int)=c at e;rw[<-hgg] at hg e hm;have hcop:Int.gcd c m=1:=by
  have z:Int.gcd b q=g*Int.gcd m c:=by
   rw[hm,<-e,Y2 c,Int.gcd_mul_left];simp
  rw[<-hgg] at z;have g0:0<g:=();have:Int.gcd m c=1:=by
   have:g*1=g*Int.gcd m c:=();exact (Nat.eq_of_mul_eq_mul_left g0 this).symm
  rw[Int.gcd_comm];exact this
 obtain⟨u,hu⟩:=h1;obtain⟨v,hv⟩:=h2;have:c∣m*u:=by
  refine⟨v,?_⟩;have z:(g:Int)*(m*u)=(g:Int)*(c*v):=by
   rw[<-YJ,<-hm,<-hu,hv,<-e];rw[Y2 c,YJ]
  exact Int.eq_of_mul_eq_mul_left hg z
 obtain⟨t,ht⟩:=vj hcop this;exact⟨t,by rw[hu,ht,YJ]⟩
theorem BJ{q:Int×Int}{n E:Int}(h:Fq q)(hE:E≠0)(e:wv q=(n:Rat)/(E:Rat)):q.2∣E:=by
 unfold wv at e;have c1:=aC h.ne;have c2:=aC hE;have e1:(q.1:Rat)*(E:Rat)=(n:Rat)*(q.2:Rat):=⋯;have e2:q.1*E=n*q.2:=by
  rw[<-Yi,<-Yi] at e1;exact Xa.mp e1
 refine vj (b:=q.1) (by rw[Int.gcd_comm];exact h.2) ⟨n,by rw[e2,Y2]⟩
theorem oG{a:Nat}{qs:List (Int×Int)}{D:Int}{ns:List Int}(h:Pb a (cf qs))(hF:∀q∈qs,Fq q)(hD:0<D)(hm:∀E:Int,(∀q∈qs,q.2∣E)->D∣E)(hl:ns.length=qs.length)(hn:∀(i:Nat)(n:Int)(q:Int×Int),ns[i]? = some n->qs[i]? = some q->(n:Rat)=wv q*(D:Rat)):Bt a D /\ ∀n∈ns,Bt a n:=by
 obtain⟨E,hE,bE,oE⟩:=h;obtain⟨t,ht⟩:=hm E λq hq=>by
  obtain⟨k,hk,rfl⟩:=XH hq;obtain⟨n,e,_⟩:=oE k;rw[fu (Ya hk)] at e;exact BJ (hF _ hq) hE e
 have t0:t≠0:=λz=>hE (by rw[ht,z,Yz])
 have le:∀x:Int,x.natAbs<=(x*t).natAbs:=λx=>by
  rw[YI];exact XF _ ()
 refine⟨?_,λn hn'=>?_⟩
 .unfold Bt at *
  have:=le D;rw[<-ht] at this;nofun
 .obtain⟨i,hi,rfl⟩:=XH hn';have hi':i<qs.length:=();have e1:=hn i _ _ (Ya hi) (Ya hi');obtain⟨m,e2,bm⟩:=oE i;rw[fu (Ya hi')] at e2;have c1:=aC hE;have e3:((ns[i]*t:Int):Rat)=(m:Rat):=by
   rw[Yi,e1,e2];have:(E:Rat)=(D:Rat)*(t:Rat):=by rw[ht,Yi]
   have c2:(D:Rat)≠0:=aC ();have c3:(t:Rat)≠0:=aC t0;rw[this];grind
  have e4:=Xa.mp e3;unfold Bt at *
  have:=le ns[i];rw[e4] at this;nofun
def gq(f:Nat->Rat):Nat->Rat->Rat
 | 0,_=>0
 | n+1,x=>gq f n x+f n*dj x n
theorem rK{f g:Nat->Rat}{x:Rat}:∀n,(∀k,k<n->f k=g k)->gq f n x=gq g n x
 | 0,_=>rfl
 | n+1,h=>by
  show gq f n x+f n*_=gq g n x+g n*_;rw[rK n (λk hk=>h k ()),h n ()]
theorem si{f g:Nat->Rat}{x:Rat}:∀n,gq (λk=>f k+g k) n x=gq f n x+gq g n x
 | 0=>by show (0:Rat)=0+0;grind
 | n+1=>by
  show gq (λk=>f k+g k) n x+(f n+g n)*dj x n=gq f n x+f n*dj x n+(gq g n x+g n*dj x n);rw[si n];grind
theorem oS{f:Nat->Rat}{x:Rat}{n:Nat}(h:∀k,n<=k->f k=0):∀m,gq f (n+m) x=gq f n x
 | 0=>rfl
 | m+1=>by
  show gq f (n+m) x+f (n+m)*_=_;rw[oS h m,h (n+m) ()];grind
theorem xL{p q:Rat}{f:Nat->Rat}{x:Rat}:∀n,gq (lin p q f) (n+1) x=p*gq f (n+1) x+q*x*gq f n x
 | 0=>by
  show 0+f 0*p*1=p*(0+f 0*1)+q*x*0;grind
 | n+1=>by
  show gq (lin p q f) (n+1) x+(f (n+1)*p+f n*q)*dj x (n+1)=p*(gq f (n+1) x+f (n+1)*dj x (n+1))+q*x*(gq f n x+f n*dj x n);rw[xL n,qy];grind
def EV(f:Nat->Rat)(x:Rat):Rat:=gq f 20 x
theorem sj{p q:Rat}{f:Nat->Rat}(h:f 19=0)(x:Rat):EV (lin p q f) x=(p+q*x)*EV f x:=by
 unfold EV;rw[xL 19];have:gq f 20 x=gq f 19 x:=by
  show gq f 19 x+f 19*_=_;rw[h];grind
 rw[this];grind
theorem eN{f g:Nat->Rat}(h:∀k,f k=g k)(x:Rat):EV f x=EV g x:=rK 20 λk _=>h k
theorem sI{f g:Nat->Rat}(x:Rat):EV (λk=>f k+g k) x=EV f x+EV g x:=si 20
def DF(f:Nat->Rat):Nat->Rat:=λk=>((k+1:Nat):Int)*f (k+1)
theorem Cp{p:Rat}{f:Nat->Rat}(k:Nat):DF (lin p 1 f) k=lin p 1 (DF f) k+f k:=by
 cases k with
 | zero =>
  show (((0+1:Nat):Int):Rat)*(f 1*p+f 0*1)=(((0+1:Nat):Int):Rat)*f 1*p+f 0;have c1:(((0+1:Nat):Int):Rat)=1:=rfl;rw[c1];grind
 | succ k =>
  show (((k+1+1:Nat):Int):Rat)*(f (k+2)*p+f (k+1)*1)=(((k+1+1:Nat):Int):Rat)*f (k+2)*p+(((k+1:Nat):Int):Rat)*f (k+1)*1+f (k+1);have c1:(((k+1+1:Nat):Int):Rat)=(((k+1:Nat):Int):Rat)+1:=by
   rw[show ((k+1+1:Nat):Int)=((k+1:Nat):Int)+1 by nofun,Xp]
   rfl
  rw[c1];grind
theorem qJ{c:Rat}{g:Nat->Rat}{j:Nat}{x:Rat}:∀M,gq (λk=>if j<=k then c*g (k-j) else 0) (j+M) x=c*dj x j*gq g M x
 | 0=>by
  have:∀n,n<=j->gq (λk=>if j<=k then c*g (k-j) else 0) n x=0:=λn=>by
   induction n with
   | zero=>intro _;rfl
   | succ n ih =>
    intro hn;show gq (λk=>if j<=k then c*g (k-j) else 0) n x+(if j<=n then c*g (n-j) else 0)*dj x n=0
    rw[ih (),Yc ()];grind
  rw[Nat.add_zero,this j (Yn _)];show (0:Rat)=c*dj x j*0;grind
 | M+1=>by
  show gq (λk=>if j<=k then c*g (k-j) else 0) (j+M) x+(if j<=j+M then c*g (j+M-j) else 0)*dj x (j+M)=c*dj x j*(gq g M x+g M*dj x M)
  rw[qJ M,Yg (),Nat.add_sub_cancel_left];have:dj x (j+M)=dj x j*dj x M:=by
   induction M with
   | zero=>show dj x j=dj x j*1;grind
   | succ M ih =>
    show dj x (j+M)*x=dj x j*(dj x M*x);rw[ih];grind
  rw[this];grind
theorem vT{f g:Nat->Rat}{x:Rat}{m:Nat}(hg:∀k,m<=k->g k=0):∀n,n+m<=20->EV (λk=>pr f g n k) x=gq f n x*gq g m x
 | 0,_=>by
  have:∀n,gq (λk=>pr f g 0 k) n x=0:=λn=>by
   induction n with
   | zero=>rfl
   | succ n ih =>
    show gq (λk=>pr f g 0 k) n x+0*_=0;rw[ih];grind
  show gq _ 20 x=0*_;rw[this];grind
 | n+1,h=>by
  have e:EV (λk=>pr f g (n+1) k) x=EV (λk=>pr f g n k) x+EV (λk=>if n<=k then f n*g (k-n) else 0) x:=sI x
  rw[e,vT hg n ()];have s:EV (λk=>if n<=k then f n*g (k-n) else 0) x=f n*dj x n*gq g m x:=by
   show gq _ 20 x=_;have z:=qJ (c:=f n) (g:=g) (j:=n) (x:=x) (20-n);rw[show n+(20-n)=20 by nofun] at z
   rw[z];have z2:=oS (x:=x) hg (20-n-m);rw[show m+(20-n-m)=20-n by nofun] at z2
   rw[z2]
  rw[s];show _=(gq f n x+f n*dj x n)*_;grind
theorem gL{f:Nat->Rat}{n:Nat}(h:∀k,n<=k->f k=0)(hn:n<=20)(x:Rat):EV f x=gq f n x:=by
 have:=oS (x:=x) h (20-n);rw[show n+(20-n)=20 by nofun] at this
 exact this
theorem Jr{fs gs:List (Int×Int)}(h:fs.length+gs.length<=20)(x:Rat):EV (λk=>pr (cf fs) (cf gs) fs.length k) x=EV (cf fs) x*EV (cf gs) x:=by
 rw[vT (m:=gs.length) (λk hk=>cD hk) _ h,gL (n:=fs.length) (λk hk=>cD hk) (),gL (n:=gs.length) (λk hk=>cD hk) ()]
def fD:List Rat->Rat->Rat
 | [],_=>0
 | a::l,x=>a+x*fD l x
def FO(s:Rat):List Rat->List Rat
 | []=>[]
 | [_]=>[]
 | _::b::l=>fD (b::l) s::FO s (b::l)
theorem xO{s:Rat}:∀l:List Rat,(FO s l).length=l.length-1
 | []=>rfl
 | [_]=>rfl
 | _::b::l=>by
  show (FO s (b::l)).length+1=_;rw[xO (b::l)];rfl
theorem wo{s x:Rat}:∀l:List Rat,fD l x-fD l s=(x-s)*fD (FO s l) x
 | []=>by show (0:Rat)-0=(x-s)*0;grind
 | [a]=>by show a+x*0-(a+s*0)=(x-s)*0;grind
 | a::b::l=>by
  have:=wo (s:=s) (x:=x) (b::l);show a+x*fD (b::l) x-(a+s*fD (b::l) s)=(x-s)*(fD (b::l) s+x*fD (FO s (b::l)) x);have e:(x-s)*(x*fD (FO s (b::l)) x)=x*(fD (b::l) x-fD (b::l) s):=by rw[this];grind
  grind
theorem pV:∀(S:List Rat)(l:List Rat),S.Nodup->l.length<=S.length->(∀s∈S,fD l s=0) -> ∀x,fD l x=0
 | [],l,_,hl,_,x=>by
  have:l=[]:=Xz.mp (Nat.le_zero.mp hl);rw[this];rfl
 | s::S,l,nd,hl,h,x=>by
  rw[XQ] at nd;have h0:=h s Ye;have g:∀x,fD (FO s l) x=0:=pV S (FO s l) nd.2 (by rw[xO];have:l.length<=S.length+1:=hl;nofun) λt ht=>by
   have e:=wo (s:=s) (x:=t) l;rw[h t (Yd _ ht),h0] at e;have hts:t-s=0->t=s:=λz=>by grind
   have hne:t-s≠0:=λz=>nd.1 (by rw[<-hts z];exact ht)
   grind
  have e:=wo (s:=s) (x:=x) l;rw[g x,h0] at e;grind
def t5(n:Nat)(f:Rat->Rat):Prop:=∃l:List Rat,l.length<=n /\ ∀x,f x=fD l x
theorem t5.mono{m n:Nat}{f:Rat->Rat}(h:t5 m f)(hl:m<=n):t5 n f:=by
 obtain⟨l,h1,h2⟩:=h;exact⟨l,(),h2⟩
theorem t5.zero{n:Nat}{f:Rat->Rat}{S:List Rat}(h:t5 n f)(nd:S.Nodup)(hl:n<=S.length)(hz:∀s∈S,f s=0)(x:Rat):f x=0:=by
 obtain⟨l,h1,h2⟩:=h;rw[h2];exact pV S l nd () (λs hs=>by rw[<-h2];exact hz s hs) x
def zj:List Rat->List Rat->List Rat
 | [],b=>b
 | a,[]=>a
 | x::a,y::b=>(x+y)::zj a b
theorem uC:∀a b:List Rat,(zj a b).length=max a.length b.length
 | [],b=>by show b.length=max 0 b.length;nofun
 | x::a,[]=>by show (x::a).length=max (x::a).length 0;nofun
 | x::a,y::b=>by
  show (zj a b).length+1=max (a.length+1) (b.length+1);rw[uC a b];nofun
theorem xV{t:Rat}:∀a b:List Rat,fD (zj a b) t=fD a t+fD b t
 | [],b=>by show fD b t=0+fD b t;grind
 | x::a,[]=>by show fD (x::a) t=fD (x::a) t+0;grind
 | x::a,y::b=>by
  show x+y+t*fD (zj a b) t=x+t*fD a t+(y+t*fD b t);rw[xV a b];grind
theorem t5.add{n:Nat}{f g:Rat->Rat}(h1:t5 n f)(h2:t5 n g):t5 n (λx=>f x+g x):=by
 obtain⟨a,a1,a2⟩:=h1;obtain⟨b,b1,b2⟩:=h2;refine⟨zj a b,by rw[uC];nofun,λx=>?_⟩
 show f x+g x=_;rw[xV,a2,b2]
theorem Cs{c x:Rat}:∀l:List Rat,fD (l.map λa=>a*c) x=fD l x*c
 | []=>by show (0:Rat)=0*c;grind
 | a::l=>by
  show a*c+x*fD (l.map λa=>a*c) x=(a+x*fD l x)*c;rw[Cs l];grind
theorem t5.sc{n:Nat}{f:Rat->Rat}(h:t5 n f)(c:Rat):t5 n (λx=>f x*c):=by
 obtain⟨a,a1,a2⟩:=h;refine⟨a.map λa=>a*c,by rw[Yb];exact a1,λx=>?_⟩
 show f x*c=_;rw[Cs,a2]
theorem AV{f:Nat->Rat}:∀n x,gq f n x=fD ((List.range n).map f) x
 | n,x=>by
  have key:∀n j,fD ((List.range n).map λi=>f (j+i)) x*dj x j+gq f j x=gq f (j+n) x:=λn=>by
   induction n with
   | zero =>
    intro j;show 0*_+_=gq f j x;grind
   | succ n ih =>
    intro j;rw[List.range_succ_eq_map,Y4,List.map_map];show (f (j+0)+x*fD ((List.range n).map ((λi=>f (j+i)) ∘ Nat.succ)) x)*dj x j+gq f j x=_;have e:((λi=>f (j+i)) ∘ Nat.succ)=λi=>f (j+1+i):=by
     funext i;show f (j+(i+1))=f (j+1+i);rw[show j+(i+1)=j+1+i by nofun]
    have:=ih (j+1);rw[e,show j+(n+1)=j+1+n by nofun,<-this,qy]
    show _=_+(gq f j x+f j*dj x j);rw[Nat.add_zero];grind
  have:=key n 0;rw[Xq] at this;rw[<-this];have e:(λi=>f (0+i))=f:=by funext i;rw[Xq]
  rw[e];show _*1+0=_;grind
theorem t5.of{f:Nat->Rat}{n:Nat}(h:∀k,n<=k->f k=0)(hn:n<=20):t5 n (EV f):=⟨(List.range n).map f,by simp,λx=>by rw[gL h hn,AV]⟩
section
variable {X:Cx}
def F2(K:W.Frag):V->Option Int->Option Int->Hp->VK->Prop:=λx lo hi H Q=>∃a,x=.ref a /\ ∃xs,vw K H a=some (.tup xs) /\ ¬ (HT.sIx xs.length 0 lo=0/\HT.sIx xs.length xs.length hi=xs.length)/\Nw K H (.tup (ju xs lo hi)) Q
theorem EK:Aj X (F2 X.K):=GH.kf.imp λ_ _ _ _ _ ⟨a,e,xs,h,n,q⟩=>⟨a,xs,e,mE h,n,q.al⟩
end
def JJ(K:W.Frag)(neg:Bool):R2:=λx y H Q=>∃d ds,aW (vw K H) d x/\aW (vw K H) (.lst ds) y/\d.cmp/\(D.lst ds).cmp/\Q (.bl (if neg then !(ds.any λe=>zt e d) else ds.any λe=>zt e d)) H
theorem xG{d:D}:∀ds:List D,(D.pys ds).any (λy=>y.eqv d.py)=ds.any λe=>zt e d
 | []=>by simp only[D.pys];rfl
 | e::ds=>by
  simp only[D.pys,List.any_cons];rw[xG ds];rfl
theorem yh{q:Int×Int}:∀qs:List (Int×Int),((qs.map fr).any λe=>zt e (fr q))=decide (q∈qs)
 | []=>by simp
 | p::qs=>by
  rw[Y4,List.any_cons,yh qs,Cq];by_cases h:p=q
  .subst h;simp
  .have:q≠p:=λz=>h z.symm;simp[h,this]
def Ls(cs:List KW):List Rat:=cs.map λc=>wv c.1
def JZ(cs:List KW)(i:Nat):List Rat:=(Ls cs).take i++(Ls cs).drop (i+1)
def wS:Nat->List Rat
 | 0=>[]
 | n+1=>((n+1:Nat):Int)::wS n
theorem pT:∀{n:Nat}{x:Rat},x∈wS n -> ∃m:Nat,1<=m/\m<=n/\x=((m:Int):Rat)
 | n+1,x,h=>by
  rcases Yh.mp h with rfl|h
  .exact⟨n+1,(),(),rfl⟩
  .obtain⟨m,h1,h2,h3⟩:=pT h;exact⟨m,h1,(),h3⟩
theorem sk:∀n,(wS n).Nodup
 | 0=>List.nodup_nil
 | n+1=>by
  refine XQ.mpr ⟨λh=>?_,sk n⟩;obtain⟨m,_,h2,h3⟩:=pT h;have:=Xa.mp h3;nofun
theorem pU:∀n,(wS n).length=n
 | 0=>rfl
 | n+1=>by show (wS n).length+1=_;rw[pU n]
theorem ux:∀l:List Rat,(∀x,fD l x=0) -> ∀a∈l,a=0
 | [],_,a,h=>by cases h
 | b::l,h,a,ha=>by
  have h0:b=0:=by
   have:=h 0;show b=0;have e:fD (b::l) 0=b+0*fD l 0:=rfl;rw[e] at this;grind
  have hl:∀x,fD l x=0:=pV (wS l.length) l (sk _) (by rw[pU];exact Yn _) λs hs=>by
   obtain⟨m,h1,_,rfl⟩:=pT hs;have:=h ((m:Int):Rat);have e:fD (b::l) ((m:Int):Rat)=b+((m:Int):Rat)*fD l ((m:Int):Rat):=rfl;rw[e,h0] at this;have c:((m:Int):Rat)≠0:=aC ();grind
  rcases Yh.mp ha with rfl|ha
  .exact h0
  .exact ux l hl a ha
theorem pM{f g:Nat->Rat}(hf:∀k,20<=k->f k=0)(hg:∀k,20<=k->g k=0)(h:∀x,EV f x=EV g x)(k:Nat):f k=g k:=by
 rcases Nat.lt_or_ge k 20 with z|z
 .have e:∀x,fD ((List.range 20).map λk=>f k + -1*g k) x=0:=λx=>by
   rw[<-AV,si];have h1:gq (λk=>-1*g k) 20 x = -1*gq g 20 x:=by
    have:∀n,gq (λk=>-1*g k) n x = -1*gq g n x:=λn=>by
     induction n with
     | zero=>show (0:Rat) = -1*0;grind
     | succ n ih =>
      show gq (λk=>-1*g k) n x + -1*g n*dj x n = -1*(gq g n x+g n*dj x n);rw[ih];grind
    exact this 20
   have h2:gq f 20 x=gq g 20 x:=h x;rw[h1,h2];grind
  have:=ux _ e (f k + -1*g k) (YX.mpr ⟨k,List.mem_range.mpr z,rfl⟩);grind
 .rw[hf k z,hg k z]
end L2
namespace L2
open PySem
abbrev Om:=List Bool->Int
def wg:Nat->(Nat->Int)->Om->Om
 | 0,_,_=>λ_=>0
 | m+1,v,o=>λl=>match l with
  | []=>0
  | false::l=>wg m v (λk=>o (false::k)) l
  | true::l=>v m*o (false::l)-wg m v (λk=>o (true::k)) l
theorem kJ{m:Nat}{v:Nat->Int}{o:Om}{l:List Bool}:wg (m+1) v o (false::l)=wg m v (λk=>o (false::k)) l:=rfl
theorem km{m:Nat}{v:Nat->Int}{o:Om}{l:List Bool}:wg (m+1) v o (true::l)=v m*o (false::l)-wg m v (λk=>o (true::k)) l:=rfl
theorem my{v:Nat->Int}{a b:Int}:∀(m:Nat)(o p:Om)(l:List Bool),wg m v (λk=>a*o k+b*p k) l=a*wg m v o l+b*wg m v p l
 | 0,o,p,l=>by show (0:Int)=a*0+b*0;rw[Yz,Yz];rfl
 | m+1,o,p,[]=>by show (0:Int)=a*0+b*0;rw[Yz,Yz];rfl
 | m+1,o,p,false::l=>by
  rw[kJ,kJ,kJ];exact my m _ _ l
 | m+1,o,p,true::l=>by
  rw[km,km,km,my m (λk=>o (true::k)) (λk=>p (true::k)) l];grind
theorem jZ{v:Nat->Int}:∀(m:Nat)(o:Om)(l:List Bool),(∀k,o k=0)->wg m v o l=0
 | 0,o,l,h=>rfl
 | m+1,o,[],h=>rfl
 | m+1,o,false::l,h=>by rw[kJ];exact jZ m _ l λk=>h _
 | m+1,o,true::l,h=>by rw[km,h,jZ m _ l λk=>h _];nofun
theorem gy{v:Nat->Int}{m:Nat}{o p:Om}(h:∀k,o k=p k)(l:List Bool):wg m v o l=wg m v p l:=by
 have:o=p:=funext h;rw[this]
theorem jE{u v:Nat->Int}{a b:Int}:∀(m:Nat)(o:Om)(l:List Bool),wg m (λi=>a*u i+b*v i) o l=a*wg m u o l+b*wg m v o l
 | 0,o,l=>by show (0:Int)=a*0+b*0;rw[Yz,Yz];rfl
 | m+1,o,[]=>by show (0:Int)=a*0+b*0;rw[Yz,Yz];rfl
 | m+1,o,false::l=>by
  rw[kJ,kJ,kJ];exact jE m _ l
 | m+1,o,true::l=>by
  rw[km,km,km,jE m _ l];grind
theorem iC{v:Nat->Int}:∀(m:Nat)(o:Om)(l:List Bool),(∀i,i<m->v i=0)->wg m v o l=0
 | 0,o,l,h=>rfl
 | m+1,o,[],h=>rfl
 | m+1,o,false::l,h=>by rw[kJ];exact iC m _ l λi hi=>h i ()
 | m+1,o,true::l,h=>by rw[km,h m (),iC m _ l λi hi=>h i ()];nofun
theorem jW{u v:Nat->Int}:∀(m:Nat)(o:Om)(l:List Bool),wg m u (wg m v o) l = - wg m v (wg m u o) l
 | 0,o,l=>rfl
 | m+1,o,[]=>rfl
 | m+1,o,false::l=>by
  rw[kJ,kJ];exact jW m (λk=>o (false::k)) l
 | m+1,o,true::l=>by
  rw[km,km,kJ,kJ];have e1:=my (v:=u) (a:=v m) (b:=-1) m (λk=>o (false::k)) (wg m v λk=>o (true::k)) l;have e2:=my (v:=v) (a:=u m) (b:=-1) m (λk=>o (false::k)) (wg m u λk=>o (true::k)) l;have f1:wg m u (λk=>wg (m+1) v o (true::k)) l=wg m u (λk=>v m*o (false::k) + -1*wg m v (λk=>o (true::k)) k) l:=gy (λk=>by rw[km];nofun) l
  have f2:wg m v (λk=>wg (m+1) u o (true::k)) l=wg m v (λk=>u m*o (false::k) + -1*wg m u (λk=>o (true::k)) k) l:=gy (λk=>by rw[km];nofun) l
  have s:=jW (u:=u) (v:=v) m (λk=>o (true::k)) l;rw[f1,f2,e1,e2];grind
theorem yf{v:Nat->Int}(m:Nat)(o:Om)(l:List Bool):wg m v (wg m v o) l=0:=by
 have:=jW (u:=v) (v:=v) m o l;nofun
section
variable (W:Nat->Int)
def fZ(i:Nat):Nat->Int:=λj=>W (i+j)
def vQ:Om:=λl=>if l.all (λb=>!b) then 1 else 0
def om(m:Nat):Nat->Om
 | 0=>vQ
 | k+1=>wg m (fZ W k) (om m k)
def lj:Nat->List Bool
 | 0=>[]
 | m+1=>true::lj m
def kB(j:Nat):Nat->Int:=λi=>if i=j then 1 else 0
def qk(k j:Nat):Int:=wg (k+1) (kB j) (om W (k+1) k) (lj (k+1))
def Dk(k:Nat):Int:=om W k k (lj k)
def Lq(k i:Nat):Int:=wg (k+1) (fZ W i) (om W (k+1) k) (lj (k+1))
end
variable {W:Nat->Int}
theorem ug(m:Nat):∀(k:Nat)(l:List Bool),om W (m+1) k (false::l)=om W m k l
 | 0,l=>by simp[om,vQ]
 | k+1,l=>by
  show wg (m+1) (fZ W k) (om W (m+1) k) (false::l)=wg m (fZ W k) (om W m k) l;rw[kJ];exact gy (λj=>ug m k j) l
theorem xI(m:Nat):∀(k i:Nat)(l:List Bool),i<k->wg m (fZ W i) (om W m k) l=0
 | 0,i,l,h=>by nofun
 | k+1,i,l,h=>by
  show wg m (fZ W i) (wg m (fZ W k) (om W m k)) l=0;by_cases e:i=k
  .rw[e];exact yf m _ l
  .rw[jW,jZ m _ l λj=>xI m k i j ()];rfl
theorem IJ(k:Nat):qk W k k=Dk W k:=by
 show wg (k+1) (kB k) (om W (k+1) k) (true::lj k)=om W k k (lj k);rw[km,ug,iC (v:=kB k) k _ _ λi hi=>Yc ()];show (if k=k then (1:Int) else 0)*_-0=_
 rw[Yg rfl];nofun
theorem Bj{k j:Nat}(h:k<j):qk W k j=0:=iC _ _ _ λi hi=>Yc ()
theorem FV{k i:Nat}(h:i<k):Lq W k i=0:=xI _ k i _ h
theorem Hy(k:Nat):Lq W k k=Dk W (k+1):=rfl
def fV(f:Nat->Int):Nat->Int
 | 0=>0
 | n+1=>fV f n+f n
theorem pF{f g:Nat->Int}:∀n,(∀i,i<n->f i=g i)->fV f n=fV g n
 | 0,_=>rfl
 | n+1,h=>by
  show fV f n+f n=fV g n+g n;rw[pF n λi hi=>h i (),h n ()]
theorem mO{f:Nat->Int}:∀n,(∀i,i<n->f i=0)->fV f n=0
 | 0,_=>rfl
 | n+1,h=>by
  show fV f n+f n=0;rw[mO n λi hi=>h i (),h n ()];rfl
theorem li{f:Nat->Int}{j:Nat}:∀n,(∀i,i<n->i≠j->f i=0)->j<n->fV f n=f j
 | 0,_,h=>by nofun
 | n+1,h,hj=>by
  show fV f n+f n=f j;by_cases e:j=n
  .rw[mO n λi hi=>h i () (),e];nofun
  .rw[li n (λi hi hn=>h i () hn) (),h n () ()];nofun
theorem mH{v:Nat->Int}{M:Nat}{o:Om}{l:List Bool}:∀n,wg M (λi=>fV (λj=>v j*kB j i) n) o l=fV (λj=>v j*wg M (kB j) o l) n
 | 0=>iC _ _ _ λi _=>rfl
 | n+1=>by
  have e:=jE (u:=λi=>fV (λj=>v j*kB j i) n) (v:=kB n) (a:=1) (b:=v n) M o l;have f:(λi=>fV (λj=>v j*kB j i) (n+1))=λi=>1*fV (λj=>v j*kB j i) n+v n*kB n i:=funext λi=>by
   show fV _ n+v n*kB n i=_;rw[YG]
  rw[f,e,mH n];show _=fV _ n+v n*_;rw[YG]
theorem HN(k i:Nat):Lq W k i=fV (λj=>W (i+j)*qk W k j) (k+1):=by
 unfold Lq qk;rw[<-mH (v:=λj=>W (i+j)) (M:=k+1)];have:∀m (o:Om)(l:List Bool)(u v:Nat->Int),(∀i,i<m->u i=v i)->wg m u o l=wg m v o l:=λm o l u v h=>by
  have e:=jE (u:=u) (v:=v) (a:=1) (b:=-1) m o l;rw[iC m o l λi hi=>by rw[h i hi];nofun] at e
  nofun
 refine this _ _ _ _ _ λc hc=>?_;show W (i+c)=_;rw[li (j:=c) (k+1) (λj _ hj=>by unfold kB;rw[Yc (λz=>hj z.symm),Yz]) hc]
 unfold kB;rw[Yg rfl,XM]
end L2
namespace L2
open PySem
variable {W:Nat->Int}
theorem wY{v:Nat->Int}{B C:Nat}(hv:∀i,(v i).natAbs<=B):∀(m:Nat)(o:Om)(l:List Bool),(∀k,(o k).natAbs<=C)->(wg m v o l).natAbs<=m*(B*C)
 | 0,o,l,h=>by simp[wg]
 | m+1,o,[],h=>by simp[wg]
 | m+1,o,false::l,h=>by
  rw[kJ];have:=wY hv m (λk=>o (false::k)) l λk=>h _;rw[X0];nofun
 | m+1,o,true::l,h=>by
  rw[km];have h1:=wY hv m (λk=>o (true::k)) l λk=>h _;have h2:(v m*o (false::l)).natAbs<=B*C:=by rw[YI];exact Xf (hv m) (h _)
  have h3:=Int.natAbs_sub_le (v m*o (false::l)) (wg m v (λk=>o (true::k)) l);rw[X0];nofun
end L2
namespace L2
open PySem PySem.Spec PyProof.Rows
theorem FZ{D n:Int}{a:Nat}{q:Int×Int}(hq:Fq q)(e:wv q=(n:Rat)/(D:Rat))(hD:D≠0)(h1:Bt a n)(h2:Bt a D):Bq a q:=by
 rw[ww hq (qX hD) (by rw[pA hD,e])]
 exact yz hD h1 h2
theorem Jz{D E:Int}{a b:Nat}{f g:Nat->Rat}(hD:D≠0)(hE:E≠0)(h1:Ob D a f)(h2:Ob E b g)(j l:Nat):Ob (D*E) (a+b+j+1) (λk=>qr f g j l k):=by
 have hp:=Ob.pr hD hE h1 h2 j;have hx:Ob (D*E) (a+b) (λk=>if j<=k/\k-j<l then f j*g (k-j) else 0):=λk=>by
  by_cases hc:j<=k/\k-j<l
  .obtain⟨m,e1,b1⟩:=h1 j;obtain⟨n,e2,b2⟩:=h2 (k-j);refine⟨m*n,?_,b1.mul b2⟩;show (if _ then _ else _)=_
   rw[Yg hc,e1,e2,Yi,Yi];have n1:(D:Rat)≠0:=aC hD;have n2:(E:Rat)≠0:=aC hE;grind
  .refine⟨0,?_,by unfold Bt;exact Nat.pow_pos ∅⟩
   show (if _ then _ else _)=_
   rw[Yc hc];have:((0:Int):Rat)=0:=rfl;rw[this];grind
 exact (Ob.add hp hx).mono ()
theorem vt{f g h:Nat->Rat}:∀n,cF (λi=>f i+g i) h n=cF f h n+cF g h n
 | 0=>by show (0:Rat)=0+0;grind
 | n+1=>by
  show cF (λi=>f i+g i) h n+(f n+g n)*h n=(cF f h n+f n*h n)+(cF g h n+g n*h n);rw[vt n];grind
theorem jQ{f h:Nat->Rat}:∀n,(∀i,i<n->f i*h i=0)->cF f h n=0
 | 0,_=>rfl
 | n+1,hz=>by
  show cF f h n+f n*h n=0;rw[jQ n λi hi=>hz i (),hz n ()];grind
theorem mQ{f h:Nat->Rat}{n:Nat}(hz:∀i,n<=i->f i*h i=0):∀m,cF f h (n+m)=cF f h n
 | 0=>rfl
 | m+1=>by
  show cF f h (n+m)+f (n+m)*h (n+m)=cF f h n;rw[mQ hz m,hz (n+m) ()];grind
theorem xR{F G:Nat->Rat}{f g:Nat->Int}{c d:Rat}(hc:c≠0)(hd:d≠0)(hF:∀i,F i=((f i:Int):Rat)/c)(hG:∀i,G i=((g i:Int):Rat)/d):∀n,cF F G n=((fV (λi=>g i*f i) n:Int):Rat)/(c*d)
 | 0=>by
  show (0:Rat)=((0:Int):Rat)/(c*d);have:((0:Int):Rat)=0:=rfl;rw[this];grind
 | n+1=>by
  show cF F G n+F n*G n=((fV (λi=>g i*f i) n+g n*f n:Int):Rat)/(c*d);rw[xR hc hd hF hG n,hF n,hG n,Xp,Yi];grind
section
variable {W:Nat->Int}{B:Int}{k:Nat}{P S:Nat->Rat}
theorem A8(hD:Dk W k≠0)(hB:B≠0)(hP:∀j,P j=((qk W k j:Int):Rat)/((Dk W k:Int):Rat))(hS:∀i,((W i:Int):Rat)=S i*(B:Rat))(i:Nat):cF P (λj=>S (i+j)) (k+1)=((Lq W k i:Int):Rat)/(((Dk W k:Int):Rat)*(B:Rat)):=by
 have cB:(B:Rat)≠0:=aC hB;rw[xR (f:=qk W k) (g:=λj=>W (i+j)) (c:=((Dk W k:Int):Rat)) (d:=(B:Rat)) (aC hD) cB hP (λj=>by have:=hS (i+j);grind),<-HN]
end
theorem ut{f g h:Nat->Rat}:∀n,cF f (λi=>g i+h i) n=cF f g n+cF f h n
 | 0=>by show (0:Rat)=0+0;grind
 | n+1=>by
  show cF f (λi=>g i+h i) n+f n*(g n+h n)=(cF f g n+f n*g n)+(cF f h n+f n*h n);rw[ut n];grind
theorem pG{f h:Nat->Rat}{c:Rat}:∀n,cF (λi=>c*f i) h n=c*cF f h n
 | 0=>by show (0:Rat)=c*0;grind
 | n+1=>by
  show cF (λi=>c*f i) h n+(c*f n)*h n=c*(cF f h n+f n*h n);rw[pG n];grind
theorem vx{f h:Nat->Rat}{c:Rat}:∀n,cF f (λi=>c*h i) n=c*cF f h n
 | 0=>by show (0:Rat)=c*0;grind
 | n+1=>by
  show cF f (λi=>c*h i) n+f n*(c*h n)=c*(cF f h n+f n*h n);rw[vx n];grind
def ip(S u v:Nat->Rat)(m n:Nat):Rat:=cF u (λi=>cF v (λj=>S (i+j)) n) m
theorem iM{S u v:Nat->Rat}{n:Nat}:∀m,ip S u v m n=ip S v u n m
 | 0=>by
  unfold ip;show (0:Rat)=cF v (λj=>0) n;rw[jQ n λi _=>by grind]
 | m+1=>by
  have h:=iM (S:=S) (u:=u) (v:=v) (n:=n) m;unfold ip at h ⊢;show cF u (λi=>cF v (λj=>S (i+j)) n) m+u m*cF v (λj=>S (m+j)) n=cF v (λi=>cF u (λj=>S (i+j)) m+u m*S (i+m)) n;rw[ut,vx,h];congr 2
  exact mX n (λ_ _=>rfl) λi _=>by rw[Nat.add_comm]
section
variable {W:Nat->Int}{B:Int}{S:Nat->Rat}
theorem Ij{k m:Nat}{p v:Nat->Rat}(hD:Dk W k≠0)(hB:B≠0)(hP:∀j,p j=((qk W k j:Int):Rat)/((Dk W k:Int):Rat))(hS:∀i,((W i:Int):Rat)=S i*(B:Rat))(hm:k+1<=m)(n:Nat):ip S v p n m=cF v (λi=>((Lq W k i:Int):Rat)/(((Dk W k:Int):Rat)*(B:Rat))) n:=by
 refine mX n (λ_ _=>rfl) λi _=>?_;rw[<-A8 hD hB hP hS i];have:=mQ (f:=p) (h:=λj=>S (i+j)) (n:=k+1) (λj hj=>by
  have z:((0:Int):Rat)=0:=rfl;rw[hP j,Bj (),z];grind) (m-(k+1))
 rw[show k+1+(m-(k+1))=m by nofun] at this
 exact this
end
theorem xW{v:Nat->Rat}{x c:Rat}:∀n,cF v (λj=>c*dj x j) n=c*gq v n x
 | 0=>by show (0:Rat)=c*0;grind
 | n+1=>by
  show cF v (λj=>c*dj x j) n+v n*(c*dj x n)=c*(gq v n x+v n*dj x n);rw[xW n];grind
theorem E6(y:Rat):0<=y*y:=by
 rcases Rat.le_total (a:=0) (b:=y) with h|h
 .exact Yf h h
 .have:=Yf (Rat.neg_le_neg h) (Rat.neg_le_neg h);grind
section
variable {W:Nat->Int}{B:Int}{cs:List KW}
def Pk(W:Nat->Int)(k:Nat):Nat->Rat:=λj=>((qk W k j:Int):Rat)/((Dk W k:Int):Rat)
theorem IK{k j:Nat}(h:k<j):Pk W k j=0:=by
 have z:((0:Int):Rat)=0:=rfl;unfold Pk;rw[Bj h,z];grind
theorem GL{k:Nat}(h:Dk W k≠0):Pk W k k=1:=by
 have:=aC h;unfold Pk;rw[IJ];grind
end
end L2
namespace L2
open PySem PyProof.Rows
theorem Ln{i:Int}(h:0<=i):Builtin.bitAnd i 1=i%2:=by
 rw[PyProof.Rows.bitAnd_pp h ∅];show ((i.toNat &&& 1:Nat):Int)=_;rw[Nat.and_one_is_mod];nofun
section
variable {X:Cx}
theorem Ep:gk X (binaryOp .BitAnd) (rI (λi j=>0<=i/\j=1) λi j=>.int (i%2)):=Jf λi j _ _ _ _ _ hc q=>by
 obtain⟨h0,rfl⟩:=hc;refine and_int ?_;rw[Ln h0];exact q
end
end L2
namespace L2
open PySem PySem.Spec PyProof.Rows
structure Lm where
 p:Addr
 c:Addr
 ps:Arguments
 b:Expr
 sc:Scope
structure qu (P:Program)(base:Heap):Prop where
 seer:base.NoSeer
 tree:P.given.tree=none
def Fx(_ j:Int):Prop:=j≠0
theorem jC{X:Cx}{k:Nat}(N:qu X.prog X.base)(hr:dz k X.A)(hst:X.stack=X.env::X.outer)(hgen:X.env.scope.isGenerator=false)(hco:X.env.scope.isCoroutine=false) :
  gk X (binaryOp .FloorDiv) (rI Fx λi j=>.int (i.fdiv j)):=by
 intro pins s σ H x y v u Q I rx ry h;obtain⟨i,j,rfl,rfl,hc,q⟩:=h;obtain⟨t,rfl⟩:=rx;obtain⟨t',rfl⟩:=ry;refine floordiv_int hc ⟨.int (i.fdiv j),H,I.tok _,⟨_,rfl⟩,q⟩ (.inr ?_);refine PySem.PylongRoom.of I.nolimit ?_ (PySem.SeerAt.of (N.seer.keeps I.bk) N.tree (I.ok.frames.trans (X7 some hst)) hgen hco I.ok.blt I.ok.glob);have:=hr.dp;show X.A.depth+100<recursionLimit;nofun
end L2
namespace L2
open PySem
def hR(W:Nat->Int)(B:Int)(k:Nat):Rat:=((Dk W (k+1):Int):Rat)/((Dk W k*B:Int):Rat)
theorem Di{v:Nat->Rat}{x:Rat}:EV v x=cF v (λj=>1*dj x j) 20:=by
 rw[xW];unfold EV;grind
def tb:Nat->Nat
 | 0=>1
 | k+1=>tb k+(360*k+280)
def dw(M:Nat):List (Nat->Int)->Om
 | []=>vQ
 | r::rs=>wg M r (dw M rs)
def dt(M:Nat)(rows:List (Nat->Int)):Int:=dw M rows (lj M)
theorem Gw{v:Nat->Int}{m:Nat}{o p:Om}(h:∀k,o k = - p k)(l:List Bool):wg m v o l = - wg m v p l:=by
 have e:=my (v:=v) (a:=-1) (b:=0) m p p l;rw[<-gy (o:=o) (p:=λk=>-1*p k+0*p k) (λk=>by rw[h];nofun) l] at e
 nofun
theorem xP{v:Nat->Int}{a:Int}{m:Nat}{o p:Om}(h:∀k,o k=a*p k)(l:List Bool):wg m v o l=a*wg m v p l:=by
 have e:=my (v:=v) (a:=a) (b:=0) m p p l;rw[<-gy (o:=o) (p:=λk=>a*p k+0*p k) (λk=>by rw[h];nofun) l] at e
 nofun
theorem GT{u v:Nat->Int}{m:Nat}{o:Om}{l:List Bool}(h:∀i,i<m->u i=v i):wg m u o l=wg m v o l:=by
 have e:=jE (u:=u) (v:=v) (a:=1) (b:=-1) m o l;rw[iC m o l λi hi=>by rw[h i hi];nofun] at e
 nofun
def Pm(x y:Int):Prop:=x=y\/x = -y
theorem Pm.rfl'{x:Int}:Pm x x:=.inl rfl
theorem Pm.symm{x y:Int}(h:Pm x y):Pm y x:=by rcases h with e|e<;>unfold Pm<;>nofun
theorem Pm.trans{x y z:Int}(h:Pm x y)(g:Pm y z):Pm x z:=by rcases h with e|e<;>rcases g with f|f<;>unfold Pm<;>nofun
theorem Pm.mul{x y:Int}(h:Pm x y)(a:Int):Pm (a*x) (a*y):=by
 rcases h with e|e
 .exact .inl (by rw[e])
 .exact .inr (by rw[e,Int.mul_neg])
theorem Pm.of_mul{a x y:Int}(h:Pm (a*x) (a*y))(ha:a≠0):Pm x y:=by
 rcases h with e|e
 .exact .inl (Int.eq_of_mul_eq_mul_left ha e)
 .exact .inr (Int.eq_of_mul_eq_mul_left ha (by rw[e,Int.mul_neg]))
theorem we{M:Nat}{x:Nat->Int}:∀{rows:List (Nat->Int)},x∈rows -> ∀l,wg M x (dw M rows) l=0
 | [],h,_=>by cases h
 | y::rs,h,l=>by
  show wg M x (wg M y (dw M rs)) l=0;rcases Yh.mp h with rfl|z
  .exact yf M _ l
  .rw[jW,jZ M _ l λk=>we z k];rfl
theorem Fv{M:Nat}{a b:List (Nat->Int)}(h:a.Perm b):(∀l,dw M a l=dw M b l) \/ ∀l,dw M a l = - dw M b l:=by
 induction h with
 | nil=>exact .inl λ_=>rfl
 | cons x _ ih =>
  rcases ih with e|e
  .exact .inl λl=>gy e l
  .exact .inr λl=>Gw e l
 | swap x y l=>exact .inr λk=>jW M _ k
 | trans _ _ ih1 ih2 =>
  rcases ih1 with e|e<;>rcases ih2 with f|f
  .exact .inl λl=>by rw[e,f]
  .exact .inr λl=>by rw[e,f]
  .exact .inr λl=>by rw[e,f]
  .exact .inl λl=>by rw[e,f];nofun
theorem tG{M:Nat}{a b:List (Nat->Int)}(h:a.Perm b):Pm (dt M a) (dt M b):=by
 rcases Fv (M:=M) h with e|e
 .exact .inl (e _)
 .exact .inr (e _)
theorem vq{m:Nat}:∀(rs:List (Nat->Int))(l:List Bool),dw (m+1) rs (false::l)=dw m rs l
 | [],l=>by simp[dw,vQ]
 | r::rs,l=>by
  show wg (m+1) r (dw (m+1) rs) (false::l)=wg m r (dw m rs) l;rw[kJ];exact gy (λk=>vq rs k) l
theorem xi{m:Nat}:∀{rs:List (Nat->Int)},(∀r∈rs,r m=0) -> ∀l,dw (m+1) rs (true::l)=0
 | [],_,l=>by simp[dw,vQ]
 | r::rs,h,l=>by
  show wg (m+1) r (dw (m+1) rs) (true::l)=0;rw[km,h r Ye,jZ m _ l λk=>xi (λx hx=>h x (Yd _ hx)) k];nofun
theorem Ja{m:Nat}{r:Nat->Int}{rs:List (Nat->Int)}(h:∀x∈rs,x m=0):dt (m+1) (r::rs)=r m*dt m rs:=by
 show wg (m+1) r (dw (m+1) rs) (true::lj m)=r m*dw m rs (lj m);rw[km,vq,jZ m _ _ λk=>xi h k];nofun
def st(g:Nat->Nat->Int)(lo:Nat):Nat->List (Nat->Int)
 | 0=>[]
 | n+1=>g (lo+n)::st g lo n
theorem kG{g:Nat->Nat->Int}{lo:Nat}{x:Nat->Int}:∀{n:Nat},x∈st g lo n -> ∃i,i<n/\x=g (lo+i)
 | 0,h=>by cases h
 | n+1,h=>by
  rcases Yh.mp h with rfl|z
  .exact⟨n,(),rfl⟩
  .obtain⟨i,hi,e⟩:=kG z;exact⟨i,(),e⟩
theorem AR{g:Nat->Nat->Int}{lo i:Nat}:∀{n:Nat},i<n->g (lo+i)∈st g lo n
 | 0,h=>by nofun
 | n+1,h=>by
  by_cases e:i=n
  .rw[e];exact Ye
  .exact Yd _ (AR ())
theorem wJ(g:Nat->Nat->Int)(lo n:Nat):∀m,st g lo (n+m)=st g (lo+n) m++st g lo n
 | 0=>rfl
 | m+1=>by
  show g (lo+(n+m))::st g lo (n+m)=g (lo+n+m)::(st g (lo+n) m++st g lo n);rw[wJ g lo n m,Nat.add_assoc]
theorem jK{g:Nat->Nat->Int}{c:Int}{d0 lo:Nat}{X:List (Nat->Int)}(h1:∀i,g i (d0+i)=c)(h2:∀i k,d0+i<k->g i k=0)(hX:∀x∈X,∀k,d0+lo<=k->x k=0):∀n,dt (d0+lo+n) (st g lo n++X)=c^n*dt (d0+lo) X
 | 0=>by show dt (d0+lo) X=c^0*_;rw[XD,YG]
 | n+1=>by
  show dt (d0+lo+n+1) (g (lo+n)::(st g lo n++X))=_;rw[Ja,jK h1 h2 hX n,show d0+lo+n=d0+(lo+n) by nofun,h1,XE,Y2 (c^n) c,YJ]
  intro x hx;rcases YK.mp hx with z|z
  .obtain⟨i,hi,rfl⟩:=kG z;exact h2 _ _ ()
  .exact hX x z _ ()
def uf(M:Nat)(X:List (Nat->Int))(v:Nat->Int):Prop:=∀rows:List (Nat->Int),(∀x∈X,x∈rows) -> ∀l,wg M v (dw M rows) l=0
theorem uf.mem{M:Nat}{X:List (Nat->Int)}{v:Nat->Int}(h:v∈X):uf M X v:=λrows hr l=>we (hr v h) l
theorem uf.zero{M:Nat}{X:List (Nat->Int)}:uf M X λ_=>0:=λrows _ l=>iC M _ l λ_ _=>rfl
theorem uf.lin{M:Nat}{X:List (Nat->Int)}{u v:Nat->Int}{a b:Int}(hu:uf M X u)(hv:uf M X v):uf M X λk=>a*u k+b*v k:=λrows hr l=>by
 rw[jE,hu rows hr l,hv rows hr l];nofun
theorem uf.sum{M:Nat}{X:List (Nat->Int)}{q:Nat->Int}{g:Nat->Nat->Int}:∀n,(∀i,i<n->g i∈X)->uf M X λk=>fV (λi=>q i*g i k) n
 | 0,_=>uf.zero
 | n+1,h=>by
  have e:=uf.lin (a:=1) (b:=q n) (uf.sum (q:=q) n λi hi=>h i ()) (uf.mem (M:=M) (h n ()));have f:(λk=>1*fV (λi=>q i*g i k) n+q n*g n k)=λk=>fV (λi=>q i*g i k) (n+1):=by
   funext k;show 1*_+_=fV _ n+q n*g n k;nofun
  rw[f] at e;exact e
theorem Cy{M:Nat}{f r:Nat->Nat->Int}{c b:Int}{X:List (Nat->Int)}:∀n,(∀i,i<n -> ∃v,uf M X v /\ ∀k,c*f i k=b*r i k+v k) -> ∀l,c^n*dw M (st f 0 n++X) l=b^n*dw M (st r 0 n++X) l
 | 0,_,l=>by rw[XD,XD];rfl
 | n+1,h,l=>by
  have ih:=Cy n λi hi=>h i ();obtain⟨v,hv,e⟩:=h n ();show c^(n+1)*wg M (f (0+n)) (dw M (st f 0 n++X)) l=b^(n+1)*wg M (r (0+n)) (dw M (st r 0 n++X)) l;rw[Xq];have e1:c^n*wg M (f n) (dw M (st f 0 n++X)) l=b^n*wg M (f n) (dw M (st r 0 n++X)) l:=by
   rw[<-xP (o:=λk=>c^n*dw M (st f 0 n++X) k) (λ_=>rfl) l,<-xP (o:=λk=>b^n*dw M (st r 0 n++X) k) (λ_=>rfl) l];exact gy ih l
  have e2:c*wg M (f n) (dw M (st r 0 n++X)) l=b*wg M (r n) (dw M (st r 0 n++X)) l:=by
   have a1:=jE (u:=f n) (v:=f n) (a:=c) (b:=0) M (dw M (st r 0 n++X)) l;have a2:=jE (u:=r n) (v:=v) (a:=b) (b:=1) M (dw M (st r 0 n++X)) l;rw[hv _ (λx hx=>YT _ hx) l] at a2;have a3:(λi=>c*f n i+0*f n i)=λi=>b*r n i+1*v i:=by
    funext k;have:=e k;nofun
   rw[a3,a2] at a1;nofun
  rw[XE,XE,Y2 (c^n) c,YJ,e1,Int.mul_left_comm,e2,YJ]
theorem Hs{M:Nat}{f r:Nat->Nat->Int}{c b:Int}{X:List (Nat->Int)}(n:Nat)(h:∀i,i<n -> ∃v,uf M X v /\ ∀k,c*f i k=b*r i k+v k):c^n*dt M (st f 0 n++X)=b^n*dt M (st r 0 n++X):=Cy n h _
def sh(f:Nat->Int)(i k:Nat):Int:=if i<=k then f (k-i) else 0
def Ej(j k:Nat):List (Nat->Int):=((List.range (j+1)).filter λi=>decide (i≠k)).map kB
theorem wk{j k:Nat}{x:Nat->Int}(h:x∈Ej j k) {m:Nat}(hm:j<m):x m=0:=by
 obtain⟨i,hi,rfl⟩:=YX.mp h;have:=List.mem_range.mp (Xe.mp hi).1;exact Yc ()
theorem Cn:∀n,st kB 0 n=((List.range n).reverse).map kB
 | 0=>rfl
 | n+1=>by
  rw[List.range_succ,List.reverse_append];show kB (0+n)::st kB 0 n=kB n::_;rw[Cn n,Xq];rfl
theorem D3(n:Nat):dt n (st kB 0 n)=1:=by
 have e:=jK (g:=kB) (c:=1) (d0:=0) (lo:=0) (X:=[]) (λi=>by rw[Xq];exact Yg rfl) (λi k h=>Yc ()) (λx hx=>by cases hx) n
 rw[Xv,Int.one_pow,Xq,Xq] at e;rw[e];rfl
theorem ym{j k:Nat}(h:k<=j):(kB k::Ej j k).Perm (st kB 0 (j+1)):=by
 rw[Cn];show (List.map kB (k::(List.range (j+1)).filter λi=>decide (i≠k))).Perm _;refine List.Perm.map _ (List.Perm.trans ?_ (List.reverse_perm _).symm);have nd:(List.range (j+1)).Nodup:=List.nodup_range;have e:(List.range (j+1)).filter (λi=>decide (i≠k))=(List.range (j+1)).erase k:=by
  rw[nd.erase_eq_filter];congr 1
  funext i;by_cases z:i=k
  .simp[z]
  .simp[z]
 rw[e];exact (List.perm_cons_erase (List.mem_range.mpr ())).symm
theorem A9{j k:Nat}{R:Nat->Int}(h:k<=j):Pm (dt (j+1) (R::Ej j k)) (R k):=by
 have e:dt (j+1) (R::Ej j k)=R k*dt (j+1) (kB k::Ej j k):=by
  show wg (j+1) R (dw (j+1) (Ej j k)) (lj (j+1))=R k*wg (j+1) (kB k) (dw (j+1) (Ej j k)) (lj (j+1));have e1:wg (j+1) R (dw (j+1) (Ej j k)) (lj (j+1))=wg (j+1) (λi=>fV (λa=>R a*kB a i) (j+1)) (dw (j+1) (Ej j k)) (lj (j+1)):=GT λi hi=>by
   rw[li (j:=i) (j+1) (λa _ ha=>by rw[show kB a i=0 from Yc (λz=>ha z.symm)];nofun) hi,show kB i i=1 from Yg rfl]
   nofun
  rw[e1,mH];refine li (j+1) (λi hi hn=>?_) ();have z:kB i∈Ej j k:=YX.mpr ⟨i,Xe.mpr ⟨List.mem_range.mpr hi,Xo hn⟩,rfl⟩;rw[we z];nofun
 rw[e];have p:=(tG (M:=j+1) (ym h)).mul (R k);rw[D3,XM] at p;exact p
def SR(f g:Nat->Int)(a b j k:Nat):Int:=dt (a+b-j) (st (sh f) 0 (b-j)++(st (sh g) 0 (a-j)++Ej j k))
theorem vF{f:Nat->Int}{a i:Nat}:sh f i (a+i)=f a:=by
 unfold sh;rw[Yg (),show a+i-i=a by nofun]
theorem mV{f:Nat->Int}{a:Nat}(h:∀k,a<k->f k=0) {i k:Nat}(hk:a+i<k):sh f i k=0:=by
 unfold sh;rw[Yg ()];exact h _ ()
def cv(q g:Nat->Int)(n k:Nat):Int:=fV (λt=>q t*sh g t k) n
theorem Hq{q g:Nat->Int}{i n:Nat}:∀k,sh (cv q g n) i k=fV (λt=>q t*sh g (i+t) k) n:=λk=>by
 unfold sh;by_cases h:i<=k
 .rw[Yg h];refine pF n λt _=>?_;show q t*(if t<=k-i then g (k-i-t) else 0)=q t*(if i+t<=k then g (k-(i+t)) else 0)
  by_cases z:t<=k-i
  .rw[Yg z,Yg (),show k-i-t=k-(i+t) by nofun]
  .rw[Yc z,Yc ()]
 .rw[Yc h];refine (mO n λt _=>?_).symm;rw[Yc ()];exact Yz _
theorem AG{f g q r:Nat->Int}{a b j k:Nat}{γ β:Int}(ab:b<=a)(jb:j<=b)(e:∀k,γ*f k=cv q g (a-b+1) k+β*r k) :
  γ^(b-j)*SR f g a b j k=β^(b-j)*dt (a+b-j) (st (sh r) 0 (b-j)++(st (sh g) 0 (a-j)++Ej j k)):=by
 refine Hs (b-j) λi hi=>⟨λk=>fV (λt=>q t*sh g (i+t) k) (a-b+1),uf.sum (g:=λt=>sh g (i+t)) _ λt ht=>XZ _ ?_,λk=>?_⟩
 .have:=AR (g:=sh g) (lo:=0) (i:=i+t) (n:=a-j) ()
  rwa [Xq] at this
 .show γ*sh f i k=β*sh r i k+fV (λt=>q t*sh g (i+t) k) (a-b+1);rw[<-Hq];unfold sh;by_cases h:i<=k
  .rw[Yg h,Yg h,Yg h,e];nofun
  .rw[Yc h,Yc h,Yc h];nofun
theorem EM{f g q r:Nat->Int}{a b d j k:Nat}{γ β c:Int}(ab:b<=a)(db:d<b)(jd:j<=d)(hg:g b=c)(g0:∀k,b<k->g k=0)(r0:∀k,d<k->r k=0)(e:∀k,γ*f k=cv q g (a-b+1) k+β*r k) :
  Pm (γ^(b-j)*SR f g a b j k) (β^(b-j)*(c^(a-d)*SR g r b d j k)):=by
 rw[AG ab () e];refine Pm.mul ?_ _;have p:(st (sh r) 0 (b-j)++(st (sh g) 0 (a-j)++Ej j k)).Perm (st (sh g) (d-j) (a-d)++(st (sh g) 0 (d-j)++(st (sh r) 0 (b-j)++Ej j k))):=by
  have s:=wJ (sh g) 0 (d-j) (a-d);rw[show d-j+(a-d)=a-j by nofun,Xq] at s
  rw[s,<-YZ,<-YZ,<-YZ,<-YZ];refine List.Perm.append_right _ ?_;rw[YZ,YZ];exact (List.perm_append_comm).trans (by rw[YZ])
 refine (tG p).trans ?_;rw[show a+b-j=b+(d-j)+(a-d) by nofun,jK (d0:=b) (c:=c) (λi=>by rw[vF];exact hg) (λi k h=>mV g0 h) ?_ (a-d)]
 .rw[show b+(d-j)=b+d-j by nofun]
  exact Pm.rfl'
 .intro x hx k hk;rcases YK.mp hx with z|z
  .obtain⟨i,hi,rfl⟩:=kG z;exact mV g0 ()
  .rcases YK.mp z with z|z
   .obtain⟨i,hi,rfl⟩:=kG z;exact mV r0 ()
   .exact wk z ()
theorem xq(x:Int):x^1=x:=by rw[XE,XD,YG]
theorem DG{f g q r:Nat->Int}{a b k:Nat}{c:Int}(ab:b<=a)(hb:1<=b)(hk:k<b)(hg:g b=c)(hc:c≠0)(g0:∀k,b<k->g k=0)(r0:∀k,b<=k->r k=0)(e:∀k,c^(a-b+1)*f k=cv q g (a-b+1) k+r k) :
  Pm (SR f g a b (b-1) k) (r k):=by
 refine Pm.of_mul (a:=c^(a-b+1)) ?_ (Xk hc);have s:=AG (j:=b-1) (k:=k) (q:=q) (g:=g) (f:=f) (γ:=c^(a-b+1)) (β:=1) ab () (r:=r) (λk=>by rw[e k];nofun)
 rw[show b-(b-1)=1 by nofun,xq,xq,YG] at s
 rw[s,show a+b-(b-1)=b+0+(a-b+1) by nofun,show a-(b-1)=a-b+1 by nofun]
 have p:(st (sh r) 0 1++(st (sh g) 0 (a-b+1)++Ej (b-1) k)).Perm (st (sh g) 0 (a-b+1)++(sh r 0::Ej (b-1) k)):=by
  show (sh r (0+0)::(st (sh g) 0 (a-b+1)++Ej (b-1) k)).Perm _;exact List.perm_middle.symm
 refine (tG p).trans ?_;rw[jK (d0:=b) (c:=c) (λi=>by rw[vF];exact hg) (λi k h=>mV g0 h) ?_ (a-b+1)]
 .refine Pm.mul ?_ _;have d:=A9 (j:=b-1) (k:=k) (R:=sh r 0) ();rw[show b-1+1=b+0 by nofun] at d
  refine d.trans (.inl ?_);show sh r 0 k=r k;unfold sh;rw[Yg (),Nat.sub_zero]
 .intro x hx m hm;rcases Yh.mp hx with rfl|z
  .unfold sh;rw[Yg ()];exact r0 _ ()
  .exact wk z ()
theorem Ex{f g:Nat->Int}{a b:Nat}{c:Int}(ab:b<a)(hg:g b=c)(g0:∀k,b<k->g k=0):Pm (SR f g a b b b) (c^(a-b)):=by
 unfold SR;rw[show b-b=0 by nofun]
 show Pm (dt (a+b-b) (st (sh g) 0 (a-b)++Ej b b)) _;obtain⟨n,hn⟩ : ∃n,a-b=n+1:=⟨a-b-1,()⟩;have s:=wJ (sh g) 0 1 n;rw[show 1+n=n+1 by nofun] at s
 rw[hn,s,show a+b-b=b+1+n by nofun,YZ,jK (d0:=b) (lo:=1) (c:=c) (λi=>by rw[vF];exact hg) (λi k h=>mV g0 h) ?_ n]
 .rw[XE];refine Pm.mul ?_ _;have d:=A9 (j:=b) (k:=b) (R:=sh g 0) ();have e:sh g 0 b=c:=by
   unfold sh;rw[Yg (),Nat.sub_zero,hg]
  rw[e] at d;exact d
 .intro x hx m hm;rcases YK.mp hx with z|z
  .obtain⟨i,hi,rfl⟩:=kG z;exact mV g0 ()
  .exact wk z ()
theorem Bw{M C:Nat}(hM:1<=M*C):∀{rows:List (Nat->Int)},(∀r∈rows,∀i,(r i).natAbs<=C) -> ∀l,(dw M rows l).natAbs<=(M*C)^rows.length
 | [],_,l=>by
  show (vQ l).natAbs<=1;unfold vQ;split<;>decide
 | r::rs,h,l=>by
  have ih:=Bw hM (λx hx=>h x (Yd _ hx));have:=wY (h r Ye) M (dw M rs) l ih;show (wg M r (dw M rs) l).natAbs<=(M*C)^(rs.length+1);rw[X4,X3 _ (M*C),Nat.mul_assoc];exact this
theorem sU{g:Nat->Nat->Int}{lo:Nat}:∀n,(st g lo n).length=n
 | 0=>rfl
 | n+1=>by
  show (st g lo n).length+1=n+1;rw[sU n]
theorem Ci{j k:Nat}(h:k<=j):(Ej j k).length=j:=by
 have:=(ym h).length_eq;rw[sU] at this;simp at this;exact this
theorem BM{f:Nat->Int}{C:Nat}(h:∀i,(f i).natAbs<=C)(i k:Nat):(sh f i k).natAbs<=C:=by
 unfold sh;split
 .exact h _
 .exact Y3 _
theorem KD(a:Int)(m n:Nat):a^(m+n)=a^m*a^n:=Int.pow_add a m n
theorem imp(a b:Int)(n:Nat):(a*b)^n=a^n*b^n:=Int.mul_pow
theorem Kw(a:Int)(m n:Nat):(a^m)^n=a^(m*n):=Int.pow_mul.symm
theorem KO{h h' c:Int}{e m:Nat}(H:h'*h^e=c^(e+1)):h^((e+1)*(m+1))*c^(e+1+(m+1))*h'^m=c^((e+2)*(m+1))*h^(e+1+m):=by
 have k:h'^m*h^(e*m)=c^((e+1)*m):=by rw[<-Kw,<-imp,H,Kw]
 have e1:(e+1)*(m+1)=e*m+(e+1+m):=by simp only[Nat.mul_add,X0];nofun
 have e2:(e+2)*(m+1)=(e+1)*m+(e+1+(m+1)):=by simp only[Nat.mul_add,X0];nofun
 rw[e1,e2,KD h,KD c ((e+1)*m),<-k];generalize h^(e*m)=u;generalize h^(e+1+m)=v;generalize c^(e+1+(m+1))=w;generalize h'^m=z;grind
structure qh (S1:Nat->Nat->Int)(F G:Nat->Int)(A B:Nat)(x h:Int):Prop where
 ba:B<=A
 x0:x≠0
 h0:h≠0
 one:A=B->h=1
 main:∀j k,j<=B->k<=j->Pm (SR F G A B j k) (x^(B-j)*(h^(A-j-1)*S1 j k))
theorem qh.first{F G:Nat->Int}{A B:Nat}(h:B<=A):qh (SR F G A B) F G A B 1 1:=⟨h,∅,∅,λ_=>rfl,λj k _ _=>.inl (by rw[Int.one_pow,Int.one_pow,YG,YG])⟩
section
variable {S1:Nat->Nat->Int}{F G q R r:Nat->Int}{A B d:Nat}{x h c h':Int}
theorem qh.rest(I:qh S1 F G A B x h)(hg:G B=c)(hc:c≠0)(g0:∀k,B<k->G k=0)(r0:∀k,B<=k->R k=0)(e:∀k,c^(A-B+1)*F k=cv q G (A-B+1) k+R k)(k:Nat)(hk:k<B):Pm (R k) (x*h^(A-B)*S1 (B-1) k):=by
 have s:=(DG I.ba () hk hg hc g0 r0 e).symm.trans (I.main (B-1) k () ());rw[show B-(B-1)=1 by nofun,xq,show A-(B-1)-1=A-B by have:=I.ba;nofun,<-YJ] at s
 exact s
theorem qh.high(I:qh S1 F G A B x h)(hg:G B=c)(g0:∀k,B<k->G k=0)(ab:B<A):Pm (c^(A-B)) (h^(A-B-1)*S1 B B):=by
 have s:=(Ex (f:=F) ab hg g0).symm.trans (I.main B B () ());rw[show B-B=0 by nofun,XD,YG] at s
 exact s
theorem qh.step(I:qh S1 F G A B x h)(hg:G B=c)(hc:c≠0)(g0:∀k,B<k->G k=0)(e:∀k,c^(A-B+1)*F k=cv q G (A-B+1) k+x*h^(A-B)*r k)(r0:∀k,d<k->r k=0)(hd:d<B)(n0:h'≠0)(hh:A=B/\h'=h\/B<A/\h'*h^(A-B-1)=c^(A-B)):qh S1 G r B d c h':=by
 refine⟨(),hc,n0,λz=>by nofun,λj k hj hk=>?_⟩
 have ab:=I.ba;have s:=EM (k:=k) I.ba hd hj hg g0 r0 e;have m:=(I.main j k () hk).mul ((c^(A-B+1))^(B-j));have p:=s.symm.trans m;refine Pm.of_mul (a:=(x*h^(A-B))^(B-j)*c^(A-d)) ?_ (YL (Xk (YL I.x0 (Xk I.h0))) (Xk hc));rw[YJ];refine p.trans (.inl ?_);obtain⟨n,hn⟩ : ∃n,B-j=n+1:=⟨B-j-1,()⟩;rw[show B-j-1=n by nofun,hn,imp,Kw,Kw,show A-j-1=A-B+n by nofun]
 have key:h^((A-B)*(n+1))*c^(A-d)*(c^(d-j)*h'^n)=c^((A-B+1)*(n+1))*h^(A-B+n):=by
  have e1:c^(A-d)*c^(d-j)=c^(A-B+(n+1)):=by rw[<-KD];congr 1;nofun
  rw[YJ,<-YJ (c^(A-d)),e1,<-YJ];rcases hh with ⟨z1,z2⟩|⟨z1,z2⟩
  .have h1:=I.one z1;rw[z2,h1,Int.one_pow,Int.one_pow,Int.one_pow,show A-B=0 by nofun,YG,XM,XM]
   congr 1
   nofun
  .obtain⟨e',he⟩ : ∃e',A-B=e'+1:=⟨A-B-1,()⟩;rw[show A-B-1=e' by nofun,he] at z2
   rw[he];exact KO z2
 generalize h^((A-B)*(n+1))=u at *
 generalize h^(A-B+n)=v at *
 generalize c^((A-B+1)*(n+1))=w at *
 generalize c^(A-d)=y at *
 generalize c^(d-j)=y' at *
 generalize h'^n=z at *
 generalize x^(n+1)=t at *
 generalize S1 j k=S at *
 have k2:t*(u*y*(y'*z))*S=t*(w*v)*S:=by rw[key]
 grind
end
theorem oH{f f' g:Nat->Rat}:∀n,(∀i,i<n->f i=f' i) -> ∀k,pr f g n k=pr f' g n k
 | 0,_,_=>rfl
 | n+1,h,k=>by
  show pr f g n k+(if n<=k then f n*g (k-n) else 0)=pr f' g n k+(if n<=k then f' n*g (k-n) else 0)
  rw[oH n (λi hi=>h i ()) k,h n ()]
theorem ue{q q' g r r':Nat->Rat}{n n' d:Nat}(hg:∀j,d<j->g j=0)(hd:g d≠0)(hr:∀k,d<=k->r k=0)(hr':∀k,d<=k->r' k=0)
  (h:∀k,pr q g n k+r k=pr q' g n' k+r' k):∀k,r k=r' k :=
 (v8 (q:=λi=>if i<n then q i else 0) (q':=λi=>if i<n' then q' i else 0) (n:=n) (n':=n') (λi hi=>Yc ()) (λi hi=>Yc ()) hg hd hr hr' λk=>by
  rw[oH n (f':=q) (λi hi=>Yg hi),oH n' (f':=q') (λi hi=>Yg hi)];exact h k).2
theorem F1{q g:Nat->Int}{k:Nat}:∀n,cv q g n k=pz q g n k
 | 0=>rfl
 | n+1=>by
  show cv q g n k+q n*sh g n k=pz q g n k+if n<=k then q n*g (k-n) else 0
  rw[F1 n];unfold sh;split
  .rfl
  .rw[Yz]
theorem Bt.pm{n:Nat}{x y:Int}(h:Bt n x)(p:Pm y x):Bt n y:=by
 unfold Bt at *
 rcases p with e|e<;>nofun
theorem Bt.pow{b:Nat}{x:Int}(h:Bt b x):∀n,1<=n->Bt (b*n) (x^n)
 | 0,h0=>by nofun
 | 1,_=>by rw[xq,Nat.mul_one];exact h
 | n+2,_=>by
  rw[XE,Nat.mul_succ];exact (Bt.pow h (n+1) ()).mul h
theorem Bt.pow1{b:Nat}{x:Int}(h:Bt b x)(n:Nat):Bt (b*n+1) (x^n):=by
 cases n with
 | zero=>rw[XD];exact Bt.mono (m:=1) ∅ ()
 | succ n=>exact (Bt.pow h (n+1) ()).mono ()
theorem iQ{q g:Nat->Int}{n k:Nat}:((pz q g n k:Int):Rat)=pr (λi=>(q i:Rat)) (λi=>(g i:Rat)) n k:=by
 rw[sB (F:=λi=>(q i:Rat)) (G:=λi=>(g i:Rat)) (c:=1) (d:=1) (λi=>by grind) (λi=>by grind)]
 grind
def fO(ns:List Int)(k:Nat):Rat:=((nz ns k:Int):Rat)
theorem FM{l:List Int}{k:Nat}(h:l.length<=k):fO l k=0:=by
 show ((nz l k:Int):Rat)=0;rw[aS h];rfl
end L2
namespace L2
open PySem PySem.Spec PyProof.Rows
theorem AH{X:Cx}{k:Nat}{env:Env}{l:List Env}(N:qu X.prog X.base)(hr:dz k X.A)(hst:X.stack=env::l)(hgen:env.scope.isGenerator=false)(hco:env.scope.isCoroutine=false)(hb:env.builtins=builtinsNs)(hg:env.globals=mainGlobals) :
  gk X (binaryOp .FloorDiv) (rI Fx λi j=>.int (i.fdiv j)):=by
 intro pins s σ H x y v u Q I rx ry h;obtain⟨i,j,rfl,rfl,hc,q⟩:=h;obtain⟨t,rfl⟩:=rx;obtain⟨t',rfl⟩:=ry;refine floordiv_int hc ⟨.int (i.fdiv j),H,I.tok _,⟨_,rfl⟩,q⟩ (.inr ?_);refine PySem.PylongRoom.of I.nolimit ?_ (PySem.SeerAt.of (N.seer.keeps I.bk) N.tree (I.ok.frames.trans (X7 some hst)) hgen hco hb hg);have:=hr.dp;show X.A.depth+100<recursionLimit;nofun
theorem EW{f g:Nat->Int}{a b j k B:Nat}(ha:a<=8)(hb:b<=a)(jb:j<=b)(kj:k<=j)(hB:1<=B)(hf:∀i,(f i).natAbs<2^B)(hg:∀i,(g i).natAbs<2^B):(SR f g a b j k).natAbs<2^(65+16*B):=by
 by_cases h0:a+b-j=0
 .have:SR f g a b j k=1:=by
   unfold SR;rw[h0,show b-j=0 by nofun,show a-j=0 by nofun]
   have:Ej j k=[]:=Xz.mp (by rw[Ci kj];nofun)
   rw[show st (sh f) 0 0++(st (sh g) 0 0++Ej j k)=Ej j k from rfl,this]
   rfl
  rw[this];exact Nat.one_lt_two_pow ()
 obtain⟨C,hC⟩ : ∃C,C=2^B:=⟨_,rfl⟩;have c1:1<=C:=hC▸Nat.one_le_two_pow;have r:=Bw (M:=a+b-j) (C:=C) (rows:=st (sh f) 0 (b-j)++(st (sh g) 0 (a-j)++Ej j k)) (Nat.mul_pos () c1) (λr hr i=>by
  rcases YK.mp hr with z|z
  .obtain⟨i',_,rfl⟩:=kG z;exact BM (λi=>by have:=hf i;nofun) _ _
  .rcases YK.mp z with z|z
   .obtain⟨i',_,rfl⟩:=kG z;exact BM (λi=>by have:=hg i;nofun) _ _
   .obtain⟨i',_,rfl⟩:=YX.mp z;unfold kB;split<;>simp<;>nofun) (lj (a+b-j))
 have hl:(st (sh f) 0 (b-j)++(st (sh g) 0 (a-j)++Ej j k)).length=a+b-j:=by
  rw[Yx,Yx,sU,sU,Ci kj];nofun
 rw[hl] at r;have e1:((a+b-j)*C)^(a+b-j)<=(16*C)^16:=YB (Nat.pow_le_pow_left (Xg _ ()) _) (Xx () ());have e2:(16*C)^16<2^(65+16*B):=by
  rw[Nat.mul_pow,hC,<-Nat.pow_mul,XR,X3 B 16];exact Nat.mul_lt_mul_of_pos_right ∅ Nat.one_le_two_pow
 unfold SR dt;nofun
structure wR (Z:Nat)(S1:Nat->Nat->Int)(F G:Nat->Int)(A B:Nat)(x h:Int):Prop where
 inv:qh S1 F G A B x h
 a6:A<=8
 bS:∀j k,j<=B->k<=j->Bt Z (S1 j k)
 bF:∀k,Bt Z (F k)
 bG:∀k,Bt Z (G k)
 bx:Bt Z x
 bh:Bt Z h
 g1:G B≠0
 g0:∀k,B<k->G k=0
 f0:∀k,A<k->F k=0
theorem wR.first{F G:Nat->Int}{A B b:Nat}(h:B<=A)(ha:A<=8)(hb:1<=b)(bF:∀k,Bt b (F k))(bG:∀k,Bt b (G k))(g1:G B≠0)(g0:∀k,B<k->G k=0)(f0:∀k,A<k->F k=0):wR (65+16*b) (SR F G A B) F G A B 1 1 :=
 ⟨.first h,ha,λj k hj hk=>EW ha h hj hk hb bF bG,λk=>(bF k).mono (),λk=>(bG k).mono (),Bt.mono (m:=1) ∅ (),Bt.mono (m:=1) ∅ (),g1,g0,f0⟩
section
variable {Z:Nat}{S1:Nat->Nat->Int}{F G q R:Nat->Int}{A B:Nat}{x h:Int}
theorem wR.rest(I:wR Z S1 F G A B x h)(r0:∀k,B<=k->R k=0)(e:∀k,G B^(A-B+1)*F k=pz q G (A-B+1) k+R k) :
  ∃(r:Nat->Int)(h':Int),(∀k,R k=x*h^(A-B)*r k)/\(∀k,Bt Z (r k))/\(∀k,B<=k->r k=0)/\h'≠0/\Bt Z h'/\(A=B/\h'=h\/B<A/\h'*h^(A-B-1)=G B^(A-B)) /\
   ∀d,d<B->r d≠0->(∀k,d<k->r k=0)->wR Z S1 G r B d (G B) h':=by
 have e':∀k,G B^(A-B+1)*F k=cv q G (A-B+1) k+R k:=λk=>by rw[F1];exact e k
 have dv:∀k,∃y:Int,R k=x*h^(A-B)*y/\Bt Z y/\(B<=k->y=0):=λk=>by
  by_cases hk:k<B
  .have p:=I.inv.rest rfl I.g1 I.g0 r0 e' k hk;have b:=I.bS (B-1) k () ();rcases p with z|z
   .exact⟨_,z,b,λ_=>by nofun⟩
   .exact⟨- S1 (B-1) k,by rw[z,Int.mul_neg],b.pm (.inr rfl),λ_=>by nofun⟩
  .exact⟨0,by rw[r0 k (),Yz],gv,λ_=>rfl⟩
 have hi:∃h':Int,h'≠0/\Bt Z h'/\(A=B/\h'=h\/B<A/\h'*h^(A-B-1)=G B^(A-B)):=by
  by_cases ab:A=B
  .exact⟨h,I.inv.h0,I.bh,.inl ⟨ab,rfl⟩⟩
  .have ba:=I.inv.ba;have p:=I.inv.high rfl I.g0 ();have b:=I.bS B B () ();have nz:G B^(A-B)≠0:=Xk I.g1;rcases p with z|z
   .exact⟨S1 B B,λy=>nz (by rw[z,y,Yz]),b,.inr ⟨(),by rw[z,Y2]⟩⟩
   .exact⟨- S1 B B,λy=>nz (by rw[z,show S1 B B=0 by nofun,Yz];rfl),b.pm (.inr rfl),.inr ⟨(),by rw[z,Int.neg_mul,Y2]⟩⟩
 obtain⟨h',n0,bh',hh⟩:=hi;refine⟨λk=>(dv k).choose,h',λk=>(dv k).choose_spec.1,λk=>(dv k).choose_spec.2.1,λk hk=>(dv k).choose_spec.2.2 hk,n0,bh',hh,λd hd rd rz=>?_⟩;refine⟨I.inv.step (q:=q) rfl I.g1 I.g0 (λk=>?_) rz hd n0 hh,YB I.inv.ba I.a6,λj k hj hk=>I.bS j k () hk,I.bG,λk=>(dv k).choose_spec.2.1,I.bG B,bh',rd,rz,I.g0⟩;rw[<-(dv k).choose_spec.1];exact e' k
end
def iZ(b:Nat)(ns:List Int):Prop:=ns.length<=9/\(∀x∈ns,Bt b x)/\(ns≠[]->nz ns (ns.length-1)≠0)
theorem iZ.up{b c:Nat}{l:List Int}(h:iZ b l)(bc:b<=c):iZ c l:=⟨h.1,λx hx=>(h.2.1 x hx).mono bc,h.2.2⟩
theorem rh{q:List (Int×Int)}(h:fR q)(n:q≠[]):cf q (q.length-1)≠0:=by
 have hl:0<q.length:=Yy.mpr n;have e:q[q.length-1]? = some (q[q.length-1]'()):=Ya ();rw[fu e];intro z;refine h.2 _ (by rw[YV,e]) ?_
 exact (oj (h.1 _ (Yp _)).ne).mp z
def ab(a b:Rat):List (List Int×List Int×Int×Int)->Nat->Rat×Rat
 | _,0=>(a,b)
 | [],_+1=>(a,b)
 | row::rows,n+1=>ab b (-(a*(row.2.2.1:Rat))/(row.2.2.2:Rat)) rows n
theorem uR{X:Cx}{k:Nat}{env:Env}{l:List Env}(N:qu X.prog X.base)(hr:dz k X.A)(hst:X.stack=env::l)(hgen:env.scope.isGenerator=false)(hco:env.scope.isCoroutine=false)(hb:env.builtins=builtinsNs)(hg:env.globals=mainGlobals) :
  gk X (binaryOp .FloorDiv) (rI Fx λi j=>.int (i.fdiv j)):=by
 intro pins s σ H x y v u Q I rx ry h;obtain⟨i,j,rfl,rfl,hc,q⟩:=h;obtain⟨t,rfl⟩:=rx;obtain⟨t',rfl⟩:=ry;refine floordiv_int hc ⟨.int (i.fdiv j),H,I.tok _,⟨_,rfl⟩,q⟩ (.inr ?_);refine PySem.PylongRoom.of I.nolimit ?_ (PySem.SeerAt.of (N.seer.keeps I.bk) N.tree (I.ok.frames.trans (X7 some hst)) hgen hco hb hg);have:=hr.dp;show X.A.depth+100<recursionLimit;nofun
end L2
namespace L2
open PySem
section
variable {S u u' v v':Nat->Rat}{m n:Nat}
theorem FP{m':Nat}(h:∀i,m<=i->u i=0)(hm:m<=m'):ip S u v m' n=ip S u v m n:=by
 obtain⟨d,rfl⟩ : ∃d,m'=m+d:=⟨m'-m,()⟩;exact mQ (λi hi=>by rw[h i hi];grind) d
theorem CH:ip S (λi=>u i+u' i) v m n=ip S u v m n+ip S u' v m n:=vt _
theorem C1{c:Rat}:ip S (λi=>c*u i) v m n=c*ip S u v m n:=pG _
theorem Iq:ip S u (λi=>v i+v' i) m n=ip S u v m n+ip S u v' m n:=by
 rw[iM,CH,iM,iM (u:=v')]
theorem IU{c:Rat}:ip S u (λi=>c*v i) m n=c*ip S u v m n:=by
 rw[iM,C1,iM]
theorem AM(h:∀i,u i=u' i):ip S u v m n=ip S u' v m n:=by rw[show u=u' from funext h]
end
section
variable {W:Nat->Int}{B:Int}{S:Nat->Rat}
theorem Gi{k n m:Nat}{v:Nat->Rat}(hD:Dk W k≠0)(hB:B≠0)(hS:∀i,((W i:Int):Rat)=S i*(B:Rat))(hm:k+1<=m):ip S v (Pk W k) n m=cF v (λi=>((Lq W k i:Int):Rat)/(((Dk W k:Int):Rat)*(B:Rat))) n:=Ij hD hB (λ_=>rfl) hS hm n
theorem jo(c:Rat):0<=c*c:=E6 c
theorem pd(hB:0<B)(hS:∀i,((W i:Int):Rat)=S i*(B:Rat)):∀m,(∀i,i<=m->0<Dk W i) -> ∀r:Nat->Rat,(∀i,m<=i->r i=0)->0<=ip S r r m m/\(ip S r r m m=0 -> ∀i,r i=0)
 | 0,_,r,hr=>⟨Rat.le_refl,λ_ i=>hr i (Y3 _)⟩
 | m+1,hD,r,hr=>by
  have dm:=hD m ();have dn:Dk W m≠0:=();have d1:=hD (m+1) (Yn _);have bn:B≠0:=();obtain⟨r',hr'⟩ : ∃r':Nat->Rat,∀i,r' i=r i + -(r m)*Pk W m i:=⟨_,λ_=>rfl⟩;have z':∀i,m<=i->r' i=0:=λi hi=>by
   rw[hr'];by_cases e:i=m
   .rw[e,GL dn];grind
   .rw[IK (),hr i ()];grind
  obtain⟨p1,p2⟩:=pd hB hS m (λi hi=>hD i ()) r' z';have er:∀i,r i=r' i+r m*Pk W m i:=λi=>by rw[hr'];grind
  obtain⟨c,hc⟩ : ∃c,c=r m:=⟨_,rfl⟩;obtain⟨h,hh⟩ : ∃h:Rat,h=((Dk W (m+1):Int):Rat)/(((Dk W m:Int):Rat)*(B:Rat)):=⟨_,rfl⟩;have h0:0<h:=by
   rw[hh,XJ];refine Yo (by exact_mod_cast d1) (Rat.inv_pos.mpr (Yo (by exact_mod_cast dm) (by exact_mod_cast hB)))
  have e1:ip S r' (Pk W m) (m+1) (m+1)=0:=by
   rw[Gi dn bn hS (Yn _)];refine jQ _ λi hi=>?_;by_cases e:i=m
   .rw[z' i ()];grind
   .rw[FV ()];have z0:((0:Int):Rat)=0:=rfl;rw[z0];grind
  have e2:ip S r (Pk W m) (m+1) (m+1)=c*h:=by
   rw[Gi dn bn hS (Yn _)];show cF r _ m+r m*(((Lq W m m:Int):Rat)/_)=_;rw[jQ m λi hi=>by rw[FV hi,show ((0:Int):Rat)=0 from rfl];grind,Hy,hc,hh]
   grind
  have e3:ip S r r (m+1) (m+1)=ip S r' r' m m+c*c*h:=by
   have a1:ip S r r (m+1) (m+1)=ip S r' r (m+1) (m+1)+c*ip S (Pk W m) r (m+1) (m+1):=by
    rw[AM (u':=λi=>r' i+c*Pk W m i) λi=>by rw[er i,hc],CH,C1]
   have a2:ip S r' r (m+1) (m+1)=ip S r' r' (m+1) (m+1)+c*ip S r' (Pk W m) (m+1) (m+1):=by
    have er':r=λi=>r' i+c*Pk W m i:=funext λi=>by rw[er i,hc]
    have:ip S r' r (m+1) (m+1)=ip S r' (λi=>r' i+c*Pk W m i) (m+1) (m+1):=by rw[<-er']
    rw[this,Iq,IU]
   rw[a1,a2,e1,iM (u:=Pk W m),e2,FP z' (),iM,FP z' ()];grind
  have sq:=Yf (jo c) (Yl h0);refine⟨by rw[e3];grind,λe=>?_⟩
  rw[e3] at e;have q1:ip S r' r' m m=0:=⋯;have q2:c*c*h=0:=⋯;have c0:c=0:=by
   have hn:h≠0:=⋯;have:c*c=0:=⋯;grind
  intro i;rw[er i,p2 q1 i,<-hc,c0];grind
end
end L2
namespace L2
open PySem PySem.Spec PyProof.Rows
theorem Dm{X:Cx}{k:Nat}(N:qu X.prog X.base)(hr:dz k X.A)(hst:X.stack=X.env::X.outer)(hgen:X.env.scope.isGenerator=false)(hco:X.env.scope.isCoroutine=false) :
  Gh X .FloorDiv (λx y H Q=>∃i j,x=.int i/\y=.int j/\Fx i j/\Q (.int (i.fdiv j)) H):=by
 intro pins s σ H x y v u Q I r1 r2 h;obtain⟨i,j,rfl,rfl,m,q⟩:=h;obtain⟨t,rfl⟩:=r1;obtain⟨t',rfl⟩:=r2;refine ifloordiv_int m ⟨.int _,H,I.tok _,⟨_,rfl⟩,q⟩ (.inr ?_);refine PySem.PylongRoom.of I.nolimit ?_ (PySem.SeerAt.of (N.seer.keeps I.bk) N.tree (I.ok.frames.trans (X7 some hst)) hgen hco I.ok.blt I.ok.glob);have:=hr.dp;show X.A.depth+100<recursionLimit;nofun
def Bd(n:Nat)(f:Nat->Rat):Prop:=∀i,n<=i->f i=0
def Tp(d:Nat)(f:Nat->Rat):Prop:=f d≠0/\Bd (d+1) f
theorem Bd.mono{m n:Nat}{f:Nat->Rat}(h:Bd m f)(l:m<=n):Bd n f:=λi hi=>h i ()
theorem Bd.tp:∀{n:Nat}{f:Nat->Rat},Bd n f->(∀i,f i=0) \/ ∃d,d<n/\Tp d f
 | 0,f,h=>.inl λi=>h i (Y3 _)
 | n+1,f,h=>by
  by_cases e:f n=0
  .rcases Bd.tp (n:=n) (f:=f) (λi hi=>by
    by_cases z:i=n
    .rw[z,e]
    .exact h i ()) with z|⟨d,hd,t⟩
   .exact .inl z
   .exact .inr ⟨d,(),t⟩
  .exact .inr ⟨n,(),e,h⟩
theorem kI{f:Nat->Rat}(h:∀i,f i=0)(x:Rat):EV f x=0:=by
 rw[gL (n:=0) (λk _=>h k) ∅];rfl
theorem jG{f g:Nat->Rat}{c:Rat}(x:Rat):EV (λi=>f i+c*g i) x=EV f x+c*EV g x:=by
 have:EV (λi=>c*g i) x=c*EV g x:=by rw[Di,Di (v:=g),pG]
 rw[sI,this]
theorem Bd.pr{m n:Nat}{f g:Nat->Rat}(hg:Bd n g):Bd (m+n) (λk=>L2.pr f g m k):=λk hk=>gu hg _ _ ()
theorem Hl{m n:Nat}{f g:Nat->Rat}(hf:Bd m f)(hg:Bd n g)(h:m+n<=20)(x:Rat):EV (λk=>pr f g m k) x=EV f x*EV g x:=by
 rw[vT hg m h,gL hf (),gL hg ()]
theorem FS{f g:Nat->Rat}{c:Rat}(k:Nat):DF (λi=>f i+c*g i) k=DF f k+c*DF g k:=by
 show (((k+1:Nat):Int):Rat)*(f (k+1)+c*g (k+1))=(((k+1:Nat):Int):Rat)*f (k+1)+c*((((k+1:Nat):Int):Rat)*g (k+1));grind
theorem BR{g:Nat->Rat}{m:Nat}(bg:Bd m g):∀(n:Nat)(f h:Nat->Rat),Bd n f->n+m<=19->Bd 20 h->(∀x,EV h x=EV f x*EV g x) -> ∀x,EV (DF h) x=EV (DF f) x*EV g x+EV f x*EV (DF g) x
 | 0,f,h,bf,l,bh,e,x=>by
  have f0:∀i,f i=0:=λi=>bf i (Y3 _);have h0:∀i,h i=0:=pM bh (g:=λ_=>0) (λ_ _=>rfl) λx=>by rw[e x,kI f0,kI (f:=λ_=>0) λ_=>rfl];grind
  rw[kI (f:=DF h) λi=>by show _*h (i+1)=0;rw[h0];grind,kI (f:=DF f) λi=>by show _*f (i+1)=0;rw[f0];grind,kI f0]
  grind
 | n+1,f,h,bf,l,bh,e,x=>by
  obtain⟨f1,hf1⟩ : ∃f1:Nat->Rat,∀k,f1 k=f (k+1):=⟨_,λ_=>rfl⟩;have b1:Bd n f1:=λi hi=>by rw[hf1,bf _ ()]
  obtain⟨one,h1⟩ : ∃one:Nat->Rat,∀k,one k=if k=0 then 1 else 0:=⟨_,λ_=>rfl⟩
  have one1:∀x,EV one x=1:=λx=>by
   rw[gL (n:=1) (λk hk=>by rw[h1,Yc ()]) ∅]
   show 0+one 0*1=(1:Rat);rw[h1,Yg rfl];grind
  have ef:∀k,f k=lin 0 1 f1 k+f 0*one k:=λk=>by
   cases k with
   | zero=>show f 0=f1 0*0+f 0*one 0;rw[h1,Yg rfl];grind
   | succ k=>show f (k+1)=f1 (k+1)*0+f1 k*1+f 0*one (k+1);rw[h1,Yc (),hf1];grind
  have z1:f1 19=0:=b1 _ ();have vf:∀x,EV f x=x*EV f1 x+f 0:=λx=>by rw[eN ef,jG,sj z1,one1];grind
  have df:∀x,EV (DF f) x=x*EV (DF f1) x+EV f1 x:=λx=>by
   have:∀k,DF f k=lin 0 1 (DF f1) k+f1 k:=λk=>by
    rw[show f=λk=>lin 0 1 f1 k+f 0*one k from funext ef,FS,Cp]
    have:DF one k=0:=by show _*one (k+1)=0;rw[h1,Yc ()];grind
    rw[this];grind
   rw[eN this,sI,sj (by show _*f1 20=0;rw[b1 _ ()];grind)]
   grind
  obtain⟨u,hu⟩ : ∃u:Nat->Rat,u=λk=>pr f1 g n k:=⟨_,rfl⟩;have bu:Bd 19 u:=by rw[hu];exact (Bd.pr bg).mono ()
  have vu:∀x,EV u x=EV f1 x*EV g x:=λx=>by rw[hu,Hl b1 bg ()]
  have ih:=BR bg n f1 u b1 () (bu.mono ()) vu;have eh:∀k,h k=lin 0 1 u k+f 0*g k:=pM bh (λk hk=>by
   obtain⟨j,rfl⟩ : ∃j,k=j+1:=⟨k-1,()⟩;show u (j+1)*0+u j*1+f 0*g (j+1)=0;rw[bu j (),bg _ ()];grind) λx=>by rw[e x,vf,jG,sj (bu 19 ()),vu];grind
  have dh:EV (DF h) x=x*EV (DF u) x+EV u x+f 0*EV (DF g) x:=by
   have:∀k,DF h k=(λk=>lin 0 1 (DF u) k+u k) k+f 0*DF g k:=λk=>by
    rw[show h=λk=>lin 0 1 u k+f 0*g k from funext eh,FS,Cp]
   rw[eN this,jG,sI,sj (by show _*u 20=0;rw[bu _ ()];grind)]
   grind
  rw[dh,ih,vu,df,vf];grind
theorem Lo{Φ:Nat->Prop}:∀{n:Nat},Φ n -> ∃m,Φ m /\ ∀k,Φ k->m<=k:=by
 intro n;induction n using Nat.strongRecOn with
 | ind n ih =>
  intro h;by_cases e:∃k,Φ k/\k<n
  .obtain⟨k,hk,l⟩:=e;exact ih k l hk
  .exact⟨n,h,λk hk=>Yt λz=>e ⟨k,hk,()⟩⟩
inductive m7:List Int->List Int->List (List Int×List Int×Int×Int)->Prop
 | nought {F:List Int}:m7 F [] []
 | last {F G Q:List Int}{S:Int}:G≠[]->nz G (G.length-1)≠0->S≠0->Q.length+G.length=F.length+1->(∀k,S*nz F k=pz (nz Q) (nz G) Q.length k)->m7 F G []
 | more {F G R Q:List Int}{T S:Int}{rows:List (List Int×List Int×Int×Int)}:G≠[]->nz G (G.length-1)≠0->S≠0->T≠0->R≠[]->nz R (R.length-1)≠0->R.length<G.length->Q.length+G.length=F.length+1->(∀k,S*nz F k=pz (nz Q) (nz G) Q.length k+T*nz R k)->m7 G R rows->m7 F G ((R,Q,T,S)::rows)
def fM(G:List Int):List (List Int×List Int×Int×Int)->List Int
 | []=>G
 | row::rows=>fM row.1 rows
theorem cy(l:List Int):Bd l.length (fO l):=λi hi=>FM hi
theorem jA{F G R Q:List Int}{S T:Int}(lq:Q.length+G.length<=20)(e:∀k,S*nz F k=pz (nz Q) (nz G) Q.length k+T*nz R k)(x:Rat):(S:Rat)*EV (fO F) x=EV (fO Q) x*EV (fO G) x+(T:Rat)*EV (fO R) x:=by
 have c:∀k,(λk=>0+(S:Rat)*fO F k) k=(λk=>pr (fO Q) (fO G) Q.length k) k+(T:Rat)*fO R k:=λk=>by
  have:=e k;have z:((S*nz F k:Int):Rat)=((pz (nz Q) (nz G) Q.length k+T*nz R k:Int):Rat):=by rw[this]
  rw[Yi,Xp,Yi,iQ] at z;show 0+(S:Rat)*((nz F k:Int):Rat)=pr (λi=>((nz Q i:Int):Rat)) (λi=>((nz G i:Int):Rat)) Q.length k+(T:Rat)*((nz R k:Int):Rat);grind
 have h1:=eN c x;rw[jG,jG,Hl (cy Q) (cy G) lq,kI (f:=λ_=>0) λ_=>rfl] at h1;grind
def sg(x:Rat):Int:=if 0<x then 1 else if x<0 then -1 else 0
theorem cn{x:Rat}(h:0<x):sg x=1:=Yg h
theorem dM{x:Rat}(h:x<0):sg x = -1:=by
 unfold sg;rw[Yc ⋯,Yg h]
theorem iE:sg 0=0:=by decide +kernel
theorem bA(x:Rat):(0<x/\sg x=1)\/(x<0/\sg x = -1)\/(x=0/\sg x=0):=by
 by_cases h:0<x
 .exact .inl ⟨h,cn h⟩
 .by_cases h2:x<0
  .exact .inr (.inl ⟨h2,dM h2⟩)
  .obtain rfl:x=0:=⋯;exact .inr (.inr ⟨rfl,iE⟩)
theorem Gq{x:Rat}:sg x=1↔0<x:=by
 refine⟨λh=>?_,cn⟩;rcases bA x with ⟨a,_⟩|⟨_,b⟩|⟨_,b⟩
 .exact a
 .nofun
 .nofun
theorem Cm{x:Rat}:sg x = -1↔x<0:=by
 refine⟨λh=>?_,dM⟩;rcases bA x with ⟨_,b⟩|⟨a,_⟩|⟨_,b⟩
 .nofun
 .exact a
 .nofun
theorem dJ{x:Rat}:sg x=0↔x=0:=by
 refine⟨λh=>?_,λh=>by rw[h];exact iE⟩
 rcases bA x with ⟨_,b⟩|⟨_,b⟩|⟨a,_⟩
 .nofun
 .nofun
 .exact a
theorem gm{x y:Rat}:sg (x*y)=sg x*sg y:=by
 rcases bA x with ⟨a,e⟩|⟨a,e⟩|⟨a,e⟩<;>rcases bA y with ⟨b,f⟩|⟨b,f⟩|⟨b,f⟩<;>rw[e,f]
 .exact cn (Yo a b)
 .exact dM (by have:=Yo a (show 0 < -y by grind);grind)
 .rw[b];exact dJ.mpr ⋯
 .exact dM (by have:=Yo (show 0 < -x by grind) b;grind)
 .exact cn (by have:=Yo (show 0 < -x by grind) (show 0 < -y by grind);grind)
 .rw[b];exact dJ.mpr ⋯
 .rw[a];exact dJ.mpr ⋯
 .rw[a];exact dJ.mpr ⋯
 .rw[a];exact dJ.mpr ⋯
def Sm(e x:Rat):Prop:=-e<=x/\x<=e
theorem Sm.mono{a b x:Rat}(h:Sm a x)(l:a<=b):Sm b x:=by
 unfold Sm at h ⊢;grind
theorem Sm.mul{B e q g:Rat}(h:Sm B q)(h2:Sm e g):Sm (B*e) (q*g):=by
 obtain⟨a1,a2⟩:=h;obtain⟨b1,b2⟩:=h2;have p1:=Yf (show 0<=B-q by grind) (show 0<=e+g by grind)
 have p2:=Yf (show 0<=B+q by grind) (show 0<=e-g by grind)
 have p3:=Yf (show 0<=B-q by grind) (show 0<=e-g by grind)
 have p4:=Yf (show 0<=B+q by grind) (show 0<=e+g by grind)
 constructor
 .grind
 .grind
theorem Sm.add{a b x y:Rat}(h:Sm a x)(h2:Sm b y):Sm (a+b) (x+y):=by
 unfold Sm at *
 grind
theorem Sm.neg{a x:Rat}(h:Sm a x):Sm a (-x):=by
 unfold Sm at *
 grind
theorem Sm.sub{a b x y:Rat}(h:Sm a x)(h2:Sm b y):Sm (a+b) (x-y):=by
 unfold Sm at *
 grind
def Wi(R x:Rat):Prop:=-R<=x/\x<=R
def ir(R:Rat)(f:Rat->Rat):Prop:=∃B:Rat,0<B /\ ∀x,Wi R x->Sm B (f x)
def vy(R:Rat)(f:Rat->Rat):Prop:=∃L:Rat,0<L /\ ∀x y,Wi R x->Wi R y->x<=y->Sm (L*(y-x)) (f y-f x)
theorem oV{u v e:Rat}(h:Sm e (v-u))(n:¬ (sg u=sg v/\sg u≠0)):Sm e u/\Sm e v:=by
 unfold Sm at *
 rcases bA u with ⟨a,e1⟩|⟨a,e1⟩|⟨a,e1⟩<;>rcases bA v with ⟨b,e2⟩|⟨b,e2⟩|⟨b,e2⟩<;>first|(exfalso;exact n ⟨e1.trans e2.symm,λz=>absurd (e1.symm.trans z) ∅⟩)|grind
def chg:Int->List Int->Nat
 | _,[]=>0
 | l,s::r=>if s=0 then chg l r else (if s = -l then 1 else 0)+chg s r
theorem qw{l:Int}{r:List Int}:chg l (0::r)=chg l r:=Yg rfl
theorem m9{l s:Int}{r:List Int}(h:s≠0):chg l (s::r)=(if s = -l then 1 else 0)+chg s r:=Yc h
theorem nA{s:Int}{r:List Int}(h:s≠0):chg 0 (s::r)=chg s r:=by
 rw[m9 h,Yc (),Xq]
def fK(x:Rat)(l:List (Rat->Rat)):List Int:=l.map λf=>sg (f x)
inductive Ch (R:Rat):(Rat->Rat)->List (Rat->Rat)->Prop
 | one {f:Rat->Rat}{c:Rat}:c≠0->(∀x,f x=c)->Ch R f []
 | two {f g:Rat->Rat}:vy R f->Ch R g []->Ch R f [g]
 | more {f g h q:Rat->Rat}{a b:Rat}{l:List (Rat->Rat)}:vy R f->ir R q->0<a->0<b->(∀x,a*f x=q x*g x-b*h x)->Ch R g (h::l)->Ch R f (g::h::l)
theorem Ch.lip{R:Rat}{f:Rat->Rat}{l:List (Rat->Rat)}(h:Ch R f l):vy R f:=by
 cases h with
 | one _ e=>exact⟨1,∅,λx y _ _ l=>by rw[e,e];unfold Sm;grind⟩
 | two h _=>exact h
 | more h _ _ _ _ _=>exact h
def cY(R:Rat)(f g:Rat->Rat):Prop:=∃e:Rat,0<e /\ ∀x,Wi R x->Sm e (f x)->Sm e (g x)->False
theorem Ch.notBoth{R:Rat}{f:Rat->Rat}{l:List (Rat->Rat)}(h:Ch R f l):∀g r,l=g::r->cY R f g:=by
 induction h with
 | one _ _=>intro g r e;cases e
 | @two f g _ hg =>
  intro g' r e;cases e;cases hg with
  | @one _ c c0 ec =>
   rcases bA c with ⟨a,_⟩|⟨a,_⟩|⟨a,_⟩
   .exact⟨c/2,⋯,λx _ _ s=>by rw[ec] at s;unfold Sm at s;grind⟩
   .exact⟨-c/2,⋯,λx _ _ s=>by rw[ec] at s;unfold Sm at s;grind⟩
   .exact absurd a c0
 | @more f g h q a b l _ hq a0 b0 e _ ih =>
  intro g' r e';cases e';obtain⟨B,B0,hB⟩:=hq;obtain⟨ε,ε0,hε⟩:=ih h l rfl;have s0:0<B+a+b:=⋯;have t0:0<b/(B+a+b):=by rw[YN s0];grind
  refine⟨ε*(b/(B+a+b)),Yo ε0 t0,λx wx sf sg'=>hε x wx ?_ ?_⟩
  .refine sg'.mono ?_;have t1:b/(B+a+b)<=1:=X6.mp λz=>by rw[YN s0] at z;grind
   have:=Yf (Yl ε0) (show 0<=1-b/(B+a+b) by grind)
   grind
  .obtain⟨t,ht⟩ : ∃t,t=ε*(b/(B+a+b)):=⟨_,rfl⟩;rw[<-ht] at sf sg';have tt:t*(B+a+b)=ε*b:=by rw[ht];grind
   have s1:=((hB x wx).mul sg').sub (Sm.mul (B:=a) (q:=a) ⟨⋯,⋯⟩ sf);have e1:q x*g x-a*f x=b*h x:=by have:=e x;grind
   rw[e1] at s1;obtain⟨u1,u2⟩:=s1;have tp:0<t:=by rw[ht];exact Yo ε0 t0
   have tb:=Yo tp b0;have k:B*t+a*t<=b*ε:=⋯;constructor
   .refine X6.mp λz=>?_;have:=Yo b0 (show 0 < -ε-h x by grind)
    grind
   .refine X6.mp λz=>?_;have:=Yo b0 (show 0<h x-ε by grind)
    grind
theorem Bu{R a b:Rat}{f g h q:Rat->Rat}(hq:ir R q)(a0:0<a)(b0:0<b)(e:∀x,a*f x=q x*g x-b*h x)(nb:cY R g h):∃η:Rat,0<η /\ ∀x,Wi R x->Sm η (g x)->sg (f x) = -sg (h x)/\sg (h x)≠0:=by
 obtain⟨B,B0,hB⟩:=hq;obtain⟨ε,ε0,hε⟩:=nb;have s0:0<B+b:=⋯;have t0:0<b/(B+b):=by rw[YN s0];grind
 refine⟨ε*(b/(B+b)),Yo ε0 t0,λx wx s=>?_⟩;have t1:b/(B+b)<=1:=X6.mp λz=>by rw[YN s0] at z;grind
 have s2:Sm ε (g x):=s.mono (by
  have:=Yf (Yl ε0) (show 0<=1-b/(B+b) by grind)
  grind)
 have nh:¬ Sm ε (h x):=λz=>hε x wx s2 z;obtain⟨t,ht⟩ : ∃t,t=ε*(b/(B+b)):=⟨_,rfl⟩;rw[<-ht] at s;have tt:t*(B+b)=ε*b:=by rw[ht];grind
 have tp:0<t:=by rw[ht];exact Yo ε0 t0
 have s1:=(hB x wx).mul s;have e1:=e x;have tb:=Yo tp b0;obtain⟨u1,u2⟩:=s1;by_cases hp:ε<h x
 .have p1:=Yo b0 (show 0<h x-ε by grind)
  have fn:f x<0:=X5.mp λz=>by
   have:=Yf (Yl a0) z;grind
  exact⟨by rw[dM fn,cn ⋯],by rw[cn ⋯];decide⟩
 .have hn:h x < -ε:=by
   unfold Sm at nh;grind
  have p1:=Yo b0 (show 0 < -ε-h x by grind)
  have fp:0<f x:=X5.mp λz=>by
   have:=Yf (Yl a0) (show 0 <= -f x by grind)
   grind
  exact⟨by rw[cn fp,dM ⋯];decide,by rw[dM ⋯];decide⟩
def F7(R:Rat)(f:Rat->Rat)(l:List (Rat->Rat)):Prop:=∃δ:Rat,0<δ /\ ∀c d,Wi R c->Wi R d->c<=d->d-c<=δ->sg (f c)=sg (f d)->sg (f c)≠0->chg (sg (f c)) (fK c l)=chg (sg (f d)) (fK d l)
theorem ko{a b c:Rat}(h1:0<a)(h2:0<b)(h3:0<c):∃m:Rat,0<m/\m<=a/\m<=b/\m<=c:=by
 by_cases x:a<=b
 .by_cases y:a<=c
  .exact⟨a,h1,⋯,x,y⟩
  .exact⟨c,h3,⋯,⋯,⋯⟩
 .by_cases y:b<=c
  .exact⟨b,h2,⋯,⋯,y⟩
  .exact⟨c,h3,⋯,⋯,⋯⟩
theorem vy.near{R:Rat}{f:Rat->Rat}(h:vy R f) {e:Rat}(e0:0<e):∃δ:Rat,0<δ /\ ∀c d,Wi R c->Wi R d->c<=d->d-c<=δ->Sm e (f d-f c):=by
 obtain⟨L,L0,hL⟩:=h;have p:0<e/L:=by rw[YN L0];grind
 refine⟨e/L,p,λc d wc wd l n=>(hL c d wc wd l).mono ?_⟩;have:=Yf (Yl L0) (show 0<=e/L-(d-c) by grind)
 have z:L*(e/L)=e:=⋯;grind
theorem yT{s t:Int}{r:List Int}(hs:s=1\/s = -1)(ht:t=0\/t=1\/t = -1):chg s (t::(-s)::r)=1+chg (-s) r:=by
 rcases hs with rfl|rfl<;>rcases ht with rfl|rfl|rfl<;>simp[chg]
theorem cA(x:Rat):sg x=0\/sg x=1\/sg x = -1:=by
 rcases bA x with ⟨_,e⟩|⟨_,e⟩|⟨_,e⟩
 .exact .inr (.inl e)
 .exact .inr (.inr e)
 .exact .inl e
theorem Ch.keeps{R:Rat}{f:Rat->Rat}{l:List (Rat->Rat)}(h:Ch R f l):F7 R f l /\ ∀g r,l=g::r->F7 R g r:=by
 induction h with
 | one _ _=>exact⟨⟨1,∅,λ_ _ _ _ _ _ _ _=>rfl⟩,λg r e=>by cases e⟩
 | @two f g lf hg ih =>
  refine⟨?_,λg' r e=>by cases e;exact ih.1⟩
  cases hg with
  | @one _ c c0 ec =>
   refine⟨1,∅,λc' d' _ _ _ _ e _=>?_⟩;show chg _ [sg (g c')]=chg _ [sg (g d')];rw[ec,ec,e]
 | @more f g h q a b l lf hq a0 b0 e hg ih =>
  refine⟨?_,λg' r e=>by cases e;exact ih.1⟩
  obtain⟨η,η0,op⟩:=Bu hq a0 b0 e (hg.notBoth h l rfl);obtain⟨δ1,d1,k1⟩:=ih.1;obtain⟨δ2,d2,k2⟩:=ih.2 h l rfl;obtain⟨δ3,d3,k3⟩:=hg.lip.near η0;obtain⟨δ,d0,m1,m2,m3⟩:=ko d1 d2 d3;refine⟨δ,d0,λc d wc wd cd n ef nf=>?_⟩;show chg _ (sg (g c)::fK c (h::l))=chg _ (sg (g d)::fK d (h::l));by_cases same:sg (g c)=sg (g d)/\sg (g c)≠0
  .rw[m9 same.2,m9 (by rw[<-same.1];exact same.2),k1 c d wc wd cd ⋯ same.1 same.2,same.1,ef]
  .obtain⟨sc,sd⟩:=oV (k3 c d wc wd cd ⋯) same;obtain⟨oc,nc⟩:=op c wc sc;obtain⟨od,nd⟩:=op d wd sd;have hh:sg (h c)=sg (h d):=();have sf:sg (f d)=1\/sg (f d) = -1:=by
    have:=cA (f d);nofun
   show chg _ (sg (g c)::sg (h c)::fK c l)=chg _ (sg (g d)::sg (h d)::fK d l);have e1:sg (h c) = -sg (f d):=();have e2:sg (h d) = -sg (f d):=();have k:=k2 c d wc wd cd ⋯ hh nc;rw[e1,e2] at k;rw[ef,e1,e2,yT sf (cA _),yT sf (cA _),k]
def Vr(x:Rat)(l:List (Rat->Rat)):Nat:=chg 0 (fK x l)
def v1(f g:Rat->Rat)(x:Rat):Nat:=if sg (f x)*sg (g x) = -1 then 1 else 0
theorem IV{f g:Rat->Rat}{l:List (Rat->Rat)}{x:Rat}(h:sg (g x)≠0):Vr x (f::g::l)=v1 f g x+chg (sg (g x)) (fK x l):=by
 show chg 0 (sg (f x)::sg (g x)::fK x l)=_;unfold v1;rcases cA (f x) with e|e|e
 .rw[e,qw,nA h,Int.zero_mul,Yc ∅,Xq]
 .rw[e,nA ∅,m9 h,YG]
 .rw[e,nA ∅,m9 h];have:=cA (g x);rcases this with z|z|z<;>rw[z]<;>rfl
theorem AQ{f:Rat->Rat}{l:List (Rat->Rat)}{x:Rat}(h:sg (f x)≠0):Vr x (f::l)=chg (sg (f x)) (fK x l):=nA h
inductive aO where
 | line (r:Rat)
 | root (n:Rat)
 | none (n:Rat)
def aO.ok:aO->Prop
 | .line _=>True
 | .root n=>0<n /\ ∀r:Rat,r*r≠n
 | .none n=>0<n
def aO.p:aO->Rat->Rat
 | .line r,x=>x-r
 | .root n,x=>x*x-n
 | .none n,x=>x*x+n
def aO.d:aO->Rat->Rat
 | .line _,_=>1
 | .root _,x=>2*x
 | .none _,x=>2*x
def aO.A:aO->Rat->Nat
 | .line r,x=>if r<=x then 1 else 0
 | .root n,x=>if x*x<n then 1 else if x<0 then 0 else 2
 | .none _,_=>0
def bJ:List (aO×Nat)->Rat->Rat
 | [],_=>1
 | q::l,x=>q.1.p x*bJ l x
def eH:List (aO×Nat)->Rat->Rat
 | [],_=>0
 | q::l,x=>((q.2:Nat):Rat)*q.1.d x*bJ l x+q.1.p x*eH l x
def iU:List (aO×Nat)->Rat->Nat
 | [],_=>0
 | q::l,x=>q.1.A x+iU l x
theorem md{l l':List (aO×Nat)}(h:l.Perm l')(x:Rat):bJ l x=bJ l' x:=by
 induction h with
 | nil=>rfl
 | cons q _ ih=>show q.1.p x*_=q.1.p x*_;rw[ih]
 | swap a b l=>show b.1.p x*(a.1.p x*bJ l x)=a.1.p x*(b.1.p x*bJ l x);grind
 | trans _ _ h1 h2=>rw[h1,h2]
theorem C7{l l':List (aO×Nat)}(h:l.Perm l')(x:Rat):eH l x=eH l' x:=by
 induction h with
 | nil=>rfl
 | cons q h ih=>show _*_*bJ _ x+q.1.p x*eH _ x=_*_*bJ _ x+q.1.p x*eH _ x;rw[ih,md h]
 | swap a b l =>
  show ((b.2:Nat):Rat)*b.1.d x*(a.1.p x*bJ l x)+b.1.p x*(((a.2:Nat):Rat)*a.1.d x*bJ l x+a.1.p x*eH l x)=((a.2:Nat):Rat)*a.1.d x*(b.1.p x*bJ l x)+a.1.p x*(((b.2:Nat):Rat)*b.1.d x*bJ l x+b.1.p x*eH l x);grind
 | trans _ _ h1 h2=>rw[h1,h2]
theorem JN{l l':List (aO×Nat)}(h:l.Perm l')(x:Rat):iU l x=iU l' x:=by
 induction h with
 | nil=>rfl
 | cons q _ ih=>show q.1.A x+_=q.1.A x+_;rw[ih]
 | swap a b l=>show b.1.A x+(a.1.A x+iU l x)=a.1.A x+(b.1.A x+iU l x);nofun
 | trans _ _ h1 h2=>rw[h1,h2]
theorem ir.const{R:Rat}(c:Rat):ir R λ_=>c:=by
 rcases bA c with ⟨a,_⟩|⟨a,_⟩|⟨a,_⟩
 .exact⟨c,a,λx _=>by unfold Sm;grind⟩
 .exact⟨-c,⋯,λx _=>by unfold Sm;grind⟩
 .exact⟨1,∅,λx _=>by unfold Sm;grind⟩
theorem ir.id{R:Rat}(h:0<=R):ir R λx=>x:=⟨R+1,⋯,λx w=>by unfold Sm;unfold Wi at w;grind⟩
theorem ir.mul{R:Rat}{f g:Rat->Rat}(h:ir R f)(h2:ir R g):ir R λx=>f x*g x:=by
 obtain⟨a,a0,ha⟩:=h;obtain⟨b,b0,hb⟩:=h2;exact⟨a*b,Yo a0 b0,λx w=>(ha x w).mul (hb x w)⟩
theorem ir.add{R:Rat}{f g:Rat->Rat}(h:ir R f)(h2:ir R g):ir R λx=>f x+g x:=by
 obtain⟨a,a0,ha⟩:=h;obtain⟨b,b0,hb⟩:=h2;exact⟨a+b,⋯,λx w=>(ha x w).add (hb x w)⟩
theorem ir.congr{R:Rat}{f g:Rat->Rat}(h:ir R f)(e:∀x,g x=f x):ir R g:=by
 obtain⟨a,a0,ha⟩:=h;exact⟨a,a0,λx w=>by rw[e];exact ha x w⟩
theorem aO.bp{R:Rat}(h:0<=R):∀q:aO,ir R q.p
 | .line r=>((ir.id h).add (.const (-r))).congr λx=>by show x-r=x + -r;grind
 | .root n=>(((ir.id h).mul (.id h)).add (.const (-n))).congr λx=>by show x*x-n=x*x + -n;grind
 | .none n=>((ir.id h).mul (.id h)).add (.const n)
theorem aO.bd{R:Rat}(h:0<=R):∀q:aO,ir R q.d
 | .line _=>.const 1
 | .root _=>(ir.const 2).mul (.id h)
 | .none _=>(ir.const 2).mul (.id h)
theorem yL{R:Rat}(h:0<=R):∀l:List (aO×Nat),ir R (bJ l)
 | []=>.const 1
 | q::l=>(q.1.bp h).mul (yL h l)
theorem EG{R:Rat}(h:0<=R):∀l:List (aO×Nat),ir R (eH l)
 | []=>.const 0
 | q::l=>(((ir.const _).mul (q.1.bd h)).mul (yL h l)).add ((q.1.bp h).mul (EG h l))
theorem aO.lip{R:Rat}(h:0<=R):∀q:aO,vy R q.p
 | .line r=>⟨1,∅,λx y _ _ l=>by show Sm _ (y-r-(x-r));unfold Sm;grind⟩
 | .root n=>⟨2*R+1,⋯,λx y wx wy l=>by
   show Sm _ (y*y-n-(x*x-n));have s:Sm (2*R+1) (x+y):=by unfold Sm;unfold Wi at wx wy;grind
   have:=s.mul (show Sm (y-x) (y-x) by unfold Sm;grind)
   rwa [show y*y-n-(x*x-n)=(x+y)*(y-x) by grind]⟩
 | .none n=>⟨2*R+1,⋯,λx y wx wy l=>by
   show Sm _ (y*y+n-(x*x+n));have s:Sm (2*R+1) (x+y):=by unfold Sm;unfold Wi at wx wy;grind
   have:=s.mul (show Sm (y-x) (y-x) by unfold Sm;grind)
   rwa [show y*y+n-(x*x+n)=(x+y)*(y-x) by grind]⟩
theorem vy.bdd{R:Rat}(h:0<=R) {f:Rat->Rat}(lf:vy R f):ir R f:=by
 obtain⟨L,L0,hL⟩:=lf;obtain⟨a,a0,ha⟩:=ir.const (R:=R) (f 0);have w0:Wi R 0:=by unfold Wi;grind
 have lr:=Yf (Yl L0) h;refine⟨a+L*R,⋯,λx wx=>?_⟩;have h0:=ha x wx;by_cases y:0<=x
 .have:=hL 0 x w0 wx y;have m:=Yf (Yl L0) (show 0<=R-x by unfold Wi at wx;grind)
  unfold Sm at *
  grind
 .have:=hL x 0 wx w0 ⋯;have m:=Yf (Yl L0) (show 0<=R+x by unfold Wi at wx;grind)
  unfold Sm at *
  grind
def Bg(e x:Rat):Prop:=e<=x\/x <= -e
theorem Bg.of{e x:Rat}(h:¬ Sm e x):Bg e x:=by
 unfold Sm at h;unfold Bg;grind
theorem Bg.no{a b x:Rat}(h:Bg a x)(l:b<a):¬ Sm b x:=by
 unfold Bg at h;unfold Sm;grind
theorem Bg.mul{a b x y:Rat}(h:Bg a x)(h2:Bg b y)(a0:0<=a)(b0:0<=b):Bg (a*b) (x*y):=by
 rcases h with h|h<;>rcases h2 with k|k
 .left
  have:=Yf (show 0<=x-a by grind) (show 0<=y by grind)
  have:=Yf a0 (show 0<=y-b by grind)
  grind
 .right
  have:=Yf (show 0<=x-a by grind) (show 0 <= -y by grind)
  have:=Yf a0 (show 0 <= -y-b by grind)
  grind
 .right
  have:=Yf (show 0 <= -x-a by grind) (show 0<=y by grind)
  have:=Yf a0 (show 0<=y-b by grind)
  grind
 .left
  have:=Yf (show 0 <= -x-a by grind) (show 0 <= -y by grind)
  have:=Yf a0 (show 0 <= -y-b by grind)
  grind
theorem Bg.ne{e x:Rat}(h:Bg e x)(e0:0<e):sg x≠0:=λz=>by
 have:=dJ.mp z;unfold Bg at h;grind
def eD(e:Rat):Nat->Rat
 | 0=>1
 | k+1=>e*eD e k
theorem fB{e:Rat}(h:0<e):∀k,0<eD e k
 | 0=>by show (0:Rat)<1;decide
 | k+1=>Yo h (fB h k)
theorem FD{e x:Rat}(e0:0<e):∀{l:List (aO×Nat)},(∀q∈l,¬ Sm e (q.1.p x))->Bg (eD e l.length) (bJ l x)
 | [],_=>.inl (by show (1:Rat)<=1;grind)
 | q::l,h=>(Bg.of (h q Ye)).mul (FD e0 λq' hq=>h q' (Yd _ hq)) (Yl e0) (Yl (fB e0 _))
theorem Bm{α:Type}{P:α->Rat->Prop}(mono:∀a e e',P a e->0<e'->e'<=e->P a e'):∀l:List α,(∀a∈l,∃e:Rat,0<e/\P a e) -> ∃e:Rat,0<e /\ ∀a∈l,P a e
 | [],_=>⟨1,∅,λ_ h=>by cases h⟩
 | a::l,h=>by
  obtain⟨e,e0,he⟩:=h a Ye;obtain⟨f,f0,hf⟩:=Bm mono l λb hb=>h b (Yd _ hb);obtain⟨m,m0,m1,m2,_⟩:=ko e0 f0 f0;refine⟨m,m0,λb hb=>?_⟩;rcases Yh.mp hb with rfl|hb
  .exact mono _ _ _ he m0 m1
  .exact mono _ _ _ (hf b hb) m0 m2
theorem apart{R:Rat}(R0:0<=R) {f g a b:Rat->Rat}{c:Rat}(ha:ir R a)(hb:ir R b)(c0:c≠0)(e:∀x,a x*f x+b x*g x=c):cY R f g:=by
 obtain⟨A,A0,hA⟩:=ha;obtain⟨B,B0,hB⟩:=hb;obtain⟨k,k0,hk⟩ : ∃k:Rat,0<k/\(k<=c\/k <= -c):=by
  rcases bA c with ⟨z,_⟩|⟨z,_⟩|⟨z,_⟩
  .exact⟨c,z,.inl ⋯⟩
  .exact⟨-c,⋯,.inr ⋯⟩
  .exact absurd z c0
 have s0:0<A+B:=⋯;have t0:0<k/2/(A+B):=by rw[YN s0];grind
 refine⟨k/2/(A+B),t0,λx wx sf sg'=>?_⟩;have s1:=((hA x wx).mul sf).add ((hB x wx).mul sg');rw[e] at s1;have:A*(k/2/(A+B))+B*(k/2/(A+B))=k/2:=⋯;rw[this] at s1;unfold Sm at s1;grind
theorem cY.symm{R:Rat}{f g:Rat->Rat}(h:cY R f g):cY R g f:=by
 obtain⟨e,e0,h⟩:=h;exact⟨e,e0,λx w a b=>h x w b a⟩
theorem ol{R n:Rat}{g:Rat->Rat}(n0:0<n):cY R (aO.none n).p g:=⟨n/2,⋯,λx _ s _=>by
 have s:Sm (n/2) (x*x+n):=s;have:0<=x*x:=jo x;unfold Sm at s;grind⟩
theorem rG{R r n:Rat}(R0:0<=R)(hn:∀r:Rat,r*r≠n):cY R (aO.line r).p (aO.root n).p:=by
 refine apart R0 (a:=λx=>-(x+r)) (b:=λ_=>1) (c:=r*r-n) ((((ir.id R0).add (.const r)).mul (.const (-1))).congr λx=>by grind) (.const 1) (λz=>hn r ⋯) λx=>?_
 show -(x+r)*(x-r)+1*(x*x-n)=r*r-n;grind
theorem aO.apart{R:Rat}(R0:0<=R) {q q':aO}(h:q.ok)(h':q'.ok)(n:q≠q'):cY R q.p q'.p:=by
 cases q with
 | none m=>exact ol h
 | line r =>
  cases q' with
  | none m=>exact (ol h').symm
  | line s =>
   refine L2.apart R0 (a:=λ_=>1) (b:=λ_=>-1) (c:=s-r) (.const 1) (.const (-1)) (λz=>n (by rw[show r=s by grind])) λx=>?_
   show 1*(x-r) + -1*(x-s)=s-r;grind
  | root m=>exact rG R0 h'.2
 | root m =>
  cases q' with
  | none m'=>exact (ol h').symm
  | line s=>exact (rG R0 h.2).symm
  | root m' =>
   refine L2.apart R0 (a:=λ_=>1) (b:=λ_=>-1) (c:=m'-m) (.const 1) (.const (-1)) (λz=>n (by rw[show m=m' by grind])) λx=>?_
   show 1*(x*x-m) + -1*(x*x-m')=m'-m;grind
theorem yj{a b e:Rat}(h:Bg (2*e) a)(k:Sm e b)(e0:0<e):sg (a+b)=sg a/\Bg e (a+b):=by
 unfold Sm at k;rcases h with h|h
 .exact⟨by rw[cn ⋯,cn ⋯],.inl ⋯⟩
 .exact⟨by rw[dM ⋯,dM ⋯],.inr ⋯⟩
theorem Bg.mono{a b x:Rat}(h:Bg a x)(l:b<=a):Bg b x:=by
 unfold Bg at *
 grind
theorem me{u v e:Rat}(h:Sm e (v-u))(n:¬ Sm e u):sg u=sg v/\sg u≠0:=Yt λz=>n (oV h z).1
def Py(f:Rat->Rat):Prop:=∃l:List Rat,∀x,f x=fD l x
theorem Py.congr{f g:Rat->Rat}(h:Py f)(e:∀x,g x=f x):Py g:=by
 obtain⟨l,h⟩:=h;exact⟨l,λx=>(e x).trans (h x)⟩
theorem Py.isP{f:Rat->Rat}(h:Py f):∃n,t5 n f:=by
 obtain⟨l,h⟩:=h;exact⟨l.length,l,Yn _,h⟩
theorem t5.py{n:Nat}{f:Rat->Rat}(h:t5 n f):Py f:=by
 obtain⟨l,_,h⟩:=h;exact⟨l,h⟩
theorem Py.const(c:Rat):Py λ_=>c:=⟨[c],λx=>by show c=c+x*0;grind⟩
theorem Py.id:Py λx=>x:=⟨[0,1],λx=>by show x=0+x*(1+x*0);grind⟩
theorem Py.add{f g:Rat->Rat}(h:Py f)(k:Py g):Py λx=>f x+g x:=by
 obtain⟨m,hm⟩:=h.isP;obtain⟨n,hn⟩:=k.isP;exact ((hm.mono (Nat.le_max_left m n)).add (hn.mono (Nat.le_max_right m n))).py
theorem Py.shift{f:Rat->Rat}(h:Py f):Py λx=>x*f x:=by
 obtain⟨l,h⟩:=h;exact⟨0::l,λx=>by show x*f x=0+x*fD l x;rw[h];grind⟩
theorem Py.sc{f:Rat->Rat}(h:Py f)(c:Rat):Py λx=>c*f x:=by
 obtain⟨n,hn⟩:=h.isP;exact (hn.sc c).py.congr λx=>by grind
theorem Py.mul{f g:Rat->Rat}(h:Py f)(k:Py g):Py λx=>f x*g x:=by
 obtain⟨l,h⟩:=h;have:∀l:List Rat,Py λx=>fD l x*g x:=by
  intro l;induction l with
  | nil=>exact (Py.const 0).congr λx=>by show 0*g x=0;grind
  | cons a l ih=>exact ((k.sc a).add ih.shift).congr λx=>by show (a+x*fD l x)*g x=a*g x+x*(fD l x*g x);grind
 exact (this l).congr λx=>by rw[h]
theorem Py.sub{f g:Rat->Rat}(h:Py f)(k:Py g):Py λx=>f x-g x:=(h.add (k.sc (-1))).congr λx=>by grind
theorem Jy{n:Nat}{u:Nat->Rat}(h:Bd n u)(l:n<=20):Py (EV u):=(t5.of h l).py
theorem tW{R:Rat}(R0:0<=R):∀l:List Rat,ir R (fD l)
 | []=>.const 0
 | a::l=>(ir.const a).add ((ir.id R0).mul (tW R0 l))
theorem xJ{R:Rat}(R0:0<=R):∀l:List Rat,vy R (fD l)
 | []=>⟨1,∅,λx y _ _ h=>by show Sm _ (0-0);unfold Sm;grind⟩
 | a::l=>by
  obtain⟨L,L0,hL⟩:=xJ R0 l;obtain⟨B,B0,hB⟩:=tW R0 l;have rl:=Yf R0 (Yl L0);refine⟨R*L+B,⋯,λx y wx wy h=>?_⟩;show Sm _ (a+y*fD l y-(a+x*fD l x));have s1:=(show Sm R y from wy).mul (hL x y wx wy h)
  have s2:=(show Sm (y-x) (y-x) by unfold Sm;grind).mul (hB x wx)
  have:=s1.add s2;rw[show a+y*fD l y-(a+x*fD l x)=y*(fD l y-fD l x)+(y-x)*fD l x by grind]
  exact this.mono ⋯
theorem Py.bdd{R:Rat}(R0:0<=R) {f:Rat->Rat}(h:Py f):ir R f:=by
 obtain⟨l,h⟩:=h;exact (tW R0 l).congr h
theorem Py.lip{R:Rat}(R0:0<=R) {f:Rat->Rat}(h:Py f):vy R f:=by
 obtain⟨l,h⟩:=h;obtain⟨L,L0,hL⟩:=xJ R0 l;exact⟨L,L0,λx y wx wy k=>by rw[h,h];exact hL x y wx wy k⟩
theorem Py.zero{f g:Rat->Rat}(hf:Py f)(hg:Py g)(e:∀x,f x*g x=0)(n:∃x,g x≠0):∀x,f x=0:=by
 obtain⟨m,pm⟩:=hf.isP;obtain⟨k,pk⟩:=hg.isP;obtain⟨S,hS⟩ : ∃S,S=wS (m+k):=⟨_,rfl⟩;have nd:S.Nodup:=hS▸sk _;have ln:S.length=m+k:=hS▸pU _;have sp:(S.filter λx=>decide (f x=0)).length+(S.filter λx=>!decide (f x=0)).length=S.length:=by
  clear nd ln hS;induction S with
  | nil=>rfl
  | cons a S ih =>
   by_cases z:f a=0
   .rw[YF (by simpa using z),YS (by simpa using z),YC,YC]
    nofun
   .rw[YS (by simpa using z),YF (by simpa using z),YC,YC]
    nofun
 by_cases a:m<=(S.filter λx=>decide (f x=0)).length
 .exact pm.zero (nd.sublist List.filter_sublist) a λs hs=>of_decide_eq_true (Xe.mp hs).2
 .obtain⟨x0,hx0⟩:=n;refine absurd (pk.zero (nd.sublist (List.filter_sublist (p:=λx=>!decide (f x=0)))) () (λs hs=>?_) x0) hx0;have z:=(Xe.mp hs).2;rcases YE.mp (e s) with y|y
  .rw[y] at z;simp at z
  .exact y
def Kh(q:Int):Prop:=2<=q /\ ∀a b:Int,q∣a*b->q∣a\/q∣b
theorem IN:∀n:Nat,2<=n -> ∃q:Int,Kh q/\q∣(n:Int):=by
 intro n;induction n using Nat.strongRecOn with
 | ind n ih =>
  intro h2;by_cases ex:∃d,2<=d/\d<n/\d∣n
  .obtain⟨d,d2,dn,dd⟩:=ex;obtain⟨q,pq,qd⟩:=ih d dn d2;exact⟨q,pq,Int.dvd_trans qd (Int.natCast_dvd_natCast.mpr dd)⟩
  .refine⟨n,⟨(),λa b h=>?_⟩,Int.dvd_refl _⟩;have h':n∣a.natAbs*b.natAbs:=by
    have:=Xu.mpr h
    rwa [YI,XN] at this
   have g1:=Nat.gcd_dvd_left n a.natAbs;have g2:=Nat.gcd_dvd_right n a.natAbs;by_cases z:Nat.gcd n a.natAbs=1
   .right
    have:=Nat.Coprime.dvd_of_dvd_mul_left (show Nat.Coprime n a.natAbs from z) h'
    exact Xu.mp (by rwa [XN])
   .left
    have gp:0<Nat.gcd n a.natAbs:=Nat.gcd_pos_of_pos_left _ ();have le:=Nat.le_of_dvd () g1;have:Nat.gcd n a.natAbs=n:=Yt λy=>ex ⟨_,(),(),g1⟩;rw[this] at g2;exact Xu.mp (by rwa [XN])
theorem Bb{c p:Nat->Int}{q:Int}{i j:Nat}(hc:∀a,a<i->q∣c a)(hp:∀b,b<j->q∣p b):∀n,q∣pz c p n (i+j)-(if i<n then c i*p j else 0)
 | 0=>by show q∣0-(if i<0 then c i*p j else 0);rw[Yc ()];exact⟨0,()⟩
 | n+1=>by
  have ih:=Bb hc hp n;show q∣pz c p n (i+j)+(if n<=i+j then c n*p (i+j-n) else 0)-(if i<n+1 then c i*p j else 0)
  rcases Nat.lt_trichotomy n i with z|z|z
  .rw[Yc (show ¬ i<n by nofun)] at ih
   rw[Yg (),Yc ()];have d:=Int.dvd_mul_of_dvd_left (c:=p (i+j-n)) (hc n z);have:=Int.dvd_add ih d;rw[show pz c p n (i+j)+c n*p (i+j-n)-0=pz c p n (i+j)-0+c n*p (i+j-n) by nofun]
   exact this
  .subst z;rw[Yc (show ¬ n<n by nofun)] at ih
   rw[Yg (),Yg (),show n+j-n=j by nofun]
   rw[show pz c p n (n+j)+c n*p j-c n*p j=pz c p n (n+j)-0 by nofun]
   exact ih
  .rw[Yg (show i<n by nofun)] at ih
   rw[Yg (show i<n+1 by nofun)]
   by_cases y:n<=i+j
   .rw[Yg y];have d:q∣c n*p (i+j-n):=Int.dvd_mul_of_dvd_right (hp (i+j-n) ());have:=Int.dvd_add ih d;rw[show pz c p n (i+j)+c n*p (i+j-n)-c i*p j=pz c p n (i+j)-c i*p j+c n*p (i+j-n) by nofun]
    exact this
   .rw[Yc y];rw[show pz c p n (i+j)+0-c i*p j=pz c p n (i+j)-c i*p j by nofun]
    exact ih
theorem qI{q:Int}{c:Nat->Int}(h:¬ ∀k,q∣c k):∃i,¬ q∣c i /\ ∀a,a<i->q∣c a:=by
 obtain⟨m,hm⟩ : ∃m,¬ q∣c m:=Classical.not_forall.mp h;induction m using Nat.strongRecOn with
 | ind m ih =>
  by_cases ex:∃a,a<m /\ ¬ q∣c a
  .obtain⟨a,am,ha⟩:=ex;exact ih a am ha
  .exact⟨m,hm,λa ha=>Yt λz=>ex ⟨a,ha,z⟩⟩
theorem Go{q:Int}(hq:Kh q) {c p:Nat->Int}{n:Nat}(bc:∀i,n<=i->c i=0)(h:∀k,q∣pz c p n k)(np:¬ ∀k,q∣p k):∀k,q∣c k:=Yt λnc=>by
 obtain⟨i,hi,mi⟩:=qI nc;obtain⟨j,hj,mj⟩:=qI np;have d:=Bb mi mj n;have il:i<n:=Nat.lt_of_not_le λz=>hi (by rw[bc i z];exact⟨0,()⟩)
 rw[Yg il] at d;have:=Int.dvd_sub (h (i+j)) d;rw[show pz c p n (i+j)-(pz c p n (i+j)-c i*p j)=c i*p j by nofun] at this
 rcases hq.2 _ _ this with z|z
 .exact hi z
 .exact hj z
def jO(p:Nat->Int):Prop:=∀q:Int,(∀k,q∣p k)->q.natAbs=1
theorem JQ{p:Nat->Int}(hp:jO p) {n:Nat}:∀(m:Nat)(S:Int)(c:Nat->Int),S.natAbs=m->S≠0->(∀i,n<=i->c i=0)->(∀k,S∣pz c p n k) -> ∀k,S∣c k:=by
 intro m;induction m using Nat.strongRecOn with
 | ind m ih =>
  intro S c e s0 bc h k;by_cases m1:m=1
  .have:S=1\/S = -1:=();rcases this with rfl|rfl
   .exact Int.one_dvd _
   .exact Int.neg_dvd.mpr (Int.one_dvd _)
  .obtain⟨q,pq,qd⟩:=IN m ();have qS:q∣S:=by
    rw[<-e] at qd;exact Int.dvd_natAbs.mp qd
   have qc:=Go pq bc (λk=>Int.dvd_trans qS (h k)) λz=>by
    have:=hp q z;have:=pq.1;nofun
   obtain⟨S',hS⟩:=qS;obtain⟨c',hc⟩ : ∃c':Nat->Int,∀k,c k=q*c' k:=⟨λk=>(qc k).choose,λk=>(qc k).choose_spec⟩;have q0:q≠0:=by have:=pq.1;nofun
   have s1:S'≠0:=λz=>s0 (by rw[hS,z,Yz])
   have lt:S'.natAbs<m:=by
    rw[<-e,hS,YI];have:2<=q.natAbs:=by have:=pq.1;nofun
    have:=Xg S'.natAbs this;nofun
   have r:=ih _ lt S' c' rfl s1 (λi hi=>by
    have:=hc i;rw[bc i hi] at this;rcases Int.mul_eq_zero.mp this.symm with z|z
    .exact absurd z q0
    .exact z) (λk=>by
    have:=h k;rw[show c=λk=>q*c' k from funext hc,tU,hS] at this
    exact Int.dvd_of_mul_dvd_mul_left q0 this) k
   rw[hS,hc k];exact Int.mul_dvd_mul_left q r
def ao(F:List Int)(x:Rat):Rat:=EV (fO F) x
theorem cz{F:List Int}(h:F.length<=20):Py (ao F):=Jy (cy F) h
theorem lU(x:Rat):ao [] x=0:=kI (λi=>by show ((nz [] i:Int):Rat)=0;rw[aS (by simp)];rfl) x
theorem lQ(c:Int)(x:Rat):ao [c] x=(c:Rat):=by
 unfold ao;rw[gL (n:=1) (cy [c]) ∅];show 0+fO [c] 0*1=_;show 0+((nz [c] 0:Int):Rat)*1=_;rw[show nz [c] 0=c from rfl]
 grind
theorem lX{F G:List Int}(lF:F.length<=20)(lG:G.length<=20)(h:∀x,ao F x=ao G x)(k:Nat):nz F k=nz G k:=by
 have:=pM ((cy F).mono lF) ((cy G).mono lG) h k;exact Xa.mp this
theorem fS{F G:List Int}{c:Int}(h:∀k,nz F k=c*nz G k)(x:Rat):ao F x=(c:Rat)*ao G x:=by
 have e:∀k,fO F k=(λk=>0+(c:Rat)*fO G k) k:=λk=>by
  show ((nz F k:Int):Rat)=0+(c:Rat)*((nz G k:Int):Rat);rw[h k,Yi];grind
 unfold ao;rw[eN e x,jG,kI (f:=λ_=>0) λ_=>rfl];grind
theorem jy{F Q G:List Int}(l:Q.length+G.length<=20)(e:∀k,nz F k=pz (nz Q) (nz G) Q.length k)(x:Rat):ao F x=ao Q x*ao G x:=by
 have:=jA (F:=F) (R:=[]) (S:=1) (T:=0) l (λk=>by rw[e k];nofun) x
 unfold ao;have c1:((1:Int):Rat)=1:=rfl;have c0:((0:Int):Rat)=0:=rfl;rw[c1,c0] at this;grind
theorem xU{F Q G:List Int}(l:Q.length+G.length<=20)(lF:F.length<=20)(e:∀x,ao F x=ao Q x*ao G x)(k:Nat):nz F k=pz (nz Q) (nz G) Q.length k:=by
 have lz1:(lz 20 (λk=>pz (nz Q) (nz G) Q.length k)).length<=20:=by rw[gI];nofun
 have e1:∀k,nz (lz 20 (λk=>pz (nz Q) (nz G) Q.length k)) k=pz (nz Q) (nz G) Q.length k:=λk=>by
  by_cases z:k<20
  .exact CJ z
  .rw[aS (by rw[gI];nofun)]
   refine (Xa.mp ?_);rw[iQ];exact (gu (cy G) Q.length k ()).symm
 have:=lX lF lz1 (λx=>by rw[e x,jy l e1]) k
 rw[this,e1]
def uO(P F:List Int):Prop:=∃A:List Int,A.length<=F.length /\ ∀x,ao F x=ao A x*ao P x
theorem qU{P F C:List Int}{S:Int}(hp:jO (nz P))(s0:S≠0)(lC:C.length<=F.length)(lF:F.length<=9)(lP:P.length<=9)(e:∀x,(S:Rat)*ao F x=ao C x*ao P x):uO P F:=by
 have c0:=aC s0;have k1:∀k,S*nz F k=pz (nz C) (nz P) C.length k:=λk=>by
  have:=xU (F:=F.map λy=>S*y) (Q:=C) (G:=P) () (by rw[Yb];nofun) (λx=>by rw[fS (G:=F) (c:=S) (λk=>cW k),e]) k
  rw[cW] at this;exact this
 have d:=JQ hp _ S (nz C) rfl s0 (n:=C.length) (λi hi=>aS hi) λk=>⟨nz F k,(k1 k).symm⟩;obtain⟨A,lA,hA⟩ : ∃A:List Int,A.length=C.length /\ ∀k,nz C k=S*nz A k:=by
  refine⟨C.map (· / S),by simp,λk=>?_⟩
  by_cases z:k<C.length
  .have e1:(C.map (· / S))[k]? = some (C[k]/S):=by rw[Yj,Ya z];rfl
   rw[aZ e1];have:=d k;rw[aZ (Ya z)] at this ⊢;exact (Int.mul_ediv_cancel' this).symm
  .rw[aS (),aS (by simp;nofun),Yz]
 refine⟨A,(),λx=>?_⟩;have:=e x;rw[fS hA] at this;have:(S:Rat)*(ao F x-ao A x*ao P x)=0:=⋯;rcases YE.mp this with z|z
 .exact absurd z c0
 .grind
theorem m7.div{F G:List Int}{rows:List (List Int×List Int×Int×Int)}(h:m7 F G rows):∀{P:List Int}{g:Int},jO (nz P)->P.length<=9->G≠[]->F.length<=9->G.length<=F.length->(∀k,nz (fM G rows) k=g*nz P k)->uO P F/\uO P G /\ ∀row∈rows,uO P row.1:=by
 induction h with
 | nought=>intro P g _ _ z;exact absurd rfl z
 | @last F G Q S g0 gl s0 lq e =>
  intro P g hp lP _ lF lG hl;have hl:∀k,nz G k=g*nz P k:=hl;have gp:=Yy.mpr g0;have dG:uO P G:=⟨[g],by simp;nofun,λx=>by rw[lQ,fS hl]⟩
  refine⟨qU (C:=Q.map λy=>g*y) hp s0 (by rw[Yb];nofun) lF lP λx=>?_,dG,by simp⟩
  rw[fS (G:=Q) (c:=g) λk=>cW k];have:=jA (F:=F) (R:=[]) (S:=S) (T:=0) (show Q.length+G.length<=20 by nofun) (λk=>by rw[e k];nofun) x
  have c0:((0:Int):Rat)=0:=rfl;rw[c0] at this;show (S:Rat)*EV (fO F) x=_;rw[this];have z:EV (fO G) x=(g:Rat)*ao P x:=fS hl x;rw[z];show EV (fO Q) x*_+_=(g:Rat)*EV (fO Q) x*_;grind
 | @more F G R Q T S rows g0 gl s0 t0 r0 rl lr lq e hr ih =>
  intro P g hp lP _ lF lG hl;obtain⟨dG,dR,drs⟩:=ih hp lP r0 () () hl;obtain⟨A,lA,eA⟩:=id dG;obtain⟨B,lB,eB⟩:=id dR;have gp:=Yy.mpr g0;have hC:∀k,nz (lz F.length λk=>pz (nz Q) (nz A) Q.length k+T*nz B k) k=pz (nz Q) (nz A) Q.length k+T*nz B k:=λk=>by
   by_cases z:k<F.length
   .exact CJ z
   .rw[aS (by rw[gI];nofun),aS (ns:=B) ()]
    have:pz (nz Q) (nz A) Q.length k=0:=by
     refine (Xa.mp ?_);rw[iQ];exact gu (cy A) Q.length k ()
    rw[this];nofun
  have eC:∀x,ao (lz F.length λk=>pz (nz Q) (nz A) Q.length k+T*nz B k) x=ao Q x*ao A x+(T:Rat)*ao B x:=λx=>by
   have:=jA (F:=lz F.length λk=>pz (nz Q) (nz A) Q.length k+T*nz B k) (Q:=Q) (G:=A) (R:=B) (S:=1) (T:=T) () (λk=>by rw[hC k];nofun) x
   have c1:((1:Int):Rat)=1:=rfl;rw[c1,Rat.one_mul] at this;exact this
  refine⟨qU (C:=lz F.length λk=>pz (nz Q) (nz A) Q.length k+T*nz B k) hp s0 (by rw[gI];nofun) lF lP λx=>?_,dG,λrow fZ=>?_⟩
  .have:=jA (show Q.length+G.length<=20 by nofun) e x
   rw[eC];show (S:Rat)*EV (fO F) x=_;rw[this];have z1:=eA x;have z2:=eB x;unfold ao at *
   grind
  .rcases Yh.mp fZ with rfl|z
   .exact dR
   .exact drs row z
def AE(l:Rat->Rat)(a b:Int):List (List Int×List Int×Int×Int)->List (List Int)->Prop
 | [],hs=>hs=[]
 | row::rows,[]=>False
 | row::rows,h::hs=>h.length<=9/\(∀x,((-a*row.2.2.1.sign*row.2.2.2.sign:Int):Rat)*ao row.1 x=ao h x*l x)/\AE l b (-a*row.2.2.1.sign*row.2.2.2.sign) rows hs
theorem ff{n:Int}(h:n≠0):n.sign=1/\0<n\/n.sign = -1/\n<0:=by
 rcases Int.lt_trichotomy n 0 with z|z|z
 .exact .inr ⟨Int.sign_eq_neg_one_of_neg z,z⟩
 .exact absurd z h
 .exact .inl ⟨Int.sign_eq_one_of_pos z,z⟩
theorem m7.ch{R:Rat}(R0:0<=R) {l:Rat->Rat}(pl:Py l)(l0:∃x,l x≠0) {F G:List Int}{rows:List (List Int×List Int×Int×Int)}(h:m7 F G rows):∀{a b g:Int}{hF hG:List Int}{hs:List (List Int)},(a=1\/a = -1)->(b=1\/b = -1)->g≠0->G≠[]->F.length<=9->G.length<=F.length->hF.length<=9->hG.length<=9->(∀x,(a:Rat)*ao F x=ao hF x*l x)->(∀x,(b:Rat)*ao G x=ao hG x*l x)->AE l a b rows hs->(∀x,ao (fM G rows) x=(g:Rat)*l x)->Ch R (ao hF) (ao hG::hs.map ao):=by
 have can:∀{f:Rat->Rat},Py f->(∀x,f x*l x=0) -> ∀x,f x=0:=λhf e=>Py.zero hf pl e l0;induction h with
 | nought=>intro a b g hF hG hs _ _ _ z;exact absurd rfl z
 | @last F G Q S g0 gl s0 lq e =>
  intro a b g hF hG hs ha hb hg _ lF lG l1 l2 eF eG hh hl;have hh:hs=[]:=hh;subst hh;have hl:∀x,ao G x=(g:Rat)*l x:=hl;have c:∀x,ao hG x=((b*g:Int):Rat):=λx=>by
   have:=can (f:=λx=>ao hG x-((b*g:Int):Rat)) ((cz ()).sub (.const _)) (λx=>by
    have:=eG x;rw[hl x] at this;rw[Yi];grind) x
   grind
  refine .two ((cz ()).lip R0) (.one (c:=((b*g:Int):Rat)) (aC (YL () hg)) c)
 | @more F G R' Q T S rows g0 gl s0 t0 r0 rl lr lq e hr ih =>
  intro a b g hF hG hs ha hb hg _ lF lG l1 l2 eF eG hh hl;cases hs with
  | nil=>exact absurd hh (by simp[AE])
  | cons hR hs =>
   obtain⟨l3,eR,hh⟩:=hh;obtain⟨m,hm⟩ : ∃m,m = -a*T.sign*S.sign:=⟨_,rfl⟩;have hm':m=1\/m = -1:=by
    rw[hm];rcases ff t0 with ⟨z,_⟩|⟨z,_⟩<;>rcases ff s0 with ⟨y,_⟩|⟨y,_⟩<;>rcases ha with x|x<;>rw[x,y,z]<;>decide
   have eR:∀x,(m:Rat)*ao R' x=ao hR x*l x:=by rw[hm];exact eR
   have hh:AE l b m rows hs:=by rw[hm];exact hh
   have tail:=ih hb hm' hg r0 () () l2 l3 eG eR hh hl;show Ch R (ao hF) (ao hG::ao hR::hs.map ao);have rs:=jA (show Q.length+G.length<=20 by nofun) e
   have s1:(S:Rat)*((S.sign:Int):Rat)=((S.natAbs:Int):Rat):=by
    rw[<-Yi];rcases ff s0 with ⟨z,y⟩|⟨z,y⟩<;>rw[z]<;>congr 1<;>nofun
   have t1:(T:Rat)*((S.sign:Int):Rat)*(a:Rat) = -(((T.natAbs:Int):Rat)*(m:Rat)):=by
    rw[<-Yi,<-Yi,<-Yi,<-Xi];congr 1
    rw[hm];rcases ff s0 with ⟨z,y⟩|⟨z,y⟩<;>rcases ff t0 with ⟨z2,y2⟩|⟨z2,y2⟩<;>rcases ha with x|x<;>rw[x,z,z2]<;>nofun
   have b1:(b:Rat)*(b:Rat)=1:=by rcases hb with x|x<;>rw[x]<;>decide +kernel
   refine .more (q:=λx=>((S.sign*a*b:Int):Rat)*ao Q x) (a:=((S.natAbs:Int):Rat)) (b:=((T.natAbs:Int):Rat)) ((cz ()).lip R0) (((cz ()).sc _).bdd R0) (YA.mpr ()) (YA.mpr ()) (λx=>?_) tail;have:=can (f:=λx=>((S.natAbs:Int):Rat)*ao hF x-((S.sign*a*b:Int):Rat)*ao Q x*ao hG x+((T.natAbs:Int):Rat)*ao hR x) ((((cz ()).sc _).sub (((cz ()).sc _).mul (cz ()))).add ((cz ()).sc _)) (λx=>?_) x
   .grind
   have z1:=eF x;have z2:=eG x;have z3:=eR x;have z4:(S:Rat)*ao F x=ao Q x*ao G x+(T:Rat)*ao R' x:=rs x;rw[Yi,Yi];obtain⟨A,hA⟩ : ∃A:Rat,A=(a:Rat):=⟨_,rfl⟩;obtain⟨B,hB⟩ : ∃B:Rat,B=(b:Rat):=⟨_,rfl⟩;rw[<-hA] at z1 t1 ⊢;rw[<-hB] at z2 b1 ⊢;generalize ((S.natAbs:Int):Rat)=sa at s1 ⊢;generalize ((T.natAbs:Int):Rat)=ta at t1 ⊢;generalize ((S.sign:Int):Rat)=ss at s1 t1 ⊢;have e1:sa*ao hF x*l x=(S:Rat)*ss*A*ao F x:=by rw[s1];grind
   have e2:ss*A*B*ao Q x*ao hG x*l x=ss*A*ao Q x*ao G x:=by
    have:ao hG x*l x=B*ao G x:=z2.symm;grind
   have e3:ta*ao hR x*l x = -((T:Rat)*ss*A)*ao R' x:=by rw[t1];grind
   grind
theorem yo(x:Rat):∀F:List Int,fD (F.map λn:Int=>(n:Rat)) x=iL F x
 | []=>rfl
 | a::F=>by show (a:Rat)+x*_=(a:Rat)+x*_;rw[yo x F]
theorem iP{F:List Int}(h:F.length<=20)(x:Rat):ao F x=iL F x:=by
 unfold ao;rw[gL (cy F) h,AV,<-yo];congr 1
 refine List.ext_getElem (by simp) λi h1 h2=>?_
 rw[List.getElem_map,List.getElem_map,List.getElem_range];show ((nz F i:Int):Rat)=_;rw[aZ (Ya (by simpa using h1))]
def cI(side:Int)(F:List Int):Int:=if F.length%2=1 then (nz F (F.length-1)).sign else side*(nz F (F.length-1)).sign
theorem Cw:∀F:List Int,F≠[]->nz F (F.length-1)≠0 -> ∃R c:Rat,0<R/\0<c/\(∀x,R<=x->c<=((cI 1 F:Int):Rat)*iL F x) /\ ∀x,x <= -R->c<=((cI (-1) F:Int):Rat)*iL F x
 | [],h,_=>absurd rfl h
 | [a],_,h=>by
  have h:a≠0:=h;have e:∀s,cI s [a]=a.sign:=λs=>rfl;have k:∀x,(1:Rat)<=((a.sign:Int):Rat)*iL [a] x:=λx=>by
   show (1:Rat)<=((a.sign:Int):Rat)*((a:Rat)+x*0);have z:((a.sign:Int):Rat)*(a:Rat)=((a.sign*a:Int):Rat):=by rw[Yi]
   have y:(1:Int)<=a.sign*a:=by rcases ff h with ⟨q,r⟩|⟨q,r⟩<;>rw[q]<;>nofun
   have:((1:Int):Rat)<=((a.sign*a:Int):Rat):=YD.mpr y;have c1:((1:Int):Rat)=1:=rfl;grind
  exact⟨1,1,∅,∅,λx _=>by rw[e];exact k x,λx _=>by rw[e];exact k x⟩
 | a::b::F,_,h=>by
  have ld:nz (a::b::F) ((a::b::F).length-1)=nz (b::F) ((b::F).length-1):=by
   simp only[YC,Nat.add_sub_cancel];rfl
  rw[ld] at h;obtain⟨R,c,R0,c0,h1,h2⟩:=Cw (b::F) (by simp) h
  obtain⟨t,t0,ht⟩:=ir.const (R:=0) (a:Rat);have ht:=ht 0 (by unfold Wi;grind)
  have tc:0<t/c:=by rw[YN c0];grind
  have tcc:t/c*c=t:=⋯;have s1:cI 1 (a::b::F)=cI 1 (b::F):=by
   unfold cI;rw[ld,YG];split<;>split<;>rfl
  have s2:cI (-1) (a::b::F) = -cI (-1) (b::F):=by
   unfold cI;rw[ld];simp only[YC];by_cases z:(F.length+1)%2=1
   .rw[Yg z,Yc ()];nofun
   .rw[Yc z,Yg ()];nofun
  have sm:∀s:Int,(s=1\/s = -1)->Sm t ((s:Rat)*(a:Rat)):=λs hs=>by
   have c1:((1:Int):Rat)=1:=rfl;have c2:((-1:Int):Rat) = -1:=rfl;unfold Sm at *
   rcases hs with z|z
   .rw[z,c1];grind
   .rw[z,c2];grind
  have pm:∀s:Int,(s=1\/s = -1)->cI s (b::F)=1\/cI s (b::F) = -1:=λs hs=>by
   unfold cI;rcases ff h with ⟨z,_⟩|⟨z,_⟩<;>rw[z]<;>rcases hs with y|y<;>rw[y]<;>split<;>nofun
  refine⟨R+1+t/c,c,⋯,c0,λx hx=>?_,λx hx=>?_⟩
  .rw[s1];show c<=_*((a:Rat)+x*iL (b::F) x);have k:=h1 x ⋯;have m:=Yf (show 0<=x by grind) (show 0<=((cI 1 (b::F):Int):Rat)*iL (b::F) x-c by grind)
   have m2:=Yf (Yl c0) (show 0<=x-(1+t/c) by grind)
   have s:=sm _ (pm 1 (.inl rfl));unfold Sm at s;grind
  .rw[s2,Xi];show c<=_*((a:Rat)+x*iL (b::F) x);have k:=h2 x ⋯;have m:=Yf (show 0 <= -x by grind) (show 0<=((cI (-1) (b::F):Int):Rat)*iL (b::F) x-c by grind)
   have m2:=Yf (Yl c0) (show 0 <= -x-(1+t/c) by grind)
   have s:=sm _ (pm (-1) (.inr rfl));unfold Sm at s;grind
theorem Cv{F:List Int}{s:Int}(h:nz F (F.length-1)≠0)(hs:s=1\/s = -1):cI s F=1\/cI s F = -1:=by
 unfold cI;rcases ff h with ⟨z,_⟩|⟨z,_⟩<;>rw[z]<;>rcases hs with y|y<;>rw[y]<;>split<;>nofun
theorem CY{s:Int}{y c:Rat}(hs:s=1\/s = -1)(c0:0<c)(h:c<=(s:Rat)*y):sg y=s:=by
 have c1:((1:Int):Rat)=1:=rfl;have c2:((-1:Int):Rat) = -1:=rfl;rcases hs with z|z
 .rw[z,c1] at h;rw[z,cn ⋯]
 .rw[z,c2] at h;rw[z,dM ⋯]
theorem yv:∀hs:List (List Int),(∀F∈hs,F≠[]/\F.length<=20/\nz F (F.length-1)≠0) -> ∃R:Rat,0<R /\ ∀x,R<=x->hs.map (cI 1)=fK x (hs.map ao)/\hs.map (cI (-1))=fK (-x) (hs.map ao)
 | [],_=>⟨1,∅,λ_ _=>⟨rfl,rfl⟩⟩
 | F::hs,h=>by
  obtain⟨R,R0,k⟩:=yv hs λG hG=>h G (Yd _ hG);obtain⟨f0,fl,fz⟩:=h F Ye;obtain⟨R',c,R1,c0,h1,h2⟩:=Cw F f0 fz;refine⟨R+R',⋯,λx hx=>?_⟩;obtain⟨k1,k2⟩:=k x ⋯;have e1:=CY (Cv fz (.inl rfl)) c0 (h1 x ⋯);have e2:=CY (Cv fz (.inr rfl)) c0 (h2 (-x) ⋯);rw[<-iP fl] at e1 e2;exact⟨by show cI 1 F::_=sg (ao F x)::_;rw[k1,e1];rfl,by show cI (-1) F::_=sg (ao F (-x))::_;rw[k2,e2];rfl⟩
def aO.tot:aO->Nat
 | .line _=>1
 | .root _=>2
 | .none _=>0
def vz:List (aO×Nat)->Nat
 | []=>0
 | q::l=>q.1.tot+vz l
theorem aO.out(q:aO)(h:q.ok):∃R:Rat,0<R /\ ∀x,R<=x->q.A x=q.tot/\q.A (-x)=0:=by
 cases q with
 | none n=>exact⟨1,∅,λ_ _=>⟨rfl,rfl⟩⟩
 | line r =>
  obtain⟨t,t0,ht⟩:=ir.const (R:=0) r;have ht:=ht 0 (by unfold Wi;grind)
  refine⟨t+1,⋯,λx hx=>⟨Yg ?_,Yc ?_⟩⟩<;>(unfold Sm at ht;grind)
 | root n =>
  obtain⟨n0,_⟩:=h;refine⟨n+1,⋯,λx hx=>?_⟩;have m:=Yf (show 0<=x-(n+1) by grind) (show 0<=x by grind)
  have m2:=Yf (Yl n0) (show 0<=x by grind)
  refine⟨?_,?_⟩
  .show (if x*x<n then 1 else if x<0 then 0 else 2)=2
   rw[Yc ⋯,Yc (show ¬ x<0 by grind)]
  .show (if -x * -x<n then 1 else if -x<0 then 0 else 2)=0
   rw[Yc ⋯,Yg (show -x<0 by grind)]
theorem rS:∀l:List (aO×Nat),(∀q∈l,q.1.ok/\1<=q.2) -> ∃R:Rat,0<R /\ ∀x,R<=x->iU l x=vz l/\iU l (-x)=0
 | [],_=>⟨1,∅,λ_ _=>⟨rfl,rfl⟩⟩
 | q::l,h=>by
  obtain⟨R,R0,k⟩:=rS l λp hp=>h p (Yd _ hp);obtain⟨R',R1,k'⟩:=q.1.out (h q Ye).1;refine⟨R+R',⋯,λx hx=>?_⟩;obtain⟨a,b⟩:=k x ⋯;obtain⟨a',b'⟩:=k' x ⋯;exact⟨by show q.1.A x+iU l x=q.1.tot+vz l;rw[a,a'],by show q.1.A (-x)+iU l (-x)=0;rw[b,b']⟩
def tq(side:Int)(e:Option Rat)(hs:List (List Int)):List Int:=match e with
 | none=>hs.map (cI side)
 | some x=>fK x (hs.map ao)
def Az(l:List (aO×Nat)):Option Rat->Nat
 | none=>0
 | some x=>iU l x
def vd(l:List (aO×Nat)):Option Rat->Nat
 | none=>vz l
 | some x=>iU l x
def iJ:List (aO×Nat)->Rat->Rat
 | [],_=>1
 | q::l,x=>eD (q.1.p x) q.2*iJ l x
def aO.deg:aO->Nat
 | .line _=>1
 | .root _=>2
 | .none _=>2
def de:List (aO×Nat)->Nat
 | []=>0
 | q::l=>q.2*q.1.deg+de l
def Dr(n:Nat)(f f':Rat->Rat):Prop:=∃u:Nat->Rat,Bd (n+1) u/\(∀x,EV u x=f x) /\ ∀x,EV (DF u) x=f' x
theorem Dr.mul{m n:Nat}{f f' g g':Rat->Rat}(h:Dr m f f')(k:Dr n g g')(l:m+n<=17):Dr (m+n) (λx=>f x*g x) (λx=>f' x*g x+f x*g' x):=by
 obtain⟨u,bu,e1,e2⟩:=h;obtain⟨v,bv,e3,e4⟩:=k;have ev:∀x,EV (λk=>pr u v (m+1) k) x=EV u x*EV v x:=λx=>Hl bu bv () x;refine⟨λk=>pr u v (m+1) k,λi hi=>gu bv _ _ (),λx=>by rw[ev,e1,e3],λx=>?_⟩
 rw[BR bv (m+1) u (λk=>pr u v (m+1) k) bu () (λi hi=>gu bv _ _ ()) ev x,e1,e2,e3,e4]
theorem Dr.const(c:Rat):Dr 0 (λ_=>c) (λ_=>0):=by
 refine⟨λk=>if k=0 then c else 0,λi hi=>Yc (),λx=>?_,λx=>?_⟩
 .rw[gL (n:=1) (λk hk=>Yc ()) ∅];show 0+c*1=c;grind
 .refine kI (λi=>?_) x;show _*(if i+1=0 then c else 0)=(0:Rat)
  rw[Yc ()];grind
theorem Dr.quad(a b c:Rat):Dr 2 (λx=>a+b*x+c*(x*x)) (λx=>b+2*c*x):=by
 have p1:∀x:Rat,dj x 1=x:=λx=>by show 1*x=x;grind
 have p2:∀x:Rat,dj x 2=x*x:=λx=>by show 1*x*x=x*x;grind
 refine⟨λk=>if k=0 then a else if k=1 then b else if k=2 then c else 0,λi hi=>by show (if i=0 then a else if i=1 then b else if i=2 then c else 0)=0;rw[Yc (),Yc (),Yc ()],λx=>?_,λx=>?_⟩
 .rw[gL (n:=3) (λi hi=>by show (if i=0 then a else if i=1 then b else if i=2 then c else 0)=0;rw[Yc (),Yc (),Yc ()]) ∅]
  show ((0+a*dj x 0)+b*dj x 1)+c*dj x 2=_;rw[p1,p2];show ((0+a*1)+b*x)+c*(x*x)=_;grind
 .rw[gL (n:=2) (λi hi=>by show _*(if i+1=0 then a else if i+1=1 then b else if i+1=2 then c else 0)=(0:Rat);rw[Yc (),Yc (),Yc ()];grind) ∅]
  show (0+(((0+1:Nat):Int):Rat)*b*dj x 0)+(((1+1:Nat):Int):Rat)*c*dj x 1=_;rw[p1];show (0+1*b*1)+2*c*x=_;grind
theorem Dr.congr{n:Nat}{f f' g g':Rat->Rat}(h:Dr n f f')(e:∀x,g x=f x)(e':∀x,g' x=f' x):Dr n g g':=by
 obtain⟨u,b,e1,e2⟩:=h;exact⟨u,b,λx=>(e1 x).trans (e x).symm,λx=>(e2 x).trans (e' x).symm⟩
theorem Dr.up{m n:Nat}{f f':Rat->Rat}(h:Dr m f f')(l:m<=n):Dr n f f':=by
 obtain⟨u,b,e⟩:=h;exact⟨u,b.mono (),e⟩
theorem aO.dr(q:aO):Dr q.deg q.p q.d:=by
 cases q with
 | line r =>
  obtain⟨u,bu,e1,e2⟩:=Dr.quad (-r) 1 0;refine⟨u,?_,λx=>?_,λx=>?_⟩
  .intro i hi;have:=pM (f:=u) (g:=λk=>if k=0 then -r else if k=1 then 1 else 0) (bu.mono ∅) (λi hi=>by show (if i=0 then -r else if i=1 then 1 else 0)=0;rw[Yc (),Yc ()]) (λx=>?_) i
   .have hi:2<=i:=hi;rw[this,Yc (),Yc ()]
   .rw[e1,gL (n:=2) (λi hi=>by show (if i=0 then -r else if i=1 then 1 else 0)=0;rw[Yc (),Yc ()]) ∅]
    show _=(0 + -r*1)+1*(1*x);grind
  .rw[e1];show _=x-r;grind
  .rw[e2];show _=(1:Rat);grind
 | root n=>exact (Dr.quad (-n) 0 1).congr (λx=>by show x*x-n=_;grind) λx=>by show 2*x=_;grind
 | none n=>exact (Dr.quad n 0 1).congr (λx=>by show x*x+n=_;grind) λx=>by show 2*x=_;grind
theorem aO.drp(q:aO):∀k:Nat,k*q.deg<=17 -> ∃f',Dr (k*q.deg) (λx=>eD (q.p x) k) f' /\ ∀x,f' x*q.p x=((k:Nat):Rat)*q.d x*eD (q.p x) k
 | 0,_=>⟨λ_=>0,(Dr.const 1).up (),λx=>by show 0*q.p x=((0:Nat):Rat)*_*_;rw[show ((0:Nat):Rat)=0 from rfl];grind⟩
 | k+1,h=>by
  have hk:(k+1)*q.deg=q.deg+k*q.deg:=by rw[X0];nofun
  obtain⟨f',d,e⟩:=aO.drp q k ();refine⟨_,hk▸(q.dr.mul d ()),λx=>?_⟩;have:=e x;show (q.d x*eD (q.p x) k+q.p x*f' x)*q.p x=((k+1:Nat):Rat)*q.d x*(q.p x*eD (q.p x) k);rw[Rat.natCast_add,show ((1:Nat):Rat)=1 from rfl]
  grind
theorem CV:∀l:List (aO×Nat),de l<=17 -> ∃f',Dr (de l) (iJ l) f' /\ ∀x,f' x*bJ l x=iJ l x*eH l x
 | [],_=>⟨λ_=>0,Dr.const 1,λx=>by show 0*1=1*(0:Rat);grind⟩
 | q::l,h=>by
  have h:q.2*q.1.deg+de l<=17:=h;obtain⟨f',d,e⟩:=CV l ();obtain⟨g',d2,e2⟩:=q.1.drp q.2 ();refine⟨_,d2.mul d h,λx=>?_⟩;have a:=e x;have b:=e2 x;show (g' x*iJ l x+eD (q.1.p x) q.2*f' x)*(q.1.p x*bJ l x)=eD (q.1.p x) q.2*iJ l x*(((q.2:Nat):Rat)*q.1.d x*bJ l x+q.1.p x*eH l x);have c1:g' x*iJ l x*(q.1.p x*bJ l x)=(g' x*q.1.p x)*(iJ l x*bJ l x):=⋯;have c2:eD (q.1.p x) q.2*f' x*(q.1.p x*bJ l x)=eD (q.1.p x) q.2*q.1.p x*(f' x*bJ l x):=⋯;rw[Rat.add_mul,c1,c2,a,b];grind
theorem AW{l:List (aO×Nat)}{W D:List Int}{c:Rat}(dl:de l<=17)(lW:W.length<=9)(hD:∀k,nz D k=((k+1:Nat):Int)*nz W (k+1))(e:∀x,ao W x=c*iJ l x)(x:Rat):ao D x*bJ l x=ao W x*eH l x:=by
 obtain⟨f',⟨u,bu,e1,e2⟩,e3⟩:=CV l dl;have eu:∀k,fO W k=(λk=>0+c*u k) k:=pM ((cy W).mono ()) (λi hi=>by show 0+c*u i=0;rw[bu i ()];grind) λx=>by
  rw[jG,kI (f:=λ_=>0) λ_=>rfl,e1];show ao W x=_;rw[e x];grind
 have ed:∀k,fO D k=(λk=>0+c*DF u k) k:=λk=>by
  show ((nz D k:Int):Rat)=0+c*((((k+1:Nat):Int):Rat)*u (k+1));rw[hD k,Yi];have:=eu (k+1);have this:((nz W (k+1):Int):Rat)=0+c*u (k+1):=this;rw[this];grind
 have w:ao D x=c*f' x:=by
  unfold ao;rw[eN ed x,jG,kI (f:=λ_=>0) λ_=>rfl,e2];grind
 have:=e3 x;rw[w,e x];grind
def EA(ms ns:List Int):Prop:=∃Q:List Int,∀k,nz ms k=pz (nz Q) (nz ns) Q.length k
theorem zh{ms qs rs ns:List Int}{n p:Nat}(ln:0<ns.length)(lr:rs.length=p+ns.length)(lq:qs.length=n)(e:∀k,nz ms k=pz (nz qs) (nz ns) n k+nz rs k)(h0:nz ns (ns.length-1)≠0)(ex:EA ms ns):nz ns (ns.length-1)∣nz rs (p+(ns.length-1)):=by
 obtain⟨Q,eQ⟩:=ex;have key:∀k,pr (λi=>fO Q i-fO qs i) (fO ns) (Q.length+n) k=fO rs k:=λk=>by
  rw[vY,kR (cy Q),Nat.add_comm,kR (λi hi=>cy qs i ())];have e1:((nz ms k:Int):Rat)=((pz (nz Q) (nz ns) Q.length k:Int):Rat):=by rw[eQ k]
  have e2:((nz ms k:Int):Rat)=((pz (nz qs) (nz ns) n k+nz rs k:Int):Rat):=by rw[e k]
  rw[Xp,iQ] at e2;rw[iQ] at e1;show pr (λi=>((nz Q i:Int):Rat)) (λi=>((nz ns i:Int):Rat)) Q.length k-pr (λi=>((nz qs i:Int):Rat)) (λi=>((nz ns i:Int):Rat)) n k=((nz rs k:Int):Rat);grind
 have bd:Bd (Q.length+n) (λi=>fO Q i-fO qs i):=λi hi=>by
  show fO Q i-fO qs i=0;rw[cy Q i (),cy qs i ()];grind
 have hg:∀j,ns.length-1<j->fO ns j=0:=λj hj=>cy ns j ();have l0:fO ns (ns.length-1)≠0:=aC h0;have fin:(∀j,p<j->fO Q j-fO qs j=0)->nz ns (ns.length-1)∣nz rs (p+(ns.length-1)):=λhp=>by
  have a:=nu hg hp (Q.length+n);rw[key] at a;by_cases z:p<Q.length+n
  .rw[Yg z] at a;refine⟨nz Q p-nz qs p,Xa.mp ?_⟩;rw[Yi,Rat.intCast_sub];show fO rs (p+(ns.length-1))=fO ns (ns.length-1)*(fO Q p-fO qs p);rw[a];grind
  .rw[Yc z] at a;refine⟨0,Xa.mp ?_⟩;rw[Yz];exact a
 rcases Bd.tp bd with z|⟨t,ht,tz,tb⟩
 .exact fin λj _=>z j
 .have tb:∀j,t<j->fO Q j-fO qs j=0:=λj hj=>tb j ();have a:=nu hg tb (Q.length+n);rw[key,Yg ht] at a;have tp:t<=p:=Nat.le_of_not_lt λy=>by
   rw[cy rs _ ()] at a;rcases YE.mp a.symm with w|w
   .exact tz w
   .exact l0 w
  exact fin λj hj=>tb j ()
theorem Hu{s:Rat}{N:Int}(h:s*s=(N:Rat)):∃k:Int,k*k=N:=by
 have d0:((s.den:Int):Rat)≠0:=aC (by have:=s.den_pos;nofun)
 have e:((s.num:Int):Rat)=s*((s.den:Int):Rat):=by
  have:=Rat.num_divInt_den s;rw[Rat.divInt_eq_div] at this;have z:(s.num:Rat)/((s.den:Int):Rat)=s:=this;grind
 have e2:((s.num*s.num:Int):Rat)=((N*(s.den*s.den):Int):Rat):=by
  rw[Yi,Yi,Yi,e];grind
 have e3:s.num*s.num=N*(s.den*s.den):=Xa.mp e2;have dv:s.den∣s.num.natAbs*s.num.natAbs:=by
  rw[<-YI,e3];refine⟨N.natAbs*s.den,?_⟩;rw[YI,YI,XN];rw[Nat.mul_left_comm]
 have co:Nat.Coprime s.den s.num.natAbs:=s.reduced.symm;have d1:=co.dvd_of_dvd_mul_left dv;have:s.den∣1:=by
  have:=Nat.dvd_gcd (Nat.dvd_refl s.den) d1
  rwa [show Nat.gcd s.den s.num.natAbs=1 from co] at this
 have one:s.den=1:=Nat.dvd_one.mp this;rw[one] at e3;exact⟨s.num,()⟩
theorem oN{u v:Int}(v0:v≠0)(h:∀k:Int,k*k≠u*v)(r:Rat):r*r≠(u:Rat)/(v:Rat):=λe=>by
 have c:=aC v0;obtain⟨k,hk⟩:=Hu (s:=(v:Rat)*r) (N:=u*v) (by rw[Yi];grind)
 exact h k hk
theorem vR{N:Int}{b:Nat}(hN:N<(b:Int)*b)(h:∀k:Nat,k<b->(k:Int)*k≠N)(k:Int):k*k≠N:=λe=>by
 have e1:(k.natAbs:Int)*k.natAbs=N:=by rw[<-e];exact Int.natAbs_mul_self' k
 by_cases z:k.natAbs<b
 .exact h _ z e1
 .have:b*b<=k.natAbs*k.natAbs:=Xf () ();have:((b*b:Nat):Int)<=((k.natAbs*k.natAbs:Nat):Int):=();rw[Int.natCast_mul,Int.natCast_mul] at this;nofun
def F5:List (Int×Int):=[(2,1),(3,1),(5,1),(6,1),(1,2),(7,4),(3,4)]
theorem tV{q:Int×Int}(h:q∈F5):0<wv q /\ ∀r:Rat,r*r≠wv q:=by
 have pos:∀{q:Int×Int},0<q.1->0<q.2->0<wv q:=λ{q} a b=>by
  unfold wv;rw[YN (YA.mpr b)];have:=YA.mpr a;grind
 unfold F5 at h;simp only[Yh,Xw,or_false] at h;rcases h with rfl|rfl|rfl|rfl|rfl|rfl|rfl
 .exact⟨pos ∅ ∅,oN ∅ (vR (b:=6) ∅ ∅)⟩
 .exact⟨pos ∅ ∅,oN ∅ (vR (b:=6) ∅ ∅)⟩
 .exact⟨pos ∅ ∅,oN ∅ (vR (b:=6) ∅ ∅)⟩
 .exact⟨pos ∅ ∅,oN ∅ (vR (b:=6) ∅ ∅)⟩
 .exact⟨pos ∅ ∅,oN ∅ (vR (b:=6) ∅ ∅)⟩
 .exact⟨pos ∅ ∅,oN ∅ (vR (b:=6) ∅ ∅)⟩
 .exact⟨pos ∅ ∅,oN ∅ (vR (b:=6) ∅ ∅)⟩
theorem yQ{e:Rat}(a:Nat):∀b,eD e (a+b)=eD e a*eD e b
 | 0=>by show eD e a=eD e a*1;grind
 | b+1=>by
  show e*eD e (a+b)=eD e a*(e*eD e b);rw[yQ a b];grind
theorem CB{l l':List (aO×Nat)}(h:l.Perm l')(x:Rat):iJ l x=iJ l' x:=by
 induction h with
 | nil=>rfl
 | cons q _ ih=>show eD (q.1.p x) q.2*_=eD (q.1.p x) q.2*_;rw[ih]
 | swap a b l=>show eD (b.1.p x) b.2*(eD (a.1.p x) a.2*iJ l x)=eD (a.1.p x) a.2*(eD (b.1.p x) b.2*iJ l x);grind
 | trans _ _ h1 h2=>rw[h1,h2]
theorem zK{l l':List (aO×Nat)}(h:l.Perm l'):de l=de l':=by
 induction h with
 | nil=>rfl
 | cons q _ ih=>show q.2*q.1.deg+_=q.2*q.1.deg+_;rw[ih]
 | swap a b l=>show b.2*b.1.deg+(a.2*a.1.deg+de l)=a.2*a.1.deg+(b.2*b.1.deg+de l);nofun
 | trans _ _ h1 h2=>rw[h1,h2]
def bj(x:Rat):Rat:=if x<0 then -(x*x) else x*x
theorem sv{x y:Rat}(h:x<y):bj x<bj y:=by
 unfold bj;by_cases a:x<0
 .rw[Yg a];by_cases b:y<0
  .rw[Yg b];have:=Yo (show 0<y-x by grind) (show 0 < -x-y by grind)
   grind
  .rw[Yc b];have:=Yo (show 0 < -x by grind) (show 0 < -x by grind)
   have:=jo y;grind
 .rw[Yc a,Yc (show ¬ y<0 by grind)]
  have:=Yo (show 0<y-x by grind) (show 0<y+x by grind)
  grind
theorem jj{x y:Rat}:bj x<=bj y↔x<=y:=by
 refine⟨λh=>X6.mp λz=>?_,λh=>?_⟩
 .have:=sv z;grind
 .by_cases e:x=y
  .rw[e];grind
  .have:=sv (show x<y by grind)
   grind
def aO.mk:aO->List Rat
 | .line r=>[bj r]
 | .root n=>[-n,n]
 | .none _=>[]
theorem aO.A_mk{q:aO}(h:q.ok)(x:Rat):q.A x=((q.mk).filter λm=>decide (m<=bj x)).length:=by
 cases q with
 | none _=>rfl
 | line r =>
  show (if r<=x then 1 else 0)=([bj r].filter λm=>decide (m<=bj x)).length
  by_cases z:r<=x
  .rw[Yg z,YF (by simpa using jj.mpr z)]
   rfl
  .rw[Yc z,YS (by simpa using λy=>z (jj.mp y))]
   rfl
 | root n =>
  obtain⟨n0,nn⟩:=h;show (if x*x<n then 1 else if x<0 then 0 else 2)=([-n,n].filter λm=>decide (m<=bj x)).length
  have p:=jo x;have ne:=nn x;by_cases a:x*x<n
  .have h1 : -n<=bj x:=by unfold bj;split<;>grind
   have h2:¬ n<=bj x:=by unfold bj;split<;>grind
   rw[Yg a,YF (by simpa using h1),YS (by simpa using h2)]
   rfl
  .rw[Yc a];by_cases b:x<0
   .have h1:¬ -n<=bj x:=by unfold bj;rw[Yg b];grind
    have h2:¬ n<=bj x:=by unfold bj;rw[Yg b];grind
    rw[Yg b,YS (by simpa using h1),YS (by simpa using h2)]
    rfl
   .have h1 : -n<=bj x:=by unfold bj;rw[Yc b];grind
    have h2:n<=bj x:=by unfold bj;rw[Yc b];grind
    rw[Yc b,YF (by simpa using h1),YF (by simpa using h2)]
    rfl
def kZ(l:List (aO×Nat)):List Rat:=l.flatMap λq=>q.1.mk
theorem kE{x:Rat}:∀{l:List (aO×Nat)},(∀q∈l,q.1.ok/\1<=q.2)->iU l x=((kZ l).filter λm=>decide (m<=bj x)).length
 | [],_=>rfl
 | q::l,h=>by
  show q.1.A x+iU l x=((q.1.mk++kZ l).filter _).length;rw[List.filter_append,Yx,aO.A_mk (h q Ye).1,kE λp hp=>h p (Yd _ hp)]
theorem tu:∀l:List (aO×Nat),vz l=(kZ l).length
 | []=>rfl
 | q::l=>by
  show q.1.tot+vz l=(q.1.mk++kZ l).length;rw[Yx,tu l];cases q.1<;>rfl
theorem wf{r n:Rat}(h:bj r=n\/bj r = -n)(n0:0<n):r*r=n:=by
 unfold bj at h;have:=jo r;split at h<;>grind
theorem mK{l:List (aO×Nat)}(ok:∀q∈l,q.1.ok/\1<=q.2)(un:l.Pairwise λa b=>a.1≠b.1):(kZ l).Nodup:=by
 refine List.pairwise_flatMap.mpr ⟨λq hq=>?_,?_⟩
 .cases hq':q.1 with
  | line r=>exact List.pairwise_singleton _ _
  | none n=>exact .nil
  | root n =>
   have:=(ok q hq).1;rw[hq'] at this;have n0:=this.1;exact Y0.mpr ⟨λy hy=>by rw[Yk.mp hy];grind,List.pairwise_singleton _ _⟩
 .refine List.Pairwise.imp_of_mem (R:=λa b=>a.1≠b.1) (λ{a b} ha hb n x hx y hy e=>?_) un;have oa:=(ok a ha).1;have ob:=(ok b hb).1;subst e;cases ea:a.1 with
  | none m=>rw[ea] at hx;cases hx
  | line r =>
   rw[ea] at hx;have hx:=Yk.mp hx;cases eb:b.1 with
   | none m=>rw[eb] at hy;cases hy
   | line s =>
    rw[eb] at hy;have hy:=Yk.mp hy;have z:bj r=bj s:=hx.symm.trans hy;have:r=s:=by
     have:=jj.mp (show bj r<=bj s by grind)
     have:=jj.mp (show bj s<=bj r by grind)
     grind
    exact n (by rw[ea,eb,this])
   | root m =>
    rw[eb] at hy ob;refine ob.2 r (wf ?_ ob.1);rcases Yh.mp hy with z|z
    .exact .inr (hx.symm.trans z)
    .exact .inl (hx.symm.trans (Yk.mp z))
  | root m =>
   rw[ea] at hx oa;have hx:x = -m\/x=m:=by
    rcases Yh.mp hx with z|z
    .exact .inl z
    .exact .inr (Yk.mp z)
   cases eb:b.1 with
   | none m'=>rw[eb] at hy;cases hy
   | line s =>
    rw[eb] at hy;have hy:=Yk.mp hy;refine oa.2 s (wf ?_ oa.1);rcases hx with z|z
    .exact .inr (hy.symm.trans z)
    .exact .inl (hy.symm.trans z)
   | root m' =>
    rw[eb] at hy ob;have hy:x = -m'\/x=m':=by
     rcases Yh.mp hy with z|z
     .exact .inl z
     .exact .inr (Yk.mp z)
    have p1:=oa.1;have p2:=ob.1;have:m=m':=⋯;exact n (by rw[ea,eb,this])
def tN(lo hi:Option Rat)(m:Rat):Bool:=(match lo with|none=>true|some a=>decide (bj a<m)) && (match hi with|none=>true|some b=>!decide (bj b<m))
theorem vk{lo hi:Option Rat}(lt:∀a b,lo=some a->hi=some b->a<=b):∀ms:List Rat,(ms.filter (tN lo hi)).length+(match lo with|none=>0|some a=>(ms.filter λm=>decide (m<=bj a)).length)=(match hi with|none=>ms.length|some b=>(ms.filter λm=>decide (m<=bj b)).length)
 | []=>by cases lo<;>cases hi<;>rfl
 | m::ms=>by
  have ih:=vk lt ms;have f1:∀(p:Rat->Bool),((m::ms).filter p).length=cond (p m) 1 0+(ms.filter p).length:=λp=>by
   cases z:p m with
   | true=>rw[YF z,YC];show _=1+_;nofun
   | false=>rw[YS (by rw[z];decide)];show _=0+_;nofun
  have n1:∀a:Rat,bj a<m->decide (m<=bj a)=false:=λa z=>Xh ⋯;have n2:∀a:Rat,¬ bj a<m->decide (m<=bj a)=true:=λa z=>Xo ⋯;cases lo with
  | none =>
   cases hi with
   | none =>
    have ih:_+0=ms.length:=ih;rw[f1];show 1+_+0=ms.length+1;nofun
   | some b =>
    have ih:_+0=(ms.filter λm=>decide (m<=bj b)).length:=ih;rw[f1];show _+_+0=((m::ms).filter λm=>decide (m<=bj b)).length;rw[f1];have e:tN none (some b) m=decide (m<=bj b):=by
     show (true && !decide (bj b<m))=_;by_cases z:bj b<m
     .rw[Xo z,n1 b z];rfl
     .rw[Xh z,n2 b z];rfl
    rw[e];nofun
  | some a =>
   cases hi with
   | none =>
    have ih:_+(ms.filter λm=>decide (m<=bj a)).length=ms.length:=ih;rw[f1];show _+_+((m::ms).filter λm=>decide (m<=bj a)).length=ms.length+1;rw[f1];have e:tN (some a) none m=decide (bj a<m):=by show (decide (bj a<m) && true)=_;rw[Bool.and_true]
    rw[e];by_cases z:bj a<m
    .rw[Xo z,n1 a z];show 1+_+(0+_)=_;nofun
    .rw[Xh z,n2 a z];show 0+_+(1+_)=_;nofun
   | some b =>
    have ab:=jj.mpr (lt a b rfl rfl);have ih:_+(ms.filter λm=>decide (m<=bj a)).length=(ms.filter λm=>decide (m<=bj b)).length:=ih;rw[f1];show _+_+((m::ms).filter λm=>decide (m<=bj a)).length=((m::ms).filter λm=>decide (m<=bj b)).length;rw[f1,f1];have e:tN (some a) (some b) m=(decide (bj a<m) && !decide (bj b<m)):=rfl;rw[e];by_cases z:bj a<m
    .rw[Xo z,n1 a z];by_cases y:bj b<m
     .rw[Xo y,n1 b y];show 0+_+(0+_)=0+_;nofun
     .rw[Xh y,n2 b y];show 1+_+(0+_)=1+_;nofun
    .have y:¬ bj b<m:=⋯;rw[Xh z,n2 a z,Xh y,n2 b y];show 0+_+(1+_)=1+_;nofun
theorem zZ{l:List (aO×Nat)}{ms:List Rat}{lo hi:Option Rat}(ok:∀q∈l,q.1.ok/\1<=q.2)(un:l.Pairwise λa b=>a.1≠b.1)(nd:ms.Nodup)(hm:∀v,v∈ms↔v∈kZ l)(lt:∀a b,lo=some a->hi=some b->a<=b):(ms.filter (tN lo hi)).length+Az l lo=vd l hi:=by
 have p:ms.Perm (kZ l):=(List.perm_ext_iff_of_nodup nd (mK ok un)).mpr hm;rw[(p.filter _).length_eq];have:=vk lt (kZ l);cases lo with
 | none =>
  cases hi with
  | none=>show _+0=vz l;rw[tu];exact this
  | some b=>show _+0=iU l b;rw[kE ok];exact this
 | some a =>
  cases hi with
  | none=>show _+iU l a=vz l;rw[tu,kE ok];exact this
  | some b=>show _+iU l a=iU l b;rw[kE ok,kE ok];exact this
def mr(a b:Int):List (List Int×List Int×Int×Int)->List (List Int)
 | []=>[]
 | row::rows=>(row.1.map λy=>(-a*row.2.2.1.sign*row.2.2.2.sign)*y)::mr b (-a*row.2.2.1.sign*row.2.2.2.sign) rows
def qi(a:Int):Prop:=a=1\/a = -1
theorem qi.next{a S T:Int}(h:qi a)(s0:S≠0)(t0:T≠0):qi (-a*T.sign*S.sign):=by
 unfold qi at *
 rcases ff t0 with ⟨z,_⟩|⟨z,_⟩<;>rcases ff s0 with ⟨y,_⟩|⟨y,_⟩<;>rcases h with x|x<;>rw[x,y,z]<;>decide
theorem m7.ne{F G:List Int}{rows:List (List Int×List Int×Int×Int)}(h:m7 F G rows):∀row∈rows,row.2.2.1≠0/\row.2.2.2≠0/\row.1≠[]/\nz row.1 (row.1.length-1)≠0:=by
 induction h with
 | nought=>simp
 | last=>simp
 | more g0 gl s0 t0 r0 rl lr lq e hr ih =>
  intro row fZ;rcases Yh.mp fZ with rfl|z
  .exact⟨t0,s0,r0,rl⟩
  .exact ih row z
theorem iu:∀(rows:List (List Int×List Int×Int×Int))(a b:Int)(G G1:List Int),(∀row∈rows,row.2.2.1≠0/\row.2.2.2≠0)->qi a->qi b->(∀k,nz G1 k=b*nz G k)->G1.length=G.length -> ∃L s,(G1::mr a b rows).getLast? = some L/\qi s/\(∀k,nz L k=s*nz (fM G rows) k)/\L.length=(fM G rows).length
 | [],a,b,G,G1,_,_,hb,h,hl=>⟨G1,b,rfl,hb,h,hl⟩
 | row::rows,a,b,G,G1,hn,ha,hb,h,hl=>by
  obtain⟨L,s,e,ps,hL⟩:=iu rows b (-a*row.2.2.1.sign*row.2.2.2.sign) row.1 (row.1.map λy=>(-a*row.2.2.1.sign*row.2.2.2.sign)*y) (λr hr=>hn r (Yd _ hr)) hb (ha.next (hn row Ye).2 (hn row Ye).1) (λk=>cW k) (by rw[Yb])
  refine⟨L,s,?_,ps,hL⟩;show (G1::(row.1.map _)::mr b _ rows).getLast? = some L;rw[XG];exact e
theorem m7.short{F G:List Int}{rows:List (List Int×List Int×Int×Int)}(h:m7 F G rows):(fM G rows).length<=G.length /\ ∀row∈rows,(fM G rows).length<=row.1.length:=by
 induction h with
 | nought=>exact⟨Yn _,by simp⟩
 | last=>exact⟨Yn _,by simp⟩
 | @more F G R Q T S rows g0 gl s0 t0 r0 rl lr lq e hr ih =>
  have i1:(fM R rows).length<=R.length:=ih.1;refine⟨by show (fM R rows).length<=G.length;nofun,λrow fZ=>?_⟩
  rcases Yh.mp fZ with rfl|z
  .exact i1
  .exact ih.2 row z
theorem Ff{W h P:List Int}(lW:W.length=1)(h0:h≠[])(hz:nz h (h.length-1)≠0)(P1:P.length=1)(Pz:nz P 0≠0)(e:∀k,nz W k=pz (nz h) (nz P) h.length k):∃c:Int,c≠0/\h=[c]:=by
 have hp:=Yy.mpr h0;have hg:∀j,0<j->fO P j=0:=λj hj=>cy P j ();have hf:∀j,h.length-1<j->fO h j=0:=λj hj=>cy h j ();have a:=nu hg hf h.length;rw[Yg ()] at a;have b:((nz W (h.length-1):Int):Rat)=((pz (nz h) (nz P) h.length (h.length-1):Int):Rat):=by rw[<-e]
 rw[iQ] at b;have l1:h.length=1:=Yt λn=>by
  rw[aS ()] at b;have z:fO h (h.length-1)*fO P 0=0:=a.symm.trans b.symm;rcases YE.mp z with y|y
  .exact aC hz y
  .exact aC Pz y
 match h,l1,hz with
 | [c],_,hz=>exact⟨c,hz,rfl⟩
theorem jg:∀(rows:List (List Int×List Int×Int×Int))(a b:Int),(∀row∈rows,row.2.2.1≠0/\row.2.2.2≠0)->qi a->qi b -> ∀F∈mr a b rows,∃row∈rows,∃s,qi s/\F=row.1.map λy=>s*y
 | [],_,_,_,_,_,_,h=>by cases h
 | row::rows,a,b,hn,ha,hb,F,h=>by
  have hm:=ha.next (hn row Ye).2 (hn row Ye).1
  rcases Yh.mp h with z|z
  .exact⟨row,Ye,_,hm,z⟩
  .obtain⟨r,hr,s,hs,e⟩:=jg rows b _ (λr hr=>hn r (Yd _ hr)) hb hm F z;exact⟨r,Yd _ hr,s,hs,e⟩
theorem uO.exq{P F:List Int}(h:uO P F)(lF:F.length<=9)(lP:P.length<=9) {s:Int}:EA (F.map λy=>s*y) P:=by
 obtain⟨A,lA,e⟩:=h;refine⟨A.map λy=>s*y,xU (by rw[Yb];nofun) (by rw[Yb];nofun) λx=>?_⟩
 rw[fS (G:=F) (c:=s) λk=>cW k,fS (G:=A) (c:=s) λk=>cW k,e x];grind
theorem Ed(F:List Int):(F.map λy=>1*y)=F:=by
 rw[show (λy:Int=>1*y)=id from funext λy=>YG y,List.map_id]
inductive wT (P:List Int):List (List Int)->List (List Int)->Prop
 | nil:wT P [] []
 | cons {F h:List Int}{Fs hs:List (List Int)}:h.length<=9->h≠[]->nz h (h.length-1)≠0->(∀k,nz F k=pz (nz h) (nz P) h.length k)->wT P Fs hs->wT P (F::Fs) (h::hs)
theorem wT.all{P:List Int}{Fs hs:List (List Int)}(h:wT P Fs hs):∀x∈hs,x≠[]/\x.length<=20/\nz x (x.length-1)≠0:=by
 induction h with
 | nil=>simp
 | cons a b c _ _ ih =>
  intro x hx;rcases Yh.mp hx with rfl|z
  .exact⟨b,(),c⟩
  .exact ih x z
theorem wT.hsOk{P:List Int}(lP:P.length<=9):∀{rows:List (List Int×List Int×Int×Int)}{a b:Int}{hs:List (List Int)},wT P (mr a b rows) hs->AE (ao P) a b rows hs
 | [],a,b,hs,h=>by cases h;rfl
 | row::rows,a,b,hs,h=>by
  cases h with
  | cons l _ _ e t =>
   refine⟨l,λx=>?_,wT.hsOk lP t⟩;rw[<-jy () e,fS (G:=row.1) (c:=-a*row.2.2.1.sign*row.2.2.2.sign) λk=>cW k]
def CC(fs:List (Int×Int))(hs:List (List Int)):Prop:=(fs.length=1 /\ ∃c:Int,c≠0/\hs=[[c]]) \/ ∃(h0 h1:List Int)(tl:List (List Int))(κ:Rat),hs=h0::h1::tl/\(∀R:Rat,0<=R->Ch R (ao h0) (ao h1::tl.map ao))/\0<κ /\ ∀(l:List (aO×Nat))(c:Rat),de l<=17->(∀x,EV (cf fs) x=c*iJ l x) -> ∀x,κ*(ao h1 x*bJ l x)=ao h0 x*eH l x
theorem rP{W O P L:List Int}{rows:List (List Int×List Int×Int×Int)}{g:Int}(rq:m7 W O rows)(o0:O≠[])(lW:W.length<=9)(lO:O.length<=W.length)(hp:jO (nz P))(lP:P.length<=9)(hL:(O::mr 1 1 rows).getLast? = some L)(eL:∀k,nz L k=g*nz P k)(lr:∀row∈rows,row.1.length<=9):∀F∈W::O::mr 1 1 rows,EA F P:=by
 have hn:∀row∈rows,row.2.2.1≠0/\row.2.2.2≠0:=λrow h=>⟨(rq.ne row h).1,(rq.ne row h).2.1⟩;obtain⟨L',s,e,ps,hs,_⟩:=iu rows 1 1 O O hn (.inl rfl) (.inl rfl) (λk=>by rw[YG]) rfl
 rw[hL] at e;cases e;have el:∀k,nz (fM O rows) k=(s*g)*nz P k:=λk=>by
  have a:=hs k;rw[eL k] at a;have:s*(g*nz P k)=s*(s*nz (fM O rows) k):=by rw[a]
  rw[<-YJ,<-YJ,show s*s=1 by rcases ps with z|z<;>rw[z]<;>decide,YG] at this
  exact this.symm
 obtain⟨dW,dO,dr⟩:=rq.div hp lP o0 lW lO el;have one:∀{F:List Int},uO P F->F.length<=9->EA F P:=λ{F} d l=>by
  have:=d.exq l lP (s:=1)
  rwa [Ed] at this
 intro F hF;rcases Yh.mp hF with rfl|hF
 .exact one dW lW
 .rcases Yh.mp hF with rfl|hF
  .exact one dO ()
  .obtain⟨row,hr,s',_,rfl⟩:=jg rows 1 1 hn (.inl rfl) (.inl rfl) F hF;exact (dr row hr).exq (lr row hr) lP
theorem JG{fs:List (Int×Int)}{W O P L S:List Int}{rows:List (List Int×List Int×Int×Int)}{hs:List (List Int)}{g g':Int}{C:Rat}(rq:m7 W O rows)(o0:O≠[])(lW:W.length<=9)(lO:O.length<=W.length)(p0:P≠[])(pz0:nz P (P.length-1)≠0)(lP:P.length<=9)(hL:(O::mr 1 1 rows).getLast? = some L)(g0:g≠0)(eL:∀k,nz L k=g*nz P k)(hW:∀k,fO W k=cf fs k*C)(hS:∀k,nz S k=((k+1:Nat):Int)*nz W (k+1))(gp:0<g')(hO:∀k,nz S k=g'*nz O k)(pt:wT P (W::O::mr 1 1 rows) hs):CC fs hs:=by
 have hn:∀row∈rows,row.2.2.1≠0/\row.2.2.2≠0:=λrow h=>⟨(rq.ne row h).1,(rq.ne row h).2.1⟩;obtain⟨L',s,e,ps,hs',_⟩:=iu rows 1 1 O O hn (.inl rfl) (.inl rfl) (λk=>by rw[YG]) rfl
 rw[hL] at e;cases e;have s2:s*s=1:=by rcases ps with z|z<;>rw[z]<;>decide
 have el:∀k,nz (fM O rows) k=(s*g)*nz P k:=λk=>by
  have a:=hs' k;rw[eL k] at a;have:s*(g*nz P k)=s*(s*nz (fM O rows) k):=by rw[a]
  rw[<-YJ,<-YJ,s2,YG] at this;exact this.symm
 have pl:Py (ao P):=cz ();have l0:∃x,ao P x≠0:=Yt λz=>pz0 (by
  have:=lX (F:=P) (G:=[]) () (by simp) (λx=>by
   rw[lU];exact Yt λy=>z ⟨x,y⟩) (P.length-1)
  rw[this,aS (by simp)])
 cases pt with
 | @cons _ h0 _ _ a1 a2 a3 a4 pt =>
 cases pt with
 | @cons _ h1 _ tl b1 b2 b3 b4 pt =>
 have e0:∀x,ao W x=ao h0 x*ao P x:=jy () a4;have e1:∀x,ao O x=ao h1 x*ao P x:=jy () b4;have c1:((1:Int):Rat)=1:=rfl;refine .inr ⟨h0,h1,tl,(g':Rat),rfl,λR R0=>?_,YA.mpr gp,λl c dl el' x=>?_⟩
 .exact rq.ch R0 pl l0 (a:=1) (b:=1) (g:=s*g) (.inl rfl) (.inl rfl) (YL (by rcases ps with z|z<;>nofun) g0) o0 lW lO a1 b1 (λx=>by rw[c1,Rat.one_mul];exact e0 x) (λx=>by rw[c1,Rat.one_mul];exact e1 x) (pt.hsOk lP) λx=>fS el x
 .have eW:∀x,ao W x=(c*C)*iJ l x:=λx=>by
   have:ao W x=EV (cf fs) x*C:=by
    unfold ao;rw[eN (g:=λk=>0+C*cf fs k) (λk=>by rw[hW k];grind) x,jG,kI (f:=λ_=>0) λ_=>rfl]
    grind
   rw[this,el' x];grind
  have sid:=AW dl lW hS eW;have key:=Py.zero (f:=λx=>(g':Rat)*(ao h1 x*bJ l x)-ao h0 x*eH l x) (g:=ao P) ?_ pl (λx=>?_) l0 x
  .grind
  .have q1:∀l:List (aO×Nat),Py (bJ l)/\Py (eH l):=by
    have fp:∀q:aO,Py q.p/\Py q.d:=λq=>by
     cases q with
     | line r=>exact⟨(Py.id.sub (.const r)).congr λx=>rfl,(Py.const 1).congr λx=>rfl⟩
     | root n=>exact⟨((Py.id.mul Py.id).sub (.const n)).congr λx=>rfl,((Py.const 2).mul Py.id).congr λx=>rfl⟩
     | none n=>exact⟨((Py.id.mul Py.id).add (.const n)).congr λx=>rfl,((Py.const 2).mul Py.id).congr λx=>rfl⟩
    intro l;induction l with
    | nil=>exact⟨(Py.const 1).congr λx=>rfl,(Py.const 0).congr λx=>rfl⟩
    | cons q l ih=>exact⟨((fp q.1).1.mul ih.1).congr λx=>rfl,((((Py.const _).mul (fp q.1).2).mul ih.1).add ((fp q.1).1.mul ih.2)).congr λx=>rfl⟩
   exact (((cz ()).mul (q1 l).1).sc _).sub ((cz ()).mul (q1 l).2)
  .have z1:=sid x;have z2:ao S x=(g':Rat)*ao O x:=fS hO x;rw[z2,e0 x,e1 x] at z1;grind
structure GF where
 p:Rat->Rat
 d:Rat->Rat
 A:Rat->Int
def kT:List GF->Rat->Rat
 | [],_=>1
 | q::l,x=>q.p x*kT l x
def tZ:List GF->Rat->Rat
 | [],_=>0
 | q::l,x=>q.d x*kT l x+q.p x*tZ l x
def pX:List GF->Rat->Int
 | [],_=>0
 | q::l,x=>q.A x+pX l x
theorem pJ{l l':List GF}(h:l.Perm l')(x:Rat):kT l x=kT l' x:=by
 induction h with
 | nil=>rfl
 | cons q _ ih=>show q.p x*_=q.p x*_;rw[ih]
 | swap a b l=>show b.p x*(a.p x*kT l x)=a.p x*(b.p x*kT l x);grind
 | trans _ _ h1 h2=>rw[h1,h2]
theorem AX{l l':List GF}(h:l.Perm l')(x:Rat):tZ l x=tZ l' x:=by
 induction h with
 | nil=>rfl
 | cons q h ih=>show _*kT _ x+q.p x*tZ _ x=_*kT _ x+q.p x*tZ _ x;rw[ih,pJ h]
 | swap a b l =>
  show b.d x*(a.p x*kT l x)+b.p x*(a.d x*kT l x+a.p x*tZ l x)=a.d x*(b.p x*kT l x)+a.p x*(b.d x*kT l x+b.p x*tZ l x);grind
 | trans _ _ h1 h2=>rw[h1,h2]
theorem uF{l l':List GF}(h:l.Perm l')(x:Rat):pX l x=pX l' x:=by
 induction h with
 | nil=>rfl
 | cons q _ ih=>show q.A x+_=q.A x+_;rw[ih]
 | swap a b l=>show b.A x+(a.A x+pX l x)=a.A x+(b.A x+pX l x);nofun
 | trans _ _ h1 h2=>rw[h1,h2]
def vI(u v:Rat):Int:=if sg u*sg v = -1 then 1 else 0
def GE(R:Rat)(q:GF)(e:Rat):Prop:=(∀x,Wi R x->Sm e (q.p x)->Bg e (q.d x))/\(∀c d,Wi R c->Wi R d->c<=d->d-c<=e->Sm e (q.p c)->Sm e (q.p d)->vI (q.p c) (q.d c)+q.A c=vI (q.p d) (q.d d)+q.A d) /\ ∀c d,Wi R c->Wi R d->c<=d->d-c<=e->sg (q.p c)=sg (q.p d)->sg (q.p c)≠0->q.A c=q.A d
theorem GE.mono{R:Rat}{q:GF}{e e':Rat}(h:GE R q e)(le:e'<=e):GE R q e' :=
 ⟨λx w s=>(h.1 x w (s.mono le)).mono le,λc d wc wd cd n sc sd=>h.2.1 c d wc wd cd ⋯ (sc.mono le) (sd.mono le),λc d wc wd cd n s s0=>h.2.2 c d wc wd cd ⋯ s s0⟩
structure CI (R:Rat)(q:GF):Prop where
 pp:Py q.p
 pd:Py q.d
 ex:∃e:Rat,0<e/\GE R q e
theorem wO{R:Rat}:∀{l:List GF},(∀q∈l,CI R q)->Py (kT l)
 | [],_=>(Py.const 1).congr λ_=>rfl
 | q::l,h=>((h q Ye).pp.mul (wO λp hp=>h p (Yd _ hp))).congr λ_=>rfl
theorem vH{R:Rat}:∀{l:List GF},(∀q∈l,CI R q)->Py (tZ l)
 | [],_=>(Py.const 0).congr λ_=>rfl
 | q::l,h=>(((h q Ye).pd.mul (wO λp hp=>h p (Yd _ hp))).add ((h q Ye).pp.mul (vH λp hp=>h p (Yd _ hp)))).congr λ_=>rfl
theorem sV{e x:Rat}(e0:0<e):∀{l:List GF},(∀q∈l,¬ Sm e (q.p x))->Bg (eD e l.length) (kT l x)
 | [],_=>.inl (by show (1:Rat)<=1;grind)
 | q::l,h=>(Bg.of (h q Ye)).mul (sV e0 λq' hq=>h q' (Yd _ hq)) (Yl e0) (Yl (fB e0 _))
def Jw(R:Rat)(l:List GF)(q:GF)(e:Rat):Prop:=GE R q e /\ ∃l',l.Perm (q::l') /\ ∀x,Wi R x->Sm e (q.p x)->Bg e (tZ l x)/\Bg e (kT l' x)/\sg (tZ l x)=sg (q.d x)*sg (kT l' x)/\sg (q.d x)≠0 /\ ∀q'∈l',¬ Sm e (q'.p x)
theorem Jw.mono{R:Rat}{l:List GF}{q:GF}{e e':Rat}(h:Jw R l q e)(le:e'<=e):Jw R l q e':=by
 obtain⟨hw,l',p,h⟩:=h;refine⟨hw.mono le,l',p,λx wx s=>?_⟩;obtain⟨a,b,c,d,f⟩:=h x wx (s.mono le);exact⟨a.mono le,b.mono le,c,d,λq' hq z=>f q' hq (z.mono le)⟩
theorem Cr{R:Rat}(R0:0<=R) {l:List GF}(ok:∀q∈l,CI R q)(un:l.Pairwise λa b=>cY R a.p b.p) {q:GF}(hq:q∈l):∃e:Rat,0<e/\Jw R l q e:=by
 obtain⟨l',p⟩ : ∃l',l.Perm (q::l'):=by
  obtain⟨s,t,rfl⟩:=List.append_of_mem hq;exact⟨s++t,List.perm_middle⟩
 have un':=(p.pairwise_iff (λh=>cY.symm h)).mp un;obtain⟨uq,_⟩:=Y0.mp un';have ok':∀q'∈l',CI R q':=λq' h=>ok q' (p.mem_iff.mpr (Yd _ h));obtain⟨η,η0,hη⟩:=Bm (P:=λ(q':GF) e=>∀x,Wi R x->Sm e (q.p x)->Sm e (q'.p x)->False) (λa e e' h _ le x w s1 s2=>h x w (s1.mono le) (s2.mono le)) l' λq' h=>by
  obtain⟨e,e0,he⟩:=uq q' h;exact⟨e,e0,he⟩
 obtain⟨σ,σ0,ge⟩:=(ok q hq).ex;obtain⟨M,M0,hM⟩:=(vH ok').bdd R0;have π0:=fB η0 l'.length;obtain⟨π,hπ⟩ : ∃π,π=eD η l'.length:=⟨_,rfl⟩;rw[<-hπ] at π0;have sp:=Yo σ0 π0;have sp2:0<σ*π/2/M:=by rw[YN M0];grind
 obtain⟨t1,t10,t11,t12,t13⟩:=ko η0 σ0 sp2;obtain⟨e,e0,e1,e2,e3⟩:=ko t10 (show 0<σ*π/2 by grind) π0
 refine⟨e,e0,ge.mono ⋯,l',p,λx wx s=>?_⟩;have b1:Bg σ (q.d x):=ge.1 x wx (s.mono ⋯);have b2:Bg π (kT l' x):=by
  rw[hπ];exact sV η0 λq' h z=>hη q' h x wx (s.mono ⋯) z
 have b4:=b1.mul b2 (Yl σ0) (Yl π0);have s2:=s.mul (hM x wx);have le:e*M<=σ*π/2:=by
  have k:e<=σ*π/2/M:=⋯;have:=Yf (Yl M0) (show 0<=σ*π/2/M-e by grind)
  have z:M*(σ*π/2/M)=σ*π/2:=⋯;grind
 have e5:tZ l x=q.d x*kT l' x+q.p x*tZ l' x:=AX p x;obtain⟨n1,n2⟩:=yj (e:=σ*π/2) (b4.mono ⋯) (s2.mono le) ⋯;rw[<-e5] at n1 n2;refine⟨n2.mono e2,b2.mono e3,?_,b1.ne σ0,λq' h z=>hη q' h x wx (s.mono ⋯) (z.mono ⋯)⟩;rw[n1,gm]
theorem pS{R e c d:Rat}(wc:Wi R c)(wd:Wi R d)(cd:c<=d)(n:d-c<=e):∀{l:List GF},(∀q∈l,GE R q e/\sg (q.p c)=sg (q.p d)/\sg (q.p c)≠0)->pX l c=pX l d
 | [],_=>rfl
 | q::l,h=>by
  obtain⟨b,s,s0⟩:=h q Ye;show q.A c+pX l c=q.A d+pX l d;rw[b.2.2 c d wc wd cd n s s0,pS wc wd cd n λq' h'=>h q' (Yd _ h')]
def uZ(R:Rat)(f g:Rat->Rat)(A:Rat->Int):Prop:=∃δ:Rat,0<δ /\ ∀c d,Wi R c->Wi R d->c<=d->d-c<=δ->(sg (f c)=sg (f d)/\sg (f c)≠0/\A c=A d)\/(sg (g c)=sg (g d)/\sg (g c)≠0/\vI (f c) (g c)+A c=vI (f d) (g d)+A d)
theorem uz{R:Rat}(R0:0<=R) {l:List GF}{f g:Rat->Rat}{κ:Rat}(ok:∀q∈l,CI R q)(un:l.Pairwise λa b=>cY R a.p b.p)(lf:vy R f)(lg:vy R g)(nb:cY R f g)(k0:0<κ)(id:∀x,κ*(g x*kT l x)=f x*tZ l x):uZ R f g (pX l):=by
 obtain⟨θ,θ0,hθ⟩:=Bm (P:=Jw R l) (λq e e' h _ le=>h.mono le) l λq hq=>Cr R0 ok un hq;obtain⟨ε,ε0,hε⟩:=nb;obtain⟨G,G0,hG⟩:=lg.bdd R0;obtain⟨P,P0,hP⟩:=(vH ok).bdd R0;obtain⟨τ,τ0,τθ,hτ⟩ : ∃τ:Rat,0<τ/\τ<=θ /\ ∀q∈l,∀x,Wi R x->Sm τ (q.p x)->Sm ε (f x):=by
  obtain⟨τ,τ0,h⟩:=Bm (P:=λ(q:GF) t=>t<=θ /\ ∀x,Wi R x->Sm t (q.p x)->Sm ε (f x)) (λq e e' h _ le=>⟨⋯,λx w s=>h.2 x w (s.mono le)⟩) l λq hq=>by
   obtain⟨_,l',p,hx⟩:=hθ q hq;obtain⟨H,H0,hH⟩:=(wO (R:=R) (l:=l') λq' h=>ok q' (p.mem_iff.mpr (Yd _ h))).bdd R0;have z0:=Yo k0 (Yo G0 H0);have z1:0<θ*ε/2/(κ*(G*H)):=by rw[YN z0];have:=Yo θ0 ε0;grind
   obtain⟨t,t0,t1,t2,_⟩:=ko θ0 z1 z1;refine⟨t,t0,t1,λx w s=>?_⟩;obtain⟨b1,_⟩:=hx x w (s.mono t1);refine Yt λnf=>?_;have nf:=Bg.of nf;have e1:=id x;rw[pJ p x] at e1;have e1:κ*(g x*(q.p x*kT l' x))=f x*tZ l x:=e1;have m1:=((hG x w).mul (s.mul (hH x w)));have m2:=(show Sm κ κ by unfold Sm;grind).mul m1
   rw[e1] at m2;have b2:=nf.mul b1 (Yl ε0) (Yl θ0);have m3:κ*(G*(t*H))<=θ*ε/2:=by
    have:=Yf (Yl z0) (show 0<=θ*ε/2/(κ*(G*H))-t by grind)
    have z:κ*(G*H)*(θ*ε/2/(κ*(G*H)))=θ*ε/2:=⋯;grind
   refine b2.no ?_ (m2.mono m3);have:=Yo θ0 ε0;grind
  cases l with
  | nil=>exact⟨θ,θ0,⋯,λq hq=>by cases hq⟩
  | cons q0 l0=>exact⟨τ,τ0,(h q0 Ye).1,λq hq=>(h q hq).2⟩
 obtain⟨φ,φ0,hφ⟩ : ∃φ:Rat,0<φ /\ ∀x,Wi R x->(∀q∈l,¬ Sm (τ/2) (q.p x)) -> ¬ Sm φ (f x):=by
  have h2:0<τ/2:=⋯;have π0:=fB h2 l.length;have z0:=Yo k0 (Yo ε0 π0);have z1:0<κ*(ε*eD (τ/2) l.length)/2/P:=by rw[YN P0];grind
  obtain⟨φ,φ0,f1,f2,_⟩:=ko ε0 z1 z1;refine⟨φ,φ0,λx w h s=>?_⟩;have bg:=Bg.of λz=>hε x w (s.mono f1) z;have b1:=(show Bg κ κ from .inl ⋯).mul (bg.mul (sV h2 h) (Yl ε0) (Yl π0)) (Yl k0) (Yl (Yo ε0 π0))
  have m1:=s.mul (hP x w);rw[<-id] at m1;refine b1.no ?_ m1;have:=Yf (Yl P0) (show 0<=κ*(ε*eD (τ/2) l.length)/2/P-φ by grind)
  have z:P*(κ*(ε*eD (τ/2) l.length)/2/P)=κ*(ε*eD (τ/2) l.length)/2:=⋯;grind
 obtain⟨δ1,p1,h1⟩:=lf.near φ0;obtain⟨δ2,p2,h2⟩:=lg.near ε0;obtain⟨δ3,p3,h3⟩:=Bm (P:=λ(q:GF) t=>∀c d,Wi R c->Wi R d->c<=d->d-c<=t->Sm (τ/2) (q.p d-q.p c)) (λq e e' h _ le c d wc wd cd n=>h c d wc wd cd ⋯) l λq hq=>((ok q hq).pp.lip R0).near ⋯;obtain⟨δ4,p4,a1,a2,a3⟩:=ko p1 p2 p3;obtain⟨δ,p,b1,b2,_⟩:=ko p4 θ0 θ0;refine⟨δ,p,λc d wc wd cd n=>?_⟩;have hp:∀q∈l,Sm (τ/2) (q.p d-q.p c):=λq hq=>h3 q hq c d wc wd cd ⋯;by_cases ex:∃q∈l,Sm (τ/2) (q.p c)
 .obtain⟨q,hq,s⟩:=ex;right
  have sc:Sm τ (q.p c):=s.mono ⋯;have sd:Sm τ (q.p d):=by
   have:=hp q hq;unfold Sm at *
   grind
  have ng:=me (h2 c d wc wd cd ⋯) λz=>hε c wc (hτ q hq c wc sc) z;refine⟨ng.1,ng.2,?_⟩;obtain⟨hw,l',pm,hx⟩:=hθ q hq;have v:∀x,Wi R x->Sm τ (q.p x)->vI (f x) (g x)=vI (q.p x) (q.d x):=λx wx sx=>by
   obtain⟨_,q2,q3,q4,_⟩:=hx x wx (sx.mono τθ);have q5:=q2.ne θ0;have q6:sg (g x)≠0:=λz=>hε x wx (hτ q hq x wx sx) (by rw[dJ.mp z];unfold Sm;grind)
   have e1:=X7 sg (id x);rw[pJ pm x,gm,cn k0,YG,gm,gm,q3] at e1;have e1:sg (g x)*sg (q.p x*kT l' x)=sg (f x)*(sg (q.d x)*sg (kT l' x)):=e1;rw[gm] at e1;have e2:sg (f x)*sg (g x)=sg (q.p x)*sg (q.d x):=by
    rcases cA (kT l' x) with z1|z1|z1<;>rcases cA (g x) with z2|z2|z2<;>rcases cA (q.d x) with z3|z3|z3<;>rw[z1,z2,z3] at e1<;>rw[z2,z3]<;>nofun
   unfold vI;rw[e2]
  rw[v c wc sc,v d wd sd,uF pm c,uF pm d];show _+(q.A c+pX l' c)=_+(q.A d+pX l' d);have ps:=hw.2.1 c d wc wd cd ⋯ (sc.mono τθ) (sd.mono τθ);have pa:pX l' c=pX l' d:=pS wc wd cd (show d-c<=θ by grind) λq' h'=>by
   have hq':q'∈l:=pm.mem_iff.mpr (Yd _ h');obtain⟨_,_,_,_,nq⟩:=hx c wc (sc.mono τθ);obtain⟨y1,y2⟩:=me ((hp q' hq').mono (show τ/2<=θ by grind)) (nq q' h')
   exact⟨(hθ q' hq').1,y1,y2⟩
  nofun
 .left
  have al:∀q∈l,¬ Sm (τ/2) (q.p c):=λq hq s=>ex ⟨q,hq,s⟩;have nf:=me (h1 c d wc wd cd ⋯) (hφ c wc al);refine⟨nf.1,nf.2,pS wc wd cd (show d-c<=θ by grind) λq hq=>?_⟩
  obtain⟨y1,y2⟩:=me (hp q hq) (al q hq);exact⟨(hθ q hq).1,y1,y2⟩
theorem yx{f g:Rat->Rat}{l:List (Rat->Rat)}{x:Rat}(h:sg (g x)≠0):((Vr x (f::g::l):Nat):Int)=vI (f x) (g x)+((chg (sg (g x)) (fK x l):Nat):Int):=by
 rw[IV h];unfold v1 vI;split<;>nofun
theorem Ch.countsI{R:Rat}{f g:Rat->Rat}{l:List (Rat->Rat)}{A:Rat->Int}(h:Ch R f (g::l))(loc:uZ R f g A) {a b:Rat}(wa:Wi R a)(wb:Wi R b)(ab:a<=b):((Vr a (f::g::l):Nat):Int)+A a=((Vr b (f::g::l):Nat):Int)+A b:=by
 obtain⟨δ1,d1,k1⟩:=h.keeps.1;obtain⟨δ2,d2,k2⟩:=h.keeps.2 g l rfl;obtain⟨δ3,d3,k3⟩:=loc;obtain⟨δ,d0,m1,m2,m3⟩:=ko d1 d2 d3;have step:∀c d,Wi R c->Wi R d->c<=d->d-c<=δ->((Vr c (f::g::l):Nat):Int)+A c=((Vr d (f::g::l):Nat):Int)+A d:=λc d wc wd cd n=>by
  rcases k3 c d wc wd cd ⋯ with ⟨e,nz,ea⟩|⟨e,nz,ea⟩
  .rw[AQ nz,AQ (by rw[<-e];exact nz),k1 c d wc wd cd ⋯ e nz,ea]
  .rw[yx nz,yx (by rw[<-e];exact nz),k2 c d wc wd cd ⋯ e nz]
   nofun
 have all:∀(n:Nat)(c:Rat),Wi R c->c<=b->b-c<=(n:Rat)*δ->((Vr c (f::g::l):Nat):Int)+A c=((Vr b (f::g::l):Nat):Int)+A b:=by
  intro n;induction n with
  | zero =>
   intro c _ cb z;obtain rfl:c=b:=by
    have:((0:Nat):Rat)=0:=rfl;grind
   rfl
  | succ n ih =>
   intro c wc cb z;by_cases y:b-c<=δ
   .exact step c b wc wb cb y
   .have wc':Wi R (c+δ):=by unfold Wi at *;grind
    rw[step c (c+δ) wc wc' ⋯ ⋯];refine ih (c+δ) wc' ⋯ ?_;have:((n+1:Nat):Rat)=(n:Rat)+1:=by rw[Rat.natCast_add];rfl
    rw[this] at z;grind
 obtain⟨n,hn⟩ : ∃n:Nat,b-a<=(n:Rat)*δ:=by
  obtain⟨x,hx⟩ : ∃x,x=(b-a)/δ:=⟨_,rfl⟩;refine⟨(x.ceil).toNat,?_⟩;have h1:x<=((x.ceil:Int):Rat):=Rat.le_ceil;have h2:((x.ceil:Int):Rat)<=((x.ceil.toNat:Nat):Rat):=by
   rw[show ((x.ceil.toNat:Nat):Rat)=(((x.ceil.toNat:Nat):Int):Rat) from rfl]
   exact YD.mpr (Int.self_le_toNat _)
  have h3:=Yf (Yl d0) (show 0<=((x.ceil.toNat:Nat):Rat)-x by grind)
  have h4:x*δ=b-a:=by rw[hx];grind
  grind
 exact all n a wa ab hn
theorem Ch.tarski{R:Rat}(R0:0<=R) {l:List GF}{f g:Rat->Rat}{fs:List (Rat->Rat)}{κ:Rat}(h:Ch R f (g::fs))(ok:∀q∈l,CI R q)(un:l.Pairwise λa b=>cY R a.p b.p)(lg:vy R g)(k0:0<κ)(id:∀x,κ*(g x*kT l x)=f x*tZ l x) {a b:Rat}(wa:Wi R a)(wb:Wi R b)(ab:a<=b):((Vr a (f::g::fs):Nat):Int)+pX l a=((Vr b (f::g::fs):Nat):Int)+pX l b :=
 h.countsI (uz R0 ok un h.lip lg (h.notBoth g fs rfl) k0 id) wa wb ab
def Bz(f g:Rat->Rat):Prop:=∃u v,Py u/\Py v /\ ∀x,u x*f x+v x*g x=1
theorem Bz.symm{f g:Rat->Rat}(h:Bz f g):Bz g f:=by
 obtain⟨u,v,a,b,e⟩:=h;exact⟨v,u,b,a,λx=>by have:=e x;grind⟩
theorem Bz.mul{f g h:Rat->Rat}(pf:Py f)(pg:Py g)(ph:Py h)(a:Bz f g)(b:Bz f h):Bz f λx=>g x*h x:=by
 obtain⟨u,v,pu,pv,e⟩:=a;obtain⟨u',v',pu',pv',e'⟩:=b;refine⟨λx=>u x*(u' x*f x+v' x*h x)+v x*g x*u' x,λx=>v x*v' x,(pu.mul ((pu'.mul pf).add (pv'.mul ph))).add ((pv.mul pg).mul pu'),pv.mul pv',λx=>?_⟩;have e1:=e x;have e2:=e' x;have:(u x*f x+v x*g x)*(u' x*f x+v' x*h x)=1:=by rw[e1,e2];grind
 grind
theorem Bz.add{f g k:Rat->Rat}(pk:Py k)(h:Bz f g):Bz f λx=>g x+f x*k x:=by
 obtain⟨u,v,pu,pv,e⟩:=h;exact⟨λx=>u x-v x*k x,v,pu.sub (pv.mul pk),pv,λx=>by have:=e x;grind⟩
theorem Bz.congr{f g f' g':Rat->Rat}(h:Bz f g)(e1:∀x,f' x=f x)(e2:∀x,g' x=g x):Bz f' g':=by
 obtain⟨u,v,pu,pv,e⟩:=h;exact⟨u,v,pu,pv,λx=>by rw[e1,e2];exact e x⟩
theorem Bz.of{f g a b:Rat->Rat}{c:Rat}(pa:Py a)(pb:Py b)(c0:c≠0)(e:∀x,a x*f x+b x*g x=c):Bz f g :=
 ⟨λx=>1/c*a x,λx=>1/c*b x,pa.sc _,pb.sc _,λx=>by
  have:=e x;have:1/c*c=1:=⋯;grind⟩
theorem aO.pp:∀q:aO,Py q.p
 | .line r=>(Py.id.sub (.const r)).congr λ_=>rfl
 | .root n=>((Py.id.mul Py.id).sub (.const n)).congr λ_=>rfl
 | .none n=>((Py.id.mul Py.id).add (.const n)).congr λ_=>rfl
theorem aO.pd:∀q:aO,Py q.d
 | .line _=>(Py.const 1).congr λ_=>rfl
 | .root _=>((Py.const 2).mul Py.id).congr λ_=>rfl
 | .none _=>((Py.const 2).mul Py.id).congr λ_=>rfl
theorem dB:∀l:List (aO×Nat),Py (bJ l)
 | []=>(Py.const 1).congr λ_=>rfl
 | q::l=>(q.1.pp.mul (dB l)).congr λ_=>rfl
theorem gK:∀l:List (aO×Nat),Py (eH l)
 | []=>(Py.const 0).congr λ_=>rfl
 | q::l=>((((Py.const _).mul q.1.pd).mul (dB l)).add (q.1.pp.mul (gK l))).congr λ_=>rfl
theorem aO.bz{q q':aO}(h:q.ok)(h':q'.ok)(n:q≠q'):Bz q.p q'.p:=by
 have none_none:∀m m':Rat,m≠m'->Bz (aO.none m).p (aO.none m').p:=λm m' n=>.of (a:=λ_=>1) (b:=λ_=>-1) (c:=m-m') (.const 1) (.const (-1)) (λz=>n ⋯) λx=>by
  show 1*(x*x+m) + -1*(x*x+m')=m-m';grind
 have line_none:∀r m:Rat,0<m->Bz (aO.line r).p (aO.none m).p:=λr m m0=>.of (a:=λx=>-(x+r)) (b:=λ_=>1) (c:=r*r+m) (((Py.id.add (.const r)).sc (-1)).congr λx=>by grind) (.const 1) (λz=>by have:=jo r;grind) λx=>by
  show -(x+r)*(x-r)+1*(x*x+m)=r*r+m;grind
 have root_none:∀n m:Rat,0<n->0<m->Bz (aO.root n).p (aO.none m).p:=λn m n0 m0=>.of (a:=λ_=>-1) (b:=λ_=>1) (c:=n+m) (.const (-1)) (.const 1) ⋯ λx=>by
  show -1*(x*x-n)+1*(x*x+m)=n+m;grind
 have line_root':∀r n:Rat,(∀r:Rat,r*r≠n)->Bz (aO.line r).p (aO.root n).p:=λr n hn=>.of (a:=λx=>-(x+r)) (b:=λ_=>1) (c:=r*r-n) (((Py.id.add (.const r)).sc (-1)).congr λx=>by grind) (.const 1) (λz=>hn r ⋯) λx=>by
  show -(x+r)*(x-r)+1*(x*x-n)=r*r-n;grind
 cases q with
 | line r =>
  cases q' with
  | line s=>exact .of (a:=λ_=>1) (b:=λ_=>-1) (c:=s-r) (.const 1) (.const (-1)) (λz=>n (by rw[show r=s by grind])) λx=>by show 1*(x-r) + -1*(x-s)=s-r;grind
  | root m=>exact line_root' r m h'.2
  | none m=>exact line_none r m h'
 | root m =>
  cases q' with
  | line s=>exact (line_root' s m h.2).symm
  | root m'=>exact .of (a:=λ_=>1) (b:=λ_=>-1) (c:=m'-m) (.const 1) (.const (-1)) (λz=>n (by rw[show m=m' by grind])) λx=>by show 1*(x*x-m) + -1*(x*x-m')=m'-m;grind
  | none m'=>exact root_none m m' h.1 h'
 | none m =>
  cases q' with
  | line s=>exact (line_none s m h).symm
  | root m'=>exact (root_none m' m h'.1 h).symm
  | none m'=>exact none_none m m' λz=>n (by rw[z])
theorem aO.bzd{q:aO}(h:q.ok):Bz q.p q.d:=by
 cases q with
 | line r=>exact .of (a:=λ_=>0) (b:=λ_=>1) (c:=1) (.const 0) (.const 1) ∅ λx=>by show 0*_+1*(1:Rat)=1;grind
 | root n =>
  have n0:=h.1;exact .of (a:=λ_=>-2) (b:=λx=>x) (c:=2*n) (.const (-2)) .id ⋯ λx=>by show -2*(x*x-n)+x*(2*x)=2*n;grind
 | none n =>
  have n0:0<n:=h;exact .of (a:=λ_=>2) (b:=λx=>-x) (c:=2*n) (.const 2) ((Py.id.sc (-1)).congr λx=>by grind) ⋯ λx=>by show 2*(x*x+n) + -x*(2*x)=2*n;grind
theorem Bz.sc{f g:Rat->Rat}{c:Rat}(c0:c≠0)(h:Bz f g):Bz f λx=>c*g x:=by
 obtain⟨u,v,pu,pv,e⟩:=h;exact⟨u,λx=>1/c*v x,pu,pv.sc _,λx=>by
  have:=e x;have:1/c*c=1:=⋯;grind⟩
theorem vK{q:aO}(h:q.ok):∀{l:List (aO×Nat)},(∀p∈l,p.1.ok/\1<=p.2)->(∀p∈l,q≠p.1)->Bz q.p (bJ l)
 | [],_,_=>(Bz.of (a:=λ_=>0) (b:=λ_=>1) (c:=1) (g:=λ_=>1) (.const 0) (.const 1) ∅ λx=>by grind).congr (λ_=>rfl) λ_=>rfl
 | p::l,ok,n=>(Bz.mul q.pp p.1.pp (dB l) (aO.bz h (ok p Ye).1 (n p Ye)) (vK h (λp' hp=>ok p' (Yd _ hp)) λp' hp=>n p' (Yd _ hp))).congr (λ_=>rfl) λ_=>rfl
theorem sF:∀{l:List (aO×Nat)},(∀q∈l,q.1.ok/\1<=q.2)->l.Pairwise (λa b=>a.1≠b.1)->Bz (bJ l) (eH l)
 | [],_,_=>⟨λ_=>1,λ_=>0,.const 1,.const 0,λx=>by show 1*1+0*0=(1:Rat);grind⟩
 | q::l,ok,un=>by
  obtain⟨u1,u2⟩:=Y0.mp un;have okl:∀p∈l,p.1.ok/\1<=p.2:=λp hp=>ok p (Yd _ hp);have ih:=sF okl u2;have hq:=ok q Ye;have m0:((q.2:Nat):Rat)≠0:=λz=>by
   have h1:((1:Nat):Rat)<=((q.2:Nat):Rat):=Rat.natCast_le_natCast.mpr hq.2;have h2:((1:Nat):Rat)=1:=rfl;grind
  have b1:=vK hq.1 okl λp hp=>u1 p hp;have x1:Bz q.1.p (eH (q::l)):=by
   have:=(((Bz.mul q.1.pp q.1.pd (dB l) (aO.bzd hq.1) b1).sc m0)).add (gK l);exact this.congr (λ_=>rfl) λx=>by show ((q.2:Nat):Rat)*q.1.d x*bJ l x+q.1.p x*eH l x=_;grind
  have x2:Bz (bJ l) (eH (q::l)):=by
   have:=(Bz.mul (dB l) q.1.pp (gK l) b1.symm ih).add ((q.1.pd.sc ((q.2:Nat):Rat)));exact this.congr (λ_=>rfl) λx=>by show ((q.2:Nat):Rat)*q.1.d x*bJ l x+q.1.p x*eH l x=_;grind
  exact (Bz.mul (gK _) q.1.pp (dB l) x1.symm x2.symm).symm.congr (λ_=>rfl) λ_=>rfl
theorem pR:∀l:List Rat,∃l':List Rat,(∀x,fD l x=fD l' x)/\(l'=[] \/ ∃c,l'.getLast? = some c/\c≠0)
 | []=>⟨[],λ_=>rfl,.inl rfl⟩
 | a::l=>by
  obtain⟨l',e,h⟩:=pR l;rcases h with rfl|⟨c,hc,c0⟩
  .by_cases z:a=0
   .exact⟨[],λx=>by show a+x*fD l x=0;rw[e x];show a+x*0=0;grind,.inl rfl⟩
   .exact⟨[a],λx=>by show a+x*fD l x=a+x*0;rw[e x];rfl,.inr ⟨a,rfl,z⟩⟩
  .refine⟨a::l',λx=>by show a+x*fD l x=a+x*fD l' x;rw[e x],.inr ⟨c,?_,c0⟩⟩
   cases l' with
   | nil=>cases hc
   | cons b l'=>rw[XG];exact hc
theorem se:∀l:List Rat,(∃c,l.getLast? = some c/\c≠0) -> ∃R c:Rat,0<R/\0<c /\ ∀x,R<=x->Bg c (fD l x)/\(2<=l.length->Bg (c*x) (fD l x))
 | [],⟨_,h,_⟩=>by cases h
 | [a],⟨c,h,c0⟩=>by
  cases h;rcases bA a with ⟨z,_⟩|⟨z,_⟩|⟨z,_⟩
  .exact⟨1,a,∅,z,λx _=>⟨.inl (by show a<=a+x*0;grind),λh=>by simp at h⟩⟩
  .exact⟨1,-a,∅,⋯,λx _=>⟨.inr (by show a+x*0<=_;grind),λh=>by simp at h⟩⟩
  .exact absurd z c0
 | a::b::l,⟨c,h,c0⟩=>by
  rw[XG] at h;obtain⟨R,k,R0,k0,hk⟩:=se (b::l) ⟨c,h,c0⟩;obtain⟨t,t0,ht⟩:=ir.const (R:=0) a;have ht:=ht 0 (by unfold Wi;grind)
  have tk:0<2*t/k:=by rw[YN k0];grind
  have tkk:2*t/k*k=2*t:=⋯;refine⟨R+1+2*t/k,k/2,⋯,⋯,λx hx=>?_⟩;have b1:=(hk x ⋯).1;have m:=Yf (Yl k0) (show 0<=x-(1+2*t/k) by grind)
  have b2:=(show Bg x x from .inl ⋯).mul b1 ⋯ (Yl k0)
  have b3:Bg (k/2*x) (a+x*fD (b::l) x):=by
   unfold Bg at b2 ⊢;unfold Sm at ht;grind
  refine⟨b3.mono ?_,λ_=>b3⟩;have:=Yf (show 0<=k/2 by grind) (show 0<=x-1 by grind)
  grind
theorem oI{w v:Rat->Rat}(pw:Py w)(pv:Py v)(e:∀x,w x*v x=1):∃c:Rat,c≠0 /\ ∀x,w x=c:=by
 obtain⟨lw,hw⟩:=pw;obtain⟨lv,hv⟩:=pv;obtain⟨w',ew,kw⟩:=pR lw;obtain⟨v',ev,kv⟩:=pR lv;have nw:w'≠[]:=λz=>by
  have:=e 0;rw[hw,ew,z] at this;have this:(0:Rat)*v 0=1:=this;grind
 have nv:v'≠[]:=λz=>by
  have:=e 0;rw[hv,ev,z] at this;have this:w 0*(0:Rat)=1:=this;grind
 obtain⟨R1,c1,R10,c10,h1⟩:=se w' (kw.resolve_left nw);obtain⟨R2,c2,R20,c20,h2⟩:=se v' (kv.resolve_left nv);by_cases l2:2<=w'.length
 .exfalso;have cc:=Yo c10 c20;have d0:0<2/(c1*c2):=by rw[YN cc];grind
  have dd:2/(c1*c2)*(c1*c2)=2:=⋯;obtain⟨x,hx⟩ : ∃x,x=R1+R2+2/(c1*c2):=⟨_,rfl⟩;have b1:=(h1 x ⋯).2 l2;have b2:=(h2 x ⋯).1;have x0:0<x:=⋯;have b3:=b1.mul b2 (Yl (Yo c10 x0)) (Yl c20);have e1:=e x;rw[hw,hv,ew,ev] at e1;rw[e1] at b3;have:=Yf (Yl cc) (show 0<=x-2/(c1*c2) by grind)
  unfold Bg at b3;grind
 .clear h1 kw;match w',nw,l2,ew with
  | _::_::_,_,l2,_=>exact absurd (by simp) l2
  | [a],_,_,ew =>
   have ex:∀x,w x=a:=λx=>by rw[hw,ew x];show a+x*0=a;grind
   refine⟨a,λz=>?_,ex⟩;have:=e 0;rw[ex,z] at this;grind
theorem CZ{l:List (aO×Nat)}{f g:Rat->Rat}{κ:Rat}(pf:Py f)(pg:Py g)(ok:∀q∈l,q.1.ok/\1<=q.2)(un:l.Pairwise λa b=>a.1≠b.1)(k0:0<κ)(id:∀x,κ*(g x*bJ l x)=f x*eH l x)(bz:Bz f g):∃c:Rat,c≠0 /\ ∀x,f x=c*bJ l x:=by
 obtain⟨u,v,pu,pv,e⟩:=bz;obtain⟨u',v',pu',pv',e'⟩:=sF ok un;have p1:=dB l;have p2:=gK l;have w1:∀x,bJ l x=f x*(u x*bJ l x+1/κ*(v x*eH l x)):=λx=>by
  have h1:=e x;have h2:=id x;have kk:1/κ*κ=1:=⋯;have:bJ l x=(u x*f x+v x*g x)*bJ l x:=by rw[h1];grind
  have h3:g x*bJ l x=1/κ*(f x*eH l x):=by
   rw[<-h2];grind
  grind
 have w2:∀x,f x=bJ l x*(u' x*f x+κ*(v' x*g x)):=λx=>by
  have h1:=e' x;have h2:=id x;have:f x=f x*(u' x*bJ l x+v' x*eH l x):=by rw[h1];grind
  grind
 have n0:∃x,bJ l x≠0:=Yt λz=>by
  have h1:=e' 0;have h2:∀x,bJ l x=0:=λx=>Yt λy=>z ⟨x,y⟩;have:∀(l:List (aO×Nat)),∃R:Rat,0<R /\ ∀x,R<=x->(∀q∈l,q.1.ok/\1<=q.2)->bJ l x≠0:=by
   intro l;induction l with
   | nil=>exact⟨1,∅,λx _ _=>by show (1:Rat)≠0;decide⟩
   | cons q l ih =>
    obtain⟨R,R0,hR⟩:=ih;obtain⟨R',R1,hR'⟩ : ∃R:Rat,0<R /\ ∀x,R<=x->q.1.ok->q.1.p x≠0:=by
     cases q.1 with
     | line r =>
      obtain⟨t,t0,ht⟩:=ir.const (R:=0) r;have ht:=ht 0 (by unfold Wi;grind)
      exact⟨t+1,⋯,λx hx _=>by show x-r≠0;unfold Sm at ht;grind⟩
     | root n=>exact⟨1,∅,λx _ o=>λy=>o.2 x (by have y:x*x-n=0:=y;grind)⟩
     | none n=>exact⟨1,∅,λx _ o=>λy=>by have y:x*x+n=0:=y;have o:0<n:=o;have:=jo x;grind⟩
    refine⟨R+R',⋯,λx hx ok y=>?_⟩;have y:q.1.p x*bJ l x=0:=y;rcases YE.mp y with z|z
    .exact hR' x ⋯ (ok q Ye).1 z
    .exact hR x ⋯ (λp hp=>ok p (Yd _ hp)) z
  obtain⟨R,R0,hR⟩:=this l;exact hR R ⋯ ok (h2 R)
 have pw:Py λx=>u x*bJ l x+1/κ*(v x*eH l x):=(pu.mul p1).add ((pv.mul p2).sc _);have pw2:Py λx=>u' x*f x+κ*(v' x*g x):=(pu'.mul pf).add ((pv'.mul pg).sc _);have prod:∀x,(u' x*f x+κ*(v' x*g x))*(u x*bJ l x+1/κ*(v x*eH l x))=1:=λx=>by
  have:=Py.zero (f:=λx=>(u' x*f x+κ*(v' x*g x))*(u x*bJ l x+1/κ*(v x*eH l x))-1) (g:=bJ l) ((pw2.mul pw).sub (.const 1)) p1 (λx=>by
   have a:=w1 x;have b:=w2 x;have:bJ l x=bJ l x*(u' x*f x+κ*(v' x*g x))*(u x*bJ l x+1/κ*(v x*eH l x)):=by rw[<-b];exact a
   grind) n0 x
  grind
 obtain⟨c,c0,hc⟩:=oI pw2 pw prod;exact⟨c,c0,λx=>by
  have a:=w2 x;have b:=hc x;have b:u' x*f x+κ*(v' x*g x)=c:=b;rw[b] at a;grind⟩
def iy(ms ns:List Int)(rows:List (List Int×List Int×Int×Int)):List (List Int):=if ns=[] then [ms] else ms::ns::mr 1 1 rows
theorem wF:∀(s:List Int)(l:Int),chg l s<=s.length
 | [],_=>Yn 0
 | a::s,l=>by
  by_cases z:a=0
  .rw[z,qw];have:=wF s l;simp;nofun
  .rw[m9 z];have:=wF s a;simp;split<;>nofun
theorem xt:∀(rs:List (List Int×List Int×Int×Int))(x y:Int),(mr x y rs).length=rs.length
 | [],_,_=>rfl
 | r::rs,x,y=>by show (mr _ _ rs).length+1=_;rw[xt rs];rfl
def jx(r c:Rat)(x:Rat):Int:=if 0<c then (if r<=x then 1 else 0) else if r<x then -1 else 0
theorem EB{R r c:Rat}(R0:0<=R)(wr:Wi R r) {d:Rat->Rat}(pd:Py d)(ed:d r=c)(c0:c≠0):CI R ⟨λx=>x-r,d,jx r c⟩:=by
 refine⟨Py.id.sub (.const r),pd,?_⟩;obtain⟨k,k0,hk⟩ : ∃k:Rat,0<k/\Bg (2*k) c:=by
  rcases bA c with ⟨z,_⟩|⟨z,_⟩|⟨z,_⟩
  .exact⟨c/2,⋯,.inl ⋯⟩
  .exact⟨-c/2,⋯,.inr ⋯⟩
  .exact absurd z c0
 obtain⟨δ,δ0,hδ⟩:=(pd.lip R0).near k0;obtain⟨e,e0,e1,e2,_⟩:=ko k0 δ0 δ0;have near:∀x,Wi R x->Sm e (x-r)->sg (d x)=sg c/\Bg k (d x):=λx wx s=>by
  have s':Sm k (d x-c):=by
   unfold Sm at s;by_cases y:r<=x
   .have:=hδ r x wr wx y ⋯
    rwa [ed] at this
   .have:=(hδ x r wx wr ⋯ ⋯).neg;rw[ed] at this
    rwa [show d x-c = -(c-d x) by grind]
  obtain⟨n1,n2⟩:=yj (a:=c) (b:=d x-c) hk s' k0;rw[show c+(d x-c)=d x by grind] at n1 n2
  exact⟨n1,n2⟩
 refine⟨e,e0,λx wx s=>(near x wx s).2.mono e1,λa b wa wb ab n sa sb=>?_,λa b wa wb ab n s s0=>?_⟩
 .have key:∀x,Wi R x->Sm e (x-r)->vI (x-r) (d x)+jx r c x=if 0<c then 1 else 0:=λx wx s=>by
   unfold vI jx;rw[(near x wx s).1];rcases bA c with ⟨z,e1⟩|⟨z,e1⟩|⟨z,e1⟩
   .rw[e1,Yg z,Yg z];rcases bA (x-r) with ⟨a,e2⟩|⟨a,e2⟩|⟨a,e2⟩
    .rw[e2,Yc ∅,Yg ⋯];rfl
    .rw[e2,Yg ∅,Yc ⋯];rfl
    .rw[e2,Yc ∅,Yg ⋯];rfl
   .rw[e1,Yc (show ¬ 0<c by grind),Yc (show ¬ 0<c by grind)]
    rcases bA (x-r) with ⟨a,e2⟩|⟨a,e2⟩|⟨a,e2⟩
    .rw[e2,Yg ∅,Yg ⋯];rfl
    .rw[e2,Yc ∅,Yc ⋯];rfl
    .rw[e2,Yc ∅,Yc ⋯];rfl
   .exact absurd z c0
  exact (key a wa sa).trans (key b wb sb).symm
 .have s:sg (a-r)=sg (b-r):=s;have s0:sg (a-r)≠0:=s0;show jx r c a=jx r c b;unfold jx;rcases bA (a-r) with ⟨z,e1⟩|⟨z,e1⟩|⟨z,e1⟩
  .rw[Yg (show r<=a by grind),Yg (show r<=b by grind),Yg (show r<a by grind),Yg (show r<b by grind)]
  .rw[e1] at s;have:=Cm.mp s.symm;rw[Yc (show ¬ r<=a by grind),Yc (show ¬ r<=b by grind),Yc (show ¬ r<a by grind),Yc (show ¬ r<b by grind)]
  .exact absurd e1 s0
theorem Bz.notBoth{f g:Rat->Rat}(h:Bz f g) {R:Rat}(R0:0<=R):cY R f g:=by
 obtain⟨u,v,pu,pv,e⟩:=h;obtain⟨A,A0,hA⟩:=pu.bdd R0;obtain⟨B,B0,hB⟩:=pv.bdd R0;have ab:0<1/(2*(A+B)):=by rw[YN ⋯];grind
 refine⟨1/(2*(A+B)),ab,λx w s1 s2=>?_⟩;have m1:=(hA x w).mul s1;have m2:=(hB x w).mul s2;have:=e x;have k:(A+B)*(1/(2*(A+B)))=1/2:=by
  have:2*(A+B)*(1/(2*(A+B)))=1:=by
   rw[Rat.mul_comm];exact YU ⋯
  grind
 unfold Sm at m1 m2;grind
theorem uS{F:List Int}{c:Int}(x:Rat):ao (F.map λy=>c*y) x=(c:Rat)*ao F x:=by
 unfold ao;rw[eN (g:=λk=>0+(c:Rat)*fO F k) (λk=>by
  show (((nz (F.map λy=>c*y) k:Int)):Rat)=0+(c:Rat)*((nz F k:Int):Rat);rw[cW,Yi];grind),jG,kI (f:=λ_=>0) λ_=>rfl]
 grind
theorem E8{W O:List Int}{rows:List (List Int×List Int×Int×Int)}(h:m7 W O rows)(w0:W≠[])(wz:nz W (W.length-1)≠0)(lW:W.length<=9)(lO:O.length<=9)(oz:O≠[]->nz O (O.length-1)≠0)(lr:∀row∈rows,row.1.length<=9):∀F∈iy W O rows,F≠[]/\F.length<=20/\nz F (F.length-1)≠0:=by
 intro F hF;unfold iy at hF;by_cases o:O=[]
 .rw[Yg o] at hF;cases Yk.mp hF;exact⟨w0,(),wz⟩
 .rw[Yc o] at hF;rcases Yh.mp hF with rfl|hF
  .exact⟨w0,(),wz⟩
  rcases Yh.mp hF with rfl|hF
  .exact⟨o,(),oz o⟩
  obtain⟨row,fZ,s,ps,rfl⟩:=jg rows 1 1 (λr hr=>⟨(h.ne r hr).1,(h.ne r hr).2.1⟩) (.inl rfl) (.inl rfl) F hF;obtain⟨_,_,r0,rz⟩:=h.ne row fZ;have:=lr row fZ;refine⟨λz=>r0 (List.map_eq_nil_iff.mp z),by rw[Yb];nofun,?_⟩
  rw[Yb,cW];rcases ps with z|z<;>rw[z]<;>nofun
theorem m7.bez{F G:List Int}{rows:List (List Int×List Int×Int×Int)}(h:m7 F G rows)(lF:F.length<=9)(lG:G.length<=F.length)(g0:G≠[]):∃u v,Py u/\Py v /\ ∀x,u x*ao F x+v x*ao G x=ao (fM G rows) x:=by
 induction h with
 | nought=>exact absurd rfl g0
 | @last F G Q S _ _ _ _ _=>exact⟨λ_=>0,λ_=>1,.const 0,.const 1,λx=>by show 0*ao F x+1*ao G x=ao G x;grind⟩
 | @more F G R Q T S rows _ gl s0 t0 r0 rl lr lq e hr ih =>
  obtain⟨u,v,pu,pv,hx⟩:=ih () () r0;have t0':=aC t0;refine⟨λx=>(S:Rat)/(T:Rat)*v x,λx=>u x-1/(T:Rat)*(v x*ao Q x),pv.sc _,pu.sub ((pv.mul (cz ())).sc _),λx=>?_⟩;have h1:=hx x;have h2:(S:Rat)*ao F x=ao Q x*ao G x+(T:Rat)*ao R x:=jA (show Q.length+G.length<=20 by nofun) e x
  show _=ao (fM R rows) x;rw[<-h1];have h3:ao R x=(S:Rat)/(T:Rat)*ao F x-1/(T:Rat)*(ao Q x*ao G x):=by
   have:(T:Rat)*ao R x=(S:Rat)*ao F x-ao Q x*ao G x:=⋯;have k:1/(T:Rat)*(T:Rat)=1:=⋯;have k2:(S:Rat)/(T:Rat)=1/(T:Rat)*(S:Rat):=⋯;rw[k2];grind
  rw[h3];grind
theorem FI{M a b:Rat}(ha : -M<=a)(hb:b<=M)(ab:a<=b):bj b-bj a<=2*M*(b-a):=by
 have M0:0<=M:=⋯;unfold bj;by_cases za:a<0
 .by_cases zb:b<0
  .rw[Yg za,Yg zb];have:=Yf (show 0<=b-a by grind) (show 0<=2*M+(a+b) by grind)
   grind
  .rw[Yg za,Yc zb];have h1:=Yf (show 0<=b by grind) (show 0<=M-b by grind)
   have h2:=Yf (show 0 <= -a by grind) (show 0<=M+a by grind)
   have h3:=Yf M0 (show 0<=b-a by grind)
   grind
 .rw[Yc za,Yc (show ¬ b<0 by grind)]
  have:=Yf (show 0<=b-a by grind) (show 0<=2*M-(a+b) by grind)
  grind
theorem vm{p q:Int×Int}{B:Nat}(fp:Fq p)(fq:Fq q)(bp:Bq B p)(bq:Bq B q)(lt:wv p<wv q):1<=(wv q-wv p)*(((2^(2*B):Nat):Int):Rat):=by
 have p2:(0:Rat)<(p.2:Rat):=YA.mpr fp.1;have q2:(0:Rat)<(q.2:Rat):=YA.mpr fq.1;have ep:wv p*(p.2:Rat)=(p.1:Rat):=YU ⋯;have eq:wv q*(q.2:Rat)=(q.1:Rat):=YU ⋯;have e:(wv q-wv p)*((p.2:Rat)*(q.2:Rat))=((q.1*p.2-p.1*q.2:Int):Rat):=by
  rw[Rat.intCast_sub,Yi,Yi,<-ep,<-eq];grind
 have pq:=Yo p2 q2;have pos:0<q.1*p.2-p.1*q.2:=by
  rw[<-YA,<-e];exact Yo ⋯ pq
 have one:(1:Rat)<=(wv q-wv p)*((p.2:Rat)*(q.2:Rat)):=by
  rw[e];have:((1:Int):Rat)<=((q.1*p.2-p.1*q.2:Int):Rat):=YD.mpr ();exact this
 have le:(p.2:Rat)*(q.2:Rat)<=(((2^(2*B):Nat):Int):Rat):=by
  rw[<-Yi];refine YD.mpr ?_;have h1:p.2.natAbs<2^B:=bp.2;have h2:q.2.natAbs<2^B:=bq.2;have h3:p.2.natAbs*q.2.natAbs<=2^B*2^B:=Xf (X2 h1) (X2 h2);have h4:p.2*q.2=((p.2.natAbs*q.2.natAbs:Nat):Int):=by
   have a:=fp.1;have b:=fq.1;rw[show ((p.2.natAbs*q.2.natAbs:Nat):Int)=(p.2.natAbs:Int)*(q.2.natAbs:Int) by simp]
   rw[Int.natAbs_of_nonneg (),Int.natAbs_of_nonneg ()]
  rw[h4,show 2^(2*B)=2^B*2^B by rw[<-XR];congr 1;nofun]
  exact Int.ofNat_le.mpr h3
 have:=Yf (show 0<=wv q-wv p by grind) (show 0<=(((2^(2*B):Nat):Int):Rat)-(p.2:Rat)*(q.2:Rat) by grind)
 grind
theorem DV{ρ y x A:Rat}(ρ0:0<ρ)(hy:2*ρ<=y)(hx:Sm y x)(A0:0<A):∀F:List Int,(∀k,k<F.length->Sm (A*eD ρ (F.length-k)) ((nz F k:Int):Rat))->Sm (A*eD y F.length-A*eD ρ F.length) (iL F x):=by
 intro F;induction F with
 | nil =>
  intro _;show Sm (A*1-A*1) (0:Rat);unfold Sm;grind
 | cons a F ih =>
  intro h;have h0:=h 0 (by simp)
  have h0:Sm (A*eD ρ (F.length+1)) (a:Rat):=h0;have i:=ih λk hk=>by
   have:=h (k+1) (by simp;nofun)
   rw[show (a::F).length-(k+1)=F.length-k by simp] at this
   exact this
  have y0:0<y:=⋯;have pρ:=fB ρ0 F.length;have m:=hx.mul i;show Sm (A*(y*eD y F.length)-A*(ρ*eD ρ F.length)) ((a:Rat)+x*iL F x);have h0:Sm (A*(ρ*eD ρ F.length)) (a:Rat):=h0;have ap:=Yo A0 pρ;have k:=Yf (Yl ap) (show 0<=y-2*ρ by grind)
  unfold Sm at *
  grind
theorem uY{c:Int}{x:Rat}:∀F:List Int,iL (F++[c]) x=iL F x+(c:Rat)*eD x F.length
 | []=>by show (c:Rat)+x*0=0+(c:Rat)*1;grind
 | a::F=>by
  show (a:Rat)+x*iL (F++[c]) x=(a:Rat)+x*iL F x+(c:Rat)*(x*eD x F.length);rw[uY F];grind
theorem vg{ρ x y:Rat}{c:Int}{F:List Int}(ρ0:0<ρ)(hy:2*ρ<=y)(hx:Sm y x)(bx:Bg y x)(c0:c≠0)(h:∀k,k<F.length->Sm (((c.natAbs:Int):Rat)*eD ρ (F.length-k)) ((nz F k:Int):Rat)):sg (iL (F++[c]) x)=sg ((c:Rat)*eD x F.length)/\sg (iL (F++[c]) x)≠0:=by
 have y0:0<y:=⋯;have A0:(0:Rat)<((c.natAbs:Int):Rat):=YA.mpr ();have s:=DV ρ0 hy hx A0 F h;have bp:∀n,Bg (eD y n) (eD x n):=λn=>by
  induction n with
  | zero=>exact .inl (by show (1:Rat)<=1;grind)
  | succ n ih=>exact bx.mul ih (Yl y0) (Yl (fB y0 n))
 have bc:Bg ((c.natAbs:Int):Rat) (c:Rat):=by
  rcases Int.lt_or_gt_of_ne c0 with z|z
  .right
   rw[<-Xi];exact YD.mpr ()
  .left
   exact YD.mpr ()
 have b:=bc.mul (bp F.length) (Yl A0) (Yl (fB y0 _));have ap:=Yo A0 (fB ρ0 F.length);rw[uY];generalize (c:Rat)*eD x F.length=M at b ⊢;generalize ((c.natAbs:Int):Rat)*eD y F.length=E at b s;generalize ((c.natAbs:Int):Rat)*eD ρ F.length=e at ap s;generalize iL F x=r at s;unfold Sm at s;unfold Bg at b;rcases b with b|b
 .rw[cn (show 0<r+M by grind),cn (show 0<M by grind)]
  exact⟨rfl,∅⟩
 .rw[dM (show r+M<0 by grind),dM (show M<0 by grind)]
  exact⟨rfl,∅⟩
theorem uZ.const{R:Rat}{f g:Rat->Rat}{A:Rat->Int}(loc:uZ R f g A) {a b:Rat}(wa:Wi R a)(wb:Wi R b)(ab:a<=b)(sa:∀x,a<=x->x<=b->sg (f x)=sg (f a)):A a=A b:=by
 obtain⟨δ,d0,h⟩:=loc;have step:∀c d,a<=c->d<=b->c<=d->d-c<=δ->A c=A d:=λc d ac db cd n=>by
  have wc:Wi R c:=by unfold Wi at *;grind
  have wd:Wi R d:=by unfold Wi at *;grind
  rcases h c d wc wd cd n with ⟨_,_,e⟩|⟨eg,_,e⟩
  .exact e
  .have ef:sg (f c)=sg (f d):=by rw[sa c ac ⋯,sa d ⋯ db]
   unfold vI at e;rw[ef,eg] at e;nofun
 have all:∀(n:Nat)(c:Rat),a<=c->c<=b->b-c<=(n:Rat)*δ->A c=A b:=by
  intro n;induction n with
  | zero =>
   intro c _ cb z;obtain rfl:c=b:=by
    have:((0:Nat):Rat)=0:=rfl;grind
   rfl
  | succ n ih =>
   intro c ac cb z;by_cases y:b-c<=δ
   .exact step c b ac ⋯ cb y
   .rw[step c (c+δ) ac ⋯ ⋯ ⋯];refine ih (c+δ) ⋯ ⋯ ?_;have:((n+1:Nat):Rat)=(n:Rat)+1:=by rw[Rat.natCast_add];rfl
    rw[this] at z;grind
 obtain⟨n,hn⟩ : ∃n:Nat,b-a<=(n:Rat)*δ:=by
  obtain⟨x,hx⟩ : ∃x,x=(b-a)/δ:=⟨_,rfl⟩;refine⟨(x.ceil).toNat,?_⟩;have h1:x<=((x.ceil:Int):Rat):=Rat.le_ceil;have h2:((x.ceil:Int):Rat)<=((x.ceil.toNat:Nat):Rat):=by
   rw[show ((x.ceil.toNat:Nat):Rat)=(((x.ceil.toNat:Nat):Int):Rat) from rfl]
   exact YD.mpr (Int.self_le_toNat _)
  have h3:=Yf (Yl d0) (show 0<=((x.ceil.toNat:Nat):Rat)-x by grind)
  have h4:x*δ=b-a:=by rw[hx];grind
  grind
 exact all n a ⋯ ab hn
theorem xX{y:Rat}:∀n,eD (-y) n=(if n%2=0 then 1 else -1)*eD y n
 | 0=>by show (1:Rat)=1*1;grind
 | n+1=>by
  show -y*eD (-y) n=_*(y*eD y n);rw[xX n];by_cases z:n%2=0
  .rw[Yg z,Yc ()];grind
  .rw[Yc z,Yg ()];grind
theorem uI(E:Nat):∀k,eD ((((2^E:Nat):Int):Rat)/2) k*(((2^k:Nat):Int):Rat)=(((2^(E*k):Nat):Int):Rat)
 | 0=>by show (1:Rat)*((1:Int):Rat)=((1:Int):Rat);have:((1:Int):Rat)=1:=rfl;rw[this];grind
 | k+1=>by
  have ih:=uI E k;have e1:(((2^(k+1):Nat):Int):Rat)=2*(((2^k:Nat):Int):Rat):=by
   rw[show (2:Rat)=((2:Int):Rat) from rfl,<-Yi]
   congr 1
   rw[X4];nofun
  have e2:(((2^(E*(k+1)):Nat):Int):Rat)=(((2^E:Nat):Int):Rat)*(((2^(E*k):Nat):Int):Rat):=by
   rw[<-Yi];congr 1
   rw[Nat.mul_succ,XR,X3];rfl
  show (((2^E:Nat):Int):Rat)/2*eD _ k*_=_;rw[e1,e2,<-ih];grind
theorem wG{w c:Int}{b B k E:Nat}(hw:w.natAbs<2^b)(hc:2^(B-1)<=c.natAbs)(B1:1<=B)(k1:1<=k)(hE:1-((B:Int)-(b:Int)-1).fdiv (k:Int)<=(E:Int)):Sm (((c.natAbs:Int):Rat)*eD ((((2^E:Nat):Int):Rat)/2) k) (w:Rat):=by
 have q1:((B:Int)-(b:Int)-1).fdiv (k:Int)*(k:Int)<=(B:Int)-(b:Int)-1:=by
  rw[Int.fdiv_eq_ediv_of_nonneg _ ()];exact Int.ediv_mul_le _ ()
 have q2:((E*k:Nat):Int) >= (k:Int)-((B:Int)-(b:Int)-1):=by
  have m:=Int.mul_le_mul_of_nonneg_right hE (show (0:Int)<=(k:Int) by nofun)
  rw[Int.sub_mul,YG] at m;rw[show ((E*k:Nat):Int)=(E:Int)*(k:Int) by simp]
  nofun
 have q3:b+k<=(B-1)+E*k:=();have h1:w.natAbs*2^k<=c.natAbs*2^(E*k):=by
  refine YB (Xg _ (X2 hw)) (YB ?_ (Xg _ hc));rw[<-XR,<-XR];exact Xx ∅ q3
 have p:=uI E k;have t0:(0:Rat)<(((2^k:Nat):Int):Rat):=YA.mpr (by have:=Xj k;nofun)
 have h2:((w.natAbs:Int):Rat)*(((2^k:Nat):Int):Rat)<=((c.natAbs:Int):Rat)*(((2^(E*k):Nat):Int):Rat):=by
  rw[<-Yi,<-Yi];refine YD.mpr ?_;rw[<-Int.natCast_mul,<-Int.natCast_mul];exact Int.ofNat_le.mpr h1
 rw[<-p] at h2;have h3:((w.natAbs:Int):Rat)<=((c.natAbs:Int):Rat)*eD ((((2^E:Nat):Int):Rat)/2) k:=by
  refine X6.mp λz=>?_;have:=Yo (show 0<((w.natAbs:Int):Rat)-((c.natAbs:Int):Rat)*eD ((((2^E:Nat):Int):Rat)/2) k by grind) t0
  grind
 have h4:(w:Rat)<=((w.natAbs:Int):Rat):=YD.mpr ();have h5 : -((w.natAbs:Int):Rat)<=(w:Rat):=by
  rw[<-Xi];exact YD.mpr ()
 unfold Sm;grind
theorem I0{α:Type}{l:List α}(nd:l.Nodup)(h:∀x∈l,∀y∈l,x=y):l.length<=1:=by
 match l,nd,h with
 | [],_,_=>simp
 | [_],_,_=>simp
 | a::b::l,nd,h =>
  obtain⟨n,_⟩:=XQ.mp nd;exact absurd (by rw[h a (by simp) b (by simp)];simp) n
theorem BD{ms:List Rat}{M a b:Rat}{B:Nat}(nd:ms.Nodup)(hm:∀m∈ms,∃q:Int×Int,m=wv q/\Fq q/\Bq B q)(ha : -M<=a)(hb:b<=M)(ab:a<=b)(sm:2*M*(b-a)*(((2^(2*B):Nat):Int):Rat)<=1):(ms.filter (tN (some a) (some b))).length<=1:=by
 refine I0 (nd.filter _) λx hx y hy=>?_;have key:∀x y:Rat,x∈ms.filter (tN (some a) (some b))->y∈ms.filter (tN (some a) (some b)) -> ¬ x<y:=λx y hx hy lt=>by
  obtain⟨hx1,hx2⟩:=Xe.mp hx;obtain⟨hy1,hy2⟩:=Xe.mp hy;simp only[tN,Xl,decide_eq_true_eq,Bool.not_eq_true',decide_eq_false_iff_not] at hx2 hy2;obtain⟨p,rfl,fp,bp⟩:=hm x hx1;obtain⟨q,rfl,fq,bq⟩:=hm y hy1;have h1:=vm fp fq bp bq lt;have h2:=FI ha hb ab;have t0:(0:Rat)<(((2^(2*B):Nat):Int):Rat):=YA.mpr (by have:=Xj (2*B);nofun)
  have h3:=Yo (show 0<2*M*(b-a)-(wv q-wv p) by grind) t0
  grind
 have a1:=key x y hx hy;have a2:=key y x hy hx;grind
def wt(J:Nat)(l:Nat):Nat:=2^(J+2-l)-1
theorem ID{J l:Nat}(h:l<=J+1):1<=wt J l:=by
 unfold wt;have:2^1<=2^(J+2-l):=Xx ∅ ();nofun
theorem Hv{J l:Nat}(h:l<=J):wt J (l+1)+wt J (l+1)<wt J l:=by
 unfold wt;rw[show J+2-l=(J+2-(l+1))+1 by nofun,X4]
 have:=Xj (J+2-(l+1));nofun
def iD(n:Rat)(a b:Int)(x:Rat):Int:=if x*x<n then a else if x<0 then 0 else a+b
theorem rL{R n:Rat}(R0:0<=R)(n0:0<n) {d:Rat->Rat}(pd:Py d)(bz:Bz (λx=>x*x-n) d)(left:Bool):∃s:Int,(s=1\/s = -1) /\ ∃e:Rat,0<e /\ ∀x,Wi R x->Sm e (x*x-n)->(if left=true then x<0 else 0<=x)->sg (d x)=s/\Bg e (d x):=by
 obtain⟨ε,ε0,nb⟩:=bz.notBoth R0;obtain⟨δ,δ0,lp⟩:=(pd.lip R0).near (show 0<ε by exact ε0)
 obtain⟨m,m0,m1,m2,m3⟩:=ko (show 0<n/2 by grind) (show 0<ε by exact ε0) (show 0<δ*n/(4*(n+1)) by
  rw[YN ⋯];have:=Yo δ0 n0;grind)
 have m4:m*(4*(n+1))<=δ*n:=by
  have k:δ*n/(4*(n+1))*(4*(n+1))=δ*n:=YU ⋯;have:=Yf (show 0<=4*(n+1) by grind) (show 0<=δ*n/(4*(n+1))-m by grind)
  grind
 have close:∀x y:Rat,0<=x->x<=y->Sm m (x*x-n)->Sm m (y*y-n)->y-x<=δ:=λx y x0 xy sx sy=>by
  refine X6.mp λz=>?_;unfold Sm at sx sy;have big:n<=(x+y)*(n+1)*1:=by
   refine X6.mp λw=>?_;have h1:x*(n+1)<n:=by
    have:=Yf (show 0<=y by grind) (show 0<=n+1 by grind)
    grind
   have h2:y*(n+1)<n:=by
    have:=Yf x0 (show 0<=n+1 by grind)
    grind
   have y1:y<1:=by
    refine X5.mp λv=>?_;have:=Yf (show 0<=y-1 by grind) (show 0<=n+1 by grind)
    grind
   have h3:=Yf (show 0<=y by grind) (show 0<=1-y by grind)
   have h4:=Yf (show 0<=y by grind) (Yl n0)
   have h6:n/2<=y*y:=⋯;have h7:n/2<=x*x:=⋯;have h8:=Yf x0 (show 0<=1-x by grind)
   have h9:n<=x+y:=⋯;have:=Yf (show 0<=x+y-n by grind) (show 0<=n+1 by grind)
   have:=Yo n0 n0;grind
  have h1:y*y-x*x<=2*m:=⋯;have h2:=Yo (show 0<y-x-δ by grind) (show 0<(x+y)*(n+1) by grind)
  have h3:=Yf (Yl δ0) (show 0<=(x+y)*(n+1)-n by grind)
  have h4:=Yf (show 0<=2*m-(y*y-x*x) by grind) (show 0<=n+1 by grind)
  have h5:=Yo m0 (show 0<n+1 by grind)
  grind
 by_cases ex:∃x,Wi R x/\Sm m (x*x-n)/\(if left=true then x<0 else 0<=x)
 .obtain⟨x,wx,sx,hx⟩:=ex;have big:∀y,Wi R y->Sm m (y*y-n) -> ¬ Sm ε (d y):=λy wy sy z=>nb y wy (sy.mono m2) z;have same:∀y,Wi R y->Sm m (y*y-n)->(if left=true then y<0 else 0<=y)->sg (d y)=sg (d x):=λy wy sy hy=>by
   have key:∀u v,Wi R u->Wi R v->Sm m (u*u-n)->u<=v->v-u<=δ->sg (d u)=sg (d v):=λu v wu wv su uv n'=>(me (lp u v wu wv uv n') (big u wu su)).1;cases left with
   | true =>
    rw[Yg rfl] at hx hy;by_cases le:x<=y
    .exact (key x y wx wy sx le (by
      have:=close (-y) (-x) ⋯ ⋯ (by rw[show -y * -y=y*y by grind];exact sy) (by rw[show -x * -x=x*x by grind];exact sx)
      grind)).symm
    .exact key y x wy wx sy ⋯ (by
      have:=close (-x) (-y) ⋯ ⋯ (by rw[show -x * -x=x*x by grind];exact sx) (by rw[show -y * -y=y*y by grind];exact sy)
      grind)
   | false =>
    rw[Yc ∅] at hx hy;by_cases le:x<=y
    .exact (key x y wx wy sx le (close x y hx le sx sy)).symm
    .exact key y x wy wx sy ⋯ (close y x hy ⋯ sy sx)
  have s0:sg (d x)≠0:=λz=>big x wx sx (by rw[dJ.mp z];unfold Sm;grind)
  refine⟨sg (d x),by rcases cA (d x) with z|z|z<;>nofun,m,m0,λy wy sy hy=>⟨same y wy sy hy,(Bg.of (big y wy sy)).mono m2⟩⟩
 .exact⟨1,.inl rfl,m,m0,λx wx sx hx=>absurd ⟨x,wx,sx,hx⟩ ex⟩
theorem FJ{R n:Rat}(R0:0<=R)(n0:0<n)(F5:∀r:Rat,r*r≠n) {d:Rat->Rat}(pd:Py d)(bz:Bz (λx=>x*x-n) d):∃a b:Int,(a=1\/a = -1)/\(b=1\/b = -1)/\CI R ⟨λx=>x*x-n,d,iD n (-a) b⟩ /\ ∃e:Rat,0<e /\ ∀x,Wi R x->Sm e (x*x-n)->sg (d x)=if x<0 then a else b:=by
 obtain⟨a,ha,e1,e10,h1⟩:=rL R0 n0 pd bz true;obtain⟨b,hb,e2,e20,h2⟩:=rL R0 n0 pd bz false;obtain⟨e3,e30,i1,i2,i3⟩:=ko e10 e20 (show 0<n/2 by grind)
 obtain⟨e,e0,j1,j2,_⟩:=ko e30 (show 0<(1:Rat)/2 by decide +kernel) (show 0<(1:Rat) by decide)
 have ee:e*e<=n/4:=by
  have:=Yf (Yl e0) (show 0<=1/2-e by grind)
  grind
 have at':∀x,Wi R x->Sm e (x*x-n)->sg (d x)=(if x<0 then a else b)/\Bg e (d x):=λx wx sx=>by
  by_cases z:x<0
  .obtain⟨k1,k2⟩:=h1 x wx (sx.mono ⋯) (by rw[Yg rfl];exact z)
   exact⟨by rw[Yg z];exact k1,k2.mono ⋯⟩
  .obtain⟨k1,k2⟩:=h2 x wx (sx.mono ⋯) (by rw[Yc ∅];grind)
   exact⟨by rw[Yc z];exact k1,k2.mono ⋯⟩
 refine⟨a,b,ha,hb,⟨(Py.id.mul .id).sub (.const n),pd,e,e0,λx wx sx=>(at' x wx sx).2,λc d' wc wd cd l sc sd=>?_,λc d' wc wd cd l s s0=>?_⟩,e,e0,λx wx sx=>(at' x wx sx).1⟩
 .have key:∀x,Wi R x->Sm e (x*x-n)->vI (x*x-n) (d x)+iD n (-a) b x=if x<0 then (if a=1 then 0 else 1) else (if b=1 then 1-a else -a):=λx wx sx=>by
   have k:=(at' x wx sx).1;unfold vI iD;rw[k];have ne:=F5 x;by_cases y:x*x<n
   .rw[Yg y,dM (show x*x-n<0 by grind)]
    by_cases z:x<0
    .rw[Yg z,Yg z];rcases ha with rfl|rfl<;>decide
    .rw[Yc z,Yc z];rcases ha with rfl|rfl<;>rcases hb with rfl|rfl<;>decide
   .rw[Yc y,cn (show 0<x*x-n by grind)]
    by_cases z:x<0
    .rw[Yg z,Yg z,Yg z];rcases ha with rfl|rfl<;>decide
    .rw[Yc z,Yc z,Yc z];rcases ha with rfl|rfl<;>rcases hb with rfl|rfl<;>decide
  have k1:=key c wc sc;have k2:=key d' wd sd;have side:c<0↔d'<0:=by
   refine⟨λz=>?_,λz=>by grind⟩
   refine X5.mp λw=>?_;have c1 : -c<=e:=⋯;have:=Yf (show 0 <= -c by grind) (show 0<=e+c by grind)
   have:=Yf (Yl e0) (show 0<=e+c by grind)
   have sc:Sm e (c*c-n):=sc;unfold Sm at sc;grind
  show vI (c*c-n) (d c)+iD n (-a) b c=vI (d'*d'-n) (d d')+iD n (-a) b d';rw[k1,k2];by_cases z:c<0
  .rw[Yg z,Yg (side.mp z)]
  .rw[Yc z,Yc λw=>z (side.mpr w)]
 .have s:sg (c*c-n)=sg (d'*d'-n):=s;have s0:sg (c*c-n)≠0:=s0;show iD n (-a) b c=iD n (-a) b d';unfold iD;by_cases y:c*c<n
  .rw[dM (show c*c-n<0 by grind)] at s
   have:=Cm.mp s.symm;rw[Yg y,Yg ⋯]
  .have ne:=F5 c;rw[cn (show 0<c*c-n by grind)] at s
   have y2:=Gq.mp s.symm;rw[Yc y,Yc (show ¬ d'*d'<n by grind)]
   by_cases z:c<0
   .rw[Yg z,Yg];refine X5.mp λw=>?_;have:=Yf (show 0 <= -c by grind) (show 0<=e+c by grind)
    have:=Yf (Yl e0) (show 0<=e+c by grind)
    grind
   .rw[Yc z,Yc ⋯]
theorem yy{R n:Rat}(n0:0<n) {d:Rat->Rat}(pd:Py d):CI R ⟨λx=>x*x+n,d,λ_=>0⟩:=by
 have no:∀x,¬ Sm (n/2) (x*x+n):=λx s=>by
  have:=jo x;unfold Sm at s;grind
 exact⟨(Py.id.mul .id).add (.const n),pd,n/2,⋯,λx _ s=>absurd s (no x),λc d' _ _ _ _ s _=>absurd s (no c),λ_ _ _ _ _ _ _ _=>rfl⟩
section
variable {κ:Type} [DecidableEq κ]
def oY(kvs:List (κ×V))(k:κ):Option V:=(kvs.find? λkv=>decide (kv.1=k)).map (·.2)
def u4(kvs:List (κ×V))(k:κ)(v:V):List (κ×V) :=
 if (kvs.any λkv=>decide (kv.1=k))=true then kvs.map (λkv=>if kv.1=k then (kv.1,v) else kv) else kvs++[(k,v)]
theorem uX{p:κ×V}{r:List (κ×V)}{k:κ}(e:p.1=k):oY (p::r) k=some p.2:=by simp[oY,XV,e]
theorem t7{p:κ×V}{r:List (κ×V)}{k:κ}(e:¬ p.1=k):oY (p::r) k=oY r k:=by simp[oY,XV,e]
theorem t9(kvs:List (κ×V))(k:κ)(v:V):(u4 kvs k v).length<=kvs.length+1:=by
 unfold u4;split
 .rw[Yb];nofun
 .rw[Yx,YC,List.length_nil];nofun
theorem KV.val{kvs:List (κ×V)}{vs:List (κ×Value)}(r:KV kvs vs)(k:κ):tF (oY kvs k) (valueAt vs k):=by
 unfold KV at r;induction r with
 | nil=>exact True.intro
 | @cons p q ps qs h t ih =>
  obtain⟨h1,h2⟩:=h;by_cases e:p.1=k
  .have e':q.1=k:=h1.symm.trans e;have b:valueAt (q::qs) k=some q.2:=by simp[valueAt,XV,e']
   rw[uX e,b];exact h2
  .have e':¬ q.1=k:=λz=>e (h1.trans z);have b:valueAt (q::qs) k=valueAt qs k:=by simp[valueAt,XV,e']
   rw[t7 e,b];exact ih
theorem KV.any{kvs:List (κ×V)}{vs:List (κ×Value)}(r:KV kvs vs)(k:κ):(kvs.any λkv=>decide (kv.1=k))=vs.any λkv=>decide (kv.1=k):=by
 unfold KV at r;induction r with
 | nil=>rfl
 | cons h t ih=>rw[List.any_cons,List.any_cons,ih,h.1]
theorem KV.repl{kvs:List (κ×V)}{vs:List (κ×Value)}(r:KV kvs vs)(k:κ) {y:V}{u:Value}(ry:bK y u) :
  KV (kvs.map λkv=>if kv.1=k then (kv.1,y) else kv) (vs.map λkv=>if kv.1=k then (kv.1,u) else kv):=by
 unfold KV at r ⊢;induction r with
 | nil=>exact .nil
 | @cons p q ps qs h t ih =>
  rw[Y4,Y4];refine .cons ?_ ih;obtain⟨h1,h2⟩:=h;by_cases e:p.1=k
  .rw[Yg e,Yg (h1.symm.trans e)];exact⟨h1,ry⟩
  .rw[Yc e,Yc (λz=>e (h1.trans z))];exact⟨h1,h2⟩
theorem KV.put{kvs:List (κ×V)}{vs:List (κ×Value)}(r:KV kvs vs)(k:κ) {y:V}{u:Value}(ry:bK y u):KV (u4 kvs k y) (stored vs k u):=by
 unfold u4 stored;rw[r.any k];by_cases e:(vs.any λkv=>decide (kv.1=k))=true
 .rw[Yg e,Yg e];exact r.repl k ry
 .rw[Yc e,Yc e];exact Paired.snoc r ⟨rfl,ry⟩
end
theorem Bx{P:Program}{w:World}{k:iA}{u:Value}(r:bK (kV k) u):(dS P w).is k u=true:=by
 cases k with
 | inl i=>obtain⟨t,e⟩:=(show ∃t,u=Value.int i t from r);subst e;exact uT P w i t
 | inr x=>obtain⟨t,e⟩:=(show ∃t,u=Value.str x t from r);subst e;exact vi P w x t
theorem rO{P:Program}{w:World}:∀{ks:List iA}{us:List Value},aX (ks.map kV) us->ItemsAre (dS P w) ks us
 | [],_,r=>by rw[XY] at r;cases r;exact .nil
 | k::ks,_,r=>by
  rw[Y4] at r;cases r with
  | cons h t=>exact .cons (Bx h) (rO t)
abbrev KT (H:Hp):List (List iA×V)->List (List iA×Addr×Value)->Prop:=Paired λp q=>p.1=q.1/\H q.2.1=some (.tup (p.1.map kV))/\bK p.2 q.2.2
theorem KT.val{H:Hp}{kvs:List (List iA×V)}{xs:List (List iA×Addr×Value)}(r:KT H kvs xs)(k:List iA):tF (oY kvs k) ((atKey xs k).map (·.2)):=by
 induction r with
 | nil=>exact True.intro
 | @cons p q ps qs h t ih =>
  obtain⟨h1,_,h2⟩:=h;by_cases e:p.1=k
  .have e':q.1=k:=h1.symm.trans e;have b:atKey (q::qs) k=some q.2:=by simp[atKey,XV,e']
   rw[uX e,b];exact h2
  .have e':¬ q.1=k:=λz=>e (h1.trans z);have b:atKey (q::qs) k=atKey qs k:=by simp[atKey,XV,e']
   rw[t7 e,b];exact ih
section
variable {P:Program}{w:World}{H:Hp}{h:Heap}{a:Addr}
theorem F3{u:HO}(ok:j9 P w H h)(e:Rd H a u):cO P w H h a u:=e.ok ok
theorem AF{kvs:List (iA×V)}(ok:j9 P w H h)(e:Rd H a (.dK kvs)):kvs.length<=sizeLine/\(a==sysModules)=false /\ ∃vs,KV kvs vs/\h.DictOf (dS P w) a vs :=
 show cO P w H h a (.dK kvs) from F3 ok e
theorem JM{kvs:List (iA×V)}(ok:j9 P w H h)(e:H a=some (.dK kvs)):kvs.length<=sizeLine/\(a==sysModules)=false /\ ∃vs,KV kvs vs/\h.DictOf (dS P w) a vs:=AF ok (.inl e)
theorem BL{ks:List iA}(ok:j9 P w H h)(e:H a=some (.tup (ks.map kV))):(tupleKind (dS P w)).is h ks a:=by
 obtain⟨_,its,r,o,h1,h2,n,h3⟩:=(show cO P w H h a (.tup (ks.map kV)) from ok a _ e)
 exact⟨o,its.toArray,n,h1,h2,h3,by simpa using rO r⟩
theorem F6{kvs:List (List iA×V)}(ok:j9 P w H h)(e:Rd H a (.dT kvs)):kvs.length<=sizeLine/\(a==sysModules)=false /\
  ∃xs,KT H kvs xs/\h.DictOfH (tupleKind (dS P w)) a xs:=by
 obtain⟨z,y,xs,r,o,es,ep,h1,h2,h3,h4,h5⟩:=(show cO P w H h a (.dT kvs) from F3 ok e)
 refine⟨z,y,xs,r,o,es,ep,h1,h2,h3,h4,λx hx=>?_,h5⟩;have all:∀{l:List (List iA×V)}{m:List (List iA×Addr×Value)},KT H l m -> ∀x∈m,(tupleKind (dS P w)).is h x.1 x.2.1:=by
  intro l m q;induction q with
  | nil=>intro x hx;exact nomatch hx
  | @cons p q ps qs hq t ih =>
   intro x hx;rcases Yh.mp hx with e|hx
   .subst e;exact BL ok (by rw[<-hq.1];exact hq.2.1)
   .exact ih x hx
 exact all r x hx
end
def IG(H:Hp)(a:Addr)(y:V)(r:Option V):Prop :=
 (∃kvs k,Rd H a (.dK kvs)/\y=kV k/\r=oY kvs k) \/ ∃kvs k b,Rd H a (.dT kvs)/\y=.ref b/\H b=some (.tup (k.map kV))/\r=oY kvs k
section
variable {X:Cx}{pins:List (Addr×Obj)}{σ:St}{H:Hp}{s:Shared}{a:Addr}{y v:V}{u r:Value}{o:Option V}{A:Around}{E:Value->Shared->Prop}
theorem zN{Q:Value->Shared->Prop}(hu:A.units+1<cLine)(I:aH X pins σ H s)(g:IG H a y (some v))(ry:bK y u)(h:∀w' s',aH X pins σ H s'->bK v w'->Q w' s') :
  wpAny (model X.prog X.w) A (getItem (.ref a) u) Q E s:=by
 rcases g with ⟨kvs,k,e,ey,l⟩|⟨kvs,k,b,e,ey,eb,l⟩
 .subst ey;obtain⟨z,hd,vs,rel,dd⟩:=AF I.hok e;obtain⟨w',hw,rw'⟩:=tF.some_of (v:=v) (o:=valueAt vs k) (by rw[l];exact rel.val k)
  exact wpAny_getItem_of (Bx ry) dd.mapOf hw (h w' _ (I.tok _) rw')
 .subst ey;cases (show u=Value.ref b from ry)
  obtain⟨z,hd,xs,rel,dd⟩:=F6 I.hok e;obtain⟨w',hw,rw'⟩:=tF.some_of (v:=v) (o:=(atKey xs k).map (·.2)) (by rw[l];exact rel.val k)
  obtain⟨p,hp,hp2⟩:=Option.map_eq_some_iff.mp hw;refine wpAny_getItem_heap (tupleKind_room_in1 hu) (BL I.hok eb) dd hp ?_;rw[hp2];exact h w' _ (I.tok _) rw'
theorem FK{h':Heap}{t':Nat}{ob:HO}(I:aH X pins σ H s)(mu:JR (H a))(hs:Heap.SameBut a s.heap h')(he:∃q,h'.get? a=some q)(new:cO X.prog X.w (upd H a ob) h' a ob) :
  aH X pins σ (upd H a ob) { s with heap:=h',toks:=t' } :=
 I.write (x:=a) (e:=a) mu (.inl rfl) (λb q hb z=>(hs.2 b hb).trans z) he new
theorem GG{P:Program}{w:World}{H':Hp}{h':Heap}{kvs:List (iA×V)}{vs:List (iA×Value)}(z:kvs.length<=sizeLine)(hd:(a==sysModules)=false)(rel:KV kvs vs)(dd:h'.DictOf (dS P w) a vs) :
  cO P w H' h' a (.dK kvs):=⟨z,hd,vs,rel,dd⟩
end
def Kq(i:Expr):Prop:=∀ov iv,subscripted i false ov iv=operate [ov,iv] (getItem ov iv)
theorem Eh{prog:Program}{w:World}{A:Around}{E:Value->Shared->Prop}{s:Shared}{env:Env}{value slice:Expr}{pos:Pos}{T id:String}{Q:Value->Shared->Prop}
  (hl:typeLookup (.type T) "__getitem__" = pure (some (.builtin id))) (hs:Kq slice)
  (h:wpAny (model prog w) A (eval value env) (λo s₁=>wpAny (model prog w) A (eval slice env) (λi s₂=>s₂.TypeIs o T/\wpAny (model prog w) A (getItem o i) Q E s₂) E s₁) E s) :
  wpAny (model prog w) A (eval (.Subscript value slice pos) env) Q E s:=by
 refine Subscript_ (wpAny_mono h (λo s₁ h₁=>wpAny_mono h₁ (λi s₂ h₂=>?_) λ_ _ x=>x) λ_ _ x=>x);obtain⟨hT,h₂⟩:=h₂;unfold subscriptTail;refine wpAny_bind ?_;rw[getitemInPython_of_ne hT.not_modules];refine wpAny_bind (wpAny_specialOf hT hl ?_);have fin:wpAny (model prog w) A (subscripted slice false o i) (λr s₃=>wpAny (model prog w) A (letTemporaryGo value o r >>= λ_=>pure r) Q E s₃) E s₂:=by
  rw[hs o i];exact wpAny_operating (wpAny_mono h₂ (λr s₃ h₃=>wpAny_bind (wpAny_letTemporaryGo (wpAny_pure h₃))) λ_ _ x=>x)
 first
  | exact wpAny_pure (wpAny_bind fin)
  | exact wpAny_bind (wpAny_pure (wpAny_bind fin))
  | exact wpAny_bind fin
theorem uV{X:Cx}{pins:List (Addr×Obj)}{σ:St}{H:Hp}{s:Shared}{a:Addr}{y:V}{o:Option V}(I:aH X pins σ H s)(g:IG H a y o):s.TypeIs (.ref a) "dict":=by
 rcases g with ⟨kvs,k,e,_,_⟩|⟨kvs,k,b,e,_,_,_⟩
 .obtain⟨_,_,vs,_,dd⟩:=AF I.hok e;exact dd.typeIs
 .obtain⟨_,_,xs,_,dd⟩:=F6 I.hok e;exact dd.typeIs
def sT:List (TE×TE)->St->Hp->(List (V×V)->Hp->Prop)->Prop
 | [],_,H,Q=>Q [] H
 | (tk,tv)::r,σ,H,Q=>tk σ H λx H1=>tv σ H1 λy H2=>sT r σ H2 λps H3=>Q ((x,y)::ps) H3
abbrev VV:List (V×V)->List (Value×Value)->Prop:=Paired λp q=>bK p.1 q.1/\bK p.2 q.2
def KE(X:Cx)(pos:Pos)(keys:List (Option Expr))(values:List Expr)(lj:List (TE×TE)):Prop :=
 ∀(pins:List (Addr×Obj))(s:Shared)(σ:St)(H:Hp)(Q:List (V×V)->Hp->Prop),aH X pins σ H s->sT lj σ H Q ->
  wpAny (model X.prog X.w) X.A (evalPairs (pairTrees keys values X.env pos)) (λvs s'=>∃ps H',aH X pins σ H' s'/\VV ps vs/\Q ps H') X.xe s
theorem FN{X:Cx}{pos:Pos}:KE X pos [] [] []:=λpins s σ H Q I h=>pairTrees_nil_walk ⟨[],H,I,.nil,h⟩
theorem Dl{X:Cx}{pos:Pos}{k v:Expr}{ks:List (Option Expr)}{vs:List Expr}{tk tv:TE}{lj:List (TE×TE)}(hk:PE X k tk)(hv:PE X v tv)(hr:KE X pos ks vs lj) :
  KE X pos (some k::ks) (v::vs) ((tk,tv)::lj):=λpins s σ H Q I h =>
 pairTrees_cons_walk (dq (hk pins s σ H _ I h) λu s1 ⟨x,H1,I1,rx,q1⟩=>dq (hv pins s1 σ H1 _ I1 q1) λw2 s2 ⟨y,H2,I2,ry,q2⟩ =>
  dq (hr pins s2 σ H2 _ I2 q2) λws s3 ⟨ps,H3,I3,rel,q3⟩=>⟨(x,y)::ps,H3,I3,.cons ⟨rx,ry⟩ rel,q3⟩)
def mP(kvs more:List (iA×V)):List (iA×V):=more.foldl (λacc kv=>u4 acc kv.1 kv.2) kvs
theorem KV.merge:∀{more:List (iA×V)}{rs:List (iA×Value)}{kvs:List (iA×V)}{vs:List (iA×Value)},KV more rs->KV kvs vs->KV (mP kvs more) (merged vs rs):=by
 intro more rs kvs vs r;unfold KV at r;induction r generalizing kvs vs with
 | nil=>intro q;exact q
 | @cons p q ps qs h t ih =>
  intro r0;have e:KV (u4 kvs p.1 p.2) (stored vs q.1 q.2):=by
   have:=r0.put p.1 h.2;rw[<-h.1];exact this
  exact ih e
theorem kA:∀(more kvs:List (iA×V)),(mP kvs more).length<=kvs.length+more.length
 | [],kvs=>by show kvs.length<=kvs.length+0;nofun
 | p::r,kvs=>by
  have h1:=kA r (u4 kvs p.1 p.2);have h2:=t9 kvs p.1 p.2;show (mP (u4 kvs p.1 p.2) r).length<=_;rw[YC];nofun
theorem oR{P:Program}{w:World}:∀{kvs:List (iA×V)}{ws:List (Value×Value)},VV (kvs.map λkv=>(kV kv.1,kv.2)) ws -> ∃rs,Carries (dS P w) ws rs/\KV kvs rs
 | [],_,r=>by rw[XY] at r;cases r;exact⟨[],True.intro,.nil⟩
 | p::kvs,_,r=>by
  rw[Y4] at r;cases r with
  | @cons a b as bs h t =>
   obtain⟨rs,c,q⟩:=oR (P:=P) (w:=w) t;obtain⟨b1,b2⟩:=b;exact⟨(p.1,b2)::rs,⟨Bx h.1,rfl,c⟩,.cons ⟨rfl,h.2⟩ q⟩
section
variable {X:Cx}
def C6(K:W.Frag)(lj:List (TE×TE)):TE:=λσ H Q=>∀p H1,vw K H p=none->ay (vw K H) (vw K H1)->vw K H1 p=some (.dK [])->sT lj σ H1 λps H2=>vw K H2 p=some (.dK []) /\ ∃kvs:List (iA×V),ps=kvs.map (λkv=>(kV kv.1,kv.2))/\kvs.length<=15 /\
 ∀H3,gF p (vw K H2) (vw K H3)->vw K H3 p=some (.dK (mP [] kvs))->Q (.ref p) H3
structure KA (X:Cx)(pos:Pos)(keys:List (Option Expr))(values:List Expr)(lj:List (TE×TE)):Prop where
 h:KE X pos keys values lj
theorem DQ{pos:Pos}:KA X pos [] [] []:=⟨FN⟩
theorem pI{pos:Pos}{k v:Expr}{ks:List (Option Expr)}{vs:List Expr}{tk tv:TE}{lj:List (TE×TE)}(hk:QE X k tk)(hv:QE X v tv)(hr:KA X pos ks vs lj):KA X pos (some k::ks) (v::vs) ((tk,tv)::lj):=⟨Dl hk.h hv.h hr.h⟩
theorem DT{pos:Pos}{keys:List (Option Expr)}{values:List Expr}{lj:List (TE×TE)}(h:KA X pos keys values lj)(hall:keys.all (·.isSome)=true)(hl:keys.length=values.length)(h0:keys≠[])
  (h15:keys.length<=15):QE X (.Dict keys values pos) (C6 X.K lj):=⟨by
 intro pins s σ H Q I q;have hn:=I.hok.fresh (Yn s.heap.objs.size);have hk:=I.newK (Yn s.heap.objs.size);have I1:=I.laid (a:=s.heap.objs.size) (o:=.dK []) (h':=s.heap.push { cls:=.type "dict",data:=.dict #[] }) (t':=s.toks) (λ_ _ q=>Heap.get?_push_of_some _ q) (Yn _) (Dq s.heap I.big);have q1:=q _ _ (by rw[dD hk];exact hn) (kQ (ay.upd (o:=.dK []) hn)) (by rw[dD hk];exact bB)
 refine wpAny_Dict_walk (knd:=dS X.prog X.w) hall hl h0 h15 (dq (h.h pins _ σ _ _ I1 q1) λws s2 ⟨ps,H2,I2,rel,e,kvs,ep,lk,q2⟩=>?_);subst ep;have e':H2 s.heap.objs.size=some (.dK []):=(dD hk).symm.trans e;obtain⟨rs,c,rk⟩:=oR (P:=X.prog) (w:=X.w) rel;obtain⟨z,hd,vs0,r0,dd⟩:=JM I2.hok e';cases r0;refine⟨rs,c,dd,λh' dd' hs=>⟨.ref s.heap.objs.size,_,?_,rfl,q2 _ (tR gF.upd) (by rw[dD hk];exact bB)⟩⟩
 have hz:(mP [] kvs).length<=sizeLine:=by
  have h1:=kA kvs [];rw[List.length_nil] at h1;rw[sizeLine_eq];nofun
 have he:∃q,h'.get? s.heap.objs.size=some q:=let ⟨q,_,_,hq,_⟩:=dd';⟨q,hq⟩;exact FK I2 (by rw[e'];exact True.intro) hs he (GG hz hd (rk.merge .nil) dd')⟩
def Dh(K:W.Frag)(td ty:TE):TE:=λσ H Q=>td σ H λx H1=>ty σ H1 λy H2=>∃a,x=.ref a /\ ∃kvs k,vw K H2 a=some (.dK kvs)/\y=kV k /\ ∃v,oY kvs k=some v/\Q v H2
theorem DL{o i:Expr}{pos:Pos}{td ty:TE}(hu:X.A.units+64<cLine)(ho:QE X o td)(hi:QE X i ty)(hs:Kq i):QE X (.Subscript o i pos) (Dh X.K td ty):=⟨by
 intro pins s σ H Q I h;refine Eh PySem.F.slot_dict_getitem.lookup hs (dq (ho.h pins s σ H _ I h) λu s1 ⟨x,H1,I1,rx,q1⟩=>dq (hi.h pins s1 σ H1 _ I1 q1) λiv s2 ⟨y,H2,I2,ry,a,ex,kvs,k,ha,ey,v,hv,q2⟩=>?_);subst ex;obtain rfl:u=Value.ref a:=rx;have g:IG H2 a y (some v):=.inl ⟨kvs,k,.inl (ji ha λ_ z=>by cases z),ey,hv.symm⟩
 exact⟨uV I2 g,zN () I2 g ry λw' s3 I3 rw'=>⟨v,H2,I3,rw',q2⟩⟩⟩
end
end L2
namespace L2
open PySem PySem.Spec PyProof.Rows PySem.W PySem.Calls
theorem zR{X:Cx}(hu:X.A.units+64<cLine):gk X (compareOp .NotIn) (JJ X.K true):=by
 intro pins s σ H x y v u Q I rx ry h;obtain⟨d,ds,h1,h2,c1,c2,q⟩:=h;obtain⟨as,r1⟩:=aW.reads I d x v h1 rx c1.1;obtain⟨bs,r2⟩:=aW.reads I (.lst ds) y u h2 ry c2.1;unfold D.py at r2;have e1:=c2.1;have e2:=c2.2;unfold D.py at e1 e2;refine SeqAt.notIn_list_reads r2 r1 (by unfold PyData.canLay0 at e1;exact e1) c1.1 (by have:=c1.2;nofun) ⟨.bl _,H,I,rfl,?_⟩
 rw[xG];exact q
def Kk(xs:List V)(k:Nat)(y:V):List V:=xs.take k++y::xs.drop k
def Gm(K:W.Frag):V->List V->Hp->VK->Prop:=λx vs H Q=>∃l k y,x=.ref l/\vs=[.int k,y] /\ ∃xs,vw K H l=some (.lst xs)/\xs.length<sizeLine/\0<=k/\k.toNat<=xs.length/\Dp K H l (.lst (Kk xs k.toNat y)) (Q .non)
theorem qH:∀{ys:List V}{acc:List Value},aX ys acc -> ∀k:Nat,aX (ys.take k) (acc.take k)
 | _,_,.nil,k=>by simp;exact .nil
 | _,_,.cons _ _,0=>.nil
 | _,_,.cons r t,k+1=>.cons r (qH t k)
theorem qC:∀{ys:List V}{acc:List Value},aX ys acc -> ∀k:Nat,aX (ys.drop k) (acc.drop k)
 | _,_,.nil,k=>by simp;exact .nil
 | _,_,.cons r t,0=>.cons r t
 | _,_,.cons _ t,k+1=>qC t k
theorem wW{X:Cx}:JF X "list.insert" (Gm X.K):=by
 intro pins s σ H x vs v us Q I rx rv h;obtain⟨l,k,y,rfl,rfl,xs,h1,hz,k0,k1,q⟩:=h;have e':H l=some (.lst xs):=ji h1 λ_ z=>by cases z
 cases rx;cases rv with
 | cons r rr =>
  cases rr with
  | @cons _ u _ _ ru rr' =>
   cases rr';obtain⟨t,rfl⟩:=r;obtain⟨z,its,n,rr,hl,e⟩:=I.lstM e';have sl:xs.length<2^62:=Yr hz ∅;refine call_meets F.slot_list_insert ⟨_,e,rfl⟩ F.entry_list_insert (F.args_list_insert_3 _ _ _) (PySem.AutoSeq1.list_insert_list_int_val_1 l its.toArray n k t u ?_ (by rw[Yu];nofun)) ⟨e,?_⟩
   .have a1:decide (-(2^63:Int)<=k)=true:=Xo ();have a2:decide (k<(2^63:Int))=true:=Xo ();simp[Builtin.List.listFitsIndex];nofun
   .refine⟨.non,_,I.lset (its':=its.take k.toNat++u::its.drop k.toNat) e' e ?_ (aX.append (qH rr k.toNat) (.cons ru (qC rr k.toNat))) ?_,rfl,q.ok (I.noK e')⟩
    .show (its.toArray.extract 0 (if k<0 then (k+(its.toArray.size:Int)).toNat else min k.toNat its.toArray.size)).push u++its.toArray.extract (if k<0 then (k+(its.toArray.size:Int)).toNat else min k.toNat its.toArray.size)=_
     rw[Yc (),Nat.min_eq_left (by rw[Yu];nofun)]
     exact kl_ins_eq its k.toNat u
    .rw[Yx,YC,Yv,List.length_drop];nofun
end L2
namespace L2
open PySem PySem.Spec PyProof.Rows
section
variable {X:Cx}
theorem D2:gk X (binaryOp .LShift) (rI (λi j=>0<=j/\(Builtin.Int.intBits i:Int)+j<=2^27) λi j=>.int (i*2^j.toNat)):=Jf λ_ _ _ _ _ _ _ hc q=>lshift_int hc.1 hc.2 q
def Ko:V->List V->Hp->VK->Prop:=λx vs H Q=>∃i,x=.int i/\vs=[]/\Q (.int ((Builtin.Int.intBits i:Nat):Int)) H
theorem kq:J9 X "int.bit_length" Ko:=by
 intro pins s σ H x vs v us Q I rx rv h;obtain⟨i,rfl,rfl,q⟩:=h;obtain⟨t,rfl⟩:=rx;cases rv;exact call_int_bit_length ⟨.int _,H,I.tok _,⟨_,rfl⟩,q⟩
end
theorem ET(w:Int):w.natAbs<2^Builtin.Int.intBits w:=by
 unfold Builtin.Int.intBits;by_cases z:w=0
 .subst z;decide
 .rw[Yc (by simpa using z)]
  exact Nat.lt_log2_self
theorem nY{w:Int}(z:w≠0):1<=Builtin.Int.intBits w/\2^(Builtin.Int.intBits w-1)<=w.natAbs:=by
 unfold Builtin.Int.intBits;rw[Yc (by simpa using z)]
 exact⟨(),Nat.log2_self_le ()⟩
theorem DZ{w:Int}{n:Nat}(h:Bt n w):Builtin.Int.intBits w<=n:=by
 by_cases z:w=0
 .subst z;exact Y3 _
 .have:=nY z;have h:w.natAbs<2^n:=h;have h3:2^(Builtin.Int.intBits w-1)<2^n:=Nat.lt_of_le_of_lt this.2 h;have:=(Nat.pow_lt_pow_iff_right (by decide:1<2)).mp h3
  nofun
def p2(E:Nat):Rat:=(((2^E:Nat):Int):Rat)
theorem sr(E:Nat):0<p2 E:=YA.mpr (by have:=Xj E;nofun)
theorem tH(a b:Nat):p2 (a+b)=p2 a*p2 b:=by
 unfold p2;rw[<-Yi,<-Int.natCast_mul,XR]
theorem Kp{a b:Nat}(h:a<=b):p2 a<=p2 b:=YD.mpr (Int.ofNat_le.mpr (Xx ∅ h))
theorem Lg:p2 1=2:=rfl
def K8(W:List Int)(E:Nat):Prop:=∀k,k<W.length-1->Sm ((((nz W (W.length-1)).natAbs:Int):Rat)*eD (p2 E/2) (W.length-1-k)) ((nz W k:Int):Rat)
structure kh where
 lo:Int
 hi:Int
 bo:Int
 ls:List Int
 us:List Int
def kh.a(e:kh):Rat:=(e.lo:Rat)/(e.bo:Rat)
def kh.b(e:kh):Rat:=(e.hi:Rat)/(e.bo:Rat)
def tK:List Int->Int
 | []=>0
 | [x]=>x
 | x::y::_=>if x≠0 then x else y
structure Jk (hs:List (List Int))(A:Rat->Nat)(Sg:Int->Rat->Prop)(T B:Nat):Prop where
 far:chg 0 (hs.map (cI (-1)))=chg 0 (hs.map (cI 1))+T
 mid:∀x,chg 0 (hs.map (cI (-1)))=chg 0 (fK x (hs.map ao))+A x
 bd:∀E h0 tl,hs=h0::tl->K8 h0 E->A (p2 E)=T/\A (-(p2 E))=0/\Sg (tK (hs.map (cI (-1)))) (-(p2 E))
 fine:∀M a b,-M<=a->b<=M->a<=b->2*M*(b-a)*p2 (2*B)<=1->A b<=A a+1
 mono:∀a b,a<=b->A a<=A b
 two:T=0\/2<=hs.length
 at_:∀x,Sg (tK (fK x (hs.map ao))) x
structure p8 (hs:List (List Int))(A:Rat->Nat)(Sg:Int->Rat->Prop)(C E J:Nat)(e:kh)(lev:Nat):Prop where
 bo:e.bo=((2^lev:Nat):Int)
 wid:e.hi-e.lo=((2^(E+1):Nat):Int)
 lob : -((2^(E+lev):Nat):Int)<=e.lo
 hib:e.hi<=((2^(E+lev):Nat):Int)
 lv:lev<=J
 cl:chg 0 e.ls+A e.a=C
 cu:chg 0 e.us+A e.b=C
 sg:Sg (tK e.ls) e.a
 ll:e.ls.length=hs.length
 lu:e.us.length=hs.length
section
variable {hs:List (List Int)}{A:Rat->Nat}{Sg:Int->Rat->Prop}{T B C E J:Nat}{e:kh}{lev:Nat}
theorem p8.bp(h:p8 hs A Sg C E J e lev):(0:Rat)<(e.bo:Rat):=by
 rw[h.bo];exact sr lev
theorem p8.lt(h:p8 hs A Sg C E J e lev):e.a<e.b:=by
 have b:=h.bp;have w:=h.wid;have l:(e.lo:Rat)<(e.hi:Rat):=XC.mpr (by have:=Xj (E+1);nofun)
 unfold kh.a kh.b;have h1:(e.lo:Rat)/(e.bo:Rat)*(e.bo:Rat)=(e.lo:Rat):=YU ⋯;have h2:(e.hi:Rat)/(e.bo:Rat)*(e.bo:Rat)=(e.hi:Rat):=YU ⋯;refine X5.mp λz=>?_;have:=Yf (show 0<=(e.lo:Rat)/(e.bo:Rat)-(e.hi:Rat)/(e.bo:Rat) by grind) (Yl b)
 grind
theorem p8.in_(h:p8 hs A Sg C E J e lev) : -(p2 E)<=e.a/\e.b<=p2 E:=by
 have b:=h.bp;have h1:e.a*(e.bo:Rat)=(e.lo:Rat):=YU ⋯;have h2:e.b*(e.bo:Rat)=(e.hi:Rat):=YU ⋯;have k1 : -(p2 (E+lev))<=(e.lo:Rat):=by
  unfold p2;rw[<-Xi];exact YD.mpr h.lob
 have k2:(e.hi:Rat)<=p2 (E+lev):=YD.mpr h.hib;have eb:(e.bo:Rat)=p2 lev:=by rw[h.bo];rfl
 rw[tH,<-eb] at k1 k2;generalize (e.bo:Rat)=d at *
 generalize p2 E=m at *
 generalize e.a=x at *
 generalize e.b=y at *
 constructor
 .refine X6.mp λz=>?_;have:=Yo (show 0 < -m-x by grind) b
  grind
 .refine X6.mp λz=>?_;have:=Yo (show 0<y-m by grind) b
  grind
theorem p8.diff(h:p8 hs A Sg C E J e lev):(e.b-e.a)*p2 lev=p2 (E+1):=by
 have b:=h.bp;have h1:e.a*(e.bo:Rat)=(e.lo:Rat):=YU ⋯;have h2:e.b*(e.bo:Rat)=(e.hi:Rat):=YU ⋯;have eb:(e.bo:Rat)=p2 lev:=by rw[h.bo];rfl
 have w:(e.hi:Rat)-(e.lo:Rat)=p2 (E+1):=by
  rw[<-Rat.intCast_sub,h.wid];rfl
 rw[<-eb];grind
theorem p8.room(H:Jk hs A Sg T B)(hJ:J=2*E+2+2*B)(h:p8 hs A Sg C E J e lev)(many:chg 0 e.us+1<chg 0 e.ls):lev+1<=J:=by
 refine Nat.lt_of_not_le λz=>?_;obtain⟨i1,i2⟩:=h.in_;have f:=H.fine (p2 E) e.a e.b i1 i2 (Yl h.lt) ?_
 .have:=h.cl;have:=h.cu;nofun
 .have d:=h.diff;have q:=Kp z;rw[hJ,show 2*E+2+2*B=1+(E+((E+1)+2*B)) by nofun,tH,Lg,tH,tH] at q
  have l0:=sr lev;refine X6.mp λy=>?_;have:=Yo (show 0<2*p2 E*(e.b-e.a)*p2 (2*B)-1 by grind) l0
  have k:2*p2 E*(e.b-e.a)*p2 (2*B)*p2 lev=2*p2 E*p2 (E+1)*p2 (2*B):=by
   rw[<-d];grind
  grind
def kh.low(e:kh)(m:List Int):kh:=⟨2*e.lo,e.lo+e.hi,2*e.bo,e.ls,m⟩
def kh.up(e:kh)(m:List Int):kh:=⟨e.lo+e.hi,2*e.hi,2*e.bo,m,e.us⟩
theorem AY{x y:Int}(h:(y:Rat)≠0):((2*x:Int):Rat)/((2*y:Int):Rat)=(x:Rat)/(y:Rat):=by
 rw[Yi,Yi];have:((2:Int):Rat)=2:=rfl;rw[this];have h1:(x:Rat)/(y:Rat)*(y:Rat)=(x:Rat):=YU h;have h2:2*(x:Rat)/(2*(y:Rat))*(2*(y:Rat))=2*(x:Rat):=YU ⋯;have h3:(2*(x:Rat)/(2*(y:Rat))-(x:Rat)/(y:Rat))*(y:Rat)=0:=⋯;rcases YE.mp h3 with z|z
 .grind
 .exact absurd z h
def kh.m(e:kh):Rat:=((e.lo+e.hi:Int):Rat)/((2*e.bo:Int):Rat)
theorem p8.halves(H:Jk hs A Sg T B)(hC:C=chg 0 (hs.map (cI (-1))))(h:p8 hs A Sg C E J e lev)(r:lev+1<=J) :
  p8 hs A Sg C E J (e.low (fK e.m (hs.map ao))) (lev+1)/\p8 hs A Sg C E J (e.up (fK e.m (hs.map ao))) (lev+1)/\(e.low (fK e.m (hs.map ao))).a=e.a/\(e.low (fK e.m (hs.map ao))).b=e.m/\(e.up (fK e.m (hs.map ao))).a=e.m/\(e.up (fK e.m (hs.map ao))).b=e.b:=by
 have b0:(e.bo:Rat)≠0:=by have:=h.bp;grind
 have e1:(e.low (fK e.m (hs.map ao))).a=e.a:=AY b0;have e2:(e.up (fK e.m (hs.map ao))).b=e.b:=AY b0;have lm:(fK e.m (hs.map ao)).length=hs.length:=by simp[fK]
 have cm:chg 0 (fK e.m (hs.map ao))+A e.m=C:=by rw[hC,H.mid e.m]
 have w:=h.wid;have l1:=h.lob;have l2:=h.hib;have p1:((2^(lev+1):Nat):Int)=2*((2^lev:Nat):Int):=by rw[X4];nofun
 have p3:((2^(E+(lev+1)):Nat):Int)=2*((2^(E+lev):Nat):Int):=by rw[<-Nat.add_assoc,X4];nofun
 have p4:=Xj (E+1);have bo:=h.bo;refine⟨⟨?_,?_,?_,?_,r,?_,cm,?_,h.ll,lm⟩,⟨?_,?_,?_,?_,r,cm,?_,H.at_ _,lm,h.lu⟩,e1,rfl,rfl,e2⟩
 .show 2*e.bo=_;nofun
 .show e.lo+e.hi-2*e.lo=_;nofun
 .show _<=2*e.lo;nofun
 .show e.lo+e.hi<=_;nofun
 .rw[e1];exact h.cl
 .rw[e1];exact h.sg
 .show 2*e.bo=_;nofun
 .show 2*e.hi-(e.lo+e.hi)=_;nofun
 .show _<=e.lo+e.hi;nofun
 .show 2*e.hi<=_;nofun
 .rw[e2];exact h.cu
theorem p8.first{h0:List Int}{tl:List (List Int)}(H:Jk hs A Sg T B)(hh:hs=h0::tl)(rb:K8 h0 E):p8 hs A Sg (chg 0 (hs.map (cI (-1)))) E J ⟨-((2^E:Nat):Int),((2^E:Nat):Int),1,hs.map (cI (-1)),hs.map (cI 1)⟩ 0:=by
 obtain⟨b1,b2,b3⟩:=H.bd E h0 tl hh rb;have one:((1:Int):Rat)=1:=rfl;have ea:kh.a ⟨-((2^E:Nat):Int),((2^E:Nat):Int),1,hs.map (cI (-1)),hs.map (cI 1)⟩ = -(p2 E):=by
  show ((-((2^E:Nat):Int):Int):Rat)/((1:Int):Rat)=_;rw[one,Xi];show -(p2 E)/1=_;grind
 have eb:kh.b ⟨-((2^E:Nat):Int),((2^E:Nat):Int),1,hs.map (cI (-1)),hs.map (cI 1)⟩=p2 E:=by
  show (((2^E:Nat):Int):Rat)/((1:Int):Rat)=_;rw[one];show p2 E/1=_;grind
 refine⟨rfl,?_,Int.le_refl _,Int.le_refl _,Y3 _,?_,?_,?_,by simp,by simp⟩
 .show ((2^E:Nat):Int) - -((2^E:Nat):Int)=_;rw[X4];nofun
 .rw[ea,b2];rfl
 .rw[eb,b1];exact H.far.symm
 .rw[ea];exact b3
inductive JH (hs:List (List Int))(A:Rat->Nat)(Sg:Int->Rat->Prop)(C E J:Nat):Rat->List (kh×Nat)->Prop
 | nil:JH hs A Sg C E J (p2 E) []
 | cons {e:kh}{lev:Nat}{es:List (kh×Nat)}:p8 hs A Sg C E J e lev->es.length<=lev->JH hs A Sg C E J e.b es->JH hs A Sg C E J e.a ((e,lev)::es)
def Ak(J:Nat):List (kh×Nat)->Nat
 | []=>0
 | e::es=>wt J e.2+Ak J es
structure pZ where
 lo:Int
 hi:Int
 bo:Int
 sn:Int
def pZ.a(p:pZ):Rat:=(p.lo:Rat)/(p.bo:Rat)
def pZ.b(p:pZ):Rat:=(p.hi:Rat)/(p.bo:Rat)
structure Ku (A:Rat->Nat)(Sg:Int->Rat->Prop)(N:Nat)(p:pZ)(i:Nat):Prop where
 bo:0<p.bo
 bb:Bt N p.bo
 bl:Bt N p.lo
 bh:Bt N p.hi
 lt:p.a<p.b
 al:A p.a=i
 au:A p.b=i+1
 sg:Sg p.sn p.a
def Du(A:Rat->Nat)(Sg:Int->Rat->Prop)(N:Nat)(ps:List pZ)(x:Rat):Prop:=A x=ps.length/\(∀(i:Nat)(p:pZ),ps[i]? = some p->Ku A Sg N p i/\p.b<=x) /\ ∀(i j:Nat)(p q:pZ),ps[i]? = some p->ps[j]? = some q->i<j->p.b<=q.a
theorem Du.next{N:Nat}{ps:List pZ}{x y:Rat}(h:Du A Sg N ps x)(l:x<=y)(e:A y=A x):Du A Sg N ps y :=
 ⟨e.trans h.1,λi p k=>⟨(h.2.1 i p k).1,by have:=(h.2.1 i p k).2;grind⟩,h.2.2⟩
theorem Du.snoc{N:Nat}{ps:List pZ}{p:pZ}(h:Du A Sg N ps p.a)(ok:Ku A Sg N p ps.length):Du A Sg N (ps++[p]) p.b:=by
 have split:∀i q,(ps++[p])[i]? = some q->ps[i]? = some q\/(i=ps.length/\q=p):=λi q k=>by
  by_cases z:i<ps.length
  .rw[YW z] at k;exact .inl k
  .have z2:=(Ys.mp k).1;have:i=ps.length:=by simp at z2;nofun
   subst this;rw[YO (Yn _),XS] at k;cases k;exact .inr ⟨rfl,rfl⟩
 refine⟨by rw[ok.au];simp,λi q k=>?_,λi j q r k1 k2 lt=>?_⟩
 .rcases split i q k with z|⟨rfl,rfl⟩
  .obtain⟨a,b⟩:=h.2.1 i q z;exact⟨a,by have:=ok.lt;grind⟩
  .exact⟨ok,⋯⟩
 .rcases split i q k1 with z|⟨rfl,rfl⟩
  .rcases split j r k2 with y|⟨rfl,rfl⟩
   .exact h.2.2 i j q r z y lt
   .exact (h.2.1 i q z).2
  .have z2:=(Ys.mp k2).1;simp at z2;nofun
theorem p8.bits(h:p8 hs A Sg C E J e lev):Bt (E+J+1) e.bo/\Bt (E+J+1) e.lo/\Bt (E+J+1) e.hi:=by
 have w:=h.wid;have l1:=h.lob;have l2:=h.hib;have bo:=h.bo;have lv:=h.lv;have p4:=Xj (E+1);have q1:2^(E+lev)<2^(E+J+1):=Nat.pow_lt_pow_right ∅ ();have q2:2^lev<2^(E+J+1):=Nat.pow_lt_pow_right ∅ ();refine⟨?_,?_,?_⟩
 .show e.bo.natAbs<_;rw[bo];exact q2
 .show e.lo.natAbs<_;nofun
 .show e.hi.natAbs<_;nofun
theorem p8.place(H:Jk hs A Sg T B) {N i:Nat}(h:p8 hs A Sg C E J e lev)(many:chg 0 e.ls=chg 0 e.us+1)(hN:E+J+1<=N)(hi:A e.a=i):Ku A Sg N ⟨e.lo,e.hi,e.bo,tK e.ls⟩ i:=by
 obtain⟨b1,b2,b3⟩:=h.bits;have cl:=h.cl;have cu:=h.cu;refine⟨?_,b1.mono hN,b2.mono hN,b3.mono hN,h.lt,hi,?_,h.sg⟩
 .show 0<e.bo;rw[h.bo];have:=Xj lev;nofun
 .show A e.b=i+1;nofun
end
theorem GZ{l:List (aO×Nat)}(ok:∀q∈l,q.1.ok/\1<=q.2)(h:de l=0):l=[]:=by
 cases l with
 | nil=>rfl
 | cons q l =>
  have h1:de (q::l)=q.2*q.1.deg+de l:=rfl;have h2:=(ok q Ye).2;have h3:1<=q.1.deg:=by cases q.1<;>simp[aO.deg]
  have:=Xf h2 h3;nofun
theorem zY{h:List Int}(h0:h≠[]):∃(F:List Int)(c:Int),h=F++[c]/\c=nz h (h.length-1)/\F.length=h.length-1 /\ ∀k,k<F.length->nz F k=nz h k:=by
 refine⟨h.dropLast,h.getLast h0,(List.dropLast_concat_getLast h0).symm,?_,List.length_dropLast,λk hk=>?_⟩
 .have:=Yy.mpr h0;rw[aZ (n:=h.getLast h0)];rw[Ya (),List.getLast_eq_getElem]
 .rw[List.length_dropLast] at hk;have e:h[k]? = some h[k]:=Ya ();rw[aZ e];refine aZ ?_;rw[List.getElem?_dropLast,Yg (),e]
structure Cj (g:Rat->Rat)(l:List (aO×Nat))(σ:Rat->Int):Prop where
 py:Py g
 at_:∀x,sg (g x)=σ (bj x)
 two:∀q∈l,((∀m∈q.1.mk,σ m=0) /\ ∃γ,Py γ /\ ∀x,g x=q.1.p x*γ x)\/(Bz q.1.p g /\ ∀m∈q.1.mk,σ m≠0 /\ ∃e:Rat,0<e /\ ∀m',Sm e (m'-m)->σ m'=σ m)
def vS(σ:Rat->Int):aO->Rat->Int
 | .line r,x=>if r<=x then σ (bj r) else 0
 | .root n,x=>iD n (σ (-n)) (σ n) x
 | .none _,_=>0
def kN(σ:Rat->Int):List (aO×Nat)->Rat->Int
 | [],_=>0
 | q::l,x=>vS σ q.1 x+kN σ l x
theorem CU{σ:Rat->Int}{l l':List (aO×Nat)}(h:l.Perm l')(x:Rat):kN σ l x=kN σ l' x:=by
 induction h with
 | nil=>rfl
 | cons q _ ih=>show vS σ q.1 x+_=vS σ q.1 x+_;rw[ih]
 | swap a b l=>show vS σ b.1 x+(vS σ a.1 x+kN σ l x)=vS σ a.1 x+(vS σ b.1 x+kN σ l x);nofun
 | trans _ _ h1 h2=>rw[h1,h2]
theorem yE{σ:Rat->Int}{x:Rat}:∀l l':List (aO×Nat),kN σ (l++l') x=kN σ l x+kN σ l' x
 | [],l'=>by show kN σ l' x=0+kN σ l' x;nofun
 | q::l,l'=>by
  show vS σ q.1 x+kN σ (l++l') x=vS σ q.1 x+kN σ l x+kN σ l' x;rw[yE l l'];nofun
theorem CS{σ:Rat->Int}{q:aO}{x:Rat}(h:∀m∈q.mk,σ m=0):vS σ q x=0:=by
 cases q with
 | line r =>
  show (if r<=x then σ (bj r) else 0)=0
  rw[h (bj r) Ye];split<;>rfl
 | root n =>
  show iD n (σ (-n)) (σ n) x=0;unfold iD;rw[h (-n) Ye,h n (Yd _ Ye)];split
  .rfl
  .split<;>rfl
 | none n=>rfl
theorem lN{σ:Rat->Int}{x:Rat}:∀{l:List (aO×Nat)},(∀q∈l,∀m∈q.1.mk,σ m=0)->kN σ l x=0
 | [],_=>rfl
 | q::l,h=>by
  show vS σ q.1 x+kN σ l x=0;rw[CS (h q Ye),lN λp hp=>h p (Yd _ hp)];rfl
def jk:List Int->Int
 | []=>0
 | x::l=>x+jk l
theorem oT:∀l l':List Int,jk (l++l')=jk l+jk l'
 | [],l'=>by show jk l'=0+jk l';nofun
 | x::l,l'=>by
  show x+jk (l++l')=x+jk l+jk l';rw[oT l l'];nofun
theorem qB{l l':List Int}(h:l.Perm l'):jk l=jk l':=by
 induction h with
 | nil=>rfl
 | cons q _ ih=>show q+_=q+_;rw[ih]
 | swap a b l=>show b+(a+jk l)=a+(b+jk l);nofun
 | trans _ _ h1 h2=>rw[h1,h2]
theorem Ii{σ:Rat->Int}{q:aO}(h:q.ok)(x:Rat):vS σ q x=jk (((q.mk).filter λm=>decide (m<=bj x)).map σ):=by
 cases q with
 | none _=>rfl
 | line r =>
  show (if r<=x then σ (bj r) else 0)=jk (([bj r].filter λm=>decide (m<=bj x)).map σ)
  by_cases z:r<=x
  .rw[Yg z,YF (by simpa using jj.mpr z)]
   show _=σ (bj r)+0;nofun
  .rw[Yc z,YS (by simpa using λy=>z (jj.mp y))]
   rfl
 | root n =>
  obtain⟨n0,nn⟩:=h;show (if x*x<n then σ (-n) else if x<0 then 0 else σ (-n)+σ n)=jk (([-n,n].filter λm=>decide (m<=bj x)).map σ)
  have p:=jo x;have ne:=nn x;by_cases a:x*x<n
  .have h1 : -n<=bj x:=by unfold bj;split<;>grind
   have h2:¬ n<=bj x:=by unfold bj;split<;>grind
   rw[Yg a,YF (by simpa using h1),YS (by simpa using h2)]
   show _=σ (-n)+0;nofun
  .rw[Yc a];by_cases b:x<0
   .have h1:¬ -n<=bj x:=by unfold bj;rw[Yg b];grind
    have h2:¬ n<=bj x:=by unfold bj;rw[Yg b];grind
    rw[Yg b,YS (by simpa using h1),YS (by simpa using h2)]
    rfl
   .have h1 : -n<=bj x:=by unfold bj;rw[Yc b];grind
    have h2:n<=bj x:=by unfold bj;rw[Yc b];grind
    rw[Yc b,YF (by simpa using h1),YF (by simpa using h2)]
    show _=σ (-n)+(σ n+0);nofun
theorem vZ{σ:Rat->Int}{x:Rat}:∀{l:List (aO×Nat)},(∀q∈l,q.1.ok/\1<=q.2)->kN σ l x=jk (((kZ l).filter λm=>decide (m<=bj x)).map σ)
 | [],_=>rfl
 | q::l,h=>by
  show vS σ q.1 x+kN σ l x=jk (((q.1.mk++kZ l).filter _).map σ);rw[List.filter_append,Yq,oT,Ii (h q Ye).1,vZ λp hp=>h p (Yd _ hp)]
theorem nZ{y:Rat}:∀{ms:List Rat},ms.Pairwise (· < ·)->ms.filter (λm=>decide (m<=y))=ms.take (ms.filter λm=>decide (m<=y)).length
 | [],_=>rfl
 | m::ms,h=>by
  obtain⟨h1,h2⟩:=Y0.mp h;by_cases z:m<=y
  .rw[YF (by simpa using z),YC,List.take_succ_cons,<-nZ h2]
  .have:(m::ms).filter (λm=>decide (m<=y))=[]:=by
    refine List.filter_eq_nil_iff.mpr λa ha=>?_;rcases Yh.mp ha with rfl|w
    .simpa using z
    .have:=h1 a w;have:¬ a<=y:=⋯;simpa using this
   rw[this];rfl
theorem Ft{l:List (aO×Nat)}{ms:List Rat}{σ:Rat->Int}{a b:Rat}{i:Nat}(ok:∀q∈l,q.1.ok/\1<=q.2)(un:l.Pairwise λa b=>a.1≠b.1)(up:ms.Pairwise (· < ·))(hm:∀v,v∈ms↔v∈kZ l)(ha:iU l a=i)(hb:iU l b=i+1):∃m,ms[i]? = some m/\bj a<m/\m<=bj b/\kN σ l b=kN σ l a+σ m:=by
 have nd:ms.Nodup:=up.imp λ{x y} h e=>by rw[e] at h;exact Rat.lt_irrefl h
 have p:ms.Perm (kZ l):=(List.perm_ext_iff_of_nodup nd (mK ok un)).mpr hm;rw[kE ok,<-((p.filter _).length_eq)] at ha hb;rw[vZ ok,vZ ok,<-qB ((p.filter _).map σ),<-qB ((p.filter _).map σ)];have e1:=nZ (y:=bj a) up;have e2:=nZ (y:=bj b) up;rw[ha] at e1;rw[hb] at e2;have hl:i<ms.length:=by
  have:=X7 List.length e2;rw[hb,Yv] at this;nofun
 have eg:ms[i]? = some ms[i]:=Ya hl;have mt:ms[i]∈ms.take (i+1):=by
  rw[Yw,eg];exact YT _ Ye
 refine⟨ms[i],eg,?_,?_,?_⟩
 .refine X5.mp λz=>?_;have:ms[i]∈ms.filter λm=>decide (m<=bj a):=Xe.mpr ⟨Yp hl,by simpa using z⟩
  rw[e1] at this;obtain⟨j,hj,ej⟩:=XH this;rw[Yv] at hj;rw[List.getElem_take] at ej;have:=(List.pairwise_iff_getElem.mp up) j i () hl ();rw[ej] at this;exact Rat.lt_irrefl this
 .rw[<-e2] at mt;have:=(Xe.mp mt).2;simpa using this
 .rw[e1,e2,Yw,eg];show jk ((ms.take i++[ms[i]]).map σ)=_;rw[Yq,oT];show _+(σ ms[i]+0)=_;nofun
end L2
set_option maxHeartbeats 2000000
namespace L2
open PySem PySem.Spec PyProof.Rows
theorem Ad{n e:Rat}(n0:0<n)(e0:0<e):∃x:Rat,0<x/\x<=n+2/\Sm e (x*x-n):=by
 obtain⟨δ,δ0,d1,d2,_⟩:=ko (show (0:Rat)<1 by decide) (show 0<e/(2*n+3) by rw[YN ⋯];grind) (show (0:Rat)<1 by decide)
 have d3:δ*(2*n+3)<=e:=by
  have k:e/(2*n+3)*(2*n+3)=e:=YU ⋯;have:=Yf (show 0<=e/(2*n+3)-δ by grind) (show 0<=2*n+3 by grind)
  grind
 have ex:∃k:Nat,((k:Rat)*δ)*((k:Rat)*δ)<n/\n<=(((k:Rat)+1)*δ)*(((k:Rat)+1)*δ):=Yt λno=>by
  have al:∀k:Nat,((k:Rat)*δ)*((k:Rat)*δ)<n:=by
   intro k;induction k with
   | zero =>
    have:((0:Nat):Rat)=0:=rfl;rw[this];grind
   | succ k ih =>
    refine X5.mp λz=>no ⟨k,ih,?_⟩;have:((k+1:Nat):Rat)=(k:Rat)+1:=by rw[Rat.natCast_add];rfl
    rwa [this] at z
  obtain⟨x,hx⟩ : ∃x,x=(n+1)/δ:=⟨_,rfl⟩;have h1:x<=((x.ceil:Int):Rat):=Rat.le_ceil;have h2:((x.ceil:Int):Rat)<=((x.ceil.toNat:Nat):Rat):=by
   rw[show ((x.ceil.toNat:Nat):Rat)=(((x.ceil.toNat:Nat):Int):Rat) from rfl]
   exact YD.mpr (Int.self_le_toNat _)
  have h3:=Yf (Yl δ0) (show 0<=((x.ceil.toNat:Nat):Rat)-x by grind)
  have h4:x*δ=n+1:=by rw[hx];grind
  have h5:=al x.ceil.toNat;have h6:n+1<=((x.ceil.toNat:Nat):Rat)*δ:=⋯;generalize ((x.ceil.toNat:Nat):Rat)*δ=y at h5 h6;have:=Yf (show 0<=y-(n+1) by grind) (show 0<=y by grind)
  have:=Yf (show 0<=y-(n+1) by grind) (show 0<=n+1 by grind)
  have:=Yo n0 n0;grind
 obtain⟨k,k1,k2⟩:=ex;have kn:(0:Rat)<=(k:Rat):=Rat.natCast_nonneg;have y0:=Yf kn (Yl δ0);have e1:((k:Rat)+1)*δ=(k:Rat)*δ+δ:=⋯;rw[e1] at k2;generalize (k:Rat)*δ=y at *
 have yn:y<n+1:=X5.mp λz=>by
  have:=Yf (show 0<=y-(n+1) by grind) (show 0<=y by grind)
  have:=Yf (show 0<=y-(n+1) by grind) (show 0<=n+1 by grind)
  have:=Yo n0 n0;grind
 refine⟨y+δ,⋯,⋯,?_⟩;have h1:=Yf (Yl δ0) (show 0<=n+1-y by grind)
 have h2:=Yf (Yl δ0) (show 0<=1-δ by grind)
 unfold Sm;constructor<;>grind
def qK(g:Rat->Rat)(σ:Rat->Int)(q:aO×Nat):GF:=⟨q.1.p,λx=>((q.2:Nat):Rat)*q.1.d x*g x,match q.1 with
 | .line r=>jx r (((q.2:Nat):Rat)*q.1.d r*g r)
 | .root n=>iD n (σ (-n)) (σ n)
 | .none _=>λ_=>0⟩
theorem ou{g:Rat->Rat}{σ:Rat->Int}{x:Rat}:∀l:List (aO×Nat),kT (l.map (qK g σ)) x=bJ l x
 | []=>rfl
 | q::l=>by show q.1.p x*kT (l.map (qK g σ)) x=q.1.p x*bJ l x;rw[ou l]
theorem tQ{g:Rat->Rat}{σ:Rat->Int}{x:Rat}:∀l:List (aO×Nat),tZ (l.map (qK g σ)) x=g x*eH l x
 | []=>by show (0:Rat)=g x*0;grind
 | q::l=>by
  show ((q.2:Nat):Rat)*q.1.d x*g x*kT (l.map (qK g σ)) x+q.1.p x*tZ (l.map (qK g σ)) x=g x*(((q.2:Nat):Rat)*q.1.d x*bJ l x+q.1.p x*eH l x);rw[ou l,tQ l];grind
def kF(σ:Rat->Int):aO->Rat->Int
 | .line r,x=>if r=x/\σ (bj x) = -1 then 1 else 0
 | _,_=>0
def kL(σ:Rat->Int):List (aO×Nat)->Rat->Int
 | [],_=>0
 | q::l,x=>kF σ q.1 x+kL σ l x
theorem rY{m:Nat}(h:1<=m):(0:Rat)<(m:Rat):=by
 have h1:((1:Nat):Rat)<=(m:Rat):=Rat.natCast_le_natCast.mpr h;have h2:((1:Nat):Rat)=1:=rfl;grind
theorem Jq{g:Rat->Rat}{σ:Rat->Int}{q:aO×Nat}{x:Rat}(at_:∀x,sg (g x)=σ (bj x))(m1:1<=q.2)(ne:∀m∈q.1.mk,σ m≠0):(qK g σ q).A x=vS σ q.1 x+kF σ q.1 x:=by
 obtain⟨q,m⟩:=q;have m0:=rY m1;cases q with
 | none n=>rfl
 | root n=>show iD n (σ (-n)) (σ n) x=iD n (σ (-n)) (σ n) x+0;nofun
 | line r =>
  show jx r (((m:Nat):Rat)*1*g r) x=(if r<=x then σ (bj r) else 0)+(if r=x/\σ (bj x) = -1 then 1 else 0)
  have n1:=ne (bj r) Ye;have a1:=at_ r;unfold jx;rcases bA (g r) with ⟨z,e⟩|⟨z,e⟩|⟨z,e⟩
  .rw[e] at a1;have p:=Yo m0 z;rw[Yg (show 0<((m:Nat):Rat)*1*g r by grind),<-a1]
   by_cases y:r=x
   .subst y;rw[<-a1,Yg ⋯,Yc ()];rfl
   .rw[Yc (show ¬ (r=x/\σ (bj x) = -1) from λw=>y w.1)]
    nofun
  .rw[e] at a1;have p:=Yo m0 (show 0 < -g r by grind)
   rw[Yc (show ¬ 0<((m:Nat):Rat)*1*g r by grind),<-a1]
   by_cases y:r=x
   .subst y;rw[<-a1,Yc ⋯,Yg ⋯,Yg ⟨rfl,rfl⟩];rfl
   .rw[Yc (show ¬ (r=x/\σ (bj x) = -1) from λw=>y w.1)]
    by_cases w:r<x
    .rw[Yg w,Yg ⋯];rfl
    .rw[Yc w,Yc ⋯];rfl
  .exact absurd (a1.symm.trans e) n1
theorem xS{g:Rat->Rat}{σ:Rat->Int}{x:Rat}(at_:∀x,sg (g x)=σ (bj x)):∀{l:List (aO×Nat)},(∀q∈l,1<=q.2 /\ ∀m∈q.1.mk,σ m≠0)->pX (l.map (qK g σ)) x=kN σ l x+kL σ l x
 | [],_=>rfl
 | q::l,h=>by
  have h1:=h q Ye;show (qK g σ q).A x+pX (l.map (qK g σ)) x=vS σ q.1 x+kN σ l x+(kF σ q.1 x+kL σ l x);rw[Jq at_ h1.1 h1.2,xS at_ λp hp=>h p (Yd _ hp)];nofun
theorem yG{σ:Rat->Int}{x:Rat}:∀{l:List (aO×Nat)},(∀q∈l,q.1 ≠ .line x)->kL σ l x=0
 | [],_=>rfl
 | q::l,h=>by
  show kF σ q.1 x+kL σ l x=0;rw[yG λp hp=>h p (Yd _ hp)];have h1:=h q Ye;cases e:q.1 with
  | line r =>
   rw[e] at h1;show (if r=x/\σ (bj x) = -1 then (1:Int) else 0)+0=0
   rw[Yc λw=>h1 (by rw[w.1])]
   rfl
  | root n=>rfl
  | none n=>rfl
theorem BF{σ:Rat->Int}{x:Rat}:∀{l:List (aO×Nat)},l.Pairwise (λa b=>a.1≠b.1)->(∃q∈l,q.1=.line x)->kL σ l x=if σ (bj x) = -1 then 1 else 0
 | [],_,⟨_,h,_⟩=>by cases h
 | q::l,un,⟨p,hp,e⟩=>by
  obtain⟨u1,u2⟩:=Y0.mp un;show kF σ q.1 x+kL σ l x=_;rcases Yh.mp hp with rfl|hp
  .rw[yG λp' hp' z=>u1 p' hp' (by rw[e,z]),e]
   show (if x=x/\σ (bj x) = -1 then (1:Int) else 0)+0=_
   by_cases y:σ (bj x) = -1
   .rw[Yg ⟨rfl,y⟩,Yg y];rfl
   .rw[Yc λw=>y w.2,Yc y];rfl
  .rw[BF u2 ⟨p,hp,e⟩];have h1:=u1 p hp;rw[e] at h1;have:kF σ q.1 x=0:=by
    cases e2:q.1 with
    | line r =>
     rw[e2] at h1;show (if r=x/\σ (bj x) = -1 then (1:Int) else 0)=0
     exact Yc λw=>h1 (by rw[w.1])
    | root n=>rfl
    | none n=>rfl
   rw[this];nofun
theorem lE{x:Rat}:∀{l:List (aO×Nat)},(∀q∈l,q.1.ok/\1<=q.2)->bJ l x=0 -> ∃q∈l,q.1=.line x
 | [],_,h=>absurd h (by show (1:Rat)≠0;decide)
 | q::l,ok,h=>by
  have h:q.1.p x*bJ l x=0:=h;rcases YE.mp h with z|z
  .refine⟨q,Ye,?_⟩;have o:=(ok q Ye).1;cases e:q.1 with
   | line r =>
    rw[e] at z;have z:x-r=0:=z;rw[show r=x by grind]
   | root n =>
    rw[e] at z o;have z:x*x-n=0:=z;exact absurd (show x*x=n by grind) (o.2 x)
   | none n =>
    rw[e] at z o;have z:x*x+n=0:=z;have o:0<n:=o;have:=jo x;grind
  .obtain⟨p,hp,e⟩:=lE (λp hp=>ok p (Yd _ hp)) z;exact⟨p,Yd _ hp,e⟩
theorem ur{x:Rat}:∀{l:List (aO×Nat)},(∃q∈l,q.1=.line x)->bJ l x=0
 | [],⟨_,h,_⟩=>by cases h
 | q::l,⟨p,hp,e⟩=>by
  show q.1.p x*bJ l x=0;rcases Yh.mp hp with rfl|hp
  .rw[e];show (x-x)*_=0;grind
  .rw[ur ⟨p,hp,e⟩];grind
theorem Bz.ne{f g:Rat->Rat}{x:Rat}(h:Bz f g)(z:f x=0):g x≠0:=λy=>by
 obtain⟨u,v,_,_,e⟩:=h;have:=e x;rw[z,y] at this;grind
theorem yJ{g:Rat->Rat}:∀{l:List (aO×Nat)},(∀q∈l,q.1.ok/\1<=q.2)->l.Pairwise (λa b=>a.1≠b.1)->Py g->(∀q∈l,∃γ,Py γ /\ ∀x,g x=q.1.p x*γ x) -> ∃γ,Py γ /\ ∀x,g x=bJ l x*γ x
 | [],_,_,pg,_=>⟨g,pg,λx=>by show g x=1*g x;grind⟩
 | q::l,ok,un,pg,h=>by
  obtain⟨u1,u2⟩:=Y0.mp un;have okl:∀p∈l,p.1.ok/\1<=p.2:=λp hp=>ok p (Yd _ hp);obtain⟨γ2,p2,e2⟩:=yJ okl u2 pg λp hp=>h p (Yd _ hp);obtain⟨γ1,p1,e1⟩:=h q Ye;obtain⟨u,v,pu,pv,e⟩:=vK (ok q Ye).1 okl λp hp=>u1 p hp;refine⟨λx=>u x*γ2 x+v x*γ1 x,(pu.mul p2).add (pv.mul p1),λx=>?_⟩;have h1:=e x;have h2:=e1 x;have h3:=e2 x;show g x=q.1.p x*bJ l x*(u x*γ2 x+v x*γ1 x);have:g x=(u x*q.1.p x+v x*bJ l x)*g x:=by rw[h1];grind
  rw[this];generalize bJ l x=P at *
  generalize q.1.p x=p at *
  have h4:u x*p*g x=u x*p*(P*γ2 x):=by rw[<-h3]
  have h5:v x*P*g x=v x*P*(p*γ1 x):=by rw[<-h2]
  grind
theorem zH{x:Rat}(h:0<x):bj x=x*x/\bj (-x) = -(x*x):=by
 unfold bj;rw[Yc (show ¬ x<0 by grind),Yg (show -x<0 by grind)]
 exact⟨rfl,⋯⟩
theorem EH:∀l:List (aO×Nat),∃R:Rat,0<R /\ ∀R',R<=R' -> ∀q∈l,(∀r,q.1=.line r->Wi R' r) /\ ∀n,q.1=.root n->n+2<=R'
 | []=>⟨1,∅,λ_ _ _ h=>by cases h⟩
 | q::l=>by
  obtain⟨R,R0,h⟩:=EH l;obtain⟨S,S0,hS⟩ : ∃S:Rat,0<S/\(∀r,q.1=.line r->Sm S r) /\ ∀n,q.1=.root n->n+2<=S:=by
   cases e:q.1 with
   | line r =>
    obtain⟨t,t0,ht⟩:=ir.const (R:=0) r;exact⟨t,t0,λr' er=>by cases er;exact ht 0 (by unfold Wi;grind),λn en=>by cases en⟩
   | root n =>
    obtain⟨t,t0,ht⟩:=ir.const (R:=0) n;have ht:=ht 0 (by unfold Wi;grind)
    exact⟨t+2,⋯,λr er=>(by cases er),λn' en=>by cases en;unfold Sm at ht;grind⟩
   | none n=>exact⟨1,∅,λr er=>(by cases er),λn' en=>by cases en⟩
  refine⟨R+S,⋯,λR' hR p hp=>?_⟩;rcases Yh.mp hp with rfl|hp
  .refine⟨λr er=>?_,λn en=>?_⟩
   .have:=hS.1 r er;unfold Sm at this;unfold Wi;grind
   .have:=hS.2 n en;grind
  .exact h R' ⋯ p hp
theorem Dj{R:Rat}{g:Rat->Rat}{σ:Rat->Int}{q:aO×Nat}(R0:0<=R)(pg:Py g)(at_:∀x,sg (g x)=σ (bj x))(ok:q.1.ok/\1<=q.2)(hR:(∀r,q.1=.line r->Wi R r) /\ ∀n,q.1=.root n->n+2<=R)(bz:Bz q.1.p g)(ne:∀m∈q.1.mk,σ m≠0 /\ ∃e:Rat,0<e /\ ∀m',Sm e (m'-m)->σ m'=σ m):CI R (qK g σ q):=by
 obtain⟨q,m⟩:=q;have m0:=rY ok.2;have pd:Py λx=>((m:Nat):Rat)*q.d x*g x:=((q.pd.sc _).mul pg);cases q with
 | none n=>exact yy (R:=R) ok.1 pd
 | line r =>
  refine EB R0 (hR.1 r rfl) pd rfl λz=>?_;have z:((m:Nat):Rat)*1*g r=0:=z;have gr:g r=0:=by
   rcases YE.mp z with y|y
   .have:((m:Nat):Rat)≠0:=⋯;grind
   .exact y
  have a:=at_ r;rw[gr,iE] at a;exact (ne (bj r) Ye).1 a.symm
 | root n =>
  obtain⟨⟨n0,nn⟩,_⟩:=ok;have bzd:Bz (aO.root n).p λx=>((m:Nat):Rat)*(aO.root n).d x*g x:=by
   have:=(Bz.mul (aO.root n).pp (aO.root n).pd pg (aO.bzd (q:=.root n) ⟨n0,nn⟩) bz).sc (show ((m:Nat):Rat)≠0 by grind)
   exact this.congr (λ_=>rfl) λx=>by grind
  obtain⟨a,b,ha,hb,go,e,e0,near⟩:=FJ R0 n0 nn pd bzd;obtain⟨n1,e1,e10,k1⟩:=ne (-n) Ye;obtain⟨n2,e2,e20,k2⟩:=ne n (Yd _ Ye);obtain⟨ε,ε0,i1,i2,i3⟩:=ko e0 e10 e20;obtain⟨x,x0,xn,sx⟩:=Ad n0 ε0;have rn:=hR.2 n rfl;have wx:Wi R x:=by unfold Wi;grind
  have wm:Wi R (-x):=by unfold Wi;grind
  have g1:=near x wx (sx.mono i1);have g2:=near (-x) wm (by rw[show -x * -x=x*x by grind];exact sx.mono i1)
  rw[Yc (show ¬ x<0 by grind)] at g1
  rw[Yg (show -x<0 by grind)] at g2
  obtain⟨s1,s2⟩:=zH x0;have sb:b=σ n:=by
   rw[<-g1];show sg (((m:Nat):Rat)*(2*x)*g x)=σ n;rw[gm,cn (show 0<((m:Nat):Rat)*(2*x) from Yo m0 ⋯),YG,at_,s1]
   exact k2 _ (sx.mono i3)
  have sa : -a=σ (-n):=by
   rw[<-g2];show -sg (((m:Nat):Rat)*(2 * -x)*g (-x))=σ (-n);have neg:=Yo m0 (show 0<2*x by grind)
   rw[gm,dM (show ((m:Nat):Rat)*(2 * -x)<0 by grind),at_,s2]
   have:=k1 (-(x*x)) (by
    rw[show -(x*x) - -n = -(x*x-n) by grind]
    exact (sx.mono i2).neg)
   rw[this];nofun
  rw[sa,sb] at go;exact go
theorem sA{x:Rat}:∀{l:List (aO×Nat)},(∀q∈l,q.1.ok/\1<=q.2)->pX (l.map (qK (λ_=>1) (λ_=>1))) x=((iU l x:Nat):Int)
 | [],_=>rfl
 | q::l,h=>by
  show (qK (λ_=>1) (λ_=>1) q).A x+pX (l.map (qK (λ_=>1) (λ_=>1))) x=((q.1.A x+iU l x:Nat):Int);rw[sA λp hp=>h p (Yd _ hp)];have m0:=rY (h q Ye).2;have e:(qK (λ_=>1) (λ_=>1) q).A x=((q.1.A x:Nat):Int):=by
   obtain⟨q,m⟩:=q;cases q with
   | none n=>rfl
   | root n=>
    show (if x*x<n then (1:Int) else if x<0 then 0 else 1+1)=(((if x*x<n then 1 else if x<0 then 0 else 2):Nat):Int)
    split
    . rfl
    . split<;>rfl
   | line r=>
    show jx r (((m:Nat):Rat)*1*1) x=(((if r<=x then 1 else 0):Nat):Int)
    unfold jx;rw[Yg (show 0<((m:Nat):Rat)*1*1 by have m0:0<((m:Nat):Rat):=m0;grind)]
    split<;>rfl
  rw[e];omega
theorem uK{l:List (aO×Nat)}{f g:Rat->Rat}{κ:Rat}(ok:∀q∈l,q.1.ok/\1<=q.2)(un:l.Pairwise λa b=>a.1≠b.1)(lf:∀R:Rat,0<=R->vy R f)(lg:∀R:Rat,0<=R->vy R g)(nb:∀R:Rat,0<=R->cY R f g)(k0:0<κ)(id:∀x,κ*(g x*bJ l x)=f x*eH l x):∃R1:Rat,0<R1/\∀R,R1<=R->uZ R f g λx=>((iU l x:Nat):Int):=by
 obtain⟨R1,R10,hR1⟩:=EH l;refine⟨R1,R10,λR hR=>?_⟩;have R0:0<=R:=⋯;obtain⟨d,d0,hn⟩:=uz (l:=l.map (qK (λ_=>1) (λ_=>1))) R0 (λq hq=>by
  obtain⟨p,hp,rfl⟩:=YX.mp hq;exact Dj R0 (.const 1) (λx=>cn ∅) (ok p hp) (hR1 R hR p hp) (Bz.of (a:=λ_=>0) (b:=λ_=>1) (c:=1) (.const 0) (.const 1) ∅ λx=>by grind) λm hm=>⟨∅,1,∅,λ_ _=>rfl⟩) (by
  rw[List.pairwise_map];exact un.imp_of_mem λ{x y} hx hy n=>aO.apart R0 (ok x hx).1 (ok y hy).1 n) (lf R R0) (lg R R0) (nb R R0) k0 (λx=>by rw[ou,tQ,id x];grind)
 refine⟨d,d0,λa b wa wb ab n=>?_⟩;have q:=hn a b wa wb ab n;rw[sA ok,sA ok] at q;exact q
theorem vE{l:List (aO×Nat)}{h0 h1:List Int}{hs:List (List Int)}{κ:Rat}(ch:∀R:Rat,0<=R->Ch R (ao h0) (ao h1::hs.map ao))(ok:∀q∈l,q.1.ok/\1<=q.2)(un:l.Pairwise λa b=>a.1≠b.1)(k0:0<κ)(id:∀x,κ*(ao h1 x*bJ l x)=ao h0 x*eH l x)(nz0:∀F∈h0::h1::hs,F≠[]/\F.length<=20/\nz F (F.length-1)≠0) {lo hi:Option Rat}(lt:∀a b,lo=some a->hi=some b->a<=b):chg 0 (tq (-1) lo (h0::h1::hs))+Az l lo=chg 0 (tq 1 hi (h0::h1::hs))+vd l hi:=by
 obtain⟨R1,p1,f1⟩:=yv _ nz0;obtain⟨R2,p2,f2⟩:=rS l ok;obtain⟨R3,p3,f3⟩:=uK ok un (λR R0=>(ch R R0).lip) (λR R0=>(cz (nz0 h1 (by simp)).2.1).lip R0) (λR R0=>(ch R R0).notBoth _ _ rfl) k0 id
 obtain⟨A,A0,hA⟩:=ir.const (R:=0) (lo.getD 0);obtain⟨B,B0,hB⟩:=ir.const (R:=0) (hi.getD 0);have hA:=hA 0 (by unfold Wi;grind)
 have hB:=hB 0 (by unfold Wi;grind)
 obtain⟨R,hR⟩ : ∃R,R=R1+R2+R3+A+B:=⟨_,rfl⟩;have key:∀a b:Rat,Wi R a->Wi R b->a<=b->Vr a (ao h0::ao h1::hs.map ao)+iU l a=Vr b (ao h0::ao h1::hs.map ao)+iU l b:=λa b wa wb ab=>by
  have q:=(ch R ⋯).countsI (f3 R ⋯) wa wb ab;have q:((Vr a (ao h0::ao h1::hs.map ao):Nat):Int)+((iU l a:Nat):Int)=((Vr b (ao h0::ao h1::hs.map ao):Nat):Int)+((iU l b:Nat):Int):=q;omega
 obtain⟨q1,q2⟩:=f1 R ⋯;obtain⟨q3,q4⟩:=f2 R ⋯;have e1:∃a,Wi R a/\chg 0 (tq (-1) lo (h0::h1::hs))=Vr a (ao h0::ao h1::hs.map ao)/\Az l lo=iU l a/\(lo=none->a = -R) /\ ∀x,lo=some x->a=x:=by
  cases lo with
  | none=>exact⟨-R,by unfold Wi;grind,by show chg 0 (_)=chg 0 _;rw[show tq (-1) none (h0::h1::hs)=(h0::h1::hs).map (cI (-1)) from rfl,q2];rfl,q4.symm,λ_=>rfl,λx z=>by cases z⟩
  | some x=>exact⟨x,by have hA:Sm A x:=hA;unfold Sm at hA;unfold Wi;grind,rfl,rfl,(λz=>by cases z),(λy z=>by cases z;rfl)⟩
 have e2:∃b,Wi R b/\chg 0 (tq 1 hi (h0::h1::hs))=Vr b (ao h0::ao h1::hs.map ao)/\vd l hi=iU l b/\(hi=none->b=R) /\ ∀x,hi=some x->b=x:=by
  cases hi with
  | none=>exact⟨R,by unfold Wi;grind,by show chg 0 (_)=chg 0 _;rw[show tq 1 none (h0::h1::hs)=(h0::h1::hs).map (cI 1) from rfl,q1];rfl,q3.symm,λ_=>rfl,λx z=>by cases z⟩
  | some x=>exact⟨x,by have hB:Sm B x:=hB;unfold Sm at hB;unfold Wi;grind,rfl,rfl,(λz=>by cases z),(λy z=>by cases z;rfl)⟩
 obtain⟨a,wa,x1,x2,x3,x4⟩:=e1;obtain⟨b,wb,y1,y2,y3,y4⟩:=e2;rw[x1,x2,y1,y2];refine key a b wa wb ?_;cases lo with
 | none=>rw[x3 rfl];exact wb.1
 | some u =>
  cases hi with
  | none=>rw[y3 rfl];exact wa.2
  | some v=>rw[x4 u rfl,y4 v rfl];exact lt u v rfl rfl
theorem BH{fs:List (Int×Int)}{hs:List (List Int)}{l:List (aO×Nat)}{c:Rat}(h:CC fs hs)(all:∀x∈hs,x≠[]/\x.length<=20/\nz x (x.length-1)≠0)(ok:∀q∈l,q.1.ok/\1<=q.2)(un:l.Pairwise λa b=>a.1≠b.1)(dl:de l<=17)(d1:fs.length=de l+1)(e:∀x,EV (cf fs) x=c*iJ l x) {lo hi:Option Rat}(lt:∀a b,lo=some a->hi=some b->a<=b):chg 0 (tq (-1) lo hs)+Az l lo=chg 0 (tq 1 hi hs)+vd l hi:=by
 rcases h with ⟨f1,a,a0,rfl⟩|⟨h0,h1,tl,κ,rfl,ch,k0,id⟩
 .have l0:l=[]:=by
   cases l with
   | nil=>rfl
   | cons q l =>
    have h1:de (q::l)=q.2*q.1.deg+de l:=rfl;have h2:=(ok q Ye).2;have h3:1<=q.1.deg:=by cases q.1<;>simp[aO.deg]
    have:=Xf h2 h3;nofun
  subst l0;have e1:∀x,Az [] x=0:=λx=>by cases x<;>rfl
  have e2:∀x,vd [] x=0:=λx=>by cases x<;>rfl
  have one:∀s:Int,chg 0 [s]=0:=λs=>by
   by_cases z:s=0
   .rw[z,qw];rfl
   .rw[nA z];rfl
  have e3:∀(side:Int)(y:Option Rat),chg 0 (tq side y [[a]])=0:=λside y=>by
   cases y with
   | none=>exact one _
   | some x=>exact one _
  rw[e1,e2,e3,e3]
 .exact vE ch ok un k0 (id l c dl e) all lt
theorem Hw{l:List (aO×Nat)}{F h1:List Int}{c:Int}{g:Rat->Rat}{tl:List (Rat->Rat)}{κ ρ:Rat}(ch:∀R:Rat,0<=R->Ch R (ao (F++[c])) (g::tl))(lg:∀R:Rat,0<=R->vy R g)(ok:∀q∈l,q.1.ok/\1<=q.2)(un:l.Pairwise λa b=>a.1≠b.1)(k0:0<κ)(id:∀x,κ*(g x*bJ l x)=ao (F++[c]) x*eH l x)(lF:(F++[c]).length<=20)(ρ0:0<ρ)(c0:c≠0)(h:∀k,k<F.length->Sm (((c.natAbs:Int):Rat)*eD ρ (F.length-k)) ((nz F k:Int):Rat)):iU l (2*ρ)=vz l/\iU l (-(2*ρ))=0:=by
 obtain⟨R2,p2,f2⟩:=rS l ok;obtain⟨R3,p3,f3⟩:=uK ok un (λR R0=>(ch R R0).lip) lg (λR R0=>(ch R R0).notBoth g tl rfl) k0 id;obtain⟨R,hR⟩ : ∃R,R=R2+R3+2*ρ:=⟨_,rfl⟩;have R0:0<=R:=⋯;have nr:=f3 R ⋯;obtain⟨o1,o2⟩:=f2 R ⋯;have up:∀x,2*ρ<=x->sg (ao (F++[c]) x)=sg (c:Rat):=λx hx=>by
  rw[iP lF,(vg ρ0 hx (by unfold Sm;grind) (.inl ⋯) c0 h).1,gm,cn (fB (show 0<x by grind) F.length),XM]
 have dn:∀x,x <= -(2*ρ)->sg (ao (F++[c]) x)=sg (c:Rat)*sg (if F.length%2=0 then 1 else -1:Rat):=λx hx=>by
  rw[iP lF,(vg (y:=-x) ρ0 ⋯ (by unfold Sm;grind) (.inr ⋯) c0 h).1,gm,show eD x F.length=eD (- -x) F.length by rw[show - -x=x by grind],xX,gm,cn (fB (show 0 < -x by grind) F.length),XM]
 have a1:=nr.const (a:=2*ρ) (b:=R) (by unfold Wi;grind) (by unfold Wi;grind) ⋯ λx h1 _=>by rw[up x h1,up (2*ρ) ⋯]
 have a2:=nr.const (a:=-R) (b:=-(2*ρ)) (by unfold Wi;grind) (by unfold Wi;grind) ⋯ λx _ h1=>by rw[dn x h1,dn (-R) ⋯]
 have a1:((iU l (2*ρ):Nat):Int)=((iU l R:Nat):Int):=a1;have a2:((iU l (-R):Nat):Int)=((iU l (-(2*ρ)):Nat):Int):=a2;rw[o1] at a1;rw[o2] at a2;nofun
theorem HM{fs:List (Int×Int)}{hs:List (List Int)}{l:List (aO×Nat)}{c:Rat}{B:Nat}(h:CC fs hs)(all:∀x∈hs,x≠[]/\x.length<=20/\nz x (x.length-1)≠0)(ok:∀q∈l,q.1.ok/\1<=q.2)(un:l.Pairwise λa b=>a.1≠b.1)(dl:de l<=17)(d1:fs.length=de l+1)(e:∀x,EV (cf fs) x=c*iJ l x)(hm:∀m∈kZ l,∃q:Int×Int,m=wv q/\Fq q/\Bq B q):Jk hs (iU l) (λ_ _=>True) (vz l) B:=by
 have cnt:=λlo hi lt=>BH h all ok un dl d1 e (lo:=lo) (hi:=hi) lt;have ins:=λ(a b:Rat)(ab:a<=b)=>zZ (lo:=some a) (hi:=some b) ok un (mK ok un) (λv=>Iff.rfl) (λx y e1 e2=>by cases e1;cases e2;exact ab)
 refine⟨?_,λx=>?_,λE h0 tl hh rb=>?_,λM a b ha hb ab sm=>?_,λa b ab=>?_,?_,λ_=>trivial⟩
 .have:=cnt none none (λ_ _ z=>by cases z)
  exact this
 .have:=cnt none (some x) (λ_ _ z=>by cases z)
  exact this
 .rcases h with ⟨f1,a,a0,he⟩|⟨h0',h1,tl',κ,he,ch,k0,id⟩
  .have l0:=GZ ok (show de l=0 by nofun)
   subst l0;exact⟨rfl,rfl,trivial⟩
  .rw[he] at hh;cases hh;obtain⟨n0,n20,nz0⟩:=all h0 (by rw[he];simp)
   obtain⟨F,c',eF,ec,lF,nF⟩:=zY n0;have l1:h1.length<=20:=(all h1 (by rw[he];simp)).2.1
   have c0:c'≠0:=by rw[ec];exact nz0
   have hp:(0:Rat)<p2 E/2:=by have:=sr E;grind
   have ai:=Hw (l:=l) (F:=F) (h1:=h1) (c:=c') (g:=ao h1) (tl:=tl'.map ao) (κ:=κ) (ρ:=p2 E/2) (by rw[<-eF];exact ch) (λR R0=>(cz l1).lip R0) ok un k0 (by rw[<-eF];exact id l c dl e) (by rw[<-eF];exact n20) hp c0 (λk hk=>by
    rw[nF k hk,lF,ec];exact rb k ())
   rw[show 2*(p2 E/2)=p2 E by grind] at ai
   exact⟨ai.1,ai.2,trivial⟩
 .have i:=ins a b ab;have o:=BD (mK ok un) hm ha hb ab sm;have i:_+iU l a=iU l b:=i;nofun
 .have i:=ins a b ab;have i:_+iU l a=iU l b:=i;nofun
 .rcases h with ⟨f1,a,a0,he⟩|⟨h0',h1,tl',κ,he,ch,k0,id⟩
  .have l0:=GZ ok (show de l=0 by nofun)
   subst l0;exact .inl rfl
  .rw[he];exact .inr (by simp)
def Da(s:Int):List Int->List Int
 | s0::s1::r=>if s0=0 then (s1*s)::s1::r else s0::s1::r
 | l=>l
theorem zQ{W O P L:List Int}{rows:List (List Int×List Int×Int×Int)}{ks:List (List Int)}{g:Int}(rq:m7 W O rows)(o0:O≠[])(lW:W.length<=9)(lO:O.length<=W.length)(pz0:nz P (P.length-1)≠0)(lP:P.length<=9)(hL:(O::mr 1 1 rows).getLast? = some L)(g0:g≠0)(eL:∀k,nz L k=g*nz P k)(pt:wT P (W::O::mr 1 1 rows) ks):∃k0 k1 tl,ks=k0::k1::tl/\k0.length<=9/\k1.length<=9/\(∀x,ao W x=ao k0 x*ao P x)/\(∀x,ao O x=ao k1 x*ao P x)/\Py (ao P)/\(∃x,ao P x≠0) /\ ∀R:Rat,0<=R->Ch R (ao k0) (ao k1::tl.map ao):=by
 have hn:∀row∈rows,row.2.2.1≠0/\row.2.2.2≠0:=λrow h=>⟨(rq.ne row h).1,(rq.ne row h).2.1⟩;obtain⟨L',s,e,ps,hs',_⟩:=iu rows 1 1 O O hn (.inl rfl) (.inl rfl) (λk=>by rw[YG]) rfl
 rw[hL] at e;cases e;have s2:s*s=1:=by rcases ps with z|z<;>rw[z]<;>decide
 have el:∀k,nz (fM O rows) k=(s*g)*nz P k:=λk=>by
  have a:=hs' k;rw[eL k] at a;have:s*(g*nz P k)=s*(s*nz (fM O rows) k):=by rw[a]
  rw[<-YJ,<-YJ,s2,YG] at this;exact this.symm
 have pl:Py (ao P):=cz ();have l0:∃x,ao P x≠0:=Yt λz=>pz0 (by
  have:=lX (F:=P) (G:=[]) () (by simp) (λx=>by
   rw[lU];exact Yt λy=>z ⟨x,y⟩) (P.length-1)
  rw[this,aS (by simp)])
 cases pt with
 | @cons _ h0 _ _ a1 a2 a3 a4 pt =>
 cases pt with
 | @cons _ h1 _ tl b1 b2 b3 b4 pt =>
 have e0:∀x,ao W x=ao h0 x*ao P x:=jy () a4;have e1:∀x,ao O x=ao h1 x*ao P x:=jy () b4;have c1:((1:Int):Rat)=1:=rfl;exact⟨h0,h1,tl,rfl,a1,b1,e0,e1,pl,l0,λR R0=>rq.ch R0 pl l0 (a:=1) (b:=1) (g:=s*g) (.inl rfl) (.inl rfl) (YL (by rcases ps with z|z<;>nofun) g0) o0 lW lO a1 b1 (λx=>by rw[c1,Rat.one_mul];exact e0 x) (λx=>by rw[c1,Rat.one_mul];exact e1 x) (pt.hsOk lP) λx=>fS el x⟩
theorem Kr(κ ω s k0 k1 P PA PB SA SB g t:Rat)(s0:s≠0)(h0 h1 O:Rat)(eh:h0=k0*P)(eo:O=k1*P)(id:κ*(h1*(PA*PB))=h0*(SA*PB+PA*SB))(eO:ω*O=s*(h1*g)-t*h0):((κ*ω/s*(k1*(PA*PB)))-k0*(g*(SA*PB+PA*SB)-κ/s*t*(PA*PB)))*P=0:=by
 subst eh eo;have e1:s*(κ*ω/s)=κ*ω:=⋯;have e2:s*(κ/s)=κ:=⋯;generalize κ*ω/s=a at *
 generalize κ/s=b at *
 have z:s*(((a*(k1*(PA*PB)))-k0*(g*(SA*PB+PA*SB)-b*t*(PA*PB)))*P)=0:=by
  have h1':κ*(PA*PB)*(ω*(k1*P))=κ*(PA*PB)*(s*(h1*g)-t*(k0*P)):=by rw[eO]
  have h2':s*g*(κ*(h1*(PA*PB)))=s*g*(k0*P*(SA*PB+PA*SB)):=by rw[id]
  grind
 rcases YE.mp z with y|y
 .exact absurd y s0
 .exact y
theorem Kg(a k0 k1 PA PB SA SB g γ b t:Rat)(eg:g=PB*γ)(h:a*(k1*(PA*PB))=k0*(g*(SA*PB+PA*SB)-b*t*(PA*PB))):(a*(k1*PA)-k0*(g*SA+PA*(γ*SB-b*t)))*PB=0:=by
 grind
theorem tP{x:Rat}:∀l l':List (aO×Nat),bJ (l++l') x=bJ l x*bJ l' x
 | [],l'=>by show bJ l' x=1*bJ l' x;grind
 | q::l,l'=>by
  show q.1.p x*bJ (l++l') x=q.1.p x*bJ l x*bJ l' x;rw[tP l l'];grind
theorem yt{x:Rat}:∀l l':List (aO×Nat),eH (l++l') x=eH l x*bJ l' x+bJ l x*eH l' x
 | [],l'=>by show eH l' x=0*bJ l' x+1*eH l' x;grind
 | q::l,l'=>by
  show ((q.2:Nat):Rat)*q.1.d x*bJ (l++l') x+q.1.p x*eH (l++l') x=(((q.2:Nat):Rat)*q.1.d x*bJ l x+q.1.p x*eH l x)*bJ l' x+q.1.p x*bJ l x*eH l' x;rw[tP l l',yt l l'];grind
theorem vW{l:List (aO×Nat)}(ok:∀q∈l,q.1.ok/\1<=q.2)(un:l.Pairwise λa b=>a.1≠b.1):∃x,bJ l x≠0:=by
 have fin:∃x:Rat,∀q∈l,q.1 ≠ .line x:=by
  obtain⟨R,R0,h⟩:=EH l;refine⟨R+1,λq hq z=>?_⟩;have:=(h R ⋯ q hq).1 _ z;unfold Wi at this;grind
 obtain⟨x,hx⟩:=fin;refine⟨x,λz=>?_⟩;obtain⟨q,hq,e⟩:=lE ok z;exact hx q hq e
theorem zc{l:List (aO×Nat)}{σ:Rat->Int}{h0 h1 G O:List Int}{κ ω s:Rat}{t:Rat->Rat}{k0 k1 P:List Int}{tl:List (List Int)}(ok:∀q∈l,q.1.ok/\1<=q.2)(un:l.Pairwise λa b=>a.1≠b.1)(κ0:0<κ)(id:∀x,κ*(ao h1 x*bJ l x)=ao h0 x*eH l x)(so:Cj (ao G) l σ)(ω0:0<ω)(s0:0<s)(pt:Py t)(eO:∀x,ω*ao O x=s*(ao h1 x*ao G x)-t x*ao h0 x)(lk0:k0.length<=9)(lk1:k1.length<=9)(e0:∀x,ao h0 x=ao k0 x*ao P x)(e1:∀x,ao O x=ao k1 x*ao P x)(pP:Py (ao P))(nP:∃x,ao P x≠0)(ch:∀R:Rat,0<=R->Ch R (ao k0) (ao k1::tl.map ao)) {a b:Rat}(ab:a<=b)(hb:ao h0 b≠0):((chg 0 (Da (sg (ao G a)) (fK a ((k0::k1::tl).map ao))):Nat):Int)+kN σ l a=((chg 0 (fK b ((k0::k1::tl).map ao)):Nat):Int)+kN σ l b:=by
 obtain⟨dv,hdv⟩ : ∃dv:aO×Nat->Bool,∀q,dv q=true↔((∀m∈q.1.mk,σ m=0) /\ ∃γ,Py γ /\ ∀x,ao G x=q.1.p x*γ x):=⟨λq=>@decide ((∀m∈q.1.mk,σ m=0) /\ ∃γ,Py γ /\ ∀x,ao G x=q.1.p x*γ x) (Classical.propDecidable _),λq=>@decide_eq_true_iff _ (Classical.propDecidable _)⟩;obtain⟨l',hl'⟩ : ∃l',l'=l.filter λq=>!dv q:=⟨_,rfl⟩;obtain⟨l2,hl2⟩ : ∃l2,l2=l.filter dv:=⟨_,rfl⟩;have pm:l.Perm (l'++l2):=by
  rw[hl',hl2];have:=(List.filter_append_perm dv l).symm;exact this.trans List.perm_append_comm
 have in1:∀q∈l',q∈l/\Bz q.1.p (ao G) /\ ∀m∈q.1.mk,σ m≠0 /\ ∃e:Rat,0<e /\ ∀m',Sm e (m'-m)->σ m'=σ m:=λq hq=>by
  rw[hl'] at hq;obtain⟨h1,h2⟩:=Xe.mp hq;rcases so.two q h1 with z|z
  .rw[(hdv q).mpr z] at h2;cases h2
  .exact⟨h1,z⟩
 have in2:∀q∈l2,q∈l/\(∀m∈q.1.mk,σ m=0) /\ ∃γ,Py γ /\ ∀x,ao G x=q.1.p x*γ x:=λq hq=>by
  rw[hl2] at hq;obtain⟨h1,h2⟩:=Xe.mp hq;exact⟨h1,(hdv q).mp h2⟩
 have un2:l2.Pairwise λa b=>a.1≠b.1:=by rw[hl2];exact un.filter _
 have un1:l'.Pairwise λa b=>a.1≠b.1:=by rw[hl'];exact un.filter _
 have ok1:∀q∈l',q.1.ok/\1<=q.2:=λq hq=>ok q (in1 q hq).1;have ok2:∀q∈l2,q.1.ok/\1<=q.2:=λq hq=>ok q (in2 q hq).1;obtain⟨γ,pγ,eγ⟩:=yJ ok2 un2 so.py λq hq=>(in2 q hq).2.2;have pk0:Py (ao k0):=cz ();have pk1:Py (ao k1):=cz ();have sne:s≠0:=⋯;obtain⟨α,hα⟩ : ∃α,α=κ*ω/s:=⟨_,rfl⟩;have α0:0<α:=by
  rw[hα,YN s0];have:=Yo κ0 ω0;grind
 obtain⟨τ,hτ⟩ : ∃τ:Rat->Rat,∀x,τ x=γ x*eH l2 x-κ/s*t x:=⟨_,λ_=>rfl⟩;have pτ:Py τ:=((pγ.mul (gK l2)).sub (pt.sc (κ/s))).congr hτ;have i1:∀x,α*(ao k1 x*(bJ l' x*bJ l2 x))-ao k0 x*(ao G x*(eH l' x*bJ l2 x+bJ l' x*eH l2 x)-κ/s*t x*(bJ l' x*bJ l2 x))=0:=by
  refine Py.zero (f:=λx=>α*(ao k1 x*(bJ l' x*bJ l2 x))-ao k0 x*(ao G x*(eH l' x*bJ l2 x+bJ l' x*eH l2 x)-κ/s*t x*(bJ l' x*bJ l2 x))) ?_ pP (λx=>?_) nP
  .exact ((pk1.mul ((dB l').mul (dB l2))).sc α).sub (pk0.mul ((so.py.mul (((gK l').mul (dB l2)).add ((dB l').mul (gK l2)))).sub ((pt.sc (κ/s)).mul ((dB l').mul (dB l2)))))
  .rw[hα];refine Kr κ ω s (ao k0 x) (ao k1 x) (ao P x) (bJ l' x) (bJ l2 x) (eH l' x) (eH l2 x) (ao G x) (t x) sne (ao h0 x) (ao h1 x) (ao O x) (e0 x) (e1 x) ?_ (eO x);have:=id x;rw[md pm x,C7 pm x,tP,yt] at this;exact this
 have i2:∀x,α*(ao k1 x*bJ l' x)-ao k0 x*(ao G x*eH l' x+bJ l' x*τ x)=0:=by
  refine Py.zero (f:=λx=>α*(ao k1 x*bJ l' x)-ao k0 x*(ao G x*eH l' x+bJ l' x*τ x)) ?_ (dB l2) (λx=>?_) (vW ok2 un2)
  .exact ((pk1.mul (dB l')).sc α).sub (pk0.mul ((so.py.mul (gK l')).add ((dB l').mul pτ)))
  .rw[hτ];refine Kg α (ao k0 x) (ao k1 x) (bJ l' x) (bJ l2 x) (eH l' x) (eH l2 x) (ao G x) (γ x) (κ/s) (t x) (eγ x) ?_;have:=i1 x;grind
 obtain⟨R1,R10,hR1⟩:=EH l;obtain⟨ta,ta0,hta⟩:=ir.const (R:=0) a;obtain⟨tb,tb0,htb⟩:=ir.const (R:=0) b;have hta:Sm ta a:=hta 0 (by unfold Wi;grind)
 have htb:Sm tb b:=htb 0 (by unfold Wi;grind)
 obtain⟨R,hR⟩ : ∃R,R=R1+ta+tb:=⟨_,rfl⟩;have R0:0<=R:=⋯;have wa:Wi R a:=by unfold Sm at hta;unfold Wi;grind
 have wb:Wi R b:=by unfold Sm at htb;unfold Wi;grind
 obtain⟨L,hL⟩ : ∃L:List GF,L=⟨λx=>x*x+1,λx=>(x*x+1)*τ x,λ_=>0⟩::l'.map (qK (ao G) σ):=⟨_,rfl⟩;have okL:∀q∈L,CI R q:=λq hq=>by
  rw[hL] at hq;rcases Yh.mp hq with rfl|hq
  .exact yy ∅ (((Py.id.mul .id).add (.const 1)).mul pτ)
  .obtain⟨p,hp,rfl⟩:=YX.mp hq;obtain⟨m1,m2,m3⟩:=in1 p hp;exact Dj R0 so.py so.at_ (ok p m1) (hR1 R ⋯ p m1) m2 m3
 have unL:L.Pairwise λa b=>cY R a.p b.p:=by
  rw[hL];refine Y0.mpr ⟨λq hq=>ol (n:=1) ∅,?_⟩;rw[List.pairwise_map];exact un1.imp_of_mem λ{x y} hx hy n=>aO.apart R0 (ok1 x hx).1 (ok1 y hy).1 n
 have key:=(ch R R0).tarski R0 okL unL (pk1.lip R0) α0 (λx=>by
  rw[hL];show α*(ao k1 x*((x*x+1)*kT (l'.map (qK (ao G) σ)) x))=ao k0 x*((x*x+1)*τ x*kT (l'.map (qK (ao G) σ)) x+(x*x+1)*tZ (l'.map (qK (ao G) σ)) x);rw[ou,tQ];have:=i2 x;grind) wa wb ab
 have pa:∀x,pX L x=kN σ l x+kL σ l' x:=λx=>by
  rw[hL];show 0+pX (l'.map (qK (ao G) σ)) x=_;rw[xS so.at_ λq hq=>⟨(ok1 q hq).2,λm hm=>((in1 q hq).2.2 m hm).1⟩,CU pm,yE,lN (l:=l2) λq hq=>(in2 q hq).2.1];nofun
 rw[pa,pa] at key;have nb:∀x,ao k0 x=0->ao k1 x≠0:=λx z y=>by
  obtain⟨tx,tx0,htx⟩:=ir.const (R:=0) x;have htx:Sm tx x:=htx 0 (by unfold Wi;grind)
  obtain⟨e,e0',h⟩:=(ch tx ⋯).notBoth _ _ rfl;refine h x htx (by rw[z];unfold Sm;grind) (by rw[y];unfold Sm;grind)
 have z1:∀x,ao k0 x=0 -> ∃q∈l',q.1=.line x:=λx z=>by
  have:=i2 x;rw[z] at this;have:α*(ao k1 x*bJ l' x)=0:=⋯;rcases YE.mp this with y|y
  .grind
  rcases YE.mp y with y|y
  .exact absurd y (nb x z)
  .exact lE ok1 y
 have z2:∀x,(∃q∈l',q.1=.line x)->ao k0 x=0:=λx ⟨q,hq,e⟩=>by
  have p0:=ur ⟨q,hq,e⟩;have gz:ao G x≠0:=by
   have:=(in1 q hq).2.1;rw[e] at this;exact this.ne (show x-x=0 by grind)
  have sz:=(sF ok1 un1).ne p0;have:=i2 x;rw[p0] at this;have:ao k0 x*(ao G x*eH l' x)=0:=⋯;rcases YE.mp this with y|y
  .exact y
  rcases YE.mp y with y|y
  .exact absurd y gz
  .exact absurd y sz
 have kb:kL σ l' b=0:=yG λq hq e=>hb (by rw[e0 b,z2 b ⟨q,hq,e⟩];grind)
 rw[kb] at key;have key:((chg 0 (fK a ((k0::k1::tl).map ao)):Nat):Int)+(kN σ l a+kL σ l' a)=((chg 0 (fK b ((k0::k1::tl).map ao)):Nat):Int)+(kN σ l b+0):=key;show ((chg 0 (if sg (ao k0 a)=0 then (sg (ao k1 a)*sg (ao G a))::sg (ao k1 a)::fK a (tl.map ao) else sg (ao k0 a)::sg (ao k1 a)::fK a (tl.map ao)):Nat):Int)+_=_
 by_cases z:ao k0 a=0
 .have ek:=BF (σ:=σ) un1 (z1 a z);have s1:sg (ao k1 a)≠0:=λy=>nb a z (dJ.mp y);obtain⟨q,hq,e⟩:=z1 a z;have gz:ao G a≠0:=by
   have:=(in1 q hq).2.1;rw[e] at this;exact this.ne (show a-a=0 by grind)
  have s2:sg (ao G a)≠0:=λy=>gz (dJ.mp y);have es:=so.at_ a;rw[Yg (dJ.mpr z),nA (YL s1 s2),m9 s1];have ek2:((chg 0 (fK a ((k0::k1::tl).map ao)):Nat):Int)=((chg (sg (ao k1 a)) (fK a (tl.map ao)):Nat):Int):=by
   show ((chg 0 (sg (ao k0 a)::sg (ao k1 a)::fK a (tl.map ao)):Nat):Int)=_;rw[dJ.mpr z,qw,nA s1]
  rw[ek2,ek,<-es] at key;have c:(if sg (ao k1 a) = -(sg (ao k1 a)*sg (ao G a)) then 1 else 0:Nat)=(if sg (ao G a) = -1 then 1 else 0:Nat):=by
   rcases cA (ao k1 a) with y|y|y
   .exact absurd y s1
   .rcases cA (ao G a) with w|w|w
    .exact absurd w s2
    .rw[y,w];rfl
    .rw[y,w];rfl
   .rcases cA (ao G a) with w|w|w
    .exact absurd w s2
    .rw[y,w];rfl
    .rw[y,w];rfl
  rw[c];by_cases w:sg (ao G a) = -1
  .rw[Yg w] at key ⊢;nofun
  .rw[Yc w] at key ⊢;nofun
 .have ek:=yG (σ:=σ) (l:=l') (x:=a) λq hq e=>z (z2 a ⟨q,hq,e⟩);rw[Yc λy=>z (dJ.mp y)];rw[ek] at key;have key:((chg 0 (sg (ao k0 a)::sg (ao k1 a)::fK a (tl.map ao)):Nat):Int)+(kN σ l a+0)=((chg 0 (fK b ((k0::k1::tl).map ao)):Nat):Int)+(kN σ l b+0):=key;nofun
theorem Ab{l:List (aO×Nat)}{σ:Rat->Int}{h0 h1 G:List Int}{κ s c0:Rat}{t:Rat->Rat}(ok:∀q∈l,q.1.ok/\1<=q.2)(un:l.Pairwise λa b=>a.1≠b.1)(κ0:0<κ)(lh1:h1.length<=20)(n0:c0≠0)(eh:∀x,ao h0 x=c0*bJ l x)(id:∀x,κ*(ao h1 x*bJ l x)=ao h0 x*eH l x)(so:Cj (ao G) l σ)(s0:0<s)(pt:Py t)(eO:∀x,0=s*(ao h1 x*ao G x)-t x*ao h0 x):∀q∈l,∀m∈q.1.mk,σ m=0:=λq hq m hm=>by
 rcases so.two q hq with z|⟨bz,_⟩
 .exact z.1 m hm
 exfalso;obtain⟨l',pm⟩ : ∃l',l.Perm (q::l'):=by
  obtain⟨x,y,rfl⟩:=List.append_of_mem hq;exact⟨x++y,List.perm_middle⟩
 have e1:∀x,κ*ao h1 x-c0*eH l x=0:=by
  refine Py.zero (f:=λx=>κ*ao h1 x-c0*eH l x) (((cz lh1).sc κ).sub ((gK l).sc c0)) (dB l) (λx=>?_) (vW ok un);have:=id x;rw[eh x] at this;grind
 have bs:Bz q.1.p (eH l):=by
  obtain⟨u,v,pu,pv,e⟩:=sF ok un;refine⟨λx=>u x*bJ l' x,v,pu.mul (dB l'),pv,λx=>?_⟩;have:=e x;rw[md pm x] at this;have this:u x*(q.1.p x*bJ l' x)+v x*eH l x=1:=this;grind
 obtain⟨u,v,pu,pv,e⟩:=Bz.mul q.1.pp (gK l) so.py bs bz;have sne:s≠0:=⋯;obtain⟨w,w0,hw⟩:=oI (w:=q.1.p) (v:=λx=>u x+v x*(κ/s*t x*bJ l' x)) q.1.pp (pu.add (pv.mul ((pt.sc _).mul (dB l')))) (λx=>by
  have h1':=e x;have h2':=eO x;have h3:=e1 x;rw[eh x,md pm x] at h2';have h2':0=s*(ao h1 x*ao G x)-t x*(c0*(q.1.p x*bJ l' x)):=h2';have ks:s*(κ/s)=κ:=⋯;generalize κ/s=k at *
  have h4:c0*s*(eH l x*ao G x)=c0*s*(k*t x*(q.1.p x*bJ l' x)):=by
   have:c0*eH l x=κ*ao h1 x:=⋯;have h5:c0*s*(eH l x*ao G x)=s*ao G x*(c0*eH l x):=⋯;rw[h5,this];have h6:s*(ao h1 x*ao G x)=t x*(c0*(q.1.p x*bJ l' x)):=⋯;have h7:s*ao G x*(κ*ao h1 x)=κ*(s*(ao h1 x*ao G x)):=⋯;rw[h7,h6,<-ks];grind
  have cs:c0*s≠0:=λy=>by
   rcases YE.mp y with y|y
   .exact n0 y
   .exact sne y
  have h5:eH l x*ao G x=k*t x*(q.1.p x*bJ l' x):=by
   have:c0*s*(eH l x*ao G x-k*t x*(q.1.p x*bJ l' x))=0:=⋯;rcases YE.mp this with y|y
   .exact absurd y cs
   .grind
  have h1':u x*q.1.p x+v x*(eH l x*ao G x)=1:=h1';rw[h5] at h1';show q.1.p x*(u x+v x*(k*t x*bJ l' x))=1;grind)
 cases e2:q.1 with
 | line r =>
  rw[e2] at hw;have a1:r-r=w:=hw r;have a2:r+1-r=w:=hw (r+1);grind
 | root n =>
  rw[e2] at hw;have a1:(0:Rat)*0-n=w:=hw 0;have a2:(1:Rat)*1-n=w:=hw 1;grind
 | none n =>
  rw[e2] at hw;have a1:(0:Rat)*0+n=w:=hw 0;have a2:(1:Rat)*1+n=w:=hw 1;grind
def jH(m:Rat):Rat:=if m<0 then -m else m
def qe:aO->Rat->Int
 | .line r,m=>sg (m-bj r)
 | .root n,m=>sg (jH m-n)
 | .none _,_=>1
def oi(c:Int):List (aO×Nat)->Rat->Int
 | [],_=>c
 | q::l,m=>(qe q.1 m)^q.2*oi c l m
theorem ui(x:Rat):jH (bj x)=x*x:=by
 have:=jo x;unfold jH bj;by_cases z:x<0
 .rw[Yg z];split<;>grind
 .rw[Yc z];split<;>grind
theorem Kl{q:aO}(h:q.ok)(x:Rat):sg (q.p x)=qe q (bj x):=by
 cases q with
 | line r =>
  show sg (x-r)=sg (bj x-bj r);rcases bA (x-r) with ⟨z,e⟩|⟨z,e⟩|⟨z,e⟩
  .have:=sv (show r<x by grind)
   rw[e,cn ⋯]
  .have:=sv (show x<r by grind)
   rw[e,dM ⋯]
  .rw[e,show x=r by grind,show bj r-bj r=0 by grind,iE]
 | root n =>
  show sg (x*x-n)=sg (jH (bj x)-n);rw[ui]
 | none n =>
  have h:0<n:=h;have:=jo x;exact cn (show 0<x*x+n by grind)
theorem BC{y:Rat}:∀k,sg (eD y k)=(sg y)^k
 | 0=>(show sg (1:Rat)=1 from cn ∅).trans (XD _).symm
 | k+1=>by
  show sg (y*eD y k)=_;rw[gm,BC k,XE,Y2]
theorem Cz{c x:Rat}:∀{l:List (aO×Nat)},(∀q∈l,q.1.ok/\1<=q.2)->sg (c*iJ l x)=oi (sg c) l (bj x)
 | [],_=>by show sg (c*1)=sg c;rw[Rat.mul_one]
 | q::l,h=>by
  show sg (c*(eD (q.1.p x) q.2*iJ l x))=(qe q.1 (bj x))^q.2*oi (sg c) l (bj x);rw[<-Cz (c:=c) λp hp=>h p (Yd _ hp),<-Kl (h q Ye).1,<-BC,<-gm];congr 1
  grind
theorem Io{q:aO}{m:Rat}(h:q.ok)(hm:m∈q.mk):qe q m=0:=by
 cases q with
 | line r =>
  cases Yk.mp hm;show sg (bj r-bj r)=0;rw[show bj r-bj r=0 by grind,iE]
 | root n =>
  have n0:0<n:=h.1;show sg (jH m-n)=0;have:jH m=n:=by
   unfold jH;rcases Yh.mp hm with z|z
   .rw[z];split<;>grind
   .rw[Yk.mp z];split<;>grind
  rw[this,show n-n=0 by grind,iE]
 | none n=>cases hm
theorem zA{k:Nat}(h:1<=k):(0:Int)^k=0:=by
 obtain⟨j,rfl⟩ : ∃j,k=j+1:=⟨k-1,()⟩;rw[XE,Yz]
theorem yF{c:Int}{q:aO}{m:Rat}(h:q.ok)(hm:m∈q.mk):∀{l:List (aO×Nat)},(∀p∈l,p.1.ok/\1<=p.2)->(∃k,(q,k)∈l)->oi c l m=0
 | [],_,⟨_,z⟩=>by cases z
 | p::l,ok,⟨k,hk⟩=>by
  show (qe p.1 m)^p.2*oi c l m=0;rcases Yh.mp hk with z|z
  .rw[<-z,Io h hm];have:=(ok p Ye).2;rw[<-z] at this;rw[zA this,Int.zero_mul]
  .rw[yF h hm (λp' hp=>ok p' (Yd _ hp)) ⟨k,z⟩,Yz]
theorem yV{q p:aO}{m:Rat}(h:q.ok)(hp:p.ok)(n:q≠p)(hm:m∈q.mk):qe p m≠0:=by
 cases p with
 | none k=>exact Int.one_ne_zero
 | line s =>
  show sg (m-bj s)≠0;refine λz=>?_;have z:m=bj s:=by have:=dJ.mp z;grind
  cases q with
  | none k=>cases hm
  | line r =>
   have hm:=Yk.mp hm;have z:bj r=bj s:=hm.symm.trans z;refine n (X7 _ ?_);have:=jj.mp (show bj r<=bj s by grind)
   have:=jj.mp (show bj s<=bj r by grind)
   grind
  | root k =>
   refine h.2 s (wf ?_ h.1);rcases Yh.mp hm with y|y
   .exact .inr (z.symm.trans y)
   .exact .inl (z.symm.trans (Yk.mp y))
 | root k =>
  show sg (jH m-k)≠0;refine λz=>?_;have z:jH m=k:=by have:=dJ.mp z;grind
  cases q with
  | none j=>cases hm
  | line r =>
   rw[Yk.mp hm,ui] at z;exact hp.2 r z
  | root j =>
   have j0:0<j:=h.1;refine n (X7 _ ?_);rw[<-z];unfold jH;rcases Yh.mp hm with y|y
   .rw[y];split<;>grind
   .rw[Yk.mp y];split<;>grind
theorem w6{y:Rat}(h:sg y≠0):∃e:Rat,0<e /\ ∀y',Sm e (y'-y)->sg y'=sg y:=by
 rcases bA y with ⟨z,e⟩|⟨z,e⟩|⟨z,e⟩
 .exact⟨y/2,⋯,λy' s=>by unfold Sm at s;rw[e,cn ⋯]⟩
 .exact⟨-y/2,⋯,λy' s=>by unfold Sm at s;rw[e,dM ⋯]⟩
 .exact absurd e h
theorem A5{p:aO}{m:Rat}(h:qe p m≠0):∃e:Rat,0<e /\ ∀m',Sm e (m'-m)->qe p m'=qe p m:=by
 cases p with
 | none k=>exact⟨1,∅,λ_ _=>rfl⟩
 | line s =>
  obtain⟨e,e0,he⟩:=w6 h;exact⟨e,e0,λm' s'=>he _ (by rw[show m'-bj s-(m-bj s)=m'-m by grind];exact s')⟩
 | root k =>
  obtain⟨e,e0,he⟩:=w6 h;refine⟨e,e0,λm' s'=>he _ ?_⟩;rw[show jH m'-k-(jH m-k)=jH m'-jH m by grind]
  unfold Sm at s' ⊢;unfold jH;by_cases y:m<0<;>by_cases w:m'<0
  .rw[Yg y,Yg w];grind
  .rw[Yg y,Yc w];grind
  .rw[Yc y,Yg w];grind
  .rw[Yc y,Yc w];grind
theorem Fc{x:Int}(h:x≠0):∀k:Nat,x^k≠0:=λk=>Xk h
theorem ud{c:Int}{m:Rat}(c0:c≠0):∀{l:List (aO×Nat)},(∀p∈l,qe p.1 m≠0)->oi c l m≠0 /\ ∃e:Rat,0<e /\ ∀m',Sm e (m'-m)->oi c l m'=oi c l m
 | [],_=>⟨c0,1,∅,λ_ _=>rfl⟩
 | p::l,h=>by
  obtain⟨a,e,e0,he⟩:=ud c0 λp' hp=>h p' (Yd _ hp);obtain⟨e',e0',he'⟩:=A5 (h p Ye);obtain⟨d,d0,d1,d2,_⟩:=ko e0 e0' e0;refine⟨YL (Fc (h p Ye) _) a,d,d0,λm' s=>?_⟩;show (qe p.1 m')^p.2*oi c l m'=(qe p.1 m)^p.2*oi c l m;rw[he m' (s.mono d1),he' m' (s.mono d2)]
theorem mZ{f:Rat->Rat}(h:Py f):∀k,Py λx=>eD (f x) k
 | 0=>.const 1
 | k+1=>(h.mul (mZ h k)).congr λ_=>rfl
theorem sS:∀l:List (aO×Nat),Py (iJ l)
 | []=>(Py.const 1).congr λ_=>rfl
 | q::l=>((mZ q.1.pp q.2).mul (sS l)).congr λ_=>rfl
theorem Bz.one{f:Rat->Rat}:Bz f λ_=>1:=Bz.of (a:=λ_=>0) (b:=λ_=>1) (c:=1) (.const 0) (.const 1) ∅ λx=>by show 0*f x+1*1=(1:Rat);grind
theorem Bz.pw{f g:Rat->Rat}(pf:Py f)(pg:Py g)(h:Bz f g):∀k,Bz f λx=>eD (g x) k
 | 0=>Bz.one
 | k+1=>(Bz.mul pf pg (mZ pg k) h (Bz.pw pf pg h k)).congr (λ_=>rfl) λ_=>rfl
theorem AO{q:aO}(h:q.ok):∀{l:List (aO×Nat)},(∀p∈l,p.1.ok/\1<=p.2)->(∀p∈l,q≠p.1)->Bz q.p (iJ l)
 | [],_,_=>Bz.one.congr (λ_=>rfl) λ_=>rfl
 | p::l,ok,n=>(Bz.mul q.pp (mZ p.1.pp p.2) (sS l) (Bz.pw q.pp p.1.pp (aO.bz h (ok p Ye).1 (n p Ye)) p.2) (AO h (λp' hp=>ok p' (Yd _ hp)) λp' hp=>n p' (Yd _ hp))).congr (λ_=>rfl) λ_=>rfl
theorem AK{q:aO}:∀{l:List (aO×Nat)},(∀p∈l,p.1.ok/\1<=p.2)->(∃k,(q,k)∈l) -> ∃γ,Py γ /\ ∀x,iJ l x=q.p x*γ x
 | [],_,⟨_,z⟩=>by cases z
 | p::l,ok,⟨k,hk⟩=>by
  rcases Yh.mp hk with z|z
  .have k1:1<=k:=by have:=(ok p Ye).2;rw[<-z] at this;exact this
   obtain⟨j,rfl⟩ : ∃j,k=j+1:=⟨k-1,()⟩;refine⟨λx=>eD (q.p x) j*iJ l x,(mZ q.pp j).mul (sS l),λx=>?_⟩;rw[<-z];show q.p x*eD (q.p x) j*iJ l x=_;grind
  .obtain⟨γ,pγ,e⟩:=AK (λp' hp=>ok p' (Yd _ hp)) ⟨k,z⟩;refine⟨λx=>eD (p.1.p x) p.2*γ x,(mZ p.1.pp p.2).mul pγ,λx=>?_⟩;show eD (p.1.p x) p.2*iJ l x=_;rw[e x];grind
theorem AL{g:Rat->Rat}{l lg:List (aO×Nat)}{c:Rat}(c0:c≠0)(ok:∀q∈l,q.1.ok/\1<=q.2)(okg:∀q∈lg,q.1.ok/\1<=q.2)(e:∀x,g x=c*iJ lg x):Cj g l (oi (sg c) lg):=by
 have pg:Py g:=((sS lg).sc c).congr e;refine⟨pg,λx=>by rw[e,Cz okg],λq hq=>?_⟩
 by_cases ex:∃k,(q.1,k)∈lg
 .left
  refine⟨λm hm=>yF (ok q hq).1 hm okg ex,?_⟩;obtain⟨γ,pγ,eγ⟩:=AK okg ex;exact⟨λx=>c*γ x,pγ.sc c,λx=>by rw[e,eγ];grind⟩
 .right
  have ne:∀p∈lg,q.1≠p.1:=λp hp z=>ex ⟨p.2,by rw[z];exact hp⟩
  refine⟨(Bz.sc c0 (AO (ok q hq).1 okg ne)).congr (λ_=>rfl) e,λm hm=>?_⟩;exact ud (λz=>c0 (dJ.mp z)) λp hp=>yV (ok q hq).1 (okg p hp).1 (ne p hp) hm
def t6(A:Nat)(F:List Int):Prop:=∀y∈F,y.natAbs<=A
def je:List Int->List Int->List Int
 | [],G=>G
 | F,[]=>F
 | a::F,b::G=>(a+b)::je F G
theorem gx{x:Rat}:∀F G:List Int,iL (je F G) x=iL F x+iL G x
 | [],G=>by show iL G x=0+iL G x;grind
 | a::F,[]=>by show iL (a::F) x=iL (a::F) x+0;grind
 | a::F,b::G=>by
  show ((a+b:Int):Rat)+x*iL (je F G) x=((a:Int):Rat)+x*iL F x+(((b:Int):Rat)+x*iL G x);rw[gx F G,Xp];grind
theorem uj:∀F G:List Int,(je F G).length<=max F.length G.length
 | [],G=>by show G.length<=_;nofun
 | a::F,[]=>by show (a::F).length<=_;nofun
 | a::F,b::G=>by
  have:=uj F G;show (je F G).length+1<=max (F.length+1) (G.length+1);nofun
theorem oo{A B:Nat}:∀F G:List Int,t6 A F->t6 B G->t6 (A+B) (je F G)
 | [],G,_,h=>λy hy=>by have:=h y hy;nofun
 | a::F,[],h,_=>λy hy=>by have:=h y hy;nofun
 | a::F,b::G,h,k=>λy hy=>by
  rcases Yh.mp hy with rfl|hy
  .have h1:=h a Ye;have h2:=k b Ye;nofun
  .exact oo F G (λz hz=>h z (Yd _ hz)) (λz hz=>k z (Yd _ hz)) y hy
def fX(c:Int)(F:List Int):List Int:=F.map λy=>c*y
theorem cN{c:Int}{x:Rat}:∀F:List Int,iL (fX c F) x=(c:Rat)*iL F x
 | []=>by show (0:Rat)=(c:Rat)*0;grind
 | a::F=>by
  show ((c*a:Int):Rat)+x*iL (fX c F) x=(c:Rat)*(((a:Int):Rat)+x*iL F x);rw[cN F,Yi];grind
theorem dP{A B:Nat}{c:Int}{F:List Int}(hc:c.natAbs<=B)(h:t6 A F):t6 (B*A) (fX c F):=λy hy=>by
 obtain⟨z,hz,rfl⟩:=YX.mp hy;rw[YI];exact Xf hc (h z hz)
theorem gG{F:List Int}{x:Rat}:iL (0::F) x=x*iL F x:=by
 show ((0:Int):Rat)+x*iL F x=_;rw[show ((0:Int):Rat)=0 from rfl]
 grind
theorem gJ{A:Nat}{F:List Int}(h:t6 A F):t6 A (0::F):=λy hy=>by
 rcases Yh.mp hy with rfl|hy
 .exact Y3 _
 .exact h y hy
def aO.num:aO->Rat
 | .line r=>r
 | .root n=>n
 | .none n=>n
inductive LB:List (aO×Nat)->Nat->Prop
 | nil:LB [] 0
 | cons {q:aO}{m:Nat}{l:List (aO×Nat)}{a b:Nat}{ν:Int×Int}:q.num=wv ν->Fq ν->Bq b ν->LB l a->LB ((q,m)::l) (a+(b+2))
theorem LB.perm{l l':List (aO×Nat)}(p:l.Perm l'):∀{a},LB l a->LB l' a:=by
 induction p with
 | nil=>exact λh=>h
 | cons q _ ih =>
  intro a h;cases h with
  | cons e f b t=>exact .cons e f b (ih t)
 | swap q r l =>
  intro a h;cases h with
  | @cons _ m1 _ a1 b1 _ e f b t =>
   cases t with
   | @cons _ m2 _ a2 b2 _ e' f' b' t' =>
    have:=LB.cons (m:=m2) e' f' b' (LB.cons (m:=m1) e f b t');rw[show a2+(b2+2)+(b1+2)=a2+(b1+2)+(b2+2) by nofun]
    exact this
 | trans _ _ h1 h2=>exact λh=>h2 (h1 h)
def nM:List (aO×Nat)->Nat
 | []=>0
 | q::l=>q.1.deg+nM l
theorem Dn(a b:Nat):2^(a+(b+2))=4*(2^b*2^a):=by
 rw[XR,XR,X3 (2^b) (2^2),Nat.mul_left_comm,X3 (2^a)]
theorem El{ν:Int×Int}(h:Fq ν):((ν.2:Int):Rat)*wv ν=((ν.1:Int):Rat):=by
 have:((ν.2:Int):Rat)≠0:=aC h.ne;unfold wv;grind
theorem LB.lists{l:List (aO×Nat)}{a:Nat}(h:LB l a)(hm:∀q∈l,q.2<=32):∃(D:Int)(Zp Zs:List Int),D≠0/\(∀x,iL Zp x=(D:Rat)*bJ l x)/\(∀x,iL Zs x=(D:Rat)*eH l x)/\t6 (2^a) Zp/\t6 (64*2^a) Zs/\Zp.length<=nM l+1/\Zs.length<=nM l+1:=by
 induction h with
 | nil=>exact⟨1,[1],[],∅,λx=>by show ((1:Int):Rat)+x*0=((1:Int):Rat)*1;grind,λx=>by show (0:Rat)=((1:Int):Rat)*0;grind,λy hy=>(by cases Yk.mp hy;decide),λy hy=>(by cases hy),by simp[nM],by simp⟩
 | @cons q m l a b ν e f bq t ih =>
  obtain⟨D,Zp,Zs,D0,e1,e2,n1,n2,l1,l2⟩:=ih λp hp=>hm p (Yd _ hp);have m32:m<=32:=hm (q,m) Ye;obtain⟨u,v⟩:=ν;have wn:=El f;have v0:v≠0:=f.ne;have hu:u.natAbs<=2^b:=X2 bq.1;have hv:v.natAbs<=2^b:=X2 bq.2;have wn:((v:Int):Rat)*q.num=((u:Int):Rat):=by rw[e];exact wn
  have hn:(-u).natAbs<=2^b:=();have h2:((2*(m:Int))*v).natAbs<=64*2^b:=by
   rw[YI];exact Xf () hv
  have h1:((m:Int)*v).natAbs<=64*2^b:=by
   rw[YI];exact Xf () hv
  have mc:(((m:Int):Int):Rat)=((m:Nat):Rat):=rfl;have c2:((2:Int):Rat)=2:=rfl;have bnd:∀{F G:List Int},t6 (2^b*2^a) F->t6 (2^b*2^a) G->t6 (2^(a+(b+2))) (je F G):=λ{F G} hF hG y hy=>by
   have:=oo F G hF hG y hy;rw[Dn];nofun
  have bnd2:∀{E F G:List Int},t6 (64*2^b*2^a) E->t6 (2^b*(64*2^a)) F->t6 (2^b*(64*2^a)) G->t6 (64*2^(a+(b+2))) (je E (je F G)):=λ{E F G} hE hF hG y hy=>by
   have:=oo E _ hE (oo F G hF hG) y hy;rw[Dn];have k1:64*2^b*2^a=64*(2^b*2^a):=Nat.mul_assoc _ _ _;have k2:2^b*(64*2^a)=64*(2^b*2^a):=Nat.mul_left_comm _ _ _;rw[k1,k2] at this;nofun
  have Dv:D*v≠0:=YL D0 v0;have dc:((D*v:Int):Rat)=(D:Rat)*(v:Rat):=Yi ..;have shl:∀(F G:List Int)(n:Nat),F.length<=n->G.length<=n->(je F G).length<=n:=λF G n x y=>by
   have:=uj F G;nofun
  have slen:∀(c:Int)(F:List Int),(fX c F).length=F.length:=λc F=>Yb _;have i1:=e1;cases q with
  | line r =>
   have wn:((v:Int):Rat)*r=((u:Int):Rat):=wn;refine⟨D*v,je (fX (-u) Zp) (0::fX v Zp),je (fX ((m:Int)*v) Zp) (je (fX (-u) Zs) (0::fX v Zs)),Dv,λx=>?_,λx=>?_,bnd (dP hn n1) (gJ (dP hv n1)),bnd2 (dP h1 n1) (dP hn n2) (gJ (dP hv n2)),shl _ _ _ ?_ ?_,shl _ _ _ ?_ (shl _ _ _ ?_ ?_)⟩
   .rw[gx,gG,cN,cN,e1,dc,Xi,<-wn];show _=(D:Rat)*(v:Rat)*((x-r)*bJ l x);grind
   .rw[gx,gx,gG,cN,cN,cN,e1,e2,dc,Xi,Yi,mc,<-wn];show _=(D:Rat)*(v:Rat)*(((m:Nat):Rat)*1*bJ l x+(x-r)*eH l x);grind
   all_goals
    simp only[YC,slen];show _<=1+nM l+1;nofun
  | root n =>
   have wn:((v:Int):Rat)*n=((u:Int):Rat):=wn;refine⟨D*v,je (fX (-u) Zp) (0::0::fX v Zp),je (0::fX ((2*(m:Int))*v) Zp) (je (fX (-u) Zs) (0::0::fX v Zs)),Dv,λx=>?_,λx=>?_,bnd (dP hn n1) (gJ (gJ (dP hv n1))),bnd2 (gJ (dP h2 n1)) (dP hn n2) (gJ (gJ (dP hv n2))),shl _ _ _ ?_ ?_,shl _ _ _ ?_ (shl _ _ _ ?_ ?_)⟩
   .rw[gx,gG,gG,cN,cN,e1,dc,Xi,<-wn];show _=(D:Rat)*(v:Rat)*((x*x-n)*bJ l x);grind
   .rw[gx,gx,gG,gG,gG,cN,cN,cN,e1,e2,dc,Xi,Yi,Yi,mc,c2,<-wn];show _=(D:Rat)*(v:Rat)*(((m:Nat):Rat)*(2*x)*bJ l x+(x*x-n)*eH l x);grind
   all_goals
    simp only[YC,slen];show _<=2+nM l+1;nofun
  | none n =>
   have wn:((v:Int):Rat)*n=((u:Int):Rat):=wn;refine⟨D*v,je (fX u Zp) (0::0::fX v Zp),je (0::fX ((2*(m:Int))*v) Zp) (je (fX u Zs) (0::0::fX v Zs)),Dv,λx=>?_,λx=>?_,bnd (dP hu n1) (gJ (gJ (dP hv n1))),bnd2 (gJ (dP h2 n1)) (dP hu n2) (gJ (gJ (dP hv n2))),shl _ _ _ ?_ ?_,shl _ _ _ ?_ (shl _ _ _ ?_ ?_)⟩
   .rw[gx,gG,gG,cN,cN,e1,dc,<-wn];show _=(D:Rat)*(v:Rat)*((x*x+n)*bJ l x);grind
   .rw[gx,gx,gG,gG,gG,cN,cN,cN,e1,e2,dc,Yi,Yi,mc,c2,<-wn];show _=(D:Rat)*(v:Rat)*(((m:Nat):Rat)*(2*x)*bJ l x+(x*x+n)*eH l x);grind
   all_goals
    simp only[YC,slen];show _<=2+nM l+1;nofun
theorem xm{h Z:List Int}{c:Rat}{A:Nat}(hp:jO (nz h))(lh:h.length<=20)(lZ:Z.length<=20)(c0:c≠0)(e:∀x,iL Z x=c*ao h x)(n:t6 A Z):t6 A h/\(nz h (h.length-1)≠0->h.length<=Z.length):=by
 have e1:∀k,((nz Z k:Int):Rat)*((c.den:Int):Rat)=((c.num:Int):Rat)*((nz h k:Int):Rat):=by
  have d0:((c.den:Int):Rat)≠0:=aC (by have:=c.den_pos;nofun)
  have ec:((c.num:Int):Rat)=c*((c.den:Int):Rat):=by
   have:=Rat.num_divInt_den c;rw[Rat.divInt_eq_div] at this;have z:(c.num:Rat)/((c.den:Int):Rat)=c:=this;grind
  intro k;have i:=lX (F:=fX (c.den:Int) Z) (G:=fX c.num h) (by unfold fX;rw[Yb];exact lZ) (by unfold fX;rw[Yb];exact lh) (λx=>by
   rw[iP (F:=fX (c.den:Int) Z) (by unfold fX;rw[Yb];exact lZ),cN,e x,iP (F:=fX c.num h) (by unfold fX;rw[Yb];exact lh),cN,<-iP lh,ec]
   grind) k
  unfold fX at i;rw[cW,cW] at i;rw[<-Yi,<-Yi,Y2,i]
 have e2:∀k,nz Z k*(c.den:Int)=c.num*nz h k:=λk=>by
  have:=e1 k;rw[<-Yi,<-Yi] at this;exact Xa.mp this
 have co:Nat.Coprime c.den c.num.natAbs:=c.reduced.symm;have d1:∀k,(c.den:Int)∣nz h k:=λk=>by
  have:c.den∣c.num.natAbs*(nz h k).natAbs:=by
   rw[<-YI,<-e2 k,YI,XN];exact Nat.dvd_mul_left _ _
  have:=co.dvd_of_dvd_mul_left this;exact Int.ofNat_dvd_left.mpr this
 have one:c.den=1:=by
  have:=hp _ d1
  rwa [XN] at this
 have u0:c.num≠0:=λz=>c0 (Rat.num_eq_zero.mp z);refine⟨λy hy=>?_,λhz=>Nat.le_of_not_lt λlt=>?_⟩
 rotate_left
 .have:=e2 (h.length-1);rw[aS (ns:=Z) (),Int.zero_mul] at this;exact YL u0 hz this.symm
 obtain⟨k,hk⟩:=Xy hy;have:=e2 k;rw[one,aZ hk] at this;have this:nz Z k=c.num*y:=();have zk:(nz Z k).natAbs<=A:=by
  by_cases q:k<Z.length
  .rw[aZ (Ya q)];exact n _ (Yp q)
  .rw[aS ()];exact Y3 _
 rw[this,YI] at zk;have:1*y.natAbs<=c.num.natAbs*y.natAbs:=Xg _ ();nofun
theorem CM{c p:Nat->Int}{q:Int}(h:∀k,q∣c k)(k:Nat):∀n,q∣pz c p n k
 | 0=>⟨0,by show (0:Int)=q*0;nofun⟩
 | n+1=>by
  show q∣pz c p n k+(if n<=k then c n*p (k-n) else 0)
  refine Int.dvd_add (CM h k n) ?_;split
  .exact Int.dvd_mul_of_dvd_left (h n)
  .exact⟨0,()⟩
theorem jO.left{W h P:List Int}(hp:jO (nz W))(e:∀k,nz W k=pz (nz h) (nz P) h.length k):jO (nz h):=λq hq=>hp q λk=>by
 rw[e];exact CM hq k _
theorem rF:∀xs:List ((aO×Nat)×Nat),(∀x∈xs,x.1.1.ok/\1<=x.1.2 /\ ∃ν,x.1.1.num=wv ν/\Fq ν/\Bq x.2 ν) -> ∃l:List (aO×Nat),(∀q∈l,q.1.ok/\1<=q.2)/\l.Pairwise (λa b=>a.1≠b.1)/\(∀x,iJ (xs.map (·.1)) x=iJ l x)/\de l=de (xs.map (·.1))/\(∀f,(∃m,(f,m)∈l) ↔ ∃m,(f,m)∈xs.map (·.1))/\l.length<=xs.length /\ ∃a,LB l a/\a<=(xs.map λx=>x.2+2).sum
 | [],_=>⟨[],by simp,.nil,λ_=>rfl,rfl,λf=>by simp,Yn _,0,.nil,by simp⟩
 | q::es,h=>by
  obtain⟨l,ok,un,e,d,m,ll,a,lb,la⟩:=rF es λp hp=>h p (Yd _ hp);obtain⟨⟨q,n0⟩,b⟩:=q;obtain⟨hq1,hq2,ν,hν,fν,bν⟩:=h _ Ye;have sm:((((q,n0),b)::es).map λx:(aO×Nat)×Nat=>x.2+2).sum=(b+2)+(es.map λx=>x.2+2).sum:=by simp
  by_cases ex:∃n,(q,n)∈l
  .obtain⟨n,hn⟩:=ex;obtain⟨l',p⟩ : ∃l',l.Perm ((q,n)::l'):=by
    obtain⟨s,t,rfl⟩:=List.append_of_mem hn;exact⟨s++t,List.perm_middle⟩
   have un':=(p.pairwise_iff (λh=>Ne.symm h)).mp un;obtain⟨u1,u2⟩:=Y0.mp un';have lb':=lb.perm p;refine⟨(q,n0+n)::l',λp' hp=>?_,Y0.mpr ⟨u1,u2⟩,λx=>?_,?_,λf=>?_,?_,a,?_,()⟩
   .rcases Yh.mp hp with rfl|z
    .exact⟨hq1,by have hq2:1<=n0:=hq2;show 1<=n0+n;nofun⟩
    .exact ok p' (p.mem_iff.mpr (Yd _ z))
   .show eD (q.p x) n0*iJ (es.map (·.1)) x=eD (q.p x) (n0+n)*iJ l' x;rw[e,CB p,yQ];show _*(eD (q.p x) n*iJ l' x)=_;grind
   .have:=zK p;have z:de l=n*q.deg+de l':=this;show (n0+n)*q.deg+de l'=n0*q.deg+de (es.map (·.1));rw[X0];nofun
   .refine⟨λ⟨k,hk⟩=>?_,λ⟨k,hk⟩=>?_⟩
    .rcases Yh.mp hk with z|z
     .cases z;exact⟨n0,Ye⟩
     .obtain⟨k',hk'⟩:=(m f).mp ⟨k,p.mem_iff.mpr (Yd _ z)⟩;exact⟨k',Yd _ hk'⟩
    .have z:f=q \/ ∃k,(f,k)∈l:=by
      rcases Yh.mp hk with z|z
      .cases z;exact .inl rfl
      .exact .inr ((m f).mpr ⟨k,z⟩)
     rcases z with rfl|⟨k',hk'⟩
     .exact⟨_,Ye⟩
     .rcases Yh.mp (p.mem_iff.mp hk') with y|y
      .cases y;exact⟨_,Ye⟩
      .exact⟨k',Yd _ y⟩
   .have:=p.length_eq;simp at this ⊢;nofun
   .cases lb' with
    | cons e f b t=>exact .cons e f b t
  .refine⟨(q,n0)::l,λp' hp=>?_,Y0.mpr ⟨λp' hp z=>ex ⟨p'.2,by have z:q=p'.1:=z;rw[z];exact hp⟩,un⟩,λx=>?_,?_,λf=>?_,by simp;nofun,a+(b+2),.cons hν fν bν lb,()⟩
   .rcases Yh.mp hp with rfl|z
    .exact⟨hq1,hq2⟩
    .exact ok p' z
   .show _*iJ (es.map (·.1)) x=_*iJ l x;rw[e]
   .show _+de l=_+de (es.map (·.1));rw[d]
   .refine⟨λ⟨k,hk⟩=>?_,λ⟨k,hk⟩=>?_⟩
    .rcases Yh.mp hk with z|z
     .exact⟨k,z▸Ye⟩
     .obtain⟨k',hk'⟩:=(m f).mp ⟨k,z⟩;exact⟨k',Yd _ hk'⟩
    .rcases Yh.mp hk with z|z
     .exact⟨k,z▸Ye⟩
     .obtain⟨k',hk'⟩:=(m f).mpr ⟨k,z⟩;exact⟨k',Yd _ hk'⟩
theorem xz:∀{l:List (aO×Nat)},(∀q∈l,q.1.ok/\1<=q.2)->nM l<=de l /\ ∀q∈l,q.2<=de l
 | [],_=>⟨Yn _,λ_ h=>by cases h⟩
 | q::l,h=>by
  obtain⟨i1,i2⟩:=xz λp hp=>h p (Yd _ hp);have h1:=(h q Ye).2;have h3:1<=q.1.deg:=by cases q.1<;>simp[aO.deg]
  have m1:=Xg q.1.deg h1;have m2:=Y9 q.2 h3;have e:de (q::l)=q.2*q.1.deg+de l:=rfl;have e2:nM (q::l)=q.1.deg+nM l:=rfl;refine⟨(),λp hp=>?_⟩;rcases Yh.mp hp with rfl|hp
  .nofun
  .have:=i2 p hp;nofun
theorem uL:∀l:List (aO×Nat),nM l<=2*l.length
 | []=>Yn _
 | q::l=>by
  have:=uL l;have h3:q.1.deg<=2:=by cases q.1<;>simp[aO.deg]
  show q.1.deg+nM l<=2*(l.length+1);nofun
end L2
set_option maxHeartbeats 2000000
namespace L2
open PySem PySem.Spec PyProof.Rows
theorem tO{F h P:List Int}(f0:nz F (F.length-1)≠0)(h0:nz h (h.length-1)≠0)(p0:nz P (P.length-1)≠0)(e:∀k,nz F k=pz (nz h) (nz P) h.length k):F.length+1=h.length+P.length:=by
 have np:∀{L:List Int},nz L (L.length-1)≠0->0<L.length:=λ{L} z=>Nat.pos_of_ne_zero λy=>z (aS ());have lh:=np h0;have lp:=np p0;have lf:=np f0;have er:∀k,((nz F k:Int):Rat)=pr (fO h) (fO P) h.length k:=λk=>by
  rw[e,iQ];rfl
 have hi:∀k,h.length+P.length<=k+1->nz F k=0:=λk hk=>by
  have:=er k;rw[gu (n:=P.length) (λi hi=>cy P i hi) _ _ ()] at this;exact Xa.mp this
 have a:=nu (f:=fO h) (g:=fO P) (d:=P.length-1) (i:=h.length-1) (λj hj=>cy P j ()) (λj hj=>cy h j ()) h.length;rw[Yg (),<-er] at a;have n1:nz F (h.length-1+(P.length-1))≠0:=λz=>by
  rw[z] at a;have z2:fO h (h.length-1)*fO P (P.length-1)=0:=a.symm;rcases YE.mp z2 with y|y
  .exact aC h0 y
  .exact aC p0 y
 have l1:h.length-1+(P.length-1)<F.length:=Nat.lt_of_not_le λz=>n1 (aS z);have l2:¬ h.length+P.length<=F.length-1+1:=λz=>f0 (hi _ z);nofun
def KR(fs:List (Int×Int))(hs:List (List Int)):Prop:=CC fs hs/\(∀c:Int,hs=[[c]]->c.natAbs=1) /\ ∀h0 h1 tl,hs=h0::h1::tl->jO (nz h0)/\jO (nz h1)/\Bz (ao h0) (ao h1)/\h0.length<=9/\h1.length+1=h0.length
theorem Fn{W O P L:List Int}{rows:List (List Int×List Int×Int×Int)}{hs:List (List Int)}{g:Int}(rq:m7 W O rows)(o0:O≠[])(lW:W.length<=9)(lO:O.length+1=W.length)(wz:nz W (W.length-1)≠0)(oz:nz O (O.length-1)≠0)(pz0:nz P (P.length-1)≠0)(lP:P.length<=9)(hL:(O::mr 1 1 rows).getLast? = some L)(g0:g≠0)(eL:∀k,nz L k=g*nz P k)(pt:wT P (W::O::mr 1 1 rows) hs)(pW:jO (nz W))(pO:jO (nz O)):∀h0 h1 tl,hs=h0::h1::tl->jO (nz h0)/\jO (nz h1)/\Bz (ao h0) (ao h1)/\h0.length<=9/\h1.length+1=h0.length:=by
 have hn:∀row∈rows,row.2.2.1≠0/\row.2.2.2≠0:=λrow h=>⟨(rq.ne row h).1,(rq.ne row h).2.1⟩;obtain⟨L',s,e,ps,hs',_⟩:=iu rows 1 1 O O hn (.inl rfl) (.inl rfl) (λk=>by rw[YG]) rfl
 rw[hL] at e;cases e;have s2:s*s=1:=by rcases ps with z|z<;>rw[z]<;>decide
 have el:∀k,nz (fM O rows) k=(s*g)*nz P k:=λk=>by
  have a:=hs' k;rw[eL k] at a;have:s*(g*nz P k)=s*(s*nz (fM O rows) k):=by rw[a]
  rw[<-YJ,<-YJ,s2,YG] at this;exact this.symm
 have pl:Py (ao P):=cz ();have l0:∃x,ao P x≠0:=Yt λz=>pz0 (by
  have:=lX (F:=P) (G:=[]) () (by simp) (λx=>by
   rw[lU];exact Yt λy=>z ⟨x,y⟩) (P.length-1)
  rw[this,aS (by simp)])
 intro h0 h1 tl hh;subst hh;cases pt with
 | @cons _ _ _ _ a1 a2 a3 a4 pt =>
 cases pt with
 | @cons _ _ _ _ b1 b2 b3 b4 pt =>
 have e0:∀x,ao W x=ao h0 x*ao P x:=jy () a4;have e1:∀x,ao O x=ao h1 x*ao P x:=jy () b4;obtain⟨u,v,pu,pv,eb⟩:=rq.bez lW () o0;have z:∀x,(u x*ao h0 x+v x*ao h1 x)-((s*g:Int):Rat)=0:=by
  refine Py.zero (f:=λx=>(u x*ao h0 x+v x*ao h1 x)-((s*g:Int):Rat)) (((pu.mul (cz ())).add (pv.mul (cz ()))).sub (.const _)) pl (λx=>?_) l0;have h:=eb x;rw[fS el x,e0 x,e1 x] at h;grind
 have q1:=tO wz a3 pz0 a4;have q2:=tO oz b3 pz0 b4;refine⟨pW.left a4,pO.left b4,Bz.of pu pv (c:=((s*g:Int):Rat)) (aC (YL (by rcases ps with z|z<;>nofun) g0)) λx=>by have:=z x;grind,a1,()⟩
theorem BN{fs:List (Int×Int)}{h0 h1:List Int}{tl:List (List Int)}{l:List (aO×Nat)}{c:Rat}{a:Nat}(h:KR fs (h0::h1::tl))(nz0:nz h0 (h0.length-1)≠0)(ok:∀q∈l,q.1.ok/\1<=q.2)(un:l.Pairwise λa b=>a.1≠b.1)(dl:de l<=8)(ll:l.length<=3)(e:∀x,EV (cf fs) x=c*iJ l x)(lb:LB l a):∃κ c0:Rat,0<κ/\c0≠0/\(∀x,ao h0 x=c0*bJ l x)/\(∀x,κ*(ao h1 x*bJ l x)=ao h0 x*eH l x)/\h0.length<=7/\h1.length+1=h0.length/\(∀y∈h0,Bt (a+1) y) /\ ∀y∈h1,Bt (a+7) y:=by
 obtain⟨cc,_,more⟩:=h;obtain⟨p0,p1,bz,l9,l10⟩:=more h0 h1 tl rfl;rcases cc with ⟨_,c',_,z⟩|⟨h0',h1',tl',κ,z,ch,k0,id⟩
 .cases z
 cases z;have id:=id l c () e;obtain⟨c0,n0,e0⟩:=CZ (cz ()) (cz ()) ok un k0 id bz;obtain⟨i1,i2⟩:=xz ok;have i3:=uL l;obtain⟨D,Zp,Zs,D0,ep,es,n1,n2,l1,l2⟩:=lb.lists λq hq=>by have:=i2 q hq;nofun
 have D0':=aC D0;obtain⟨b0,len⟩:=xm (Z:=Zp) (c:=(D:Rat)/c0) p0 () () (λz=>by
  have:(D:Rat)=0:=by
   have k:(D:Rat)/c0*c0=(D:Rat):=YU n0;rw[z] at k;grind
  exact D0' this) (λx=>by rw[ep,e0];grind) n1
 have e1:∀x,κ*ao h1 x-c0*eH l x=0:=by
  refine Py.zero (f:=λx=>κ*ao h1 x-c0*eH l x) (((cz ()).sc κ).sub ((gK l).sc c0)) (dB l) (λx=>?_) (vW ok un);have:=id x;rw[e0 x] at this;grind
 obtain⟨b1,_⟩:=xm (Z:=Zs) (c:=(D:Rat)*κ/c0) p1 () () (λz=>by
  have:(D:Rat)*κ=0:=by
   have k:(D:Rat)*κ/c0*c0=(D:Rat)*κ:=YU n0;rw[z] at k;grind
  rcases YE.mp this with y|y
  .exact D0' y
  .grind) (λx=>by
  rw[es];have:=e1 x;have h2:κ*ao h1 x=c0*eH l x:=⋯;have h3:(D:Rat)*κ/c0*ao h1 x=(D:Rat)/c0*(κ*ao h1 x):=⋯;rw[h3,h2];grind) n2
 have pw:=Xj a;refine⟨κ,c0,k0,n0,e0,id,by have:=len nz0;nofun,l10,λy hy=>?_,λy hy=>?_⟩
 .have:=b0 y hy;show y.natAbs<2^(a+1);rw[X4];nofun
 .have:=b1 y hy;show y.natAbs<2^(a+7);rw[XR];have:(2:Nat)^7=128:=rfl;nofun
def KJ(h0 G:List Int)(l:List (aO×Nat))(σ:Rat->Int)(ks:List (List Int)):Prop:=∀a b,a<=b->ao h0 b≠0->((chg 0 (Da (sg (ao G a)) (fK a (ks.map ao))):Nat):Int)+kN σ l a=((chg 0 (fK b (ks.map ao)):Nat):Int)+kN σ l b
def Lu(ks:List (List Int)):Prop:=(∃c:Int,c≠0/\ks=[[c]]) \/ ∃k0 k1 tl,ks=k0::k1::tl
theorem Cg{h0 G:List Int}{l:List (aO×Nat)}{σ:Rat->Int}{c:Int}(z:∀q∈l,∀m∈q.1.mk,σ m=0):KJ h0 G l σ [[c]]:=λa b _ _=>by
 rw[lN z,lN z];have one:∀s:Int,chg 0 [s]=0:=λs=>by
  by_cases z:s=0
  .rw[z,qw];rfl
  .rw[nA z];rfl
 show ((chg 0 [sg (ao [c] a)]:Nat):Int)+0=((chg 0 [sg (ao [c] b)]:Nat):Int)+0;rw[one,one]
theorem Bl{h0 G:List Int}{l:List (aO×Nat)}{σ:Rat->Int}{ks:List (List Int)}{ms:List Rat}{c0:Rat}{Sg:Int->Rat->Prop}{N i:Nat}{p:pZ}(ok:∀q∈l,q.1.ok/\1<=q.2)(un:l.Pairwise λa b=>a.1≠b.1)(up:ms.Pairwise (· < ·))(hm:∀v,v∈ms↔v∈kZ l)(n0:c0≠0)(e0:∀x,ao h0 x=c0*bJ l x)(so:Cj (ao G) l σ)(ln:KJ h0 G l σ ks)(hp:Ku (iU l) Sg N p i):∃m,ms[i]? = some m/\(ao h0 p.b=0->σ m=sg (ao G p.b))/\(ao h0 p.b≠0->((chg 0 (Da (sg (ao G p.a)) (fK p.a (ks.map ao))):Nat):Int)-((chg 0 (fK p.b (ks.map ao)):Nat):Int)=σ m):=by
 obtain⟨m,em,am,mb,es⟩:=Ft (σ:=σ) ok un up hm hp.al hp.au;refine⟨m,em,λz=>?_,λz=>?_⟩
 .have pz:bJ l p.b=0:=by
   rw[e0] at z;rcases YE.mp z with y|y
   .exact absurd y n0
   .exact y
  obtain⟨q,hq,e⟩:=lE ok pz;have mb':bj p.b∈kZ l:=List.mem_flatMap.mpr ⟨q,hq,by rw[e];exact Ye⟩
  have inn:=(hm _).mpr mb';obtain⟨j,hj,ej⟩:=XH inn;have il:=(Ys.mp em).1;have ei:=(Ys.mp em).2;have up':=List.pairwise_iff_getElem.mp up;have:j=i:=by
   rcases Nat.lt_trichotomy j i with w|w|w
   .have h1:=up' j i hj il w;rw[ej,ei] at h1;grind
   .exact w
   .-- then two marks lie above the low end and at most at the high one
    have h1:=up' i j il hj w;have a1:=hp.al;have b1:=hp.au;have nd:ms.Nodup:=up.imp λ{x y} h e=>by rw[e] at h;exact Rat.lt_irrefl h
    have pm:ms.Perm (kZ l):=(List.perm_ext_iff_of_nodup nd (mK ok un)).mpr hm;rw[kE ok,<-((pm.filter _).length_eq)] at b1;have e2:=nZ (y:=bj p.b) up;rw[b1] at e2;have:ms[j]∈ms.filter λm=>decide (m<=bj p.b):=Xe.mpr ⟨Yp hj,by rw[ej];simp⟩
    rw[e2] at this;obtain⟨k,hk,ek⟩:=XH this;rw[Yv] at hk;rw[List.getElem_take] at ek;have:=up' k j () hj ();rw[ek] at this;exact absurd this Rat.lt_irrefl
  subst this;rw[<-ei,ej];exact (so.at_ p.b).symm
 .have:=ln p.a p.b (Yl hp.lt) z;nofun
theorem Br{c:Int}(h:jO (nz [c])):c.natAbs=1:=h c λk=>by
 cases k with
 | zero=>exact⟨1,by show c=c*1;nofun⟩
 | succ k=>exact⟨0,by rw[aS (by simp)];nofun⟩
structure HW (fs:List (Int×Int))(l:List (aO×Nat)):Prop where
 ok:∀q∈l,q.1.ok/\1<=q.2
 un:l.Pairwise λa b=>a.1≠b.1
 dl:de l<=8
 ln:fs.length=de l+1
 ev:∃c:Rat,∀x,EV (cf fs) x=c*iJ l x
 ll:l.length<=3
 lb:∃a,LB l a/\a<=57
 mks:∀m∈kZ l,∃q:Int×Int,m=wv q/\Fq q/\Bq 300 q
theorem GK{fs:List (Int×Int)}{hs:List (List Int)}{l:List (aO×Nat)}(h:KR fs hs)(F:HW fs l)(all:∀x∈hs,x≠[]/\x.length<=20/\nz x (x.length-1)≠0):∃(h0 I:List Int)(tl:List (List Int))(n:Nat)(κ c0:Rat),hs=h0::tl/\(tl=[]/\I=[] \/ ∃tl',tl=I::tl')/\n<=6/\h0.length=n+1/\nz h0 n≠0/\I.length=n/\0<κ/\c0≠0/\(∀x,ao h0 x=c0*bJ l x)/\(∀x,κ*(ao I x*bJ l x)=ao h0 x*eH l x)/\(∀y∈h0,Bt 60 y) /\ ∀y∈I,Bt 66 y:=by
 obtain⟨c,ev⟩:=F.ev;rcases id h.1 with ⟨f1,c',z,rfl⟩|⟨h0,h1,tl,κ',rfl,_⟩
 .have l0:=GZ F.ok (show de l=0 by have:=F.ln;nofun)
  subst l0;have one:=h.2.1 c' rfl;refine⟨[c'],[],[],0,1,(c':Rat),rfl,.inl ⟨rfl,rfl⟩,∅,rfl,z,rfl,∅,aC z,λx=>?_,λx=>?_,λy hy=>?_,by simp⟩
  .rw[lQ];show (c':Rat)=(c':Rat)*1;grind
  .rw[lU];show (1:Rat)*(0*1)=_*0;grind
  .cases Yk.mp hy;show c'.natAbs<2^60;rw[one];decide
 .obtain⟨a,lb,a57⟩:=F.lb;have nz0:=(all h0 (by simp)).2.2
  have n0:=Yy.mpr (all h0 (by simp)).1
  obtain⟨κ,c0,k0,n1,e0,id,l7,l1,b0,b1⟩:=BN h nz0 F.ok F.un F.dl F.ll ev lb;exact⟨h0,h1,h1::tl,h0.length-1,κ,c0,rfl,.inr ⟨tl,rfl⟩,(),(),nz0,(),k0,n1,e0,id,λy hy=>(b0 y hy).mono (),λy hy=>(b1 y hy).mono ()⟩
def La(gs:List (Int×Int))(l:List (aO×Nat))(σ:Rat->Int):Prop:=∀(G:List Int)(D:Rat),0<D->(∀x,ao G x=D*EV (cf gs) x)->Cj (ao G) l σ
theorem DJ{l:List (aO×Nat)}:La [] l λ_=>0:=λG D _ e=>by
 have z:∀x,ao G x=0:=λx=>by
  rw[e,kI (λk=>cD (by simp))]
  grind
 exact⟨(Py.const 0).congr z,λx=>by rw[z,iE],λq _=>.inl ⟨λ_ _=>rfl,λ_=>0,.const 0,λx=>by rw[z];grind⟩⟩
theorem Ey{gs:List (Int×Int)}{l lg:List (aO×Nat)}{c:Rat}(c0:c≠0)(ok:∀q∈l,q.1.ok/\1<=q.2)(okg:∀q∈lg,q.1.ok/\1<=q.2)(e:∀x,EV (cf gs) x=c*iJ lg x):La gs l (oi (sg c) lg):=λG D D0 eG=>by
 have:=AL (g:=ao G) (l:=l) (lg:=lg) (c:=D*c) (λz=>by
  rcases YE.mp z with y|y
  .grind
  .exact c0 y) ok okg λx=>by rw[eG,e];grind
 rwa [gm,cn D0,YG] at this
theorem zu{l:List (aO×Nat)}{ms:List Rat}(ok:∀q∈l,q.1.ok/\1<=q.2)(un:l.Pairwise λa b=>a.1≠b.1)(up:ms.Pairwise (· < ·))(hm:∀v,v∈ms↔v∈kZ l):ms.length=vz l:=by
 have nd:ms.Nodup:=up.imp λ{x y} h e=>by rw[e] at h;exact Rat.lt_irrefl h
 rw[tu];exact ((List.perm_ext_iff_of_nodup nd (mK ok un)).mpr hm).length_eq
end L2
set_option maxHeartbeats 8000000
namespace M
open PySem L2
open PySem.W (nsIn keepIn codeIn fnOf)
def fx(i:Nat):Stmt:=PySem.Challenge.pw_momentwright_k16_signs_at_roots.main.body.getD i (.Pass ⟨0,0,0,0⟩)
abbrev ci:Stmt:=fx 12
theorem gM:aD ["one", "other"] ["one", "other"] (ah ci):=by walk_at"a3"
abbrev gX:Stmt:=fx 13
theorem pL:aD ["whole"] ["whole"] (ah gX):=by walk_at"a3"
abbrev jU:Stmt:=fx 14
theorem uw:aD ["base", "many", "product", "turn"] ["base", "many"] (ah jU):=by walk_at"a3"
abbrev ii:Stmt:=fx 15
theorem oF:aD ["numbers", "zero", "many"] ["numbers", "zero"] (ah ii):=by walk_at"a3"
abbrev hV:Stmt:=fx 16
theorem oQ:aD ["wholes", "divisor", "whole"] ["wholes"] (ah hV):=by walk_at"a3"
abbrev b9:Stmt:=fx 17
theorem gE:aD ["one", "other", "product", "j", "former", "k", "latter"] ["one", "other"] (ah b9):=by walk_at"a3"
abbrev dE:Stmt:=fx 18
theorem jq:aD ["wholes"] ["wholes"] (ah dE):=by walk_at"a3"
abbrev fH:Stmt:=fx 19
theorem kO:aD ["wholes", "top", "bottom", "total", "scale", "whole"] ["wholes", "top", "bottom"] (ah fH):=by walk_at"a3"
abbrev cT:Stmt:=fx 20
theorem i6:aD ["one", "other", "last", "rest", "quotient", "scale", "place", "part", "k"] ["one", "other"] (ah cT):=by walk_at"a3"
abbrev dF:Stmt:=fx 21
theorem jr:aD ["one", "other", "told", "lead", "height", "gap", "bottom", "quotient", "rest", "scale", "top", "lack"] ["one", "other"] (ah dF):=by walk_at"a3"
abbrev gY:Stmt:=fx 23
theorem oM:aD ["f", "bottom", "number"] ["f"] (ah gY):=by walk_at"a3"
abbrev cx:Stmt:=fx 25
theorem eY:aD ["f"] ["f"] (ah cx):=by walk_at"a3"
abbrev dI:Stmt:=fx 26
theorem jt:aD ["one", "other", "told", "former", "latter", "rest", "quotient", "top", "bottom"] ["one", "other"] (ah dI):=by walk_at"a3"
abbrev dH:Stmt:=fx 27
theorem jn:aD ["lists", "last"] ["lists"] (ah dH):=by walk_at"a3"
abbrev cJ:Stmt:=fx 28
theorem iN:aD ["f", "wholes"] ["f"] (ah cJ):=by walk_at"a3"
abbrev cS:Stmt:=fx 29
theorem iV:aD ["wholes", "inclines", "g", "rest", "scale"] ["wholes", "inclines", "g"] (ah cS):=by walk_at"a3"
abbrev gi:Stmt:=fx 30
theorem m6:aD ["lists", "top", "bottom"] ["lists", "top", "bottom"] (ah gi):=by walk_at"a3"
abbrev fI:Stmt:=fx 31
theorem mq:aD ["lists", "side"] ["lists", "side"] (ah fI):=by walk_at"a3"
abbrev ig:Stmt:=fx 32
theorem oX:aD ["signs", "told", "last", "sign"] ["signs"] (ah ig):=by walk_at"a3"
abbrev fh:Stmt:=fx 33
theorem kz:aD ["wholes", "bits", "exponent", "k", "whole"] ["wholes"] (ah fh):=by walk_at"a3"
abbrev i7:Stmt:=fx 34
theorem rH:aD ["lists", "bound", "told", "waiting", "low", "high", "bottom", "lows", "highs", "many", "middle"] ["lists"] (ah i7):=by walk_at"a3"
abbrev fg:Stmt:=fx 35
theorem kx:aD ["lists", "g", "place", "low", "high", "bottom", "sign", "lows"] ["lists", "g", "place"] (ah fg):=by walk_at"a3"
abbrev fG:Stmt:=fx 36
theorem iH:aD ["f", "g", "counting", "wholes", "lists", "told", "place", "low", "high", "bottom", "sign"] ["f", "g"] (ah fG):=by walk_at"a3"
abbrev gZ:Stmt:=fx 38
theorem rg:aD ["_law_script", "_law_k"] ["_law_script", "_law_k"] (ah gZ):=by walk_at"a3"
abbrev jT:Stmt:=fx 39
theorem xf:aD ["_law_script", "_law_k", "_law_cell"] ["_law_script", "_law_k"] (ah jT):=by walk_at"a3"
abbrev mD:Stmt:=fx 40
theorem Cc:aD ["_law_state_here", "_law_many", "_law_found", "_law_stirred"] ["_law_state_here", "_law_many"] (ah mD):=by walk_at"a3"
abbrev ij:Stmt:=fx 41
theorem rD:aD ["_law_one", "_law_other"] ["_law_one", "_law_other"] (ah ij):=by walk_at"a3"
abbrev rN:Stmt:=fx 42
theorem F4:aD ["_law_top", "_law_bottom", "_law_by"] ["_law_top", "_law_bottom"] (ah rN):=by walk_at"a3"
abbrev jS:Stmt:=fx 43
theorem yD:aD ["_law_state_here"] ["_law_state_here"] (ah jS):=by walk_at"a3"
abbrev hZ:Stmt:=fx 44
theorem rC:aD ["_law_state_here", "_law_most", "_law_found", "_law_near", "_law_turn", "_law_number", "_law_kind", "_law_many", "_law_by"] ["_law_state_here", "_law_most"] (ah hZ):=by walk_at"a3"
abbrev j8:Stmt:=fx 45
theorem xC:aD ["_law_numbers", "_law_many"] ["_law_numbers"] (ah j8):=by walk_at"a3"
abbrev mx:Stmt:=fx 46
theorem CO:aD ["_law_one", "_law_other"] ["_law_one", "_law_other"] (ah mx):=by walk_at"a3"
abbrev j6:Stmt:=fx 47
theorem xN:aD ["_law_one", "_law_other"] ["_law_one", "_law_other"] (ah j6):=by walk_at"a3"
abbrev eX:Stmt:=fx 48
theorem lJ:aD ["_law_f", "_law_g", "_law_found", "_law_i", "_law_j"] ["_law_f", "_law_g"] (ah eX):=by walk_at"a3"
abbrev eZ:Stmt:=fx 49
theorem mh:aD ["_law_factors_here", "_law_found", "_law_kind", "_law_number", "_law_many", "_law_lesser", "_law_one", "_law_turn"] ["_law_factors_here"] (ah eZ):=by walk_at"a3"
abbrev i9:Stmt:=fx 50
theorem um:aD ["_law_x"] ["_law_x"] (ah i9):=by walk_at"a3"
abbrev mW:Stmt:=fx 51
theorem BU:aD ["_law_one", "_law_other"] ["_law_one", "_law_other"] (ah mW):=by walk_at"a3"
abbrev kg:Stmt:=fx 52
theorem yR:aD ["_law_factors_here", "_law_found", "_law_kind", "_law_number", "_law_many", "_law_some", "_law_one"] ["_law_factors_here"] (ah kg):=by walk_at"a3"
abbrev ie:Stmt:=fx 53
theorem rp:aD ["_law_call", "_law_error", "e", "_law_kinds"] ["_law_call"] (ah ie):=by walk_at"a3"
abbrev gW:Stmt:=fx 54
theorem qW:aD ["_law_mark", "_law_factors_here", "_law_found", "_law_kind", "_law_number", "_law_many", "_law_sign", "_law_edge", "_law_square", "_law_turn"] ["_law_mark", "_law_factors_here"] (ah gW):=by walk_at"a3"
abbrev io:Stmt:=fx 55
theorem AZ:aD ["_law_script", "_law_k", "_law_state_here", "_law_one", "_law_other", "_law_more", "_law_f", "_law_marks_here", "_law_some", "_law_due", "_law_found"] ["_law_script"] (ah io):=by walk_at"a3"
structure iK (K:W.Frag)(mg:Str->Option Value):Prop where
 non:True
 b_abs:mg "abs" = none
 b_range:mg "range" = none
 b_len:mg "len" = none
 b_enumerate:mg "enumerate" = none
 b_reversed:mg "reversed" = none
 b_max:mg "max" = none
 b_list:mg "list" = none
 b_min:mg "min" = none
 b_isinstance:mg "isinstance" = none
 b_ValueError:mg "ValueError" = none
 b_int:mg "int" = none
 b_bool:mg "bool" = none
set_option compiler.extract_closed false
local macro_rules | `(tactic| walk_at "m")=>`(tactic| try simp only [L2.start,List.map_cons,List.map_nil,List.cons_append,List.nil_append,List.replicate_succ,List.replicate_zero,List.length_cons,List.length_nil,Nat.reduceSub,Nat.reduceAdd,Nat.zero_add,Ca,zf,GM,xK,KS,Er,Il,DR,K2,JL,K9,FW,Gd,IF,IY,HL,Hx,DU,GD,Dw,DE,GI,HK,Ew,Eb,yb,BO,JI,JB])
local macro_rules | `(tactic| walk_at "d")=>`(tactic| try dsimp only [aT,pC,CK,Ht,Ir,Jo,CG,wC,jL,JC,qF,AA,Ik,tC,DW,KZ,IZ,Eu,KY,Hk,Dc,Hr,GN,KL,Jb,K1,CL,uU,Ib,vM,id,Lf,tD,qP,Kn,Ca,J8,bB,EJ,List.getElem?_cons_zero,List.getElem?_cons_succ,List.set_cons_zero,List.set_cons_succ,L2.start,Option.join,Option.bind,List.map_cons,List.map_nil,List.replicate_succ,List.replicate_zero,List.cons_append,List.nil_append,List.length_cons,List.length_nil,Nat.reduceSub,Nat.reduceAdd,Nat.zero_add,Kj,xk,BW,IL,At,mI,Lj,mU,D9,FE,IP,HV,GW,Ih,A3,Km,Bp,C3,HI,Jv,AJ,Dg,zI,y7,Av,KM,K7,E9,BS,A4,Bc,HF,GV,cond])
local macro_rules | `(tactic| walk_at "s")=>`(tactic| try simp only [pH,Ee,List.map_cons,List.map_nil,List.cons_append,List.nil_append,List.replicate_succ,List.replicate_zero,Option.join,Option.bind,bB,Ka,Ju,rI,rU,jI,dC,fi,mG,nX,tJ,FC,E3,zd,AU,qF,AA,zn,Jl,Ji,eP,jJ,ke,mw,Ge,uD,eK,i5,JE,EO,HO.lst.injEq,HO.tup.injEq,DM,A7,KN,Al,exists_eq_left,exists_eq_left',exists_and_left,exists_and_right,V.int.injEq,V.bl.injEq,V.ref.injEq,V.str.injEq,V.ty.injEq,List.cons.injEq,and_true,true_and,and_self,List.getElem?_cons_zero,List.getElem?_cons_succ,Option.some.injEq,List.set_cons_zero,List.set_cons_succ,reduceCtorEq,or_false,false_or,false_and,and_false,exists_false,exists_eq,exists_eq',and_assoc,List.length_cons,List.length_nil,Nat.reduceSub,Nat.reduceAdd,Nat.zero_add,Bool.not_eq_true',decide_eq_false_iff_not,decide_eq_true_eq,Eo,De,Bk,yW,ne_eq,not_true_eq_false,not_false_eq_true,ite_true,ite_false,if_true,if_false,Bool.false_eq_true,Bool.not_true,Bool.not_false,Bool.true_eq_false])
local macro_rules | `(tactic| walk_at "vc")=>`(tactic| (walk_at "d"; walk_at "s"; walk_at "d"; walk_at "s"; walk_at "d"; walk_at "s"))
local macro_rules | `(tactic| walk_at "vc*")=>`(tactic| (walk_at "vc"; (repeat (simp only [*]; walk_at "vc"))))
section
variable {P:Program}{w:World}{K:W.Frag}{mg:Str->Option Value}{base:Heap}{f:Addr}{fd:FuncData}
def bZ(K:W.Frag):Sp:=λvs H Q _=>∃a b:Int,vs=[.int a,.int b]/\Q (.int (Int.gcd a b)) H
theorem ki(F:fY K "greatest_divisor" "greatest_divisor" ci f fd) (T:iK K mg):cj P w K mg base fW 1 f fd ["one", "other"] (bZ K):=by
 have scN:=gM.nd;refine F.okQ gM (λvs H Q E h=>?_) (λcdv A outer s H vs Q E hr h=>?_)
 .obtain⟨a,b,rfl,_⟩:=h;rfl
 .obtain⟨a,b,rfl,h⟩:=h;refine⟨_,(ag (pi (i:=0) (j:=1) rfl scN rfl rfl ∅ rfl rfl (aa (az jD (by rfl) T.b_abs oU (aa (qv 0) ae)) (aa (az jD (by rfl) T.b_abs oU (aa (qv 1) ae)) ae)) rfl)
   (ag (iw PassesOwn.never (aN qM (qv 1) af (aR _)) (aj (pi (i:=0) (j:=1) rfl scN rfl rfl ∅ rfl rfl (aa (qv 1) (aa (aw gU (qv 0) (qv 1)) ae)) rfl)))
   (aj (aI (qv 0))))),?_⟩
  walk_at"m";symm
  refine⟨λm σ H'=>H'=H /\ ∃x y:Int,σ=[some (.int x),some (.int y)]/\Int.gcd x y=Int.gcd a b/\0<=x/\0<=y/\m=y.natAbs,⟨_,rfl,_,_,rfl,?_,?_,?_,rfl⟩,?_⟩
  .split<;>split<;>simp
  .split<;>nofun
  .split<;>nofun
  .rintro m σ H' ⟨rfl,x,y,rfl,hg,hx,hy,rfl⟩;symm
   refine cZ (λhy0=>?_) (λhy0=>?_)
   .refine⟨_,λσ' H' h=>h,?_⟩;symm
    exact⟨hy0,_,xY x hy0,by rw[uu,hg],hy,Xs x (),rfl⟩
   .symm
    have e:((Int.gcd a b:Nat):Int)=x:=by
     rw[<-hg,show y=0 by nofun]
     simp;nofun
    rw[<-e];exact h
def fF(K:W.Frag):Sp:=λvs H Q _=>∃(a:Addr)(qs:List (Int×Int))(B:Nat),vs=[.ref a]/\ft (vw K H) a qs/\qs.length<=14/\B<=4000000/\(∀q∈qs,Fq q/\Bq B q) /\
 ∀p b H' (D:Int)(ns:List Int),ay (vw K H) (vw K H')->vw K H' p=some (.tup [.ref b,.int D])->vw K H' b=some (.lst (ns.map V.int))->vw K H b=none->0<D->Bt (1+qs.length*B) D->ns.length=qs.length ->
  (∀(i:Nat)(n:Int)(q:Int×Int),ns[i]? = some n->qs[i]? = some q->(n:Rat)=wv q*(D:Rat)/\Bt (1+qs.length*B+B) n)->(∀E:Int,(∀q∈qs,q.2∣E)->D∣E)->Q (.ref p) H'
theorem v6(F:fY K "cleared" "cleared" gY f fd) (T:iK K mg)(N_:qu P base)(C_greatest_divisor:cg P w K mg base "greatest_divisor" ["one", "other"] 1 (bZ K)):cj P w K mg base fW 2 f fd ["f"] (fF K):=by
 have scN:=oM.nd;refine F.okQ oM (λvs H Q E h=>?_) (λcdv A outer s H vs Q E hr h=>?_)
 .obtain⟨a,_,_,rfl,_⟩:=h;rfl
 .obtain⟨a,qs,B,rfl,ha,hql,hB,hq,h⟩:=h;refine⟨_,(ag (ax (i:=1) scN rfl (·) af)
   (ag (cL PassesOwn.never rfl (bU (qv 0)) (aq (i:=2) scN rfl (·)) (aj (jM (i:=1) scN rfl (·) (aw (jC N_ hr rfl rfl rfl) (aE dk (qv 2) af (λ_ _=>rfl)) (av C_greatest_divisor nofun rfl (aa (qv 1) (aa (aE dk (qv 2) af (λ_ _=>rfl)) ae)))) ow)))
   (aj (aI (aP (aa (fv (own:=["top", "own"]) (outs:=["bottom"]) (ixs:=[1]) rfl (bU (qv 0)) rfl ⟨rfl,rfl,rfl,⟨rfl,trivial⟩,rfl,⟨⟨rfl,rfl,rfl,_,rfl⟩,trivial⟩⟩ (λ_ _ _ _=>⟨(show QG _ _ (uD K 2 _) from dU (n:=2) rfl (aB (aq (i:=0) (show (["top", "own", "bottom"]:List Str).Nodup by decide +kernel) rfl (·)) (aB (aq (i:=1) (show (["top", "own", "bottom"]:List Str).Nodup by decide +kernel) rfl (·)) dQ))),gh,(aw (show gk _ _ (jv K) from aV) (qv 0) (aw (uR N_ hr rfl rfl rfl rfl rfl) (qv 2) (qv 1)))⟩)) (aa (qv 1) ae))))))),?_⟩
  walk_at"m";symm
  obtain⟨xs,hxs,rxs⟩:=id ha;have hlx:xs.length=qs.length:=by rw[rxs.length,Yb]
  have hLB:∀i,i<=qs.length->i*B<=56000000:=λi hi=>YB (Xf (YB hi hql) hB) ∅;refine⟨⟨xs,.of (aF hxs)⟩,?_⟩;obtain⟨Pv,hPv⟩ : ∃Pv:Nat->St->Hp->Prop,∀i σ H',Pv i σ H'↔H'=H /\ ∃b y,σ=[some (.ref a),some (.int b),y]/\0<b/\Bt (1+i*B) b/\(∀q∈qs.take i,q.2∣b) /\ ∀E:Int,(∀q∈qs.take i,q.2∣E)->b∣E:=⟨_,λ_ _ _=>Iff.rfl⟩;refine aY (its:=xs) Pv (λi σ H' _ p=>?_) ((hPv _ _ _).mpr ⟨rfl,_,_,rfl,∅,by rw[Nat.zero_mul];decide,(by simp),λE _=>Int.one_dvd E⟩) (λi x σ H1 hi hx pv=>?_) (λσ H1 pv=>?_)
  .obtain⟨rfl,_⟩:=(hPv _ _ _).mp p;exact aM hxs
  .obtain⟨rfl,b,y,rfl,hb,bb,hd,hm⟩:=(hPv _ _ _).mp pv;have hi':i<qs.length:=();obtain⟨d,e,r⟩:=rxs.get hx;rw[Yj,Ya hi'] at e;cases e;obtain⟨p,rfl,hp⟩:=r.fr_at;obtain⟨fq,bq⟩:=hq qs[i] (Yp hi');obtain⟨l1,l2,l3,l4,l5⟩:=uG hb fq.1;symm
   simp only[bZ];symm
   refine⟨_,hp,_,i5,_,hp,_,i5,_,rfl,?_⟩;symm
   have hgb:Bt B (Int.gcd b qs[i].2:Int):=bq.2.le () l5;have hcb:Bt B (qs[i].2.fdiv (Int.gcd b qs[i].2:Int)):=bq.2.le () l2;have:=hLB i ();refine⟨l4,cQ bb hcb (),(hPv _ _ _).mpr ⟨rfl,_,_,rfl,Int.mul_pos hb l1,(bb.mul hcb).mono (by rw[X0];nofun),λq hq'=>?_,λE hE=>?_⟩⟩
   .rw[Yw,Ya hi'] at hq';rcases YK.mp hq' with z|z
    .exact Int.dvd_trans (hd q z) (Int.dvd_mul_right _ _)
    .cases Yk.mp z;exact l3
   .rw[Yw,Ya hi'] at hE;exact Ei hb fq.1 (hm E λq z=>hE q (YK.mpr (.inl z))) (hE _ (YK.mpr (.inr (Yk.mpr rfl))))
  .obtain⟨rfl,D,y,rfl,hD,bD,hd,hmin⟩:=(hPv _ _ _).mp pv;rw[hlx] at bD hd hmin;rw[Y7] at hd hmin;have hLBq:=hLB qs.length (Yn _);symm
   refine⟨⟨xs,.of (aF hxs)⟩,λc H2 hc S2 h2=>?_⟩;refine wX (its:=xs) (ps:=qs.map λq=>(V.int q.1,V.int q.2)) (λi ys H'=>ay (vw K H1) (vw K H')/\ys=(qs.take i).map λq=>V.int (q.1*D.fdiv q.2)) (by rw[Yb];exact hlx) (λi ys H' _ _ p=>⟨aM (p.1 _ _ hxs),λj u v e=>?_⟩) h2 ⟨S2,rfl⟩ (λi u v ys H' hi huv h' p=>?_) (λys H' h' p=>?_)
   .rw[Yj] at e;cases e2:qs[j]? with
    | none=>rw[e2] at e;cases e
    | some q =>
     rw[e2] at e;cases e;obtain⟨x,e3,r⟩:=rxs.at (i:=j) (d:=fr q) (by rw[Yj,e2];rfl)
     obtain⟨p2,rfl,hp2⟩:=r.fr_at;exact⟨p2,e3,p.1 _ _ hp2⟩
   .obtain⟨S',rfl⟩:=p;rw[Yb] at hi;rw[Yj,Ya hi] at huv;cases huv;obtain⟨fq,bq⟩:=hq qs[i] (Yp hi);obtain⟨c1,c2,c3⟩:=uW fq (hd qs[i] (Yp hi)) hD bD bq.1;symm
    refine⟨(show Fx _ _ from λz=>by have:=fq.1;nofun),cQ bq.1 c3 (),.mk2 h' ?_ λH5 B5 h5=>⟨λb o e=>B5 _ _ (ak e hc) (S' _ _ e),?_⟩⟩
    .rw[Yb,Yv];have:1000<=sizeLine:=∅;nofun
    .rw[Yw,Ya hi,Yq];rfl
   .obtain⟨S',rfl⟩:=p;rw[Yb,Y7] at h';symm
    refine⟨∅,λp5 H5 hp5 S5 h5=>h p5 c H5 D (qs.map λq=>q.1*D.fdiv q.2) (S'.trans S5) h5 (by rw[List.map_map];exact S5 _ _ h') hc hD bD (by rw[Yb]) (λi n q e1 e2=>?_) hmin⟩
    rw[Yj,e2] at e1;cases e1;have hm:=YQ e2;obtain⟨fq,bq⟩:=hq q hm;obtain⟨c1,c2,c3⟩:=uW fq (hd q hm) hD bD bq.1;exact⟨c1,c2⟩
def ny(K:W.Frag):Sp:=λvs H Q _=>∃(a:Addr)(ns:List Int),vs=[.ref a,.int 0]/\vw K H a=some (.lst (ns.map V.int)) /\
 ∀b H' (ms:List Int),ay (vw K H) (vw K H')->vw K H' b=some (.lst (ms.map V.int))->vw K H b=none->(∀k,nz ms k=nz ns k)->ms.length<=ns.length->(ms.length≠0->nz ms (ms.length-1)≠0)->Q (.ref b) H'
def jl(K:W.Frag):Sp:=λvs H Q E=>(∃(a z:Addr)(qs:List (Int×Int)),vs=[.ref a,.ref z]/\ft (vw K H) a qs/\vw K H z=some (.tup [.int 0,.int 1])/\(∀q∈qs,Fq q) /\
 ∀b H' (rs:List (Int×Int)),ay (vw K H) (vw K H')->ft (vw K H') b rs->vw K H b=none->fR rs->(∀k,cf rs k=cf qs k)->rs.length<=qs.length->(∀q∈rs,q∈qs)->Q (.ref b) H')\/ny K vs H Q E
theorem v7(F:fY K "trimmed" "trimmed" ii f fd) (T:iK K mg):cj P w K mg base fW 1 f fd ["numbers", "zero"] (jl K):=by
 have scN:=oF.nd;refine F.okQ oF (λvs H Q E h=>?_) (λcdv A outer s H vs Q E hr h=>?_)
 .rcases h with ⟨a,_,_,rfl,_⟩|⟨a,_,rfl,_⟩<;>rfl
 rcases h with ⟨a,z,qs,rfl,ha,hz,hF,h⟩|⟨a,ns,rfl,ha,h⟩
 .skip
  refine⟨_,(ag (ax (i:=2) scN rfl (·) (az aU (by rfl) T.b_len cC (aa (qv 0) ae)))
   (ag (iw PassesOwn.never (QW.pt (sD (aN nj (qv 2) af (aR _)) (oq (aN (vN hr.u64) (aE eI (qv 0) (aw cK (qv 2) af) (λ_ _=>rfl)) (qv 1) (aR _))))) (aj (jM (i:=2) scN rfl (·) af wl)))
   (aj (aI (jw lD (qv 0) kX (lc (qv 2))))))),?_⟩
  walk_at"m";symm
  refine⟨_,ha.len,λm σ H'=>H'=H/\m<=qs.length/\(∀q∈qs.drop m,q.1=0)/\σ=[some (.ref a),some (.ref z),some (.int m)],⟨_,rfl,Yn _,by simp,rfl⟩,?_⟩
  rintro k σ H' ⟨rfl,hk,hdr,rfl⟩;obtain⟨xs,hax,rx⟩:=ha;have hlx:xs.length=qs.length:=by rw[rx.length,Yb]
  have fin:(∀q,(qs.take k).getLast? = some q->q.1≠0)->Nw K H' (HO.lst (ju xs none (some (k:Int)))) Q:=λhq p H2 hp S2 h2=>by
   rw[sL ()] at h2;refine h p H2 (qs.take k) S2 ⟨_,h2,?_⟩ hp ⟨λq hq'=>hF q (List.mem_of_mem_take hq'),hq⟩ (xA hF hdr) (by rw[Yv];nofun) λq hq'=>List.mem_of_mem_take hq'
   rw[List.map_take];exact (rx.take k).same S2
  symm
  refine cZ (λh0=>?_) (λh0=>?_)
  .have hk1:k-1<qs.length:=();obtain⟨x,hx,r⟩:=rx.at (i:=k-1) (d:=fr qs[k-1]) (by rw[Yj,Ya hk1];rfl)
   have e1:((k:Int)-1)=((k-1:Nat):Int):=();have fq:=hF qs[k-1] (Yp hk1);refine⟨_,hax,_,by rw[e1];exact cw hx,_,r,fr (0,1),cq hz,vD _,vD _,?_⟩
   rw[Cq];refine cZ (λhq=>?_) (λhq=>?_)
   .have hq0:qs[k-1].1=0:=(yc fq).mp (of_decide_eq_true hq);refine⟨_,λσ' H'' z=>z,?_⟩;refine⟨_,_,rfl,rfl,k-1,(),rfl,(),λq' hq'=>?_,by rw[<-e1]⟩
    rw[Xt hk1,show k-1+1=k by nofun] at hq'
    rcases Yh.mp hq' with z|z
    .rw[z];exact hq0
    .exact hdr q' z
   .refine⟨_,hax,fin λq hq2=>?_⟩;have:(qs.take k).getLast? = some qs[k-1]:=by
     rw[YV,Yv,List.getElem?_take];rw[Yg (),show min k qs.length-1=k-1 by nofun,Ya hk1]
    rw[this] at hq2;cases hq2;exact λe=>hq (Xo ((yc fq).mpr e))
  .refine⟨_,hax,fin λq hq=>?_⟩;rw[show k=0 by nofun] at hq
   cases hq
 .refine⟨_,(ag (ax (i:=2) scN rfl (·) (az aU (by rfl) T.b_len cC (aa (qv 0) ae)))
   (ag (iw PassesOwn.never (QW.pt (sD (aN nj (qv 2) af (aR _)) (oq (aN (vN hr.u64) (aE eI (qv 0) (aw cK (qv 2) af) (λ_ _=>rfl)) (qv 1) (aR _))))) (aj (jM (i:=2) scN rfl (·) af wl)))
   (aj (aI (jw lD (qv 0) kX (lc (qv 2))))))),?_⟩
  walk_at"m";symm
  have hln:gH (vw K H) a=some ns.length:=by simp only[gH,ha,Yb]
  refine⟨_,hln,λm σ H'=>H'=H/\m<=ns.length/\(∀q∈ns.drop m,q=0)/\σ=[some (.ref a),some (.int 0),some (.int m)],⟨_,rfl,Yn _,by simp,rfl⟩,?_⟩
  rintro k σ H' ⟨rfl,hk,hdr,rfl⟩;have fin:(k≠0->nz ns (k-1)≠0)->Nw K H' (HO.lst (ju (ns.map V.int) none (some (k:Int)))) Q:=λhz p H2 hp S2 h2=>by
   rw[sL (by simpa using hk),<-List.map_take] at h2
   exact h p H2 (ns.take k) S2 h2 hp (yd hdr) (by rw[Yv];nofun) (by rw[Yv,Nat.min_eq_left hk,yd hdr];exact hz)
  symm
  refine cZ (λh0=>?_) (λh0=>?_)
  .have hk1:k-1<ns.length:=();have e1:((k:Int)-1)=((k-1:Nat):Int):=();have hx:(ns.map V.int)[k-1]? = some (V.int ns[k-1]):=by rw[Yj,Ya hk1];rfl
   refine⟨_,ha,_,by rw[e1];exact cw hx,_,.mk_int _,.int 0,.mk_int _,xc _,xc _,?_⟩
   rw[EL];refine cZ (λhq=>?_) (λhq=>?_)
   .have hq0:ns[k-1]=0:=of_decide_eq_true hq;refine⟨_,λσ' H'' z=>z,?_⟩;refine⟨_,_,rfl,rfl,k-1,(),rfl,(),λq' hq'=>?_,by rw[<-e1]⟩
    rw[Xt hk1,show k-1+1=k by nofun] at hq'
    rcases Yh.mp hq' with z|z
    .rw[z];exact hq0
    .exact hdr q' z
   .exact⟨_,ha,fin λ_=>by rw[aZ (Ya hk1)];exact λe=>hq (Xo e)⟩
  .exact⟨_,ha,fin λz=>by nofun⟩
def bT(K:W.Frag):Sp:=λvs H Q _=>∃(a b:Addr)(ms ns:List Int)(m c:Nat),vs=[.ref a,.ref b]/\vw K H a=some (.lst (ms.map V.int))/\vw K H b=some (.lst (ns.map V.int))/\0<ns.length/\nz ns (ns.length-1)≠0/\ms.length<=19/\ns.length<=9/\m<=40000000/\c<=20000/\(c+1)*ms.length<=290000/\(∀x∈ms,Bt m x)/\(∀x∈ns,Bt c x) /\
 ∀(p qa ra:Addr)(S:Int)(qs rs:List Int)(H':Hp),ay (vw K H) (vw K H')->vw K H' p=some (.tup [.ref qa,.ref ra,.int S])->vw K H' qa=some (.lst (qs.map V.int))->vw K H' ra=some (.lst (rs.map V.int))->vw K H ra=none->qs.length=ms.length+1-ns.length->rs.length<ns.length->(∃e,e<=ms.length+1-ns.length/\S=nz ns (ns.length-1)^e)->(EA ms ns->S=1)->Bt 300000 S->(∀x∈qs,Bt (m+400000) x)->(∀x∈rs,Bt (m+400000) x)->(rs.length≠0->nz rs (rs.length-1)≠0)->(∀k,S*nz ms k=pz (nz qs) (nz ns) qs.length k+nz rs k)->(∀x∈rs,Bt (m+(c+1)*(ms.length+1-ns.length)) x)->Q (.ref p) H'
theorem mL(F:fY K "wholes_parted" "wholes_parted" cT f fd) (T:iK K mg)(N_:qu P base)(C_trimmed:cg P w K mg base "trimmed" ["numbers", "zero"] 1 (jl K)):cj P w K mg base fW 2 f fd ["one", "other"] (bT K):=by
 have scN:=i6.nd;refine F.okQ i6 (λvs H Q E h=>?_) (λcdv A outer s H vs Q E hr h=>?_)
 .obtain⟨a,_,_,_,_,_,rfl,_⟩:=h;rfl
 .obtain⟨a,b,ms,ns,m,c,rfl,ha,hb,ln0,hL,lm,ln,hm,hc,hcm,bm,bn,h⟩:=h;refine⟨_,(ag (ax (i:=2) scN rfl (·) (aE eI (qv 1) (gD eV af) (λ_ _=>rfl)))
   (ag (ax (i:=3) scN rfl (·) (hU pN (by rfl) T.b_list sO (aa (qv 0) ae)))
   (ag (ax (i:=4) scN rfl (·) (aw aV (aJ (aa af ae)) (az (mv rfl) (by rfl) T.b_max wH (aa af (aa (aw bY (aw cK (az aU (by rfl) T.b_len cC (aa (qv 0) ae)) (az aU (by rfl) T.b_len cC (aa (qv 1) ae))) af) ae)))))
   (ag (ax (i:=5) scN rfl (·) af)
   (ag (cL PassesOwn.never rfl (zC rfl T.b_range (aa (aw cK (az aU (by rfl) T.b_len cC (aa (qv 0) ae)) (az aU (by rfl) T.b_len cC (aa (qv 1) ae))) (aa (gD eV af) (aa (gD eV af) ae)))) (aq (i:=6) scN rfl (·)) (ag (ax (i:=7) scN rfl (·) (tE YR PySem.F.slot_list_pop PySem.F.type_list_pop xD (qv 3)))
   (ag (dy (aN ik (aw gU (qv 7) (qv 2)) af (aR _)) (aj (jM (i:=7) scN rfl (·) (qv 2) (Dm N_ hr rfl rfl rfl))) (ag (jM (i:=5) scN rfl (·) (qv 2) ow)
   (ag (oe (i:=4) (own:=["whole"]) (outs:=["last"]) (ixs:=[2]) scN rfl (·) rfl (bU (qv 4)) rfl ⟨rfl,rfl,rfl,⟨rfl,trivial⟩,rfl,⟨⟨rfl,rfl,rfl,_,rfl⟩,trivial⟩⟩ (λ_ _ _ _=>⟨(aq (i:=0) (show (["whole", "last"]:List Str).Nodup by decide +kernel) rfl (·)),gh,(aw (show gk _ _ (jv K) from aV) (qv 1) (qv 0))⟩))
   (aj (oe (i:=3) (own:=["whole"]) (outs:=["last"]) (ixs:=[2]) scN rfl (·) rfl (bU (qv 3)) rfl ⟨rfl,rfl,rfl,⟨rfl,trivial⟩,rfl,⟨⟨rfl,rfl,rfl,_,rfl⟩,trivial⟩⟩ (λ_ _ _ _=>⟨(aq (i:=0) (show (["whole", "last"]:List Str).Nodup by decide +kernel) rfl (·)),gh,(aw (show gk _ _ (jv K) from aV) (qv 1) (qv 0))⟩))))))
   (ag (gd (qv 7) (pe (qv 4) (qv 6) gf))
   (aj (cL PassesOwn.never rfl (fe rfl T.b_range (aa (aw cK (az aU (by rfl) T.b_len cC (aa (qv 1) ae)) af) ae)) (aq (i:=8) scN rfl (·)) (aj (w8 (qv 3) (aw bY (qv 6) (qv 8)) qL (aw aV (qv 7) (aE eI (qv 1) (qv 8) (λ_ _=>rfl))) wl gf))))))))
   (aj (aI (aP (aa (qv 4) (aa (av C_trimmed nofun rfl (aa (qv 3) (aa af ae))) (aa (qv 5) ae))))))))))),?_⟩
  walk_at"m";skip
  obtain⟨L,hLd⟩ : ∃L,L=nz ns (ns.length-1):=⟨_,rfl⟩;have hgl:ns.length-1<ns.length:=();have nl:ns[ns.length-1]=L:=by rw[hLd,aZ (Ya hgl)]
  have bL:Bt c L:=nl▸bn _ (Yp hgl);rw[<-hLd] at hL;have xl:(ns.map V.int).getLast? = some (.int L):=by
   rw[YV,Yb,Yj,Ya hgl,nl];rfl
  refine aT.gen λN1 hN1=>?_;symm
  refine⟨_,hb,_,jh xl,hN1 _ _ ?_⟩;refine aT.gen λN2 hN2=>?_;symm
  refine⟨_,ha,λr1 H1 hr1 S1 h1=>hN2 _ _ ?_⟩;refine aT.gen λN3 hN3=>?_;symm
  have lena:∀{H':Hp},ay (vw K H) (vw K H')->gH (vw K H') a=some ms.length:=λS=>by simp only[gH,S _ _ ha,Yb]
  have lenb:∀{H':Hp},ay (vw K H) (vw K H')->gH (vw K H') b=some ns.length:=λS=>by simp only[gH,S _ _ hb,Yb]
  refine⟨∅,λp2 H2 hp2 S2 h2=>?_⟩;have S02:=S1.trans S2;refine⟨_,lena S02,_,lenb S02,?_⟩;obtain⟨n,hn,hnn⟩ : ∃n:Nat,(if (ms.length:Int)-(ns.length:Int)+1 > 0 then (ms.length:Int)-(ns.length:Int)+1 else 0)=(n:Int)/\n=ms.length+1-ns.length:=by
   refine⟨ms.length+1-ns.length,?_,rfl⟩;split<;>nofun
  rw[hn,jJ];refine⟨_,h2,(),(),?_,λq1 H3 hq1 S3 h3=>hN3 _ _ ?_⟩
  .have:1000<=sizeLine:=∅;simp;nofun
  rw[show ((n:Nat):Int).toNat=n by nofun,uN] at h3
  have S03:=S02.trans S3;refine aT.gen λN4 hN4=>?_;symm
  refine hN4 _ _ ?_;refine aT.gen λN5 hN5=>?_;symm
  simp only[CP];symm
  refine⟨_,lena S03,_,lenb S03,(),(),∅,∅,?_⟩;rw[show ((ms.length:Int)-(ns.length:Int) - -1).toNat=n by nofun]
  have nr1:vw K H r1=none:=hr1;have nq1:vw K H q1=none:=S02.none hq1;obtain⟨Pv,hPv⟩ : ∃Pv:Nat->St->Hp->Prop,∀i σ H',Pv i σ H' ↔ ∃(ra qa:Addr)(rs qs:List Int)(S:Int)(o6 o7 o8:Option V),σ=[some (.ref a),some (.ref b),some (.int L),some (.ref ra),some (.ref qa),some (.int S),o6,o7,o8]/\ay (vw K H) (vw K H') /\
    vw K H' ra=some (.lst (rs.map V.int))/\vw K H' qa=some (.lst (qs.map V.int))/\vw K H ra=none/\vw K H qa=none/\ra≠qa/\rs.length+i=ms.length/\qs.length=n/\(∃e,e<=i/\S=L^e/\(EA ms ns->S=1))/\Bt (1+c*i) S/\(∀x∈rs,Bt (m+(c+1)*i) x)/\(∀x∈qs,Bt (m+(c+1)*i) x) /\
    (∀k,k+i+ns.length<=ms.length->nz qs k=0)/\(∀k,S*nz ms k=pz (nz qs) (nz ns) n k+nz rs k):=⟨_,λ_ _ _=>Iff.rfl⟩
  refine aY (its:=Ah ((ms.length:Int)-(ns.length:Int)) n) Pv (λ_ _ _ _ _=>BZ) ((hPv _ _ _).mpr ⟨r1,q1,ms,List.replicate n 0,1,_,_,_,rfl,S03,(S2.trans S3) _ _ h1,?_,nr1,nq1,?_,(),by simp,⟨0,(),(XD _).symm,λ_=>rfl⟩,?_,λx hx=>(bm x hx).mono (),λx hx=>?_,λk _=>?_,λk=>?_⟩) (λi x σ H4 hi hx pv=>?_) (λσ H4 pv=>?_)
  .rw[h3,yp]
  .exact ak (S2 _ _ h1) hq1
  .exact Bt.mono (m:=1) ∅ ()
  .rw[(List.mem_replicate.mp hx).2];exact gv
  .unfold nz;rw[YH,List.getElem?_replicate];split<;>rfl
  .rw[xx (f:=nz (List.replicate n 0)) (λi=>by
    unfold nz;rw[YH,List.getElem?_replicate];split<;>rfl)]
   nofun
  .obtain⟨ra,qa,rs,qs,S,o6,o7,o8,rfl,S4,hra,hqa,nra,nqa,nrq,lrs,lqs,nS,bS,br,bq,zq,ev⟩:=(hPv _ _ _).mp pv;obtain⟨hi',rfl⟩:=Ig hx;obtain⟨p,hp⟩ : ∃p:Nat,(ms.length:Int)-(ns.length:Int)-(i:Int)=(p:Int):=⟨ms.length-ns.length-i,()⟩;have hpi:p+i+ns.length=ms.length:=();have hrl:rs.length-1<rs.length:=();obtain⟨Pt,hPt⟩ : ∃Pt,Pt=rs[rs.length-1]:=⟨_,rfl⟩;have hi9:i<=ms.length:=();have hci:(c+1)*i<=290000:=YB (Y9 _ hi9) hcm;have hci2:c*i<=290000:=YB (Xf (Nat.le_succ c) hi9) hcm;rw[hp];simp only[jL];refine aT.gen λM1 hM1=>?_;symm
   have xp:(rs.map V.int)[(rs.map V.int).length-1]? = some (.int Pt):=by
    rw[Yb,Yj,Ya hrl,hPt];rfl
   refine⟨mB hra,_,hra,_,xp,λH5 B5 h5=>hM1 _ _ ?_⟩;rw[<-List.map_dropLast] at h5;have S5:ay (vw K H) (vw K H5):=λy o e=>B5 _ _ (ak e nra) (S4 _ _ e);have hqa5:=B5 _ _ nrq.symm hqa;have bP:Bt (m+(c+1)*i) Pt:=hPt▸br _ (Yp hrl);have fx:rs.length-1=p+(ns.length-1):=();have nP:nz rs (p+(ns.length-1))=Pt:=by rw[<-fx,aZ (Ya hrl),hPt]
   have ldl:rs.dropLast.length+(i+1)=ms.length:=by rw[List.length_dropLast];nofun
   refine aT.gen λM2 hM2=>?_;have key:∀(ra' qa':Addr)(R:Nat->Int)(rs1 qs1:List Int)(S1 part:Int)(H':Hp),ay (vw K H) (vw K H')->vw K H' ra'=some (.lst (rs1.map V.int))->vw K H' qa'=some (.lst (qs1.map V.int))->vw K H ra'=none->vw K H qa'=none->ra'≠qa'->rs1.length+(i+1)=ms.length->qs1.length=n->(∃e,e<=i+1/\S1=L^e/\(EA ms ns->S1=1))->Bt (1+c*(i+1)) S1 ->
     (∀x∈rs1,Bt (m+(c+1)*i+c) x)->(∀x∈qs1,Bt (m+(c+1)*i+c) x)->Bt (m+(c+1)*i) part->(∀k,k+i+ns.length<=ms.length->nz qs1 k=0)->(∀k,S1*nz ms k=pz (nz qs1) (nz ns) n k+R k)->R (p+(ns.length-1))=part*L->(∀k,nz rs1 k=if k=p+(ns.length-1) then 0 else R k) ->
     M2 [some (.ref a),some (.ref b),some (.int L),some (.ref ra'),some (.ref qa'),some (.int S1),some (.int p),some (.int part),o8] H':=by
    intro ra' qa' R rs1 qs1 S1 part H' Sx hr' hq' nr' nq' ne' l1 l2 n1 b1 b2 b3 b4 z1 e1 e2 e3;refine hM2 _ _ ?_;refine aT.gen λM3 hM3=>?_;symm
    refine⟨_,hq',p,nU (by rw[Yb];nofun),λH7 B7 h7=>hM3 _ _ ?_⟩
    rw[<-List.map_set] at h7;have S7:ay (vw K H) (vw K H7):=λy o e=>B7 _ _ (ak e nq') (Sx _ _ e);have hr7:=B7 _ _ ne' hr';symm
    refine⟨_,lenb S7,(),(),?_⟩;rw[show ((ns.length:Int)-1).toNat=ns.length-1 by nofun]
    obtain⟨Pw,hPw⟩ : ∃Pw:Nat->St->Hp->Prop,∀l σ H',Pw l σ H' ↔ ∃(rs2:List Int)(o8:Option V),σ=[some (.ref a),some (.ref b),some (.int L),some (.ref ra'),some (.ref qa'),some (.int S1),some (.int p),some (.int part),o8]/\ay (vw K H) (vw K H')/\vw K H' ra'=some (.lst (rs2.map V.int))/\vw K H' qa'=some (.lst ((qs1.set p part).map V.int))/\rs2.length=rs1.length /\
      (∀x∈rs2,Bt (m+(c+1)*(i+1)) x) /\ ∀k,nz rs2 k=nz rs1 k-if p<=k/\k<p+l then part*nz ns (k-p) else 0:=⟨_,λ_ _ _=>Iff.rfl⟩
    have more:(c+1)*(i+1)=(c+1)*i+(c+1):=by rw[Nat.mul_add];nofun
    refine aY (its:=iB 0 (ns.length-1)) Pw (λ_ _ _ _ _=>cp) ((hPw _ _ _).mpr ⟨rs1,_,rfl,S7,hr7,h7,rfl,λx hx=>(b2 x hx).mono (),λk=>by rw[Yc ()];nofun⟩) (λl x σ H8 hl hx pw=>?_) (λσ H8 pw=>?_)
    .obtain⟨rs2,o8',rfl,S8,hr8,hq8,l8,b8,e8⟩:=(hPw _ _ _).mp pw;obtain⟨hl',rfl⟩:=iI hx;have hpl:p+l<rs2.length:=();have hln:l<ns.length:=();simp only[yA,KB];symm
     have xr:(rs2.map V.int)[p+l]? = some (.int rs2[p+l]):=by rw[Yj,Ya hpl];rfl
     have xn:(ns.map V.int)[l]? = some (.int ns[l]):=by rw[Yj,Ya hln];rfl
     have epl:(p:Int)+(0+(l:Int))=((p+l:Nat):Int):=();have vr:rs2[p+l]=nz rs1 (p+l):=by
      have:=e8 (p+l);rw[aZ (Ya hpl),Yc ()] at this;nofun
     have vn:ns[l]=nz ns l:=(aZ (Ya hln)).symm;refine⟨_,hr8,_,by rw[epl];exact cw xr,_,S8 _ _ hb,_,by rw[Int.zero_add];exact cw xn,?_⟩
     rw[eP];refine⟨cQ b4 (bn _ (Yp hln)) (),_,rfl,_,rfl,_,hr8,p+l,by rw[epl];exact nU (by rw[Yb];exact hpl),λH9 B9 h9=>?_⟩
     rw[<-List.map_set] at h9;refine (hPw _ _ _).mpr ⟨rs2.set (p+l) (rs2[p+l]-part*ns[l]),_,rfl,λy o e=>B9 _ _ (ak e nr') (S8 _ _ e),h9,B9 _ _ ne'.symm hq8,by rw[XX];exact l8,λx hx=>?_,λk=>?_⟩
     .rcases List.mem_or_eq_of_mem_set hx with z|rfl
      .exact b8 x z
      .have y1:Bt (m+(c+1)*i+c) rs2[p+l]:=by rw[vr];exact pK b2 _
       have y2:Bt (m+(c+1)*i+c) (part*ns[l]):=b4.mul (bn _ (Yp hln));unfold Bt at y1 y2 ⊢;rw[more,show m+((c+1)*i+(c+1))=(m+(c+1)*i+c)+1 by nofun,X4]
       nofun
     .rw[sG hpl,e8 k];by_cases hk:k=p+l
      .subst hk;rw[Yg rfl,Yg (),show p+l-p=l by nofun,vr,vn]
      .rw[Yc hk];by_cases hk2:p<=k/\k<p+l
       .rw[Yg hk2,Yg ()]
       .rw[Yc hk2,Yc ()]
    .obtain⟨rs2,o8',rfl,S8,hr8,hq8,l8,b8,e8⟩:=(hPw _ _ _).mp pw;rw[dY] at e8;refine (hPv _ _ _).mpr ⟨ra',qa',rs2,qs1.set p part,S1,_,_,_,rfl,S8,hr8,hq8,nr',nq',ne',(),by rw[XX];exact l2,n1,b1,b8,λx hx=>?_,λk hk=>?_,?_⟩
     .rcases List.mem_or_eq_of_mem_set hx with z|rfl
      .exact (b3 x z).mono ()
      .exact b4.mono ()
     .rw[sG (),Yc ()];exact z1 k ()
     .exact Af (l:=ns.length-1) e1 (z1 p ()) (λk=>sG ()) () (λj hj=>aS ()) (by rw[e2,hLd]) e3 e8
   symm
   refine⟨hL,cZ (λe0=>?_) (λe0=>?_)⟩
   .have dv:L∣Pt:=Int.dvd_of_fmod_eq_zero e0;have em:Pt.fdiv L*L=Pt:=gC hL dv;have bd:Bt (m+(c+1)*i) (Pt.fdiv L):=by
     unfold Bt at bP ⊢;have e1:(Pt.fdiv L).natAbs*L.natAbs=Pt.natAbs:=by rw[<-YI,em]
     have e2:(Pt.fdiv L).natAbs*1<=(Pt.fdiv L).natAbs*L.natAbs:=Y9 _ ();nofun
    refine⟨hL,key ra qa (nz rs) rs.dropLast qs S (Pt.fdiv L) H5 S5 h5 hqa5 nra nqa nrq ldl lqs (nS.elim λe z=>⟨e,(),z.2⟩) (bS.mono (by rw[Nat.mul_add];nofun)) (λx hx=>(br x ((List.dropLast_sublist _).subset hx)).mono ()) (λx hx=>(bq x hx).mono ()) bd zq ev (by rw[nP,em]) (λk=>by rw[nD,fx])⟩
   .refine⟨cQ bS bL (),⟨_,.of (aF hqa5)⟩,λq6 H6 hq6 S6 h6=>?_⟩;refine bH (its:=qs.map V.int) (λj zs H'=>ay (vw K H5) (vw K H')/\zs=((qs.take j).map λx=>L*x).map V.int) (λj zs H' _ _ z=>aM (z.1 _ _ hqa5)) h6 ⟨S6,rfl⟩ (λj x zs H' hj hx h' z=>?_) (λzs H7 h7 z=>?_)
    .obtain⟨z1,rfl⟩:=z;rw[Yb] at hj;rw[Yj,Ya hj] at hx;cases hx;symm
     refine⟨cQ bL (bq _ (Yp hj)) (),.mk h' ?_ λH8 B8 h8=>⟨λy o e=>B8 _ _ (ak e hq6) (z1 _ _ e),?_⟩⟩
     .rw[Yb,Yb,Yv];have:1000<=sizeLine:=∅;nofun
     .rw[Yw,Ya hj,Yq,Yq];rfl
    obtain⟨S57,rfl⟩:=z;rw[Yb,Y7] at h7;have h57:=S57 _ _ h5;refine⟨⟨_,.of (aF h57)⟩,λr8 H8 hr8 S8 h8=>?_⟩;refine bH (its:=rs.dropLast.map V.int) (λj zs H'=>ay (vw K H7) (vw K H')/\zs=((rs.dropLast.take j).map λx=>L*x).map V.int) (λj zs H' _ _ z=>aM (z.1 _ _ h57)) h8 ⟨S8,rfl⟩ (λj x zs H' hj hx h' z=>?_) (λzs H9 h9 z=>?_)
    .obtain⟨z1,rfl⟩:=z;rw[Yb] at hj;rw[Yj,Ya hj] at hx;cases hx;symm
     refine⟨cQ bL (br _ ((List.dropLast_sublist _).subset (Yp hj))) (),.mk h' ?_ λH8 B8 h8=>⟨λy o e=>B8 _ _ (ak e hr8) (z1 _ _ e),?_⟩⟩
     .rw[Yb,Yb,Yv];have:1000<=sizeLine:=∅;nofun
     .rw[Yw,Ya hj,Yq,Yq];rfl
    obtain⟨S79,rfl⟩:=z;rw[Yb,Y7] at h9;have S07:=S5.trans S57;refine key r8 q6 (λk=>L*nz rs k) _ _ (S*L) Pt H9 (S07.trans S79) h9 (S79 _ _ h7) (S07.none hr8) (S5.none hq6) (ak h7 hr8).symm (by rw[Yb];exact ldl) (by rw[Yb];exact lqs) (nS.elim λe z=>⟨e+1,(),by rw[z.2.1,XE],λex=>absurd (Int.fmod_eq_zero_of_dvd (by have dv:=zh ln0 (show rs.length=p+ns.length by nofun) lqs (λk=>by rw[<-ev k,z.2.2 ex,YG]) (hLd▸hL) ex;rw[nP,<-hLd] at dv;exact dv)) e0⟩) ((bS.mul bL).mono (by rw[Nat.mul_add];nofun)) (λx hx=>?_) (λx hx=>?_) bP (λk hk=>?_) (λk=>?_) ?_ (λk=>?_)
    .obtain⟨y,hy,rfl⟩:=YX.mp hx;exact (bL.mul (br y ((List.dropLast_sublist _).subset hy))).mono ()
    .obtain⟨y,hy,rfl⟩:=YX.mp hx;exact (bL.mul (bq y hy)).mono ()
    .rw[cW,zq k hk];nofun
    .rw[show nz (qs.map λx=>L*x)=λk=>L*nz qs k from funext λk=>cW k,tU,<-Int.mul_add,<-ev k,Y2 S L,YJ]
    .show L*nz rs (p+(ns.length-1))=Pt*L;rw[nP,Y2]
    .rw[cW,nD,fx];split<;>simp
  .obtain⟨ra,qa,rs,qs,S,o6,o7,o8,rfl,S4,hra,hqa,nra,nqa,nrq,lrs,lqs,nS,bS,br,bq,zq,ev⟩:=(hPv _ _ _).mp pv;rw[DB] at lrs nS bS br bq zq;refine hN5 _ _ ?_;symm
   simp only[jl];refine .inr ?_;simp only[ny];symm
   refine⟨rs,hra,λd H5 ts S5 hd nd e5 l5 z5=>⟨∅,λp6 H6 hp6 S6 h6=>?_⟩⟩;have n9:n<=ms.length:=();have k1:c*n<=290000:=YB (Xf (Nat.le_succ c) n9) hcm;have k2:(c+1)*n<=290000:=YB (Y9 _ n9) hcm;refine h p6 qa d S qs ts H6 (S4.trans (S5.trans S6)) h6 ((S5.trans S6) _ _ hqa) (S6 _ _ hd) (S4.none nd) () () (nS.elim λe z=>⟨e,(),z.2.1.trans (by rw[hLd])⟩) (nS.elim λe z=>z.2.2) (bS.mono ()) (λx hx=>(bq x hx).mono ()) (λx hx=>?_) z5 (λk=>?_) (λx hx=>?_)
   .obtain⟨k,hk⟩:=Xy hx;have e:=e5 k;rw[aZ hk] at e;rw[e];exact (pK br k).mono ()
   .rw[lqs,e5 k];exact ev k
   .obtain⟨k,hk⟩:=Xy hx;have e:=e5 k;rw[aZ hk] at e;rw[e,show ms.length+1-ns.length=n by nofun]
    exact pK br k
def kU(K:W.Frag):Sp:=λvs H Q _=>∃(x:Int)(n b:Nat),vs=[.int x,.int n]/\n<=20/\b<=20000/\Bt b x/\Q (.int (x^n)) H
theorem AN(F:fY K "power" "power" jU f fd) (T:iK K mg):cj P w K mg base fW 1 f fd ["base", "many"] (kU K):=by
 have scN:=uw.nd;refine F.okQ uw (λvs H Q E h=>?_) (λcdv A outer s H vs Q E hr h=>?_)
 .obtain⟨_,_,_,rfl,_⟩:=h;rfl
 .obtain⟨x,n,b,rfl,hn,hb,bx,h⟩:=h;refine⟨_,(ag (ax (i:=2) scN rfl (·) af)
   (ag (cL PassesOwn.never rfl (fe rfl T.b_range (aa (qv 1) ae)) (aq (i:=3) scN rfl (·)) (aj (jM (i:=2) scN rfl (·) (qv 0) ow)))
   (aj (aI (qv 2))))),?_⟩
  walk_at"m";symm
  refine⟨(),(),?_⟩;rw[show ((n:Nat):Int).toNat=n by nofun]
  obtain⟨Pv,hPv⟩ : ∃Pv:Nat->St->Hp->Prop,∀i σ H',Pv i σ H'↔H'=H /\ ∃o,σ=[some (.int x),some (.int n),some (.int (x^i)),o]:=⟨_,λ_ _ _=>Iff.rfl⟩;refine aY (its:=iB 0 n) Pv (λ_ _ _ _ _=>cp) ((hPv _ _ _).mpr ⟨rfl,_,by rw[XD]⟩) (λi y σ H1 hi hy pv=>?_) (λσ H1 pv=>?_)
  .obtain⟨rfl,o,rfl⟩:=(hPv _ _ _).mp pv;obtain⟨hi',rfl⟩:=iI hy;symm
   have b1:=bx.pow1 i;have:b*i<=20000*20:=Xf hb ();refine⟨cQ b1 bx (),(hPv _ _ _).mpr ⟨rfl,_,by rw[XE]⟩⟩
  .obtain⟨rfl,o,rfl⟩:=(hPv _ _ _).mp pv;rw[dY];symm
   exact h
def dN(K:W.Frag):Sp:=λvs H Q _=>∃(a:Addr)(ns:List Int)(b:Nat),vs=[.ref a]/\vw K H a=some (.lst (ns.map V.int))/\ns.length<=40/\b<=20000/\(∀x∈ns,Bt b x)/\(ns≠[]->nz ns (ns.length-1)≠0) /\
 ∀d H' (ms:List Int)(g:Int),ay (vw K H) (vw K H')->vw K H' d=some (.lst (ms.map V.int))->vw K H d=none->ms.length=ns.length->0<g->(∀k,nz ns k=g*nz ms k)->(ns≠[]->jO (nz ms))->(∀x∈ms,Bt b x)->Q (.ref d) H'
theorem wU(F:fY K "lowered" "lowered" hV f fd) (T:iK K mg)(N_:qu P base)(C_greatest_divisor:cg P w K mg base "greatest_divisor" ["one", "other"] 1 (bZ K)):cj P w K mg base fW 2 f fd ["wholes"] (dN K):=by
 have scN:=oQ.nd;refine F.okQ oQ (λvs H Q E h=>?_) (λcdv A outer s H vs Q E hr h=>?_)
 .obtain⟨_,_,_,rfl,_⟩:=h;rfl
 .obtain⟨a,ns,b,rfl,ha,hl,hb,bn,nl,h⟩:=h;refine⟨_,(ag (ax (i:=1) scN rfl (·) af)
   (ag (cL PassesOwn.never rfl (bU (qv 0)) (aq (i:=2) scN rfl (·)) (aj (ax (i:=1) scN rfl (·) (av C_greatest_divisor nofun rfl (aa (qv 1) (aa (qv 2) ae))))))
   (aj (aI (fv (own:=["whole"]) (outs:=["divisor"]) (ixs:=[1]) rfl (bU (qv 0)) rfl ⟨rfl,rfl,rfl,⟨rfl,trivial⟩,rfl,⟨⟨rfl,rfl,rfl,_,rfl⟩,trivial⟩⟩ (λ_ _ _ _=>⟨(aq (i:=0) (show (["whole", "divisor"]:List Str).Nodup by decide +kernel) rfl (·)),gh,(aw (uR N_ hr rfl rfl rfl rfl rfl) (qv 0) (qv 1))⟩)))))),?_⟩
  walk_at"m";refine aT.gen λN1 hN1=>?_;symm
  refine hN1 _ _ ?_;refine aT.gen λN2 hN2=>?_;symm
  refine⟨⟨_,.of (aF ha)⟩,?_⟩;obtain⟨Pv,hPv⟩ : ∃Pv:Nat->St->Hp->Prop,∀i σ H',Pv i σ H'↔H'=H /\ ∃(g:Int)(o:Option V),σ=[some (.ref a),some (.int g),o]/\(∀x∈ns.take i,g∣x)/\0<=g /\ ∀e:Int,(∀x∈ns.take i,e∣x)->e∣g:=⟨_,λ_ _ _=>Iff.rfl⟩;refine aY (its:=ns.map V.int) Pv (λi σ H' _ p=>?_) ((hPv _ _ _).mpr ⟨rfl,_,_,rfl,by simp,∅,λe _=>Int.dvd_zero e⟩) (λi y σ H1 hi hy pv=>?_) (λσ H1 pv=>?_)
  .obtain⟨rfl,_⟩:=(hPv _ _ _).mp p;exact aM ha
  .obtain⟨rfl,g,o,rfl,hg,gp,hd⟩:=(hPv _ _ _).mp pv;rw[Yb] at hi;rw[Yj,Ya hi] at hy;cases hy;symm
   simp only[bZ];symm
   refine (hPv _ _ _).mpr ⟨rfl,_,_,rfl,λx hx=>?_,(),λe he=>?_⟩
   .rw[Yw,Ya hi] at hx;rcases YK.mp hx with z|z
    .exact Int.dvd_trans (Int.gcd_dvd_left _ _) (hg x z)
    .cases Yk.mp z;exact XU _ _
   .rw[Yw,Ya hi] at he;exact Int.dvd_coe_gcd (hd e λx z=>he x (XZ _ z)) (he _ (YT _ (Yk.mpr rfl)))
  .obtain⟨rfl,g,o,rfl,hg,gp,hd⟩:=(hPv _ _ _).mp pv;rw[Yb,Y7] at hg hd;refine hN2 _ _ ?_;symm
   have hgn:ns≠[]->g≠0/\Bt b g:=λz=>by
    have lp:ns.length-1<ns.length:=by have:=Yy.mpr z;nofun
    have n1:=nl z;rw[aZ (Ya lp)] at n1;have d1:=hg _ (Yp lp);have b1:=bn _ (Yp lp);refine⟨λe=>n1 (by rw[e] at d1;exact Int.zero_dvd.mp d1),?_⟩
    have:=Nat.le_of_dvd () (Xu.mpr d1);unfold Bt at b1 ⊢;nofun
   refine⟨⟨_,.of (aF ha)⟩,λd H2 hnd S2 h2=>?_⟩;refine bH (its:=ns.map V.int) (λj zs H'=>ay (vw K H1) (vw K H')/\zs=((ns.take j).map λx=>x.fdiv g).map V.int) (λj zs H' _ _ z=>aM (z.1 _ _ ha)) h2 ⟨S2,rfl⟩ (λj x zs H' hj hx h' z=>?_) (λzs H3 h3 z=>?_)
   .obtain⟨z1,rfl⟩:=z;rw[Yb] at hj;rw[Yj,Ya hj] at hx;cases hx;obtain⟨g1,g2⟩:=hgn (λe=>by rw[e] at hj;simp at hj)
    symm
    refine⟨g1,.mk h' ?_ λH8 B8 h8=>⟨λy o e=>B8 _ _ (ak e hnd) (z1 _ _ e),?_⟩⟩
    .rw[Yb,Yb,Yv];have:1000<=sizeLine:=∅;nofun
    .rw[Yw,Ya hj,Yq,Yq];rfl
   .obtain⟨z1,rfl⟩:=z;rw[Yb,Y7] at h3;by_cases e:ns=[]
    .subst e;exact h d H3 [] 1 z1 h3 hnd rfl ∅ (λk=>by rw[YG]) (λz=>absurd rfl z) (by simp)
    obtain⟨g1,g2⟩:=hgn e;have em:∀x∈ns,x=g*x.fdiv g:=λx hx=>by rw[Y2];exact (gC g1 (hg x hx)).symm
    have nm:∀k,nz ns k=g*nz (ns.map λx=>x.fdiv g) k:=λk=>?_;refine h d H3 _ g z1 h3 hnd (by rw[Yb]) () nm (λ_ q hq=>?_) (λx hx=>?_)
    .have d1:g*q∣g:=hd (g*q) λx hx=>by
      obtain⟨k,hk⟩:=Xy hx;have e1:=nm k;rw[aZ hk] at e1;rw[e1];exact Int.mul_dvd_mul_left g (hq k)
     obtain⟨c,hc⟩:=d1;have hc':g*1=g*(q*c):=by rw[XM,<-YJ];exact hc
     have q1:1=q*c:=Int.eq_of_mul_eq_mul_left g1 hc';have:=X7 Int.natAbs q1;rw[YI] at this;exact Nat.eq_one_of_mul_eq_one_right this.symm
    .obtain⟨y,hy,rfl⟩:=YX.mp hx;have e1:(g*y.fdiv g).natAbs=g.natAbs*(y.fdiv g).natAbs:=YI _ _;rw[<-em y hy] at e1;have e2:1*(y.fdiv g).natAbs<=g.natAbs*(y.fdiv g).natAbs:=Xg _ ();have b1:=bn y hy;unfold Bt at b1 ⊢;nofun
    .cases ek:ns[k]? with
     | none =>
      have l:=List.getElem?_eq_none_iff.mp ek;rw[aS l,aS (by rw[Yb];exact l),Yz]
     | some y =>
      rw[aZ ek,aZ (n:=y.fdiv g) (by rw[Yj,ek];rfl)]
      exact em y (YQ ek)
def qE(G:Hp)(t:Addr)(tv:List V)(rows:List (List Int×List Int×Int×Int)):Prop:=tv.length=rows.length /\ ∀(k:Nat) row,rows[k]? = some row -> ∃p ra qa:Addr,tv[k]? = some (.ref p)/\G p=some (.tup [.ref ra,.ref qa,.int row.2.2.1,.int row.2.2.2])/\G ra=some (.lst (row.1.map V.int))/\G qa=some (.lst (row.2.1.map V.int))/\ra≠t/\qa≠t
theorem qE.same{G G':Hp}{t:Addr}{tv:List V}{rows:List (List Int×List Int×Int×Int)}(h:qE G t tv rows)(S:ay G G'):qE G' t tv rows:=⟨h.1,λk row e=>by
 obtain⟨p,ra,qa,a,b,c,d,n⟩:=h.2 k row e;exact⟨p,ra,qa,a,S _ _ b,S _ _ c,S _ _ d,n⟩⟩
def GP(row:List Int×List Int×Int×Int):Prop:=row.1.length<=9/\(∀x∈row.1,Bt 17840 x)/\Bt 200000 row.2.2.1/\Bt 200000 row.2.2.2/\row.2.1.length<=9/\1<=row.2.1.length /\ ∀x∈row.2.1,Bt 700000 x
def fA(K:W.Frag):Sp:=λvs H Q _=>∃(a b:Addr)(ms ns:List Int),vs=[.ref a,.ref b]/\vw K H a=some (.lst (ms.map V.int))/\vw K H b=some (.lst (ns.map V.int))/\ms≠[]/\ns.length<=ms.length/\iZ 1110 ms/\iZ 1110 ns /\
 ∀(d:Addr)(H':Hp)(tv:List V) rows,ay (vw K H) (vw K H')->vw K H' d=some (.lst tv)->qE (vw K H') d tv rows->m7 ms ns rows->rows.length<=9->(∀row∈rows,GP row)->Q (.ref d) H'
theorem nI(F:fY K "wholes_rests" "wholes_rests" dF f fd) (T:iK K mg)(N_:qu P base)(C_power:cg P w K mg base "power" ["base", "many"] 1 (kU K)) (C_wholes_parted:cg P w K mg base "wholes_parted" ["one", "other"] 2 (bT K)):cj P w K mg base fW 3 f fd ["one", "other"] (fA K):=by
 have scN:=jr.nd;refine F.okQ jr (λvs H Q E h=>?_) (λcdv A outer s H vs Q E hr h=>?_)
 .obtain⟨_,_,_,_,rfl,_⟩:=h;rfl
 .obtain⟨a,b,ms,ns,rfl,ha,hb,m0,lmn,im,il,h⟩:=h;refine⟨_,(ag (ax (i:=2) scN rfl (·) (aJ ae))
   (ag (gd (aP (aa af (aa af ae))) (dU (n:=2) rfl (aB (aq (i:=3) scN rfl (·)) (aB (aq (i:=4) scN rfl (·)) dQ))))
   (ag (iw PassesOwn.never (dZ (qv 1) (λ_=>rfl)) (ag (ax (i:=5) scN rfl (·) (aw cK (az aU (by rfl) T.b_len cC (aa (qv 0) ae)) (az aU (by rfl) T.b_len cC (aa (qv 1) ae))))
   (ag (ax (i:=6) scN rfl (·) (av C_power nofun rfl (aa (aE eI (qv 1) (gD eV af) (λ_ _=>rfl)) (aa (aw bY (qv 5) af) ae))))
   (ag (gd (av C_wholes_parted nofun rfl (aa (qv 0) (aa (qv 1) ae))) (dU (n:=3) rfl (aB (aq (i:=7) scN rfl (·)) (aB (aq (i:=8) scN rfl (·)) (aB (aq (i:=9) scN rfl (·)) dQ)))))
   (ag (ax (i:=10) scN rfl (·) (aw aV (qv 3) (av C_power nofun rfl (aa (qv 4) (aa (qv 5) ae)))))
   (ag (dy (dZ (qv 8) (λ_=>rfl)) (ag (ax (i:=11) scN rfl (·) (aw (jC N_ hr rfl rfl rfl) (qv 6) (qv 9)))
   (ag (oe (i:=8) (own:=["whole"]) (outs:=["top", "lack"]) (ixs:=[10,11]) scN rfl (·) rfl (bU (qv 8)) rfl ⟨rfl,rfl,rfl,⟨rfl,⟨rfl,trivial⟩⟩,rfl,⟨⟨rfl,rfl,rfl,_,rfl⟩,⟨⟨rfl,rfl,rfl,_,rfl⟩,trivial⟩⟩⟩ (λ_ _ _ _=>⟨(aq (i:=0) (show (["whole", "top", "lack"]:List Str).Nodup by decide +kernel) rfl (·)),gh,(aw (AH N_ hr rfl rfl rfl rfl rfl) (aw (show gk _ _ (jv K) from aV) (qv 2) (qv 0)) (qv 1))⟩))
   (aj (fP (ku YR Y6 Y5 dX (qv 2) (aa (aP (aa (qv 8) (aa (fv (own:=["whole"]) (outs:=["lack"]) (ixs:=[11]) rfl (bU (qv 7)) rfl ⟨rfl,rfl,rfl,⟨rfl,trivial⟩,rfl,⟨⟨rfl,rfl,rfl,_,rfl⟩,trivial⟩⟩ (λ_ _ _ _=>⟨(aq (i:=0) (show (["whole", "lack"]:List Str).Nodup by decide +kernel) rfl (·)),gh,(aw (show gk _ _ (jv K) from aV) (qv 1) (qv 0))⟩)) (aa (qv 10) (aa (qv 6) ae))))) ae)))))) bC)
   (ag (pi (i:=0) (j:=1) rfl scN rfl rfl ∅ rfl rfl (aa (qv 1) (aa (qv 8) ae)) rfl)
   (ag (ax (i:=3) scN rfl (·) (aE eI (qv 0) (gD eV af) (λ_ _=>rfl)))
   (aj (dy (aN nj (qv 5) af (aR _)) (aj (ax (i:=4) scN rfl (·) (aw (jC N_ hr rfl rfl rfl) (av C_power nofun rfl (aa (qv 3) (aa (qv 5) ae))) (av C_power nofun rfl (aa (qv 4) (aa (aw cK (qv 5) af) ae)))))) bC))))))))))
   (aj (aI (qv 2)))))),?_⟩
  walk_at"m";skip
  refine aT.gen λN1 hN1=>?_;symm
  refine⟨∅,λt H1 ht S1 h1=>hN1 _ _ ?_⟩;refine aT.gen λN2 hN2=>?_;symm
  refine⟨∅,λp2 H2 hp2 S2 h2=>⟨_,rfl,_,h2,rfl,_,_,rfl,_,_,rfl,rfl,hN2 _ _ ?_⟩⟩;refine aT.gen λN3 hN3=>?_;symm
  have nt:vw K H t=none:=ht;have S02:=S1.trans S2;obtain⟨W,hW⟩ : ∃W:Nat->St->Hp->Prop,∀m σ H',W m σ H' ↔ ∃(oa ra:Addr)(Fs Gs:List Int)(tv:List V)(rows:List (List Int×List Int×Int×Int))(x g:Int)(o5 o6 o7 o8 o9 o10 o11:Option V),σ=[some (.ref oa),some (.ref ra),some (.ref t),some (.int x),some (.int g),o5,o6,o7,o8,o9,o10,o11]/\m=Gs.length/\ay (vw K H) (vw K H')/\vw K H' t=some (.lst tv)/\vw K H' oa=some (.lst (Fs.map V.int))/\vw K H' ra=some (.lst (Gs.map V.int))/\oa≠t/\ra≠t /\
    Fs≠[]/\tv.length+Gs.length<=9/\Gs.length<=Fs.length/\iZ 17825 Fs/\iZ 17825 Gs/\(∀r,m7 Fs Gs r->m7 ms ns (rows++r))/\(Gs≠[] -> ∃S1,wR 17825 S1 (nz Fs) (nz Gs) (Fs.length-1) (Gs.length-1) x g) /\
    qE (vw K H') t tv rows /\ ∀row∈rows,GP row:=⟨_,λ_ _ _=>Iff.rfl⟩
  have btn:∀{n:Nat}{l:List Int},iZ n l -> ∀k,Bt n (nz l k):=λi k=>pK i.2.1 k;have up:∀{l:List Int},iZ 1110 l->iZ 17825 l:=λi=>i.up ∅;have lp:∀{l:List Int},l≠[]->0<l.length:=λh=>Yy.mpr h;refine⟨W,⟨_,(hW _ _ _).mpr ⟨a,b,ms,ns,[],[],1,1,_,_,_,_,_,_,_,rfl,rfl,S02,S2 _ _ h1,S02 _ _ ha,S02 _ _ hb,ak ha nt,ak hb nt,m0,by have:=il.1;simp;nofun,lmn,up im,up il,λr z=>z,λn0=>⟨_,wR.first (b:=1110) () (by have:=im.1;nofun) ∅ (btn im) (btn il) (il.2.2 n0) (λk hk=>aS (by have:=lp n0;nofun)) (λk hk=>aS (by have:=lp m0;nofun))⟩,⟨rfl,by simp⟩,by simp⟩⟩,λm σ H3 hw=>?_⟩
  obtain⟨oa,ra,Fs,Gs,tv,rows,x,g,o5,o6,o7,o8,o9,o10,o11,rfl,rfl,S3,ht3,hF,hG,noa,nra,f0,lt7,lGF,iF,iG,gc,gs,rt,rwb⟩:=(hW _ _ _).mp hw;refine⟨_,rfl,_,gO hG,cZ (λhc=>⟨_,λσ' H' z=>z,?_⟩) (λhc=>hN3 _ _ ?_)⟩
  .have g0:Gs≠[]:=λz=>by rw[z] at hc;cases hc
   obtain⟨Sx,I⟩:=gs g0;have lg:=lp g0;obtain⟨δ,hδ⟩ : ∃δ,δ=Fs.length-Gs.length:=⟨_,rfl⟩;have hδ2:Fs.length-1-(Gs.length-1)=δ:=();have hgl:Gs.length-1<Gs.length:=();obtain⟨c,hcd⟩ : ∃c,c=nz Gs (Gs.length-1):=⟨_,rfl⟩;have hce:Gs[Gs.length-1]=c:=by rw[hcd,aZ (Ya hgl)]
   have bc:Bt 17825 c:=hcd▸btn iG _;have c0:c≠0:=hcd▸iG.2.2 g0;have xl:(Gs.map V.int).getLast? = some (.int c):=by
    rw[YV,Yb,Yj,Ya hgl,hce];rfl
   have lF7:=iF.1;refine aT.gen λM1 hM1=>?_;symm
   refine⟨Fs.length,by simp only[gH,hF,Yb],Gs.length,by simp only[gH,hG,Yb],hM1 _ _ ?_⟩
   rw[show (Fs.length:Int)-(Gs.length:Int)=(δ:Int) by nofun]
   refine aT.gen λM2 hM2=>?_;symm
   refine⟨_,hG,_,jh xl,⟨c,δ+1,17825,rfl,(),∅,bc,hM2 _ _ ?_⟩⟩;refine aT.gen λM3 hM3=>?_;symm
   simp only[bT];refine⟨oa,ra,Fs,Gs,17825,17825,rfl,hF,hG,lg,iG.2.2 g0,(),(),∅,∅,(),iF.2.1,iG.2.1,λp4 qa rb S qs rs H4 S4 h4 hqa hrb nrb lq lr hSe _ bS bq br lrz ev _=>⟨_,rfl,_,h4,rfl,_,_,rfl,_,_,rfl,_,_,rfl,rfl,hM3 _ _ ?_⟩⟩;obtain⟨e,he,hS⟩:=hSe;rw[<-hcd] at hS;have lq2:qs.length=δ+1:=();have S0:S≠0:=by rw[hS];exact Xk c0
   obtain⟨lack,hlack⟩ : ∃lack,lack=c^(δ+1-e):=⟨_,rfl⟩;have elk:c^(δ+1)=lack*S:=by rw[hlack,hS,<-KD,show δ+1-e+e=δ+1 by nofun]
   obtain⟨fx,htop⟩ : ∃fx,fx=x*g^δ:=⟨_,rfl⟩;have top0:fx≠0:=by rw[htop];exact YL I.inv.x0 (Xk I.inv.h0)
   have δ6:17825*δ<=17825*8:=Y9 _ ();have btop:Bt 200000 fx:=by rw[htop];exact (I.bx.mul (I.bh.pow1 δ)).mono ()
   have black:Bt 200000 lack:=by
    rw[hlack];refine (bc.pow1 _).mono ?_;have:17825*(δ+1-e)<=17825*9:=Y9 _ ();nofun
   have bgam:Bt 200000 (c^(δ+1)):=by
    refine (bc.pow1 _).mono ?_;have:17825*(δ+1)<=17825*9:=Y9 _ ();nofun
   refine aT.gen λM4 hM4=>?_;symm
   simp only[kU];refine⟨g,δ,17825,rfl,(),∅,I.bh,?_⟩;rw[eP];refine⟨cQ I.bx (I.bh.pow1 δ) (),hM4 _ _ ?_⟩;rw[<-htop];have Gy:∀k,c^(δ+1)*nz Fs k=pz (λi=>lack*nz qs i) (nz Gs) (δ+1) k+lack*nz rs k:=λk=>by
    rw[tU,<-Int.mul_add,<-lq2,<-ev k,<-YJ,<-elk,lq2]
   obtain⟨r,g',hR,bR,r0,ng',bg',hh,next⟩:=I.rest (q:=λi=>lack*nz qs i) (R:=λk=>lack*nz rs k) (λk hk=>by rw[aS (),Yz]) (λk=>by rw[<-hcd,hδ2];exact Gy k)
   rw[hδ2,<-htop] at hR;rw[<-hcd,hδ2] at hh;rw[<-hcd] at next
   refine aT.gen λM5 hM5=>?_;have key:∀(rc:Addr)(Rs:List Int)(tv':List V)(rows':List (List Int×List Int×Int×Int))(H':Hp)(u7 u11:Option V),ay (vw K H) (vw K H')->vw K H' t=some (.lst tv')->vw K H' ra=some (.lst (Gs.map V.int))->vw K H' rc=some (.lst (Rs.map V.int))->rc≠t->Rs.length<Gs.length->tv'.length+Rs.length<=9->(∀k,nz Rs k=r k)->iZ 17825 Rs->(∀r,m7 Gs Rs r->m7 ms ns (rows'++r))->qE (vw K H') t tv' rows'->(∀row∈rows',GP row)->M5 [some (.ref oa),some (.ref ra),some (.ref t),some (.int x),some (.int g),some (.int δ),some (.int (c^(δ+1))),u7,some (.ref rc),some (.int S),some (.int fx),u11] H':=by
    intro rc Rs tv' rows' H' u7 u11 Sx' ht' hG' hR' nrc lR lt' eR iR gc' rt' rb';have fin:∀u7 u11:Option V,∃m',m'<Gs.length/\W m' [some (.ref ra),some (.ref rc),some (.ref t),some (.int c),some (.int g'),some (.int δ),some (.int (c^(δ+1))),u7,some (.ref rc),some (.int S),some (.int fx),u11] H':=λu7 u11=>by
     refine⟨Rs.length,lR,(hW _ _ _).mpr ⟨ra,rc,Gs,Rs,tv',rows',c,g',_,_,_,_,_,_,_,rfl,rfl,Sx',ht',hG',hR',nra,nrc,g0,lt',(),iG,iR,gc',λz=>?_,rt',rb'⟩⟩;have lz:=lp z;have e1:r=nz Rs:=funext λk=>(eR k).symm;have nx:=next (Rs.length-1) () (by rw[<-eR];exact iR.2.2 z) (λk hk=>by rw[<-eR];exact aS ())
     rw[e1] at nx;exact⟨_,nx⟩
    refine hM5 _ _ ?_;symm
    refine⟨_,hG',_,jh xl,cZ (λh0=>?_) (λh0=>?_)⟩
    .rcases hh with ⟨z,_⟩|⟨_,z2⟩
     .nofun
     have δ5:17825*(δ-1)<=17825*8:=Y9 _ ();have u0:g^(δ-1)≠0:=Xk I.inv.h0;refine⟨c,δ,17825,rfl,(),∅,bc,⟨g,δ-1,17825,by rw[show ((δ:Int)-1)=((δ-1:Nat):Int) by nofun],(),∅,I.bh,_,rfl,_,rfl,u0,?_⟩⟩
     have e1:(c^δ).fdiv (g^(δ-1))=g':=Int.eq_of_mul_eq_mul_right u0 (by rw[gC u0 ⟨g',by rw[<-z2,Y2]⟩,z2])
     rw[e1];exact fin u7 u11
    .rcases hh with ⟨_,z⟩|⟨z,_⟩
     .rw[<-z];exact fin u7 u11
     .nofun
   have nt4:t≠rb:=ak ht3 nrb;symm
   refine⟨_,gO hrb,cZ (λhc2=>?_) (λhc2=>?_)⟩
   .have ef:(c^(δ+1)).fdiv S=lack:=Int.eq_of_mul_eq_mul_right S0 (by rw[gC S0 ⟨lack,by rw[elk,Y2]⟩,elk])
    rw[ef];have rs0:rs≠[]:=λz=>by rw[z] at hc2;cases hc2
    have lrs:=lp rs0;refine⟨S0,⟨_,.of (aF hrb)⟩,λd6 H6 hd6 S6 h6=>?_⟩;refine bH (its:=rs.map V.int) (λj zs H'=>ay (vw K H4) (vw K H')/\zs=((rs.take j).map λy=>(lack*y).fdiv fx).map V.int) (λj zs H' _ _ z=>aM (z.1 _ _ hrb)) h6 ⟨S6,rfl⟩ (λj y zs H' hj hy h' z=>?_) (λzs H7 h7 z=>?_)
    .obtain⟨z1,rfl⟩:=z;rw[Yb] at hj;rw[Yj,Ya hj] at hy;cases hy;symm
     refine⟨cQ black (br _ (Yp hj)) (),top0,.mk h' ?_ λH8 B8 h8=>⟨λy o e=>B8 _ _ (ak e hd6) (z1 _ _ e),?_⟩⟩
     .rw[Yb,Yb,Yv];have:1000<=sizeLine:=∅;nofun
     .rw[Yw,Ya hj,Yq,Yq];rfl
    obtain⟨S47,rfl⟩:=z;rw[Yb,Y7] at h7;refine⟨mB (S47 _ _ (S4 _ _ ht3)),⟨_,.of (aF (S47 _ _ hqa))⟩,λd8 H8 hd8 S8 h8=>?_⟩;refine bH (its:=qs.map V.int) (λj zs H'=>ay (vw K H7) (vw K H')/\zs=((qs.take j).map λy=>lack*y).map V.int) (λj zs H' _ _ z=>aM (z.1 _ _ (S47 _ _ hqa))) h8 ⟨S8,rfl⟩ (λj y zs H' hj hy h' z=>?_) (λzs H9 h9 z=>?_)
    .obtain⟨z1,rfl⟩:=z;rw[Yb] at hj;rw[Yj,Ya hj] at hy;cases hy;symm
     refine⟨cQ black (bq _ (Yp hj)) (),.mk h' ?_ λH8 B8 h8=>⟨λy o e=>B8 _ _ (ak e hd8) (z1 _ _ e),?_⟩⟩
     .rw[Yb,Yb,Yv];have:1000<=sizeLine:=∅;nofun
     .rw[Yw,Ya hj,Yq,Yq];rfl
    obtain⟨S79,rfl⟩:=z;have S49:=S47.trans S79;refine⟨∅,λp10 H10 hp10 S10 h10=>?_⟩;have ht10:=S10 _ _ (S49 _ _ (S4 _ _ ht3));refine⟨tv,ht10,?_,λH11 B11 h11=>?_⟩
    .have:1000<=sizeLine:=∅;nofun
    have nt6:t≠d6:=ak (S4 _ _ ht3) hd6;have nt10:p10≠t:=(ak (S49 _ _ (S4 _ _ ht3)) hp10).symm;have S410:=S49.trans S10;have hd7:=(S79.trans S10) _ _ h7;have lRs:(rs.map λy=>(lack*y).fdiv fx).length=rs.length:=Yb _;have eR:∀k,nz (rs.map λy=>(lack*y).fdiv fx) k=r k:=λk=>by
     have q1:=hR k;cases ek:rs[k]? with
     | none =>
      have l:=List.getElem?_eq_none_iff.mp ek;rw[aS l,Yz] at q1;rw[aS (by rw[lRs];exact l)]
      rcases Int.mul_eq_zero.mp q1.symm with z|z
      .exact absurd z top0
      .exact z.symm
     | some y =>
      rw[aZ ek] at q1;rw[aZ (n:=(lack*y).fdiv fx) (by rw[Yj,ek];rfl)]
      exact Int.eq_of_mul_eq_mul_right top0 (by rw[gC top0 ⟨_,q1⟩,q1,Y2])
    have R0:(rs.map λy=>(lack*y).fdiv fx)≠[]:=λz=>rs0 (List.map_eq_nil_iff.mp z);have Rl0:nz (rs.map λy=>(lack*y).fdiv fx) ((rs.map λy=>(lack*y).fdiv fx).length-1)≠0:=by
     rw[lRs,eR];intro z;have q1:=hR (rs.length-1);rw[z,Yz] at q1;rcases Int.mul_eq_zero.mp q1 with y|y
     .exact Xk c0 (hlack▸y)
     .exact lrz () y
    have Rb:∀x∈(rs.map λy=>(lack*y).fdiv fx),Bt 17825 x:=λx hx=>by
     obtain⟨k,hk⟩:=Xy hx;rw[<-aZ hk,eR];exact bR k
    have nzq:∀i,nz (qs.map λy=>lack*y) i=lack*nz qs i:=λi=>by
     cases ek:qs[i]? with
     | none =>
      have l:=List.getElem?_eq_none_iff.mp ek;rw[aS l,aS (by rw[Yb];exact l),Yz]
     | some y=>rw[aZ ek,aZ (n:=lack*y) (by rw[Yj,ek];rfl)]
    have iL:∀k,c^(δ+1)*nz Fs k=pz (nz (qs.map λy=>lack*y)) (nz Gs) (qs.map λy=>lack*y).length k+fx*nz (rs.map λy=>(lack*y).fdiv fx) k:=λk=>by
     rw[show nz (qs.map λy=>lack*y)=λi=>lack*nz qs i from funext nzq,Yb,lq2,Gy k,eR,hR k]
    rw[Yb,Y7] at h9;have hq10:=S10 _ _ h9;have nt8:d8≠t:=(ak ((S47) _ _ (S4 _ _ ht3)) hd8).symm;refine key d6 _ (tv++[.ref p10]) (rows++[(rs.map λy=>(lack*y).fdiv fx,qs.map λy=>lack*y,fx,c^(δ+1))]) H11 _ _ (λy o e=>B11 _ _ (ak e nt) ((S3.trans (S4.trans S410)) _ _ e)) h11 (B11 _ _ nra ((S4.trans S410) _ _ hG)) (B11 _ _ nt6.symm hd7) nt6.symm (by rw[lRs];exact lr) (by rw[lRs,Yx];simp;nofun) eR ⟨by rw[lRs];nofun,Rb,λ_=>Rl0⟩ (λr' z=>?_) ⟨by simp[rt.1],λk row e=>?_⟩ (λrow fZ=>?_)
    .rw[YZ];exact gc _ (.more g0 (iG.2.2 g0) (Xk c0) top0 R0 Rl0 (by rw[lRs];exact lr) (by rw[Yb];nofun) iL z)
    .by_cases hk:k<rows.length
     .rw[YW hk] at e;obtain⟨p,ra',qa',a1,a2,a3,a4,a5,a6⟩:=rt.2 k row e;have S3z:=S4.trans S410;exact⟨p,ra',qa',by rw[YW (by rw[rt.1];exact hk)];exact a1,B11 _ _ (λz=>by rw[z,ht3] at a2;cases a2) (S3z _ _ a2),B11 _ _ a5 (S3z _ _ a3),B11 _ _ a6 (S3z _ _ a4),a5,a6⟩
     .have hk2:k=rows.length:=by
       have:=(Ys.mp e).1;simp at this;nofun
      subst hk2;rw[YO (),XS] at e;cases e;exact⟨p10,d6,d8,by rw[YO (by rw[rt.1];nofun),rt.1,XS];rfl,B11 _ _ nt10 h10,B11 _ _ nt6.symm hd7,B11 _ _ nt8 hq10,nt6.symm,nt8⟩
    .rcases YK.mp fZ with z|z
     .exact rwb row z
     .cases Yk.mp z;refine⟨by rw[lRs];nofun,λx hx=>(Rb x hx).mono ∅,btop,bgam,by rw[Yb];nofun,by rw[Yb];nofun,λx hx=>?_⟩
      obtain⟨y,hy,rfl⟩:=YX.mp hx;exact (black.mul (bq y hy)).mono ∅
   .have r1:rs=[]:=by
     cases rs with
     | nil=>rfl
     | cons _ _=>exact absurd rfl hc2
    subst r1;refine key rb [] tv rows H4 _ _ (S3.trans S4) (S4 _ _ ht3) (S4 _ _ hG) hrb nt4.symm (by simp;nofun) (by simp;nofun) (λk=>?_) ⟨by simp,by simp,λz=>absurd rfl z⟩ (λr' z=>?_) (rt.same S4) rwb
    .have:=hR k;rw[show nz [] k=0 from aS (by simp),Yz] at this
     rcases Int.mul_eq_zero.mp this.symm with z|z
     .exact absurd z top0
     .rw[show nz [] k=0 from aS (by simp),z]
    .have er:r'=[]:=by
      cases z with
      | nought=>rfl
      | last h _ _ _ _=>exact absurd rfl h
      | more h _ _ _ _ _ _ _ _ _=>exact absurd rfl h
     subst er;refine gc _ (.last g0 (iG.2.2 g0) S0 (Q:=qs) () λk=>?_);rw[ev k,show nz [] k=0 from aS (by simp)]
     nofun
  .have g1:Gs=[]:=by
    cases Gs with
    | nil=>rfl
    | cons _ _=>exact absurd rfl hc
   subst g1;symm
   have:=gc [] .nought;rw[Xv] at this;exact h t H3 tv rows S3 ht3 rt this (by rw[<-rt.1];nofun) rwb
def fw(K:W.Frag):Sp:=λvs H Q _=>∃(a:Addr)(ns:List Int),vs=[.ref a]/\vw K H a=some (.lst (ns.map V.int))/\ns.length<=9/\(∀x∈ns,Bt 200 x) /\
 ∀d H' (ms:List Int),ay (vw K H) (vw K H')->vw K H' d=some (.lst (ms.map V.int))->vw K H d=none->ms.length=ns.length-1->(∀k,nz ms k=((k+1:Nat):Int)*nz ns (k+1))->(∀x∈ms,Bt 220 x)->Q (.ref d) H'
theorem nQ(F:fY K "wholes_slope" "wholes_slope" dE f fd) (T:iK K mg):cj P w K mg base fW 1 f fd ["wholes"] (fw K):=by
 have scN:=jq.nd;refine F.okQ jq (λvs H Q E h=>?_) (λcdv A outer s H vs Q E hr h=>?_)
 .obtain⟨a,_,rfl,_⟩:=h;rfl
 .obtain⟨a,ns,rfl,ha,lf,hf,h⟩:=h;refine⟨_,(aj (aI (fv (own:=["k"]) (outs:=["wholes"]) (ixs:=[0]) rfl (qx rfl T.b_range (aa af (aa (az aU (by rfl) T.b_len cC (aa (qv 0) ae)) ae))) rfl ⟨rfl,rfl,rfl,⟨rfl,trivial⟩,rfl,⟨⟨rfl,rfl,rfl,_,rfl⟩,trivial⟩⟩ (λ_ _ _ _=>⟨(aq (i:=0) (show (["k", "wholes"]:List Str).Nodup by decide +kernel) rfl (·)),gh,(aw (show gk _ _ (jv K) from aV) (qv 0) (aE (show wE _ (wP K) from eI) (qv 1) (qv 0) (λ_ _=>rfl)))⟩)))),?_⟩
  walk_at"m";symm
  refine⟨ns.length,by simp only[gH,ha,Yb],(),(),(),(),λd H1 hd S1 h1=>?_⟩
  rw[show ((ns.length:Int)-1).toNat=ns.length-1 by nofun]
  refine bH (its:=iB 1 (ns.length-1)) (λi zs H'=>ay (vw K H) (vw K H') /\ ∃ms:List Int,ms.length=i/\zs=ms.map V.int/\(∀x∈ms,Bt 220 x) /\ ∀(j:Nat)(x:Int),ms[j]? = some x->x=((j+1:Nat):Int)*nz ns (j+1))
   (λ_ _ _ _ _ _=>cp) h1 ⟨S1,[],rfl,rfl,by simp,by simp⟩ (λi x zs H2 hi hx h2 p=>?_) (λzs H2 h2 p=>?_)
  .obtain⟨S2,ms,lv,rfl,bv,hv⟩:=p;obtain⟨hi',rfl⟩:=iI hx;rw[show (1:Int)+(i:Int)=((i+1:Nat):Int) by nofun]
   have hi2:i+1<ns.length:=();have bi:Bt 5 ((i+1:Nat):Int):=by
    show (((i+1:Nat):Int)).natAbs<2^5;nofun
   have bn:=hf ns[i+1] (Yp hi2);symm
   refine⟨_,S2 _ _ ha,V.int ns[i+1],cw (by rw[Yj,Ya hi2];rfl),?_⟩
   rw[eP];refine⟨cQ bi bn ∅,.mk h2 ?_ λH5 B5 h5=>⟨λb o e=>B5 _ _ (ak e hd) (S2 _ _ e),ms++[((i+1:Nat):Int)*ns[i+1]],by simp[lv],by simp,λq hq=>?_,λj q e=>?_⟩⟩
   .rw[Yb,lv];have:1000<=sizeLine:=∅;nofun
   .rcases YK.mp hq with z|z
    .exact bv q z
    .cases Yk.mp z;exact (bi.mul bn).mono ∅
   .by_cases hj:j<ms.length
    .rw[YW hj] at e;exact hv j q e
    .have hj2:j=i:=by
      have:=(Ys.mp e).1;simp at this;nofun
     subst hj2;rw[YO (),lv,XS] at e;cases e;rw[aZ (Ya hi2)]
  .obtain⟨S2,ms,lv,rfl,bv,hv⟩:=p;rw[dY] at lv;refine h d H2 ms S2 h2 hd lv (λk=>?_) bv;by_cases hk:k<ms.length
   .rw[aZ (Ya hk)];exact hv k _ (Ya hk)
   .rw[aS (),aS (),Yz]
def cX(K:W.Frag):Sp:=λvs H Q _=>∃(a b:Addr)(ms ns:List Int)(m n:Nat),vs=[.ref a,.ref b]/\vw K H a=some (.lst (ms.map V.int))/\vw K H b=some (.lst (ns.map V.int))/\ms.length<=40/\ns.length<=40/\m<=40000000/\n<=40000000/\(∀x∈ms,Bt m x)/\(∀x∈ns,Bt n x) /\
 ∀c H' L,ay (vw K H) (vw K H')->vw K H' c=some (.lst ((lz L (pz (nz ms) (nz ns) ms.length)).map V.int))->vw K H c=none->L<=ms.length+ns.length->(ms≠[]->ns≠[]->L+1=ms.length+ns.length)->(∀k,L<=k->pz (nz ms) (nz ns) ms.length k=0)->Q (.ref c) H'
theorem jN(F:fY K "wholes_multiplied" "wholes_multiplied" b9 f fd) (T:iK K mg):cj P w K mg base fW 1 f fd ["one", "other"] (cX K):=by
 have scN:=gE.nd;refine F.okQ gE (λvs H Q E h=>?_) (λcdv A outer s H vs Q E hr h=>?_)
 .obtain⟨a,_,_,_,_,_,rfl,_⟩:=h;rfl
 .obtain⟨a,b,ms,ns,m,n,rfl,ha,hb,lm,ln,hm,hn,bm,bn,h⟩:=h;refine⟨_,(ag (dy (QW.pt (Db (mY (dZ (qv 0) (λ_=>rfl))) (Ao (mY (dZ (qv 1) (λ_=>rfl)))))) (aj (aI (aJ ae))) bC)
   (ag (ax (i:=2) scN rfl (·) (aw aV (aJ (aa af ae)) (aw cK (aw bY (az aU (by rfl) T.b_len cC (aa (qv 0) ae)) (az aU (by rfl) T.b_len cC (aa (qv 1) ae))) af)))
   (ag (cL PassesOwn.never rfl (yi rfl T.b_enumerate (aa (qv 0) ae)) (dU (n:=2) rfl (aB (aq (i:=3) scN rfl (·)) (aB (aq (i:=4) scN rfl (·)) dQ))) (aj (cL PassesOwn.never rfl (yi rfl T.b_enumerate (aa (qv 1) ae)) (dU (n:=2) rfl (aB (aq (i:=5) scN rfl (·)) (aB (aq (i:=6) scN rfl (·)) dQ))) (aj (w8 (qv 2) (aw bY (qv 3) (qv 5)) qL (aw aV (qv 4) (qv 6)) BQ gf)))))
   (aj (aI (qv 2)))))),?_⟩
  walk_at"m";symm
  have lena:gH (vw K H) a=some ms.length:=by simp only[gH,ha,Yb]
  have lenb:gH (vw K H) b=some ns.length:=by simp only[gH,hb,Yb]
  refine⟨_,gO ha,cZ (λe=>?_) λe=>?_⟩
  .have e2:ms=[]:=by simpa using e
   subst e2;exact⟨∅,λc H2 hc S2 h2=>h c H2 0 S2 h2 hc (by simp) (λz=>absurd rfl z) λk _=>rfl⟩
  refine⟨_,gO hb,cZ (λe'=>?_) λe'=>?_⟩
  .have e2:ns=[]:=by simpa using e'
   subst e2;refine⟨∅,λc H2 hc S2 h2=>h c H2 0 S2 h2 hc (by simp) (λ_ z=>absurd rfl z) λk _=>?_⟩
   have z:∀j,pz (nz ms) (nz []) j k=0:=λj=>by
    induction j with
    | zero=>rfl
    | succ j ih =>
     show pz (nz ms) (nz []) j k+(if j<=k then nz ms j*nz [] (k-j) else 0)=0
     rw[ih,aS (ns:=[]) (by simp)]
     simp
   exact z _
  have em:0<ms.length:=by
   cases ms with
   | nil=>exact absurd rfl e
   | cons _ _=>simp
  have en:0<ns.length:=by
   cases ns with
   | nil=>exact absurd rfl e'
   | cons _ _=>simp
  refine⟨∅,λp1 H1 hp1 S1 h1=>⟨ms.length,(by simp only[gH,S1 _ _ ha,Yb]),ns.length,(by simp only[gH,S1 _ _ hb,Yb]),?_⟩⟩
  obtain⟨L,hL⟩ : ∃L,ms.length+ns.length=L+1:=⟨ms.length+ns.length-1,()⟩;rw[show (ms.length:Int)+(ns.length:Int)-1=((L:Nat):Int) by nofun,jJ]
  refine⟨_,h1,(),(),?_,λc H2 hc S2 h2=>?_⟩
  .have:1000<=sizeLine:=∅;simp;nofun
  rw[show ((L:Nat):Int).toNat=L by nofun,Is] at h2
  have S02:=S1.trans S2;have nc:vw K H c=none:=by
   cases e0:vw K H c with
   | none=>rfl
   | some o=>rw[S1 _ _ e0] at hc;cases hc
  simp only[xB];symm
  refine⟨⟨_,S02 _ _ ha⟩,?_⟩;obtain⟨Pv,hPv⟩ : ∃Pv:Nat->St->Hp->Prop,∀j σ H',Pv j σ H' ↔ ∃o3 o4 o5 o6,σ=[some (.ref a),some (.ref b),some (.ref c),o3,o4,o5,o6]/\ay (vw K H) (vw K H')/\vw K H' c=some (.lst (lz L λk=>V.int (pz (nz ms) (nz ns) j k))):=⟨_,λ_ _ _=>Iff.rfl⟩;refine vo (rows:=(ms.map V.int).mapIdx λi x=>[V.int i,x]) Pv (λj σ H' _ p=>?_) ((hPv _ _ _).mpr ⟨_,_,_,_,rfl,S02,h2⟩) (λj t σ H3 p H4 hj ht pv hp S4 h4=>?_) (λσ H3 pv=>?_)
  .obtain⟨_,_,_,_,_,S,_⟩:=(hPv _ _ _).mp p;exact⟨_,aF (S _ _ ha),rfl⟩
  .obtain⟨o3,o4,o5,o6,rfl,S3,h3⟩:=(hPv _ _ _).mp pv;rw[List.length_mapIdx,Yb] at hj;rw[List.getElem?_mapIdx,Yj,Ya hj] at ht;cases ht;symm
   refine⟨_,h4,rfl,?_⟩;symm
   have S04:=S3.trans S4;simp only[xB];symm
   refine⟨⟨_,S04 _ _ hb⟩,?_⟩;obtain⟨Pw,hPw⟩ : ∃Pw:Nat->St->Hp->Prop,∀l σ H',Pw l σ H' ↔ ∃o5 o6,σ=[some (.ref a),some (.ref b),some (.ref c),some (.int j),some (.int ms[j]),o5,o6]/\ay (vw K H) (vw K H')/\vw K H' c=some (.lst (lz L λk=>V.int (qz (nz ms) (nz ns) j l k))):=⟨_,λ_ _ _=>Iff.rfl⟩;refine vo (rows:=(ns.map V.int).mapIdx λi x=>[V.int i,x]) Pw (λl σ H' _ p=>?_) ((hPw _ _ _).mpr ⟨_,_,rfl,S04,?_⟩) (λl t σ H5 p5 H6 hl ht pw hp5 S6 h6=>?_) (λσ H5 pw=>?_)
   .obtain⟨_,_,_,S,_⟩:=(hPw _ _ _).mp p;exact⟨_,aF (S _ _ hb),rfl⟩
   .rw[S4 _ _ h3];congr 2
    exact oO λk _=>by rw[Lh]
   .obtain⟨o5,o6,rfl,S5,h5⟩:=(hPw _ _ _).mp pw;rw[List.length_mapIdx,Yb] at hl;rw[List.getElem?_mapIdx,Yj,Ya hl] at ht;cases ht;symm
    refine⟨_,h6,rfl,?_⟩;symm
    simp only[yA,KB];symm
    have hx:=S6 _ _ h5;have b1:=bm ms[j] (Yp hj);have b2:=bn ns[l] (Yp hl);rw[show (j:Int)+(l:Int)=((j+l:Nat):Int) by nofun]
    have hjl:j+l<L:=();refine⟨_,hx,_,cw (jP hjl),cQ b1 b2 (),_,rfl,_,hx,j+l,by rw[gI];exact nU hjl,λH7 B7 h7=>(hPw _ _ _).mpr ⟨_,_,rfl,?_,?_⟩⟩
    .exact λx o e0=>B7 _ _ (ak e0 nc) (S6 _ _ (S5 _ _ e0))
    .rw[h7,Hz];congr 2
     refine oO λk hk=>?_;rw[Ks,aZ (Ya hj),aZ (Ya hl)];split<;>rfl
   .obtain⟨o5,o6,rfl,S5,h5⟩:=(hPw _ _ _).mp pw;refine (hPv _ _ _).mpr ⟨_,_,_,_,rfl,S5,?_⟩;rw[h5,List.length_mapIdx,Yb];congr 2
    refine oO λk hk=>?_;rw[Gv λi hi=>aS hi]
  .obtain⟨o3,o4,o5,o6,rfl,S3,h3⟩:=(hPv _ _ _).mp pv;rw[List.length_mapIdx,Yb] at h3;symm
   refine h c H3 L S3 (by rw[h3,HD]) nc () (λ_ _=>by nofun) λk hk=>?_
   have e1:=sB (f:=nz ms) (g:=nz ns) (F:=λi=>(nz ms i:Rat)) (G:=λi=>(nz ns i:Rat)) (c:=1) (d:=1) (λi=>by grind) (λi=>by grind) ms.length k
   rw[gu (n:=ns.length) (λi hi=>by rw[aS hi];rfl) ms.length k ()] at e1
   have e2:((pz (nz ms) (nz ns) ms.length k:Int):Rat)=((0:Int):Rat):=by rw[e1];grind
   exact Xa.mp e2
def cE(K:W.Frag):Sp:=λvs H Q _=>∃(a:Addr)(ns:List Int)(t b:Int)(W B:Nat),vs=[.ref a,.int t,.int b]/\vw K H a=some (.lst (ns.map V.int))/\ns.length<=40/\W<=1000000/\B<=10000/\(∀n∈ns,Bt W n)/\b≠0/\Bt B t/\Bt B b /\
 ∀p H' (u s:Int),ay (vw K H) (vw K H')->vw K H' p=some (.tup [.int u,.int s])->s≠0->(0<b->0<s)->(u:Rat)/(s:Rat)=iL ns ((t:Rat)/(b:Rat))->Bt (1+ns.length*B) s->Bt (W+1+ns.length*(B+2)) u->Q (.ref p) H'
theorem tM(F:fY K "wholes_at" "wholes_at" fH f fd) (T:iK K mg):cj P w K mg base fW 1 f fd ["wholes", "top", "bottom"] (cE K):=by
 have scN:=kO.nd;refine F.okQ kO (λvs H Q E h=>?_) (λcdv A outer s H vs Q E hr h=>?_)
 .obtain⟨a,_,_,_,_,_,rfl,_⟩:=h;rfl
 .obtain⟨a,ns,t,b,W,B,rfl,ha,ln,hW,hB,bn,nb,bt,bb,h⟩:=h;refine⟨_,(ag (gd (aP (aa af (aa af ae))) (dU (n:=2) rfl (aB (aq (i:=3) scN rfl (·)) (aB (aq (i:=4) scN rfl (·)) dQ))))
   (ag (cL PassesOwn.never rfl (HY rfl T.b_reversed (aa (qv 0) ae)) (aq (i:=5) scN rfl (·)) (ag (jM (i:=4) scN rfl (·) (qv 2) ow)
   (aj (ax (i:=3) scN rfl (·) (aw bY (aw aV (qv 3) (qv 1)) (aw aV (qv 5) (qv 4)))))))
   (aj (aI (aP (aa (qv 3) (aa (qv 4) ae))))))),?_⟩
  walk_at"m";symm
  refine⟨∅,λp0 H0 hp0 S0 h0=>⟨p0,rfl,_,h0,rfl,?_⟩⟩;symm
  simp only[Ia];symm
  replace h:=λp H' u s (S:ay (vw K H0) (vw K H'))=>h p H' u s (S0.trans S);replace ha:=S0 _ _ ha;clear S0 hp0 h0;refine⟨_,ha,?_⟩;have hLB:∀i,i<=ns.length->i*B<=400000/\i*(B+2)<=400080:=λi hi=>⟨YB (Xf (YB hi ln) hB) ∅,YB (Xf (YB hi ln) (show B+2<=10002 by nofun)) ∅⟩
  obtain⟨Pv,hPv⟩ : ∃Pv:Nat->St->Hp->Prop,∀j σ H',Pv j σ H'↔H'=H0 /\ ∃(u s:Int)(y:Option V),σ=[some (.ref a),some (.int t),some (.int b),some (.int u),some (.int s),y]/\s≠0/\(0<b->0<s)/\(u:Rat)/(s:Rat)=iL (ns.drop (ns.length-j)) ((t:Rat)/(b:Rat))/\Bt (1+j*B) s/\Bt (W+1+j*(B+2)) u:=⟨_,λ_ _ _=>Iff.rfl⟩;refine aY (its:=(ns.map V.int).reverse) Pv (λj σ H' _ p=>?_) ((hPv _ _ _).mpr ⟨rfl,0,1,_,rfl,∅,λ_=>by decide,?_,?_,?_⟩) (λj x σ H1 hj hx pv=>?_) (λσ H1 pv=>?_)
  .obtain⟨rfl,_⟩:=(hPv _ _ _).mp p;exact zg ha
  .rw[Nat.sub_zero,List.drop_length];show ((0:Int):Rat)/((1:Int):Rat)=0;have e0:((0:Int):Rat)=0:=rfl;rw[e0];grind
  .rw[Nat.zero_mul];decide
  .exact (show Bt 0 0 by decide).mono ()
  .obtain⟨rfl,u,s,y,rfl,s0,sp,hv,bs,bu⟩:=(hPv _ _ _).mp pv;simp only[List.length_reverse,Yb] at hj;rw[List.getElem?_reverse (by rw[Yb];exact hj),Yb,Yj,Ya (show ns.length-1-j<ns.length by nofun)] at hx
   cases hx;have bw:=bn _ (Yp (show ns.length-1-j<ns.length by nofun))
   have hd:=zU hj;generalize ns[ns.length-1-j]'()=w at bw hd;obtain⟨q1,q2⟩:=hLB j ();have hjb:j*(B+2)=j*B+j*2:=Nat.mul_add j B 2;symm
   refine⟨cQ bs bb (),?_⟩;have bs':=bs.mul bb;symm
   refine⟨cQ bu bt (),cQ bw bs' (),?_⟩;refine (hPv _ _ _).mpr ⟨rfl,_,_,_,rfl,YL s0 nb,λhb0=>Int.mul_pos (sp hb0) hb0,?_,bs'.mono (by rw[X0];nofun),((bu.mul bt).add (bw.mul bs')).mono (by rw[X0];nofun)⟩
   rw[hd];show _=(w:Rat)+_*iL (ns.drop (ns.length-j)) _;rw[<-hv];have c1:=aC s0;have c2:=aC nb;simp only[Xp,Yi];grind
  .obtain⟨rfl,u,s,y,rfl,s0,sp,hv,bs,bu⟩:=(hPv _ _ _).mp pv;simp only[List.length_reverse,Yb,XS,List.drop_zero] at hv bs bu;symm
   exact⟨∅,λp5 H5 hp5 S5 h5=>h p5 H5 u s S5 h5 s0 sp hv bs bu⟩
def dL(K:W.Frag):Sp:=λvs H Q _=>∃(a:Addr)(xs:List V),vs=[.ref a]/\vw K H a=some (.lst xs)/\xs≠[] /\ ∀H',ay (vw K H) (vw K H')->Q .non H'
theorem mC(F:fY K "refuse_nought" "refuse_nought" cx f fd) (T:iK K mg):cj P w K mg base fW 1 f fd ["f"] (dL K):=by
 have scN:=eY.nd;refine F.okQ eY (λvs H Q E h=>?_) (λcdv A outer s H vs Q E hr h=>?_)
 .obtain⟨_,_,rfl,_⟩:=h;rfl
 .obtain⟨a,xs,rfl,ha,x0,h⟩:=h;refine⟨_,(aj (dy (mY (dZ (qv 0) (λ_=>rfl))) (aj BE) bC)),?_⟩;walk_at"m";symm
  refine⟨_,gO ha,?_⟩;exact wK (by cases xs with|nil=>exact absurd rfl x0|cons _ _=>simp) (h H (ay.refl _))
def eJ(C:Addr)(K:W.Frag):Sp:=λvs H _ E=>∃(a:Addr),vs=[.ref a]/\vw K H a=some (.lst []) /\ ∀H',ay (vw K H) (vw K H')->E (.ref C) none H'
theorem ly{C:Addr}(F:fY K "refuse_nought" "refuse_nought" cx f fd) (T:iK K mg)(zx_NoPolynomial:u8 K C)(hgx_NoPolynomial:mg "NoPolynomial" = some (.ref C)):cj P w K mg base (nE P w) 1 f fd ["f"] (eJ C K):=by
 have scN:=eY.nd;refine F.okX eY (λvs H Q E h=>?_) (λcdv A outer s H vs Q E hr h=>?_)
 .obtain⟨_,rfl,_⟩:=h;rfl
 .obtain⟨a,rfl,ha,h⟩:=h;refine⟨_,(aj (dy (mY (dZ (qv 0) (λ_=>rfl))) (aj (CQ zx_NoPolynomial rfl hgx_NoPolynomial (aa fE ae))) bC)),?_⟩;walk_at"m";symm
  refine⟨_,gO ha,?_⟩;refine JU rfl ?_;simp only[wD];symm
  exact⟨∅,h H (ay.refl _)⟩
def bQ(K:W.Frag):Sp:=λvs H Q _=>∃n:Int,vs=[.int n]/\Q (.int n.sign) H
theorem vG(F:fY K "sign_of" "sign_of" gX f fd) (T:iK K mg):cj P w K mg base fW 1 f fd ["whole"] (bQ K):=by
 have scN:=pL.nd;refine F.okQ pL (λvs H Q E h=>?_) (λcdv A outer s H vs Q E hr h=>?_)
 .obtain⟨_,rfl,_⟩:=h;rfl
 .obtain⟨n,rfl,h⟩:=h;refine⟨_,(ag (dy (aN ik (qv 0) af (aR _)) (aj (aI af)) bC)
   (aj (aI (fQ (aN nj (qv 0) af (aR _)) af (gD eV af))))),?_⟩
  walk_at"m";refine aT.gen λN1 hN1=>?_;symm
  refine cZ (λz=>?_) (λz=>hN1 _ _ ?_)
  .rw[z] at h;exact h
  .symm
   refine cZ (λy=>?_) (λy=>?_)
   .rwa [Int.sign_eq_one_of_pos y] at h
   .rwa [Int.sign_eq_neg_one_of_neg ()] at h
def jm(G:Hp)(t:Addr)(Fs:List (List Int)):Prop:=∃xs,G t=some (.lst xs)/\xs.length=Fs.length /\ ∀(k:Nat) F,Fs[k]? = some F -> ∃l:Addr,xs[k]? = some (.ref l)/\l≠t/\G l=some (.lst (F.map V.int))
theorem jm.same{G G':Hp}{t:Addr}{Fs:List (List Int)}(h:jm G t Fs)(S:ay G G'):jm G' t Fs:=by
 obtain⟨xs,a,b,c⟩:=h;refine⟨xs,S _ _ a,b,λk F e=>?_⟩;obtain⟨l,e1,e2,e3⟩:=c k F e;exact⟨l,e1,e2,S _ _ e3⟩
theorem jm.snoc{G G':Hp}{t l:Addr}{xs:List V}{Fs:List (List Int)}{F:List Int}(h:jm G t Fs)(hx:G t=some (.lst xs))(B:gF t G G')(nl:l≠t)(hl:G l=some (.lst (F.map V.int)))(e:G' t=some (.lst (xs++[.ref l]))):jm G' t (Fs++[F]):=by
 obtain⟨ys,a,b,c⟩:=h;rw[hx] at a;cases a;refine⟨_,e,by simp[b],λk F' ek=>?_⟩
 by_cases hk:k<Fs.length
 .rw[YW hk] at ek;obtain⟨m,e1,e2,e3⟩:=c k F' ek;exact⟨m,by rw[YW ()];exact e1,e2,B _ _ e2 e3⟩
 .have hk2:k=Fs.length:=by
   have:=(Ys.mp ek).1;simp at this;nofun
  subst hk2;rw[YO (),XS] at ek;cases ek;exact⟨l,by rw[YO (),b,XS];rfl,nl,B _ _ nl hl⟩
def gg(K:W.Frag):Sp:=λvs H Q _=>∃(a:Addr)(ss:List Int),vs=[.ref a]/\vw K H a=some (.lst (ss.map V.int))/\Q (.int ((chg 0 ss:Nat):Int)) H
theorem vV(F:fY K "changes" "changes" ig f fd) (T:iK K mg):cj P w K mg base fW 1 f fd ["signs"] (gg K):=by
 have scN:=oX.nd;refine F.okQ oX (λvs H Q E h=>?_) (λcdv A outer s H vs Q E hr h=>?_)
 .obtain⟨_,_,rfl,_⟩:=h;rfl
 .obtain⟨a,ss,rfl,ha,h⟩:=h;refine⟨_,(ag (ax (i:=1) scN rfl (·) af)
   (ag (ax (i:=2) scN rfl (·) af)
   (ag (cL PassesOwn.never rfl (bU (qv 0)) (aq (i:=3) scN rfl (·)) (aj (dy (aN qM (qv 3) af (aR _)) (ag (dy (aN ik (qv 3) (gD eV (qv 2)) (aR _)) (aj (jM (i:=1) scN rfl (·) af BQ)) bC)
   (aj (ax (i:=2) scN rfl (·) (qv 3)))) bC)))
   (aj (aI (qv 1)))))),?_⟩
  walk_at"m";refine aT.gen λN1 hN1=>?_;symm
  refine hN1 _ _ ?_;refine aT.gen λN2 hN2=>?_;symm
  refine hN2 _ _ ?_;refine aT.gen λN3 hN3=>?_;symm
  refine⟨⟨_,.of (aF ha)⟩,?_⟩;obtain⟨Pv,hPv⟩ : ∃Pv:Nat->St->Hp->Prop,∀i σ H',Pv i σ H'↔H'=H /\ ∃(n:Nat)(l:Int)(o:Option V),σ=[some (.ref a),some (.int n),some (.int l),o]/\n+chg l (ss.drop i)=chg 0 ss:=⟨_,λ_ _ _=>Iff.rfl⟩;refine aY (its:=ss.map V.int) Pv (λi σ H' _ p=>?_) ((hPv _ _ _).mpr ⟨rfl,0,0,_,rfl,by rw[List.drop_zero];nofun⟩) (λi y σ H1 hi hy pv=>?_) (λσ H1 pv=>?_)
  .obtain⟨rfl,_⟩:=(hPv _ _ _).mp p;exact aM ha
  .obtain⟨rfl,n,l,o,rfl,e⟩:=(hPv _ _ _).mp pv;rw[Yb] at hi;rw[Yj,Ya hi] at hy;cases hy;rw[Xt hi] at e;symm
   refine cZ (λz=>?_) (λz=>(hPv _ _ _).mpr ⟨rfl,n,l,_,rfl,?_⟩)
   .rw[m9 z] at e;refine cZ (λy=>?_) (λy=>?_)
    .rw[Yg y] at e;exact⟨_,_,rfl,rfl,(hPv (i+1) _ _).mpr ⟨rfl,n+1,ss[i],_,rfl,()⟩⟩
    .rw[Yc y] at e;exact (hPv (i+1) _ _).mpr ⟨rfl,n,ss[i],_,rfl,()⟩
   .have z:ss[i]=0:=Classical.not_not.mp z;rw[z,qw] at e;exact e
  .obtain⟨rfl,n,l,o,rfl,e⟩:=(hPv _ _ _).mp pv;rw[Yb,List.drop_length] at e;have e:n+0=chg 0 ss:=e;refine hN3 _ _ ?_;symm
   rw[<-e] at h;exact h
theorem oy{u s:Int}{y:Rat}(s0:0<s)(e:(u:Rat)/(s:Rat)=y):u.sign=sg y:=by
 have c:=aC (show s≠0 by nofun)
 have sp:(0:Rat)<(s:Rat):=YA.mpr s0;have e:(u:Rat)=y*(s:Rat):=⋯;rcases Int.lt_trichotomy u 0 with z|z|z
 .rw[Int.sign_eq_neg_one_of_neg z,dM];have:(u:Rat)<((0:Int):Rat):=XC.mpr z;refine X5.mp λw=>?_;have:=Yf w (Yl sp);have c0:((0:Int):Rat)=0:=rfl;grind
 .rw[z];refine (dJ.mpr ?_).symm;have c0:((0:Int):Rat)=0:=rfl;rw[z,c0] at e;rcases YE.mp e.symm with w|w
  .exact w
  .exact absurd w c
 .rw[Int.sign_eq_one_of_pos z,cn];have:(0:Rat)<(u:Rat):=YA.mpr z;refine X5.mp λw=>?_;have:=Yf (show 0 <= -y by grind) (Yl sp)
  grind
def Hh(B:Nat)(hs:List (List Int)):Prop:=hs.length<=12 /\ ∀F∈hs,F≠[]/\F.length<=20 /\ ∀x∈F,Bt B x
def eT(K:W.Frag):Sp:=λvs H Q _=>∃(a:Addr)(hs:List (List Int))(t b:Int),vs=[.ref a,.int t,.int b]/\jm (vw K H) a hs/\Hh 600000 hs/\0<b/\Bt 9000 t/\Bt 9000 b /\
 ∀d H',ay (vw K H) (vw K H')->vw K H d=none->vw K H' d=some (.lst ((fK ((t:Rat)/(b:Rat)) (hs.map ao)).map V.int))->Q (.ref d) H'
theorem uA(F:fY K "signs_of" "signs_of" gi f fd) (T:iK K mg)(C_sign_of:cg P w K mg base "sign_of" ["whole"] 1 (bQ K)) (C_wholes_at:cg P w K mg base "wholes_at" ["wholes", "top", "bottom"] 1 (cE K)):cj P w K mg base fW 2 f fd ["lists", "top", "bottom"] (eT K):=by
 have scN:=m6.nd;refine F.okQ m6 (λvs H Q E h=>?_) (λcdv A outer s H vs Q E hr h=>?_)
 .obtain⟨_,_,_,_,rfl,_⟩:=h;rfl
 .obtain⟨a,hs,t,b,rfl,ha,lb,b0,bt,bb,h⟩:=h;refine⟨_,(aj (aI (fv (own:=["one"]) (outs:=["top", "bottom"]) (ixs:=[1,2]) rfl (bU (qv 0)) rfl ⟨rfl,rfl,rfl,⟨rfl,⟨rfl,trivial⟩⟩,rfl,⟨⟨rfl,rfl,rfl,_,rfl⟩,⟨⟨rfl,rfl,rfl,_,rfl⟩,trivial⟩⟩⟩ (λ_ _ _ _=>⟨(aq (i:=0) (show (["one", "top", "bottom"]:List Str).Nodup by decide +kernel) rfl (·)),gh,(av C_sign_of nofun rfl (aa (aE (show wE _ (An K) from dk) (av C_wholes_at nofun rfl (aa (qv 0) (aa (qv 1) (aa (qv 2) ae)))) af (λ_ _=>rfl)) ae))⟩)))),?_⟩
  walk_at"m";obtain⟨xs,hxs,lxs,cxs⟩:=id ha;symm
  refine⟨⟨_,.of (aF hxs)⟩,λd H2 hd S2 h2=>?_⟩;refine bH (its:=xs) (λj zs H'=>ay (vw K H) (vw K H')/\zs=(fK ((t:Rat)/(b:Rat)) ((hs.take j).map ao)).map V.int) (λj zs H' _ _ z=>aM (z.1 _ _ hxs)) h2 ⟨S2,rfl⟩ (λj x zs H' hj hx h' z=>?_) (λzs H3 h3 z=>?_)
  .obtain⟨z1,rfl⟩:=z;have hj':j<hs.length:=();obtain⟨l,e1,_,e3⟩:=cxs j _ (Ya hj');rw[hx] at e1;cases e1;obtain⟨f0,fl,fb⟩:=lb.2 _ (Yp hj');symm
   simp only[cE,bQ];refine⟨l,_,t,b,600000,9000,rfl,z1 _ _ e3,(),∅,∅,fb,(),bt,bb,λp H4 u s S4 h4 s0 sp ev _ _=>⟨p,rfl,_,h4,_,eK,u,rfl,?_⟩⟩;refine .mk (S4 _ _ h') ?_ λH8 B8 h8=>⟨λy o e=>B8 _ _ (ak e hd) (S4 _ _ (z1 _ _ e)),?_⟩
   .have:=lb.1;have:1000<=sizeLine:=∅;simp[fK];nofun
   .rw[oy (sp b0) ev,<-iP fl,Yw,Ya hj',Yq];unfold fK;rw[Yq,Yq];rfl
  .obtain⟨z1,rfl⟩:=z;refine h d H3 z1 hd ?_;rw[h3,lxs,Y7]
def gQ(K:W.Frag):Sp:=λvs H Q _=>∃(a:Addr)(hs:List (List Int))(side:Int),vs=[.ref a,.int side]/\jm (vw K H) a hs/\Hh 600000 hs/\qi side /\
 ∀d H',ay (vw K H) (vw K H')->vw K H' d=some (.lst ((hs.map (cI side)).map V.int))->Q (.ref d) H'
theorem sN(F:fY K "signs_far" "signs_far" fI f fd) (T:iK K mg)(C_sign_of:cg P w K mg base "sign_of" ["whole"] 1 (bQ K)):cj P w K mg base fW 2 f fd ["lists", "side"] (gQ K):=by
 have scN:=mq.nd;refine F.okQ mq (λvs H Q E h=>?_) (λcdv A outer s H vs Q E hr h=>?_)
 .obtain⟨_,_,_,rfl,_⟩:=h;rfl
 .obtain⟨a,hs,side,rfl,ha,lb,ps,h⟩:=h;refine⟨_,(aj (aI (fv (own:=["one"]) (outs:=["side"]) (ixs:=[1]) rfl (bU (qv 0)) rfl ⟨rfl,rfl,rfl,⟨rfl,trivial⟩,rfl,⟨⟨rfl,rfl,rfl,_,rfl⟩,trivial⟩⟩ (λ_ _ _ _=>⟨(aq (i:=0) (show (["one", "side"]:List Str).Nodup by decide +kernel) rfl (·)),gh,(fQ (show QT _ _ (Em K _) from dZ (aw Ep (az (show fj _ _ (λxs H Q=>∃p,xs=[V.ref p] /\ ∃n:Nat,gH (vw K H) p=some n/\Q (V.int n) H) from aU) (by rfl) T.b_len cC (aa (qv 0) ae)) af) (λ_=>rfl)) (av C_sign_of nofun rfl (aa (aE (show wE _ (wP K) from eI) (qv 0) (gD eV af) (λ_ _=>rfl)) ae)) (aw (show gk _ _ (jv K) from aV) (qv 1) (av C_sign_of nofun rfl (aa (aE (show wE _ (wP K) from eI) (qv 0) (gD eV af) (λ_ _=>rfl)) ae))))⟩)))),?_⟩
  walk_at"m";obtain⟨xs,hxs,lxs,cxs⟩:=id ha;symm
  refine⟨⟨_,.of (aF hxs)⟩,λd H2 hd S2 h2=>?_⟩;refine bH (its:=xs) (λj zs H'=>ay (vw K H) (vw K H')/\zs=((hs.take j).map (cI side)).map V.int) (λj zs H' _ _ z=>aM (z.1 _ _ hxs)) h2 ⟨S2,rfl⟩ (λj x zs H' hj hx h' z=>?_) (λzs H3 h3 z=>?_)
  .obtain⟨z1,rfl⟩:=z;have hj':j<hs.length:=();obtain⟨l,e1,_,e3⟩:=cxs j _ (Ya hj');rw[hx] at e1;cases e1;obtain⟨f0,fl,fb⟩:=lb.2 _ (Yp hj');symm
   simp only[Em];symm
   have e3':=z1 _ _ e3;have fp:=Yy.mpr f0;have xl:(hs[j].map V.int).getLast? = some (.int (nz hs[j] (hs[j].length-1))):=by
    rw[YV,Yb,Yj,Ya (show hs[j].length-1<hs[j].length by nofun),aZ (Ya (show hs[j].length-1<hs[j].length by nofun))]
    rfl
   have fin:II K d (CN K d [some (V.int side)] (λzs H'=>ay (vw K H) (vw K H')/\zs=List.map V.int (List.map (cI side) (List.take (j+1) hs))) [some (V.ref l),some (V.int side)]) (.int (cI side hs[j])) H':=by
    refine .mk h' ?_ λH8 B8 h8=>⟨λy o e=>B8 _ _ (ak e hd) (z1 _ _ e),?_⟩
    .have:=lb.1;have:1000<=sizeLine:=∅;simp;nofun
    .rw[Yw,Ya hj',Yq,Yq];rfl
   refine⟨hs[j].length,by simp only[gH,e3',Yb],(),cZ (λz=>⟨_,e3',_,jh xl,_,rfl,?_⟩) (λz=>⟨_,e3',_,jh xl,_,rfl,?_⟩)⟩
   .have o:hs[j].length%2=1:=by
     have:((hs[j].length:Nat):Int)%2≠0:=by simpa using z
     nofun
    have e:cI side hs[j]=(nz hs[j] (hs[j].length-1)).sign:=Yg o;rw[e] at fin;exact fin
   .have o:¬ hs[j].length%2=1:=λy=>by
     have:((hs[j].length:Nat):Int)%2=0:=by simpa using z
     nofun
    have e:cI side hs[j]=side*(nz hs[j] (hs[j].length-1)).sign:=Yc o;rw[e] at fin;show jv K (V.int side) (V.int _) H' _;rw[eP];refine⟨cQ (m:=2) (n:=2) ?_ ?_ ∅,fin⟩
    .rcases ps with y|y<;>rw[y]<;>decide
    .rcases Int.lt_trichotomy (nz hs[j] (hs[j].length-1)) 0 with y|y|y
     .rw[Int.sign_eq_neg_one_of_neg y];decide
     .rw[y];decide
     .rw[Int.sign_eq_one_of_pos y];decide
  .obtain⟨z1,rfl⟩:=z;refine h d H3 z1 ?_;rw[h3,lxs,Y7]
def cR(K:W.Frag):Sp:=λvs H Q _=>∃(a b:Addr)(ms ns:List Int),vs=[.ref a,.ref b]/\vw K H a=some (.lst (ms.map V.int))/\vw K H b=some (.lst (ns.map V.int))/\ms≠[]/\ns.length<=ms.length/\iZ 1110 ms/\iZ 1110 ns /\
 ∀(d:Addr)(H':Hp) rows,ay (vw K H) (vw K H')->jm (vw K H') d (iy ms ns rows)->m7 ms ns rows->rows.length<=9->(∀row∈rows,row.1.length<=9 /\ ∀x∈row.1,Bt 17840 x)->Q (.ref d) H'
theorem nK(F:fY K "signed_chain" "signed_chain" dI f fd) (T:iK K mg)(C_wholes_rests:cg P w K mg base "wholes_rests" ["one", "other"] 3 (fA K)) (C_sign_of:cg P w K mg base "sign_of" ["whole"] 1 (bQ K)):cj P w K mg base fW 4 f fd ["one", "other"] (cR K):=by
 have scN:=jt.nd;refine F.okQ jt (λvs H Q E h=>?_) (λcdv A outer s H vs Q E hr h=>?_)
 .obtain⟨_,_,_,_,rfl,_⟩:=h;rfl
 .obtain⟨a,b,ms,ns,rfl,ha,hb,m0,lmn,im,il,h⟩:=h;refine⟨_,(ag (ax (i:=2) scN rfl (·) (fQ (dZ (qv 1) (λ_=>rfl)) (aJ (aa (qv 0) (aa (qv 1) ae))) (aJ (aa (qv 0) ae))))
   (ag (Et af (aq (i:=3) scN rfl (·)) (aq (i:=4) scN rfl (·)))
   (ag (cL PassesOwn.never rfl (bU (av C_wholes_rests nofun rfl (aa (qv 0) (aa (qv 1) ae)))) (dU (n:=4) rfl (aB (aq (i:=5) scN rfl (·)) (aB (aq (i:=6) scN rfl (·)) (aB (aq (i:=7) scN rfl (·)) (aB (aq (i:=8) scN rfl (·)) dQ))))) (ag (gd (aP (aa (qv 4) (aa (aw aV (aw aV (gD eV (qv 3)) (av C_sign_of nofun rfl (aa (qv 7) ae))) (av C_sign_of nofun rfl (aa (qv 8) ae))) ae))) (dU (n:=2) rfl (aB (aq (i:=3) scN rfl (·)) (aB (aq (i:=4) scN rfl (·)) dQ))))
   (aj (fP (ku YR Y6 Y5 dX (qv 2) (aa (fv (own:=["whole"]) (outs:=["latter"]) (ixs:=[4]) rfl (bU (qv 5)) rfl ⟨rfl,rfl,rfl,⟨rfl,trivial⟩,rfl,⟨⟨rfl,rfl,rfl,_,rfl⟩,trivial⟩⟩ (λ_ _ _ _=>⟨(aq (i:=0) (show (["whole", "latter"]:List Str).Nodup by decide +kernel) rfl (·)),gh,(aw (show gk _ _ (jv K) from aV) (qv 1) (qv 0))⟩)) ae))))))
   (aj (aI (qv 2)))))),?_⟩
  walk_at"m";refine aT.gen λN1 hN1=>?_;have key:∀(t:Addr)(H1:Hp),ay (vw K H) (vw K H1)->vw K H t=none->jm (vw K H1) t (iy ms ns [])->N1 [some (.ref a),some (.ref b),some (.ref t),none,none,none,none,none,none] H1:=λt H1 S1 ht l1=>hN1 _ _ ?_
  .symm
   refine⟨_,gO hb,cZ (λhc=>⟨∅,λt H1 ht S1 h1=>key t H1 S1 ht ?_⟩) (λhc=>⟨∅,λt H1 ht S1 h1=>key t H1 S1 ht ?_⟩)⟩
   .have n0:ns≠[]:=λz=>by rw[z] at hc;cases hc
    unfold iy;rw[Yc n0];refine⟨_,h1,rfl,λk F e=>?_⟩;match k,e with
    | 0,e=>cases e;exact⟨a,rfl,ak ha ht,S1 _ _ ha⟩
    | 1,e=>cases e;exact⟨b,rfl,ak hb ht,S1 _ _ hb⟩
   .have n0:ns=[]:=by
     cases ns with
     | nil=>rfl
     | cons _ _=>exact absurd rfl hc
    unfold iy;rw[Yg n0];refine⟨_,h1,rfl,λk F e=>?_⟩;match k,e with
    | 0,e=>cases e;exact⟨a,rfl,ak ha ht,S1 _ _ ha⟩
  clear hN1;refine aT.gen λN2 hN2=>?_;simp only[F8];symm
  refine hN2 _ _ ?_;refine aT.gen λN3 hN3=>?_;symm
  simp only[fA];refine⟨a,b,ms,ns,rfl,S1 _ _ ha,S1 _ _ hb,m0,lmn,im,il,λd H2 tv rows S2 h2 rr rst lrw rb=>⟨d,rfl,⟨_,.of (aF h2)⟩,?_⟩⟩;have S02:=S1.trans S2;have l2:=l1.same S2;obtain⟨ys,hys,lys,cys⟩:=id l2;have h0:(iy ms ns [])[0]? = some ms:=by
   unfold iy;split<;>rfl
  obtain⟨l0,y0,_,hz0⟩:=cys 0 ms h0;have ndt:d≠t:=λz=>by
   subst z;rw[h2] at hys;cases hys;have:0<tv.length:=(Ys.mp y0).1;have hr0:0<rows.length:=by rw[<-rr.1];exact this
   obtain⟨p',_,_,q1,q2,_⟩:=rr.2 0 _ (Ya hr0);rw[q1] at y0;cases y0;rw[hz0] at q2;cases q2
  have nint:∀(l:Addr)(is:List Int),vw K H2 l=some (.lst (is.map V.int))->l≠t:=λl is e z=>by
   subst z;rw[hys] at e;cases e;rw[Yj] at y0;cases q:is[0]? with
   | none=>rw[q] at y0;cases y0
   | some _=>rw[q] at y0;cases y0
  have ntup:∀(l:Addr) us,vw K H2 l=some (.tup us)->l≠t:=λl us e z=>by
   subst z;rw[hys] at e;cases e
  obtain⟨Pv,hPv⟩ : ∃Pv:Nat->St->Hp->Prop,∀i σ H',Pv i σ H' ↔ ∃(o5 o6 o7 o8:Option V)(p q:Int)(dn:List (List Int)),σ=[some (.ref a),some (.ref b),some (.ref t),some (.int p),some (.int q),o5,o6,o7,o8]/\gF t (vw K H2) (vw K H')/\jm (vw K H') t (iy ms ns []++dn)/\qi p/\qi q/\dn.length=i/\mr 1 1 rows=dn++mr p q (rows.drop i):=⟨_,λ_ _ _=>Iff.rfl⟩;refine aY (its:=tv) Pv (λi σ H' _ q=>?_) ((hPv _ _ _).mpr ⟨_,_,_,_,1,1,[],rfl,λ_ _ _ z=>z,by rw[Xv];exact l2,.inl rfl,.inl rfl,rfl,rfl⟩) (λi x σ H9 hi hx pv=>?_) (λσ H9 pv=>?_)
  .obtain⟨_,_,_,_,_,_,_,_,B',_⟩:=(hPv _ _ _).mp q;exact aM (B' _ _ ndt h2)
  .obtain⟨o5,o6,o7,o8,p,q,dn,rfl,B9,l9,pp,pq,ldn,esc⟩:=(hPv _ _ _).mp pv;have hir:i<rows.length:=by rw[<-rr.1];exact hi
   obtain⟨row,fZ⟩ : ∃row,rows[i]? = some row:=⟨_,Ya hir⟩;obtain⟨p',ra,qa,t1,t2,t3,t4,_,_⟩:=rr.2 i row fZ;rw[t1] at hx;cases hx;have hmem:=YQ fZ;obtain⟨rl,rbt,_⟩:=rb row hmem;obtain⟨T0,S0,_⟩:=rst.ne row hmem;symm
   refine⟨_,B9 _ _ (ntup _ _ t2) t2,rfl,_,_,rfl,_,_,rfl,_,_,rfl,_,_,rfl,rfl,?_⟩;simp only[bQ];have pb:∀{y:Int},qi y->Bt 2 y:=λh=>by rcases h with z|z<;>rw[z]<;>decide
   have sb:∀{y:Int},y≠0->qi y.sign:=λh=>by
    rcases ff h with ⟨z,_⟩|⟨z,_⟩
    .exact .inl z
    .exact .inr z
   have pn:qi (-p):=by rcases pp with z|z<;>rw[z]<;>first|exact .inl rfl|exact .inr rfl
   have pm2:∀{x y:Int},qi x->qi y->qi (x*y):=λh k=>by rcases h with z|z<;>rcases k with u|u<;>rw[z,u]<;>first|exact .inl rfl|exact .inr rfl
   have p1:=pm2 pn (sb T0);have p2:=pm2 p1 (sb S0);refine⟨_,rfl,?_⟩;rw[eP];refine⟨cQ (pb pn) (pb (sb T0)) ∅,_,rfl,?_⟩;rw[eP];obtain⟨μ,hμ⟩ : ∃μ,μ = -p*row.2.2.1.sign*row.2.2.2.sign:=⟨_,rfl⟩;rw[<-hμ] at p2 ⊢;refine⟨cQ (pb p1) (pb (sb S0)) ∅,∅,λu Ha hu Sa ha'=>⟨u,rfl,_,ha',rfl,_,_,rfl,_,_,rfl,rfl,?_⟩⟩;obtain⟨ws,hws,lws,cws⟩:=id l9;have hra:vw K Ha ra=some (.lst (row.1.map V.int)):=Sa _ _ (B9 _ _ (nint _ _ t3) t3);refine⟨mB (Sa _ _ hws),ra,rfl,⟨_,.of (aF hra)⟩,λd2 Hc hd2 Sc hdc=>?_⟩;refine bH (its:=row.1.map V.int) (λj zs H'=>ay (vw K Ha) (vw K H')/\zs=((row.1.take j).map λy=>μ*y).map V.int) (λj zs H' _ _ z=>aM (z.1 _ _ hra)) hdc ⟨Sc,rfl⟩ (λj y zs H' hj hy h' z=>?_) (λzs Hd hdd z=>?_)
   .obtain⟨z1,rfl⟩:=z;rw[Yb] at hj;rw[Yj,Ya hj] at hy;cases hy;symm
    refine⟨cQ (pb p2) (rbt _ (Yp hj)) ∅,.mk h' ?_ λH8 B8 h8=>⟨λy o e=>B8 _ _ (ak e hd2) (z1 _ _ e),?_⟩⟩
    .rw[Yb,Yb,Yv];have:1000<=sizeLine:=∅;nofun
    .rw[Yw,Ya hj,Yq,Yq];rfl
   obtain⟨Sad,rfl⟩:=z;rw[Yb,Y7] at hdd;have S9d:=Sa.trans Sad;have nd2:d2≠t:=(ak (Sa _ _ hws) hd2).symm;refine⟨ws,S9d _ _ hws,?_,λHf Bf hf=>(hPv _ _ _).mpr ⟨_,_,_,_,q,μ,dn++[row.1.map λy=>μ*y],rfl,(B9.same_trans S9d).trans Bf,?_,pq,p2,by simp[ldn],?_⟩⟩
   .have l3:(iy ms ns []).length<=2:=by
     unfold iy;split<;>simp[mr]
    rw[lws,Yx];have:1000<=sizeLine:=∅;nofun
   .rw[<-YZ];exact (l9.same S9d).snoc (S9d _ _ hws) Bf nd2 hdd hf
   .rw[esc,YZ];congr 1
    have ed:rows.drop i=row::rows.drop (i+1):=by
     rw[Xt hir];congr 1
     rw[Ya hir] at fZ;cases fZ;rfl
    rw[ed,hμ];rfl
  .obtain⟨o5,o6,o7,o8,p,q,dn,rfl,B9,l9,pp,pq,ldn,esc⟩:=(hPv _ _ _).mp pv;refine hN3 _ _ ?_;symm
   refine h t H9 rows (λy o e=>B9 _ _ (ak e ht) (S02 _ _ e)) ?_ rst lrw λrow hr=>⟨(rb row hr).1,(rb row hr).2.1⟩;have e1:rows.drop tv.length=[]:=List.drop_eq_nil_of_le (by rw[rr.1];nofun)
   rw[e1] at esc;have e2:mr 1 1 rows=dn:=by rw[esc];exact Xv _
   have e3:iy ms ns rows=iy ms ns []++dn:=by
    unfold iy;by_cases n0:ns=[]
    .rw[Yg n0,Yg n0];subst n0;have:rows=[]:=by
      cases rst with
      | nought=>rfl
      | last n=>exact absurd rfl n
      | more n=>exact absurd rfl n
     subst this;rw[<-e2];rfl
    .rw[Yc n0,Yc n0,e2];rfl
   rw[e3];exact l9
theorem Bh{P:List Int}{Fs hs:List (List Int)}{F h:List Int}(p:wT P Fs hs)(l:h.length<=9)(n:h≠[])(z:nz h (h.length-1)≠0)(e:∀k,nz F k=pz (nz h) (nz P) h.length k):wT P (Fs++[F]) (hs++[h]):=by
 induction p with
 | nil=>exact .cons l n z e .nil
 | cons a b c d _ ih=>exact .cons a b c d ih
theorem AI{F h P:List Int}(f0:nz F (F.length-1)≠0)(p0:0<P.length)(lh:h.length=F.length+1-P.length)(lF:P.length<=F.length)(e:∀k,nz F k=pz (nz h) (nz P) h.length k):nz h (h.length-1)≠0:=λz=>f0 (by
 have hg:∀j,P.length-1<j->fO P j=0:=λj hj=>cy P j ();have hf:∀j,h.length-1<j->fO h j=0:=λj hj=>cy h j ();have a:=nu hg hf h.length;rw[Yg (),show h.length-1+(P.length-1)=F.length-1 by nofun] at a
 have b:((nz F (F.length-1):Int):Rat)=((pz (nz h) (nz P) h.length (F.length-1):Int):Rat):=by rw[<-e]
 rw[iQ] at b;have c:fO h (h.length-1)=0:=by show ((nz h (h.length-1):Int):Rat)=0;rw[z];rfl
 rw[c,Rat.zero_mul] at a;exact Xa.mp (b.trans a))
theorem zM{F h P rs:List Int}(p0:nz P (P.length-1)≠0)(pl:0<P.length)(lr:rs.length<P.length)(lz1:rs.length≠0->nz rs (rs.length-1)≠0)(e:∀k,nz F k=pz (nz h) (nz P) h.length k+nz rs k)(ex:EA F P):rs=[]:=Yt λn=>by
 obtain⟨Q,eQ⟩:=ex;have ln:=Yy.mpr n;have r:=ue (q:=fO Q) (q':=fO h) (g:=fO P) (r:=λ_=>0) (r':=fO rs) (n:=Q.length) (n':=h.length) (d:=P.length-1) (λj hj=>cy P j ()) (aC p0) (λ_ _=>rfl) (λk hk=>cy rs k ()) (λk=>by
  have a:((nz F k:Int):Rat)=((pz (nz Q) (nz P) Q.length k:Int):Rat):=by rw[<-eQ]
  have b:((nz F k:Int):Rat)=((pz (nz h) (nz P) h.length k+nz rs k:Int):Rat):=by rw[<-e]
  rw[iQ] at a;rw[Xp,iQ] at b;show pr (λi=>((nz Q i:Int):Rat)) (λi=>((nz P i:Int):Rat)) Q.length k+0=pr (λi=>((nz h i:Int):Rat)) (λi=>((nz P i:Int):Rat)) h.length k+((nz rs k:Int):Rat);grind) (rs.length-1)
 exact absurd r.symm (aC (lz1 ()))
def ce(K:W.Frag):Sp:=λvs H Q _=>∃(a:Addr)(Fs:List (List Int))(L:List Int),vs=[.ref a]/\jm (vw K H) a Fs/\Fs.getLast? = some L/\Fs.length<=12/\(∀F∈Fs,F≠[]/\F.length<=9/\nz F (F.length-1)≠0/\L.length<=F.length /\ ∀x∈F,Bt 17850 x)/\(∀(P:List Int)(g:Int),0<g->P.length=L.length->(∀k,nz L k=g*nz P k)->jO (nz P) -> ∀F∈Fs,EA F P) /\
 ∀(d:Addr)(H':Hp)(P:List Int)(g:Int) hs,ay (vw K H) (vw K H')->jm (vw K H') d hs->0<g->P.length=L.length->(∀k,nz L k=g*nz P k)->wT P Fs hs->Hh 600000 hs->Q (.ref d) H'
theorem nN(F:fY K "parted_chain" "parted_chain" dH f fd) (T:iK K mg)(C_lowered:cg P w K mg base "lowered" ["wholes"] 2 (dN K)) (C_wholes_parted:cg P w K mg base "wholes_parted" ["one", "other"] 2 (bT K)):cj P w K mg base fW 3 f fd ["lists"] (ce K):=by
 have scN:=jn.nd;refine F.okQ jn (λvs H Q E h=>?_) (λcdv A outer s H vs Q E hr h=>?_)
 .obtain⟨_,_,_,rfl,_⟩:=h;rfl
 .obtain⟨a,Fs,L,rfl,ha,hL,l12,hF,hX,h⟩:=h;refine⟨_,(ag (ax (i:=1) scN rfl (·) (av C_lowered nofun rfl (aa (aE eI (qv 0) (gD eV af) (λ_ _=>rfl)) ae)))
   (aj (aI (fv (own:=["one"]) (outs:=["last"]) (ixs:=[1]) rfl (bU (qv 0)) rfl ⟨rfl,rfl,rfl,⟨rfl,trivial⟩,rfl,⟨⟨rfl,rfl,rfl,_,rfl⟩,trivial⟩⟩ (λ_ _ _ _=>⟨(aq (i:=0) (show (["one", "last"]:List Str).Nodup by decide +kernel) rfl (·)),gh,(aE (show wE _ (An K) from dk) (av C_wholes_parted nofun rfl (aa (qv 0) (aa (qv 1) ae))) af (λ_ _=>rfl))⟩))))),?_⟩
  walk_at"m";obtain⟨xs,hxs,lxs,cxs⟩:=id ha;have lm:=List.mem_of_getLast? hL;obtain⟨L0,L9,Lz,_,Lb⟩:=hF L lm;have fp:0<Fs.length:=List.length_pos_of_mem lm;have eL:Fs[Fs.length-1]? = some L:=by rw[<-YV];exact hL
  obtain⟨la,e1,_,e3⟩:=cxs _ L eL;have xl:xs.getLast? = some (.ref la):=by rw[YV,lxs];exact e1
  refine aT.gen λN1 hN1=>?_;symm
  simp only[dN];refine⟨xs,hxs,_,jh xl,la,L,17850,rfl,e3,(),∅,Lb,λ_=>Lz,λp H1 P g S1 hp np lP g0 hg prm bP=>hN1 _ _ ?_⟩;symm
  refine⟨⟨_,.of (aF (S1 _ _ hxs))⟩,λd H2 hd S2 h2=>?_⟩;have L0':=Yy.mpr L0;have Pz:nz P (P.length-1)≠0:=λz=>Lz (by rw[hg,<-lP,z,Yz])
  have exq:=hX P g g0 lP hg (prm L0);refine bH (its:=xs) (λj zs H'=>ay (vw K H1) (vw K H') /\ ∃hs,jm (vw K H') d hs/\wT P (Fs.take j) hs/\hs.length=j /\ ∀F∈hs,F≠[]/\F.length<=20 /\ ∀x∈F,Bt 600000 x) (λj zs H' _ _ z=>aM (z.1 _ _ (S1 _ _ hxs))) h2 ⟨S2,[],⟨[],h2,rfl,by simp⟩,.nil,rfl,by simp⟩ (λj x zs H' hj hx h' z=>?_) (λzs H3 h3 z=>?_)
  .obtain⟨z1,hs,lh,pt,ln,bh⟩:=z;have hj':j<Fs.length:=();obtain⟨l,f1,f2,f3⟩:=cxs j _ (Ya hj');rw[hx] at f1;cases f1;have hm:=Yp hj';obtain⟨F0,F9,Fz,FL,Fb⟩:=hF _ hm;symm
   simp only[bT];refine⟨l,p,_,P,17850,17850,rfl,z1 _ _ (S1 _ _ f3),z1 _ _ hp,(),Pz,(),(),∅,∅,(),Fb,bP,λp4 qa ra S qs rs H4 S4 h4 hqa hra nra lq lr _ ex bS bq br lrz ev _=>⟨_,rfl,_,h4,_,eK,?_⟩⟩;have xF:=exq _ hm;have s1:S=1:=ex xF;subst s1;have ev':∀k,nz Fs[j] k=pz (nz qs) (nz P) qs.length k+nz rs k:=λk=>by rw[<-ev k,YG]
   have rn:=zM Pz () lr lrz ev' xF;subst rn;have Gy:∀k,nz Fs[j] k=pz (nz qs) (nz P) qs.length k:=λk=>by rw[ev' k,aS (by simp)];nofun
   have q0:0<qs.length:=();have nqd:qa≠d:=λe=>by
    subst e;rw[S4 _ _ h'] at hqa;cases hqa;obtain⟨ys,y1,y2,y3⟩:=lh;rw[h'] at y1;cases y1;rw[Yb] at y2;have hh:0<hs.length:=();obtain⟨l',w1,_⟩:=y3 0 _ (Ya hh);rw[Yj,Ya q0] at w1;cases w1
   refine .mk (S4 _ _ h') ?_ λH8 B8 h8=>⟨λy o e=>B8 _ _ (ak e hd) (S4 _ _ (z1 _ _ e)),hs++[qs],(lh.same S4).snoc (S4 _ _ h') B8 nqd hqa h8,?_,by simp[ln],λF hF'=>?_⟩
   .obtain⟨ys,y1,y2,_⟩:=lh;rw[h'] at y1;cases y1;have:1000<=sizeLine:=∅;nofun
   .rw[Yw,Ya hj'];exact Bh pt () (Yy.mp q0) (AI Fz () () () Gy) Gy
   .rcases YK.mp hF' with y|y
    .exact bh F y
    .rw[Yk.mp y];exact⟨Yy.mp q0,(),λx hx=>(bq x hx).mono ∅⟩
  .obtain⟨z1,hs,lh,pt,ln,bh⟩:=z;rw[lxs,Y7] at pt;exact h d H3 P g hs (S1.trans z1) lh g0 lP hg pt ⟨(),bh⟩
def cV(K:W.Frag):Sp:=λvs H Q _=>∃(a:Addr)(fs:List (Int×Int)),vs=[.ref a]/\ft (vw K H) a fs/\fs≠[]/\fs.length<=9/\fR fs/\Pb 185 (cf fs) /\
 ∀(d:Addr)(H':Hp) hs,ay (vw K H) (vw K H')->jm (vw K H') d hs->KR fs hs->(∀x∈hs,x≠[]/\x.length<=20/\nz x (x.length-1)≠0)->Hh 600000 hs->Q (.ref d) H'
theorem kY(F:fY K "counting_chain" "counting_chain" cJ f fd) (T:iK K mg)(C_lowered:cg P w K mg base "lowered" ["wholes"] 2 (dN K)) (C_cleared:cg P w K mg base "cleared" ["f"] 2 (fF K)) (C_parted_chain:cg P w K mg base "parted_chain" ["lists"] 3 (ce K)) (C_signed_chain:cg P w K mg base "signed_chain" ["one", "other"] 4 (cR K)) (C_wholes_slope:cg P w K mg base "wholes_slope" ["wholes"] 1 (fw K)):cj P w K mg base fW 5 f fd ["f"] (cV K):=by
 have scN:=iN.nd;refine F.okQ iN (λvs H Q E h=>?_) (λcdv A outer s H vs Q E hr h=>?_)
 .obtain⟨_,_,rfl,_⟩:=h;rfl
 .obtain⟨a,fs,rfl,ha,f0,lf,pf,bf,h⟩:=h;refine⟨_,(ag (ax (i:=1) scN rfl (·) (av C_lowered nofun rfl (aa (aE dk (av C_cleared nofun rfl (aa (qv 0) ae)) af (λ_ _=>rfl)) ae)))
   (aj (aI (av C_parted_chain nofun rfl (aa (av C_signed_chain nofun rfl (aa (qv 1) (aa (av C_lowered nofun rfl (aa (av C_wholes_slope nofun rfl (aa (qv 1) ae)) ae)) ae))) ae))))),?_⟩
  walk_at"m";refine aT.gen λN1 hN1=>?_;symm
  simp only[fF,dN];have bq:=bf.bq pf.1;refine⟨a,fs,185,rfl,ha,(),∅,λq z=>⟨pf.1 q z,bq q z⟩,λp b H2 D ns S2 h2 hb nb hD _ ln hn hm=>⟨_,rfl,_,h2,_,eK,?_⟩⟩;have hc2:=oG bf pf.1 hD hm ln λi n q e1 e2=>(hn i n q e1 e2).1;have cl:=uJ ln λi n q e1 e2=>(hn i n q e1 e2).1;have D0:(D:Rat)≠0:=aC ();have lfp:0<fs.length:=Yy.mpr f0;have nl:nz ns (ns.length-1)≠0:=λz=>by
   have q1:=cl (ns.length-1);have q2:=rh pf f0;rw[z,ln] at q1;have:cf fs (fs.length-1)*(D:Rat)=0:=q1.symm;rcases YE.mp this with y|y
   .exact q2 y
   .exact D0 y
  refine⟨b,ns,200,rfl,hb,(),∅,λx z=>(hc2.2 x z).mono ∅,λ_=>nl,λwa H3 W g S3 hW nW lW g0 hg prW bW=>hN1 _ _ ?_⟩;have Wz:nz W (W.length-1)≠0:=λz=>nl (by rw[hg,<-lW,z,Yz])
  have W0:W≠[]:=λz=>by rw[z] at lW;simp at lW;nofun
  symm
  simp only[fw,dN];refine⟨wa,W,rfl,hW,(),λx z=>(bW x z).mono ∅,λsa H4 S S4 hS nS lS eS bS=>?_⟩;have Sz:S≠[]->nz S (S.length-1)≠0:=λz=>by
   have:=Yy.mpr z;rw[eS,show S.length-1+1=W.length-1 by nofun]
   exact YL () Wz
  refine⟨sa,S,220,rfl,hS,(),∅,bS,Sz,λoa H5 O g' S5 hO nO lO g0' hg' prO bO=>?_⟩;simp only[cR];have Oz:O≠[]->nz O (O.length-1)≠0:=λz y=>by
   have:=Yy.mpr z;have z2:S≠[]:=Yy.mp ();refine Sz z2 ?_;rw[hg',<-lO,y,Yz]
  have up:∀{x:Int}{n:Nat},n<=1110->Bt n x->Bt 1110 x:=λl b=>b.mono l;refine⟨wa,oa,W,O,rfl,(S4.trans S5) _ _ hW,hO,W0,(),⟨(),λx z=>up ∅ (bW x z),λ_=>Wz⟩,⟨(),λx z=>up ∅ (bO x z),Oz⟩,λd H6 rows S6 l6 rst lrw rb=>?_⟩;simp only[ce];have S06:=S2.trans (S3.trans (S4.trans (S5.trans S6)));have hW':∀k,fO W k=cf fs k*((D:Rat)/(g:Rat)):=λk=>by
   have e1:=cl k;rw[hg k,Yi] at e1;have c:=aC (show g≠0 by nofun)
   show ((nz W k:Int):Rat)=_;grind
  have hn:∀row∈rows,row.2.2.1≠0/\row.2.2.2≠0:=λrow z=>⟨(rst.ne row z).1,(rst.ne row z).2.1⟩;by_cases o0:O=[]
  .have lo:O.length=0:=by rw[o0];rfl
   have W1:W.length=1:=by
    have:=Yy.mpr W0;nofun
   have e6:iy W O rows=[W]:=Yg o0;rw[e6] at l6;refine⟨d,[W],W,rfl,l6,rfl,by simp,λF hF=>?_,λP g2 g20 lP hP prm F hF=>?_,λd7 H7 P g2 hs S7 l7 g20 lP hP pt lb=>?_⟩
   .rw[Yk.mp hF];exact⟨W0,(),Wz,Yn _,λx z=>(bW x z).mono ∅⟩
   .rw[Yk.mp hF];refine⟨[g2],xU (by simp;nofun) () λx=>?_⟩
    rw[lQ,fS hP]
   .refine h d7 H7 hs (S06.trans S7) l7 ?_ pt.all lb;cases pt with
    | @cons _ h1 _ _ a1 a2 a3 a4 pt =>
     cases pt with
     | nil =>
      have Pz:nz P 0≠0:=λz=>Wz (by rw[hP,W1,z,Yz])
      obtain⟨c,c0,rfl⟩:=Ff W1 a2 a3 () Pz a4;exact⟨.inl ⟨(),c,c0,rfl⟩,λc' z=>by cases z;exact Br ((prW (λz=>by rw[z] at ln;simp at ln;nofun)).left a4),λ_ _ _ z=>by cases z⟩
  .have e6:iy W O rows=W::O::mr 1 1 rows:=Yc o0;rw[e6] at l6;obtain⟨L,s',eL,ps,nL,lL⟩:=iu rows 1 1 O O hn (.inl rfl) (.inl rfl) (λk=>by rw[YG]) rfl
   obtain⟨sh1,sh2⟩:=rst.short;have bnd:∀F∈W::O::mr 1 1 rows,F≠[]/\F.length<=9/\nz F (F.length-1)≠0/\L.length<=F.length /\ ∀x∈F,Bt 17850 x:=λF hF=>by
    rcases Yh.mp hF with rfl|hF
    .exact⟨W0,(),Wz,(),λx z=>(bW x z).mono ∅⟩
    .rcases Yh.mp hF with rfl|hF
     .exact⟨o0,(),Oz o0,(),λx z=>(bO x z).mono ∅⟩
     .obtain⟨row,hr,s2,ps2,rfl⟩:=jg rows 1 1 hn (.inl rfl) (.inl rfl) F hF;obtain⟨_,_,r0,rz⟩:=rst.ne row hr;obtain⟨r9,rb'⟩:=rb row hr;have:=sh2 row hr;refine⟨by simpa using r0,by rw[Yb];exact r9,?_,by rw[Yb];nofun,λx hx=>?_⟩
      .rw[Yb,cW];exact YL (by rcases ps2 with z|z<;>rw[z]<;>decide) rz
      .obtain⟨y,hy,rfl⟩:=YX.mp hx;have:=rb' y hy;have b2:Bt 2 s2:=by rcases ps2 with z|z<;>rw[z]<;>decide
       exact (b2.mul this).mono ∅
   have lsl:(W::O::mr 1 1 rows).getLast? = some L:=by rw[XG];exact eL
   have lsc:∀(rs:List (List Int×List Int×Int×Int))(x y:Int),(mr x y rs).length=rs.length:=λrs=>by
    induction rs with
    | nil=>intro x y;rfl
    | cons r rs ih=>intro x y;show (mr _ _ rs).length+1=_;rw[ih];rfl
   have L9:L.length<=9:=();obtain⟨L0,_,Lz,_⟩:=bnd L (List.mem_of_getLast? lsl);refine⟨d,_,L,rfl,l6,lsl,by simp only[YC,lsc];nofun,bnd,λP g2 g20 lP hP prm=>rP rst o0 () () prm () eL hP λrow hr=>(rb row hr).1,λd7 H7 P g2 hs S7 l7 g20 lP hP pt lb=>h d7 H7 hs (S06.trans S7) l7 ?_ pt.all lb⟩
   have Pz:nz P (P.length-1)≠0:=λz=>Lz (by rw[hP,<-lP,z,Yz])
   have P0:P≠[]:=λz=>by
    have z2:P.length=0:=by rw[z];rfl
    have:=Yy.mpr L0;nofun
   refine⟨JG rst o0 () () P0 Pz () eL () hP hW' eS g0' hg' pt,λc' z=>(by cases pt with|cons _ _ _ _ pt=>cases pt with|cons _ _ _ _ pt=>cases z),Fn rst o0 () () Wz (Oz o0) Pz () eL () hP pt (prW ?_) (prO ?_)⟩
   .exact λz=>by rw[z] at ln;simp at ln;nofun
   .exact λz=>o0 (Xz.mp (by rw[lO,z];rfl))
def cH(K:W.Frag):Sp:=λvs H Q _=>∃(a b c:Addr)(W I G:List Int)(n:Nat),vs=[.ref a,.ref b,.ref c]/\vw K H a=some (.lst (W.map V.int))/\vw K H b=some (.lst (I.map V.int))/\vw K H c=some (.lst (G.map V.int))/\n<=6/\W.length=n+1/\nz W n≠0/\I.length=n/\G.length<=13/\(∀x∈W,Bt 60 x)/\(∀x∈I,Bt 66 x)/\(∀x∈G,Bt 220 x) /\
 ∀(d:Addr)(H':Hp)(O:List Int) rows (ω s:Rat)(t:Rat->Rat),ay (vw K H) (vw K H')->jm (vw K H') d (iy W O rows)->(∀F∈iy W O rows,F≠[]/\F.length<=9/\nz F (F.length-1)≠0 /\ ∀x∈F,Bt 17850 x)->0<ω->0<s->Py t->O.length<=n->(∀x,ω*ao O x=s*(ao I x*ao G x)-t x*ao W x)->m7 W O rows->rows.length<=9->(∀row∈rows,row.1.length<=9)->Q (.ref d) H'
theorem mF(F:fY K "leaning_chain" "leaning_chain" cS f fd) (T:iK K mg)(C_wholes_parted:cg P w K mg base "wholes_parted" ["one", "other"] 2 (bT K)) (C_wholes_multiplied:cg P w K mg base "wholes_multiplied" ["one", "other"] 1 (cX K)) (C_signed_chain:cg P w K mg base "signed_chain" ["one", "other"] 4 (cR K)) (C_sign_of:cg P w K mg base "sign_of" ["whole"] 1 (bQ K)) (C_lowered:cg P w K mg base "lowered" ["wholes"] 2 (dN K)):cj P w K mg base fW 5 f fd ["wholes", "inclines", "g"] (cH K):=by
 have scN:=iV.nd;refine F.okQ iV (λvs H Q E h=>?_) (λcdv A outer s H vs Q E hr h=>?_)
 .obtain⟨_,_,_,_,_,_,_,rfl,_⟩:=h;rfl
 .obtain⟨a,b,c,W,I,G,n,rfl,ha,hb,hc,n6,lW,wz,lI,lG,bW,bI,bG,h⟩:=h;refine⟨_,(ag (gd (jw EK (av C_wholes_parted nofun rfl (aa (av C_wholes_multiplied nofun rfl (aa (qv 1) (aa (qv 2) ae))) (aa (qv 0) ae))) (lc af) kX) (dU (n:=2) rfl (aB (aq (i:=3) scN rfl (·)) (aB (aq (i:=4) scN rfl (·)) dQ))))
   (aj (aI (av C_signed_chain nofun rfl (aa (qv 0) (aa (fv (own:=["whole"]) (outs:=["scale"]) (ixs:=[4]) rfl (bU (av C_lowered nofun rfl (aa (qv 3) ae))) rfl ⟨rfl,rfl,rfl,⟨rfl,trivial⟩,rfl,⟨⟨rfl,rfl,rfl,_,rfl⟩,trivial⟩⟩ (λ_ _ _ _=>⟨(aq (i:=0) (show (["whole", "scale"]:List Str).Nodup by decide +kernel) rfl (·)),gh,(aw (show gk _ _ (jv K) from aV) (av C_sign_of nofun rfl (aa (qv 1) ae)) (qv 0))⟩)) ae)))))),?_⟩
  walk_at"m";refine aT.gen λN1 hN1=>?_;symm
  simp only[cX];refine⟨b,c,I,G,66,220,rfl,hb,hc,(),(),∅,∅,bI,bG,λm H1 L S1 h1 nm lL lL2 zL=>?_⟩;simp only[bT];obtain⟨M,hM⟩ : ∃M,M=lz L (pz (nz I) (nz G) I.length):=⟨_,rfl⟩;rw[<-hM] at h1;have lM:M.length=L:=by rw[hM,gI]
  have eM:∀k,nz M k=pz (nz I) (nz G) I.length k:=λk=>by
   by_cases z:k<L
   .rw[hM,CJ z]
   .rw[zL k (),aS ()]
  have bM:∀x∈M,Bt 300 x:=λx hx=>by
   obtain⟨k,hk⟩:=Xy hx;have bz:=FU (pK bI) (pK bG) I.length k;rw[<-eM,aZ hk] at bz;exact bz.mono ()
  refine⟨m,a,M,W,300,60,rfl,h1,S1 _ _ ha,(),by rw[lW];exact wz,(),(),∅,∅,(),bM,bW,λp5 qa ra S qs rs H5 S5 h5 hqa hra nra lq lr hSe _ bS bq br lrz ev bfine=>?_⟩
  simp only[F2];have e5:ju [V.ref qa,V.ref ra,V.int S] (some 1) none=[V.ref ra,V.int S]:=rfl;refine⟨p5,rfl,_,h5,(λz=>absurd z.1 (show ¬ HT.sIx 3 0 (some 1)=0 by decide)),λp6 H6 hp6 S6 h6=>?_⟩
  rw[e5] at h6;refine⟨p6,rfl,_,h6,rfl,_,_,rfl,_,_,rfl,rfl,hN1 _ _ ?_⟩;have S06:=S1.trans (S5.trans S6);have br7:∀x∈rs,Bt 1110 x:=λx hx=>(bfine x hx).mono (by
   have:(60+1)*(M.length+1-W.length)<=(60+1)*13:=Y9 _ ();nofun)
  have S0:S≠0:=by
   obtain⟨e,_,hS⟩:=hSe;rw[hS];refine Xk ?_;rw[lW];exact wz
  obtain⟨σ,hσ⟩ : ∃σ,σ=S.sign:=⟨_,rfl⟩;have pσ:qi σ:=by
   rw[hσ];rcases ff S0 with ⟨z,_⟩|⟨z,_⟩
   .exact .inl z
   .exact .inr z
  symm
  simp only[dN,bQ];refine⟨ra,rs,1110,rfl,S6 _ _ hra,(),∅,br7,(λz=>lrz (λy=>z (Xz.mp y))),λd7 H7 ms g S7 h7 n7 l7 g0 e7 p7 b7=>?_⟩;refine⟨d7,rfl,⟨_,.of (aF h7)⟩,λd8 H8 hd8 S8 h8=>?_⟩;have pb:∀{y:Int},qi y->Bt 2 y:=λh=>by rcases h with z|z<;>rw[z]<;>decide
  refine bH (its:=ms.map V.int) (λj zs H'=>ay (vw K H7) (vw K H')/\zs=((ms.take j).map λy=>σ*y).map V.int) (λj zs H' _ _ z=>aM (z.1 _ _ h7)) h8 ⟨S8,rfl⟩ (λj y zs H' hj hy h' z=>?_) (λzs H9 h9 z=>?_)
  .obtain⟨z1,rfl⟩:=z;rw[Yb] at hj;rw[Yj,Ya hj] at hy;cases hy;symm
   simp only[bQ];refine⟨S,rfl,?_⟩;rw[<-hσ,eP];refine⟨cQ (pb pσ) (b7 _ (Yp hj)) ∅,.mk h' ?_ λH8' B8 h8'=>⟨λy o e=>B8 _ _ (ak e hd8) (z1 _ _ e),?_⟩⟩
   .rw[Yb,Yb,Yv];have:1000<=sizeLine:=∅;nofun
   .rw[Yw,Ya hj,Yq,Yq];rfl
  obtain⟨S79,rfl⟩:=z;rw[Yb,Y7] at h9;obtain⟨O,hO⟩ : ∃O,O=ms.map λy=>σ*y:=⟨_,rfl⟩;rw[<-hO] at h9;have lO:O.length=ms.length:=by rw[hO,Yb]
  have S09:=S06.trans (S7.trans S79);have nO:∀k,nz O k=σ*nz ms k:=λk=>by rw[hO,cW]
  have oz:O≠[]->nz O (O.length-1)≠0:=λo=>by
   have r0:rs.length≠0:=λz=>o (Xz.mp ());have:=lrz r0;rw[nO,lO,l7];rw[e7] at this;refine YL (by rcases pσ with z|z<;>nofun) λz=>this (by rw[z];nofun)
  have bO:∀x∈O,Bt 1110 x:=λx hx=>by
   rw[hO] at hx;obtain⟨y,hy,rfl⟩:=YX.mp hx;have:=b7 y hy;unfold Bt at this ⊢;rcases pσ with z|z<;>rw[z]<;>nofun
  simp only[cR];refine⟨a,d8,W,O,rfl,S09 _ _ ha,h9,(λz=>by rw[z] at lW;simp at lW),(),⟨(),λx hx=>(bW x hx).mono ∅,λ_=>by rw[lW];exact wz⟩,⟨(),λx hx=>(bO x hx).mono ∅,oz⟩,λd H' rows Sd ld rq lrw rb=>?_⟩
  have w1:∀x,ao M x=ao I x*ao G x:=λx=>by
   have:=jA (F:=M) (G:=G) (Q:=I) (R:=[]) (S:=1) (T:=0) () (λk=>by rw[eM k];nofun) x
   have c0:((0:Int):Rat)=0:=rfl;have c1:((1:Int):Rat)=1:=rfl;rw[c0,c1] at this;unfold ao;grind
  have w2:∀x,(S:Rat)*ao M x=ao qs x*ao W x+ao rs x:=λx=>by
   have:=jA (F:=M) (G:=W) (Q:=qs) (R:=rs) (S:=S) (T:=1) () (λk=>by rw[ev k];nofun) x
   have c1:((1:Int):Rat)=1:=rfl;rw[c1] at this;unfold ao;grind
  have w3:∀x,ao rs x=(g:Rat)*ao ms x:=λx=>by
   rw[<-uS];unfold ao;exact eN (λk=>by
    show (((nz rs k:Int)):Rat)=(((nz (ms.map λy=>g*y) k:Int)):Rat);rw[e7,cW]) x
  have w4:∀x,ao O x=(σ:Rat)*ao ms x:=λx=>by rw[hO,uS]
  have all:=E8 rq (λz=>by rw[z] at lW;simp at lW) (by rw[lW];exact wz) () () oz λrow hr=>(rb row hr).1
  refine h d H' O rows (g:Rat) ((σ*S:Int):Rat) (λx=>(σ:Rat)*ao qs x) (S09.trans Sd) ld (λF hF=>⟨(all F hF).1,?_,(all F hF).2.2,?_⟩) (YA.mpr g0) (YA.mpr ?_) ((cz ()).sc _) () (λx=>?_) rq lrw λrow hr=>(rb row hr).1
  .unfold iy at hF;by_cases o:O=[]
   .rw[Yg o] at hF;cases Yk.mp hF;nofun
   .rw[Yc o] at hF;rcases Yh.mp hF with rfl|hF
    .nofun
    rcases Yh.mp hF with rfl|hF
    .nofun
    obtain⟨row,fZ,s,ps,rfl⟩:=jg rows 1 1 (λr hr=>⟨(rq.ne r hr).1,(rq.ne r hr).2.1⟩) (.inl rfl) (.inl rfl) F hF;rw[Yb];exact (rb row fZ).1
  .unfold iy at hF;by_cases o:O=[]
   .rw[Yg o] at hF;cases Yk.mp hF;exact λx hx=>(bW x hx).mono ∅
   .rw[Yc o] at hF;rcases Yh.mp hF with rfl|hF
    .exact λx hx=>(bW x hx).mono ∅
    rcases Yh.mp hF with rfl|hF
    .exact λx hx=>(bO x hx).mono ∅
    obtain⟨row,fZ,s,ps,rfl⟩:=jg rows 1 1 (λr hr=>⟨(rq.ne r hr).1,(rq.ne r hr).2.1⟩) (.inl rfl) (.inl rfl) F hF;intro x hx;obtain⟨y,hy,rfl⟩:=YX.mp hx;have:=((rb row fZ).2 y hy).mono (n:=17850) ∅;unfold Bt at this ⊢;rcases ps with z|z<;>rw[z]<;>nofun
  .rw[hσ];rcases ff S0 with ⟨z,y⟩|⟨z,y⟩<;>rw[z]<;>nofun
  .have h1:=w1 x;have h2:=w2 x;rw[w3,h1] at h2;rw[w4,Yi];show (g:Rat)*((σ:Rat)*ao ms x)=(σ:Rat)*(S:Rat)*(ao I x*ao G x)-(σ:Rat)*ao qs x*ao W x;grind
def fk(K:W.Frag):Sp:=λvs H Q _=>∃(d c q:Addr)(ks:List (List Int))(G:List Int)(p:pZ),vs=[.ref d,.ref c,.ref q]/\jm (vw K H) d ks/\Hh 600000 ks/\vw K H c=some (.lst (G.map V.int))/\G.length<=20/\(∀x∈G,Bt 1000000 x)/\vw K H q=some (.tup [.int p.lo,.int p.hi,.int p.bo,.int p.sn])/\0<p.bo/\Bt 8000 p.lo/\Bt 8000 p.hi/\Bt 8000 p.bo/\Lu ks /\
 ∀H',ay (vw K H) (vw K H')->Q (.int (((chg 0 (Da (sg (ao G p.a)) (fK p.a (ks.map ao))):Nat):Int)-((chg 0 (fK p.b (ks.map ao)):Nat):Int))) H'
theorem qp(F:fY K "sign_there" "sign_there" fg f fd) (T:iK K mg)(C_signs_of:cg P w K mg base "signs_of" ["lists", "top", "bottom"] 2 (eT K)) (C_sign_of:cg P w K mg base "sign_of" ["whole"] 1 (bQ K)) (C_wholes_at:cg P w K mg base "wholes_at" ["wholes", "top", "bottom"] 1 (cE K)) (C_changes:cg P w K mg base "changes" ["signs"] 1 (gg K)):cj P w K mg base fW 3 f fd ["lists", "g", "place"] (fk K):=by
 have scN:=kx.nd;refine F.okQ kx (λvs H Q E h=>?_) (λcdv A outer s H vs Q E hr h=>?_)
 .obtain⟨_,_,_,_,_,_,rfl,_⟩:=h;rfl
 .obtain⟨d,c,q,ks,G,p,rfl,hd,lb,hc,lG,bG,hq,b0,bl,bh,bb,tw,h⟩:=h;refine⟨_,(ag (gd (qv 2) (dU (n:=4) rfl (aB (aq (i:=3) scN rfl (·)) (aB (aq (i:=4) scN rfl (·)) (aB (aq (i:=5) scN rfl (·)) (aB (aq (i:=6) scN rfl (·)) dQ))))))
   (ag (ax (i:=7) scN rfl (·) (av C_signs_of nofun rfl (aa (qv 0) (aa (qv 3) (aa (qv 5) ae)))))
   (ag (dy (aN ik (aE eI (qv 7) af (λ_ _=>rfl)) af (aR _)) (aj (gd (aw aV (aE eI (qv 7) af (λ_ _=>rfl)) (av C_sign_of nofun rfl (aa (aE dk (av C_wholes_at nofun rfl (aa (qv 1) (aa (qv 3) (aa (qv 5) ae)))) af (λ_ _=>rfl)) ae))) (pe (qv 7) af gf))) bC)
   (aj (aI (aw cK (av C_changes nofun rfl (aa (qv 7) ae)) (av C_changes nofun rfl (aa (av C_signs_of nofun rfl (aa (qv 0) (aa (qv 4) (aa (qv 5) ae)))) ae)))))))),?_⟩
  walk_at"m";refine aT.gen λN1 hN1=>?_;symm
  refine⟨_,hq,rfl,_,_,rfl,_,_,rfl,_,_,rfl,_,_,rfl,rfl,hN1 _ _ ?_⟩;refine aT.gen λN2 hN2=>?_;symm
  simp only[eT];refine⟨d,ks,p.lo,p.bo,rfl,hd,lb,b0,bl.mono ∅,bb.mono ∅,λla H1 S1 nla h1=>hN2 _ _ ?_⟩;refine aT.gen λN3 hN3=>?_;have key:∀H3,ay (vw K H) (vw K H3)->vw K H3 la=some (.lst ((Da (sg (ao G p.a)) (fK p.a (ks.map ao))).map V.int))->N3 [some (.ref d),some (.ref c),some (.ref q),some (.int p.lo),some (.int p.hi),some (.int p.bo),some (.int p.sn),some (.ref la)] H3:=λH3 S3 h3=>hN3 _ _ ?_
  .clear hN1 hN2 hN3;symm
   rcases tw with ⟨c',c0,rfl⟩|⟨k0,k1,tl,rfl⟩
   .refine⟨_,h1,V.int (sg (ao [c'] p.a)),eK,rfl,cZ (λz=>?_) (λz=>key H1 S1 h1)⟩;exfalso;rw[lQ] at z;have z:sg (c':Rat)=0:=by cases z':sg (c':Rat)<;>simp_all
    exact aC c0 (dJ.mp z)
   .refine⟨_,h1,V.int (sg (ao k0 p.a)),eK,rfl,cZ (λz=>?_) (λz=>key H1 S1 ?_)⟩
    .have z0:sg (ao k0 p.a)=0:=by injection z
     refine⟨_,h1,V.int (sg (ao k1 p.a)),i5,?_⟩;simp only[cE,bQ];refine⟨c,G,p.lo,p.bo,1000000,8000,rfl,S1 _ _ hc,(),∅,∅,bG,(),bl,bb,λr H4 u s S4 h4 s0 sp ev _ _=>⟨r,rfl,_,h4,_,eK,u,rfl,?_⟩⟩;rw[eP,oy (sp b0) ev,<-iP lG];have pb:∀y:Rat,Bt 2 (sg y):=λy=>by rcases cA y with w|w|w<;>rw[w]<;>decide
     refine⟨cQ (pb _) (pb _) ∅,_,S4 _ _ h1,0,by unfold vB;simp[fK];nofun,λH5 B5 h5=>key H5 (λy o e=>B5 _ _ (ak e nla) (S4 _ _ (S1 _ _ e))) ?_⟩
     rw[h5];show some (HO.lst (V.int (sg (ao k1 p.a)*sg (ao G p.a))::V.int (sg (ao k1 p.a))::(fK p.a (tl.map ao)).map V.int))=some (.lst ((if sg (ao k0 p.a)=0 then (sg (ao k1 p.a)*sg (ao G p.a))::sg (ao k1 p.a)::fK p.a (tl.map ao) else _).map V.int))
     rw[Yg z0];rfl
    .rw[h1];show _=some (HO.lst ((if sg (ao k0 p.a)=0 then _ else sg (ao k0 p.a)::sg (ao k1 p.a)::fK p.a (tl.map ao)).map V.int))
     rw[Yc λy=>z (by rw[y])]
     rfl
  clear hN1 hN2 hN3;symm
  simp only[gg,eT];exact⟨la,_,rfl,h3,d,ks,p.hi,p.bo,rfl,hd.same S3,lb,b0,bh.mono ∅,bb.mono ∅,λua H4 S4 _ h4=>⟨ua,_,rfl,h4,_,rfl,_,rfl,h H4 (S3.trans S4)⟩⟩
def gw(K:W.Frag):Sp:=λvs H Q _=>∃(a:Addr)(W:List Int)(n:Nat),vs=[.ref a]/\vw K H a=some (.lst (W.map V.int))/\W≠[]/\W.length<=20/\nz W (W.length-1)≠0/\n<=100000/\(∀x∈W,Bt n x) /\
 ∀E:Nat,E<=n+2->K8 W E->Q (.int ((2^E:Nat):Int)) H
theorem Fj{α:Type}{xs:List α}{k:Nat}{v:α}(hk:k<xs.length)(h:xs[xs.length-1-k]? = some v):pE xs (-1-(k:Int))=some v:=by
 unfold pE vB;rw[Yc (),Yg ()];show xs[(-1-(k:Int)+(xs.length:Int)).toNat]? = some v;rw[show (-1-(k:Int)+(xs.length:Int)).toNat=xs.length-1-k by nofun]
 exact h
theorem BG{x k:Int}{n:Nat}(h : -(n:Int)<=x)(k1:1<=k) : -(n:Int)<=x.fdiv k:=by
 rw[Int.fdiv_eq_ediv_of_nonneg _ ()];refine (Int.le_ediv_iff_mul_le ()).mpr ?_;have:=Int.mul_le_mul_of_nonneg_left k1 (show (0:Int)<=(n:Int) by nofun)
 rw[Int.neg_mul];nofun
theorem ql(F:fY K "root_bound" "root_bound" fh f fd) (T:iK K mg):cj P w K mg base fW 1 f fd ["wholes"] (gw K):=by
 have scN:=kz.nd;refine F.okQ kz (λvs H Q E h=>?_) (λcdv A outer s H vs Q E hr h=>?_)
 .obtain⟨_,_,_,rfl,_⟩:=h;rfl
 .obtain⟨a,W,n,rfl,ha,w0,w20,wz,hn,bw,h⟩:=h;refine⟨_,(ag (ax (i:=1) scN rfl (·) (tE PySem.F.plainAttrs_int PySem.F.slot_int_bit_length PySem.F.type_int_bit_length kq (aE eI (qv 0) (gD eV af) (λ_ _=>rfl))))
   (ag (ax (i:=2) scN rfl (·) af)
   (ag (cL PassesOwn.never rfl (qx rfl T.b_range (aa af (aa (az aU (by rfl) T.b_len cC (aa (qv 0) ae)) ae))) (aq (i:=3) scN rfl (·)) (ag (ax (i:=4) scN rfl (·) (aE eI (qv 0) (aw cK (gD eV af) (qv 3)) (λ_ _=>rfl)))
   (aj (dy (aN qM (qv 4) af (aR _)) (aj (ax (i:=2) scN rfl (·) (az (mv rfl) (by rfl) T.b_max wH (aa (qv 2) (aa (aw cK af (aw pj (aw cK (aw cK (qv 1) (tE PySem.F.plainAttrs_int PySem.F.slot_int_bit_length PySem.F.type_int_bit_length kq (qv 4))) af) (qv 3))) ae))))) bC))))
   (aj (aI (aw D2 af (qv 2))))))),?_⟩
  walk_at"m";have wp:=Yy.mpr w0;have at_:∀k,k<W.length->(W.map V.int)[k]? = some (.int (nz W k)):=λk hk=>by
   rw[Yj,Ya hk,aZ (Ya hk)];rfl
  have xl:(W.map V.int).getLast? = some (.int (nz W (W.length-1))):=by
   rw[YV,Yb];exact at_ _ ()
  have bn:∀k,Builtin.Int.intBits (nz W k)<=n:=λk=>DZ (pK bw k);refine aT.gen λN1 hN1=>?_;symm
  refine⟨_,ha,_,jh xl,?_⟩;refine⟨rfl,_,rfl,rfl,hN1 _ _ ?_⟩;refine aT.gen λN2 hN2=>?_;symm
  refine hN2 _ _ ?_;refine aT.gen λN3 hN3=>?_;symm
  refine⟨W.length,by simp only[gH,ha,Yb],(),(),(),(),?_⟩
  rw[show ((W.length:Int)-1).toNat=W.length-1 by nofun]
  obtain⟨Tm,hTm⟩ : ∃Tm:Nat->Nat->Prop,∀E k,Tm E k↔(nz W k=0\/1-(((Builtin.Int.intBits (nz W (W.length-1)):Nat):Int)-((Builtin.Int.intBits (nz W k):Nat):Int)-1).fdiv ((W.length-1-k:Nat):Int)<=(E:Int)):=⟨_,λ_ _=>Iff.rfl⟩;obtain⟨Pv,hPv⟩ : ∃Pv:Nat->St->Hp->Prop,∀i σ H',Pv i σ H'↔H'=H /\ ∃(E:Nat)(o3 o4:Option V),σ=[some (.ref a),some (.int ((Builtin.Int.intBits (nz W (W.length-1)):Nat):Int)),some (.int (E:Int)),o3,o4]/\E<=n+2 /\ ∀k,W.length-1-i<=k->k<W.length-1->Tm E k:=⟨_,λ_ _ _=>Iff.rfl⟩;refine aY (its:=iB 1 (W.length-1)) Pv (λi σ H' _ p=>cp) ((hPv _ _ _).mpr ⟨rfl,0,_,_,rfl,(),λk h1 h2=>absurd h2 ()⟩) (λi y σ H1 hi hy pv=>?_) (λσ H1 pv=>?_)
  .obtain⟨rfl,E,o3,o4,rfl,eE,hk⟩:=(hPv _ _ _).mp pv;obtain⟨hi',rfl⟩:=iI hy;have ek:W.length-1-(W.length-1-(i+1))=i+1:=();refine aT.gen λN4 hN4=>?_;symm
   refine⟨_,ha,V.int (nz W (W.length-1-(i+1))),?_,hN4 _ _ ?_⟩
   .rw[show (-1:Int)-(1+(i:Int)) = -1-((i+1:Nat):Int) by nofun]
    refine Fj (by rw[Yb];nofun) ?_
    rw[Yb];exact at_ _ ()
   have keep:∀E':Nat,E<=E'->Tm E' (W.length-1-(i+1)) -> ∀k,W.length-1-(i+1)<=k->k<W.length-1->Tm E' k:=λE' le t k h1 h2=>by
    by_cases z:k=W.length-1-(i+1)
    .rw[z];exact t
    .rcases (hTm _ _).mp (hk k () h2) with y|y
     .exact (hTm _ _).mpr (.inl y)
     .exact (hTm _ _).mpr (.inr ())
   symm
   refine cZ (λz=>?_) (λz=>(hPv (i+1) _ _).mpr ⟨rfl,E,_,_,rfl,eE,keep E (Yn _) ((hTm _ _).mpr (.inl (Classical.not_not.mp z)))⟩);have b1:=(nY wz).1;have b2:=bn (W.length-1-(i+1));have fl:=BG (n:=n) (x:=((Builtin.Int.intBits (nz W (W.length-1)):Nat):Int)-((Builtin.Int.intBits (nz W (W.length-1-(i+1))):Nat):Int)-1) (k:=1+(i:Int)) () ();refine⟨rfl,_,rfl,rfl,_,rfl,Jc () (show (1+(i:Int)).natAbs<2^9000 from Yr (show _<2^5 by nofun) (Xx ∅ ∅)),?_⟩
   obtain⟨v,hv⟩ : ∃v,v=1-(((Builtin.Int.intBits (nz W (W.length-1)):Nat):Int)-((Builtin.Int.intBits (nz W (W.length-1-(i+1))):Nat):Int)-1).fdiv (1+(i:Int)):=⟨_,rfl⟩;rw[<-hv];have tm:∀E':Nat,v<=(E':Int)->Tm E' (W.length-1-(i+1)):=λE' l=>(hTm _ _).mpr (.inr (by
    rw[ek,show ((i+1:Nat):Int)=1+(i:Int) by nofun,<-hv]
    exact l))
   by_cases q:v > (E:Int)
   .rw[Yg q];obtain⟨E',rfl⟩ : ∃E':Nat,v=(E':Int):=⟨v.toNat,()⟩;exact (hPv (i+1) _ _).mpr ⟨rfl,E',_,_,rfl,(),keep E' () (tm E' ())⟩
   .rw[Yc q];exact (hPv (i+1) _ _).mpr ⟨rfl,E,_,_,rfl,eE,keep E (Yn _) (tm E ())⟩
  .obtain⟨rfl,E,o3,o4,rfl,eE,hk⟩:=(hPv _ _ _).mp pv;refine hN3 _ _ ?_;symm
   refine⟨(),?_,?_⟩
   .have:Builtin.Int.intBits 1=1:=∅;rw[this];nofun
   .have e:=h E eE λk hk'=>?_
    .rw[show (1:Int)*2^((E:Int)).toNat=((2^E:Nat):Int) by rw[YG,XB];simp]
     exact e
    .rcases (hTm _ _).mp (hk k (by rw[dY];nofun) hk') with y|y
     .rw[y];unfold Sm;have p1:(0:Rat)<p2 E/2:=by
       have:=sr E;grind
      have p3:=Yo (show (0:Rat)<(((nz W (W.length-1)).natAbs:Int):Rat) from YA.mpr ()) (fB p1 (W.length-1-k))
      have c0:((0:Int):Rat)=0:=rfl;rw[c0];grind
     .exact wG (ET _) (nY wz).2 (nY wz).1 () y
def ja(G:Hp)(v:V)(e:kh):Prop:=∃p la ua:Addr,v=.ref p/\G p=some (.tup [.int e.lo,.int e.hi,.int e.bo,.ref la,.ref ua])/\G la=some (.lst (e.ls.map V.int))/\G ua=some (.lst (e.us.map V.int))/\e.ls≠[]/\e.us≠[]
theorem ja.same{G G':Hp}{v:V}{e:kh}(h:ja G v e)(S:ay G G'):ja G' v e:=by
 obtain⟨p,la,ua,r,a,b,c,d⟩:=h;exact⟨p,la,ua,r,S _ _ a,S _ _ b,S _ _ c,d⟩
def iS(xs:List V):Prop:=∀v∈xs,∃p:Addr,v=.ref p
theorem oh{G:Hp}{l t:Addr}{ns:List Int}{xs:List V}(h:G l=some (.lst (ns.map V.int)))(n0:ns≠[])(ht:G t=some (.lst xs))(ar:iS xs):l≠t:=λe=>by
 subst e;rw[h] at ht;cases ht;cases ns with
 | nil=>exact n0 rfl
 | cons a ns =>
  obtain⟨p,z⟩:=ar (.int a) (by simp)
  cases z
theorem tS{G:Hp}{l t:Addr}{ys xs:List V}(h:G l=some (.tup ys))(ht:G t=some (.lst xs)):l≠t:=λe=>by
 subst e;rw[h] at ht;cases ht
theorem ja.but{G G':Hp}{v:V}{e:kh}{t:Addr}{xs:List V}(h:ja G v e)(B:gF t G G')(ht:G t=some (.lst xs))(ar:iS xs):ja G' v e:=by
 obtain⟨p,la,ua,r,a,b,c,d1,d2⟩:=h;exact⟨p,la,ua,r,B _ _ (tS a ht) a,B _ _ (oh b d1 ht ar) b,B _ _ (oh c d2 ht ar) c,d1,d2⟩
inductive lK (G:Hp):List V->List (kh×Nat)->Prop
 | nil:lK G [] []
 | cons {v:V}{e:kh}{l:Nat}{vs:List V}{es:List (kh×Nat)}:ja G v e->lK G vs es->lK G (v::vs) ((e,l)::es)
theorem lK.map{G G':Hp}{vs:List V}{es:List (kh×Nat)}(h:lK G vs es)(f:∀v e,ja G v e->ja G' v e):lK G' vs es:=by
 induction h with
 | nil=>exact .nil
 | cons a _ ih=>exact .cons (f _ _ a) ih
theorem lK.refs{G:Hp}{vs:List V}{es:List (kh×Nat)}(h:lK G vs es):iS vs:=by
 induction h with
 | nil=>intro v hv;cases hv
 | cons a _ ih =>
  intro v hv;rcases Yh.mp hv with rfl|z
  .obtain⟨p,_,_,r,_⟩:=a;exact⟨p,r⟩
  .exact ih v z
theorem lK.len{G:Hp}{vs:List V}{es:List (kh×Nat)}(h:lK G vs es):vs.length=es.length:=by
 induction h with
 | nil=>rfl
 | cons a _ ih=>simp[ih]
theorem iS.rev{xs:List V}(h:iS xs):iS xs.reverse:=λv hv=>h v (List.mem_reverse.mp hv)
def gn(G:Hp)(t:Addr)(ps:List pZ):Prop:=∃xs,G t=some (.lst xs)/\xs.length=ps.length /\ ∀(k:Nat)(p:pZ),ps[k]? = some p -> ∃q:Addr,xs[k]? = some (.ref q)/\G q=some (.tup [.int p.lo,.int p.hi,.int p.bo,.int p.sn])
theorem gn.refs{G:Hp}{t:Addr}{ps:List pZ}{xs:List V}(h:gn G t ps)(hx:G t=some (.lst xs)):iS xs/\xs.length=ps.length:=by
 obtain⟨ys,a,b,c⟩:=h;rw[hx] at a;cases a;refine⟨λv hv=>?_,b⟩;obtain⟨k,hk⟩:=Xy hv;have:k<ps.length:=by
  have:=(Ys.mp hk).1;nofun
 obtain⟨q,e,_⟩:=c k _ (Ya this);rw[hk] at e;cases e;exact⟨q,rfl⟩
theorem gn.same{G G':Hp}{t:Addr}{ps:List pZ}(h:gn G t ps)(S:ay G G'):gn G' t ps:=by
 obtain⟨ys,a,b,c⟩:=h;refine⟨ys,S _ _ a,b,λk p e=>?_⟩;obtain⟨q,e1,e2⟩:=c k p e;exact⟨q,e1,S _ _ e2⟩
theorem gn.but{G G':Hp}{t w:Addr}{ps:List pZ}{xs:List V}(h:gn G t ps)(B:gF w G G')(n:t≠w)(hw:G w=some (.lst xs)):gn G' t ps:=by
 obtain⟨ys,a,b,c⟩:=h;refine⟨ys,B _ _ n a,b,λk p e=>?_⟩;obtain⟨q,e1,e2⟩:=c k p e;exact⟨q,e1,B _ _ (tS e2 hw) e2⟩
theorem gn.snoc{G G':Hp}{t q:Addr}{ps:List pZ}{p:pZ}{xs:List V}(h:gn G t ps)(hx:G t=some (.lst xs))(B:gF t G G')(hq:G q=some (.tup [.int p.lo,.int p.hi,.int p.bo,.int p.sn]))(e:G' t=some (.lst (xs++[.ref q]))):gn G' t (ps++[p]):=by
 obtain⟨ys,a,b,c⟩:=h;rw[hx] at a;cases a;refine⟨_,e,by simp[b],λk p' ek=>?_⟩
 by_cases hk:k<ps.length
 .rw[YW hk] at ek;obtain⟨m,e1,e2⟩:=c k p' ek;exact⟨m,by rw[YW ()];exact e1,B _ _ (tS e2 hx) e2⟩
 .have hk2:k=ps.length:=by
   have:=(Ys.mp ek).1;simp at this;nofun
  subst hk2;rw[YO (),XS] at ek;cases ek;exact⟨q,by rw[YO (),b,XS];rfl,B _ _ (tS hq hx) hq⟩
def i0(K:W.Frag):Sp:=λvs H Q _=>∃(d:Addr)(hs:List (List Int))(h0:List Int)(tl:List (List Int))(A:Rat->Nat)(Sg:Int->Rat->Prop)(T B n:Nat),vs=[.ref d]/\jm (vw K H) d hs/\Hh 600000 hs/\hs=h0::tl/\nz h0 (h0.length-1)≠0/\(∀x∈h0,Bt n x)/\n<=1000/\B<=500/\Jk hs A Sg T B /\
 ∀(t:Addr)(H':Hp)(ps:List pZ)(x:Rat),ay (vw K H) (vw K H')->gn (vw K H') t ps->vw K H t=none->ps.length=T->Du A Sg 8000 ps x->Q (.ref t) H'
theorem zr(F:fY K "places" "places" i7 f fd) (T:iK K mg)(C_root_bound:cg P w K mg base "root_bound" ["wholes"] 1 (gw K)) (C_signs_far:cg P w K mg base "signs_far" ["lists", "side"] 2 (gQ K)) (C_signs_of:cg P w K mg base "signs_of" ["lists", "top", "bottom"] 2 (eT K)) (C_changes:cg P w K mg base "changes" ["signs"] 1 (gg K)):cj P w K mg base fW 3 f fd ["lists"] (i0 K):=by
 have scN:=rH.nd;refine F.okQ rH (λvs H Q E h=>?_) (λcdv A outer s H vs Q E hr h=>?_)
 .obtain⟨_,_,_,_,_,_,_,_,_,rfl,_⟩:=h;rfl
 .obtain⟨d,hs,h0,tl,N,Sg,T0,B,n,rfl,hd,lb,hh,hz,hb,n1,b1,PH,h⟩:=h;refine⟨_,(ag (ax (i:=1) scN rfl (·) (av C_root_bound nofun rfl (aa (aE eI (qv 0) af (λ_ _=>rfl)) ae)))
   (ag (ax (i:=2) scN rfl (·) (aJ ae))
   (ag (ax (i:=3) scN rfl (·) (aJ (aa (aP (aa (gD eV (qv 1)) (aa (qv 1) (aa af (aa (av C_signs_far nofun rfl (aa (qv 0) (aa (gD eV af) ae))) (aa (av C_signs_far nofun rfl (aa (qv 0) (aa af ae))) ae)))))) ae)))
   (ag (iw PassesOwn.never (dZ (qv 3) (λ_=>rfl)) (ag (gd (tE YR PySem.F.slot_list_pop PySem.F.type_list_pop xD (qv 3)) (dU (n:=5) rfl (aB (aq (i:=4) scN rfl (·)) (aB (aq (i:=5) scN rfl (·)) (aB (aq (i:=6) scN rfl (·)) (aB (aq (i:=7) scN rfl (·)) (aB (aq (i:=8) scN rfl (·)) dQ)))))))
   (ag (ax (i:=9) scN rfl (·) (aw cK (av C_changes nofun rfl (aa (qv 7) ae)) (av C_changes nofun rfl (aa (qv 8) ae))))
   (aj (dy (aN ik (qv 9) af (aR _)) (aj (fP (ku YR Y6 Y5 dX (qv 2) (aa (aP (aa (qv 4) (aa (qv 5) (aa (qv 6) (aa (fQ (aN qM (aE eI (qv 7) af (λ_ _=>rfl)) af (aR _)) (aE eI (qv 7) af (λ_ _=>rfl)) (aE eI (qv 7) af (λ_ _=>rfl))) ae))))) ae)))) (aj (dy (aN nj (qv 9) af (aR _)) (ag (ax (i:=10) scN rfl (·) (av C_signs_of nofun rfl (aa (qv 0) (aa (aw bY (qv 4) (qv 5)) (aa (aw aV af (qv 6)) ae)))))
   (ag (fP (ku YR Y6 Y5 dX (qv 3) (aa (aP (aa (aw bY (qv 4) (qv 5)) (aa (aw aV af (qv 5)) (aa (aw aV af (qv 6)) (aa (qv 10) (aa (qv 8) ae)))))) ae)))
   (aj (fP (ku YR Y6 Y5 dX (qv 3) (aa (aP (aa (aw aV af (qv 4)) (aa (aw bY (qv 4) (qv 5)) (aa (aw aV af (qv 6)) (aa (qv 7) (aa (qv 10) ae)))))) ae)))))) bC)))))))
   (aj (aI (qv 2))))))),?_⟩
  walk_at"m";obtain⟨xs,hxs,lxs,cxs⟩:=id hd;obtain⟨l0,e1,ne1,e3⟩:=cxs 0 h0 (by rw[hh];rfl)
  obtain⟨h00,h020,_⟩:=lb.2 h0 (by rw[hh];simp)
  refine aT.gen λN1 hN1=>?_;symm
  simp only[gw];refine⟨xs,hxs,_,cw (j:=0) e1,l0,h0,n,rfl,e3,h00,h020,hz,(),hb,λE0 hE rb=>hN1 _ _ ?_⟩;refine aT.gen λN2 hN2=>?_;symm
  refine⟨Y3 _,λt H2 ht S2 h2=>hN2 _ _ ?_⟩;refine aT.gen λN3 hN3=>?_;symm
  simp only[gQ];refine⟨d,hs,-1,rfl,hd.same S2,lb,.inr rfl,λla H3 S3 h3=>⟨d,hs,1,rfl,(hd.same S2).same S3,lb,.inl rfl,λua H4 S4 h4=>?_⟩⟩;refine⟨∅,λp H5 hp S5 h5=>⟨∅,λwq H6 hwq S6 h6=>hN3 _ _ ?_⟩⟩;clear hN1 hN2 hN3;obtain⟨C,hC⟩ : ∃C,C=chg 0 (hs.map (cI (-1))):=⟨_,rfl⟩;obtain⟨J,hJ⟩ : ∃J,J=2*E0+2+2*B:=⟨_,rfl⟩;have ok0:=p8.first (J:=J) PH hh rb
  rw[<-hC] at ok0;have hs0:hs≠[]:=by rw[hh];simp
  have S26:=S3.trans (S4.trans (S5.trans S6));have S46:=S5.trans S6;have h26:=S26 _ _ h2;have nwt:t≠wq:=ak (S3.trans (S4.trans S5) _ _ h2) hwq;have hC12:C<=12:=by
   rw[hC];have:=wF (hs.map (cI (-1))) 0;rw[Yb] at this;have:=lb.1;nofun
  refine aT.gen λN4 hN4=>?_;symm
  obtain⟨W,hW⟩ : ∃W:Nat->St->Hp->Prop,∀m σ H',W m σ H' ↔ ∃(o4 o5 o6 o7 o8 o9 o10:Option V)(x:Rat)(vs:List V)(es:List (kh×Nat))(ps:List pZ),σ=[some (.ref d),some (.int ((2^E0:Nat):Int)),some (.ref t),some (.ref wq),o4,o5,o6,o7,o8,o9,o10]/\ay (vw K H) (vw K H')/\vw K H' wq=some (.lst vs.reverse)/\lK (vw K H') vs es/\gn (vw K H') t ps/\JH hs N Sg C E0 J x es/\Du N Sg 8000 ps x/\m=Ak J es:=⟨_,λ_ _ _=>Iff.rfl⟩;refine⟨W,⟨_,(hW _ _ _).mpr ⟨_,_,_,_,_,_,_,_,[.ref p],[(_,0)],[],rfl,S2.trans S26,h6,.cons ⟨p,la,ua,rfl,S6 _ _ h5,S4.trans S46 _ _ h3,S46 _ _ h4,by simpa using hs0,by simpa using hs0⟩ .nil,⟨[],h26,rfl,by simp⟩,.cons ok0 (Yn _) ?_,⟨?_,by simp,by simp⟩,rfl⟩⟩,λm σ H' wm=>?_⟩
  .have:kh.b ⟨-((2^E0:Nat):Int),((2^E0:Nat):Int),1,hs.map (cI (-1)),hs.map (cI 1)⟩=p2 E0:=by
    show (((2^E0:Nat):Int):Rat)/((1:Int):Rat)=_;rw[show ((1:Int):Rat)=1 from rfl]
    show p2 E0/1=_;grind
   rw[this];exact .nil
  .have:=ok0.cl;have e:chg 0 (hs.map (cI (-1)))=C:=hC.symm;show N _=0;have this:chg 0 (hs.map (cI (-1)))+N _=C:=this;nofun
  obtain⟨o4,o5,o6,o7,o8,o9,o10,x,vs,es,ps,rfl,S0,hw,En,Pl,St,To,rfl⟩:=(hW _ _ _).mp wm;clear wm;symm
  cases En with
  | nil =>
   refine⟨_,gO hw,?_⟩;show N4 _ _;refine hN4 _ _ ?_;symm
   cases St with
   | nil=>exact h t H' ps _ S0 Pl (by
     cases e:vw K H t with
     | none=>rfl
     | some o=>rw[e] at ht;cases ht) (by
     rw[<-To.1];exact (PH.bd E0 h0 tl hh rb).1) To
  | @cons v e lev vs es Ev En =>
   cases St with
   | cons eok lle St =>
   refine⟨_,gO hw,?_⟩;refine JU (by simp) ?_
   obtain⟨p1,la1,ua1,rfl,q1,q2,q3,ne2,ne3⟩:=id Ev;have er:(V.ref p1::vs).reverse=vs.reverse++[V.ref p1]:=by simp
   rw[er] at hw;refine⟨λσ H2=>∃m',m'<Ak J ((e,lev)::es)/\W m' σ H2,λσ' H2 z=>z,.inl ⟨rfl,_,jz.of (aF hw)⟩,_,hw,V.ref p1,by simp,λH7 B7 h7=>?_⟩
   rw[List.dropLast_concat] at h7;have ar7:iS (vs.reverse++[V.ref p1]):=by rw[<-er];exact (lK.cons Ev En:lK _ _ ((e,lev)::es)).refs.rev
   obtain⟨p1',la1',ua1',ep,r1,r2,r3,_⟩:=Ev.but B7 hw ar7;cases ep;have En7:=En.map λv e z=>ja.but (G':=vw K H7) z B7 hw ar7;have Pl7:=Pl.but B7 nwt hw;have S07:ay (vw K H) (vw K H7):=λy o z=>B7 _ _ (λee=>by
    subst ee;have:=(S2.trans (S3.trans (S4.trans S5))) _ _ z;rw[hwq] at this;cases this) (S0 _ _ z)
   refine⟨p1,rfl,_,r1,rfl,_,_,rfl,_,_,rfl,_,_,rfl,_,_,rfl,_,_,rfl,rfl,?_⟩;simp only[gg];refine⟨la1',e.ls,rfl,r2,ua1',e.us,rfl,r3,?_⟩;have lse:2<=hs.length -> ∃s0 s1 r,e.ls=s0::s1::r:=λl2=>by
    have:=eok.ll;match hq:e.ls with
    | []=>rw[hq] at this;simp at this;nofun
    | [_]=>rw[hq] at this;simp at this;nofun
    | s0::s1::r=>exact⟨s0,s1,r,rfl⟩
   have cl:=eok.cl;have cu:=eok.cu;have wp:1<=wt J lev:=ID (by have:=eok.lv;nofun)
   have mn:=PH.mono _ _ (Yl eok.lt);refine⟨_,rfl,_,rfl,cZ (λone=>?_) (λn1'=>?_)⟩
   .have T2:2<=hs.length:=by
     rcases PH.two with z|z
     .have a1:=PH.mono _ _ eok.in_.2;rw[(PH.bd E0 h0 tl hh rb).1] at a1;nofun
     .exact z
    have fin:Nw K H7 (HO.tup [V.int e.lo,V.int e.hi,V.int e.bo,V.int (tK e.ls)]) λx H1=>∃xs,vw K H1 t=some (HO.lst xs)/\xs.length<sizeLine/\Dp K H1 t (HO.lst (xs++[x])) λH1=>∃m',m'<Ak J ((e,lev)::es)/\W m' [some (V.ref d),some (V.int ((2^E0:Nat):Int)),some (V.ref t),some (V.ref wq),some (V.int e.lo),some (V.int e.hi),some (V.int e.bo),some (V.ref la1'),some (V.ref ua1'),some (V.int (((chg 0 e.ls:Nat):Int)-((chg 0 e.us:Nat):Int))),o10] H1:=by
     intro q H8 hq S8 h8;obtain⟨ys,y1,y2,y3⟩:=id Pl7;have Pl8:=Pl7.same S8;refine⟨ys,S8 _ _ y1,?_,λH9 B9 h9=>⟨Ak J es,?_,(hW _ _ _).mpr ⟨_,_,_,_,_,_,_,e.b,vs,es,ps++[⟨e.lo,e.hi,e.bo,tK e.ls⟩],rfl,?_,B9 _ _ (Ne.symm nwt) (S8 _ _ h7),?_,Pl8.snoc (S8 _ _ y1) B9 h8 h9,St,?_,rfl⟩⟩⟩
     .rw[y2,<-To.1];have:1000<=sizeLine:=∅;nofun
     .show Ak J es<wt J lev+Ak J es;nofun
     .exact λy o z=>B9 _ _ (λee=>by
       subst ee;rw[ht] at z;cases z) (S8 _ _ (S07 _ _ z))
     .exact En7.map λv e z=>ja.but (z.same S8) B9 (S8 _ _ y1) (Pl8.refs (S8 _ _ y1)).1
     .exact Du.snoc (p:=⟨e.lo,e.hi,e.bo,tK e.ls⟩) To (eok.place PH () () To.1)
    obtain⟨s0,s1,r,els⟩:=lse T2;have r2':=r2;rw[els] at r2';obtain⟨yst,yst1,_⟩:=id Pl7;refine⟨.inl ⟨rfl,_,jz.of (aF yst1)⟩,_,rfl,_,r2',V.int s0,eK,rfl,cZ (λz=>?_) (λz=>?_)⟩
    .refine⟨_,rfl,_,r2',V.int s0,eK,∅,?_⟩;have:tK e.ls=s0:=by
      rw[els];exact Yg λy=>z (by rw[y])
     rw[this] at fin;exact fin
    .refine⟨_,rfl,_,r2',V.int s1,i5,∅,?_⟩;have:tK e.ls=s1:=by
      rw[els];refine Yc λy=>z λw=>?_;cases w;exact y rfl
     rw[this] at fin;exact fin
   .refine cZ (λmore=>?_) (λnone_=>⟨Ak J es,?_,(hW _ _ _).mpr ⟨_,_,_,_,_,_,_,e.b,vs,es,ps,rfl,S07,h7,En7,Pl7,St,To.next (Yl eok.lt) (),rfl⟩⟩)
    .have rm:=eok.room PH hJ ();obtain⟨ok1,ok2,ea1,eb1,ea2,eb2⟩:=eok.halves PH hC rm;obtain⟨bt1,bt2,bt3⟩:=eok.bits;have b2:Bt 2 2:=∅;have up:∀{y:Int},Bt (E0+J+1) y->Bt 8000 y:=λz=>z.mono ();have m2:∀{y:Int},Bt (E0+J+1) y->IntMulOk 2 y:=λz=>cQ b2 (up z) ∅;have bs:Bt 9000 (e.lo+e.hi):=by
      have:=ok1.bits.2.2;exact Bt.mono (n:=9000) (show Bt (E0+J+1) (e.lo+e.hi) from this) ()
     have bb:Bt 9000 (2*e.bo):=Bt.mono (n:=9000) (show Bt (E0+J+1) (2*e.bo) from ok1.bits.1) ()
     have bp:0<2*e.bo:=by
      rw[eok.bo];have:=Xj lev;nofun
     simp only[ke,eP];refine⟨m2 bt1,?_⟩;simp only[eT];refine⟨d,hs,_,_,rfl,hd.same S07,lb,bp,bs,bb,λma H8 S8 _ h8=>?_⟩;have h8:vw K H8 ma=some (.lst ((fK e.m (hs.map ao)).map V.int)):=h8;have wq8:=S8 _ _ h7;have lv:vs.length<=3100:=by
      rw[En7.len];have:=eok.lv;nofun
     have s10:10000<=sizeLine:=∅;refine⟨.inl ⟨rfl,_,jz.of (aF wq8)⟩,m2 bt3,m2 bt1,∅,λqa H9 hqa S9 h9=>⟨_,S9 _ _ wq8,?_,λH10 B10 h10=>⟨.inl ⟨rfl,_,jz.of (aF h10)⟩,m2 bt2,m2 bt1,∅,λqb H11 hqb S11 h11=>⟨_,S11 _ _ h10,?_,λH12 B12 h12=>?_⟩⟩⟩⟩
     .rw[List.length_reverse];nofun
     .rw[Yx,List.length_reverse];simp;nofun
     have sn0:fK e.m (hs.map ao)≠[]:=by rw[hh];simp[fK]
     have Eu9:ja (vw K H9) (.ref qa) (e.up (fK e.m (hs.map ao))):=⟨qa,ma,ua1',rfl,h9,S9 _ _ h8,S9 _ _ (S8 _ _ r3),sn0,ne3⟩;have ar9:iS vs.reverse:=En7.refs.rev;have Eu10:=Eu9.but B10 (S9 _ _ wq8) ar9;have En9:=En7.map (G':=vw K H9) λv e z=>(z.same S8).same S9;have En10:=En9.map (G':=vw K H10) λv e z=>z.but B10 (S9 _ _ wq8) ar9;have ar10:iS (vs.reverse++[.ref qa]):=λv hv=>by
      rcases YK.mp hv with z|z
      .exact ar9 v z
      .exact⟨qa,Yk.mp z⟩
     have la10:vw K H10 la1'=some (.lst (e.ls.map V.int)):=B10 _ _ (oh (S9 _ _ (S8 _ _ r2)) ne2 (S9 _ _ wq8) ar9) (S9 _ _ (S8 _ _ r2));have ma10:vw K H10 ma=some (.lst ((fK e.m (hs.map ao)).map V.int)):=B10 _ _ (oh (S9 _ _ h8) sn0 (S9 _ _ wq8) ar9) (S9 _ _ h8);have El11:ja (vw K H11) (.ref qb) (e.low (fK e.m (hs.map ao))):=⟨qb,la1',ma,rfl,h11,S11 _ _ la10,S11 _ _ ma10,ne2,sn0⟩;have El12:=El11.but B12 (S11 _ _ h10) ar10;have En12:=(lK.cons (l:=lev+1) Eu10 En10).map (G':=vw K H12) λv e z=>(z.same S11).but B12 (S11 _ _ h10) ar10;have Pl12:=((((Pl7.same S8).same S9).but B10 nwt (S9 _ _ wq8)).same S11).but B12 nwt (S11 _ _ h10);have nw:∀y o,vw K H y=some o->y≠wq:=λy o z ee=>by
      subst ee;have:=(S2.trans (S3.trans (S4.trans S5))) _ _ z;rw[hwq] at this;cases this
     have St':JH hs N Sg C E0 J e.a ((e.low (fK e.m (hs.map ao)),lev+1)::(e.up (fK e.m (hs.map ao)),lev+1)::es):=by
      rw[<-ea1];refine .cons ok1 (by simp;nofun) ?_
      rw[eb1,<-ea2];refine .cons ok2 () ?_;rw[eb2];exact St
     refine⟨_,?_,(hW _ _ _).mpr ⟨_,_,_,_,_,_,_,e.a,.ref qb :: .ref qa::vs,_,ps,rfl,λy o z=>B12 _ _ (nw y o z) (S11 _ _ (B10 _ _ (nw y o z) (S9 _ _ (S8 _ _ (S07 _ _ z))))),?_,.cons El12 En12,Pl12,St',To,rfl⟩⟩
     .have:=Hv (J:=J) (l:=lev) eok.lv;show wt J (lev+1)+(wt J (lev+1)+Ak J es)<wt J lev+Ak J es;nofun
     .rw[h12];simp
    .show Ak J es<wt J lev+Ak J es;nofun
theorem zG{X:Cx}{sts:List Stmt}:vA X sts pC:=⟨zX⟩
theorem y9{qs:List (Int×Int)}{ns:List Int}{D:Int}(h:∀k,((nz ns k:Int):Rat)=cf qs k*(D:Rat))(x:Rat):ao ns x=(D:Rat)*EV (cf qs) x:=by
 unfold ao;rw[eN (g:=λk=>0+(D:Rat)*cf qs k) (λk=>by
  show ((nz ns k:Int):Rat)=_;rw[h];grind),jG,kI (f:=λ_=>0) λ_=>rfl]
 grind
def gA(K:W.Frag):Sp:=λvs H Q _=>∃(a b:Addr)(fs gs:List (Int×Int))(l:List (aO×Nat))(σ:Rat->Int)(ms:List Rat),vs=[.ref a,.ref b]/\ft (vw K H) a fs/\fs≠[]/\fs.length<=9/\fR fs/\Pb 185 (cf fs)/\ft (vw K H) b gs/\gs.length<=13/\fR gs/\Pb 220 (cf gs)/\HW fs l/\La gs l σ/\ms.Pairwise (· < ·)/\(∀v,v∈ms↔v∈kZ l) /\
 ∀(d:Addr)(H':Hp),ay (vw K H) (vw K H')->vw K H d=none->vw K H' d=some (.lst ((ms.map σ).map V.int))->Q (.ref d) H'
theorem uB(F:fY K "signs_at" "signs_at" fG f fd) (T:iK K mg)(C_refuse_nought:cg P w K mg base "refuse_nought" ["f"] 1 (dL K)) (C_counting_chain:cg P w K mg base "counting_chain" ["f"] 5 (cV K)) (C_cleared:cg P w K mg base "cleared" ["f"] 2 (fF K)) (C_parted_chain:cg P w K mg base "parted_chain" ["lists"] 3 (ce K)) (C_leaning_chain:cg P w K mg base "leaning_chain" ["wholes", "inclines", "g"] 5 (cH K)) (C_places:cg P w K mg base "places" ["lists"] 3 (i0 K)) (C_wholes_at:cg P w K mg base "wholes_at" ["wholes", "top", "bottom"] 1 (cE K)) (C_sign_of:cg P w K mg base "sign_of" ["whole"] 1 (bQ K)) (C_sign_there:cg P w K mg base "sign_there" ["lists", "g", "place"] 3 (fk K)):cj P w K mg base fW 6 f fd ["f", "g"] (gA K):=by
 have scN:=iH.nd;refine F.okQ iH (λvs H Q E h=>?_) (λcdv A outer s H vs Q E hr h=>?_)
 .obtain⟨_,_,_,_,_,_,_,rfl,_⟩:=h;rfl
 .obtain⟨a,b,fs,gs,l,σ,ms,rfl,ha,f0,lf,pf,bf,hb,lg,pg,bg,FH,SH,up,hm,h⟩:=h;refine⟨_,(ag (fP (av C_refuse_nought nofun rfl (aa (qv 0) ae)))
   (ag (ax (i:=2) scN rfl (·) (av C_counting_chain nofun rfl (aa (qv 0) ae)))
   (ag (ax (i:=3) scN rfl (·) (aE dk (av C_cleared nofun rfl (aa (qv 1) ae)) af (λ_ _=>rfl)))
   (ag (ax (i:=4) scN rfl (·) (av C_parted_chain nofun rfl (aa (av C_leaning_chain nofun rfl (aa (aE eI (qv 2) af (λ_ _=>rfl)) (aa (fQ (aN nj (az aU (by rfl) T.b_len cC (aa (qv 2) ae)) af (aR _)) (aE eI (qv 2) af (λ_ _=>rfl)) (aJ ae)) (aa (qv 3) ae)))) ae)))
   (ag (ax (i:=5) scN rfl (·) (aJ ae))
   (ag (cL PassesOwn.never rfl (bU (av C_places nofun rfl (aa (qv 2) ae))) (aq (i:=6) scN rfl (·)) (ag (gd (qv 6) (dU (n:=4) rfl (aB (aq (i:=7) scN rfl (·)) (aB (aq (i:=8) scN rfl (·)) (aB (aq (i:=9) scN rfl (·)) (aB (aq (i:=10) scN rfl (·)) dQ))))))
   (aj (dy (aN ik (aE dk (av C_wholes_at nofun rfl (aa (aE eI (qv 2) af (λ_ _=>rfl)) (aa (qv 8) (aa (qv 9) ae)))) af (λ_ _=>rfl)) af (aR _)) (aj (fP (ku YR Y6 Y5 dX (qv 5) (aa (av C_sign_of nofun rfl (aa (aE dk (av C_wholes_at nofun rfl (aa (qv 3) (aa (qv 8) (aa (qv 9) ae)))) af (λ_ _=>rfl)) ae)) ae)))) (aj (fP (ku YR Y6 Y5 dX (qv 5) (aa (av C_sign_there nofun rfl (aa (qv 4) (aa (qv 3) (aa (qv 6) ae)))) ae))))))))
   (aj (aI (qv 5))))))))),?_⟩
  walk_at"m";obtain⟨xs,hxs,rxs⟩:=id ha;have lx:xs.length=fs.length:=by rw[rxs.length,Yb]
  have x0:xs≠[]:=λz=>f0 (Xz.mp (by rw[<-lx,z];rfl))
  refine aT.gen λN1 hN1=>?_;symm
  simp only[dL];refine⟨a,xs,rfl,hxs,x0,λH1 S1=>hN1 _ _ ?_⟩;refine aT.gen λN2 hN2=>?_;symm
  simp only[cV];refine⟨a,fs,rfl,ha.same S1,f0,lf,pf,bf,λd H2 hs S2 l2 cc all lb=>hN2 _ _ ?_⟩;refine aT.gen λN3 hN3=>?_;symm
  simp only[fF];have S02:=S1.trans S2;refine⟨b,gs,220,rfl,hb.same S02,(),∅,λq hq=>⟨pg.1 q hq,bg.bq pg.1 q hq⟩,λp3 c H3 D G S3 h3 hc nc hD bD lG hG hmm=>⟨p3,rfl,_,h3,_,eK,hN3 _ _ ?_⟩⟩;have clG:=oG bg pg.1 hD hmm lG λi n q e1 e2=>(hG i n q e1 e2).1;have cG:=uJ lG λi n q e1 e2=>(hG i n q e1 e2).1;have so:=SH G (D:Rat) (YA.mpr hD) (y9 cG);obtain⟨h0,I,tl,n,κ,c0,hh,tI,n6,lh0,nh0,lI,k0,cn0,e0,id0,bh0,bI⟩:=GK cc FH all;refine aT.gen λN4 hN4=>?_;have next:∀(e:Addr)(ks:List (List Int)) H5,ay (vw K H3) (vw K H5)->jm (vw K H5) e ks->Hh 600000 ks->KJ h0 G l σ ks->Lu ks->N4 [some (.ref a),some (.ref b),some (.ref d),some (.ref c),some (.ref e),none,none,none,none,none,none] H5:=λe ks H5 S5 l5 lbk lnk twk=>hN4 _ _ ?_
  .clear hN1 hN2 hN3 hN4;have hh0:h0≠[]:=λz=>by rw[z] at lh0;simp at lh0
   have nh0':nz h0 (h0.length-1)≠0:=by rw[lh0];exact nh0
   have key:∀(la ia:Addr) H4,ay (vw K H3) (vw K H4)->vw K H4 la=some (.lst (h0.map V.int))->vw K H4 ia=some (.lst (I.map V.int))->cH K [.ref la,.ref ia,.ref c] H4 (λx H1=>ce K [x] H1 (λx H1=>N4 [some (.ref a),some (.ref b),some (.ref d),some (.ref c),some x,none,none,none,none,none,none] H1) E0) E0:=λla ia H4 S4 hla hia=>by
    simp only[cH];refine⟨la,ia,c,h0,I,G,n,rfl,hla,hia,S4 _ _ hc,n6,lh0,nh0,lI,(),bh0,bI,λx hx=>(clG.2 x hx).mono ∅,λd5 H5 O rows ω s t S5 l5 b5 ω0 s0 pt lO eO rq lrw lr9=>?_⟩;simp only[ce];have S35:=S4.trans S5;have hn:∀row∈rows,row.2.2.1≠0/\row.2.2.2≠0:=λrow z=>⟨(rq.ne row z).1,(rq.ne row z).2.1⟩;by_cases o0:O=[]
    .have e6:iy h0 O rows=[h0]:=Yg o0;rw[e6] at l5 b5;refine⟨d5,[h0],h0,rfl,l5,rfl,by simp,λF hF=>?_,λP g2 g20 lP hP prm F hF=>?_,λd7 H7 P g2 ks S7 l7 g20 lP hP pt' lbk=>?_⟩
     .obtain⟨q1,q2,q3,q4⟩:=b5 F hF;cases Yk.mp hF;exact⟨q1,q2,q3,Yn _,q4⟩
     .rw[Yk.mp hF];refine⟨[g2],xU (by simp;nofun) () λx=>?_⟩
      rw[lQ,fS hP]
     .cases pt' with
      | @cons _ k1 _ _ a1 a2 a3 a4 pt' =>
       cases pt' with
       | nil =>
        have Pz:nz P (P.length-1)≠0:=λz=>nh0' (by rw[hP,<-lP,z,Yz])
        have q:=tO nh0' a3 Pz a4;obtain⟨c',hc'⟩:=List.length_eq_one_iff.mp (show k1.length=1 by nofun)
        subst hc';have c0':c'≠0:=a3;refine next d7 [[c']] H7 (S35.trans S7) l7 lbk (Cg ?_) (.inl ⟨c',c0',rfl⟩)
        refine Ab FH.ok FH.un k0 () cn0 e0 id0 so s0 pt λx=>?_;have:=eO x;rw[o0,lU] at this;grind
    .have e6:iy h0 O rows=h0::O::mr 1 1 rows:=Yc o0;rw[e6] at l5 b5;obtain⟨L,s',eL,ps,nL,lL⟩:=iu rows 1 1 O O hn (.inl rfl) (.inl rfl) (λk=>by rw[YG]) rfl
     obtain⟨sh1,sh2⟩:=rq.short;have lsl:(h0::O::mr 1 1 rows).getLast? = some L:=by rw[XG];exact eL
     obtain⟨L0,L9,Lz,_⟩:=b5 L (List.mem_of_getLast? lsl);have sh:∀F∈h0::O::mr 1 1 rows,L.length<=F.length:=λF hF=>by
      rcases Yh.mp hF with rfl|hF
      .nofun
      .rcases Yh.mp hF with rfl|hF
       .nofun
       .obtain⟨row,hr,s2,ps2,rfl⟩:=jg rows 1 1 hn (.inl rfl) (.inl rfl) F hF;rw[Yb];have:=sh2 row hr;nofun
     refine⟨d5,_,L,rfl,l5,lsl,by simp only[YC,xt];nofun,λF hF=>?_,λP g2 g20 lP hP prm=>rP rq o0 () () prm () eL hP lr9,λd7 H7 P g2 ks S7 l7 g20 lP hP pt' lbk=>?_⟩
     .obtain⟨q1,q2,q3,q4⟩:=b5 F hF;exact⟨q1,q2,q3,sh F hF,q4⟩
     .have Pz:nz P (P.length-1)≠0:=λz=>Lz (by rw[hP,<-lP,z,Yz])
      obtain⟨j0,j1,tl',ek,lj0,lj1,ej0,ej1,pP,nP,ch⟩:=zQ rq o0 () () Pz () eL () hP pt';subst ek;exact next d7 _ H7 (S35.trans S7) l7 lbk (λx y xy hy=>zc FH.ok FH.un k0 id0 so ω0 s0 pt eO lj0 lj1 ej0 ej1 pP nP ch xy hy) (.inr ⟨j0,j1,tl',rfl⟩)
   symm
   have l3:=l2.same S3;obtain⟨ys,hys,lys,cys⟩:=id l3;obtain⟨la,y0,_,hla⟩:=cys 0 h0 (by rw[hh];rfl)
   refine⟨ys,hys,_,cw (j:=0) y0,ys.length,by simp only[gH,hys],?_⟩
   rcases tI with ⟨rfl,rfl⟩|⟨tl',rfl⟩
   .have:ys.length=1:=by rw[lys,hh];rfl
    rw[Yc ()];exact⟨Y3 _,λia H4 hia S4 h4=>key la ia H4 S4 (S4 _ _ hla) h4⟩
   .have:ys.length=tl'.length+2:=by rw[lys,hh];rfl
    rw[Yg ()];obtain⟨ia,y1,_,hia⟩:=cys 1 I (by rw[hh];rfl)
    exact⟨ys,hys,_,cw (j:=1) y1,key la ia H3 (ay.refl _) hla hia⟩
  clear hN1 hN2 hN3 hN4;refine aT.gen λN5 hN5=>?_;symm
  refine⟨Y3 _,λtd H6 htd S6 h6=>hN5 _ _ ?_⟩;refine aT.gen λN6 hN6=>?_;symm
  simp only[i0];obtain⟨c1,ev1⟩:=FH.ev;have PH:=HM (B:=300) cc.1 all FH.ok FH.un (by have:=FH.dl;nofun) FH.ln ev1 FH.mks
  have l36:=(l2.same S3).same (S5.trans S6);have nh0':nz h0 (h0.length-1)≠0:=by rw[lh0];exact nh0
  refine⟨d,hs,h0,tl,iU l,_,vz l,300,60,rfl,l36,lb,hh,nh0',bh0,∅,∅,PH,λt H7 ps x S7 Pl nt lps To=>⟨t,rfl,?_⟩⟩;obtain⟨zs,hzs,lzs,czs⟩:=id Pl;have ntd:t≠td:=(ak h6 nt).symm;have lms:=zu FH.ok FH.un up hm;have T4:vz l<=8:=by
   have h1:vz l<=de l:=by
    have:∀l:List (aO×Nat),(∀q∈l,q.1.ok/\1<=q.2)->vz l<=de l:=by
     intro l;induction l with
     | nil=>exact λ_=>Yn _
     | cons q l ih =>
      intro ok;have i:=ih λp hp=>ok p (Yd _ hp);have m1:=Xg q.1.deg (ok q Ye).2;have d1:q.1.tot<=q.1.deg:=by cases q.1<;>simp[aO.tot,aO.deg]
      show q.1.tot+vz l<=q.2*q.1.deg+de l;nofun
    exact this l FH.ok
   have:=FH.dl;nofun
  obtain⟨Pv,hPv⟩ : ∃Pv:Nat->St->Hp->Prop,∀i σ' H',Pv i σ' H' ↔ ∃(o6 o7 o8 o9 o10:Option V),σ'=[some (.ref a),some (.ref b),some (.ref d),some (.ref c),some (.ref e),some (.ref td),o6,o7,o8,o9,o10]/\gF td (vw K H7) (vw K H')/\vw K H' td=some (.lst (((ms.take i).map σ).map V.int)):=⟨_,λ_ _ _=>Iff.rfl⟩;refine⟨⟨_,.of (aF hzs)⟩,aY (its:=zs) Pv (λi σ' H' _ pv=>?_) ((hPv _ _ _).mpr ⟨_,_,_,_,_,rfl,λ_ _ _ z=>z,S7 _ _ h6⟩) (λi y σ' H8 hi hy pv=>?_) (λσ' H8 pv=>?_)⟩
  .obtain⟨_,_,_,_,_,_,B',_⟩:=(hPv _ _ _).mp pv;exact aM (B' _ _ ntd hzs)
  .obtain⟨o6,o7,o8,o9,o10,rfl,B8,h8⟩:=(hPv _ _ _).mp pv;have hi':i<ps.length:=();obtain⟨p,hp⟩ : ∃p,ps[i]? = some p:=⟨_,Ya hi'⟩;obtain⟨q,ey,hq⟩:=czs i p hp;rw[hy] at ey;cases ey;obtain⟨pok,_⟩:=To.2.1 i p hp;obtain⟨m,em,mz,mn⟩:=Bl FH.ok FH.un up hm cn0 e0 so lnk pok;have S58:ay (vw K H5) (vw K H8):=λy o z=>B8 _ _ (ak z htd) (S7 _ _ (S6 _ _ z));have q8:=B8 _ _ (λz=>by rw[z,S7 _ _ h6] at hq;cases hq) hq
   have l8:=((l2.same S3).same S5).same S58;obtain⟨ys,hys,lys,cys⟩:=id l8;obtain⟨la,y0,_,hla⟩:=cys 0 h0 (by rw[hh];rfl)
   have c8:=S58 _ _ (S5 _ _ hc);have et:(ms.take (i+1)).map σ=(ms.take i).map σ++[σ m]:=by
    rw[Yw,em,Yq];rfl
   have fin:∀(v:Int)(H9:Hp),v=σ m->ay (vw K H8) (vw K H9) -> ∃xs,vw K H9 td=some (HO.lst xs)/\xs.length<sizeLine/\Dp K H9 td (HO.lst (xs++[V.int v])) λH1=>Pv (i+1) [some (.ref a),some (.ref b),some (.ref d),some (.ref c),some (.ref e),some (.ref td),some (.ref q),some (.int p.lo),some (.int p.hi),some (.int p.bo),some (.int p.sn)] H1:=by
    intro v H9 ev S9;refine⟨_,S9 _ _ h8,?_,λH10 B10 h10=>(hPv _ _ _).mpr ⟨_,_,_,_,_,rfl,λy o n z=>B10 _ _ n (S9 _ _ (B8 _ _ n z)),?_⟩⟩
    .rw[Yb,Yb,Yv];have:1000<=sizeLine:=∅;nofun
    .rw[h10,et,ev,Yq];rfl
   refine aT.gen λM1 hM1=>?_;symm
   refine⟨_,q8,rfl,_,_,rfl,_,_,rfl,_,_,rfl,_,_,rfl,rfl,hM1 _ _ ?_⟩;clear hM1;symm
   simp only[cE];refine⟨ys,hys,_,cw (j:=0) y0,la,h0,p.hi,p.bo,60,8000,rfl,hla,(),∅,∅,bh0,by have:=pok.bo;nofun,pok.bh,pok.bb,λr H9 u s S9 h9 s0 sp ev _ _=>⟨r,rfl,_,h9,_,eK,rfl,?_⟩⟩
   have us:=oy (sp pok.bo) ev;rw[<-iP ()] at us;have us:u.sign=sg (ao h0 p.b):=us;have ty9:Jh K "list" (.ref td) H9:=mB (S9 _ _ h8);refine cZ (λz=>⟨ty9,?_⟩) (λz=>⟨ty9,?_⟩)
   .have u0:u=0:=by injection z
    have hz:ao h0 p.b=0:=by
     rw[u0] at us;exact dJ.mp us.symm
    refine⟨c,G,p.hi,p.bo,220,8000,rfl,S9 _ _ c8,(),∅,∅,λx hx=>(clG.2 x hx).mono ∅,by have:=pok.bo;nofun,pok.bh,pok.bb,λr' H10 u' s' S10 h10 s0' sp' ev' _ _=>⟨r',rfl,_,h10,_,eK,?_⟩⟩
    simp only[bQ];refine⟨u',rfl,fin _ H10 ?_ (S9.trans S10)⟩;have us':=oy (sp' pok.bo) ev';rw[<-iP ()] at us';rw[us',mz hz];rfl
   .have hz:ao h0 p.b≠0:=λy=>z (by
     rw[y,iE] at us;rw[Int.sign_eq_zero_iff_zero.mp us])
    simp only[fk];exact⟨e,c,q,ks,G,p,rfl,(l5.same S58).same S9,lbk,S9 _ _ c8,(),λx hx=>(clG.2 x hx).mono ∅,S9 _ _ q8,pok.bo,pok.bl,pok.bh,pok.bb,twk,λH10 S10=>fin _ H10 (mn hz) (S9.trans S10)⟩
  .obtain⟨o6,o7,o8,o9,o10,rfl,B8,h8⟩:=(hPv _ _ _).mp pv;refine hN6 _ _ ?_;symm
   refine h td H8 (λy o z=>B8 _ _ (ak ((S02.trans (S3.trans S5)) _ _ z) htd) ((S02.trans (S3.trans (S5.trans (S6.trans S7)))) _ _ z)) ((S02.trans (S3.trans S5)).none htd) ?_;rw[Xr ()] at h8;exact h8
def fT(C:Addr)(K:W.Frag):Sp:=λvs H _ E=>∃(a:Addr)(y:V),vs=[.ref a,y]/\vw K H a=some (.lst []) /\ ∀H',ay (vw K H) (vw K H')->E (.ref C) none H'
theorem rV{C:Addr}(F:fY K "signs_at" "signs_at" fG f fd) (T:iK K mg)(zx_NoPolynomial:u8 K C)(hgx_NoPolynomial:mg "NoPolynomial" = some (.ref C)) (C_refuse_nought:cg P w K mg base "refuse_nought" ["f"] 1 (dL K)) (C_counting_chain:cg P w K mg base "counting_chain" ["f"] 5 (cV K)) (C_cleared:cg P w K mg base "cleared" ["f"] 2 (fF K)) (C_parted_chain:cg P w K mg base "parted_chain" ["lists"] 3 (ce K)) (C_leaning_chain:cg P w K mg base "leaning_chain" ["wholes", "inclines", "g"] 5 (cH K)) (C_places:cg P w K mg base "places" ["lists"] 3 (i0 K)) (C_wholes_at:cg P w K mg base "wholes_at" ["wholes", "top", "bottom"] 1 (cE K)) (C_sign_of:cg P w K mg base "sign_of" ["whole"] 1 (bQ K)) (C_sign_there:cg P w K mg base "sign_there" ["lists", "g", "place"] 3 (fk K))
  (CX_refuse_nought:Co P w K mg base "refuse_nought" ["f"] 1 (eJ C K)):cj P w K mg base (nE P w) 6 f fd ["f", "g"] (fT C K):=by
 have scN:=iH.nd;refine F.okX iH (λvs H Q E h=>?_) (λcdv A outer s H vs Q E hr h=>?_)
 .obtain⟨_,_,rfl,_⟩:=h;rfl
 .obtain⟨a,y,rfl,ha,h⟩:=h;refine⟨_,(ag (Bo (wj CX_refuse_nought (hr.mono ∅) rfl (λ_=>(aa (qv 0) ae))))
   zG),?_⟩
  walk_at"m";refine aT.gen λN1 hN1=>?_;simp only[Gb,yu];symm
  simp only[eJ];exact⟨a,rfl,ha,h⟩
def ka(K:W.Frag):Sp:=λvs H Q _=>∃a b:Int,vs=[.int a,.int b]/\Q (.int (Int.gcd a b)) H
theorem zo(F:fY K "_law_divisor" "_law_divisor" ij f fd) (T:iK K mg):cj P w K mg base fW 1 f fd ["_law_one", "_law_other"] (ka K):=by
 have scN:=rD.nd;refine F.okQ rD (λvs H Q E h=>?_) (λcdv A outer s H vs Q E hr h=>?_)
 .obtain⟨a,b,rfl,_⟩:=h;rfl
 .obtain⟨a,b,rfl,h⟩:=h;refine⟨_,(ag (iw PassesOwn.never (aN qM (qv 1) af (aR _)) (aj (pi (i:=0) (j:=1) rfl scN rfl rfl ∅ rfl rfl (aa (qv 1) (aa (aw gU (qv 0) (qv 1)) ae)) rfl)))
   (aj (aI (az jD (by rfl) T.b_abs oU (aa (qv 0) ae))))),?_⟩
  walk_at"m";symm
  refine⟨λm σ H'=>H'=H /\ ∃x y:Int,σ=[some (.int x),some (.int y)]/\Int.gcd x y=Int.gcd a b/\m=y.natAbs,⟨_,rfl,_,_,rfl,rfl,rfl⟩,?_⟩;rintro m σ H' ⟨rfl,x,y,rfl,hg,rfl⟩;symm
  refine cZ (λhy0=>?_) (λhy0=>?_)
  .refine⟨_,λσ' H' h=>h,?_⟩;symm
   exact⟨hy0,_,xY x hy0,by rw[uu,hg],rfl⟩
  .symm
   have e:((Int.gcd a b:Nat):Int)=if x<0 then -x else x:=by
    rw[<-hg,show y=0 by nofun]
    simp;split<;>nofun
   rw[<-e];exact h
def m8(K:W.Frag):Sp:=λvs H Q _=>∃a b:Int,vs=[.int a,.int b]/\b≠0/\b.natAbs<2^4000000 /\ ∀v H',ay (vw K H) (vw K H')->aW (vw K H') (fr (lo a b)) v->Q v H'
theorem JT(F:fY K "_law_low" "_law_low" rN f fd) (T:iK K mg)(N_:qu P base)(zCdivisor:cg P w K mg base "_law_divisor" ["_law_one", "_law_other"] 1 (ka K)):cj P w K mg base fW 2 f fd ["_law_top", "_law_bottom"] (m8 K):=by
 have scN:=F4.nd;refine F.okQ F4 (λvs H Q E h=>?_) (λcdv A outer s H vs Q E hr h=>?_)
 .obtain⟨a,b,rfl,_⟩:=h;rfl
 .obtain⟨a,b,rfl,hb,hbb,h⟩:=h;refine⟨_,(ag (ax (i:=2) scN rfl (·) (av zCdivisor nofun rfl (aa (qv 0) (aa (qv 1) ae))))
   (ag (dy (aN C5 (qv 1) af (aR _)) (aj (ax (i:=2) scN rfl (·) (aw cK af (qv 2)))) bC)
   (aj (aI (aP (aa (aw (jC N_ hr rfl rfl rfl) (qv 0) (qv 2)) (aa (aw (jC N_ hr rfl rfl rfl) (qv 1) (qv 2)) ae))))))),?_⟩
  walk_at"m";symm
  simp only[ka];symm
  have hgn:Int.gcd a b≠0:=λe=>hb (Int.gcd_eq_zero_iff.mp e).2;have e1:lg a b=if b<0 then 0-(Int.gcd a b:Int) else (Int.gcd a b:Int):=by
   unfold lg;split<;>nofun
  have d1:Fx a (0-(Int.gcd a b:Int)):=by unfold Fx;nofun
  have d2:Fx a (Int.gcd a b:Int):=by unfold Fx;nofun
  refine cZ (λhn=>?_) (λhn=>?_)
  .rw[Yg hn] at e1;refine⟨d1,d1,∅,λp H2 hp S hp2=>?_⟩;refine h _ H2 S ?_;rw[<-e1] at hp2;simp only[fr,lo,aW,aK];exact⟨p,_,rfl,hp2,_,_,rfl,rfl,_,_,rfl,rfl,rfl⟩
  .rw[Yc hn] at e1;refine⟨d2,d2,∅,λp H2 hp S hp2=>?_⟩;refine h _ H2 S ?_;rw[<-e1] at hp2;simp only[fr,lo,aW,aK];exact⟨p,_,rfl,hp2,_,_,rfl,rfl,_,_,rfl,rfl,rfl⟩
def ox(K:W.Frag):Sp:=λvs H Q _=>∃(a:Addr)(qs:List (Int×Int)),vs=[.ref a]/\ft (vw K H) a qs /\
 ∀b H' n,n<=qs.length->(∀q,(qs.take n).getLast? = some q->q.1≠0)->(∀q∈qs.drop n,q.1=0)->vw K H b=none->ay (vw K H) (vw K H')->ft (vw K H') b (qs.take n)->Q (.ref b) H'
theorem E5(F:fY K "_law_clean" "_law_clean" j8 f fd) (T:iK K mg):cj P w K mg base fW 1 f fd ["_law_numbers"] (ox K):=by
 have scN:=xC.nd;refine F.okQ xC (λvs H Q E h=>?_) (λcdv A outer s H vs Q E hr h=>?_)
 .obtain⟨a,_,rfl,_⟩:=h;rfl
 .obtain⟨a,qs,rfl,ha,h⟩:=h;refine⟨_,(ag (ax (i:=1) scN rfl (·) (az aU (by rfl) T.b_len cC (aa (qv 0) ae)))
   (ag (iw PassesOwn.never (QW.pt (sD (aN nj (qv 1) af (aR _)) (oq (aN ik (aE dk (aE eI (qv 0) (aw cK (qv 1) af) (λ_ _=>rfl)) af (λ_ _=>rfl)) af (aR _))))) (aj (ax (i:=1) scN rfl (·) (aw cK (qv 1) af))))
   (aj (aI (hU pN (by rfl) T.b_list sO (aa (jw lD (qv 0) kX (lc (qv 1))) ae)))))),?_⟩
  walk_at"m";symm
  refine⟨_,ha.len,λm σ H'=>H'=H/\m<=qs.length/\(∀q∈qs.drop m,q.1=0)/\σ=[some (.ref a),some (.int m)],⟨_,rfl,Yn _,by simp,rfl⟩,?_⟩
  rintro k σ H' ⟨rfl,hk,hdr,rfl⟩;obtain⟨xs,hax,rx⟩:=ha;have hlx:xs.length=qs.length:=by rw[rx.length,Yb]
  have fin:(∀q,(qs.take k).getLast? = some q->q.1≠0)->Nw K H' (HO.lst (ju xs none (some (k:Int)))) λx H1=>∃p,x=V.ref p /\ ∃ys,vw K H1 p=some (HO.lst ys)/\Nw K H1 (HO.lst ys) Q:=λhq p H2 hp S2 h2=>by
   rw[sL ()] at h2;refine⟨p,rfl,_,h2,λp2 H3 hp2 S3 h3=>h p2 H3 k hk hq hdr ?_ (S2.trans S3) ⟨_,h3,?_⟩⟩
   .cases e:vw K H' p2 with
    | none=>rfl
    | some o=>rw[S2 _ _ e] at hp2;cases hp2
   .rw[List.map_take];exact (rx.take k).same (S2.trans S3)
  symm
  refine cZ (λh0=>?_) (λh0=>?_)
  .have hk1:k-1<qs.length:=();obtain⟨x,hx,r⟩:=rx.at (i:=k-1) (d:=fr qs[k-1]) (by rw[Yj,Ya hk1];rfl)
   obtain⟨p,rfl,hp⟩:=r.fr_at;have e1:((k:Int)-1)=((k-1:Nat):Int):=();refine⟨_,hax,_,by rw[e1];exact cw hx,p,rfl,_,hp,_,eK,?_⟩
   symm
   refine cZ (λhq=>?_) (λhq=>?_)
   .refine⟨_,λσ' H'' z=>z,k-1,(),rfl,(),λq' hq'=>?_,by rw[e1]⟩
    rw[Xt hk1,show k-1+1=k by nofun] at hq'
    rcases Yh.mp hq' with z|z
    .rw[z];exact hq
    .exact hdr q' z
   .refine⟨_,hax,fin λq hq2=>?_⟩;have:(qs.take k).getLast? = some qs[k-1]:=by
     rw[YV,Yv,List.getElem?_take];rw[Yg (),show min k qs.length-1=k-1 by nofun,Ya hk1]
    rw[this] at hq2;cases hq2;exact hq
  .refine⟨_,hax,fin λq hq=>?_⟩;rw[show k=0 by nofun] at hq
   cases hq
def mJ(K:W.Frag):Sp:=λvs H Q _=>∃x y p q,vs=[x,y]/\aW (vw K H) (fr p) x/\aW (vw K H) (fr q) y/\p.2≠0/\q.2≠0/\Bq 1000000 p/\Bq 1000000 q/\Bt 4000000 (p.2*q.2) /\ ∀v H',ay (vw K H) (vw K H')->aW (vw K H') (fr (oZ p q)) v->Q v H'
theorem Gr(F:fY K "_law_plus" "_law_plus" mx f fd) (T:iK K mg)(zClow:cg P w K mg base "_law_low" ["_law_top", "_law_bottom"] 2 (m8 K)):cj P w K mg base fW 3 f fd ["_law_one", "_law_other"] (mJ K):=by
 have scN:=CO.nd;refine F.okQ CO (λvs H Q E h=>?_) (λcdv A outer s H vs Q E hr h=>?_)
 .obtain⟨_,_,_,_,rfl,_⟩:=h;rfl
 .obtain⟨x,y,p,q,rfl,hx,hy,np,nq,bp,bq,bb,h⟩:=h;refine⟨_,(aj (aI (av zClow nofun rfl (aa (aw bY (aw aV (aE dk (qv 0) af (λ_ _=>rfl)) (aE dk (qv 1) af (λ_ _=>rfl))) (aw aV (aE dk (qv 1) af (λ_ _=>rfl)) (aE dk (qv 0) af (λ_ _=>rfl)))) (aa (aw aV (aE dk (qv 0) af (λ_ _=>rfl)) (aE dk (qv 1) af (λ_ _=>rfl))) ae))))),?_⟩
  walk_at"m";obtain⟨a,rfl,ha⟩:=hx.fr_at;obtain⟨b,rfl,hb⟩:=hy.fr_at;walk_at"vc*";simp only[m8];walk_at"vc*";exact⟨cQ bp.1 bq.2 ∅,cQ bq.1 bp.2 ∅,cQ bp.2 bq.2 ∅,YL np nq,h⟩
def j7(K:W.Frag):Sp:=λvs H Q _=>∃x y p q,vs=[x,y]/\aW (vw K H) (fr p) x/\aW (vw K H) (fr q) y/\p.2≠0/\q.2≠0/\Bq 1000000 p/\Bq 1000000 q/\Bt 4000000 (p.2*q.2) /\ ∀v H',ay (vw K H) (vw K H')->aW (vw K H') (fr (yX p q)) v->Q v H'
theorem EI(F:fY K "_law_times" "_law_times" j6 f fd) (T:iK K mg)(zClow:cg P w K mg base "_law_low" ["_law_top", "_law_bottom"] 2 (m8 K)):cj P w K mg base fW 3 f fd ["_law_one", "_law_other"] (j7 K):=by
 have scN:=xN.nd;refine F.okQ xN (λvs H Q E h=>?_) (λcdv A outer s H vs Q E hr h=>?_)
 .obtain⟨_,_,_,_,rfl,_⟩:=h;rfl
 .obtain⟨x,y,p,q,rfl,hx,hy,np,nq,bp,bq,bb,h⟩:=h;refine⟨_,(aj (aI (av zClow nofun rfl (aa (aw aV (aE dk (qv 0) af (λ_ _=>rfl)) (aE dk (qv 1) af (λ_ _=>rfl))) (aa (aw aV (aE dk (qv 0) af (λ_ _=>rfl)) (aE dk (qv 1) af (λ_ _=>rfl))) ae))))),?_⟩
  walk_at"m";obtain⟨a,rfl,ha⟩:=hx.fr_at;obtain⟨b,rfl,hb⟩:=hy.fr_at;walk_at"vc*";simp only[m8];walk_at"vc*";exact⟨cQ bp.1 bq.1 ∅,cQ bp.2 bq.2 ∅,YL np nq,h⟩
def kc(K:W.Frag):Sp:=λvs H Q _=>∃(a:Addr)(ns:List Int)(k:Nat),vs=[.ref a,.int k]/\ky K H a (ns.map V.int) /\ ∀x:Int,Q (.int x) H
theorem zW(F:fY K "_law_cell_at" "_law_cell_at" gZ f fd) (T:iK K mg):cj P w K mg base fW 1 f fd ["_law_script", "_law_k"] (kc K):=by
 have scN:=rg.nd;refine F.okQ rg (λvs H Q E h=>?_) (λcdv A outer s H vs Q E hr h=>?_)
 .obtain⟨a,ns,k,rfl,_⟩:=h;rfl
 .obtain⟨a,ns,k,rfl,hS,h⟩:=h;refine⟨_,(ag (dy (aN C5 (qv 1) (az jc (by rfl) T.b_len cC (aa (qv 0) ae)) (aR _)) (aj (aI (aE xw (qv 0) (qv 1) (λ_ _=>rfl)))) bC)
   (aj (aI af))),?_⟩
  walk_at"m";symm
  refine⟨_,.inl hS.sq,cZ (λhk=>?_) (λhk=>h 0)⟩;simp only[Yb] at hk;have hk':k<ns.length:=();exact⟨_,hS.sq,_,cw (by rw[Yj,Ya hk'];rfl),h _⟩
def oA(K:W.Frag):Sp:=λvs H Q _=>∃(a:Addr)(ns:List Int)(k:Nat),vs=[.ref a,.int k]/\ky K H a (ns.map V.int) /\ ∀st H',vw K H st=none->ay (vw K H) (vw K H')->ix (vw K H') st->Q (.ref st) H'
theorem Ek(F:fY K "_law_state" "_law_state" jT f fd) (T:iK K mg)(zCcell_at:cg P w K mg base "_law_cell_at" ["_law_script", "_law_k"] 1 (kc K)):cj P w K mg base fW 2 f fd ["_law_script", "_law_k"] (oA K):=by
 have scN:=xf.nd;refine F.okQ xf (λvs H Q E h=>?_) (λcdv A outer s H vs Q E hr h=>?_)
 .obtain⟨a,ns,k,rfl,_⟩:=h;rfl
 .obtain⟨a,ns,k,rfl,hS,h⟩:=h;refine⟨_,(ag (ax (i:=2) scN rfl (·) (av zCcell_at nofun rfl (aa (qv 0) (aa (qv 1) ae))))
   (ag (dy (aN Ki (qv 2) (aw wI af af) (aR _)) (aj (aI (aJ (aa (aw cK (qv 2) (aw wI af af)) (aa rB ae))))) bC)
   (aj (aI (aJ (aa (aw gU (qv 2) af) (aa rB ae))))))),?_⟩
  walk_at"m";symm
  simp only[kc];symm
  refine⟨⟨k,rfl⟩,⟨ns,hS⟩,λx=>⟨yB ∅,cZ (λhx=>⟨yB ∅,∅,λp H2 hp S hp2=>h p H2 hp S ⟨_,_,hp2,λz=>by cases z⟩⟩) (λhx=>⟨∅,∅,λp H2 hp S hp2=>h p H2 hp S ⟨_,_,hp2,λ_=>?_⟩⟩)⟩⟩
  exact⟨Xs x ∅,XO x ∅⟩
def mM(K:W.Frag):Sp:=λvs H Q _=>∃(st:Addr)(m:Int),vs=[.ref st,.int m]/\ix (vw K H) st/\0<m/\m<=2147483587 /\ ∀r H',0<=r->r<m->gF st (vw K H) (vw K H')->ix (vw K H') st->Q (.int r) H'
theorem GQ(F:fY K "_law_take" "_law_take" mD f fd) (T:iK K mg):cj P w K mg base fW 1 f fd ["_law_state_here", "_law_many"] (mM K):=by
 have scN:=Cc.nd;refine F.okQ Cc (λvs H Q E h=>?_) (λcdv A outer s H vs Q E hr h=>?_)
 .obtain⟨a,ns,rfl,_⟩:=h;rfl
 .obtain⟨st,m,rfl,⟨x,b,hst,hx⟩,hm,hm2,h⟩:=h;refine⟨_,(ag (dy (dZ (aE eI (qv 0) af (λ_ _=>rfl)) (λ_=>rfl)) (ag (ax (i:=2) scN rfl (·) (aw gU (aE eI (qv 0) af (λ_ _=>rfl)) (qv 1)))
   (ag (gd (aw pj (aE eI (qv 0) af (λ_ _=>rfl)) (qv 1)) (pe (qv 0) af gf))
   (aj (aI (qv 2))))) bC)
   (ag (gd (aw gU (aw bY (aw aV (aE eI (qv 0) af (λ_ _=>rfl)) af) af) af) (pe (qv 0) af gf))
   (ag (ax (i:=3) scN rfl (·) (aw gU (aw bY (aw bY (aw aV (aE eI (qv 0) af (λ_ _=>rfl)) (aE eI (qv 0) af (λ_ _=>rfl))) (aw aV af (aE eI (qv 0) af (λ_ _=>rfl)))) af) af))
   (ag (ax (i:=3) scN rfl (·) (aw gU (aw bY (aw aV (qv 3) (qv 3)) (aw aV af (qv 3))) af))
   (aj (aI (aw gU (aw pj (qv 3) af) (qv 1)))))))),?_⟩
  walk_at"m";have hm0:m≠0:=();cases b with
  | true =>
   walk_at"vc*";refine⟨Jc hm0 (by unfold Bt;nofun),λH2 B h2=>h _ _ (Xs x hm) (XO x hm) B ⟨_,_,h2,λz=>by cases z⟩⟩
  | false =>
   walk_at"vc*";refine⟨Fg ∅,∅,λH2 B h2=>?_⟩;have b1:Bt 31 ((x*48271+29).fmod 2147483647):=xT ∅ ∅;have b3:0<=(x*48271+29).fmod 2147483647/\(x*48271+29).fmod 2147483647<2147483647:=⟨Xs _ ∅,XO _ ∅⟩;generalize (x*48271+29).fmod 2147483647=y at *
   walk_at"vc*";have b2:Bt 31 ((y*y+39373*y+7).fmod 2147483629):=xT ∅ ∅;generalize e2:(y*y+39373*y+7).fmod 2147483629=z at *
   refine⟨ot (b1.mono ∅),ot ∅,∅,ot (b2.mono ∅),ot ∅,∅,Jc ∅ ∅,?_⟩;exact h _ _ (Xs _ hm) (XO _ hm) B ⟨_,_,h2,λ_=>b3⟩
def lT(K:W.Frag):Sp:=λvs H Q _=>∃st:Addr,vs=[.ref st]/\ix (vw K H) st /\ ∀v H' q,gF st (vw K H) (vw K H')->ix (vw K H') st->aW (vw K H') (fr q) v->Fq q->Bt 10 q.1->Bt 10 q.2->Sx 36 q->Q v H'
theorem D8(F:fY K "_law_small" "_law_small" jS f fd) (T:iK K mg)(zClow:cg P w K mg base "_law_low" ["_law_top", "_law_bottom"] 2 (m8 K))
  (zCtake:cg P w K mg base "_law_take" ["_law_state_here", "_law_many"] 1 (mM K)):cj P w K mg base fW 3 f fd ["_law_state_here"] (lT K):=by
 have scN:=yD.nd;refine F.okQ yD (λvs H Q E h=>?_) (λcdv A outer s H vs Q E hr h=>?_)
 .obtain⟨a,rfl,_⟩:=h;rfl
 .obtain⟨st,rfl,hst,h⟩:=h;refine⟨_,(aj (aI (av zClow nofun rfl (aa (aw cK (av zCtake nofun rfl (aa (qv 0) (aa af ae))) af) (aa (aw bY af (aE eI (aJ (aa af (aa af (aa (av zCtake nofun rfl (aa (qv 0) (aa af ae))) ae)))) (av zCtake nofun rfl (aa (qv 0) (aa af ae))) (λ_ _=>rfl))) ae))))),?_⟩
  walk_at"m";symm
  simp only[mM,m8];symm
  refine⟨hst,∅,∅,λr1 H1 r10 r11 B1 S1=>⟨S1,∅,∅,λr2 H2 r20 r21 B2 S2=>⟨∅,?_⟩⟩⟩;intro p H3 hp S3 h3;refine⟨S2.same S3,∅,∅,λr4 H4 r40 r41 B4 S4=>?_⟩;have h4:=B4 _ _ (S2.ne hp) h3;obtain⟨v,hv,hm⟩:=DI (xs:=[V.int 0,V.int 0,V.int r2]) r40 (by simpa using r41)
  obtain⟨z,rfl,hz0,hz1⟩ : ∃z,v=.int z/\0<=z/\z<3:=by
   simp only[Yh,Xw,or_false] at hm;rcases hm with rfl|rfl|rfl
   .exact⟨0,rfl,∅,∅⟩
   .exact⟨0,rfl,∅,∅⟩
   .exact⟨r2,rfl,r20,r21⟩
  symm
  refine⟨_,h4,_,hv,?_⟩;symm
  have hz:1+z≠0:=();have hb:(1+z).natAbs<2^10:=();refine⟨hz,Yr hb (Xx ∅ ∅),λv H5 S5 r5=>?_⟩;have q2:=gT (a:=r1-6) hz;have q1:=iO (a:=r1-6) hz;have hl:lg (r1-6) (1+z)≠0:=BK hz;refine h v H5 _ (((B1.trans B2).same_trans S3).trans (B4.same_trans S5)) (S4.same S5) r5 (qX hz) ?_ ?_ (Sx.lo hz0 hz1 ())
  .unfold Bt;have:=YI (lo (r1-6) (1+z)).1 (lg (r1-6) (1+z));rw[q1] at this;have:=XF (lo (r1-6) (1+z)).1.natAbs (show 0<(lg (r1-6) (1+z)).natAbs by nofun)
   nofun
  .unfold Bt;have:=YI (lo (r1-6) (1+z)).2 (lg (r1-6) (1+z));rw[q2] at this;have:=XF (lo (r1-6) (1+z)).2.natAbs (show 0<(lg (r1-6) (1+z)).natAbs by nofun)
   nofun
def gS(K:W.Frag):Sp:=λvs H Q _=>∃(a b:Addr)(fs gs:List (Int×Int))(A B:Nat),vs=[.ref a,.ref b]/\ft (vw K H) a fs/\ft (vw K H) b gs/\fs.length<=40/\gs.length<=40/\A+B<=400000/\(∀q∈fs,Fq q)/\(∀q∈gs,Fq q)/\Pb A (cf fs)/\Pb B (cf gs) /\
 ∀d H' (rs:List (Int×Int)),ay (vw K H) (vw K H')->ft (vw K H') d rs->vw K H d=none->fR rs->(∀k,cf rs k=pr (cf fs) (cf gs) fs.length k)->rs.length<=fs.length+gs.length->Q (.ref d) H'
theorem sE(F:fY K "_law_multiplied" "_law_multiplied" eX f fd) (T:iK K mg)(zCclean:cg P w K mg base "_law_clean" ["_law_numbers"] 1 (ox K)) (zCplus:cg P w K mg base "_law_plus" ["_law_one", "_law_other"] 3 (mJ K)) (zCtimes:cg P w K mg base "_law_times" ["_law_one", "_law_other"] 3 (j7 K)):cj P w K mg base fW 4 f fd ["_law_f", "_law_g"] (gS K):=by
 have scN:=lJ.nd;refine F.okQ lJ (λvs H Q E h=>?_) (λcdv A outer s H vs Q E hr h=>?_)
 .obtain⟨a,_,_,_,_,_,rfl,_⟩:=h;rfl
 .obtain⟨a,b,fs,gs,A',B,rfl,ha,hb,lf,lg',hAB,hf,hg,⟨D1,d1,d2,d3⟩,⟨E1,e1',e2',e3'⟩,h⟩:=h;have bf:=Ob.bq d3 d1 d2 hf;have bg:=Ob.bq e3' e1' e2' hg;have hX:=YL d1 e1';have bX:=d2.mul e2';refine⟨_,(ag (ax (i:=2) scN rfl (·) (aw aV (aJ (aa (aP (aa af (aa af ae))) ae)) (aw bY (az aU (by rfl) T.b_len cC (aa (qv 0) ae)) (az aU (by rfl) T.b_len cC (aa (qv 1) ae)))))
   (ag (cL PassesOwn.never rfl (fe rfl T.b_range (aa (az aU (by rfl) T.b_len cC (aa (qv 0) ae)) ae)) (aq (i:=3) scN rfl (·)) (aj (cL PassesOwn.never rfl (fe rfl T.b_range (aa (az aU (by rfl) T.b_len cC (aa (qv 1) ae)) ae)) (aq (i:=4) scN rfl (·)) (aj (gd (av zCplus nofun rfl (aa (aE eI (qv 2) (aw bY (qv 3) (qv 4)) (λ_ _=>rfl)) (aa (av zCtimes nofun rfl (aa (aE eI (qv 0) (qv 3) (λ_ _=>rfl)) (aa (aE eI (qv 1) (qv 4) (λ_ _=>rfl)) ae))) ae))) (pe (qv 2) (aw bY (qv 3) (qv 4)) gf))))))
   (aj (aI (av zCclean nofun rfl (aa (qv 2) ae)))))),?_⟩
  walk_at"m";symm
  obtain⟨xs,hxs,rxs⟩:=id ha;obtain⟨ys,hys,rys⟩:=id hb;refine⟨∅,λp2 H2 hp2 S2 h2=>⟨∅,λp3 H3 hp3 S3 h3=>?_⟩⟩;have S03:=S2.trans S3;refine⟨_,(ha.same S03).len,_,(hb.same S03).len,?_⟩;rw[show (fs.length:Int)+(gs.length:Int)=((fs.length+gs.length:Nat):Int) by nofun,jJ]
  refine⟨_,h3,(),(),?_,λe H5 he S5 h5=>?_⟩
  .have:1000<=sizeLine:=∅;simp;nofun
  rw[show ((fs.length+gs.length:Nat):Int).toNat=fs.length+gs.length by nofun,uN] at h5
  have S05:=S03.trans S5;have r2:aW (vw K H5) (fr (0,1)) (.ref p2):=cq ((S3.trans S5) _ _ h2);have ne:vw K H e=none:=S03.none he;refine⟨_,(ha.same S05).len,(),(),?_⟩;obtain⟨n,hn⟩ : ∃n,n=fs.length+gs.length:=⟨_,rfl⟩;rw[<-hn] at h5;obtain⟨Pv,hPv⟩ : ∃Pv:Nat->St->Hp->Prop,∀i σ H',Pv i σ H' ↔ ∃o3 o4,σ=[some (.ref a),some (.ref b),some (.ref e),o3,o4]/\ay (vw K H) (vw K H') /\ ∃qs,ft (vw K H') e qs/\qs.length=n/\(∀q∈qs,Fq q)/\(∀k,k<n->cf qs k=pr (cf fs) (cf gs) i k):=⟨_,λ_ _ _=>Iff.rfl⟩;refine aY (its:=iB 0 fs.length) Pv (λ_ _ _ _ _=>cp) ((hPv _ _ _).mpr ⟨_,_,rfl,S05,List.replicate n (0,1),⟨_,h5,?_⟩,by simp,λq hq=>?_,λk hk=>?_⟩) (λi x σ H6 hi hx pv=>?_) (λσ H6 pv=>?_)
  .rw[yp];exact aK.repl r2 n
  .rw[(List.mem_replicate.mp hq).2];exact Gc
  .rw[fu (List.getElem?_replicate_of_lt hk),yl];rfl
  .obtain⟨o3,o4,rfl,S6,qs,l6,n6,f6,c6⟩:=(hPv _ _ _).mp pv;obtain⟨hi',rfl⟩:=iI hx;rw[Int.zero_add];symm
   refine⟨_,(hb.same S6).len,(),(),?_⟩;obtain⟨Pw,hPw⟩ : ∃Pw:Nat->St->Hp->Prop,∀j σ H',Pw j σ H' ↔ ∃o4,σ=[some (.ref a),some (.ref b),some (.ref e),some (.int i),o4]/\ay (vw K H) (vw K H') /\ ∃qs,ft (vw K H') e qs/\qs.length=n/\(∀q∈qs,Fq q)/\(∀k,k<n->cf qs k=qr (cf fs) (cf gs) i j k):=⟨_,λ_ _ _=>Iff.rfl⟩;refine aY (its:=iB 0 gs.length) Pw (λ_ _ _ _ _=>cp) ((hPw _ _ _).mpr ⟨_,rfl,S6,qs,l6,n6,f6,λk hk=>?_⟩) (λj x σ H7 hj hx pw=>?_) (λσ H7 pw=>?_)
   .rw[Ld];exact c6 k hk
   .obtain⟨o4,rfl,S7,ps,l7,n7,f7,c7⟩:=(hPw _ _ _).mp pw;obtain⟨hj',rfl⟩:=iI hx;rw[Int.zero_add];obtain⟨zs,hzs,rzs⟩:=id l7;have hiq:i+j<ps.length:=();obtain⟨x0,e0,r0⟩:=rzs.at (i:=i+j) (d:=fr ps[i+j]) (by rw[Yj,Ya hiq];rfl)
    obtain⟨x1,e1,r1⟩:=rxs.at (i:=i) (d:=fr fs[i]) (by rw[Yj,Ya hi'];rfl)
    obtain⟨x2,e2,r2'⟩:=rys.at (i:=j) (d:=fr gs[j]) (by rw[Yj,Ya hj'];rfl)
    have k1:=f7 ps[i+j] (Yp hiq);have k3:Bq (A'+B+100) ps[i+j]:=by
     obtain⟨m,em,bm⟩:=Jz d1 e1' d3 e3' i j (i+j);have em':qr (cf fs) (cf gs) i j (i+j)=_:=em;refine FZ k1 (n:=m) (by rw[<-em',<-c7 (i+j) (),fu (Ya hiq)]) hX (bm.mono ()) (bX.mono ())
    have g1:=hg gs[j] (Yp hj');have g2:=bg gs[j] (Yp hj');have u1:=hf fs[i] (Yp hi');have u2:=bf fs[i] (Yp hi');symm
    rw[show (i:Int)+(j:Int)=((i+j:Nat):Int) by nofun]
    refine⟨zs,hzs,x0,cw e0,xs,S7 _ _ hxs,x1,cw e1,ys,S7 _ _ hys,x2,cw e2,?_⟩;simp only[j7];symm
    refine⟨_,aW.same S7 _ _ r1,_,aW.same S7 _ _ r2',u1.ne,g1.ne,u2.mono (),g2.mono (),(u2.2.mul g2.2).mono (),λv3 H8 S8 r3=>?_⟩;have f3:=yN u1 g1;have b3:=w5 u1 g1 u2 g2;simp only[mJ];symm
    refine⟨_,aW.same S8 _ _ r0,_,r3,k1.ne,f3.ne,k3.mono (),b3.mono (),(k3.2.mul b3.2).mono (),λv4 H9 S9 r4=>?_⟩;have f4:=xZ k1 f3;have S79:=S8.trans S9;have hlz:zs.length=ps.length:=by rw[rzs.length,Yb]
    refine⟨zs,S79 _ _ hzs,i+j,by rw[hlz];exact nU hiq,λH10 B10 h10=>(hPw _ _ _).mpr ⟨_,rfl,λx o e'=>B10 _ _ (ak e' ne) (S79 _ _ (S7 _ _ e')),ps.set (i+j) (oZ ps[i+j] (yX fs[i] gs[j])),ft.chg (S79 _ _ hzs) (rzs.same S79) r4 B10 h10,by rw[XX];exact n7,λq hq=>?_,λk hk=>?_⟩⟩
    .rcases List.mem_or_eq_of_mem_set hq with z|z
     .exact f7 q z
     .rw[z];exact f4
    .rw[D7 hiq,JY];by_cases hk:k=i+j
     .rw[Yg hk,Yg hk,Iw k1.ne f3.ne,By u1.ne g1.ne,<-fu (Ya hiq),<-fu (Ya hi'),<-fu (Ya hj'),c7 (i+j) ()]
     .rw[Yc hk,Yc hk,c7 k (by assumption)]
   .obtain⟨o4,rfl,S7,ps,l7,n7,f7,c7⟩:=(hPw _ _ _).mp pw;rw[dY] at c7;refine (hPv _ _ _).mpr ⟨_,_,rfl,S7,ps,l7,n7,f7,λk hk=>?_⟩;rw[c7 k hk,Im λi hi=>cD hi]
  .obtain⟨o3,o4,rfl,S6,qs,l6,n6,f6,c6⟩:=(hPv _ _ _).mp pv;rw[dY] at c6;symm
   simp only[ox];symm
   have hF:∀q∈qs,Fq q:=f6;refine⟨qs,l6,λd H7 n' hn' hz hd hnd S7 l7=>h d H7 (qs.take n') (S6.trans S7) l7 (S6.none hnd) (Ck hF hz) (λk=>?_) (by rw[Yv];nofun)⟩
   rw[xA hF hd k];by_cases hk:k<n
   .exact c6 k hk
   .rw[cD (),gu (n:=gs.length) (λi hi=>cD hi) _ _ ()]
theorem zp(F:fY K "_law_refused" "_law_refused" ie f fd) (T:iK K mg) {A:Around}{outer:List Env}{s:Shared}{H:Hp}{p C:Addr}{i kl:Nat}{Q:VK}(hb:kW K fd ["_law_call"] []) (hr0:dz (kl+1) A)(e0:qq P w K mg base A outer s H)(L_:Kb P w K mg base kl p C s H outer)(Z:Ae K mg C i)(hi:i<9)
  (h:∀q H',ay (vw K H) (vw K H')->vw K H q=none->vw K H' q=some (.lst [.int i])->Q (.ref q) H'):codeAny (model P w) A (.call (.ref f) ⟨[.ref p],[]⟩) (CR fW outer P w H s Q E0) s:=by
 have scN:=rp.nd;refine F.runQ rp hr0 e0 hb (vs:=[.ref p]) (.cons rfl .nil) rfl λcdv hr=>?_;have hrL:=hr;obtain⟨z_NoFraction,hg_NoFraction,k0⟩:=Z.kinds 0 _ rfl;obtain⟨z_NoPolynomial,hg_NoPolynomial,k1⟩:=Z.kinds 1 _ rfl;obtain⟨z_NoSums,hg_NoSums,k2⟩:=Z.kinds 2 _ rfl;obtain⟨z_NoFlock,hg_NoFlock,k3⟩:=Z.kinds 3 _ rfl;obtain⟨z_NoWalk,hg_NoWalk,k4⟩:=Z.kinds 4 _ rfl;obtain⟨z_NoSum,hg_NoSum,k5⟩:=Z.kinds 5 _ rfl;obtain⟨z_NoDeed,hg_NoDeed,k6⟩:=Z.kinds 6 _ rfl;obtain⟨z_NoText,hg_NoText,k7⟩:=Z.kinds 7 _ rfl;obtain⟨z_NoRow,hg_NoRow,k8⟩:=Z.kinds 8 _ rfl;obtain⟨cM,hg_MomentError,kM⟩:=Z.mom;refine⟨_,(ag (ax (i:=1) scN rfl (·) Bi)
   (ag (HE (i:=2) rfl rfl rfl (GB (i:=0) rfl L_ hrL rfl (Or.inl rfl)) scN rfl rfl rfl hg_MomentError (λ_=>(aj (ax (i:=1) scN rfl (·) (qv 2)))))
   (ag (ax (i:=3) scN rfl (·) (aJ (aa (az ck (by rfl) T.b_isinstance be (aa (qv 1) (aa (gR (v:=V.ref z_NoFraction) rfl hg_NoFraction rfl) ae))) (aa (az ck (by rfl) T.b_isinstance be (aa (qv 1) (aa (gR (v:=V.ref z_NoPolynomial) rfl hg_NoPolynomial rfl) ae))) (aa (az ck (by rfl) T.b_isinstance be (aa (qv 1) (aa (gR (v:=V.ref z_NoSums) rfl hg_NoSums rfl) ae))) ae)))))
   (ag (ax (i:=3) scN rfl (·) (aw bY (qv 3) (aJ (aa (az ck (by rfl) T.b_isinstance be (aa (qv 1) (aa (gR (v:=V.ref z_NoFlock) rfl hg_NoFlock rfl) ae))) (aa (az ck (by rfl) T.b_isinstance be (aa (qv 1) (aa (gR (v:=V.ref z_NoWalk) rfl hg_NoWalk rfl) ae))) (aa (az ck (by rfl) T.b_isinstance be (aa (qv 1) (aa (gR (v:=V.ref z_NoSum) rfl hg_NoSum rfl) ae))) ae))))))
   (ag (ax (i:=3) scN rfl (·) (aw bY (qv 3) (aJ (aa (az ck (by rfl) T.b_isinstance be (aa (qv 1) (aa (gR (v:=V.ref z_NoDeed) rfl hg_NoDeed rfl) ae))) (aa (az ck (by rfl) T.b_isinstance be (aa (qv 1) (aa (gR (v:=V.ref z_NoText) rfl hg_NoText rfl) ae))) (aa (az ck (by rfl) T.b_isinstance be (aa (qv 1) (aa (gR (v:=V.ref z_NoRow) rfl hg_NoRow rfl) ae))) ae))))))
   (ag (dy (mY (tL (az ck (by rfl) T.b_isinstance be (aa (qv 1) (aa (sX (v:=V.ty "ValueError") rfl T.b_ValueError qo rfl) ae))))) (aj (aI Bi)) bC)
   (aj (aI (fv (own:=["_law_k"]) (outs:=["_law_kinds"]) (ixs:=[3]) rfl (fe rfl T.b_range (aa af ae)) rfl ⟨rfl,rfl,rfl,⟨rfl,trivial⟩,rfl,⟨⟨rfl,rfl,rfl,_,rfl⟩,trivial⟩⟩ (λ_ _ _ _=>⟨(aq (i:=0) (show (["_law_k", "_law_kinds"]:List Str).Nodup by decide +kernel) rfl (·)),(vU (show QT _ _ (Em K _) from dZ (aE (show wE _ (wP K) from eI) (qv 1) (qv 0) (λ_ _=>rfl)) (λ_=>rfl))),(qv 0)⟩)))))))))),?_⟩
 walk_at"m";symm
 simp only[IT];refine⟨rfl,rfl,λH1 S1=>⟨C,rfl,kM,λa H2 hna S2 hx=>?_⟩⟩;symm
 refine⟨C,hx,Z.cls,_,rfl,_,k0,C,hx,Z.cls,_,rfl,_,k1,C,hx,Z.cls,_,rfl,_,k2,∅,λp3 H3 _ S3 h3=>?_⟩;have hx3:=S3 _ _ hx;symm
 refine⟨C,hx3,Z.cls,_,rfl,_,k3,C,hx3,Z.cls,_,rfl,_,k4,C,hx3,Z.cls,_,rfl,_,k5,∅,λp4 H4 _ S4 h4=>?_⟩;symm
 refine⟨_,S4 _ _ h3,_,h4,(show 6<=sizeLine by decide),λp5 H5 _ S5 h5=>?_⟩
 have hx5:=S5 _ _ (S4 _ _ hx3);symm
 refine⟨C,hx5,Z.cls,_,rfl,_,k6,C,hx5,Z.cls,_,rfl,_,k7,C,hx5,Z.cls,_,rfl,_,k8,∅,λp6 H6 _ S6 h6=>?_⟩;symm
 refine⟨_,S6 _ _ h5,_,h6,(show 9<=sizeLine by decide),λp7 H7 _ S7 h7=>?_⟩
 have hx7:=S7 _ _ (S6 _ _ hx5);symm
 refine⟨C,hx7,Z.cls,_,rfl,_,Z.ve,?_⟩;symm
 have e9:vw K H7 p7=some (.lst (lz 9 λj=>V.bl (decide (j=i)))):=h7;have S07:ay (vw K H) (vw K H7):=S1.trans (S2.trans (S3.trans (S4.trans (S5.trans (S6.trans S7)))));refine⟨∅,∅,λc H8 hc S8 h8=>?_⟩;refine bH (its:=iB 0 9) (λj zs H'=>ay (vw K H7) (vw K H')/\zs=if i<j then [V.int i] else []) (λ_ _ _ _ _ _=>cp) h8 ⟨S8,by rw[Yc ()]⟩ (λj x zs H9 hj hx' h9 pv=>?_) (λzs H9 h9 pv=>?_)
 .obtain⟨S9,rfl⟩:=pv;obtain⟨hj',rfl⟩:=iI hx';rw[Int.zero_add];simp only[Em];symm
  refine⟨_,S9 _ _ e9,_,cw (jP hj'),_,rfl,?_⟩;refine cZ (λe=>?_) (λe=>?_)
  .have eji:j=i:=of_decide_eq_true e;subst eji;rw[Yc ()] at h9;refine .mk h9 ∅ λH10 B10 h10=>⟨λb o e'=>B10 _ _ (ak e' hc) (S9 _ _ e'),?_⟩;rw[Yg ()];rfl
  .have eji:j≠i:=λz=>e (Xo z);refine⟨⟨_,rfl⟩,_,h9,S9,?_⟩;by_cases hij:i<j
   .rw[Yg hij,Yg ()]
   .rw[Yc hij,Yc ()]
 .obtain⟨S9,rfl⟩:=pv;rw[dY,Yg ()] at h9;exact h c H9 (S07.trans S9) (S07.free hc) h9
def kS:Nat->Str
 | 0=>"line"
 | 1=>"root"
 | _=>"none"
abbrev kD:=Nat×(Int×Int)×Nat×Nat
def tX(c:kD):D:=.tup [.str (kS c.1),fr c.2.1,.int c.2.2.1]
def sY(c:kD):Prop:=c.1<=2/\Fq c.2.1/\Bq c.2.2.2 c.2.1/\(c.1≠0->c.2.1∈F5)/\1<=c.2.2.1/\c.2.2.2<=100
def pY(c:kD):Nat:=(if c.1=0 then 1 else 2)*c.2.2.1
def qg(c:kD):Nat:=(c.2.2.2+12)*c.2.2.1
def Jm(c:kD):Nat:=c.2.2.2+2
def uP(its:List kD):Prop:=∀c∈its.take 1,qg c<=54/\pY c<=4
theorem uP.snoc{its:List kD}{c:kD}(h:uP its)(hc:qg c<=54/\pY c<=4):uP (its++[c]):=by
 cases its with
 | nil=>intro x hx;cases Yk.mp hx;exact hc
 | cons a its=>exact h
theorem uP.snoc2{its:List kD}{c e:kD}(h:uP its)(hc:qg c<=54/\pY c<=4):uP (its++[c]++[e]):=by
 cases its with
 | nil=>intro x hx;cases Yk.mp hx;exact hc
 | cons a its=>exact h
theorem fU:∀(cs:List kD),D.flats (cs.map tX)=true
 | []=>by simp[D.flats]
 | c::cs=>by
  have:=fU cs;simp[D.flats,tX,D.flat,fr,this]
theorem qG(cs:List kD):∀i b,cs.map tX≠[.int i,.bl b]:=λi b e=>by
 cases cs with
 | nil=>cases e
 | cons c cs =>
  rw[Y4] at e;cases (List.cons.inj e).1
theorem Gg{q:Int×Int}(f:Fq q)(h:Sx 36 q):Bq 6 q:=by
 obtain⟨n,e,hn⟩:=h;refine FZ (D:=6) (n:=n) f e ∅ ?_ ∅;unfold Bt;nofun
def jV(K:W.Frag):Sp:=λvs H Q _=>∃(st:Addr),vs=[.ref st,.int 2]/\ix (vw K H) st /\
 ∀(p t:Addr)(v:V) H' (its:List kD)(q:Int×Int),gF st (vw K H) (vw K H')->ix (vw K H') st->vw K H' p=some (.tup [.ref t,v])->iz (vw K H') t (its.map tX)->vw K H t=none->aW (vw K H') (fr q) v->Fq q->q.1≠0->Bq 6 q->(∀c∈its,sY c)->(its.map pY).sum<=8->(its.map qg).sum<=157->(its.map Jm).sum<=55->its.length<=3->uP its->Q (.ref p) H'
theorem Ag(F:fY K "_law_factors" "_law_factors" hZ f fd) (T:iK K mg)(zCtake:cg P w K mg base "_law_take" ["_law_state_here", "_law_many"] 1 (mM K)) (zCsmall:cg P w K mg base "_law_small" ["_law_state_here"] 3 (lT K)) (zCplus:cg P w K mg base "_law_plus" ["_law_one", "_law_other"] 3 (mJ K)):cj P w K mg base fW 4 f fd ["_law_state_here", "_law_most"] (jV K):=by
 have scN:=rC.nd;refine F.okQ rC (λvs H Q E h=>?_) (λcdv A outer s H vs Q E hr h=>?_)
 .obtain⟨_,rfl,_⟩:=h;rfl
 .obtain⟨st,rfl,hst,h⟩:=h;refine⟨_,(ag (ax (i:=2) scN rfl (·) (aJ ae))
   (ag (ax (i:=3) scN rfl (·) (sZ ik (av zCtake nofun rfl (aa (qv 0) (aa af ae))) af (aR _)))
   (ag (cL PassesOwn.never rfl (fe rfl T.b_range (aa (av zCtake nofun rfl (aa (qv 0) (aa (aw bY (qv 1) af) ae))) ae)) (aq (i:=4) scN rfl (·)) (ag (ax (i:=5) scN rfl (·) (aE eI (aJ (aa (aP (aa af (aa af ae))) (aa (aP (aa af (aa af ae))) (aa (aP (aa af (aa af ae))) (aa (aP (aa af (aa af ae))) (aa (aP (aa af (aa af ae))) (aa (aP (aa af (aa af ae))) (aa (aP (aa af (aa af ae))) ae)))))))) (av zCtake nofun rfl (aa (qv 0) (aa af ae))) (λ_ _=>rfl)))
   (ag (ax (i:=6) scN rfl (·) (aE eI (aJ (aa fE (aa fE (aa fE (aa fE ae))))) (av zCtake nofun rfl (aa (qv 0) (aa af ae))) (λ_ _=>rfl)))
   (ag (ax (i:=7) scN rfl (·) (aw bY af (aE eI (aJ (aa af (aa af (aa af (aa af (aa af (aa af ae))))))) (av zCtake nofun rfl (aa (qv 0) (aa af ae))) (λ_ _=>rfl))))
   (ag (dy (aN ik (qv 6) fE (aR _)) (aj (ax (i:=5) scN rfl (·) (av zCsmall nofun rfl (aa (qv 0) ae)))) bC)
   (ag (fP (ku YR Y6 Y5 dX (qv 2) (aa (aP (aa (qv 6) (aa (qv 5) (aa (fQ (aN ik (qv 6) fE (aR _)) (qv 7) (az (rE rfl) (by rfl) T.b_min AT (aa (qv 7) (aa af ae)))) ae)))) ae)))
   (aj (dy (QW.pt (sD (dZ (qv 3) (λ_=>rfl)) (oq (aN ik (qv 6) fE (aR _))))) (ag (fP (ku YR Y6 Y5 dX (qv 2) (aa (aP (aa (qv 6) (aa (av zCplus nofun rfl (aa (qv 5) (aa (aP (aa af (aa (aw wI af af) ae))) ae))) (aa af ae)))) ae)))
   (aj (ax (i:=3) scN rfl (·) rB))) bC))))))))
   (ag (ax (i:=8) scN rfl (·) (av zCsmall nofun rfl (aa (qv 0) ae)))
   (aj (aI (aP (aa (qv 2) (aa (fQ (aN qM (aE dk (qv 8) af (λ_ _=>rfl)) af (aR _)) (qv 8) (aP (aa (gD eV af) (aa af ae)))) ae))))))))),?_⟩
  walk_at"m";skip
  refine aT.gen λN1 hN1=>?_;symm
  refine⟨∅,λt H1 ht S1 h1=>hN1 _ _ ?_⟩;have nst:st≠t:=(hst.ne ht).symm;refine aT.gen λN2 hN2=>?_;symm
  simp only[mM];refine⟨st,4,rfl,hst.same S1,∅,∅,λr2 H2 _ _ B2 S2=>⟨rfl,hN2 _ _ ?_⟩⟩;refine aT.gen λN3 hN3=>?_;symm
  refine⟨st,3,rfl,S2,∅,∅,λn H3 n0 n1 B3 S3=>⟨n,rfl,(),(),?_⟩⟩;have h3:=B3 _ _ nst.symm (B2 _ _ nst.symm h1);have B03:gF st (vw K H) (vw K H3):=((S1.but st).trans B2).trans B3;obtain⟨Pv,hPv⟩ : ∃Pv:Nat->St->Hp->Prop,∀i σ H',Pv i σ H' ↔ ∃(b:Bool)(o4 o5 o6 o7 o8:Option V)(its:List kD),σ=[some (.ref st),some (.int 2),some (.ref t),some (.bl b),o4,o5,o6,o7,o8]/\gF st (vw K H) (vw K H')/\ix (vw K H') st/\iz (vw K H') t (its.map tX)/\(∀c∈its,sY c)/\(its.map pY).sum<=4*i/\(its.map qg).sum+(if b=true then 49 else 0)<=54*i+49/\(its.map Jm).sum+(if b=true then 39 else 0)<=8*i+39/\its.length+(if b=true then 1 else 0)<=i+1/\uP its:=⟨_,λ_ _ _=>Iff.rfl⟩
  refine aY (its:=iB 0 n.toNat) Pv (λ_ _ _ _ _=>cp) ((hPv _ _ _).mpr ⟨_,_,_,_,_,_,[],rfl,B03,S3,⟨[],h3,.mk_nil⟩,by simp,by simp,by split<;>simp,by split<;>simp,by split<;>simp,λ_ h=>by cases h⟩) (λi x σ H4 hi hx pv=>?_) (λσ H4 pv=>?_)
  .obtain⟨b,o4,o5,o6,o7,o8,its,rfl,B4,S4,l4,ok4,dg4,cs4,bt4,ln4,fs4⟩:=(hPv _ _ _).mp pv;rw[dY] at hi;refine aT.gen λM1 hM1=>?_;symm
   refine⟨∅,λp1 G1 hp1 T1 g1=>⟨∅,λp2 G2 hp2 T2 g2=>⟨∅,λp3 G3 hp3 T3 g3=>⟨∅,λp4 G4 hp4 T4 g4=>⟨∅,λp5 G5 hp5 T5 g5=>⟨∅,λp6 G6 hp6 T6 g6=>⟨∅,λp7 G7 hp7 T7 g7=>⟨∅,λl8 G8 hp8 T8 g8=>?_⟩⟩⟩⟩⟩⟩⟩⟩;have T68:=T7.trans T8;have T58:=T6.trans T68;have T48:=T5.trans T58;have T38:=T4.trans T48;have T28:=T3.trans T38;have T18:=T2.trans T28;have T08:=T1.trans T18;have st8:=S4.same T08;refine⟨st,7,rfl,st8,∅,∅,λr5 H5 q0 q1 B5 S5=>⟨l8,rfl,r5,rfl,_,B5 _ _ (S4.same (T1.trans (T2.trans (T3.trans (T4.trans (T5.trans (T6.trans T7))))) ) |>.ne hp8) g8,?_⟩⟩
   obtain⟨_,_,z8,_⟩:=id st8;have rr:∀{p:Addr}{q:Int×Int},vw K G8 p=some (.tup [.int q.1,.int q.2])->aW (vw K H5) (fr q) (.ref p):=λe=>aW.flat_but z8 B5 _ _ (gN _) (cq e);obtain⟨v5,nb5,e5,r5',f5,b5,n5⟩ : ∃(v5:V)(nb5:Int×Int),pE [V.ref p1,V.ref p2,V.ref p3,V.ref p4,V.ref p5,V.ref p6,V.ref p7] r5=some v5/\aW (vw K H5) (fr nb5) v5/\Fq nb5/\Bq 6 nb5/\nb5∈F5:=by
    have:r5=0\/r5=1\/r5=2\/r5=3\/r5=4\/r5=5\/r5=6:=();rcases this with rfl|rfl|rfl|rfl|rfl|rfl|rfl
    .exact⟨_,(2,1),rfl,rr (T18 _ _ g1),⟨∅,∅⟩,⟨∅,∅⟩,∅⟩
    .exact⟨_,(3,1),rfl,rr (T28 _ _ g2),⟨∅,∅⟩,⟨∅,∅⟩,∅⟩
    .exact⟨_,(5,1),rfl,rr (T38 _ _ g3),⟨∅,∅⟩,⟨∅,∅⟩,∅⟩
    .exact⟨_,(6,1),rfl,rr (T48 _ _ g4),⟨∅,∅⟩,⟨∅,∅⟩,∅⟩
    .exact⟨_,(1,2),rfl,rr (T58 _ _ g5),⟨∅,∅⟩,⟨∅,∅⟩,∅⟩
    .exact⟨_,(7,4),rfl,rr (T68 _ _ g6),⟨∅,∅⟩,⟨∅,∅⟩,∅⟩
    .exact⟨_,(3,4),rfl,rr (T8 _ _ g7),⟨∅,∅⟩,⟨∅,∅⟩,∅⟩
   refine⟨v5,e5,hM1 _ _ ?_⟩;have B45:gF st (vw K H4) (vw K H5):=(T08.but st).trans B5;have l5:=(l4.same T08).stBut (fU _) (qG _) st8 B5;refine aT.gen λM2 hM2=>?_;symm
   refine⟨∅,λl9 G9 hp9 T9 g9=>⟨st,4,rfl,S5.same T9,∅,∅,λr6 H6 u0 u1 B6 S6=>⟨l9,rfl,r6,rfl,_,B6 _ _ (S5.ne hp9) g9,?_⟩⟩⟩;obtain⟨kd,hkd,e6⟩ : ∃kd:Nat,kd<=2/\pE [V.str (Str.ofString "line"),V.str (Str.ofString "line"),V.str (Str.ofString "root"),V.str (Str.ofString "none")] r6=some (.str (kS kd)):=by
    have:r6=0\/r6=1\/r6=2\/r6=3:=();rcases this with rfl|rfl|rfl|rfl
    .exact⟨0,∅,rfl⟩
    .exact⟨0,∅,rfl⟩
    .exact⟨1,∅,rfl⟩
    .exact⟨2,∅,rfl⟩
   refine⟨_,e6,hM2 _ _ ?_⟩;have B46:gF st (vw K H4) (vw K H6):=(B45.same_trans T9).trans B6;have l6:=(l5.same T9).stBut (fU _) (qG _) (S5.same T9) B6;have r6':aW (vw K H6) (fr nb5) v5:=by
    obtain⟨_,_,z,_⟩:=id (S5.same T9);exact aW.flat_but z B6 _ _ (gN _) (aW.same T9 _ _ r5')
   refine aT.gen λM3 hM3=>?_;symm
   refine⟨∅,λl10 G10 hp10 T10 g10=>⟨st,6,rfl,S6.same T10,∅,∅,λr7 H7 w0 w1 B7 S7=>⟨l10,rfl,r7,rfl,_,B7 _ _ (S6.ne hp10) g10,?_⟩⟩⟩;obtain⟨mn,m1,m3,e7⟩ : ∃mn:Nat,1<=mn/\mn<=3/\pE [V.int 0,V.int 0,V.int 0,V.int 1,V.int 1,V.int 2] r7=some (.int ((mn:Int)-1)):=by
    have:r7=0\/r7=1\/r7=2\/r7=3\/r7=4\/r7=5:=();rcases this with rfl|rfl|rfl|rfl|rfl|rfl
    .exact⟨1,∅,∅,rfl⟩
    .exact⟨1,∅,∅,rfl⟩
    .exact⟨1,∅,∅,rfl⟩
    .exact⟨2,∅,∅,rfl⟩
    .exact⟨2,∅,∅,rfl⟩
    .exact⟨3,∅,∅,rfl⟩
   refine⟨_,e7,?_⟩;rw[ke,show (1:Int)+((mn:Int)-1)=(mn:Int) by nofun]
   refine hM3 _ _ ?_;have B47:gF st (vw K H4) (vw K H7):=(B46.same_trans T10).trans B7;have l7:=(l6.same T10).stBut (fU _) (qG _) (S6.same T10) B7;have r7':aW (vw K H7) (fr nb5) v5:=by
    obtain⟨_,_,z,_⟩:=id (S6.same T10);exact aW.flat_but z B7 _ _ (gN _) (aW.same T10 _ _ r6')
   refine aT.gen λM4 hM4=>?_;have kline:kS kd=Str.ofString "line" ↔ kd=0:=by
    have:kd=0\/kd=1\/kd=2:=();rcases this with rfl|rfl|rfl
    .exact⟨λ_=>rfl,λ_=>rfl⟩
    .exact⟨λz=>absurd z ∅,λz=>by cases z⟩
    .exact⟨λz=>absurd z ∅,λz=>by cases z⟩
   have key:∀(v:V)(nb:Int×Int)(H8:Hp),gF st (vw K H4) (vw K H8)->ix (vw K H8) st->iz (vw K H8) t (its.map tX)->aW (vw K H8) (fr nb) v->Fq nb->Bq 6 nb->(kd≠0->nb∈F5)->M4 [some (.ref st),some (.int 2),some (.ref t),some (.bl b),some x,some v,some (.str (kS kd)),some (.int mn),o8] H8:=by
    intro v nb H8 B48 S8 l8 r8 f8 b8 ns8;refine hM4 _ _ ?_;refine aT.gen λM5 hM5=>?_;have app:∀mm:Nat,mm<=3->(kd≠0->mm<=2)->1<=mm->(3<=sizeLine/\Nw K H8 (.tup [.str (kS kd),v,.int mm]) λx1 H1=>∃xs,vw K H1 t=some (.lst xs)/\xs.length<sizeLine/\Dp K H1 t (.lst (xs++[x1])) λH1=>M5 [some (.ref st),some (.int 2),some (.ref t),some (.bl b),some x,some v,some (.str (kS kd)),some (.int mn),o8] H1):=by
     intro mm mm3 mm2 mm1;refine⟨∅,λp9 H9 hp9 S9 h9=>?_⟩;obtain⟨xs,hxs,rxs⟩:=id (l8.same S9);have lxs:xs.length=its.length:=by rw[rxs.length,Yb]
     refine⟨xs,hxs,?_,λHa Ba ha=>hM5 _ _ ?_⟩
     .have:1000<=sizeLine:=∅;nofun
     have np:p9≠t:=λe=>by rw[e,hxs] at h9;cases h9
     have Sa:ix (vw K Ha) st:=(S8.same S9).but hxs nst Ba;have ra:aW (vw K Ha) (fr nb) v:=aW.flat_but hxs Ba _ _ (gN _) (aW.same S9 _ _ r8);have la:iz (vw K Ha) t ((its++[(kd,nb,mm,6)]).map tX):=by
      refine⟨_,ha,?_⟩;rw[Yq];exact (aK.flat_but hxs Ba _ _ (fU its) rxs).snoc (.mk_tup (Ba _ _ np h9) (.mk_cons (.mk_str _) (.mk_cons ra (.mk_cons (.mk_int _) .mk_nil))))
     have B0a:gF st (vw K H) (vw K Ha):=λc o hc e=>Ba _ _ (ak e ht) (S9 _ _ (B48 _ _ hc (B4 _ _ hc e)));have ok':∀c∈its++[(kd,nb,mm,6)],sY c:=λc hc=>by
      rcases YK.mp hc with z|z
      .exact ok4 c z
      .cases Yk.mp z;exact⟨hkd,f8,b8,ns8,mm1,show 6<=100 by decide⟩
     have d0:pY (kd,nb,mm,6)<=if kd=0 then 3 else 4:=by
      unfold pY;show (if kd=0 then 1 else 2)*mm<=_
      by_cases z:kd=0
      .rw[Yg z,Yg z];nofun
      .rw[Yc z,Yc z];have:=mm2 z;nofun
     have c0:qg (kd,nb,mm,6)<=54:=by
      show (6+12)*mm<=54;nofun
     symm
     have sm:∀(g:kD->Nat)(xs:List kD)(c:kD),((xs++[c]).map g).sum=(xs.map g).sum+g c:=λg xs c=>by simp
     have d4:pY (kd,nb,mm,6)<=4:=YB d0 (by split<;>nofun)
     have b0:Jm (kd,nb,mm,6)=8:=rfl;have fin:Pv (i+1) [some (.ref st),some (.int 2),some (.ref t),some (.bl b),some x,some v,some (.str (kS kd)),some (.int mn),o8] Ha:=by
      refine (hPv _ _ _).mpr ⟨b,_,_,_,_,_,its++[(kd,nb,mm,6)],rfl,B0a,Sa,la,ok',?_,?_,?_,?_,fs4.snoc ⟨c0,d4⟩⟩
      .rw[sm];nofun
      .rw[sm];nofun
      .rw[sm];nofun
      .rw[Yx];simp;nofun
     refine cZ (λzb=>⟨rfl,cZ (λzk=>?_) (λ_=>fin)⟩) (λ_=>fin);have zb:b=true:=by simpa using zb
     rw[zb] at cs4 bt4 ln4;rw[Yg rfl] at cs4 bt4 ln4;have k0:kd=0:=kline.mp zk;rw[Yg k0] at d0;refine⟨la.ty,⟨∅,∅⟩,∅,λpb Hb hpb Sb hb=>?_⟩;have fN:Fq (1,10^Int.toNat 9):=⟨∅,∅⟩;have bN:Bq 30 (1,10^Int.toNat 9):=⟨∅,∅⟩;simp only[mJ];refine⟨v,.ref pb,nb,(1,10^Int.toNat 9),rfl,aW.same Sb _ _ ra,cq hb,f8.ne,fN.ne,b8.mono ∅,bN.mono ∅,(b8.2.mul bN.2).mono ∅,λv2 Hc Sc rc=>⟨∅,λpd Hd hpd Sd hd=>?_⟩⟩;have S1d:=Sb.trans (Sc.trans Sd);obtain⟨ys,hys,rys⟩:=id (la.same S1d);have lys:ys.length=its.length+1:=by rw[rys.length,Yb,Yx];rfl
     refine⟨ys,hys,?_,λHe Be he=>?_⟩
     .have:1000<=sizeLine:=∅;nofun
     have npd:pd≠t:=λe=>by rw[e,hys] at hd;cases hd
     have Se:ix (vw K He) st:=(Sa.same S1d).but hys nst Be;have rce:aW (vw K He) (fr (oZ nb (1,10^Int.toNat 9))) v2:=aW.flat_but hys Be _ _ (gN _) (aW.same Sd _ _ rc);have le:iz (vw K He) t ((its++[(kd,nb,mm,6)]++[(kd,oZ nb (1,10^Int.toNat 9),1,37)]).map tX):=by
      refine⟨_,he,?_⟩;rw[Yq];exact (aK.flat_but hys Be _ _ (fU _) rys).snoc (.mk_tup (Be _ _ npd hd) (.mk_cons (.mk_str _) (.mk_cons rce (.mk_cons (.mk_int _) .mk_nil))))
     have B0e:gF st (vw K H) (vw K He):=λc o hc e=>Be _ _ (ak e ht) (S1d _ _ (B0a _ _ hc e));refine (hPv _ _ _).mpr ⟨false,_,_,_,_,_,_,rfl,B0e,Se,le,λc hc=>?_,?_,?_,?_,?_,fs4.snoc2 ⟨c0,d4⟩⟩
     .rcases YK.mp hc with z|z
      .exact ok' c z
      .cases Yk.mp z;exact⟨hkd,xZ f8 fN,(DS f8 fN b8 bN).mono (Yn 37),λk=>absurd k0 k,Yn 1,show 37<=100 by decide⟩
     .rw[sm,sm];have:pY (kd,oZ nb (1,10^Int.toNat 9),1,37)=1:=by
       unfold pY;rw[Yg k0];rfl
      nofun
     .rw[sm,sm];have:qg (kd,oZ nb (1,10^Int.toNat 9),1,37)=49:=rfl;rw[Yc ∅];nofun
     .rw[sm,sm];have:Jm (kd,oZ nb (1,10^Int.toNat 9),1,37)=39:=rfl;rw[Yc ∅];nofun
     .rw[Yx,Yx,Yc ∅];simp;nofun
    symm
    refine⟨l8.ty,rfl,cZ (λz=>app mn m3 (λk0=>absurd (kline.mp z) k0) m1) (λz=>?_)⟩;by_cases h2:(2:Int)<(mn:Int)
    .rw[Yg h2];exact app 2 ∅ (λ_=>by decide) ∅
    .rw[Yc h2];exact app mn m3 (λ_=>by nofun) m1
   symm
   refine⟨rfl,cZ (λz=>?_) (λz=>key v5 nb5 H7 B47 S7 l7 r7' f5 b5 λ_=>n5)⟩;simp only[lT];exact⟨st,rfl,S7,λv H8 q B8 S8 r8 f8 _ _ x8=>key v q H8 (B47.trans B8) S8 (l7.stBut (fU _) (qG _) S7 B8) r8 f8 (Gg f8 x8) λk=>absurd (kline.mp z) k⟩
  .obtain⟨b,o4,o5,o6,o7,o8,its,rfl,B4,S4,l4,ok4,dg4,cs4,bt4,ln4,fs4⟩:=(hPv _ _ _).mp pv;rw[dY] at dg4 cs4 bt4 ln4;have cs4':=YB (Nat.le_add_right _ _) cs4;have bt4':=YB (Nat.le_add_right _ _) bt4;have ln4':=YB (Nat.le_add_right _ _) ln4;refine hN3 _ _ ?_;symm
   simp only[lT];refine⟨st,rfl,S4,λv H5 q B5 S5 r5 f5 c1 c2 x5=>?_⟩;obtain⟨a5,rfl,h5⟩:=r5.fr_at;have l5:=l4.stBut (fU _) (qG _) S4 B5;have B05:=B4.trans B5;refine⟨a5,rfl,_,h5,_,eK,rfl,?_⟩;refine cZ (λz=>⟨∅,λp H6 hp S6 h6=>h p t (.ref a5) H6 its q (B05.same_trans S6) (S5.same S6) h6 (l5.same S6) ht (aW.same S6 _ _ r5) f5 (λe=>z (by rw[e])) (Gg f5 x5) ok4 () () () () fs4⟩) (λz=>⟨∅,λp6 H6 hp6 S6 h6=>⟨∅,λp H7 hp S7 h7=>h p t (.ref p6) H7 its (-3,2) (B05.same_trans (S6.trans S7)) (S5.same (S6.trans S7)) h7 (l5.same (S6.trans S7)) ht (cq (S7 _ _ h6)) ⟨∅,∅⟩ ∅ ⟨∅,∅⟩ ok4 () () () () fs4⟩⟩)
theorem xu{D:Int}(h:D≠0):(0:Rat)=((0:Int):Rat)/(D:Rat):=by
 have c0:((0:Int):Rat)=0:=rfl;have:=aC h;rw[c0,XJ];grind
theorem Ga{D:Int}(h:D≠0):wv (1,1)=(D:Rat)/(D:Rat):=by
 show ((1:Int):Rat)/((1:Int):Rat)=_;have c1:((1:Int):Rat)=1:=rfl;have:=aC h;rw[c1,XJ,XJ];grind
theorem sM:wv (1,1)≠0:=by
 show ((1:Int):Rat)/((1:Int):Rat)≠0;have c1:((1:Int):Rat)=1:=rfl;rw[c1];grind
theorem yl:wv (0,1)=0:=by
 show ((0:Int):Rat)/((1:Int):Rat)=0;have c1:((1:Int):Rat)=1:=rfl;have c0:((0:Int):Rat)=0:=rfl;rw[c1,c0];grind
theorem JO{y:Int×Int}{b:Nat}(fy:Fq y)(hb:Bq b y):fR [y,(1,1)]/\Pb b (cf [y,(1,1)]):=by
 refine⟨⟨λq hq=>?_,λq hq=>?_⟩,y.2,fy.ne,hb.2,λk=>?_⟩
 .rcases Yh.mp hq with rfl|z
  .exact fy
  .cases Yk.mp z;exact⟨∅,∅⟩
 .cases hq;exact Int.one_ne_zero
 .match k with
  | 0=>exact⟨y.1,rfl,hb.1⟩
  | 1=>exact⟨y.2,Ga fy.ne,hb.2⟩
  | k+2=>exact⟨0,by rw[cD (by simp)];exact xu fy.ne,gv⟩
theorem Fh{y:Int×Int}{b:Nat}(fy:Fq y)(hb:Bq b y):fR [y,(0,1),(1,1)]/\Pb b (cf [y,(0,1),(1,1)]):=by
 refine⟨⟨λq hq=>?_,λq hq=>?_⟩,y.2,fy.ne,hb.2,λk=>?_⟩
 .rcases Yh.mp hq with rfl|z
  .exact fy
  .rcases Yh.mp z with rfl|z
   .exact Gc
   .cases Yk.mp z;exact⟨∅,∅⟩
 .cases hq;exact Int.one_ne_zero
 .match k with
  | 0=>exact⟨y.1,rfl,hb.1⟩
  | 1=>exact⟨0,yl.trans (xu fy.ne),gv⟩
  | 2=>exact⟨y.2,Ga fy.ne,hb.2⟩
  | k+3=>exact⟨0,by rw[cD (by simp)];exact xu fy.ne,gv⟩
def fc(c:kD):aO:=if c.1=0 then .line (wv c.2.1) else if c.1=1 then .root (wv c.2.1) else .none (wv c.2.1)
def mT(c:kD):aO×Nat:=(fc c,c.2.2.1)
theorem Gy{y:Int×Int}(x:Rat):EV (cf [y,(1,1)]) x=wv y+x:=by
 rw[gL (n:=2) (λi hi=>cD (by simpa using hi)) ∅]
 show (0+wv y*1)+wv (1,1)*(1*x)=wv y+x;have:wv (1,1)=1:=by
  show ((1:Int):Rat)/((1:Int):Rat)=1;have c1:((1:Int):Rat)=1:=rfl;rw[c1];grind
 grind
theorem Lp{y:Int×Int}(x:Rat):EV (cf [y,(0,1),(1,1)]) x=wv y+x*x:=by
 rw[gL (n:=3) (λi hi=>cD (by simpa using hi)) ∅]
 show ((0+wv y*1)+wv (0,1)*(1*x))+wv (1,1)*(1*x*x)=wv y+x*x;have:wv (1,1)=1:=by
  show ((1:Int):Rat)/((1:Int):Rat)=1;have c1:((1:Int):Rat)=1:=rfl;rw[c1];grind
 have:wv (0,1)=0:=yl;grind
theorem sW(q:Int×Int):wv (0-q.1,q.2) = -wv q:=by
 show ((0-q.1:Int):Rat)/(q.2:Rat) = -((q.1:Rat)/(q.2:Rat));rw[Rat.intCast_sub,show ((0:Int):Rat)=0 from rfl,XJ,XJ]
 grind
theorem u5{q:aO×Nat}{x:Rat}:∀l:List (aO×Nat),iJ (l++[q]) x=iJ l x*eD (q.1.p x) q.2
 | []=>by show eD _ _*1=1*_;grind
 | a::l=>by
  show _*iJ (l++[q]) x=_*iJ l x*_;rw[u5 l];grind
theorem pD:∀its:List kD,de (its.map mT)=(its.map pY).sum
 | []=>rfl
 | c::its=>by
  show c.2.2.1*(fc c).deg+de (its.map mT)=pY c+(its.map pY).sum;rw[pD its];congr 1
  unfold pY fc;split
  .rw[X3];rfl
  .split<;>(rw[X3];rfl)
def fL(K:W.Frag):Sp:=λvs H Q _=>∃(p t:Addr)(v:V)(its:List kD)(q:Int×Int),vs=[.ref p]/\vw K H p=some (.tup [.ref t,v])/\iz (vw K H) t (its.map tX)/\aW (vw K H) (fr q) v/\Fq q/\q.1≠0/\Bq 6 q/\(∀c∈its,sY c)/\(its.map pY).sum<=12/\(its.map qg).sum<=211/\its.length<=5 /\
 ∀d H' (fs:List (Int×Int)),ay (vw K H) (vw K H')->vw K H d=none->ft (vw K H') d fs->fs≠[]->fs.length<=13->fR fs->Pb (6+(its.map qg).sum) (cf fs)->fs.length=de (its.map mT)+1->(∀x,EV (cf fs) x=wv q*iJ (its.map mT) x)->Q (.ref d) H'
theorem tT(F:fY K "_law_of_factors" "_law_of_factors" eZ f fd) (T:iK K mg)(zCmultiplied:cg P w K mg base "_law_multiplied" ["_law_f", "_law_g"] 4 (gS K)):cj P w K mg base fW 5 f fd ["_law_factors_here"] (fL K):=by
 have scN:=mh.nd;refine F.okQ mh (λvs H Q E h=>?_) (λcdv A outer s H vs Q E hr h=>?_)
 .obtain⟨_,_,_,_,_,rfl,_⟩:=h;rfl
 .obtain⟨p,t,v,its,q,rfl,hp,ht,rv,fq,q0,bq,ok,dg,cs,ln,h⟩:=h;refine⟨_,(ag (ax (i:=1) scN rfl (·) (aJ (aa (aE dk (qv 0) af (λ_ _=>rfl)) ae)))
   (ag (cL PassesOwn.never rfl (bU (aE dk (qv 0) af (λ_ _=>rfl))) (dU (n:=3) rfl (aB (aq (i:=2) scN rfl (·)) (aB (aq (i:=3) scN rfl (·)) (aB (aq (i:=4) scN rfl (·)) dQ)))) (ag (ax (i:=5) scN rfl (·) (aP (aa (aw cK af (aE dk (qv 3) af (λ_ _=>rfl))) (aa (aE dk (qv 3) af (λ_ _=>rfl)) ae))))
   (ag (ax (i:=6) scN rfl (·) (DL hr.u64 (DT (pI fE (aJ (aa (qv 5) (aa (aP (aa af (aa af ae))) ae))) (pI fE (aJ (aa (qv 5) (aa (aP (aa af (aa af ae))) (aa (aP (aa af (aa af ae))) ae)))) (pI fE (aJ (aa (qv 3) (aa (aP (aa af (aa af ae))) (aa (aP (aa af (aa af ae))) ae)))) DQ))) rfl rfl ∅ ∅) (qv 2) (λ_ _=>rfl)))
   (aj (cL PassesOwn.never rfl (fe rfl T.b_range (aa (qv 4) ae)) (aq (i:=7) scN rfl (·)) (aj (ax (i:=1) scN rfl (·) (av zCmultiplied nofun rfl (aa (qv 1) (aa (qv 6) ae))))))))))
   (aj (aI (qv 1))))),?_⟩
  walk_at"m";skip
  refine aT.gen λN1 hN1=>?_;symm
  refine⟨_,hp,_,i5,∅,λd0 H1 hd0 S1 h1=>hN1 _ _ ?_⟩;refine aT.gen λN2 hN2=>?_;symm
  obtain⟨ts,hts,rts⟩:=id ht;refine⟨_,S1 _ _ hp,_,eK,t,rfl,⟨_,.of (aF (S1 _ _ hts))⟩,?_⟩;obtain⟨Pv,hPv⟩ : ∃Pv:Nat->St->Hp->Prop,∀i σ H',Pv i σ H' ↔ ∃(d:Addr)(o2 o3 o4 o5 o6 o7:Option V)(fs:List (Int×Int)),σ=[some (.ref p),some (.ref d),o2,o3,o4,o5,o6,o7]/\ay (vw K H) (vw K H')/\vw K H d=none/\ft (vw K H') d fs/\fs≠[]/\fR fs/\fs.length=1+((its.take i).map pY).sum/\Pb (6+((its.take i).map qg).sum) (cf fs)/\(∀x,EV (cf fs) x=wv q*iJ ((its.take i).map mT) x):=⟨_,λ_ _ _=>Iff.rfl⟩;refine aY (its:=ts) Pv (λi σ H' _ z=>?_) ((hPv _ _ _).mpr ⟨d0,_,_,_,_,_,_,[q],rfl,S1,hd0,⟨_,h1,.mk_cons (aW.same S1 _ _ rv) .mk_nil⟩,by simp,⟨by simpa using fq,by simpa using q0⟩,by simp,?_,λx=>?_⟩) (λi x σ H2 hi hx pv=>?_) (λσ H2 pv=>?_)
  .obtain⟨_,_,_,_,_,_,_,_,_,S',_⟩:=(hPv _ _ _).mp z;exact aM (S' _ _ hts)
  .refine⟨q.2,fq.ne,bq.2.mono (),λk=>?_⟩;cases k with
   | zero=>exact⟨q.1,rfl,bq.1.mono ()⟩
   | succ k =>
    refine⟨0,?_,gv⟩;rw[cD (by simp)]
    have c0:((0:Int):Rat)=0:=rfl;have:=aC fq.ne;rw[c0,XJ];grind
  .rw[gL (n:=1) (λi hi=>cD (by simpa using hi)) ∅]
   show 0+wv q*1=wv q*1;grind
  .obtain⟨d,o2,o3,o4,o5,o6,o7,fs,rfl,S2,nd,ld,f0,pf,lf,bf,ev⟩:=(hPv _ _ _).mp pv;have hi':i<its.length:=by rw[<-Yb (f:=tX),<-rts.length];exact hi
   obtain⟨c,hc⟩ : ∃c,its[i]? = some c:=⟨_,Ya hi'⟩;obtain⟨x',ex,rx⟩:=rts.at (i:=i) (d:=tX c) (by rw[Yj,hc];rfl)
   rw[hx] at ex;cases ex;obtain⟨kd,nb,mn,b⟩:=c;obtain⟨hk,fn,bn,_,_⟩:=ok _ (YQ hc);obtain⟨xa,us,rfl,hxa,rus⟩:=aW.tup_at (aW.same S2 _ _ rx);obtain⟨u1,us1,rfl,ru1,rus1⟩ : ∃x r,us=x::r/\aW (vw K H2) (.str (kS kd)) x/\aK (vw K H2) [fr nb,.int mn] r:=by
    unfold aK at rus;exact rus
   obtain⟨u2,us2,rfl,ru2,rus2⟩ : ∃x r,us1=x::r/\aW (vw K H2) (fr nb) x/\aK (vw K H2) [.int mn] r:=by
    unfold aK at rus1;exact rus1
   obtain⟨u3,us3,rfl,ru3,rus3⟩ : ∃x r,us2=x::r/\aW (vw K H2) (.int mn) x/\aK (vw K H2) [] r:=by
    unfold aK at rus2;exact rus2
   have:us3=[]:=by
    unfold aK at rus3;exact rus3
   subst this;obtain⟨na,rfl,hna⟩:=ru2.fr_at;have:u1=.str (kS kd):=by
    unfold aW at ru1;exact ru1
   subst this;have:u3=.int mn:=ru3.int_at;subst this;symm
   refine⟨_,hxa,rfl,_,_,rfl,_,_,rfl,_,_,rfl,rfl,na,rfl,_,hna,_,eK,_,rfl,na,rfl,_,hna,_,i5,∅,λla H3 hla S3 h3=>?_⟩;simp only[Dh,C6,sT];symm
   intro pd G1 hpd T1 g1;refine⟨∅,λa1 G2 k2 T2 g2=>⟨∅,λl1 G3 k3 T3 g3=>⟨∅,λa2 G4 k4 T4 g4=>⟨∅,λa3 G5 k5 T5 g5=>⟨∅,λl2 G6 k6 T6 g6=>⟨∅,λa4 G7 k7 T7 g7=>⟨∅,λa5 G8 k8 T8 g8=>⟨∅,λl3 G9 k9 T9 g9=>?_⟩⟩⟩⟩⟩⟩⟩⟩;have U8:=T9;have U7:=T8.trans U8;have U6:=T7.trans U7;have U5:=T6.trans U6;have U4:=T5.trans U5;have U3:=T4.trans U4;have U2:=T3.trans U3;have U1:=T2.trans U2;refine⟨U1 _ _ g1,[(Sum.inr "line",.ref l1),(Sum.inr "root",.ref l2),(Sum.inr "none",.ref l3)],rfl,(show 3<=15 by decide),λH4 B4 h4=>⟨_,h4,Sum.inr (kS kd),rfl,?_⟩⟩
   have S24:ay (vw K H2) (vw K H4):=λy o e=>B4 _ _ (ak (S3 _ _ e) hpd) (U1 _ _ (T1 _ _ (S3 _ _ e)));have nd3:∀{y:Addr}{xs:List V},vw K G9 y=some (.tup xs)->vw K H4 y=some (.tup xs):=λe=>B4 _ _ (λz=>by rw[z,U1 _ _ g1] at e;cases e) e
   have ndl:∀{y:Addr}{xs:List V},vw K G9 y=some (.lst xs)->vw K H4 y=some (.lst xs):=λe=>B4 _ _ (λz=>by rw[z,U1 _ _ g1] at e;cases e) e
   have fl:Fq (0-nb.1,nb.2):=⟨fn.1,by have:=fn.2;rw[Int.zero_sub,Int.neg_gcd];exact this⟩
   have bl:Bq b (0-nb.1,nb.2):=⟨by have z:Bt b nb.1:=bn.1;unfold Bt at z ⊢;show (0-nb.1).natAbs<_;nofun,bn.2⟩
   have rla:aW (vw K H4) (fr (0-nb.1,nb.2)) (.ref la):=cq (nd3 (U1 _ _ (T1 _ _ h3)));have rna:aW (vw K H4) (fr nb) (.ref na):=cq (nd3 (U1 _ _ (T1 _ _ (S3 _ _ hna))));obtain⟨oa,one,eo,lo',po,bo,ln1,tp,evo⟩ : ∃(oa:Addr)(one:List (Int×Int)),oY (mP [] [((Sum.inr "line" : iA),V.ref l1),(Sum.inr "root",.ref l2),(Sum.inr "none",.ref l3)]) (Sum.inr (kS kd))=some (.ref oa)/\ft (vw K H4) oa one/\fR one/\Pb b (cf one)/\one.length=1+(if kd=0 then 1 else 2)/\cf one (one.length-1)≠0 /\ ∀x,EV (cf one) x=(fc (kd,nb,mn,b)).p x:=by
    have:kd=0\/kd=1\/kd=2:=by
     have:kd<=2:=hk;nofun
    rcases this with rfl|rfl|rfl
    .exact⟨l1,[(0-nb.1,nb.2),(1,1)],rfl,⟨_,ndl (U3 _ _ g3),.mk_cons rla (.mk_cons (cq (nd3 (U2 _ _ g2))) .mk_nil)⟩,(JO fl bl).1,(JO fl bl).2,rfl,sM,λx=>by rw[Gy,sW];show _=x-wv nb;grind⟩
    .exact⟨l2,[(0-nb.1,nb.2),(0,1),(1,1)],rfl,⟨_,ndl (U6 _ _ g6),.mk_cons rla (.mk_cons (cq (nd3 (U4 _ _ g4))) (.mk_cons (cq (nd3 (U5 _ _ g5))) .mk_nil))⟩,(Fh fl bl).1,(Fh fl bl).2,rfl,sM,λx=>by rw[Lp,sW];show _=x*x-wv nb;grind⟩
    .exact⟨l3,[nb,(0,1),(1,1)],rfl,⟨_,ndl g9,.mk_cons rna (.mk_cons (cq (nd3 (U7 _ _ g7))) (.mk_cons (cq (nd3 (U8 _ _ g8))) .mk_nil))⟩,(Fh fn bn).1,(Fh fn bn).2,rfl,sM,λx=>by rw[Lp];show _=x*x+wv nb;grind⟩
   refine⟨_,eo,?_⟩;have smd:∀g:kD->Nat,((its.take (i+1)).map g).sum=((its.take i).map g).sum+g (kd,nb,mn,b):=λg=>by
    rw[Yw,hc];simp
   have tot:∀g:kD->Nat,((its.take (i+1)).map g).sum<=(its.map g).sum:=λg=>by
    have:=X7 (λl=>(l.map g).sum) (List.take_append_drop (i+1) its);simp only[Yq,List.sum_append] at this;nofun
   have d1:=smd pY;have c1:=smd qg;have d2:=tot pY;have c2:=tot qg;have ed:pY (kd,nb,mn,b)=(if kd=0 then 1 else 2)*mn:=rfl
   have ec:qg (kd,nb,mn,b)=(b+12)*mn:=rfl;obtain⟨un,hun⟩ : ∃un,un=(if kd=0 then 1 else 2):=⟨_,rfl⟩
   rw[<-hun] at ed ln1;have m174:mn<=211:=by
    have:mn<=(b+12)*mn:=Nat.le_mul_of_pos_left _ ();nofun
   refine⟨(),(),?_⟩;obtain⟨Pw,hPw⟩ : ∃Pw:Nat->St->Hp->Prop,∀j σ H',Pw j σ H' ↔ ∃(d:Addr)(o7:Option V)(fs:List (Int×Int)),σ=[some (.ref p),some (.ref d),some (.str (kS kd)),some (.ref na),some (.int mn),some (.ref la),some (.ref oa),o7]/\ay (vw K H4) (vw K H')/\vw K H d=none/\ft (vw K H') d fs/\fs≠[]/\fR fs/\fs.length=1+((its.take i).map pY).sum+un*j/\Pb (6+((its.take i).map qg).sum+(b+12)*j) (cf fs)/\(∀x,EV (cf fs) x=wv q*iJ ((its.take i).map mT) x*eD ((fc (kd,nb,mn,b)).p x) j):=⟨_,λ_ _ _=>Iff.rfl⟩;have S04:=S2.trans S24;refine aY (its:=iB 0 mn) Pw (λ_ _ _ _ _=>cp) ((hPw _ _ _).mpr ⟨d,_,fs,rfl,λ_ _ z=>z,nd,ld.same S24,f0,pf,by rw[Nat.mul_zero];nofun,by rw[Nat.mul_zero];exact bf,λx=>by rw[ev x];show _=_*1;grind⟩) (λj x σ H5 hj hx pw=>?_) (λσ H5 pw=>?_)
   .obtain⟨d',o7',fs',rfl,S5,nd',ld',f0',pf',lf',bf',ev'⟩:=(hPw _ _ _).mp pw;rw[dY] at hj;have j1:un*(j+1)<=un*mn:=Y9 _ hj;have j2:(b+12)*(j+1)<=(b+12)*mn:=Y9 _ hj;have j3:un*(j+1)=un*j+un:=Nat.mul_succ _ _;have j4:(b+12)*(j+1)=(b+12)*j+(b+12):=Nat.mul_succ _ _;have un1:1<=un:=by rw[hun];split<;>nofun
    symm
    simp only[gS];have l1:0<fs'.length:=Yy.mpr f0';refine⟨d',oa,fs',one,_,b,rfl,ld',lo'.same S5,(),(),(),pf'.1,po.1,bf',bo,λe H6 rs S6 le ne' pr' cr _=>?_⟩;have tz:cf rs (fs'.length-1+(one.length-1))≠0:=λz=>by
     have q1:=nu (f:=cf fs') (g:=cf one) (d:=one.length-1) (i:=fs'.length-1) (λj hj=>cD ()) (λj hj=>cD ()) fs'.length;rw[<-cr,z,Yg ()] at q1;rcases YE.mp q1.symm with y|y
     .exact rh pf' f0' y
     .exact tp y
    have lr1:fs'.length-1+(one.length-1)<rs.length:=Nat.lt_of_not_le λz=>tz (cD z);have lr2:rs.length<=fs'.length+one.length-1:=IH pr' λk hk=>by
     rw[cr k];exact gu (n:=one.length) (λi hi=>cD hi) _ _ ()
    refine (hPw _ _ _).mpr ⟨e,_,rs,rfl,S5.trans S6,(S04.trans S5).none ne',le,λz=>by rw[z] at lr1;simp at lr1,pr',(),?_,λx=>?_⟩
    .exact ((bf'.pr bo fs'.length).congr cr).mono ()
    .rw[eN cr x,Jr (),ev' x,evo x];show _=_*(_*eD _ j);grind
   .obtain⟨d',o7',fs',rfl,S5,nd',ld',f0',pf',lf',bf',ev'⟩:=(hPw _ _ _).mp pw;rw[dY] at lf' bf' ev';exact (hPv _ _ _).mpr ⟨d',_,_,_,_,_,_,fs',rfl,S04.trans S5,nd',ld',f0',pf',by rw[d1,ed];nofun,bf'.mono (by rw[c1,ec];nofun),λx=>by rw[ev' x,Yw,hc];show _=wv q*iJ ((its.take i++[(kd,nb,mn,b)]).map mT) x;rw[Yq];show _=wv q*iJ (_++[mT (kd,nb,mn,b)]) x;rw[u5,<-Rat.mul_assoc];rfl⟩
  .obtain⟨d,o2,o3,o4,o5,o6,o7,fs,rfl,S2,nd,ld,f0,pf,lf,bf,ev⟩:=(hPv _ _ _).mp pv;have e1:its.take ts.length=its:=Xr (by rw[rts.length,Yb];nofun)
   rw[e1] at lf bf ev;refine hN2 _ _ ?_;symm
   exact h d H2 fs S2 nd ld f0 () pf (bf.mono ()) (by rw[pD];nofun) ev
def kH(K:W.Frag):Sp:=λvs H Q _=>∃x y p q,vs=[x,y]/\aW (vw K H) (fr p) x/\aW (vw K H) (fr q) y/\Bq 20000 p/\Bq 20000 q/\Q (.bl (IQ p q)) H
theorem Hj(F:fY K "_law_less" "_law_less" mW f fd) (T:iK K mg):cj P w K mg base fW 1 f fd ["_law_one", "_law_other"] (kH K):=by
 have scN:=BU.nd;refine F.okQ BU (λvs H Q E h=>?_) (λcdv A outer s H vs Q E hr h=>?_)
 .obtain⟨_,_,_,_,rfl,_⟩:=h;rfl
 .obtain⟨x,y,p,q,rfl,hx,hy,bp,bq,h⟩:=h;refine⟨_,(aj (aI (sZ C5 (aw aV (aE dk (qv 0) af (λ_ _=>rfl)) (aE dk (qv 1) af (λ_ _=>rfl))) (aw aV (aE dk (qv 1) af (λ_ _=>rfl)) (aE dk (qv 0) af (λ_ _=>rfl))) (aR _)))),?_⟩;walk_at"m";obtain⟨a,rfl,ha⟩:=hx.fr_at;obtain⟨b,rfl,hb⟩:=hy.fr_at;walk_at"vc*";exact⟨cQ bp.1 bq.2 ∅,cQ bq.1 bp.2 ∅,h⟩
theorem sK{p q:Int×Int}(hp:Fq p)(hq:Fq q):IQ p q=decide (wv p<wv q):=by
 unfold IQ;refine decide_eq_decide.mpr ?_;have p2:(0:Rat)<((p.2:Int):Rat):=YA.mpr hp.1;have q2:(0:Rat)<((q.2:Int):Rat):=YA.mpr hq.1;rw[<-XC,Yi,Yi];unfold wv;rw[Rat.div_lt_iff p2];have:(q.1:Rat)/(q.2:Rat)*(p.2:Rat)=((q.1:Rat)*(p.2:Rat))/(q.2:Rat):=⋯;rw[this,YN q2]
theorem AD{q:Int×Int}(h:Fq q):Fq ((if q.1<0 then -q.1 else q.1),q.2):=by
 refine⟨h.1,?_⟩;have:=h.2;show Int.gcd (if q.1<0 then -q.1 else q.1) q.2=1
 split
 .rw[Int.neg_gcd];exact this
 .exact this
def iT(K:W.Frag):Sp:=λvs H Q _=>∃(x:V)(q:Int×Int),vs=[x]/\aW (vw K H) (fr q) x/\Fq q/\Bq 100 q /\ ∀v H' (r:Int×Int),ay (vw K H) (vw K H')->aW (vw K H') (fr r) v->Fq r->Bq 300 r->wv r=bj (wv q)->Q v H'
theorem CA(F:fY K "_law_signed" "_law_signed" i9 f fd) (T:iK K mg)(zCtimes:cg P w K mg base "_law_times" ["_law_one", "_law_other"] 3 (j7 K)):cj P w K mg base fW 4 f fd ["_law_x"] (iT K):=by
 have scN:=um.nd;refine F.okQ um (λvs H Q E h=>?_) (λcdv A outer s H vs Q E hr h=>?_)
 .obtain⟨_,_,rfl,_⟩:=h;rfl
 .obtain⟨x,q,rfl,hx,fq,bq,h⟩:=h;refine⟨_,(aj (aI (av zCtimes nofun rfl (aa (qv 0) (aa (aP (aa (az jD (by rfl) T.b_abs oU (aa (aE dk (qv 0) af (λ_ _=>rfl)) ae)) (aa (aE dk (qv 0) af (λ_ _=>rfl)) ae))) ae))))),?_⟩
  walk_at"m";obtain⟨k,rfl,hk⟩:=id hx.fr_at;symm
  refine⟨_,hk,_,eK,_,rfl,_,hk,_,i5,∅,λp1 H1 hp1 S1 h1=>?_⟩;simp only[j7];have fa:=AD fq;have ba:Bq 100 ((if q.1<0 then -q.1 else q.1),q.2):=⟨by have:=bq.1;unfold Bt at this ⊢;show (if q.1<0 then -q.1 else q.1).natAbs<_;split<;>nofun,bq.2⟩
  refine⟨_,_,q,_,rfl,aW.same S1 _ _ hx,cq h1,fq.ne,fa.ne,bq.mono ∅,ba.mono ∅,(bq.2.mul ba.2).mono ∅,λv H2 S2 r2=>h v H2 _ (S1.trans S2) r2 (yN fq fa) ((w5 fq fa bq ba).mono ∅) ?_⟩;rw[By fq.ne fa.ne];have p2:(0:Rat)<(q.2:Rat):=YA.mpr fq.1;have ab:wv ((if q.1<0 then -q.1 else q.1),q.2)=if wv q<0 then -wv q else wv q:=by
   have s1:wv q<0↔q.1<0:=by
    refine⟨λz=>?_,λz=>?_⟩
    .refine Yt λy=>?_;have c:(0:Rat)<=(q.1:Rat):=Rat.intCast_nonneg.mpr ();unfold wv at z;rw[Rat.div_lt_iff p2] at z;grind
    .unfold wv;rw[Rat.div_lt_iff p2];have c:(q.1:Rat)<((0:Int):Rat):=XC.mpr z;have c0:((0:Int):Rat)=0:=rfl;grind
   by_cases z:q.1<0
   .rw[Yg (s1.mpr z)];show (((if q.1<0 then -q.1 else q.1):Int):Rat)/_=_
    rw[Yg z,Xi];unfold wv;rw[XJ,XJ];grind
   .rw[Yc λy=>z (s1.mp y)];show (((if q.1<0 then -q.1 else q.1):Int):Rat)/_=_
    rw[Yc z];rfl
  rw[ab];unfold bj;by_cases z:wv q<0
  .rw[Yg z,Yg z];grind
  .rw[Yc z,Yc z]
def vb(ms:List (Int×Int))(L:List Rat):Prop:=(∀q∈ms,Fq q/\Bq 300 q)/\(ms.map wv).Pairwise (· < ·) /\ ∀y,y∈ms.map wv↔y∈L
theorem vb.has{ms:List (Int×Int)}{L:List Rat}{r:Int×Int}(h:vb ms L)(hr:r∈ms):vb ms (L++[wv r]):=by
 obtain⟨a,b,c⟩:=h;refine⟨a,b,λy=>⟨λz=>XZ _ ((c y).mp z),λz=>?_⟩⟩;rcases YK.mp z with w|w
 .exact (c y).mpr w
 .rw[Yk.mp w];exact YX.mpr ⟨r,hr,rfl⟩
def i8(ms:List (Int×Int))(r:Rat):Nat:=(ms.filter λq=>decide (wv q<r)).length
theorem qO{r:Rat}:∀{ms:List (Int×Int)},(ms.map wv).Pairwise (· < ·)->(∀q∈ms.take (i8 ms r),wv q<r) /\ ∀q∈ms.drop (i8 ms r),¬ wv q<r
 | [],_=>⟨λ_ h=>(by simp at h),λ_ h=>(by simp at h)⟩
 | q::ms,up=>by
  obtain⟨u1,u2⟩:=Y0.mp up;obtain⟨i1,i2⟩:=qO (r:=r) u2;unfold i8 at *
  by_cases z:wv q<r
  .rw[YF (by simpa using z),YC,List.take_succ_cons,List.drop_succ_cons]
   refine⟨λp hp=>?_,i2⟩;rcases Yh.mp hp with rfl|hp
   .exact z
   .exact i1 p hp
  .have no:∀p∈q::ms,¬ wv p<r:=λp hp=>by
    rcases Yh.mp hp with rfl|hp
    .exact z
    .have:=u1 (wv p) (YX.mpr ⟨p,hp,rfl⟩);grind
   have:(q::ms).filter (λq=>decide (wv q<r))=[]:=List.filter_eq_nil_iff.mpr λp hp=>by simpa using no p hp
   rw[this];exact⟨λ_ h=>(by simp at h),no⟩
theorem vb.ins{ms:List (Int×Int)}{L:List Rat}{r:Int×Int}(h:vb ms L)(fr':Fq r)(br:Bq 300 r)(hr:r∉ms):vb (ms.take (i8 ms (wv r))++r::ms.drop (i8 ms (wv r))) (L++[wv r]):=by
 obtain⟨a,b,c⟩:=h;obtain⟨l1,l2⟩:=qO (r:=wv r) b;generalize i8 ms (wv r)=n at *
 have p:(ms.take n++r::ms.drop n).Perm (r::ms):=by
  have:=List.perm_middle (a:=r) (l₁:=ms.take n) (l₂:=ms.drop n)
  rwa [List.take_append_drop] at this
 have pm:=p.map wv;refine⟨λq hq=>?_,?_,λy=>?_⟩
 .rcases Yh.mp (p.mem_iff.mp hq) with rfl|z
  .exact⟨fr',br⟩
  .exact a q z
 .have b':(ms.map wv).Pairwise (· < ·):=b;rw[<-List.take_append_drop n ms,Yq] at b';obtain⟨b1,b2,b3⟩:=List.pairwise_append.mp b';rw[Yq,Y4];refine List.pairwise_append.mpr ⟨b1,Y0.mpr ⟨λy hy=>?_,b2⟩,λx hx y hy=>?_⟩
  .obtain⟨q,hq,rfl⟩:=YX.mp hy;have n1:=l2 q hq;have qm:q∈ms:=List.mem_of_mem_drop hq;have n2:wv q≠wv r:=λe=>hr (ww (a q qm).1 fr' e▸qm);grind
  .obtain⟨q,hq,rfl⟩:=YX.mp hx;have n1:=l1 q hq;rcases Yh.mp hy with rfl|hy
   .exact n1
   .exact b3 _ (YX.mpr ⟨q,hq,rfl⟩) y hy
 .rw[pm.mem_iff,Y4,Yh,YK,c y,Yk];exact or_comm
theorem oC{ms:List (Int×Int)}{q:Int×Int}{r:Rat}:i8 (ms++[q]) r=i8 ms r+if wv q<r then 1 else 0:=by
 unfold i8;rw[List.filter_append,Yx];congr 1
 by_cases z:wv q<r
 .rw[Yg z,YF (by simpa using z)]
  rfl
 .rw[Yc z,YS (by simpa using z)]
  rfl
def nV(K:W.Frag):Sp:=λvs H Q _=>∃(p t:Addr)(v:V)(its:List kD),vs=[.ref p]/\vw K H p=some (.tup [.ref t,v])/\iz (vw K H) t (its.map tX)/\(∀c∈its,sY c/\c.2.2.2<=100)/\its.length<=4 /\
 ∀d H' (ms:List (Int×Int)),ay (vw K H) (vw K H')->vw K H d=none->ft (vw K H') d ms->(∀q∈ms,Fq q/\Bq 300 q)->(ms.map wv).Pairwise (· < ·)->(∀y,y∈ms.map wv↔y∈kZ (its.map mT))->ms.length<=8->Q (.ref d) H'
theorem EZ(F:fY K "_law_marks" "_law_marks" kg f fd) (T:iK K mg)(zCsigned:cg P w K mg base "_law_signed" ["_law_x"] 4 (iT K)) (zCless:cg P w K mg base "_law_less" ["_law_one", "_law_other"] 1 (kH K)):cj P w K mg base fW 5 f fd ["_law_factors_here"] (nV K):=by
 have scN:=yR.nd;refine F.okQ yR (λvs H Q E h=>?_) (λcdv A outer s H vs Q E hr h=>?_)
 .obtain⟨_,_,_,_,rfl,_⟩:=h;rfl
 .obtain⟨p,t,v,its,rfl,hp,ht,ok,ln,h⟩:=h;refine⟨_,(ag (ax (i:=1) scN rfl (·) (aJ ae))
   (ag (cL PassesOwn.never rfl (bU (aE dk (qv 0) af (λ_ _=>rfl))) (dU (n:=3) rfl (aB (aq (i:=2) scN rfl (·)) (aB (aq (i:=3) scN rfl (·)) (aB (aq (i:=4) scN rfl (·)) dQ)))) (ag (ax (i:=5) scN rfl (·) (fQ (aN ik (qv 2) fE (aR _)) (aJ (aa (av zCsigned nofun rfl (aa (qv 3) ae)) ae)) (aJ ae)))
   (ag (dy (aN ik (qv 2) fE (aR _)) (aj (ax (i:=5) scN rfl (·) (aJ (aa (aP (aa (aw cK af (aE dk (qv 3) af (λ_ _=>rfl))) (aa (aE dk (qv 3) af (λ_ _=>rfl)) ae))) (aa (qv 3) ae))))) bC)
   (aj (cL PassesOwn.never rfl (bU (qv 5)) (aq (i:=6) scN rfl (·)) (aj (dy (aN (zR hr.u64) (qv 6) (qv 1) (by rfl)) (aj (fP (ku YR PySem.F.slot_list_insert PySem.F.type_list_insert wW (qv 1) (aa (az aU (by rfl) T.b_len cC (aa (fv (own:=["_law_other"]) (outs:=["_law_one"]) (ixs:=[6]) rfl (bU (qv 1)) rfl ⟨rfl,rfl,rfl,⟨rfl,trivial⟩,rfl,⟨⟨rfl,rfl,rfl,_,rfl⟩,trivial⟩⟩ (λ_ _ _ _=>⟨(aq (i:=0) (show (["_law_other", "_law_one"]:List Str).Nodup by decide +kernel) rfl (·)),(vU (tL (av zCless nofun rfl (aa (qv 0) (aa (qv 1) ae))))),(qv 0)⟩)) ae)) (aa (qv 6) ae))))) bC)))))))
   (aj (aI (qv 1))))),?_⟩
  walk_at"m";skip
  refine aT.gen λN1 hN1=>?_;symm
  refine⟨∅,λd H1 hd S1 h1=>hN1 _ _ ?_⟩;refine aT.gen λN2 hN2=>?_;symm
  obtain⟨ts,hts,rts⟩:=id ht;refine⟨_,S1 _ _ hp,_,eK,t,rfl,⟨_,.of (aF (S1 _ _ hts))⟩,?_⟩;have ndp:∀{b:Addr}{o:HO},vw K H b=some o->b≠d:=λe=>ak e hd;obtain⟨Pv,hPv⟩ : ∃Pv:Nat->St->Hp->Prop,∀i σ H',Pv i σ H' ↔ ∃(o2 o3 o4 o5 o6:Option V)(ms:List (Int×Int)),σ=[some (.ref p),some (.ref d),o2,o3,o4,o5,o6]/\ay (vw K H) (vw K H')/\ft (vw K H') d ms/\vb ms (kZ ((its.take i).map mT))/\ms.length<=2*i:=⟨_,λ_ _ _=>Iff.rfl⟩;refine aY (its:=ts) Pv (λi σ H' _ z=>?_) ((hPv _ _ _).mpr ⟨_,_,_,_,_,[],rfl,S1,⟨[],h1,.mk_nil⟩,⟨by simp,by simp,λy=>by simp[kZ]⟩,by simp⟩) (λi x σ H2 hi hx pv=>?_) (λσ H2 pv=>?_)
  .obtain⟨_,_,_,_,_,_,_,S',_⟩:=(hPv _ _ _).mp z;exact aM (S' _ _ hts)
  .obtain⟨o2,o3,o4,o5,o6,ms,rfl,S2,ld,mk,lm⟩:=(hPv _ _ _).mp pv;have hi':i<its.length:=by rw[<-Yb (f:=tX),<-rts.length];exact hi
   obtain⟨c,hc⟩ : ∃c,its[i]? = some c:=⟨_,Ya hi'⟩;obtain⟨x',ex,rx⟩:=rts.at (i:=i) (d:=tX c) (by rw[Yj,hc];rfl)
   rw[hx] at ex;cases ex;obtain⟨⟨hk,fn,bn,hns,_⟩,b100⟩:=ok _ (YQ hc);obtain⟨kd,nb,mn,b⟩:=c;obtain⟨xa,us,rfl,hxa,rus⟩:=aW.tup_at (aW.same S2 _ _ rx);obtain⟨u1,us1,rfl,ru1,rus1⟩:=rus.cons_at;obtain⟨u2,us2,rfl,ru2,rus2⟩:=rus1.cons_at;obtain⟨u3,us3,rfl,ru3,rus3⟩:=rus2.cons_at;cases rus3.nil_at;obtain⟨na,rfl,hna⟩:=id ru2.fr_at;have:u1=.str (kS kd):=by
    unfold aW at ru1;exact ru1
   subst this;have:u3=.int mn:=ru3.int_at;subst this;have bn':Bq 100 nb:=bn.mono b100;refine⟨_,rfl,_,hxa,rfl,_,_,rfl,_,_,rfl,_,_,rfl,rfl,?_⟩;have hk2:kd=0\/kd=1\/kd=2:=by
    have:kd<=2:=hk;nofun
   have kline:kS kd=Str.ofString "line" ↔ kd=0:=by
    rcases hk2 with rfl|rfl|rfl
    .exact⟨λ_=>rfl,λ_=>rfl⟩
    .exact⟨λz=>absurd z ∅,λz=>by cases z⟩
    .exact⟨λz=>absurd z ∅,λz=>by cases z⟩
   have kroot:kS kd=Str.ofString "root" ↔ kd=1:=by
    rcases hk2 with rfl|rfl|rfl
    .exact⟨λz=>absurd z ∅,λz=>by cases z⟩
    .exact⟨λ_=>rfl,λ_=>rfl⟩
    .exact⟨λz=>absurd z ∅,λz=>by cases z⟩
   have emk:kZ ((its.take (i+1)).map mT)=kZ ((its.take i).map mT)++(fc (kd,nb,mn,b)).mk:=by
    rw[Yw,hc];show kZ ((its.take i++[(kd,nb,mn,b)]).map mT)=_;rw[Yq];unfold kZ;rw[List.flatMap_append];simp[mT]
   refine aT.gen λM1 hM1=>?_;have k1:∀(sa:Addr)(H3:Hp)(rs:List (Int×Int)),ay (vw K H2) (vw K H3)->ft (vw K H3) sa rs->vw K H2 sa=none->(kd≠1->rs.map wv=(fc (kd,nb,mn,b)).mk)->(∀q∈rs,Fq q/\Bq 300 q)->rs.length<=1->M1 [some (.ref p),some (.ref d),some (.str (kS kd)),some (.ref na),some (.int mn),some (.ref sa),o6] H3:=by
    intro sa H3 rs S3 ls nsa ers brs lrs;refine hM1 _ _ ?_;refine aT.gen λM2 hM2=>?_;have key:∀(sa:Addr)(H4:Hp)(rs:List (Int×Int)),ay (vw K H2) (vw K H4)->ft (vw K H4) sa rs->vw K H2 sa=none->rs.map wv=(fc (kd,nb,mn,b)).mk->(∀q∈rs,Fq q/\Bq 300 q)->rs.length<=2->M2 [some (.ref p),some (.ref d),some (.str (kS kd)),some (.ref na),some (.int mn),some (.ref sa),o6] H4:=by
     intro sa H4 rs S4 ls nsa ers brs lrs;refine hM2 _ _ ?_;symm
     obtain⟨ss,hss,rss⟩:=id ls;have lss:ss.length=rs.length:=by rw[rss.length,Yb]
     have nsd:sa≠d:=by
      obtain⟨ys,hys,_⟩:=id ld;exact (ak hys nsa).symm
     obtain⟨Pw,hPw⟩ : ∃Pw:Nat->St->Hp->Prop,∀j σ H',Pw j σ H' ↔ ∃(o6:Option V)(ms':List (Int×Int)),σ=[some (.ref p),some (.ref d),some (.str (kS kd)),some (.ref na),some (.int mn),some (.ref sa),o6]/\ay (vw K H) (vw K H')/\vw K H' sa=some (.lst ss)/\aK (vw K H') (rs.map fr) ss/\ft (vw K H') d ms'/\vb ms' (kZ ((its.take i).map mT)++(rs.take j).map wv)/\ms'.length<=2*i+j:=⟨_,λ_ _ _=>Iff.rfl⟩;refine⟨⟨_,.of (aF hss)⟩,aY (its:=ss) Pw (λj σ H' _ z=>?_) ((hPw _ _ _).mpr ⟨_,ms,rfl,S2.trans S4,hss,rss,ld.same S4,by rw[List.take_zero,XY,Xv];exact mk,()⟩) (λj y σ H5 hj hy pw=>?_) (λσ H5 pw=>?_)⟩
     .obtain⟨_,_,_,_,z1,_⟩:=(hPw _ _ _).mp z;exact aM z1
     .obtain⟨o6',ms',rfl,S5,hs5,rs5,ld5,mk5,lm5⟩:=(hPw _ _ _).mp pw;have hj':j<rs.length:=();obtain⟨r,hr⟩ : ∃r,rs[j]? = some r:=⟨_,Ya hj'⟩;obtain⟨y',ey,ry⟩:=rs5.at (i:=j) (d:=fr r) (by rw[Yj,hr];rfl)
      rw[hy] at ey;cases ey;obtain⟨fr1,br1⟩:=brs r (YQ hr);have et:(rs.take (j+1)).map wv=(rs.take j).map wv++[wv r]:=by rw[Yw,hr];simp
      obtain⟨xs,hxs,rxs⟩:=id ld5;symm
      simp only[JJ];refine⟨_,_,ry,ld5.rep,vD r,Dy ms',!decide (r∈ms'),by rw[Yg trivial,yh],cZ (λz=>?_) (λz=>?_)⟩
      .have nr:r∉ms':=by simpa using z
       refine⟨mB hxs,⟨_,.of (aF hxs)⟩,λa6 H6 ha6 S6 h6=>?_⟩;have lxs:xs.length=ms'.length:=by rw[rxs.length,Yb]
       refine bH (its:=xs) (λk zs H'=>ay (vw K H5) (vw K H')/\zs.length=i8 (ms'.take k) (wv r)) (λk zs H' _ _ w=>aM (w.1 _ _ hxs)) h6 ⟨S6,rfl⟩ (λk x zs H' hk hx h' w=>?_) (λzs H7 h7 w=>?_)
       .obtain⟨w1,w2⟩:=w;have hk':k<ms'.length:=();obtain⟨x',ex,rx'⟩:=rxs.at (i:=k) (d:=fr ms'[k]) (by rw[Yj,Ya hk'];rfl)
        rw[hx] at ex;cases ex;have bm:=(mk5.1 _ (Yp hk')).2;have fm:=(mk5.1 _ (Yp hk')).1;have et':ms'.take (k+1)=ms'.take k++[ms'[k]]:=by rw[Yw,Ya hk'];rfl
        have zl:zs.length<=k:=by
         rw[w2];refine YB (List.length_filter_le _ _) ?_;rw[Yv];nofun
        symm
        simp only[kH];refine⟨_,_,ms'[k],r,rfl,aW.same w1 _ _ rx',aW.same w1 _ _ ry,bm.mono ∅,br1.mono ∅,_,rfl,cZ (λy=>.mk h' ?_ λH8 B8 h8=>⟨λb o e=>B8 _ _ (ak e ha6) (w1 _ _ e),?_⟩) (λy=>.mk h' ⟨w1,?_⟩)⟩
        .have:1000<=sizeLine:=∅;nofun
        .rw[sK fm fr1] at y;rw[et',oC,Yg (by simpa using y),Yx,w2]
         rfl
        .rw[sK fm fr1] at y;rw[et',oC,Yc (by simpa using y),w2]
         rfl
       .obtain⟨w1,w2⟩:=w;rw[Xr ()] at w2;have zl:i8 ms' (wv r)<=ms'.length:=List.length_filter_le _ _;refine⟨zs.length,by simp only[gH,h7],?_⟩
        simp only[Gm];refine⟨d,_,_,rfl,rfl,xs,w1 _ _ hxs,?_,(),by rw[XB];nofun,λH8 B8 h8=>?_⟩
        .have:1000<=sizeLine:=∅;nofun
        rw[XB,w2] at h8;have hx7:=w1 _ _ hxs;refine (hPw _ _ _).mpr ⟨_,ms'.take (i8 ms' (wv r))++r::ms'.drop (i8 ms' (wv r)),rfl,λb o e=>B8 _ _ (ndp e) (w1 _ _ (S5 _ _ e)),B8 _ _ nsd (w1 _ _ hs5),aK.flat_but hx7 B8 _ _ (mf _) (rs5.same w1),⟨_,h8,?_⟩,by rw[et,<-YZ];exact mk5.ins fr1 br1 nr,by rw[Yx,YC,Yv,List.length_drop];nofun⟩
        have r8:=aK.flat_but hx7 B8 _ _ (mf _) (rxs.same w1);have y8:=aW.flat_but hx7 B8 _ _ (gN _) (aW.same w1 _ _ ry);unfold Kk;rw[Yq,Y4,List.map_take,List.map_drop];exact (r8.take _).app (.mk_cons y8 (r8.drop _))
      .have yr:r∈ms':=by simpa using z
       exact (hPw _ _ _).mpr ⟨_,ms',rfl,S5,hs5,rs5,ld5,by rw[et,<-YZ];exact mk5.has yr,()⟩
     .obtain⟨o6',ms',rfl,S5,hs5,rs5,ld5,mk5,lm5⟩:=(hPw _ _ _).mp pw;rw[Xr (l:=rs) (),ers,<-emk] at mk5;exact (hPv _ _ _).mpr ⟨_,_,_,_,_,ms',rfl,S5,ld5,mk5,()⟩
    symm
    refine⟨rfl,cZ (λz=>?_) (λz=>key sa H3 rs S3 ls nsa (ers λy=>z (kroot.mpr y)) brs ())⟩;have k1:=kroot.mp z;have hna3:=S3 _ _ hna;refine⟨_,hna3,_,eK,_,rfl,_,hna3,_,i5,∅,λp5 H5 hp5 S5 h5=>⟨∅,λl6 H6 hl6 S6 h6=>key l6 H6 [(0-nb.1,nb.2),nb] (S3.trans (S5.trans S6)) ⟨_,h6,.mk_cons (cq (S6 _ _ h5)) (.mk_cons (cq ((S5.trans S6) _ _ hna3)) .mk_nil)⟩ ((S3.trans S5).none hl6) ?_ (λq hq=>?_) (by simp)⟩⟩
    .rw[k1];show [wv (0-nb.1,nb.2),wv nb]=[-wv nb,wv nb];rw[sW]
    .simp only[Yh,Xw,or_false] at hq;rcases hq with rfl|rfl
     .exact⟨⟨fn.1,by have:=fn.2;rw[Int.zero_sub,Int.neg_gcd];exact this⟩,⟨by have z:Bt 100 nb.1:=bn'.1;exact Bt.mono (m:=100) (by unfold Bt at z ⊢;show (0-nb.1).natAbs<_;nofun) ∅,bn'.2.mono ∅⟩⟩
     .exact⟨fn,bn'.mono ∅⟩
   symm
   refine⟨rfl,cZ (λz=>?_) (λz=>⟨∅,λl3 H3 hl3 S3 h3=>k1 l3 H3 [] S3 ⟨_,h3,.mk_nil⟩ hl3 (λn1=>?_) (by simp) (by simp)⟩)⟩
   .have k0:=kline.mp z;simp only[iT];refine⟨_,nb,rfl,ru2,fn,bn',λv3 H3 r S3 r3 f3 b3 w3=>⟨∅,λl4 H4 hl4 S4 h4=>k1 l4 H4 [r] (S3.trans S4) ⟨_,h4,.mk_cons (aW.same S4 _ _ r3) .mk_nil⟩ (S3.none hl4) (λ_=>?_) (by simpa using ⟨f3,b3⟩) (by simp)⟩⟩
    rw[k0];show [wv r]=[bj (wv nb)];rw[w3]
   .have k2:kd=2:=by
     have:kd≠0:=λy=>z (kline.mpr y);nofun
    rw[k2];rfl
  .obtain⟨o2,o3,o4,o5,o6,ms,rfl,S2,ld,mk,lm⟩:=(hPv _ _ _).mp pv;have e1:its.take ts.length=its:=Xr (by rw[rts.length,Yb];nofun)
   rw[e1] at mk;refine hN2 _ _ ?_;symm
   exact h d H2 ms S2 hd ld mk.1 mk.2.1 mk.2.2 (by have:=rts.length;rw[Yb] at this;nofun)
theorem uE{c:Int}{q:aO×Nat}{m:Rat}:∀l:List (aO×Nat),oi c (l++[q]) m=oi c l m*(qe q.1 m)^q.2
 | []=>by show (qe q.1 m)^q.2*c=c*(qe q.1 m)^q.2;exact Y2 _ _
 | p::l=>by
  show (qe p.1 m)^p.2*oi c (l++[q]) m=(qe p.1 m)^p.2*oi c l m*(qe q.1 m)^q.2;rw[uE l,YJ]
theorem zz(q:aO)(m:Rat):qe q m=0\/qe q m=1\/qe q m = -1:=by
 cases q with
 | line r=>exact cA _
 | root n=>exact cA _
 | none n=>exact .inr (.inl rfl)
def Ap(x:Int):Prop:=x=0\/x=1\/x = -1
theorem Ap.mul{x y:Int}(h:Ap x)(k:Ap y):Ap (x*y):=by
 unfold Ap at *
 rcases h with rfl|rfl|rfl<;>rcases k with rfl|rfl|rfl<;>decide
theorem Ap.bt{x:Int}(h:Ap x):Bt 2 x:=by
 rcases h with rfl|rfl|rfl<;>decide
theorem yM{p q:Int×Int}(fp:Fq p)(fq:Fq q):(if IQ p q=true then (1:Int) else 0)-(if IQ q p=true then 1 else 0)=sg (wv q-wv p):=by
 rw[sK fp fq,sK fq fp];rcases bA (wv q-wv p) with ⟨z,e⟩|⟨z,e⟩|⟨z,e⟩
 .rw[e,Yg (by simpa using (show wv p<wv q by grind)),Yc (by simpa using (show ¬ wv q<wv p by grind))]
  rfl
 .rw[e,Yc (by simpa using (show ¬ wv p<wv q by grind)),Yg (by simpa using (show wv q<wv p by grind))]
  rfl
 .rw[e,Yc (by simpa using (show ¬ wv p<wv q by grind)),Yc (by simpa using (show ¬ wv q<wv p by grind))]
  rfl
theorem Ho{q:Int×Int}(fq:Fq q):wv ((if q.1<0 then -q.1 else q.1),q.2)=jH (wv q):=by
 have p2:(0:Rat)<(q.2:Rat):=YA.mpr fq.1;have s1:wv q<0↔q.1<0:=by
  unfold wv;rw[Rat.div_lt_iff p2,Rat.zero_mul];exact XC (b:=0)
 unfold jH;by_cases z:q.1<0
 .rw[Yg (s1.mpr z)];show (((if q.1<0 then -q.1 else q.1):Int):Rat)/_=_
  rw[Yg z,Xi];unfold wv;rw[XJ,XJ];grind
 .rw[Yc λy=>z (s1.mp y)];show (((if q.1<0 then -q.1 else q.1):Int):Rat)/_=_
  rw[Yc z];rfl
theorem FR{q:Int×Int}(fq:Fq q)(q0:q.1≠0):sg (wv q)=if q.1 > 0 then 1 else -1:=by
 have p2:(0:Rat)<(q.2:Rat):=YA.mpr fq.1;by_cases z:q.1 > 0
 .rw[Yg z];refine cn ?_;unfold wv;rw[YN p2,Rat.zero_mul];exact YA.mpr z
 .rw[Yc z];refine dM ?_;unfold wv;rw[Rat.div_lt_iff p2,Rat.zero_mul];exact (XC (b:=0)).mpr ()
def jX(K:W.Frag):Sp:=λvs H Q _=>∃(x:V)(r:Int×Int)(p t:Addr)(v:V)(its:List kD)(q:Int×Int),vs=[x,.ref p]/\aW (vw K H) (fr r) x/\Fq r/\Bq 300 r/\vw K H p=some (.tup [.ref t,v])/\iz (vw K H) t (its.map tX)/\aW (vw K H) (fr q) v/\Fq q/\q.1≠0/\(∀c∈its,sY c/\c.2.2.1<=100)/\its.length<=5 /\
 ∀H',ay (vw K H) (vw K H')->Q (.int (oi (sg (wv q)) (its.map mT) (wv r))) H'
theorem zV(F:fY K "_law_sign_at" "_law_sign_at" gW f fd) (T:iK K mg)(zCsigned:cg P w K mg base "_law_signed" ["_law_x"] 4 (iT K)) (zCless:cg P w K mg base "_law_less" ["_law_one", "_law_other"] 1 (kH K)):cj P w K mg base fW 5 f fd ["_law_mark", "_law_factors_here"] (jX K):=by
 have scN:=qW.nd;refine F.okQ qW (λvs H Q E h=>?_) (λcdv A outer s H vs Q E hr h=>?_)
 .obtain⟨_,_,_,_,_,_,_,rfl,_⟩:=h;rfl
 .obtain⟨x,r,p,t,v,its,q,rfl,hx,fr',br,hp,ht,rv,fq,q0,ok,ln,h⟩:=h;refine⟨_,(ag (ax (i:=2) scN rfl (·) (fQ (aN nj (aE dk (aE dk (qv 1) af (λ_ _=>rfl)) af (λ_ _=>rfl)) af (aR _)) af (gD eV af)))
   (ag (cL PassesOwn.never rfl (bU (aE dk (qv 1) af (λ_ _=>rfl))) (dU (n:=3) rfl (aB (aq (i:=3) scN rfl (·)) (aB (aq (i:=4) scN rfl (·)) (aB (aq (i:=5) scN rfl (·)) dQ)))) (ag (ax (i:=6) scN rfl (·) af)
   (ag (dy (aN ik (qv 3) fE (aR _)) (ag (ax (i:=7) scN rfl (·) (av zCsigned nofun rfl (aa (qv 4) ae)))
   (aj (ax (i:=6) scN rfl (·) (aw cK (hU jR (by rfl) T.b_int sJ (aa (av zCless nofun rfl (aa (qv 7) (aa (qv 0) ae))) ae)) (hU jR (by rfl) T.b_int sJ (aa (av zCless nofun rfl (aa (qv 0) (aa (qv 7) ae))) ae)))))) bC)
   (ag (dy (aN ik (qv 3) fE (aR _)) (ag (ax (i:=8) scN rfl (·) (aP (aa (az jD (by rfl) T.b_abs oU (aa (aE dk (qv 0) af (λ_ _=>rfl)) ae)) (aa (aE dk (qv 0) af (λ_ _=>rfl)) ae))))
   (aj (ax (i:=6) scN rfl (·) (aw cK (hU jR (by rfl) T.b_int sJ (aa (av zCless nofun rfl (aa (qv 4) (aa (qv 8) ae))) ae)) (hU jR (by rfl) T.b_int sJ (aa (av zCless nofun rfl (aa (qv 8) (aa (qv 4) ae))) ae)))))) bC)
   (aj (cL PassesOwn.never rfl (fe rfl T.b_range (aa (qv 5) ae)) (aq (i:=9) scN rfl (·)) (aj (ax (i:=2) scN rfl (·) (aw aV (qv 2) (qv 6))))))))))
   (aj (aI (qv 2))))),?_⟩
  walk_at"m";skip
  obtain⟨va,rfl,hva⟩:=id rv.fr_at;obtain⟨xa,rfl,hxa⟩:=id hx.fr_at;obtain⟨c0,hc0⟩ : ∃c0,c0=sg (wv q):=⟨_,rfl⟩;have tc:Ap c0:=by rw[hc0];exact cA _
  refine aT.gen λN1 hN1=>?_;have go1:N1 [some (.ref xa),some (.ref p),some (.int c0),none,none,none,none,none,none,none] H:=hN1 _ _ ?_
  .symm
   have e:=FR fq q0;rw[<-hc0] at e;refine⟨_,hp,_,i5,va,rfl,_,hva,_,eK,_,rfl,cZ (λz=>?_) (λz=>?_)⟩
   .rw[Yg z] at e;rw[<-e];exact go1
   .rw[Yc z] at e;rw[<-e];exact go1
  clear hN1;refine aT.gen λN2 hN2=>?_;symm
  obtain⟨ts,hts,rts⟩:=id ht;refine⟨_,hp,_,eK,t,rfl,⟨_,.of (aF hts)⟩,?_⟩;obtain⟨Pv,hPv⟩ : ∃Pv:Nat->St->Hp->Prop,∀i σ H',Pv i σ H' ↔ ∃(o3 o4 o5 o6 o7 o8 o9:Option V),σ=[some (.ref xa),some (.ref p),some (.int (oi c0 ((its.take i).map mT) (wv r))),o3,o4,o5,o6,o7,o8,o9]/\ay (vw K H) (vw K H')/\Ap (oi c0 ((its.take i).map mT) (wv r)):=⟨_,λ_ _ _=>Iff.rfl⟩;refine aY (its:=ts) Pv (λi σ H' _ z=>?_) ((hPv _ _ _).mpr ⟨_,_,_,_,_,_,_,rfl,ay.refl _,tc⟩) (λi x σ H2 hi hx2 pv=>?_) (λσ H2 pv=>?_)
  .obtain⟨_,_,_,_,_,_,_,_,S',_⟩:=(hPv _ _ _).mp z;exact aM (S' _ _ hts)
  .obtain⟨o3,o4,o5,o6,o7,o8,o9,rfl,S2,tri⟩:=(hPv _ _ _).mp pv;have hi':i<its.length:=by rw[<-Yb (f:=tX),<-rts.length];exact hi
   obtain⟨c,hc⟩ : ∃c,its[i]? = some c:=⟨_,Ya hi'⟩;obtain⟨x',ex,rx⟩:=rts.at (i:=i) (d:=tX c) (by rw[Yj,hc];rfl)
   rw[hx2] at ex;cases ex;obtain⟨⟨hk,fn,bn,hns,_,b100⟩,m100⟩:=ok _ (YQ hc);obtain⟨kd,nb,mn,b⟩:=c;obtain⟨ia,us,rfl,hia,rus⟩:=aW.tup_at (aW.same S2 _ _ rx);obtain⟨u1,us1,rfl,ru1,rus1⟩:=rus.cons_at;obtain⟨u2,us2,rfl,ru2,rus2⟩:=rus1.cons_at;obtain⟨u3,us3,rfl,ru3,rus3⟩:=rus2.cons_at;cases rus3.nil_at;obtain⟨na,rfl,hna⟩:=id ru2.fr_at;have:u1=.str (kS kd):=by
    unfold aW at ru1;exact ru1
   subst this;have:u3=.int mn:=ru3.int_at;subst this;have bn':Bq 100 nb:=bn.mono b100;have mn100:mn<=100:=m100;refine⟨_,rfl,_,hia,rfl,_,_,rfl,_,_,rfl,_,_,rfl,rfl,?_⟩;have hk2:kd=0\/kd=1\/kd=2:=by
    have:kd<=2:=hk;nofun
   have kline:kS kd=Str.ofString "line" ↔ kd=0:=by
    rcases hk2 with rfl|rfl|rfl
    .exact⟨λ_=>rfl,λ_=>rfl⟩
    .exact⟨λz=>absurd z ∅,λz=>by cases z⟩
    .exact⟨λz=>absurd z ∅,λz=>by cases z⟩
   have kroot:kS kd=Str.ofString "root" ↔ kd=1:=by
    rcases hk2 with rfl|rfl|rfl
    .exact⟨λz=>absurd z ∅,λz=>by cases z⟩
    .exact⟨λ_=>rfl,λ_=>rfl⟩
    .exact⟨λz=>absurd z ∅,λz=>by cases z⟩
   obtain⟨f0,hf0⟩ : ∃f0,f0=oi c0 ((its.take i).map mT) (wv r):=⟨_,rfl⟩;rw[<-hf0] at tri ⊢;obtain⟨sn,hsn⟩ : ∃sn,sn=qe (fc (kd,nb,mn,b)) (wv r):=⟨_,rfl⟩;have tsn:Ap sn:=by rw[hsn];exact zz _ _
   have enx:oi c0 ((its.take (i+1)).map mT) (wv r)=f0*sn^mn:=by
    rw[Yw,hc];show oi c0 ((its.take i++[(kd,nb,mn,b)]).map mT) (wv r)=_;rw[Yq];show oi c0 (_++[mT (kd,nb,mn,b)]) (wv r)=_;rw[uE,<-hf0,hsn];rfl
   refine aT.gen λM1 hM1=>?_;symm
   refine hM1 _ _ ?_;refine aT.gen λM2 hM2=>?_;have k2:∀(s:Int)(o7:Option V)(H3:Hp),ay (vw K H2) (vw K H3)->(kd≠1->s=sn)->M2 [some (.ref xa),some (.ref p),some (.int f0),some (.str (kS kd)),some (.ref na),some (.int mn),some (.int s),o7,o8,o9] H3:=λs o7 H3 S3 hs=>hM2 _ _ ?_
   .symm
    refine⟨rfl,cZ (λz=>?_) (λz=>k2 1 o7 H2 (ay.refl _) λ_=>?_)⟩
    .have k0:=kline.mp z;simp only[iT,kH];refine⟨_,nb,rfl,ru2,fn,bn',λv3 H3 e S3 r3 f3 b3 w3=>⟨v3,_,e,r,rfl,r3,aW.same (S2.trans S3) _ _ hx,b3.mono ∅,br.mono ∅,.inr ⟨_,rfl,_,v3,r,e,rfl,aW.same (S2.trans S3) _ _ hx,r3,br.mono ∅,b3.mono ∅,.inr ⟨_,rfl,?_⟩⟩⟩⟩;refine k2 _ _ H3 S3 λ_=>?_;rw[yM f3 fr',w3,hsn,k0];rfl
    .have n0:kd≠0:=λy=>z (kline.mpr y);have e2:kd=2:=();rw[hsn,e2];rfl
   clear hM2;refine aT.gen λM3 hM3=>?_;have k3:∀(o7 o8:Option V)(H4:Hp),ay (vw K H2) (vw K H4)->M3 [some (.ref xa),some (.ref p),some (.int f0),some (.str (kS kd)),some (.ref na),some (.int mn),some (.int sn),o7,o8,o9] H4:=λo7 o8 H4 S4=>hM3 _ _ ?_
   .symm
    refine⟨rfl,cZ (λz=>?_) (λz=>?_)⟩
    .have k1:=kroot.mp z;have S03:=S2.trans S3;refine⟨_,S03 _ _ hxa,_,eK,_,rfl,_,S03 _ _ hxa,_,i5,∅,λp5 H5 hp5 S5 h5=>?_⟩;simp only[kH];have fa:=AD fr';have ba:Bq 300 ((if r.1<0 then -r.1 else r.1),r.2):=⟨by have:=br.1;unfold Bt at this ⊢;show (if r.1<0 then -r.1 else r.1).natAbs<_;split<;>nofun,br.2⟩
     have rn:=aW.same (S3.trans S5) _ _ ru2;refine⟨_,_,nb,_,rfl,rn,cq h5,bn'.mono ∅,ba.mono ∅,.inr ⟨_,rfl,_,_,_,nb,rfl,cq h5,rn,ba.mono ∅,bn'.mono ∅,.inr ⟨_,rfl,?_⟩⟩⟩;have e:(if IQ nb ((if r.1<0 then -r.1 else r.1),r.2)=true then (1:Int) else 0)-(if IQ ((if r.1<0 then -r.1 else r.1),r.2) nb=true then 1 else 0)=sn:=by
      rw[yM fn fa,Ho fr',hsn,k1];rfl
     rw[e];exact k3 _ _ H5 (S3.trans S5)
    .have:=hs λy=>z (kroot.mpr y);subst this;exact k3 _ _ H3 S3
   clear hM3;symm
   refine⟨(),(),?_⟩;obtain⟨Pw,hPw⟩ : ∃Pw:Nat->St->Hp->Prop,∀j σ H',Pw j σ H' ↔ ∃(o9:Option V),σ=[some (.ref xa),some (.ref p),some (.int (f0*sn^j)),some (.str (kS kd)),some (.ref na),some (.int mn),some (.int sn),o7,o8,o9]/\H'=H4/\Ap (f0*sn^j):=⟨_,λ_ _ _=>Iff.rfl⟩;refine aY (its:=iB 0 _) Pw (λ_ _ _ _ _=>cp) ((hPw _ _ _).mpr ⟨_,by rw[XD,XM],rfl,by rw[XD,XM];exact tri⟩) (λj y σ H5 hj hy pw=>?_) (λσ H5 pw=>?_)
   .obtain⟨o9',rfl,rfl,tj⟩:=(hPw _ _ _).mp pw;symm
    refine⟨cQ tj.bt tsn.bt ∅,?_⟩;have e:f0*sn^j*sn=f0*sn^(j+1):=by rw[YJ,<-XE]
    rw[e];exact (hPw _ _ _).mpr ⟨_,rfl,rfl,by rw[<-e];exact tj.mul tsn⟩
   .obtain⟨o9',rfl,rfl,tj⟩:=(hPw _ _ _).mp pw;rw[dY,XB,<-enx] at tj ⊢;exact (hPv _ _ _).mpr ⟨_,_,_,_,_,_,_,rfl,S2.trans S4,tj⟩
  .obtain⟨o3,o4,o5,o6,o7,o8,o9,rfl,S2,tri⟩:=(hPv _ _ _).mp pv;have e1:its.take ts.length=its:=Xr (by rw[rts.length,Yb];nofun)
   rw[e1,hc0];refine hN2 _ _ ?_;symm
   exact h H2 S2
theorem CW{G:Hp}:∀{ns:List Int},aK G (ns.map D.int) (ns.map V.int)
 | []=>.mk_nil
 | n::ns=>.mk_cons (.mk_int _) CW
theorem uh:∀ms:List (Int×Int),(List.replicate ms.length [V.int 0]).flatten=((ms.map wv).map λ_=>(0:Int)).map V.int
 | []=>rfl
 | m::ms=>by
  rw[YC,Xm,List.flatten_cons,uh ms];rfl
theorem yO:∀ns:List Int,PyData.canLayAll0 (D.pys (ns.map D.int))=true/\PyData.depthAll (D.pys (ns.map D.int))<=2
 | []=>by simp[D.pys,PyData.canLayAll0,PyData.depthAll]
 | n::ns=>by
  obtain⟨h1,h2⟩:=yO ns;simp only[Y4,D.pys,D.py,PyData.canLayAll0,PyData.canLay0,h1,PyData.depthAll,PyData.depth];refine⟨∅,?_⟩;nofun
theorem iY(ns:List Int):(D.lst (ns.map D.int)).cmp:=by
 obtain⟨h1,h2⟩:=yO ns;unfold D.cmp;simp only[D.py,PyData.canLay0,PyData.depth];exact⟨h1,()⟩
def uc(G:Hp)(z:V)(its:List kD)(q:Int×Int):Prop:=∃(p t:Addr)(v:V),z=.ref p/\G p=some (.tup [.ref t,v])/\iz G t (its.map tX)/\aW G (fr q) v/\Fq q/\q.1≠0/\Bq 6 q/\(∀c∈its,sY c)/\(its.map pY).sum<=12/\(its.map qg).sum<=211/\its.length<=5
theorem uc.same{G G':Hp}{z:V}{its:List kD}{q:Int×Int}(h:uc G z its q)(S:ay G G'):uc G' z its q:=by
 obtain⟨p,t,v,e,a,b,c,d⟩:=h;exact⟨p,t,v,e,S _ _ a,b.same S,aW.same S _ _ c,d⟩
theorem DA{its:List kD}(cs:(its.map qg).sum<=211):∀c∈its,c.2.2.1<=100:=λc hc=>by
 have:∀(l:List kD),c∈l->qg c<=(l.map qg).sum:=λl=>by
  induction l with
  | nil=>intro h;cases h
  | cons a l ih =>
   intro h;rw[Y4,List.sum_cons];rcases Yh.mp h with rfl|z
   .nofun
   .have:=ih z;nofun
 have h:=this its hc;have h2:12*c.2.2.1<=qg c:=by
  unfold qg;exact Xg _ ()
 nofun
theorem rQ{its:List kD}(g:kD->Nat)(n:Nat)(h:∀c∈its.take 1,g c<=n):((its.take 1).map g).sum<=n:=by
 cases its with
 | nil=>exact Y3 _
 | cons a its =>
  have:=h a (by simp)
  simpa using this
theorem xQ{G G':Hp}{Pt st:Addr}{qual:Str}(h:dA G Pt qual)(hst:ix G st)(B:gF st G G'):dA G' Pt qual:=by
 obtain⟨x,b,e,z⟩:=hst;exact h.butL e B
def spLaw(K:W.Frag):Sp:=λvs H Q _=>∃(a:Addr)(ns:List Int),vs=[.ref a]/\ky K H a (ns.map V.int)/\ns.length<=63/\dA (vw K H) 393 (C9 "law") /\ ∀H',Q (.bl true) H'
theorem Hg{c CF:Addr}(F:fY K "law" "law" io f fd) (T:iK K mg)(M_:Li K mg base fd c 393)(R_:yS P w K mg base 8)(Z_:Ae K mg CF 1)
  (zCstate:cg P w K mg base "_law_state" ["_law_script", "_law_k"] 2 (oA K)) (zCfactors:cg P w K mg base "_law_factors" ["_law_state_here", "_law_most"] 4 (jV K)) (zCof_factors:cg P w K mg base "_law_of_factors" ["_law_factors_here"] 5 (fL K)) (zCmarks:cg P w K mg base "_law_marks" ["_law_factors_here"] 5 (nV K)) (zCsign_at:cg P w K mg base "_law_sign_at" ["_law_mark", "_law_factors_here"] 5 (jX K)) (C_signs_at:cg P w K mg base "signs_at" ["f", "g"] 6 (gA K)) (CX_signs_at:Co P w K mg base "signs_at" ["f", "g"] 6 (fT CF K)):cj P w K mg base fW 10 f fd ["_law_script"] (spLaw K):=by
 have scN:=AZ.nd;refine F.okM AZ (λvs H Q E h=>?_) (λcdv A outer s H vs Q E hcode hr h=>?_)
 .obtain⟨a,_,rfl,_⟩:=h;rfl
 .obtain⟨a,ns,rfl,hS,hl,hT1,h⟩:=h;refine⟨_,(DC (cL PassesOwn.never rfl (fe rfl T.b_range (aa (az (mv rfl) (by rfl) T.b_max wH (aa af (aa (az (rE rfl) (by rfl) T.b_min AT (aa (az jc (by rfl) T.b_len cC (aa (qv 0) ae)) (aa af ae))) ae))) ae)) (aq (i:=1) scN rfl (·)) (ag (ax (i:=2) scN rfl (·) (av zCstate nofun rfl (aa (qv 0) (aa (qv 1) ae))))
   (ag (pi (i:=3) (j:=4) rfl scN rfl rfl ∅ rfl rfl (aa (av zCfactors nofun rfl (aa (qv 2) (aa af ae))) (aa (av zCfactors nofun rfl (aa (qv 2) (aa af ae))) ae)) rfl)
   (ag (ax (i:=5) scN rfl (·) (aP (aa (aw bY (aE dk (qv 4) af (λ_ _=>rfl)) (jw lD (aE dk (qv 3) af (λ_ _=>rfl)) kX (lc af))) (aa (aE dk (qv 4) af (λ_ _=>rfl)) ae))))
   (ag (ax (i:=6) scN rfl (·) (av zCof_factors nofun rfl (aa (qv 3) ae)))
   (ag (ax (i:=7) scN rfl (·) (av zCmarks nofun rfl (aa (qv 3) ae)))
   (ag (cL PassesOwn.never rfl (bU (aJ (aa (qv 4) (aa (qv 5) (aa (qv 3) (aa (aP (aa (aJ ae) (aa (aE dk (qv 3) af (λ_ _=>rfl)) ae))) ae)))))) (aq (i:=8) scN rfl (·)) (ag (oe (i:=9) (own:=["_law_mark"]) (outs:=["_law_some"]) (ixs:=[8]) scN rfl (·) rfl (bU (qv 7)) rfl ⟨rfl,rfl,rfl,⟨rfl,trivial⟩,rfl,⟨⟨rfl,rfl,rfl,_,rfl⟩,trivial⟩⟩ (λ_ _ _ _=>⟨(aq (i:=0) (show (["_law_mark", "_law_some"]:List Str).Nodup by decide +kernel) rfl (·)),gh,(av zCsign_at nofun rfl (aa (qv 0) (aa (qv 1) ae)))⟩))
   (ag (ax (i:=10) scN rfl (·) (av C_signs_at nofun rfl (aa (qv 6) (aa (av zCof_factors nofun rfl (aa (qv 8) ae)) ae))))
   (aj (dy (QW.pt (Db (mY (tL (az m5 (by rfl) T.b_isinstance be (aa (qv 10) (aa (sX (v:=V.ty "list") rfl T.b_list sO rfl) ae))))) (Db (aN (wM hr.u64) (qv 10) (qv 9) (aR _)) (Ao (aN (AS hr.ul) (fv (own:=["_law_sign"]) (outs:=[]) (ixs:=[]) rfl (bU (qv 10)) rfl ⟨rfl,rfl,rfl,trivial,rfl,trivial⟩ (λ_ _ _ _=>⟨(aq (i:=0) (show (["_law_sign"]:List Str).Nodup by decide +kernel) rfl (·)),(vU (tL (az (show fj _ _ (λxs H Q=>∃x c n,xs=[x,V.ty c]/\pc c/\KH (vw K H) x=some n/\Q (V.bl (qR n c)) H) from m5) (by rfl) T.b_isinstance be (aa (qv 0) (aa (sX (v:=V.ty "bool") rfl T.b_bool DO rfl) ae))))),(qv 0)⟩)) (aJ ae) (aR _)))))) (aj (aI rB)) bC)))))
   (ag (dy (aN (wM hr.u64) (av C_signs_at nofun rfl (aa (qv 6) (aa (aJ ae) ae))) (aw aV (aJ (aa af ae)) (az aU (by rfl) T.b_len cC (aa (qv 7) ae))) (aR _)) (aj (aI rB)) bC)
   (aj (dy (aN (wM hr.u64) (xb (Nl:=["_law_f"]) (ixs:=[6]) (kl:=7) R_ (t8 hcode M_) nofun rfl Z_ ∅ (λ_=>rfl) rfl (xg (sc:=ah io) rfl (by decide +kernel)) rfl (qN (by decide +kernel)) ⟨rfl,rfl⟩ (λ_ _ _ _=>rfl) rfl (λj x hx=>by rcases j with _|j<;>first|(cases hx;exact⟨rfl,_,rfl,rfl⟩)|cases hx) (λ_ _ _ _ _ _ _ hrl=>wj CX_signs_at (hrl.mono ∅) rfl (λ_=>(aa (show QE _ _ (qP K _) from aJ ae) (aa (qv 0) ae))))) (aJ (aa af ae)) (aR _)) (aj (aI rB)) bC))))))))))
   (aj (aI (sZ (vN hr.u64) (xb (Nl:=[]) (ixs:=[]) (kl:=7) R_ (t8 hcode M_) nofun rfl Z_ ∅ (λ_=>rfl) rfl (xg (sc:=ah io) rfl (by decide +kernel)) rfl (qN (by decide +kernel)) ⟨rfl,rfl⟩ (λ_ _ _ _=>rfl) rfl (λj x hx=>by rcases j with j<;>first|(cases hx;exact⟨rfl,_,rfl,rfl⟩)|cases hx) (λ_ _ _ _ _ _ _ hrl=>wj CX_signs_at (hrl.mono ∅) rfl (λ_=>(aa (show QE _ _ (qP K _) from aJ ae) (aa (show QE _ _ (qP K _) from aJ ae) ae))))) (aJ (aa af ae)) (aR _))))),?_⟩
  walk_at"m";obtain⟨X1,hX1⟩ : ∃X1,gB fW P w K mg base ["_law_script", "_law_k", "_law_state_here", "_law_one", "_law_other", "_law_more", "_law_f", "_law_marks_here", "_law_some", "_law_due", "_law_found"] "law" (ah io) f cdv A outer s H E=X1:=⟨_,rfl⟩;have hq:kK X1.nox=C9 "law":=by rw[<-hX1];rfl
  skip
  refine Ay.mk (λσ H2=>∃o1 o2 o3 o4 o5 o6 o7 o8 o9 o10,σ=[some (.ref a),o1,o2,o3,o4,o5,o6,o7,o8,o9,o10]/\dA (vw K H2) 393 (C9 "law")) ?_ ?_
  .symm
   refine⟨_,.inl hS.sq,?_⟩;simp only[Yb];obtain⟨Pv,hPv⟩ : ∃Pv:Nat->St->Hp->Prop,∀k σ H',Pv k σ H' ↔ ∃o1 o2 o3 o4 o5 o6 o7 o8 o9 o10,σ=[some (.ref a),o1,o2,o3,o4,o5,o6,o7,o8,o9,o10]/\tY (vw K H) (vw K H')/\dA (vw K H') 393 (C9 "law"):=⟨_,λ_ _ _=>Iff.rfl⟩;refine⟨by repeat' split<;>nofun,by repeat' split<;>nofun,aY (its:=iB 0 _) Pv (λ_ _ _ _ _=>cp) ((hPv _ _ _).mpr ⟨_,_,_,_,_,_,_,_,_,_,rfl,.rfl,hT1⟩) (λi x σ H1 hi hx pv=>?_) (λσ H1 pv=>?_)⟩
   .obtain⟨o1,o2,o3,o4,o5,o6,o7,o8,o9,o10,rfl,s1,T1⟩:=(hPv _ _ _).mp pv;obtain⟨hi',rfl⟩:=iI hx;refine aT.gen λN1 hN1=>?_;symm
    simp only[oA];symm
    refine⟨⟨i,by simp⟩,⟨ns,hS.smT s1⟩,λst H2 hst0 s2 st2=>hN1 _ _ ?_⟩
    refine aT.gen λN2 hN2=>?_;symm
    simp only[jV];refine⟨st,rfl,st2,λp3 t3 v3 H3 its3 q3 B3 st3 h3 l3 nt3 r3 f3 q30 bq3 ok3 dg3 cs3 bt3 ln3 fs3=>⟨st,rfl,st3,λp4 t4 v4 H4 its4 q4 B4 st4 h4 l4 nt4 r4 f4 q40 bq4 ok4 dg4 cs4 bt4 ln4 fs4=>hN2 _ _ ?_⟩⟩;have np3:p3≠st:=λz=>by
     obtain⟨_,_,e,_⟩:=st3;rw[z,e] at h3;cases h3
    obtain⟨_,_,z3,_⟩:=id st3;have h34:=B4 _ _ np3 h3;have l34:=l3.stBut (fU its3) (qG its3) st3 B4;have r34:=aW.flat_but z3 B4 _ _ (gN _) r3;have FT4:uc (vw K H4) (.ref p4) its4 q4:=⟨p4,t4,v4,rfl,h4,l4,r4,f4,q40,bq4,ok4,(),(),()⟩;have FT3:uc (vw K H4) (.ref p3) its3 q3:=⟨p3,t3,v3,rfl,h34,l34,r34,f3,q30,bq3,ok3,(),(),()⟩;have T4:dA (vw K H4) 393 (C9 "law"):=xQ (xQ (T1.same s2) st2 B3) st3 B4;have s14:tY (vw K H1) (vw K H4):=tY.of λb o e=>B4 _ _ (ak e hst0) (s2.but_trans hst0 B3 _ _ e);clear hN1 hN2;refine aT.gen λN3 hN3=>?_;symm
    obtain⟨xs4,hx4,rx4⟩:=id l4;obtain⟨xs3,hx3,rx3⟩:=id l34;have lx4:xs4.length=its4.length:=by rw[rx4.length,Yb]
    refine⟨_,h4,_,eK,_,h34,_,eK,t3,rfl,xs3,hx3,λl5 H5 hl5 S5 h5=>?_⟩;rw[show ju xs3 none (some 1)=xs3.take 1 from Fi (k:=1)] at h5
    show lV K (V.ref t4) (V.ref l5) H5 _;rw[mw];refine⟨xs4,S5 _ _ hx4,_,h5,?_,λl6 H6 hl6 S6 h6=>⟨_,(S5.trans S6) _ _ h4,_,i5,∅,λp7 H7 hp7 S7 h7=>hN3 _ _ ?_⟩⟩
    .have:1000<=sizeLine:=∅;rw[Yv];nofun
    clear hN3;have S47:=S5.trans (S6.trans S7);have FT7:uc (vw K H7) (.ref p7) (its4++its3.take 1) q4:=by
     refine⟨p7,l6,v4,rfl,h7,⟨_,S7 _ _ h6,?_⟩,aW.same S47 _ _ r4,f4,q40,bq4,λc hc=>?_,?_,?_,?_⟩
     .rw[Yq,List.map_take];exact (rx4.same S47).app ((rx3.same S47).take 1)
     .rcases YK.mp hc with z|z
      .exact ok4 c z
      .exact ok3 c (List.mem_of_mem_take z)
     .have:=rQ pY 4 λc hc=>(fs3 c hc).2;rw[Yq,List.sum_append];nofun
     .have:=rQ qg 54 λc hc=>(fs3 c hc).1;rw[Yq,List.sum_append];nofun
     .rw[Yx,Yv];nofun
    have FT37:=FT3.same S47;have FT47:=FT4.same S47;refine aT.gen λN4 hN4=>?_;symm
    simp only[fL];refine⟨p3,t3,v3,its3,q3,rfl,S47 _ _ h34,l34.same S47,aW.same S47 _ _ r34,f3,q30,bq3,ok3,(),(),(),λd8 H8 fs S8 nd8 l8 f80 lf8 pf8 bf8 dl8 ev8=>hN4 _ _ ?_⟩;refine aT.gen λN5 hN5=>?_;symm
    simp only[nV];have ok3':∀c∈its3,sY c/\c.2.2.2<=100:=λc hc=>⟨ok3 c hc,(ok3 c hc).2.2.2.2.2⟩;have S48:=S47.trans S8;refine⟨p3,t3,v3,its3,rfl,S48 _ _ h34,l34.same S48,ok3',(),λd9 H9 ms S9 nd9 l9 fm9 up9 mk9 lm9=>hN5 _ _ ?_⟩;clear hN4 hN5;obtain⟨l,okl,unl,el,dgl,ml,ll,al,lbl,ale⟩:=rF (its3.map λc=>(mT c,c.2.2.2)) λx hx=>by
     obtain⟨c,hc,rfl⟩:=YX.mp hx;obtain⟨k1,kf,kb,k4,k5,_⟩:=ok3 c hc;refine⟨?_,k5,c.2.1,?_,kf,kb⟩
     .show (fc c).ok;unfold fc;split
      .trivial
      .split
       .exact tV (k4 (by assumption))
       .exact (tV (k4 (by assumption))).1
     .show (fc c).num=wv c.2.1;unfold fc;split
      .rfl
      .split<;>rfl
    have em:(its3.map λc=>(mT c,c.2.2.2)).map (·.1)=its3.map mT:=by rw[List.map_map];rfl
    have es:(its3.map λc=>(mT c,c.2.2.2)).map (λx:(aO×Nat)×Nat=>x.2+2)=its3.map Jm:=by rw[List.map_map];rfl
    rw[em] at el dgl ml;rw[es] at ale;rw[Yb] at ll;have mk':∀y,y∈ms.map wv↔y∈kZ l:=λy=>by
     rw[mk9 y];unfold kZ;rw[List.mem_flatMap,List.mem_flatMap];refine⟨λ⟨q,hq,hy⟩=>?_,λ⟨q,hq,hy⟩=>?_⟩
     .obtain⟨m,hm⟩:=(ml q.1).mpr ⟨q.2,hq⟩;exact⟨_,hm,hy⟩
     .obtain⟨m,hm⟩:=(ml q.1).mp ⟨q.2,hq⟩;exact⟨_,hm,hy⟩
    have d3:=pD its3;have FH:HW fs l:=⟨okl,unl,(),(),⟨wv q3,λx=>by rw[ev8,el]⟩,(),⟨al,lbl,()⟩,λm hm=>by
     obtain⟨q,hq,rfl⟩:=YX.mp ((mk' m).mpr hm);exact⟨q,rfl,fm9 q hq⟩⟩
    have S49:=S48.trans S9;have lf9:fs.length<=9:=by have:=FH.ln;have:=FH.dl;nofun
    have bf9:Pb 185 (cf fs):=bf8.mono ();have FT39:=FT3.same S49;have FT49:=FT4.same S49;have FT79:=FT7.same (S8.trans S9);have l89:=l8.same S9;refine aT.gen λN6 hN6=>?_;symm
    have h39:=S49 _ _ h34;refine⟨Y3 _,λe1 G1 he1 U1 g1=>⟨_,U1 _ _ h39,_,i5,∅,λe2 G2 he2 U2 g2=>⟨∅,λe3 H10 he3 U3 g3=>⟨e3,rfl,⟨_,.of (aF g3)⟩,?_⟩⟩⟩⟩;have U9:=U1.trans (U2.trans U3);have S410:=S49.trans U9;have FTn:uc (vw K H10) (.ref e2) [] q3:=⟨e2,e1,v3,rfl,U3 _ _ g2,⟨[],(U2.trans U3) _ _ g1,.mk_nil⟩,aW.same S410 _ _ r34,f3,q30,bq3,by simp,by simp,by simp,by simp⟩
    have al4:∀z∈[V.ref p4,V.ref p7,V.ref p3,V.ref e2],∃its q,uc (vw K H10) z its q:=λz hz=>by
     simp only[Yh,Xw,or_false] at hz;rcases hz with rfl|rfl|rfl|rfl
     .exact⟨_,_,FT49.same U9⟩
     .exact⟨_,_,FT79.same U9⟩
     .exact⟨_,_,FT39.same U9⟩
     .exact⟨_,_,FTn⟩
    obtain⟨Pw,hPw⟩ : ∃Pw:Nat->St->Hp->Prop,∀j σ H',Pw j σ H' ↔ ∃o8 o9 o10,σ=[some (.ref a),some (.int (0+i)),some (.ref st),some (.ref p3),some (.ref p4),some (.ref p7),some (.ref d8),some (.ref d9),o8,o9,o10]/\ay (vw K H10) (vw K H'):=⟨_,λ_ _ _=>Iff.rfl⟩;have l810:=l89.same U9;have l910:=l9.same U9;refine aY (its:=[V.ref p4,V.ref p7,V.ref p3,V.ref e2]) Pw (λj σ H' _ z=>?_) ((hPw _ _ _).mpr ⟨_,_,_,rfl,.rfl⟩) (λj z σ H11 hj hz pw=>?_) (λσ H11 pw=>?_)
    .obtain⟨_,_,_,_,S'⟩:=(hPw _ _ _).mp z;exact aM (S' _ _ g3)
    .obtain⟨o8,o9,o10,rfl,S11⟩:=(hPw _ _ _).mp pw;obtain⟨its,q,FT⟩:=al4 z (YQ hz);obtain⟨p,t,v,rfl,hp,ht,rv,fq,q0,bq,ok,dg,cs,ln⟩:=FT.same S11;have m100:=DA cs;have okc:∀c∈its,sY c/\c.2.2.1<=100:=λc hc=>⟨ok c hc,m100 c hc⟩;obtain⟨ys,hys,rys⟩:=id (l910.same S11);have lys:ys.length=ms.length:=by rw[rys.length,Yb]
     obtain⟨σ,hσ⟩ : ∃σ:Rat->Int,σ=oi (sg (wv q)) (its.map mT):=⟨_,rfl⟩;refine aT.gen λM1 hM1=>?_;symm
     refine⟨⟨_,.of (aF hys)⟩,λdu H12 hdu S12 h12=>?_⟩;refine bH (its:=ys) (λk zs H'=>ay (vw K H11) (vw K H')/\zs=(((ms.take k).map wv).map σ).map V.int) (λk zs H' _ _ w=>aM (w.1 _ _ hys)) h12 ⟨S12,rfl⟩ (λk x zs H' hk hx h' w=>?_) (λzs H13 h13 w=>?_)
     .obtain⟨w1,rfl⟩:=w;have hk':k<ms.length:=();obtain⟨x',ex,rx'⟩:=rys.at (i:=k) (d:=fr ms[k]) (by rw[Yj,Ya hk'];rfl)
      rw[hx] at ex;cases ex;obtain⟨fm,bm⟩:=fm9 _ (Yp hk');symm
      simp only[jX];refine⟨_,ms[k],p,t,v,its,q,rfl,aW.same w1 _ _ rx',fm,bm,w1 _ _ hp,ht.same w1,aW.same w1 _ _ rv,fq,q0,okc,ln,λH14 S14=>.mk (S14 _ _ h') ?_ λH15 B15 h15=>⟨λb o e=>B15 _ _ (ak e hdu) (S14 _ _ (w1 _ _ e)),?_⟩⟩
      .rw[Yb,Yb,Yb,Yv];have:1000<=sizeLine:=∅;nofun
      .rw[Yw,Ya hk',Yq,Yq,Yq,<-hσ];rfl
     obtain⟨w1,rfl⟩:=w;rw[lys,Y7] at h13;refine hM1 _ _ ?_;clear hM1;refine aT.gen λM2 hM2=>?_;symm
     simp only[fL,gA];refine⟨p,t,v,its,q,rfl,w1 _ _ hp,ht.same w1,aW.same w1 _ _ rv,fq,q0,bq,ok,dg,cs,ln,λg14 H14 gs S14 ng l14 g0 lg pg bg dlg evg=>⟨d8,g14,fs,gs,l,σ,ms.map wv,rfl,((l810.same S11).same w1).same S14,f80,lf9,pf8,bf9,l14,lg,pg,bg.mono (),FH,?_,up9,mk',λfo H15 S15 nfo h15=>hM2 _ _ ?_⟩⟩
     .rw[hσ];refine Ey (λz=>?_) okl (λp hp=>?_) evg
      .have:=dJ.mpr z;rw[FR fq q0] at this;split at this<;>cases this
      .obtain⟨c,hc,rfl⟩:=YX.mp hp;obtain⟨k1,_,_,k4,k5,_⟩:=ok c hc;refine⟨?_,k5⟩;show (fc c).ok;unfold fc;split
       .trivial
       .split
        .exact tV (k4 (by assumption))
        .exact (tV (k4 (by assumption))).1
     clear hM2;have S1115:=w1.trans (S14.trans S15);have du15:=(S14.trans S15) _ _ h13;symm
     have dd:∀{G:Hp}{y:Addr},G y=some (.lst (((ms.map wv).map σ).map V.int))->aW G (.lst (((ms.map wv).map σ).map D.int)) (.ref y):=λe=>.mk_lst e CW;refine⟨"list",by simp only[KH,h15],wK (by simp[qR]) ⟨_,dd h15,_,dd du15,iY _,iY _,?_⟩⟩
     rw[lY (iY _)];refine wK ∅ ⟨⟨_,.of (aF h15)⟩,λn16 H16 hn16 S16 h16=>?_⟩;refine bH (its:=((ms.map wv).map σ).map V.int) (λk zs H'=>ay (vw K H15) (vw K H')/\zs=[]) (λk zs H' _ _ w=>aM (w.1 _ _ h15)) h16 ⟨S16,rfl⟩ (λk x zs H' hk hx h' w=>?_) (λzs H17 h17 w=>?_)
     .obtain⟨w2,rfl⟩:=w;obtain⟨n,hn,rfl⟩:=YX.mp (YQ hx);symm
      exact⟨_,rfl,wK (by simp[qR]) (.mk h' ⟨w2,rfl⟩)⟩
     .obtain⟨w2,rfl⟩:=w;refine⟨Y3 _,λn18 H18 hn18 S18 h18=>⟨n18,rfl,_,S18 _ _ h17,h18,wK (by simp) ?_⟩⟩
      exact (hPw _ _ _).mpr ⟨_,_,_,rfl,S11.trans (S1115.trans (w2.trans S18))⟩
    .obtain⟨o8,o9,o10,rfl,S11⟩:=(hPw _ _ _).mp pw;refine hN6 _ _ ?_;clear hN6;have S411:=S410.trans S11;have T11:=T4.same S411;obtain⟨ys,hys,rys⟩:=id (l910.same S11);have lys:ys.length=ms.length:=by rw[rys.length,Yb]
     refine aT.gen λN7 hN7=>?_;symm
     refine⟨Y3 _,λn12 H12 hn12 S12 h12=>?_⟩;simp only[gA];refine⟨d8,n12,fs,[],l,λ_=>0,ms.map wv,rfl,(l810.same S11).same S12,f80,lf9,pf8,bf9,⟨[],h12,.mk_nil⟩,by simp,⟨by simp,by simp⟩,?_,FH,DJ,up9,mk',λfo H13 S13 nfo h13=>?_⟩
     .exact⟨1,∅,∅,λk=>⟨0,by rw[cD (by simp)];exact xu ∅,gv⟩⟩
     refine⟨∅,λn14 H14 hn14 S14 h14=>⟨ms.length,by simp only[gH,(S12.trans (S13.trans S14)) _ _ hys,lys],?_⟩⟩
     rw[jJ];refine⟨_,h14,(),(),?_,λn15 H15 hn15 S15 h15=>?_⟩
     .have:1000<=sizeLine:=∅;simp;nofun
     have ez:(List.replicate ((ms.length:Nat):Int).toNat [V.int 0]).flatten=((ms.map wv).map λ_=>(0:Int)).map V.int:=by
      rw[XB];exact uh ms
     rw[ez] at h15;have dd:∀{G:Hp}{y:Addr},G y=some (.lst (((ms.map wv).map λ_=>(0:Int)).map V.int))->aW G (.lst (((ms.map wv).map λ_=>(0:Int)).map D.int)) (.ref y):=λe=>.mk_lst e CW;refine⟨_,dd ((S14.trans S15) _ _ h13),_,dd h15,iY _,iY _,?_⟩;rw[lY (iY _)];refine wK ∅ (hN7 _ _ ?_);clear hN7;have S1115:=S12.trans (S13.trans (S14.trans S15));have T15:=T11.same S1115;symm
     simp only[xE,yu];refine⟨T15,λH3' B3' T3'=>⟨_,rfl,?_,λc4 H4' S4' hn4 h4'=>?_⟩⟩
     .symm
      simp only[fT];exact⟨∅,λn5 H5 hn5 S5 h5=>⟨n5,_,rfl,h5,λH' S'=>⟨trivial,trivial,S5.trans S'⟩⟩⟩
     .refine⟨∅,λc5 H5' hn5 S5' h5'=>?_⟩;have d1:aW (vw K H5') (.lst [.int 1]) (.ref c4):=.mk_lst (S5' _ _ h4') (.mk_cons (.mk_int _) .mk_nil);have d2:aW (vw K H5') (.lst [.int 1]) (.ref c5):=.mk_lst h5' (.mk_cons (.mk_int _) .mk_nil);refine⟨_,d1,_,d2,iX 1,iX 1,?_⟩;rw[lY (iX 1)];exact wK ∅ ((hPv _ _ _).mpr ⟨_,_,_,_,_,_,_,_,_,_,rfl,(s1.trans (s14.trans (tY.of (S411.trans S1115)))).trans ((T15.smT B3' T3').trans (tY.of (S4'.trans S5'))),T3'.same (S4'.trans S5')⟩)
   .obtain⟨o1,o2,o3,o4,o5,o6,o7,o8,o9,o10,rfl,s1,T1⟩:=(hPv _ _ _).mp pv;exact⟨⟨o1,o2,o3,o4,o5,o6,o7,o8,o9,o10,rfl⟩,T1⟩
  .rintro σ H2 ⟨o1,o2,o3,o4,o5,o6,o7,o8,o9,o10,rfl,T2⟩;symm
   simp only[xE,yu];refine⟨T2,λH3 B3 T3=>⟨_,rfl,?_,λc4 H4 S4 hn4 h4=>?_⟩⟩
   .symm
    simp only[fT];exact⟨∅,λn5 H5 hn5 S5 h5=>⟨∅,λn6 H6 hn6 S6 h6=>⟨n5,_,rfl,S6 _ _ h5,λH' S'=>⟨trivial,trivial,S5.trans (S6.trans S')⟩⟩⟩⟩
   .refine⟨∅,λc5 H5 hn5 S5 h5=>?_⟩;have d1:aW (vw K H5) (.lst [.int 1]) (.ref c4):=.mk_lst (S5 _ _ h4) (.mk_cons (.mk_int _) .mk_nil);have d2:aW (vw K H5) (.lst [.int 1]) (.ref c5):=.mk_lst h5 (.mk_cons (.mk_int _) .mk_nil);refine⟨_,d1,_,d2,iX 1,iX 1,?_⟩;rw[lY (iX 1)];exact h H5
end
theorem all_mk{l:PySem.W.OpenLaw}{w:World}{K:W.Frag}{h:Heap}{mg:Str->Option Value}{fa f0 f1 f2 f3 f4 f5 f6 f7 f8 f9 f10 f11 f12 f13 f14 f15 f16 f17 f18 f19 f20 f21 f22 f23 f24 f25 f26 f27 f28 f29 f30 f31 f32 f33 f34 f35 f36 f37 f38 f39 f40:Addr}(X:K.In h)(G:h.Ns mainGlobals mg)(hfa:mg "law" = some (.ref fa)) (hst:l.prog.given.tree=none)
  {od0 an0 od1 an1 od2 an2 od3 an3 od4 an4 od5 an5 od6 an6 od7 an7 od8 an8 od9 an9 od10 an10 od11 an11 od12 an12 od13 an13 od14 an14 od15 an15 od16 an16 od17 an17 od18 an18 od19 an19 od20 an20 od21 an21 od22 an22 od23 an23 od24 an24 od25 an25 od26 an26 od27 an27 od28 an28 od29 an29 od30 an30 od31 an31 od32 an32 od33 an33 od34 an34 od35 an35 od36 an36 od37 an37 od38 an38 od39 an39 od40 an40:Option Addr}{sl0 sl1 sl2 sl3 sl4 sl5 sl6 sl7 sl8 sl9 sl10 sl11 sl12 sl13 sl14 sl15 sl16 sl17 sl18 sl19 sl20 sl21 sl22 sl23 sl24 sl25 sl26 sl27 sl28 sl29 sl30 sl31 sl32 sl33 sl34 sl35 sl36 sl37 sl38 sl39 sl40:Array (Option Value)}
  {oc0 kV0 dc0 pm0 cd0 ct0 oc1 kV1 dc1 pm1 cd1 ct1 oc2 kV2 dc2 pm2 cd2 ct2 oc3 kV3 dc3 pm3 cd3 ct3 oc4 kV4 dc4 pm4 cd4 ct4 oc5 kV5 dc5 pm5 cd5 ct5 oc6 kV6 dc6 pm6 cd6 ct6 oc7 kV7 dc7 pm7 cd7 ct7 oc8 kV8 dc8 pm8 cd8 ct8 oc9 kV9 dc9 pm9 cd9 ct9 oc10 kV10 dc10 pm10 cd10 ct10 oc11 kV11 dc11 pm11 cd11 ct11 oc12 kV12 dc12 pm12 cd12 ct12 oc13 kV13 dc13 pm13 cd13 ct13 oc14 kV14 dc14 pm14 cd14 ct14 oc15 kV15 dc15 pm15 cd15 ct15 oc16 kV16 dc16 pm16 cd16 ct16 oc17 kV17 dc17 pm17 cd17 ct17 oc18 kV18 dc18 pm18 cd18 ct18 oc19 kV19 dc19 pm19 cd19 ct19 oc20 kV20 dc20 pm20 cd20 ct20 oc21 kV21 dc21 pm21 cd21 ct21 oc22 kV22 dc22 pm22 cd22 ct22 oc23 kV23 dc23 pm23 cd23 ct23 oc24 kV24 dc24 pm24 cd24 ct24 oc25 kV25 dc25 pm25 cd25 ct25 oc26 kV26 dc26 pm26 cd26 ct26 oc27 kV27 dc27 pm27 cd27 ct27 oc28 kV28 dc28 pm28 cd28 ct28 oc29 kV29 dc29 pm29 cd29 ct29 oc30 kV30 dc30 pm30 cd30 ct30 oc31 kV31 dc31 pm31 cd31 ct31 oc32 kV32 dc32 pm32 cd32 ct32 oc33 kV33 dc33 pm33 cd33 ct33 oc34 kV34 dc34 pm34 cd34 ct34 oc35 kV35 dc35 pm35 cd35 ct35 oc36 kV36 dc36 pm36 cd36 ct36 oc37 kV37 dc37 pm37 cd37 ct37 oc38 kV38 dc38 pm38 cd38 ct38 oc39 kV39 dc39 pm39 cd39 ct39 oc40 kV40 dc40 pm40 cd40 ct40:Value}
  (a0:nsIn K mainGlobals "greatest_divisor" = some (some (.ref f0))) (l0:K.lookup f0=some ⟨oc0,od0,.func (fnOf "greatest_divisor" "greatest_divisor" (aG ci) (aA ci) (ah ci) .none kV0 dc0 pm0 an0 cd0 ct0),sl0⟩) (c0:codeIn K cd0 "greatest_divisor" = true) (k0:keepIn K (.ref f0)=true)
  (a1:nsIn K mainGlobals "sign_of" = some (some (.ref f1))) (l1:K.lookup f1=some ⟨oc1,od1,.func (fnOf "sign_of" "sign_of" (aG gX) (aA gX) (ah gX) .none kV1 dc1 pm1 an1 cd1 ct1),sl1⟩) (c1:codeIn K cd1 "sign_of" = true) (k1:keepIn K (.ref f1)=true)
  (a2:nsIn K mainGlobals "power" = some (some (.ref f2))) (l2:K.lookup f2=some ⟨oc2,od2,.func (fnOf "power" "power" (aG jU) (aA jU) (ah jU) .none kV2 dc2 pm2 an2 cd2 ct2),sl2⟩) (c2:codeIn K cd2 "power" = true) (k2:keepIn K (.ref f2)=true)
  (a3:nsIn K mainGlobals "trimmed" = some (some (.ref f3))) (l3:K.lookup f3=some ⟨oc3,od3,.func (fnOf "trimmed" "trimmed" (aG ii) (aA ii) (ah ii) .none kV3 dc3 pm3 an3 cd3 ct3),sl3⟩) (c3:codeIn K cd3 "trimmed" = true) (k3:keepIn K (.ref f3)=true)
  (a4:nsIn K mainGlobals "lowered" = some (some (.ref f4))) (l4:K.lookup f4=some ⟨oc4,od4,.func (fnOf "lowered" "lowered" (aG hV) (aA hV) (ah hV) .none kV4 dc4 pm4 an4 cd4 ct4),sl4⟩) (c4:codeIn K cd4 "lowered" = true) (k4:keepIn K (.ref f4)=true)
  (a5:nsIn K mainGlobals "wholes_multiplied" = some (some (.ref f5))) (l5:K.lookup f5=some ⟨oc5,od5,.func (fnOf "wholes_multiplied" "wholes_multiplied" (aG b9) (aA b9) (ah b9) .none kV5 dc5 pm5 an5 cd5 ct5),sl5⟩) (c5:codeIn K cd5 "wholes_multiplied" = true) (k5:keepIn K (.ref f5)=true)
  (a6:nsIn K mainGlobals "wholes_slope" = some (some (.ref f6))) (l6:K.lookup f6=some ⟨oc6,od6,.func (fnOf "wholes_slope" "wholes_slope" (aG dE) (aA dE) (ah dE) .none kV6 dc6 pm6 an6 cd6 ct6),sl6⟩) (c6:codeIn K cd6 "wholes_slope" = true) (k6:keepIn K (.ref f6)=true)
  (a7:nsIn K mainGlobals "wholes_at" = some (some (.ref f7))) (l7:K.lookup f7=some ⟨oc7,od7,.func (fnOf "wholes_at" "wholes_at" (aG fH) (aA fH) (ah fH) .none kV7 dc7 pm7 an7 cd7 ct7),sl7⟩) (c7:codeIn K cd7 "wholes_at" = true) (k7:keepIn K (.ref f7)=true)
  (a8:nsIn K mainGlobals "wholes_parted" = some (some (.ref f8))) (l8:K.lookup f8=some ⟨oc8,od8,.func (fnOf "wholes_parted" "wholes_parted" (aG cT) (aA cT) (ah cT) .none kV8 dc8 pm8 an8 cd8 ct8),sl8⟩) (c8:codeIn K cd8 "wholes_parted" = true) (k8:keepIn K (.ref f8)=true)
  (a9:nsIn K mainGlobals "wholes_rests" = some (some (.ref f9))) (l9:K.lookup f9=some ⟨oc9,od9,.func (fnOf "wholes_rests" "wholes_rests" (aG dF) (aA dF) (ah dF) .none kV9 dc9 pm9 an9 cd9 ct9),sl9⟩) (c9:codeIn K cd9 "wholes_rests" = true) (k9:keepIn K (.ref f9)=true)
  (a10:nsIn K mainGlobals "cleared" = some (some (.ref f10))) (l10:K.lookup f10=some ⟨oc10,od10,.func (fnOf "cleared" "cleared" (aG gY) (aA gY) (ah gY) .none kV10 dc10 pm10 an10 cd10 ct10),sl10⟩) (c10:codeIn K cd10 "cleared" = true) (k10:keepIn K (.ref f10)=true)
  (a11:nsIn K mainGlobals "refuse_nought" = some (some (.ref f11))) (l11:K.lookup f11=some ⟨oc11,od11,.func (fnOf "refuse_nought" "refuse_nought" (aG cx) (aA cx) (ah cx) .none kV11 dc11 pm11 an11 cd11 ct11),sl11⟩) (c11:codeIn K cd11 "refuse_nought" = true) (k11:keepIn K (.ref f11)=true)
  (a12:nsIn K mainGlobals "signed_chain" = some (some (.ref f12))) (l12:K.lookup f12=some ⟨oc12,od12,.func (fnOf "signed_chain" "signed_chain" (aG dI) (aA dI) (ah dI) .none kV12 dc12 pm12 an12 cd12 ct12),sl12⟩) (c12:codeIn K cd12 "signed_chain" = true) (k12:keepIn K (.ref f12)=true)
  (a13:nsIn K mainGlobals "parted_chain" = some (some (.ref f13))) (l13:K.lookup f13=some ⟨oc13,od13,.func (fnOf "parted_chain" "parted_chain" (aG dH) (aA dH) (ah dH) .none kV13 dc13 pm13 an13 cd13 ct13),sl13⟩) (c13:codeIn K cd13 "parted_chain" = true) (k13:keepIn K (.ref f13)=true)
  (a14:nsIn K mainGlobals "counting_chain" = some (some (.ref f14))) (l14:K.lookup f14=some ⟨oc14,od14,.func (fnOf "counting_chain" "counting_chain" (aG cJ) (aA cJ) (ah cJ) .none kV14 dc14 pm14 an14 cd14 ct14),sl14⟩) (c14:codeIn K cd14 "counting_chain" = true) (k14:keepIn K (.ref f14)=true)
  (a15:nsIn K mainGlobals "leaning_chain" = some (some (.ref f15))) (l15:K.lookup f15=some ⟨oc15,od15,.func (fnOf "leaning_chain" "leaning_chain" (aG cS) (aA cS) (ah cS) .none kV15 dc15 pm15 an15 cd15 ct15),sl15⟩) (c15:codeIn K cd15 "leaning_chain" = true) (k15:keepIn K (.ref f15)=true)
  (a16:nsIn K mainGlobals "signs_of" = some (some (.ref f16))) (l16:K.lookup f16=some ⟨oc16,od16,.func (fnOf "signs_of" "signs_of" (aG gi) (aA gi) (ah gi) .none kV16 dc16 pm16 an16 cd16 ct16),sl16⟩) (c16:codeIn K cd16 "signs_of" = true) (k16:keepIn K (.ref f16)=true)
  (a17:nsIn K mainGlobals "signs_far" = some (some (.ref f17))) (l17:K.lookup f17=some ⟨oc17,od17,.func (fnOf "signs_far" "signs_far" (aG fI) (aA fI) (ah fI) .none kV17 dc17 pm17 an17 cd17 ct17),sl17⟩) (c17:codeIn K cd17 "signs_far" = true) (k17:keepIn K (.ref f17)=true)
  (a18:nsIn K mainGlobals "changes" = some (some (.ref f18))) (l18:K.lookup f18=some ⟨oc18,od18,.func (fnOf "changes" "changes" (aG ig) (aA ig) (ah ig) .none kV18 dc18 pm18 an18 cd18 ct18),sl18⟩) (c18:codeIn K cd18 "changes" = true) (k18:keepIn K (.ref f18)=true)
  (a19:nsIn K mainGlobals "root_bound" = some (some (.ref f19))) (l19:K.lookup f19=some ⟨oc19,od19,.func (fnOf "root_bound" "root_bound" (aG fh) (aA fh) (ah fh) .none kV19 dc19 pm19 an19 cd19 ct19),sl19⟩) (c19:codeIn K cd19 "root_bound" = true) (k19:keepIn K (.ref f19)=true)
  (a20:nsIn K mainGlobals "places" = some (some (.ref f20))) (l20:K.lookup f20=some ⟨oc20,od20,.func (fnOf "places" "places" (aG i7) (aA i7) (ah i7) .none kV20 dc20 pm20 an20 cd20 ct20),sl20⟩) (c20:codeIn K cd20 "places" = true) (k20:keepIn K (.ref f20)=true)
  (a21:nsIn K mainGlobals "sign_there" = some (some (.ref f21))) (l21:K.lookup f21=some ⟨oc21,od21,.func (fnOf "sign_there" "sign_there" (aG fg) (aA fg) (ah fg) .none kV21 dc21 pm21 an21 cd21 ct21),sl21⟩) (c21:codeIn K cd21 "sign_there" = true) (k21:keepIn K (.ref f21)=true)
  (a22:nsIn K mainGlobals "signs_at" = some (some (.ref f22))) (l22:K.lookup f22=some ⟨oc22,od22,.func (fnOf "signs_at" "signs_at" (aG fG) (aA fG) (ah fG) .none kV22 dc22 pm22 an22 cd22 ct22),sl22⟩) (c22:codeIn K cd22 "signs_at" = true) (k22:keepIn K (.ref f22)=true)
  (a23:nsIn K mainGlobals "_law_cell_at" = some (some (.ref f23))) (l23:K.lookup f23=some ⟨oc23,od23,.func (fnOf "_law_cell_at" "_law_cell_at" (aG gZ) (aA gZ) (ah gZ) .none kV23 dc23 pm23 an23 cd23 ct23),sl23⟩) (c23:codeIn K cd23 "_law_cell_at" = true) (k23:keepIn K (.ref f23)=true)
  (a24:nsIn K mainGlobals "_law_state" = some (some (.ref f24))) (l24:K.lookup f24=some ⟨oc24,od24,.func (fnOf "_law_state" "_law_state" (aG jT) (aA jT) (ah jT) .none kV24 dc24 pm24 an24 cd24 ct24),sl24⟩) (c24:codeIn K cd24 "_law_state" = true) (k24:keepIn K (.ref f24)=true)
  (a25:nsIn K mainGlobals "_law_take" = some (some (.ref f25))) (l25:K.lookup f25=some ⟨oc25,od25,.func (fnOf "_law_take" "_law_take" (aG mD) (aA mD) (ah mD) .none kV25 dc25 pm25 an25 cd25 ct25),sl25⟩) (c25:codeIn K cd25 "_law_take" = true) (k25:keepIn K (.ref f25)=true)
  (a26:nsIn K mainGlobals "_law_divisor" = some (some (.ref f26))) (l26:K.lookup f26=some ⟨oc26,od26,.func (fnOf "_law_divisor" "_law_divisor" (aG ij) (aA ij) (ah ij) .none kV26 dc26 pm26 an26 cd26 ct26),sl26⟩) (c26:codeIn K cd26 "_law_divisor" = true) (k26:keepIn K (.ref f26)=true)
  (a27:nsIn K mainGlobals "_law_low" = some (some (.ref f27))) (l27:K.lookup f27=some ⟨oc27,od27,.func (fnOf "_law_low" "_law_low" (aG rN) (aA rN) (ah rN) .none kV27 dc27 pm27 an27 cd27 ct27),sl27⟩) (c27:codeIn K cd27 "_law_low" = true) (k27:keepIn K (.ref f27)=true)
  (a28:nsIn K mainGlobals "_law_small" = some (some (.ref f28))) (l28:K.lookup f28=some ⟨oc28,od28,.func (fnOf "_law_small" "_law_small" (aG jS) (aA jS) (ah jS) .none kV28 dc28 pm28 an28 cd28 ct28),sl28⟩) (c28:codeIn K cd28 "_law_small" = true) (k28:keepIn K (.ref f28)=true)
  (a29:nsIn K mainGlobals "_law_factors" = some (some (.ref f29))) (l29:K.lookup f29=some ⟨oc29,od29,.func (fnOf "_law_factors" "_law_factors" (aG hZ) (aA hZ) (ah hZ) .none kV29 dc29 pm29 an29 cd29 ct29),sl29⟩) (c29:codeIn K cd29 "_law_factors" = true) (k29:keepIn K (.ref f29)=true)
  (a30:nsIn K mainGlobals "_law_clean" = some (some (.ref f30))) (l30:K.lookup f30=some ⟨oc30,od30,.func (fnOf "_law_clean" "_law_clean" (aG j8) (aA j8) (ah j8) .none kV30 dc30 pm30 an30 cd30 ct30),sl30⟩) (c30:codeIn K cd30 "_law_clean" = true) (k30:keepIn K (.ref f30)=true)
  (a31:nsIn K mainGlobals "_law_plus" = some (some (.ref f31))) (l31:K.lookup f31=some ⟨oc31,od31,.func (fnOf "_law_plus" "_law_plus" (aG mx) (aA mx) (ah mx) .none kV31 dc31 pm31 an31 cd31 ct31),sl31⟩) (c31:codeIn K cd31 "_law_plus" = true) (k31:keepIn K (.ref f31)=true)
  (a32:nsIn K mainGlobals "_law_times" = some (some (.ref f32))) (l32:K.lookup f32=some ⟨oc32,od32,.func (fnOf "_law_times" "_law_times" (aG j6) (aA j6) (ah j6) .none kV32 dc32 pm32 an32 cd32 ct32),sl32⟩) (c32:codeIn K cd32 "_law_times" = true) (k32:keepIn K (.ref f32)=true)
  (a33:nsIn K mainGlobals "_law_multiplied" = some (some (.ref f33))) (l33:K.lookup f33=some ⟨oc33,od33,.func (fnOf "_law_multiplied" "_law_multiplied" (aG eX) (aA eX) (ah eX) .none kV33 dc33 pm33 an33 cd33 ct33),sl33⟩) (c33:codeIn K cd33 "_law_multiplied" = true) (k33:keepIn K (.ref f33)=true)
  (a34:nsIn K mainGlobals "_law_of_factors" = some (some (.ref f34))) (l34:K.lookup f34=some ⟨oc34,od34,.func (fnOf "_law_of_factors" "_law_of_factors" (aG eZ) (aA eZ) (ah eZ) .none kV34 dc34 pm34 an34 cd34 ct34),sl34⟩) (c34:codeIn K cd34 "_law_of_factors" = true) (k34:keepIn K (.ref f34)=true)
  (a35:nsIn K mainGlobals "_law_signed" = some (some (.ref f35))) (l35:K.lookup f35=some ⟨oc35,od35,.func (fnOf "_law_signed" "_law_signed" (aG i9) (aA i9) (ah i9) .none kV35 dc35 pm35 an35 cd35 ct35),sl35⟩) (c35:codeIn K cd35 "_law_signed" = true) (k35:keepIn K (.ref f35)=true)
  (a36:nsIn K mainGlobals "_law_less" = some (some (.ref f36))) (l36:K.lookup f36=some ⟨oc36,od36,.func (fnOf "_law_less" "_law_less" (aG mW) (aA mW) (ah mW) .none kV36 dc36 pm36 an36 cd36 ct36),sl36⟩) (c36:codeIn K cd36 "_law_less" = true) (k36:keepIn K (.ref f36)=true)
  (a37:nsIn K mainGlobals "_law_marks" = some (some (.ref f37))) (l37:K.lookup f37=some ⟨oc37,od37,.func (fnOf "_law_marks" "_law_marks" (aG kg) (aA kg) (ah kg) .none kV37 dc37 pm37 an37 cd37 ct37),sl37⟩) (c37:codeIn K cd37 "_law_marks" = true) (k37:keepIn K (.ref f37)=true)
  (a38:nsIn K mainGlobals "_law_refused" = some (some (.ref f38))) (l38:K.lookup f38=some ⟨oc38,od38,.func (fnOf "_law_refused" "_law_refused" (aG ie) (aA ie) (ah ie) .none kV38 dc38 pm38 an38 cd38 ct38),sl38⟩) (c38:codeIn K cd38 "_law_refused" = true) (k38:keepIn K (.ref f38)=true)
  (a39:nsIn K mainGlobals "_law_sign_at" = some (some (.ref f39))) (l39:K.lookup f39=some ⟨oc39,od39,.func (fnOf "_law_sign_at" "_law_sign_at" (aG gW) (aA gW) (ah gW) .none kV39 dc39 pm39 an39 cd39 ct39),sl39⟩) (c39:codeIn K cd39 "_law_sign_at" = true) (k39:keepIn K (.ref f39)=true)
  (a40:nsIn K mainGlobals "law" = some (some (.ref f40))) (l40:K.lookup f40=some ⟨oc40,od40,.func (fnOf "law" "law" (aG io) (aA io) (ah io) .none kV40 dc40 pm40 an40 cd40 ct40),sl40⟩) (c40:codeIn K cd40 "law" = true) (k40:keepIn K (.ref f40)=true)
  (z0:nsIn K mainGlobals "abs" = some none)
  (z1:nsIn K mainGlobals "range" = some none)
  (z2:nsIn K mainGlobals "len" = some none)
  (z3:nsIn K mainGlobals "enumerate" = some none)
  (z4:nsIn K mainGlobals "reversed" = some none)
  (z5:nsIn K mainGlobals "max" = some none)
  (z6:nsIn K mainGlobals "list" = some none)
  (z7:nsIn K mainGlobals "min" = some none)
  (z8:nsIn K mainGlobals "isinstance" = some none)
  (z9:nsIn K mainGlobals "ValueError" = some none)
  (z10:nsIn K mainGlobals "int" = some none)
  (z11:nsIn K mainGlobals "bool" = some none)
  {e0 e1 e2 e3 e4 e5 e6 e7 e8 em:Addr}
  (n0:nsIn K mainGlobals "NoFraction" = some (some (.ref e0)))
  (n1:nsIn K mainGlobals "NoPolynomial" = some (some (.ref e1)))
  (n2:nsIn K mainGlobals "NoSums" = some (some (.ref e2)))
  (n3:nsIn K mainGlobals "NoFlock" = some (some (.ref e3)))
  (n4:nsIn K mainGlobals "NoWalk" = some (some (.ref e4)))
  (n5:nsIn K mainGlobals "NoSum" = some (some (.ref e5)))
  (n6:nsIn K mainGlobals "NoDeed" = some (some (.ref e6)))
  (n7:nsIn K mainGlobals "NoText" = some (some (.ref e7)))
  (n8:nsIn K mainGlobals "NoRow" = some (some (.ref e8)))
  (nm:nsIn K mainGlobals "MomentError" = some (some (.ref em))) (xo:u8 K e1)
  (q0:PySem.W.kitOne K (.ref e1) (.ref e0)=some false)
  (q1:PySem.W.kitOne K (.ref e1) (.ref e1)=some true)
  (q2:PySem.W.kitOne K (.ref e1) (.ref e2)=some false)
  (q3:PySem.W.kitOne K (.ref e1) (.ref e3)=some false)
  (q4:PySem.W.kitOne K (.ref e1) (.ref e4)=some false)
  (q5:PySem.W.kitOne K (.ref e1) (.ref e5)=some false)
  (q6:PySem.W.kitOne K (.ref e1) (.ref e6)=some false)
  (q7:PySem.W.kitOne K (.ref e1) (.ref e7)=some false)
  (q8:PySem.W.kitOne K (.ref e1) (.ref e8)=some false)
  (qm:PySem.W.exmOne K (.ref e1) (.ref em)=some true)(qv:PySem.W.kitOne K (.ref e1) (.type "ValueError")=some true)
  (y1:PySem.W.findIn K (.ref e1) "__getattribute__" = some (some (.builtin "BaseException.__getattribute__"))) (y2:PySem.W.findIn K (.ref e1) "__getattr__" = some none) (y3:PySem.W.findIn K (.ref e1) "__class__" = some (some (.builtin "object.__class__")))
  (y4:PySem.W.mroIn K e1 (.type "object")=some true) (y5:PySem.W.mroIn K e1 (.type "BaseException")=some true) (y6:(PySem.W.clsIn K e1).isSome=true)
  (m40:cd40=.ref 395)(o40:PySem.W.codeHdIn K 395 393=true)
  : ∃fd:FuncData,(∀(s:Shared)(v:Value),BindsTo s fd ⟨[v],[]⟩ [("_law_script",v)]) /\ ∀base:Heap,K.In base->base.Ns mainGlobals mg->vX mg base->base.NoSeer->cj l.prog w K mg base fW 10 fa fd ["_law_script"] (spLaw K):=by
 have e:=hfa.symm.trans (Ym X G a40);cases e;have T:iK K mg:=⟨trivial,Y8 X G z0,Y8 X G z1,Y8 X G z2,Y8 X G z3,Y8 X G z4,Y8 X G z5,Y8 X G z6,Y8 X G z7,Y8 X G z8,Y8 X G z9,Y8 X G z10,Y8 X G z11⟩;have Z_:Ae K mg e1 1:=by
  refine⟨⟨y1,y2,y3,y4,y5,y6⟩,λj n hn=>?_,⟨em,Ym X G nm,qm⟩,qv⟩;rcases j with _|_|_|_|_|_|_|_|_|j
  .cases hn;exact⟨e0,Ym X G n0,q0⟩
  .cases hn;exact⟨e1,Ym X G n1,q1⟩
  .cases hn;exact⟨e2,Ym X G n2,q2⟩
  .cases hn;exact⟨e3,Ym X G n3,q3⟩
  .cases hn;exact⟨e4,Ym X G n4,q4⟩
  .cases hn;exact⟨e5,Ym X G n5,q5⟩
  .cases hn;exact⟨e6,Ym X G n6,q6⟩
  .cases hn;exact⟨e7,Ym X G n7,q7⟩
  .cases hn;exact⟨e8,Ym X G n8,q8⟩
  .cases hn
 refine⟨fnOf "law" "law" (aG io) (aA io) (ah io) .none kV40 dc40 pm40 an40 cd40 ct40,λs v=>.of_eq rfl,λbase kb nb hB hSe=>?_⟩;have N_:qu l.prog base:=⟨hSe,hst⟩;have F_greatest_divisor:=aQ (st:=ci) l0 c0 k0;have C_greatest_divisor:cg l.prog w K mg base "greatest_divisor" ["one", "other"] 1 (bZ K):=⟨_,_,ki F_greatest_divisor T ,Ym X G a0,k0,(F_greatest_divisor.binds λ_ _ _ _ _ _ us hl=>di (g:=λus=>bindArgs _ ⟨us,[]⟩) (z:=λus=>pure (List.zip _ us)) us hl λ_ _=>rfl)⟩;have F_sign_of:=aQ (st:=gX) l1 c1 k1;have C_sign_of:cg l.prog w K mg base "sign_of" ["whole"] 1 (bQ K):=⟨_,_,vG F_sign_of T ,Ym X G a1,k1,(F_sign_of.binds λ_ _ _ _ _ _ us hl=>eU (g:=λus=>bindArgs _ ⟨us,[]⟩) (z:=λus=>pure (List.zip _ us)) us hl λ_=>rfl)⟩;have F_power:=aQ (st:=jU) l2 c2 k2;have C_power:cg l.prog w K mg base "power" ["base", "many"] 1 (kU K):=⟨_,_,AN F_power T ,Ym X G a2,k2,(F_power.binds λ_ _ _ _ _ _ us hl=>di (g:=λus=>bindArgs _ ⟨us,[]⟩) (z:=λus=>pure (List.zip _ us)) us hl λ_ _=>rfl)⟩;have F_trimmed:=aQ (st:=ii) l3 c3 k3;have C_trimmed:cg l.prog w K mg base "trimmed" ["numbers", "zero"] 1 (jl K):=⟨_,_,v7 F_trimmed T ,Ym X G a3,k3,(F_trimmed.binds λ_ _ _ _ _ _ us hl=>di (g:=λus=>bindArgs _ ⟨us,[]⟩) (z:=λus=>pure (List.zip _ us)) us hl λ_ _=>rfl)⟩;have F_lowered:=aQ (st:=hV) l4 c4 k4;have C_lowered:cg l.prog w K mg base "lowered" ["wholes"] 2 (dN K):=⟨_,_,wU F_lowered T (N_:=N_) (C_greatest_divisor:=C_greatest_divisor),Ym X G a4,k4,(F_lowered.binds λ_ _ _ _ _ _ us hl=>eU (g:=λus=>bindArgs _ ⟨us,[]⟩) (z:=λus=>pure (List.zip _ us)) us hl λ_=>rfl)⟩;have F_wholes_multiplied:=aQ (st:=b9) l5 c5 k5;have C_wholes_multiplied:cg l.prog w K mg base "wholes_multiplied" ["one", "other"] 1 (cX K):=⟨_,_,jN F_wholes_multiplied T ,Ym X G a5,k5,(F_wholes_multiplied.binds λ_ _ _ _ _ _ us hl=>di (g:=λus=>bindArgs _ ⟨us,[]⟩) (z:=λus=>pure (List.zip _ us)) us hl λ_ _=>rfl)⟩;have F_wholes_slope:=aQ (st:=dE) l6 c6 k6;have C_wholes_slope:cg l.prog w K mg base "wholes_slope" ["wholes"] 1 (fw K):=⟨_,_,nQ F_wholes_slope T ,Ym X G a6,k6,(F_wholes_slope.binds λ_ _ _ _ _ _ us hl=>eU (g:=λus=>bindArgs _ ⟨us,[]⟩) (z:=λus=>pure (List.zip _ us)) us hl λ_=>rfl)⟩;have F_wholes_at:=aQ (st:=fH) l7 c7 k7;have C_wholes_at:cg l.prog w K mg base "wholes_at" ["wholes", "top", "bottom"] 1 (cE K):=⟨_,_,tM F_wholes_at T ,Ym X G a7,k7,(F_wholes_at.binds λ_ _ _ _ _ _ us hl=>rZ (g:=λus=>bindArgs _ ⟨us,[]⟩) (z:=λus=>pure (List.zip _ us)) us hl λ_ _ _=>rfl)⟩;have F_wholes_parted:=aQ (st:=cT) l8 c8 k8;have C_wholes_parted:cg l.prog w K mg base "wholes_parted" ["one", "other"] 2 (bT K):=⟨_,_,mL F_wholes_parted T (N_:=N_) (C_trimmed:=C_trimmed),Ym X G a8,k8,(F_wholes_parted.binds λ_ _ _ _ _ _ us hl=>di (g:=λus=>bindArgs _ ⟨us,[]⟩) (z:=λus=>pure (List.zip _ us)) us hl λ_ _=>rfl)⟩;have F_wholes_rests:=aQ (st:=dF) l9 c9 k9;have C_wholes_rests:cg l.prog w K mg base "wholes_rests" ["one", "other"] 3 (fA K):=⟨_,_,nI F_wholes_rests T (N_:=N_) (C_power:=C_power) (C_wholes_parted:=C_wholes_parted),Ym X G a9,k9,(F_wholes_rests.binds λ_ _ _ _ _ _ us hl=>di (g:=λus=>bindArgs _ ⟨us,[]⟩) (z:=λus=>pure (List.zip _ us)) us hl λ_ _=>rfl)⟩;have F_cleared:=aQ (st:=gY) l10 c10 k10;have C_cleared:cg l.prog w K mg base "cleared" ["f"] 2 (fF K):=⟨_,_,v6 F_cleared T (N_:=N_) (C_greatest_divisor:=C_greatest_divisor),Ym X G a10,k10,(F_cleared.binds λ_ _ _ _ _ _ us hl=>eU (g:=λus=>bindArgs _ ⟨us,[]⟩) (z:=λus=>pure (List.zip _ us)) us hl λ_=>rfl)⟩;have F_refuse_nought:=aQ (st:=cx) l11 c11 k11;have C_refuse_nought:cg l.prog w K mg base "refuse_nought" ["f"] 1 (dL K):=⟨_,_,mC F_refuse_nought T ,Ym X G a11,k11,(F_refuse_nought.binds λ_ _ _ _ _ _ us hl=>eU (g:=λus=>bindArgs _ ⟨us,[]⟩) (z:=λus=>pure (List.zip _ us)) us hl λ_=>rfl)⟩;have CX_refuse_nought:Co l.prog w K mg base "refuse_nought" ["f"] 1 (eJ e1 K):=⟨_,_,ly F_refuse_nought T xo (Ym X G n1) ,Ym X G a11,k11,(F_refuse_nought.binds λ_ _ _ _ _ _ us hl=>eU (g:=λus=>bindArgs _ ⟨us,[]⟩) (z:=λus=>pure (List.zip _ us)) us hl λ_=>rfl)⟩;have F_signed_chain:=aQ (st:=dI) l12 c12 k12;have C_signed_chain:cg l.prog w K mg base "signed_chain" ["one", "other"] 4 (cR K):=⟨_,_,nK F_signed_chain T (C_wholes_rests:=C_wholes_rests) (C_sign_of:=C_sign_of),Ym X G a12,k12,(F_signed_chain.binds λ_ _ _ _ _ _ us hl=>di (g:=λus=>bindArgs _ ⟨us,[]⟩) (z:=λus=>pure (List.zip _ us)) us hl λ_ _=>rfl)⟩
 have F_parted_chain:=aQ (st:=dH) l13 c13 k13;have C_parted_chain:cg l.prog w K mg base "parted_chain" ["lists"] 3 (ce K):=⟨_,_,nN F_parted_chain T (C_wholes_parted:=C_wholes_parted) (C_lowered:=C_lowered),Ym X G a13,k13,(F_parted_chain.binds λ_ _ _ _ _ _ us hl=>eU (g:=λus=>bindArgs _ ⟨us,[]⟩) (z:=λus=>pure (List.zip _ us)) us hl λ_=>rfl)⟩;have F_counting_chain:=aQ (st:=cJ) l14 c14 k14;have C_counting_chain:cg l.prog w K mg base "counting_chain" ["f"] 5 (cV K):=⟨_,_,kY F_counting_chain T (C_parted_chain:=C_parted_chain) (C_signed_chain:=C_signed_chain) (C_lowered:=C_lowered) (C_wholes_slope:=C_wholes_slope) (C_cleared:=C_cleared),Ym X G a14,k14,(F_counting_chain.binds λ_ _ _ _ _ _ us hl=>eU (g:=λus=>bindArgs _ ⟨us,[]⟩) (z:=λus=>pure (List.zip _ us)) us hl λ_=>rfl)⟩;have F_leaning_chain:=aQ (st:=cS) l15 c15 k15;have C_leaning_chain:cg l.prog w K mg base "leaning_chain" ["wholes", "inclines", "g"] 5 (cH K):=⟨_,_,mF F_leaning_chain T (C_signed_chain:=C_signed_chain) (C_lowered:=C_lowered) (C_sign_of:=C_sign_of) (C_wholes_parted:=C_wholes_parted) (C_wholes_multiplied:=C_wholes_multiplied),Ym X G a15,k15,(F_leaning_chain.binds λ_ _ _ _ _ _ us hl=>rZ (g:=λus=>bindArgs _ ⟨us,[]⟩) (z:=λus=>pure (List.zip _ us)) us hl λ_ _ _=>rfl)⟩;have F_signs_of:=aQ (st:=gi) l16 c16 k16;have C_signs_of:cg l.prog w K mg base "signs_of" ["lists", "top", "bottom"] 2 (eT K):=⟨_,_,uA F_signs_of T (C_sign_of:=C_sign_of) (C_wholes_at:=C_wholes_at),Ym X G a16,k16,(F_signs_of.binds λ_ _ _ _ _ _ us hl=>rZ (g:=λus=>bindArgs _ ⟨us,[]⟩) (z:=λus=>pure (List.zip _ us)) us hl λ_ _ _=>rfl)⟩;have F_signs_far:=aQ (st:=fI) l17 c17 k17;have C_signs_far:cg l.prog w K mg base "signs_far" ["lists", "side"] 2 (gQ K):=⟨_,_,sN F_signs_far T (C_sign_of:=C_sign_of),Ym X G a17,k17,(F_signs_far.binds λ_ _ _ _ _ _ us hl=>di (g:=λus=>bindArgs _ ⟨us,[]⟩) (z:=λus=>pure (List.zip _ us)) us hl λ_ _=>rfl)⟩;have F_changes:=aQ (st:=ig) l18 c18 k18;have C_changes:cg l.prog w K mg base "changes" ["signs"] 1 (gg K):=⟨_,_,vV F_changes T ,Ym X G a18,k18,(F_changes.binds λ_ _ _ _ _ _ us hl=>eU (g:=λus=>bindArgs _ ⟨us,[]⟩) (z:=λus=>pure (List.zip _ us)) us hl λ_=>rfl)⟩;have F_root_bound:=aQ (st:=fh) l19 c19 k19;have C_root_bound:cg l.prog w K mg base "root_bound" ["wholes"] 1 (gw K):=⟨_,_,ql F_root_bound T ,Ym X G a19,k19,(F_root_bound.binds λ_ _ _ _ _ _ us hl=>eU (g:=λus=>bindArgs _ ⟨us,[]⟩) (z:=λus=>pure (List.zip _ us)) us hl λ_=>rfl)⟩;have F_places:=aQ (st:=i7) l20 c20 k20;have C_places:cg l.prog w K mg base "places" ["lists"] 3 (i0 K):=⟨_,_,zr F_places T (C_signs_of:=C_signs_of) (C_changes:=C_changes) (C_signs_far:=C_signs_far) (C_root_bound:=C_root_bound),Ym X G a20,k20,(F_places.binds λ_ _ _ _ _ _ us hl=>eU (g:=λus=>bindArgs _ ⟨us,[]⟩) (z:=λus=>pure (List.zip _ us)) us hl λ_=>rfl)⟩;have F_sign_there:=aQ (st:=fg) l21 c21 k21;have C_sign_there:cg l.prog w K mg base "sign_there" ["lists", "g", "place"] 3 (fk K):=⟨_,_,qp F_sign_there T (C_changes:=C_changes) (C_signs_of:=C_signs_of) (C_sign_of:=C_sign_of) (C_wholes_at:=C_wholes_at),Ym X G a21,k21,(F_sign_there.binds λ_ _ _ _ _ _ us hl=>rZ (g:=λus=>bindArgs _ ⟨us,[]⟩) (z:=λus=>pure (List.zip _ us)) us hl λ_ _ _=>rfl)⟩;have F_signs_at:=aQ (st:=fG) l22 c22 k22;have C_signs_at:cg l.prog w K mg base "signs_at" ["f", "g"] 6 (gA K):=⟨_,_,uB F_signs_at T (C_places:=C_places) (C_wholes_at:=C_wholes_at) (C_sign_of:=C_sign_of) (C_sign_there:=C_sign_there) (C_parted_chain:=C_parted_chain) (C_leaning_chain:=C_leaning_chain) (C_cleared:=C_cleared) (C_counting_chain:=C_counting_chain) (C_refuse_nought:=C_refuse_nought),Ym X G a22,k22,(F_signs_at.binds λ_ _ _ _ _ _ us hl=>di (g:=λus=>bindArgs _ ⟨us,[]⟩) (z:=λus=>pure (List.zip _ us)) us hl λ_ _=>rfl)⟩;have CX_signs_at:Co l.prog w K mg base "signs_at" ["f", "g"] 6 (fT e1 K):=⟨_,_,rV F_signs_at T xo (Ym X G n1) (C_places:=C_places) (C_wholes_at:=C_wholes_at) (C_sign_of:=C_sign_of) (C_sign_there:=C_sign_there) (C_parted_chain:=C_parted_chain) (C_leaning_chain:=C_leaning_chain) (C_cleared:=C_cleared) (C_counting_chain:=C_counting_chain) (C_refuse_nought:=C_refuse_nought) (CX_refuse_nought:=CX_refuse_nought),Ym X G a22,k22,(F_signs_at.binds λ_ _ _ _ _ _ us hl=>di (g:=λus=>bindArgs _ ⟨us,[]⟩) (z:=λus=>pure (List.zip _ us)) us hl λ_ _=>rfl)⟩
 have zFcell_at:=aQ (st:=gZ) l23 c23 k23;have zCcell_at:cg l.prog w K mg base "_law_cell_at" ["_law_script", "_law_k"] 1 (kc K):=⟨_,_,zW zFcell_at T ,Ym X G a23,k23,(zFcell_at.binds λ_ _ _ _ _ _ us hl=>di (g:=λus=>bindArgs _ ⟨us,[]⟩) (z:=λus=>pure (List.zip _ us)) us hl λ_ _=>rfl)⟩;have zFstate:=aQ (st:=jT) l24 c24 k24;have zCstate:cg l.prog w K mg base "_law_state" ["_law_script", "_law_k"] 2 (oA K):=⟨_,_,Ek zFstate T (zCcell_at:=zCcell_at),Ym X G a24,k24,(zFstate.binds λ_ _ _ _ _ _ us hl=>di (g:=λus=>bindArgs _ ⟨us,[]⟩) (z:=λus=>pure (List.zip _ us)) us hl λ_ _=>rfl)⟩;have zFtake:=aQ (st:=mD) l25 c25 k25;have zCtake:cg l.prog w K mg base "_law_take" ["_law_state_here", "_law_many"] 1 (mM K):=⟨_,_,GQ zFtake T ,Ym X G a25,k25,(zFtake.binds λ_ _ _ _ _ _ us hl=>di (g:=λus=>bindArgs _ ⟨us,[]⟩) (z:=λus=>pure (List.zip _ us)) us hl λ_ _=>rfl)⟩;have zFdivisor:=aQ (st:=ij) l26 c26 k26;have zCdivisor:cg l.prog w K mg base "_law_divisor" ["_law_one", "_law_other"] 1 (ka K):=⟨_,_,zo zFdivisor T ,Ym X G a26,k26,(zFdivisor.binds λ_ _ _ _ _ _ us hl=>di (g:=λus=>bindArgs _ ⟨us,[]⟩) (z:=λus=>pure (List.zip _ us)) us hl λ_ _=>rfl)⟩;have zFlow:=aQ (st:=rN) l27 c27 k27;have zClow:cg l.prog w K mg base "_law_low" ["_law_top", "_law_bottom"] 2 (m8 K):=⟨_,_,JT zFlow T (N_:=N_) (zCdivisor:=zCdivisor),Ym X G a27,k27,(zFlow.binds λ_ _ _ _ _ _ us hl=>di (g:=λus=>bindArgs _ ⟨us,[]⟩) (z:=λus=>pure (List.zip _ us)) us hl λ_ _=>rfl)⟩;have zFsmall:=aQ (st:=jS) l28 c28 k28;have zCsmall:cg l.prog w K mg base "_law_small" ["_law_state_here"] 3 (lT K):=⟨_,_,D8 zFsmall T (zClow:=zClow) (zCtake:=zCtake),Ym X G a28,k28,(zFsmall.binds λ_ _ _ _ _ _ us hl=>eU (g:=λus=>bindArgs _ ⟨us,[]⟩) (z:=λus=>pure (List.zip _ us)) us hl λ_=>rfl)⟩;have zFplus:=aQ (st:=mx) l31 c31 k31;have zCplus:cg l.prog w K mg base "_law_plus" ["_law_one", "_law_other"] 3 (mJ K):=⟨_,_,Gr zFplus T (zClow:=zClow),Ym X G a31,k31,(zFplus.binds λ_ _ _ _ _ _ us hl=>di (g:=λus=>bindArgs _ ⟨us,[]⟩) (z:=λus=>pure (List.zip _ us)) us hl λ_ _=>rfl)⟩;have zFfactors:=aQ (st:=hZ) l29 c29 k29;have zCfactors:cg l.prog w K mg base "_law_factors" ["_law_state_here", "_law_most"] 4 (jV K):=⟨_,_,Ag zFfactors T (zCsmall:=zCsmall) (zCtake:=zCtake) (zCplus:=zCplus),Ym X G a29,k29,(zFfactors.binds λ_ _ _ _ _ _ us hl=>di (g:=λus=>bindArgs _ ⟨us,[]⟩) (z:=λus=>pure (List.zip _ us)) us hl λ_ _=>rfl)⟩;have zFclean:=aQ (st:=j8) l30 c30 k30;have zCclean:cg l.prog w K mg base "_law_clean" ["_law_numbers"] 1 (ox K):=⟨_,_,E5 zFclean T ,Ym X G a30,k30,(zFclean.binds λ_ _ _ _ _ _ us hl=>eU (g:=λus=>bindArgs _ ⟨us,[]⟩) (z:=λus=>pure (List.zip _ us)) us hl λ_=>rfl)⟩;have zFtimes:=aQ (st:=j6) l32 c32 k32;have zCtimes:cg l.prog w K mg base "_law_times" ["_law_one", "_law_other"] 3 (j7 K):=⟨_,_,EI zFtimes T (zClow:=zClow),Ym X G a32,k32,(zFtimes.binds λ_ _ _ _ _ _ us hl=>di (g:=λus=>bindArgs _ ⟨us,[]⟩) (z:=λus=>pure (List.zip _ us)) us hl λ_ _=>rfl)⟩;have zFmultiplied:=aQ (st:=eX) l33 c33 k33;have zCmultiplied:cg l.prog w K mg base "_law_multiplied" ["_law_f", "_law_g"] 4 (gS K):=⟨_,_,sE zFmultiplied T (zCclean:=zCclean) (zCplus:=zCplus) (zCtimes:=zCtimes),Ym X G a33,k33,(zFmultiplied.binds λ_ _ _ _ _ _ us hl=>di (g:=λus=>bindArgs _ ⟨us,[]⟩) (z:=λus=>pure (List.zip _ us)) us hl λ_ _=>rfl)⟩;have zFof_factors:=aQ (st:=eZ) l34 c34 k34;have zCof_factors:cg l.prog w K mg base "_law_of_factors" ["_law_factors_here"] 5 (fL K):=⟨_,_,tT zFof_factors T (zCmultiplied:=zCmultiplied),Ym X G a34,k34,(zFof_factors.binds λ_ _ _ _ _ _ us hl=>eU (g:=λus=>bindArgs _ ⟨us,[]⟩) (z:=λus=>pure (List.zip _ us)) us hl λ_=>rfl)⟩;have zFsigned:=aQ (st:=i9) l35 c35 k35;have zCsigned:cg l.prog w K mg base "_law_signed" ["_law_x"] 4 (iT K):=⟨_,_,CA zFsigned T (zCtimes:=zCtimes),Ym X G a35,k35,(zFsigned.binds λ_ _ _ _ _ _ us hl=>eU (g:=λus=>bindArgs _ ⟨us,[]⟩) (z:=λus=>pure (List.zip _ us)) us hl λ_=>rfl)⟩;have zFless:=aQ (st:=mW) l36 c36 k36;have zCless:cg l.prog w K mg base "_law_less" ["_law_one", "_law_other"] 1 (kH K):=⟨_,_,Hj zFless T ,Ym X G a36,k36,(zFless.binds λ_ _ _ _ _ _ us hl=>di (g:=λus=>bindArgs _ ⟨us,[]⟩) (z:=λus=>pure (List.zip _ us)) us hl λ_ _=>rfl)⟩
 have zFmarks:=aQ (st:=kg) l37 c37 k37;have zCmarks:cg l.prog w K mg base "_law_marks" ["_law_factors_here"] 5 (nV K):=⟨_,_,EZ zFmarks T (zCless:=zCless) (zCsigned:=zCsigned),Ym X G a37,k37,(zFmarks.binds λ_ _ _ _ _ _ us hl=>eU (g:=λus=>bindArgs _ ⟨us,[]⟩) (z:=λus=>pure (List.zip _ us)) us hl λ_=>rfl)⟩;have zFrefused:=aQ (st:=ie) l38 c38 k38;have R_:yS l.prog w K mg base 8:=⟨_,Ym X G a38,k38,λA outer s H p C i Q hr e0 L Z hi hq=>zp zFrefused T (zFrefused.binds λ_ _ _ _ _ _ us hl=>eU (g:=λus=>bindArgs _ ⟨us,[]⟩) (z:=λus=>pure (List.zip _ us)) us hl λ_=>rfl) hr e0 L Z hi hq⟩;have zFsign_at:=aQ (st:=gW) l39 c39 k39;have zCsign_at:cg l.prog w K mg base "_law_sign_at" ["_law_mark", "_law_factors_here"] 5 (jX K):=⟨_,_,zV zFsign_at T (zCless:=zCless) (zCsigned:=zCsigned),Ym X G a39,k39,(zFsign_at.binds λ_ _ _ _ _ _ us hl=>di (g:=λus=>bindArgs _ ⟨us,[]⟩) (z:=λus=>pure (List.zip _ us)) us hl λ_ _=>rfl)⟩;have M_law:Li K mg base (fnOf "law" "law" (aG io) (aA io) (ah io) .none kV40 dc40 pm40 an40 cd40 ct40) 395 393:=⟨m40,PySem.W.codeHd_of_K kb o40,hB⟩;have F_law:=aQ (st:=io) l40 c40 k40;exact Hg F_law T M_law R_ Z_ (C_signs_at:=C_signs_at) (zCof_factors:=zCof_factors) (zCsign_at:=zCsign_at) (zCmarks:=zCmarks) (zCfactors:=zCfactors) (zCstate:=zCstate) (CX_signs_at:=CX_signs_at)
theorem walk{l:PySem.W.OpenLaw}{q:Program}{loose:List Str}{XP:(Str->Option Value)->Heap->Prop}{YP:World->Heap->Prop}{d:DefRec}{K:Params->W.Frag}(hn:l.most=some 63)(hdf:d.params.defaults=[])(hi:PyProof.Rows.importsNone q=true)
  (hY:∀(w:World)(h:Heap),YP w h->(K w.params).In h /\ ∀q∈([(395,393)]:List (Addr×Addr)),PySem.W.codeHdIn (K w.params) q.1 q.2=true/\(K w.params).lookup q.2=none/\h.get? q.2=some (PySem.W.tabObj #[]))
  (F:∀(w:World)(mg:Str->Option Value)(fa:Addr)(h:Heap),(K w.params).In h->h.Ns mainGlobals mg->mg d.name=some (.ref fa) ->
   ∃fd:FuncData,(∀(s:Shared)(u:Value),BindsTo s fd ⟨[u],[]⟩ [("_law_script",u)]) /\ ∀base:Heap,(K w.params).In base->base.Ns mainGlobals mg->vX mg base->base.NoSeer->cj l.prog w (K w.params) mg base fW 10 fa fd ["_law_script"] (spLaw (K w.params))) :
  PySem.W.WalkO q loose XP YP l.row.toRowW d [] (λf vs=>PySem.call f vs) :=
 L2.walk_ofM (ts:=λ_=>[(395,393)]) (n:=63) (k:=10) (x:="_law_script") (CX:=λ_=>fW) (sp:=λw=>spLaw (K w.params)) hn ∅ hdf ⟨rfl,∅,∅⟩ hi hY F (λ_ _ a ns hl hT hK hS=>⟨a,ns,rfl,.of hS hK,hl,.start (hT (395,393) (by simp)),λ_=>rfl⟩) λ_ _ _ _ _ z=>z
end M
open PySem PySem.W PyProof.Rows
namespace PySem.W.Fast
inductive tw5223205947207161331:Type
inductive tw17666300535222263870:Type
inductive tw7054379619867052130:Type
inductive tw12477047549599795907:Type
inductive tw14069825439449345565:Type
inductive tw10225247695439106577:Type
inductive tw16555650139646581891:Type
inductive tw9764115036666103909:Type
inductive tw17180689178878860637:Type
inductive tw4906917405975889535:Type
inductive tw109945441605413106:Type
inductive tw11887643996520792093:Type
inductive tw5405549977214176148:Type
inductive tw455482601835922351:Type
inductive tw525469836728194592:Type
inductive tw252264459464836610:Type
inductive tw6026210756451662645:Type
inductive tw15695309435439957859:Type
inductive tw6522413987567198832:Type
inductive tw4875837652314046906:Type
inductive tw14469381538940662018:Type
inductive tw11805752635465824024:Type
inductive tw2283851240115808128:Type
inductive tw12686170367548535760:Type
inductive tw18339996742865976522:Type
inductive tw15661770123386447160:Type
inductive tw15611219158440912770:Type
inductive tw2918662585051965215:Type
inductive tw3795781092325784135:Type
inductive tw4065432981646847108:Type
inductive tw10379658018843602604:Type
inductive tw15658062956301841011:Type
inductive tw10565249913977532570:Type
inductive tw7694208810073752348:Type
inductive tw13211852047895398471:Type
inductive tw5968209969736087139:Type
inductive tw13018289290072179126:Type
inductive tw17696924986240279068:Type
inductive tw14225297841690725402:Type
inductive tw12844987105439654917:Type
inductive tw9219912292025996659:Type
inductive tw14745352351116785407:Type
inductive tw9410277800142154769:Type
inductive tw3628305101826348307:Type
inductive tw17139264700592473137:Type
inductive tw17910465485257678277:Type
inductive tw283498156512848237:Type
inductive tw14788574619578056139:Type
inductive tw1461108907231509184:Type
inductive tw4249991654103374131:Type
inductive tw7758563013342540582:Type
inductive tw4215880644894071841:Type
inductive tw15619470227222626917:Type
inductive tw14960509071302138028:Type
inductive tw12656545598055848316:Type
inductive tw314501795515389706:Type
inductive tw1306271977113364252:Type
inductive tw3649109485613710163:Type
inductive tw9016361953057049089:Type
inductive tw14527826949299031243:Type
inductive tw12733512138935120582:Type
inductive tw16131687163793723809:Type
inductive tw3123653816495990611:Type
inductive tw10183605459758180697:Type
inductive tw16424111205733102776:Type
inductive tw15419163674097659967:Type
inductive tw2409001449028575995:Type
inductive tw13786298561098124214:Type
inductive tw15393239127119781303:Type
inductive tw13494710096364124429:Type
inductive tw12028260962268279130:Type
inductive tw13396424389826114149:Type
inductive tw7980252647868986618:Type
inductive tw15683896013746758232:Type
inductive tw16215935562144753544:Type
inductive tw6402150055297924896:Type
inductive tw11844108281338195173:Type
inductive tw16270304883956125260:Type
inductive tw4161761916342779678:Type
inductive tw14510596480214966463:Type
inductive tw11387941799691694980:Type
inductive tw15776424002618835874:Type
inductive tw2159584634163607482:Type
inductive tw16255871828563298386:Type
inductive tw9851560205315700302:Type
inductive tw8492076846120553279:Type
inductive tw11451387531259222304:Type
inductive tw9643094991784220023:Type
inductive tw1783767347010365379:Type
inductive tw3573340325019025109:Type
inductive tw8929012872954381265:Type
inductive tw11289213152675301515:Type
inductive tw6238444541106062362:Type
inductive tw8401303961693506498:Type
inductive tw11791797861271499551:Type
inductive tw11581826264922118858:Type
inductive tw11343169560235685293:Type
inductive tw915592395630786939:Type
inductive tw1773281927368409786:Type
inductive tw3008270683553516297:Type
inductive tw4296050120579494867:Type
inductive tw1863408195228432845:Type
inductive tw17175121880654682877:Type
inductive tw9645556626625814750:Type
inductive tw13764375589837640927:Type
inductive tw14881222162049081688:Type
inductive tw2955463616746007009:Type
inductive tw10237641811194407881:Type
inductive tw2769208960960699430:Type
inductive tw6388660243329952190:Type
inductive tw10976757435934560171:Type
inductive tw7885904387670574825:Type
inductive tw6472953676561670428:Type
inductive tw14561298270528204261:Type
inductive tw414359157651146081:Type
inductive tw18052982505859396140:Type
inductive tw18044935721710643836:Type
inductive tw11271983154353421012:Type
inductive tw16924186733797679142:Type
inductive tw14713137127380612027:Type
inductive tw7016678615848578154:Type
inductive tw4239869876232252151:Type
inductive tw14384219606531667576:Type
inductive tw16115604633232537562:Type
inductive tw11244076853489041152:Type
inductive tw7787253849643054905:Type
inductive tw15893277054137686443:Type
inductive tw14370946414528623733:Type
inductive tw3653020122884401646:Type
inductive tw4914941702357780481:Type
inductive tw5234678270205887553:Type
inductive tw248570021391976017:Type
inductive tw1245889206303783973:Type
inductive tw9934826456883914542:Type
inductive tw6959761659076478482:Type
inductive tw5411996334184745682:Type
inductive tw2839993388795790105:Type
inductive tw2369688772309994244:Type
inductive tw13206808056794542949:Type
inductive tw2192645890414667756:Type
end PySem.W.Fast
set_option maxRecDepth 100000 in
set_option maxHeartbeats 0 in
theorem PySem.Challenge.cw_momentwright_k16_signs_at_roots_holds : PySem.Challenge.rw_momentwright_k16_signs_at_roots.Holds := by
 w_on;o_law;k_head;(case hw=>w_witness2)
 k_fill
 refine M.walk (l:=PySem.Challenge.rw_momentwright_k16_signs_at_roots) rfl rfl ?hi (fun w h Y=>⟨PySem.W.km_in_of Y,?T⟩) ?F
 case hi=>exact (by decide +kernel)
 case T =>
  have hT:=PySem.W.km_tabs_of Y
  intro q hq
  simp only[List.mem_cons,List.not_mem_nil,or_false] at hq
  rcases hq with rfl
  ·exact⟨by kernel_rfl,by kernel_rfl,hT _ (by simp)⟩
 case F =>
  intro w mg fa h KX G hmg
  refine' M.all_mk KX G hmg rfl ?a0 ?l0 ?c0 ?k0 ?a1 ?l1 ?c1 ?k1 ?a2 ?l2 ?c2 ?k2 ?a3 ?l3 ?c3 ?k3 ?a4 ?l4 ?c4 ?k4 ?a5 ?l5 ?c5 ?k5 ?a6 ?l6 ?c6 ?k6 ?a7 ?l7 ?c7 ?k7 ?a8 ?l8 ?c8 ?k8 ?a9 ?l9 ?c9 ?k9 ?a10 ?l10 ?c10 ?k10 ?a11 ?l11 ?c11 ?k11 ?a12 ?l12 ?c12 ?k12 ?a13 ?l13 ?c13 ?k13 ?a14 ?l14 ?c14 ?k14 ?a15 ?l15 ?c15 ?k15 ?a16 ?l16 ?c16 ?k16 ?a17 ?l17 ?c17 ?k17 ?a18 ?l18 ?c18 ?k18 ?a19 ?l19 ?c19 ?k19 ?a20 ?l20 ?c20 ?k20 ?a21 ?l21 ?c21 ?k21 ?a22 ?l22 ?c22 ?k22 ?a23 ?l23 ?c23 ?k23 ?a24 ?l24 ?c24 ?k24 ?a25 ?l25 ?c25 ?k25 ?a26 ?l26 ?c26 ?k26 ?a27 ?l27 ?c27 ?k27 ?a28 ?l28 ?c28 ?k28 ?a29 ?l29 ?c29 ?k29 ?a30 ?l30 ?c30 ?k30 ?a31 ?l31 ?c31 ?k31 ?a32 ?l32 ?c32 ?k32 ?a33 ?l33 ?c33 ?k33 ?a34 ?l34 ?c34 ?k34 ?a35 ?l35 ?c35 ?k35 ?a36 ?l36 ?c36 ?k36 ?a37 ?l37 ?c37 ?k37 ?a38 ?l38 ?c38 ?k38 ?a39 ?l39 ?c39 ?k39 ?a40 ?l40 ?c40 ?k40   ?z0 ?z1 ?z2 ?z3 ?z4 ?z5 ?z6 ?z7 ?z8 ?z9 ?z10 ?z11 ?n0 ?n1 ?n2 ?n3 ?n4 ?n5 ?n6 ?n7 ?n8 ?nm ?xo ?q0 ?q1 ?q2 ?q3 ?q4 ?q5 ?q6 ?q7 ?q8 ?qm ?qv ?y1 ?y2 ?y3 ?y4 ?y5 ?y6 ?m40 ?o40
  (case a0=>k_is);(case l0=>k_is);(case c0=>k_is);(case k0=>k_is)
  (case a1=>k_is);(case l1=>k_is);(case c1=>k_is);(case k1=>k_is)
  (case a2=>k_is);(case l2=>k_is);(case c2=>k_is);(case k2=>k_is)
  (case a3=>k_is);(case l3=>k_is);(case c3=>k_is);(case k3=>k_is)
  (case a4=>k_is);(case l4=>k_is);(case c4=>k_is);(case k4=>k_is)
  (case a5=>k_is);(case l5=>k_is);(case c5=>k_is);(case k5=>k_is)
  (case a6=>k_is);(case l6=>k_is);(case c6=>k_is);(case k6=>k_is)
  (case a7=>k_is);(case l7=>k_is);(case c7=>k_is);(case k7=>k_is)
  (case a8=>k_is);(case l8=>k_is);(case c8=>k_is);(case k8=>k_is)
  (case a9=>k_is);(case l9=>k_is);(case c9=>k_is);(case k9=>k_is)
  (case a10=>k_is);(case l10=>k_is);(case c10=>k_is);(case k10=>k_is)
  (case a11=>k_is);(case l11=>k_is);(case c11=>k_is);(case k11=>k_is)
  (case a12=>k_is);(case l12=>k_is);(case c12=>k_is);(case k12=>k_is)
  (case a13=>k_is);(case l13=>k_is);(case c13=>k_is);(case k13=>k_is)
  (case a14=>k_is);(case l14=>k_is);(case c14=>k_is);(case k14=>k_is)
  (case a15=>k_is);(case l15=>k_is);(case c15=>k_is);(case k15=>k_is)
  (case a16=>k_is);(case l16=>k_is);(case c16=>k_is);(case k16=>k_is)
  (case a17=>k_is);(case l17=>k_is);(case c17=>k_is);(case k17=>k_is)
  (case a18=>k_is);(case l18=>k_is);(case c18=>k_is);(case k18=>k_is)
  (case a19=>k_is);(case l19=>k_is);(case c19=>k_is);(case k19=>k_is)
  (case a20=>k_is);(case l20=>k_is);(case c20=>k_is);(case k20=>k_is)
  (case a21=>k_is);(case l21=>k_is);(case c21=>k_is);(case k21=>k_is)
  (case a22=>k_is);(case l22=>k_is);(case c22=>k_is);(case k22=>k_is)
  (case a23=>k_is);(case l23=>k_is);(case c23=>k_is);(case k23=>k_is)
  (case a24=>k_is);(case l24=>k_is);(case c24=>k_is);(case k24=>k_is)
  (case a25=>k_is);(case l25=>k_is);(case c25=>k_is);(case k25=>k_is)
  (case a26=>k_is);(case l26=>k_is);(case c26=>k_is);(case k26=>k_is)
  (case a27=>k_is);(case l27=>k_is);(case c27=>k_is);(case k27=>k_is)
  (case a28=>k_is);(case l28=>k_is);(case c28=>k_is);(case k28=>k_is)
  (case a29=>k_is);(case l29=>k_is);(case c29=>k_is);(case k29=>k_is)
  (case a30=>k_is);(case l30=>k_is);(case c30=>k_is);(case k30=>k_is)
  (case a31=>k_is);(case l31=>k_is);(case c31=>k_is);(case k31=>k_is)
  (case a32=>k_is);(case l32=>k_is);(case c32=>k_is);(case k32=>k_is)
  (case a33=>k_is);(case l33=>k_is);(case c33=>k_is);(case k33=>k_is)
  (case a34=>k_is);(case l34=>k_is);(case c34=>k_is);(case k34=>k_is)
  (case a35=>k_is);(case l35=>k_is);(case c35=>k_is);(case k35=>k_is)
  (case a36=>k_is);(case l36=>k_is);(case c36=>k_is);(case k36=>k_is)
  (case a37=>k_is);(case l37=>k_is);(case c37=>k_is);(case k37=>k_is)
  (case a38=>k_is);(case l38=>k_is);(case c38=>k_is);(case k38=>k_is)
  (case a39=>k_is);(case l39=>k_is);(case c39=>k_is);(case k39=>k_is)
  (case a40=>k_is);(case l40=>k_is);(case c40=>k_is);(case k40=>k_is)
  (case z0=>k_is)
  (case z1=>k_is)
  (case z2=>k_is)
  (case z3=>k_is)
  (case z4=>k_is)
  (case z5=>k_is)
  (case z6=>k_is)
  (case z7=>k_is)
  (case z8=>k_is)
  (case z9=>k_is)
  (case z10=>k_is)
  (case z11=>k_is)
  (case n0=>k_is)
  (case n1=>k_is)
  (case n2=>k_is)
  (case n3=>k_is)
  (case n4=>k_is)
  (case n5=>k_is)
  (case n6=>k_is)
  (case n7=>k_is)
  (case n8=>k_is)
  (case nm=>k_is)
  (case xo=>show PySem.W.excIn _ _ _ _=true;kernel_rfl)
  (case q0=>kernel_rfl)
  (case q1=>kernel_rfl)
  (case q2=>kernel_rfl)
  (case q3=>kernel_rfl)
  (case q4=>kernel_rfl)
  (case q5=>kernel_rfl)
  (case q6=>kernel_rfl)
  (case q7=>kernel_rfl)
  (case q8=>kernel_rfl)
  (case qm=>kernel_rfl)
  (case qv=>kernel_rfl)
  (case y1=>kernel_rfl)
  (case y2=>kernel_rfl)
  (case y3=>kernel_rfl)
  (case y4=>kernel_rfl)
  (case y5=>kernel_rfl)
  (case y6=>kernel_rfl)
  (case m40=>rfl)
  (case o40=>kernel_rfl)
#print axioms PySem.Challenge.cw_momentwright_k16_signs_at_roots_holds

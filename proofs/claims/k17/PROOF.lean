import PyProof.Rows.All
import Wide.All
import OpenK.AllK
import Wide.FinOn
import Lean
import PyProof.EqAt
import PyProof.EqKinds
import PyProof.TupleCall
import PySem.Challenge.RW_momentwright_k17_roots_that_are_fraction
set_option compiler.extract_closed false
local macro_rules | `(tactic| walk_at "o")=>`(tactic| first | ((repeat (rename (_:Int)≠_=>h; clear h)); (repeat (rename (_:Nat)≠_=>h; clear h)); (repeat (rename _ ∨ _=>h; clear h)); lia) | lia | omega)
set_option hygiene false in
local macro_rules | `(nofun)=>`(hr.mono (by walk_at "a2"))
local macro_rules | `(())=>`(by walk_at "o")
local macro_rules | `(∅)=>`(by decide)
local macro_rules | `(⋯)=>`(by grind)
local macro_rules | `((·))=>`(by walk_at "a1")
local macro_rules | `(tactic| nofun)=>`(tactic| walk_at "o")
local macro_rules | `(tactic| symm)=>`(tactic| walk_at "vc")
local macro_rules | `(tactic| walk_at "a1")=>`(tactic| first | exact Or.inl rfl | exact Or.inr rfl)
local macro_rules | `(tactic| walk_at "a2")=>`(tactic| first | decide | walk_at "o")
local macro_rules | `(tactic| walk_at "a3")=>`(tactic| exact ⟨rfl,rfl,rfl,by decide +kernel,rfl,by decide +kernel,by decide +kernel⟩)
set_option Elab.async false
set_option linter.all false
set_option maxRecDepth 100000
theorem Ya:type_of% @decide_eq_false:=@decide_eq_false
theorem Yb:type_of% @if_pos:=@if_pos
theorem Yc:type_of% @if_neg:=@if_neg
theorem Yd:type_of% @Nat.lt_of_lt_of_le:=@Nat.lt_of_lt_of_le
theorem Ye:type_of% @Nat.lt_irrefl:=@Nat.lt_irrefl
theorem Yf:type_of% @Nat.ne_of_lt:=@Nat.ne_of_lt
theorem Yg:type_of% @Nat.le_trans:=@Nat.le_trans
theorem Yh:type_of% @Nat.le_of_lt:=@Nat.le_of_lt
theorem Yi:type_of% @List.mem_cons_self:=@List.mem_cons_self
theorem Yj:type_of% @List.mem_cons_of_mem:=@List.mem_cons_of_mem
theorem Yk:type_of% @Ne.symm:=@Ne.symm
theorem Yl:type_of% @List.mem_append_left:=@List.mem_append_left
theorem Ym:type_of% @Option.some.inj:=@Option.some.inj
theorem Yn:type_of% @congrArg:=@congrArg
theorem Yo:type_of% @Bool.false_ne_true:=@Bool.false_ne_true
theorem Yp:type_of% @Int.mul_one:=@Int.mul_one
theorem Yq:type_of% @Nat.le_refl:=@Nat.le_refl
theorem Yr:type_of% @PyProof.Rows.callWith_type1:=@PyProof.Rows.callWith_type1
theorem Ys:type_of% @List.mem_append_right:=@List.mem_append_right
theorem Yt:type_of% @List.size_toArray:=@List.size_toArray
theorem Yu:type_of% @PySem.W.kia_one:=@PySem.W.kia_one
theorem Yv:type_of% @List.append_nil:=@List.append_nil
theorem Yw:type_of% @List.length_take:=@List.length_take
theorem Yx:type_of% @PySem.mem_of_lookup:=@PySem.mem_of_lookup
theorem Yy:type_of% @List.getElem?_append_right:=@List.getElem?_append_right
theorem Yz:type_of% @List.getElem?_append_left:=@List.getElem?_append_left
theorem YA:type_of% @List.getElem?_map:=@List.getElem?_map
theorem YB:type_of% @List.mem_of_getElem?:=@List.mem_of_getElem?
theorem YC:type_of% @List.length_append:=@List.length_append
theorem YD:type_of% @List.length_map:=@List.length_map
theorem YE:type_of% @Int.toNat_natCast:=@Int.toNat_natCast
theorem YF:type_of% @List.map_nil:=@List.map_nil
theorem YG:type_of% @List.map_cons:=@List.map_cons
theorem YH:type_of% @List.replicate_succ:=@List.replicate_succ
theorem YI:type_of% @List.append_assoc:=@List.append_assoc
theorem YJ:type_of% @Nat.mul_comm:=@Nat.mul_comm
theorem YK:type_of% @decide_eq_true:=@decide_eq_true
theorem YL:type_of% @Nat.zero_le:=@Nat.zero_le
theorem YM:type_of% @List.getElem_mem:=@List.getElem_mem
theorem YN:type_of% @List.getElem?_eq_getElem:=@List.getElem?_eq_getElem
theorem YO:type_of% @Int.gcd_comm:=@Int.gcd_comm
theorem YQ:type_of% @Int.fmod_nonneg_of_pos:=@Int.fmod_nonneg_of_pos
theorem YR:type_of% @Int.fmod_lt_of_pos:=@Int.fmod_lt_of_pos
theorem YS:type_of% @Int.gcd_dvd_left:=@Int.gcd_dvd_left
theorem YT:type_of% @Int.gcd_dvd_right:=@Int.gcd_dvd_right
theorem YU:type_of% @Int.le_of_lt:=@Int.le_of_lt
theorem YV:type_of% @Nat.pow_le_pow_right:=@Nat.pow_le_pow_right
theorem YW:type_of% @Int.natAbs_mul:=@Int.natAbs_mul
theorem YX:type_of% @Nat.pow_add:=@Nat.pow_add
theorem YY:type_of% @Nat.pow_succ:=@Nat.pow_succ
theorem YZ:type_of% @Bool.and_eq_true:=@Bool.and_eq_true
theorem Y0:type_of% @Nat.le_mul_of_pos_right:=@Nat.le_mul_of_pos_right
theorem Y1:type_of% @Int.mul_pos:=@Int.mul_pos
theorem Y2:type_of% @List.mem_cons:=@List.mem_cons
theorem Y3:type_of% @List.not_mem_nil:=@List.not_mem_nil
theorem Y4:type_of% @or_false:=@or_false
theorem Y5:type_of% @Nat.le_add_right:=@Nat.le_add_right
theorem Y6:type_of% @List.length_cons:=@List.length_cons
theorem Y7:type_of% @List.getD_eq_getElem?_getD:=@List.getD_eq_getElem?_getD
theorem Y8:type_of% @Nat.Coprime.dvd_of_dvd_mul_left:=@Nat.Coprime.dvd_of_dvd_mul_left
theorem Y9:type_of% @Int.mul_comm:=@Int.mul_comm
theorem Xa:type_of% @Int.eq_of_mul_eq_mul_right:=@Int.eq_of_mul_eq_mul_right
theorem Xb:type_of% @Int.mul_ne_zero:=@Int.mul_ne_zero
theorem Xc:type_of% @Rat.intCast_add:=@Rat.intCast_add
theorem Xd:type_of% @Rat.intCast_mul:=@Rat.intCast_mul
theorem Xe:type_of% @List.drop_eq_getElem_cons:=@List.drop_eq_getElem_cons
theorem Xf:type_of% @List.getLast?_eq_getElem?:=@List.getLast?_eq_getElem?
theorem Xg:type_of% @Int.mul_assoc:=@Int.mul_assoc
theorem Xh:type_of% @Int.eq_of_mul_eq_mul_left:=@Int.eq_of_mul_eq_mul_left
theorem Xi:type_of% @Int.mul_zero:=@Int.mul_zero
theorem Xj:type_of% @Nat.zero_add:=@Nat.zero_add
theorem Xk:type_of% @Int.one_mul:=@Int.one_mul
theorem Xl:type_of% @Nat.add_mul:=@Nat.add_mul
theorem Xm:type_of% @Nat.mul_le_mul:=@Nat.mul_le_mul
theorem Xn:type_of% @Rat.mul_nonneg:=@Rat.mul_nonneg
theorem Xo:type_of% @Int.pow_zero:=@Int.pow_zero
theorem Xp:type_of% @Int.pow_succ:=@Int.pow_succ
theorem Xq:type_of% @Int.pow_ne_zero:=@Int.pow_ne_zero
theorem Xr:type_of% @Rat.div_def:=@Rat.div_def
theorem Xs:type_of% @Rat.mul_pos:=@Rat.mul_pos
theorem Xt:type_of% @Rat.le_of_lt:=@Rat.le_of_lt
theorem Xu:type_of% @PySem.W.mg_of:=@PySem.W.mg_of
theorem Xv:type_of% @Rat.lt_div_iff:=@Rat.lt_div_iff
theorem Xw:type_of% @Classical.byContradiction:=@Classical.byContradiction
theorem Xx:type_of% @List.filter_cons_of_pos:=@List.filter_cons_of_pos
theorem Xy:type_of% @List.filter_cons_of_neg:=@List.filter_cons_of_neg
theorem Xz:type_of% @of_decide_eq_true:=@of_decide_eq_true
theorem XA:type_of% @Int.dvd_trans:=@Int.dvd_trans
theorem XB:type_of% @Int.natAbs_natCast:=@Int.natAbs_natCast
theorem XC:type_of% @Nat.le_of_dvd:=@Nat.le_of_dvd
theorem XD:type_of% @Nat.mul_le_mul_right:=@Nat.mul_le_mul_right
theorem XE:type_of% @Rat.intCast_neg:=@Rat.intCast_neg
theorem XF:type_of% @Rat.intCast_sub:=@Rat.intCast_sub
theorem XG:type_of% @Int.natCast_mul:=@Int.natCast_mul
theorem XH:type_of% @Rat.div_mul_cancel:=@Rat.div_mul_cancel
theorem XI:type_of% @Iff.rfl:=@Iff.rfl
theorem XJ:type_of% @List.getElem?_of_mem:=@List.getElem?_of_mem
theorem XM:type_of% @Nat.mul_le_mul_left:=@Nat.mul_le_mul_left
theorem XN:type_of% @Int.dvd_mul_right:=@Int.dvd_mul_right
theorem XO:type_of% @Int.emod_lt_of_pos:=@Int.emod_lt_of_pos
theorem XQ:type_of% @Int.dvd_mul_left:=@Int.dvd_mul_left
theorem XR:type_of% @List.map_append:=@List.map_append
theorem XS:type_of% @List.take_add_one:=@List.take_add_one
theorem XT:type_of% @List.take_length:=@List.take_length
theorem XU:type_of% @PySem.F.plainAttrs_list:=@PySem.F.plainAttrs_list
theorem XV:type_of% @PySem.F.slot_list_append:=@PySem.F.slot_list_append
theorem XW:type_of% @PySem.F.type_list_append:=@PySem.F.type_list_append
theorem XX:type_of% @Int.fmod_eq_emod_of_nonneg:=@Int.fmod_eq_emod_of_nonneg
theorem XY:type_of% @PySem.W.mg_none_of:=@PySem.W.mg_none_of
namespace L2
open PySem PySem.Spec PyProof.Rows
abbrev gw:=Sum Int Str
def pN:gw->Value->Bool
 | .inl k,v=>Value.isInt k v
 | .inr x,v=>Value.isStrOf x v
def Lk(w:World):gw->Int
 | .inl k=>hashInt k
 | .inr x=>hashStr w x
theorem cp:∀{k:gw}{v:Value},pN k v=true->(∃i t,k=Sum.inl i/\v=Value.int i t)\/(∃x t,k=Sum.inr x/\v=Value.str x t)
 | .inl i,v,h=>by
  obtain⟨t,e⟩:=Value.isInt_shape (k:=i) (v:=v) h;exact .inl ⟨i,t,rfl,e⟩
 | .inr x,v,h=>by
  obtain⟨t,e⟩:=Value.isStrOf_shape (x:=x) (v:=v) h;exact .inr ⟨x,t,rfl,e⟩
theorem yH(i:Int)(t:Tok):pN (.inl i) (.int i t)=true:=by simp[pN,Value.isInt]
theorem yn(x:Str)(t:Tok):pN (.inr x) (.str x t)=true:=by simp[pN,Value.isStrOf]
theorem GK(a b:Int):decide ((Sum.inl a:gw)=Sum.inl b)=(a==b):=by
 by_cases e:a=b
 .subst e;simp
 .have h:¬ (Sum.inl a:gw)=Sum.inl b:=λq=>e (Sum.inl.inj q);rw[Ya h];exact (beq_eq_false_iff_ne.mpr e).symm
theorem Hj(a b:Str):decide ((Sum.inr a:gw)=Sum.inr b)=decide (a=b):=by
 by_cases e:a=b
 .subst e;simp
 .have h:¬ (Sum.inr a:gw)=Sum.inr b:=λq=>e (Sum.inr.inj q);rw[Ya h,Ya e]
theorem GN(a:Int)(b:Str):decide ((Sum.inl a:gw)=Sum.inr b)=false:=Ya (λq=>nomatch q)
theorem HR(a:Str)(b:Int):decide ((Sum.inr a:gw)=Sum.inl b)=false:=Ya (λq=>nomatch q)
def cK(prog:Program)(w:World):PySem.KeyKind prog w gw where
 is:=pN
 hash:=Lk w
 inj:=λv a b ha hb=>by
  rcases cp ha with ⟨i,t,rfl,rfl⟩|⟨x,t,rfl,rfl⟩
  .rcases cp hb with ⟨j,u,rfl,e⟩|⟨y,u,rfl,e⟩
   .injection e with e1 _;rw[e1]
   .exact nomatch e
  .rcases cp hb with ⟨j,u,rfl,e⟩|⟨y,u,rfl,e⟩
   .exact nomatch e
   .injection e with e1 _;rw[e1]
 byValue:=λk v h=>by
  rcases cp h with ⟨i,t,rfl,rfl⟩|⟨x,t,rfl,rfl⟩<;>rfl
 pyHash:=λhv h=>by
  rcases cp hv with ⟨i,t,rfl,rfl⟩|⟨x,t,rfl,rfl⟩
  .exact wpAny_pyHash_int h
  .exact wpAny_pyHash_str h
 eqBool:=λhu hv h=>by
  rcases cp hu with ⟨i,t,rfl,rfl⟩|⟨x,t,rfl,rfl⟩
  .rcases cp hv with ⟨j,u,rfl,rfl⟩|⟨y,u,rfl,rfl⟩
   .rw[GK] at h;exact wpAny_eqBool_int h
   .rw[GN] at h;exact SeqAt.EqAt.int_str i t y u _ _ _ _ h
  .rcases cp hv with ⟨j,u,rfl,rfl⟩|⟨y,u,rfl,rfl⟩
   .rw[HR] at h;exact SeqAt.EqAt.str_int x t j u _ _ _ _ h
   .rw[Hj] at h;exact wpAny_eqBool_str h
 «strs»:=λk x t v h=>by
  rcases cp h with ⟨i,u,rfl,e⟩|⟨y,u,rfl,e⟩
  .exact nomatch e
  .injection e with e1 _
   subst e1;cases v<;>rfl
theorem tR(prog:Program)(w:World)(i:Int)(t:Tok):(cK prog w).is (.inl i) (.int i t)=true:=yH i t
theorem sC(prog:Program)(w:World)(x:Str)(t:Tok):(cK prog w).is (.inr x) (.str x t)=true:=yn x t
inductive V where
 | non|bl (b:Bool)|int (i:Int)|str (x:Str)|byt (b:Array UInt8)|flt (b:UInt64)|ref (a:Addr)|ty (n:String)
 deriving DecidableEq
def aY:V->Value->Prop
 | .non,u=>u=Value.none
 | .bl b,u=>u=Value.bool b
 | .int i,u=>∃t,u=Value.int i t
 | .str x,u=>∃t,u=Value.str x t
 | .byt b,u=>∃t,u=Value.bytes b t
 | .flt b,u=>∃t,u=Value.float b t
 | .ref a,u=>u=Value.ref a
 | .ty n,u=>u=Value.type n
abbrev aN:List V->List Value->Prop:=Paired aY
theorem aN.length{xs:List V}{us:List Value}(r:aN xs us):xs.length=us.length:=Paired.length r
theorem aN.get:∀{xs:List V}{us:List Value}{i:Nat}{x:V},aN xs us->xs[i]? = some x -> ∃u,us[i]? = some u/\aY x u
 | _,_,_,_,.nil,e=>by simp at e
 | _,_,0,_,.cons r _,e=>by simp at e;subst e;exact⟨_,rfl,r⟩
 | _,_,i+1,x,.cons _ t,e=>by
  obtain⟨u,h1,h2⟩:=aN.get (i:=i) (x:=x) t (by simpa using e)
  exact⟨u,by simpa using h1,h2⟩
theorem aN.set{x:V}{u:Value}(r:aY x u):∀{xs:List V}{us:List Value}(i:Nat),aN xs us->aN (xs.set i x) (us.set i u)
 | _,_,_,.nil=>.nil
 | _,_,0,.cons _ t=>.cons r t
 | _,_,i+1,.cons q t=>.cons q (aN.set r i t)
theorem aN.append:∀{xs ys:List V}{us ws:List Value},aN xs us->aN ys ws->aN (xs++ys) (us++ws)
 | _,_,_,_,.nil,s=>s
 | _,_,_,_,.cons r t,s=>.cons r (aN.append t s)
theorem aN.take:∀{xs:List V}{us:List Value}(n:Nat),aN xs us->aN (xs.take n) (us.take n)
 | _,_,0,_=>.nil
 | _,_,_+1,.nil=>.nil
 | _,_,n+1,.cons r t=>.cons r (aN.take n t)
theorem aN.drop:∀{xs:List V}{us:List Value}(n:Nat),aN xs us->aN (xs.drop n) (us.drop n)
 | _,_,0,r=>r
 | _,_,_+1,.nil=>.nil
 | _,_,n+1,.cons _ t=>aN.drop n t
def qR:Option V->Option Value->Prop
 | some v,some u=>aY v u
 | none,none=>True
 | _,_=>False
def KV{κ:Type}:List (κ×V)->List (κ×Value)->Prop:=Paired λ(p:κ×V)(q:κ×Value)=>p.1=q.1/\aY p.2 q.2
def kV:gw->V
 | .inl i=>.int i
 | .inr x=>.str x
inductive HO where
 /-- a list -/
 | lst (xs:List V)
 /-- a tuple (never changes) -/
 | tup (xs:List V)
 /-- a dict whose keys are ints and texts;one whose keys are tuples of ints and texts (the empty one is both) -/
 | dK (kvs:List (gw×V))|dT (kvs:List (List gw×V))
 /-- a set of ints: its members,its size -/
 | set (S:Int->Bool)(n:Nat)
 /-- an instance of the class at C,its dict at dx,its attributes -/
 | ins (C dx:Addr)(fs:List (Str×V))
 /-- the dict of the instance at x -/
 | own (x:Addr)
 /-- the dict of an exception -/
 | xd (fs:List (Str×V))
 /-- a bound method,f of x -/
 | met (f x:Addr)
 /-- a range object lo,lo+1,.. below hi -/
 | rng (lo hi:Int)
 /-- a thing that is known to the object (the script;a dict while a loop walks it): read,never written while it is so -/
 | frz (o:Obj)(u:HO)
 /-- a code object's table -/
 | tbl (ps:Array Value)
 /-- any other thing,by what is true of its one object (a def of one's own: SetO a S n:=HO.ext λh=>..) -/
 | ext (φ:Heap->Prop)
abbrev Hp:=Addr->Option HO
def upd(H:Hp)(a:Addr)(o:HO):Hp:=λb=>if b=a then some o else H b
theorem aV{H:Hp}{a:Addr}{o:HO}:upd H a o a=some o:=by unfold upd;rw[Yb rfl]
theorem aC{H:Hp}{a b:Addr}{o:HO}(h:b≠a):upd H a o b=H b:=by unfold upd;rw[Yc h]
theorem ah{H:Hp}{a b:Addr}{o:HO}(h:H a=some o)(h':H b=none):a≠b:=by
 intro e;subst e;rw[h] at h';cases h'
section
variable (P:Program)(w:World)
def bV(H:Hp)(h:Heap)(a:Addr):HO->Prop
 | .lst xs=>xs.length<=sizeLine /\ ∃(its:List Value)(n:Nat),aN xs its/\h.get? a=some { cls:=.type "list",data:=.seq its.toArray n }
 | .tup xs=>xs.length<=sizeLine /\ ∃its:List Value,aN xs its/\IsTup h a its.toArray
 | .dK kvs=>kvs.length<=sizeLine/\(a==sysModules)=false /\ ∃vs,KV kvs vs/\h.DictOf (cK P w) a vs
 | .dT kvs=>kvs.length<=sizeLine/\(a==sysModules)=false /\ ∃xs:List (List gw×Addr×Value),
   Paired (λ(p:List gw×V)(q:List gw×Addr×Value)=>p.1=q.1/\H q.2.1=some (.tup (p.1.map kV))/\aY p.2 q.2.2) kvs xs /\
   ∃o es ep,h.get? a=some o/\o.ExactDict/\o.data=.dict es ep/\es.toList=xs.map (entryOfKey (tupleKind (cK P w)))/\(xs.map (·.1)).Nodup
 | .set S n=>h.SetOf (intKind P w) a S n
 | .ins C dx fs=>H dx=some (.own a)/\fs.length<=1000/\dx≠a/\h.get? a=some (PySem.W.instObj C dx) /\
   ∃mA,h.Ns1 dx mA/\(∀f,qR (fs.lookup f) (mA f))/\PySem.Within mA (fs.map (·.1))
 | .own _=>∃o,h.get? a=some o
 | .xd fs=>∃mA,h.Ns1 a mA /\ ∀f,qR (fs.lookup f) (mA f)
 | .rng lo hi=>∃t u v,h.get? a=some { cls:=.type "range",data:=.fields #[.int lo t,.int hi u,.int 1 v] }
 | .frz o u=>h.get? a=some o/\bV H h a u
 | .tbl ps=>h.get? a=some { cls:=.none,data:=.fields ps }
 | .met f x=>h.get? a=some (PySem.W.methodObj (.ref f) (.ref x))
 | .ext φ=>φ h/\(∃o,h.get? a=some o) /\ ∀h1 h2:Heap,φ h1->(∀o,h1.get? a=some o->h2.get? a=some o)->φ h2
def iW(H:Hp)(h:Heap):Prop:=∀a o,H a=some o->bV P w H h a o
end
section
variable {P:Program}{w:World}{H H':Hp}{h h':Heap}{a:Addr}{o:HO}
theorem bV.lt(x:bV P w H h a o):a<h.objs.size:=by
 cases o with
 | lst xs=>obtain⟨_,_,_,_,e⟩:=x;exact Heap.lt_size e
 | tup xs=>obtain⟨_,_,_,p⟩:=x;exact p.lt
 | dK kvs=>obtain⟨_,_,_,_,o,_,_,e,_⟩:=x;exact Heap.lt_size e
 | dT kvs=>obtain⟨_,_,_,_,o,_,_,e,_⟩:=x;exact Heap.lt_size e
 | set S n=>obtain⟨o,_,_,_,e,_⟩:=x;exact Heap.lt_size e
 | ins C dx fs=>obtain⟨_,_,_,e,_⟩:=x;exact Heap.lt_size e
 | own y=>obtain⟨_,e⟩:=x;exact Heap.lt_size e
 | xd fs=>obtain⟨_,⟨_,_,_,e,_⟩,_⟩:=x;exact Heap.lt_size e
 | rng lo hi=>obtain⟨_,_,_,e⟩:=x;exact Heap.lt_size e
 | frz ob u=>obtain⟨e,_⟩:=x;exact Heap.lt_size e
 | tbl ps=>exact Heap.lt_size (show h.get? a=some _ from x)
 | met f y=>exact Heap.lt_size (show h.get? a=some _ from x)
 | ext φ=>obtain⟨_,⟨_,e⟩,_⟩:=x;exact Heap.lt_size e
theorem Paired.mapP{α β:Type}{F G:α->β->Prop}:∀{l₁:List α}{l₂:List β},Paired F l₁ l₂->(∀a b,F a b->G a b)->Paired G l₁ l₂
 | _,_,.nil,_=>.nil
 | _,_,.cons r t,f=>.cons (f _ _ r) (Paired.mapP t f)
theorem bV.stay(x:bV P w H h a o)(k:∀b u,(b=a\/H b=some (.own a))->h.get? b=some u->h'.get? b=some u)
  (ho:∀b,H b=some (.own a)->H' b=some (.own a))(ht:∀b xs,H b=some (.tup xs)->H' b=some (.tup xs)):bV P w H' h' a o:=by
 induction o with
 | lst xs=>obtain⟨z,its,n,r,e⟩:=x;exact⟨z,its,n,r,k _ _ (.inl rfl) e⟩
 | tup xs=>obtain⟨z,its,r,ob,e,c⟩:=x;exact⟨z,its,r,ob,k _ _ (.inl rfl) e,c⟩
 | dK kvs=>obtain⟨z,y,vs,r,ob,es,ep,e,c⟩:=x;exact⟨z,y,vs,r,ob,es,ep,k _ _ (.inl rfl) e,c⟩
 | dT kvs =>
  obtain⟨z,y,xs,r,ob,es,ep,e,c⟩:=x;exact⟨z,y,xs,Paired.mapP r λp q z=>⟨z.1,ht _ _ z.2.1,z.2.2⟩,ob,es,ep,k _ _ (.inl rfl) e,c⟩
 | set S n=>obtain⟨ob,es,ep,t,e,c⟩:=x;exact⟨ob,es,ep,t,k _ _ (.inl rfl) e,c⟩
 | ins C dx fs =>
  obtain⟨d,z,ne,e,mA,⟨od,es,ep,e2,c⟩,r⟩:=x;exact⟨ho _ d,z,ne,k _ _ (.inl rfl) e,mA,⟨od,es,ep,k _ _ (.inr d) e2,c⟩,r⟩
 | own y=>obtain⟨ob,e⟩:=x;exact⟨ob,k _ _ (.inl rfl) e⟩
 | xd fs=>obtain⟨mA,⟨od,es,ep,e,c⟩,r⟩:=x;exact⟨mA,⟨od,es,ep,k _ _ (.inl rfl) e,c⟩,r⟩
 | rng lo hi=>obtain⟨t,u,v,e⟩:=x;exact⟨t,u,v,k _ _ (.inl rfl) e⟩
 | frz ob u ih=>obtain⟨e,q⟩:=x;exact⟨k _ _ (.inl rfl) e,ih q⟩
 | tbl ps =>
  have e:h.get? a=some { cls:=.none,data:=.fields ps }:=x;show h'.get? a=some { cls:=.none,data:=.fields ps };exact k a _ (.inl rfl) e
 | met f y =>
  have e:h.get? a=some (PySem.W.methodObj (.ref f) (.ref y)):=x;show h'.get? a=some (PySem.W.methodObj (.ref f) (.ref y));exact k a _ (.inl rfl) e
 | ext φ=>obtain⟨p,⟨o,e⟩,st⟩:=x;exact⟨st _ _ p λo q=>k _ _ (.inl rfl) q,⟨o,k _ _ (.inl rfl) e⟩,st⟩
theorem iW.lt(x:iW P w H h)(e:H a=some o):a<h.objs.size:=(x a o e).lt
theorem iW.fresh(x:iW P w H h)(e:h.objs.size<=a):H a=none:=by
 cases q:H a with
 | none=>rfl
 | some u=>exact absurd (Yd (x.lt q) e) (Ye _)
theorem iW.kept(x:iW P w H h)(k:∀b u,h.get? b=some u->h'.get? b=some u):iW P w H h':=λa o e =>
 (x a o e).stay (λb u _ q=>k b u q) (λ_ q=>q) λ_ _ q=>q
theorem iW.laid(x:iW P w H h)(k:∀b u,h.get? b=some u->h'.get? b=some u)(hp:h.objs.size<=a)(new:bV P w (upd H a o) h' a o):iW P w (upd H a o) h':=λb u e=>by
 have hn:=x.fresh hp;by_cases hb:b=a
 .subst hb;rw[aV] at e;cases e;exact new
 .rw[aC hb] at e;exact (x b u e).stay (λc v _ q=>k c v q) (λc q=>by rw[aC (ah q hn)];exact q) λc xs q=>by rw[aC (ah q hn)];exact q
end
def Rd(H:Hp)(a:Addr)(u:HO):Prop:=H a=some u \/ ∃o,H a=some (.frz o u)
theorem Rd.ok{P:Program}{w:World}{H:Hp}{h:Heap}{a:Addr}{u:HO}(r:Rd H a u)(x:iW P w H h):bV P w H h a u:=by
 rcases r with r|⟨o,r⟩
 .exact x a u r
 .obtain⟨_,q⟩:=x a _ r;exact q
def Jr:Option HO->Prop
 | some (.lst _)=>True
 | some (.dK _)=>True
 | some (.dT _)=>True
 | some (.set _ _)=>True
 | some (.ins _ _ _)=>True
 | some (.ext _)=>True
 | _=>False
section
variable {P:Program}{w:World}{H:Hp}{h h':Heap}{x e:Addr}{o':HO}
theorem iW.write(ok:iW P w H h)(mu:Jr (H x))(he:e=x\/H e=some (.own x))(k:∀b u,b≠e->h.get? b=some u->h'.get? b=some u)(heo:∃u,h'.get? e=some u)
  (new:bV P w (upd H x o') h' x o'):iW P w (upd H x o') h':=λb u q=>by
 have nown:∀c y,H c=some (.own y)->c≠x:=λc y r z=>by subst z;rw[r] at mu;exact mu
 have ntup:∀c xs,H c=some (.tup xs)->c≠x:=λc xs r z=>by subst z;rw[r] at mu;exact mu
 by_cases hb:b=x
 .subst hb;rw[aV] at q;cases q;exact new
 .rw[aC hb] at q;by_cases hbe:b=e
  .have q':H b=some (.own x):=by
    rcases he with z|z
    .exact absurd (hbe.trans z) hb
    .rw[hbe];exact z
   rw[q] at q';cases q';obtain⟨v,hv⟩:=heo;exact⟨v,by rw[hbe];exact hv⟩
  .refine (ok b u q).stay (λc v hc r=>k c v ?_ r) (λc r=>by rw[aC (nown c b r)];exact r) λc xs r=>by rw[aC (ntup c xs r)];exact r
   rcases hc with rfl|hc
   .exact hbe
   .rintro rfl;rcases he with z|z
    .exact nown c b hc z
    .rw[hc] at z;cases z;exact hb rfl
end
structure Un (fs ex:List Addr)(H H':Hp)(h h':Heap):Prop where
 keep:∀b o,h.get? b=some o->H b=none->b∉fs->b∉ex->h'.get? b=some o
 slot:∀b o,h.get? b=some o->H b=none->b∈fs->b∉ex -> ∃sl,h'.get? b=some { o with slots:=sl }
 free:∀b o,h.get? b=some o->H b=none->b∉ex->H' b=none
 there:∀b o,h.get? b=some o->b∉ex -> ∃o',h'.get? b=some o'
 tups:∀b xs,H b=some (.tup xs)->H' b=some (.tup xs)
 frzs:∀b o u,H b=some (.frz o u)->H' b=some (.frz o u)
 tbls:∀b ps,H b=some (.tbl ps) -> ∃more,H' b=some (.tbl (ps++more))
section
variable {fs fs' ex ex':List Addr}{H H1 H2:Hp}{h h1 h2 h':Heap}{a x e:Addr}{o:HO}
theorem Un.any(u:Un fs ex H H1 h h1) {b:Addr}{ob:Obj}(q:h.get? b=some ob)(n:H b=none)(hx:b∉ex):∃sl,h1.get? b=some { ob with slots:=sl }:=by
 by_cases hb:b∈fs
 .exact u.slot b ob q n hb hx
 .exact⟨ob.slots,u.keep b ob q n hb hx⟩
theorem Un.kept(k:∀b u,h.get? b=some u->h'.get? b=some u):Un fs ex H H h h' :=
 ⟨λb ob q _ _ _=>k b ob q,λb ob q _ _ _=>⟨ob.slots,k b ob q⟩,λ_ _ _ n _=>n,λb ob q _=>⟨ob,k b ob q⟩,λ_ _ q=>q,λ_ _ _ q=>q,λ_ ps q=>⟨#[],by rw[q];simp⟩⟩
theorem Un.refl:Un fs ex H H h h:=Un.kept λ_ _ q=>q
theorem Un.laid(k:∀b u,h.get? b=some u->h'.get? b=some u)(hp:h.objs.size<=a)(hn:H a=none):Un fs ex H (upd H a o) h h' where
 keep:=λb u q _ _ _=>k b u q
 slot:=λb u q _ _ _=>⟨u.slots,k b u q⟩
 free:=λb u q n _=>by rw[aC (Yf (Yd (Heap.lt_size q) hp))];exact n
 there:=λb u q _=>⟨u,k b u q⟩
 tups:=λb xs q=>by rw[aC (ah q hn)];exact q
 frzs:=λb u xs q=>by rw[aC (ah q hn)];exact q
 tbls:=λb ps q=>⟨#[],by rw[aC (ah q hn),q];simp⟩
theorem Un.write(mu:Jr (H x))(he:e=x\/H e=some (.own x))(k:∀b u,b≠e->h.get? b=some u->h'.get? b=some u)(heo:∃u,h'.get? e=some u):Un fs ex H (upd H x o) h h':=by
 have hx:∀b,H b=none->b≠x:=λb n z=>by subst z;rw[n] at mu;exact mu
 have hb:∀b,H b=none->b≠e:=λb n z=>by
  subst z;rcases he with r|r
  .exact hx b n r
  .rw[n] at r;cases r
 have hm:∀b u,H b=some u -> ¬ Jr (some u)->b≠x:=λb u q nm z=>by subst z;rw[q] at mu;exact nm mu
 refine⟨λb u q n _ _=>k b u (hb b n) q,λb u q n _ _=>⟨u.slots,k b u (hb b n) q⟩,λb u q n _=>by rw[aC (hx b n)];exact n,λb u q _=>?_,
  λb xs q=>by rw[aC (hm b _ q λz=>z)];exact q,λb u xs q=>by rw[aC (hm b _ q λz=>z)];exact q,λb ps q=>⟨#[],by rw[aC (hm b _ q λz=>z),q];simp⟩⟩
 by_cases hbe:b=e
 .subst hbe;exact heo
 .exact⟨u,k b u hbe q⟩
end
def KE(h:Heap)(H:Hp):List Addr:=(List.range h.objs.size).filter λa=>(H a).isSome
def mX(h:Heap)(H:Hp):Heap:=PySem.W.hideAll h (KE h H)
theorem yR(h:Heap)(H:Hp):(mX h H).objs.size=h.objs.size:=PySem.W.hideAll_size _ _
theorem CP{h:Heap}{H:Hp}{b:Addr}{o:Obj}(e:h.get? b=some o)(n:H b=none):(mX h H).get? b=some o :=
 PySem.W.hideAll_get _ e λhm=>by
  have q:(H b).isSome=true:=(List.mem_filter.mp hm).2;rw[n] at q;simp at q
theorem Ez{h:Heap}{H:Hp}{b:Addr}{o:Obj}(e:(mX h H).get? b=some o):h.get? b=some o/\H b=none:=by
 have e':h.get? b=some o:=PySem.W.of_hideAll (KE h H) e;refine⟨e',?_⟩;cases q:H b with
 | none=>rfl
 | some x =>
  have hm:b∈KE h H:=List.mem_filter.mpr ⟨List.mem_range.mpr (Heap.lt_size e'),by simp[q]⟩
  have z:(mX h H).get? b=none:=PySem.W.hideAll_none (KE h H) hm;rw[z] at e;cases e
def DP(g h:Heap)(L:Addr):List (Addr×Obj):=(List.range h.objs.size).filterMap λa=>if a=L\/(g.get? a).isSome=true then none else (h.get? a).map λo=>(a,o)
def rest(g h:Heap)(L d:Addr):List (Addr×Obj):=(DP g h L).filter λp=>decide (p.1≠d)
structure Mod (K:W.Frag)(mg:Str->Option Value)(base:Heap):Prop where
 kin:K.In base
 glob:base.Ns mainGlobals mg
 blt:∃mb,base.Ns builtinsNs mb /\ ∀x:Str,x ≠ "__name__" -> mb x=bootBuiltins x
 nolimit:base.NoLimit
structure Cx where
 prog:Program
 w:World
 K:W.Frag
 mg:Str->Option Value
 base:Heap
 A:Around
 N:List Str
 s₀:Shared
 H₀:Hp
 env:Env
 outer:List Env
 stack:List Env
 ex:List Addr
 fn:Str->Bool
 calm:Bool
 pn:List (Addr×Obj)
 xe:Value->Shared->Prop
def gK(l:List Env):List Addr:=l.filterMap (·.frame)
abbrev Cx.fs (X:Cx):List Addr:=gK X.outer
def Go(sc:Scope)(x:Str):Prop:=sc.names.lookup x=some .local\/sc.names.lookup x=some .cell\/sc.names.lookup x=some .free
def CU(sc:Scope)(x:Str):Prop:=sc.names.lookup x=some .local\/sc.names.lookup x=some .cell
def JR(env:Env)(h:Heap)(m:Str->Option Value)(x:Str)(u:Value):Prop :=
 (env.kindOf x=some .local/\m x=some u)\/((env.kindOf x=some .cell\/env.kindOf x=some .free) /\ ∃c,env.cells.lookup x=some c/\h.IsCell c (some u))
structure Cx.Ok (X:Cx):Prop where
 mod:Mod X.K X.mg X.base
 kind:X.env.scope.kind=.function
 glob:X.env.globals=mainGlobals
 blt:X.env.builtins=builtinsNs
 above:X.s₀.heap.objs.size<=X.env.locals
 inj:∀x y c,X.env.cells.lookup x=some c->X.env.cells.lookup y=some c->x=y
 has:∀x,(X.env.kindOf x=some .cell\/X.env.kindOf x=some .free) -> ∃c,X.env.cells.lookup x=some c
 cab:∀x c,X.fn x=true->X.env.cells.lookup x=some c->X.s₀.heap.objs.size<=c
 hd:X.calm=true->X.A.handled=none
 frames:X.A.frames=some X.stack
 stk:X.stack=X.outer\/(X.stack=X.env::X.outer/\X.env.frame=some X.env.locals)
 exf:∀b∈X.ex,b≠X.env.locals /\ ∀x c,X.env.cells.lookup x=some c->c≠b
 bs:∀b o,X.base.get? b=some o->X.s₀.heap.get? b=some o/\X.H₀ b=none
 bsz:X.base.objs.size<=X.s₀.heap.objs.size
 noex:∀b o,X.base.get? b=some o->b∉X.ex
 exfs:∀b∈X.ex,b∉X.fs
 funs:X.s₀.heap.FunFrames X.base X.outer
 frf:∀b∈X.fs,X.H₀ b=none
structure ay (X:Cx)(pins:List (Addr×Obj))(σ:List (Option V))(H:Hp)(s:Shared):Prop where
 ok:X.Ok
 os:s.os=X.s₀.os
 bare:AllBare s.gens
 base:Un X.fs X.ex X.H₀ H X.s₀.heap s.heap
 loc:∃m,s.heap.Ns X.env.locals m /\ ∀(i:Nat)(x:Str)(v:V),X.N[i]? = some x->σ[i]? = some (some v)->Go X.env.scope x -> ∃u,aY v u/\JR X.env s.heap m x u
 cell:∀x c,X.env.cells.lookup x=some c -> ∃v,s.heap.IsCell c v
 free:H X.env.locals=none
 freeC:∀x c,X.env.cells.lookup x=some c->H c=none
 pin:∀p∈X.pn++pins,s.heap.get? p.1=some p.2/\H p.1=none/\p.1≠X.env.locals/\p.1∉X.fs /\ ∀v,p.2.data ≠ .cell v
 hok:iW X.prog X.w H s.heap
 len:σ.length=X.N.length
section
variable {X:Cx}{pins:List (Addr×Obj)}{σ:List (Option V)}{H H':Hp}{s:Shared}{h':Heap}
theorem Cx.Ok.nofr(ok:X.Ok){b:Addr}{o:Obj}(e:X.base.get? b=some o):b∉X.fs:=λhb=>by
 have:=(ok.funs.mem hb).1;rw[e] at this;cases this
theorem ay.bs(I:ay X pins σ H s):∀b o,X.base.get? b=some o->s.heap.get? b=some o/\H b=none:=λb o e =>
 ⟨I.base.keep b o (I.ok.bs b o e).1 (I.ok.bs b o e).2 (I.ok.nofr e) (I.ok.noex b o e),I.base.free b o (I.ok.bs b o e).1 (I.ok.bs b o e).2 (I.ok.noex b o e)⟩
theorem ay.bk(I:ay X pins σ H s):∀b o,X.base.get? b=some o->s.heap.get? b=some o:=λb o e=>(I.bs b o e).1
theorem ay.mod(I:ay X pins σ H s):Mod X.K X.mg X.base:=I.ok.mod
theorem ay.kIn(I:ay X pins σ H s):X.K.In s.heap:=I.ok.mod.kin.keeps I.bk
theorem ay.nolimit(I:ay X pins σ H s):s.heap.NoLimit:=I.ok.mod.nolimit.keeps I.bk
theorem ay.lt(I:ay X pins σ H s):X.env.locals<s.heap.objs.size:=let ⟨_,hn,_⟩:=I.loc;hn.lt
theorem ay.sz(I:ay X pins σ H s):X.s₀.heap.objs.size<=s.heap.objs.size:=Yg I.ok.above (Yh I.lt)
theorem ay.nofs(I:ay X pins σ H s) {a:Addr}(h:s.heap.objs.size<=a):a∉X.fs:=λhb=>by
 obtain⟨_,o,ho,_⟩:=I.ok.funs.mem hb;exact absurd (Yd (Heap.lt_size ho) (Yg I.sz h)) (Ye _)
theorem ay.cne(I:ay X pins σ H s):∀x c,X.env.cells.lookup x=some c->c≠X.env.locals:=λx c e z=>by
 obtain⟨v,o,ho,hd⟩:=I.cell x c e;obtain⟨m,⟨o',es,ep,ho',hd',_⟩,_⟩:=I.loc;rw[z,ho'] at ho;cases ho;rw[hd'] at hd;cases hd
theorem ay.funs(I:ay X pins σ H s):s.heap.FunFrames X.base X.outer:=by
 have all:∀(l:List Env),(∀b∈gK l,b∈X.fs)->X.s₀.heap.FunFrames X.base l->s.heap.FunFrames X.base l:=by
  intro l;induction l with
  | nil=>intro _ _;trivial
  | cons env r ih =>
   intro hs hl;obtain⟨hk,⟨L,o,hf,hn,ho,hd⟩,hr⟩:=hl;have hL:L∈X.fs:=hs L (by unfold gK;rw[List.filterMap_cons,hf];exact Yi)
   obtain⟨sl,e⟩:=I.base.slot L o ho (I.ok.frf L hL) hL λz=>I.ok.exfs L z hL;exact⟨hk,⟨L,_,hf,hn,e,hd⟩,ih (λb hb=>hs b (by unfold gK;rw[List.filterMap_cons,hf];exact Yj _ hb)) hr⟩
 exact all X.outer (λ_ hb=>hb) I.ok.funs
theorem ay.stack(I:ay X pins σ H s):s.heap.FunFrames X.base X.stack:=by
 rcases I.ok.stk with e|⟨e,hf⟩
 .rw[e];exact I.funs
 .rw[e];obtain⟨m,hn,_⟩:=I.loc;refine .cons (by rw[I.ok.kind];decide) hf hn ?_ I.funs
  exact Heap.get?_none_of_le (Yg I.ok.bsz I.ok.above)
theorem ay.stkSub(I:ay X pins σ H s):∀b∈gK X.stack,b∈X.env.locals::X.fs:=λb hb=>by
 rcases I.ok.stk with e|⟨e,hf⟩
 .rw[e] at hb;exact Yj _ hb
 .rw[e] at hb;unfold gK at hb;rw[List.filterMap_cons,hf] at hb;exact hb
theorem ay.stkFree(I:ay X pins σ H s):∀b∈gK X.stack,H b=none:=λb hb=>by
 rcases Y2.mp (I.stkSub b hb) with e|hb
 .rw[e];exact I.free
 .obtain⟨_,o,ho,_⟩:=I.ok.funs.mem hb;exact I.base.free b o ho (I.ok.frf b hb) λz=>I.ok.exfs b z hb
theorem ay.step{g':Array GenState}{t':Nat}{d':Drawn}{ch:List Addr}(I:ay X pins σ H s)
  (hch:∀b∈ch,(b∈X.ex\/X.s₀.heap.objs.size<=b)/\b≠X.env.locals/\(∀x c,X.env.cells.lookup x=some c->c≠b) /\ ∀p∈X.pn++pins,p.1≠b)
  (keep:∀b o,b≠X.env.locals->b∉X.fs->b∉ch->s.heap.get? b=some o->H b=none->h'.get? b=some o)
  (slot:∀b o,b≠X.env.locals->b∈X.fs->b∉ch->s.heap.get? b=some o->H b=none -> ∃sl,h'.get? b=some { o with slots:=sl })(free:∀b o,b∉ch->s.heap.get? b=some o->H b=none->H' b=none)
  (there:∀b o,b∉ch->s.heap.get? b=some o -> ∃o',h'.get? b=some o')
  (tups:∀b xs,H b=some (.tup xs)->H' b=some (.tup xs))(frzs:∀b o u,H b=some (.frz o u)->H' b=some (.frz o u))(tbls:∀b ps,H b=some (.tbl ps) -> ∃more,H' b=some (.tbl (ps++more)))
  (ns:∀m,s.heap.Ns X.env.locals m->h'.Ns X.env.locals m)(hok:iW X.prog X.w H' h')(hg:AllBare g') :
  ay X pins σ H' { s with heap:=h',gens:=g',drawn:=d',toks:=t' }:=by
 have neL:∀b o,X.s₀.heap.get? b=some o->b≠X.env.locals:=λb o e=>Yf (Yd (Heap.lt_size e) I.ok.above);have neC:∀b o,X.s₀.heap.get? b=some o->b∉X.ex->b∉ch:=λb o e hx hb=>by
  rcases (hch b hb).1 with z|z
  .exact hx z
  .exact absurd (Yd (Heap.lt_size e) z) (Ye _)
 have cellK:∀x c,X.env.cells.lookup x=some c -> ∀v,s.heap.IsCell c v->h'.IsCell c v:=λx c e v ⟨o,ho,hd⟩=>by
  have nch:c∉ch:=λz=>(hch c z).2.2.1 x c e rfl;by_cases hc:c∈X.fs
  .obtain⟨sl,q⟩:=slot c o (I.cne x c e) hc nch ho (I.freeC x c e);exact⟨_,q,hd⟩
  .exact⟨o,keep c o (I.cne x c e) hc nch ho (I.freeC x c e),hd⟩
 refine⟨I.ok,I.os,hg,⟨λb o e n hb hx=>?_,λb o e n hb hx=>?_,λb o e n hx=>?_,λb o e hx=>?_,λb xs e=>tups b xs (I.base.tups b xs e),λb o xs e=>frzs b o xs (I.base.frzs b o xs e),λb ps e=>?_⟩,?_,λx c e=>?_,?_,λx c e=>?_,λp hp=>?_,hok,I.len⟩
 .exact keep b o (neL b o e) hb (neC b o e hx) (I.base.keep b o e n hb hx) (I.base.free b o e n hx)
 .obtain⟨sl,e1⟩:=I.base.slot b o e n hb hx;obtain⟨sl',e2⟩:=slot b _ (neL b o e) hb (neC b o e hx) e1 (I.base.free b o e n hx);exact⟨sl',e2⟩
 .obtain⟨o',e1⟩:=I.base.there b o e hx;exact free b o' (neC b o e hx) e1 (I.base.free b o e n hx)
 .obtain⟨o',e1⟩:=I.base.there b o e hx;exact there b o' (neC b o e hx) e1
 .obtain⟨m1,e1⟩:=I.base.tbls b ps e;obtain⟨m2,e2⟩:=tbls b _ e1;exact⟨m1++m2,by rw[e2,Array.append_assoc]⟩
 .obtain⟨m,hn,hl⟩:=I.loc;refine⟨m,ns m hn,λi x v e1 e2 e3=>?_⟩;obtain⟨u,r,l⟩:=hl i x v e1 e2 e3;refine⟨u,r,?_⟩;rcases l with l|⟨k,c,e,z⟩
  .exact .inl l
  .exact .inr ⟨k,c,e,cellK x c e _ z⟩
 .obtain⟨v,z⟩:=I.cell x c e;exact⟨v,cellK x c e v z⟩
 .obtain⟨m,⟨o,_,_,ho,_⟩,_⟩:=I.loc;exact free _ o (λz=>(hch _ z).2.1 rfl) ho I.free
 .obtain⟨v,o,ho,hd⟩:=I.cell x c e;exact free c o (λz=>(hch c z).2.2.1 x c e rfl) ho (I.freeC x c e)
 .obtain⟨e,n,ne,nf,d⟩:=I.pin p hp;have nch:p.1∉ch:=λz=>(hch p.1 z).2.2.2 p hp rfl;exact⟨keep p.1 p.2 ne nf nch e n,free p.1 p.2 nch e n,ne,nf,d⟩
theorem ay.un{t':Nat}(I:ay X pins σ H s)(u:Un X.fs [] H H' s.heap h')(hok:iW X.prog X.w H' h'):ay X pins σ H' { s with heap:=h',toks:=t' }:=by
 obtain⟨m,⟨o,es,ep,ho,r⟩,_⟩:=id I.loc;obtain⟨sl,hL⟩:=u.any ho I.free (by simp)
 exact I.step (g':=s.gens) (d':=s.drawn) (ch:=[]) (λ_ z=>nomatch z) (λb o _ hb _ e n=>u.keep b o e n hb (by simp)) (λb o _ hb _ e n=>u.slot b o e n hb (by simp)) (λb o _ e n=>u.free b o e n (by simp)) (λb o _ e=>u.there b o e (by simp)) u.tups u.frzs u.tbls (λm' hm=>by
  obtain⟨o',es',ep',ho',r'⟩:=hm;rw[ho] at ho';cases ho';exact⟨_,es',ep',hL,r'⟩) hok I.bare
theorem ay.call{g':Array GenState}{t':Nat}{d':Drawn}{ch:List Addr}(I:ay X pins σ H s)(u:Un (gK X.stack) ch H H' s.heap h')(hok:iW X.prog X.w H' h')(hg:AllBare g')
  (hch:∀b∈ch,(b∈X.ex\/X.s₀.heap.objs.size<=b)/\b≠X.env.locals/\(∀x c,X.env.cells.lookup x=some c->c≠b) /\ ∀p∈X.pn++pins,p.1≠b) :
  ay X pins σ H' { s with heap:=h',gens:=g',drawn:=d',toks:=t' }:=by
 obtain⟨m,⟨o,es,ep,ho,r⟩,_⟩:=id I.loc;obtain⟨sl,hL⟩:=u.any ho I.free λz=>(hch _ z).2.1 rfl;exact I.step (ch:=ch) hch (λb o hL hb hc e n=>u.keep b o e n (λz=>(Y2.mp (I.stkSub b z)).elim hL hb) hc) (λb o _ _ hc e n=>u.any e n hc) (λb o hc e n=>u.free b o e n hc) (λb o hc e=>u.there b o e hc) u.tups u.frzs u.tbls (λm' hm=>by
  obtain⟨o',es',ep',ho',r'⟩:=hm;rw[ho] at ho';cases ho';exact⟨_,es',ep',hL,r'⟩) hok hg
theorem ay.turned{t':Nat}{it:Addr}(I:ay X pins σ H s)(k:∀b o,b≠it->s.heap.get? b=some o->h'.get? b=some o)(hn:H it=none)(hL:it≠X.env.locals)
  (h1:it∈X.ex\/X.s₀.heap.objs.size<=it)(h2:∀x c,X.env.cells.lookup x=some c->c≠it)(h3:∀p∈X.pn++pins,p.1≠it):ay X pins σ H { s with heap:=h',toks:=t' }:=by
 have nit:∀b u,H b=some u->b≠it:=λb u e z=>by rw[z,hn] at e;cases e
 refine I.step (g':=s.gens) (d':=s.drawn) (ch:=[it]) (λb hb=>?_) (λb o _ _ hc e _=>k b o (λz=>hc (by simp[z])) e) (λb o _ _ hc e _=>⟨o.slots,k b o (λz=>hc (by simp[z])) e⟩) (λ_ _ _ _ n=>n)
  (λb o hc e=>⟨o,k b o (λz=>hc (by simp[z])) e⟩) (λ_ _ e=>e) (λ_ _ _ e=>e) (λb ps e=>⟨#[],by rw[e];simp⟩) (λm hm=>?_) (λb u e=>?_) I.bare
 .have e:b=it:=by simpa using hb
  subst e;exact⟨h1,hL,h2,h3⟩
 .obtain⟨o,es,ep,ho,r⟩:=hm;exact⟨o,es,ep,k _ o (Yk hL) ho,r⟩
 .refine (I.hok b u e).stay (λc v hc q=>k c v ?_ q) (λ_ q=>q) λ_ _ q=>q;rcases hc with z|z
  .rw[z];exact nit b u e
  .exact nit c _ z
theorem ay.tok(I:ay X pins σ H s)(t:Nat):ay X pins σ H { s with toks:=t }:=I.un (h':=s.heap) (t':=t) Un.refl I.hok
theorem ay.kept{t':Nat}(I:ay X pins σ H s)(k:∀b u,s.heap.get? b=some u->h'.get? b=some u):ay X pins σ H { s with heap:=h',toks:=t' }:=I.un (Un.kept k) (I.hok.kept k)
theorem ay.laid{a:Addr}{o:HO}{t':Nat}(I:ay X pins σ H s)(k:∀b u,s.heap.get? b=some u->h'.get? b=some u)(hp:s.heap.objs.size<=a)(new:bV X.prog X.w (upd H a o) h' a o) :
  ay X pins σ (upd H a o) { s with heap:=h',toks:=t' }:=I.un (Un.laid k hp (I.hok.fresh hp)) (I.hok.laid k hp new)
theorem ay.write{x e:Addr}{o:HO}{t':Nat}(I:ay X pins σ H s)(mu:Jr (H x))(he:e=x\/H e=some (.own x))(k:∀b u,b≠e->s.heap.get? b=some u->h'.get? b=some u)(heo:∃u,h'.get? e=some u)
  (new:bV X.prog X.w (upd H x o) h' x o):ay X pins σ (upd H x o) { s with heap:=h',toks:=t' }:=I.un (Un.write mu he k heo) (I.hok.write mu he k heo new)
theorem ay.pins_of{pins':List (Addr×Obj)}(I:ay X pins σ H s)(h:∀p∈pins',s.heap.get? p.1=some p.2/\H p.1=none/\p.1≠X.env.locals/\p.1∉X.fs /\ ∀v,p.2.data ≠ .cell v):ay X pins' σ H s :=
 ⟨I.ok,I.os,I.bare,I.base,I.loc,I.cell,I.free,I.freeC,λp hp=>(List.mem_append.mp hp).elim (λz=>I.pin p (Yl _ z)) (h p),I.hok,I.len⟩
theorem tO{N:List Str}(hN:N.Nodup) {i j:Nat}{x:Str}(a:N[i]? = some x)(b:N[j]? = some x):i=j:=by
 obtain⟨h1,e1⟩:=List.getElem?_eq_some_iff.mp a;obtain⟨h2,e2⟩:=List.getElem?_eq_some_iff.mp b;exact (List.getElem_inj hN).mp (e1.trans e2.symm)
theorem qj{M:Model}{A:Around}{E:Value->Shared->Prop}{i:Nat}{x:Str}{v:V}{u:Value}{Q:Unit->Shared->Prop}(I:ay X pins σ H s)(hN:X.N.Nodup)(hi:X.N[i]? = some x)(hx:CU X.env.scope x)(r:aY v u)
  (h:∀s',ay X pins (σ.set i (some v)) H s'->(∃a,Heap.SameBut a s.heap s'.heap/\(a=X.env.locals\/X.env.cells.lookup x=some a))->Q PUnit.unit s')(hf:X.fn x=true\/X.env.scope.names.lookup x=some .local:=by first|exact .inl rfl|exact .inr rfl|assumption):wpAny M A (storeName X.env x u) Q E s:=by
 obtain⟨m,hn,hl⟩:=id I.loc;have hcls:(X.env.scope.kind == .class || (X.env.scope.kind == .module && X.env.locals != X.env.globals))=false:=by rw[I.ok.kind];rfl
 have hiσ:i<σ.length:=by rw[I.len];exact (List.getElem?_eq_some_iff.mp hi).1
 have cne:=I.cne;have tracked:∀{a:Addr}{h':Heap},(∃o,s.heap.get? a=some o/\H a=none)->Heap.SameBut a s.heap h'->iW X.prog X.w H h':=λ{a h'} ha hs b ob e=>by
  obtain⟨_,_,hfree⟩:=ha;refine (I.hok b ob e).stay (λc w' hc q=>(hs.2 c ?_).trans q) (λ_ q=>q) λ_ _ q=>q;rintro rfl;rcases hc with rfl|hc
  .rw[hfree] at e;cases e
  .rw[hfree] at hc;cases hc
 rcases hx with hk|hk
 .refine wpAny_storeName_local hk hn (λh' hn' hs=>?_) hcls;obtain⟨oL,_,_,hoL,_⟩:=id hn;refine h _ ⟨I.ok,I.os,I.bare,⟨λb o e n hb hx=>?_,λb o e n hb hx=>?_,I.base.free,λb o e hx=>?_,I.base.tups,I.base.frzs,I.base.tbls⟩,⟨_,hn',λj y v' e1 e2 e3=>?_⟩,λy c e=>?_,I.free,I.freeC,λp hp=>?_,tracked ⟨oL,hoL,I.free⟩ hs,by simpa using I.len⟩ ⟨_,hs,.inl rfl⟩
  .exact (hs.2 b (Yf (Yd (Heap.lt_size e) I.ok.above))).trans (I.base.keep b o e n hb hx)
  .obtain⟨sl,e1⟩:=I.base.slot b o e n hb hx;exact⟨sl,(hs.2 b (Yf (Yd (Heap.lt_size e) I.ok.above))).trans e1⟩
  .obtain⟨o',e1⟩:=I.base.there b o e hx;exact⟨o',(hs.2 b (Yf (Yd (Heap.lt_size e) I.ok.above))).trans e1⟩
  .by_cases hj:j=i
   .subst hj;rw[hi] at e1;cases e1;rw[List.getElem?_set_self hiσ] at e2;cases e2;exact⟨u,r,.inl ⟨hk,by simp⟩⟩
   .rw[List.getElem?_set_ne (Yk hj)] at e2;obtain⟨u',r',q⟩:=hl j y v' e1 e2 e3;refine⟨u',r',?_⟩;rcases q with ⟨k,e⟩|⟨k,c,e,z⟩
    .refine .inl ⟨k,?_⟩;have:y≠x:=λe=>hj (tO hN e1 (e▸hi));simp[this,e]
    .exact .inr ⟨k,c,e,z.sameBut hs (cne y c e)⟩
  .obtain⟨w',z⟩:=I.cell y c e;exact⟨w',z.sameBut hs (cne y c e)⟩
  .obtain⟨e,n,ne,nf,d⟩:=I.pin p hp;exact⟨(hs.2 p.1 ne).trans e,n,ne,nf,d⟩
 .have hfn:X.fn x=true:=by
   rcases hf with z|z
   .exact z
   .rw[z] at hk;cases hk
  obtain⟨c,hc⟩:=I.ok.has x (.inl hk);obtain⟨w',z⟩:=I.cell x c hc;refine wpAny_storeName_cell I.ok.kind hk hc z (λh' hc' hs=>?_);obtain⟨oc,hoc,hocd⟩:=id z;refine h { s with heap:=h' } ⟨I.ok,I.os,I.bare,⟨λb o e n hb hx=>?_,λb o e n hb hx=>?_,I.base.free,λb o e hx=>?_,I.base.tups,I.base.frzs,I.base.tbls⟩,⟨m,hn.sameBut hs (Yk (cne x c hc)),λj y v' e1 e2 e3=>?_⟩,λy c' e=>?_,I.free,I.freeC,λp hp=>?_,tracked ⟨oc,hoc,I.freeC x c hc⟩ hs,by simpa using I.len⟩ ⟨c,hs,.inr hc⟩
  .exact (hs.2 b (Yf (Yd (Heap.lt_size e) (I.ok.cab x c hfn hc)))).trans (I.base.keep b o e n hb hx)
  .obtain⟨sl,e1⟩:=I.base.slot b o e n hb hx;exact⟨sl,(hs.2 b (Yf (Yd (Heap.lt_size e) (I.ok.cab x c hfn hc)))).trans e1⟩
  .obtain⟨o',e1⟩:=I.base.there b o e hx;exact⟨o',(hs.2 b (Yf (Yd (Heap.lt_size e) (I.ok.cab x c hfn hc)))).trans e1⟩
  .by_cases hj:j=i
   .subst hj;rw[hi] at e1;cases e1;rw[List.getElem?_set_self hiσ] at e2;cases e2;exact⟨u,r,.inr ⟨.inl hk,c,hc,hc'⟩⟩
   .rw[List.getElem?_set_ne (Yk hj)] at e2;obtain⟨u',r',q⟩:=hl j y v' e1 e2 e3;refine⟨u',r',?_⟩;rcases q with q|⟨k,c',e,z'⟩
    .exact .inl q
    .refine .inr ⟨k,c',e,z'.sameBut hs ?_⟩;rintro rfl;exact hj (tO hN e1 (I.ok.inj _ _ _ e hc▸hi))
  .by_cases hcc:c'=c
   .subst hcc;exact⟨_,hc'⟩
   .obtain⟨w2,z2⟩:=I.cell y c' e;exact⟨w2,z2.sameBut hs hcc⟩
  .obtain⟨e,n,ne,nf,d⟩:=I.pin p hp;refine⟨(hs.2 p.1 ?_).trans e,n,ne,nf,d⟩;intro q;rw[q,hoc] at e;have q':oc=p.2:=Ym e;exact d w' (by rw[<-q'];exact hocd)
theorem gH{M:Model}{A:Around}{E:Value->Shared->Prop}{i:Nat}{x:Str}{v:V}{u:Value}{Q:Unit->Shared->Prop}(I:ay X pins σ H s)(hN:X.N.Nodup)(hi:X.N[i]? = some x)(hx:CU X.env.scope x)(r:aY v u)
  (h:∀s',ay X pins (σ.set i (some v)) H s'->Q PUnit.unit s')(hf:X.fn x=true\/X.env.scope.names.lookup x=some .local:=by first|exact .inl rfl|exact .inr rfl|assumption):wpAny M A (storeName X.env x u) Q E s :=
 qj I hN hi hx r (λs' I' _=>h s' I') hf
theorem ay.call'{s':Shared}{ch:List Addr}(I:ay X pins σ H s)(ho:s'.os=s.os)(u:Un (gK X.stack) ch H H' s.heap s'.heap)(hok:iW X.prog X.w H' s'.heap)(hg:AllBare s'.gens)
  (hch:∀b∈ch,(b∈X.ex\/X.s₀.heap.objs.size<=b)/\b≠X.env.locals/\(∀x c,X.env.cells.lookup x=some c->c≠b) /\ ∀p∈X.pn++pins,p.1≠b):ay X pins σ H' s':=by
 obtain⟨h',g',d',t',o'⟩:=s';have e:o'=s.os:=ho;subst e;exact I.call (g':=g') (t':=t') (d':=d') u hok hg hch
end
abbrev XK:=Value->Option Addr->Hp->Prop
abbrev St:=List (Option V)
abbrev VK:=V->Hp->Prop
abbrev TE:=St->Hp->VK->Prop
abbrev TT:=St->Hp->(Bool->Hp->Prop)->Prop
abbrev TA:=St->Hp->(List V->Hp->Prop)->Prop
structure oA where
 nx:St->Hp->Prop
 rt:VK
 bk:St->Hp->Prop:=λ_ _=>False
 ct:St->Hp->Prop:=λ_ _=>False
abbrev TS:=oA->St->Hp->Prop
def EP(X:Cx)(pins:List (Addr×Obj))(σ:St)(Q:VK)(u:Value)(s':Shared):Prop:=∃v H',ay X pins σ H' s'/\aY v u/\Q v H'
def TP(X:Cx)(pins:List (Addr×Obj))(σ:St)(Q:Bool->Hp->Prop)(b:Bool)(s':Shared):Prop:=∃H',ay X pins σ H' s'/\Q b H'
def AP(X:Cx)(pins:List (Addr×Obj))(σ:St)(Q:List V->Hp->Prop)(us:List Value)(s':Shared):Prop:=∃vs H',ay X pins σ H' s'/\aN vs us/\Q vs H'
def SP(X:Cx)(pins:List (Addr×Obj))(D:oA)(f:Flow)(s':Shared):Prop :=
 match f with
 | .next=>∃σ' H',ay X pins σ' H' s'/\D.nx σ' H'
 | .brk=>∃σ' H',ay X pins σ' H' s'/\D.bk σ' H'
 | .cont=>∃σ' H',ay X pins σ' H' s'/\D.ct σ' H'
 | .ret u=>∃v σ' H',ay X pins σ' H' s'/\aY v u/\D.rt v H'
def PE(X:Cx)(e:Expr)(t:TE):Prop :=
 ∀(pins:List (Addr×Obj))(s:Shared)(σ:St)(H:Hp)(Q:VK),ay X pins σ H s->t σ H Q->wpAny (model X.prog X.w) X.A (eval e X.env) (EP X pins σ Q) X.xe s
def PT(X:Cx)(e:Expr)(t:TT):Prop :=
 ∀(pins:List (Addr×Obj))(s:Shared)(σ:St)(H:Hp)(Q:Bool->Hp->Prop),ay X pins σ H s->t σ H Q->wpAny (model X.prog X.w) X.A (isTrue e X.env (eval e X.env)) (TP X pins σ Q) X.xe s
def PW(X:Cx)(e:Expr)(t:TT):Prop :=
 ∀(whole:Sem Value)(pins:List (Addr×Obj))(s:Shared)(σ:St)(H:Hp)(Q:Bool->Hp->Prop),ay X pins σ H s->t σ H Q->wpAny (model X.prog X.w) X.A (isTrue e X.env whole) (TP X pins σ Q) X.xe s
theorem PW.pt{X:Cx}{e:Expr}{t:TT}(h:PW X e t):PT X e t:=h _
def PA(X:Cx)(es:List Expr)(t:TA):Prop :=
 ∀(pos:Pos)(pins:List (Addr×Obj))(s:Shared)(σ:St)(H:Hp)(Q:List V->Hp->Prop),ay X pins σ H s->t σ H Q->wpAny (model X.prog X.w) X.A (spliced (backTo pos (starEach es X.env))) (AP X pins σ Q) X.xe s
def PS(X:Cx)(st:Stmt)(t:TS):Prop :=
 ∀(pins:List (Addr×Obj))(s:Shared)(σ:St)(H:Hp)(D:oA),ay X pins σ H s->t D σ H->wpAny (model X.prog X.w) X.A (exec st X.env) (SP X pins D) X.xe s
def qL(X:Cx)(st:List Stmt)(t:TS):Prop :=
 ∀(pins:List (Addr×Obj))(s:Shared)(σ:St)(H:Hp)(D:oA),ay X pins σ H s->t D σ H->wpAny (model X.prog X.w) X.A (execs st X.env) (SP X pins D) X.xe s
theorem cw{α:Type}{t:Sem α}{Q Q':α->Shared->Prop}{M:Model}{A:Around}{E:Value->Shared->Prop}{s:Shared}(h:wpAny M A t Q E s)(hQ:∀a s,Q a s->Q' a s):wpAny M A t Q' E s:=wpAny_mono h hQ λ_ _ x=>x
section
variable {X:Cx}
def EA(i:Nat):TE:=λσ H Q=>∃v,σ[i]? = some (some v)/\Q v H
def tC(v:V):TE:=λ_ H Q=>Q v H
theorem Cd{i:Nat}{x:Str}{pos:Pos}(hN:X.N[i]? = some x)(hv:Go X.env.scope x)(hd:(x==("__debug__" : Str))=false:=by decide) (hcd:(x==("__classdict__" : Str))=false:=by decide):PE X (.Name x pos) (EA i):=by
 intro pins s σ H Q I h;obtain⟨v,e,h⟩:=h;obtain⟨m,hn,hl⟩:=I.loc;obtain⟨u,r,l⟩:=hl i x v hN e hv;have fin:EP X pins σ Q u s:=⟨v,H,I,r,h⟩;rcases l with ⟨hk,hm⟩|⟨hk,c,hc,hcell⟩
 .exact wpAny_Name (wpAny_loadName_local I.ok.kind hk hn hm fin) hd
 .rcases hk with hk|hk
  .exact wpAny_Name (wpAny_loadName_cell I.ok.kind hk hc hcell fin) hd
  .exact wpAny_Name (wpAny_loadName_free I.ok.kind hk hc hcell fin hcd) hd
theorem IP {i j pos}:PE X (.Constant (.int i) j pos) (tC (.int i)):=λ_ _ _ H _ I h=>wpAny_Constant_int ⟨.int i,H,I.tok _,⟨_,rfl⟩,h⟩
theorem JV {b j pos}:PE X (.Constant (.bool b) j pos) (tC (.bl b)):=λ_ _ _ H _ I h=>Constant_bool ⟨.bl b,H,I,rfl,h⟩
theorem Ic {j pos}:PE X (.Constant .none j pos) (tC .non):=λ_ _ _ H _ I h=>Constant_none ⟨.non,H,I,rfl,h⟩
theorem HH {x j pos}:PE X (.Constant (.str x) j pos) (tC (.str x)):=λ_ _ _ H _ I h=>Calls.Constant_str ⟨.str x,H,I.tok _,⟨_,rfl⟩,h⟩
def Gl(X:Cx)(x:Str):Prop:=X.env.kindOf x=some .globalImplicit
theorem i6{E:Value->Shared->Prop}{pins:List (Addr×Obj)}{s:Shared}{σ:St}{H:Hp}{x:Str}{u:Value}{pos:Pos}{Q:Value->Shared->Prop}(I:ay X pins σ H s)(hg:Gl X x)(hm:X.mg x=some u)(h:Q u s)
  (hd:(x==("__debug__" : Str))=false:=by decide):wpAny (model X.prog X.w) X.A (eval (.Name x pos) X.env) Q E s :=
 Calls.Name_function_global I.ok.kind hg (Calls.loadGlobal_global (by rw[I.ok.glob];exact I.mod.glob.keeps I.bk) hm h) hd
theorem iy{E:Value->Shared->Prop}{pins:List (Addr×Obj)}{s:Shared}{σ:St}{H:Hp}{x:Str}{u:Value}{pos:Pos}{Q:Value->Shared->Prop}(I:ay X pins σ H s)(hg:Gl X x)(hm:X.mg x=none)(hv:bootBuiltins x=some u)(h:Q u s)
  (hn:x ≠ "__name__":=by decide) (hd:(x==("__debug__" : Str))=false:=by decide):wpAny (model X.prog X.w) X.A (eval (.Name x pos) X.env) Q E s:=by
 obtain⟨mb,h1,h2⟩:=I.mod.blt;exact Calls.Name_function_global I.ok.kind hg (Calls.loadGlobal_builtin (by rw[I.ok.glob];exact I.mod.glob.keeps I.bk) hm (by rw[I.ok.blt];exact h1.keeps I.bk) ((h2 x hn).trans hv) h) hd
theorem EC{x:Str}{v:V}{u:Value}{pos:Pos}(hg:Gl X x)(hm:X.mg x=some u)(r:aY v u)(hd:(x==("__debug__" : Str))=false:=by decide):PE X (.Name x pos) (tC v) :=
 λ_ _ _ H _ I h=>i6 I hg hm ⟨v,H,I,r,h⟩ hd
theorem Ec{x:Str}{v:V}{u:Value}{pos:Pos}(hg:Gl X x)(hm:X.mg x=none)(hv:bootBuiltins x=some u)(r:aY v u)(hn:x ≠ "__name__":=by decide) (hd:(x==("__debug__" : Str))=false:=by decide):PE X (.Name x pos) (tC v) :=
 λ_ _ _ H _ I h=>iy I hg hm hv ⟨v,H,I,r,h⟩ hn hd
variable {a b:Expr}{ta tb:TE}{pos:Pos}
def tB(t:TE):TT:=λσ H Q=>t σ H λx H1=>∃c,x=.bl c/\Q c H1
theorem HQ{e:Expr}{t:TE}(h:PE X e t)(he:∀whole,isTrue e X.env whole=(do let v <-whole;standAt e.pos;holding [v] (truthy v)):=by intro _;rfl):PT X e (tB t):=by
 intro pins s σ H Q I hw;refine isTrue_plain (cw (h pins s σ H _ I hw) λv s1 ⟨x,H1,I1,r1,q1⟩=>?_) (he _);obtain⟨d,rfl,q⟩:=q1;cases r1;exact wpAny_truthy_bool ⟨H1,I1,q⟩
variable {tA tB':TT}{rest:List Expr}
def Gq(t u:TT):TT:=λσ H Q=>t σ H λc H1=>if c=true then u σ H1 Q else Q false H1
def K9(t u:TT):TT:=λσ H Q=>t σ H λc H1=>if c=true then Q true H1 else u σ H1 Q
def Ir(t:TT):TT:=λσ H Q=>t σ H λc H1=>Q (!c) H1
theorem D8(ha:PT X a tA):PW X (.BoolOp .And [a] pos) tA:=by
 intro wh pins s σ H Q I h;refine isTrue_and (cw (ha pins s σ H Q I h) λc s1 e=>?_);cases c with
 | true=>exact isTrue_and_nil e
 | false=>exact e
theorem GI(ha:PT X a tA):PW X (.BoolOp .Or [a] pos) tA:=by
 intro wh pins s σ H Q I h;refine isTrue_or (cw (ha pins s σ H Q I h) λc s1 e=>?_);cases c with
 | false=>exact isTrue_or_nil e
 | true=>exact e
theorem Gi(ha:PT X a tA)(hb:PW X (.BoolOp .And (b::rest) pos) tB'):PW X (.BoolOp .And (a::b::rest) pos) (Gq tA tB'):=by
 intro wh pins s σ H Q I h;refine isTrue_and (cw (ha pins s σ H _ I h) λc s1 ⟨H1,I1,q1⟩=>?_);cases c with
 | true=>exact hb wh pins s1 σ H1 Q I1 q1
 | false=>exact⟨H1,I1,q1⟩
theorem JM(ha:PT X a tA)(hb:PW X (.BoolOp .Or (b::rest) pos) tB'):PW X (.BoolOp .Or (a::b::rest) pos) (K9 tA tB'):=by
 intro wh pins s σ H Q I h;refine isTrue_or (cw (ha pins s σ H _ I h) λc s1 ⟨H1,I1,q1⟩=>?_);cases c with
 | true=>exact⟨H1,I1,q1⟩
 | false=>exact hb wh pins s1 σ H1 Q I1 q1
theorem Iy(ha:PT X a tA):PT X (.UnaryOp .Not a pos) (Ir tA):=by
 intro pins s σ H Q I h;exact isTrue_not (ha pins s σ H (λc H1=>Q (!c) H1) I h)
def wR(ta tb:TE):TE:=λσ H Q=>ta σ H λx H1=>∃c,x=.bl c/\if c=true then tb σ H1 Q else Q (.bl false) H1
def JT(ta tb:TE):TE:=λσ H Q=>ta σ H λx H1=>∃c,x=.bl c/\if c=true then Q (.bl true) H1 else tb σ H1 Q
def F4(ta:TE):TE:=λσ H Q=>ta σ H λx H1=>∃c,x=.bl c/\Q (.bl (!c)) H1
theorem Gf {op}{t:TE}(h:PE X a t):PE X (.BoolOp op [a] pos) t:=λpins s σ H Q I hw=>BoolOp_one (h pins s σ H Q I hw)
theorem GS(ha:PE X a ta)(hb:PE X (.BoolOp .And (b::rest) pos) tb):PE X (.BoolOp .And (a::b::rest) pos) (wR ta tb):=by
 intro pins s σ H Q I h;refine BoolOp_and (cw (ha pins s σ H _ I h) λv s1 ⟨x,H1,I1,r1,q1⟩=>?_);obtain⟨c,rfl,q1⟩:=q1;cases r1;refine wpAny_truthy_bool ?_;cases c with
 | true=>exact hb pins s1 σ H1 Q I1 q1
 | false=>exact⟨.bl false,H1,I1,rfl,q1⟩
def Lh(t:TT)(ta tb:TE):TE:=λσ H Q=>t σ H λc H1=>if c=true then ta σ H1 Q else tb σ H1 Q
theorem zM{c:Expr}(hc:PT X c tA)(ha:PE X a ta)(hb:PE X b tb):PE X (.IfExp c a b pos) (Lh tA ta tb):=by
 intro pins s σ H Q I h;refine wpAny_IfExp (cw (hc pins s σ H _ I h) λd s1 ⟨H1,I1,q1⟩=>?_);cases d with
 | true=>exact ha pins s1 σ H1 Q I1 q1
 | false=>exact hb pins s1 σ H1 Q I1 q1
end
def jN(K:W.Frag)(H:Hp)(a:Addr)(xs:List V):Prop :=
 Rd H a (.lst xs) \/
  ∃(o:Obj)(its:Array Value)(n:Nat),K.lookup a=some o/\o.cls=.type "list" /\ o.dict=none/\o.data=.seq its n/\its.size<=sizeLine/\aN xs its.toList
def xJ(K:W.Frag)(H:Hp)(a:Addr)(xs:List V):Prop :=
 Rd H a (.tup xs) \/
  ∃(o:Obj)(its:Array Value)(n:Nat),K.lookup a=some o/\o.cls=.type "tuple" /\ o.data=.seq its n/\its.size<=sizeLine/\aN xs its.toList
def Jw:Value->Option V
 | .none=>some .non
 | .bool b=>some (.bl b)
 | .int i _=>some (.int i)
 | .str x _=>some (.str x)
 | .bytes b _=>some (.byt b)
 | .float b _=>some (.flt b)
 | .ref a=>some (.ref a)
 | .type n=>some (.ty n)
 | _=>none
theorem aY.abs{x:V}{u:Value}(r:aY x u):Jw u=some x:=by
 cases x with
 | non=>cases r;rfl
 | bl _=>cases r;rfl
 | int _=>obtain⟨t,rfl⟩:=r;rfl
 | str _=>obtain⟨t,rfl⟩:=r;rfl
 | byt _=>obtain⟨t,rfl⟩:=r;rfl
 | flt _=>obtain⟨t,rfl⟩:=r;rfl
 | ref _=>cases r;rfl
 | ty _=>cases r;rfl
theorem aY.inj{x y:V}{u:Value}(r:aY x u)(q:aY y u):x=y:=Ym (r.abs.symm.trans q.abs)
theorem aN.inj:∀{xs ys:List V}{us:List Value},aN xs us->aN ys us->xs=ys
 | _,_,_,.nil,.nil=>rfl
 | _,_,_,.cons r t,.cons r' t'=>by rw[r.inj r',aN.inj t t']
section
variable {X:Cx}{pins:List (Addr×Obj)}{σ:St}{H:Hp}{s:Shared}{a:Addr}{xs ys:List V}
theorem jN.of{K:W.Frag}(h:H a=some (.lst xs)):jN K H a xs:=.inl (.inl h)
theorem xJ.of{K:W.Frag}(h:H a=some (.tup xs)):xJ K H a xs:=.inl (.inl h)
theorem ay.list(I:ay X pins σ H s)(h:jN X.K H a xs):∃its:List Value,aN xs its/\PlainL s.heap a its.toArray/\xs.length<=sizeLine:=by
 rcases h with h|⟨o,its,n,hk,hc,hd,hs,hz,r⟩
 .obtain⟨z,its,n,r,e⟩:=h.ok I.hok;exact⟨its,r,⟨_,n,e,rfl,rfl,rfl⟩,z⟩
 .refine⟨its.toList,r,⟨o,n,I.kIn a o hk,hc,hd,by simpa using hs⟩,?_⟩
  have e:=r.length;simp only[Array.length_toList] at e;nofun
theorem ay.tuple(I:ay X pins σ H s)(h:xJ X.K H a xs):∃its:List Value,aN xs its/\IsTup s.heap a its.toArray/\xs.length<=sizeLine:=by
 rcases h with h|⟨o,its,n,hk,hc,hs,hz,r⟩
 .obtain⟨z,its,r,p⟩:=h.ok I.hok;exact⟨its,r,p,z⟩
 .refine⟨its.toList,r,⟨o,I.kIn a o hk,hc,n,by simpa using hs⟩,?_⟩
  have e:=r.length;simp only[Array.length_toList] at e;nofun
theorem ay.list_inj(I:ay X pins σ H s)(h:jN X.K H a xs)(h':jN X.K H a ys):xs=ys:=by
 obtain⟨its,r,⟨o,n,e,_,_,d⟩,_⟩:=I.list h;obtain⟨its',r',⟨o',n',e',_,_,d'⟩,_⟩:=I.list h';rw[e] at e';cases e';rw[d] at d';injection d' with d1 _
 have:its=its':=by simpa using Yn Array.toList d1
 subst this;exact r.inj r'
end
abbrev Cx.wish (X:Cx)(E:Value->Shared->Prop):Cx:={ X with xe:=E }
abbrev Cx.nox (X:Cx):Cx:=X.wish λ_ _=>False
theorem Cx.Ok.wish{X:Cx}(ok:X.Ok)(E:Value->Shared->Prop):(X.wish E).Ok :=
 ⟨ok.mod,ok.kind,ok.glob,ok.blt,ok.above,ok.inj,ok.has,ok.cab,ok.hd,ok.frames,ok.stk,ok.exf,ok.bs,ok.bsz,ok.noex,ok.exfs,ok.funs,ok.frf⟩
theorem Cx.Ok.unwish{X:Cx}{E:Value->Shared->Prop}(ok:(X.wish E).Ok):X.Ok :=
 ⟨ok.mod,ok.kind,ok.glob,ok.blt,ok.above,ok.inj,ok.has,ok.cab,ok.hd,ok.frames,ok.stk,ok.exf,ok.bs,ok.bsz,ok.noex,ok.exfs,ok.funs,ok.frf⟩
section
variable {X:Cx}{pins:List (Addr×Obj)}{σ:St}{H:Hp}{s:Shared}{E:Value->Shared->Prop}
theorem ay.wish(I:ay X pins σ H s)(E:Value->Shared->Prop):ay (X.wish E) pins σ H s:=⟨I.ok.wish E,I.os,I.bare,I.base,I.loc,I.cell,I.free,I.freeC,I.pin,I.hok,I.len⟩
theorem ay.unwish(I:ay (X.wish E) pins σ H s):ay X pins σ H s:=⟨I.ok.unwish,I.os,I.bare,I.base,I.loc,I.cell,I.free,I.freeC,I.pin,I.hok,I.len⟩
theorem SP.unwish{D:oA}{f:Flow}{s':Shared}(h:SP (X.wish E) pins D f s'):SP X pins D f s':=by
 cases f with
 | next=>obtain⟨σ',H',I,q⟩:=h;exact⟨σ',H',I.unwish,q⟩
 | brk=>obtain⟨σ',H',I,q⟩:=h;exact⟨σ',H',I.unwish,q⟩
 | cont=>obtain⟨σ',H',I,q⟩:=h;exact⟨σ',H',I.unwish,q⟩
 | ret u=>obtain⟨v,σ',H',I,r,q⟩:=h;exact⟨v,σ',H',I.unwish,r,q⟩
theorem qL.nox{st:List Stmt}{t:TS}(h:qL X.nox st t):qL X st t:=λpins s σ H D I hw =>
 wpAny_mono (h pins s σ H D (I.wish _) hw) (λ_ _ q=>q.unwish) λ_ _ z=>False.elim z
end
section
variable {X:Cx}{st:Stmt}{rest:List Stmt}{t u:TS}{e:Expr}{te:TE}{pos:Pos}
def Aq:TS:=λD σ H=>D.nx σ H
def aR(t u:TS):TS:=λD σ H=>t { D with nx:=u D } σ H
theorem EG:qL X [] Aq:=λ_ _ σ H _ I h=>wpAny_execs_nil ⟨σ,H,I,h⟩
theorem Ac(h1:PS X st t)(h2:qL X rest u):qL X (st::rest) (aR t u):=by
 intro pins s σ H D I h;refine wpAny_execs_cons (cw (h1 pins s σ H { D with nx:=u D } I h) λf s1 q=>?_)
 cases f with
 | next =>
  obtain⟨σ',H',I',q⟩:=q;exact h2 pins s1 σ' H' D I' q
 | ret v=>exact q
 | brk=>exact q
 | cont=>exact q
theorem CY(h1:PS X st t):qL X [st] t:=by
 intro pins s σ H D I h;refine wpAny_execs_cons (cw (h1 pins s σ H D I h) λf s1 q=>?_);cases f with
 | next=>exact wpAny_execs_nil q
 | ret v=>exact q
 | brk=>exact q
 | cont=>exact q
theorem ay.quiet{pins:List (Addr×Obj)}{σ:St}{H:Hp}{s:Shared}(I:ay X pins σ H s):interactive X.env=false:=by simp[interactive,I.ok.kind]
def CO(te:TE):TS:=λD σ H=>te σ H λ_ H1=>D.nx σ H1
theorem Es(he:PE X e te)(hs:swapsWith e none pos.line X.env=pure false:=by rfl):PS X (.Expr e pos) (CO te):=by
 intro pins s σ H D I h;exact wpAny_Expr_any (cw (he pins s σ H _ I h) λv s1 ⟨x,H1,I1,r1,q1⟩=>⟨σ,H1,I1,q1⟩) I.quiet hs
def Gr(te:TE):TS:=λD σ H=>te σ H D.rt
theorem Il(he:PE X e te):PS X (.Return (some e) pos) (Gr te):=by
 intro pins s σ H D I h;exact wpAny_Return_some (cw (he pins s σ H _ I h) λv s1 ⟨x,H1,I1,r1,q1⟩=>⟨x,σ,H1,I1,r1,q1⟩)
def JI:TS:=λD _ H=>D.rt .non H
def Ih(c:TT)(t u:TS):TS:=λD σ H=>c σ H λb H1=>if b=true then t D σ H1 else u D σ H1
theorem Ju{c:Expr}{a b:List Stmt}{tc:TT}(hc:PT X c tc)(ha:qL X a t)(hb:qL X b u):PS X (.If c a b pos) (Ih tc t u):=by
 intro pins s σ H D I h;refine wpAny_If (cw (hc pins s σ H _ I h) λd s1 ⟨H1,I1,q1⟩=>?_);cases d with
 | true=>exact ha pins s1 σ H1 D I1 q1
 | false=>exact hb pins s1 σ H1 D I1 q1
def oH:TS:=λ_ _ _=>False
theorem zO:PS X st oH:=λ_ _ _ _ _ _ h=>h.elim
theorem yA{sts:List Stmt}:qL X sts oH:=λ_ _ _ _ _ _ h=>h.elim
end
abbrev TG:=V->St->Hp->(St->Hp->Prop)->Prop
abbrev zw:=List V->St->Hp->(St->Hp->Prop)->Prop
def PG(X:Cx)(target:Expr)(t:TG):Prop :=
 ∀(pins:List (Addr×Obj))(s:Shared)(σ:St)(H:Hp)(v:V)(u:Value)(Q:St->Hp->Prop),ay X pins σ H s->aY v u->t v σ H Q ->
  wpAny (model X.prog X.w) X.A (assign target X.env u) (λ_ s'=>∃σ' H',ay X pins σ' H' s'/\Q σ' H') X.xe s
def Ja(X:Cx)(ts:List Expr)(t:zw):Prop :=
 ∀(pins:List (Addr×Obj))(s:Shared)(σ:St)(H:Hp)(vs:List V)(us:List Value)(Q:St->Hp->Prop),ay X pins σ H s->aN vs us->t vs σ H Q ->
  wpAny (model X.prog X.w) X.A (assignInOrder ((assignEach ts X.env).map (·.2)) us) (λ_ s'=>∃σ' H',ay X pins σ' H' s'/\Q σ' H') X.xe s
abbrev vx:=V->V->V->Hp->(Hp->Prop)->Prop
def yq(X:Cx)(t:vx):Prop :=
 ∀(pins:List (Addr×Obj))(s:Shared)(σ:St)(H:Hp)(o i v:V)(ov iv u:Value)(Q:Hp->Prop),ay X pins σ H s->aY o ov->aY i iv->aY v u->t o i v H Q ->
  wpAny (model X.prog X.w) X.A (setItem ov iv u) (λ_ s'=>∃H',ay X pins σ H' s'/\Q H') X.xe s
abbrev CS:=V->V->Hp->VK->Prop
def Fn(X:Cx)(op:Operator)(t:CS):Prop :=
 ∀(pins:List (Addr×Obj))(s:Shared)(σ:St)(H:Hp)(x y:V)(v u:Value)(Q:VK),ay X pins σ H s->aY x v->aY y u->t x y H Q ->
  wpAny (model X.prog X.w) X.A (inplaceOp op v u) (EP X pins σ Q) X.xe s
section
variable {X:Cx}{pos:Pos}
def gn(i:Nat):TG:=λv σ H Q=>Q (σ.set i (some v)) H
theorem En{i:Nat}{x:Str}(hN:X.N.Nodup)(hi:X.N[i]? = some x)(hx:CU X.env.scope x)(hf:X.fn x=true\/X.env.scope.names.lookup x=some .local:=by first|exact .inl rfl|exact .inr rfl|assumption):PG X (.Name x pos) (gn i):=by
 intro pins s σ H v u Q I r h;exact wpAny_assign_Name (gH I hN hi hx r (λs' I'=>⟨_,H,I',h⟩) hf)
def vj:zw:=λvs σ H Q=>vs=[]/\Q σ H
def jm(t:TG)(u:zw):zw:=λvs σ H Q=>∃v r,vs=v::r/\t v σ H λσ' H'=>u r σ' H' Q
theorem Dz:Ja X [] vj:=by
 intro pins s σ H vs us Q I r h;obtain⟨e,h⟩:=h;subst e;cases r;exact assignInOrder_nil ⟨σ,H,I,h⟩
theorem AI{e:Expr}{es:List Expr}{t:TG}{u:zw}(h1:PG X e t)(h2:Ja X es u)
  (hs:(assignEach (e::es) X.env).map (·.2)=assign e X.env::(assignEach es X.env).map (·.2):=by rfl):Ja X (e::es) (jm t u):=by
 intro pins s σ H vs us Q I r h;obtain⟨v,vr,e1,h⟩:=h;subst e1;cases r with
 | cons r rr =>
  rw[hs];refine assignInOrder_cons (cw (h1 pins s σ H _ _ _ I r h) λ_ s1 ⟨σ1,H1,I1,q1⟩=>?_);exact h2 pins s1 σ1 H1 _ _ Q I1 rr q1
def Jx(K:W.Frag)(n:Nat)(t:zw):TG:=λv σ H Q=>∃a xs,v=.ref a/\xJ K H a xs/\xs.length=n/\t xs σ H Q
theorem HU{es:List Expr}{k:Nat}{t:zw}{n:Nat}(hc:X.calm=true)(h:Ja X es t)
  (hn:(assignEach es X.env).length=n:=by rfl)(hst:(assignEach es X.env).findIdx? (·.1)=none:=by rfl):PG X (.Tuple es k pos) (Jx X.K n t):=by
 intro pins s σ H v u Q I r hw;obtain⟨a,xs,e1,hq,hl,hw⟩:=hw;subst e1;cases r;obtain⟨its,rv,ht,hz⟩:=I.tuple hq;refine assign_Tuple_tuple (I.ok.hd hc) ht (by simp[hn,<-hl,rv.length]) hst λh' hx=>?_
 have I1:ay X pins σ H { s with heap:=h' }:=I.kept (t':=s.toks) λb o e=>hx b o (Yf (Heap.lt_size e)) e
 exact h pins _ σ H xs _ Q I1 (by simpa using rv) hw
def Hz(to ti:TE)(t:vx):TG:=λv σ H Q=>to σ H λo H1=>ti σ H1 λi H2=>t o i v H2 λH3=>Q σ H3
theorem IV{o i:Expr}{to ti:TE}{t:vx}(ho:PE X o to)(hi:PE X i ti)(hs:yq X t)
  (ha:∀v,assign (.Subscript o i pos) X.env v=(do
   let ov <-holding [v] (eval o X.env)
   let iv <-holding [v,ov] (eval i X.env)
   standAt pos
   holding [v,ov,iv] (setItem ov iv v)
   release [v,ov,iv] []):=by intro _;rfl):PG X (.Subscript o i pos) (Hz to ti t):=by
 intro pins s σ H v u Q I r h;rw[ha];refine wpAny_bind (wpAny_holding (cw (ho pins s σ H _ I h) λov s1 ⟨x,H1,I1,r1,q1⟩=>?_));refine wpAny_bind (wpAny_holding (cw (hi pins s1 σ H1 _ I1 q1) λiv s2 ⟨y,H2,I2,r2,q2⟩=>?_));refine wpAny_bind (wpAny_standAt (wpAny_bind (wpAny_holding (cw (hs pins s2 σ H2 x y v ov iv u _ I2 r1 r2 r q2) λ_ s3 ⟨H3,I3,q3⟩=>?_))));exact wpAny_release ⟨σ,H3,I3,q3⟩
def tH(te:TE)(g:TG):TS:=λD σ H=>te σ H λx H1=>g x σ H1 D.nx
theorem Ia{tg e:Expr}{te:TE}{g:TG}(he:PE X e te)(hg:PG X tg g)(hs:swapsWithSole [tg] e pos.line X.env=pure false:=by rfl)(hw:swappedStores [tg] e X.env=pure none:=by rfl)
  (h1:(assignEach [tg] X.env).map (·.2)=[assign tg X.env]:=by rfl):PS X (.Assign [tg] e pos) (tH te g):=by
 intro pins s σ H D I h;refine wpAny_Assign_stores (cw (he pins s σ H _ I h) λv s1 ⟨x,H1,I1,r1,q1⟩=>?_) hs hw;rw[h1];exact cw (hg pins s1 σ H1 x v _ I1 r1 q1) λ_ s2 q=>q
theorem GJ{i:Nat}{x:Str}{e:Expr}{te:TE}{pos':Pos}(hN:X.N.Nodup)(hi:X.N[i]? = some x)(hx:CU X.env.scope x)(he:PE X e te)(hs:swapsWith e (some (.Name x pos')) pos.line X.env=pure false:=by rfl)(hf:X.fn x=true\/X.env.scope.names.lookup x=some .local:=by first|exact .inl rfl|exact .inr rfl|assumption) :
  PS X (.Assign [.Name x pos'] e pos) (tH te (gn i)):=by
 intro pins s σ H D I h;refine wpAny_Assign_Name (cw (he pins s σ H _ I h) λv s1 ⟨y,H1,I1,r1,q1⟩=>?_) hs;exact gH I1 hN hi hx r1 (λs2 I2=>⟨_,H1,I2,q1⟩) hf
def EU(i j:Nat)(ta:TA):TS:=λD σ H=>ta σ H λvs H1=>∃v w,vs=[v,w]/\D.nx ((σ.set i (some v)).set j (some w)) H1
theorem Iq{i j:Nat}{x y:Str}{a b:Expr}{ta:TA}{px py pt:Pos} {kt k2 pt2}(hc:X.calm=true)(hN:X.N.Nodup)(hi:X.N[i]? = some x)(hj:X.N[j]? = some y)(hij:i≠j)
  (hx:X.env.scope.names.lookup x=some .local)(hy:X.env.scope.names.lookup y=some .local)(ha:PA X [a,b] ta)
  (hw:swappedStores [.Tuple [.Name x px,.Name y py] kt pt] (.Tuple [a,b] k2 pt2) X.env=pure (some [x,y]))
  (hs:swapsWithSole [.Tuple [.Name x px,.Name y py] kt pt] (.Tuple [a,b] k2 pt2) pos.line X.env=pure false:=by rfl) :
  PS X (.Assign [.Tuple [.Name x px,.Name y py] kt pt] (.Tuple [a,b] k2 pt2) pos) (EU i j ta):=by
 intro pins s σ H D I h;rw[exec_Assign_arm];refine wpAny_bind (wpAny_standAt ?_);rw[hs];refine wpAny_bind (wpAny_pure ?_);rw[Yc ∅];refine wpAny_bind (Tuple_ (cw (ha _ pins s σ H _ I h) λus s1 ⟨vs,H1,I1,r1,q1⟩=>?_));obtain⟨v,w,e1,q1⟩:=q1;subst e1;obtain⟨u1,u2,rfl,rv,rw'⟩ : ∃u1 u2,us=[u1,u2]/\aY v u1/\aY w u2:=by
  cases r1 with
  | cons p q =>
   cases q with
   | cons p' q' =>
    cases q';exact⟨_,_,rfl,p,p'⟩
 refine wpAny_newObj_type ?_ (by show 2<=sizeLine;decide)
 have I2:ay X pins σ H1 { s1 with heap:=s1.heap.push { cls:=.type "tuple",data:=.seq [u1,u2].toArray } }:=I1.kept (t':=s1.toks) λb o e=>Heap.get?_push_of_some _ e
 rw[hw];refine wpAny_bind (wpAny_pure ?_);show wpAny (model X.prog X.w) X.A (do rule "assign.swapped-stores";let items <-unpackItems (.ref s1.heap.objs.size) 2 none;assignInOrder [λv=>bindName X.env y v,λv=>bindName X.env x v] items.reverse;pure Flow.next) _ _ _
 refine wpAny_bind (wpAny_rule (wpAny_bind (unpackItems_tuple (items:=#[u1,u2]) (I.ok.hd hc) (IsTup.new s1.heap _) λh' hx'=>?_)));have I3:=I2.kept (h':=h') (t':=s1.toks) λb o e=>hx' b o (Yf (Heap.lt_size e)) e;show wpAny _ _ (assignInOrder [λv=>bindName X.env y v,λv=>bindName X.env x v] [u2,u1] >>= λ_=>pure Flow.next) _ _ _
 refine wpAny_bind (assignInOrder_cons (wpAny_bindName (gH I3 hN hj (.inl hy) rw' (λs2 I4=>?_) (.inr hy))));refine assignInOrder_cons (wpAny_bindName (gH I4 hN hi (.inl hx) rv (λs3 I5=>assignInOrder_nil (wpAny_pure ?_)) (.inr hx)));rw[List.set_comm _ _ (Yk hij)] at I5;exact⟨_,H1,I5,q1⟩
def Hg(i:Nat)(te:TE)(ti:CS):TS:=λD σ H=>∃x,σ[i]? = some (some x)/\te σ H λy H1=>ti x y H1 λz H2=>D.nx (σ.set i (some z)) H2
theorem IR{i:Nat}{x:Str}{e:Expr}{te:TE}{op:Operator}{ti:CS}{pos':Pos}(hN:X.N.Nodup)(hi:X.N[i]? = some x)(hx:CU X.env.scope x)(he:PE X e te)(ho:Fn X op ti)(hf:X.fn x=true\/X.env.scope.names.lookup x=some .local:=by first|exact .inl rfl|exact .inr rfl|assumption) :
  PS X (.AugAssign (.Name x pos') op e pos) (Hg i te ti):=by
 intro pins s σ H D I h;obtain⟨v,e1,h⟩:=h;obtain⟨m,hn,hl⟩:=I.loc;have vis:Go X.env.scope x:=by rcases hx with k|k;exact .inl k;exact .inr (.inl k)
 obtain⟨u,r,l⟩:=hl i x v hi e1 vis;refine wpAny_AugAssign_Name ?_;have go:wpAny (model X.prog X.w) X.A (eval e X.env) (λw s₂=>wpAny (model X.prog X.w) X.A (inplaceOp op u w) (λr s₃=>wpAny (model X.prog X.w) X.A (storeName X.env x r) (λ_=>SP X pins D .next) X.xe s₃) X.xe s₂) X.xe s:=by
  refine cw (he pins s σ H _ I h) λw s1 ⟨y,H1,I1,r1,q1⟩=>?_;refine cw (ho pins s1 σ H1 v y u w _ I1 r r1 q1) λz s2 ⟨zv,H2,I2,r2,q2⟩=>?_;exact gH I2 hN hi hx r2 (λs3 I3=>⟨_,H2,I3,q2⟩) hf
 rcases l with ⟨hk,hm⟩|⟨hk,c,hc,hcell⟩
 .exact wpAny_loadName_local I.ok.kind hk hn hm go
 .rcases hk with hk|hk
  .exact wpAny_loadName_cell I.ok.kind hk hc hcell go
  .rcases hx with k|k
   .have:X.env.scope.names.lookup x=some .free:=hk;rw[k] at this;cases this
   .have:X.env.scope.names.lookup x=some .free:=hk;rw[k] at this;cases this
def Aa(to ti te:TE)(tget:V->V->Hp->VK->Prop)(tip:CS)(tset:vx):TS:=λD σ H=>to σ H λo H1=>ti σ H1 λi H2=>tget o i H2 λx H3=>te σ H3 λy H4=>tip x y H4 λz H5=>tset o i z H5 λH6=>D.nx σ H6
def Gj(X:Cx)(t:V->V->Hp->VK->Prop):Prop :=
 ∀(pins:List (Addr×Obj))(s:Shared)(σ:St)(H:Hp)(o i:V)(ov iv:Value)(Q:VK),ay X pins σ H s->aY o ov->aY i iv->t o i H Q ->
  wpAny (model X.prog X.w) X.A (getItem ov iv) (EP X pins σ Q) X.xe s
theorem Ee{o i e:Expr}{to ti te:TE}{tget:V->V->Hp->VK->Prop}{tip:CS}{tset:vx}{op:Operator}{tpos:Pos}(ho:PE X o to)(hi:PE X i ti)(hg:Gj X tget)(he:PE X e te)(hp:Fn X op tip)(hs:yq X tset)
  (ha:∀ov iv new,augStore i ov iv new=(do holding [new,ov,iv] (setItem ov iv new);release [new,ov,iv] [];pure .next):=by intros;rfl):PS X (.AugAssign (.Subscript o i tpos) op e pos) (Aa to ti te tget tip tset):=by
 intro pins s σ H D I h;refine wpAny_AugAssign_SubscriptAny (cw (ho pins s σ H _ I h) λov s1 ⟨x1,H1,I1,r1,q1⟩=>?_) ha;refine cw (hi pins s1 σ H1 _ I1 q1) λiv s2 ⟨x2,H2,I2,r2,q2⟩=>?_;refine cw (hg pins s2 σ H2 x1 x2 ov iv _ I2 r1 r2 q2) λold s3 ⟨x3,H3,I3,r3,q3⟩=>?_;refine cw (he pins s3 σ H3 _ I3 q3) λv s4 ⟨x4,H4,I4,r4,q4⟩=>?_;refine cw (hp pins s4 σ H4 x3 x4 old v _ I4 r3 r4 q4) λnew s5 ⟨x5,H5,I5,r5,q5⟩=>?_;exact cw (hs pins s5 σ H5 x1 x2 x5 ov iv new _ I5 r1 r2 r5 q5) λ_ s6 ⟨H6,I6,q6⟩=>⟨σ,H6,I6,q6⟩
def K0(f:Int->Int->Int):CS:=λx y H Q=>∃i j,x=.int i/\y=.int j/\Q (.int (f i j)) H
theorem GC:Fn X .Add (K0 λi j=>i+j):=by
 intro pins s σ H x y v u Q I r1 r2 h;obtain⟨i,j,e1,e2,q⟩:=h;subst e1;subst e2;obtain⟨t,rfl⟩:=r1;obtain⟨t',rfl⟩:=r2;exact iadd_int ⟨.int _,H,I.tok _,⟨_,rfl⟩,q⟩
theorem uY:Fn X .Sub (K0 λi j=>i-j):=by
 intro pins s σ H x y v u Q I r1 r2 h;obtain⟨i,j,e1,e2,q⟩:=h;subst e1;subst e2;obtain⟨t,rfl⟩:=r1;obtain⟨t',rfl⟩:=r2;exact isub_int ⟨.int _,H,I.tok _,⟨_,rfl⟩,q⟩
end
section
variable {X:Cx}{pos:Pos}
def lu(c:TT)(tb:TS):TS:=λD σ H=>∃W:Nat->St->Hp->Prop,(∃m,W m σ H) /\ ∀m σ H,W m σ H ->
 c σ H λb H1=>if b=true then ∃N:St->Hp->Prop,(∀σ' H',N σ' H' -> ∃m',m'<m/\W m' σ' H')/\tb { D with nx:=N,ct:=N,bk:=D.nx } σ H1 else D.nx σ H1
theorem zJ{c:Expr}{body:List Stmt}{tc:TT}{tb:TS}(hp:PassesOwn (model X.prog X.w) X.A X.env X.xe)(hc:PT X c tc)(hb:qL X body tb):PS X (.While c body [] pos) (lu tc tb):=by
 intro pins s σ H D I h;obtain⟨W,⟨m0,w0⟩,turn⟩:=h;refine wpAny_While (codeAny_whileLoop (λn s'=>∃σ' H',ay X pins σ' H' s'/\W n σ' H') ?_ m0 ⟨σ,H,I,w0⟩);rintro n s1 ⟨σ1,H1,I1,w1⟩;refine wpAny_passesOwn hp (cw (hc pins s1 σ1 H1 _ I1 (turn n σ1 H1 w1)) λb s2 ⟨H2,I2,q2⟩=>?_);cases b with
 | true =>
  obtain⟨N,hN,q2⟩:=q2;rw[Yb rfl];refine wpAny_passesOwn hp (cw (hb pins s2 σ1 H2 _ I2 q2) λf s3 q3=>?_);cases f with
  | next =>
   obtain⟨σ3,H3,I3,n3⟩:=q3;obtain⟨m',hm,w3⟩:=hN σ3 H3 n3;exact⟨m',hm,σ3,H3,I3,w3⟩
  | cont =>
   obtain⟨σ3,H3,I3,n3⟩:=q3;obtain⟨m',hm,w3⟩:=hN σ3 H3 n3;exact⟨m',hm,σ3,H3,I3,w3⟩
  | brk=>exact q3
  | ret v=>exact q3
 | false =>
  rw[Yc Yo];exact wpAny_execs_nil ⟨σ1,H2,I2,q2⟩
end
structure It where
 go:Nat->Hp->Prop
 yld:Nat->Hp->V->Hp->Prop
 stop:Nat->Hp->Prop
def kA(X:Cx)(pins:List (Addr×Obj))(H:Hp)(b:Addr):Prop :=
 H b=none/\b≠X.env.locals/\b∉X.fs/\(b∈X.ex\/X.s₀.heap.objs.size<=b)/\(∀x c,X.env.cells.lookup x=some c->c≠b) /\ ∀p∈X.pn++pins,p.1≠b
theorem ay.fpOk{X:Cx}{pins:List (Addr×Obj)}{σ:St}{H H':Hp}{s:Shared}{b:Addr}(I:ay X pins σ H s)(hb:s.heap.objs.size<=b)(hn:H' b=none):kA X pins H' b:=by
 refine⟨hn,Nat.ne_of_gt (Yd I.lt hb),I.nofs hb,.inr (Yg I.sz hb),λx c e z=>?_,λp hp z=>?_⟩
 .obtain⟨v,q⟩:=I.cell x c e;exact absurd (Yd q.lt (by rw[z];exact hb)) (Ye _)
 .exact absurd (Yd (Heap.lt_size (I.pin p hp).1) (by rw[z];exact hb)) (Ye _)
structure yo (P:Program)(w:World)(K:W.Frag)(tg:Expr)(J:It)(fp:List Addr)(it:Addr)(tn:Nat->Heap->Prop):Prop where
 mem:it∈fp
 obj:∀i h,tn i h -> ∀b∈fp,∃o,h.get? b=some o /\ ∀v,o.data ≠ .cell v
 keep:∀i h h',tn i h->(∀b∈fp,∀o,h.get? b=some o->h'.get? b=some o)->tn i h'
 item:∀(X:Cx),X.prog=P->X.w=w->X.K=K->X.calm=true -> ∀(i:Nat)(pins:List (Addr×Obj))(s:Shared)(σ:St)(H:Hp)(E:Value->Shared->Prop),ay X pins σ H s->(∀b∈fp,kA X pins H b)->tn i s.heap->J.go i H ->
  wpAny (model P w) X.A (pyNext (.ref it)) (λr s1=>∃u,r=some u /\
   wpAny (model P w) X.A (letOwnedTupleGo tg (.ref it) u) (λ_ s2=>∃x H',ay X pins σ H' s2/\aY x u/\J.yld i H x H'/\tn (i+1) s2.heap /\ ∀b∈fp,H' b=none) E s1) E s
 done:∀(X:Cx),X.prog=P->X.w=w->X.K=K->X.calm=true -> ∀(i:Nat)(pins:List (Addr×Obj))(s:Shared)(σ:St)(H:Hp)(E:Value->Shared->Prop),ay X pins σ H s->(∀b∈fp,kA X pins H b)->tn i s.heap->J.stop i H ->
  wpAny (model P w) X.A (pyNext (.ref it)) (λr s1=>r=none/\ay X pins σ H s1) E s
 self:∀(A:Around)(i:Nat)(s:Shared)(Q:Value->Shared->Prop)(E:Value->Shared->Prop),tn i s.heap->Q (.ref it) s->wpAny (model P w) A (pyIter (.ref it)) Q E s
abbrev TI:=St->Hp->(It->Hp->Prop)->Prop
def Lw(X:Cx)(pins:List (Addr×Obj))(σ:St)(tg:Expr)(R:It->Hp->Prop)(itv:Value)(s2:Shared):Prop :=
 ∃(it:Addr)(fp:List Addr)(tn:Nat->Heap->Prop)(J:It)(H':Hp),itv=.ref it/\ay X pins σ H' s2/\yo X.prog X.w X.K tg J fp it tn/\tn 0 s2.heap/\(∀b∈fp,kA X pins H' b)/\R J H'
def PI(X:Cx)(tg iter:Expr)(wi:TI):Prop :=
 ∀(pins:List (Addr×Obj))(s:Shared)(σ:St)(H:Hp)(R:It->Hp->Prop),ay X pins σ H s->wi σ H R ->
  wpAny (model X.prog X.w) X.A (eval iter X.env) (λv s1=>wpAny (model X.prog X.w) X.A (pyIter v) (Lw X pins σ tg R) X.xe s1) X.xe s
theorem wG{M:Model}{A:Around}{E:Value->Shared->Prop}{s:Shared}{tg:Expr}{it:Addr}{u:Value}{o:Obj}{n:String}{vs:Array Value}{Q:Unit->Shared->Prop}(ho:s.heap.get? it=some o)(hc:o.cls=.type n)(hd:o.data=.fields vs)
  (hn:["enumerate", "zip", "dict_itemiterator", "dict_reverseitemiterator", "odict_iterator", "itertools.zip_longest", "itertools.pairwise"].contains n=false) (hQ:Q PUnit.unit s):wpAny M A (letOwnedTupleGo tg (.ref it) u) Q E s:=by
 unfold letOwnedTupleGo;cases tg<;>first
  | exact wpAny_pure hQ
  | (cases u<;>first
    | exact wpAny_pure hQ
    | (refine wpAny_bind (wpAny_load ho ?_)
       rw[hc,hd];show wpAny M A (if (["enumerate", "zip", "dict_itemiterator", "dict_reverseitemiterator", "odict_iterator", "itertools.zip_longest", "itertools.pairwise"].contains n && vs[0]? == some (rawInt _))=true then _ else _) Q E s
       rw[Yc (by intro h;rw[hn,Bool.false_and] at h;cases h)]
       exact wpAny_pure hQ))
def KC(K:W.Frag)(a:Addr):It :=
 ⟨λi H=>∃xs x,jN K H a xs/\xs[i]? = some x,λi H x H'=>H'=H /\ ∀xs,jN K H a xs->xs[i]? = some x,λi H=>∃xs,jN K H a xs/\xs.length<=i⟩
def Lx(K:W.Frag)(a:Addr):It :=
 ⟨λi H=>∃xs x,xJ K H a xs/\xs[i]? = some x,λi H x H'=>H'=H /\ ∀xs,xJ K H a xs->xs[i]? = some x,λi H=>∃xs,xJ K H a xs/\xs.length<=i⟩
def IY(lo:Int)(n:Nat):It:=⟨λi _=>i<n,λi H x H'=>H'=H/\x=.int (lo+i),λi _=>n<=i⟩
theorem yP{P:Program}{w:World}{K:W.Frag}{tg:Expr}(a it:Addr):yo P w K tg (KC K a) [it] it (λi h=>h.IsListIter it a i) where
 mem:=by simp
 obj:=λi h st b hb=>by
  have e:b=it:=by simpa using hb
  subst e;obtain⟨o,e,c,d⟩:=st;exact⟨o,e,λv z=>by rw[d] at z;cases z⟩
 keep:=λi h h' st k=>st.at λo e=>k it (by simp) o e
 item:=by
  intro X hP hw hK hc i pins s σ H E I hf st hg;subst hP hw hK;obtain⟨xs,x,hq,hx⟩:=hg;obtain⟨its,rv,p,hz⟩:=I.list hq;obtain⟨u,hu,ru⟩:=rv.get hx;obtain⟨f0,f1,f2,f3,f4,f5⟩:=hf it (by simp)
  refine wpAny_pyNext_list_item st p.isList (x:=u) (by simpa using hu) λh' st' sb=>?_
  have I1:ay X pins σ H { s with heap:=h' }:=I.turned (t':=s.toks) (λb o hb e=>(sb.2 b hb).trans e) f0 f1 f3 f4 f5
  obtain⟨o,e,c,d⟩:=id st';exact⟨u,rfl,wG (s:={ s with heap:=h' }) e c d ∅ ⟨x,H,I1,ru,⟨rfl,λys hy=>by rw[I.list_inj hy hq];exact hx⟩,st',λb hb=>(hf b hb).1⟩⟩
 done:=by
  intro X hP hw hK hc i pins s σ H E I hf st hg;subst hP hw hK;obtain⟨xs,hq,hx⟩:=hg;obtain⟨its,rv,p,hz⟩:=I.list hq;obtain⟨f0,f1,f2,f3,f4,f5⟩:=hf it (by simp)
  have hl:=rv.length;exact wpAny_pyNext_list_end (I.ok.hd hc) st p.isList (by simp;nofun) λh' eb=>⟨rfl,I.turned (t':=s.toks) (λb o hb e=>eb b o hb e) f0 f1 f3 f4 f5⟩
 self:=λ_ _ _ _ _ st h=>wpAny_pyIter_listiter st h
theorem u8{P:Program}{w:World}{K:W.Frag}{tg:Expr}(it:Addr)(lo:Int)(n:Nat):yo P w K tg (IY lo n) [it] it (λi h=>IsRangeIter h it (lo+(i:Nat)*1) ((n:Int)-(i:Nat)) 1) where
 mem:=by simp
 obj:=λi h st b hb=>by
  have e:b=it:=by simpa using hb
  subst e;exact⟨_,st,λv z=>by
   have z':Data.fields _=Data.cell v:=z;cases z'⟩
 keep:=λi h h' st k=>k it (by simp) _ st
 item:=by
  intro X hP hw hK hc i pins s σ H E I hf st hg;subst hP hw hK;obtain⟨f0,f1,f2,f3,f4,f5⟩:=hf it (by simp)
  have W:=Walks.range (prog:=X.prog) (w:=X.w) (I.ok.hd hc) it lo 1 n;refine W.item i s _ _ hg st λv h' tk hv st' kk=>?_;obtain⟨t,rfl⟩:=hv;have I1:ay X pins σ H { s with heap:=h',toks:=tk }:=I.turned (λb o hb e=>kk b o (by simpa using hb) e) f0 f1 f3 f4 f5
  refine⟨_,rfl,wG (s:={ s with heap:=h',toks:=tk }) (n:="range_iterator") st' rfl rfl ∅ ⟨.int (lo+i),H,I1,⟨t,?_⟩,⟨rfl,rfl⟩,st',λb hb=>(hf b hb).1⟩⟩
  rw[Yp]
 done:=by
  intro X hP hw hK hc i pins s σ H E I hf st hg;subst hP hw hK;obtain⟨f0,f1,f2,f3,f4,f5⟩:=hf it (by simp)
  exact wpAny_pyNext_range_end (I.ok.hd hc) st (by have:n<=i:=hg;nofun) λh' eb=>⟨rfl,I.turned (t':=s.toks) (λb o hb e=>eb b o hb e) f0 f1 f3 f4 f5⟩
 self:=λ_ _ _ _ _ st h=>wpAny_pyIter_rangeiter st h
section
variable {X:Cx}{tg:Expr}
def we(K:W.Frag)(tl:TE):TI:=λσ H R=>tl σ H λx H1=>∃a,x=.ref a/\(∃xs,jN K H1 a xs)/\R (KC K a) H1
def KL(K:W.Frag)(tl:TE):TI:=λσ H R=>tl σ H λx H1=>∃a,x=.ref a/\(∃xs,xJ K H1 a xs)/\R (Lx K a) H1
theorem EO{l:Expr}{tl:TE}(hl:PE X l tl):PI X tg l (we X.K tl):=by
 intro pins s σ H R I h;refine cw (hl pins s σ H _ I h) λv s1 ⟨x,H1,I1,r1,q1⟩=>?_;obtain⟨a,e,⟨xs,hq⟩,q⟩:=q1;subst e;cases r1;obtain⟨its,rv,p,hz⟩:=I1.list hq;refine wpAny_pyIter_list p.isList ?_;refine⟨s1.heap.objs.size,[s1.heap.objs.size],_,_,H1,rfl,I1.kept (t':=s1.toks) λb o e=>Heap.get?_push_of_some _ e,yP a _,⟨_,Heap.get?_push_size _ rfl,rfl,rfl⟩,λb hb=>?_,q⟩;have e:b=s1.heap.objs.size:=by simpa using hb
 subst e;exact I1.fpOk (Yq _) (I1.hok.fresh (Yq _))
theorem t5{pins:List (Addr×Obj)}{σ:St}{H:Hp}{s:Shared}{R:It->Hp->Prop}{E:Value->Shared->Prop}{lo hi:Int}{t u v:Tok}{tk:Nat}(I:ay X pins σ H s)(h1 : -(2^62)<=lo)(h2:lo<2^62)(h3 : -(2^62)<=hi)(h4:hi<2^62)
  (q:R (IY lo (hi-lo).toNat) H):wpAny (model X.prog X.w) X.A (pyIter (.ref s.heap.objs.size)) (Lw X pins σ tg R) E { s with heap:=s.heap.push { cls:=.type "range",data:=.fields #[.int lo t,.int hi u,.int 1 v] },toks:=tk }:=by
 refine wpAny_pyIter_range (IsRange.new ..) (small_one h1 h2 h3 h4) ?_;have I1:ay X pins σ H { s with heap:=s.heap.push { cls:=.type "range",data:=.fields #[.int lo t,.int hi u,.int 1 v] },toks:=tk }:=I.kept λb o e=>Heap.get?_push_of_some _ e
 refine⟨(s.heap.push { cls:=.type "range",data:=.fields #[.int lo t,.int hi u,.int 1 v] }).objs.size,[(s.heap.push { cls:=.type "range",data:=.fields #[.int lo t,.int hi u,.int 1 v] }).objs.size],_,_,H,rfl,
  I1.kept (t':=tk) λb o e=>Heap.get?_push_of_some _ e,u8 _ lo (hi-lo).toNat,?_,λb hb=>?_,q⟩
 .have e1:lo+((0:Nat):Int)*1=lo:=by simp
  have e2:(((hi-lo).toNat:Nat):Int)-((0:Nat):Int)=Builtin.Range.rangeSize lo hi 1:=by rw[rangeSize_one];split<;>nofun
  show IsRangeIter _ _ (lo+((0:Nat):Int)*1) ((((hi-lo).toNat:Nat):Int)-((0:Nat):Int)) 1;rw[e1,e2];exact Heap.get?_push_size _ rfl
 .have e:b=(s.heap.push { cls:=.type "range",data:=.fields #[.int lo t,.int hi u,.int 1 v] }).objs.size:=by simpa using hb
  subst e;exact I1.fpOk (Yq _) (I1.hok.fresh (Yq _))
def wr(ta:TA):TI:=λσ H R=>ta σ H λvs H1=>∃j:Int,vs=[.int j] /\ -(2^62)<=j/\j<2^62/\R (IY 0 j.toNat) H1
def CL(ta:TA):TI:=λσ H R=>ta σ H λvs H1=>∃i j:Int,vs=[.int i,.int j]/\(-(2^62)<=i/\i<2^62 /\ -(2^62)<=j/\j<2^62)/\R (IY i (j-i).toNat) H1
theorem yk{a:Expr}{ta:TA}{p pos:Pos}(hg:Gl X "range") (hm:X.mg "range" = none) (ha:PA X [a] ta)(hs:starEach [a] X.env=[(false,eval a X.env)]:=by rfl):PI X tg (.Call (.Name "range" p) [a] [] pos) (wr ta):=by
 intro pins s σ H R I h;refine Call_ (iy I hg hm boot_range (Yr (cw (ha pos pins s σ H _ I h) λus s1 ⟨vs,H1,I1,r1,q1⟩=>?_) hs rfl));obtain⟨j,e,q1,q2,q⟩:=q1;subst e;cases r1 with
 | cons r rr =>
  cases rr;obtain⟨t,rfl⟩:=r;exact call_range_1 (t5 I1 () () q1 q2 (by simpa using q))
theorem zg{a b:Expr}{ta:TA}{p pos:Pos}(hg:Gl X "range") (hm:X.mg "range" = none) (ha:PA X [a,b] ta)(hs:starEach [a,b] X.env=[(false,eval a X.env),(false,eval b X.env)]:=by rfl)(hs2:starEach [b] X.env=[(false,eval b X.env)]:=by rfl) :
  PI X tg (.Call (.Name "range" p) [a,b] [] pos) (CL ta):=by
 intro pins s σ H R I h;refine Call_ (iy I hg hm boot_range (Yr (cw (ha pos pins s σ H _ I h) λus s1 ⟨vs,H1,I1,r1,q1⟩=>?_) (by rw[hs,hs2]) (by rw[hs2];rfl)))
 obtain⟨i,j,e,⟨q1,q2,q3,q4⟩,q⟩:=q1;subst e;cases r1 with
 | cons r rr =>
  cases rr with
  | cons r' rr =>
   cases rr;obtain⟨t,rfl⟩:=r;obtain⟨t',rfl⟩:=r';exact call_range_2 (t5 I1 q1 q2 q3 q4 q)
def GR(wi:TI)(g:TG)(tb:TS):TS:=λD σ H=>wi σ H λJ H1=>∃W:Nat->Nat->St->Hp->Prop,(∃m,W 0 m σ H1) /\ ∀i m σ H,W i m σ H ->
 (J.stop i H/\D.nx σ H)\/(J.go i H /\ ∃N:St->Hp->Prop,(∀σ' H',N σ' H' -> ∃m',m'<m/\W (i+1) m' σ' H') /\ ∀x H',J.yld i H x H'->g x σ H' λσ2 H2=>tb { D with nx:=N,ct:=N,bk:=D.nx } σ2 H2)
def mL(fp:List Addr)(h:Heap):List (Addr×Obj):=fp.filterMap λb=>(h.get? b).map λo=>(b,o)
theorem hV{fp:List Addr}{h:Heap}{b:Addr}{o:Obj}(hb:b∈fp)(e:h.get? b=some o):(b,o)∈mL fp h:=List.mem_filterMap.mpr ⟨b,hb,by rw[e];rfl⟩
theorem yw{fp:List Addr}{h:Heap}{p:Addr×Obj}(hp:p∈mL fp h):p.1∈fp/\h.get? p.1=some p.2:=by
 obtain⟨b,hb,e⟩:=List.mem_filterMap.mp hp;cases q:h.get? b with
 | none=>rw[q] at e;cases e
 | some o =>
  rw[q] at e;have e':(b,o)=p:=Ym e;subst e';exact⟨hb,q⟩
theorem ay.pinned{pins:List (Addr×Obj)}{σ:St}{H:Hp}{s:Shared}{fp:List Addr}(I:ay X pins σ H s)(hf:∀b∈fp,kA X pins H b)(ho:∀b∈fp,∃o,s.heap.get? b=some o /\ ∀v,o.data ≠ .cell v):ay X (pins++mL fp s.heap) σ H s :=
 I.pins_of λp hp=>(List.mem_append.mp hp).elim (λz=>I.pin p (Ys _ z)) λz=>by
  obtain⟨hb,e⟩:=yw z;obtain⟨f0,f1,f2,_⟩:=hf p.1 hb;obtain⟨o,e',d⟩:=ho p.1 hb;rw[e] at e';cases e';exact⟨e,f0,f1,f2,d⟩
theorem ay.unpinned{pins pl:List (Addr×Obj)}{σ:St}{H:Hp}{s:Shared}(I:ay X (pins++pl) σ H s):ay X pins σ H s:=I.pins_of λp hp=>I.pin p (Ys _ (Yl _ hp))
theorem Hu{iter:Expr}{body:List Stmt}{wi:TI}{g:TG}{tb:TS}{pos:Pos}(hp:PassesOwn (model X.prog X.w) X.A X.env X.xe)(hc:X.calm=true)(hi:PI X tg iter wi)(hg:PG X tg g)(hb:qL X body tb)
  (hs:∀x,foldedSetIterable iter X.env x=pure x:=by intro _;rfl):PS X (.For tg iter body [] pos) (GR wi g tb):=by
 intro pins s σ H D I h;refine wpAny_For (cw (hi pins s σ H _ I h) λv s1 h1=>cw h1 λitv s2 h2=>?_) hs;obtain⟨it,fp,tn,J,H2,e,I2,T,st2,f2,W,⟨m0,w0⟩,turn⟩:=h2;subst e;have stat:∀{H':Hp},(∀b∈fp,H' b=none) -> ∀b∈fp,kA X pins H' b:=λhn b hb=>⟨hn b hb,(f2 b hb).2⟩;refine codeAny_forLoop_any (λn s'=>∃i σ' H',ay X pins σ' H' s'/\tn i s'.heap/\(∀b∈fp,H' b=none)/\W i n σ' H') ?_ m0 ⟨0,σ,H2,I2,st2,λb hb=>(f2 b hb).1,w0⟩;rintro n s3 ⟨i,σ3,H3,I3,st3,fr3,w3⟩;rcases turn i n σ3 H3 w3 with ⟨stop,qn⟩|⟨go,N,hN,step⟩
 .refine wpAny_passesOwn hp (cw (T.done X rfl rfl rfl hc i pins s3 σ3 H3 X.xe I3 (stat fr3) st3 stop) λr s4 ⟨hr,I4⟩=>?_);subst hr;exact wpAny_execs_nil ⟨σ3,H3,I4,qn⟩
 .refine wpAny_passesOwn hp (cw (T.item X rfl rfl rfl hc i pins s3 σ3 H3 X.xe I3 (stat fr3) st3 go) λr s4 ⟨u,hr,h4⟩=>?_);subst hr;refine wpAny_passesOwn hp (cw h4 λ_ s5 ⟨x,H5,I5,r5,y5,st5,fr5⟩=>?_);have I5':=I5.pinned (stat fr5) (T.obj _ _ st5);refine wpAny_passesOwn hp (cw (hg _ s5 σ3 H5 x u _ I5' r5 (step x H5 y5)) λ_ s6 ⟨σ6,H6,I6,q6⟩=>?_);refine wpAny_passesOwn hp (cw (hb _ s6 σ6 H6 _ I6 q6) λf s7 q7=>?_);have again:∀{σ7:St}{H7:Hp},ay X (pins++mL fp s5.heap) σ7 H7 s7->N σ7 H7 -> ∃m,m<n /\ ∃i σ' H',ay X pins σ' H' s7/\tn i s7.heap/\(∀b∈fp,H' b=none)/\W i m σ' H':=λ{σ7 H7} I7 n7=>by
   obtain⟨m',hm,w7⟩:=hN σ7 H7 n7;refine⟨m',hm,i+1,σ7,H7,I7.unpinned,T.keep _ _ _ st5 λb hb o e=>(I7.pin (b,o) (Ys _ (Ys _ (hV hb e)))).1,λb hb=>?_,w7⟩;obtain⟨o,e,d⟩:=T.obj _ _ st5 b hb;exact (I7.pin (b,o) (Ys _ (Ys _ (hV hb e)))).2.1
  cases f with
  | next=>obtain⟨σ7,H7,I7,n7⟩:=q7;exact again I7 n7
  | cont=>obtain⟨σ7,H7,I7,n7⟩:=q7;exact again I7 n7
  | brk=>obtain⟨σ7,H7,I7,q7⟩:=q7;exact⟨σ7,H7,I7.unpinned,q7⟩
  | ret v=>obtain⟨x7,σ7,H7,I7,r7,q7⟩:=q7;exact⟨x7,σ7,H7,I7.unpinned,r7,q7⟩
end
abbrev R2:=V->V->Hp->VK->Prop
def fi(X:Cx)(f:Value->Value->Sem Value)(r:R2):Prop :=
 ∀(pins:List (Addr×Obj))(s:Shared)(σ:St)(H:Hp)(x y:V)(v u:Value)(Q:VK),ay X pins σ H s->aY x v->aY y u->r x y H Q ->
  wpAny (model X.prog X.w) X.A (f v u) (EP X pins σ Q) X.xe s
def KD(X:Cx)(f:Value->Sem Value)(r:V->Hp->VK->Prop):Prop :=
 ∀(pins:List (Addr×Obj))(s:Shared)(σ:St)(H:Hp)(x:V)(v:Value)(Q:VK),ay X pins σ H s->aY x v->r x H Q ->
  wpAny (model X.prog X.w) X.A (f v) (EP X pins σ Q) X.xe s
def dk(X:Cx)(f:Value)(r:List V->Hp->VK->Prop):Prop :=
 ∀(pins:List (Addr×Obj))(s:Shared)(σ:St)(H:Hp)(xs:List V)(us:List Value)(Q:VK),ay X pins σ H s->aN xs us->r xs H Q ->
  wpAny (model X.prog X.w) X.A (call f us) (EP X pins σ Q) X.xe s
def Ll(X:Cx)(r:V->Hp->(Bool->Hp->Prop)->Prop):Prop :=
 ∀(pins:List (Addr×Obj))(s:Shared)(σ:St)(H:Hp)(x:V)(v:Value)(Q:Bool->Hp->Prop),ay X pins σ H s->aY x v->r x H Q ->
  wpAny (model X.prog X.w) X.A (truthy v) (TP X pins σ Q) X.xe s
def CV(r:R2)(ta tb:TE):TE:=λσ H Q=>ta σ H λx H1=>tb σ H1 λy H2=>r x y H2 Q
def KU(r:V->Hp->VK->Prop)(ta:TE):TE:=λσ H Q=>ta σ H λx H1=>r x H1 Q
def rI(C:Int->Int->Prop)(g:Int->Int->V):R2:=λx y H Q=>∃i j,x=.int i/\y=.int j/\C i j/\Q (g i j) H
def wq(g:Int->Int->V):R2:=λx y H Q=>∃i j,x=.int i/\y=.int j/\Q (g i j) H
def rU(g:Int->V):V->Hp->VK->Prop:=λx H Q=>∃i,x=.int i/\Q (g i) H
section
variable {X:Cx}{a b c:Expr}{ta tb tc:TE}{pos:Pos}
theorem GZ(ha:PE X a ta)(hb:PE X b tb) {pins:List (Addr×Obj)}{s:Shared}{σ:St}{H:Hp}{R:V->V->Hp->Prop}(I:ay X pins σ H s)
  (h:ta σ H λx H1=>tb σ H1 λy H2=>R x y H2) {Q:Value->Shared->Prop}{f:Value->Value->Sem Value}
  (hf:∀v u s2 x y H2,ay X pins σ H2 s2->aY x v->aY y u->R x y H2->wpAny (model X.prog X.w) X.A (f v u) Q X.xe s2) :
  wpAny (model X.prog X.w) X.A (eval a X.env) (λv s₁=>wpAny (model X.prog X.w) X.A (eval b X.env) (λu s₂=>wpAny (model X.prog X.w) X.A (f v u) Q X.xe s₂) X.xe s₁) X.xe s:=by
 refine cw (ha pins s σ H _ I h) λv s1 ⟨x,H1,I1,r1,q1⟩=>?_;refine cw (hb pins s1 σ H1 _ I1 q1) λu s2 ⟨y,H2,I2,r2,q2⟩=>?_;exact hf v u s2 x y H2 I2 r1 r2 q2
theorem Kn{op:Operator}{r:R2}(ho:fi X (binaryOp op) r)(ha:PE X a ta)(hb:PE X b tb):PE X (.BinOp a op b pos) (CV r ta tb):=by
 intro pins s σ H Q I h;exact wpAny_BinOp (GZ ha hb I h λv u s2 x y H2 I2 rx ry q=>ho pins s2 σ H2 x y v u Q I2 rx ry q)
theorem JZ{op:UnaryOp}{r:V->Hp->VK->Prop}(ho:KD X (unaryOp op) r)(ha:PE X a ta):PE X (.UnaryOp op a pos) (KU r ta):=by
 intro pins s σ H Q I h;exact UnaryOp_ (cw (ha pins s σ H _ I h) λv s1 ⟨x,H1,I1,r1,q1⟩=>ho pins s1 σ H1 x v Q I1 r1 q1)
theorem JB{f:Value->Value->Sem Value}{C:Int->Int->Prop}{g:Int->Int->Int}
  (rule:∀(i j:Int)(t u:Tok)(s:Shared)(Q:Value->Shared->Prop)(E:Value->Shared->Prop),C i j->Q (.int (g i j) s.toks) { s with toks:=s.toks+1 } -> wpAny (model X.prog X.w) X.A (f (.int i t) (.int j u)) Q E s) :
  fi X f (rI C λi j=>.int (g i j)):=by
 intro pins s σ H x y v u Q I rx ry h;obtain⟨i,j,rfl,rfl,hc,q⟩:=h;obtain⟨t,rfl⟩:=rx;obtain⟨t',rfl⟩:=ry;exact rule i j t t' s _ _ hc ⟨.int (g i j),H,I.tok _,⟨_,rfl⟩,q⟩
theorem J7{f:Value->Value->Sem Value}{g:Int->Int->Int}
  (rule:∀(i j:Int)(t u:Tok)(s:Shared)(Q:Value->Shared->Prop)(E:Value->Shared->Prop),Q (.int (g i j) s.toks) { s with toks:=s.toks+1 } -> wpAny (model X.prog X.w) X.A (f (.int i t) (.int j u)) Q E s) :
  fi X f (wq λi j=>.int (g i j)):=by
 intro pins s σ H x y v u Q I rx ry h;obtain⟨i,j,rfl,rfl,q⟩:=h;obtain⟨t,rfl⟩:=rx;obtain⟨t',rfl⟩:=ry;exact rule i j t t' s _ _ ⟨.int (g i j),H,I.tok _,⟨_,rfl⟩,q⟩
theorem Do{f:Value->Value->Sem Value}{g:Int->Int->Bool}
  (rule:∀(i j:Int)(t u:Tok)(s:Shared)(Q:Value->Shared->Prop)(E:Value->Shared->Prop),Q (.bool (g i j)) s->wpAny (model X.prog X.w) X.A (f (.int i t) (.int j u)) Q E s) :
  fi X f (wq λi j=>.bl (g i j)):=by
 intro pins s σ H x y v u Q I rx ry h;obtain⟨i,j,rfl,rfl,q⟩:=h;obtain⟨t,rfl⟩:=rx;obtain⟨t',rfl⟩:=ry;exact rule i j t t' s _ _ ⟨.bl (g i j),H,I,rfl,q⟩
def Kj(i j:Int):Prop:=0<=j/\j<=1000000/\i.natAbs<2^64
theorem HW:fi X (binaryOp .Add) (wq λi j=>.int (i+j)):=J7 λ_ _ _ _ _ _ _ q=>add_int q
theorem cz:fi X (binaryOp .Sub) (wq λi j=>.int (i-j)):=J7 λ_ _ _ _ _ _ _ q=>sub_int q
theorem Em:fi X (binaryOp .Mod) (rI (λ_ j=>j≠0) λi j=>.int (i.fmod j)):=JB λ_ _ _ _ _ _ _ hc q=>mod_int' hc q
theorem vL:fi X (binaryOp .Pow) (rI Kj λi j=>.int (i^j.toNat)):=JB λ_ _ _ _ _ _ _ hc q=>pow_int_small hc.1 hc.2.1 hc.2.2 q
theorem LA{f:Value->Sem Value}{g:Int->Int}
  (rule:∀(i:Int)(t:Tok)(s:Shared)(Q:Value->Shared->Prop)(E:Value->Shared->Prop),Q (.int (g i) s.toks) { s with toks:=s.toks+1 } -> wpAny (model X.prog X.w) X.A (f (.int i t)) Q E s) :
  KD X f (rU λi=>.int (g i)):=by
 intro pins s σ H x v Q I rx h;obtain⟨i,rfl,q⟩:=h;obtain⟨t,rfl⟩:=rx;exact rule i t s _ _ ⟨.int (g i),H,I.tok _,⟨_,rfl⟩,q⟩
theorem dL:KD X (unaryOp .USub) (rU λi=>.int (-i)):=LA λ_ _ _ _ _ q=>neg_int q
end
def yQ:V->V->Bool
 | .non,.non=>true | .non,.int _=>true | .int _,.non=>true | .non,.bl _=>true | .bl _,.non=>true | .non,.str _=>true | .str _,.non=>true
 | .int _,.int _=>true | .bl _,.bl _=>true | .str _,.str _=>true | .byt _,.byt _=>true
 | .int _,.str _=>true | .str _,.int _=>true | .bl _,.str _=>true | .str _,.bl _=>true
 | _,_=>false
def IZ:R2:=λx y H Q=>yQ x y=true/\Q (.bl (decide (x=y))) H
def IW:R2:=λx y H Q=>yQ x y=true/\Q (.bl (!decide (x=y))) H
theorem w4{i j:Int}:decide (V.int i=V.int j)=(i==j):=by
 rw[Bool.eq_iff_iff];simp
theorem AJ{i j:Bool}:decide (V.bl i=V.bl j)=(i==j):=by
 rw[Bool.eq_iff_iff];simp
theorem wu{i j:Str}:decide (V.str i=V.str j)=(i==j):=by
 rw[Bool.eq_iff_iff];simp
theorem w5{i j:Array UInt8}:decide (V.byt i=V.byt j)=(i.toList==j.toList):=by
 rw[Bool.eq_iff_iff];cases i;cases j;simp
section
variable {X:Cx}{a b c:Expr}{ta tb tc:TE}{pos:Pos}
theorem be{pins:List (Addr×Obj)}{σ:St}{H:Hp}{s:Shared}{Q:VK}{k k':Bool}(I:ay X pins σ H s)(q:Q (.bl k) H)(e:k=k'):EP X pins σ Q (.bool k') s:=by
 subst e;exact⟨.bl k,H,I,rfl,q⟩
theorem gk:fi X (compareOp .Eq) IZ:=by
 intro pins s σ H x y v u Q I rx ry h;obtain⟨hs,q⟩:=h;cases x with
 | non =>
  cases rx;cases y with
  | non=>cases ry;exact PySem.EqNone.eq_none_none (be I q (by simp))
  | bl j=>cases ry;exact PySem.EqNone.eq_none_bool (be I q (by simp))
  | int j=>obtain⟨t',rfl⟩:=ry;exact PySem.EqNone.eq_none_int (be I q (by simp))
  | str j=>obtain⟨t',rfl⟩:=ry;exact PySem.EqNone.eq_none_str (be I q (by simp))
  | _=>exact absurd (show false=true from hs) Yo
 | bl i =>
  cases rx;cases y with
  | non=>cases ry;exact PySem.EqNone.eq_bool_none (be I q (by simp))
  | bl j=>cases ry;exact eq_bool (be I q AJ)
  | str j=>obtain⟨t',rfl⟩:=ry;exact PySem.EqMixed.eq_bool_str (be I q (by simp))
  | _=>exact absurd (show false=true from hs) Yo
 | int i =>
  obtain⟨t,rfl⟩:=rx;cases y with
  | non=>cases ry;exact PySem.EqNone.eq_int_none (be I q (by simp))
  | int j=>obtain⟨t',rfl⟩:=ry;exact eq_int (be I q w4)
  | str j=>obtain⟨t',rfl⟩:=ry;exact PySem.EqMixed.eq_int_str (be I q (by simp))
  | _=>exact absurd (show false=true from hs) Yo
 | str i =>
  obtain⟨t,rfl⟩:=rx;cases y with
  | non=>cases ry;exact PySem.EqNone.eq_str_none (be I q (by simp))
  | bl j=>cases ry;exact PySem.EqMixed.eq_str_bool (be I q (by simp))
  | int j=>obtain⟨t',rfl⟩:=ry;exact PySem.EqMixed.eq_str_int (be I q (by simp))
  | str j=>obtain⟨t',rfl⟩:=ry;exact eq_str (be I q wu)
  | _=>exact absurd (show false=true from hs) Yo
 | byt i =>
  obtain⟨t,rfl⟩:=rx;cases y with
  | byt j=>obtain⟨t',rfl⟩:=ry;exact PySem.W.eq_bytes (be I q w5)
  | _=>exact absurd (show false=true from hs) Yo
 | _=>cases y<;>exact absurd (show false=true from hs) Yo
theorem jO:fi X (compareOp .NotEq) IW:=by
 intro pins s σ H x y v u Q I rx ry h;obtain⟨hs,q⟩:=h;cases x with
 | non =>
  cases rx;cases y with
  | non=>cases ry;exact PySem.EqNone.ne_none_none (be I q (by simp))
  | bl j=>cases ry;exact PySem.EqNone.ne_none_bool (be I q (by simp))
  | int j=>obtain⟨t',rfl⟩:=ry;exact PySem.EqNone.ne_none_int (be I q (by simp))
  | str j=>obtain⟨t',rfl⟩:=ry;exact PySem.EqNone.ne_none_str (be I q (by simp))
  | _=>exact absurd (show false=true from hs) Yo
 | bl i =>
  cases rx;cases y with
  | non=>cases ry;exact PySem.EqNone.ne_bool_none (be I q (by simp))
  | bl j=>cases ry;exact ne_bool (be I q (Yn not AJ))
  | str j=>obtain⟨t',rfl⟩:=ry;exact PySem.EqMixed.ne_bool_str (be I q (by simp))
  | _=>exact absurd (show false=true from hs) Yo
 | int i =>
  obtain⟨t,rfl⟩:=rx;cases y with
  | non=>cases ry;exact PySem.EqNone.ne_int_none (be I q (by simp))
  | int j=>obtain⟨t',rfl⟩:=ry;exact ne_int (be I q (Yn not w4))
  | str j=>obtain⟨t',rfl⟩:=ry;exact PySem.EqMixed.ne_int_str (be I q (by simp))
  | _=>exact absurd (show false=true from hs) Yo
 | str i =>
  obtain⟨t,rfl⟩:=rx;cases y with
  | non=>cases ry;exact PySem.EqNone.ne_str_none (be I q (by simp))
  | bl j=>cases ry;exact PySem.EqMixed.ne_str_bool (be I q (by simp))
  | int j=>obtain⟨t',rfl⟩:=ry;exact PySem.EqMixed.ne_str_int (be I q (by simp))
  | str j=>obtain⟨t',rfl⟩:=ry;exact ne_str (be I q (Yn not wu))
  | _=>exact absurd (show false=true from hs) Yo
 | byt i =>
  obtain⟨t,rfl⟩:=rx;cases y with
  | byt j=>obtain⟨t',rfl⟩:=ry;exact PySem.W.ne_bytes (be I q (Yn not w5))
  | _=>exact absurd (show false=true from hs) Yo
 | _=>cases y<;>exact absurd (show false=true from hs) Yo
theorem wM:fi X (compareOp .Lt) (wq λi j=>.bl (decide (i<j))):=Do λ_ _ _ _ _ _ _ q=>lt_int q
theorem Fw:fi X (compareOp .LtE) (wq λi j=>.bl (decide (i<=j))):=Do λ_ _ _ _ _ _ _ q=>le_int q
theorem ug:fi X (compareOp .Gt) (wq λi j=>.bl (decide (j<i))):=Do λ_ _ _ _ _ _ _ q=>gt_int q
theorem JU:fi X (compareOp .GtE) (wq λi j=>.bl (decide (j<=i))):=Do λ_ _ _ _ _ _ _ q=>ge_int q
theorem fi.or{f:Value->Value->Sem Value}{r r':R2}(h:fi X f r)(h':fi X f r'):fi X f (λx y H Q=>r x y H Q\/r' x y H Q):=by
 intro pins s σ H x y v u Q I rx ry q;rcases q with q|q
 .exact h pins s σ H x y v u Q I rx ry q
 .exact h' pins s σ H x y v u Q I rx ry q
theorem aM(b:Expr){op:CmpOp}(h:op ≠ .In:=by decide)(h2:op ≠ .NotIn:=by decide):behindInMarks op b=false:=by
 have e1:(op==CmpOp.In)=false:=by cases op<;>first|rfl|exact absurd rfl h
 have e2:(op==CmpOp.NotIn)=false:=by cases op<;>first|rfl|exact absurd rfl h2
 cases b<;>simp[behindInMarks,e1,e2]
theorem DW{op:CmpOp}{r:R2}(ho:fi X (compareOp op) r)(ha:PE X a ta)(hb:PE X b tb)(hm:behindInMarks op b=false):PE X (.Compare a [op] [b] pos) (CV r ta tb):=by
 intro pins s σ H Q I h;exact wpAny_Compare1 (GZ ha hb I h λv u s2 x y H2 I2 rx ry q=>ho pins s2 σ H2 x y v u Q I2 rx ry q) hm
def xL(t:TE):TT:=λσ H Q=>t σ H λx H'=>∃k,x=.bl k/\Q k H'
theorem E5{op:CmpOp}{r:R2}(ho:fi X (compareOp op) r)(ha:PE X a ta)(hb:PE X b tb)(hm:behindInMarks op b=false):PT X (.Compare a [op] [b] pos) (xL (CV r ta tb)):=by
 intro pins s σ H Q I h;refine wpAny_isTrue_Compare1 (cw (ha pins s σ H _ I h) λv s1 ⟨x,H1,I1,r1,q1⟩=>cw (hb pins s1 σ H1 _ I1 q1) λu s2 ⟨y,H2,I2,r2,q2⟩ =>
  cw (ho pins s2 σ H2 x y v u _ I2 r1 r2 q2) λc s3 ⟨z,H3,I3,r3,k,e,q3⟩=>?_) hm
 subst e;cases r3;exact wpAny_truthy_bool ⟨H3,I3,q3⟩
def vM(K:W.Frag)(x:V)(H:Hp)(k:Bool):Prop :=
 match x with
 | .non=>k=false
 | .bl b=>k=b
 | .int i=>k=(i != 0)
 | .str y=>y.length<=sizeLine/\k=((y.length:Int) != 0)
 | .byt y=>y.size<=sizeLine/\k=((y.size:Int) != 0)
 | .ref p=>(∃xs,jN K H p xs/\k = !xs.isEmpty)\/(∃xs,xJ K H p xs/\k = !xs.isEmpty) \/ ∃kvs,H p=some (.dK kvs)/\k = !kvs.isEmpty
 | _=>False
theorem vD{κ:Type}{kvs:List (κ×V)}{vs:List (κ×Value)}(r:KV kvs vs):(!vs.isEmpty) = !kvs.isEmpty:=by
 cases r<;>rfl
theorem nQ{xs:List V}{its:List Value}(r:aN xs its):(!its.toArray.isEmpty) = !xs.isEmpty:=by
 cases r<;>simp
theorem kY:(sizeLine:Nat)<2^63:=by rw[sizeLine_eq];decide
theorem Hm:Ll X (λx H Q=>∃k,vM X.K x H k/\Q k H):=by
 intro pins s σ H x v Q I rx h;obtain⟨k,e,q⟩:=h;have hl:=kY;have hs:sizeLine=16777216:=sizeLine_eq;cases x with
 | non =>
  cases rx;have e':k=false:=e;subst e';exact truthy_none ⟨H,I,q⟩
 | bl b =>
  cases rx;have e':k=b:=e;subst e';exact wpAny_truthy_bool ⟨H,I,q⟩
 | int i =>
  obtain⟨t,rfl⟩:=rx;have e':k=(i != 0):=e;subst e';exact PySem.P.truthy_int ⟨H,I,q⟩
 | str y =>
  obtain⟨t,rfl⟩:=rx;obtain⟨hy,e'⟩ : y.length<=sizeLine/\k=((y.length:Int) != 0):=e;subst e';exact PySem.P.truthy_str () ⟨H,I.tok _,q⟩
 | byt y =>
  obtain⟨t,rfl⟩:=rx;obtain⟨hy,e'⟩ : y.size<=sizeLine/\k=((y.size:Int) != 0):=e;subst e';exact PySem.W.truthy_bytes () ⟨H,I.tok _,q⟩
 | ref p =>
  cases rx;have e':(∃xs,jN X.K H p xs/\k = !xs.isEmpty)\/(∃xs,xJ X.K H p xs/\k = !xs.isEmpty) \/ ∃kvs,H p=some (.dK kvs)/\k = !kvs.isEmpty:=e;rcases e' with ⟨xs,hx,e'⟩|⟨xs,hx,e'⟩|⟨kvs,hx,e'⟩
  .subst e';obtain⟨its,r,pl,hz⟩:=I.list hx;have hlen:=r.length;exact wpAny_truthy_list pl.isList (by simp only[Yt];nofun) ⟨H,I.tok _,by rw[nQ r];exact q⟩
  .subst e';obtain⟨its,r,pl,hz⟩:=I.tuple hx;have hlen:=r.length;exact truthy_tuple pl (by simp only[Yt];nofun) ⟨H,I.tok _,by rw[nQ r];exact q⟩
  .subst e';obtain⟨hz,hS,vs,r,m⟩ : kvs.length<=sizeLine/\(p==sysModules)=false /\ ∃vs,KV kvs vs/\s.heap.DictOf (cK X.prog X.w) p vs:=I.hok p _ hx;have hlen:kvs.length=vs.length:=Paired.length r;exact wpAny_truthy_dict hS m () ⟨H,I.tok _,by rw[vD r];exact q⟩
 | _=>exact (show False from e).elim
theorem Bb(ha:PE X a ta)(he:∀whole,isTrue a X.env whole=(do let v <-whole;standAt a.pos;holding [v] (truthy v))) :
  PT X a (λσ H Q=>ta σ H λx H'=>∃k,vM X.K x H' k/\Q k H'):=by
 intro pins s σ H Q I h;exact isTrue_plain (cw (ha pins s σ H _ I h) λv s1 ⟨x,H1,I1,r1,q1⟩=>Hm pins s1 σ H1 x v Q I1 r1 q1) (he _)
theorem xE{x:V}{us:List Value}(r:aN [x] us):∃u,us=[u]/\aY x u:=by
 cases r with
 | cons r1 r2=>cases r2;exact⟨_,rfl,r1⟩
theorem tW{x y:V}{us:List Value}(r:aN [x,y] us):∃u w',us=[u,w']/\aY x u/\aY y w':=by
 cases r with
 | cons r1 r2 =>
  cases r2 with
  | cons r3 r4=>cases r4;exact⟨_,_,rfl,r1,r3⟩
theorem iQ:dk X (.builtin "abs") (λxs H Q=>∃i,xs=[.int i]/\Q (.int (if i<0 then -i else i)) H):=by
 intro pins s σ H xs us Q I r h;obtain⟨i,rfl,q⟩:=h;obtain⟨u,rfl,t,rfl⟩:=xE r;exact call_abs_int λu tk=>⟨.int (if i<0 then -i else i),H,I.tok _,⟨_,rfl⟩,q⟩
theorem kP(hc:X.calm=true):dk X (.builtin "max") (λxs H Q=>∃i j,xs=[.int i,.int j]/\Q (.int (if j > i then j else i)) H):=by
 intro pins s σ H xs us Q I r h;obtain⟨i,j,rfl,q⟩:=h;obtain⟨u,w',rfl,⟨t,rfl⟩,⟨t',rfl⟩⟩:=tW r;refine max_two_ints (I.ok.hd hc) λh' tk k=>⟨_,H,I.kept k,?_,q⟩;by_cases hj:j > i
 .rw[Yb hj,Yb hj];exact⟨_,rfl⟩
 .rw[Yc hj,Yc hj];exact⟨_,rfl⟩
theorem pJ(hc:X.calm=true):dk X (.builtin "min") (λxs H Q=>∃i j,xs=[.int i,.int j]/\Q (.int (if j<i then j else i)) H):=by
 intro pins s σ H xs us Q I r h;obtain⟨i,j,rfl,q⟩:=h;obtain⟨u,w',rfl,⟨t,rfl⟩,⟨t',rfl⟩⟩:=tW r;refine min_two_ints (I.ok.hd hc) λh' tk k=>⟨_,H,I.kept k,?_,q⟩;by_cases hj:j<i
 .rw[Yb hj,Yb hj];exact⟨_,rfl⟩
 .rw[Yc hj,Yc hj];exact⟨_,rfl⟩
end
structure Gg (h:Heap)(x dx C:Addr)(mA:Str->Option Value):Prop where
 obj:h.get? x=some (PySem.W.instObj C dx)
 ns:h.Ns1 dx mA
 ne:dx≠x
theorem yl{h:Heap}{dx:Addr}{mA:Str->Option Value}(n:h.Ns1 dx mA):∃od,h.get? dx=some od /\ ∀name,PySem.W.lookIn name od=some (mA name):=by
 obtain⟨o,es,ep,ho,hd,hk,_,hm⟩:=n;refine⟨o,ho,λname=>?_⟩;have e:=hm name;unfold nsFind findBy at e;rw[<-Array.find?_toList] at e;unfold PySem.W.lookIn;rw[hd];dsimp only;split
 .rename_i y q
  rw[q] at e;exact Yn some e
 .rename_i q
  rw[q] at e;have a:es.toList.any (·.refKey)=false:=by
   rw[List.any_eq_false];intro y hy;obtain⟨z,t,hkey⟩:=hk y (Array.mem_toList_iff.mp hy);simp[DictEntry.refKey,hkey]
  have a':¬ es.toList.any (·.refKey)=true:=by rw[a];exact Yo
  rw[Yc a'];exact Yn some e
theorem Gg.look{h:Heap}{x dx C:Addr}{mA:Str->Option Value}(I:Gg h x dx C mA):∃od,PySem.W.InstAt h x (PySem.W.instObj C dx) C (some od) /\ ∀name,PySem.W.lookIn name od=some (mA name) :=
 let ⟨od,ho,hl⟩:=yl I.ns
 ⟨od,⟨I.obj,rfl,rfl,ho⟩,hl⟩
theorem qR.some_of{v:V}{o:Option Value}(r:qR (some v) o):∃u,o=some u/\aY v u:=by
 cases o with
 | none=>exact (show False from r).elim
 | some u=>exact⟨u,rfl,r⟩
section
variable {P:Program}{w:World}{H H':Hp}{h h':Heap}{a C dx:Addr}{fs fs':List (Str×V)}
theorem Dq(hok:iW P w H h)(e:H a=some (.ins C dx fs)):∃mA,Gg h a dx C mA/\(∀f,qR (fs.lookup f) (mA f))/\PySem.Within mA (fs.map (·.1))/\fs.length<=1000/\H dx=some (.own a):=by
 obtain⟨d,z,ne,ob,mA,n,r,q⟩:=(show bV P w H h a (.ins C dx fs) from hok a _ e)
 exact⟨mA,⟨ob,n,ne⟩,r,q,z,d⟩
end
structure KQ (K:W.Frag)(C:Addr):Prop where
 pg:PySem.W.plainGet K C Str.empty=true
 hd:PySem.W.hasDictIn K C=true
 po:PySem.W.plainOver K C=true
 sa:PySem.W.findIn K (.ref C) "__setattr__" = some (some (.builtin "object.__setattr__"))
theorem KQ.get{K:W.Frag}{C:Addr}(c:KQ K C)(f:Str):PySem.W.plainGet K C f=true:=c.pg
section
variable {X:Cx}{pins:List (Addr×Obj)}{σ:St}{H:Hp}{s:Shared}{A:Around}{E:Value->Shared->Prop}{Q:Value->Shared->Prop}{c:Value}{b:Bool}
inductive mv (K:W.Frag)(H:Hp):V->Value->Prop where
 | non:mv K H .non (.type "NoneType")
 | bl (x:Bool):mv K H (.bl x) (.type "bool")
 | int (i:Int):mv K H (.int i) (.type "int")
 | str (x:Str):mv K H (.str x) (.type "str")
 | flt (x:UInt64):mv K H (.flt x) (.type "float")
 | lst {a:Addr}{xs:List V}(e:H a=some (.lst xs)):mv K H (.ref a) (.type "list")
 | frz {a:Addr}{o:Obj}{xs:List V}(e:H a=some (.frz o (.lst xs))):mv K H (.ref a) (.type "list")
 | tup {a:Addr}{xs:List V}(e:H a=some (.tup xs)):mv K H (.ref a) (.type "tuple")
 | dK {a:Addr}{kvs:List (gw×V)}(e:H a=some (.dK kvs)):mv K H (.ref a) (.type "dict")
 | dT {a:Addr}{kvs:List (List gw×V)}(e:H a=some (.dT kvs)):mv K H (.ref a) (.type "dict")
 | ins {a C dx:Addr}{fs:List (Str×V)}(e:H a=some (.ins C dx fs))(cl:KQ K C)(ha:PySem.W.findIn K (.ref C) "__class__" = some (some (.builtin "object.__class__")))
   (hn:PySem.W.specialIn K (.builtin "object.__class__") "__get__" = some (some (.builtin "getset_descriptor.__get__"))) (htk:PySem.W.takesIn K (.builtin "object.__class__")=some true)
   (hm:PySem.W.mroIn K C (.type "object")=some true):mv K H (.ref a) (.ref C)
theorem eN{x:V}{u t:Value}(I:ay X pins σ H s)(rx:aY x u)(ty:mv X.K H x t)(e:PySem.W.kitOne X.K t c=some b)(h:∀tk,Q (.bool b) { s with toks:=tk }) :
  wpAny (model X.prog X.w) A (call (.builtin "isinstance") [u,c]) Q E s:=by
 cases ty with
 | non=>cases (show u=Value.none from rx);exact Yu PySem.W.kitx_none I.kIn True.intro e (λz=>nomatch z) h
 | bl y=>cases (show u=Value.bool y from rx);exact Yu PySem.W.kitx_bool I.kIn True.intro e (λz=>nomatch z) h
 | int i=>obtain⟨t,q⟩:=(show ∃t,u=Value.int i t from rx);cases q;exact Yu PySem.W.kitx_int I.kIn True.intro e (λz=>nomatch z) h
 | str y=>obtain⟨t,q⟩:=(show ∃t,u=Value.str y t from rx);cases q;exact Yu PySem.W.kitx_str I.kIn True.intro e (λz=>nomatch z) h
 | flt y=>obtain⟨t,q⟩:=(show ∃t,u=Value.float y t from rx);cases q;exact Yu PySem.W.kitx_float I.kIn True.intro e (λz=>nomatch z) h
 | @lst a xs ea =>
  cases (show u=Value.ref a from rx)
  obtain⟨_,_,n,_,h1⟩:=(show bV X.prog X.w H s.heap a (.lst xs) from I.hok a _ ea)
  exact Yu PySem.W.kitx_list I.kIn ⟨_,h1,rfl⟩ e (λz=>nomatch z) h
 | @frz a ob xs ea =>
  cases (show u=Value.ref a from rx)
  obtain⟨_,_,_,n,_,h1⟩:=(show bV X.prog X.w H s.heap a (.frz ob (.lst xs)) from I.hok a _ ea)
  exact Yu PySem.W.kitx_list I.kIn ⟨_,h1,rfl⟩ e (λz=>nomatch z) h
 | @tup a xs ea =>
  cases (show u=Value.ref a from rx)
  obtain⟨_,_,_,p⟩:=(show bV X.prog X.w H s.heap a (.tup xs) from I.hok a _ ea)
  obtain⟨o,h1,h2,_⟩:=p;exact Yu PySem.W.kitx_tuple I.kIn ⟨o,h1,h2⟩ e (λz=>nomatch z) h
 | @dK a kvs ea =>
  cases (show u=Value.ref a from rx)
  obtain⟨_,_,vs,_,p⟩:=(show bV X.prog X.w H s.heap a (.dK kvs) from I.hok a _ ea)
  obtain⟨o,es,ep,h1,h2,_⟩:=p;exact Yu PySem.W.kitx_dict I.kIn ⟨o,h1,h2.1⟩ e (λz=>nomatch z) h
 | @dT a kvs ea =>
  cases (show u=Value.ref a from rx)
  obtain⟨_,_,xs,_,o,es,ep,h1,h2,_⟩:=(show bV X.prog X.w H s.heap a (.dT kvs) from I.hok a _ ea)
  exact Yu PySem.W.kitx_dict I.kIn ⟨o,h1,h2.1⟩ e (λz=>nomatch z) h
 | @ins a C dx fs ea cl ha hn htk hm =>
  cases (show u=Value.ref a from rx)
  obtain⟨mA,O,_⟩:=Dq I.hok ea;obtain⟨od,J,_⟩:=O.look;exact Yu (PySem.W.kitx_own (cl.get _) cl.hd ha hn htk hm) I.kIn J e (λz=>nomatch z) h
end
structure cI (k:Nat)(A:Around):Prop where
 hd:A.handled=none
 dp:A.depth+3*k+105<recursionLimit
 un:A.units+16*k+200<cLine
theorem cI.mono{j k:Nat}{A:Around}(r:cI k A)(h:j<=k):cI j A:=⟨r.hd,by have:=r.dp;nofun,by have:=r.un;nofun⟩
theorem cI.deeper{k:Nat}{A:Around}(r:cI (k+1) A)(env:Env):cI k (A.deeper env) :=
 ⟨r.hd,by have:=r.dp;show A.depth+1+3*k+105<_;nofun,by have:=r.un;show A.units+3+16*k+200<_;nofun⟩
theorem cI.depth{k:Nat}{A:Around}(r:cI k A):A.depth<recursionLimit:=by have:=r.dp;nofun
def yM:TA:=λ_ H Q=>Q [] H
def lT(ta:TE)(tr:TA):TA:=λσ H Q=>ta σ H λx H1=>tr σ H1 λxs H2=>Q (x::xs) H2
section
variable {X:Cx}{e:Expr}{es:List Expr}{te:TE}{t:TA}{pos:Pos}
theorem Hn:PA X [] yM:=λ_ _ _ _ H Q I h=>Calls.spliced_nil ⟨[],H,I,.nil,h⟩
theorem El(ha:PE X e te)(hr:PA X es t)(hs:starEach (e::es) X.env=(false,eval e X.env)::starEach es X.env:=by rfl):PA X (e::es) (lT te t):=by
 intro pos pins s σ H Q I h;rw[hs];show wpAny _ _ (spliced ((false,eval e X.env)::backTo pos (starEach es X.env))) _ _ s;refine Calls.spliced_cons (cw (ha pins s σ H _ I h) λu s1 ⟨x,H1,I1,r1,q1⟩=>?_);exact cw (hr pos pins s1 σ H1 _ I1 q1) λus s2 ⟨xs,H2,I2,r2,q2⟩=>⟨x::xs,H2,I2,.cons r1 r2,q2⟩
end
abbrev Sp:=List V->Hp->VK->XK->Prop
abbrev vA:=List Env->Hp->Shared->XK->Value->Shared->Prop
structure oW (P:Program)(w:World)(K:W.Frag)(mg:Str->Option Value)(base:Heap)(A:Around)(outer:List Env)(s:Shared)(H:Hp):Prop where
 frames:A.frames=some outer
 mod:Mod K mg base
 bs:∀b o,base.get? b=some o->s.heap.get? b=some o/\H b=none
 bsz:base.objs.size<=s.heap.objs.size
 funs:s.heap.FunFrames base outer
 frf:∀b∈gK outer,H b=none
 hok:iW P w H s.heap
 bare:AllBare s.gens
def CE(outer:List Env)(P:Program)(w:World)(H:Hp)(s:Shared)(Q:VK)(u:Value)(s':Shared):Prop :=
 ∃v H',s'.os=s.os/\AllBare s'.gens/\Un (gK outer) [] H H' s.heap s'.heap/\iW P w H' s'.heap/\aY v u/\Q v H'
def CR(CX:vA)(outer:List Env)(P:Program)(w:World)(H:Hp)(s:Shared)(Q:VK)(E:XK)(r:Result)(s':Shared):Prop :=
 match r with
 | .ok (.ret u)=>CE outer P w H s Q u s'
 | .ok _=>False
 | .error e=>CX outer H s E e s'
structure bj (P:Program)(w:World)(K:W.Frag)(mg:Str->Option Value)(base:Heap)(CX:vA)(k:Nat)(f:Addr)(fd:FuncData)(ps:List Str)(sp:Sp):Prop where
 len:∀vs H Q E,sp vs H Q E->vs.length=ps.length
 run:∀(A:Around)(outer:List Env)(s:Shared)(H:Hp)(args:Args)(us:List Value)(vs:List V)(Q:VK)(E:XK),cI k A->oW P w K mg base A outer s H->BindsTo s fd args (ps.zip us)->aN vs us->sp vs H Q E ->
  codeAny (model P w) A (.call (.ref f) args) (CR CX outer P w H s Q E) s
section
variable {X:Cx}{pins:List (Addr×Obj)}{σ:St}{H:Hp}{s s':Shared}
theorem ay.env0(I:ay X pins σ H s):oW X.prog X.w X.K X.mg X.base X.A X.stack s H :=
 ⟨I.ok.frames,I.ok.mod,I.bs,Yg I.ok.bsz I.sz,I.stack,I.stkFree,I.hok,I.bare⟩
theorem ay.after{Q:VK}{u:Value}(I:ay X pins σ H s)(h:CE X.stack X.prog X.w H s Q u s'):EP X pins σ Q u s':=by
 obtain⟨v,H',os,bare,un,hok,r,q⟩:=h;obtain⟨hh,g,d,t,os'⟩:=s';obtain rfl:os'=s.os:=os;exact⟨v,H',I.call (h':=hh) (g':=g) (d':=d) (t':=t) (ch:=[]) un hok bare (λb z=>absurd z (by simp)),r,q⟩
end
def Kp(sp:Sp)(dvs:List V)(E:XK)(t:TA):TE:=λσ H Q=>t σ H λvs H1=>sp (vs++dvs) H1 Q E
def ja(K:W.Frag)(fd:FuncData)(ps:List Str)(ds:List Value):Prop :=
 ∀(s:Shared)(us:List Value),K.In s.heap->(us++ds).length=ps.length->BindsTo s fd ⟨us,[]⟩ (ps.zip (us++ds))
theorem ja.all{K:W.Frag}{fd:FuncData}{ps:List Str}(h:∀us:List Value,us.length=ps.length->bindArgs fd ⟨us,[]⟩=pure (ps.zip us)):ja K fd ps []:=λs us _ hl=>by
 rw[Yv] at hl ⊢;exact .of_eq (h us hl)
def uN(CX:vA)(X:Cx)(E:XK):Prop:=∀(pins:List (Addr×Obj))(σ:St)(H:Hp)(s:Shared)(e:Value)(s':Shared),ay X pins σ H s->CX X.stack H s E e s'->X.xe e s'
section
variable {X:Cx}{CX:vA}{k:Nat}{f C:Addr}{fd:FuncData}{ps:List Str}{sp:Sp}{dvs:List V}{ds:List Value}{E:XK}{x m:Str}{p pos apos:Pos}{e o:Expr}{es:List Expr}{ta:TE}{t:TA}
theorem Gk{pins:List (Addr×Obj)}{σ:St}{H:Hp}{s:Shared}{Q:VK}{us:List Value}{vs:List V}(F:bj X.prog X.w X.K X.mg X.base CX k f fd ps sp)(hr:cI k X.A)(hb:ja X.K fd ps ds)(hd:aN dvs ds)(hx:uN CX X E)
  (I:ay X pins σ H s)(r:aN vs us)(h:sp (vs++dvs) H Q E):wpAny (model X.prog X.w) X.A (call (.ref f) us) (EP X pins σ Q) X.xe s:=by
 have r2:aN (vs++dvs) (us++ds):=r.append hd;have hl:(us++ds).length=ps.length:=by rw[<-r2.length];exact F.len _ _ _ _ h
 refine wpAny_call (codeAny_mono (F.run X.A X.stack s H ⟨us,[]⟩ (us++ds) (vs++dvs) Q E hr I.env0 (hb s us I.kIn hl) r2 h) λr s' hq=>?_);cases r with
 | error e=>exact hx pins σ H s e s' I hq
 | ok fl =>
  cases fl with
  | ret u=>exact I.after hq
  | next=>exact False.elim hq
  | brk=>exact False.elim hq
  | cont=>exact False.elim hq
theorem DG(F:bj X.prog X.w X.K X.mg X.base CX k f fd ps sp)(hr:cI k X.A)(hg:Gl X x)(hm:X.mg x=some (.ref f))(hk:PySem.W.keepIn X.K (.ref f)=true)(hb:ja X.K fd ps ds)(hd:aN dvs ds)(hx:uN CX X E)
  (ha:PA X (e::es) t)(hdb:(x==("__debug__" : Str))=false:=by decide) (he:starEach (e::es) X.env=(false,eval e X.env)::starEach es X.env:=by rfl)(hpl:(backTo pos (starEach es X.env)).any (·.1)=false:=by rfl) :
  PE X (.Call (.Name x p) (e::es) [] pos) (Kp sp dvs E t):=by
 intro pins s σ H Q I h;refine wpAny_Call_Name_kw (i6 I hg hm ?_ hdb);refine PySem.W.callWith_K (h₀:=X.base) I.ok.mod.kin hk (cw (ha pos pins s σ H _ I h) λus s1 ⟨vs,H1,I1,r,q⟩=>⟨I1.kIn,?_⟩) he hpl;exact Gk F hr hb hd hx I1 r q
end
structure az (N P:List Str)(sc:Scope):Prop where
 kind:sc.kind=.function
 co:sc.isCoroutine=false
 gen:sc.isGenerator=false
 nd:N.Nodup
 pre:N.take P.length=P
 par:∀x∈P,sc.names.lookup x=some .local\/sc.names.lookup x=some .cell
 nofree:∀y∈sc.names,y.2 ≠ .free
theorem pc{kindOf:Str->Option NameKind}{x:Str}:∀{binds:List (Str×Value)}{m:Str->Option Value},(∀v,(x,v)∉binds)->bindL kindOf binds m x=m x
 | [],_,_=>rfl
 | (n,v)::r,m,h=>by
  unfold bindL;rw[pc λw hw=>h w (Yj _ hw)];split
  .have:x≠n:=by rintro rfl;exact h v Yi
   simp[this]
  .rfl
theorem qf{kindOf:Str->Option NameKind}{x:Str}:∀{binds:List (Str×Value)}{m:Str->Option Value},(∀v,(x,v)∉binds)->bindC kindOf binds m x=m x
 | [],_,_=>rfl
 | (n,v)::r,m,h=>by
  unfold bindC;rw[qf λw hw=>h w (Yj _ hw)];split
  .rfl
  .have:x≠n:=by rintro rfl;exact h v Yi
   simp[this]
theorem pY{kindOf:Str->Option NameKind}{x:Str}{v:Value}:∀{P:List Str}{vs:List Value}{i:Nat}{m:Str->Option Value},P.Nodup->P[i]? = some x->vs[i]? = some v->kindOf x=some .local ->
  bindL kindOf (P.zip vs) m x=some v
 | [],_,_,_,_,h,_,_=>by simp at h
 | _::_,[],_,_,_,_,h,_=>by simp at h
 | p::P,w::vs,0,m,nd,h1,h2,hk=>by
  simp at h1 h2;subst h1;subst h2;show bindL kindOf ((p,w)::P.zip vs) m p=_;unfold bindL;rw[pc λv hv=>(List.nodup_cons.mp nd).1 (List.of_mem_zip hv).1,Yb hk];simp
 | p::P,w::vs,i+1,m,nd,h1,h2,hk=>by
  show bindL kindOf ((p,w)::P.zip vs) m x=_;unfold bindL;exact pY (i:=i) (List.nodup_cons.mp nd).2 (by simpa using h1) (by simpa using h2) hk
theorem pC{kindOf:Str->Option NameKind}{x:Str}{v:Value}:∀{P:List Str}{vs:List Value}{i:Nat}{m:Str->Option Value},P.Nodup->P[i]? = some x->vs[i]? = some v->kindOf x≠some .local ->
  bindC kindOf (P.zip vs) m x=some v
 | [],_,_,_,_,h,_,_=>by simp at h
 | _::_,[],_,_,_,_,h,_=>by simp at h
 | p::P,w::vs,0,m,nd,h1,h2,hk=>by
  simp at h1 h2;subst h1;subst h2;show bindC kindOf ((p,w)::P.zip vs) m p=_;unfold bindC;rw[qf λv hv=>(List.nodup_cons.mp nd).1 (List.of_mem_zip hv).1,Yc hk];simp
 | p::P,w::vs,i+1,m,nd,h1,h2,hk=>by
  show bindC kindOf ((p,w)::P.zip vs) m x=_;unfold bindC;exact pC (i:=i) (List.nodup_cons.mp nd).2 (by simpa using h1) (by simpa using h2) hk
def start(N:List Str)(vs:List V):St:=vs.map some++List.replicate (N.length-vs.length) none
def fw(CX:vA)(P:Program)(w:World)(K:W.Frag)(mg:Str->Option Value)(base:Heap)(N:List Str)(qual:Str)(scope:Scope)(f:Addr)(cd:Value)(A:Around)(outer:List Env)(s:Shared)(H:Hp)(E:XK):Cx where
 prog:=P
 w:=w
 K:=K
 mg:=mg
 base:=base
 A:=A.deeper (envOfC qual scope s.heap.objs.size f cd)
 N:=N
 s₀:=s
 H₀:=H
 env:=envOfC qual scope s.heap.objs.size f cd
 outer:=outer
 stack:=envOfC qual scope s.heap.objs.size f cd::outer
 ex:=[]
 calm:=true
 fn:=λ_=>true
 pn:=[]
 xe:=λe s'=>wpAny (model P w) (A.deeper (envOfC qual scope s.heap.objs.size f cd)) (leaving (envOfC qual scope s.heap.objs.size f cd) e) (λ_ s''=>CX outer H s E e s'') (λe' s''=>CX outer H s E e' s'') s'
theorem sO{sc:Scope}{n:Nat}{x:Str}(h:sc.names.lookup x=some .cell):∃c,(cellsFrom n sc.names []).lookup x=some c:=by
 have q:=PySem.W.cellsFrom_some sc.names n [] (.inl h);exact Option.isSome_iff_exists.mp q
theorem qh{CX:vA}{P:Program}{w:World}{K:W.Frag}{mg:Str->Option Value}{base:Heap}{N ps:List Str}{qual:Str}{scope:Scope}{f:Addr}{cd:Value}{A:Around}{outer:List Env}{s s1:Shared}{H:Hp}{E:XK}{us:List Value}{vs:List V}
  (S:az N ps scope)(hd:A.handled=none)(e0:oW P w K mg base A outer s H)(hl:vs.length=ps.length)(r:aN vs us)
  (x:InCallC s s.heap.objs.size (bindL (envOfC qual scope s.heap.objs.size f cd).kindOf (ps.zip us) λ_=>none) (cellsFrom (s.heap.objs.size+1) scope.names []) (bindC (envOfC qual scope s.heap.objs.size f cd).kindOf (ps.zip us) λ_=>none) s1) :
  ay (fw CX P w K mg base N qual scope f cd A outer s H E) [] (start N vs) H s1:=by
 have hpl:ps.length<=N.length:=by have:=Yn List.length S.pre;rw[Yw] at this;nofun
 obtain⟨h1,tk,rfl,hk⟩:=x.done;have noA:∀b:Addr,b∉(fw CX P w K mg base N qual scope f cd A outer s H E).ex:=λb z=>absurd (show b∈([]:List Addr) from z) (by simp)
 refine⟨⟨e0.mod,S.kind,rfl,rfl,Yq _,λy z c h1 h2=>?_,λy hy=>?_,λy c _ h=>?_,λ_=>hd,Around.frames_deeper e0.frames,.inr ⟨rfl,rfl⟩,λb z=>absurd z (noA b),e0.bs,e0.bsz,λb _ _=>noA b,λb z=>absurd z (noA b),e0.funs,e0.frf⟩,
  rfl,e0.bare,Un.kept hk,⟨_,x.toInCall.ns,λi y v h1 h2 h3=>?_⟩,λy c h=>⟨_,x.cell y c h⟩,e0.hok.fresh (Yq _),λy c h=>?_,λp hp=>absurd (show p∈([]:List (Addr×Obj)) from hp) (by simp),e0.hok.kept hk,?_⟩
 .exact name_of_addr x.apart (Yx h1) (Yx h2)
 .have hy:scope.names.lookup y=some .cell\/scope.names.lookup y=some .free:=hy;rcases hy with hy|hy
  .exact sO hy
  .exact absurd rfl (S.nofree _ (Yx hy))
 .exact Yh (x.above y c (Yx h))
 .have hi:i<vs.length:=by
   unfold start at h2;by_cases hi:i<vs.length
   .exact hi
   .rw[Yy (by simpa using hi)] at h2
    rw[List.getElem?_replicate] at h2;split at h2<;>cases h2
  have ha:vs[i]? = some v:=by
   unfold start at h2;rw[Yz (by simpa using hi),YA] at h2
   cases e:vs[i]? with
   | none=>rw[e] at h2;cases h2
   | some a=>rw[e] at h2;cases h2;rfl
  obtain⟨u,hu,rv⟩:=r.get ha;have hp:ps[i]? = some y:=by
   rw[<-S.pre,List.getElem?_take_of_lt ()];exact h1
  have ndP:ps.Nodup:=by rw[<-S.pre];exact S.nd.sublist (List.take_sublist _ _)
  refine⟨u,rv,?_⟩;rcases S.par y (YB hp) with k|k
  .exact .inl ⟨k,pY ndP hp hu k⟩
  .obtain⟨c,e⟩:=sO (n:=s.heap.objs.size+1) k;refine .inr ⟨.inl k,c,e,?_⟩;have q:=x.cell y c e;rw[pC ndP hp hu (by show scope.names.lookup y≠_;rw[k];decide)] at q
   exact q
 .exact e0.hok.fresh (Yh (x.above y c (Yx h)))
 .unfold start;show _=N.length;rw[YC,YD,List.length_replicate];nofun
theorem BG{CX:vA}{P:Program}{w:World}{K:W.Frag}{mg:Str->Option Value}{base:Heap}{k:Nat}{f:Addr}{name qual:Str}{params:Arguments}{body:List Stmt}{scope:Scope}{dV kV doc pm cdv ct oc:Value}{an od:Option Addr}
  {osl:Array (Option Value)}{N ps:List Str}{sp:Sp}(lk:K.lookup f=some ⟨oc,od,.func (PySem.W.fnOf name qual params body scope dV kV doc pm an cdv ct),osl⟩)(hcd:PySem.W.codeIn K cdv qual=true)(S:az N ps scope)
  (len:∀vs H Q E,sp vs H Q E->vs.length=ps.length)
  (hbody:∀(A:Around)(outer:List Env)(s:Shared)(H:Hp)(vs:List V)(Q:VK)(E:XK),cI k (A.deeper (envOfC qual scope s.heap.objs.size f cdv))->sp vs H Q E ->
   ∃t,qL (fw CX P w K mg base N qual scope f cdv A outer s H E) body t/\t { nx:=λ_ H'=>Q .non H',rt:=Q } (start N vs) H) :
  bj P w K mg base CX (k+1) f (PySem.W.fnOf name qual params body scope dV kV doc pm an cdv ct) ps sp:=by
 refine⟨len,λA outer s H args us vs Q E hr e0 hb r hsp=>?_⟩;have hl:=len _ _ _ _ hsp;have KX:K.In s.heap:=e0.mod.kin.keeps λb o e=>(e0.bs b o e).1;have lim:s.heap.NoLimit:=e0.mod.nolimit.keeps λb o e=>(e0.bs b o e).1;have hkind:∀y∈ps.zip us,scope.names.lookup y.1=some .local\/(scope.names.lookup y.1=some .cell/\((cellsFrom (s.heap.objs.size+1) scope.names []).lookup y.1).isSome=true):=λ⟨n,v⟩ hy=>by
  rcases S.par n (List.of_mem_zip hy).1 with q|q
  .exact .inl q
  .exact .inr ⟨q,PySem.W.cellsFrom_some _ _ _ (.inl q)⟩
 refine codeAny_call_function hr.depth (KX _ _ lk) rfl S.co S.gen rfl (PySem.W.codeRec_of KX hcd) (hb _ _ _ _ ?_);refine wpAny_newFunctionEnv_cells S.kind hkind λenv he s1 x=>?_;subst he;refine⟨lim.keeps x.toInCall.keep,codeAny_func ?_⟩;obtain⟨t,ht,hq⟩:=hbody A outer s H vs Q E (hr.deeper _) hsp;have I:ay (fw CX P w K mg base N qual scope f cdv A outer s H E) [] (start N vs) H s1:=qh S hr.hd e0 hl r x;refine wpAny_mono (ht [] s1 (start N vs) H _ I hq) (λfl s' hs=>?_) λe s' hs=>hs;have fin:∀{σ':St}{H':Hp}{v:V}{u:Value},ay (fw CX P w K mg base N qual scope f cdv A outer s H E) [] σ' H' s'->aY v u->Q v H'->CE outer P w H s Q u s' :=
  λ{σ' H' v u} J rv q=>⟨v,H',J.os,J.bare,J.base,J.hok,rv,q⟩
 cases fl with
 | ret u =>
  obtain⟨v,σ',H',J,rv,q⟩:=hs;exact fin J rv q
 | next =>
  obtain⟨σ',H',J,q⟩:=hs;exact fin (v:=V.non) (u:=Value.none) J rfl q
 | brk =>
  obtain⟨_,_,_,q⟩:=hs;exact False.elim q
 | cont =>
  obtain⟨_,_,_,q⟩:=hs;exact False.elim q
section
variable {X:Cx}{x:Str}{p pos:Pos}{e:Expr}{es:List Expr}{t:TA}{id T:String}{r:List V->Hp->VK->Prop}
def EM(r:List V->Hp->VK->Prop)(t:TA):TE:=λσ H Q=>t σ H λvs H1=>r vs H1 Q
theorem CH(hc:dk X (.builtin id) r)(hg:Gl X x)(hm:X.mg x=none)(hv:bootBuiltins x=some (.builtin id))(ha:PA X (e::es) t)(hn:x ≠ "__name__":=by decide) (hdb:(x==("__debug__" : Str))=false:=by decide)
  (he:starEach (e::es) X.env=(false,eval e X.env)::starEach es X.env:=by rfl)(hpl:(backTo pos (starEach es X.env)).any (·.1)=false:=by rfl):PE X (.Call (.Name x p) (e::es) [] pos) (EM r t):=by
 intro pins s σ H Q I h;refine wpAny_Call_Name_kw (iy I hg hm hv ?_ hn hdb);exact PyProof.Rows.callWith_builtin1 (cw (ha pos pins s σ H _ I h) λus s1 ⟨vs,H1,I1,r1,q1⟩=>hc pins s1 σ H1 vs us Q I1 r1 q1) he hpl
theorem yf(hc:dk X (.type T) r)(hg:Gl X x)(hm:X.mg x=none)(hv:bootBuiltins x=some (.type T))(ha:PA X (e::es) t)(hn:x ≠ "__name__":=by decide) (hdb:(x==("__debug__" : Str))=false:=by decide)
  (he:starEach (e::es) X.env=(false,eval e X.env)::starEach es X.env:=by rfl)(hpl:(backTo pos (starEach es X.env)).any (·.1)=false:=by rfl):PE X (.Call (.Name x p) (e::es) [] pos) (EM r t):=by
 intro pins s σ H Q I h;refine wpAny_Call_Name_kw (iy I hg hm hv ?_ hn hdb);exact Yr (cw (ha pos pins s σ H _ I h) λus s1 ⟨vs,H1,I1,r1,q1⟩=>hc pins s1 σ H1 vs us Q I1 r1 q1) he hpl
end
end L2
namespace HT
open PySem PyProof.Rows
section
open PySem.SeqAt
open PySem.AutoSeq1 (wpAny_loadPart')
open PySem.MeetsSeq PySem.MeetsSeq2 PySem.MeetsSeq3
end
section
variable {prog:Program}{w:World}{A:Around}{E:Value->Shared->Prop}{s:Shared}
def sIx(n d:Nat):Option Int->Nat
 | none=>d
 | some v=>if v<0 then (v+(n:Int)).toNat else min v.toNat n
theorem xm(n d k:Nat):sIx n d (some (k:Int))=min k n:=by
 show (if (k:Int)<0 then ((k:Int)+(n:Int)).toNat else min (k:Int).toNat n)=min k n
 rw[Yc (),YE]
end
end HT
namespace L2
open PySem PySem.Spec PyProof.Rows
abbrev TO:=St->Hp->(Option Int->Hp->Prop)->Prop
def PO(X:Cx)(e:Option Expr)(t:TO):Prop :=
 ∀(pins:List (Addr×Obj))(s:Shared)(σ:St)(H:Hp)(Q:Option Int->Hp->Prop),ay X pins σ H s->t σ H Q ->
  wpAny (model X.prog X.w) X.A (evalPart e X.env) (λu s'=>∃o H',ay X pins σ H' s'/\IsPart u o/\Q o H') X.xe s
def sw:TO:=λ_ H Q=>Q none H
def xM(t:TE):TO:=λσ H Q=>t σ H λx H1=>∃i,x=.int i/\Q (some i) H1
theorem uU{ns:List Int}:∀{us:List Value},aN (ns.map V.int) us->IntsAre us ns:=by
 induction ns with
 | nil=>intro us r;rw[YF] at r;cases r;exact .nil
 | cons n ns ih =>
  intro us r;rw[YG] at r;cases r with
  | cons r1 r2 =>
   obtain⟨t,e⟩:=r1;subst e;exact .cons n t (ih r2)
section
variable {X:Cx}{e:Expr}{te:TE}{lo hi:Option Expr}{tl th:TO}{pos p2:Pos}
theorem Fa:PO X none sw:=by
 intro pins s σ H Q I h;rw[evalPart_none];exact wpAny_pure ⟨none,H,I,.none,h⟩
theorem Eh(h:PE X e te):PO X (some e) (xM te):=by
 intro pins s σ H Q I hw;rw[evalPart_some];refine cw (h pins s σ H _ I hw) λu s1 ⟨x,H1,I1,r1,q1⟩=>?_;obtain⟨i,rfl,q⟩:=q1;obtain⟨t,rfl⟩:=r1;exact⟨some i,H1,I1,.int i t,q⟩
def CW(X:Cx)(r:V->Option Int->Option Int->Hp->VK->Prop):Prop :=
 ∀(pins:List (Addr×Obj))(s:Shared)(σ:St)(H:Hp)(x:V)(v vl vu:Value)(lo hi:Option Int)(sl:Addr)(Q:VK),ay X pins σ H s->aY x v->s.heap.IsSliceOf sl vl vu .none->IsPart vl lo->IsPart vu hi->r x lo hi H Q ->
  ∃T id,typeLookup (.type T) "__getitem__" = pure (some (.builtin id))/\s.TypeIs v T/\wpAny (model X.prog X.w) X.A (getItem v (.ref sl)) (EP X pins σ Q) X.xe s
def Ld(r:V->Option Int->Option Int->Hp->VK->Prop)(te:TE)(tl th:TO):TE:=λσ H Q=>te σ H λx H1=>tl σ H1 λl H2=>th σ H2 λu H3=>r x l u H3 Q
theorem Co{r:V->Option Int->Option Int->Hp->VK->Prop}(hr:CW X r)(he:PE X e te)(hl:PO X lo tl)(hu:PO X hi th):PE X (.Subscript e (.Slice lo hi none p2) pos) (Ld r te tl th):=by
 intro pins s σ H Q I h;refine Subscript_ (cw (he pins s σ H _ I h) λv s1 ⟨x,H1,I1,r1,q1⟩=>?_);refine wpAny_Slice (cw (hl pins s1 σ H1 _ I1 q1) λvl s2 ⟨l,H2,I2,pl,q2⟩=>cw (hu pins s2 σ H2 _ I2 q2) λvu s3 ⟨u,H3,I3,pu,q3⟩=>?_);rw[evalPart_none];refine wpAny_pure ?_;have I4:ay X pins σ H3 { s3 with heap:=s3.heap.push { cls:=.type "slice",data:=.fields #[vl,vu,.none] } }:=I3.kept (t':=s3.toks) λb ob q=>Heap.get?_push_of_some _ q
 obtain⟨T,id,hT,ht,hg⟩:=hr pins { s3 with heap:=s3.heap.push { cls:=.type "slice",data:=.fields #[vl,vu,.none] } } σ H3 x v vl vu l u s3.heap.objs.size Q I4 r1 (Heap.IsSliceOf.new ..) pl pu q3;show wpAny (model X.prog X.w) X.A (subscriptTail e (.Slice lo hi none p2) v (.ref s3.heap.objs.size)) (EP X pins σ Q) X.xe { s3 with heap:=s3.heap.push { cls:=.type "slice",data:=.fields #[vl,vu,.none] } }
 exact tail_any (ops:=[.ref s3.heap.objs.size,v]) ht hT hg (by with_unfolding_all rfl)
def nV(xs:List V)(lo hi:Option Int):List V:=(xs.drop (HT.sIx xs.length 0 lo)).take (HT.sIx xs.length xs.length hi-HT.sIx xs.length 0 lo)
theorem sW(xs:List V)(lo hi:Option Int):(nV xs lo hi).length<=xs.length:=by
 unfold nV;rw[Yw,List.length_drop];nofun
end
def uO(n:Nat)(i:Int):Option Nat:=if 0<=i then (if i<n then some i.toNat else none) else if -(n:Int)<=i then some (i+n).toNat else none
def oi{α:Type}(xs:List α)(i:Int):Option α:=(uO xs.length i).bind λj=>xs[j]?
theorem wH{n:Nat}{i:Int}{j:Nat}(h:uO n i=some j):seqIndex? i n=some j/\j<n /\ -(n:Int)<=i/\i<n:=by
 unfold uO at h;by_cases h0:0<=i
 .rw[Yb h0] at h;by_cases h1:i<n
  .rw[Yb h1] at h;have e:i.toNat=j:=Ym h;exact⟨by rw[seqIndex_of h0 h1,e],(),(),h1⟩
  .rw[Yc h1] at h;cases h
 .rw[Yc h0] at h;by_cases h1 : -(n:Int)<=i
  .rw[Yb h1] at h;have e:(i+n).toNat=j:=Ym h;exact⟨by rw[seqIndex_neg () h1,e],(),h1,()⟩
  .rw[Yc h1] at h;cases h
theorem qC{α:Type}{xs:List α}{i:Int}{v:α}(h:oi xs i=some v):∃j,seqIndex? i xs.length=some j/\xs[j]? = some v/\j<xs.length /\ -(xs.length:Int)<=i/\i<xs.length:=by
 unfold oi at h;cases e:uO xs.length i with
 | none=>rw[e] at h;cases h
 | some j =>
  rw[e] at h;obtain⟨h1,h2,h3,h4⟩:=wH e;exact⟨j,h1,h,h2,h3,h4⟩
theorem cD{α:Type}{xs:List α}{j:Nat}{v:α}(h:xs[j]? = some v):oi xs (j:Int)=some v:=by
 have hj:j<xs.length:=(List.getElem?_eq_some_iff.mp h).1;have e:uO xs.length (j:Int)=some j:=by
  unfold uO;rw[Yb (),Yb ()];simp
 unfold oi;rw[e];exact h
theorem A6{α:Type}(xs:List α)(v:α):oi (xs++[v]) (-1)=some v:=by
 have hl:(xs++[v]).length=xs.length+1:=by simp
 have e:uO (xs++[v]).length (-1)=some xs.length:=by
  unfold uO;rw[hl,Yc ∅,Yb ()];congr 1
  nofun
 unfold oi;rw[e];show (xs++[v])[xs.length]? = some v;simp
def wZ(b:Expr):Prop:=∀o i,subscripted b false o i=operate [o,i] (getItem o i)
def yN(X:Cx)(r:R2):Prop :=
 ∀(value slice:Expr)(pins:List (Addr×Obj))(s:Shared)(σ:St)(H:Hp)(x y:V)(v u:Value)(Q:VK),ay X pins σ H s->aY x v->aY y u->r x y H Q ->
  subscripted slice false v u=operate [v,u] (getItem v u)->wpAny (model X.prog X.w) X.A (subscriptTail value slice v u) (EP X pins σ Q) X.xe s
def JK(X:Cx)(id:String)(r:V->List V->Hp->VK->Prop):Prop :=
 ∀(pins:List (Addr×Obj))(s:Shared)(σ:St)(H:Hp)(x:V)(xs:List V)(v:Value)(us:List Value)(Q:VK),ay X pins σ H s->aY x v->aN xs us->r x xs H Q ->
  wpAny (model X.prog X.w) X.A (call (.builtin id) (v::us)) (EP X pins σ Q) X.xe s
section
variable {X:Cx}{a b:Expr}{ta tb:TE}{pos:Pos}
theorem Kb{r:R2}(hr:yN X r)(ha:PE X a ta)(hb:PE X b tb)(hs:wZ b):PE X (.Subscript a b pos) (CV r ta tb):=by
 intro pins s σ H Q I h;exact Subscript_ (GZ ha hb I h λv u s2 x y H2 I2 rx ry q=>hr a b pins s2 σ H2 x y v u Q I2 rx ry q (hs _ _))
def JO(K:W.Frag):R2:=λx y H Q=>∃p xs i v,x=.ref p/\y=.int i/\jN K H p xs/\oi xs i=some v/\Q v H
def Jt(K:W.Frag):R2:=λx y H Q=>∃p xs i v,x=.ref p/\y=.int i/\xJ K H p xs/\oi xs i=some v/\Q v H
theorem xW:yN X (JO X.K):=by
 intro value slice pins s σ H x y v u Q I rx ry h hs;obtain⟨p,xs,i,z,rfl,rfl,hq,he,q⟩:=h;cases rx;obtain⟨t,rfl⟩:=ry;obtain⟨its,r,pl,hz⟩:=I.list hq;obtain⟨j,h1,h2,h3,h4,h5⟩:=qC he;obtain⟨w,ew,rw'⟩:=r.get h2;have hl:=r.length;have hn:=kY;have fin:EP X pins σ Q w s:=⟨z,H,I,rw',q⟩;by_cases h0:0<=i
 .have hj:i.toNat=j:=by
   rw[seqIndex_of h0 h5] at h1;exact Ym h1
  exact item_listR pl.isList h0 () (by rw[hj];simpa using ew) fin hs
 .have hj:(i+(its.toArray.size:Int)).toNat=j:=by
   rw[seqIndex_neg () h4] at h1;rw[Yt,<-hl];exact Ym h1
  exact subscriptTail_builtinR (x:=w) pl.isList.typeIs slot_list_getitem.lookup
   (wpAny_getItem_list_neg (Q:=λr s'=>r=w/\EP X pins σ Q r s') pl.isList () (by rw[Yt]<;>nofun) () (by rw[hj];simpa using ew) ⟨rfl,fin⟩) hs
theorem HL:yN X (Jt X.K):=by
 intro value slice pins s σ H x y v u Q I rx ry h hs;obtain⟨p,xs,i,z,rfl,rfl,hq,he,q⟩:=h;cases rx;obtain⟨t,rfl⟩:=ry;obtain⟨its,r,pl,hz⟩:=I.tuple hq;obtain⟨j,h1,h2,h3,h4,h5⟩:=qC he;obtain⟨w,ew,rw'⟩:=r.get h2;have hl:=r.length;have hn:=kY;have fin:EP X pins σ Q w s:=⟨z,H,I,rw',q⟩;exact subscriptTail_builtinR (x:=w) pl.typeIs slot_tuple_getitem.lookup
  (getItem_tuple (j:=j) (Q:=λr s'=>r=w/\EP X pins σ Q r s') pl () () (by rw[Yt,<-hl];exact h1) (by simpa using ew) ⟨rfl,fin⟩) hs
theorem vR(its:List Value)(n j:Nat)(u:Value):Obj.mapSeq (·.setIfInBounds j u) { cls:=.type "list",data:=.seq its.toArray n } = { cls:=.type "list",data:=.seq (its.set j u).toArray n }:=by
 simp[Obj.mapSeq]
theorem ay.lst{pins:List (Addr×Obj)}{σ:St}{H:Hp}{s:Shared}{p:Addr}{xs:List V}(I:ay X pins σ H s)(h:H p=some (.lst xs)) :
  ∃(its:List Value)(n:Nat),aN xs its/\s.heap.get? p=some { cls:=.type "list",data:=.seq its.toArray n } /\ xs.length<=sizeLine:=by
 obtain⟨z,its,n,r,e⟩:=I.hok p _ h;exact⟨its,n,r,e,z⟩
theorem ay.lstUpd{pins:List (Addr×Obj)}{σ:St}{H:Hp}{s:Shared}{p:Addr}{xs ys:List V}{its its':List Value}{n n':Nat}{f:Obj->Obj}(I:ay X pins σ H s)(h:H p=some (.lst xs))
  (ho:s.heap.get? p=some { cls:=.type "list",data:=.seq its.toArray n }) (hf:f { cls:=.type "list",data:=.seq its.toArray n } = { cls:=.type "list",data:=.seq its'.toArray n' }) (r:aN ys its')(hz:ys.length<=sizeLine)(t:Nat) :
  ay X pins σ (upd H p (.lst ys)) { s with heap:=s.heap.update p f,toks:=t }:=by
 have e:(s.heap.update p f).get? p=some { cls:=.type "list",data:=.seq its'.toArray n' }:=by
  rw[Heap.get?_update_self f ho (by rw[hf]<;>rfl),hf]
 refine I.write (x:=p) (e:=p) (by rw[h];trivial) (.inl rfl) (λb u hb q=>(Heap.get?_update_other _ _ (Yk hb)).trans q) ⟨_,e⟩ ?_
 exact⟨hz,its',n',r,e⟩
def Jh:V->V->V->Hp->(Hp->Prop)->Prop:=λo i v H Q=>∃p xs k j,o=.ref p/\i=.int k/\H p=some (.lst xs)/\uO xs.length k=some j/\Q (upd H p (.lst (xs.set j v)))
theorem zN:yq X Jh:=by
 intro pins s σ H o i v ov iv u Q I ro ri rv h;obtain⟨p,xs,k,j,rfl,rfl,hp,hj,q⟩:=h;cases ro;obtain⟨t,rfl⟩:=ri;obtain⟨its,n,r,ho,hz⟩:=I.lst hp;obtain⟨h1,h2,h3,h4⟩:=wH hj;have hl:=r.length;have hn:=kY;have I':ay X pins σ (upd H p (.lst (xs.set j v))) { s with heap:=s.heap.update p (Obj.mapSeq (·.setIfInBounds j u)) } :=
  I.lstUpd hp ho (vR its n j u) (r.set rv j) (by rw[List.length_set];exact hz) s.toks
 by_cases h0:0<=k
 .have hk:k.toNat=j:=by
   rw[seqIndex_of h0 h4] at h1;exact Ym h1
  exact PySem.W.ki_setAt ho h0 () (by rw[Yt,<-hl];exact h4) (by rw[hk];exact⟨_,I',q⟩)
 .have hk:(k+(its.toArray.size:Int)).toNat=j:=by
   rw[seqIndex_neg () h3] at h1;rw[Yt,<-hl];exact Ym h1
  exact PySem.W.ki_setBack ho () (by rw[Yt,<-hl];exact h3) () (by rw[hk];exact⟨_,I',q⟩)
theorem sr(lo hi:Option Int)(n:Nat):(sliceBounds lo hi none n).1=((HT.sIx n 0 lo:Nat):Int)/\(sliceBounds lo hi none n).2.1=((HT.sIx n n hi:Nat):Int)/\(sliceBounds lo hi none n).2.2=1:=by
 refine⟨?_,?_,rfl⟩
 .cases lo with
  | none=>simp[sliceBounds,HT.sIx]
  | some i =>
   simp only[sliceBounds,HT.sIx,Option.getD_none,show (1:Int) > 0 by decide,if_true]
   by_cases h:i<0
   .simp only[h,if_true]<;>nofun
   .simp only[h,if_false]<;>nofun
 .cases hi with
  | none=>simp[sliceBounds,HT.sIx]
  | some i =>
   simp only[sliceBounds,HT.sIx,Option.getD_none,show (1:Int) > 0 by decide,if_true]
   by_cases h:i<0
   .simp only[h,if_true]<;>nofun
   .simp only[h,if_false]<;>nofun
theorem oV(its:List Value)(lo hi:Option Int):slicePick its.toArray lo hi none=((its.drop (HT.sIx its.length 0 lo)).take (HT.sIx its.length its.length hi-HT.sIx its.length 0 lo)).toArray:=by
 obtain⟨h1,h2,h3⟩:=sr lo hi its.toArray.size;unfold slicePick;rw[h1,h2,h3];simp only[sliceRange_one,pick_run,Yt]<;>rfl
def KM(K:W.Frag):V->Option Int->Option Int->Hp->VK->Prop:=λx lo hi H Q=>∃a xs,x=.ref a/\jN K H a xs /\ ∀p,H p=none->Q (.ref p) (upd H p (.lst (nV xs lo hi)))
theorem DQ:CW X (KM X.K):=by
 intro pins s σ H x v vl vu lo hi sl Q I rx hs pl pu h;obtain⟨a,xs,rfl,hx,q⟩:=h;cases rx;obtain⟨its,r,ht,hz⟩:=I.list hx;have hlen:=r.length;refine⟨"list",_,slot_list_getitem.lookup,ht.isList.typeIs,?_⟩;refine wpAny_getItem_list_slice ht.isList hs pl pu .none (by simp) ?_ (by rw[Yt]<;>nofun)
 rw[oV,<-hlen];refine⟨.ref s.heap.objs.size,_,I.laid (t':=s.toks) (o:=.lst (nV xs lo hi)) (λb ob q=>Heap.get?_push_of_some _ q) (Yq _) ?_,rfl,q _ (I.hok.fresh (Yq _))⟩;exact⟨Yg (sW xs lo hi) hz,_,0,(r.drop (HT.sIx xs.length 0 lo)).take (HT.sIx xs.length xs.length hi-HT.sIx xs.length 0 lo),Heap.get?_push_size _ rfl⟩
theorem gY:dk X (.builtin "len") (λxs H Q=>∃p ys,xs=[.ref p]/\(jN X.K H p ys\/xJ X.K H p ys)/\Q (.int ys.length) H):=by
 intro pins s σ H xs us Q I r h;obtain⟨p,ys,rfl,hq,q⟩:=h;obtain⟨u,rfl,rx⟩:=xE r;cases rx;have hn:=kY;rcases hq with hq|hq
 .obtain⟨its,r',pl,hz⟩:=I.list hq;have hlen:=r'.length;exact Calls.call_len_list pl.isList (by simp only[Yt]<;>nofun) ⟨.int ys.length,H,I.tok _,⟨s.toks+1,by rw[Yt,hlen]⟩,q⟩
 .obtain⟨its,r',pl,hz⟩:=I.tuple hq;have hlen:=r'.length;exact len_tuple pl (by simp only[Yt]<;>nofun) ⟨.int ys.length,H,I.tok _,⟨s.toks+1,by rw[Yt,hlen]⟩,q⟩
theorem qD:dk X (.type "list") (λxs H Q=>∃p ys,xs=[.ref p]/\(jN X.K H p ys\/xJ X.K H p ys) /\ ∀l,H l=none->Q (.ref l) (upd H l (.lst ys))):=by
 intro pins s σ H xs us Q I r h;obtain⟨p,ys,rfl,hq,q⟩:=h;obtain⟨u,rfl,rx⟩:=xE r;cases rx;have fin:∀(its:List Value),aN ys its->ys.length<=sizeLine -> ∀(h':Heap)(c':Nat),(∀b o',s.heap.get? b=some o'->h'.get? b=some o') ->
   h'.get? s.heap.objs.size=some { cls:=.type "list",dict:=none,data:=.seq its.toArray c',slots:=#[] } -> EP X pins σ Q (.ref s.heap.objs.size) { s with heap:=h' }:=λits r' hz h' c' kp e =>
  ⟨.ref s.heap.objs.size,_,I.laid (t':=s.toks) kp (Yq _) (show bV X.prog X.w _ h' _ (.lst ys) from ⟨hz,its,c',r',e⟩),rfl,q _ (I.hok.fresh (Yq _))⟩
 rcases hq with hq|hq
 .obtain⟨its,r',pl,hz⟩:=I.list hq;have hlen:=r'.length;obtain⟨o,ho,hc,n,hd⟩:=pl.isList;exact call_list_seq p (.inl rfl) ho hc hd (λh' c' kp e=>fin its r' hz h' c' kp e) (by simp only[Yt]<;>nofun)
 .obtain⟨its,r',pl,hz⟩:=I.tuple hq;have hlen:=r'.length;obtain⟨o,ho,hc,n,hd⟩:=pl;exact call_list_seq p (.inr rfl) ho hc hd (λh' c' kp e=>fin its r' hz h' c' kp e) (by simp only[Yt]<;>nofun)
def JA(K:W.Frag)(T:String)(x:V)(H:Hp):Prop:=match x with
 | .str _=>T = "str"
 | .int _=>T = "int"
 | .ref p=>(T = "list" /\ ∃xs,jN K H p xs)\/(T = "tuple" /\ ∃o,K.lookup p=some o/\o.cls=.type "tuple" /\ o.dict=none) \/
   (T = "dict" /\ ((∃kvs,H p=some (.dK kvs)) \/ ∃kvs,H p=some (.dT kvs)))\/(T = "set" /\ ∃S n,H p=some (.set S n))
 | _=>False
theorem Ck{pins:List (Addr×Obj)}{σ:St}{H:Hp}{s:Shared}{T:String}{x:V}{v:Value}(I:ay X pins σ H s)(r:aY x v)(ty:JA X.K T x H) :
  s.TypeIs v T /\ ∀a,v=.ref a -> ∃ob,s.heap.get? a=some ob/\ob.dict=none:=by
 cases x with
 | str z =>
  obtain⟨t,rfl⟩:=r;cases (show T = "str" from ty)
  exact⟨typeIs_str s z t,λ_ e=>nomatch e⟩
 | int i =>
  obtain⟨t,rfl⟩:=r;cases (show T = "int" from ty)
  exact⟨typeIs_int s i t,λ_ e=>nomatch e⟩
 | ref p =>
  cases r;rcases ty with ⟨rfl,xs,hq⟩|⟨rfl,o,hk,hc,hd⟩|⟨rfl,hk⟩|⟨rfl,S,n,hk⟩
  .obtain⟨its,_,pl,_⟩:=I.list hq;refine⟨pl.isList.typeIs,λa e=>?_⟩;cases e;obtain⟨o,n,e,c,hd,_⟩:=pl;exact⟨o,e,hd⟩
  .refine⟨⟨o,I.kIn p o hk,hc⟩,λa e=>?_⟩;cases e;exact⟨o,I.kIn _ o hk,hd⟩
  .have z:∃o,s.heap.get? p=some o/\o.ExactDict:=by
    rcases hk with ⟨kvs,hk⟩|⟨kvs,hk⟩
    .obtain⟨_,_,_,_,o,_,_,e,ex,_⟩:=I.hok p _ hk;exact⟨o,e,ex⟩
    .obtain⟨_,_,_,_,o,_,_,e,ex,_⟩:=I.hok p _ hk;exact⟨o,e,ex⟩
   obtain⟨o,e,ex⟩:=z;refine⟨⟨o,e,ex.1⟩,λa e2=>?_⟩;cases e2;exact⟨o,e,ex.2.1⟩
  .obtain⟨o,_,_,_,e,ex,_⟩:=I.hok p _ hk;refine⟨⟨o,e,ex.1⟩,λa e2=>?_⟩;cases e2;exact⟨o,e,ex.2.1⟩
 | _=>exact False.elim ty
def IC(K:W.Frag)(T:String)(r:V->List V->Hp->VK->Prop)(to:TE):TE:=λσ H Q=>to σ H λx H1=>JA K T x H1/\r x [] H1 Q
def KZ(K:W.Frag)(T:String)(r:V->List V->Hp->VK->Prop)(to:TE)(t:TA):TE:=λσ H Q=>to σ H λx H1=>JA K T x H1/\t σ H1 λxs H2=>r x xs H2 Q
variable {o e:Expr}{es:List Expr}{to:TE}{t:TA}{name:Str}{apos cpos:Pos}{T id:String}{r:V->List V->Hp->VK->Prop}
theorem IM(pa:PlainAttrs T)(slot:Slot T name id)(hty:typeOf (.builtin id)=pure (.type "method_descriptor")) (hm:JK X id r)(ho:PE X o to)
  (hbase:attributeBase o name X.env (eval o X.env)=eval o X.env:=by rfl)(hline:(apos.endLine==cpos.line)=true:=by rfl):PE X (.Call (.Attribute o name apos) [] [] cpos) (IC X.K T r to):=by
 intro pins s σ H Q I h;refine wpAny_Call_method0_late hbase hline (cw (ho pins s σ H _ I h) λv s1 ⟨x,H1,I1,r1,ty,q1⟩=>?_);obtain⟨h1,h2⟩:=Ck I1 r1 ty;exact⟨T,id,pa,slot,hty,h1,h2,Calls.callWith_builtin rfl (PySem.evalArgs_none (hm pins s1 σ H1 x [] v [] Q I1 r1 .nil q1))⟩
theorem Je(pa:PlainAttrs T)(slot:Slot T name id)(hty:typeOf (.builtin id)=pure (.type "method_descriptor")) (hm:JK X id r)(ho:PE X o to)(ha:PA X (e::es) t)
  (hbase:attributeBase o name X.env (eval o X.env)=eval o X.env:=by rfl)
  (hfew:((backTo cpos (starEach (e::es) X.env)).all (λx=>!x.1) && (backToKw cpos (keywordEach [] X.env)).all (λx=>x.1.isSome)
   && decide ((e::es).length+([]:List Keyword).length+(if ([]:List Keyword).isEmpty then 0 else 1)<30))=true:=by rfl)
  (hline:(apos.endLine==cpos.line)=true:=by rfl)(hs:starEach (e::es) X.env=(false,eval e X.env)::starEach es X.env:=by rfl)(hplain:(backTo cpos (starEach es X.env)).any (·.1)=false:=by rfl) :
  PE X (.Call (.Attribute o name apos) (e::es) [] cpos) (KZ X.K T r to t):=by
 intro pins s σ H Q I h;refine wpAny_Call_method_late hbase hfew hline rfl (cw (ho pins s σ H _ I h) λv s1 ⟨x,H1,I1,r1,ty,q1⟩=>?_);obtain⟨h1,h2⟩:=Ck I1 r1 ty;refine⟨T,id,pa,slot,hty,h1,h2,?_⟩;have hA:=ha cpos pins s1 σ H1 _ I1 q1;rw[hs] at hA ⊢;refine Calls.callWith_builtin (by show (false || (backTo cpos (starEach es X.env)).any (·.1))=false;rw[hplain]<;>rfl) (Calls.evalArgs_plain ?_)
 exact cw hA λus s2 ⟨vs,H2,I2,r2,q2⟩=>hm pins s2 σ H2 x vs v us Q I2 r1 r2 q2
end
def JQ(X:Cx)(id:String)(r:V->List V->Hp->VK->Prop):Prop :=
 ∀(pins:List (Addr×Obj))(s:Shared)(σ:St)(H:Hp)(x:V)(xs:List V)(v:Value)(us:List Value)(Q:VK),ay X pins σ H s->aY x v->aN xs us->r x xs H Q ->
  wpAny (model X.prog X.w) X.A (call (.builtin id) (v::us)) (EP X pins σ Q) X.xe s
theorem aN.one:∀{x:V}{us:List Value},aN [x] us -> ∃u,us=[u]/\aY x u
 | _,_,.cons r .nil=>⟨_,rfl,r⟩
theorem aN.zero:∀{us:List Value},aN [] us->us=[]
 | _,.nil=>rfl
theorem aN.dropLast{xs:List V}{us:List Value}(h:aN xs us):aN xs.dropLast us.dropLast:=by
 induction h with
 | nil=>exact .nil
 | cons r t ih =>
  cases t with
  | nil=>exact .nil
  | cons q t'=>exact .cons r ih
theorem aN.rep{xs:List V}{us:List Value}(h:aN xs us):∀k:Nat,aN (List.replicate k xs).flatten (List.replicate k us).flatten
 | 0=>.nil
 | k+1=>by
  rw[YH,YH,List.flatten_cons,List.flatten_cons];exact aN.append h (aN.rep h k)
theorem vS{α:Type}(l:List α):l.eraseIdx (l.length-1)=l.dropLast:=by
 induction l with
 | nil=>rfl
 | cons a r ih =>
  cases r with
  | nil=>rfl
  | cons b r =>
   have e:(a::b::r).length-1=((b::r).length-1)+1:=by
    have h1:(a::b::r).length=r.length+2:=rfl;have h2:(b::r).length=r.length+1:=rfl;nofun
   rw[e,List.eraseIdx_cons_succ,ih]
   all_goals rfl
theorem pI(its:List Value):∀(k:Nat)(acc:List Value),
  List.foldl (λx1 x2=>x1++x2) acc.toArray (List.replicate k its.toArray)=(acc++(List.replicate k its).flatten).toArray
 | 0,acc=>by simp
 | k+1,acc=>by
  have e:acc.toArray++its.toArray=(acc++its).toArray:=by simp
  have e2:(acc++its)++(List.replicate k its).flatten=acc++(List.replicate (k+1) its).flatten:=by
   rw[YH,List.flatten_cons,YI]
  rw[<-e2,<-pI its k (acc++its),<-e,YH,List.foldl_cons]
section
variable {X:Cx}{pins:List (Addr×Obj)}{σ:St}{H:Hp}{s:Shared}{l b:Addr}{xs ys zs:List V}
theorem ay.lset{its its':List Value}{n:Nat}{f:Array Value->Array Value}{t':Nat}(I:ay X pins σ H s)(hH:H l=some (.lst xs))
  (e:s.heap.get? l=some { cls:=.type "list",data:=.seq its.toArray n }) (hf:f its.toArray=its'.toArray)(hv:aN ys its')(hz:ys.length<=sizeLine) :
  ay X pins σ (upd H l (.lst ys)) { s with heap:=s.heap.update l (Obj.mapSeq f),toks:=t' }:=by
 have q:=PySem.IsL.update e f;rw[hf] at q;refine I.write (x:=l) (e:=l) (by rw[hH];exact trivial) (.inl rfl) (λb' u hb hu=>(Heap.get?_update_other s.heap (Obj.mapSeq f) (Yk hb)).trans hu) ⟨_,q⟩ ?_
 exact⟨hz,its',_,hv,q⟩
theorem ay.lnew{its:List Value}{t':Nat}(I:ay X pins σ H s)(hv:aN ys its)(hz:ys.length<=sizeLine) :
  ay X pins σ (upd H s.heap.objs.size (.lst ys)) { s with heap:=s.heap.push { cls:=.type "list",data:=.seq its.toArray },toks:=t' } :=
 I.laid (λ_ _ q=>Heap.get?_push_of_some _ q) (Yq _) ⟨hz,its,0,hv,Heap.get?_push_size _ rfl⟩
theorem ay.fresh(I:ay X pins σ H s):H s.heap.objs.size=none:=I.hok.fresh (Yq _)
theorem ay.lstM(I:ay X pins σ H s)(hH:H l=some (.lst xs)):xs.length<=sizeLine /\ ∃(its:List Value)(n:Nat),aN xs its/\xs.length=its.length/\s.heap.get? l=some { cls:=.type "list",data:=.seq its.toArray n }:=by
 obtain⟨z,its,n,r,e⟩:=I.hok l _ hH;exact⟨z,its,n,r,r.length,e⟩
theorem AU{n:Nat}(h:n<=sizeLine):Builtin.List.listTooLong n=false:=by
 unfold Builtin.List.listTooLong;exact Ya ()
end
section
variable {X:Cx}
def Eo:V->List V->Hp->VK->Prop:=λx vs H Q=>∃l xs y,x=.ref l/\vs=[y]/\H l=some (.lst xs)/\xs.length<sizeLine/\Q .non (upd H l (.lst (xs++[y])))
theorem pj:JQ X "list.append" Eo:=by
 intro pins s σ H x vs v us Q I rx rv h;obtain⟨l,xs,y,rfl,rfl,hH,hz,q⟩:=h;cases rx;obtain⟨u,rfl,ru⟩:=rv.one;obtain⟨z,its,n,r,hl,e⟩:=I.lstM hH;refine call_meets F.slot_list_append ⟨_,e,rfl⟩ F.entry_list_append (F.args_list_append_2 _ _) (PySem.list_append l its.toArray n u (by rw[Yt];nofun)) ⟨e,?_⟩
 refine⟨.non,_,I.lset (its':=its++[u]) hH e (by simp) (r.append (.cons ru .nil)) ?_,rfl,q⟩
 rw[YC,List.length_singleton];nofun
def KH:V->List V->Hp->VK->Prop:=λx vs H Q=>∃l xs y,x=.ref l/\vs=[]/\H l=some (.lst xs)/\xs[xs.length-1]? = some y/\Q y (upd H l (.lst xs.dropLast))
theorem Gw:JQ X "list.pop" KH:=by
 intro pins s σ H x vs v us Q I rx rv h;obtain⟨l,xs,y,rfl,rfl,hH,hy,q⟩:=h;cases rx;have hus:=rv.zero;subst hus;obtain⟨z,its,n,r,hl,e⟩:=I.lstM hH;obtain⟨u,hu,ru⟩:=r.get hy;have hy':its.toArray[its.toArray.size-1]? = some u:=by
  show its.toArray[its.length-1]? = some u;rw[<-Array.getElem?_toList,<-hl];exact hu
 refine call_meets F.slot_list_pop ⟨_,e,rfl⟩ F.entry_list_pop (F.args_list_pop_1 _) (MeetsSeq.list_pop_last l its.toArray n u hy' (by rw[Yt];nofun)) ⟨e,?_⟩
 refine⟨y,_,I.lset (its':=its.dropLast) hH e ?_ r.dropLast ?_,ru,q⟩
 .show its.toArray.eraseIdxIfInBounds (its.toArray.size-1)=its.dropLast.toArray;rw[Yt,List.eraseIdxIfInBounds_toArray,vS]
 .rw[List.length_dropLast];nofun
def K4:R2:=λx y H Q=>∃l b xs zs,x=.ref l/\y=.ref b/\H l=some (.lst xs)/\H b=some (.lst zs)/\xs.length+zs.length<=sizeLine /\ ∀p,H p=none->Q (.ref p) (upd H p (.lst (xs++zs)))
theorem HM:fi X (binaryOp .Add) K4:=by
 intro pins s σ H x y v u Q I rx ry h;obtain⟨l,b,xs,zs,rfl,rfl,hH,hB,hz,q⟩:=h;cases rx;cases ry;obtain⟨z,its,n,r,hl,e⟩:=I.lstM hH;obtain⟨z2,its2,n2,r2,hl2,e2⟩:=I.lstM hB;refine PySem.P.add_list e e2 ?_ (by rw[Yt,Yt];nofun)
 have ea:its.toArray++its2.toArray=(its++its2).toArray:=by simp
 rw[ea];exact⟨.ref _,_,I.lnew (t':=s.toks) (r.append r2) (by rw[YC];nofun),rfl,q _ I.fresh⟩
def K6:R2:=λx y H Q=>∃l k xs,x=.ref l/\y=.int k/\H l=some (.lst xs) /\ -(2^63)<=k/\k<2^63/\xs.length*k.toNat<=sizeLine /\
 ∀p,H p=none->Q (.ref p) (upd H p (.lst (List.replicate k.toNat xs).flatten))
theorem Fh{α:Type}(xs:List α)(k:Nat):(List.replicate k xs).flatten.length=k*xs.length:=by
 induction k with
 | zero=>simp
 | succ k ih=>rw[YH,List.flatten_cons,YC,ih,Nat.succ_mul,Nat.add_comm]
theorem Hw:fi X (binaryOp .Mult) K6:=by
 intro pins s σ H x y v u Q I rx ry h;obtain⟨l,k,xs,rfl,rfl,hH,h1,h2,hz,q⟩:=h;cases rx;obtain⟨t,rfl⟩:=ry;obtain⟨z,its,n,r,hl,e⟩:=I.lstM hH;have hlen:its.toArray.size*k.toNat<=sizeLine:=by rw[Yt,<-hl];exact hz
 have hcap:¬ its.toArray.size*k.toNat > (2^63-1)/8:=by
  have:(sizeLine:Nat)<=(2^63-1)/8:=∅;nofun
 have hfit:¬ (!Builtin.List.listFitsIndex k)=true:=by
  rw[fitsIndex_both h1 h2];exact Yo
 have hlong:¬ Builtin.List.listTooLong (its.toArray.size*k.toNat)=true:=by
  rw[AU hlen];exact Yo
 have hnew:List.foldl (λx1 x2=>x1++x2) #[] (List.replicate (if its.toArray.isEmpty=true then 0 else k.toNat) its.toArray)=(List.replicate k.toNat its).flatten.toArray:=by
  have f0:∀m:Nat,List.foldl (λx1 x2=>x1++x2) #[] (List.replicate m its.toArray)=(List.replicate m its).flatten.toArray:=λm=>by
   have:=pI its m [];rw[List.nil_append] at this;exact this
  rw[f0];cases its with
  | nil=>simp
  | cons a r'=>rw[Yc (by simp)]
 refine wpAny_binaryOp_repeat_ref (T:="list") (U:="int") ∅ ⟨_,e,rfl⟩ (λs'=>typeIs_int s' k t) noFill_list_mul F.fills_int_mul F.slot_int_rmul repeat_list F.slot_int_index.lookup
  (call_meets F.slot_int_rmul (typeIs_int s k t) F.entry_int_rmul (F.args_int_rmul_2 _ _) (int___rmul___int_list k t l its.toArray n)
   ⟨e,rfl,⟨_,e,rfl⟩,call_meets F.slot_list_mul ⟨_,e,rfl⟩ F.entry_list_mul (F.args_list_mul_2 _ _) (AutoListH.list___mul___list_int_3 l its.toArray n k t hfit hcap hlong) ⟨e,?_⟩⟩)
 rw[hnew];exact⟨.ref _,_,I.lnew (t':=s.toks) (r.rep k.toNat) (by rw[Fh,YJ];exact hz),rfl,q _ I.fresh⟩
end
end L2
namespace Att
open PySem PySem.W PySem.Calls PyProof.Rows
theorem mf{P:Params}{h:Heap}:∀(ns:List Int)(vs:List Value),WellAll P h vs (ns.map WData.int)->IntsAre vs ns:=by
 intro ns;induction ns with
 | nil =>
  intro vs w;rw[YF] at w;cases w;exact .nil
 | cons n ns ih =>
  intro vs w;rw[YG] at w;cases w with
  | cons a b =>
   cases a;exact .cons _ _ (ih _ b)
theorem xZ{l:OpenLaw}{n:Nat}(hn:l.most=some n) {P:Params}{h:Heap}{args:List WData}{vals:List Value}
  (hpre:l.row.toRowW.claim.pre args=true)(hwl:WellAll P h vals args) :
  ∃a vs ns,vals=[Value.ref a]/\args=[WData.list (ns.map WData.int)]/\h.get? a=some { cls:=.type "list",data:=.seq vs.toArray } /\ IntsAre vs ns/\ns.length<=n:=by
 have hsh:WShape.hasAll [] args [.list .int]=true:=(pre_splitW hpre).1;have hc:l.pre.holds [] { args:=args } = true:=(pre_splitW hpre).2;obtain⟨d,r,rfl,h1,h2⟩:=hasAllW_cons hsh;obtain rfl:=hasAllW_nil h2;obtain⟨xs,rfl,h3⟩:=hasW_list h1;obtain⟨ns,rfl⟩:=items_int h3;have hlen:ns.length<=n:=by
  unfold OpenLaw.pre at hc;have h4:(WTm.not (.lt (.lit (.int (n:Int))) (.len (.arg 0)))).holds [] { args:=[.list (ns.map .int)] } = true:=by
   have h4:=(holds_andW hc).1;rw[hn] at h4;exact h4
  have h5:=condW_of h4 (w_not (w_lt w_lit (w_len_list (w_arg rfl))));rw[YD] at h5;refine Nat.le_of_not_lt λq=>?_;have q':(n:Int)<((ns.length:Nat):Int):=()
  first
   | (rw[YK q'] at h5;exact absurd h5 ∅)
   | (simp at h5;nofun)
 cases hwl with
 | cons w1 w2 =>
  cases w2;cases w1 with
  | list ho hall=>exact⟨_,_,ns,rfl,rfl,ho,mf ns _ hall,hlen⟩
theorem yI(l:OpenLaw)(args:List WData):l.row.toRowW.claim.post args (.bool true) args=true :=
 postW_of (r:=l.row.toRowW) (X:=(true==true))
  (show WShape.has [] (.bool true) .bool=true by first|rfl|decide|simp[WShape.has,WShape.arms,WShape.armsAll])
  (show (WTm.eq .res (.lit (.bool true))).value [] { args:=args,res:=some (.bool true),after:=args } = some (.bool (true==true)) from w_eq_bool (w_res rfl) w_lit) rfl
theorem attach_call{l:OpenLaw}{n:Nat}{q:Program}{loose:List Str}{XP:(Str->Option Value)->Heap->Prop}{YP:World->Heap->Prop}{d:DefRec}
  (hn:l.most=some n)(hdf:d.params.defaults=[])
  (call:∀(w:World)(s₀ s₁:Shared)(mg mb:Str->Option Value)(fa:Addr)(o:Obj)(pm cd doc:Value)(a:Addr)(vs:List Value)(ns:List Int),
   Ground q loose [] XP w s₀ mg mb s₁.heap->YP w s₁.heap ->
   s₁.heap.get? fa=some o->o.data=.func (docDef d.name d.params d.body d.scope pm cd doc)->s₁.heap.CodeRec cd d.name->mg d.name=some (.ref fa) ->
   s₁.heap.get? a=some { cls:=.type "list",data:=.seq vs.toArray } -> IntsAre vs ns->ns.length<=n->s₁.gens = #[] ->
   codeAny (model l.prog w) callerA (.call (.ref fa) ⟨[.ref a],[]⟩) (λr s'=>r=.ok (.ret (.bool true))/\OldK s₁.heap s'.heap/\s'.os=s₁.os/\AllBare s'.gens) s₁) :
  WalkO q loose XP YP l.row.toRowW d [] (λf vs=>PySem.call f vs):=by
 intro w s₀ s₁ mg mb G Y fa o pm cd doc dV kV ho hd hcd hD hmg hg args vals as hpre hlay hrd hwl hlo;obtain rfl:dV=.none:=Dflts.none hD hdf;obtain rfl:kV=.none:=Dflts.noKw hD;obtain⟨a,vs,ns,rfl,rfl,hobj,hints,hlen⟩:=xZ hn hpre hwl;refine enter_call (codeAny_mono (call w s₀ s₁ mg mb fa o pm cd doc a vs ns G Y ho (fd_plain hd) hcd hmg hobj hints hlen hg) λr s' hq=>?_);obtain⟨rfl,h2,h3,h4⟩:=hq;exact⟨.inl ⟨.bool true,.bool true,[],rfl,λ_=>rfl,.bool true,yI l _,λ_=>⟨List.Pairwise.nil,λ_ hm=>(nomatch hm)⟩⟩,h2,h3,h4⟩
end Att
namespace L2
open PySem PySem.Spec PyProof.Rows
theorem pQ:∀{vs:List Value}{ns:List Int},IntsAre vs ns->aN (ns.map V.int) vs
 | _,_,.nil=>.nil
 | _,_,.cons n t h=>.cons ⟨t,rfl⟩ (pQ h)
def dZ(s:Stmt):Arguments:=match s with
 | .FunctionDef _ a _ _ _ _ _ _ _ _=>a
 | _=>{ posonlyargs:=[],args:=[],vararg:=none,kwonlyargs:=[],kw_defaults:=[],kwarg:=none,defaults:=[] }
def cC(s:Stmt):List Stmt:=match s with
 | .FunctionDef _ _ b _ _ _ _ _ _ _=>b
 | _=>[]
def ak(s:Stmt):Scope:=match s with
 | .FunctionDef _ _ _ _ _ _ sc _ _ _=>sc
 | _=>{ kind:=.function,names:=[],isGenerator:=false,isCoroutine:=false }
abbrev eP:vA:=λ_ _ _ _ _ _=>False
abbrev E0:XK:=λ_ _ _=>False
theorem JC{X:Cx}:uN eP X E0:=λ_ _ _ _ _ _ _ h=>h.elim
structure eD (K:W.Frag)(x qual:Str)(st:Stmt)(f:Addr)(fd:FuncData):Prop where
 ex:∃(oc:Value)(od:Option Addr)(kV doc pm:Value)(an:Option Addr)(cdv ct:Value)(osl:Array (Option Value)),
  fd=PySem.W.fnOf x qual (dZ st) (cC st) (ak st) .none kV doc pm an cdv ct/\K.lookup f=some ⟨oc,od,.func fd,osl⟩/\PySem.W.codeIn K cdv qual=true
 kp:PySem.W.keepIn K (.ref f)=true
section
variable {P:Program}{w:World}{K:W.Frag}{mg:Str->Option Value}{base:Heap}
theorem eD.ok{x qual:Str}{st:Stmt}{f:Addr}{fd:FuncData}{N ps:List Str}{k:Nat}{sp:Sp}(F:eD K x qual st f fd)(S:az N ps (ak st))(len:∀vs H Q E,sp vs H Q E->vs.length=ps.length)
  (hbody:∀(cdv:Value)(A:Around)(outer:List Env)(s:Shared)(H:Hp)(vs:List V)(Q:VK)(E:XK),cI k (A.deeper (envOfC qual (ak st) s.heap.objs.size f cdv))->sp vs H Q E ->
   ∃t,qL (fw eP P w K mg base N qual (ak st) f cdv A outer s H E).nox (cC st) t/\t { nx:=λ_ H'=>Q .non H',rt:=Q } (start N vs) H):bj P w K mg base eP (k+1) f fd ps sp:=by
 obtain⟨oc,od,kV,doc,pm,an,cdv,ct,osl,rfl,lk,hcd⟩:=F.ex;refine BG lk hcd S len λA outer s H vs Q E hr hsp=>?_;obtain⟨t,h,q⟩:=hbody cdv A outer s H vs Q E hr hsp;exact⟨t,h.nox,q⟩
theorem eD.binds{x qual:Str}{st:Stmt}{f:Addr}{fd:FuncData}{ps:List Str}(F:eD K x qual st f fd)
  (h:∀(kV doc pm:Value)(an:Option Addr)(cdv ct:Value)(us:List Value),us.length=ps.length->bindArgs (PySem.W.fnOf x qual (dZ st) (cC st) (ak st) .none kV doc pm an cdv ct) ⟨us,[]⟩=pure (ps.zip us)):ja K fd ps []:=by
 obtain⟨oc,od,kV,doc,pm,an,cdv,ct,osl,rfl,lk,hcd⟩:=F.ex;exact .all (h kV doc pm an cdv ct)
theorem uA{x qual:Str}{st:Stmt}{f:Addr}{oc:Value}{od an:Option Addr}{osl:Array (Option Value)}{kV doc pm cdv ct:Value}(l:K.lookup f=some ⟨oc,od,.func (PySem.W.fnOf x qual (dZ st) (cC st) (ak st) .none kV doc pm an cdv ct),osl⟩)
  (c:PySem.W.codeIn K cdv qual=true)(k:PySem.W.keepIn K (.ref f)=true):eD K x qual st f (PySem.W.fnOf x qual (dZ st) (cC st) (ak st) .none kV doc pm an cdv ct):=⟨⟨oc,od,kV,doc,pm,an,cdv,ct,osl,rfl,l,c⟩,k⟩
end
section
variable {X:Cx}
theorem pv(i:Nat){x:Str}{pos:Pos}(hN:X.N[i]? = some x:=by rfl)(hv:Go X.env.scope x:=by first|exact Or.inl rfl|exact Or.inr (Or.inl rfl)|exact Or.inr (Or.inr rfl))(hd:(x==("__debug__" : Str))=false:=by decide)
  (hcd:(x==("__classdict__" : Str))=false:=by decide):PE X (.Name x pos) (EA i):=Cd hN hv hd hcd
end
theorem cO{c A B:Prop} [Decidable c] (h1:c->A)(h2:¬ c->B):if c then A else B:=by
 by_cases h:c
 .rw[Yb h];exact h1 h
 .rw[Yc h];exact h2 h
def ax(H H':Hp):Prop:=∀b o,H b=some o->H' b=some o
theorem ax.refl(H:Hp):ax H H:=λ_ _ h=>h
theorem ax.trans{H H1 H2:Hp}(a:ax H H1)(b:ax H1 H2):ax H H2:=λc o h=>b c o (a c o h)
theorem ax.free{H H':Hp}(e:ax H H') {l:Addr}(h:H' l=Option.none):H l=Option.none:=by
 cases q:H l with
 | none=>rfl
 | some o =>
  rw[e l o q] at h;cases h
structure dq (P:Program)(w:World)(K:W.Frag)(mg:Str->Option Value)(base:Heap)(x:Str)(ps:List Str)(k:Nat)(sp:Sp):Prop where
 ex:∃f fd,bj P w K mg base eP k f fd ps sp/\mg x=some (.ref f)/\PySem.W.keepIn K (.ref f)=true/\ja K fd ps []
section
variable {X:Cx}{x:Str}{p pos:Pos}{e:Expr}{es:List Expr}{t:TA}{ps:List Str}{k:Nat}{sp:Sp}
def A9(sp:Sp)(t:TA):TE:=λσ H Q=>t σ H λvs H1=>sp vs H1 Q E0
theorem GA(C:dq X.prog X.w X.K X.mg X.base x ps k sp)(hr:cI k X.A)(hg:Gl X x)(ha:PA X (e::es) t)(hdb:(x==("__debug__" : Str))=false:=by decide)
  (he:starEach (e::es) X.env=(false,eval e X.env)::starEach es X.env:=by rfl)(hpl:(backTo pos (starEach es X.env)).any (·.1)=false:=by rfl) :
  PE X (.Call (.Name x p) (e::es) [] pos) (A9 sp t):=by
 obtain⟨f,fd,F,hm,hk,hb⟩:=C.ex;intro pins s σ H Q I h;refine DG (E:=E0) (dvs:=[]) F hr hg hm hk hb .nil JC ha hdb he hpl pins s σ H Q I ?_;show t σ H λvs H1=>sp (vs++[]) H1 Q E0;have e:(λ(vs:List V) H1=>sp (vs++[]) H1 Q E0)=λvs H1=>sp vs H1 Q E0:=by
  funext vs H1;rw[Yv]
 rw[e];exact h
end
section
variable {X:Cx}
theorem xB:fi X (binaryOp .Mult) (rI IntMulOk λi j=>.int (i*j)):=JB λ_ _ _ _ _ _ _ hc q=>mul_int q hc
def FD(_ j:Int):Prop:=j≠0/\j.natAbs.log2<9000
theorem nZ:fi X (binaryOp .FloorDiv) (rI FD λi j=>.int (i.fdiv j)):=JB λ_ _ _ _ _ _ _ hc q=>floordiv_int hc.1 q (.inl (PyProof.noPylong_of_log2 hc.2))
theorem cJ:fi X (binaryOp .Mod) (rI (λ_ j=>j≠0) λi j=>.int (i.fmod j)):=Em
end
theorem Cz{CX:vA}{P:Program}{w:World}{K:W.Frag}{mg:Str->Option Value}{base:Heap}{N:List Str}{qual:Str}{scope:Scope}{f:Addr}{cd:Value}{A:Around}{outer:List Env}{s:Shared}{H:Hp}{E:XK} :
  (fw CX P w K mg base N qual scope f cd A outer s H E).K=K:=rfl
def yC:List Value->Option (List V)
 | []=>some []
 | u::us=>match Jw u,yC us with
  | some x,some xs=>some (x::xs)
  | _,_=>none
theorem pB:∀{us:List Value}{xs:List V},yC us=some xs->aN xs us
 | [],xs,h=>by cases h;exact .nil
 | u::us,xs,h=>by
  unfold yC at h;split at h
  .rename_i x ys e1 e2
   cases h;refine .cons ?_ (pB e2);cases u<;>first|(cases e1;first|exact rfl|exact⟨_,rfl⟩)|cases e1
  .cases h
def DK(o:Obj):Option HO:=match o.data with
 | .seq its _=>if o.cls=.type "tuple" /\ its.size<=sizeLine then (yC its.toList).map HO.tup else none
 | _=>none
def vw(K:W.Frag)(H:Hp):Hp:=λa=>match K.lookup a with
 | some o=>DK o
 | none=>H a
theorem AV{o:Obj}{u:HO}(h:DK o=some u):∃xs,u=.tup xs:=by
 unfold DK at h;split at h
 .split at h
  .cases e:yC _ with
   | none=>rw[e] at h;cases h
   | some xs=>rw[e] at h;cases h;exact⟨xs,rfl⟩
  .cases h
 .cases h
theorem cj{K:W.Frag}{H:Hp}{a:Addr}(hk:K.lookup a=none):vw K H a=H a:=by
 unfold vw;rw[hk]
theorem iA{K:W.Frag}{H:Hp}{a:Addr}{xs:List V}(h:vw K H a=some (.tup xs)):xJ K H a xs:=by
 unfold vw at h;split at h
 .rename_i o ho
  unfold DK at h;split at h
  .rename_i its n hd
   split at h
   .rename_i hc
    cases e:yC its.toList with
    | none=>rw[e] at h;cases h
    | some ys =>
     rw[e] at h;cases h;exact .inr ⟨o,its,n,ho,hc.1,hd,hc.2,pB e⟩
   .cases h
  .cases h
 .exact .of h
theorem gh{K:W.Frag}{H:Hp}{a:Addr}{u:HO}(h:vw K H a=some u)(hu:∀xs,u ≠ .tup xs):H a=some u:=by
 unfold vw at h;split at h
 .obtain⟨xs,rfl⟩:=AV h;exact absurd rfl (hu xs)
 .exact h
theorem aE{K:W.Frag}{H:Hp}{a:Addr}{xs:List V}(h:vw K H a=some (.lst xs)):H a=some (.lst xs):=gh h λ_ e=>by cases e
theorem iV{K:W.Frag}{H H':Hp}(S:ax H H'):ax (vw K H) (vw K H'):=λb o e=>by
 unfold vw at e ⊢;split at e
 .exact e
 .exact S _ _ e
def gd(l:Addr)(H H':Hp):Prop:=∀b o,b≠l->H b=some o->H' b=some o
theorem rG{K:W.Frag}{l:Addr}{H H':Hp}(S:gd l H H'):gd l (vw K H) (vw K H'):=λb o hb e=>by
 unfold vw at e ⊢;split at e
 .exact e
 .exact S _ _ hb e
theorem ay.noK{X:Cx}{pins:List (Addr×Obj)}{σ:St}{H:Hp}{s:Shared}{p:Addr}{o:HO}(I:ay X pins σ H s)(h:H p=some o):X.K.lookup p=none:=by
 cases e:X.K.lookup p with
 | none=>rfl
 | some ob =>
  have:=(I.bs p ob (I.mod.kin p ob e)).2;rw[h] at this;cases this
theorem ay.newK{X:Cx}{pins:List (Addr×Obj)}{σ:St}{H:Hp}{s:Shared}{p:Addr}(I:ay X pins σ H s)(hp:s.heap.objs.size<=p):X.K.lookup p=none:=by
 cases e:X.K.lookup p with
 | none=>rfl
 | some o=>exact absurd (Yd (Heap.lt_size (I.kIn p o e)) hp) (Ye _)
def Kf(K:W.Frag)(v:V)(H:Hp):Prop:=∀p o,v=.ref p->H p=some o->K.lookup p=none
section
variable {X:Cx}
theorem fi.kf{f:Value->Value->Sem Value}{r:R2}(h:fi X f r):fi X f (λx y H Q=>r x y H λv H'=>Kf X.K v H'->Q v H'):=λpins s σ H x y v u Q I rx ry q =>
 cw (h pins s σ H x y v u _ I rx ry q) λu' s' ⟨v',H',I',r',q'⟩=>⟨v',H',I',r',q' λp o _ hp=>I'.noK hp⟩
theorem dk.kf{f:Value}{r:List V->Hp->VK->Prop}(h:dk X f r):dk X f (λxs H Q=>r xs H λv H'=>Kf X.K v H'->Q v H'):=λpins s σ H xs us Q I rs q =>
 cw (h pins s σ H xs us _ I rs q) λu' s' ⟨v',H',I',r',q'⟩=>⟨v',H',I',r',q' λp o _ hp=>I'.noK hp⟩
theorem CW.kf{r:V->Option Int->Option Int->Hp->VK->Prop}(h:CW X r):CW X (λx a b H Q=>r x a b H λv H'=>Kf X.K v H'->Q v H'):=by
 intro pins s σ H x v vl vu lo hi sl Q I rx hs pl pu q;obtain⟨T,id,e1,e2,e3⟩:=h pins s σ H x v vl vu lo hi sl _ I rx hs pl pu q;exact⟨T,id,e1,e2,cw e3 λu' s' ⟨v',H',I',r',q'⟩=>⟨v',H',I',r',q' λp o _ hp=>I'.noK hp⟩⟩
end
theorem ax.upd{H:Hp}{p:Addr}{o:HO}(hp:H p=none):ax H (upd H p o):=λb u e=>by
 rw[aC (ah e hp)];exact e
theorem gd.upd{H:Hp}{l:Addr}{o:HO}:gd l H (upd H l o):=λb u hb e=>by
 rw[aC hb];exact e
theorem ax.but{H H':Hp}(h:ax H H')(l:Addr):gd l H H':=λb o _ e=>h b o e
theorem gd.trans{l:Addr}{H H1 H2:Hp}(a:gd l H H1)(b:gd l H1 H2):gd l H H2:=λc o hc h=>b c o hc (a c o hc h)
theorem ay.big{X:Cx}{pins:List (Addr×Obj)}{σ:St}{H:Hp}{s:Shared}(I:ay X pins σ H s):sysModules<s.heap.objs.size:=by
 have h:mainGlobals<s.heap.objs.size:=(I.mod.glob.keeps I.bk).lt;exact Nat.lt_trans ∅ h
theorem Ap{P:Program}{w:World}{H:Hp}(h:Heap)(hb:sysModules<h.objs.size):bV P w H (h.push { cls:=.type "dict",data:=.dict #[] }) h.objs.size (.dK []) :=
 ⟨YL _,beq_eq_false_iff_ne.mpr (Yk (Yf hb)),[],.nil,Heap.DictOf.new h⟩
def DB(H:Hp):V->Option String
 | .non=>some "NoneType"
 | .bl _=>some "bool"
 | .int _=>some "int"
 | .str _=>some "str"
 | .ref a=>match H a with
  | some (.lst _)=>some "list"
  | some (.frz _ (.lst _))=>some "list"
  | some (.tup _)=>some "tuple"
  | some (.dK _)=>some "dict"
  | _=>none
 | _=>none
def jh(n c:String):Bool:=n==c || (n == "bool" && c == "int")
def vE(n:String):Prop:=n = "NoneType" \/ n = "bool" \/ n = "int" \/ n = "str" \/ n = "list" \/ n = "tuple" \/ n = "dict"
def pP(c:String):Prop:=c = "bool" \/ c = "int" \/ c = "list" \/ c = "tuple" \/ c = "str" \/ c = "dict"
theorem dP{K:W.Frag}{n c:String}(hn:vE n)(hc:pP c):PySem.W.kitOne K (.type n) (.type c)=some (jh n c):=by
 rcases hn with rfl|rfl|rfl|rfl|rfl|rfl|rfl<;>rcases hc with rfl|rfl|rfl|rfl|rfl|rfl<;>rfl
section
variable {X:Cx}
theorem dN:dk X (.builtin "isinstance") (λxs H Q=>∃x c n,xs=[x,.ty c]/\pP c/\DB (vw X.K H) x=some n/\Q (.bl (jh n c)) H):=by
 intro pins s σ H xs us Q I r h;obtain⟨x,c,n,rfl,hc,hn,q⟩:=h;obtain⟨u,w',rfl,rx,ry⟩:=tW r;cases ry;have fin:∀tk,EP X pins σ Q (.bool (jh n c)) { s with toks:=tk }:=λtk=>⟨.bl _,H,I.tok tk,rfl,q⟩
 cases x with
 | non=>cases hn;exact eN I rx .non (dP (.inl rfl) hc) fin
 | bl b=>cases hn;exact eN I rx (.bl b) (dP (.inr (.inl rfl)) hc) fin
 | int b=>cases hn;exact eN I rx (.int b) (dP (.inr (.inr (.inl rfl))) hc) fin
 | str b=>cases hn;exact eN I rx (.str b) (dP (.inr (.inr (.inr (.inl rfl)))) hc) fin
 | flt b=>cases hn
 | byt b=>cases hn
 | ty b=>cases hn
 | ref a =>
  unfold DB at hn;dsimp only at hn;split at hn
  .rename_i e;cases hn;exact eN I rx (.lst (aE e)) (dP (.inr (.inr (.inr (.inr (.inl rfl))))) hc) fin
  .rename_i e;cases hn;exact eN I rx (.frz (gh e λ_ z=>by cases z)) (dP (.inr (.inr (.inr (.inr (.inl rfl))))) hc) fin
  .rename_i ys e
   cases hn;cases (show u=Value.ref a from rx)
   obtain⟨its,rv,p,hz⟩:=I.tuple (iA e);obtain⟨o,h1,h2,_⟩:=p;exact Yu PySem.W.kitx_tuple I.kIn ⟨o,h1,h2⟩ (dP (.inr (.inr (.inr (.inr (.inr (.inl rfl)))))) hc) (λz=>nomatch z) fin
  .rename_i e;cases hn;exact eN I rx (.dK (gh e λ_ z=>by cases z)) (dP (.inr (.inr (.inr (.inr (.inr (.inr rfl)))))) hc) fin
  .cases hn
end
theorem Ff:pP "int":=.inr (.inl rfl)
theorem Af:pP "bool":=.inl rfl
theorem Ag:pP "list":=.inr (.inr (.inl rfl))
theorem yp:pP "tuple":=.inr (.inr (.inr (.inl rfl)))
theorem ni:bootBuiltins "abs" = some (.builtin "abs"):=by decide +kernel
theorem cx:bootBuiltins "len" = some (.builtin "len"):=by decide +kernel
theorem aD:bootBuiltins "isinstance" = some (.builtin "isinstance"):=by decide +kernel
theorem u4:bootBuiltins "max" = some (.builtin "max"):=by decide +kernel
theorem Bx:bootBuiltins "min" = some (.builtin "min"):=by decide +kernel
theorem GD:bootBuiltins "all" = some (.builtin "all"):=by decide +kernel
theorem xO:bootBuiltins "bool" = some (.type "bool"):=by decide +kernel
theorem j8:bootBuiltins "list" = some (.type "list"):=by decide +kernel
theorem mP:bootBuiltins "tuple" = some (.type "tuple"):=by decide +kernel
theorem sQ:bootBuiltins "reversed" = some (.type "reversed"):=by decide +kernel
theorem HB:bootBuiltins "zip" = some (.type "zip"):=by decide +kernel
section
variable {X:Cx}
theorem yN.imp{r r':R2}(h:yN X r)(hi:∀x y H Q,r' x y H Q->r x y H Q):yN X r':=λv sl pins s σ H x y vv u Q I rx ry q hs=>h v sl pins s σ H x y vv u Q I rx ry (hi _ _ _ _ q) hs
theorem dk.imp{f:Value}{r r':List V->Hp->VK->Prop}(h:dk X f r)(hi:∀xs H Q,r' xs H Q->r xs H Q):dk X f r':=λpins s σ H xs us Q I rs q=>h pins s σ H xs us Q I rs (hi _ _ _ q)
def BA(K:W.Frag):R2:=λx y H Q=>∃p i,x=.ref p/\y=.int i /\ ∃xs,vw K H p=some (.lst xs) /\ ∃v,oi xs i=some v/\Q v H
def AR(K:W.Frag):R2:=λx y H Q=>∃p i,x=.ref p/\y=.int i /\ ∃xs,vw K H p=some (.tup xs) /\ ∃v,oi xs i=some v/\Q v H
theorem dJ:yN X (BA X.K):=xW.imp λ_ _ _ _ ⟨p,i,e1,e2,xs,e3,v,e4,q⟩=>⟨p,xs,i,v,e1,e2,.of (aE e3),e4,q⟩
theorem dS:yN X (AR X.K):=HL.imp λ_ _ _ _ ⟨p,i,e1,e2,xs,e3,v,e4,q⟩=>⟨p,xs,i,v,e1,e2,iA e3,e4,q⟩
def ig(H:Hp)(p:Addr):Option Nat:=match H p with
 | some (.lst xs)=>some xs.length
 | some (.frz _ (.lst xs))=>some xs.length
 | some (.tup xs)=>some xs.length
 | _=>none
theorem aU:dk X (.builtin "len") (λxs H Q=>∃p,xs=[.ref p] /\ ∃n:Nat,ig (vw X.K H) p=some n/\Q (.int n) H):=gY.imp λxs H Q ⟨p,e,n,hn,q⟩=>by
 unfold ig at hn;split at hn
 .rename_i ys hp
  cases hn;exact⟨p,ys,e,.inl (.of (aE hp)),q⟩
 .rename_i o ys hp
  cases hn;exact⟨p,ys,e,.inl (.inl (.inr ⟨o,gh hp λ_ z=>by cases z⟩)),q⟩
 .rename_i ys hp
  cases hn;exact⟨p,ys,e,.inr (iA hp),q⟩
 .cases hn
def lN(K:W.Frag)(n:Nat)(t:zw):TG:=λv σ H Q=>∃a,v=.ref a /\ ∃xs,vw K H a=some (.tup xs)/\xs.length=n/\t xs σ H Q
theorem DA{es:List Expr}{k:Nat}{t:zw}{n:Nat}{pos:Pos}(hc:X.calm=true)(h:Ja X es t)
  (hn:(assignEach es X.env).length=n:=by rfl)(hst:(assignEach es X.env).findIdx? (·.1)=none:=by rfl):PG X (.Tuple es k pos) (lN X.K n t) :=
 λpins s σ H v u Q I r ⟨a,e,xs,hx,hl,q⟩=>HU hc h hn hst pins s σ H v u Q I r ⟨a,xs,e,iA hx,hl,q⟩
theorem ji{α:Type}{x:α}{xs:List α}:oi (x::xs) 0=some x:=cD (j:=0) rfl
theorem m8{α:Type}{x y:α}{xs:List α}:oi (x::y::xs) 1=some y:=cD (j:=1) rfl
theorem Kg{α:Type}{x y z:α}{xs:List α}:oi (x::y::z::xs) 2=some z:=cD (j:=2) rfl
theorem E7{α:Type}{xs:List α}{r:Int}(h0:0<=r)(h1:r<xs.length):∃v,oi xs r=some v/\v∈xs:=by
 have h2:r.toNat<xs.length:=();refine⟨xs[r.toNat],?_,YM h2⟩;have e:=cD (xs:=xs) (j:=r.toNat) (v:=xs[r.toNat]) (YN h2);rw[show ((r.toNat:Nat):Int)=r by nofun] at e
 exact e
theorem gd.same_trans{H H1 H2:Hp}{st:Addr}(b:gd st H H1)(s:ax H1 H2):gd st H H2:=b.trans (s.but st)
theorem Eg:uO 2 0=some 0:=rfl
theorem C3{K:W.Frag}{b k:Bool}{H:Hp}:vM K (.bl b) H k=(k=b):=rfl
theorem Cb{K:W.Frag}{i:Int}{k:Bool}{H:Hp}:vM K (.int i) H k=(k=(i != 0)):=rfl
theorem xX{i j:Int}(h:0<=j/\j<=1000000/\i.natAbs<2^64):Kj i j:=h
end
def Nw(K:W.Frag)(H:Hp)(o:HO)(Q:VK):Prop:=∀p H2,vw K H p=none->ax (vw K H) (vw K H2)->vw K H2 p=some o->Q (.ref p) H2
theorem Nw.ok{K:W.Frag}{H:Hp}{o:HO}{Q:VK}(h:Nw K H o Q) {p:Addr}(hk:K.lookup p=none)(hp:H p=none):Q (.ref p) (upd H p o) :=
 h p _ (by rw[cj hk];exact hp) (iV (ax.upd hp)) (by rw[cj hk];exact aV)
theorem Nw.al{K:W.Frag}{H:Hp}{o:HO}{Q:VK}(h:Nw K H o Q):∀p,H p=none->Kf K (.ref p) (upd H p o)->Q (.ref p) (upd H p o):=λp hp hk=>h.ok (hk p _ rfl aV) hp
def wY(K:W.Frag)(t:TA):TE:=λσ H Q=>t σ H λxs H1=>xs.length<=sizeLine/\Nw K H1 (.tup xs) Q
def xG(K:W.Frag)(t:TA):TE:=λσ H Q=>t σ H λxs H1=>xs.length<=sizeLine/\Nw K H1 (.lst xs) Q
def Ke(K:W.Frag):TE:=λ_ H Q=>Nw K H (.dK []) Q
section
variable {X:Cx}{es:List Expr}{t:TA}{pos:Pos}
theorem Dt {x1}(h:PA X es t):PE X (.Tuple es x1 pos) (wY X.K t):=by
 intro pins s σ H Q I hq;refine wpAny_Tuple_spliced (cw (h pos pins s σ H _ I hq) λus s1 ⟨xs,H1,I1,r,z,q⟩=>⟨by rw[<-r.length];exact z,?_⟩)
 have hf:H1 s1.heap.objs.size=none:=I1.hok.fresh (Yq _);refine⟨.ref s1.heap.objs.size,upd H1 s1.heap.objs.size (.tup xs),I1.laid (t':=s1.toks) (λb u e=>Heap.get?_push_of_some _ e) (Yq _) ?_,rfl,q.ok (I1.newK (Yq _)) hf⟩;exact⟨z,us,r,⟨_,Heap.get?_push_size _ rfl,rfl,_,rfl⟩⟩
theorem Fg(h:PA X es t):PE X (.List es pos) (xG X.K t):=by
 intro pins s σ H Q I hq;refine wpAny_List_spliced (cw (h pos pins s σ H _ I hq) λus s1 ⟨xs,H1,I1,r,z,q⟩=>⟨by rw[<-r.length];exact z,?_⟩)
 have hf:H1 s1.heap.objs.size=none:=I1.hok.fresh (Yq _);refine⟨.ref s1.heap.objs.size,upd H1 s1.heap.objs.size (.lst xs),I1.laid (t':=s1.toks) (λb u e=>Heap.get?_push_of_some _ e) (Yq _) ?_,rfl,q.ok (I1.newK (Yq _)) hf⟩;exact⟨z,us,0,r,Heap.get?_push_size _ rfl⟩
theorem fi.imp{f:Value->Value->Sem Value}{r r':R2}(h:fi X f r)(hi:∀x y H Q,r' x y H Q->r x y H Q):fi X f r':=λpins s σ H x y v u Q I rx ry q=>h pins s σ H x y v u Q I rx ry (hi _ _ _ _ q)
def xb(K:W.Frag):R2:=λx y H Q=>∃l b,x=.ref l/\y=.ref b /\ ∃xs,vw K H l=some (.lst xs) /\ ∃zs,vw K H b=some (.lst zs)/\xs.length+zs.length<=sizeLine/\Nw K H (.lst (xs++zs)) Q
theorem D7:fi X (binaryOp .Add) (xb X.K):=HM.kf.imp λ_ _ _ _ ⟨l,b,e1,e2,xs,h1,zs,h2,z,q⟩=>⟨l,b,xs,zs,e1,e2,aE h1,aE h2,z,q.al⟩
def xt(K:W.Frag):R2:=λx y H Q=>∃l k,x=.ref l/\y=.int k /\ ∃xs,vw K H l=some (.lst xs) /\ -(2^63)<=k/\k<2^63/\xs.length*k.toNat<=sizeLine/\Nw K H (.lst (List.replicate k.toNat xs).flatten) Q
theorem C7:fi X (binaryOp .Mult) (xt X.K):=Hw.kf.imp λ_ _ _ _ ⟨l,k,e1,e2,xs,h1,z1,z2,z3,q⟩=>⟨l,k,xs,e1,e2,aE h1,z1,z2,z3,q.al⟩
def iU(K:W.Frag):R2:=λx y H Q=>rI IntMulOk (λi j=>.int (i*j)) x y H Q\/xt K x y H Q
def jk(K:W.Frag):R2:=λx y H Q=>wq (λi j=>.int (i+j)) x y H Q\/xb K x y H Q
theorem aQ:fi X (binaryOp .Mult) (iU X.K):=xB.or C7
theorem bK:fi X (binaryOp .Add) (jk X.K):=HW.or D7
theorem cY{K:W.Frag}{i j:Int}{H:Hp}{Q:VK}:iU K (.int i) (.int j) H Q=(IntMulOk i j/\Q (.int (i*j)) H):=by
 simp[iU,rI,xt]
theorem nY{K:W.Frag}{l:Addr}{j:Int}{H:Hp}{Q:VK}:iU K (.ref l) (.int j) H Q = ∃xs,vw K H l=some (.lst xs) /\ -(2^63)<=j/\j<2^63/\xs.length*j.toNat<=sizeLine/\Nw K H (.lst (List.replicate j.toNat xs).flatten) Q:=by
 simp[iU,rI,xt]
theorem kq{K:W.Frag}{i j:Int}{H:Hp}{Q:VK}:jk K (.int i) (.int j) H Q=Q (.int (i+j)) H:=by
 simp[jk,wq,xb]
theorem kF{K:W.Frag}{l b:Addr}{H:Hp}{Q:VK}:jk K (.ref l) (.ref b) H Q = ∃xs,vw K H l=some (.lst xs) /\ ∃zs,vw K H b=some (.lst zs)/\xs.length+zs.length<=sizeLine/\Nw K H (.lst (xs++zs)) Q:=by
 simp[jk,wq,xb]
theorem oD:dk X (.type "list") (λxs H Q=>∃p,xs=[.ref p] /\ ∃ys,vw X.K H p=some (.lst ys)/\Nw X.K H (.lst ys) Q):=qD.kf.imp λ_ _ _ ⟨p,e,ys,h,q⟩=>⟨p,ys,e,.inl (.of (aE h)),q.al⟩
theorem CW.imp{r r':V->Option Int->Option Int->Hp->VK->Prop}(h:CW X r)(hi:∀x a b H Q,r' x a b H Q->r x a b H Q):CW X r':=by
 intro value p2 pins s σ H x lo hi' v vl vh sl Q
 intros
 apply h<;>first|assumption|(apply hi;assumption)
def JF(K:W.Frag):V->Option Int->Option Int->Hp->VK->Prop:=λx lo hi H Q=>∃a,x=.ref a /\ ∃xs,vw K H a=some (.lst xs)/\Nw K H (.lst (nV xs lo hi)) Q
theorem nJ:CW X (JF X.K):=DQ.kf.imp λ_ _ _ _ _ ⟨a,e,xs,h,q⟩=>⟨a,xs,e,.of (aE h),q.al⟩
def DD(K:W.Frag)(H:Hp)(l:Addr)(o:HO)(Q:Hp->Prop):Prop:=∀H2,gd l (vw K H) (vw K H2)->vw K H2 l=some o->Q H2
theorem DD.ok{K:W.Frag}{H:Hp}{l:Addr}{o:HO}{Q:Hp->Prop}(h:DD K H l o Q)(hk:K.lookup l=none):Q (upd H l o):=h _ (rG gd.upd) (by rw[cj hk];exact aV)
def zz(K:W.Frag):V->V->V->Hp->(Hp->Prop)->Prop:=λo i v H Q=>∃p k,o=.ref p/\i=.int k /\ ∃xs,vw K H p=some (.lst xs) /\ ∃j,uO xs.length k=some j/\DD K H p (.lst (xs.set j v)) Q
theorem gL:yq X (zz X.K):=λpins s σ H o i v ov iv u Q I ro ri rv ⟨p,k,e1,e2,xs,h,j,e3,q⟩=>zN pins s σ H o i v ov iv u Q I ro ri rv ⟨p,xs,k,j,e1,e2,aE h,e3,q.ok (I.noK (aE h))⟩
def zD(K:W.Frag):V->List V->Hp->VK->Prop:=λx vs H Q=>∃l y,x=.ref l/\vs=[y] /\ ∃xs,vw K H l=some (.lst xs)/\xs.length<sizeLine/\DD K H l (.lst (xs++[y])) (Q .non)
theorem gj:JQ X "list.append" (zD X.K):=λpins s σ H x vs v us Q I rx rv ⟨l,y,e1,e2,xs,h,z,q⟩=>pj pins s σ H x vs v us Q I rx rv ⟨l,xs,y,e1,e2,aE h,z,q.ok (I.noK (aE h))⟩
def FY(K:W.Frag):V->List V->Hp->VK->Prop:=λx vs H Q=>∃l,x=.ref l/\vs=[] /\ ∃xs,vw K H l=some (.lst xs) /\ ∃y,xs[xs.length-1]? = some y/\DD K H l (.lst xs.dropLast) (Q y)
theorem DT:JQ X "list.pop" (FY X.K):=λpins s σ H x vs v us Q I rx rv ⟨l,e1,e2,xs,h,y,e3,q⟩=>Gw pins s σ H x vs v us Q I rx rv ⟨l,xs,y,e1,e2,aE h,e3,q.ok (I.noK (aE h))⟩
end
def FK(J:It)(g:TG)(tb:TS)(D:oA)(σ:St)(H1:Hp):Prop:=∃W:Nat->Nat->St->Hp->Prop,(∃m,W 0 m σ H1) /\ ∀i m σ H,W i m σ H ->
 (J.stop i H/\D.nx σ H)\/(J.go i H /\ ∃N:St->Hp->Prop,(∀σ' H',N σ' H' -> ∃m',m'<m/\W (i+1) m' σ' H') /\ ∀x H',J.yld i H x H'->g x σ H' λσ2 H2=>tb { D with nx:=N,ct:=N,bk:=D.nx } σ2 H2)
theorem EI(wi:TI)(g:TG)(tb:TS)(D:oA)(σ:St)(H:Hp):GR wi g tb D σ H=wi σ H λJ H1=>FK J g tb D σ H1:=rfl
inductive D where
 | non|bl (b:Bool)|int (i:Int)|str (x:Str)|dict|tup (ds:List D)|lst (ds:List D)
mutual
def aO(H:Hp):D->V->Prop
 | .non,v=>v=.non
 | .bl b,v=>v=.bl b
 | .int i,v=>v=.int i
 | .str x,v=>v=.str x
 | .dict,v=>∃a kvs,v=.ref a/\H a=some (.dK kvs)
 | .tup ds,v=>∃a xs,v=.ref a/\H a=some (.tup xs)/\aA H ds xs
 | .lst ds,v=>∃a xs,v=.ref a/\H a=some (.lst xs)/\aA H ds xs
def aA(H:Hp):List D->List V->Prop
 | [],xs=>xs=[]
 | d::ds,xs=>∃x r,xs=x::r/\aO H d x/\aA H ds r
end
mutual
theorem aO.same{H H':Hp}(S:ax H H'):∀(d:D)(v:V),aO H d v->aO H' d v
 | .non,v,h=>by unfold aO at h ⊢;exact h
 | .bl b,v,h=>by unfold aO at h ⊢;exact h
 | .int i,v,h=>by unfold aO at h ⊢;exact h
 | .str x,v,h=>by unfold aO at h ⊢;exact h
 | .dict,v,h=>by
  unfold aO at h ⊢;obtain⟨a,kvs,e,h⟩:=h;exact⟨a,kvs,e,S _ _ h⟩
 | .tup ds,v,h=>by
  unfold aO at h ⊢;obtain⟨a,xs,e,h,r⟩:=h;exact⟨a,xs,e,S _ _ h,aA.same S ds xs r⟩
 | .lst ds,v,h=>by
  unfold aO at h ⊢;obtain⟨a,xs,e,h,r⟩:=h;exact⟨a,xs,e,S _ _ h,aA.same S ds xs r⟩
theorem aA.same{H H':Hp}(S:ax H H'):∀(ds:List D)(xs:List V),aA H ds xs->aA H' ds xs
 | [],xs,h=>by unfold aA at h ⊢;exact h
 | d::ds,xs,h=>by
  unfold aA at h ⊢;obtain⟨x,r,e,h1,h2⟩:=h;exact⟨x,r,e,aO.same S d x h1,aA.same S ds r h2⟩
end
theorem aA.get{H:Hp}:∀{ds:List D}{xs:List V}{i:Nat}{x:V},aA H ds xs->xs[i]? = some x -> ∃d,ds[i]? = some d/\aO H d x
 | [],xs,i,x,h,e=>by
  unfold aA at h;subst h;simp at e
 | d::ds,xs,i,x,h,e=>by
  unfold aA at h;obtain⟨y,r,rfl,h1,h2⟩:=h;cases i with
  | zero =>
   have e':y=x:=by simpa using e
   subst e';exact⟨d,by simp,h1⟩
  | succ i =>
   obtain⟨d',e1,e2⟩:=aA.get (i:=i) h2 (by simpa using e)
   exact⟨d',by simpa using e1,e2⟩
theorem aA.length{H:Hp}:∀{ds:List D}{xs:List V},aA H ds xs->xs.length=ds.length
 | [],xs,h=>by
  unfold aA at h;subst h;rfl
 | d::ds,xs,h=>by
  unfold aA at h;obtain⟨y,r,rfl,_,h2⟩:=h;simp[aA.length h2]
def D.ty:D->String
 | .non=>"NoneType" | .bl _=>"bool" | .int _=>"int" | .str _=>"str" | .dict=>"dict" | .tup _=>"tuple" | .lst _=>"list"
theorem aO.ty{H:Hp}{d:D}{v:V}(h:aO H d v):DB H v=some d.ty:=by
 cases d<;>unfold aO at h
 .subst h;rfl
 .subst h;rfl
 .subst h;rfl
 .subst h;rfl
 .obtain⟨a,kvs,rfl,h⟩:=h;simp only[DB,h,D.ty]
 .obtain⟨a,xs,rfl,h,_⟩:=h;simp only[DB,h,D.ty]
 .obtain⟨a,xs,rfl,h,_⟩:=h;simp only[DB,h,D.ty]
theorem sE(a b:Int):Int.gcd b (a.fmod b)=Int.gcd a b:=by
 rw[Int.fmod_def,YO a b];have:a-b*a.fdiv b=a+b*(- a.fdiv b):=by rw[Int.mul_neg];nofun
 rw[this];simp
theorem wf(a:Int){b:Int}(hb:b≠0):(a.fmod b).natAbs<b.natAbs:=by
 rcases Int.lt_or_gt_of_ne hb with h|h
 .obtain⟨n,rfl⟩ : ∃n:Nat,b=Int.negSucc n:=⟨(-b-1).toNat,()⟩;cases a with
  | ofNat m =>
   cases m with
   | zero=>simp[Int.fmod]
   | succ m =>
    show (Int.subNatNat (m%(n+1)) n).natAbs<n+1;have:=Nat.mod_lt m (show 0<n+1 by nofun)
    rw[Int.subNatNat_eq_coe];generalize m%(n+1)=z at *
    nofun
  | negSucc m =>
   show (-((((m+1)%(n+1):Nat)):Int)).natAbs<n+1;have:=Nat.mod_lt (m+1) (show 0<n+1 by nofun)
   generalize (m+1)%(n+1)=z at *
   nofun
 .have h1:=YQ a h;have h2:=YR a h;nofun
def lg(a b:Int):Int:=if b<0 then -(Int.gcd a b:Int) else (Int.gcd a b:Int)
def lo(a b:Int):Int×Int:=(a.fdiv (lg a b),b.fdiv (lg a b))
def fr(q:Int×Int):D:=.tup [.int q.1,.int q.2]
def Fq(q:Int×Int):Prop:=0<q.2/\Int.gcd q.1 q.2=1
theorem CQ{a b:Int}(hb:b≠0):lg a b≠0:=by
 have h:Int.gcd a b≠0:=λe=>hb (Int.gcd_eq_zero_iff.mp e).2;unfold lg;split<;>nofun
theorem tE(a b:Int):lg a b∣a:=by
 unfold lg;split
 .exact Int.neg_dvd.mpr (YS ..)
 .exact YS ..
theorem rF(a b:Int):lg a b∣b:=by
 unfold lg;split
 .exact Int.neg_dvd.mpr (YT ..)
 .exact YT ..
theorem gA{a b:Int}(hb:b≠0):(lo a b).1*lg a b=a:=by
 show a.fdiv (lg a b)*lg a b=a;exact Int.fdiv_mul_cancel (tE a b)
theorem fU{a b:Int}(hb:b≠0):(lo a b).2*lg a b=b:=by
 show b.fdiv (lg a b)*lg a b=b;exact Int.fdiv_mul_cancel (rF a b)
theorem yS(a b:Int):(lg a b).natAbs=Int.gcd a b:=by
 unfold lg;split<;>nofun
theorem lQ{a b:Int}(hb:b≠0):Fq (lo a b):=by
 have h1:=gA (a:=a) hb;have h2:=fU (a:=a) hb;have hg:0<Int.gcd a b:=Nat.pos_of_ne_zero λe=>hb (Int.gcd_eq_zero_iff.mp e).2;constructor
 .by_cases hn:b<0
  .have e:lg a b = -(Int.gcd a b:Int):=Yb hn;rw[e] at h2;rcases Int.lt_trichotomy (lo a b).2 0 with h|h|h
   .have:=Int.mul_nonneg_of_nonpos_of_nonpos (YU h) (show -(Int.gcd a b:Int)<=0 by nofun)
    nofun
   .rw[h] at h2;nofun
   .exact h
  .have e:lg a b=(Int.gcd a b:Int):=Yc hn;rw[e] at h2;rcases Int.lt_trichotomy (lo a b).2 0 with h|h|h
   .have:=Int.mul_nonpos_of_nonpos_of_nonneg (YU h) (show 0<=(Int.gcd a b:Int) by nofun)
    nofun
   .rw[h] at h2;nofun
   .exact h
 .have e:Int.gcd ((lo a b).1*lg a b) ((lo a b).2*lg a b)=Int.gcd (lo a b).1 (lo a b).2*(lg a b).natAbs:=Int.gcd_mul_right ..;rw[h1,h2,yS] at e;have:1*Int.gcd a b=Int.gcd (lo a b).1 (lo a b).2*Int.gcd a b:=();exact (Nat.eq_of_mul_eq_mul_right hg this).symm
mutual
def D.noSt:D->Bool
 | .lst [.int _,.bl _]=>false
 | .lst ds=>D.noSts ds
 | .tup ds=>D.noSts ds
 | _=>true
def D.noSts:List D->Bool
 | []=>true
 | d::ds=>d.noSt && D.noSts ds
end
def gi(H:Hp)(st:Addr):Prop:=∃x b,H st=some (.lst [.int x,.bl b])/\(b=false->0<=x/\x<2147483647)
theorem aO.lst_st{H:Hp}{ds:List D}{x:Int}{b:Bool}(h:aA H ds [.int x,.bl b]):ds=[.int x,.bl b]:=by
 match ds with
 | []=>unfold aA at h;cases h
 | [d] =>
  unfold aA at h;obtain⟨_,_,e,_,h⟩:=h;unfold aA at h;subst h;cases e
 | d1::d2::d3::r =>
  have:=aA.length h;simp at this
 | [d1,d2] =>
  unfold aA at h;obtain⟨_,_,e,h1,h⟩:=h;cases e;unfold aA at h;obtain⟨_,_,e,h2,h⟩:=h;cases e;have e1:d1=.int x:=by
   cases d1<;>unfold aO at h1<;>first|(cases h1;rfl)|(obtain⟨_,_,e,_⟩:=h1;cases e)|cases h1
  have e2:d2=.bl b:=by
   cases d2<;>unfold aO at h2<;>first|(cases h2;rfl)|(obtain⟨_,_,e,_⟩:=h2;cases e)|cases h2
  rw[e1,e2]
theorem gi.same{H H':Hp}{st:Addr}(h:gi H st)(S:ax H H'):gi H' st:=by
 obtain⟨x,b,e,k⟩:=h;exact⟨x,b,S _ _ e,k⟩
theorem gi.ne{H:Hp}{st p:Addr}(h:gi H st)(hp:H p=none):p≠st:=by
 obtain⟨x,b,e,k⟩:=h;exact (ah e hp).symm
theorem aO.tup_at{H:Hp}{ds:List D}{v:V}(h:aO H (.tup ds) v):∃a xs,v=.ref a/\H a=some (.tup xs)/\aA H ds xs:=by
 unfold aO at h;exact h
theorem aO.lst_at{H:Hp}{ds:List D}{v:V}(h:aO H (.lst ds) v):∃a xs,v=.ref a/\H a=some (.lst xs)/\aA H ds xs:=by
 unfold aO at h;exact h
theorem aA.nil_at{H:Hp}{xs:List V}(h:aA H [] xs):xs=[]:=by
 unfold aA at h;exact h
theorem aA.cons_at{H:Hp}{d:D}{ds:List D}{xs:List V}(h:aA H (d::ds) xs):∃x r,xs=x::r/\aO H d x/\aA H ds r:=by
 unfold aA at h;exact h
theorem aO.int_at{H:Hp}{i:Int}{v:V}(h:aO H (.int i) v):v=.int i:=by
 unfold aO at h;exact h
theorem aO.mk_int{H:Hp}(i:Int):aO H (.int i) (.int i):=by unfold aO;rfl
theorem aO.mk_str{H:Hp}(i:Str):aO H (.str i) (.str i):=by unfold aO;rfl
theorem aA.mk_nil{H:Hp}:aA H [] []:=by unfold aA;rfl
theorem aA.mk_cons{H:Hp}{d:D}{ds:List D}{x:V}{xs:List V}(h1:aO H d x)(h2:aA H ds xs):aA H (d::ds) (x::xs):=by unfold aA;exact⟨_,_,rfl,h1,h2⟩
theorem aO.mk_tup{H:Hp}{a:Addr}{ds:List D}{xs:List V}(h:H a=some (.tup xs))(r:aA H ds xs):aO H (.tup ds) (.ref a):=by unfold aO;exact⟨_,_,rfl,h,r⟩
theorem aO.mk_lst{H:Hp}{a:Addr}{ds:List D}{xs:List V}(h:H a=some (.lst xs))(r:aA H ds xs):aO H (.lst ds) (.ref a):=by unfold aO;exact⟨_,_,rfl,h,r⟩
theorem aO.fr_at{H:Hp}{q:Int×Int}{v:V}(h:aO H (fr q) v):∃a,v=.ref a/\H a=some (.tup [.int q.1,.int q.2]):=by
 obtain⟨a,xs,e,ha,r⟩:=h.tup_at;obtain⟨x1,r1,rfl,h1,r⟩:=r.cons_at;obtain⟨x2,r2,rfl,h2,r⟩:=r.cons_at;cases r.nil_at;rw[h1.int_at,h2.int_at] at ha;exact⟨a,e,ha⟩
abbrev Bt (n:Nat)(x:Int):Prop:=x.natAbs<2^n
theorem Bt.ib{n:Nat}{x:Int}(h:Bt n x):Builtin.Int.intBits x<=n:=by
 unfold Builtin.Int.intBits;split
 .exact YL _
 .rename_i h0
  have h1:x.natAbs≠0:=by
   intro e;apply h0
   have:x=0:=();rw[this];rfl
  have:=(Nat.log2_lt h1).mpr h;nofun
theorem bJ{m n:Nat}{x y:Int}(hx:Bt m x)(hy:Bt n y)(h:m+n<=134217728:=by decide):IntMulOk x y:=PySem.IntMulOk.of_le hx.ib hy.ib h
theorem Bt.mono{m n:Nat}{x:Int}(hx:Bt m x)(h:m<=n):Bt n x:=Yd hx (YV ∅ h)
theorem Bt.mul{m n:Nat}{x y:Int}(hx:Bt m x)(hy:Bt n y):Bt (m+n) (x*y):=by
 unfold Bt;rw[YW,YX];exact Nat.mul_lt_mul'' hx hy
theorem Bt.add{m n:Nat}{x y:Int}(hx:Bt m x)(hy:Bt n y):Bt (max m n+1) (x+y):=by
 have h1:=hx.mono (Nat.le_max_left m n);have h2:=hy.mono (Nat.le_max_right m n);unfold Bt at *
 rw[YY];have:=Int.natAbs_add_le x y;nofun
theorem Bt.sub{m n:Nat}{x y:Int}(hx:Bt m x)(hy:Bt n y):Bt (max m n+1) (x-y):=by
 have h1:=hx.mono (Nat.le_max_left m n);have h2:=hy.mono (Nat.le_max_right m n);unfold Bt at *
 rw[YY];have:=Int.natAbs_sub_le x y;nofun
theorem GL{x y:Int}(h:y≠0)(hb:Bt 9000 y):FD x y:=⟨h,by
 by_cases h0:y.natAbs=0
 .rw[h0];decide +kernel
 .exact (Nat.log2_lt h0).mpr hb⟩
theorem xN{x k:Int}{n:Nat}(hk:0<k)(h:k.natAbs<=2^n):Bt n (x.fmod k):=by
 have h1:=YQ x hk;have h2:=YR x hk;unfold Bt;nofun
theorem mC{x y:Int}(hx:Bt 64 x):IntMulOk x y:=.of_left hx.ib
theorem xy{x y:Int}(hy:Bt 64 y):IntMulOk x y:=.of_right hy.ib
end L2
namespace L2
theorem DZ{c A B:Prop} [Decidable c] (hc:c)(h:A):if c then A else B:=by rw[Yb hc];exact h
theorem oM{c A B:Prop} [Decidable c] (hc:¬ c)(h:B):if c then A else B:=by rw[Yc hc];exact h
end L2
namespace L2
open PySem
mutual
def D.ib:D->Bool
 | .int i=>decide (i.natAbs<2^200)
 | .tup ds=>D.ibs ds
 | .lst ds=>D.ibs ds
 | _=>true
def D.ibs:List D->Bool
 | []=>true
 | d::ds=>d.ib && D.ibs ds
end
end L2
namespace L2
open PySem PySem.Spec PyProof.Rows
section
variable {prog:Program}{w:World}{A:Around}{R:Result->Shared->Prop}{s:Shared}
theorem rT{elt target iter:Expr}{gx:List Expr}{scope:Scope}{pos:Pos}{it acc:Value}{env:Env}{EE:Value->Shared->Prop}(hEE:EE=notedBy (model prog w) A env λe s'=>R (.error e) s')(Iv:Nat->Shared->Prop)
  (turn:∀n s,Iv n s->wpAny (model prog w) A (pyNext it) (λr s1=>match r with
   | none=>R (.ok .next) s1
   | some v=>wpAny (model prog w) A (letOwnedTupleGo target it v) (λ_ s2=>wpAny (model prog w) A (assign target env v) (λ_ s3 =>
     wpAny (model prog w) A (forIn gx true λc r=>if r=true then do let ok <-isTrue c env (eval c env);pure (ForInStep.yield ok) else pure (ForInStep.yield r)) (λok s4 =>
      if ok=true then wpAny (model prog w) A (eval elt env) (λx s5=>wpAny (model prog w) A (call (.builtin "list.append") [acc,x]) (λ_ s6=>∃m,m<n/\Iv m s6) EE s5) EE s4
      else ∃m,m<n/\Iv m s4) EE s3) EE s2) EE s1) EE s)
  (n:Nat)(h:Iv n s):codeAny (model prog w) A (.compLoop (.ListComp elt [⟨target,iter,gx,0⟩] scope pos) 0 it acc env) R s:=by
 subst hEE;refine codeAny_loop rfl Iv (λn s hI=>?_) n h;show wpAny _ A ((compTurn (.ListComp elt [⟨target,iter,gx,0⟩] scope pos) 0 it acc env).onRaise (λx=>do noteFrame x env;theTreesLotGoes x)) _ _ s
 refine wpAny_noted ?_;rw[compTurn_list];refine wpAny_bind (wpAny_standAt (wpAny_bind (wpAny_mono (turn n s hI) (λr s1 h1=>?_) λ_ _ h'=>h')));cases r with
 | none=>exact wpAny_pure h1
 | some v =>
  refine wpAny_bind (wpAny_mono h1 (λ_ s2 h2=>?_) λ_ _ h'=>h');refine wpAny_bind (wpAny_mono h2 (λ_ s3 h3=>wpAny_bind (wpAny_mono h3 (λok s4 h4=>?_) λ_ _ h'=>h')) λ_ _ h'=>h');cases ok with
  | false=>exact wpAny_pure ⟨rfl,h4⟩
  | true=>exact wpAny_bind (wpAny_bind (wpAny_mono h4 (λx s5 h5=>wpAny_bind (wpAny_mono h5 (λ_ s6 h6=>wpAny_pure (wpAny_pure ⟨rfl,h6⟩)) λ_ _ h'=>h')) λ_ _ h'=>h'))
end
def lV(X:Cx)(scope:Scope)(cl:List (Str×Addr))(N:List Str)(C:Addr)(s:Shared)(H:Hp)(ex:List Addr):Cx :=
 { X with N:=N,s₀:=s,H₀:=H,env:=compEnvC scope cl C X.env,outer:=X.stack,ex:=ex,fn:=λ_=>false,pn:=[],xe:=λ_ _=>False }
def sH(X:Cx)(scope:Scope)(cl:List (Str×Addr)):List Str->List Nat->Prop
 | [],[]=>True
 | x::xs,j::js=>(X.N[j]? = some x /\ X.env.kindOf x = some .cell /\ (relabel scope X.env).names.lookup x = some .cell /\ (∃c,cl.lookup x = some c)) /\ sH X scope cl xs js
 | _,_=>False
theorem sH.length{X:Cx}{scope:Scope}{cl:List (Str×Addr)}:∀{xs:List Str}{js:List Nat},sH X scope cl xs js->js.length=xs.length
 | [],[],_=>rfl
 | _::_,_::_,h=>by simp[sH.length h.2]
 | [],_::_,h=>h.elim
 | _::_,[],h=>h.elim
theorem sH.get{X:Cx}{scope:Scope}{cl:List (Str×Addr)}:∀{xs:List Str}{js:List Nat}{k j:Nat}{x:Str},sH X scope cl xs js->xs[k]? = some x->js[k]? = some j ->
  X.N[j]? = some x /\ X.env.kindOf x = some .cell /\ (relabel scope X.env).names.lookup x = some .cell /\ ∃c,cl.lookup x = some c
 | [],_,_,_,_,_,e,_=>by simp at e
 | _::_,[],_,_,_,_,_,e=>by simp at e
 | x::xs,j::js,0,_,_,h,e1,e2=>by
  simp at e1 e2;subst e1;subst e2;exact h.1
 | x::xs,j::js,k+1,_,_,h,e1,e2=>sH.get (k:=k) h.2 (by simpa using e1) (by simpa using e2)
def jH(X:Cx):List (Str×Addr)->Prop
 | []=>True
 | p::r=>X.env.cells.lookup p.1=some p.2/\jH X r
theorem jH.mem{X:Cx}:∀{cl:List (Str×Addr)},jH X cl -> ∀p∈cl,X.env.cells.lookup p.1=some p.2
 | [],_,p,hp=>by cases hp
 | q::r,h,p,hp=>by
  rcases Y2.mp hp with rfl|hp
  .exact h.1
  .exact jH.mem h.2 p hp
structure nD (X:Cx)(scope:Scope)(cl:List (Str×Addr))(own outs:List Str)(ixs:List Nat):Prop where
 nocell:(scope.names.all λy=>y.2 != .cell)=true
 kind:scope.kind=.function
 names:(scope.names.all λy=>y.2 != .local || scope.names.lookup y.1==some .local)=true
 cells:jH X cl
 has:((relabel scope X.env).names.all λy=>!(y.2 == .cell || y.2 == .free) || (cl.lookup y.1).isSome) = true
 outs:sH X scope cl outs ixs
def PF(X:Cx)(gx:List Expr)(t:TT):Prop :=
 ∀(pins:List (Addr×Obj))(s:Shared)(σ:St)(H:Hp)(Q:Bool->Hp->Prop),ay X pins σ H s->t σ H Q ->
  wpAny (model X.prog X.w) X.A (forIn gx true λc r=>if r=true then do let ok <-isTrue c X.env (eval c X.env);pure (ForInStep.yield ok) else pure (ForInStep.yield r)) (TP X pins σ Q) X.xe s
def ED:TT:=λ_ H Q=>Q true H
theorem GM{X:Cx}:PF X [] ED:=λ_ _ _ H _ I h=>wpAny_tests_nil ⟨H,I,h⟩
theorem HN{X:Cx}{c:Expr}{t:TT}(h:PT X c t):PF X [c] t:=λpins s σ H Q I q=>wpAny_tests_one (h pins s σ H Q I q)
def kG(K:W.Frag)(J:It)(g:TG)(tif:TT)(te:TE)(a:Addr)(σ0:St)(H0:Hp)(Q:Hp->Prop):Prop:=∃W:Nat->Nat->St->Hp->Prop,(∃m,W 0 m σ0 H0) /\ ∀i m σ H,W i m σ H ->
 (J.stop i H/\Q H)\/(J.go i H /\ ∃N:St->Hp->Prop,(∀σ' H',N σ' H' -> ∃m',m'<m/\W (i+1) m' σ' H') /\ ∀x H',J.yld i H x H'->g x σ H' λσ2 H2=>tif σ2 H2 λb H3=>if b=true then te σ2 H3 λv H4=>∃xs,vw K H4 a=some (.lst xs)/\xs.length<sizeLine /\
  ∀H5,gd a (vw K H4) (vw K H5)->vw K H5 a=some (.lst (xs++[v]))->N σ2 H5 else N σ2 H3)
def vH(σ:St)(ixs:List Nat):St:=ixs.map λj=>(σ[j]?).join
def ub(K:W.Frag)(wi:TI)(n:Nat)(ixs:List Nat)(g:TG)(tif:TT)(te:TE):TE:=λσ H Q=>wi σ H λJ H1=>∀a H2,vw K H1 a=none->ax (vw K H1) (vw K H2)->vw K H2 a=some (.lst [])->kG K J g tif te a (List.replicate n none++vH σ ixs) H2 (Q (.ref a))
section
variable {X:Cx}
theorem pH{tg iter elt:Expr}{gx:List Expr}{scope:Scope}{pos ipos:Pos}{wi:TI}{g:TG}{tif:TT}{te:TE}{cl:List (Str×Addr)}{own outs:List Str}{ixs:List Nat}{use:Option (Value->Sem Unit)}{Qv:Value->Shared->Prop}
  (hc:X.calm=true)(hi:PI X tg iter wi)(hclos:closureFor scope X.env=pure cl)(S:nD X scope cl own outs ixs)
  {G:Shared->Hp->List Addr->Prop}(hb:∀C s H ex,G s H ex->PG (lV X scope cl (own++outs) C s H ex) tg g/\PF (lV X scope cl (own++outs) C s H ex) gx tif/\PE (lV X scope cl (own++outs) C s H ex) elt te)
  (hs:∀x,foldedSetIterable iter X.env x=pure x) {pins:List (Addr×Obj)}{s:Shared}{σ:St}{H:Hp}(hG:∀s2 H1 H2 fp,ay X pins σ H2 s2->(∀b∈fp,kA X pins H1 b)->G s2 H2 fp)(I:ay X pins σ H s)(Qd:Addr->Hp->Prop)
  (hfin:∀(a C:Addr)(H':Hp)(s4:Shared)(m:Str->Option Value),ay X pins σ H' s4->kA X pins H' C->s4.heap.Ns C m->Qd a H'->compPost (model X.prog X.w) X.A X.xe use Qv (.ref a) C (.ok .next) s4)
  (h:wi σ H λJ H1=>∀a H2,vw X.K H1 a=none->ax (vw X.K H1) (vw X.K H2)->vw X.K H2 a=some (.lst [])->kG X.K J g tif te a (List.replicate own.length none++vH σ ixs) H2 (Qd a)) :
  wpAny (model X.prog X.w) X.A (comprehension (.ListComp elt [⟨tg,iter,gx,0⟩] scope pos) scope X.env ipos (newList []) false (eval iter X.env) use) Qv X.xe s:=by
 have Snc:∀y∈scope.names,y.2 ≠ .cell:=λy hy z=>by
  have:=List.all_eq_true.mp S.nocell y hy;rw[z] at this;cases this
 have Snm:∀y∈scope.names,y.2=.local->scope.names.lookup y.1=some .local:=λy hy z=>by
  have:=List.all_eq_true.mp S.names y hy;rw[z] at this;simpa using this
 have Shs:∀y∈(relabel scope X.env).names,(y.2=.cell \/ y.2=.free) -> (cl.lookup y.1).isSome = true:=λy hy z=>by
  have:=List.all_eq_true.mp S.has y hy;rcases z with z|z
  .rw[z] at this;simpa using this
  .rw[z] at this;simpa using this
 refine wpAny_comprehension_free (use:=use) rfl hs hclos S.kind Snm (wpAny_mono (hi pins s σ H _ I h) (λxv s1 h1=>wpAny_mono h1 (λitv s2 h2=>?_) λ_ _ e=>e) λ_ _ e=>e);obtain⟨it,fp,tn,J,H1,rfl,I1,T,st1,f1,q⟩:=h2;refine wpAny_newObj_type (wpAny_newFunctionEnv Snc (by intro y hy;simp at hy) (λh₁ hns₁ hsb₁=>?_) S.kind)
 dsimp only at hns₁ hsb₁ ⊢;have I2:ay X pins σ (upd H1 s2.heap.objs.size (.lst [])) { s2 with heap:=s2.heap.push { cls:=.type "list",dict:=none,data:=.seq ([]:List Value).toArray } }:=I1.lnew (t':=s2.toks) .nil (YL _)
 have q2:=q s2.heap.objs.size (upd H1 s2.heap.objs.size (.lst [])) (by rw[cj (I1.newK (Yq _))];exact I1.fresh) (iV (ax.upd I1.fresh)) (by rw[cj (I1.newK (Yq _))];exact aV)
 have fr2:∀b∈fp,(upd H1 s2.heap.objs.size (.lst [])) b=none:=λb hb=>by
  obtain⟨o,ho,_⟩:=T.obj _ _ st1 b hb;rw[aC (Yf (Heap.lt_size ho))];exact (f1 b hb).1
 generalize hH2:upd H1 s2.heap.objs.size (.lst [])=H2 at I2 q2 fr2;generalize hs3:s2.heap.push { cls:=.type "list",dict:=none,data:=.seq ([]:List Value).toArray } = hp3 at I2 hns₁ hsb₁ ⊢;have old23:∀b o,s2.heap.get? b=some o->hp3.get? b=some o:=λb o e=>hs3▸Heap.get?_push_of_some _ e;have ltC:∀{b:Addr}{o:Obj},hp3.get? b=some o->b≠hp3.objs.size:=λe=>Yf (Heap.lt_size e);have old:∀b o,hp3.get? b=some o->h₁.get? b=some o:=λb o e=>hsb₁.extBut b o (ltC e) (Heap.get?_push_of_some _ e);have clc:∀x c,cl.lookup x=some c->X.env.cells.lookup x=some c:=λx c e=>S.cells.mem (x,c) (Yx e);obtain⟨W,⟨m0,w0⟩,turn⟩:=q2;have fpo:∀b∈fp,∃o,hp3.get? b=some o:=λb hb=>by
  obtain⟨o,ho,_⟩:=T.obj _ _ st1 b hb;exact⟨o,old23 b o ho⟩
 have ok:(lV X scope cl (own++outs) hp3.objs.size { s2 with heap:=hp3 } H2 fp).Ok:=by
  refine⟨I.ok.mod,S.kind,I.ok.glob,I.ok.blt,Yq _,λx y c e1 e2=>I.ok.inj x y c (clc x c e1) (clc y c e2),λx hx=>?_,λx c hf _=>(by cases hf),I.ok.hd,I.ok.frames,.inl rfl,λb hb=>⟨?_,λx c e=>?_⟩,I2.bs,Yg I.ok.bsz I2.sz,λb o e hb=>?_,λb hb hz=>?_,I2.stack,I2.stkFree⟩
  .have hx':(relabel scope X.env).names.lookup x = some .cell \/ (relabel scope X.env).names.lookup x = some .free:=hx;have:(cl.lookup x).isSome=true:=by
    rcases hx' with e|e
    .exact Shs _ (Yx e) (.inl rfl)
    .exact Shs _ (Yx e) (.inr rfl)
   exact Option.isSome_iff_exists.mp this
  .obtain⟨o,ho⟩:=fpo b hb;exact ltC ho
  .exact (f1 b hb).2.2.2.2.1 x c (clc x c e)
  .rcases (f1 b hb).2.2.2.1 with z|z
   .exact I.ok.noex b o e z
   .exact absurd (Yd (Heap.lt_size e) (Yg I.ok.bsz z)) (Ye _)
  .rcases Y2.mp (I2.stkSub b hz) with z|z
   .exact (f1 b hb).2.1 z
   .exact (f1 b hb).2.2.1 z
 have I4:ay (lV X scope cl (own++outs) hp3.objs.size { s2 with heap:=hp3 } H2 fp) [] (List.replicate own.length none++vH σ ixs) H2 { s2 with heap:=h₁,toks:=s2.toks+([]:List (Str×Value)).length }:=by
  refine⟨ok,rfl,I2.bare,Un.kept old,⟨_,hns₁,λi x v e1 e2 e3=>?_⟩,λx c e=>?_,I2.hok.fresh (Yq _),λx c e=>I2.freeC x c (clc x c e),λp hp=>by simp[lV] at hp,I2.hok.kept old,?_⟩
  .have e1':(own++outs)[i]? = some x:=e1;have hi':own.length<=i:=by
    by_cases hlt:i<own.length
    .rw[Yz (by simpa using hlt),List.getElem?_replicate,Yb hlt] at e2
     cases e2
    .nofun
   rw[Yy (by simpa using hi')] at e2
   rw[Yy hi'] at e1';rw[List.length_replicate] at e2;unfold vH at e2;rw[YA] at e2;cases ej:ixs[i-own.length]? with
   | none=>rw[ej] at e2;cases e2
   | some j =>
    rw[ej] at e2;obtain⟨hN,hk,hr,c,hcl⟩:=S.outs.get e1' ej;have e4:(σ[j]?).join=some v:=Ym e2;have e5:σ[j]? = some (some v):=by
     cases es:σ[j]? with
     | none=>rw[es] at e4;cases e4
     | some o=>rw[es] at e4;exact Yn some e4
    obtain⟨m,hn,hl⟩:=I2.loc;obtain⟨u,ru,l⟩:=hl j x v hN e5 (.inr (.inl hk));refine⟨u,ru,.inr ⟨.inl hr,c,hcl,?_⟩⟩;rcases l with ⟨z,_⟩|⟨_,c',hc',cell⟩
    .rw[hk] at z;cases z
    .rw[clc x c hcl] at hc';cases hc';obtain⟨o,ho,hd⟩:=cell;exact⟨o,old _ _ ho,hd⟩
  .obtain⟨v,o,ho,hd⟩:=I2.cell x c (clc x c e);exact⟨v,o,old _ _ ho,hd⟩
  .show (List.replicate own.length none++vH σ ixs).length=(own++outs).length;unfold vH;rw[YC,YC,List.length_replicate,YD,S.outs.length]
 obtain⟨hg,hf,he⟩:=hb hp3.objs.size { s2 with heap:=hp3 } H2 fp (hG _ _ _ _ I2 f1);have stat:∀{H':Hp},(∀b∈fp,H' b=none) -> ∀b∈fp,kA (lV X scope cl (own++outs) hp3.objs.size { s2 with heap:=hp3 } H2 fp) [] H' b:=λhn b hb =>
  ⟨hn b hb,(ok.exf b hb).1,ok.exfs b hb,.inl hb,(ok.exf b hb).2,λp hp=>by simp[lV] at hp⟩
 have noE:∀{α:Type}{t:Sem α}{Q':α->Shared->Prop}{s':Shared}{E':Value->Shared->Prop},wpAny (model X.prog X.w) X.A t Q' (λ_ _=>False) s'->wpAny (model X.prog X.w) X.A t Q' E' s':=λh=>wpAny_mono h (λ_ _ z=>z) λ_ _ z=>z.elim;have loop:codeAny (model X.prog X.w) X.A (.compLoop (.ListComp elt [⟨tg,iter,gx,0⟩] scope pos) 0 (.ref it) (.ref s2.heap.objs.size) (compEnvC scope cl hp3.objs.size X.env))
   (compPost (model X.prog X.w) X.A X.xe use Qv (.ref s2.heap.objs.size) hp3.objs.size) { s2 with heap:=h₁,toks:=s2.toks+([]:List (Str×Value)).length }:=by
  refine rT rfl (λn s'=>∃i σ' H',ay (lV X scope cl (own++outs) hp3.objs.size { s2 with heap:=hp3 } H2 fp) [] σ' H' s'/\tn i s'.heap/\(∀b∈fp,H' b=none)/\W i n σ' H') ?_ m0
   ⟨0,_,H2,I4,T.keep _ _ _ st1 λb hb o e=>old b o (old23 b o e),fr2,w0⟩
  rintro n s' ⟨i,σ',H',I',st',fr',w'⟩;rcases turn i n σ' H' w' with ⟨stop,qn⟩|⟨go,N,hN,step⟩
  .refine cw (T.done (lV X scope cl (own++outs) hp3.objs.size { s2 with heap:=hp3 } H2 fp) rfl rfl rfl hc i [] s' σ' H' _ I' (stat fr') st' stop) λr s4 ⟨hr,I4'⟩=>?_
   subst hr;obtain⟨m,hn,_⟩:=I4'.loc;have kC:∀b o,b≠hp3.objs.size->s4.heap.get? b=some o->s4.heap.get? b=some o:=λb o hb e=>e;have tC:∀b u,H' b=some u->b≠hp3.objs.size:=λb u e z=>by
    have:=I4'.free;rw[z] at e;rw[show H' hp3.objs.size=none from this] at e
    cases e
   have base:=I4'.base;have un:Un (gK X.stack) fp H2 H' hp3 s4.heap:=⟨λb o e n1 hb hx=>kC b o (ltC e) (base.keep b o e n1 hb hx),λb o e n1 hb hx=>by
     obtain⟨sl,z⟩:=base.slot b o e n1 hb hx;exact⟨sl,kC b _ (ltC e) z⟩,base.free,λb o e hx=>by
     obtain⟨o',z⟩:=base.there b o e hx;exact⟨o',kC b o' (ltC e) z⟩,base.tups,base.frzs,base.tbls⟩
   exact hfin _ _ H' s4 m (I2.call' (s':=s4) (ch:=fp) I4'.os un I4'.hok I4'.bare (λb hb=>⟨(f1 b hb).2.2.2.1,(f1 b hb).2.1,(f1 b hb).2.2.2.2.1,(f1 b hb).2.2.2.2.2⟩)) (I2.fpOk (Yq _) I4'.free) hn qn
  .refine cw (T.item (lV X scope cl (own++outs) hp3.objs.size { s2 with heap:=hp3 } H2 fp) rfl rfl rfl hc i [] s' σ' H' _ I' (stat fr') st' go) λr s4 ⟨u,hr,h4⟩=>?_
   subst hr;refine cw h4 λ_ s5 ⟨x,H5,I5,r5,y5,st5,fr5⟩=>?_;have I5':=I5.pinned (stat fr5) (T.obj _ _ st5);have back:∀{σ7:St}{H7:Hp}{s7:Shared},ay (lV X scope cl (own++outs) hp3.objs.size { s2 with heap:=hp3 } H2 fp) ([]++mL fp s5.heap) σ7 H7 s7 -> ∀m',m'<n->W (i+1) m' σ7 H7 ->
     ∃m,m<n /\ ∃i σ' H',ay (lV X scope cl (own++outs) hp3.objs.size { s2 with heap:=hp3 } H2 fp) [] σ' H' s7/\tn i s7.heap/\(∀b∈fp,H' b=none)/\W i m σ' H':=λ{σ7 H7 s7} I7 m' hm w7=>by
    refine⟨m',hm,i+1,σ7,H7,I7.unpinned,T.keep _ _ _ st5 λb hb o e=>(I7.pin (b,o) (Ys _ (Ys _ (hV hb e)))).1,λb hb=>?_,w7⟩;obtain⟨o,e,d⟩:=T.obj _ _ st5 b hb;exact (I7.pin (b,o) (Ys _ (Ys _ (hV hb e)))).2.1
   refine cw (noE (hg _ s5 σ' H5 x u _ I5' r5 (step x H5 y5))) λ_ s6 ⟨σ6,H6,I6,q6⟩=>?_;refine cw (noE (hf _ s6 σ6 H6 _ I6 q6)) λok s7 ⟨H7,I7,q7⟩=>?_;cases ok with
   | false =>
    rw[Yc Yo] at q7 ⊢;obtain⟨m',hm,w7⟩:=hN _ _ q7;exact back I7 m' hm w7
   | true =>
    rw[Yb rfl] at q7 ⊢;refine cw (noE (he _ s7 σ6 H7 _ I7 q7)) λv s8 ⟨xv,H8,I8,r8,q8⟩=>?_;obtain⟨xs,hxs,hz,q8⟩:=q8;refine cw (noE (pj _ s8 σ6 H8 (.ref s2.heap.objs.size) [xv] _ [v] (λ_ H9=>N σ6 H9) I8 rfl (.cons r8 .nil) ⟨_,xs,xv,rfl,rfl,aE hxs,hz,q8 _ (rG gd.upd) ((cj (show X.K.lookup _=none from I8.noK (aE hxs))).trans aV)⟩)) λ_ s9 ⟨_,H9,I9,_,n9⟩=>?_
    obtain⟨m',hm,w9⟩:=hN _ _ n9;exact back I9 m' hm w9
 exact codeAny_compStart_list loop (T.self _ 0 _ _ _ (T.keep _ _ _ st1 λb hb o e=>old b o (old23 b o e)) loop)
theorem E9{tg iter elt:Expr}{gx:List Expr}{scope:Scope}{pos:Pos}{wi:TI}{g:TG}{tif:TT}{te:TE}{cl:List (Str×Addr)}{own outs:List Str}{ixs:List Nat}
  (hc:X.calm=true)(hi:PI X tg iter wi)(hclos:closureFor scope X.env=pure cl)(S:nD X scope cl own outs ixs)
  (hb:∀C s H ex,PG (lV X scope cl (own++outs) C s H ex) tg g/\PF (lV X scope cl (own++outs) C s H ex) gx tif/\PE (lV X scope cl (own++outs) C s H ex) elt te)
  (hs:∀x,foldedSetIterable iter X.env x=pure x:=by intro _;rfl) :
  PE X (.ListComp elt [⟨tg,iter,gx,0⟩] scope pos) (ub X.K wi own.length ixs g tif te):=by
 intro pins s σ H Q I h;rw[eval_ListComp];refine pH (G:=λ_ _ _=>True) hc hi hclos S (λC s H ex _=>hb C s H ex) hs (λ_ _ _ _ _ _=>trivial) I (λa H'=>Q (.ref a) H') (λa C H' s4 m J4 fC hn q=>⟨m,hn,λh' hsb=>?_⟩) h;obtain⟨f0,f1,f2,f3,f4,f5⟩:=fC;exact⟨.ref a,H',J4.turned (t':=s4.toks) (λb o hb e=>hsb.extBut b o hb e) f0 f1 f3 f4 f5,rfl,q⟩
theorem Dh{tg iter elt:Expr}{gx:List Expr}{scope:Scope}{pos spos py:Pos}{y:Str}{i:Nat}{wi:TI}{g:TG}{tif:TT}{te:TE}{cl:List (Str×Addr)}{own outs:List Str}{ixs:List Nat}
  (hN:X.N.Nodup)(hy:X.N[i]? = some y)(hx:CU X.env.scope y)(hc:X.calm=true)(hi:PI X tg iter wi)(hclos:closureFor scope X.env=pure cl)(S:nD X scope cl own outs ixs)
  (hb:∀C s H ex,PG (lV X scope cl (own++outs) C s H ex) tg g/\PF (lV X scope cl (own++outs) C s H ex) gx tif/\PE (lV X scope cl (own++outs) C s H ex) elt te)
  (hsw:swapsWith (.ListComp elt [⟨tg,iter,gx,0⟩] scope pos) (some (.Name y py)) spos.line X.env=pure true:=by rfl)
  (hs:∀x,foldedSetIterable iter X.env x=pure x:=by intro _;rfl)(hf:X.fn y=true\/X.env.scope.names.lookup y=some .local:=by first|exact .inl rfl|exact .inr rfl|assumption) :
  PS X (.Assign [.Name y py] (.ListComp elt [⟨tg,iter,gx,0⟩] scope pos) spos) (tH (ub X.K wi own.length ixs g tif te) (gn i)):=by
 intro pins s σ H D I h;rw[exec_Assign_Name_used _ _ _ _ hsw];refine wpAny_bind (wpAny_standAt (wpAny_bind ?_));show wpAny _ X.A (do let _ <-comprehension (.ListComp elt [⟨tg,iter,gx,0⟩] scope pos) scope X.env _ (newList []) false (eval iter X.env) (some (assign (.Name y py) X.env))) _ _ s
 refine wpAny_bind (wpAny_mono (pH (use:=some (assign (.Name y py) X.env)) (Qv:=λ_ s'=>SP X pins D .next s') (G:=λ_ _ _=>True) hc hi hclos S (λC s H ex _=>hb C s H ex) hs (λ_ _ _ _ _ _=>trivial) I (λa H'=>D.nx (σ.set i (some (.ref a))) H') (λa C H' s4 m J4 fC hn q=>?_) h) (λ_ s' hq=>wpAny_pure (wpAny_pure hq)) λ_ _ e=>e)
 obtain⟨f0,f1,f2,f3,f4,f5⟩:=fC;refine wpAny_assign_Name (qj J4 hN hy hx (v:=.ref a) rfl (λs5 I5 hsame=>?_) hf);obtain⟨b,sb,hb'⟩:=hsame;have nb:C≠b:=λe=>by
  rcases hb' with z|z
  .exact f1 (e.trans z)
  .exact f4 _ _ z e.symm
 exact⟨m,hn.sameBut sb nb,λh' hsb=>⟨_,H',I5.turned (t':=s5.toks) (λb o hb e=>hsb.extBut b o hb e) f0 f1 f3 f4 f5,q⟩⟩
end
theorem JY{X:Cx}{scope:Scope}{cl:List (Str×Addr)}{N:List Str}{C:Addr}{s:Shared}{H:Hp}{ex:List Addr}:(lV X scope cl N C s H ex).K=X.K:=rfl
mutual
def D.py:D->PyData
 | .non=>.none
 | .bl b=>.bool b
 | .int i=>.int i
 | .str x=>.str x
 | .dict=>.dict []
 | .tup ds=>.tuple (D.pys ds)
 | .lst ds=>.list (D.pys ds)
def D.pys:List D->List PyData
 | []=>[]
 | d::ds=>d.py::D.pys ds
end
def D.cmp(d:D):Prop:=d.py.canLay0=true/\d.py.depth<=30
def zm(d e:D):Bool:=PyData.eqv d.py e.py
section
variable {X:Cx}{pins:List (Addr×Obj)}{σ:St}{H:Hp}{s:Shared}
mutual
theorem aO.reads(I:ay X pins σ H s):∀(d:D)(v:V)(u:Value),aO (vw X.K H) d v->aY v u->d.py.canLay0=true -> ∃as,Reads s.heap u d.py as
 | .non,v,u,h,r,_=>by
  unfold aO at h;subst h;cases r;exact⟨_,by unfold D.py;exact .none⟩
 | .bl b,v,u,h,r,_=>by
  unfold aO at h;subst h;cases r;exact⟨_,by unfold D.py;exact .bool b⟩
 | .int i,v,u,h,r,_=>by
  unfold aO at h;subst h;obtain⟨t,rfl⟩:=r;exact⟨_,by unfold D.py;exact .int i t⟩
 | .str x,v,u,h,r,_=>by
  unfold aO at h;subst h;obtain⟨t,rfl⟩:=r;exact⟨_,by unfold D.py;exact .str x t⟩
 | .dict,v,u,h,r,hc=>by
  unfold D.py PyData.canLay0 at hc;cases hc
 | .tup ds,v,u,h,r,hc=>by
  obtain⟨a,xs,rfl,ha,rs⟩:=h.tup_at;cases r;unfold D.py at hc ⊢;obtain⟨its,rv,p,hz⟩:=I.tuple (iA ha);obtain⟨o,h1,h2,n,h3⟩:=p;obtain⟨as,ra⟩:=aA.reads I ds xs its rs rv (by unfold PyData.canLay0 at hc;exact hc)
  exact⟨_,.tuple h1 h2 h3 (by simpa using ra)⟩
 | .lst ds,v,u,h,r,hc=>by
  obtain⟨a,xs,rfl,ha,rs⟩:=h.lst_at;cases r;unfold D.py at hc ⊢;obtain⟨its,rv,p,hz⟩:=I.list (jN.of (K:=X.K) (aE ha));obtain⟨o,n,h1,h2,h3,h4⟩:=p;obtain⟨as,ra⟩:=aA.reads I ds xs its rs rv (by unfold PyData.canLay0 at hc;exact hc)
  exact⟨_,.list h1 h2 h4 (by simpa using ra)⟩
theorem aA.reads(I:ay X pins σ H s):∀(ds:List D)(xs:List V)(us:List Value),aA (vw X.K H) ds xs->aN xs us->PyData.canLayAll0 (D.pys ds)=true -> ∃as,ReadsAll s.heap us (D.pys ds) as
 | [],xs,us,h,r,_=>by
  cases h.nil_at;cases r;exact⟨_,by unfold D.pys;exact .nil⟩
 | d::ds,xs,us,h,r,hc=>by
  obtain⟨x,ys,rfl,h1,h2⟩:=h.cons_at;cases r with
  | cons r1 r2 =>
   unfold D.pys PyData.canLayAll0 at hc;rw[YZ] at hc;obtain⟨as,ra⟩:=aO.reads I d x _ h1 r1 hc.1;obtain⟨bs,rb⟩:=aA.reads I ds ys _ h2 r2 hc.2;exact⟨_,by unfold D.pys;exact .cons ra rb⟩
end
end
def IK(K:W.Frag)(neg:Bool):R2:=λx y H Q=>∃d e,aO (vw K H) d x/\aO (vw K H) e y/\d.cmp/\e.cmp/\Q (.bl (if neg then !zm d e else zm d e)) H
section
variable {X:Cx}
theorem qH(hu:X.A.units+64<cLine):fi X (compareOp .Eq) (IK X.K false):=by
 intro pins s σ H x y v u Q I rx ry h;obtain⟨d,e,h1,h2,c1,c2,q⟩:=h;obtain⟨as,r1⟩:=aO.reads I d x v h1 rx c1.1;obtain⟨bs,r2⟩:=aO.reads I e y u h2 ry c2.1;exact SeqAt.compareEq_reads r1 r2 c1.1 c2.1 (by have:=c1.2;nofun) ⟨.bl _,H,I,rfl,q⟩
end
def jl(K:W.Frag)(H:Hp)(a:Addr)(xs:List V):Prop:=(K.lookup a=none/\Rd H a (.lst xs)) \/
 ∃(o:Obj)(its:Array Value)(n:Nat),K.lookup a=some o/\o.cls=.type "list" /\ o.dict=none/\o.data=.seq its n/\its.size<=sizeLine/\aN xs its.toList
theorem jl.sq{K:W.Frag}{H:Hp}{a:Addr}{xs:List V}(h:jl K H a xs):jN K H a xs:=h.imp (λz=>z.2) λz=>z
theorem jl.of{K:W.Frag}{H:Hp}{a:Addr}{xs:List V}(h:jN K H a xs)(hk:H a≠none->K.lookup a=none):jl K H a xs:=by
 rcases h with h|h
 .refine .inl ⟨hk ?_,h⟩;rcases h with h|⟨o,h⟩<;>rw[h]<;>simp
 .exact .inr h
end L2
namespace L2
open PySem PySem.Spec PyProof.Rows
mutual
def D.flat:D->Bool
 | .lst _=>false
 | .tup ds=>D.flats ds
 | _=>true
def D.flats:List D->Bool
 | []=>true
 | d::ds=>d.flat && D.flats ds
end
section
variable {H H':Hp}{l:Addr}{xs:List V}
mutual
theorem aO.flat_but(hl:H l=some (.lst xs))(S:gd l H H'):∀(d:D)(v:V),d.flat=true->aO H d v->aO H' d v
 | .non,v,_,h=>by unfold aO at h ⊢;exact h
 | .bl b,v,_,h=>by unfold aO at h ⊢;exact h
 | .int i,v,_,h=>by unfold aO at h ⊢;exact h
 | .str x,v,_,h=>by unfold aO at h ⊢;exact h
 | .dict,v,_,h=>by
  unfold aO at h ⊢;obtain⟨a,kvs,rfl,h⟩:=h;exact⟨a,kvs,rfl,S _ _ (λe=>by rw[e,hl] at h;cases h) h⟩
 | .tup ds,v,hf,h=>by
  obtain⟨a,ys,rfl,h,rs⟩:=h.tup_at;unfold D.flat at hf;exact .mk_tup (S _ _ (λe=>by rw[e,hl] at h;cases h) h) (aA.flat_but hl S ds ys hf rs)
 | .lst ds,v,hf,h=>by unfold D.flat at hf;cases hf
theorem aA.flat_but(hl:H l=some (.lst xs))(S:gd l H H'):∀(ds:List D)(ys:List V),D.flats ds=true->aA H ds ys->aA H' ds ys
 | [],ys,_,h=>by cases h.nil_at;exact .mk_nil
 | d::ds,ys,hf,h=>by
  obtain⟨y,r,rfl,h1,h2⟩:=h.cons_at;unfold D.flats at hf;rw[YZ] at hf;exact .mk_cons (aO.flat_but hl S d y hf.1 h1) (aA.flat_but hl S ds r hf.2 h2)
end
end
theorem fh(q:Int×Int):(fr q).flat=true:=by simp[fr,D.flat,D.flats]
theorem jJ:∀(qs:List (Int×Int)),D.flats (qs.map fr)=true
 | []=>by simp[D.flats]
 | q::qs=>by
  rw[YG];unfold D.flats;rw[fh,jJ qs];rfl
theorem aA.app{H:Hp}:∀{ds es:List D}{xs ys:List V},aA H ds xs->aA H es ys->aA H (ds++es) (xs++ys)
 | [],es,xs,ys,h,g=>by cases h.nil_at;exact g
 | d::ds,es,xs,ys,h,g=>by
  obtain⟨x,r,rfl,h1,h2⟩:=h.cons_at;exact .mk_cons h1 (aA.app h2 g)
theorem aA.snoc{H:Hp}{ds:List D}{xs:List V}{d:D}{x:V}(h:aA H ds xs)(g:aO H d x):aA H (ds++[d]) (xs++[x]):=h.app (.mk_cons g .mk_nil)
theorem aA.at{H:Hp}{ds:List D}{xs:List V}(h:aA H ds xs) {i:Nat}{d:D}(hd:ds[i]? = some d):∃x,xs[i]? = some x/\aO H d x:=by
 have hi:i<ds.length:=(List.getElem?_eq_some_iff.mp hd).1;have hi':i<xs.length:=by rw[h.length];exact hi
 obtain⟨d',e,r⟩:=h.get (YN hi');rw[hd] at e;cases e;exact⟨_,YN hi',r⟩
theorem aA.take{H:Hp}:∀{ds:List D}{xs:List V}(n:Nat),aA H ds xs->aA H (ds.take n) (xs.take n)
 | ds,xs,0,h=>by simp;exact .mk_nil
 | [],xs,n+1,h=>by cases h.nil_at;exact .mk_nil
 | d::ds,xs,n+1,h=>by
  obtain⟨x,r,rfl,h1,h2⟩:=h.cons_at;exact .mk_cons h1 (h2.take n)
theorem aA.drop{H:Hp}:∀{ds:List D}{xs:List V}(n:Nat),aA H ds xs->aA H (ds.drop n) (xs.drop n)
 | ds,xs,0,h=>h
 | [],xs,n+1,h=>by cases h.nil_at;exact .mk_nil
 | d::ds,xs,n+1,h=>by
  obtain⟨x,r,rfl,h1,h2⟩:=h.cons_at;exact h2.drop n
def dB(G:Hp)(a:Addr)(qs:List (Int×Int)):Prop:=∃xs,G a=some (.lst xs)/\aA G (qs.map fr) xs
section
variable {G G':Hp}{a l:Addr}{qs:List (Int×Int)}{xs:List V}
theorem dB.same(h:dB G a qs)(S:ax G G'):dB G' a qs:=by
 obtain⟨ys,h1,h2⟩:=h;exact⟨ys,S _ _ h1,h2.same S⟩
theorem dB.but(h:dB G a qs)(hl:G l=some (.lst xs))(hn:a≠l)(S:gd l G G'):dB G' a qs:=by
 obtain⟨ys,h1,h2⟩:=h;exact⟨ys,S _ _ hn h1,aA.flat_but hl S _ _ (jJ qs) h2⟩
theorem dB.rep(h:dB G a qs):aO G (.lst (qs.map fr)) (.ref a):=by
 obtain⟨ys,h1,h2⟩:=h;exact .mk_lst h1 h2
theorem dB.len(h:dB G a qs):ig G a=some qs.length:=by
 obtain⟨ys,h1,h2⟩:=h;unfold ig;rw[h1];simp only[h2.length,YD]
theorem gi.but{st:Addr}(h:gi G st)(hl:G l=some (.lst xs))(hn:st≠l)(S:gd l G G'):gi G' st:=by
 obtain⟨x,b,h3,h4⟩:=h;exact⟨x,b,S _ _ hn h3,h4⟩
end
theorem y9{CX:vA}{P:Program}{w:World}{K:W.Frag}{mg:Str->Option Value}{base:Heap}{N:List Str}{qual:Str}{scope:Scope}{f:Addr}{cd:Value}{A:Around}{outer:List Env}{s:Shared}{H:Hp}{E:XK} :
  (fw CX P w K mg base N qual scope f cd A outer s H E).nox.K=K:=rfl
def Bl(t u:TS):TS:=λD σ H=>∃R:St->Hp->Prop,(∀σ' H',R σ' H'->u D σ' H')/\t { D with nx:=R } σ H
theorem Bl.mk{t u:TS}{D:oA}{σ:St}{H:Hp}(R:St->Hp->Prop)(h1:t { D with nx:=R } σ H)(h2:∀σ' H',R σ' H'->u D σ' H'):Bl t u D σ H:=⟨R,h2,h1⟩
theorem EY{X:Cx}{st:Stmt}{rest:List Stmt}{t u:TS}(h1:PS X st t)(h2:qL X rest u):qL X (st::rest) (Bl t u):=by
 rintro pins s σ H D I ⟨R,hR,h⟩;refine wpAny_execs_cons (cw (h1 pins s σ H { D with nx:=R } I h) λf s1 q=>?_)
 cases f with
 | next =>
  obtain⟨σ',H',I',q⟩:=q;exact h2 pins s1 σ' H' D I' (hR _ _ q)
 | ret v=>exact q
 | brk=>exact q
 | cont=>exact q
def mW(J:It)(H:Hp)(its:List V):Prop:=(∀i,i<its.length->J.go i H)/\(∀i x H',i<its.length->J.yld i H x H'->H'=H/\its[i]? = some x)/\J.stop its.length H
def dy(lo:Int)(n:Nat):List V:=(List.range n).map λ(k:Nat)=>V.int (lo+k)
theorem aX{lo:Int}{n:Nat}{H:Hp}:mW (IY lo n) H (dy lo n):=by
 refine⟨λi hi=>by show i<n;simpa [dy] using hi,λi x H' hi y=>⟨y.1,?_⟩,by show n<=(dy lo n).length;simp[dy]⟩
 have hi':i<n:=by simpa [dy] using hi
 rw[y.2];simp[dy,hi']
theorem aP{K:W.Frag}{H:Hp}{a:Addr}{xs:List V}(h:vw K H a=some (.lst xs)):mW (KC K a) H xs :=
 ⟨λi hi=>⟨xs,xs[i],.of (aE h),by simp[hi]⟩,λi x H' _ y=>⟨y.1,y.2 xs (.of (aE h))⟩,⟨xs,.of (aE h),Yq _⟩⟩
theorem aZ{J:It}{its:List V}{g:TG}{tb:TS}{D:oA}{σ:St}{H:Hp}(Pv:Nat->St->Hp->Prop)(hl:∀i σ H,i<=its.length->Pv i σ H->mW J H its)(h0:Pv 0 σ H)
  (hs:∀i x σ H,i<its.length->its[i]? = some x->Pv i σ H->g x σ H λσ2 H2=>tb { D with nx:=Pv (i+1),ct:=Pv (i+1),bk:=D.nx } σ2 H2)(hd:∀σ H,Pv its.length σ H->D.nx σ H):FK J g tb D σ H:=by
 refine⟨λi m σ H=>m=its.length-i/\i<=its.length/\Pv i σ H,⟨its.length,by simp,YL _,h0⟩,?_⟩
 rintro i m σ H ⟨rfl,hi,p⟩;obtain⟨q1,q2,q3⟩:=hl i σ H hi p;by_cases hlt:i<its.length
 .refine .inr ⟨q1 i hlt,Pv (i+1),λσ' H' p'=>⟨its.length-(i+1),(),rfl,hlt,p'⟩,λx H' y=>?_⟩;obtain⟨e,y2⟩:=q2 i x H' hlt y;subst e;exact hs i x σ _ hlt y2 p
 .have e:i=its.length:=();subst e;exact .inl ⟨q3,hd σ H p⟩
def CN(K:W.Frag)(a:Addr)(σr:St)(Pv:List V->Hp->Prop):St->Hp->Prop:=λσ H=>(∃y,σ=y::σr) /\ ∃xs,vw K H a=some (.lst xs)/\Pv xs H
def GP(K:W.Frag)(a:Addr)(N:Hp->Prop):V->Hp->Prop:=λv H4=>∃xs,vw K H4 a=some (.lst xs)/\xs.length<sizeLine /\ ∀H5,gd a (vw K H4) (vw K H5)->vw K H5 a=some (.lst (xs++[v]))->N H5
theorem aW{K:W.Frag}{J:It}{its:List V}{tif:TT}{te:TE}{a:Addr}{x0:Option V}{σr:St}{H0:Hp}{Q:Hp->Prop}(Pv:Nat->List V->Hp->Prop)
  (hl:∀i xs H,i<=its.length->vw K H a=some (.lst xs)->Pv i xs H->mW J H its)(ha:vw K H0 a=some (.lst []))(h0:Pv 0 [] H0)
  (hs:∀i x xs H,i<its.length->its[i]? = some x->vw K H a=some (.lst xs)->Pv i xs H->tif (some x::σr) H λb H3=>if b=true then te (some x::σr) H3 (GP K a (CN K a σr (Pv (i+1)) (some x::σr))) else CN K a σr (Pv (i+1)) (some x::σr) H3)
  (hd:∀xs H,vw K H a=some (.lst xs)->Pv its.length xs H->Q H):kG K J (gn 0) tif te a (x0::σr) H0 Q:=by
 refine⟨λi m σ H=>m=its.length-i/\i<=its.length/\CN K a σr (Pv i) σ H,⟨its.length,by simp,YL _,⟨_,rfl⟩,_,ha,h0⟩,?_⟩
 rintro i m σ H ⟨rfl,hi,⟨y,rfl⟩,xs,hxs,p⟩;obtain⟨q1,q2,q3⟩:=hl i xs H hi hxs p;by_cases hlt:i<its.length
 .refine .inr ⟨q1 i hlt,CN K a σr (Pv (i+1)),λσ' H' p'=>⟨its.length-(i+1),(),rfl,hlt,p'⟩,λx H' y=>?_⟩;obtain⟨e,y2⟩:=q2 i x H' hlt y;subst e;exact hs i x xs _ hlt y2 hxs p
 .have e:i=its.length:=();subst e;exact .inl ⟨q3,hd xs H hxs p⟩
theorem GP.mk{K:W.Frag}{a:Addr}{σr:St}{Pv:List V->Hp->Prop}{x:Option V}{v:V}{H:Hp}{xs:List V}(h:vw K H a=some (.lst xs))(hz:xs.length<sizeLine)
  (q:∀H5,gd a (vw K H) (vw K H5)->vw K H5 a=some (.lst (xs++[v]))->Pv (xs++[v]) H5):GP K a (CN K a σr Pv (x::σr)) v H:=⟨xs,h,hz,λH5 B h5=>⟨⟨_,rfl⟩,_,h5,q H5 B h5⟩⟩
theorem CN.mk{K:W.Frag}{a:Addr}{σr:St}{Pv:List V->Hp->Prop}{x:Option V}{H:Hp}{xs:List V}(h:vw K H a=some (.lst xs))(q:Pv xs H):CN K a σr Pv (x::σr) H:=⟨⟨_,rfl⟩,_,h,q⟩
theorem d5{lo:Int}{n i:Nat}{x:V}(h:(dy lo n)[i]? = some x):i<n/\x=.int (lo+i):=by
 have hi:i<n:=by simpa [dy] using (List.getElem?_eq_some_iff.mp h).1
 simp[dy,hi] at h;exact⟨hi,h.symm⟩
theorem cW{lo:Int}{n:Nat}:(dy lo n).length=n:=by simp[dy]
theorem xm{n d:Nat}{k:Nat}(h:k<=n):HT.sIx n d (some (k:Int))=k:=by
 unfold HT.sIx;simp only[YE];rw[Yc ()];nofun
theorem vU{xs:List V}{k:Nat}(h:k<=xs.length):nV xs none (some (k:Int))=xs.take k:=by
 unfold nV;rw[xm h];simp[HT.sIx]
theorem gE{α:Type}{xs:List α}{x:α}(h:xs.getLast? = some x):oi xs (-1)=some x:=by
 obtain⟨ys,rfl⟩:=List.getLast?_eq_some_iff.mp h;exact A6 ys x
def Jy(K:W.Frag)(neg:Bool):R2:=λx y H Q=>∃p q,x=.ref p/\y=.ref q /\ ∃xs,vw K H p=some (.lst xs)/\vw K H q=some (.lst [])/\Q (.bl (if neg then !xs.isEmpty else xs.isEmpty)) H
theorem cI.u64{k:Nat}{A:Around}(r:cI k A):A.units+64<cLine:=by have:=r.un;nofun
theorem CA(p q:Int×Int):zm (fr p) (fr q)=decide (p=q):=by
 unfold zm fr D.py D.pys D.pys D.pys D.py;simp only[PyData.eqv,PyData.eqvAll];rw[Bool.eq_iff_iff];simp[Prod.ext_iff]
theorem vq(q:Int×Int):(fr q).cmp:=by
 unfold D.cmp fr D.py D.pys D.pys D.pys D.py;exact⟨rfl,Nat.le_of_ble_eq_true rfl⟩
theorem cu{H:Hp}{a:Addr}{i j:Int}(h:H a=some (.tup [.int i,.int j])):aO H (fr (i,j)) (.ref a):=.mk_tup h (.mk_cons (.mk_int _) (.mk_cons (.mk_int _) .mk_nil))
end L2
namespace L2
open PySem PySem.Spec PyProof.Rows
theorem aA.repl{H:Hp}{d:D}{x:V}(h:aO H d x):∀n,aA H (List.replicate n d) (List.replicate n x)
 | 0=>.mk_nil
 | n+1=>.mk_cons h (aA.repl h n)
theorem ax.rfl{H:Hp}:ax H H:=λ_ _ z=>z
end L2
set_option autoImplicit true
namespace L2
open PySem PySem.Spec PyProof.Rows
structure QE (X:Cx)(e:Expr)(t:TE):Prop where
 h:PE X e t
structure QT (X:Cx)(e:Expr)(t:TT):Prop where
 h:PT X e t
structure QW (X:Cx)(e:Expr)(t:TT):Prop where
 h:PW X e t
structure QA (X:Cx)(e:List Expr)(t:TA):Prop where
 h:PA X e t
structure QS (X:Cx)(e:Stmt)(t:TS):Prop where
 h:PS X e t
structure uv (X:Cx)(e:List Stmt)(t:TS):Prop where
 h:qL X e t
structure QG (X:Cx)(e:Expr)(t:TG):Prop where
 h:PG X e t
structure KA (X:Cx)(e:List Expr)(t:zw):Prop where
 h:Ja X e t
structure QF (X:Cx)(e:List Expr)(t:TT):Prop where
 h:PF X e t
structure QO (X:Cx)(e:Option Expr)(t:TO):Prop where
 h:PO X e t
structure QI (X:Cx)(tg e:Expr)(t:TI):Prop where
 h:PI X tg e t
section
variable {X:Cx}{pos p p2 apos cpos pos':Pos}{a b e o l:Expr}{es rest:List Expr}{te ta tb to:TE}{tA tB':TT}{st:Stmt}{rest':List Stmt}{lo hi:Option Expr}{id:String}
theorem je {b j pos}:QE X (.Constant (.bool b) j pos) (tC (.bl b)):=⟨JV ⟩
theorem af {i j pos}:QE X (.Constant (.int i) j pos) (tC (.int i)):=⟨IP ⟩
theorem Cv {j pos}:QE X (.Constant .none j pos) (tC .non):=⟨Ic ⟩
theorem eJ {x j pos}:QE X (.Constant (.str x) j pos) (tC (.str x)):=⟨HH ⟩
theorem fT{x:Str}{v:V}{u:Value}{pos:Pos}(hg:Gl X x)(hm:X.mg x=some u)(r:aY v u)(hd:(x==("__debug__" : Str))=false:=by decide):QE X (.Name x pos) (tC v):=⟨EC (hg:=hg) (hm:=hm) (r:=r) (hd:=hd)⟩
theorem fV{x:Str}{v:V}{u:Value}{pos:Pos}(hg:Gl X x)(hm:X.mg x=none)(hv:bootBuiltins x=some u)(r:aY v u)(hn:x ≠ "__name__":=by decide) (hd:(x==("__debug__" : Str))=false:=by decide):QE X (.Name x pos) (tC v):=⟨Ec (hg:=hg) (hm:=hm) (hv:=hv) (r:=r) (hn:=hn) (hd:=hd)⟩
theorem ao{op:Operator}{r:R2}(ho:fi X (binaryOp op) r)(ha:QE X a ta)(hb:QE X b tb):QE X (.BinOp a op b pos) (CV r ta tb):=⟨Kn (ho:=ho) (ha:=ha.h) (hb:=hb.h)⟩
theorem gf{op:UnaryOp}{r:V->Hp->VK->Prop}(ho:KD X (unaryOp op) r)(ha:QE X a ta):QE X (.UnaryOp op a pos) (KU r ta):=⟨JZ (ho:=ho) (ha:=ha.h)⟩
theorem GB(ha:QE X a ta)(hb:QE X (.BoolOp .And (b::rest) pos) tb):QE X (.BoolOp .And (a::b::rest) pos) (wR ta tb):=⟨GS (ha:=ha.h) (hb:=hb.h)⟩
theorem Gn {op}{t:TE}(h:QE X a t):QE X (.BoolOp op [a] pos) t:=⟨Gf (h:=h.h)⟩
theorem jG{op:CmpOp}{r:R2}(ho:fi X (compareOp op) r)(ha:QE X a ta)(hb:QE X b tb)(hm:behindInMarks op b=false):QE X (.Compare a [op] [b] pos) (CV r ta tb):=⟨DW (ho:=ho) (ha:=ha.h) (hb:=hb.h) (hm:=hm)⟩
theorem iN{c:Expr}(hc:QT X c tA)(ha:QE X a ta)(hb:QE X b tb):QE X (.IfExp c a b pos) (Lh tA ta tb):=⟨zM (hc:=hc.h) (ha:=ha.h) (hb:=hb.h)⟩
theorem aL {x1}(h:QA X es t):QE X (.Tuple es x1 pos) (wY X.K t):=⟨Dt (h:=h.h)⟩
theorem a7(h:QA X es t):QE X (.List es pos) (xG X.K t):=⟨Fg (h:=h.h)⟩
theorem m4{r:V->Option Int->Option Int->Hp->VK->Prop}(hr:CW X r)(he:QE X e te)(hl:QO X lo tl)(hu:QO X hi th):QE X (.Subscript e (.Slice lo hi none p2) pos) (Ld r te tl th):=⟨Co (hr:=hr) (he:=he.h) (hl:=hl.h) (hu:=hu.h)⟩
theorem rA  : QO X none sw:=⟨Fa ⟩
theorem qU(h:QE X e te):QO X (some e) (xM te):=⟨Eh (h:=h.h)⟩
theorem aG{r:R2}(hr:yN X r)(ha:QE X a ta)(hb:QE X b tb)(hs:wZ b):QE X (.Subscript a b pos) (CV r ta tb):=⟨Kb (hr:=hr) (ha:=ha.h) (hb:=hb.h) (hs:=hs)⟩
theorem av(C:dq X.prog X.w X.K X.mg X.base x ps k sp)(hr:cI k X.A)(hg:Gl X x)(ha:QA X (e::es) t)(hdb:(x==("__debug__" : Str))=false:=by decide) (he:starEach (e::es) X.env=(false,eval e X.env)::starEach es X.env:=by rfl)(hpl:(backTo pos (starEach es X.env)).any (·.1)=false:=by rfl) :
  QE X (.Call (.Name x p) (e::es) [] pos) (A9 sp t):=⟨GA (C:=C) (hr:=hr) (hg:=hg) (ha:=ha.h) (hdb:=hdb) (he:=he) (hpl:=hpl)⟩
theorem ar(hc:dk X (.builtin id) r)(hg:Gl X x)(hm:X.mg x=none)(hv:bootBuiltins x=some (.builtin id))(ha:QA X (e::es) t)(hn:x ≠ "__name__":=by decide) (hdb:(x==("__debug__" : Str))=false:=by decide) (he:starEach (e::es) X.env=(false,eval e X.env)::starEach es X.env:=by rfl)(hpl:(backTo pos (starEach es X.env)).any (·.1)=false:=by rfl):QE X (.Call (.Name x p) (e::es) [] pos) (EM r t):=⟨CH (hc:=hc) (hg:=hg) (hm:=hm) (hv:=hv) (ha:=ha.h) (hn:=hn) (hdb:=hdb) (he:=he) (hpl:=hpl)⟩
theorem qb(hc:dk X (.type T) r)(hg:Gl X x)(hm:X.mg x=none)(hv:bootBuiltins x=some (.type T))(ha:QA X (e::es) t)(hn:x ≠ "__name__":=by decide) (hdb:(x==("__debug__" : Str))=false:=by decide) (he:starEach (e::es) X.env=(false,eval e X.env)::starEach es X.env:=by rfl)(hpl:(backTo pos (starEach es X.env)).any (·.1)=false:=by rfl):QE X (.Call (.Name x p) (e::es) [] pos) (EM r t):=⟨yf (hc:=hc) (hg:=hg) (hm:=hm) (hv:=hv) (ha:=ha.h) (hn:=hn) (hdb:=hdb) (he:=he) (hpl:=hpl)⟩
theorem qe(pa:PlainAttrs T)(slot:Slot T name id)(hty:typeOf (.builtin id)=pure (.type "method_descriptor")) (hm:JK X id r)(ho:QE X o to)(ha:QA X (e::es) t)(hbase:attributeBase o name X.env (eval o X.env)=eval o X.env:=by rfl)(hfew:((backTo cpos (starEach (e::es) X.env)).all (λx=>!x.1) && (backToKw cpos (keywordEach [] X.env)).all (λx=>x.1.isSome)
   && decide ((e::es).length+([]:List Keyword).length+(if ([]:List Keyword).isEmpty then 0 else 1)<30))=true:=by rfl) (hline:(apos.endLine==cpos.line)=true:=by rfl)(hs:starEach (e::es) X.env=(false,eval e X.env)::starEach es X.env:=by rfl)(hplain:(backTo cpos (starEach es X.env)).any (·.1)=false:=by rfl) :
  QE X (.Call (.Attribute o name apos) (e::es) [] cpos) (KZ X.K T r to t):=⟨Je (pa:=pa) (slot:=slot) (hty:=hty) (hm:=hm) (ho:=ho.h) (ha:=ha.h) (hbase:=hbase) (hfew:=hfew) (hline:=hline) (hs:=hs) (hplain:=hplain)⟩
theorem uX(pa:PlainAttrs T)(slot:Slot T name id)(hty:typeOf (.builtin id)=pure (.type "method_descriptor")) (hm:JK X id r)(ho:QE X o to)(hbase:attributeBase o name X.env (eval o X.env)=eval o X.env:=by rfl)(hline:(apos.endLine==cpos.line)=true:=by rfl):QE X (.Call (.Attribute o name apos) [] [] cpos) (IC X.K T r to):=⟨IM (pa:=pa) (slot:=slot) (hty:=hty) (hm:=hm) (ho:=ho.h) (hbase:=hbase) (hline:=hline)⟩
theorem ae  : QA X [] yM:=⟨Hn ⟩
theorem aa(ha:QE X e te)(hr:QA X es t)(hs:starEach (e::es) X.env=(false,eval e X.env)::starEach es X.env:=by rfl):QA X (e::es) (lT te t):=⟨El (ha:=ha.h) (hr:=hr.h) (hs:=hs)⟩
theorem aH{op:CmpOp}{r:R2}(ho:fi X (compareOp op) r)(ha:QE X a ta)(hb:QE X b tb)(hm:behindInMarks op b=false):QT X (.Compare a [op] [b] pos) (xL (CV r ta tb)):=⟨E5 (ho:=ho) (ha:=ha.h) (hb:=hb.h) (hm:=hm)⟩
theorem lK(ha:QT X a tA):QT X (.UnaryOp .Not a pos) (Ir tA):=⟨Iy (ha:=ha.h)⟩
theorem QW.pt{X:Cx}{e:Expr}{t:TT}(h:QW X e t):QT X e t:=⟨PW.pt (h:=h.h)⟩
theorem iX(ha:QT X a tA):QW X (.BoolOp .And [a] pos) tA:=⟨D8 (ha:=ha.h)⟩
theorem kx(ha:QT X a tA)(hb:QW X (.BoolOp .And (b::rest) pos) tB'):QW X (.BoolOp .And (a::b::rest) pos) (Gq tA tB'):=⟨Gi (ha:=ha.h) (hb:=hb.h)⟩
theorem F6(ha:QT X a tA):QW X (.BoolOp .Or [a] pos) tA:=⟨GI (ha:=ha.h)⟩
theorem Ka(ha:QT X a tA)(hb:QW X (.BoolOp .Or (b::rest) pos) tB'):QW X (.BoolOp .Or (a::b::rest) pos) (K9 tA tB'):=⟨JM (ha:=ha.h) (hb:=hb.h)⟩
theorem fx(ha:QE X a ta)(he:∀whole,isTrue a X.env whole=(do let v <-whole;standAt a.pos;holding [v] (truthy v))) :
  QT X a (λσ H Q=>ta σ H λx H'=>∃k,vM X.K x H' k/\Q k H'):=⟨Bb (ha:=ha.h) (he:=he)⟩
theorem ki{e:Expr}{t:TE}(h:QE X e t)(he:∀whole,isTrue e X.env whole=(do let v <-whole;standAt e.pos;holding [v] (truthy v)):=by intro _;rfl):QT X e (tB t):=⟨HQ (h:=h.h) (he:=he)⟩
theorem aw{i:Nat}{x:Str}(hN:X.N.Nodup)(hi:X.N[i]? = some x)(hx:CU X.env.scope x)(hf:X.fn x=true\/X.env.scope.names.lookup x=some .local:=by first|exact .inl rfl|exact .inr rfl|assumption):QG X (.Name x pos) (gn i):=⟨En (hN:=hN) (hi:=hi) (hx:=hx) (hf:=hf)⟩
theorem fS{es:List Expr}{k:Nat}{t:zw}{n:Nat}{pos:Pos}(hc:X.calm=true)(h:KA X es t)(hn:(assignEach es X.env).length=n:=by rfl)(hst:(assignEach es X.env).findIdx? (·.1)=none:=by rfl):QG X (.Tuple es k pos) (lN X.K n t):=⟨DA (hc:=hc) (h:=h.h) (hn:=hn) (hst:=hst)⟩
theorem fR  : KA X [] vj:=⟨Dz ⟩
theorem aS{e:Expr}{es:List Expr}{t:TG}{u:zw}(h1:QG X e t)(h2:KA X es u)(hs:(assignEach (e::es) X.env).map (·.2)=assign e X.env::(assignEach es X.env).map (·.2):=by rfl):KA X (e::es) (jm t u):=⟨AI (h1:=h1.h) (h2:=h2.h) (hs:=hs)⟩
theorem rK{o i:Expr}{to ti:TE}{t:vx}(ho:QE X o to)(hi:QE X i ti)(hs:yq X t)(ha:∀v,assign (.Subscript o i pos) X.env v=(do
   let ov <-holding [v] (eval o X.env)
   let iv <-holding [v,ov] (eval i X.env)
   standAt pos
   holding [v,ov,iv] (setItem ov iv v)
   release [v,ov,iv] []):=by intro _;rfl):QG X (.Subscript o i pos) (Hz to ti t):=⟨IV (ho:=ho.h) (hi:=hi.h) (hs:=hs) (ha:=ha)⟩
theorem ck{a:Expr}{ta:TA}{p pos:Pos}(hg:Gl X "range") (hm:X.mg "range" = none) (ha:QA X [a] ta)(hs:starEach [a] X.env=[(false,eval a X.env)]:=by rfl):QI X tg (.Call (.Name "range" p) [a] [] pos) (wr ta):=⟨yk (hg:=hg) (hm:=hm) (ha:=ha.h) (hs:=hs)⟩
theorem qo{a b:Expr}{ta:TA}{p pos:Pos}(hg:Gl X "range") (hm:X.mg "range" = none) (ha:QA X [a,b] ta)(hs:starEach [a,b] X.env=[(false,eval a X.env),(false,eval b X.env)]:=by rfl)(hs2:starEach [b] X.env=[(false,eval b X.env)]:=by rfl) :
  QI X tg (.Call (.Name "range" p) [a,b] [] pos) (CL ta):=⟨zg (hg:=hg) (hm:=hm) (ha:=ha.h) (hs:=hs) (hs2:=hs2)⟩
theorem cg{l:Expr}{tl:TE}(hl:QE X l tl):QI X tg l (we X.K tl):=⟨EO (hl:=hl.h)⟩
theorem aB(he:QE X e te):QS X (.Return (some e) pos) (Gr te):=⟨Il (he:=he.h)⟩
theorem gW(he:QE X e te)(hs:swapsWith e none pos.line X.env=pure false:=by rfl):QS X (.Expr e pos) (CO te):=⟨Es (he:=he.h) (hs:=hs)⟩
theorem cQ{c:Expr}{a b:List Stmt}{tc:TT}(hc:QT X c tc)(ha:uv X a t)(hb:uv X b u):QS X (.If c a b pos) (Ih tc t u):=⟨Ju (hc:=hc.h) (ha:=ha.h) (hb:=hb.h)⟩
theorem fB{c:Expr}{body:List Stmt}{tc:TT}{tb:TS}(hp:PassesOwn (model X.prog X.w) X.A X.env X.xe)(hc:QT X c tc)(hb:uv X body tb):QS X (.While c body [] pos) (lu tc tb):=⟨zJ (hp:=hp) (hc:=hc.h) (hb:=hb.h)⟩
theorem cS{iter:Expr}{body:List Stmt}{wi:TI}{g:TG}{tb:TS}{pos:Pos}(hp:PassesOwn (model X.prog X.w) X.A X.env X.xe)(hc:X.calm=true)(hi:QI X tg iter wi)(hg:QG X tg g)(hb:uv X body tb)(hs:∀x,foldedSetIterable iter X.env x=pure x:=by intro _;rfl):QS X (.For tg iter body [] pos) (GR wi g tb):=⟨Hu (hp:=hp) (hc:=hc) (hi:=hi.h) (hg:=hg.h) (hb:=hb.h) (hs:=hs)⟩
theorem au{i:Nat}{x:Str}{e:Expr}{te:TE}{pos':Pos}(hN:X.N.Nodup)(hi:X.N[i]? = some x)(hx:CU X.env.scope x)(he:QE X e te)(hs:swapsWith e (some (.Name x pos')) pos.line X.env=pure false:=by rfl)(hf:X.fn x=true\/X.env.scope.names.lookup x=some .local:=by first|exact .inl rfl|exact .inr rfl|assumption) :
  QS X (.Assign [.Name x pos'] e pos) (tH te (gn i)):=⟨GJ (hN:=hN) (hi:=hi) (hx:=hx) (he:=he.h) (hs:=hs) (hf:=hf)⟩
theorem rN{i j:Nat}{x y:Str}{a b:Expr}{ta:TA}{px py pt:Pos} {kt k2 pt2}(hc:X.calm=true)(hN:X.N.Nodup)(hi:X.N[i]? = some x)(hj:X.N[j]? = some y)(hij:i≠j)(hx:X.env.scope.names.lookup x=some .local)(hy:X.env.scope.names.lookup y=some .local)(ha:QA X [a,b] ta)(hw:swappedStores [.Tuple [.Name x px,.Name y py] kt pt] (.Tuple [a,b] k2 pt2) X.env=pure (some [x,y]))(hs:swapsWithSole [.Tuple [.Name x px,.Name y py] kt pt] (.Tuple [a,b] k2 pt2) pos.line X.env=pure false:=by rfl) :
  QS X (.Assign [.Tuple [.Name x px,.Name y py] kt pt] (.Tuple [a,b] k2 pt2) pos) (EU i j ta):=⟨Iq (hc:=hc) (hN:=hN) (hi:=hi) (hj:=hj) (hij:=hij) (hx:=hx) (hy:=hy) (ha:=ha.h) (hw:=hw) (hs:=hs)⟩
theorem iI{tg e:Expr}{te:TE}{g:TG}(he:QE X e te)(hg:QG X tg g)(hs:swapsWithSole [tg] e pos.line X.env=pure false:=by rfl)(hw:swappedStores [tg] e X.env=pure none:=by rfl)(h1:(assignEach [tg] X.env).map (·.2)=[assign tg X.env]:=by rfl):QS X (.Assign [tg] e pos) (tH te g):=⟨Ia (he:=he.h) (hg:=hg.h) (hs:=hs) (hw:=hw) (h1:=h1)⟩
theorem ie{i:Nat}{x:Str}{e:Expr}{te:TE}{op:Operator}{ti:CS}{pos':Pos}(hN:X.N.Nodup)(hi:X.N[i]? = some x)(hx:CU X.env.scope x)(he:QE X e te)(ho:Fn X op ti)(hf:X.fn x=true\/X.env.scope.names.lookup x=some .local:=by first|exact .inl rfl|exact .inr rfl|assumption) :
  QS X (.AugAssign (.Name x pos') op e pos) (Hg i te ti):=⟨IR (hN:=hN) (hi:=hi) (hx:=hx) (he:=he.h) (ho:=ho) (hf:=hf)⟩
theorem Dl{o i e:Expr}{to ti te:TE}{tget:V->V->Hp->VK->Prop}{tip:CS}{tset:vx}{op:Operator}{tpos:Pos}(ho:QE X o to)(hi:QE X i ti)(hg:Gj X tget)(he:QE X e te)(hp:Fn X op tip)(hs:yq X tset)(ha:∀ov iv new,augStore i ov iv new=(do holding [new,ov,iv] (setItem ov iv new);release [new,ov,iv] [];pure .next):=by intros;rfl):QS X (.AugAssign (.Subscript o i tpos) op e pos) (Aa to ti te tget tip tset):=⟨Ee (ho:=ho.h) (hi:=hi.h) (hg:=hg) (he:=he.h) (hp:=hp) (hs:=hs) (ha:=ha)⟩
theorem a8  : uv X [] Aq:=⟨EG ⟩
theorem aj(h1:QS X st t):uv X [st] t:=⟨CY (h1:=h1.h)⟩
theorem ag(h1:QS X st t)(h2:uv X rest' u):uv X (st::rest') (aR t u):=⟨Ac (h1:=h1.h) (h2:=h2.h)⟩
theorem DR{X:Cx}{st:Stmt}{rest':List Stmt}{t u:TS}(h1:QS X st t)(h2:uv X rest' u):uv X (st::rest') (Bl t u):=⟨EY (h1:=h1.h) (h2:=h2.h)⟩
theorem eU{X:Cx}:QF X [] ED:=⟨GM ⟩
theorem oh{X:Cx}{c:Expr}{t:TT}(h:QT X c t):QF X [c] t:=⟨HN (h:=h.h)⟩
theorem qv(i:Nat){x:Str}{pos:Pos}(hN:X.N[i]? = some x:=by rfl)(hv:Go X.env.scope x:=by first|exact Or.inl rfl|exact Or.inr (Or.inl rfl)|exact Or.inr (Or.inr rfl))(hd:(x==("__debug__" : Str))=false:=by decide) (hcd:(x==("__classdict__" : Str))=false:=by decide):QE X (.Name x pos) (EA i):=⟨pv (i:=i) (hN:=hN) (hv:=hv) (hd:=hd) (hcd:=hcd)⟩
theorem dX{tg iter elt:Expr}{gx:List Expr}{scope:Scope}{wi:TI}{g:TG}{tif:TT}{te:TE}{cl:List (Str×Addr)}{own outs:List Str}{ixs:List Nat}
  (hc:X.calm=true)(hi:QI X tg iter wi)(hclos:closureFor scope X.env=pure cl)(S:nD X scope cl own outs ixs)
  (hb:∀C s H ex,QG (lV X scope cl (own++outs) C s H ex) tg g/\QF (lV X scope cl (own++outs) C s H ex) gx tif/\QE (lV X scope cl (own++outs) C s H ex) elt te)
  (hs:∀x,foldedSetIterable iter X.env x=pure x:=by intro _;rfl):QE X (.ListComp elt [⟨tg,iter,gx,0⟩] scope pos) (ub X.K wi own.length ixs g tif te) :=
 ⟨E9 hc hi.h hclos S (λC s H ex=>⟨(hb C s H ex).1.h,(hb C s H ex).2.1.h,(hb C s H ex).2.2.h⟩) hs⟩
theorem gX{tg iter elt:Expr}{gx:List Expr}{scope:Scope}{spos py:Pos}{y:Str}{i:Nat}{wi:TI}{g:TG}{tif:TT}{te:TE}{cl:List (Str×Addr)}{own outs:List Str}{ixs:List Nat}
  (hN:X.N.Nodup)(hy:X.N[i]? = some y)(hx:CU X.env.scope y)(hc:X.calm=true)(hi:QI X tg iter wi)(hclos:closureFor scope X.env=pure cl)(S:nD X scope cl own outs ixs)
  (hb:∀C s H ex,QG (lV X scope cl (own++outs) C s H ex) tg g/\QF (lV X scope cl (own++outs) C s H ex) gx tif/\QE (lV X scope cl (own++outs) C s H ex) elt te)
  (hsw:swapsWith (.ListComp elt [⟨tg,iter,gx,0⟩] scope pos) (some (.Name y py)) spos.line X.env=pure true:=by rfl)
  (hs:∀x,foldedSetIterable iter X.env x=pure x:=by intro _;rfl)(hf:X.fn y=true\/X.env.scope.names.lookup y=some .local:=by first|exact .inl rfl|exact .inr rfl|assumption) :
  QS X (.Assign [.Name y py] (.ListComp elt [⟨tg,iter,gx,0⟩] scope pos) spos) (tH (ub X.K wi own.length ixs g tif te) (gn i)) :=
 ⟨Dh hN hy hx hc hi.h hclos S (λC s H ex=>⟨(hb C s H ex).1.h,(hb C s H ex).2.1.h,(hb C s H ex).2.2.h⟩) hsw hs hf⟩
end
section
variable {P:Program}{w:World}{K:W.Frag}{mg:Str->Option Value}{base:Heap}
theorem eD.okQ{x qual:Str}{st:Stmt}{f:Addr}{fd:FuncData}{N ps:List Str}{k:Nat}{sp:Sp}(F:eD K x qual st f fd)(S:az N ps (ak st))(len:∀vs H Q E,sp vs H Q E->vs.length=ps.length)
  (hbody:∀(cdv:Value)(A:Around)(outer:List Env)(s:Shared)(H:Hp)(vs:List V)(Q:VK)(E:XK),cI k (A.deeper (envOfC qual (ak st) s.heap.objs.size f cdv))->sp vs H Q E ->
   ∃t,uv (fw eP P w K mg base N qual (ak st) f cdv A outer s H E).nox (cC st) t/\t { nx:=λ_ H'=>Q .non H',rt:=Q } (start N vs) H):bj P w K mg base eP (k+1) f fd ps sp :=
 F.ok S len λcdv A outer s H vs Q E hr h=>(hbody cdv A outer s H vs Q E hr h).imp λt z=>⟨z.1.h,z.2⟩
end
section
variable {X:Cx}{pins:List (Addr×Obj)}{σ:St}{H:Hp}{s:Shared}{h':Heap}
theorem ay.turnT{t':Nat}{ch:List Addr}{T:Addr}{xs:List V}{its:List Value}(I:ay X pins σ H s)(k:∀b o,b∉ch->s.heap.get? b=some o->h'.get? b=some o)(hf:∀b∈ch,kA X pins H b)
  (hT:s.heap.objs.size<=T)(hz:xs.length<=sizeLine)(rv:aN xs its)(ht:IsTup h' T its.toArray):ay X pins σ (upd H T (.tup xs)) { s with heap:=h',toks:=t' }:=by
 have hn:H T=none:=I.hok.fresh hT;have nT:∀b o,s.heap.get? b=some o->b≠T:=λb o e=>Yf (Yd (Heap.lt_size e) hT);refine I.step (g':=s.gens) (d':=s.drawn) (ch:=ch) (λb hb=>?_) (λb o _ _ hc e _=>k b o hc e) (λb o _ _ hc e _=>⟨o.slots,k b o hc e⟩) (λb o _ e n=>?_)
  (λb o hc e=>⟨o,k b o hc e⟩) (λb ys e=>?_) (λb o u e=>?_) (λb ps e=>⟨#[],?_⟩) (λm hm=>?_) (λb u e=>?_) I.bare
 .obtain⟨_,f1,_,f3,f4,f5⟩:=hf b hb;exact⟨f3,f1,f4,f5⟩
 .rw[aC (nT b o e)];exact n
 .rw[aC (ah e hn)];exact e
 .rw[aC (ah e hn)];exact e
 .rw[aC (ah e hn),e];simp
 .obtain⟨o,es,ep,ho,r⟩:=hm;exact⟨o,es,ep,k _ o (λz=>(hf _ z).2.1 rfl) ho,r⟩
 .by_cases hb:b=T
  .subst hb;rw[aV] at e;cases e;exact⟨hz,its,rv,ht⟩
  .rw[aC hb] at e;have nch:∀c v,H c=some v->c∉ch:=λc v z hc=>by
    rw[(hf c hc).1] at z;cases z
   refine (I.hok b u e).stay (λc v hc q=>k c v ?_ q) (λc q=>?_) λc ys q=>?_
   .rcases hc with z|z
    .rw[z];exact nch b u e
    .exact nch c _ z
   .rw[aC (ah q hn)];exact q
   .rw[aC (ah q hn)];exact q
end
def Lg(K:W.Frag)(R:Hp->List (List V)->Prop):It :=
 ⟨λi H=>∃ys t,R H ys/\ys[i]? = some t,λi H x H'=>∃p t,x=.ref p/\vw K H p=none/\ax (vw K H) (vw K H')/\vw K H' p=some (.tup t) /\ ∀ys,R H ys->ys[i]? = some t,λi H=>∃ys,R H ys/\ys.length=i⟩
def Bq(n:Nat)(q:Int×Int):Prop:=Bt n q.1/\Bt n q.2
theorem Bq.mono{m n:Nat}{q:Int×Int}(h:Bq m q)(hl:m<=n):Bq n q:=⟨h.1.mono hl,h.2.mono hl⟩
def Le(p q:Int×Int):Bool:=decide (p.1*q.2<q.1*p.2)
def nU(p q:Int×Int):Int×Int:=lo (p.1*q.2+q.1*p.2) (p.2*q.2)
theorem sN{a b:Int}{n:Nat}(hb:b≠0)(h1:Bt n a)(h2:Bt n b):Bq n (lo a b):=by
 have e1:=gA (a:=a) hb;have e2:=fU (a:=a) hb;have hl:0<(lg a b).natAbs:=by have:=CQ (a:=a) hb;nofun
 constructor
 .unfold Bt at *
  have:=YW (lo a b).1 (lg a b);rw[e1] at this;have:=Y0 (lo a b).1.natAbs hl;nofun
 .unfold Bt at *
  have:=YW (lo a b).2 (lg a b);rw[e2] at this;have:=Y0 (lo a b).2.natAbs hl;nofun
theorem wU{p q:Int×Int}(hp:Fq p)(hq:Fq q):Fq (nU p q):=lQ (by have:=Y1 hp.1 hq.1;nofun)
theorem Fe{p q:Int×Int}{m n:Nat}(hp:Fq p)(hq:Fq q)(h1:Bq m p)(h2:Bq n q):Bq (m+n+1) (nU p q):=by
 refine sN (by have:=Y1 hp.1 hq.1;nofun) ?_ ?_
 .have:=(h1.1.mul h2.2).add (h2.1.mul h1.2);exact this.mono ()
 .exact (h1.2.mul h2.2).mono ()
def gu(G:Hp)(a:Addr)(ds:List D):Prop:=∃xs,G a=some (.lst xs)/\aA G ds xs
section
variable {G G':Hp}{a l:Addr}{ds:List D}{xs:List V}
theorem gu.same(h:gu G a ds)(S:ax G G'):gu G' a ds:=by
 obtain⟨ys,h1,h2⟩:=h;exact⟨ys,S _ _ h1,h2.same S⟩
theorem gu.but(h:gu G a ds)(hf:D.flats ds=true)(hl:G l=some (.lst xs))(hn:a≠l)(S:gd l G G'):gu G' a ds:=by
 obtain⟨ys,h1,h2⟩:=h;exact⟨ys,S _ _ hn h1,aA.flat_but hl S _ _ hf h2⟩
theorem gu.rep(h:gu G a ds):aO G (.lst ds) (.ref a):=by
 obtain⟨ys,h1,h2⟩:=h;exact .mk_lst h1 h2
theorem gu.ne_st{st:Addr}(h:gu G a ds)(hd:∀i b,ds≠[.int i,.bl b])(hst:gi G st):a≠st:=by
 rintro rfl;obtain⟨ys,h1,h2⟩:=h;obtain⟨x,b,h3,_⟩:=hst;rw[h1] at h3;cases h3;exact hd _ _ (aO.lst_st h2)
theorem gu.stBut{st:Addr}(h:gu G a ds)(hf:D.flats ds=true)(hd:∀i b,ds≠[.int i,.bl b])(hst:gi G st)(S:gd st G G'):gu G' a ds:=by
 obtain⟨x,b,h3,h4⟩:=id hst;exact h.but hf h3 (h.ne_st hd hst) S
end
theorem lE{K:W.Frag}{H:Hp}{p:Addr}{xs:List V}(h:vw K H p=some (.lst xs)):JA K "list" (.ref p) H:=.inl ⟨rfl,xs,.of (aE h)⟩
theorem gu.ty{K:W.Frag}{H:Hp}{p:Addr}{ds:List D}(h:gu (vw K H) p ds):JA K "list" (.ref p) H:=by
 obtain⟨xs,h,_⟩:=h;exact lE h
abbrev K8:=(Int×Int)×(Int×Int)
section
variable {prog:Program}{w:World}{A:Around}{E:Value->Shared->Prop}{s:Shared}
theorem At{it t:Addr}{i:Nat}{its:Array Value}{x:Value}{Q:Value->Shared->Prop}(a:s.heap.IsTupleIter it t i)(b:s.heap.IsTuple t its)(c:its[i]? = some x)
  (q:∀g,g.IsTupleIter it t (i+1)->Heap.SameBut it s.heap g->Q x { s with heap:=g }):wpAny (model prog w) A (Builtin.SmallTypes.nextOf (.ref it)) Q E s:=by
 obtain⟨u,a1,a2,a3⟩:=id a;obtain⟨v,b1,_,bn,b2⟩:=b;unfold Builtin.SmallTypes.nextOf;refine wpAny_bind (wpAny_callSpecial?_slot (name:=Str.ofString "__next__") a.typeIs F.slot_tuple_iterator_next (wpAny_call_entry F.slot_tuple_iterator_next a.typeIs F.entry_tuple_iterator_next ?_ (F.args_tuple_iterator_next_1 _)));show wpAny _ _ (field (.ref it) 0 >>= _) _ _ s;refine wpAny_bind (wpAny_field a1 a3 (x:=.ref t) rfl ?_);show wpAny _ _ (if (Value.ref t==Value.none)=true then _ else _) _ _ s;rw[Yc (show ¬ ((Value.ref t==Value.none)=true) from Yo)]
 show wpAny _ _ (field (.ref it) 1 >>= _) _ _ s;refine wpAny_bind (wpAny_field a1 a3 (x:=.int i 0) rfl ?_);show wpAny _ _ (seqItems? (.ref t) >>= _) _ _ s;refine wpAny_bind (wpAny_seqItems b1 b2 ?_);simp only[YE,c];refine wpAny_bind (wpAny_setField a1 a3 (by simp) (wpAny_pure ⟨x,rfl,wpAny_pure (q _ ?_ (Heap.SameBut.update ..))⟩))
 exact⟨_,Heap.get?_update_self _ a1 (Obj.isFreed_of_fields (Obj.data_mapFields a3 _)),(Obj.cls_mapFields ..).trans a2,by rw[Obj.data_mapFields a3];simp[rawInt]⟩
theorem qz{it t:Addr}{i:Nat}{its:Array Value}{Q:Value->Shared->Prop}(hh:A.handled=none)(a:s.heap.IsTupleIter it t i)(b:s.heap.IsTuple t its)(c:its[i]? = none)
  (q:∀g e,Heap.ExtBut it s.heap g->(∃o,g.get? e=some o/\o.cls=.type "StopIteration")->E (.ref e) { s with heap:=g }):wpAny (model prog w) A (Builtin.SmallTypes.nextOf (.ref it)) Q E s:=by
 obtain⟨u,a1,a2,a3⟩:=id a;obtain⟨v,b1,_,bn,b2⟩:=b;unfold Builtin.SmallTypes.nextOf;refine wpAny_bind (wpAny_callSpecial?_slot (name:=Str.ofString "__next__") a.typeIs F.slot_tuple_iterator_next (wpAny_call_entry F.slot_tuple_iterator_next a.typeIs F.entry_tuple_iterator_next ?_ (F.args_tuple_iterator_next_1 _)));show wpAny _ _ (field (.ref it) 0 >>= _) _ _ s;refine wpAny_bind (wpAny_field a1 a3 (x:=.ref t) rfl ?_);show wpAny _ _ (if (Value.ref t==Value.none)=true then _ else _) _ _ s;rw[Yc (show ¬ ((Value.ref t==Value.none)=true) from Yo)]
 show wpAny _ _ (field (.ref it) 1 >>= _) _ _ s;refine wpAny_bind (wpAny_field a1 a3 (x:=.int i 0) rfl ?_);show wpAny _ _ (seqItems? (.ref t) >>= _) _ _ s;refine wpAny_bind (wpAny_seqItems b1 b2 ?_);simp only[YE,c];refine wpAny_bind (wpAny_rule (wpAny_bind (wpAny_setField a1 a3 (by simp) ?_)));show wpAny _ _ (newExc (.type "StopIteration") [] >>= _) _ _ _
 refine wpAny_bind ?_;simp only[newExc,newTuple];refine wpAny_bind (wpAny_newObj_type ?_ (by size_fits))
 refine wpAny_bind (m:=firstArgMember _ _) (wpAny_of_eq (a:=Value.none) (by first|rfl|(simp only[firstArgMember];rfl)) ?_);refine wpAny_newObj_type ?_ (by size_fits)
 simp only[raiseNew];refine wpAny_bind (wpAny_handled ?_)
 (first|rw[show A.in1.handled=none from hh]|rw[hh]);refine wpAny_bind (wpAny_pure (wpAny_throw ?_))
 exact q _ _ (((Heap.SameBut.update ..).extBut.push _).push _) ⟨_,Heap.get?_push_size _ rfl,rfl⟩
end
theorem yJ{prog:Program}{w:World}{A:Around}(hh:A.handled=none)(it l:Addr)(hne:l≠it)(its:Array Value) :
  Draws prog w A it [it,l] its.size (λi v=>its[i]? = some v) (λi h=>h.IsTupleIter it l i/\h.IsTuple l its) where
 live:=λ_ _ st=>let ⟨o,ho,_⟩:=st.1;⟨o,ho⟩
 frame:=λ_ _ _ st hk=>⟨(let ⟨o,ho,r⟩:=st.1;⟨o,hk it (by simp) o ho,r⟩),(let ⟨o,ho,r⟩:=st.2;⟨o,hk l (by simp) o ho,r⟩)⟩
 item:=λi s Q E hi st q=>At st.1 st.2 (x:=its[i]) (by simp[hi]) λg a b=>q _ g s.toks (by simp[hi]) ⟨a,st.2.extBut b.extBut hne⟩ b
 done:=λs Q E st q=>qz hh st.1 st.2 (by simp) q
section
variable {prog:Program}{w:World}{A:Around}{E:Value->Shared->Prop}{s:Shared}{z TI TO i1 i2:Addr}{f1 f2:List Addr}{n1 n2 k:Nat}{P1 P2:Nat->Value->Prop}{T1 T2:Nat->Heap->Prop}{a b:Value}
structure lD (z TI TO i1 i2:Addr)(f1 f2:List Addr):Prop where
 tiz:TI≠z
 toz:TO≠z
 tito:TI≠TO
 ti1:TI≠i1
 ti2:TI≠i2
 to1:TO≠i1
 to2:TO≠i2
 z1:z≠i1
 z2:z≠i2
 n12:i1≠i2
 zf1:z∉f1
 zf2:z∉f2
 tf1:TO∉f1
 tf2:TO∉f2
 if1:i2∉f1
 if2:i1∉f2
theorem yj{Q:Value->Shared->Prop}(D1:Draws prog w A i1 f1 n1 P1 T1)(D2:Draws prog w A i2 f2 n2 P2 T2)(Z:lD z TI TO i1 i2 f1 f2)(hz:IsZip s.heap z TI TO .none)(hTI:IsPair s.heap TI (.ref i1) (.ref i2))(hTO:IsPair s.heap TO a b)
  (h1:T1 k s.heap)(h2:T2 k s.heap)(k1:k<n1)(k2:k<n2)
  (hQ:∀x y g tk,P1 k x->P2 k y->IsZip g z TI TO (rawInt s.heap.objs.size)->IsPair g TO x y->T1 (k+1) g->T2 (k+1) g->IsPair g s.heap.objs.size x y->g.objs.size=s.heap.objs.size+1 ->
   (∀c o,c∉[z,TO,i1,i2]->s.heap.get? c=some o->g.get? c=some o)->Q (.ref s.heap.objs.size) { s with heap:=g,toks:=tk }) :
  wpAny (model prog w) A (Builtin.«zip.__next__» ⟨[.ref z],[]⟩) (λfin s'=>∃v,fin=.done (.ret v)/\Q v s') E s:=by
 show wpAny _ _ (field (.ref z) 2 >>= _) _ _ _;refine wpAny_bind (wpAny_field hz rfl (x:=.bool false) rfl ?_);show wpAny _ _ (field (.ref z) 3 >>= _) _ _ _;refine wpAny_bind (wpAny_field hz rfl (x:=.ref TI) rfl ?_);refine wpAny_bind (wpAny_seqItems hTI rfl ?_);show wpAny _ _ (Builtin.SmallTypes.ownedTupleIsFree (.ref z) >>= _) _ _ _;refine wpAny_bind ?_;unfold Builtin.SmallTypes.ownedTupleIsFree;refine wpAny_bind (wpAny_field hz rfl (x:=.none) rfl (wpAny_pure ?_));simp only[if_true];refine wpAny_bind (wpAny_rule ?_);refine wpAny_bind (wpAny_field hz rfl (x:=.ref TO) rfl ?_);refine wpAny_bind (wpAny_setField_rec hz (by simp) λg1 hz1 s1=>?_)
 replace hz1:IsZip g1 z TI TO .ellipsis:=hz1;refine wpAny_bind ?_;simp only[List.zipIdx_cons,List.zipIdx_nil,List.forIn_cons,List.forIn_nil];refine wpAny_bind (wpAny_bind (wpAny_onRaise ?_));show wpAny _ _ (Builtin.SmallTypes.nextOf (.ref i1) >>= _) _ _ _;refine wpAny_bind (D1.item k _ _ _ k1 (D1.frame k _ _ h1 λc hc o e=>s1.extBut _ _ (λz'=>Z.zf1 (z'▸hc)) e) λx g2 tk2 p1 t1 s2=>wpAny_pure ?_);replace s2:Heap.SameBut i1 g1 g2:=s2;have hTO2:IsPair g2 TO a b:=s2.extBut _ _ Z.to1 (s1.extBut _ _ Z.toz hTO);refine wpAny_bind (wpAny_seqItems hTO2 rfl ?_);refine wpAny_bind (wpAny_updateSeq_pair hTO2 λg3 hTO3 s3=>?_);replace hTO3:IsPair g3 TO x b:=hTO3;replace s3:Heap.SameBut TO g2 g3:=s3;refine wpAny_bind (wpAny_letGo (wpAny_pure ?_));refine wpAny_bind (wpAny_bind (wpAny_onRaise ?_));show wpAny _ _ (Builtin.SmallTypes.nextOf (.ref i2) >>= _) _ _ _;have t2':T2 k g3:=D2.frame k _ _ h2 λc hc o e=>s3.extBut _ _ (λz'=>Z.tf2 (z'▸hc)) (s2.extBut _ _ (λz'=>Z.if2 (z'▸hc)) (s1.extBut _ _ (λz'=>Z.zf2 (z'▸hc)) e));refine wpAny_bind (D2.item k _ _ _ k2 t2' λy g4 tk4 p2 t2 s4=>wpAny_pure ?_);replace s4:Heap.SameBut i2 g3 g4:=s4;have hTO4:IsPair g4 TO x b:=s4.extBut _ _ Z.to2 hTO3;refine wpAny_bind (wpAny_seqItems hTO4 rfl ?_);refine wpAny_bind (wpAny_updateSeq_pair hTO4 λg5 hTO5 s5=>?_);replace hTO5:IsPair g5 TO x y:=hTO5;replace s5:Heap.SameBut TO g4 g5:=s5;refine wpAny_bind (wpAny_letGo (wpAny_pure (wpAny_pure ?_)));refine wpAny_bind (wpAny_seqItems hTO5 rfl ?_);refine wpAny_bind (wpAny_newTuple ?_);have hsz:g5.objs.size=s.heap.objs.size:=by rw[s5.1,s4.1,s3.1,s2.1,s1.1]
 have hz5:IsZip g5 z TI TO .ellipsis:=s5.extBut _ _ Z.toz.symm (s4.extBut _ _ Z.z2 (s3.extBut _ _ Z.toz.symm (s2.extBut _ _ Z.z1 hz1)));have k5:∀c o,c∉[z,TO,i1,i2]->s.heap.get? c=some o->g5.get? c=some o:=λc o hc e=>by
  simp only[Y2,Y3,Y4,not_or] at hc;exact s5.extBut _ _ hc.2.1 (s4.extBut _ _ hc.2.2.2 (s3.extBut _ _ hc.2.1 (s2.extBut _ _ hc.2.2.1 (s1.extBut _ _ hc.1 e))))
 have t15:T1 (k+1) g5:=D1.frame _ _ _ t1 λc hc o e=>s5.extBut _ _ (λz'=>Z.tf1 (z'▸hc)) (s4.extBut _ _ (λz'=>Z.if1 (z'▸hc)) (s3.extBut _ _ (λz'=>Z.tf1 (z'▸hc)) e));have t25:T2 (k+1) g5:=D2.frame _ _ _ t2 λc hc o e=>s5.extBut _ _ (λz'=>Z.tf2 (z'▸hc)) e;have zlt:z<g5.objs.size:=Heap.lt_size hz5;show wpAny _ _ (Builtin.SmallTypes.ownedTupleHandOut (.ref z) (.ref g5.objs.size) >>= _) _ _ _;refine wpAny_bind ?_;unfold Builtin.SmallTypes.ownedTupleHandOut;have hz6:IsZip (g5.push { cls:=.type "tuple",data:=.seq #[x,y] }) z TI TO .ellipsis:=Heap.get?_push_of_some _ hz5;refine wpAny_bind (wpAny_setField_rec hz6 (by simp) λg7 hz7 s7=>?_)
 replace hz7:IsZip g7 z TI TO (rawInt g5.objs.size):=hz7;refine wpAny_setField_rec hz7 (by simp) λg8 hz8 s8=>?_
 replace hz8:IsZip g8 z TI TO (rawInt g5.objs.size):=hz8;have up:∀c o,c≠z->g5.get? c=some o->g8.get? c=some o:=λc o hc e=>s8.extBut _ _ hc (s7.extBut _ _ hc (Heap.get?_push_of_some _ e));have hT8:IsPair g8 g5.objs.size x y:=s8.extBut _ _ (Nat.ne_of_gt zlt) (s7.extBut _ _ (Nat.ne_of_gt zlt) (Heap.get?_push_size _ rfl));have hn8:g8.objs.size=g5.objs.size+1:=by rw[s8.1,s7.1,Heap.size_push]
 rw[hsz] at hz8 hT8 hn8;refine wpAny_pure ⟨_,rfl,?_⟩;show Q (.ref g5.objs.size) _;rw[hsz];exact hQ x y g8 _ p1 p2 hz8 (up _ _ Z.toz hTO5) (D1.frame _ _ _ t15 λc hc o e=>up c o (λz'=>Z.zf1 (z'▸hc)) e) (D2.frame _ _ _ t25 λc hc o e=>up c o (λz'=>Z.zf2 (z'▸hc)) e) hT8 hn8
  λc o hc e=>up c o (λz'=>hc (by simp[z'])) (k5 c o hc e)
theorem BM{Q:Fin->Shared->Prop}(D1:Draws prog w A i1 f1 n1 P1 T1)(D2:Draws prog w A i2 f2 n2 P2 T2)(Z:lD z TI TO i1 i2 f1 f2)(hz:IsZip s.heap z TI TO .none)(hTI:IsPair s.heap TI (.ref i1) (.ref i2))(hTO:IsPair s.heap TO a b)
  (h1:T1 k s.heap)(h2:T2 k s.heap)(hk:k=n1\/(k<n1/\k=n2))
  (hE:∀g tk e,(∀c o,c∉[z,TO,i1,i2]->s.heap.get? c=some o->g.get? c=some o)->(∃o,g.get? e=some o/\o.cls=.type "StopIteration")->E (.ref e) { s with heap:=g,toks:=tk }) :
  wpAny (model prog w) A (Builtin.«zip.__next__» ⟨[.ref z],[]⟩) Q E s:=by
 show wpAny _ _ (field (.ref z) 2 >>= _) _ _ _;refine wpAny_bind (wpAny_field hz rfl (x:=.bool false) rfl ?_);show wpAny _ _ (field (.ref z) 3 >>= _) _ _ _;refine wpAny_bind (wpAny_field hz rfl (x:=.ref TI) rfl ?_);refine wpAny_bind (wpAny_seqItems hTI rfl ?_);show wpAny _ _ (Builtin.SmallTypes.ownedTupleIsFree (.ref z) >>= _) _ _ _;refine wpAny_bind ?_;unfold Builtin.SmallTypes.ownedTupleIsFree;refine wpAny_bind (wpAny_field hz rfl (x:=.none) rfl (wpAny_pure ?_));simp only[if_true];refine wpAny_bind (wpAny_rule ?_);refine wpAny_bind (wpAny_field hz rfl (x:=.ref TO) rfl ?_);refine wpAny_bind (wpAny_setField_rec hz (by simp) λg1 hz1 s1=>?_)
 replace hz1:IsZip g1 z TI TO .ellipsis:=hz1;refine wpAny_bind ?_;simp only[List.zipIdx_cons,List.zipIdx_nil,List.forIn_cons,List.forIn_nil];refine wpAny_bind (wpAny_bind (wpAny_onRaise ?_));show wpAny _ _ (Builtin.SmallTypes.nextOf (.ref i1) >>= _) _ _ _;have t1':T1 k g1:=D1.frame k _ _ h1 λc hc o e=>s1.extBut _ _ (λz'=>Z.zf1 (z'▸hc)) e;rcases hk with rfl|⟨k1,rfl⟩
 .refine wpAny_bind (D1.done _ _ _ t1' λg2 e s2 he=>?_);obtain⟨oe,he1,he2⟩:=he;have hz2:IsZip g2 z TI TO .ellipsis:=s2 _ _ Z.z1 hz1;have hez:e≠z:=λx=>by subst x;rw[hz2] at he1;cases he1;simp at he2
  refine wpAny_setField_rec hz2 (by simp) λg3 _ s3=>hE g3 _ e (λc o hc x=>?_) ⟨oe,s3.extBut _ _ hez he1,he2⟩
  simp only[Y2,Y3,Y4,not_or] at hc;exact s3.extBut _ _ hc.1 (s2 _ _ hc.2.2.1 (s1.extBut _ _ hc.1 x))
 .refine wpAny_bind (D1.item k _ _ _ k1 t1' λx g2 tk2 p1 t1 s2=>wpAny_pure ?_);replace s2:Heap.SameBut i1 g1 g2:=s2;have hTO2:IsPair g2 TO a b:=s2.extBut _ _ Z.to1 (s1.extBut _ _ Z.toz hTO);refine wpAny_bind (wpAny_seqItems hTO2 rfl ?_);refine wpAny_bind (wpAny_updateSeq_pair hTO2 λg3 hTO3 s3=>?_);replace s3:Heap.SameBut TO g2 g3:=s3;refine wpAny_bind (wpAny_letGo (wpAny_pure ?_));refine wpAny_bind (wpAny_bind (wpAny_onRaise ?_));show wpAny _ _ (Builtin.SmallTypes.nextOf (.ref i2) >>= _) _ _ _;have t2':T2 k g3:=D2.frame k _ _ h2 λc hc o e=>s3.extBut _ _ (λz'=>Z.tf2 (z'▸hc)) (s2.extBut _ _ (λz'=>Z.if2 (z'▸hc)) (s1.extBut _ _ (λz'=>Z.zf2 (z'▸hc)) e));refine wpAny_bind (D2.done _ _ _ t2' λg4 e s4 he=>?_);obtain⟨oe,he1,he2⟩:=he;have hz4:IsZip g4 z TI TO .ellipsis:=s4 _ _ Z.z2 (s3.extBut _ _ Z.toz.symm (s2.extBut _ _ Z.z1 hz1));have hez:e≠z:=λx=>by subst x;rw[hz4] at he1;cases he1;simp at he2
  refine wpAny_setField_rec hz4 (by simp) λg5 _ s5=>hE g5 _ e (λc o hc x=>?_) ⟨oe,s5.extBut _ _ hez he1,he2⟩
  simp only[Y2,Y3,Y4,not_or] at hc;exact s5.extBut _ _ hc.1 (s4 _ _ hc.2.2.2 (s3.extBut _ _ hc.2.1 (s2.extBut _ _ hc.2.2.1 (s1.extBut _ _ hc.1 x))))
end
def iw:Bool->Heap->Addr->Addr->Nat->Prop
 | true,h,it,l,i=>h.IsListIter it l i
 | false,h,it,l,i=>h.IsTupleIter it l i
def dU:Bool->Heap->Addr->Array Value->Prop
 | true,h,l,its=>h.IsList l its
 | false,h,l,its=>h.IsTuple l its
def mT(K:W.Frag)(b:Bool)(H:Hp)(l:Addr)(xs:List V):Prop:=vw K H l=some (if b=true then .lst xs else .tup xs)
theorem i7{prog:Program}{w:World}{A:Around}(hh:A.handled=none)(b:Bool)(it l:Addr)(hne:l≠it)(its:Array Value) :
  Draws prog w A it [it,l] its.size (λi v=>its[i]? = some v) (λi h=>iw b h it l i/\dU b h l its):=by
 cases b with
 | true=>exact Draws.list hh it l hne its
 | false=>exact yJ hh it l hne its
theorem iw.at{b:Bool}{h h':Heap}{it l:Addr}{i:Nat}(x:iw b h it l i)(e:∀o,h.get? it=some o->h'.get? it=some o):iw b h' it l i:=by
 cases b with
 | true=>obtain⟨o,ho,r⟩:=x;exact⟨o,e o ho,r⟩
 | false=>obtain⟨o,ho,r⟩:=x;exact⟨o,e o ho,r⟩
theorem iw.obj{b:Bool}{h:Heap}{it l:Addr}{i:Nat}(x:iw b h it l i):∃o,h.get? it=some o /\ ∀v,o.data ≠ .cell v:=by
 cases b with
 | true=>obtain⟨o,ho,_,d⟩:=x;exact⟨o,ho,λv z=>by rw[d] at z;cases z⟩
 | false=>obtain⟨o,ho,_,d⟩:=x;exact⟨o,ho,λv z=>by rw[d] at z;cases z⟩
theorem dU.obj{b:Bool}{h:Heap}{l:Addr}{its:Array Value}(x:dU b h l its):∃o,h.get? l=some o:=by
 cases b with
 | true=>obtain⟨o,ho,_⟩:=x;exact⟨o,ho⟩
 | false=>obtain⟨o,ho,_⟩:=x;exact⟨o,ho⟩
theorem ay.src{X:Cx}{pins:List (Addr×Obj)}{σ:St}{H:Hp}{s:Shared}(I:ay X pins σ H s) {b:Bool}{l:Addr}{xs:List V}(h:mT X.K b H l xs):∃its:List Value,aN xs its/\dU b s.heap l its.toArray/\xs.length<=sizeLine:=by
 cases b with
 | true =>
  obtain⟨its,rv,p,hz⟩:=I.list (jN.of (K:=X.K) (aE h));exact⟨its,rv,p.isList,hz⟩
 | false =>
  obtain⟨its,rv,p,hz⟩:=I.tuple (iA h);exact⟨its,rv,p,hz⟩
theorem mT.inj{K:W.Frag}{b:Bool}{H:Hp}{l:Addr}{xs ys:List V}(h:mT K b H l xs)(g:mT K b H l ys):xs=ys:=by
 unfold mT at h g;rw[h] at g;cases b<;>cases g<;>rfl
def Jk(K:W.Frag)(b1 b2:Bool)(l1 l2:Addr):Hp->List (List V)->Prop:=λH ys=>∃xs zs,mT K b1 H l1 xs/\mT K b2 H l2 zs/\ys=List.zipWith (λx z=>[x,z]) xs zs
section
variable {prog:Program}{w:World}{A:Around}{E:Value->Shared->Prop}{s:Shared}{z TI TO i1 i2 l1 l2:Addr}{k:Nat}{b1 b2:Bool}{u1 u2:Array Value}{a b:Value}
theorem LC{n:Nat}(h1 : @LT.lt Nat _ l1 n)(h2 : @LT.lt Nat _ l2 n):lD (n+4) (n+2) (n+3) n (n+1) [n,l1] [n+1,l2]:=by
 constructor<;>(try simp only[Y2,Y3,Y4,not_or])<;>(try constructor)<;>(intro e;have e':(_:Nat)=_:=e;nofun)
theorem vt{Q:Option Value->Shared->Prop}(hh:A.handled=none)(Z:lD z TI TO i1 i2 [i1,l1] [i2,l2])(n1:l1≠i1)(n2:l2≠i2)(hz:IsZip s.heap z TI TO .none)(hTI:IsPair s.heap TI (.ref i1) (.ref i2))(hTO:IsPair s.heap TO a b)
  (h1:iw b1 s.heap i1 l1 k)(h2:iw b2 s.heap i2 l2 k)(p1:dU b1 s.heap l1 u1)(p2:dU b2 s.heap l2 u2)(k1:k<u1.size)(k2:k<u2.size)
  (hQ:∀x y g tk,u1[k]? = some x->u2[k]? = some y->IsZip g z TI TO (rawInt s.heap.objs.size)->IsPair g TO x y->iw b1 g i1 l1 (k+1)->iw b2 g i2 l2 (k+1)->IsPair g s.heap.objs.size x y->g.objs.size=s.heap.objs.size+1 ->
   (∀c o,c∉[z,TO,i1,i2]->s.heap.get? c=some o->g.get? c=some o)->Q (some (.ref s.heap.objs.size)) { s with heap:=g,toks:=tk }):wpAny (model prog w) A (pyNext (.ref z)) Q E s:=by
 have hT:s.TypeIs (.ref z) "zip":=⟨_,hz,rfl⟩;unfold pyNext;refine wpAny_bind (wpAny_attempt (wpAny_callSpecial?_slot (name:=Str.ofString "__next__") hT F.slot_zip_next (wpAny_call_entry F.slot_zip_next hT F.entry_zip_next ?_ (F.args_zip_next_1 _))));have D1:Draws prog w A.in1 i1 [i1,l1] u1.size _ _:=i7 (A:=A.in1) hh b1 i1 l1 n1 u1;have D2:Draws prog w A.in1 i2 [i2,l2] u2.size _ _:=i7 (A:=A.in1) hh b2 i2 l2 n2 u2;exact yj D1 D2 Z hz hTI hTO ⟨h1,p1⟩ ⟨h2,p2⟩ k1 k2 λx y g tk e1 e2 c1 c2 c3 c4 c5 c6 c7=>wpAny_pure (hQ x y g tk e1 e2 c1 c2 c3.1 c4.1 c5 c6 c7)
theorem yL{Q:Option Value->Shared->Prop}(hh:A.handled=none)(Z:lD z TI TO i1 i2 [i1,l1] [i2,l2])(n1:l1≠i1)(n2:l2≠i2)(hz:IsZip s.heap z TI TO .none)(hTI:IsPair s.heap TI (.ref i1) (.ref i2))(hTO:IsPair s.heap TO a b)
  (h1:iw b1 s.heap i1 l1 k)(h2:iw b2 s.heap i2 l2 k)(p1:dU b1 s.heap l1 u1)(p2:dU b2 s.heap l2 u2)(hk:k=u1.size\/(k<u1.size/\k=u2.size))
  (hQ:∀g tk,(∀c o,c∉[z,TO,i1,i2]->s.heap.get? c=some o->g.get? c=some o)->Q none { s with heap:=g,toks:=tk }):wpAny (model prog w) A (pyNext (.ref z)) Q E s:=by
 have hT:s.TypeIs (.ref z) "zip":=⟨_,hz,rfl⟩;unfold pyNext;refine wpAny_bind (wpAny_attempt (wpAny_callSpecial?_slot (name:=Str.ofString "__next__") hT F.slot_zip_next (wpAny_call_entry F.slot_zip_next hT F.entry_zip_next ?_ (F.args_zip_next_1 _))));have D1:Draws prog w A.in1 i1 [i1,l1] u1.size _ _:=i7 (A:=A.in1) hh b1 i1 l1 n1 u1;have D2:Draws prog w A.in1 i2 [i2,l2] u2.size _ _:=i7 (A:=A.in1) hh b2 i2 l2 n2 u2;refine BM D1 D2 Z hz hTI hTO ⟨h1,p1⟩ ⟨h2,p2⟩ hk λg tk e hk he=>?_;obtain⟨o,ho,hc⟩:=he;refine wpAny_bind (wpAny_isInstance (T:="StopIteration") (b:=true) ⟨o,ho,hc⟩ isSubtype_stop (wpAny_pure (hQ _ _ hk)))
end
theorem ay.turnL{X:Cx}{pins:List (Addr×Obj)}{σ:St}{H:Hp}{s:Shared}{h':Heap}{t':Nat}{ch:List Addr}(I:ay X pins σ H s)(k:∀b o,b∉ch->s.heap.get? b=some o->h'.get? b=some o)(hf:∀b∈ch,kA X pins H b):ay X pins σ H { s with heap:=h',toks:=t' }:=by
 have nch:∀c v,H c=some v->c∉ch:=λc v z hc=>by
  rw[(hf c hc).1] at z;cases z
 refine I.step (g':=s.gens) (d':=s.drawn) (ch:=ch) (λb hb=>?_) (λb o _ _ hc e _=>k b o hc e) (λb o _ _ hc e _=>⟨o.slots,k b o hc e⟩) (λb o _ e n=>n)
  (λb o hc e=>⟨o,k b o hc e⟩) (λb ys e=>e) (λb o u e=>e) (λb ps e=>⟨#[],by rw[e];simp⟩) (λm hm=>?_) (λb u e=>?_) I.bare
 .obtain⟨_,f1,_,f3,f4,f5⟩:=hf b hb;exact⟨f3,f1,f4,f5⟩
 .obtain⟨o,es,ep,ho,r⟩:=hm;exact⟨o,es,ep,k _ o (λz=>(hf _ z).2.1 rfl) ho,r⟩
 .refine (I.hok b u e).stay (λc v hc q=>k c v ?_ q) (λc q=>q) λc ys q=>q;rcases hc with z|z
  .rw[z];exact nch b u e
  .exact nch c _ z
theorem BN{P:Program}{w:World}{K:W.Frag}{elts:List Expr}{x1:Nat}{pos:Pos}{b1 b2:Bool}(z TI TO i1 i2 l1 l2:Addr)(Z:lD z TI TO i1 i2 [i1,l1] [i2,l2])(n1:l1≠i1)(n2:l2≠i2) :
  yo P w K (.Tuple elts x1 pos) (Lg K (Jk K b1 b2 l1 l2)) [z,TO,i1,i2,TI] z (λi h=>IsZip h z TI TO .none/\IsPair h TI (.ref i1) (.ref i2)/\(∃a b,IsPair h TO a b)/\iw b1 h i1 l1 i/\iw b2 h i2 l2 i) where
 mem:=by simp
 obj:=λi h st b hb=>by
  obtain⟨h1,h2,⟨a,c,h3⟩,h4,h5⟩:=st;simp only[Y2,Y3,Y4] at hb;rcases hb with rfl|rfl|rfl|rfl|rfl
  .exact⟨_,h1,λv e=>by cases e⟩
  .exact⟨_,h3,λv e=>by cases e⟩
  .exact h4.obj
  .exact h5.obj
  .exact⟨_,h2,λv e=>by cases e⟩
 keep:=λi h h' st k=>by
  obtain⟨h1,h2,⟨a,c,h3⟩,h4,h5⟩:=st;exact⟨k z (by simp) _ h1,k TI (by simp) _ h2,⟨a,c,k TO (by simp) _ h3⟩,h4.at λo e=>k i1 (by simp) o e,h5.at λo e=>k i2 (by simp) o e⟩
 item:=by
  intro X hP hw hK hc i pins s σ H E I hf st hg;subst hP hw hK;obtain⟨h1,h2,⟨a,c,h3⟩,h4,h5⟩:=st;obtain⟨ys,t,⟨xs,zs,q1,q2,rfl⟩,ht⟩:=hg;have hlt:i<xs.length/\i<zs.length:=by
   have:=(List.getElem?_eq_some_iff.mp ht).1;simp at this;nofun
  obtain⟨u1,r1,p1,z1⟩:=I.src q1;obtain⟨u2,r2,p2,z2⟩:=I.src q2;have e1:=r1.length;have e2:=r2.length;have tx:t=[xs[i]'hlt.1,zs[i]'hlt.2]:=by
   rw[List.getElem?_zipWith,YN hlt.1,YN hlt.2] at ht;exact (Ym ht).symm
  refine vt (I.ok.hd hc) Z n1 n2 h1 h2 h3 h4 h5 p1 p2 (by simp;nofun) (by simp;nofun) λx y g tk ex ey c1 c2 c3 c4 c5 c6 c7=>⟨_,rfl,?_⟩
  refine wpAny_letOwnedTupleGo_zip (s:={ s with heap:=g,toks:=tk }) c1 λg2 d1 d2=>?_
  replace d2:Heap.SameBut z g g2:=d2;have zs':z<s.heap.objs.size:=Heap.lt_size h1;have rx:aY (xs[i]'hlt.1) x:=by
   obtain⟨u,hu,ru⟩:=r1.get (YN hlt.1);rw[List.getElem?_toArray,hu] at ex;cases ex;exact ru
  have ry:aY (zs[i]'hlt.2) y:=by
   obtain⟨u,hu,ru⟩:=r2.get (YN hlt.2);rw[List.getElem?_toArray,hu] at ey;cases ey;exact ru
  have hf4:∀b∈[z,TO,i1,i2],kA X pins H b:=λb hb=>hf b (by simp only[Y2,Y3,Y4] at hb ⊢;rcases hb with e|e|e|e<;>simp[e])
  have I4:ay X pins σ (upd H s.heap.objs.size (.tup t)) { s with heap:=g2,toks:=tk }:=by
   rw[tx];exact I.turnT (its:=[x,y]) (λb o hb e=>d2.extBut _ _ (λe'=>hb (by simp[e'])) (c7 b o hb e)) hf4 (Yq _) (show 2<=sizeLine by decide) (.cons rx (.cons ry .nil)) ⟨_,d2.extBut _ _ (Nat.ne_of_gt zs') c5,rfl,_,rfl⟩
  have fr:=I.hok.fresh (Yq s.heap.objs.size);have nk:=I.newK (Yq s.heap.objs.size);have hTI2:IsPair g2 TI (.ref i1) (.ref i2):=d2.extBut _ _ Z.tiz (c7 TI _ (by simp[Z.tiz,Z.tito,Z.ti1,Z.ti2]) h2)
  refine⟨.ref s.heap.objs.size,_,I4,rfl,⟨_,_,rfl,by rw[cj nk];exact fr,iV (ax.upd fr),by rw[cj nk];exact aV,?_⟩,⟨d1,hTI2,⟨_,_,d2.extBut _ _ Z.toz c2⟩,c3.at λo e=>d2.extBut _ _ Z.z1.symm e,c4.at λo e=>d2.extBut _ _ Z.z2.symm e⟩,λb hb=>?_⟩
  .rintro ys ⟨xs',zs',q1',q2',rfl⟩;cases q1.inj q1';cases q2.inj q2';exact ht
  .have:b<s.heap.objs.size:=by
    simp only[Y2,Y3,Y4] at hb;rcases hb with rfl|rfl|rfl|rfl|rfl
    .exact zs'
    .exact Heap.lt_size h3
    .obtain⟨_,e,_⟩:=h4.obj;exact Heap.lt_size e
    .obtain⟨_,e,_⟩:=h5.obj;exact Heap.lt_size e
    .exact Heap.lt_size h2
   rw[aC (Yf this)];exact (hf b hb).1
 done:=by
  intro X hP hw hK hc i pins s σ H E I hf st hg;subst hP hw hK;obtain⟨h1,h2,⟨a,c,h3⟩,h4,h5⟩:=st;obtain⟨ys,⟨xs,zs,q1,q2,rfl⟩,hl⟩:=hg;obtain⟨u1,r1,p1,z1⟩:=I.src q1;obtain⟨u2,r2,p2,z2⟩:=I.src q2;have e1:=r1.length;have e2:=r2.length;have hk:i=u1.toArray.size\/(i<u1.toArray.size/\i=u2.toArray.size):=by
   rw[List.length_zipWith] at hl;simp only[Yt];nofun
  have hf4:∀b∈[z,TO,i1,i2],kA X pins H b:=λb hb=>hf b (by simp only[Y2,Y3,Y4] at hb ⊢;rcases hb with e|e|e|e<;>simp[e])
  exact yL (I.ok.hd hc) Z n1 n2 h1 h2 h3 h4 h5 p1 p2 hk λg tk k=>⟨rfl,I.turnL k hf4⟩
 self:=λ_ _ _ _ _ st h=>wpAny_pyIter_zip st.1 h
def F3(b:Bool)(l:Addr):Obj:=match b with
 | true=>{ cls:=.type "list_iterator",data:=.fields #[.ref l,.int 0 0] }
 | false=>{ cls:=.type "tuple_iterator",data:=.fields #[.ref l,.int 0 0] }
section
variable {prog:Program}{w:World}{A:Around}{E:Value->Shared->Prop}{s:Shared}
theorem xU{b:Bool}{l:Addr}{u:Array Value}{Q:Value->Shared->Prop}(h:dU b s.heap l u)(q:Q (.ref s.heap.objs.size) { s with heap:=s.heap.push (F3 b l) }):wpAny (model prog w) A (pyIter (.ref l)) Q E s:=by
 cases b with
 | true=>exact wpAny_pyIter_list h q
 | false=>exact wpAny_pyIter_tuple h q
end
theorem dU.push{b:Bool}{h:Heap}{l:Addr}{u:Array Value}(x:dU b h l u)(o:Obj):dU b (h.push o) l u:=by
 cases b with
 | true=>obtain⟨v,e,r⟩:=x;exact⟨v,Heap.get?_push_of_some _ e,r⟩
 | false=>obtain⟨v,e,r⟩:=x;exact⟨v,Heap.get?_push_of_some _ e,r⟩
theorem iw.new{b:Bool}{h:Heap}{it l:Addr}(e:h.get? it=some (F3 b l)):iw b h it l 0:=by
 cases b with
 | true=>exact⟨_,e,rfl,rfl⟩
 | false=>exact⟨_,e,rfl,rfl⟩
abbrev Kr (h:Heap)(b1:Bool)(l1:Addr):Heap:=h.push (F3 b1 l1)
abbrev KB (h:Heap)(b1 b2:Bool)(l1 l2:Addr):Heap:=(Kr h b1 l1).push (F3 b2 l2)
abbrev Ks (h:Heap)(b1 b2:Bool)(l1 l2:Addr):Heap:=(KB h b1 b2 l1 l2).push { cls:=.type "tuple",data:=.seq #[.ref h.objs.size,.ref (Kr h b1 l1).objs.size] }
abbrev Kw (h:Heap)(b1 b2:Bool)(l1 l2:Addr):Heap:=(Ks h b1 b2 l1 l2).push { cls:=.type "tuple",data:=.seq #[.none,.none] }
abbrev Jb (h:Heap)(b1 b2:Bool)(l1 l2:Addr):Heap:=(Kw h b1 b2 l1 l2).push { cls:=.type "zip",data:=.fields #[.none,.bool false,.bool false,.ref (KB h b1 b2 l1 l2).objs.size,.ref (Ks h b1 b2 l1 l2).objs.size] }
theorem vV(b1 b2:Bool)(l1 l2:Addr)(u1 u2:Array Value) :
  Meets (Builtin.«zip.__new__» ⟨[.type "zip",.ref l1,.ref l2],[]⟩) (λ_ R s=>dU b1 s.heap l1 u1/\dU b2 s.heap l2 u2/\R (.ok (.ret (.ref (Kw s.heap b1 b2 l1 l2).objs.size))) { s with heap:=Jb s.heap b1 b2 l1 l2 }) :=
 .of_wp λprog w A R s h=>by
  obtain⟨hp,g,d,tk,os⟩:=s;obtain⟨q1,q2,h⟩:=h;have hsub:=sub_zip;have y1:dU b1 (Shared.heap ⟨hp,g,d,tk,os⟩) l1 u1:=q1;have y2:dU b2 (Shared.heap ⟨hp.push (F3 b1 l1),g,d,tk,os⟩) l2 u2:=dU.push q2 _
  wp_walk using xU y1,xU y2
  exact⟨_,rfl,h⟩
section
variable {prog:Program}{w:World}{A:Around}{E:Value->Shared->Prop}{s:Shared}
theorem J9{b1 b2:Bool}{l1 l2:Addr}{u1 u2:Array Value}{Q:Value->Shared->Prop}(q1:dU b1 s.heap l1 u1)(q2:dU b2 s.heap l2 u2)
  (h:∀g,IsZip g (s.heap.objs.size+4) (s.heap.objs.size+2) (s.heap.objs.size+3) .none->IsPair g (s.heap.objs.size+2) (.ref s.heap.objs.size) (.ref (s.heap.objs.size+1))->IsPair g (s.heap.objs.size+3) .none .none ->
   iw b1 g s.heap.objs.size l1 0->iw b2 g (s.heap.objs.size+1) l2 0->(∀c o,s.heap.get? c=some o->g.get? c=some o)->Q (.ref (s.heap.objs.size+4)) { s with heap:=g }) :
  wpAny (model prog w) A (call (.type "zip") [.ref l1,.ref l2]) Q E s:=by
 refine callType_new F.called_zip ∅ (F.typeCall_zip_2 _ _) (F.newCall_zip_2 _ _) (λobj=>F.args_object_init_3 obj _ _) F.entry_zip_new (vV b1 b2 l1 l2 u1 u2) ⟨q1,q2,?_⟩;have v1:(Kr s.heap b1 l1).objs.size=s.heap.objs.size+1:=Heap.size_push ..;have v2:(KB s.heap b1 b2 l1 l2).objs.size=s.heap.objs.size+2:=by rw[Heap.size_push,v1]
 have v3:(Ks s.heap b1 b2 l1 l2).objs.size=s.heap.objs.size+3:=by rw[Heap.size_push,v2]
 have v4:(Kw s.heap b1 b2 l1 l2).objs.size=s.heap.objs.size+4:=by rw[Heap.size_push,v3]
 have g5:(Jb s.heap b1 b2 l1 l2).get? (Kw s.heap b1 b2 l1 l2).objs.size=some _:=Heap.get?_push_size _ rfl;have g4:(Jb s.heap b1 b2 l1 l2).get? (Ks s.heap b1 b2 l1 l2).objs.size=some _:=Heap.get?_push_of_some _ (Heap.get?_push_size _ rfl);have g3:(Jb s.heap b1 b2 l1 l2).get? (KB s.heap b1 b2 l1 l2).objs.size=some _:=Heap.get?_push_of_some _ (Heap.get?_push_of_some _ (Heap.get?_push_size _ rfl));have nf:∀b l,(F3 b l).isFreed=false:=λb l=>by cases b<;>rfl
 have g2:(Jb s.heap b1 b2 l1 l2).get? (Kr s.heap b1 l1).objs.size=some (F3 b2 l2):=Heap.get?_push_of_some _ (Heap.get?_push_of_some _ (Heap.get?_push_of_some _ (Heap.get?_push_size _ (nf _ _))));have g1:(Jb s.heap b1 b2 l1 l2).get? s.heap.objs.size=some (F3 b1 l1):=Heap.get?_push_of_some _ (Heap.get?_push_of_some _ (Heap.get?_push_of_some _ (Heap.get?_push_of_some _ (Heap.get?_push_size _ (nf _ _)))));show _/\_;rw[v2,v3,v4] at g5;rw[v1,v2] at g3;rw[v3] at g4;rw[v1] at g2;rw[v4];exact⟨⟨_,g5,rfl⟩,h _ g5 g3 g4 (.new g1) (.new g2) λc o x=>Heap.get?_push_of_some _ (Heap.get?_push_of_some _ (Heap.get?_push_of_some _ (Heap.get?_push_of_some _ (Heap.get?_push_of_some _ x))))⟩
end
def Di(K:W.Frag)(ta:TA):TI:=λσ H R=>ta σ H λvs H1=>∃a b,vs=[.ref a,.ref b] /\ ∃c d,(∃xs,mT K c H1 a xs)/\(∃ys,mT K d H1 b ys)/\R (Lg K (Jk K c d a b)) H1
theorem IH{X:Cx}{elts:List Expr}{x1:Nat}{tp p pos:Pos}{a b:Expr}{ta:TA}(hg:Gl X "zip") (hm:X.mg "zip" = none) (ha:PA X [a,b] ta)(hs:starEach [a,b] X.env=[(false,eval a X.env),(false,eval b X.env)]:=by rfl)(hs2:starEach [b] X.env=[(false,eval b X.env)]:=by rfl) :
  PI X (.Tuple elts x1 tp) (.Call (.Name "zip" p) [a,b] [] pos) (Di X.K ta):=by
 intro pins s σ H R I h;refine Call_ (iy I hg hm HB (Yr (cw (ha pos pins s σ H _ I h) λus s1 ⟨vs,H1,I1,r1,q1⟩=>?_) (by rw[hs,hs2]) (by rw[hs2];rfl)))
 obtain⟨l1,l2,e,c,d,⟨xs,hx⟩,⟨ys,hy⟩,q⟩:=q1;subst e;cases r1 with
 | cons r rr =>
  cases rr with
  | cons r' rr =>
   cases rr;cases r;cases r';obtain⟨u1,t1,p1,_⟩:=I1.src hx;obtain⟨u2,t2,p2,_⟩:=I1.src hy;refine J9 p1 p2 λg c1 c2 c3 c4 c5 k=>?_;refine wpAny_pyIter_zip (s:={ s1 with heap:=g }) c1 ?_
   have m1:l1<s1.heap.objs.size:=by obtain⟨_,e⟩:=p1.obj;exact Heap.lt_size e
   have m2:l2<s1.heap.objs.size:=by obtain⟨_,e⟩:=p2.obj;exact Heap.lt_size e
   refine⟨_,_,_,_,H1,rfl,I1.kept (t':=s1.toks) k,BN _ _ _ _ _ l1 l2 (LC m1 m2) (Yf m1) (Yf (Nat.lt_succ_of_lt m2)),⟨c1,c2,⟨_,_,c3⟩,c4,c5⟩,λf hf=>?_,q⟩;have hf':s1.heap.objs.size<=f:=by
    simp only[Y2,Y3,Y4] at hf;rcases hf with z|z|z|z|z<;>rw[z]
    .exact Y5 _ 4
    .exact Y5 _ 3
    .exact Yq _
    .exact Y5 _ 1
    .exact Y5 _ 2
   exact I1.fpOk hf' (I1.hok.fresh hf')
theorem IL{X:Cx}{elts:List Expr}{x1:Nat}{tp p pos:Pos}{a b:Expr}{ta:TA}(hg:Gl X "zip") (hm:X.mg "zip" = none) (ha:QA X [a,b] ta)(hs:starEach [a,b] X.env=[(false,eval a X.env),(false,eval b X.env)]:=by rfl)(hs2:starEach [b] X.env=[(false,eval b X.env)]:=by rfl) :
  QI X (.Tuple elts x1 tp) (.Call (.Name "zip" p) [a,b] [] pos) (Di X.K ta):=⟨IH hg hm ha.h hs hs2⟩
section
variable {X:Cx}{pins:List (Addr×Obj)}{σ:St}{H:Hp}{s:Shared}
theorem ay.kitx(I:ay X pins σ H s) {x:V}{u:Value}{n:String}(rx:aY x u)(hn:DB (vw X.K H) x=some n) :
  ∃G:Heap->Prop,PySem.W.KitX X.K u (.type n) G/\G s.heap/\u ≠ .builtin "__main__.__loader__#opaque" /\ vE n:=by
 cases x with
 | non=>cases hn;cases (show u=Value.none from rx);exact⟨_,PySem.W.kitx_none,True.intro,(λz=>nomatch z),.inl rfl⟩
 | bl b=>cases hn;cases (show u=Value.bool b from rx);exact⟨_,PySem.W.kitx_bool,True.intro,(λz=>nomatch z),.inr (.inl rfl)⟩
 | int b=>cases hn;obtain⟨t,q⟩:=(show ∃t,u=Value.int b t from rx);cases q;exact⟨_,PySem.W.kitx_int,True.intro,(λz=>nomatch z),.inr (.inr (.inl rfl))⟩
 | str b=>cases hn;obtain⟨t,q⟩:=(show ∃t,u=Value.str b t from rx);cases q;exact⟨_,PySem.W.kitx_str,True.intro,(λz=>nomatch z),.inr (.inr (.inr (.inl rfl)))⟩
 | flt b=>cases hn
 | byt b=>cases hn
 | ty b=>cases hn
 | ref a =>
  cases (show u=Value.ref a from rx)
  unfold DB at hn;dsimp only at hn;split at hn
  .rename_i xs e
   cases hn;obtain⟨_,_,k,_,h1⟩:=(show bV X.prog X.w H s.heap a (.lst xs) from I.hok a _ (aE e))
   exact⟨_,PySem.W.kitx_list,⟨_,h1,rfl⟩,(λz=>nomatch z),.inr (.inr (.inr (.inr (.inl rfl))))⟩
  .rename_i o xs e
   cases hn;obtain⟨h0,h1⟩:=(show bV X.prog X.w H s.heap a (.frz o (.lst xs)) from I.hok a _ (gh e λ_ z=>by cases z))
   obtain⟨_,_,k,_,h1⟩:=h1;exact⟨_,PySem.W.kitx_list,⟨_,h1,rfl⟩,(λz=>nomatch z),.inr (.inr (.inr (.inr (.inl rfl))))⟩
  .rename_i ys e
   cases hn;obtain⟨its,rv,⟨o,h1,h2,_⟩,hz⟩:=I.tuple (iA e);exact⟨_,PySem.W.kitx_tuple,⟨o,h1,h2⟩,(λz=>nomatch z),.inr (.inr (.inr (.inr (.inr (.inl rfl)))))⟩
  .rename_i kvs e
   cases hn;obtain⟨_,_,vs,_,d⟩:=(show bV X.prog X.w H s.heap a (.dK kvs) from I.hok a _ (gh e λ_ z=>by cases z))
   obtain⟨o,es,ep,h1,h2,_⟩:=d;exact⟨_,PySem.W.kitx_dict,⟨o,h1,h2.1⟩,(λz=>nomatch z),.inr (.inr (.inr (.inr (.inr (.inr rfl)))))⟩
  .cases hn
theorem GW{K:W.Frag}{n:String}(hn:vE n):PySem.W.kitAny K (.type n) [.type "tuple",.type "list"]=some (jh n "tuple" || jh n "list"):=by
 rcases hn with rfl|rfl|rfl|rfl|rfl|rfl|rfl<;>rfl
theorem oZ:dk X (.builtin "isinstance") (λxs H Q=>∃x n p,xs=[x,.ref p]/\vw X.K H p=some (.tup [.ty "tuple",.ty "list"])/\DB (vw X.K H) x=some n/\Q (.bl (jh n "tuple" || jh n "list")) H):=by
 intro pins s σ H xs us Q I r h;obtain⟨x,n,p,rfl,hp,hn,q⟩:=h;obtain⟨u,w',rfl,rx,ry⟩:=tW r;cases ry;obtain⟨G,Z,g,hu,tn⟩:=I.kitx rx hn;obtain⟨its,rv,⟨o,h1,h2,k,h3⟩,hz⟩:=I.tuple (iA hp);obtain⟨oc,od,odt,osl⟩:=o;dsimp only at h2 h3;subst h2 h3;cases rv with
 | cons r1 rv =>
  cases rv with
  | cons r2 rv =>
   cases rv;cases r1;cases r2;exact PySem.W.kia_tup Z I.kIn g h1 (GW tn) hu λtk=>⟨.bl _,H,I.tok tk,rfl,q⟩
theorem wT:∀{bs:List Bool}{us:List Value},aN (bs.map V.bl) us->us=bs.map Value.bool
 | [],us,h=>by cases h;rfl
 | b::bs,us,h=>by
  cases h with
  | cons r rr =>
   cases r;rw[wT rr];rfl
theorem xY{bs:List Bool}:(List.range bs.length).all (λi=>bs.getD i true)=bs.all id:=by
 induction bs with
 | nil=>rfl
 | cons b bs ih =>
  rw[Y6,List.range_succ_eq_map,List.all_cons,List.all_cons,List.all_map];have e:((λi=>(b::bs).getD i true) ∘ Nat.succ)=λi=>bs.getD i true:=by
   funext i;simp
  rw[e,ih];rfl
theorem x9(hh:X.calm=true):dk X (.builtin "all") (λxs H Q=>∃p,xs=[.ref p] /\ ∃bs:List Bool,vw X.K H p=some (.lst (bs.map V.bl))/\Q (.bl (bs.all id)) H):=by
 intro pins s σ H xs us Q I r h;obtain⟨p,rfl,bs,hp,q⟩:=h;cases r with
 | cons r1 rr =>
  cases rr;cases r1;obtain⟨its,rv,pl,hz⟩:=I.list (jN.of (K:=X.K) (aE hp));have e:=wT rv;subst e;have hlt:p<s.heap.objs.size:=by obtain⟨o,n,e1,_⟩:=pl;exact Heap.lt_size e1
  refine call_all_walk (wpAny_pyIter_list pl.isList ⟨s.heap.objs.size,_,_,_,_,_,λi=>bs.getD i true,rfl,Walks.list (show X.A.in1.handled=none from I.ok.hd hh) _ p (Yf hlt) _,⟨⟨_,Heap.get?_push_size _ rfl,rfl,rfl⟩,pl.isList.push _⟩,?_,λh' tk hk=>?_⟩)
  .intro i v s' Q' E' hv hq;have hv':(bs.map Value.bool)[i]? = some v:=by simpa using hv
   rw[YA] at hv';cases hb:bs[i]? with
   | none=>rw[hb] at hv';cases hv'
   | some b =>
    rw[hb] at hv';cases hv';replace hq:Q' (bs.getD i true) s':=hq;rw[Y7,hb] at hq;exact wpAny_truthy_bool hq
  .rw[Yt,YD,xY];refine⟨.bl _,H,I.kept λb o e=>hk b o (λz=>?_) (Heap.get?_push_of_some _ e),rfl,q⟩;rw[List.mem_singleton.mp z] at e;exact absurd (Heap.lt_size e) (Ye _)
end
def DO(K:W.Frag)(a:Addr)(σr:St)(Pv:List V->Hp->Prop):St->Hp->Prop:=λσ H=>(∃y z,σ=y::z::σr) /\ ∃xs,vw K H a=some (.lst xs)/\Pv xs H
theorem yv{K:W.Frag}{R:Hp->List (List V)->Prop}{ps:List (V×V)}{tif:TT}{te:TE}{a:Addr}{x0 x1:Option V}{σr:St}{H0:Hp}{Q:Hp->Prop}(Pv:Nat->List V->Hp->Prop)
  (hl:∀i xs H,i<=ps.length->vw K H a=some (.lst xs)->Pv i xs H->R H (ps.map λp=>[p.1,p.2]))(ha:vw K H0 a=some (.lst []))(h0:Pv 0 [] H0)
  (hs:∀i x y xs H H',i<ps.length->ps[i]? = some (x,y)->vw K H' a=some (.lst xs)->Pv i xs H->ax (vw K H) (vw K H')->tif (some x::some y::σr) H' λb H3=>if b=true then te (some x::some y::σr) H3 (GP K a (DO K a σr (Pv (i+1)) (some x::some y::σr))) else DO K a σr (Pv (i+1)) (some x::some y::σr) H3)
  (hd:∀xs H,vw K H a=some (.lst xs)->Pv ps.length xs H->Q H):kG K (Lg K R) (lN K 2 (jm (gn 0) (jm (gn 1) vj))) tif te a (x0::x1::σr) H0 Q:=by
 refine⟨λi m σ H=>m=ps.length-i/\i<=ps.length/\DO K a σr (Pv i) σ H,⟨ps.length,by simp,YL _,⟨_,_,rfl⟩,_,ha,h0⟩,?_⟩
 rintro i m σ H ⟨rfl,hi,⟨y,z,rfl⟩,xs,hxs,p⟩;have q:=hl i xs H hi hxs p;by_cases hlt:i<ps.length
 .refine .inr ⟨⟨_,_,q,by rw[YA,YN hlt];rfl⟩,DO K a σr (Pv (i+1)),λσ' H' p'=>⟨ps.length-(i+1),(),rfl,hlt,p'⟩,λx H' y=>?_⟩
  obtain⟨b,t,rfl,y1,y2,y3,y4⟩:=y;have e:=y4 _ q;rw[YA,YN hlt] at e;cases e;exact⟨b,rfl,_,y3,rfl,_,_,rfl,_,_,rfl,rfl,hs i _ _ xs H H' hlt (YN hlt) (y2 _ _ hxs) p y2⟩
 .have e:i=ps.length:=();subst e;exact .inl ⟨⟨_,q,by simp⟩,hd xs H hxs p⟩
theorem GP.mk2{K:W.Frag}{a:Addr}{σr:St}{Pv:List V->Hp->Prop}{x y:Option V}{v:V}{H:Hp}{xs:List V}(h:vw K H a=some (.lst xs))(hz:xs.length<sizeLine)
  (q:∀H5,gd a (vw K H) (vw K H5)->vw K H5 a=some (.lst (xs++[v]))->Pv (xs++[v]) H5):GP K a (DO K a σr Pv (x::y::σr)) v H:=⟨xs,h,hz,λH5 B h5=>⟨⟨_,_,rfl⟩,_,h5,q H5 B h5⟩⟩
theorem CM{xs ys:List V}:List.zipWith (λx z=>[x,z]) xs ys=(xs.zip ys).map λp=>[p.1,p.2]:=by
 rw[List.zip,List.map_zipWith]
def D.sm:Nat->D->Bool
 | 0,_=>false
 | n+1,.tup ds=>decide (ds.length<=1000) && ds.all (D.sm n)
 | n+1,.lst ds=>decide (ds.length<=1000) && ds.all (D.sm n)
 | _+1,.dict=>false
 | _+1,_=>true
theorem J5{n:Nat}{q:Int×Int}:(fr q).sm (n+2)=true:=rfl
theorem A5{n:Nat}{qs:List (Int×Int)}(h:qs.length<=1000):(D.lst (qs.map fr)).sm (n+3)=true:=by
 show (decide ((qs.map fr).length<=1000) && (qs.map fr).all (D.sm (n+2)))=true;rw[YD,YK h,Bool.true_and];refine List.all_eq_true.mpr λd hd=>?_;obtain⟨q,_,rfl⟩:=List.mem_map.mp hd;exact J5
theorem IJ{H:Hp}{ds:List D}{xs ys:List V}(r1:aA H ds xs)(r2:aA H ds ys) {i:Nat}{x y:V}(h:(xs.zip ys)[i]? = some (x,y)):∃d,d∈ds/\aO H d x/\aO H d y:=by
 rw[List.getElem?_zip_eq_some] at h;obtain⟨d,e1,q1⟩:=r1.get h.1;obtain⟨d',e2,q2⟩:=r2.get h.2;rw[e1] at e2;cases e2;exact⟨d,YB e1,q1,q2⟩
def wv(q:Int×Int):Rat:=(q.1:Rat)/(q.2:Rat)
theorem aq{b:Int}(h:b≠0):(b:Rat)≠0:=by simpa using h
theorem iE{a b:Int}(hb:b≠0):wv (lo a b)=(a:Rat)/(b:Rat):=by
 have e1:=gA (a:=a) hb;have e2:=fU (a:=a) hb;have hg:=aq (CQ (a:=a) hb);have hd:(lo a b).2≠0:=by have:=(lQ (a:=a) hb).1;nofun
 have hd':=aq hd;have c1:((lo a b).1:Rat)*(lg a b:Rat)=(a:Rat):=by
  have:=Yn (λi:Int=>(i:Rat)) e1;simpa using this
 have c2:((lo a b).2:Rat)*(lg a b:Rat)=(b:Rat):=by
  have:=Yn (λi:Int=>(i:Rat)) e2;simpa using this
 unfold wv;rw[<-c1,<-c2];grind
theorem xR{a b c:Int}(h:b∣a*c)(hg:Int.gcd a b=1):b∣c:=by
 have h1:b.natAbs∣a.natAbs*c.natAbs:=by
  rw[<-YW];exact Int.natAbs_dvd_natAbs.mpr h
 have h2:Nat.Coprime b.natAbs a.natAbs:=by
  unfold Nat.Coprime;rw[Nat.gcd_comm];exact hg
 exact Int.natAbs_dvd_natAbs.mp (Y8 h2 h1)
theorem sk{p q:Int×Int}(hp:Fq p)(hq:Fq q)(h:wv p=wv q):p=q:=by
 have h1:=aq (show p.2≠0 by have:=hp.1;nofun)
 have h2:=aq (show q.2≠0 by have:=hq.1;nofun)
 have e:p.1*q.2=q.1*p.2:=by
  unfold wv at h;have:(p.1:Rat)*(q.2:Rat)=(q.1:Rat)*(p.2:Rat):=⋯;have h3:((p.1*q.2:Int):Rat)=((q.1*p.2:Int):Rat):=by simpa using this
  exact Rat.intCast_inj.mp h3
 have d1:p.2∣q.2:=by
  have:p.2∣p.1*q.2:=⟨q.1,by rw[e,Y9]⟩
  exact xR this hp.2
 have d2:q.2∣p.2:=by
  have:q.2∣q.1*p.2:=⟨p.1,by rw[<-e,Y9]⟩
  exact xR this hq.2
 have e2:p.2=q.2:=Int.dvd_antisymm (YU hp.1) (YU hq.1) d1 d2;rw[e2] at e;have e1:p.1=q.1:=Xa (by have:=hq.1;nofun) e
 exact Prod.ext e1 e2
theorem HV{p q:Int×Int}(hp:p.2≠0)(hq:q.2≠0):wv (nU p q)=wv p+wv q:=by
 unfold nU;rw[iE (Xb hp hq)];unfold wv;have h1:=aq hp;have h2:=aq hq;simp only[Xc,Xd];grind
def zf(p q:Int×Int):Int×Int:=lo (p.1*q.1) (p.2*q.2)
theorem Et{p q:Int×Int}(hp:Fq p)(hq:Fq q):Fq (zf p q):=lQ (by have:=Y1 hp.1 hq.1;nofun)
theorem ET{p q:Int×Int}{m n:Nat}(hp:Fq p)(hq:Fq q)(h1:Bq m p)(h2:Bq n q):Bq (m+n) (zf p q):=sN (by have:=Y1 hp.1 hq.1;nofun) (h1.1.mul h2.1) (h1.2.mul h2.2)
theorem GV{p q:Int×Int}(hp:p.2≠0)(hq:q.2≠0):wv (zf p q)=wv p*wv q:=by
 unfold zf;rw[iE (Xb hp hq)];unfold wv;have h1:=aq hp;have h2:=aq hq;simp only[Xd];grind
section
variable {X:Cx}
theorem jQ:Fn X .Mult (λx y H Q=>∃i j,x=.int i/\y=.int j/\IntMulOk i j/\Q (.int (i*j)) H):=by
 intro pins s σ H x y v u Q I r1 r2 h;obtain⟨i,j,rfl,rfl,m,q⟩:=h;obtain⟨t,rfl⟩:=r1;obtain⟨t',rfl⟩:=r2;exact imul_int ⟨.int _,H,I.tok _,⟨_,rfl⟩,q⟩ m
theorem tJ{st:Stmt}:QS X st oH:=⟨zO⟩
end
theorem uB{K:W.Frag}{J:It}{its:List V}{ps:List (V×V)}{tif:TT}{te:TE}{a:Addr}{x0 x1:Option V}{σr:St}{H0:Hp}{Q:Hp->Prop}(Pv:Nat->List V->Hp->Prop)(hlen:its.length=ps.length)
  (hl:∀i xs H,i<=its.length->vw K H a=some (.lst xs)->Pv i xs H->mW J H its /\ ∀(j:Nat)(x y:V),ps[j]? = some (x,y) -> ∃p:Addr,its[j]? = some (V.ref p)/\vw K H p=some (HO.tup [x,y]))(ha:vw K H0 a=some (.lst []))(h0:Pv 0 [] H0)
  (hs:∀i x y xs H,i<ps.length->ps[i]? = some (x,y)->vw K H a=some (.lst xs)->Pv i xs H->tif (some x::some y::σr) H λb H3=>if b=true then te (some x::some y::σr) H3 (GP K a (DO K a σr (Pv (i+1)) (some x::some y::σr))) else DO K a σr (Pv (i+1)) (some x::some y::σr) H3)
  (hd:∀xs H,vw K H a=some (.lst xs)->Pv ps.length xs H->Q H):kG K J (lN K 2 (jm (gn 0) (jm (gn 1) vj))) tif te a (x0::x1::σr) H0 Q:=by
 refine⟨λi m σ H=>m=ps.length-i/\i<=ps.length/\DO K a σr (Pv i) σ H,⟨ps.length,by simp,YL _,⟨_,_,rfl⟩,_,ha,h0⟩,?_⟩
 rintro i m σ H ⟨rfl,hi,⟨y,z,rfl⟩,xs,hxs,p⟩;obtain⟨⟨q1,q2,q3⟩,q4⟩:=hl i xs H () hxs p;by_cases hlt:i<ps.length
 .refine .inr ⟨q1 i (),DO K a σr (Pv (i+1)),λσ' H' p'=>⟨ps.length-(i+1),(),rfl,hlt,p'⟩,λx H' y=>?_⟩;obtain⟨e,y2⟩:=q2 i x H' () y;subst e;obtain⟨b,e1,e2⟩:=q4 i _ _ (YN hlt);rw[e1] at y2;cases y2;exact⟨b,rfl,_,e2,rfl,_,_,rfl,_,_,rfl,rfl,hs i _ _ xs _ hlt (YN hlt) hxs p⟩
 .have e:i=ps.length:=();subst e;exact .inl ⟨hlen▸q3,hd xs H hxs p⟩
theorem fv{g q:Int}(hg:g≠0)(h:g∣q):q.fdiv g*g=q:=by
 obtain⟨m,rfl⟩:=h;rw[Y9 g m,Int.mul_fdiv_cancel m hg]
theorem v8{a b:Int}(ha:0<=a)(hb:1<=b):a<=a*b:=by
 have:=Int.mul_le_mul_of_nonneg_left hb ha;nofun
theorem t7{b q:Int}(hb:0<b)(hq:0<q):0<q.fdiv (Int.gcd b q:Int)/\q.fdiv (Int.gcd b q:Int)<=q/\q∣b*q.fdiv (Int.gcd b q:Int)/\(Int.gcd b q:Int)≠0/\(Int.gcd b q:Int)<=q:=by
 have hg:(Int.gcd b q:Int)≠0:=by
  have:Int.gcd b q≠0:=λe=>by
   have:=(Int.gcd_eq_zero_iff.mp e).2;nofun
  nofun
 have hg0:0<(Int.gcd b q:Int):=();have e:=fv hg (YT b q);have hle:(Int.gcd b q:Int)<=q:=Int.le_of_dvd hq (YT b q);generalize q.fdiv (Int.gcd b q:Int)=c at e;obtain⟨m,hm⟩:=YS b q;have hc:0<c:=by
  refine Int.pos_of_mul_pos_left ?_ hg0;rw[e];exact hq
 refine⟨hc,?_,⟨m,?_⟩,hg,hle⟩
 .rw[<-e];exact v8 () ()
 .rw[<-e];generalize (Int.gcd b q:Int)=g at *
  rw[hm];rw[Int.mul_right_comm,Y9 c g]
theorem Bt.le{n:Nat}{x y:Int}(h:Bt n y)(h0:0<=x)(hl:x<=y):Bt n x:=by
 unfold Bt at *
 nofun
theorem tf{q:Int×Int}{D:Int}{m n:Nat}(hq:Fq q)(hd:q.2∣D)(hD:0<D)(b1:Bt m D)(b2:Bt n q.1):((q.1*D.fdiv q.2:Int):Rat)=wv q*(D:Rat)/\Bt (m+n) (q.1*D.fdiv q.2)/\Bt m (D.fdiv q.2):=by
 have h2:q.2≠0:=by have:=hq.1;nofun
 have e:=fv h2 hd;have hp:0<D.fdiv q.2:=by
  refine Int.pos_of_mul_pos_left ?_ hq.1;rw[e];exact hD
 have hle:D.fdiv q.2<=D:=by
  have:=v8 (YU hp) (show 1<=q.2 by have:=hq.1;nofun)
  rw[e] at this;exact this
 have bm:=b1.le (YU hp) hle;refine⟨?_,(b2.mul bm).mono (),bm⟩;generalize D.fdiv q.2=c at *
 have h3:=aq h2;rw[<-e];unfold wv;simp only[Xd];grind
def cy(x:Rat):Nat->Rat
 | 0=>1
 | k+1=>cy x k*x
theorem qi(x:Rat)(k:Nat):cy x (k+1)=cy x k*x:=rfl
theorem BF{d:D}(h:d.cmp):zm d d=true:=SeqAt.eqv_refl _ h.1
def KN(K:W.Frag)(a:Addr)(n:Nat):It :=
 ⟨λi H=>∃xs,jN K H a xs/\xs.length=n/\i<n,λi H x H'=>H'=H /\ ∀xs,jN K H a xs->xs[n-1-i]? = some x,λi _=>i=n⟩
theorem Ak{P:Program}{w:World}{K:W.Frag}{tg:Expr}(a it:Addr)(n:Nat):yo P w K tg (KN K a n) [it] it (λi h=>h.IsRevIter it a ((n:Int)-1-(i:Int))) where
 mem:=by simp
 obj:=λi h st b hb=>by
  have e:b=it:=by simpa using hb
  subst e;obtain⟨o,e,c,d⟩:=st;exact⟨o,e,λv z=>by rw[d] at z;cases z⟩
 keep:=λi h h' st k=>st.at λo e=>k it (by simp) o e
 item:=by
  intro X hP hw hK hc i pins s σ H E I hf st hg;subst hP hw hK;obtain⟨xs,hq,hl,hi⟩:=hg;obtain⟨its,rv,p,hz⟩:=I.list hq;have hx:xs[n-1-i]? = some (xs[n-1-i]'()):=YN ();obtain⟨u,hu,ru⟩:=rv.get hx;obtain⟨f0,f1,f2,f3,f4,f5⟩:=hf it (by simp)
  have e:(n:Int)-1-(i:Int)=((n-1-i:Nat):Int):=();have st2:s.heap.IsRevIter it a ((n-1-i:Nat):Int):=e▸st;refine wpAny_pyNext_rev_item st2 p.isList (x:=u) (by simpa using hu) λh' st' sb=>?_
  have I1:ay X pins σ H { s with heap:=h' }:=I.turned (t':=s.toks) (λb o hb e=>(sb.2 b hb).trans e) f0 f1 f3 f4 f5
  obtain⟨o,e1,c,d⟩:=id st';refine⟨u,rfl,wG (s:={ s with heap:=h' }) e1 c d ∅ ⟨_,H,I1,ru,⟨rfl,λys hy=>by rw[I.list_inj hy hq];exact hx⟩,?_,λb hb=>(hf b hb).1⟩⟩
  rw[show (n:Int)-1-((i+1:Nat):Int)=((n-1-i:Nat):Int)-1 by nofun]
  exact st'
 done:=by
  intro X hP hw hK hc i pins s σ H E I hf st hg;subst hP hw hK;have hg':i=n:=hg;subst hg';obtain⟨f0,f1,f2,f3,f4,f5⟩:=hf it (by simp)
  have st2:s.heap.IsRevIter it a (-1):=by
   have e:(i:Int)-1-(i:Int) = -1:=();exact e▸st
  exact wpAny_pyNext_rev_end (I.ok.hd hc) st2 λh' eb=>⟨rfl,I.turned (t':=s.toks) (λb o hb e=>eb b o hb e) f0 f1 f3 f4 f5⟩
 self:=λ_ _ _ _ _ st h=>wpAny_pyIter_revIter st h
def DI(K:W.Frag)(ta:TA):TI:=λσ H R=>ta σ H λvs H1=>∃a,vs=[.ref a] /\ ∃xs,vw K H1 a=some (.lst xs)/\R (KN K a xs.length) H1
theorem IS{X:Cx}{tg:Expr}{p pos:Pos}{a:Expr}{ta:TA}(hg:Gl X "reversed") (hm:X.mg "reversed" = none) (ha:PA X [a] ta)(hs:starEach [a] X.env=[(false,eval a X.env)]:=by rfl) :
  PI X tg (.Call (.Name "reversed" p) [a] [] pos) (DI X.K ta):=by
 intro pins s σ H R I h;refine Call_ (iy I hg hm sQ (Yr (cw (ha pos pins s σ H _ I h) λus s1 ⟨vs,H1,I1,r1,q1⟩=>?_) hs rfl));obtain⟨b,e,xs,hx,q⟩:=q1;subst e;cases r1 with
 | cons r rr =>
  cases rr;cases r;obtain⟨its,rv,pl,hz⟩:=I1.list (jN.of (K:=X.K) (aE hx));have hl:=rv.length;refine call_reversed_list pl.isList ?_;have st:(s1.heap.push (revObj b ((its.toArray.size:Int)-1))).IsRevIter s1.heap.objs.size b ((its.toArray.size:Int)-1):=⟨_,Heap.get?_push_size _ rfl,rfl,rfl⟩;refine wpAny_pyIter_revIter (s:={ s1 with heap:=s1.heap.push (revObj b ((its.toArray.size:Int)-1)) }) st ?_
  refine⟨_,[s1.heap.objs.size],_,_,H1,rfl,I1.kept (t':=s1.toks) λc o e=>Heap.get?_push_of_some _ e,Ak b _ xs.length,?_,λc hc=>?_,q⟩
  .show Heap.IsRevIter _ _ _ _;have e:(xs.length:Int)-1-((0:Nat):Int)=(its.toArray.size:Int)-1:=by simp;nofun
   rw[e];exact st
  .have e:c=s1.heap.objs.size:=by simpa using hc
   subst e;exact I1.fpOk (Yq _) (I1.hok.fresh (Yq _))
theorem Bi{X:Cx}{tg:Expr}{p pos:Pos}{a:Expr}{ta:TA}(hg:Gl X "reversed") (hm:X.mg "reversed" = none) (ha:QA X [a] ta)(hs:starEach [a] X.env=[(false,eval a X.env)]:=by rfl) :
  QI X tg (.Call (.Name "reversed" p) [a] [] pos) (DI X.K ta):=⟨IS hg hm ha.h hs⟩
theorem pM{K:W.Frag}{H:Hp}{a:Addr}{xs:List V}(h:vw K H a=some (.lst xs)):mW (KN K a xs.length) H xs.reverse:=by
 refine⟨λi hi=>⟨xs,.of (aE h),rfl,by simpa using hi⟩,λi x H' hi y=>⟨y.1,?_⟩,by show xs.reverse.length=xs.length;simp⟩
 rw[List.getElem?_reverse (by simpa using hi)]
 exact y.2 xs (.of (aE h))
theorem mx{q:Int×Int}(hq:q.2≠0):wv q=0↔q.1=0:=by
 have h2:=aq hq;unfold wv;constructor
 .intro h;have:(q.1:Rat)=0:=⋯;simpa using this
 .intro h;have:(q.1:Rat)=0:=by rw[h];rfl
  rw[this];grind
def cf(qs:List (Int×Int))(k:Nat):Rat:=match qs[k]? with
 | some q=>wv q
 | none=>0
def eO(qs:List (Int×Int)):Prop:=(∀q∈qs,Fq q) /\ ∀q,qs.getLast? = some q->q.1≠0
theorem Fq.ne{q:Int×Int}(h:Fq q):q.2≠0:=by have:=h.1;nofun
theorem dF{qs:List (Int×Int)}{k:Nat}{q:Int×Int}(h:qs[k]? = some q):cf qs k=wv q:=by unfold cf;rw[h]
theorem cm{qs:List (Int×Int)}{k:Nat}(h:qs.length<=k):cf qs k=0:=by unfold cf;rw[List.getElem?_eq_none h]
theorem xu{qs:List (Int×Int)}{n:Nat}(hF:∀q∈qs,Fq q)(hz:∀q∈qs.drop n,q.1=0)(k:Nat):cf (qs.take n) k=cf qs k:=by
 by_cases hk:k<n
 .unfold cf;rw[List.getElem?_take,Yb hk]
 .unfold cf;rw[List.getElem?_take,Yc hk];cases e:qs[k]? with
  | none=>rfl
  | some q =>
   have hm:q∈qs.drop n:=YB (i:=k-n) (by rw[List.getElem?_drop,show n+(k-n)=k by nofun];exact e)
   exact ((mx (hF q (YB e)).ne).mpr (hz q hm)).symm
theorem wk{q:Int×Int}(h:Fq q):q=(0,1)↔q.1=0:=by
 constructor
 .rintro rfl;rfl
 .intro e;obtain⟨h1,h2⟩:=h;rw[e] at h2;have:q.2.natAbs=1:=by simpa using h2
  exact Prod.ext e (by show q.2=1;nofun)
def fu:List Int->Rat->Rat
 | [],_=>0
 | n::ns,x=>(n:Rat)+x*fu ns x
theorem pV{α:Type}{l:List α}{j:Nat}(h:j<l.length):l.drop (l.length-(j+1))=l[l.length-1-j]'()::l.drop (l.length-j):=by
 rw[Xe (show l.length-(j+1)<l.length by nofun)]
 have e1:l.length-(j+1)=l.length-1-j:=();have e2:l.length-(j+1)+1=l.length-j:=();simp only[e1,e2];congr 2
 nofun
def pz(f g:Nat->Int):Nat->Nat->Int
 | 0,_=>0
 | j+1,k=>pz f g j k+if j<=k then f j*g (k-j) else 0
def pr(f g:Nat->Rat):Nat->Nat->Rat
 | 0,_=>0
 | j+1,k=>pr f g j k+if j<=k then f j*g (k-j) else 0
theorem v6{f g:Nat->Int}{F G:Nat->Rat}{c d:Rat}(hf:∀i,(f i:Rat)=F i*c)(hg:∀i,(g i:Rat)=G i*d):∀j k,((pz f g j k:Int):Rat)=pr F G j k*(c*d)
 | 0,k=>by
  show ((0:Int):Rat)=0*(c*d);grind
 | j+1,k=>by
  show (((pz f g j k+if j<=k then f j*g (k-j) else 0:Int)):Rat)=(pr F G j k+if j<=k then F j*G (k-j) else 0)*(c*d)
  rw[Xc,v6 hf hg j k];split
  .rw[Xd,hf,hg];grind
  .grind
theorem hZ{n:Nat}:Bt n 0:=by
 show (0:Int).natAbs<2^n;exact Nat.two_pow_pos n
def qr(f g:Nat->Rat)(j l k:Nat):Rat:=pr f g j k+if j<=k/\k-j<l then f j*g (k-j) else 0
theorem La(f g:Nat->Rat)(j k:Nat):qr f g j 0 k=pr f g j k:=by
 unfold qr;rw[Yc ()];grind
theorem Kk(f g:Nat->Rat)(j l k:Nat):qr f g j (l+1) k=if k=j+l then qr f g j l (j+l)+f j*g l else qr f g j l k:=by
 by_cases h:k=j+l
 .subst h;rw[Yb rfl];unfold qr;rw[Yb (),Yc (),show j+l-j=l by nofun]
  grind
 .rw[Yc h];unfold qr;by_cases h2:j<=k/\k-j<l
  .rw[Yb h2,Yb ()]
  .rw[Yc h2,Yc ()]
theorem Gh{f g:Nat->Rat}{n:Nat}(hg:∀i,n<=i->g i=0)(j k:Nat):qr f g j n k=pr f g (j+1) k:=by
 show _=pr f g j k+if j<=k then f j*g (k-j) else 0
 unfold qr;by_cases h:j<=k
 .rw[Yb h];by_cases h2:k-j<n
  .rw[Yb ⟨h,h2⟩]
  .rw[Yc (),hg _ ()];grind
 .rw[Yc h,Yc ()]
theorem fP{f g:Nat->Rat}{n:Nat}(hg:∀i,n<=i->g i=0):∀(j k:Nat),j+n<=k+1->pr f g j k=0
 | 0,k,_=>rfl
 | j+1,k,h=>by
  show pr f g j k+(if j<=k then f j*g (k-j) else 0)=0
  rw[fP hg j k ()];by_cases h1:j<=k
  .rw[Yb h1,hg _ ()];grind
  .rw[Yc h1];grind
def lz{α:Type}(n:Nat)(h:Nat->α):List α:=(List.range n).map h
theorem mS{α:Type}{n:Nat}{h:Nat->α}:(lz n h).length=n:=by simp[lz]
theorem zH{α:Type}{n:Nat}{h:Nat->α}{i:Nat}(hi:i<n):(lz n h)[i]? = some (h i):=by simp[lz,hi]
def nz(ns:List Int)(k:Nat):Int:=ns.getD k 0
theorem aT{ns:List Int}{k:Nat}{n:Int}(h:ns[k]? = some n):nz ns k=n:=by simp[nz,Y7,h]
theorem aK{ns:List Int}{k:Nat}(h:ns.length<=k):nz ns k=0:=by simp[nz,Y7,List.getElem?_eq_none h]
theorem qp{ns:List Int}{m:Nat}(h:∀n∈ns,Bt m n)(k:Nat):Bt m (nz ns k):=by
 cases e:ns[k]? with
 | none=>rw[aK (List.getElem?_eq_none_iff.mp e)];exact hZ
 | some n=>rw[aT e];exact h n (YB e)
theorem FJ{n k:Nat}{h:Nat->Int}(hk:k<n):nz (lz n h) k=h k:=aT (zH hk)
theorem zB{qs:List (Int×Int)}{ns:List Int}{D:Rat}(hl:ns.length=qs.length)(h:∀(i:Nat)(n:Int)(q:Int×Int),ns[i]? = some n->qs[i]? = some q->(n:Rat)=wv q*D)(i:Nat):((nz ns i:Int):Rat)=cf qs i*D:=by
 by_cases hi:i<qs.length
 .have e1:=YN hi;have e2:=YN (show i<ns.length by nofun)
  rw[aT e2,dF e1];exact h i _ _ e2 e1
 .rw[aK (),cm ()];show ((0:Int):Rat)=0*D;grind
theorem aA.set{H:Hp}:∀{ds:List D}{xs:List V}(i:Nat) {d:D}{x:V},aA H ds xs->aO H d x->aA H (ds.set i d) (xs.set i x)
 | [],xs,i,d,x,h,g=>by
  cases h.nil_at;exact .mk_nil
 | d0::ds,xs,i,d,x,h,g=>by
  obtain⟨x0,r,rfl,h1,h2⟩:=h.cons_at;cases i with
  | zero=>exact .mk_cons g h2
  | succ i=>exact .mk_cons h1 (h2.set i g)
theorem DV{qs:List (Int×Int)}{i k:Nat}{q:Int×Int}(hi:i<qs.length):cf (qs.set i q) k=if k=i then wv q else cf qs k:=by
 by_cases h:k=i
 .subst h;rw[Yb rfl,dF (List.getElem?_set_self hi)]
 .rw[Yc h];unfold cf;rw[List.getElem?_set_ne (Yk h)]
theorem qM{n k:Nat}(h:k<n):uO n (k:Int)=some k:=by
 unfold uO;simp;nofun
theorem ze{X:Cx}:Gj X (λo i H Q=>∃p k,o=.ref p/\i=.int k /\ ∃xs,vw X.K H p=some (.lst xs) /\ ∃v,oi xs k=some v/\Q v H):=by
 intro pins s σ H x y v u Q I rx ry h;obtain⟨p,k,rfl,rfl,xs,hx,z,he,q⟩:=h;cases rx;obtain⟨t,rfl⟩:=ry;obtain⟨its,r,pl,hz⟩:=I.list (jN.of (K:=X.K) (aE hx));obtain⟨j,h1,h2,h3,h4,h5⟩:=qC he;obtain⟨w,ew,rw'⟩:=r.get h2;have hl:=r.length;have hn:=kY;have fin:EP X pins σ Q w s:=⟨z,H,I,rw',q⟩;by_cases h0:0<=k
 .have hj:k.toNat=j:=by
   rw[seqIndex_of h0 h5] at h1;exact Ym h1
  exact wpAny_getItem_list pl.isList h0 () (by rw[hj];simpa using ew) fin
 .have hj:(k+(its.toArray.size:Int)).toNat=j:=by
   rw[seqIndex_neg () h4] at h1;rw[Yt,<-hl];exact Ym h1
  exact wpAny_getItem_list_neg pl.isList () (by rw[Yt]<;>nofun) () (by rw[hj];simpa using ew) fin
theorem jC{K:W.Frag}{H:Hp}{p:Addr}{xs:List V}(h:vw K H p=some (.lst xs)):vM K (.ref p) H (!xs.isEmpty):=.inl ⟨xs,.of (aE h),rfl⟩
theorem ax.none{G G':Hp}{c:Addr}(S:ax G G')(h:G' c=none):G c=none:=by
 cases e:G c with
 | none=>rfl
 | some o=>rw[S _ _ e] at h;cases h
theorem FI:Fq (0,1):=⟨∅,∅⟩
theorem wF:wv (0,1)=0:=(mx (q:=(0,1)) ∅).mpr rfl
theorem sJ{α:Type}(n:Nat)(x:α):(List.replicate n [x]).flatten=List.replicate n x:=by simp
theorem wP{α β:Type}(f:α->β)(n:Nat)(x:α):(List.replicate n x).map f=List.replicate n (f x):=by simp
theorem AL{qs:List (Int×Int)}{n:Nat}(hF:∀q∈qs,Fq q)(hz:∀q,(qs.take n).getLast? = some q->q.1≠0):eO (qs.take n):=⟨λq hq=>hF q (List.mem_of_mem_take hq),hz⟩
theorem dB.chg{G G':Hp}{e:Addr}{qs:List (Int×Int)}{xs:List V}{i:Nat}{q:Int×Int}{v:V}(h:G e=some (.lst xs))(r:aA G (qs.map fr) xs)(rv:aO G (fr q) v)(B:gd e G G')(h':G' e=some (.lst (xs.set i v))):dB G' e (qs.set i q):=by
 refine⟨_,h',?_⟩;have r':=aA.flat_but h B _ _ (jJ qs) r;have:=r'.set i (aO.flat_but h B _ _ (fh q) rv);rw[List.map_set];exact this
theorem Jf(q:Int×Int):(fr q).py=.tuple [.int q.1,.int q.2]:=by
 unfold fr;simp only[D.py,D.pys]
theorem BE:∀(qs:List (Int×Int)),PyData.canLayAll0 (D.pys (qs.map fr))=true/\PyData.depthAll (D.pys (qs.map fr))<=4
 | []=>by
  simp only[YF,D.pys];exact⟨rfl,by simp[PyData.depthAll]⟩
 | c::cs=>by
  obtain⟨h1,h2⟩:=BE cs;simp only[YG,D.pys,Jf,PyData.canLayAll0,PyData.canLay0,h1,PyData.depthAll,PyData.depth];refine⟨∅,?_⟩;nofun
theorem C9(fs:List (Int×Int)):(D.lst (fs.map fr)).cmp:=by
 obtain⟨h1,h2⟩:=BE fs;unfold D.cmp;simp only[D.py,PyData.canLay0,PyData.depth];exact⟨h1,()⟩
structure yB (outer:List Env)(H H':Hp)(h:Heap)(B:Heap):Prop where
 b1:∀b,H' b≠none -> ∃o,B.get? b=some o
 b2:∀b o,h.get? b=some o->H b=none->b∉gK outer->B.get? b=some o
 b3:∀b o,h.get? b=some o->b∉gK outer -> ∃o',B.get? b=some o'
def lj(P:Program)(w:World):vA:=λouter H s E e s' =>
 ∃(a C:Addr)(a0:Value)(B:Heap)(H':Hp),e=.ref a/\s'.os=s.os/\AllBare s'.gens/\Un (gK outer) [] H H' s.heap s'.heap/\iW P w H' s'.heap /\
  Heap.FlyingW B outer a (.ref C) a0 s'.heap/\yB outer H H' s.heap B/\E (.ref C) none H'
theorem bV.there{P:Program}{w:World}{H:Hp}{h:Heap}{a:Addr}{o:HO}(x:bV P w H h a o):∃ob,h.get? a=some ob:=by
 cases o with
 | lst xs=>obtain⟨_,_,_,_,e⟩:=x;exact⟨_,e⟩
 | tup xs=>obtain⟨_,_,_,_,e,_⟩:=x;exact⟨_,e⟩
 | dK kvs=>obtain⟨_,_,_,_,o,_,_,e,_⟩:=x;exact⟨_,e⟩
 | dT kvs=>obtain⟨_,_,_,_,o,_,_,e,_⟩:=x;exact⟨_,e⟩
 | set S n=>obtain⟨o,_,_,_,e,_⟩:=x;exact⟨_,e⟩
 | ins C dx fs=>obtain⟨_,_,_,e,_⟩:=x;exact⟨_,e⟩
 | own y=>obtain⟨_,e⟩:=x;exact⟨_,e⟩
 | xd fs=>obtain⟨_,⟨_,_,_,e,_⟩,_⟩:=x;exact⟨_,e⟩
 | rng lo hi=>obtain⟨_,_,_,e⟩:=x;exact⟨_,e⟩
 | frz ob u=>obtain⟨e,_⟩:=x;exact⟨_,e⟩
 | tbl ps=>exact⟨_,show h.get? a=some _ from x⟩
 | met f y=>exact⟨_,show h.get? a=some _ from x⟩
 | ext φ=>obtain⟨_,e,_⟩:=x;exact e
theorem iL{P:Program}{w:World}{H:Hp}{h h':Heap}(x:iW P w H h)(k:∀b u,H b≠none->h.get? b=some u->h'.get? b=some u):iW P w H h':=λa o e =>
 (x a o e).stay (λb u hb q=>k b u (by
  rcases hb with rfl|z
  .rw[e];simp
  .rw[z];simp) q) (λ_ q=>q) λ_ _ q=>q
section
variable {X:Cx}{pins:List (Addr×Obj)}{σ:St}{H H':Hp}{s s':Shared}
theorem ay.nofrs(I:ay X pins σ H s) {b:Addr}(h:H b≠none):b∉gK X.stack:=λz=>h (I.stkFree b z)
theorem ay.flyB(I:ay X pins σ H s)(hx:X.ex=[])(hs:X.stack=X.env::X.outer)(hfr:X.env.frame=some X.env.locals) {B:Heap}(F:yB X.stack H H' s.heap B):yB X.outer X.H₀ H' X.s₀.heap B:=by
 have nL:∀b o,X.s₀.heap.get? b=some o->b∉gK X.outer->b∉gK X.stack:=λb o e n z=>by
  rcases Y2.mp (I.stkSub b z) with q|q
  .exact absurd (Yd (Heap.lt_size e) (q▸I.ok.above)) (Ye _)
  .exact n q
 have nx:∀b,b∉X.ex:=λb z=>by rw[hx] at z;exact absurd z (by simp)
 refine⟨F.b1,λb o e n nb=>?_,λb o e nb=>?_⟩
 .exact F.b2 b o (I.base.keep b o e n nb (nx b)) (I.base.free b o e n (nx b)) (nL b o e nb)
 .obtain⟨o',e'⟩:=I.base.there b o e (nx b);exact F.b3 b o' e' (nL b o e nb)
theorem ay.flyUn(I:ay X pins σ H s)(hx:X.ex=[])(hs:X.stack=X.env::X.outer)(hfr:X.env.frame=some X.env.locals) {B h h':Heap}(F:yB X.stack H H' s.heap B)(u:Un (gK X.stack) [] H H' s.heap h)(hB:B.StaysIn h')(up:h.UpToSlots h'):Un (gK X.outer) [] X.H₀ H' X.s₀.heap h':=by
 have FB:=I.flyB hx hs hfr F;have nx:∀b,b∉X.ex:=λb z=>by rw[hx] at z;exact absurd z (by simp)
 have n0:∀b:Addr,b∉([]:List Addr):=λb z=>absurd z (by simp)
 have frame:∀b,b∈gK X.outer -> ∀o,X.s₀.heap.get? b=some o -> ∃sl,h'.get? b=some { o with slots:=sl }:=λb hb o e=>by
  have hfree:=I.ok.frf b hb;obtain⟨sl,e1⟩:=I.base.slot b o e hfree hb (nx b);have h1:=I.base.free b o e hfree (nx b);obtain⟨sl2,e2⟩:=u.any e1 h1 (n0 b);obtain⟨_,o',e3,hd⟩:=I.ok.funs.mem hb;rw[e] at e3;cases e3;obtain⟨sl3,e4⟩:=up b _ e2 hd;exact⟨sl3,e4⟩
 refine⟨λb o e n nb _=>hB b o (FB.b2 b o e n nb),λb o e n nb _=>frame b nb o e,λb o e n _=>?_,λb o e _=>?_,λb xs e=>u.tups b xs (I.base.tups b xs e),λb o v e=>u.frzs b o v (I.base.frzs b o v e),λb ps e=>?_⟩
 .obtain⟨o',e1⟩:=I.base.there b o e (nx b);exact u.free b o' e1 (I.base.free b o e n (nx b)) (n0 b)
 .by_cases hb:b∈gK X.outer
  .obtain⟨sl,q⟩:=frame b hb o e;exact⟨_,q⟩
  .obtain⟨o',q⟩:=FB.b3 b o e hb;exact⟨o',hB b o' q⟩
 .obtain⟨m1,e1⟩:=I.base.tbls b ps e;obtain⟨m2,e2⟩:=u.tbls b _ e1;exact⟨m1++m2,by rw[e2,Array.append_assoc]⟩
theorem ay.raised{E:XK}{e C:Addr}{vs:List Value}{h':Heap}{Q':Value->Shared->Prop}{M:Model}(I:ay X pins σ H s)(hx:X.ex=[])(hs:X.stack=X.env::X.outer)(hfr:X.env.frame=some X.env.locals)
  (hm:Heap.MadeExcOf s.heap h' e (.ref C) vs)(hE:E (.ref C) none H) {g:Array GenState}{d:Drawn}{t:Tok}{os:OsState}(hos:os=s.os)(hg:AllBare g) :
  wpAny M X.A (leaving X.env (.ref e)) (λ_ s''=>lj X.prog X.w X.outer X.H₀ X.s₀ E (.ref e) s'') Q' ⟨h',g,d,t,os⟩:=by
 have hfr':X.A.frames=some (X.env::X.outer):=by rw[I.ok.frames,hs]
 have hin:∀env∈X.stack,∀b,env.frame=some b->b∈gK X.stack:=λenv he b hb=>List.mem_filterMap.mpr ⟨env,he,hb⟩;have st:=I.stack;have FF:=PySem.W.funFrames_hide st hin;have hkb:(PySem.W.hideAll s.heap (gK X.stack)).StaysIn s.heap:=λb o q=>PySem.W.of_hideAll _ q;have FF2:s.heap.FunFrames (PySem.W.hideAll s.heap (gK X.stack)) (X.env::X.outer):=by
  have z:=FF;rw[show X.stack=X.env::X.outer from hs] at z ⊢
  exact z
 refine wpAny_leaves_madeW (s:=⟨h',g,d,t,os⟩) hfr' hfr hkb FF2 hm λh2 t2 fl tup nt up=>?_;have up2:s.heap.UpToSlots h2:=(Heap.UpToSlots.of_keeps hm.keeps).trans up;have getB:∀b o,s.heap.get? b=some o->b∉gK X.stack->(PySem.W.hideAll s.heap (gK X.stack)).get? b=some o:=λb o e n=>PySem.W.hideAll_get _ e n;have F:yB X.stack H H s.heap (PySem.W.hideAll s.heap (gK X.stack)):=⟨λb hb=>by
  cases q:H b with
  | none=>exact absurd q hb
  | some u =>
   obtain⟨o,ho⟩:=(I.hok b u q).there;exact⟨o,getB b o ho (I.nofrs hb)⟩,λb o e _ nb=>getB b o e nb,λb o e nb=>⟨o,getB b o e nb⟩⟩
 refine⟨e,C,.ref t2,_,H,rfl,?_,?_,?_,?_,fl,I.flyB hx hs hfr F,hE⟩
 .show os=_;rw[hos];exact I.os
 .exact hg
 .exact I.flyUn hx hs hfr F (h:=s.heap) ⟨λ_ _ q _ _ _=>q,λ_ o q _ _ _=>⟨o.slots,q⟩,λ_ _ _ q _=>q,λ_ o q _=>⟨o,q⟩,λ_ _ q=>q,λ_ _ _ q=>q,λb ps q=>⟨#[],by rw[q];simp⟩⟩ fl.1 up2
 .exact iL I.hok λb u hb q=>fl.1 b u (getB b u q (I.nofrs hb))
theorem ay.passed{E E':XK}{e:Value}{Q':Value->Shared->Prop}{M:Model}(I:ay X pins σ H s)(hx:X.ex=[])(hs:X.stack=X.env::X.outer)(hfr:X.env.frame=some X.env.locals)
  (h:lj X.prog X.w X.stack H s E e s')(hE:∀c o H',E c o H'->E' c o H'):wpAny M X.A (leaving X.env e) (λ_ s''=>lj X.prog X.w X.outer X.H₀ X.s₀ E' e s'') Q' s':=by
 obtain⟨a,C,a0,B,H',rfl,os,gb,un,hok,fl,F,q⟩:=h;have hfr':X.A.frames=some (X.env::X.outer):=by rw[I.ok.frames,hs]
 rw[hs] at fl;refine wpAny_leaves_onW hfr' hfr fl λh2 fl2 up=>?_;refine⟨a,C,a0,B,H',rfl,os.trans I.os,gb,I.flyUn hx hs hfr F un fl2.1 up,iL hok λb u hb z=>?_,fl2,I.flyB hx hs hfr F,hE _ _ _ q⟩;obtain⟨o,ho⟩:=F.b1 b hb;have e1:=fl.1 b o ho;rw[z] at e1;cases e1;exact fl2.1 b _ ho
end
abbrev Fx:List Value:=[.type "ValueError",.type "Exception",.type "BaseException",.type "object"]
def tu(K:W.Frag)(C:Addr):Prop:=PySem.W.excIn K C Fx "ValueError.__new__" = true
theorem tu.obj{K:W.Frag}{h:Heap}{C:Addr}(KX:K.In h)(z:tu K C):∃tl N nm qn bs y1 sn sb ab cl dd j0 j1 j2 j3 j5 mN,
  h.get? C=some (excClassObj nm qn C N bs tl y1 sn sb ab cl dd j0 j1 j2 j3 j5 "ValueError.__new__")/\h.Ns N mN/\mN "__init__" = none/\OwnTail h Fx tl:=by
 unfold tu PySem.W.excIn at z;split at z
 case h_2=>cases z
 case h_1 ob dct cdt sls look =>
  split at z
  case h_2=>cases z
  case h_1 C2 tl j0 j1 j2 j3 nid j5 hmro hsls =>
   rw[YZ,YZ,YZ,YZ,YZ] at z;obtain⟨⟨⟨⟨⟨z1,z2⟩,z3⟩,z4⟩,z5⟩,z6⟩:=z;have c1:=beq_iff_eq.mp z1;have c2:=beq_iff_eq.mp z2;have c6:=beq_iff_eq.mp z6;subst c1 c2;have c3:cdt.hasDel=false:=by simpa using z3
   have c7:sls = #[j0,j1,j2,j3,some (.builtin "ValueError.__new__"),j5]:=by
    cases sls with
    | mk l=>exact Yn Array.mk hsls
   have G:=KX _ _ look;cases cdt with
   | mk nm bs mro ns qn hd sn sb ab cl del =>
    cases hmro;cases c3;rw[c7] at G;exact⟨tl,ns,nm,qn,bs,hd,sn,sb,ab,cl,dct,j0,j1,j2,j3,j5,_,G,.of_isNs (PySem.W.isNs_of_in KX z5),PySem.W.nsMap_none_of_in KX z5 c6,PySem.W.tail_of_in KX z4⟩
def uy(E:XK)(C:Addr)(t:TA):TS:=λ_ σ H=>t σ H λvs H1=>vs.length<=1000/\E (.ref C) none H1
section
variable {P:Program}{w:World}{K:W.Frag}{mg:Str->Option Value}{base:Heap}{N:List Str}{qual:Str}{scope:Scope}{f:Addr}{cd:Value}{A:Around}{outer:List Env}{s₀:Shared}{H₀:Hp}{E:XK}{C:Addr}
theorem Cr{x:Str}{np cpos pos:Pos}{e:Expr}{es:List Expr}{t:TA}(z:tu K C)(hg:Gl (fw (lj P w) P w K mg base N qual scope f cd A outer s₀ H₀ E) x)(hm:mg x=some (.ref C))
  (ha:PA (fw (lj P w) P w K mg base N qual scope f cd A outer s₀ H₀ E) (e::es) t)(hdb:(x==("__debug__" : Str))=false:=by decide)
  (he:starEach (e::es) (envOfC qual scope s₀.heap.objs.size f cd)=(false,eval e (envOfC qual scope s₀.heap.objs.size f cd))::starEach es (envOfC qual scope s₀.heap.objs.size f cd):=by rfl)(hpl:(backTo cpos (starEach es (envOfC qual scope s₀.heap.objs.size f cd))).any (·.1)=false:=by rfl) :
  PS (fw (lj P w) P w K mg base N qual scope f cd A outer s₀ H₀ E) (.Raise (some (.Call (.Name x np) (e::es) [] cpos)) none pos) (uy E C t):=by
 intro pins s σ H D I h;obtain⟨tl,N',nm,qn,bs,y1,sn,sb,ab,cl,dd,j0,j1,j2,j3,j5,mN,hC,hN,hni,T⟩:=z.obj I.ok.mod.kin;refine wpAny_Raise_call_subU (nm:=nm) (q:=qn) (C:=C) (N:=N') (bs:=bs) (bm:=tl) (hdct:=y1) (sn:=sn) (sub:=sb) (ab:=ab) (col:=cl) (dd:=dd) (k0:=j0) (k1:=j1) (k2:=j2) (k3:=j3) (k5:=j5)
  PySem.F.excBase_ValueError ∅ PySem.F.excBase_ValueError (mN:=mN) (T.hasType ∅) (I.ok.hd rfl) ?_ hni (i6 I hg hm ⟨rfl,?_⟩ hdb)
 .show (backTo cpos (starEach (e::es) (envOfC qual scope s₀.heap.objs.size f cd))).any (·.1)=false;rw[he];show (false || (backTo cpos (starEach es (envOfC qual scope s₀.heap.objs.size f cd))).any (·.1))=false
  rw[hpl];rfl
 .have go:=ha cpos pins s σ H _ I h;show wpAny _ _ (evalArgs (.ref C) true (backTo cpos (starEach (e::es) (envOfC qual scope s₀.heap.objs.size f cd))) []) _ _ _;have go':wpAny (model P w) (A.deeper (envOfC qual scope s₀.heap.objs.size f cd)) (spliced (backTo cpos (starEach (e::es) (envOfC qual scope s₀.heap.objs.size f cd)))) _ _ s:=go;rw[he] at go' ⊢;refine Calls.evalArgs_plain (cw go' λus s1 ⟨vs,H1,I1,r,q⟩=>?_);obtain⟨hl,q⟩:=q;refine⟨rfl,?_,I1.bk _ _ hC,hN.keeps I1.bk,T.keeps I1.bk,λh' ea hm'=>?_⟩
  .show us.length<=sizeLine;rw[<-r.length];exact Yg hl ∅
  .exact I1.raised rfl rfl rfl hm' q rfl I1.bare
end
end L2
namespace L2
open PySem PySem.Spec PySem.Calls PyProof.Rows PySem.W PySem.Builtin PySem.Builtin.ObjectAttr PySem.Builtin.Getset_descriptor
section
variable {prog:Program}{w:World}{A:Around}{E:Value->Shared->Prop}{K:Frag}{x C:Addr}{ob:Obj}{hh:Heap}{g:Array GenState}{d:Drawn}{t:Nat}{os:OsState}
structure rP (K:Frag)(C:Addr):Prop where
 ga:findIn K (.ref C) "__getattribute__" = some (some (.builtin "BaseException.__getattribute__"))
 gt:findIn K (.ref C) "__getattr__" = some none
 cl:findIn K (.ref C) "__class__" = some (some (.builtin "object.__class__"))
 mo:mroIn K C (.type "object")=some true
 mb:mroIn K C (.type "BaseException")=some true
 ic:(clsIn K C).isSome=true
theorem GO{R:Result->Shared->Prop}{tp:Value}(Z:rP K C)(X:K.In hh)(hx:hh.get? x=some ob)(hc:ob.cls=.ref C)
  (h:R (.ok (.ret (.ref C))) ⟨hh,g,d,t,os⟩):codeAny (model prog w) A (.call (.builtin "getset_descriptor.__get__") ⟨[.builtin "object.__class__",.ref x,tp],[]⟩) R ⟨hh,g,d,t,os⟩:=by
 have L0:Looks (model prog w) hh (typeOf (.ref x)) (.ref C):=hc▸(Looks.ld hx).andThen .now;have L1:=looks_mroIn (M:=model prog w) X Z.mo;refine codeAny_call_builtin KF.slot_gs.plain KF.entry_gs (KF.slot_gs.check _ _ _ _ _ _ _ _ KF.type_class (KF.args_gs _ _ _) ?_);unfold Builtin.«getset_descriptor.__get__»;unfold descrGet;rw[dga_obj];refine wpAny_bind (wpAny_pure ?_);unfold descrGetter;unfold descrCheckInstance;unfold descrNameAndClass;unfold isInstance;simp only[KF.owner_class]
 repeat lk
 refine And.intro (Code.quiet_builtin _ (by decide +kernel)) (codeAny_builtin KF.entry_class ?_)
 unfold Builtin.«object.__class__»;unfold shownTypeOf
 repeat lk
 exact h
theorem Az{tk:Tok}{Q:Fin->Shared->Prop}(Z:rP K C)(X:K.In hh)(hx:hh.get? x=some ob)(hc:ob.cls=.ref C)(hq:Q (.done (.ret (.ref C))) ⟨hh,g,d,t,os⟩) :
  wpAny (model prog w) A (Builtin.«object.__getattribute__» ⟨[.ref x,.str "__class__" tk],[]⟩) Q E ⟨hh,g,d,t,os⟩:=by
 have hT5:(⟨hh,g,d,t,os⟩ : Shared).TypeIs (.builtin "object.__class__") "getset_descriptor":=F.typeOf_object_class;have f5:=F.typeOf_object_class;have f6:=F.slot_gs_get.lookup;have f7:=F.slot_gs_set.lookup;have L0:Looks (model prog w) hh (typeOf (.ref x)) (.ref C):=hc▸(Looks.ld hx).andThen .now;have L2:=looks_findIn (M:=model prog w) X Z.cl
 repeat (any_goals (first|assumption|(with_reducible refine L0.at ?_)|(with_reducible refine L2.at ?_)|(with_reducible refine wpAny_loadPart_at hx ?_;rw[hc])|wp_step))
 refine GO Z X hx hc ?_
 repeat (any_goals (first|assumption|wp_step))
theorem AF{M:Model}{nv:Value}{Q:Unit->Shared->Prop}(Z:rP K C)(X:K.In hh)(hx:hh.get? x=some ob)(hc:ob.cls=.ref C)(hq:Q PUnit.unit ⟨hh,g,d,t,os⟩) :
  wpAny M A (checkBuiltinCall "BaseException.__getattribute__" ⟨[.ref x,nv],[]⟩) Q E ⟨hh,g,d,t,os⟩:=by
 have b1:splitId "BaseException.__getattribute__" = some ("BaseException", "__getattribute__")/\builtinKind "BaseException.__getattribute__" = some .slot:=⟨by decide +kernel,by decide +kernel⟩
 have b3:=F.args_bexc_ga (.ref x) nv;have L0:Looks M hh (typeOf (.ref x)) (.ref C):=hc▸(Looks.ld hx).andThen .now;have L1:=looks_mroIn (M:=M) X Z.mb;have LI:Looks M hh (isInstance (.ref x) (.type "BaseException")) true:=L0.andThen L1;simp only[checkBuiltinCall,b1.1,b1.2];refine wpAny_bind (LI.at ?_)
 repeat (any_goals (first|assumption|wp_step))
theorem D3{tk:Tok}{R:Result->Shared->Prop}(Z:rP K C)(X:K.In hh)(hx:hh.get? x=some ob)(hc:ob.cls=.ref C)(h:R (.ok (.ret (.ref C))) ⟨hh,g,d,t,os⟩) :
  codeAny (model prog w) A (.call (.builtin "BaseException.__getattribute__") ⟨[.ref x,.str "__class__" tk],[]⟩) R ⟨hh,g,d,t,os⟩ :=
 codeAny_call_builtin F.attr_ValueError.ga.plain F.entry_bexc_ga (AF Z X hx hc (Az Z X hx hc h))
theorem JS{tk:Tok}{Q:Value->Shared->Prop}(Z:rP K C)(X:K.In hh)(hx:hh.get? x=some ob)(hc:ob.cls=.ref C)(hq:Q (.ref C) ⟨hh,g,d,t,os⟩) :
  wpAny (model prog w) A (getAttrBy (.ref x) (.str "__class__" tk) false) Q E ⟨hh,g,d,t,os⟩:=by
 have b3:=F.attr_ValueError.ga.bind (.ref x);have y2:(Value.builtin "BaseException.__getattribute__" == Value.builtin "object.__getattribute__")=false:=by decide +kernel
 have y1:(onTheHeap (Value.ref C) && (Value.builtin "BaseException.__getattribute__" == Value.builtin "object.__getattribute__"))=false:=by rw[y2,Bool.and_false]
 have L0:Looks (model prog w) hh (typeOf (.ref x)) (.ref C):=hc▸(Looks.ld hx).andThen .now;have L1:=looks_findIn (M:=model prog w) X Z.ga;have L2:=looks_findIn (M:=model prog w) X Z.gt;unfold getAttrBy;refine wpAny_holding (wpAny_bind (L0.at (wpAny_bind (L1.at ?_))));show wpAny _ _ (if (onTheHeap (Value.ref C) && (Value.builtin "BaseException.__getattribute__" == Value.builtin "object.__getattribute__"))=true then _ else getAttrByItsOwn _ _ _ _ _ _) _ _ _
 rw[Yc (by rw[y1];simp)]
 unfold getAttrByItsOwn hookBefore;rw[Yb (show onTheHeap (Value.ref C)=true from rfl)]
 refine wpAny_bind (L2.at ?_);unfold callGetattribute boundAndCalled
 repeat (any_goals (first|assumption|wp_step))
 refine D3 Z X hx hc ?_
 repeat (any_goals (first|assumption|wp_step))
theorem DE{Q:Option Value->Shared->Prop}(Z:rP K C)(X:K.In hh)(hx:hh.get? x=some ob)(hc:ob.cls=.ref C)(hq:Q (some (.ref C)) ⟨hh,g,d,t+1,os⟩) :
  wpAny (model prog w) A (getAttr? (.ref x) "__class__") Q E ⟨hh,g,d,t,os⟩:=by
 unfold getAttr?;unfold getAttrBy?;refine wpAny_bind (wpAny_mkText (wpAny_bind (wpAny_attempt (JS Z X hx hc ?_))));exact wpAny_pure hq
def Av(x C:Addr)(h:Heap):Prop:=∃ob,h.get? x=some ob/\ob.cls=.ref C
theorem Cm(Z:rP K C):KitX K (.ref x) (.ref C) (Av x C) where
 ty:=λ_ _ _ ⟨_,h1,h2⟩=>h2▸(Looks.ld h1).andThen .now
 it:=λM h X _=>by
  have z:=Z.ic;cases e:clsIn K C with
  | none=>rw[e] at z;cases z
  | some cd =>
   unfold clsIn at e;split at e
   .rename_i look
    intro A1 Q1 E1 s1 k1 q1;unfold isType;unfold loadHead;refine wpAny_bind (wpAny_loadPart (k1 _ _ (X _ _ look)) (wpAny_pure ?_));exact q1
   .cases e
 ne:=λh tp dd its n sl X htp=>by
  rw[Bool.eq_false_iff];intro q;have e1:C=tp:=by
   have:=beq_iff_eq.mp q;cases this;rfl
  subst e1;have z:=Z.ic;unfold clsIn at z;split at z
  .rename_i look
   have e2:=X _ _ look;rw[htp] at e2;cases e2
  .cases z
 ca:=λ{_ _ _ _ _ s} X ⟨_,h1,h2⟩ k=>by
  obtain⟨hp,g1,d1,t1,os1⟩:=s;exact DE Z X h1 h2 k
end
end L2
namespace L2
open PySem PySem.Spec PyProof.Rows
def PX(X:Cx)(e:Expr)(t:St->Hp->XK->Prop):Prop :=
 ∀(pins:List (Addr×Obj))(s:Shared)(σ:St)(H:Hp)(E:XK),ay X pins σ H s->t σ H E->wpAny (model X.prog X.w) X.A (eval e X.env) (λ_ _=>False) (λev s'=>∃s1 H1,ay X pins σ H1 s1/\lj X.prog X.w X.stack H1 s1 E ev s') s
def Jc(x C:Addr):HO:=.ext (Av x C)
section
variable {X:Cx}{pins:List (Addr×Obj)}{σ:St}{H H':Hp}{s s':Shared}
theorem ay.landed{B h:Heap}(I:ay X pins σ H s)(F:yB X.stack H H' s.heap B)(u:Un (gK X.stack) [] H H' s.heap s'.heap)(hok:iW X.prog X.w H' s'.heap)(hs':B.StaysIn s'.heap)(hB:B.StaysIn h)(up:s'.heap.UpToSlots h)(hos:s'.os=s.os)(hg:AllBare s'.gens) :
  ay X pins σ H' { s' with heap:=h }:=by
 obtain⟨h1,g1,d1,t1,os1⟩:=s';have e0:os1=s.os:=hos;subst e0;have n0:∀b:Addr,b∉([]:List Addr):=λb z=>absurd z (by simp)
 have slots:∀b,b∈gK X.stack -> ∀o,s.heap.get? b=some o->H b=none -> ∃sl,h.get? b=some { o with slots:=sl }:=λb hb o e n=>by
  obtain⟨sl,e1⟩:=u.any e n (n0 b);obtain⟨_,o',e3,hd⟩:=I.stack.mem hb;rw[e] at e3;cases e3;obtain⟨sl2,e2⟩:=up b _ e1 hd;exact⟨sl2,e2⟩
 have nst:∀b,b≠X.env.locals->b∉X.fs->b∉gK X.stack:=λb h1 h2 z=>(Y2.mp (I.stkSub b z)).elim h1 h2;have hfin:iW X.prog X.w H' h:=iL hok λb v hb z=>by
  obtain⟨o,ho⟩:=F.b1 b hb;have e1:=hs' b o ho;have e2:h1.get? b=some v:=z;rw[e2] at e1;cases e1;exact hB b _ ho
 have key:=I.step (h':=h) (g':=g1) (d':=d1) (t':=t1) (ch:=[]) (λ_ z=>nomatch z) (λb o hL hf _ e n=>hB b o (F.b2 b o e n (nst b hL hf)))
  (λb o hL hf _ e n=>?_) (λb o _ e n=>u.free b o e n (n0 b)) (λb o _ e=>?_) u.tups u.frzs u.tbls (λm hm=>?_) hfin hg
 .exact key
 .by_cases hb:b∈gK X.stack
  .exact slots b hb o e n
  .exact⟨o.slots,hB b o (F.b2 b o e n hb)⟩
 .by_cases hb:b∈gK X.stack
  .obtain⟨sl,q⟩:=slots b hb o e (I.stkFree b hb);exact⟨_,q⟩
  .obtain⟨o',q⟩:=F.b3 b o e hb;exact⟨o',hB b o' q⟩
 .obtain⟨o,es,ep,ho,hd,r⟩:=hm;by_cases hb:X.env.locals∈gK X.stack
  .obtain⟨sl,q⟩:=slots _ hb o ho I.free;exact⟨_,es,ep,q,hd,r⟩
  .exact⟨o,es,ep,hB _ o (F.b2 _ o ho I.free hb),hd,r⟩
theorem ay.track{a:Addr}{o:HO}(I:ay X pins σ H s)(ha:H a=none)(h0:X.s₀.heap.get? a=none)(hL:a≠X.env.locals)(hc:∀x c,X.env.cells.lookup x=some c->c≠a)(hp:∀p∈X.pn++pins,p.1≠a)
  (new:bV X.prog X.w (upd H a o) s.heap a o):ay X pins σ (upd H a o) s:=by
 have ne:∀b u,H b=some u->b≠a:=λb u e z=>by rw[z,ha] at e;cases e
 refine⟨I.ok,I.os,I.bare,⟨I.base.keep,I.base.slot,λb ob e n hx=>?_,I.base.there,λb xs e=>?_,λb ob v e=>?_,λb ps e=>?_⟩,I.loc,I.cell,?_,λx c e=>?_,λp hp'=>?_,λb u e=>?_,I.len⟩
 .have:b≠a:=λz=>by rw[z,h0] at e;cases e
  rw[aC this];exact I.base.free b ob e n hx
 .have q:=I.base.tups b xs e;rw[aC (ne b _ q)];exact q
 .have q:=I.base.frzs b ob v e;rw[aC (ne b _ q)];exact q
 .obtain⟨m,q⟩:=I.base.tbls b ps e;exact⟨m,by rw[aC (ne b _ q)];exact q⟩
 .rw[aC (Yk hL)];exact I.free
 .rw[aC (hc x c e)];exact I.freeC x c e
 .obtain⟨q1,q2,q3⟩:=I.pin p hp';exact⟨q1,by rw[aC (hp p hp')];exact q2,q3⟩
 .by_cases hb:b=a
  .subst hb;rw[aV] at e;cases e;exact new
  .rw[aC hb] at e;exact (I.hok b u e).stay (λ_ _ _ q=>q) (λc q=>by rw[aC (ne c _ q)];exact q) λc xs q=>by rw[aC (ne c _ q)];exact q
abbrev Cx.marked (X:Cx)(v:Value):Cx:={ X with A:=X.A.mark (some v),calm:=false,xe:=λ_ _=>False }
theorem ay.mark(I:ay X pins σ H s)(v:Value):ay (X.marked v) pins σ H s :=
 ⟨⟨I.ok.mod,I.ok.kind,I.ok.glob,I.ok.blt,I.ok.above,I.ok.inj,I.ok.has,I.ok.cab,(λz=>nomatch z),I.ok.frames,I.ok.stk,I.ok.exf,I.ok.bs,I.ok.bsz,I.ok.noex,I.ok.exfs,I.ok.funs,I.ok.frf⟩,I.os,I.bare,I.base,I.loc,I.cell,I.free,I.freeC,I.pin,I.hok,I.len⟩
theorem ay.unmark{v:Value}(I:ay (X.marked v) pins σ H s)(ok:X.Ok):ay X pins σ H s:=⟨ok,I.os,I.bare,I.base,I.loc,I.cell,I.free,I.freeC,I.pin,I.hok,I.len⟩
theorem ay.unset{i:Nat}{n:Str}{h:Heap}{v:Option Value}{m:Str->Option Value}{t:Tok}(I:ay X pins σ H s)(hN:X.N.Nodup)(hi:X.N[i]? = some n)
  (hm:s.heap.Ns X.env.locals m)(hl:∀(j:Nat)(x:Str)(w:V),X.N[j]? = some x->σ[j]? = some (some w)->Go X.env.scope x -> ∃u,aY w u/\JR X.env s.heap m x u)
  (hn:h.Ns X.env.locals (λx=>if x=n then v else m x))(hs:Heap.SameBut X.env.locals s.heap h):ay X pins (σ.set i none) H { s with heap:=h,toks:=t }:=by
 have sm:∀b o,b≠X.env.locals->s.heap.get? b=some o->h.get? b=some o:=λb o hb e=>(hs.2 b hb).trans e;have cellK:∀x c,X.env.cells.lookup x=some c -> ∀w,s.heap.IsCell c w->h.IsCell c w:=λx c e w ⟨o,ho,hd⟩=>⟨o,sm c o (I.cne x c e) ho,hd⟩;refine⟨I.ok,I.os,I.bare,⟨λb o e n' hb hx=>?_,λb o e n' hb hx=>?_,I.base.free,λb o e hx=>?_,I.base.tups,I.base.frzs,I.base.tbls⟩,⟨_,hn,λj x w e1 e2 e3=>?_⟩,λx c e=>?_,I.free,I.freeC,λp hp=>?_,λb u e=>?_,by rw[List.length_set];exact I.len⟩
 .have neL:b≠X.env.locals:=Yf (Yd (Heap.lt_size e) I.ok.above);exact sm b o neL (I.base.keep b o e n' hb hx)
 .have neL:b≠X.env.locals:=Yf (Yd (Heap.lt_size e) I.ok.above);obtain⟨sl,q⟩:=I.base.slot b o e n' hb hx;exact⟨sl,sm b _ neL q⟩
 .have neL:b≠X.env.locals:=Yf (Yd (Heap.lt_size e) I.ok.above);obtain⟨o',q⟩:=I.base.there b o e hx;exact⟨o',sm b _ neL q⟩
 .have hij:j≠i:=λz=>by
   subst z;rw[List.getElem?_set_self (by rw[I.len];exact (List.getElem?_eq_some_iff.mp hi).1)] at e2
   cases e2
  rw[List.getElem?_set_ne (Yk hij)] at e2;have hxn:x≠n:=λz=>by
   subst z;exact hij ((List.getElem?_inj (List.getElem?_eq_some_iff.mp e1).1 hN).mp (e1.trans hi.symm))
  obtain⟨u,r,l⟩:=hl j x w e1 e2 e3;refine⟨u,r,?_⟩;rcases l with ⟨k,q⟩|⟨k,c,q,z⟩
  .exact .inl ⟨k,(Yc hxn).trans q⟩
  .exact .inr ⟨k,c,q,cellK x c q _ z⟩
 .obtain⟨w,z⟩:=I.cell x c e;exact⟨w,cellK x c e w z⟩
 .obtain⟨q1,q2,q3,q4,q5⟩:=I.pin p hp;exact⟨sm _ _ q3 q1,q2,q3,q4,q5⟩
 .refine (I.hok b u e).stay (λc w hc q=>sm c w (λz=>?_) q) (λ_ q=>q) λ_ _ q=>q;subst z;rcases hc with z|z
  .rw[<-z,I.free] at e;cases e
  .rw[I.free] at z;cases z
end
def Ij(K:W.Frag)(C0:Addr)(i:Nat)(tb:St->Hp->XK->Prop)(ts:TS):TS:=λD σ H =>
 tb σ H λc _ H1=>∃C,c=.ref C/\PySem.W.exmOne K (.ref C) (.ref C0)=some true /\ ∀a H2,vw K H1 a=none->ax (vw K H1) (vw K H2)->vw K H2 a=some (Jc a C)->ts { nx:=λσ2 H2=>D.nx (σ2.set i none) H2,rt:=λ_ _=>False } (σ.set i (some (.ref a))) H2
section
variable {X:Cx}
theorem Hv{e:Expr}{cls n:Str}{b0:Stmt}{suite:List Stmt}{p1 np hp pos:Pos}{C0:Addr}{i:Nat}{tb:St->Hp->XK->Prop}{ts:TS}(hx0:X.ex=[])(hs:X.stack=X.env::X.outer)(hfr:X.env.frame=some X.env.locals)
  (hb:PX X e tb)(hN:X.N.Nodup)(hi:X.N[i]? = some n)(hloc:X.env.scope.names.lookup n=some .local)(hg:Gl X cls)(hm:X.mg cls=some (.ref C0))(hsu:∀v,qL (X.marked v) (b0::suite) ts)
  (hdb:(cls==("__debug__" : Str))=false:=by decide) (hsw:swapsWith e none p1.line X.env=pure false:=by rfl) :
  PS X (.Try [.Expr e p1] [.ExceptHandler (some (.Name cls np)) (some n) (b0::suite) hp] [] [] pos) (Ij X.K C0 i tb ts):=by
 intro pins s σ H D I h;obtain⟨E1,hE1⟩ : ∃E1:XK,E1=λc _ H1=>∃C,c=.ref C/\PySem.W.exmOne X.K (.ref C) (.ref C0)=some true /\ ∀a H2,vw X.K H1 a=none->ax (vw X.K H1) (vw X.K H2)->vw X.K H2 a=some (Jc a C)->ts { nx:=λσ2 H2=>D.nx (σ2.set i none) H2,rt:=λ_ _=>False } (σ.set i (some (.ref a))) H2:=⟨_,rfl⟩;have h':tb σ H E1:=by rw[hE1];exact h
 refine wpAny_Try_except (wpAny_mono (Q:=λ_ _=>False) (E:=λev s'=>∃s1 H1,ay X pins σ H1 s1/\lj X.prog X.w X.stack H1 s1 E1 ev s') ?_ (λ_ _ z=>z.elim) λev s' hx=>?_)
 .refine wpAny_execs_cons (wpAny_Expr_any (cw (hb pins s σ H E1 I h') λ_ _ z=>z.elim) I.quiet hsw)
 .obtain⟨s1,H1,I1,a,C,a0,B,H',rfl,os,gb,un,hok,fl,F,q⟩:=hx;rw[hE1] at q;obtain⟨C',ec,hex,q⟩:=q;cases ec;have hfr':X.A.frames=some (X.env::X.outer):=by rw[I1.ok.frames,hs]
  have fl0:=fl;rw[hs] at fl;have nB:B.get? a=none:=fl0.2.1;obtain⟨oa,va,ga,ca,da,_⟩:=fl0.first
  have n1:s1.heap.get? a=none:=by
   cases z:s1.heap.get? a with
   | none=>rfl
   | some o =>
    by_cases hf:a∈gK X.stack
    .obtain⟨_,o',e3,hd⟩:=fl0.2.2.1.mem hf;rw[ga] at e3;cases e3;exact absurd da (hd _)
    .obtain⟨o',q'⟩:=F.b3 a o z hf;rw[nB] at q';cases q'
  have n0:X.s₀.heap.get? a=none:=by
   cases z:X.s₀.heap.get? a with
   | none=>rfl
   | some o =>
    obtain⟨o',q'⟩:=I1.base.there a o z (by rw[hx0];simp)
    rw[n1] at q';cases q'
  have nH:H' a=none:=by
   cases z:H' a with
   | none=>rfl
   | some u =>
    obtain⟨o',q'⟩:=F.b1 a (by rw[z];simp)
    rw[nB] at q';cases q'
  have nL:a≠X.env.locals:=λz=>by
   obtain⟨m,⟨o,_,_,ho,_⟩,_⟩:=I1.loc;rw[<-z,n1] at ho;cases ho
  have nC:∀x c,X.env.cells.lookup x=some c->c≠a:=λx c e' z=>by
   obtain⟨v,o,ho,_⟩:=I1.cell x c e';rw[z,n1] at ho;cases ho
  have nP:∀p∈X.pn++pins,p.1≠a:=λp hp' z=>by
   have ho:=(I1.pin p hp').1;rw[z,n1] at ho;cases ho
  refine wpAny_looks_onW hfr' hfr fl λh4 held4 up4=>?_;refine wpAny_landsW held4 λh5 fl5 up5=>?_;have up45:=up4.trans up5;have I5:=I1.landed F un hok fl0.1 fl5.1 up45 os gb;refine wpAny_handleBy_cons (codeAny_handlers_test ?_) (by intro z;cases z)
  refine i6 (X:=X.marked (.ref a)) (I5.mark (.ref a)) hg hm ?_ hdb;obtain⟨o5,g5,c5⟩:=fl5.there;have LT:PySem.W.Looks (model X.prog X.w) h5 (typeOf (.ref a)) (.ref C):=c5▸(PySem.W.Looks.ld g5).andThen .now;refine (PySem.W.exm_one I5.kIn LT hex).here ?_;refine codeAny_handlers_suite_as ?_;refine lands_againW fl5 λh6 fl6 up6=>?_;have I6:=I1.landed F un hok fl0.1 fl6.1 (up45.trans up6) os gb;obtain⟨o6,g6,c6⟩:=fl6.there;have I7:=I6.track (a:=a) (o:=Jc a C) nH n0 nL nC nP ⟨⟨o6,g6,c6⟩,⟨o6,g6⟩,λha hb ⟨o,e1,e2⟩ k=>⟨o,k o e1,e2⟩⟩;have hKa:X.K.lookup a=none:=by
   cases z:X.K.lookup a with
   | none=>rfl
   | some ob =>
    have e1:=I1.bk a ob (I1.ok.mod.kin a ob z);rw[n1] at e1;cases e1
  have hv1:vw X.K H' a=none:=(cj hKa).trans nH;have hv2:vw X.K (upd H' a (Jc a C)) a=some (Jc a C):=(cj hKa).trans aV;refine gH I7 hN hi (.inl hloc) (v:=.ref a) rfl (λs8 I8=>?_) (.inr hloc);refine wpAny_mono ((hsu (.ref a)) pins s8 _ _ _ (I8.mark (.ref a)) (q a _ hv1 (iV (ax.upd nH)) hv2)) (λf s9 z=>?_) λ_ _ z=>z.elim;cases f with
  | next =>
   obtain⟨σ9,H9,I9,q9⟩:=z;have I9':=I9.unmark I.ok;obtain⟨m,hn,hl⟩:=id I9'.loc;refine wpAny_nameGoes_keeps hloc hn (by rw[I.ok.kind];rfl) λh10 v10 hn10 hs10=>?_
   exact⟨_,H9,I9'.unset hN hi hn hl hn10 hs10,q9⟩
  | brk=>obtain⟨_,_,_,z⟩:=z;exact z.elim
  | cont=>obtain⟨_,_,_,z⟩:=z;exact z.elim
  | ret u=>obtain⟨_,_,_,_,_,z⟩:=z;exact z.elim
end
theorem lj.imp{P:Program}{w:World}{outer:List Env}{H:Hp}{s s':Shared}{E E':XK}{e:Value}(h:lj P w outer H s E e s')(k:∀c o H',E c o H'->E' c o H'):lj P w outer H s E' e s':=by
 obtain⟨a,C,a0,B,H',h1,h2,h3,h4,h5,h6,h7,h8⟩:=h;exact⟨a,C,a0,B,H',h1,h2,h3,h4,h5,h6,h7,k _ _ _ h8⟩
structure J6 (P:Program)(w:World)(K:W.Frag)(mg:Str->Option Value)(base:Heap)(k:Nat)(p C:Addr)(s:Shared)(H:Hp)(outer:List Env):Prop where
 fn:∃oc od fd sl,s.heap.get? p=some ⟨oc,od,.func fd,sl⟩
 free:H p=none
 nof:p∉gK outer
 run:∀(A':Around)(outer':List Env)(s':Shared),cI k A'->oW P w K mg base A' outer' s' H->(∀b o,s.heap.get? b=some o->H b=none->b∉gK outer->s'.heap.get? b=some o) ->
  codeAny (model P w) A' (.call (.ref p) ⟨[],[]⟩) (CR (lj P w) outer' P w H s' (λ_ _=>False) (λc o H'=>c=.ref C/\o=none/\ax (vw K H) (vw K H'))) s'
theorem F7{X:Cx}{k i:Nat}{x:Str}{p C:Addr}{p1 p2:Pos}(hx0:X.ex=[])(L:J6 X.prog X.w X.K X.mg X.base k p C X.s₀ X.H₀ X.outer)(hr:cI k X.A)(hi:X.N[i]? = some x)(hv:Go X.env.scope x)
  (hd:(x==("__debug__" : Str))=false:=by decide) (hcd:(x==("__classdict__" : Str))=false:=by decide) :
  PX X (.Call (.Name x p1) [] [] p2) (λσ H E=>H=X.H₀/\σ[i]? = some (some (.ref p)) /\ ∀H',ax (vw X.K X.H₀) (vw X.K H')->E (.ref C) none H'):=by
 intro pins s σ H E I h;obtain⟨rfl,hσ,hE⟩:=h;have nx:∀b,b∉X.ex:=λb z=>by rw[hx0] at z;exact absurd z (by simp)
 refine wpAny_Call_Name_kw ?_;refine cw (Cd (X:=X.wish λev s'=>∃s1 H1,ay X pins σ H1 s1/\lj X.prog X.w X.stack H1 s1 E ev s') hi hv hd hcd pins s σ X.H₀ (λv H1=>v=.ref p/\H1=X.H₀) (I.wish _) ⟨.ref p,hσ,rfl,rfl⟩) (λu s1 z=>?_);obtain⟨v,H1,I1,r,rfl,rfl⟩:=z;have I1:=I1.unwish;cases r;have keep:∀b o,X.s₀.heap.get? b=some o->X.H₀ b=none->b∉gK X.outer->s1.heap.get? b=some o:=λb o e n nf=>I1.base.keep b o e n nf (nx b);obtain⟨oc,od,fd,sl,hfn⟩:=L.fn;refine PySem.W.callWith_F0 ⟨oc,od,fd,sl,keep _ _ hfn L.free L.nof⟩ ?_;refine wpAny_call (codeAny_mono (L.run X.A X.stack s1 hr I1.env0 keep) λr s' hq=>?_);cases r with
 | error e =>
  have hq':lj X.prog X.w X.stack X.H₀ s1 (λc o H'=>c=.ref C/\o=none/\ax (vw X.K X.H₀) (vw X.K H')) e s':=hq;exact⟨s1,X.H₀,I1,hq'.imp λc o H' ⟨q1,q2,q3⟩=>by subst q1 q2;exact hE H' q3⟩
 | ok fl =>
  cases fl with
  | ret u=>obtain⟨_,_,_,_,_,_,_,z⟩:=hq;exact z.elim
  | next=>exact False.elim hq
  | brk=>exact False.elim hq
  | cont=>exact False.elim hq
theorem Hl{CX:vA}{P:Program}{w:World}{K:W.Frag}{mg:Str->Option Value}{base:Heap}{k:Nat}{f:Addr}{name qual:Str}{params:Arguments}{body:List Stmt}{scope:Scope}{dV kV doc pm cdv ct oc:Value}{an od:Option Addr}
  {osl:Array (Option Value)}{N ps:List Str}{A:Around}{outer:List Env}{s:Shared}{H:Hp}{args:Args}{us:List Value}{vs:List V}{Q:VK}{E:XK}
  (lk:K.lookup f=some ⟨oc,od,.func (PySem.W.fnOf name qual params body scope dV kV doc pm an cdv ct),osl⟩)(hcd:PySem.W.codeIn K cdv qual=true)(S:az N ps scope)
  (hr:cI (k+1) A)(e0:oW P w K mg base A outer s H)(hb:BindsTo s (PySem.W.fnOf name qual params body scope dV kV doc pm an cdv ct) args (ps.zip us))(r:aN vs us)(hl:vs.length=ps.length)
  (hbody:cI k (A.deeper (envOfC qual scope s.heap.objs.size f cdv)) -> ∃t,qL (fw CX P w K mg base N qual scope f cdv A outer s H E) body t/\t { nx:=λ_ H'=>Q .non H',rt:=Q } (start N vs) H) :
  codeAny (model P w) A (.call (.ref f) args) (CR CX outer P w H s Q E) s:=by
 have KX:K.In s.heap:=e0.mod.kin.keeps λb o e=>(e0.bs b o e).1;have lim:s.heap.NoLimit:=e0.mod.nolimit.keeps λb o e=>(e0.bs b o e).1;have hkind:∀y∈ps.zip us,scope.names.lookup y.1=some .local\/(scope.names.lookup y.1=some .cell/\((cellsFrom (s.heap.objs.size+1) scope.names []).lookup y.1).isSome=true):=λ⟨n,v⟩ hy=>by
  rcases S.par n (List.of_mem_zip hy).1 with q|q
  .exact .inl q
  .exact .inr ⟨q,PySem.W.cellsFrom_some _ _ _ (.inl q)⟩
 refine codeAny_call_function hr.depth (KX _ _ lk) rfl S.co S.gen rfl (PySem.W.codeRec_of KX hcd) (hb _ _ _ _ ?_);refine wpAny_newFunctionEnv_cells S.kind hkind λenv he s1 x=>?_;subst he;refine⟨lim.keeps x.toInCall.keep,codeAny_func ?_⟩;obtain⟨t,ht,hq⟩:=hbody (hr.deeper _);have I:ay (fw CX P w K mg base N qual scope f cdv A outer s H E) [] (start N vs) H s1:=qh S hr.hd e0 hl r x;refine wpAny_mono (ht [] s1 (start N vs) H _ I hq) (λfl s' hs=>?_) λe s' hs=>hs;have fin:∀{σ':St}{H':Hp}{v:V}{u:Value},ay (fw CX P w K mg base N qual scope f cdv A outer s H E) [] σ' H' s'->aY v u->Q v H'->CE outer P w H s Q u s' :=
  λ{σ' H' v u} J rv q=>⟨v,H',J.os,J.bare,J.base,J.hok,rv,q⟩
 cases fl with
 | ret u =>
  obtain⟨v,σ',H',J,rv,q⟩:=hs;exact fin J rv q
 | next =>
  obtain⟨σ',H',J,q⟩:=hs;exact fin (v:=V.non) (u:=Value.none) J rfl q
 | brk =>
  obtain⟨_,_,_,q⟩:=hs;exact False.elim q
 | cont =>
  obtain⟨_,_,_,q⟩:=hs;exact False.elim q
def tL(c:Addr)(qual:Str):HO:=.ext (λh=>h.CodeRec (.ref c) qual)
def cN(H:Hp)(P:Addr)(qual:Str):Prop:=∃ps,H P=some (.tbl ps)/\TriplesOk ps.toList /\ ∀pos cv,codeAmong pos ps.toList=some cv -> ∃c,cv=.ref c/\H c=some (tL c qual)
theorem oQ{pos:Pos}{a b:Int}{c cv:Value}(l:List Value)(h:TriplesOk l)(z:codeAmong pos (l++[rawInt a,rawInt b,c])=some cv):codeAmong pos l=some cv\/cv=c:=by
 fun_induction TriplesOk l with
 | case1 =>
  simp only[List.nil_append,codeAmong,rawInt] at z;split at z
  .exact .inr (Ym z).symm
  .cases z
 | case2 a' t b' u x rest ih =>
  simp only[List.cons_append,codeAmong] at z ⊢;by_cases hh:(a'==(pos.line:Int) && b'==(pos.col:Int))=true
  .rw[Yb hh] at z ⊢;exact .inl z
  .rw[Yc hh] at z ⊢;exact ih h z
 | case3 l h1 h2=>exact h.elim
theorem ay.tabbed{X:Cx}{pins:List (Addr×Obj)}{σ:St}{H:Hp}{s:Shared}{P c':Addr}{qual:Str}{ps more:Array Value}{h2:Heap}{t':Nat}(I:ay X pins σ H s)(hP:H P=some (.tbl ps))(hx:Heap.ExtBut P s.heap h2)(hc:s.heap.objs.size<=c')
  (hr:h2.CodeRec (.ref c') qual)(hP2:h2.get? P=some { cls:=.none,data:=.fields (ps++more) }):ay X pins σ (upd (upd H P (.tbl (ps++more))) c' (tL c' qual)) { s with heap:=h2,toks:=t' }:=by
 have nc:H c'=none:=I.hok.fresh hc;have cP:c'≠P:=λz=>by rw[z,hP] at nc;cases nc
 have nP:∀b,H b=none->b≠P:=λb n z=>by rw[z,hP] at n;cases n
 have old:∀b o,s.heap.get? b=some o->b≠c':=λb o e z=>by rw[z] at e;exact absurd (Yd (Heap.lt_size e) hc) (Ye _)
 have Js:∀b u,H b=some u->(∀q,u ≠ .tbl q)->upd (upd H P (.tbl (ps++more))) c' (tL c' qual) b=some u:=λb u e nt=>by
  rw[aC (ah e nc),aC (λz=>by rw[z,hP] at e;cases e;exact nt _ rfl)]
  exact e
 refine I.step (h':=h2) (g':=s.gens) (d':=s.drawn) (t':=t') (ch:=[]) (λ_ z=>nomatch z) (λb o _ _ _ e n=>hx b o (nP b n) e) (λb o _ _ _ e n=>⟨o.slots,hx b o (nP b n) e⟩) (λb o _ e n=>?_) (λb o _ e=>?_)
  (λb xs e=>Js b _ e (λ_ z=>by cases z)) (λb o u e=>Js b _ e (λ_ z=>by cases z)) (λb qs e=>?_) (λm hm=>?_) (λb u e=>?_) I.bare
 .rw[aC (old b o e),aC (nP b n)];exact n
 .by_cases hb:b=P
  .exact⟨_,by rw[hb];exact hP2⟩
  .exact⟨o,hx b o hb e⟩
 .by_cases hb:b=P
  .subst hb;rw[hP] at e;cases e;exact⟨more,by rw[aC (Yk cP),aV]⟩
  .exact⟨#[],by rw[aC (ah e nc),aC hb,e];simp⟩
 .obtain⟨o,es,ep,ho,r⟩:=hm;exact⟨o,es,ep,hx _ o (nP _ I.free) ho,r⟩
 .by_cases hb:b=c'
  .subst hb;rw[aV] at e;cases e;obtain⟨c2,oc,vs,t,e1,e2,e3⟩:=id hr;cases e1;exact⟨hr,⟨_,e2⟩,λha hb ⟨c3,o3,v3,t3,q1,q2,q3⟩ k=>by cases q1;exact⟨_,o3,v3,t3,rfl,k o3 q2,q3⟩⟩
  .rw[aC hb] at e;by_cases hp:b=P
   .subst hp;rw[aV] at e;cases e;exact hP2
   .rw[aC hp] at e;refine (I.hok b u e).stay (λc v hc' q=>hx c v (λz=>?_) q) (λc q=>Js c _ q λ_ z=>by cases z) λc xs q=>Js c _ q λ_ z=>by cases z
    rcases hc' with z2|z2
    .exact hp (z2.symm.trans z)
    .rw[z,hP] at z2;cases z2
theorem rQ{env:Env}:∀(l:List (Str×NameKind))(acc:List (Str×Addr)),(∀q∈l,q.2=.free -> ∃c,env.cells.lookup q.1=some c)->(∀x∈acc,env.cells.lookup x.1=some x.2) ->
  ∃r,(forIn l acc (λ(x:Str×NameKind)(cs:List (Str×Addr))=>(if (x.2==NameKind.free)=true then do let c <-cellOf env x.1;pure (ForInStep.yield ((x.1,c)::cs)) else pure (ForInStep.yield cs):Sem (ForInStep (List (Str×Addr))))):Sem (List (Str×Addr)))=pure r /\
   (∀x∈r,env.cells.lookup x.1=some x.2)/\(∀q∈l,q.2=.free -> ∃c,(q.1,c)∈r) /\ ∀x∈acc,x∈r
 | [],acc,_,ha=>⟨acc,rfl,ha,by simp,λ_ z=>z⟩
 | q::l,acc,h,ha=>by
  obtain⟨n,kd⟩:=q;rw[List.forIn_cons];by_cases hk:kd=.free
  .subst hk;obtain⟨c,hc⟩:=h (n,.free) (by simp) rfl
   obtain⟨r,e1,e2,e3,e4⟩:=rQ (env:=env) l ((n,c)::acc) (λq hq=>h q (by simp[hq])) (λx hx=>by
    rcases Y2.mp hx with z|z
    .rw[z];exact hc
    .exact ha x z)
   refine⟨r,?_,e2,λq hq hf=>?_,λx hx=>e4 x (by simp[hx])⟩
   .simp only[cellOf,hc,pure_bind,beq_self_eq_true,if_true];exact e1
   .rcases Y2.mp hq with z|z
    .rw[z];exact⟨c,e4 _ (by simp)⟩
    .exact e3 q z hf
  .obtain⟨r,e1,e2,e3,e4⟩:=rQ (env:=env) l acc (λq hq=>h q (by simp[hq])) ha
   refine⟨r,?_,e2,λq hq hf=>?_,e4⟩
   .have:(kd==NameKind.free)=false:=by simpa using hk
    simp only[this,Bool.false_eq_true,if_false,pure_bind];exact e1
   .rcases Y2.mp hq with z|z
    .rw[z] at hf;exact absurd hf hk
    .exact e3 q z hf
theorem Dp{env:Env}{scope:Scope}(h:∀q∈scope.names,q.2=.free -> ∃c,env.cells.lookup q.1=some c):∃r,closureFor scope env=pure r/\(∀x∈r,env.cells.lookup x.1=some x.2)/\(∀q∈scope.names,q.2=.free -> ∃c,(q.1,c)∈r):=by
 obtain⟨r,e1,e2,e3,_⟩:=rQ (env:=env) scope.names [] h (by simp)
 refine⟨r,?_,e2,e3⟩;unfold closureFor;have e1':=e1
 first
  | (rw[<-e1];simp;done)
  | (simp only[bind_pure];rw[<-e1];rfl)
  | (show (forIn scope.names [] _ >>= pure)=_;rw[bind_pure];rw[<-e1];rfl)
structure xw (X:Cx)(c P:Addr):Prop where
 code:X.env.code=.ref c
 hd:PySem.W.CodeHd X.base c P
 bi:∃bm o,X.mg "__builtins__" = some (.ref bm)/\bm≠builtinsNs/\bm≠mainGlobals/\X.base.get? bm=some o/\o.cls=.type "module" /\ o.dict=some builtinsNs/\o.data=.plain
abbrev jv (X:Cx):Str:=X.env.qual ++ "<lambda>"
theorem Bn{X:Cx}{pins:List (Addr×Obj)}{σ:St}{H:Hp}{s:Shared}{params:Arguments}{body:Expr}{scope:Scope}{pos:Pos}{c P:Addr}{M':Model}{A':Around}{Q:Value->Shared->Prop}{E:Value->Shared->Prop}
  (M:xw X c P)(hdef:defaultsOf params X.env=([],[]))(I:ay X pins σ H s)(hT:cN H P (jv X))(hfree:∀q∈scope.names,q.2=.free->X.env.kindOf q.1=some .cell)
  (k:∀(p c':Addr)(pm ctv:Value)(clos:List (Str×Addr))(H1:Hp)(s1:Shared),(∀x∈clos,X.env.cells.lookup x.1=some x.2)->(∀q∈scope.names,q.2=.free -> ∃c,(q.1,c)∈clos)->ay X pins σ H1 s1->gd P H H1->cN H1 P (jv X) ->
   s1.heap.get? p=some (PySem.W.kla_obj "<lambda>" (jv X) params body scope clos pm c' ctv)->H1 p=none->s.heap.objs.size<=p->H1 c'=some (tL c' (jv X))->Q (.ref p) s1) :
  wpAny M' A' (eval (.Lambda params body scope pos) X.env) Q E s:=by
 obtain⟨clos,hcl,hc1,hc2⟩:=Dp (env:=X.env) (scope:=scope) λq hq hf=>I.ok.has q.1 (.inl (hfree q hq hf));refine PySem.W.kla_eval hdef ?_;obtain⟨ps,hP,ht,hall⟩:=hT;have oP:s.heap.get? P=some (PySem.W.tabObj ps):=I.hok P _ hP;obtain⟨bm,o,b1,b2,b3,b4,b5,b6,b7⟩:=M.bi;have bP:bm≠P:=λz=>by
  have:=(I.bs bm o b4).2;rw[z,hP] at this;cases this
 have gP:mainGlobals≠P:=λz=>by
  obtain⟨og,_,_,eg,_⟩:=I.mod.glob;have:=(I.bs _ og eg).2;rw[z,hP] at this;cases this
 have hb:s.heap.BuiltinsAt X.mg P:=⟨bm,o,b1,b2,b3,bP,I.bk _ _ b4,b5,b6,b7⟩;cases hh:codeAmong pos ps.toList with
 | none =>
  refine PySem.W.kla_makeFunction hcl I.ok.glob (I.mod.glob.keeps I.bk) M.code (M.hd.keeps I.bk) oP ht hh gP hb λc' ctv h' tk hx hge hlt hrec htb=>?_;have I1:=I.tabbed (t':=tk) hP hx hge hrec htb;have I2:=I1.kept (t':=tk) (h':=h'.push (PySem.W.kla_obj "<lambda>" (jv X) params body scope clos ((X.mg "__name__").getD .none) c' ctv)) λb o e=>Heap.get?_push_of_some _ e;have nc:H c'=none:=I.hok.fresh hge;have cP:c'≠P:=λz=>by rw[z,hP] at nc;cases nc
  have hle:s.heap.objs.size<=h'.objs.size:=Yg hge (Yh hlt);refine k _ c' _ ctv clos _ _ hc1 hc2 I2 (λb o hb e=>?_) ⟨_,by rw[aC (Yk cP),aV],?_,λpos' cv z=>?_⟩ (Heap.get?_push_size _ rfl) (I1.hok.fresh (Yq _)) hle aV
  .rw[aC (ah e nc),aC hb];exact e
  .rw[Array.toList_append];exact TriplesOk_snoc _ _ _ _ ht
  .rw[Array.toList_append] at z;rcases oQ _ ht z with q|q
   .obtain⟨c2,e2,e3⟩:=hall pos' cv q;refine⟨c2,e2,?_⟩;rw[aC (ah e3 nc),aC (λz=>by rw[z,hP] at e3;cases e3)]
    exact e3
   .exact⟨c',q,aV⟩
 | some cv =>
  obtain⟨c',rfl,hcO⟩:=hall pos cv hh;refine PySem.W.kla_makeFunctionHit hcl I.ok.glob (I.mod.glob.keeps I.bk) M.code (M.hd.keeps I.bk) oP ht hh hb λctv h' tk hk hsz=>?_;have I1:=I.kept (t':=tk) (h':=h') hk;have I2:=I1.kept (t':=tk) (h':=h'.push (PySem.W.kla_obj "<lambda>" (jv X) params body scope clos ((X.mg "__name__").getD .none) c' ctv)) λb o e=>Heap.get?_push_of_some _ e;exact k _ c' _ ctv clos _ _ hc1 hc2 I2 (λb o _ e=>e) ⟨ps,hP,ht,hall⟩ (Heap.get?_push_size _ rfl) (I1.hok.fresh (Yq _)) hsz hcO
def pF(P:Program)(w:World)(K:W.Frag)(mg:Str->Option Value)(base:Heap)(N:List Str)(qual:Str)(scope:Scope)(p:Addr)(cd:Value)(cl:List (Str×Addr))(A:Around)(outer:List Env)(s:Shared)(H:Hp):Cx where
 prog:=P
 w:=w
 K:=K
 mg:=mg
 base:=base
 A:=A.deeper (PySem.W.envX qual scope s.heap.objs.size p cd cl)
 N:=N
 s₀:=s
 H₀:=H
 env:=PySem.W.envX qual scope s.heap.objs.size p cd cl
 outer:=outer
 stack:=PySem.W.envX qual scope s.heap.objs.size p cd cl::outer
 ex:=[]
 fn:=λ_=>false
 calm:=true
 pn:=[]
 xe:=λ_ _=>False
theorem jg{cl:List (Str×Addr)}{f:Str->Option Addr}(h:∀x∈cl,f x.1=some x.2) {n:Str}{c:Addr}(hm:(n,c)∈cl):cl.lookup n=some c:=by
 induction cl with
 | nil=>cases hm
 | cons q r ih =>
  obtain⟨m,d⟩:=q;rw[List.lookup_cons];by_cases e:n=m
  .subst e;have h1:=h (n,d) (by simp)
   have h2:=h (n,c) hm;rw[h1] at h2;cases h2;simp
  .have:(n==m)=false:=by simpa using e
   rw[this];refine ih (λx hx=>h x (by simp[hx])) ?_
   rcases Y2.mp hm with z|z
   .cases z;exact absurd rfl e
   .exact z
theorem f9{cl:List (Str×Addr)}{n:Str}{c:Addr}(h:cl.lookup n=some c):(n,c)∈cl:=by
 induction cl with
 | nil=>cases h
 | cons q r ih =>
  obtain⟨m,d⟩:=q;rw[List.lookup_cons] at h;by_cases e:(n==m)=true
  .rw[e] at h;cases h;rw[eq_of_beq e];simp
  .have:(n==m)=false:=by simpa using e
   rw[this] at h;exact Yj _ (ih h)
theorem DN{P:Program}{w:World}{K:W.Frag}{mg:Str->Option Value}{base:Heap}{N:List Str}{qual:Str}{scope:Scope}{p:Addr}{cd:Value}{cl:List (Str×Addr)}{A:Around}{outer:List Env}{s:Shared}{H:Hp}{σ:St}{h1:Heap}{t:Nat}{g:Str->Option Addr}
  (hk:scope.kind=.function)(hh:A.handled=none)(e0:oW P w K mg base A outer s H)(hg:∀x∈cl,g x.1=some x.2)(hinj:∀x y c,g x=some c->g y=some c->x=y)(hfr:∀q∈scope.names,q.2=.free -> ∃c,(q.1,c)∈cl)(hnc:∀q∈scope.names,q.2 ≠ .cell)
  (hns:h1.Ns s.heap.objs.size (λ_=>none))(keep:∀b o,s.heap.get? b=some o->h1.get? b=some o)(hcell:∀x c,cl.lookup x=some c->H c=none /\ ∃v,s.heap.IsCell c v)
  (hloc:∀(i:Nat)(x:Str)(v:V),N[i]? = some x->σ[i]? = some (some v)->scope.names.lookup x=some .free /\ ∃u c,aY v u/\cl.lookup x=some c/\s.heap.IsCell c (some u))(hlen:σ.length=N.length) :
  ay (pF P w K mg base N qual scope p cd cl A outer s H) [] σ H { s with heap:=h1,toks:=t }:=by
 have noA:∀b:Addr,b∉(pF P w K mg base N qual scope p cd cl A outer s H).ex:=λb z=>absurd (show b∈([]:List Addr) from z) (by simp)
 refine⟨⟨e0.mod,hk,rfl,rfl,Yq _,λx y c h1 h2=>?_,λx hx=>?_,(λx c h=>nomatch h),λ_=>hh,Around.frames_deeper e0.frames,.inr ⟨rfl,rfl⟩,λb z=>absurd z (noA b),e0.bs,e0.bsz,λb _ _=>noA b,λb z=>absurd z (noA b),e0.funs,e0.frf⟩,
  rfl,e0.bare,Un.kept keep,⟨_,hns,λi x v h1 h2 h3=>?_⟩,λx c h=>?_,e0.hok.fresh (Yq _),λx c h=>(hcell x c h).1,λq hq=>absurd (show q∈([]:List (Addr×Obj)) from hq) (by simp),e0.hok.kept keep,hlen⟩
 .exact hinj x y c (hg _ (f9 h1)) (hg _ (f9 h2))
 .have hx':scope.names.lookup x=some .cell\/scope.names.lookup x=some .free:=hx;rcases hx' with z|z
  .exact absurd rfl (hnc _ (Yx z))
  .obtain⟨c,hc⟩:=hfr _ (Yx z) rfl;exact⟨c,jg hg hc⟩
 .obtain⟨hf,u,c,r,hc,o,ho,hd⟩:=hloc i x v h1 h2;exact⟨u,r,.inr ⟨.inr hf,c,hc,o,keep _ _ ho,hd⟩⟩
 .obtain⟨_,v,o,ho,hd⟩:=hcell x c h;exact⟨v,o,keep _ _ ho,hd⟩
theorem Ge{X:Cx}{pins:List (Addr×Obj)}{σ σl:St}{H:Hp}{s:Shared}{params:Arguments}{body:Expr}{scope:Scope}{qual:Str}{p c' C:Addr}{pm ctv:Value}{clos:List (Str×Addr)}{Nl:List Str}{k:Nat}{tl:St->Hp->XK->Prop}
  (hfn:∀x,X.fn x=true)(I:ay X pins σ H s)(hc1:∀x∈clos,X.env.cells.lookup x.1=some x.2)(hc2:∀q∈scope.names,q.2=.free -> ∃c,(q.1,c)∈clos)
  (hp:s.heap.get? p=some (PySem.W.kla_obj "<lambda>" qual params body scope clos pm c' ctv)) (hpn:H p=none)(hpf:p∉gK X.stack)(hco:H c'=some (tL c' qual))
  (hk:scope.kind=.function)(hnc:∀q∈scope.names,q.2 ≠ .cell)(hsc:scope.isCoroutine=false/\scope.isGenerator=false)(hbind:bindArgs (PySem.W.kla_fn "<lambda>" qual params body scope clos pm (.ref c') ctv) ⟨[],[]⟩=pure [])
  (hN:∀(i:Nat)(x:Str)(v:V),Nl[i]? = some x->σl[i]? = some (some v)->scope.names.lookup x=some .free/\X.env.kindOf x=some .cell /\ ∃j:Nat,X.N[j]? = some x/\σ[j]? = some (some v))(hlen:σl.length=Nl.length)
  (hb:∀(A':Around)(outer':List Env)(s':Shared),cI k (A'.deeper (PySem.W.envX qual scope s'.heap.objs.size p (.ref c') clos))->PX (pF X.prog X.w X.K X.mg X.base Nl qual scope p (.ref c') clos A' outer' s' H) body tl)
  (ht:tl σl H λc o H'=>c=.ref C/\o=none/\ax (vw X.K H) (vw X.K H')):J6 X.prog X.w X.K X.mg X.base (k+1) p C s H X.stack:=by
 have cells:∀x c,clos.lookup x=some c->X.env.cells.lookup x=some c:=λx c h=>hc1 _ (f9 h);have cfree:∀x c,X.env.cells.lookup x=some c->c∉gK X.stack:=λx c e z=>by
  rcases Y2.mp (I.stkSub c z) with q|q
  .exact I.cne x c e q
  .obtain⟨_,o,ho,_⟩:=I.ok.funs.mem q;exact absurd (Yd (Heap.lt_size ho) (I.ok.cab x c (hfn x) e)) (Ye _)
 refine⟨⟨_,_,_,_,hp⟩,hpn,hpf,λA' outer' s' hr e0 keep=>?_⟩;have KX:X.K.In s'.heap:=e0.mod.kin.keeps λb o e=>(e0.bs b o e).1;have lim:s'.heap.NoLimit:=e0.mod.nolimit.keeps λb o e=>(e0.bs b o e).1;have hrec:s'.heap.CodeRec (.ref c') qual:=(e0.hok c' _ hco).1;have cellAt:∀x c v,X.env.cells.lookup x=some c->s.heap.IsCell c v->s'.heap.IsCell c v:=λx c v e ⟨o,ho,hd⟩=>⟨o,keep c o ho (I.freeC x c e) (cfree x c e),hd⟩;refine PySem.W.kla_callFunE hr.depth (keep _ _ hp hpn hpf) rfl hsc.1 hsc.2 rfl hrec ?_;rw[hbind];refine wpAny_pure (wpAny_newFunctionEnv hnc (λy hy=>absurd hy (by simp)) (λh1 hns hsb=>⟨lim.fresh _ hsb,?_⟩) hk)
 show codeAny _ _ (.expr body (PySem.W.envX qual scope s'.heap.objs.size p (.ref c') clos)) _ _;have kp:∀b o,s'.heap.get? b=some o->h1.get? b=some o:=λb o e=>hsb.extBut b o (Yf (Heap.lt_size e)) (Heap.get?_push_of_some _ e);have J:ay (pF X.prog X.w X.K X.mg X.base Nl qual scope p (.ref c') clos A' outer' s' H) [] σl H { s' with heap:=h1,toks:=s'.toks+([]:List (Str×Value)).length }:=by
  refine DN (g:=λx=>X.env.cells.lookup x) hk hr.hd e0 hc1 (λx y c h1 h2=>I.ok.inj x y c h1 h2) hc2 hnc (by simpa using hns) kp (λx c e=>⟨I.freeC x c (cells x c e),?_⟩) (λi x v e1 e2=>?_) hlen
  .obtain⟨v,z⟩:=I.cell x c (cells x c e);exact⟨v,cellAt x c v (cells x c e) z⟩
  .obtain⟨f1,f2,j,f3,f4⟩:=hN i x v e1 e2;obtain⟨m,hn,hl⟩:=I.loc;obtain⟨u,r,l⟩:=hl j x v f3 f4 (.inr (.inl f2));refine⟨f1,u,?_⟩;rcases l with ⟨z,_⟩|⟨_,c,hc,hz⟩
   .rw[f2] at z;cases z
   .obtain⟨c2,hm⟩:=hc2 _ (Yx f1) rfl;have l2:=jg (f:=λx=>X.env.cells.lookup x) hc1 hm;have e3:=cells _ _ l2;rw[hc] at e3;cases e3;exact⟨c,r,l2,cellAt x c _ hc hz⟩
 refine PySem.W.kla_codeExpr (wpAny_mono ((hb A' outer' s' (hr.deeper _)) [] _ σl H _ J ht) (λ_ _ z=>z.elim) λev s2 z=>?_);obtain⟨s3,H3,J3,z⟩:=z;exact J3.passed rfl rfl rfl z λ_ _ _ q=>q
def KJ:V->Value->Prop
 | .ref a,u=>u=.ref a
 | .ty n,u=>u=.type n
 | _,_=>False
theorem bB{X:Cx}:dk X (.builtin "isinstance") (λxs H Q=>∃p c,xs=[.ref p,c] /\ ∃C,vw X.K H p=some (Jc p C)/\rP X.K C /\ ∃cv,KJ c cv /\ ∃b,PySem.W.kitOne X.K (.ref C) cv=some b/\Q (.bl b) H):=by
 intro pins s σ H xs us Q I r h;obtain⟨p,c,rfl,C,hp,Z,cv,hc,b,hk,q⟩:=h;obtain⟨u,w',rfl,rx,ry⟩:=tW r;cases rx;have e1:w'=cv:=by
  cases c with
  | ref a=>exact (show w'=Value.ref a from ry).trans hc.symm
  | ty n=>exact (show w'=Value.type n from ry).trans hc.symm
  | non=>exact hc.elim
  | bl _=>exact hc.elim
  | int _=>exact hc.elim
  | str _=>exact hc.elim
  | byt _=>exact hc.elim
  | flt _=>exact hc.elim
 subst e1;have hx:Av p C s.heap:=(I.hok p _ (gh hp (λ_ z=>by cases z))).1
 exact Yu (Cm Z) I.kIn hx hk (by intro z;cases z) λtk=>⟨.bl b,H,I.tok tk,rfl,q⟩
def A2:List Str:=["NoFraction", "NoPolynomial", "NoSums", "NoFlock", "NoWalk", "NoSum", "NoDeed", "NoText", "NoRow"]
structure zn (K:W.Frag)(mg:Str->Option Value)(C:Addr)(i:Nat):Prop where
 cls:rP K C
 kinds:∀(j:Nat)(n:Str),A2[j]? = some n -> ∃c,mg n=some (.ref c)/\PySem.W.kitOne K (.ref C) (.ref c)=some (decide (j=i))
 mom:∃c,mg "MomentError" = some (.ref c)/\PySem.W.exmOne K (.ref C) (.ref c)=some true
 ve:PySem.W.kitOne K (.ref C) (.type "ValueError")=some true
structure w6 (P:Program)(w:World)(K:W.Frag)(mg:Str->Option Value)(base:Heap)(kl:Nat):Prop where
 ex:∃f,mg "_law_refused" = some (.ref f)/\PySem.W.keepIn K (.ref f)=true /\ ∀(A:Around)(outer:List Env)(s:Shared)(H:Hp)(p C:Addr)(i:Nat)(Q:VK),cI (kl+1) A->oW P w K mg base A outer s H->J6 P w K mg base kl p C s H outer->zn K mg C i->i<9 ->
  (∀q H',ax (vw K H) (vw K H')->vw K H q=none->vw K H' q=some (.lst [.int i])->Q (.ref q) H')->codeAny (model P w) A (.call (.ref f) ⟨[.ref p],[]⟩) (CR eP outer P w H s Q E0) s
theorem ay.vwT{X:Cx}{pins:List (Addr×Obj)}{σ:St}{H:Hp}{s:Shared}{b:Addr}{o:HO}(I:ay X pins σ H s)(e:H b=some o):vw X.K H b=some o:=by
 have hk:X.K.lookup b=none:=by
  cases z:X.K.lookup b with
  | none=>rfl
  | some ob =>
   have:=(I.bs b ob (I.ok.mod.kin b ob z)).2;rw[e] at this;cases this
 rw[cj hk];exact e
theorem cN.raw{K:W.Frag}{H:Hp}{P:Addr}{qual:Str}(h:cN (vw K H) P qual):cN H P qual:=by
 obtain⟨ps,h1,h2,h3⟩:=h;refine⟨ps,gh h1 (λ_ z=>by cases z),h2,λpos cv z=>?_⟩
 obtain⟨c,e1,e2⟩:=h3 pos cv z;exact⟨c,e1,gh e2 (λ_ z=>by cases z)⟩
theorem ay.tabV{X:Cx}{pins:List (Addr×Obj)}{σ:St}{H:Hp}{s:Shared}{P:Addr}{qual:Str}(I:ay X pins σ H s)(h:cN H P qual):cN (vw X.K H) P qual:=by
 obtain⟨ps,h1,h2,h3⟩:=h;refine⟨ps,I.vwT h1,h2,λpos cv z=>?_⟩;obtain⟨c,e1,e2⟩:=h3 pos cv z;exact⟨c,e1,I.vwT e2⟩
def Ct(K:W.Frag)(P:Addr)(qual:Str)(ixs:List Nat)(C:Addr)(i:Nat)(tl:St->Hp->XK->Prop):TE:=λσ H Q=>cN (vw K H) P qual /\ ∀H1,gd P (vw K H) (vw K H1)->cN (vw K H1) P qual -> ∃σl:St,σl=ixs.map (λj=>(σ[j]?).join)/\tl σl H1 (λc o H'=>c=.ref C/\o=none/\ax (vw K H1) (vw K H')) /\
 ∀q H',ax (vw K H1) (vw K H')->vw K H1 q=none->vw K H' q=some (.lst [.int i])->Q (.ref q) H'
theorem Dm{X:Cx}{params:Arguments}{body:Expr}{scope:Scope}{c P C:Addr}{kl i:Nat}{p1 lpos pos:Pos}{Nl:List Str}{ixs:List Nat}{tl:St->Hp->XK->Prop}
  (R:w6 X.prog X.w X.K X.mg X.base (kl+1))(M:xw X c P)(hr:cI (kl+2) X.A)(hg:Gl X "_law_refused") (Z:zn X.K X.mg C i)(hi:i<9)(hfn:∀x,X.fn x=true)(hdef:defaultsOf params X.env=([],[]))
  (hfree:∀q∈scope.names,q.2=.free->X.env.kindOf q.1=some .cell)(hk:scope.kind=.function)(hnc:∀q∈scope.names,q.2 ≠ .cell)(hsc:scope.isCoroutine=false/\scope.isGenerator=false)
  (hbind:∀clos pm c' ctv,bindArgs (PySem.W.kla_fn "<lambda>" (jv X) params body scope clos pm (.ref c') ctv) ⟨[],[]⟩=pure []) (hlen:ixs.length=Nl.length)(hNl:∀(j:Nat)(x:Str),Nl[j]? = some x->scope.names.lookup x=some .free /\ ∃l,ixs[j]? = some l/\X.N[l]? = some x)
  (hb:∀(p c':Addr)(clos:List (Str×Addr))(H1:Hp)(A':Around)(outer':List Env)(s':Shared),cI kl (A'.deeper (PySem.W.envX (jv X) scope s'.heap.objs.size p (.ref c') clos))->PX (pF X.prog X.w X.K X.mg X.base Nl (jv X) scope p (.ref c') clos A' outer' s' H1) body tl)
  (he:starEach [Expr.Lambda params body scope lpos] X.env=[(false,eval (.Lambda params body scope lpos) X.env)]:=by rfl) :
  PE X (.Call (.Name "_law_refused" p1) [.Lambda params body scope lpos] [] pos) (Ct X.K P (jv X) ixs C i tl):=by
 intro pins s σ H Q I h;obtain⟨hT,h⟩:=h;obtain⟨f,hm,hkp,run⟩:=R.ex;refine wpAny_Call_Name_kw (i6 I hg hm ?_ ∅);refine PySem.W.callWith_K (h₀:=X.base) I.ok.mod.kin hkp ?_ he rfl;rw[he];show wpAny _ _ (spliced [(false,eval (.Lambda params body scope lpos) X.env)]) _ _ s;refine Calls.spliced_cons (Bn M hdef I (cN.raw hT) hfree λp c' pm ctv clos H1 s1 hc1 hc2 I1 B1 T1 hp hpn hps hco=>?_);refine Calls.spliced_nil ⟨I1.kIn,?_⟩;obtain⟨σl,eσ,ht,fin⟩:=h H1 (rG B1) (I1.tabV T1);have hpf:p∉gK X.stack:=λz=>by
  rcases Y2.mp (I.stkSub p z) with q|q
  .exact absurd (Yd I.lt (q▸hps)) (Ye _)
  .exact I.nofs hps q
 have L:J6 X.prog X.w X.K X.mg X.base (kl+1) p C s1 H1 X.stack:=by
  refine Ge (σl:=σl) (Nl:=Nl) hfn I1 hc1 hc2 hp hpn hpf hco hk hnc hsc (hbind clos pm c' ctv) (λj x v e1 e2=>?_) (by rw[eσ,YD];exact hlen) (λA' outer' s' hr'=>hb p c' clos H1 A' outer' s' hr') ht
  obtain⟨a1,l,a2,a3⟩:=hNl j x e1;rw[eσ,YA,a2] at e2;have e3:(σ[l]?).join=some v:=by
   have e4:some ((σ[l]?).join)=some (some v):=e2;exact Ym e4
  refine⟨a1,hfree _ (Yx a1) rfl,l,a3,?_⟩;cases e5:σ[l]? with
  | none=>rw[e5] at e3;cases e3
  | some w=>rw[e5] at e3;cases w with
   | none=>cases e3
   | some w=>cases e3;rfl
 refine wpAny_call (codeAny_mono (run X.A X.stack s1 H1 p C i Q hr I1.env0 L Z hi fin) λr s' hq=>?_);cases r with
 | error e=>exact False.elim hq
 | ok fl =>
  cases fl with
  | ret u=>exact I1.after hq
  | next=>exact False.elim hq
  | brk=>exact False.elim hq
  | cont=>exact False.elim hq
def vG(G G':Hp):Prop:=∀b o,G b=some o->(∀ps,o ≠ .tbl ps)->G' b=some o
theorem vG.of{G G':Hp}(S:ax G G'):vG G G':=λb o e _=>S b o e
theorem vG.trans{G G1 G2:Hp}(a:vG G G1)(b:vG G1 G2):vG G G2:=λc o e n=>b c o (a c o e n) n
theorem vG.rfl{G:Hp}:vG G G:=λ_ _ e _=>e
theorem cN.same{G G':Hp}{P:Addr}{qual:Str}(h:cN G P qual)(S:ax G G'):cN G' P qual:=by
 obtain⟨ps,h1,h2,h3⟩:=h;refine⟨ps,S _ _ h1,h2,λpos cv z=>?_⟩;obtain⟨c,e1,e2⟩:=h3 pos cv z;exact⟨c,e1,S _ _ e2⟩
theorem cN.start{G:Hp}{P:Addr}{qual:Str}(h:G P=some (.tbl #[])):cN G P qual:=⟨#[],h,trivial,λpos cv z=>by cases z⟩
theorem jl.smT{K:W.Frag}{H H':Hp}{a:Addr}{xs:List V}(h:jl K H a xs)(S:vG (vw K H) (vw K H')):jl K H' a xs:=by
 rcases h with ⟨hk,h⟩|h
 .refine .inl ⟨hk,?_⟩;rcases h with h|⟨o,h⟩
  .have:=S a _ (by rw[cj hk];exact h) (λ_ z=>by cases z)
   rw[cj hk] at this;exact .inl this
  .have:=S a _ (by rw[cj hk];exact h) (λ_ z=>by cases z)
   rw[cj hk] at this;exact .inr ⟨o,this⟩
 .exact .inr h
structure K5 (K:W.Frag)(mg:Str->Option Value)(base:Heap)(fd:FuncData)(c P:Addr):Prop where
 code:fd.code=.ref c
 hd:PySem.W.CodeHd base c P
 bi:∃bm o,mg "__builtins__" = some (.ref bm)/\bm≠builtinsNs/\bm≠mainGlobals/\base.get? bm=some o/\o.cls=.type "module" /\ o.dict=some builtinsNs/\o.data=.plain
theorem BK{P:Program}{w:World}{K:W.Frag}{mg:Str->Option Value}{base:Heap}{N:List Str}{qual:Str}{scope:Scope}{f:Addr}{cdv:Value}{A:Around}{outer:List Env}{s:Shared}{H:Hp}{E:XK}{fd:FuncData}{c Pt:Addr}(h:fd.code=cdv)(k:K5 K mg base fd c Pt) :
  xw ((fw eP P w K mg base N qual scope f cdv A outer s H E).nox) c Pt:=⟨h▸k.code,k.hd,k.bi⟩
structure Dn (P:Program)(w:World)(K:W.Frag)(mg:Str->Option Value)(base:Heap)(x:Str)(ps:List Str)(k:Nat)(sp:Sp):Prop where
 ex:∃f fd,bj P w K mg base (lj P w) k f fd ps sp/\mg x=some (.ref f)/\PySem.W.keepIn K (.ref f)=true/\ja K fd ps []
structure QX (X:Cx)(e:Expr)(t:St->Hp->XK->Prop):Prop where
 h:PX X e t
def BQ(sp:Sp)(t:TA):St->Hp->XK->Prop:=λσ H E=>t σ H λvs H1=>sp vs H1 (λ_ _=>False) E
theorem Am{X:Cx}{x:Str}{p pos:Pos}{e:Expr}{es:List Expr}{t:TA}{ps:List Str}{k:Nat}{sp:Sp}(C:Dn X.prog X.w X.K X.mg X.base x ps k sp)(hr:cI k X.A)(hg:Gl X x)(ha:∀E,QA (X.wish E) (e::es) t)(hdb:(x==("__debug__" : Str))=false:=by decide)
  (he:starEach (e::es) X.env=(false,eval e X.env)::starEach es X.env:=by rfl)(hpl:(backTo pos (starEach es X.env)).any (·.1)=false:=by rfl) :
  QX X (.Call (.Name x p) (e::es) [] pos) (BQ sp t):=⟨by
 obtain⟨f,fd,F,hm,hk,hb⟩:=C.ex;intro pins s σ H E I h;refine wpAny_Call_Name_kw (i6 I hg hm ?_ hdb);have ha':=(ha λev s'=>∃s1 H1,ay X pins σ H1 s1/\lj X.prog X.w X.stack H1 s1 E ev s').h pos pins s σ H _ (I.wish _) h;refine PySem.W.callWith_K (h₀:=X.base) I.ok.mod.kin hk (cw ha' λus s1 ⟨vs,H1,I1,r,q⟩=>⟨I1.kIn,?_⟩) he hpl;have I1:=I1.unwish;have hl:us.length=ps.length:=by rw[<-r.length];exact F.len _ _ _ _ q
 have hb':=hb s1 us I1.kIn (by simpa using hl)
 rw[Yv] at hb';refine wpAny_call (codeAny_mono (F.run X.A X.stack s1 H1 ⟨us,[]⟩ us vs _ E hr I1.env0 hb' r q) λr s' hq=>?_);cases r with
 | error e=>exact⟨s1,H1,I1,hq⟩
 | ok fl =>
  cases fl with
  | ret u=>obtain⟨_,_,_,_,_,_,_,z⟩:=hq;exact z.elim
  | next=>exact False.elim hq
  | brk=>exact False.elim hq
  | cont=>exact False.elim hq⟩
section
variable {P:Program}{w:World}{K:W.Frag}{mg:Str->Option Value}{base:Heap}
theorem eD.okX{x qual:Str}{st:Stmt}{f:Addr}{fd:FuncData}{N ps:List Str}{k:Nat}{sp:Sp}(F:eD K x qual st f fd)(S:az N ps (ak st))(len:∀vs H Q E,sp vs H Q E->vs.length=ps.length)
  (hbody:∀(cdv:Value)(A:Around)(outer:List Env)(s:Shared)(H:Hp)(vs:List V)(Q:VK)(E:XK),cI k (A.deeper (envOfC qual (ak st) s.heap.objs.size f cdv))->sp vs H Q E ->
   ∃t,uv (fw (lj P w) P w K mg base N qual (ak st) f cdv A outer s H E) (cC st) t/\t { nx:=λ_ H'=>Q .non H',rt:=Q } (start N vs) H):bj P w K mg base (lj P w) (k+1) f fd ps sp:=by
 obtain⟨oc,od,kV,doc,pm,an,cdv,ct,osl,rfl,lk,hcd⟩:=F.ex;refine BG lk hcd S len λA outer s H vs Q E hr hsp=>?_;obtain⟨t,h,q⟩:=hbody cdv A outer s H vs Q E hr hsp;exact⟨t,h.h,q⟩
theorem AC{N:List Str}{qual:Str}{scope:Scope}{f:Addr}{cd:Value}{A:Around}{outer:List Env}{s₀:Shared}{H₀:Hp}{E:XK}{C:Addr}{x:Str}{np cpos pos:Pos}{e:Expr}{es:List Expr}{t:TA}(z:tu K C)(hg:Gl (fw (lj P w) P w K mg base N qual scope f cd A outer s₀ H₀ E) x)(hm:mg x=some (.ref C))
  (ha:QA (fw (lj P w) P w K mg base N qual scope f cd A outer s₀ H₀ E) (e::es) t)(hdb:(x==("__debug__" : Str))=false:=by decide)
  (he:starEach (e::es) (envOfC qual scope s₀.heap.objs.size f cd)=(false,eval e (envOfC qual scope s₀.heap.objs.size f cd))::starEach es (envOfC qual scope s₀.heap.objs.size f cd):=by rfl)(hpl:(backTo cpos (starEach es (envOfC qual scope s₀.heap.objs.size f cd))).any (·.1)=false:=by rfl) :
  QS (fw (lj P w) P w K mg base N qual scope f cd A outer s₀ H₀ E) (.Raise (some (.Call (.Name x np) (e::es) [] cpos)) none pos) (uy E C t):=⟨Cr z hg hm ha.h hdb he hpl⟩
end
section
variable {X:Cx}
theorem Ik{e:Expr}{cls n:Str}{b0:Stmt}{suite:List Stmt}{p1 np hp pos:Pos}{C0:Addr}{i:Nat}{tb:St->Hp->XK->Prop}{ts:TS}(hx0:X.ex=[])(hs:X.stack=X.env::X.outer)(hfr:X.env.frame=some X.env.locals)
  (hb:PX X e tb)(hN:X.N.Nodup)(hi:X.N[i]? = some n)(hloc:X.env.scope.names.lookup n=some .local)(hg:Gl X cls)(hm:X.mg cls=some (.ref C0))(hsu:∀v,uv (X.marked v) (b0::suite) ts)
  (hdb:(cls==("__debug__" : Str))=false:=by decide) (hsw:swapsWith e none p1.line X.env=pure false:=by rfl) :
  QS X (.Try [.Expr e p1] [.ExceptHandler (some (.Name cls np)) (some n) (b0::suite) hp] [] [] pos) (Ij X.K C0 i tb ts):=⟨Hv hx0 hs hfr hb hN hi hloc hg hm (λv=>(hsu v).h) hdb hsw⟩
theorem EB{params:Arguments}{body:Expr}{scope:Scope}{c P C:Addr}{kl i:Nat}{p1 lpos pos:Pos}{Nl:List Str}{ixs:List Nat}{tl:St->Hp->XK->Prop}
  (R:w6 X.prog X.w X.K X.mg X.base (kl+1))(M:xw X c P)(hr:cI (kl+2) X.A)(hg:Gl X "_law_refused") (Z:zn X.K X.mg C i)(hi:i<9)(hfn:∀x,X.fn x=true)(hdef:defaultsOf params X.env=([],[]))
  (hfree:∀q∈scope.names,q.2=.free->X.env.kindOf q.1=some .cell)(hk:scope.kind=.function)(hnc:∀q∈scope.names,q.2 ≠ .cell)(hsc:scope.isCoroutine=false/\scope.isGenerator=false)
  (hbind:∀clos pm c' ctv,bindArgs (PySem.W.kla_fn "<lambda>" (jv X) params body scope clos pm (.ref c') ctv) ⟨[],[]⟩=pure []) (hlen:ixs.length=Nl.length)(hNl:∀(j:Nat)(x:Str),Nl[j]? = some x->scope.names.lookup x=some .free /\ ∃l,ixs[j]? = some l/\X.N[l]? = some x)
  (hb:∀(p c':Addr)(clos:List (Str×Addr))(H1:Hp)(A':Around)(outer':List Env)(s':Shared),cI kl (A'.deeper (PySem.W.envX (jv X) scope s'.heap.objs.size p (.ref c') clos))->QX (pF X.prog X.w X.K X.mg X.base Nl (jv X) scope p (.ref c') clos A' outer' s' H1) body tl)
  (he:starEach [Expr.Lambda params body scope lpos] X.env=[(false,eval (.Lambda params body scope lpos) X.env)]:=by rfl) :
  QE X (.Call (.Name "_law_refused" p1) [.Lambda params body scope lpos] [] pos) (Ct X.K P (jv X) ixs C i tl) :=
 ⟨Dm R M hr hg Z hi hfn hdef hfree hk hnc hsc hbind hlen hNl (λp c' clos H1 A' outer' s' hr'=>(hb p c' clos H1 A' outer' s' hr').h) he⟩
end
def vT(mg:Str->Option Value)(base:Heap):Prop:=∃bm o,mg "__builtins__" = some (.ref bm)/\bm≠builtinsNs/\bm≠mainGlobals/\base.get? bm=some o/\o.cls=.type "module" /\ o.dict=some builtinsNs/\o.data=.plain
def Jg(ts:List (Addr×Addr))(H:Hp):Prop:=∀b,H b=none\/(∃o xs,H b=some (.frz o (.lst xs)))\/(H b=some (.tbl #[]) /\ ∃q∈ts,q.2=b)
theorem zc{P:Program}{w:World}{K:W.Frag}{mg mb:Str->Option Value}{CX:vA}{k:Nat}{fa a:Addr}{fd:FuncData}{x:Str}{sp:Sp}{s₁:Shared}{vs:List Value}{ns:List Int}{ts:List (Addr×Addr)}
  (KX:K.In s₁.heap)(hns:s₁.heap.Ns mainGlobals mg)(hb:s₁.heap.Ns builtinsNs mb)(hbb:∀x:Str,x ≠ "__name__" -> mb x=bootBuiltins x) (hlim:s₁.heap.NoLimit)(hg:s₁.gens = #[])
  (ha:s₁.heap.get? a=some { cls:=.type "list",data:=.seq vs.toArray }) (hi:IntsAre vs ns)(hl:ns.length<=sizeLine)(hr:cI k callerA)(hT:∀q∈ts,PySem.W.codeHdIn K q.1 q.2=true/\K.lookup q.2=none/\s₁.heap.get? q.2=some (PySem.W.tabObj #[]))
  (hB:vT mg s₁.heap)(hSr:s₁.heap.NoSeer)(F:∀base:Heap,K.In base->base.Ns mainGlobals mg->vT mg base->base.NoSeer->bj P w K mg base CX k fa fd [x] sp)(hbind:∀(s:Shared)(u:Value),BindsTo s fd ⟨[u],[]⟩ [(x,u)])
  (hsp:∀H:Hp,(∀q∈ts,vw K H q.2=some (.tbl #[]))->(H a≠none->K.lookup a=none)->jN K H a (ns.map V.int)->sp [.ref a] H (λv _=>v=.bl true) λ_ _ _=>False)
  (hCX:∀H e s',CX [] H s₁ (λ_ _ _=>False) e s'->False) :
  codeAny (model P w) callerA (.call (.ref fa) ⟨[.ref a],[]⟩) (λr s'=>r=.ok (.ret (.bool true))/\OldK s₁.heap s'.heap/\s'.os=s₁.os/\AllBare s'.gens) s₁:=by
 have rv:=pQ hi;have lenV:=hi.length;have na:∀q∈ts,q.2≠a:=λq hq z=>by
  have:=(hT q hq).2.2;rw[z,ha] at this;cases this
 have core:∀H:Hp,Jg ts H->(∀q∈ts,H q.2=some (.tbl #[]))->jN K H a (ns.map V.int)->iW P w H s₁.heap->(∀b,H b≠none->b=a \/ ∃q∈ts,q.2=b)->(H a≠none->K.lookup a=none) ->
   codeAny (model P w) callerA (.call (.ref fa) ⟨[.ref a],[]⟩) (λr s'=>r=.ok (.ret (.bool true))/\OldK s₁.heap s'.heap/\s'.os=s₁.os/\AllBare s'.gens) s₁:=by
  intro H hO hTT hS hok hA hK;have base_of:∀{b:Addr}{o:Obj},s₁.heap.get? b=some o->H b=none->(mX s₁.heap H).get? b=some o:=λe n=>CP e n;have noA:∀{b:Addr}{o:Obj}{es:Array DictEntry}{ep:Nat},s₁.heap.get? b=some o->o.data=.dict es ep->H b=none:=λ{b o es ep} e d=>by
   cases q:H b with
   | none=>rfl
   | some u =>
    rcases hA b (by rw[q];simp) with e'|⟨y,hy,e'⟩
    .subst e';rw[ha] at e;cases e;have d':Data.seq vs.toArray _=Data.dict es ep:=d;cases d'
    .subst e';rw[(hT y hy).2.2] at e;cases e;have d':Data.fields (#[]:Array Value)=Data.dict es ep:=d;cases d'
  have nsK:∀{b:Addr}{m:Str->Option Value},s₁.heap.Ns b m->(mX s₁.heap H).Ns b m:=λ{b m} ⟨o,es,ep,e,d,r⟩=>⟨o,es,ep,base_of e (noA e d),d,r⟩;have hKb:K.In (mX s₁.heap H):=λb o e=>base_of (KX b o e) (by
   cases q:H b with
   | none=>rfl
   | some u =>
    rcases hA b (by rw[q];simp) with e'|⟨y,hy,e'⟩
    .subst e';rw[hK (by rw[q];simp)] at e;cases e
    .subst e';rw[(hT y hy).2.1] at e;cases e)
  have hM:Mod K mg (mX s₁.heap H):=⟨hKb,nsK hns,⟨mb,nsK hb,hbb⟩,let ⟨mc,h1,h2⟩:=hlim;⟨mc,nsK h1,h2⟩⟩;have e0:oW P w K mg (mX s₁.heap H) callerA [] s₁ H:=⟨rfl,hM,λb o e=>Ez e,Nat.le_of_eq (yR _ _),trivial,λb hb=>absurd (show b∈([]:List Addr) from hb) (by simp),hok,.of_eq hg⟩
  have hBb:vT mg (mX s₁.heap H):=by
   obtain⟨bm,ob,b1,b2,b3,b4,b5,b6,b7⟩:=hB;refine⟨bm,ob,b1,b2,b3,base_of b4 ?_,b5,b6,b7⟩;cases q:H bm with
   | none=>rfl
   | some u =>
    rcases hA bm (by rw[q];simp) with e'|⟨y,hy,e'⟩
    .rw[e',ha] at b4;cases b4;simp at b5
    .rw[<-e',(hT y hy).2.2] at b4;cases b4;cases b5
  have hSb:(mX s₁.heap H).NoSeer:=by
   refine⟨let ⟨mc,a,b⟩:=hSr.statics;⟨mc,nsK a,b⟩,let ⟨mm,a,b⟩:=hSr.mods;⟨mm,nsK a,b⟩,let ⟨mb,a,b⟩:=hSr.imp;⟨mb,nsK a,b⟩,?_⟩;obtain⟨mg',bm,ob,b1,b2,b4,b5,b6⟩:=hSr.main;refine⟨mg',bm,ob,nsK b1,b2,base_of b4 ?_,b5,b6⟩;cases q:H bm with
   | none=>rfl
   | some u =>
    rcases hA bm (by rw[q];simp) with e'|⟨y,hy,e'⟩
    .rw[e',ha] at b4;cases b4;simp at b5
    .rw[<-e',(hT y hy).2.2] at b4;cases b4;cases b5
  refine codeAny_mono ((F _ hKb (nsK hns) hBb hSb).run callerA [] s₁ H ⟨[.ref a],[]⟩ [.ref a] [.ref a] _ _ hr e0 (hbind s₁ (.ref a)) (.cons rfl .nil) (hsp H (λq hq=>(cj (hT q hq).2.1).trans (hTT q hq)) hK hS)) λr s' h=>?_;cases r with
  | error e=>exact (hCX H e s' h).elim
  | ok fl =>
   cases fl with
   | next=>exact False.elim h
   | brk=>exact False.elim h
   | cont=>exact False.elim h
   | ret u =>
    obtain⟨v,H',os,bare,un,hok',r',q⟩:=h;have q':v=.bl true:=q;subst q';obtain rfl:u=Value.bool true:=r';have key:∀b o,s₁.heap.get? b=some o->s'.heap.get? b=some o\/((∃y∈ts,y.2=b)/\o=PySem.W.tabObj #[] /\ ∃more,s'.heap.get? b=some (PySem.W.tabObj more)):=λb o e=>by
     cases q:H b with
     | none=>exact .inl (un.keep b o e q (by intro z;exact absurd (show b∈([]:List Addr) from z) (by simp)) (by simp))
     | some u =>
      rcases hO b with z|⟨ob,xs,z⟩|⟨z,y,hy,e'⟩
      .rw[q] at z;cases z
      .have z2:=un.frzs b ob _ z;obtain⟨e1,_⟩:=hok b _ z;obtain⟨e2,_⟩:=hok' b _ z2;rw[e] at e1;cases e1;exact .inl e2
      .obtain⟨more,z2⟩:=un.tbls b #[] z;have e1:s₁.heap.get? b=some (PySem.W.tabObj #[]):=hok b _ z;have e2:s'.heap.get? b=some (PySem.W.tabObj (#[]++more)):=hok' b _ z2;rw[e] at e1;cases e1;exact .inr ⟨⟨y,hy,e'⟩,rfl,_,e2⟩
    refine⟨rfl,⟨λb o e=>?_,λb o e=>?_⟩,os,bare⟩
    .rcases key b o e with z|⟨⟨y,hy,e'⟩,z1,more,z2⟩
     .exact .inl z
     .subst z1 e';have cd:=PySem.W.codeHd_of_K KX (hT y hy).1;exact .inr (.inl ⟨(cd.tab (hT y hy).2.2).isCodeTable,rfl,#[],more,rfl,by rw[z2];simp⟩)
    .rcases key b o e with z|⟨_,_,more,z2⟩
     .exact⟨o,z⟩
     .exact⟨_,z2⟩
 have dec:∀b,Decidable (∃q∈ts,q.2=b):=λb=>Classical.propDecidable _;have tabH:∀q∈ts,bV P w (λ_=>none) s₁.heap q.2 (.tbl #[]):=λq hq=>(hT q hq).2.2;cases hk:K.lookup a with
 | some o =>
  have e:=KX a o hk;rw[ha] at e;cases e;refine core (λb=>@ite _ (∃q∈ts,q.2=b) (dec b) (some (.tbl #[])) none) (λb=>?_) (λq hq=>Yb ⟨q,hq,rfl⟩) (.inr ⟨_,vs.toArray,_,hk,rfl,rfl,rfl,by rw[Yt,lenV];exact hl,by simpa using rv⟩) (λb u z=>?_) (λb z=>?_) λz=>?_
  .by_cases hb:∃q∈ts,q.2=b
   .exact .inr (.inr ⟨Yb hb,hb⟩)
   .exact .inl (Yc hb)
  .by_cases hb:∃q∈ts,q.2=b
   .have z':=(Yb hb).symm.trans z;cases z';obtain⟨q,hq,rfl⟩:=hb;exact (hT q hq).2.2
   .have z':=(Yc hb).symm.trans z;cases z'
  .by_cases hb:∃q∈ts,q.2=b
   .exact .inr hb
   .exact absurd (Yc hb) z
  .have:¬ ∃q∈ts,q.2=a:=λ⟨q,hq,e⟩=>na q hq e;exact absurd (Yc this) z
 | none =>
  have ia:¬ ∃q∈ts,q.2=a:=λ⟨q,hq,e⟩=>na q hq e;refine core (λb=>if b=a then some (.frz { cls:=.type "list",data:=.seq vs.toArray } (.lst (ns.map V.int))) else @ite _ (∃q∈ts,q.2=b) (dec b) (some (.tbl #[])) none) (λb=>?_) (λq hq=>?_) (.inl (.inr ⟨{ cls:=.type "list",data:=.seq vs.toArray },Yb rfl⟩)) (λb u z=>?_) (λb z=>?_) λ_=>hk
  .by_cases hb:b=a
   .exact .inr (.inl ⟨_,_,Yb hb⟩)
   .by_cases hb2:∃q∈ts,q.2=b
    .exact .inr (.inr ⟨(Yc hb).trans (Yb hb2),hb2⟩)
    .exact .inl ((Yc hb).trans (Yc hb2))
  .exact (Yc (na q hq)).trans (Yb ⟨q,hq,rfl⟩)
  .by_cases hb:b=a
   .have z':=(Yb hb).symm.trans z;cases z';subst hb;exact⟨ha,by rw[YD];exact hl,vs,_,rv,ha⟩
   .by_cases hb2:∃q∈ts,q.2=b
    .have z':=((Yc hb).trans (Yb hb2)).symm.trans z;cases z';obtain⟨q,hq,rfl⟩:=hb2;exact (hT q hq).2.2
    .have z':=((Yc hb).trans (Yc hb2)).symm.trans z;cases z'
  .by_cases hb:b=a
   .exact .inl hb
   .by_cases hb2:∃q∈ts,q.2=b
    .exact .inr hb2
    .exact absurd ((Yc hb).trans (Yc hb2)) z
theorem walk_ofM{l:PySem.W.OpenLaw}{n k:Nat}{q:Program}{loose:List Str}{XP:(Str->Option Value)->Heap->Prop}{YP:World->Heap->Prop}{d:DefRec}{K:Params->W.Frag}{CX:World->vA}{sp:World->Sp}{x:Str}(ts:World->List (Addr×Addr))
  (hn:l.most=some n)(hn2:n<=sizeLine)(hdf:d.params.defaults=[])(hr:cI k callerA)(hi:importsNone q=true)
  (hY:∀(w:World)(h:Heap),YP w h->(K w.params).In h /\ ∀q∈ts w,PySem.W.codeHdIn (K w.params) q.1 q.2=true/\(K w.params).lookup q.2=none/\h.get? q.2=some (PySem.W.tabObj #[]))
  (F:∀(w:World)(mg:Str->Option Value)(fa:Addr)(h:Heap),(K w.params).In h->h.Ns mainGlobals mg->mg d.name=some (.ref fa) ->
   ∃fd:FuncData,(∀(s:Shared)(u:Value),BindsTo s fd ⟨[u],[]⟩ [(x,u)]) /\
    ∀base:Heap,(K w.params).In base->base.Ns mainGlobals mg->vT mg base->base.NoSeer->bj l.prog w (K w.params) mg base (CX w) k fa fd [x] (sp w))
  (hsp:∀(w:World)(H:Hp)(a:Addr)(ns:List Int),ns.length<=n->(∀q∈ts w,vw (K w.params) H q.2=some (.tbl #[]))->(H a≠none->(K w.params).lookup a=none)->jN (K w.params) H a (ns.map V.int)->sp w [.ref a] H (λv _=>v=.bl true) λ_ _ _=>False)
  (hCX:∀(w:World)(H:Hp)(s:Shared)(e:Value)(s':Shared),CX w [] H s (λ_ _ _=>False) e s'->False) :
  PySem.W.WalkO q loose XP YP l.row.toRowW d [] (λf vs=>PySem.call f vs):=by
 refine Att.attach_call hn hdf λw s₀ s₁ mg mb fa o pm cd doc a vs ns G Y ho hd hcd hmg hobj hints hlen hg=>?_;obtain⟨KX,hT⟩:=hY w _ Y;obtain⟨fd,hb,hF⟩:=F w mg fa _ KX G.T.g hmg;have hB:vT mg s₁.heap:=by
  obtain⟨bm,ob,b1,b2,b3,b4,b5,b6⟩:=G.T.bmain;refine⟨bm,ob,b1,b2,λz=>?_,b3,b4,b5,b6⟩;obtain⟨o,es,ep,e,hd',_⟩:=G.T.g;rw[z,e] at b3;cases b3;rw[hd'] at b6;cases b6
 exact zc KX G.T.g G.T.b G.T.builtins G.T.nolimit hg hobj hints (Yg hlen hn2) hr hT hB (G.T.seer hi) hF hb (λH hTT hK hS=>hsp w H a ns hlen hTT hK hS) λH e s'=>hCX w H s₁ e s'
section
variable {P:Program}{w:World}{K:W.Frag}{mg:Str->Option Value}{base:Heap}
theorem eD.okM{x qual:Str}{st:Stmt}{f:Addr}{fd:FuncData}{N ps:List Str}{k:Nat}{sp:Sp}(F:eD K x qual st f fd)(S:az N ps (ak st))(len:∀vs H Q E,sp vs H Q E->vs.length=ps.length)
  (hbody:∀(cdv:Value)(A:Around)(outer:List Env)(s:Shared)(H:Hp)(vs:List V)(Q:VK)(E:XK),fd.code=cdv->cI k (A.deeper (envOfC qual (ak st) s.heap.objs.size f cdv))->sp vs H Q E ->
   ∃t,uv (fw eP P w K mg base N qual (ak st) f cdv A outer s H E).nox (cC st) t/\t { nx:=λ_ H'=>Q .non H',rt:=Q } (start N vs) H):bj P w K mg base eP (k+1) f fd ps sp:=by
 obtain⟨oc,od,kV,doc,pm,an,cdv,ct,osl,rfl,lk,hcd⟩:=F.ex;refine BG lk hcd S len λA outer s H vs Q E hr hsp=>?_;obtain⟨t,h,q⟩:=hbody cdv A outer s H vs Q E rfl hr hsp;exact⟨t,h.h.nox,q⟩
theorem eD.runQ{x qual:Str}{st:Stmt}{f:Addr}{fd:FuncData}{N ps:List Str}{k:Nat}{A:Around}{outer:List Env}{s:Shared}{H:Hp}{us:List Value}{vs:List V}{Q:VK}{E:XK}(F:eD K x qual st f fd)(S:az N ps (ak st))(hr:cI (k+1) A)(e0:oW P w K mg base A outer s H)
  (hb:ja K fd ps [])(r:aN vs us)(hl:vs.length=ps.length)
  (hbody:∀cdv,cI k (A.deeper (envOfC qual (ak st) s.heap.objs.size f cdv)) -> ∃t,uv (fw eP P w K mg base N qual (ak st) f cdv A outer s H E).nox (cC st) t/\t { nx:=λ_ H'=>Q .non H',rt:=Q } (start N vs) H) :
  codeAny (model P w) A (.call (.ref f) ⟨us,[]⟩) (CR eP outer P w H s Q E) s:=by
 obtain⟨oc,od,kV,doc,pm,an,cdv,ct,osl,rfl,lk,hcd⟩:=F.ex;have KX:K.In s.heap:=e0.mod.kin.keeps λb o e=>(e0.bs b o e).1;have hb':=hb s us KX (by rw[Yv,<-r.length];exact hl)
 rw[Yv] at hb';refine Hl lk hcd S hr e0 hb' r hl λhr'=>?_;obtain⟨t,h,q⟩:=hbody cdv hr';exact⟨t,h.h.nox,q⟩
end
theorem Ex{X:Cx}{scope sc:Scope}(h:X.env.scope=sc)(z:scope.names.all (λq=>q.2 != .free || sc.names.lookup q.1==some .cell)=true):∀q∈scope.names,q.2=.free->X.env.kindOf q.1=some .cell:=λq hq hf=>by
 have h2:=List.all_eq_true.mp z q hq;rw[Bool.or_eq_true] at h2;rcases h2 with h2|h2
 .rw[hf] at h2;cases h2
 .show X.env.scope.names.lookup q.1=_;rw[h];exact beq_iff_eq.mp h2
theorem zh{scope:Scope}(z:scope.names.all (λq=>q.2 != .cell)=true):∀q∈scope.names,q.2 ≠ .cell:=λq hq e=>by
 have h2:=List.all_eq_true.mp z q hq;rw[e] at h2;cases h2
theorem oR:bootBuiltins "ValueError" = some (.type "ValueError"):=by decide +kernel
def JL(K:W.Frag)(ta:TE):TT:=λσ H Q=>ta σ H λx H'=>∃k,vM K x H' k/\Q k H'
abbrev yD (n:Str):Str:=n ++ ".<locals>." ++ "<lambda>"
theorem m6(i:Int):(D.lst [.int i]).cmp:=by
 unfold D.cmp D.py D.pys D.pys D.py;exact⟨rfl,Nat.le_of_ble_eq_true rfl⟩
theorem cN.butL{G G':Hp}{P l:Addr}{qual:Str}{xs:List V}(h:cN G P qual)(hl:G l=some (.lst xs))(B:gd l G G'):cN G' P qual:=by
 obtain⟨ps,h1,h2,h3⟩:=h;refine⟨ps,B _ _ (λz=>by rw[z,hl] at h1;cases h1) h1,h2,λpos cv z=>?_⟩
 obtain⟨c,e1,e2⟩:=h3 pos cv z;exact⟨c,e1,B _ _ (λz=>by rw[z,hl] at e2;cases e2) e2⟩
section
variable {P:Program}{w:World}{K:W.Frag}{mg:Str->Option Value}{base:Heap}
def FM(E:XK)(t:St->Hp->XK->Prop):TS:=λ_ σ H=>t σ H E
end
def bZ(f g:Nat->Rat):Nat->Rat
 | 0=>0
 | n+1=>bZ f g n+f n*g n
theorem kc{f g f' g':Nat->Rat}:∀n,(∀i,i<n->f i=f' i)->(∀i,i<n->g i=g' i)->bZ f g n=bZ f' g' n
 | 0,_,_=>rfl
 | n+1,h1,h2=>by
  show bZ f g n+f n*g n=bZ f' g' n+f' n*g' n;rw[kc n (λi hi=>h1 i ()) (λi hi=>h2 i ()),h1 n (),h2 n ()]
def Sx(b:Nat)(q:Int×Int):Prop:=∃n:Int,wv q=(n:Rat)/6/\n.natAbs<=b
theorem Sx.lo{a z:Int}{b:Nat}(h0:0<=z)(h3:z<3)(ha:6*a.natAbs<=b):Sx b (lo a (1+z)):=by
 have hz:1+z≠0:=();have c1:((1:Int):Rat)=1:=rfl;have c2:((2:Int):Rat)=2:=rfl;have c3:((3:Int):Rat)=3:=rfl;have c6:((6:Int):Rat)=6:=rfl;rcases (show z=0\/z=1\/z=2 by nofun) with rfl|rfl|rfl
 .refine⟨6*a,?_,()⟩;rw[iE hz,show (1:Int)+0=1 from rfl,Xd,c1,c6]
  grind
 .refine⟨3*a,?_,()⟩;rw[iE hz,show (1:Int)+1=2 from rfl,Xd,c2,c3]
  grind
 .refine⟨2*a,?_,()⟩;rw[iE hz,show (1:Int)+2=3 from rfl,Xd,c2,c3]
  grind
theorem aR.gen{t u:TS}{D:oA}{σ:St}{H:Hp}(h:∀N:St->Hp->Prop,(∀σ' H',u D σ' H'->N σ' H')->t { D with nx:=N } σ H):aR t u D σ H:=h (u D) λ_ _ z=>z
theorem jR(a b:Int):Builtin.Range.rangeSize a b (-1)=if b<a then a-b else 0:=by
 unfold Builtin.Range.rangeSize;simp only[show ¬ ((-1:Int) > 0) by decide,if_false,Int.neg_neg,Int.ediv_one]
 split<;>(try split)<;>nofun
theorem zx{a b:Int}(ha : -(2^61)<=a)(ha':a<2^61)(hb : -(2^61)<=b)(hb':b<2^61):Builtin.Range.small a b (-1)=true:=by
 unfold Builtin.Range.small;rw[jR];simp only[Builtin.Range.rangeFitsLong,YZ,Bool.or_eq_true,decide_eq_true_eq,beq_iff_eq,show ¬ ((-1:Int) > 0) by decide,if_false]
 split<;>nofun
def K3(lo:Int)(n:Nat):It:=⟨λi _=>i<n,λi H x H'=>H'=H/\x=.int (lo-i),λi _=>n<=i⟩
theorem EN{P:Program}{w:World}{K:W.Frag}{tg:Expr}(it:Addr)(lo:Int)(n:Nat):yo P w K tg (K3 lo n) [it] it (λj hp=>IsRangeIter hp it (lo+(j:Nat)*(-1)) ((n:Int)-(j:Nat)) (-1)) where
 mem:=List.mem_singleton.mpr rfl
 obj:=λj hp st b hb=>by
  cases List.mem_singleton.mp hb;refine⟨_,st,λv z=>?_⟩;exact Data.noConfusion (show Data.fields _=Data.cell v from z)
 keep:=λ_ _ _ st k=>k it (List.mem_singleton.mpr rfl) _ st
 item:=by
  intro Y hP hw hK hc j pins s σ H E J hf st hg;subst hP hw hK;obtain⟨g0,g1,g2,g3,g4,g5⟩:=hf it (List.mem_singleton.mpr rfl);refine (Walks.range (prog:=Y.prog) (w:=Y.w) (J.ok.hd hc) it lo (-1) n).item j s _ _ hg st λv hp tk hv st1 kk=>?_;obtain⟨t,rfl⟩:=hv;have J1:ay Y pins σ H { s with heap:=hp,toks:=tk }:=J.turned (λb o hb e=>kk b o (λz=>hb (List.mem_singleton.mp z)) e) g0 g1 g3 g4 g5
  refine⟨_,rfl,wG (s:={ s with heap:=hp,toks:=tk }) (n:="range_iterator") st1 rfl rfl ∅ ⟨.int (lo-j),H,J1,⟨t,?_⟩,⟨rfl,rfl⟩,st1,λb hb=>(hf b hb).1⟩⟩
  rw[show lo+(j:Nat)*(-1)=lo-(j:Int) by nofun]
 done:=by
  intro Y hP hw hK hc j pins s σ H E J hf st hg;subst hP hw hK;obtain⟨g0,g1,g2,g3,g4,g5⟩:=hf it (List.mem_singleton.mpr rfl);have hj:n<=j:=hg;exact wpAny_pyNext_range_end (J.ok.hd hc) st () λhp eb=>⟨rfl,J.turned (t':=s.toks) (λb o hb e=>eb b o hb e) g0 g1 g3 g4 g5⟩
 self:=λ_ _ _ _ _ st h=>wpAny_pyIter_rangeiter st h
section
variable {X:Cx}{tg:Expr}
def BU(ta:TA):TI:=λσ H R=>ta σ H λvs H1=>∃i j:Int,vs=[.int i,.int j,.int (-1)]/\(-(2^61)<=i/\i<2^61 /\ -(2^61)<=j/\j<2^61)/\R (K3 i (i-j).toNat) H1
theorem x6{a b c:Expr}{ta:TA}{p pos:Pos}(hg:Gl X "range") (hm:X.mg "range" = none) (ha:PA X [a,b,c] ta)(hs:starEach [a,b,c] X.env=[(false,eval a X.env),(false,eval b X.env),(false,eval c X.env)]:=by rfl)
  (hs2:starEach [b,c] X.env=[(false,eval b X.env),(false,eval c X.env)]:=by rfl):PI X tg (.Call (.Name "range" p) [a,b,c] [] pos) (BU ta):=by
 intro pins s σ H R I h;refine Call_ (iy I hg hm boot_range (Yr (cw (ha pos pins s σ H _ I h) λus s1 ⟨vs,H1,I1,r1,q1⟩=>?_) (by rw[hs,hs2]) (by rw[hs2];rfl)))
 obtain⟨i,j,e,⟨q1,q2,q3,q4⟩,q⟩:=q1;subst e;cases r1 with
 | cons ri rr =>
  cases rr with
  | cons rj rr =>
   cases rr with
   | cons rk rr =>
    cases rr;obtain⟨t1,rfl⟩:=ri;obtain⟨t2,rfl⟩:=rj;obtain⟨t3,rfl⟩:=rk;refine call_range_3 ∅ ?_ (.inl (PyProof.noPylong_of_log2 (by decide +kernel)))
    refine wpAny_pyIter_range (IsRange.new ..) (zx q1 q2 q3 q4) ?_;have J:ay X pins σ H1 { s1 with heap:=s1.heap.push { cls:=.type "range",data:=.fields #[.int i t1,.int j t2,.int (-1) t3] },toks:=s1.toks }:=I1.kept λb o e=>Heap.get?_push_of_some _ e
    obtain⟨a1,ha1⟩ : ∃a1,a1=(s1.heap.push { cls:=.type "range",data:=.fields #[.int i t1,.int j t2,.int (-1) t3] }).objs.size:=⟨_,rfl⟩;refine⟨_,[_],_,_,H1,rfl,J.kept (t':=s1.toks) λb o e=>Heap.get?_push_of_some _ e,EN _ i (i-j).toNat,?_,λb hb=>?_,q⟩
    .have e1:i+((0:Nat):Int)*(-1)=i:=by simp
     have e2:(((i-j).toNat:Nat):Int)-((0:Nat):Int)=Builtin.Range.rangeSize i j (-1):=by rw[jR];split<;>nofun
     show IsRangeIter _ _ (i+((0:Nat):Int)*(-1)) ((((i-j).toNat:Nat):Int)-((0:Nat):Int)) (-1);rw[e1,e2];exact Heap.get?_push_size _ rfl
    .cases List.mem_singleton.mp hb;exact J.fpOk (Yq _) (J.hok.fresh (Yq _))
theorem zj{a b c:Expr}{ta:TA}{p pos:Pos}(hg:Gl X "range") (hm:X.mg "range" = none) (ha:QA X [a,b,c] ta)(hs:starEach [a,b,c] X.env=[(false,eval a X.env),(false,eval b X.env),(false,eval c X.env)]:=by rfl)
  (hs2:starEach [b,c] X.env=[(false,eval b X.env),(false,eval c X.env)]:=by rfl):QI X tg (.Call (.Name "range" p) [a,b,c] [] pos) (BU ta):=⟨x6 hg hm ha.h hs hs2⟩
end
def zt(lo:Int)(n:Nat):List V:=(List.range n).map λ(k:Nat)=>V.int (lo-k)
theorem Fd{lo:Int}{n:Nat}:(zt lo n).length=n:=by simp[zt]
theorem Gc{lo:Int}{n i:Nat}{x:V}(h:(zt lo n)[i]? = some x):i<n/\x=.int (lo-i):=by
 have hi:i<n:=by
  have:=(List.getElem?_eq_some_iff.mp h).1;simpa [zt] using this
 refine⟨hi,?_⟩;simp[zt,hi] at h;exact h.symm
theorem CG{lo:Int}{n:Nat}{H:Hp}:mW (K3 lo n) H (zt lo n):=by
 refine⟨λi hi=>by show i<n;simpa [zt] using hi,λi x H' hi y=>⟨y.1,?_⟩,by show n<=(zt lo n).length;simp[zt]⟩
 have hi':i<n:=by simpa [zt] using hi
 obtain⟨_,rfl⟩:=y;simp[zt,hi']
theorem lM{f g:Nat->Rat}{d i:Nat}(hg:∀j,d<j->g j=0)(hf:∀j,i<j->f j=0):∀n,pr f g n (i+d)=if i<n then f i*g d else 0
 | 0=>by simp[pr]
 | n+1=>by
  have ih:=lM hg hf n;show pr f g n (i+d)+(if n<=i+d then f n*g (i+d-n) else 0)=_
  rw[ih];rcases Nat.lt_trichotomy i n with h|h|h
  .rw[hf n h,Yb h,Yb (show i<n+1 by nofun)]
   split<;>grind
  .subst h;rw[Yc (),Yb (),Yb (),show i+d-i=d by nofun]
   grind
  .rw[Yc (),Yb (),Yc (),hg _ ()];grind
theorem vW{f f' g:Nat->Rat}:∀n k,pr (λi=>f i-f' i) g n k=pr f g n k-pr f' g n k
 | 0,_=>by
  show (0:Rat)=0-0;grind
 | n+1,k=>by
  show pr _ g n k+(if n<=k then (f n-f' n)*g (k-n) else 0)=(pr f g n k+if n<=k then f n*g (k-n) else 0)-(pr f' g n k+if n<=k then f' n*g (k-n) else 0)
  rw[vW n k];split<;>grind
theorem j7{f g:Nat->Rat}{n:Nat}(hf:∀i,n<=i->f i=0):∀m k,pr f g (n+m) k=pr f g n k
 | 0,_=>rfl
 | m+1,k=>by
  show pr f g (n+m) k+(if n+m<=k then f (n+m)*g (k-(n+m)) else 0)=_
  rw[j7 hf m k,hf (n+m) ()];split<;>grind
theorem zA{e g r:Nat->Rat}{n d:Nat}(he:∀i,n<=i->e i=0)(hg:∀j,d<j->g j=0)(hd:g d≠0)(hr:∀k,d<=k->r k=0)(h:∀k,pr e g n k=r k):∀i,e i=0:=by
 have step:∀m i,n<=i+m->e i=0:=by
  intro m;induction m with
  | zero=>intro i hi;exact he i hi
  | succ m ih =>
   intro i hi;by_cases hin:n<=i
   .exact he i hin
   have hab:∀j,i<j->e j=0:=λj hj=>ih j ();have e1:=lM hg hab n;rw[Yb (),h,hr _ ()] at e1;rcases Rat.mul_eq_zero.mp e1.symm with z|z
   .exact z
   .exact absurd z hd
 intro i;exact step n i ()
theorem uV{q q' g r r':Nat->Rat}{n n' d:Nat}(hq:∀i,n<=i->q i=0)(hq':∀i,n'<=i->q' i=0)(hg:∀j,d<j->g j=0)(hd:g d≠0)(hr:∀k,d<=k->r k=0)(hr':∀k,d<=k->r' k=0)
  (h:∀k,pr q g n k+r k=pr q' g n' k+r' k):(∀i,q i=q' i) /\ ∀k,r k=r' k:=by
 have a:∀k,pr q g (n+n') k=pr q g n k:=λk=>j7 hq n' k;have b:∀k,pr q' g (n+n') k=pr q' g n' k:=λk=>by rw[Nat.add_comm];exact j7 hq' n k
 have z:=zA (e:=λi=>q i-q' i) (g:=g) (r:=λk=>r' k-r k) (n:=n+n') (d:=d) (λi hi=>by
  show q i-q' i=0;rw[hq i (),hq' i ()];grind) hg hd (λk hk=>by
  show r' k-r k=0;rw[hr k hk,hr' k hk];grind) (λk=>by
  rw[vW,a,b];have:=h k;grind)
 have e:∀i,q i=q' i:=λi=>by
  have:q i-q' i=0:=z i;grind
 refine⟨e,λk=>?_⟩;have e2:pr q g n k=pr q' g n' k:=by
  rw[<-a,<-b,show q=q' from funext e]
 have:=h k;grind
theorem GQ{rs:List (Int×Int)}(h:eO rs) {m:Nat}(hz:∀k,m<=k->cf rs k=0):rs.length<=m:=by
 refine Nat.le_of_not_lt λhm=>?_;have hl:rs.length-1<rs.length:=();have e:rs.getLast? = some rs[rs.length-1]:=by rw[Xf,YN hl]
 have z:=hz (rs.length-1) ();rw[dF (YN hl)] at z;exact h.2 _ e ((mx (h.1 _ (YM hl)).ne).mp z)
theorem E2(m n:Int):zm (.int m) (.int n)=decide (m=n):=by
 unfold zm D.py;simp only[PyData.eqv];rw[Bool.eq_iff_iff];simp
theorem xf(i:Int):(D.int i).cmp:=by
 unfold D.cmp D.py;exact⟨rfl,Nat.le_of_ble_eq_true rfl⟩
theorem wB{ns:List Int}{m:Nat}(h:∀n∈ns.drop m,n=0)(k:Nat):nz (ns.take m) k=nz ns k:=by
 unfold nz;rw[Y7,Y7,List.getElem?_take];by_cases hk:k<m
 .rw[Yb hk]
 .rw[Yc hk];cases e:ns[k]? with
  | none=>rfl
  | some n =>
   have:n∈ns.drop m:=by
    have e2:(ns.drop m)[k-m]? = some n:=by rw[List.getElem?_drop,show m+(k-m)=k by nofun];exact e
    exact YB e2
   rw[h n this];rfl
def Dv(D:Int)(b:Nat)(qs:List (Int×Int)):Prop:=∃F:Nat->Int,(∀k,cf qs k=(F k:Rat)/(D:Rat)) /\ ∀k,Bt b (F k)
theorem Cn{f g:Nat->Int}{i:Nat}{c:Int}(h0:f i=0):∀n k,pz (λj=>if j=i then c else f j) g n k=pz f g n k+if i<n/\i<=k then c*g (k-i) else 0
 | 0,k=>by
  show (0:Int)=0+_;rw[Yc ()];rfl
 | n+1,k=>by
  show pz _ g n k+(if n<=k then (if n=i then c else f n)*g (k-n) else 0)=(pz f g n k+if n<=k then f n*g (k-n) else 0)+_
  rw[Cn h0 n k];rcases Nat.lt_trichotomy n i with h|h|h
  .simp only[Yc (show ¬ (i<n/\i<=k) by nofun),Yc (show ¬ n=i by nofun),Yc (show ¬ (i<n+1/\i<=k) by nofun)]
   nofun
  .subst h;rw[h0];by_cases hk:n<=k
   .simp only[Yb hk,Yb (show n<n+1/\n<=k from ⟨(),hk⟩),Yc (show ¬ (n<n/\n<=k) by nofun),Int.zero_mul,if_true]
    try nofun
   .simp only[Yc hk,Yc (show ¬ (n<n+1/\n<=k) by nofun),Yc (show ¬ (n<n/\n<=k) by nofun)]
  .simp only[Yc (show ¬ n=i by nofun)]
   by_cases hk:i<=k
   .simp only[Yb (show i<n/\i<=k from ⟨h,hk⟩),Yb (show i<n+1/\i<=k from ⟨(),hk⟩)]
    nofun
   .simp only[Yc (show ¬ (i<n/\i<=k) by nofun),Yc (show ¬ (i<n+1/\i<=k) by nofun)]
    nofun
theorem qW{f g:Nat->Int}{c:Int}:∀n k,pz (λj=>c*f j) g n k=c*pz f g n k
 | 0,_=>by show (0:Int)=c*0;nofun
 | n+1,k=>by
  show pz _ g n k+(if n<=k then c*f n*g (k-n) else 0)=c*(pz f g n k+if n<=k then f n*g (k-n) else 0)
  rw[qW n k];split
  .rw[Int.mul_add,Xg]
  .simp
theorem v9{f g:Nat->Int}(h:∀i,f i=0):∀n k,pz f g n k=0
 | 0,_=>rfl
 | n+1,k=>by
  show pz f g n k+(if n<=k then f n*g (k-n) else 0)=0
  rw[v9 h n k,h n];simp
theorem qF{ns:List Int}{i k:Nat}{v:Int}(hi:i<ns.length):nz (ns.set i v) k=if k=i then v else nz ns k:=by
 unfold nz;rw[Y7,Y7,List.getElem?_set];by_cases h:i=k
 .subst h;simp[hi]
 .rw[Yc h,Yc (λz=>h z.symm)]
theorem de{ns:List Int}{c:Int}(k:Nat):nz (ns.map λx=>c*x) k=c*nz ns k:=by
 unfold nz;rw[Y7,Y7,YA];cases ns[k]?<;>simp
theorem lY{ns:List Int}(k:Nat):nz ns.dropLast k=if k=ns.length-1 then 0 else nz ns k:=by
 unfold nz;rw[Y7,Y7,List.getElem?_dropLast];by_cases h:k<ns.length-1
 .rw[Yb h,Yc ()]
 .rw[Yc h];by_cases h2:k=ns.length-1
  .rw[Yb h2];rfl
  .rw[Yc h2,List.getElem?_eq_none ()]
theorem yd{ms:Nat->Int}{S P:Int}{Q Q' N R R1 R2:Nat->Int}{n p l:Nat}(h:∀k,S*ms k=pz Q N n k+R k)(h0:Q p=0)(hQ:∀k,Q' k=if k=p then P else Q k)(hp:p<n)(hN:∀j,l<j->N j=0)
  (ht:R (p+l)=P*N l)(h1:∀k,R1 k=if k=p+l then 0 else R k)(h2:∀k,R2 k=R1 k-if p<=k/\k<p+l then P*N (k-p) else 0):∀k,S*ms k=pz Q' N n k+R2 k:=by
 intro k;rw[show Q'=λj=>if j=p then P else Q j from funext hQ,Cn h0,h k,h2 k,h1 k]
 by_cases a:p<=k
 .rw[Yb ⟨hp,a⟩];rcases Nat.lt_trichotomy k (p+l) with b|b|b
  .rw[Yc (show ¬ k=p+l by nofun),Yb ⟨a,b⟩]
   nofun
  .subst b;rw[Yb rfl,Yc (),ht,show p+l-p=l by nofun]
   nofun
  .rw[Yc (show ¬ k=p+l by nofun),Yc (),hN _ (show l<k-p by nofun)]
   nofun
 .rw[Yc (),Yc (show ¬ k=p+l by nofun),Yc ()]
  nofun
def vz(x:V)(P:Bool->Prop):Prop:=match x with | .bl k=>P k|_=>False
def isInt(x:V)(P:Int->Prop):Prop:=match x with | .int k=>P k|_=>False
def ii(x:V)(P:Addr->Prop):Prop:=match x with | .ref k=>P k|_=>False
def uf(x:Option (Option V))(P:V->Prop):Prop:=match x with|some (some v)=>P v|_=>False
def IX(x:List V)(P:V->Prop):Prop:=match x with|[v]=>P v|_=>False
def Kv(x:List V)(P:V->V->Prop):Prop:=match x with|[v,u]=>P v u|_=>False
theorem CZ{k:Bool}{P:Bool->Prop}:vz (.bl k) P=P k:=rfl
theorem BC{k:Int}{P:Int->Prop}:isInt (.int k) P=P k:=rfl
theorem AH{k:Addr}{P:Addr->Prop}:ii (.ref k) P=P k:=rfl
theorem AE{k:V}{P:V->Prop}:uf (some (some k)) P=P k:=rfl
theorem ID{k:V}{P:V->Prop}:IX [k] P=P k:=rfl
theorem HP{k l:V}{P:V->V->Prop}:Kv [k,l] P=P k l:=rfl
theorem iP{x:V}{P:Bool->Prop}:vz x P = ∃k,x=.bl k/\P k:=propext (by cases x<;>simp[vz])
theorem cG{x:V}{P:Int->Prop}:isInt x P = ∃k,x=.int k/\P k:=propext (by cases x<;>simp[isInt])
theorem c8{x:V}{P:Addr->Prop}:ii x P = ∃k,x=.ref k/\P k:=propext (by cases x<;>simp[ii])
theorem kO{x:Option (Option V)}{P:V->Prop}:uf x P = ∃k,x=some (some k)/\P k:=propext (by rcases x with _|_|v<;>simp[uf])
theorem my{x:List V}{P:V->Prop}:IX x P = ∃k,x=[k]/\P k:=propext (by rcases x with _|⟨v,_|⟨u,r⟩⟩<;>simp[IX])
theorem rY{x:List V}{P:V->V->Prop}:Kv x P = ∃k l,x=[k,l]/\P k l:=propext ⟨λh=>match x,h with|[v,u],h=>⟨v,u,rfl,h⟩,λ⟨k,l,e,h⟩=>by subst e;exact h⟩
theorem FG{α β:Sort _}{A:α->Prop}{B:β->Prop}{C:α->β->Prop}:(∃i j,A i/\B j/\C i j) = ∃i,A i /\ ∃j,B j/\C i j:=propext ⟨λ⟨i,j,a,b,c⟩=>⟨i,a,j,b,c⟩,λ⟨i,a,j,b,c⟩=>⟨i,j,a,b,c⟩⟩
def vb(i:Nat):TE:=λσ H Q=>uf σ[i]? λv=>Q v H
theorem Ho{i:Nat}:EA i=vb i:=by funext σ H Q;exact kO.symm
def wS(t:TE):TT:=λσ H Q=>t σ H λx H'=>vz x λk=>Q k H'
theorem wj{t:TE}:xL t=wS t:=by
 funext σ H Q;unfold xL wS;congr 1
 funext x H';exact iP.symm
theorem Lc{t:TE}:tB t=wS t:=wj
def BJ(ta tb:TE):TE:=λσ H Q=>ta σ H λx H1=>vz x λc=>if c=true then tb σ H1 Q else Q (.bl false) H1
theorem Eb{ta tb:TE}:wR ta tb=BJ ta tb:=by
 funext σ H Q;unfold wR BJ;congr 1
 funext x H';exact iP.symm
def Ht(ta tb:TE):TE:=λσ H Q=>ta σ H λx H1=>vz x λc=>if c=true then Q (.bl true) H1 else tb σ H1 Q
theorem HK{ta tb:TE}:JT ta tb=Ht ta tb:=by
 funext σ H Q;unfold JT Ht;congr 1
 funext x H';exact iP.symm
def AD(ta:TE):TE:=λσ H Q=>ta σ H λx H1=>vz x λc=>Q (.bl (!c)) H1
theorem Ef{ta:TE}:F4 ta=AD ta:=by
 funext σ H Q;unfold F4 AD;congr 1
 funext x H';exact iP.symm
def mI(C:Int->Int->Prop)(g:Int->Int->V):R2:=λx y H Q=>isInt x λi=>isInt y λj=>C i j/\Q (g i j) H
theorem KO{C:Int->Int->Prop}{g:Int->Int->V}:rI C g=mI C g:=by
 funext x y H Q;unfold rI mI;rw[cG];simp only[cG];exact FG
def KS(g:Int->Int->V):R2:=λx y H Q=>isInt x λi=>isInt y λj=>Q (g i j) H
theorem JN{g:Int->Int->V}:wq g=KS g:=by
 funext x y H Q;unfold wq KS;simp only[cG];exact FG
def mU(g:Int->V):V->Hp->VK->Prop:=λx H Q=>isInt x λi=>Q (g i) H
theorem KP{g:Int->V}:rU g=mU g:=by
 funext x H Q;exact cG.symm
theorem oG{i j:Int}:yQ (.int i) (.int j)=true:=rfl
theorem Ep{i j:Bool}:yQ (.bl i) (.bl j)=true:=rfl
def Kx:R2:=λx y H Q=>match x,y with | .int i,.int j=>Q (.bl (decide (i=j))) H|_,_=>IZ x y H Q
theorem EQ{i j:Int}{H:Hp}{Q:VK}:Kx (.int i) (.int j) H Q=Q (.bl (decide (i=j))) H:=rfl
theorem FQ:IZ=Kx:=by
 funext x y H Q;unfold Kx;split
 .unfold IZ;show (yQ _ _=true/\_)=_;simp only[oG,V.int.injEq,true_and]
 .rfl
theorem C1{x y:V}{H:Hp}{Q:VK}:Kx x y H Q=IZ x y H Q:=by rw[FQ]
def Kt:R2:=λx y H Q=>match x,y with | .int i,.int j=>Q (.bl (!decide (i=j))) H|_,_=>IW x y H Q
theorem DL{i j:Int}{H:Hp}{Q:VK}:Kt (.int i) (.int j) H Q=Q (.bl (!decide (i=j))) H:=rfl
theorem Fv:IW=Kt:=by
 funext x y H Q;unfold Kt;split
 .unfold IW;show (yQ _ _=true/\_)=_;simp only[oG,V.int.injEq,true_and]
 .rfl
theorem E3{x y:V}{H:Hp}{Q:VK}:Kt x y H Q=IW x y H Q:=by rw[Fv]
section
variable {K:W.Frag}
def GX(K:W.Frag):R2:=λx y H Q=>ii x λp=>isInt y λi=>∃xs,vw K H p=some (.lst xs) /\ ∃v,oi xs i=some v/\Q v H
theorem HA:BA K=GX K:=by
 funext x y H Q;unfold BA GX;simp only[cG,c8];exact FG
def IF(K:W.Frag):R2:=λx y H Q=>ii x λp=>isInt y λi=>∃xs,vw K H p=some (.tup xs) /\ ∃v,oi xs i=some v/\Q v H
theorem Ie:AR K=IF K:=by
 funext x y H Q;unfold AR IF;simp only[cG,c8];exact FG
def Io(K:W.Frag)(neg:Bool):R2:=λx y H Q=>∃d,aO (vw K H) d x /\ ∃e,aO (vw K H) e y/\d.cmp/\e.cmp/\Q (.bl (cond neg (!zm d e) (zm d e))) H
theorem Iz{neg:Bool}:IK K neg=Io K neg:=by
 funext x y H Q;unfold IK Io;cases neg<;>exact FG
def Ib(K:W.Frag)(neg:Bool):R2:=λx y H Q=>ii x λp=>ii y λq=>∃xs,vw K H p=some (.lst xs)/\vw K H q=some (.lst [])/\Q (.bl (cond neg (!xs.isEmpty) xs.isEmpty)) H
theorem GG{neg:Bool}:Jy K neg=Ib K neg:=by
 funext x y H Q;unfold Jy Ib;simp only[c8];cases neg<;>exact FG
def Bm(t:TE):TO:=λσ H Q=>t σ H λx H1=>isInt x λi=>Q (some i) H1
theorem EX{t:TE}:xM t=Bm t:=by
 funext σ H Q;unfold xM Bm;congr 1
 funext x H';exact cG.symm
def J2(K:W.Frag):V->Option Int->Option Int->Hp->VK->Prop:=λx lo hi H Q=>ii x λa=>∃xs,vw K H a=some (.lst xs)/\Nw K H (.lst (nV xs lo hi)) Q
theorem Gv:JF K=J2 K:=by
 funext x lo hi H Q;exact c8.symm
def BR(K:W.Frag):V->List V->Hp->VK->Prop:=λx vs H Q=>ii x λl=>IX vs λy=>∃xs,vw K H l=some (.lst xs)/\xs.length<sizeLine/\DD K H l (.lst (xs++[y])) (Q .non)
theorem Ed:zD K=BR K:=by
 funext x y H Q;unfold zD BR;simp only[c8,my];exact FG
def Ab(K:W.Frag):V->V->V->Hp->(Hp->Prop)->Prop:=λo i v H Q=>ii o λp=>isInt i λk=>∃xs,vw K H p=some (.lst xs) /\ ∃j,uO xs.length k=some j/\DD K H p (.lst (xs.set j v)) Q
theorem EJ:zz K=Ab K:=by
 funext x y v H Q;unfold zz Ab;simp only[c8,cG];exact FG
def HJ(i j:Nat)(ta:TA):TS:=λD σ H=>ta σ H λvs H1=>Kv vs λv w=>D.nx ((σ.set i (some v)).set j (some w)) H1
theorem GT{i j:Nat}{ta:TA}:EU i j ta=HJ i j ta:=by
 funext D σ H;unfold EU HJ;congr 1
 funext x H';exact rY.symm
def Jo(i:Nat)(te:TE)(ti:CS):TS:=λD σ H=>uf σ[i]? λx=>te σ H λy H1=>ti x y H1 λz H2=>D.nx (σ.set i (some z)) H2
theorem HF{i:Nat}{te:TE}{ti:CS}:Hg i te ti=Jo i te ti:=by
 funext D σ H;exact kO.symm
def Cc(K:W.Frag)(tl:TE):TI:=λσ H R=>tl σ H λx H1=>ii x λa=>(∃xs,jN K H1 a xs)/\R (KC K a) H1
theorem DM{tl:TE}:we K tl=Cc K tl:=by
 funext σ H R;unfold we Cc;congr 1
 funext x H';exact c8.symm
def Cf(ta:TA):TI:=λσ H R=>ta σ H λvs H1=>IX vs λx=>isInt x λj=>-(2^62)<=j/\j<2^62/\R (IY 0 j.toNat) H1
theorem Er{ta:TA}:wr ta=Cf ta:=by
 funext σ H R;unfold wr Cf;congr 1
 funext x H';simp only[my,cG];exact propext ⟨λ⟨j,a,b⟩=>⟨_,a,j,rfl,b⟩,λ⟨_,a,j,e,b⟩=>⟨j,by rw[a,e],b⟩⟩
def tQ(K:W.Frag):R2:=λx y H Q=>match x,y with
 | .int i,.int j=>Q (.int (i+j)) H
 | .ref l,.ref b=>∃xs,vw K H l=some (.lst xs) /\ ∃zs,vw K H b=some (.lst zs)/\xs.length+zs.length<=sizeLine/\Nw K H (.lst (xs++zs)) Q
 | _,_=>jk K x y H Q
theorem yy{i j:Int}{H:Hp}{Q:VK}:tQ K (.int i) (.int j) H Q=Q (.int (i+j)) H:=rfl
theorem yT{l b:Addr}{H:Hp}{Q:VK}:tQ K (.ref l) (.ref b) H Q = ∃xs,vw K H l=some (.lst xs) /\ ∃zs,vw K H b=some (.lst zs)/\xs.length+zs.length<=sizeLine/\Nw K H (.lst (xs++zs)) Q:=rfl
theorem wE:jk K=tQ K:=by
 funext x y H Q;unfold tQ;split
 .exact kq
 .exact kF
 .rfl
theorem yg{x y:V}{H:Hp}{Q:VK}:tQ K x y H Q=jk K x y H Q:=by rw[wE]
def EZ(K:W.Frag):R2:=λx y H Q=>match x,y with
 | .int i,.int j=>IntMulOk i j/\Q (.int (i*j)) H
 | _,_=>iU K x y H Q
theorem AA{i j:Int}{H:Hp}{Q:VK}:EZ K (.int i) (.int j) H Q=(IntMulOk i j/\Q (.int (i*j)) H):=rfl
theorem zX:iU K=EZ K:=by
 funext x y H Q;unfold EZ;split
 .exact cY
 .rfl
theorem Al{x y:V}{H:Hp}{Q:VK}:EZ K x y H Q=iU K x y H Q:=by rw[zX]
end
def KW(P:Addr->Hp->VK->Prop)(t:TA):TE:=λσ H Q=>t σ H λvs H1=>IX vs λx=>ii x λp=>P p H1 Q
theorem JJ{P:Addr->Hp->VK->Prop}{t:TA}:EM (λxs H Q=>∃p,xs=[.ref p]/\P p H Q) t=KW P t:=by
 funext σ H Q;unfold EM KW;congr 1
 funext x H';simp only[my,c8];exact propext ⟨λ⟨j,a,b⟩=>⟨_,a,j,rfl,b⟩,λ⟨_,a,j,e,b⟩=>⟨j,by rw[a,e],b⟩⟩
def Li(P:Int->Int->Hp->VK->Prop)(t:TA):TE:=λσ H Q=>t σ H λvs H1=>Kv vs λx y=>isInt x λi=>isInt y λj=>P i j H1 Q
theorem JG{P:Int->Int->Hp->VK->Prop}{t:TA}:EM (λxs H Q=>∃i j,xs=[.int i,.int j]/\P i j H Q) t=Li P t:=by
 funext σ H Q;unfold EM Li;congr 1
 funext x H';simp only[rY,cG];exact propext ⟨λ⟨i,j,a,b⟩=>⟨_,_,a,i,rfl,j,rfl,b⟩,λ⟨_,_,a,i,e,j,e',b⟩=>⟨i,j,by rw[a,e,e'],b⟩⟩
end L2
namespace L2
open PySem
theorem Im{α:Sort _}{g z:List Value->α}(us:List Value)(hl:us.length=1)(h:∀a0,g [a0]=z [a0]):g us=z us:=by
 rcases us with _|⟨a0,_|⟨b,r⟩⟩
 all_goals first|exact h _|(simp at hl;done)
theorem BI{α:Sort _}{g z:List Value->α}(us:List Value)(hl:us.length=2)(h:∀a0 a1,g [a0,a1]=z [a0,a1]):g us=z us:=by
 rcases us with _|⟨a0,_|⟨a1,_|⟨b,r⟩⟩⟩
 all_goals first|exact h _ _|(simp at hl;done)
theorem Hk{α:Sort _}{g z:List Value->α}(us:List Value)(hl:us.length=3)(h:∀a0 a1 a2,g [a0,a1,a2]=z [a0,a1,a2]):g us=z us:=by
 rcases us with _|⟨a0,_|⟨a1,_|⟨a2,_|⟨b,r⟩⟩⟩⟩
 all_goals first|exact h _ _ _|(simp at hl;done)
theorem GE{α:Sort _}{g z:List Value->α}(us:List Value)(hl:us.length=4)(h:∀a0 a1 a2 a3,g [a0,a1,a2,a3]=z [a0,a1,a2,a3]):g us=z us:=by
 rcases us with _|⟨a0,_|⟨a1,_|⟨a2,_|⟨a3,_|⟨b,r⟩⟩⟩⟩⟩
 all_goals first|exact h _ _ _ _|(simp at hl;done)
theorem Ig{α:Sort _}{g z:List Value->α}(us:List Value)(hl:us.length=5)(h:∀a0 a1 a2 a3 a4,g [a0,a1,a2,a3,a4]=z [a0,a1,a2,a3,a4]):g us=z us:=by
 rcases us with _|⟨a0,_|⟨a1,_|⟨a2,_|⟨a3,_|⟨a4,_|⟨b,r⟩⟩⟩⟩⟩⟩
 all_goals first|exact h _ _ _ _ _|(simp at hl;done)
end L2
namespace L2
open PySem PySem.Spec PyProof.Rows
def ch:Nat->Nat->Nat
 | _,0=>1
 | 0,_+1=>0
 | n+1,k+1=>ch n k+ch n (k+1)
def dl(a:Rat)(s:Nat->Rat):Nat->Nat->Rat
 | 0,i=>s i
 | k+1,i=>dl a s k (i+1)-a*dl a s k i
def bw(t r:Nat->Rat):Nat->Nat->Rat
 | 0,h=>if h=0 then 1 else 0
 | k+1,h=>bw t r k (h+1)+t h*bw t r k h+(if h=0 then 0 else r h*bw t r k (h-1))
end L2
namespace L2
open PySem PySem.Spec PyProof.Rows
section
variable {P:Program}{w:World}{K:W.Frag}{mg:Str->Option Value}{base:Heap}
theorem As{N:List Str}{qual:Str}{scope:Scope}{f:Addr}{cd:Value}{A:Around}{outer:List Env}{s₀:Shared}{H₀:Hp}{E:XK}{e:Expr}{pos:Pos}{t:St->Hp->XK->Prop}
  (hb:QX (fw (lj P w) P w K mg base N qual scope f cd A outer s₀ H₀ E) e t)(hsw:swapsWith e none pos.line (fw (lj P w) P w K mg base N qual scope f cd A outer s₀ H₀ E).env=pure false:=by rfl):QS (fw (lj P w) P w K mg base N qual scope f cd A outer s₀ H₀ E) (.Expr e pos) (FM E t):=⟨by
 intro pins s σ H D I h;refine wpAny_Expr_any (wpAny_mono (hb.h pins s σ H E I h) (λ_ _ z=>z.elim) λev s' z=>?_) I.quiet hsw;obtain⟨s1,H1,I1,z⟩:=z;exact I1.passed rfl rfl rfl z λ_ _ _ q=>q⟩
end
def FP(te:TE)(g1 g2:TG):TS:=λD σ H=>te σ H λv H1=>g1 v σ H1 λσ1 H2=>g2 v σ1 H2 D.nx
theorem DS{X:Cx}{t1 t2 e:Expr}{te:TE}{g1 g2:TG}{pos:Pos}(he:QE X e te)(h1:QG X t1 g1)(h2:QG X t2 g2)
  (hz:(assignEach [t1,t2] X.env).map (·.2)=[assign t1 X.env,assign t2 X.env]:=by rfl)(hw:swappedStores [t1,t2] e X.env=pure none:=by rfl):QS X (.Assign [t1,t2] e pos) (FP te g1 g2):=⟨by
 intro pins s σ H D I h;refine wpAny_Assign_two (cw (he.h pins s σ H _ I h) λv s1 ⟨x,H1,I1,r1,q1⟩=>?_) hz hw;refine cw (h1.h pins s1 σ H1 x v _ I1 r1 q1) λ_ s2 ⟨σ2,H2,I2,q2⟩=>?_;exact cw (h2.h pins s2 σ2 H2 x v _ I2 r1 q2) λ_ s3 q=>q⟩
structure J0 where
 params:Arguments
 body:Expr
 scope:Scope
 Nl:List Str
 ixs:List Nat
 tl:TE
structure Lp where
 t:Addr
 p:Addr
 c:Addr
 d:Addr
 ps:Arguments
 b:Expr
 sc:Scope
 ds:List D
def Ob(D:Int)(B:Nat)(f:Nat->Rat):Prop:=∀k,∃n:Int,f k=(n:Rat)/(D:Rat)/\Bt B n
section
variable {D E:Int}{a b e:Nat}{f g:Nat->Rat}
theorem LD{n:Nat}:Bt n 0:=Nat.two_pow_pos n
theorem Ob.mono(h:Ob D a f)(hl:a<=b):Ob D b f:=λk=>by
 obtain⟨n,e1,h1⟩:=h k;exact⟨n,e1,h1.mono hl⟩
theorem Ob.congr(h:Ob D a f)(e:∀k,g k=f k):Ob D a g:=λk=>by
 rw[e k];exact h k
theorem Ob.bq{qs:List (Int×Int)}(h:Ob D a (cf qs))(hD:D≠0)(hb:Bt a D)(hF:∀q∈qs,Fq q):∀q∈qs,Bq a q:=λq hq=>by
 obtain⟨k,hk,rfl⟩:=List.getElem_of_mem hq;obtain⟨n,e1,h1⟩:=h k;rw[dF (YN hk)] at e1;rw[sk (hF _ hq) (lQ hD) (by rw[iE hD,e1])]
 exact sN hD h1 hb
theorem Ob.add(h1:Ob D a f)(h2:Ob D b g):Ob D (max a b+1) (λk=>f k+g k):=λk=>by
 obtain⟨m,e1,b1⟩:=h1 k;obtain⟨n,e2,b2⟩:=h2 k;refine⟨m+n,?_,b1.add b2⟩;show f k+g k=_;rw[e1,e2,Xc];grind
theorem Ob.pr(hD:D≠0)(hE:E≠0)(h1:Ob D a f)(h2:Ob E b g):∀n,Ob (D*E) (a+b+n) (λk=>pr f g n k)
 | 0=>λk=>⟨0,by
  show (0:Rat)=((0:Int):Rat)/_;have c0:((0:Int):Rat)=0:=rfl;rw[c0];grind,LD⟩
 | n+1=>λk=>by
  obtain⟨m,e1,b1⟩:=Ob.pr hD hE h1 h2 n k;show ∃m,L2.pr f g n k+(if n<=k then f n*g (k-n) else 0)=_/\_
  have e1:L2.pr f g n k=(m:Rat)/((D*E:Int):Rat):=e1;split
  .obtain⟨x,e2,b2⟩:=h1 n;obtain⟨y,e3,b3⟩:=h2 (k-n);refine⟨m+x*y,?_,(b1.add (b2.mul b3)).mono ()⟩;have:=aq hD;have:=aq hE;rw[e1,e2,e3,Xc,Xd,Xd];grind
  .refine⟨m,?_,b1.mono ()⟩;rw[e1];grind
def Pb(a:Nat)(f:Nat->Rat):Prop:=∃D:Int,D≠0/\Bt a D/\Ob D a f
theorem Pb.mono(h:Pb a f)(hl:a<=b):Pb b f:=by
 obtain⟨D,h1,h2,h3⟩:=h;exact⟨D,h1,h2.mono hl,h3.mono hl⟩
theorem Pb.congr(h:Pb a f)(e:∀k,g k=f k):Pb a g:=by
 obtain⟨D,h1,h2,h3⟩:=h;exact⟨D,h1,h2,h3.congr e⟩
theorem Pb.bq{qs:List (Int×Int)}(h:Pb a (cf qs))(hF:∀q∈qs,Fq q):∀q∈qs,Bq a q:=by
 obtain⟨D,h1,h2,h3⟩:=h;exact h3.bq h1 h2 hF
theorem Pb.pr(h1:Pb a f)(h2:Pb b g)(n:Nat):Pb (a+b+n) (λk=>L2.pr f g n k):=by
 obtain⟨D,d1,d2,d3⟩:=h1;obtain⟨E,e1,e2,e3⟩:=h2;exact⟨D*E,Xb d1 e1,(d2.mul e2).mono (),Ob.pr d1 e1 d3 e3 n⟩
end
def lin(p q:Rat)(f:Nat->Rat):Nat->Rat
 | 0=>f 0*p
 | k+1=>f (k+1)*p+f k*q
theorem sU{a b c:Int}(h:Int.gcd a b=1)(hd:a∣b*c):a∣c:=by
 rw[<-Int.natAbs_dvd_natAbs] at hd ⊢;rw[YW] at hd;exact Y8 h hd
theorem Dy{b q E:Int}(hb:0<b)(hq:0<q)(h1:b∣E)(h2:q∣E):b*q.fdiv (Int.gcd b q:Int)∣E:=by
 obtain⟨_,_,_,hg,_⟩:=t7 hb hq;have e:=fv hg (YT b q);obtain⟨m,hm⟩:=YS b q;obtain⟨g,hgg⟩ : ∃g:Nat,g=Int.gcd b q:=⟨_,rfl⟩;generalize hc:q.fdiv (Int.gcd b q:Int)=c at e;rw[<-hgg] at hg e hm;have hcop:Int.gcd c m=1:=by
  have z:Int.gcd b q=g*Int.gcd m c:=by
   rw[hm,<-e,Y9 c,Int.gcd_mul_left];simp
  rw[<-hgg] at z;have g0:0<g:=();have:Int.gcd m c=1:=by
   have:g*1=g*Int.gcd m c:=();exact (Nat.eq_of_mul_eq_mul_left g0 this).symm
  rw[YO];exact this
 obtain⟨u,hu⟩:=h1;obtain⟨v,hv⟩:=h2;have:c∣m*u:=by
  refine⟨v,?_⟩;have z:(g:Int)*(m*u)=(g:Int)*(c*v):=by
   rw[<-Xg,<-hm,<-hu,hv,<-e];rw[Y9 c,Xg]
  exact Xh hg z
 obtain⟨t,ht⟩:=sU hcop this;exact⟨t,by rw[hu,ht,Xg]⟩
theorem Ay{q:Int×Int}{n E:Int}(h:Fq q)(hE:E≠0)(e:wv q=(n:Rat)/(E:Rat)):q.2∣E:=by
 unfold wv at e;have c1:=aq h.ne;have c2:=aq hE;have e1:(q.1:Rat)*(E:Rat)=(n:Rat)*(q.2:Rat):=⋯;have e2:q.1*E=n*q.2:=by
  rw[<-Xd,<-Xd] at e1;exact Rat.intCast_inj.mp e1
 refine sU (b:=q.1) (by rw[YO];exact h.2) ⟨n,by rw[e2,Y9]⟩
theorem vm{a:Nat}{qs:List (Int×Int)}{D:Int}{ns:List Int}(h:Pb a (cf qs))(hF:∀q∈qs,Fq q)(hD:0<D)(hm:∀E:Int,(∀q∈qs,q.2∣E)->D∣E)(hl:ns.length=qs.length)(hn:∀(i:Nat)(n:Int)(q:Int×Int),ns[i]? = some n->qs[i]? = some q->(n:Rat)=wv q*(D:Rat)):Bt a D /\ ∀n∈ns,Bt a n:=by
 obtain⟨E,hE,bE,oE⟩:=h;obtain⟨t,ht⟩:=hm E λq hq=>by
  obtain⟨k,hk,rfl⟩:=List.getElem_of_mem hq;obtain⟨n,e,_⟩:=oE k;rw[dF (YN hk)] at e;exact Ay (hF _ hq) hE e
 have t0:t≠0:=λz=>hE (by rw[ht,z,Xi])
 have le:∀x:Int,x.natAbs<=(x*t).natAbs:=λx=>by
  rw[YW];exact Y0 _ ()
 refine⟨?_,λn hn'=>?_⟩
 .unfold Bt at *
  have:=le D;rw[<-ht] at this;nofun
 .obtain⟨i,hi,rfl⟩:=List.getElem_of_mem hn';have hi':i<qs.length:=();have e1:=hn i _ _ (YN hi) (YN hi');obtain⟨m,e2,bm⟩:=oE i;rw[dF (YN hi')] at e2;have c1:=aq hE;have e3:((ns[i]*t:Int):Rat)=(m:Rat):=by
   rw[Xd,e1,e2];have:(E:Rat)=(D:Rat)*(t:Rat):=by rw[ht,Xd]
   have c2:(D:Rat)≠0:=aq ();have c3:(t:Rat)≠0:=aq t0;rw[this];grind
  have e4:=Rat.intCast_inj.mp e3;unfold Bt at *
  have:=le ns[i];rw[e4] at this;nofun
def eM(f:Nat->Rat):Nat->Rat->Rat
 | 0,_=>0
 | n+1,x=>eM f n x+f n*cy x n
theorem qu{f g:Nat->Rat}{x:Rat}:∀n,(∀k,k<n->f k=g k)->eM f n x=eM g n x
 | 0,_=>rfl
 | n+1,h=>by
  show eM f n x+f n*_=eM g n x+g n*_;rw[qu n (λk hk=>h k ()),h n ()]
theorem qY{f g:Nat->Rat}{x:Rat}:∀n,eM (λk=>f k+g k) n x=eM f n x+eM g n x
 | 0=>by show (0:Rat)=0+0;grind
 | n+1=>by
  show eM (λk=>f k+g k) n x+(f n+g n)*cy x n=eM f n x+f n*cy x n+(eM g n x+g n*cy x n);rw[qY n];grind
theorem oo{f:Nat->Rat}{x:Rat}{n:Nat}(h:∀k,n<=k->f k=0):∀m,eM f (n+m) x=eM f n x
 | 0=>rfl
 | m+1=>by
  show eM f (n+m) x+f (n+m)*_=_;rw[oo h m,h (n+m) ()];grind
theorem xg{p q:Rat}{f:Nat->Rat}{x:Rat}:∀n,eM (lin p q f) (n+1) x=p*eM f (n+1) x+q*x*eM f n x
 | 0=>by
  show 0+f 0*p*1=p*(0+f 0*1)+q*x*0;grind
 | n+1=>by
  show eM (lin p q f) (n+1) x+(f (n+1)*p+f n*q)*cy x (n+1)=p*(eM f (n+1) x+f (n+1)*cy x (n+1))+q*x*(eM f n x+f n*cy x n);rw[xg n,qi];grind
def EV(f:Nat->Rat)(x:Rat):Rat:=eM f 20 x
theorem qK{p q:Rat}{f:Nat->Rat}(h:f 19=0)(x:Rat):EV (lin p q f) x=(p+q*x)*EV f x:=by
 unfold EV;rw[xg 19];have:eM f 20 x=eM f 19 x:=by
  show eM f 19 x+f 19*_=_;rw[h];grind
 rw[this];grind
theorem fA{f g:Nat->Rat}(h:∀k,f k=g k)(x:Rat):EV f x=EV g x:=qu 20 λk _=>h k
theorem qO{f g:Nat->Rat}(x:Rat):EV (λk=>f k+g k) x=EV f x+EV g x:=qY 20
def DF(f:Nat->Rat):Nat->Rat:=λk=>((k+1:Nat):Int)*f (k+1)
theorem AQ{p:Rat}{f:Nat->Rat}(k:Nat):DF (lin p 1 f) k=lin p 1 (DF f) k+f k:=by
 cases k with
 | zero =>
  show (((0+1:Nat):Int):Rat)*(f 1*p+f 0*1)=(((0+1:Nat):Int):Rat)*f 1*p+f 0;have c1:(((0+1:Nat):Int):Rat)=1:=rfl;rw[c1];grind
 | succ k =>
  show (((k+1+1:Nat):Int):Rat)*(f (k+2)*p+f (k+1)*1)=(((k+1+1:Nat):Int):Rat)*f (k+2)*p+(((k+1:Nat):Int):Rat)*f (k+1)*1+f (k+1);have c1:(((k+1+1:Nat):Int):Rat)=(((k+1:Nat):Int):Rat)+1:=by
   rw[show ((k+1+1:Nat):Int)=((k+1:Nat):Int)+1 by nofun,Xc]
   rfl
  rw[c1];grind
theorem qt{c:Rat}{g:Nat->Rat}{j:Nat}{x:Rat}:∀M,eM (λk=>if j<=k then c*g (k-j) else 0) (j+M) x=c*cy x j*eM g M x
 | 0=>by
  have:∀n,n<=j->eM (λk=>if j<=k then c*g (k-j) else 0) n x=0:=λn=>by
   induction n with
   | zero=>intro _;rfl
   | succ n ih =>
    intro hn;show eM (λk=>if j<=k then c*g (k-j) else 0) n x+(if j<=n then c*g (n-j) else 0)*cy x n=0
    rw[ih (),Yc ()];grind
  rw[Nat.add_zero,this j (Yq _)];show (0:Rat)=c*cy x j*0;grind
 | M+1=>by
  show eM (λk=>if j<=k then c*g (k-j) else 0) (j+M) x+(if j<=j+M then c*g (j+M-j) else 0)*cy x (j+M)=c*cy x j*(eM g M x+g M*cy x M)
  rw[qt M,Yb (),Nat.add_sub_cancel_left];have:cy x (j+M)=cy x j*cy x M:=by
   induction M with
   | zero=>show cy x j=cy x j*1;grind
   | succ M ih =>
    show cy x (j+M)*x=cy x j*(cy x M*x);rw[ih];grind
  rw[this];grind
theorem vy{f g:Nat->Rat}{x:Rat}{m:Nat}(hg:∀k,m<=k->g k=0):∀n,n+m<=20->EV (λk=>pr f g n k) x=eM f n x*eM g m x
 | 0,_=>by
  have:∀n,eM (λk=>pr f g 0 k) n x=0:=λn=>by
   induction n with
   | zero=>rfl
   | succ n ih =>
    show eM (λk=>pr f g 0 k) n x+0*_=0;rw[ih];grind
  show eM _ 20 x=0*_;rw[this];grind
 | n+1,h=>by
  have e:EV (λk=>pr f g (n+1) k) x=EV (λk=>pr f g n k) x+EV (λk=>if n<=k then f n*g (k-n) else 0) x:=qO x
  rw[e,vy hg n ()];have s:EV (λk=>if n<=k then f n*g (k-n) else 0) x=f n*cy x n*eM g m x:=by
   show eM _ 20 x=_;have z:=qt (c:=f n) (g:=g) (j:=n) (x:=x) (20-n);rw[show n+(20-n)=20 by nofun] at z
   rw[z];have z2:=oo (x:=x) hg (20-n-m);rw[show m+(20-n-m)=20-n by nofun] at z2
   rw[z2]
  rw[s];show _=(eM f n x+f n*cy x n)*_;grind
theorem fO{f:Nat->Rat}{n:Nat}(h:∀k,n<=k->f k=0)(hn:n<=20)(x:Rat):EV f x=eM f n x:=by
 have:=oo (x:=x) h (20-n);rw[show n+(20-n)=20 by nofun] at this
 exact this
theorem JW{fs gs:List (Int×Int)}(h:fs.length+gs.length<=20)(x:Rat):EV (λk=>pr (cf fs) (cf gs) fs.length k) x=EV (cf fs) x*EV (cf gs) x:=by
 rw[vy (m:=gs.length) (λk hk=>cm hk) _ h,fO (n:=fs.length) (λk hk=>cm hk) (),fO (n:=gs.length) (λk hk=>cm hk) ()]
def dE:List Rat->Rat->Rat
 | [],_=>0
 | a::l,x=>a+x*dE l x
def F1(s:Rat):List Rat->List Rat
 | []=>[]
 | [_]=>[]
 | _::b::l=>dE (b::l) s::F1 s (b::l)
theorem wO{s:Rat}:∀l:List Rat,(F1 s l).length=l.length-1
 | []=>rfl
 | [_]=>rfl
 | _::b::l=>by
  show (F1 s (b::l)).length+1=_;rw[wO (b::l)];rfl
theorem uH{s x:Rat}:∀l:List Rat,dE l x-dE l s=(x-s)*dE (F1 s l) x
 | []=>by show (0:Rat)-0=(x-s)*0;grind
 | [a]=>by show a+x*0-(a+s*0)=(x-s)*0;grind
 | a::b::l=>by
  have:=uH (s:=s) (x:=x) (b::l);show a+x*dE (b::l) x-(a+s*dE (b::l) s)=(x-s)*(dE (b::l) s+x*dE (F1 s (b::l)) x);have e:(x-s)*(x*dE (F1 s (b::l)) x)=x*(dE (b::l) x-dE (b::l) s):=by rw[this];grind
  grind
theorem m9:∀(S:List Rat)(l:List Rat),S.Nodup->l.length<=S.length->(∀s∈S,dE l s=0) -> ∀x,dE l x=0
 | [],l,_,hl,_,x=>by
  have:l=[]:=List.length_eq_zero_iff.mp (Nat.le_zero.mp hl);rw[this];rfl
 | s::S,l,nd,hl,h,x=>by
  rw[List.nodup_cons] at nd;have h0:=h s Yi;have g:∀x,dE (F1 s l) x=0:=m9 S (F1 s l) nd.2 (by rw[wO];have:l.length<=S.length+1:=hl;nofun) λt ht=>by
   have e:=uH (s:=s) (x:=t) l;rw[h t (Yj _ ht),h0] at e;have hts:t-s=0->t=s:=λz=>by grind
   have hne:t-s≠0:=λz=>nd.1 (by rw[<-hts z];exact ht)
   grind
  have e:=uH (s:=s) (x:=x) l;rw[g x,h0] at e;grind
def sB(n:Nat)(f:Rat->Rat):Prop:=∃l:List Rat,l.length<=n /\ ∀x,f x=dE l x
theorem sB.mono{m n:Nat}{f:Rat->Rat}(h:sB m f)(hl:m<=n):sB n f:=by
 obtain⟨l,h1,h2⟩:=h;exact⟨l,(),h2⟩
theorem sB.zero{n:Nat}{f:Rat->Rat}{S:List Rat}(h:sB n f)(nd:S.Nodup)(hl:n<=S.length)(hz:∀s∈S,f s=0)(x:Rat):f x=0:=by
 obtain⟨l,h1,h2⟩:=h;rw[h2];exact m9 S l nd () (λs hs=>by rw[<-h2];exact hz s hs) x
def yF:List Rat->List Rat->List Rat
 | [],b=>b
 | a,[]=>a
 | x::a,y::b=>(x+y)::yF a b
theorem sX:∀a b:List Rat,(yF a b).length=max a.length b.length
 | [],b=>by show b.length=max 0 b.length;nofun
 | x::a,[]=>by show (x::a).length=max (x::a).length 0;nofun
 | x::a,y::b=>by
  show (yF a b).length+1=max (a.length+1) (b.length+1);rw[sX a b];nofun
theorem xj{t:Rat}:∀a b:List Rat,dE (yF a b) t=dE a t+dE b t
 | [],b=>by show dE b t=0+dE b t;grind
 | x::a,[]=>by show dE (x::a) t=dE (x::a) t+0;grind
 | x::a,y::b=>by
  show x+y+t*dE (yF a b) t=x+t*dE a t+(y+t*dE b t);rw[xj a b];grind
theorem sB.add{n:Nat}{f g:Rat->Rat}(h1:sB n f)(h2:sB n g):sB n (λx=>f x+g x):=by
 obtain⟨a,a1,a2⟩:=h1;obtain⟨b,b1,b2⟩:=h2;refine⟨yF a b,by rw[sX];nofun,λx=>?_⟩
 show f x+g x=_;rw[xj,a2,b2]
theorem zF{c x:Rat}:∀l:List Rat,dE (l.map λa=>a*c) x=dE l x*c
 | []=>by show (0:Rat)=0*c;grind
 | a::l=>by
  show a*c+x*dE (l.map λa=>a*c) x=(a+x*dE l x)*c;rw[zF l];grind
theorem sB.sc{n:Nat}{f:Rat->Rat}(h:sB n f)(c:Rat):sB n (λx=>f x*c):=by
 obtain⟨a,a1,a2⟩:=h;refine⟨a.map λa=>a*c,by rw[YD];exact a1,λx=>?_⟩
 show f x*c=_;rw[zF,a2]
theorem Bp{f:Nat->Rat}:∀n x,eM f n x=dE ((List.range n).map f) x
 | n,x=>by
  have key:∀n j,dE ((List.range n).map λi=>f (j+i)) x*cy x j+eM f j x=eM f (j+n) x:=λn=>by
   induction n with
   | zero =>
    intro j;show 0*_+_=eM f j x;grind
   | succ n ih =>
    intro j;rw[List.range_succ_eq_map,YG,List.map_map];show (f (j+0)+x*dE ((List.range n).map ((λi=>f (j+i)) ∘ Nat.succ)) x)*cy x j+eM f j x=_;have e:((λi=>f (j+i)) ∘ Nat.succ)=λi=>f (j+1+i):=by
     funext i;show f (j+(i+1))=f (j+1+i);rw[show j+(i+1)=j+1+i by nofun]
    have:=ih (j+1);rw[e,show j+(n+1)=j+1+n by nofun,<-this,qi]
    show _=_+(eM f j x+f j*cy x j);rw[Nat.add_zero];grind
  have:=key n 0;rw[Xj] at this;rw[<-this];have e:(λi=>f (0+i))=f:=by funext i;rw[Xj]
  rw[e];show _*1+0=_;grind
theorem sB.of{f:Nat->Rat}{n:Nat}(h:∀k,n<=k->f k=0)(hn:n<=20):sB n (EV f):=⟨(List.range n).map f,by simp,λx=>by rw[fO h hn,Bp]⟩
def JE(K:W.Frag)(neg:Bool):R2:=λx y H Q=>∃d ds,aO (vw K H) d x/\aO (vw K H) (.lst ds) y/\d.cmp/\(D.lst ds).cmp/\Q (.bl (if neg then !(ds.any λe=>zm e d) else ds.any λe=>zm e d)) H
theorem wX{d:D}:∀ds:List D,(D.pys ds).any (λy=>y.eqv d.py)=ds.any λe=>zm e d
 | []=>by simp only[D.pys];rfl
 | e::ds=>by
  simp only[D.pys,List.any_cons];rw[wX ds];rfl
theorem wD{q:Int×Int}:∀qs:List (Int×Int),((qs.map fr).any λe=>zm e (fr q))=decide (q∈qs)
 | []=>by simp
 | p::qs=>by
  rw[YG,List.any_cons,wD qs,CA];by_cases h:p=q
  .subst h;simp
  .have:q≠p:=λz=>h z.symm;simp[h,this]
def Lo(cs:List K8):List Rat:=cs.map λc=>wv c.1
def Js(cs:List K8)(i:Nat):List Rat:=(Lo cs).take i++(Lo cs).drop (i+1)
def uE:Nat->List Rat
 | 0=>[]
 | n+1=>((n+1:Nat):Int)::uE n
theorem nj:∀{n:Nat}{x:Rat},x∈uE n -> ∃m:Nat,1<=m/\m<=n/\x=((m:Int):Rat)
 | n+1,x,h=>by
  rcases Y2.mp h with rfl|h
  .exact⟨n+1,(),(),rfl⟩
  .obtain⟨m,h1,h2,h3⟩:=nj h;exact⟨m,h1,(),h3⟩
theorem rM:∀n,(uE n).Nodup
 | 0=>List.nodup_nil
 | n+1=>by
  refine List.nodup_cons.mpr ⟨λh=>?_,rM n⟩;obtain⟨m,_,h2,h3⟩:=nj h;have:=Rat.intCast_inj.mp h3;nofun
theorem nR:∀n,(uE n).length=n
 | 0=>rfl
 | n+1=>by show (uE n).length+1=_;rw[nR n]
theorem sY:∀l:List Rat,(∀x,dE l x=0) -> ∀a∈l,a=0
 | [],_,a,h=>by cases h
 | b::l,h,a,ha=>by
  have h0:b=0:=by
   have:=h 0;show b=0;have e:dE (b::l) 0=b+0*dE l 0:=rfl;rw[e] at this;grind
  have hl:∀x,dE l x=0:=m9 (uE l.length) l (rM _) (by rw[nR];exact Yq _) λs hs=>by
   obtain⟨m,h1,_,rfl⟩:=nj hs;have:=h ((m:Int):Rat);have e:dE (b::l) ((m:Int):Rat)=b+((m:Int):Rat)*dE l ((m:Int):Rat):=rfl;rw[e,h0] at this;have c:((m:Int):Rat)≠0:=aq ();grind
  rcases Y2.mp ha with rfl|ha
  .exact h0
  .exact sY l hl a ha
theorem nI{f g:Nat->Rat}(hf:∀k,20<=k->f k=0)(hg:∀k,20<=k->g k=0)(h:∀x,EV f x=EV g x)(k:Nat):f k=g k:=by
 rcases Nat.lt_or_ge k 20 with z|z
 .have e:∀x,dE ((List.range 20).map λk=>f k + -1*g k) x=0:=λx=>by
   rw[<-Bp,qY];have h1:eM (λk=>-1*g k) 20 x = -1*eM g 20 x:=by
    have:∀n,eM (λk=>-1*g k) n x = -1*eM g n x:=λn=>by
     induction n with
     | zero=>show (0:Rat) = -1*0;grind
     | succ n ih =>
      show eM (λk=>-1*g k) n x + -1*g n*cy x n = -1*(eM g n x+g n*cy x n);rw[ih];grind
    exact this 20
   have h2:eM f 20 x=eM g 20 x:=h x;rw[h1,h2];grind
  have:=sY _ e (f k + -1*g k) (List.mem_map.mpr ⟨k,List.mem_range.mpr z,rfl⟩);grind
 .rw[hf k z,hg k z]
end L2
namespace L2
open PySem
abbrev Om:=List Bool->Int
def wg:Nat->(Nat->Int)->Om->Om
 | 0,_,_=>λ_=>0
 | m+1,v,o=>λl=>match l with
  | []=>0
  | false::l=>wg m v (λk=>o (false::k)) l
  | true::l=>v m*o (false::l)-wg m v (λk=>o (true::k)) l
theorem jr{m:Nat}{v:Nat->Int}{o:Om}{l:List Bool}:wg (m+1) v o (false::l)=wg m v (λk=>o (false::k)) l:=rfl
theorem i9{m:Nat}{v:Nat->Int}{o:Om}{l:List Bool}:wg (m+1) v o (true::l)=v m*o (false::l)-wg m v (λk=>o (true::k)) l:=rfl
theorem kN{v:Nat->Int}{a b:Int}:∀(m:Nat)(o p:Om)(l:List Bool),wg m v (λk=>a*o k+b*p k) l=a*wg m v o l+b*wg m v p l
 | 0,o,p,l=>by show (0:Int)=a*0+b*0;rw[Xi,Xi];rfl
 | m+1,o,p,[]=>by show (0:Int)=a*0+b*0;rw[Xi,Xi];rfl
 | m+1,o,p,false::l=>by
  rw[jr,jr,jr];exact kN m _ _ l
 | m+1,o,p,true::l=>by
  rw[i9,i9,i9,kN m (λk=>o (true::k)) (λk=>p (true::k)) l];grind
theorem i5{v:Nat->Int}:∀(m:Nat)(o:Om)(l:List Bool),(∀k,o k=0)->wg m v o l=0
 | 0,o,l,h=>rfl
 | m+1,o,[],h=>rfl
 | m+1,o,false::l,h=>by rw[jr];exact i5 m _ l λk=>h _
 | m+1,o,true::l,h=>by rw[i9,h,i5 m _ l λk=>h _];nofun
theorem fo{v:Nat->Int}{m:Nat}{o p:Om}(h:∀k,o k=p k)(l:List Bool):wg m v o l=wg m v p l:=by
 have:o=p:=funext h;rw[this]
theorem iC{u v:Nat->Int}{a b:Int}:∀(m:Nat)(o:Om)(l:List Bool),wg m (λi=>a*u i+b*v i) o l=a*wg m u o l+b*wg m v o l
 | 0,o,l=>by show (0:Int)=a*0+b*0;rw[Xi,Xi];rfl
 | m+1,o,[]=>by show (0:Int)=a*0+b*0;rw[Xi,Xi];rfl
 | m+1,o,false::l=>by
  rw[jr,jr,jr];exact iC m _ l
 | m+1,o,true::l=>by
  rw[i9,i9,i9,iC m _ l];grind
theorem gz{v:Nat->Int}:∀(m:Nat)(o:Om)(l:List Bool),(∀i,i<m->v i=0)->wg m v o l=0
 | 0,o,l,h=>rfl
 | m+1,o,[],h=>rfl
 | m+1,o,false::l,h=>by rw[jr];exact gz m _ l λi hi=>h i ()
 | m+1,o,true::l,h=>by rw[i9,h m (),gz m _ l λi hi=>h i ()];nofun
theorem iZ{u v:Nat->Int}:∀(m:Nat)(o:Om)(l:List Bool),wg m u (wg m v o) l = - wg m v (wg m u o) l
 | 0,o,l=>rfl
 | m+1,o,[]=>rfl
 | m+1,o,false::l=>by
  rw[jr,jr];exact iZ m (λk=>o (false::k)) l
 | m+1,o,true::l=>by
  rw[i9,i9,jr,jr];have e1:=kN (v:=u) (a:=v m) (b:=-1) m (λk=>o (false::k)) (wg m v λk=>o (true::k)) l;have e2:=kN (v:=v) (a:=u m) (b:=-1) m (λk=>o (false::k)) (wg m u λk=>o (true::k)) l;have f1:wg m u (λk=>wg (m+1) v o (true::k)) l=wg m u (λk=>v m*o (false::k) + -1*wg m v (λk=>o (true::k)) k) l:=fo (λk=>by rw[i9];nofun) l
  have f2:wg m v (λk=>wg (m+1) u o (true::k)) l=wg m v (λk=>u m*o (false::k) + -1*wg m u (λk=>o (true::k)) k) l:=fo (λk=>by rw[i9];nofun) l
  have s:=iZ (u:=u) (v:=v) m (λk=>o (true::k)) l;rw[f1,f2,e1,e2];grind
theorem ww{v:Nat->Int}(m:Nat)(o:Om)(l:List Bool):wg m v (wg m v o) l=0:=by
 have:=iZ (u:=v) (v:=v) m o l;nofun
section
variable (W:Nat->Int)
def gI(i:Nat):Nat->Int:=λj=>W (i+j)
def uJ:Om:=λl=>if l.all (λb=>!b) then 1 else 0
def om(m:Nat):Nat->Om
 | 0=>uJ
 | k+1=>wg m (gI W k) (om m k)
def jU:Nat->List Bool
 | 0=>[]
 | m+1=>true::jU m
def jz(j:Nat):Nat->Int:=λi=>if i=j then 1 else 0
def qk(k j:Nat):Int:=wg (k+1) (jz j) (om W (k+1) k) (jU (k+1))
def Dk(k:Nat):Int:=om W k k (jU k)
def Lq(k i:Nat):Int:=wg (k+1) (gI W i) (om W (k+1) k) (jU (k+1))
end
variable {W:Nat->Int}
theorem uj(m:Nat):∀(k:Nat)(l:List Bool),om W (m+1) k (false::l)=om W m k l
 | 0,l=>by simp[om,uJ]
 | k+1,l=>by
  show wg (m+1) (gI W k) (om W (m+1) k) (false::l)=wg m (gI W k) (om W m k) l;rw[jr];exact fo (λj=>uj m k j) l
theorem v7(m:Nat):∀(k i:Nat)(l:List Bool),i<k->wg m (gI W i) (om W m k) l=0
 | 0,i,l,h=>by nofun
 | k+1,i,l,h=>by
  show wg m (gI W i) (wg m (gI W k) (om W m k)) l=0;by_cases e:i=k
  .rw[e];exact ww m _ l
  .rw[iZ,i5 m _ l λj=>v7 m k i j ()];rfl
theorem Is(k:Nat):qk W k k=Dk W k:=by
 show wg (k+1) (jz k) (om W (k+1) k) (true::jU k)=om W k k (jU k);rw[i9,uj,gz (v:=jz k) k _ _ λi hi=>Yc ()];show (if k=k then (1:Int) else 0)*_-0=_
 rw[Yb rfl];nofun
theorem AW{k j:Nat}(h:k<j):qk W k j=0:=gz _ _ _ λi hi=>Yc ()
theorem FH{k i:Nat}(h:i<k):Lq W k i=0:=v7 _ k i _ h
theorem Gu(k:Nat):Lq W k k=Dk W (k+1):=rfl
def eI(f:Nat->Int):Nat->Int
 | 0=>0
 | n+1=>eI f n+f n
theorem mR{f g:Nat->Int}:∀n,(∀i,i<n->f i=g i)->eI f n=eI g n
 | 0,_=>rfl
 | n+1,h=>by
  show eI f n+f n=eI g n+g n;rw[mR n λi hi=>h i (),h n ()]
theorem kI{f:Nat->Int}:∀n,(∀i,i<n->f i=0)->eI f n=0
 | 0,_=>rfl
 | n+1,h=>by
  show eI f n+f n=0;rw[kI n λi hi=>h i (),h n ()];rfl
theorem jT{f:Nat->Int}{j:Nat}:∀n,(∀i,i<n->i≠j->f i=0)->j<n->eI f n=f j
 | 0,_,h=>by nofun
 | n+1,h,hj=>by
  show eI f n+f n=f j;by_cases e:j=n
  .rw[kI n λi hi=>h i () (),e];nofun
  .rw[jT n (λi hi hn=>h i () hn) (),h n () ()];nofun
theorem kZ{v:Nat->Int}{M:Nat}{o:Om}{l:List Bool}:∀n,wg M (λi=>eI (λj=>v j*jz j i) n) o l=eI (λj=>v j*wg M (jz j) o l) n
 | 0=>gz _ _ _ λi _=>rfl
 | n+1=>by
  have e:=iC (u:=λi=>eI (λj=>v j*jz j i) n) (v:=jz n) (a:=1) (b:=v n) M o l;have f:(λi=>eI (λj=>v j*jz j i) (n+1))=λi=>1*eI (λj=>v j*jz j i) n+v n*jz n i:=funext λi=>by
   show eI _ n+v n*jz n i=_;rw[Xk]
  rw[f,e,kZ n];show _=eI _ n+v n*_;rw[Xk]
theorem F8(k i:Nat):Lq W k i=eI (λj=>W (i+j)*qk W k j) (k+1):=by
 unfold Lq qk;rw[<-kZ (v:=λj=>W (i+j)) (M:=k+1)];have:∀m (o:Om)(l:List Bool)(u v:Nat->Int),(∀i,i<m->u i=v i)->wg m u o l=wg m v o l:=λm o l u v h=>by
  have e:=iC (u:=u) (v:=v) (a:=1) (b:=-1) m o l;rw[gz m o l λi hi=>by rw[h i hi];nofun] at e
  nofun
 refine this _ _ _ _ _ λc hc=>?_;show W (i+c)=_;rw[jT (j:=c) (k+1) (λj _ hj=>by unfold jz;rw[Yc (λz=>hj z.symm),Xi]) hc]
 unfold jz;rw[Yb rfl,Yp]
end L2
namespace L2
open PySem
variable {W:Nat->Int}
theorem vk{v:Nat->Int}{B C:Nat}(hv:∀i,(v i).natAbs<=B):∀(m:Nat)(o:Om)(l:List Bool),(∀k,(o k).natAbs<=C)->(wg m v o l).natAbs<=m*(B*C)
 | 0,o,l,h=>by simp[wg]
 | m+1,o,[],h=>by simp[wg]
 | m+1,o,false::l,h=>by
  rw[jr];have:=vk hv m (λk=>o (false::k)) l λk=>h _;rw[Xl];nofun
 | m+1,o,true::l,h=>by
  rw[i9];have h1:=vk hv m (λk=>o (true::k)) l λk=>h _;have h2:(v m*o (false::l)).natAbs<=B*C:=by rw[YW];exact Xm (hv m) (h _)
  have h3:=Int.natAbs_sub_le (v m*o (false::l)) (wg m v (λk=>o (true::k)) l);rw[Xl];nofun
end L2
namespace L2
open PySem PySem.Spec PyProof.Rows
theorem FX{D n:Int}{a:Nat}{q:Int×Int}(hq:Fq q)(e:wv q=(n:Rat)/(D:Rat))(hD:D≠0)(h1:Bt a n)(h2:Bt a D):Bq a q:=by
 rw[sk hq (lQ hD) (by rw[iE hD,e])]
 exact sN hD h1 h2
theorem Km{D E:Int}{a b:Nat}{f g:Nat->Rat}(hD:D≠0)(hE:E≠0)(h1:Ob D a f)(h2:Ob E b g)(j l:Nat):Ob (D*E) (a+b+j+1) (λk=>qr f g j l k):=by
 have hp:=Ob.pr hD hE h1 h2 j;have hx:Ob (D*E) (a+b) (λk=>if j<=k/\k-j<l then f j*g (k-j) else 0):=λk=>by
  by_cases hc:j<=k/\k-j<l
  .obtain⟨m,e1,b1⟩:=h1 j;obtain⟨n,e2,b2⟩:=h2 (k-j);refine⟨m*n,?_,b1.mul b2⟩;show (if _ then _ else _)=_
   rw[Yb hc,e1,e2,Xd,Xd];have n1:(D:Rat)≠0:=aq hD;have n2:(E:Rat)≠0:=aq hE;grind
  .refine⟨0,?_,by unfold Bt;exact Nat.pow_pos ∅⟩
   show (if _ then _ else _)=_
   rw[Yc hc];have:((0:Int):Rat)=0:=rfl;rw[this];grind
 exact (Ob.add hp hx).mono ()
theorem sR{f g h:Nat->Rat}:∀n,bZ (λi=>f i+g i) h n=bZ f h n+bZ g h n
 | 0=>by show (0:Rat)=0+0;grind
 | n+1=>by
  show bZ (λi=>f i+g i) h n+(f n+g n)*h n=(bZ f h n+f n*h n)+(bZ g h n+g n*h n);rw[sR n];grind
theorem iY{f h:Nat->Rat}:∀n,(∀i,i<n->f i*h i=0)->bZ f h n=0
 | 0,_=>rfl
 | n+1,hz=>by
  show bZ f h n+f n*h n=0;rw[iY n λi hi=>hz i (),hz n ()];grind
theorem kT{f h:Nat->Rat}{n:Nat}(hz:∀i,n<=i->f i*h i=0):∀m,bZ f h (n+m)=bZ f h n
 | 0=>rfl
 | m+1=>by
  show bZ f h (n+m)+f (n+m)*h (n+m)=bZ f h n;rw[kT hz m,hz (n+m) ()];grind
theorem xV{F G:Nat->Rat}{f g:Nat->Int}{c d:Rat}(hc:c≠0)(hd:d≠0)(hF:∀i,F i=((f i:Int):Rat)/c)(hG:∀i,G i=((g i:Int):Rat)/d):∀n,bZ F G n=((eI (λi=>g i*f i) n:Int):Rat)/(c*d)
 | 0=>by
  show (0:Rat)=((0:Int):Rat)/(c*d);have:((0:Int):Rat)=0:=rfl;rw[this];grind
 | n+1=>by
  show bZ F G n+F n*G n=((eI (λi=>g i*f i) n+g n*f n:Int):Rat)/(c*d);rw[xV hc hd hF hG n,hF n,hG n,Xc,Xd];grind
section
variable {W:Nat->Int}{B:Int}{k:Nat}{P S:Nat->Rat}
theorem BS(hD:Dk W k≠0)(hB:B≠0)(hP:∀j,P j=((qk W k j:Int):Rat)/((Dk W k:Int):Rat))(hS:∀i,((W i:Int):Rat)=S i*(B:Rat))(i:Nat):bZ P (λj=>S (i+j)) (k+1)=((Lq W k i:Int):Rat)/(((Dk W k:Int):Rat)*(B:Rat)):=by
 have cB:(B:Rat)≠0:=aq hB;rw[xV (f:=qk W k) (g:=λj=>W (i+j)) (c:=((Dk W k:Int):Rat)) (d:=(B:Rat)) (aq hD) cB hP (λj=>by have:=hS (i+j);grind),<-F8]
end
theorem tP{f g h:Nat->Rat}:∀n,bZ f (λi=>g i+h i) n=bZ f g n+bZ f h n
 | 0=>by show (0:Rat)=0+0;grind
 | n+1=>by
  show bZ f (λi=>g i+h i) n+f n*(g n+h n)=(bZ f g n+f n*g n)+(bZ f h n+f n*h n);rw[tP n];grind
theorem m7{f h:Nat->Rat}{c:Rat}:∀n,bZ (λi=>c*f i) h n=c*bZ f h n
 | 0=>by show (0:Rat)=c*0;grind
 | n+1=>by
  show bZ (λi=>c*f i) h n+(c*f n)*h n=c*(bZ f h n+f n*h n);rw[m7 n];grind
theorem tj{f h:Nat->Rat}{c:Rat}:∀n,bZ f (λi=>c*h i) n=c*bZ f h n
 | 0=>by show (0:Rat)=c*0;grind
 | n+1=>by
  show bZ f (λi=>c*h i) n+f n*(c*h n)=c*(bZ f h n+f n*h n);rw[tj n];grind
def ip(S u v:Nat->Rat)(m n:Nat):Rat:=bZ u (λi=>bZ v (λj=>S (i+j)) n) m
theorem gD{S u v:Nat->Rat}{n:Nat}:∀m,ip S u v m n=ip S v u n m
 | 0=>by
  unfold ip;show (0:Rat)=bZ v (λj=>0) n;rw[iY n λi _=>by grind]
 | m+1=>by
  have h:=gD (S:=S) (u:=u) (v:=v) (n:=n) m;unfold ip at h ⊢;show bZ u (λi=>bZ v (λj=>S (i+j)) n) m+u m*bZ v (λj=>S (m+j)) n=bZ v (λi=>bZ u (λj=>S (i+j)) m+u m*S (i+m)) n;rw[tP,tj,h];congr 2
  exact kc n (λ_ _=>rfl) λi _=>by rw[Nat.add_comm]
section
variable {W:Nat->Int}{B:Int}{S:Nat->Rat}
theorem Hx{k m:Nat}{p v:Nat->Rat}(hD:Dk W k≠0)(hB:B≠0)(hP:∀j,p j=((qk W k j:Int):Rat)/((Dk W k:Int):Rat))(hS:∀i,((W i:Int):Rat)=S i*(B:Rat))(hm:k+1<=m)(n:Nat):ip S v p n m=bZ v (λi=>((Lq W k i:Int):Rat)/(((Dk W k:Int):Rat)*(B:Rat))) n:=by
 refine kc n (λ_ _=>rfl) λi _=>?_;rw[<-BS hD hB hP hS i];have:=kT (f:=p) (h:=λj=>S (i+j)) (n:=k+1) (λj hj=>by
  have z:((0:Int):Rat)=0:=rfl;rw[hP j,AW (),z];grind) (m-(k+1))
 rw[show k+1+(m-(k+1))=m by nofun] at this
 exact this
end
theorem w8{v:Nat->Rat}{x c:Rat}:∀n,bZ v (λj=>c*cy x j) n=c*eM v n x
 | 0=>by show (0:Rat)=c*0;grind
 | n+1=>by
  show bZ v (λj=>c*cy x j) n+v n*(c*cy x n)=c*(eM v n x+v n*cy x n);rw[w8 n];grind
theorem DH(y:Rat):0<=y*y:=by
 rcases Rat.le_total (a:=0) (b:=y) with h|h
 .exact Xn h h
 .have:=Xn (Rat.neg_le_neg h) (Rat.neg_le_neg h);grind
section
variable {W:Nat->Int}{B:Int}{cs:List K8}
def Pk(W:Nat->Int)(k:Nat):Nat->Rat:=λj=>((qk W k j:Int):Rat)/((Dk W k:Int):Rat)
theorem IN{k j:Nat}(h:k<j):Pk W k j=0:=by
 have z:((0:Int):Rat)=0:=rfl;unfold Pk;rw[AW h,z];grind
theorem Hi{k:Nat}(h:Dk W k≠0):Pk W k k=1:=by
 have:=aq h;unfold Pk;rw[Is];grind
end
end L2
namespace L2
open PySem PySem.Spec PyProof.Rows
structure Lm where
 p:Addr
 c:Addr
 ps:Arguments
 b:Expr
 sc:Scope
structure nG (P:Program)(base:Heap):Prop where
 seer:base.NoSeer
 tree:P.given.tree=none
def yZ(_ j:Int):Prop:=j≠0
theorem fY{X:Cx}{k:Nat}(N:nG X.prog X.base)(hr:cI k X.A)(hst:X.stack=X.env::X.outer)(hgen:X.env.scope.isGenerator=false)(hco:X.env.scope.isCoroutine=false) :
  fi X (binaryOp .FloorDiv) (rI yZ λi j=>.int (i.fdiv j)):=by
 intro pins s σ H x y v u Q I rx ry h;obtain⟨i,j,rfl,rfl,hc,q⟩:=h;obtain⟨t,rfl⟩:=rx;obtain⟨t',rfl⟩:=ry;refine floordiv_int hc ⟨.int (i.fdiv j),H,I.tok _,⟨_,rfl⟩,q⟩ (.inr ?_);refine PySem.PylongRoom.of I.nolimit ?_ (PySem.SeerAt.of (N.seer.keeps I.bk) N.tree (I.ok.frames.trans (Yn some hst)) hgen hco I.ok.blt I.ok.glob);have:=hr.dp;show X.A.depth+100<recursionLimit;nofun
end L2
namespace L2
open PySem
def hR(W:Nat->Int)(B:Int)(k:Nat):Rat:=((Dk W (k+1):Int):Rat)/((Dk W k*B:Int):Rat)
theorem zG{v:Nat->Rat}{x:Rat}:EV v x=bZ v (λj=>1*cy x j) 20:=by
 rw[w8];unfold EV;grind
def tb:Nat->Nat
 | 0=>1
 | k+1=>tb k+(360*k+280)
def dw(M:Nat):List (Nat->Int)->Om
 | []=>uJ
 | r::rs=>wg M r (dw M rs)
def dt(M:Nat)(rows:List (Nat->Int)):Int:=dw M rows (jU M)
theorem HS{v:Nat->Int}{m:Nat}{o p:Om}(h:∀k,o k = - p k)(l:List Bool):wg m v o l = - wg m v p l:=by
 have e:=kN (v:=v) (a:=-1) (b:=0) m p p l;rw[<-fo (o:=o) (p:=λk=>-1*p k+0*p k) (λk=>by rw[h];nofun) l] at e
 nofun
theorem xh{v:Nat->Int}{a:Int}{m:Nat}{o p:Om}(h:∀k,o k=a*p k)(l:List Bool):wg m v o l=a*wg m v p l:=by
 have e:=kN (v:=v) (a:=a) (b:=0) m p p l;rw[<-fo (o:=o) (p:=λk=>a*p k+0*p k) (λk=>by rw[h];nofun) l] at e
 nofun
theorem IE{u v:Nat->Int}{m:Nat}{o:Om}{l:List Bool}(h:∀i,i<m->u i=v i):wg m u o l=wg m v o l:=by
 have e:=iC (u:=u) (v:=v) (a:=1) (b:=-1) m o l;rw[gz m o l λi hi=>by rw[h i hi];nofun] at e
 nofun
def Pm(x y:Int):Prop:=x=y\/x = -y
theorem Pm.rfl'{x:Int}:Pm x x:=.inl rfl
theorem Pm.symm{x y:Int}(h:Pm x y):Pm y x:=by rcases h with e|e<;>unfold Pm<;>nofun
theorem Pm.trans{x y z:Int}(h:Pm x y)(g:Pm y z):Pm x z:=by rcases h with e|e<;>rcases g with f|f<;>unfold Pm<;>nofun
theorem Pm.mul{x y:Int}(h:Pm x y)(a:Int):Pm (a*x) (a*y):=by
 rcases h with e|e
 .exact .inl (by rw[e])
 .exact .inr (by rw[e,Int.mul_neg])
theorem Pm.of_mul{a x y:Int}(h:Pm (a*x) (a*y))(ha:a≠0):Pm x y:=by
 rcases h with e|e
 .exact .inl (Xh ha e)
 .exact .inr (Xh ha (by rw[e,Int.mul_neg]))
theorem uM{M:Nat}{x:Nat->Int}:∀{rows:List (Nat->Int)},x∈rows -> ∀l,wg M x (dw M rows) l=0
 | [],h,_=>by cases h
 | y::rs,h,l=>by
  show wg M x (wg M y (dw M rs)) l=0;rcases Y2.mp h with rfl|z
  .exact ww M _ l
  .rw[iZ,i5 M _ l λk=>uM z k];rfl
theorem DU{M:Nat}{a b:List (Nat->Int)}(h:a.Perm b):(∀l,dw M a l=dw M b l) \/ ∀l,dw M a l = - dw M b l:=by
 induction h with
 | nil=>exact .inl λ_=>rfl
 | cons x _ ih =>
  rcases ih with e|e
  .exact .inl λl=>fo e l
  .exact .inr λl=>HS e l
 | swap x y l=>exact .inr λk=>iZ M _ k
 | trans _ _ ih1 ih2 =>
  rcases ih1 with e|e<;>rcases ih2 with f|f
  .exact .inl λl=>by rw[e,f]
  .exact .inr λl=>by rw[e,f]
  .exact .inr λl=>by rw[e,f]
  .exact .inl λl=>by rw[e,f];nofun
theorem qI{M:Nat}{a b:List (Nat->Int)}(h:a.Perm b):Pm (dt M a) (dt M b):=by
 rcases DU (M:=M) h with e|e
 .exact .inl (e _)
 .exact .inr (e _)
theorem sL{m:Nat}:∀(rs:List (Nat->Int))(l:List Bool),dw (m+1) rs (false::l)=dw m rs l
 | [],l=>by simp[dw,uJ]
 | r::rs,l=>by
  show wg (m+1) r (dw (m+1) rs) (false::l)=wg m r (dw m rs) l;rw[jr];exact fo (λk=>sL rs k) l
theorem xD{m:Nat}:∀{rs:List (Nat->Int)},(∀r∈rs,r m=0) -> ∀l,dw (m+1) rs (true::l)=0
 | [],_,l=>by simp[dw,uJ]
 | r::rs,h,l=>by
  show wg (m+1) r (dw (m+1) rs) (true::l)=0;rw[i9,h r Yi,i5 m _ l λk=>xD (λx hx=>h x (Yj _ hx)) k];nofun
theorem GF{m:Nat}{r:Nat->Int}{rs:List (Nat->Int)}(h:∀x∈rs,x m=0):dt (m+1) (r::rs)=r m*dt m rs:=by
 show wg (m+1) r (dw (m+1) rs) (true::jU m)=r m*dw m rs (jU m);rw[i9,sL,i5 m _ _ λk=>xD h k];nofun
def st(g:Nat->Nat->Int)(lo:Nat):Nat->List (Nat->Int)
 | 0=>[]
 | n+1=>g (lo+n)::st g lo n
theorem jA{g:Nat->Nat->Int}{lo:Nat}{x:Nat->Int}:∀{n:Nat},x∈st g lo n -> ∃i,i<n/\x=g (lo+i)
 | 0,h=>by cases h
 | n+1,h=>by
  rcases Y2.mp h with rfl|z
  .exact⟨n,(),rfl⟩
  .obtain⟨i,hi,e⟩:=jA z;exact⟨i,(),e⟩
theorem BY{g:Nat->Nat->Int}{lo i:Nat}:∀{n:Nat},i<n->g (lo+i)∈st g lo n
 | 0,h=>by nofun
 | n+1,h=>by
  by_cases e:i=n
  .rw[e];exact Yi
  .exact Yj _ (BY ())
theorem vg(g:Nat->Nat->Int)(lo n:Nat):∀m,st g lo (n+m)=st g (lo+n) m++st g lo n
 | 0=>rfl
 | m+1=>by
  show g (lo+(n+m))::st g lo (n+m)=g (lo+n+m)::(st g (lo+n) m++st g lo n);rw[vg g lo n m,Nat.add_assoc]
theorem iJ{g:Nat->Nat->Int}{c:Int}{d0 lo:Nat}{X:List (Nat->Int)}(h1:∀i,g i (d0+i)=c)(h2:∀i k,d0+i<k->g i k=0)(hX:∀x∈X,∀k,d0+lo<=k->x k=0):∀n,dt (d0+lo+n) (st g lo n++X)=c^n*dt (d0+lo) X
 | 0=>by show dt (d0+lo) X=c^0*_;rw[Xo,Xk]
 | n+1=>by
  show dt (d0+lo+n+1) (g (lo+n)::(st g lo n++X))=_;rw[GF,iJ h1 h2 hX n,show d0+lo+n=d0+(lo+n) by nofun,h1,Xp,Y9 (c^n) c,Xg]
  intro x hx;rcases List.mem_append.mp hx with z|z
  .obtain⟨i,hi,rfl⟩:=jA z;exact h2 _ _ ()
  .exact hX x z _ ()
def tK(M:Nat)(X:List (Nat->Int))(v:Nat->Int):Prop:=∀rows:List (Nat->Int),(∀x∈X,x∈rows) -> ∀l,wg M v (dw M rows) l=0
theorem tK.mem{M:Nat}{X:List (Nat->Int)}{v:Nat->Int}(h:v∈X):tK M X v:=λrows hr l=>uM (hr v h) l
theorem tK.zero{M:Nat}{X:List (Nat->Int)}:tK M X λ_=>0:=λrows _ l=>gz M _ l λ_ _=>rfl
theorem tK.lin{M:Nat}{X:List (Nat->Int)}{u v:Nat->Int}{a b:Int}(hu:tK M X u)(hv:tK M X v):tK M X λk=>a*u k+b*v k:=λrows hr l=>by
 rw[iC,hu rows hr l,hv rows hr l];nofun
theorem tK.sum{M:Nat}{X:List (Nat->Int)}{q:Nat->Int}{g:Nat->Nat->Int}:∀n,(∀i,i<n->g i∈X)->tK M X λk=>eI (λi=>q i*g i k) n
 | 0,_=>tK.zero
 | n+1,h=>by
  have e:=tK.lin (a:=1) (b:=q n) (tK.sum (q:=q) n λi hi=>h i ()) (tK.mem (M:=M) (h n ()));have f:(λk=>1*eI (λi=>q i*g i k) n+q n*g n k)=λk=>eI (λi=>q i*g i k) (n+1):=by
   funext k;show 1*_+_=eI _ n+q n*g n k;nofun
  rw[f] at e;exact e
theorem zK{M:Nat}{f r:Nat->Nat->Int}{c b:Int}{X:List (Nat->Int)}:∀n,(∀i,i<n -> ∃v,tK M X v /\ ∀k,c*f i k=b*r i k+v k) -> ∀l,c^n*dw M (st f 0 n++X) l=b^n*dw M (st r 0 n++X) l
 | 0,_,l=>by rw[Xo,Xo];rfl
 | n+1,h,l=>by
  have ih:=zK n λi hi=>h i ();obtain⟨v,hv,e⟩:=h n ();show c^(n+1)*wg M (f (0+n)) (dw M (st f 0 n++X)) l=b^(n+1)*wg M (r (0+n)) (dw M (st r 0 n++X)) l;rw[Xj];have e1:c^n*wg M (f n) (dw M (st f 0 n++X)) l=b^n*wg M (f n) (dw M (st r 0 n++X)) l:=by
   rw[<-xh (o:=λk=>c^n*dw M (st f 0 n++X) k) (λ_=>rfl) l,<-xh (o:=λk=>b^n*dw M (st r 0 n++X) k) (λ_=>rfl) l];exact fo ih l
  have e2:c*wg M (f n) (dw M (st r 0 n++X)) l=b*wg M (r n) (dw M (st r 0 n++X)) l:=by
   have a1:=iC (u:=f n) (v:=f n) (a:=c) (b:=0) M (dw M (st r 0 n++X)) l;have a2:=iC (u:=r n) (v:=v) (a:=b) (b:=1) M (dw M (st r 0 n++X)) l;rw[hv _ (λx hx=>Ys _ hx) l] at a2;have a3:(λi=>c*f n i+0*f n i)=λi=>b*r n i+1*v i:=by
    funext k;have:=e k;nofun
   rw[a3,a2] at a1;nofun
  rw[Xp,Xp,Y9 (c^n) c,Xg,e1,Int.mul_left_comm,e2,Xg]
theorem Hs{M:Nat}{f r:Nat->Nat->Int}{c b:Int}{X:List (Nat->Int)}(n:Nat)(h:∀i,i<n -> ∃v,tK M X v /\ ∀k,c*f i k=b*r i k+v k):c^n*dt M (st f 0 n++X)=b^n*dt M (st r 0 n++X):=zK n h _
def sh(f:Nat->Int)(i k:Nat):Int:=if i<=k then f (k-i) else 0
def Ej(j k:Nat):List (Nat->Int):=((List.range (j+1)).filter λi=>decide (i≠k)).map jz
theorem vN{j k:Nat}{x:Nat->Int}(h:x∈Ej j k) {m:Nat}(hm:j<m):x m=0:=by
 obtain⟨i,hi,rfl⟩:=List.mem_map.mp h;have:=List.mem_range.mp (List.mem_filter.mp hi).1;exact Yc ()
theorem BL:∀n,st jz 0 n=((List.range n).reverse).map jz
 | 0=>rfl
 | n+1=>by
  rw[List.range_succ,List.reverse_append];show jz (0+n)::st jz 0 n=jz n::_;rw[BL n,Xj];rfl
theorem Dx(n:Nat):dt n (st jz 0 n)=1:=by
 have e:=iJ (g:=jz) (c:=1) (d0:=0) (lo:=0) (X:=[]) (λi=>by rw[Xj];exact Yb rfl) (λi k h=>Yc ()) (λx hx=>by cases hx) n
 rw[Yv,Int.one_pow,Xj,Xj] at e;rw[e];rfl
theorem wA{j k:Nat}(h:k<=j):(jz k::Ej j k).Perm (st jz 0 (j+1)):=by
 rw[BL];show (List.map jz (k::(List.range (j+1)).filter λi=>decide (i≠k))).Perm _;refine List.Perm.map _ (List.Perm.trans ?_ (List.reverse_perm _).symm);have nd:(List.range (j+1)).Nodup:=List.nodup_range;have e:(List.range (j+1)).filter (λi=>decide (i≠k))=(List.range (j+1)).erase k:=by
  rw[nd.erase_eq_filter];congr 1
  funext i;by_cases z:i=k
  .simp[z]
  .simp[z]
 rw[e];exact (List.perm_cons_erase (List.mem_range.mpr ())).symm
theorem Aw{j k:Nat}{R:Nat->Int}(h:k<=j):Pm (dt (j+1) (R::Ej j k)) (R k):=by
 have e:dt (j+1) (R::Ej j k)=R k*dt (j+1) (jz k::Ej j k):=by
  show wg (j+1) R (dw (j+1) (Ej j k)) (jU (j+1))=R k*wg (j+1) (jz k) (dw (j+1) (Ej j k)) (jU (j+1));have e1:wg (j+1) R (dw (j+1) (Ej j k)) (jU (j+1))=wg (j+1) (λi=>eI (λa=>R a*jz a i) (j+1)) (dw (j+1) (Ej j k)) (jU (j+1)):=IE λi hi=>by
   rw[jT (j:=i) (j+1) (λa _ ha=>by rw[show jz a i=0 from Yc (λz=>ha z.symm)];nofun) hi,show jz i i=1 from Yb rfl]
   nofun
  rw[e1,kZ];refine jT (j+1) (λi hi hn=>?_) ();have z:jz i∈Ej j k:=List.mem_map.mpr ⟨i,List.mem_filter.mpr ⟨List.mem_range.mpr hi,YK hn⟩,rfl⟩;rw[uM z];nofun
 rw[e];have p:=(qI (M:=j+1) (wA h)).mul (R k);rw[Dx,Yp] at p;exact p
def SR(f g:Nat->Int)(a b j k:Nat):Int:=dt (a+b-j) (st (sh f) 0 (b-j)++(st (sh g) 0 (a-j)++Ej j k))
theorem uT{f:Nat->Int}{a i:Nat}:sh f i (a+i)=f a:=by
 unfold sh;rw[Yb (),show a+i-i=a by nofun]
theorem ku{f:Nat->Int}{a:Nat}(h:∀k,a<k->f k=0) {i k:Nat}(hk:a+i<k):sh f i k=0:=by
 unfold sh;rw[Yb ()];exact h _ ()
def cv(q g:Nat->Int)(n k:Nat):Int:=eI (λt=>q t*sh g t k) n
theorem Ip{q g:Nat->Int}{i n:Nat}:∀k,sh (cv q g n) i k=eI (λt=>q t*sh g (i+t) k) n:=λk=>by
 unfold sh;by_cases h:i<=k
 .rw[Yb h];refine mR n λt _=>?_;show q t*(if t<=k-i then g (k-i-t) else 0)=q t*(if i+t<=k then g (k-(i+t)) else 0)
  by_cases z:t<=k-i
  .rw[Yb z,Yb (),show k-i-t=k-(i+t) by nofun]
  .rw[Yc z,Yc ()]
 .rw[Yc h];refine (kI n λt _=>?_).symm;rw[Yc ()];exact Xi _
theorem CK{f g q r:Nat->Int}{a b j k:Nat}{γ β:Int}(ab:b<=a)(jb:j<=b)(e:∀k,γ*f k=cv q g (a-b+1) k+β*r k) :
  γ^(b-j)*SR f g a b j k=β^(b-j)*dt (a+b-j) (st (sh r) 0 (b-j)++(st (sh g) 0 (a-j)++Ej j k)):=by
 refine Hs (b-j) λi hi=>⟨λk=>eI (λt=>q t*sh g (i+t) k) (a-b+1),tK.sum (g:=λt=>sh g (i+t)) _ λt ht=>Yl _ ?_,λk=>?_⟩
 .have:=BY (g:=sh g) (lo:=0) (i:=i+t) (n:=a-j) ()
  rwa [Xj] at this
 .show γ*sh f i k=β*sh r i k+eI (λt=>q t*sh g (i+t) k) (a-b+1);rw[<-Ip];unfold sh;by_cases h:i<=k
  .rw[Yb h,Yb h,Yb h,e];nofun
  .rw[Yc h,Yc h,Yc h];nofun
theorem DJ{f g q r:Nat->Int}{a b d j k:Nat}{γ β c:Int}(ab:b<=a)(db:d<b)(jd:j<=d)(hg:g b=c)(g0:∀k,b<k->g k=0)(r0:∀k,d<k->r k=0)(e:∀k,γ*f k=cv q g (a-b+1) k+β*r k) :
  Pm (γ^(b-j)*SR f g a b j k) (β^(b-j)*(c^(a-d)*SR g r b d j k)):=by
 rw[CK ab () e];refine Pm.mul ?_ _;have p:(st (sh r) 0 (b-j)++(st (sh g) 0 (a-j)++Ej j k)).Perm (st (sh g) (d-j) (a-d)++(st (sh g) 0 (d-j)++(st (sh r) 0 (b-j)++Ej j k))):=by
  have s:=vg (sh g) 0 (d-j) (a-d);rw[show d-j+(a-d)=a-j by nofun,Xj] at s
  rw[s,<-YI,<-YI,<-YI,<-YI];refine List.Perm.append_right _ ?_;rw[YI,YI];exact (List.perm_append_comm).trans (by rw[YI])
 refine (qI p).trans ?_;rw[show a+b-j=b+(d-j)+(a-d) by nofun,iJ (d0:=b) (c:=c) (λi=>by rw[uT];exact hg) (λi k h=>ku g0 h) ?_ (a-d)]
 .rw[show b+(d-j)=b+d-j by nofun]
  exact Pm.rfl'
 .intro x hx k hk;rcases List.mem_append.mp hx with z|z
  .obtain⟨i,hi,rfl⟩:=jA z;exact ku g0 ()
  .rcases List.mem_append.mp z with z|z
   .obtain⟨i,hi,rfl⟩:=jA z;exact ku r0 ()
   .exact vN z ()
theorem wC(x:Int):x^1=x:=by rw[Xp,Xo,Xk]
theorem DX{f g q r:Nat->Int}{a b k:Nat}{c:Int}(ab:b<=a)(hb:1<=b)(hk:k<b)(hg:g b=c)(hc:c≠0)(g0:∀k,b<k->g k=0)(r0:∀k,b<=k->r k=0)(e:∀k,c^(a-b+1)*f k=cv q g (a-b+1) k+r k) :
  Pm (SR f g a b (b-1) k) (r k):=by
 refine Pm.of_mul (a:=c^(a-b+1)) ?_ (Xq hc);have s:=CK (j:=b-1) (k:=k) (q:=q) (g:=g) (f:=f) (γ:=c^(a-b+1)) (β:=1) ab () (r:=r) (λk=>by rw[e k];nofun)
 rw[show b-(b-1)=1 by nofun,wC,wC,Xk] at s
 rw[s,show a+b-(b-1)=b+0+(a-b+1) by nofun,show a-(b-1)=a-b+1 by nofun]
 have p:(st (sh r) 0 1++(st (sh g) 0 (a-b+1)++Ej (b-1) k)).Perm (st (sh g) 0 (a-b+1)++(sh r 0::Ej (b-1) k)):=by
  show (sh r (0+0)::(st (sh g) 0 (a-b+1)++Ej (b-1) k)).Perm _;exact List.perm_middle.symm
 refine (qI p).trans ?_;rw[iJ (d0:=b) (c:=c) (λi=>by rw[uT];exact hg) (λi k h=>ku g0 h) ?_ (a-b+1)]
 .refine Pm.mul ?_ _;have d:=Aw (j:=b-1) (k:=k) (R:=sh r 0) ();rw[show b-1+1=b+0 by nofun] at d
  refine d.trans (.inl ?_);show sh r 0 k=r k;unfold sh;rw[Yb (),Nat.sub_zero]
 .intro x hx m hm;rcases Y2.mp hx with rfl|z
  .unfold sh;rw[Yb ()];exact r0 _ ()
  .exact vN z ()
theorem Dg{f g:Nat->Int}{a b:Nat}{c:Int}(ab:b<a)(hg:g b=c)(g0:∀k,b<k->g k=0):Pm (SR f g a b b b) (c^(a-b)):=by
 unfold SR;rw[show b-b=0 by nofun]
 show Pm (dt (a+b-b) (st (sh g) 0 (a-b)++Ej b b)) _;obtain⟨n,hn⟩ : ∃n,a-b=n+1:=⟨a-b-1,()⟩;have s:=vg (sh g) 0 1 n;rw[show 1+n=n+1 by nofun] at s
 rw[hn,s,show a+b-b=b+1+n by nofun,YI,iJ (d0:=b) (lo:=1) (c:=c) (λi=>by rw[uT];exact hg) (λi k h=>ku g0 h) ?_ n]
 .rw[Xp];refine Pm.mul ?_ _;have d:=Aw (j:=b) (k:=b) (R:=sh g 0) ();have e:sh g 0 b=c:=by
   unfold sh;rw[Yb (),Nat.sub_zero,hg]
  rw[e] at d;exact d
 .intro x hx m hm;rcases List.mem_append.mp hx with z|z
  .obtain⟨i,hi,rfl⟩:=jA z;exact ku g0 ()
  .exact vN z ()
theorem AN{M C:Nat}(hM:1<=M*C):∀{rows:List (Nat->Int)},(∀r∈rows,∀i,(r i).natAbs<=C) -> ∀l,(dw M rows l).natAbs<=(M*C)^rows.length
 | [],_,l=>by
  show (uJ l).natAbs<=1;unfold uJ;split<;>decide
 | r::rs,h,l=>by
  have ih:=AN hM (λx hx=>h x (Yj _ hx));have:=vk (h r Yi) M (dw M rs) l ih;show (wg M r (dw M rs) l).natAbs<=(M*C)^(rs.length+1);rw[YY,YJ _ (M*C),Nat.mul_assoc];exact this
theorem rL{g:Nat->Nat->Int}{lo:Nat}:∀n,(st g lo n).length=n
 | 0=>rfl
 | n+1=>by
  show (st g lo n).length+1=n+1;rw[rL n]
theorem AT{j k:Nat}(h:k<=j):(Ej j k).length=j:=by
 have:=(wA h).length_eq;rw[rL] at this;simp at this;exact this
theorem zC{f:Nat->Int}{C:Nat}(h:∀i,(f i).natAbs<=C)(i k:Nat):(sh f i k).natAbs<=C:=by
 unfold sh;split
 .exact h _
 .exact YL _
theorem Ky(a:Int)(m n:Nat):a^(m+n)=a^m*a^n:=Int.pow_add a m n
theorem imp(a b:Int)(n:Nat):(a*b)^n=a^n*b^n:=Int.mul_pow
theorem Kz(a:Int)(m n:Nat):(a^m)^n=a^(m*n):=Int.pow_mul.symm
theorem KY{h h' c:Int}{e m:Nat}(H:h'*h^e=c^(e+1)):h^((e+1)*(m+1))*c^(e+1+(m+1))*h'^m=c^((e+2)*(m+1))*h^(e+1+m):=by
 have k:h'^m*h^(e*m)=c^((e+1)*m):=by rw[<-Kz,<-imp,H,Kz]
 have e1:(e+1)*(m+1)=e*m+(e+1+m):=by simp only[Nat.mul_add,Xl];nofun
 have e2:(e+2)*(m+1)=(e+1)*m+(e+1+(m+1)):=by simp only[Nat.mul_add,Xl];nofun
 rw[e1,e2,Ky h,Ky c ((e+1)*m),<-k];generalize h^(e*m)=u;generalize h^(e+1+m)=v;generalize c^(e+1+(m+1))=w;generalize h'^m=z;grind
structure oU (S1:Nat->Nat->Int)(F G:Nat->Int)(A B:Nat)(x h:Int):Prop where
 ba:B<=A
 x0:x≠0
 h0:h≠0
 one:A=B->h=1
 main:∀j k,j<=B->k<=j->Pm (SR F G A B j k) (x^(B-j)*(h^(A-j-1)*S1 j k))
theorem oU.first{F G:Nat->Int}{A B:Nat}(h:B<=A):oU (SR F G A B) F G A B 1 1:=⟨h,∅,∅,λ_=>rfl,λj k _ _=>.inl (by rw[Int.one_pow,Int.one_pow,Xk,Xk])⟩
section
variable {S1:Nat->Nat->Int}{F G q R r:Nat->Int}{A B d:Nat}{x h c h':Int}
theorem oU.rest(I:oU S1 F G A B x h)(hg:G B=c)(hc:c≠0)(g0:∀k,B<k->G k=0)(r0:∀k,B<=k->R k=0)(e:∀k,c^(A-B+1)*F k=cv q G (A-B+1) k+R k)(k:Nat)(hk:k<B):Pm (R k) (x*h^(A-B)*S1 (B-1) k):=by
 have s:=(DX I.ba () hk hg hc g0 r0 e).symm.trans (I.main (B-1) k () ());rw[show B-(B-1)=1 by nofun,wC,show A-(B-1)-1=A-B by have:=I.ba;nofun,<-Xg] at s
 exact s
theorem oU.high(I:oU S1 F G A B x h)(hg:G B=c)(g0:∀k,B<k->G k=0)(ab:B<A):Pm (c^(A-B)) (h^(A-B-1)*S1 B B):=by
 have s:=(Dg (f:=F) ab hg g0).symm.trans (I.main B B () ());rw[show B-B=0 by nofun,Xo,Xk] at s
 exact s
theorem oU.step(I:oU S1 F G A B x h)(hg:G B=c)(hc:c≠0)(g0:∀k,B<k->G k=0)(e:∀k,c^(A-B+1)*F k=cv q G (A-B+1) k+x*h^(A-B)*r k)(r0:∀k,d<k->r k=0)(hd:d<B)(n0:h'≠0)(hh:A=B/\h'=h\/B<A/\h'*h^(A-B-1)=c^(A-B)):oU S1 G r B d c h':=by
 refine⟨(),hc,n0,λz=>by nofun,λj k hj hk=>?_⟩
 have ab:=I.ba;have s:=DJ (k:=k) I.ba hd hj hg g0 r0 e;have m:=(I.main j k () hk).mul ((c^(A-B+1))^(B-j));have p:=s.symm.trans m;refine Pm.of_mul (a:=(x*h^(A-B))^(B-j)*c^(A-d)) ?_ (Xb (Xq (Xb I.x0 (Xq I.h0))) (Xq hc));rw[Xg];refine p.trans (.inl ?_);obtain⟨n,hn⟩ : ∃n,B-j=n+1:=⟨B-j-1,()⟩;rw[show B-j-1=n by nofun,hn,imp,Kz,Kz,show A-j-1=A-B+n by nofun]
 have key:h^((A-B)*(n+1))*c^(A-d)*(c^(d-j)*h'^n)=c^((A-B+1)*(n+1))*h^(A-B+n):=by
  have e1:c^(A-d)*c^(d-j)=c^(A-B+(n+1)):=by rw[<-Ky];congr 1;nofun
  rw[Xg,<-Xg (c^(A-d)),e1,<-Xg];rcases hh with ⟨z1,z2⟩|⟨z1,z2⟩
  .have h1:=I.one z1;rw[z2,h1,Int.one_pow,Int.one_pow,Int.one_pow,show A-B=0 by nofun,Xk,Yp,Yp]
   congr 1
   nofun
  .obtain⟨e',he⟩ : ∃e',A-B=e'+1:=⟨A-B-1,()⟩;rw[show A-B-1=e' by nofun,he] at z2
   rw[he];exact KY z2
 generalize h^((A-B)*(n+1))=u at *
 generalize h^(A-B+n)=v at *
 generalize c^((A-B+1)*(n+1))=w at *
 generalize c^(A-d)=y at *
 generalize c^(d-j)=y' at *
 generalize h'^n=z at *
 generalize x^(n+1)=t at *
 generalize S1 j k=S at *
 have k2:t*(u*y*(y'*z))*S=t*(w*v)*S:=by rw[key]
 grind
end
theorem mO{f f' g:Nat->Rat}:∀n,(∀i,i<n->f i=f' i) -> ∀k,pr f g n k=pr f' g n k
 | 0,_,_=>rfl
 | n+1,h,k=>by
  show pr f g n k+(if n<=k then f n*g (k-n) else 0)=pr f' g n k+(if n<=k then f' n*g (k-n) else 0)
  rw[mO n (λi hi=>h i ()) k,h n ()]
theorem um{q q' g r r':Nat->Rat}{n n' d:Nat}(hg:∀j,d<j->g j=0)(hd:g d≠0)(hr:∀k,d<=k->r k=0)(hr':∀k,d<=k->r' k=0)
  (h:∀k,pr q g n k+r k=pr q' g n' k+r' k):∀k,r k=r' k :=
 (uV (q:=λi=>if i<n then q i else 0) (q':=λi=>if i<n' then q' i else 0) (n:=n) (n':=n') (λi hi=>Yc ()) (λi hi=>Yc ()) hg hd hr hr' λk=>by
  rw[mO n (f':=q) (λi hi=>Yb hi),mO n' (f':=q') (λi hi=>Yb hi)];exact h k).2
theorem FO{q g:Nat->Int}{k:Nat}:∀n,cv q g n k=pz q g n k
 | 0=>rfl
 | n+1=>by
  show cv q g n k+q n*sh g n k=pz q g n k+if n<=k then q n*g (k-n) else 0
  rw[FO n];unfold sh;split
  .rfl
  .rw[Xi]
theorem Bt.pm{n:Nat}{x y:Int}(h:Bt n x)(p:Pm y x):Bt n y:=by
 unfold Bt at *
 rcases p with e|e<;>nofun
theorem Bt.pow{b:Nat}{x:Int}(h:Bt b x):∀n,1<=n->Bt (b*n) (x^n)
 | 0,h0=>by nofun
 | 1,_=>by rw[wC,Nat.mul_one];exact h
 | n+2,_=>by
  rw[Xp,Nat.mul_succ];exact (Bt.pow h (n+1) ()).mul h
theorem Bt.pow1{b:Nat}{x:Int}(h:Bt b x)(n:Nat):Bt (b*n+1) (x^n):=by
 cases n with
 | zero=>rw[Xo];exact Bt.mono (m:=1) ∅ ()
 | succ n=>exact (Bt.pow h (n+1) ()).mono ()
theorem gF{q g:Nat->Int}{n k:Nat}:((pz q g n k:Int):Rat)=pr (λi=>(q i:Rat)) (λi=>(g i:Rat)) n k:=by
 rw[v6 (F:=λi=>(q i:Rat)) (G:=λi=>(g i:Rat)) (c:=1) (d:=1) (λi=>by grind) (λi=>by grind)]
 grind
def ez(ns:List Int)(k:Nat):Rat:=((nz ns k:Int):Rat)
theorem ER{l:List Int}{k:Nat}(h:l.length<=k):ez l k=0:=by
 show ((nz l k:Int):Rat)=0;rw[aK h];rfl
end L2
namespace L2
open PySem PySem.Spec PyProof.Rows
theorem CJ{X:Cx}{k:Nat}{env:Env}{l:List Env}(N:nG X.prog X.base)(hr:cI k X.A)(hst:X.stack=env::l)(hgen:env.scope.isGenerator=false)(hco:env.scope.isCoroutine=false)(hb:env.builtins=builtinsNs)(hg:env.globals=mainGlobals) :
  fi X (binaryOp .FloorDiv) (rI yZ λi j=>.int (i.fdiv j)):=by
 intro pins s σ H x y v u Q I rx ry h;obtain⟨i,j,rfl,rfl,hc,q⟩:=h;obtain⟨t,rfl⟩:=rx;obtain⟨t',rfl⟩:=ry;refine floordiv_int hc ⟨.int (i.fdiv j),H,I.tok _,⟨_,rfl⟩,q⟩ (.inr ?_);refine PySem.PylongRoom.of I.nolimit ?_ (PySem.SeerAt.of (N.seer.keeps I.bk) N.tree (I.ok.frames.trans (Yn some hst)) hgen hco hb hg);have:=hr.dp;show X.A.depth+100<recursionLimit;nofun
theorem pG{q:List (Int×Int)}(h:eO q)(n:q≠[]):cf q (q.length-1)≠0:=by
 have hl:0<q.length:=List.length_pos_iff.mpr n;have e:q[q.length-1]? = some (q[q.length-1]'()):=YN ();rw[dF e];intro z;refine h.2 _ (by rw[Xf,e]) ?_
 exact (mx (h.1 _ (YM _)).ne).mp z
def ab(a b:Rat):List (List Int×List Int×Int×Int)->Nat->Rat×Rat
 | _,0=>(a,b)
 | [],_+1=>(a,b)
 | row::rows,n+1=>ab b (-(a*(row.2.2.1:Rat))/(row.2.2.2:Rat)) rows n
theorem t6{X:Cx}{k:Nat}{env:Env}{l:List Env}(N:nG X.prog X.base)(hr:cI k X.A)(hst:X.stack=env::l)(hgen:env.scope.isGenerator=false)(hco:env.scope.isCoroutine=false)(hb:env.builtins=builtinsNs)(hg:env.globals=mainGlobals) :
  fi X (binaryOp .FloorDiv) (rI yZ λi j=>.int (i.fdiv j)):=by
 intro pins s σ H x y v u Q I rx ry h;obtain⟨i,j,rfl,rfl,hc,q⟩:=h;obtain⟨t,rfl⟩:=rx;obtain⟨t',rfl⟩:=ry;refine floordiv_int hc ⟨.int (i.fdiv j),H,I.tok _,⟨_,rfl⟩,q⟩ (.inr ?_);refine PySem.PylongRoom.of I.nolimit ?_ (PySem.SeerAt.of (N.seer.keeps I.bk) N.tree (I.ok.frames.trans (Yn some hst)) hgen hco hb hg);have:=hr.dp;show X.A.depth+100<recursionLimit;nofun
end L2
namespace L2
open PySem
section
variable {S u u' v v':Nat->Rat}{m n:Nat}
theorem F2{m':Nat}(h:∀i,m<=i->u i=0)(hm:m<=m'):ip S u v m' n=ip S u v m n:=by
 obtain⟨d,rfl⟩ : ∃d,m'=m+d:=⟨m'-m,()⟩;exact kT (λi hi=>by rw[h i hi];grind) d
theorem zU:ip S (λi=>u i+u' i) v m n=ip S u v m n+ip S u' v m n:=sR _
theorem Au{c:Rat}:ip S (λi=>c*u i) v m n=c*ip S u v m n:=m7 _
theorem HZ:ip S u (λi=>v i+v' i) m n=ip S u v m n+ip S u v' m n:=by
 rw[gD,zU,gD,gD (u:=v')]
theorem HX{c:Rat}:ip S u (λi=>c*v i) m n=c*ip S u v m n:=by
 rw[gD,Au,gD]
theorem AG(h:∀i,u i=u' i):ip S u v m n=ip S u' v m n:=by rw[show u=u' from funext h]
end
section
variable {W:Nat->Int}{B:Int}{S:Nat->Rat}
theorem Fl{k n m:Nat}{v:Nat->Rat}(hD:Dk W k≠0)(hB:B≠0)(hS:∀i,((W i:Int):Rat)=S i*(B:Rat))(hm:k+1<=m):ip S v (Pk W k) n m=bZ v (λi=>((Lq W k i:Int):Rat)/(((Dk W k:Int):Rat)*(B:Rat))) n:=Hx hD hB (λ_=>rfl) hS hm n
theorem iq(c:Rat):0<=c*c:=DH c
theorem pd(hB:0<B)(hS:∀i,((W i:Int):Rat)=S i*(B:Rat)):∀m,(∀i,i<=m->0<Dk W i) -> ∀r:Nat->Rat,(∀i,m<=i->r i=0)->0<=ip S r r m m/\(ip S r r m m=0 -> ∀i,r i=0)
 | 0,_,r,hr=>⟨Rat.le_refl,λ_ i=>hr i (YL _)⟩
 | m+1,hD,r,hr=>by
  have dm:=hD m ();have dn:Dk W m≠0:=();have d1:=hD (m+1) (Yq _);have bn:B≠0:=();obtain⟨r',hr'⟩ : ∃r':Nat->Rat,∀i,r' i=r i + -(r m)*Pk W m i:=⟨_,λ_=>rfl⟩;have z':∀i,m<=i->r' i=0:=λi hi=>by
   rw[hr'];by_cases e:i=m
   .rw[e,Hi dn];grind
   .rw[IN (),hr i ()];grind
  obtain⟨p1,p2⟩:=pd hB hS m (λi hi=>hD i ()) r' z';have er:∀i,r i=r' i+r m*Pk W m i:=λi=>by rw[hr'];grind
  obtain⟨c,hc⟩ : ∃c,c=r m:=⟨_,rfl⟩;obtain⟨h,hh⟩ : ∃h:Rat,h=((Dk W (m+1):Int):Rat)/(((Dk W m:Int):Rat)*(B:Rat)):=⟨_,rfl⟩;have h0:0<h:=by
   rw[hh,Xr];refine Xs (by exact_mod_cast d1) (Rat.inv_pos.mpr (Xs (by exact_mod_cast dm) (by exact_mod_cast hB)))
  have e1:ip S r' (Pk W m) (m+1) (m+1)=0:=by
   rw[Fl dn bn hS (Yq _)];refine iY _ λi hi=>?_;by_cases e:i=m
   .rw[z' i ()];grind
   .rw[FH ()];have z0:((0:Int):Rat)=0:=rfl;rw[z0];grind
  have e2:ip S r (Pk W m) (m+1) (m+1)=c*h:=by
   rw[Fl dn bn hS (Yq _)];show bZ r _ m+r m*(((Lq W m m:Int):Rat)/_)=_;rw[iY m λi hi=>by rw[FH hi,show ((0:Int):Rat)=0 from rfl];grind,Gu,hc,hh]
   grind
  have e3:ip S r r (m+1) (m+1)=ip S r' r' m m+c*c*h:=by
   have a1:ip S r r (m+1) (m+1)=ip S r' r (m+1) (m+1)+c*ip S (Pk W m) r (m+1) (m+1):=by
    rw[AG (u':=λi=>r' i+c*Pk W m i) λi=>by rw[er i,hc],zU,Au]
   have a2:ip S r' r (m+1) (m+1)=ip S r' r' (m+1) (m+1)+c*ip S r' (Pk W m) (m+1) (m+1):=by
    have er':r=λi=>r' i+c*Pk W m i:=funext λi=>by rw[er i,hc]
    have:ip S r' r (m+1) (m+1)=ip S r' (λi=>r' i+c*Pk W m i) (m+1) (m+1):=by rw[<-er']
    rw[this,HZ,HX]
   rw[a1,a2,e1,gD (u:=Pk W m),e2,F2 z' (),gD,F2 z' ()];grind
  have sq:=Xn (iq c) (Xt h0);refine⟨by rw[e3];grind,λe=>?_⟩
  rw[e3] at e;have q1:ip S r' r' m m=0:=⋯;have q2:c*c*h=0:=⋯;have c0:c=0:=by
   have hn:h≠0:=⋯;have:c*c=0:=⋯;grind
  intro i;rw[er i,p2 q1 i,<-hc,c0];grind
end
end L2
namespace L2
open PySem PySem.Spec PyProof.Rows
theorem Ax{X:Cx}{k:Nat}(N:nG X.prog X.base)(hr:cI k X.A)(hst:X.stack=X.env::X.outer)(hgen:X.env.scope.isGenerator=false)(hco:X.env.scope.isCoroutine=false) :
  Fn X .FloorDiv (λx y H Q=>∃i j,x=.int i/\y=.int j/\yZ i j/\Q (.int (i.fdiv j)) H):=by
 intro pins s σ H x y v u Q I r1 r2 h;obtain⟨i,j,rfl,rfl,m,q⟩:=h;obtain⟨t,rfl⟩:=r1;obtain⟨t',rfl⟩:=r2;refine ifloordiv_int m ⟨.int _,H,I.tok _,⟨_,rfl⟩,q⟩ (.inr ?_);refine PySem.PylongRoom.of I.nolimit ?_ (PySem.SeerAt.of (N.seer.keeps I.bk) N.tree (I.ok.frames.trans (Yn some hst)) hgen hco I.ok.blt I.ok.glob);have:=hr.dp;show X.A.depth+100<recursionLimit;nofun
def Bd(n:Nat)(f:Nat->Rat):Prop:=∀i,n<=i->f i=0
def Tp(d:Nat)(f:Nat->Rat):Prop:=f d≠0/\Bd (d+1) f
theorem Bd.mono{m n:Nat}{f:Nat->Rat}(h:Bd m f)(l:m<=n):Bd n f:=λi hi=>h i ()
theorem Bd.tp:∀{n:Nat}{f:Nat->Rat},Bd n f->(∀i,f i=0) \/ ∃d,d<n/\Tp d f
 | 0,f,h=>.inl λi=>h i (YL _)
 | n+1,f,h=>by
  by_cases e:f n=0
  .rcases Bd.tp (n:=n) (f:=f) (λi hi=>by
    by_cases z:i=n
    .rw[z,e]
    .exact h i ()) with z|⟨d,hd,t⟩
   .exact .inl z
   .exact .inr ⟨d,(),t⟩
  .exact .inr ⟨n,(),e,h⟩
theorem me{f:Nat->Rat}(h:∀i,f i=0)(x:Rat):EV f x=0:=by
 rw[fO (n:=0) (λk _=>h k) ∅];rfl
theorem jZ{f g:Nat->Rat}{c:Rat}(x:Rat):EV (λi=>f i+c*g i) x=EV f x+c*EV g x:=by
 have:EV (λi=>c*g i) x=c*EV g x:=by rw[zG,zG (v:=g),m7]
 rw[qO,this]
theorem Bd.pr{m n:Nat}{f g:Nat->Rat}(hg:Bd n g):Bd (m+n) (λk=>L2.pr f g m k):=λk hk=>fP hg _ _ ()
theorem Hr{m n:Nat}{f g:Nat->Rat}(hf:Bd m f)(hg:Bd n g)(h:m+n<=20)(x:Rat):EV (λk=>pr f g m k) x=EV f x*EV g x:=by
 rw[vy hg m h,fO hf (),fO hg ()]
theorem Fp{f g:Nat->Rat}{c:Rat}(k:Nat):DF (λi=>f i+c*g i) k=DF f k+c*DF g k:=by
 show (((k+1:Nat):Int):Rat)*(f (k+1)+c*g (k+1))=(((k+1:Nat):Int):Rat)*f (k+1)+c*((((k+1:Nat):Int):Rat)*g (k+1));grind
theorem zP{g:Nat->Rat}{m:Nat}(bg:Bd m g):∀(n:Nat)(f h:Nat->Rat),Bd n f->n+m<=19->Bd 20 h->(∀x,EV h x=EV f x*EV g x) -> ∀x,EV (DF h) x=EV (DF f) x*EV g x+EV f x*EV (DF g) x
 | 0,f,h,bf,l,bh,e,x=>by
  have f0:∀i,f i=0:=λi=>bf i (YL _);have h0:∀i,h i=0:=nI bh (g:=λ_=>0) (λ_ _=>rfl) λx=>by rw[e x,me f0,me (f:=λ_=>0) λ_=>rfl];grind
  rw[me (f:=DF h) λi=>by show _*h (i+1)=0;rw[h0];grind,me (f:=DF f) λi=>by show _*f (i+1)=0;rw[f0];grind,me f0]
  grind
 | n+1,f,h,bf,l,bh,e,x=>by
  obtain⟨f1,hf1⟩ : ∃f1:Nat->Rat,∀k,f1 k=f (k+1):=⟨_,λ_=>rfl⟩;have b1:Bd n f1:=λi hi=>by rw[hf1,bf _ ()]
  obtain⟨one,h1⟩ : ∃one:Nat->Rat,∀k,one k=if k=0 then 1 else 0:=⟨_,λ_=>rfl⟩
  have one1:∀x,EV one x=1:=λx=>by
   rw[fO (n:=1) (λk hk=>by rw[h1,Yc ()]) ∅]
   show 0+one 0*1=(1:Rat);rw[h1,Yb rfl];grind
  have ef:∀k,f k=lin 0 1 f1 k+f 0*one k:=λk=>by
   cases k with
   | zero=>show f 0=f1 0*0+f 0*one 0;rw[h1,Yb rfl];grind
   | succ k=>show f (k+1)=f1 (k+1)*0+f1 k*1+f 0*one (k+1);rw[h1,Yc (),hf1];grind
  have z1:f1 19=0:=b1 _ ();have vf:∀x,EV f x=x*EV f1 x+f 0:=λx=>by rw[fA ef,jZ,qK z1,one1];grind
  have df:∀x,EV (DF f) x=x*EV (DF f1) x+EV f1 x:=λx=>by
   have:∀k,DF f k=lin 0 1 (DF f1) k+f1 k:=λk=>by
    rw[show f=λk=>lin 0 1 f1 k+f 0*one k from funext ef,Fp,AQ]
    have:DF one k=0:=by show _*one (k+1)=0;rw[h1,Yc ()];grind
    rw[this];grind
   rw[fA this,qO,qK (by show _*f1 20=0;rw[b1 _ ()];grind)]
   grind
  obtain⟨u,hu⟩ : ∃u:Nat->Rat,u=λk=>pr f1 g n k:=⟨_,rfl⟩;have bu:Bd 19 u:=by rw[hu];exact (Bd.pr bg).mono ()
  have vu:∀x,EV u x=EV f1 x*EV g x:=λx=>by rw[hu,Hr b1 bg ()]
  have ih:=zP bg n f1 u b1 () (bu.mono ()) vu;have eh:∀k,h k=lin 0 1 u k+f 0*g k:=nI bh (λk hk=>by
   obtain⟨j,rfl⟩ : ∃j,k=j+1:=⟨k-1,()⟩;show u (j+1)*0+u j*1+f 0*g (j+1)=0;rw[bu j (),bg _ ()];grind) λx=>by rw[e x,vf,jZ,qK (bu 19 ()),vu];grind
  have dh:EV (DF h) x=x*EV (DF u) x+EV u x+f 0*EV (DF g) x:=by
   have:∀k,DF h k=(λk=>lin 0 1 (DF u) k+u k) k+f 0*DF g k:=λk=>by
    rw[show h=λk=>lin 0 1 u k+f 0*g k from funext eh,Fp,AQ]
   rw[fA this,jZ,qO,qK (by show _*u 20=0;rw[bu _ ()];grind)]
   grind
  rw[dh,ih,vu,df,vf];grind
inductive nM:List Int->List Int->List (List Int×List Int×Int×Int)->Prop
 | nought {F:List Int}:nM F [] []
 | last {F G Q:List Int}{S:Int}:G≠[]->nz G (G.length-1)≠0->S≠0->Q.length+G.length=F.length+1->(∀k,S*nz F k=pz (nz Q) (nz G) Q.length k)->nM F G []
 | more {F G R Q:List Int}{T S:Int}{rows:List (List Int×List Int×Int×Int)}:G≠[]->nz G (G.length-1)≠0->S≠0->T≠0->R≠[]->nz R (R.length-1)≠0->R.length<G.length->Q.length+G.length=F.length+1->(∀k,S*nz F k=pz (nz Q) (nz G) Q.length k+T*nz R k)->nM G R rows->nM F G ((R,Q,T,S)::rows)
def dY(G:List Int):List (List Int×List Int×Int×Int)->List Int
 | []=>G
 | row::rows=>dY row.1 rows
theorem bQ(l:List Int):Bd l.length (ez l):=λi hi=>ER hi
theorem kJ{F G R Q:List Int}{S T:Int}(lq:Q.length+G.length<=20)(e:∀k,S*nz F k=pz (nz Q) (nz G) Q.length k+T*nz R k)(x:Rat):(S:Rat)*EV (ez F) x=EV (ez Q) x*EV (ez G) x+(T:Rat)*EV (ez R) x:=by
 have c:∀k,(λk=>0+(S:Rat)*ez F k) k=(λk=>pr (ez Q) (ez G) Q.length k) k+(T:Rat)*ez R k:=λk=>by
  have:=e k;have z:((S*nz F k:Int):Rat)=((pz (nz Q) (nz G) Q.length k+T*nz R k:Int):Rat):=by rw[this]
  rw[Xd,Xc,Xd,gF] at z;show 0+(S:Rat)*((nz F k:Int):Rat)=pr (λi=>((nz Q i:Int):Rat)) (λi=>((nz G i:Int):Rat)) Q.length k+(T:Rat)*((nz R k:Int):Rat);grind
 have h1:=fA c x;rw[jZ,jZ,Hr (bQ Q) (bQ G) lq,me (f:=λ_=>0) λ_=>rfl] at h1;grind
structure Hf (K:W.Frag)(x:Str)(st:Stmt):Prop where
 ex:∃f fd,eD K x x st f fd/\PySem.W.nsIn K mainGlobals x=some (some (.ref f))
theorem Hf.of{K:W.Frag}{x:Str}{st:Stmt}{f:Addr}{oc:Value}{od an:Option Addr}{osl:Array (Option Value)}{kV doc pm cdv ct:Value}(a:PySem.W.nsIn K mainGlobals x=some (some (.ref f)))(l:K.lookup f=some ⟨oc,od,.func (PySem.W.fnOf x x (dZ st) (cC st) (ak st) .none kV doc pm an cdv ct),osl⟩)(c:PySem.W.codeIn K cdv x=true)(k:PySem.W.keepIn K (.ref f)=true):Hf K x st:=⟨_,_,uA l c k,a⟩
structure Dw (P:Program)(w:World)(K:W.Frag)(mg:Str->Option Value)(base:Heap):Prop where
 ex:∃h:Heap,K.In h/\h.Ns mainGlobals mg
section
variable {P:Program}{w:World}{K:W.Frag}{mg:Str->Option Value}{base:Heap}{x:Str}{st:Stmt}{ps:List Str}{n:Nat}{sp:Sp}
theorem Hf.at_(hf:Hf K x st)(E:Dw P w K mg base):∃f fd,eD K x x st f fd/\mg x=some (.ref f)/\PySem.W.keepIn K (.ref f)=true:=by
 obtain⟨f,fd,F,a⟩:=hf.ex;obtain⟨h,X,G⟩:=E.ex;exact⟨f,fd,F,Xu X G a,F.kp⟩
theorem Hf.cal(hf:Hf K x st)(E:Dw P w K mg base)(ok:∀{f:Addr}{fd:FuncData},eD K x x st f fd->bj P w K mg base eP n f fd ps sp)
  (b:∀(kV doc pm:Value)(an:Option Addr)(cdv ct:Value)(us:List Value),us.length=ps.length->bindArgs (PySem.W.fnOf x x (dZ st) (cC st) (ak st) .none kV doc pm an cdv ct) ⟨us,[]⟩=pure (ps.zip us):=by walk_at"bd"):dq P w K mg base x ps n sp:=by
 obtain⟨f,fd,F,a,k⟩:=hf.at_ E;exact⟨f,fd,ok F,a,k,F.binds b⟩
theorem Hf.calX(hf:Hf K x st)(E:Dw P w K mg base)(ok:∀{f:Addr}{fd:FuncData},eD K x x st f fd->bj P w K mg base (lj P w) n f fd ps sp)
  (b:∀(kV doc pm:Value)(an:Option Addr)(cdv ct:Value)(us:List Value),us.length=ps.length->bindArgs (PySem.W.fnOf x x (dZ st) (cC st) (ak st) .none kV doc pm an cdv ct) ⟨us,[]⟩=pure (ps.zip us):=by walk_at"bd"):Dn P w K mg base x ps n sp:=by
 obtain⟨f,fd,F,a,k⟩:=hf.at_ E;exact⟨f,fd,ok F,a,k,F.binds b⟩
end
def sg(x:Rat):Int:=if 0<x then 1 else if x<0 then -1 else 0
theorem cR{x:Rat}(h:0<x):sg x=1:=Yb h
theorem eK{x:Rat}(h:x<0):sg x = -1:=by
 unfold sg;rw[Yc ⋯,Yb h]
theorem vY:sg 0=0:=by decide +kernel
theorem bH(x:Rat):(0<x/\sg x=1)\/(x<0/\sg x = -1)\/(x=0/\sg x=0):=by
 by_cases h:0<x
 .exact .inl ⟨h,cR h⟩
 .by_cases h2:x<0
  .exact .inr (.inl ⟨h2,eK h2⟩)
  .obtain rfl:x=0:=⋯;exact .inr (.inr ⟨rfl,vY⟩)
theorem IT{x:Rat}:sg x=1↔0<x:=by
 refine⟨λh=>?_,cR⟩;rcases bH x with ⟨a,_⟩|⟨_,b⟩|⟨_,b⟩
 .exact a
 .nofun
 .nofun
theorem Bk{x:Rat}:sg x = -1↔x<0:=by
 refine⟨λh=>?_,eK⟩;rcases bH x with ⟨_,b⟩|⟨a,_⟩|⟨_,b⟩
 .nofun
 .exact a
 .nofun
theorem jB{x:Rat}:sg x=0↔x=0:=by
 refine⟨λh=>?_,λh=>by rw[h];exact vY⟩
 rcases bH x with ⟨_,b⟩|⟨_,b⟩|⟨a,_⟩
 .nofun
 .nofun
 .exact a
theorem hU{x y:Rat}:sg (x*y)=sg x*sg y:=by
 rcases bH x with ⟨a,e⟩|⟨a,e⟩|⟨a,e⟩<;>rcases bH y with ⟨b,f⟩|⟨b,f⟩|⟨b,f⟩<;>rw[e,f]
 .exact cR (Xs a b)
 .exact eK (by have:=Xs a (show 0 < -y by grind);grind)
 .rw[b];exact jB.mpr ⋯
 .exact eK (by have:=Xs (show 0 < -x by grind) b;grind)
 .exact cR (by have:=Xs (show 0 < -x by grind) (show 0 < -y by grind);grind)
 .rw[b];exact jB.mpr ⋯
 .rw[a];exact jB.mpr ⋯
 .rw[a];exact jB.mpr ⋯
 .rw[a];exact jB.mpr ⋯
def Sm(e x:Rat):Prop:=-e<=x/\x<=e
theorem Sm.mono{a b x:Rat}(h:Sm a x)(l:a<=b):Sm b x:=by
 unfold Sm at h ⊢;grind
theorem Sm.mul{B e q g:Rat}(h:Sm B q)(h2:Sm e g):Sm (B*e) (q*g):=by
 obtain⟨a1,a2⟩:=h;obtain⟨b1,b2⟩:=h2;have p1:=Xn (show 0<=B-q by grind) (show 0<=e+g by grind)
 have p2:=Xn (show 0<=B+q by grind) (show 0<=e-g by grind)
 have p3:=Xn (show 0<=B-q by grind) (show 0<=e-g by grind)
 have p4:=Xn (show 0<=B+q by grind) (show 0<=e+g by grind)
 constructor
 .grind
 .grind
theorem Sm.add{a b x y:Rat}(h:Sm a x)(h2:Sm b y):Sm (a+b) (x+y):=by
 unfold Sm at *
 grind
theorem Sm.sub{a b x y:Rat}(h:Sm a x)(h2:Sm b y):Sm (a+b) (x-y):=by
 unfold Sm at *
 grind
def Wi(R x:Rat):Prop:=-R<=x/\x<=R
def gy(R:Rat)(f:Rat->Rat):Prop:=∃B:Rat,0<B /\ ∀x,Wi R x->Sm B (f x)
def vP(R:Rat)(f:Rat->Rat):Prop:=∃L:Rat,0<L /\ ∀x y,Wi R x->Wi R y->x<=y->Sm (L*(y-x)) (f y-f x)
theorem ol{u v e:Rat}(h:Sm e (v-u))(n:¬ (sg u=sg v/\sg u≠0)):Sm e u/\Sm e v:=by
 unfold Sm at *
 rcases bH u with ⟨a,e1⟩|⟨a,e1⟩|⟨a,e1⟩<;>rcases bH v with ⟨b,e2⟩|⟨b,e2⟩|⟨b,e2⟩<;>first|(exfalso;exact n ⟨e1.trans e2.symm,λz=>absurd (e1.symm.trans z) ∅⟩)|grind
def chg:Int->List Int->Nat
 | _,[]=>0
 | l,s::r=>if s=0 then chg l r else (if s = -l then 1 else 0)+chg s r
theorem Fm{l:Int}{r:List Int}:chg l (0::r)=chg l r:=Yb rfl
theorem sD{l s:Int}{r:List Int}(h:s≠0):chg l (s::r)=(if s = -l then 1 else 0)+chg s r:=Yc h
theorem ut{s:Int}{r:List Int}(h:s≠0):chg 0 (s::r)=chg s r:=by
 rw[sD h,Yc (),Xj]
def vF(x:Rat)(l:List (Rat->Rat)):List Int:=l.map λf=>sg (f x)
inductive Ch (R:Rat):(Rat->Rat)->List (Rat->Rat)->Prop
 | one {f:Rat->Rat}{c:Rat}:c≠0->(∀x,f x=c)->Ch R f []
 | two {f g:Rat->Rat}:vP R f->Ch R g []->Ch R f [g]
 | more {f g h q:Rat->Rat}{a b:Rat}{l:List (Rat->Rat)}:vP R f->gy R q->0<a->0<b->(∀x,a*f x=q x*g x-b*h x)->Ch R g (h::l)->Ch R f (g::h::l)
theorem Ch.lip{R:Rat}{f:Rat->Rat}{l:List (Rat->Rat)}(h:Ch R f l):vP R f:=by
 cases h with
 | one _ e=>exact⟨1,∅,λx y _ _ l=>by rw[e,e];unfold Sm;grind⟩
 | two h _=>exact h
 | more h _ _ _ _ _=>exact h
def fg(R:Rat)(f g:Rat->Rat):Prop:=∃e:Rat,0<e /\ ∀x,Wi R x->Sm e (f x)->Sm e (g x)->False
theorem Ch.notBoth{R:Rat}{f:Rat->Rat}{l:List (Rat->Rat)}(h:Ch R f l):∀g r,l=g::r->fg R f g:=by
 induction h with
 | one _ _=>intro g r e;cases e
 | @two f g _ hg =>
  intro g' r e;cases e;cases hg with
  | @one _ c c0 ec =>
   rcases bH c with ⟨a,_⟩|⟨a,_⟩|⟨a,_⟩
   .exact⟨c/2,⋯,λx _ _ s=>by rw[ec] at s;unfold Sm at s;grind⟩
   .exact⟨-c/2,⋯,λx _ _ s=>by rw[ec] at s;unfold Sm at s;grind⟩
   .exact absurd a c0
 | @more f g h q a b l _ hq a0 b0 e _ ih =>
  intro g' r e';cases e';obtain⟨B,B0,hB⟩:=hq;obtain⟨ε,ε0,hε⟩:=ih h l rfl;have s0:0<B+a+b:=⋯;have t0:0<b/(B+a+b):=by rw[Xv s0];grind
  refine⟨ε*(b/(B+a+b)),Xs ε0 t0,λx wx sf sg'=>hε x wx ?_ ?_⟩
  .refine sg'.mono ?_;have t1:b/(B+a+b)<=1:=Rat.not_lt.mp λz=>by rw[Xv s0] at z;grind
   have:=Xn (Xt ε0) (show 0<=1-b/(B+a+b) by grind)
   grind
  .obtain⟨t,ht⟩ : ∃t,t=ε*(b/(B+a+b)):=⟨_,rfl⟩;rw[<-ht] at sf sg';have tt:t*(B+a+b)=ε*b:=by rw[ht];grind
   have s1:=((hB x wx).mul sg').sub (Sm.mul (B:=a) (q:=a) ⟨⋯,⋯⟩ sf);have e1:q x*g x-a*f x=b*h x:=by have:=e x;grind
   rw[e1] at s1;obtain⟨u1,u2⟩:=s1;have tp:0<t:=by rw[ht];exact Xs ε0 t0
   have tb:=Xs tp b0;have k:B*t+a*t<=b*ε:=⋯;constructor
   .refine Rat.not_lt.mp λz=>?_;have:=Xs b0 (show 0 < -ε-h x by grind)
    grind
   .refine Rat.not_lt.mp λz=>?_;have:=Xs b0 (show 0<h x-ε by grind)
    grind
theorem BO{R a b:Rat}{f g h q:Rat->Rat}(hq:gy R q)(a0:0<a)(b0:0<b)(e:∀x,a*f x=q x*g x-b*h x)(nb:fg R g h):∃η:Rat,0<η /\ ∀x,Wi R x->Sm η (g x)->sg (f x) = -sg (h x)/\sg (h x)≠0:=by
 obtain⟨B,B0,hB⟩:=hq;obtain⟨ε,ε0,hε⟩:=nb;have s0:0<B+b:=⋯;have t0:0<b/(B+b):=by rw[Xv s0];grind
 refine⟨ε*(b/(B+b)),Xs ε0 t0,λx wx s=>?_⟩;have t1:b/(B+b)<=1:=Rat.not_lt.mp λz=>by rw[Xv s0] at z;grind
 have s2:Sm ε (g x):=s.mono (by
  have:=Xn (Xt ε0) (show 0<=1-b/(B+b) by grind)
  grind)
 have nh:¬ Sm ε (h x):=λz=>hε x wx s2 z;obtain⟨t,ht⟩ : ∃t,t=ε*(b/(B+b)):=⟨_,rfl⟩;rw[<-ht] at s;have tt:t*(B+b)=ε*b:=by rw[ht];grind
 have tp:0<t:=by rw[ht];exact Xs ε0 t0
 have s1:=(hB x wx).mul s;have e1:=e x;have tb:=Xs tp b0;obtain⟨u1,u2⟩:=s1;by_cases hp:ε<h x
 .have p1:=Xs b0 (show 0<h x-ε by grind)
  have fn:f x<0:=Rat.not_le.mp λz=>by
   have:=Xn (Xt a0) z;grind
  exact⟨by rw[eK fn,cR ⋯],by rw[cR ⋯];decide⟩
 .have hn:h x < -ε:=by
   unfold Sm at nh;grind
  have p1:=Xs b0 (show 0 < -ε-h x by grind)
  have fp:0<f x:=Rat.not_le.mp λz=>by
   have:=Xn (Xt a0) (show 0 <= -f x by grind)
   grind
  exact⟨by rw[cR fp,eK ⋯];decide,by rw[eK ⋯];decide⟩
def FU(R:Rat)(f:Rat->Rat)(l:List (Rat->Rat)):Prop:=∃δ:Rat,0<δ /\ ∀c d,Wi R c->Wi R d->c<=d->d-c<=δ->sg (f c)=sg (f d)->sg (f c)≠0->chg (sg (f c)) (vF c l)=chg (sg (f d)) (vF d l)
theorem oO{a b c:Rat}(h1:0<a)(h2:0<b)(h3:0<c):∃m:Rat,0<m/\m<=a/\m<=b/\m<=c:=by
 by_cases x:a<=b
 .by_cases y:a<=c
  .exact⟨a,h1,⋯,x,y⟩
  .exact⟨c,h3,⋯,⋯,⋯⟩
 .by_cases y:b<=c
  .exact⟨b,h2,⋯,⋯,y⟩
  .exact⟨c,h3,⋯,⋯,⋯⟩
theorem vP.near{R:Rat}{f:Rat->Rat}(h:vP R f) {e:Rat}(e0:0<e):∃δ:Rat,0<δ /\ ∀c d,Wi R c->Wi R d->c<=d->d-c<=δ->Sm e (f d-f c):=by
 obtain⟨L,L0,hL⟩:=h;have p:0<e/L:=by rw[Xv L0];grind
 refine⟨e/L,p,λc d wc wd l n=>(hL c d wc wd l).mono ?_⟩;have:=Xn (Xt L0) (show 0<=e/L-(d-c) by grind)
 have z:L*(e/L)=e:=⋯;grind
theorem xI{s t:Int}{r:List Int}(hs:s=1\/s = -1)(ht:t=0\/t=1\/t = -1):chg s (t::(-s)::r)=1+chg (-s) r:=by
 rcases hs with rfl|rfl<;>rcases ht with rfl|rfl|rfl<;>simp[chg]
theorem fD(x:Rat):sg x=0\/sg x=1\/sg x = -1:=by
 rcases bH x with ⟨_,e⟩|⟨_,e⟩|⟨_,e⟩
 .exact .inr (.inl e)
 .exact .inr (.inr e)
 .exact .inl e
theorem Ch.keeps{R:Rat}{f:Rat->Rat}{l:List (Rat->Rat)}(h:Ch R f l):FU R f l /\ ∀g r,l=g::r->FU R g r:=by
 induction h with
 | one _ _=>exact⟨⟨1,∅,λ_ _ _ _ _ _ _ _=>rfl⟩,λg r e=>by cases e⟩
 | @two f g lf hg ih =>
  refine⟨?_,λg' r e=>by cases e;exact ih.1⟩
  cases hg with
  | @one _ c c0 ec =>
   refine⟨1,∅,λc' d' _ _ _ _ e _=>?_⟩;show chg _ [sg (g c')]=chg _ [sg (g d')];rw[ec,ec,e]
 | @more f g h q a b l lf hq a0 b0 e hg ih =>
  refine⟨?_,λg' r e=>by cases e;exact ih.1⟩
  obtain⟨η,η0,op⟩:=BO hq a0 b0 e (hg.notBoth h l rfl);obtain⟨δ1,d1,k1⟩:=ih.1;obtain⟨δ2,d2,k2⟩:=ih.2 h l rfl;obtain⟨δ3,d3,k3⟩:=hg.lip.near η0;obtain⟨δ,d0,m1,m2,m3⟩:=oO d1 d2 d3;refine⟨δ,d0,λc d wc wd cd n ef nf=>?_⟩;show chg _ (sg (g c)::vF c (h::l))=chg _ (sg (g d)::vF d (h::l));by_cases same:sg (g c)=sg (g d)/\sg (g c)≠0
  .rw[sD same.2,sD (by rw[<-same.1];exact same.2),k1 c d wc wd cd ⋯ same.1 same.2,same.1,ef]
  .obtain⟨sc,sd⟩:=ol (k3 c d wc wd cd ⋯) same;obtain⟨oc,nc⟩:=op c wc sc;obtain⟨od,nd⟩:=op d wd sd;have hh:sg (h c)=sg (h d):=();have sf:sg (f d)=1\/sg (f d) = -1:=by
    have:=fD (f d);nofun
   show chg _ (sg (g c)::sg (h c)::vF c l)=chg _ (sg (g d)::sg (h d)::vF d l);have e1:sg (h c) = -sg (f d):=();have e2:sg (h d) = -sg (f d):=();have k:=k2 c d wc wd cd ⋯ hh nc;rw[e1,e2] at k;rw[ef,e1,e2,xI sf (fD _),xI sf (fD _),k]
def Vr(x:Rat)(l:List (Rat->Rat)):Nat:=chg 0 (vF x l)
def v1(f g:Rat->Rat)(x:Rat):Nat:=if sg (f x)*sg (g x) = -1 then 1 else 0
theorem BW{f g:Rat->Rat}{l:List (Rat->Rat)}{x:Rat}(h:sg (g x)≠0):Vr x (f::g::l)=v1 f g x+chg (sg (g x)) (vF x l):=by
 show chg 0 (sg (f x)::sg (g x)::vF x l)=_;unfold v1;rcases fD (f x) with e|e|e
 .rw[e,Fm,ut h,Int.zero_mul,Yc ∅,Xj]
 .rw[e,ut ∅,sD h,Xk]
 .rw[e,ut ∅,sD h];have:=fD (g x);rcases this with z|z|z<;>rw[z]<;>rfl
theorem Ar{f:Rat->Rat}{l:List (Rat->Rat)}{x:Rat}(h:sg (f x)≠0):Vr x (f::l)=chg (sg (f x)) (vF x l):=ut h
def DC(R:Rat)(f g:Rat->Rat)(A:Rat->Nat):Prop:=∃δ:Rat,0<δ /\ ∀c d,Wi R c->Wi R d->c<=d->d-c<=δ->(sg (f c)=sg (f d)/\sg (f c)≠0/\A c=A d)\/(sg (g c)=sg (g d)/\sg (g c)≠0/\v1 f g c+A c=v1 f g d+A d)
theorem Ch.counts{R:Rat}{f g:Rat->Rat}{l:List (Rat->Rat)}{A:Rat->Nat}(h:Ch R f (g::l))(loc:DC R f g A) {a b:Rat}(wa:Wi R a)(wb:Wi R b)(ab:a<=b):Vr a (f::g::l)+A a=Vr b (f::g::l)+A b:=by
 obtain⟨δ1,d1,k1⟩:=h.keeps.1;obtain⟨δ2,d2,k2⟩:=h.keeps.2 g l rfl;obtain⟨δ3,d3,k3⟩:=loc;obtain⟨δ,d0,m1,m2,m3⟩:=oO d1 d2 d3;have step:∀c d,Wi R c->Wi R d->c<=d->d-c<=δ->Vr c (f::g::l)+A c=Vr d (f::g::l)+A d:=λc d wc wd cd n=>by
  rcases k3 c d wc wd cd ⋯ with ⟨e,nz,ea⟩|⟨e,nz,ea⟩
  .rw[Ar nz,Ar (by rw[<-e];exact nz),k1 c d wc wd cd ⋯ e nz,ea]
  .rw[BW nz,BW (by rw[<-e];exact nz),k2 c d wc wd cd ⋯ e nz]
   nofun
 have all:∀(n:Nat)(c:Rat),Wi R c->c<=b->b-c<=(n:Rat)*δ->Vr c (f::g::l)+A c=Vr b (f::g::l)+A b:=by
  intro n;induction n with
  | zero =>
   intro c _ cb z;obtain rfl:c=b:=by
    have:((0:Nat):Rat)=0:=rfl;grind
   rfl
  | succ n ih =>
   intro c wc cb z;by_cases y:b-c<=δ
   .exact step c b wc wb cb y
   .have wc':Wi R (c+δ):=by unfold Wi at *;grind
    rw[step c (c+δ) wc wc' ⋯ ⋯];refine ih (c+δ) wc' ⋯ ?_;have:((n+1:Nat):Rat)=(n:Rat)+1:=by rw[Rat.natCast_add];rfl
    rw[this] at z;grind
 obtain⟨n,hn⟩ : ∃n:Nat,b-a<=(n:Rat)*δ:=by
  obtain⟨x,hx⟩ : ∃x,x=(b-a)/δ:=⟨_,rfl⟩;refine⟨(x.ceil).toNat,?_⟩;have h1:x<=((x.ceil:Int):Rat):=Rat.le_ceil;have h2:((x.ceil:Int):Rat)<=((x.ceil.toNat:Nat):Rat):=by
   rw[show ((x.ceil.toNat:Nat):Rat)=(((x.ceil.toNat:Nat):Int):Rat) from rfl]
   exact Rat.intCast_le_intCast.mpr (Int.self_le_toNat _)
  have h3:=Xn (Xt d0) (show 0<=((x.ceil.toNat:Nat):Rat)-x by grind)
  have h4:x*δ=b-a:=by rw[hx];grind
  grind
 exact all n a wa ab hn
inductive aJ where
 | line (r:Rat)
 | root (n:Rat)
 | none (n:Rat)
def aJ.ok:aJ->Prop
 | .line _=>True
 | .root n=>0<n /\ ∀r:Rat,r*r≠n
 | .none n=>0<n
def aJ.p:aJ->Rat->Rat
 | .line r,x=>x-r
 | .root n,x=>x*x-n
 | .none n,x=>x*x+n
def aJ.d:aJ->Rat->Rat
 | .line _,_=>1
 | .root _,x=>2*x
 | .none _,x=>2*x
def aJ.A:aJ->Rat->Nat
 | .line r,x=>if r<=x then 1 else 0
 | .root n,x=>if x*x<n then 1 else if x<0 then 0 else 2
 | .none _,_=>0
def cA:List (aJ×Nat)->Rat->Rat
 | [],_=>1
 | q::l,x=>q.1.p x*cA l x
def gv:List (aJ×Nat)->Rat->Rat
 | [],_=>0
 | q::l,x=>((q.2:Nat):Rat)*q.1.d x*cA l x+q.1.p x*gv l x
def fk:List (aJ×Nat)->Rat->Nat
 | [],_=>0
 | q::l,x=>q.1.A x+fk l x
theorem mY{l l':List (aJ×Nat)}(h:l.Perm l')(x:Rat):cA l x=cA l' x:=by
 induction h with
 | nil=>rfl
 | cons q _ ih=>show q.1.p x*_=q.1.p x*_;rw[ih]
 | swap a b l=>show b.1.p x*(a.1.p x*cA l x)=a.1.p x*(b.1.p x*cA l x);grind
 | trans _ _ h1 h2=>rw[h1,h2]
theorem Bv{l l':List (aJ×Nat)}(h:l.Perm l')(x:Rat):gv l x=gv l' x:=by
 induction h with
 | nil=>rfl
 | cons q h ih=>show _*_*cA _ x+q.1.p x*gv _ x=_*_*cA _ x+q.1.p x*gv _ x;rw[ih,mY h]
 | swap a b l =>
  show ((b.2:Nat):Rat)*b.1.d x*(a.1.p x*cA l x)+b.1.p x*(((a.2:Nat):Rat)*a.1.d x*cA l x+a.1.p x*gv l x)=((a.2:Nat):Rat)*a.1.d x*(b.1.p x*cA l x)+a.1.p x*(((b.2:Nat):Rat)*b.1.d x*cA l x+b.1.p x*gv l x);grind
 | trans _ _ h1 h2=>rw[h1,h2]
theorem tw{l l':List (aJ×Nat)}(h:l.Perm l')(x:Rat):fk l x=fk l' x:=by
 induction h with
 | nil=>rfl
 | cons q _ ih=>show q.1.A x+_=q.1.A x+_;rw[ih]
 | swap a b l=>show b.1.A x+(a.1.A x+fk l x)=a.1.A x+(b.1.A x+fk l x);nofun
 | trans _ _ h1 h2=>rw[h1,h2]
theorem gy.const{R:Rat}(c:Rat):gy R λ_=>c:=by
 rcases bH c with ⟨a,_⟩|⟨a,_⟩|⟨a,_⟩
 .exact⟨c,a,λx _=>by unfold Sm;grind⟩
 .exact⟨-c,⋯,λx _=>by unfold Sm;grind⟩
 .exact⟨1,∅,λx _=>by unfold Sm;grind⟩
theorem gy.id{R:Rat}(h:0<=R):gy R λx=>x:=⟨R+1,⋯,λx w=>by unfold Sm;unfold Wi at w;grind⟩
theorem gy.mul{R:Rat}{f g:Rat->Rat}(h:gy R f)(h2:gy R g):gy R λx=>f x*g x:=by
 obtain⟨a,a0,ha⟩:=h;obtain⟨b,b0,hb⟩:=h2;exact⟨a*b,Xs a0 b0,λx w=>(ha x w).mul (hb x w)⟩
theorem gy.add{R:Rat}{f g:Rat->Rat}(h:gy R f)(h2:gy R g):gy R λx=>f x+g x:=by
 obtain⟨a,a0,ha⟩:=h;obtain⟨b,b0,hb⟩:=h2;exact⟨a+b,⋯,λx w=>(ha x w).add (hb x w)⟩
theorem gy.congr{R:Rat}{f g:Rat->Rat}(h:gy R f)(e:∀x,g x=f x):gy R g:=by
 obtain⟨a,a0,ha⟩:=h;exact⟨a,a0,λx w=>by rw[e];exact ha x w⟩
theorem aJ.bp{R:Rat}(h:0<=R):∀q:aJ,gy R q.p
 | .line r=>((gy.id h).add (.const (-r))).congr λx=>by show x-r=x + -r;grind
 | .root n=>(((gy.id h).mul (.id h)).add (.const (-n))).congr λx=>by show x*x-n=x*x + -n;grind
 | .none n=>((gy.id h).mul (.id h)).add (.const n)
theorem aJ.bd{R:Rat}(h:0<=R):∀q:aJ,gy R q.d
 | .line _=>.const 1
 | .root _=>(gy.const 2).mul (.id h)
 | .none _=>(gy.const 2).mul (.id h)
theorem qV{R:Rat}(h:0<=R):∀l:List (aJ×Nat),gy R (cA l)
 | []=>.const 1
 | q::l=>(q.1.bp h).mul (qV h l)
theorem qA{R:Rat}(h:0<=R):∀l:List (aJ×Nat),gy R (gv l)
 | []=>.const 0
 | q::l=>(((gy.const _).mul (q.1.bd h)).mul (qV h l)).add ((q.1.bp h).mul (qA h l))
theorem aJ.lip{R:Rat}(h:0<=R):∀q:aJ,vP R q.p
 | .line r=>⟨1,∅,λx y _ _ l=>by show Sm _ (y-r-(x-r));unfold Sm;grind⟩
 | .root n=>⟨2*R+1,⋯,λx y wx wy l=>by
   show Sm _ (y*y-n-(x*x-n));have s:Sm (2*R+1) (x+y):=by unfold Sm;unfold Wi at wx wy;grind
   have:=s.mul (show Sm (y-x) (y-x) by unfold Sm;grind)
   rwa [show y*y-n-(x*x-n)=(x+y)*(y-x) by grind]⟩
 | .none n=>⟨2*R+1,⋯,λx y wx wy l=>by
   show Sm _ (y*y+n-(x*x+n));have s:Sm (2*R+1) (x+y):=by unfold Sm;unfold Wi at wx wy;grind
   have:=s.mul (show Sm (y-x) (y-x) by unfold Sm;grind)
   rwa [show y*y+n-(x*x+n)=(x+y)*(y-x) by grind]⟩
theorem vP.bdd{R:Rat}(h:0<=R) {f:Rat->Rat}(lf:vP R f):gy R f:=by
 obtain⟨L,L0,hL⟩:=lf;obtain⟨a,a0,ha⟩:=gy.const (R:=R) (f 0);have w0:Wi R 0:=by unfold Wi;grind
 have lr:=Xn (Xt L0) h;refine⟨a+L*R,⋯,λx wx=>?_⟩;have h0:=ha x wx;by_cases y:0<=x
 .have:=hL 0 x w0 wx y;have m:=Xn (Xt L0) (show 0<=R-x by unfold Wi at wx;grind)
  unfold Sm at *
  grind
 .have:=hL x 0 wx w0 ⋯;have m:=Xn (Xt L0) (show 0<=R+x by unfold Wi at wx;grind)
  unfold Sm at *
  grind
def Bg(e x:Rat):Prop:=e<=x\/x <= -e
theorem Bg.of{e x:Rat}(h:¬ Sm e x):Bg e x:=by
 unfold Sm at h;unfold Bg;grind
theorem Bg.no{a b x:Rat}(h:Bg a x)(l:b<a):¬ Sm b x:=by
 unfold Bg at h;unfold Sm;grind
theorem Bg.mul{a b x y:Rat}(h:Bg a x)(h2:Bg b y)(a0:0<=a)(b0:0<=b):Bg (a*b) (x*y):=by
 rcases h with h|h<;>rcases h2 with k|k
 .left
  have:=Xn (show 0<=x-a by grind) (show 0<=y by grind)
  have:=Xn a0 (show 0<=y-b by grind)
  grind
 .right
  have:=Xn (show 0<=x-a by grind) (show 0 <= -y by grind)
  have:=Xn a0 (show 0 <= -y-b by grind)
  grind
 .right
  have:=Xn (show 0 <= -x-a by grind) (show 0<=y by grind)
  have:=Xn a0 (show 0<=y-b by grind)
  grind
 .left
  have:=Xn (show 0 <= -x-a by grind) (show 0 <= -y by grind)
  have:=Xn a0 (show 0 <= -y-b by grind)
  grind
theorem Bg.ne{e x:Rat}(h:Bg e x)(e0:0<e):sg x≠0:=λz=>by
 have:=jB.mp z;unfold Bg at h;grind
def du(e:Rat):Nat->Rat
 | 0=>1
 | k+1=>e*du e k
theorem ei{e:Rat}(h:0<e):∀k,0<du e k
 | 0=>by show (0:Rat)<1;decide
 | k+1=>Xs h (ei h k)
theorem rV{e x:Rat}(e0:0<e):∀{l:List (aJ×Nat)},(∀q∈l,¬ Sm e (q.1.p x))->Bg (du e l.length) (cA l x)
 | [],_=>.inl (by show (1:Rat)<=1;grind)
 | q::l,h=>(Bg.of (h q Yi)).mul (rV e0 λq' hq=>h q' (Yj _ hq)) (Xt e0) (Xt (ei e0 _))
theorem BX{α:Type}{P:α->Rat->Prop}(mono:∀a e e',P a e->0<e'->e'<=e->P a e'):∀l:List α,(∀a∈l,∃e:Rat,0<e/\P a e) -> ∃e:Rat,0<e /\ ∀a∈l,P a e
 | [],_=>⟨1,∅,λ_ h=>by cases h⟩
 | a::l,h=>by
  obtain⟨e,e0,he⟩:=h a Yi;obtain⟨f,f0,hf⟩:=BX mono l λb hb=>h b (Yj _ hb);obtain⟨m,m0,m1,m2,_⟩:=oO e0 f0 f0;refine⟨m,m0,λb hb=>?_⟩;rcases Y2.mp hb with rfl|hb
  .exact mono _ _ _ he m0 m1
  .exact mono _ _ _ (hf b hb) m0 m2
theorem apart{R:Rat}(R0:0<=R) {f g a b:Rat->Rat}{c:Rat}(ha:gy R a)(hb:gy R b)(c0:c≠0)(e:∀x,a x*f x+b x*g x=c):fg R f g:=by
 obtain⟨A,A0,hA⟩:=ha;obtain⟨B,B0,hB⟩:=hb;obtain⟨k,k0,hk⟩ : ∃k:Rat,0<k/\(k<=c\/k <= -c):=by
  rcases bH c with ⟨z,_⟩|⟨z,_⟩|⟨z,_⟩
  .exact⟨c,z,.inl ⋯⟩
  .exact⟨-c,⋯,.inr ⋯⟩
  .exact absurd z c0
 have s0:0<A+B:=⋯;have t0:0<k/2/(A+B):=by rw[Xv s0];grind
 refine⟨k/2/(A+B),t0,λx wx sf sg'=>?_⟩;have s1:=((hA x wx).mul sf).add ((hB x wx).mul sg');rw[e] at s1;have:A*(k/2/(A+B))+B*(k/2/(A+B))=k/2:=⋯;rw[this] at s1;unfold Sm at s1;grind
theorem fg.symm{R:Rat}{f g:Rat->Rat}(h:fg R f g):fg R g f:=by
 obtain⟨e,e0,h⟩:=h;exact⟨e,e0,λx w a b=>h x w b a⟩
theorem rg{R n:Rat}{g:Rat->Rat}(n0:0<n):fg R (aJ.none n).p g:=⟨n/2,⋯,λx _ s _=>by
 have s:Sm (n/2) (x*x+n):=s;have:0<=x*x:=iq x;unfold Sm at s;grind⟩
theorem pR{R r n:Rat}(R0:0<=R)(hn:∀r:Rat,r*r≠n):fg R (aJ.line r).p (aJ.root n).p:=by
 refine apart R0 (a:=λx=>-(x+r)) (b:=λ_=>1) (c:=r*r-n) ((((gy.id R0).add (.const r)).mul (.const (-1))).congr λx=>by grind) (.const 1) (λz=>hn r ⋯) λx=>?_
 show -(x+r)*(x-r)+1*(x*x-n)=r*r-n;grind
theorem aJ.apart{R:Rat}(R0:0<=R) {q q':aJ}(h:q.ok)(h':q'.ok)(n:q≠q'):fg R q.p q'.p:=by
 cases q with
 | none m=>exact rg h
 | line r =>
  cases q' with
  | none m=>exact (rg h').symm
  | line s =>
   refine L2.apart R0 (a:=λ_=>1) (b:=λ_=>-1) (c:=s-r) (.const 1) (.const (-1)) (λz=>n (by rw[show r=s by grind])) λx=>?_
   show 1*(x-r) + -1*(x-s)=s-r;grind
  | root m=>exact pR R0 h'.2
 | root m =>
  cases q' with
  | none m'=>exact (rg h').symm
  | line s=>exact (pR R0 h.2).symm
  | root m' =>
   refine L2.apart R0 (a:=λ_=>1) (b:=λ_=>-1) (c:=m'-m) (.const 1) (.const (-1)) (λz=>n (by rw[show m=m' by grind])) λx=>?_
   show 1*(x*x-m) + -1*(x*x-m')=m'-m;grind
def aJ.wd:aJ->Rat->Prop
 | .line _,_=>True
 | .root n,e=>e<=1/\e<=n/4
 | .none n,e=>e<=n/4
theorem aJ.steep(q:aJ)(h:q.ok):∃e:Rat,0<e/\q.wd e /\ ∀x,Sm e (q.p x)->Bg e (q.d x):=by
 cases q with
 | line r=>exact⟨1,∅,trivial,λx _=>.inl (by show (1:Rat)<=1;grind)⟩
 | none n =>
  have n0:0<n:=h;refine⟨n/4,⋯,by show n/4<=n/4;grind,λx s=>?_⟩
  have s:Sm (n/4) (x*x+n):=s;have:=iq x;unfold Sm at s;grind
 | root n =>
  obtain⟨n0,_⟩:=h;obtain⟨m,m0,m1,m2,_⟩:=oO (show (0:Rat)<1 by decide) (show 0<n/4 by grind) (show 0<n/4 by grind)
  refine⟨m,m0,⟨m1,m2⟩,λx s=>?_⟩;have s:Sm m (x*x-n):=s;show Bg m (2*x);refine Bg.of λz=>?_;have:=z.mul z;have k:=Xn (Xt m0) (show 0<=1-m by grind)
  unfold Sm at *
  grind
theorem D9{a b e:Rat}(h:Bg (2*e) a)(k:Sm e b)(e0:0<e):sg (a+b)=sg a/\Bg e (a+b):=by
 unfold Sm at k;rcases h with h|h
 .exact⟨by rw[cR ⋯,cR ⋯],.inl ⋯⟩
 .exact⟨by rw[eK ⋯,eK ⋯],.inr ⋯⟩
theorem Bg.mono{a b x:Rat}(h:Bg a x)(l:b<=a):Bg b x:=by
 unfold Bg at *
 grind
def Jn(R:Rat)(l:List (aJ×Nat))(q:aJ×Nat)(e:Rat):Prop:=q.1.wd e /\ ∃l',l.Perm (q::l') /\ ∀x,Wi R x->Sm e (q.1.p x)->Bg e (gv l x)/\Bg e (cA l' x)/\sg (gv l x)=sg (q.1.d x)*sg (cA l' x)/\sg (q.1.d x)≠0 /\ ∀q'∈l',¬ Sm e (q'.1.p x)
theorem Jn.mono{R:Rat}{l:List (aJ×Nat)}{q:aJ×Nat}{e e':Rat}(h:Jn R l q e)(e0:0<e')(le:e'<=e):Jn R l q e':=by
 obtain⟨hw,l',p,h⟩:=h;refine⟨?_,l',p,λx wx s=>?_⟩
 .cases hq:q.1 with
  | line _=>trivial
  | root n=>rw[hq] at hw;exact⟨by have:=hw.1;grind,by have:=hw.2;grind⟩
  | none n =>
   rw[hq] at hw;have hw:e<=n/4:=hw;show e'<=n/4;grind
 .obtain⟨a,b,c,d,f⟩:=h x wx (s.mono le);exact⟨a.mono le,b.mono le,c,d,λq' hq z=>f q' hq (z.mono le)⟩
theorem Ey{R:Rat}(R0:0<=R) {l:List (aJ×Nat)}(ok:∀q∈l,q.1.ok/\1<=q.2)(un:l.Pairwise λa b=>a.1≠b.1) {q:aJ×Nat}(hq:q∈l):∃e:Rat,0<e/\Jn R l q e:=by
 obtain⟨l',p⟩ : ∃l',l.Perm (q::l'):=by
  obtain⟨s,t,rfl⟩:=List.append_of_mem hq;exact⟨s++t,List.perm_middle⟩
 have un':=(p.pairwise_iff (λh=>Yk h)).mp un;obtain⟨uq,_⟩:=List.pairwise_cons.mp un';have ok':∀q'∈l',q'.1.ok/\1<=q'.2:=λq' h=>ok q' (p.mem_iff.mpr (Yj _ h));obtain⟨η,η0,hη⟩:=BX (P:=λ(q':aJ×Nat) e=>∀x,Wi R x->Sm e (q.1.p x)->Sm e (q'.1.p x)->False) (λa e e' h _ le x w s1 s2=>h x w (s1.mono le) (s2.mono le)) l' λq' h=>by
  obtain⟨e,e0,he⟩:=aJ.apart R0 (ok q hq).1 (ok' q' h).1 (uq q' h);exact⟨e,e0,he⟩
 obtain⟨σ,σ0,hw,hσ⟩:=q.1.steep (ok q hq).1;obtain⟨M,M0,hM⟩:=qA R0 l';have π0:=ei η0 l'.length;obtain⟨π,hπ⟩ : ∃π,π=du η l'.length:=⟨_,rfl⟩;rw[<-hπ] at π0;have sp:=Xs σ0 π0;have sp2:0<σ*π/2/M:=by rw[Xv M0];grind
 obtain⟨t1,t10,t11,t12,t13⟩:=oO η0 σ0 sp2;obtain⟨e,e0,e1,e2,e3⟩:=oO t10 (show 0<σ*π/2 by grind) π0
 refine⟨e,e0,?_,l',p,λx wx s=>?_⟩
 .cases hq':q.1 with
  | line _=>trivial
  | root n=>rw[hq'] at hw;exact⟨by have:=hw.1;grind,by have:=hw.2;grind⟩
  | none n =>
   rw[hq'] at hw;have hw:σ<=n/4:=hw;show e<=n/4;grind
 have b1:Bg σ (q.1.d x):=hσ x (s.mono ⋯);have b2:Bg π (cA l' x):=by
  rw[hπ];exact rV η0 λq' h z=>hη q' h x wx (s.mono ⋯) z
 have b3:=b1.mul b2 (Xt σ0) (Xt π0);have m1:(1:Rat)<=((q.2:Nat):Rat):=by
  have:=(ok q hq).2;have z:((1:Nat):Rat)<=((q.2:Nat):Rat):=Rat.natCast_le_natCast.mpr this;exact z
 have b4:Bg (σ*π) (((q.2:Nat):Rat)*q.1.d x*cA l' x):=by
  have:=(show Bg 1 ((q.2:Nat):Rat) from .inl m1).mul b3 ∅ (Xt sp)
  rw[Rat.one_mul] at this
  rwa [Rat.mul_assoc]
 have s2:=s.mul (hM x wx);have le:e*M<=σ*π/2:=by
  have k:e<=σ*π/2/M:=⋯;have:=Xn (Xt M0) (show 0<=σ*π/2/M-e by grind)
  have z:M*(σ*π/2/M)=σ*π/2:=⋯;grind
 have e5:gv l x=((q.2:Nat):Rat)*q.1.d x*cA l' x+q.1.p x*gv l' x:=Bv p x;obtain⟨n1,n2⟩:=D9 (e:=σ*π/2) (b4.mono ⋯) (s2.mono le) ⋯;rw[<-e5] at n1 n2;refine⟨n2.mono e2,b2.mono e3,?_,b1.ne σ0,λq' h z=>hη q' h x wx (s.mono ⋯) (z.mono ⋯)⟩;rw[n1,hU,hU,cR (show 0<((q.2:Nat):Rat) by grind),Xk]
theorem aJ.same{q:aJ}{e c d:Rat}(h:q.ok)(hw:q.wd e)(cd:c<=d)(n:d-c<=e)(s:sg (q.p c)=sg (q.p d))(s0:sg (q.p c)≠0):q.A c=q.A d:=by
 cases q with
 | none _=>rfl
 | line r =>
  show (if r<=c then 1 else 0)=(if r<=d then 1 else 0)
  have s:sg (c-r)=sg (d-r):=s;have s0:sg (c-r)≠0:=s0;rcases bH (c-r) with ⟨a,e1⟩|⟨a,e1⟩|⟨a,e1⟩
  .rw[Yb ⋯,Yb ⋯]
  .rw[e1] at s;have:=Bk.mp s.symm;rw[Yc ⋯,Yc ⋯]
  .exact absurd e1 s0
 | root m =>
  obtain⟨m0,_⟩:=h;obtain⟨w1,w2⟩:=hw;show (if c*c<m then 1 else if c<0 then 0 else 2)=(if d*d<m then 1 else if d<0 then 0 else 2)
  have s:sg (c*c-m)=sg (d*d-m):=s;have s0:sg (c*c-m)≠0:=s0;rcases bH (c*c-m) with ⟨a,e1⟩|⟨a,e1⟩|⟨a,e1⟩
  .rw[e1] at s;have b:=IT.mp s.symm;rw[Yc (show ¬ c*c<m by grind),Yc (show ¬ d*d<m by grind)]
   by_cases z:c<0
   .rw[Yb z,Yb];refine Rat.not_le.mp λy=>?_;have k1:=Xn y (show 0<=e-d by grind)
    have k2:=Xn (show 0<=e by grind) (show 0<=1-d by grind)
    grind
   .rw[Yc z,Yc (show ¬ d<0 by grind)]
  .rw[e1] at s;have b:=Bk.mp s.symm;rw[Yb (show c*c<m by grind),Yb (show d*d<m by grind)]
  .exact absurd e1 s0
theorem aJ.passed{q:aJ}{e c d:Rat}(h:q.ok)(hw:q.wd e)(e0:0<e)(cd:c<=d)(n:d-c<=e)(sc:Sm e (q.p c))(sd:Sm e (q.p d)):(if sg (q.p c)*sg (q.d c) = -1 then 1 else 0)+q.A c=(if sg (q.p d)*sg (q.d d) = -1 then 1 else 0)+q.A d:=by
 cases q with
 | none m =>
  have hw:e<=m/4:=hw;have h:0<m:=h;have sc:Sm e (c*c+m):=sc;have:=iq c;unfold Sm at sc;grind
 | line r =>
  have key:∀x:Rat,(if sg (x-r)*sg (1:Rat) = -1 then 1 else 0)+(if r<=x then 1 else 0)=(1:Nat):=λx=>by
   rw[cR (show (0:Rat)<1 by decide),Yp]
   rcases bH (x-r) with ⟨a,e1⟩|⟨a,e1⟩|⟨a,e1⟩
   .rw[e1,Yc ∅,Yb ⋯]
   .rw[e1,Yb rfl,Yc ⋯]
   .rw[e1,Yc ∅,Yb ⋯]
  exact (key c).trans (key d).symm
 | root m =>
  obtain⟨m0,nm⟩:=h;obtain⟨w1,w2⟩:=hw;have sc:Sm e (c*c-m):=sc;have sd:Sm e (d*d-m):=sd;have key:∀x:Rat,(x<0->(if sg (x*x-m)*sg (2*x) = -1 then 1 else 0)+(if x*x<m then 1 else if x<0 then 0 else 2)=(1:Nat))/\(0<x->(if sg (x*x-m)*sg (2*x) = -1 then 1 else 0)+(if x*x<m then 1 else if x<0 then 0 else 2)=(2:Nat)):=λx=>by
   refine⟨λy=>?_,λy=>?_⟩
   .rw[eK (show 2*x<0 by grind)]
    rcases bH (x*x-m) with ⟨a,e1⟩|⟨a,e1⟩|⟨a,e1⟩
    .rw[e1,Yb ∅,Yc ⋯,Yb y]
    .rw[e1,Yc ∅,Yb ⋯]
    .exact absurd (show x*x=m by grind) (nm x)
   .rw[cR (show 0<2*x by grind)]
    rcases bH (x*x-m) with ⟨a,e1⟩|⟨a,e1⟩|⟨a,e1⟩
    .rw[e1,Yc ∅,Yc ⋯,Yc ⋯]
    .rw[e1,Yb ∅,Yb ⋯]
    .exact absurd (show x*x=m by grind) (nm x)
  have c0:c≠0:=λz=>by
   rw[z] at sc;unfold Sm at sc;grind
  have d0:d≠0:=λz=>by
   rw[z] at sd;unfold Sm at sd;grind
  show (if sg (c*c-m)*sg (2*c) = -1 then 1 else 0)+(if c*c<m then 1 else if c<0 then 0 else 2)=(if sg (d*d-m)*sg (2*d) = -1 then 1 else 0)+(if d*d<m then 1 else if d<0 then 0 else 2)
  by_cases z:c<0
  .have dn:d<0:=Rat.not_le.mp λy=>by
    have k1:=Xn y (show 0<=e-d by grind)
    have k2:=Xn (show 0<=e by grind) (show 0<=1-d by grind)
    unfold Sm at sd;grind
   rw[(key c).1 z,(key d).1 dn]
  .rw[(key c).2 ⋯,(key d).2 ⋯]
theorem nE{e c d:Rat}(cd:c<=d)(n:d-c<=e):∀{l:List (aJ×Nat)},(∀q∈l,q.1.ok/\q.1.wd e/\sg (q.1.p c)=sg (q.1.p d)/\sg (q.1.p c)≠0)->fk l c=fk l d
 | [],_=>rfl
 | q::l,h=>by
  obtain⟨a,b,s,s0⟩:=h q Yi;show q.1.A c+fk l c=q.1.A d+fk l d;rw[aJ.same a b cd n s s0,nE cd n λq' h'=>h q' (Yj _ h')]
theorem mJ{u v e:Rat}(h:Sm e (v-u))(n:¬ Sm e u):sg u=sg v/\sg u≠0:=Xw λz=>n (ol h z).1
theorem xH{R:Rat}(R0:0<=R) {l:List (aJ×Nat)}{f g:Rat->Rat}{κ:Rat}(ok:∀q∈l,q.1.ok/\1<=q.2)(un:l.Pairwise λa b=>a.1≠b.1)(lf:vP R f)(lg:vP R g)(nb:fg R f g)(k0:0<κ)(id:∀x,κ*(g x*cA l x)=f x*gv l x):DC R f g (fk l):=by
 obtain⟨θ,θ0,hθ⟩:=BX (P:=Jn R l) (λq e e' h h0 le=>h.mono h0 le) l λq hq=>Ey R0 ok un hq;obtain⟨ε,ε0,hε⟩:=nb;obtain⟨G,G0,hG⟩:=lg.bdd R0;obtain⟨P,P0,hP⟩:=qA R0 l;obtain⟨τ,τ0,τθ,hτ⟩ : ∃τ:Rat,0<τ/\τ<=θ /\ ∀q∈l,∀x,Wi R x->Sm τ (q.1.p x)->Sm ε (f x):=by
  obtain⟨τ,τ0,h⟩:=BX (P:=λ(q:aJ×Nat) t=>t<=θ /\ ∀x,Wi R x->Sm t (q.1.p x)->Sm ε (f x)) (λq e e' h _ le=>⟨⋯,λx w s=>h.2 x w (s.mono le)⟩) l λq hq=>by
   obtain⟨_,l',p,hx⟩:=hθ q hq;obtain⟨H,H0,hH⟩:=qV R0 l';have z0:=Xs k0 (Xs G0 H0);have z1:0<θ*ε/2/(κ*(G*H)):=by rw[Xv z0];have:=Xs θ0 ε0;grind
   obtain⟨t,t0,t1,t2,_⟩:=oO θ0 z1 z1;refine⟨t,t0,t1,λx w s=>?_⟩;obtain⟨b1,_⟩:=hx x w (s.mono t1);refine Xw λnf=>?_;have nf:=Bg.of nf;have e1:=id x;rw[mY p x] at e1;have e1:κ*(g x*(q.1.p x*cA l' x))=f x*gv l x:=e1;have m1:=((hG x w).mul (s.mul (hH x w)));have m2:=(show Sm κ κ by unfold Sm;grind).mul m1
   rw[e1] at m2;have b2:=nf.mul b1 (Xt ε0) (Xt θ0);have m3:κ*(G*(t*H))<=θ*ε/2:=by
    have:=Xn (Xt z0) (show 0<=θ*ε/2/(κ*(G*H))-t by grind)
    have z:κ*(G*H)*(θ*ε/2/(κ*(G*H)))=θ*ε/2:=⋯;grind
   refine b2.no ?_ (m2.mono m3);have:=Xs θ0 ε0;grind
  cases l with
  | nil=>exact⟨θ,θ0,⋯,λq hq=>by cases hq⟩
  | cons q0 l0=>exact⟨τ,τ0,(h q0 Yi).1,λq hq=>(h q hq).2⟩
 obtain⟨φ,φ0,hφ⟩ : ∃φ:Rat,0<φ /\ ∀x,Wi R x->(∀q∈l,¬ Sm (τ/2) (q.1.p x)) -> ¬ Sm φ (f x):=by
  have h2:0<τ/2:=⋯;have π0:=ei h2 l.length;have z0:=Xs k0 (Xs ε0 π0);have z1:0<κ*(ε*du (τ/2) l.length)/2/P:=by rw[Xv P0];grind
  obtain⟨φ,φ0,f1,f2,_⟩:=oO ε0 z1 z1;refine⟨φ,φ0,λx w h s=>?_⟩;have bg:=Bg.of λz=>hε x w (s.mono f1) z;have b1:=(show Bg κ κ from .inl ⋯).mul (bg.mul (rV h2 h) (Xt ε0) (Xt π0)) (Xt k0) (Xt (Xs ε0 π0))
  have m1:=s.mul (hP x w);rw[<-id] at m1;refine b1.no ?_ m1;have:=Xn (Xt P0) (show 0<=κ*(ε*du (τ/2) l.length)/2/P-φ by grind)
  have z:P*(κ*(ε*du (τ/2) l.length)/2/P)=κ*(ε*du (τ/2) l.length)/2:=⋯;grind
 obtain⟨δ1,p1,h1⟩:=lf.near φ0;obtain⟨δ2,p2,h2⟩:=lg.near ε0;obtain⟨δ3,p3,h3⟩:=BX (P:=λ(q:aJ×Nat) t=>∀c d,Wi R c->Wi R d->c<=d->d-c<=t->Sm (τ/2) (q.1.p d-q.1.p c)) (λq e e' h _ le c d wc wd cd n=>h c d wc wd cd ⋯) l λq _=>(q.1.lip R0).near ⋯;obtain⟨δ4,p4,a1,a2,a3⟩:=oO p1 p2 p3;obtain⟨δ,p,b1,b2,_⟩:=oO p4 θ0 θ0;refine⟨δ,p,λc d wc wd cd n=>?_⟩;have hp:∀q∈l,Sm (τ/2) (q.1.p d-q.1.p c):=λq hq=>h3 q hq c d wc wd cd ⋯;by_cases ex:∃q∈l,Sm (τ/2) (q.1.p c)
 .obtain⟨q,hq,s⟩:=ex;right
  have sc:Sm τ (q.1.p c):=s.mono ⋯;have sd:Sm τ (q.1.p d):=by
   have:=hp q hq;unfold Sm at *
   grind
  have ng:=mJ (h2 c d wc wd cd ⋯) λz=>hε c wc (hτ q hq c wc sc) z;refine⟨ng.1,ng.2,?_⟩;obtain⟨hw,l',pm,hx⟩:=hθ q hq;have v:∀x,Wi R x->Sm τ (q.1.p x)->v1 f g x=if sg (q.1.p x)*sg (q.1.d x) = -1 then 1 else 0:=λx wx sx=>by
   obtain⟨_,q2,q3,q4,_⟩:=hx x wx (sx.mono τθ);have q5:=q2.ne θ0;have q6:sg (g x)≠0:=λz=>hε x wx (hτ q hq x wx sx) (by rw[jB.mp z];unfold Sm;grind)
   have e1:=Yn sg (id x);rw[mY pm x,hU,cR k0,Xk,hU,hU,q3] at e1;have e1:sg (g x)*sg (q.1.p x*cA l' x)=sg (f x)*(sg (q.1.d x)*sg (cA l' x)):=e1;rw[hU] at e1;have e2:sg (f x)*sg (g x)=sg (q.1.p x)*sg (q.1.d x):=by
    rcases fD (cA l' x) with z1|z1|z1<;>rcases fD (g x) with z2|z2|z2<;>rcases fD (q.1.d x) with z3|z3|z3<;>rw[z1,z2,z3] at e1<;>rw[z2,z3]<;>nofun
   unfold v1;rw[e2]
  rw[v c wc sc,v d wd sd,tw pm c,tw pm d];show _+(q.1.A c+fk l' c)=_+(q.1.A d+fk l' d);have ps:=aJ.passed (ok q hq).1 hw θ0 cd ⋯ (sc.mono τθ) (sd.mono τθ);have pa:fk l' c=fk l' d:=nE cd (show d-c<=θ by grind) λq' h'=>by
   have hq':q'∈l:=pm.mem_iff.mpr (Yj _ h');obtain⟨_,_,_,_,nq⟩:=hx c wc (sc.mono τθ);obtain⟨y1,y2⟩:=mJ ((hp q' hq').mono (show τ/2<=θ by grind)) (nq q' h')
   exact⟨(ok q' hq').1,(hθ q' hq').1,y1,y2⟩
  nofun
 .left
  have al:∀q∈l,¬ Sm (τ/2) (q.1.p c):=λq hq s=>ex ⟨q,hq,s⟩;have nf:=mJ (h1 c d wc wd cd ⋯) (hφ c wc al);refine⟨nf.1,nf.2,nE cd (show d-c<=θ by grind) λq hq=>?_⟩
  obtain⟨y1,y2⟩:=mJ (hp q hq) (al q hq);exact⟨(ok q hq).1,(hθ q hq).1,y1,y2⟩
theorem Ch.roots{R:Rat}(R0:0<=R) {l:List (aJ×Nat)}{f g:Rat->Rat}{fs:List (Rat->Rat)}{κ:Rat}(h:Ch R f (g::fs))(ok:∀q∈l,q.1.ok/\1<=q.2)(un:l.Pairwise λa b=>a.1≠b.1)(lg:vP R g)(k0:0<κ)(id:∀x,κ*(g x*cA l x)=f x*gv l x) {a b:Rat}(wa:Wi R a)(wb:Wi R b)(ab:a<=b):Vr a (f::g::fs)+fk l a=Vr b (f::g::fs)+fk l b :=
 h.counts (xH R0 ok un h.lip lg (h.notBoth g fs rfl) k0 id) wa wb ab
def Py(f:Rat->Rat):Prop:=∃l:List Rat,∀x,f x=dE l x
theorem Py.congr{f g:Rat->Rat}(h:Py f)(e:∀x,g x=f x):Py g:=by
 obtain⟨l,h⟩:=h;exact⟨l,λx=>(e x).trans (h x)⟩
theorem Py.isP{f:Rat->Rat}(h:Py f):∃n,sB n f:=by
 obtain⟨l,h⟩:=h;exact⟨l.length,l,Yq _,h⟩
theorem sB.py{n:Nat}{f:Rat->Rat}(h:sB n f):Py f:=by
 obtain⟨l,_,h⟩:=h;exact⟨l,h⟩
theorem Py.const(c:Rat):Py λ_=>c:=⟨[c],λx=>by show c=c+x*0;grind⟩
theorem Py.id:Py λx=>x:=⟨[0,1],λx=>by show x=0+x*(1+x*0);grind⟩
theorem Py.add{f g:Rat->Rat}(h:Py f)(k:Py g):Py λx=>f x+g x:=by
 obtain⟨m,hm⟩:=h.isP;obtain⟨n,hn⟩:=k.isP;exact ((hm.mono (Nat.le_max_left m n)).add (hn.mono (Nat.le_max_right m n))).py
theorem Py.shift{f:Rat->Rat}(h:Py f):Py λx=>x*f x:=by
 obtain⟨l,h⟩:=h;exact⟨0::l,λx=>by show x*f x=0+x*dE l x;rw[h];grind⟩
theorem Py.sc{f:Rat->Rat}(h:Py f)(c:Rat):Py λx=>c*f x:=by
 obtain⟨n,hn⟩:=h.isP;exact (hn.sc c).py.congr λx=>by grind
theorem Py.mul{f g:Rat->Rat}(h:Py f)(k:Py g):Py λx=>f x*g x:=by
 obtain⟨l,h⟩:=h;have:∀l:List Rat,Py λx=>dE l x*g x:=by
  intro l;induction l with
  | nil=>exact (Py.const 0).congr λx=>by show 0*g x=0;grind
  | cons a l ih=>exact ((k.sc a).add ih.shift).congr λx=>by show (a+x*dE l x)*g x=a*g x+x*(dE l x*g x);grind
 exact (this l).congr λx=>by rw[h]
theorem Py.sub{f g:Rat->Rat}(h:Py f)(k:Py g):Py λx=>f x-g x:=(h.add (k.sc (-1))).congr λx=>by grind
theorem Jl{n:Nat}{u:Nat->Rat}(h:Bd n u)(l:n<=20):Py (EV u):=(sB.of h l).py
theorem rW{R:Rat}(R0:0<=R):∀l:List Rat,gy R (dE l)
 | []=>.const 0
 | a::l=>(gy.const a).add ((gy.id R0).mul (rW R0 l))
theorem xi{R:Rat}(R0:0<=R):∀l:List Rat,vP R (dE l)
 | []=>⟨1,∅,λx y _ _ h=>by show Sm _ (0-0);unfold Sm;grind⟩
 | a::l=>by
  obtain⟨L,L0,hL⟩:=xi R0 l;obtain⟨B,B0,hB⟩:=rW R0 l;have rl:=Xn R0 (Xt L0);refine⟨R*L+B,⋯,λx y wx wy h=>?_⟩;show Sm _ (a+y*dE l y-(a+x*dE l x));have s1:=(show Sm R y from wy).mul (hL x y wx wy h)
  have s2:=(show Sm (y-x) (y-x) by unfold Sm;grind).mul (hB x wx)
  have:=s1.add s2;rw[show a+y*dE l y-(a+x*dE l x)=y*(dE l y-dE l x)+(y-x)*dE l x by grind]
  exact this.mono ⋯
theorem Py.bdd{R:Rat}(R0:0<=R) {f:Rat->Rat}(h:Py f):gy R f:=by
 obtain⟨l,h⟩:=h;exact (rW R0 l).congr h
theorem Py.lip{R:Rat}(R0:0<=R) {f:Rat->Rat}(h:Py f):vP R f:=by
 obtain⟨l,h⟩:=h;obtain⟨L,L0,hL⟩:=xi R0 l;exact⟨L,L0,λx y wx wy k=>by rw[h,h];exact hL x y wx wy k⟩
theorem Py.zero{f g:Rat->Rat}(hf:Py f)(hg:Py g)(e:∀x,f x*g x=0)(n:∃x,g x≠0):∀x,f x=0:=by
 obtain⟨m,pm⟩:=hf.isP;obtain⟨k,pk⟩:=hg.isP;obtain⟨S,hS⟩ : ∃S,S=uE (m+k):=⟨_,rfl⟩;have nd:S.Nodup:=hS▸rM _;have ln:S.length=m+k:=hS▸nR _;have sp:(S.filter λx=>decide (f x=0)).length+(S.filter λx=>!decide (f x=0)).length=S.length:=by
  clear nd ln hS;induction S with
  | nil=>rfl
  | cons a S ih =>
   by_cases z:f a=0
   .rw[Xx (by simpa using z),Xy (by simpa using z),Y6,Y6]
    nofun
   .rw[Xy (by simpa using z),Xx (by simpa using z),Y6,Y6]
    nofun
 by_cases a:m<=(S.filter λx=>decide (f x=0)).length
 .exact pm.zero (nd.sublist List.filter_sublist) a λs hs=>Xz (List.mem_filter.mp hs).2
 .obtain⟨x0,hx0⟩:=n;refine absurd (pk.zero (nd.sublist (List.filter_sublist (p:=λx=>!decide (f x=0)))) () (λs hs=>?_) x0) hx0;have z:=(List.mem_filter.mp hs).2;rcases Rat.mul_eq_zero.mp (e s) with y|y
  .rw[y] at z;simp at z
  .exact y
def Ji(q:Int):Prop:=2<=q /\ ∀a b:Int,q∣a*b->q∣a\/q∣b
theorem Gz:∀n:Nat,2<=n -> ∃q:Int,Ji q/\q∣(n:Int):=by
 intro n;induction n using Nat.strongRecOn with
 | ind n ih =>
  intro h2;by_cases ex:∃d,2<=d/\d<n/\d∣n
  .obtain⟨d,d2,dn,dd⟩:=ex;obtain⟨q,pq,qd⟩:=ih d dn d2;exact⟨q,pq,XA qd (Int.natCast_dvd_natCast.mpr dd)⟩
  .refine⟨n,⟨(),λa b h=>?_⟩,Int.dvd_refl _⟩;have h':n∣a.natAbs*b.natAbs:=by
    have:=Int.natAbs_dvd_natAbs.mpr h
    rwa [YW,XB] at this
   have g1:=Nat.gcd_dvd_left n a.natAbs;have g2:=Nat.gcd_dvd_right n a.natAbs;by_cases z:Nat.gcd n a.natAbs=1
   .right
    have:=Y8 (show Nat.Coprime n a.natAbs from z) h'
    exact Int.natAbs_dvd_natAbs.mp (by rwa [XB])
   .left
    have gp:0<Nat.gcd n a.natAbs:=Nat.gcd_pos_of_pos_left _ ();have le:=XC () g1;have:Nat.gcd n a.natAbs=n:=Xw λy=>ex ⟨_,(),(),g1⟩;rw[this] at g2;exact Int.natAbs_dvd_natAbs.mp (by rwa [XB])
theorem Bc{c p:Nat->Int}{q:Int}{i j:Nat}(hc:∀a,a<i->q∣c a)(hp:∀b,b<j->q∣p b):∀n,q∣pz c p n (i+j)-(if i<n then c i*p j else 0)
 | 0=>by show q∣0-(if i<0 then c i*p j else 0);rw[Yc ()];exact⟨0,()⟩
 | n+1=>by
  have ih:=Bc hc hp n;show q∣pz c p n (i+j)+(if n<=i+j then c n*p (i+j-n) else 0)-(if i<n+1 then c i*p j else 0)
  rcases Nat.lt_trichotomy n i with z|z|z
  .rw[Yc (show ¬ i<n by nofun)] at ih
   rw[Yb (),Yc ()];have d:=Int.dvd_mul_of_dvd_left (c:=p (i+j-n)) (hc n z);have:=Int.dvd_add ih d;rw[show pz c p n (i+j)+c n*p (i+j-n)-0=pz c p n (i+j)-0+c n*p (i+j-n) by nofun]
   exact this
  .subst z;rw[Yc (show ¬ n<n by nofun)] at ih
   rw[Yb (),Yb (),show n+j-n=j by nofun]
   rw[show pz c p n (n+j)+c n*p j-c n*p j=pz c p n (n+j)-0 by nofun]
   exact ih
  .rw[Yb (show i<n by nofun)] at ih
   rw[Yb (show i<n+1 by nofun)]
   by_cases y:n<=i+j
   .rw[Yb y];have d:q∣c n*p (i+j-n):=Int.dvd_mul_of_dvd_right (hp (i+j-n) ());have:=Int.dvd_add ih d;rw[show pz c p n (i+j)+c n*p (i+j-n)-c i*p j=pz c p n (i+j)-c i*p j+c n*p (i+j-n) by nofun]
    exact this
   .rw[Yc y];rw[show pz c p n (i+j)+0-c i*p j=pz c p n (i+j)-c i*p j by nofun]
    exact ih
theorem p8{q:Int}{c:Nat->Int}(h:¬ ∀k,q∣c k):∃i,¬ q∣c i /\ ∀a,a<i->q∣c a:=by
 obtain⟨m,hm⟩ : ∃m,¬ q∣c m:=Classical.not_forall.mp h;induction m using Nat.strongRecOn with
 | ind m ih =>
  by_cases ex:∃a,a<m /\ ¬ q∣c a
  .obtain⟨a,am,ha⟩:=ex;exact ih a am ha
  .exact⟨m,hm,λa ha=>Xw λz=>ex ⟨a,ha,z⟩⟩
theorem Gb{q:Int}(hq:Ji q) {c p:Nat->Int}{n:Nat}(bc:∀i,n<=i->c i=0)(h:∀k,q∣pz c p n k)(np:¬ ∀k,q∣p k):∀k,q∣c k:=Xw λnc=>by
 obtain⟨i,hi,mi⟩:=p8 nc;obtain⟨j,hj,mj⟩:=p8 np;have d:=Bc mi mj n;have il:i<n:=Nat.lt_of_not_le λz=>hi (by rw[bc i z];exact⟨0,()⟩)
 rw[Yb il] at d;have:=Int.dvd_sub (h (i+j)) d;rw[show pz c p n (i+j)-(pz c p n (i+j)-c i*p j)=c i*p j by nofun] at this
 rcases hq.2 _ _ this with z|z
 .exact hi z
 .exact hj z
def iB(p:Nat->Int):Prop:=∀q:Int,(∀k,q∣p k)->q.natAbs=1
theorem Kh{p:Nat->Int}(hp:iB p) {n:Nat}:∀(m:Nat)(S:Int)(c:Nat->Int),S.natAbs=m->S≠0->(∀i,n<=i->c i=0)->(∀k,S∣pz c p n k) -> ∀k,S∣c k:=by
 intro m;induction m using Nat.strongRecOn with
 | ind m ih =>
  intro S c e s0 bc h k;by_cases m1:m=1
  .have:S=1\/S = -1:=();rcases this with rfl|rfl
   .exact Int.one_dvd _
   .exact Int.neg_dvd.mpr (Int.one_dvd _)
  .obtain⟨q,pq,qd⟩:=Gz m ();have qS:q∣S:=by
    rw[<-e] at qd;exact Int.dvd_natAbs.mp qd
   have qc:=Gb pq bc (λk=>XA qS (h k)) λz=>by
    have:=hp q z;have:=pq.1;nofun
   obtain⟨S',hS⟩:=qS;obtain⟨c',hc⟩ : ∃c':Nat->Int,∀k,c k=q*c' k:=⟨λk=>(qc k).choose,λk=>(qc k).choose_spec⟩;have q0:q≠0:=by have:=pq.1;nofun
   have s1:S'≠0:=λz=>s0 (by rw[hS,z,Xi])
   have lt:S'.natAbs<m:=by
    rw[<-e,hS,YW];have:2<=q.natAbs:=by have:=pq.1;nofun
    have:=XD S'.natAbs this;nofun
   have r:=ih _ lt S' c' rfl s1 (λi hi=>by
    have:=hc i;rw[bc i hi] at this;rcases Int.mul_eq_zero.mp this.symm with z|z
    .exact absurd z q0
    .exact z) (λk=>by
    have:=h k;rw[show c=λk=>q*c' k from funext hc,qW,hS] at this
    exact Int.dvd_of_mul_dvd_mul_left q0 this) k
   rw[hS,hc k];exact Int.mul_dvd_mul_left q r
def aI(F:List Int)(x:Rat):Rat:=EV (ez F) x
theorem cE{F:List Int}(h:F.length<=20):Py (aI F):=Jl (bQ F) h
theorem rC(x:Rat):aI [] x=0:=me (λi=>by show ((nz [] i:Int):Rat)=0;rw[aK (by simp)];rfl) x
theorem qX(c:Int)(x:Rat):aI [c] x=(c:Rat):=by
 unfold aI;rw[fO (n:=1) (bQ [c]) ∅];show 0+ez [c] 0*1=_;show 0+((nz [c] 0:Int):Rat)*1=_;rw[show nz [c] 0=c from rfl]
 grind
theorem mH{F G:List Int}(lF:F.length<=20)(lG:G.length<=20)(h:∀x,aI F x=aI G x)(k:Nat):nz F k=nz G k:=by
 have:=nI ((bQ F).mono lF) ((bQ G).mono lG) h k;exact Rat.intCast_inj.mp this
theorem fE{F G:List Int}{c:Int}(h:∀k,nz F k=c*nz G k)(x:Rat):aI F x=(c:Rat)*aI G x:=by
 have e:∀k,ez F k=(λk=>0+(c:Rat)*ez G k) k:=λk=>by
  show ((nz F k:Int):Rat)=0+(c:Rat)*((nz G k:Int):Rat);rw[h k,Xd];grind
 unfold aI;rw[fA e x,jZ,me (f:=λ_=>0) λ_=>rfl];grind
theorem kQ{F Q G:List Int}(l:Q.length+G.length<=20)(e:∀k,nz F k=pz (nz Q) (nz G) Q.length k)(x:Rat):aI F x=aI Q x*aI G x:=by
 have:=kJ (F:=F) (R:=[]) (S:=1) (T:=0) l (λk=>by rw[e k];nofun) x
 unfold aI;have c1:((1:Int):Rat)=1:=rfl;have c0:((0:Int):Rat)=0:=rfl;rw[c1,c0] at this;grind
theorem zZ{F Q G:List Int}(l:Q.length+G.length<=20)(lF:F.length<=20)(e:∀x,aI F x=aI Q x*aI G x)(k:Nat):nz F k=pz (nz Q) (nz G) Q.length k:=by
 have lz1:(lz 20 (λk=>pz (nz Q) (nz G) Q.length k)).length<=20:=by rw[mS];nofun
 have e1:∀k,nz (lz 20 (λk=>pz (nz Q) (nz G) Q.length k)) k=pz (nz Q) (nz G) Q.length k:=λk=>by
  by_cases z:k<20
  .exact FJ z
  .rw[aK (by rw[mS];nofun)]
   refine (Rat.intCast_inj.mp ?_);rw[gF];exact (fP (bQ G) Q.length k ()).symm
 have:=mH lF lz1 (λx=>by rw[e x,kQ l e1]) k
 rw[this,e1]
def ua(P F:List Int):Prop:=∃A:List Int,A.length<=F.length/\A.length+P.length<=20 /\ ∀x,aI F x=aI A x*aI P x
theorem qw{P F C:List Int}{S:Int}(hp:iB (nz P))(s0:S≠0)(lC:C.length<=F.length)(lF:F.length<=11)(lP:C.length+P.length<=20)(e:∀x,(S:Rat)*aI F x=aI C x*aI P x):ua P F:=by
 have c0:=aq s0;have k1:∀k,S*nz F k=pz (nz C) (nz P) C.length k:=λk=>by
  have:=zZ (F:=F.map λy=>S*y) (Q:=C) (G:=P) () (by rw[YD];nofun) (λx=>by rw[fE (G:=F) (c:=S) (λk=>de k),e]) k
  rw[de] at this;exact this
 have d:=Kh hp _ S (nz C) rfl s0 (n:=C.length) (λi hi=>aK hi) λk=>⟨nz F k,(k1 k).symm⟩;obtain⟨A,lA,hA⟩ : ∃A:List Int,A.length=C.length /\ ∀k,nz C k=S*nz A k:=by
  refine⟨C.map (· / S),by simp,λk=>?_⟩
  by_cases z:k<C.length
  .have e1:(C.map (· / S))[k]? = some (C[k]/S):=by rw[YA,YN z];rfl
   rw[aT e1];have:=d k;rw[aT (YN z)] at this ⊢;exact (Int.mul_ediv_cancel' this).symm
  .rw[aK (),aK (by simp;nofun),Xi]
 refine⟨A,(),(),λx=>?_⟩;have:=e x;rw[fE hA] at this;have:(S:Rat)*(aI F x-aI A x*aI P x)=0:=⋯;rcases Rat.mul_eq_zero.mp this with z|z
 .exact absurd z c0
 .grind
theorem nM.short{F G:List Int}{rows:List (List Int×List Int×Int×Int)}(h:nM F G rows):(dY G rows).length<=G.length /\ ∀row∈rows,(dY G rows).length<=row.1.length:=by
 induction h with
 | nought=>exact⟨Yq _,by simp⟩
 | last=>exact⟨Yq _,by simp⟩
 | @more F G R Q T S rows g0 gl s0 t0 r0 rl lr lq e hr ih =>
  have i1:(dY R rows).length<=R.length:=ih.1;refine⟨by show (dY R rows).length<=G.length;nofun,λrow gI=>?_⟩
  rcases Y2.mp gI with rfl|z
  .exact i1
  .exact ih.2 row z
theorem nM.div{F G:List Int}{rows:List (List Int×List Int×Int×Int)}(h:nM F G rows):∀{P:List Int}{g:Int},iB (nz P)->P.length<=(dY G rows).length->G≠[]->F.length<=11->G.length<=F.length->G.length<=10->(∀k,nz (dY G rows) k=g*nz P k)->ua P F/\ua P G /\ ∀row∈rows,ua P row.1:=by
 induction h with
 | nought=>intro P g _ _ z;exact absurd rfl z
 | @last F G Q S g0 gl s0 lq e =>
  intro P g hp lP _ lF lG l10 hl;have lP:P.length<=G.length:=lP;have hl:∀k,nz G k=g*nz P k:=hl;have gp:=List.length_pos_iff.mpr g0;have dG:ua P G:=⟨[g],by simp;nofun,by simp;nofun,λx=>by rw[qX,fE hl]⟩
  refine⟨qw (C:=Q.map λy=>g*y) hp s0 (by rw[YD];nofun) lF (by rw[YD];nofun) λx=>?_,dG,by simp⟩
  rw[fE (G:=Q) (c:=g) λk=>de k];have:=kJ (F:=F) (R:=[]) (S:=S) (T:=0) (show Q.length+G.length<=20 by nofun) (λk=>by rw[e k];nofun) x
  have c0:((0:Int):Rat)=0:=rfl;rw[c0] at this;show (S:Rat)*EV (ez F) x=_;rw[this];have z:EV (ez G) x=(g:Rat)*aI P x:=fE hl x;rw[z];show EV (ez Q) x*_+_=(g:Rat)*EV (ez Q) x*_;grind
 | @more F G R Q T S rows g0 gl s0 t0 r0 rl lr lq e hr ih =>
  intro P g hp lP _ lF lG l10 hl;have lP:P.length<=(dY R rows).length:=lP;have sh:=hr.short.1;obtain⟨dG,dR,drs⟩:=ih hp lP r0 () () () hl;obtain⟨A,lA,lA2,eA⟩:=id dG;obtain⟨B,lB,lB2,eB⟩:=id dR;have gp:=List.length_pos_iff.mpr g0;have hC:∀k,nz (lz F.length λk=>pz (nz Q) (nz A) Q.length k+T*nz B k) k=pz (nz Q) (nz A) Q.length k+T*nz B k:=λk=>by
   by_cases z:k<F.length
   .exact FJ z
   .rw[aK (by rw[mS];nofun),aK (ns:=B) ()]
    have:pz (nz Q) (nz A) Q.length k=0:=by
     refine (Rat.intCast_inj.mp ?_);rw[gF];exact fP (bQ A) Q.length k ()
    rw[this];nofun
  have eC:∀x,aI (lz F.length λk=>pz (nz Q) (nz A) Q.length k+T*nz B k) x=aI Q x*aI A x+(T:Rat)*aI B x:=λx=>by
   have:=kJ (F:=lz F.length λk=>pz (nz Q) (nz A) Q.length k+T*nz B k) (Q:=Q) (G:=A) (R:=B) (S:=1) (T:=T) () (λk=>by rw[hC k];nofun) x
   have c1:((1:Int):Rat)=1:=rfl;rw[c1,Rat.one_mul] at this;exact this
  refine⟨qw (C:=lz F.length λk=>pz (nz Q) (nz A) Q.length k+T*nz B k) hp s0 (by rw[mS];nofun) lF (by rw[mS];nofun) λx=>?_,dG,λrow gI=>?_⟩
  .have:=kJ (show Q.length+G.length<=20 by nofun) e x
   rw[eC];show (S:Rat)*EV (ez F) x=_;rw[this];have z1:=eA x;have z2:=eB x;unfold aI at *
   grind
  .rcases Y2.mp gI with rfl|z
   .exact dR
   .exact drs row z
def Cy(l:Rat->Rat)(a b:Int):List (List Int×List Int×Int×Int)->List (List Int)->Prop
 | [],hs=>hs=[]
 | row::rows,[]=>False
 | row::rows,h::hs=>h.length<=11/\(∀x,((-a*row.2.2.1.sign*row.2.2.2.sign:Int):Rat)*aI row.1 x=aI h x*l x)/\Cy l b (-a*row.2.2.1.sign*row.2.2.2.sign) rows hs
theorem ee{n:Int}(h:n≠0):n.sign=1/\0<n\/n.sign = -1/\n<0:=by
 rcases Int.lt_trichotomy n 0 with z|z|z
 .exact .inr ⟨Int.sign_eq_neg_one_of_neg z,z⟩
 .exact absurd z h
 .exact .inl ⟨Int.sign_eq_one_of_pos z,z⟩
theorem nM.ch{R:Rat}(R0:0<=R) {l:Rat->Rat}(pl:Py l)(l0:∃x,l x≠0) {F G:List Int}{rows:List (List Int×List Int×Int×Int)}(h:nM F G rows):∀{a b g:Int}{hF hG:List Int}{hs:List (List Int)},(a=1\/a = -1)->(b=1\/b = -1)->g≠0->G≠[]->F.length<=11->G.length<=F.length->hF.length<=11->hG.length<=11->(∀x,(a:Rat)*aI F x=aI hF x*l x)->(∀x,(b:Rat)*aI G x=aI hG x*l x)->Cy l a b rows hs->(∀x,aI (dY G rows) x=(g:Rat)*l x)->Ch R (aI hF) (aI hG::hs.map aI):=by
 have can:∀{f:Rat->Rat},Py f->(∀x,f x*l x=0) -> ∀x,f x=0:=λhf e=>Py.zero hf pl e l0;induction h with
 | nought=>intro a b g hF hG hs _ _ _ z;exact absurd rfl z
 | @last F G Q S g0 gl s0 lq e =>
  intro a b g hF hG hs ha hb hg _ lF lG l1 l2 eF eG hh hl;have hh:hs=[]:=hh;subst hh;have hl:∀x,aI G x=(g:Rat)*l x:=hl;have c:∀x,aI hG x=((b*g:Int):Rat):=λx=>by
   have:=can (f:=λx=>aI hG x-((b*g:Int):Rat)) ((cE ()).sub (.const _)) (λx=>by
    have:=eG x;rw[hl x] at this;rw[Xd];grind) x
   grind
  refine .two ((cE ()).lip R0) (.one (c:=((b*g:Int):Rat)) (aq (Xb () hg)) c)
 | @more F G R' Q T S rows g0 gl s0 t0 r0 rl lr lq e hr ih =>
  intro a b g hF hG hs ha hb hg _ lF lG l1 l2 eF eG hh hl;cases hs with
  | nil=>exact absurd hh (by simp[Cy])
  | cons hR hs =>
   obtain⟨l3,eR,hh⟩:=hh;obtain⟨m,hm⟩ : ∃m,m = -a*T.sign*S.sign:=⟨_,rfl⟩;have hm':m=1\/m = -1:=by
    rw[hm];rcases ee t0 with ⟨z,_⟩|⟨z,_⟩<;>rcases ee s0 with ⟨y,_⟩|⟨y,_⟩<;>rcases ha with x|x<;>rw[x,y,z]<;>decide
   have eR:∀x,(m:Rat)*aI R' x=aI hR x*l x:=by rw[hm];exact eR
   have hh:Cy l b m rows hs:=by rw[hm];exact hh
   have tail:=ih hb hm' hg r0 () () l2 l3 eG eR hh hl;show Ch R (aI hF) (aI hG::aI hR::hs.map aI);have rs:=kJ (show Q.length+G.length<=20 by nofun) e
   have s1:(S:Rat)*((S.sign:Int):Rat)=((S.natAbs:Int):Rat):=by
    rw[<-Xd];rcases ee s0 with ⟨z,y⟩|⟨z,y⟩<;>rw[z]<;>congr 1<;>nofun
   have t1:(T:Rat)*((S.sign:Int):Rat)*(a:Rat) = -(((T.natAbs:Int):Rat)*(m:Rat)):=by
    rw[<-Xd,<-Xd,<-Xd,<-XE];congr 1
    rw[hm];rcases ee s0 with ⟨z,y⟩|⟨z,y⟩<;>rcases ee t0 with ⟨z2,y2⟩|⟨z2,y2⟩<;>rcases ha with x|x<;>rw[x,z,z2]<;>nofun
   have b1:(b:Rat)*(b:Rat)=1:=by rcases hb with x|x<;>rw[x]<;>decide +kernel
   refine .more (q:=λx=>((S.sign*a*b:Int):Rat)*aI Q x) (a:=((S.natAbs:Int):Rat)) (b:=((T.natAbs:Int):Rat)) ((cE ()).lip R0) (((cE ()).sc _).bdd R0) (Rat.intCast_pos.mpr ()) (Rat.intCast_pos.mpr ()) (λx=>?_) tail;have:=can (f:=λx=>((S.natAbs:Int):Rat)*aI hF x-((S.sign*a*b:Int):Rat)*aI Q x*aI hG x+((T.natAbs:Int):Rat)*aI hR x) ((((cE ()).sc _).sub (((cE ()).sc _).mul (cE ()))).add ((cE ()).sc _)) (λx=>?_) x
   .grind
   have z1:=eF x;have z2:=eG x;have z3:=eR x;have z4:(S:Rat)*aI F x=aI Q x*aI G x+(T:Rat)*aI R' x:=rs x;rw[Xd,Xd];obtain⟨A,hA⟩ : ∃A:Rat,A=(a:Rat):=⟨_,rfl⟩;obtain⟨B,hB⟩ : ∃B:Rat,B=(b:Rat):=⟨_,rfl⟩;rw[<-hA] at z1 t1 ⊢;rw[<-hB] at z2 b1 ⊢;generalize ((S.natAbs:Int):Rat)=sa at s1 ⊢;generalize ((T.natAbs:Int):Rat)=ta at t1 ⊢;generalize ((S.sign:Int):Rat)=ss at s1 t1 ⊢;have e1:sa*aI hF x*l x=(S:Rat)*ss*A*aI F x:=by rw[s1];grind
   have e2:ss*A*B*aI Q x*aI hG x*l x=ss*A*aI Q x*aI G x:=by
    have:aI hG x*l x=B*aI G x:=z2.symm;grind
   have e3:ta*aI hR x*l x = -((T:Rat)*ss*A)*aI R' x:=by rw[t1];grind
   grind
theorem vZ(x:Rat):∀F:List Int,dE (F.map λn:Int=>(n:Rat)) x=fu F x
 | []=>rfl
 | a::F=>by show (a:Rat)+x*_=(a:Rat)+x*_;rw[vZ x F]
theorem iS{F:List Int}(h:F.length<=20)(x:Rat):aI F x=fu F x:=by
 unfold aI;rw[fO (bQ F) h,Bp,<-vZ];congr 1
 refine List.ext_getElem (by simp) λi h1 h2=>?_
 rw[List.getElem_map,List.getElem_map,List.getElem_range];show ((nz F i:Int):Rat)=_;rw[aT (YN (by simpa using h1))]
def eH(side:Int)(F:List Int):Int:=if F.length%2=1 then (nz F (F.length-1)).sign else side*(nz F (F.length-1)).sign
theorem AO:∀F:List Int,F≠[]->nz F (F.length-1)≠0 -> ∃R c:Rat,0<R/\0<c/\(∀x,R<=x->c<=((eH 1 F:Int):Rat)*fu F x) /\ ∀x,x <= -R->c<=((eH (-1) F:Int):Rat)*fu F x
 | [],h,_=>absurd rfl h
 | [a],_,h=>by
  have h:a≠0:=h;have e:∀s,eH s [a]=a.sign:=λs=>rfl;have k:∀x,(1:Rat)<=((a.sign:Int):Rat)*fu [a] x:=λx=>by
   show (1:Rat)<=((a.sign:Int):Rat)*((a:Rat)+x*0);have z:((a.sign:Int):Rat)*(a:Rat)=((a.sign*a:Int):Rat):=by rw[Xd]
   have y:(1:Int)<=a.sign*a:=by rcases ee h with ⟨q,r⟩|⟨q,r⟩<;>rw[q]<;>nofun
   have:((1:Int):Rat)<=((a.sign*a:Int):Rat):=Rat.intCast_le_intCast.mpr y;have c1:((1:Int):Rat)=1:=rfl;grind
  exact⟨1,1,∅,∅,λx _=>by rw[e];exact k x,λx _=>by rw[e];exact k x⟩
 | a::b::F,_,h=>by
  have ld:nz (a::b::F) ((a::b::F).length-1)=nz (b::F) ((b::F).length-1):=by
   simp only[Y6,Nat.add_sub_cancel];rfl
  rw[ld] at h;obtain⟨R,c,R0,c0,h1,h2⟩:=AO (b::F) (by simp) h
  obtain⟨t,t0,ht⟩:=gy.const (R:=0) (a:Rat);have ht:=ht 0 (by unfold Wi;grind)
  have tc:0<t/c:=by rw[Xv c0];grind
  have tcc:t/c*c=t:=⋯;have s1:eH 1 (a::b::F)=eH 1 (b::F):=by
   unfold eH;rw[ld,Xk];split<;>split<;>rfl
  have s2:eH (-1) (a::b::F) = -eH (-1) (b::F):=by
   unfold eH;rw[ld];simp only[Y6];by_cases z:(F.length+1)%2=1
   .rw[Yb z,Yc ()];nofun
   .rw[Yc z,Yb ()];nofun
  have sm:∀s:Int,(s=1\/s = -1)->Sm t ((s:Rat)*(a:Rat)):=λs hs=>by
   have c1:((1:Int):Rat)=1:=rfl;have c2:((-1:Int):Rat) = -1:=rfl;unfold Sm at *
   rcases hs with z|z
   .rw[z,c1];grind
   .rw[z,c2];grind
  have pm:∀s:Int,(s=1\/s = -1)->eH s (b::F)=1\/eH s (b::F) = -1:=λs hs=>by
   unfold eH;rcases ee h with ⟨z,_⟩|⟨z,_⟩<;>rw[z]<;>rcases hs with y|y<;>rw[y]<;>split<;>nofun
  refine⟨R+1+t/c,c,⋯,c0,λx hx=>?_,λx hx=>?_⟩
  .rw[s1];show c<=_*((a:Rat)+x*fu (b::F) x);have k:=h1 x ⋯;have m:=Xn (show 0<=x by grind) (show 0<=((eH 1 (b::F):Int):Rat)*fu (b::F) x-c by grind)
   have m2:=Xn (Xt c0) (show 0<=x-(1+t/c) by grind)
   have s:=sm _ (pm 1 (.inl rfl));unfold Sm at s;grind
  .rw[s2,XE];show c<=_*((a:Rat)+x*fu (b::F) x);have k:=h2 x ⋯;have m:=Xn (show 0 <= -x by grind) (show 0<=((eH (-1) (b::F):Int):Rat)*fu (b::F) x-c by grind)
   have m2:=Xn (Xt c0) (show 0 <= -x-(1+t/c) by grind)
   have s:=sm _ (pm (-1) (.inr rfl));unfold Sm at s;grind
theorem Ae{F:List Int}{s:Int}(h:nz F (F.length-1)≠0)(hs:s=1\/s = -1):eH s F=1\/eH s F = -1:=by
 unfold eH;rcases ee h with ⟨z,_⟩|⟨z,_⟩<;>rw[z]<;>rcases hs with y|y<;>rw[y]<;>split<;>nofun
theorem zQ{s:Int}{y c:Rat}(hs:s=1\/s = -1)(c0:0<c)(h:c<=(s:Rat)*y):sg y=s:=by
 have c1:((1:Int):Rat)=1:=rfl;have c2:((-1:Int):Rat) = -1:=rfl;rcases hs with z|z
 .rw[z,c1] at h;rw[z,cR ⋯]
 .rw[z,c2] at h;rw[z,eK ⋯]
theorem xk:∀hs:List (List Int),(∀F∈hs,F≠[]/\F.length<=20/\nz F (F.length-1)≠0) -> ∃R:Rat,0<R /\ ∀x,R<=x->hs.map (eH 1)=vF x (hs.map aI)/\hs.map (eH (-1))=vF (-x) (hs.map aI)
 | [],_=>⟨1,∅,λ_ _=>⟨rfl,rfl⟩⟩
 | F::hs,h=>by
  obtain⟨R,R0,k⟩:=xk hs λG hG=>h G (Yj _ hG);obtain⟨f0,fl,fz⟩:=h F Yi;obtain⟨R',c,R1,c0,h1,h2⟩:=AO F f0 fz;refine⟨R+R',⋯,λx hx=>?_⟩;obtain⟨k1,k2⟩:=k x ⋯;have e1:=zQ (Ae fz (.inl rfl)) c0 (h1 x ⋯);have e2:=zQ (Ae fz (.inr rfl)) c0 (h2 (-x) ⋯);rw[<-iS fl] at e1 e2;exact⟨by show eH 1 F::_=sg (aI F x)::_;rw[k1,e1];rfl,by show eH (-1) F::_=sg (aI F (-x))::_;rw[k2,e2];rfl⟩
def aJ.tot:aJ->Nat
 | .line _=>1
 | .root _=>2
 | .none _=>0
def ux:List (aJ×Nat)->Nat
 | []=>0
 | q::l=>q.1.tot+ux l
theorem aJ.out(q:aJ)(h:q.ok):∃R:Rat,0<R /\ ∀x,R<=x->q.A x=q.tot/\q.A (-x)=0:=by
 cases q with
 | none n=>exact⟨1,∅,λ_ _=>⟨rfl,rfl⟩⟩
 | line r =>
  obtain⟨t,t0,ht⟩:=gy.const (R:=0) r;have ht:=ht 0 (by unfold Wi;grind)
  refine⟨t+1,⋯,λx hx=>⟨Yb ?_,Yc ?_⟩⟩<;>(unfold Sm at ht;grind)
 | root n =>
  obtain⟨n0,_⟩:=h;refine⟨n+1,⋯,λx hx=>?_⟩;have m:=Xn (show 0<=x-(n+1) by grind) (show 0<=x by grind)
  have m2:=Xn (Xt n0) (show 0<=x by grind)
  refine⟨?_,?_⟩
  .show (if x*x<n then 1 else if x<0 then 0 else 2)=2
   rw[Yc ⋯,Yc (show ¬ x<0 by grind)]
  .show (if -x * -x<n then 1 else if -x<0 then 0 else 2)=0
   rw[Yc ⋯,Yb (show -x<0 by grind)]
theorem si:∀l:List (aJ×Nat),(∀q∈l,q.1.ok/\1<=q.2) -> ∃R:Rat,0<R /\ ∀x,R<=x->fk l x=ux l/\fk l (-x)=0
 | [],_=>⟨1,∅,λ_ _=>⟨rfl,rfl⟩⟩
 | q::l,h=>by
  obtain⟨R,R0,k⟩:=si l λp hp=>h p (Yj _ hp);obtain⟨R',R1,k'⟩:=q.1.out (h q Yi).1;refine⟨R+R',⋯,λx hx=>?_⟩;obtain⟨a,b⟩:=k x ⋯;obtain⟨a',b'⟩:=k' x ⋯;exact⟨by show q.1.A x+fk l x=q.1.tot+ux l;rw[a,a'],by show q.1.A (-x)+fk l (-x)=0;rw[b,b']⟩
def rZ(side:Int)(e:Option Rat)(hs:List (List Int)):List Int:=match e with
 | none=>hs.map (eH side)
 | some x=>vF x (hs.map aI)
def zy(l:List (aJ×Nat)):Option Rat->Nat
 | none=>0
 | some x=>fk l x
def ue(l:List (aJ×Nat)):Option Rat->Nat
 | none=>ux l
 | some x=>fk l x
theorem vp{l:List (aJ×Nat)}{h0 h1:List Int}{hs:List (List Int)}{κ:Rat}(ch:∀R:Rat,0<=R->Ch R (aI h0) (aI h1::hs.map aI))(ok:∀q∈l,q.1.ok/\1<=q.2)(un:l.Pairwise λa b=>a.1≠b.1)(k0:0<κ)(id:∀x,κ*(aI h1 x*cA l x)=aI h0 x*gv l x)(nz0:∀F∈h0::h1::hs,F≠[]/\F.length<=20/\nz F (F.length-1)≠0) {lo hi:Option Rat}(lt:∀a b,lo=some a->hi=some b->a<=b):chg 0 (rZ (-1) lo (h0::h1::hs))+zy l lo=chg 0 (rZ 1 hi (h0::h1::hs))+ue l hi:=by
 obtain⟨R1,p1,f1⟩:=xk _ nz0;obtain⟨R2,p2,f2⟩:=si l ok;obtain⟨A,A0,hA⟩:=gy.const (R:=0) (lo.getD 0);obtain⟨B,B0,hB⟩:=gy.const (R:=0) (hi.getD 0);have hA:=hA 0 (by unfold Wi;grind)
 have hB:=hB 0 (by unfold Wi;grind)
 obtain⟨R,hR⟩ : ∃R,R=R1+R2+A+B:=⟨_,rfl⟩;have lg:vP R (aI h1):=(cE (nz0 h1 (by simp)).2.1).lip ⋯
 have key:∀a b:Rat,Wi R a->Wi R b->a<=b->Vr a (aI h0::aI h1::hs.map aI)+fk l a=Vr b (aI h0::aI h1::hs.map aI)+fk l b:=λa b wa wb ab=>Ch.roots ⋯ (ch R ⋯) ok un lg k0 id wa wb ab;obtain⟨q1,q2⟩:=f1 R ⋯;obtain⟨q3,q4⟩:=f2 R ⋯;have e1:∃a,Wi R a/\chg 0 (rZ (-1) lo (h0::h1::hs))=Vr a (aI h0::aI h1::hs.map aI)/\zy l lo=fk l a/\(lo=none->a = -R) /\ ∀x,lo=some x->a=x:=by
  cases lo with
  | none=>exact⟨-R,by unfold Wi;grind,by show chg 0 (_)=chg 0 _;rw[show rZ (-1) none (h0::h1::hs)=(h0::h1::hs).map (eH (-1)) from rfl,q2];rfl,q4.symm,λ_=>rfl,λx z=>by cases z⟩
  | some x=>exact⟨x,by have hA:Sm A x:=hA;unfold Sm at hA;unfold Wi;grind,rfl,rfl,(λz=>by cases z),(λy z=>by cases z;rfl)⟩
 have e2:∃b,Wi R b/\chg 0 (rZ 1 hi (h0::h1::hs))=Vr b (aI h0::aI h1::hs.map aI)/\ue l hi=fk l b/\(hi=none->b=R) /\ ∀x,hi=some x->b=x:=by
  cases hi with
  | none=>exact⟨R,by unfold Wi;grind,by show chg 0 (_)=chg 0 _;rw[show rZ 1 none (h0::h1::hs)=(h0::h1::hs).map (eH 1) from rfl,q1];rfl,q3.symm,λ_=>rfl,λx z=>by cases z⟩
  | some x=>exact⟨x,by have hB:Sm B x:=hB;unfold Sm at hB;unfold Wi;grind,rfl,rfl,(λz=>by cases z),(λy z=>by cases z;rfl)⟩
 obtain⟨a,wa,x1,x2,x3,x4⟩:=e1;obtain⟨b,wb,y1,y2,y3,y4⟩:=e2;rw[x1,x2,y1,y2];refine key a b wa wb ?_;cases lo with
 | none=>rw[x3 rfl];exact wb.1
 | some u =>
  cases hi with
  | none=>rw[y3 rfl];exact wa.2
  | some v=>rw[x4 u rfl,y4 v rfl];exact lt u v rfl rfl
def iD:List (aJ×Nat)->Rat->Rat
 | [],_=>1
 | q::l,x=>du (q.1.p x) q.2*iD l x
def aJ.deg:aJ->Nat
 | .line _=>1
 | .root _=>2
 | .none _=>2
def cF:List (aJ×Nat)->Nat
 | []=>0
 | q::l=>q.2*q.1.deg+cF l
def Dr(n:Nat)(f f':Rat->Rat):Prop:=∃u:Nat->Rat,Bd (n+1) u/\(∀x,EV u x=f x) /\ ∀x,EV (DF u) x=f' x
theorem Dr.mul{m n:Nat}{f f' g g':Rat->Rat}(h:Dr m f f')(k:Dr n g g')(l:m+n<=17):Dr (m+n) (λx=>f x*g x) (λx=>f' x*g x+f x*g' x):=by
 obtain⟨u,bu,e1,e2⟩:=h;obtain⟨v,bv,e3,e4⟩:=k;have ev:∀x,EV (λk=>pr u v (m+1) k) x=EV u x*EV v x:=λx=>Hr bu bv () x;refine⟨λk=>pr u v (m+1) k,λi hi=>fP bv _ _ (),λx=>by rw[ev,e1,e3],λx=>?_⟩
 rw[zP bv (m+1) u (λk=>pr u v (m+1) k) bu () (λi hi=>fP bv _ _ ()) ev x,e1,e2,e3,e4]
theorem Dr.const(c:Rat):Dr 0 (λ_=>c) (λ_=>0):=by
 refine⟨λk=>if k=0 then c else 0,λi hi=>Yc (),λx=>?_,λx=>?_⟩
 .rw[fO (n:=1) (λk hk=>Yc ()) ∅];show 0+c*1=c;grind
 .refine me (λi=>?_) x;show _*(if i+1=0 then c else 0)=(0:Rat)
  rw[Yc ()];grind
theorem Dr.quad(a b c:Rat):Dr 2 (λx=>a+b*x+c*(x*x)) (λx=>b+2*c*x):=by
 have p1:∀x:Rat,cy x 1=x:=λx=>by show 1*x=x;grind
 have p2:∀x:Rat,cy x 2=x*x:=λx=>by show 1*x*x=x*x;grind
 refine⟨λk=>if k=0 then a else if k=1 then b else if k=2 then c else 0,λi hi=>by show (if i=0 then a else if i=1 then b else if i=2 then c else 0)=0;rw[Yc (),Yc (),Yc ()],λx=>?_,λx=>?_⟩
 .rw[fO (n:=3) (λi hi=>by show (if i=0 then a else if i=1 then b else if i=2 then c else 0)=0;rw[Yc (),Yc (),Yc ()]) ∅]
  show ((0+a*cy x 0)+b*cy x 1)+c*cy x 2=_;rw[p1,p2];show ((0+a*1)+b*x)+c*(x*x)=_;grind
 .rw[fO (n:=2) (λi hi=>by show _*(if i+1=0 then a else if i+1=1 then b else if i+1=2 then c else 0)=(0:Rat);rw[Yc (),Yc (),Yc ()];grind) ∅]
  show (0+(((0+1:Nat):Int):Rat)*b*cy x 0)+(((1+1:Nat):Int):Rat)*c*cy x 1=_;rw[p1];show (0+1*b*1)+2*c*x=_;grind
theorem Dr.congr{n:Nat}{f f' g g':Rat->Rat}(h:Dr n f f')(e:∀x,g x=f x)(e':∀x,g' x=f' x):Dr n g g':=by
 obtain⟨u,b,e1,e2⟩:=h;exact⟨u,b,λx=>(e1 x).trans (e x).symm,λx=>(e2 x).trans (e' x).symm⟩
theorem Dr.up{m n:Nat}{f f':Rat->Rat}(h:Dr m f f')(l:m<=n):Dr n f f':=by
 obtain⟨u,b,e⟩:=h;exact⟨u,b.mono (),e⟩
theorem aJ.dr(q:aJ):Dr q.deg q.p q.d:=by
 cases q with
 | line r =>
  obtain⟨u,bu,e1,e2⟩:=Dr.quad (-r) 1 0;refine⟨u,?_,λx=>?_,λx=>?_⟩
  .intro i hi;have:=nI (f:=u) (g:=λk=>if k=0 then -r else if k=1 then 1 else 0) (bu.mono ∅) (λi hi=>by show (if i=0 then -r else if i=1 then 1 else 0)=0;rw[Yc (),Yc ()]) (λx=>?_) i
   .have hi:2<=i:=hi;rw[this,Yc (),Yc ()]
   .rw[e1,fO (n:=2) (λi hi=>by show (if i=0 then -r else if i=1 then 1 else 0)=0;rw[Yc (),Yc ()]) ∅]
    show _=(0 + -r*1)+1*(1*x);grind
  .rw[e1];show _=x-r;grind
  .rw[e2];show _=(1:Rat);grind
 | root n=>exact (Dr.quad (-n) 0 1).congr (λx=>by show x*x-n=_;grind) λx=>by show 2*x=_;grind
 | none n=>exact (Dr.quad n 0 1).congr (λx=>by show x*x+n=_;grind) λx=>by show 2*x=_;grind
theorem aJ.drp(q:aJ):∀k:Nat,k*q.deg<=17 -> ∃f',Dr (k*q.deg) (λx=>du (q.p x) k) f' /\ ∀x,f' x*q.p x=((k:Nat):Rat)*q.d x*du (q.p x) k
 | 0,_=>⟨λ_=>0,(Dr.const 1).up (),λx=>by show 0*q.p x=((0:Nat):Rat)*_*_;rw[show ((0:Nat):Rat)=0 from rfl];grind⟩
 | k+1,h=>by
  have hk:(k+1)*q.deg=q.deg+k*q.deg:=by rw[Xl];nofun
  obtain⟨f',d,e⟩:=aJ.drp q k ();refine⟨_,hk▸(q.dr.mul d ()),λx=>?_⟩;have:=e x;show (q.d x*du (q.p x) k+q.p x*f' x)*q.p x=((k+1:Nat):Rat)*q.d x*(q.p x*du (q.p x) k);rw[Rat.natCast_add,show ((1:Nat):Rat)=1 from rfl]
  grind
theorem Ca:∀l:List (aJ×Nat),cF l<=17 -> ∃f',Dr (cF l) (iD l) f' /\ ∀x,f' x*cA l x=iD l x*gv l x
 | [],_=>⟨λ_=>0,Dr.const 1,λx=>by show 0*1=1*(0:Rat);grind⟩
 | q::l,h=>by
  have h:q.2*q.1.deg+cF l<=17:=h;obtain⟨f',d,e⟩:=Ca l ();obtain⟨g',d2,e2⟩:=q.1.drp q.2 ();refine⟨_,d2.mul d h,λx=>?_⟩;have a:=e x;have b:=e2 x;show (g' x*iD l x+du (q.1.p x) q.2*f' x)*(q.1.p x*cA l x)=du (q.1.p x) q.2*iD l x*(((q.2:Nat):Rat)*q.1.d x*cA l x+q.1.p x*gv l x);have c1:g' x*iD l x*(q.1.p x*cA l x)=(g' x*q.1.p x)*(iD l x*cA l x):=⋯;have c2:du (q.1.p x) q.2*f' x*(q.1.p x*cA l x)=du (q.1.p x) q.2*q.1.p x*(f' x*cA l x):=⋯;rw[Rat.add_mul,c1,c2,a,b];grind
theorem Ci{l:List (aJ×Nat)}{W D:List Int}{c:Rat}(dl:cF l<=17)(lW:W.length<=11)(hD:∀k,nz D k=((k+1:Nat):Int)*nz W (k+1))(e:∀x,aI W x=c*iD l x)(x:Rat):aI D x*cA l x=aI W x*gv l x:=by
 obtain⟨f',⟨u,bu,e1,e2⟩,e3⟩:=Ca l dl;have eu:∀k,ez W k=(λk=>0+c*u k) k:=nI ((bQ W).mono ()) (λi hi=>by show 0+c*u i=0;rw[bu i ()];grind) λx=>by
  rw[jZ,me (f:=λ_=>0) λ_=>rfl,e1];show aI W x=_;rw[e x];grind
 have ed:∀k,ez D k=(λk=>0+c*DF u k) k:=λk=>by
  show ((nz D k:Int):Rat)=0+c*((((k+1:Nat):Int):Rat)*u (k+1));rw[hD k,Xd];have:=eu (k+1);have this:((nz W (k+1):Int):Rat)=0+c*u (k+1):=this;rw[this];grind
 have w:aI D x=c*f' x:=by
  unfold aI;rw[fA ed x,jZ,me (f:=λ_=>0) λ_=>rfl,e2];grind
 have:=e3 x;rw[w,e x];grind
def Da(ms ns:List Int):Prop:=∃Q:List Int,∀k,nz ms k=pz (nz Q) (nz ns) Q.length k
theorem yE{ms qs rs ns:List Int}{n p:Nat}(ln:0<ns.length)(lr:rs.length=p+ns.length)(lq:qs.length=n)(e:∀k,nz ms k=pz (nz qs) (nz ns) n k+nz rs k)(h0:nz ns (ns.length-1)≠0)(ex:Da ms ns):nz ns (ns.length-1)∣nz rs (p+(ns.length-1)):=by
 obtain⟨Q,eQ⟩:=ex;have key:∀k,pr (λi=>ez Q i-ez qs i) (ez ns) (Q.length+n) k=ez rs k:=λk=>by
  rw[vW,j7 (bQ Q),Nat.add_comm,j7 (λi hi=>bQ qs i ())];have e1:((nz ms k:Int):Rat)=((pz (nz Q) (nz ns) Q.length k:Int):Rat):=by rw[eQ k]
  have e2:((nz ms k:Int):Rat)=((pz (nz qs) (nz ns) n k+nz rs k:Int):Rat):=by rw[e k]
  rw[Xc,gF] at e2;rw[gF] at e1;show pr (λi=>((nz Q i:Int):Rat)) (λi=>((nz ns i:Int):Rat)) Q.length k-pr (λi=>((nz qs i:Int):Rat)) (λi=>((nz ns i:Int):Rat)) n k=((nz rs k:Int):Rat);grind
 have bd:Bd (Q.length+n) (λi=>ez Q i-ez qs i):=λi hi=>by
  show ez Q i-ez qs i=0;rw[bQ Q i (),bQ qs i ()];grind
 have hg:∀j,ns.length-1<j->ez ns j=0:=λj hj=>bQ ns j ();have l0:ez ns (ns.length-1)≠0:=aq h0;have fin:(∀j,p<j->ez Q j-ez qs j=0)->nz ns (ns.length-1)∣nz rs (p+(ns.length-1)):=λhp=>by
  have a:=lM hg hp (Q.length+n);rw[key] at a;by_cases z:p<Q.length+n
  .rw[Yb z] at a;refine⟨nz Q p-nz qs p,Rat.intCast_inj.mp ?_⟩;rw[Xd,XF];show ez rs (p+(ns.length-1))=ez ns (ns.length-1)*(ez Q p-ez qs p);rw[a];grind
  .rw[Yc z] at a;refine⟨0,Rat.intCast_inj.mp ?_⟩;rw[Xi];exact a
 rcases Bd.tp bd with z|⟨t,ht,tz,tb⟩
 .exact fin λj _=>z j
 .have tb:∀j,t<j->ez Q j-ez qs j=0:=λj hj=>tb j ();have a:=lM hg tb (Q.length+n);rw[key,Yb ht] at a;have tp:t<=p:=Nat.le_of_not_lt λy=>by
   rw[bQ rs _ ()] at a;rcases Rat.mul_eq_zero.mp a.symm with w|w
   .exact tz w
   .exact l0 w
  exact fin λj hj=>tb j ()
theorem Gp{s:Rat}{N:Int}(h:s*s=(N:Rat)):∃k:Int,k*k=N:=by
 have d0:((s.den:Int):Rat)≠0:=aq (by have:=s.den_pos;nofun)
 have e:((s.num:Int):Rat)=s*((s.den:Int):Rat):=by
  have:=Rat.num_divInt_den s;rw[Rat.divInt_eq_div] at this;have z:(s.num:Rat)/((s.den:Int):Rat)=s:=this;grind
 have e2:((s.num*s.num:Int):Rat)=((N*(s.den*s.den):Int):Rat):=by
  rw[Xd,Xd,Xd,e];grind
 have e3:s.num*s.num=N*(s.den*s.den):=Rat.intCast_inj.mp e2;have dv:s.den∣s.num.natAbs*s.num.natAbs:=by
  rw[<-YW,e3];refine⟨N.natAbs*s.den,?_⟩;rw[YW,YW,XB];rw[Nat.mul_left_comm]
 have co:Nat.Coprime s.den s.num.natAbs:=s.reduced.symm;have d1:=co.dvd_of_dvd_mul_left dv;have:s.den∣1:=by
  have:=Nat.dvd_gcd (Nat.dvd_refl s.den) d1
  rwa [show Nat.gcd s.den s.num.natAbs=1 from co] at this
 have one:s.den=1:=Nat.dvd_one.mp this;rw[one] at e3;exact⟨s.num,()⟩
theorem oB{u v:Int}(v0:v≠0)(h:∀k:Int,k*k≠u*v)(r:Rat):r*r≠(u:Rat)/(v:Rat):=λe=>by
 have c:=aq v0;obtain⟨k,hk⟩:=Gp (s:=(v:Rat)*r) (N:=u*v) (by rw[Xd];grind)
 exact h k hk
theorem uZ{N:Int}{b:Nat}(hN:N<(b:Int)*b)(h:∀k:Nat,k<b->(k:Int)*k≠N)(k:Int):k*k≠N:=λe=>by
 have e1:(k.natAbs:Int)*k.natAbs=N:=by rw[<-e];exact Int.natAbs_mul_self' k
 by_cases z:k.natAbs<b
 .exact h _ z e1
 .have:b*b<=k.natAbs*k.natAbs:=Xm () ();have:((b*b:Nat):Int)<=((k.natAbs*k.natAbs:Nat):Int):=();rw[XG,XG] at this;nofun
def JX:List (Int×Int):=[(2,1),(3,1),(5,1),(6,1),(1,2),(7,4),(3,4)]
theorem zS{q:Int×Int}(h:q∈JX):0<wv q /\ ∀r:Rat,r*r≠wv q:=by
 have pos:∀{q:Int×Int},0<q.1->0<q.2->0<wv q:=λ{q} a b=>by
  unfold wv;rw[Xv (Rat.intCast_pos.mpr b)];have:=Rat.intCast_pos.mpr a;grind
 unfold JX at h;simp only[Y2,Y3,Y4] at h;rcases h with rfl|rfl|rfl|rfl|rfl|rfl|rfl
 .exact⟨pos ∅ ∅,oB ∅ (uZ (b:=6) ∅ ∅)⟩
 .exact⟨pos ∅ ∅,oB ∅ (uZ (b:=6) ∅ ∅)⟩
 .exact⟨pos ∅ ∅,oB ∅ (uZ (b:=6) ∅ ∅)⟩
 .exact⟨pos ∅ ∅,oB ∅ (uZ (b:=6) ∅ ∅)⟩
 .exact⟨pos ∅ ∅,oB ∅ (uZ (b:=6) ∅ ∅)⟩
 .exact⟨pos ∅ ∅,oB ∅ (uZ (b:=6) ∅ ∅)⟩
 .exact⟨pos ∅ ∅,oB ∅ (uZ (b:=6) ∅ ∅)⟩
theorem xc{e:Rat}(a:Nat):∀b,du e (a+b)=du e a*du e b
 | 0=>by show du e a=du e a*1;grind
 | b+1=>by
  show e*du e (a+b)=du e a*(e*du e b);rw[xc a b];grind
theorem AZ{l l':List (aJ×Nat)}(h:l.Perm l')(x:Rat):iD l x=iD l' x:=by
 induction h with
 | nil=>rfl
 | cons q _ ih=>show du (q.1.p x) q.2*_=du (q.1.p x) q.2*_;rw[ih]
 | swap a b l=>show du (b.1.p x) b.2*(du (a.1.p x) a.2*iD l x)=du (a.1.p x) a.2*(du (b.1.p x) b.2*iD l x);grind
 | trans _ _ h1 h2=>rw[h1,h2]
theorem yY{l l':List (aJ×Nat)}(h:l.Perm l'):cF l=cF l':=by
 induction h with
 | nil=>rfl
 | cons q _ ih=>show q.2*q.1.deg+_=q.2*q.1.deg+_;rw[ih]
 | swap a b l=>show b.2*b.1.deg+(a.2*a.1.deg+cF l)=a.2*a.1.deg+(b.2*b.1.deg+cF l);nofun
 | trans _ _ h1 h2=>rw[h1,h2]
def dC(x:Rat):Rat:=if x<0 then -(x*x) else x*x
theorem BH{x y:Rat}(h:x<y):dC x<dC y:=by
 unfold dC;by_cases a:x<0
 .rw[Yb a];by_cases b:y<0
  .rw[Yb b];have:=Xs (show 0<y-x by grind) (show 0 < -x-y by grind)
   grind
  .rw[Yc b];have:=Xs (show 0 < -x by grind) (show 0 < -x by grind)
   have:=iq y;grind
 .rw[Yc a,Yc (show ¬ y<0 by grind)]
  have:=Xs (show 0<y-x by grind) (show 0<y+x by grind)
  grind
theorem ox{x y:Rat}:dC x<=dC y↔x<=y:=by
 refine⟨λh=>Rat.not_lt.mp λz=>?_,λh=>?_⟩
 .have:=BH z;grind
 .by_cases e:x=y
  .rw[e];grind
  .have:=BH (show x<y by grind)
   grind
def aJ.mk:aJ->List Rat
 | .line r=>[dC r]
 | .root n=>[-n,n]
 | .none _=>[]
theorem aJ.A_mk{q:aJ}(h:q.ok)(x:Rat):q.A x=((q.mk).filter λm=>decide (m<=dC x)).length:=by
 cases q with
 | none _=>rfl
 | line r =>
  show (if r<=x then 1 else 0)=([dC r].filter λm=>decide (m<=dC x)).length
  by_cases z:r<=x
  .rw[Yb z,Xx (by simpa using ox.mpr z)]
   rfl
  .rw[Yc z,Xy (by simpa using λy=>z (ox.mp y))]
   rfl
 | root n =>
  obtain⟨n0,nn⟩:=h;show (if x*x<n then 1 else if x<0 then 0 else 2)=([-n,n].filter λm=>decide (m<=dC x)).length
  have p:=iq x;have ne:=nn x;by_cases a:x*x<n
  .have h1 : -n<=dC x:=by unfold dC;split<;>grind
   have h2:¬ n<=dC x:=by unfold dC;split<;>grind
   rw[Yb a,Xx (by simpa using h1),Xy (by simpa using h2)]
   rfl
  .rw[Yc a];by_cases b:x<0
   .have h1:¬ -n<=dC x:=by unfold dC;rw[Yb b];grind
    have h2:¬ n<=dC x:=by unfold dC;rw[Yb b];grind
    rw[Yb b,Xy (by simpa using h1),Xy (by simpa using h2)]
    rfl
   .have h1 : -n<=dC x:=by unfold dC;rw[Yc b];grind
    have h2:n<=dC x:=by unfold dC;rw[Yc b];grind
    rw[Yc b,Xx (by simpa using h1),Xx (by simpa using h2)]
    rfl
def zu(l:List (aJ×Nat)):List Rat:=l.flatMap λq=>q.1.mk
theorem nX{x:Rat}:∀{l:List (aJ×Nat)},(∀q∈l,q.1.ok/\1<=q.2)->fk l x=((zu l).filter λm=>decide (m<=dC x)).length
 | [],_=>rfl
 | q::l,h=>by
  show q.1.A x+fk l x=((q.1.mk++zu l).filter _).length;rw[List.filter_append,YC,aJ.A_mk (h q Yi).1,nX λp hp=>h p (Yj _ hp)]
theorem uC:∀l:List (aJ×Nat),ux l=(zu l).length
 | []=>rfl
 | q::l=>by
  show q.1.tot+ux l=(q.1.mk++zu l).length;rw[YC,uC l];cases q.1<;>rfl
theorem A7{r n:Rat}(h:dC r=n\/dC r = -n)(n0:0<n):r*r=n:=by
 unfold dC at h;have:=iq r;split at h<;>grind
theorem vO{l:List (aJ×Nat)}(ok:∀q∈l,q.1.ok/\1<=q.2)(un:l.Pairwise λa b=>a.1≠b.1):(zu l).Nodup:=by
 refine List.pairwise_flatMap.mpr ⟨λq hq=>?_,?_⟩
 .cases hq':q.1 with
  | line r=>exact List.pairwise_singleton _ _
  | none n=>exact .nil
  | root n =>
   have:=(ok q hq).1;rw[hq'] at this;have n0:=this.1;exact List.pairwise_cons.mpr ⟨λy hy=>by rw[List.mem_singleton.mp hy];grind,List.pairwise_singleton _ _⟩
 .refine List.Pairwise.imp_of_mem (R:=λa b=>a.1≠b.1) (λ{a b} ha hb n x hx y hy e=>?_) un;have oa:=(ok a ha).1;have ob:=(ok b hb).1;subst e;cases ea:a.1 with
  | none m=>rw[ea] at hx;cases hx
  | line r =>
   rw[ea] at hx;have hx:=List.mem_singleton.mp hx;cases eb:b.1 with
   | none m=>rw[eb] at hy;cases hy
   | line s =>
    rw[eb] at hy;have hy:=List.mem_singleton.mp hy;have z:dC r=dC s:=hx.symm.trans hy;have:r=s:=by
     have:=ox.mp (show dC r<=dC s by grind)
     have:=ox.mp (show dC s<=dC r by grind)
     grind
    exact n (by rw[ea,eb,this])
   | root m =>
    rw[eb] at hy ob;refine ob.2 r (A7 ?_ ob.1);rcases Y2.mp hy with z|z
    .exact .inr (hx.symm.trans z)
    .exact .inl (hx.symm.trans (List.mem_singleton.mp z))
  | root m =>
   rw[ea] at hx oa;have hx:x = -m\/x=m:=by
    rcases Y2.mp hx with z|z
    .exact .inl z
    .exact .inr (List.mem_singleton.mp z)
   cases eb:b.1 with
   | none m'=>rw[eb] at hy;cases hy
   | line s =>
    rw[eb] at hy;have hy:=List.mem_singleton.mp hy;refine oa.2 s (A7 ?_ oa.1);rcases hx with z|z
    .exact .inr (hy.symm.trans z)
    .exact .inl (hy.symm.trans z)
   | root m' =>
    rw[eb] at hy ob;have hy:x = -m'\/x=m':=by
     rcases Y2.mp hy with z|z
     .exact .inl z
     .exact .inr (List.mem_singleton.mp z)
    have p1:=oa.1;have p2:=ob.1;have:m=m':=⋯;exact n (by rw[ea,eb,this])
def qT(lo hi:Option Rat)(m:Rat):Bool:=(match lo with|none=>true|some a=>decide (dC a<m)) && (match hi with|none=>true|some b=>!decide (dC b<m))
theorem sF{lo hi:Option Rat}(lt:∀a b,lo=some a->hi=some b->a<=b):∀ms:List Rat,(ms.filter (qT lo hi)).length+(match lo with|none=>0|some a=>(ms.filter λm=>decide (m<=dC a)).length)=(match hi with|none=>ms.length|some b=>(ms.filter λm=>decide (m<=dC b)).length)
 | []=>by cases lo<;>cases hi<;>rfl
 | m::ms=>by
  have ih:=sF lt ms;have f1:∀(p:Rat->Bool),((m::ms).filter p).length=cond (p m) 1 0+(ms.filter p).length:=λp=>by
   cases z:p m with
   | true=>rw[Xx z,Y6];show _=1+_;nofun
   | false=>rw[Xy (by rw[z];decide)];show _=0+_;nofun
  have n1:∀a:Rat,dC a<m->decide (m<=dC a)=false:=λa z=>Ya ⋯;have n2:∀a:Rat,¬ dC a<m->decide (m<=dC a)=true:=λa z=>YK ⋯;cases lo with
  | none =>
   cases hi with
   | none =>
    have ih:_+0=ms.length:=ih;rw[f1];show 1+_+0=ms.length+1;nofun
   | some b =>
    have ih:_+0=(ms.filter λm=>decide (m<=dC b)).length:=ih;rw[f1];show _+_+0=((m::ms).filter λm=>decide (m<=dC b)).length;rw[f1];have e:qT none (some b) m=decide (m<=dC b):=by
     show (true && !decide (dC b<m))=_;by_cases z:dC b<m
     .rw[YK z,n1 b z];rfl
     .rw[Ya z,n2 b z];rfl
    rw[e];nofun
  | some a =>
   cases hi with
   | none =>
    have ih:_+(ms.filter λm=>decide (m<=dC a)).length=ms.length:=ih;rw[f1];show _+_+((m::ms).filter λm=>decide (m<=dC a)).length=ms.length+1;rw[f1];have e:qT (some a) none m=decide (dC a<m):=by show (decide (dC a<m) && true)=_;rw[Bool.and_true]
    rw[e];by_cases z:dC a<m
    .rw[YK z,n1 a z];show 1+_+(0+_)=_;nofun
    .rw[Ya z,n2 a z];show 0+_+(1+_)=_;nofun
   | some b =>
    have ab:=ox.mpr (lt a b rfl rfl);have ih:_+(ms.filter λm=>decide (m<=dC a)).length=(ms.filter λm=>decide (m<=dC b)).length:=ih;rw[f1];show _+_+((m::ms).filter λm=>decide (m<=dC a)).length=((m::ms).filter λm=>decide (m<=dC b)).length;rw[f1,f1];have e:qT (some a) (some b) m=(decide (dC a<m) && !decide (dC b<m)):=rfl;rw[e];by_cases z:dC a<m
    .rw[YK z,n1 a z];by_cases y:dC b<m
     .rw[YK y,n1 b y];show 0+_+(0+_)=0+_;nofun
     .rw[Ya y,n2 b y];show 1+_+(0+_)=1+_;nofun
    .have y:¬ dC b<m:=⋯;rw[Ya z,n2 a z,Ya y,n2 b y];show 0+_+(1+_)=1+_;nofun
theorem yi{l:List (aJ×Nat)}{ms:List Rat}{lo hi:Option Rat}(ok:∀q∈l,q.1.ok/\1<=q.2)(un:l.Pairwise λa b=>a.1≠b.1)(nd:ms.Nodup)(hm:∀v,v∈ms↔v∈zu l)(lt:∀a b,lo=some a->hi=some b->a<=b):(ms.filter (qT lo hi)).length+zy l lo=ue l hi:=by
 have p:ms.Perm (zu l):=(List.perm_ext_iff_of_nodup nd (vO ok un)).mpr hm;rw[(p.filter _).length_eq];have:=sF lt (zu l);cases lo with
 | none =>
  cases hi with
  | none=>show _+0=ux l;rw[uC];exact this
  | some b=>show _+0=fk l b;rw[nX ok];exact this
 | some a =>
  cases hi with
  | none=>show _+fk l a=ux l;rw[uC,nX ok];exact this
  | some b=>show _+fk l a=fk l b;rw[nX ok,nX ok];exact this
def oY(a b:Int):List (List Int×List Int×Int×Int)->List (List Int)
 | []=>[]
 | row::rows=>(row.1.map λy=>(-a*row.2.2.1.sign*row.2.2.2.sign)*y)::oY b (-a*row.2.2.1.sign*row.2.2.2.sign) rows
def sy(a:Int):Prop:=a=1\/a = -1
theorem sy.next{a S T:Int}(h:sy a)(s0:S≠0)(t0:T≠0):sy (-a*T.sign*S.sign):=by
 unfold sy at *
 rcases ee t0 with ⟨z,_⟩|⟨z,_⟩<;>rcases ee s0 with ⟨y,_⟩|⟨y,_⟩<;>rcases h with x|x<;>rw[x,y,z]<;>decide
theorem nM.ne{F G:List Int}{rows:List (List Int×List Int×Int×Int)}(h:nM F G rows):∀row∈rows,row.2.2.1≠0/\row.2.2.2≠0/\row.1≠[]/\nz row.1 (row.1.length-1)≠0:=by
 induction h with
 | nought=>simp
 | last=>simp
 | more g0 gl s0 t0 r0 rl lr lq e hr ih =>
  intro row gI;rcases Y2.mp gI with rfl|z
  .exact⟨t0,s0,r0,rl⟩
  .exact ih row z
theorem iM:∀(rows:List (List Int×List Int×Int×Int))(a b:Int)(G G1:List Int),(∀row∈rows,row.2.2.1≠0/\row.2.2.2≠0)->sy a->sy b->(∀k,nz G1 k=b*nz G k)->G1.length=G.length -> ∃L s,(G1::oY a b rows).getLast? = some L/\sy s/\(∀k,nz L k=s*nz (dY G rows) k)/\L.length=(dY G rows).length
 | [],a,b,G,G1,_,_,hb,h,hl=>⟨G1,b,rfl,hb,h,hl⟩
 | row::rows,a,b,G,G1,hn,ha,hb,h,hl=>by
  obtain⟨L,s,e,ps,hL⟩:=iM rows b (-a*row.2.2.1.sign*row.2.2.2.sign) row.1 (row.1.map λy=>(-a*row.2.2.1.sign*row.2.2.2.sign)*y) (λr hr=>hn r (Yj _ hr)) hb (ha.next (hn row Yi).2 (hn row Yi).1) (λk=>de k) (by rw[YD])
  refine⟨L,s,?_,ps,hL⟩;show (G1::(row.1.map _)::oY b _ rows).getLast? = some L;rw[List.getLast?_cons_cons];exact e
theorem EH{W h P:List Int}(lW:W.length=1)(h0:h≠[])(hz:nz h (h.length-1)≠0)(P1:P.length=1)(Pz:nz P 0≠0)(e:∀k,nz W k=pz (nz h) (nz P) h.length k):∃c:Int,c≠0/\h=[c]:=by
 have hp:=List.length_pos_iff.mpr h0;have hg:∀j,0<j->ez P j=0:=λj hj=>bQ P j ();have hf:∀j,h.length-1<j->ez h j=0:=λj hj=>bQ h j ();have a:=lM hg hf h.length;rw[Yb ()] at a;have b:((nz W (h.length-1):Int):Rat)=((pz (nz h) (nz P) h.length (h.length-1):Int):Rat):=by rw[<-e]
 rw[gF] at b;have l1:h.length=1:=Xw λn=>by
  rw[aK ()] at b;have z:ez h (h.length-1)*ez P 0=0:=a.symm.trans b.symm;rcases Rat.mul_eq_zero.mp z with y|y
  .exact aq hz y
  .exact aq Pz y
 match h,l1,hz with
 | [c],_,hz=>exact⟨c,hz,rfl⟩
theorem qQ:∀(rows:List (List Int×List Int×Int×Int))(a b:Int),(∀row∈rows,row.2.2.1≠0/\row.2.2.2≠0)->sy a->sy b -> ∀F∈oY a b rows,∃row∈rows,∃s,sy s/\F=row.1.map λy=>s*y
 | [],_,_,_,_,_,_,h=>by cases h
 | row::rows,a,b,hn,ha,hb,F,h=>by
  have hm:=ha.next (hn row Yi).2 (hn row Yi).1
  rcases Y2.mp h with z|z
  .exact⟨row,Yi,_,hm,z⟩
  .obtain⟨r,hr,s,hs,e⟩:=qQ rows b _ (λr hr=>hn r (Yj _ hr)) hb hm F z;exact⟨r,Yj _ hr,s,hs,e⟩
theorem ua.exq{P F:List Int}(h:ua P F)(lF:F.length<=11) {s:Int}:Da (F.map λy=>s*y) P:=by
 obtain⟨A,lA,lAP,e⟩:=h;refine⟨A.map λy=>s*y,zZ (by rw[YD];nofun) (by rw[YD];nofun) λx=>?_⟩
 rw[fE (G:=F) (c:=s) λk=>de k,fE (G:=A) (c:=s) λk=>de k,e x];grind
theorem C6(F:List Int):(F.map λy=>1*y)=F:=by
 rw[show (λy:Int=>1*y)=id from funext λy=>Xk y,List.map_id]
inductive xP (P:List Int):List (List Int)->List (List Int)->Prop
 | nil:xP P [] []
 | cons {F h:List Int}{Fs hs:List (List Int)}:h.length<=11/\h.length+P.length<=20->h≠[]->nz h (h.length-1)≠0->(∀k,nz F k=pz (nz h) (nz P) h.length k)->xP P Fs hs->xP P (F::Fs) (h::hs)
theorem xP.all{P:List Int}{Fs hs:List (List Int)}(h:xP P Fs hs):∀x∈hs,x≠[]/\x.length<=20/\nz x (x.length-1)≠0:=by
 induction h with
 | nil=>simp
 | cons a b c _ _ ih =>
  intro x hx;rcases Y2.mp hx with rfl|z
  .exact⟨b,(),c⟩
  .exact ih x z
theorem xP.hsOk{P:List Int}:∀{rows:List (List Int×List Int×Int×Int)}{a b:Int}{hs:List (List Int)},xP P (oY a b rows) hs->Cy (aI P) a b rows hs
 | [],a,b,hs,h=>by cases h;rfl
 | row::rows,a,b,hs,h=>by
  cases h with
  | cons l _ _ e t =>
   refine⟨l.1,λx=>?_,xP.hsOk t⟩;rw[<-kQ () e,fE (G:=row.1) (c:=-a*row.2.2.1.sign*row.2.2.2.sign) λk=>de k]
def CC(fs:List (Int×Int))(hs:List (List Int)):Prop:=(fs.length=1 /\ ∃c:Int,c≠0/\hs=[[c]]) \/ ∃(h0 h1:List Int)(tl:List (List Int))(κ:Rat),hs=h0::h1::tl/\(∀R:Rat,0<=R->Ch R (aI h0) (aI h1::tl.map aI))/\0<κ /\ ∀(l:List (aJ×Nat))(c:Rat),cF l<=17->(∀x,EV (cf fs) x=c*iD l x) -> ∀x,κ*(aI h1 x*cA l x)=aI h0 x*gv l x
theorem yO{W O P L:List Int}{rows:List (List Int×List Int×Int×Int)}{g:Int}(rq:nM W O rows)(o0:O≠[])(lW:W.length<=11)(lO:O.length<=W.length)(lO10:O.length<=10)(hp:iB (nz P))(lP:P.length<=L.length)(hL:(O::oY 1 1 rows).getLast? = some L)(eL:∀k,nz L k=g*nz P k)(lr:∀row∈rows,row.1.length<=11):∀F∈W::O::oY 1 1 rows,Da F P:=by
 have hn:∀row∈rows,row.2.2.1≠0/\row.2.2.2≠0:=λrow h=>⟨(rq.ne row h).1,(rq.ne row h).2.1⟩;obtain⟨L',s,e,ps,hs,lLs⟩:=iM rows 1 1 O O hn (.inl rfl) (.inl rfl) (λk=>by rw[Xk]) rfl
 rw[hL] at e;cases e;have el:∀k,nz (dY O rows) k=(s*g)*nz P k:=λk=>by
  have a:=hs k;rw[eL k] at a;have:s*(g*nz P k)=s*(s*nz (dY O rows) k):=by rw[a]
  rw[<-Xg,<-Xg,show s*s=1 by rcases ps with z|z<;>rw[z]<;>decide,Xk] at this
  exact this.symm
 obtain⟨dW,dO,dr⟩:=rq.div hp () o0 lW lO lO10 el;have one:∀{F:List Int},ua P F->F.length<=11->Da F P:=λ{F} d l=>by
  have:=d.exq l (s:=1)
  rwa [C6] at this
 intro F hF;rcases Y2.mp hF with rfl|hF
 .exact one dW lW
 .rcases Y2.mp hF with rfl|hF
  .exact one dO ()
  .obtain⟨row,hr,s',_,rfl⟩:=qQ rows 1 1 hn (.inl rfl) (.inl rfl) F hF;exact (dr row hr).exq (lr row hr)
theorem Ki{fs:List (Int×Int)}{W O P L S:List Int}{rows:List (List Int×List Int×Int×Int)}{hs:List (List Int)}{g g':Int}{C:Rat}(rq:nM W O rows)(o0:O≠[])(lW:W.length<=11)(lO:O.length<=W.length)(p0:P≠[])(pz0:nz P (P.length-1)≠0)(lP:P.length<=11)(hL:(O::oY 1 1 rows).getLast? = some L)(g0:g≠0)(eL:∀k,nz L k=g*nz P k)(hW:∀k,ez W k=cf fs k*C)(hS:∀k,nz S k=((k+1:Nat):Int)*nz W (k+1))(gp:0<g')(hO:∀k,nz S k=g'*nz O k)(pt:xP P (W::O::oY 1 1 rows) hs):CC fs hs:=by
 have hn:∀row∈rows,row.2.2.1≠0/\row.2.2.2≠0:=λrow h=>⟨(rq.ne row h).1,(rq.ne row h).2.1⟩;obtain⟨L',s,e,ps,hs',_⟩:=iM rows 1 1 O O hn (.inl rfl) (.inl rfl) (λk=>by rw[Xk]) rfl
 rw[hL] at e;cases e;have s2:s*s=1:=by rcases ps with z|z<;>rw[z]<;>decide
 have el:∀k,nz (dY O rows) k=(s*g)*nz P k:=λk=>by
  have a:=hs' k;rw[eL k] at a;have:s*(g*nz P k)=s*(s*nz (dY O rows) k):=by rw[a]
  rw[<-Xg,<-Xg,s2,Xk] at this;exact this.symm
 have pl:Py (aI P):=cE ();have l0:∃x,aI P x≠0:=Xw λz=>pz0 (by
  have:=mH (F:=P) (G:=[]) () (by simp) (λx=>by
   rw[rC];exact Xw λy=>z ⟨x,y⟩) (P.length-1)
  rw[this,aK (by simp)])
 cases pt with
 | @cons _ h0 _ _ a1 a2 a3 a4 pt =>
 cases pt with
 | @cons _ h1 _ tl b1 b2 b3 b4 pt =>
 have e0:∀x,aI W x=aI h0 x*aI P x:=kQ () a4;have e1:∀x,aI O x=aI h1 x*aI P x:=kQ () b4;have c1:((1:Int):Rat)=1:=rfl;refine .inr ⟨h0,h1,tl,(g':Rat),rfl,λR R0=>?_,Rat.intCast_pos.mpr gp,λl c dl el' x=>?_⟩
 .exact rq.ch R0 pl l0 (a:=1) (b:=1) (g:=s*g) (.inl rfl) (.inl rfl) (Xb (by rcases ps with z|z<;>nofun) g0) o0 lW lO a1.1 b1.1 (λx=>by rw[c1,Rat.one_mul];exact e0 x) (λx=>by rw[c1,Rat.one_mul];exact e1 x) pt.hsOk λx=>fE el x
 .have eW:∀x,aI W x=(c*C)*iD l x:=λx=>by
   have:aI W x=EV (cf fs) x*C:=by
    unfold aI;rw[fA (g:=λk=>0+C*cf fs k) (λk=>by rw[hW k];grind) x,jZ,me (f:=λ_=>0) λ_=>rfl]
    grind
   rw[this,el' x];grind
  have sid:=Ci dl lW hS eW;have key:=Py.zero (f:=λx=>(g':Rat)*(aI h1 x*cA l x)-aI h0 x*gv l x) (g:=aI P) ?_ pl (λx=>?_) l0 x
  .grind
  .have q1:∀l:List (aJ×Nat),Py (cA l)/\Py (gv l):=by
    have fp:∀q:aJ,Py q.p/\Py q.d:=λq=>by
     cases q with
     | line r=>exact⟨(Py.id.sub (.const r)).congr λx=>rfl,(Py.const 1).congr λx=>rfl⟩
     | root n=>exact⟨((Py.id.mul Py.id).sub (.const n)).congr λx=>rfl,((Py.const 2).mul Py.id).congr λx=>rfl⟩
     | none n=>exact⟨((Py.id.mul Py.id).add (.const n)).congr λx=>rfl,((Py.const 2).mul Py.id).congr λx=>rfl⟩
    intro l;induction l with
    | nil=>exact⟨(Py.const 1).congr λx=>rfl,(Py.const 0).congr λx=>rfl⟩
    | cons q l ih=>exact⟨((fp q.1).1.mul ih.1).congr λx=>rfl,((((Py.const _).mul (fp q.1).2).mul ih.1).add ((fp q.1).1.mul ih.2)).congr λx=>rfl⟩
   exact (((cE ()).mul (q1 l).1).sc _).sub ((cE ()).mul (q1 l).2)
  .have z1:=sid x;have z2:aI S x=(g':Rat)*aI O x:=fE hO x;rw[z2,e0 x,e1 x] at z1;grind
theorem An{fs:List (Int×Int)}{hs:List (List Int)}{l:List (aJ×Nat)}{c:Rat}(h:CC fs hs)(all:∀x∈hs,x≠[]/\x.length<=20/\nz x (x.length-1)≠0)(ok:∀q∈l,q.1.ok/\1<=q.2)(un:l.Pairwise λa b=>a.1≠b.1)(dl:cF l<=17)(d1:fs.length=cF l+1)(e:∀x,EV (cf fs) x=c*iD l x) {lo hi:Option Rat}(lt:∀a b,lo=some a->hi=some b->a<=b):chg 0 (rZ (-1) lo hs)+zy l lo=chg 0 (rZ 1 hi hs)+ue l hi:=by
 rcases h with ⟨f1,a,a0,rfl⟩|⟨h0,h1,tl,κ,rfl,ch,k0,id⟩
 .have l0:l=[]:=by
   cases l with
   | nil=>rfl
   | cons q l =>
    have h1:cF (q::l)=q.2*q.1.deg+cF l:=rfl;have h2:=(ok q Yi).2;have h3:1<=q.1.deg:=by cases q.1<;>simp[aJ.deg]
    have:=Xm h2 h3;nofun
  subst l0;have e1:∀x,zy [] x=0:=λx=>by cases x<;>rfl
  have e2:∀x,ue [] x=0:=λx=>by cases x<;>rfl
  have one:∀s:Int,chg 0 [s]=0:=λs=>by
   by_cases z:s=0
   .rw[z,Fm];rfl
   .rw[ut z];rfl
  have e3:∀(side:Int)(y:Option Rat),chg 0 (rZ side y [[a]])=0:=λside y=>by
   cases y with
   | none=>exact one _
   | some x=>exact one _
  rw[e1,e2,e3,e3]
 .exact vp ch ok un k0 (id l c dl e) all lt
def vI(u v:Rat):Int:=if sg u*sg v = -1 then 1 else 0
def BZ(R:Rat)(f g:Rat->Rat)(A:Rat->Int):Prop:=∃δ:Rat,0<δ /\ ∀c d,Wi R c->Wi R d->c<=d->d-c<=δ->(sg (f c)=sg (f d)/\sg (f c)≠0/\A c=A d)\/(sg (g c)=sg (g d)/\sg (g c)≠0/\vI (f c) (g c)+A c=vI (f d) (g d)+A d)
def Bz(f g:Rat->Rat):Prop:=∃u v,Py u/\Py v /\ ∀x,u x*f x+v x*g x=1
theorem Bz.symm{f g:Rat->Rat}(h:Bz f g):Bz g f:=by
 obtain⟨u,v,a,b,e⟩:=h;exact⟨v,u,b,a,λx=>by have:=e x;grind⟩
theorem Bz.mul{f g h:Rat->Rat}(pf:Py f)(pg:Py g)(ph:Py h)(a:Bz f g)(b:Bz f h):Bz f λx=>g x*h x:=by
 obtain⟨u,v,pu,pv,e⟩:=a;obtain⟨u',v',pu',pv',e'⟩:=b;refine⟨λx=>u x*(u' x*f x+v' x*h x)+v x*g x*u' x,λx=>v x*v' x,(pu.mul ((pu'.mul pf).add (pv'.mul ph))).add ((pv.mul pg).mul pu'),pv.mul pv',λx=>?_⟩;have e1:=e x;have e2:=e' x;have:(u x*f x+v x*g x)*(u' x*f x+v' x*h x)=1:=by rw[e1,e2];grind
 grind
theorem Bz.add{f g k:Rat->Rat}(pk:Py k)(h:Bz f g):Bz f λx=>g x+f x*k x:=by
 obtain⟨u,v,pu,pv,e⟩:=h;exact⟨λx=>u x-v x*k x,v,pu.sub (pv.mul pk),pv,λx=>by have:=e x;grind⟩
theorem Bz.congr{f g f' g':Rat->Rat}(h:Bz f g)(e1:∀x,f' x=f x)(e2:∀x,g' x=g x):Bz f' g':=by
 obtain⟨u,v,pu,pv,e⟩:=h;exact⟨u,v,pu,pv,λx=>by rw[e1,e2];exact e x⟩
theorem Bz.of{f g a b:Rat->Rat}{c:Rat}(pa:Py a)(pb:Py b)(c0:c≠0)(e:∀x,a x*f x+b x*g x=c):Bz f g :=
 ⟨λx=>1/c*a x,λx=>1/c*b x,pa.sc _,pb.sc _,λx=>by
  have:=e x;have:1/c*c=1:=⋯;grind⟩
theorem aJ.pp:∀q:aJ,Py q.p
 | .line r=>(Py.id.sub (.const r)).congr λ_=>rfl
 | .root n=>((Py.id.mul Py.id).sub (.const n)).congr λ_=>rfl
 | .none n=>((Py.id.mul Py.id).add (.const n)).congr λ_=>rfl
theorem aJ.pd:∀q:aJ,Py q.d
 | .line _=>(Py.const 1).congr λ_=>rfl
 | .root _=>((Py.const 2).mul Py.id).congr λ_=>rfl
 | .none _=>((Py.const 2).mul Py.id).congr λ_=>rfl
theorem iz:∀l:List (aJ×Nat),Py (cA l)
 | []=>(Py.const 1).congr λ_=>rfl
 | q::l=>(q.1.pp.mul (iz l)).congr λ_=>rfl
theorem li:∀l:List (aJ×Nat),Py (gv l)
 | []=>(Py.const 0).congr λ_=>rfl
 | q::l=>((((Py.const _).mul q.1.pd).mul (iz l)).add (q.1.pp.mul (li l))).congr λ_=>rfl
theorem aJ.bz{q q':aJ}(h:q.ok)(h':q'.ok)(n:q≠q'):Bz q.p q'.p:=by
 have none_none:∀m m':Rat,m≠m'->Bz (aJ.none m).p (aJ.none m').p:=λm m' n=>.of (a:=λ_=>1) (b:=λ_=>-1) (c:=m-m') (.const 1) (.const (-1)) (λz=>n ⋯) λx=>by
  show 1*(x*x+m) + -1*(x*x+m')=m-m';grind
 have line_none:∀r m:Rat,0<m->Bz (aJ.line r).p (aJ.none m).p:=λr m m0=>.of (a:=λx=>-(x+r)) (b:=λ_=>1) (c:=r*r+m) (((Py.id.add (.const r)).sc (-1)).congr λx=>by grind) (.const 1) (λz=>by have:=iq r;grind) λx=>by
  show -(x+r)*(x-r)+1*(x*x+m)=r*r+m;grind
 have root_none:∀n m:Rat,0<n->0<m->Bz (aJ.root n).p (aJ.none m).p:=λn m n0 m0=>.of (a:=λ_=>-1) (b:=λ_=>1) (c:=n+m) (.const (-1)) (.const 1) ⋯ λx=>by
  show -1*(x*x-n)+1*(x*x+m)=n+m;grind
 have line_root':∀r n:Rat,(∀r:Rat,r*r≠n)->Bz (aJ.line r).p (aJ.root n).p:=λr n hn=>.of (a:=λx=>-(x+r)) (b:=λ_=>1) (c:=r*r-n) (((Py.id.add (.const r)).sc (-1)).congr λx=>by grind) (.const 1) (λz=>hn r ⋯) λx=>by
  show -(x+r)*(x-r)+1*(x*x-n)=r*r-n;grind
 cases q with
 | line r =>
  cases q' with
  | line s=>exact .of (a:=λ_=>1) (b:=λ_=>-1) (c:=s-r) (.const 1) (.const (-1)) (λz=>n (by rw[show r=s by grind])) λx=>by show 1*(x-r) + -1*(x-s)=s-r;grind
  | root m=>exact line_root' r m h'.2
  | none m=>exact line_none r m h'
 | root m =>
  cases q' with
  | line s=>exact (line_root' s m h.2).symm
  | root m'=>exact .of (a:=λ_=>1) (b:=λ_=>-1) (c:=m'-m) (.const 1) (.const (-1)) (λz=>n (by rw[show m=m' by grind])) λx=>by show 1*(x*x-m) + -1*(x*x-m')=m'-m;grind
  | none m'=>exact root_none m m' h.1 h'
 | none m =>
  cases q' with
  | line s=>exact (line_none s m h).symm
  | root m'=>exact (root_none m' m h'.1 h).symm
  | none m'=>exact none_none m m' λz=>n (by rw[z])
theorem aJ.bzd{q:aJ}(h:q.ok):Bz q.p q.d:=by
 cases q with
 | line r=>exact .of (a:=λ_=>0) (b:=λ_=>1) (c:=1) (.const 0) (.const 1) ∅ λx=>by show 0*_+1*(1:Rat)=1;grind
 | root n =>
  have n0:=h.1;exact .of (a:=λ_=>-2) (b:=λx=>x) (c:=2*n) (.const (-2)) .id ⋯ λx=>by show -2*(x*x-n)+x*(2*x)=2*n;grind
 | none n =>
  have n0:0<n:=h;exact .of (a:=λ_=>2) (b:=λx=>-x) (c:=2*n) (.const 2) ((Py.id.sc (-1)).congr λx=>by grind) ⋯ λx=>by show 2*(x*x+n) + -x*(2*x)=2*n;grind
theorem Bz.sc{f g:Rat->Rat}{c:Rat}(c0:c≠0)(h:Bz f g):Bz f λx=>c*g x:=by
 obtain⟨u,v,pu,pv,e⟩:=h;exact⟨u,λx=>1/c*v x,pu,pv.sc _,λx=>by
  have:=e x;have:1/c*c=1:=⋯;grind⟩
theorem zY{q:aJ}(h:q.ok):∀{l:List (aJ×Nat)},(∀p∈l,p.1.ok/\1<=p.2)->(∀p∈l,q≠p.1)->Bz q.p (cA l)
 | [],_,_=>(Bz.of (a:=λ_=>0) (b:=λ_=>1) (c:=1) (g:=λ_=>1) (.const 0) (.const 1) ∅ λx=>by grind).congr (λ_=>rfl) λ_=>rfl
 | p::l,ok,n=>(Bz.mul q.pp p.1.pp (iz l) (aJ.bz h (ok p Yi).1 (n p Yi)) (zY h (λp' hp=>ok p' (Yj _ hp)) λp' hp=>n p' (Yj _ hp))).congr (λ_=>rfl) λ_=>rfl
theorem Bw:∀{l:List (aJ×Nat)},(∀q∈l,q.1.ok/\1<=q.2)->l.Pairwise (λa b=>a.1≠b.1)->Bz (cA l) (gv l)
 | [],_,_=>⟨λ_=>1,λ_=>0,.const 1,.const 0,λx=>by show 1*1+0*0=(1:Rat);grind⟩
 | q::l,ok,un=>by
  obtain⟨u1,u2⟩:=List.pairwise_cons.mp un;have okl:∀p∈l,p.1.ok/\1<=p.2:=λp hp=>ok p (Yj _ hp);have ih:=Bw okl u2;have hq:=ok q Yi;have m0:((q.2:Nat):Rat)≠0:=λz=>by
   have h1:((1:Nat):Rat)<=((q.2:Nat):Rat):=Rat.natCast_le_natCast.mpr hq.2;have h2:((1:Nat):Rat)=1:=rfl;grind
  have b1:=zY hq.1 okl λp hp=>u1 p hp;have x1:Bz q.1.p (gv (q::l)):=by
   have:=(((Bz.mul q.1.pp q.1.pd (iz l) (aJ.bzd hq.1) b1).sc m0)).add (li l);exact this.congr (λ_=>rfl) λx=>by show ((q.2:Nat):Rat)*q.1.d x*cA l x+q.1.p x*gv l x=_;grind
  have x2:Bz (cA l) (gv (q::l)):=by
   have:=(Bz.mul (iz l) q.1.pp (li l) b1.symm ih).add ((q.1.pd.sc ((q.2:Nat):Rat)));exact this.congr (λ_=>rfl) λx=>by show ((q.2:Nat):Rat)*q.1.d x*cA l x+q.1.p x*gv l x=_;grind
  exact (Bz.mul (li _) q.1.pp (iz l) x1.symm x2.symm).symm.congr (λ_=>rfl) λ_=>rfl
theorem oF:∀l:List Rat,∃l':List Rat,(∀x,dE l x=dE l' x)/\(l'=[] \/ ∃c,l'.getLast? = some c/\c≠0)
 | []=>⟨[],λ_=>rfl,.inl rfl⟩
 | a::l=>by
  obtain⟨l',e,h⟩:=oF l;rcases h with rfl|⟨c,hc,c0⟩
  .by_cases z:a=0
   .exact⟨[],λx=>by show a+x*dE l x=0;rw[e x];show a+x*0=0;grind,.inl rfl⟩
   .exact⟨[a],λx=>by show a+x*dE l x=a+x*0;rw[e x];rfl,.inr ⟨a,rfl,z⟩⟩
  .refine⟨a::l',λx=>by show a+x*dE l x=a+x*dE l' x;rw[e x],.inr ⟨c,?_,c0⟩⟩
   cases l' with
   | nil=>cases hc
   | cons b l'=>rw[List.getLast?_cons_cons];exact hc
theorem rD:∀l:List Rat,(∃c,l.getLast? = some c/\c≠0) -> ∃R c:Rat,0<R/\0<c /\ ∀x,R<=x->Bg c (dE l x)/\(2<=l.length->Bg (c*x) (dE l x))
 | [],⟨_,h,_⟩=>by cases h
 | [a],⟨c,h,c0⟩=>by
  cases h;rcases bH a with ⟨z,_⟩|⟨z,_⟩|⟨z,_⟩
  .exact⟨1,a,∅,z,λx _=>⟨.inl (by show a<=a+x*0;grind),λh=>by simp at h⟩⟩
  .exact⟨1,-a,∅,⋯,λx _=>⟨.inr (by show a+x*0<=_;grind),λh=>by simp at h⟩⟩
  .exact absurd z c0
 | a::b::l,⟨c,h,c0⟩=>by
  rw[List.getLast?_cons_cons] at h;obtain⟨R,k,R0,k0,hk⟩:=rD (b::l) ⟨c,h,c0⟩;obtain⟨t,t0,ht⟩:=gy.const (R:=0) a;have ht:=ht 0 (by unfold Wi;grind)
  have tk:0<2*t/k:=by rw[Xv k0];grind
  have tkk:2*t/k*k=2*t:=⋯;refine⟨R+1+2*t/k,k/2,⋯,⋯,λx hx=>?_⟩;have b1:=(hk x ⋯).1;have m:=Xn (Xt k0) (show 0<=x-(1+2*t/k) by grind)
  have b2:=(show Bg x x from .inl ⋯).mul b1 ⋯ (Xt k0)
  have b3:Bg (k/2*x) (a+x*dE (b::l) x):=by
   unfold Bg at b2 ⊢;unfold Sm at ht;grind
  refine⟨b3.mono ?_,λ_=>b3⟩;have:=Xn (show 0<=k/2 by grind) (show 0<=x-1 by grind)
  grind
theorem vC{w v:Rat->Rat}(pw:Py w)(pv:Py v)(e:∀x,w x*v x=1):∃c:Rat,c≠0 /\ ∀x,w x=c:=by
 obtain⟨lw,hw⟩:=pw;obtain⟨lv,hv⟩:=pv;obtain⟨w',ew,kw⟩:=oF lw;obtain⟨v',ev,kv⟩:=oF lv;have nw:w'≠[]:=λz=>by
  have:=e 0;rw[hw,ew,z] at this;have this:(0:Rat)*v 0=1:=this;grind
 have nv:v'≠[]:=λz=>by
  have:=e 0;rw[hv,ev,z] at this;have this:w 0*(0:Rat)=1:=this;grind
 obtain⟨R1,c1,R10,c10,h1⟩:=rD w' (kw.resolve_left nw);obtain⟨R2,c2,R20,c20,h2⟩:=rD v' (kv.resolve_left nv);by_cases l2:2<=w'.length
 .exfalso;have cc:=Xs c10 c20;have d0:0<2/(c1*c2):=by rw[Xv cc];grind
  have dd:2/(c1*c2)*(c1*c2)=2:=⋯;obtain⟨x,hx⟩ : ∃x,x=R1+R2+2/(c1*c2):=⟨_,rfl⟩;have b1:=(h1 x ⋯).2 l2;have b2:=(h2 x ⋯).1;have x0:0<x:=⋯;have b3:=b1.mul b2 (Xt (Xs c10 x0)) (Xt c20);have e1:=e x;rw[hw,hv,ew,ev] at e1;rw[e1] at b3;have:=Xn (Xt cc) (show 0<=x-2/(c1*c2) by grind)
  unfold Bg at b3;grind
 .clear h1 kw;match w',nw,l2,ew with
  | _::_::_,_,l2,_=>exact absurd (by simp) l2
  | [a],_,_,ew =>
   have ex:∀x,w x=a:=λx=>by rw[hw,ew x];show a+x*0=a;grind
   refine⟨a,λz=>?_,ex⟩;have:=e 0;rw[ex,z] at this;grind
theorem BV{l:List (aJ×Nat)}{f g:Rat->Rat}{κ:Rat}(pf:Py f)(pg:Py g)(ok:∀q∈l,q.1.ok/\1<=q.2)(un:l.Pairwise λa b=>a.1≠b.1)(k0:0<κ)(id:∀x,κ*(g x*cA l x)=f x*gv l x)(bz:Bz f g):∃c:Rat,c≠0 /\ ∀x,f x=c*cA l x:=by
 obtain⟨u,v,pu,pv,e⟩:=bz;obtain⟨u',v',pu',pv',e'⟩:=Bw ok un;have p1:=iz l;have p2:=li l;have w1:∀x,cA l x=f x*(u x*cA l x+1/κ*(v x*gv l x)):=λx=>by
  have h1:=e x;have h2:=id x;have kk:1/κ*κ=1:=⋯;have:cA l x=(u x*f x+v x*g x)*cA l x:=by rw[h1];grind
  have h3:g x*cA l x=1/κ*(f x*gv l x):=by
   rw[<-h2];grind
  grind
 have w2:∀x,f x=cA l x*(u' x*f x+κ*(v' x*g x)):=λx=>by
  have h1:=e' x;have h2:=id x;have:f x=f x*(u' x*cA l x+v' x*gv l x):=by rw[h1];grind
  grind
 have n0:∃x,cA l x≠0:=Xw λz=>by
  have h1:=e' 0;have h2:∀x,cA l x=0:=λx=>Xw λy=>z ⟨x,y⟩;have:∀(l:List (aJ×Nat)),∃R:Rat,0<R /\ ∀x,R<=x->(∀q∈l,q.1.ok/\1<=q.2)->cA l x≠0:=by
   intro l;induction l with
   | nil=>exact⟨1,∅,λx _ _=>by show (1:Rat)≠0;decide⟩
   | cons q l ih =>
    obtain⟨R,R0,hR⟩:=ih;obtain⟨R',R1,hR'⟩ : ∃R:Rat,0<R /\ ∀x,R<=x->q.1.ok->q.1.p x≠0:=by
     cases q.1 with
     | line r =>
      obtain⟨t,t0,ht⟩:=gy.const (R:=0) r;have ht:=ht 0 (by unfold Wi;grind)
      exact⟨t+1,⋯,λx hx _=>by show x-r≠0;unfold Sm at ht;grind⟩
     | root n=>exact⟨1,∅,λx _ o=>λy=>o.2 x (by have y:x*x-n=0:=y;grind)⟩
     | none n=>exact⟨1,∅,λx _ o=>λy=>by have y:x*x+n=0:=y;have o:0<n:=o;have:=iq x;grind⟩
    refine⟨R+R',⋯,λx hx ok y=>?_⟩;have y:q.1.p x*cA l x=0:=y;rcases Rat.mul_eq_zero.mp y with z|z
    .exact hR' x ⋯ (ok q Yi).1 z
    .exact hR x ⋯ (λp hp=>ok p (Yj _ hp)) z
  obtain⟨R,R0,hR⟩:=this l;exact hR R ⋯ ok (h2 R)
 have pw:Py λx=>u x*cA l x+1/κ*(v x*gv l x):=(pu.mul p1).add ((pv.mul p2).sc _);have pw2:Py λx=>u' x*f x+κ*(v' x*g x):=(pu'.mul pf).add ((pv'.mul pg).sc _);have prod:∀x,(u' x*f x+κ*(v' x*g x))*(u x*cA l x+1/κ*(v x*gv l x))=1:=λx=>by
  have:=Py.zero (f:=λx=>(u' x*f x+κ*(v' x*g x))*(u x*cA l x+1/κ*(v x*gv l x))-1) (g:=cA l) ((pw2.mul pw).sub (.const 1)) p1 (λx=>by
   have a:=w1 x;have b:=w2 x;have:cA l x=cA l x*(u' x*f x+κ*(v' x*g x))*(u x*cA l x+1/κ*(v x*gv l x)):=by rw[<-b];exact a
   grind) n0 x
  grind
 obtain⟨c,c0,hc⟩:=vC pw2 pw prod;exact⟨c,c0,λx=>by
  have a:=w2 x;have b:=hc x;have b:u' x*f x+κ*(v' x*g x)=c:=b;rw[b] at a;grind⟩
def jL(ms ns:List Int)(rows:List (List Int×List Int×Int×Int)):List (List Int):=if ns=[] then [ms] else ms::ns::oY 1 1 rows
theorem nM.bez{F G:List Int}{rows:List (List Int×List Int×Int×Int)}(h:nM F G rows)(lF:F.length<=11)(lG:G.length<=F.length)(g0:G≠[]):∃u v,Py u/\Py v /\ ∀x,u x*aI F x+v x*aI G x=aI (dY G rows) x:=by
 induction h with
 | nought=>exact absurd rfl g0
 | @last F G Q S _ _ _ _ _=>exact⟨λ_=>0,λ_=>1,.const 0,.const 1,λx=>by show 0*aI F x+1*aI G x=aI G x;grind⟩
 | @more F G R Q T S rows _ gl s0 t0 r0 rl lr lq e hr ih =>
  obtain⟨u,v,pu,pv,hx⟩:=ih () () r0;have t0':=aq t0;refine⟨λx=>(S:Rat)/(T:Rat)*v x,λx=>u x-1/(T:Rat)*(v x*aI Q x),pv.sc _,pu.sub ((pv.mul (cE ())).sc _),λx=>?_⟩;have h1:=hx x;have h2:(S:Rat)*aI F x=aI Q x*aI G x+(T:Rat)*aI R x:=kJ (show Q.length+G.length<=20 by nofun) e x
  show _=aI (dY R rows) x;rw[<-h1];have h3:aI R x=(S:Rat)/(T:Rat)*aI F x-1/(T:Rat)*(aI Q x*aI G x):=by
   have:(T:Rat)*aI R x=(S:Rat)*aI F x-aI Q x*aI G x:=⋯;have k:1/(T:Rat)*(T:Rat)=1:=⋯;have k2:(S:Rat)/(T:Rat)=1/(T:Rat)*(S:Rat):=⋯;rw[k2];grind
  rw[h3];grind
theorem E8{M a b:Rat}(ha : -M<=a)(hb:b<=M)(ab:a<=b):dC b-dC a<=2*M*(b-a):=by
 have M0:0<=M:=⋯;unfold dC;by_cases za:a<0
 .by_cases zb:b<0
  .rw[Yb za,Yb zb];have:=Xn (show 0<=b-a by grind) (show 0<=2*M+(a+b) by grind)
   grind
  .rw[Yb za,Yc zb];have h1:=Xn (show 0<=b by grind) (show 0<=M-b by grind)
   have h2:=Xn (show 0 <= -a by grind) (show 0<=M+a by grind)
   have h3:=Xn M0 (show 0<=b-a by grind)
   grind
 .rw[Yc za,Yc (show ¬ b<0 by grind)]
  have:=Xn (show 0<=b-a by grind) (show 0<=2*M-(a+b) by grind)
  grind
theorem tX{p q:Int×Int}{B:Nat}(fp:Fq p)(fq:Fq q)(bp:Bq B p)(bq:Bq B q)(lt:wv p<wv q):1<=(wv q-wv p)*(((2^(2*B):Nat):Int):Rat):=by
 have p2:(0:Rat)<(p.2:Rat):=Rat.intCast_pos.mpr fp.1;have q2:(0:Rat)<(q.2:Rat):=Rat.intCast_pos.mpr fq.1;have ep:wv p*(p.2:Rat)=(p.1:Rat):=XH ⋯;have eq:wv q*(q.2:Rat)=(q.1:Rat):=XH ⋯;have e:(wv q-wv p)*((p.2:Rat)*(q.2:Rat))=((q.1*p.2-p.1*q.2:Int):Rat):=by
  rw[XF,Xd,Xd,<-ep,<-eq];grind
 have pq:=Xs p2 q2;have pos:0<q.1*p.2-p.1*q.2:=by
  rw[<-Rat.intCast_pos,<-e];exact Xs ⋯ pq
 have one:(1:Rat)<=(wv q-wv p)*((p.2:Rat)*(q.2:Rat)):=by
  rw[e];have:((1:Int):Rat)<=((q.1*p.2-p.1*q.2:Int):Rat):=Rat.intCast_le_intCast.mpr ();exact this
 have le:(p.2:Rat)*(q.2:Rat)<=(((2^(2*B):Nat):Int):Rat):=by
  rw[<-Xd];refine Rat.intCast_le_intCast.mpr ?_;have h1:p.2.natAbs<2^B:=bp.2;have h2:q.2.natAbs<2^B:=bq.2;have h3:p.2.natAbs*q.2.natAbs<=2^B*2^B:=Xm (Yh h1) (Yh h2);have h4:p.2*q.2=((p.2.natAbs*q.2.natAbs:Nat):Int):=by
   have a:=fp.1;have b:=fq.1;rw[show ((p.2.natAbs*q.2.natAbs:Nat):Int)=(p.2.natAbs:Int)*(q.2.natAbs:Int) by simp]
   rw[Int.natAbs_of_nonneg (),Int.natAbs_of_nonneg ()]
  rw[h4,show 2^(2*B)=2^B*2^B by rw[<-YX];congr 1;nofun]
  exact Int.ofNat_le.mpr h3
 have:=Xn (show 0<=wv q-wv p by grind) (show 0<=(((2^(2*B):Nat):Int):Rat)-(p.2:Rat)*(q.2:Rat) by grind)
 grind
theorem De{ρ y x A:Rat}(ρ0:0<ρ)(hy:2*ρ<=y)(hx:Sm y x)(A0:0<A):∀F:List Int,(∀k,k<F.length->Sm (A*du ρ (F.length-k)) ((nz F k:Int):Rat))->Sm (A*du y F.length-A*du ρ F.length) (fu F x):=by
 intro F;induction F with
 | nil =>
  intro _;show Sm (A*1-A*1) (0:Rat);unfold Sm;grind
 | cons a F ih =>
  intro h;have h0:=h 0 (by simp)
  have h0:Sm (A*du ρ (F.length+1)) (a:Rat):=h0;have i:=ih λk hk=>by
   have:=h (k+1) (by simp;nofun)
   rw[show (a::F).length-(k+1)=F.length-k by simp] at this
   exact this
  have y0:0<y:=⋯;have pρ:=ei ρ0 F.length;have m:=hx.mul i;show Sm (A*(y*du y F.length)-A*(ρ*du ρ F.length)) ((a:Rat)+x*fu F x);have h0:Sm (A*(ρ*du ρ F.length)) (a:Rat):=h0;have ap:=Xs A0 pρ;have k:=Xn (Xt ap) (show 0<=y-2*ρ by grind)
  unfold Sm at *
  grind
theorem sS{c:Int}{x:Rat}:∀F:List Int,fu (F++[c]) x=fu F x+(c:Rat)*du x F.length
 | []=>by show (c:Rat)+x*0=0+(c:Rat)*1;grind
 | a::F=>by
  show (a:Rat)+x*fu (F++[c]) x=(a:Rat)+x*fu F x+(c:Rat)*(x*du x F.length);rw[sS F];grind
theorem sP{ρ x y:Rat}{c:Int}{F:List Int}(ρ0:0<ρ)(hy:2*ρ<=y)(hx:Sm y x)(bx:Bg y x)(c0:c≠0)(h:∀k,k<F.length->Sm (((c.natAbs:Int):Rat)*du ρ (F.length-k)) ((nz F k:Int):Rat)):sg (fu (F++[c]) x)=sg ((c:Rat)*du x F.length)/\sg (fu (F++[c]) x)≠0:=by
 have y0:0<y:=⋯;have A0:(0:Rat)<((c.natAbs:Int):Rat):=Rat.intCast_pos.mpr ();have s:=De ρ0 hy hx A0 F h;have bp:∀n,Bg (du y n) (du x n):=λn=>by
  induction n with
  | zero=>exact .inl (by show (1:Rat)<=1;grind)
  | succ n ih=>exact bx.mul ih (Xt y0) (Xt (ei y0 n))
 have bc:Bg ((c.natAbs:Int):Rat) (c:Rat):=by
  rcases Int.lt_or_gt_of_ne c0 with z|z
  .right
   rw[<-XE];exact Rat.intCast_le_intCast.mpr ()
  .left
   exact Rat.intCast_le_intCast.mpr ()
 have b:=bc.mul (bp F.length) (Xt A0) (Xt (ei y0 _));have ap:=Xs A0 (ei ρ0 F.length);rw[sS];generalize (c:Rat)*du x F.length=M at b ⊢;generalize ((c.natAbs:Int):Rat)*du y F.length=E at b s;generalize ((c.natAbs:Int):Rat)*du ρ F.length=e at ap s;generalize fu F x=r at s;unfold Sm at s;unfold Bg at b;rcases b with b|b
 .rw[cR (show 0<r+M by grind),cR (show 0<M by grind)]
  exact⟨rfl,∅⟩
 .rw[eK (show r+M<0 by grind),eK (show M<0 by grind)]
  exact⟨rfl,∅⟩
theorem BZ.const{R:Rat}{f g:Rat->Rat}{A:Rat->Int}(loc:BZ R f g A) {a b:Rat}(wa:Wi R a)(wb:Wi R b)(ab:a<=b)(sa:∀x,a<=x->x<=b->sg (f x)=sg (f a)):A a=A b:=by
 obtain⟨δ,d0,h⟩:=loc;have step:∀c d,a<=c->d<=b->c<=d->d-c<=δ->A c=A d:=λc d ac db cd n=>by
  have wc:Wi R c:=by unfold Wi at *;grind
  have wd:Wi R d:=by unfold Wi at *;grind
  rcases h c d wc wd cd n with ⟨_,_,e⟩|⟨eg,_,e⟩
  .exact e
  .have ef:sg (f c)=sg (f d):=by rw[sa c ac ⋯,sa d ⋯ db]
   unfold vI at e;rw[ef,eg] at e;nofun
 have all:∀(n:Nat)(c:Rat),a<=c->c<=b->b-c<=(n:Rat)*δ->A c=A b:=by
  intro n;induction n with
  | zero =>
   intro c _ cb z;obtain rfl:c=b:=by
    have:((0:Nat):Rat)=0:=rfl;grind
   rfl
  | succ n ih =>
   intro c ac cb z;by_cases y:b-c<=δ
   .exact step c b ac ⋯ cb y
   .rw[step c (c+δ) ac ⋯ ⋯ ⋯];refine ih (c+δ) ⋯ ⋯ ?_;have:((n+1:Nat):Rat)=(n:Rat)+1:=by rw[Rat.natCast_add];rfl
    rw[this] at z;grind
 obtain⟨n,hn⟩ : ∃n:Nat,b-a<=(n:Rat)*δ:=by
  obtain⟨x,hx⟩ : ∃x,x=(b-a)/δ:=⟨_,rfl⟩;refine⟨(x.ceil).toNat,?_⟩;have h1:x<=((x.ceil:Int):Rat):=Rat.le_ceil;have h2:((x.ceil:Int):Rat)<=((x.ceil.toNat:Nat):Rat):=by
   rw[show ((x.ceil.toNat:Nat):Rat)=(((x.ceil.toNat:Nat):Int):Rat) from rfl]
   exact Rat.intCast_le_intCast.mpr (Int.self_le_toNat _)
  have h3:=Xn (Xt d0) (show 0<=((x.ceil.toNat:Nat):Rat)-x by grind)
  have h4:x*δ=b-a:=by rw[hx];grind
  grind
 exact all n a ⋯ ab hn
theorem DC.toI{R:Rat}{f g:Rat->Rat}{A:Rat->Nat}(h:DC R f g A):BZ R f g λx=>((A x:Nat):Int):=by
 obtain⟨δ,d0,h⟩:=h;refine⟨δ,d0,λc d wc wd cd n=>?_⟩;rcases h c d wc wd cd n with ⟨a,b,e⟩|⟨a,b,e⟩
 .exact .inl ⟨a,b,Yn (λn:Nat=>(n:Int)) e⟩
 .refine .inr ⟨a,b,?_⟩;show vI (f c) (g c)+((A c:Nat):Int)=vI (f d) (g d)+((A d:Nat):Int);have k:∀x,((v1 f g x:Nat):Int)=vI (f x) (g x):=λx=>by
   unfold v1 vI;split<;>rfl
  rw[<-k,<-k];nofun
theorem wK{y:Rat}:∀n,du (-y) n=(if n%2=0 then 1 else -1)*du y n
 | 0=>by show (1:Rat)=1*1;grind
 | n+1=>by
  show -y*du (-y) n=_*(y*du y n);rw[wK n];by_cases z:n%2=0
  .rw[Yb z,Yc ()];grind
  .rw[Yc z,Yb ()];grind
theorem HC{l:List (aJ×Nat)}{F h1:List Int}{c:Int}{g:Rat->Rat}{tl:List (Rat->Rat)}{κ ρ:Rat}(ch:∀R:Rat,0<=R->Ch R (aI (F++[c])) (g::tl))(lg:∀R:Rat,0<=R->vP R g)(ok:∀q∈l,q.1.ok/\1<=q.2)(un:l.Pairwise λa b=>a.1≠b.1)(k0:0<κ)(id:∀x,κ*(g x*cA l x)=aI (F++[c]) x*gv l x)(lF:(F++[c]).length<=20)(ρ0:0<ρ)(c0:c≠0)(h:∀k,k<F.length->Sm (((c.natAbs:Int):Rat)*du ρ (F.length-k)) ((nz F k:Int):Rat)):fk l (2*ρ)=ux l/\fk l (-(2*ρ))=0:=by
 obtain⟨R2,p2,f2⟩:=si l ok;obtain⟨R,hR⟩ : ∃R,R=R2+2*ρ:=⟨_,rfl⟩;have R0:0<=R:=⋯;have nr:=(xH R0 ok un (ch R R0).lip (lg R R0) ((ch R R0).notBoth g tl rfl) k0 id).toI;obtain⟨o1,o2⟩:=f2 R ⋯;have up:∀x,2*ρ<=x->sg (aI (F++[c]) x)=sg (c:Rat):=λx hx=>by
  rw[iS lF,(sP ρ0 hx (by unfold Sm;grind) (.inl ⋯) c0 h).1,hU,cR (ei (show 0<x by grind) F.length),Yp]
 have dn:∀x,x <= -(2*ρ)->sg (aI (F++[c]) x)=sg (c:Rat)*sg (if F.length%2=0 then 1 else -1:Rat):=λx hx=>by
  rw[iS lF,(sP (y:=-x) ρ0 ⋯ (by unfold Sm;grind) (.inr ⋯) c0 h).1,hU,show du x F.length=du (- -x) F.length by rw[show - -x=x by grind],wK,hU,cR (ei (show 0 < -x by grind) F.length),Yp]
 have a1:=nr.const (a:=2*ρ) (b:=R) (by unfold Wi;grind) (by unfold Wi;grind) ⋯ λx h1 _=>by rw[up x h1,up (2*ρ) ⋯]
 have a2:=nr.const (a:=-R) (b:=-(2*ρ)) (by unfold Wi;grind) (by unfold Wi;grind) ⋯ λx _ h1=>by rw[dn x h1,dn (-R) ⋯]
 have a1:((fk l (2*ρ):Nat):Int)=((fk l R:Nat):Int):=a1;have a2:((fk l (-R):Nat):Int)=((fk l (-(2*ρ)):Nat):Int):=a2;rw[o1] at a1;rw[o2] at a2;nofun
theorem tF(E:Nat):∀k,du ((((2^E:Nat):Int):Rat)/2) k*(((2^k:Nat):Int):Rat)=(((2^(E*k):Nat):Int):Rat)
 | 0=>by show (1:Rat)*((1:Int):Rat)=((1:Int):Rat);have:((1:Int):Rat)=1:=rfl;rw[this];grind
 | k+1=>by
  have ih:=tF E k;have e1:(((2^(k+1):Nat):Int):Rat)=2*(((2^k:Nat):Int):Rat):=by
   rw[show (2:Rat)=((2:Int):Rat) from rfl,<-Xd]
   congr 1
   rw[YY];nofun
  have e2:(((2^(E*(k+1)):Nat):Int):Rat)=(((2^E:Nat):Int):Rat)*(((2^(E*k):Nat):Int):Rat):=by
   rw[<-Xd];congr 1
   rw[Nat.mul_succ,YX,YJ];rfl
  show (((2^E:Nat):Int):Rat)/2*du _ k*_=_;rw[e1,e2,<-ih];grind
theorem vJ{w c:Int}{b B k E:Nat}(hw:w.natAbs<2^b)(hc:2^(B-1)<=c.natAbs)(B1:1<=B)(k1:1<=k)(hE:1-((B:Int)-(b:Int)-1).fdiv (k:Int)<=(E:Int)):Sm (((c.natAbs:Int):Rat)*du ((((2^E:Nat):Int):Rat)/2) k) (w:Rat):=by
 have q1:((B:Int)-(b:Int)-1).fdiv (k:Int)*(k:Int)<=(B:Int)-(b:Int)-1:=by
  rw[Int.fdiv_eq_ediv_of_nonneg _ ()];exact Int.ediv_mul_le _ ()
 have q2:((E*k:Nat):Int) >= (k:Int)-((B:Int)-(b:Int)-1):=by
  have m:=Int.mul_le_mul_of_nonneg_right hE (show (0:Int)<=(k:Int) by nofun)
  rw[Int.sub_mul,Xk] at m;rw[show ((E*k:Nat):Int)=(E:Int)*(k:Int) by simp]
  nofun
 have q3:b+k<=(B-1)+E*k:=();have h1:w.natAbs*2^k<=c.natAbs*2^(E*k):=by
  refine Yg (XD _ (Yh hw)) (Yg ?_ (XD _ hc));rw[<-YX,<-YX];exact YV ∅ q3
 have p:=tF E k;have t0:(0:Rat)<(((2^k:Nat):Int):Rat):=Rat.intCast_pos.mpr (by have:=Nat.two_pow_pos k;nofun)
 have h2:((w.natAbs:Int):Rat)*(((2^k:Nat):Int):Rat)<=((c.natAbs:Int):Rat)*(((2^(E*k):Nat):Int):Rat):=by
  rw[<-Xd,<-Xd];refine Rat.intCast_le_intCast.mpr ?_;rw[<-XG,<-XG];exact Int.ofNat_le.mpr h1
 rw[<-p] at h2;have h3:((w.natAbs:Int):Rat)<=((c.natAbs:Int):Rat)*du ((((2^E:Nat):Int):Rat)/2) k:=by
  refine Rat.not_lt.mp λz=>?_;have:=Xs (show 0<((w.natAbs:Int):Rat)-((c.natAbs:Int):Rat)*du ((((2^E:Nat):Int):Rat)/2) k by grind) t0
  grind
 have h4:(w:Rat)<=((w.natAbs:Int):Rat):=Rat.intCast_le_intCast.mpr ();have h5 : -((w.natAbs:Int):Rat)<=(w:Rat):=by
  rw[<-XE];exact Rat.intCast_le_intCast.mpr ()
 unfold Sm;grind
theorem Hh{α:Type}{l:List α}(nd:l.Nodup)(h:∀x∈l,∀y∈l,x=y):l.length<=1:=by
 match l,nd,h with
 | [],_,_=>simp
 | [_],_,_=>simp
 | a::b::l,nd,h =>
  obtain⟨n,_⟩:=List.nodup_cons.mp nd;exact absurd (by rw[h a (by simp) b (by simp)];simp) n
theorem AB{ms:List Rat}{M a b:Rat}{B:Nat}(nd:ms.Nodup)(hm:∀m∈ms,∃q:Int×Int,m=wv q/\Fq q/\Bq B q)(ha : -M<=a)(hb:b<=M)(ab:a<=b)(sm:2*M*(b-a)*(((2^(2*B):Nat):Int):Rat)<=1):(ms.filter (qT (some a) (some b))).length<=1:=by
 refine Hh (nd.filter _) λx hx y hy=>?_;have key:∀x y:Rat,x∈ms.filter (qT (some a) (some b))->y∈ms.filter (qT (some a) (some b)) -> ¬ x<y:=λx y hx hy lt=>by
  obtain⟨hx1,hx2⟩:=List.mem_filter.mp hx;obtain⟨hy1,hy2⟩:=List.mem_filter.mp hy;simp only[qT,YZ,decide_eq_true_eq,Bool.not_eq_true',decide_eq_false_iff_not] at hx2 hy2;obtain⟨p,rfl,fp,bp⟩:=hm x hx1;obtain⟨q,rfl,fq,bq⟩:=hm y hy1;have h1:=tX fp fq bp bq lt;have h2:=E8 ha hb ab;have t0:(0:Rat)<(((2^(2*B):Nat):Int):Rat):=Rat.intCast_pos.mpr (by have:=Nat.two_pow_pos (2*B);nofun)
  have h3:=Xs (show 0<2*M*(b-a)-(wv q-wv p) by grind) t0
  grind
 have a1:=key x y hx hy;have a2:=key y x hy hx;grind
section
variable {κ:Type} [DecidableEq κ]
def nK(kvs:List (κ×V))(k:κ):Option V:=(kvs.find? λkv=>decide (kv.1=k)).map (·.2)
def tV(kvs:List (κ×V))(k:κ)(v:V):List (κ×V) :=
 if (kvs.any λkv=>decide (kv.1=k))=true then kvs.map (λkv=>if kv.1=k then (kv.1,v) else kv) else kvs++[(k,v)]
theorem tY{p:κ×V}{r:List (κ×V)}{k:κ}(e:p.1=k):nK (p::r) k=some p.2:=by simp[nK,List.find?_cons,e]
theorem tS{p:κ×V}{r:List (κ×V)}{k:κ}(e:¬ p.1=k):nK (p::r) k=nK r k:=by simp[nK,List.find?_cons,e]
theorem uk(kvs:List (κ×V))(k:κ)(v:V):(tV kvs k v).length<=kvs.length+1:=by
 unfold tV;split
 .rw[YD];nofun
 .rw[YC,Y6,List.length_nil];nofun
theorem KV.val{kvs:List (κ×V)}{vs:List (κ×Value)}(r:KV kvs vs)(k:κ):qR (nK kvs k) (valueAt vs k):=by
 unfold KV at r;induction r with
 | nil=>exact True.intro
 | @cons p q ps qs h t ih =>
  obtain⟨h1,h2⟩:=h;by_cases e:p.1=k
  .have e':q.1=k:=h1.symm.trans e;have b:valueAt (q::qs) k=some q.2:=by simp[valueAt,List.find?_cons,e']
   rw[tY e,b];exact h2
  .have e':¬ q.1=k:=λz=>e (h1.trans z);have b:valueAt (q::qs) k=valueAt qs k:=by simp[valueAt,List.find?_cons,e']
   rw[tS e,b];exact ih
theorem KV.any{kvs:List (κ×V)}{vs:List (κ×Value)}(r:KV kvs vs)(k:κ):(kvs.any λkv=>decide (kv.1=k))=vs.any λkv=>decide (kv.1=k):=by
 unfold KV at r;induction r with
 | nil=>rfl
 | cons h t ih=>rw[List.any_cons,List.any_cons,ih,h.1]
theorem KV.repl{kvs:List (κ×V)}{vs:List (κ×Value)}(r:KV kvs vs)(k:κ) {y:V}{u:Value}(ry:aY y u) :
  KV (kvs.map λkv=>if kv.1=k then (kv.1,y) else kv) (vs.map λkv=>if kv.1=k then (kv.1,u) else kv):=by
 unfold KV at r ⊢;induction r with
 | nil=>exact .nil
 | @cons p q ps qs h t ih =>
  rw[YG,YG];refine .cons ?_ ih;obtain⟨h1,h2⟩:=h;by_cases e:p.1=k
  .rw[Yb e,Yb (h1.symm.trans e)];exact⟨h1,ry⟩
  .rw[Yc e,Yc (λz=>e (h1.trans z))];exact⟨h1,h2⟩
theorem KV.put{kvs:List (κ×V)}{vs:List (κ×Value)}(r:KV kvs vs)(k:κ) {y:V}{u:Value}(ry:aY y u):KV (tV kvs k y) (stored vs k u):=by
 unfold tV stored;rw[r.any k];by_cases e:(vs.any λkv=>decide (kv.1=k))=true
 .rw[Yb e,Yb e];exact r.repl k ry
 .rw[Yc e,Yc e];exact Paired.snoc r ⟨rfl,ry⟩
end
theorem A3{P:Program}{w:World}{k:gw}{u:Value}(r:aY (kV k) u):(cK P w).is k u=true:=by
 cases k with
 | inl i=>obtain⟨t,e⟩:=(show ∃t,u=Value.int i t from r);subst e;exact tR P w i t
 | inr x=>obtain⟨t,e⟩:=(show ∃t,u=Value.str x t from r);subst e;exact sC P w x t
theorem pZ{P:Program}{w:World}:∀{ks:List gw}{us:List Value},aN (ks.map kV) us->ItemsAre (cK P w) ks us
 | [],_,r=>by rw[YF] at r;cases r;exact .nil
 | k::ks,_,r=>by
  rw[YG] at r;cases r with
  | cons h t=>exact .cons (A3 h) (pZ t)
abbrev KT (H:Hp):List (List gw×V)->List (List gw×Addr×Value)->Prop:=Paired λp q=>p.1=q.1/\H q.2.1=some (.tup (p.1.map kV))/\aY p.2 q.2.2
theorem KT.val{H:Hp}{kvs:List (List gw×V)}{xs:List (List gw×Addr×Value)}(r:KT H kvs xs)(k:List gw):qR (nK kvs k) ((atKey xs k).map (·.2)):=by
 induction r with
 | nil=>exact True.intro
 | @cons p q ps qs h t ih =>
  obtain⟨h1,_,h2⟩:=h;by_cases e:p.1=k
  .have e':q.1=k:=h1.symm.trans e;have b:atKey (q::qs) k=some q.2:=by simp[atKey,List.find?_cons,e']
   rw[tY e,b];exact h2
  .have e':¬ q.1=k:=λz=>e (h1.trans z);have b:atKey (q::qs) k=atKey qs k:=by simp[atKey,List.find?_cons,e']
   rw[tS e,b];exact ih
section
variable {P:Program}{w:World}{H:Hp}{h:Heap}{a:Addr}
theorem FT{u:HO}(ok:iW P w H h)(e:Rd H a u):bV P w H h a u:=e.ok ok
theorem zW{kvs:List (gw×V)}(ok:iW P w H h)(e:Rd H a (.dK kvs)):kvs.length<=sizeLine/\(a==sysModules)=false /\ ∃vs,KV kvs vs/\h.DictOf (cK P w) a vs :=
 show bV P w H h a (.dK kvs) from FT ok e
theorem Jp{kvs:List (gw×V)}(ok:iW P w H h)(e:H a=some (.dK kvs)):kvs.length<=sizeLine/\(a==sysModules)=false /\ ∃vs,KV kvs vs/\h.DictOf (cK P w) a vs:=zW ok (.inl e)
theorem AK{ks:List gw}(ok:iW P w H h)(e:H a=some (.tup (ks.map kV))):(tupleKind (cK P w)).is h ks a:=by
 obtain⟨_,its,r,o,h1,h2,n,h3⟩:=(show bV P w H h a (.tup (ks.map kV)) from ok a _ e)
 exact⟨o,its.toArray,n,h1,h2,h3,by simpa using pZ r⟩
theorem FZ{kvs:List (List gw×V)}(ok:iW P w H h)(e:Rd H a (.dT kvs)):kvs.length<=sizeLine/\(a==sysModules)=false /\
  ∃xs,KT H kvs xs/\h.DictOfH (tupleKind (cK P w)) a xs:=by
 obtain⟨z,y,xs,r,o,es,ep,h1,h2,h3,h4,h5⟩:=(show bV P w H h a (.dT kvs) from FT ok e)
 refine⟨z,y,xs,r,o,es,ep,h1,h2,h3,h4,λx hx=>?_,h5⟩;have all:∀{l:List (List gw×V)}{m:List (List gw×Addr×Value)},KT H l m -> ∀x∈m,(tupleKind (cK P w)).is h x.1 x.2.1:=by
  intro l m q;induction q with
  | nil=>intro x hx;exact nomatch hx
  | @cons p q ps qs hq t ih =>
   intro x hx;rcases Y2.mp hx with e|hx
   .subst e;exact AK ok (by rw[<-hq.1];exact hq.2.1)
   .exact ih x hx
 exact all r x hx
end
def Iu(H:Hp)(a:Addr)(y:V)(r:Option V):Prop :=
 (∃kvs k,Rd H a (.dK kvs)/\y=kV k/\r=nK kvs k) \/ ∃kvs k b,Rd H a (.dT kvs)/\y=.ref b/\H b=some (.tup (k.map kV))/\r=nK kvs k
section
variable {X:Cx}{pins:List (Addr×Obj)}{σ:St}{H:Hp}{s:Shared}{a:Addr}{y v:V}{u r:Value}{o:Option V}{A:Around}{E:Value->Shared->Prop}
theorem yV{Q:Value->Shared->Prop}(hu:A.units+1<cLine)(I:ay X pins σ H s)(g:Iu H a y (some v))(ry:aY y u)(h:∀w' s',ay X pins σ H s'->aY v w'->Q w' s') :
  wpAny (model X.prog X.w) A (getItem (.ref a) u) Q E s:=by
 rcases g with ⟨kvs,k,e,ey,l⟩|⟨kvs,k,b,e,ey,eb,l⟩
 .subst ey;obtain⟨z,hd,vs,rel,dd⟩:=zW I.hok e;obtain⟨w',hw,rw'⟩:=qR.some_of (v:=v) (o:=valueAt vs k) (by rw[l];exact rel.val k)
  exact wpAny_getItem_of (A3 ry) dd.mapOf hw (h w' _ (I.tok _) rw')
 .subst ey;cases (show u=Value.ref b from ry)
  obtain⟨z,hd,xs,rel,dd⟩:=FZ I.hok e;obtain⟨w',hw,rw'⟩:=qR.some_of (v:=v) (o:=(atKey xs k).map (·.2)) (by rw[l];exact rel.val k)
  obtain⟨p,hp,hp2⟩:=Option.map_eq_some_iff.mp hw;refine wpAny_getItem_heap (tupleKind_room_in1 hu) (AK I.hok eb) dd hp ?_;rw[hp2];exact h w' _ (I.tok _) rw'
theorem Dj{h':Heap}{t':Nat}{ob:HO}(I:ay X pins σ H s)(mu:Jr (H a))(hs:Heap.SameBut a s.heap h')(he:∃q,h'.get? a=some q)(new:bV X.prog X.w (upd H a ob) h' a ob) :
  ay X pins σ (upd H a ob) { s with heap:=h',toks:=t' } :=
 I.write (x:=a) (e:=a) mu (.inl rfl) (λb q hb z=>(hs.2 b hb).trans z) he new
theorem Gx{P:Program}{w:World}{H':Hp}{h':Heap}{kvs:List (gw×V)}{vs:List (gw×Value)}(z:kvs.length<=sizeLine)(hd:(a==sysModules)=false)(rel:KV kvs vs)(dd:h'.DictOf (cK P w) a vs) :
  bV P w H' h' a (.dK kvs):=⟨z,hd,vs,rel,dd⟩
end
def Jq(i:Expr):Prop:=∀ov iv,subscripted i false ov iv=operate [ov,iv] (getItem ov iv)
theorem E4{prog:Program}{w:World}{A:Around}{E:Value->Shared->Prop}{s:Shared}{env:Env}{value slice:Expr}{pos:Pos}{T id:String}{Q:Value->Shared->Prop}
  (hl:typeLookup (.type T) "__getitem__" = pure (some (.builtin id))) (hs:Jq slice)
  (h:wpAny (model prog w) A (eval value env) (λo s₁=>wpAny (model prog w) A (eval slice env) (λi s₂=>s₂.TypeIs o T/\wpAny (model prog w) A (getItem o i) Q E s₂) E s₁) E s) :
  wpAny (model prog w) A (eval (.Subscript value slice pos) env) Q E s:=by
 refine Subscript_ (wpAny_mono h (λo s₁ h₁=>wpAny_mono h₁ (λi s₂ h₂=>?_) λ_ _ x=>x) λ_ _ x=>x);obtain⟨hT,h₂⟩:=h₂;unfold subscriptTail;refine wpAny_bind ?_;rw[getitemInPython_of_ne hT.not_modules];refine wpAny_bind (wpAny_specialOf hT hl ?_);have fin:wpAny (model prog w) A (subscripted slice false o i) (λr s₃=>wpAny (model prog w) A (letTemporaryGo value o r >>= λ_=>pure r) Q E s₃) E s₂:=by
  rw[hs o i];exact wpAny_operating (wpAny_mono h₂ (λr s₃ h₃=>wpAny_bind (wpAny_letTemporaryGo (wpAny_pure h₃))) λ_ _ x=>x)
 first
  | exact wpAny_pure (wpAny_bind fin)
  | exact wpAny_bind (wpAny_pure (wpAny_bind fin))
  | exact wpAny_bind fin
theorem tT{X:Cx}{pins:List (Addr×Obj)}{σ:St}{H:Hp}{s:Shared}{a:Addr}{y:V}{o:Option V}(I:ay X pins σ H s)(g:Iu H a y o):s.TypeIs (.ref a) "dict":=by
 rcases g with ⟨kvs,k,e,_,_⟩|⟨kvs,k,b,e,_,_,_⟩
 .obtain⟨_,_,vs,_,dd⟩:=zW I.hok e;exact dd.typeIs
 .obtain⟨_,_,xs,_,dd⟩:=FZ I.hok e;exact dd.typeIs
def qB:List (TE×TE)->St->Hp->(List (V×V)->Hp->Prop)->Prop
 | [],_,H,Q=>Q [] H
 | (tk,tv)::r,σ,H,Q=>tk σ H λx H1=>tv σ H1 λy H2=>qB r σ H2 λps H3=>Q ((x,y)::ps) H3
abbrev VV:List (V×V)->List (Value×Value)->Prop:=Paired λp q=>aY p.1 q.1/\aY p.2 q.2
def Ku(X:Cx)(pos:Pos)(keys:List (Option Expr))(values:List Expr)(jU:List (TE×TE)):Prop :=
 ∀(pins:List (Addr×Obj))(s:Shared)(σ:St)(H:Hp)(Q:List (V×V)->Hp->Prop),ay X pins σ H s->qB jU σ H Q ->
  wpAny (model X.prog X.w) X.A (evalPairs (pairTrees keys values X.env pos)) (λvs s'=>∃ps H',ay X pins σ H' s'/\VV ps vs/\Q ps H') X.xe s
theorem Fi{X:Cx}{pos:Pos}:Ku X pos [] [] []:=λpins s σ H Q I h=>pairTrees_nil_walk ⟨[],H,I,.nil,h⟩
theorem Ce{X:Cx}{pos:Pos}{k v:Expr}{ks:List (Option Expr)}{vs:List Expr}{tk tv:TE}{jU:List (TE×TE)}(hk:PE X k tk)(hv:PE X v tv)(hr:Ku X pos ks vs jU) :
  Ku X pos (some k::ks) (v::vs) ((tk,tv)::jU):=λpins s σ H Q I h =>
 pairTrees_cons_walk (cw (hk pins s σ H _ I h) λu s1 ⟨x,H1,I1,rx,q1⟩=>cw (hv pins s1 σ H1 _ I1 q1) λw2 s2 ⟨y,H2,I2,ry,q2⟩ =>
  cw (hr pins s2 σ H2 _ I2 q2) λws s3 ⟨ps,H3,I3,rel,q3⟩=>⟨(x,y)::ps,H3,I3,.cons ⟨rx,ry⟩ rel,q3⟩)
def kB(kvs more:List (gw×V)):List (gw×V):=more.foldl (λacc kv=>tV acc kv.1 kv.2) kvs
theorem KV.merge:∀{more:List (gw×V)}{rs:List (gw×Value)}{kvs:List (gw×V)}{vs:List (gw×Value)},KV more rs->KV kvs vs->KV (kB kvs more) (merged vs rs):=by
 intro more rs kvs vs r;unfold KV at r;induction r generalizing kvs vs with
 | nil=>intro q;exact q
 | @cons p q ps qs h t ih =>
  intro r0;have e:KV (tV kvs p.1 p.2) (stored vs q.1 q.2):=by
   have:=r0.put p.1 h.2;rw[<-h.1];exact this
  exact ih e
theorem jj:∀(more kvs:List (gw×V)),(kB kvs more).length<=kvs.length+more.length
 | [],kvs=>by show kvs.length<=kvs.length+0;nofun
 | p::r,kvs=>by
  have h1:=jj r (tV kvs p.1 p.2);have h2:=uk kvs p.1 p.2;show (kB (tV kvs p.1 p.2) r).length<=_;rw[Y6];nofun
theorem mZ{P:Program}{w:World}:∀{kvs:List (gw×V)}{ws:List (Value×Value)},VV (kvs.map λkv=>(kV kv.1,kv.2)) ws -> ∃rs,Carries (cK P w) ws rs/\KV kvs rs
 | [],_,r=>by rw[YF] at r;cases r;exact⟨[],True.intro,.nil⟩
 | p::kvs,_,r=>by
  rw[YG] at r;cases r with
  | @cons a b as bs h t =>
   obtain⟨rs,c,q⟩:=mZ (P:=P) (w:=w) t;obtain⟨b1,b2⟩:=b;exact⟨(p.1,b2)::rs,⟨A3 h.1,rfl,c⟩,.cons ⟨rfl,h.2⟩ q⟩
section
variable {X:Cx}
def CB(K:W.Frag)(jU:List (TE×TE)):TE:=λσ H Q=>∀p H1,vw K H p=none->ax (vw K H) (vw K H1)->vw K H1 p=some (.dK [])->qB jU σ H1 λps H2=>vw K H2 p=some (.dK []) /\ ∃kvs:List (gw×V),ps=kvs.map (λkv=>(kV kv.1,kv.2))/\kvs.length<=15 /\
 ∀H3,gd p (vw K H2) (vw K H3)->vw K H3 p=some (.dK (kB [] kvs))->Q (.ref p) H3
structure KG (X:Cx)(pos:Pos)(keys:List (Option Expr))(values:List Expr)(jU:List (TE×TE)):Prop where
 h:Ku X pos keys values jU
theorem EL{pos:Pos}:KG X pos [] [] []:=⟨Fi⟩
theorem mV{pos:Pos}{k v:Expr}{ks:List (Option Expr)}{vs:List Expr}{tk tv:TE}{jU:List (TE×TE)}(hk:QE X k tk)(hv:QE X v tv)(hr:KG X pos ks vs jU):KG X pos (some k::ks) (v::vs) ((tk,tv)::jU):=⟨Ce hk.h hv.h hr.h⟩
theorem Ek{pos:Pos}{keys:List (Option Expr)}{values:List Expr}{jU:List (TE×TE)}(h:KG X pos keys values jU)(hall:keys.all (·.isSome)=true)(hl:keys.length=values.length)(h0:keys≠[])
  (h15:keys.length<=15):QE X (.Dict keys values pos) (CB X.K jU):=⟨by
 intro pins s σ H Q I q;have hn:=I.hok.fresh (Yq s.heap.objs.size);have hk:=I.newK (Yq s.heap.objs.size);have I1:=I.laid (a:=s.heap.objs.size) (o:=.dK []) (h':=s.heap.push { cls:=.type "dict",data:=.dict #[] }) (t':=s.toks) (λ_ _ q=>Heap.get?_push_of_some _ q) (Yq _) (Ap s.heap I.big);have q1:=q _ _ (by rw[cj hk];exact hn) (iV (ax.upd (o:=.dK []) hn)) (by rw[cj hk];exact aV)
 refine wpAny_Dict_walk (knd:=cK X.prog X.w) hall hl h0 h15 (cw (h.h pins _ σ _ _ I1 q1) λws s2 ⟨ps,H2,I2,rel,e,kvs,ep,lk,q2⟩=>?_);subst ep;have e':H2 s.heap.objs.size=some (.dK []):=(cj hk).symm.trans e;obtain⟨rs,c,rk⟩:=mZ (P:=X.prog) (w:=X.w) rel;obtain⟨z,hd,vs0,r0,dd⟩:=Jp I2.hok e';cases r0;refine⟨rs,c,dd,λh' dd' hs=>⟨.ref s.heap.objs.size,_,?_,rfl,q2 _ (rG gd.upd) (by rw[cj hk];exact aV)⟩⟩
 have hz:(kB [] kvs).length<=sizeLine:=by
  have h1:=jj kvs [];rw[List.length_nil] at h1;rw[sizeLine_eq];nofun
 have he:∃q,h'.get? s.heap.objs.size=some q:=let ⟨q,_,_,hq,_⟩:=dd';⟨q,hq⟩;exact Dj I2 (by rw[e'];exact True.intro) hs he (Gx hz hd (rk.merge .nil) dd')⟩
def Ah(K:W.Frag)(td ty:TE):TE:=λσ H Q=>td σ H λx H1=>ty σ H1 λy H2=>∃a,x=.ref a /\ ∃kvs k,vw K H2 a=some (.dK kvs)/\y=kV k /\ ∃v,nK kvs k=some v/\Q v H2
theorem Ei{o i:Expr}{pos:Pos}{td ty:TE}(hu:X.A.units+64<cLine)(ho:QE X o td)(hi:QE X i ty)(hs:Jq i):QE X (.Subscript o i pos) (Ah X.K td ty):=⟨by
 intro pins s σ H Q I h;refine E4 PySem.F.slot_dict_getitem.lookup hs (cw (ho.h pins s σ H _ I h) λu s1 ⟨x,H1,I1,rx,q1⟩=>cw (hi.h pins s1 σ H1 _ I1 q1) λiv s2 ⟨y,H2,I2,ry,a,ex,kvs,k,ha,ey,v,hv,q2⟩=>?_);subst ex;obtain rfl:u=Value.ref a:=rx;have g:Iu H2 a y (some v):=.inl ⟨kvs,k,.inl (gh ha λ_ z=>by cases z),ey,hv.symm⟩
 exact⟨tT I2 g,yV () I2 g ry λw' s3 I3 rw'=>⟨v,H2,I3,rw',q2⟩⟩⟩
end
end L2
namespace L2
open PySem PySem.Spec PyProof.Rows PySem.W PySem.Calls
theorem yG{X:Cx}(hu:X.A.units+64<cLine):fi X (compareOp .NotIn) (JE X.K true):=by
 intro pins s σ H x y v u Q I rx ry h;obtain⟨d,ds,h1,h2,c1,c2,q⟩:=h;obtain⟨as,r1⟩:=aO.reads I d x v h1 rx c1.1;obtain⟨bs,r2⟩:=aO.reads I (.lst ds) y u h2 ry c2.1;unfold D.py at r2;have e1:=c2.1;have e2:=c2.2;unfold D.py at e1 e2;refine SeqAt.notIn_list_reads r2 r1 (by unfold PyData.canLay0 at e1;exact e1) c1.1 (by have:=c1.2;nofun) ⟨.bl _,H,I,rfl,?_⟩
 rw[wX];exact q
def J8(xs:List V)(k:Nat)(y:V):List V:=xs.take k++y::xs.drop k
def FE(K:W.Frag):V->List V->Hp->VK->Prop:=λx vs H Q=>∃l k y,x=.ref l/\vs=[.int k,y] /\ ∃xs,vw K H l=some (.lst xs)/\xs.length<sizeLine/\0<=k/\k.toNat<=xs.length/\DD K H l (.lst (J8 xs k.toNat y)) (Q .non)
theorem pS:∀{ys:List V}{acc:List Value},aN ys acc -> ∀k:Nat,aN (ys.take k) (acc.take k)
 | _,_,.nil,k=>by simp;exact .nil
 | _,_,.cons _ _,0=>.nil
 | _,_,.cons r t,k+1=>.cons r (pS t k)
theorem pi:∀{ys:List V}{acc:List Value},aN ys acc -> ∀k:Nat,aN (ys.drop k) (acc.drop k)
 | _,_,.nil,k=>by simp;exact .nil
 | _,_,.cons r t,0=>.cons r t
 | _,_,.cons _ t,k+1=>pi t k
theorem uK{X:Cx}:JQ X "list.insert" (FE X.K):=by
 intro pins s σ H x vs v us Q I rx rv h;obtain⟨l,k,y,rfl,rfl,xs,h1,hz,k0,k1,q⟩:=h;have e':H l=some (.lst xs):=gh h1 λ_ z=>by cases z
 cases rx;cases rv with
 | cons r rr =>
  cases rr with
  | @cons _ u _ _ ru rr' =>
   cases rr';obtain⟨t,rfl⟩:=r;obtain⟨z,its,n,rr,hl,e⟩:=I.lstM e';have sl:xs.length<2^62:=Yd hz ∅;refine call_meets F.slot_list_insert ⟨_,e,rfl⟩ F.entry_list_insert (F.args_list_insert_3 _ _ _) (PySem.AutoSeq1.list_insert_list_int_val_1 l its.toArray n k t u ?_ (by rw[Yt];nofun)) ⟨e,?_⟩
   .have a1:decide (-(2^63:Int)<=k)=true:=YK ();have a2:decide (k<(2^63:Int))=true:=YK ();simp[Builtin.List.listFitsIndex];nofun
   .refine⟨.non,_,I.lset (its':=its.take k.toNat++u::its.drop k.toNat) e' e ?_ (aN.append (pS rr k.toNat) (.cons ru (pi rr k.toNat))) ?_,rfl,q.ok (I.noK e')⟩
    .show (its.toArray.extract 0 (if k<0 then (k+(its.toArray.size:Int)).toNat else min k.toNat its.toArray.size)).push u++its.toArray.extract (if k<0 then (k+(its.toArray.size:Int)).toNat else min k.toNat its.toArray.size)=_
     rw[Yc (),Nat.min_eq_left (by rw[Yt];nofun)]
     exact kl_ins_eq its k.toNat u
    .rw[YC,Y6,Yw,List.length_drop];nofun
end L2
namespace L2
open PySem PySem.Spec PyProof.Rows
section
variable {X:Cx}
theorem DY:fi X (binaryOp .LShift) (rI (λi j=>0<=j/\(Builtin.Int.intBits i:Int)+j<=2^27) λi j=>.int (i*2^j.toNat)):=JB λ_ _ _ _ _ _ _ hc q=>lshift_int hc.1 hc.2 q
def Jz:V->List V->Hp->VK->Prop:=λx vs H Q=>∃i,x=.int i/\vs=[]/\Q (.int ((Builtin.Int.intBits i:Nat):Int)) H
theorem jn:JK X "int.bit_length" Jz:=by
 intro pins s σ H x vs v us Q I rx rv h;obtain⟨i,rfl,rfl,q⟩:=h;obtain⟨t,rfl⟩:=rx;cases rv;exact call_int_bit_length ⟨.int _,H,I.tok _,⟨_,rfl⟩,q⟩
end
theorem D5(w:Int):w.natAbs<2^Builtin.Int.intBits w:=by
 unfold Builtin.Int.intBits;by_cases z:w=0
 .subst z;decide
 .rw[Yc (by simpa using z)]
  exact Nat.lt_log2_self
theorem mF{w:Int}(z:w≠0):1<=Builtin.Int.intBits w/\2^(Builtin.Int.intBits w-1)<=w.natAbs:=by
 unfold Builtin.Int.intBits;rw[Yc (by simpa using z)]
 exact⟨(),Nat.log2_self_le ()⟩
theorem D4{w:Int}{n:Nat}(h:Bt n w):Builtin.Int.intBits w<=n:=by
 by_cases z:w=0
 .subst z;exact YL _
 .have:=mF z;have h:w.natAbs<2^n:=h;have h3:2^(Builtin.Int.intBits w-1)<2^n:=Nat.lt_of_le_of_lt this.2 h;have:=(Nat.pow_lt_pow_iff_right (by decide:1<2)).mp h3
  nofun
def p2(E:Nat):Rat:=(((2^E:Nat):Int):Rat)
theorem zV(E:Nat):0<p2 E:=Rat.intCast_pos.mpr (by have:=Nat.two_pow_pos E;nofun)
def Lr(W:List Int)(E:Nat):Prop:=∀k,k<W.length-1->Sm ((((nz W (W.length-1)).natAbs:Int):Rat)*du (p2 E/2) (W.length-1-k)) ((nz W k:Int):Rat)
structure LF where
 lo:Int
 hi:Int
 bo:Int
 ls:List Int
 us:List Int
def Jj:List Int->Int
 | []=>0
 | [x]=>x
 | x::y::_=>if x≠0 then x else y
structure Ly (hs:List (List Int))(A:Rat->Nat)(Sg:Int->Rat->Prop)(T B:Nat):Prop where
 far:chg 0 (hs.map (eH (-1)))=chg 0 (hs.map (eH 1))+T
 mid:∀x,chg 0 (hs.map (eH (-1)))=chg 0 (vF x (hs.map aI))+A x
 bd:∀E h0 tl,hs=h0::tl->Lr h0 E->A (p2 E)=T/\A (-(p2 E))=0/\Sg (Jj (hs.map (eH (-1)))) (-(p2 E))
 fine:∀M a b,-M<=a->b<=M->a<=b->2*M*(b-a)*p2 (2*B)<=1->A b<=A a+1
 mono:∀a b,a<=b->A a<=A b
 two:T=0\/2<=hs.length
 at_:∀x,Sg (Jj (vF x (hs.map aI))) x
theorem GU{l:List (aJ×Nat)}(ok:∀q∈l,q.1.ok/\1<=q.2)(h:cF l=0):l=[]:=by
 cases l with
 | nil=>rfl
 | cons q l =>
  have h1:cF (q::l)=q.2*q.1.deg+cF l:=rfl;have h2:=(ok q Yi).2;have h3:1<=q.1.deg:=by cases q.1<;>simp[aJ.deg]
  have:=Xm h2 h3;nofun
theorem yW{h:List Int}(h0:h≠[]):∃(F:List Int)(c:Int),h=F++[c]/\c=nz h (h.length-1)/\F.length=h.length-1 /\ ∀k,k<F.length->nz F k=nz h k:=by
 refine⟨h.dropLast,h.getLast h0,(List.dropLast_concat_getLast h0).symm,?_,List.length_dropLast,λk hk=>?_⟩
 .have:=List.length_pos_iff.mpr h0;rw[aT (n:=h.getLast h0)];rw[YN (),List.getLast_eq_getElem]
 .rw[List.length_dropLast] at hk;have e:h[k]? = some h[k]:=YN ();rw[aT e];refine aT ?_;rw[List.getElem?_dropLast,Yb (),e]
theorem HG{fs:List (Int×Int)}{hs:List (List Int)}{l:List (aJ×Nat)}{c:Rat}{B:Nat}(h:CC fs hs)(all:∀x∈hs,x≠[]/\x.length<=20/\nz x (x.length-1)≠0)(ok:∀q∈l,q.1.ok/\1<=q.2)(un:l.Pairwise λa b=>a.1≠b.1)(dl:cF l<=17)(d1:fs.length=cF l+1)(e:∀x,EV (cf fs) x=c*iD l x)(hm:∀m∈zu l,∃q:Int×Int,m=wv q/\Fq q/\Bq B q):Ly hs (fk l) (λ_ _=>True) (ux l) B:=by
 have cnt:=λlo hi lt=>An h all ok un dl d1 e (lo:=lo) (hi:=hi) lt;have ins:=λ(a b:Rat)(ab:a<=b)=>yi (lo:=some a) (hi:=some b) ok un (vO ok un) (λv=>XI) (λx y e1 e2=>by cases e1;cases e2;exact ab)
 refine⟨?_,λx=>?_,λE h0 tl hh rb=>?_,λM a b ha hb ab sm=>?_,λa b ab=>?_,?_,λ_=>trivial⟩
 .have:=cnt none none (λ_ _ z=>by cases z)
  exact this
 .have:=cnt none (some x) (λ_ _ z=>by cases z)
  exact this
 .rcases h with ⟨f1,a,a0,he⟩|⟨h0',h1,tl',κ,he,ch,k0,id⟩
  .have l0:=GU ok (show cF l=0 by nofun)
   subst l0;exact⟨rfl,rfl,trivial⟩
  .rw[he] at hh;cases hh;obtain⟨n0,n20,nz0⟩:=all h0 (by rw[he];simp)
   obtain⟨F,c',eF,ec,lF,nF⟩:=yW n0;have l1:h1.length<=20:=(all h1 (by rw[he];simp)).2.1
   have c0:c'≠0:=by rw[ec];exact nz0
   have hp:(0:Rat)<p2 E/2:=by have:=zV E;grind
   have ai:=HC (l:=l) (F:=F) (h1:=h1) (c:=c') (g:=aI h1) (tl:=tl'.map aI) (κ:=κ) (ρ:=p2 E/2) (by rw[<-eF];exact ch) (λR R0=>(cE l1).lip R0) ok un k0 (by rw[<-eF];exact id l c dl e) (by rw[<-eF];exact n20) hp c0 (λk hk=>by
    rw[nF k hk,lF,ec];exact rb k ())
   rw[show 2*(p2 E/2)=p2 E by grind] at ai
   exact⟨ai.1,ai.2,trivial⟩
 .have i:=ins a b ab;have o:=AB (vO ok un) hm ha hb ab sm;have i:_+fk l a=fk l b:=i;nofun
 .have i:=ins a b ab;have i:_+fk l a=fk l b:=i;nofun
 .rcases h with ⟨f1,a,a0,he⟩|⟨h0',h1,tl',κ,he,ch,k0,id⟩
  .have l0:=GU ok (show cF l=0 by nofun)
   subst l0;exact .inl rfl
  .rw[he];exact .inr (by simp)
end L2
set_option maxHeartbeats 2000000
namespace L2
open PySem PySem.Spec PyProof.Rows
theorem mQ{x:Rat}:∀{l:List (aJ×Nat)},(∀q∈l,q.1.ok/\1<=q.2)->cA l x=0 -> ∃q∈l,q.1=.line x
 | [],_,h=>absurd h (by show (1:Rat)≠0;decide)
 | q::l,ok,h=>by
  have h:q.1.p x*cA l x=0:=h;rcases Rat.mul_eq_zero.mp h with z|z
  .refine⟨q,Yi,?_⟩;have o:=(ok q Yi).1;cases e:q.1 with
   | line r =>
    rw[e] at z;have z:x-r=0:=z;rw[show r=x by grind]
   | root n =>
    rw[e] at z o;have z:x*x-n=0:=z;exact absurd (show x*x=n by grind) (o.2 x)
   | none n =>
    rw[e] at z o;have z:x*x+n=0:=z;have o:0<n:=o;have:=iq x;grind
  .obtain⟨p,hp,e⟩:=mQ (λp hp=>ok p (Yj _ hp)) z;exact⟨p,Yj _ hp,e⟩
theorem uc{x:Rat}:∀{l:List (aJ×Nat)},(∃q∈l,q.1=.line x)->cA l x=0
 | [],⟨_,h,_⟩=>by cases h
 | q::l,⟨p,hp,e⟩=>by
  show q.1.p x*cA l x=0;rcases Y2.mp hp with rfl|hp
  .rw[e];show (x-x)*_=0;grind
  .rw[uc ⟨p,hp,e⟩];grind
theorem Jv:∀l:List (aJ×Nat),∃R:Rat,0<R /\ ∀R',R<=R' -> ∀q∈l,(∀r,q.1=.line r->Wi R' r) /\ ∀n,q.1=.root n->n+2<=R'
 | []=>⟨1,∅,λ_ _ _ h=>by cases h⟩
 | q::l=>by
  obtain⟨R,R0,h⟩:=Jv l;obtain⟨S,S0,hS⟩ : ∃S:Rat,0<S/\(∀r,q.1=.line r->Sm S r) /\ ∀n,q.1=.root n->n+2<=S:=by
   cases e:q.1 with
   | line r =>
    obtain⟨t,t0,ht⟩:=gy.const (R:=0) r;exact⟨t,t0,λr' er=>by cases er;exact ht 0 (by unfold Wi;grind),λn en=>by cases en⟩
   | root n =>
    obtain⟨t,t0,ht⟩:=gy.const (R:=0) n;have ht:=ht 0 (by unfold Wi;grind)
    exact⟨t+2,⋯,λr er=>(by cases er),λn' en=>by cases en;unfold Sm at ht;grind⟩
   | none n=>exact⟨1,∅,λr er=>(by cases er),λn' en=>by cases en⟩
  refine⟨R+S,⋯,λR' hR p hp=>?_⟩;rcases Y2.mp hp with rfl|hp
  .refine⟨λr er=>?_,λn en=>?_⟩
   .have:=hS.1 r er;unfold Sm at this;unfold Wi;grind
   .have:=hS.2 n en;grind
  .exact h R' ⋯ p hp
theorem IU{l:List (aJ×Nat)}(ok:∀q∈l,q.1.ok/\1<=q.2)(un:l.Pairwise λa b=>a.1≠b.1):∃x,cA l x≠0:=by
 have fin:∃x:Rat,∀q∈l,q.1 ≠ .line x:=by
  obtain⟨R,R0,h⟩:=Jv l;refine⟨R+1,λq hq z=>?_⟩;have:=(h R ⋯ q hq).1 _ z;unfold Wi at this;grind
 obtain⟨x,hx⟩:=fin;refine⟨x,λz=>?_⟩;obtain⟨q,hq,e⟩:=mQ ok z;exact hx q hq e
def sA(A:Nat)(F:List Int):Prop:=∀y∈F,y.natAbs<=A
def d9:List Int->List Int->List Int
 | [],G=>G
 | F,[]=>F
 | a::F,b::G=>(a+b)::d9 F G
theorem ff{x:Rat}:∀F G:List Int,fu (d9 F G) x=fu F x+fu G x
 | [],G=>by show fu G x=0+fu G x;grind
 | a::F,[]=>by show fu (a::F) x=fu (a::F) x+0;grind
 | a::F,b::G=>by
  show ((a+b:Int):Rat)+x*fu (d9 F G) x=((a:Int):Rat)+x*fu F x+(((b:Int):Rat)+x*fu G x);rw[ff F G,Xc];grind
theorem sZ:∀F G:List Int,(d9 F G).length<=max F.length G.length
 | [],G=>by show G.length<=_;nofun
 | a::F,[]=>by show (a::F).length<=_;nofun
 | a::F,b::G=>by
  have:=sZ F G;show (d9 F G).length+1<=max (F.length+1) (G.length+1);nofun
theorem mz{A B:Nat}:∀F G:List Int,sA A F->sA B G->sA (A+B) (d9 F G)
 | [],G,_,h=>λy hy=>by have:=h y hy;nofun
 | a::F,[],h,_=>λy hy=>by have:=h y hy;nofun
 | a::F,b::G,h,k=>λy hy=>by
  rcases Y2.mp hy with rfl|hy
  .have h1:=h a Yi;have h2:=k b Yi;nofun
  .exact mz F G (λz hz=>h z (Yj _ hz)) (λz hz=>k z (Yj _ hz)) y hy
def bY(c:Int)(F:List Int):List Int:=F.map λy=>c*y
theorem ci{c:Int}{x:Rat}:∀F:List Int,fu (bY c F) x=(c:Rat)*fu F x
 | []=>by show (0:Rat)=(c:Rat)*0;grind
 | a::F=>by
  show ((c*a:Int):Rat)+x*fu (bY c F) x=(c:Rat)*(((a:Int):Rat)+x*fu F x);rw[ci F,Xd];grind
theorem cL{A B:Nat}{c:Int}{F:List Int}(hc:c.natAbs<=B)(h:sA A F):sA (B*A) (bY c F):=λy hy=>by
 obtain⟨z,hz,rfl⟩:=List.mem_map.mp hy;rw[YW];exact Xm hc (h z hz)
theorem fH{F:List Int}{x:Rat}:fu (0::F) x=x*fu F x:=by
 show ((0:Int):Rat)+x*fu F x=_;rw[show ((0:Int):Rat)=0 from rfl]
 grind
theorem fI{A:Nat}{F:List Int}(h:sA A F):sA A (0::F):=λy hy=>by
 rcases Y2.mp hy with rfl|hy
 .exact YL _
 .exact h y hy
def aJ.num:aJ->Rat
 | .line r=>r
 | .root n=>n
 | .none n=>n
inductive LB:List (aJ×Nat)->Nat->Prop
 | nil:LB [] 0
 | cons {q:aJ}{m:Nat}{l:List (aJ×Nat)}{a b:Nat}{ν:Int×Int}:q.num=wv ν->Fq ν->Bq b ν->LB l a->LB ((q,m)::l) (a+(b+2))
theorem LB.perm{l l':List (aJ×Nat)}(p:l.Perm l'):∀{a},LB l a->LB l' a:=by
 induction p with
 | nil=>exact λh=>h
 | cons q _ ih =>
  intro a h;cases h with
  | cons e f b t=>exact .cons e f b (ih t)
 | swap q r l =>
  intro a h;cases h with
  | @cons _ m1 _ a1 b1 _ e f b t =>
   cases t with
   | @cons _ m2 _ a2 b2 _ e' f' b' t' =>
    have:=LB.cons (m:=m2) e' f' b' (LB.cons (m:=m1) e f b t');rw[show a2+(b2+2)+(b1+2)=a2+(b1+2)+(b2+2) by nofun]
    exact this
 | trans _ _ h1 h2=>exact λh=>h2 (h1 h)
def ma:List (aJ×Nat)->Nat
 | []=>0
 | q::l=>q.1.deg+ma l
theorem Ad(a b:Nat):2^(a+(b+2))=4*(2^b*2^a):=by
 rw[YX,YX,YJ (2^b) (2^2),Nat.mul_left_comm,YJ (2^a)]
theorem Ea{ν:Int×Int}(h:Fq ν):((ν.2:Int):Rat)*wv ν=((ν.1:Int):Rat):=by
 have:((ν.2:Int):Rat)≠0:=aq h.ne;unfold wv;grind
theorem LB.lists{l:List (aJ×Nat)}{a:Nat}(h:LB l a)(hm:∀q∈l,q.2<=32):∃(D:Int)(Zp Zs:List Int),D≠0/\(∀x,fu Zp x=(D:Rat)*cA l x)/\(∀x,fu Zs x=(D:Rat)*gv l x)/\sA (2^a) Zp/\sA (64*2^a) Zs/\Zp.length<=ma l+1/\Zs.length<=ma l+1:=by
 induction h with
 | nil=>exact⟨1,[1],[],∅,λx=>by show ((1:Int):Rat)+x*0=((1:Int):Rat)*1;grind,λx=>by show (0:Rat)=((1:Int):Rat)*0;grind,λy hy=>(by cases List.mem_singleton.mp hy;decide),λy hy=>(by cases hy),by simp[ma],by simp⟩
 | @cons q m l a b ν e f bq t ih =>
  obtain⟨D,Zp,Zs,D0,e1,e2,n1,n2,l1,l2⟩:=ih λp hp=>hm p (Yj _ hp);have m32:m<=32:=hm (q,m) Yi;obtain⟨u,v⟩:=ν;have wn:=Ea f;have v0:v≠0:=f.ne;have hu:u.natAbs<=2^b:=Yh bq.1;have hv:v.natAbs<=2^b:=Yh bq.2;have wn:((v:Int):Rat)*q.num=((u:Int):Rat):=by rw[e];exact wn
  have hn:(-u).natAbs<=2^b:=();have h2:((2*(m:Int))*v).natAbs<=64*2^b:=by
   rw[YW];exact Xm () hv
  have h1:((m:Int)*v).natAbs<=64*2^b:=by
   rw[YW];exact Xm () hv
  have mc:(((m:Int):Int):Rat)=((m:Nat):Rat):=rfl;have c2:((2:Int):Rat)=2:=rfl;have bnd:∀{F G:List Int},sA (2^b*2^a) F->sA (2^b*2^a) G->sA (2^(a+(b+2))) (d9 F G):=λ{F G} hF hG y hy=>by
   have:=mz F G hF hG y hy;rw[Ad];nofun
  have bnd2:∀{E F G:List Int},sA (64*2^b*2^a) E->sA (2^b*(64*2^a)) F->sA (2^b*(64*2^a)) G->sA (64*2^(a+(b+2))) (d9 E (d9 F G)):=λ{E F G} hE hF hG y hy=>by
   have:=mz E _ hE (mz F G hF hG) y hy;rw[Ad];have k1:64*2^b*2^a=64*(2^b*2^a):=Nat.mul_assoc _ _ _;have k2:2^b*(64*2^a)=64*(2^b*2^a):=Nat.mul_left_comm _ _ _;rw[k1,k2] at this;nofun
  have Dv:D*v≠0:=Xb D0 v0;have dc:((D*v:Int):Rat)=(D:Rat)*(v:Rat):=Xd ..;have shl:∀(F G:List Int)(n:Nat),F.length<=n->G.length<=n->(d9 F G).length<=n:=λF G n x y=>by
   have:=sZ F G;nofun
  have slen:∀(c:Int)(F:List Int),(bY c F).length=F.length:=λc F=>YD _;have i1:=e1;cases q with
  | line r =>
   have wn:((v:Int):Rat)*r=((u:Int):Rat):=wn;refine⟨D*v,d9 (bY (-u) Zp) (0::bY v Zp),d9 (bY ((m:Int)*v) Zp) (d9 (bY (-u) Zs) (0::bY v Zs)),Dv,λx=>?_,λx=>?_,bnd (cL hn n1) (fI (cL hv n1)),bnd2 (cL h1 n1) (cL hn n2) (fI (cL hv n2)),shl _ _ _ ?_ ?_,shl _ _ _ ?_ (shl _ _ _ ?_ ?_)⟩
   .rw[ff,fH,ci,ci,e1,dc,XE,<-wn];show _=(D:Rat)*(v:Rat)*((x-r)*cA l x);grind
   .rw[ff,ff,fH,ci,ci,ci,e1,e2,dc,XE,Xd,mc,<-wn];show _=(D:Rat)*(v:Rat)*(((m:Nat):Rat)*1*cA l x+(x-r)*gv l x);grind
   all_goals
    simp only[Y6,slen];show _<=1+ma l+1;nofun
  | root n =>
   have wn:((v:Int):Rat)*n=((u:Int):Rat):=wn;refine⟨D*v,d9 (bY (-u) Zp) (0::0::bY v Zp),d9 (0::bY ((2*(m:Int))*v) Zp) (d9 (bY (-u) Zs) (0::0::bY v Zs)),Dv,λx=>?_,λx=>?_,bnd (cL hn n1) (fI (fI (cL hv n1))),bnd2 (fI (cL h2 n1)) (cL hn n2) (fI (fI (cL hv n2))),shl _ _ _ ?_ ?_,shl _ _ _ ?_ (shl _ _ _ ?_ ?_)⟩
   .rw[ff,fH,fH,ci,ci,e1,dc,XE,<-wn];show _=(D:Rat)*(v:Rat)*((x*x-n)*cA l x);grind
   .rw[ff,ff,fH,fH,fH,ci,ci,ci,e1,e2,dc,XE,Xd,Xd,mc,c2,<-wn];show _=(D:Rat)*(v:Rat)*(((m:Nat):Rat)*(2*x)*cA l x+(x*x-n)*gv l x);grind
   all_goals
    simp only[Y6,slen];show _<=2+ma l+1;nofun
  | none n =>
   have wn:((v:Int):Rat)*n=((u:Int):Rat):=wn;refine⟨D*v,d9 (bY u Zp) (0::0::bY v Zp),d9 (0::bY ((2*(m:Int))*v) Zp) (d9 (bY u Zs) (0::0::bY v Zs)),Dv,λx=>?_,λx=>?_,bnd (cL hu n1) (fI (fI (cL hv n1))),bnd2 (fI (cL h2 n1)) (cL hu n2) (fI (fI (cL hv n2))),shl _ _ _ ?_ ?_,shl _ _ _ ?_ (shl _ _ _ ?_ ?_)⟩
   .rw[ff,fH,fH,ci,ci,e1,dc,<-wn];show _=(D:Rat)*(v:Rat)*((x*x+n)*cA l x);grind
   .rw[ff,ff,fH,fH,fH,ci,ci,ci,e1,e2,dc,Xd,Xd,mc,c2,<-wn];show _=(D:Rat)*(v:Rat)*(((m:Nat):Rat)*(2*x)*cA l x+(x*x+n)*gv l x);grind
   all_goals
    simp only[Y6,slen];show _<=2+ma l+1;nofun
theorem xQ{h Z:List Int}{c:Rat}{A:Nat}(hp:iB (nz h))(lh:h.length<=20)(lZ:Z.length<=20)(c0:c≠0)(e:∀x,fu Z x=c*aI h x)(n:sA A Z):sA A h/\(nz h (h.length-1)≠0->h.length<=Z.length):=by
 have e1:∀k,((nz Z k:Int):Rat)*((c.den:Int):Rat)=((c.num:Int):Rat)*((nz h k:Int):Rat):=by
  have d0:((c.den:Int):Rat)≠0:=aq (by have:=c.den_pos;nofun)
  have ec:((c.num:Int):Rat)=c*((c.den:Int):Rat):=by
   have:=Rat.num_divInt_den c;rw[Rat.divInt_eq_div] at this;have z:(c.num:Rat)/((c.den:Int):Rat)=c:=this;grind
  intro k;have i:=mH (F:=bY (c.den:Int) Z) (G:=bY c.num h) (by unfold bY;rw[YD];exact lZ) (by unfold bY;rw[YD];exact lh) (λx=>by
   rw[iS (F:=bY (c.den:Int) Z) (by unfold bY;rw[YD];exact lZ),ci,e x,iS (F:=bY c.num h) (by unfold bY;rw[YD];exact lh),ci,<-iS lh,ec]
   grind) k
  unfold bY at i;rw[de,de] at i;rw[<-Xd,<-Xd,Y9,i]
 have e2:∀k,nz Z k*(c.den:Int)=c.num*nz h k:=λk=>by
  have:=e1 k;rw[<-Xd,<-Xd] at this;exact Rat.intCast_inj.mp this
 have co:Nat.Coprime c.den c.num.natAbs:=c.reduced.symm;have d1:∀k,(c.den:Int)∣nz h k:=λk=>by
  have:c.den∣c.num.natAbs*(nz h k).natAbs:=by
   rw[<-YW,<-e2 k,YW,XB];exact Nat.dvd_mul_left _ _
  have:=co.dvd_of_dvd_mul_left this;exact Int.ofNat_dvd_left.mpr this
 have one:c.den=1:=by
  have:=hp _ d1
  rwa [XB] at this
 have u0:c.num≠0:=λz=>c0 (Rat.num_eq_zero.mp z);refine⟨λy hy=>?_,λhz=>Nat.le_of_not_lt λlt=>?_⟩
 rotate_left
 .have:=e2 (h.length-1);rw[aK (ns:=Z) (),Int.zero_mul] at this;exact Xb u0 hz this.symm
 obtain⟨k,hk⟩:=XJ hy;have:=e2 k;rw[one,aT hk] at this;have this:nz Z k=c.num*y:=();have zk:(nz Z k).natAbs<=A:=by
  by_cases q:k<Z.length
  .rw[aT (YN q)];exact n _ (YM q)
  .rw[aK ()];exact YL _
 rw[this,YW] at zk;have:1*y.natAbs<=c.num.natAbs*y.natAbs:=XD _ ();nofun
theorem AX{c p:Nat->Int}{q:Int}(h:∀k,q∣c k)(k:Nat):∀n,q∣pz c p n k
 | 0=>⟨0,by show (0:Int)=q*0;nofun⟩
 | n+1=>by
  show q∣pz c p n k+(if n<=k then c n*p (k-n) else 0)
  refine Int.dvd_add (AX h k n) ?_;split
  .exact Int.dvd_mul_of_dvd_left (h n)
  .exact⟨0,()⟩
theorem iB.left{W h P:List Int}(hp:iB (nz W))(e:∀k,nz W k=pz (nz h) (nz P) h.length k):iB (nz h):=λq hq=>hp q λk=>by
 rw[e];exact AX hq k _
theorem pT:∀xs:List ((aJ×Nat)×Nat),(∀x∈xs,x.1.1.ok/\1<=x.1.2 /\ ∃ν,x.1.1.num=wv ν/\Fq ν/\Bq x.2 ν) -> ∃l:List (aJ×Nat),(∀q∈l,q.1.ok/\1<=q.2)/\l.Pairwise (λa b=>a.1≠b.1)/\(∀x,iD (xs.map (·.1)) x=iD l x)/\cF l=cF (xs.map (·.1))/\(∀f,(∃m,(f,m)∈l) ↔ ∃m,(f,m)∈xs.map (·.1))/\l.length<=xs.length /\ ∃a,LB l a/\a<=(xs.map λx=>x.2+2).sum
 | [],_=>⟨[],by simp,.nil,λ_=>rfl,rfl,λf=>by simp,Yq _,0,.nil,by simp⟩
 | q::es,h=>by
  obtain⟨l,ok,un,e,d,m,ll,a,lb,la⟩:=pT es λp hp=>h p (Yj _ hp);obtain⟨⟨q,n0⟩,b⟩:=q;obtain⟨hq1,hq2,ν,hν,fν,bν⟩:=h _ Yi;have sm:((((q,n0),b)::es).map λx:(aJ×Nat)×Nat=>x.2+2).sum=(b+2)+(es.map λx=>x.2+2).sum:=by simp
  by_cases ex:∃n,(q,n)∈l
  .obtain⟨n,hn⟩:=ex;obtain⟨l',p⟩ : ∃l',l.Perm ((q,n)::l'):=by
    obtain⟨s,t,rfl⟩:=List.append_of_mem hn;exact⟨s++t,List.perm_middle⟩
   have un':=(p.pairwise_iff (λh=>Yk h)).mp un;obtain⟨u1,u2⟩:=List.pairwise_cons.mp un';have lb':=lb.perm p;refine⟨(q,n0+n)::l',λp' hp=>?_,List.pairwise_cons.mpr ⟨u1,u2⟩,λx=>?_,?_,λf=>?_,?_,a,?_,()⟩
   .rcases Y2.mp hp with rfl|z
    .exact⟨hq1,by have hq2:1<=n0:=hq2;show 1<=n0+n;nofun⟩
    .exact ok p' (p.mem_iff.mpr (Yj _ z))
   .show du (q.p x) n0*iD (es.map (·.1)) x=du (q.p x) (n0+n)*iD l' x;rw[e,AZ p,xc];show _*(du (q.p x) n*iD l' x)=_;grind
   .have:=yY p;have z:cF l=n*q.deg+cF l':=this;show (n0+n)*q.deg+cF l'=n0*q.deg+cF (es.map (·.1));rw[Xl];nofun
   .refine⟨λ⟨k,hk⟩=>?_,λ⟨k,hk⟩=>?_⟩
    .rcases Y2.mp hk with z|z
     .cases z;exact⟨n0,Yi⟩
     .obtain⟨k',hk'⟩:=(m f).mp ⟨k,p.mem_iff.mpr (Yj _ z)⟩;exact⟨k',Yj _ hk'⟩
    .have z:f=q \/ ∃k,(f,k)∈l:=by
      rcases Y2.mp hk with z|z
      .cases z;exact .inl rfl
      .exact .inr ((m f).mpr ⟨k,z⟩)
     rcases z with rfl|⟨k',hk'⟩
     .exact⟨_,Yi⟩
     .rcases Y2.mp (p.mem_iff.mp hk') with y|y
      .cases y;exact⟨_,Yi⟩
      .exact⟨k',Yj _ y⟩
   .have:=p.length_eq;simp at this ⊢;nofun
   .cases lb' with
    | cons e f b t=>exact .cons e f b t
  .refine⟨(q,n0)::l,λp' hp=>?_,List.pairwise_cons.mpr ⟨λp' hp z=>ex ⟨p'.2,by have z:q=p'.1:=z;rw[z];exact hp⟩,un⟩,λx=>?_,?_,λf=>?_,by simp;nofun,a+(b+2),.cons hν fν bν lb,()⟩
   .rcases Y2.mp hp with rfl|z
    .exact⟨hq1,hq2⟩
    .exact ok p' z
   .show _*iD (es.map (·.1)) x=_*iD l x;rw[e]
   .show _+cF l=_+cF (es.map (·.1));rw[d]
   .refine⟨λ⟨k,hk⟩=>?_,λ⟨k,hk⟩=>?_⟩
    .rcases Y2.mp hk with z|z
     .exact⟨k,z▸Yi⟩
     .obtain⟨k',hk'⟩:=(m f).mp ⟨k,z⟩;exact⟨k',Yj _ hk'⟩
    .rcases Y2.mp hk with z|z
     .exact⟨k,z▸Yi⟩
     .obtain⟨k',hk'⟩:=(m f).mpr ⟨k,z⟩;exact⟨k',Yj _ hk'⟩
theorem vX:∀{l:List (aJ×Nat)},(∀q∈l,q.1.ok/\1<=q.2)->ma l<=cF l /\ ∀q∈l,q.2<=cF l
 | [],_=>⟨Yq _,λ_ h=>by cases h⟩
 | q::l,h=>by
  obtain⟨i1,i2⟩:=vX λp hp=>h p (Yj _ hp);have h1:=(h q Yi).2;have h3:1<=q.1.deg:=by cases q.1<;>simp[aJ.deg]
  have m1:=XD q.1.deg h1;have m2:=XM q.2 h3;have e:cF (q::l)=q.2*q.1.deg+cF l:=rfl;have e2:ma (q::l)=q.1.deg+ma l:=rfl;refine⟨(),λp hp=>?_⟩;rcases Y2.mp hp with rfl|hp
  .nofun
  .have:=i2 p hp;nofun
theorem tZ:∀l:List (aJ×Nat),ma l<=2*l.length
 | []=>Yq _
 | q::l=>by
  have:=tZ l;have h3:q.1.deg<=2:=by cases q.1<;>simp[aJ.deg]
  show q.1.deg+ma l<=2*(l.length+1);nofun
end L2
set_option maxHeartbeats 2000000
namespace L2
open PySem PySem.Spec PyProof.Rows
theorem wL{F h P:List Int}(f0:nz F (F.length-1)≠0)(h0:nz h (h.length-1)≠0)(p0:nz P (P.length-1)≠0)(e:∀k,nz F k=pz (nz h) (nz P) h.length k):F.length+1=h.length+P.length:=by
 have np:∀{L:List Int},nz L (L.length-1)≠0->0<L.length:=λ{L} z=>Nat.pos_of_ne_zero λy=>z (aK ());have lh:=np h0;have lp:=np p0;have lf:=np f0;have er:∀k,((nz F k:Int):Rat)=pr (ez h) (ez P) h.length k:=λk=>by
  rw[e,gF];rfl
 have hi:∀k,h.length+P.length<=k+1->nz F k=0:=λk hk=>by
  have:=er k;rw[fP (n:=P.length) (λi hi=>bQ P i hi) _ _ ()] at this;exact Rat.intCast_inj.mp this
 have a:=lM (f:=ez h) (g:=ez P) (d:=P.length-1) (i:=h.length-1) (λj hj=>bQ P j ()) (λj hj=>bQ h j ()) h.length;rw[Yb (),<-er] at a;have n1:nz F (h.length-1+(P.length-1))≠0:=λz=>by
  rw[z] at a;have z2:ez h (h.length-1)*ez P (P.length-1)=0:=a.symm;rcases Rat.mul_eq_zero.mp z2 with y|y
  .exact aq h0 y
  .exact aq p0 y
 have l1:h.length-1+(P.length-1)<F.length:=Nat.lt_of_not_le λz=>n1 (aK z);have l2:¬ h.length+P.length<=F.length-1+1:=λz=>f0 (hi _ z);nofun
def KR(fs:List (Int×Int))(hs:List (List Int)):Prop:=CC fs hs/\(∀c:Int,hs=[[c]]->c.natAbs=1) /\ ∀h0 h1 tl,hs=h0::h1::tl->iB (nz h0)/\iB (nz h1)/\Bz (aI h0) (aI h1)/\h0.length<=11/\h1.length+1=h0.length
theorem Db{W O P L:List Int}{rows:List (List Int×List Int×Int×Int)}{hs:List (List Int)}{g:Int}(rq:nM W O rows)(o0:O≠[])(lW:W.length<=11)(lO:O.length+1=W.length)(wz:nz W (W.length-1)≠0)(oz:nz O (O.length-1)≠0)(pz0:nz P (P.length-1)≠0)(lP:P.length<=11)(hL:(O::oY 1 1 rows).getLast? = some L)(g0:g≠0)(eL:∀k,nz L k=g*nz P k)(pt:xP P (W::O::oY 1 1 rows) hs)(pW:iB (nz W))(pO:iB (nz O)):∀h0 h1 tl,hs=h0::h1::tl->iB (nz h0)/\iB (nz h1)/\Bz (aI h0) (aI h1)/\h0.length<=11/\h1.length+1=h0.length:=by
 have hn:∀row∈rows,row.2.2.1≠0/\row.2.2.2≠0:=λrow h=>⟨(rq.ne row h).1,(rq.ne row h).2.1⟩;obtain⟨L',s,e,ps,hs',_⟩:=iM rows 1 1 O O hn (.inl rfl) (.inl rfl) (λk=>by rw[Xk]) rfl
 rw[hL] at e;cases e;have s2:s*s=1:=by rcases ps with z|z<;>rw[z]<;>decide
 have el:∀k,nz (dY O rows) k=(s*g)*nz P k:=λk=>by
  have a:=hs' k;rw[eL k] at a;have:s*(g*nz P k)=s*(s*nz (dY O rows) k):=by rw[a]
  rw[<-Xg,<-Xg,s2,Xk] at this;exact this.symm
 have pl:Py (aI P):=cE ();have l0:∃x,aI P x≠0:=Xw λz=>pz0 (by
  have:=mH (F:=P) (G:=[]) () (by simp) (λx=>by
   rw[rC];exact Xw λy=>z ⟨x,y⟩) (P.length-1)
  rw[this,aK (by simp)])
 intro h0 h1 tl hh;subst hh;cases pt with
 | @cons _ _ _ _ a1 a2 a3 a4 pt =>
 cases pt with
 | @cons _ _ _ _ b1 b2 b3 b4 pt =>
 have e0:∀x,aI W x=aI h0 x*aI P x:=kQ () a4;have e1:∀x,aI O x=aI h1 x*aI P x:=kQ () b4;obtain⟨u,v,pu,pv,eb⟩:=rq.bez lW () o0;have z:∀x,(u x*aI h0 x+v x*aI h1 x)-((s*g:Int):Rat)=0:=by
  refine Py.zero (f:=λx=>(u x*aI h0 x+v x*aI h1 x)-((s*g:Int):Rat)) (((pu.mul (cE ())).add (pv.mul (cE ()))).sub (.const _)) pl (λx=>?_) l0;have h:=eb x;rw[fE el x,e0 x,e1 x] at h;grind
 have q1:=wL wz a3 pz0 a4;have q2:=wL oz b3 pz0 b4;refine⟨pW.left a4,pO.left b4,Bz.of pu pv (c:=((s*g:Int):Rat)) (aq (Xb (by rcases ps with z|z<;>nofun) g0)) λx=>by have:=z x;grind,a1.1,()⟩
theorem Bh{c:Int}(h:iB (nz [c])):c.natAbs=1:=h c λk=>by
 cases k with
 | zero=>exact⟨1,by show c=c*1;nofun⟩
 | succ k=>exact⟨0,by rw[aK (by simp)];nofun⟩
end L2
set_option maxHeartbeats 2000000
namespace L2
open PySem PySem.Spec PyProof.Rows
def par(k:Nat):Int:=if k%2=0 then 1 else -1
theorem aJ.A_le(q:aJ)(x:Rat):q.A x<=q.tot:=by
 cases q with
 | line r=>show (if r<=x then 1 else 0)<=1;split<;>nofun
 | root n=>show (if x*x<n then 1 else if x<0 then 0 else 2)<=2;split;(· nofun);split<;>nofun
 | none n=>exact Yq _
theorem Br(x:Rat):∀l:List (aJ×Nat),fk l x<=ux l
 | []=>Yq _
 | q::l=>by
  have h1:=q.1.A_le x;have h2:=Br x l;show q.1.A x+fk l x<=q.1.tot+ux l;nofun
def zv:List Int->Int->Int
 | [],_=>0
 | n::ns,x=>n+x*zv ns x
def zs:List Int->Int->Int
 | [],_=>0
 | n::ns,x=>zv ns x+x*zs ns x
theorem j6:∀(ns:List Int)(x d:Int),∃R,zv ns (x+d)=zv ns x+d*zs ns x+d*d*R
 | [],_,_=>⟨0,by simp[zv,zs]⟩
 | n::ns,x,d=>by
  obtain⟨R,h⟩:=j6 ns x d;refine⟨zs ns x+(x+d)*R,?_⟩;show n+(x+d)*zv ns (x+d)=n+x*zv ns x+d*(zv ns x+x*zs ns x)+d*d*(zs ns x+(x+d)*R);rw[h];grind
theorem ka(m x:Int):∀(ns ms:List Int),(∀k,m∣nz ns k-nz ms k)->m∣zv ns x-zv ms x
 | [],[],_=>⟨0,by simp[zv]⟩
 | [],b::ms,h=>by
  obtain⟨c,hc⟩:=h 0;obtain⟨e,he⟩:=ka m x [] ms λk=>h (k+1);have hc:0-b=m*c:=hc;have he:0-zv ms x=m*e:=he;exact⟨c+x*e,by show 0-(b+x*zv ms x)=_;grind⟩
 | a::ns,[],h=>by
  obtain⟨c,hc⟩:=h 0;obtain⟨e,he⟩:=ka m x ns [] λk=>h (k+1);have hc:a-0=m*c:=hc;have he:zv ns x-0=m*e:=he;exact⟨c+x*e,by show a+x*zv ns x-0=_;grind⟩
 | a::ns,b::ms,h=>by
  obtain⟨c,hc⟩:=h 0;obtain⟨e,he⟩:=ka m x ns ms λk=>h (k+1);have hc:a-b=m*c:=hc;exact⟨c+x*e,by show a+x*zv ns x-(b+x*zv ms x)=_;grind⟩
theorem Ft{ns ms:List Int}(h:∀k,nz ns k=nz ms k)(x:Int):zv ns x=zv ms x:=by
 obtain⟨c,hc⟩:=ka 0 x ns ms λk=>⟨0,by rw[h];nofun⟩
 nofun
def Bs:Int->List Int->List Int
 | _,[]=>[]
 | j,n::ns=>j*n::Bs (j+1) ns
theorem qy(x:Int):∀(ns:List Int)(j:Int),zv (Bs j ns) x=j*zv ns x+x*zs ns x
 | [],j=>by simp[Bs,zv,zs]
 | n::ns,j=>by
  show j*n+x*zv (Bs (j+1) ns) x=j*(n+x*zv ns x)+x*(zv ns x+x*zs ns x);rw[qy x ns];grind
theorem rh:∀(ns:List Int)(j:Int)(k:Nat),nz (Bs j ns) k=(j+k)*nz ns k
 | [],j,k=>by simp[Bs,nz]
 | n::ns,j,0=>by show j*n=(j+((0:Nat):Int))*n;simp
 | n::ns,j,k+1=>by
  show nz (Bs (j+1) ns) k=_;rw[rh ns];show _=(j+((k+1:Nat):Int))*nz ns k;rw[show j+((k+1:Nat):Int)=j+1+(k:Int) by nofun]
theorem Fu{ns ms:List Int}(h:∀k,nz ms k=((k+1:Nat):Int)*nz ns (k+1))(x:Int):zv ms x=zs ns x:=by
 cases ns with
 | nil=>exact Ft (ms:=[]) (λk=>by rw[h];simp[nz]) x
 | cons n ns =>
  have:=qy x ns 1;rw[Ft (ns:=ms) (ms:=Bs 1 ns) λk=>by
   rw[h,rh];show _=(1+(k:Int))*nz ns k;rw[show ((k+1:Nat):Int)=1+(k:Int) by nofun]
   rfl,this]
  show _=zv ns x+x*zs ns x;grind
theorem IQ{ns ms:List Int}{m:Int}(h:∀k,m∣nz ns k-nz ms k)(x:Int):m∣zs ns x-zs ms x:=by
 have l:∀l:List Int,zs l x=zv (Bs 1 l.tail) x:=λl=>by
  cases l with
  | nil=>rfl
  | cons a l =>
   rw[qy];show zv l x+x*zs l x=1*zv l x+x*zs l x;grind
 rw[l,l];refine ka m x _ _ λk=>?_;rw[rh,rh];have t:∀l:List Int,nz l.tail k=nz l (k+1):=λl=>by cases l<;>rfl
 rw[t,t];obtain⟨c,hc⟩:=h (k+1);exact⟨(1+k)*c,by rw[<-Int.mul_sub,hc];grind⟩
theorem jF(ns:List Int) {m x y:Int}(h:m∣x-y):m∣zv ns x-zv ns y:=by
 obtain⟨c,hc⟩:=h;obtain⟨R,e⟩:=j6 ns y (x-y);rw[show y+(x-y)=x by nofun] at e
 exact⟨c*zs ns y+c*(x-y)*R,by rw[e,hc];grind⟩
theorem sV(ns:List Int) {m x y:Int}(h:m∣x-y):m∣zs ns x-zs ns y:=by
 have l:∀x,zs ns x=zv (Bs 1 ns.tail) x:=λx=>by
  cases ns with
  | nil=>rfl
  | cons a l =>
   show zv l x+x*zs l x=zv (Bs 1 l) x;rw[qy];grind
 rw[l,l];exact jF _ h
def HD(f g:Int->Int):Prop:=∀x d,∃R:Int,f (x+d)=f x+d*g x+d*d*R
theorem HD.zv(ns:List Int):HD (zv ns) (zs ns):=λx d=>j6 ns x d
theorem HD.uniq{f g h:Int->Int}(a:HD f g)(b:HD f h)(x:Int):g x=h x:=by
 obtain⟨d,hd⟩ : ∃d:Int,d=(((g x-h x).natAbs+1:Nat):Int):=⟨_,rfl⟩;have d0:0<d:=();obtain⟨R,r⟩:=a x d;obtain⟨S,s⟩:=b x d;have e:d*(g x-h x)=d*(d*(S-R)):=⋯;have e:=Xh () e;have:d∣g x-h x:=⟨_,e⟩;have:=Int.natAbs_dvd_natAbs.mpr this;rcases Nat.eq_zero_or_pos (g x-h x).natAbs with z|z
 .nofun
 .have:=XC z this;nofun
theorem HD.mul{f g f' g':Int->Int}(a:HD f f')(b:HD g g'):HD (λx=>f x*g x) (λx=>f' x*g x+f x*g' x):=λx d=>by
 obtain⟨R,r⟩:=a x d;obtain⟨S,s⟩:=b x d;refine⟨f x*S+f' x*g' x+d*f' x*S+R*g x+d*R*g' x+d*d*R*S,?_⟩;show f (x+d)*g (x+d)=_;rw[r,s];grind
theorem HD.smul{f f':Int->Int}(c:Int)(a:HD f f'):HD (λx=>c*f x) (λx=>c*f' x):=λx d=>by
 obtain⟨R,r⟩:=a x d;exact⟨c*R,by show c*f (x+d)=_;rw[r];grind⟩
theorem Df{a b m:Int}(h1:Int.gcd a m=1)(h2:Int.gcd b m=1):Int.gcd (a*b) m=1:=by
 unfold Int.gcd at *
 rw[YW];exact Nat.Coprime.mul_left h1 h2
theorem i4{a m:Int}(h:Int.gcd a m=1):∀k:Nat,Int.gcd a (m^k)=1
 | 0=>by simp
 | k+1=>by
  have i:=i4 h k;rw[Xp];rw[YO] at *
  exact Df i h
theorem mB{a m n:Int}(h:Int.gcd a m=1)(d:n∣m):Int.gcd a n=1:=by
 have h1:=YS (a:=a) (b:=n);have h2:=YT (a:=a) (b:=n);have:=Int.dvd_gcd (a:=a) (b:=m) h1 (XA h2 d);rw[h] at this;exact Nat.dvd_one.mp this
theorem mE{a b m:Int}(h:Int.gcd a m=1)(d:m∣b-a):Int.gcd b m=1:=by
 have h1:=YS (a:=b) (b:=m);have h2:=YT (a:=b) (b:=m);have h3:((Int.gcd b m:Nat):Int)∣a:=by
  have:=Int.dvd_sub h1 (XA h2 d)
  rwa [show b-(b-a)=a by nofun] at this
 have:=Int.dvd_gcd h3 h2;rw[h] at this;exact Nat.dvd_one.mp this
theorem eV{a b m:Int}(h:Int.gcd a m=1)(d:m∣a*b):m∣b:=by
 unfold Int.gcd at h;rw[<-Int.natAbs_dvd_natAbs] at d ⊢;rw[YW] at d;exact Y8 (Nat.Coprime.symm h) d
theorem yh{ns:List Int}{m M X Y:Int}{e:Nat}(hM:M∣m^e)(hx:M∣zv ns X)(hy:M∣zv ns Y)(hm:m∣Y-X)(hg:Int.gcd (zs ns X) m=1):M∣Y-X:=by
 obtain⟨R,r⟩:=j6 ns X (Y-X);rw[show X+(Y-X)=Y by nofun] at r
 have g1:Int.gcd (zs ns X+(Y-X)*R) m=1:=mE hg (by
  rw[show zs ns X+(Y-X)*R-zs ns X=(Y-X)*R by nofun]
  exact XA hm (XN _ _))
 refine eV (mB (i4 g1 e) hM) ?_;have:=Int.dvd_sub hy hx
 rwa [r,show zv ns X+(Y-X)*zs ns X+(Y-X)*(Y-X)*R-zv ns X=(zs ns X+(Y-X)*R)*(Y-X) by grind] at this
theorem yX{ns:List Int}{M x i:Int}(hx:M∣zv ns x)(hi:M∣zs ns x*i-1):M*M∣zv ns (x-zv ns x*i):=by
 obtain⟨a,ha⟩:=hx;obtain⟨b,hb⟩:=hi;obtain⟨R,r⟩:=j6 ns x (-(zv ns x*i));rw[show x + -(zv ns x*i)=x-zv ns x*i by nofun] at r
 refine⟨-(a*b)+a*a*i*i*R,?_⟩;rw[r];have:zs ns x*i=1+M*b:=();have e1:zv ns x + -(zv ns x*i)*zs ns x = - (zv ns x*(M*b)):=⋯;rw[e1,ha];grind
theorem zR{M s i:Int}(h:M∣s*i-1):M*M∣s*(i*(2-s*i))-1:=by
 obtain⟨b,hb⟩:=h;have e:s*i=1+M*b:=();refine⟨-(b*b),?_⟩;grind
theorem By(x:Int):∀ns:List Int,fu ns (x:Rat)=((zv ns x:Int):Rat)
 | []=>rfl
 | n::ns=>by
  show (n:Rat)+(x:Rat)*fu ns x=((n+x*zv ns x:Int):Rat);rw[By x ns,Xc,Xd]
def hv:List Int->Int->Int->Int
 | [],_,_=>0
 | n::ns,a,b=>n*b^ns.length+a*hv ns a b
theorem vQ{M a b β:Int}(h:M∣b*β-1):∀ns:List Int,M∣b*hv ns a b-b^ns.length*zv ns (a*β)
 | []=>⟨0,by simp[hv,zv]⟩
 | n::ns=>by
  obtain⟨c,hc⟩:=vQ (a:=a) h ns;obtain⟨e,he⟩:=h;refine⟨a*c-a*b^ns.length*zv ns (a*β)*e,?_⟩;show b*(n*b^ns.length+a*hv ns a b)-b^(ns.length+1)*(n+a*β*zv ns (a*β))=_;rw[Xp];have he:b*β=1+M*e:=();have e1:b^ns.length*b*(n+a*β*zv ns (a*β))=b^ns.length*b*n+a*b^ns.length*zv ns (a*β)*(b*β):=⋯;rw[e1,he];grind
theorem wQ{a b:Int}:∀ns:List Int,ns≠[]->b∣hv ns a b-nz ns (ns.length-1)*a^(ns.length-1)
 | [],h=>absurd rfl h
 | [n],_=>⟨0,by
  show n*b^0+a*0-n*a^0=b*0;simp⟩
 | n::m::ns,_=>by
  obtain⟨c,hc⟩:=wQ (a:=a) (b:=b) (m::ns) (by simp)
  refine⟨n*b^ns.length+a*c,?_⟩;have hc:hv (m::ns) a b-nz (m::ns) ns.length*a^ns.length=b*c:=hc;show n*b^(ns.length+1)+a*hv (m::ns) a b-nz (m::ns) ns.length*a^(ns.length+1)=_;rw[Xp,Xp];have e1:a*hv (m::ns) a b=a*(b*c)+nz (m::ns) ns.length*(a^ns.length*a):=by
   rw[<-hc];grind
  rw[e1];grind
theorem Cq{a b:Int}(b0:b≠0):∀ns:List Int,((b*hv ns a b:Int):Rat)=((b^ns.length:Int):Rat)*fu ns ((a:Rat)/(b:Rat))
 | []=>by
  show ((b*0:Int):Rat)=_*0;rw[Xi];grind
 | n::ns=>by
  have i:=Cq (a:=a) b0 ns;have b1:(b:Rat)≠0:=aq b0;show ((b*(n*b^ns.length+a*hv ns a b):Int):Rat)=((b^(ns.length+1):Int):Rat)*((n:Rat)+(a:Rat)/(b:Rat)*fu ns ((a:Rat)/(b:Rat)));rw[Xp,show b*(n*b^ns.length+a*hv ns a b)=b^ns.length*b*n+a*(b*hv ns a b) by grind,Xc,Xd a,i,Xd,Xd]
  generalize fu ns ((a:Rat)/(b:Rat))=E;generalize ((b^ns.length:Int):Rat)=C;rw[Xr];have:(b:Rat)*(b:Rat)⁻¹=1:=Rat.mul_inv_cancel _ b1;grind
theorem mD{a b:Int}{ns:List Int}(b0:b≠0):hv ns a b=0↔fu ns ((a:Rat)/(b:Rat))=0:=by
 have e:=Cq (a:=a) b0 ns;have p:((b^ns.length:Int):Rat)≠0:=aq (Xq b0);refine⟨λz=>?_,λz=>?_⟩
 .rw[z,Xi] at e;rcases Rat.mul_eq_zero.mp e.symm with y|y
  .exact absurd y p
  .exact y
 .rw[z,Rat.mul_zero] at e;have e:=Rat.intCast_eq_zero_iff.mp e;rcases Int.mul_eq_zero.mp e with y|y
  .exact absurd y b0
  .exact y
theorem iT{ns:List Int}{a b:Int}(n0:ns≠[])(h:hv ns a b=0)(g:Int.gcd a b=1):b∣nz ns (ns.length-1):=by
 have d:=wQ (a:=a) (b:=b) ns n0;rw[h,Int.zero_sub] at d;have d:=Int.dvd_neg.mp d;rw[Y9] at d;rw[YO] at g;have:=i4 g (ns.length-1);rw[YO] at this;exact eV this d
theorem K7:∀n m:Nat,∃u v:Int,u*n+v*m=(Nat.gcd n m:Nat):=λn m=>by
 induction n,m using Nat.gcd.induction with
 | H0 m=>exact⟨0,1,by simp⟩
 | H1 n m h ih =>
  obtain⟨u,v,e⟩:=ih;refine⟨v-u*((m/n:Nat):Int),u,?_⟩;rw[Nat.gcd_rec n m,<-e];have:=Nat.div_add_mod m n;have:(m:Int)=(n:Int)*((m/n:Nat):Int)+((m%n:Nat):Int):=by rw[<-XG,<-Int.natCast_add,this]
  grind
theorem vK{b m:Int}(h:Int.gcd b m=1):∃β,m∣b*β-1:=by
 obtain⟨u,v,e⟩:=K7 b.natAbs m.natAbs;unfold Int.gcd at h;rw[h] at e;rcases Int.natAbs_eq b with z|z<;>rcases Int.natAbs_eq m with y|y
 .exact⟨u,-v,⋯⟩
 .exact⟨u,v,⋯⟩
 .exact⟨-u,-v,⋯⟩
 .exact⟨-u,v,⋯⟩
def Sv(ns:List Int)(m:Int):Prop:=Int.gcd (nz ns (ns.length-1)) m=1 /\ ∀x,0<=x->x<m->m∣zv ns x->Int.gcd (zs ns x) m=1
structure Gm (ns:List Int)(m x reach t:Int):Prop where
 ex:∃(M X:Int)(e:Nat),M∣m^e/\m∣M/\M∣zv ns X/\m∣X-x/\M∣t-X*nz ns (ns.length-1)/\2*reach<M /\ -M<2*t/\2*t<=M
theorem Gm.left{ns:List Int}{m x reach t:Int}(h:Gm ns m x reach t):m∣t-x*nz ns (ns.length-1):=by
 obtain⟨M,X,e,h1,h2,h3,h4,h5,_⟩:=h.ex;have a:=XA h2 h5;obtain⟨c,hc⟩:=a;obtain⟨d,hd⟩:=h4;exact⟨c+d*nz ns (ns.length-1),by
  have:X=x+m*d:=();rw[this] at hc;grind⟩
theorem yu{ns:List Int}{a b m:Int}(n0:ns≠[])(h:hv ns a b=0)(g:Int.gcd a b=1)(m1:1<=m)(hm:Int.gcd (nz ns (ns.length-1)) m=1):∃x,0<=x/\x<m/\m∣zv ns x/\m∣b*x-a:=by
 have hb:=iT n0 h g;have gb:Int.gcd b m=1:=by
  rw[YO] at hm ⊢;exact mB hm hb
 obtain⟨β,hβ⟩:=vK gb;have hd:=vQ (a:=a) hβ ns;rw[h,Xi,Int.zero_sub] at hd;have hd:=Int.dvd_neg.mp hd;have pb:Int.gcd (b^ns.length) m=1:=by
  rw[YO];rw[YO] at gb;exact i4 gb _
 have hz:=eV pb hd;have md:m∣a*β%m-a*β:=⟨-(a*β/m),by have:=Int.emod_add_mul_ediv (a*β) m;grind⟩
 refine⟨a*β%m,Int.emod_nonneg _ (),XO _ (),?_,?_⟩
 .have:=Int.dvd_add (jF ns md) hz
  rwa [Int.sub_add_cancel] at this
 .obtain⟨c,hc⟩:=md;obtain⟨e,he⟩:=hβ;exact⟨b*c+a*e,by
   have e1:a*β%m=a*β+m*c:=();rw[e1];have:b*β=1+m*e:=();grind⟩
theorem D6{ns:List Int}{a b m x reach t:Int}(n0:ns≠[])(h:hv ns a b=0)(g:Int.gcd a b=1)(hm:Int.gcd (nz ns (ns.length-1)) m=1)(hs:Int.gcd (zs ns x) m=1)(hx:m∣b*x-a)(R:Gm ns m x reach t) {c:Int}(hc:nz ns (ns.length-1)=b*c)(lo : -reach<=a*c)(hi:a*c<=reach):t=a*c:=by
 obtain⟨M,X,e,h1,h2,h3,h4,h5,h6,h7,h8⟩:=R.ex;have hb:=iT n0 h g;have gb:Int.gcd b m=1:=by
  rw[YO] at hm ⊢;exact mB hm hb
 have gM:Int.gcd b M=1:=mB (i4 gb e) h1;obtain⟨β,hβ⟩:=vK gM;have hd:=vQ (a:=a) hβ ns;rw[h,Xi,Int.zero_sub] at hd;have hd:=Int.dvd_neg.mp hd;have pb:Int.gcd (b^ns.length) M=1:=by
  rw[YO];rw[YO] at gM;exact i4 gM _
 have hz:=eV pb hd;obtain⟨k,hk⟩:=hβ;have eb:b*β=1+M*k:=();have yx:m∣a*β-X:=by
  refine eV gb ?_;obtain⟨p,hp⟩:=hx;obtain⟨q,hq⟩:=h4;obtain⟨r,hr⟩:=h2;refine⟨a*r*k-p-b*q,?_⟩;have:b*(a*β-X)=a*(b*β)-b*X:=⋯;rw[this,eb,hr,show X=x+m*q by nofun]
  grind
 have hsX:Int.gcd (zs ns X) m=1:=mE hs (sV ns h4);have u:=yh h1 h3 hz yx hsX;have tt:M∣t-a*c:=by
  obtain⟨p,hp⟩:=u;obtain⟨q,hq⟩:=h5;refine⟨q-p*b*c+a*k*c,?_⟩;rw[hc] at hq;have e1:t=X*(b*c)+M*q:=();have e2:X=a*β-M*p:=();rw[e1,e2];have:(a*β-M*p)*(b*c)=a*c*(b*β)-M*p*b*c:=⋯;rw[this,eb];grind
 have:=Int.natAbs_dvd_natAbs.mpr tt;rcases Nat.eq_zero_or_pos (t-a*c).natAbs with z|z
 .nofun
 .have:=XC z this;nofun
inductive fQ where
 | line (a b:Int)
 | quad (a b:Int)
def fQ.g:fQ->Int->Int
 | .line a b,x=>b*x-a
 | .quad a b,x=>b*(x*x)-a
def fQ.d:fQ->Int->Int
 | .line _ b,_=>b
 | .quad _ b,x=>2*b*x
def fQ.e:fQ->Int
 | .line _ b=>b
 | .quad a b=>2*b*a
def fQ.b:fQ->Int
 | .line _ b=>b
 | .quad _ b=>b
def fQ.r:fQ->fQ->Int
 | .line a b,.line a' b'=>b*a'-a*b'
 | .line a b,.quad a' b'=>b'*(a*a)-b*b*a'
 | .quad a b,.line a' b'=>b*(a'*a')-b'*b'*a
 | .quad a b,.quad a' b'=>b*a'-a*b'
theorem fQ.hd:∀q:fQ,HD q.g q.d
 | .line a b=>λx d=>⟨0,by show b*(x+d)-a=b*x-a+d*b+d*d*0;grind⟩
 | .quad a b=>λx d=>⟨b,by show b*((x+d)*(x+d))-a=b*(x*x)-a+d*(2*b*x)+d*d*b;grind⟩
theorem fQ.own{p x:Int}:∀q:fQ,p∣q.g x->p∣q.d x->p∣q.e
 | .line a b,_,h=>h
 | .quad a b,⟨c,hc⟩,⟨e,he⟩=>by
  have hc:b*(x*x)-a=p*c:=hc;have he:2*b*x=p*e:=he;refine⟨e*(b*x)-2*b*c,?_⟩;show 2*b*a=_;have e1:2*b*a=2*b*x*(b*x)-2*b*(b*(x*x)-a):=⋯;rw[e1,hc,he];grind
theorem fQ.two{p x:Int}:∀q q':fQ,p∣q.g x->p∣q'.g x->p∣q.r q'
 | .line a b,.line a' b',⟨c,hc⟩,⟨e,he⟩=>by
  have hc:b*x-a=p*c:=hc;have he:b'*x-a'=p*e:=he;exact⟨c*b'-e*b,by
   show b*a'-a*b'=_;have e1:b*a'-a*b'=(b*x-a)*b'-(b'*x-a')*b:=⋯;rw[e1,hc,he];grind⟩
 | .line a b,.quad a' b',⟨c,hc⟩,⟨e,he⟩=>by
  have hc:b*x-a=p*c:=hc;have he:b'*(x*x)-a'=p*e:=he;exact⟨b*b*e-b'*c*(b*x+a),by
   show b'*(a*a)-b*b*a'=_;have e1:b'*(a*a)-b*b*a'=b*b*(b'*(x*x)-a')-b'*(b*x-a)*(b*x+a):=⋯;rw[e1,hc,he];grind⟩
 | .quad a b,.line a' b',⟨c,hc⟩,⟨e,he⟩=>by
  have hc:b*(x*x)-a=p*c:=hc;have he:b'*x-a'=p*e:=he;exact⟨b'*b'*c-b*e*(b'*x+a'),by
   show b*(a'*a')-b'*b'*a=_;have e1:b*(a'*a')-b'*b'*a=b'*b'*(b*(x*x)-a)-b*(b'*x-a')*(b'*x+a'):=⋯;rw[e1,hc,he];grind⟩
 | .quad a b,.quad a' b',⟨c,hc⟩,⟨e,he⟩=>by
  have hc:b*(x*x)-a=p*c:=hc;have he:b'*(x*x)-a'=p*e:=he;exact⟨c*b'-e*b,by
   show b*a'-a*b'=_;have e1:b*a'-a*b'=(b*(x*x)-a)*b'-(b'*(x*x)-a')*b:=⋯;rw[e1,hc,he];grind⟩
def Pg:List fQ->Int->Int
 | [],_=>1
 | q::l,x=>q.g x*Pg l x
def Pd:List fQ->Int->Int
 | [],_=>0
 | q::l,x=>q.d x*Pg l x+q.g x*Pd l x
def tU:List fQ->Int
 | []=>1
 | q::l=>q.b*tU l
def Fy(q:fQ):List fQ->Int
 | []=>1
 | q'::l=>q.r q'*Fy q l
def IG:List fQ->Int
 | []=>1
 | q::l=>q.e*Fy q l*IG l
theorem FA:∀l:List fQ,HD (Pg l) (Pd l)
 | []=>λx d=>⟨0,by show (1:Int)=1+d*0+d*d*0;grind⟩
 | q::l=>q.hd.mul (FA l)
def I0(p:Int):Prop:=2<=p /\ ∀a b:Int,p∣a*b->p∣a\/p∣b
theorem vB{p x:Int}(hp:I0 p):∀l:List fQ,p∣Pg l x -> ∃q∈l,p∣q.g x
 | [],h=>by
  have h:p∣1:=h;have:=Int.natAbs_dvd_natAbs.mpr h;have:=hp.1;have:=Nat.dvd_one.mp (show p.natAbs∣1 by assumption)
  nofun
 | q::l,h=>by
  rcases hp.2 _ _ h with z|z
  .exact⟨q,Yi,z⟩
  .obtain⟨q',hq,e⟩:=vB hp l z;exact⟨q',Yj _ hq,e⟩
theorem Aj{p x:Int}{q:fQ}(h0:p∣q.g x):∀l:List fQ,(∃q'∈l,p∣q'.g x)->p∣Fy q l
 | [],⟨_,h,_⟩=>(by cases h)
 | q1::l,⟨q',h,e⟩=>by
  rcases Y2.mp h with rfl|h
  .exact XA (fQ.two q q' h0 e) (XN _ _)
  .exact XA (Aj h0 l ⟨q',h,e⟩) (XQ _ _)
theorem t8{p x:Int}(hp:I0 p):∀l:List fQ,¬ p∣IG l->p∣Pg l x -> ¬ p∣Pd l x
 | [],_,h=>by
  obtain⟨_,h,_⟩:=vB hp [] h;cases h
 | q::l,nb,h=>λhd=>by
  have nb1:¬ p∣q.e:=λz=>nb (XA z (XA (XN _ (Fy q l)) (XN _ _)));have nb2:¬ p∣Fy q l:=λz=>nb (XA z (XA (XQ q.e _) (XN _ _)));have nb3:¬ p∣IG l:=λz=>nb (XA z (XQ _ _));have hd:p∣q.d x*Pg l x+q.g x*Pd l x:=hd;by_cases z:p∣q.g x
  .have h1:p∣q.d x*Pg l x:=by
    have:=Int.dvd_sub hd (XA z (XN _ (Pd l x)))
    rwa [show q.d x*Pg l x+q.g x*Pd l x-q.g x*Pd l x=q.d x*Pg l x by nofun] at this
   rcases hp.2 _ _ h1 with y|y
   .exact nb1 (q.own z y)
   .exact nb2 (Aj z l (vB hp l y))
  .rcases hp.2 _ _ h with y|y
   .exact z y
   .have h1:p∣q.g x*Pd l x:=by
     have:=Int.dvd_sub hd (XA y (XQ (q.d x) _))
     rwa [show q.d x*Pg l x+q.g x*Pd l x-q.d x*Pg l x=q.g x*Pd l x by nofun] at this
    rcases hp.2 _ _ h1 with w|w
    .exact z w
    .exact t8 hp l nb3 y w
theorem zp{ns:List Int}{l:List fQ}{p:Int}(hp:I0 p)(e:∀x,tU l*zv ns x=nz ns (ns.length-1)*Pg l x)(h1:¬ p∣nz ns (ns.length-1))(h2:¬ p∣IG l):Sv ns p:=by
 have cop:∀a:Int,¬ p∣a->Int.gcd a p=1:=λa h=>by
  have d1:=YS (a:=a) (b:=p);obtain⟨c,hc⟩:=YT (a:=a) (b:=p);have p0:=hp.1;rcases hp.2 _ _ (show p∣((Int.gcd a p:Nat):Int)*c by rw[<-hc];exact Int.dvd_refl _) with z|z
  .exact absurd (XA z d1) h
  .obtain⟨d,hd⟩:=z;rw[hd] at hc;have e1:p*(((Int.gcd a p:Nat):Int)*d)=p*1:=by rw[Yp];grind
   have e2:=Xh () e1;have:((Int.gcd a p:Nat):Int)∣1:=⟨d,e2.symm⟩;have:=Int.natAbs_dvd_natAbs.mpr this;exact Nat.dvd_one.mp (by simpa using this)
 refine⟨cop _ h1,λx _ _ hx=>cop _ λhz=>?_⟩;have hd:HD (λx=>tU l*zv ns x) (λx=>tU l*zs ns x):=(HD.zv ns).smul _;have hd2:HD (λx=>nz ns (ns.length-1)*Pg l x) (λx=>nz ns (ns.length-1)*Pd l x):=(FA l).smul _;have ef:(λx=>tU l*zv ns x)=λx=>nz ns (ns.length-1)*Pg l x:=funext e;rw[ef] at hd;have es:=hd.uniq hd2 x;have pg:p∣Pg l x:=by
  have:p∣nz ns (ns.length-1)*Pg l x:=by rw[<-e];exact XA hx (XQ _ _)
  rcases hp.2 _ _ this with z|z
  .exact absurd z h1
  .exact z
 have pd:p∣Pd l x:=by
  have:p∣nz ns (ns.length-1)*Pd l x:=by
   have:=XA hz (XQ (tU l) _);have es:tU l*zs ns x=nz ns (ns.length-1)*Pd l x:=es
   rwa [es] at this
  rcases hp.2 _ _ this with z|z
  .exact absurd z h1
  .exact z
 exact t8 hp l h2 pg pd
def PL:List Nat:=[59,61,67,71,73,79,83,89,97,101,103,107,109,113,127,131,137,139,149,151,157,163,167,173,179,181,191,193,197,199,211,223,227,229,233,239,241,251,257,263,269,271,277,281,283,293,307,311,313,317,331,337,347,349,353,359,367,373,379,383,389,397,401,409,419,421,431,433,439,443,449,457,461,463,467,479,487,491,499,503,509,521,523,541,547,557,563,569,571,577,587,593,599,601,607,613,617,619,631,641,643,647,653,659,661,673,677,683,691,701,709,719,727,733,739,743,751,757,761,769,773,787,797,809,811,821,823,827,829,839,853,857,859,863,877,881,883,887,907,911,919,929,937,941,947,953,967,971,977,983,991,997,1009,1013,1019,1021,1031,1033,1039,1049,1051,1061,1063,1069,1087,1091,1093,1097,1103,1109,1117,1123,1129,1151,1153,1163,1171,1181,1187,1193,1201,1213,1217,1223,1229,1231,1237,1249,1259,1277,1279,1283,1289,1291,1297,1301,1303,1307,1319,1321,1327,1361,1367,1373,1381,1399,1409,1423,1427,1429,1433,1439,1447,1451,1453,1459,1471,1481,1483,1487,1489,1493,1499,1511,1523,1531,1543,1549,1553,1559,1567,1571,1579,1583,1597,1601,1607,1609,1613,1619,1621,1627,1637,1657,1663,1667,1669,1693,1697,1699,1709,1721,1723,1733,1741,1747,1753,1759,1777,1783,1787,1789,1801,1811,1823,1831,1847,1861,1867,1871,1873,1877,1879,1889,1901,1907,1913,1931,1933,1949,1951,1973,1979,1987,1993,1997,1999,2003,2011,2017,2027,2029,2039,2053,2063,2069,2081,2083,2087,2089,2099,2111,2113,2129,2131,2137,2141,2143,2153,2161,2179,2203,2207,2213,2221,2237,2239,2243,2251,2267,2269,2273,2281,2287,2293,2297,2309,2311,2333,2339,2341,2347,2351,2357,2371,2377,2381,2383,2389,2393,2399,2411,2417,2423,2437,2441,2447,2459,2467,2473,2477,2503,2521,2531,2539,2543,2549,2551,2557,2579,2591,2593,2609,2617,2621,2633,2647,2657,2659,2663,2671,2677,2683,2687,2689,2693,2699,2707,2711,2713,2719,2729,2731,2741,2749,2753,2767,2777,2789,2791,2797,2801,2803,2819,2833,2837,2843,2851,2857,2861,2879,2887,2897,2903,2909,2917,2927,2939,2953,2957,2963,2969,2971,2999,3001,3011,3019,3023]
def Lv:Nat:=230843697339241380472092742683027581083278564571807941132288000000000000
theorem LG:∀g,g<55->2<=g->g∣Lv:=by decide +kernel
theorem Ko:PL.all (λp=>Nat.gcd p Lv==1 && (Nat.ble 59 p && Nat.ble p 3024))=true:=by decide +kernel
theorem u5{p:Nat}(h:p∈PL):I0 (p:Int)/\(p:Int)<=3024:=by
 have a:=List.all_eq_true.mp Ko p h;simp only[YZ,beq_iff_eq] at a;obtain⟨g1,lo,hi⟩:=a;have lo:=Nat.ble_eq.mp lo;have hi:=Nat.ble_eq.mp hi;have two:∀g,g∣p->g=1\/g=p:=λg hg=>by
  obtain⟨k,hk⟩:=hg;have small:∀g,g∣p->g<55->g=1:=λg hg h5=>by
   by_cases z:2<=g
   .have d:=Nat.dvd_gcd hg (LG g h5 z);rw[g1] at d;exact Nat.dvd_one.mp d
   .rcases Nat.eq_zero_or_pos g with y|y
    .rw[y] at hg;have:=Nat.eq_zero_of_zero_dvd hg;nofun
    .nofun
  by_cases z:g<55
  .exact .inl (small g ⟨k,hk⟩ z)
  .by_cases y:k<55
   .have:=small k ⟨g,by rw[hk,YJ]⟩ y
    rw[this] at hk;exact .inr ()
   .have:55*55<=g*k:=Xm () ();nofun
 refine⟨⟨(),λa b hab=>?_⟩,()⟩;have hab:=Int.natAbs_dvd_natAbs.mpr hab;rw[YW,XB] at hab;rcases two _ (Nat.gcd_dvd_left p a.natAbs) with z|z
 .right
  have:=Y8 z hab;exact Int.ofNat_dvd_left.mpr this
 .left
  have:=Nat.gcd_dvd_right p a.natAbs;rw[z] at this;exact Int.ofNat_dvd_left.mpr this
theorem tM{D:Nat}:∀l:List Nat,(∀p∈l,I0 (p:Int))->l.Pairwise (· < ·)->(∀p∈l,p∣D)->l.foldr (· * ·) 1∣D
 | [],_,_,_=>Nat.one_dvd _
 | p::l,hp,hw,hd=>by
  obtain⟨h1,h2⟩:=List.pairwise_cons.mp hw;have i:=tM l (λq hq=>hp q (Yj _ hq)) h2 λq hq=>hd q (Yj _ hq);show p*l.foldr (· * ·) 1∣D;refine Nat.Coprime.mul_dvd_of_dvd_of_dvd ?_ (hd p Yi) i;have pp:=hp p Yi;have no:∀l':List Nat,(∀q∈l',q∈l) -> ¬ (p:Int)∣((l'.foldr (· * ·) 1:Nat):Int):=λl' hl'=>by
   induction l' with
   | nil =>
    intro z;have:=Int.natCast_dvd_natCast.mp z;have:=Nat.dvd_one.mp this;have:=pp.1;nofun
   | cons q l' ih =>
    intro z;have z:(p:Int)∣((q*l'.foldr (· * ·) 1:Nat):Int):=z;rw[XG] at z;rcases pp.2 _ _ z with y|y
    .have ql:=hl' q Yi;have lt:=h1 q ql;obtain⟨c,hc⟩:=Int.natCast_dvd_natCast.mp y;have pq:=hp q (Yj _ ql);rcases pq.2 _ (c:Int) (by rw[<-XG,<-hc];exact Int.dvd_refl _) with w|w
     .have:=XC (by have:=pp.1;nofun) (Int.natCast_dvd_natCast.mp w)
      nofun
     .have cq:=Int.natCast_dvd_natCast.mp w;have c0:0<c:=by
       rcases Nat.eq_zero_or_pos c with v|v
       .rw[v] at hc;have:=pq.1;nofun
       .exact v
      have:=XC c0 cq;have:q*2<=c*p:=Xm this (by have:=pp.1;nofun)
      rw[hc] at this;have:=YJ p c;have:=pp.1;nofun
    .exact ih (λq hq=>hl' q (Yj _ hq)) y
  have n:=no l λq hq=>hq;unfold Nat.Coprime;have d1:=Nat.gcd_dvd_left p (l.foldr (· * ·) 1);obtain⟨c,hc⟩:=d1;rcases pp.2 (Nat.gcd p (l.foldr (· * ·) 1):Nat) (c:Int) (by rw[<-XG,<-hc];exact Int.dvd_refl _) with w|w
  .exact absurd (XA w (Int.natCast_dvd_natCast.mpr (Nat.gcd_dvd_right _ _))) n
  .obtain⟨e,he⟩:=Int.natCast_dvd_natCast.mp w;have p0:=pp.1;have e1:p*(Nat.gcd p (l.foldr (· * ·) 1)*e)=p*1:=by
    rw[Nat.mul_one];have:p*(Nat.gcd p (l.foldr (· * ·) 1)*e)=Nat.gcd p (l.foldr (· * ·) 1)*(p*e):=by rw[Nat.mul_left_comm]
    rw[this,<-he,<-hc]
   have e2:=Nat.eq_of_mul_eq_mul_left () e1;exact Nat.eq_one_of_mul_eq_one_right e2
theorem GY:2^4150<=PL.foldr (· * ·) 1:=by decide +kernel
theorem EK:PL.Pairwise (· < ·):=by decide +kernel
theorem A4{D:Int}(d0:D≠0)(hD:D.natAbs<2^4150):∃p:Int,I0 p/\p<=3024 /\ ¬ p∣D:=by
 refine Xw λh=>?_;have all:∀p∈PL,p∣D.natAbs:=λp hp=>Xw λz=>h ⟨p,(u5 hp).1,(u5 hp).2,λy=>z (Int.ofNat_dvd_left.mp y)⟩;have:=XC () (tM PL (λp hp=>(u5 hp).1) EK all);have:=GY;nofun
end L2
set_option exponentiation.threshold 10000
namespace L2
open PySem PySem.Spec PyProof.Rows
def fQ.sm:fQ->Prop
 | .line a b=>a.natAbs<=2^100/\b.natAbs<=2^100
 | .quad a b=>a.natAbs<=2^100/\b.natAbs<=2^100
theorem b9{a b:Int}{m n:Nat}(h1:a.natAbs<=2^m)(h2:b.natAbs<=2^n):(a*b).natAbs<=2^(m+n):=by
 rw[YW,YX];exact Xm h1 h2
theorem mG{a b:Int}{m:Nat}(h1:a.natAbs<=2^m)(h2:b.natAbs<=2^m):(a-b).natAbs<=2^(m+1):=by
 rw[YY];nofun
theorem ix{a:Int}{m n:Nat}(h1:a.natAbs<=2^m)(h:m<=n):a.natAbs<=2^n:=Yg h1 (YV ∅ h)
theorem fQ.e_sm:∀{q:fQ},q.sm->q.e.natAbs<=2^201
 | .line a b,h=>ix h.2 ∅
 | .quad a b,h=>by
  show (2*b*a).natAbs<=_;have two:(2:Int).natAbs<=2^1:=∅;exact ix (b9 (b9 two h.2) h.1) ∅
theorem fQ.r_sm:∀{q q':fQ},q.sm->q'.sm->(q.r q').natAbs<=2^301
 | .line a b,.line a' b',h,k=>ix (mG (b9 h.2 k.1) (b9 h.1 k.2)) ∅
 | .line a b,.quad a' b',h,k=>mG (m:=300) (ix (b9 k.2 (b9 h.1 h.1)) ∅) (ix (b9 (b9 h.2 h.2) k.1) ∅)
 | .quad a b,.line a' b',h,k=>mG (m:=300) (ix (b9 h.2 (b9 k.1 k.1)) ∅) (ix (b9 (b9 k.2 k.2) h.1) ∅)
 | .quad a b,.quad a' b',h,k=>ix (mG (b9 h.2 k.1) (b9 h.1 k.2)) ∅
theorem FS{q:fQ}(hq:q.sm):∀{l:List fQ},(∀q∈l,q.sm)->(Fy q l).natAbs<=2^(301*l.length)
 | [],_=>by show Int.natAbs 1<=2^0;decide
 | q'::l,h=>by
  have:=b9 (fQ.r_sm hq (h q' Yi)) (FS hq λp hp=>h p (Yj _ hp));show (q.r q'*Fy q l).natAbs<=2^(301*(l.length+1));rw[show 301*(l.length+1)=301+301*l.length by nofun]
  exact this
def fb:Nat->Nat
 | 0=>0
 | n+1=>201+301*n+fb n
theorem Bo:∀{l:List fQ},(∀q∈l,q.sm)->(IG l).natAbs<=2^fb l.length
 | [],_=>by decide
 | q::l,h=>by
  have hl:∀q∈l,q.sm:=λp hp=>h p (Yj _ hp);exact b9 (b9 (fQ.e_sm (h q Yi)) (FS (h q Yi) hl)) (Bo hl)
theorem Kc:∀{n:Nat},n<=5->fb n<=4015
 | 0,_=>by decide
 | 1,_=>by decide
 | 2,_=>by decide
 | 3,_=>by decide
 | 4,_=>by decide
 | 5,_=>by decide
 | n+6,h=>by nofun
def oy(q:aJ)(ν:Int×Int):fQ:=match q with
 | .line _=>.line ν.1 ν.2
 | .root _=>.quad ν.1 ν.2
 | .none _=>.quad (-ν.1) ν.2
theorem uF{ν:Int×Int}(h:ν.2≠0):(ν.1:Rat)=wv ν*(ν.2:Rat):=by
 unfold wv;rw[XH (aq h)]
theorem IA{q:aJ}{ν:Int×Int}(h:q.num=wv ν)(n0:ν.2≠0)(x:Int):(((oy q ν).g x:Int):Rat)=(((oy q ν).b:Int):Rat)*q.p (x:Rat):=by
 have t:=uF n0;cases q with
 | line r =>
  have h:r=wv ν:=h;show ((ν.2*x-ν.1:Int):Rat)=(ν.2:Rat)*((x:Rat)-r);rw[XF,Xd,t,h];grind
 | root n =>
  have h:n=wv ν:=h;show ((ν.2*(x*x)-ν.1:Int):Rat)=(ν.2:Rat)*((x:Rat)*(x:Rat)-n);rw[XF,Xd,Xd,t,h];grind
 | none n =>
  have h:n=wv ν:=h;show ((ν.2*(x*x) - -ν.1:Int):Rat)=(ν.2:Rat)*((x:Rat)*(x:Rat)+n);rw[XF,Xd,Xd,XE,t,h];grind
theorem sT{a b a' b':Int}{r r':Rat}(b0:b≠0)(b1:b'≠0)(h:(a:Rat)=r*(b:Rat))(k:(a':Rat)=r'*(b':Rat))(ne:r≠r'):b*a'-a*b'≠0:=λz=>by
 have z:((b*a'-a*b':Int):Rat)=0:=by rw[z];rfl
 rw[XF,Xd,Xd,h,k] at z;have c:=aq b0;have d:=aq b1;have e:((b:Rat)*(b':Rat))*(r'-r)=0:=⋯;rcases Rat.mul_eq_zero.mp e with y|y
 .rcases Rat.mul_eq_zero.mp y with w|w
  .exact c w
  .exact d w
 .exact ne ⋯
theorem wo{a b a' b':Int}{r n:Rat}(b0:b≠0)(b1:b'≠0)(h:(a:Rat)=r*(b:Rat))(k:(a':Rat)=n*(b':Rat))(ne:r*r≠n):b'*(a*a)-b*b*a'≠0:=λz=>by
 have z:((b'*(a*a)-b*b*a':Int):Rat)=0:=by rw[z];rfl
 rw[XF,Xd,Xd,Xd,Xd,h,k] at z;have c:=aq b0;have d:=aq b1;have e:((b:Rat)*(b:Rat)*(b':Rat))*(r*r-n)=0:=⋯;rcases Rat.mul_eq_zero.mp e with y|y
 .rcases Rat.mul_eq_zero.mp y with w|w
  .rcases Rat.mul_eq_zero.mp w with v|v
   .exact c v
   .exact c v
  .exact d w
 .exact ne ⋯
theorem Hy{q q':aJ}{ν ν':Int×Int}(h:q.num=wv ν)(h':q'.num=wv ν')(n0:ν.2≠0)(n1:ν'.2≠0)(ok:q.ok)(ok':q'.ok)(ne:q≠q'):(oy q ν).r (oy q' ν')≠0:=by
 have t:=uF n0;have t':=uF n1;have ng:∀{ν:Int×Int},(ν.1:Rat)=wv ν*(ν.2:Rat)->((-ν.1:Int):Rat) = -wv ν*(ν.2:Rat):=λt=>by rw[XE,t];grind
 cases q with
 | line r =>
  have h:r=wv ν:=h;cases q' with
  | line r' =>
   have h':r'=wv ν':=h';exact sT n0 n1 (h▸t) (h'▸t') λz=>ne (by rw[z])
  | root n =>
   have h':n=wv ν':=h';exact wo n0 n1 (h▸t) (h'▸t') (ok'.2 r)
  | none n =>
   have h':n=wv ν':=h';refine wo n0 n1 (h▸t) (ng t') λz=>?_;have o:(0:Rat)<n:=ok';have:=iq r;grind
 | root n =>
  have h:n=wv ν:=h;cases q' with
  | line r =>
   have h':r=wv ν':=h';exact wo n1 n0 (h'▸t') (h▸t) (ok.2 r)
  | root n' =>
   have h':n'=wv ν':=h';exact sT n0 n1 (h▸t) (h'▸t') λz=>ne (by rw[z])
  | none n' =>
   have h':n'=wv ν':=h';refine sT n0 n1 (h▸t) (ng t') λz=>?_;have o:(0:Rat)<n:=ok.1;have o':(0:Rat)<n':=ok';grind
 | none n =>
  have h:n=wv ν:=h;cases q' with
  | line r =>
   have h':r=wv ν':=h';refine wo n1 n0 (h'▸t') (ng t) λz=>?_;have o:(0:Rat)<n:=ok;have:=iq r;grind
  | root n' =>
   have h':n'=wv ν':=h';refine sT n0 n1 (ng t) (h'▸t') λz=>?_;have o:(0:Rat)<n:=ok;have o':(0:Rat)<n':=ok'.1;grind
  | none n' =>
   have h':n'=wv ν':=h';refine sT n0 n1 (ng t) (ng t') λz=>ne ?_;rw[show n=n' by grind]
theorem Iw{q:aJ}{ν:Int×Int}(h:q.num=wv ν)(n0:ν.2≠0)(ok:q.ok):(oy q ν).e≠0:=by
 have dA:∀{n:Rat},n=wv ν->0<n->ν.1≠0:=λe p z=>by
  have:wv ν=0:=by unfold wv;rw[z,Xr];show (0:Rat)*_=0;grind
  grind
 cases q with
 | line r=>exact n0
 | root n =>
  have:=dA h ok.1;exact Xb (Xb ∅ n0) this
 | none n =>
  have:=dA h ok;exact Xb (Xb ∅ n0) (by show -ν.1≠0;nofun)
theorem ES{q:aJ}{ν:Int×Int}{b:Nat}(h:Bq b ν)(hb:b<=100):(oy q ν).sm:=by
 have p:2^b<=2^100:=YV ∅ hb;have h1:ν.1.natAbs<=2^100:=Yg (Yh h.1) p;have h2:ν.2.natAbs<=2^100:=Yg (Yh h.2) p;cases q with
 | line r=>exact⟨h1,h2⟩
 | root n=>exact⟨h1,h2⟩
 | none n=>exact⟨by rw[Int.natAbs_neg];exact h1,h2⟩
def tN(q:fQ)(P:List Int):List Int:=match q with
 | .line a b=>d9 (bY (-a) P) (0::bY b P)
 | .quad a b=>d9 (bY (-a) P) (0::0::bY b P)
def fQ.dg:fQ->Nat
 | .line _ _=>1
 | .quad _ _=>2
theorem qJ:∀(F G:List Int)(k:Nat),nz (d9 F G) k=nz F k+nz G k
 | [],G,k=>by
  have:nz [] k=0:=aK (by simp)
  show nz G k=nz [] k+nz G k;nofun
 | a::F,[],k=>by
  have:nz [] k=0:=aK (by simp)
  show nz (a::F) k=nz (a::F) k+nz [] k;nofun
 | a::F,b::G,0=>rfl
 | a::F,b::G,k+1=>qJ F G k
theorem jp(c:Int):∀(F:List Int)(k:Nat),nz (bY c F) k=c*nz F k
 | [],k=>by show nz [] k=c*nz [] k;rw[aK (by simp)];simp
 | a::F,0=>rfl
 | a::F,k+1=>jp c F k
theorem rB(x:Int):∀F G:List Int,zv (d9 F G) x=zv F x+zv G x
 | [],G=>by show zv G x=0+zv G x;nofun
 | a::F,[]=>by show zv (a::F) x=zv (a::F) x+0;nofun
 | a::F,b::G=>by
  show a+b+x*zv (d9 F G) x=a+x*zv F x+(b+x*zv G x);rw[rB x F G];grind
theorem jt(c x:Int):∀F:List Int,zv (bY c F) x=c*zv F x
 | []=>by show (0:Int)=c*0;nofun
 | a::F=>by
  show c*a+x*zv (bY c F) x=c*(a+x*zv F x);rw[jt c x F];grind
theorem Ew(q:fQ)(P:List Int)(x:Int):zv (tN q P) x=q.g x*zv P x:=by
 cases q with
 | line a b =>
  show zv (d9 (bY (-a) P) (0::bY b P)) x=(b*x-a)*zv P x;rw[rB];show _+(0+x*zv (bY b P) x)=_;rw[jt,jt];grind
 | quad a b =>
  show zv (d9 (bY (-a) P) (0::0::bY b P)) x=(b*(x*x)-a)*zv P x;rw[rB];show _+(0+x*(0+x*zv (bY b P) x))=_;rw[jt,jt];grind
theorem E6{q:fQ}{P:List Int}{d:Nat}{c:Int}(h:nz P d=c)(k:∀i,d<i->nz P i=0):nz (tN q P) (d+q.dg)=q.b*c /\ ∀i,d+q.dg<i->nz (tN q P) i=0:=by
 cases q with
 | line a b =>
  have s:∀i,nz (tN (.line a b) P) (i+1) = -a*nz P (i+1)+b*nz P i:=λi=>by
   show nz (d9 (bY (-a) P) (0::bY b P)) (i+1)=_;rw[qJ,jp];show _+nz (bY b P) i=_;rw[jp]
  refine⟨?_,λi hi=>?_⟩
  .show nz (tN (.line a b) P) (d+1)=b*c;rw[s,k (d+1) (),h];nofun
  .have hi:d+1<i:=hi;obtain⟨j,rfl⟩ : ∃j,i=j+1:=⟨i-1,()⟩;rw[s,k _ (),k _ ()];nofun
 | quad a b =>
  have s:∀i,nz (tN (.quad a b) P) (i+2) = -a*nz P (i+2)+b*nz P i:=λi=>by
   show nz (d9 (bY (-a) P) (0::0::bY b P)) (i+2)=_;rw[qJ,jp];show _+nz (bY b P) i=_;rw[jp]
  refine⟨?_,λi hi=>?_⟩
  .show nz (tN (.quad a b) P) (d+2)=b*c;rw[s,k (d+2) (),h];nofun
  .have hi:d+2<i:=hi;obtain⟨j,rfl⟩ : ∃j,i=j+2:=⟨i-2,()⟩;rw[s,k _ (),k _ ()];nofun
theorem Ao:∀F:List Int,(∀x,zv F x=0) -> ∀k,nz F k=0
 | [],_,k=>aK (by simp)
 | n::F,h,k=>by
  have h0:n=0:=by
   have:=h 0;have this:n+0*zv F 0=0:=this;nofun
  have h1:∀x,x≠0->zv F x=0:=λx x0=>by
   have:n+x*zv F x=0:=h x;rw[h0,Int.zero_add] at this;rcases Int.mul_eq_zero.mp this with y|y
   .exact absurd y x0
   .exact y
  have h2:zv F 0=0:=by
   obtain⟨d,hd⟩ : ∃d:Int,d=(((zv F 0).natAbs+1:Nat):Int):=⟨_,rfl⟩;have z:=jF F (m:=d) (x:=0) (y:=d) ⟨-1,()⟩;rw[h1 d (),Int.sub_zero] at z;have:=Int.natAbs_dvd_natAbs.mpr z;rcases Nat.eq_zero_or_pos (zv F 0).natAbs with y|y
   .nofun
   .have:=XC y this;nofun
  have i:=Ao F λx=>by
   by_cases z:x=0
   .rw[z];exact h2
   .exact h1 x z
  cases k with
  | zero=>exact h0
  | succ k=>exact i k
end L2
set_option exponentiation.threshold 10000
namespace L2
open PySem PySem.Spec PyProof.Rows
def FN(p:aJ×(Int×Int)):Prop:=p.1.ok/\p.1.num=wv p.2/\Fq p.2 /\ ∃b,b<=100/\Bq b p.2
def gx(L:List (aJ×(Int×Int))):List fQ:=L.map λp=>oy p.1 p.2
def Kl:List (aJ×(Int×Int))->Rat->Rat
 | [],_=>1
 | p::L,x=>p.1.p x*Kl L x
theorem Cw{q:aJ×(Int×Int)}(hq:FN q):∀{L:List (aJ×(Int×Int))},(∀p∈L,FN p/\q.1≠p.1)->Fy (oy q.1 q.2) (gx L)≠0
 | [],_=>by show (1:Int)≠0;decide
 | p::L,h=>by
  obtain⟨⟨o,n,f,_⟩,ne⟩:=h p Yi;exact Xb (Hy hq.2.1 n hq.2.2.1.ne f.ne hq.1 o ne) (Cw hq λr hr=>h r (Yj _ hr))
theorem wW:∀{L:List (aJ×(Int×Int))},(∀p∈L,FN p)->L.Pairwise (λa b=>a.1≠b.1)->IG (gx L)≠0
 | [],_,_=>by show (1:Int)≠0;decide
 | p::L,h,u=>by
  obtain⟨u1,u2⟩:=List.pairwise_cons.mp u;have hp:=h p Yi;have hL:∀r∈L,FN r:=λr hr=>h r (Yj _ hr);exact Xb (Xb (Iw hp.2.1 hp.2.2.1.ne hp.1) (Cw hp λr hr=>⟨hL r hr,u1 r hr⟩)) (wW hL u2)
theorem IB{q:aJ}{ν:Int×Int}(h:ν.2≠0):(oy q ν).b≠0:=by cases q<;>exact h
theorem FC:∀{L:List (aJ×(Int×Int))},(∀p∈L,FN p)->tU (gx L)≠0
 | [],_=>by show (1:Int)≠0;decide
 | p::L,h=>Xb (IB (h p Yi).2.2.1.ne) (FC λr hr=>h r (Yj _ hr))
theorem Cj:∀{L:List (aJ×(Int×Int))},(∀p∈L,FN p) -> ∀x:Int,((Pg (gx L) x:Int):Rat)=((tU (gx L):Int):Rat)*Kl L (x:Rat)
 | [],_,x=>by show ((1:Int):Rat)=((1:Int):Rat)*1;grind
 | p::L,h,x=>by
  have hp:=h p Yi;have i:=Cj (λr hr=>h r (Yj _ hr)) x;show (((oy p.1 p.2).g x*Pg (gx L) x:Int):Rat)=(((oy p.1 p.2).b*tU (gx L):Int):Rat)*(p.1.p (x:Rat)*Kl L (x:Rat));rw[Xd,Xd,IA hp.2.1 hp.2.2.1.ne,i];grind
theorem Gy{L:List (aJ×(Int×Int))}(h:∀p∈L,FN p):∀q∈gx L,q.sm:=λq hq=>by
 obtain⟨p,hp,rfl⟩:=List.mem_map.mp hq;obtain⟨_,_,_,b,hb,bb⟩:=h p hp;exact ES bb hb
theorem uo:∀L:List fQ,∃(Z:List Int)(d:Nat),(∀x,zv Z x=Pg L x)/\nz Z d=tU L /\ ∀i,d<i->nz Z i=0
 | []=>⟨[1],0,λx=>by show 1+x*0=1;nofun,rfl,λi hi=>aK (by simp;nofun)⟩
 | q::L=>by
  obtain⟨Z,d,h1,h2,h3⟩:=uo L;obtain⟨k1,k2⟩:=E6 (q:=q) h2 h3;exact⟨tN q Z,d+q.dg,λx=>by rw[Ew,h1];rfl,k1,k2⟩
theorem xK:∀{l:List (aJ×Nat)},(∀q∈l,q.1.ok/\1<=q.2)->(∀q∈l,∃(ν:Int×Int)(b:Nat),q.1.num=wv ν/\Fq ν/\Bq b ν/\b<=100) -> ∃L:List (aJ×(Int×Int)),(∀p∈L,FN p)/\L.map (·.1)=l.map (·.1) /\ ∀x,Kl L x=cA l x
 | [],_,_=>⟨[],by simp,rfl,λ_=>rfl⟩
 | q::l,ok,h=>by
  obtain⟨L,h1,h2,h3⟩:=xK (λp hp=>ok p (Yj _ hp)) λp hp=>h p (Yj _ hp);obtain⟨ν,b,n,f,bb,b1⟩:=h q Yi;refine⟨(q.1,ν)::L,λp hp=>?_,by rw[YG,YG,h2],λx=>?_⟩
  .rcases Y2.mp hp with rfl|hp
   .exact⟨(ok q Yi).1,n,f,b,b1,bb⟩
   .exact h1 p hp
  .show q.1.p x*Kl L x=q.1.p x*cA l x;rw[h3]
theorem Jm{h0:List Int}{l:List (aJ×Nat)}{c0:Rat}(ok:∀q∈l,q.1.ok/\1<=q.2)(un:l.Pairwise λa b=>a.1≠b.1)(ll:l.length<=5)(nu:∀q∈l,∃(ν:Int×Int)(b:Nat),q.1.num=wv ν/\Fq ν/\Bq b ν/\b<=100)(cn:c0≠0)(z0:nz h0 (h0.length-1)≠0)(sm:(nz h0 (h0.length-1)).natAbs<=2^100)(len:h0.length<=20)(e:∀x,aI h0 x=c0*cA l x):∃m:Int,2<=m/\m<=3024/\Sv h0 m:=by
 obtain⟨L,hL,eL,pL⟩:=xK ok nu;have uL:L.Pairwise λa b=>a.1≠b.1:=by
  have:=(List.pairwise_map (R:=λa b:aJ=>a≠b) (f:=λq:aJ×Nat=>q.1)).mpr un;rw[<-eL] at this;exact List.pairwise_map.mp this
 have lL:(gx L).length<=5:=by
  have:=Yn List.length eL;rw[YD,YD] at this;unfold gx;rw[YD];nofun
 obtain⟨Z,d,hz,zd,zo⟩:=uo (gx L);have B0:=FC hL;have d0:(c0.den:Int)≠0:=by have:=c0.den_pos;nofun
 have n0:c0.num≠0:=λz=>cn (Rat.num_eq_zero.mp z);have d0r:((c0.den:Int):Rat)≠0:=aq d0;have ce:((c0.num:Int):Rat)=c0*((c0.den:Int):Rat):=by
  have:=Rat.num_divInt_den c0;rw[Rat.divInt_eq_div] at this;have z:(c0.num:Rat)/((c0.den:Int):Rat)=c0:=this;grind
 have fe:∀x:Int,(c0.den:Int)*tU (gx L)*zv h0 x=c0.num*Pg (gx L) x:=λx=>by
  refine Rat.intCast_inj.mp ?_;rw[Xd,Xd,Xd,<-By,<-iS len,e,Cj hL,pL,ce];grind
 have ke:∀k,(c0.den:Int)*tU (gx L)*nz h0 k=c0.num*nz Z k:=λk=>by
  have:=Ao (d9 (bY ((c0.den:Int)*tU (gx L)) h0) (bY (-c0.num) Z)) (λx=>by
   rw[rB,jt,jt,fe,hz];grind) k
  rw[qJ,jp,jp] at this;grind
 have dl:d=h0.length-1:=by
  have k1:=ke d;rw[zd] at k1;have hd:nz h0 d≠0:=λz=>by
   rw[z,Xi] at k1;exact Xb n0 B0 k1.symm
  have h1:d<h0.length:=Xw λz=>hd (aK ());rcases Nat.lt_or_ge d (h0.length-1) with z|z
  .have k2:=ke (h0.length-1);rw[zo _ z,Xi] at k2;exact absurd k2 (Xb (Xb d0 B0) z0)
  .nofun
 have nl:c0.num=(c0.den:Int)*nz h0 (h0.length-1):=by
  have k1:=ke d;rw[zd,dl] at k1;have:tU (gx L)*((c0.den:Int)*nz h0 (h0.length-1))=tU (gx L)*c0.num:=⋯;exact (Xh B0 this).symm
 have ge:∀x,tU (gx L)*zv h0 x=nz h0 (h0.length-1)*Pg (gx L) x:=λx=>by
  have f:=fe x;rw[nl] at f;exact Xh d0 ⋯
 have b0:=wW hL uL;obtain⟨p,hp,p3,nd⟩:=A4 (D:=nz h0 (h0.length-1)*IG (gx L)) (Xb z0 b0) (by
  have b:=Yg (Bo (Gy hL)) (YV ∅ (Kc lL));have:=b9 sm b;exact Nat.lt_of_le_of_lt this (Nat.pow_lt_pow_right ∅ ∅))
 exact⟨p,hp.1,p3,zp hp ge (λz=>nd (XA z (XN _ _))) λz=>nd (XA z (XQ _ _))⟩
end L2
set_option maxHeartbeats 2000000
namespace L2
open PySem PySem.Spec PyProof.Rows
theorem Cg{f g:Nat->Int}{a b j k B:Nat}(ha:a<=10)(hb:b<=a)(jb:j<=b)(kj:k<=j)(hB:1<=B)(hf:∀i,(f i).natAbs<2^B)(hg:∀i,(g i).natAbs<2^B):(SR f g a b j k).natAbs<2^(87+20*B):=by
 by_cases h0:a+b-j=0
 .have:SR f g a b j k=1:=by
   unfold SR;rw[h0,show b-j=0 by nofun,show a-j=0 by nofun]
   have:Ej j k=[]:=List.length_eq_zero_iff.mp (by rw[AT kj];nofun)
   rw[show st (sh f) 0 0++(st (sh g) 0 0++Ej j k)=Ej j k from rfl,this]
   rfl
  rw[this];exact Nat.one_lt_two_pow ()
 obtain⟨C,hC⟩ : ∃C,C=2^B:=⟨_,rfl⟩;have c1:1<=C:=hC▸Nat.one_le_two_pow;have r:=AN (M:=a+b-j) (C:=C) (rows:=st (sh f) 0 (b-j)++(st (sh g) 0 (a-j)++Ej j k)) (Nat.mul_pos () c1) (λr hr i=>by
  rcases List.mem_append.mp hr with z|z
  .obtain⟨i',_,rfl⟩:=jA z;exact zC (λi=>by have:=hf i;nofun) _ _
  .rcases List.mem_append.mp z with z|z
   .obtain⟨i',_,rfl⟩:=jA z;exact zC (λi=>by have:=hg i;nofun) _ _
   .obtain⟨i',_,rfl⟩:=List.mem_map.mp z;unfold jz;split<;>simp<;>nofun) (jU (a+b-j))
 have hl:(st (sh f) 0 (b-j)++(st (sh g) 0 (a-j)++Ej j k)).length=a+b-j:=by
  rw[YC,YC,rL,rL,AT kj];nofun
 rw[hl] at r;have e1:((a+b-j)*C)^(a+b-j)<=(20*C)^20:=Yg (Nat.pow_le_pow_left (XD _ ()) _) (YV () ());have e2:(20*C)^20<2^(87+20*B):=by
  rw[Nat.mul_pow,hC,<-Nat.pow_mul,YX,YJ B 20];exact Nat.mul_lt_mul_of_pos_right ∅ Nat.one_le_two_pow
 unfold SR dt;nofun
structure ny (Z:Nat)(S1:Nat->Nat->Int)(F G:Nat->Int)(A B:Nat)(x h:Int):Prop where
 inv:oU S1 F G A B x h
 a6:A<=10
 bS:∀j k,j<=B->k<=j->Bt Z (S1 j k)
 bF:∀k,Bt Z (F k)
 bG:∀k,Bt Z (G k)
 bx:Bt Z x
 bh:Bt Z h
 g1:G B≠0
 g0:∀k,B<k->G k=0
 f0:∀k,A<k->F k=0
theorem ny.first{F G:Nat->Int}{A B b:Nat}(h:B<=A)(ha:A<=10)(hb:1<=b)(bF:∀k,Bt b (F k))(bG:∀k,Bt b (G k))(g1:G B≠0)(g0:∀k,B<k->G k=0)(f0:∀k,A<k->F k=0):ny (87+20*b) (SR F G A B) F G A B 1 1 :=
 ⟨.first h,ha,λj k hj hk=>Cg ha h hj hk hb bF bG,λk=>(bF k).mono (),λk=>(bG k).mono (),Bt.mono (m:=1) ∅ (),Bt.mono (m:=1) ∅ (),g1,g0,f0⟩
section
variable {Z:Nat}{S1:Nat->Nat->Int}{F G q R:Nat->Int}{A B:Nat}{x h:Int}
theorem ny.rest(I:ny Z S1 F G A B x h)(r0:∀k,B<=k->R k=0)(e:∀k,G B^(A-B+1)*F k=pz q G (A-B+1) k+R k) :
  ∃(r:Nat->Int)(h':Int),(∀k,R k=x*h^(A-B)*r k)/\(∀k,Bt Z (r k))/\(∀k,B<=k->r k=0)/\h'≠0/\Bt Z h'/\(A=B/\h'=h\/B<A/\h'*h^(A-B-1)=G B^(A-B)) /\
   ∀d,d<B->r d≠0->(∀k,d<k->r k=0)->ny Z S1 G r B d (G B) h':=by
 have e':∀k,G B^(A-B+1)*F k=cv q G (A-B+1) k+R k:=λk=>by rw[FO];exact e k
 have dv:∀k,∃y:Int,R k=x*h^(A-B)*y/\Bt Z y/\(B<=k->y=0):=λk=>by
  by_cases hk:k<B
  .have p:=I.inv.rest rfl I.g1 I.g0 r0 e' k hk;have b:=I.bS (B-1) k () ();rcases p with z|z
   .exact⟨_,z,b,λ_=>by nofun⟩
   .exact⟨- S1 (B-1) k,by rw[z,Int.mul_neg],b.pm (.inr rfl),λ_=>by nofun⟩
  .exact⟨0,by rw[r0 k (),Xi],hZ,λ_=>rfl⟩
 have hi:∃h':Int,h'≠0/\Bt Z h'/\(A=B/\h'=h\/B<A/\h'*h^(A-B-1)=G B^(A-B)):=by
  by_cases ab:A=B
  .exact⟨h,I.inv.h0,I.bh,.inl ⟨ab,rfl⟩⟩
  .have ba:=I.inv.ba;have p:=I.inv.high rfl I.g0 ();have b:=I.bS B B () ();have nz:G B^(A-B)≠0:=Xq I.g1;rcases p with z|z
   .exact⟨S1 B B,λy=>nz (by rw[z,y,Xi]),b,.inr ⟨(),by rw[z,Y9]⟩⟩
   .exact⟨- S1 B B,λy=>nz (by rw[z,show S1 B B=0 by nofun,Xi];rfl),b.pm (.inr rfl),.inr ⟨(),by rw[z,Int.neg_mul,Y9]⟩⟩
 obtain⟨h',n0,bh',hh⟩:=hi;refine⟨λk=>(dv k).choose,h',λk=>(dv k).choose_spec.1,λk=>(dv k).choose_spec.2.1,λk hk=>(dv k).choose_spec.2.2 hk,n0,bh',hh,λd hd rd rz=>?_⟩;refine⟨I.inv.step (q:=q) rfl I.g1 I.g0 (λk=>?_) rz hd n0 hh,Yg I.inv.ba I.a6,λj k hj hk=>I.bS j k () hk,I.bG,λk=>(dv k).choose_spec.2.1,I.bG B,bh',rd,rz,I.g0⟩;rw[<-(dv k).choose_spec.1];exact e' k
end
def eY(b:Nat)(ns:List Int):Prop:=ns.length<=11/\(∀x∈ns,Bt b x)/\(ns≠[]->nz ns (ns.length-1)≠0)
theorem eY.up{b c:Nat}{l:List Int}(h:eY b l)(bc:b<=c):eY c l:=⟨h.1,λx hx=>(h.2.1 x hx).mono bc,h.2.2⟩
theorem y7{fs:List (Int×Int)}{h0 h1:List Int}{tl:List (List Int)}{l:List (aJ×Nat)}{c:Rat}{a:Nat}(h:KR fs (h0::h1::tl))(nz0:nz h0 (h0.length-1)≠0)(ok:∀q∈l,q.1.ok/\1<=q.2)(un:l.Pairwise λa b=>a.1≠b.1)(dl:cF l<=10)(ll:l.length<=5)(e:∀x,EV (cf fs) x=c*iD l x)(lb:LB l a):∃κ c0:Rat,0<κ/\c0≠0/\(∀x,aI h0 x=c0*cA l x)/\(∀x,κ*(aI h1 x*cA l x)=aI h0 x*gv l x)/\h0.length<=11/\h1.length+1=h0.length/\(∀y∈h0,Bt (a+1) y) /\ ∀y∈h1,Bt (a+7) y:=by
 obtain⟨cc,_,more⟩:=h;obtain⟨p0,p1,bz,l9,l10⟩:=more h0 h1 tl rfl;rcases cc with ⟨_,c',_,z⟩|⟨h0',h1',tl',κ,z,ch,k0,id⟩
 .cases z
 cases z;have id:=id l c () e;obtain⟨c0,n0,e0⟩:=BV (cE ()) (cE ()) ok un k0 id bz;obtain⟨i1,i2⟩:=vX ok;have i3:=tZ l;obtain⟨D,Zp,Zs,D0,ep,es,n1,n2,l1,l2⟩:=lb.lists λq hq=>by have:=i2 q hq;nofun
 have D0':=aq D0;obtain⟨b0,len⟩:=xQ (Z:=Zp) (c:=(D:Rat)/c0) p0 () () (λz=>by
  have:(D:Rat)=0:=by
   have k:(D:Rat)/c0*c0=(D:Rat):=XH n0;rw[z] at k;grind
  exact D0' this) (λx=>by rw[ep,e0];grind) n1
 have e1:∀x,κ*aI h1 x-c0*gv l x=0:=by
  refine Py.zero (f:=λx=>κ*aI h1 x-c0*gv l x) (((cE ()).sc κ).sub ((li l).sc c0)) (iz l) (λx=>?_) (IU ok un);have:=id x;rw[e0 x] at this;grind
 obtain⟨b1,_⟩:=xQ (Z:=Zs) (c:=(D:Rat)*κ/c0) p1 () () (λz=>by
  have:(D:Rat)*κ=0:=by
   have k:(D:Rat)*κ/c0*c0=(D:Rat)*κ:=XH n0;rw[z] at k;grind
  rcases Rat.mul_eq_zero.mp this with y|y
  .exact D0' y
  .grind) (λx=>by
  rw[es];have:=e1 x;have h2:κ*aI h1 x=c0*gv l x:=⋯;have h3:(D:Rat)*κ/c0*aI h1 x=(D:Rat)/c0*(κ*aI h1 x):=⋯;rw[h3,h2];grind) n2
 have pw:=Nat.two_pow_pos a;refine⟨κ,c0,k0,n0,e0,id,by have:=len nz0;nofun,l10,λy hy=>?_,λy hy=>?_⟩
 .have:=b0 y hy;show y.natAbs<2^(a+1);rw[YY];nofun
 .have:=b1 y hy;show y.natAbs<2^(a+7);rw[YX];have:(2:Nat)^7=128:=rfl;nofun
structure Ii (fs:List (Int×Int))(l:List (aJ×Nat)):Prop where
 ok:∀q∈l,q.1.ok/\1<=q.2
 un:l.Pairwise λa b=>a.1≠b.1
 dl:cF l<=10
 ln:fs.length=cF l+1
 ev:∃c:Rat,∀x,EV (cf fs) x=c*iD l x
 ll:l.length<=5
 lb:∃a,LB l a/\a<=97
 mks:∀m∈zu l,∃q:Int×Int,m=wv q/\Fq q/\Bq 300 q
theorem Ev{fs:List (Int×Int)}{hs:List (List Int)}{l:List (aJ×Nat)}(h:KR fs hs)(F:Ii fs l)(all:∀x∈hs,x≠[]/\x.length<=20/\nz x (x.length-1)≠0):∃(h0 I:List Int)(tl:List (List Int))(n:Nat)(κ c0:Rat),hs=h0::tl/\(tl=[]/\I=[] \/ ∃tl',tl=I::tl')/\n<=10/\h0.length=n+1/\nz h0 n≠0/\I.length=n/\0<κ/\c0≠0/\(∀x,aI h0 x=c0*cA l x)/\(∀x,κ*(aI I x*cA l x)=aI h0 x*gv l x)/\(∀y∈h0,Bt 98 y) /\ ∀y∈I,Bt 104 y:=by
 obtain⟨c,ev⟩:=F.ev;rcases id h.1 with ⟨f1,c',z,rfl⟩|⟨h0,h1,tl,κ',rfl,_⟩
 .have l0:=GU F.ok (show cF l=0 by have:=F.ln;nofun)
  subst l0;have one:=h.2.1 c' rfl;refine⟨[c'],[],[],0,1,(c':Rat),rfl,.inl ⟨rfl,rfl⟩,∅,rfl,z,rfl,∅,aq z,λx=>?_,λx=>?_,λy hy=>?_,by simp⟩
  .rw[qX];show (c':Rat)=(c':Rat)*1;grind
  .rw[rC];show (1:Rat)*(0*1)=_*0;grind
  .cases List.mem_singleton.mp hy;show c'.natAbs<2^98;rw[one];decide
 .obtain⟨a,lb,a97⟩:=F.lb;have nz0:=(all h0 (by simp)).2.2
  have n0:=List.length_pos_iff.mpr (all h0 (by simp)).1
  obtain⟨κ,c0,k0,n1,e0,id,l7,l1,b0,b1⟩:=y7 h nz0 F.ok F.un F.dl F.ll ev lb;exact⟨h0,h1,h1::tl,h0.length-1,κ,c0,rfl,.inr ⟨tl,rfl⟩,(),(),nz0,(),k0,n1,e0,id,λy hy=>(b0 y hy).mono (),λy hy=>(b1 y hy).mono ()⟩
theorem jS{a b m:Int}(h:m∣a-b):a%m=b%m:=Int.emod_eq_emod_iff_emod_sub_eq_zero.mpr (Int.emod_eq_zero_of_dvd h)
theorem dH(a m:Int):m∣a%m-a:=⟨-(a/m),by have:=Int.emod_add_mul_ediv a m;grind⟩
theorem wJ(a m:Int):m∣a-a%m:=⟨a/m,by have:=Int.emod_add_mul_ediv a m;grind⟩
theorem GH{z x w m:Int}:(z%m*x+w)%m=(w+x*z)%m:=by
 refine jS ?_;obtain⟨c,hc⟩:=dH z m;exact⟨c*x,by
  have:z%m=z+m*c:=();rw[this];grind⟩
theorem lX{a m:Int}:Int.gcd (a%m) m=1↔Int.gcd a m=1:=⟨λh=>mE h (wJ a m),λh=>mE h (dH a m)⟩
theorem jD{a m:Int}:a%m=0↔m∣a:=⟨Int.dvd_of_emod_eq_zero,Int.emod_eq_zero_of_dvd⟩
theorem gT{a m:Int}{n:Nat}(h:0<m)(b:Bt n m):Bt n (a%m):=by
 have h1:=Int.emod_nonneg a (show m≠0 by nofun)
 have h2:=XO a h;unfold Bt at b ⊢;nofun
theorem C5{ns:List Int}{m:Int}(k:Nat):m∣nz (ns.map λn=>n%m) k-nz ns k:=by
 by_cases z:k<ns.length
 .have e1:(ns.map λn=>n%m)[k]? = some (ns[k]%m):=by rw[YA,YN z];rfl
  rw[aT e1,aT (YN z)];exact dH _ _
 .rw[aK (by rw[YD];nofun),aK ()]
  exact⟨0,()⟩
structure CT (ns:List Int)(m x M X i:Int):Prop where
 pw:∃e:Nat,M∣m^e
 mM:m∣M
 M2:2<=M
 root:M∣zv ns X
 on:m∣X-x
 inv:M∣zs ns X*i-1
 x0:0<=X
 x1:X<M
 i0:0<=i
 i1:i<M
theorem CT.step{ns:List Int}{m x M X i:Int}(h:CT ns m x M X i) {X' s i':Int}(hX:X'=(X-zv ns X%(M*M)*i)%(M*M))(hs:s=zs ns X'%(M*M))(hi:i'=i*(2-s*i)%(M*M)):CT ns m x (M*M) X' i':=by
 have MM:2<=M*M:=by
  have:=Int.mul_le_mul h.M2 h.M2 () (by have:=h.M2;nofun)
  nofun
 have a1:M*M∣X'-(X-zv ns X*i):=by
  obtain⟨c,hc⟩:=dH (X-zv ns X%(M*M)*i) (M*M);obtain⟨d,hd⟩:=dH (zv ns X) (M*M);rw[<-hX] at hc;exact⟨c-d*i,by
   have e:zv ns X%(M*M)=zv ns X+M*M*d:=();rw[e] at hc;grind⟩
 have r1:M*M∣zv ns X':=by
  have a:=jF ns a1;have b:=yX h.root h.inv;have:=Int.dvd_add a b
  rwa [Int.sub_add_cancel] at this
 have xx:M∣X'-X:=by
  obtain⟨c,hc⟩:=a1;obtain⟨d,hd⟩:=h.root;exact⟨M*c-d*i,by rw[hd] at hc;grind⟩
 have sx:M∣s*i-1:=by
  obtain⟨c,hc⟩:=dH (zs ns X') (M*M);obtain⟨d,hd⟩:=sV ns xx;obtain⟨e,he⟩:=h.inv;rw[<-hs] at hc;exact⟨M*c*i+d*i+e,by
   have e1:s=zs ns X'+M*M*c:=();have e2:zs ns X'=zs ns X+M*d:=();rw[e1,e2];grind⟩
 have iv:=zR sx;have M0:=h.M2;obtain⟨e,pe⟩:=h.pw;refine⟨⟨e+e,?_⟩,XA h.mM (XN _ _),MM,r1,?_,?_,?_,?_,?_,?_⟩
 .rw[Int.pow_add];exact Int.mul_dvd_mul pe pe
 .have:=Int.dvd_add (XA h.mM xx) h.on
  rwa [show X'-X+(X-x)=X'-x by nofun] at this
 .obtain⟨c,hc⟩:=dH (zs ns X') (M*M);obtain⟨d,hd⟩:=dH (i*(2-s*i)) (M*M);obtain⟨f,hf⟩:=iv;rw[<-hs] at hc;rw[<-hi] at hd;refine⟨f+s*d-c*i',?_⟩;have e1:zs ns X'=s-M*M*c:=();have e2:i'=i*(2-s*i)+M*M*d:=();rw[e1];have:(s-M*M*c)*i'-1=s*i'-1-M*M*c*i':=⋯;rw[this,e2];grind
 .rw[hX];exact Int.emod_nonneg _ ()
 .rw[hX];exact XO _ ()
 .rw[hi];exact Int.emod_nonneg _ ()
 .rw[hi];exact XO _ ()
theorem CT.first{ns:List Int}{m x i:Int}(m2:2<=m)(x0:0<=x)(x1:x<m)(hx:m∣zv ns x)(i0:0<=i)(i1:i<m)(hi:m∣i*(zs ns x%m)-1):CT ns m x m x i:=by
 refine⟨⟨1,by rw[Xp,Xo,Xk];exact Int.dvd_refl _⟩,Int.dvd_refl _,m2,hx,⟨0,()⟩,?_,x0,x1,i0,i1⟩
 obtain⟨c,hc⟩:=hi;obtain⟨d,hd⟩:=dH (zs ns x) m;exact⟨c-d*i,by
  have:zs ns x%m=zs ns x+m*d:=();rw[this] at hc;grind⟩
theorem CT.told{ns:List Int}{m x M X i reach t:Int}(h:CT ns m x M X i)(go:2*reach<M)(ht:t=if 2*(X*nz ns (ns.length-1)%M)<=M then X*nz ns (ns.length-1)%M else X*nz ns (ns.length-1)%M-M):Gm ns m x reach t:=by
 have M0:=h.M2;obtain⟨e,pe⟩:=h.pw;have a:=Int.emod_nonneg (X*nz ns (ns.length-1)) (show M≠0 by nofun)
 have b:=XO (X*nz ns (ns.length-1)) (show 0<M by nofun)
 have c:=dH (X*nz ns (ns.length-1)) M;generalize hT:X*nz ns (ns.length-1)%M=T at *
 refine⟨M,X,e,pe,h.mM,h.root,h.on,?_,go,?_,?_⟩
 .rw[ht];split
  .exact c
  .obtain⟨d,hd⟩:=c;exact⟨d-1,by rw[Int.mul_sub,Yp,<-hd];nofun⟩
 .rw[ht];split<;>nofun
 .rw[ht];split<;>nofun
theorem lu.gen{c:TT}{tb:TS}{D:oA}{σ:St}{H:Hp}(h:∀B:(St->Hp->Prop)->St->Hp->Prop,(∀N σ' H',tb { D with nx:=N,ct:=N,bk:=D.nx } σ' H'->B N σ' H')->lu c (λD' σ' H'=>B D'.nx σ' H') D σ H):lu c tb D σ H:=h (λN σ' H'=>tb { D with nx:=N,ct:=N,bk:=D.nx } σ' H') λ_ _ _ z=>z
end L2
namespace L2
open PySem PySem.Spec PyProof.Rows PySem.W
theorem ya:bootBuiltins "sorted" = some (.builtin "sorted"):=by decide +kernel
theorem tG:∀{us:List Value}{ns:List Int},IntsAre us ns->aN (ns.map V.int) us:=by
 intro us ns h;induction h with
 | nil=>exact .nil
 | cons=>rename_i ih;exact .cons ⟨_,rfl⟩ ih
theorem oq{h:Heap}{vs:List Value}{out:Array Value}{b:Addr}{o:Obj}(e:h.get? b=some o):(sortedAll h vs out).get? b=some o:=by
 have lt:=Heap.lt_size e;have n1:∀k:Nat,h.objs.size+k≠b:=λk z=>by
  rw[<-z] at lt;exact absurd lt (Nat.not_lt.mpr (Y5 _ _))
 unfold sortedAll sortedHeap;rw[Heap.get?_update_other _ _ (n1 1)];refine Heap.get?_push_of_some _ (Heap.get?_push_of_some _ ?_);rw[Heap.get?_update_other _ _ (n1 1)];refine Heap.get?_push_of_some _ ?_;rw[Heap.get?_update_other _ _ (show h.objs.size≠b from n1 0)]
 exact Heap.get?_push_of_some _ e
theorem oX{h:Heap}{vs:List Value}{out:Array Value}:∃n,(sortedAll h vs out).get? (h.objs.size+1)=some { cls:=.type "list",data:=.seq out n }:=by
 have sz:((h.push (seqObj "list" #[] 0)).update h.objs.size (Obj.mapSeq (· ++ vs.toArray))).objs.size=h.objs.size+1:=by
  rw[Heap.size_update,Heap.size_push]
 have e1:(((h.push (seqObj "list" #[] 0)).update h.objs.size (Obj.mapSeq (· ++ vs.toArray))).push (seqObj "list" vs.toArray 0)).get? (h.objs.size+1)=some (seqObj "list" vs.toArray 0):=by
  rw[<-sz];exact Heap.get?_push_size _ rfl
 unfold sortedAll sortedHeap;have e2:=Heap.get?_update_self (Obj.mapSeq λ_=>#[]) e1 rfl;have e3:=Heap.get?_push_of_some (seqObj "list" #[] 0) (Heap.get?_push_of_some (seqObj "tuple" vs.toArray 0) e2);have e4:=Heap.get?_update_self (Obj.mapSeq λ_=>out) e3 rfl;exact⟨_,e4⟩
theorem u9{X:Cx}:dk X (.builtin "sorted") (λxs H Q=>∃p,xs=[.ref p] /\ ∃ns:List Int,vw X.K H p=some (.lst (ns.map V.int))/\ns.length<64 /\ ∀ns':List Int,ns'.Perm ns->ns'.Pairwise (· <= ·)->Nw X.K H (.lst (ns'.map V.int)) Q):=by
 intro pins s σ H xs us Q I r h;obtain⟨p,rfl,ns,hp,l64,q⟩:=h;obtain⟨u,rfl,rx⟩:=xE r;cases rx;obtain⟨its,n,rv,e,_⟩:=I.lst (aE hp);have lv:=rv.length;rw[YD] at lv;refine sorted_ints (vs:=its) (ns:=ns) ⟨_,e,rfl,n,rfl⟩ (uU rv) () λout ns' hI hP hS=>?_;obtain⟨n',e'⟩:=oX (h:=s.heap) (vs:=its) (out:=out);have fr:=I.hok.fresh (Nat.le_succ s.heap.objs.size);have nk:=I.newK (Nat.le_succ s.heap.objs.size);have vo:=tG hI;have I2:ay X pins σ (upd H (s.heap.objs.size+1) (.lst (ns'.map V.int))) { s with heap:=sortedAll s.heap its out } :=
  I.laid (t':=s.toks) (λb o z=>oq z) (Nat.le_succ _) ⟨by rw[YD,hP.length_eq,sizeLine_eq];nofun,_,_,vo,by rw[e']⟩
 refine⟨.ref (s.heap.objs.size+1),_,I2,rfl,q ns' hP hS _ _ ?_ (iV (ax.upd fr)) (by rw[cj nk];exact aV)⟩
 rw[cj nk];exact fr
end L2
namespace L2
open PySem PySem.Spec PyProof.Rows
theorem tD{α:Type} [DecidableEq α]:∀{xs ys:List α},xs.Nodup->(∀x∈xs,x∈ys)->xs.length<=ys.length
 | [],_,_,_=>YL _
 | x::xs,ys,nd,h=>by
  obtain⟨n1,n2⟩:=List.nodup_cons.mp nd;have hx:=h x Yi;have:=tD (ys:=ys.erase x) n2 λy hy=>(List.mem_erase_of_ne (λe=>n1 (by rw[<-e];exact hy))).mpr (h y (Yj _ hy))
  rw[List.length_erase_of_mem hx] at this;have:=List.length_pos_of_mem hx;rw[Y6];nofun
theorem ul{x r:Rat}{m:Nat}:∀{l:List (aJ×Nat)},fk l x=0->(aJ.line r,m)∈l->x<r
 | [],_,h=>by cases h
 | q::l,z,h=>by
  have z:q.1.A x+fk l x=0:=z;rcases Y2.mp h with rfl|h
  .have z:(if r<=x then 1 else 0)+fk l x=0:=z
   by_cases y:r<=x
   .rw[Yb y] at z;nofun
   .exact Rat.not_le.mp y
  .exact ul () h
theorem ui{x r:Rat}{m:Nat}:∀{l:List (aJ×Nat)},fk l x=ux l->(aJ.line r,m)∈l->r<=x
 | [],_,h=>by cases h
 | q::l,z,h=>by
  have z:q.1.A x+fk l x=q.1.tot+ux l:=z;have a:=aJ.A_le q.1 x;have b:=Br x l;rcases Y2.mp h with rfl|h
  .have z:(if r<=x then 1 else 0)+fk l x=1+ux l:=z
   by_cases y:r<=x
   .exact y
   .rw[Yc y] at z;nofun
  .exact ui () h
structure iH (h0:List Int)(m reach:Int)(k:Nat)(rs:List (Int×Int)):Prop where
 each:∀p∈rs,0<=p.1/\p.1<m/\m∣zv h0 p.1/\Gm h0 m p.1 reach p.2
 rise:rs.Pairwise λp q=>p.1<q.1
 all:∀x:Int,0<=x->x<k->m∣zv h0 x -> ∃t,(x,t)∈rs
def yt(h0:List Int)(L:Int)(rs:List (Int×Int)):List Int:=(rs.filter λp=>decide (hv h0 p.2 L=0)).map λp=>p.2*L.sign
theorem wN{t L:Int}(L0:L≠0):((t*L.sign:Int):Rat)/((L.natAbs:Int):Rat)=(t:Rat)/(L:Rat):=by
 have a:((L.natAbs:Int):Rat)≠0:=aq ();have b:=aq L0;rcases Int.lt_or_gt_of_ne L0 with z|z
 .have e:(L.natAbs:Int) = -L:=();rw[e,Int.sign_eq_neg_one_of_neg z,XE,Xd];have c:(((-1:Int):Int):Rat) = -1:=rfl;rw[c,Xr,Xr];have:(-(L:Rat))⁻¹ = -((L:Rat)⁻¹):=by
   have h1:(L:Rat)*(L:Rat)⁻¹=1:=Rat.mul_inv_cancel _ b;have n0 : -(L:Rat)≠0:=⋯;have h2 : -(L:Rat)*(-(L:Rat))⁻¹=1:=Rat.mul_inv_cancel _ n0;have h3:(L:Rat)*((-(L:Rat))⁻¹+(L:Rat)⁻¹)=0:=⋯;rcases Rat.mul_eq_zero.mp h3 with y|y
   .exact absurd y b
   .grind
  rw[this];grind
 .have e:(L.natAbs:Int)=L:=();rw[e,Int.sign_eq_one_of_pos z,Yp]
theorem pU{h0:List Int}{m reach:Int}{k:Nat}{rs:List (Int×Int)}(h:iH h0 m reach k rs)(L0:nz h0 (h0.length-1)≠0)(g:Int.gcd (nz h0 (h0.length-1)) m=1):(yt h0 (nz h0 (h0.length-1)) rs).Nodup:=by
 obtain⟨L,hL⟩ : ∃L,L=nz h0 (h0.length-1):=⟨_,rfl⟩;unfold yt;rw[<-hL] at L0 g ⊢;refine List.pairwise_map.mpr ?_;have mem:∀p∈rs.filter λp=>decide (hv h0 p.2 L=0),p∈rs:=λp hp=>(List.mem_filter.mp hp).1;refine (List.Pairwise.and_mem.mp (h.rise.filter _)).imp λ{p q} ⟨hp,hq,lt⟩ e=>?_;have s0:L.sign≠0:=λz=>L0 (Int.sign_eq_zero_iff_zero.mp z);have e2:p.2=q.2:=Xa s0 e;obtain⟨p0,p1,_,pr⟩:=h.each p (mem p hp);obtain⟨q0,q1,_,qr⟩:=h.each q (mem q hq);have a:=pr.left;have b:=qr.left;rw[<-hL] at a b;have c:=Int.dvd_sub a b;rw[e2,show q.2-p.1*L-(q.2-q.1*L)=L*(q.1-p.1) by grind] at c
 have d:=eV g c;have:=Int.le_of_dvd () d;nofun
theorem t9{h0:List Int}{L:Int}{rs:List (Int×Int)}(L0:L≠0):∀v∈yt h0 L rs,fu h0 ((v:Rat)/((L.natAbs:Int):Rat))=0:=λv hv'=>by
 obtain⟨p,hp,rfl⟩:=List.mem_map.mp hv';have:=Xz (List.mem_filter.mp hp).2;rw[wN L0];exact (mD L0).mp this
theorem Fc{h0:List Int}{m reach:Int}{rs:List (Int×Int)}{r:Rat}{E:Nat}(h:iH h0 m reach m.toNat rs)(m2:2<=m)(n0:h0≠[])(L0:nz h0 (h0.length-1)≠0)(sv:Sv h0 m)(hr:fu h0 r=0)(lo : -(p2 E)<r)(hi:r<=p2 E)(he:reach=((nz h0 (h0.length-1)).natAbs:Int)*((2^E:Nat):Int)) :
  ∃v∈yt h0 (nz h0 (h0.length-1)) rs,(v:Rat)/(((nz h0 (h0.length-1)).natAbs:Int):Rat)=r:=by
 obtain⟨L,hL⟩ : ∃L,L=nz h0 (h0.length-1):=⟨_,rfl⟩;have b0:(r.den:Int)≠0:=by have:=r.den_pos;nofun
 have bp:0<(r.den:Int):=by have:=r.den_pos;nofun
 have re:(r.num:Rat)/((r.den:Int):Rat)=r:=by
  have:=Rat.num_divInt_den r
  rwa [Rat.divInt_eq_div] at this
 have gr:Int.gcd r.num (r.den:Int)=1:=r.reduced;have hz:hv h0 r.num (r.den:Int)=0:=(mD b0).mpr (by rw[re];exact hr)
 obtain⟨x,x0,x1,hx,hb⟩:=yu n0 hz gr () sv.1;obtain⟨t,ht⟩:=h.all x x0 () hx;obtain⟨_,_,_,R⟩:=h.each _ ht;obtain⟨c,hc⟩:=iT n0 hz gr;have d0:((r.den:Int):Rat)≠0:=aq b0;have dp:(0:Rat)<((r.den:Int):Rat):=Rat.intCast_pos.mpr bp;have nu:(r.num:Rat)=r*((r.den:Int):Rat):=by
  have:=XH (a:=(r.num:Rat)) d0;rw[re] at this;exact this.symm
 have two:p2 E=(((2^E:Nat):Int):Rat):=rfl;have dA:r.num.natAbs<=2^E*r.den:=by
  have h1:((r.num:Int):Rat)<=(((2^E:Nat):Int)*(r.den:Int):Int):=by
   rw[Xd,nu,<-two];exact Rat.mul_le_mul_of_nonneg_right hi (Xt dp)
  have h2:((-(((2^E:Nat):Int)*(r.den:Int)):Int):Rat)<=((r.num:Int):Rat):=by
   rw[XE,Xd,nu,<-two];have:=Rat.mul_le_mul_of_nonneg_right (Xt lo) (Xt dp);grind
  have h1:=Rat.intCast_le_intCast.mp h1;have h2:=Rat.intCast_le_intCast.mp h2;have e:((2^E*r.den:Nat):Int)=((2^E:Nat):Int)*(r.den:Int):=XG _ _;generalize ((2^E:Nat):Int)*(r.den:Int)=Z at *
  generalize 2^E*r.den=W at *
  nofun
 have ab:(r.num*c).natAbs<=reach.natAbs:=by
  rw[he,hc,YW,YW,XB,XB,YW,XB];have:=XD c.natAbs dA
  calc r.num.natAbs*c.natAbs<=2^E*r.den*c.natAbs:=this
   _=r.den*c.natAbs*2^E:=by rw[Nat.mul_assoc,YJ]
 have rp:0<=reach:=by rw[he];exact Int.mul_nonneg (Int.natCast_nonneg _) (Int.natCast_nonneg _)
 have lo' : -reach<=r.num*c:=by clear he hc nu lo hi;nofun
 have hi':r.num*c<=reach:=by clear he hc nu lo hi;nofun
 have tq:=D6 n0 hz gr sv.1 (sv.2 x x0 x1 hx) hb R hc lo' hi';have tq:t=r.num*c:=tq;have c0:c≠0:=λz=>L0 (by rw[hc,z,Xi])
 have tr:(t:Rat)/(L:Rat)=r:=by
  rw[hL,hc,tq,Xd,Xd,nu];have cr:=aq c0;rw[show r*((r.den:Int):Rat)*(c:Rat)=r*(((r.den:Int):Rat)*(c:Rat)) by grind]
  rw[Xr,Rat.mul_assoc,Rat.mul_inv_cancel _ (by
   intro z;rcases Rat.mul_eq_zero.mp z with y|y
   .exact d0 y
   .exact cr y),Rat.mul_one]
 refine⟨t*L.sign,?_,by rw[<-hL,wN (hL▸L0),tr]⟩
 rw[<-hL];exact List.mem_map.mpr ⟨(x,t),List.mem_filter.mpr ⟨ht,YK ((mD (hL▸L0)).mpr (by rw[tr];exact hr))⟩,rfl⟩
theorem LB.nu{l:List (aJ×Nat)}{a:Nat}(h:LB l a):∀q∈l,∃(ν:Int×Int)(b:Nat),q.1.num=wv ν/\Fq ν/\Bq b ν/\b<=a:=by
 induction h with
 | nil=>simp
 | cons h1 h2 h3 h4 ih =>
  intro q hq;rcases Y2.mp hq with rfl|hq
  .exact⟨_,_,h1,h2,h3,()⟩
  .obtain⟨ν,b,e1,e2,e3,e4⟩:=ih q hq;exact⟨ν,b,e1,e2,e3,()⟩
theorem kL{l:List (aJ×Nat)}{h0:List Int}{c0 x:Rat}(ok:∀q∈l,q.1.ok/\1<=q.2)(len:h0.length<=20)(c0n:c0≠0)(e:∀x,aI h0 x=c0*cA l x):fu h0 x=0 ↔ ∃q∈l,q.1=.line x:=by
 rw[<-iS len,e];refine⟨λz=>mQ ok ((Rat.mul_eq_zero.mp z).resolve_left c0n),λz=>?_⟩;rw[uc z,Rat.mul_zero]
structure rS (l:List (aJ×Nat))(ms:List (Int×Int)):Prop where
 fq:∀q∈ms,Fq q
 rise:ms.Pairwise λp q=>wv p<wv q
 just:∀r:Rat,(∃q∈ms,wv q=r) ↔ ∃q∈l,q.1=.line r
 len:ms.length<=l.length
theorem C8{a b:Int}{d:Rat}(d0:d≠0)(h:(a:Rat)/d=(b:Rat)/d):a=b:=by
 have h1:=XH (a:=(a:Rat)) d0;have h2:=XH (a:=(b:Rat)) d0;rw[h,h2] at h1;exact (Rat.intCast_inj.mp h1).symm
theorem xq{l:List (aJ×Nat)}{h0:List Int}{c0:Rat}{m reach:Int}{k:Nat}{rs:List (Int×Int)}(ok:∀q∈l,q.1.ok/\1<=q.2)(len:h0.length<=20)(c0n:c0≠0)(e:∀x,aI h0 x=c0*cA l x)(h:iH h0 m reach k rs)(L0:nz h0 (h0.length-1)≠0)(g:Int.gcd (nz h0 (h0.length-1)) m=1):(yt h0 (nz h0 (h0.length-1)) rs).length<=l.length:=by
 have nd:=pU h L0 g;have d0:(((nz h0 (h0.length-1)).natAbs:Int):Rat)≠0:=aq ();have nd2:((yt h0 (nz h0 (h0.length-1)) rs).map λv:Int=>(v:Rat)/(((nz h0 (h0.length-1)).natAbs:Int):Rat)).Nodup:=List.pairwise_map.mpr (nd.imp λne e=>ne (C8 d0 e));have:=tD (ys:=l.map λq=>q.1.num) nd2 λx hx=>by
  obtain⟨v,hv',rfl⟩:=List.mem_map.mp hx;obtain⟨q,hq,e⟩:=(kL ok len c0n e).mp (t9 L0 v hv');exact List.mem_map.mpr ⟨q,hq,by rw[e];rfl⟩
 rwa [YD,YD] at this
theorem A8{l:List (aJ×Nat)}{h0:List Int}{c0:Rat}{m reach:Int}{rs:List (Int×Int)}{E:Nat}{ns:List Int}(ok:∀q∈l,q.1.ok/\1<=q.2)(len:h0.length<=20)(c0n:c0≠0)(e:∀x,aI h0 x=c0*cA l x)(h:iH h0 m reach m.toNat rs)(m2:2<=m)(L0:nz h0 (h0.length-1)≠0)(sv:Sv h0 m)(A1:fk l (p2 E)=ux l)(A0:fk l (-(p2 E))=0)(he:reach=((nz h0 (h0.length-1)).natAbs:Int)*((2^E:Nat):Int))(pm:ns.Perm (yt h0 (nz h0 (h0.length-1)) rs))(so:ns.Pairwise (· <= ·)):rS l (ns.map λv=>lo v ((nz h0 (h0.length-1)).natAbs:Int)):=by
 have n0:h0≠[]:=λz=>L0 (by rw[z];rfl)
 have dz:((nz h0 (h0.length-1)).natAbs:Int)≠0:=();have d0:=aq dz;have dp:(0:Rat)<(((nz h0 (h0.length-1)).natAbs:Int):Rat):=Rat.intCast_pos.mpr ();have nd:ns.Nodup:=pm.nodup_iff.mpr (pU h L0 sv.1);refine⟨λq hq=>?_,List.pairwise_map.mpr ?_,λr=>⟨?_,?_⟩,?_⟩
 .obtain⟨v,_,rfl⟩:=List.mem_map.mp hq;exact lQ dz
 .refine (so.and nd).imp λ{a b} ⟨le,ne⟩=>?_;rw[iE dz,iE dz,Xr,Xr];exact Rat.mul_lt_mul_of_pos_right (Rat.intCast_lt_intCast.mpr ()) (Rat.inv_pos.mpr dp)
 .rintro ⟨q,hq,rfl⟩;obtain⟨v,hv',rfl⟩:=List.mem_map.mp hq;rw[iE dz];exact (kL ok len c0n e).mp (t9 L0 v (pm.mem_iff.mp hv'))
 .rintro ⟨q,hq,hr⟩;obtain⟨f,mu⟩:=q;have hr:f=.line r:=hr;subst hr;obtain⟨v,hv',ev⟩:=Fc h m2 n0 L0 sv ((kL ok len c0n e).mpr ⟨_,hq,rfl⟩) (ul A0 hq) (ui A1 hq) he;exact⟨_,List.mem_map.mpr ⟨v,pm.mem_iff.mpr hv',rfl⟩,by rw[iE dz,ev]⟩
 .rw[YD,pm.length_eq];exact xq ok len c0n e h L0 sv.1
theorem iH.snoc{h0:List Int}{m reach t:Int}{k:Nat}{rs:List (Int×Int)}(h:iH h0 m reach k rs)(lt:∀p∈rs,p.1<k)(km:(k:Int)<m)(d:m∣zv h0 k)(R:Gm h0 m k reach t):iH h0 m reach (k+1) (rs++[((k:Int),t)]):=by
 refine⟨λp hp=>?_,List.pairwise_append.mpr ⟨h.rise,List.pairwise_singleton _ _,λp hp q hq=>?_⟩,λx x0 x1 hx=>?_⟩
 .rcases List.mem_append.mp hp with q|q
  .exact h.each p q
  .rw[List.mem_singleton.mp q];exact⟨Int.natCast_nonneg _,km,d,R⟩
 .rw[List.mem_singleton.mp hq];exact lt p hp
 .by_cases z:x<k
  .obtain⟨t,ht⟩:=h.all x x0 z hx;exact⟨t,Yl _ ht⟩
  .have:x=k:=();subst this;exact⟨t,Ys _ Yi⟩
theorem iH.skip{h0:List Int}{m reach:Int}{k:Nat}{rs:List (Int×Int)}(h:iH h0 m reach k rs)(d:¬ m∣zv h0 k):iH h0 m reach (k+1) rs:=⟨h.each,h.rise,λx x0 x1 hx=>by
 by_cases z:x<k
 .exact h.all x x0 z hx
 .have:x=k:=();subst this;exact absurd hx d⟩
theorem sK{h0:List Int}{L:Int}{rs:List (Int×Int)}{q:Int×Int}:yt h0 L (rs++[q])=yt h0 L rs++if hv h0 q.2 L=0 then [q.2*L.sign] else []:=by
 unfold yt;rw[List.filter_append,XR];congr 1
 by_cases z:hv h0 q.2 L=0
 .simp[z]
 .simp[z]
theorem JD{ν:Int×Int}{b:Nat}(f:Fq ν)(hb:Bq b ν):∃q:Int×Int,dC (wv ν)=wv q/\Fq q/\Bq (b+b) q:=by
 obtain⟨n,d⟩:=ν;obtain⟨d0,g⟩:=f;have d0:0<d:=d0;have g:Int.gcd n d=1:=g;have dr:((d:Int):Rat)≠0:=aq ();have dp:(0:Rat)<((d:Int):Rat):=Rat.intCast_pos.mpr d0;have gg:Int.gcd (n*n) (d*d)=1:=by
  rw[Int.gcd_eq_natAbs_gcd_natAbs] at g ⊢;rw[YW,YW];have g:Nat.Coprime n.natAbs d.natAbs:=g;exact Nat.Coprime.mul_left (Nat.Coprime.mul_right g g) (Nat.Coprime.mul_right g g)
 have dd:0<d*d:=Y1 d0 d0;have b1:Bt (b+b) (n*n):=hb.1.mul hb.1;have b2:Bt (b+b) (d*d):=hb.2.mul hb.2;have w:wv (n*n,d*d)=wv (n,d)*wv (n,d):=by
  show ((n*n:Int):Rat)/((d*d:Int):Rat)=(n:Rat)/(d:Rat)*((n:Rat)/(d:Rat));rw[Xd,Xd];grind
 unfold dC;by_cases z:wv (n,d)<0
 .rw[Yb z];refine⟨(-(n*n),d*d),?_,⟨dd,?_⟩,⟨?_,b2⟩⟩
  .rw[<-w];show -(((n*n:Int):Rat)/((d*d:Int):Rat))=((-(n*n):Int):Rat)/((d*d:Int):Rat);rw[XE];grind
  .show Int.gcd (-(n*n)) (d*d)=1;rw[Int.neg_gcd];exact gg
  .show Bt _ (-(n*n));unfold Bt at b1 ⊢
   rwa [Int.natAbs_neg]
 .rw[Yc z];exact⟨(n*n,d*d),w.symm,⟨dd,gg⟩,⟨b1,b2⟩⟩
theorem Du{l:List (aJ×Nat)}(nu:∀q∈l,∃(ν:Int×Int)(b:Nat),q.1.num=wv ν/\Fq ν/\Bq b ν/\b<=100):∀m∈zu l,∃q:Int×Int,m=wv q/\Fq q/\Bq 300 q:=λm hm=>by
 unfold zu at hm;obtain⟨q,hq,hm⟩:=List.mem_flatMap.mp hm;obtain⟨ν,b,e,f,hb,b100⟩:=nu q hq;obtain⟨k,_⟩:=q;cases k with
 | line r =>
  have e:r=wv ν:=e;have hm:m∈[dC r]:=hm;rw[List.mem_singleton.mp hm,e];obtain⟨p,h1,h2,h3⟩:=JD f hb;exact⟨p,h1,h2,h3.mono ()⟩
 | root n =>
  have e:n=wv ν:=e;have hm:m∈[-n,n]:=hm;rcases Y2.mp hm with rfl|hm
  .refine⟨(-ν.1,ν.2),?_,⟨f.1,?_⟩,⟨?_,hb.2.mono ()⟩⟩
   .rw[e];show -((ν.1:Rat)/(ν.2:Rat))=((-ν.1:Int):Rat)/(ν.2:Rat);rw[XE];grind
   .show Int.gcd (-ν.1) ν.2=1;rw[Int.neg_gcd];exact f.2
   .have:=hb.1.mono (show b<=300 by nofun)
    unfold Bt at this ⊢;show (-ν.1).natAbs<_
    rwa [Int.natAbs_neg]
  .rw[List.mem_singleton.mp hm];exact⟨ν,e,f,hb.mono ()⟩
 | none n=>cases hm
theorem wV:∀{xs ys:List Rat},xs.Pairwise (· < ·)->ys.Pairwise (· < ·)->(∀y,y∈xs↔y∈ys)->xs=ys
 | [],[],_,_,_=>rfl
 | [],y::ys,_,_,h=>by have:=(h y).mpr Yi;cases this
 | x::xs,[],_,_,h=>by have:=(h x).mp Yi;cases this
 | x::xs,y::ys,p,q,h=>by
  obtain⟨p1,p2⟩:=List.pairwise_cons.mp p;obtain⟨q1,q2⟩:=List.pairwise_cons.mp q;have e:x=y:=by
   rcases Y2.mp ((h x).mp Yi) with z|z
   .exact z
   .rcases Y2.mp ((h y).mpr Yi) with w|w
    .exact w.symm
    .have a:=q1 x z;have b:=p1 y w;grind
  subst e;rw[wV p2 q2 λz=>⟨λm=>?_,λm=>?_⟩]
  .rcases Y2.mp ((h z).mp (Yj _ m)) with w|w
   .have:=p1 z m;subst w;grind
   .exact w
  .rcases Y2.mp ((h z).mpr (Yj _ m)) with w|w
   .have:=q1 z m;subst w;grind
   .exact w
theorem xS:∀{ms ns:List (Int×Int)},(∀q∈ms,Fq q)->(∀q∈ns,Fq q)->ms.map wv=ns.map wv->ms=ns
 | [],[],_,_,_=>rfl
 | [],n::ns,_,_,h=>by cases h
 | m::ms,[],_,_,h=>by cases h
 | m::ms,n::ns,a,b,h=>by
  obtain⟨h1,h2⟩:=List.cons.inj h;rw[sk (a m Yi) (b n Yi) h1,xS (λq hq=>a q (Yj _ hq)) (λq hq=>b q (Yj _ hq)) h2]
theorem rS.eq{l:List (aJ×Nat)}{ms ns:List (Int×Int)}{L:List Rat}(h:rS l ms)(line:∀r,(∃q∈l,q.1=.line r)↔r∈L)(fn:∀q∈ns,Fq q)(up:(ns.map wv).Pairwise (· < ·))(mem:∀y,y∈ns.map wv↔y∈L):ms=ns:=by
 refine xS h.fq fn (wV (List.pairwise_map.mpr h.rise) up λy=>?_);rw[mem y,<-line y,<-h.just y];exact List.mem_map
end L2
set_option maxHeartbeats 8000000
namespace M
open PySem L2
open PySem.W (nsIn keepIn codeIn fnOf)
def dA(i:Nat):Stmt:=PySem.Challenge.pw_momentwright_k17_roots_that_are_fraction.main.body.getD i (.Pass ⟨0,0,0,0⟩)
abbrev dM:Stmt:=dA 12
theorem fM:az ["one", "other"] ["one", "other"] (ak dM):=by walk_at"a3"
abbrev kz:Stmt:=dA 13
theorem nA:az ["whole"] ["whole"] (ak kz):=by walk_at"a3"
abbrev qG:Stmt:=dA 14
theorem sI:az ["base", "many", "product", "turn"] ["base", "many"] (ak qG):=by walk_at"a3"
abbrev kh:Stmt:=dA 15
theorem oC:az ["numbers", "zero", "many"] ["numbers", "zero"] (ak kh):=by walk_at"a3"
abbrev lJ:Stmt:=dA 16
theorem ot:az ["wholes", "divisor", "whole"] ["wholes"] (ak lJ):=by walk_at"a3"
abbrev gm:Stmt:=dA 17
theorem ij:az ["wholes"] ["wholes"] (ak gm):=by walk_at"a3"
abbrev iK:Stmt:=dA 18
theorem jE:az ["wholes", "top", "bottom", "total", "scale", "whole"] ["wholes", "top", "bottom"] (ak iK):=by walk_at"a3"
abbrev fG:Stmt:=dA 19
theorem gO:az ["one", "other", "last", "rest", "quotient", "scale", "place", "part", "k"] ["one", "other"] (ak fG):=by walk_at"a3"
abbrev fZ:Stmt:=dA 20
theorem ir:az ["one", "other", "told", "lead", "height", "gap", "bottom", "quotient", "rest", "scale", "top", "lack"] ["one", "other"] (ak fZ):=by walk_at"a3"
abbrev se:Stmt:=dA 22
theorem sG:az ["top", "bottom", "divisor"] ["top", "bottom"] (ak se):=by walk_at"a3"
abbrev kK:Stmt:=dA 24
theorem oJ:az ["f", "bottom", "number"] ["f"] (ak kK):=by walk_at"a3"
abbrev dD:Stmt:=dA 26
theorem cZ:az ["f"] ["f"] (ak dD):=by walk_at"a3"
abbrev fX:Stmt:=dA 27
theorem io:az ["one", "other", "told", "former", "latter", "rest", "quotient", "top", "bottom"] ["one", "other"] (ak fX):=by walk_at"a3"
abbrev gq:Stmt:=dA 28
theorem ik:az ["lists", "last"] ["lists"] (ak gq):=by walk_at"a3"
abbrev eX:Stmt:=dA 29
theorem gC:az ["f", "wholes"] ["f"] (ak eX):=by walk_at"a3"
abbrev gR:Stmt:=dA 30
theorem jc:az ["wholes", "bits", "exponent", "k", "whole"] ["wholes"] (ak gR):=by walk_at"a3"
abbrev iO:Stmt:=dA 32
theorem jY:az ["wholes", "x", "modulus", "total", "whole"] ["wholes", "x", "modulus"] (ak iO):=by walk_at"a3"
abbrev oK:Stmt:=dA 33
theorem pX:az ["wholes", "modulus", "numbers", "inclines", "x"] ["wholes", "modulus"] (ak oK):=by walk_at"a3"
abbrev fF:Stmt:=dA 34
theorem gN:az ["wholes", "modulus"] ["wholes"] (ak fF):=by walk_at"a3"
abbrev kX:Stmt:=dA 35
theorem oI:az ["wholes", "x", "modulus", "reach", "inclines", "steep", "inverse", "top"] ["wholes", "x", "modulus", "reach"] (ak kX):=by walk_at"a3"
abbrev c9:Stmt:=dA 36
theorem cT:az ["f", "wholes", "last", "reach", "modulus", "tops", "found"] ["f"] (ak c9):=by walk_at"a3"
abbrev kg:Stmt:=dA 38
theorem qx:az ["_law_script", "_law_k"] ["_law_script", "_law_k"] (ak kg):=by walk_at"a3"
abbrev rJ:Stmt:=dA 39
theorem wI:az ["_law_script", "_law_k", "_law_cell"] ["_law_script", "_law_k"] (ak rJ):=by walk_at"a3"
abbrev u6:Stmt:=dA 40
theorem Bu:az ["_law_state_here", "_law_many", "_law_found", "_law_stirred"] ["_law_state_here", "_law_many"] (ak u6):=by walk_at"a3"
abbrev ko:Stmt:=dA 41
theorem qg:az ["_law_one", "_law_other"] ["_law_one", "_law_other"] (ak ko):=by walk_at"a3"
abbrev BD:Stmt:=dA 42
theorem F5:az ["_law_top", "_law_bottom", "_law_by"] ["_law_top", "_law_bottom"] (ak BD):=by walk_at"a3"
abbrev rf:Stmt:=dA 43
theorem xC:az ["_law_state_here"] ["_law_state_here"] (ak rf):=by walk_at"a3"
abbrev kD:Stmt:=dA 44
theorem pK:az ["_law_state_here", "_law_most", "_law_found", "_law_near", "_law_turn", "_law_number", "_law_kind", "_law_many", "_law_by"] ["_law_state_here", "_law_most"] (ak kD):=by walk_at"a3"
abbrev rm:Stmt:=dA 45
theorem xz:az ["_law_numbers", "_law_many"] ["_law_numbers"] (ak rm):=by walk_at"a3"
abbrev uI:Stmt:=dA 46
theorem Bj:az ["_law_one", "_law_other"] ["_law_one", "_law_other"] (ak uI):=by walk_at"a3"
abbrev su:Stmt:=dA 47
theorem xA:az ["_law_one", "_law_other"] ["_law_one", "_law_other"] (ak su):=by walk_at"a3"
abbrev hJ:Stmt:=dA 48
theorem jW:az ["_law_f", "_law_g", "_law_found", "_law_i", "_law_j"] ["_law_f", "_law_g"] (ak hJ):=by walk_at"a3"
abbrev gU:Stmt:=dA 49
theorem jP:az ["_law_factors_here", "_law_found", "_law_kind", "_law_number", "_law_many", "_law_lesser", "_law_one", "_law_turn"] ["_law_factors_here"] (ak gU):=by walk_at"a3"
abbrev uQ:Stmt:=dA 50
theorem zT:az ["_law_one", "_law_other"] ["_law_one", "_law_other"] (ak uQ):=by walk_at"a3"
abbrev jy:Stmt:=dA 51
theorem uD:az ["_law_found", "_law_due_here"] ["_law_found", "_law_due_here"] (ak jy):=by walk_at"a3"
abbrev kR:Stmt:=dA 52
theorem pD:az ["_law_call", "_law_error", "e", "_law_kinds"] ["_law_call"] (ak kR):=by walk_at"a3"
abbrev AY:Stmt:=dA 53
theorem FV:az ["_law_factors_here", "_law_found", "_law_kind", "_law_number", "_law_many"] ["_law_factors_here"] (ak AY):=by walk_at"a3"
abbrev gB:Stmt:=dA 54
theorem CI:az ["_law_script", "_law_k", "_law_state_here", "_law_factors_here", "_law_more", "_law_some", "_law_f", "_law_due_here", "_law_found"] ["_law_script"] (ak gB):=by walk_at"a3"
structure gG (K:W.Frag)(mg:Str->Option Value):Prop where
 non:True
 b_abs:mg "abs" = none
 b_range:mg "range" = none
 b_len:mg "len" = none
 b_reversed:mg "reversed" = none
 b_max:mg "max" = none
 b_list:mg "list" = none
 b_sorted:mg "sorted" = none
 b_min:mg "min" = none
 b_isinstance:mg "isinstance" = none
 b_bool:mg "bool" = none
 b_tuple:mg "tuple" = none
 b_all:mg "all" = none
 b_zip:mg "zip" = none
 b_ValueError:mg "ValueError" = none
set_option compiler.extract_closed false
local macro_rules | `(tactic| walk_at "m")=>`(tactic| try simp only [L2.start,List.map_cons,List.map_nil,List.cons_append,List.nil_append,List.replicate_succ,List.replicate_zero,List.length_cons,List.length_nil,Nat.reduceSub,Nat.reduceAdd,Nat.zero_add,Cz,y9,Ho,wj,Lc,Eb,HK,Ef,KO,JN,KP,FQ,Fv,HA,Ie,Iz,GG,EX,Gv,Ed,EJ,GT,HF,DM,Er,wE,zX,JJ,JG])
local macro_rules | `(tactic| walk_at "d")=>`(tactic| try dsimp only [aR,oH,Aq,Ih,Gr,JI,CO,tH,gn,Jx,jm,vj,Hz,tC,CV,KU,A9,EM,KZ,IC,lT,yM,Gq,K9,Ir,Lh,wY,ub,ED,vH,id,Ld,sw,xG,Ke,Cz,JY,aV,EI,List.getElem?_cons_zero,List.getElem?_cons_succ,List.set_cons_zero,List.set_cons_succ,L2.start,Option.join,Option.bind,List.map_cons,List.map_nil,List.replicate_succ,List.replicate_zero,List.cons_append,List.nil_append,List.length_cons,List.length_nil,Nat.reduceSub,Nat.reduceAdd,Nat.zero_add,vb,wS,BJ,Ht,AD,mI,KS,mU,EQ,DL,GX,IF,Io,Ib,Bm,J2,BR,Ab,HJ,Jo,Cc,Cf,yy,yT,AA,KW,Li,CZ,BC,AH,AE,ID,HP,cond])
local macro_rules | `(tactic| walk_at "s")=>`(tactic| try simp only [oG,Ep,List.map_cons,List.map_nil,List.cons_append,List.nil_append,List.replicate_succ,List.replicate_zero,Option.join,Option.bind,aV,JO,Jt,rI,rU,iP,cG,c8,kO,my,rY,C1,E3,yg,Al,jm,vj,wq,IZ,IW,cY,nY,kq,kF,FY,lN,ji,m8,Kg,Eg,HO.lst.injEq,HO.tup.injEq,C3,Cb,KL,CL,exists_eq_left,exists_eq_left',exists_and_left,exists_and_right,V.int.injEq,V.bl.injEq,V.ref.injEq,V.str.injEq,V.ty.injEq,List.cons.injEq,and_true,true_and,and_self,List.getElem?_cons_zero,List.getElem?_cons_succ,Option.some.injEq,List.set_cons_zero,List.set_cons_succ,reduceCtorEq,or_false,false_or,false_and,and_false,exists_false,exists_eq,exists_eq',and_assoc,List.length_cons,List.length_nil,Nat.reduceSub,Nat.reduceAdd,Nat.zero_add,Bool.not_eq_true',decide_eq_false_iff_not,decide_eq_true_eq,Ff,Af,Ag,yp,ne_eq,not_true_eq_false,not_false_eq_true,ite_true,ite_false,if_true,if_false,Bool.false_eq_true,Bool.not_true,Bool.not_false,Bool.true_eq_false])
local macro_rules | `(tactic| walk_at "vc")=>`(tactic| (walk_at "d"; walk_at "s"; walk_at "d"; walk_at "s"; walk_at "d"; walk_at "s"))
local macro_rules | `(tactic| walk_at "vc*")=>`(tactic| (walk_at "vc"; (repeat (simp only [*]; walk_at "vc"))))
section
variable {P:Program}{w:World}{K:W.Frag}{mg:Str->Option Value}{base:Heap}{f:Addr}{fd:FuncData}
def aF(K:W.Frag):Sp:=λvs H Q _=>∃a b:Int,vs=[.int a,.int b]/\Q (.int (Int.gcd a b)) H
theorem i8(F:eD K "greatest_divisor" "greatest_divisor" dM f fd) (T:gG K mg):bj P w K mg base eP 1 f fd ["one", "other"] (aF K):=by
 have scN:=fM.nd;refine F.okQ fM (λvs H Q E h=>?_) (λcdv A outer s H vs Q E hr h=>?_)
 .obtain⟨a,b,rfl,_⟩:=h;rfl
 .obtain⟨a,b,rfl,h⟩:=h;refine⟨_,(ag (rN (i:=0) (j:=1) rfl scN rfl rfl ∅ rfl rfl (aa (ar iQ (by rfl) T.b_abs ni (aa (qv 0) ae)) (aa (ar iQ (by rfl) T.b_abs ni (aa (qv 1) ae)) ae)) rfl)
   (ag (fB PassesOwn.never (aH jO (qv 1) af (aM _)) (aj (rN (i:=0) (j:=1) rfl scN rfl rfl ∅ rfl rfl (aa (qv 1) (aa (ao cJ (qv 0) (qv 1)) ae)) rfl)))
   (aj (aB (qv 0))))),?_⟩
  walk_at"m";symm
  refine⟨λm σ H'=>H'=H /\ ∃x y:Int,σ=[some (.int x),some (.int y)]/\Int.gcd x y=Int.gcd a b/\0<=x/\0<=y/\m=y.natAbs,⟨_,rfl,_,_,rfl,?_,?_,?_,rfl⟩,?_⟩
  .split<;>split<;>simp
  .split<;>nofun
  .split<;>nofun
  .rintro m σ H' ⟨rfl,x,y,rfl,hg,hx,hy,rfl⟩;symm
   refine cO (λhy0=>?_) (λhy0=>?_)
   .refine⟨_,λσ' H' h=>h,?_⟩;symm
    exact⟨hy0,_,wf x hy0,by rw[sE,hg],hy,YQ x (),rfl⟩
   .symm
    have e:((Int.gcd a b:Nat):Int)=x:=by
     rw[<-hg,show y=0 by nofun]
     simp;nofun
    rw[<-e];exact h
def jV(K:W.Frag):Sp:=λvs H Q _=>∃a b:Int,vs=[.int a,.int b]/\b≠0/\Bt 4000000 b /\ ∀v H',ax (vw K H) (vw K H')->aO (vw K H') (fr (lo a b)) v->Q v H'
theorem zL(F:eD K "ratio" "ratio" se f fd) (T:gG K mg)(N_:nG P base)(C_greatest_divisor:dq P w K mg base "greatest_divisor" ["one", "other"] 1 (aF K)):bj P w K mg base eP 2 f fd ["top", "bottom"] (jV K):=by
 have scN:=sG.nd;refine F.okQ sG (λvs H Q E h=>?_) (λcdv A outer s H vs Q E hr h=>?_)
 .obtain⟨a,b,rfl,_⟩:=h;rfl
 .obtain⟨a,b,rfl,hb,hbb,h⟩:=h;refine⟨_,(ag (cQ (aH gk (qv 1) af (aM _)) (aj tJ) a8)
   (ag (au (i:=2) scN rfl (·) (av C_greatest_divisor nofun rfl (aa (qv 0) (aa (qv 1) ae))))
   (ag (cQ (aH wM (qv 1) af (aM _)) (aj (au (i:=2) scN rfl (·) (gf dL (qv 2)))) a8)
   (aj (aB (aL (aa (ao (fY N_ hr rfl rfl rfl) (qv 0) (qv 2)) (aa (ao (fY N_ hr rfl rfl rfl) (qv 1) (qv 2)) ae)))))))),?_⟩
  walk_at"m";symm
  simp only[aF];refine oM hb ?_;symm
  have hgn:Int.gcd a b≠0:=λe=>hb (Int.gcd_eq_zero_iff.mp e).2;have e1:lg a b=if b<0 then -(Int.gcd a b:Int) else (Int.gcd a b:Int):=rfl
  have d1:yZ a (-(Int.gcd a b:Int)):=by unfold yZ;nofun
  have d2:yZ a (Int.gcd a b:Int):=by unfold yZ;nofun
  refine cO (λhn=>?_) (λhn=>?_)
  .rw[Yb hn] at e1;refine⟨d1,d1,∅,λp H2 hp S hp2=>h _ H2 S ?_⟩;rw[<-e1] at hp2;exact cu hp2
  .rw[Yc hn] at e1;refine⟨d2,d2,∅,λp H2 hp S hp2=>h _ H2 S ?_⟩;rw[<-e1] at hp2;exact cu hp2
def jx(K:W.Frag):Sp:=λvs H Q _=>∃(a:Addr)(qs:List (Int×Int))(B:Nat),vs=[.ref a]/\dB (vw K H) a qs/\qs.length<=14/\B<=4000000/\(∀q∈qs,Fq q/\Bq B q) /\
 ∀p b H' (D:Int)(ns:List Int),ax (vw K H) (vw K H')->vw K H' p=some (.tup [.ref b,.int D])->vw K H' b=some (.lst (ns.map V.int))->vw K H b=none->0<D->Bt (1+qs.length*B) D->ns.length=qs.length ->
  (∀(i:Nat)(n:Int)(q:Int×Int),ns[i]? = some n->qs[i]? = some q->(n:Rat)=wv q*(D:Rat)/\Bt (1+qs.length*B+B) n)->(∀E:Int,(∀q∈qs,q.2∣E)->D∣E)->Q (.ref p) H'
theorem uW(F:eD K "cleared" "cleared" kK f fd) (T:gG K mg)(N_:nG P base)(C_greatest_divisor:dq P w K mg base "greatest_divisor" ["one", "other"] 1 (aF K)):bj P w K mg base eP 2 f fd ["f"] (jx K):=by
 have scN:=oJ.nd;refine F.okQ oJ (λvs H Q E h=>?_) (λcdv A outer s H vs Q E hr h=>?_)
 .obtain⟨a,_,_,rfl,_⟩:=h;rfl
 .obtain⟨a,qs,B,rfl,ha,hql,hB,hq,h⟩:=h;refine⟨_,(ag (au (i:=1) scN rfl (·) af)
   (ag (cS PassesOwn.never rfl (cg (qv 0)) (aw (i:=2) scN rfl (·)) (aj (ie (i:=1) scN rfl (·) (ao (fY N_ hr rfl rfl rfl) (aG dS (qv 2) af (λ_ _=>rfl)) (av C_greatest_divisor nofun rfl (aa (qv 1) (aa (aG dS (qv 2) af (λ_ _=>rfl)) ae)))) jQ)))
   (aj (aB (aL (aa (dX (own:=["top", "own"]) (outs:=["bottom"]) (ixs:=[1]) rfl (cg (qv 0)) rfl ⟨rfl,rfl,rfl,⟨rfl,trivial⟩,rfl,⟨⟨rfl,rfl,rfl,_,rfl⟩,trivial⟩⟩ (λ_ _ _ _=>⟨(show QG _ _ (lN K 2 _) from fS (n:=2) rfl (aS (aw (i:=0) (show (["top", "own", "bottom"]:List Str).Nodup by decide +kernel) rfl (·)) (aS (aw (i:=1) (show (["top", "own", "bottom"]:List Str).Nodup by decide +kernel) rfl (·)) fR))),eU,(ao (show fi _ _ (iU K) from aQ) (qv 0) (ao (t6 N_ hr rfl rfl rfl rfl rfl) (qv 2) (qv 1)))⟩)) (aa (qv 1) ae))))))),?_⟩
  walk_at"m";symm
  obtain⟨xs,hxs,rxs⟩:=id ha;have hlx:xs.length=qs.length:=by rw[rxs.length,YD]
  have hLB:∀i,i<=qs.length->i*B<=56000000:=λi hi=>Yg (Xm (Yg hi hql) hB) ∅;refine⟨⟨xs,.of (aE hxs)⟩,?_⟩;obtain⟨Pv,hPv⟩ : ∃Pv:Nat->St->Hp->Prop,∀i σ H',Pv i σ H'↔H'=H /\ ∃b y,σ=[some (.ref a),some (.int b),y]/\0<b/\Bt (1+i*B) b/\(∀q∈qs.take i,q.2∣b) /\ ∀E:Int,(∀q∈qs.take i,q.2∣E)->b∣E:=⟨_,λ_ _ _=>XI⟩;refine aZ (its:=xs) Pv (λi σ H' _ p=>?_) ((hPv _ _ _).mpr ⟨rfl,_,_,rfl,∅,by rw[Nat.zero_mul];decide,(by simp),λE _=>Int.one_dvd E⟩) (λi x σ H1 hi hx pv=>?_) (λσ H1 pv=>?_)
  .obtain⟨rfl,_⟩:=(hPv _ _ _).mp p;exact aP hxs
  .obtain⟨rfl,b,y,rfl,hb,bb,hd,hm⟩:=(hPv _ _ _).mp pv;have hi':i<qs.length:=();obtain⟨d,e,r⟩:=rxs.get hx;rw[YA,YN hi'] at e;cases e;obtain⟨p,rfl,hp⟩:=r.fr_at;obtain⟨fq,bq⟩:=hq qs[i] (YM hi');obtain⟨l1,l2,l3,l4,l5⟩:=t7 hb fq.1;symm
   simp only[aF];symm
   refine⟨_,hp,_,m8,_,hp,_,m8,_,rfl,?_⟩;symm
   have hgb:Bt B (Int.gcd b qs[i].2:Int):=bq.2.le () l5;have hcb:Bt B (qs[i].2.fdiv (Int.gcd b qs[i].2:Int)):=bq.2.le () l2;have:=hLB i ();refine⟨l4,bJ bb hcb (),(hPv _ _ _).mpr ⟨rfl,_,_,rfl,Y1 hb l1,(bb.mul hcb).mono (by rw[Xl];nofun),λq hq'=>?_,λE hE=>?_⟩⟩
   .rw[XS,YN hi'] at hq';rcases List.mem_append.mp hq' with z|z
    .exact XA (hd q z) (XN _ _)
    .cases List.mem_singleton.mp z;exact l3
   .rw[XS,YN hi'] at hE;exact Dy hb fq.1 (hm E λq z=>hE q (List.mem_append.mpr (.inl z))) (hE _ (List.mem_append.mpr (.inr (List.mem_singleton.mpr rfl))))
  .obtain⟨rfl,D,y,rfl,hD,bD,hd,hmin⟩:=(hPv _ _ _).mp pv;rw[hlx] at bD hd hmin;rw[XT] at hd hmin;have hLBq:=hLB qs.length (Yq _);symm
   refine⟨⟨xs,.of (aE hxs)⟩,λc H2 hc S2 h2=>?_⟩;refine uB (its:=xs) (ps:=qs.map λq=>(V.int q.1,V.int q.2)) (λi ys H'=>ax (vw K H1) (vw K H')/\ys=(qs.take i).map λq=>V.int (q.1*D.fdiv q.2)) (by rw[YD];exact hlx) (λi ys H' _ _ p=>⟨aP (p.1 _ _ hxs),λj u v e=>?_⟩) h2 ⟨S2,rfl⟩ (λi u v ys H' hi huv h' p=>?_) (λys H' h' p=>?_)
   .rw[YA] at e;cases e2:qs[j]? with
    | none=>rw[e2] at e;cases e
    | some q =>
     rw[e2] at e;cases e;obtain⟨x,e3,r⟩:=rxs.at (i:=j) (d:=fr q) (by rw[YA,e2];rfl)
     obtain⟨p2,rfl,hp2⟩:=r.fr_at;exact⟨p2,e3,p.1 _ _ hp2⟩
   .obtain⟨S',rfl⟩:=p;rw[YD] at hi;rw[YA,YN hi] at huv;cases huv;obtain⟨fq,bq⟩:=hq qs[i] (YM hi);obtain⟨c1,c2,c3⟩:=tf fq (hd qs[i] (YM hi)) hD bD bq.1;symm
    refine⟨(show yZ _ _ from λz=>by have:=fq.1;nofun),bJ bq.1 c3 (),.mk2 h' ?_ λH5 B5 h5=>⟨λb o e=>B5 _ _ (ah e hc) (S' _ _ e),?_⟩⟩
    .rw[YD,Yw];have:1000<=sizeLine:=∅;nofun
    .rw[XS,YN hi,XR];rfl
   .obtain⟨S',rfl⟩:=p;rw[YD,XT] at h';symm
    refine⟨∅,λp5 H5 hp5 S5 h5=>h p5 c H5 D (qs.map λq=>q.1*D.fdiv q.2) (S'.trans S5) h5 (by rw[List.map_map];exact S5 _ _ h') hc hD bD (by rw[YD]) (λi n q e1 e2=>?_) hmin⟩
    rw[YA,e2] at e1;cases e1;have hm:=YB e2;obtain⟨fq,bq⟩:=hq q hm;obtain⟨c1,c2,c3⟩:=tf fq (hd q hm) hD bD bq.1;exact⟨c1,c2⟩
def lU(K:W.Frag):Sp:=λvs H Q _=>∃(a:Addr)(ns:List Int),vs=[.ref a,.int 0]/\vw K H a=some (.lst (ns.map V.int)) /\
 ∀b H' (ms:List Int),ax (vw K H) (vw K H')->vw K H' b=some (.lst (ms.map V.int))->vw K H b=none->(∀k,nz ms k=nz ns k)->ms.length<=ns.length->(ms.length≠0->nz ms (ms.length-1)≠0)->Q (.ref b) H'
def jq(K:W.Frag):Sp:=λvs H Q E=>(∃(a z:Addr)(qs:List (Int×Int)),vs=[.ref a,.ref z]/\dB (vw K H) a qs/\vw K H z=some (.tup [.int 0,.int 1])/\(∀q∈qs,Fq q) /\
 ∀b H' (rs:List (Int×Int)),ax (vw K H) (vw K H')->dB (vw K H') b rs->vw K H b=none->eO rs->(∀k,cf rs k=cf qs k)->rs.length<=qs.length->(∀q∈rs,q∈qs)->Q (.ref b) H')\/lU K vs H Q E
theorem vi(F:eD K "trimmed" "trimmed" kh f fd) (T:gG K mg):bj P w K mg base eP 1 f fd ["numbers", "zero"] (jq K):=by
 have scN:=oC.nd;refine F.okQ oC (λvs H Q E h=>?_) (λcdv A outer s H vs Q E hr h=>?_)
 .rcases h with ⟨a,_,_,rfl,_⟩|⟨a,_,rfl,_⟩<;>rfl
 rcases h with ⟨a,z,qs,rfl,ha,hz,hF,h⟩|⟨a,ns,rfl,ha,h⟩
 .skip
  refine⟨_,(ag (au (i:=2) scN rfl (·) (ar aU (by rfl) T.b_len cx (aa (qv 0) ae)))
   (ag (fB PassesOwn.never (QW.pt (kx (aH ug (qv 2) af (aM _)) (iX (aH (qH hr.u64) (aG dJ (qv 0) (ao cz (qv 2) af) (λ_ _=>rfl)) (qv 1) (aM _))))) (aj (ie (i:=2) scN rfl (·) af uY)))
   (aj (aB (m4 nJ (qv 0) rA (qU (qv 2))))))),?_⟩
  walk_at"m";symm
  refine⟨_,ha.len,λm σ H'=>H'=H/\m<=qs.length/\(∀q∈qs.drop m,q.1=0)/\σ=[some (.ref a),some (.ref z),some (.int m)],⟨_,rfl,Yq _,by simp,rfl⟩,?_⟩
  rintro k σ H' ⟨rfl,hk,hdr,rfl⟩;obtain⟨xs,hax,rx⟩:=ha;have hlx:xs.length=qs.length:=by rw[rx.length,YD]
  have fin:(∀q,(qs.take k).getLast? = some q->q.1≠0)->Nw K H' (HO.lst (nV xs none (some (k:Int)))) Q:=λhq p H2 hp S2 h2=>by
   rw[vU ()] at h2;refine h p H2 (qs.take k) S2 ⟨_,h2,?_⟩ hp ⟨λq hq'=>hF q (List.mem_of_mem_take hq'),hq⟩ (xu hF hdr) (by rw[Yw];nofun) λq hq'=>List.mem_of_mem_take hq'
   rw[List.map_take];exact (rx.take k).same S2
  symm
  refine cO (λh0=>?_) (λh0=>?_)
  .have hk1:k-1<qs.length:=();obtain⟨x,hx,r⟩:=rx.at (i:=k-1) (d:=fr qs[k-1]) (by rw[YA,YN hk1];rfl)
   have e1:((k:Int)-1)=((k-1:Nat):Int):=();have fq:=hF qs[k-1] (YM hk1);refine⟨_,hax,_,by rw[e1];exact cD hx,_,r,fr (0,1),cu hz,vq _,vq _,?_⟩
   rw[CA];refine cO (λhq=>?_) (λhq=>?_)
   .have hq0:qs[k-1].1=0:=(wk fq).mp (Xz hq);refine⟨_,λσ' H'' z=>z,?_⟩;refine⟨_,_,rfl,rfl,k-1,(),rfl,(),λq' hq'=>?_,by rw[<-e1]⟩
    rw[Xe hk1,show k-1+1=k by nofun] at hq'
    rcases Y2.mp hq' with z|z
    .rw[z];exact hq0
    .exact hdr q' z
   .refine⟨_,hax,fin λq hq2=>?_⟩;have:(qs.take k).getLast? = some qs[k-1]:=by
     rw[Xf,Yw,List.getElem?_take];rw[Yb (),show min k qs.length-1=k-1 by nofun,YN hk1]
    rw[this] at hq2;cases hq2;exact λe=>hq (YK ((wk fq).mpr e))
  .refine⟨_,hax,fin λq hq=>?_⟩;rw[show k=0 by nofun] at hq
   cases hq
 .refine⟨_,(ag (au (i:=2) scN rfl (·) (ar aU (by rfl) T.b_len cx (aa (qv 0) ae)))
   (ag (fB PassesOwn.never (QW.pt (kx (aH ug (qv 2) af (aM _)) (iX (aH (qH hr.u64) (aG dJ (qv 0) (ao cz (qv 2) af) (λ_ _=>rfl)) (qv 1) (aM _))))) (aj (ie (i:=2) scN rfl (·) af uY)))
   (aj (aB (m4 nJ (qv 0) rA (qU (qv 2))))))),?_⟩
  walk_at"m";symm
  have hln:ig (vw K H) a=some ns.length:=by simp only[ig,ha,YD]
  refine⟨_,hln,λm σ H'=>H'=H/\m<=ns.length/\(∀q∈ns.drop m,q=0)/\σ=[some (.ref a),some (.int 0),some (.int m)],⟨_,rfl,Yq _,by simp,rfl⟩,?_⟩
  rintro k σ H' ⟨rfl,hk,hdr,rfl⟩;have fin:(k≠0->nz ns (k-1)≠0)->Nw K H' (HO.lst (nV (ns.map V.int) none (some (k:Int)))) Q:=λhz p H2 hp S2 h2=>by
   rw[vU (by simpa using hk),<-List.map_take] at h2
   exact h p H2 (ns.take k) S2 h2 hp (wB hdr) (by rw[Yw];nofun) (by rw[Yw,Nat.min_eq_left hk,wB hdr];exact hz)
  symm
  refine cO (λh0=>?_) (λh0=>?_)
  .have hk1:k-1<ns.length:=();have e1:((k:Int)-1)=((k-1:Nat):Int):=();have hx:(ns.map V.int)[k-1]? = some (V.int ns[k-1]):=by rw[YA,YN hk1];rfl
   refine⟨_,ha,_,by rw[e1];exact cD hx,_,.mk_int _,.int 0,.mk_int _,xf _,xf _,?_⟩
   rw[E2];refine cO (λhq=>?_) (λhq=>?_)
   .have hq0:ns[k-1]=0:=Xz hq;refine⟨_,λσ' H'' z=>z,?_⟩;refine⟨_,_,rfl,rfl,k-1,(),rfl,(),λq' hq'=>?_,by rw[<-e1]⟩
    rw[Xe hk1,show k-1+1=k by nofun] at hq'
    rcases Y2.mp hq' with z|z
    .rw[z];exact hq0
    .exact hdr q' z
   .exact⟨_,ha,fin λ_=>by rw[aT (YN hk1)];exact λe=>hq (YK e)⟩
  .exact⟨_,ha,fin λz=>by nofun⟩
def cH(K:W.Frag):Sp:=λvs H Q _=>∃(a b:Addr)(ms ns:List Int)(m c:Nat),vs=[.ref a,.ref b]/\vw K H a=some (.lst (ms.map V.int))/\vw K H b=some (.lst (ns.map V.int))/\0<ns.length/\nz ns (ns.length-1)≠0/\ms.length<=19/\ns.length<=11/\m<=40000000/\c<=20000/\(c+1)*ms.length<=290000/\(∀x∈ms,Bt m x)/\(∀x∈ns,Bt c x) /\
 ∀(p qa ra:Addr)(S:Int)(qs rs:List Int)(H':Hp),ax (vw K H) (vw K H')->vw K H' p=some (.tup [.ref qa,.ref ra,.int S])->vw K H' qa=some (.lst (qs.map V.int))->vw K H' ra=some (.lst (rs.map V.int))->vw K H ra=none->qs.length=ms.length+1-ns.length->rs.length<ns.length->(∃e,e<=ms.length+1-ns.length/\S=nz ns (ns.length-1)^e)->(Da ms ns->S=1)->Bt 300000 S->(∀x∈qs,Bt (m+400000) x)->(∀x∈rs,Bt (m+400000) x)->(rs.length≠0->nz rs (rs.length-1)≠0)->(∀k,S*nz ms k=pz (nz qs) (nz ns) qs.length k+nz rs k)->(∀x∈rs,Bt (m+(c+1)*(ms.length+1-ns.length)) x)->Q (.ref p) H'
theorem ky(F:eD K "wholes_parted" "wholes_parted" fG f fd) (T:gG K mg)(N_:nG P base)(C_trimmed:dq P w K mg base "trimmed" ["numbers", "zero"] 1 (jq K)):bj P w K mg base eP 2 f fd ["one", "other"] (cH K):=by
 have scN:=gO.nd;refine F.okQ gO (λvs H Q E h=>?_) (λcdv A outer s H vs Q E hr h=>?_)
 .obtain⟨a,_,_,_,_,_,rfl,_⟩:=h;rfl
 .obtain⟨a,b,ms,ns,m,c,rfl,ha,hb,ln0,hL,lm,ln,hm,hc,hcm,bm,bn,h⟩:=h;refine⟨_,(ag (au (i:=2) scN rfl (·) (aG dJ (qv 1) (gf dL af) (λ_ _=>rfl)))
   (ag (au (i:=3) scN rfl (·) (qb oD (by rfl) T.b_list j8 (aa (qv 0) ae)))
   (ag (au (i:=4) scN rfl (·) (ao aQ (a7 (aa af ae)) (ar (kP rfl) (by rfl) T.b_max u4 (aa af (aa (ao bK (ao cz (ar aU (by rfl) T.b_len cx (aa (qv 0) ae)) (ar aU (by rfl) T.b_len cx (aa (qv 1) ae))) af) ae)))))
   (ag (au (i:=5) scN rfl (·) af)
   (ag (cS PassesOwn.never rfl (zj rfl T.b_range (aa (ao cz (ar aU (by rfl) T.b_len cx (aa (qv 0) ae)) (ar aU (by rfl) T.b_len cx (aa (qv 1) ae))) (aa (gf dL af) (aa (gf dL af) ae)))) (aw (i:=6) scN rfl (·)) (ag (au (i:=7) scN rfl (·) (uX XU PySem.F.slot_list_pop PySem.F.type_list_pop DT (qv 3)))
   (ag (cQ (aH gk (ao cJ (qv 7) (qv 2)) af (aM _)) (aj (ie (i:=7) scN rfl (·) (qv 2) (Ax N_ hr rfl rfl rfl))) (ag (ie (i:=5) scN rfl (·) (qv 2) jQ)
   (ag (gX (i:=4) (own:=["whole"]) (outs:=["last"]) (ixs:=[2]) scN rfl (·) rfl (cg (qv 4)) rfl ⟨rfl,rfl,rfl,⟨rfl,trivial⟩,rfl,⟨⟨rfl,rfl,rfl,_,rfl⟩,trivial⟩⟩ (λ_ _ _ _=>⟨(aw (i:=0) (show (["whole", "last"]:List Str).Nodup by decide +kernel) rfl (·)),eU,(ao (show fi _ _ (iU K) from aQ) (qv 1) (qv 0))⟩))
   (aj (gX (i:=3) (own:=["whole"]) (outs:=["last"]) (ixs:=[2]) scN rfl (·) rfl (cg (qv 3)) rfl ⟨rfl,rfl,rfl,⟨rfl,trivial⟩,rfl,⟨⟨rfl,rfl,rfl,_,rfl⟩,trivial⟩⟩ (λ_ _ _ _=>⟨(aw (i:=0) (show (["whole", "last"]:List Str).Nodup by decide +kernel) rfl (·)),eU,(ao (show fi _ _ (iU K) from aQ) (qv 1) (qv 0))⟩))))))
   (ag (iI (qv 7) (rK (qv 4) (qv 6) gL))
   (aj (cS PassesOwn.never rfl (ck rfl T.b_range (aa (ao cz (ar aU (by rfl) T.b_len cx (aa (qv 1) ae)) af) ae)) (aw (i:=8) scN rfl (·)) (aj (Dl (qv 3) (ao bK (qv 6) (qv 8)) ze (ao aQ (qv 7) (aG dJ (qv 1) (qv 8) (λ_ _=>rfl))) uY gL))))))))
   (aj (aB (aL (aa (qv 4) (aa (av C_trimmed nofun rfl (aa (qv 3) (aa af ae))) (aa (qv 5) ae))))))))))),?_⟩
  walk_at"m";skip
  obtain⟨L,hLd⟩ : ∃L,L=nz ns (ns.length-1):=⟨_,rfl⟩;have hgl:ns.length-1<ns.length:=();have nl:ns[ns.length-1]=L:=by rw[hLd,aT (YN hgl)]
  have bL:Bt c L:=nl▸bn _ (YM hgl);rw[<-hLd] at hL;have xl:(ns.map V.int).getLast? = some (.int L):=by
   rw[Xf,YD,YA,YN hgl,nl];rfl
  refine aR.gen λN1 hN1=>?_;symm
  refine⟨_,hb,_,gE xl,hN1 _ _ ?_⟩;refine aR.gen λN2 hN2=>?_;symm
  refine⟨_,ha,λr1 H1 hr1 S1 h1=>hN2 _ _ ?_⟩;refine aR.gen λN3 hN3=>?_;symm
  have lena:∀{H':Hp},ax (vw K H) (vw K H')->ig (vw K H') a=some ms.length:=λS=>by simp only[ig,S _ _ ha,YD]
  have lenb:∀{H':Hp},ax (vw K H) (vw K H')->ig (vw K H') b=some ns.length:=λS=>by simp only[ig,S _ _ hb,YD]
  refine⟨∅,λp2 H2 hp2 S2 h2=>?_⟩;have S02:=S1.trans S2;refine⟨_,lena S02,_,lenb S02,?_⟩;obtain⟨n,hn,hnn⟩ : ∃n:Nat,(if (ms.length:Int)-(ns.length:Int)+1 > 0 then (ms.length:Int)-(ns.length:Int)+1 else 0)=(n:Int)/\n=ms.length+1-ns.length:=by
   refine⟨ms.length+1-ns.length,?_,rfl⟩;split<;>nofun
  rw[hn,nY];refine⟨_,h2,(),(),?_,λq1 H3 hq1 S3 h3=>hN3 _ _ ?_⟩
  .have:1000<=sizeLine:=∅;simp;nofun
  rw[show ((n:Nat):Int).toNat=n by nofun,sJ] at h3
  have S03:=S02.trans S3;refine aR.gen λN4 hN4=>?_;symm
  refine hN4 _ _ ?_;refine aR.gen λN5 hN5=>?_;symm
  simp only[BU];symm
  refine⟨_,lena S03,_,lenb S03,(),(),∅,∅,?_⟩;rw[show ((ms.length:Int)-(ns.length:Int) - -1).toNat=n by nofun]
  have nr1:vw K H r1=none:=hr1;have nq1:vw K H q1=none:=S02.none hq1;obtain⟨Pv,hPv⟩ : ∃Pv:Nat->St->Hp->Prop,∀i σ H',Pv i σ H' ↔ ∃(ra qa:Addr)(rs qs:List Int)(S:Int)(o6 o7 o8:Option V),σ=[some (.ref a),some (.ref b),some (.int L),some (.ref ra),some (.ref qa),some (.int S),o6,o7,o8]/\ax (vw K H) (vw K H') /\
    vw K H' ra=some (.lst (rs.map V.int))/\vw K H' qa=some (.lst (qs.map V.int))/\vw K H ra=none/\vw K H qa=none/\ra≠qa/\rs.length+i=ms.length/\qs.length=n/\(∃e,e<=i/\S=L^e/\(Da ms ns->S=1))/\Bt (1+c*i) S/\(∀x∈rs,Bt (m+(c+1)*i) x)/\(∀x∈qs,Bt (m+(c+1)*i) x) /\
    (∀k,k+i+ns.length<=ms.length->nz qs k=0)/\(∀k,S*nz ms k=pz (nz qs) (nz ns) n k+nz rs k):=⟨_,λ_ _ _=>XI⟩
  refine aZ (its:=zt ((ms.length:Int)-(ns.length:Int)) n) Pv (λ_ _ _ _ _=>CG) ((hPv _ _ _).mpr ⟨r1,q1,ms,List.replicate n 0,1,_,_,_,rfl,S03,(S2.trans S3) _ _ h1,?_,nr1,nq1,?_,(),by simp,⟨0,(),(Xo _).symm,λ_=>rfl⟩,?_,λx hx=>(bm x hx).mono (),λx hx=>?_,λk _=>?_,λk=>?_⟩) (λi x σ H4 hi hx pv=>?_) (λσ H4 pv=>?_)
  .rw[h3,wP]
  .exact ah (S2 _ _ h1) hq1
  .exact Bt.mono (m:=1) ∅ ()
  .rw[(List.mem_replicate.mp hx).2];exact hZ
  .unfold nz;rw[Y7,List.getElem?_replicate];split<;>rfl
  .rw[v9 (f:=nz (List.replicate n 0)) (λi=>by
    unfold nz;rw[Y7,List.getElem?_replicate];split<;>rfl)]
   nofun
  .obtain⟨ra,qa,rs,qs,S,o6,o7,o8,rfl,S4,hra,hqa,nra,nqa,nrq,lrs,lqs,nS,bS,br,bq,zq,ev⟩:=(hPv _ _ _).mp pv;obtain⟨hi',rfl⟩:=Gc hx;obtain⟨p,hp⟩ : ∃p:Nat,(ms.length:Int)-(ns.length:Int)-(i:Int)=(p:Int):=⟨ms.length-ns.length-i,()⟩;have hpi:p+i+ns.length=ms.length:=();have hrl:rs.length-1<rs.length:=();obtain⟨Pt,hPt⟩ : ∃Pt,Pt=rs[rs.length-1]:=⟨_,rfl⟩;have hi9:i<=ms.length:=();have hci:(c+1)*i<=290000:=Yg (XM _ hi9) hcm;have hci2:c*i<=290000:=Yg (Xm (Nat.le_succ c) hi9) hcm;rw[hp];simp only[gn];refine aR.gen λM1 hM1=>?_;symm
   have xp:(rs.map V.int)[(rs.map V.int).length-1]? = some (.int Pt):=by
    rw[YD,YA,YN hrl,hPt];rfl
   refine⟨lE hra,_,hra,_,xp,λH5 B5 h5=>hM1 _ _ ?_⟩;rw[<-List.map_dropLast] at h5;have S5:ax (vw K H) (vw K H5):=λy o e=>B5 _ _ (ah e nra) (S4 _ _ e);have hqa5:=B5 _ _ nrq.symm hqa;have bP:Bt (m+(c+1)*i) Pt:=hPt▸br _ (YM hrl);have dA:rs.length-1=p+(ns.length-1):=();have nP:nz rs (p+(ns.length-1))=Pt:=by rw[<-dA,aT (YN hrl),hPt]
   have ldl:rs.dropLast.length+(i+1)=ms.length:=by rw[List.length_dropLast];nofun
   refine aR.gen λM2 hM2=>?_;have key:∀(ra' qa':Addr)(R:Nat->Int)(rs1 qs1:List Int)(S1 part:Int)(H':Hp),ax (vw K H) (vw K H')->vw K H' ra'=some (.lst (rs1.map V.int))->vw K H' qa'=some (.lst (qs1.map V.int))->vw K H ra'=none->vw K H qa'=none->ra'≠qa'->rs1.length+(i+1)=ms.length->qs1.length=n->(∃e,e<=i+1/\S1=L^e/\(Da ms ns->S1=1))->Bt (1+c*(i+1)) S1 ->
     (∀x∈rs1,Bt (m+(c+1)*i+c) x)->(∀x∈qs1,Bt (m+(c+1)*i+c) x)->Bt (m+(c+1)*i) part->(∀k,k+i+ns.length<=ms.length->nz qs1 k=0)->(∀k,S1*nz ms k=pz (nz qs1) (nz ns) n k+R k)->R (p+(ns.length-1))=part*L->(∀k,nz rs1 k=if k=p+(ns.length-1) then 0 else R k) ->
     M2 [some (.ref a),some (.ref b),some (.int L),some (.ref ra'),some (.ref qa'),some (.int S1),some (.int p),some (.int part),o8] H':=by
    intro ra' qa' R rs1 qs1 S1 part H' Sx hr' hq' nr' nq' ne' l1 l2 n1 b1 b2 b3 b4 z1 e1 e2 e3;refine hM2 _ _ ?_;refine aR.gen λM3 hM3=>?_;symm
    refine⟨_,hq',p,qM (by rw[YD];nofun),λH7 B7 h7=>hM3 _ _ ?_⟩
    rw[<-List.map_set] at h7;have S7:ax (vw K H) (vw K H7):=λy o e=>B7 _ _ (ah e nq') (Sx _ _ e);have hr7:=B7 _ _ ne' hr';symm
    refine⟨_,lenb S7,(),(),?_⟩;rw[show ((ns.length:Int)-1).toNat=ns.length-1 by nofun]
    obtain⟨Pw,hPw⟩ : ∃Pw:Nat->St->Hp->Prop,∀l σ H',Pw l σ H' ↔ ∃(rs2:List Int)(o8:Option V),σ=[some (.ref a),some (.ref b),some (.int L),some (.ref ra'),some (.ref qa'),some (.int S1),some (.int p),some (.int part),o8]/\ax (vw K H) (vw K H')/\vw K H' ra'=some (.lst (rs2.map V.int))/\vw K H' qa'=some (.lst ((qs1.set p part).map V.int))/\rs2.length=rs1.length /\
      (∀x∈rs2,Bt (m+(c+1)*(i+1)) x) /\ ∀k,nz rs2 k=nz rs1 k-if p<=k/\k<p+l then part*nz ns (k-p) else 0:=⟨_,λ_ _ _=>XI⟩
    have more:(c+1)*(i+1)=(c+1)*i+(c+1):=by rw[Nat.mul_add];nofun
    refine aZ (its:=dy 0 (ns.length-1)) Pw (λ_ _ _ _ _=>aX) ((hPw _ _ _).mpr ⟨rs1,_,rfl,S7,hr7,h7,rfl,λx hx=>(b2 x hx).mono (),λk=>by rw[Yc ()];nofun⟩) (λl x σ H8 hl hx pw=>?_) (λσ H8 pw=>?_)
    .obtain⟨rs2,o8',rfl,S8,hr8,hq8,l8,b8,e8⟩:=(hPw _ _ _).mp pw;obtain⟨hl',rfl⟩:=d5 hx;have hpl:p+l<rs2.length:=();have hln:l<ns.length:=();simp only[Aa,K0];symm
     have xr:(rs2.map V.int)[p+l]? = some (.int rs2[p+l]):=by rw[YA,YN hpl];rfl
     have xn:(ns.map V.int)[l]? = some (.int ns[l]):=by rw[YA,YN hln];rfl
     have epl:(p:Int)+(0+(l:Int))=((p+l:Nat):Int):=();have vr:rs2[p+l]=nz rs1 (p+l):=by
      have:=e8 (p+l);rw[aT (YN hpl),Yc ()] at this;nofun
     have vn:ns[l]=nz ns l:=(aT (YN hln)).symm;refine⟨_,hr8,_,by rw[epl];exact cD xr,_,S8 _ _ hb,_,by rw[Int.zero_add];exact cD xn,?_⟩
     rw[cY];refine⟨bJ b4 (bn _ (YM hln)) (),_,rfl,_,rfl,_,hr8,p+l,by rw[epl];exact qM (by rw[YD];exact hpl),λH9 B9 h9=>?_⟩
     rw[<-List.map_set] at h9;refine (hPw _ _ _).mpr ⟨rs2.set (p+l) (rs2[p+l]-part*ns[l]),_,rfl,λy o e=>B9 _ _ (ah e nr') (S8 _ _ e),h9,B9 _ _ ne'.symm hq8,by rw[List.length_set];exact l8,λx hx=>?_,λk=>?_⟩
     .rcases List.mem_or_eq_of_mem_set hx with z|rfl
      .exact b8 x z
      .have y1:Bt (m+(c+1)*i+c) rs2[p+l]:=by rw[vr];exact qp b2 _
       have y2:Bt (m+(c+1)*i+c) (part*ns[l]):=b4.mul (bn _ (YM hln));unfold Bt at y1 y2 ⊢;rw[more,show m+((c+1)*i+(c+1))=(m+(c+1)*i+c)+1 by nofun,YY]
       nofun
     .rw[qF hpl,e8 k];by_cases hk:k=p+l
      .subst hk;rw[Yb rfl,Yb (),show p+l-p=l by nofun,vr,vn]
      .rw[Yc hk];by_cases hk2:p<=k/\k<p+l
       .rw[Yb hk2,Yb ()]
       .rw[Yc hk2,Yc ()]
    .obtain⟨rs2,o8',rfl,S8,hr8,hq8,l8,b8,e8⟩:=(hPw _ _ _).mp pw;rw[cW] at e8;refine (hPv _ _ _).mpr ⟨ra',qa',rs2,qs1.set p part,S1,_,_,_,rfl,S8,hr8,hq8,nr',nq',ne',(),by rw[List.length_set];exact l2,n1,b1,b8,λx hx=>?_,λk hk=>?_,?_⟩
     .rcases List.mem_or_eq_of_mem_set hx with z|rfl
      .exact (b3 x z).mono ()
      .exact b4.mono ()
     .rw[qF (),Yc ()];exact z1 k ()
     .exact yd (l:=ns.length-1) e1 (z1 p ()) (λk=>qF ()) () (λj hj=>aK ()) (by rw[e2,hLd]) e3 e8
   symm
   refine⟨hL,cO (λe0=>?_) (λe0=>?_)⟩
   .have dv:L∣Pt:=Int.dvd_of_fmod_eq_zero e0;have em:Pt.fdiv L*L=Pt:=fv hL dv;have bd:Bt (m+(c+1)*i) (Pt.fdiv L):=by
     unfold Bt at bP ⊢;have e1:(Pt.fdiv L).natAbs*L.natAbs=Pt.natAbs:=by rw[<-YW,em]
     have e2:(Pt.fdiv L).natAbs*1<=(Pt.fdiv L).natAbs*L.natAbs:=XM _ ();nofun
    refine⟨hL,key ra qa (nz rs) rs.dropLast qs S (Pt.fdiv L) H5 S5 h5 hqa5 nra nqa nrq ldl lqs (nS.elim λe z=>⟨e,(),z.2⟩) (bS.mono (by rw[Nat.mul_add];nofun)) (λx hx=>(br x ((List.dropLast_sublist _).subset hx)).mono ()) (λx hx=>(bq x hx).mono ()) bd zq ev (by rw[nP,em]) (λk=>by rw[lY,dA])⟩
   .refine⟨bJ bS bL (),⟨_,.of (aE hqa5)⟩,λq6 H6 hq6 S6 h6=>?_⟩;refine aW (its:=qs.map V.int) (λj zs H'=>ax (vw K H5) (vw K H')/\zs=((qs.take j).map λx=>L*x).map V.int) (λj zs H' _ _ z=>aP (z.1 _ _ hqa5)) h6 ⟨S6,rfl⟩ (λj x zs H' hj hx h' z=>?_) (λzs H7 h7 z=>?_)
    .obtain⟨z1,rfl⟩:=z;rw[YD] at hj;rw[YA,YN hj] at hx;cases hx;symm
     refine⟨bJ bL (bq _ (YM hj)) (),.mk h' ?_ λH8 B8 h8=>⟨λy o e=>B8 _ _ (ah e hq6) (z1 _ _ e),?_⟩⟩
     .rw[YD,YD,Yw];have:1000<=sizeLine:=∅;nofun
     .rw[XS,YN hj,XR,XR];rfl
    obtain⟨S57,rfl⟩:=z;rw[YD,XT] at h7;have h57:=S57 _ _ h5;refine⟨⟨_,.of (aE h57)⟩,λr8 H8 hr8 S8 h8=>?_⟩;refine aW (its:=rs.dropLast.map V.int) (λj zs H'=>ax (vw K H7) (vw K H')/\zs=((rs.dropLast.take j).map λx=>L*x).map V.int) (λj zs H' _ _ z=>aP (z.1 _ _ h57)) h8 ⟨S8,rfl⟩ (λj x zs H' hj hx h' z=>?_) (λzs H9 h9 z=>?_)
    .obtain⟨z1,rfl⟩:=z;rw[YD] at hj;rw[YA,YN hj] at hx;cases hx;symm
     refine⟨bJ bL (br _ ((List.dropLast_sublist _).subset (YM hj))) (),.mk h' ?_ λH8 B8 h8=>⟨λy o e=>B8 _ _ (ah e hr8) (z1 _ _ e),?_⟩⟩
     .rw[YD,YD,Yw];have:1000<=sizeLine:=∅;nofun
     .rw[XS,YN hj,XR,XR];rfl
    obtain⟨S79,rfl⟩:=z;rw[YD,XT] at h9;have S07:=S5.trans S57;refine key r8 q6 (λk=>L*nz rs k) _ _ (S*L) Pt H9 (S07.trans S79) h9 (S79 _ _ h7) (S07.none hr8) (S5.none hq6) (ah h7 hr8).symm (by rw[YD];exact ldl) (by rw[YD];exact lqs) (nS.elim λe z=>⟨e+1,(),by rw[z.2.1,Xp],λex=>absurd (Int.fmod_eq_zero_of_dvd (by have dv:=yE ln0 (show rs.length=p+ns.length by nofun) lqs (λk=>by rw[<-ev k,z.2.2 ex,Xk]) (hLd▸hL) ex;rw[nP,<-hLd] at dv;exact dv)) e0⟩) ((bS.mul bL).mono (by rw[Nat.mul_add];nofun)) (λx hx=>?_) (λx hx=>?_) bP (λk hk=>?_) (λk=>?_) ?_ (λk=>?_)
    .obtain⟨y,hy,rfl⟩:=List.mem_map.mp hx;exact (bL.mul (br y ((List.dropLast_sublist _).subset hy))).mono ()
    .obtain⟨y,hy,rfl⟩:=List.mem_map.mp hx;exact (bL.mul (bq y hy)).mono ()
    .rw[de,zq k hk];nofun
    .rw[show nz (qs.map λx=>L*x)=λk=>L*nz qs k from funext λk=>de k,qW,<-Int.mul_add,<-ev k,Y9 S L,Xg]
    .show L*nz rs (p+(ns.length-1))=Pt*L;rw[nP,Y9]
    .rw[de,lY,dA];split<;>simp
  .obtain⟨ra,qa,rs,qs,S,o6,o7,o8,rfl,S4,hra,hqa,nra,nqa,nrq,lrs,lqs,nS,bS,br,bq,zq,ev⟩:=(hPv _ _ _).mp pv;rw[Fd] at lrs nS bS br bq zq;refine hN5 _ _ ?_;symm
   simp only[jq];refine .inr ?_;simp only[lU];symm
   refine⟨rs,hra,λd H5 ts S5 hd nd e5 l5 z5=>⟨∅,λp6 H6 hp6 S6 h6=>?_⟩⟩;have n9:n<=ms.length:=();have k1:c*n<=290000:=Yg (Xm (Nat.le_succ c) n9) hcm;have k2:(c+1)*n<=290000:=Yg (XM _ n9) hcm;refine h p6 qa d S qs ts H6 (S4.trans (S5.trans S6)) h6 ((S5.trans S6) _ _ hqa) (S6 _ _ hd) (S4.none nd) () () (nS.elim λe z=>⟨e,(),z.2.1.trans (by rw[hLd])⟩) (nS.elim λe z=>z.2.2) (bS.mono ()) (λx hx=>(bq x hx).mono ()) (λx hx=>?_) z5 (λk=>?_) (λx hx=>?_)
   .obtain⟨k,hk⟩:=XJ hx;have e:=e5 k;rw[aT hk] at e;rw[e];exact (qp br k).mono ()
   .rw[lqs,e5 k];exact ev k
   .obtain⟨k,hk⟩:=XJ hx;have e:=e5 k;rw[aT hk] at e;rw[e,show ms.length+1-ns.length=n by nofun]
    exact qp br k
def ou(K:W.Frag):Sp:=λvs H Q _=>∃(x:Int)(n b:Nat),vs=[.int x,.int n]/\n<=20/\b<=20000/\Bt b x/\Q (.int (x^n)) H
theorem Cu(F:eD K "power" "power" qG f fd) (T:gG K mg):bj P w K mg base eP 1 f fd ["base", "many"] (ou K):=by
 have scN:=sI.nd;refine F.okQ sI (λvs H Q E h=>?_) (λcdv A outer s H vs Q E hr h=>?_)
 .obtain⟨_,_,_,rfl,_⟩:=h;rfl
 .obtain⟨x,n,b,rfl,hn,hb,bx,h⟩:=h;refine⟨_,(ag (au (i:=2) scN rfl (·) af)
   (ag (cS PassesOwn.never rfl (ck rfl T.b_range (aa (qv 1) ae)) (aw (i:=3) scN rfl (·)) (aj (ie (i:=2) scN rfl (·) (qv 0) jQ)))
   (aj (aB (qv 2))))),?_⟩
  walk_at"m";symm
  refine⟨(),(),?_⟩;rw[show ((n:Nat):Int).toNat=n by nofun]
  obtain⟨Pv,hPv⟩ : ∃Pv:Nat->St->Hp->Prop,∀i σ H',Pv i σ H'↔H'=H /\ ∃o,σ=[some (.int x),some (.int n),some (.int (x^i)),o]:=⟨_,λ_ _ _=>XI⟩;refine aZ (its:=dy 0 n) Pv (λ_ _ _ _ _=>aX) ((hPv _ _ _).mpr ⟨rfl,_,by rw[Xo]⟩) (λi y σ H1 hi hy pv=>?_) (λσ H1 pv=>?_)
  .obtain⟨rfl,o,rfl⟩:=(hPv _ _ _).mp pv;obtain⟨hi',rfl⟩:=d5 hy;symm
   have b1:=bx.pow1 i;have:b*i<=20000*20:=Xm hb ();refine⟨bJ b1 bx (),(hPv _ _ _).mpr ⟨rfl,_,by rw[Xp]⟩⟩
  .obtain⟨rfl,o,rfl⟩:=(hPv _ _ _).mp pv;rw[cW];symm
   exact h
def eT(K:W.Frag):Sp:=λvs H Q _=>∃(a:Addr)(ns:List Int)(b:Nat),vs=[.ref a]/\vw K H a=some (.lst (ns.map V.int))/\ns.length<=40/\b<=20000/\(∀x∈ns,Bt b x)/\(ns≠[]->nz ns (ns.length-1)≠0) /\
 ∀d H' (ms:List Int)(g:Int),ax (vw K H) (vw K H')->vw K H' d=some (.lst (ms.map V.int))->vw K H d=none->ms.length=ns.length->0<g->(∀k,nz ns k=g*nz ms k)->(ns≠[]->iB (nz ms))->(∀x∈ms,Bt b x)->Q (.ref d) H'
theorem uG(F:eD K "lowered" "lowered" lJ f fd) (T:gG K mg)(N_:nG P base)(C_greatest_divisor:dq P w K mg base "greatest_divisor" ["one", "other"] 1 (aF K)):bj P w K mg base eP 2 f fd ["wholes"] (eT K):=by
 have scN:=ot.nd;refine F.okQ ot (λvs H Q E h=>?_) (λcdv A outer s H vs Q E hr h=>?_)
 .obtain⟨_,_,_,rfl,_⟩:=h;rfl
 .obtain⟨a,ns,b,rfl,ha,hl,hb,bn,nl,h⟩:=h;refine⟨_,(ag (au (i:=1) scN rfl (·) af)
   (ag (cS PassesOwn.never rfl (cg (qv 0)) (aw (i:=2) scN rfl (·)) (aj (au (i:=1) scN rfl (·) (av C_greatest_divisor nofun rfl (aa (qv 1) (aa (qv 2) ae))))))
   (aj (aB (dX (own:=["whole"]) (outs:=["divisor"]) (ixs:=[1]) rfl (cg (qv 0)) rfl ⟨rfl,rfl,rfl,⟨rfl,trivial⟩,rfl,⟨⟨rfl,rfl,rfl,_,rfl⟩,trivial⟩⟩ (λ_ _ _ _=>⟨(aw (i:=0) (show (["whole", "divisor"]:List Str).Nodup by decide +kernel) rfl (·)),eU,(ao (t6 N_ hr rfl rfl rfl rfl rfl) (qv 0) (qv 1))⟩)))))),?_⟩
  walk_at"m";refine aR.gen λN1 hN1=>?_;symm
  refine hN1 _ _ ?_;refine aR.gen λN2 hN2=>?_;symm
  refine⟨⟨_,.of (aE ha)⟩,?_⟩;obtain⟨Pv,hPv⟩ : ∃Pv:Nat->St->Hp->Prop,∀i σ H',Pv i σ H'↔H'=H /\ ∃(g:Int)(o:Option V),σ=[some (.ref a),some (.int g),o]/\(∀x∈ns.take i,g∣x)/\0<=g /\ ∀e:Int,(∀x∈ns.take i,e∣x)->e∣g:=⟨_,λ_ _ _=>XI⟩;refine aZ (its:=ns.map V.int) Pv (λi σ H' _ p=>?_) ((hPv _ _ _).mpr ⟨rfl,_,_,rfl,by simp,∅,λe _=>Int.dvd_zero e⟩) (λi y σ H1 hi hy pv=>?_) (λσ H1 pv=>?_)
  .obtain⟨rfl,_⟩:=(hPv _ _ _).mp p;exact aP ha
  .obtain⟨rfl,g,o,rfl,hg,gp,hd⟩:=(hPv _ _ _).mp pv;rw[YD] at hi;rw[YA,YN hi] at hy;cases hy;symm
   simp only[aF];symm
   refine (hPv _ _ _).mpr ⟨rfl,_,_,rfl,λx hx=>?_,(),λe he=>?_⟩
   .rw[XS,YN hi] at hx;rcases List.mem_append.mp hx with z|z
    .exact XA (YS _ _) (hg x z)
    .cases List.mem_singleton.mp z;exact YT _ _
   .rw[XS,YN hi] at he;exact Int.dvd_coe_gcd (hd e λx z=>he x (Yl _ z)) (he _ (Ys _ (List.mem_singleton.mpr rfl)))
  .obtain⟨rfl,g,o,rfl,hg,gp,hd⟩:=(hPv _ _ _).mp pv;rw[YD,XT] at hg hd;refine hN2 _ _ ?_;symm
   have hgn:ns≠[]->g≠0/\Bt b g:=λz=>by
    have lp:ns.length-1<ns.length:=by have:=List.length_pos_iff.mpr z;nofun
    have n1:=nl z;rw[aT (YN lp)] at n1;have d1:=hg _ (YM lp);have b1:=bn _ (YM lp);refine⟨λe=>n1 (by rw[e] at d1;exact Int.zero_dvd.mp d1),?_⟩
    have:=XC () (Int.natAbs_dvd_natAbs.mpr d1);unfold Bt at b1 ⊢;nofun
   refine⟨⟨_,.of (aE ha)⟩,λd H2 hnd S2 h2=>?_⟩;refine aW (its:=ns.map V.int) (λj zs H'=>ax (vw K H1) (vw K H')/\zs=((ns.take j).map λx=>x.fdiv g).map V.int) (λj zs H' _ _ z=>aP (z.1 _ _ ha)) h2 ⟨S2,rfl⟩ (λj x zs H' hj hx h' z=>?_) (λzs H3 h3 z=>?_)
   .obtain⟨z1,rfl⟩:=z;rw[YD] at hj;rw[YA,YN hj] at hx;cases hx;obtain⟨g1,g2⟩:=hgn (λe=>by rw[e] at hj;simp at hj)
    symm
    refine⟨g1,.mk h' ?_ λH8 B8 h8=>⟨λy o e=>B8 _ _ (ah e hnd) (z1 _ _ e),?_⟩⟩
    .rw[YD,YD,Yw];have:1000<=sizeLine:=∅;nofun
    .rw[XS,YN hj,XR,XR];rfl
   .obtain⟨z1,rfl⟩:=z;rw[YD,XT] at h3;by_cases e:ns=[]
    .subst e;exact h d H3 [] 1 z1 h3 hnd rfl ∅ (λk=>by rw[Xk]) (λz=>absurd rfl z) (by simp)
    obtain⟨g1,g2⟩:=hgn e;have em:∀x∈ns,x=g*x.fdiv g:=λx hx=>by rw[Y9];exact (fv g1 (hg x hx)).symm
    have nm:∀k,nz ns k=g*nz (ns.map λx=>x.fdiv g) k:=λk=>?_;refine h d H3 _ g z1 h3 hnd (by rw[YD]) () nm (λ_ q hq=>?_) (λx hx=>?_)
    .have d1:g*q∣g:=hd (g*q) λx hx=>by
      obtain⟨k,hk⟩:=XJ hx;have e1:=nm k;rw[aT hk] at e1;rw[e1];exact Int.mul_dvd_mul_left g (hq k)
     obtain⟨c,hc⟩:=d1;have hc':g*1=g*(q*c):=by rw[Yp,<-Xg];exact hc
     have q1:1=q*c:=Xh g1 hc';have:=Yn Int.natAbs q1;rw[YW] at this;exact Nat.eq_one_of_mul_eq_one_right this.symm
    .obtain⟨y,hy,rfl⟩:=List.mem_map.mp hx;have e1:(g*y.fdiv g).natAbs=g.natAbs*(y.fdiv g).natAbs:=YW _ _;rw[<-em y hy] at e1;have e2:1*(y.fdiv g).natAbs<=g.natAbs*(y.fdiv g).natAbs:=XD _ ();have b1:=bn y hy;unfold Bt at b1 ⊢;nofun
    .cases ek:ns[k]? with
     | none =>
      have l:=List.getElem?_eq_none_iff.mp ek;rw[aK l,aK (by rw[YD];exact l),Xi]
     | some y =>
      rw[aT ek,aT (n:=y.fdiv g) (by rw[YA,ek];rfl)]
      exact em y (YB ek)
def pE(G:Hp)(t:Addr)(tv:List V)(rows:List (List Int×List Int×Int×Int)):Prop:=tv.length=rows.length /\ ∀(k:Nat) row,rows[k]? = some row -> ∃p ra qa:Addr,tv[k]? = some (.ref p)/\G p=some (.tup [.ref ra,.ref qa,.int row.2.2.1,.int row.2.2.2])/\G ra=some (.lst (row.1.map V.int))/\G qa=some (.lst (row.2.1.map V.int))/\ra≠t/\qa≠t
theorem pE.same{G G':Hp}{t:Addr}{tv:List V}{rows:List (List Int×List Int×Int×Int)}(h:pE G t tv rows)(S:ax G G'):pE G' t tv rows:=⟨h.1,λk row e=>by
 obtain⟨p,ra,qa,a,b,c,d,n⟩:=h.2 k row e;exact⟨p,ra,qa,a,S _ _ b,S _ _ c,S _ _ d,n⟩⟩
def HY(row:List Int×List Int×Int×Int):Prop:=row.1.length<=11/\(∀x∈row.1,Bt 6102 x)/\Bt 200000 row.2.2.1/\Bt 200000 row.2.2.2/\row.2.1.length<=11/\1<=row.2.1.length /\ ∀x∈row.2.1,Bt 700000 x
def fK(K:W.Frag):Sp:=λvs H Q _=>∃(a b:Addr)(ms ns:List Int),vs=[.ref a,.ref b]/\vw K H a=some (.lst (ms.map V.int))/\vw K H b=some (.lst (ns.map V.int))/\ms≠[]/\ns.length<=ms.length/\eY 300 ms/\eY 300 ns /\
 ∀(d:Addr)(H':Hp)(tv:List V) rows,ax (vw K H) (vw K H')->vw K H' d=some (.lst tv)->pE (vw K H') d tv rows->nM ms ns rows->rows.length<=11->(∀row∈rows,HY row)->Q (.ref d) H'
theorem mw(F:eD K "wholes_rests" "wholes_rests" fZ f fd) (T:gG K mg)(N_:nG P base)(C_power:dq P w K mg base "power" ["base", "many"] 1 (ou K)) (C_wholes_parted:dq P w K mg base "wholes_parted" ["one", "other"] 2 (cH K)):bj P w K mg base eP 3 f fd ["one", "other"] (fK K):=by
 have scN:=ir.nd;refine F.okQ ir (λvs H Q E h=>?_) (λcdv A outer s H vs Q E hr h=>?_)
 .obtain⟨_,_,_,_,rfl,_⟩:=h;rfl
 .obtain⟨a,b,ms,ns,rfl,ha,hb,m0,lmn,im,il,h⟩:=h;refine⟨_,(ag (au (i:=2) scN rfl (·) (a7 ae))
   (ag (iI (aL (aa af (aa af ae))) (fS (n:=2) rfl (aS (aw (i:=3) scN rfl (·)) (aS (aw (i:=4) scN rfl (·)) fR))))
   (ag (fB PassesOwn.never (fx (qv 1) (λ_=>rfl)) (ag (au (i:=5) scN rfl (·) (ao cz (ar aU (by rfl) T.b_len cx (aa (qv 0) ae)) (ar aU (by rfl) T.b_len cx (aa (qv 1) ae))))
   (ag (au (i:=6) scN rfl (·) (av C_power nofun rfl (aa (aG dJ (qv 1) (gf dL af) (λ_ _=>rfl)) (aa (ao bK (qv 5) af) ae))))
   (ag (iI (av C_wholes_parted nofun rfl (aa (qv 0) (aa (qv 1) ae))) (fS (n:=3) rfl (aS (aw (i:=7) scN rfl (·)) (aS (aw (i:=8) scN rfl (·)) (aS (aw (i:=9) scN rfl (·)) fR)))))
   (ag (au (i:=10) scN rfl (·) (ao aQ (qv 3) (av C_power nofun rfl (aa (qv 4) (aa (qv 5) ae)))))
   (ag (cQ (fx (qv 8) (λ_=>rfl)) (ag (au (i:=11) scN rfl (·) (ao (fY N_ hr rfl rfl rfl) (qv 6) (qv 9)))
   (ag (gX (i:=8) (own:=["whole"]) (outs:=["top", "lack"]) (ixs:=[10,11]) scN rfl (·) rfl (cg (qv 8)) rfl ⟨rfl,rfl,rfl,⟨rfl,⟨rfl,trivial⟩⟩,rfl,⟨⟨rfl,rfl,rfl,_,rfl⟩,⟨⟨rfl,rfl,rfl,_,rfl⟩,trivial⟩⟩⟩ (λ_ _ _ _=>⟨(aw (i:=0) (show (["whole", "top", "lack"]:List Str).Nodup by decide +kernel) rfl (·)),eU,(ao (CJ N_ hr rfl rfl rfl rfl rfl) (ao (show fi _ _ (iU K) from aQ) (qv 2) (qv 0)) (qv 1))⟩))
   (aj (gW (qe XU XV XW gj (qv 2) (aa (aL (aa (qv 8) (aa (dX (own:=["whole"]) (outs:=["lack"]) (ixs:=[11]) rfl (cg (qv 7)) rfl ⟨rfl,rfl,rfl,⟨rfl,trivial⟩,rfl,⟨⟨rfl,rfl,rfl,_,rfl⟩,trivial⟩⟩ (λ_ _ _ _=>⟨(aw (i:=0) (show (["whole", "lack"]:List Str).Nodup by decide +kernel) rfl (·)),eU,(ao (show fi _ _ (iU K) from aQ) (qv 1) (qv 0))⟩)) (aa (qv 10) (aa (qv 6) ae))))) ae)))))) a8)
   (ag (rN (i:=0) (j:=1) rfl scN rfl rfl ∅ rfl rfl (aa (qv 1) (aa (qv 8) ae)) rfl)
   (ag (au (i:=3) scN rfl (·) (aG dJ (qv 0) (gf dL af) (λ_ _=>rfl)))
   (aj (cQ (aH ug (qv 5) af (aM _)) (aj (au (i:=4) scN rfl (·) (ao (fY N_ hr rfl rfl rfl) (av C_power nofun rfl (aa (qv 3) (aa (qv 5) ae))) (av C_power nofun rfl (aa (qv 4) (aa (ao cz (qv 5) af) ae)))))) a8))))))))))
   (aj (aB (qv 2)))))),?_⟩
  walk_at"m";skip
  refine aR.gen λN1 hN1=>?_;symm
  refine⟨∅,λt H1 ht S1 h1=>hN1 _ _ ?_⟩;refine aR.gen λN2 hN2=>?_;symm
  refine⟨∅,λp2 H2 hp2 S2 h2=>⟨_,rfl,_,h2,rfl,_,_,rfl,_,_,rfl,rfl,hN2 _ _ ?_⟩⟩;refine aR.gen λN3 hN3=>?_;symm
  have nt:vw K H t=none:=ht;have S02:=S1.trans S2;obtain⟨W,hW⟩ : ∃W:Nat->St->Hp->Prop,∀m σ H',W m σ H' ↔ ∃(oa ra:Addr)(Fs Gs:List Int)(tv:List V)(rows:List (List Int×List Int×Int×Int))(x g:Int)(o5 o6 o7 o8 o9 o10 o11:Option V),σ=[some (.ref oa),some (.ref ra),some (.ref t),some (.int x),some (.int g),o5,o6,o7,o8,o9,o10,o11]/\m=Gs.length/\ax (vw K H) (vw K H')/\vw K H' t=some (.lst tv)/\vw K H' oa=some (.lst (Fs.map V.int))/\vw K H' ra=some (.lst (Gs.map V.int))/\oa≠t/\ra≠t /\
    Fs≠[]/\tv.length+Gs.length<=11/\Gs.length<=Fs.length/\eY 6087 Fs/\eY 6087 Gs/\(∀r,nM Fs Gs r->nM ms ns (rows++r))/\(Gs≠[] -> ∃S1,ny 6087 S1 (nz Fs) (nz Gs) (Fs.length-1) (Gs.length-1) x g) /\
    pE (vw K H') t tv rows /\ ∀row∈rows,HY row:=⟨_,λ_ _ _=>XI⟩
  have btn:∀{n:Nat}{l:List Int},eY n l -> ∀k,Bt n (nz l k):=λi k=>qp i.2.1 k;have up:∀{l:List Int},eY 300 l->eY 6087 l:=λi=>i.up ∅;have lp:∀{l:List Int},l≠[]->0<l.length:=λh=>List.length_pos_iff.mpr h;refine⟨W,⟨_,(hW _ _ _).mpr ⟨a,b,ms,ns,[],[],1,1,_,_,_,_,_,_,_,rfl,rfl,S02,S2 _ _ h1,S02 _ _ ha,S02 _ _ hb,ah ha nt,ah hb nt,m0,by have:=il.1;simp;nofun,lmn,up im,up il,λr z=>z,λn0=>⟨_,ny.first (b:=300) () (by have:=im.1;nofun) ∅ (btn im) (btn il) (il.2.2 n0) (λk hk=>aK (by have:=lp n0;nofun)) (λk hk=>aK (by have:=lp m0;nofun))⟩,⟨rfl,by simp⟩,by simp⟩⟩,λm σ H3 hw=>?_⟩
  obtain⟨oa,ra,Fs,Gs,tv,rows,x,g,o5,o6,o7,o8,o9,o10,o11,rfl,rfl,S3,ht3,hF,hG,noa,nra,f0,lt7,lGF,iF,iG,gc,gs,rt,rwb⟩:=(hW _ _ _).mp hw;refine⟨_,rfl,_,jC hG,cO (λhc=>⟨_,λσ' H' z=>z,?_⟩) (λhc=>hN3 _ _ ?_)⟩
  .have g0:Gs≠[]:=λz=>by rw[z] at hc;cases hc
   obtain⟨Sx,I⟩:=gs g0;have lg:=lp g0;obtain⟨δ,hδ⟩ : ∃δ,δ=Fs.length-Gs.length:=⟨_,rfl⟩;have hδ2:Fs.length-1-(Gs.length-1)=δ:=();have hgl:Gs.length-1<Gs.length:=();obtain⟨c,hcd⟩ : ∃c,c=nz Gs (Gs.length-1):=⟨_,rfl⟩;have hce:Gs[Gs.length-1]=c:=by rw[hcd,aT (YN hgl)]
   have bc:Bt 6087 c:=hcd▸btn iG _;have c0:c≠0:=hcd▸iG.2.2 g0;have xl:(Gs.map V.int).getLast? = some (.int c):=by
    rw[Xf,YD,YA,YN hgl,hce];rfl
   have lF7:=iF.1;refine aR.gen λM1 hM1=>?_;symm
   refine⟨Fs.length,by simp only[ig,hF,YD],Gs.length,by simp only[ig,hG,YD],hM1 _ _ ?_⟩
   rw[show (Fs.length:Int)-(Gs.length:Int)=(δ:Int) by nofun]
   refine aR.gen λM2 hM2=>?_;symm
   refine⟨_,hG,_,gE xl,⟨c,δ+1,6087,rfl,(),∅,bc,hM2 _ _ ?_⟩⟩;refine aR.gen λM3 hM3=>?_;symm
   simp only[cH];refine⟨oa,ra,Fs,Gs,6087,6087,rfl,hF,hG,lg,iG.2.2 g0,(),(),∅,∅,(),iF.2.1,iG.2.1,λp4 qa rb S qs rs H4 S4 h4 hqa hrb nrb lq lr hSe _ bS bq br lrz ev _=>⟨_,rfl,_,h4,rfl,_,_,rfl,_,_,rfl,_,_,rfl,rfl,hM3 _ _ ?_⟩⟩;obtain⟨e,he,hS⟩:=hSe;rw[<-hcd] at hS;have lq2:qs.length=δ+1:=();have S0:S≠0:=by rw[hS];exact Xq c0
   obtain⟨lack,hlack⟩ : ∃lack,lack=c^(δ+1-e):=⟨_,rfl⟩;have elk:c^(δ+1)=lack*S:=by rw[hlack,hS,<-Ky,show δ+1-e+e=δ+1 by nofun]
   obtain⟨dA,htop⟩ : ∃dA,dA=x*g^δ:=⟨_,rfl⟩;have top0:dA≠0:=by rw[htop];exact Xb I.inv.x0 (Xq I.inv.h0)
   have δ6:6087*δ<=6087*10:=XM _ ();have btop:Bt 200000 dA:=by rw[htop];exact (I.bx.mul (I.bh.pow1 δ)).mono ()
   have black:Bt 200000 lack:=by
    rw[hlack];refine (bc.pow1 _).mono ?_;have:6087*(δ+1-e)<=6087*11:=XM _ ();nofun
   have bgam:Bt 200000 (c^(δ+1)):=by
    refine (bc.pow1 _).mono ?_;have:6087*(δ+1)<=6087*11:=XM _ ();nofun
   refine aR.gen λM4 hM4=>?_;symm
   simp only[ou];refine⟨g,δ,6087,rfl,(),∅,I.bh,?_⟩;rw[cY];refine⟨bJ I.bx (I.bh.pow1 δ) (),hM4 _ _ ?_⟩;rw[<-htop];have II:∀k,c^(δ+1)*nz Fs k=pz (λi=>lack*nz qs i) (nz Gs) (δ+1) k+lack*nz rs k:=λk=>by
    rw[qW,<-Int.mul_add,<-lq2,<-ev k,<-Xg,<-elk,lq2]
   obtain⟨r,g',hR,bR,r0,ng',bg',hh,next⟩:=I.rest (q:=λi=>lack*nz qs i) (R:=λk=>lack*nz rs k) (λk hk=>by rw[aK (),Xi]) (λk=>by rw[<-hcd,hδ2];exact II k)
   rw[hδ2,<-htop] at hR;rw[<-hcd,hδ2] at hh;rw[<-hcd] at next
   refine aR.gen λM5 hM5=>?_;have key:∀(rc:Addr)(Rs:List Int)(tv':List V)(rows':List (List Int×List Int×Int×Int))(H':Hp)(u7 u11:Option V),ax (vw K H) (vw K H')->vw K H' t=some (.lst tv')->vw K H' ra=some (.lst (Gs.map V.int))->vw K H' rc=some (.lst (Rs.map V.int))->rc≠t->Rs.length<Gs.length->tv'.length+Rs.length<=11->(∀k,nz Rs k=r k)->eY 6087 Rs->(∀r,nM Gs Rs r->nM ms ns (rows'++r))->pE (vw K H') t tv' rows'->(∀row∈rows',HY row)->M5 [some (.ref oa),some (.ref ra),some (.ref t),some (.int x),some (.int g),some (.int δ),some (.int (c^(δ+1))),u7,some (.ref rc),some (.int S),some (.int dA),u11] H':=by
    intro rc Rs tv' rows' H' u7 u11 Sx' ht' hG' hR' nrc lR lt' eR iR gc' rt' rb';have fin:∀u7 u11:Option V,∃m',m'<Gs.length/\W m' [some (.ref ra),some (.ref rc),some (.ref t),some (.int c),some (.int g'),some (.int δ),some (.int (c^(δ+1))),u7,some (.ref rc),some (.int S),some (.int dA),u11] H':=λu7 u11=>by
     refine⟨Rs.length,lR,(hW _ _ _).mpr ⟨ra,rc,Gs,Rs,tv',rows',c,g',_,_,_,_,_,_,_,rfl,rfl,Sx',ht',hG',hR',nra,nrc,g0,lt',(),iG,iR,gc',λz=>?_,rt',rb'⟩⟩;have lz:=lp z;have e1:r=nz Rs:=funext λk=>(eR k).symm;have nx:=next (Rs.length-1) () (by rw[<-eR];exact iR.2.2 z) (λk hk=>by rw[<-eR];exact aK ())
     rw[e1] at nx;exact⟨_,nx⟩
    refine hM5 _ _ ?_;symm
    refine⟨_,hG',_,gE xl,cO (λh0=>?_) (λh0=>?_)⟩
    .rcases hh with ⟨z,_⟩|⟨_,z2⟩
     .nofun
     have δ5:6087*(δ-1)<=6087*10:=XM _ ();have u0:g^(δ-1)≠0:=Xq I.inv.h0;refine⟨c,δ,6087,rfl,(),∅,bc,⟨g,δ-1,6087,by rw[show ((δ:Int)-1)=((δ-1:Nat):Int) by nofun],(),∅,I.bh,_,rfl,_,rfl,u0,?_⟩⟩
     have e1:(c^δ).fdiv (g^(δ-1))=g':=Xa u0 (by rw[fv u0 ⟨g',by rw[<-z2,Y9]⟩,z2])
     rw[e1];exact fin u7 u11
    .rcases hh with ⟨_,z⟩|⟨z,_⟩
     .rw[<-z];exact fin u7 u11
     .nofun
   have nt4:t≠rb:=ah ht3 nrb;symm
   refine⟨_,jC hrb,cO (λhc2=>?_) (λhc2=>?_)⟩
   .have ef:(c^(δ+1)).fdiv S=lack:=Xa S0 (by rw[fv S0 ⟨lack,by rw[elk,Y9]⟩,elk])
    rw[ef];have rs0:rs≠[]:=λz=>by rw[z] at hc2;cases hc2
    have lrs:=lp rs0;refine⟨S0,⟨_,.of (aE hrb)⟩,λd6 H6 hd6 S6 h6=>?_⟩;refine aW (its:=rs.map V.int) (λj zs H'=>ax (vw K H4) (vw K H')/\zs=((rs.take j).map λy=>(lack*y).fdiv dA).map V.int) (λj zs H' _ _ z=>aP (z.1 _ _ hrb)) h6 ⟨S6,rfl⟩ (λj y zs H' hj hy h' z=>?_) (λzs H7 h7 z=>?_)
    .obtain⟨z1,rfl⟩:=z;rw[YD] at hj;rw[YA,YN hj] at hy;cases hy;symm
     refine⟨bJ black (br _ (YM hj)) (),top0,.mk h' ?_ λH8 B8 h8=>⟨λy o e=>B8 _ _ (ah e hd6) (z1 _ _ e),?_⟩⟩
     .rw[YD,YD,Yw];have:1000<=sizeLine:=∅;nofun
     .rw[XS,YN hj,XR,XR];rfl
    obtain⟨S47,rfl⟩:=z;rw[YD,XT] at h7;refine⟨lE (S47 _ _ (S4 _ _ ht3)),⟨_,.of (aE (S47 _ _ hqa))⟩,λd8 H8 hd8 S8 h8=>?_⟩;refine aW (its:=qs.map V.int) (λj zs H'=>ax (vw K H7) (vw K H')/\zs=((qs.take j).map λy=>lack*y).map V.int) (λj zs H' _ _ z=>aP (z.1 _ _ (S47 _ _ hqa))) h8 ⟨S8,rfl⟩ (λj y zs H' hj hy h' z=>?_) (λzs H9 h9 z=>?_)
    .obtain⟨z1,rfl⟩:=z;rw[YD] at hj;rw[YA,YN hj] at hy;cases hy;symm
     refine⟨bJ black (bq _ (YM hj)) (),.mk h' ?_ λH8 B8 h8=>⟨λy o e=>B8 _ _ (ah e hd8) (z1 _ _ e),?_⟩⟩
     .rw[YD,YD,Yw];have:1000<=sizeLine:=∅;nofun
     .rw[XS,YN hj,XR,XR];rfl
    obtain⟨S79,rfl⟩:=z;have S49:=S47.trans S79;refine⟨∅,λp10 H10 hp10 S10 h10=>?_⟩;have ht10:=S10 _ _ (S49 _ _ (S4 _ _ ht3));refine⟨tv,ht10,?_,λH11 B11 h11=>?_⟩
    .have:1000<=sizeLine:=∅;nofun
    have nt6:t≠d6:=ah (S4 _ _ ht3) hd6;have nt10:p10≠t:=(ah (S49 _ _ (S4 _ _ ht3)) hp10).symm;have S410:=S49.trans S10;have hd7:=(S79.trans S10) _ _ h7;have lRs:(rs.map λy=>(lack*y).fdiv dA).length=rs.length:=YD _;have eR:∀k,nz (rs.map λy=>(lack*y).fdiv dA) k=r k:=λk=>by
     have q1:=hR k;cases ek:rs[k]? with
     | none =>
      have l:=List.getElem?_eq_none_iff.mp ek;rw[aK l,Xi] at q1;rw[aK (by rw[lRs];exact l)]
      rcases Int.mul_eq_zero.mp q1.symm with z|z
      .exact absurd z top0
      .exact z.symm
     | some y =>
      rw[aT ek] at q1;rw[aT (n:=(lack*y).fdiv dA) (by rw[YA,ek];rfl)]
      exact Xa top0 (by rw[fv top0 ⟨_,q1⟩,q1,Y9])
    have R0:(rs.map λy=>(lack*y).fdiv dA)≠[]:=λz=>rs0 (List.map_eq_nil_iff.mp z);have Rl0:nz (rs.map λy=>(lack*y).fdiv dA) ((rs.map λy=>(lack*y).fdiv dA).length-1)≠0:=by
     rw[lRs,eR];intro z;have q1:=hR (rs.length-1);rw[z,Xi] at q1;rcases Int.mul_eq_zero.mp q1 with y|y
     .exact Xq c0 (hlack▸y)
     .exact lrz () y
    have Rb:∀x∈(rs.map λy=>(lack*y).fdiv dA),Bt 6087 x:=λx hx=>by
     obtain⟨k,hk⟩:=XJ hx;rw[<-aT hk,eR];exact bR k
    have nzq:∀i,nz (qs.map λy=>lack*y) i=lack*nz qs i:=λi=>by
     cases ek:qs[i]? with
     | none =>
      have l:=List.getElem?_eq_none_iff.mp ek;rw[aK l,aK (by rw[YD];exact l),Xi]
     | some y=>rw[aT ek,aT (n:=lack*y) (by rw[YA,ek];rfl)]
    have fu:∀k,c^(δ+1)*nz Fs k=pz (nz (qs.map λy=>lack*y)) (nz Gs) (qs.map λy=>lack*y).length k+dA*nz (rs.map λy=>(lack*y).fdiv dA) k:=λk=>by
     rw[show nz (qs.map λy=>lack*y)=λi=>lack*nz qs i from funext nzq,YD,lq2,II k,eR,hR k]
    rw[YD,XT] at h9;have hq10:=S10 _ _ h9;have nt8:d8≠t:=(ah ((S47) _ _ (S4 _ _ ht3)) hd8).symm;refine key d6 _ (tv++[.ref p10]) (rows++[(rs.map λy=>(lack*y).fdiv dA,qs.map λy=>lack*y,dA,c^(δ+1))]) H11 _ _ (λy o e=>B11 _ _ (ah e nt) ((S3.trans (S4.trans S410)) _ _ e)) h11 (B11 _ _ nra ((S4.trans S410) _ _ hG)) (B11 _ _ nt6.symm hd7) nt6.symm (by rw[lRs];exact lr) (by rw[lRs,YC];simp;nofun) eR ⟨by rw[lRs];nofun,Rb,λ_=>Rl0⟩ (λr' z=>?_) ⟨by simp[rt.1],λk row e=>?_⟩ (λrow gI=>?_)
    .rw[YI];exact gc _ (.more g0 (iG.2.2 g0) (Xq c0) top0 R0 Rl0 (by rw[lRs];exact lr) (by rw[YD];nofun) fu z)
    .by_cases hk:k<rows.length
     .rw[Yz hk] at e;obtain⟨p,ra',qa',a1,a2,a3,a4,a5,a6⟩:=rt.2 k row e;have S3z:=S4.trans S410;exact⟨p,ra',qa',by rw[Yz (by rw[rt.1];exact hk)];exact a1,B11 _ _ (λz=>by rw[z,ht3] at a2;cases a2) (S3z _ _ a2),B11 _ _ a5 (S3z _ _ a3),B11 _ _ a6 (S3z _ _ a4),a5,a6⟩
     .have hk2:k=rows.length:=by
       have:=(List.getElem?_eq_some_iff.mp e).1;simp at this;nofun
      subst hk2;rw[Yy (),Nat.sub_self] at e;cases e;exact⟨p10,d6,d8,by rw[Yy (by rw[rt.1];nofun),rt.1,Nat.sub_self];rfl,B11 _ _ nt10 h10,B11 _ _ nt6.symm hd7,B11 _ _ nt8 hq10,nt6.symm,nt8⟩
    .rcases List.mem_append.mp gI with z|z
     .exact rwb row z
     .cases List.mem_singleton.mp z;refine⟨by rw[lRs];nofun,λx hx=>(Rb x hx).mono ∅,btop,bgam,by rw[YD];nofun,by rw[YD];nofun,λx hx=>?_⟩
      obtain⟨y,hy,rfl⟩:=List.mem_map.mp hx;exact (black.mul (bq y hy)).mono ∅
   .have r1:rs=[]:=by
     cases rs with
     | nil=>rfl
     | cons _ _=>exact absurd rfl hc2
    subst r1;refine key rb [] tv rows H4 _ _ (S3.trans S4) (S4 _ _ ht3) (S4 _ _ hG) hrb nt4.symm (by simp;nofun) (by simp;nofun) (λk=>?_) ⟨by simp,by simp,λz=>absurd rfl z⟩ (λr' z=>?_) (rt.same S4) rwb
    .have:=hR k;rw[show nz [] k=0 from aK (by simp),Xi] at this
     rcases Int.mul_eq_zero.mp this.symm with z|z
     .exact absurd z top0
     .rw[show nz [] k=0 from aK (by simp),z]
    .have er:r'=[]:=by
      cases z with
      | nought=>rfl
      | last h _ _ _ _=>exact absurd rfl h
      | more h _ _ _ _ _ _ _ _ _=>exact absurd rfl h
     subst er;refine gc _ (.last g0 (iG.2.2 g0) S0 (Q:=qs) () λk=>?_);rw[ev k,show nz [] k=0 from aK (by simp)]
     nofun
  .have g1:Gs=[]:=by
    cases Gs with
    | nil=>rfl
    | cons _ _=>exact absurd rfl hc
   subst g1;symm
   have:=gc [] .nought;rw[Yv] at this;exact h t H3 tv rows S3 ht3 rt this (by rw[<-rt.1];nofun) rwb
def bU(K:W.Frag):Sp:=λvs H Q _=>∃(a:Addr)(ns:List Int),vs=[.ref a]/\vw K H a=some (.lst (ns.map V.int))/\ns.length<=11/\(∀x∈ns,Bt 240 x) /\
 ∀d H' (ms:List Int),ax (vw K H) (vw K H')->vw K H' d=some (.lst (ms.map V.int))->vw K H d=none->ms.length=ns.length-1->(∀k,nz ms k=((k+1:Nat):Int)*nz ns (k+1))->(∀x∈ms,Bt 250 x)->Q (.ref d) H'
theorem mh(F:eD K "wholes_slope" "wholes_slope" gm f fd) (T:gG K mg):bj P w K mg base eP 1 f fd ["wholes"] (bU K):=by
 have scN:=ij.nd;refine F.okQ ij (λvs H Q E h=>?_) (λcdv A outer s H vs Q E hr h=>?_)
 .obtain⟨a,_,rfl,_⟩:=h;rfl
 .obtain⟨a,ns,rfl,ha,lf,hf,h⟩:=h;refine⟨_,(aj (aB (dX (own:=["k"]) (outs:=["wholes"]) (ixs:=[0]) rfl (qo rfl T.b_range (aa af (aa (ar aU (by rfl) T.b_len cx (aa (qv 0) ae)) ae))) rfl ⟨rfl,rfl,rfl,⟨rfl,trivial⟩,rfl,⟨⟨rfl,rfl,rfl,_,rfl⟩,trivial⟩⟩ (λ_ _ _ _=>⟨(aw (i:=0) (show (["k", "wholes"]:List Str).Nodup by decide +kernel) rfl (·)),eU,(ao (show fi _ _ (iU K) from aQ) (qv 0) (aG (show yN _ (BA K) from dJ) (qv 1) (qv 0) (λ_ _=>rfl)))⟩)))),?_⟩
  walk_at"m";symm
  refine⟨ns.length,by simp only[ig,ha,YD],(),(),(),(),λd H1 hd S1 h1=>?_⟩
  rw[show ((ns.length:Int)-1).toNat=ns.length-1 by nofun]
  refine aW (its:=dy 1 (ns.length-1)) (λi zs H'=>ax (vw K H) (vw K H') /\ ∃ms:List Int,ms.length=i/\zs=ms.map V.int/\(∀x∈ms,Bt 250 x) /\ ∀(j:Nat)(x:Int),ms[j]? = some x->x=((j+1:Nat):Int)*nz ns (j+1))
   (λ_ _ _ _ _ _=>aX) h1 ⟨S1,[],rfl,rfl,by simp,by simp⟩ (λi x zs H2 hi hx h2 p=>?_) (λzs H2 h2 p=>?_)
  .obtain⟨S2,ms,lv,rfl,bv,hv⟩:=p;obtain⟨hi',rfl⟩:=d5 hx;rw[show (1:Int)+(i:Int)=((i+1:Nat):Int) by nofun]
   have hi2:i+1<ns.length:=();have bi:Bt 5 ((i+1:Nat):Int):=by
    show (((i+1:Nat):Int)).natAbs<2^5;nofun
   have bn:=hf ns[i+1] (YM hi2);symm
   refine⟨_,S2 _ _ ha,V.int ns[i+1],cD (by rw[YA,YN hi2];rfl),?_⟩
   rw[cY];refine⟨bJ bi bn ∅,.mk h2 ?_ λH5 B5 h5=>⟨λb o e=>B5 _ _ (ah e hd) (S2 _ _ e),ms++[((i+1:Nat):Int)*ns[i+1]],by simp[lv],by simp,λq hq=>?_,λj q e=>?_⟩⟩
   .rw[YD,lv];have:1000<=sizeLine:=∅;nofun
   .rcases List.mem_append.mp hq with z|z
    .exact bv q z
    .cases List.mem_singleton.mp z;exact (bi.mul bn).mono ∅
   .by_cases hj:j<ms.length
    .rw[Yz hj] at e;exact hv j q e
    .have hj2:j=i:=by
      have:=(List.getElem?_eq_some_iff.mp e).1;simp at this;nofun
     subst hj2;rw[Yy (),lv,Nat.sub_self] at e;cases e;rw[aT (YN hi2)]
  .obtain⟨S2,ms,lv,rfl,bv,hv⟩:=p;rw[cW] at lv;refine h d H2 ms S2 h2 hd lv (λk=>?_) bv;by_cases hk:k<ms.length
   .rw[aT (YN hk)];exact hv k _ (YN hk)
   .rw[aK (),aK (),Xi]
def fW(K:W.Frag):Sp:=λvs H Q _=>∃(a:Addr)(ns:List Int)(t b:Int)(W B:Nat),vs=[.ref a,.int t,.int b]/\vw K H a=some (.lst (ns.map V.int))/\ns.length<=40/\W<=1000000/\B<=10000/\(∀n∈ns,Bt W n)/\b≠0/\Bt B t/\Bt B b /\
 ∀p H' (u s:Int),ax (vw K H) (vw K H')->vw K H' p=some (.tup [.int u,.int s])->s≠0->(0<b->0<s)->(u:Rat)/(s:Rat)=fu ns ((t:Rat)/(b:Rat))->Bt (1+ns.length*B) s->Bt (W+1+ns.length*(B+2)) u->Q (.ref p) H'
theorem rE(F:eD K "wholes_at" "wholes_at" iK f fd) (T:gG K mg):bj P w K mg base eP 1 f fd ["wholes", "top", "bottom"] (fW K):=by
 have scN:=jE.nd;refine F.okQ jE (λvs H Q E h=>?_) (λcdv A outer s H vs Q E hr h=>?_)
 .obtain⟨a,_,_,_,_,_,rfl,_⟩:=h;rfl
 .obtain⟨a,ns,t,b,W,B,rfl,ha,ln,hW,hB,bn,nb,bt,bb,h⟩:=h;refine⟨_,(ag (iI (aL (aa af (aa af ae))) (fS (n:=2) rfl (aS (aw (i:=3) scN rfl (·)) (aS (aw (i:=4) scN rfl (·)) fR))))
   (ag (cS PassesOwn.never rfl (Bi rfl T.b_reversed (aa (qv 0) ae)) (aw (i:=5) scN rfl (·)) (ag (ie (i:=4) scN rfl (·) (qv 2) jQ)
   (aj (au (i:=3) scN rfl (·) (ao bK (ao aQ (qv 3) (qv 1)) (ao aQ (qv 5) (qv 4)))))))
   (aj (aB (aL (aa (qv 3) (aa (qv 4) ae))))))),?_⟩
  walk_at"m";symm
  refine⟨∅,λp0 H0 hp0 S0 h0=>⟨p0,rfl,_,h0,rfl,?_⟩⟩;symm
  simp only[DI];symm
  replace h:=λp H' u s (S:ax (vw K H0) (vw K H'))=>h p H' u s (S0.trans S);replace ha:=S0 _ _ ha;clear S0 hp0 h0;refine⟨_,ha,?_⟩;have hLB:∀i,i<=ns.length->i*B<=400000/\i*(B+2)<=400080:=λi hi=>⟨Yg (Xm (Yg hi ln) hB) ∅,Yg (Xm (Yg hi ln) (show B+2<=10002 by nofun)) ∅⟩
  obtain⟨Pv,hPv⟩ : ∃Pv:Nat->St->Hp->Prop,∀j σ H',Pv j σ H'↔H'=H0 /\ ∃(u s:Int)(y:Option V),σ=[some (.ref a),some (.int t),some (.int b),some (.int u),some (.int s),y]/\s≠0/\(0<b->0<s)/\(u:Rat)/(s:Rat)=fu (ns.drop (ns.length-j)) ((t:Rat)/(b:Rat))/\Bt (1+j*B) s/\Bt (W+1+j*(B+2)) u:=⟨_,λ_ _ _=>XI⟩;refine aZ (its:=(ns.map V.int).reverse) Pv (λj σ H' _ p=>?_) ((hPv _ _ _).mpr ⟨rfl,0,1,_,rfl,∅,λ_=>by decide,?_,?_,?_⟩) (λj x σ H1 hj hx pv=>?_) (λσ H1 pv=>?_)
  .obtain⟨rfl,_⟩:=(hPv _ _ _).mp p;exact pM ha
  .rw[Nat.sub_zero,List.drop_length];show ((0:Int):Rat)/((1:Int):Rat)=0;have e0:((0:Int):Rat)=0:=rfl;rw[e0];grind
  .rw[Nat.zero_mul];decide
  .exact (show Bt 0 0 by decide).mono ()
  .obtain⟨rfl,u,s,y,rfl,s0,sp,hv,bs,bu⟩:=(hPv _ _ _).mp pv;simp only[List.length_reverse,YD] at hj;rw[List.getElem?_reverse (by rw[YD];exact hj),YD,YA,YN (show ns.length-1-j<ns.length by nofun)] at hx
   cases hx;have bw:=bn _ (YM (show ns.length-1-j<ns.length by nofun))
   have hd:=pV hj;generalize ns[ns.length-1-j]'()=w at bw hd;obtain⟨q1,q2⟩:=hLB j ();have hjb:j*(B+2)=j*B+j*2:=Nat.mul_add j B 2;symm
   refine⟨bJ bs bb (),?_⟩;have bs':=bs.mul bb;symm
   refine⟨bJ bu bt (),bJ bw bs' (),?_⟩;refine (hPv _ _ _).mpr ⟨rfl,_,_,_,rfl,Xb s0 nb,λhb0=>Y1 (sp hb0) hb0,?_,bs'.mono (by rw[Xl];nofun),((bu.mul bt).add (bw.mul bs')).mono (by rw[Xl];nofun)⟩
   rw[hd];show _=(w:Rat)+_*fu (ns.drop (ns.length-j)) _;rw[<-hv];have c1:=aq s0;have c2:=aq nb;simp only[Xc,Xd];grind
  .obtain⟨rfl,u,s,y,rfl,s0,sp,hv,bs,bu⟩:=(hPv _ _ _).mp pv;simp only[List.length_reverse,YD,Nat.sub_self,List.drop_zero] at hv bs bu;symm
   exact⟨∅,λp5 H5 hp5 S5 h5=>h p5 H5 u s S5 h5 s0 sp hv bs bu⟩
def di(K:W.Frag):Sp:=λvs H Q _=>∃(a:Addr)(xs:List V),vs=[.ref a]/\vw K H a=some (.lst xs)/\xs≠[] /\ ∀H',ax (vw K H) (vw K H')->Q .non H'
theorem lH(F:eD K "refuse_nought" "refuse_nought" dD f fd) (T:gG K mg):bj P w K mg base eP 1 f fd ["f"] (di K):=by
 have scN:=cZ.nd;refine F.okQ cZ (λvs H Q E h=>?_) (λcdv A outer s H vs Q E hr h=>?_)
 .obtain⟨_,_,rfl,_⟩:=h;rfl
 .obtain⟨a,xs,rfl,ha,x0,h⟩:=h;refine⟨_,(aj (cQ (lK (fx (qv 0) (λ_=>rfl))) (aj tJ) a8)),?_⟩;walk_at"m";symm
  refine⟨_,jC ha,?_⟩;exact oM (by cases xs with|nil=>exact absurd rfl x0|cons _ _=>simp) (h H (ax.refl _))
def dQ(C:Addr)(K:W.Frag):Sp:=λvs H _ E=>∃(a:Addr),vs=[.ref a]/\vw K H a=some (.lst []) /\ ∀H',ax (vw K H) (vw K H')->E (.ref C) none H'
theorem jX{C:Addr}(F:eD K "refuse_nought" "refuse_nought" dD f fd) (T:gG K mg)(zx_NoPolynomial:tu K C)(hgx_NoPolynomial:mg "NoPolynomial" = some (.ref C)):bj P w K mg base (lj P w) 1 f fd ["f"] (dQ C K):=by
 have scN:=cZ.nd;refine F.okX cZ (λvs H Q E h=>?_) (λcdv A outer s H vs Q E hr h=>?_)
 .obtain⟨_,rfl,_⟩:=h;rfl
 .obtain⟨a,rfl,ha,h⟩:=h;refine⟨_,(aj (cQ (lK (fx (qv 0) (λ_=>rfl))) (aj (AC zx_NoPolynomial rfl hgx_NoPolynomial (aa eJ ae))) a8)),?_⟩;walk_at"m";symm
  refine⟨_,jC ha,?_⟩;refine DZ rfl ?_;simp only[uy];symm
  exact⟨∅,h H (ax.refl _)⟩
def eZ(K:W.Frag):Sp:=λvs H Q _=>∃n:Int,vs=[.int n]/\Q (.int n.sign) H
theorem uP(F:eD K "sign_of" "sign_of" kz f fd) (T:gG K mg):bj P w K mg base eP 1 f fd ["whole"] (eZ K):=by
 have scN:=nA.nd;refine F.okQ nA (λvs H Q E h=>?_) (λcdv A outer s H vs Q E hr h=>?_)
 .obtain⟨_,rfl,_⟩:=h;rfl
 .obtain⟨n,rfl,h⟩:=h;refine⟨_,(ag (cQ (aH gk (qv 0) af (aM _)) (aj (aB af)) a8)
   (aj (aB (iN (aH ug (qv 0) af (aM _)) af (gf dL af))))),?_⟩
  walk_at"m";refine aR.gen λN1 hN1=>?_;symm
  refine cO (λz=>?_) (λz=>hN1 _ _ ?_)
  .rw[z] at h;exact h
  .symm
   refine cO (λy=>?_) (λy=>?_)
   .rwa [Int.sign_eq_one_of_pos y] at h
   .rwa [Int.sign_eq_neg_one_of_neg ()] at h
def j9(G:Hp)(t:Addr)(Fs:List (List Int)):Prop:=∃xs,G t=some (.lst xs)/\xs.length=Fs.length /\ ∀(k:Nat) F,Fs[k]? = some F -> ∃l:Addr,xs[k]? = some (.ref l)/\l≠t/\G l=some (.lst (F.map V.int))
theorem j9.same{G G':Hp}{t:Addr}{Fs:List (List Int)}(h:j9 G t Fs)(S:ax G G'):j9 G' t Fs:=by
 obtain⟨xs,a,b,c⟩:=h;refine⟨xs,S _ _ a,b,λk F e=>?_⟩;obtain⟨l,e1,e2,e3⟩:=c k F e;exact⟨l,e1,e2,S _ _ e3⟩
theorem j9.snoc{G G':Hp}{t l:Addr}{xs:List V}{Fs:List (List Int)}{F:List Int}(h:j9 G t Fs)(hx:G t=some (.lst xs))(B:gd t G G')(nl:l≠t)(hl:G l=some (.lst (F.map V.int)))(e:G' t=some (.lst (xs++[.ref l]))):j9 G' t (Fs++[F]):=by
 obtain⟨ys,a,b,c⟩:=h;rw[hx] at a;cases a;refine⟨_,e,by simp[b],λk F' ek=>?_⟩
 by_cases hk:k<Fs.length
 .rw[Yz hk] at ek;obtain⟨m,e1,e2,e3⟩:=c k F' ek;exact⟨m,by rw[Yz ()];exact e1,e2,B _ _ e2 e3⟩
 .have hk2:k=Fs.length:=by
   have:=(List.getElem?_eq_some_iff.mp ek).1;simp at this;nofun
  subst hk2;rw[Yy (),Nat.sub_self] at ek;cases ek;exact⟨l,by rw[Yy (),b,Nat.sub_self];rfl,nl,B _ _ nl hl⟩
def fJ(K:W.Frag):Sp:=λvs H Q _=>∃(a b:Addr)(ms ns:List Int),vs=[.ref a,.ref b]/\vw K H a=some (.lst (ms.map V.int))/\vw K H b=some (.lst (ns.map V.int))/\ms≠[]/\ns.length<=ms.length/\eY 300 ms/\eY 300 ns /\
 ∀(d:Addr)(H':Hp) rows,ax (vw K H) (vw K H')->j9 (vw K H') d (jL ms ns rows)->nM ms ns rows->rows.length<=11->(∀row∈rows,row.1.length<=11 /\ ∀x∈row.1,Bt 6102 x)->Q (.ref d) H'
theorem mq(F:eD K "signed_chain" "signed_chain" fX f fd) (T:gG K mg)(C_wholes_rests:dq P w K mg base "wholes_rests" ["one", "other"] 3 (fK K)) (C_sign_of:dq P w K mg base "sign_of" ["whole"] 1 (eZ K)):bj P w K mg base eP 4 f fd ["one", "other"] (fJ K):=by
 have scN:=io.nd;refine F.okQ io (λvs H Q E h=>?_) (λcdv A outer s H vs Q E hr h=>?_)
 .obtain⟨_,_,_,_,rfl,_⟩:=h;rfl
 .obtain⟨a,b,ms,ns,rfl,ha,hb,m0,lmn,im,il,h⟩:=h;refine⟨_,(ag (au (i:=2) scN rfl (·) (iN (fx (qv 1) (λ_=>rfl)) (a7 (aa (qv 0) (aa (qv 1) ae))) (a7 (aa (qv 0) ae))))
   (ag (DS af (aw (i:=3) scN rfl (·)) (aw (i:=4) scN rfl (·)))
   (ag (cS PassesOwn.never rfl (cg (av C_wholes_rests nofun rfl (aa (qv 0) (aa (qv 1) ae)))) (fS (n:=4) rfl (aS (aw (i:=5) scN rfl (·)) (aS (aw (i:=6) scN rfl (·)) (aS (aw (i:=7) scN rfl (·)) (aS (aw (i:=8) scN rfl (·)) fR))))) (ag (iI (aL (aa (qv 4) (aa (ao aQ (ao aQ (gf dL (qv 3)) (av C_sign_of nofun rfl (aa (qv 7) ae))) (av C_sign_of nofun rfl (aa (qv 8) ae))) ae))) (fS (n:=2) rfl (aS (aw (i:=3) scN rfl (·)) (aS (aw (i:=4) scN rfl (·)) fR))))
   (aj (gW (qe XU XV XW gj (qv 2) (aa (dX (own:=["whole"]) (outs:=["latter"]) (ixs:=[4]) rfl (cg (qv 5)) rfl ⟨rfl,rfl,rfl,⟨rfl,trivial⟩,rfl,⟨⟨rfl,rfl,rfl,_,rfl⟩,trivial⟩⟩ (λ_ _ _ _=>⟨(aw (i:=0) (show (["whole", "latter"]:List Str).Nodup by decide +kernel) rfl (·)),eU,(ao (show fi _ _ (iU K) from aQ) (qv 1) (qv 0))⟩)) ae))))))
   (aj (aB (qv 2)))))),?_⟩
  walk_at"m";refine aR.gen λN1 hN1=>?_;have key:∀(t:Addr)(H1:Hp),ax (vw K H) (vw K H1)->vw K H t=none->j9 (vw K H1) t (jL ms ns [])->N1 [some (.ref a),some (.ref b),some (.ref t),none,none,none,none,none,none] H1:=λt H1 S1 ht l1=>hN1 _ _ ?_
  .symm
   refine⟨_,jC hb,cO (λhc=>⟨∅,λt H1 ht S1 h1=>key t H1 S1 ht ?_⟩) (λhc=>⟨∅,λt H1 ht S1 h1=>key t H1 S1 ht ?_⟩)⟩
   .have n0:ns≠[]:=λz=>by rw[z] at hc;cases hc
    unfold jL;rw[Yc n0];refine⟨_,h1,rfl,λk F e=>?_⟩;match k,e with
    | 0,e=>cases e;exact⟨a,rfl,ah ha ht,S1 _ _ ha⟩
    | 1,e=>cases e;exact⟨b,rfl,ah hb ht,S1 _ _ hb⟩
   .have n0:ns=[]:=by
     cases ns with
     | nil=>rfl
     | cons _ _=>exact absurd rfl hc
    unfold jL;rw[Yb n0];refine⟨_,h1,rfl,λk F e=>?_⟩;match k,e with
    | 0,e=>cases e;exact⟨a,rfl,ah ha ht,S1 _ _ ha⟩
  clear hN1;refine aR.gen λN2 hN2=>?_;simp only[FP];symm
  refine hN2 _ _ ?_;refine aR.gen λN3 hN3=>?_;symm
  simp only[fK];refine⟨a,b,ms,ns,rfl,S1 _ _ ha,S1 _ _ hb,m0,lmn,im,il,λd H2 tv rows S2 h2 rr rst lrw rb=>⟨d,rfl,⟨_,.of (aE h2)⟩,?_⟩⟩;have S02:=S1.trans S2;have l2:=l1.same S2;obtain⟨ys,hys,lys,cys⟩:=id l2;have h0:(jL ms ns [])[0]? = some ms:=by
   unfold jL;split<;>rfl
  obtain⟨l0,y0,_,hz0⟩:=cys 0 ms h0;have ndt:d≠t:=λz=>by
   subst z;rw[h2] at hys;cases hys;have:0<tv.length:=(List.getElem?_eq_some_iff.mp y0).1;have hr0:0<rows.length:=by rw[<-rr.1];exact this
   obtain⟨p',_,_,q1,q2,_⟩:=rr.2 0 _ (YN hr0);rw[q1] at y0;cases y0;rw[hz0] at q2;cases q2
  have nint:∀(l:Addr)(is:List Int),vw K H2 l=some (.lst (is.map V.int))->l≠t:=λl is e z=>by
   subst z;rw[hys] at e;cases e;rw[YA] at y0;cases q:is[0]? with
   | none=>rw[q] at y0;cases y0
   | some _=>rw[q] at y0;cases y0
  have ntup:∀(l:Addr) us,vw K H2 l=some (.tup us)->l≠t:=λl us e z=>by
   subst z;rw[hys] at e;cases e
  obtain⟨Pv,hPv⟩ : ∃Pv:Nat->St->Hp->Prop,∀i σ H',Pv i σ H' ↔ ∃(o5 o6 o7 o8:Option V)(p q:Int)(dn:List (List Int)),σ=[some (.ref a),some (.ref b),some (.ref t),some (.int p),some (.int q),o5,o6,o7,o8]/\gd t (vw K H2) (vw K H')/\j9 (vw K H') t (jL ms ns []++dn)/\sy p/\sy q/\dn.length=i/\oY 1 1 rows=dn++oY p q (rows.drop i):=⟨_,λ_ _ _=>XI⟩;refine aZ (its:=tv) Pv (λi σ H' _ q=>?_) ((hPv _ _ _).mpr ⟨_,_,_,_,1,1,[],rfl,λ_ _ _ z=>z,by rw[Yv];exact l2,.inl rfl,.inl rfl,rfl,rfl⟩) (λi x σ H9 hi hx pv=>?_) (λσ H9 pv=>?_)
  .obtain⟨_,_,_,_,_,_,_,_,B',_⟩:=(hPv _ _ _).mp q;exact aP (B' _ _ ndt h2)
  .obtain⟨o5,o6,o7,o8,p,q,dn,rfl,B9,l9,pp,pq,ldn,esc⟩:=(hPv _ _ _).mp pv;have hir:i<rows.length:=by rw[<-rr.1];exact hi
   obtain⟨row,gI⟩ : ∃row,rows[i]? = some row:=⟨_,YN hir⟩;obtain⟨p',ra,qa,t1,t2,t3,t4,_,_⟩:=rr.2 i row gI;rw[t1] at hx;cases hx;have hmem:=YB gI;obtain⟨rl,rbt,_⟩:=rb row hmem;obtain⟨T0,S0,_⟩:=rst.ne row hmem;symm
   refine⟨_,B9 _ _ (ntup _ _ t2) t2,rfl,_,_,rfl,_,_,rfl,_,_,rfl,_,_,rfl,rfl,?_⟩;simp only[eZ];have pb:∀{y:Int},sy y->Bt 2 y:=λh=>by rcases h with z|z<;>rw[z]<;>decide
   have sb:∀{y:Int},y≠0->sy y.sign:=λh=>by
    rcases ee h with ⟨z,_⟩|⟨z,_⟩
    .exact .inl z
    .exact .inr z
   have pn:sy (-p):=by rcases pp with z|z<;>rw[z]<;>first|exact .inl rfl|exact .inr rfl
   have pm2:∀{x y:Int},sy x->sy y->sy (x*y):=λh k=>by rcases h with z|z<;>rcases k with u|u<;>rw[z,u]<;>first|exact .inl rfl|exact .inr rfl
   have p1:=pm2 pn (sb T0);have p2:=pm2 p1 (sb S0);refine⟨_,rfl,?_⟩;rw[cY];refine⟨bJ (pb pn) (pb (sb T0)) ∅,_,rfl,?_⟩;rw[cY];obtain⟨μ,hμ⟩ : ∃μ,μ = -p*row.2.2.1.sign*row.2.2.2.sign:=⟨_,rfl⟩;rw[<-hμ] at p2 ⊢;refine⟨bJ (pb p1) (pb (sb S0)) ∅,∅,λu Ha hu Sa ha'=>⟨u,rfl,_,ha',rfl,_,_,rfl,_,_,rfl,rfl,?_⟩⟩;obtain⟨ws,hws,lws,cws⟩:=id l9;have hra:vw K Ha ra=some (.lst (row.1.map V.int)):=Sa _ _ (B9 _ _ (nint _ _ t3) t3);refine⟨lE (Sa _ _ hws),ra,rfl,⟨_,.of (aE hra)⟩,λd2 Hc hd2 Sc hdc=>?_⟩;refine aW (its:=row.1.map V.int) (λj zs H'=>ax (vw K Ha) (vw K H')/\zs=((row.1.take j).map λy=>μ*y).map V.int) (λj zs H' _ _ z=>aP (z.1 _ _ hra)) hdc ⟨Sc,rfl⟩ (λj y zs H' hj hy h' z=>?_) (λzs Hd hdd z=>?_)
   .obtain⟨z1,rfl⟩:=z;rw[YD] at hj;rw[YA,YN hj] at hy;cases hy;symm
    refine⟨bJ (pb p2) (rbt _ (YM hj)) ∅,.mk h' ?_ λH8 B8 h8=>⟨λy o e=>B8 _ _ (ah e hd2) (z1 _ _ e),?_⟩⟩
    .rw[YD,YD,Yw];have:1000<=sizeLine:=∅;nofun
    .rw[XS,YN hj,XR,XR];rfl
   obtain⟨Sad,rfl⟩:=z;rw[YD,XT] at hdd;have S9d:=Sa.trans Sad;have nd2:d2≠t:=(ah (Sa _ _ hws) hd2).symm;refine⟨ws,S9d _ _ hws,?_,λHf Bf hf=>(hPv _ _ _).mpr ⟨_,_,_,_,q,μ,dn++[row.1.map λy=>μ*y],rfl,(B9.same_trans S9d).trans Bf,?_,pq,p2,by simp[ldn],?_⟩⟩
   .have l3:(jL ms ns []).length<=2:=by
     unfold jL;split<;>simp[oY]
    rw[lws,YC];have:1000<=sizeLine:=∅;nofun
   .rw[<-YI];exact (l9.same S9d).snoc (S9d _ _ hws) Bf nd2 hdd hf
   .rw[esc,YI];congr 1
    have ed:rows.drop i=row::rows.drop (i+1):=by
     rw[Xe hir];congr 1
     rw[YN hir] at gI;cases gI;rfl
    rw[ed,hμ];rfl
  .obtain⟨o5,o6,o7,o8,p,q,dn,rfl,B9,l9,pp,pq,ldn,esc⟩:=(hPv _ _ _).mp pv;refine hN3 _ _ ?_;symm
   refine h t H9 rows (λy o e=>B9 _ _ (ah e ht) (S02 _ _ e)) ?_ rst lrw λrow hr=>⟨(rb row hr).1,(rb row hr).2.1⟩;have e1:rows.drop tv.length=[]:=List.drop_eq_nil_of_le (by rw[rr.1];nofun)
   rw[e1] at esc;have e2:oY 1 1 rows=dn:=by rw[esc];exact Yv _
   have e3:jL ms ns rows=jL ms ns []++dn:=by
    unfold jL;by_cases n0:ns=[]
    .rw[Yb n0,Yb n0];subst n0;have:rows=[]:=by
      cases rst with
      | nought=>rfl
      | last n=>exact absurd rfl n
      | more n=>exact absurd rfl n
     subst this;rw[<-e2];rfl
    .rw[Yc n0,Yc n0,e2];rfl
   rw[e3];exact l9
theorem AM{P:List Int}{Fs hs:List (List Int)}{F h:List Int}(p:xP P Fs hs)(l:h.length<=11/\h.length+P.length<=20)(n:h≠[])(z:nz h (h.length-1)≠0)(e:∀k,nz F k=pz (nz h) (nz P) h.length k):xP P (Fs++[F]) (hs++[h]):=by
 induction p with
 | nil=>exact .cons l n z e .nil
 | cons a b c d _ ih=>exact .cons a b c d ih
theorem Cp{F h P:List Int}(f0:nz F (F.length-1)≠0)(p0:0<P.length)(lh:h.length=F.length+1-P.length)(lF:P.length<=F.length)(e:∀k,nz F k=pz (nz h) (nz P) h.length k):nz h (h.length-1)≠0:=λz=>f0 (by
 have hg:∀j,P.length-1<j->ez P j=0:=λj hj=>bQ P j ();have hf:∀j,h.length-1<j->ez h j=0:=λj hj=>bQ h j ();have a:=lM hg hf h.length;rw[Yb (),show h.length-1+(P.length-1)=F.length-1 by nofun] at a
 have b:((nz F (F.length-1):Int):Rat)=((pz (nz h) (nz P) h.length (F.length-1):Int):Rat):=by rw[<-e]
 rw[gF] at b;have c:ez h (h.length-1)=0:=by show ((nz h (h.length-1):Int):Rat)=0;rw[z];rfl
 rw[c,Rat.zero_mul] at a;exact Rat.intCast_inj.mp (b.trans a))
theorem yb{F h P rs:List Int}(p0:nz P (P.length-1)≠0)(pl:0<P.length)(lr:rs.length<P.length)(lz1:rs.length≠0->nz rs (rs.length-1)≠0)(e:∀k,nz F k=pz (nz h) (nz P) h.length k+nz rs k)(ex:Da F P):rs=[]:=Xw λn=>by
 obtain⟨Q,eQ⟩:=ex;have ln:=List.length_pos_iff.mpr n;have r:=um (q:=ez Q) (q':=ez h) (g:=ez P) (r:=λ_=>0) (r':=ez rs) (n:=Q.length) (n':=h.length) (d:=P.length-1) (λj hj=>bQ P j ()) (aq p0) (λ_ _=>rfl) (λk hk=>bQ rs k ()) (λk=>by
  have a:((nz F k:Int):Rat)=((pz (nz Q) (nz P) Q.length k:Int):Rat):=by rw[<-eQ]
  have b:((nz F k:Int):Rat)=((pz (nz h) (nz P) h.length k+nz rs k:Int):Rat):=by rw[<-e]
  rw[gF] at a;rw[Xc,gF] at b;show pr (λi=>((nz Q i:Int):Rat)) (λi=>((nz P i:Int):Rat)) Q.length k+0=pr (λi=>((nz h i:Int):Rat)) (λi=>((nz P i:Int):Rat)) h.length k+((nz rs k:Int):Rat);grind) (rs.length-1)
 exact absurd r.symm (aq (lz1 ()))
def Lu(B:Nat)(hs:List (List Int)):Prop:=hs.length<=14 /\ ∀F∈hs,F≠[]/\F.length<=20 /\ ∀x∈F,Bt B x
def fL(K:W.Frag):Sp:=λvs H Q _=>∃(a:Addr)(Fs:List (List Int))(L:List Int),vs=[.ref a]/\j9 (vw K H) a Fs/\Fs.getLast? = some L/\Fs.length<=14/\(∀F∈Fs,F≠[]/\F.length<=11/\nz F (F.length-1)≠0/\L.length<=F.length /\ ∀x∈F,Bt 6112 x)/\(∀(P:List Int)(g:Int),0<g->P.length=L.length->(∀k,nz L k=g*nz P k)->iB (nz P) -> ∀F∈Fs,Da F P) /\
 ∀(d:Addr)(H':Hp)(P:List Int)(g:Int) hs,ax (vw K H) (vw K H')->j9 (vw K H') d hs->0<g->P.length=L.length->(∀k,nz L k=g*nz P k)->xP P Fs hs->Lu 600000 hs->Q (.ref d) H'
theorem mr(F:eD K "parted_chain" "parted_chain" gq f fd) (T:gG K mg)(C_lowered:dq P w K mg base "lowered" ["wholes"] 2 (eT K)) (C_wholes_parted:dq P w K mg base "wholes_parted" ["one", "other"] 2 (cH K)):bj P w K mg base eP 3 f fd ["lists"] (fL K):=by
 have scN:=ik.nd;refine F.okQ ik (λvs H Q E h=>?_) (λcdv A outer s H vs Q E hr h=>?_)
 .obtain⟨_,_,_,rfl,_⟩:=h;rfl
 .obtain⟨a,Fs,L,rfl,ha,hL,l12,hF,hX,h⟩:=h;refine⟨_,(ag (au (i:=1) scN rfl (·) (av C_lowered nofun rfl (aa (aG dJ (qv 0) (gf dL af) (λ_ _=>rfl)) ae)))
   (aj (aB (dX (own:=["one"]) (outs:=["last"]) (ixs:=[1]) rfl (cg (qv 0)) rfl ⟨rfl,rfl,rfl,⟨rfl,trivial⟩,rfl,⟨⟨rfl,rfl,rfl,_,rfl⟩,trivial⟩⟩ (λ_ _ _ _=>⟨(aw (i:=0) (show (["one", "last"]:List Str).Nodup by decide +kernel) rfl (·)),eU,(aG (show yN _ (AR K) from dS) (av C_wholes_parted nofun rfl (aa (qv 0) (aa (qv 1) ae))) af (λ_ _=>rfl))⟩))))),?_⟩
  walk_at"m";obtain⟨xs,hxs,lxs,cxs⟩:=id ha;have lm:=List.mem_of_getLast? hL;obtain⟨L0,L9,Lz,_,Lb⟩:=hF L lm;have fp:0<Fs.length:=List.length_pos_of_mem lm;have eL:Fs[Fs.length-1]? = some L:=by rw[<-Xf];exact hL
  obtain⟨la,e1,_,e3⟩:=cxs _ L eL;have xl:xs.getLast? = some (.ref la):=by rw[Xf,lxs];exact e1
  refine aR.gen λN1 hN1=>?_;symm
  simp only[eT];refine⟨xs,hxs,_,gE xl,la,L,6112,rfl,e3,(),∅,Lb,λ_=>Lz,λp H1 P g S1 hp np lP g0 hg prm bP=>hN1 _ _ ?_⟩;symm
  refine⟨⟨_,.of (aE (S1 _ _ hxs))⟩,λd H2 hd S2 h2=>?_⟩;have L0':=List.length_pos_iff.mpr L0;have Pz:nz P (P.length-1)≠0:=λz=>Lz (by rw[hg,<-lP,z,Xi])
  have exq:=hX P g g0 lP hg (prm L0);refine aW (its:=xs) (λj zs H'=>ax (vw K H1) (vw K H') /\ ∃hs,j9 (vw K H') d hs/\xP P (Fs.take j) hs/\hs.length=j /\ ∀F∈hs,F≠[]/\F.length<=20 /\ ∀x∈F,Bt 600000 x) (λj zs H' _ _ z=>aP (z.1 _ _ (S1 _ _ hxs))) h2 ⟨S2,[],⟨[],h2,rfl,by simp⟩,.nil,rfl,by simp⟩ (λj x zs H' hj hx h' z=>?_) (λzs H3 h3 z=>?_)
  .obtain⟨z1,hs,lh,pt,ln,bh⟩:=z;have hj':j<Fs.length:=();obtain⟨l,f1,f2,f3⟩:=cxs j _ (YN hj');rw[hx] at f1;cases f1;have hm:=YM hj';obtain⟨F0,F9,Fz,FL,Fb⟩:=hF _ hm;symm
   simp only[cH];refine⟨l,p,_,P,6112,6112,rfl,z1 _ _ (S1 _ _ f3),z1 _ _ hp,(),Pz,(),(),∅,∅,(),Fb,bP,λp4 qa ra S qs rs H4 S4 h4 hqa hra nra lq lr _ ex bS bq br lrz ev _=>⟨_,rfl,_,h4,_,ji,?_⟩⟩;have xF:=exq _ hm;have s1:S=1:=ex xF;subst s1;have ev':∀k,nz Fs[j] k=pz (nz qs) (nz P) qs.length k+nz rs k:=λk=>by rw[<-ev k,Xk]
   have rn:=yb Pz () lr lrz ev' xF;subst rn;have II:∀k,nz Fs[j] k=pz (nz qs) (nz P) qs.length k:=λk=>by rw[ev' k,aK (by simp)];nofun
   have q0:0<qs.length:=();have nqd:qa≠d:=λe=>by
    subst e;rw[S4 _ _ h'] at hqa;cases hqa;obtain⟨ys,y1,y2,y3⟩:=lh;rw[h'] at y1;cases y1;rw[YD] at y2;have hh:0<hs.length:=();obtain⟨l',w1,_⟩:=y3 0 _ (YN hh);rw[YA,YN q0] at w1;cases w1
   refine .mk (S4 _ _ h') ?_ λH8 B8 h8=>⟨λy o e=>B8 _ _ (ah e hd) (S4 _ _ (z1 _ _ e)),hs++[qs],(lh.same S4).snoc (S4 _ _ h') B8 nqd hqa h8,?_,by simp[ln],λF hF'=>?_⟩
   .obtain⟨ys,y1,y2,_⟩:=lh;rw[h'] at y1;cases y1;have:1000<=sizeLine:=∅;nofun
   .rw[XS,YN hj'];exact AM pt ⟨(),()⟩ (List.length_pos_iff.mp q0) (Cp Fz () () () II) II
   .rcases List.mem_append.mp hF' with y|y
    .exact bh F y
    .rw[List.mem_singleton.mp y];exact⟨List.length_pos_iff.mp q0,(),λx hx=>(bq x hx).mono ∅⟩
  .obtain⟨z1,hs,lh,pt,ln,bh⟩:=z;rw[lxs,XT] at pt;exact h d H3 P g hs (S1.trans z1) lh g0 lP hg pt ⟨(),bh⟩
def cU(K:W.Frag):Sp:=λvs H Q _=>∃(a:Addr)(fs:List (Int×Int)),vs=[.ref a]/\dB (vw K H) a fs/\fs≠[]/\fs.length<=11/\eO fs/\Pb 220 (cf fs) /\
 ∀(d:Addr)(H':Hp) hs,ax (vw K H) (vw K H')->j9 (vw K H') d hs->KR fs hs->(∀x∈hs,x≠[]/\x.length<=20/\nz x (x.length-1)≠0)->Lu 600000 hs->Q (.ref d) H'
theorem jI(F:eD K "counting_chain" "counting_chain" eX f fd) (T:gG K mg)(C_lowered:dq P w K mg base "lowered" ["wholes"] 2 (eT K)) (C_cleared:dq P w K mg base "cleared" ["f"] 2 (jx K)) (C_parted_chain:dq P w K mg base "parted_chain" ["lists"] 3 (fL K)) (C_signed_chain:dq P w K mg base "signed_chain" ["one", "other"] 4 (fJ K)) (C_wholes_slope:dq P w K mg base "wholes_slope" ["wholes"] 1 (bU K)):bj P w K mg base eP 5 f fd ["f"] (cU K):=by
 have scN:=gC.nd;refine F.okQ gC (λvs H Q E h=>?_) (λcdv A outer s H vs Q E hr h=>?_)
 .obtain⟨_,_,rfl,_⟩:=h;rfl
 .obtain⟨a,fs,rfl,ha,f0,lf,pf,bf,h⟩:=h;refine⟨_,(ag (au (i:=1) scN rfl (·) (av C_lowered nofun rfl (aa (aG dS (av C_cleared nofun rfl (aa (qv 0) ae)) af (λ_ _=>rfl)) ae)))
   (aj (aB (av C_parted_chain nofun rfl (aa (av C_signed_chain nofun rfl (aa (qv 1) (aa (av C_lowered nofun rfl (aa (av C_wholes_slope nofun rfl (aa (qv 1) ae)) ae)) ae))) ae))))),?_⟩
  walk_at"m";refine aR.gen λN1 hN1=>?_;symm
  simp only[jx,eT];have bq:=bf.bq pf.1;refine⟨a,fs,220,rfl,ha,(),∅,λq z=>⟨pf.1 q z,bq q z⟩,λp b H2 D ns S2 h2 hb nb hD _ ln hn hm=>⟨_,rfl,_,h2,_,ji,?_⟩⟩;have hc2:=vm bf pf.1 hD hm ln λi n q e1 e2=>(hn i n q e1 e2).1;have cl:=zB ln λi n q e1 e2=>(hn i n q e1 e2).1;have D0:(D:Rat)≠0:=aq ();have lfp:0<fs.length:=List.length_pos_iff.mpr f0;have nl:nz ns (ns.length-1)≠0:=λz=>by
   have q1:=cl (ns.length-1);have q2:=pG pf f0;rw[z,ln] at q1;have:cf fs (fs.length-1)*(D:Rat)=0:=q1.symm;rcases Rat.mul_eq_zero.mp this with y|y
   .exact q2 y
   .exact D0 y
  refine⟨b,ns,230,rfl,hb,(),∅,λx z=>(hc2.2 x z).mono ∅,λ_=>nl,λwa H3 W g S3 hW nW lW g0 hg prW bW=>hN1 _ _ ?_⟩;have Wz:nz W (W.length-1)≠0:=λz=>nl (by rw[hg,<-lW,z,Xi])
  have W0:W≠[]:=λz=>by rw[z] at lW;simp at lW;nofun
  symm
  simp only[bU,eT];refine⟨wa,W,rfl,hW,(),λx z=>(bW x z).mono ∅,λsa H4 S S4 hS nS lS eS bS=>?_⟩;have Sz:S≠[]->nz S (S.length-1)≠0:=λz=>by
   have:=List.length_pos_iff.mpr z;rw[eS,show S.length-1+1=W.length-1 by nofun]
   exact Xb () Wz
  refine⟨sa,S,250,rfl,hS,(),∅,bS,Sz,λoa H5 O g' S5 hO nO lO g0' hg' prO bO=>?_⟩;simp only[fJ];have Oz:O≠[]->nz O (O.length-1)≠0:=λz y=>by
   have:=List.length_pos_iff.mpr z;have z2:S≠[]:=List.length_pos_iff.mp ();refine Sz z2 ?_;rw[hg',<-lO,y,Xi]
  have up:∀{x:Int}{n:Nat},n<=300->Bt n x->Bt 300 x:=λl b=>b.mono l;refine⟨wa,oa,W,O,rfl,(S4.trans S5) _ _ hW,hO,W0,(),⟨(),λx z=>up ∅ (bW x z),λ_=>Wz⟩,⟨(),λx z=>up ∅ (bO x z),Oz⟩,λd H6 rows S6 l6 rst lrw rb=>?_⟩;simp only[fL];have S06:=S2.trans (S3.trans (S4.trans (S5.trans S6)));have hW':∀k,ez W k=cf fs k*((D:Rat)/(g:Rat)):=λk=>by
   have e1:=cl k;rw[hg k,Xd] at e1;have c:=aq (show g≠0 by nofun)
   show ((nz W k:Int):Rat)=_;grind
  have hn:∀row∈rows,row.2.2.1≠0/\row.2.2.2≠0:=λrow z=>⟨(rst.ne row z).1,(rst.ne row z).2.1⟩;by_cases o0:O=[]
  .have lo:O.length=0:=by rw[o0];rfl
   have W1:W.length=1:=by
    have:=List.length_pos_iff.mpr W0;nofun
   have e6:jL W O rows=[W]:=Yb o0;rw[e6] at l6;refine⟨d,[W],W,rfl,l6,rfl,by simp,λF hF=>?_,λP g2 g20 lP hP prm F hF=>?_,λd7 H7 P g2 hs S7 l7 g20 lP hP pt lb=>?_⟩
   .rw[List.mem_singleton.mp hF];exact⟨W0,(),Wz,Yq _,λx z=>(bW x z).mono ∅⟩
   .rw[List.mem_singleton.mp hF];refine⟨[g2],zZ (by simp;nofun) () λx=>?_⟩
    rw[qX,fE hP]
   .refine h d7 H7 hs (S06.trans S7) l7 ?_ pt.all lb;cases pt with
    | @cons _ h1 _ _ a1 a2 a3 a4 pt =>
     cases pt with
     | nil =>
      have Pz:nz P 0≠0:=λz=>Wz (by rw[hP,W1,z,Xi])
      obtain⟨c,c0,rfl⟩:=EH W1 a2 a3 () Pz a4;exact⟨.inl ⟨(),c,c0,rfl⟩,λc' z=>by cases z;exact Bh ((prW (λz=>by rw[z] at ln;simp at ln;nofun)).left a4),λ_ _ _ z=>by cases z⟩
  .have e6:jL W O rows=W::O::oY 1 1 rows:=Yc o0;rw[e6] at l6;obtain⟨L,s',eL,ps,nL,lL⟩:=iM rows 1 1 O O hn (.inl rfl) (.inl rfl) (λk=>by rw[Xk]) rfl
   obtain⟨sh1,sh2⟩:=rst.short;have bnd:∀F∈W::O::oY 1 1 rows,F≠[]/\F.length<=11/\nz F (F.length-1)≠0/\L.length<=F.length /\ ∀x∈F,Bt 6112 x:=λF hF=>by
    rcases Y2.mp hF with rfl|hF
    .exact⟨W0,(),Wz,(),λx z=>(bW x z).mono ∅⟩
    .rcases Y2.mp hF with rfl|hF
     .exact⟨o0,(),Oz o0,(),λx z=>(bO x z).mono ∅⟩
     .obtain⟨row,hr,s2,ps2,rfl⟩:=qQ rows 1 1 hn (.inl rfl) (.inl rfl) F hF;obtain⟨_,_,r0,rz⟩:=rst.ne row hr;obtain⟨r9,rb'⟩:=rb row hr;have:=sh2 row hr;refine⟨by simpa using r0,by rw[YD];exact r9,?_,by rw[YD];nofun,λx hx=>?_⟩
      .rw[YD,de];exact Xb (by rcases ps2 with z|z<;>rw[z]<;>decide) rz
      .obtain⟨y,hy,rfl⟩:=List.mem_map.mp hx;have:=rb' y hy;have b2:Bt 2 s2:=by rcases ps2 with z|z<;>rw[z]<;>decide
       exact (b2.mul this).mono ∅
   have lsl:(W::O::oY 1 1 rows).getLast? = some L:=by rw[List.getLast?_cons_cons];exact eL
   have lsc:∀(rs:List (List Int×List Int×Int×Int))(x y:Int),(oY x y rs).length=rs.length:=λrs=>by
    induction rs with
    | nil=>intro x y;rfl
    | cons r rs ih=>intro x y;show (oY _ _ rs).length+1=_;rw[ih];rfl
   have L9:L.length<=11:=();obtain⟨L0,_,Lz,_⟩:=bnd L (List.mem_of_getLast? lsl);refine⟨d,_,L,rfl,l6,lsl,by simp only[Y6,lsc];nofun,bnd,λP g2 g20 lP hP prm=>yO rst o0 () () () prm () eL hP λrow hr=>(rb row hr).1,λd7 H7 P g2 hs S7 l7 g20 lP hP pt lb=>h d7 H7 hs (S06.trans S7) l7 ?_ pt.all lb⟩
   have Pz:nz P (P.length-1)≠0:=λz=>Lz (by rw[hP,<-lP,z,Xi])
   have P0:P≠[]:=λz=>by
    have z2:P.length=0:=by rw[z];rfl
    have:=List.length_pos_iff.mpr L0;nofun
   refine⟨Ki rst o0 () () P0 Pz () eL () hP hW' eS g0' hg' pt,λc' z=>(by cases pt with|cons _ _ _ _ pt=>cases pt with|cons _ _ _ _ pt=>cases z),Db rst o0 () () Wz (Oz o0) Pz () eL () hP pt (prW ?_) (prO ?_)⟩
   .exact λz=>by rw[z] at ln;simp at ln;nofun
   .exact λz=>o0 (List.length_eq_zero_iff.mp (by rw[lO,z];rfl))
def fj(K:W.Frag):Sp:=λvs H Q _=>∃(a:Addr)(W:List Int)(n:Nat),vs=[.ref a]/\vw K H a=some (.lst (W.map V.int))/\W≠[]/\W.length<=20/\nz W (W.length-1)≠0/\n<=100000/\(∀x∈W,Bt n x) /\
 ∀E:Nat,E<=n+2->Lr W E->Q (.int ((2^E:Nat):Int)) H
theorem Dd{α:Type}{xs:List α}{k:Nat}{v:α}(hk:k<xs.length)(h:xs[xs.length-1-k]? = some v):oi xs (-1-(k:Int))=some v:=by
 unfold oi uO;rw[Yc (),Yb ()];show xs[(-1-(k:Int)+(xs.length:Int)).toNat]? = some v;rw[show (-1-(k:Int)+(xs.length:Int)).toNat=xs.length-1-k by nofun]
 exact h
theorem AS{x k:Int}{n:Nat}(h : -(n:Int)<=x)(k1:1<=k) : -(n:Int)<=x.fdiv k:=by
 rw[Int.fdiv_eq_ediv_of_nonneg _ ()];refine (Int.le_ediv_iff_mul_le ()).mpr ?_;have:=Int.mul_le_mul_of_nonneg_left k1 (show (0:Int)<=(n:Int) by nofun)
 rw[Int.neg_mul];nofun
theorem oS(F:eD K "root_bound" "root_bound" gR f fd) (T:gG K mg):bj P w K mg base eP 1 f fd ["wholes"] (fj K):=by
 have scN:=jc.nd;refine F.okQ jc (λvs H Q E h=>?_) (λcdv A outer s H vs Q E hr h=>?_)
 .obtain⟨_,_,_,rfl,_⟩:=h;rfl
 .obtain⟨a,W,n,rfl,ha,w0,w20,wz,hn,bw,h⟩:=h;refine⟨_,(ag (au (i:=1) scN rfl (·) (uX PySem.F.plainAttrs_int PySem.F.slot_int_bit_length PySem.F.type_int_bit_length jn (aG dJ (qv 0) (gf dL af) (λ_ _=>rfl))))
   (ag (au (i:=2) scN rfl (·) af)
   (ag (cS PassesOwn.never rfl (qo rfl T.b_range (aa af (aa (ar aU (by rfl) T.b_len cx (aa (qv 0) ae)) ae))) (aw (i:=3) scN rfl (·)) (ag (au (i:=4) scN rfl (·) (aG dJ (qv 0) (ao cz (gf dL af) (qv 3)) (λ_ _=>rfl)))
   (aj (cQ (aH jO (qv 4) af (aM _)) (aj (au (i:=2) scN rfl (·) (ar (kP rfl) (by rfl) T.b_max u4 (aa (qv 2) (aa (ao cz af (ao nZ (ao cz (ao cz (qv 1) (uX PySem.F.plainAttrs_int PySem.F.slot_int_bit_length PySem.F.type_int_bit_length jn (qv 4))) af) (qv 3))) ae))))) a8))))
   (aj (aB (ao DY af (qv 2))))))),?_⟩
  walk_at"m";have wp:=List.length_pos_iff.mpr w0;have at_:∀k,k<W.length->(W.map V.int)[k]? = some (.int (nz W k)):=λk hk=>by
   rw[YA,YN hk,aT (YN hk)];rfl
  have xl:(W.map V.int).getLast? = some (.int (nz W (W.length-1))):=by
   rw[Xf,YD];exact at_ _ ()
  have bn:∀k,Builtin.Int.intBits (nz W k)<=n:=λk=>D4 (qp bw k);refine aR.gen λN1 hN1=>?_;symm
  refine⟨_,ha,_,gE xl,?_⟩;refine⟨rfl,_,rfl,rfl,hN1 _ _ ?_⟩;refine aR.gen λN2 hN2=>?_;symm
  refine hN2 _ _ ?_;refine aR.gen λN3 hN3=>?_;symm
  refine⟨W.length,by simp only[ig,ha,YD],(),(),(),(),?_⟩
  rw[show ((W.length:Int)-1).toNat=W.length-1 by nofun]
  obtain⟨Tm,hTm⟩ : ∃Tm:Nat->Nat->Prop,∀E k,Tm E k↔(nz W k=0\/1-(((Builtin.Int.intBits (nz W (W.length-1)):Nat):Int)-((Builtin.Int.intBits (nz W k):Nat):Int)-1).fdiv ((W.length-1-k:Nat):Int)<=(E:Int)):=⟨_,λ_ _=>XI⟩;obtain⟨Pv,hPv⟩ : ∃Pv:Nat->St->Hp->Prop,∀i σ H',Pv i σ H'↔H'=H /\ ∃(E:Nat)(o3 o4:Option V),σ=[some (.ref a),some (.int ((Builtin.Int.intBits (nz W (W.length-1)):Nat):Int)),some (.int (E:Int)),o3,o4]/\E<=n+2 /\ ∀k,W.length-1-i<=k->k<W.length-1->Tm E k:=⟨_,λ_ _ _=>XI⟩;refine aZ (its:=dy 1 (W.length-1)) Pv (λi σ H' _ p=>aX) ((hPv _ _ _).mpr ⟨rfl,0,_,_,rfl,(),λk h1 h2=>absurd h2 ()⟩) (λi y σ H1 hi hy pv=>?_) (λσ H1 pv=>?_)
  .obtain⟨rfl,E,o3,o4,rfl,eE,hk⟩:=(hPv _ _ _).mp pv;obtain⟨hi',rfl⟩:=d5 hy;have ek:W.length-1-(W.length-1-(i+1))=i+1:=();refine aR.gen λN4 hN4=>?_;symm
   refine⟨_,ha,V.int (nz W (W.length-1-(i+1))),?_,hN4 _ _ ?_⟩
   .rw[show (-1:Int)-(1+(i:Int)) = -1-((i+1:Nat):Int) by nofun]
    refine Dd (by rw[YD];nofun) ?_
    rw[YD];exact at_ _ ()
   have keep:∀E':Nat,E<=E'->Tm E' (W.length-1-(i+1)) -> ∀k,W.length-1-(i+1)<=k->k<W.length-1->Tm E' k:=λE' le t k h1 h2=>by
    by_cases z:k=W.length-1-(i+1)
    .rw[z];exact t
    .rcases (hTm _ _).mp (hk k () h2) with y|y
     .exact (hTm _ _).mpr (.inl y)
     .exact (hTm _ _).mpr (.inr ())
   symm
   refine cO (λz=>?_) (λz=>(hPv (i+1) _ _).mpr ⟨rfl,E,_,_,rfl,eE,keep E (Yq _) ((hTm _ _).mpr (.inl (Classical.not_not.mp z)))⟩);have b1:=(mF wz).1;have b2:=bn (W.length-1-(i+1));have fl:=AS (n:=n) (x:=((Builtin.Int.intBits (nz W (W.length-1)):Nat):Int)-((Builtin.Int.intBits (nz W (W.length-1-(i+1))):Nat):Int)-1) (k:=1+(i:Int)) () ();refine⟨rfl,_,rfl,rfl,_,rfl,GL () (show (1+(i:Int)).natAbs<2^9000 from Yd (show _<2^5 by nofun) (YV ∅ ∅)),?_⟩
   obtain⟨v,hv⟩ : ∃v,v=1-(((Builtin.Int.intBits (nz W (W.length-1)):Nat):Int)-((Builtin.Int.intBits (nz W (W.length-1-(i+1))):Nat):Int)-1).fdiv (1+(i:Int)):=⟨_,rfl⟩;rw[<-hv];have tm:∀E':Nat,v<=(E':Int)->Tm E' (W.length-1-(i+1)):=λE' l=>(hTm _ _).mpr (.inr (by
    rw[ek,show ((i+1:Nat):Int)=1+(i:Int) by nofun,<-hv]
    exact l))
   by_cases q:v > (E:Int)
   .rw[Yb q];obtain⟨E',rfl⟩ : ∃E':Nat,v=(E':Int):=⟨v.toNat,()⟩;exact (hPv (i+1) _ _).mpr ⟨rfl,E',_,_,rfl,(),keep E' () (tm E' ())⟩
   .rw[Yc q];exact (hPv (i+1) _ _).mpr ⟨rfl,E,_,_,rfl,eE,keep E (Yq _) (tm E ())⟩
  .obtain⟨rfl,E,o3,o4,rfl,eE,hk⟩:=(hPv _ _ _).mp pv;refine hN3 _ _ ?_;symm
   refine⟨(),?_,?_⟩
   .have:Builtin.Int.intBits 1=1:=∅;rw[this];nofun
   .have e:=h E eE λk hk'=>?_
    .rw[show (1:Int)*2^((E:Int)).toNat=((2^E:Nat):Int) by rw[Xk,YE];simp]
     exact e
    .rcases (hTm _ _).mp (hk k (by rw[cW];nofun) hk') with y|y
     .rw[y];unfold Sm;have p1:(0:Rat)<p2 E/2:=by
       have:=zV E;grind
      have p3:=Xs (show (0:Rat)<(((nz W (W.length-1)).natAbs:Int):Rat) from Rat.intCast_pos.mpr ()) (ei p1 (W.length-1-k))
      have c0:((0:Int):Rat)=0:=rfl;rw[c0];grind
     .exact vJ (D5 _) (mF wz).2 (mF wz).1 () y
def bC(K:W.Frag):Sp:=λvs H Q _=>∃(a:Addr)(ns:List Int)(x m:Int),vs=[.ref a,.int x,.int m]/\vw K H a=some (.lst (ns.map V.int))/\(∀n∈ns,Bt 1000 n)/\Bt 1000 x/\0<m/\Bt 1000 m/\Q (.int (zv ns x%m)) H
theorem rH(F:eD K "left_over" "left_over" iO f fd) (T:gG K mg):bj P w K mg base eP 1 f fd ["wholes", "x", "modulus"] (bC K):=by
 have scN:=jY.nd;refine F.okQ jY (λvs H Q E h=>?_) (λcdv A outer s H vs Q E hr h=>?_)
 .obtain⟨a,_,_,_,rfl,_⟩:=h;rfl
 .obtain⟨a,ns,x,m,rfl,ha,bn,bx,m0,bm,h⟩:=h;refine⟨_,(ag (au (i:=3) scN rfl (·) af)
   (ag (cS PassesOwn.never rfl (Bi rfl T.b_reversed (aa (qv 0) ae)) (aw (i:=4) scN rfl (·)) (aj (au (i:=3) scN rfl (·) (ao cJ (ao bK (ao aQ (qv 3) (qv 1)) (qv 4)) (qv 2)))))
   (aj (aB (qv 3))))),?_⟩
  walk_at"m";symm
  simp only[DI];symm
  refine⟨_,ha,?_⟩;obtain⟨Pv,hPv⟩ : ∃Pv:Nat->St->Hp->Prop,∀j σ H',Pv j σ H'↔H'=H /\ ∃(t:Int)(y:Option V),t=zv (ns.drop (ns.length-j)) x%m/\σ=[some (.ref a),some (.int x),some (.int m),some (.int t),y]:=⟨_,λ_ _ _=>XI⟩;refine aZ (its:=(ns.map V.int).reverse) Pv (λj σ H' _ p=>?_) ((hPv _ _ _).mpr ⟨rfl,0,_,?_,rfl⟩) (λj y σ H1 hj hy pv=>?_) (λσ H1 pv=>?_)
  .obtain⟨rfl,_⟩:=(hPv _ _ _).mp p;exact pM ha
  .rw[Nat.sub_zero,List.drop_length];exact (Int.zero_emod m).symm
  .obtain⟨rfl,t,y',et,rfl⟩:=(hPv _ _ _).mp pv;simp only[List.length_reverse,YD] at hj;rw[List.getElem?_reverse (by rw[YD];exact hj),YD,YA,YN (show ns.length-1-j<ns.length by nofun)] at hy
   cases hy;have bw:=bn _ (YM (show ns.length-1-j<ns.length by nofun))
   have hd:=pV hj;generalize ns[ns.length-1-j]'()=w at bw hd;symm
   have bt:Bt 1000 t:=by rw[et];exact gT m0 bm
   refine⟨bJ bt bx ∅,(),(hPv _ _ _).mpr ⟨rfl,_,_,?_,rfl⟩⟩;rw[XX _ (),hd,et];show _=(w+x*zv (ns.drop (ns.length-j)) x)%m;rw[GH]
  .obtain⟨rfl,t,y',et,rfl⟩:=(hPv _ _ _).mp pv;simp only[List.length_reverse,YD,Nat.sub_self,List.drop_zero] at et;symm
   rw[et];exact h
theorem qE{ns:List Int}(h:ns≠[]):(ns.map V.int).getLast? = some (.int (nz ns (ns.length-1))):=by
 have l:=List.length_pos_iff.mpr h;rw[Xf,YD,YA,YN (show ns.length-1<ns.length by nofun),aT (YN (show ns.length-1<ns.length by nofun))]
 rfl
def kH(K:W.Frag):Sp:=λvs H Q _=>∃(a:Addr)(ns:List Int)(m:Int),vs=[.ref a,.int m]/\vw K H a=some (.lst (ns.map V.int))/\ns≠[]/\ns.length<=11/\2<=m/\m<=3024 /\
 ∀b (H':Hp),ax (vw K H) (vw K H')->(b=true↔Sv ns m)->Q (.bl b) H'
theorem yz(F:eD K "serves" "serves" oK f fd) (T:gG K mg)(C_greatest_divisor:dq P w K mg base "greatest_divisor" ["one", "other"] 1 (aF K)) (C_wholes_slope:dq P w K mg base "wholes_slope" ["wholes"] 1 (bU K)) (C_left_over:dq P w K mg base "left_over" ["wholes", "x", "modulus"] 1 (bC K)):bj P w K mg base eP 2 f fd ["wholes", "modulus"] (kH K):=by
 have scN:=pX.nd;refine F.okQ pX (λvs H Q E h=>?_) (λcdv A outer s H vs Q E hr h=>?_)
 .obtain⟨a,_,_,rfl,_⟩:=h;rfl
 .obtain⟨a,ns,m,rfl,ha,n0,ln,m2,m3,h⟩:=h;refine⟨_,(ag (cQ (aH jO (av C_greatest_divisor nofun rfl (aa (aG dJ (qv 0) (gf dL af) (λ_ _=>rfl)) (aa (qv 1) ae))) af (aM _)) (aj (aB je)) a8)
   (ag (gX (i:=2) (own:=["whole"]) (outs:=["modulus"]) (ixs:=[1]) scN rfl (·) rfl (cg (qv 0)) rfl ⟨rfl,rfl,rfl,⟨rfl,trivial⟩,rfl,⟨⟨rfl,rfl,rfl,_,rfl⟩,trivial⟩⟩ (λ_ _ _ _=>⟨(aw (i:=0) (show (["whole", "modulus"]:List Str).Nodup by decide +kernel) rfl (·)),eU,(ao cJ (qv 0) (qv 1))⟩))
   (ag (au (i:=3) scN rfl (·) (av C_wholes_slope nofun rfl (aa (qv 2) ae)))
   (ag (cS PassesOwn.never rfl (ck rfl T.b_range (aa (qv 1) ae)) (aw (i:=4) scN rfl (·)) (aj (cQ (aH gk (av C_left_over nofun rfl (aa (qv 2) (aa (qv 4) (aa (qv 1) ae)))) af (aM _)) (aj (cQ (aH jO (av C_greatest_divisor nofun rfl (aa (av C_left_over nofun rfl (aa (qv 3) (aa (qv 4) (aa (qv 1) ae)))) (aa (qv 1) ae))) af (aM _)) (aj (aB je)) a8)) a8)))
   (aj (aB je)))))),?_⟩
  walk_at"m";have ln0:=List.length_pos_iff.mpr n0;have bm:Bt 200 m:=(show Bt 12 m by unfold Bt;nofun).mono ∅
  refine aR.gen λN1 hN1=>?_;symm
  simp only[aF];refine⟨_,ha,_,gE (qE n0),_,_,rfl,rfl,cO (λz=>?_) (λz=>hN1 _ _ ?_)⟩
  .refine h false H (ax.refl _) ⟨λy=>(by cases y),λsv=>absurd ?_ z⟩
   rw[sv.1];rfl
  clear hN1;have g1:Int.gcd (nz ns (ns.length-1)) m=1:=by
   have z:=Classical.not_not.mp z;injection z with z
   nofun
  refine aR.gen λN2 hN2=>?_;symm
  refine⟨⟨_,.of (aE ha)⟩,λc H1 hc S1 h1=>?_⟩;refine aW (its:=ns.map V.int) (λk zs H'=>ax (vw K H) (vw K H')/\zs=((ns.take k).map λn=>n%m).map V.int) (λk zs H' _ _ z=>aP (z.1 _ _ ha)) h1 ⟨S1,rfl⟩ (λk x zs H' hk hx h' z=>?_) (λzs H2 h2 z=>?_)
  .obtain⟨z1,rfl⟩:=z;have hk':k<ns.length:=by rwa [YD] at hk
   rw[YA,YN hk'] at hx;cases hx;symm
   refine⟨(),.mk h' ?_ λH3 B3 h3=>⟨λb o e=>B3 _ _ (ah e hc) (z1 _ _ e),?_⟩⟩
   .rw[YD,YD,Yw];have:1000<=sizeLine:=∅;nofun
   .rw[XS,YN hk',XX _ (),XR,XR];rfl
  obtain⟨z1,rfl⟩:=z;rw[YD,XT] at h2;refine hN2 _ _ ?_;clear hN2;obtain⟨ms,hms⟩ : ∃ms,ms=ns.map λn=>n%m:=⟨_,rfl⟩;rw[<-hms] at h2;have lms:ms.length=ns.length:=by rw[hms,YD]
  have mm:∀k,m∣nz ms k-nz ns k:=λk=>by rw[hms];exact C5 k
  have bms:∀x∈ms,Bt 200 x:=λx hx=>by
   rw[hms] at hx;obtain⟨n,_,rfl⟩:=List.mem_map.mp hx;exact gT () bm
  refine aR.gen λN3 hN3=>?_;symm
  simp only[bU];refine⟨c,ms,rfl,h2,(),λx z=>(bms x z).mono ∅,λd H3 is S3 h3 nd3 lis eis bis=>hN3 _ _ ?_⟩;clear hN3;have zi:∀x,zv is x=zs ms x:=λx=>Fu eis x;refine aR.gen λN4 hN4=>?_;symm
  obtain⟨Pv,hPv⟩ : ∃Pv:Nat->St->Hp->Prop,∀k σ H',Pv k σ H'↔H'=H3 /\ ∃y,σ=[some (.ref a),some (.int m),some (.ref c),some (.ref d),y] /\ ∀x:Int,0<=x->x<k->m∣zv ns x->Int.gcd (zs ns x) m=1:=⟨_,λ_ _ _=>XI⟩;refine⟨(),(),aZ (its:=dy 0 _) Pv (λ_ _ _ _ _=>aX) ((hPv _ _ _).mpr ⟨rfl,_,rfl,λx _ _=>by nofun⟩) (λk y σ H4 hk hy pv=>?_) (λσ H4 pv=>?_)⟩
  .obtain⟨rfl,y',rfl,all⟩:=(hPv _ _ _).mp pv;obtain⟨hk',rfl⟩:=d5 hy;have hx0:(0:Int)+(k:Int)=k:=();have bk:Bt 1000 ((0:Int)+(k:Int)):=(show Bt 12 ((0:Int)+(k:Int)) by unfold Bt;nofun).mono ∅
   have same:=jS (ka m ((0:Int)+(k:Int)) _ _ mm);have same2:=jS (IQ mm ((0:Int)+(k:Int)));have next:(m∣zv ns (k:Int)->Int.gcd (zs ns (k:Int)) m=1)->Pv (k+1) [some (.ref a),some (.int m),some (.ref c),some (.ref d),some (.int (0+(k:Int)))] H4:=λq=>(hPv _ _ _).mpr ⟨rfl,_,rfl,λx x0 x1 hx=>by
    rcases (show x<k\/(k:Int)<=x by nofun) with z|z
    .exact all x x0 z hx
    .have:x=k:=();subst this;exact q hx⟩
   symm
   simp only[bC];refine⟨c,ms,_,m,rfl,S3 _ _ h2,λx z=>(bms x z).mono ∅,bk,(),bm.mono ∅,rfl,cO (λz=>?_) (λz=>?_)⟩
   .have z0:m∣zv ns (k:Int):=by
     injection z with z
     rw[same,hx0] at z;exact jD.mp z
    refine⟨d,is,_,m,rfl,h3,λx z=>(bis x z).mono ∅,bk,(),bm.mono ∅,?_⟩;simp only[aF];refine⟨_,_,rfl,rfl,cO (λw=>?_) (λw=>?_)⟩
    .refine h false H4 (z1.trans S3) ⟨λy=>(by cases y),λsv=>absurd ?_ w⟩
     have:=sv.2 k () () z0;rw[zi,same2,hx0,lX.mpr this];rfl
    .refine next λ_=>?_
     have w:=Classical.not_not.mp w;injection w with w
     rw[zi,same2,hx0] at w;exact lX.mp ()
   .refine next λq=>absurd ?_ z
    rw[same,hx0,jD.mpr q]
  .obtain⟨rfl,y',rfl,all⟩:=(hPv _ _ _).mp pv;refine hN4 _ _ ?_;symm
   refine h true H4 (z1.trans S3) ⟨λ_=>⟨g1,λx x0 x1 hx=>all x x0 ?_ hx⟩,λ_=>rfl⟩;have:(dy 0 m.toNat).length=m.toNat:=by simp[dy]
   nofun
def dj(K:W.Frag):Sp:=λvs H Q _=>∃(a:Addr)(ns:List Int),vs=[.ref a]/\vw K H a=some (.lst (ns.map V.int))/\ns≠[]/\ns.length<=11/\(∃m:Int,2<=m/\m<=3024/\Sv ns m) /\
 ∀(m:Int)(H':Hp),ax (vw K H) (vw K H')->2<=m->m<=3024->Sv ns m->Q (.int m) H'
theorem kE(F:eD K "least_modulus" "least_modulus" fF f fd) (T:gG K mg)(C_serves:dq P w K mg base "serves" ["wholes", "modulus"] 2 (kH K)):bj P w K mg base eP 3 f fd ["wholes"] (dj K):=by
 have scN:=gN.nd;refine F.okQ gN (λvs H Q E h=>?_) (λcdv A outer s H vs Q E hr h=>?_)
 .obtain⟨a,_,rfl,_⟩:=h;rfl
 .obtain⟨a,ns,rfl,ha,n0,ln,⟨M,M2,M3,sM⟩,h⟩:=h;refine⟨_,(ag (au (i:=1) scN rfl (·) af)
   (ag (fB PassesOwn.never (lK (ki (av C_serves nofun rfl (aa (qv 0) (aa (qv 1) ae))))) (aj (ie (i:=1) scN rfl (·) af GC)))
   (aj (aB (qv 1))))),?_⟩
  walk_at"m";symm
  obtain⟨Wm,hW⟩ : ∃Wm:Nat->St->Hp->Prop,∀k σ H',Wm k σ H' ↔ ∃m:Int,σ=[some (.ref a),some (.int m)]/\ax (vw K H) (vw K H')/\2<=m/\m<=M/\k=(M-m).toNat:=⟨_,λ_ _ _=>XI⟩;refine⟨Wm,⟨_,(hW _ _ _).mpr ⟨2,rfl,ax.refl _,(),(),rfl⟩⟩,λk σ H' wm=>?_⟩;obtain⟨m,rfl,S1,m2,mM,rfl⟩:=(hW _ _ _).mp wm;symm
  simp only[kH];refine⟨a,ns,m,rfl,S1 _ _ ha,n0,ln,m2,(),λb H2 S2 hb=>⟨b,rfl,?_⟩⟩;refine cO (λz=>?_) (λz=>?_)
  .refine⟨λσ H3=>∃m',m'<(M-m).toNat/\Wm m' σ H3,λ_ _ z=>z,?_⟩;have ne:m≠M:=λe=>by
    rw[e] at hb;rw[hb.mpr sM] at z;cases z
   exact⟨_,_,rfl,rfl,_,(),(hW _ _ _).mpr ⟨m+1,rfl,S1.trans S2,(),(),rfl⟩⟩
  .exact h m H2 (S1.trans S2) m2 () (hb.mp (by simpa using z))
theorem Ix{a b:Int}{n:Nat}(a0:0<=a)(h:a<=2*b)(k:Bt n b):Bt (n+1) a:=by
 unfold Bt at k ⊢;rw[YY];nofun
theorem JH{a b:Int}{n:Nat}(a0:0<=a)(h:a<b)(k:Bt n b):Bt n a:=by
 unfold Bt at k ⊢;nofun
theorem Lj{M r:Int}(M2:2<=M)(go:M<=2*r):(2*r+1-M*M).toNat<(2*r+1-M).toNat:=by
 have:=Int.mul_le_mul_of_nonneg_right M2 (show 0<=M by nofun)
 nofun
theorem Eu{M:Int}(M2:2<=M):0<M*M:=Y1 () ()
def jo(K:W.Frag):Sp:=λvs H Q _=>∃(a:Addr)(ns:List Int)(x m reach:Int),vs=[.ref a,.int x,.int m,.int reach]/\vw K H a=some (.lst (ns.map V.int))/\ns≠[]/\ns.length<=11/\(∀n∈ns,Bt 98 n)/\2<=m/\m<=3024/\0<=x/\x<m/\m∣zv ns x/\Int.gcd (zs ns x) m=1/\0<=reach/\Bt 300 reach /\
 ∀(t:Int)(H':Hp),ax (vw K H) (vw K H')->Gm ns m x reach t->Bt 700 t->Q (.int t) H'
theorem vd(F:eD K "refined" "refined" kX f fd) (T:gG K mg)(C_wholes_slope:dq P w K mg base "wholes_slope" ["wholes"] 1 (bU K)) (C_left_over:dq P w K mg base "left_over" ["wholes", "x", "modulus"] 1 (bC K)):bj P w K mg base eP 2 f fd ["wholes", "x", "modulus", "reach"] (jo K):=by
 have scN:=oI.nd;refine F.okQ oI (λvs H Q E h=>?_) (λcdv A outer s H vs Q E hr h=>?_)
 .obtain⟨a,_,_,_,_,rfl,_⟩:=h;rfl
 .obtain⟨a,ns,x,m,reach,rfl,ha,n0,ln,bn,m2,m3,x0,x1,hx,hg,r0,br,h⟩:=h;refine⟨_,(ag (au (i:=4) scN rfl (·) (av C_wholes_slope nofun rfl (aa (qv 0) ae)))
   (ag (au (i:=5) scN rfl (·) (av C_left_over nofun rfl (aa (qv 4) (aa (qv 1) (aa (qv 2) ae)))))
   (ag (au (i:=6) scN rfl (·) (aG dJ (dX (own:=["k"]) (outs:=["modulus", "steep"]) (ixs:=[2,5]) rfl (ck rfl T.b_range (aa (qv 2) ae)) rfl ⟨rfl,rfl,rfl,⟨rfl,⟨rfl,trivial⟩⟩,rfl,⟨⟨rfl,rfl,rfl,_,rfl⟩,⟨⟨rfl,rfl,rfl,_,rfl⟩,trivial⟩⟩⟩ (λ_ _ _ _=>⟨(aw (i:=0) (show (["k", "modulus", "steep"]:List Str).Nodup by decide +kernel) rfl (·)),(oh (aH gk (ao cJ (ao (show fi _ _ (iU K) from aQ) (qv 0) (qv 2)) (qv 1)) af (aM _))),(qv 0)⟩)) af (λ_ _=>rfl)))
   (ag (fB PassesOwn.never (aH Fw (qv 2) (ao aQ af (qv 3)) (aM _)) (ag (ie (i:=2) scN rfl (·) (qv 2) jQ)
   (ag (au (i:=1) scN rfl (·) (ao cJ (ao cz (qv 1) (ao aQ (av C_left_over nofun rfl (aa (qv 0) (aa (qv 1) (aa (qv 2) ae)))) (qv 6))) (qv 2)))
   (aj (au (i:=6) scN rfl (·) (ao cJ (ao xB (qv 6) (ao cz af (ao aQ (av C_left_over nofun rfl (aa (qv 4) (aa (qv 1) (aa (qv 2) ae)))) (qv 6)))) (qv 2)))))))
   (ag (au (i:=7) scN rfl (·) (ao cJ (ao aQ (qv 1) (aG dJ (qv 0) (gf dL af) (λ_ _=>rfl))) (qv 2)))
   (aj (aB (iN (aH Fw (ao aQ af (qv 7)) (qv 2) (aM _)) (qv 7) (ao cz (qv 7) (qv 2)))))))))),?_⟩
  walk_at"m";have bm:Bt 200 m:=(show Bt 12 m by unfold Bt;nofun).mono ∅
  have bx:Bt 200 x:=(show Bt 12 x by unfold Bt;nofun).mono ∅
  refine aR.gen λN1 hN1=>?_;symm
  simp only[bU];refine⟨a,ns,rfl,ha,ln,λy z=>(bn y z).mono ∅,λd H1 is S1 h1 nd lis eis bis=>hN1 _ _ ?_⟩;have zi:∀x,zv is x=zs ns x:=λx=>Fu eis x;refine aR.gen λN2 hN2=>?_;symm
  simp only[bC];refine⟨d,is,x,m,rfl,h1,λy z=>(bis y z).mono ∅,bx.mono ∅,(),bm.mono ∅,hN2 _ _ ?_⟩;clear hN1 hN2;rw[zi];obtain⟨s1,hs1⟩ : ∃s1,s1=zs ns x%m:=⟨_,rfl⟩;rw[<-hs1];have bs:Bt 200 s1:=by rw[hs1];exact gT () bm
  refine aR.gen λN3 hN3=>?_;symm
  refine⟨(),(),λe H2 he S2 h2=>?_⟩;have one:∀y:Int,y.fmod m=1↔m∣y-1:=λy=>by
   rw[XX _ ()];refine⟨λz=>?_,λz=>?_⟩
   .have:=wJ y m
    rwa [z] at this
   .rw[jS z];exact Int.emod_eq_of_lt () ()
  refine aW (its:=dy 0 m.toNat) (λk zs H'=>ax (vw K H1) (vw K H') /\ ∃ks:List Int,zs=ks.map V.int/\ks.length<=k/\(∀i∈ks,0<=i/\i<m/\m∣i*s1-1) /\ ∀i:Int,0<=i->i<k->m∣i*s1-1->ks≠[]) (λ_ _ _ _ _ _=>aX) h2 ⟨S2,[],rfl,by simp,by simp,λi _ _=>by nofun⟩ (λk y zs H' hk hy h' z=>?_) (λzs H3 h3 z=>?_)
  .obtain⟨z1,ks,rfl,lk,all,ne⟩:=z;obtain⟨hk',rfl⟩:=d5 hy;have bk:Bt 200 ((0:Int)+(k:Int)):=(show Bt 12 ((0:Int)+(k:Int)) by unfold Bt;nofun).mono ∅
   symm
   refine⟨bJ bk bs ∅,(),cO (λz=>.mk h' ?_ λH3 B3 h3=>⟨λb o e'=>B3 _ _ (ah e' he) (z1 _ _ e'),ks++[0+(k:Int)],?_,by simp;nofun,λi hi=>?_,λ_ _ _ _=>by simp⟩) (λz=>.mk h' ⟨z1,ks,rfl,(),all,λi i0 i1 hi=>?_⟩)⟩
   .rw[YD];have:3024<=sizeLine:=by decide +kernel
    nofun
   .rw[XR];rfl
   .rcases List.mem_append.mp hi with y|y
    .exact all i y
    .rw[List.mem_singleton.mp y];exact⟨(),(),(one _).mp z⟩
   .rcases (show i<k\/i=0+(k:Int) by nofun) with y|y
    .exact ne i i0 y hi
    .refine absurd ?_ z;rw[<-y,(one _).mpr hi]
  obtain⟨z1,ks,rfl,lk,all,ne⟩:=z;obtain⟨β,hβ⟩:=vK hg;have kne:ks≠[]:=by
   have md:=dH β m;refine ne (β%m) (Int.emod_nonneg _ ()) ?_ ?_
   .have:=XO β (show 0<m by nofun)
    have l:(dy 0 m.toNat).length=m.toNat:=by simp[dy]
    nofun
   .obtain⟨c,hc⟩:=md;obtain⟨f,hf⟩:=hβ;obtain⟨g,hg'⟩:=dH (zs ns x) m;rw[<-hs1] at hg';refine⟨c*s1+β*g+f,?_⟩;have e1:β%m=β+m*c:=();have e2:s1=zs ns x+m*g:=();rw[e1];have:(β+m*c)*s1-1=β*s1+m*(c*s1)-1:=⋯;rw[this];have e3:β*s1=zs ns x*β+m*(β*g):=by rw[e2];grind
    rw[e3];grind
  obtain⟨i,ks',rfl⟩:=List.exists_cons_of_ne_nil kne;obtain⟨i0,i1,hi⟩:=all i Yi;refine⟨_,h3,_,ji,hN3 _ _ ?_⟩;clear hN3;have S13:=z1;have L0:CT ns m x m x i:=CT.first m2 x0 x1 hx i0 i1 (by rw[<-hs1];exact hi)
  refine aR.gen λN4 hN4=>?_;refine lu.gen λB hB=>?_;symm
  obtain⟨Wm,hW⟩ : ∃Wm:Nat->St->Hp->Prop,∀j σ H',Wm j σ H' ↔ ∃(M X i:Int)(o7:Option V),σ=[some (.ref a),some (.int X),some (.int M),some (.int reach),some (.ref d),some (.int s1),some (.int i),o7]/\ax (vw K H3) (vw K H')/\CT ns m x M X i/\Bt 604 M/\j=(2*reach+1-M).toNat:=⟨_,λ_ _ _=>XI⟩;refine⟨Wm,⟨_,(hW _ _ _).mpr ⟨m,x,i,_,rfl,ax.refl _,L0,bm.mono ∅,rfl⟩⟩,λj σ H4 wm=>?_⟩;obtain⟨M,X,i,o7,rfl,S4,Lf,bM,rfl⟩:=(hW _ _ _).mp wm;have M2:=Lf.M2;have small:∀{y:Int},0<=y->y<M->Bt 604 y:=λh1 h2=>JH h1 h2 bM;have bX:=small Lf.x0 Lf.x1;have bi:=small Lf.i0 Lf.i1;have a4:=S4 _ _ (S13 _ _ (S1 _ _ ha));have d4:=S4 _ _ (S13 _ _ h1);symm
  have MM0:0<M*M:=Eu M2;have M0:0<M:=Int.lt_of_lt_of_le ∅ M2;have ef:∀y:Int,y.fmod (M*M)=y%(M*M):=λy=>XX _ (YU MM0);have ne:¬ M*M=0:=Int.ne_of_gt MM0;have b2:Bt 2 2:=∅;refine⟨bJ b2 br (),cO (λgo=>?_) (λgo=>hN4 _ _ ?_)⟩
  .obtain⟨N0,hN0⟩ : ∃N0:St->Hp->Prop,∀σ H5,N0 σ H5 ↔ ∃m',m'<(2*reach+1-M).toNat/\Wm m' σ H5:=⟨_,λ_ _=>XI⟩;refine⟨N0,λ_ _ z=>(hN0 _ _).mp z,hB _ _ _ ?_⟩;clear hB hN4;have bMs:Bt 301 M:=Ix (YU M0) go br;have bMM:Bt 602 (M*M):=(bMs.mul bMs).mono ∅;have up:∀{y:Int},Bt 602 y->Bt 1000 y:=λh=>h.mono ∅;refine aR.gen λK1 hK1=>?_;symm
   refine⟨bJ bM bM ∅,hK1 _ _ ?_⟩;clear hK1;refine aR.gen λK2 hK2=>?_;symm
   simp only[bC];refine⟨a,ns,X,M*M,rfl,a4,λy z=>(bn y z).mono ∅,bX.mono ∅,MM0,up bMM,?_⟩;rw[cY];refine⟨bJ (gT MM0 bMM) bi ∅,_,rfl,ne,hK2 _ _ ?_⟩;clear hK2;rw[ef];obtain⟨X',hX'⟩ : ∃X',X'=(X-zv ns X%(M*M)*i)%(M*M):=⟨_,rfl⟩;rw[<-hX'];have bX':Bt 602 X':=by rw[hX'];exact gT MM0 bMM
   dsimp only[tH,CV,tC,A9,lT,yM];dsimp only[vb,List.getElem?_cons_zero,List.getElem?_cons_succ,Option.join,Option.bind];simp only[bC];refine⟨d,is,X',M*M,rfl,d4,λy z=>(bis y z).mono ∅,up bX',MM0,up bMM,?_⟩;rw[zi];obtain⟨q,hq⟩ : ∃q,q=zs ns X'%(M*M):=⟨_,rfl⟩;rw[<-hq];have bq:Bt 602 q:=by rw[hq];exact gT MM0 bMM
   symm
   have Ls:=Lf.step hX' hq rfl;refine⟨bJ bq bi ∅,bJ bi (b2.sub (bq.mul bi)) ∅,ne,(hN0 _ _).mpr ⟨_,Lj M2 go,(hW _ _ _).mpr ⟨_,X',_,o7,?_,S4,Ls,bMM.mono ∅,rfl⟩⟩⟩;rw[ef]
  .clear hB hN4;refine aR.gen λN5 hN5=>?_;symm
   have b1000:∀{y:Int},Bt 604 y->Bt 1000 y:=λh=>h.mono ∅;have bl:Bt 98 (nz ns (ns.length-1)):=by
    have l:=List.length_pos_iff.mpr n0;rw[aT (YN (Nat.sub_lt l Nat.one_pos))];exact bn _ (YM _)
   refine⟨_,a4,_,gE (qE n0),?_⟩;rw[cY];refine⟨bJ bX bl ∅,_,rfl,Int.ne_of_gt M0,hN5 _ _ ?_⟩;clear hN5;rw[XX _ (YU M0)];have told:=λt ht=>Lf.told (reach:=reach) (t:=t) (Int.not_le.mp go) ht;have bT:Bt 604 (X*nz ns (ns.length-1)%M):=gT M0 bM;have S04:=S1.trans (S13.trans S4);symm
   refine⟨bJ b2 bT (),cO (λz=>?_) (λz=>?_)⟩
   .exact h _ H4 S04 (told _ (Yb z).symm) (bT.mono ∅)
   .exact h _ H4 S04 (told _ (Yc z).symm) ((bT.sub bM).mono ∅)
def cV(K:W.Frag):Sp:=λvs H Q _=>∃(a:Addr)(fs:List (Int×Int))(l:List (aJ×Nat)),vs=[.ref a]/\dB (vw K H) a fs/\fs≠[]/\fs.length<=11/\eO fs/\Pb 220 (cf fs)/\Ii fs l /\
 ∀(d:Addr)(H':Hp) ms,ax (vw K H) (vw K H')->vw K H d=none->dB (vw K H') d ms->rS l ms->Q (.ref d) H'
theorem jK(F:eD K "fraction_roots" "fraction_roots" c9 f fd) (T:gG K mg)(C_refuse_nought:dq P w K mg base "refuse_nought" ["f"] 1 (di K)) (C_counting_chain:dq P w K mg base "counting_chain" ["f"] 5 (cU K)) (C_root_bound:dq P w K mg base "root_bound" ["wholes"] 1 (fj K)) (C_least_modulus:dq P w K mg base "least_modulus" ["wholes"] 3 (dj K)) (C_left_over:dq P w K mg base "left_over" ["wholes", "x", "modulus"] 1 (bC K)) (C_refined:dq P w K mg base "refined" ["wholes", "x", "modulus", "reach"] 2 (jo K)) (C_wholes_at:dq P w K mg base "wholes_at" ["wholes", "top", "bottom"] 1 (fW K)) (C_sign_of:dq P w K mg base "sign_of" ["whole"] 1 (eZ K)) (C_ratio:dq P w K mg base "ratio" ["top", "bottom"] 2 (jV K)):bj P w K mg base eP 6 f fd ["f"] (cV K):=by
 have scN:=cT.nd;refine F.okQ cT (λvs H Q E h=>?_) (λcdv A outer s H vs Q E hr h=>?_)
 .obtain⟨_,_,_,rfl,_⟩:=h;rfl
 .obtain⟨a,fs,l,rfl,ha,f0,lf,pf,bf,FW,h⟩:=h;refine⟨_,(ag (gW (av C_refuse_nought nofun rfl (aa (qv 0) ae)))
   (ag (au (i:=1) scN rfl (·) (aG dJ (av C_counting_chain nofun rfl (aa (qv 0) ae)) af (λ_ _=>rfl)))
   (ag (au (i:=2) scN rfl (·) (aG dJ (qv 1) (gf dL af) (λ_ _=>rfl)))
   (ag (au (i:=3) scN rfl (·) (ao aQ (ar iQ (by rfl) T.b_abs ni (aa (qv 2) ae)) (av C_root_bound nofun rfl (aa (qv 1) ae))))
   (ag (au (i:=4) scN rfl (·) (av C_least_modulus nofun rfl (aa (qv 1) ae)))
   (ag (gX (i:=5) (own:=["x"]) (outs:=["wholes", "modulus", "reach"]) (ixs:=[1,4,3]) scN rfl (·) rfl (ck rfl T.b_range (aa (qv 4) ae)) rfl ⟨rfl,rfl,rfl,⟨rfl,⟨rfl,⟨rfl,trivial⟩⟩⟩,rfl,⟨⟨rfl,rfl,rfl,_,rfl⟩,⟨⟨rfl,rfl,rfl,_,rfl⟩,⟨⟨rfl,rfl,rfl,_,rfl⟩,trivial⟩⟩⟩⟩ (λ_ _ _ _=>⟨(aw (i:=0) (show (["x", "wholes", "modulus", "reach"]:List Str).Nodup by decide +kernel) rfl (·)),(oh (aH gk (av C_left_over nofun rfl (aa (qv 1) (aa (qv 0) (aa (qv 2) ae)))) af (aM _))),(av C_refined nofun rfl (aa (qv 1) (aa (qv 0) (aa (qv 2) (aa (qv 3) ae)))))⟩))
   (ag (gX (i:=6) (own:=["top"]) (outs:=["last", "wholes"]) (ixs:=[2,1]) scN rfl (·) rfl (cg (qv 5)) rfl ⟨rfl,rfl,rfl,⟨rfl,⟨rfl,trivial⟩⟩,rfl,⟨⟨rfl,rfl,rfl,_,rfl⟩,⟨⟨rfl,rfl,rfl,_,rfl⟩,trivial⟩⟩⟩ (λ_ _ _ _=>⟨(aw (i:=0) (show (["top", "last", "wholes"]:List Str).Nodup by decide +kernel) rfl (·)),(oh (aH gk (aG (show yN _ (AR K) from dS) (av C_wholes_at nofun rfl (aa (qv 2) (aa (qv 0) (aa (qv 1) ae)))) af (λ_ _=>rfl)) af (aM _))),(ao (show fi _ _ (iU K) from aQ) (qv 0) (av C_sign_of nofun rfl (aa (qv 1) ae)))⟩))
   (aj (aB (dX (own:=["top"]) (outs:=["last"]) (ixs:=[2]) rfl (cg (ar u9 (by rfl) T.b_sorted ya (aa (qv 6) ae))) rfl ⟨rfl,rfl,rfl,⟨rfl,trivial⟩,rfl,⟨⟨rfl,rfl,rfl,_,rfl⟩,trivial⟩⟩ (λ_ _ _ _=>⟨(aw (i:=0) (show (["top", "last"]:List Str).Nodup by decide +kernel) rfl (·)),eU,(av C_ratio nofun rfl (aa (qv 0) (aa (ar iQ (by rfl) T.b_abs ni (aa (qv 1) ae)) ae)))⟩))))))))))),?_⟩
  walk_at"m";obtain⟨xs,hxs,rxs⟩:=id ha;have lx:xs.length=fs.length:=by rw[rxs.length,YD]
  have x0:xs≠[]:=λz=>f0 (List.length_eq_zero_iff.mp (by rw[<-lx,z];rfl))
  refine aR.gen λN1 hN1=>?_;symm
  simp only[di];refine⟨a,xs,rfl,hxs,x0,λH1 S1=>hN1 _ _ ?_⟩;clear hN1;refine aR.gen λN2 hN2=>?_;symm
  simp only[cU];refine⟨a,fs,rfl,ha.same S1,f0,lf,pf,bf,λd H2 hs S2 l2 cc all lb=>?_⟩;obtain⟨h0,I,tl,n,κ,c0,hh,tI,n10,lh0,nh0,lI,k0,cn0,e0,id0,bh0,bI⟩:=Ev cc FW all;obtain⟨c1,ev1⟩:=FW.ev;have PH:=HG (B:=300) cc.1 all FW.ok FW.un (by have:=FW.dl;nofun) FW.ln ev1 FW.mks
  have nh0':nz h0 (h0.length-1)≠0:=by rw[lh0];exact nh0
  have hn0:h0≠[]:=λz=>by rw[z] at lh0;simp at lh0
  obtain⟨ys,hys,lys,cys⟩:=id l2;obtain⟨la,y0,_,hla⟩:=cys 0 h0 (by rw[hh];rfl)
  refine⟨_,rfl,_,hys,_,cD (j:=0) y0,hN2 _ _ ?_⟩;clear hN2;obtain⟨L,hL⟩ : ∃L,L=nz h0 (h0.length-1):=⟨_,rfl⟩;have bL:Bt 98 L:=by rw[hL];exact qp bh0 _
  have L0:L≠0:=by rw[hL];exact nh0'
  refine aR.gen λN3 hN3=>?_;symm
  refine⟨_,hla,_,gE (qE hn0),hN3 _ _ ?_⟩;clear hN3;rw[<-hL];refine aR.gen λN4 hN4=>?_;symm
  simp only[fj];refine⟨la,h0,98,rfl,hla,hn0,(),nh0',∅,bh0,λE hE rb=>?_⟩;obtain⟨A1,A0,_⟩:=PH.bd E h0 tl hh rb;rw[cY,show (if L<0 then -L else L)=(L.natAbs:Int) by split<;>nofun]
  have bE:Bt 101 ((2^E:Nat):Int):=by
   have:=Nat.pow_lt_pow_right (a:=2) ∅ (show E<101 by nofun)
   unfold Bt
   rwa [XB]
  have bA:Bt 98 (L.natAbs:Int):=by
   unfold Bt at bL ⊢
   rwa [XB]
  refine⟨bJ bA bE,hN4 _ _ ?_⟩;clear hN4;obtain⟨reach,hre⟩ : ∃reach,reach=(L.natAbs:Int)*((2^E:Nat):Int):=⟨_,rfl⟩;have br:Bt 300 reach:=by rw[hre];exact (bA.mul bE).mono ∅
  have r0:0<=reach:=by rw[hre];exact Int.mul_nonneg (Int.natCast_nonneg _) (Int.natCast_nonneg _)
  rw[<-hre];obtain⟨a9,lb9,a97⟩:=FW.lb;refine aR.gen λN5 hN5=>?_;symm
  simp only[dj];refine⟨la,h0,rfl,hla,hn0,(),Jm FW.ok FW.un FW.ll (λq hq=>?_) cn0 nh0' ?_ () e0,λm H3 S3 m2 m3 sv=>hN5 _ _ ?_⟩
  .obtain⟨ν,b,e1,e2,e3,e4⟩:=lb9.nu q hq;exact⟨ν,b,e1,e2,e3,()⟩
  .rw[<-hL];unfold Bt at bL;exact Yg (Yh bL) ∅
  clear hN5;refine aR.gen λN6 hN6=>?_;symm
  have bm:Bt 1000 m:=(show Bt 12 m by unfold Bt;nofun).mono ∅
  refine⟨(),(),λe H4 he S4 h4=>?_⟩;refine aW (its:=dy 0 m.toNat) (λk zs H'=>ax (vw K H3) (vw K H') /\ ∃rs:List (Int×Int),zs=(rs.map λp=>p.2).map V.int/\iH h0 m reach k rs/\rs.length<=k/\(∀p∈rs,p.1<k) /\ ∀p∈rs,Bt 700 p.2) (λ_ _ _ _ _ _=>aX) h4 ⟨S4,[],rfl,⟨by simp,.nil,λx _ _=>by nofun⟩,YL _,by simp,by simp⟩ (λk y zs H' hk hy h' z=>?_) (λzs H5 h5 z=>?_)
  .obtain⟨z1,rs,rfl,ok,lr,lt,br'⟩:=z;obtain⟨hk',rfl⟩:=d5 hy;have hx0:(0:Int)+(k:Int)=k:=();rw[hx0];have bk:Bt 1000 (k:Int):=(show Bt 12 (k:Int) by unfold Bt;nofun).mono ∅
   symm
   simp only[bC];refine⟨la,h0,_,m,rfl,z1 _ _ (S3 _ _ hla),λx z=>(bh0 x z).mono ∅,bk,(),bm,rfl,cO (λz=>?_) (λz=>?_)⟩
   .have zd:m∣zv h0 (k:Int):=by
     injection z with z
     exact jD.mp z
    refine⟨la,h0,k,m,reach,rfl,z1 _ _ (S3 _ _ hla),hn0,(),bh0,m2,m3,(),(),zd,sv.2 k () () zd,r0,br,λt H6 S6 R bt=>?_⟩;refine .mk (S6 _ _ h') ?_ λH7 B7 h7=>⟨λb o x=>B7 _ _ (ah x he) (S6 _ _ (z1 _ _ x)),rs++[((k:Int),t)],by rw[XR,XR];rfl,ok.snoc lt () zd R,?_,λp hp=>?_,λp hp=>?_⟩
    .rw[YD,YD];have:5000<=sizeLine:=∅;nofun
    .rw[YC,List.length_singleton];nofun
    .rcases List.mem_append.mp hp with q|q
     .have:=lt p q;nofun
     .rw[List.mem_singleton.mp q];show (k:Int)<((k+1:Nat):Int);nofun
    .rcases List.mem_append.mp hp with q|q
     .exact br' p q
     .rw[List.mem_singleton.mp q];exact bt
   .have zd:¬ m∣zv h0 (k:Int):=λq=>z (by rw[jD.mpr q])
    exact .mk h' ⟨z1,rs,rfl,ok.skip zd,(),λp hp=>by have:=lt p hp;nofun,br'⟩
  obtain⟨z1,rs,rfl,ok,lr,lt,br'⟩:=z;rw[show (dy 0 m.toNat).length=m.toNat by simp[dy]] at ok lr
  refine hN6 _ _ ?_;clear hN6;refine aR.gen λN7 hN7=>?_;symm
  refine⟨⟨_,.of (aE h5)⟩,λe2 H6 he2 S6 h6=>?_⟩;refine aW (its:=(rs.map λp=>p.2).map V.int) (λk zs H'=>ax (vw K H5) (vw K H')/\zs=(yt h0 L (rs.take k)).map V.int) (λk zs H' _ _ z=>aP (z.1 _ _ h5)) h6 ⟨S6,rfl⟩ (λk y zs H' hk hy h' z=>?_) (λzs H7 h7 z=>?_)
  .obtain⟨w1,rfl⟩:=z;have hk':k<rs.length:=by rwa [YD,YD] at hk
   rw[YA,YA,YN hk'] at hy;cases hy;obtain⟨q,hq⟩ : ∃q,q=rs[k]:=⟨_,rfl⟩;have qm:q∈rs:=by rw[hq];exact YM _
   have tk:rs.take (k+1)=rs.take k++[q]:=by rw[XS,YN hk',<-hq];rfl
   rw[<-hq];symm
   simp only[fW];refine⟨la,h0,q.2,L,98,1000,rfl,w1 _ _ (z1 _ _ (S3 _ _ hla)),(),∅,∅,bh0,L0,(br' q qm).mono ∅,bL.mono ∅,λp H8 u s S8 h8 s0 _ eq _ _=>?_⟩;have uz:u=0↔hv h0 q.2 L=0:=by
    rw[mD L0,<-eq];refine⟨λz=>by rw[z,Xr];exact Rat.zero_mul _,λz=>?_⟩
    have:=XH (a:=(u:Rat)) (aq s0);rw[z,Rat.zero_mul] at this;exact Rat.intCast_inj.mp this.symm
   have lk:(yt h0 L (rs.take k)).length<=k:=by
    unfold yt;rw[YD];exact Yg (List.length_filter_le _ _) (List.length_take_le _ _)
   refine⟨p,rfl,_,h8,_,rfl,rfl,cO (λz=>?_) (λz=>?_)⟩
   .have u0:u=0:=by injection z
    have hz:=uz.mp u0;simp only[eZ];refine⟨L,rfl,?_⟩;rw[cY];refine⟨xy (by unfold Bt;rw[Int.natAbs_sign];split<;>decide),.mk (S8 _ _ h') ?_ λH9 B9 h9=>⟨λb o x=>B9 _ _ (ah x he2) (S8 _ _ (w1 _ _ x)),?_⟩⟩
    .rw[YD];have:5000<=sizeLine:=∅;nofun
    .rw[tk,sK,Yb hz,XR];rfl
   .have nz:¬ hv h0 q.2 L=0:=λy=>z (by rw[uz.mpr y])
    refine .mk (S8 _ _ h') ⟨w1.trans S8,?_⟩;rw[tk,sK,Yc nz,Yv]
  obtain⟨w1,rfl⟩:=z;rw[YD,YD,XT] at h7;refine hN7 _ _ ?_;clear hN7;have fl:=xq FW.ok () cn0 e0 ok nh0' sv.1;symm
  rw[<-hL] at fl;refine⟨_,h7,by have:=FW.ll;nofun,λns' pm so r H8 hr8 S8 h8=>⟨r,rfl,⟨_,.of (aE h8)⟩,λe3 H9 he3 S9 h9=>?_⟩⟩
  have Mz:(L.natAbs:Int)≠0:=();have ln':ns'.length<=5:=by
   rw[pm.length_eq];have:=FW.ll;nofun
  refine aW (its:=ns'.map V.int) (λk zs H'=>ax (vw K H8) (vw K H')/\aA (vw K H') (((ns'.take k).map λv=>lo v (L.natAbs:Int)).map fr) zs) (λk zs H' _ _ z=>aP (z.1 _ _ h8)) h9 ⟨S9,.mk_nil⟩ (λk y zs H' hk hy h' z=>?_) (λzs H10 h10 z=>?_)
  .obtain⟨w2,rz⟩:=z;have hk':k<ns'.length:=by rwa [YD] at hk
   rw[YA,YN hk'] at hy;cases hy;symm
   rw[show (if L<0 then -L else L)=(L.natAbs:Int) by split<;>nofun]
   simp only[jV];refine⟨_,_,rfl,Mz,bA.mono ∅,λv H11 S11 rv=>.mk (S11 _ _ h') ?_ λH12 B12 h12=>⟨λb o x=>B12 _ _ (ah x he3) (S11 _ _ (w2 _ _ x)),?_⟩⟩
   .rw[rz.length,YD,YD,Yw];have:5000<=sizeLine:=∅;nofun
   .have h'':=S11 _ _ h';have fl:∀us:List (Int×Int),D.flats (us.map fr)=true:=λus=>by
     induction us with
     | nil=>simp[D.flats]
     | cons a us ih=>simp[D.flats,fr,D.flat,ih]
    rw[XS,YN hk',XR,XR];exact (aA.flat_but h'' B12 _ _ (fl _) (rz.same S11)).snoc (aO.flat_but h'' B12 _ _ (fh _) rv)
  obtain⟨w2,rz⟩:=z;rw[YD,XT] at rz;rw[hL] at pm rz;have Sx:ax (vw K H) (vw K H8):=S1.trans (S2.trans (S3.trans (z1.trans (w1.trans S8))));refine h e3 H10 _ (Sx.trans w2) ?_ ⟨zs,h10,rz⟩ (A8 FW.ok () cn0 e0 ok m2 nh0' sv A1 A0 (by rw[hre,hL]) pm so)
  cases x:vw K H e3 with
  | none=>rfl
  | some o=>rw[Sx _ _ x] at he3;cases he3
def kW(K:W.Frag):Sp:=λvs H Q _=>∃a b:Int,vs=[.int a,.int b]/\Q (.int (Int.gcd a b)) H
theorem ym(F:eD K "_law_divisor" "_law_divisor" ko f fd) (T:gG K mg):bj P w K mg base eP 1 f fd ["_law_one", "_law_other"] (kW K):=by
 have scN:=qg.nd;refine F.okQ qg (λvs H Q E h=>?_) (λcdv A outer s H vs Q E hr h=>?_)
 .obtain⟨a,b,rfl,_⟩:=h;rfl
 .obtain⟨a,b,rfl,h⟩:=h;refine⟨_,(ag (fB PassesOwn.never (aH jO (qv 1) af (aM _)) (aj (rN (i:=0) (j:=1) rfl scN rfl rfl ∅ rfl rfl (aa (qv 1) (aa (ao cJ (qv 0) (qv 1)) ae)) rfl)))
   (aj (aB (ar iQ (by rfl) T.b_abs ni (aa (qv 0) ae))))),?_⟩
  walk_at"m";symm
  refine⟨λm σ H'=>H'=H /\ ∃x y:Int,σ=[some (.int x),some (.int y)]/\Int.gcd x y=Int.gcd a b/\m=y.natAbs,⟨_,rfl,_,_,rfl,rfl,rfl⟩,?_⟩;rintro m σ H' ⟨rfl,x,y,rfl,hg,rfl⟩;symm
  refine cO (λhy0=>?_) (λhy0=>?_)
  .refine⟨_,λσ' H' h=>h,?_⟩;symm
   exact⟨hy0,_,wf x hy0,by rw[sE,hg],rfl⟩
  .symm
   have e:((Int.gcd a b:Nat):Int)=if x<0 then -x else x:=by
    rw[<-hg,show y=0 by nofun]
    simp;split<;>nofun
   rw[<-e];exact h
def jM(K:W.Frag):Sp:=λvs H Q _=>∃a b:Int,vs=[.int a,.int b]/\b≠0/\b.natAbs<2^4000000 /\ ∀v H',ax (vw K H) (vw K H')->aO (vw K H') (fr (lo a b)) v->Q v H'
theorem Jd(F:eD K "_law_low" "_law_low" BD f fd) (T:gG K mg)(N_:nG P base)(zCdivisor:dq P w K mg base "_law_divisor" ["_law_one", "_law_other"] 1 (kW K)):bj P w K mg base eP 2 f fd ["_law_top", "_law_bottom"] (jM K):=by
 have scN:=F5.nd;refine F.okQ F5 (λvs H Q E h=>?_) (λcdv A outer s H vs Q E hr h=>?_)
 .obtain⟨a,b,rfl,_⟩:=h;rfl
 .obtain⟨a,b,rfl,hb,hbb,h⟩:=h;refine⟨_,(ag (au (i:=2) scN rfl (·) (av zCdivisor nofun rfl (aa (qv 0) (aa (qv 1) ae))))
   (ag (cQ (aH wM (qv 1) af (aM _)) (aj (au (i:=2) scN rfl (·) (ao cz af (qv 2)))) a8)
   (aj (aB (aL (aa (ao (fY N_ hr rfl rfl rfl) (qv 0) (qv 2)) (aa (ao (fY N_ hr rfl rfl rfl) (qv 1) (qv 2)) ae))))))),?_⟩
  walk_at"m";symm
  simp only[kW];symm
  have hgn:Int.gcd a b≠0:=λe=>hb (Int.gcd_eq_zero_iff.mp e).2;have e1:lg a b=if b<0 then 0-(Int.gcd a b:Int) else (Int.gcd a b:Int):=by
   unfold lg;split<;>nofun
  have d1:yZ a (0-(Int.gcd a b:Int)):=by unfold yZ;nofun
  have d2:yZ a (Int.gcd a b:Int):=by unfold yZ;nofun
  refine cO (λhn=>?_) (λhn=>?_)
  .rw[Yb hn] at e1;refine⟨d1,d1,∅,λp H2 hp S hp2=>?_⟩;refine h _ H2 S ?_;rw[<-e1] at hp2;simp only[fr,lo,aO,aA];exact⟨p,_,rfl,hp2,_,_,rfl,rfl,_,_,rfl,rfl,rfl⟩
  .rw[Yc hn] at e1;refine⟨d2,d2,∅,λp H2 hp S hp2=>?_⟩;refine h _ H2 S ?_;rw[<-e1] at hp2;simp only[fr,lo,aO,aA];exact⟨p,_,rfl,hp2,_,_,rfl,rfl,_,_,rfl,rfl,rfl⟩
def qZ(K:W.Frag):Sp:=λvs H Q _=>∃(a:Addr)(qs:List (Int×Int)),vs=[.ref a]/\dB (vw K H) a qs /\
 ∀b H' n,n<=qs.length->(∀q,(qs.take n).getLast? = some q->q.1≠0)->(∀q∈qs.drop n,q.1=0)->vw K H b=none->ax (vw K H) (vw K H')->dB (vw K H') b (qs.take n)->Q (.ref b) H'
theorem EW(F:eD K "_law_clean" "_law_clean" rm f fd) (T:gG K mg):bj P w K mg base eP 1 f fd ["_law_numbers"] (qZ K):=by
 have scN:=xz.nd;refine F.okQ xz (λvs H Q E h=>?_) (λcdv A outer s H vs Q E hr h=>?_)
 .obtain⟨a,_,rfl,_⟩:=h;rfl
 .obtain⟨a,qs,rfl,ha,h⟩:=h;refine⟨_,(ag (au (i:=1) scN rfl (·) (ar aU (by rfl) T.b_len cx (aa (qv 0) ae)))
   (ag (fB PassesOwn.never (QW.pt (kx (aH ug (qv 1) af (aM _)) (iX (aH gk (aG dS (aG dJ (qv 0) (ao cz (qv 1) af) (λ_ _=>rfl)) af (λ_ _=>rfl)) af (aM _))))) (aj (au (i:=1) scN rfl (·) (ao cz (qv 1) af))))
   (aj (aB (qb oD (by rfl) T.b_list j8 (aa (m4 nJ (qv 0) rA (qU (qv 1))) ae)))))),?_⟩
  walk_at"m";symm
  refine⟨_,ha.len,λm σ H'=>H'=H/\m<=qs.length/\(∀q∈qs.drop m,q.1=0)/\σ=[some (.ref a),some (.int m)],⟨_,rfl,Yq _,by simp,rfl⟩,?_⟩
  rintro k σ H' ⟨rfl,hk,hdr,rfl⟩;obtain⟨xs,hax,rx⟩:=ha;have hlx:xs.length=qs.length:=by rw[rx.length,YD]
  have fin:(∀q,(qs.take k).getLast? = some q->q.1≠0)->Nw K H' (HO.lst (nV xs none (some (k:Int)))) λx H1=>∃p,x=V.ref p /\ ∃ys,vw K H1 p=some (HO.lst ys)/\Nw K H1 (HO.lst ys) Q:=λhq p H2 hp S2 h2=>by
   rw[vU ()] at h2;refine⟨p,rfl,_,h2,λp2 H3 hp2 S3 h3=>h p2 H3 k hk hq hdr ?_ (S2.trans S3) ⟨_,h3,?_⟩⟩
   .cases e:vw K H' p2 with
    | none=>rfl
    | some o=>rw[S2 _ _ e] at hp2;cases hp2
   .rw[List.map_take];exact (rx.take k).same (S2.trans S3)
  symm
  refine cO (λh0=>?_) (λh0=>?_)
  .have hk1:k-1<qs.length:=();obtain⟨x,hx,r⟩:=rx.at (i:=k-1) (d:=fr qs[k-1]) (by rw[YA,YN hk1];rfl)
   obtain⟨p,rfl,hp⟩:=r.fr_at;have e1:((k:Int)-1)=((k-1:Nat):Int):=();refine⟨_,hax,_,by rw[e1];exact cD hx,p,rfl,_,hp,_,ji,?_⟩
   symm
   refine cO (λhq=>?_) (λhq=>?_)
   .refine⟨_,λσ' H'' z=>z,k-1,(),rfl,(),λq' hq'=>?_,by rw[e1]⟩
    rw[Xe hk1,show k-1+1=k by nofun] at hq'
    rcases Y2.mp hq' with z|z
    .rw[z];exact hq
    .exact hdr q' z
   .refine⟨_,hax,fin λq hq2=>?_⟩;have:(qs.take k).getLast? = some qs[k-1]:=by
     rw[Xf,Yw,List.getElem?_take];rw[Yb (),show min k qs.length-1=k-1 by nofun,YN hk1]
    rw[this] at hq2;cases hq2;exact hq
  .refine⟨_,hax,fin λq hq=>?_⟩;rw[show k=0 by nofun] at hq
   cases hq
def oj(K:W.Frag):Sp:=λvs H Q _=>∃x y p q,vs=[x,y]/\aO (vw K H) (fr p) x/\aO (vw K H) (fr q) y/\p.2≠0/\q.2≠0/\Bq 1000000 p/\Bq 1000000 q/\Bt 4000000 (p.2*q.2) /\ ∀v H',ax (vw K H) (vw K H')->aO (vw K H') (fr (nU p q)) v->Q v H'
theorem HE(F:eD K "_law_plus" "_law_plus" uI f fd) (T:gG K mg)(zClow:dq P w K mg base "_law_low" ["_law_top", "_law_bottom"] 2 (jM K)):bj P w K mg base eP 3 f fd ["_law_one", "_law_other"] (oj K):=by
 have scN:=Bj.nd;refine F.okQ Bj (λvs H Q E h=>?_) (λcdv A outer s H vs Q E hr h=>?_)
 .obtain⟨_,_,_,_,rfl,_⟩:=h;rfl
 .obtain⟨x,y,p,q,rfl,hx,hy,np,nq,bp,bq,bb,h⟩:=h;refine⟨_,(aj (aB (av zClow nofun rfl (aa (ao bK (ao aQ (aG dS (qv 0) af (λ_ _=>rfl)) (aG dS (qv 1) af (λ_ _=>rfl))) (ao aQ (aG dS (qv 1) af (λ_ _=>rfl)) (aG dS (qv 0) af (λ_ _=>rfl)))) (aa (ao aQ (aG dS (qv 0) af (λ_ _=>rfl)) (aG dS (qv 1) af (λ_ _=>rfl))) ae))))),?_⟩
  walk_at"m";obtain⟨a,rfl,ha⟩:=hx.fr_at;obtain⟨b,rfl,hb⟩:=hy.fr_at;walk_at"vc*";simp only[jM];walk_at"vc*";exact⟨bJ bp.1 bq.2 ∅,bJ bq.1 bp.2 ∅,bJ bp.2 bq.2 ∅,Xb np nq,h⟩
def qN(K:W.Frag):Sp:=λvs H Q _=>∃x y p q,vs=[x,y]/\aO (vw K H) (fr p) x/\aO (vw K H) (fr q) y/\p.2≠0/\q.2≠0/\Bq 1000000 p/\Bq 1000000 q/\Bt 4000000 (p.2*q.2) /\ ∀v H',ax (vw K H) (vw K H')->aO (vw K H') (fr (zf p q)) v->Q v H'
theorem Ds(F:eD K "_law_times" "_law_times" su f fd) (T:gG K mg)(zClow:dq P w K mg base "_law_low" ["_law_top", "_law_bottom"] 2 (jM K)):bj P w K mg base eP 3 f fd ["_law_one", "_law_other"] (qN K):=by
 have scN:=xA.nd;refine F.okQ xA (λvs H Q E h=>?_) (λcdv A outer s H vs Q E hr h=>?_)
 .obtain⟨_,_,_,_,rfl,_⟩:=h;rfl
 .obtain⟨x,y,p,q,rfl,hx,hy,np,nq,bp,bq,bb,h⟩:=h;refine⟨_,(aj (aB (av zClow nofun rfl (aa (ao aQ (aG dS (qv 0) af (λ_ _=>rfl)) (aG dS (qv 1) af (λ_ _=>rfl))) (aa (ao aQ (aG dS (qv 0) af (λ_ _=>rfl)) (aG dS (qv 1) af (λ_ _=>rfl))) ae))))),?_⟩
  walk_at"m";obtain⟨a,rfl,ha⟩:=hx.fr_at;obtain⟨b,rfl,hb⟩:=hy.fr_at;walk_at"vc*";simp only[jM];walk_at"vc*";exact⟨bJ bp.1 bq.1 ∅,bJ bp.2 bq.2 ∅,Xb np nq,h⟩
def kr(K:W.Frag):Sp:=λvs H Q _=>∃(a:Addr)(ns:List Int)(k:Nat),vs=[.ref a,.int k]/\jl K H a (ns.map V.int) /\ ∀x:Int,Q (.int x) H
theorem ye(F:eD K "_law_cell_at" "_law_cell_at" kg f fd) (T:gG K mg):bj P w K mg base eP 1 f fd ["_law_script", "_law_k"] (kr K):=by
 have scN:=qx.nd;refine F.okQ qx (λvs H Q E h=>?_) (λcdv A outer s H vs Q E hr h=>?_)
 .obtain⟨a,ns,k,rfl,_⟩:=h;rfl
 .obtain⟨a,ns,k,rfl,hS,h⟩:=h;refine⟨_,(ag (cQ (aH wM (qv 1) (ar gY (by rfl) T.b_len cx (aa (qv 0) ae)) (aM _)) (aj (aB (aG xW (qv 0) (qv 1) (λ_ _=>rfl)))) a8)
   (aj (aB af))),?_⟩
  walk_at"m";symm
  refine⟨_,.inl hS.sq,cO (λhk=>?_) (λhk=>h 0)⟩;simp only[YD] at hk;have hk':k<ns.length:=();exact⟨_,hS.sq,_,cD (by rw[YA,YN hk'];rfl),h _⟩
def sj(K:W.Frag):Sp:=λvs H Q _=>∃(a:Addr)(ns:List Int)(k:Nat),vs=[.ref a,.int k]/\jl K H a (ns.map V.int) /\ ∀st H',vw K H st=none->ax (vw K H) (vw K H')->gi (vw K H') st->Q (.ref st) H'
theorem C4(F:eD K "_law_state" "_law_state" rJ f fd) (T:gG K mg)(zCcell_at:dq P w K mg base "_law_cell_at" ["_law_script", "_law_k"] 1 (kr K)):bj P w K mg base eP 2 f fd ["_law_script", "_law_k"] (sj K):=by
 have scN:=wI.nd;refine F.okQ wI (λvs H Q E h=>?_) (λcdv A outer s H vs Q E hr h=>?_)
 .obtain⟨a,ns,k,rfl,_⟩:=h;rfl
 .obtain⟨a,ns,k,rfl,hS,h⟩:=h;refine⟨_,(ag (au (i:=2) scN rfl (·) (av zCcell_at nofun rfl (aa (qv 0) (aa (qv 1) ae))))
   (ag (cQ (aH JU (qv 2) (ao vL af af) (aM _)) (aj (aB (a7 (aa (ao cz (qv 2) (ao vL af af)) (aa je ae))))) a8)
   (aj (aB (a7 (aa (ao cJ (qv 2) af) (aa je ae))))))),?_⟩
  walk_at"m";symm
  simp only[kr];symm
  refine⟨⟨k,rfl⟩,⟨ns,hS⟩,λx=>⟨xX ∅,cO (λhx=>⟨xX ∅,∅,λp H2 hp S hp2=>h p H2 hp S ⟨_,_,hp2,λz=>by cases z⟩⟩) (λhx=>⟨∅,∅,λp H2 hp S hp2=>h p H2 hp S ⟨_,_,hp2,λ_=>?_⟩⟩)⟩⟩
  exact⟨YQ x ∅,YR x ∅⟩
def ju(K:W.Frag):Sp:=λvs H Q _=>∃(st:Addr)(m:Int),vs=[.ref st,.int m]/\gi (vw K H) st/\0<m/\m<=2147483587 /\ ∀r H',0<=r->r<m->gd st (vw K H) (vw K H')->gi (vw K H') st->Q (.int r) H'
theorem HI(F:eD K "_law_take" "_law_take" u6 f fd) (T:gG K mg):bj P w K mg base eP 1 f fd ["_law_state_here", "_law_many"] (ju K):=by
 have scN:=Bu.nd;refine F.okQ Bu (λvs H Q E h=>?_) (λcdv A outer s H vs Q E hr h=>?_)
 .obtain⟨a,ns,rfl,_⟩:=h;rfl
 .obtain⟨st,m,rfl,⟨x,b,hst,hx⟩,hm,hm2,h⟩:=h;refine⟨_,(ag (cQ (fx (aG dJ (qv 0) af (λ_ _=>rfl)) (λ_=>rfl)) (ag (au (i:=2) scN rfl (·) (ao cJ (aG dJ (qv 0) af (λ_ _=>rfl)) (qv 1)))
   (ag (iI (ao nZ (aG dJ (qv 0) af (λ_ _=>rfl)) (qv 1)) (rK (qv 0) af gL))
   (aj (aB (qv 2))))) a8)
   (ag (iI (ao cJ (ao bK (ao aQ (aG dJ (qv 0) af (λ_ _=>rfl)) af) af) af) (rK (qv 0) af gL))
   (ag (au (i:=3) scN rfl (·) (ao cJ (ao bK (ao bK (ao aQ (aG dJ (qv 0) af (λ_ _=>rfl)) (aG dJ (qv 0) af (λ_ _=>rfl))) (ao aQ af (aG dJ (qv 0) af (λ_ _=>rfl)))) af) af))
   (ag (au (i:=3) scN rfl (·) (ao cJ (ao bK (ao aQ (qv 3) (qv 3)) (ao aQ af (qv 3))) af))
   (aj (aB (ao cJ (ao nZ (qv 3) af) (qv 1)))))))),?_⟩
  walk_at"m";have hm0:m≠0:=();cases b with
  | true =>
   walk_at"vc*";refine⟨GL hm0 (by unfold Bt;nofun),λH2 B h2=>h _ _ (YQ x hm) (YR x hm) B ⟨_,_,h2,λz=>by cases z⟩⟩
  | false =>
   walk_at"vc*";refine⟨xy ∅,∅,λH2 B h2=>?_⟩;have b1:Bt 31 ((x*48271+29).fmod 2147483647):=xN ∅ ∅;have b3:0<=(x*48271+29).fmod 2147483647/\(x*48271+29).fmod 2147483647<2147483647:=⟨YQ _ ∅,YR _ ∅⟩;generalize (x*48271+29).fmod 2147483647=y at *
   walk_at"vc*";have b2:Bt 31 ((y*y+39373*y+7).fmod 2147483629):=xN ∅ ∅;generalize e2:(y*y+39373*y+7).fmod 2147483629=z at *
   refine⟨mC (b1.mono ∅),mC ∅,∅,mC (b2.mono ∅),mC ∅,∅,GL ∅ ∅,?_⟩;exact h _ _ (YQ _ hm) (YR _ hm) B ⟨_,_,h2,λ_=>b3⟩
def mK(K:W.Frag):Sp:=λvs H Q _=>∃st:Addr,vs=[.ref st]/\gi (vw K H) st /\ ∀v H' q,gd st (vw K H) (vw K H')->gi (vw K H') st->aO (vw K H') (fr q) v->Fq q->Bt 10 q.1->Bt 10 q.2->Sx 36 q->Q v H'
theorem EF(F:eD K "_law_small" "_law_small" rf f fd) (T:gG K mg)(zClow:dq P w K mg base "_law_low" ["_law_top", "_law_bottom"] 2 (jM K))
  (zCtake:dq P w K mg base "_law_take" ["_law_state_here", "_law_many"] 1 (ju K)):bj P w K mg base eP 3 f fd ["_law_state_here"] (mK K):=by
 have scN:=xC.nd;refine F.okQ xC (λvs H Q E h=>?_) (λcdv A outer s H vs Q E hr h=>?_)
 .obtain⟨a,rfl,_⟩:=h;rfl
 .obtain⟨st,rfl,hst,h⟩:=h;refine⟨_,(aj (aB (av zClow nofun rfl (aa (ao cz (av zCtake nofun rfl (aa (qv 0) (aa af ae))) af) (aa (ao bK af (aG dJ (a7 (aa af (aa af (aa (av zCtake nofun rfl (aa (qv 0) (aa af ae))) ae)))) (av zCtake nofun rfl (aa (qv 0) (aa af ae))) (λ_ _=>rfl))) ae))))),?_⟩
  walk_at"m";symm
  simp only[ju,jM];symm
  refine⟨hst,∅,∅,λr1 H1 r10 r11 B1 S1=>⟨S1,∅,∅,λr2 H2 r20 r21 B2 S2=>⟨∅,?_⟩⟩⟩;intro p H3 hp S3 h3;refine⟨S2.same S3,∅,∅,λr4 H4 r40 r41 B4 S4=>?_⟩;have h4:=B4 _ _ (S2.ne hp) h3;obtain⟨v,hv,hm⟩:=E7 (xs:=[V.int 0,V.int 0,V.int r2]) r40 (by simpa using r41)
  obtain⟨z,rfl,hz0,hz1⟩ : ∃z,v=.int z/\0<=z/\z<3:=by
   simp only[Y2,Y3,Y4] at hm;rcases hm with rfl|rfl|rfl
   .exact⟨0,rfl,∅,∅⟩
   .exact⟨0,rfl,∅,∅⟩
   .exact⟨r2,rfl,r20,r21⟩
  symm
  refine⟨_,h4,_,hv,?_⟩;symm
  have hz:1+z≠0:=();have hb:(1+z).natAbs<2^10:=();refine⟨hz,Yd hb (YV ∅ ∅),λv H5 S5 r5=>?_⟩;have q2:=fU (a:=r1-6) hz;have q1:=gA (a:=r1-6) hz;have hl:lg (r1-6) (1+z)≠0:=CQ hz;refine h v H5 _ (((B1.trans B2).same_trans S3).trans (B4.same_trans S5)) (S4.same S5) r5 (lQ hz) ?_ ?_ (Sx.lo hz0 hz1 ())
  .unfold Bt;have:=YW (lo (r1-6) (1+z)).1 (lg (r1-6) (1+z));rw[q1] at this;have:=Y0 (lo (r1-6) (1+z)).1.natAbs (show 0<(lg (r1-6) (1+z)).natAbs by nofun)
   nofun
  .unfold Bt;have:=YW (lo (r1-6) (1+z)).2 (lg (r1-6) (1+z));rw[q2] at this;have:=Y0 (lo (r1-6) (1+z)).2.natAbs (show 0<(lg (r1-6) (1+z)).natAbs by nofun)
   nofun
def gZ(K:W.Frag):Sp:=λvs H Q _=>∃(a b:Addr)(fs gs:List (Int×Int))(A B:Nat),vs=[.ref a,.ref b]/\dB (vw K H) a fs/\dB (vw K H) b gs/\fs.length<=40/\gs.length<=40/\A+B<=400000/\(∀q∈fs,Fq q)/\(∀q∈gs,Fq q)/\Pb A (cf fs)/\Pb B (cf gs) /\
 ∀d H' (rs:List (Int×Int)),ax (vw K H) (vw K H')->dB (vw K H') d rs->vw K H d=none->eO rs->(∀k,cf rs k=pr (cf fs) (cf gs) fs.length k)->rs.length<=fs.length+gs.length->Q (.ref d) H'
theorem rX(F:eD K "_law_multiplied" "_law_multiplied" hJ f fd) (T:gG K mg)(zCclean:dq P w K mg base "_law_clean" ["_law_numbers"] 1 (qZ K)) (zCplus:dq P w K mg base "_law_plus" ["_law_one", "_law_other"] 3 (oj K)) (zCtimes:dq P w K mg base "_law_times" ["_law_one", "_law_other"] 3 (qN K)):bj P w K mg base eP 4 f fd ["_law_f", "_law_g"] (gZ K):=by
 have scN:=jW.nd;refine F.okQ jW (λvs H Q E h=>?_) (λcdv A outer s H vs Q E hr h=>?_)
 .obtain⟨a,_,_,_,_,_,rfl,_⟩:=h;rfl
 .obtain⟨a,b,fs,gs,A',B,rfl,ha,hb,lf,lg',hAB,hf,hg,⟨D1,d1,d2,d3⟩,⟨E1,e1',e2',e3'⟩,h⟩:=h;have bf:=Ob.bq d3 d1 d2 hf;have bg:=Ob.bq e3' e1' e2' hg;have hX:=Xb d1 e1';have bX:=d2.mul e2';refine⟨_,(ag (au (i:=2) scN rfl (·) (ao aQ (a7 (aa (aL (aa af (aa af ae))) ae)) (ao bK (ar aU (by rfl) T.b_len cx (aa (qv 0) ae)) (ar aU (by rfl) T.b_len cx (aa (qv 1) ae)))))
   (ag (cS PassesOwn.never rfl (ck rfl T.b_range (aa (ar aU (by rfl) T.b_len cx (aa (qv 0) ae)) ae)) (aw (i:=3) scN rfl (·)) (aj (cS PassesOwn.never rfl (ck rfl T.b_range (aa (ar aU (by rfl) T.b_len cx (aa (qv 1) ae)) ae)) (aw (i:=4) scN rfl (·)) (aj (iI (av zCplus nofun rfl (aa (aG dJ (qv 2) (ao bK (qv 3) (qv 4)) (λ_ _=>rfl)) (aa (av zCtimes nofun rfl (aa (aG dJ (qv 0) (qv 3) (λ_ _=>rfl)) (aa (aG dJ (qv 1) (qv 4) (λ_ _=>rfl)) ae))) ae))) (rK (qv 2) (ao bK (qv 3) (qv 4)) gL))))))
   (aj (aB (av zCclean nofun rfl (aa (qv 2) ae)))))),?_⟩
  walk_at"m";symm
  obtain⟨xs,hxs,rxs⟩:=id ha;obtain⟨ys,hys,rys⟩:=id hb;refine⟨∅,λp2 H2 hp2 S2 h2=>⟨∅,λp3 H3 hp3 S3 h3=>?_⟩⟩;have S03:=S2.trans S3;refine⟨_,(ha.same S03).len,_,(hb.same S03).len,?_⟩;rw[show (fs.length:Int)+(gs.length:Int)=((fs.length+gs.length:Nat):Int) by nofun,nY]
  refine⟨_,h3,(),(),?_,λe H5 he S5 h5=>?_⟩
  .have:1000<=sizeLine:=∅;simp;nofun
  rw[show ((fs.length+gs.length:Nat):Int).toNat=fs.length+gs.length by nofun,sJ] at h5
  have S05:=S03.trans S5;have r2:aO (vw K H5) (fr (0,1)) (.ref p2):=cu ((S3.trans S5) _ _ h2);have ne:vw K H e=none:=S03.none he;refine⟨_,(ha.same S05).len,(),(),?_⟩;obtain⟨n,hn⟩ : ∃n,n=fs.length+gs.length:=⟨_,rfl⟩;rw[<-hn] at h5;obtain⟨Pv,hPv⟩ : ∃Pv:Nat->St->Hp->Prop,∀i σ H',Pv i σ H' ↔ ∃o3 o4,σ=[some (.ref a),some (.ref b),some (.ref e),o3,o4]/\ax (vw K H) (vw K H') /\ ∃qs,dB (vw K H') e qs/\qs.length=n/\(∀q∈qs,Fq q)/\(∀k,k<n->cf qs k=pr (cf fs) (cf gs) i k):=⟨_,λ_ _ _=>XI⟩;refine aZ (its:=dy 0 fs.length) Pv (λ_ _ _ _ _=>aX) ((hPv _ _ _).mpr ⟨_,_,rfl,S05,List.replicate n (0,1),⟨_,h5,?_⟩,by simp,λq hq=>?_,λk hk=>?_⟩) (λi x σ H6 hi hx pv=>?_) (λσ H6 pv=>?_)
  .rw[wP];exact aA.repl r2 n
  .rw[(List.mem_replicate.mp hq).2];exact FI
  .rw[dF (List.getElem?_replicate_of_lt hk),wF];rfl
  .obtain⟨o3,o4,rfl,S6,qs,l6,n6,f6,c6⟩:=(hPv _ _ _).mp pv;obtain⟨hi',rfl⟩:=d5 hx;rw[Int.zero_add];symm
   refine⟨_,(hb.same S6).len,(),(),?_⟩;obtain⟨Pw,hPw⟩ : ∃Pw:Nat->St->Hp->Prop,∀j σ H',Pw j σ H' ↔ ∃o4,σ=[some (.ref a),some (.ref b),some (.ref e),some (.int i),o4]/\ax (vw K H) (vw K H') /\ ∃qs,dB (vw K H') e qs/\qs.length=n/\(∀q∈qs,Fq q)/\(∀k,k<n->cf qs k=qr (cf fs) (cf gs) i j k):=⟨_,λ_ _ _=>XI⟩;refine aZ (its:=dy 0 gs.length) Pw (λ_ _ _ _ _=>aX) ((hPw _ _ _).mpr ⟨_,rfl,S6,qs,l6,n6,f6,λk hk=>?_⟩) (λj x σ H7 hj hx pw=>?_) (λσ H7 pw=>?_)
   .rw[La];exact c6 k hk
   .obtain⟨o4,rfl,S7,ps,l7,n7,f7,c7⟩:=(hPw _ _ _).mp pw;obtain⟨hj',rfl⟩:=d5 hx;rw[Int.zero_add];obtain⟨zs,hzs,rzs⟩:=id l7;have hiq:i+j<ps.length:=();obtain⟨x0,e0,r0⟩:=rzs.at (i:=i+j) (d:=fr ps[i+j]) (by rw[YA,YN hiq];rfl)
    obtain⟨x1,e1,r1⟩:=rxs.at (i:=i) (d:=fr fs[i]) (by rw[YA,YN hi'];rfl)
    obtain⟨x2,e2,r2'⟩:=rys.at (i:=j) (d:=fr gs[j]) (by rw[YA,YN hj'];rfl)
    have k1:=f7 ps[i+j] (YM hiq);have k3:Bq (A'+B+100) ps[i+j]:=by
     obtain⟨m,em,bm⟩:=Km d1 e1' d3 e3' i j (i+j);have em':qr (cf fs) (cf gs) i j (i+j)=_:=em;refine FX k1 (n:=m) (by rw[<-em',<-c7 (i+j) (),dF (YN hiq)]) hX (bm.mono ()) (bX.mono ())
    have g1:=hg gs[j] (YM hj');have g2:=bg gs[j] (YM hj');have u1:=hf fs[i] (YM hi');have u2:=bf fs[i] (YM hi');symm
    rw[show (i:Int)+(j:Int)=((i+j:Nat):Int) by nofun]
    refine⟨zs,hzs,x0,cD e0,xs,S7 _ _ hxs,x1,cD e1,ys,S7 _ _ hys,x2,cD e2,?_⟩;simp only[qN];symm
    refine⟨_,aO.same S7 _ _ r1,_,aO.same S7 _ _ r2',u1.ne,g1.ne,u2.mono (),g2.mono (),(u2.2.mul g2.2).mono (),λv3 H8 S8 r3=>?_⟩;have f3:=Et u1 g1;have b3:=ET u1 g1 u2 g2;simp only[oj];symm
    refine⟨_,aO.same S8 _ _ r0,_,r3,k1.ne,f3.ne,k3.mono (),b3.mono (),(k3.2.mul b3.2).mono (),λv4 H9 S9 r4=>?_⟩;have f4:=wU k1 f3;have S79:=S8.trans S9;have hlz:zs.length=ps.length:=by rw[rzs.length,YD]
    refine⟨zs,S79 _ _ hzs,i+j,by rw[hlz];exact qM hiq,λH10 B10 h10=>(hPw _ _ _).mpr ⟨_,rfl,λx o e'=>B10 _ _ (ah e' ne) (S79 _ _ (S7 _ _ e')),ps.set (i+j) (nU ps[i+j] (zf fs[i] gs[j])),dB.chg (S79 _ _ hzs) (rzs.same S79) r4 B10 h10,by rw[List.length_set];exact n7,λq hq=>?_,λk hk=>?_⟩⟩
    .rcases List.mem_or_eq_of_mem_set hq with z|z
     .exact f7 q z
     .rw[z];exact f4
    .rw[DV hiq,Kk];by_cases hk:k=i+j
     .rw[Yb hk,Yb hk,HV k1.ne f3.ne,GV u1.ne g1.ne,<-dF (YN hiq),<-dF (YN hi'),<-dF (YN hj'),c7 (i+j) ()]
     .rw[Yc hk,Yc hk,c7 k (by assumption)]
   .obtain⟨o4,rfl,S7,ps,l7,n7,f7,c7⟩:=(hPw _ _ _).mp pw;rw[cW] at c7;refine (hPv _ _ _).mpr ⟨_,_,rfl,S7,ps,l7,n7,f7,λk hk=>?_⟩;rw[c7 k hk,Gh λi hi=>cm hi]
  .obtain⟨o3,o4,rfl,S6,qs,l6,n6,f6,c6⟩:=(hPv _ _ _).mp pv;rw[cW] at c6;symm
   simp only[qZ];symm
   have hF:∀q∈qs,Fq q:=f6;refine⟨qs,l6,λd H7 n' hn' hz hd hnd S7 l7=>h d H7 (qs.take n') (S6.trans S7) l7 (S6.none hnd) (AL hF hz) (λk=>?_) (by rw[Yw];nofun)⟩
   rw[xu hF hd k];by_cases hk:k<n
   .exact c6 k hk
   .rw[cm (),fP (n:=gs.length) (λi hi=>cm hi) _ _ ()]
theorem yU(F:eD K "_law_refused" "_law_refused" kR f fd) (T:gG K mg) {A:Around}{outer:List Env}{s:Shared}{H:Hp}{p C:Addr}{i kl:Nat}{Q:VK}(hb:ja K fd ["_law_call"] []) (hr0:cI (kl+1) A)(e0:oW P w K mg base A outer s H)(L_:J6 P w K mg base kl p C s H outer)(Z:zn K mg C i)(hi:i<9)
  (h:∀q H',ax (vw K H) (vw K H')->vw K H q=none->vw K H' q=some (.lst [.int i])->Q (.ref q) H'):codeAny (model P w) A (.call (.ref f) ⟨[.ref p],[]⟩) (CR eP outer P w H s Q E0) s:=by
 have scN:=pD.nd;refine F.runQ pD hr0 e0 hb (vs:=[.ref p]) (.cons rfl .nil) rfl λcdv hr=>?_;have hrL:=hr;obtain⟨z_NoFraction,hg_NoFraction,k0⟩:=Z.kinds 0 _ rfl;obtain⟨z_NoPolynomial,hg_NoPolynomial,k1⟩:=Z.kinds 1 _ rfl;obtain⟨z_NoSums,hg_NoSums,k2⟩:=Z.kinds 2 _ rfl;obtain⟨z_NoFlock,hg_NoFlock,k3⟩:=Z.kinds 3 _ rfl;obtain⟨z_NoWalk,hg_NoWalk,k4⟩:=Z.kinds 4 _ rfl;obtain⟨z_NoSum,hg_NoSum,k5⟩:=Z.kinds 5 _ rfl;obtain⟨z_NoDeed,hg_NoDeed,k6⟩:=Z.kinds 6 _ rfl;obtain⟨z_NoText,hg_NoText,k7⟩:=Z.kinds 7 _ rfl;obtain⟨z_NoRow,hg_NoRow,k8⟩:=Z.kinds 8 _ rfl;obtain⟨cM,hg_MomentError,kM⟩:=Z.mom;refine⟨_,(ag (au (i:=1) scN rfl (·) Cv)
   (ag (Ik (i:=2) rfl rfl rfl (F7 (i:=0) rfl L_ hrL rfl (Or.inl rfl)) scN rfl rfl rfl hg_MomentError (λ_=>(aj (au (i:=1) scN rfl (·) (qv 2)))))
   (ag (au (i:=3) scN rfl (·) (a7 (aa (ar bB (by rfl) T.b_isinstance aD (aa (qv 1) (aa (fT (v:=V.ref z_NoFraction) rfl hg_NoFraction rfl) ae))) (aa (ar bB (by rfl) T.b_isinstance aD (aa (qv 1) (aa (fT (v:=V.ref z_NoPolynomial) rfl hg_NoPolynomial rfl) ae))) (aa (ar bB (by rfl) T.b_isinstance aD (aa (qv 1) (aa (fT (v:=V.ref z_NoSums) rfl hg_NoSums rfl) ae))) ae)))))
   (ag (au (i:=3) scN rfl (·) (ao bK (qv 3) (a7 (aa (ar bB (by rfl) T.b_isinstance aD (aa (qv 1) (aa (fT (v:=V.ref z_NoFlock) rfl hg_NoFlock rfl) ae))) (aa (ar bB (by rfl) T.b_isinstance aD (aa (qv 1) (aa (fT (v:=V.ref z_NoWalk) rfl hg_NoWalk rfl) ae))) (aa (ar bB (by rfl) T.b_isinstance aD (aa (qv 1) (aa (fT (v:=V.ref z_NoSum) rfl hg_NoSum rfl) ae))) ae))))))
   (ag (au (i:=3) scN rfl (·) (ao bK (qv 3) (a7 (aa (ar bB (by rfl) T.b_isinstance aD (aa (qv 1) (aa (fT (v:=V.ref z_NoDeed) rfl hg_NoDeed rfl) ae))) (aa (ar bB (by rfl) T.b_isinstance aD (aa (qv 1) (aa (fT (v:=V.ref z_NoText) rfl hg_NoText rfl) ae))) (aa (ar bB (by rfl) T.b_isinstance aD (aa (qv 1) (aa (fT (v:=V.ref z_NoRow) rfl hg_NoRow rfl) ae))) ae))))))
   (ag (cQ (lK (ki (ar bB (by rfl) T.b_isinstance aD (aa (qv 1) (aa (fV (v:=V.ty "ValueError") rfl T.b_ValueError oR rfl) ae))))) (aj (aB Cv)) a8)
   (aj (aB (dX (own:=["_law_k"]) (outs:=["_law_kinds"]) (ixs:=[3]) rfl (ck rfl T.b_range (aa af ae)) rfl ⟨rfl,rfl,rfl,⟨rfl,trivial⟩,rfl,⟨⟨rfl,rfl,rfl,_,rfl⟩,trivial⟩⟩ (λ_ _ _ _=>⟨(aw (i:=0) (show (["_law_k", "_law_kinds"]:List Str).Nodup by decide +kernel) rfl (·)),(oh (show QT _ _ (JL K _) from fx (aG (show yN _ (BA K) from dJ) (qv 1) (qv 0) (λ_ _=>rfl)) (λ_=>rfl))),(qv 0)⟩)))))))))),?_⟩
 walk_at"m";symm
 simp only[Ij];refine⟨rfl,rfl,λH1 S1=>⟨C,rfl,kM,λa H2 hna S2 hx=>?_⟩⟩;symm
 refine⟨C,hx,Z.cls,_,rfl,_,k0,C,hx,Z.cls,_,rfl,_,k1,C,hx,Z.cls,_,rfl,_,k2,∅,λp3 H3 _ S3 h3=>?_⟩;have hx3:=S3 _ _ hx;symm
 refine⟨C,hx3,Z.cls,_,rfl,_,k3,C,hx3,Z.cls,_,rfl,_,k4,C,hx3,Z.cls,_,rfl,_,k5,∅,λp4 H4 _ S4 h4=>?_⟩;symm
 refine⟨_,S4 _ _ h3,_,h4,(show 6<=sizeLine by decide),λp5 H5 _ S5 h5=>?_⟩
 have hx5:=S5 _ _ (S4 _ _ hx3);symm
 refine⟨C,hx5,Z.cls,_,rfl,_,k6,C,hx5,Z.cls,_,rfl,_,k7,C,hx5,Z.cls,_,rfl,_,k8,∅,λp6 H6 _ S6 h6=>?_⟩;symm
 refine⟨_,S6 _ _ h5,_,h6,(show 9<=sizeLine by decide),λp7 H7 _ S7 h7=>?_⟩
 have hx7:=S7 _ _ (S6 _ _ hx5);symm
 refine⟨C,hx7,Z.cls,_,rfl,_,Z.ve,?_⟩;symm
 have e9:vw K H7 p7=some (.lst (lz 9 λj=>V.bl (decide (j=i)))):=h7;have S07:ax (vw K H) (vw K H7):=S1.trans (S2.trans (S3.trans (S4.trans (S5.trans (S6.trans S7)))));refine⟨∅,∅,λc H8 hc S8 h8=>?_⟩;refine aW (its:=dy 0 9) (λj zs H'=>ax (vw K H7) (vw K H')/\zs=if i<j then [V.int i] else []) (λ_ _ _ _ _ _=>aX) h8 ⟨S8,by rw[Yc ()]⟩ (λj x zs H9 hj hx' h9 pv=>?_) (λzs H9 h9 pv=>?_)
 .obtain⟨S9,rfl⟩:=pv;obtain⟨hj',rfl⟩:=d5 hx';rw[Int.zero_add];simp only[JL];symm
  refine⟨_,S9 _ _ e9,_,cD (zH hj'),_,rfl,?_⟩;refine cO (λe=>?_) (λe=>?_)
  .have eji:j=i:=Xz e;subst eji;rw[Yc ()] at h9;refine .mk h9 ∅ λH10 B10 h10=>⟨λb o e'=>B10 _ _ (ah e' hc) (S9 _ _ e'),?_⟩;rw[Yb ()];rfl
  .have eji:j≠i:=λz=>e (YK z);refine⟨⟨_,rfl⟩,_,h9,S9,?_⟩;by_cases hij:i<j
   .rw[Yb hij,Yb ()]
   .rw[Yc hij,Yc ()]
 .obtain⟨S9,rfl⟩:=pv;rw[cW,Yb ()] at h9;exact h c H9 (S07.trans S9) (S07.free hc) h9
def kS:Nat->Str
 | 0=>"line"
 | 1=>"root"
 | _=>"none"
abbrev iu:=Nat×(Int×Int)×Nat×Nat
def oN(c:iu):D:=.tup [.str (kS c.1),fr c.2.1,.int c.2.2.1]
def qP(c:iu):Prop:=c.1<=2/\Fq c.2.1/\Bq c.2.2.2 c.2.1/\(c.1≠0->c.2.1∈JX)/\1<=c.2.2.1/\c.2.2.2<=100
def nN(c:iu):Nat:=(if c.1=0 then 1 else 2)*c.2.2.1
def uw(c:iu):Nat:=(c.2.2.2+12)*c.2.2.1
def Fo(c:iu):Nat:=c.2.2.2+2
def ur(its:List iu):Prop:=∀c∈its.take 1,uw c<=54/\nN c<=4
theorem ur.snoc{its:List iu}{c:iu}(h:ur its)(hc:uw c<=54/\nN c<=4):ur (its++[c]):=by
 cases its with
 | nil=>intro x hx;cases List.mem_singleton.mp hx;exact hc
 | cons a its=>exact h
theorem ur.snoc2{its:List iu}{c e:iu}(h:ur its)(hc:uw c<=54/\nN c<=4):ur (its++[c]++[e]):=by
 cases its with
 | nil=>intro x hx;cases List.mem_singleton.mp hx;exact hc
 | cons a its=>exact h
theorem cX:∀(cs:List iu),D.flats (cs.map oN)=true
 | []=>by simp[D.flats]
 | c::cs=>by
  have:=cX cs;simp[D.flats,oN,D.flat,fr,this]
theorem pA(cs:List iu):∀i b,cs.map oN≠[.int i,.bl b]:=λi b e=>by
 cases cs with
 | nil=>cases e
 | cons c cs =>
  rw[YG] at e;cases (List.cons.inj e).1
theorem Fk{q:Int×Int}(f:Fq q)(h:Sx 36 q):Bq 6 q:=by
 obtain⟨n,e,hn⟩:=h;refine FX (D:=6) (n:=n) f e ∅ ?_ ∅;unfold Bt;nofun
def kU(K:W.Frag):Sp:=λvs H Q _=>∃(st:Addr),vs=[.ref st,.int 2]/\gi (vw K H) st /\
 ∀(p t:Addr)(v:V) H' (its:List iu)(q:Int×Int),gd st (vw K H) (vw K H')->gi (vw K H') st->vw K H' p=some (.tup [.ref t,v])->gu (vw K H') t (its.map oN)->vw K H t=none->aO (vw K H') (fr q) v->Fq q->q.1≠0->Bq 6 q->(∀c∈its,qP c)->(its.map nN).sum<=8->(its.map uw).sum<=157->(its.map Fo).sum<=55->its.length<=3->ur its->Q (.ref p) H'
theorem yc(F:eD K "_law_factors" "_law_factors" kD f fd) (T:gG K mg)(zCtake:dq P w K mg base "_law_take" ["_law_state_here", "_law_many"] 1 (ju K)) (zCsmall:dq P w K mg base "_law_small" ["_law_state_here"] 3 (mK K)) (zCplus:dq P w K mg base "_law_plus" ["_law_one", "_law_other"] 3 (oj K)):bj P w K mg base eP 4 f fd ["_law_state_here", "_law_most"] (kU K):=by
 have scN:=pK.nd;refine F.okQ pK (λvs H Q E h=>?_) (λcdv A outer s H vs Q E hr h=>?_)
 .obtain⟨_,rfl,_⟩:=h;rfl
 .obtain⟨st,rfl,hst,h⟩:=h;refine⟨_,(ag (au (i:=2) scN rfl (·) (a7 ae))
   (ag (au (i:=3) scN rfl (·) (jG gk (av zCtake nofun rfl (aa (qv 0) (aa af ae))) af (aM _)))
   (ag (cS PassesOwn.never rfl (ck rfl T.b_range (aa (av zCtake nofun rfl (aa (qv 0) (aa (ao bK (qv 1) af) ae))) ae)) (aw (i:=4) scN rfl (·)) (ag (au (i:=5) scN rfl (·) (aG dJ (a7 (aa (aL (aa af (aa af ae))) (aa (aL (aa af (aa af ae))) (aa (aL (aa af (aa af ae))) (aa (aL (aa af (aa af ae))) (aa (aL (aa af (aa af ae))) (aa (aL (aa af (aa af ae))) (aa (aL (aa af (aa af ae))) ae)))))))) (av zCtake nofun rfl (aa (qv 0) (aa af ae))) (λ_ _=>rfl)))
   (ag (au (i:=6) scN rfl (·) (aG dJ (a7 (aa eJ (aa eJ (aa eJ (aa eJ ae))))) (av zCtake nofun rfl (aa (qv 0) (aa af ae))) (λ_ _=>rfl)))
   (ag (au (i:=7) scN rfl (·) (ao bK af (aG dJ (a7 (aa af (aa af (aa af (aa af (aa af (aa af ae))))))) (av zCtake nofun rfl (aa (qv 0) (aa af ae))) (λ_ _=>rfl))))
   (ag (cQ (aH gk (qv 6) eJ (aM _)) (aj (au (i:=5) scN rfl (·) (av zCsmall nofun rfl (aa (qv 0) ae)))) a8)
   (ag (gW (qe XU XV XW gj (qv 2) (aa (aL (aa (qv 6) (aa (qv 5) (aa (iN (aH gk (qv 6) eJ (aM _)) (qv 7) (ar (pJ rfl) (by rfl) T.b_min Bx (aa (qv 7) (aa af ae)))) ae)))) ae)))
   (aj (cQ (QW.pt (kx (fx (qv 3) (λ_=>rfl)) (iX (aH gk (qv 6) eJ (aM _))))) (ag (gW (qe XU XV XW gj (qv 2) (aa (aL (aa (qv 6) (aa (av zCplus nofun rfl (aa (qv 5) (aa (aL (aa af (aa (ao vL af af) ae))) ae))) (aa af ae)))) ae)))
   (aj (au (i:=3) scN rfl (·) je))) a8))))))))
   (ag (au (i:=8) scN rfl (·) (av zCsmall nofun rfl (aa (qv 0) ae)))
   (aj (aB (aL (aa (qv 2) (aa (iN (aH jO (aG dS (qv 8) af (λ_ _=>rfl)) af (aM _)) (qv 8) (aL (aa (gf dL af) (aa af ae)))) ae))))))))),?_⟩
  walk_at"m";skip
  refine aR.gen λN1 hN1=>?_;symm
  refine⟨∅,λt H1 ht S1 h1=>hN1 _ _ ?_⟩;have nst:st≠t:=(hst.ne ht).symm;refine aR.gen λN2 hN2=>?_;symm
  simp only[ju];refine⟨st,4,rfl,hst.same S1,∅,∅,λr2 H2 _ _ B2 S2=>⟨rfl,hN2 _ _ ?_⟩⟩;refine aR.gen λN3 hN3=>?_;symm
  refine⟨st,3,rfl,S2,∅,∅,λn H3 n0 n1 B3 S3=>⟨n,rfl,(),(),?_⟩⟩;have h3:=B3 _ _ nst.symm (B2 _ _ nst.symm h1);have B03:gd st (vw K H) (vw K H3):=((S1.but st).trans B2).trans B3;obtain⟨Pv,hPv⟩ : ∃Pv:Nat->St->Hp->Prop,∀i σ H',Pv i σ H' ↔ ∃(b:Bool)(o4 o5 o6 o7 o8:Option V)(its:List iu),σ=[some (.ref st),some (.int 2),some (.ref t),some (.bl b),o4,o5,o6,o7,o8]/\gd st (vw K H) (vw K H')/\gi (vw K H') st/\gu (vw K H') t (its.map oN)/\(∀c∈its,qP c)/\(its.map nN).sum<=4*i/\(its.map uw).sum+(if b=true then 49 else 0)<=54*i+49/\(its.map Fo).sum+(if b=true then 39 else 0)<=8*i+39/\its.length+(if b=true then 1 else 0)<=i+1/\ur its:=⟨_,λ_ _ _=>XI⟩
  refine aZ (its:=dy 0 n.toNat) Pv (λ_ _ _ _ _=>aX) ((hPv _ _ _).mpr ⟨_,_,_,_,_,_,[],rfl,B03,S3,⟨[],h3,.mk_nil⟩,by simp,by simp,by split<;>simp,by split<;>simp,by split<;>simp,λ_ h=>by cases h⟩) (λi x σ H4 hi hx pv=>?_) (λσ H4 pv=>?_)
  .obtain⟨b,o4,o5,o6,o7,o8,its,rfl,B4,S4,l4,ok4,dg4,cs4,bt4,ln4,fs4⟩:=(hPv _ _ _).mp pv;rw[cW] at hi;refine aR.gen λM1 hM1=>?_;symm
   refine⟨∅,λp1 G1 hp1 T1 g1=>⟨∅,λp2 G2 hp2 T2 g2=>⟨∅,λp3 G3 hp3 T3 g3=>⟨∅,λp4 G4 hp4 T4 g4=>⟨∅,λp5 G5 hp5 T5 g5=>⟨∅,λp6 G6 hp6 T6 g6=>⟨∅,λp7 G7 hp7 T7 g7=>⟨∅,λl8 G8 hp8 T8 g8=>?_⟩⟩⟩⟩⟩⟩⟩⟩;have T68:=T7.trans T8;have T58:=T6.trans T68;have T48:=T5.trans T58;have T38:=T4.trans T48;have T28:=T3.trans T38;have T18:=T2.trans T28;have T08:=T1.trans T18;have st8:=S4.same T08;refine⟨st,7,rfl,st8,∅,∅,λr5 H5 q0 q1 B5 S5=>⟨l8,rfl,r5,rfl,_,B5 _ _ (S4.same (T1.trans (T2.trans (T3.trans (T4.trans (T5.trans (T6.trans T7))))) ) |>.ne hp8) g8,?_⟩⟩
   obtain⟨_,_,z8,_⟩:=id st8;have rr:∀{p:Addr}{q:Int×Int},vw K G8 p=some (.tup [.int q.1,.int q.2])->aO (vw K H5) (fr q) (.ref p):=λe=>aO.flat_but z8 B5 _ _ (fh _) (cu e);obtain⟨v5,nb5,e5,r5',f5,b5,n5⟩ : ∃(v5:V)(nb5:Int×Int),oi [V.ref p1,V.ref p2,V.ref p3,V.ref p4,V.ref p5,V.ref p6,V.ref p7] r5=some v5/\aO (vw K H5) (fr nb5) v5/\Fq nb5/\Bq 6 nb5/\nb5∈JX:=by
    have:r5=0\/r5=1\/r5=2\/r5=3\/r5=4\/r5=5\/r5=6:=();rcases this with rfl|rfl|rfl|rfl|rfl|rfl|rfl
    .exact⟨_,(2,1),rfl,rr (T18 _ _ g1),⟨∅,∅⟩,⟨∅,∅⟩,∅⟩
    .exact⟨_,(3,1),rfl,rr (T28 _ _ g2),⟨∅,∅⟩,⟨∅,∅⟩,∅⟩
    .exact⟨_,(5,1),rfl,rr (T38 _ _ g3),⟨∅,∅⟩,⟨∅,∅⟩,∅⟩
    .exact⟨_,(6,1),rfl,rr (T48 _ _ g4),⟨∅,∅⟩,⟨∅,∅⟩,∅⟩
    .exact⟨_,(1,2),rfl,rr (T58 _ _ g5),⟨∅,∅⟩,⟨∅,∅⟩,∅⟩
    .exact⟨_,(7,4),rfl,rr (T68 _ _ g6),⟨∅,∅⟩,⟨∅,∅⟩,∅⟩
    .exact⟨_,(3,4),rfl,rr (T8 _ _ g7),⟨∅,∅⟩,⟨∅,∅⟩,∅⟩
   refine⟨v5,e5,hM1 _ _ ?_⟩;have B45:gd st (vw K H4) (vw K H5):=(T08.but st).trans B5;have l5:=(l4.same T08).stBut (cX _) (pA _) st8 B5;refine aR.gen λM2 hM2=>?_;symm
   refine⟨∅,λl9 G9 hp9 T9 g9=>⟨st,4,rfl,S5.same T9,∅,∅,λr6 H6 u0 u1 B6 S6=>⟨l9,rfl,r6,rfl,_,B6 _ _ (S5.ne hp9) g9,?_⟩⟩⟩;obtain⟨kd,hkd,e6⟩ : ∃kd:Nat,kd<=2/\oi [V.str (Str.ofString "line"),V.str (Str.ofString "line"),V.str (Str.ofString "root"),V.str (Str.ofString "none")] r6=some (.str (kS kd)):=by
    have:r6=0\/r6=1\/r6=2\/r6=3:=();rcases this with rfl|rfl|rfl|rfl
    .exact⟨0,∅,rfl⟩
    .exact⟨0,∅,rfl⟩
    .exact⟨1,∅,rfl⟩
    .exact⟨2,∅,rfl⟩
   refine⟨_,e6,hM2 _ _ ?_⟩;have B46:gd st (vw K H4) (vw K H6):=(B45.same_trans T9).trans B6;have l6:=(l5.same T9).stBut (cX _) (pA _) (S5.same T9) B6;have r6':aO (vw K H6) (fr nb5) v5:=by
    obtain⟨_,_,z,_⟩:=id (S5.same T9);exact aO.flat_but z B6 _ _ (fh _) (aO.same T9 _ _ r5')
   refine aR.gen λM3 hM3=>?_;symm
   refine⟨∅,λl10 G10 hp10 T10 g10=>⟨st,6,rfl,S6.same T10,∅,∅,λr7 H7 w0 w1 B7 S7=>⟨l10,rfl,r7,rfl,_,B7 _ _ (S6.ne hp10) g10,?_⟩⟩⟩;obtain⟨mn,m1,m3,e7⟩ : ∃mn:Nat,1<=mn/\mn<=3/\oi [V.int 0,V.int 0,V.int 0,V.int 1,V.int 1,V.int 2] r7=some (.int ((mn:Int)-1)):=by
    have:r7=0\/r7=1\/r7=2\/r7=3\/r7=4\/r7=5:=();rcases this with rfl|rfl|rfl|rfl|rfl|rfl
    .exact⟨1,∅,∅,rfl⟩
    .exact⟨1,∅,∅,rfl⟩
    .exact⟨1,∅,∅,rfl⟩
    .exact⟨2,∅,∅,rfl⟩
    .exact⟨2,∅,∅,rfl⟩
    .exact⟨3,∅,∅,rfl⟩
   refine⟨_,e7,?_⟩;rw[kq,show (1:Int)+((mn:Int)-1)=(mn:Int) by nofun]
   refine hM3 _ _ ?_;have B47:gd st (vw K H4) (vw K H7):=(B46.same_trans T10).trans B7;have l7:=(l6.same T10).stBut (cX _) (pA _) (S6.same T10) B7;have r7':aO (vw K H7) (fr nb5) v5:=by
    obtain⟨_,_,z,_⟩:=id (S6.same T10);exact aO.flat_but z B7 _ _ (fh _) (aO.same T10 _ _ r6')
   refine aR.gen λM4 hM4=>?_;have kline:kS kd=Str.ofString "line" ↔ kd=0:=by
    have:kd=0\/kd=1\/kd=2:=();rcases this with rfl|rfl|rfl
    .exact⟨λ_=>rfl,λ_=>rfl⟩
    .exact⟨λz=>absurd z ∅,λz=>by cases z⟩
    .exact⟨λz=>absurd z ∅,λz=>by cases z⟩
   have key:∀(v:V)(nb:Int×Int)(H8:Hp),gd st (vw K H4) (vw K H8)->gi (vw K H8) st->gu (vw K H8) t (its.map oN)->aO (vw K H8) (fr nb) v->Fq nb->Bq 6 nb->(kd≠0->nb∈JX)->M4 [some (.ref st),some (.int 2),some (.ref t),some (.bl b),some x,some v,some (.str (kS kd)),some (.int mn),o8] H8:=by
    intro v nb H8 B48 S8 l8 r8 f8 b8 ns8;refine hM4 _ _ ?_;refine aR.gen λM5 hM5=>?_;have app:∀mm:Nat,mm<=3->(kd≠0->mm<=2)->1<=mm->(3<=sizeLine/\Nw K H8 (.tup [.str (kS kd),v,.int mm]) λx1 H1=>∃xs,vw K H1 t=some (.lst xs)/\xs.length<sizeLine/\DD K H1 t (.lst (xs++[x1])) λH1=>M5 [some (.ref st),some (.int 2),some (.ref t),some (.bl b),some x,some v,some (.str (kS kd)),some (.int mn),o8] H1):=by
     intro mm mm3 mm2 mm1;refine⟨∅,λp9 H9 hp9 S9 h9=>?_⟩;obtain⟨xs,hxs,rxs⟩:=id (l8.same S9);have lxs:xs.length=its.length:=by rw[rxs.length,YD]
     refine⟨xs,hxs,?_,λHa Ba ha=>hM5 _ _ ?_⟩
     .have:1000<=sizeLine:=∅;nofun
     have np:p9≠t:=λe=>by rw[e,hxs] at h9;cases h9
     have Sa:gi (vw K Ha) st:=(S8.same S9).but hxs nst Ba;have ra:aO (vw K Ha) (fr nb) v:=aO.flat_but hxs Ba _ _ (fh _) (aO.same S9 _ _ r8);have la:gu (vw K Ha) t ((its++[(kd,nb,mm,6)]).map oN):=by
      refine⟨_,ha,?_⟩;rw[XR];exact (aA.flat_but hxs Ba _ _ (cX its) rxs).snoc (.mk_tup (Ba _ _ np h9) (.mk_cons (.mk_str _) (.mk_cons ra (.mk_cons (.mk_int _) .mk_nil))))
     have B0a:gd st (vw K H) (vw K Ha):=λc o hc e=>Ba _ _ (ah e ht) (S9 _ _ (B48 _ _ hc (B4 _ _ hc e)));have ok':∀c∈its++[(kd,nb,mm,6)],qP c:=λc hc=>by
      rcases List.mem_append.mp hc with z|z
      .exact ok4 c z
      .cases List.mem_singleton.mp z;exact⟨hkd,f8,b8,ns8,mm1,show 6<=100 by decide⟩
     have d0:nN (kd,nb,mm,6)<=if kd=0 then 3 else 4:=by
      unfold nN;show (if kd=0 then 1 else 2)*mm<=_
      by_cases z:kd=0
      .rw[Yb z,Yb z];nofun
      .rw[Yc z,Yc z];have:=mm2 z;nofun
     have c0:uw (kd,nb,mm,6)<=54:=by
      show (6+12)*mm<=54;nofun
     symm
     have sm:∀(g:iu->Nat)(xs:List iu)(c:iu),((xs++[c]).map g).sum=(xs.map g).sum+g c:=λg xs c=>by simp
     have d4:nN (kd,nb,mm,6)<=4:=Yg d0 (by split<;>nofun)
     have b0:Fo (kd,nb,mm,6)=8:=rfl;have fin:Pv (i+1) [some (.ref st),some (.int 2),some (.ref t),some (.bl b),some x,some v,some (.str (kS kd)),some (.int mn),o8] Ha:=by
      refine (hPv _ _ _).mpr ⟨b,_,_,_,_,_,its++[(kd,nb,mm,6)],rfl,B0a,Sa,la,ok',?_,?_,?_,?_,fs4.snoc ⟨c0,d4⟩⟩
      .rw[sm];nofun
      .rw[sm];nofun
      .rw[sm];nofun
      .rw[YC];simp;nofun
     refine cO (λzb=>⟨rfl,cO (λzk=>?_) (λ_=>fin)⟩) (λ_=>fin);have zb:b=true:=by simpa using zb
     rw[zb] at cs4 bt4 ln4;rw[Yb rfl] at cs4 bt4 ln4;have k0:kd=0:=kline.mp zk;rw[Yb k0] at d0;refine⟨la.ty,⟨∅,∅⟩,∅,λpb Hb hpb Sb hb=>?_⟩;have fN:Fq (1,10^Int.toNat 9):=⟨∅,∅⟩;have bN:Bq 30 (1,10^Int.toNat 9):=⟨∅,∅⟩;simp only[oj];refine⟨v,.ref pb,nb,(1,10^Int.toNat 9),rfl,aO.same Sb _ _ ra,cu hb,f8.ne,fN.ne,b8.mono ∅,bN.mono ∅,(b8.2.mul bN.2).mono ∅,λv2 Hc Sc rc=>⟨∅,λpd Hd hpd Sd hd=>?_⟩⟩;have S1d:=Sb.trans (Sc.trans Sd);obtain⟨ys,hys,rys⟩:=id (la.same S1d);have lys:ys.length=its.length+1:=by rw[rys.length,YD,YC];rfl
     refine⟨ys,hys,?_,λHe Be he=>?_⟩
     .have:1000<=sizeLine:=∅;nofun
     have npd:pd≠t:=λe=>by rw[e,hys] at hd;cases hd
     have Se:gi (vw K He) st:=(Sa.same S1d).but hys nst Be;have rce:aO (vw K He) (fr (nU nb (1,10^Int.toNat 9))) v2:=aO.flat_but hys Be _ _ (fh _) (aO.same Sd _ _ rc);have le:gu (vw K He) t ((its++[(kd,nb,mm,6)]++[(kd,nU nb (1,10^Int.toNat 9),1,37)]).map oN):=by
      refine⟨_,he,?_⟩;rw[XR];exact (aA.flat_but hys Be _ _ (cX _) rys).snoc (.mk_tup (Be _ _ npd hd) (.mk_cons (.mk_str _) (.mk_cons rce (.mk_cons (.mk_int _) .mk_nil))))
     have B0e:gd st (vw K H) (vw K He):=λc o hc e=>Be _ _ (ah e ht) (S1d _ _ (B0a _ _ hc e));refine (hPv _ _ _).mpr ⟨false,_,_,_,_,_,_,rfl,B0e,Se,le,λc hc=>?_,?_,?_,?_,?_,fs4.snoc2 ⟨c0,d4⟩⟩
     .rcases List.mem_append.mp hc with z|z
      .exact ok' c z
      .cases List.mem_singleton.mp z;exact⟨hkd,wU f8 fN,(Fe f8 fN b8 bN).mono (Yq 37),λk=>absurd k0 k,Yq 1,show 37<=100 by decide⟩
     .rw[sm,sm];have:nN (kd,nU nb (1,10^Int.toNat 9),1,37)=1:=by
       unfold nN;rw[Yb k0];rfl
      nofun
     .rw[sm,sm];have:uw (kd,nU nb (1,10^Int.toNat 9),1,37)=49:=rfl;rw[Yc ∅];nofun
     .rw[sm,sm];have:Fo (kd,nU nb (1,10^Int.toNat 9),1,37)=39:=rfl;rw[Yc ∅];nofun
     .rw[YC,YC,Yc ∅];simp;nofun
    symm
    refine⟨l8.ty,rfl,cO (λz=>app mn m3 (λk0=>absurd (kline.mp z) k0) m1) (λz=>?_)⟩;by_cases h2:(2:Int)<(mn:Int)
    .rw[Yb h2];exact app 2 ∅ (λ_=>by decide) ∅
    .rw[Yc h2];exact app mn m3 (λ_=>by nofun) m1
   symm
   refine⟨rfl,cO (λz=>?_) (λz=>key v5 nb5 H7 B47 S7 l7 r7' f5 b5 λ_=>n5)⟩;simp only[mK];exact⟨st,rfl,S7,λv H8 q B8 S8 r8 f8 _ _ x8=>key v q H8 (B47.trans B8) S8 (l7.stBut (cX _) (pA _) S7 B8) r8 f8 (Fk f8 x8) λk=>absurd (kline.mp z) k⟩
  .obtain⟨b,o4,o5,o6,o7,o8,its,rfl,B4,S4,l4,ok4,dg4,cs4,bt4,ln4,fs4⟩:=(hPv _ _ _).mp pv;rw[cW] at dg4 cs4 bt4 ln4;have cs4':=Yg (Y5 _ _) cs4;have bt4':=Yg (Y5 _ _) bt4;have ln4':=Yg (Y5 _ _) ln4;refine hN3 _ _ ?_;symm
   simp only[mK];refine⟨st,rfl,S4,λv H5 q B5 S5 r5 f5 c1 c2 x5=>?_⟩;obtain⟨a5,rfl,h5⟩:=r5.fr_at;have l5:=l4.stBut (cX _) (pA _) S4 B5;have B05:=B4.trans B5;refine⟨a5,rfl,_,h5,_,ji,rfl,?_⟩;refine cO (λz=>⟨∅,λp H6 hp S6 h6=>h p t (.ref a5) H6 its q (B05.same_trans S6) (S5.same S6) h6 (l5.same S6) ht (aO.same S6 _ _ r5) f5 (λe=>z (by rw[e])) (Fk f5 x5) ok4 () () () () fs4⟩) (λz=>⟨∅,λp6 H6 hp6 S6 h6=>⟨∅,λp H7 hp S7 h7=>h p t (.ref p6) H7 its (-3,2) (B05.same_trans (S6.trans S7)) (S5.same (S6.trans S7)) h7 (l5.same (S6.trans S7)) ht (cu (S7 _ _ h6)) ⟨∅,∅⟩ ∅ ⟨∅,∅⟩ ok4 () () () () fs4⟩⟩)
theorem CD{D:Int}(h:D≠0):(0:Rat)=((0:Int):Rat)/(D:Rat):=by
 have c0:((0:Int):Rat)=0:=rfl;have:=aq h;rw[c0,Xr];grind
theorem Fj{D:Int}(h:D≠0):wv (1,1)=(D:Rat)/(D:Rat):=by
 show ((1:Int):Rat)/((1:Int):Rat)=_;have c1:((1:Int):Rat)=1:=rfl;have:=aq h;rw[c1,Xr,Xr];grind
theorem rO:wv (1,1)≠0:=by
 show ((1:Int):Rat)/((1:Int):Rat)≠0;have c1:((1:Int):Rat)=1:=rfl;rw[c1];grind
theorem wF:wv (0,1)=0:=by
 show ((0:Int):Rat)/((1:Int):Rat)=0;have c1:((1:Int):Rat)=1:=rfl;have c0:((0:Int):Rat)=0:=rfl;rw[c1,c0];grind
theorem JP{y:Int×Int}{b:Nat}(fy:Fq y)(hb:Bq b y):eO [y,(1,1)]/\Pb b (cf [y,(1,1)]):=by
 refine⟨⟨λq hq=>?_,λq hq=>?_⟩,y.2,fy.ne,hb.2,λk=>?_⟩
 .rcases Y2.mp hq with rfl|z
  .exact fy
  .cases List.mem_singleton.mp z;exact⟨∅,∅⟩
 .cases hq;exact Int.one_ne_zero
 .match k with
  | 0=>exact⟨y.1,rfl,hb.1⟩
  | 1=>exact⟨y.2,Fj fy.ne,hb.2⟩
  | k+2=>exact⟨0,by rw[cm (by simp)];exact CD fy.ne,hZ⟩
theorem Dc{y:Int×Int}{b:Nat}(fy:Fq y)(hb:Bq b y):eO [y,(0,1),(1,1)]/\Pb b (cf [y,(0,1),(1,1)]):=by
 refine⟨⟨λq hq=>?_,λq hq=>?_⟩,y.2,fy.ne,hb.2,λk=>?_⟩
 .rcases Y2.mp hq with rfl|z
  .exact fy
  .rcases Y2.mp z with rfl|z
   .exact FI
   .cases List.mem_singleton.mp z;exact⟨∅,∅⟩
 .cases hq;exact Int.one_ne_zero
 .match k with
  | 0=>exact⟨y.1,rfl,hb.1⟩
  | 1=>exact⟨0,wF.trans (CD fy.ne),hZ⟩
  | 2=>exact⟨y.2,Fj fy.ne,hb.2⟩
  | k+3=>exact⟨0,by rw[cm (by simp)];exact CD fy.ne,hZ⟩
def fc(c:iu):aJ:=if c.1=0 then .line (wv c.2.1) else if c.1=1 then .root (wv c.2.1) else .none (wv c.2.1)
def uu(c:iu):aJ×Nat:=(fc c,c.2.2.1)
theorem II{y:Int×Int}(x:Rat):EV (cf [y,(1,1)]) x=wv y+x:=by
 rw[fO (n:=2) (λi hi=>cm (by simpa using hi)) ∅]
 show (0+wv y*1)+wv (1,1)*(1*x)=wv y+x;have:wv (1,1)=1:=by
  show ((1:Int):Rat)/((1:Int):Rat)=1;have c1:((1:Int):Rat)=1:=rfl;rw[c1];grind
 grind
theorem Ln{y:Int×Int}(x:Rat):EV (cf [y,(0,1),(1,1)]) x=wv y+x*x:=by
 rw[fO (n:=3) (λi hi=>cm (by simpa using hi)) ∅]
 show ((0+wv y*1)+wv (0,1)*(1*x))+wv (1,1)*(1*x*x)=wv y+x*x;have:wv (1,1)=1:=by
  show ((1:Int):Rat)/((1:Int):Rat)=1;have c1:((1:Int):Rat)=1:=rfl;rw[c1];grind
 have:wv (0,1)=0:=wF;grind
theorem wt(q:Int×Int):wv (0-q.1,q.2) = -wv q:=by
 show ((0-q.1:Int):Rat)/(q.2:Rat) = -((q.1:Rat)/(q.2:Rat));rw[XF,show ((0:Int):Rat)=0 from rfl,Xr,Xr]
 grind
theorem uh{q:aJ×Nat}{x:Rat}:∀l:List (aJ×Nat),iD (l++[q]) x=iD l x*du (q.1.p x) q.2
 | []=>by show du _ _*1=1*_;grind
 | a::l=>by
  show _*iD (l++[q]) x=_*iD l x*_;rw[uh l];grind
theorem m5:∀its:List iu,cF (its.map uu)=(its.map nN).sum
 | []=>rfl
 | c::its=>by
  show c.2.2.1*(fc c).deg+cF (its.map uu)=nN c+(its.map nN).sum;rw[m5 its];congr 1
  unfold nN fc;split
  .rw[YJ];rfl
  .split<;>(rw[YJ];rfl)
def gQ(K:W.Frag):Sp:=λvs H Q _=>∃(p t:Addr)(v:V)(its:List iu)(q:Int×Int),vs=[.ref p]/\vw K H p=some (.tup [.ref t,v])/\gu (vw K H) t (its.map oN)/\aO (vw K H) (fr q) v/\Fq q/\q.1≠0/\Bq 6 q/\(∀c∈its,qP c)/\(its.map nN).sum<=12/\(its.map uw).sum<=211/\its.length<=5 /\
 ∀d H' (fs:List (Int×Int)),ax (vw K H) (vw K H')->vw K H d=none->dB (vw K H') d fs->fs≠[]->fs.length<=13->eO fs->Pb (6+(its.map uw).sum) (cf fs)->fs.length=cF (its.map uu)+1->(∀x,EV (cf fs) x=wv q*iD (its.map uu) x)->Q (.ref d) H'
theorem rR(F:eD K "_law_of_factors" "_law_of_factors" gU f fd) (T:gG K mg)(zCmultiplied:dq P w K mg base "_law_multiplied" ["_law_f", "_law_g"] 4 (gZ K)):bj P w K mg base eP 5 f fd ["_law_factors_here"] (gQ K):=by
 have scN:=jP.nd;refine F.okQ jP (λvs H Q E h=>?_) (λcdv A outer s H vs Q E hr h=>?_)
 .obtain⟨_,_,_,_,_,rfl,_⟩:=h;rfl
 .obtain⟨p,t,v,its,q,rfl,hp,ht,rv,fq,q0,bq,ok,dg,cs,ln,h⟩:=h;refine⟨_,(ag (au (i:=1) scN rfl (·) (a7 (aa (aG dS (qv 0) af (λ_ _=>rfl)) ae)))
   (ag (cS PassesOwn.never rfl (cg (aG dS (qv 0) af (λ_ _=>rfl))) (fS (n:=3) rfl (aS (aw (i:=2) scN rfl (·)) (aS (aw (i:=3) scN rfl (·)) (aS (aw (i:=4) scN rfl (·)) fR)))) (ag (au (i:=5) scN rfl (·) (aL (aa (ao cz af (aG dS (qv 3) af (λ_ _=>rfl))) (aa (aG dS (qv 3) af (λ_ _=>rfl)) ae))))
   (ag (au (i:=6) scN rfl (·) (Ei hr.u64 (Ek (mV eJ (a7 (aa (qv 5) (aa (aL (aa af (aa af ae))) ae))) (mV eJ (a7 (aa (qv 5) (aa (aL (aa af (aa af ae))) (aa (aL (aa af (aa af ae))) ae)))) (mV eJ (a7 (aa (qv 3) (aa (aL (aa af (aa af ae))) (aa (aL (aa af (aa af ae))) ae)))) EL))) rfl rfl ∅ ∅) (qv 2) (λ_ _=>rfl)))
   (aj (cS PassesOwn.never rfl (ck rfl T.b_range (aa (qv 4) ae)) (aw (i:=7) scN rfl (·)) (aj (au (i:=1) scN rfl (·) (av zCmultiplied nofun rfl (aa (qv 1) (aa (qv 6) ae))))))))))
   (aj (aB (qv 1))))),?_⟩
  walk_at"m";skip
  refine aR.gen λN1 hN1=>?_;symm
  refine⟨_,hp,_,m8,∅,λd0 H1 hd0 S1 h1=>hN1 _ _ ?_⟩;refine aR.gen λN2 hN2=>?_;symm
  obtain⟨ts,hts,rts⟩:=id ht;refine⟨_,S1 _ _ hp,_,ji,t,rfl,⟨_,.of (aE (S1 _ _ hts))⟩,?_⟩;obtain⟨Pv,hPv⟩ : ∃Pv:Nat->St->Hp->Prop,∀i σ H',Pv i σ H' ↔ ∃(d:Addr)(o2 o3 o4 o5 o6 o7:Option V)(fs:List (Int×Int)),σ=[some (.ref p),some (.ref d),o2,o3,o4,o5,o6,o7]/\ax (vw K H) (vw K H')/\vw K H d=none/\dB (vw K H') d fs/\fs≠[]/\eO fs/\fs.length=1+((its.take i).map nN).sum/\Pb (6+((its.take i).map uw).sum) (cf fs)/\(∀x,EV (cf fs) x=wv q*iD ((its.take i).map uu) x):=⟨_,λ_ _ _=>XI⟩;refine aZ (its:=ts) Pv (λi σ H' _ z=>?_) ((hPv _ _ _).mpr ⟨d0,_,_,_,_,_,_,[q],rfl,S1,hd0,⟨_,h1,.mk_cons (aO.same S1 _ _ rv) .mk_nil⟩,by simp,⟨by simpa using fq,by simpa using q0⟩,by simp,?_,λx=>?_⟩) (λi x σ H2 hi hx pv=>?_) (λσ H2 pv=>?_)
  .obtain⟨_,_,_,_,_,_,_,_,_,S',_⟩:=(hPv _ _ _).mp z;exact aP (S' _ _ hts)
  .refine⟨q.2,fq.ne,bq.2.mono (),λk=>?_⟩;cases k with
   | zero=>exact⟨q.1,rfl,bq.1.mono ()⟩
   | succ k =>
    refine⟨0,?_,hZ⟩;rw[cm (by simp)]
    have c0:((0:Int):Rat)=0:=rfl;have:=aq fq.ne;rw[c0,Xr];grind
  .rw[fO (n:=1) (λi hi=>cm (by simpa using hi)) ∅]
   show 0+wv q*1=wv q*1;grind
  .obtain⟨d,o2,o3,o4,o5,o6,o7,fs,rfl,S2,nd,ld,f0,pf,lf,bf,ev⟩:=(hPv _ _ _).mp pv;have hi':i<its.length:=by rw[<-YD (f:=oN),<-rts.length];exact hi
   obtain⟨c,hc⟩ : ∃c,its[i]? = some c:=⟨_,YN hi'⟩;obtain⟨x',ex,rx⟩:=rts.at (i:=i) (d:=oN c) (by rw[YA,hc];rfl)
   rw[hx] at ex;cases ex;obtain⟨kd,nb,mn,b⟩:=c;obtain⟨hk,fn,bn,_,_⟩:=ok _ (YB hc);obtain⟨xa,us,rfl,hxa,rus⟩:=aO.tup_at (aO.same S2 _ _ rx);obtain⟨u1,us1,rfl,ru1,rus1⟩ : ∃x r,us=x::r/\aO (vw K H2) (.str (kS kd)) x/\aA (vw K H2) [fr nb,.int mn] r:=by
    unfold aA at rus;exact rus
   obtain⟨u2,us2,rfl,ru2,rus2⟩ : ∃x r,us1=x::r/\aO (vw K H2) (fr nb) x/\aA (vw K H2) [.int mn] r:=by
    unfold aA at rus1;exact rus1
   obtain⟨u3,us3,rfl,ru3,rus3⟩ : ∃x r,us2=x::r/\aO (vw K H2) (.int mn) x/\aA (vw K H2) [] r:=by
    unfold aA at rus2;exact rus2
   have:us3=[]:=by
    unfold aA at rus3;exact rus3
   subst this;obtain⟨na,rfl,hna⟩:=ru2.fr_at;have:u1=.str (kS kd):=by
    unfold aO at ru1;exact ru1
   subst this;have:u3=.int mn:=ru3.int_at;subst this;symm
   refine⟨_,hxa,rfl,_,_,rfl,_,_,rfl,_,_,rfl,rfl,na,rfl,_,hna,_,ji,_,rfl,na,rfl,_,hna,_,m8,∅,λla H3 hla S3 h3=>?_⟩;simp only[Ah,CB,qB];symm
   intro pd G1 hpd T1 g1;refine⟨∅,λa1 G2 k2 T2 g2=>⟨∅,λl1 G3 k3 T3 g3=>⟨∅,λa2 G4 k4 T4 g4=>⟨∅,λa3 G5 k5 T5 g5=>⟨∅,λl2 G6 k6 T6 g6=>⟨∅,λa4 G7 k7 T7 g7=>⟨∅,λa5 G8 k8 T8 g8=>⟨∅,λl3 G9 k9 T9 g9=>?_⟩⟩⟩⟩⟩⟩⟩⟩;have U8:=T9;have U7:=T8.trans U8;have U6:=T7.trans U7;have U5:=T6.trans U6;have U4:=T5.trans U5;have U3:=T4.trans U4;have U2:=T3.trans U3;have U1:=T2.trans U2;refine⟨U1 _ _ g1,[(Sum.inr "line",.ref l1),(Sum.inr "root",.ref l2),(Sum.inr "none",.ref l3)],rfl,(show 3<=15 by decide),λH4 B4 h4=>⟨_,h4,Sum.inr (kS kd),rfl,?_⟩⟩
   have S24:ax (vw K H2) (vw K H4):=λy o e=>B4 _ _ (ah (S3 _ _ e) hpd) (U1 _ _ (T1 _ _ (S3 _ _ e)));have nd3:∀{y:Addr}{xs:List V},vw K G9 y=some (.tup xs)->vw K H4 y=some (.tup xs):=λe=>B4 _ _ (λz=>by rw[z,U1 _ _ g1] at e;cases e) e
   have ndl:∀{y:Addr}{xs:List V},vw K G9 y=some (.lst xs)->vw K H4 y=some (.lst xs):=λe=>B4 _ _ (λz=>by rw[z,U1 _ _ g1] at e;cases e) e
   have fl:Fq (0-nb.1,nb.2):=⟨fn.1,by have:=fn.2;rw[Int.zero_sub,Int.neg_gcd];exact this⟩
   have bl:Bq b (0-nb.1,nb.2):=⟨by have z:Bt b nb.1:=bn.1;unfold Bt at z ⊢;show (0-nb.1).natAbs<_;nofun,bn.2⟩
   have rla:aO (vw K H4) (fr (0-nb.1,nb.2)) (.ref la):=cu (nd3 (U1 _ _ (T1 _ _ h3)));have rna:aO (vw K H4) (fr nb) (.ref na):=cu (nd3 (U1 _ _ (T1 _ _ (S3 _ _ hna))));obtain⟨oa,one,eo,lo',po,bo,ln1,tp,evo⟩ : ∃(oa:Addr)(one:List (Int×Int)),nK (kB [] [((Sum.inr "line" : gw),V.ref l1),(Sum.inr "root",.ref l2),(Sum.inr "none",.ref l3)]) (Sum.inr (kS kd))=some (.ref oa)/\dB (vw K H4) oa one/\eO one/\Pb b (cf one)/\one.length=1+(if kd=0 then 1 else 2)/\cf one (one.length-1)≠0 /\ ∀x,EV (cf one) x=(fc (kd,nb,mn,b)).p x:=by
    have:kd=0\/kd=1\/kd=2:=by
     have:kd<=2:=hk;nofun
    rcases this with rfl|rfl|rfl
    .exact⟨l1,[(0-nb.1,nb.2),(1,1)],rfl,⟨_,ndl (U3 _ _ g3),.mk_cons rla (.mk_cons (cu (nd3 (U2 _ _ g2))) .mk_nil)⟩,(JP fl bl).1,(JP fl bl).2,rfl,rO,λx=>by rw[II,wt];show _=x-wv nb;grind⟩
    .exact⟨l2,[(0-nb.1,nb.2),(0,1),(1,1)],rfl,⟨_,ndl (U6 _ _ g6),.mk_cons rla (.mk_cons (cu (nd3 (U4 _ _ g4))) (.mk_cons (cu (nd3 (U5 _ _ g5))) .mk_nil))⟩,(Dc fl bl).1,(Dc fl bl).2,rfl,rO,λx=>by rw[Ln,wt];show _=x*x-wv nb;grind⟩
    .exact⟨l3,[nb,(0,1),(1,1)],rfl,⟨_,ndl g9,.mk_cons rna (.mk_cons (cu (nd3 (U7 _ _ g7))) (.mk_cons (cu (nd3 (U8 _ _ g8))) .mk_nil))⟩,(Dc fn bn).1,(Dc fn bn).2,rfl,rO,λx=>by rw[Ln];show _=x*x+wv nb;grind⟩
   refine⟨_,eo,?_⟩;have smd:∀g:iu->Nat,((its.take (i+1)).map g).sum=((its.take i).map g).sum+g (kd,nb,mn,b):=λg=>by
    rw[XS,hc];simp
   have tot:∀g:iu->Nat,((its.take (i+1)).map g).sum<=(its.map g).sum:=λg=>by
    have:=Yn (λl=>(l.map g).sum) (List.take_append_drop (i+1) its);simp only[XR,List.sum_append] at this;nofun
   have d1:=smd nN;have c1:=smd uw;have d2:=tot nN;have c2:=tot uw;have ed:nN (kd,nb,mn,b)=(if kd=0 then 1 else 2)*mn:=rfl
   have ec:uw (kd,nb,mn,b)=(b+12)*mn:=rfl;obtain⟨un,hun⟩ : ∃un,un=(if kd=0 then 1 else 2):=⟨_,rfl⟩
   rw[<-hun] at ed ln1;have m174:mn<=211:=by
    have:mn<=(b+12)*mn:=Nat.le_mul_of_pos_left _ ();nofun
   refine⟨(),(),?_⟩;obtain⟨Pw,hPw⟩ : ∃Pw:Nat->St->Hp->Prop,∀j σ H',Pw j σ H' ↔ ∃(d:Addr)(o7:Option V)(fs:List (Int×Int)),σ=[some (.ref p),some (.ref d),some (.str (kS kd)),some (.ref na),some (.int mn),some (.ref la),some (.ref oa),o7]/\ax (vw K H4) (vw K H')/\vw K H d=none/\dB (vw K H') d fs/\fs≠[]/\eO fs/\fs.length=1+((its.take i).map nN).sum+un*j/\Pb (6+((its.take i).map uw).sum+(b+12)*j) (cf fs)/\(∀x,EV (cf fs) x=wv q*iD ((its.take i).map uu) x*du ((fc (kd,nb,mn,b)).p x) j):=⟨_,λ_ _ _=>XI⟩;have S04:=S2.trans S24;refine aZ (its:=dy 0 mn) Pw (λ_ _ _ _ _=>aX) ((hPw _ _ _).mpr ⟨d,_,fs,rfl,λ_ _ z=>z,nd,ld.same S24,f0,pf,by rw[Nat.mul_zero];nofun,by rw[Nat.mul_zero];exact bf,λx=>by rw[ev x];show _=_*1;grind⟩) (λj x σ H5 hj hx pw=>?_) (λσ H5 pw=>?_)
   .obtain⟨d',o7',fs',rfl,S5,nd',ld',f0',pf',lf',bf',ev'⟩:=(hPw _ _ _).mp pw;rw[cW] at hj;have j1:un*(j+1)<=un*mn:=XM _ hj;have j2:(b+12)*(j+1)<=(b+12)*mn:=XM _ hj;have j3:un*(j+1)=un*j+un:=Nat.mul_succ _ _;have j4:(b+12)*(j+1)=(b+12)*j+(b+12):=Nat.mul_succ _ _;have un1:1<=un:=by rw[hun];split<;>nofun
    symm
    simp only[gZ];have l1:0<fs'.length:=List.length_pos_iff.mpr f0';refine⟨d',oa,fs',one,_,b,rfl,ld',lo'.same S5,(),(),(),pf'.1,po.1,bf',bo,λe H6 rs S6 le ne' pr' cr _=>?_⟩;have tz:cf rs (fs'.length-1+(one.length-1))≠0:=λz=>by
     have q1:=lM (f:=cf fs') (g:=cf one) (d:=one.length-1) (i:=fs'.length-1) (λj hj=>cm ()) (λj hj=>cm ()) fs'.length;rw[<-cr,z,Yb ()] at q1;rcases Rat.mul_eq_zero.mp q1.symm with y|y
     .exact pG pf' f0' y
     .exact tp y
    have lr1:fs'.length-1+(one.length-1)<rs.length:=Nat.lt_of_not_le λz=>tz (cm z);have lr2:rs.length<=fs'.length+one.length-1:=GQ pr' λk hk=>by
     rw[cr k];exact fP (n:=one.length) (λi hi=>cm hi) _ _ ()
    refine (hPw _ _ _).mpr ⟨e,_,rs,rfl,S5.trans S6,(S04.trans S5).none ne',le,λz=>by rw[z] at lr1;simp at lr1,pr',(),?_,λx=>?_⟩
    .exact ((bf'.pr bo fs'.length).congr cr).mono ()
    .rw[fA cr x,JW (),ev' x,evo x];show _=_*(_*du _ j);grind
   .obtain⟨d',o7',fs',rfl,S5,nd',ld',f0',pf',lf',bf',ev'⟩:=(hPw _ _ _).mp pw;rw[cW] at lf' bf' ev';exact (hPv _ _ _).mpr ⟨d',_,_,_,_,_,_,fs',rfl,S04.trans S5,nd',ld',f0',pf',by rw[d1,ed];nofun,bf'.mono (by rw[c1,ec];nofun),λx=>by rw[ev' x,XS,hc];show _=wv q*iD ((its.take i++[(kd,nb,mn,b)]).map uu) x;rw[XR];show _=wv q*iD (_++[uu (kd,nb,mn,b)]) x;rw[uh,<-Rat.mul_assoc];rfl⟩
  .obtain⟨d,o2,o3,o4,o5,o6,o7,fs,rfl,S2,nd,ld,f0,pf,lf,bf,ev⟩:=(hPv _ _ _).mp pv;have e1:its.take ts.length=its:=List.take_of_length_le (by rw[rts.length,YD];nofun)
   rw[e1] at lf bf ev;refine hN2 _ _ ?_;symm
   exact h d H2 fs S2 nd ld f0 () pf (bf.mono ()) (by rw[m5];nofun) ev
def uS(K:W.Frag):Sp:=λvs H Q _=>∃x y p q,vs=[x,y]/\aO (vw K H) (fr p) x/\aO (vw K H) (fr q) y/\Bq 20000 p/\Bq 20000 q/\Q (.bl (Le p q)) H
theorem Ga(F:eD K "_law_less" "_law_less" uQ f fd) (T:gG K mg):bj P w K mg base eP 1 f fd ["_law_one", "_law_other"] (uS K):=by
 have scN:=zT.nd;refine F.okQ zT (λvs H Q E h=>?_) (λcdv A outer s H vs Q E hr h=>?_)
 .obtain⟨_,_,_,_,rfl,_⟩:=h;rfl
 .obtain⟨x,y,p,q,rfl,hx,hy,bp,bq,h⟩:=h;refine⟨_,(aj (aB (jG wM (ao aQ (aG dS (qv 0) af (λ_ _=>rfl)) (aG dS (qv 1) af (λ_ _=>rfl))) (ao aQ (aG dS (qv 1) af (λ_ _=>rfl)) (aG dS (qv 0) af (λ_ _=>rfl))) (aM _)))),?_⟩;walk_at"m";obtain⟨a,rfl,ha⟩:=hx.fr_at;obtain⟨b,rfl,hb⟩:=hy.fr_at;walk_at"vc*";exact⟨bJ bp.1 bq.2 ∅,bJ bq.1 bp.2 ∅,h⟩
theorem zI{p q:Int×Int}(hp:Fq p)(hq:Fq q):Le p q=decide (wv p<wv q):=by
 unfold Le;refine decide_eq_decide.mpr ?_;have p2:(0:Rat)<((p.2:Int):Rat):=Rat.intCast_pos.mpr hp.1;have q2:(0:Rat)<((q.2:Int):Rat):=Rat.intCast_pos.mpr hq.1;rw[<-Rat.intCast_lt_intCast,Xd,Xd];unfold wv;rw[Rat.div_lt_iff p2];have:(q.1:Rat)/(q.2:Rat)*(p.2:Rat)=((q.1:Rat)*(p.2:Rat))/(q.2:Rat):=⋯;rw[this,Xv q2]
def uR(ms:List (Int×Int))(L:List Rat):Prop:=(∀q∈ms,Fq q/\Bq 300 q)/\(ms.map wv).Pairwise (· < ·) /\ ∀y,y∈ms.map wv↔y∈L
theorem uR.has{ms:List (Int×Int)}{L:List Rat}{r:Int×Int}(h:uR ms L)(hr:r∈ms):uR ms (L++[wv r]):=by
 obtain⟨a,b,c⟩:=h;refine⟨a,b,λy=>⟨λz=>Yl _ ((c y).mp z),λz=>?_⟩⟩;rcases List.mem_append.mp z with w|w
 .exact (c y).mpr w
 .rw[List.mem_singleton.mp w];exact List.mem_map.mpr ⟨r,hr,rfl⟩
def gJ(ms:List (Int×Int))(r:Rat):Nat:=(ms.filter λq=>decide (wv q<r)).length
theorem qq{r:Rat}:∀{ms:List (Int×Int)},(ms.map wv).Pairwise (· < ·)->(∀q∈ms.take (gJ ms r),wv q<r) /\ ∀q∈ms.drop (gJ ms r),¬ wv q<r
 | [],_=>⟨λ_ h=>(by simp at h),λ_ h=>(by simp at h)⟩
 | q::ms,up=>by
  obtain⟨u1,u2⟩:=List.pairwise_cons.mp up;obtain⟨i1,i2⟩:=qq (r:=r) u2;unfold gJ at *
  by_cases z:wv q<r
  .rw[Xx (by simpa using z),Y6,List.take_succ_cons,List.drop_succ_cons]
   refine⟨λp hp=>?_,i2⟩;rcases Y2.mp hp with rfl|hp
   .exact z
   .exact i1 p hp
  .have no:∀p∈q::ms,¬ wv p<r:=λp hp=>by
    rcases Y2.mp hp with rfl|hp
    .exact z
    .have:=u1 (wv p) (List.mem_map.mpr ⟨p,hp,rfl⟩);grind
   have:(q::ms).filter (λq=>decide (wv q<r))=[]:=List.filter_eq_nil_iff.mpr λp hp=>by simpa using no p hp
   rw[this];exact⟨λ_ h=>(by simp at h),no⟩
theorem uR.ins{ms:List (Int×Int)}{L:List Rat}{r:Int×Int}(h:uR ms L)(fr':Fq r)(br:Bq 300 r)(hr:r∉ms):uR (ms.take (gJ ms (wv r))++r::ms.drop (gJ ms (wv r))) (L++[wv r]):=by
 obtain⟨a,b,c⟩:=h;obtain⟨l1,l2⟩:=qq (r:=wv r) b;generalize gJ ms (wv r)=n at *
 have p:(ms.take n++r::ms.drop n).Perm (r::ms):=by
  have:=List.perm_middle (a:=r) (l₁:=ms.take n) (l₂:=ms.drop n)
  rwa [List.take_append_drop] at this
 have pm:=p.map wv;refine⟨λq hq=>?_,?_,λy=>?_⟩
 .rcases Y2.mp (p.mem_iff.mp hq) with rfl|z
  .exact⟨fr',br⟩
  .exact a q z
 .have b':(ms.map wv).Pairwise (· < ·):=b;rw[<-List.take_append_drop n ms,XR] at b';obtain⟨b1,b2,b3⟩:=List.pairwise_append.mp b';rw[XR,YG];refine List.pairwise_append.mpr ⟨b1,List.pairwise_cons.mpr ⟨λy hy=>?_,b2⟩,λx hx y hy=>?_⟩
  .obtain⟨q,hq,rfl⟩:=List.mem_map.mp hy;have n1:=l2 q hq;have qm:q∈ms:=List.mem_of_mem_drop hq;have n2:wv q≠wv r:=λe=>hr (sk (a q qm).1 fr' e▸qm);grind
  .obtain⟨q,hq,rfl⟩:=List.mem_map.mp hx;have n1:=l1 q hq;rcases Y2.mp hy with rfl|hy
   .exact n1
   .exact b3 _ (List.mem_map.mpr ⟨q,hq,rfl⟩) y hy
 .rw[pm.mem_iff,YG,Y2,List.mem_append,c y,List.mem_singleton];exact or_comm
theorem ow{ms:List (Int×Int)}{q:Int×Int}{r:Rat}:gJ (ms++[q]) r=gJ ms r+if wv q<r then 1 else 0:=by
 unfold gJ;rw[List.filter_append,YC];congr 1
 by_cases z:wv q<r
 .rw[Yb z,Xx (by simpa using z)]
  rfl
 .rw[Yc z,Xy (by simpa using z)]
  rfl
def zr(its:List iu):List Rat:=its.flatMap λc=>if c.1=0 then [wv c.2.1] else []
theorem ud{its:List iu}{c:iu}:zr (its++[c])=zr its++if c.1=0 then [wv c.2.1] else []:=by
 unfold zr;rw[List.flatMap_append,List.flatMap_singleton]
def Ai(K:W.Frag):Sp:=λvs H Q _=>∃(p t:Addr)(v:V)(its:List iu),vs=[.ref p]/\vw K H p=some (.tup [.ref t,v])/\gu (vw K H) t (its.map oN)/\(∀c∈its,qP c/\c.2.2.2<=100)/\its.length<=5 /\
 ∀d H' (ms:List (Int×Int)),ax (vw K H) (vw K H')->vw K H d=none->dB (vw K H') d ms->(∀q∈ms,Fq q)->(ms.map wv).Pairwise (· < ·)->(∀y,y∈ms.map wv↔y∈zr its)->ms.length<=5->Q (.ref d) H'
theorem Kq(F:eD K "_law_due" "_law_due" AY f fd) (T:gG K mg)(zCless:dq P w K mg base "_law_less" ["_law_one", "_law_other"] 1 (uS K)):bj P w K mg base eP 2 f fd ["_law_factors_here"] (Ai K):=by
 have scN:=FV.nd;refine F.okQ FV (λvs H Q E h=>?_) (λcdv A outer s H vs Q E hr h=>?_)
 .obtain⟨_,_,_,_,rfl,_⟩:=h;rfl
 .obtain⟨p,t,v,its,rfl,hp,ht,ok,ln,h⟩:=h;refine⟨_,(ag (au (i:=1) scN rfl (·) (a7 ae))
   (ag (cS PassesOwn.never rfl (cg (aG dS (qv 0) af (λ_ _=>rfl))) (fS (n:=3) rfl (aS (aw (i:=2) scN rfl (·)) (aS (aw (i:=3) scN rfl (·)) (aS (aw (i:=4) scN rfl (·)) fR)))) (aj (cQ (QW.pt (kx (aH gk (qv 2) eJ (aM _)) (iX (aH (yG hr.u64) (qv 3) (qv 1) (by rfl))))) (aj (gW (qe XU PySem.F.slot_list_insert PySem.F.type_list_insert uK (qv 1) (aa (ar aU (by rfl) T.b_len cx (aa (dX (own:=["_law_other"]) (outs:=["_law_number"]) (ixs:=[3]) rfl (cg (qv 1)) rfl ⟨rfl,rfl,rfl,⟨rfl,trivial⟩,rfl,⟨⟨rfl,rfl,rfl,_,rfl⟩,trivial⟩⟩ (λ_ _ _ _=>⟨(aw (i:=0) (show (["_law_other", "_law_number"]:List Str).Nodup by decide +kernel) rfl (·)),(oh (ki (av zCless nofun rfl (aa (qv 0) (aa (qv 1) ae))))),(qv 0)⟩)) ae)) (aa (qv 3) ae))))) a8)))
   (aj (aB (qv 1))))),?_⟩
  walk_at"m";skip
  refine aR.gen λN1 hN1=>?_;symm
  refine⟨∅,λd H1 hd S1 h1=>hN1 _ _ ?_⟩;refine aR.gen λN2 hN2=>?_;symm
  obtain⟨ts,hts,rts⟩:=id ht;refine⟨_,S1 _ _ hp,_,ji,t,rfl,⟨_,.of (aE (S1 _ _ hts))⟩,?_⟩;have ndp:∀{b:Addr}{o:HO},vw K H b=some o->b≠d:=λe=>ah e hd;obtain⟨Pv,hPv⟩ : ∃Pv:Nat->St->Hp->Prop,∀i σ H',Pv i σ H' ↔ ∃(o2 o3 o4:Option V)(ms:List (Int×Int)),σ=[some (.ref p),some (.ref d),o2,o3,o4]/\ax (vw K H) (vw K H')/\dB (vw K H') d ms/\uR ms (zr (its.take i))/\ms.length<=i:=⟨_,λ_ _ _=>XI⟩;refine aZ (its:=ts) Pv (λi σ H' _ z=>?_) ((hPv _ _ _).mpr ⟨_,_,_,[],rfl,S1,⟨[],h1,.mk_nil⟩,⟨by simp,by simp,λy=>by simp[zr]⟩,by simp⟩) (λi x σ H2 hi hx pv=>?_) (λσ H2 pv=>?_)
  .obtain⟨_,_,_,_,_,S',_⟩:=(hPv _ _ _).mp z;exact aP (S' _ _ hts)
  .obtain⟨o2,o3,o4,ms,rfl,S2,ld,mk,lm⟩:=(hPv _ _ _).mp pv;have hi':i<its.length:=by rw[<-YD (f:=oN),<-rts.length];exact hi
   obtain⟨c,hc⟩ : ∃c,its[i]? = some c:=⟨_,YN hi'⟩;obtain⟨x',ex,rx⟩:=rts.at (i:=i) (d:=oN c) (by rw[YA,hc];rfl)
   rw[hx] at ex;cases ex;obtain⟨⟨hk,fn,bn,hns,_⟩,b100⟩:=ok _ (YB hc);have tk:its.take (i+1)=its.take i++[c]:=by rw[XS,hc];rfl
   obtain⟨kd,nb,mn,b⟩:=c;obtain⟨xa,us,rfl,hxa,rus⟩:=aO.tup_at (aO.same S2 _ _ rx);obtain⟨u1,us1,rfl,ru1,rus1⟩:=rus.cons_at;obtain⟨u2,us2,rfl,ru2,rus2⟩:=rus1.cons_at;obtain⟨u3,us3,rfl,ru3,rus3⟩:=rus2.cons_at;cases rus3.nil_at;have:u1=.str (kS kd):=by
    unfold aO at ru1;exact ru1
   subst this;have bn':Bq 300 nb:=bn.mono (Yg b100 ∅);refine⟨_,rfl,_,hxa,rfl,_,_,rfl,_,_,rfl,_,_,rfl,rfl,?_⟩;have hk2:kd=0\/kd=1\/kd=2:=by
    have:kd<=2:=hk;nofun
   have kline:kS kd=Str.ofString "line" ↔ kd=0:=by
    rcases hk2 with rfl|rfl|rfl
    .exact⟨λ_=>rfl,λ_=>rfl⟩
    .exact⟨λz=>absurd z ∅,λz=>by cases z⟩
    .exact⟨λz=>absurd z ∅,λz=>by cases z⟩
   obtain⟨xs,hxs,rxs⟩:=id ld;symm
   refine⟨rfl,cO (λz=>?_) (λz=>?_)⟩
   .have k0:=kline.mp z;subst k0;have et:zr (its.take (i+1))=zr (its.take i)++[wv nb]:=by rw[tk,ud];rfl
    simp only[JE];refine⟨_,_,ru2,ld.rep,vq nb,C9 ms,!decide (nb∈ms),by rw[Yb trivial,wD],cO (λz=>?_) (λz=>?_)⟩
    .have nr:nb∉ms:=by simpa using z
     refine⟨lE hxs,⟨_,.of (aE hxs)⟩,λa6 H6 ha6 S6 h6=>?_⟩;have lxs:xs.length=ms.length:=by rw[rxs.length,YD]
     refine aW (its:=xs) (λk zs H'=>ax (vw K H2) (vw K H')/\zs.length=gJ (ms.take k) (wv nb)) (λk zs H' _ _ w=>aP (w.1 _ _ hxs)) h6 ⟨S6,rfl⟩ (λk x zs H' hk hx h' w=>?_) (λzs H7 h7 w=>?_)
     .obtain⟨w1,w2⟩:=w;have hk':k<ms.length:=();obtain⟨x',ex,rx'⟩:=rxs.at (i:=k) (d:=fr ms[k]) (by rw[YA,YN hk'];rfl)
      rw[hx] at ex;cases ex;have bm:=(mk.1 _ (YM hk')).2;have fm:=(mk.1 _ (YM hk')).1;have et':ms.take (k+1)=ms.take k++[ms[k]]:=by rw[XS,YN hk'];rfl
      have zl:zs.length<=k:=by
       rw[w2];refine Yg (List.length_filter_le _ _) ?_;rw[Yw];nofun
      symm
      simp only[uS];refine⟨_,_,ms[k],nb,rfl,aO.same w1 _ _ rx',aO.same w1 _ _ ru2,bm.mono ∅,bn'.mono ∅,_,rfl,cO (λy=>.mk h' ?_ λH8 B8 h8=>⟨λb o e=>B8 _ _ (ah e ha6) (w1 _ _ e),?_⟩) (λy=>.mk h' ⟨w1,?_⟩)⟩
      .have:1000<=sizeLine:=∅;nofun
      .rw[zI fm fn] at y;rw[et',ow,Yb (by simpa using y),YC,w2]
       rfl
      .rw[zI fm fn] at y;rw[et',ow,Yc (by simpa using y),w2]
       rfl
     .obtain⟨w1,w2⟩:=w;rw[List.take_of_length_le ()] at w2;have zl:gJ ms (wv nb)<=ms.length:=List.length_filter_le _ _;refine⟨zs.length,by simp only[ig,h7],?_⟩
      simp only[FE];refine⟨d,_,_,rfl,rfl,xs,w1 _ _ hxs,?_,(),by rw[YE];nofun,λH8 B8 h8=>?_⟩
      .have:1000<=sizeLine:=∅;nofun
      rw[YE,w2] at h8;have hx7:=w1 _ _ hxs;refine (hPv _ _ _).mpr ⟨_,_,_,ms.take (gJ ms (wv nb))++nb::ms.drop (gJ ms (wv nb)),rfl,λb o e=>B8 _ _ (ndp e) (w1 _ _ (S2 _ _ e)),⟨_,h8,?_⟩,by rw[et];exact mk.ins fn bn' nr,by rw[YC,Y6,Yw,List.length_drop];nofun⟩
      have r8:=aA.flat_but hx7 B8 _ _ (jJ _) (rxs.same w1);have y8:=aO.flat_but hx7 B8 _ _ (fh _) (aO.same w1 _ _ ru2);unfold J8;rw[XR,YG,List.map_take,List.map_drop];exact (r8.take _).app (.mk_cons y8 (r8.drop _))
    .have yr:nb∈ms:=by simpa using z
     exact (hPv _ _ _).mpr ⟨_,_,_,ms,rfl,S2,ld,by rw[et];exact mk.has yr,()⟩
   .have kn:kd≠0:=λy=>z (kline.mpr y);have et:zr (its.take (i+1))=zr (its.take i):=by
     rw[tk,ud];show _++(if kd=0 then _ else [])=_
     rw[Yc kn,Yv]
    exact (hPv _ _ _).mpr ⟨_,_,_,ms,rfl,S2,ld,by rw[et];exact mk,()⟩
  .obtain⟨o2,o3,o4,ms,rfl,S2,ld,mk,lm⟩:=(hPv _ _ _).mp pv;have e1:its.take ts.length=its:=List.take_of_length_le (by rw[rts.length,YD];nofun)
   rw[e1] at mk;refine hN2 _ _ ?_;symm
   exact h d H2 ms S2 hd ld (λq hq=>(mk.1 q hq).1) mk.2.1 mk.2.2 (by have:=rts.length;rw[YD] at this;nofun)
def gS(n:Nat)(K:W.Frag):Sp:=λvs H Q _=>∃x y d,vs=[x,y]/\aO (vw K H) d x/\aO (vw K H) d y/\d.sm n=true /\ ∀H',ax (vw K H) (vw K H')->Q (.bl true) H'
theorem Hq{n:Nat}(F:eD K "_law_same" "_law_same" jy f fd) (T:gG K mg)(zCsame:dq P w K mg base "_law_same" ["_law_found", "_law_due_here"] (n+1) (gS n K)):bj P w K mg base eP (n+2) f fd ["_law_found", "_law_due_here"] (gS (n+1) K):=by
 have scN:=uD.nd;refine F.okQ uD (λvs H Q E h=>?_) (λcdv A outer s H vs Q E hr h=>?_)
 .obtain⟨a,_,_,rfl,_⟩:=h;rfl
 .obtain⟨x,y,d,rfl,hx,hy,hd,h⟩:=h;refine⟨_,(ag (cQ (ki (ar oZ (by rfl) T.b_isinstance aD (aa (qv 1) (aa (aL (aa (fV (v:=V.ty "tuple") rfl T.b_tuple mP rfl) (aa (fV (v:=V.ty "list") rfl T.b_list j8 rfl) ae))) ae)))) (ag (cQ (QW.pt (Ka (aH jO (ar dN (by rfl) T.b_isinstance aD (aa (qv 0) (aa (fV (v:=V.ty "tuple") rfl T.b_tuple mP rfl) ae))) (ar dN (by rfl) T.b_isinstance aD (aa (qv 1) (aa (fV (v:=V.ty "tuple") rfl T.b_tuple mP rfl) ae))) (aM _)) (F6 (aH jO (ar dN (by rfl) T.b_isinstance aD (aa (qv 0) (aa (fV (v:=V.ty "list") rfl T.b_list j8 rfl) ae))) (ar dN (by rfl) T.b_isinstance aD (aa (qv 1) (aa (fV (v:=V.ty "list") rfl T.b_list j8 rfl) ae))) (aM _))))) (aj (aB je)) a8)
   (ag (cQ (aH jO (ar aU (by rfl) T.b_len cx (aa (qv 0) ae)) (ar aU (by rfl) T.b_len cx (aa (qv 1) ae)) (aM _)) (aj (aB je)) a8)
   (aj (aB (ar (x9 rfl) (by rfl) T.b_all GD (aa (dX (own:=["_law_one", "_law_other"]) (outs:=[]) (ixs:=[]) rfl (IL rfl T.b_zip (aa (qv 0) (aa (qv 1) ae))) rfl ⟨rfl,rfl,rfl,trivial,rfl,trivial⟩ (λ_ _ _ _=>⟨(show QG _ _ (lN K 2 _) from fS (n:=2) rfl (aS (aw (i:=0) (show (["_law_one", "_law_other"]:List Str).Nodup by decide +kernel) rfl (·)) (aS (aw (i:=1) (show (["_law_one", "_law_other"]:List Str).Nodup by decide +kernel) rfl (·)) fR))),eU,(av zCsame nofun rfl (aa (qv 0) (aa (qv 1) ae)))⟩)) ae)))))) a8)
   (aj (aB (GB (jG gk (qv 0) (qv 1) (aM _)) (Gn (jG gk (ar dN (by rfl) T.b_isinstance aD (aa (qv 0) (aa (fV (v:=V.ty "bool") rfl T.b_bool xO rfl) ae))) (ar dN (by rfl) T.b_isinstance aD (aa (qv 1) (aa (fV (v:=V.ty "bool") rfl T.b_bool xO rfl) ae))) (aM _))))))),?_⟩
  walk_at"m";have tx:=aO.ty hx;have ty:=aO.ty hy;walk_at"vc*";refine⟨∅,λp0 H1 hp0 S1 h1=>?_⟩;have hx1:=aO.same S1 _ _ hx;have hy1:=aO.same S1 _ _ hy;have tx1:=aO.ty hx1;have ty1:=aO.ty hy1;refine⟨d.ty,p0,rfl,h1,ty1,?_⟩;have seq:∀(b:Bool)(ds:List D)(p q:Addr)(xs ys:List V),mT K b H1 p xs->mT K b H1 q ys->aA (vw K H1) ds xs->aA (vw K H1) ds ys->ds.length<=1000->ds.all (D.sm n)=true ->
    Di K (lT (vb 0) (lT (vb 1) yM)) [some (.ref p),some (.ref q)] H1 λJ H1=>∀(a:Addr)(H2:Hp),vw K H1 a=none->ax (vw K H1) (vw K H2)->vw K H2 a=some (HO.lst []) ->
     kG K J (lN K 2 (jm (gn 0) (jm (gn 1) vj))) ED (A9 (gS n K) (lT (vb 0) (lT (vb 1) yM))) a [none,none] H2 λH1=>∃bs,vw K H1 a=some (HO.lst (List.map V.bl bs))/\Q (V.bl (bs.all id)) H1:=by
   intro b ds p q xs ys sp sq rx ry hl hs;simp only[Di];symm
   refine⟨b,⟨xs,sp⟩,b,⟨ys,sq⟩,λc H2 hc S2 h2=>?_⟩;have lx:=rx.length;have ly:=ry.length;refine yv (ps:=xs.zip ys) (λi zs H'=>ax (vw K H1) (vw K H')/\zs=List.replicate i (V.bl true)) (λi zs H' _ _ pv=>⟨xs,ys,pv.1 _ _ sp,pv.1 _ _ sq,CM.symm⟩) h2 ⟨S2,rfl⟩ (λi u v zs H3 H4 hi huv h4 pv S4=>?_) (λzs H3 h3 pv=>?_)
   .obtain⟨S3,rfl⟩:=pv;obtain⟨d',hd',r1,r2⟩:=IJ rx ry huv;have S14:=S3.trans S4;symm
    simp only[gS];symm
    refine⟨d',aO.same S14 _ _ r1,aO.same S14 _ _ r2,List.all_eq_true.mp hs d' hd',λH5 S5=>.mk2 (S5 _ _ h4) ?_ λH6 B6 h6=>⟨λa o e=>B6 _ _ (ah e hc) (S5 _ _ (S14 _ _ e)),?_⟩⟩
    .rw[List.length_replicate];have:1000<=sizeLine:=∅;simp at hi;nofun
    .rw[<-List.replicate_succ',YH]
   .obtain⟨S3,rfl⟩:=pv;refine⟨List.replicate (xs.zip ys).length true,?_,?_⟩
    .rw[List.map_replicate];exact h3
    .have e:(List.replicate (xs.zip ys).length true).all id=true:=by simp
     rw[e];exact h _ (S1.trans S3)
  cases d with
  | tup ds =>
   obtain⟨p,xs,rfl,hp,rx⟩:=hx1.tup_at;obtain⟨q,ys,rfl,hq,ry⟩:=hy1.tup_at;have hsm:(decide (ds.length<=1000) && ds.all (D.sm n))=true:=hd;rw[YZ] at hsm;have e:xs.length=ys.length:=by rw[rx.length,ry.length]
   exact DZ (by simp[D.ty,jh]) ⟨_,tx1,_,ty1,oM (λz=>z rfl) ⟨_,tx1,_,ty1,oM (λz=>z rfl) ⟨p,rfl,xs.length,by simp only[ig,hp],q,rfl,ys.length,by simp only[ig,hq],oM (λz=>z (by rw[e])) (seq false ds p q xs ys hp hq rx ry (Xz hsm.1) hsm.2)⟩⟩⟩
  | lst ds =>
   obtain⟨p,xs,rfl,hp,rx⟩:=hx1.lst_at;obtain⟨q,ys,rfl,hq,ry⟩:=hy1.lst_at;have hsm:(decide (ds.length<=1000) && ds.all (D.sm n))=true:=hd;rw[YZ] at hsm;have e:xs.length=ys.length:=by rw[rx.length,ry.length]
   exact DZ (by simp[D.ty,jh]) ⟨_,tx1,_,ty1,oM (λz=>z rfl) ⟨_,tx1,_,ty1,oM (λz=>z rfl) ⟨p,rfl,xs.length,by simp only[ig,hp],q,rfl,ys.length,by simp only[ig,hq],oM (λz=>z (by rw[e])) (seq true ds p q xs ys hp hq rx ry (Xz hsm.1) hsm.2)⟩⟩⟩
  | dict=>cases hd
  | _ =>
   unfold aO at hx1 hy1;subst hx1 hy1;refine oM (by simp[D.ty,jh]) ⟨rfl,DZ rfl ⟨_,tx1,_,ty1,?_⟩⟩
   have:=h H1 S1;simpa using this
theorem jf(F:eD K "_law_same" "_law_same" jy f fd) (T:gG K mg)(hm:mg "_law_same" = some (.ref f)) (hk:keepIn K (.ref f)=true)(hb:ja K fd ["_law_found", "_law_due_here"] []) :
  ∀n,dq P w K mg base "_law_same" ["_law_found", "_law_due_here"] (n+1) (gS n K)
 | 0=>⟨f,fd,F.okQ uD (λvs H Q E h=>by obtain⟨_,_,d,_,_,_,z,_⟩:=h;cases d<;>cases z) (λcdv A outer s H vs Q E hr h=>by obtain⟨_,_,d,_,_,_,z,_⟩:=h;cases d<;>cases z),hm,hk,hb⟩
 | n+1=>⟨f,fd,Hq F T (jf F T hm hk hb n),hm,hk,hb⟩
theorem yK{X:Cx}{sts:List Stmt}:uv X sts oH:=⟨yA⟩
def dI(C:Addr)(K:W.Frag):Sp:=λvs H _ E=>∃(a:Addr),vs=[.ref a]/\vw K H a=some (.lst []) /\ ∀H',ax (vw K H) (vw K H')->E (.ref C) none H'
theorem jw{C:Addr}(F:eD K "fraction_roots" "fraction_roots" c9 f fd) (T:gG K mg)(zx_NoPolynomial:tu K C)(hgx_NoPolynomial:mg "NoPolynomial" = some (.ref C)) (C_refuse_nought:dq P w K mg base "refuse_nought" ["f"] 1 (di K)) (C_counting_chain:dq P w K mg base "counting_chain" ["f"] 5 (cU K)) (C_root_bound:dq P w K mg base "root_bound" ["wholes"] 1 (fj K)) (C_least_modulus:dq P w K mg base "least_modulus" ["wholes"] 3 (dj K)) (C_left_over:dq P w K mg base "left_over" ["wholes", "x", "modulus"] 1 (bC K)) (C_refined:dq P w K mg base "refined" ["wholes", "x", "modulus", "reach"] 2 (jo K)) (C_wholes_at:dq P w K mg base "wholes_at" ["wholes", "top", "bottom"] 1 (fW K)) (C_sign_of:dq P w K mg base "sign_of" ["whole"] 1 (eZ K)) (C_ratio:dq P w K mg base "ratio" ["top", "bottom"] 2 (jV K))
  (CX_refuse_nought:Dn P w K mg base "refuse_nought" ["f"] 1 (dQ C K)):bj P w K mg base (lj P w) 6 f fd ["f"] (dI C K):=by
 have scN:=cT.nd;refine F.okX cT (λvs H Q E h=>?_) (λcdv A outer s H vs Q E hr h=>?_)
 .obtain⟨_,rfl,_⟩:=h;rfl
 .obtain⟨a,rfl,ha,h⟩:=h;refine⟨_,(ag (As (Am CX_refuse_nought (hr.mono ∅) rfl (λ_=>(aa (qv 0) ae))))
   yK),?_⟩
  walk_at"m";refine aR.gen λN1 hN1=>?_;simp only[FM,BQ];symm
  simp only[dQ];exact⟨a,rfl,ha,h⟩
theorem BP{fs:List (Int×Int)}{its:List iu}{q:Int×Int}(ok:∀c∈its,qP c)(dg:(its.map nN).sum<=10)(bt:(its.map Fo).sum<=97)(ln:its.length<=5)(len:fs.length=cF (its.map uu)+1)(ev:∀x,EV (cf fs) x=wv q*iD (its.map uu) x):∃l,Ii fs l /\ ∀r,(∃q∈l,q.1=.line r)↔r∈zr its:=by
 obtain⟨l,okl,unl,el,dgl,ml,ll,al,lbl,ale⟩:=pT (its.map λc=>(uu c,c.2.2.2)) λx hx=>by
  obtain⟨c,hc,rfl⟩:=List.mem_map.mp hx;obtain⟨k1,kf,kb,k4,k5,_⟩:=ok c hc;refine⟨?_,k5,c.2.1,?_,kf,kb⟩
  .show (fc c).ok;unfold fc;split
   .trivial
   .split
    .exact zS (k4 (by assumption))
    .exact (zS (k4 (by assumption))).1
  .show (fc c).num=wv c.2.1;unfold fc;split
   .rfl
   .split<;>rfl
 have em:(its.map λc=>(uu c,c.2.2.2)).map (·.1)=its.map uu:=by rw[List.map_map];rfl
 have es:(its.map λc=>(uu c,c.2.2.2)).map (λx:(aJ×Nat)×Nat=>x.2+2)=its.map Fo:=by rw[List.map_map];rfl
 rw[em] at el dgl ml;rw[es] at ale;rw[YD] at ll;have d3:=m5 its;have nu:∀q∈l,∃(ν:Int×Int)(b:Nat),q.1.num=wv ν/\Fq ν/\Bq b ν/\b<=100:=λq hq=>by
  obtain⟨ν,b,e1,e2,e3,e4⟩:=lbl.nu q hq;exact⟨ν,b,e1,e2,e3,()⟩
 refine⟨l,⟨okl,unl,(),(),⟨wv q,λx=>by rw[ev,el]⟩,(),⟨al,lbl,()⟩,Du nu⟩,λr=>?_⟩
 have lin:∀c:iu,fc c=.line r↔c.1=0/\wv c.2.1=r:=λc=>by
  unfold fc;by_cases z:c.1=0
  .rw[Yb z];exact⟨λe=>⟨z,by injection e⟩,λe=>by rw[e.2]⟩
  .rw[Yc z];refine⟨λe=>?_,λe=>absurd e.1 z⟩;split at e<;>cases e
 have a:(∃q∈l,q.1=.line r) ↔ ∃m,(aJ.line r,m)∈l:=⟨λ⟨q,hq,e⟩=>⟨q.2,by rw[<-e];exact hq⟩,λ⟨m,hm⟩=>⟨_,hm,rfl⟩⟩
 rw[a,ml];unfold zr;rw[List.mem_flatMap];refine⟨λ⟨m,hm⟩=>?_,λ⟨c,hc,hr⟩=>?_⟩
 .obtain⟨c,hc,e⟩:=List.mem_map.mp hm;have e1:fc c=.line r:=Yn Prod.fst e;obtain⟨z,w⟩:=(lin c).mp e1;exact⟨c,hc,by rw[Yb z,w];exact Yi⟩
 .by_cases z:c.1=0
  .rw[Yb z] at hr;exact⟨_,List.mem_map.mpr ⟨c,hc,show uu c=(aJ.line r,(uu c).2) from Prod.ext ((lin c).mpr ⟨z,(List.mem_singleton.mp hr).symm⟩) rfl⟩⟩
  .rw[Yc z] at hr;cases hr
theorem xT{G G':Hp}{Pt st:Addr}{qual:Str}(h:cN G Pt qual)(hst:gi G st)(B:gd st G G'):cN G' Pt qual:=by
 obtain⟨x,b,e,z⟩:=hst;exact h.butL e B
def oT(G:Hp)(z:V)(its:List iu)(q:Int×Int):Prop:=∃(p t:Addr)(v:V),z=.ref p/\G p=some (.tup [.ref t,v])/\gu G t (its.map oN)/\aO G (fr q) v/\Fq q/\q.1≠0/\Bq 6 q/\(∀c∈its,qP c)/\(its.map nN).sum<=10/\(its.map uw).sum<=211/\(its.map Fo).sum<=97/\its.length<=5
theorem zE:∀(cs:List iu),PyData.canLayAll0 (D.pys (cs.map oN))=true/\PyData.depthAll (D.pys (cs.map oN))<=5
 | []=>⟨rfl,by simp[D.pys,PyData.depthAll]⟩
 | (k,q,m,b)::cs=>by
  obtain⟨h1,h2⟩:=zE cs;have hk:kS k = "line" \/ kS k = "root" \/ kS k = "none":=by
   unfold kS;split
   .exact .inl rfl
   .exact .inr (.inl rfl)
   .exact .inr (.inr rfl)
  simp only[YG,oN,fr];rcases hk with e|e|e
  all_goals
   rw[e];simp only[D.pys,D.py,PyData.canLayAll0,PyData.canLay0,h1,PyData.depthAll,PyData.depth];refine⟨by decide +kernel,?_⟩
   nofun
def KI(its:List iu)(q:Int×Int):D:=.tup [.lst (its.map oN),fr q]
theorem wl(its:List iu)(q:Int×Int):(KI its q).cmp:=by
 obtain⟨h1,h2⟩:=zE its;unfold D.cmp KI fr;simp only[D.py,D.pys,PyData.canLay0,PyData.canLayAll0,h1,PyData.depth,PyData.depthAll];refine⟨∅,?_⟩;nofun
theorem oT.rep{G:Hp}{z:V}{its:List iu}{q:Int×Int}(h:oT G z its q):aO G (KI its q) z:=by
 obtain⟨p,t,v,rfl,hp,ht,rv,_⟩:=h;exact .mk_tup hp (.mk_cons ht.rep (.mk_cons rv .mk_nil))
theorem oT.same{G G':Hp}{z:V}{its:List iu}{q:Int×Int}(h:oT G z its q)(S:ax G G'):oT G' z its q:=by
 obtain⟨p,t,v,e,a,b,c,d⟩:=h;exact⟨p,t,v,e,S _ _ a,b.same S,aO.same S _ _ c,d⟩
def spLaw(K:W.Frag):Sp:=λvs H Q _=>∃(a:Addr)(ns:List Int),vs=[.ref a]/\jl K H a (ns.map V.int)/\ns.length<=63/\cN (vw K H) 370 (yD "law") /\ ∀H',Q (.bl true) H'
theorem Gd{c CF:Addr}(F:eD K "law" "law" gB f fd) (T:gG K mg)(M_:K5 K mg base fd c 370)(R_:w6 P w K mg base 8)(Z_:zn K mg CF 1)
  (zCstate:dq P w K mg base "_law_state" ["_law_script", "_law_k"] 2 (sj K)) (zCfactors:dq P w K mg base "_law_factors" ["_law_state_here", "_law_most"] 4 (kU K)) (zClow:dq P w K mg base "_law_low" ["_law_top", "_law_bottom"] 2 (jM K)) (zCtake:dq P w K mg base "_law_take" ["_law_state_here", "_law_many"] 1 (ju K)) (zCof_factors:dq P w K mg base "_law_of_factors" ["_law_factors_here"] 5 (gQ K)) (zCdue:dq P w K mg base "_law_due" ["_law_factors_here"] 2 (Ai K)) (zCsame:dq P w K mg base "_law_same" ["_law_found", "_law_due_here"] 6 (gS 5 K)) (C_fraction_roots:dq P w K mg base "fraction_roots" ["f"] 6 (cV K)) (CX_fraction_roots:Dn P w K mg base "fraction_roots" ["f"] 6 (dI CF K)):bj P w K mg base eP 10 f fd ["_law_script"] (spLaw K):=by
 have scN:=CI.nd;refine F.okM CI (λvs H Q E h=>?_) (λcdv A outer s H vs Q E hcode hr h=>?_)
 .obtain⟨a,_,rfl,_⟩:=h;rfl
 .obtain⟨a,ns,rfl,hS,hl,hT1,h⟩:=h;refine⟨_,(DR (cS PassesOwn.never rfl (ck rfl T.b_range (aa (ar (kP rfl) (by rfl) T.b_max u4 (aa af (aa (ar (pJ rfl) (by rfl) T.b_min Bx (aa (ar gY (by rfl) T.b_len cx (aa (qv 0) ae)) (aa af ae))) ae))) ae)) (aw (i:=1) scN rfl (·)) (ag (au (i:=2) scN rfl (·) (av zCstate nofun rfl (aa (qv 0) (aa (qv 1) ae))))
   (ag (au (i:=3) scN rfl (·) (av zCfactors nofun rfl (aa (qv 2) (aa af ae))))
   (ag (gX (i:=4) (own:=["_law_turn"]) (outs:=["_law_state_here"]) (ixs:=[2]) scN rfl (·) rfl (ck rfl T.b_range (aa af ae)) rfl ⟨rfl,rfl,rfl,⟨rfl,trivial⟩,rfl,⟨⟨rfl,rfl,rfl,_,rfl⟩,trivial⟩⟩ (λ_ _ _ _=>⟨(aw (i:=0) (show (["_law_turn", "_law_state_here"]:List Str).Nodup by decide +kernel) rfl (·)),eU,(show QE _ _ (wY K _) from aL (aa eJ (aa (av zClow nofun rfl (aa (ao cz (av zCtake nofun rfl (aa (qv 1) (aa af ae))) af) (aa (ao (show fi _ _ (jk K) from bK) af (av zCtake nofun rfl (aa (qv 1) (aa af ae)))) ae))) (aa af ae))))⟩))
   (aj (cS PassesOwn.never rfl (cg (a7 (aa (qv 3) (aa (aL (aa (ao bK (aG dS (qv 3) af (λ_ _=>rfl)) (qv 4)) (aa (aG dS (qv 3) af (λ_ _=>rfl)) ae))) (aa (aL (aa (a7 ae) (aa (aG dS (qv 3) af (λ_ _=>rfl)) ae))) ae))))) (aw (i:=5) scN rfl (·)) (ag (au (i:=6) scN rfl (·) (av zCof_factors nofun rfl (aa (qv 5) ae)))
   (ag (au (i:=7) scN rfl (·) (av zCdue nofun rfl (aa (qv 5) ae)))
   (ag (au (i:=8) scN rfl (·) (av C_fraction_roots nofun rfl (aa (qv 6) ae)))
   (ag (cQ (lK (ki (av zCsame nofun rfl (aa (qv 8) (aa (qv 7) ae))))) (aj (aB je)) a8)
   (ag (gW (qe XU XV XW gj (qv 8) (aa (aL (aa af (aa af ae))) ae)))
   (aj (cQ (QW.pt (kx (aH (qH hr.u64) (qv 5) (qv 3) (aM _)) (iX (lK (ki (av zCsame nofun rfl (aa (av C_fraction_roots nofun rfl (aa (qv 6) ae)) (aa (qv 7) ae)))))))) (aj (aB je)) a8)))))))))))))
   (aj (aB (jG (qH hr.u64) (EB (Nl:=[]) (ixs:=[]) (kl:=7) R_ (BK hcode M_) nofun rfl Z_ ∅ (λ_=>rfl) rfl (Ex (sc:=ak gB) rfl (by decide +kernel)) rfl (zh (by decide +kernel)) ⟨rfl,rfl⟩ (λ_ _ _ _=>rfl) rfl (λj x hx=>by rcases j with j<;>first|(cases hx;exact⟨rfl,_,rfl,rfl⟩)|cases hx) (λ_ _ _ _ _ _ _ hrl=>Am CX_fraction_roots (hrl.mono ∅) rfl (λ_=>(aa (show QE _ _ (xG K _) from a7 ae) ae)))) (a7 (aa af ae)) (aM _))))),?_⟩
  walk_at"m";obtain⟨X1,hX1⟩ : ∃X1,fw eP P w K mg base ["_law_script", "_law_k", "_law_state_here", "_law_factors_here", "_law_more", "_law_some", "_law_f", "_law_due_here", "_law_found"] "law" (ak gB) f cdv A outer s H E=X1:=⟨_,rfl⟩;have hq:jv X1.nox=yD "law":=by rw[<-hX1];rfl
  skip
  refine Bl.mk (λσ H2=>∃o1 o2 o3 o4 o5 o6 o7 o8,σ=[some (.ref a),o1,o2,o3,o4,o5,o6,o7,o8]/\cN (vw K H2) 370 (yD "law")) ?_ ?_
  .symm
   refine⟨_,.inl hS.sq,?_⟩;simp only[YD];obtain⟨Pv,hPv⟩ : ∃Pv:Nat->St->Hp->Prop,∀k σ H',Pv k σ H' ↔ ∃o1 o2 o3 o4 o5 o6 o7 o8,σ=[some (.ref a),o1,o2,o3,o4,o5,o6,o7,o8]/\vG (vw K H) (vw K H')/\cN (vw K H') 370 (yD "law"):=⟨_,λ_ _ _=>XI⟩;refine⟨by repeat' split<;>nofun,by repeat' split<;>nofun,aZ (its:=dy 0 _) Pv (λ_ _ _ _ _=>aX) ((hPv _ _ _).mpr ⟨_,_,_,_,_,_,_,_,rfl,.rfl,hT1⟩) (λi x σ H1 hi hx pv=>?_) (λσ H1 pv=>?_)⟩
   .obtain⟨o1,o2,o3,o4,o5,o6,o7,o8,rfl,s1,T1⟩:=(hPv _ _ _).mp pv;obtain⟨hi',rfl⟩:=d5 hx;refine aR.gen λN1 hN1=>?_;symm
    simp only[sj];symm
    refine⟨⟨i,by simp⟩,⟨ns,hS.smT s1⟩,λst H2 hst0 s2 st2=>hN1 _ _ ?_⟩
    refine aR.gen λN2 hN2=>?_;symm
    simp only[kU];refine⟨st,rfl,st2,λp3 t3 v3 H3 its3 q3 B3 st3 h3 l3 nt3 r3 f3 q30 bq3 ok3 dg3 cs3 bt3 ln3 fs3=>hN2 _ _ ?_⟩;have FT3:oT (vw K H3) (.ref p3) its3 q3:=⟨p3,t3,v3,rfl,h3,l3,r3,f3,q30,bq3,ok3,(),(),(),()⟩;have T3:cN (vw K H3) 370 (yD "law"):=xT (T1.same s2) st2 B3;have s13:vG (vw K H1) (vw K H3):=vG.of λb o e=>B3 _ _ (ah e hst0) (s2 _ _ e);clear hN1 hN2;refine aR.gen λN3 hN3=>?_;symm
    obtain⟨Cs,hCs⟩ : ∃Cs:List iu->Prop,∀cs,Cs cs ↔ ∀c∈cs,c.1=0/\Fq c.2.1/\Bq 5 c.2.1/\c.2.2=(1,5):=⟨_,λ_=>XI⟩;refine⟨∅,∅,λe H4 he S4 h4=>?_⟩;refine aW (its:=dy 0 (Int.toNat 2)) (λk zs H'=>gd st (vw K H3) (vw K H')/\gi (vw K H') st /\ ∃cs:List iu,cs.length=k/\aA (vw K H') (cs.map oN) zs/\Cs cs) (λ_ _ _ _ _ _=>aX) h4 ⟨S4.but st,st3.same S4,[],rfl,.mk_nil,(hCs _).mpr (by simp)⟩ (λk y zs H' hk hy h' z=>?_) (λzs H5 h5 z=>?_)
    .obtain⟨B',st',cs,lc,rc,oc⟩:=z;symm
     simp only[ju];refine⟨st,41,rfl,st',∅,∅,λr1 G1 r10 r11 B1 stG1=>?_⟩;refine⟨r1,rfl,st,7,rfl,stG1,∅,∅,λr2 G2 r20 r21 B2 stG2=>?_⟩;simp only[jM];have hz:1+r2≠0:=();refine .inl ⟨1,r2,rfl,rfl,_,_,rfl,hz,Yd (show (1+r2).natAbs<2^5 by nofun) (YV ∅ ∅),λv G3 S3 r3=>⟨∅,λpt G4 hpt S5 h5=>?_⟩⟩
     have nes:e≠st:=st3.ne he;have BB:gd st (vw K H') (vw K G4):=B1.trans (B2.trans ((S3.trans S5).but st));obtain⟨_,_,z',_⟩:=id st';refine .mk (BB _ _ nes h') ?_ λH7 B7 h7=>⟨λb o nb x=>B7 _ _ (ah x he) (BB _ _ nb (B' b o nb x)),(stG2.same (S3.trans S5)).but (BB _ _ nes h') nes.symm B7,cs++[(0,lo (r1-20) (1+r2),1,5)],by rw[YC,lc];rfl,?_,?_⟩
     .have:=rc.length;rw[YD] at this;have:1000<=sizeLine:=∅;have hk:k<2:=by simpa [dy] using hk
      nofun
     .have h4':=BB _ _ nes h';have r4:=aA.flat_but z' BB _ _ (cX cs) rc;have ri:aO (vw K G4) (oN (0,lo (r1-20) (1+r2),1,5)) (.ref pt):=.mk_tup h5 (.mk_cons (.mk_str _) (.mk_cons (aO.same S5 _ _ r3) (.mk_cons (.mk_int _) .mk_nil)));rw[XR];exact (aA.flat_but h4' B7 _ _ (cX cs) r4).snoc (aO.flat_but h4' B7 _ _ (by simp[oN,D.flat,D.flats,fr]) ri)
     .refine (hCs _).mpr λc hc=>?_;rcases List.mem_append.mp hc with q|q
      .exact (hCs _).mp oc c q
      .rw[List.mem_singleton.mp q];exact⟨rfl,lQ hz,sN hz (by unfold Bt;nofun) (by unfold Bt;nofun),rfl⟩
    .obtain⟨B',st',cs,lc,rc,oc⟩:=z;refine hN3 _ _ ?_;clear hN3;have lc2:cs.length=2:=by rw[lc];simp[dy]
     have np3:p3≠st:=λz=>by
      obtain⟨_,_,e,_⟩:=st3;rw[z,e] at h3;cases h3
     obtain⟨_,_,z3,_⟩:=id st3;have h35:=B' _ _ np3 h3;have l35:=l3.stBut (cX its3) (pA its3) st3 B';have r35:=aO.flat_but z3 B' _ _ (fh _) r3;have T5:cN (vw K H5) 370 (yD "law"):=xT T3 st3 B';have s15:vG (vw K H1) (vw K H5):=vG.of λb o x=>B' _ _ (ah x hst0) (B3 _ _ (ah x hst0) (s2 _ _ x));obtain⟨xs3,hx3,rx3⟩:=id l35;have lx3:xs3.length=its3.length:=by rw[rx3.length,YD]
     have lzs:zs.length=2:=by rw[rc.length,YD,lc2]
     symm
     refine⟨_,h35,_,ji,?_⟩;show jk K (V.ref t3) (V.ref e) H5 _;rw[kF];refine⟨xs3,hx3,_,h5,?_,λl6 H6 hl6 S6 h6=>⟨_,S6 _ _ h35,_,m8,∅,λp7 H7 hp7 S7 h7=>⟨∅,λl8 H8 hl8 S8 h8=>⟨_,(S6.trans (S7.trans S8)) _ _ h35,_,m8,∅,λp9 H9 hp9 S9 h9=>⟨∅,λl10 H10 hl10 S10 h10=>⟨l10,rfl,⟨_,.of (aE h10)⟩,?_⟩⟩⟩⟩⟩⟩
     .have:1000<=sizeLine:=∅;nofun
     have S710:=S8.trans (S9.trans S10);have S510:=S6.trans (S7.trans S710);have FT3':oT (vw K H10) (.ref p3) its3 q3:=⟨p3,t3,v3,rfl,S510 _ _ h35,l35.same S510,aO.same S510 _ _ r35,f3,q30,bq3,ok3,(),(),(),()⟩;have FTe:oT (vw K H10) (.ref p9) [] q3:=⟨p9,l8,v3,rfl,S10 _ _ h9,⟨[],(S9.trans S10) _ _ h8,.mk_nil⟩,aO.same S510 _ _ r35,f3,q30,bq3,by simp,by simp,by simp,by simp,by simp⟩
     have sums:∀cs:List iu,Cs cs->(∀c∈cs,qP c)/\(cs.map nN).sum=cs.length/\(cs.map uw).sum=17*cs.length/\(cs.map Fo).sum=7*cs.length:=λcs oc0=>by
      have oc:=(hCs _).mp oc0;clear oc0;refine⟨λc hc=>?_,?_⟩
      .obtain⟨z1,z2,z3,z4⟩:=oc c hc;obtain⟨kd,nb,mn,b⟩:=c;cases z4;have z1:kd=0:=z1;subst z1;exact⟨(by decide:(0:Nat)<=2),z2,z3,λy=>absurd rfl y,(by decide:(1:Nat)<=1),(by decide:(5:Nat)<=100)⟩
      .induction cs with
       | nil=>exact⟨rfl,rfl,rfl⟩
       | cons c cs ih =>
        obtain⟨i1,i2,i3⟩:=ih λd hd=>oc d (Yj _ hd);obtain⟨z1,_,_,z4⟩:=oc c Yi;obtain⟨kd,nb,mn,b⟩:=c;cases z4;have z1:kd=0:=z1;subst z1;simp only[YG,List.sum_cons,Y6,i1,i2,i3];refine⟨?_,?_,?_⟩
        .show 1+cs.length=_;nofun
        .show 17+_=_;nofun
        .show 7+_=_;nofun
     obtain⟨su1,su2,su3,su4⟩:=sums cs oc;rw[lc2] at su2 su3 su4;have FTm:oT (vw K H10) (.ref p7) (its3++cs) q3:=by
      refine⟨p7,l6,v3,rfl,S710 _ _ h7,⟨_,(S7.trans S710) _ _ h6,?_⟩,aO.same S510 _ _ r35,f3,q30,bq3,λc hc=>?_,?_,?_,?_,?_⟩
      .rw[XR];exact (rx3.same S510).app (rc.same S510)
      .rcases List.mem_append.mp hc with z|z
       .exact ok3 c z
       .exact su1 c z
      .rw[XR,List.sum_append];nofun
      .rw[XR,List.sum_append];nofun
      .rw[XR,List.sum_append];nofun
      .rw[YC];nofun
     have al3:∀z∈[V.ref p3,V.ref p7,V.ref p9],∃its q,oT (vw K H10) z its q:=λz hz=>by
      simp only[Y2,Y3,Y4] at hz;rcases hz with rfl|rfl|rfl
      .exact⟨_,_,FT3'⟩
      .exact⟨_,_,FTm⟩
      .exact⟨_,_,FTe⟩
     obtain⟨Pw,hPw⟩ : ∃Pw:Nat->St->Hp->Prop,∀j σ H',Pw j σ H' ↔ ∃o5 o6 o7 o8,σ=[some (.ref a),some (.int (0+i)),some (.ref st),some (.ref p3),some (.ref e),o5,o6,o7,o8]/\ax (vw K H10) (vw K H'):=⟨_,λ_ _ _=>XI⟩;refine aZ (its:=[V.ref p3,V.ref p7,V.ref p9]) Pw (λj σ H' _ z=>?_) ((hPw _ _ _).mpr ⟨_,_,_,_,rfl,.rfl⟩) (λj z σ H11 hj hz pw=>?_) (λσ H11 pw=>?_)
     .obtain⟨_,_,_,_,_,S'⟩:=(hPw _ _ _).mp z;exact aP (S' _ _ h10)
     .obtain⟨o5,o6,o7,o8,rfl,S11⟩:=(hPw _ _ _).mp pw;obtain⟨its,q,FR⟩:=al3 z (YB hz);obtain⟨p,t,v,rfl,hp,ht,rv,fq,q0,bq,ok,dg,cs',bt,ln⟩:=FR.same S11;refine aR.gen λM1 hM1=>?_;symm
      simp only[gQ];refine⟨p,t,v,its,q,rfl,hp,ht,rv,fq,q0,bq,ok,(),cs',(),λd6 H12 fs S12 nd6 l6 f0 lf pf bf dl ev=>hM1 _ _ ?_⟩;clear hM1;have ok':∀c∈its,qP c/\c.2.2.2<=100:=λc hc=>⟨ok c hc,(ok c hc).2.2.2.2.2⟩;refine aR.gen λM2 hM2=>?_;symm
      simp only[Ai];refine⟨p,t,v,its,rfl,S12 _ _ hp,ht.same S12,ok',(),λd7 H13 ms S13 nd7 l7 fm up mem lm=>hM2 _ _ ?_⟩;clear hM2;obtain⟨l,FW,lin⟩:=BP ok dg bt ln dl ev;refine aR.gen λM3 hM3=>?_;symm
      simp only[cV];refine⟨d6,fs,l,rfl,l6.same S13,f0,by have:=FW.ln;have:=FW.dl;nofun,pf,bf.mono (),FW,λd8 H14 rs S14 nd8 l8 ft=>hM3 _ _ ?_⟩
      clear hM3;have eq:=ft.eq lin fm up mem;subst eq;refine aR.gen λM4 hM4=>?_;symm
      simp only[gS];refine⟨_,_,.lst (rs.map fr),rfl,l8.rep,(l7.same S14).rep,A5 (),λH15 S15=>⟨true,rfl,oM ∅ (hM4 _ _ ?_)⟩⟩;clear hM4;refine aR.gen λM5 hM5=>?_;symm
      obtain⟨ys8,hys8,rys8⟩:=id (l8.same S15);have lys8:ys8.length=rs.length:=by rw[rys8.length,YD]
      have sz:1000<=sizeLine:=∅;refine⟨lE hys8,∅,λpt H16 hpt S16 h16=>⟨ys8,S16 _ _ hys8,(),λH17 B17 h17=>hM5 _ _ ?_⟩⟩;clear hM5;have S1013:=S11.trans (S12.trans S13);have n10:vw K H10 d8=none:=S1013.none nd8;have S1316:=S14.trans (S15.trans S16);have S1017:ax (vw K H10) (vw K H17):=λb o x=>B17 _ _ (ah x n10) (S1316 _ _ (S1013 _ _ x));have nd68:d6≠d8:=by
       obtain⟨_,e,_⟩:=l6.same S13;exact ah e nd8
      have nd78:d7≠d8:=by
       obtain⟨_,e,_⟩:=l7;exact ah e nd8
      have l617:=((l6.same S13).same S1316).but (S16 _ _ hys8) nd68 B17;have l717:=(l7.same S1316).but (S16 _ _ hys8) nd78 B17;symm
      have again:∀H',ax (vw K H10) (vw K H')->Pw (j+1) [some (V.ref a),some (V.int (0 + ↑i)),some (V.ref st),some (V.ref p3),some (V.ref e),some (V.ref p),some (V.ref d6),some (V.ref d7),some (V.ref d8)] H':=λH' S'=>(hPw _ _ _).mpr ⟨_,_,_,_,rfl,S'⟩;refine⟨_,(FR.same S1017).rep,_,(FT3'.same S1017).rep,wl _ _,wl _ _,?_⟩;split
      .simp only[cV];refine⟨d6,fs,l,rfl,l617,f0,by have:=FW.ln;have:=FW.dl;nofun,pf,bf.mono (),FW,λd18 H18 rs' S18 nd18 l18 ft'=>?_⟩
       have eq:=ft'.eq lin fm up mem;subst eq;simp only[gS];refine⟨_,_,.lst (rs'.map fr),rfl,l18.rep,(l717.same S18).rep,A5 (),λH19 S19=>⟨true,rfl,oM ∅ (again _ (S1017.trans (S18.trans S19)))⟩⟩
      .exact again _ S1017
     .obtain⟨o5,o6,o7,o8,rfl,S11⟩:=(hPw _ _ _).mp pw;exact (hPv _ _ _).mpr ⟨_,_,_,_,_,_,_,_,rfl,s1.trans (s15.trans (vG.of (S510.trans S11))),T5.same (S510.trans S11)⟩
   .obtain⟨o1,o2,o3,o4,o5,o6,o7,o8,rfl,s1,T1⟩:=(hPv _ _ _).mp pv;exact⟨⟨o1,o2,o3,o4,o5,o6,o7,o8,rfl⟩,T1⟩
  .rintro σ H2 ⟨o1,o2,o3,o4,o5,o6,o7,o8,rfl,T2⟩;symm
   simp only[Ct,BQ];refine⟨T2,λH3 B3 T3=>⟨_,rfl,?_,λc4 H4 S4 hn4 h4=>?_⟩⟩
   .symm
    simp only[dI];exact⟨∅,λn5 H5 hn5 S5 h5=>⟨n5,rfl,h5,λH' S'=>⟨trivial,trivial,S5.trans S'⟩⟩⟩
   .refine⟨∅,λc5 H5 hn5 S5 h5=>?_⟩;have d1:aO (vw K H5) (.lst [.int 1]) (.ref c4):=.mk_lst (S5 _ _ h4) (.mk_cons (.mk_int _) .mk_nil);have d2:aO (vw K H5) (.lst [.int 1]) (.ref c5):=.mk_lst h5 (.mk_cons (.mk_int _) .mk_nil);refine⟨_,d1,_,d2,m6 1,m6 1,?_⟩;rw[BF (m6 1)];exact h H5
end
local macro_rules | `(tactic| walk_at "bd")=>`(tactic| (intro _ _ _ _ _ _ us hl; first | exact Im (g:=fun us=>bindArgs _ ⟨us,[]⟩) (z:=fun us=>pure (List.zip _ us)) us hl fun _=>rfl | exact BI (g:=fun us=>bindArgs _ ⟨us,[]⟩) (z:=fun us=>pure (List.zip _ us)) us hl fun _ _=>rfl | exact Hk (g:=fun us=>bindArgs _ ⟨us,[]⟩) (z:=fun us=>pure (List.zip _ us)) us hl fun _ _ _=>rfl | exact GE (g:=fun us=>bindArgs _ ⟨us,[]⟩) (z:=fun us=>pure (List.zip _ us)) us hl fun _ _ _ _=>rfl | exact Ig (g:=fun us=>bindArgs _ ⟨us,[]⟩) (z:=fun us=>pure (List.zip _ us)) us hl fun _ _ _ _ _=>rfl))
theorem all_mk{l:PySem.W.OpenLaw}{w:World}{K:W.Frag}{h:Heap}{mg:Str->Option Value}{fa f34 f37:Addr}(X:K.In h)(G:h.Ns mainGlobals mg)(hfa:mg "law" = some (.ref fa)) (hst:l.prog.given.tree=none)
  {od34 an34 od37 an37:Option Addr}{sl34 sl37:Array (Option Value)}
  {oc34 kV34 dc34 pm34 cd34 ct34 oc37 kV37 dc37 pm37 cd37 ct37:Value}
  (h0:Hf K "greatest_divisor" dM)
  (h1:Hf K "sign_of" kz)
  (h2:Hf K "power" qG)
  (h3:Hf K "trimmed" kh)
  (h4:Hf K "lowered" lJ)
  (h5:Hf K "wholes_slope" gm)
  (h6:Hf K "wholes_at" iK)
  (h7:Hf K "wholes_parted" fG)
  (h8:Hf K "wholes_rests" fZ)
  (h9:Hf K "ratio" se)
  (h10:Hf K "cleared" kK)
  (h11:Hf K "refuse_nought" dD)
  (h12:Hf K "signed_chain" fX)
  (h13:Hf K "parted_chain" gq)
  (h14:Hf K "counting_chain" eX)
  (h15:Hf K "root_bound" gR)
  (h16:Hf K "left_over" iO)
  (h17:Hf K "serves" oK)
  (h18:Hf K "least_modulus" fF)
  (h19:Hf K "refined" kX)
  (h20:Hf K "fraction_roots" c9)
  (h21:Hf K "_law_cell_at" kg)
  (h22:Hf K "_law_state" rJ)
  (h23:Hf K "_law_take" u6)
  (h24:Hf K "_law_divisor" ko)
  (h25:Hf K "_law_low" BD)
  (h26:Hf K "_law_small" rf)
  (h27:Hf K "_law_factors" kD)
  (h28:Hf K "_law_clean" rm)
  (h29:Hf K "_law_plus" uI)
  (h30:Hf K "_law_times" su)
  (h31:Hf K "_law_multiplied" hJ)
  (h32:Hf K "_law_of_factors" gU)
  (h33:Hf K "_law_less" uQ)
  (a34:nsIn K mainGlobals "_law_same" = some (some (.ref f34))) (l34:K.lookup f34=some ⟨oc34,od34,.func (fnOf "_law_same" "_law_same" (dZ jy) (cC jy) (ak jy) .none kV34 dc34 pm34 an34 cd34 ct34),sl34⟩) (c34:codeIn K cd34 "_law_same" = true) (k34:keepIn K (.ref f34)=true)
  (h35:Hf K "_law_refused" kR)
  (h36:Hf K "_law_due" AY)
  (a37:nsIn K mainGlobals "law" = some (some (.ref f37))) (l37:K.lookup f37=some ⟨oc37,od37,.func (fnOf "law" "law" (dZ gB) (cC gB) (ak gB) .none kV37 dc37 pm37 an37 cd37 ct37),sl37⟩) (c37:codeIn K cd37 "law" = true) (k37:keepIn K (.ref f37)=true)
  (z0:nsIn K mainGlobals "abs" = some none)
  (z1:nsIn K mainGlobals "range" = some none)
  (z2:nsIn K mainGlobals "len" = some none)
  (z3:nsIn K mainGlobals "reversed" = some none)
  (z4:nsIn K mainGlobals "max" = some none)
  (z5:nsIn K mainGlobals "list" = some none)
  (z6:nsIn K mainGlobals "sorted" = some none)
  (z7:nsIn K mainGlobals "min" = some none)
  (z8:nsIn K mainGlobals "isinstance" = some none)
  (z9:nsIn K mainGlobals "bool" = some none)
  (z10:nsIn K mainGlobals "tuple" = some none)
  (z11:nsIn K mainGlobals "all" = some none)
  (z12:nsIn K mainGlobals "zip" = some none)
  (z13:nsIn K mainGlobals "ValueError" = some none)
  {e0 e1 e2 e3 e4 e5 e6 e7 e8 em:Addr}
  (n0:nsIn K mainGlobals "NoFraction" = some (some (.ref e0)))
  (n1:nsIn K mainGlobals "NoPolynomial" = some (some (.ref e1)))
  (n2:nsIn K mainGlobals "NoSums" = some (some (.ref e2)))
  (n3:nsIn K mainGlobals "NoFlock" = some (some (.ref e3)))
  (n4:nsIn K mainGlobals "NoWalk" = some (some (.ref e4)))
  (n5:nsIn K mainGlobals "NoSum" = some (some (.ref e5)))
  (n6:nsIn K mainGlobals "NoDeed" = some (some (.ref e6)))
  (n7:nsIn K mainGlobals "NoText" = some (some (.ref e7)))
  (n8:nsIn K mainGlobals "NoRow" = some (some (.ref e8)))
  (nm:nsIn K mainGlobals "MomentError" = some (some (.ref em))) (xo:tu K e1)
  (q0:PySem.W.kitOne K (.ref e1) (.ref e0)=some false)
  (q1:PySem.W.kitOne K (.ref e1) (.ref e1)=some true)
  (q2:PySem.W.kitOne K (.ref e1) (.ref e2)=some false)
  (q3:PySem.W.kitOne K (.ref e1) (.ref e3)=some false)
  (q4:PySem.W.kitOne K (.ref e1) (.ref e4)=some false)
  (q5:PySem.W.kitOne K (.ref e1) (.ref e5)=some false)
  (q6:PySem.W.kitOne K (.ref e1) (.ref e6)=some false)
  (q7:PySem.W.kitOne K (.ref e1) (.ref e7)=some false)
  (q8:PySem.W.kitOne K (.ref e1) (.ref e8)=some false)
  (qm:PySem.W.exmOne K (.ref e1) (.ref em)=some true)(qv:PySem.W.kitOne K (.ref e1) (.type "ValueError")=some true)
  (y1:PySem.W.findIn K (.ref e1) "__getattribute__" = some (some (.builtin "BaseException.__getattribute__"))) (y2:PySem.W.findIn K (.ref e1) "__getattr__" = some none) (y3:PySem.W.findIn K (.ref e1) "__class__" = some (some (.builtin "object.__class__")))
  (y4:PySem.W.mroIn K e1 (.type "object")=some true) (y5:PySem.W.mroIn K e1 (.type "BaseException")=some true) (y6:(PySem.W.clsIn K e1).isSome=true)
  (m37:cd37=.ref 372)(o37:PySem.W.codeHdIn K 372 370=true)
  : ∃fd:FuncData,(∀(s:Shared)(v:Value),BindsTo s fd ⟨[v],[]⟩ [("_law_script",v)]) /\ ∀base:Heap,K.In base->base.Ns mainGlobals mg->vT mg base->base.NoSeer->bj l.prog w K mg base eP 10 fa fd ["_law_script"] (spLaw K):=by
 have e:=hfa.symm.trans (Xu X G a37);cases e;have T:gG K mg:=⟨trivial,XY X G z0,XY X G z1,XY X G z2,XY X G z3,XY X G z4,XY X G z5,XY X G z6,XY X G z7,XY X G z8,XY X G z9,XY X G z10,XY X G z11,XY X G z12,XY X G z13⟩;have Z_:zn K mg e1 1:=by
  refine⟨⟨y1,y2,y3,y4,y5,y6⟩,λj n hn=>?_,⟨em,Xu X G nm,qm⟩,qv⟩;rcases j with _|_|_|_|_|_|_|_|_|j
  .cases hn;exact⟨e0,Xu X G n0,q0⟩
  .cases hn;exact⟨e1,Xu X G n1,q1⟩
  .cases hn;exact⟨e2,Xu X G n2,q2⟩
  .cases hn;exact⟨e3,Xu X G n3,q3⟩
  .cases hn;exact⟨e4,Xu X G n4,q4⟩
  .cases hn;exact⟨e5,Xu X G n5,q5⟩
  .cases hn;exact⟨e6,Xu X G n6,q6⟩
  .cases hn;exact⟨e7,Xu X G n7,q7⟩
  .cases hn;exact⟨e8,Xu X G n8,q8⟩
  .cases hn
 refine⟨fnOf "law" "law" (dZ gB) (cC gB) (ak gB) .none kV37 dc37 pm37 an37 cd37 ct37,λs v=>.of_eq rfl,λbase kb nb hB hSe=>?_⟩;have N_:nG l.prog base:=⟨hSe,hst⟩;have E_:Dw l.prog w K mg base:=⟨h,X,G⟩;have hX:=Xu X G n1;have C_greatest_divisor:=h0.cal E_ λF=>i8 F T;have C_sign_of:=h1.cal E_ λF=>uP F T;have C_power:=h2.cal E_ λF=>Cu F T;have C_trimmed:=h3.cal E_ λF=>vi F T;have C_lowered:=h4.cal E_ λF=>uG F T N_ C_greatest_divisor;have C_wholes_slope:=h5.cal E_ λF=>mh F T;have C_wholes_at:=h6.cal E_ λF=>rE F T;have C_wholes_parted:=h7.cal E_ λF=>ky F T N_ C_trimmed;have C_wholes_rests:=h8.cal E_ λF=>mw F T N_ C_power C_wholes_parted;have C_ratio:=h9.cal E_ λF=>zL F T N_ C_greatest_divisor;have C_cleared:=h10.cal E_ λF=>uW F T N_ C_greatest_divisor;have C_refuse_nought:=h11.cal E_ λF=>lH F T;have CX_refuse_nought:=h11.calX E_ λF=>jX F T xo hX;have C_signed_chain:=h12.cal E_ λF=>mq F T C_wholes_rests C_sign_of;have C_parted_chain:=h13.cal E_ λF=>mr F T C_lowered C_wholes_parted;have C_counting_chain:=h14.cal E_ λF=>jI F T C_lowered C_cleared C_parted_chain C_signed_chain C_wholes_slope;have C_root_bound:=h15.cal E_ λF=>oS F T;have C_left_over:=h16.cal E_ λF=>rH F T;have C_serves:=h17.cal E_ λF=>yz F T C_greatest_divisor C_wholes_slope C_left_over;have C_least_modulus:=h18.cal E_ λF=>kE F T C_serves;have C_refined:=h19.cal E_ λF=>vd F T C_wholes_slope C_left_over;have C_fraction_roots:=h20.cal E_ λF=>jK F T C_refuse_nought C_counting_chain C_root_bound C_least_modulus C_left_over C_refined C_wholes_at C_sign_of C_ratio;have CX_fraction_roots:=h20.calX E_ λF=>jw F T xo hX C_refuse_nought C_counting_chain C_root_bound C_least_modulus C_left_over C_refined C_wholes_at C_sign_of C_ratio CX_refuse_nought;have zCcell_at:=h21.cal E_ λF=>ye F T;have zCstate:=h22.cal E_ λF=>C4 F T zCcell_at;have zCtake:=h23.cal E_ λF=>HI F T;have zCdivisor:=h24.cal E_ λF=>ym F T;have zClow:=h25.cal E_ λF=>Jd F T N_ zCdivisor;have zCsmall:=h26.cal E_ λF=>EF F T zClow zCtake;have zCplus:=h29.cal E_ λF=>HE F T zClow;have zCfactors:=h27.cal E_ λF=>yc F T zCtake zCsmall zCplus;have zCclean:=h28.cal E_ λF=>EW F T;have zCtimes:=h30.cal E_ λF=>Ds F T zClow;have zCmultiplied:=h31.cal E_ λF=>rX F T zCclean zCplus zCtimes;have zCof_factors:=h32.cal E_ λF=>rR F T zCmultiplied;have zCless:=h33.cal E_ λF=>Ga F T;have zFsame:=uA (st:=jy) l34 c34 k34;have zCsame:dq l.prog w K mg base "_law_same" ["_law_found", "_law_due_here"] 6 (gS 5 K):=jf zFsame T (Xu X G a34) k34 (zFsame.binds λ_ _ _ _ _ _ us hl=>BI (g:=λus=>bindArgs _ ⟨us,[]⟩) (z:=λus=>pure (List.zip _ us)) us hl λ_ _=>rfl) 5;have R_:w6 l.prog w K mg base 8:=by
  obtain⟨_,_,F,a,k⟩:=h35.at_ E_;exact⟨_,a,k,λA outer s H p C i Q hr e0 L Z hi hq=>yU F T (F.binds (by walk_at"bd")) hr e0 L Z hi hq⟩
 have zCdue:=h36.cal E_ λF=>Kq F T zCless;have M_law:K5 K mg base (fnOf "law" "law" (dZ gB) (cC gB) (ak gB) .none kV37 dc37 pm37 an37 cd37 ct37) 372 370:=⟨m37,PySem.W.codeHd_of_K kb o37,hB⟩;have F_law:=uA (st:=gB) l37 c37 k37;exact Gd F_law T M_law R_ Z_ zCstate zCfactors zClow zCtake zCof_factors zCdue zCsame C_fraction_roots CX_fraction_roots
theorem walk{l:PySem.W.OpenLaw}{q:Program}{loose:List Str}{XP:(Str->Option Value)->Heap->Prop}{YP:World->Heap->Prop}{d:DefRec}{K:Params->W.Frag}(hn:l.most=some 63)(hdf:d.params.defaults=[])(hi:PyProof.Rows.importsNone q=true)
  (hY:∀(w:World)(h:Heap),YP w h->(K w.params).In h /\ ∀q∈([(372,370)]:List (Addr×Addr)),PySem.W.codeHdIn (K w.params) q.1 q.2=true/\(K w.params).lookup q.2=none/\h.get? q.2=some (PySem.W.tabObj #[]))
  (F:∀(w:World)(mg:Str->Option Value)(fa:Addr)(h:Heap),(K w.params).In h->h.Ns mainGlobals mg->mg d.name=some (.ref fa) ->
   ∃fd:FuncData,(∀(s:Shared)(u:Value),BindsTo s fd ⟨[u],[]⟩ [("_law_script",u)]) /\ ∀base:Heap,(K w.params).In base->base.Ns mainGlobals mg->vT mg base->base.NoSeer->bj l.prog w (K w.params) mg base eP 10 fa fd ["_law_script"] (spLaw (K w.params))) :
  PySem.W.WalkO q loose XP YP l.row.toRowW d [] (λf vs=>PySem.call f vs) :=
 L2.walk_ofM (ts:=λ_=>[(372,370)]) (n:=63) (k:=10) (x:="_law_script") (CX:=λ_=>eP) (sp:=λw=>spLaw (K w.params)) hn ∅ hdf ⟨rfl,∅,∅⟩ hi hY F (λ_ _ a ns hl hT hK hS=>⟨a,ns,rfl,.of hS hK,hl,.start (hT (372,370) (by simp)),λ_=>rfl⟩) λ_ _ _ _ _ z=>z
end M
open PySem PySem.W PyProof.Rows
theorem Zz:True:=trivial
namespace PySem.W.Fast
theorem tw1354380552683106567:True:=Zz
theorem tw3803977991392769586:True:=Zz
theorem tw15031176612000709224:True:=Zz
theorem tw14342445631608344951:True:=Zz
theorem tw15050551643220021529:True:=Zz
theorem tw7295559165877479911:True:=Zz
theorem tw5145323176120178590:True:=Zz
theorem tw14328257039839866260:True:=Zz
theorem tw12636805101750397426:True:=Zz
theorem tw1901552210711797409:True:=Zz
theorem tw16762243995226313645:True:=Zz
theorem tw10306163942792850985:True:=Zz
theorem tw1098780063536582536:True:=Zz
theorem tw17315436630290190840:True:=Zz
theorem tw13825683639821389692:True:=Zz
theorem tw10590880924603016109:True:=Zz
theorem tw4539830878210127308:True:=Zz
theorem tw15225797326439964370:True:=Zz
theorem tw15202782502826114195:True:=Zz
theorem tw2048488652625077611:True:=Zz
theorem tw7537125507853353742:True:=Zz
theorem tw3020196677975209767:True:=Zz
theorem tw559565820942592132:True:=Zz
theorem tw9499679459129888246:True:=Zz
theorem tw4214319500432023452:True:=Zz
theorem tw8573941422067446800:True:=Zz
theorem tw10898631673908615736:True:=Zz
theorem tw854617041487872100:True:=Zz
theorem tw9959589244780246651:True:=Zz
theorem tw2244276360663390464:True:=Zz
theorem tw12206022627804002503:True:=Zz
theorem tw11046188116117281458:True:=Zz
theorem tw14180202112996307546:True:=Zz
theorem tw7789736978299980737:True:=Zz
theorem tw5608529510059911425:True:=Zz
theorem tw8059404706098885895:True:=Zz
theorem tw10144881272047437665:True:=Zz
theorem tw3664573295865027472:True:=Zz
theorem tw14905613190061350299:True:=Zz
theorem tw3847201044907381799:True:=Zz
theorem tw4546183800749585849:True:=Zz
theorem tw6987291245518290375:True:=Zz
theorem tw12679808578730935424:True:=Zz
theorem tw1620939324851864799:True:=Zz
theorem tw12653406184335683435:True:=Zz
theorem tw2147696153304318753:True:=Zz
theorem tw17105502352092580143:True:=Zz
theorem tw6477629545952024641:True:=Zz
theorem tw10413000343165438523:True:=Zz
theorem tw2347714764693554373:True:=Zz
theorem tw10163433135934794696:True:=Zz
theorem tw12806780438993931296:True:=Zz
theorem tw12839634056366307193:True:=Zz
theorem tw6176320041428319872:True:=Zz
theorem tw15464748826661396837:True:=Zz
theorem tw11325260212008800111:True:=Zz
theorem tw1389113245727437142:True:=Zz
theorem tw18081547081932940357:True:=Zz
theorem tw1687088179454602567:True:=Zz
theorem tw5598416634276723438:True:=Zz
theorem tw17095343260365385435:True:=Zz
theorem tw11141580260740460959:True:=Zz
theorem tw10567541606286909732:True:=Zz
theorem tw10417466328032632579:True:=Zz
theorem tw4955524397294200325:True:=Zz
theorem tw10876391027304347905:True:=Zz
theorem tw12695869432682285462:True:=Zz
theorem tw16492286945881401973:True:=Zz
theorem tw13106652004083134444:True:=Zz
theorem tw2924382413983219228:True:=Zz
theorem tw10361272388564412028:True:=Zz
theorem tw8008984310808062337:True:=Zz
theorem tw7539690618389116023:True:=Zz
theorem tw10342191751066843090:True:=Zz
theorem tw8778987900593407018:True:=Zz
theorem tw10098595079543417179:True:=Zz
theorem tw9656364021292989276:True:=Zz
theorem tw6465118792578671724:True:=Zz
theorem tw6532495002126777430:True:=Zz
theorem tw12392890229046642754:True:=Zz
end PySem.W.Fast
set_option maxRecDepth 100000 in
set_option maxHeartbeats 0 in
theorem PySem.Challenge.cw_momentwright_k17_roots_that_are_fraction_holds : PySem.Challenge.rw_momentwright_k17_roots_that_are_fraction.Holds := by
 w_on;o_law;k_head;(case hw=>w_witness2)
 k_fill
 refine M.walk (l:=PySem.Challenge.rw_momentwright_k17_roots_that_are_fraction) rfl rfl ?hi (fun w h Y=>⟨PySem.W.km_in_of Y,?T⟩) ?F
 case hi=>exact (by decide +kernel)
 case T =>
  have hT:=PySem.W.km_tabs_of Y
  intro q hq
  simp only[List.mem_cons,List.not_mem_nil,or_false] at hq
  rcases hq with rfl
  ·exact⟨by kernel_rfl,by kernel_rfl,hT _ (by simp)⟩
 case F =>
  intro w mg fa h KX G hmg
  refine' M.all_mk KX G hmg rfl ?h0 ?h1 ?h2 ?h3 ?h4 ?h5 ?h6 ?h7 ?h8 ?h9 ?h10 ?h11 ?h12 ?h13 ?h14 ?h15 ?h16 ?h17 ?h18 ?h19 ?h20 ?h21 ?h22 ?h23 ?h24 ?h25 ?h26 ?h27 ?h28 ?h29 ?h30 ?h31 ?h32 ?h33 ?a34 ?l34 ?c34 ?k34 ?h35 ?h36 ?a37 ?l37 ?c37 ?k37   ?z0 ?z1 ?z2 ?z3 ?z4 ?z5 ?z6 ?z7 ?z8 ?z9 ?z10 ?z11 ?z12 ?z13 ?n0 ?n1 ?n2 ?n3 ?n4 ?n5 ?n6 ?n7 ?n8 ?nm ?xo ?q0 ?q1 ?q2 ?q3 ?q4 ?q5 ?q6 ?q7 ?q8 ?qm ?qv ?y1 ?y2 ?y3 ?y4 ?y5 ?y6 ?m37 ?o37
  any_goals (refine' L2.Hf.of ?a ?l ?c ?k;(case a=>k_is);(case l=>k_is);(case c=>k_is);(case k=>k_is))
  (case a34=>k_is);(case l34=>k_is);(case c34=>k_is);(case k34=>k_is)
  (case a37=>k_is);(case l37=>k_is);(case c37=>k_is);(case k37=>k_is)
  (case z0=>k_is)
  (case z1=>k_is)
  (case z2=>k_is)
  (case z3=>k_is)
  (case z4=>k_is)
  (case z5=>k_is)
  (case z6=>k_is)
  (case z7=>k_is)
  (case z8=>k_is)
  (case z9=>k_is)
  (case z10=>k_is)
  (case z11=>k_is)
  (case z12=>k_is)
  (case z13=>k_is)
  (case n0=>k_is)
  (case n1=>k_is)
  (case n2=>k_is)
  (case n3=>k_is)
  (case n4=>k_is)
  (case n5=>k_is)
  (case n6=>k_is)
  (case n7=>k_is)
  (case n8=>k_is)
  (case nm=>k_is)
  (case xo=>show PySem.W.excIn _ _ _ _=true;kernel_rfl)
  (case q0=>kernel_rfl)
  (case q1=>kernel_rfl)
  (case q2=>kernel_rfl)
  (case q3=>kernel_rfl)
  (case q4=>kernel_rfl)
  (case q5=>kernel_rfl)
  (case q6=>kernel_rfl)
  (case q7=>kernel_rfl)
  (case q8=>kernel_rfl)
  (case qm=>kernel_rfl)
  (case qv=>kernel_rfl)
  (case y1=>kernel_rfl)
  (case y2=>kernel_rfl)
  (case y3=>kernel_rfl)
  (case y4=>kernel_rfl)
  (case y5=>kernel_rfl)
  (case y6=>kernel_rfl)
  (case m37=>rfl)
  (case o37=>kernel_rfl)
#print axioms PySem.Challenge.cw_momentwright_k17_roots_that_are_fraction_holds

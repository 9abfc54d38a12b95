import PyProof.Rows.All
import Wide.All
import OpenK.AllK
import Wide.FinOn
import Lean
import PyProof.EqAt
import PyProof.EqKinds
import PyProof.TupleCall
import PySem.Challenge.RW_momentwright_k62_flocks_with_a_told_root
set_option compiler.extract_closed false
set_option hygiene false
local macro_rules | `(tactic| walk_at "o")=>`(tactic| first | ((repeat (rename (_:Int)≠_=>h; clear h)); (repeat (rename (_:Nat)≠_=>h; clear h)); (repeat (rename _ ∨ _=>h; clear h)); lia) | lia | omega)
local macro_rules | `(nofun)=>`(hr.mono (by walk_at "a2"))
local macro_rules | `(())=>`(by walk_at "o")
local macro_rules | `(∅)=>`(by first | decide | decide +kernel)
local macro_rules | `(tactic| walk_at "q")=>`(tactic| (rotate_left; intro cdv A outer s H vs Q E hr h; rotate_right; intro vs H Q E h))
local macro_rules | `(‹$t›)=>`((($t : Int):Rat))
local macro_rules | `(‹[$a,*]›)=>`(show ([$a,*]:List PySem.Str).Nodup by decide +kernel)
local macro_rules | `(‹7›)=>`(⟨rfl,rfl,rfl,⟨rfl,trivial⟩,rfl,⟨⟨rfl,rfl,rfl,_,rfl⟩,trivial⟩⟩)
local macro_rules | `(‹8›)=>`(by walk_at "a3")
local macro_rules | `(‹9›)=>`(λ_ _=>rfl)
local macro_rules | `(⋯)=>`(by grind)
local macro_rules | `((·))=>`(by walk_at "a1")
local macro_rules | `(tactic| nofun)=>`(tactic| walk_at "o")
local macro_rules | `(tactic| symm)=>`(tactic| walk_at "vc")
local macro_rules | `(tactic| walk_at "a1")=>`(tactic| first | exact Or.inl rfl | exact Or.inr rfl)
local macro_rules | `(tactic| walk_at "a2")=>`(tactic| first | decide | walk_at "o")
local macro_rules | `(tactic| walk_at "a3")=>`(tactic| exact ⟨rfl,rfl,rfl,by decide +kernel,rfl,by decide +kernel,by decide +kernel⟩)
set_option Elab.async false
set_option linter.all false
set_option maxRecDepth 100000
theorem Ya:type_of% @decide_eq_false:=@decide_eq_false
theorem Yb:type_of% @if_pos:=@if_pos
theorem Yc:type_of% @if_neg:=@if_neg
theorem Yd:type_of% @Nat.lt_of_lt_of_le:=@Nat.lt_of_lt_of_le
theorem Ye:type_of% @Nat.lt_irrefl:=@Nat.lt_irrefl
theorem Yf:type_of% @Nat.ne_of_lt:=@Nat.ne_of_lt
theorem Yg:type_of% @Nat.le_trans:=@Nat.le_trans
theorem Yh:type_of% @Nat.le_of_lt:=@Nat.le_of_lt
theorem Yi:type_of% @List.filterMap_cons:=@List.filterMap_cons
theorem Yj:type_of% @List.mem_cons_self:=@List.mem_cons_self
theorem Yk:type_of% @List.mem_cons_of_mem:=@List.mem_cons_of_mem
theorem Yl:type_of% @Ne.symm:=@Ne.symm
theorem Ym:type_of% @List.getElem?_set_self:=@List.getElem?_set_self
theorem Yn:type_of% @List.getElem?_set_ne:=@List.getElem?_set_ne
theorem Yo:type_of% @Option.some.inj:=@Option.some.inj
theorem Yp:type_of% @congrArg:=@congrArg
theorem Yq:type_of% @Bool.false_ne_true:=@Bool.false_ne_true
theorem Yr:type_of% @Nat.le_refl:=@Nat.le_refl
theorem Ys:type_of% @PyProof.Rows.callWith_type1:=@PyProof.Rows.callWith_type1
theorem Yt:type_of% @List.mem_append_right:=@List.mem_append_right
theorem Yu:type_of% @List.size_toArray:=@List.size_toArray
theorem Yv:type_of% @PySem.W.kia_one:=@PySem.W.kia_one
theorem Yw:type_of% @List.append_nil:=@List.append_nil
theorem Yx:type_of% @List.length_take:=@List.length_take
theorem Yy:type_of% @PySem.mem_of_lookup:=@PySem.mem_of_lookup
theorem Yz:type_of% @List.getElem?_append_right:=@List.getElem?_append_right
theorem YA:type_of% @List.getElem?_replicate:=@List.getElem?_replicate
theorem YB:type_of% @List.getElem?_append_left:=@List.getElem?_append_left
theorem YC:type_of% @List.getElem?_map:=@List.getElem?_map
theorem YD:type_of% @List.mem_of_getElem?:=@List.mem_of_getElem?
theorem YE:type_of% @List.length_append:=@List.length_append
theorem YF:type_of% @List.length_map:=@List.length_map
theorem YG:type_of% @List.length_replicate:=@List.length_replicate
theorem YH:type_of% @List.length_drop:=@List.length_drop
theorem YI:type_of% @Bool.and_eq_true:=@Bool.and_eq_true
theorem YJ:type_of% @List.length_set:=@List.length_set
theorem YK:type_of% @List.replicate_succ:=@List.replicate_succ
theorem YL:type_of% @List.append_assoc:=@List.append_assoc
theorem YM:type_of% @List.length_singleton:=@List.length_singleton
theorem YN:type_of% @List.length_dropLast:=@List.length_dropLast
theorem YO:type_of% @Nat.zero_le:=@Nat.zero_le
theorem YQ:type_of% @Nat.mul_comm:=@Nat.mul_comm
theorem YR:type_of% @List.map_cons:=@List.map_cons
theorem YS:type_of% @decide_eq_true:=@decide_eq_true
theorem YT:type_of% @List.getElem_mem:=@List.getElem_mem
theorem YU:type_of% @List.getElem?_eq_getElem:=@List.getElem?_eq_getElem
theorem YV:type_of% @Int.fmod_nonneg_of_pos:=@Int.fmod_nonneg_of_pos
theorem YW:type_of% @Int.fmod_lt_of_pos:=@Int.fmod_lt_of_pos
theorem YX:type_of% @Int.le_of_lt:=@Int.le_of_lt
theorem YY:type_of% @Nat.pow_le_pow_right:=@Nat.pow_le_pow_right
theorem YZ:type_of% @Int.natAbs_mul:=@Int.natAbs_mul
theorem Y0:type_of% @Nat.pow_add:=@Nat.pow_add
theorem Y1:type_of% @List.getLast?_eq_getElem?:=@List.getLast?_eq_getElem?
theorem Y2:type_of% @List.mem_cons:=@List.mem_cons
theorem Y3:type_of% @List.not_mem_nil:=@List.not_mem_nil
theorem Y4:type_of% @or_false:=@or_false
theorem Y5:type_of% @List.getElem?_mapIdx:=@List.getElem?_mapIdx
theorem Y6:type_of% @List.length_mapIdx:=@List.length_mapIdx
theorem Y7:type_of% @List.ext_getElem?:=@List.ext_getElem?
theorem Y8:type_of% @List.length_cons:=@List.length_cons
theorem Y9:type_of% @List.length_reverse:=@List.length_reverse
theorem Xa:type_of% @Nat.le_mul_of_pos_right:=@Nat.le_mul_of_pos_right
theorem Xb:type_of% @Int.mul_pos:=@Int.mul_pos
theorem Xc:type_of% @Int.mul_assoc:=@Int.mul_assoc
theorem Xd:type_of% @Int.mul_comm:=@Int.mul_comm
theorem Xe:type_of% @List.getD_eq_getElem?_getD:=@List.getD_eq_getElem?_getD
theorem Xf:type_of% @Int.eq_of_mul_eq_mul_right:=@Int.eq_of_mul_eq_mul_right
theorem Xg:type_of% @Int.mul_ne_zero:=@Int.mul_ne_zero
theorem Xh:type_of% @Rat.intCast_add:=@Rat.intCast_add
theorem Xi:type_of% @Rat.intCast_mul:=@Rat.intCast_mul
theorem Xj:type_of% @List.take_add_one:=@List.take_add_one
theorem Xl:type_of% @List.take_length:=@List.take_length
theorem Xm:type_of% @Int.pos_of_mul_pos_left:=@Int.pos_of_mul_pos_left
theorem Xn:type_of% @List.getElem?_eq_none:=@List.getElem?_eq_none
theorem Xo:type_of% @List.getElem?_take:=@List.getElem?_take
theorem Xp:type_of% @List.getElem?_drop:=@List.getElem?_drop
theorem Xq:type_of% @List.drop_eq_getElem_cons:=@List.drop_eq_getElem_cons
theorem Xr:type_of% @Int.mul_zero:=@Int.mul_zero
theorem Xs:type_of% @List.mem_of_mem_take:=@List.mem_of_mem_take
theorem Xt:type_of% @Nat.mul_le_mul:=@Nat.mul_le_mul
theorem Xu:type_of% @Nat.add_mul:=@Nat.add_mul
theorem Xv:type_of% @Nat.zero_add:=@Nat.zero_add
theorem Xw:type_of% @Nat.lt_or_ge:=@Nat.lt_or_ge
theorem Xx:type_of% @Int.one_mul:=@Int.one_mul
theorem Xy:type_of% @Nat.lt_of_le_of_lt:=@Nat.lt_of_le_of_lt
theorem Xz:type_of% @Nat.mul_le_mul_left:=@Nat.mul_le_mul_left
theorem XA:type_of% @Nat.add_assoc:=@Nat.add_assoc
theorem XB:type_of% @Int.pow_zero:=@Int.pow_zero
theorem XC:type_of% @Int.pow_succ:=@Int.pow_succ
theorem XD:type_of% @Int.pow_ne_zero:=@Int.pow_ne_zero
theorem XE:type_of% @Classical.byContradiction:=@Classical.byContradiction
theorem XF:type_of% @Nat.sub_self:=@Nat.sub_self
theorem XG:type_of% @PySem.W.mg_of:=@PySem.W.mg_of
theorem XH:type_of% @Iff.rfl:=@Iff.rfl
theorem XI:type_of% @List.map_append:=@List.map_append
theorem XJ:type_of% @of_decide_eq_true:=@of_decide_eq_true
theorem XM:type_of% @PySem.F.plainAttrs_list:=@PySem.F.plainAttrs_list
theorem XN:type_of% @Int.zero_add:=@Int.zero_add
theorem XO:type_of% @List.mem_or_eq_of_mem_set:=@List.mem_or_eq_of_mem_set
theorem XQ:type_of% @List.getElem?_of_mem:=@List.getElem?_of_mem
theorem XR:type_of% @PySem.F.slot_list_append:=@PySem.F.slot_list_append
theorem XS:type_of% @PySem.F.type_list_append:=@PySem.F.type_list_append
theorem XT:type_of% @List.mem_of_mem_drop:=@List.mem_of_mem_drop
theorem XU:type_of% @PySem.W.mg_none_of:=@PySem.W.mg_none_of
namespace L2
open PySem PySem.Spec PyProof.Rows
abbrev Sf:=PySem.W.Frag
abbrev Lt:=List (Int×Int)
variable {H:Hp}{a b:Addr}{o:Obj}{P:Program}{w:World}{h:Heap}{t' i k:Nat}{A:Around}{E:Value->Shared->Prop}{x:Str}{v:V}{u:Value}{Q:Unit->Shared->Prop}{X:Cx}{s:Shared}{pos:Pos}{pins:List (Addr×Obj)}{σ:St}{c tg:Expr}{K:Sf}{te:TE}{ta:TA}{f:Value->Value->Sem Value}{us:List Value}
abbrev uV:=Sum Int Str
def GS:uV->Value->Bool
 | .inl k,v=>Value.isInt k v
 | .inr x,v=>Value.isStrOf x v
def LS(w:World):uV->Int
 | .inl k=>hashInt k
 | .inr x=>hashStr w x
theorem dq:∀{k:uV}{v:Value},GS k v=true->(∃i t,k=Sum.inl i/\v=Value.int i t)\/(∃x t,k=Sum.inr x/\v=Value.str x t)
 | .inl i,v,h=>by
  obtain⟨t,e⟩:=Value.isInt_shape (k:=i) (v:=v) h;exact .inl ⟨i,t,rfl,e⟩
 | .inr x,v,h=>by
  obtain⟨t,e⟩:=Value.isStrOf_shape (x:=x) (v:=v) h;exact .inr ⟨x,t,rfl,e⟩
theorem Ia(a b:Int):decide ((Sum.inl a:uV)=Sum.inl b)=(a==b):=by
 by_cases e:a=b
 .subst e;simp
 .have h:¬ (Sum.inl a:uV)=Sum.inl b:=λq=>e (Sum.inl.inj q);rw[Ya h];exact (beq_eq_false_iff_ne.mpr e).symm
theorem Hl(a b:Str):decide ((Sum.inr a:uV)=Sum.inr b)=decide (a=b):=by
 by_cases e:a=b
 .subst e;simp
 .have h:¬ (Sum.inr a:uV)=Sum.inr b:=λq=>e (Sum.inr.inj q);rw[Ya h,Ya e]
theorem Jk(a:Int)(b:Str):decide ((Sum.inl a:uV)=Sum.inr b)=false:=Ya (λq=>nomatch q)
theorem IR(a:Str)(b:Int):decide ((Sum.inr a:uV)=Sum.inl b)=false:=Ya (λq=>nomatch q)
def ud(prog:Program)(w:World):PySem.KeyKind prog w uV where
 is:=GS
 hash:=LS w
 inj:=λv a b ha hb=>by
  rcases dq ha with ⟨i,t,rfl,rfl⟩|⟨x,t,rfl,rfl⟩
  .rcases dq hb with ⟨j,u,rfl,e⟩|⟨y,u,rfl,e⟩
   .injection e with e1 _;rw[e1]
   .exact nomatch e
  .rcases dq hb with ⟨j,u,rfl,e⟩|⟨y,u,rfl,e⟩
   .exact nomatch e
   .injection e with e1 _;rw[e1]
 byValue:=λk v h=>by
  rcases dq h with ⟨i,t,rfl,rfl⟩|⟨x,t,rfl,rfl⟩<;>rfl
 pyHash:=λhv h=>by
  rcases dq hv with ⟨i,t,rfl,rfl⟩|⟨x,t,rfl,rfl⟩
  .exact wpAny_pyHash_int h
  .exact wpAny_pyHash_str h
 eqBool:=λhu hv h=>by
  rcases dq hu with ⟨i,t,rfl,rfl⟩|⟨x,t,rfl,rfl⟩
  .rcases dq hv with ⟨j,u,rfl,rfl⟩|⟨y,u,rfl,rfl⟩
   .rw[Ia] at h;exact wpAny_eqBool_int h
   .rw[Jk] at h;exact SeqAt.EqAt.int_str i t y u _ _ _ _ h
  .rcases dq hv with ⟨j,u,rfl,rfl⟩|⟨y,u,rfl,rfl⟩
   .rw[IR] at h;exact SeqAt.EqAt.str_int x t j u _ _ _ _ h
   .rw[Hl] at h;exact wpAny_eqBool_str h
 «strs»:=λk x t v h=>by
  rcases dq h with ⟨i,u,rfl,e⟩|⟨y,u,rfl,e⟩
  .exact nomatch e
  .injection e with e1 _
   subst e1;cases v<;>rfl
inductive V where
 | non|bl (b:Bool)|int (i:Int)|str (x:Str)|byt (b:Array UInt8)|flt (b:UInt64)|ref (a:Addr)|ty (n:String)
 deriving DecidableEq
def cw:V->Value->Prop
 | .non,u=>u=Value.none
 | .bl b,u=>u=Value.bool b
 | .int i,u=>∃t,u=Value.int i t
 | .str x,u=>∃t,u=Value.str x t
 | .byt b,u=>∃t,u=Value.bytes b t
 | .flt b,u=>∃t,u=Value.float b t
 | .ref a,u=>u=Value.ref a
 | .ty n,u=>u=Value.type n
abbrev bJ:List V->List Value->Prop:=Paired cw
theorem bJ.length{xs:List V}{us:List Value}(r:bJ xs us):xs.length=us.length:=Paired.length r
theorem bJ.get:∀{xs:List V}{us:List Value}{i:Nat}{x:V},bJ xs us->xs[i]? = some x -> ∃u,us[i]? = some u/\cw x u
 | _,_,_,_,.nil,e=>by simp at e
 | _,_,0,_,.cons r _,e=>by simp at e;subst e;exact⟨_,rfl,r⟩
 | _,_,i+1,x,.cons _ t,e=>by
  obtain⟨u,h1,h2⟩:=bJ.get (i:=i) (x:=x) t (by simpa using e)
  exact⟨u,by simpa using h1,h2⟩
theorem bJ.set{x:V}{u:Value}(r:cw x u):∀{xs:List V}{us:List Value}(i:Nat),bJ xs us->bJ (xs.set i x) (us.set i u)
 | _,_,_,.nil=>.nil
 | _,_,0,.cons _ t=>.cons r t
 | _,_,i+1,.cons q t=>.cons q (bJ.set r i t)
theorem bJ.append:∀{xs ys:List V}{us ws:List Value},bJ xs us->bJ ys ws->bJ (xs++ys) (us++ws)
 | _,_,_,_,.nil,s=>s
 | _,_,_,_,.cons r t,s=>.cons r (bJ.append t s)
theorem bJ.take:∀{xs:List V}{us:List Value}(n:Nat),bJ xs us->bJ (xs.take n) (us.take n)
 | _,_,0,_=>.nil
 | _,_,_+1,.nil=>.nil
 | _,_,n+1,.cons r t=>.cons r (bJ.take n t)
theorem bJ.drop:∀{xs:List V}{us:List Value}(n:Nat),bJ xs us->bJ (xs.drop n) (us.drop n)
 | _,_,0,r=>r
 | _,_,_+1,.nil=>.nil
 | _,_,n+1,.cons _ t=>bJ.drop n t
def JO:Option V->Option Value->Prop
 | some v,some u=>cw v u
 | none,none=>True
 | _,_=>False
def KV{κ:Type}:List (κ×V)->List (κ×Value)->Prop:=Paired λ(p:κ×V)(q:κ×Value)=>p.1=q.1/\cw p.2 q.2
def kV:uV->V
 | .inl i=>.int i
 | .inr x=>.str x
inductive HO where
 /-- a list -/
 | lst (xs:List V)
 /-- a tuple (never changes) -/
 | tup (xs:List V)
 /-- a dict whose keys are ints and texts;one whose keys are tuples of ints and texts (the empty one is both) -/
 | dK (kvs:List (uV×V))|dT (kvs:List (List uV×V))
 /-- a set of ints: its members,its size -/
 | set (S:Int->Bool)(n:Nat)
 /-- an instance of the class at C,its dict at dx,its attributes -/
 | ins (C dx:Addr)(fs:List (Str×V))
 /-- the dict of the instance at x -/
 | own (x:Addr)
 /-- the dict of an exception -/
 | xd (fs:List (Str×V))
 /-- a bound method,f of x -/
 | met (f x:Addr)
 /-- a range object lo,lo+1,.. below hi -/
 | rng (lo hi:Int)
 /-- a thing that is known to the object (the script;a dict while a loop walks it): read,never written while it is so -/
 | frz (o:Obj)(u:HO)
 /-- a code object's table -/
 | tbl (ps:Array Value)
 /-- any other thing,by what is true of its one object (a def of one's own: SetO a S n:=HO.ext λh=>..) -/
 | ext (φ:Heap->Prop)
abbrev Hp:=Addr->Option HO
def upd(H:Hp)(a:Addr)(o:HO):Hp:=λb=>if b=a then some o else H b
theorem cz{o:HO}:upd H a o a=some o:=by unfold upd;rw[Yb rfl]
theorem aV{o:HO}(h:b≠a):upd H a o b=H b:=by unfold upd;rw[Yc h]
theorem aj{o:HO}(h:H a=some o)(h':H b=none):a≠b:=by
 intro e;subst e;rw[h] at h';cases h'
section
variable (P:Program)(w:World)
def dO(H:Hp)(h:Heap)(a:Addr):HO->Prop
 | .lst xs=>xs.length<=sizeLine /\ ∃(its:List Value)(n:Nat),bJ xs its/\h.get? a=some { cls:=.type "list",data:=.seq its.toArray n }
 | .tup xs=>xs.length<=sizeLine /\ ∃its:List Value,bJ xs its/\IsTup h a its.toArray
 | .dK kvs=>kvs.length<=sizeLine/\(a==sysModules)=false /\ ∃vs,KV kvs vs/\h.DictOf (ud P w) a vs
 | .dT kvs=>kvs.length<=sizeLine/\(a==sysModules)=false /\ ∃xs:List (List uV×Addr×Value),
   Paired (λ(p:List uV×V)(q:List uV×Addr×Value)=>p.1=q.1/\H q.2.1=some (.tup (p.1.map kV))/\cw p.2 q.2.2) kvs xs /\
   ∃o es ep,h.get? a=some o/\o.ExactDict/\o.data=.dict es ep/\es.toList=xs.map (entryOfKey (tupleKind (ud P w)))/\(xs.map (·.1)).Nodup
 | .set S n=>h.SetOf (intKind P w) a S n
 | .ins C dx fs=>H dx=some (.own a)/\fs.length<=1000/\dx≠a/\h.get? a=some (PySem.W.instObj C dx) /\
   ∃mA,h.Ns1 dx mA/\(∀f,JO (fs.lookup f) (mA f))/\PySem.Within mA (fs.map (·.1))
 | .own _=>∃o,h.get? a=some o
 | .xd fs=>∃mA,h.Ns1 a mA /\ ∀f,JO (fs.lookup f) (mA f)
 | .rng lo hi=>∃t u v,h.get? a=some { cls:=.type "range",data:=.fields #[.int lo t,.int hi u,.int 1 v] }
 | .frz o u=>h.get? a=some o/\dO H h a u
 | .tbl ps=>h.get? a=some { cls:=.none,data:=.fields ps }
 | .met f x=>h.get? a=some (PySem.W.methodObj (.ref f) (.ref x))
 | .ext φ=>φ h/\(∃o,h.get? a=some o) /\ ∀h1 h2:Heap,φ h1->(∀o,h1.get? a=some o->h2.get? a=some o)->φ h2
def lW(H:Hp)(h:Heap):Prop:=∀a o,H a=some o->dO P w H h a o
end
section
variable {P:Program}{w:World}{H H':Hp}{h h':Heap}{a:Addr}{o:HO}
theorem dO.lt(x:dO P w H h a o):a<h.objs.size:=by
 cases o with
 | lst xs=>obtain⟨_,_,_,_,e⟩:=x;exact Heap.lt_size e
 | tup xs=>obtain⟨_,_,_,p⟩:=x;exact p.lt
 | dK kvs=>obtain⟨_,_,_,_,o,_,_,e,_⟩:=x;exact Heap.lt_size e
 | dT kvs=>obtain⟨_,_,_,_,o,_,_,e,_⟩:=x;exact Heap.lt_size e
 | set S n=>obtain⟨o,_,_,_,e,_⟩:=x;exact Heap.lt_size e
 | ins C dx fs=>obtain⟨_,_,_,e,_⟩:=x;exact Heap.lt_size e
 | own y=>obtain⟨_,e⟩:=x;exact Heap.lt_size e
 | xd fs=>obtain⟨_,⟨_,_,_,e,_⟩,_⟩:=x;exact Heap.lt_size e
 | rng lo hi=>obtain⟨_,_,_,e⟩:=x;exact Heap.lt_size e
 | frz ob u=>obtain⟨e,_⟩:=x;exact Heap.lt_size e
 | tbl ps=>exact Heap.lt_size (show h.get? a=some _ from x)
 | met f y=>exact Heap.lt_size (show h.get? a=some _ from x)
 | ext φ=>obtain⟨_,⟨_,e⟩,_⟩:=x;exact Heap.lt_size e
theorem Paired.mapP{α β:Type}{F G:α->β->Prop}:∀{l₁:List α}{l₂:List β},Paired F l₁ l₂->(∀a b,F a b->G a b)->Paired G l₁ l₂
 | _,_,.nil,_=>.nil
 | _,_,.cons r t,f=>.cons (f _ _ r) (Paired.mapP t f)
theorem dO.stay(x:dO P w H h a o)(k:∀b u,(b=a\/H b=some (.own a))->h.get? b=some u->h'.get? b=some u)
  (ho:∀b,H b=some (.own a)->H' b=some (.own a))(ht:∀b xs,H b=some (.tup xs)->H' b=some (.tup xs)):dO P w H' h' a o:=by
 induction o with
 | lst xs=>obtain⟨z,its,n,r,e⟩:=x;exact⟨z,its,n,r,k _ _ (.inl rfl) e⟩
 | tup xs=>obtain⟨z,its,r,ob,e,c⟩:=x;exact⟨z,its,r,ob,k _ _ (.inl rfl) e,c⟩
 | dK kvs=>obtain⟨z,y,vs,r,ob,es,ep,e,c⟩:=x;exact⟨z,y,vs,r,ob,es,ep,k _ _ (.inl rfl) e,c⟩
 | dT kvs =>
  obtain⟨z,y,xs,r,ob,es,ep,e,c⟩:=x;exact⟨z,y,xs,Paired.mapP r λp q z=>⟨z.1,ht _ _ z.2.1,z.2.2⟩,ob,es,ep,k _ _ (.inl rfl) e,c⟩
 | set S n=>obtain⟨ob,es,ep,t,e,c⟩:=x;exact⟨ob,es,ep,t,k _ _ (.inl rfl) e,c⟩
 | ins C dx fs =>
  obtain⟨d,z,ne,e,mA,⟨od,es,ep,e2,c⟩,r⟩:=x;exact⟨ho _ d,z,ne,k _ _ (.inl rfl) e,mA,⟨od,es,ep,k _ _ (.inr d) e2,c⟩,r⟩
 | own y=>obtain⟨ob,e⟩:=x;exact⟨ob,k _ _ (.inl rfl) e⟩
 | xd fs=>obtain⟨mA,⟨od,es,ep,e,c⟩,r⟩:=x;exact⟨mA,⟨od,es,ep,k _ _ (.inl rfl) e,c⟩,r⟩
 | rng lo hi=>obtain⟨t,u,v,e⟩:=x;exact⟨t,u,v,k _ _ (.inl rfl) e⟩
 | frz ob u ih=>obtain⟨e,q⟩:=x;exact⟨k _ _ (.inl rfl) e,ih q⟩
 | tbl ps =>
  have e:h.get? a=some { cls:=.none,data:=.fields ps }:=x;show h'.get? a=some { cls:=.none,data:=.fields ps };exact k a _ (.inl rfl) e
 | met f y =>
  have e:h.get? a=some (PySem.W.methodObj (.ref f) (.ref y)):=x;show h'.get? a=some (PySem.W.methodObj (.ref f) (.ref y));exact k a _ (.inl rfl) e
 | ext φ=>obtain⟨p,⟨o,e⟩,st⟩:=x;exact⟨st _ _ p λo q=>k _ _ (.inl rfl) q,⟨o,k _ _ (.inl rfl) e⟩,st⟩
theorem lW.lt(x:lW P w H h)(e:H a=some o):a<h.objs.size:=(x a o e).lt
theorem lW.fresh(x:lW P w H h)(e:h.objs.size<=a):H a=none:=by
 cases q:H a with
 | none=>rfl
 | some u=>exact absurd (Yd (x.lt q) e) (Ye _)
theorem lW.kept(x:lW P w H h)(k:∀b u,h.get? b=some u->h'.get? b=some u):lW P w H h':=λa o e =>
 (x a o e).stay (λb u _ q=>k b u q) (λ_ q=>q) λ_ _ q=>q
theorem lW.laid(x:lW P w H h)(k:∀b u,h.get? b=some u->h'.get? b=some u)(hp:h.objs.size<=a)(new:dO P w (upd H a o) h' a o):lW P w (upd H a o) h':=λb u e=>by
 have hn:=x.fresh hp;by_cases hb:b=a
 .subst hb;rw[cz] at e;cases e;exact new
 .rw[aV hb] at e;exact (x b u e).stay (λc v _ q=>k c v q) (λc q=>by rw[aV (aj q hn)];exact q) λc xs q=>by rw[aV (aj q hn)];exact q
end
def Rd(H:Hp)(a:Addr)(u:HO):Prop:=H a=some u \/ ∃o,H a=some (.frz o u)
theorem Rd.ok{u:HO}(r:Rd H a u)(x:lW P w H h):dO P w H h a u:=by
 rcases r with r|⟨o,r⟩
 .exact x a u r
 .obtain⟨_,q⟩:=x a _ r;exact q
def LF:Option HO->Prop
 | some (.lst _)=>True
 | some (.dK _)=>True
 | some (.dT _)=>True
 | some (.set _ _)=>True
 | some (.ins _ _ _)=>True
 | some (.ext _)=>True
 | _=>False
section
variable {P:Program}{w:World}{H:Hp}{h h':Heap}{x e:Addr}{o':HO}
theorem lW.write(ok:lW P w H h)(mu:LF (H x))(he:e=x\/H e=some (.own x))(k:∀b u,b≠e->h.get? b=some u->h'.get? b=some u)(heo:∃u,h'.get? e=some u)
  (new:dO P w (upd H x o') h' x o'):lW P w (upd H x o') h':=λb u q=>by
 have nown:∀c y,H c=some (.own y)->c≠x:=λc y r z=>by subst z;rw[r] at mu;exact mu
 have ntup:∀c xs,H c=some (.tup xs)->c≠x:=λc xs r z=>by subst z;rw[r] at mu;exact mu
 by_cases hb:b=x
 .subst hb;rw[cz] at q;cases q;exact new
 .rw[aV hb] at q;by_cases hbe:b=e
  .have q':H b=some (.own x):=by
    rcases he with z|z
    .exact absurd (hbe.trans z) hb
    .rw[hbe];exact z
   rw[q] at q';cases q';obtain⟨v,hv⟩:=heo;exact⟨v,by rw[hbe];exact hv⟩
  .refine (ok b u q).stay (λc v hc r=>k c v ?_ r) (λc r=>by rw[aV (nown c b r)];exact r) λc xs r=>by rw[aV (ntup c xs r)];exact r
   rcases hc with rfl|hc
   .exact hbe
   .rintro rfl;rcases he with z|z
    .exact nown c b hc z
    .rw[hc] at z;cases z;exact hb rfl
end
structure Un (fs ex:List Addr)(H H':Hp)(h h':Heap):Prop where
 keep:∀b o,h.get? b=some o->H b=none->b∉fs->b∉ex->h'.get? b=some o
 slot:∀b o,h.get? b=some o->H b=none->b∈fs->b∉ex -> ∃sl,h'.get? b=some { o with slots:=sl }
 free:∀b o,h.get? b=some o->H b=none->b∉ex->H' b=none
 there:∀b o,h.get? b=some o->b∉ex -> ∃o',h'.get? b=some o'
 tups:∀b xs,H b=some (.tup xs)->H' b=some (.tup xs)
 frzs:∀b o u,H b=some (.frz o u)->H' b=some (.frz o u)
 tbls:∀b ps,H b=some (.tbl ps) -> ∃more,H' b=some (.tbl (ps++more))
section
variable {fs fs' ex ex':List Addr}{H H1 H2:Hp}{h h1 h2 h':Heap}{a x e:Addr}{o:HO}
theorem Un.any(u:Un fs ex H H1 h h1){b:Addr}{ob:Obj}(q:h.get? b=some ob)(n:H b=none)(hx:b∉ex):∃sl,h1.get? b=some { ob with slots:=sl }:=by
 by_cases hb:b∈fs
 .exact u.slot b ob q n hb hx
 .exact⟨ob.slots,u.keep b ob q n hb hx⟩
theorem Un.kept(k:∀b u,h.get? b=some u->h'.get? b=some u):Un fs ex H H h h' :=
 ⟨λb ob q _ _ _=>k b ob q,λb ob q _ _ _=>⟨ob.slots,k b ob q⟩,λ_ _ _ n _=>n,λb ob q _=>⟨ob,k b ob q⟩,λ_ _ q=>q,λ_ _ _ q=>q,λ_ ps q=>⟨#[],by rw[q];simp⟩⟩
theorem Un.refl:Un fs ex H H h h:=Un.kept λ_ _ q=>q
theorem Un.laid(k:∀b u,h.get? b=some u->h'.get? b=some u)(hp:h.objs.size<=a)(hn:H a=none):Un fs ex H (upd H a o) h h' where
 keep:=λb u q _ _ _=>k b u q
 slot:=λb u q _ _ _=>⟨u.slots,k b u q⟩
 free:=λb u q n _=>by rw[aV (Yf (Yd (Heap.lt_size q) hp))];exact n
 there:=λb u q _=>⟨u,k b u q⟩
 tups:=λb xs q=>by rw[aV (aj q hn)];exact q
 frzs:=λb u xs q=>by rw[aV (aj q hn)];exact q
 tbls:=λb ps q=>⟨#[],by rw[aV (aj q hn),q];simp⟩
theorem Un.write(mu:LF (H x))(he:e=x\/H e=some (.own x))(k:∀b u,b≠e->h.get? b=some u->h'.get? b=some u)(heo:∃u,h'.get? e=some u):Un fs ex H (upd H x o) h h':=by
 have hx:∀b,H b=none->b≠x:=λb n z=>by subst z;rw[n] at mu;exact mu
 have hb:∀b,H b=none->b≠e:=λb n z=>by
  subst z;rcases he with r|r
  .exact hx b n r
  .rw[n] at r;cases r
 have hm:∀b u,H b=some u -> ¬ LF (some u)->b≠x:=λb u q nm z=>by subst z;rw[q] at mu;exact nm mu
 refine⟨λb u q n _ _=>k b u (hb b n) q,λb u q n _ _=>⟨u.slots,k b u (hb b n) q⟩,λb u q n _=>by rw[aV (hx b n)];exact n,λb u q _=>?_,
  λb xs q=>by rw[aV (hm b _ q λz=>z)];exact q,λb u xs q=>by rw[aV (hm b _ q λz=>z)];exact q,λb ps q=>⟨#[],by rw[aV (hm b _ q λz=>z),q];simp⟩⟩
 by_cases hbe:b=e
 .subst hbe;exact heo
 .exact⟨u,k b u hbe q⟩
end
def LC(h:Heap)(H:Hp):List Addr:=(List.range h.objs.size).filter λa=>(H a).isSome
def qG(h:Heap)(H:Hp):Heap:=PySem.W.hideAll h (LC h H)
theorem Au(h:Heap)(H:Hp):(qG h H).objs.size=h.objs.size:=PySem.W.hideAll_size _ _
theorem BE(e:h.get? b=some o)(n:H b=none):(qG h H).get? b=some o :=
 PySem.W.hideAll_get _ e λhm=>by
  have q:(H b).isSome=true:=(List.mem_filter.mp hm).2;rw[n] at q;simp at q
theorem Gi(e:(qG h H).get? b=some o):h.get? b=some o/\H b=none:=by
 have e':h.get? b=some o:=PySem.W.of_hideAll (LC h H) e;refine⟨e',?_⟩;cases q:H b with
 | none=>rfl
 | some x =>
  have hm:b∈LC h H:=List.mem_filter.mpr ⟨List.mem_range.mpr (Heap.lt_size e'),by simp[q]⟩
  have z:(qG h H).get? b=none:=PySem.W.hideAll_none (LC h H) hm;rw[z] at e;cases e
def Gz(g h:Heap)(L:Addr):List (Addr×Obj):=(List.range h.objs.size).filterMap λa=>if a=L\/(g.get? a).isSome=true then none else (h.get? a).map λo=>(a,o)
def rest(g h:Heap)(L d:Addr):List (Addr×Obj):=(Gz g h L).filter λp=>decide (p.1≠d)
structure Mod (K:Sf)(mg:Str->Option Value)(base:Heap):Prop where
 kin:K.In base
 glob:base.Ns mainGlobals mg
 blt:∃mb,base.Ns builtinsNs mb /\ ∀x:Str,x ≠ "__name__"->mb x=bootBuiltins x
 nolimit:base.NoLimit
structure Cx where
 prog:Program
 w:World
 K:Sf
 mg:Str->Option Value
 base:Heap
 A:Around
 N:List Str
 s₀:Shared
 H₀:Hp
 env:Env
 outer:List Env
 stack:List Env
 ex:List Addr
 fn:Str->Bool
 calm:Bool
 pn:List (Addr×Obj)
 xe:Value->Shared->Prop
def iS(l:List Env):List Addr:=l.filterMap (·.frame)
abbrev Cx.fs (X:Cx):List Addr:=iS X.outer
def Ht(sc:Scope)(x:Str):Prop:=sc.names.lookup x=some .local\/sc.names.lookup x=some .cell\/sc.names.lookup x=some .free
def Eh(sc:Scope)(x:Str):Prop:=sc.names.lookup x=some .local\/sc.names.lookup x=some .cell
def Ks(env:Env)(h:Heap)(m:Str->Option Value)(x:Str)(u:Value):Prop :=
 (env.kindOf x=some .local/\m x=some u)\/((env.kindOf x=some .cell\/env.kindOf x=some .free) /\ ∃c,env.cells.lookup x=some c/\h.IsCell c (some u))
structure Cx.Ok (X:Cx):Prop where
 mod:Mod X.K X.mg X.base
 kind:X.env.scope.kind=.function
 glob:X.env.globals=mainGlobals
 blt:X.env.builtins=builtinsNs
 above:X.s₀.heap.objs.size<=X.env.locals
 inj:∀x y c,X.env.cells.lookup x=some c->X.env.cells.lookup y=some c->x=y
 has:∀x,(X.env.kindOf x=some .cell\/X.env.kindOf x=some .free) -> ∃c,X.env.cells.lookup x=some c
 cab:∀x c,X.fn x=true->X.env.cells.lookup x=some c->X.s₀.heap.objs.size<=c
 hd:X.calm=true->X.A.handled=none
 frames:X.A.frames=some X.stack
 stk:X.stack=X.outer\/(X.stack=X.env::X.outer/\X.env.frame=some X.env.locals)
 exf:∀b∈X.ex,b≠X.env.locals /\ ∀x c,X.env.cells.lookup x=some c->c≠b
 bs:∀b o,X.base.get? b=some o->X.s₀.heap.get? b=some o/\X.H₀ b=none
 bsz:X.base.objs.size<=X.s₀.heap.objs.size
 noex:∀b o,X.base.get? b=some o->b∉X.ex
 exfs:∀b∈X.ex,b∉X.fs
 funs:X.s₀.heap.FunFrames X.base X.outer
 frf:∀b∈X.fs,X.H₀ b=none
structure aR (X:Cx)(pins:List (Addr×Obj))(σ:List (Option V))(H:Hp)(s:Shared):Prop where
 ok:X.Ok
 os:s.os=X.s₀.os
 bare:AllBare s.gens
 base:Un X.fs X.ex X.H₀ H X.s₀.heap s.heap
 loc:∃m,s.heap.Ns X.env.locals m /\ ∀(i:Nat)(x:Str)(v:V),X.N[i]? = some x->σ[i]? = some (some v)->Ht X.env.scope x -> ∃u,cw v u/\Ks X.env s.heap m x u
 cell:∀x c,X.env.cells.lookup x=some c -> ∃v,s.heap.IsCell c v
 free:H X.env.locals=none
 freeC:∀x c,X.env.cells.lookup x=some c->H c=none
 pin:∀p∈X.pn++pins,s.heap.get? p.1=some p.2/\H p.1=none/\p.1≠X.env.locals/\p.1∉X.fs /\ ∀v,p.2.data ≠ .cell v
 hok:lW X.prog X.w H s.heap
 len:σ.length=X.N.length
section
variable {X:Cx}{pins:List (Addr×Obj)}{σ:List (Option V)}{H H':Hp}{s:Shared}{h':Heap}
theorem Cx.Ok.nofr(ok:X.Ok){b:Addr}{o:Obj}(e:X.base.get? b=some o):b∉X.fs:=λhb=>by
 have:=(ok.funs.mem hb).1;rw[e] at this;cases this
theorem aR.bs(I:aR X pins σ H s):∀b o,X.base.get? b=some o->s.heap.get? b=some o/\H b=none:=λb o e =>
 ⟨I.base.keep b o (I.ok.bs b o e).1 (I.ok.bs b o e).2 (I.ok.nofr e) (I.ok.noex b o e),I.base.free b o (I.ok.bs b o e).1 (I.ok.bs b o e).2 (I.ok.noex b o e)⟩
theorem aR.bk(I:aR X pins σ H s):∀b o,X.base.get? b=some o->s.heap.get? b=some o:=λb o e=>(I.bs b o e).1
theorem aR.mod(I:aR X pins σ H s):Mod X.K X.mg X.base:=I.ok.mod
theorem aR.kIn(I:aR X pins σ H s):X.K.In s.heap:=I.ok.mod.kin.keeps I.bk
theorem aR.nolimit(I:aR X pins σ H s):s.heap.NoLimit:=I.ok.mod.nolimit.keeps I.bk
theorem aR.lt(I:aR X pins σ H s):X.env.locals<s.heap.objs.size:=let ⟨_,hn,_⟩:=I.loc;hn.lt
theorem aR.sz(I:aR X pins σ H s):X.s₀.heap.objs.size<=s.heap.objs.size:=Yg I.ok.above (Yh I.lt)
theorem aR.nofs(I:aR X pins σ H s){a:Addr}(h:s.heap.objs.size<=a):a∉X.fs:=λhb=>by
 obtain⟨_,o,ho,_⟩:=I.ok.funs.mem hb;exact absurd (Yd (Heap.lt_size ho) (Yg I.sz h)) (Ye _)
theorem aR.cne(I:aR X pins σ H s):∀x c,X.env.cells.lookup x=some c->c≠X.env.locals:=λx c e z=>by
 obtain⟨v,o,ho,hd⟩:=I.cell x c e;obtain⟨m,⟨o',es,ep,ho',hd',_⟩,_⟩:=I.loc;rw[z,ho'] at ho;cases ho;rw[hd'] at hd;cases hd
theorem aR.funs(I:aR X pins σ H s):s.heap.FunFrames X.base X.outer:=by
 have all:∀(l:List Env),(∀b∈iS l,b∈X.fs)->X.s₀.heap.FunFrames X.base l->s.heap.FunFrames X.base l:=by
  intro l;induction l with
  | nil=>intro _ _;trivial
  | cons env r ih =>
   intro hs hl;obtain⟨hk,⟨L,o,hf,hn,ho,hd⟩,hr⟩:=hl;have hL:L∈X.fs:=hs L (by unfold iS;rw[Yi,hf];exact Yj)
   obtain⟨sl,e⟩:=I.base.slot L o ho (I.ok.frf L hL) hL λz=>I.ok.exfs L z hL;exact⟨hk,⟨L,_,hf,hn,e,hd⟩,ih (λb hb=>hs b (by unfold iS;rw[Yi,hf];exact Yk _ hb)) hr⟩
 exact all X.outer (λ_ hb=>hb) I.ok.funs
theorem aR.stack(I:aR X pins σ H s):s.heap.FunFrames X.base X.stack:=by
 rcases I.ok.stk with e|⟨e,hf⟩
 .rw[e];exact I.funs
 .rw[e];obtain⟨m,hn,_⟩:=I.loc;refine .cons (by rw[I.ok.kind];decide) hf hn ?_ I.funs
  exact Heap.get?_none_of_le (Yg I.ok.bsz I.ok.above)
theorem aR.stkSub(I:aR X pins σ H s):∀b∈iS X.stack,b∈X.env.locals::X.fs:=λb hb=>by
 rcases I.ok.stk with e|⟨e,hf⟩
 .rw[e] at hb;exact Yk _ hb
 .rw[e] at hb;unfold iS at hb;rw[Yi,hf] at hb;exact hb
theorem aR.stkFree(I:aR X pins σ H s):∀b∈iS X.stack,H b=none:=λb hb=>by
 rcases Y2.mp (I.stkSub b hb) with e|hb
 .rw[e];exact I.free
 .obtain⟨_,o,ho,_⟩:=I.ok.funs.mem hb;exact I.base.free b o ho (I.ok.frf b hb) λz=>I.ok.exfs b z hb
theorem aR.step{g':Array GenState}{d':Drawn}{ch:List Addr}(I:aR X pins σ H s)
  (hch:∀b∈ch,(b∈X.ex\/X.s₀.heap.objs.size<=b)/\b≠X.env.locals/\(∀x c,X.env.cells.lookup x=some c->c≠b) /\ ∀p∈X.pn++pins,p.1≠b)
  (keep:∀b o,b≠X.env.locals->b∉X.fs->b∉ch->s.heap.get? b=some o->H b=none->h'.get? b=some o)
  (slot:∀b o,b≠X.env.locals->b∈X.fs->b∉ch->s.heap.get? b=some o->H b=none -> ∃sl,h'.get? b=some { o with slots:=sl })(free:∀b o,b∉ch->s.heap.get? b=some o->H b=none->H' b=none)
  (there:∀b o,b∉ch->s.heap.get? b=some o -> ∃o',h'.get? b=some o')
  (tups:∀b xs,H b=some (.tup xs)->H' b=some (.tup xs))(frzs:∀b o u,H b=some (.frz o u)->H' b=some (.frz o u))(tbls:∀b ps,H b=some (.tbl ps) -> ∃more,H' b=some (.tbl (ps++more)))
  (ns:∀m,s.heap.Ns X.env.locals m->h'.Ns X.env.locals m)(hok:lW X.prog X.w H' h')(hg:AllBare g') :
  aR X pins σ H' { s with heap:=h',gens:=g',drawn:=d',toks:=t' }:=by
 have neL:∀b o,X.s₀.heap.get? b=some o->b≠X.env.locals:=λb o e=>Yf (Yd (Heap.lt_size e) I.ok.above);have neC:∀b o,X.s₀.heap.get? b=some o->b∉X.ex->b∉ch:=λb o e hx hb=>by
  rcases (hch b hb).1 with z|z
  .exact hx z
  .exact absurd (Yd (Heap.lt_size e) z) (Ye _)
 have cellK:∀x c,X.env.cells.lookup x=some c -> ∀v,s.heap.IsCell c v->h'.IsCell c v:=λx c e v ⟨o,ho,hd⟩=>by
  have nch:c∉ch:=λz=>(hch c z).2.2.1 x c e rfl;by_cases hc:c∈X.fs
  .obtain⟨sl,q⟩:=slot c o (I.cne x c e) hc nch ho (I.freeC x c e);exact⟨_,q,hd⟩
  .exact⟨o,keep c o (I.cne x c e) hc nch ho (I.freeC x c e),hd⟩
 refine⟨I.ok,I.os,hg,⟨λb o e n hb hx=>?_,λb o e n hb hx=>?_,λb o e n hx=>?_,λb o e hx=>?_,λb xs e=>tups b xs (I.base.tups b xs e),λb o xs e=>frzs b o xs (I.base.frzs b o xs e),λb ps e=>?_⟩,?_,λx c e=>?_,?_,λx c e=>?_,λp hp=>?_,hok,I.len⟩
 .exact keep b o (neL b o e) hb (neC b o e hx) (I.base.keep b o e n hb hx) (I.base.free b o e n hx)
 .obtain⟨sl,e1⟩:=I.base.slot b o e n hb hx;obtain⟨sl',e2⟩:=slot b _ (neL b o e) hb (neC b o e hx) e1 (I.base.free b o e n hx);exact⟨sl',e2⟩
 .obtain⟨o',e1⟩:=I.base.there b o e hx;exact free b o' (neC b o e hx) e1 (I.base.free b o e n hx)
 .obtain⟨o',e1⟩:=I.base.there b o e hx;exact there b o' (neC b o e hx) e1
 .obtain⟨m1,e1⟩:=I.base.tbls b ps e;obtain⟨m2,e2⟩:=tbls b _ e1;exact⟨m1++m2,by rw[e2,Array.append_assoc]⟩
 .obtain⟨m,hn,hl⟩:=I.loc;refine⟨m,ns m hn,λi x v e1 e2 e3=>?_⟩;obtain⟨u,r,l⟩:=hl i x v e1 e2 e3;refine⟨u,r,?_⟩;rcases l with l|⟨k,c,e,z⟩
  .exact .inl l
  .exact .inr ⟨k,c,e,cellK x c e _ z⟩
 .obtain⟨v,z⟩:=I.cell x c e;exact⟨v,cellK x c e v z⟩
 .obtain⟨m,⟨o,_,_,ho,_⟩,_⟩:=I.loc;exact free _ o (λz=>(hch _ z).2.1 rfl) ho I.free
 .obtain⟨v,o,ho,hd⟩:=I.cell x c e;exact free c o (λz=>(hch c z).2.2.1 x c e rfl) ho (I.freeC x c e)
 .obtain⟨e,n,ne,nf,d⟩:=I.pin p hp;have nch:p.1∉ch:=λz=>(hch p.1 z).2.2.2 p hp rfl;exact⟨keep p.1 p.2 ne nf nch e n,free p.1 p.2 nch e n,ne,nf,d⟩
theorem aR.un(I:aR X pins σ H s)(u:Un X.fs [] H H' s.heap h')(hok:lW X.prog X.w H' h'):aR X pins σ H' { s with heap:=h',toks:=t' }:=by
 obtain⟨m,⟨o,es,ep,ho,r⟩,_⟩:=id I.loc;obtain⟨sl,hL⟩:=u.any ho I.free (by simp)
 exact I.step (g':=s.gens) (d':=s.drawn) (ch:=[]) (λ_ z=>nomatch z) (λb o _ hb _ e n=>u.keep b o e n hb (by simp)) (λb o _ hb _ e n=>u.slot b o e n hb (by simp)) (λb o _ e n=>u.free b o e n (by simp)) (λb o _ e=>u.there b o e (by simp)) u.tups u.frzs u.tbls (λm' hm=>by
  obtain⟨o',es',ep',ho',r'⟩:=hm;rw[ho] at ho';cases ho';exact⟨_,es',ep',hL,r'⟩) hok I.bare
theorem aR.call{g':Array GenState}{d':Drawn}{ch:List Addr}(I:aR X pins σ H s)(u:Un (iS X.stack) ch H H' s.heap h')(hok:lW X.prog X.w H' h')(hg:AllBare g')
  (hch:∀b∈ch,(b∈X.ex\/X.s₀.heap.objs.size<=b)/\b≠X.env.locals/\(∀x c,X.env.cells.lookup x=some c->c≠b) /\ ∀p∈X.pn++pins,p.1≠b) :
  aR X pins σ H' { s with heap:=h',gens:=g',drawn:=d',toks:=t' }:=by
 obtain⟨m,⟨o,es,ep,ho,r⟩,_⟩:=id I.loc;obtain⟨sl,hL⟩:=u.any ho I.free λz=>(hch _ z).2.1 rfl;exact I.step (ch:=ch) hch (λb o hL hb hc e n=>u.keep b o e n (λz=>(Y2.mp (I.stkSub b z)).elim hL hb) hc) (λb o _ _ hc e n=>u.any e n hc) (λb o hc e n=>u.free b o e n hc) (λb o hc e=>u.there b o e hc) u.tups u.frzs u.tbls (λm' hm=>by
  obtain⟨o',es',ep',ho',r'⟩:=hm;rw[ho] at ho';cases ho';exact⟨_,es',ep',hL,r'⟩) hok hg
theorem aR.turned{it:Addr}(I:aR X pins σ H s)(k:∀b o,b≠it->s.heap.get? b=some o->h'.get? b=some o)(hn:H it=none)(hL:it≠X.env.locals)
  (h1:it∈X.ex\/X.s₀.heap.objs.size<=it)(h2:∀x c,X.env.cells.lookup x=some c->c≠it)(h3:∀p∈X.pn++pins,p.1≠it):aR X pins σ H { s with heap:=h',toks:=t' }:=by
 have nit:∀b u,H b=some u->b≠it:=λb u e z=>by rw[z,hn] at e;cases e
 refine I.step (g':=s.gens) (d':=s.drawn) (ch:=[it]) (λb hb=>?_) (λb o _ _ hc e _=>k b o (λz=>hc (by simp[z])) e) (λb o _ _ hc e _=>⟨o.slots,k b o (λz=>hc (by simp[z])) e⟩) (λ_ _ _ _ n=>n)
  (λb o hc e=>⟨o,k b o (λz=>hc (by simp[z])) e⟩) (λ_ _ e=>e) (λ_ _ _ e=>e) (λb ps e=>⟨#[],by rw[e];simp⟩) (λm hm=>?_) (λb u e=>?_) I.bare
 .have e:b=it:=by simpa using hb
  subst e;exact⟨h1,hL,h2,h3⟩
 .obtain⟨o,es,ep,ho,r⟩:=hm;exact⟨o,es,ep,k _ o (Yl hL) ho,r⟩
 .refine (I.hok b u e).stay (λc v hc q=>k c v ?_ q) (λ_ q=>q) λ_ _ q=>q;rcases hc with z|z
  .rw[z];exact nit b u e
  .exact nit c _ z
theorem aR.tok(I:aR X pins σ H s)(t:Nat):aR X pins σ H { s with toks:=t }:=I.un (h':=s.heap) (t':=t) Un.refl I.hok
theorem aR.kept{t':Nat}(I:aR X pins σ H s)(k:∀b u,s.heap.get? b=some u->h'.get? b=some u):aR X pins σ H { s with heap:=h',toks:=t' }:=I.un (Un.kept k) (I.hok.kept k)
theorem aR.laid{a:Addr}{o:HO}{t':Nat}(I:aR X pins σ H s)(k:∀b u,s.heap.get? b=some u->h'.get? b=some u)(hp:s.heap.objs.size<=a)(new:dO X.prog X.w (upd H a o) h' a o):
  aR X pins σ (upd H a o) { s with heap:=h',toks:=t' }:=I.un (Un.laid k hp (I.hok.fresh hp)) (I.hok.laid k hp new)
theorem aR.write{x e:Addr}{o:HO}{t':Nat}(I:aR X pins σ H s)(mu:LF (H x))(he:e=x\/H e=some (.own x))(k:∀b u,b≠e->s.heap.get? b=some u->h'.get? b=some u)(heo:∃u,h'.get? e=some u)
  (new:dO X.prog X.w (upd H x o) h' x o):aR X pins σ (upd H x o) { s with heap:=h',toks:=t' }:=I.un (Un.write mu he k heo) (I.hok.write mu he k heo new)
theorem aR.pins_of{pins':List (Addr×Obj)}(I:aR X pins σ H s)(h:∀p∈pins',s.heap.get? p.1=some p.2/\H p.1=none/\p.1≠X.env.locals/\p.1∉X.fs /\ ∀v,p.2.data ≠ .cell v):aR X pins' σ H s :=
 ⟨I.ok,I.os,I.bare,I.base,I.loc,I.cell,I.free,I.freeC,λp hp=>(List.mem_append.mp hp).elim (λz=>I.pin p (List.mem_append_left _ z)) (h p),I.hok,I.len⟩
theorem vo{N:List Str}(hN:N.Nodup){i j:Nat}{x:Str}(a:N[i]? = some x)(b:N[j]? = some x):i=j:=by
 obtain⟨h1,e1⟩:=List.getElem?_eq_some_iff.mp a;obtain⟨h2,e2⟩:=List.getElem?_eq_some_iff.mp b;exact (List.getElem_inj hN).mp (e1.trans e2.symm)
theorem sB{M:Model}(I:aR X pins σ H s)(hN:X.N.Nodup)(hi:X.N[i]? = some x)(hx:Eh X.env.scope x)(r:cw v u)
  (h:∀s',aR X pins (σ.set i (some v)) H s'->(∃a,Heap.SameBut a s.heap s'.heap/\(a=X.env.locals\/X.env.cells.lookup x=some a))->Q PUnit.unit s')(hf:X.fn x=true\/X.env.scope.names.lookup x=some .local:=by first|walk_at "a1"|assumption):wpAny M A (storeName X.env x u) Q E s:=by
 obtain⟨m,hn,hl⟩:=id I.loc;have hcls:(X.env.scope.kind == .class || (X.env.scope.kind == .module && X.env.locals != X.env.globals))=false:=by rw[I.ok.kind];rfl
 have hiσ:i<σ.length:=by rw[I.len];exact (List.getElem?_eq_some_iff.mp hi).1
 have cne:=I.cne;have tracked:∀{a:Addr}{h':Heap},(∃o,s.heap.get? a=some o/\H a=none)->Heap.SameBut a s.heap h'->lW X.prog X.w H h':=λ{a h'} ha hs b ob e=>by
  obtain⟨_,_,hfree⟩:=ha;refine (I.hok b ob e).stay (λc w' hc q=>(hs.2 c ?_).trans q) (λ_ q=>q) λ_ _ q=>q;rintro rfl;rcases hc with rfl|hc
  .rw[hfree] at e;cases e
  .rw[hfree] at hc;cases hc
 rcases hx with hk|hk
 .refine wpAny_storeName_local hk hn (λh' hn' hs=>?_) hcls;obtain⟨oL,_,_,hoL,_⟩:=id hn;refine h _ ⟨I.ok,I.os,I.bare,⟨λb o e n hb hx=>?_,λb o e n hb hx=>?_,I.base.free,λb o e hx=>?_,I.base.tups,I.base.frzs,I.base.tbls⟩,⟨_,hn',λj y v' e1 e2 e3=>?_⟩,λy c e=>?_,I.free,I.freeC,λp hp=>?_,tracked ⟨oL,hoL,I.free⟩ hs,by simpa using I.len⟩ ⟨_,hs,.inl rfl⟩
  .exact (hs.2 b (Yf (Yd (Heap.lt_size e) I.ok.above))).trans (I.base.keep b o e n hb hx)
  .obtain⟨sl,e1⟩:=I.base.slot b o e n hb hx;exact⟨sl,(hs.2 b (Yf (Yd (Heap.lt_size e) I.ok.above))).trans e1⟩
  .obtain⟨o',e1⟩:=I.base.there b o e hx;exact⟨o',(hs.2 b (Yf (Yd (Heap.lt_size e) I.ok.above))).trans e1⟩
  .by_cases hj:j=i
   .subst hj;rw[hi] at e1;cases e1;rw[Ym hiσ] at e2;cases e2;exact⟨u,r,.inl ⟨hk,by simp⟩⟩
   .rw[Yn (Yl hj)] at e2;obtain⟨u',r',q⟩:=hl j y v' e1 e2 e3;refine⟨u',r',?_⟩;rcases q with ⟨k,e⟩|⟨k,c,e,z⟩
    .refine .inl ⟨k,?_⟩;have:y≠x:=λe=>hj (vo hN e1 (e▸hi));simp[this,e]
    .exact .inr ⟨k,c,e,z.sameBut hs (cne y c e)⟩
  .obtain⟨w',z⟩:=I.cell y c e;exact⟨w',z.sameBut hs (cne y c e)⟩
  .obtain⟨e,n,ne,nf,d⟩:=I.pin p hp;exact⟨(hs.2 p.1 ne).trans e,n,ne,nf,d⟩
 .have hfn:X.fn x=true:=by
   rcases hf with z|z
   .exact z
   .rw[z] at hk;cases hk
  obtain⟨c,hc⟩:=I.ok.has x (.inl hk);obtain⟨w',z⟩:=I.cell x c hc;refine wpAny_storeName_cell I.ok.kind hk hc z (λh' hc' hs=>?_);obtain⟨oc,hoc,hocd⟩:=id z;refine h { s with heap:=h' } ⟨I.ok,I.os,I.bare,⟨λb o e n hb hx=>?_,λb o e n hb hx=>?_,I.base.free,λb o e hx=>?_,I.base.tups,I.base.frzs,I.base.tbls⟩,⟨m,hn.sameBut hs (Yl (cne x c hc)),λj y v' e1 e2 e3=>?_⟩,λy c' e=>?_,I.free,I.freeC,λp hp=>?_,tracked ⟨oc,hoc,I.freeC x c hc⟩ hs,by simpa using I.len⟩ ⟨c,hs,.inr hc⟩
  .exact (hs.2 b (Yf (Yd (Heap.lt_size e) (I.ok.cab x c hfn hc)))).trans (I.base.keep b o e n hb hx)
  .obtain⟨sl,e1⟩:=I.base.slot b o e n hb hx;exact⟨sl,(hs.2 b (Yf (Yd (Heap.lt_size e) (I.ok.cab x c hfn hc)))).trans e1⟩
  .obtain⟨o',e1⟩:=I.base.there b o e hx;exact⟨o',(hs.2 b (Yf (Yd (Heap.lt_size e) (I.ok.cab x c hfn hc)))).trans e1⟩
  .by_cases hj:j=i
   .subst hj;rw[hi] at e1;cases e1;rw[Ym hiσ] at e2;cases e2;exact⟨u,r,.inr ⟨.inl hk,c,hc,hc'⟩⟩
   .rw[Yn (Yl hj)] at e2;obtain⟨u',r',q⟩:=hl j y v' e1 e2 e3;refine⟨u',r',?_⟩;rcases q with q|⟨k,c',e,z'⟩
    .exact .inl q
    .refine .inr ⟨k,c',e,z'.sameBut hs ?_⟩;rintro rfl;exact hj (vo hN e1 (I.ok.inj _ _ _ e hc▸hi))
  .by_cases hcc:c'=c
   .subst hcc;exact⟨_,hc'⟩
   .obtain⟨w2,z2⟩:=I.cell y c' e;exact⟨w2,z2.sameBut hs hcc⟩
  .obtain⟨e,n,ne,nf,d⟩:=I.pin p hp;refine⟨(hs.2 p.1 ?_).trans e,n,ne,nf,d⟩;intro q;rw[q,hoc] at e;have q':oc=p.2:=Yo e;exact d w' (by rw[<-q'];exact hocd)
theorem fK{M:Model}(I:aR X pins σ H s)(hN:X.N.Nodup)(hi:X.N[i]? = some x)(hx:Eh X.env.scope x)(r:cw v u)
  (h:∀s',aR X pins (σ.set i (some v)) H s'->Q PUnit.unit s')(hf:X.fn x=true\/X.env.scope.names.lookup x=some .local:=by first|walk_at "a1"|assumption):wpAny M A (storeName X.env x u) Q E s :=
 sB I hN hi hx r (λs' I' _=>h s' I') hf
theorem aR.call'{s':Shared}{ch:List Addr}(I:aR X pins σ H s)(ho:s'.os=s.os)(u:Un (iS X.stack) ch H H' s.heap s'.heap)(hok:lW X.prog X.w H' s'.heap)(hg:AllBare s'.gens)
  (hch:∀b∈ch,(b∈X.ex\/X.s₀.heap.objs.size<=b)/\b≠X.env.locals/\(∀x c,X.env.cells.lookup x=some c->c≠b) /\ ∀p∈X.pn++pins,p.1≠b):aR X pins σ H' s':=by
 obtain⟨h',g',d',t',o'⟩:=s';have e:o'=s.os:=ho;subst e;exact I.call (g':=g') (t':=t') (d':=d') u hok hg hch
end
abbrev XK:=Value->Option Addr->Hp->Prop
abbrev St:=List (Option V)
abbrev VK:=V->Hp->Prop
abbrev TE:=St->Hp->VK->Prop
abbrev TT:=St->Hp->(Bool->Hp->Prop)->Prop
abbrev TA:=St->Hp->(List V->Hp->Prop)->Prop
structure oZ where
 nx:St->Hp->Prop
 rt:VK
 bk:St->Hp->Prop:=λ_ _=>False
 ct:St->Hp->Prop:=λ_ _=>False
abbrev TS:=oZ->St->Hp->Prop
def EP(X:Cx)(pins:List (Addr×Obj))(σ:St)(Q:VK)(u:Value)(s':Shared):Prop:=∃v H',aR X pins σ H' s'/\cw v u/\Q v H'
def TP(X:Cx)(pins:List (Addr×Obj))(σ:St)(Q:Bool->Hp->Prop)(b:Bool)(s':Shared):Prop:=∃H',aR X pins σ H' s'/\Q b H'
def AP(X:Cx)(pins:List (Addr×Obj))(σ:St)(Q:List V->Hp->Prop)(us:List Value)(s':Shared):Prop:=∃vs H',aR X pins σ H' s'/\bJ vs us/\Q vs H'
def SP(X:Cx)(pins:List (Addr×Obj))(D:oZ)(f:Flow)(s':Shared):Prop :=
 match f with
 | .next=>∃σ' H',aR X pins σ' H' s'/\D.nx σ' H'
 | .brk=>∃σ' H',aR X pins σ' H' s'/\D.bk σ' H'
 | .cont=>∃σ' H',aR X pins σ' H' s'/\D.ct σ' H'
 | .ret u=>∃v σ' H',aR X pins σ' H' s'/\cw v u/\D.rt v H'
def PE(X:Cx)(e:Expr)(t:TE):Prop :=
 ∀pins s(σ:St)H(Q:VK),aR X pins σ H s->t σ H Q->wpAny (model X.prog X.w) X.A (eval e X.env) (EP X pins σ Q) X.xe s
def PT(X:Cx)(e:Expr)(t:TT):Prop :=
 ∀pins s(σ:St)H(Q:Bool->Hp->Prop),aR X pins σ H s->t σ H Q->wpAny (model X.prog X.w) X.A (isTrue e X.env (eval e X.env)) (TP X pins σ Q) X.xe s
def PW(X:Cx)(e:Expr)(t:TT):Prop :=
 ∀(whole:Sem Value)(pins:List (Addr×Obj))(s:Shared)(σ:St)(H:Hp)(Q:Bool->Hp->Prop),aR X pins σ H s->t σ H Q->wpAny (model X.prog X.w) X.A (isTrue e X.env whole) (TP X pins σ Q) X.xe s
theorem PW.pt{e:Expr}{t:TT}(h:PW X e t):PT X e t:=h _
def PA(X:Cx)(es:List Expr)(t:TA):Prop :=
 ∀(pos:Pos)(pins:List (Addr×Obj))(s:Shared)(σ:St)(H:Hp)(Q:List V->Hp->Prop),aR X pins σ H s->t σ H Q->wpAny (model X.prog X.w) X.A (spliced (backTo pos (starEach es X.env))) (AP X pins σ Q) X.xe s
def PS(X:Cx)(st:Stmt)(t:TS):Prop :=
 ∀pins s(σ:St)H(D:oZ),aR X pins σ H s->t D σ H->wpAny (model X.prog X.w) X.A (exec st X.env) (SP X pins D) X.xe s
def uW(X:Cx)(st:List Stmt)(t:TS):Prop :=
 ∀pins s(σ:St)H(D:oZ),aR X pins σ H s->t D σ H->wpAny (model X.prog X.w) X.A (execs st X.env) (SP X pins D) X.xe s
theorem dc{α:Type}{t:Sem α}{Q Q':α->Shared->Prop}{M:Model}(h:wpAny M A t Q E s)(hQ:∀a s,Q a s->Q' a s):wpAny M A t Q' E s:=wpAny_mono h hQ λ_ _ x=>x
section
variable {X:Cx}
def FC(i:Nat):TE:=λσ H Q=>∃v,σ[i]? = some (some v)/\Q v H
def tC(v:V):TE:=λ_ H Q=>Q v H
theorem Dc(hN:X.N[i]? = some x)(hv:Ht X.env.scope x)(hd:(x==("__debug__":Str))=false:=by decide)(hcd:(x==("__classdict__":Str))=false:=by decide):PE X (.Name x pos) (FC i):=by
 intro pins s σ H Q I h;obtain⟨v,e,h⟩:=h;obtain⟨m,hn,hl⟩:=I.loc;obtain⟨u,r,l⟩:=hl i x v hN e hv;have fin:EP X pins σ Q u s:=⟨v,H,I,r,h⟩;rcases l with ⟨hk,hm⟩|⟨hk,c,hc,hcell⟩
 .exact wpAny_Name (wpAny_loadName_local I.ok.kind hk hn hm fin) hd
 .rcases hk with hk|hk
  .exact wpAny_Name (wpAny_loadName_cell I.ok.kind hk hc hcell fin) hd
  .exact wpAny_Name (wpAny_loadName_free I.ok.kind hk hc hcell fin hcd) hd
theorem Jr  {i j pos}:PE X (.Constant (.int i) j pos) (tC (.int i)):=λ_ _ _ H _ I h=>wpAny_Constant_int ⟨.int i,H,I.tok _,⟨_,rfl⟩,h⟩
theorem KM  {b j pos}:PE X (.Constant (.bool b) j pos) (tC (.bl b)):=λ_ _ _ H _ I h=>Constant_bool ⟨.bl b,H,I,rfl,h⟩
theorem Hn  {j pos}:PE X (.Constant .none j pos) (tC .non):=λ_ _ _ H _ I h=>Constant_none ⟨.non,H,I,rfl,h⟩
theorem Io  {x j pos}:PE X (.Constant (.str x) j pos) (tC (.str x)):=λ_ _ _ H _ I h=>Calls.Constant_str ⟨.str x,H,I.tok _,⟨_,rfl⟩,h⟩
def Gl(X:Cx)(x:Str):Prop:=X.env.kindOf x=some .globalImplicit
theorem kA{Q:Value->Shared->Prop}(I:aR X pins σ H s)(hg:Gl X x)(hm:X.mg x=some u)(h:Q u s)
  (hd:(x==("__debug__":Str))=false:=by decide):wpAny (model X.prog X.w) X.A (eval (.Name x pos) X.env) Q E s :=
 Calls.Name_function_global I.ok.kind hg (Calls.loadGlobal_global (by rw[I.ok.glob];exact I.mod.glob.keeps I.bk) hm h) hd
theorem jn{Q:Value->Shared->Prop}(I:aR X pins σ H s)(hg:Gl X x)(hm:X.mg x=none)(hv:bootBuiltins x=some u)(h:Q u s)
  (hn:x ≠ "__name__":=by decide) (hd:(x==("__debug__":Str))=false:=by decide):wpAny (model X.prog X.w) X.A (eval (.Name x pos) X.env) Q E s:=by
 obtain⟨mb,h1,h2⟩:=I.mod.blt;exact Calls.Name_function_global I.ok.kind hg (Calls.loadGlobal_builtin (by rw[I.ok.glob];exact I.mod.glob.keeps I.bk) hm (by rw[I.ok.blt];exact h1.keeps I.bk) ((h2 x hn).trans hv) h) hd
theorem FE(hg:Gl X x)(hm:X.mg x=some u)(r:cw v u)(hd:(x==("__debug__":Str))=false:=by decide):PE X (.Name x pos) (tC v) :=
 λ_ _ _ H _ I h=>kA I hg hm ⟨v,H,I,r,h⟩ hd
theorem Es(hg:Gl X x)(hm:X.mg x=none)(hv:bootBuiltins x=some u)(r:cw v u)(hn:x ≠ "__name__":=by decide)(hd:(x==("__debug__":Str))=false:=by decide):PE X (.Name x pos) (tC v) :=
 λ_ _ _ H _ I h=>jn I hg hm hv ⟨v,H,I,r,h⟩ hn hd
variable {a b:Expr}{ta tb:TE}{pos:Pos}
def tB(t:TE):TT:=λσ H Q=>t σ H λx H1=>∃c,x=.bl c/\Q c H1
theorem Jn{e:Expr}{t:TE}(h:PE X e t)(he:∀whole,isTrue e X.env whole=(do let v <-whole;standAt e.pos;holding [v] (truthy v)):=by intro _;rfl):PT X e (tB t):=by
 intro pins s σ H Q I hw;refine isTrue_plain (dc (h pins s σ H _ I hw) λv s1 ⟨x,H1,I1,r1,q1⟩=>?_) (he _);obtain⟨d,rfl,q⟩:=q1;cases r1;exact wpAny_truthy_bool ⟨H1,I1,q⟩
variable {tA tB':TT}{rest:List Expr}
def HV(t u:TT):TT:=λσ H Q=>t σ H λc H1=>if c=true then u σ H1 Q else Q false H1
def Mg(t u:TT):TT:=λσ H Q=>t σ H λc H1=>if c=true then Q true H1 else u σ H1 Q
def IE(t:TT):TT:=λσ H Q=>t σ H λc H1=>Q (!c) H1
theorem Et(ha:PT X a tA):PW X (.BoolOp .And [a] pos) tA:=by
 intro wh pins s σ H Q I h;refine isTrue_and (dc (ha pins s σ H Q I h) λc s1 e=>?_);cases c with
 | true=>exact isTrue_and_nil e
 | false=>exact e
theorem Jf(ha:PT X a tA):PW X (.BoolOp .Or [a] pos) tA:=by
 intro wh pins s σ H Q I h;refine isTrue_or (dc (ha pins s σ H Q I h) λc s1 e=>?_);cases c with
 | false=>exact isTrue_or_nil e
 | true=>exact e
theorem JU(ha:PT X a tA)(hb:PW X (.BoolOp .And (b::rest) pos) tB'):PW X (.BoolOp .And (a::b::rest) pos) (HV tA tB'):=by
 intro wh pins s σ H Q I h;refine isTrue_and (dc (ha pins s σ H _ I h) λc s1 ⟨H1,I1,q1⟩=>?_);cases c with
 | true=>exact hb wh pins s1 σ H1 Q I1 q1
 | false=>exact⟨H1,I1,q1⟩
theorem KZ(ha:PT X a tA)(hb:PW X (.BoolOp .Or (b::rest) pos) tB'):PW X (.BoolOp .Or (a::b::rest) pos) (Mg tA tB'):=by
 intro wh pins s σ H Q I h;refine isTrue_or (dc (ha pins s σ H _ I h) λc s1 ⟨H1,I1,q1⟩=>?_);cases c with
 | true=>exact⟨H1,I1,q1⟩
 | false=>exact hb wh pins s1 σ H1 Q I1 q1
theorem HY(ha:PT X a tA):PT X (.UnaryOp .Not a pos) (IE tA):=by
 intro pins s σ H Q I h;exact isTrue_not (ha pins s σ H (λc H1=>Q (!c) H1) I h)
def yF(ta tb:TE):TE:=λσ H Q=>ta σ H λx H1=>∃c,x=.bl c/\if c=true then tb σ H1 Q else Q (.bl false) H1
def EI(ta tb:TE):TE:=λσ H Q=>ta σ H λx H1=>∃c,x=.bl c/\if c=true then Q (.bl true) H1 else tb σ H1 Q
def zl(ta:TE):TE:=λσ H Q=>ta σ H λx H1=>∃c,x=.bl c/\Q (.bl (!c)) H1
theorem Iu  {op}{t:TE}(h:PE X a t):PE X (.BoolOp op [a] pos) t:=λpins s σ H Q I hw=>BoolOp_one (h pins s σ H Q I hw)
theorem IF(ha:PE X a ta)(hb:PE X (.BoolOp .And (b::rest) pos) tb):PE X (.BoolOp .And (a::b::rest) pos) (yF ta tb):=by
 intro pins s σ H Q I h;refine BoolOp_and (dc (ha pins s σ H _ I h) λv s1 ⟨x,H1,I1,r1,q1⟩=>?_);obtain⟨c,rfl,q1⟩:=q1;cases r1;refine wpAny_truthy_bool ?_;cases c with
 | true=>exact hb pins s1 σ H1 Q I1 q1
 | false=>exact⟨.bl false,H1,I1,rfl,q1⟩
theorem KW(ha:PE X a ta)(hb:PE X (.BoolOp .Or (b::rest) pos) tb):PE X (.BoolOp .Or (a::b::rest) pos) (EI ta tb):=by
 intro pins s σ H Q I h;refine BoolOp_or (dc (ha pins s σ H _ I h) λv s1 ⟨x,H1,I1,r1,q1⟩=>?_);obtain⟨c,rfl,q1⟩:=q1;cases r1;refine wpAny_truthy_bool ?_;cases c with
 | false=>exact hb pins s1 σ H1 Q I1 q1
 | true=>exact⟨.bl true,H1,I1,rfl,q1⟩
theorem IP(ha:PE X a ta):PE X (.UnaryOp .Not a pos) (zl ta):=by
 intro pins s σ H Q I h;refine UnaryOp_ (dc (ha pins s σ H _ I h) λv s1 ⟨x,H1,I1,r1,q1⟩=>?_);obtain⟨c,rfl,q1⟩:=q1;cases r1;exact not_of (wpAny_truthy_bool ⟨.bl (!c),H1,I1,rfl,q1⟩)
def LP(t:TT)(ta tb:TE):TE:=λσ H Q=>t σ H λc H1=>if c=true then ta σ H1 Q else tb σ H1 Q
theorem BI(hc:PT X c tA)(ha:PE X a ta)(hb:PE X b tb):PE X (.IfExp c a b pos) (LP tA ta tb):=by
 intro pins s σ H Q I h;refine wpAny_IfExp (dc (hc pins s σ H _ I h) λd s1 ⟨H1,I1,q1⟩=>?_);cases d with
 | true=>exact ha pins s1 σ H1 Q I1 q1
 | false=>exact hb pins s1 σ H1 Q I1 q1
end
def jx(K:Sf)(H:Hp)(a:Addr)(xs:List V):Prop :=
 Rd H a (.lst xs) \/
  ∃(o:Obj)(its:Array Value)(n:Nat),K.lookup a=some o/\o.cls=.type "list" /\ o.dict=none/\o.data=.seq its n/\its.size<=sizeLine/\bJ xs its.toList
def wK(K:Sf)(H:Hp)(a:Addr)(xs:List V):Prop :=
 Rd H a (.tup xs) \/
  ∃(o:Obj)(its:Array Value)(n:Nat),K.lookup a=some o/\o.cls=.type "tuple" /\ o.data=.seq its n/\its.size<=sizeLine/\bJ xs its.toList
def Kk:Value->Option V
 | .none=>some .non
 | .bool b=>some (.bl b)
 | .int i _=>some (.int i)
 | .str x _=>some (.str x)
 | .bytes b _=>some (.byt b)
 | .float b _=>some (.flt b)
 | .ref a=>some (.ref a)
 | .type n=>some (.ty n)
 | _=>none
theorem cw.abs{x:V}(r:cw x u):Kk u=some x:=by
 cases x with
 | non=>cases r;rfl
 | bl _=>cases r;rfl
 | int _=>obtain⟨t,rfl⟩:=r;rfl
 | str _=>obtain⟨t,rfl⟩:=r;rfl
 | byt _=>obtain⟨t,rfl⟩:=r;rfl
 | flt _=>obtain⟨t,rfl⟩:=r;rfl
 | ref _=>cases r;rfl
 | ty _=>cases r;rfl
theorem cw.inj{x y:V}(r:cw x u)(q:cw y u):x=y:=Yo (r.abs.symm.trans q.abs)
theorem bJ.inj:∀{xs ys:List V}{us:List Value},bJ xs us->bJ ys us->xs=ys
 | _,_,_,.nil,.nil=>rfl
 | _,_,_,.cons r t,.cons r' t'=>by rw[r.inj r',bJ.inj t t']
section
variable {X:Cx}{pins:List (Addr×Obj)}{σ:St}{H:Hp}{s:Shared}{a:Addr}{xs ys:List V}
theorem jx.of(h:H a=some (.lst xs)):jx K H a xs:=.inl (.inl h)
theorem wK.of(h:H a=some (.tup xs)):wK K H a xs:=.inl (.inl h)
theorem aR.list(I:aR X pins σ H s)(h:jx X.K H a xs):∃its:List Value,bJ xs its/\PlainL s.heap a its.toArray/\xs.length<=sizeLine:=by
 rcases h with h|⟨o,its,n,hk,hc,hd,hs,hz,r⟩
 .obtain⟨z,its,n,r,e⟩:=h.ok I.hok;exact⟨its,r,⟨_,n,e,rfl,rfl,rfl⟩,z⟩
 .refine⟨its.toList,r,⟨o,n,I.kIn a o hk,hc,hd,by simpa using hs⟩,?_⟩
  have e:=r.length;simp only[Array.length_toList] at e;nofun
theorem aR.tuple(I:aR X pins σ H s)(h:wK X.K H a xs):∃its:List Value,bJ xs its/\IsTup s.heap a its.toArray/\xs.length<=sizeLine:=by
 rcases h with h|⟨o,its,n,hk,hc,hs,hz,r⟩
 .obtain⟨z,its,r,p⟩:=h.ok I.hok;exact⟨its,r,p,z⟩
 .refine⟨its.toList,r,⟨o,I.kIn a o hk,hc,n,by simpa using hs⟩,?_⟩
  have e:=r.length;simp only[Array.length_toList] at e;nofun
theorem aR.list_inj(I:aR X pins σ H s)(h:jx X.K H a xs)(h':jx X.K H a ys):xs=ys:=by
 obtain⟨its,r,⟨o,n,e,_,_,d⟩,_⟩:=I.list h;obtain⟨its',r',⟨o',n',e',_,_,d'⟩,_⟩:=I.list h';rw[e] at e';cases e';rw[d] at d';injection d' with d1 _
 have:its=its':=by simpa using Yp Array.toList d1
 subst this;exact r.inj r'
end
abbrev Cx.wish (X:Cx)(E:Value->Shared->Prop):Cx:={ X with xe:=E }
abbrev Cx.nox (X:Cx):Cx:=X.wish λ_ _=>False
theorem Cx.Ok.wish{X:Cx}(ok:X.Ok)(E:Value->Shared->Prop):(X.wish E).Ok :=
 ⟨ok.mod,ok.kind,ok.glob,ok.blt,ok.above,ok.inj,ok.has,ok.cab,ok.hd,ok.frames,ok.stk,ok.exf,ok.bs,ok.bsz,ok.noex,ok.exfs,ok.funs,ok.frf⟩
theorem Cx.Ok.unwish(ok:(X.wish E).Ok):X.Ok :=
 ⟨ok.mod,ok.kind,ok.glob,ok.blt,ok.above,ok.inj,ok.has,ok.cab,ok.hd,ok.frames,ok.stk,ok.exf,ok.bs,ok.bsz,ok.noex,ok.exfs,ok.funs,ok.frf⟩
section
variable {X:Cx}{pins:List (Addr×Obj)}{σ:St}{H:Hp}{s:Shared}{E:Value->Shared->Prop}
theorem aR.wish(I:aR X pins σ H s)(E:Value->Shared->Prop):aR (X.wish E) pins σ H s:=⟨I.ok.wish E,I.os,I.bare,I.base,I.loc,I.cell,I.free,I.freeC,I.pin,I.hok,I.len⟩
theorem aR.unwish(I:aR (X.wish E) pins σ H s):aR X pins σ H s:=⟨I.ok.unwish,I.os,I.bare,I.base,I.loc,I.cell,I.free,I.freeC,I.pin,I.hok,I.len⟩
theorem SP.unwish{D:oZ}{f:Flow}{s':Shared}(h:SP (X.wish E) pins D f s'):SP X pins D f s':=by
 cases f with
 | next=>obtain⟨σ',H',I,q⟩:=h;exact⟨σ',H',I.unwish,q⟩
 | brk=>obtain⟨σ',H',I,q⟩:=h;exact⟨σ',H',I.unwish,q⟩
 | cont=>obtain⟨σ',H',I,q⟩:=h;exact⟨σ',H',I.unwish,q⟩
 | ret u=>obtain⟨v,σ',H',I,r,q⟩:=h;exact⟨v,σ',H',I.unwish,r,q⟩
theorem uW.nox{st:List Stmt}{t:TS}(h:uW X.nox st t):uW X st t:=λpins s σ H D I hw =>
 wpAny_mono (h pins s σ H D (I.wish _) hw) (λ_ _ q=>q.unwish) λ_ _ z=>False.elim z
end
section
variable {X:Cx}{st:Stmt}{rest:List Stmt}{t u:TS}{e:Expr}{te:TE}{pos:Pos}
def Bo:TS:=λD σ H=>D.nx σ H
def aK(t u:TS):TS:=λD σ H=>t { D with nx:=u D } σ H
theorem EX:uW X [] Bo:=λ_ _ σ H _ I h=>wpAny_execs_nil ⟨σ,H,I,h⟩
theorem Ds(h1:PS X st t)(h2:uW X rest u):uW X (st::rest) (aK t u):=by
 intro pins s σ H D I h;refine wpAny_execs_cons (dc (h1 pins s σ H { D with nx:=u D } I h) λf s1 q=>?_)
 cases f with
 | next =>
  obtain⟨σ',H',I',q⟩:=q;exact h2 pins s1 σ' H' D I' q
 | ret v=>exact q
 | brk=>exact q
 | cont=>exact q
theorem FI(h1:PS X st t):uW X [st] t:=by
 intro pins s σ H D I h;refine wpAny_execs_cons (dc (h1 pins s σ H D I h) λf s1 q=>?_);cases f with
 | next=>exact wpAny_execs_nil q
 | ret v=>exact q
 | brk=>exact q
 | cont=>exact q
theorem aR.quiet(I:aR X pins σ H s):interactive X.env=false:=by simp[interactive,I.ok.kind]
def Cc(te:TE):TS:=λD σ H=>te σ H λ_ H1=>D.nx σ H1
theorem F7(he:PE X e te)(hs:swapsWith e none pos.line X.env=pure false:=by rfl):PS X (.Expr e pos) (Cc te):=by
 intro pins s σ H D I h;exact wpAny_Expr_any (dc (he pins s σ H _ I h) λv s1 ⟨x,H1,I1,r1,q1⟩=>⟨σ,H1,I1,q1⟩) I.quiet hs
def JF(te:TE):TS:=λD σ H=>te σ H D.rt
theorem JB(he:PE X e te):PS X (.Return (some e) pos) (JF te):=by
 intro pins s σ H D I h;exact wpAny_Return_some (dc (he pins s σ H _ I h) λv s1 ⟨x,H1,I1,r1,q1⟩=>⟨x,σ,H1,I1,r1,q1⟩)
def Kg:TS:=λD _ H=>D.rt .non H
def HL(c:TT)(t u:TS):TS:=λD σ H=>c σ H λb H1=>if b=true then t D σ H1 else u D σ H1
theorem KJ{a b:List Stmt}{tc:TT}(hc:PT X c tc)(ha:uW X a t)(hb:uW X b u):PS X (.If c a b pos) (HL tc t u):=by
 intro pins s σ H D I h;refine wpAny_If (dc (hc pins s σ H _ I h) λd s1 ⟨H1,I1,q1⟩=>?_);cases d with
 | true=>exact ha pins s1 σ H1 D I1 q1
 | false=>exact hb pins s1 σ H1 D I1 q1
def xc:TS:=λ_ _ _=>False
theorem CU:PS X st xc:=λ_ _ _ _ _ _ h=>h.elim
end
abbrev TG:=V->St->Hp->(St->Hp->Prop)->Prop
abbrev Be:=List V->St->Hp->(St->Hp->Prop)->Prop
def PG(X:Cx)(target:Expr)(t:TG):Prop :=
 ∀pins s(σ:St)H(v:V)(u:Value)(Q:St->Hp->Prop),aR X pins σ H s->cw v u->t v σ H Q ->
  wpAny (model X.prog X.w) X.A (assign target X.env u) (λ_ s'=>∃σ' H',aR X pins σ' H' s'/\Q σ' H') X.xe s
def JW(X:Cx)(ts:List Expr)(t:Be):Prop :=
 ∀pins s(σ:St)H(vs:List V)(us:List Value)(Q:St->Hp->Prop),aR X pins σ H s->bJ vs us->t vs σ H Q ->
  wpAny (model X.prog X.w) X.A (assignInOrder ((assignEach ts X.env).map (·.2)) us) (λ_ s'=>∃σ' H',aR X pins σ' H' s'/\Q σ' H') X.xe s
abbrev wW:=V->V->V->Hp->(Hp->Prop)->Prop
def Aq(X:Cx)(t:wW):Prop :=
 ∀pins s(σ:St)H(o i v:V)(ov iv u:Value)(Q:Hp->Prop),aR X pins σ H s->cw o ov->cw i iv->cw v u->t o i v H Q ->
  wpAny (model X.prog X.w) X.A (setItem ov iv u) (λ_ s'=>∃H',aR X pins σ H' s'/\Q H') X.xe s
abbrev Ek:=V->V->Hp->VK->Prop
def G3(X:Cx)(op:Operator)(t:Ek):Prop :=
 ∀pins s(σ:St)H(x y:V)(v u:Value)(Q:VK),aR X pins σ H s->cw x v->cw y u->t x y H Q ->
  wpAny (model X.prog X.w) X.A (inplaceOp op v u) (EP X pins σ Q) X.xe s
section
variable {X:Cx}{pos:Pos}
def gj(i:Nat):TG:=λv σ H Q=>Q (σ.set i (some v)) H
theorem Gx(hN:X.N.Nodup)(hi:X.N[i]? = some x)(hx:Eh X.env.scope x)(hf:X.fn x=true\/X.env.scope.names.lookup x=some .local:=by first|walk_at "a1"|assumption):PG X (.Name x pos) (gj i):=by
 intro pins s σ H v u Q I r h;exact wpAny_assign_Name (fK I hN hi hx r (λs' I'=>⟨_,H,I',h⟩) hf)
def wk:Be:=λvs σ H Q=>vs=[]/\Q σ H
def jH(t:TG)(u:Be):Be:=λvs σ H Q=>∃v r,vs=v::r/\t v σ H λσ' H'=>u r σ' H' Q
theorem Fn:JW X [] wk:=by
 intro pins s σ H vs us Q I r h;obtain⟨e,h⟩:=h;subst e;cases r;exact assignInOrder_nil ⟨σ,H,I,h⟩
theorem Dy{e:Expr}{es:List Expr}{t:TG}{u:Be}(h1:PG X e t)(h2:JW X es u)
  (hs:(assignEach (e::es) X.env).map (·.2)=assign e X.env::(assignEach es X.env).map (·.2):=by rfl):JW X (e::es) (jH t u):=by
 intro pins s σ H vs us Q I r h;obtain⟨v,vr,e1,h⟩:=h;subst e1;cases r with
 | cons r rr =>
  rw[hs];refine assignInOrder_cons (dc (h1 pins s σ H _ _ _ I r h) λ_ s1 ⟨σ1,H1,I1,q1⟩=>?_);exact h2 pins s1 σ1 H1 _ _ Q I1 rr q1
def KL(K:Sf)(n:Nat)(t:Be):TG:=λv σ H Q=>∃a xs,v=.ref a/\wK K H a xs/\xs.length=n/\t xs σ H Q
theorem Ih{es:List Expr}{t:Be}{n:Nat}(hc:X.calm=true)(h:JW X es t)
  (hn:(assignEach es X.env).length=n:=by rfl)(hst:(assignEach es X.env).findIdx? (·.1)=none:=by rfl):PG X (.Tuple es k pos) (KL X.K n t):=by
 intro pins s σ H v u Q I r hw;obtain⟨a,xs,e1,hq,hl,hw⟩:=hw;subst e1;cases r;obtain⟨its,rv,ht,hz⟩:=I.tuple hq;refine assign_Tuple_tuple (I.ok.hd hc) ht (by simp[hn,<-hl,rv.length]) hst λh' hx=>?_
 have I1:aR X pins σ H { s with heap:=h' }:=I.kept (t':=s.toks) λb o e=>hx b o (Yf (Heap.lt_size e)) e
 exact h pins _ σ H xs _ Q I1 (by simpa using rv) hw
def Ij(to ti:TE)(t:wW):TG:=λv σ H Q=>to σ H λo H1=>ti σ H1 λi H2=>t o i v H2 λH3=>Q σ H3
theorem Jg{o i:Expr}{to ti:TE}{t:wW}(ho:PE X o to)(hi:PE X i ti)(hs:Aq X t)
  (ha:∀v,assign (.Subscript o i pos) X.env v=(do
   let ov <-holding [v] (eval o X.env)
   let iv <-holding [v,ov] (eval i X.env)
   standAt pos
   holding [v,ov,iv] (setItem ov iv v)
   release [v,ov,iv] []):=by intro _;rfl):PG X (.Subscript o i pos) (Ij to ti t):=by
 intro pins s σ H v u Q I r h;rw[ha];refine wpAny_bind (wpAny_holding (dc (ho pins s σ H _ I h) λov s1 ⟨x,H1,I1,r1,q1⟩=>?_));refine wpAny_bind (wpAny_holding (dc (hi pins s1 σ H1 _ I1 q1) λiv s2 ⟨y,H2,I2,r2,q2⟩=>?_));refine wpAny_bind (wpAny_standAt (wpAny_bind (wpAny_holding (dc (hs pins s2 σ H2 x y v ov iv u _ I2 r1 r2 r q2) λ_ s3 ⟨H3,I3,q3⟩=>?_))));exact wpAny_release ⟨σ,H3,I3,q3⟩
def wQ(te:TE)(g:TG):TS:=λD σ H=>te σ H λx H1=>g x σ H1 D.nx
theorem Iy{e:Expr}{g:TG}(he:PE X e te)(hg:PG X tg g)(hs:swapsWithSole [tg] e pos.line X.env=pure false:=by rfl)(hw:swappedStores [tg] e X.env=pure none:=by rfl)
  (h1:(assignEach [tg] X.env).map (·.2)=[assign tg X.env]:=by rfl):PS X (.Assign [tg] e pos) (wQ te g):=by
 intro pins s σ H D I h;refine wpAny_Assign_stores (dc (he pins s σ H _ I h) λv s1 ⟨x,H1,I1,r1,q1⟩=>?_) hs hw;rw[h1];exact dc (hg pins s1 σ H1 x v _ I1 r1 q1) λ_ s2 q=>q
theorem Ik{e:Expr}{pos':Pos}(hN:X.N.Nodup)(hi:X.N[i]? = some x)(hx:Eh X.env.scope x)(he:PE X e te)(hs:swapsWith e (some (.Name x pos')) pos.line X.env=pure false:=by rfl)(hf:X.fn x=true\/X.env.scope.names.lookup x=some .local:=by first|walk_at "a1"|assumption):
  PS X (.Assign [.Name x pos'] e pos) (wQ te (gj i)):=by
 intro pins s σ H D I h;refine wpAny_Assign_Name (dc (he pins s σ H _ I h) λv s1 ⟨y,H1,I1,r1,q1⟩=>?_) hs;exact fK I1 hN hi hx r1 (λs2 I2=>⟨_,H1,I2,q1⟩) hf
def En(i j:Nat)(ta:TA):TS:=λD σ H=>ta σ H λvs H1=>∃v w,vs=[v,w]/\D.nx ((σ.set i (some v)).set j (some w)) H1
theorem IH{j:Nat}{y:Str}{a b:Expr}{px py pt:Pos}{kt k2 pt2}(hc:X.calm=true)(hN:X.N.Nodup)(hi:X.N[i]? = some x)(hj:X.N[j]? = some y)(hij:i≠j)
  (hx:X.env.scope.names.lookup x=some .local)(hy:X.env.scope.names.lookup y=some .local)(ha:PA X [a,b] ta)
  (hw:swappedStores [.Tuple [.Name x px,.Name y py] kt pt] (.Tuple [a,b] k2 pt2) X.env=pure (some [x,y]))
  (hs:swapsWithSole [.Tuple [.Name x px,.Name y py] kt pt] (.Tuple [a,b] k2 pt2) pos.line X.env=pure false:=by rfl) :
  PS X (.Assign [.Tuple [.Name x px,.Name y py] kt pt] (.Tuple [a,b] k2 pt2) pos) (En i j ta):=by
 intro pins s σ H D I h;rw[exec_Assign_arm];refine wpAny_bind (wpAny_standAt ?_);rw[hs];refine wpAny_bind (wpAny_pure ?_);rw[Yc ∅];refine wpAny_bind (Tuple_ (dc (ha _ pins s σ H _ I h) λus s1 ⟨vs,H1,I1,r1,q1⟩=>?_));obtain⟨v,w,e1,q1⟩:=q1;subst e1;obtain⟨u1,u2,rfl,rv,rw'⟩:∃u1 u2,us=[u1,u2]/\cw v u1/\cw w u2:=by
  cases r1 with
  | cons p q =>
   cases q with
   | cons p' q' =>
    cases q';exact⟨_,_,rfl,p,p'⟩
 refine wpAny_newObj_type ?_ (by show 2<=sizeLine;decide)
 have I2:aR X pins σ H1 { s1 with heap:=s1.heap.push { cls:=.type "tuple",data:=.seq [u1,u2].toArray } }:=I1.kept (t':=s1.toks) λb o e=>Heap.get?_push_of_some _ e
 rw[hw];refine wpAny_bind (wpAny_pure ?_);show wpAny (model X.prog X.w) X.A (do rule "assign.swapped-stores";let items <-unpackItems (.ref s1.heap.objs.size) 2 none;assignInOrder [λv=>bindName X.env y v,λv=>bindName X.env x v] items.reverse;pure Flow.next) _ _ _
 refine wpAny_bind (wpAny_rule (wpAny_bind (unpackItems_tuple (items:=#[u1,u2]) (I.ok.hd hc) (IsTup.new s1.heap _) λh' hx'=>?_)));have I3:=I2.kept (h':=h') (t':=s1.toks) λb o e=>hx' b o (Yf (Heap.lt_size e)) e;show wpAny _ _ (assignInOrder [λv=>bindName X.env y v,λv=>bindName X.env x v] [u2,u1] >>= λ_=>pure Flow.next) _ _ _
 refine wpAny_bind (assignInOrder_cons (wpAny_bindName (fK I3 hN hj (.inl hy) rw' (λs2 I4=>?_) (.inr hy))));refine assignInOrder_cons (wpAny_bindName (fK I4 hN hi (.inl hx) rv (λs3 I5=>assignInOrder_nil (wpAny_pure ?_)) (.inr hx)));rw[List.set_comm _ _ (Yl hij)] at I5;exact⟨_,H1,I5,q1⟩
def JA(i:Nat)(te:TE)(ti:Ek):TS:=λD σ H=>∃x,σ[i]? = some (some x)/\te σ H λy H1=>ti x y H1 λz H2=>D.nx (σ.set i (some z)) H2
theorem Hs{e:Expr}{op:Operator}{ti:Ek}{pos':Pos}(hN:X.N.Nodup)(hi:X.N[i]? = some x)(hx:Eh X.env.scope x)(he:PE X e te)(ho:G3 X op ti)(hf:X.fn x=true\/X.env.scope.names.lookup x=some .local:=by first|walk_at "a1"|assumption):
  PS X (.AugAssign (.Name x pos') op e pos) (JA i te ti):=by
 intro pins s σ H D I h;obtain⟨v,e1,h⟩:=h;obtain⟨m,hn,hl⟩:=I.loc;have vis:Ht X.env.scope x:=by rcases hx with k|k;exact .inl k;exact .inr (.inl k)
 obtain⟨u,r,l⟩:=hl i x v hi e1 vis;refine wpAny_AugAssign_Name ?_;have go:wpAny (model X.prog X.w) X.A (eval e X.env) (λw s₂=>wpAny (model X.prog X.w) X.A (inplaceOp op u w) (λr s₃=>wpAny (model X.prog X.w) X.A (storeName X.env x r) (λ_=>SP X pins D .next) X.xe s₃) X.xe s₂) X.xe s:=by
  refine dc (he pins s σ H _ I h) λw s1 ⟨y,H1,I1,r1,q1⟩=>?_;refine dc (ho pins s1 σ H1 v y u w _ I1 r r1 q1) λz s2 ⟨zv,H2,I2,r2,q2⟩=>?_;exact fK I2 hN hi hx r2 (λs3 I3=>⟨_,H2,I3,q2⟩) hf
 rcases l with ⟨hk,hm⟩|⟨hk,c,hc,hcell⟩
 .exact wpAny_loadName_local I.ok.kind hk hn hm go
 .rcases hk with hk|hk
  .exact wpAny_loadName_cell I.ok.kind hk hc hcell go
  .rcases hx with k|k
   .have:X.env.scope.names.lookup x=some .free:=hk;rw[k] at this;cases this
   .have:X.env.scope.names.lookup x=some .free:=hk;rw[k] at this;cases this
def qg(to ti te:TE)(tget:V->V->Hp->VK->Prop)(tip:Ek)(tset:wW):TS:=λD σ H=>to σ H λo H1=>ti σ H1 λi H2=>tget o i H2 λx H3=>te σ H3 λy H4=>tip x y H4 λz H5=>tset o i z H5 λH6=>D.nx σ H6
def HW(X:Cx)(t:V->V->Hp->VK->Prop):Prop :=
 ∀pins s(σ:St)H(o i:V)(ov iv:Value)(Q:VK),aR X pins σ H s->cw o ov->cw i iv->t o i H Q ->
  wpAny (model X.prog X.w) X.A (getItem ov iv) (EP X pins σ Q) X.xe s
theorem FY{o i e:Expr}{to ti:TE}{tget:V->V->Hp->VK->Prop}{tip:Ek}{tset:wW}{op:Operator}{tpos:Pos}(ho:PE X o to)(hi:PE X i ti)(hg:HW X tget)(he:PE X e te)(hp:G3 X op tip)(hs:Aq X tset)
  (ha:∀ov iv new,augStore i ov iv new=(do holding [new,ov,iv] (setItem ov iv new);release [new,ov,iv] [];pure .next):=by intros;rfl):PS X (.AugAssign (.Subscript o i tpos) op e pos) (qg to ti te tget tip tset):=by
 intro pins s σ H D I h;refine wpAny_AugAssign_SubscriptAny (dc (ho pins s σ H _ I h) λov s1 ⟨x1,H1,I1,r1,q1⟩=>?_) ha;refine dc (hi pins s1 σ H1 _ I1 q1) λiv s2 ⟨x2,H2,I2,r2,q2⟩=>?_;refine dc (hg pins s2 σ H2 x1 x2 ov iv _ I2 r1 r2 q2) λold s3 ⟨x3,H3,I3,r3,q3⟩=>?_;refine dc (he pins s3 σ H3 _ I3 q3) λv s4 ⟨x4,H4,I4,r4,q4⟩=>?_;refine dc (hp pins s4 σ H4 x3 x4 old v _ I4 r3 r4 q4) λnew s5 ⟨x5,H5,I5,r5,q5⟩=>?_;exact dc (hs pins s5 σ H5 x1 x2 x5 ov iv new _ I5 r1 r2 r5 q5) λ_ s6 ⟨H6,I6,q6⟩=>⟨σ,H6,I6,q6⟩
def Iq(f:Int->Int->Int):Ek:=λx y H Q=>∃i j,x=.int i/\y=.int j/\Q (.int (f i j)) H
theorem wM:G3 X .Add (Iq λi j=>i+j):=by
 intro pins s σ H x y v u Q I r1 r2 h;obtain⟨i,j,e1,e2,q⟩:=h;subst e1;subst e2;obtain⟨t,rfl⟩:=r1;obtain⟨t',rfl⟩:=r2;exact iadd_int ⟨.int _,H,I.tok _,⟨_,rfl⟩,q⟩
theorem qF:G3 X .Sub (Iq λi j=>i-j):=by
 intro pins s σ H x y v u Q I r1 r2 h;obtain⟨i,j,e1,e2,q⟩:=h;subst e1;subst e2;obtain⟨t,rfl⟩:=r1;obtain⟨t',rfl⟩:=r2;exact isub_int ⟨.int _,H,I.tok _,⟨_,rfl⟩,q⟩
end
section
variable {X:Cx}{pos:Pos}
def DM(c:TT)(tb:TS):TS:=λD σ H=>∃W:Nat->St->Hp->Prop,(∃m,W m σ H) /\ ∀m σ H,W m σ H ->
 c σ H λb H1=>if b=true then ∃N:St->Hp->Prop,(∀σ' H',N σ' H' -> ∃m',m'<m/\W m' σ' H')/\tb { D with nx:=N,ct:=N,bk:=D.nx } σ H1 else D.nx σ H1
theorem CH{body:List Stmt}{tc:TT}{tb:TS}(hp:PassesOwn (model X.prog X.w) X.A X.env X.xe)(hc:PT X c tc)(hb:uW X body tb):PS X (.While c body [] pos) (DM tc tb):=by
 intro pins s σ H D I h;obtain⟨W,⟨m0,w0⟩,turn⟩:=h;refine wpAny_While (codeAny_whileLoop (λn s'=>∃σ' H',aR X pins σ' H' s'/\W n σ' H') ?_ m0 ⟨σ,H,I,w0⟩);rintro n s1 ⟨σ1,H1,I1,w1⟩;refine wpAny_passesOwn hp (dc (hc pins s1 σ1 H1 _ I1 (turn n σ1 H1 w1)) λb s2 ⟨H2,I2,q2⟩=>?_);cases b with
 | true =>
  obtain⟨N,hN,q2⟩:=q2;rw[Yb rfl];refine wpAny_passesOwn hp (dc (hb pins s2 σ1 H2 _ I2 q2) λf s3 q3=>?_);cases f with
  | next =>
   obtain⟨σ3,H3,I3,n3⟩:=q3;obtain⟨m',hm,w3⟩:=hN σ3 H3 n3;exact⟨m',hm,σ3,H3,I3,w3⟩
  | cont =>
   obtain⟨σ3,H3,I3,n3⟩:=q3;obtain⟨m',hm,w3⟩:=hN σ3 H3 n3;exact⟨m',hm,σ3,H3,I3,w3⟩
  | brk=>exact q3
  | ret v=>exact q3
 | false =>
  rw[Yc Yq];exact wpAny_execs_nil ⟨σ1,H2,I2,q2⟩
end
structure It where
 go:Nat->Hp->Prop
 yld:Nat->Hp->V->Hp->Prop
 stop:Nat->Hp->Prop
def nG(X:Cx)(pins:List (Addr×Obj))(H:Hp)(b:Addr):Prop :=
 H b=none/\b≠X.env.locals/\b∉X.fs/\(b∈X.ex\/X.s₀.heap.objs.size<=b)/\(∀x c,X.env.cells.lookup x=some c->c≠b) /\ ∀p∈X.pn++pins,p.1≠b
theorem aR.fpOk{H':Hp}(I:aR X pins σ H s)(hb:s.heap.objs.size<=b)(hn:H' b=none):nG X pins H' b:=by
 refine⟨hn,Nat.ne_of_gt (Yd I.lt hb),I.nofs hb,.inr (Yg I.sz hb),λx c e z=>?_,λp hp z=>?_⟩
 .obtain⟨v,q⟩:=I.cell x c e;exact absurd (Yd q.lt (by rw[z];exact hb)) (Ye _)
 .exact absurd (Yd (Heap.lt_size (I.pin p hp).1) (by rw[z];exact hb)) (Ye _)
structure xY (P:Program)(w:World)(K:Sf)(tg:Expr)(J:It)(fp:List Addr)(it:Addr)(tn:Nat->Heap->Prop):Prop where
 mem:it∈fp
 obj:∀i h,tn i h -> ∀b∈fp,∃o,h.get? b=some o /\ ∀v,o.data ≠ .cell v
 keep:∀i h h',tn i h->(∀b∈fp,∀o,h.get? b=some o->h'.get? b=some o)->tn i h'
 item:∀(X:Cx),X.prog=P->X.w=w->X.K=K->X.calm=true -> ∀(i:Nat)(pins:List (Addr×Obj))(s:Shared)(σ:St)(H:Hp)(E:Value->Shared->Prop),aR X pins σ H s->(∀b∈fp,nG X pins H b)->tn i s.heap->J.go i H ->
  wpAny (model P w) X.A (pyNext (.ref it)) (λr s1=>∃u,r=some u /\
   wpAny (model P w) X.A (letOwnedTupleGo tg (.ref it) u) (λ_ s2=>∃x H',aR X pins σ H' s2/\cw x u/\J.yld i H x H'/\tn (i+1) s2.heap /\ ∀b∈fp,H' b=none) E s1) E s
 done:∀(X:Cx),X.prog=P->X.w=w->X.K=K->X.calm=true -> ∀(i:Nat)(pins:List (Addr×Obj))(s:Shared)(σ:St)(H:Hp)(E:Value->Shared->Prop),aR X pins σ H s->(∀b∈fp,nG X pins H b)->tn i s.heap->J.stop i H ->
  wpAny (model P w) X.A (pyNext (.ref it)) (λr s1=>r=none/\aR X pins σ H s1) E s
 self:∀(A:Around)(i:Nat)(s:Shared)(Q:Value->Shared->Prop)(E:Value->Shared->Prop),tn i s.heap->Q (.ref it) s->wpAny (model P w) A (pyIter (.ref it)) Q E s
abbrev TI:=St->Hp->(It->Hp->Prop)->Prop
def Mo(X:Cx)(pins:List (Addr×Obj))(σ:St)(tg:Expr)(R:It->Hp->Prop)(itv:Value)(s2:Shared):Prop :=
 ∃(it:Addr)(fp:List Addr)(tn:Nat->Heap->Prop)(J:It)(H':Hp),itv=.ref it/\aR X pins σ H' s2/\xY X.prog X.w X.K tg J fp it tn/\tn 0 s2.heap/\(∀b∈fp,nG X pins H' b)/\R J H'
def PI(X:Cx)(tg iter:Expr)(wi:TI):Prop :=
 ∀pins s(σ:St)H(R:It->Hp->Prop),aR X pins σ H s->wi σ H R ->
  wpAny (model X.prog X.w) X.A (eval iter X.env) (λv s1=>wpAny (model X.prog X.w) X.A (pyIter v) (Mo X pins σ tg R) X.xe s1) X.xe s
theorem zY{M:Model}{it:Addr}{n:String}{vs:Array Value}(ho:s.heap.get? it=some o)(hc:o.cls=.type n)(hd:o.data=.fields vs)
  (hn:["enumerate","zip","dict_itemiterator","dict_reverseitemiterator","odict_iterator","itertools.zip_longest","itertools.pairwise"].contains n=false) (hQ:Q PUnit.unit s):wpAny M A (letOwnedTupleGo tg (.ref it) u) Q E s:=by
 unfold letOwnedTupleGo;cases tg<;>first
  | exact wpAny_pure hQ
  | (cases u<;>first
    | exact wpAny_pure hQ
    | (refine wpAny_bind (wpAny_load ho ?_)
       rw[hc,hd];show wpAny M A (if (["enumerate","zip","dict_itemiterator","dict_reverseitemiterator","odict_iterator","itertools.zip_longest","itertools.pairwise"].contains n && vs[0]? == some (rawInt _))=true then _ else _) Q E s
       rw[Yc (by intro h;rw[hn,Bool.false_and] at h;cases h)]
       exact wpAny_pure hQ))
def Lw(K:Sf)(a:Addr):It :=
 ⟨λi H=>∃xs x,jx K H a xs/\xs[i]? = some x,λi H x H'=>H'=H /\ ∀xs,jx K H a xs->xs[i]? = some x,λi H=>∃xs,jx K H a xs/\xs.length<=i⟩
def Mw(K:Sf)(a:Addr):It :=
 ⟨λi H=>∃xs x,wK K H a xs/\xs[i]? = some x,λi H x H'=>H'=H /\ ∀xs,wK K H a xs->xs[i]? = some x,λi H=>∃xs,wK K H a xs/\xs.length<=i⟩
def J0(lo:Int)(n:Nat):It:=⟨λi _=>i<n,λi H x H'=>H'=H/\x=.int (lo+i),λi _=>n<=i⟩
theorem Ax(a it:Addr):xY P w K tg (Lw K a) [it] it (λi h=>h.IsListIter it a i) where
 mem:=by simp
 obj:=λi h st b hb=>by
  have e:b=it:=by simpa using hb
  subst e;obtain⟨o,e,c,d⟩:=st;exact⟨o,e,λv z=>by rw[d] at z;cases z⟩
 keep:=λi h h' st k=>st.at λo e=>k it (by simp) o e
 item:=by
  intro X hP hw hK hc i pins s σ H E I hf st hg;subst hP hw hK;obtain⟨xs,x,hq,hx⟩:=hg;obtain⟨its,rv,p,hz⟩:=I.list hq;obtain⟨u,hu,ru⟩:=rv.get hx;obtain⟨f0,f1,f2,f3,f4,f5⟩:=hf it (by simp)
  refine wpAny_pyNext_list_item st p.isList (x:=u) (by simpa using hu) λh' st' sb=>?_
  have I1:aR X pins σ H { s with heap:=h' }:=I.turned (t':=s.toks) (λb o hb e=>(sb.2 b hb).trans e) f0 f1 f3 f4 f5
  obtain⟨o,e,c,d⟩:=id st';exact⟨u,rfl,zY (s:={ s with heap:=h' }) e c d ∅ ⟨x,H,I1,ru,⟨rfl,λys hy=>by rw[I.list_inj hy hq];exact hx⟩,st',λb hb=>(hf b hb).1⟩⟩
 done:=by
  intro X hP hw hK hc i pins s σ H E I hf st hg;subst hP hw hK;obtain⟨xs,hq,hx⟩:=hg;obtain⟨its,rv,p,hz⟩:=I.list hq;obtain⟨f0,f1,f2,f3,f4,f5⟩:=hf it (by simp)
  have hl:=rv.length;exact wpAny_pyNext_list_end (I.ok.hd hc) st p.isList (by simp;nofun) λh' eb=>⟨rfl,I.turned (t':=s.toks) (λb o hb e=>eb b o hb e) f0 f1 f3 f4 f5⟩
 self:=λ_ _ _ _ _ st h=>wpAny_pyIter_listiter st h
theorem xz(it:Addr)(lo:Int)(n:Nat):xY P w K tg (J0 lo n) [it] it (λi h=>IsRangeIter h it (lo+(i:Nat)*1) ((n:Int)-(i:Nat)) 1) where
 mem:=by simp
 obj:=λi h st b hb=>by
  have e:b=it:=by simpa using hb
  subst e;exact⟨_,st,λv z=>by
   have z':Data.fields _=Data.cell v:=z;cases z'⟩
 keep:=λi h h' st k=>k it (by simp) _ st
 item:=by
  intro X hP hw hK hc i pins s σ H E I hf st hg;subst hP hw hK;obtain⟨f0,f1,f2,f3,f4,f5⟩:=hf it (by simp)
  have W:=Walks.range (prog:=X.prog) (w:=X.w) (I.ok.hd hc) it lo 1 n;refine W.item i s _ _ hg st λv h' tk hv st' kk=>?_;obtain⟨t,rfl⟩:=hv;have I1:aR X pins σ H { s with heap:=h',toks:=tk }:=I.turned (λb o hb e=>kk b o (by simpa using hb) e) f0 f1 f3 f4 f5
  refine⟨_,rfl,zY (s:={ s with heap:=h',toks:=tk }) (n:="range_iterator") st' rfl rfl ∅ ⟨.int (lo+i),H,I1,⟨t,?_⟩,⟨rfl,rfl⟩,st',λb hb=>(hf b hb).1⟩⟩
  rw[Int.mul_one]
 done:=by
  intro X hP hw hK hc i pins s σ H E I hf st hg;subst hP hw hK;obtain⟨f0,f1,f2,f3,f4,f5⟩:=hf it (by simp)
  exact wpAny_pyNext_range_end (I.ok.hd hc) st (by have:n<=i:=hg;nofun) λh' eb=>⟨rfl,I.turned (t':=s.toks) (λb o hb e=>eb b o hb e) f0 f1 f3 f4 f5⟩
 self:=λ_ _ _ _ _ st h=>wpAny_pyIter_rangeiter st h
section
variable {X:Cx}{tg:Expr}
def zc(K:Sf)(tl:TE):TI:=λσ H R=>tl σ H λx H1=>∃a,x=.ref a/\(∃xs,jx K H1 a xs)/\R (Lw K a) H1
def LV(K:Sf)(tl:TE):TI:=λσ H R=>tl σ H λx H1=>∃a,x=.ref a/\(∃xs,wK K H1 a xs)/\R (Mw K a) H1
theorem Ff{l:Expr}{tl:TE}(hl:PE X l tl):PI X tg l (zc X.K tl):=by
 intro pins s σ H R I h;refine dc (hl pins s σ H _ I h) λv s1 ⟨x,H1,I1,r1,q1⟩=>?_;obtain⟨a,e,⟨xs,hq⟩,q⟩:=q1;subst e;cases r1;obtain⟨its,rv,p,hz⟩:=I1.list hq;refine wpAny_pyIter_list p.isList ?_;refine⟨s1.heap.objs.size,[s1.heap.objs.size],_,_,H1,rfl,I1.kept (t':=s1.toks) λb o e=>Heap.get?_push_of_some _ e,Ax a _,⟨_,Heap.get?_push_size _ rfl,rfl,rfl⟩,λb hb=>?_,q⟩;have e:b=s1.heap.objs.size:=by simpa using hb
 subst e;exact I1.fpOk (Yr _) (I1.hok.fresh (Yr _))
theorem vH{R:It->Hp->Prop}{lo hi:Int}{t u v:Tok}{tk:Nat}(I:aR X pins σ H s)(h1 : -(2^62)<=lo)(h2:lo<2^62)(h3 : -(2^62)<=hi)(h4:hi<2^62)
  (q:R (J0 lo (hi-lo).toNat) H):wpAny (model X.prog X.w) X.A (pyIter (.ref s.heap.objs.size)) (Mo X pins σ tg R) E { s with heap:=s.heap.push { cls:=.type "range",data:=.fields #[.int lo t,.int hi u,.int 1 v] },toks:=tk }:=by
 refine wpAny_pyIter_range (IsRange.new ..) (small_one h1 h2 h3 h4) ?_;have I1:aR X pins σ H { s with heap:=s.heap.push { cls:=.type "range",data:=.fields #[.int lo t,.int hi u,.int 1 v] },toks:=tk }:=I.kept λb o e=>Heap.get?_push_of_some _ e
 refine⟨(s.heap.push { cls:=.type "range",data:=.fields #[.int lo t,.int hi u,.int 1 v] }).objs.size,[(s.heap.push { cls:=.type "range",data:=.fields #[.int lo t,.int hi u,.int 1 v] }).objs.size],_,_,H,rfl,
  I1.kept (t':=tk) λb o e=>Heap.get?_push_of_some _ e,xz _ lo (hi-lo).toNat,?_,λb hb=>?_,q⟩
 .have e1:lo+((0:Nat):Int)*1=lo:=by simp
  have e2:(((hi-lo).toNat:Nat):Int)-((0:Nat):Int)=Builtin.Range.rangeSize lo hi 1:=by rw[rangeSize_one];split<;>nofun
  show IsRangeIter _ _ (lo+((0:Nat):Int)*1) ((((hi-lo).toNat:Nat):Int)-((0:Nat):Int)) 1;rw[e1,e2];exact Heap.get?_push_size _ rfl
 .have e:b=(s.heap.push { cls:=.type "range",data:=.fields #[.int lo t,.int hi u,.int 1 v] }).objs.size:=by simpa using hb
  subst e;exact I1.fpOk (Yr _) (I1.hok.fresh (Yr _))
def yI(ta:TA):TI:=λσ H R=>ta σ H λvs H1=>∃j:Int,vs=[.int j] /\ -(2^62)<=j/\j<2^62/\R (J0 0 j.toNat) H1
def Eg(ta:TA):TI:=λσ H R=>ta σ H λvs H1=>∃i j:Int,vs=[.int i,.int j]/\(-(2^62)<=i/\i<2^62 /\ -(2^62)<=j/\j<2^62)/\R (J0 i (j-i).toNat) H1
theorem Ad{a:Expr}{p:Pos}(hg:Gl X "range")(hm:X.mg "range"=none)(ha:PA X [a] ta)(hs:starEach [a] X.env=[(false,eval a X.env)]:=by rfl):PI X tg (.Call (.Name "range" p) [a] [] pos) (yI ta):=by
 intro pins s σ H R I h;refine Call_ (jn I hg hm boot_range (Ys (dc (ha pos pins s σ H _ I h) λus s1 ⟨vs,H1,I1,r1,q1⟩=>?_) hs rfl));obtain⟨j,e,q1,q2,q⟩:=q1;subst e;cases r1 with
 | cons r rr =>
  cases rr;obtain⟨t,rfl⟩:=r;exact call_range_1 (vH I1 () () q1 q2 (by simpa using q))
theorem AY{a b:Expr}{p:Pos}(hg:Gl X "range")(hm:X.mg "range"=none)(ha:PA X [a,b] ta)(hs:starEach [a,b] X.env=[(false,eval a X.env),(false,eval b X.env)]:=by rfl)(hs2:starEach [b] X.env=[(false,eval b X.env)]:=by rfl):
  PI X tg (.Call (.Name "range" p) [a,b] [] pos) (Eg ta):=by
 intro pins s σ H R I h;refine Call_ (jn I hg hm boot_range (Ys (dc (ha pos pins s σ H _ I h) λus s1 ⟨vs,H1,I1,r1,q1⟩=>?_) (by rw[hs,hs2]) (by rw[hs2];rfl)))
 obtain⟨i,j,e,⟨q1,q2,q3,q4⟩,q⟩:=q1;subst e;cases r1 with
 | cons r rr =>
  cases rr with
  | cons r' rr =>
   cases rr;obtain⟨t,rfl⟩:=r;obtain⟨t',rfl⟩:=r';exact call_range_2 (vH I1 q1 q2 q3 q4 q)
def Ix(wi:TI)(g:TG)(tb:TS):TS:=λD σ H=>wi σ H λJ H1=>∃W:Nat->Nat->St->Hp->Prop,(∃m,W 0 m σ H1) /\ ∀i m σ H,W i m σ H ->
 (J.stop i H/\D.nx σ H)\/(J.go i H /\ ∃N:St->Hp->Prop,(∀σ' H',N σ' H' -> ∃m',m'<m/\W (i+1) m' σ' H') /\ ∀x H',J.yld i H x H'->g x σ H' λσ2 H2=>tb { D with nx:=N,ct:=N,bk:=D.nx } σ2 H2)
def qA(fp:List Addr)(h:Heap):List (Addr×Obj):=fp.filterMap λb=>(h.get? b).map λo=>(b,o)
theorem ju{fp:List Addr}(hb:b∈fp)(e:h.get? b=some o):(b,o)∈qA fp h:=List.mem_filterMap.mpr ⟨b,hb,by rw[e];rfl⟩
theorem AB{fp:List Addr}{p:Addr×Obj}(hp:p∈qA fp h):p.1∈fp/\h.get? p.1=some p.2:=by
 obtain⟨b,hb,e⟩:=List.mem_filterMap.mp hp;cases q:h.get? b with
 | none=>rw[q] at e;cases e
 | some o =>
  rw[q] at e;have e':(b,o)=p:=Yo e;subst e';exact⟨hb,q⟩
theorem aR.pinned{fp:List Addr}(I:aR X pins σ H s)(hf:∀b∈fp,nG X pins H b)(ho:∀b∈fp,∃o,s.heap.get? b=some o /\ ∀v,o.data ≠ .cell v):aR X (pins++qA fp s.heap) σ H s :=
 I.pins_of λp hp=>(List.mem_append.mp hp).elim (λz=>I.pin p (Yt _ z)) λz=>by
  obtain⟨hb,e⟩:=AB z;obtain⟨f0,f1,f2,_⟩:=hf p.1 hb;obtain⟨o,e',d⟩:=ho p.1 hb;rw[e] at e';cases e';exact⟨e,f0,f1,f2,d⟩
theorem aR.unpinned{pl:List (Addr×Obj)}(I:aR X (pins++pl) σ H s):aR X pins σ H s:=I.pins_of λp hp=>I.pin p (Yt _ (List.mem_append_left _ hp))
theorem HJ{iter:Expr}{body:List Stmt}{wi:TI}{g:TG}{tb:TS}(hp:PassesOwn (model X.prog X.w) X.A X.env X.xe)(hc:X.calm=true)(hi:PI X tg iter wi)(hg:PG X tg g)(hb:uW X body tb)
  (hs:∀x,foldedSetIterable iter X.env x=pure x:=by intro _;rfl):PS X (.For tg iter body [] pos) (Ix wi g tb):=by
 intro pins s σ H D I h;refine wpAny_For (dc (hi pins s σ H _ I h) λv s1 h1=>dc h1 λitv s2 h2=>?_) hs;obtain⟨it,fp,tn,J,H2,e,I2,T,st2,f2,W,⟨m0,w0⟩,turn⟩:=h2;subst e;have stat:∀{H':Hp},(∀b∈fp,H' b=none) -> ∀b∈fp,nG X pins H' b:=λhn b hb=>⟨hn b hb,(f2 b hb).2⟩;refine codeAny_forLoop_any (λn s'=>∃i σ' H',aR X pins σ' H' s'/\tn i s'.heap/\(∀b∈fp,H' b=none)/\W i n σ' H') ?_ m0 ⟨0,σ,H2,I2,st2,λb hb=>(f2 b hb).1,w0⟩;rintro n s3 ⟨i,σ3,H3,I3,st3,fr3,w3⟩;rcases turn i n σ3 H3 w3 with ⟨stop,qn⟩|⟨go,N,hN,step⟩
 .refine wpAny_passesOwn hp (dc (T.done X rfl rfl rfl hc i pins s3 σ3 H3 X.xe I3 (stat fr3) st3 stop) λr s4 ⟨hr,I4⟩=>?_);subst hr;exact wpAny_execs_nil ⟨σ3,H3,I4,qn⟩
 .refine wpAny_passesOwn hp (dc (T.item X rfl rfl rfl hc i pins s3 σ3 H3 X.xe I3 (stat fr3) st3 go) λr s4 ⟨u,hr,h4⟩=>?_);subst hr;refine wpAny_passesOwn hp (dc h4 λ_ s5 ⟨x,H5,I5,r5,y5,st5,fr5⟩=>?_);have I5':=I5.pinned (stat fr5) (T.obj _ _ st5);refine wpAny_passesOwn hp (dc (hg _ s5 σ3 H5 x u _ I5' r5 (step x H5 y5)) λ_ s6 ⟨σ6,H6,I6,q6⟩=>?_);refine wpAny_passesOwn hp (dc (hb _ s6 σ6 H6 _ I6 q6) λf s7 q7=>?_);have again:∀{σ7:St}{H7:Hp},aR X (pins++qA fp s5.heap) σ7 H7 s7->N σ7 H7 -> ∃m,m<n /\ ∃i σ' H',aR X pins σ' H' s7/\tn i s7.heap/\(∀b∈fp,H' b=none)/\W i m σ' H':=λ{σ7 H7} I7 n7=>by
   obtain⟨m',hm,w7⟩:=hN σ7 H7 n7;refine⟨m',hm,i+1,σ7,H7,I7.unpinned,T.keep _ _ _ st5 λb hb o e=>(I7.pin (b,o) (Yt _ (Yt _ (ju hb e)))).1,λb hb=>?_,w7⟩;obtain⟨o,e,d⟩:=T.obj _ _ st5 b hb;exact (I7.pin (b,o) (Yt _ (Yt _ (ju hb e)))).2.1
  cases f with
  | next=>obtain⟨σ7,H7,I7,n7⟩:=q7;exact again I7 n7
  | cont=>obtain⟨σ7,H7,I7,n7⟩:=q7;exact again I7 n7
  | brk=>obtain⟨σ7,H7,I7,q7⟩:=q7;exact⟨σ7,H7,I7.unpinned,q7⟩
  | ret v=>obtain⟨x7,σ7,H7,I7,r7,q7⟩:=q7;exact⟨x7,σ7,H7,I7.unpinned,r7,q7⟩
end
abbrev R2:=V->V->Hp->VK->Prop
def eX(X:Cx)(f:Value->Value->Sem Value)(r:R2):Prop :=
 ∀pins s(σ:St)H(x y:V)(v u:Value)(Q:VK),aR X pins σ H s->cw x v->cw y u->r x y H Q ->
  wpAny (model X.prog X.w) X.A (f v u) (EP X pins σ Q) X.xe s
def Ln(X:Cx)(f:Value->Sem Value)(r:V->Hp->VK->Prop):Prop :=
 ∀pins s(σ:St)H(x:V)(v:Value)(Q:VK),aR X pins σ H s->cw x v->r x H Q ->
  wpAny (model X.prog X.w) X.A (f v) (EP X pins σ Q) X.xe s
def ei(X:Cx)(f:Value)(r:List V->Hp->VK->Prop):Prop :=
 ∀pins s(σ:St)H(xs:List V)(us:List Value)(Q:VK),aR X pins σ H s->bJ xs us->r xs H Q ->
  wpAny (model X.prog X.w) X.A (call f us) (EP X pins σ Q) X.xe s
def Mb(X:Cx)(r:V->Hp->(Bool->Hp->Prop)->Prop):Prop :=
 ∀pins s(σ:St)H(x:V)(v:Value)(Q:Bool->Hp->Prop),aR X pins σ H s->cw x v->r x H Q ->
  wpAny (model X.prog X.w) X.A (truthy v) (TP X pins σ Q) X.xe s
def F9(r:R2)(ta tb:TE):TE:=λσ H Q=>ta σ H λx H1=>tb σ H1 λy H2=>r x y H2 Q
def Mc(r:V->Hp->VK->Prop)(ta:TE):TE:=λσ H Q=>ta σ H λx H1=>r x H1 Q
def rI(C:Int->Int->Prop)(g:Int->Int->V):R2:=λx y H Q=>∃i j,x=.int i/\y=.int j/\C i j/\Q (g i j) H
def zn(g:Int->Int->V):R2:=λx y H Q=>∃i j,x=.int i/\y=.int j/\Q (g i j) H
def rU(g:Int->V):V->Hp->VK->Prop:=λx H Q=>∃i,x=.int i/\Q (g i) H
section
variable {X:Cx}{a b c:Expr}{ta tb tc:TE}{pos:Pos}
theorem JG(ha:PE X a ta)(hb:PE X b tb){pins:List (Addr×Obj)}{s:Shared}{σ:St}{H:Hp}{R:V->V->Hp->Prop}(I:aR X pins σ H s)
  (h:ta σ H λx H1=>tb σ H1 λy H2=>R x y H2) {Q:Value->Shared->Prop}{f:Value->Value->Sem Value}
  (hf:∀v u s2 x y H2,aR X pins σ H2 s2->cw x v->cw y u->R x y H2->wpAny (model X.prog X.w) X.A (f v u) Q X.xe s2) :
  wpAny (model X.prog X.w) X.A (eval a X.env) (λv s₁=>wpAny (model X.prog X.w) X.A (eval b X.env) (λu s₂=>wpAny (model X.prog X.w) X.A (f v u) Q X.xe s₂) X.xe s₁) X.xe s:=by
 refine dc (ha pins s σ H _ I h) λv s1 ⟨x,H1,I1,r1,q1⟩=>?_;refine dc (hb pins s1 σ H1 _ I1 q1) λu s2 ⟨y,H2,I2,r2,q2⟩=>?_;exact hf v u s2 x y H2 I2 r1 r2 q2
theorem Le{op:Operator}{r:R2}(ho:eX X (binaryOp op) r)(ha:PE X a ta)(hb:PE X b tb):PE X (.BinOp a op b pos) (F9 r ta tb):=by
 intro pins s σ H Q I h;exact wpAny_BinOp (JG ha hb I h λv u s2 x y H2 I2 rx ry q=>ho pins s2 σ H2 x y v u Q I2 rx ry q)
theorem Kp{op:UnaryOp}{r:V->Hp->VK->Prop}(ho:Ln X (unaryOp op) r)(ha:PE X a ta):PE X (.UnaryOp op a pos) (Mc r ta):=by
 intro pins s σ H Q I h;exact UnaryOp_ (dc (ha pins s σ H _ I h) λv s1 ⟨x,H1,I1,r1,q1⟩=>ho pins s1 σ H1 x v Q I1 r1 q1)
theorem Lf{C:Int->Int->Prop}{g:Int->Int->Int}
  (rule:∀(i j:Int)(t u:Tok)(s:Shared)(Q:Value->Shared->Prop)(E:Value->Shared->Prop),C i j->Q (.int (g i j) s.toks) { s with toks:=s.toks+1 }->wpAny (model X.prog X.w) X.A (f (.int i t) (.int j u)) Q E s) :
  eX X f (rI C λi j=>.int (g i j)):=by
 intro pins s σ H x y v u Q I rx ry h;obtain⟨i,j,rfl,rfl,hc,q⟩:=h;obtain⟨t,rfl⟩:=rx;obtain⟨t',rfl⟩:=ry;exact rule i j t t' s _ _ hc ⟨.int (g i j),H,I.tok _,⟨_,rfl⟩,q⟩
theorem KU{g:Int->Int->Int}
  (rule:∀(i j:Int)(t u:Tok)(s:Shared)(Q:Value->Shared->Prop)(E:Value->Shared->Prop),Q (.int (g i j) s.toks) { s with toks:=s.toks+1 }->wpAny (model X.prog X.w) X.A (f (.int i t) (.int j u)) Q E s) :
  eX X f (zn λi j=>.int (g i j)):=by
 intro pins s σ H x y v u Q I rx ry h;obtain⟨i,j,rfl,rfl,q⟩:=h;obtain⟨t,rfl⟩:=rx;obtain⟨t',rfl⟩:=ry;exact rule i j t t' s _ _ ⟨.int (g i j),H,I.tok _,⟨_,rfl⟩,q⟩
theorem EG{g:Int->Int->Bool}
  (rule:∀(i j:Int)(t u:Tok)(s:Shared)(Q:Value->Shared->Prop)(E:Value->Shared->Prop),Q (.bool (g i j)) s->wpAny (model X.prog X.w) X.A (f (.int i t) (.int j u)) Q E s) :
  eX X f (zn λi j=>.bl (g i j)):=by
 intro pins s σ H x y v u Q I rx ry h;obtain⟨i,j,rfl,rfl,q⟩:=h;obtain⟨t,rfl⟩:=rx;obtain⟨t',rfl⟩:=ry;exact rule i j t t' s _ _ ⟨.bl (g i j),H,I,rfl,q⟩
def Kj(i j:Int):Prop:=0<=j/\j<=1000000/\i.natAbs<2^64
theorem JJ:eX X (binaryOp .Add) (zn λi j=>.int (i+j)):=KU λ_ _ _ _ _ _ _ q=>add_int q
theorem cp:eX X (binaryOp .Sub) (zn λi j=>.int (i-j)):=KU λ_ _ _ _ _ _ _ q=>sub_int q
theorem FP:eX X (binaryOp .Mod) (rI (λ_ j=>j≠0) λi j=>.int (i.fmod j)):=Lf λ_ _ _ _ _ _ _ hc q=>mod_int' hc q
theorem Bs:eX X (binaryOp .Pow) (rI Kj λi j=>.int (i^j.toNat)):=Lf λ_ _ _ _ _ _ _ hc q=>pow_int_small hc.1 hc.2.1 hc.2.2 q
theorem MD{f:Value->Sem Value}{g:Int->Int}
  (rule:∀(i:Int)(t:Tok)(s:Shared)(Q:Value->Shared->Prop)(E:Value->Shared->Prop),Q (.int (g i) s.toks) { s with toks:=s.toks+1 }->wpAny (model X.prog X.w) X.A (f (.int i t)) Q E s) :
  Ln X f (rU λi=>.int (g i)):=by
 intro pins s σ H x v Q I rx h;obtain⟨i,rfl,q⟩:=h;obtain⟨t,rfl⟩:=rx;exact rule i t s _ _ ⟨.int (g i),H,I.tok _,⟨_,rfl⟩,q⟩
theorem cI:Ln X (unaryOp .USub) (rU λi=>.int (-i)):=MD λ_ _ _ _ _ q=>neg_int q
end
def Aj:V->V->Bool
 | .non,.non=>true | .non,.int _=>true | .int _,.non=>true | .non,.bl _=>true | .bl _,.non=>true | .non,.str _=>true | .str _,.non=>true
 | .int _,.int _=>true | .bl _,.bl _=>true | .str _,.str _=>true | .byt _,.byt _=>true
 | .int _,.str _=>true | .str _,.int _=>true | .bl _,.str _=>true | .str _,.bl _=>true
 | _,_=>false
def J6:R2:=λx y H Q=>Aj x y=true/\Q (.bl (decide (x=y))) H
def J2:R2:=λx y H Q=>Aj x y=true/\Q (.bl (!decide (x=y))) H
theorem yX{i j:Int}:decide (V.int i=V.int j)=(i==j):=by
 rw[Bool.eq_iff_iff];simp
theorem CP{i j:Bool}:decide (V.bl i=V.bl j)=(i==j):=by
 rw[Bool.eq_iff_iff];simp
theorem yY{i j:Str}:decide (V.str i=V.str j)=(i==j):=by
 rw[Bool.eq_iff_iff];simp
theorem yK{i j:Array UInt8}:decide (V.byt i=V.byt j)=(i.toList==j.toList):=by
 rw[Bool.eq_iff_iff];cases i;cases j;simp
section
variable {X:Cx}{a b c:Expr}{ta tb tc:TE}{pos:Pos}
theorem cy{Q:VK}{k k':Bool}(I:aR X pins σ H s)(q:Q (.bl k) H)(e:k=k'):EP X pins σ Q (.bool k') s:=by
 subst e;exact⟨.bl k,H,I,rfl,q⟩
theorem dY:eX X (compareOp .Eq) J6:=by
 intro pins s σ H x y v u Q I rx ry h;obtain⟨hs,q⟩:=h;cases x with
 | non =>
  cases rx;cases y with
  | non=>cases ry;exact PySem.EqNone.eq_none_none (cy I q (by simp))
  | bl j=>cases ry;exact PySem.EqNone.eq_none_bool (cy I q (by simp))
  | int j=>obtain⟨t',rfl⟩:=ry;exact PySem.EqNone.eq_none_int (cy I q (by simp))
  | str j=>obtain⟨t',rfl⟩:=ry;exact PySem.EqNone.eq_none_str (cy I q (by simp))
  | _=>exact absurd (show false=true from hs) Yq
 | bl i =>
  cases rx;cases y with
  | non=>cases ry;exact PySem.EqNone.eq_bool_none (cy I q (by simp))
  | bl j=>cases ry;exact eq_bool (cy I q CP)
  | str j=>obtain⟨t',rfl⟩:=ry;exact PySem.EqMixed.eq_bool_str (cy I q (by simp))
  | _=>exact absurd (show false=true from hs) Yq
 | int i =>
  obtain⟨t,rfl⟩:=rx;cases y with
  | non=>cases ry;exact PySem.EqNone.eq_int_none (cy I q (by simp))
  | int j=>obtain⟨t',rfl⟩:=ry;exact eq_int (cy I q yX)
  | str j=>obtain⟨t',rfl⟩:=ry;exact PySem.EqMixed.eq_int_str (cy I q (by simp))
  | _=>exact absurd (show false=true from hs) Yq
 | str i =>
  obtain⟨t,rfl⟩:=rx;cases y with
  | non=>cases ry;exact PySem.EqNone.eq_str_none (cy I q (by simp))
  | bl j=>cases ry;exact PySem.EqMixed.eq_str_bool (cy I q (by simp))
  | int j=>obtain⟨t',rfl⟩:=ry;exact PySem.EqMixed.eq_str_int (cy I q (by simp))
  | str j=>obtain⟨t',rfl⟩:=ry;exact eq_str (cy I q yY)
  | _=>exact absurd (show false=true from hs) Yq
 | byt i =>
  obtain⟨t,rfl⟩:=rx;cases y with
  | byt j=>obtain⟨t',rfl⟩:=ry;exact PySem.W.eq_bytes (cy I q yK)
  | _=>exact absurd (show false=true from hs) Yq
 | _=>cases y<;>exact absurd (show false=true from hs) Yq
theorem kU:eX X (compareOp .NotEq) J2:=by
 intro pins s σ H x y v u Q I rx ry h;obtain⟨hs,q⟩:=h;cases x with
 | non =>
  cases rx;cases y with
  | non=>cases ry;exact PySem.EqNone.ne_none_none (cy I q (by simp))
  | bl j=>cases ry;exact PySem.EqNone.ne_none_bool (cy I q (by simp))
  | int j=>obtain⟨t',rfl⟩:=ry;exact PySem.EqNone.ne_none_int (cy I q (by simp))
  | str j=>obtain⟨t',rfl⟩:=ry;exact PySem.EqNone.ne_none_str (cy I q (by simp))
  | _=>exact absurd (show false=true from hs) Yq
 | bl i =>
  cases rx;cases y with
  | non=>cases ry;exact PySem.EqNone.ne_bool_none (cy I q (by simp))
  | bl j=>cases ry;exact ne_bool (cy I q (Yp not CP))
  | str j=>obtain⟨t',rfl⟩:=ry;exact PySem.EqMixed.ne_bool_str (cy I q (by simp))
  | _=>exact absurd (show false=true from hs) Yq
 | int i =>
  obtain⟨t,rfl⟩:=rx;cases y with
  | non=>cases ry;exact PySem.EqNone.ne_int_none (cy I q (by simp))
  | int j=>obtain⟨t',rfl⟩:=ry;exact ne_int (cy I q (Yp not yX))
  | str j=>obtain⟨t',rfl⟩:=ry;exact PySem.EqMixed.ne_int_str (cy I q (by simp))
  | _=>exact absurd (show false=true from hs) Yq
 | str i =>
  obtain⟨t,rfl⟩:=rx;cases y with
  | non=>cases ry;exact PySem.EqNone.ne_str_none (cy I q (by simp))
  | bl j=>cases ry;exact PySem.EqMixed.ne_str_bool (cy I q (by simp))
  | int j=>obtain⟨t',rfl⟩:=ry;exact PySem.EqMixed.ne_str_int (cy I q (by simp))
  | str j=>obtain⟨t',rfl⟩:=ry;exact ne_str (cy I q (Yp not yY))
  | _=>exact absurd (show false=true from hs) Yq
 | byt i =>
  obtain⟨t,rfl⟩:=rx;cases y with
  | byt j=>obtain⟨t',rfl⟩:=ry;exact PySem.W.ne_bytes (cy I q (Yp not yK))
  | _=>exact absurd (show false=true from hs) Yq
 | _=>cases y<;>exact absurd (show false=true from hs) Yq
theorem mD:eX X (compareOp .Lt) (zn λi j=>.bl (decide (i<j))):=EG λ_ _ _ _ _ _ _ q=>lt_int q
theorem yz:eX X (compareOp .LtE) (zn λi j=>.bl (decide (i<=j))):=EG λ_ _ _ _ _ _ _ q=>le_int q
theorem jz:eX X (compareOp .Gt) (zn λi j=>.bl (decide (j<i))):=EG λ_ _ _ _ _ _ _ q=>gt_int q
theorem GN:eX X (compareOp .GtE) (zn λi j=>.bl (decide (j<=i))):=EG λ_ _ _ _ _ _ _ q=>ge_int q
theorem HG:eX X (compareOp .Is) (λx y H Q=>y=.non/\Q (.bl (decide (x=.non))) H):=by
 intro pins s σ H x y v u Q I rx ry h;obtain⟨rfl,q⟩:=h;cases ry;refine is_none_gen (cy I q ?_);cases x<;>first
  | (cases rx;rfl)
  | (obtain⟨t,rfl⟩:=rx;rfl)
theorem eX.or{r r':R2}(h:eX X f r)(h':eX X f r'):eX X f (λx y H Q=>r x y H Q\/r' x y H Q):=by
 intro pins s σ H x y v u Q I rx ry q;rcases q with q|q
 .exact h pins s σ H x y v u Q I rx ry q
 .exact h' pins s σ H x y v u Q I rx ry q
theorem aC(b:Expr){op:CmpOp}(h:op ≠ .In:=by decide)(h2:op ≠ .NotIn:=by decide):behindInMarks op b=false:=by
 have e1:(op==CmpOp.In)=false:=by cases op<;>first|rfl|exact absurd rfl h
 have e2:(op==CmpOp.NotIn)=false:=by cases op<;>first|rfl|exact absurd rfl h2
 cases b<;>simp[behindInMarks,e1,e2]
theorem EC{op:CmpOp}{r:R2}(ho:eX X (compareOp op) r)(ha:PE X a ta)(hb:PE X b tb)(hm:behindInMarks op b=false):PE X (.Compare a [op] [b] pos) (F9 r ta tb):=by
 intro pins s σ H Q I h;exact wpAny_Compare1 (JG ha hb I h λv u s2 x y H2 I2 rx ry q=>ho pins s2 σ H2 x y v u Q I2 rx ry q) hm
def sf(t:TE):TT:=λσ H Q=>t σ H λx H'=>∃k,x=.bl k/\Q k H'
theorem E9{op:CmpOp}{r:R2}(ho:eX X (compareOp op) r)(ha:PE X a ta)(hb:PE X b tb)(hm:behindInMarks op b=false):PT X (.Compare a [op] [b] pos) (sf (F9 r ta tb)):=by
 intro pins s σ H Q I h;refine wpAny_isTrue_Compare1 (dc (ha pins s σ H _ I h) λv s1 ⟨x,H1,I1,r1,q1⟩=>dc (hb pins s1 σ H1 _ I1 q1) λu s2 ⟨y,H2,I2,r2,q2⟩ =>
  dc (ho pins s2 σ H2 x y v u _ I2 r1 r2 q2) λc s3 ⟨z,H3,I3,r3,k,e,q3⟩=>?_) hm
 subst e;cases r3;exact wpAny_truthy_bool ⟨H3,I3,q3⟩
def tu(r r':R2)(ta tb tc:TE):TE:=λσ H Q=>ta σ H λx H1=>tb σ H1 λy H2=>r x y H2 λz H3=>∃k,z=.bl k /\
 (if k=true then tc σ H3 λw' H4=>r' y w' H4 Q else Q (.bl false) H3)
theorem DH{op op':CmpOp}{r r':R2}(ho:eX X (compareOp op) r)(ho':eX X (compareOp op') r')(ha:PE X a ta)(hb:PE X b tb)(hc:PE X c tc)
  (hm:lastMarks [op,op'] [b,c]=false:=by with_unfolding_all rfl):PT X (.Compare a [op,op'] [b,c] pos) (sf (tu r r' ta tb tc)):=by
 intro pins s σ H Q I h;refine isTrue_chain (dc (ha pins s σ H _ I h) λv s1 ⟨x,H1,I1,r1,q1⟩=>test_link (dc (hb pins s1 σ H1 _ I1 q1) λu s2 ⟨y,H2,I2,r2,q2⟩ =>
  dc (ho pins s2 σ H2 x y v u _ I2 r1 r2 q2) λd s3 ⟨z,H3,I3,r3,k,e,q3⟩=>?_)) hm
 subst e;cases r3;refine wpAny_truthy_bool ?_;cases k with
 | false =>
  obtain⟨k',e',q'⟩:=q3;cases e';exact ite_ff ⟨H3,I3,q'⟩
 | true =>
  refine ite_tt (test_last (dc (hc pins s3 σ H3 _ I3 q3) λw' s4 ⟨z',H4,I4,r4,q4⟩=>dc (ho' pins s4 σ H4 y z' u w' _ I4 r2 r4 q4) λd' s5 ⟨z2,H5,I5,r5,k2,e2,q5⟩=>?_));subst e2;cases r5;exact wpAny_truthy_bool ⟨H5,I5,q5⟩
def vG(K:Sf)(x:V)(H:Hp)(k:Bool):Prop :=
 match x with
 | .non=>k=false
 | .bl b=>k=b
 | .int i=>k=(i != 0)
 | .str y=>y.length<=sizeLine/\k=((y.length:Int) != 0)
 | .byt y=>y.size<=sizeLine/\k=((y.size:Int) != 0)
 | .ref p=>(∃xs,jx K H p xs/\k = !xs.isEmpty)\/(∃xs,wK K H p xs/\k = !xs.isEmpty) \/ ∃kvs,H p=some (.dK kvs)/\k = !kvs.isEmpty
 | _=>False
theorem xM{κ:Type}{kvs:List (κ×V)}{vs:List (κ×Value)}(r:KV kvs vs):(!vs.isEmpty) = !kvs.isEmpty:=by
 cases r<;>rfl
theorem qU{xs:List V}{its:List Value}(r:bJ xs its):(!its.toArray.isEmpty) = !xs.isEmpty:=by
 cases r<;>simp
theorem mY:(sizeLine:Nat)<2^63:=by rw[sizeLine_eq];decide
theorem Bg:Mb X (λx H Q=>∃k,vG X.K x H k/\Q k H):=by
 intro pins s σ H x v Q I rx h;obtain⟨k,e,q⟩:=h;have hl:=mY;have hs:sizeLine=16777216:=sizeLine_eq;cases x with
 | non =>
  cases rx;have e':k=false:=e;subst e';exact truthy_none ⟨H,I,q⟩
 | bl b =>
  cases rx;have e':k=b:=e;subst e';exact wpAny_truthy_bool ⟨H,I,q⟩
 | int i =>
  obtain⟨t,rfl⟩:=rx;have e':k=(i != 0):=e;subst e';exact PySem.P.truthy_int ⟨H,I,q⟩
 | str y =>
  obtain⟨t,rfl⟩:=rx;obtain⟨hy,e'⟩:y.length<=sizeLine/\k=((y.length:Int) != 0):=e;subst e';exact PySem.P.truthy_str () ⟨H,I.tok _,q⟩
 | byt y =>
  obtain⟨t,rfl⟩:=rx;obtain⟨hy,e'⟩:y.size<=sizeLine/\k=((y.size:Int) != 0):=e;subst e';exact PySem.W.truthy_bytes () ⟨H,I.tok _,q⟩
 | ref p =>
  cases rx;have e':(∃xs,jx X.K H p xs/\k = !xs.isEmpty)\/(∃xs,wK X.K H p xs/\k = !xs.isEmpty) \/ ∃kvs,H p=some (.dK kvs)/\k = !kvs.isEmpty:=e;rcases e' with ⟨xs,hx,e'⟩|⟨xs,hx,e'⟩|⟨kvs,hx,e'⟩
  .subst e';obtain⟨its,r,pl,hz⟩:=I.list hx;have hlen:=r.length;exact wpAny_truthy_list pl.isList (by simp only[Yu];nofun) ⟨H,I.tok _,by rw[qU r];exact q⟩
  .subst e';obtain⟨its,r,pl,hz⟩:=I.tuple hx;have hlen:=r.length;exact truthy_tuple pl (by simp only[Yu];nofun) ⟨H,I.tok _,by rw[qU r];exact q⟩
  .subst e';obtain⟨hz,hS,vs,r,m⟩:kvs.length<=sizeLine/\(p==sysModules)=false /\ ∃vs,KV kvs vs/\s.heap.DictOf (ud X.prog X.w) p vs:=I.hok p _ hx;have hlen:kvs.length=vs.length:=Paired.length r;exact wpAny_truthy_dict hS m () ⟨H,I.tok _,by rw[xM r];exact q⟩
 | _=>exact (show False from e).elim
theorem De(ha:PE X a ta)(he:∀whole,isTrue a X.env whole=(do let v <-whole;standAt a.pos;holding [v] (truthy v))):
  PT X a (λσ H Q=>ta σ H λx H'=>∃k,vG X.K x H' k/\Q k H'):=by
 intro pins s σ H Q I h;exact isTrue_plain (dc (ha pins s σ H _ I h) λv s1 ⟨x,H1,I1,r1,q1⟩=>Bg pins s1 σ H1 x v Q I1 r1 q1) (he _)
theorem vy{x:V}(r:bJ [x] us):∃u,us=[u]/\cw x u:=by
 cases r with
 | cons r1 r2=>cases r2;exact⟨_,rfl,r1⟩
theorem wr{x y:V}(r:bJ [x,y] us):∃u w',us=[u,w']/\cw x u/\cw y w':=by
 cases r with
 | cons r1 r2 =>
  cases r2 with
  | cons r3 r4=>cases r4;exact⟨_,_,rfl,r1,r3⟩
theorem qj:ei X (.builtin "abs") (λxs H Q=>∃i,xs=[.int i]/\Q (.int (if i<0 then -i else i)) H):=by
 intro pins s σ H xs us Q I r h;obtain⟨i,rfl,q⟩:=h;obtain⟨u,rfl,t,rfl⟩:=vy r;exact call_abs_int λu tk=>⟨.int (if i<0 then -i else i),H,I.tok _,⟨_,rfl⟩,q⟩
theorem kw(hc:X.calm=true):ei X (.builtin "max") (λxs H Q=>∃i j,xs=[.int i,.int j]/\Q (.int (if j > i then j else i)) H):=by
 intro pins s σ H xs us Q I r h;obtain⟨i,j,rfl,q⟩:=h;obtain⟨u,w',rfl,⟨t,rfl⟩,⟨t',rfl⟩⟩:=wr r;refine max_two_ints (I.ok.hd hc) λh' tk k=>⟨_,H,I.kept k,?_,q⟩;by_cases hj:j > i
 .rw[Yb hj,Yb hj];exact⟨_,rfl⟩
 .rw[Yc hj,Yc hj];exact⟨_,rfl⟩
theorem sA(hc:X.calm=true):ei X (.builtin "min") (λxs H Q=>∃i j,xs=[.int i,.int j]/\Q (.int (if j<i then j else i)) H):=by
 intro pins s σ H xs us Q I r h;obtain⟨i,j,rfl,q⟩:=h;obtain⟨u,w',rfl,⟨t,rfl⟩,⟨t',rfl⟩⟩:=wr r;refine min_two_ints (I.ok.hd hc) λh' tk k=>⟨_,H,I.kept k,?_,q⟩;by_cases hj:j<i
 .rw[Yb hj,Yb hj];exact⟨_,rfl⟩
 .rw[Yc hj,Yc hj];exact⟨_,rfl⟩
theorem Ap:ei X (.type "int") (λxs H Q=>(∃i,xs=[.int i]/\Q (.int i) H) \/ ∃k,xs=[.bl k]/\Q (.int (if k then 1 else 0)) H):=by
 intro pins s σ H xs us Q I r h;rcases h with ⟨i,rfl,q⟩|⟨k,rfl,q⟩
 .obtain⟨u,rfl,t,rfl⟩:=vy r;exact call_int_int ⟨.int i,H,I,⟨_,rfl⟩,q⟩
 .obtain⟨u,rfl,r1⟩:=vy r;cases r1;exact call_int_bool ⟨.int (if k then 1 else 0),H,I.tok _,⟨_,rfl⟩,q⟩
end
structure IX (h:Heap)(x dx C:Addr)(mA:Str->Option Value):Prop where
 obj:h.get? x=some (PySem.W.instObj C dx)
 ns:h.Ns1 dx mA
 ne:dx≠x
theorem Al{dx:Addr}{mA:Str->Option Value}(n:h.Ns1 dx mA):∃od,h.get? dx=some od /\ ∀name,PySem.W.lookIn name od=some (mA name):=by
 obtain⟨o,es,ep,ho,hd,hk,_,hm⟩:=n;refine⟨o,ho,λname=>?_⟩;have e:=hm name;unfold nsFind findBy at e;rw[<-Array.find?_toList] at e;unfold PySem.W.lookIn;rw[hd];dsimp only;split
 .rename_i y q
  rw[q] at e;exact Yp some e
 .rename_i q
  rw[q] at e;have a:es.toList.any (·.refKey)=false:=by
   rw[List.any_eq_false];intro y hy;obtain⟨z,t,hkey⟩:=hk y (Array.mem_toList_iff.mp hy);simp[DictEntry.refKey,hkey]
  have a':¬ es.toList.any (·.refKey)=true:=by rw[a];exact Yq
  rw[Yc a'];exact Yp some e
theorem IX.look{x dx C:Addr}{mA:Str->Option Value}(I:IX h x dx C mA):∃od,PySem.W.InstAt h x (PySem.W.instObj C dx) C (some od) /\ ∀name,PySem.W.lookIn name od=some (mA name) :=
 let ⟨od,ho,hl⟩:=Al I.ns
 ⟨od,⟨I.obj,rfl,rfl,ho⟩,hl⟩
section
variable {P:Program}{w:World}{H H':Hp}{h h':Heap}{a C dx:Addr}{fs fs':List (Str×V)}
theorem FO(hok:lW P w H h)(e:H a=some (.ins C dx fs)):∃mA,IX h a dx C mA/\(∀f,JO (fs.lookup f) (mA f))/\PySem.Within mA (fs.map (·.1))/\fs.length<=1000/\H dx=some (.own a):=by
 obtain⟨d,z,ne,ob,mA,n,r,q⟩:=(show dO P w H h a (.ins C dx fs) from hok a _ e)
 exact⟨mA,⟨ob,n,ne⟩,r,q,z,d⟩
end
structure Mh (K:Sf)(C:Addr):Prop where
 pg:PySem.W.plainGet K C Str.empty=true
 hd:PySem.W.hasDictIn K C=true
 po:PySem.W.plainOver K C=true
 sa:PySem.W.findIn K (.ref C) "__setattr__"=some (some (.builtin "object.__setattr__"))
theorem Mh.get{C:Addr}(c:Mh K C)(f:Str):PySem.W.plainGet K C f=true:=c.pg
section
variable {X:Cx}{pins:List (Addr×Obj)}{σ:St}{H:Hp}{s:Shared}{A:Around}{E:Value->Shared->Prop}{Q:Value->Shared->Prop}{c:Value}{b:Bool}
inductive oW (K:Sf)(H:Hp):V->Value->Prop where
 | non:oW K H .non (.type "NoneType")
 | bl (x:Bool):oW K H (.bl x) (.type "bool")
 | int (i:Int):oW K H (.int i) (.type "int")
 | str (x:Str):oW K H (.str x) (.type "str")
 | flt (x:UInt64):oW K H (.flt x) (.type "float")
 | lst {a:Addr}{xs:List V}(e:H a=some (.lst xs)):oW K H (.ref a) (.type "list")
 | frz {a:Addr}{o:Obj}{xs:List V}(e:H a=some (.frz o (.lst xs))):oW K H (.ref a) (.type "list")
 | tup {a:Addr}{xs:List V}(e:H a=some (.tup xs)):oW K H (.ref a) (.type "tuple")
 | dK {a:Addr}{kvs:List (uV×V)}(e:H a=some (.dK kvs)):oW K H (.ref a) (.type "dict")
 | dT {a:Addr}{kvs:List (List uV×V)}(e:H a=some (.dT kvs)):oW K H (.ref a) (.type "dict")
 | ins {a C dx:Addr}{fs:List (Str×V)}(e:H a=some (.ins C dx fs))(cl:Mh K C)(ha:PySem.W.findIn K (.ref C) "__class__"=some (some (.builtin "object.__class__")))
   (hn:PySem.W.specialIn K (.builtin "object.__class__") "__get__"=some (some (.builtin "getset_descriptor.__get__"))) (htk:PySem.W.takesIn K (.builtin "object.__class__")=some true)
   (hm:PySem.W.mroIn K C (.type "object")=some true):oW K H (.ref a) (.ref C)
theorem fU{x:V}{t:Value}(I:aR X pins σ H s)(rx:cw x u)(ty:oW X.K H x t)(e:PySem.W.kitOne X.K t c=some b)(h:∀tk,Q (.bool b) { s with toks:=tk }):
  wpAny (model X.prog X.w) A (call (.builtin "isinstance") [u,c]) Q E s:=by
 cases ty with
 | non=>cases (show u=Value.none from rx);exact Yv PySem.W.kitx_none I.kIn True.intro e (λz=>nomatch z) h
 | bl y=>cases (show u=Value.bool y from rx);exact Yv PySem.W.kitx_bool I.kIn True.intro e (λz=>nomatch z) h
 | int i=>obtain⟨t,q⟩:=(show ∃t,u=Value.int i t from rx);cases q;exact Yv PySem.W.kitx_int I.kIn True.intro e (λz=>nomatch z) h
 | str y=>obtain⟨t,q⟩:=(show ∃t,u=Value.str y t from rx);cases q;exact Yv PySem.W.kitx_str I.kIn True.intro e (λz=>nomatch z) h
 | flt y=>obtain⟨t,q⟩:=(show ∃t,u=Value.float y t from rx);cases q;exact Yv PySem.W.kitx_float I.kIn True.intro e (λz=>nomatch z) h
 | @lst a xs ea =>
  cases (show u=Value.ref a from rx)
  obtain⟨_,_,n,_,h1⟩:=(show dO X.prog X.w H s.heap a (.lst xs) from I.hok a _ ea)
  exact Yv PySem.W.kitx_list I.kIn ⟨_,h1,rfl⟩ e (λz=>nomatch z) h
 | @frz a ob xs ea =>
  cases (show u=Value.ref a from rx)
  obtain⟨_,_,_,n,_,h1⟩:=(show dO X.prog X.w H s.heap a (.frz ob (.lst xs)) from I.hok a _ ea)
  exact Yv PySem.W.kitx_list I.kIn ⟨_,h1,rfl⟩ e (λz=>nomatch z) h
 | @tup a xs ea =>
  cases (show u=Value.ref a from rx)
  obtain⟨_,_,_,p⟩:=(show dO X.prog X.w H s.heap a (.tup xs) from I.hok a _ ea)
  obtain⟨o,h1,h2,_⟩:=p;exact Yv PySem.W.kitx_tuple I.kIn ⟨o,h1,h2⟩ e (λz=>nomatch z) h
 | @dK a kvs ea =>
  cases (show u=Value.ref a from rx)
  obtain⟨_,_,vs,_,p⟩:=(show dO X.prog X.w H s.heap a (.dK kvs) from I.hok a _ ea)
  obtain⟨o,es,ep,h1,h2,_⟩:=p;exact Yv PySem.W.kitx_dict I.kIn ⟨o,h1,h2.1⟩ e (λz=>nomatch z) h
 | @dT a kvs ea =>
  cases (show u=Value.ref a from rx)
  obtain⟨_,_,xs,_,o,es,ep,h1,h2,_⟩:=(show dO X.prog X.w H s.heap a (.dT kvs) from I.hok a _ ea)
  exact Yv PySem.W.kitx_dict I.kIn ⟨o,h1,h2.1⟩ e (λz=>nomatch z) h
 | @ins a C dx fs ea cl ha hn htk hm =>
  cases (show u=Value.ref a from rx)
  obtain⟨mA,O,_⟩:=FO I.hok ea;obtain⟨od,J,_⟩:=O.look;exact Yv (PySem.W.kitx_own (cl.get _) cl.hd ha hn htk hm) I.kIn J e (λz=>nomatch z) h
end
structure dE (k:Nat)(A:Around):Prop where
 hd:A.handled=none
 dp:A.depth+3*k+105<recursionLimit
 un:A.units+16*k+200<cLine
theorem dE.mono{j:Nat}(r:dE k A)(h:j<=k):dE j A:=⟨r.hd,by have:=r.dp;nofun,by have:=r.un;nofun⟩
theorem dE.deeper{k:Nat}{A:Around}(r:dE (k+1) A)(env:Env):dE k (A.deeper env) :=
 ⟨r.hd,by have:=r.dp;show A.depth+1+3*k+105<_;nofun,by have:=r.un;show A.units+3+16*k+200<_;nofun⟩
theorem dE.depth{k:Nat}{A:Around}(r:dE k A):A.depth<recursionLimit:=by have:=r.dp;nofun
def At:TA:=λ_ H Q=>Q [] H
def md(ta:TE)(tr:TA):TA:=λσ H Q=>ta σ H λx H1=>tr σ H1 λxs H2=>Q (x::xs) H2
section
variable {X:Cx}{e:Expr}{es:List Expr}{te:TE}{t:TA}{pos:Pos}
theorem IQ:PA X [] At:=λ_ _ _ _ H Q I h=>Calls.spliced_nil ⟨[],H,I,.nil,h⟩
theorem GB(ha:PE X e te)(hr:PA X es t)(hs:starEach (e::es) X.env=(false,eval e X.env)::starEach es X.env:=by rfl):PA X (e::es) (md te t):=by
 intro pos pins s σ H Q I h;rw[hs];show wpAny _ _ (spliced ((false,eval e X.env)::backTo pos (starEach es X.env))) _ _ s;refine Calls.spliced_cons (dc (ha pins s σ H _ I h) λu s1 ⟨x,H1,I1,r1,q1⟩=>?_);exact dc (hr pos pins s1 σ H1 _ I1 q1) λus s2 ⟨xs,H2,I2,r2,q2⟩=>⟨x::xs,H2,I2,.cons r1 r2,q2⟩
end
abbrev Sp:=List V->Hp->VK->XK->Prop
abbrev wT:=List Env->Hp->Shared->XK->Value->Shared->Prop
structure rE (P:Program)(w:World)(K:Sf)(mg:Str->Option Value)(base:Heap)(A:Around)(outer:List Env)(s:Shared)(H:Hp):Prop where
 frames:A.frames=some outer
 mod:Mod K mg base
 bs:∀b o,base.get? b=some o->s.heap.get? b=some o/\H b=none
 bsz:base.objs.size<=s.heap.objs.size
 funs:s.heap.FunFrames base outer
 frf:∀b∈iS outer,H b=none
 hok:lW P w H s.heap
 bare:AllBare s.gens
def CE(outer:List Env)(P:Program)(w:World)(H:Hp)(s:Shared)(Q:VK)(u:Value)(s':Shared):Prop :=
 ∃v H',s'.os=s.os/\AllBare s'.gens/\Un (iS outer) [] H H' s.heap s'.heap/\lW P w H' s'.heap/\cw v u/\Q v H'
def CR(CX:wT)(outer:List Env)(P:Program)(w:World)(H:Hp)(s:Shared)(Q:VK)(E:XK)(r:Result)(s':Shared):Prop :=
 match r with
 | .ok (.ret u)=>CE outer P w H s Q u s'
 | .ok _=>False
 | .error e=>CX outer H s E e s'
structure aZ (P:Program)(w:World)(K:Sf)(mg:Str->Option Value)(base:Heap)(CX:wT)(k:Nat)(f:Addr)(fd:FuncData)(ps:List Str)(sp:Sp):Prop where
 len:∀vs H Q E,sp vs H Q E->vs.length=ps.length
 run:∀(A:Around)(outer:List Env)(s:Shared)(H:Hp)(args:Args)(us:List Value)(vs:List V)(Q:VK)(E:XK),dE k A->rE P w K mg base A outer s H->BindsTo s fd args (ps.zip us)->bJ vs us->sp vs H Q E ->
  codeAny (model P w) A (.call (.ref f) args) (CR CX outer P w H s Q E) s
section
variable {X:Cx}{pins:List (Addr×Obj)}{σ:St}{H:Hp}{s s':Shared}
theorem aR.env0(I:aR X pins σ H s):rE X.prog X.w X.K X.mg X.base X.A X.stack s H :=
 ⟨I.ok.frames,I.ok.mod,I.bs,Yg I.ok.bsz I.sz,I.stack,I.stkFree,I.hok,I.bare⟩
theorem aR.after{Q:VK}(I:aR X pins σ H s)(h:CE X.stack X.prog X.w H s Q u s'):EP X pins σ Q u s':=by
 obtain⟨v,H',os,bare,un,hok,r,q⟩:=h;obtain⟨hh,g,d,t,os'⟩:=s';obtain rfl:os'=s.os:=os;exact⟨v,H',I.call (h':=hh) (g':=g) (d':=d) (t':=t) (ch:=[]) un hok bare (λb z=>absurd z (by simp)),r,q⟩
end
def Kr(sp:Sp)(dvs:List V)(E:XK)(t:TA):TE:=λσ H Q=>t σ H λvs H1=>sp (vs++dvs) H1 Q E
def kW(K:Sf)(fd:FuncData)(ps:List Str)(ds:List Value):Prop :=
 ∀(s:Shared)(us:List Value),K.In s.heap->(us++ds).length=ps.length->BindsTo s fd ⟨us,[]⟩ (ps.zip (us++ds))
theorem kW.all{fd:FuncData}{ps:List Str}(h:∀us:List Value,us.length=ps.length->bindArgs fd ⟨us,[]⟩=pure (ps.zip us)):kW K fd ps []:=λs us _ hl=>by
 rw[Yw] at hl ⊢;exact .of_eq (h us hl)
def xk(CX:wT)(X:Cx)(E:XK):Prop:=∀(pins:List (Addr×Obj))(σ:St)(H:Hp)(s:Shared)(e:Value)(s':Shared),aR X pins σ H s->CX X.stack H s E e s'->X.xe e s'
section
variable {X:Cx}{CX:wT}{k:Nat}{f C:Addr}{fd:FuncData}{ps:List Str}{sp:Sp}{dvs:List V}{ds:List Value}{E:XK}{x m:Str}{p pos apos:Pos}{e o:Expr}{es:List Expr}{ta:TE}{t:TA}
theorem Iw{Q:VK}{vs:List V}(F:aZ X.prog X.w X.K X.mg X.base CX k f fd ps sp)(hr:dE k X.A)(hb:kW X.K fd ps ds)(hd:bJ dvs ds)(hx:xk CX X E)
  (I:aR X pins σ H s)(r:bJ vs us)(h:sp (vs++dvs) H Q E):wpAny (model X.prog X.w) X.A (call (.ref f) us) (EP X pins σ Q) X.xe s:=by
 have r2:bJ (vs++dvs) (us++ds):=r.append hd;have hl:(us++ds).length=ps.length:=by rw[<-r2.length];exact F.len _ _ _ _ h
 refine wpAny_call (codeAny_mono (F.run X.A X.stack s H ⟨us,[]⟩ (us++ds) (vs++dvs) Q E hr I.env0 (hb s us I.kIn hl) r2 h) λr s' hq=>?_);cases r with
 | error e=>exact hx pins σ H s e s' I hq
 | ok fl =>
  cases fl with
  | ret u=>exact I.after hq
  | next=>exact False.elim hq
  | brk=>exact False.elim hq
  | cont=>exact False.elim hq
theorem ET(F:aZ X.prog X.w X.K X.mg X.base CX k f fd ps sp)(hr:dE k X.A)(hg:Gl X x)(hm:X.mg x=some (.ref f))(hk:PySem.W.keepIn X.K (.ref f)=true)(hb:kW X.K fd ps ds)(hd:bJ dvs ds)(hx:xk CX X E)
  (ha:PA X (e::es) t)(hdb:(x==("__debug__":Str))=false:=by decide) (he:starEach (e::es) X.env=(false,eval e X.env)::starEach es X.env:=by rfl)(hpl:(backTo pos (starEach es X.env)).any (·.1)=false:=by rfl) :
  PE X (.Call (.Name x p) (e::es) [] pos) (Kr sp dvs E t):=by
 intro pins s σ H Q I h;refine wpAny_Call_Name_kw (kA I hg hm ?_ hdb);refine PySem.W.callWith_K (h₀:=X.base) I.ok.mod.kin hk (dc (ha pos pins s σ H _ I h) λus s1 ⟨vs,H1,I1,r,q⟩=>⟨I1.kIn,?_⟩) he hpl;exact Iw F hr hb hd hx I1 r q
end
structure ay (N P:List Str)(sc:Scope):Prop where
 kind:sc.kind=.function
 co:sc.isCoroutine=false
 gen:sc.isGenerator=false
 nd:N.Nodup
 pre:N.take P.length=P
 par:∀x∈P,sc.names.lookup x=some .local\/sc.names.lookup x=some .cell
 nofree:∀y∈sc.names,y.2 ≠ .free
theorem sj{kindOf:Str->Option NameKind}{x:Str}:∀{binds:List (Str×Value)}{m:Str->Option Value},(∀v,(x,v)∉binds)->bindL kindOf binds m x=m x
 | [],_,_=>rfl
 | (n,v)::r,m,h=>by
  unfold bindL;rw[sj λw hw=>h w (Yk _ hw)];split
  .have:x≠n:=by rintro rfl;exact h v Yj
   simp[this]
  .rfl
theorem sC{kindOf:Str->Option NameKind}{x:Str}:∀{binds:List (Str×Value)}{m:Str->Option Value},(∀v,(x,v)∉binds)->bindC kindOf binds m x=m x
 | [],_,_=>rfl
 | (n,v)::r,m,h=>by
  unfold bindC;rw[sC λw hw=>h w (Yk _ hw)];split
  .rfl
  .have:x≠n:=by rintro rfl;exact h v Yj
   simp[this]
theorem rK{kindOf:Str->Option NameKind}{x:Str}{v:Value}:∀{P:List Str}{vs:List Value}{i:Nat}{m:Str->Option Value},P.Nodup->P[i]? = some x->vs[i]? = some v->kindOf x=some .local ->
  bindL kindOf (P.zip vs) m x=some v
 | [],_,_,_,_,h,_,_=>by simp at h
 | _::_,[],_,_,_,_,h,_=>by simp at h
 | p::P,w::vs,0,m,nd,h1,h2,hk=>by
  simp at h1 h2;subst h1;subst h2;show bindL kindOf ((p,w)::P.zip vs) m p=_;unfold bindL;rw[sj λv hv=>(List.nodup_cons.mp nd).1 (List.of_mem_zip hv).1,Yb hk];simp
 | p::P,w::vs,i+1,m,nd,h1,h2,hk=>by
  show bindL kindOf ((p,w)::P.zip vs) m x=_;unfold bindL;exact rK (i:=i) (List.nodup_cons.mp nd).2 (by simpa using h1) (by simpa using h2) hk
theorem rX{kindOf:Str->Option NameKind}{x:Str}{v:Value}:∀{P:List Str}{vs:List Value}{i:Nat}{m:Str->Option Value},P.Nodup->P[i]? = some x->vs[i]? = some v->kindOf x≠some .local ->
  bindC kindOf (P.zip vs) m x=some v
 | [],_,_,_,_,h,_,_=>by simp at h
 | _::_,[],_,_,_,_,h,_=>by simp at h
 | p::P,w::vs,0,m,nd,h1,h2,hk=>by
  simp at h1 h2;subst h1;subst h2;show bindC kindOf ((p,w)::P.zip vs) m p=_;unfold bindC;rw[sC λv hv=>(List.nodup_cons.mp nd).1 (List.of_mem_zip hv).1,Yc hk];simp
 | p::P,w::vs,i+1,m,nd,h1,h2,hk=>by
  show bindC kindOf ((p,w)::P.zip vs) m x=_;unfold bindC;exact rX (i:=i) (List.nodup_cons.mp nd).2 (by simpa using h1) (by simpa using h2) hk
def start(N:List Str)(vs:List V):St:=vs.map some++List.replicate (N.length-vs.length) none
def gd(CX:wT)(P:Program)(w:World)(K:Sf)(mg:Str->Option Value)(base:Heap)(N:List Str)(qual:Str)(scope:Scope)(f:Addr)(cd:Value)(A:Around)(outer:List Env)(s:Shared)(H:Hp)(E:XK):Cx where
 prog:=P
 w:=w
 K:=K
 mg:=mg
 base:=base
 A:=A.deeper (envOfC qual scope s.heap.objs.size f cd)
 N:=N
 s₀:=s
 H₀:=H
 env:=envOfC qual scope s.heap.objs.size f cd
 outer:=outer
 stack:=envOfC qual scope s.heap.objs.size f cd::outer
 ex:=[]
 calm:=true
 fn:=λ_=>true
 pn:=[]
 xe:=λe s'=>wpAny (model P w) (A.deeper (envOfC qual scope s.heap.objs.size f cd)) (leaving (envOfC qual scope s.heap.objs.size f cd) e) (λ_ s''=>CX outer H s E e s'') (λe' s''=>CX outer H s E e' s'') s'
theorem wz{sc:Scope}{n:Nat}(h:sc.names.lookup x=some .cell):∃c,(cellsFrom n sc.names []).lookup x=some c:=by
 have q:=PySem.W.cellsFrom_some sc.names n [] (.inl h);exact Option.isSome_iff_exists.mp q
theorem rL{CX:wT}{mg:Str->Option Value}{base:Heap}{N ps:List Str}{qual:Str}{scope:Scope}{f:Addr}{cd:Value}{outer:List Env}{s1:Shared}{E:XK}{vs:List V}
  (S:ay N ps scope)(hd:A.handled=none)(e0:rE P w K mg base A outer s H)(hl:vs.length=ps.length)(r:bJ vs us)
  (x:InCallC s s.heap.objs.size (bindL (envOfC qual scope s.heap.objs.size f cd).kindOf (ps.zip us) λ_=>none) (cellsFrom (s.heap.objs.size+1) scope.names []) (bindC (envOfC qual scope s.heap.objs.size f cd).kindOf (ps.zip us) λ_=>none) s1) :
  aR (gd CX P w K mg base N qual scope f cd A outer s H E) [] (start N vs) H s1:=by
 have hpl:ps.length<=N.length:=by have:=Yp List.length S.pre;rw[Yx] at this;nofun
 obtain⟨h1,tk,rfl,hk⟩:=x.done;have noA:∀b:Addr,b∉(gd CX P w K mg base N qual scope f cd A outer s H E).ex:=λb z=>absurd (show b∈([]:List Addr) from z) (by simp)
 refine⟨⟨e0.mod,S.kind,rfl,rfl,Yr _,λy z c h1 h2=>?_,λy hy=>?_,λy c _ h=>?_,λ_=>hd,Around.frames_deeper e0.frames,.inr ⟨rfl,rfl⟩,λb z=>absurd z (noA b),e0.bs,e0.bsz,λb _ _=>noA b,λb z=>absurd z (noA b),e0.funs,e0.frf⟩,
  rfl,e0.bare,Un.kept hk,⟨_,x.toInCall.ns,λi y v h1 h2 h3=>?_⟩,λy c h=>⟨_,x.cell y c h⟩,e0.hok.fresh (Yr _),λy c h=>?_,λp hp=>absurd (show p∈([]:List (Addr×Obj)) from hp) (by simp),e0.hok.kept hk,?_⟩
 .exact name_of_addr x.apart (Yy h1) (Yy h2)
 .have hy:scope.names.lookup y=some .cell\/scope.names.lookup y=some .free:=hy;rcases hy with hy|hy
  .exact wz hy
  .exact absurd rfl (S.nofree _ (Yy hy))
 .exact Yh (x.above y c (Yy h))
 .have hi:i<vs.length:=by
   unfold start at h2;by_cases hi:i<vs.length
   .exact hi
   .rw[Yz (by simpa using hi)] at h2
    rw[YA] at h2;split at h2<;>cases h2
  have ha:vs[i]? = some v:=by
   unfold start at h2;rw[YB (by simpa using hi),YC] at h2
   cases e:vs[i]? with
   | none=>rw[e] at h2;cases h2
   | some a=>rw[e] at h2;cases h2;rfl
  obtain⟨u,hu,rv⟩:=r.get ha;have hp:ps[i]? = some y:=by
   rw[<-S.pre,List.getElem?_take_of_lt ()];exact h1
  have ndP:ps.Nodup:=by rw[<-S.pre];exact S.nd.sublist (List.take_sublist _ _)
  refine⟨u,rv,?_⟩;rcases S.par y (YD hp) with k|k
  .exact .inl ⟨k,rK ndP hp hu k⟩
  .obtain⟨c,e⟩:=wz (n:=s.heap.objs.size+1) k;refine .inr ⟨.inl k,c,e,?_⟩;have q:=x.cell y c e;rw[rX ndP hp hu (by show scope.names.lookup y≠_;rw[k];decide)] at q
   exact q
 .exact e0.hok.fresh (Yh (x.above y c (Yy h)))
 .unfold start;show _=N.length;rw[YE,YF,YG];nofun
theorem BF{CX:wT}{mg:Str->Option Value}{base:Heap}{f:Addr}{name qual:Str}{params:Arguments}{body:List Stmt}{scope:Scope}{dV kV doc pm cdv ct oc:Value}{an od:Option Addr}
  {osl:Array (Option Value)}{N ps:List Str}{sp:Sp}(lk:K.lookup f=some ⟨oc,od,.func (PySem.W.fnOf name qual params body scope dV kV doc pm an cdv ct),osl⟩)(hcd:PySem.W.codeIn K cdv qual=true)(S:ay N ps scope)
  (len:∀vs H Q E,sp vs H Q E->vs.length=ps.length)
  (hbody:∀(A:Around)(outer:List Env)(s:Shared)(H:Hp)(vs:List V)(Q:VK)(E:XK),dE k (A.deeper (envOfC qual scope s.heap.objs.size f cdv))->sp vs H Q E ->
   ∃t,uW (gd CX P w K mg base N qual scope f cdv A outer s H E) body t/\t { nx:=λ_ H'=>Q .non H',rt:=Q } (start N vs) H) :
  aZ P w K mg base CX (k+1) f (PySem.W.fnOf name qual params body scope dV kV doc pm an cdv ct) ps sp:=by
 refine⟨len,λA outer s H args us vs Q E hr e0 hb r hsp=>?_⟩;have hl:=len _ _ _ _ hsp;have KX:K.In s.heap:=e0.mod.kin.keeps λb o e=>(e0.bs b o e).1;have lim:s.heap.NoLimit:=e0.mod.nolimit.keeps λb o e=>(e0.bs b o e).1;have hkind:∀y∈ps.zip us,scope.names.lookup y.1=some .local\/(scope.names.lookup y.1=some .cell/\((cellsFrom (s.heap.objs.size+1) scope.names []).lookup y.1).isSome=true):=λ⟨n,v⟩ hy=>by
  rcases S.par n (List.of_mem_zip hy).1 with q|q
  .exact .inl q
  .exact .inr ⟨q,PySem.W.cellsFrom_some _ _ _ (.inl q)⟩
 refine codeAny_call_function hr.depth (KX _ _ lk) rfl S.co S.gen rfl (PySem.W.codeRec_of KX hcd) (hb _ _ _ _ ?_);refine wpAny_newFunctionEnv_cells S.kind hkind λenv he s1 x=>?_;subst he;refine⟨lim.keeps x.toInCall.keep,codeAny_func ?_⟩;obtain⟨t,ht,hq⟩:=hbody A outer s H vs Q E (hr.deeper _) hsp;have I:aR (gd CX P w K mg base N qual scope f cdv A outer s H E) [] (start N vs) H s1:=rL S hr.hd e0 hl r x;refine wpAny_mono (ht [] s1 (start N vs) H _ I hq) (λfl s' hs=>?_) λe s' hs=>hs;have fin:∀{σ':St}{H':Hp}{v:V}{u:Value},aR (gd CX P w K mg base N qual scope f cdv A outer s H E) [] σ' H' s'->cw v u->Q v H'->CE outer P w H s Q u s' :=
  λ{σ' H' v u} J rv q=>⟨v,H',J.os,J.bare,J.base,J.hok,rv,q⟩
 cases fl with
 | ret u =>
  obtain⟨v,σ',H',J,rv,q⟩:=hs;exact fin J rv q
 | next =>
  obtain⟨σ',H',J,q⟩:=hs;exact fin (v:=V.non) (u:=Value.none) J rfl q
 | brk =>
  obtain⟨_,_,_,q⟩:=hs;exact False.elim q
 | cont =>
  obtain⟨_,_,_,q⟩:=hs;exact False.elim q
section
variable {X:Cx}{x:Str}{p pos:Pos}{e:Expr}{es:List Expr}{t:TA}{id T:String}{r:List V->Hp->VK->Prop}
def ED(r:List V->Hp->VK->Prop)(t:TA):TE:=λσ H Q=>t σ H λvs H1=>r vs H1 Q
theorem Bn(hc:ei X (.builtin id) r)(hg:Gl X x)(hm:X.mg x=none)(hv:bootBuiltins x=some (.builtin id))(ha:PA X (e::es) t)(hn:x ≠ "__name__":=by decide)(hdb:(x==("__debug__":Str))=false:=by decide)
  (he:starEach (e::es) X.env=(false,eval e X.env)::starEach es X.env:=by rfl)(hpl:(backTo pos (starEach es X.env)).any (·.1)=false:=by rfl):PE X (.Call (.Name x p) (e::es) [] pos) (ED r t):=by
 intro pins s σ H Q I h;refine wpAny_Call_Name_kw (jn I hg hm hv ?_ hn hdb);exact PyProof.Rows.callWith_builtin1 (dc (ha pos pins s σ H _ I h) λus s1 ⟨vs,H1,I1,r1,q1⟩=>hc pins s1 σ H1 vs us Q I1 r1 q1) he hpl
theorem AW(hc:ei X (.type T) r)(hg:Gl X x)(hm:X.mg x=none)(hv:bootBuiltins x=some (.type T))(ha:PA X (e::es) t)(hn:x ≠ "__name__":=by decide)(hdb:(x==("__debug__":Str))=false:=by decide)
  (he:starEach (e::es) X.env=(false,eval e X.env)::starEach es X.env:=by rfl)(hpl:(backTo pos (starEach es X.env)).any (·.1)=false:=by rfl):PE X (.Call (.Name x p) (e::es) [] pos) (ED r t):=by
 intro pins s σ H Q I h;refine wpAny_Call_Name_kw (jn I hg hm hv ?_ hn hdb);exact Ys (dc (ha pos pins s σ H _ I h) λus s1 ⟨vs,H1,I1,r1,q1⟩=>hc pins s1 σ H1 vs us Q I1 r1 q1) he hpl
end
end L2
namespace HT
open PySem PyProof.Rows
section
open PySem.SeqAt
open PySem.AutoSeq1 (wpAny_loadPart')
open PySem.MeetsSeq PySem.MeetsSeq2 PySem.MeetsSeq3
end
section
variable {prog:Program}{w:World}{A:Around}{E:Value->Shared->Prop}{s:Shared}
def sIx(n d:Nat):Option Int->Nat
 | none=>d
 | some v=>if v<0 then (v+(n:Int)).toNat else min v.toNat n
theorem uG(n d k:Nat):sIx n d (some (k:Int))=min k n:=by
 show (if (k:Int)<0 then ((k:Int)+(n:Int)).toNat else min (k:Int).toNat n)=min k n
 rw[Yc (),Int.toNat_natCast]
theorem IS(n d:Nat)(hd:d<=n)(o:Option Int):sIx n d o<=n:=by
 cases o with
 | none=>exact hd
 | some v =>
  show (if v<0 then (v+(n:Int)).toNat else min v.toNat n)<=n
  by_cases hv:v<0
  .rw[Yb hv];nofun
  .rw[Yc hv];exact Nat.min_le_right _ _
theorem yL(v:Int)(n d:Nat):(if v<0 then max (v+(n:Int)) 0 else min v (n:Int))=((sIx n d (some v):Nat):Int):=by
 show (if v<0 then max (v+(n:Int)) 0 else min v (n:Int))=(((if v<0 then (v+(n:Int)).toNat else min v.toNat n):Nat):Int)
 by_cases hv:v<0
 .simp only[Yb hv];nofun
 .simp only[Yc hv];nofun
theorem xm(lo hi:Option Int)(n:Nat):Builtin.Slice.sliceAdjust lo hi 1 (n:Int)=(((sIx n 0 lo:Nat):Int),((sIx n n hi:Nat):Int)):=by
 have h1:¬ ((1:Int)<0):=();unfold Builtin.Slice.sliceAdjust;simp only[h1,if_false];refine Prod.ext ?_ ?_
 .cases lo with
  | none=>rfl
  | some v=>exact yL v n 0
 .cases hi with
  | none=>rfl
  | some v=>exact yL v n n
theorem ya (i j:Nat):Builtin.Slice.slicePlaces (i:Int) (j:Int) 1=j-i:=by
 unfold Builtin.Slice.slicePlaces;have h1:(1:Int) > 0:=();simp only[h1,if_true,Int.ediv_one];split<;>nofun
theorem pY{v:Value}{o:Option Int}{Q:Option Int->Shared->Prop}(p:IsPart v o)(h:Q o s):wpAny (model prog w) A (Builtin.Slice.slicePartIndex v) Q E s:=by
 cases p with
 | none=>exact slicePart_none h
 | int i t=>exact slicePart_int h
theorem m8{sl:Addr}{vl vu:Value}{lo hi:Option Int}{n:Nat}{Q:Int×Int×Nat->Shared->Prop}(hs:s.heap.IsSliceOf sl vl vu .none)(pl:IsPart vl lo)(pu:IsPart vu hi)
  (h:Q (((sIx n 0 lo:Nat):Int),1,sIx n n hi-sIx n 0 lo) s):wpAny (model prog w) A (Builtin.Slice.sliceApplied (.ref sl) (pure (n:Int))) Q E s:=by
 obtain⟨os,hos,hcs,hds⟩:=id hs;unfold Builtin.Slice.sliceApplied Builtin.Slice.sliceFields;refine wpAny_bind (wpAny_bind (wpAny_field hos hds (x:=vl) rfl (wpAny_bind (wpAny_field hos hds (x:=vu) rfl (wpAny_bind (wpAny_field hos hds (x:=.none) rfl (wpAny_pure ?_)))))));refine wpAny_bind (slicePart_none ?_);show wpAny _ _ (if ((1:Int)==0)=true then _ else _) _ _ s
 rw[Yc ∅];refine wpAny_bind (pY pl (wpAny_bind (pY pu (wpAny_bind (wpAny_pure ?_)))));show wpAny _ _ (match Builtin.Slice.sliceAdjust lo hi 1 (n:Int) with|(lo,hi)=>pure (lo,(1:Int),Builtin.Slice.slicePlaces lo hi 1)) _ _ s
 rw[xm lo hi n];show wpAny _ _ (pure (((sIx n 0 lo:Nat):Int),(1:Int),Builtin.Slice.slicePlaces ((sIx n 0 lo:Nat):Int) ((sIx n n hi:Nat):Int) 1)) _ _ s;rw[ya];exact wpAny_pure h
theorem Cz(xs:Array Value)(i k:Nat):((List.range k).filterMap λ(m:Nat)=>xs[((i:Int)+(m:Int)*1).toNat]?).toArray=((xs.toList.drop i).take k).toArray:=by
 have e:(λ(m:Nat)=>xs[((i:Int)+(m:Int)*1).toNat]?)=λm=>xs[i+m]?:=by
  funext m;have:((i:Int)+(m:Int)*1).toNat=i+m:=();rw[this]
 rw[e];have:=pick_run xs i k;rw[List.filterMap_map] at this;have e2:((λx=>xs[x]?) ∘ λx=>i+x)=λm=>xs[i+m]?:=rfl;rw[e2] at this;rw[this]
theorem getItem_tuple_cut{t sl:Addr}{items:Array Value}{vl vu:Value}{lo hi:Option Int}{Q:Value->Shared->Prop}(ht:IsTup s.heap t items)(hs:s.heap.IsSliceOf sl vl vu .none)(pl:IsPart vl lo)(pu:IsPart vu hi)
  (hw:¬ (sIx items.size 0 lo=0/\sIx items.size items.size hi=items.size))
  (h:Q (.ref s.heap.objs.size) { s with heap:=s.heap.push { cls:=.type "tuple",data:=.seq ((items.toList.drop (sIx items.size 0 lo)).take (sIx items.size items.size hi-sIx items.size 0 lo)).toArray } })
  (hsz:items.size<=sizeLine):wpAny (model prog w) A (getItem (.ref t) (.ref sl)) Q E s:=by
 have htake:sizeOk (.seq ((items.toList.drop (sIx items.size 0 lo)).take (sIx items.size items.size hi-sIx items.size 0 lo)).toArray):=by
  show ((items.toList.drop (sIx items.size 0 lo)).take (sIx items.size items.size hi-sIx items.size 0 lo)).toArray.size<=sizeLine;rw[Yu,Yx,YH,Array.length_toList];nofun
 have hj:sIx items.size items.size hi<=items.size:=IS _ _ (Yr _) hi;obtain⟨os,hos,hcs,hds⟩:=id hs;have hTs:s.TypeIs (.ref sl) "slice":=⟨os,hos,hcs⟩;unfold getItem
 try with_reducible refine wpAny_holding ?_
 first|refine wpAny_bind (wpAny_pure ?_)|skip
 refine wpAny_bind (wpAny_sequenceKey ht.typeIs ∅ ?_);refine wpAny_bind (wpAny_callSpecial?_slot (name:=Str.ofString "__getitem__") ht.typeIs PyProof.Rows.slot_tuple_getitem
  (wpAny_call_entry PyProof.Rows.slot_tuple_getitem ht.typeIs entry_tuple_getitem ?_ (args_tuple_getitem _ _)))
 show wpAny _ _ (Builtin.Tuple.tupleItemsOf (.ref t) >>= _) _ _ s;refine wpAny_bind (tupleItemsOf_ ht ?_);refine wpAny_bind (wpAny_typeOf hTs ?_);rw[Yb ∅];refine wpAny_bind (m8 hs pl pu ?_);have hno:¬ ((((sIx items.size 0 lo:Nat):Int)==0 && (1:Int)==1 && (sIx items.size items.size hi-sIx items.size 0 lo)==items.size)=true):=by
  intro q;rw[YI,YI] at q;have q1:((sIx items.size 0 lo:Nat):Int)=0:=eq_of_beq q.1.1;have q2:sIx items.size items.size hi-sIx items.size 0 lo=items.size:=eq_of_beq q.2;exact hw ⟨(),()⟩
 show wpAny _ _ (if (((sIx items.size 0 lo:Nat):Int)==0 && (1:Int)==1 && (sIx items.size items.size hi-sIx items.size 0 lo)==items.size)=true then _ else _) _ _ s
 rw[Yc hno,Cz]
 first
  | exact wpAny_bind (m:=Builtin.Tuple.tupleExact _) (wpAny_newObj_type (wpAny_pure ⟨_,rfl,wpAny_pure h⟩) htake)
  | exact wpAny_bind (m:=Builtin.Tuple.tupleExact _) (wpAny_newObj_type (wpAny_bind (wpAny_pure (wpAny_pure ⟨_,rfl,wpAny_pure h⟩))) htake)
  | exact wpAny_bind (wpAny_bind (m:=Builtin.Tuple.tupleExact _) (wpAny_newObj_type (wpAny_pure (wpAny_pure ⟨_,rfl,wpAny_pure h⟩)) htake))
  | exact wpAny_bind (wpAny_bind (m:=Builtin.Tuple.tupleExact _) (wpAny_newObj_type (wpAny_pure ⟨_,rfl,wpAny_pure h⟩) htake))
end
end HT
namespace L2
open PySem PySem.Spec PyProof.Rows
variable {n:Nat}{α:Type}{s:Shared}{x:V}
abbrev TO:=St->Hp->(Option Int->Hp->Prop)->Prop
def PO(X:Cx)(e:Option Expr)(t:TO):Prop :=
 ∀pins s(σ:St)H(Q:Option Int->Hp->Prop),aR X pins σ H s->t σ H Q ->
  wpAny (model X.prog X.w) X.A (evalPart e X.env) (λu s'=>∃o H',aR X pins σ H' s'/\IsPart u o/\Q o H') X.xe s
def uT:TO:=λ_ H Q=>Q none H
def zo(t:TE):TO:=λσ H Q=>t σ H λx H1=>∃i,x=.int i/\Q (some i) H1
section
variable {X:Cx}{e:Expr}{te:TE}{lo hi:Option Expr}{tl th:TO}{pos p2:Pos}
theorem FK:PO X none uT:=by
 intro pins s σ H Q I h;rw[evalPart_none];exact wpAny_pure ⟨none,H,I,.none,h⟩
theorem Fm(h:PE X e te):PO X (some e) (zo te):=by
 intro pins s σ H Q I hw;rw[evalPart_some];refine dc (h pins s σ H _ I hw) λu s1 ⟨x,H1,I1,r1,q1⟩=>?_;obtain⟨i,rfl,q⟩:=q1;obtain⟨t,rfl⟩:=r1;exact⟨some i,H1,I1,.int i t,q⟩
def zP(X:Cx)(r:V->Option Int->Option Int->Hp->VK->Prop):Prop :=
 ∀pins s(σ:St)H(x:V)(v vl vu:Value)(lo hi:Option Int)(sl:Addr)(Q:VK),aR X pins σ H s->cw x v->s.heap.IsSliceOf sl vl vu .none->IsPart vl lo->IsPart vu hi->r x lo hi H Q ->
  ∃T id,typeLookup (.type T) "__getitem__"=pure (some (.builtin id))/\s.TypeIs v T/\wpAny (model X.prog X.w) X.A (getItem v (.ref sl)) (EP X pins σ Q) X.xe s
def Mi(r:V->Option Int->Option Int->Hp->VK->Prop)(te:TE)(tl th:TO):TE:=λσ H Q=>te σ H λx H1=>tl σ H1 λl H2=>th σ H2 λu H3=>r x l u H3 Q
theorem C4{r:V->Option Int->Option Int->Hp->VK->Prop}(hr:zP X r)(he:PE X e te)(hl:PO X lo tl)(hu:PO X hi th):PE X (.Subscript e (.Slice lo hi none p2) pos) (Mi r te tl th):=by
 intro pins s σ H Q I h;refine Subscript_ (dc (he pins s σ H _ I h) λv s1 ⟨x,H1,I1,r1,q1⟩=>?_);refine wpAny_Slice (dc (hl pins s1 σ H1 _ I1 q1) λvl s2 ⟨l,H2,I2,pl,q2⟩=>dc (hu pins s2 σ H2 _ I2 q2) λvu s3 ⟨u,H3,I3,pu,q3⟩=>?_);rw[evalPart_none];refine wpAny_pure ?_;have I4:aR X pins σ H3 { s3 with heap:=s3.heap.push { cls:=.type "slice",data:=.fields #[vl,vu,.none] } }:=I3.kept (t':=s3.toks) λb ob q=>Heap.get?_push_of_some _ q
 obtain⟨T,id,hT,ht,hg⟩:=hr pins { s3 with heap:=s3.heap.push { cls:=.type "slice",data:=.fields #[vl,vu,.none] } } σ H3 x v vl vu l u s3.heap.objs.size Q I4 r1 (Heap.IsSliceOf.new ..) pl pu q3;show wpAny (model X.prog X.w) X.A (subscriptTail e (.Slice lo hi none p2) v (.ref s3.heap.objs.size)) (EP X pins σ Q) X.xe { s3 with heap:=s3.heap.push { cls:=.type "slice",data:=.fields #[vl,vu,.none] } }
 exact tail_any (ops:=[.ref s3.heap.objs.size,v]) ht hT hg (by with_unfolding_all rfl)
def i8(xs:List V)(lo hi:Option Int):List V:=(xs.drop (HT.sIx xs.length 0 lo)).take (HT.sIx xs.length xs.length hi-HT.sIx xs.length 0 lo)
theorem oH(xs:List V)(lo hi:Option Int):(i8 xs lo hi).length<=xs.length:=by
 unfold i8;rw[Yx,YH];nofun
def LK(K:Sf):V->Option Int->Option Int->Hp->VK->Prop:=λx lo hi H Q=>∃a xs,x=.ref a/\wK K H a xs /\
 ¬ (HT.sIx xs.length 0 lo=0/\HT.sIx xs.length xs.length hi=xs.length) /\ ∀p,H p=none->Q (.ref p) (upd H p (.tup (i8 xs lo hi)))
theorem HN:zP X (LK X.K):=by
 intro pins s σ H x v vl vu lo hi sl Q I rx hs pl pu h;obtain⟨a,xs,rfl,hx,hw,q⟩:=h;cases rx;obtain⟨its,r,ht,hz⟩:=I.tuple hx;have hlen:its.toArray.size=xs.length:=by rw[Yu];exact r.length.symm
 refine⟨"tuple",_,PyProof.Rows.slot_tuple_getitem.lookup,ht.typeIs,?_⟩;refine HT.getItem_tuple_cut ht hs pl pu (by rw[hlen];exact hw) ?_ (by rw[hlen];exact hz)
 rw[hlen];refine⟨.ref s.heap.objs.size,_,I.laid (t':=s.toks) (o:=.tup (i8 xs lo hi)) (λb ob q=>Heap.get?_push_of_some _ q) (Yr _) ?_,rfl,q _ (I.hok.fresh (Yr _))⟩;exact⟨Yg (oH xs lo hi) hz,_,(r.drop (HT.sIx xs.length 0 lo)).take (HT.sIx xs.length xs.length hi-HT.sIx xs.length 0 lo),IsTup.new _ _⟩
end
def xH(n:Nat)(i:Int):Option Nat:=if 0<=i then (if i<n then some i.toNat else none) else if -(n:Int)<=i then some (i+n).toNat else none
def oY{α:Type}(xs:List α)(i:Int):Option α:=(xH xs.length i).bind λj=>xs[j]?
theorem yO{i:Int}{j:Nat}(h:xH n i=some j):seqIndex? i n=some j/\j<n /\ -(n:Int)<=i/\i<n:=by
 unfold xH at h;by_cases h0:0<=i
 .rw[Yb h0] at h;by_cases h1:i<n
  .rw[Yb h1] at h;have e:i.toNat=j:=Yo h;exact⟨by rw[seqIndex_of h0 h1,e],(),(),h1⟩
  .rw[Yc h1] at h;cases h
 .rw[Yc h0] at h;by_cases h1 : -(n:Int)<=i
  .rw[Yb h1] at h;have e:(i+n).toNat=j:=Yo h;exact⟨by rw[seqIndex_neg () h1,e],(),h1,()⟩
  .rw[Yc h1] at h;cases h
theorem sR{xs:List α}{i:Int}{v:α}(h:oY xs i=some v):∃j,seqIndex? i xs.length=some j/\xs[j]? = some v/\j<xs.length /\ -(xs.length:Int)<=i/\i<xs.length:=by
 unfold oY at h;cases e:xH xs.length i with
 | none=>rw[e] at h;cases h
 | some j =>
  rw[e] at h;obtain⟨h1,h2,h3,h4⟩:=yO e;exact⟨j,h1,h,h2,h3,h4⟩
theorem bA{xs:List α}{j:Nat}{v:α}(h:xs[j]? = some v):oY xs (j:Int)=some v:=by
 have hj:j<xs.length:=(List.getElem?_eq_some_iff.mp h).1;have e:xH xs.length (j:Int)=some j:=by
  unfold xH;rw[Yb (),Yb ()];simp
 unfold oY;rw[e];exact h
theorem ie(xs:List α)(v:α):oY (xs++[v]) (-1)=some v:=by
 have hl:(xs++[v]).length=xs.length+1:=by simp
 have e:xH (xs++[v]).length (-1)=some xs.length:=by
  unfold xH;rw[hl,Yc ∅,Yb ()];congr 1
  nofun
 unfold oY;rw[e];show (xs++[v])[xs.length]? = some v;simp
def yJ(b:Expr):Prop:=∀o i,subscripted b false o i=operate [o,i] (getItem o i)
def wN(X:Cx)(r:R2):Prop :=
 ∀(value slice:Expr)(pins:List (Addr×Obj))(s:Shared)(σ:St)(H:Hp)(x y:V)(v u:Value)(Q:VK),aR X pins σ H s->cw x v->cw y u->r x y H Q ->
  subscripted slice false v u=operate [v,u] (getItem v u)->wpAny (model X.prog X.w) X.A (subscriptTail value slice v u) (EP X pins σ Q) X.xe s
def Lj(X:Cx)(id:String)(r:V->List V->Hp->VK->Prop):Prop :=
 ∀pins s(σ:St)H(x:V)(xs:List V)(v:Value)(us:List Value)(Q:VK),aR X pins σ H s->cw x v->bJ xs us->r x xs H Q ->
  wpAny (model X.prog X.w) X.A (call (.builtin id) (v::us)) (EP X pins σ Q) X.xe s
section
variable {X:Cx}{a b:Expr}{ta tb:TE}{pos:Pos}
theorem Kx{r:R2}(hr:wN X r)(ha:PE X a ta)(hb:PE X b tb)(hs:yJ b):PE X (.Subscript a b pos) (F9 r ta tb):=by
 intro pins s σ H Q I h;exact Subscript_ (JG ha hb I h λv u s2 x y H2 I2 rx ry q=>hr a b pins s2 σ H2 x y v u Q I2 rx ry q (hs _ _))
def Ka(K:Sf):R2:=λx y H Q=>∃p xs i v,x=.ref p/\y=.int i/\jx K H p xs/\oY xs i=some v/\Q v H
def Ld(K:Sf):R2:=λx y H Q=>∃p xs i v,x=.ref p/\y=.int i/\wK K H p xs/\oY xs i=some v/\Q v H
theorem zu:wN X (Ka X.K):=by
 intro value slice pins s σ H x y v u Q I rx ry h hs;obtain⟨p,xs,i,z,rfl,rfl,hq,he,q⟩:=h;cases rx;obtain⟨t,rfl⟩:=ry;obtain⟨its,r,pl,hz⟩:=I.list hq;obtain⟨j,h1,h2,h3,h4,h5⟩:=sR he;obtain⟨w,ew,rw'⟩:=r.get h2;have hl:=r.length;have hn:=mY;have fin:EP X pins σ Q w s:=⟨z,H,I,rw',q⟩;by_cases h0:0<=i
 .have hj:i.toNat=j:=by
   rw[seqIndex_of h0 h5] at h1;exact Yo h1
  exact item_listR pl.isList h0 () (by rw[hj];simpa using ew) fin hs
 .have hj:(i+(its.toArray.size:Int)).toNat=j:=by
   rw[seqIndex_neg () h4] at h1;rw[Yu,<-hl];exact Yo h1
  exact subscriptTail_builtinR (x:=w) pl.isList.typeIs slot_list_getitem.lookup
   (wpAny_getItem_list_neg (Q:=λr s'=>r=w/\EP X pins σ Q r s') pl.isList () (by rw[Yu]<;>nofun) () (by rw[hj];simpa using ew) ⟨rfl,fin⟩) hs
theorem HP:wN X (Ld X.K):=by
 intro value slice pins s σ H x y v u Q I rx ry h hs;obtain⟨p,xs,i,z,rfl,rfl,hq,he,q⟩:=h;cases rx;obtain⟨t,rfl⟩:=ry;obtain⟨its,r,pl,hz⟩:=I.tuple hq;obtain⟨j,h1,h2,h3,h4,h5⟩:=sR he;obtain⟨w,ew,rw'⟩:=r.get h2;have hl:=r.length;have hn:=mY;have fin:EP X pins σ Q w s:=⟨z,H,I,rw',q⟩;exact subscriptTail_builtinR (x:=w) pl.typeIs slot_tuple_getitem.lookup
  (getItem_tuple (j:=j) (Q:=λr s'=>r=w/\EP X pins σ Q r s') pl () () (by rw[Yu,<-hl];exact h1) (by simpa using ew) ⟨rfl,fin⟩) hs
theorem wV(its:List Value)(n j:Nat)(u:Value):Obj.mapSeq (·.setIfInBounds j u) { cls:=.type "list",data:=.seq its.toArray n }={ cls:=.type "list",data:=.seq (its.set j u).toArray n }:=by
 simp[Obj.mapSeq]
theorem aR.lst{pins:List (Addr×Obj)}{σ:St}{H:Hp}{s:Shared}{p:Addr}{xs:List V}(I:aR X pins σ H s)(h:H p=some (.lst xs)):
  ∃(its:List Value)(n:Nat),bJ xs its/\s.heap.get? p=some { cls:=.type "list",data:=.seq its.toArray n } /\ xs.length<=sizeLine:=by
 obtain⟨z,its,n,r,e⟩:=I.hok p _ h;exact⟨its,n,r,e,z⟩
theorem aR.lstUpd{pins:List (Addr×Obj)}{σ:St}{H:Hp}{p:Addr}{xs ys:List V}{its its':List Value}{n':Nat}{f:Obj->Obj}(I:aR X pins σ H s)(h:H p=some (.lst xs))
  (ho:s.heap.get? p=some { cls:=.type "list",data:=.seq its.toArray n }) (hf:f { cls:=.type "list",data:=.seq its.toArray n }={ cls:=.type "list",data:=.seq its'.toArray n' }) (r:bJ ys its')(hz:ys.length<=sizeLine)(t:Nat) :
  aR X pins σ (upd H p (.lst ys)) { s with heap:=s.heap.update p f,toks:=t }:=by
 have e:(s.heap.update p f).get? p=some { cls:=.type "list",data:=.seq its'.toArray n' }:=by
  rw[Heap.get?_update_self f ho (by rw[hf]<;>rfl),hf]
 refine I.write (x:=p) (e:=p) (by rw[h];trivial) (.inl rfl) (λb u hb q=>(Heap.get?_update_other _ _ (Yl hb)).trans q) ⟨_,e⟩ ?_
 exact⟨hz,its',n',r,e⟩
def Kc:V->V->V->Hp->(Hp->Prop)->Prop:=λo i v H Q=>∃p xs k j,o=.ref p/\i=.int k/\H p=some (.lst xs)/\xH xs.length k=some j/\Q (upd H p (.lst (xs.set j v)))
theorem DI:Aq X Kc:=by
 intro pins s σ H o i v ov iv u Q I ro ri rv h;obtain⟨p,xs,k,j,rfl,rfl,hp,hj,q⟩:=h;cases ro;obtain⟨t,rfl⟩:=ri;obtain⟨its,n,r,ho,hz⟩:=I.lst hp;obtain⟨h1,h2,h3,h4⟩:=yO hj;have hl:=r.length;have hn:=mY;have I':aR X pins σ (upd H p (.lst (xs.set j v))) { s with heap:=s.heap.update p (Obj.mapSeq (·.setIfInBounds j u)) } :=
  I.lstUpd hp ho (wV its n j u) (r.set rv j) (by rw[YJ];exact hz) s.toks
 by_cases h0:0<=k
 .have hk:k.toNat=j:=by
   rw[seqIndex_of h0 h4] at h1;exact Yo h1
  exact PySem.W.ki_setAt ho h0 () (by rw[Yu,<-hl];exact h4) (by rw[hk];exact⟨_,I',q⟩)
 .have hk:(k+(its.toArray.size:Int)).toNat=j:=by
   rw[seqIndex_neg () h3] at h1;rw[Yu,<-hl];exact Yo h1
  exact PySem.W.ki_setBack ho () (by rw[Yu,<-hl];exact h3) () (by rw[hk];exact⟨_,I',q⟩)
theorem uf(lo hi:Option Int)(n:Nat):(sliceBounds lo hi none n).1=((HT.sIx n 0 lo:Nat):Int)/\(sliceBounds lo hi none n).2.1=((HT.sIx n n hi:Nat):Int)/\(sliceBounds lo hi none n).2.2=1:=by
 refine⟨?_,?_,rfl⟩
 .cases lo with
  | none=>simp[sliceBounds,HT.sIx]
  | some i =>
   simp only[sliceBounds,HT.sIx,Option.getD_none,show (1:Int) > 0 by decide,if_true]
   by_cases h:i<0
   .simp only[h,if_true]<;>nofun
   .simp only[h,if_false]<;>nofun
 .cases hi with
  | none=>simp[sliceBounds,HT.sIx]
  | some i =>
   simp only[sliceBounds,HT.sIx,Option.getD_none,show (1:Int) > 0 by decide,if_true]
   by_cases h:i<0
   .simp only[h,if_true]<;>nofun
   .simp only[h,if_false]<;>nofun
theorem rD(its:List Value)(lo hi:Option Int):slicePick its.toArray lo hi none=((its.drop (HT.sIx its.length 0 lo)).take (HT.sIx its.length its.length hi-HT.sIx its.length 0 lo)).toArray:=by
 obtain⟨h1,h2,h3⟩:=uf lo hi its.toArray.size;unfold slicePick;rw[h1,h2,h3];simp only[sliceRange_one,pick_run,Yu]<;>rfl
def L5(K:Sf):V->Option Int->Option Int->Hp->VK->Prop:=λx lo hi H Q=>∃a xs,x=.ref a/\jx K H a xs /\ ∀p,H p=none->Q (.ref p) (upd H p (.lst (i8 xs lo hi)))
theorem Fl:zP X (L5 X.K):=by
 intro pins s σ H x v vl vu lo hi sl Q I rx hs pl pu h;obtain⟨a,xs,rfl,hx,q⟩:=h;cases rx;obtain⟨its,r,ht,hz⟩:=I.list hx;have hlen:=r.length;refine⟨"list",_,slot_list_getitem.lookup,ht.isList.typeIs,?_⟩;refine wpAny_getItem_list_slice ht.isList hs pl pu .none (by simp) ?_ (by rw[Yu]<;>nofun)
 rw[rD,<-hlen];refine⟨.ref s.heap.objs.size,_,I.laid (t':=s.toks) (o:=.lst (i8 xs lo hi)) (λb ob q=>Heap.get?_push_of_some _ q) (Yr _) ?_,rfl,q _ (I.hok.fresh (Yr _))⟩;exact⟨Yg (oH xs lo hi) hz,_,0,(r.drop (HT.sIx xs.length 0 lo)).take (HT.sIx xs.length xs.length hi-HT.sIx xs.length 0 lo),Heap.get?_push_size _ rfl⟩
def oz:V->Bool
 | .non=>true
 | .bl _=>true
 | .int _=>true
 | .str _=>true
 | _=>false
def GR:V->V->Bool
 | .non,.non=>true
 | .bl a,.bl b=>a==b
 | .bl a,.int b=>(if a then 1 else 0)==b
 | .int a,.bl b=>a==(if b then 1 else 0)
 | .int a,.int b=>a==b
 | .str a,.str b=>a==b
 | _,_=>false
theorem Hu{A:Around}{y:V}{u v:Value}(ry:cw y u)(rx:cw x v)(fy:oz y=true)(fx:oz x=true):SeqAt.EqAt A s u v (GR y x):=by
 cases y with
 | non =>
  cases ry;cases x with
  | non=>cases rx;exact SeqAt.EqAt.same _
  | bl b=>cases rx;exact SeqAt.EqAt.none_bool b
  | int b=>obtain⟨t,rfl⟩:=rx;exact SeqAt.EqAt.none_int b t
  | str b=>obtain⟨t,rfl⟩:=rx;exact SeqAt.EqAt.none_str b t
  | _=>exact absurd (show false=true from fx) Yq
 | bl a =>
  cases ry;cases x with
  | non=>cases rx;exact SeqAt.EqAt.bool_none a
  | bl b=>cases rx;exact SeqAt.EqAt.bool_bool a b
  | int b=>obtain⟨t,rfl⟩:=rx;exact SeqAt.EqAt.bool_int a b t
  | str b=>obtain⟨t,rfl⟩:=rx;exact SeqAt.EqAt.bool_str a b t
  | _=>exact absurd (show false=true from fx) Yq
 | int a =>
  obtain⟨t',rfl⟩:=ry;cases x with
  | non=>cases rx;exact SeqAt.EqAt.int_none a t'
  | bl b=>cases rx;exact SeqAt.EqAt.int_bool a t' b
  | int b=>obtain⟨t,rfl⟩:=rx;exact SeqAt.EqAt.int_int a t' b t
  | str b=>obtain⟨t,rfl⟩:=rx;exact SeqAt.EqAt.int_str a t' b t
  | _=>exact absurd (show false=true from fx) Yq
 | str a =>
  obtain⟨t',rfl⟩:=ry;cases x with
  | non=>cases rx;exact SeqAt.EqAt.str_none a t'
  | bl b=>cases rx;exact SeqAt.EqAt.str_bool a t' b
  | int b=>obtain⟨t,rfl⟩:=rx;exact SeqAt.EqAt.str_int a t' b t
  | str b=>obtain⟨t,rfl⟩:=rx;exact SeqAt.EqAt.str_str a t' b t
  | _=>exact absurd (show false=true from fx) Yq
 | _=>exact absurd (show false=true from fy) Yq
def GH(x:V)(u:Value):Bool:=match u with
 | .none=>GR .non x
 | .bool b=>GR (.bl b) x
 | .int i _=>GR (.int i) x
 | .str z _=>GR (.str z) x
 | _=>false
theorem Cw{y:V}{u:Value}(r:cw y u)(f:oz y=true):GH x u=GR y x:=by
 cases y with
 | non=>cases r;rfl
 | bl b=>cases r;rfl
 | int i=>obtain⟨t,rfl⟩:=r;rfl
 | str z=>obtain⟨t,rfl⟩:=r;rfl
 | _=>exact absurd (show false=true from f) Yq
theorem ur{x:V}:∀{xs:List V}{us:List Value},bJ xs us->xs.all oz=true->us.any (GH x)=xs.any λy=>GR y x
 | _,_,.nil,_=>rfl
 | y::xs,u::us,.cons r t,f=>by
  rw[List.all_cons,YI] at f;rw[List.any_cons,List.any_cons,Cw r f.1,ur t f.2]
theorem qI{A:Around}{s:Shared}{x:V}{v:Value}(rx:cw x v)(fx:oz x=true):∀{xs:List V}{us:List Value},bJ xs us->xs.all oz=true -> ∀u∈us,SeqAt.EqAt A s u v (GH x u)
 | _,_,.nil,_=>λu hu=>by cases hu
 | y::xs,u::us,.cons r t,f=>λu' hu=>by
  rw[List.all_cons,YI] at f;rcases Y2.mp hu with rfl|hu
  .rw[Cw r f.1];exact Hu r rx f.1 fx
  .exact qI rx fx t f.2 u' hu
def Li(x:V)(xs:List V):Bool:=xs.any λy=>GR y x
def Mv(K:Sf)(neg:Bool):R2:=λx y H Q=>∃p xs,y=.ref p/\(jx K H p xs\/wK K H p xs)/\oz x=true/\xs.all oz=true/\Q (.bl (if neg then !Li x xs else Li x xs)) H
theorem tS:eX X (compareOp .NotIn) (Mv X.K true):=by
 intro pins s σ H x y v u Q I rx ry h;obtain⟨p,xs,rfl,hq,fx,fs,q⟩:=h;cases ry;rcases hq with hq|hq
 .obtain⟨its,r,pl,hz⟩:=I.list hq;refine SeqAt.notIn_listAt (GH x) pl.isList (λw hw=>qI rx fx r fs w (by simpa using hw)) ⟨.bl _,H,I,rfl,?_⟩
  rw[show its.toArray.any (GH x)=its.any (GH x) by simp,ur r fs]
  exact q
 .obtain⟨its,r,pl,hz⟩:=I.tuple hq;refine SeqAt.notIn_tupleAt (GH x) pl (λw hw=>qI rx fx r fs w (by simpa using hw)) ⟨.bl _,H,I,rfl,?_⟩
  rw[show its.toArray.any (GH x)=its.any (GH x) by simp,ur r fs]
  exact q
theorem jt:ei X (.builtin "len") (λxs H Q=>∃p ys,xs=[.ref p]/\(jx X.K H p ys\/wK X.K H p ys)/\Q (.int ys.length) H):=by
 intro pins s σ H xs us Q I r h;obtain⟨p,ys,rfl,hq,q⟩:=h;obtain⟨u,rfl,rx⟩:=vy r;cases rx;have hn:=mY;rcases hq with hq|hq
 .obtain⟨its,r',pl,hz⟩:=I.list hq;have hlen:=r'.length;exact Calls.call_len_list pl.isList (by simp only[Yu]<;>nofun) ⟨.int ys.length,H,I.tok _,⟨s.toks+1,by rw[Yu,hlen]⟩,q⟩
 .obtain⟨its,r',pl,hz⟩:=I.tuple hq;have hlen:=r'.length;exact len_tuple pl (by simp only[Yu]<;>nofun) ⟨.int ys.length,H,I.tok _,⟨s.toks+1,by rw[Yu,hlen]⟩,q⟩
theorem sQ:ei X (.type "list") (λxs H Q=>∃p ys,xs=[.ref p]/\(jx X.K H p ys\/wK X.K H p ys) /\ ∀l,H l=none->Q (.ref l) (upd H l (.lst ys))):=by
 intro pins s σ H xs us Q I r h;obtain⟨p,ys,rfl,hq,q⟩:=h;obtain⟨u,rfl,rx⟩:=vy r;cases rx;have fin:∀(its:List Value),bJ ys its->ys.length<=sizeLine -> ∀(h':Heap)(c':Nat),(∀b o',s.heap.get? b=some o'->h'.get? b=some o') ->
   h'.get? s.heap.objs.size=some { cls:=.type "list",dict:=none,data:=.seq its.toArray c',slots:=#[] }->EP X pins σ Q (.ref s.heap.objs.size) { s with heap:=h' }:=λits r' hz h' c' kp e =>
  ⟨.ref s.heap.objs.size,_,I.laid (t':=s.toks) kp (Yr _) (show dO X.prog X.w _ h' _ (.lst ys) from ⟨hz,its,c',r',e⟩),rfl,q _ (I.hok.fresh (Yr _))⟩
 rcases hq with hq|hq
 .obtain⟨its,r',pl,hz⟩:=I.list hq;have hlen:=r'.length;obtain⟨o,ho,hc,n,hd⟩:=pl.isList;exact call_list_seq p (.inl rfl) ho hc hd (λh' c' kp e=>fin its r' hz h' c' kp e) (by simp only[Yu]<;>nofun)
 .obtain⟨its,r',pl,hz⟩:=I.tuple hq;have hlen:=r'.length;obtain⟨o,ho,hc,n,hd⟩:=pl;exact call_list_seq p (.inr rfl) ho hc hd (λh' c' kp e=>fin its r' hz h' c' kp e) (by simp only[Yu]<;>nofun)
def JV(K:Sf)(T:String)(x:V)(H:Hp):Prop:=match x with
 | .str _=>T="str"
 | .int _=>T="int"
 | .ref p=>(T="list" /\ ∃xs,jx K H p xs)\/(T="tuple" /\ ∃o,K.lookup p=some o/\o.cls=.type "tuple" /\ o.dict=none) \/
   (T="dict" /\ ((∃kvs,H p=some (.dK kvs)) \/ ∃kvs,H p=some (.dT kvs)))\/(T="set" /\ ∃S n,H p=some (.set S n))
 | _=>False
theorem CC{pins:List (Addr×Obj)}{σ:St}{H:Hp}{T:String}{v:Value}(I:aR X pins σ H s)(r:cw x v)(ty:JV X.K T x H):
  s.TypeIs v T /\ ∀a,v=.ref a -> ∃ob,s.heap.get? a=some ob/\ob.dict=none:=by
 cases x with
 | str z =>
  obtain⟨t,rfl⟩:=r;cases (show T="str" from ty)
  exact⟨typeIs_str s z t,λ_ e=>nomatch e⟩
 | int i =>
  obtain⟨t,rfl⟩:=r;cases (show T="int" from ty)
  exact⟨typeIs_int s i t,λ_ e=>nomatch e⟩
 | ref p =>
  cases r;rcases ty with ⟨rfl,xs,hq⟩|⟨rfl,o,hk,hc,hd⟩|⟨rfl,hk⟩|⟨rfl,S,n,hk⟩
  .obtain⟨its,_,pl,_⟩:=I.list hq;refine⟨pl.isList.typeIs,λa e=>?_⟩;cases e;obtain⟨o,n,e,c,hd,_⟩:=pl;exact⟨o,e,hd⟩
  .refine⟨⟨o,I.kIn p o hk,hc⟩,λa e=>?_⟩;cases e;exact⟨o,I.kIn _ o hk,hd⟩
  .have z:∃o,s.heap.get? p=some o/\o.ExactDict:=by
    rcases hk with ⟨kvs,hk⟩|⟨kvs,hk⟩
    .obtain⟨_,_,_,_,o,_,_,e,ex,_⟩:=I.hok p _ hk;exact⟨o,e,ex⟩
    .obtain⟨_,_,_,_,o,_,_,e,ex,_⟩:=I.hok p _ hk;exact⟨o,e,ex⟩
   obtain⟨o,e,ex⟩:=z;refine⟨⟨o,e,ex.1⟩,λa e2=>?_⟩;cases e2;exact⟨o,e,ex.2.1⟩
  .obtain⟨o,_,_,_,e,ex,_⟩:=I.hok p _ hk;refine⟨⟨o,e,ex.1⟩,λa e2=>?_⟩;cases e2;exact⟨o,e,ex.2.1⟩
 | _=>exact False.elim ty
def IG(K:Sf)(T:String)(r:V->List V->Hp->VK->Prop)(to:TE):TE:=λσ H Q=>to σ H λx H1=>JV K T x H1/\r x [] H1 Q
def LJ(K:Sf)(T:String)(r:V->List V->Hp->VK->Prop)(to:TE)(t:TA):TE:=λσ H Q=>to σ H λx H1=>JV K T x H1/\t σ H1 λxs H2=>r x xs H2 Q
variable {o e:Expr}{es:List Expr}{to:TE}{t:TA}{name:Str}{apos cpos:Pos}{T id:String}{r:V->List V->Hp->VK->Prop}
theorem I0(pa:PlainAttrs T)(slot:Slot T name id)(hty:typeOf (.builtin id)=pure (.type "method_descriptor"))(hm:Lj X id r)(ho:PE X o to)
  (hbase:attributeBase o name X.env (eval o X.env)=eval o X.env:=by rfl)(hline:(apos.endLine==cpos.line)=true:=by rfl):PE X (.Call (.Attribute o name apos) [] [] cpos) (IG X.K T r to):=by
 intro pins s σ H Q I h;refine wpAny_Call_method0_late hbase hline (dc (ho pins s σ H _ I h) λv s1 ⟨x,H1,I1,r1,ty,q1⟩=>?_);obtain⟨h1,h2⟩:=CC I1 r1 ty;exact⟨T,id,pa,slot,hty,h1,h2,Calls.callWith_builtin rfl (PySem.evalArgs_none (hm pins s1 σ H1 x [] v [] Q I1 r1 .nil q1))⟩
theorem KB(pa:PlainAttrs T)(slot:Slot T name id)(hty:typeOf (.builtin id)=pure (.type "method_descriptor"))(hm:Lj X id r)(ho:PE X o to)(ha:PA X (e::es) t)
  (hbase:attributeBase o name X.env (eval o X.env)=eval o X.env:=by rfl)
  (hfew:((backTo cpos (starEach (e::es) X.env)).all (λx=>!x.1) && (backToKw cpos (keywordEach [] X.env)).all (λx=>x.1.isSome)
   && decide ((e::es).length+([]:List Keyword).length+(if ([]:List Keyword).isEmpty then 0 else 1)<30))=true:=by rfl)
  (hline:(apos.endLine==cpos.line)=true:=by rfl)(hs:starEach (e::es) X.env=(false,eval e X.env)::starEach es X.env:=by rfl)(hplain:(backTo cpos (starEach es X.env)).any (·.1)=false:=by rfl) :
  PE X (.Call (.Attribute o name apos) (e::es) [] cpos) (LJ X.K T r to t):=by
 intro pins s σ H Q I h;refine wpAny_Call_method_late hbase hfew hline rfl (dc (ho pins s σ H _ I h) λv s1 ⟨x,H1,I1,r1,ty,q1⟩=>?_);obtain⟨h1,h2⟩:=CC I1 r1 ty;refine⟨T,id,pa,slot,hty,h1,h2,?_⟩;have hA:=ha cpos pins s1 σ H1 _ I1 q1;rw[hs] at hA ⊢;refine Calls.callWith_builtin (by show (false || (backTo cpos (starEach es X.env)).any (·.1))=false;rw[hplain]<;>rfl) (Calls.evalArgs_plain ?_)
 exact dc hA λus s2 ⟨vs,H2,I2,r2,q2⟩=>hm pins s2 σ H2 x vs v us Q I2 r1 r2 q2
end
def JX(X:Cx)(id:String)(r:V->List V->Hp->VK->Prop):Prop :=
 ∀pins s(σ:St)H(x:V)(xs:List V)(v:Value)(us:List Value)(Q:VK),aR X pins σ H s->cw x v->bJ xs us->r x xs H Q ->
  wpAny (model X.prog X.w) X.A (call (.builtin id) (v::us)) (EP X pins σ Q) X.xe s
theorem bJ.one:∀{x:V}{us:List Value},bJ [x] us -> ∃u,us=[u]/\cw x u
 | _,_,.cons r .nil=>⟨_,rfl,r⟩
theorem bJ.zero:∀{us:List Value},bJ [] us->us=[]
 | _,.nil=>rfl
theorem bJ.dropLast{xs:List V}{us:List Value}(h:bJ xs us):bJ xs.dropLast us.dropLast:=by
 induction h with
 | nil=>exact .nil
 | cons r t ih =>
  cases t with
  | nil=>exact .nil
  | cons q t'=>exact .cons r ih
theorem bJ.reverse{xs:List V}{us:List Value}(h:bJ xs us):bJ xs.reverse us.reverse:=by
 induction h with
 | nil=>exact .nil
 | cons r t ih=>rw[List.reverse_cons,List.reverse_cons];exact bJ.append ih (.cons r .nil)
theorem bJ.rep{xs:List V}{us:List Value}(h:bJ xs us):∀k:Nat,bJ (List.replicate k xs).flatten (List.replicate k us).flatten
 | 0=>.nil
 | k+1=>by
  rw[YK,YK,List.flatten_cons,List.flatten_cons];exact bJ.append h (bJ.rep h k)
theorem xh(l:List α):l.eraseIdx (l.length-1)=l.dropLast:=by
 induction l with
 | nil=>rfl
 | cons a r ih =>
  cases r with
  | nil=>rfl
  | cons b r =>
   have e:(a::b::r).length-1=((b::r).length-1)+1:=by
    have h1:(a::b::r).length=r.length+2:=rfl;have h2:(b::r).length=r.length+1:=rfl;nofun
   rw[e,List.eraseIdx_cons_succ,ih]
   all_goals rfl
theorem rY(its:List Value):∀(k:Nat)(acc:List Value),
  List.foldl (λx1 x2=>x1++x2) acc.toArray (List.replicate k its.toArray)=(acc++(List.replicate k its).flatten).toArray
 | 0,acc=>by simp
 | k+1,acc=>by
  have e:acc.toArray++its.toArray=(acc++its).toArray:=by simp
  have e2:(acc++its)++(List.replicate k its).flatten=acc++(List.replicate (k+1) its).flatten:=by
   rw[YK,List.flatten_cons,YL]
  rw[<-e2,<-rY its k (acc++its),<-e,YK,List.foldl_cons]
section
variable {X:Cx}{pins:List (Addr×Obj)}{σ:St}{H:Hp}{s:Shared}{l b:Addr}{xs ys zs:List V}
theorem aR.lset{its its':List Value}{f:Array Value->Array Value}{t':Nat}(I:aR X pins σ H s)(hH:H l=some (.lst xs))
  (e:s.heap.get? l=some { cls:=.type "list",data:=.seq its.toArray n }) (hf:f its.toArray=its'.toArray)(hv:bJ ys its')(hz:ys.length<=sizeLine) :
  aR X pins σ (upd H l (.lst ys)) { s with heap:=s.heap.update l (Obj.mapSeq f),toks:=t' }:=by
 have q:=PySem.IsL.update e f;rw[hf] at q;refine I.write (x:=l) (e:=l) (by rw[hH];exact trivial) (.inl rfl) (λb' u hb hu=>(Heap.get?_update_other s.heap (Obj.mapSeq f) (Yl hb)).trans hu) ⟨_,q⟩ ?_
 exact⟨hz,its',_,hv,q⟩
theorem aR.lnew{its:List Value}{t':Nat}(I:aR X pins σ H s)(hv:bJ ys its)(hz:ys.length<=sizeLine):
  aR X pins σ (upd H s.heap.objs.size (.lst ys)) { s with heap:=s.heap.push { cls:=.type "list",data:=.seq its.toArray },toks:=t' } :=
 I.laid (λ_ _ q=>Heap.get?_push_of_some _ q) (Yr _) ⟨hz,its,0,hv,Heap.get?_push_size _ rfl⟩
theorem aR.fresh(I:aR X pins σ H s):H s.heap.objs.size=none:=I.hok.fresh (Yr _)
theorem aR.lstM(I:aR X pins σ H s)(hH:H l=some (.lst xs)):xs.length<=sizeLine /\ ∃(its:List Value)(n:Nat),bJ xs its/\xs.length=its.length/\s.heap.get? l=some { cls:=.type "list",data:=.seq its.toArray n }:=by
 obtain⟨z,its,n,r,e⟩:=I.hok l _ hH;exact⟨z,its,n,r,r.length,e⟩
theorem Dx(h:n<=sizeLine):Builtin.List.listTooLong n=false:=by
 unfold Builtin.List.listTooLong;exact Ya ()
end
section
variable {X:Cx}
def EB:V->List V->Hp->VK->Prop:=λx vs H Q=>∃l xs y,x=.ref l/\vs=[y]/\H l=some (.lst xs)/\xs.length<sizeLine/\Q .non (upd H l (.lst (xs++[y])))
theorem rO:JX X "list.append" EB:=by
 intro pins s σ H x vs v us Q I rx rv h;obtain⟨l,xs,y,rfl,rfl,hH,hz,q⟩:=h;cases rx;obtain⟨u,rfl,ru⟩:=rv.one;obtain⟨z,its,n,r,hl,e⟩:=I.lstM hH;refine call_meets F.slot_list_append ⟨_,e,rfl⟩ F.entry_list_append (F.args_list_append_2 _ _) (PySem.list_append l its.toArray n u (by rw[Yu];nofun)) ⟨e,?_⟩
 refine⟨.non,_,I.lset (its':=its++[u]) hH e (by simp) (r.append (.cons ru .nil)) ?_,rfl,q⟩
 rw[YE,YM];nofun
def Me:V->List V->Hp->VK->Prop:=λx vs H Q=>∃l xs y,x=.ref l/\vs=[]/\H l=some (.lst xs)/\xs[xs.length-1]? = some y/\Q y (upd H l (.lst xs.dropLast))
theorem Jw:JX X "list.pop" Me:=by
 intro pins s σ H x vs v us Q I rx rv h;obtain⟨l,xs,y,rfl,rfl,hH,hy,q⟩:=h;cases rx;have hus:=rv.zero;subst hus;obtain⟨z,its,n,r,hl,e⟩:=I.lstM hH;obtain⟨u,hu,ru⟩:=r.get hy;have hy':its.toArray[its.toArray.size-1]? = some u:=by
  show its.toArray[its.length-1]? = some u;rw[<-Array.getElem?_toList,<-hl];exact hu
 refine call_meets F.slot_list_pop ⟨_,e,rfl⟩ F.entry_list_pop (F.args_list_pop_1 _) (MeetsSeq.list_pop_last l its.toArray n u hy' (by rw[Yu];nofun)) ⟨e,?_⟩
 refine⟨y,_,I.lset (its':=its.dropLast) hH e ?_ r.dropLast ?_,ru,q⟩
 .show its.toArray.eraseIdxIfInBounds (its.toArray.size-1)=its.dropLast.toArray;rw[Yu,List.eraseIdxIfInBounds_toArray,xh]
 .rw[YN];nofun
def Ju:V->List V->Hp->VK->Prop:=λx vs H Q=>∃l xs,x=.ref l/\vs=[]/\H l=some (.lst xs)/\Q .non (upd H l (.lst []))
theorem BQ:JX X "list.clear" Ju:=by
 intro pins s σ H x vs v us Q I rx rv h;obtain⟨l,xs,rfl,rfl,hH,q⟩:=h;cases rx;have hus:=rv.zero;subst hus;obtain⟨z,its,n,r,hl,e⟩:=I.lstM hH;refine call_meets F.slot_list_clear ⟨_,e,rfl⟩ F.entry_list_clear (F.args_list_clear_1 _) (AutoSeq1.list_clear_list_0 l its.toArray n (by rw[Yu];nofun)) ⟨e,?_⟩
 exact⟨.non,_,I.lset (its':=[]) (ys:=[]) hH e rfl .nil (YO _),rfl,q⟩
def Ml:R2:=λx y H Q=>∃l b xs zs,x=.ref l/\y=.ref b/\H l=some (.lst xs)/\H b=some (.lst zs)/\xs.length+zs.length<=sizeLine /\ ∀p,H p=none->Q (.ref p) (upd H p (.lst (xs++zs)))
theorem IT:eX X (binaryOp .Add) Ml:=by
 intro pins s σ H x y v u Q I rx ry h;obtain⟨l,b,xs,zs,rfl,rfl,hH,hB,hz,q⟩:=h;cases rx;cases ry;obtain⟨z,its,n,r,hl,e⟩:=I.lstM hH;obtain⟨z2,its2,n2,r2,hl2,e2⟩:=I.lstM hB;refine PySem.P.add_list e e2 ?_ (by rw[Yu,Yu];nofun)
 have ea:its.toArray++its2.toArray=(its++its2).toArray:=by simp
 rw[ea];exact⟨.ref _,_,I.lnew (t':=s.toks) (r.append r2) (by rw[YE];nofun),rfl,q _ I.fresh⟩
def LZ:R2:=λx y H Q=>∃l k xs,x=.ref l/\y=.int k/\H l=some (.lst xs) /\ -(2^63)<=k/\k<2^63/\xs.length*k.toNat<=sizeLine /\
 ∀p,H p=none->Q (.ref p) (upd H p (.lst (List.replicate k.toNat xs).flatten))
theorem Ex(xs:List α)(k:Nat):(List.replicate k xs).flatten.length=k*xs.length:=by
 induction k with
 | zero=>simp
 | succ k ih=>rw[YK,List.flatten_cons,YE,ih,Nat.succ_mul,Nat.add_comm]
theorem IC:eX X (binaryOp .Mult) LZ:=by
 intro pins s σ H x y v u Q I rx ry h;obtain⟨l,k,xs,rfl,rfl,hH,h1,h2,hz,q⟩:=h;cases rx;obtain⟨t,rfl⟩:=ry;obtain⟨z,its,n,r,hl,e⟩:=I.lstM hH;have hlen:its.toArray.size*k.toNat<=sizeLine:=by rw[Yu,<-hl];exact hz
 have hcap:¬ its.toArray.size*k.toNat > (2^63-1)/8:=by
  have:(sizeLine:Nat)<=(2^63-1)/8:=∅;nofun
 have hfit:¬ (!Builtin.List.listFitsIndex k)=true:=by
  rw[fitsIndex_both h1 h2];exact Yq
 have hlong:¬ Builtin.List.listTooLong (its.toArray.size*k.toNat)=true:=by
  rw[Dx hlen];exact Yq
 have hnew:List.foldl (λx1 x2=>x1++x2) #[] (List.replicate (if its.toArray.isEmpty=true then 0 else k.toNat) its.toArray)=(List.replicate k.toNat its).flatten.toArray:=by
  have f0:∀m:Nat,List.foldl (λx1 x2=>x1++x2) #[] (List.replicate m its.toArray)=(List.replicate m its).flatten.toArray:=λm=>by
   have:=rY its m [];rw[List.nil_append] at this;exact this
  rw[f0];cases its with
  | nil=>simp
  | cons a r'=>rw[Yc (by simp)]
 refine wpAny_binaryOp_repeat_ref (T:="list") (U:="int") ∅ ⟨_,e,rfl⟩ (λs'=>typeIs_int s' k t) noFill_list_mul F.fills_int_mul F.slot_int_rmul repeat_list F.slot_int_index.lookup
  (call_meets F.slot_int_rmul (typeIs_int s k t) F.entry_int_rmul (F.args_int_rmul_2 _ _) (int___rmul___int_list k t l its.toArray n)
   ⟨e,rfl,⟨_,e,rfl⟩,call_meets F.slot_list_mul ⟨_,e,rfl⟩ F.entry_list_mul (F.args_list_mul_2 _ _) (AutoListH.list___mul___list_int_3 l its.toArray n k t hfit hcap hlong) ⟨e,?_⟩⟩)
 rw[hnew];exact⟨.ref _,_,I.lnew (t':=s.toks) (r.rep k.toNat) (by rw[Ex,YQ];exact hz),rfl,q _ I.fresh⟩
end
end L2
namespace Att
open PySem PySem.W PySem.Calls PyProof.Rows
theorem oM{P:Params}{h:Heap}:∀(ns:List Int)(vs:List Value),WellAll P h vs (ns.map WData.int)->IntsAre vs ns:=by
 intro ns;induction ns with
 | nil =>
  intro vs w;rw[List.map_nil] at w;cases w;exact .nil
 | cons n ns ih =>
  intro vs w;rw[YR] at w;cases w with
  | cons a b =>
   cases a;exact .cons _ _ (ih _ b)
theorem Ak{l:OpenLaw}{n:Nat}(hn:l.most=some n){P:Params}{h:Heap}{args:List WData}{vals:List Value}
  (hpre:l.row.toRowW.claim.pre args=true)(hwl:WellAll P h vals args) :
  ∃a vs ns,vals=[Value.ref a]/\args=[WData.list (ns.map WData.int)]/\h.get? a=some { cls:=.type "list",data:=.seq vs.toArray } /\ IntsAre vs ns/\ns.length<=n:=by
 have hsh:WShape.hasAll [] args [.list .int]=true:=(pre_splitW hpre).1;have hc:l.pre.holds [] { args:=args }=true:=(pre_splitW hpre).2;obtain⟨d,r,rfl,h1,h2⟩:=hasAllW_cons hsh;obtain rfl:=hasAllW_nil h2;obtain⟨xs,rfl,h3⟩:=hasW_list h1;obtain⟨ns,rfl⟩:=items_int h3;have hlen:ns.length<=n:=by
  unfold OpenLaw.pre at hc;have h4:(WTm.not (.lt (.lit (.int (n:Int))) (.len (.arg 0)))).holds [] { args:=[.list (ns.map .int)] }=true:=by
   have h4:=(holds_andW hc).1;rw[hn] at h4;exact h4
  have h5:=condW_of h4 (w_not (w_lt w_lit (w_len_list (w_arg rfl))));rw[YF] at h5;refine Nat.le_of_not_lt λq=>?_;have q':(n:Int)<((ns.length:Nat):Int):=()
  first
   | (rw[YS q'] at h5;exact absurd h5 ∅)
   | (simp at h5;nofun)
 cases hwl with
 | cons w1 w2 =>
  cases w2;cases w1 with
  | list ho hall=>exact⟨_,_,ns,rfl,rfl,ho,oM ns _ hall,hlen⟩
theorem An(l:OpenLaw)(args:List WData):l.row.toRowW.claim.post args (.bool true) args=true :=
 postW_of (r:=l.row.toRowW) (X:=(true==true))
  (show WShape.has [] (.bool true) .bool=true by first|rfl|decide|simp[WShape.has,WShape.arms,WShape.armsAll])
  (show (WTm.eq .res (.lit (.bool true))).value [] { args:=args,res:=some (.bool true),after:=args }=some (.bool (true==true)) from w_eq_bool (w_res rfl) w_lit) rfl
theorem attach_call{l:OpenLaw}{n:Nat}{q:Program}{loose:List Str}{XP:(Str->Option Value)->Heap->Prop}{YP:World->Heap->Prop}{d:DefRec}
  (hn:l.most=some n)(hdf:d.params.defaults=[])
  (call:∀(w:World)(s₀ s₁:Shared)(mg mb:Str->Option Value)(fa:Addr)(o:Obj)(pm cd doc:Value)(a:Addr)(vs:List Value)(ns:List Int),
   Ground q loose [] XP w s₀ mg mb s₁.heap->YP w s₁.heap ->
   s₁.heap.get? fa=some o->o.data=.func (docDef d.name d.params d.body d.scope pm cd doc)->s₁.heap.CodeRec cd d.name->mg d.name=some (.ref fa) ->
   s₁.heap.get? a=some { cls:=.type "list",data:=.seq vs.toArray }->IntsAre vs ns->ns.length<=n->s₁.gens = #[] ->
   codeAny (model l.prog w) callerA (.call (.ref fa) ⟨[.ref a],[]⟩) (λr s'=>r=.ok (.ret (.bool true))/\OldK s₁.heap s'.heap/\s'.os=s₁.os/\AllBare s'.gens) s₁) :
  WalkO q loose XP YP l.row.toRowW d [] (λf vs=>PySem.call f vs):=by
 intro w s₀ s₁ mg mb G Y fa o pm cd doc dV kV ho hd hcd hD hmg hg args vals as hpre hlay hrd hwl hlo;obtain rfl:dV=.none:=Dflts.none hD hdf;obtain rfl:kV=.none:=Dflts.noKw hD;obtain⟨a,vs,ns,rfl,rfl,hobj,hints,hlen⟩:=Ak hn hpre hwl;refine enter_call (codeAny_mono (call w s₀ s₁ mg mb fa o pm cd doc a vs ns G Y ho (fd_plain hd) hcd hmg hobj hints hlen hg) λr s' hq=>?_);obtain⟨rfl,h2,h3,h4⟩:=hq;exact⟨.inl ⟨.bool true,.bool true,[],rfl,λ_=>rfl,.bool true,An l _,λ_=>⟨List.Pairwise.nil,λ_ hm=>(nomatch hm)⟩⟩,h2,h3,h4⟩
end Att
namespace L2
open PySem PySem.Spec PyProof.Rows
variable {X:Cx}{x i j b y:Int}{qual:Str}{st f a l p:Addr}{c A B:Prop}{H H1 H2 H':Hp}{K:Sf}{s:Shared}{xs:List V}{o:HO}{n m:Nat}{α:Type}{Q:VK}{ds:List D}{v:V}{d:D}
theorem rV:∀{vs:List Value}{ns:List Int},IntsAre vs ns->bJ (ns.map V.int) vs
 | _,_,.nil=>.nil
 | _,_,.cons n t h=>.cons ⟨t,rfl⟩ (rV h)
def fb(s:Stmt):Arguments:=match s with
 | .FunctionDef _ a _ _ _ _ _ _ _ _=>a
 | _=>{ posonlyargs:=[],args:=[],vararg:=none,kwonlyargs:=[],kw_defaults:=[],kwarg:=none,defaults:=[] }
def dj(s:Stmt):List Stmt:=match s with
 | .FunctionDef _ _ b _ _ _ _ _ _ _=>b
 | _=>[]
def ak(s:Stmt):Scope:=match s with
 | .FunctionDef _ _ _ _ _ _ sc _ _ _=>sc
 | _=>{ kind:=.function,names:=[],isGenerator:=false,isCoroutine:=false }
abbrev dy:wT:=λ_ _ _ _ _ _=>False
abbrev E0:XK:=λ_ _ _=>False
theorem KH:xk dy X E0:=λ_ _ _ _ _ _ _ h=>h.elim
structure de (K:Sf)(x qual:Str)(st:Stmt)(f:Addr)(fd:FuncData):Prop where
 ex:∃(oc:Value)(od:Option Addr)(kV doc pm:Value)(an:Option Addr)(cdv ct:Value)(osl:Array (Option Value)),
  fd=PySem.W.fnOf x qual (fb st) (dj st) (ak st) .none kV doc pm an cdv ct/\K.lookup f=some ⟨oc,od,.func fd,osl⟩/\PySem.W.codeIn K cdv qual=true
 kp:PySem.W.keepIn K (.ref f)=true
section
variable {P:Program}{w:World}{K:Sf}{mg:Str->Option Value}{base:Heap}
theorem de.ok{x:Str}{st:Stmt}{fd:FuncData}{N ps:List Str}{k:Nat}{sp:Sp}(F:de K x qual st f fd)(S:ay N ps (ak st))(len:∀vs H Q E,sp vs H Q E->vs.length=ps.length)
  (hbody:∀(cdv:Value)(A:Around)(outer:List Env)(s:Shared)(H:Hp)(vs:List V)(Q:VK)(E:XK),dE k (A.deeper (envOfC qual (ak st) s.heap.objs.size f cdv))->sp vs H Q E ->
   ∃t,uW (gd dy P w K mg base N qual (ak st) f cdv A outer s H E).nox (dj st) t/\t { nx:=λ_ H'=>Q .non H',rt:=Q } (start N vs) H):aZ P w K mg base dy (k+1) f fd ps sp:=by
 obtain⟨oc,od,kV,doc,pm,an,cdv,ct,osl,rfl,lk,hcd⟩:=F.ex;refine BF lk hcd S len λA outer s H vs Q E hr hsp=>?_;obtain⟨t,h,q⟩:=hbody cdv A outer s H vs Q E hr hsp;exact⟨t,h.nox,q⟩
theorem de.binds{x:Str}{st:Stmt}{fd:FuncData}{ps:List Str}(F:de K x qual st f fd)
  (h:∀(kV doc pm:Value)(an:Option Addr)(cdv ct:Value)(us:List Value),us.length=ps.length->bindArgs (PySem.W.fnOf x qual (fb st) (dj st) (ak st) .none kV doc pm an cdv ct) ⟨us,[]⟩=pure (ps.zip us)):kW K fd ps []:=by
 obtain⟨oc,od,kV,doc,pm,an,cdv,ct,osl,rfl,lk,hcd⟩:=F.ex;exact .all (h kV doc pm an cdv ct)
theorem uP{x:Str}{st:Stmt}{oc:Value}{od an:Option Addr}{osl:Array (Option Value)}{kV doc pm cdv ct:Value}(l:K.lookup f=some ⟨oc,od,.func (PySem.W.fnOf x qual (fb st) (dj st) (ak st) .none kV doc pm an cdv ct),osl⟩)
  (c:PySem.W.codeIn K cdv qual=true)(k:PySem.W.keepIn K (.ref f)=true):de K x qual st f (PySem.W.fnOf x qual (fb st) (dj st) (ak st) .none kV doc pm an cdv ct):=⟨⟨oc,od,kV,doc,pm,an,cdv,ct,osl,rfl,l,c⟩,k⟩
end
section
variable {X:Cx}
theorem pv(i:Nat){x:Str}{pos:Pos}(hN:X.N[i]? = some x:=by rfl)(hv:Ht X.env.scope x:=by first|exact Or.inl rfl|exact Or.inr (Or.inl rfl)|exact Or.inr (Or.inr rfl))(hd:(x==("__debug__":Str))=false:=by decide)
  (hcd:(x==("__classdict__":Str))=false:=by decide):PE X (.Name x pos) (FC i):=Dc hN hv hd hcd
end
theorem cK  [Decidable c] (h1:c->A)(h2:¬ c->B):if c then A else B:=by
 by_cases h:c
 .rw[Yb h];exact h1 h
 .rw[Yc h];exact h2 h
def aB(H H':Hp):Prop:=∀b o,H b=some o->H' b=some o
theorem aB.trans(a:aB H H1)(b:aB H1 H2):aB H H2:=λc o h=>b c o (a c o h)
theorem aB.free(e:aB H H'){l:Addr}(h:H' l=Option.none):H l=Option.none:=by
 cases q:H l with
 | none=>rfl
 | some o =>
  rw[e l o q] at h;cases h
structure bV (P:Program)(w:World)(K:Sf)(mg:Str->Option Value)(base:Heap)(x:Str)(ps:List Str)(k:Nat)(sp:Sp):Prop where
 ex:∃f fd,aZ P w K mg base dy k f fd ps sp/\mg x=some (.ref f)/\PySem.W.keepIn K (.ref f)=true/\kW K fd ps []
section
variable {X:Cx}{x:Str}{p pos:Pos}{e:Expr}{es:List Expr}{t:TA}{ps:List Str}{k:Nat}{sp:Sp}
def FJ(sp:Sp)(t:TA):TE:=λσ H Q=>t σ H λvs H1=>sp vs H1 Q E0
theorem Jm(C:bV X.prog X.w X.K X.mg X.base x ps k sp)(hr:dE k X.A)(hg:Gl X x)(ha:PA X (e::es) t)(hdb:(x==("__debug__":Str))=false:=by decide)
  (he:starEach (e::es) X.env=(false,eval e X.env)::starEach es X.env:=by rfl)(hpl:(backTo pos (starEach es X.env)).any (·.1)=false:=by rfl) :
  PE X (.Call (.Name x p) (e::es) [] pos) (FJ sp t):=by
 obtain⟨f,fd,F,hm,hk,hb⟩:=C.ex;intro pins s σ H Q I h;refine ET (E:=E0) (dvs:=[]) F hr hg hm hk hb .nil KH ha hdb he hpl pins s σ H Q I ?_;show t σ H λvs H1=>sp (vs++[]) H1 Q E0;have e:(λ(vs:List V) H1=>sp (vs++[]) H1 Q E0)=λvs H1=>sp vs H1 Q E0:=by
  funext vs H1;rw[Yw]
 rw[e];exact h
end
section
variable {X:Cx}
theorem Fz:eX X (binaryOp .Mult) (rI IntMulOk λi j=>.int (i*j)):=Lf λ_ _ _ _ _ _ _ hc q=>mul_int q hc
def G7(_ j:Int):Prop:=j≠0/\j.natAbs.log2<9000
theorem qq:eX X (binaryOp .FloorDiv) (rI G7 λi j=>.int (i.fdiv j)):=Lf λ_ _ _ _ _ _ _ hc q=>floordiv_int hc.1 q (.inl (PyProof.noPylong_of_log2 hc.2))
theorem f9:eX X (binaryOp .Mod) (rI (λ_ j=>j≠0) λi j=>.int (i.fmod j)):=FP
end
theorem BR{CX:wT}{P:Program}{w:World}{mg:Str->Option Value}{base:Heap}{N:List Str}{scope:Scope}{cd:Value}{A:Around}{outer:List Env}{E:XK}:
  (gd CX P w K mg base N qual scope f cd A outer s H E).K=K:=rfl
def AA:List Value->Option (List V)
 | []=>some []
 | u::us=>match Kk u,AA us with
  | some x,some xs=>some (x::xs)
  | _,_=>none
theorem se:∀{us:List Value}{xs:List V},AA us=some xs->bJ xs us
 | [],xs,h=>by cases h;exact .nil
 | u::us,xs,h=>by
  unfold AA at h;split at h
  .rename_i x ys e1 e2
   cases h;refine .cons ?_ (se e2);cases u<;>first|(cases e1;first|exact rfl|exact⟨_,rfl⟩)|cases e1
  .cases h
def yb(o:Obj):Option HO:=match o.data with
 | .seq its _=>if o.cls=.type "tuple" /\ its.size<=sizeLine then (AA its.toList).map HO.tup else none
 | _=>none
def vw(K:Sf)(H:Hp):Hp:=λa=>match K.lookup a with
 | some o=>yb o
 | none=>H a
theorem DW{o:Obj}{u:HO}(h:yb o=some u):∃xs,u=.tup xs:=by
 unfold yb at h;split at h
 .split at h
  .cases e:AA _ with
   | none=>rw[e] at h;cases h
   | some xs=>rw[e] at h;cases h;exact⟨xs,rfl⟩
  .cases h
 .cases h
theorem dU(hk:K.lookup a=none):vw K H a=H a:=by
 unfold vw;rw[hk]
theorem hU(h:vw K H a=some (.tup xs)):wK K H a xs:=by
 unfold vw at h;split at h
 .rename_i o ho
  unfold yb at h;split at h
  .rename_i its n hd
   split at h
   .rename_i hc
    cases e:AA its.toList with
    | none=>rw[e] at h;cases h
    | some ys =>
     rw[e] at h;cases h;exact .inr ⟨o,its,n,ho,hc.1,hd,hc.2,se e⟩
   .cases h
  .cases h
 .exact .of h
theorem i4{u:HO}(h:vw K H a=some u)(hu:∀xs,u ≠ .tup xs):H a=some u:=by
 unfold vw at h;split at h
 .obtain⟨xs,rfl⟩:=DW h;exact absurd rfl (hu xs)
 .exact h
theorem aN(h:vw K H a=some (.lst xs)):H a=some (.lst xs):=i4 h λ_ e=>by cases e
theorem lT(S:aB H H'):aB (vw K H) (vw K H'):=λb o e=>by
 unfold vw at e ⊢;split at e
 .exact e
 .exact S _ _ e
def eJ(l:Addr)(H H':Hp):Prop:=∀b o,b≠l->H b=some o->H' b=some o
theorem xy(S:eJ l H H'):eJ l (vw K H) (vw K H'):=λb o hb e=>by
 unfold vw at e ⊢;split at e
 .exact e
 .exact S _ _ hb e
theorem aR.noK{pins:List (Addr×Obj)}{σ:St}(I:aR X pins σ H s)(h:H p=some o):X.K.lookup p=none:=by
 cases e:X.K.lookup p with
 | none=>rfl
 | some ob =>
  have:=(I.bs p ob (I.mod.kin p ob e)).2;rw[h] at this;cases this
theorem aR.newK{pins:List (Addr×Obj)}{σ:St}(I:aR X pins σ H s)(hp:s.heap.objs.size<=p):X.K.lookup p=none:=by
 cases e:X.K.lookup p with
 | none=>rfl
 | some o=>exact absurd (Yd (Heap.lt_size (I.kIn p o e)) hp) (Ye _)
def Kf(K:Sf)(v:V)(H:Hp):Prop:=∀p o,v=.ref p->H p=some o->K.lookup p=none
section
variable {X:Cx}
theorem eX.kf{f:Value->Value->Sem Value}{r:R2}(h:eX X f r):eX X f (λx y H Q=>r x y H λv H'=>Kf X.K v H'->Q v H'):=λpins s σ H x y v u Q I rx ry q =>
 dc (h pins s σ H x y v u _ I rx ry q) λu' s' ⟨v',H',I',r',q'⟩=>⟨v',H',I',r',q' λp o _ hp=>I'.noK hp⟩
theorem ei.kf{f:Value}{r:List V->Hp->VK->Prop}(h:ei X f r):ei X f (λxs H Q=>r xs H λv H'=>Kf X.K v H'->Q v H'):=λpins s σ H xs us Q I rs q =>
 dc (h pins s σ H xs us _ I rs q) λu' s' ⟨v',H',I',r',q'⟩=>⟨v',H',I',r',q' λp o _ hp=>I'.noK hp⟩
theorem zP.kf{r:V->Option Int->Option Int->Hp->VK->Prop}(h:zP X r):zP X (λx a b H Q=>r x a b H λv H'=>Kf X.K v H'->Q v H'):=by
 intro pins s σ H x v vl vu lo hi sl Q I rx hs pl pu q;obtain⟨T,id,e1,e2,e3⟩:=h pins s σ H x v vl vu lo hi sl _ I rx hs pl pu q;exact⟨T,id,e1,e2,dc e3 λu' s' ⟨v',H',I',r',q'⟩=>⟨v',H',I',r',q' λp o _ hp=>I'.noK hp⟩⟩
end
theorem aB.upd{H:Hp}{p:Addr}{o:HO}(hp:H p=none):aB H (upd H p o):=λb u e=>by
 rw[aV (aj e hp)];exact e
theorem eJ.upd{H:Hp}{l:Addr}{o:HO}:eJ l H (upd H l o):=λb u hb e=>by
 rw[aV hb];exact e
theorem aB.but(h:aB H H')(l:Addr):eJ l H H':=λb o _ e=>h b o e
theorem eJ.trans(a:eJ l H H1)(b:eJ l H1 H2):eJ l H H2:=λc o hc h=>b c o hc (a c o hc h)
noncomputable def El(H:Hp):V->Option String
 | .non=>some "NoneType"
 | .bl _=>some "bool"
 | .int _=>some "int"
 | .str _=>some "str"
 | .ref a=>match H a with
  | some (.lst _)=>some "list"
  | some (.frz _ (.lst _))=>some "list"
  | some (.tup _)=>some "tuple"
  | some (.dK _)=>some "dict"
  | _=>none
 | _=>none
def gA(n c:String):Bool:=n==c || (n == "bool" && c == "int")
def xA(n:String):Prop:=n="NoneType" \/ n="bool" \/ n="int" \/ n="str" \/ n="list" \/ n="tuple" \/ n="dict"
def rW(c:String):Prop:=c="bool" \/ c="int" \/ c="list" \/ c="tuple" \/ c="str" \/ c="dict"
theorem fE{n c:String}(hn:xA n)(hc:rW c):PySem.W.kitOne K (.type n) (.type c)=some (gA n c):=by
 rcases hn with rfl|rfl|rfl|rfl|rfl|rfl|rfl<;>rcases hc with rfl|rfl|rfl|rfl|rfl|rfl<;>rfl
section
variable {X:Cx}
theorem cQ:ei X (.builtin "isinstance") (λxs H Q=>∃x c n,xs=[x,.ty c]/\rW c/\El (vw X.K H) x=some n/\Q (.bl (gA n c)) H):=by
 intro pins s σ H xs us Q I r h;obtain⟨x,c,n,rfl,hc,hn,q⟩:=h;obtain⟨u,w',rfl,rx,ry⟩:=wr r;cases ry;have fin:∀tk,EP X pins σ Q (.bool (gA n c)) { s with toks:=tk }:=λtk=>⟨.bl _,H,I.tok tk,rfl,q⟩
 cases x with
 | non=>cases hn;exact fU I rx .non (fE (.inl rfl) hc) fin
 | bl b=>cases hn;exact fU I rx (.bl b) (fE (.inr (.inl rfl)) hc) fin
 | int b=>cases hn;exact fU I rx (.int b) (fE (.inr (.inr (.inl rfl))) hc) fin
 | str b=>cases hn;exact fU I rx (.str b) (fE (.inr (.inr (.inr (.inl rfl)))) hc) fin
 | flt b=>cases hn
 | byt b=>cases hn
 | ty b=>cases hn
 | ref a =>
  unfold El at hn;dsimp only at hn;split at hn
  .rename_i e;cases hn;exact fU I rx (.lst (aN e)) (fE (.inr (.inr (.inr (.inr (.inl rfl))))) hc) fin
  .rename_i e;cases hn;exact fU I rx (.frz (i4 e λ_ z=>by cases z)) (fE (.inr (.inr (.inr (.inr (.inl rfl))))) hc) fin
  .rename_i ys e
   cases hn;cases (show u=Value.ref a from rx)
   obtain⟨its,rv,p,hz⟩:=I.tuple (hU e);obtain⟨o,h1,h2,_⟩:=p;exact Yv PySem.W.kitx_tuple I.kIn ⟨o,h1,h2⟩ (fE (.inr (.inr (.inr (.inr (.inr (.inl rfl)))))) hc) (λz=>nomatch z) fin
  .rename_i e;cases hn;exact fU I rx (.dK (i4 e λ_ z=>by cases z)) (fE (.inr (.inr (.inr (.inr (.inr (.inr rfl)))))) hc) fin
  .cases hn
end
theorem ES:rW "int":=.inr (.inl rfl)
theorem Dg:rW "bool":=.inl rfl
theorem DX:rW "list":=.inr (.inr (.inl rfl))
theorem AH:rW "tuple":=.inr (.inr (.inr (.inl rfl)))
theorem yi:bootBuiltins "abs"=some (.builtin "abs"):=by decide +kernel
theorem aG:bootBuiltins "len"=some (.builtin "len"):=by decide +kernel
theorem aM:bootBuiltins "isinstance"=some (.builtin "isinstance"):=by decide +kernel
theorem uw:bootBuiltins "max"=some (.builtin "max"):=by decide +kernel
theorem Bu:bootBuiltins "min"=some (.builtin "min"):=by decide +kernel
theorem HU:bootBuiltins "all"=some (.builtin "all"):=by decide +kernel
theorem Cj:bootBuiltins "int"=some (.type "int"):=by decide +kernel
theorem tG:bootBuiltins "bool"=some (.type "bool"):=by decide +kernel
theorem fN:bootBuiltins "list"=some (.type "list"):=by decide +kernel
theorem jN:bootBuiltins "tuple"=some (.type "tuple"):=by decide +kernel
theorem uK:bootBuiltins "enumerate"=some (.type "enumerate"):=by decide +kernel
theorem wp:bootBuiltins "reversed"=some (.type "reversed"):=by decide +kernel
theorem IW:bootBuiltins "zip"=some (.type "zip"):=by decide +kernel
section
variable {X:Cx}
theorem wN.imp{r r':R2}(h:wN X r)(hi:∀x y H Q,r' x y H Q->r x y H Q):wN X r':=λv sl pins s σ H x y vv u Q I rx ry q hs=>h v sl pins s σ H x y vv u Q I rx ry (hi _ _ _ _ q) hs
theorem ei.imp{f:Value}{r r':List V->Hp->VK->Prop}(h:ei X f r)(hi:∀xs H Q,r' xs H Q->r xs H Q):ei X f r':=λpins s σ H xs us Q I rs q=>h pins s σ H xs us Q I rs (hi _ _ _ q)
def vd(K:Sf):R2:=λx y H Q=>∃p i,x=.ref p/\y=.int i /\ ∃xs,vw K H p=some (.lst xs) /\ ∃v,oY xs i=some v/\Q v H
def FR(K:Sf):R2:=λx y H Q=>∃p i,x=.ref p/\y=.int i /\ ∃xs,vw K H p=some (.tup xs) /\ ∃v,oY xs i=some v/\Q v H
theorem cH:wN X (vd X.K):=zu.imp λ_ _ _ _ ⟨p,i,e1,e2,xs,e3,v,e4,q⟩=>⟨p,xs,i,v,e1,e2,.of (aN e3),e4,q⟩
theorem b9:wN X (FR X.K):=HP.imp λ_ _ _ _ ⟨p,i,e1,e2,xs,e3,v,e4,q⟩=>⟨p,xs,i,v,e1,e2,hU e3,e4,q⟩
def el(H:Hp)(p:Addr):Option Nat:=match H p with
 | some (.lst xs)=>some xs.length
 | some (.frz _ (.lst xs))=>some xs.length
 | some (.tup xs)=>some xs.length
 | _=>none
theorem ar:ei X (.builtin "len") (λxs H Q=>∃p,xs=[.ref p] /\ ∃n:Nat,el (vw X.K H) p=some n/\Q (.int n) H):=jt.imp λxs H Q ⟨p,e,n,hn,q⟩=>by
 unfold el at hn;split at hn
 .rename_i ys hp
  cases hn;exact⟨p,ys,e,.inl (.of (aN hp)),q⟩
 .rename_i o ys hp
  cases hn;exact⟨p,ys,e,.inl (.inl (.inr ⟨o,i4 hp λ_ z=>by cases z⟩)),q⟩
 .rename_i ys hp
  cases hn;exact⟨p,ys,e,.inr (hU hp),q⟩
 .cases hn
def jw(K:Sf)(n:Nat)(t:Be):TG:=λv σ H Q=>∃a,v=.ref a /\ ∃xs,vw K H a=some (.tup xs)/\xs.length=n/\t xs σ H Q
theorem Fi{es:List Expr}{k:Nat}{t:Be}{pos:Pos}(hc:X.calm=true)(h:JW X es t)
  (hn:(assignEach es X.env).length=n:=by rfl)(hst:(assignEach es X.env).findIdx? (·.1)=none:=by rfl):PG X (.Tuple es k pos) (jw X.K n t) :=
 λpins s σ H v u Q I r ⟨a,e,xs,hx,hl,q⟩=>Ih hc h hn hst pins s σ H v u Q I r ⟨a,xs,e,hU hx,hl,q⟩
theorem dN{x:α}{xs:List α}:oY (x::xs) 0=some x:=bA (j:=0) rfl
theorem jF{x y:α}{xs:List α}:oY (x::y::xs) 1=some y:=bA (j:=1) rfl
theorem K9{x y z:α}{xs:List α}:oY (x::y::z::xs) 2=some z:=bA (j:=2) rfl
theorem pE{xs:List α}{r:Int}(h0:0<=r)(h1:r<xs.length):∃v,oY xs r=some v/\v∈xs:=by
 have h2:r.toNat<xs.length:=();refine⟨xs[r.toNat],?_,YT h2⟩;have e:=bA (xs:=xs) (j:=r.toNat) (v:=xs[r.toNat]) (YU h2);rw[show ((r.toNat:Nat):Int)=r by nofun] at e
 exact e
theorem aB.but_trans(s:aB H H1)(hn:H st=none)(b:eJ st H1 H2):aB H H2:=λc o e=>b c o (aj e hn) (s c o e)
theorem eJ.same_trans(b:eJ st H H1)(s:aB H1 H2):eJ st H H2:=b.trans (s.but st)
theorem GC:xH 2 0=some 0:=rfl
theorem Fb{b k:Bool}:vG K (.bl b) H k=(k=b):=rfl
theorem C9{k:Bool}:vG K (.int i) H k=(k=(i != 0)):=rfl
theorem yr(h:0<=j/\j<=1000000/\i.natAbs<2^64):Kj i j:=h
end
def Nw(K:Sf)(H:Hp)(o:HO)(Q:VK):Prop:=∀p H2,vw K H p=none->aB (vw K H) (vw K H2)->vw K H2 p=some o->Q (.ref p) H2
theorem Nw.ok(h:Nw K H o Q){p:Addr}(hk:K.lookup p=none)(hp:H p=none):Q (.ref p) (upd H p o) :=
 h p _ (by rw[dU hk];exact hp) (lT (aB.upd hp)) (by rw[dU hk];exact cz)
theorem Nw.al(h:Nw K H o Q):∀p,H p=none->Kf K (.ref p) (upd H p o)->Q (.ref p) (upd H p o):=λp hp hk=>h.ok (hk p _ rfl cz) hp
def vY(K:Sf)(t:TA):TE:=λσ H Q=>t σ H λxs H1=>xs.length<=sizeLine/\Nw K H1 (.tup xs) Q
def CV(K:Sf)(t:TA):TE:=λσ H Q=>t σ H λxs H1=>xs.length<=sizeLine/\Nw K H1 (.lst xs) Q
def K7(K:Sf):TE:=λ_ H Q=>Nw K H (.dK []) Q
section
variable {X:Cx}{es:List Expr}{t:TA}{pos:Pos}
theorem GE  {x1}(h:PA X es t):PE X (.Tuple es x1 pos) (vY X.K t):=by
 intro pins s σ H Q I hq;refine wpAny_Tuple_spliced (dc (h pos pins s σ H _ I hq) λus s1 ⟨xs,H1,I1,r,z,q⟩=>⟨by rw[<-r.length];exact z,?_⟩)
 have hf:H1 s1.heap.objs.size=none:=I1.hok.fresh (Yr _);refine⟨.ref s1.heap.objs.size,upd H1 s1.heap.objs.size (.tup xs),I1.laid (t':=s1.toks) (λb u e=>Heap.get?_push_of_some _ e) (Yr _) ?_,rfl,q.ok (I1.newK (Yr _)) hf⟩;exact⟨z,us,r,⟨_,Heap.get?_push_size _ rfl,rfl,_,rfl⟩⟩
theorem GG(h:PA X es t):PE X (.List es pos) (CV X.K t):=by
 intro pins s σ H Q I hq;refine wpAny_List_spliced (dc (h pos pins s σ H _ I hq) λus s1 ⟨xs,H1,I1,r,z,q⟩=>⟨by rw[<-r.length];exact z,?_⟩)
 have hf:H1 s1.heap.objs.size=none:=I1.hok.fresh (Yr _);refine⟨.ref s1.heap.objs.size,upd H1 s1.heap.objs.size (.lst xs),I1.laid (t':=s1.toks) (λb u e=>Heap.get?_push_of_some _ e) (Yr _) ?_,rfl,q.ok (I1.newK (Yr _)) hf⟩;exact⟨z,us,0,r,Heap.get?_push_size _ rfl⟩
theorem eX.imp{f:Value->Value->Sem Value}{r r':R2}(h:eX X f r)(hi:∀x y H Q,r' x y H Q->r x y H Q):eX X f r':=λpins s σ H x y v u Q I rx ry q=>h pins s σ H x y v u Q I rx ry (hi _ _ _ _ q)
def zj(K:Sf):R2:=λx y H Q=>∃l b,x=.ref l/\y=.ref b /\ ∃xs,vw K H l=some (.lst xs) /\ ∃zs,vw K H b=some (.lst zs)/\xs.length+zs.length<=sizeLine/\Nw K H (.lst (xs++zs)) Q
theorem FW:eX X (binaryOp .Add) (zj X.K):=IT.kf.imp λ_ _ _ _ ⟨l,b,e1,e2,xs,h1,zs,h2,z,q⟩=>⟨l,b,xs,zs,e1,e2,aN h1,aN h2,z,q.al⟩
def zC(K:Sf):R2:=λx y H Q=>∃l k,x=.ref l/\y=.int k /\ ∃xs,vw K H l=some (.lst xs) /\ -(2^63)<=k/\k<2^63/\xs.length*k.toNat<=sizeLine/\Nw K H (.lst (List.replicate k.toNat xs).flatten) Q
theorem Fk:eX X (binaryOp .Mult) (zC X.K):=IC.kf.imp λ_ _ _ _ ⟨l,k,e1,e2,xs,h1,z1,z2,z3,q⟩=>⟨l,k,xs,e1,e2,aN h1,z1,z2,z3,q.al⟩
def ii(K:Sf):R2:=λx y H Q=>rI IntMulOk (λi j=>.int (i*j)) x y H Q\/zC K x y H Q
def gz(K:Sf):R2:=λx y H Q=>zn (λi j=>.int (i+j)) x y H Q\/zj K x y H Q
theorem aO:eX X (binaryOp .Mult) (ii X.K):=Fz.or Fk
theorem aW:eX X (binaryOp .Add) (gz X.K):=JJ.or FW
theorem ij:ii K (.int i) (.int j) H Q=(IntMulOk i j/\Q (.int (i*j)) H):=by
 simp[ii,rI,zC]
theorem fH:ii K (.ref l) (.int j) H Q = ∃xs,vw K H l=some (.lst xs) /\ -(2^63)<=j/\j<2^63/\xs.length*j.toNat<=sizeLine/\Nw K H (.lst (List.replicate j.toNat xs).flatten) Q:=by
 simp[ii,rI,zC]
theorem ky:gz K (.int i) (.int j) H Q=Q (.int (i+j)) H:=by
 simp[gz,zn,zj]
theorem dR{b:Addr}:gz K (.ref l) (.ref b) H Q = ∃xs,vw K H l=some (.lst xs) /\ ∃zs,vw K H b=some (.lst zs)/\xs.length+zs.length<=sizeLine/\Nw K H (.lst (xs++zs)) Q:=by
 simp[gz,zn,zj]
theorem fj:ei X (.type "list") (λxs H Q=>∃p,xs=[.ref p] /\ ∃ys,vw X.K H p=some (.lst ys)/\Nw X.K H (.lst ys) Q):=sQ.kf.imp λ_ _ _ ⟨p,e,ys,h,q⟩=>⟨p,ys,e,.inl (.of (aN h)),q.al⟩
theorem zP.imp{r r':V->Option Int->Option Int->Hp->VK->Prop}(h:zP X r)(hi:∀x a b H Q,r' x a b H Q->r x a b H Q):zP X r':=by
 intro value p2 pins s σ H x lo hi' v vl vh sl Q
 intros
 apply h<;>first|assumption|(apply hi;assumption)
def Eu(K:Sf):V->Option Int->Option Int->Hp->VK->Prop:=λx lo hi H Q=>∃a,x=.ref a /\ ∃xs,vw K H a=some (.lst xs)/\Nw K H (.lst (i8 xs lo hi)) Q
theorem fL:zP X (Eu X.K):=Fl.kf.imp λ_ _ _ _ _ ⟨a,e,xs,h,q⟩=>⟨a,xs,e,.of (aN h),q.al⟩
def E8(K:Sf)(H:Hp)(l:Addr)(o:HO)(Q:Hp->Prop):Prop:=∀H2,eJ l (vw K H) (vw K H2)->vw K H2 l=some o->Q H2
theorem E8.ok{Q:Hp->Prop}(h:E8 K H l o Q)(hk:K.lookup l=none):Q (upd H l o):=h _ (xy eJ.upd) (by rw[dU hk];exact cz)
def Do(K:Sf):V->V->V->Hp->(Hp->Prop)->Prop:=λo i v H Q=>∃p k,o=.ref p/\i=.int k /\ ∃xs,vw K H p=some (.lst xs) /\ ∃j,xH xs.length k=some j/\E8 K H p (.lst (xs.set j v)) Q
theorem dI:Aq X (Do X.K):=λpins s σ H o i v ov iv u Q I ro ri rv ⟨p,k,e1,e2,xs,h,j,e3,q⟩=>DI pins s σ H o i v ov iv u Q I ro ri rv ⟨p,xs,k,j,e1,e2,aN h,e3,q.ok (I.noK (aN h))⟩
def CO(K:Sf):V->List V->Hp->VK->Prop:=λx vs H Q=>∃l y,x=.ref l/\vs=[y] /\ ∃xs,vw K H l=some (.lst xs)/\xs.length<sizeLine/\E8 K H l (.lst (xs++[y])) (Q .non)
theorem fA:JX X "list.append" (CO X.K):=λpins s σ H x vs v us Q I rx rv ⟨l,y,e1,e2,xs,h,z,q⟩=>rO pins s σ H x vs v us Q I rx rv ⟨l,xs,y,e1,e2,aN h,z,q.ok (I.noK (aN h))⟩
def GW(K:Sf):V->List V->Hp->VK->Prop:=λx vs H Q=>∃l,x=.ref l/\vs=[] /\ ∃xs,vw K H l=some (.lst xs) /\ ∃y,xs[xs.length-1]? = some y/\E8 K H l (.lst xs.dropLast) (Q y)
theorem Ev:JX X "list.pop" (GW X.K):=λpins s σ H x vs v us Q I rx rv ⟨l,e1,e2,xs,h,y,e3,q⟩=>Jw pins s σ H x vs v us Q I rx rv ⟨l,xs,y,e1,e2,aN h,e3,q.ok (I.noK (aN h))⟩
end
def zp(J:It)(g:TG)(tb:TS)(D:oZ)(σ:St)(H1:Hp):Prop:=∃W:Nat->Nat->St->Hp->Prop,(∃m,W 0 m σ H1) /\ ∀i m σ H,W i m σ H ->
 (J.stop i H/\D.nx σ H)\/(J.go i H /\ ∃N:St->Hp->Prop,(∀σ' H',N σ' H' -> ∃m',m'<m/\W (i+1) m' σ' H') /\ ∀x H',J.yld i H x H'->g x σ H' λσ2 H2=>tb { D with nx:=N,ct:=N,bk:=D.nx } σ2 H2)
theorem Fj(wi:TI)(g:TG)(tb:TS)(D:oZ)(σ:St)(H:Hp):Ix wi g tb D σ H=wi σ H λJ H1=>zp J g tb D σ H1:=rfl
inductive D where
 | non|bl (b:Bool)|int (i:Int)|str (x:Str)|dict|tup (ds:List D)|lst (ds:List D)
mutual
def aI(H:Hp):D->V->Prop
 | .non,v=>v=.non
 | .bl b,v=>v=.bl b
 | .int i,v=>v=.int i
 | .str x,v=>v=.str x
 | .dict,v=>∃a kvs,v=.ref a/\H a=some (.dK kvs)
 | .tup ds,v=>∃a xs,v=.ref a/\H a=some (.tup xs)/\aF H ds xs
 | .lst ds,v=>∃a xs,v=.ref a/\H a=some (.lst xs)/\aF H ds xs
def aF(H:Hp):List D->List V->Prop
 | [],xs=>xs=[]
 | d::ds,xs=>∃x r,xs=x::r/\aI H d x/\aF H ds r
end
mutual
theorem aI.same{H H':Hp}(S:aB H H'):∀(d:D)(v:V),aI H d v->aI H' d v
 | .non,v,h=>by unfold aI at h ⊢;exact h
 | .bl b,v,h=>by unfold aI at h ⊢;exact h
 | .int i,v,h=>by unfold aI at h ⊢;exact h
 | .str x,v,h=>by unfold aI at h ⊢;exact h
 | .dict,v,h=>by
  unfold aI at h ⊢;obtain⟨a,kvs,e,h⟩:=h;exact⟨a,kvs,e,S _ _ h⟩
 | .tup ds,v,h=>by
  unfold aI at h ⊢;obtain⟨a,xs,e,h,r⟩:=h;exact⟨a,xs,e,S _ _ h,aF.same S ds xs r⟩
 | .lst ds,v,h=>by
  unfold aI at h ⊢;obtain⟨a,xs,e,h,r⟩:=h;exact⟨a,xs,e,S _ _ h,aF.same S ds xs r⟩
theorem aF.same{H H':Hp}(S:aB H H'):∀(ds:List D)(xs:List V),aF H ds xs->aF H' ds xs
 | [],xs,h=>by unfold aF at h ⊢;exact h
 | d::ds,xs,h=>by
  unfold aF at h ⊢;obtain⟨x,r,e,h1,h2⟩:=h;exact⟨x,r,e,aI.same S d x h1,aF.same S ds r h2⟩
end
theorem aF.get{H:Hp}:∀{ds:List D}{xs:List V}{i:Nat}{x:V},aF H ds xs->xs[i]? = some x -> ∃d,ds[i]? = some d/\aI H d x
 | [],xs,i,x,h,e=>by
  unfold aF at h;subst h;simp at e
 | d::ds,xs,i,x,h,e=>by
  unfold aF at h;obtain⟨y,r,rfl,h1,h2⟩:=h;cases i with
  | zero =>
   have e':y=x:=by simpa using e
   subst e';exact⟨d,by simp,h1⟩
  | succ i =>
   obtain⟨d',e1,e2⟩:=aF.get (i:=i) h2 (by simpa using e)
   exact⟨d',by simpa using e1,e2⟩
theorem aF.length{H:Hp}:∀{ds:List D}{xs:List V},aF H ds xs->xs.length=ds.length
 | [],xs,h=>by
  unfold aF at h;subst h;rfl
 | d::ds,xs,h=>by
  unfold aF at h;obtain⟨y,r,rfl,_,h2⟩:=h;simp[aF.length h2]
def D.ty:D->String
 | .non=>"NoneType" | .bl _=>"bool" | .int _=>"int" | .str _=>"str" | .dict=>"dict" | .tup _=>"tuple" | .lst _=>"list"
theorem aI.ty{H:Hp}{d:D}{v:V}(h:aI H d v):El H v=some d.ty:=by
 cases d<;>unfold aI at h
 .subst h;rfl
 .subst h;rfl
 .subst h;rfl
 .subst h;rfl
 .obtain⟨a,kvs,rfl,h⟩:=h;simp only[El,h,D.ty]
 .obtain⟨a,xs,rfl,h,_⟩:=h;simp only[El,h,D.ty]
 .obtain⟨a,xs,rfl,h,_⟩:=h;simp only[El,h,D.ty]
theorem vB(a b:Int):Int.gcd b (a.fmod b)=Int.gcd a b:=by
 rw[Int.fmod_def,Int.gcd_comm a b];have:a-b*a.fdiv b=a+b*(- a.fdiv b):=by rw[Int.mul_neg];nofun
 rw[this];simp
theorem zG(a:Int){b:Int}(hb:b≠0):(a.fmod b).natAbs<b.natAbs:=by
 rcases Int.lt_or_gt_of_ne hb with h|h
 .obtain⟨n,rfl⟩:∃n:Nat,b=Int.negSucc n:=⟨(-b-1).toNat,()⟩;cases a with
  | ofNat m =>
   cases m with
   | zero=>simp[Int.fmod]
   | succ m =>
    show (Int.subNatNat (m%(n+1)) n).natAbs<n+1;have:=Nat.mod_lt m (show 0<n+1 by nofun)
    rw[Int.subNatNat_eq_coe];generalize m%(n+1)=z at *
    nofun
  | negSucc m =>
   show (-((((m+1)%(n+1):Nat)):Int)).natAbs<n+1;have:=Nat.mod_lt (m+1) (show 0<n+1 by nofun)
   generalize (m+1)%(n+1)=z at *
   nofun
 .have h1:=YV a h;have h2:=YW a h;nofun
def lg(a b:Int):Int:=if b<0 then -(Int.gcd a b:Int) else (Int.gcd a b:Int)
def lo(a b:Int):Int×Int:=(a.fdiv (lg a b),b.fdiv (lg a b))
def fr(q:Int×Int):D:=.tup [.int q.1,.int q.2]
def Fq(q:Int×Int):Prop:=0<q.2/\Int.gcd q.1 q.2=1
theorem Cf{a:Int}(hb:b≠0):lg a b≠0:=by
 have h:Int.gcd a b≠0:=λe=>hb (Int.gcd_eq_zero_iff.mp e).2;unfold lg;split<;>nofun
theorem vA(a b:Int):lg a b∣a:=by
 unfold lg;split
 .exact Int.neg_dvd.mpr (Int.gcd_dvd_left ..)
 .exact Int.gcd_dvd_left ..
theorem uN(a b:Int):lg a b∣b:=by
 unfold lg;split
 .exact Int.neg_dvd.mpr (Int.gcd_dvd_right ..)
 .exact Int.gcd_dvd_right ..
theorem fB{a:Int}(hb:b≠0):(lo a b).1*lg a b=a:=by
 show a.fdiv (lg a b)*lg a b=a;exact Int.fdiv_mul_cancel (vA a b)
theorem fM{a:Int}(hb:b≠0):(lo a b).2*lg a b=b:=by
 show b.fdiv (lg a b)*lg a b=b;exact Int.fdiv_mul_cancel (uN a b)
theorem Ab(a b:Int):(lg a b).natAbs=Int.gcd a b:=by
 unfold lg;split<;>nofun
theorem ix{a:Int}(hb:b≠0):Fq (lo a b):=by
 have h1:=fB (a:=a) hb;have h2:=fM (a:=a) hb;have hg:0<Int.gcd a b:=Nat.pos_of_ne_zero λe=>hb (Int.gcd_eq_zero_iff.mp e).2;constructor
 .by_cases hn:b<0
  .have e:lg a b = -(Int.gcd a b:Int):=Yb hn;rw[e] at h2;rcases Int.lt_trichotomy (lo a b).2 0 with h|h|h
   .have:=Int.mul_nonneg_of_nonpos_of_nonpos (YX h) (show -(Int.gcd a b:Int)<=0 by nofun)
    nofun
   .rw[h] at h2;nofun
   .exact h
  .have e:lg a b=(Int.gcd a b:Int):=Yc hn;rw[e] at h2;rcases Int.lt_trichotomy (lo a b).2 0 with h|h|h
   .have:=Int.mul_nonpos_of_nonpos_of_nonneg (YX h) (show 0<=(Int.gcd a b:Int) by nofun)
    nofun
   .rw[h] at h2;nofun
   .exact h
 .have e:Int.gcd ((lo a b).1*lg a b) ((lo a b).2*lg a b)=Int.gcd (lo a b).1 (lo a b).2*(lg a b).natAbs:=Int.gcd_mul_right ..;rw[h1,h2,Ab] at e;have:1*Int.gcd a b=Int.gcd (lo a b).1 (lo a b).2*Int.gcd a b:=();exact (Nat.eq_of_mul_eq_mul_right hg this).symm
mutual
def D.noSt:D->Bool
 | .lst [.int _,.bl _]=>false
 | .lst ds=>D.noSts ds
 | .tup ds=>D.noSts ds
 | _=>true
def D.noSts:List D->Bool
 | []=>true
 | d::ds=>d.noSt && D.noSts ds
end
def dz(H:Hp)(st:Addr):Prop:=∃x b,H st=some (.lst [.int x,.bl b])/\(b=false->0<=x/\x<2147483647)
theorem aI.lst_st{b:Bool}(h:aF H ds [.int x,.bl b]):ds=[.int x,.bl b]:=by
 match ds with
 | []=>unfold aF at h;cases h
 | [d] =>
  unfold aF at h;obtain⟨_,_,e,_,h⟩:=h;unfold aF at h;subst h;cases e
 | d1::d2::d3::r =>
  have:=aF.length h;simp at this
 | [d1,d2] =>
  unfold aF at h;obtain⟨_,_,e,h1,h⟩:=h;cases e;unfold aF at h;obtain⟨_,_,e,h2,h⟩:=h;cases e;have e1:d1=.int x:=by
   cases d1<;>unfold aI at h1<;>first|(cases h1;rfl)|(obtain⟨_,_,e,_⟩:=h1;cases e)|cases h1
  have e2:d2=.bl b:=by
   cases d2<;>unfold aI at h2<;>first|(cases h2;rfl)|(obtain⟨_,_,e,_⟩:=h2;cases e)|cases h2
  rw[e1,e2]
theorem dz.same(h:dz H st)(S:aB H H'):dz H' st:=by
 obtain⟨x,b,e,k⟩:=h;exact⟨x,b,S _ _ e,k⟩
theorem dz.ne(h:dz H st)(hp:H p=none):p≠st:=by
 obtain⟨x,b,e,k⟩:=h;exact (aj e hp).symm
def D.isInt:D->Bool
 | .int _=>true
 | _=>false
def D.frac:D->Bool
 | .tup [.int t,.int b]=>decide (0<b) && decide (Int.gcd t b=1)
 | _=>false
theorem frac_fr{q:Int×Int}(h:Fq q):(fr q).frac=true:=by
 simp[fr,D.frac,h.1,h.2]
theorem aI.tup_at(h:aI H (.tup ds) v):∃a xs,v=.ref a/\H a=some (.tup xs)/\aF H ds xs:=by
 unfold aI at h;exact h
theorem aI.lst_at(h:aI H (.lst ds) v):∃a xs,v=.ref a/\H a=some (.lst xs)/\aF H ds xs:=by
 unfold aI at h;exact h
theorem aF.nil_at(h:aF H [] xs):xs=[]:=by
 unfold aF at h;exact h
theorem aF.cons_at(h:aF H (d::ds) xs):∃x r,xs=x::r/\aI H d x/\aF H ds r:=by
 unfold aF at h;exact h
theorem aI.int_at(h:aI H (.int i) v):v=.int i:=by
 unfold aI at h;exact h
theorem aF.pair(h:aF H ds xs)(hl:xs.length=2):∃d1 d2 x1 x2,ds=[d1,d2]/\xs=[x1,x2]/\aI H d1 x1/\aI H d2 x2:=by
 have e:=h.length;match ds,e with
 | [],e=>rw[hl] at e;cases e
 | [_],e=>rw[hl] at e;cases e
 | _::_::_::_,e=>rw[hl] at e;cases e
 | [d1,d2],_ =>
  obtain⟨x1,r,rfl,h1,h⟩:=h.cons_at;obtain⟨x2,r,rfl,h2,h⟩:=h.cons_at;cases h.nil_at;exact⟨_,_,_,_,rfl,rfl,h1,h2⟩
theorem aI.mk_int(i:Int):aI H (.int i) (.int i):=by unfold aI;rfl
theorem aI.mk_bl(i:Bool):aI H (.bl i) (.bl i):=by unfold aI;rfl
theorem aF.mk_nil:aF H [] []:=by unfold aF;rfl
theorem aF.mk_cons{x:V}(h1:aI H d x)(h2:aF H ds xs):aF H (d::ds) (x::xs):=by unfold aF;exact⟨_,_,rfl,h1,h2⟩
theorem aI.mk_tup(h:H a=some (.tup xs))(r:aF H ds xs):aI H (.tup ds) (.ref a):=by unfold aI;exact⟨_,_,rfl,h,r⟩
theorem aI.mk_lst(h:H a=some (.lst xs))(r:aF H ds xs):aI H (.lst ds) (.ref a):=by unfold aI;exact⟨_,_,rfl,h,r⟩
theorem aI.fr_at{q:Int×Int}(h:aI H (fr q) v):∃a,v=.ref a/\H a=some (.tup [.int q.1,.int q.2]):=by
 obtain⟨a,xs,e,ha,r⟩:=h.tup_at;obtain⟨x1,r1,rfl,h1,r⟩:=r.cons_at;obtain⟨x2,r2,rfl,h2,r⟩:=r.cons_at;cases r.nil_at;rw[h1.int_at,h2.int_at] at ha;exact⟨a,e,ha⟩
theorem D.frac_tup(h:(D.tup ds).frac=true):∃a b,ds=[.int a,.int b]/\Fq (a,b):=by
 unfold D.frac at h;split at h
 .rename_i t b e
  cases e;simp at h;exact⟨_,_,rfl,h.1,h.2⟩
 .cases h
abbrev Bt (n:Nat)(x:Int):Prop:=x.natAbs<2^n
theorem Bt.ib(h:Bt n x):Builtin.Int.intBits x<=n:=by
 unfold Builtin.Int.intBits;split
 .exact YO _
 .rename_i h0
  have h1:x.natAbs≠0:=by
   intro e;apply h0
   have:x=0:=();rw[this];rfl
  have:=(Nat.log2_lt h1).mpr h;nofun
theorem cg(hx:Bt m x)(hy:Bt n y)(h:m+n<=134217728:=by decide):IntMulOk x y:=PySem.IntMulOk.of_le hx.ib hy.ib h
theorem Bt.mono(hx:Bt m x)(h:m<=n):Bt n x:=Yd hx (YY ∅ h)
theorem Bt.mul(hx:Bt m x)(hy:Bt n y):Bt (m+n) (x*y):=by
 unfold Bt;rw[YZ,Y0];exact Nat.mul_lt_mul'' hx hy
theorem Bt.add(hx:Bt m x)(hy:Bt n y):Bt (max m n+1) (x+y):=by
 have h1:=hx.mono (Nat.le_max_left m n);have h2:=hy.mono (Nat.le_max_right m n);unfold Bt at *
 rw[Nat.pow_succ];have:=Int.natAbs_add_le x y;nofun
theorem Bt.sub(hx:Bt m x)(hy:Bt n y):Bt (max m n+1) (x-y):=by
 have h1:=hx.mono (Nat.le_max_left m n);have h2:=hy.mono (Nat.le_max_right m n);unfold Bt at *
 rw[Nat.pow_succ];have:=Int.natAbs_sub_le x y;nofun
theorem HD(h:y≠0)(hb:Bt 9000 y):G7 x y:=⟨h,by
 by_cases h0:y.natAbs=0
 .rw[h0];decide +kernel
 .exact (Nat.log2_lt h0).mpr hb⟩
theorem yV{k:Int}(hk:0<k)(h:k.natAbs<=2^n):Bt n (x.fmod k):=by
 have h1:=YV x hk;have h2:=YW x hk;unfold Bt;nofun
theorem gF(hx:Bt 64 x):IntMulOk x y:=.of_left hx.ib
theorem E7(hy:Bt 64 y):IntMulOk x y:=.of_right hy.ib
theorem kK  [Decidable c] (hc:c)(h:A):if c then A else B:=by rw[Yb hc];exact h
theorem fz  [Decidable c] (hc:¬ c)(h:B):if c then A else B:=by rw[Yc hc];exact h
theorem D.isInt_of(h:¬ d.isInt=false):∃i,d=.int i:=by
 cases d<;>first|exact⟨_,rfl⟩|exact absurd rfl h
theorem Fe{t:Int}(h:b<1):(D.tup [.int t,.int b]).frac=false:=by
 simp only[D.frac,Ya (show ¬ (0:Int)<b by nofun),Bool.false_and]
theorem Eo{t:Int}(h:0<b):(D.tup [.int t,.int b]).frac=decide (((Int.gcd t b:Nat):Int)=1):=by
 simp only[D.frac,YS h,Bool.true_and];apply decide_eq_decide.mpr
 nofun
end L2
namespace L2
open PySem
def D.len:D->Nat
 | .lst ds=>ds.length
 | _=>0
mutual
def D.ib:D->Bool
 | .int i=>decide (i.natAbs<2^200)
 | .tup ds=>D.ibs ds
 | .lst ds=>D.ibs ds
 | _=>true
def D.ibs:List D->Bool
 | []=>true
 | d::ds=>d.ib && D.ibs ds
end
end L2
namespace L2
open PySem PySem.Spec PyProof.Rows
variable {scope:Scope}{pos:Pos}{X:Cx}{tg:Expr}{g:TG}{te:TE}{H:Hp}{K:Sf}{a st:Addr}{xs:List V}{ds:List D}{A:Around}{n k:Nat}
section
variable {prog:Program}{w:World}{A:Around}{R:Result->Shared->Prop}{s:Shared}
theorem tz{elt target iter:Expr}{ifs:List Expr}{it acc:Value}{env:Env}{EE:Value->Shared->Prop}(hEE:EE=notedBy (model prog w) A env λe s'=>R (.error e) s')(Iv:Nat->Shared->Prop)
  (turn:∀n s,Iv n s->wpAny (model prog w) A (pyNext it) (λr s1=>match r with
   | none=>R (.ok .next) s1
   | some v=>wpAny (model prog w) A (letOwnedTupleGo target it v) (λ_ s2=>wpAny (model prog w) A (assign target env v) (λ_ s3 =>
     wpAny (model prog w) A (forIn ifs true λc r=>if r=true then do let ok <-isTrue c env (eval c env);pure (ForInStep.yield ok) else pure (ForInStep.yield r)) (λok s4 =>
      if ok=true then wpAny (model prog w) A (eval elt env) (λx s5=>wpAny (model prog w) A (call (.builtin "list.append") [acc,x]) (λ_ s6=>∃m,m<n/\Iv m s6) EE s5) EE s4
      else ∃m,m<n/\Iv m s4) EE s3) EE s2) EE s1) EE s)
  (n:Nat)(h:Iv n s):codeAny (model prog w) A (.compLoop (.ListComp elt [⟨target,iter,ifs,0⟩] scope pos) 0 it acc env) R s:=by
 subst hEE;refine codeAny_loop rfl Iv (λn s hI=>?_) n h;show wpAny _ A ((compTurn (.ListComp elt [⟨target,iter,ifs,0⟩] scope pos) 0 it acc env).onRaise (λx=>do noteFrame x env;theTreesLotGoes x)) _ _ s
 refine wpAny_noted ?_;rw[compTurn_list];refine wpAny_bind (wpAny_standAt (wpAny_bind (wpAny_mono (turn n s hI) (λr s1 h1=>?_) λ_ _ h'=>h')));cases r with
 | none=>exact wpAny_pure h1
 | some v =>
  refine wpAny_bind (wpAny_mono h1 (λ_ s2 h2=>?_) λ_ _ h'=>h');refine wpAny_bind (wpAny_mono h2 (λ_ s3 h3=>wpAny_bind (wpAny_mono h3 (λok s4 h4=>?_) λ_ _ h'=>h')) λ_ _ h'=>h');cases ok with
  | false=>exact wpAny_pure ⟨rfl,h4⟩
  | true=>exact wpAny_bind (wpAny_bind (wpAny_mono h4 (λx s5 h5=>wpAny_bind (wpAny_mono h5 (λ_ s6 h6=>wpAny_pure (wpAny_pure ⟨rfl,h6⟩)) λ_ _ h'=>h')) λ_ _ h'=>h'))
end
def oG(X:Cx)(scope:Scope)(cl:List (Str×Addr))(N:List Str)(C:Addr)(s:Shared)(H:Hp)(ex:List Addr):Cx :=
 { X with N:=N,s₀:=s,H₀:=H,env:=compEnvC scope cl C X.env,outer:=X.stack,ex:=ex,fn:=λ_=>false,pn:=[],xe:=λ_ _=>False }
def vS(X:Cx)(scope:Scope)(cl:List (Str×Addr)):List Str->List Nat->Prop
 | [],[]=>True
 | x::xs,j::js=>(X.N[j]? = some x /\ X.env.kindOf x=some .cell /\ (relabel scope X.env).names.lookup x=some .cell /\ (∃c,cl.lookup x=some c)) /\ vS X scope cl xs js
 | _,_=>False
theorem vS.length{X:Cx}{scope:Scope}{cl:List (Str×Addr)}:∀{xs:List Str}{js:List Nat},vS X scope cl xs js->js.length=xs.length
 | [],[],_=>rfl
 | _::_,_::_,h=>by simp[vS.length h.2]
 | [],_::_,h=>h.elim
 | _::_,[],h=>h.elim
theorem vS.get{X:Cx}{scope:Scope}{cl:List (Str×Addr)}:∀{xs:List Str}{js:List Nat}{k j:Nat}{x:Str},vS X scope cl xs js->xs[k]? = some x->js[k]? = some j ->
  X.N[j]? = some x /\ X.env.kindOf x=some .cell /\ (relabel scope X.env).names.lookup x=some .cell /\ ∃c,cl.lookup x=some c
 | [],_,_,_,_,_,e,_=>by simp at e
 | _::_,[],_,_,_,_,_,e=>by simp at e
 | x::xs,j::js,0,_,_,h,e1,e2=>by
  simp at e1 e2;subst e1;subst e2;exact h.1
 | x::xs,j::js,k+1,_,_,h,e1,e2=>vS.get (k:=k) h.2 (by simpa using e1) (by simpa using e2)
def mJ(X:Cx):List (Str×Addr)->Prop
 | []=>True
 | p::r=>X.env.cells.lookup p.1=some p.2/\mJ X r
theorem mJ.mem{X:Cx}:∀{cl:List (Str×Addr)},mJ X cl -> ∀p∈cl,X.env.cells.lookup p.1=some p.2
 | [],_,p,hp=>by cases hp
 | q::r,h,p,hp=>by
  rcases Y2.mp hp with rfl|hp
  .exact h.1
  .exact mJ.mem h.2 p hp
structure pT (X:Cx)(scope:Scope)(cl:List (Str×Addr))(own outs:List Str)(ixs:List Nat):Prop where
 nocell:(scope.names.all λy=>y.2 != .cell)=true
 kind:scope.kind=.function
 names:(scope.names.all λy=>y.2 != .local || scope.names.lookup y.1==some .local)=true
 cells:mJ X cl
 has:((relabel scope X.env).names.all λy=>!(y.2 == .cell || y.2 == .free) || (cl.lookup y.1).isSome)=true
 outs:vS X scope cl outs ixs
def PF(X:Cx)(ifs:List Expr)(t:TT):Prop :=
 ∀pins s(σ:St)H(Q:Bool->Hp->Prop),aR X pins σ H s->t σ H Q ->
  wpAny (model X.prog X.w) X.A (forIn ifs true λc r=>if r=true then do let ok <-isTrue c X.env (eval c X.env);pure (ForInStep.yield ok) else pure (ForInStep.yield r)) (TP X pins σ Q) X.xe s
def Gu:TT:=λ_ H Q=>Q true H
theorem HI:PF X [] Gu:=λ_ _ _ H _ I h=>wpAny_tests_nil ⟨H,I,h⟩
theorem HK{c:Expr}{t:TT}(h:PT X c t):PF X [c] t:=λpins s σ H Q I q=>wpAny_tests_one (h pins s σ H Q I q)
def oh(K:Sf)(J:It)(g:TG)(tif:TT)(te:TE)(a:Addr)(σ0:St)(H0:Hp)(Q:Hp->Prop):Prop:=∃W:Nat->Nat->St->Hp->Prop,(∃m,W 0 m σ0 H0) /\ ∀i m σ H,W i m σ H ->
 (J.stop i H/\Q H)\/(J.go i H /\ ∃N:St->Hp->Prop,(∀σ' H',N σ' H' -> ∃m',m'<m/\W (i+1) m' σ' H') /\ ∀x H',J.yld i H x H'->g x σ H' λσ2 H2=>tif σ2 H2 λb H3=>if b=true then te σ2 H3 λv H4=>∃xs,vw K H4 a=some (.lst xs)/\xs.length<sizeLine /\
  ∀H5,eJ a (vw K H4) (vw K H5)->vw K H5 a=some (.lst (xs++[v]))->N σ2 H5 else N σ2 H3)
def wZ(σ:St)(ixs:List Nat):St:=ixs.map λj=>(σ[j]?).join
def vV(K:Sf)(wi:TI)(n:Nat)(ixs:List Nat)(g:TG)(tif:TT)(te:TE):TE:=λσ H Q=>wi σ H λJ H1=>∀a H2,vw K H1 a=none->aB (vw K H1) (vw K H2)->vw K H2 a=some (.lst [])->oh K J g tif te a (List.replicate n none++wZ σ ixs) H2 (Q (.ref a))
section
variable {X:Cx}
theorem sG{iter elt:Expr}{ifs:List Expr}{ipos:Pos}{wi:TI}{tif:TT}{cl:List (Str×Addr)}{own outs:List Str}{ixs:List Nat}{use:Option (Value->Sem Unit)}{Qv:Value->Shared->Prop}
  (hc:X.calm=true)(hi:PI X tg iter wi)(hclos:closureFor scope X.env=pure cl)(S:pT X scope cl own outs ixs)
  {G:Shared->Hp->List Addr->Prop}(hb:∀C s H ex,G s H ex->PG (oG X scope cl (own++outs) C s H ex) tg g/\PF (oG X scope cl (own++outs) C s H ex) ifs tif/\PE (oG X scope cl (own++outs) C s H ex) elt te)
  (hs:∀x,foldedSetIterable iter X.env x=pure x) {pins:List (Addr×Obj)}{s:Shared}{σ:St}{H:Hp}(hG:∀s2 H1 H2 fp,aR X pins σ H2 s2->(∀b∈fp,nG X pins H1 b)->G s2 H2 fp)(I:aR X pins σ H s)(Qd:Addr->Hp->Prop)
  (hfin:∀(a C:Addr)(H':Hp)(s4:Shared)(m:Str->Option Value),aR X pins σ H' s4->nG X pins H' C->s4.heap.Ns C m->Qd a H'->compPost (model X.prog X.w) X.A X.xe use Qv (.ref a) C (.ok .next) s4)
  (h:wi σ H λJ H1=>∀a H2,vw X.K H1 a=none->aB (vw X.K H1) (vw X.K H2)->vw X.K H2 a=some (.lst [])->oh X.K J g tif te a (List.replicate own.length none++wZ σ ixs) H2 (Qd a)) :
  wpAny (model X.prog X.w) X.A (comprehension (.ListComp elt [⟨tg,iter,ifs,0⟩] scope pos) scope X.env ipos (newList []) false (eval iter X.env) use) Qv X.xe s:=by
 have Snc:∀y∈scope.names,y.2 ≠ .cell:=λy hy z=>by
  have:=List.all_eq_true.mp S.nocell y hy;rw[z] at this;cases this
 have Snm:∀y∈scope.names,y.2=.local->scope.names.lookup y.1=some .local:=λy hy z=>by
  have:=List.all_eq_true.mp S.names y hy;rw[z] at this;simpa using this
 have Shs:∀y∈(relabel scope X.env).names,(y.2=.cell \/ y.2=.free)->(cl.lookup y.1).isSome=true:=λy hy z=>by
  have:=List.all_eq_true.mp S.has y hy;rcases z with z|z
  .rw[z] at this;simpa using this
  .rw[z] at this;simpa using this
 refine wpAny_comprehension_free (use:=use) rfl hs hclos S.kind Snm (wpAny_mono (hi pins s σ H _ I h) (λxv s1 h1=>wpAny_mono h1 (λitv s2 h2=>?_) λ_ _ e=>e) λ_ _ e=>e);obtain⟨it,fp,tn,J,H1,rfl,I1,T,st1,f1,q⟩:=h2;refine wpAny_newObj_type (wpAny_newFunctionEnv Snc (by intro y hy;simp at hy) (λh₁ hns₁ hsb₁=>?_) S.kind)
 dsimp only at hns₁ hsb₁ ⊢;have I2:aR X pins σ (upd H1 s2.heap.objs.size (.lst [])) { s2 with heap:=s2.heap.push { cls:=.type "list",dict:=none,data:=.seq ([]:List Value).toArray } }:=I1.lnew (t':=s2.toks) .nil (YO _)
 have q2:=q s2.heap.objs.size (upd H1 s2.heap.objs.size (.lst [])) (by rw[dU (I1.newK (Yr _))];exact I1.fresh) (lT (aB.upd I1.fresh)) (by rw[dU (I1.newK (Yr _))];exact cz)
 have fr2:∀b∈fp,(upd H1 s2.heap.objs.size (.lst [])) b=none:=λb hb=>by
  obtain⟨o,ho,_⟩:=T.obj _ _ st1 b hb;rw[aV (Yf (Heap.lt_size ho))];exact (f1 b hb).1
 generalize hH2:upd H1 s2.heap.objs.size (.lst [])=H2 at I2 q2 fr2;generalize hs3:s2.heap.push { cls:=.type "list",dict:=none,data:=.seq ([]:List Value).toArray }=hp3 at I2 hns₁ hsb₁ ⊢;have old23:∀b o,s2.heap.get? b=some o->hp3.get? b=some o:=λb o e=>hs3▸Heap.get?_push_of_some _ e;have ltC:∀{b:Addr}{o:Obj},hp3.get? b=some o->b≠hp3.objs.size:=λe=>Yf (Heap.lt_size e);have old:∀b o,hp3.get? b=some o->h₁.get? b=some o:=λb o e=>hsb₁.extBut b o (ltC e) (Heap.get?_push_of_some _ e);have clc:∀x c,cl.lookup x=some c->X.env.cells.lookup x=some c:=λx c e=>S.cells.mem (x,c) (Yy e);obtain⟨W,⟨m0,w0⟩,turn⟩:=q2;have fpo:∀b∈fp,∃o,hp3.get? b=some o:=λb hb=>by
  obtain⟨o,ho,_⟩:=T.obj _ _ st1 b hb;exact⟨o,old23 b o ho⟩
 have ok:(oG X scope cl (own++outs) hp3.objs.size { s2 with heap:=hp3 } H2 fp).Ok:=by
  refine⟨I.ok.mod,S.kind,I.ok.glob,I.ok.blt,Yr _,λx y c e1 e2=>I.ok.inj x y c (clc x c e1) (clc y c e2),λx hx=>?_,λx c hf _=>(by cases hf),I.ok.hd,I.ok.frames,.inl rfl,λb hb=>⟨?_,λx c e=>?_⟩,I2.bs,Yg I.ok.bsz I2.sz,λb o e hb=>?_,λb hb hz=>?_,I2.stack,I2.stkFree⟩
  .have hx':(relabel scope X.env).names.lookup x=some .cell \/ (relabel scope X.env).names.lookup x=some .free:=hx;have:(cl.lookup x).isSome=true:=by
    rcases hx' with e|e
    .exact Shs _ (Yy e) (.inl rfl)
    .exact Shs _ (Yy e) (.inr rfl)
   exact Option.isSome_iff_exists.mp this
  .obtain⟨o,ho⟩:=fpo b hb;exact ltC ho
  .exact (f1 b hb).2.2.2.2.1 x c (clc x c e)
  .rcases (f1 b hb).2.2.2.1 with z|z
   .exact I.ok.noex b o e z
   .exact absurd (Yd (Heap.lt_size e) (Yg I.ok.bsz z)) (Ye _)
  .rcases Y2.mp (I2.stkSub b hz) with z|z
   .exact (f1 b hb).2.1 z
   .exact (f1 b hb).2.2.1 z
 have I4:aR (oG X scope cl (own++outs) hp3.objs.size { s2 with heap:=hp3 } H2 fp) [] (List.replicate own.length none++wZ σ ixs) H2 { s2 with heap:=h₁,toks:=s2.toks+([]:List (Str×Value)).length }:=by
  refine⟨ok,rfl,I2.bare,Un.kept old,⟨_,hns₁,λi x v e1 e2 e3=>?_⟩,λx c e=>?_,I2.hok.fresh (Yr _),λx c e=>I2.freeC x c (clc x c e),λp hp=>by simp[oG] at hp,I2.hok.kept old,?_⟩
  .have e1':(own++outs)[i]? = some x:=e1;have hi':own.length<=i:=by
    by_cases hlt:i<own.length
    .rw[YB (by simpa using hlt),YA,Yb hlt] at e2
     cases e2
    .nofun
   rw[Yz (by simpa using hi')] at e2
   rw[Yz hi'] at e1';rw[YG] at e2;unfold wZ at e2;rw[YC] at e2;cases ej:ixs[i-own.length]? with
   | none=>rw[ej] at e2;cases e2
   | some j =>
    rw[ej] at e2;obtain⟨hN,hk,hr,c,hcl⟩:=S.outs.get e1' ej;have e4:(σ[j]?).join=some v:=Yo e2;have e5:σ[j]? = some (some v):=by
     cases es:σ[j]? with
     | none=>rw[es] at e4;cases e4
     | some o=>rw[es] at e4;exact Yp some e4
    obtain⟨m,hn,hl⟩:=I2.loc;obtain⟨u,ru,l⟩:=hl j x v hN e5 (.inr (.inl hk));refine⟨u,ru,.inr ⟨.inl hr,c,hcl,?_⟩⟩;rcases l with ⟨z,_⟩|⟨_,c',hc',cell⟩
    .rw[hk] at z;cases z
    .rw[clc x c hcl] at hc';cases hc';obtain⟨o,ho,hd⟩:=cell;exact⟨o,old _ _ ho,hd⟩
  .obtain⟨v,o,ho,hd⟩:=I2.cell x c (clc x c e);exact⟨v,o,old _ _ ho,hd⟩
  .show (List.replicate own.length none++wZ σ ixs).length=(own++outs).length;unfold wZ;rw[YE,YE,YG,YF,S.outs.length]
 obtain⟨hg,hf,he⟩:=hb hp3.objs.size { s2 with heap:=hp3 } H2 fp (hG _ _ _ _ I2 f1);have stat:∀{H':Hp},(∀b∈fp,H' b=none) -> ∀b∈fp,nG (oG X scope cl (own++outs) hp3.objs.size { s2 with heap:=hp3 } H2 fp) [] H' b:=λhn b hb =>
  ⟨hn b hb,(ok.exf b hb).1,ok.exfs b hb,.inl hb,(ok.exf b hb).2,λp hp=>by simp[oG] at hp⟩
 have noE:∀{α:Type}{t:Sem α}{Q':α->Shared->Prop}{s':Shared}{E':Value->Shared->Prop},wpAny (model X.prog X.w) X.A t Q' (λ_ _=>False) s'->wpAny (model X.prog X.w) X.A t Q' E' s':=λh=>wpAny_mono h (λ_ _ z=>z) λ_ _ z=>z.elim;have loop:codeAny (model X.prog X.w) X.A (.compLoop (.ListComp elt [⟨tg,iter,ifs,0⟩] scope pos) 0 (.ref it) (.ref s2.heap.objs.size) (compEnvC scope cl hp3.objs.size X.env))
   (compPost (model X.prog X.w) X.A X.xe use Qv (.ref s2.heap.objs.size) hp3.objs.size) { s2 with heap:=h₁,toks:=s2.toks+([]:List (Str×Value)).length }:=by
  refine tz rfl (λn s'=>∃i σ' H',aR (oG X scope cl (own++outs) hp3.objs.size { s2 with heap:=hp3 } H2 fp) [] σ' H' s'/\tn i s'.heap/\(∀b∈fp,H' b=none)/\W i n σ' H') ?_ m0
   ⟨0,_,H2,I4,T.keep _ _ _ st1 λb hb o e=>old b o (old23 b o e),fr2,w0⟩
  rintro n s' ⟨i,σ',H',I',st',fr',w'⟩;rcases turn i n σ' H' w' with ⟨stop,qn⟩|⟨go,N,hN,step⟩
  .refine dc (T.done (oG X scope cl (own++outs) hp3.objs.size { s2 with heap:=hp3 } H2 fp) rfl rfl rfl hc i [] s' σ' H' _ I' (stat fr') st' stop) λr s4 ⟨hr,I4'⟩=>?_
   subst hr;obtain⟨m,hn,_⟩:=I4'.loc;have kC:∀b o,b≠hp3.objs.size->s4.heap.get? b=some o->s4.heap.get? b=some o:=λb o hb e=>e;have tC:∀b u,H' b=some u->b≠hp3.objs.size:=λb u e z=>by
    have:=I4'.free;rw[z] at e;rw[show H' hp3.objs.size=none from this] at e
    cases e
   have base:=I4'.base;have un:Un (iS X.stack) fp H2 H' hp3 s4.heap:=⟨λb o e n1 hb hx=>kC b o (ltC e) (base.keep b o e n1 hb hx),λb o e n1 hb hx=>by
     obtain⟨sl,z⟩:=base.slot b o e n1 hb hx;exact⟨sl,kC b _ (ltC e) z⟩,base.free,λb o e hx=>by
     obtain⟨o',z⟩:=base.there b o e hx;exact⟨o',kC b o' (ltC e) z⟩,base.tups,base.frzs,base.tbls⟩
   exact hfin _ _ H' s4 m (I2.call' (s':=s4) (ch:=fp) I4'.os un I4'.hok I4'.bare (λb hb=>⟨(f1 b hb).2.2.2.1,(f1 b hb).2.1,(f1 b hb).2.2.2.2.1,(f1 b hb).2.2.2.2.2⟩)) (I2.fpOk (Yr _) I4'.free) hn qn
  .refine dc (T.item (oG X scope cl (own++outs) hp3.objs.size { s2 with heap:=hp3 } H2 fp) rfl rfl rfl hc i [] s' σ' H' _ I' (stat fr') st' go) λr s4 ⟨u,hr,h4⟩=>?_
   subst hr;refine dc h4 λ_ s5 ⟨x,H5,I5,r5,y5,st5,fr5⟩=>?_;have I5':=I5.pinned (stat fr5) (T.obj _ _ st5);have back:∀{σ7:St}{H7:Hp}{s7:Shared},aR (oG X scope cl (own++outs) hp3.objs.size { s2 with heap:=hp3 } H2 fp) ([]++qA fp s5.heap) σ7 H7 s7 -> ∀m',m'<n->W (i+1) m' σ7 H7 ->
     ∃m,m<n /\ ∃i σ' H',aR (oG X scope cl (own++outs) hp3.objs.size { s2 with heap:=hp3 } H2 fp) [] σ' H' s7/\tn i s7.heap/\(∀b∈fp,H' b=none)/\W i m σ' H':=λ{σ7 H7 s7} I7 m' hm w7=>by
    refine⟨m',hm,i+1,σ7,H7,I7.unpinned,T.keep _ _ _ st5 λb hb o e=>(I7.pin (b,o) (Yt _ (Yt _ (ju hb e)))).1,λb hb=>?_,w7⟩;obtain⟨o,e,d⟩:=T.obj _ _ st5 b hb;exact (I7.pin (b,o) (Yt _ (Yt _ (ju hb e)))).2.1
   refine dc (noE (hg _ s5 σ' H5 x u _ I5' r5 (step x H5 y5))) λ_ s6 ⟨σ6,H6,I6,q6⟩=>?_;refine dc (noE (hf _ s6 σ6 H6 _ I6 q6)) λok s7 ⟨H7,I7,q7⟩=>?_;cases ok with
   | false =>
    rw[Yc Yq] at q7 ⊢;obtain⟨m',hm,w7⟩:=hN _ _ q7;exact back I7 m' hm w7
   | true =>
    rw[Yb rfl] at q7 ⊢;refine dc (noE (he _ s7 σ6 H7 _ I7 q7)) λv s8 ⟨xv,H8,I8,r8,q8⟩=>?_;obtain⟨xs,hxs,hz,q8⟩:=q8;refine dc (noE (rO _ s8 σ6 H8 (.ref s2.heap.objs.size) [xv] _ [v] (λ_ H9=>N σ6 H9) I8 rfl (.cons r8 .nil) ⟨_,xs,xv,rfl,rfl,aN hxs,hz,q8 _ (xy eJ.upd) ((dU (show X.K.lookup _=none from I8.noK (aN hxs))).trans cz)⟩)) λ_ s9 ⟨_,H9,I9,_,n9⟩=>?_
    obtain⟨m',hm,w9⟩:=hN _ _ n9;exact back I9 m' hm w9
 exact codeAny_compStart_list loop (T.self _ 0 _ _ _ (T.keep _ _ _ st1 λb hb o e=>old b o (old23 b o e)) loop)
theorem Gp{iter elt:Expr}{ifs:List Expr}{wi:TI}{tif:TT}{cl:List (Str×Addr)}{own outs:List Str}{ixs:List Nat}
  (hc:X.calm=true)(hi:PI X tg iter wi)(hclos:closureFor scope X.env=pure cl)(S:pT X scope cl own outs ixs)
  (hb:∀C s H ex,PG (oG X scope cl (own++outs) C s H ex) tg g/\PF (oG X scope cl (own++outs) C s H ex) ifs tif/\PE (oG X scope cl (own++outs) C s H ex) elt te)
  (hs:∀x,foldedSetIterable iter X.env x=pure x:=by intro _;rfl) :
  PE X (.ListComp elt [⟨tg,iter,ifs,0⟩] scope pos) (vV X.K wi own.length ixs g tif te):=by
 intro pins s σ H Q I h;rw[eval_ListComp];refine sG (G:=λ_ _ _=>True) hc hi hclos S (λC s H ex _=>hb C s H ex) hs (λ_ _ _ _ _ _=>trivial) I (λa H'=>Q (.ref a) H') (λa C H' s4 m J4 fC hn q=>⟨m,hn,λh' hsb=>?_⟩) h;obtain⟨f0,f1,f2,f3,f4,f5⟩:=fC;exact⟨.ref a,H',J4.turned (t':=s4.toks) (λb o hb e=>hsb.extBut b o hb e) f0 f1 f3 f4 f5,rfl,q⟩
theorem Ey{iter elt:Expr}{ifs:List Expr}{spos py:Pos}{y:Str}{i:Nat}{wi:TI}{tif:TT}{cl:List (Str×Addr)}{own outs:List Str}{ixs:List Nat}
  (hN:X.N.Nodup)(hy:X.N[i]? = some y)(hx:Eh X.env.scope y)(hc:X.calm=true)(hi:PI X tg iter wi)(hclos:closureFor scope X.env=pure cl)(S:pT X scope cl own outs ixs)
  (hb:∀C s H ex,PG (oG X scope cl (own++outs) C s H ex) tg g/\PF (oG X scope cl (own++outs) C s H ex) ifs tif/\PE (oG X scope cl (own++outs) C s H ex) elt te)
  (hsw:swapsWith (.ListComp elt [⟨tg,iter,ifs,0⟩] scope pos) (some (.Name y py)) spos.line X.env=pure true:=by rfl)
  (hs:∀x,foldedSetIterable iter X.env x=pure x:=by intro _;rfl)(hf:X.fn y=true\/X.env.scope.names.lookup y=some .local:=by first|walk_at "a1"|assumption) :
  PS X (.Assign [.Name y py] (.ListComp elt [⟨tg,iter,ifs,0⟩] scope pos) spos) (wQ (vV X.K wi own.length ixs g tif te) (gj i)):=by
 intro pins s σ H D I h;rw[exec_Assign_Name_used _ _ _ _ hsw];refine wpAny_bind (wpAny_standAt (wpAny_bind ?_));show wpAny _ X.A (do let _ <-comprehension (.ListComp elt [⟨tg,iter,ifs,0⟩] scope pos) scope X.env _ (newList []) false (eval iter X.env) (some (assign (.Name y py) X.env))) _ _ s
 refine wpAny_bind (wpAny_mono (sG (use:=some (assign (.Name y py) X.env)) (Qv:=λ_ s'=>SP X pins D .next s') (G:=λ_ _ _=>True) hc hi hclos S (λC s H ex _=>hb C s H ex) hs (λ_ _ _ _ _ _=>trivial) I (λa H'=>D.nx (σ.set i (some (.ref a))) H') (λa C H' s4 m J4 fC hn q=>?_) h) (λ_ s' hq=>wpAny_pure (wpAny_pure hq)) λ_ _ e=>e)
 obtain⟨f0,f1,f2,f3,f4,f5⟩:=fC;refine wpAny_assign_Name (sB J4 hN hy hx (v:=.ref a) rfl (λs5 I5 hsame=>?_) hf);obtain⟨b,sb,hb'⟩:=hsame;have nb:C≠b:=λe=>by
  rcases hb' with z|z
  .exact f1 (e.trans z)
  .exact f4 _ _ z e.symm
 exact⟨m,hn.sameBut sb nb,λh' hsb=>⟨_,H',I5.turned (t':=s5.toks) (λb o hb e=>hsb.extBut b o hb e) f0 f1 f3 f4 f5,q⟩⟩
end
theorem Kh{cl:List (Str×Addr)}{N:List Str}{C:Addr}{s:Shared}{ex:List Addr}:(oG X scope cl N C s H ex).K=X.K:=rfl
mutual
def D.py:D->PyData
 | .non=>.none
 | .bl b=>.bool b
 | .int i=>.int i
 | .str x=>.str x
 | .dict=>.dict []
 | .tup ds=>.tuple (D.pys ds)
 | .lst ds=>.list (D.pys ds)
def D.pys:List D->List PyData
 | []=>[]
 | d::ds=>d.py::D.pys ds
end
def D.cmp(d:D):Prop:=d.py.canLay0=true/\d.py.depth<=30
def Co(d e:D):Bool:=PyData.eqv d.py e.py
section
variable {X:Cx}{pins:List (Addr×Obj)}{σ:St}{H:Hp}{s:Shared}
mutual
theorem aI.reads(I:aR X pins σ H s):∀(d:D)(v:V)(u:Value),aI (vw X.K H) d v->cw v u->d.py.canLay0=true -> ∃as,Reads s.heap u d.py as
 | .non,v,u,h,r,_=>by
  unfold aI at h;subst h;cases r;exact⟨_,by unfold D.py;exact .none⟩
 | .bl b,v,u,h,r,_=>by
  unfold aI at h;subst h;cases r;exact⟨_,by unfold D.py;exact .bool b⟩
 | .int i,v,u,h,r,_=>by
  unfold aI at h;subst h;obtain⟨t,rfl⟩:=r;exact⟨_,by unfold D.py;exact .int i t⟩
 | .str x,v,u,h,r,_=>by
  unfold aI at h;subst h;obtain⟨t,rfl⟩:=r;exact⟨_,by unfold D.py;exact .str x t⟩
 | .dict,v,u,h,r,hc=>by
  unfold D.py PyData.canLay0 at hc;cases hc
 | .tup ds,v,u,h,r,hc=>by
  obtain⟨a,xs,rfl,ha,rs⟩:=h.tup_at;cases r;unfold D.py at hc ⊢;obtain⟨its,rv,p,hz⟩:=I.tuple (hU ha);obtain⟨o,h1,h2,n,h3⟩:=p;obtain⟨as,ra⟩:=aF.reads I ds xs its rs rv (by unfold PyData.canLay0 at hc;exact hc)
  exact⟨_,.tuple h1 h2 h3 (by simpa using ra)⟩
 | .lst ds,v,u,h,r,hc=>by
  obtain⟨a,xs,rfl,ha,rs⟩:=h.lst_at;cases r;unfold D.py at hc ⊢;obtain⟨its,rv,p,hz⟩:=I.list (jx.of (K:=X.K) (aN ha));obtain⟨o,n,h1,h2,h3,h4⟩:=p;obtain⟨as,ra⟩:=aF.reads I ds xs its rs rv (by unfold PyData.canLay0 at hc;exact hc)
  exact⟨_,.list h1 h2 h4 (by simpa using ra)⟩
theorem aF.reads(I:aR X pins σ H s):∀(ds:List D)(xs:List V)(us:List Value),aF (vw X.K H) ds xs->bJ xs us->PyData.canLayAll0 (D.pys ds)=true -> ∃as,ReadsAll s.heap us (D.pys ds) as
 | [],xs,us,h,r,_=>by
  cases h.nil_at;cases r;exact⟨_,by unfold D.pys;exact .nil⟩
 | d::ds,xs,us,h,r,hc=>by
  obtain⟨x,ys,rfl,h1,h2⟩:=h.cons_at;cases r with
  | cons r1 r2 =>
   unfold D.pys PyData.canLayAll0 at hc;rw[YI] at hc;obtain⟨as,ra⟩:=aI.reads I d x _ h1 r1 hc.1;obtain⟨bs,rb⟩:=aF.reads I ds ys _ h2 r2 hc.2;exact⟨_,by unfold D.pys;exact .cons ra rb⟩
end
end
def E4(K:Sf)(neg:Bool):R2:=λx y H Q=>∃d e,aI (vw K H) d x/\aI (vw K H) e y/\d.cmp/\e.cmp/\Q (.bl (if neg then !Co d e else Co d e)) H
section
variable {X:Cx}
theorem gW(hu:X.A.units+64<cLine):eX X (compareOp .Eq) (E4 X.K false):=by
 intro pins s σ H x y v u Q I rx ry h;obtain⟨d,e,h1,h2,c1,c2,q⟩:=h;obtain⟨as,r1⟩:=aI.reads I d x v h1 rx c1.1;obtain⟨bs,r2⟩:=aI.reads I e y u h2 ry c2.1;exact SeqAt.compareEq_reads r1 r2 c1.1 c2.1 (by have:=c1.2;nofun) ⟨.bl _,H,I,rfl,q⟩
theorem sZ(hu:X.A.units+64<cLine):eX X (compareOp .NotEq) (E4 X.K true):=by
 intro pins s σ H x y v u Q I rx ry h;obtain⟨d,e,h1,h2,c1,c2,q⟩:=h;obtain⟨as,r1⟩:=aI.reads I d x v h1 rx c1.1;obtain⟨bs,r2⟩:=aI.reads I e y u h2 ry c2.1;exact SeqAt.compareNe_reads r1 r2 c1.1 c2.1 (by have:=c1.2;nofun) ⟨.bl _,H,I,rfl,q⟩
end
def kP(K:Sf)(H:Hp)(a:Addr)(xs:List V):Prop:=(K.lookup a=none/\Rd H a (.lst xs)) \/
 ∃(o:Obj)(its:Array Value)(n:Nat),K.lookup a=some o/\o.cls=.type "list" /\ o.dict=none/\o.data=.seq its n/\its.size<=sizeLine/\bJ xs its.toList
theorem kP.sq(h:kP K H a xs):jx K H a xs:=h.imp (λz=>z.2) λz=>z
theorem kP.of(h:jx K H a xs)(hk:H a≠none->K.lookup a=none):kP K H a xs:=by
 rcases h with h|h
 .refine .inl ⟨hk ?_,h⟩;rcases h with h|⟨o,h⟩<;>rw[h]<;>simp
 .exact .inr h
mutual
def D.flat:D->Bool
 | .lst _=>false
 | .tup ds=>D.flats ds
 | _=>true
def D.flats:List D->Bool
 | []=>true
 | d::ds=>d.flat && D.flats ds
end
section
variable {H H':Hp}{l:Addr}{xs:List V}
mutual
theorem aI.flat_but(hl:H l=some (.lst xs))(S:eJ l H H'):∀(d:D)(v:V),d.flat=true->aI H d v->aI H' d v
 | .non,v,_,h=>by unfold aI at h ⊢;exact h
 | .bl b,v,_,h=>by unfold aI at h ⊢;exact h
 | .int i,v,_,h=>by unfold aI at h ⊢;exact h
 | .str x,v,_,h=>by unfold aI at h ⊢;exact h
 | .dict,v,_,h=>by
  unfold aI at h ⊢;obtain⟨a,kvs,rfl,h⟩:=h;exact⟨a,kvs,rfl,S _ _ (λe=>by rw[e,hl] at h;cases h) h⟩
 | .tup ds,v,hf,h=>by
  obtain⟨a,ys,rfl,h,rs⟩:=h.tup_at;unfold D.flat at hf;exact .mk_tup (S _ _ (λe=>by rw[e,hl] at h;cases h) h) (aF.flat_but hl S ds ys hf rs)
 | .lst ds,v,hf,h=>by unfold D.flat at hf;cases hf
theorem aF.flat_but(hl:H l=some (.lst xs))(S:eJ l H H'):∀(ds:List D)(ys:List V),D.flats ds=true->aF H ds ys->aF H' ds ys
 | [],ys,_,h=>by cases h.nil_at;exact .mk_nil
 | d::ds,ys,hf,h=>by
  obtain⟨y,r,rfl,h1,h2⟩:=h.cons_at;unfold D.flats at hf;rw[YI] at hf;exact .mk_cons (aI.flat_but hl S d y hf.1 h1) (aF.flat_but hl S ds r hf.2 h2)
end
end
theorem ci(q:Int×Int):(fr q).flat=true:=by simp[fr,D.flat,D.flats]
theorem cE:∀(qs:Lt),D.flats (qs.map fr)=true
 | []=>by simp[D.flats]
 | q::qs=>by
  rw[YR];unfold D.flats;rw[ci,cE qs];rfl
theorem aF.app{H:Hp}:∀{ds es:List D}{xs ys:List V},aF H ds xs->aF H es ys->aF H (ds++es) (xs++ys)
 | [],es,xs,ys,h,g=>by cases h.nil_at;exact g
 | d::ds,es,xs,ys,h,g=>by
  obtain⟨x,r,rfl,h1,h2⟩:=h.cons_at;exact .mk_cons h1 (aF.app h2 g)
theorem aF.snoc{d:D}{x:V}(h:aF H ds xs)(g:aI H d x):aF H (ds++[d]) (xs++[x]):=h.app (.mk_cons g .mk_nil)
theorem aF.at{H:Hp}{ds:List D}{xs:List V}(h:aF H ds xs){i:Nat}{d:D}(hd:ds[i]? = some d):∃x,xs[i]? = some x/\aI H d x:=by
 have hi:i<ds.length:=(List.getElem?_eq_some_iff.mp hd).1;have hi':i<xs.length:=by rw[h.length];exact hi
 obtain⟨d',e,r⟩:=h.get (YU hi');rw[hd] at e;cases e;exact⟨_,YU hi',r⟩
theorem aF.take{H:Hp}:∀{ds:List D}{xs:List V}(n:Nat),aF H ds xs->aF H (ds.take n) (xs.take n)
 | ds,xs,0,h=>by simp;exact .mk_nil
 | [],xs,n+1,h=>by cases h.nil_at;exact .mk_nil
 | d::ds,xs,n+1,h=>by
  obtain⟨x,r,rfl,h1,h2⟩:=h.cons_at;exact .mk_cons h1 (h2.take n)
theorem aF.drop{H:Hp}:∀{ds:List D}{xs:List V}(n:Nat),aF H ds xs->aF H (ds.drop n) (xs.drop n)
 | ds,xs,0,h=>h
 | [],xs,n+1,h=>by cases h.nil_at;exact .mk_nil
 | d::ds,xs,n+1,h=>by
  obtain⟨x,r,rfl,h1,h2⟩:=h.cons_at;exact h2.drop n
def aP(G:Hp)(a:Addr)(qs:Lt):Prop:=∃xs,G a=some (.lst xs)/\aF G (qs.map fr) xs
section
variable {G G':Hp}{a l:Addr}{qs:Lt}{xs:List V}
theorem aP.same(h:aP G a qs)(S:aB G G'):aP G' a qs:=by
 obtain⟨ys,h1,h2⟩:=h;exact⟨ys,S _ _ h1,h2.same S⟩
theorem aP.but(h:aP G a qs)(hl:G l=some (.lst xs))(hn:a≠l)(S:eJ l G G'):aP G' a qs:=by
 obtain⟨ys,h1,h2⟩:=h;exact⟨ys,S _ _ hn h1,aF.flat_but hl S _ _ (cE qs) h2⟩
theorem aP.rep(h:aP G a qs):aI G (.lst (qs.map fr)) (.ref a):=by
 obtain⟨ys,h1,h2⟩:=h;exact .mk_lst h1 h2
theorem aP.len(h:aP G a qs):el G a=some qs.length:=by
 obtain⟨ys,h1,h2⟩:=h;unfold el;rw[h1];simp only[h2.length,YF]
theorem aP.ne_st(h:aP G a qs)(hst:dz G st):a≠st:=by
 rintro rfl;obtain⟨ys,h1,h2⟩:=h;obtain⟨x,b,h3,_⟩:=hst;rw[h1] at h3;cases h3;cases qs with
 | nil=>cases h2.nil_at
 | cons q qs =>
  obtain⟨y,r,e,h4,h5⟩:=aF.cons_at h2;cases e;obtain⟨c,e,_⟩:=h4.fr_at;cases e
theorem aP.stBut(h:aP G a qs)(hst:dz G st)(S:eJ st G G'):aP G' a qs:=by
 obtain⟨x,b,h3,_⟩:=hst;exact h.but h3 (h.ne_st ⟨x,b,h3,by assumption⟩) S
theorem dz.but(h:dz G st)(hl:G l=some (.lst xs))(hn:st≠l)(S:eJ l G G'):dz G' st:=by
 obtain⟨x,b,h3,h4⟩:=h;exact⟨x,b,S _ _ hn h3,h4⟩
end
theorem As{CX:wT}{P:Program}{w:World}{mg:Str->Option Value}{base:Heap}{N:List Str}{qual:Str}{f:Addr}{cd:Value}{outer:List Env}{s:Shared}{E:XK}:
  (gd CX P w K mg base N qual scope f cd A outer s H E).nox.K=K:=rfl
def Ci(t u:TS):TS:=λD σ H=>∃R:St->Hp->Prop,(∀σ' H',R σ' H'->u D σ' H')/\t { D with nx:=R } σ H
theorem Ci.mk{t u:TS}{D:oZ}{σ:St}(R:St->Hp->Prop)(h1:t { D with nx:=R } σ H)(h2:∀σ' H',R σ' H'->u D σ' H'):Ci t u D σ H:=⟨R,h2,h1⟩
theorem EN{st:Stmt}{rest:List Stmt}{t u:TS}(h1:PS X st t)(h2:uW X rest u):uW X (st::rest) (Ci t u):=by
 rintro pins s σ H D I ⟨R,hR,h⟩;refine wpAny_execs_cons (dc (h1 pins s σ H { D with nx:=R } I h) λf s1 q=>?_)
 cases f with
 | next =>
  obtain⟨σ',H',I',q⟩:=q;exact h2 pins s1 σ' H' D I' (hR _ _ q)
 | ret v=>exact q
 | brk=>exact q
 | cont=>exact q
def qb(J:It)(H:Hp)(its:List V):Prop:=(∀i,i<its.length->J.go i H)/\(∀i x H',i<its.length->J.yld i H x H'->H'=H/\its[i]? = some x)/\J.stop its.length H
def eF(lo:Int)(n:Nat):List V:=(List.range n).map λ(k:Nat)=>V.int (lo+k)
theorem aU{lo:Int}:qb (J0 lo n) H (eF lo n):=by
 refine⟨λi hi=>by show i<n;simpa [eF] using hi,λi x H' hi y=>⟨y.1,?_⟩,by show n<=(eF lo n).length;simp[eF]⟩
 have hi':i<n:=by simpa [eF] using hi
 rw[y.2];simp[eF,hi']
theorem bK(h:vw K H a=some (.lst xs)):qb (Lw K a) H xs :=
 ⟨λi hi=>⟨xs,xs[i],.of (aN h),by simp[hi]⟩,λi x H' _ y=>⟨y.1,y.2 xs (.of (aN h))⟩,⟨xs,.of (aN h),Yr _⟩⟩
theorem bY{J:It}{its:List V}{tb:TS}{D:oZ}{σ:St}(Pv:Nat->St->Hp->Prop)(hl:∀i σ H,i<=its.length->Pv i σ H->qb J H its)(h0:Pv 0 σ H)
  (hs:∀i x σ H,i<its.length->its[i]? = some x->Pv i σ H->g x σ H λσ2 H2=>tb { D with nx:=Pv (i+1),ct:=Pv (i+1),bk:=D.nx } σ2 H2)(hd:∀σ H,Pv its.length σ H->D.nx σ H):zp J g tb D σ H:=by
 refine⟨λi m σ H=>m=its.length-i/\i<=its.length/\Pv i σ H,⟨its.length,by simp,YO _,h0⟩,?_⟩
 rintro i m σ H ⟨rfl,hi,p⟩;obtain⟨q1,q2,q3⟩:=hl i σ H hi p;by_cases hlt:i<its.length
 .refine .inr ⟨q1 i hlt,Pv (i+1),λσ' H' p'=>⟨its.length-(i+1),(),rfl,hlt,p'⟩,λx H' y=>?_⟩;obtain⟨e,y2⟩:=q2 i x H' hlt y;subst e;exact hs i x σ _ hlt y2 p
 .have e:i=its.length:=();subst e;exact .inl ⟨q3,hd σ H p⟩
def CN(K:Sf)(a:Addr)(σr:St)(Pv:List V->Hp->Prop):St->Hp->Prop:=λσ H=>(∃y,σ=y::σr) /\ ∃xs,vw K H a=some (.lst xs)/\Pv xs H
def Iz(K:Sf)(a:Addr)(N:Hp->Prop):V->Hp->Prop:=λv H4=>∃xs,vw K H4 a=some (.lst xs)/\xs.length<sizeLine /\ ∀H5,eJ a (vw K H4) (vw K H5)->vw K H5 a=some (.lst (xs++[v]))->N H5
theorem bH{J:It}{its:List V}{tif:TT}{x0:Option V}{σr:St}{H0:Hp}{Q:Hp->Prop}(Pv:Nat->List V->Hp->Prop)
  (hl:∀i xs H,i<=its.length->vw K H a=some (.lst xs)->Pv i xs H->qb J H its)(ha:vw K H0 a=some (.lst []))(h0:Pv 0 [] H0)
  (hs:∀i x xs H,i<its.length->its[i]? = some x->vw K H a=some (.lst xs)->Pv i xs H->tif (some x::σr) H λb H3=>if b=true then te (some x::σr) H3 (Iz K a (CN K a σr (Pv (i+1)) (some x::σr))) else CN K a σr (Pv (i+1)) (some x::σr) H3)
  (hd:∀xs H,vw K H a=some (.lst xs)->Pv its.length xs H->Q H):oh K J (gj 0) tif te a (x0::σr) H0 Q:=by
 refine⟨λi m σ H=>m=its.length-i/\i<=its.length/\CN K a σr (Pv i) σ H,⟨its.length,by simp,YO _,⟨_,rfl⟩,_,ha,h0⟩,?_⟩
 rintro i m σ H ⟨rfl,hi,⟨y,rfl⟩,xs,hxs,p⟩;obtain⟨q1,q2,q3⟩:=hl i xs H hi hxs p;by_cases hlt:i<its.length
 .refine .inr ⟨q1 i hlt,CN K a σr (Pv (i+1)),λσ' H' p'=>⟨its.length-(i+1),(),rfl,hlt,p'⟩,λx H' y=>?_⟩;obtain⟨e,y2⟩:=q2 i x H' hlt y;subst e;exact hs i x xs _ hlt y2 hxs p
 .have e:i=its.length:=();subst e;exact .inl ⟨q3,hd xs H hxs p⟩
theorem Iz.mk{σr:St}{Pv:List V->Hp->Prop}{x:Option V}{v:V}(h:vw K H a=some (.lst xs))(hz:xs.length<sizeLine)
  (q:∀H5,eJ a (vw K H) (vw K H5)->vw K H5 a=some (.lst (xs++[v]))->Pv (xs++[v]) H5):Iz K a (CN K a σr Pv (x::σr)) v H:=⟨xs,h,hz,λH5 B h5=>⟨⟨_,rfl⟩,_,h5,q H5 B h5⟩⟩
theorem CN.mk{σr:St}{Pv:List V->Hp->Prop}{x:Option V}(h:vw K H a=some (.lst xs))(q:Pv xs H):CN K a σr Pv (x::σr) H:=⟨⟨_,rfl⟩,_,h,q⟩
theorem cW{lo:Int}{i:Nat}{x:V}(h:(eF lo n)[i]? = some x):i<n/\x=.int (lo+i):=by
 have hi:i<n:=by simpa [eF] using (List.getElem?_eq_some_iff.mp h).1
 simp[eF,hi] at h;exact⟨hi,h.symm⟩
theorem bU{lo:Int}:(eF lo n).length=n:=by simp[eF]
theorem uG{d:Nat}(h:k<=n):HT.sIx n d (some (k:Int))=k:=by
 unfold HT.sIx;simp only[Int.toNat_natCast];rw[Yc ()];nofun
theorem ut(h:k<=xs.length):i8 xs none (some (k:Int))=xs.take k:=by
 unfold i8;rw[uG h];simp[HT.sIx]
theorem mT(h:k<=xs.length):i8 xs (some (k:Int)) none=xs.drop k:=by
 unfold i8;rw[uG h];simp[HT.sIx];rw[List.take_of_length_le];simp
theorem fX{α:Type}{xs:List α}{x:α}(h:xs.getLast? = some x):oY xs (-1)=some x:=by
 obtain⟨ys,rfl⟩:=List.getLast?_eq_some_iff.mp h;exact ie ys x
def F3(K:Sf)(neg:Bool):R2:=λx y H Q=>∃p q,x=.ref p/\y=.ref q /\ ∃xs,vw K H p=some (.lst xs)/\vw K H q=some (.lst [])/\Q (.bl (if neg then !xs.isEmpty else xs.isEmpty)) H
section
variable {X:Cx}
theorem qQ(hu:X.A.units<cLine):eX X (compareOp .Eq) (F3 X.K false):=by
 intro pins s σ H x y v u Q I rx ry h;obtain⟨p,q,rfl,rfl,xs,h1,h2,k⟩:=h;cases rx;cases ry;obtain⟨its,r,⟨o,n,e1,e2,e3,e4⟩,_⟩:=I.list (jx.of (K:=X.K) (aN h1));obtain⟨its2,r2,⟨o2,n2,f1,f2,f3,f4⟩,_⟩:=I.list (jx.of (K:=X.K) (aN h2));cases r2;have fin:EP X pins σ Q (.bool xs.isEmpty) s:=⟨.bl _,H,I,rfl,k⟩;cases xs with
 | nil =>
  cases r;exact SeqAt.RcAt.lists (e:=λ_=>true) ⟨_,e1,e2,_,e4⟩ ⟨_,f1,f2,_,f4⟩ rfl hu (λj h1=>absurd h1 (by simp)) _ _ _ _ fin
 | cons x xs =>
  cases r;exact SeqAt.RcAt.lists_lengths ⟨_,e1,e2,_,e4⟩ ⟨_,f1,f2,_,f4⟩ (by simp) hu _ _ _ _ fin
theorem BN(hu:X.A.units<cLine):eX X (compareOp .NotEq) (F3 X.K true):=by
 intro pins s σ H x y v u Q I rx ry h;obtain⟨p,q,rfl,rfl,xs,h1,h2,k⟩:=h;cases rx;cases ry;obtain⟨its,r,⟨o,n,e1,e2,e3,e4⟩,_⟩:=I.list (jx.of (K:=X.K) (aN h1));obtain⟨its2,r2,⟨o2,n2,f1,f2,f3,f4⟩,_⟩:=I.list (jx.of (K:=X.K) (aN h2));cases r2;have fin:EP X pins σ Q (.bool !xs.isEmpty) s:=⟨.bl _,H,I,rfl,k⟩;cases xs with
 | nil =>
  cases r;exact SeqAt.RcNeAt.lists (e:=λ_=>true) ⟨_,e1,e2,_,e4⟩ ⟨_,f1,f2,_,f4⟩ rfl hu (λj h1=>absurd h1 (by simp)) _ _ _ _ fin
 | cons x xs =>
  cases r;exact SeqAt.RcNeAt.lists_lengths ⟨_,e1,e2,_,e4⟩ ⟨_,f1,f2,_,f4⟩ (by simp) hu _ _ _ _ fin
end
theorem dE.ul(r:dE k A):A.units<cLine:=by have:=r.un;nofun
theorem dE.u64(r:dE k A):A.units+64<cLine:=by have:=r.un;nofun
theorem nV(p q:Int×Int):Co (fr p) (fr q)=decide (p=q):=by
 unfold Co fr D.py D.pys D.pys D.pys D.py;simp only[PyData.eqv,PyData.eqvAll];rw[Bool.eq_iff_iff];simp[Prod.ext_iff]
theorem fe(q:Int×Int):(fr q).cmp:=by
 unfold D.cmp fr D.py D.pys D.pys D.pys D.py;exact⟨rfl,Nat.le_of_ble_eq_true rfl⟩
def GT(K:Sf)(mg:Str->Option Value)(x:Str)(xs:List V):Prop:=∃a,mg x=some (.ref a) /\ ∀H,vw K H a=some (.tup xs)
theorem GT.mk{mg:Str->Option Value}{x:Str}{o:Obj}(h:mg x=some (.ref a))(hl:K.lookup a=some o)(hk:yb o=some (.tup xs)):GT K mg x xs :=
 ⟨a,h,λH=>by unfold vw;rw[hl];exact hk⟩
theorem aF.last(h:aF H ds xs){d:D}(hd:ds.getLast? = some d):∃x,xs.getLast? = some x/\aI H d x:=by
 rw[Y1] at hd;obtain⟨x,e,r⟩:=h.at hd;rw[<-h.length,<-Y1] at e;exact⟨x,e,r⟩
theorem bI{i j:Int}(h:H a=some (.tup [.int i,.int j])):aI H (fr (i,j)) (.ref a):=.mk_tup h (.mk_cons (.mk_int _) (.mk_cons (.mk_int _) .mk_nil))
def lK(ds:List D):Bool:=match ds.getLast? with
 | some (.tup [.int 0,.int 1])=>false
 | _=>true
def D.poly:D->Bool
 | .lst ds=>ds.all D.frac && lK ds
 | _=>false
theorem rR{q:Int×Int}(h:ds.getLast? = some (fr q)):lK ds = !decide (q=(0,1)):=by
 unfold lK;rw[h];obtain⟨a,b⟩:=q;unfold fr;simp only[Prod.mk.injEq];split
 .rename_i e
  simp only[Option.some.injEq,D.tup.injEq,List.cons.injEq,D.int.injEq,and_true] at e;simp[e]
 .rename_i e
  by_cases h1:a=0
  .by_cases h2:b=1
   .subst h1 h2;exact absurd rfl e
   .simp[h2]
  .simp[h1]
theorem D.frac_fr{d:D}(h:d.frac=true):∃q,d=fr q/\Fq q:=by
 cases d with
 | tup ds =>
  obtain⟨a,b,rfl,hq⟩:=D.frac_tup h;exact⟨(a,b),rfl,hq⟩
 | _=>unfold D.frac at h;cases h
theorem yk(h:ds.all D.frac=true)(hn:ds≠[]):∃q,ds.getLast? = some (fr q)/\Fq q:=by
 obtain⟨d,hd⟩:=Option.isSome_iff_exists.mp (by rw[List.getLast?_isSome];exact hn:ds.getLast?.isSome=true)
 obtain⟨q,rfl,hq⟩:=D.frac_fr (List.all_eq_true.mp h d (List.mem_of_getLast? hd));exact⟨q,hd,hq⟩
theorem aF.repl{H:Hp}{d:D}{x:V}(h:aI H d x):∀n,aF H (List.replicate n d) (List.replicate n x)
 | 0=>.mk_nil
 | n+1=>.mk_cons h (aF.repl h n)
theorem zD{qs:Lt}(h:∀q∈qs,Fq q)(hl:∀q,qs.getLast? = some q->q.1≠0):(D.lst (qs.map fr)).poly=true:=by
 show ((qs.map fr).all D.frac && lK (qs.map fr))=true;rw[YI];refine⟨List.all_eq_true.mpr λd hd=>?_,?_⟩
 .obtain⟨q,hq,rfl⟩:=List.mem_map.mp hd;exact frac_fr (h q hq)
 .cases e:qs.getLast? with
  | none =>
   unfold lK;rw[List.getLast?_map,e];rfl
  | some q =>
   rw[rR (q:=q) (by rw[List.getLast?_map,e];rfl)]
   have:=hl q e;simp;rintro rfl;exact this rfl
theorem aB.rfl:aB H H:=λ_ _ z=>z
end L2
set_option autoImplicit true
namespace L2
open PySem PySem.Spec PyProof.Rows
variable {x:Str}{v:V}{c tg a:Expr}{i k n x1 m:Nat}{g:TG}{xs ys:List V}{P:Program}{w:World}{K:Sf}{pos:Pos}{X:Cx}{p:Int×Int}{ta:TA}{σ:St}{H:Hp}{te:TE}{b:Int}{Q:Value->Shared->Prop}{h h':Heap}{l:Addr}{qs:Lt}{α:Type}{ns:List Int}
structure QE (X:Cx)(e:Expr)(t:TE):Prop where
 h:PE X e t
structure QT (X:Cx)(e:Expr)(t:TT):Prop where
 h:PT X e t
structure QW (X:Cx)(e:Expr)(t:TT):Prop where
 h:PW X e t
structure QA (X:Cx)(e:List Expr)(t:TA):Prop where
 h:PA X e t
structure QS (X:Cx)(e:Stmt)(t:TS):Prop where
 h:PS X e t
structure xq (X:Cx)(e:List Stmt)(t:TS):Prop where
 h:uW X e t
structure QG (X:Cx)(e:Expr)(t:TG):Prop where
 h:PG X e t
structure Lo (X:Cx)(e:List Expr)(t:Be):Prop where
 h:JW X e t
structure QF (X:Cx)(e:List Expr)(t:TT):Prop where
 h:PF X e t
structure QO (X:Cx)(e:Option Expr)(t:TO):Prop where
 h:PO X e t
structure QI (X:Cx)(tg e:Expr)(t:TI):Prop where
 h:PI X tg e t
section
variable {X:Cx}{pos p p2 apos cpos pos':Pos}{a b e o l:Expr}{es rest:List Expr}{te ta tb to:TE}{tA tB':TT}{st:Stmt}{rest':List Stmt}{lo hi:Option Expr}{id:String}
theorem iz  {b j pos}:QE X (.Constant (.bool b) j pos) (tC (.bl b)):=⟨KM ⟩
theorem af  {i j pos}:QE X (.Constant (.int i) j pos) (tC (.int i)):=⟨Jr ⟩
theorem km  {j pos}:QE X (.Constant .none j pos) (tC .non):=⟨Hn ⟩
theorem fI  {x j pos}:QE X (.Constant (.str x) j pos) (tC (.str x)):=⟨Io ⟩
theorem cC{u:Value}(hg:Gl X x)(hm:X.mg x=some u)(r:cw v u)(hd:(x==("__debug__":Str))=false:=by decide):QE X (.Name x pos) (tC v):=⟨FE (hg:=hg) (hm:=hm) (r:=r) (hd:=hd)⟩
theorem dZ{u:Value}(hg:Gl X x)(hm:X.mg x=none)(hv:bootBuiltins x=some u)(r:cw v u)(hn:x ≠ "__name__":=by decide)(hd:(x==("__debug__":Str))=false:=by decide):QE X (.Name x pos) (tC v):=⟨Es (hg:=hg) (hm:=hm) (hv:=hv) (r:=r) (hn:=hn) (hd:=hd)⟩
theorem aq{op:Operator}{r:R2}(ho:eX X (binaryOp op) r)(ha:QE X a ta)(hb:QE X b tb):QE X (.BinOp a op b pos) (F9 r ta tb):=⟨Le (ho:=ho) (ha:=ha.h) (hb:=hb.h)⟩
theorem dD{op:UnaryOp}{r:V->Hp->VK->Prop}(ho:Ln X (unaryOp op) r)(ha:QE X a ta):QE X (.UnaryOp op a pos) (Mc r ta):=⟨Kp (ho:=ho) (ha:=ha.h)⟩
theorem Jc(ha:QE X a ta):QE X (.UnaryOp .Not a pos) (zl ta):=⟨IP (ha:=ha.h)⟩
theorem lN(ha:QE X a ta)(hb:QE X (.BoolOp .And (b::rest) pos) tb):QE X (.BoolOp .And (a::b::rest) pos) (yF ta tb):=⟨IF (ha:=ha.h) (hb:=hb.h)⟩
theorem KG(ha:QE X a ta)(hb:QE X (.BoolOp .Or (b::rest) pos) tb):QE X (.BoolOp .Or (a::b::rest) pos) (EI ta tb):=⟨KW (ha:=ha.h) (hb:=hb.h)⟩
theorem jX  {op}{t:TE}(h:QE X a t):QE X (.BoolOp op [a] pos) t:=⟨Iu (h:=h.h)⟩
theorem du{op:CmpOp}{r:R2}(ho:eX X (compareOp op) r)(ha:QE X a ta)(hb:QE X b tb)(hm:behindInMarks op b=false):QE X (.Compare a [op] [b] pos) (F9 r ta tb):=⟨EC (ho:=ho) (ha:=ha.h) (hb:=hb.h) (hm:=hm)⟩
theorem mK(hc:QT X c tA)(ha:QE X a ta)(hb:QE X b tb):QE X (.IfExp c a b pos) (LP tA ta tb):=⟨BI (hc:=hc.h) (ha:=ha.h) (hb:=hb.h)⟩
theorem aT  {x1}(h:QA X es t):QE X (.Tuple es x1 pos) (vY X.K t):=⟨GE (h:=h.h)⟩
theorem aS(h:QA X es t):QE X (.List es pos) (CV X.K t):=⟨GG (h:=h.h)⟩
theorem eQ{r:V->Option Int->Option Int->Hp->VK->Prop}(hr:zP X r)(he:QE X e te)(hl:QO X lo tl)(hu:QO X hi th):QE X (.Subscript e (.Slice lo hi none p2) pos) (Mi r te tl th):=⟨C4 (hr:=hr) (he:=he.h) (hl:=hl.h) (hu:=hu.h)⟩
theorem fZ: QO X none uT:=⟨FK ⟩
theorem fG(h:QE X e te):QO X (some e) (zo te):=⟨Fm (h:=h.h)⟩
theorem aA{r:R2}(hr:wN X r)(ha:QE X a ta)(hb:QE X b tb)(hs:yJ b):QE X (.Subscript a b pos) (F9 r ta tb):=⟨Kx (hr:=hr) (ha:=ha.h) (hb:=hb.h) (hs:=hs)⟩
theorem ah(C:bV X.prog X.w X.K X.mg X.base x ps k sp)(hr:dE k X.A)(hg:Gl X x)(ha:QA X (e::es) t)(hdb:(x==("__debug__":Str))=false:=by decide)(he:starEach (e::es) X.env=(false,eval e X.env)::starEach es X.env:=by rfl)(hpl:(backTo pos (starEach es X.env)).any (·.1)=false:=by rfl):
  QE X (.Call (.Name x p) (e::es) [] pos) (FJ sp t):=⟨Jm (C:=C) (hr:=hr) (hg:=hg) (ha:=ha.h) (hdb:=hdb) (he:=he) (hpl:=hpl)⟩
theorem Sd(C:bV X.prog X.w X.K X.mg X.base x ps k sp)(ha:QA X (e::es) t)(hr:dE k X.A:=by exact hr.mono (by walk_at "a2"))(hg:Gl X x:=by exact rfl)(hdb:(x==("__debug__":Str))=false:=by decide)(he:starEach (e::es) X.env=(false,eval e X.env)::starEach es X.env:=by rfl)(hpl:(backTo pos (starEach es X.env)).any (·.1)=false:=by rfl):
  QE X (.Call (.Name x p) (e::es) [] pos) (FJ sp t):=ah (C:=C) (hr:=hr) (hg:=hg) (ha:=ha) (hdb:=hdb) (he:=he) (hpl:=hpl)
theorem ai(hc:ei X (.builtin id) r)(hg:Gl X x)(hm:X.mg x=none)(hv:bootBuiltins x=some (.builtin id))(ha:QA X (e::es) t)(hn:x ≠ "__name__":=by decide)(hdb:(x==("__debug__":Str))=false:=by decide)(he:starEach (e::es) X.env=(false,eval e X.env)::starEach es X.env:=by rfl)(hpl:(backTo pos (starEach es X.env)).any (·.1)=false:=by rfl):QE X (.Call (.Name x p) (e::es) [] pos) (ED r t):=⟨Bn (hc:=hc) (hg:=hg) (hm:=hm) (hv:=hv) (ha:=ha.h) (hn:=hn) (hdb:=hdb) (he:=he) (hpl:=hpl)⟩
theorem fD(hc:ei X (.type T) r)(hg:Gl X x)(hm:X.mg x=none)(hv:bootBuiltins x=some (.type T))(ha:QA X (e::es) t)(hn:x ≠ "__name__":=by decide)(hdb:(x==("__debug__":Str))=false:=by decide)(he:starEach (e::es) X.env=(false,eval e X.env)::starEach es X.env:=by rfl)(hpl:(backTo pos (starEach es X.env)).any (·.1)=false:=by rfl):QE X (.Call (.Name x p) (e::es) [] pos) (ED r t):=⟨AW (hc:=hc) (hg:=hg) (hm:=hm) (hv:=hv) (ha:=ha.h) (hn:=hn) (hdb:=hdb) (he:=he) (hpl:=hpl)⟩
theorem pX(pa:PlainAttrs T)(slot:Slot T name id)(hty:typeOf (.builtin id)=pure (.type "method_descriptor"))(hm:Lj X id r)(ho:QE X o to)(ha:QA X (e::es) t)(hbase:attributeBase o name X.env (eval o X.env)=eval o X.env:=by rfl)(hfew:((backTo cpos (starEach (e::es) X.env)).all (λx=>!x.1) && (backToKw cpos (keywordEach [] X.env)).all (λx=>x.1.isSome)
   && decide ((e::es).length+([]:List Keyword).length+(if ([]:List Keyword).isEmpty then 0 else 1)<30))=true:=by rfl) (hline:(apos.endLine==cpos.line)=true:=by rfl)(hs:starEach (e::es) X.env=(false,eval e X.env)::starEach es X.env:=by rfl)(hplain:(backTo cpos (starEach es X.env)).any (·.1)=false:=by rfl) :
  QE X (.Call (.Attribute o name apos) (e::es) [] cpos) (LJ X.K T r to t):=⟨KB (pa:=pa) (slot:=slot) (hty:=hty) (hm:=hm) (ho:=ho.h) (ha:=ha.h) (hbase:=hbase) (hfew:=hfew) (hline:=hline) (hs:=hs) (hplain:=hplain)⟩
theorem BP(pa:PlainAttrs T)(slot:Slot T name id)(hty:typeOf (.builtin id)=pure (.type "method_descriptor"))(hm:Lj X id r)(ho:QE X o to)(hbase:attributeBase o name X.env (eval o X.env)=eval o X.env:=by rfl)(hline:(apos.endLine==cpos.line)=true:=by rfl):QE X (.Call (.Attribute o name apos) [] [] cpos) (IG X.K T r to):=⟨I0 (pa:=pa) (slot:=slot) (hty:=hty) (hm:=hm) (ho:=ho.h) (hbase:=hbase) (hline:=hline)⟩
theorem ac: QA X [] At:=⟨IQ ⟩
theorem aa(ha:QE X e te)(hr:QA X es t)(hs:starEach (e::es) X.env=(false,eval e X.env)::starEach es X.env:=by rfl):QA X (e::es) (md te t):=⟨GB (ha:=ha.h) (hr:=hr.h) (hs:=hs)⟩
theorem aD{op:CmpOp}{r:R2}(ho:eX X (compareOp op) r)(ha:QE X a ta)(hb:QE X b tb)(hm:behindInMarks op b=false):QT X (.Compare a [op] [b] pos) (sf (F9 r ta tb)):=⟨E9 (ho:=ho) (ha:=ha.h) (hb:=hb.h) (hm:=hm)⟩
theorem dX(ha:QT X a tA):QT X (.UnaryOp .Not a pos) (IE tA):=⟨HY (ha:=ha.h)⟩
theorem QW.pt{X:Cx}{e:Expr}{t:TT}(h:QW X e t):QT X e t:=⟨PW.pt (h:=h.h)⟩
theorem i0(ha:QT X a tA):QW X (.BoolOp .And [a] pos) tA:=⟨Et (ha:=ha.h)⟩
theorem lC(ha:QT X a tA)(hb:QW X (.BoolOp .And (b::rest) pos) tB'):QW X (.BoolOp .And (a::b::rest) pos) (HV tA tB'):=⟨JU (ha:=ha.h) (hb:=hb.h)⟩
theorem ig(ha:QT X a tA):QW X (.BoolOp .Or [a] pos) tA:=⟨Jf (ha:=ha.h)⟩
theorem gN(ha:QT X a tA)(hb:QW X (.BoolOp .Or (b::rest) pos) tB'):QW X (.BoolOp .Or (a::b::rest) pos) (Mg tA tB'):=⟨KZ (ha:=ha.h) (hb:=hb.h)⟩
theorem fF(ha:QE X a ta)(he:∀whole,isTrue a X.env whole=(do let v <-whole;standAt a.pos;holding [v] (truthy v))):
  QT X a (λσ H Q=>ta σ H λx H'=>∃k,vG X.K x H' k/\Q k H'):=⟨De (ha:=ha.h) (he:=he)⟩
theorem eH{t:TE}(h:QE X e t)(he:∀whole,isTrue e X.env whole=(do let v <-whole;standAt e.pos;holding [v] (truthy v)):=by intro _;rfl):QT X e (tB t):=⟨Jn (h:=h.h) (he:=he)⟩
theorem am(hN:X.N.Nodup)(hi:X.N[i]? = some x)(hx:Eh X.env.scope x)(hf:X.fn x=true\/X.env.scope.names.lookup x=some .local:=by first|walk_at "a1"|assumption):QG X (.Name x pos) (gj i):=⟨Gx (hN:=hN) (hi:=hi) (hx:=hx) (hf:=hf)⟩
theorem L3(hN:X.N.Nodup:=by assumption)(hi:X.N[i]? = some x:=by exact rfl)(hx:Eh X.env.scope x:=by walk_at "a1")(hf:X.fn x=true\/X.env.scope.names.lookup x=some .local:=by first|walk_at "a1"|assumption):QG X (.Name x pos) (gj i):=am (hN:=hN) (hi:=hi) (hx:=hx) (hf:=hf)
theorem aY{t:Be}(hc:X.calm=true)(h:Lo X es t)(hn:(assignEach es X.env).length=n:=by rfl)(hst:(assignEach es X.env).findIdx? (·.1)=none:=by rfl):QG X (.Tuple es k pos) (jw X.K n t):=⟨Fi (hc:=hc) (h:=h.h) (hn:=hn) (hst:=hst)⟩
theorem aX: Lo X [] wk:=⟨Fn ⟩
theorem au{t:TG}{u:Be}(h1:QG X e t)(h2:Lo X es u)(hs:(assignEach (e::es) X.env).map (·.2)=assign e X.env::(assignEach es X.env).map (·.2):=by rfl):Lo X (e::es) (jH t u):=⟨Dy (h1:=h1.h) (h2:=h2.h) (hs:=hs)⟩
theorem nZ{i:Expr}{ti:TE}{t:wW}(ho:QE X o to)(hi:QE X i ti)(hs:Aq X t)(ha:∀v,assign (.Subscript o i pos) X.env v=(do
   let ov <-holding [v] (eval o X.env)
   let iv <-holding [v,ov] (eval i X.env)
   standAt pos
   holding [v,ov,iv] (setItem ov iv v)
   release [v,ov,iv] []):=by intro _;rfl):QG X (.Subscript o i pos) (Ij to ti t):=⟨Jg (ho:=ho.h) (hi:=hi.h) (hs:=hs) (ha:=ha)⟩
theorem cn{ta:TA}(hg:Gl X "range")(hm:X.mg "range"=none)(ha:QA X [a] ta)(hs:starEach [a] X.env=[(false,eval a X.env)]:=by rfl):QI X tg (.Call (.Name "range" p) [a] [] pos) (yI ta):=⟨Ad (hg:=hg) (hm:=hm) (ha:=ha.h) (hs:=hs)⟩
theorem ny{ta:TA}(hg:Gl X "range")(hm:X.mg "range"=none)(ha:QA X [a,b] ta)(hs:starEach [a,b] X.env=[(false,eval a X.env),(false,eval b X.env)]:=by rfl)(hs2:starEach [b] X.env=[(false,eval b X.env)]:=by rfl):
  QI X tg (.Call (.Name "range" p) [a,b] [] pos) (Eg ta):=⟨AY (hg:=hg) (hm:=hm) (ha:=ha.h) (hs:=hs) (hs2:=hs2)⟩
theorem cV{tl:TE}(hl:QE X l tl):QI X tg l (zc X.K tl):=⟨Ff (hl:=hl.h)⟩
theorem av(he:QE X e te):QS X (.Return (some e) pos) (JF te):=⟨JB (he:=he.h)⟩
theorem iu(he:QE X e te)(hs:swapsWith e none pos.line X.env=pure false:=by rfl):QS X (.Expr e pos) (Cc te):=⟨F7 (he:=he.h) (hs:=hs)⟩
theorem bQ{a b:List Stmt}{tc:TT}(hc:QT X c tc)(ha:xq X a t)(hb:xq X b u):QS X (.If c a b pos) (HL tc t u):=⟨KJ (hc:=hc.h) (ha:=ha.h) (hb:=hb.h)⟩
theorem gk{body:List Stmt}{tc:TT}{tb:TS}(hp:PassesOwn (model X.prog X.w) X.A X.env X.xe)(hc:QT X c tc)(hb:xq X body tb):QS X (.While c body [] pos) (DM tc tb):=⟨CH (hp:=hp) (hc:=hc.h) (hb:=hb.h)⟩
theorem cL{iter:Expr}{body:List Stmt}{wi:TI}{tb:TS}(hp:PassesOwn (model X.prog X.w) X.A X.env X.xe)(hc:X.calm=true)(hi:QI X tg iter wi)(hg:QG X tg g)(hb:xq X body tb)(hs:∀x,foldedSetIterable iter X.env x=pure x:=by intro _;rfl):QS X (.For tg iter body [] pos) (Ix wi g tb):=⟨HJ (hp:=hp) (hc:=hc) (hi:=hi.h) (hg:=hg.h) (hb:=hb.h) (hs:=hs)⟩
theorem aw(hN:X.N.Nodup)(hi:X.N[i]? = some x)(hx:Eh X.env.scope x)(he:QE X e te)(hs:swapsWith e (some (.Name x pos')) pos.line X.env=pure false:=by rfl)(hf:X.fn x=true\/X.env.scope.names.lookup x=some .local:=by first|walk_at "a1"|assumption):
  QS X (.Assign [.Name x pos'] e pos) (wQ te (gj i)):=⟨Ik (hN:=hN) (hi:=hi) (hx:=hx) (he:=he.h) (hs:=hs) (hf:=hf)⟩
theorem L4(he:QE X e te)(hN:X.N.Nodup:=by assumption)(hi:X.N[i]? = some x:=by exact rfl)(hx:Eh X.env.scope x:=by walk_at "a1")(hs:swapsWith e (some (.Name x pos')) pos.line X.env=pure false:=by rfl)(hf:X.fn x=true\/X.env.scope.names.lookup x=some .local:=by first|walk_at "a1"|assumption):
  QS X (.Assign [.Name x pos'] e pos) (wQ te (gj i)):=aw (hN:=hN) (hi:=hi) (hx:=hx) (he:=he) (hs:=hs) (hf:=hf)
theorem uD{j:Nat}{y:Str}{ta:TA}{px py pt:Pos}{kt k2 pt2}(hc:X.calm=true)(hN:X.N.Nodup)(hi:X.N[i]? = some x)(hj:X.N[j]? = some y)(hij:i≠j)(hx:X.env.scope.names.lookup x=some .local)(hy:X.env.scope.names.lookup y=some .local)(ha:QA X [a,b] ta)(hw:swappedStores [.Tuple [.Name x px,.Name y py] kt pt] (.Tuple [a,b] k2 pt2) X.env=pure (some [x,y]))(hs:swapsWithSole [.Tuple [.Name x px,.Name y py] kt pt] (.Tuple [a,b] k2 pt2) pos.line X.env=pure false:=by rfl):
  QS X (.Assign [.Tuple [.Name x px,.Name y py] kt pt] (.Tuple [a,b] k2 pt2) pos) (En i j ta):=⟨IH (hc:=hc) (hN:=hN) (hi:=hi) (hj:=hj) (hij:=hij) (hx:=hx) (hy:=hy) (ha:=ha.h) (hw:=hw) (hs:=hs)⟩
theorem cJ(he:QE X e te)(hg:QG X tg g)(hs:swapsWithSole [tg] e pos.line X.env=pure false:=by rfl)(hw:swappedStores [tg] e X.env=pure none:=by rfl)(h1:(assignEach [tg] X.env).map (·.2)=[assign tg X.env]:=by rfl):QS X (.Assign [tg] e pos) (wQ te g):=⟨Iy (he:=he.h) (hg:=hg.h) (hs:=hs) (hw:=hw) (h1:=h1)⟩
theorem kh{op:Operator}{ti:Ek}(hN:X.N.Nodup)(hi:X.N[i]? = some x)(hx:Eh X.env.scope x)(he:QE X e te)(ho:G3 X op ti)(hf:X.fn x=true\/X.env.scope.names.lookup x=some .local:=by first|walk_at "a1"|assumption):
  QS X (.AugAssign (.Name x pos') op e pos) (JA i te ti):=⟨Hs (hN:=hN) (hi:=hi) (hx:=hx) (he:=he.h) (ho:=ho) (hf:=hf)⟩
theorem lU{i:Expr}{ti:TE}{tget:V->V->Hp->VK->Prop}{tip:Ek}{tset:wW}{op:Operator}{tpos:Pos}(ho:QE X o to)(hi:QE X i ti)(hg:HW X tget)(he:QE X e te)(hp:G3 X op tip)(hs:Aq X tset)(ha:∀ov iv new,augStore i ov iv new=(do holding [new,ov,iv] (setItem ov iv new);release [new,ov,iv] [];pure .next):=by intros;rfl):QS X (.AugAssign (.Subscript o i tpos) op e pos) (qg to ti te tget tip tset):=⟨FY (ho:=ho.h) (hi:=hi.h) (hg:=hg) (he:=he.h) (hp:=hp) (hs:=hs) (ha:=ha)⟩
theorem aL: xq X [] Bo:=⟨EX ⟩
theorem ag(h1:QS X st t):xq X [st] t:=⟨FI (h1:=h1.h)⟩
theorem ae(h1:QS X st t)(h2:xq X rest' u):xq X (st::rest') (aK t u):=⟨Ds (h1:=h1.h) (h2:=h2.h)⟩
theorem FX{t u:TS}(h1:QS X st t)(h2:xq X rest' u):xq X (st::rest') (Ci t u):=⟨EN (h1:=h1.h) (h2:=h2.h)⟩
theorem cY:QF X [] Gu:=⟨HI ⟩
theorem C6{t:TT}(h:QT X c t):QF X [c] t:=⟨HK (h:=h.h)⟩
theorem qv(i:Nat){x:Str}{pos:Pos}(hN:X.N[i]? = some x:=by rfl)(hv:Ht X.env.scope x:=by first|exact Or.inl rfl|exact Or.inr (Or.inl rfl)|exact Or.inr (Or.inr rfl))(hd:(x==("__debug__":Str))=false:=by decide)(hcd:(x==("__classdict__":Str))=false:=by decide):QE X (.Name x pos) (FC i):=⟨pv (i:=i) (hN:=hN) (hv:=hv) (hd:=hd) (hcd:=hcd)⟩
theorem cR{iter elt:Expr}{ifs:List Expr}{scope:Scope}{wi:TI}{tif:TT}{cl:List (Str×Addr)}{own outs:List Str}{ixs:List Nat}
  (hc:X.calm=true)(hi:QI X tg iter wi)(hclos:closureFor scope X.env=pure cl)(S:pT X scope cl own outs ixs)
  (hb:∀C s H ex,QG (oG X scope cl (own++outs) C s H ex) tg g/\QF (oG X scope cl (own++outs) C s H ex) ifs tif/\QE (oG X scope cl (own++outs) C s H ex) elt te)
  (hs:∀x,foldedSetIterable iter X.env x=pure x:=by intro _;rfl):QE X (.ListComp elt [⟨tg,iter,ifs,0⟩] scope pos) (vV X.K wi own.length ixs g tif te) :=
 ⟨Gp hc hi.h hclos S (λC s H ex=>⟨(hb C s H ex).1.h,(hb C s H ex).2.1.h,(hb C s H ex).2.2.h⟩) hs⟩
theorem lS{iter elt:Expr}{ifs:List Expr}{scope:Scope}{spos py:Pos}{y:Str}{wi:TI}{tif:TT}{cl:List (Str×Addr)}{own outs:List Str}{ixs:List Nat}
  (hN:X.N.Nodup)(hy:X.N[i]? = some y)(hx:Eh X.env.scope y)(hc:X.calm=true)(hi:QI X tg iter wi)(hclos:closureFor scope X.env=pure cl)(S:pT X scope cl own outs ixs)
  (hb:∀C s H ex,QG (oG X scope cl (own++outs) C s H ex) tg g/\QF (oG X scope cl (own++outs) C s H ex) ifs tif/\QE (oG X scope cl (own++outs) C s H ex) elt te)
  (hsw:swapsWith (.ListComp elt [⟨tg,iter,ifs,0⟩] scope pos) (some (.Name y py)) spos.line X.env=pure true:=by rfl)
  (hs:∀x,foldedSetIterable iter X.env x=pure x:=by intro _;rfl)(hf:X.fn y=true\/X.env.scope.names.lookup y=some .local:=by first|walk_at "a1"|assumption) :
  QS X (.Assign [.Name y py] (.ListComp elt [⟨tg,iter,ifs,0⟩] scope pos) spos) (wQ (vV X.K wi own.length ixs g tif te) (gj i)) :=
 ⟨Ey hN hy hx hc hi.h hclos S (λC s H ex=>⟨(hb C s H ex).1.h,(hb C s H ex).2.1.h,(hb C s H ex).2.2.h⟩) hsw hs hf⟩
end
section
variable {P:Program}{w:World}{K:Sf}{mg:Str->Option Value}{base:Heap}
theorem de.okQ{qual:Str}{st:Stmt}{f:Addr}{fd:FuncData}{N ps:List Str}{sp:Sp}(F:de K x qual st f fd)(S:ay N ps (ak st))(len:∀vs H Q E,sp vs H Q E->vs.length=ps.length)
  (hbody:∀(cdv:Value)(A:Around)(outer:List Env)(s:Shared)(H:Hp)(vs:List V)(Q:VK)(E:XK),dE k (A.deeper (envOfC qual (ak st) s.heap.objs.size f cdv))->sp vs H Q E ->
   ∃t,xq (gd dy P w K mg base N qual (ak st) f cdv A outer s H E).nox (dj st) t/\t { nx:=λ_ H'=>Q .non H',rt:=Q } (start N vs) H):aZ P w K mg base dy (k+1) f fd ps sp :=
 F.ok S len λcdv A outer s H vs Q E hr h=>(hbody cdv A outer s H vs Q E hr h).imp λt z=>⟨z.1.h,z.2⟩
end
section
variable {X:Cx}{pins:List (Addr×Obj)}{σ:St}{H:Hp}{s:Shared}{h':Heap}
theorem aR.turnT{t':Nat}{ch:List Addr}{T:Addr}{its:List Value}(I:aR X pins σ H s)(k:∀b o,b∉ch->s.heap.get? b=some o->h'.get? b=some o)(hf:∀b∈ch,nG X pins H b)
  (hT:s.heap.objs.size<=T)(hz:xs.length<=sizeLine)(rv:bJ xs its)(ht:IsTup h' T its.toArray):aR X pins σ (upd H T (.tup xs)) { s with heap:=h',toks:=t' }:=by
 have hn:H T=none:=I.hok.fresh hT;have nT:∀b o,s.heap.get? b=some o->b≠T:=λb o e=>Yf (Yd (Heap.lt_size e) hT);refine I.step (g':=s.gens) (d':=s.drawn) (ch:=ch) (λb hb=>?_) (λb o _ _ hc e _=>k b o hc e) (λb o _ _ hc e _=>⟨o.slots,k b o hc e⟩) (λb o _ e n=>?_)
  (λb o hc e=>⟨o,k b o hc e⟩) (λb ys e=>?_) (λb o u e=>?_) (λb ps e=>⟨#[],?_⟩) (λm hm=>?_) (λb u e=>?_) I.bare
 .obtain⟨_,f1,_,f3,f4,f5⟩:=hf b hb;exact⟨f3,f1,f4,f5⟩
 .rw[aV (nT b o e)];exact n
 .rw[aV (aj e hn)];exact e
 .rw[aV (aj e hn)];exact e
 .rw[aV (aj e hn),e];simp
 .obtain⟨o,es,ep,ho,r⟩:=hm;exact⟨o,es,ep,k _ o (λz=>(hf _ z).2.1 rfl) ho,r⟩
 .by_cases hb:b=T
  .subst hb;rw[cz] at e;cases e;exact⟨hz,its,rv,ht⟩
  .rw[aV hb] at e;have nch:∀c v,H c=some v->c∉ch:=λc v z hc=>by
    rw[(hf c hc).1] at z;cases z
   refine (I.hok b u e).stay (λc v hc q=>k c v ?_ q) (λc q=>?_) λc ys q=>?_
   .rcases hc with z|z
    .rw[z];exact nch b u e
    .exact nch c _ z
   .rw[aV (aj q hn)];exact q
   .rw[aV (aj q hn)];exact q
end
def Ii(K:Sf)(R:Hp->List (List V)->Prop):It :=
 ⟨λi H=>∃ys t,R H ys/\ys[i]? = some t,λi H x H'=>∃p t,x=.ref p/\vw K H p=none/\aB (vw K H) (vw K H')/\vw K H' p=some (.tup t) /\ ∀ys,R H ys->ys[i]? = some t,λi H=>∃ys,R H ys/\ys.length=i⟩
def D9(K:Sf)(a:Addr):Hp->List (List V)->Prop:=λH ys=>∃xs,H a=some (.lst xs)/\ys=xs.mapIdx λi x=>[V.int i,x]
theorem AS{elts:List Expr}(a e it:Addr)(hne:e≠it)(ha:a≠e)(ha2:a≠it):
  xY P w K (.Tuple elts x1 pos) (Ii K (D9 K a)) [e,it] e (λi h=>(∃old,IsEnum h e it (i:Int) old)/\h.IsListIter it a i) where
 mem:=by simp
 obj:=λi h st b hb=>by
  obtain⟨⟨old,h1⟩,o,h2,c,d⟩:=st;simp only[Y2,Y3,Y4] at hb;rcases hb with rfl|rfl
  .exact⟨_,h1,λv z=>by cases z⟩
  .exact⟨o,h2,λv z=>by rw[d] at z;cases z⟩
 keep:=λi h h' st k=>by
  obtain⟨⟨old,h1⟩,h2⟩:=st;exact⟨⟨old,k e (by simp) _ h1⟩,h2.at λo z=>k it (by simp) o z⟩
 item:=by
  intro X hP hw hK hc i pins s σ H E I hf st hg;subst hP hw hK;obtain⟨⟨old,h1⟩,h2⟩:=st;obtain⟨ys,t,⟨xs,hxs,rfl⟩,ht⟩:=hg;rw[Y5] at ht;cases hx:xs[i]? with
  | none=>rw[hx] at ht;cases ht
  | some x =>
   rw[hx] at ht;cases ht;obtain⟨its,rv,p,hz⟩:=I.list (jx.of (K:=X.K) hxs);obtain⟨u,hu,ru⟩:=rv.get hx;refine wpAny_pyNext_enum_item h1 h2 p.isList (x:=u) (by simpa using hu) hne λh3 heo hit ht3 hz3 hk3=>⟨_,rfl,?_⟩
   refine wpAny_letOwnedTupleGo_enum (s:={ s with heap:=h3,toks:=s.toks+1 }) heo λh4 he4 hs4=>?_
   have hes:e<s.heap.objs.size:=Heap.lt_size h1;have ht4:=hs4.extBut _ _ (Nat.ne_of_gt hes) ht3;have k4:∀b o,b∉[e,it]->s.heap.get? b=some o->h4.get? b=some o:=λb o hb z=>by
    simp only[Y2,Y3,Y4,not_or] at hb;exact hs4.extBut _ _ hb.1 (hk3 b o hb.1 hb.2 z)
   have I4:aR X pins σ (upd H s.heap.objs.size (.tup [.int i,x])) { s with heap:=h4,toks:=s.toks+1 } :=
    I.turnT (its:=[.int i s.toks,u]) k4 hf (Yr _) (show 2<=sizeLine by decide) (.cons ⟨_,rfl⟩ (.cons ru .nil)) ⟨_,ht4,rfl,_,rfl⟩
   have fr:=I.hok.fresh (Yr s.heap.objs.size);have nk:=I.newK (Yr s.heap.objs.size);refine⟨.ref s.heap.objs.size,_,I4,rfl,⟨_,_,rfl,by rw[dU nk];exact fr,lT (aB.upd fr),by rw[dU nk];exact cz,?_⟩,⟨⟨_,he4⟩,hit.extBut hs4.extBut hne.symm⟩,λb hb=>?_⟩
   .rintro ys ⟨zs,hzs,rfl⟩;rw[hxs] at hzs;cases hzs;rw[Y5,hx];rfl
   .have:b<s.heap.objs.size:=by
     simp only[Y2,Y3,Y4] at hb;rcases hb with rfl|rfl
     .exact hes
     .obtain⟨_,z,_⟩:=h2;exact Heap.lt_size z
    rw[aV (Yf this)];exact (hf b hb).1
 done:=by
  intro X hP hw hK hc i pins s σ H E I hf st hg;subst hP hw hK;obtain⟨⟨old,h1⟩,h2⟩:=st;obtain⟨ys,⟨xs,hxs,rfl⟩,hl⟩:=hg;obtain⟨its,rv,p,hz⟩:=I.list (jx.of (K:=X.K) hxs);have hl':=rv.length;rw[Y6] at hl;obtain⟨f0,f1,f2,f3,f4,f5⟩:=hf it (by simp)
  exact wpAny_pyNext_enum_end (I.ok.hd hc) h1 h2 p.isList (by simp;nofun) λh' eb=>⟨rfl,I.turned (t':=s.toks) (λb o hb z=>eb b o hb z) f0 f1 f3 f4 f5⟩
 self:=λ_ _ _ _ _ st h=>by
  obtain⟨⟨old,h1⟩,_⟩:=st;exact wpAny_pyIter_enum h1 h
def oy(K:Sf)(ta:TA):TI:=λσ H R=>ta σ H λvs H1=>∃a,vs=[.ref a]/\(∃xs,vw K H1 a=some (.lst xs))/\R (Ii K (D9 K a)) H1
theorem F1{elts:List Expr}{tp p:Pos}(hg:Gl X "enumerate")(hm:X.mg "enumerate"=none)(ha:PA X [a] ta)(hs:starEach [a] X.env=[(false,eval a X.env)]:=by rfl):
  PI X (.Tuple elts x1 tp) (.Call (.Name "enumerate" p) [a] [] pos) (oy X.K ta):=by
 intro pins s σ H R I h;refine Call_ (jn I hg hm uK (Ys (dc (ha pos pins s σ H _ I h) λus s1 ⟨vs,H1,I1,r1,q1⟩=>?_) hs rfl));obtain⟨b,e,⟨xs,hx⟩,q⟩:=q1;subst e;cases r1 with
 | cons r rr =>
  cases rr;cases r;have hx':=aN hx;obtain⟨hz,its,n,rv,ho⟩:=I1.hok b _ hx';refine call_enumerate_1 ho λh2 he hit hsz hk=>?_;refine wpAny_pyIter_enum (s:={ s1 with heap:=h2 }) he ?_
  have hb:b<s1.heap.objs.size:=Heap.lt_size ho;refine⟨_,[s1.heap.objs.size+1,s1.heap.objs.size],_,_,H1,rfl,I1.kept (t':=s1.toks) hk,AS b _ _ (Nat.ne_of_gt (Nat.lt_succ_self _)) (Yf (Nat.lt_succ_of_lt hb)) (Yf hb),⟨⟨_,he⟩,hit⟩,λc hc=>?_,q⟩;have hc':s1.heap.objs.size<=c:=by
   simp only[Y2,Y3,Y4] at hc;rcases hc with z|z
   .rw[z];exact Nat.le_succ _
   .rw[z];exact Yr _
  exact I1.fpOk hc' (I1.hok.fresh hc')
theorem jJ{R:Hp->List (List V)->Prop}{rows:List (List V)}{tb:TS}{D:oZ}(Pv:Nat->St->Hp->Prop)(hl:∀i σ H,i<=rows.length->Pv i σ H->R H rows)(h0:Pv 0 σ H)
  (hs:∀i t σ H p H',i<rows.length->rows[i]? = some t->Pv i σ H->vw K H p=none->aB (vw K H) (vw K H')->vw K H' p=some (.tup t)->g (.ref p) σ H' λσ2 H2=>tb { D with nx:=Pv (i+1),ct:=Pv (i+1),bk:=D.nx } σ2 H2)
  (hd:∀σ H,Pv rows.length σ H->D.nx σ H):zp (Ii K R) g tb D σ H:=by
 refine⟨λi m σ H=>m=rows.length-i/\i<=rows.length/\Pv i σ H,⟨rows.length,by simp,YO _,h0⟩,?_⟩
 rintro i m σ H ⟨rfl,hi,p⟩;have q:=hl i σ H hi p;by_cases hlt:i<rows.length
 .refine .inr ⟨⟨rows,rows[i],q,by simp[hlt]⟩,Pv (i+1),λσ' H' p'=>⟨rows.length-(i+1),(),rfl,hlt,p'⟩,λx H' y=>?_⟩
  obtain⟨a,t,rfl,y1,y2,y3,y4⟩:=y;exact hs i t σ H a H' hlt (y4 rows q) p y1 y2 y3
 .have e:i=rows.length:=();subst e;exact .inl ⟨⟨rows,q,rfl⟩,hd σ H p⟩
theorem vQ{α β:Type}{f g:α->Option β}:∀{l:List α},(∀x∈l,f x=g x)->l.filterMap f=l.filterMap g
 | [],_=>rfl
 | a::l,h=>by
  rw[Yi,Yi,h a (by simp),vQ λx hx=>h x (by simp[hx])]
theorem DV(its:List Value):slicePick its.toArray none none (some (-1))=its.reverse.toArray:=by
 unfold slicePick;simp only[sliceBounds,Option.getD_some,Yu];have hn:¬ ((-1:Int) > 0):=∅;simp only[Yc hn];unfold sliceRange;simp only[Yc hn];have e:(if ((its.length:Int)-1 > -1) then ((its.length:Int)-1 - -1 - -1-1)/(- -1) else 0).toNat=its.length:=by
  rw[show (- -1:Int)=1 by decide,Int.ediv_one]
  split<;>nofun
 rw[e];congr 1
 rw[List.filterMap_map];apply Y7
 intro i;have key:(List.range its.length).filterMap ((λx=>its.toArray[x]?) ∘ λ(k:Nat)=>((its.length:Int)-1 + -1*(k:Int)).toNat)=(List.range its.length).filterMap λk=>its.reverse[k]?:=by
  apply vQ
  intro k hk;have hk':k<its.length:=List.mem_range.mp hk;simp only[Function.comp];rw[List.getElem?_reverse hk'];simp only[List.getElem?_toArray];congr 1
  nofun
 rw[key];congr 1
 have h2:∀(l:List Value),(List.range l.length).filterMap (λk=>l[k]?)=l:=λl=>by
  induction l with
  | nil=>rfl
  | cons x xs ih =>
   rw[Y8,List.range_succ_eq_map,Yi];simp only[List.getElem?_cons_zero,List.filterMap_map];congr 1
 have:=h2 its.reverse
 rwa [Y9] at this
def Jv(K:Sf)(te:TE)(ts:TO):TE:=λσ H Q=>te σ H λx H1=>ts σ H1 λk H2=>k=some (-1) /\ ∃a,x=.ref a /\ ∃xs,vw K H2 a=some (.lst xs)/\Nw K H2 (.lst xs.reverse) Q
theorem Ig{e st:Expr}{ts:TO}{p2:Pos}(he:PE X e te)(hst:PO X (some st) ts):PE X (.Subscript e (.Slice none none (some st) p2) pos) (Jv X.K te ts):=by
 intro pins s σ H Q I h;refine Subscript_ (dc (he pins s σ H _ I h) λv s1 ⟨x,H1,I1,r1,q1⟩=>?_);refine wpAny_Slice ?_;rw[evalPart_none];refine wpAny_pure (wpAny_pure (dc (hst pins s1 σ H1 _ I1 q1) λvk s3 ⟨k,H3,I3,pk,q3⟩=>?_));obtain⟨rfl,a,rfl,xs,hx,q⟩:=q3;cases r1;have I4:aR X pins σ H3 { s3 with heap:=s3.heap.push { cls:=.type "slice",data:=.fields #[.none,.none,vk] } }:=I3.kept (t':=s3.toks) λb ob q=>Heap.get?_push_of_some _ q
 obtain⟨its,r,ht,hz⟩:=I4.list (jx.of (K:=X.K) (aN hx));have hlen:=r.length;refine tail_any (ops:=[.ref a,.ref s3.heap.objs.size]) ht.isList.typeIs slot_list_getitem.lookup ?_ (by with_unfolding_all rfl)
 refine wpAny_getItem_list_slice ht.isList (Heap.IsSliceOf.new ..) .none .none pk ∅ ?_ (by rw[Yu]<;>nofun)
 rw[DV];generalize s3.heap.push { cls:=.type "slice",data:=.fields #[.none,.none,vk] }=hp at I4 ht;refine⟨.ref hp.objs.size,_,I4.laid (t':=s3.toks) (o:=.lst xs.reverse) (λb ob q=>Heap.get?_push_of_some _ q) (Yr _) ?_,rfl,q.ok (I4.newK (Yr _)) (I4.hok.fresh (Yr _))⟩;exact⟨by rw[Y9];exact hz,_,0,r.reverse,Heap.get?_push_size _ rfl⟩
theorem ID{e st:Expr}{ts:TO}{p2:Pos}(he:QE X e te)(hst:QO X (some st) ts):QE X (.Subscript e (.Slice none none (some st) p2) pos) (Jv X.K te ts):=⟨Ig he.h hst.h⟩
theorem kz{elts:List Expr}{tp p:Pos}(hg:Gl X "enumerate")(hm:X.mg "enumerate"=none)(ha:QA X [a] ta)(hs:starEach [a] X.env=[(false,eval a X.env)]:=by rfl):
  QI X (.Tuple elts x1 tp) (.Call (.Name "enumerate" p) [a] [] pos) (oy X.K ta):=⟨F1 hg hm ha.h hs⟩
def Bq(n:Nat)(q:Int×Int):Prop:=Bt n q.1/\Bt n q.2
theorem Bq.mono{m n:Nat}{q:Int×Int}(h:Bq m q)(hl:m<=n):Bq n q:=⟨h.1.mono hl,h.2.mono hl⟩
def La(p q:Int×Int):Bool:=decide (p.1*q.2<q.1*p.2)
def mh(p q:Int×Int):Int×Int:=lo (p.1*q.2+q.1*p.2) (p.2*q.2)
theorem BD{a:Int}(hb:0<b):0<lg a b:=by
 unfold lg;rw[Yc ()];have:Int.gcd a b≠0:=λe=>by
  have:=(Int.gcd_eq_zero_iff.mp e).2;nofun
 nofun
theorem ox{a:Int}(hb:b≠0)(h1:Bt n a)(h2:Bt n b):Bq n (lo a b):=by
 have e1:=fB (a:=a) hb;have e2:=fM (a:=a) hb;have hl:0<(lg a b).natAbs:=by have:=Cf (a:=a) hb;nofun
 constructor
 .unfold Bt at *
  have:=YZ (lo a b).1 (lg a b);rw[e1] at this;have:=Xa (lo a b).1.natAbs hl;nofun
 .unfold Bt at *
  have:=YZ (lo a b).2 (lg a b);rw[e2] at this;have:=Xa (lo a b).2.natAbs hl;nofun
theorem fY{q:Int×Int}(hp:Fq p)(hq:Fq q):Fq (mh p q):=ix (by have:=Xb hp.1 hq.1;nofun)
theorem E5{q:Int×Int}(hp:Fq p)(hq:Fq q)(h0:0<q.1):La p (mh p q)=true:=by
 have hd:0<p.2*q.2:=Xb hp.1 hq.1;have hb:p.2*q.2≠0:=();have e1:=fB (a:=p.1*q.2+q.1*p.2) hb;have e2:=fM (a:=p.1*q.2+q.1*p.2) hb;have hg:=BD (a:=p.1*q.2+q.1*p.2) hd;unfold La mh;generalize lo (p.1*q.2+q.1*p.2) (p.2*q.2)=r at *
 generalize lg (p.1*q.2+q.1*p.2) (p.2*q.2)=g at *
 apply YS
 apply Int.lt_of_mul_lt_mul_right _ (YX hg)
 have z1:p.1*r.2*g=p.1*(p.2*q.2):=by rw[Xc,e2]
 have z2:r.1*p.2*g=(p.1*q.2+q.1*p.2)*p.2:=by rw[<-e1];rw[Int.mul_right_comm]
 rw[z1,z2];have hq2:0<q.1*p.2*p.2:=Xb (Xb h0 hp.1) hp.1;have z3:(p.1*q.2+q.1*p.2)*p.2=p.1*(p.2*q.2)+q.1*p.2*p.2:=by
  rw[Int.add_mul,Xc p.1 q.2 p.2,Xd q.2 p.2]
 nofun
theorem ja{q:Int×Int}(hp:Fq p)(hq:Fq q)(h1:Bq m p)(h2:Bq n q):Bq (m+n+1) (mh p q):=by
 refine ox (by have:=Xb hp.1 hq.1;nofun) ?_ ?_
 .have:=(h1.1.mul h2.2).add (h2.1.mul h1.2);exact this.mono ()
 .exact (h1.2.mul h2.2).mono ()
def gr(G:Hp)(a:Addr)(ds:List D):Prop:=∃xs,G a=some (.lst xs)/\aF G ds xs
section
variable {G G':Hp}{a l:Addr}{ds:List D}{xs:List V}
theorem gr.same(h:gr G a ds)(S:aB G G'):gr G' a ds:=by
 obtain⟨ys,h1,h2⟩:=h;exact⟨ys,S _ _ h1,h2.same S⟩
theorem gr.but(h:gr G a ds)(hf:D.flats ds=true)(hl:G l=some (.lst xs))(hn:a≠l)(S:eJ l G G'):gr G' a ds:=by
 obtain⟨ys,h1,h2⟩:=h;exact⟨ys,S _ _ hn h1,aF.flat_but hl S _ _ hf h2⟩
theorem gr.ne_st{st:Addr}(h:gr G a ds)(hd:∀i b,ds≠[.int i,.bl b])(hst:dz G st):a≠st:=by
 rintro rfl;obtain⟨ys,h1,h2⟩:=h;obtain⟨x,b,h3,_⟩:=hst;rw[h1] at h3;cases h3;exact hd _ _ (aI.lst_st h2)
theorem gr.stBut{st:Addr}(h:gr G a ds)(hf:D.flats ds=true)(hd:∀i b,ds≠[.int i,.bl b])(hst:dz G st)(S:eJ st G G'):gr G' a ds:=by
 obtain⟨x,b,h3,h4⟩:=id hst;exact h.but hf h3 (h.ne_st hd hst) S
end
theorem iX{p:Addr}(h:vw K H p=some (.lst xs)):JV K "list" (.ref p) H:=.inl ⟨rfl,xs,.of (aN h)⟩
theorem gr.ty{p:Addr}{ds:List D}(h:gr (vw K H) p ds):JV K "list" (.ref p) H:=by
 obtain⟨xs,h,_⟩:=h;exact iX h
abbrev mO:=(Int×Int)×(Int×Int)
def qZ(c:mO):D:=.tup [fr c.1,fr c.2]
theorem cX:∀(cs:List mO),D.flats (cs.map qZ)=true
 | []=>by simp[D.flats]
 | c::cs=>by
  rw[YR];unfold D.flats;rw[cX cs];simp[qZ,D.flat,D.flats,ci]
theorem gT(cs:List mO):∀i b,cs.map qZ≠[.int i,.bl b]:=λi b e=>by
 cases cs with
 | nil=>cases e
 | cons c cs =>
  rw[YR] at e;have:=(List.cons.inj e).1;unfold qZ at this;cases this
theorem aI.spt_at{c:mO}(h:aI H (qZ c) v):∃a x y,v=.ref a/\H a=some (.tup [x,y])/\aI H (fr c.1) x/\aI H (fr c.2) y:=by
 obtain⟨a,xs,rfl,ha,r⟩:=h.tup_at;obtain⟨d1,d2,x1,x2,e1,rfl,r1,r2⟩:=r.pair (by rw[r.length];rfl)
 cases e1;exact⟨a,x1,x2,rfl,ha,r1,r2⟩
theorem aI.mk_spt{c:mO}{a:Addr}{x y:V}(h:H a=some (.tup [x,y]))(h1:aI H (fr c.1) x)(h2:aI H (fr c.2) y):aI H (qZ c) (.ref a):=.mk_tup h (.mk_cons h1 (.mk_cons h2 .mk_nil))
section
variable {prog:Program}{w:World}{A:Around}{E:Value->Shared->Prop}{s:Shared}
theorem Eb{it t:Addr}{its:Array Value}{x:Value}(a:s.heap.IsTupleIter it t i)(b:s.heap.IsTuple t its)(c:its[i]? = some x)
  (q:∀g,g.IsTupleIter it t (i+1)->Heap.SameBut it s.heap g->Q x { s with heap:=g }):wpAny (model prog w) A (Builtin.SmallTypes.nextOf (.ref it)) Q E s:=by
 obtain⟨u,a1,a2,a3⟩:=id a;obtain⟨v,b1,_,bn,b2⟩:=b;unfold Builtin.SmallTypes.nextOf;refine wpAny_bind (wpAny_callSpecial?_slot (name:=Str.ofString "__next__") a.typeIs F.slot_tuple_iterator_next (wpAny_call_entry F.slot_tuple_iterator_next a.typeIs F.entry_tuple_iterator_next ?_ (F.args_tuple_iterator_next_1 _)));show wpAny _ _ (field (.ref it) 0 >>= _) _ _ s;refine wpAny_bind (wpAny_field a1 a3 (x:=.ref t) rfl ?_);show wpAny _ _ (if (Value.ref t==Value.none)=true then _ else _) _ _ s;rw[Yc (show ¬ ((Value.ref t==Value.none)=true) from Yq)]
 show wpAny _ _ (field (.ref it) 1 >>= _) _ _ s;refine wpAny_bind (wpAny_field a1 a3 (x:=.int i 0) rfl ?_);show wpAny _ _ (seqItems? (.ref t) >>= _) _ _ s;refine wpAny_bind (wpAny_seqItems b1 b2 ?_);simp only[Int.toNat_natCast,c];refine wpAny_bind (wpAny_setField a1 a3 (by simp) (wpAny_pure ⟨x,rfl,wpAny_pure (q _ ?_ (Heap.SameBut.update ..))⟩))
 exact⟨_,Heap.get?_update_self _ a1 (Obj.isFreed_of_fields (Obj.data_mapFields a3 _)),(Obj.cls_mapFields ..).trans a2,by rw[Obj.data_mapFields a3];simp[rawInt]⟩
theorem tE{it t:Addr}{its:Array Value}(hh:A.handled=none)(a:s.heap.IsTupleIter it t i)(b:s.heap.IsTuple t its)(c:its[i]? = none)
  (q:∀g e,Heap.ExtBut it s.heap g->(∃o,g.get? e=some o/\o.cls=.type "StopIteration")->E (.ref e) { s with heap:=g }):wpAny (model prog w) A (Builtin.SmallTypes.nextOf (.ref it)) Q E s:=by
 obtain⟨u,a1,a2,a3⟩:=id a;obtain⟨v,b1,_,bn,b2⟩:=b;unfold Builtin.SmallTypes.nextOf;refine wpAny_bind (wpAny_callSpecial?_slot (name:=Str.ofString "__next__") a.typeIs F.slot_tuple_iterator_next (wpAny_call_entry F.slot_tuple_iterator_next a.typeIs F.entry_tuple_iterator_next ?_ (F.args_tuple_iterator_next_1 _)));show wpAny _ _ (field (.ref it) 0 >>= _) _ _ s;refine wpAny_bind (wpAny_field a1 a3 (x:=.ref t) rfl ?_);show wpAny _ _ (if (Value.ref t==Value.none)=true then _ else _) _ _ s;rw[Yc (show ¬ ((Value.ref t==Value.none)=true) from Yq)]
 show wpAny _ _ (field (.ref it) 1 >>= _) _ _ s;refine wpAny_bind (wpAny_field a1 a3 (x:=.int i 0) rfl ?_);show wpAny _ _ (seqItems? (.ref t) >>= _) _ _ s;refine wpAny_bind (wpAny_seqItems b1 b2 ?_);simp only[Int.toNat_natCast,c];refine wpAny_bind (wpAny_rule (wpAny_bind (wpAny_setField a1 a3 (by simp) ?_)));show wpAny _ _ (newExc (.type "StopIteration") [] >>= _) _ _ _
 refine wpAny_bind ?_;simp only[newExc,newTuple];refine wpAny_bind (wpAny_newObj_type ?_ (by size_fits))
 refine wpAny_bind (m:=firstArgMember _ _) (wpAny_of_eq (a:=Value.none) (by first|rfl|(simp only[firstArgMember];rfl)) ?_);refine wpAny_newObj_type ?_ (by size_fits)
 simp only[raiseNew];refine wpAny_bind (wpAny_handled ?_)
 (first|rw[show A.in1.handled=none from hh]|rw[hh]);refine wpAny_bind (wpAny_pure (wpAny_throw ?_))
 exact q _ _ (((Heap.SameBut.update ..).extBut.push _).push _) ⟨_,Heap.get?_push_size _ rfl,rfl⟩
end
theorem AR{prog:Program}{A:Around}(hh:A.handled=none)(it l:Addr)(hne:l≠it)(its:Array Value):
  Draws prog w A it [it,l] its.size (λi v=>its[i]? = some v) (λi h=>h.IsTupleIter it l i/\h.IsTuple l its) where
 live:=λ_ _ st=>let ⟨o,ho,_⟩:=st.1;⟨o,ho⟩
 frame:=λ_ _ _ st hk=>⟨(let ⟨o,ho,r⟩:=st.1;⟨o,hk it (by simp) o ho,r⟩),(let ⟨o,ho,r⟩:=st.2;⟨o,hk l (by simp) o ho,r⟩)⟩
 item:=λi s Q E hi st q=>Eb st.1 st.2 (x:=its[i]) (by simp[hi]) λg a b=>q _ g s.toks (by simp[hi]) ⟨a,st.2.extBut b.extBut hne⟩ b
 done:=λs Q E st q=>tE hh st.1 st.2 (by simp) q
section
variable {prog:Program}{w:World}{A:Around}{E:Value->Shared->Prop}{s:Shared}{z TI TO i1 i2:Addr}{f1 f2:List Addr}{n1 n2 k:Nat}{P1 P2:Nat->Value->Prop}{T1 T2:Nat->Heap->Prop}{a b:Value}
structure nK (z TI TO i1 i2:Addr)(f1 f2:List Addr):Prop where
 tiz:TI≠z
 toz:TO≠z
 tito:TI≠TO
 ti1:TI≠i1
 ti2:TI≠i2
 to1:TO≠i1
 to2:TO≠i2
 z1:z≠i1
 z2:z≠i2
 n12:i1≠i2
 zf1:z∉f1
 zf2:z∉f2
 tf1:TO∉f1
 tf2:TO∉f2
 if1:i2∉f1
 if2:i1∉f2
theorem Af(D1:Draws prog w A i1 f1 n1 P1 T1)(D2:Draws prog w A i2 f2 n2 P2 T2)(Z:nK z TI TO i1 i2 f1 f2)(hz:IsZip s.heap z TI TO .none)(hTI:IsPair s.heap TI (.ref i1) (.ref i2))(hTO:IsPair s.heap TO a b)
  (h1:T1 k s.heap)(h2:T2 k s.heap)(k1:k<n1)(k2:k<n2)
  (hQ:∀x y g tk,P1 k x->P2 k y->IsZip g z TI TO (rawInt s.heap.objs.size)->IsPair g TO x y->T1 (k+1) g->T2 (k+1) g->IsPair g s.heap.objs.size x y->g.objs.size=s.heap.objs.size+1 ->
   (∀c o,c∉[z,TO,i1,i2]->s.heap.get? c=some o->g.get? c=some o)->Q (.ref s.heap.objs.size) { s with heap:=g,toks:=tk }) :
  wpAny (model prog w) A (Builtin.«zip.__next__» ⟨[.ref z],[]⟩) (λfin s'=>∃v,fin=.done (.ret v)/\Q v s') E s:=by
 show wpAny _ _ (field (.ref z) 2 >>= _) _ _ _;refine wpAny_bind (wpAny_field hz rfl (x:=.bool false) rfl ?_);show wpAny _ _ (field (.ref z) 3 >>= _) _ _ _;refine wpAny_bind (wpAny_field hz rfl (x:=.ref TI) rfl ?_);refine wpAny_bind (wpAny_seqItems hTI rfl ?_);show wpAny _ _ (Builtin.SmallTypes.ownedTupleIsFree (.ref z) >>= _) _ _ _;refine wpAny_bind ?_;unfold Builtin.SmallTypes.ownedTupleIsFree;refine wpAny_bind (wpAny_field hz rfl (x:=.none) rfl (wpAny_pure ?_));simp only[if_true];refine wpAny_bind (wpAny_rule ?_);refine wpAny_bind (wpAny_field hz rfl (x:=.ref TO) rfl ?_);refine wpAny_bind (wpAny_setField_rec hz (by simp) λg1 hz1 s1=>?_)
 replace hz1:IsZip g1 z TI TO .ellipsis:=hz1;refine wpAny_bind ?_;simp only[List.zipIdx_cons,List.zipIdx_nil,List.forIn_cons,List.forIn_nil];refine wpAny_bind (wpAny_bind (wpAny_onRaise ?_));show wpAny _ _ (Builtin.SmallTypes.nextOf (.ref i1) >>= _) _ _ _;refine wpAny_bind (D1.item k _ _ _ k1 (D1.frame k _ _ h1 λc hc o e=>s1.extBut _ _ (λz'=>Z.zf1 (z'▸hc)) e) λx g2 tk2 p1 t1 s2=>wpAny_pure ?_);replace s2:Heap.SameBut i1 g1 g2:=s2;have hTO2:IsPair g2 TO a b:=s2.extBut _ _ Z.to1 (s1.extBut _ _ Z.toz hTO);refine wpAny_bind (wpAny_seqItems hTO2 rfl ?_);refine wpAny_bind (wpAny_updateSeq_pair hTO2 λg3 hTO3 s3=>?_);replace hTO3:IsPair g3 TO x b:=hTO3;replace s3:Heap.SameBut TO g2 g3:=s3;refine wpAny_bind (wpAny_letGo (wpAny_pure ?_));refine wpAny_bind (wpAny_bind (wpAny_onRaise ?_));show wpAny _ _ (Builtin.SmallTypes.nextOf (.ref i2) >>= _) _ _ _;have t2':T2 k g3:=D2.frame k _ _ h2 λc hc o e=>s3.extBut _ _ (λz'=>Z.tf2 (z'▸hc)) (s2.extBut _ _ (λz'=>Z.if2 (z'▸hc)) (s1.extBut _ _ (λz'=>Z.zf2 (z'▸hc)) e));refine wpAny_bind (D2.item k _ _ _ k2 t2' λy g4 tk4 p2 t2 s4=>wpAny_pure ?_);replace s4:Heap.SameBut i2 g3 g4:=s4;have hTO4:IsPair g4 TO x b:=s4.extBut _ _ Z.to2 hTO3;refine wpAny_bind (wpAny_seqItems hTO4 rfl ?_);refine wpAny_bind (wpAny_updateSeq_pair hTO4 λg5 hTO5 s5=>?_);replace hTO5:IsPair g5 TO x y:=hTO5;replace s5:Heap.SameBut TO g4 g5:=s5;refine wpAny_bind (wpAny_letGo (wpAny_pure (wpAny_pure ?_)));refine wpAny_bind (wpAny_seqItems hTO5 rfl ?_);refine wpAny_bind (wpAny_newTuple ?_);have hsz:g5.objs.size=s.heap.objs.size:=by rw[s5.1,s4.1,s3.1,s2.1,s1.1]
 have hz5:IsZip g5 z TI TO .ellipsis:=s5.extBut _ _ Z.toz.symm (s4.extBut _ _ Z.z2 (s3.extBut _ _ Z.toz.symm (s2.extBut _ _ Z.z1 hz1)));have k5:∀c o,c∉[z,TO,i1,i2]->s.heap.get? c=some o->g5.get? c=some o:=λc o hc e=>by
  simp only[Y2,Y3,Y4,not_or] at hc;exact s5.extBut _ _ hc.2.1 (s4.extBut _ _ hc.2.2.2 (s3.extBut _ _ hc.2.1 (s2.extBut _ _ hc.2.2.1 (s1.extBut _ _ hc.1 e))))
 have t15:T1 (k+1) g5:=D1.frame _ _ _ t1 λc hc o e=>s5.extBut _ _ (λz'=>Z.tf1 (z'▸hc)) (s4.extBut _ _ (λz'=>Z.if1 (z'▸hc)) (s3.extBut _ _ (λz'=>Z.tf1 (z'▸hc)) e));have t25:T2 (k+1) g5:=D2.frame _ _ _ t2 λc hc o e=>s5.extBut _ _ (λz'=>Z.tf2 (z'▸hc)) e;have zlt:z<g5.objs.size:=Heap.lt_size hz5;show wpAny _ _ (Builtin.SmallTypes.ownedTupleHandOut (.ref z) (.ref g5.objs.size) >>= _) _ _ _;refine wpAny_bind ?_;unfold Builtin.SmallTypes.ownedTupleHandOut;have hz6:IsZip (g5.push { cls:=.type "tuple",data:=.seq #[x,y] }) z TI TO .ellipsis:=Heap.get?_push_of_some _ hz5;refine wpAny_bind (wpAny_setField_rec hz6 (by simp) λg7 hz7 s7=>?_)
 replace hz7:IsZip g7 z TI TO (rawInt g5.objs.size):=hz7;refine wpAny_setField_rec hz7 (by simp) λg8 hz8 s8=>?_
 replace hz8:IsZip g8 z TI TO (rawInt g5.objs.size):=hz8;have up:∀c o,c≠z->g5.get? c=some o->g8.get? c=some o:=λc o hc e=>s8.extBut _ _ hc (s7.extBut _ _ hc (Heap.get?_push_of_some _ e));have hT8:IsPair g8 g5.objs.size x y:=s8.extBut _ _ (Nat.ne_of_gt zlt) (s7.extBut _ _ (Nat.ne_of_gt zlt) (Heap.get?_push_size _ rfl));have hn8:g8.objs.size=g5.objs.size+1:=by rw[s8.1,s7.1,Heap.size_push]
 rw[hsz] at hz8 hT8 hn8;refine wpAny_pure ⟨_,rfl,?_⟩;show Q (.ref g5.objs.size) _;rw[hsz];exact hQ x y g8 _ p1 p2 hz8 (up _ _ Z.toz hTO5) (D1.frame _ _ _ t15 λc hc o e=>up c o (λz'=>Z.zf1 (z'▸hc)) e) (D2.frame _ _ _ t25 λc hc o e=>up c o (λz'=>Z.zf2 (z'▸hc)) e) hT8 hn8
  λc o hc e=>up c o (λz'=>hc (by simp[z'])) (k5 c o hc e)
theorem Dz{Q:Fin->Shared->Prop}(D1:Draws prog w A i1 f1 n1 P1 T1)(D2:Draws prog w A i2 f2 n2 P2 T2)(Z:nK z TI TO i1 i2 f1 f2)(hz:IsZip s.heap z TI TO .none)(hTI:IsPair s.heap TI (.ref i1) (.ref i2))(hTO:IsPair s.heap TO a b)
  (h1:T1 k s.heap)(h2:T2 k s.heap)(hk:k=n1\/(k<n1/\k=n2))
  (hE:∀g tk e,(∀c o,c∉[z,TO,i1,i2]->s.heap.get? c=some o->g.get? c=some o)->(∃o,g.get? e=some o/\o.cls=.type "StopIteration")->E (.ref e) { s with heap:=g,toks:=tk }) :
  wpAny (model prog w) A (Builtin.«zip.__next__» ⟨[.ref z],[]⟩) Q E s:=by
 show wpAny _ _ (field (.ref z) 2 >>= _) _ _ _;refine wpAny_bind (wpAny_field hz rfl (x:=.bool false) rfl ?_);show wpAny _ _ (field (.ref z) 3 >>= _) _ _ _;refine wpAny_bind (wpAny_field hz rfl (x:=.ref TI) rfl ?_);refine wpAny_bind (wpAny_seqItems hTI rfl ?_);show wpAny _ _ (Builtin.SmallTypes.ownedTupleIsFree (.ref z) >>= _) _ _ _;refine wpAny_bind ?_;unfold Builtin.SmallTypes.ownedTupleIsFree;refine wpAny_bind (wpAny_field hz rfl (x:=.none) rfl (wpAny_pure ?_));simp only[if_true];refine wpAny_bind (wpAny_rule ?_);refine wpAny_bind (wpAny_field hz rfl (x:=.ref TO) rfl ?_);refine wpAny_bind (wpAny_setField_rec hz (by simp) λg1 hz1 s1=>?_)
 replace hz1:IsZip g1 z TI TO .ellipsis:=hz1;refine wpAny_bind ?_;simp only[List.zipIdx_cons,List.zipIdx_nil,List.forIn_cons,List.forIn_nil];refine wpAny_bind (wpAny_bind (wpAny_onRaise ?_));show wpAny _ _ (Builtin.SmallTypes.nextOf (.ref i1) >>= _) _ _ _;have t1':T1 k g1:=D1.frame k _ _ h1 λc hc o e=>s1.extBut _ _ (λz'=>Z.zf1 (z'▸hc)) e;rcases hk with rfl|⟨k1,rfl⟩
 .refine wpAny_bind (D1.done _ _ _ t1' λg2 e s2 he=>?_);obtain⟨oe,he1,he2⟩:=he;have hz2:IsZip g2 z TI TO .ellipsis:=s2 _ _ Z.z1 hz1;have hez:e≠z:=λx=>by subst x;rw[hz2] at he1;cases he1;simp at he2
  refine wpAny_setField_rec hz2 (by simp) λg3 _ s3=>hE g3 _ e (λc o hc x=>?_) ⟨oe,s3.extBut _ _ hez he1,he2⟩
  simp only[Y2,Y3,Y4,not_or] at hc;exact s3.extBut _ _ hc.1 (s2 _ _ hc.2.2.1 (s1.extBut _ _ hc.1 x))
 .refine wpAny_bind (D1.item k _ _ _ k1 t1' λx g2 tk2 p1 t1 s2=>wpAny_pure ?_);replace s2:Heap.SameBut i1 g1 g2:=s2;have hTO2:IsPair g2 TO a b:=s2.extBut _ _ Z.to1 (s1.extBut _ _ Z.toz hTO);refine wpAny_bind (wpAny_seqItems hTO2 rfl ?_);refine wpAny_bind (wpAny_updateSeq_pair hTO2 λg3 hTO3 s3=>?_);replace s3:Heap.SameBut TO g2 g3:=s3;refine wpAny_bind (wpAny_letGo (wpAny_pure ?_));refine wpAny_bind (wpAny_bind (wpAny_onRaise ?_));show wpAny _ _ (Builtin.SmallTypes.nextOf (.ref i2) >>= _) _ _ _;have t2':T2 k g3:=D2.frame k _ _ h2 λc hc o e=>s3.extBut _ _ (λz'=>Z.tf2 (z'▸hc)) (s2.extBut _ _ (λz'=>Z.if2 (z'▸hc)) (s1.extBut _ _ (λz'=>Z.zf2 (z'▸hc)) e));refine wpAny_bind (D2.done _ _ _ t2' λg4 e s4 he=>?_);obtain⟨oe,he1,he2⟩:=he;have hz4:IsZip g4 z TI TO .ellipsis:=s4 _ _ Z.z2 (s3.extBut _ _ Z.toz.symm (s2.extBut _ _ Z.z1 hz1));have hez:e≠z:=λx=>by subst x;rw[hz4] at he1;cases he1;simp at he2
  refine wpAny_setField_rec hz4 (by simp) λg5 _ s5=>hE g5 _ e (λc o hc x=>?_) ⟨oe,s5.extBut _ _ hez he1,he2⟩
  simp only[Y2,Y3,Y4,not_or] at hc;exact s5.extBut _ _ hc.1 (s4 _ _ hc.2.2.2 (s3.extBut _ _ hc.2.1 (s2.extBut _ _ hc.2.2.1 (s1.extBut _ _ hc.1 x))))
end
def jI:Bool->Heap->Addr->Addr->Nat->Prop
 | true,h,it,l,i=>h.IsListIter it l i
 | false,h,it,l,i=>h.IsTupleIter it l i
def fO:Bool->Heap->Addr->Array Value->Prop
 | true,h,l,its=>h.IsList l its
 | false,h,l,its=>h.IsTuple l its
def qH(K:Sf)(b:Bool)(H:Hp)(l:Addr)(xs:List V):Prop:=vw K H l=some (if b=true then .lst xs else .tup xs)
theorem kD{prog:Program}{A:Around}(hh:A.handled=none)(b:Bool)(it l:Addr)(hne:l≠it)(its:Array Value):
  Draws prog w A it [it,l] its.size (λi v=>its[i]? = some v) (λi h=>jI b h it l i/\fO b h l its):=by
 cases b with
 | true=>exact Draws.list hh it l hne its
 | false=>exact AR hh it l hne its
theorem jI.at{b:Bool}{it:Addr}(x:jI b h it l i)(e:∀o,h.get? it=some o->h'.get? it=some o):jI b h' it l i:=by
 cases b with
 | true=>obtain⟨o,ho,r⟩:=x;exact⟨o,e o ho,r⟩
 | false=>obtain⟨o,ho,r⟩:=x;exact⟨o,e o ho,r⟩
theorem jI.obj{b:Bool}{it:Addr}(x:jI b h it l i):∃o,h.get? it=some o /\ ∀v,o.data ≠ .cell v:=by
 cases b with
 | true=>obtain⟨o,ho,_,d⟩:=x;exact⟨o,ho,λv z=>by rw[d] at z;cases z⟩
 | false=>obtain⟨o,ho,_,d⟩:=x;exact⟨o,ho,λv z=>by rw[d] at z;cases z⟩
theorem fO.obj{b:Bool}{its:Array Value}(x:fO b h l its):∃o,h.get? l=some o:=by
 cases b with
 | true=>obtain⟨o,ho,_⟩:=x;exact⟨o,ho⟩
 | false=>obtain⟨o,ho,_⟩:=x;exact⟨o,ho⟩
theorem aR.src{pins:List (Addr×Obj)}{s:Shared}(I:aR X pins σ H s){b:Bool}{l:Addr}{xs:List V}(h:qH X.K b H l xs):∃its:List Value,bJ xs its/\fO b s.heap l its.toArray/\xs.length<=sizeLine:=by
 cases b with
 | true =>
  obtain⟨its,rv,p,hz⟩:=I.list (jx.of (K:=X.K) (aN h));exact⟨its,rv,p.isList,hz⟩
 | false =>
  obtain⟨its,rv,p,hz⟩:=I.tuple (hU h);exact⟨its,rv,p,hz⟩
theorem qH.inj{b:Bool}(h:qH K b H l xs)(g:qH K b H l ys):xs=ys:=by
 unfold qH at h g;rw[h] at g;cases b<;>cases g<;>rfl
def KC(K:Sf)(b1 b2:Bool)(l1 l2:Addr):Hp->List (List V)->Prop:=λH ys=>∃xs zs,qH K b1 H l1 xs/\qH K b2 H l2 zs/\ys=List.zipWith (λx z=>[x,z]) xs zs
section
variable {prog:Program}{w:World}{A:Around}{E:Value->Shared->Prop}{s:Shared}{z TI TO i1 i2 l1 l2:Addr}{k:Nat}{b1 b2:Bool}{u1 u2:Array Value}{a b:Value}
theorem ME(h1 : @LT.lt Nat _ l1 n)(h2 : @LT.lt Nat _ l2 n):nK (n+4) (n+2) (n+3) n (n+1) [n,l1] [n+1,l2]:=by
 constructor<;>(try simp only[Y2,Y3,Y4,not_or])<;>(try constructor)<;>(intro e;have e':(_:Nat)=_:=e;nofun)
theorem xt{Q:Option Value->Shared->Prop}(hh:A.handled=none)(Z:nK z TI TO i1 i2 [i1,l1] [i2,l2])(n1:l1≠i1)(n2:l2≠i2)(hz:IsZip s.heap z TI TO .none)(hTI:IsPair s.heap TI (.ref i1) (.ref i2))(hTO:IsPair s.heap TO a b)
  (h1:jI b1 s.heap i1 l1 k)(h2:jI b2 s.heap i2 l2 k)(p1:fO b1 s.heap l1 u1)(p2:fO b2 s.heap l2 u2)(k1:k<u1.size)(k2:k<u2.size)
  (hQ:∀x y g tk,u1[k]? = some x->u2[k]? = some y->IsZip g z TI TO (rawInt s.heap.objs.size)->IsPair g TO x y->jI b1 g i1 l1 (k+1)->jI b2 g i2 l2 (k+1)->IsPair g s.heap.objs.size x y->g.objs.size=s.heap.objs.size+1 ->
   (∀c o,c∉[z,TO,i1,i2]->s.heap.get? c=some o->g.get? c=some o)->Q (some (.ref s.heap.objs.size)) { s with heap:=g,toks:=tk }):wpAny (model prog w) A (pyNext (.ref z)) Q E s:=by
 have hT:s.TypeIs (.ref z) "zip":=⟨_,hz,rfl⟩;unfold pyNext;refine wpAny_bind (wpAny_attempt (wpAny_callSpecial?_slot (name:=Str.ofString "__next__") hT F.slot_zip_next (wpAny_call_entry F.slot_zip_next hT F.entry_zip_next ?_ (F.args_zip_next_1 _))));have D1:Draws prog w A.in1 i1 [i1,l1] u1.size _ _:=kD (A:=A.in1) hh b1 i1 l1 n1 u1;have D2:Draws prog w A.in1 i2 [i2,l2] u2.size _ _:=kD (A:=A.in1) hh b2 i2 l2 n2 u2;exact Af D1 D2 Z hz hTI hTO ⟨h1,p1⟩ ⟨h2,p2⟩ k1 k2 λx y g tk e1 e2 c1 c2 c3 c4 c5 c6 c7=>wpAny_pure (hQ x y g tk e1 e2 c1 c2 c3.1 c4.1 c5 c6 c7)
theorem Bc{Q:Option Value->Shared->Prop}(hh:A.handled=none)(Z:nK z TI TO i1 i2 [i1,l1] [i2,l2])(n1:l1≠i1)(n2:l2≠i2)(hz:IsZip s.heap z TI TO .none)(hTI:IsPair s.heap TI (.ref i1) (.ref i2))(hTO:IsPair s.heap TO a b)
  (h1:jI b1 s.heap i1 l1 k)(h2:jI b2 s.heap i2 l2 k)(p1:fO b1 s.heap l1 u1)(p2:fO b2 s.heap l2 u2)(hk:k=u1.size\/(k<u1.size/\k=u2.size))
  (hQ:∀g tk,(∀c o,c∉[z,TO,i1,i2]->s.heap.get? c=some o->g.get? c=some o)->Q none { s with heap:=g,toks:=tk }):wpAny (model prog w) A (pyNext (.ref z)) Q E s:=by
 have hT:s.TypeIs (.ref z) "zip":=⟨_,hz,rfl⟩;unfold pyNext;refine wpAny_bind (wpAny_attempt (wpAny_callSpecial?_slot (name:=Str.ofString "__next__") hT F.slot_zip_next (wpAny_call_entry F.slot_zip_next hT F.entry_zip_next ?_ (F.args_zip_next_1 _))));have D1:Draws prog w A.in1 i1 [i1,l1] u1.size _ _:=kD (A:=A.in1) hh b1 i1 l1 n1 u1;have D2:Draws prog w A.in1 i2 [i2,l2] u2.size _ _:=kD (A:=A.in1) hh b2 i2 l2 n2 u2;refine Dz D1 D2 Z hz hTI hTO ⟨h1,p1⟩ ⟨h2,p2⟩ hk λg tk e hk he=>?_;obtain⟨o,ho,hc⟩:=he;refine wpAny_bind (wpAny_isInstance (T:="StopIteration") (b:=true) ⟨o,ho,hc⟩ isSubtype_stop (wpAny_pure (hQ _ _ hk)))
end
theorem aR.turnL{pins:List (Addr×Obj)}{s:Shared}{t':Nat}{ch:List Addr}(I:aR X pins σ H s)(k:∀b o,b∉ch->s.heap.get? b=some o->h'.get? b=some o)(hf:∀b∈ch,nG X pins H b):aR X pins σ H { s with heap:=h',toks:=t' }:=by
 have nch:∀c v,H c=some v->c∉ch:=λc v z hc=>by
  rw[(hf c hc).1] at z;cases z
 refine I.step (g':=s.gens) (d':=s.drawn) (ch:=ch) (λb hb=>?_) (λb o _ _ hc e _=>k b o hc e) (λb o _ _ hc e _=>⟨o.slots,k b o hc e⟩) (λb o _ e n=>n)
  (λb o hc e=>⟨o,k b o hc e⟩) (λb ys e=>e) (λb o u e=>e) (λb ps e=>⟨#[],by rw[e];simp⟩) (λm hm=>?_) (λb u e=>?_) I.bare
 .obtain⟨_,f1,_,f3,f4,f5⟩:=hf b hb;exact⟨f3,f1,f4,f5⟩
 .obtain⟨o,es,ep,ho,r⟩:=hm;exact⟨o,es,ep,k _ o (λz=>(hf _ z).2.1 rfl) ho,r⟩
 .refine (I.hok b u e).stay (λc v hc q=>k c v ?_ q) (λc q=>q) λc ys q=>q;rcases hc with z|z
  .rw[z];exact nch b u e
  .exact nch c _ z
theorem DD{elts:List Expr}{b1 b2:Bool}(z TI TO i1 i2 l1 l2:Addr)(Z:nK z TI TO i1 i2 [i1,l1] [i2,l2])(n1:l1≠i1)(n2:l2≠i2):
  xY P w K (.Tuple elts x1 pos) (Ii K (KC K b1 b2 l1 l2)) [z,TO,i1,i2,TI] z (λi h=>IsZip h z TI TO .none/\IsPair h TI (.ref i1) (.ref i2)/\(∃a b,IsPair h TO a b)/\jI b1 h i1 l1 i/\jI b2 h i2 l2 i) where
 mem:=by simp
 obj:=λi h st b hb=>by
  obtain⟨h1,h2,⟨a,c,h3⟩,h4,h5⟩:=st;simp only[Y2,Y3,Y4] at hb;rcases hb with rfl|rfl|rfl|rfl|rfl
  .exact⟨_,h1,λv e=>by cases e⟩
  .exact⟨_,h3,λv e=>by cases e⟩
  .exact h4.obj
  .exact h5.obj
  .exact⟨_,h2,λv e=>by cases e⟩
 keep:=λi h h' st k=>by
  obtain⟨h1,h2,⟨a,c,h3⟩,h4,h5⟩:=st;exact⟨k z (by simp) _ h1,k TI (by simp) _ h2,⟨a,c,k TO (by simp) _ h3⟩,h4.at λo e=>k i1 (by simp) o e,h5.at λo e=>k i2 (by simp) o e⟩
 item:=by
  intro X hP hw hK hc i pins s σ H E I hf st hg;subst hP hw hK;obtain⟨h1,h2,⟨a,c,h3⟩,h4,h5⟩:=st;obtain⟨ys,t,⟨xs,zs,q1,q2,rfl⟩,ht⟩:=hg;have hlt:i<xs.length/\i<zs.length:=by
   have:=(List.getElem?_eq_some_iff.mp ht).1;simp at this;nofun
  obtain⟨u1,r1,p1,z1⟩:=I.src q1;obtain⟨u2,r2,p2,z2⟩:=I.src q2;have e1:=r1.length;have e2:=r2.length;have tx:t=[xs[i]'hlt.1,zs[i]'hlt.2]:=by
   rw[List.getElem?_zipWith,YU hlt.1,YU hlt.2] at ht;exact (Yo ht).symm
  refine xt (I.ok.hd hc) Z n1 n2 h1 h2 h3 h4 h5 p1 p2 (by simp;nofun) (by simp;nofun) λx y g tk ex ey c1 c2 c3 c4 c5 c6 c7=>⟨_,rfl,?_⟩
  refine wpAny_letOwnedTupleGo_zip (s:={ s with heap:=g,toks:=tk }) c1 λg2 d1 d2=>?_
  replace d2:Heap.SameBut z g g2:=d2;have zs':z<s.heap.objs.size:=Heap.lt_size h1;have rx:cw (xs[i]'hlt.1) x:=by
   obtain⟨u,hu,ru⟩:=r1.get (YU hlt.1);rw[List.getElem?_toArray,hu] at ex;cases ex;exact ru
  have ry:cw (zs[i]'hlt.2) y:=by
   obtain⟨u,hu,ru⟩:=r2.get (YU hlt.2);rw[List.getElem?_toArray,hu] at ey;cases ey;exact ru
  have hf4:∀b∈[z,TO,i1,i2],nG X pins H b:=λb hb=>hf b (by simp only[Y2,Y3,Y4] at hb ⊢;rcases hb with e|e|e|e<;>simp[e])
  have I4:aR X pins σ (upd H s.heap.objs.size (.tup t)) { s with heap:=g2,toks:=tk }:=by
   rw[tx];exact I.turnT (its:=[x,y]) (λb o hb e=>d2.extBut _ _ (λe'=>hb (by simp[e'])) (c7 b o hb e)) hf4 (Yr _) (show 2<=sizeLine by decide) (.cons rx (.cons ry .nil)) ⟨_,d2.extBut _ _ (Nat.ne_of_gt zs') c5,rfl,_,rfl⟩
  have fr:=I.hok.fresh (Yr s.heap.objs.size);have nk:=I.newK (Yr s.heap.objs.size);have hTI2:IsPair g2 TI (.ref i1) (.ref i2):=d2.extBut _ _ Z.tiz (c7 TI _ (by simp[Z.tiz,Z.tito,Z.ti1,Z.ti2]) h2)
  refine⟨.ref s.heap.objs.size,_,I4,rfl,⟨_,_,rfl,by rw[dU nk];exact fr,lT (aB.upd fr),by rw[dU nk];exact cz,?_⟩,⟨d1,hTI2,⟨_,_,d2.extBut _ _ Z.toz c2⟩,c3.at λo e=>d2.extBut _ _ Z.z1.symm e,c4.at λo e=>d2.extBut _ _ Z.z2.symm e⟩,λb hb=>?_⟩
  .rintro ys ⟨xs',zs',q1',q2',rfl⟩;cases q1.inj q1';cases q2.inj q2';exact ht
  .have:b<s.heap.objs.size:=by
    simp only[Y2,Y3,Y4] at hb;rcases hb with rfl|rfl|rfl|rfl|rfl
    .exact zs'
    .exact Heap.lt_size h3
    .obtain⟨_,e,_⟩:=h4.obj;exact Heap.lt_size e
    .obtain⟨_,e,_⟩:=h5.obj;exact Heap.lt_size e
    .exact Heap.lt_size h2
   rw[aV (Yf this)];exact (hf b hb).1
 done:=by
  intro X hP hw hK hc i pins s σ H E I hf st hg;subst hP hw hK;obtain⟨h1,h2,⟨a,c,h3⟩,h4,h5⟩:=st;obtain⟨ys,⟨xs,zs,q1,q2,rfl⟩,hl⟩:=hg;obtain⟨u1,r1,p1,z1⟩:=I.src q1;obtain⟨u2,r2,p2,z2⟩:=I.src q2;have e1:=r1.length;have e2:=r2.length;have hk:i=u1.toArray.size\/(i<u1.toArray.size/\i=u2.toArray.size):=by
   rw[List.length_zipWith] at hl;simp only[Yu];nofun
  have hf4:∀b∈[z,TO,i1,i2],nG X pins H b:=λb hb=>hf b (by simp only[Y2,Y3,Y4] at hb ⊢;rcases hb with e|e|e|e<;>simp[e])
  exact Bc (I.ok.hd hc) Z n1 n2 h1 h2 h3 h4 h5 p1 p2 hk λg tk k=>⟨rfl,I.turnL k hf4⟩
 self:=λ_ _ _ _ _ st h=>wpAny_pyIter_zip st.1 h
def GP(b:Bool)(l:Addr):Obj:=match b with
 | true=>{ cls:=.type "list_iterator",data:=.fields #[.ref l,.int 0 0] }
 | false=>{ cls:=.type "tuple_iterator",data:=.fields #[.ref l,.int 0 0] }
section
variable {prog:Program}{w:World}{A:Around}{E:Value->Shared->Prop}{s:Shared}
theorem yv{b:Bool}{u:Array Value}(h:fO b s.heap l u)(q:Q (.ref s.heap.objs.size) { s with heap:=s.heap.push (GP b l) }):wpAny (model prog w) A (pyIter (.ref l)) Q E s:=by
 cases b with
 | true=>exact wpAny_pyIter_list h q
 | false=>exact wpAny_pyIter_tuple h q
end
theorem fO.push{b:Bool}{h:Heap}{l:Addr}{u:Array Value}(x:fO b h l u)(o:Obj):fO b (h.push o) l u:=by
 cases b with
 | true=>obtain⟨v,e,r⟩:=x;exact⟨v,Heap.get?_push_of_some _ e,r⟩
 | false=>obtain⟨v,e,r⟩:=x;exact⟨v,Heap.get?_push_of_some _ e,r⟩
theorem jI.new{b:Bool}{it:Addr}(e:h.get? it=some (GP b l)):jI b h it l 0:=by
 cases b with
 | true=>exact⟨_,e,rfl,rfl⟩
 | false=>exact⟨_,e,rfl,rfl⟩
abbrev Lv (h:Heap)(b1:Bool)(l1:Addr):Heap:=h.push (GP b1 l1)
abbrev LB (h:Heap)(b1 b2:Bool)(l1 l2:Addr):Heap:=(Lv h b1 l1).push (GP b2 l2)
abbrev LA (h:Heap)(b1 b2:Bool)(l1 l2:Addr):Heap:=(LB h b1 b2 l1 l2).push { cls:=.type "tuple",data:=.seq #[.ref h.objs.size,.ref (Lv h b1 l1).objs.size] }
abbrev Lk (h:Heap)(b1 b2:Bool)(l1 l2:Addr):Heap:=(LA h b1 b2 l1 l2).push { cls:=.type "tuple",data:=.seq #[.none,.none] }
abbrev JY (h:Heap)(b1 b2:Bool)(l1 l2:Addr):Heap:=(Lk h b1 b2 l1 l2).push { cls:=.type "zip",data:=.fields #[.none,.bool false,.bool false,.ref (LB h b1 b2 l1 l2).objs.size,.ref (LA h b1 b2 l1 l2).objs.size] }
theorem xP(b1 b2:Bool)(l1 l2:Addr)(u1 u2:Array Value):
  Meets (Builtin.«zip.__new__» ⟨[.type "zip",.ref l1,.ref l2],[]⟩) (λ_ R s=>fO b1 s.heap l1 u1/\fO b2 s.heap l2 u2/\R (.ok (.ret (.ref (Lk s.heap b1 b2 l1 l2).objs.size))) { s with heap:=JY s.heap b1 b2 l1 l2 }) :=
 .of_wp λprog w A R s h=>by
  obtain⟨hp,g,d,tk,os⟩:=s;obtain⟨q1,q2,h⟩:=h;have hsub:=sub_zip;have y1:fO b1 (Shared.heap ⟨hp,g,d,tk,os⟩) l1 u1:=q1;have y2:fO b2 (Shared.heap ⟨hp.push (GP b1 l1),g,d,tk,os⟩) l2 u2:=fO.push q2 _
  wp_walk using yv y1,yv y2
  exact⟨_,rfl,h⟩
section
variable {prog:Program}{w:World}{A:Around}{E:Value->Shared->Prop}{s:Shared}
theorem KQ{b1 b2:Bool}{l1 l2:Addr}{u1 u2:Array Value}(q1:fO b1 s.heap l1 u1)(q2:fO b2 s.heap l2 u2)
  (h:∀g,IsZip g (s.heap.objs.size+4) (s.heap.objs.size+2) (s.heap.objs.size+3) .none->IsPair g (s.heap.objs.size+2) (.ref s.heap.objs.size) (.ref (s.heap.objs.size+1))->IsPair g (s.heap.objs.size+3) .none .none ->
   jI b1 g s.heap.objs.size l1 0->jI b2 g (s.heap.objs.size+1) l2 0->(∀c o,s.heap.get? c=some o->g.get? c=some o)->Q (.ref (s.heap.objs.size+4)) { s with heap:=g }) :
  wpAny (model prog w) A (call (.type "zip") [.ref l1,.ref l2]) Q E s:=by
 refine callType_new F.called_zip ∅ (F.typeCall_zip_2 _ _) (F.newCall_zip_2 _ _) (λobj=>F.args_object_init_3 obj _ _) F.entry_zip_new (xP b1 b2 l1 l2 u1 u2) ⟨q1,q2,?_⟩;have v1:(Lv s.heap b1 l1).objs.size=s.heap.objs.size+1:=Heap.size_push ..;have v2:(LB s.heap b1 b2 l1 l2).objs.size=s.heap.objs.size+2:=by rw[Heap.size_push,v1]
 have v3:(LA s.heap b1 b2 l1 l2).objs.size=s.heap.objs.size+3:=by rw[Heap.size_push,v2]
 have v4:(Lk s.heap b1 b2 l1 l2).objs.size=s.heap.objs.size+4:=by rw[Heap.size_push,v3]
 have g5:(JY s.heap b1 b2 l1 l2).get? (Lk s.heap b1 b2 l1 l2).objs.size=some _:=Heap.get?_push_size _ rfl;have g4:(JY s.heap b1 b2 l1 l2).get? (LA s.heap b1 b2 l1 l2).objs.size=some _:=Heap.get?_push_of_some _ (Heap.get?_push_size _ rfl);have g3:(JY s.heap b1 b2 l1 l2).get? (LB s.heap b1 b2 l1 l2).objs.size=some _:=Heap.get?_push_of_some _ (Heap.get?_push_of_some _ (Heap.get?_push_size _ rfl));have nf:∀b l,(GP b l).isFreed=false:=λb l=>by cases b<;>rfl
 have g2:(JY s.heap b1 b2 l1 l2).get? (Lv s.heap b1 l1).objs.size=some (GP b2 l2):=Heap.get?_push_of_some _ (Heap.get?_push_of_some _ (Heap.get?_push_of_some _ (Heap.get?_push_size _ (nf _ _))));have g1:(JY s.heap b1 b2 l1 l2).get? s.heap.objs.size=some (GP b1 l1):=Heap.get?_push_of_some _ (Heap.get?_push_of_some _ (Heap.get?_push_of_some _ (Heap.get?_push_of_some _ (Heap.get?_push_size _ (nf _ _)))));show _/\_;rw[v2,v3,v4] at g5;rw[v1,v2] at g3;rw[v3] at g4;rw[v1] at g2;rw[v4];exact⟨⟨_,g5,rfl⟩,h _ g5 g3 g4 (.new g1) (.new g2) λc o x=>Heap.get?_push_of_some _ (Heap.get?_push_of_some _ (Heap.get?_push_of_some _ (Heap.get?_push_of_some _ (Heap.get?_push_of_some _ x))))⟩
end
def Ag(K:Sf)(ta:TA):TI:=λσ H R=>ta σ H λvs H1=>∃a b,vs=[.ref a,.ref b] /\ ∃c d,(∃xs,qH K c H1 a xs)/\(∃ys,qH K d H1 b ys)/\R (Ii K (KC K c d a b)) H1
theorem Ja{elts:List Expr}{tp p:Pos}{b:Expr}(hg:Gl X "zip")(hm:X.mg "zip"=none)(ha:PA X [a,b] ta)(hs:starEach [a,b] X.env=[(false,eval a X.env),(false,eval b X.env)]:=by rfl)(hs2:starEach [b] X.env=[(false,eval b X.env)]:=by rfl):
  PI X (.Tuple elts x1 tp) (.Call (.Name "zip" p) [a,b] [] pos) (Ag X.K ta):=by
 intro pins s σ H R I h;refine Call_ (jn I hg hm IW (Ys (dc (ha pos pins s σ H _ I h) λus s1 ⟨vs,H1,I1,r1,q1⟩=>?_) (by rw[hs,hs2]) (by rw[hs2];rfl)))
 obtain⟨l1,l2,e,c,d,⟨xs,hx⟩,⟨ys,hy⟩,q⟩:=q1;subst e;cases r1 with
 | cons r rr =>
  cases rr with
  | cons r' rr =>
   cases rr;cases r;cases r';obtain⟨u1,t1,p1,_⟩:=I1.src hx;obtain⟨u2,t2,p2,_⟩:=I1.src hy;refine KQ p1 p2 λg c1 c2 c3 c4 c5 k=>?_;refine wpAny_pyIter_zip (s:={ s1 with heap:=g }) c1 ?_
   have m1:l1<s1.heap.objs.size:=by obtain⟨_,e⟩:=p1.obj;exact Heap.lt_size e
   have m2:l2<s1.heap.objs.size:=by obtain⟨_,e⟩:=p2.obj;exact Heap.lt_size e
   refine⟨_,_,_,_,H1,rfl,I1.kept (t':=s1.toks) k,DD _ _ _ _ _ l1 l2 (ME m1 m2) (Yf m1) (Yf (Nat.lt_succ_of_lt m2)),⟨c1,c2,⟨_,_,c3⟩,c4,c5⟩,λf hf=>?_,q⟩;have hf':s1.heap.objs.size<=f:=by
    simp only[Y2,Y3,Y4] at hf;rcases hf with z|z|z|z|z<;>rw[z]
    .exact Nat.le_add_right _ 4
    .exact Nat.le_add_right _ 3
    .exact Yr _
    .exact Nat.le_add_right _ 1
    .exact Nat.le_add_right _ 2
   exact I1.fpOk hf' (I1.hok.fresh hf')
theorem xS{elts:List Expr}{tp p:Pos}{b:Expr}(hg:Gl X "zip")(hm:X.mg "zip"=none)(ha:QA X [a,b] ta)(hs:starEach [a,b] X.env=[(false,eval a X.env),(false,eval b X.env)]:=by rfl)(hs2:starEach [b] X.env=[(false,eval b X.env)]:=by rfl):
  QI X (.Tuple elts x1 tp) (.Call (.Name "zip" p) [a,b] [] pos) (Ag X.K ta):=⟨Ja hg hm ha.h hs hs2⟩
section
variable {X:Cx}{pins:List (Addr×Obj)}{σ:St}{H:Hp}{s:Shared}
theorem aR.kitx(I:aR X pins σ H s){x:V}{u:Value}{n:String}(rx:cw x u)(hn:El (vw X.K H) x=some n):
  ∃G:Heap->Prop,PySem.W.KitX X.K u (.type n) G/\G s.heap/\u ≠ .builtin "__main__.__loader__#opaque" /\ xA n:=by
 cases x with
 | non=>cases hn;cases (show u=Value.none from rx);exact⟨_,PySem.W.kitx_none,True.intro,(λz=>nomatch z),.inl rfl⟩
 | bl b=>cases hn;cases (show u=Value.bool b from rx);exact⟨_,PySem.W.kitx_bool,True.intro,(λz=>nomatch z),.inr (.inl rfl)⟩
 | int b=>cases hn;obtain⟨t,q⟩:=(show ∃t,u=Value.int b t from rx);cases q;exact⟨_,PySem.W.kitx_int,True.intro,(λz=>nomatch z),.inr (.inr (.inl rfl))⟩
 | str b=>cases hn;obtain⟨t,q⟩:=(show ∃t,u=Value.str b t from rx);cases q;exact⟨_,PySem.W.kitx_str,True.intro,(λz=>nomatch z),.inr (.inr (.inr (.inl rfl)))⟩
 | flt b=>cases hn
 | byt b=>cases hn
 | ty b=>cases hn
 | ref a =>
  cases (show u=Value.ref a from rx)
  unfold El at hn;dsimp only at hn;split at hn
  .rename_i xs e
   cases hn;obtain⟨_,_,k,_,h1⟩:=(show dO X.prog X.w H s.heap a (.lst xs) from I.hok a _ (aN e))
   exact⟨_,PySem.W.kitx_list,⟨_,h1,rfl⟩,(λz=>nomatch z),.inr (.inr (.inr (.inr (.inl rfl))))⟩
  .rename_i o xs e
   cases hn;obtain⟨h0,h1⟩:=(show dO X.prog X.w H s.heap a (.frz o (.lst xs)) from I.hok a _ (i4 e λ_ z=>by cases z))
   obtain⟨_,_,k,_,h1⟩:=h1;exact⟨_,PySem.W.kitx_list,⟨_,h1,rfl⟩,(λz=>nomatch z),.inr (.inr (.inr (.inr (.inl rfl))))⟩
  .rename_i ys e
   cases hn;obtain⟨its,rv,⟨o,h1,h2,_⟩,hz⟩:=I.tuple (hU e);exact⟨_,PySem.W.kitx_tuple,⟨o,h1,h2⟩,(λz=>nomatch z),.inr (.inr (.inr (.inr (.inr (.inl rfl)))))⟩
  .rename_i kvs e
   cases hn;obtain⟨_,_,vs,_,d⟩:=(show dO X.prog X.w H s.heap a (.dK kvs) from I.hok a _ (i4 e λ_ z=>by cases z))
   obtain⟨o,es,ep,h1,h2,_⟩:=d;exact⟨_,PySem.W.kitx_dict,⟨o,h1,h2.1⟩,(λz=>nomatch z),.inr (.inr (.inr (.inr (.inr (.inr rfl)))))⟩
  .cases hn
theorem HA{n:String}(hn:xA n):PySem.W.kitAny K (.type n) [.type "tuple",.type "list"]=some (gA n "tuple" || gA n "list"):=by
 rcases hn with rfl|rfl|rfl|rfl|rfl|rfl|rfl<;>rfl
theorem rB:ei X (.builtin "isinstance") (λxs H Q=>∃x n p,xs=[x,.ref p]/\vw X.K H p=some (.tup [.ty "tuple",.ty "list"])/\El (vw X.K H) x=some n/\Q (.bl (gA n "tuple" || gA n "list")) H):=by
 intro pins s σ H xs us Q I r h;obtain⟨x,n,p,rfl,hp,hn,q⟩:=h;obtain⟨u,w',rfl,rx,ry⟩:=wr r;cases ry;obtain⟨G,Z,g,hu,tn⟩:=I.kitx rx hn;obtain⟨its,rv,⟨o,h1,h2,k,h3⟩,hz⟩:=I.tuple (hU hp);obtain⟨oc,od,odt,osl⟩:=o;dsimp only at h2 h3;subst h2 h3;cases rv with
 | cons r1 rv =>
  cases rv with
  | cons r2 rv =>
   cases rv;cases r1;cases r2;exact PySem.W.kia_tup Z I.kIn g h1 (HA tn) hu λtk=>⟨.bl _,H,I.tok tk,rfl,q⟩
theorem y7:∀{bs:List Bool}{us:List Value},bJ (bs.map V.bl) us->us=bs.map Value.bool
 | [],us,h=>by cases h;rfl
 | b::bs,us,h=>by
  cases h with
  | cons r rr =>
   cases r;rw[y7 rr];rfl
theorem Av{bs:List Bool}:(List.range bs.length).all (λi=>bs.getD i true)=bs.all id:=by
 induction bs with
 | nil=>rfl
 | cons b bs ih =>
  rw[Y8,List.range_succ_eq_map,List.all_cons,List.all_cons,List.all_map];have e:((λi=>(b::bs).getD i true) ∘ Nat.succ)=λi=>bs.getD i true:=by
   funext i;simp
  rw[e,ih];rfl
theorem AI(hh:X.calm=true):ei X (.builtin "all") (λxs H Q=>∃p,xs=[.ref p] /\ ∃bs:List Bool,vw X.K H p=some (.lst (bs.map V.bl))/\Q (.bl (bs.all id)) H):=by
 intro pins s σ H xs us Q I r h;obtain⟨p,rfl,bs,hp,q⟩:=h;cases r with
 | cons r1 rr =>
  cases rr;cases r1;obtain⟨its,rv,pl,hz⟩:=I.list (jx.of (K:=X.K) (aN hp));have e:=y7 rv;subst e;have hlt:p<s.heap.objs.size:=by obtain⟨o,n,e1,_⟩:=pl;exact Heap.lt_size e1
  refine call_all_walk (wpAny_pyIter_list pl.isList ⟨s.heap.objs.size,_,_,_,_,_,λi=>bs.getD i true,rfl,Walks.list (show X.A.in1.handled=none from I.ok.hd hh) _ p (Yf hlt) _,⟨⟨_,Heap.get?_push_size _ rfl,rfl,rfl⟩,pl.isList.push _⟩,?_,λh' tk hk=>?_⟩)
  .intro i v s' Q' E' hv hq;have hv':(bs.map Value.bool)[i]? = some v:=by simpa using hv
   rw[YC] at hv';cases hb:bs[i]? with
   | none=>rw[hb] at hv';cases hv'
   | some b =>
    rw[hb] at hv';cases hv';replace hq:Q' (bs.getD i true) s':=hq;rw[Xe,hb] at hq;exact wpAny_truthy_bool hq
  .rw[Yu,YF,Av];refine⟨.bl _,H,I.kept λb o e=>hk b o (λz=>?_) (Heap.get?_push_of_some _ e),rfl,q⟩;rw[List.mem_singleton.mp z] at e;exact absurd (Heap.lt_size e) (Ye _)
end
def Em(K:Sf)(a:Addr)(σr:St)(Pv:List V->Hp->Prop):St->Hp->Prop:=λσ H=>(∃y z,σ=y::z::σr) /\ ∃xs,vw K H a=some (.lst xs)/\Pv xs H
theorem ot{R:Hp->List (List V)->Prop}{ps:List (V×V)}{tif:TT}{a:Addr}{x0 x1:Option V}{σr:St}{H0:Hp}{Q:Hp->Prop}(Pv:Nat->List V->Hp->Prop)
  (hl:∀i xs H,i<=ps.length->vw K H a=some (.lst xs)->Pv i xs H->R H (ps.map λp=>[p.1,p.2]))(ha:vw K H0 a=some (.lst []))(h0:Pv 0 [] H0)
  (hs:∀i x y xs H H',i<ps.length->ps[i]? = some (x,y)->vw K H' a=some (.lst xs)->Pv i xs H->aB (vw K H) (vw K H')->tif (some x::some y::σr) H' λb H3=>if b=true then te (some x::some y::σr) H3 (Iz K a (Em K a σr (Pv (i+1)) (some x::some y::σr))) else Em K a σr (Pv (i+1)) (some x::some y::σr) H3)
  (hd:∀xs H,vw K H a=some (.lst xs)->Pv ps.length xs H->Q H):oh K (Ii K R) (jw K 2 (jH (gj 0) (jH (gj 1) wk))) tif te a (x0::x1::σr) H0 Q:=by
 refine⟨λi m σ H=>m=ps.length-i/\i<=ps.length/\Em K a σr (Pv i) σ H,⟨ps.length,by simp,YO _,⟨_,_,rfl⟩,_,ha,h0⟩,?_⟩
 rintro i m σ H ⟨rfl,hi,⟨y,z,rfl⟩,xs,hxs,p⟩;have q:=hl i xs H hi hxs p;by_cases hlt:i<ps.length
 .refine .inr ⟨⟨_,_,q,by rw[YC,YU hlt];rfl⟩,Em K a σr (Pv (i+1)),λσ' H' p'=>⟨ps.length-(i+1),(),rfl,hlt,p'⟩,λx H' y=>?_⟩
  obtain⟨b,t,rfl,y1,y2,y3,y4⟩:=y;have e:=y4 _ q;rw[YC,YU hlt] at e;cases e;exact⟨b,rfl,_,y3,rfl,_,_,rfl,_,_,rfl,rfl,hs i _ _ xs H H' hlt (YU hlt) (y2 _ _ hxs) p y2⟩
 .have e:i=ps.length:=();subst e;exact .inl ⟨⟨_,q,by simp⟩,hd xs H hxs p⟩
theorem Iz.mk2{a:Addr}{σr:St}{Pv:List V->Hp->Prop}{x y:Option V}(h:vw K H a=some (.lst xs))(hz:xs.length<sizeLine)
  (q:∀H5,eJ a (vw K H) (vw K H5)->vw K H5 a=some (.lst (xs++[v]))->Pv (xs++[v]) H5):Iz K a (Em K a σr Pv (x::y::σr)) v H:=⟨xs,h,hz,λH5 B h5=>⟨⟨_,_,rfl⟩,_,h5,q H5 B h5⟩⟩
theorem qL:List.zipWith (λx z=>[x,z]) xs ys=(xs.zip ys).map λp=>[p.1,p.2]:=by
 rw[List.zip,List.map_zipWith]
def D.sm:Nat->D->Bool
 | 0,_=>false
 | n+1,.tup ds=>decide (ds.length<=1000) && ds.all (D.sm n)
 | n+1,.lst ds=>decide (ds.length<=1000) && ds.all (D.sm n)
 | _+1,.dict=>false
 | _+1,_=>true
theorem Kz{q:Int×Int}:(fr q).sm (n+2)=true:=rfl
theorem CQ(h:qs.length<=1000):(D.lst (qs.map fr)).sm (n+3)=true:=by
 show (decide ((qs.map fr).length<=1000) && (qs.map fr).all (D.sm (n+2)))=true;rw[YF,YS h,Bool.true_and];refine List.all_eq_true.mpr λd hd=>?_;obtain⟨q,_,rfl⟩:=List.mem_map.mp hd;exact Kz
theorem Ir{ds:List D}(r1:aF H ds xs)(r2:aF H ds ys){i:Nat}{x y:V}(h:(xs.zip ys)[i]? = some (x,y)):∃d,d∈ds/\aI H d x/\aI H d y:=by
 rw[List.getElem?_zip_eq_some] at h;obtain⟨d,e1,q1⟩:=r1.get h.1;obtain⟨d',e2,q2⟩:=r2.get h.2;rw[e1] at e2;cases e2;exact⟨d,YD e1,q1,q2⟩
def wv(q:Int×Int):Rat:=(q.1:Rat)/(q.2:Rat)
theorem ao(h:b≠0):(b:Rat)≠0:=by simpa using h
theorem io{a:Int}(hb:b≠0):wv (lo a b)=(a:Rat)/(b:Rat):=by
 have e1:=fB (a:=a) hb;have e2:=fM (a:=a) hb;have hg:=ao (Cf (a:=a) hb);have hd:(lo a b).2≠0:=by have:=(ix (a:=a) hb).1;nofun
 have hd':=ao hd;have c1:((lo a b).1:Rat)*(lg a b:Rat)=(a:Rat):=by
  have:=Yp (λi:Int=>(i:Rat)) e1;simpa using this
 have c2:((lo a b).2:Rat)*(lg a b:Rat)=(b:Rat):=by
  have:=Yp (λi:Int=>(i:Rat)) e2;simpa using this
 unfold wv;rw[<-c1,<-c2];grind
theorem zh{a c:Int}(h:b∣a*c)(hg:Int.gcd a b=1):b∣c:=by
 have h1:b.natAbs∣a.natAbs*c.natAbs:=by
  rw[<-YZ];exact Int.natAbs_dvd_natAbs.mpr h
 have h2:Nat.Coprime b.natAbs a.natAbs:=by
  unfold Nat.Coprime;rw[Nat.gcd_comm];exact hg
 exact Int.natAbs_dvd_natAbs.mp (Nat.Coprime.dvd_of_dvd_mul_left h2 h1)
theorem lA{q:Int×Int}(hp:Fq p)(hq:Fq q)(h:wv p=wv q):p=q:=by
 have h1:=ao (show p.2≠0 by have:=hp.1;nofun)
 have h2:=ao (show q.2≠0 by have:=hq.1;nofun)
 have e:p.1*q.2=q.1*p.2:=by
  unfold wv at h;have:(p.1:Rat)*(q.2:Rat)=(q.1:Rat)*(p.2:Rat):=⋯;have h3:‹p.1*q.2›=‹q.1*p.2›:=by simpa using this
  exact Rat.intCast_inj.mp h3
 have d1:p.2∣q.2:=by
  have:p.2∣p.1*q.2:=⟨q.1,by rw[e,Xd]⟩
  exact zh this hp.2
 have d2:q.2∣p.2:=by
  have:q.2∣q.1*p.2:=⟨p.1,by rw[<-e,Xd]⟩
  exact zh this hq.2
 have e2:p.2=q.2:=Int.dvd_antisymm (YX hp.1) (YX hq.1) d1 d2;rw[e2] at e;have e1:p.1=q.1:=Xf (by have:=hq.1;nofun) e
 exact Prod.ext e1 e2
theorem lP{q:Int×Int}(hp:p.2≠0)(hq:q.2≠0):wv (mh p q)=wv p+wv q:=by
 unfold mh;rw[io (Xg hp hq)];unfold wv;have h1:=ao hp;have h2:=ao hq;simp only[Xh,Xi];grind
def mS(p q:Int×Int):Int×Int:=lo (p.1*q.1) (p.2*q.2)
theorem gG{q:Int×Int}(hp:Fq p)(hq:Fq q):Fq (mS p q):=ix (by have:=Xb hp.1 hq.1;nofun)
theorem kr{q:Int×Int}(hp:Fq p)(hq:Fq q)(h1:Bq m p)(h2:Bq n q):Bq (m+n) (mS p q):=ox (by have:=Xb hp.1 hq.1;nofun) (h1.1.mul h2.1) (h1.2.mul h2.2)
theorem i7{q:Int×Int}(hp:p.2≠0)(hq:q.2≠0):wv (mS p q)=wv p*wv q:=by
 unfold mS;rw[io (Xg hp hq)];unfold wv;have h1:=ao hp;have h2:=ao hq;simp only[Xi];grind
section
variable {X:Cx}
def ml:List Int->Int
 | []=>0
 | a::as=>a+ml as
theorem pZ(as bs:List Int):ml (as++bs)=ml as+ml bs:=by
 induction as with
 | nil=>simp[ml]
 | cons a as ih=>simp only[List.cons_append,ml,ih];nofun
theorem oF(ns:List Int):∀k,k<=ns.length->preSum (λi=>ns.getD i 0) k=ml (ns.take k)
 | 0,_=>rfl
 | k+1,h=>by
  have hk:k<ns.length:=();show preSum _ k+ns.getD k 0=_;rw[oF ns k (),Xj,YU hk,pZ];simp[ml,Xe,YU hk]
theorem wF:∀{ns:List Int}{us:List Value},bJ (ns.map V.int) us -> ∀{i:Nat}{v:Value},us[i]? = some v -> ∃t,v=.int (ns.getD i 0) t
 | [],us,h,i,v,e=>by cases h;cases e
 | n::ns,us,h,i,v,e=>by
  cases h with
  | cons r rr =>
   cases i with
   | zero =>
    cases e;obtain⟨t,rfl⟩:=r;exact⟨t,rfl⟩
   | succ i =>
    obtain⟨t,q⟩:=wF rr (i:=i) e;exact⟨t,by rw[q];simp⟩
theorem sk(hh:X.calm=true):ei X (.builtin "sum") (λxs H Q=>∃p,xs=[.ref p] /\ ∃ns:List Int,vw X.K H p=some (.lst (ns.map V.int))/\Q (.int (ml ns)) H):=by
 intro pins s σ H xs us Q I r h;obtain⟨p,rfl,ns,hp,q⟩:=h;cases r with
 | cons r1 rr =>
  cases rr;cases r1;obtain⟨its,rv,pl,hz⟩:=I.list (jx.of (K:=X.K) (aN hp));have hl:=rv.length;rw[YF] at hl;have hlt:p<s.heap.objs.size:=by obtain⟨o,n,e1,_⟩:=pl;exact Heap.lt_size e1
  refine call_sum_walkG (wpAny_pyIter_list pl.isList ⟨s.heap.objs.size,_,_,_,_,_,λi=>ns.getD i 0,rfl,Walks.list (show X.A.in1.handled=none from I.ok.hd hh) _ p (Yf hlt) _,⟨⟨_,Heap.get?_push_size _ rfl,rfl,rfl⟩,pl.isList.push _⟩,?_,λi v hv=>wF rv (by simpa using hv),λh' tk t' hk=>?_⟩)
  .intro b hb;show b<(s.heap.push _).objs.size;rw[Heap.size_push];simp only[Y2,Y3,Y4] at hb;rcases hb with e|e
   .rw[e];exact Nat.lt_succ_self _
   .rw[e];exact Nat.lt_succ_of_lt hlt
  .refine⟨.int (ml ns),H,I.kept λb o e=>hk b o (λz=>?_) (Heap.get?_push_of_some _ e),⟨t',?_⟩,q⟩
   .rw[List.mem_singleton.mp z] at e;exact absurd (Heap.lt_size e) (Ye _)
   .rw[Yu,<-hl,oF ns _ (Yr _),Xl]
theorem pG:G3 X .Mult (λx y H Q=>∃i j,x=.int i/\y=.int j/\IntMulOk i j/\Q (.int (i*j)) H):=by
 intro pins s σ H x y v u Q I r1 r2 h;obtain⟨i,j,rfl,rfl,m,q⟩:=h;obtain⟨t,rfl⟩:=r1;obtain⟨t',rfl⟩:=r2;exact imul_int ⟨.int _,H,I.tok _,⟨_,rfl⟩,q⟩ m
theorem jW{st:Stmt}:QS X st xc:=⟨CU⟩
theorem CY:bootBuiltins "sum"=some (.builtin "sum"):=by decide +kernel
end
theorem qY{J:It}{its:List V}{ps:List (V×V)}{tif:TT}{a:Addr}{x0 x1:Option V}{σr:St}{H0:Hp}{Q:Hp->Prop}(Pv:Nat->List V->Hp->Prop)(hlen:its.length=ps.length)
  (hl:∀i xs H,i<=its.length->vw K H a=some (.lst xs)->Pv i xs H->qb J H its /\ ∀(j:Nat)(x y:V),ps[j]? = some (x,y) -> ∃p:Addr,its[j]? = some (V.ref p)/\vw K H p=some (HO.tup [x,y]))(ha:vw K H0 a=some (.lst []))(h0:Pv 0 [] H0)
  (hs:∀i x y xs H,i<ps.length->ps[i]? = some (x,y)->vw K H a=some (.lst xs)->Pv i xs H->tif (some x::some y::σr) H λb H3=>if b=true then te (some x::some y::σr) H3 (Iz K a (Em K a σr (Pv (i+1)) (some x::some y::σr))) else Em K a σr (Pv (i+1)) (some x::some y::σr) H3)
  (hd:∀xs H,vw K H a=some (.lst xs)->Pv ps.length xs H->Q H):oh K J (jw K 2 (jH (gj 0) (jH (gj 1) wk))) tif te a (x0::x1::σr) H0 Q:=by
 refine⟨λi m σ H=>m=ps.length-i/\i<=ps.length/\Em K a σr (Pv i) σ H,⟨ps.length,by simp,YO _,⟨_,_,rfl⟩,_,ha,h0⟩,?_⟩
 rintro i m σ H ⟨rfl,hi,⟨y,z,rfl⟩,xs,hxs,p⟩;obtain⟨⟨q1,q2,q3⟩,q4⟩:=hl i xs H () hxs p;by_cases hlt:i<ps.length
 .refine .inr ⟨q1 i (),Em K a σr (Pv (i+1)),λσ' H' p'=>⟨ps.length-(i+1),(),rfl,hlt,p'⟩,λx H' y=>?_⟩;obtain⟨e,y2⟩:=q2 i x H' () y;subst e;obtain⟨b,e1,e2⟩:=q4 i _ _ (YU hlt);rw[e1] at y2;cases y2;exact⟨b,rfl,_,e2,rfl,_,_,rfl,_,_,rfl,rfl,hs i _ _ xs _ hlt (YU hlt) hxs p⟩
 .have e:i=ps.length:=();subst e;exact .inl ⟨hlen▸q3,hd xs H hxs p⟩
theorem gg{g q:Int}(hg:g≠0)(h:g∣q):q.fdiv g*g=q:=by
 obtain⟨m,rfl⟩:=h;rw[Xd g m,Int.mul_fdiv_cancel m hg]
theorem yW{a:Int}(ha:0<=a)(hb:1<=b):a<=a*b:=by
 have:=Int.mul_le_mul_of_nonneg_left hb ha;nofun
theorem vW{q:Int}(hb:0<b)(hq:0<q):0<q.fdiv (Int.gcd b q:Int)/\q.fdiv (Int.gcd b q:Int)<=q/\q∣b*q.fdiv (Int.gcd b q:Int)/\(Int.gcd b q:Int)≠0/\(Int.gcd b q:Int)<=q:=by
 have hg:(Int.gcd b q:Int)≠0:=by
  have:Int.gcd b q≠0:=λe=>by
   have:=(Int.gcd_eq_zero_iff.mp e).2;nofun
  nofun
 have hg0:0<(Int.gcd b q:Int):=();have e:=gg hg (Int.gcd_dvd_right b q);have hle:(Int.gcd b q:Int)<=q:=Int.le_of_dvd hq (Int.gcd_dvd_right b q);generalize q.fdiv (Int.gcd b q:Int)=c at e;obtain⟨m,hm⟩:=Int.gcd_dvd_left b q;have hc:0<c:=by
  refine Xm ?_ hg0;rw[e];exact hq
 refine⟨hc,?_,⟨m,?_⟩,hg,hle⟩
 .rw[<-e];exact yW () ()
 .rw[<-e];generalize (Int.gcd b q:Int)=g at *
  rw[hm];rw[Int.mul_right_comm,Xd c g]
theorem Bt.le{x y:Int}(h:Bt n y)(h0:0<=x)(hl:x<=y):Bt n x:=by
 unfold Bt at *
 nofun
theorem vM{q:Int×Int}{D:Int}(hq:Fq q)(hd:q.2∣D)(hD:0<D)(b1:Bt m D)(b2:Bt n q.1):‹q.1*D.fdiv q.2›=wv q*(D:Rat)/\Bt (m+n) (q.1*D.fdiv q.2)/\Bt m (D.fdiv q.2):=by
 have h2:q.2≠0:=by have:=hq.1;nofun
 have e:=gg h2 hd;have hp:0<D.fdiv q.2:=by
  refine Xm ?_ hq.1;rw[e];exact hD
 have hle:D.fdiv q.2<=D:=by
  have:=yW (YX hp) (show 1<=q.2 by have:=hq.1;nofun)
  rw[e] at this;exact this
 have bm:=b1.le (YX hp) hle;refine⟨?_,(b2.mul bm).mono (),bm⟩;generalize D.fdiv q.2=c at *
 have h3:=ao h2;rw[<-e];unfold wv;simp only[Xi];grind
def aQ(x:Rat):Nat->Rat
 | 0=>1
 | k+1=>aQ x k*x
def kH:List mO->Nat->Rat
 | [],_=>0
 | c::cs,k=>wv c.2*aQ (wv c.1) k+kH cs k
theorem qN{G:Hp}:∀{cs:List mO}{xs:List V},aF G (cs.map qZ) xs -> ∃ps:List (V×V),ps.length=cs.length/\(∀(j:Nat)(x y:V),ps[j]? = some (x,y) -> ∃p:Addr,xs[j]? = some (V.ref p)/\G p=some (HO.tup [x,y])) /\
  aF G ((cs.map (·.1)).map fr) (ps.map (·.1))/\aF G ((cs.map (·.2)).map fr) (ps.map (·.2))
 | [],xs,h=>⟨[],rfl,by simp,.mk_nil,.mk_nil⟩
 | c::cs,xs,h=>by
  obtain⟨x,r,rfl,h1,h2⟩:=aF.cons_at h;obtain⟨ps,e1,e2,e3,e4⟩:=qN h2;obtain⟨a,u,v,rfl,ha,r1,r2⟩:=h1.spt_at;refine⟨(u,v)::ps,by simp[e1],λj x y e=>?_,.mk_cons r1 e3,.mk_cons r2 e4⟩
  cases j with
  | zero=>cases e;exact⟨a,rfl,ha⟩
  | succ j=>exact e2 j x y e
theorem gM(x:Rat)(k:Nat):aQ x (k+1)=aQ x k*x:=rfl
def m5:Lt->Rat
 | []=>0
 | q::qs=>wv q+m5 qs
theorem By(as bs:Lt):m5 (as++bs)=m5 as+m5 bs:=by
 induction as with
 | nil=>show m5 bs=0+m5 bs;grind
 | cons a as ih=>show wv a+m5 (as++bs)=wv a+m5 as+m5 bs;rw[ih];grind
theorem u8{k:Nat}:∀{cs:List mO}{qs:Lt},qs.length=cs.length->(∀(i:Nat)(q:Int×Int)(c:mO),qs[i]? = some q->cs[i]? = some c->wv q=wv c.2*aQ (wv c.1) k)->m5 qs=kH cs k
 | [],[],_,_=>rfl
 | [],_::_,h,_=>by simp at h
 | _::_,[],h,_=>by simp at h
 | c::cs,q::qs,h,hw=>by
  show wv q+m5 qs=wv c.2*aQ (wv c.1) k+kH cs k;rw[u8 (cs:=cs) (qs:=qs) (by simpa using h) λi n d e1 e2=>hw (i+1) n d (by simpa using e1) (by simpa using e2),hw 0 q c rfl rfl]
theorem j4{d:D}(h:d.cmp):Co d d=true:=SeqAt.eqv_refl _ h.1
def LX(K:Sf)(a:Addr)(n:Nat):It :=
 ⟨λi H=>∃xs,jx K H a xs/\xs.length=n/\i<n,λi H x H'=>H'=H /\ ∀xs,jx K H a xs->xs[n-1-i]? = some x,λi _=>i=n⟩
theorem Dm(a it:Addr)(n:Nat):xY P w K tg (LX K a n) [it] it (λi h=>h.IsRevIter it a ((n:Int)-1-(i:Int))) where
 mem:=by simp
 obj:=λi h st b hb=>by
  have e:b=it:=by simpa using hb
  subst e;obtain⟨o,e,c,d⟩:=st;exact⟨o,e,λv z=>by rw[d] at z;cases z⟩
 keep:=λi h h' st k=>st.at λo e=>k it (by simp) o e
 item:=by
  intro X hP hw hK hc i pins s σ H E I hf st hg;subst hP hw hK;obtain⟨xs,hq,hl,hi⟩:=hg;obtain⟨its,rv,p,hz⟩:=I.list hq;have hx:xs[n-1-i]? = some (xs[n-1-i]'()):=YU ();obtain⟨u,hu,ru⟩:=rv.get hx;obtain⟨f0,f1,f2,f3,f4,f5⟩:=hf it (by simp)
  have e:(n:Int)-1-(i:Int)=((n-1-i:Nat):Int):=();have st2:s.heap.IsRevIter it a ((n-1-i:Nat):Int):=e▸st;refine wpAny_pyNext_rev_item st2 p.isList (x:=u) (by simpa using hu) λh' st' sb=>?_
  have I1:aR X pins σ H { s with heap:=h' }:=I.turned (t':=s.toks) (λb o hb e=>(sb.2 b hb).trans e) f0 f1 f3 f4 f5
  obtain⟨o,e1,c,d⟩:=id st';refine⟨u,rfl,zY (s:={ s with heap:=h' }) e1 c d ∅ ⟨_,H,I1,ru,⟨rfl,λys hy=>by rw[I.list_inj hy hq];exact hx⟩,?_,λb hb=>(hf b hb).1⟩⟩
  rw[show (n:Int)-1-((i+1:Nat):Int)=((n-1-i:Nat):Int)-1 by nofun]
  exact st'
 done:=by
  intro X hP hw hK hc i pins s σ H E I hf st hg;subst hP hw hK;have hg':i=n:=hg;subst hg';obtain⟨f0,f1,f2,f3,f4,f5⟩:=hf it (by simp)
  have st2:s.heap.IsRevIter it a (-1):=by
   have e:(i:Int)-1-(i:Int) = -1:=();exact e▸st
  exact wpAny_pyNext_rev_end (I.ok.hd hc) st2 λh' eb=>⟨rfl,I.turned (t':=s.toks) (λb o hb e=>eb b o hb e) f0 f1 f3 f4 f5⟩
 self:=λ_ _ _ _ _ st h=>wpAny_pyIter_revIter st h
def IB(K:Sf)(ta:TA):TI:=λσ H R=>ta σ H λvs H1=>∃a,vs=[.ref a] /\ ∃xs,vw K H1 a=some (.lst xs)/\R (LX K a xs.length) H1
theorem Il{p:Pos}(hg:Gl X "reversed")(hm:X.mg "reversed"=none)(ha:PA X [a] ta)(hs:starEach [a] X.env=[(false,eval a X.env)]:=by rfl):
  PI X tg (.Call (.Name "reversed" p) [a] [] pos) (IB X.K ta):=by
 intro pins s σ H R I h;refine Call_ (jn I hg hm wp (Ys (dc (ha pos pins s σ H _ I h) λus s1 ⟨vs,H1,I1,r1,q1⟩=>?_) hs rfl));obtain⟨b,e,xs,hx,q⟩:=q1;subst e;cases r1 with
 | cons r rr =>
  cases rr;cases r;obtain⟨its,rv,pl,hz⟩:=I1.list (jx.of (K:=X.K) (aN hx));have hl:=rv.length;refine call_reversed_list pl.isList ?_;have st:(s1.heap.push (revObj b ((its.toArray.size:Int)-1))).IsRevIter s1.heap.objs.size b ((its.toArray.size:Int)-1):=⟨_,Heap.get?_push_size _ rfl,rfl,rfl⟩;refine wpAny_pyIter_revIter (s:={ s1 with heap:=s1.heap.push (revObj b ((its.toArray.size:Int)-1)) }) st ?_
  refine⟨_,[s1.heap.objs.size],_,_,H1,rfl,I1.kept (t':=s1.toks) λc o e=>Heap.get?_push_of_some _ e,Dm b _ xs.length,?_,λc hc=>?_,q⟩
  .show Heap.IsRevIter _ _ _ _;have e:(xs.length:Int)-1-((0:Nat):Int)=(its.toArray.size:Int)-1:=by simp;nofun
   rw[e];exact st
  .have e:c=s1.heap.objs.size:=by simpa using hc
   subst e;exact I1.fpOk (Yr _) (I1.hok.fresh (Yr _))
theorem JT{p:Pos}(hg:Gl X "reversed")(hm:X.mg "reversed"=none)(ha:QA X [a] ta)(hs:starEach [a] X.env=[(false,eval a X.env)]:=by rfl):
  QI X tg (.Call (.Name "reversed" p) [a] [] pos) (IB X.K ta):=⟨Il hg hm ha.h hs⟩
theorem Bb{a:Addr}(h:vw K H a=some (.lst xs)):qb (LX K a xs.length) H xs.reverse:=by
 refine⟨λi hi=>⟨xs,.of (aN h),rfl,by simpa using hi⟩,λi x H' hi y=>⟨y.1,?_⟩,by show xs.reverse.length=xs.length;simp⟩
 rw[List.getElem?_reverse (by simpa using hi)]
 exact y.2 xs (.of (aN h))
def qi(p q:Int×Int):Int×Int:=lo (p.1*q.2-q.1*p.2) (p.2*q.2)
def td(p q:Int×Int):Int×Int:=lo (p.1*q.2) (p.2*q.1)
theorem ub{q:Int×Int}(hp:Fq p)(hq:Fq q):Fq (qi p q):=ix (by have:=Xb hp.1 hq.1;nofun)
theorem uB{q:Int×Int}(hp:Fq p)(h0:q.1≠0):Fq (td p q):=ix (Xg (by have:=hp.1;nofun) h0)
theorem Gh{q:Int×Int}(hp:Fq p)(hq:Fq q)(h1:Bq m p)(h2:Bq n q):Bq (m+n+1) (qi p q):=by
 refine ox (by have:=Xb hp.1 hq.1;nofun) ?_ ((h1.2.mul h2.2).mono ())
 exact ((h1.1.mul h2.2).sub (h2.1.mul h1.2)).mono ()
theorem yM{q:Int×Int}(hp:Fq p)(h0:q.1≠0)(h1:Bq m p)(h2:Bq n q):Bq (m+n) (td p q):=ox (Xg (by have:=hp.1;nofun) h0) (h1.1.mul h2.2) (h1.2.mul h2.1)
theorem wO{q:Int×Int}(hp:p.2≠0)(hq:q.2≠0):wv (qi p q)=wv p-wv q:=by
 unfold qi;rw[io (Xg hp hq)];unfold wv;have h1:=ao hp;have h2:=ao hq;simp only[Rat.intCast_sub,Xi];grind
theorem Bl{q:Int×Int}(hp:p.2≠0)(hq:q.2≠0)(h0:q.1≠0):wv (td p q)=wv p/wv q:=by
 unfold td;rw[io (Xg hp h0)];unfold wv;have h1:=ao hp;have h2:=ao hq;have h3:=ao h0;simp only[Xi];grind
theorem cS{q:Int×Int}(hq:q.2≠0):wv q=0↔q.1=0:=by
 have h2:=ao hq;unfold wv;constructor
 .intro h;have:(q.1:Rat)=0:=⋯;simpa using this
 .intro h;have:(q.1:Rat)=0:=by rw[h];rfl
  rw[this];grind
def cf(qs:Lt)(k:Nat):Rat:=match qs[k]? with
 | some q=>wv q
 | none=>0
def bC(qs:Lt):Prop:=(∀q∈qs,Fq q) /\ ∀q,qs.getLast? = some q->q.1≠0
theorem Fq.ne{q:Int×Int}(h:Fq q):q.2≠0:=by have:=h.1;nofun
theorem aH{q:Int×Int}(h:qs[k]? = some q):cf qs k=wv q:=by unfold cf;rw[h]
theorem aJ(h:qs.length<=k):cf qs k=0:=by unfold cf;rw[Xn h]
theorem Je(k:Nat):cf [] k=0:=rfl
theorem ww{as bs:Lt}(ha:bC as)(h:∀k,cf as k=cf bs k):as.length<=bs.length:=by
 by_cases hl:as.length<=bs.length
 .exact hl
 .have hn:0<as.length:=();have e1:as[as.length-1]? = some (as[as.length-1]'()):=YU ();have e2:=h (as.length-1);rw[aH e1,aJ ()] at e2;have f:=ha.1 _ (YT (l:=as) (n:=as.length-1) ());exact absurd ((cS f.ne).mp e2) (ha.2 _ (by rw[Y1];exact e1))
theorem wJ{as bs:Lt}(ha:bC as)(hb:bC bs)(h:∀k,cf as k=cf bs k):as=bs:=by
 have hl:as.length=bs.length:=Nat.le_antisymm (ww ha h) (ww hb λk=>(h k).symm);apply Y7
 intro i;by_cases hi:i<as.length
 .have e1:=YU hi;have e2:=YU (show i<bs.length by nofun)
  have:=h i;rw[aH e1,aH e2] at this;rw[e1,e2,lA (ha.1 _ (YT hi)) (hb.1 _ (YT _)) this]
 .rw[Xn (),Xn ()]
theorem mw(hF:∀q∈qs,Fq q)(hz:∀q∈qs.drop n,q.1=0)(k:Nat):cf (qs.take n) k=cf qs k:=by
 by_cases hk:k<n
 .unfold cf;rw[Xo,Yb hk]
 .unfold cf;rw[Xo,Yc hk];cases e:qs[k]? with
  | none=>rfl
  | some q =>
   have hm:q∈qs.drop n:=YD (i:=k-n) (by rw[Xp,show n+(k-n)=k by nofun];exact e)
   exact ((cS (hF q (YD e)).ne).mpr (hz q hm)).symm
theorem lZ{q:Int×Int}(h:Fq q):q=(0,1)↔q.1=0:=by
 constructor
 .rintro rfl;rfl
 .intro e;obtain⟨h1,h2⟩:=h;rw[e] at h2;have:q.2.natAbs=1:=by simpa using h2
  exact Prod.ext e (by show q.2=1;nofun)
def GO:List Int->Rat->Rat
 | [],_=>0
 | n::ns,x=>(n:Rat)+x*GO ns x
def Fg:Lt->Rat->Rat
 | [],_=>0
 | q::qs,x=>wv q+x*Fg qs x
theorem wC{D:Rat}{x:Rat}:∀{qs:Lt}{ns:List Int},ns.length=qs.length->(∀(i:Nat)(n:Int)(q:Int×Int),ns[i]? = some n->qs[i]? = some q->(n:Rat)=wv q*D)->GO ns x=Fg qs x*D
 | [],[],_,_=>by show (0:Rat)=0*D;grind
 | [],_::_,h,_=>by simp at h
 | _::_,[],h,_=>by simp at h
 | q::qs,n::ns,h,hw=>by
  have ih:=wC (D:=D) (x:=x) (qs:=qs) (ns:=ns) (by simpa using h) λi n d e1 e2=>hw (i+1) n d (by simpa using e1) (by simpa using e2)
  have h0:=hw 0 n q rfl rfl;show (n:Rat)+x*GO ns x=(wv q+x*Fg qs x)*D;rw[ih,h0];grind
theorem rQ{l:List α}{j:Nat}(h:j<l.length):l.drop (l.length-(j+1))=l[l.length-1-j]'(Nat.lt_of_le_of_lt (Nat.sub_le _ _) (Nat.sub_lt (Nat.lt_of_le_of_lt (Nat.zero_le _) h) Nat.one_pos))::l.drop (l.length-j):=by
 rw[Xq (show l.length-(j+1)<l.length by nofun)]
 have e1:l.length-(j+1)=l.length-1-j:=();have e2:l.length-(j+1)+1=l.length-j:=();simp only[e1,e2];congr 2
 nofun
def pz(f g:Nat->Int):Nat->Nat->Int
 | 0,_=>0
 | j+1,k=>pz f g j k+if j<=k then f j*g (k-j) else 0
def pr(f g:Nat->Rat):Nat->Nat->Rat
 | 0,_=>0
 | j+1,k=>pr f g j k+if j<=k then f j*g (k-j) else 0
theorem sY{f g:Nat->Int}{F G:Nat->Rat}{c d:Rat}(hf:∀i,(f i:Rat)=F i*c)(hg:∀i,(g i:Rat)=G i*d):∀j k,‹pz f g j k›=pr F G j k*(c*d)
 | 0,k=>by
  show ‹0›=0*(c*d);grind
 | j+1,k=>by
  show (((pz f g j k+if j<=k then f j*g (k-j) else 0:Int)):Rat)=(pr F G j k+if j<=k then F j*G (k-j) else 0)*(c*d)
  rw[Xh,sY hf hg j k];split
  .rw[Xi,hf,hg];grind
  .grind
theorem gC:Bt n 0:=by
 show (0:Int).natAbs<2^n;exact Nat.two_pow_pos n
theorem Bj{f g:Nat->Int}{m n:Nat}(hf:∀i,Bt m (f i))(hg:∀i,Bt n (g i)):∀j k,Bt (m+n+j) (pz f g j k)
 | 0,k=>gC
 | j+1,k=>by
  have h1:=Bj hf hg j k;have h2:Bt (m+n) (if j<=k then f j*g (k-j) else 0):=by
   split
   .exact (hf j).mul (hg _)
   .exact gC
  exact (h1.add h2).mono ()
def qz(f g:Nat->Int)(j l k:Nat):Int:=pz f g j k+if j<=k/\k-j<l then f j*g (k-j) else 0
theorem LH(f g:Nat->Int)(j k:Nat):qz f g j 0 k=pz f g j k:=by simp[qz]
theorem K6(f g:Nat->Int)(j l k:Nat):qz f g j (l+1) k=if k=j+l then qz f g j l (j+l)+f j*g l else qz f g j l k:=by
 by_cases h:k=j+l
 .subst h;rw[Yb rfl];unfold qz;rw[Yb (),Yc (),show j+l-j=l by nofun]
  nofun
 .rw[Yc h];unfold qz;by_cases h2:j<=k/\k-j<l
  .rw[Yb h2,Yb ()]
  .rw[Yc h2,Yc ()]
theorem JQ{f g:Nat->Int}(hg:∀i,n<=i->g i=0)(j k:Nat):qz f g j n k=pz f g (j+1) k:=by
 show _=pz f g j k+if j<=k then f j*g (k-j) else 0
 unfold qz;by_cases h:j<=k
 .rw[Yb h];by_cases h2:k-j<n
  .rw[Yb ⟨h,h2⟩]
  .rw[Yc (),hg _ (),Xr]
 .rw[Yc h,Yc ()]
def qr(f g:Nat->Rat)(j l k:Nat):Rat:=pr f g j k+if j<=k/\k-j<l then f j*g (k-j) else 0
theorem LN(f g:Nat->Rat)(j k:Nat):qr f g j 0 k=pr f g j k:=by
 unfold qr;rw[Yc ()];grind
theorem Kb(f g:Nat->Rat)(j l k:Nat):qr f g j (l+1) k=if k=j+l then qr f g j l (j+l)+f j*g l else qr f g j l k:=by
 by_cases h:k=j+l
 .subst h;rw[Yb rfl];unfold qr;rw[Yb (),Yc (),show j+l-j=l by nofun]
  grind
 .rw[Yc h];unfold qr;by_cases h2:j<=k/\k-j<l
  .rw[Yb h2,Yb ()]
  .rw[Yc h2,Yc ()]
theorem Ie{f g:Nat->Rat}(hg:∀i,n<=i->g i=0)(j k:Nat):qr f g j n k=pr f g (j+1) k:=by
 show _=pr f g j k+if j<=k then f j*g (k-j) else 0
 unfold qr;by_cases h:j<=k
 .rw[Yb h];by_cases h2:k-j<n
  .rw[Yb ⟨h,h2⟩]
  .rw[Yc (),hg _ ()];grind
 .rw[Yc h,Yc ()]
theorem gD{f g:Nat->Rat}{n:Nat}(hg:∀i,n<=i->g i=0):∀(j k:Nat),j+n<=k+1->pr f g j k=0
 | 0,k,_=>rfl
 | j+1,k,h=>by
  show pr f g j k+(if j<=k then f j*g (k-j) else 0)=0
  rw[gD hg j k ()];by_cases h1:j<=k
  .rw[Yb h1,hg _ ()];grind
  .rw[Yc h1];grind
def lz{α:Type}(n:Nat)(h:Nat->α):List α:=(List.range n).map h
theorem bZ{h:Nat->α}:(lz n h).length=n:=by simp[lz]
theorem dA{h:Nat->α}(hi:i<n):(lz n h)[i]? = some (h i):=by simp[lz,hi]
theorem iM{h g:Nat->α}(e:∀k,k<n->h k=g k):lz n h=lz n g:=by
 apply Y7
 intro i;by_cases hi:i<n
 .rw[dA hi,dA hi,e i hi]
 .rw[Xn (by rw[bZ];nofun),Xn (by rw[bZ];nofun)]
theorem DC{h:Nat->α}{v:α}:(lz n h).set i v=lz n λk=>if k=i then v else h k:=by
 apply Y7
 intro k;by_cases hk:k<n
 .rw[dA hk];by_cases e:k=i
  .subst e;rw[Ym (by rw[bZ];exact hk),Yb rfl]
  .rw[Yn (Yl e),dA hk,Yc e]
 .rw[Xn (by rw[YJ,bZ];nofun),Xn (by rw[bZ];nofun)]
theorem uO{β:Type}{h:Nat->α}(f:α->β):(lz n h).map f=lz n λk=>f (h k):=by simp[lz]
theorem IA(n:Nat)(x:α):(List.replicate n [x]).flatten=lz n λ_=>x:=by
 induction n with
 | zero=>rfl
 | succ n ih =>
  apply Y7
  intro i;rw[show (List.replicate (n+1) [x]).flatten=List.replicate (n+1) x by simp]
  by_cases hi:i<n+1
  .rw[dA hi,List.getElem?_replicate_of_lt hi]
  .rw[Xn (by simp;nofun),Xn (by rw[bZ];nofun)]
def nz(ns:List Int)(k:Nat):Int:=ns.getD k 0
theorem cr{n:Int}(h:ns[k]? = some n):nz ns k=n:=by simp[nz,Xe,h]
theorem bO(h:ns.length<=k):nz ns k=0:=by simp[nz,Xe,Xn h]
theorem gU(h:∀n∈ns,Bt m n)(k:Nat):Bt m (nz ns k):=by
 cases e:ns[k]? with
 | none=>rw[bO (List.getElem?_eq_none_iff.mp e)];exact gC
 | some n=>rw[cr e];exact h n (YD e)
theorem qO{h:Nat->Int}(hk:k<n):nz (lz n h) k=h k:=cr (dA hk)
theorem eK{D:Rat}(hl:ns.length=qs.length)(h:∀(i:Nat)(n:Int)(q:Int×Int),ns[i]? = some n->qs[i]? = some q->(n:Rat)=wv q*D)(i:Nat):‹nz ns i›=cf qs i*D:=by
 by_cases hi:i<qs.length
 .have e1:=YU hi;have e2:=YU (show i<ns.length by nofun)
  rw[cr e2,aH e1];exact h i _ _ e2 e1
 .rw[bO (),aJ ()];show ‹0›=0*D;grind
theorem aF.set{H:Hp}:∀{ds:List D}{xs:List V}(i:Nat) {d:D}{x:V},aF H ds xs->aI H d x->aF H (ds.set i d) (xs.set i x)
 | [],xs,i,d,x,h,g=>by
  cases h.nil_at;exact .mk_nil
 | d0::ds,xs,i,d,x,h,g=>by
  obtain⟨x0,r,rfl,h1,h2⟩:=h.cons_at;cases i with
  | zero=>exact .mk_cons g h2
  | succ i=>exact .mk_cons h1 (h2.set i g)
theorem zH{q:Int×Int}(hi:i<qs.length):cf (qs.set i q) k=if k=i then wv q else cf qs k:=by
 by_cases h:k=i
 .subst h;rw[Yb rfl,aH (Ym hi)]
 .rw[Yc h];unfold cf;rw[Yn (Yl h)]
theorem iC(h:k<n):xH n (k:Int)=some k:=by
 unfold xH;simp;nofun
theorem iU:HW X (λo i H Q=>∃p k,o=.ref p/\i=.int k /\ ∃xs,vw X.K H p=some (.lst xs) /\ ∃v,oY xs k=some v/\Q v H):=by
 intro pins s σ H x y v u Q I rx ry h;obtain⟨p,k,rfl,rfl,xs,hx,z,he,q⟩:=h;cases rx;obtain⟨t,rfl⟩:=ry;obtain⟨its,r,pl,hz⟩:=I.list (jx.of (K:=X.K) (aN hx));obtain⟨j,h1,h2,h3,h4,h5⟩:=sR he;obtain⟨w,ew,rw'⟩:=r.get h2;have hl:=r.length;have hn:=mY;have fin:EP X pins σ Q w s:=⟨z,H,I,rw',q⟩;by_cases h0:0<=k
 .have hj:k.toNat=j:=by
   rw[seqIndex_of h0 h5] at h1;exact Yo h1
  exact wpAny_getItem_list pl.isList h0 () (by rw[hj];simpa using ew) fin
 .have hj:(k+(its.toArray.size:Int)).toNat=j:=by
   rw[seqIndex_neg () h4] at h1;rw[Yu,<-hl];exact Yo h1
  exact wpAny_getItem_list_neg pl.isList () (by rw[Yu]<;>nofun) () (by rw[hj];simpa using ew) fin
theorem pC{p:Addr}(h:vw K H p=some (.lst xs)):vG K (.ref p) H (!xs.isEmpty):=.inl ⟨xs,.of (aN h),rfl⟩
theorem aB.none{G G':Hp}{c:Addr}(S:aB G G')(h:G' c=none):G c=none:=by
 cases e:G c with
 | none=>rfl
 | some o=>rw[S _ _ e] at h;cases h
theorem oB:Fq (0,1):=⟨∅,∅⟩
theorem D8(h:1<=n):Bq n (0,1):=Bq.mono (m:=1) (q:=(0,1)) ⟨∅,∅⟩ h
theorem sx:wv (0,1)=0:=(cS (q:=(0,1)) ∅).mpr rfl
theorem K8:wv (1,1)=1:=by
 show ‹1›/‹1›=1;have:‹1›=1:=rfl;rw[this];grind
theorem HX(fs:Lt)(m k:Nat):cf (fs++List.replicate m (0,1)) k=cf fs k:=by
 by_cases h:k<fs.length
 .unfold cf;rw[YB h]
 .rw[aJ (qs:=fs) ()];unfold cf;rw[Yz ()];by_cases h2:k-fs.length<m
  .rw[List.getElem?_replicate_of_lt h2];exact sx
  .rw[Xn (by simp;nofun)]
theorem iK(n:Nat)(x:α):(List.replicate n [x]).flatten=List.replicate n x:=by simp
theorem ku{β:Type}(f:α->β)(n:Nat)(x:α):(List.replicate n x).map f=List.replicate n (f x):=by simp
theorem pP(hF:∀q∈qs,Fq q)(hz:∀q,(qs.take n).getLast? = some q->q.1≠0):bC (qs.take n):=⟨λq hq=>hF q (Xs hq),hz⟩
theorem aP.chg{G G':Hp}{e:Addr}{q:Int×Int}(h:G e=some (.lst xs))(r:aF G (qs.map fr) xs)(rv:aI G (fr q) v)(B:eJ e G G')(h':G' e=some (.lst (xs.set i v))):aP G' e (qs.set i q):=by
 refine⟨_,h',?_⟩;have r':=aF.flat_but h B _ _ (cE qs) r;have:=r'.set i (aI.flat_but h B _ _ (ci q) rv);rw[List.map_set];exact this
theorem KD(q:Int×Int):(fr q).py=.tuple [.int q.1,.int q.2]:=by
 unfold fr;simp only[D.py,D.pys]
theorem C8:∀(qs:Lt),PyData.canLayAll0 (D.pys (qs.map fr))=true/\PyData.depthAll (D.pys (qs.map fr))<=4
 | []=>by
  simp only[List.map_nil,D.pys];exact⟨rfl,by simp[PyData.depthAll]⟩
 | c::cs=>by
  obtain⟨h1,h2⟩:=C8 cs;simp only[YR,D.pys,KD,PyData.canLayAll0,PyData.canLay0,h1,PyData.depthAll,PyData.depth];refine⟨∅,?_⟩;nofun
theorem gB(fs:Lt):(D.lst (fs.map fr)).cmp:=by
 obtain⟨h1,h2⟩:=C8 fs;unfold D.cmp;simp only[D.py,PyData.canLay0,PyData.depth];exact⟨h1,()⟩
structure AX (outer:List Env)(H H':Hp)(h:Heap)(B:Heap):Prop where
 b1:∀b,H' b≠none -> ∃o,B.get? b=some o
 b2:∀b o,h.get? b=some o->H b=none->b∉iS outer->B.get? b=some o
 b3:∀b o,h.get? b=some o->b∉iS outer -> ∃o',B.get? b=some o'
def mX(P:Program)(w:World):wT:=λouter H s E e s' =>
 ∃(a C:Addr)(a0:Value)(B:Heap)(H':Hp),e=.ref a/\s'.os=s.os/\AllBare s'.gens/\Un (iS outer) [] H H' s.heap s'.heap/\lW P w H' s'.heap /\
  Heap.FlyingW B outer a (.ref C) a0 s'.heap/\AX outer H H' s.heap B/\E (.ref C) none H'
theorem dO.there{a:Addr}{o:HO}(x:dO P w H h a o):∃ob,h.get? a=some ob:=by
 cases o with
 | lst xs=>obtain⟨_,_,_,_,e⟩:=x;exact⟨_,e⟩
 | tup xs=>obtain⟨_,_,_,_,e,_⟩:=x;exact⟨_,e⟩
 | dK kvs=>obtain⟨_,_,_,_,o,_,_,e,_⟩:=x;exact⟨_,e⟩
 | dT kvs=>obtain⟨_,_,_,_,o,_,_,e,_⟩:=x;exact⟨_,e⟩
 | set S n=>obtain⟨o,_,_,_,e,_⟩:=x;exact⟨_,e⟩
 | ins C dx fs=>obtain⟨_,_,_,e,_⟩:=x;exact⟨_,e⟩
 | own y=>obtain⟨_,e⟩:=x;exact⟨_,e⟩
 | xd fs=>obtain⟨_,⟨_,_,_,e,_⟩,_⟩:=x;exact⟨_,e⟩
 | rng lo hi=>obtain⟨_,_,_,e⟩:=x;exact⟨_,e⟩
 | frz ob u=>obtain⟨e,_⟩:=x;exact⟨_,e⟩
 | tbl ps=>exact⟨_,show h.get? a=some _ from x⟩
 | met f y=>exact⟨_,show h.get? a=some _ from x⟩
 | ext φ=>obtain⟨_,e,_⟩:=x;exact e
theorem jU(x:lW P w H h)(k:∀b u,H b≠none->h.get? b=some u->h'.get? b=some u):lW P w H h':=λa o e =>
 (x a o e).stay (λb u hb q=>k b u (by
  rcases hb with rfl|z
  .rw[e];simp
  .rw[z];simp) q) (λ_ q=>q) λ_ _ q=>q
section
variable {X:Cx}{pins:List (Addr×Obj)}{σ:St}{H H':Hp}{s s':Shared}
theorem aR.nofrs(I:aR X pins σ H s){b:Addr}(h:H b≠none):b∉iS X.stack:=λz=>h (I.stkFree b z)
theorem aR.flyB(I:aR X pins σ H s)(hx:X.ex=[])(hs:X.stack=X.env::X.outer)(hfr:X.env.frame=some X.env.locals){B:Heap}(F:AX X.stack H H' s.heap B):AX X.outer X.H₀ H' X.s₀.heap B:=by
 have nL:∀b o,X.s₀.heap.get? b=some o->b∉iS X.outer->b∉iS X.stack:=λb o e n z=>by
  rcases Y2.mp (I.stkSub b z) with q|q
  .exact absurd (Yd (Heap.lt_size e) (q▸I.ok.above)) (Ye _)
  .exact n q
 have nx:∀b,b∉X.ex:=λb z=>by rw[hx] at z;exact absurd z (by simp)
 refine⟨F.b1,λb o e n nb=>?_,λb o e nb=>?_⟩
 .exact F.b2 b o (I.base.keep b o e n nb (nx b)) (I.base.free b o e n (nx b)) (nL b o e nb)
 .obtain⟨o',e'⟩:=I.base.there b o e (nx b);exact F.b3 b o' e' (nL b o e nb)
theorem aR.flyUn(I:aR X pins σ H s)(hx:X.ex=[])(hs:X.stack=X.env::X.outer)(hfr:X.env.frame=some X.env.locals){B h h':Heap}(F:AX X.stack H H' s.heap B)(u:Un (iS X.stack) [] H H' s.heap h)(hB:B.StaysIn h')(up:h.UpToSlots h'):Un (iS X.outer) [] X.H₀ H' X.s₀.heap h':=by
 have FB:=I.flyB hx hs hfr F;have nx:∀b,b∉X.ex:=λb z=>by rw[hx] at z;exact absurd z (by simp)
 have n0:∀b:Addr,b∉([]:List Addr):=λb z=>absurd z (by simp)
 have frame:∀b,b∈iS X.outer -> ∀o,X.s₀.heap.get? b=some o -> ∃sl,h'.get? b=some { o with slots:=sl }:=λb hb o e=>by
  have hfree:=I.ok.frf b hb;obtain⟨sl,e1⟩:=I.base.slot b o e hfree hb (nx b);have h1:=I.base.free b o e hfree (nx b);obtain⟨sl2,e2⟩:=u.any e1 h1 (n0 b);obtain⟨_,o',e3,hd⟩:=I.ok.funs.mem hb;rw[e] at e3;cases e3;obtain⟨sl3,e4⟩:=up b _ e2 hd;exact⟨sl3,e4⟩
 refine⟨λb o e n nb _=>hB b o (FB.b2 b o e n nb),λb o e n nb _=>frame b nb o e,λb o e n _=>?_,λb o e _=>?_,λb xs e=>u.tups b xs (I.base.tups b xs e),λb o v e=>u.frzs b o v (I.base.frzs b o v e),λb ps e=>?_⟩
 .obtain⟨o',e1⟩:=I.base.there b o e (nx b);exact u.free b o' e1 (I.base.free b o e n (nx b)) (n0 b)
 .by_cases hb:b∈iS X.outer
  .obtain⟨sl,q⟩:=frame b hb o e;exact⟨_,q⟩
  .obtain⟨o',q⟩:=FB.b3 b o e hb;exact⟨o',hB b o' q⟩
 .obtain⟨m1,e1⟩:=I.base.tbls b ps e;obtain⟨m2,e2⟩:=u.tbls b _ e1;exact⟨m1++m2,by rw[e2,Array.append_assoc]⟩
theorem aR.raised{E:XK}{e C:Addr}{vs:List Value}{Q':Value->Shared->Prop}{M:Model}(I:aR X pins σ H s)(hx:X.ex=[])(hs:X.stack=X.env::X.outer)(hfr:X.env.frame=some X.env.locals)
  (hm:Heap.MadeExcOf s.heap h' e (.ref C) vs)(hE:E (.ref C) none H) {g:Array GenState}{d:Drawn}{t:Tok}{os:OsState}(hos:os=s.os)(hg:AllBare g) :
  wpAny M X.A (leaving X.env (.ref e)) (λ_ s''=>mX X.prog X.w X.outer X.H₀ X.s₀ E (.ref e) s'') Q' ⟨h',g,d,t,os⟩:=by
 have hfr':X.A.frames=some (X.env::X.outer):=by rw[I.ok.frames,hs]
 have hin:∀env∈X.stack,∀b,env.frame=some b->b∈iS X.stack:=λenv he b hb=>List.mem_filterMap.mpr ⟨env,he,hb⟩;have st:=I.stack;have FF:=PySem.W.funFrames_hide st hin;have hkb:(PySem.W.hideAll s.heap (iS X.stack)).StaysIn s.heap:=λb o q=>PySem.W.of_hideAll _ q;have FF2:s.heap.FunFrames (PySem.W.hideAll s.heap (iS X.stack)) (X.env::X.outer):=by
  have z:=FF;rw[show X.stack=X.env::X.outer from hs] at z ⊢
  exact z
 refine wpAny_leaves_madeW (s:=⟨h',g,d,t,os⟩) hfr' hfr hkb FF2 hm λh2 t2 fl tup nt up=>?_;have up2:s.heap.UpToSlots h2:=(Heap.UpToSlots.of_keeps hm.keeps).trans up;have getB:∀b o,s.heap.get? b=some o->b∉iS X.stack->(PySem.W.hideAll s.heap (iS X.stack)).get? b=some o:=λb o e n=>PySem.W.hideAll_get _ e n;have F:AX X.stack H H s.heap (PySem.W.hideAll s.heap (iS X.stack)):=⟨λb hb=>by
  cases q:H b with
  | none=>exact absurd q hb
  | some u =>
   obtain⟨o,ho⟩:=(I.hok b u q).there;exact⟨o,getB b o ho (I.nofrs hb)⟩,λb o e _ nb=>getB b o e nb,λb o e nb=>⟨o,getB b o e nb⟩⟩
 refine⟨e,C,.ref t2,_,H,rfl,?_,?_,?_,?_,fl,I.flyB hx hs hfr F,hE⟩
 .show os=_;rw[hos];exact I.os
 .exact hg
 .exact I.flyUn hx hs hfr F (h:=s.heap) ⟨λ_ _ q _ _ _=>q,λ_ o q _ _ _=>⟨o.slots,q⟩,λ_ _ _ q _=>q,λ_ o q _=>⟨o,q⟩,λ_ _ q=>q,λ_ _ _ q=>q,λb ps q=>⟨#[],by rw[q];simp⟩⟩ fl.1 up2
 .exact jU I.hok λb u hb q=>fl.1 b u (getB b u q (I.nofrs hb))
theorem aR.passed{E E':XK}{e:Value}{Q':Value->Shared->Prop}{M:Model}(I:aR X pins σ H s)(hx:X.ex=[])(hs:X.stack=X.env::X.outer)(hfr:X.env.frame=some X.env.locals)
  (h:mX X.prog X.w X.stack H s E e s')(hE:∀c o H',E c o H'->E' c o H'):wpAny M X.A (leaving X.env e) (λ_ s''=>mX X.prog X.w X.outer X.H₀ X.s₀ E' e s'') Q' s':=by
 obtain⟨a,C,a0,B,H',rfl,os,gb,un,hok,fl,F,q⟩:=h;have hfr':X.A.frames=some (X.env::X.outer):=by rw[I.ok.frames,hs]
 rw[hs] at fl;refine wpAny_leaves_onW hfr' hfr fl λh2 J8 up=>?_;refine⟨a,C,a0,B,H',rfl,os.trans I.os,gb,I.flyUn hx hs hfr F un J8.1 up,jU hok λb u hb z=>?_,J8,I.flyB hx hs hfr F,hE _ _ _ q⟩;obtain⟨o,ho⟩:=F.b1 b hb;have e1:=fl.1 b o ho;rw[z] at e1;cases e1;exact J8.1 b _ ho
end
abbrev G9:List Value:=[.type "ValueError",.type "Exception",.type "BaseException",.type "object"]
def vC(K:Sf)(C:Addr):Prop:=PySem.W.excIn K C G9 "ValueError.__new__"=true
theorem vC.obj{C:Addr}(KX:K.In h)(z:vC K C):∃tl N nm qn bs y1 sn sb ab cl dd j0 j1 j2 j3 j5 mN,
  h.get? C=some (excClassObj nm qn C N bs tl y1 sn sb ab cl dd j0 j1 j2 j3 j5 "ValueError.__new__")/\h.Ns N mN/\mN "__init__"=none/\OwnTail h G9 tl:=by
 unfold vC PySem.W.excIn at z;split at z
 case h_2=>cases z
 case h_1 ob dct cdt sls look =>
  split at z
  case h_2=>cases z
  case h_1 C2 tl j0 j1 j2 j3 nid j5 hmro hsls =>
   rw[YI,YI,YI,YI,YI] at z;obtain⟨⟨⟨⟨⟨z1,z2⟩,z3⟩,z4⟩,z5⟩,z6⟩:=z;have c1:=beq_iff_eq.mp z1;have c2:=beq_iff_eq.mp z2;have c6:=beq_iff_eq.mp z6;subst c1 c2;have c3:cdt.hasDel=false:=by simpa using z3
   have c7:sls = #[j0,j1,j2,j3,some (.builtin "ValueError.__new__"),j5]:=by
    cases sls with
    | mk l=>exact Yp Array.mk hsls
   have G:=KX _ _ look;cases cdt with
   | mk nm bs mro ns qn hd sn sb ab cl del =>
    cases hmro;cases c3;rw[c7] at G;exact⟨tl,ns,nm,qn,bs,hd,sn,sb,ab,cl,dct,j0,j1,j2,j3,j5,_,G,.of_isNs (PySem.W.isNs_of_in KX z5),PySem.W.nsMap_none_of_in KX z5 c6,PySem.W.tail_of_in KX z4⟩
def t8(E:XK)(C:Addr)(t:TA):TS:=λ_ σ H=>t σ H λvs H1=>vs.length<=1000/\E (.ref C) none H1
section
variable {P:Program}{w:World}{K:Sf}{mg:Str->Option Value}{base:Heap}{N:List Str}{qual:Str}{scope:Scope}{f:Addr}{cd:Value}{A:Around}{outer:List Env}{s₀:Shared}{H₀:Hp}{E:XK}{C:Addr}
theorem BK{np cpos:Pos}{e:Expr}{es:List Expr}{t:TA}(z:vC K C)(hg:Gl (gd (mX P w) P w K mg base N qual scope f cd A outer s₀ H₀ E) x)(hm:mg x=some (.ref C))
  (ha:PA (gd (mX P w) P w K mg base N qual scope f cd A outer s₀ H₀ E) (e::es) t)(hdb:(x==("__debug__":Str))=false:=by decide)
  (he:starEach (e::es) (envOfC qual scope s₀.heap.objs.size f cd)=(false,eval e (envOfC qual scope s₀.heap.objs.size f cd))::starEach es (envOfC qual scope s₀.heap.objs.size f cd):=by rfl)(hpl:(backTo cpos (starEach es (envOfC qual scope s₀.heap.objs.size f cd))).any (·.1)=false:=by rfl) :
  PS (gd (mX P w) P w K mg base N qual scope f cd A outer s₀ H₀ E) (.Raise (some (.Call (.Name x np) (e::es) [] cpos)) none pos) (t8 E C t):=by
 intro pins s σ H D I h;obtain⟨tl,N',nm,qn,bs,y1,sn,sb,ab,cl,dd,j0,j1,j2,j3,j5,mN,hC,hN,hni,T⟩:=z.obj I.ok.mod.kin;refine wpAny_Raise_call_subU (nm:=nm) (q:=qn) (C:=C) (N:=N') (bs:=bs) (bm:=tl) (hdct:=y1) (sn:=sn) (sub:=sb) (ab:=ab) (col:=cl) (dd:=dd) (k0:=j0) (k1:=j1) (k2:=j2) (k3:=j3) (k5:=j5)
  PySem.F.excBase_ValueError ∅ PySem.F.excBase_ValueError (mN:=mN) (T.hasType ∅) (I.ok.hd rfl) ?_ hni (kA I hg hm ⟨rfl,?_⟩ hdb)
 .show (backTo cpos (starEach (e::es) (envOfC qual scope s₀.heap.objs.size f cd))).any (·.1)=false;rw[he];show (false || (backTo cpos (starEach es (envOfC qual scope s₀.heap.objs.size f cd))).any (·.1))=false
  rw[hpl];rfl
 .have go:=ha cpos pins s σ H _ I h;show wpAny _ _ (evalArgs (.ref C) true (backTo cpos (starEach (e::es) (envOfC qual scope s₀.heap.objs.size f cd))) []) _ _ _;have go':wpAny (model P w) (A.deeper (envOfC qual scope s₀.heap.objs.size f cd)) (spliced (backTo cpos (starEach (e::es) (envOfC qual scope s₀.heap.objs.size f cd)))) _ _ s:=go;rw[he] at go' ⊢;refine Calls.evalArgs_plain (dc go' λus s1 ⟨vs,H1,I1,r,q⟩=>?_);obtain⟨hl,q⟩:=q;refine⟨rfl,?_,I1.bk _ _ hC,hN.keeps I1.bk,T.keeps I1.bk,λh' ea hm'=>?_⟩
  .show us.length<=sizeLine;rw[<-r.length];exact Yg hl ∅
  .exact I1.raised rfl rfl rfl hm' q rfl I1.bare
end
end L2
namespace L2
open PySem PySem.Spec PySem.Calls PyProof.Rows PySem.W PySem.Builtin PySem.Builtin.ObjectAttr PySem.Builtin.Getset_descriptor
section
variable {prog:Program}{w:World}{A:Around}{E:Value->Shared->Prop}{K:Frag}{x C:Addr}{ob:Obj}{hh:Heap}{g:Array GenState}{d:Drawn}{t:Nat}{os:OsState}
structure tj (K:Frag)(C:Addr):Prop where
 ga:findIn K (.ref C) "__getattribute__"=some (some (.builtin "BaseException.__getattribute__"))
 gt:findIn K (.ref C) "__getattr__"=some none
 cl:findIn K (.ref C) "__class__"=some (some (.builtin "object.__class__"))
 mo:mroIn K C (.type "object")=some true
 mb:mroIn K C (.type "BaseException")=some true
 ic:(clsIn K C).isSome=true
theorem HQ{R:Result->Shared->Prop}{tp:Value}(Z:tj K C)(X:K.In hh)(hx:hh.get? x=some ob)(hc:ob.cls=.ref C)
  (h:R (.ok (.ret (.ref C))) ⟨hh,g,d,t,os⟩):codeAny (model prog w) A (.call (.builtin "getset_descriptor.__get__") ⟨[.builtin "object.__class__",.ref x,tp],[]⟩) R ⟨hh,g,d,t,os⟩:=by
 have L0:Looks (model prog w) hh (typeOf (.ref x)) (.ref C):=hc▸(Looks.ld hx).andThen .now;have L1:=looks_mroIn (M:=model prog w) X Z.mo;refine codeAny_call_builtin KF.slot_gs.plain KF.entry_gs (KF.slot_gs.check _ _ _ _ _ _ _ _ KF.type_class (KF.args_gs _ _ _) ?_);unfold Builtin.«getset_descriptor.__get__»;unfold descrGet;rw[dga_obj];refine wpAny_bind (wpAny_pure ?_);unfold descrGetter;unfold descrCheckInstance;unfold descrNameAndClass;unfold isInstance;simp only[KF.owner_class]
 repeat lk
 refine And.intro (Code.quiet_builtin _ ∅) (codeAny_builtin KF.entry_class ?_)
 unfold Builtin.«object.__class__»;unfold shownTypeOf
 repeat lk
 exact h
theorem BH{tk:Tok}{Q:Fin->Shared->Prop}(Z:tj K C)(X:K.In hh)(hx:hh.get? x=some ob)(hc:ob.cls=.ref C)(hq:Q (.done (.ret (.ref C))) ⟨hh,g,d,t,os⟩):
  wpAny (model prog w) A (Builtin.«object.__getattribute__» ⟨[.ref x,.str "__class__" tk],[]⟩) Q E ⟨hh,g,d,t,os⟩:=by
 have hT5:(⟨hh,g,d,t,os⟩:Shared).TypeIs (.builtin "object.__class__") "getset_descriptor":=F.typeOf_object_class;have f5:=F.typeOf_object_class;have f6:=F.slot_gs_get.lookup;have f7:=F.slot_gs_set.lookup;have L0:Looks (model prog w) hh (typeOf (.ref x)) (.ref C):=hc▸(Looks.ld hx).andThen .now;have L2:=looks_findIn (M:=model prog w) X Z.cl
 repeat (any_goals (first|assumption|(with_reducible refine L0.at ?_)|(with_reducible refine L2.at ?_)|(with_reducible refine wpAny_loadPart_at hx ?_;rw[hc])|wp_step))
 refine HQ Z X hx hc ?_
 repeat (any_goals (first|assumption|wp_step))
theorem Bm{M:Model}{nv:Value}{Q:Unit->Shared->Prop}(Z:tj K C)(X:K.In hh)(hx:hh.get? x=some ob)(hc:ob.cls=.ref C)(hq:Q PUnit.unit ⟨hh,g,d,t,os⟩):
  wpAny M A (checkBuiltinCall "BaseException.__getattribute__" ⟨[.ref x,nv],[]⟩) Q E ⟨hh,g,d,t,os⟩:=by
 have b1:splitId "BaseException.__getattribute__"=some ("BaseException","__getattribute__")/\builtinKind "BaseException.__getattribute__"=some .slot:=⟨by decide +kernel,by decide +kernel⟩
 have b3:=F.args_bexc_ga (.ref x) nv;have L0:Looks M hh (typeOf (.ref x)) (.ref C):=hc▸(Looks.ld hx).andThen .now;have L1:=looks_mroIn (M:=M) X Z.mb;have LI:Looks M hh (isInstance (.ref x) (.type "BaseException")) true:=L0.andThen L1;simp only[checkBuiltinCall,b1.1,b1.2];refine wpAny_bind (LI.at ?_)
 repeat (any_goals (first|assumption|wp_step))
theorem Ez{tk:Tok}{R:Result->Shared->Prop}(Z:tj K C)(X:K.In hh)(hx:hh.get? x=some ob)(hc:ob.cls=.ref C)(h:R (.ok (.ret (.ref C))) ⟨hh,g,d,t,os⟩):
  codeAny (model prog w) A (.call (.builtin "BaseException.__getattribute__") ⟨[.ref x,.str "__class__" tk],[]⟩) R ⟨hh,g,d,t,os⟩ :=
 codeAny_call_builtin F.attr_ValueError.ga.plain F.entry_bexc_ga (Bm Z X hx hc (BH Z X hx hc h))
theorem Kl{tk:Tok}{Q:Value->Shared->Prop}(Z:tj K C)(X:K.In hh)(hx:hh.get? x=some ob)(hc:ob.cls=.ref C)(hq:Q (.ref C) ⟨hh,g,d,t,os⟩):
  wpAny (model prog w) A (getAttrBy (.ref x) (.str "__class__" tk) false) Q E ⟨hh,g,d,t,os⟩:=by
 have b3:=F.attr_ValueError.ga.bind (.ref x);have y2:(Value.builtin "BaseException.__getattribute__" == Value.builtin "object.__getattribute__")=false:=by decide +kernel
 have y1:(onTheHeap (Value.ref C) && (Value.builtin "BaseException.__getattribute__" == Value.builtin "object.__getattribute__"))=false:=by rw[y2,Bool.and_false]
 have L0:Looks (model prog w) hh (typeOf (.ref x)) (.ref C):=hc▸(Looks.ld hx).andThen .now;have L1:=looks_findIn (M:=model prog w) X Z.ga;have L2:=looks_findIn (M:=model prog w) X Z.gt;unfold getAttrBy;refine wpAny_holding (wpAny_bind (L0.at (wpAny_bind (L1.at ?_))));show wpAny _ _ (if (onTheHeap (Value.ref C) && (Value.builtin "BaseException.__getattribute__" == Value.builtin "object.__getattribute__"))=true then _ else getAttrByItsOwn _ _ _ _ _ _) _ _ _
 rw[Yc (by rw[y1];simp)]
 unfold getAttrByItsOwn hookBefore;rw[Yb (show onTheHeap (Value.ref C)=true from rfl)]
 refine wpAny_bind (L2.at ?_);unfold callGetattribute boundAndCalled
 repeat (any_goals (first|assumption|wp_step))
 refine Ez Z X hx hc ?_
 repeat (any_goals (first|assumption|wp_step))
theorem Gy{Q:Option Value->Shared->Prop}(Z:tj K C)(X:K.In hh)(hx:hh.get? x=some ob)(hc:ob.cls=.ref C)(hq:Q (some (.ref C)) ⟨hh,g,d,t+1,os⟩):
  wpAny (model prog w) A (getAttr? (.ref x) "__class__") Q E ⟨hh,g,d,t,os⟩:=by
 unfold getAttr?;unfold getAttrBy?;refine wpAny_bind (wpAny_mkText (wpAny_bind (wpAny_attempt (Kl Z X hx hc ?_))));exact wpAny_pure hq
def BY(x C:Addr)(h:Heap):Prop:=∃ob,h.get? x=some ob/\ob.cls=.ref C
theorem Ee(Z:tj K C):KitX K (.ref x) (.ref C) (BY x C) where
 ty:=λ_ _ _ ⟨_,h1,h2⟩=>h2▸(Looks.ld h1).andThen .now
 it:=λM h X _=>by
  have z:=Z.ic;cases e:clsIn K C with
  | none=>rw[e] at z;cases z
  | some cd =>
   unfold clsIn at e;split at e
   .rename_i look
    intro A1 Q1 E1 s1 k1 q1;unfold isType;unfold loadHead;refine wpAny_bind (wpAny_loadPart (k1 _ _ (X _ _ look)) (wpAny_pure ?_));exact q1
   .cases e
 ne:=λh tp dd its n sl X htp=>by
  rw[Bool.eq_false_iff];intro q;have e1:C=tp:=by
   have:=beq_iff_eq.mp q;cases this;rfl
  subst e1;have z:=Z.ic;unfold clsIn at z;split at z
  .rename_i look
   have e2:=X _ _ look;rw[htp] at e2;cases e2
  .cases z
 ca:=λ{_ _ _ _ _ s} X ⟨_,h1,h2⟩ k=>by
  obtain⟨hp,g1,d1,t1,os1⟩:=s;exact Gy Z X h1 h2 k
end
end L2
namespace L2
open PySem PySem.Spec PyProof.Rows
variable {a P p f c:Addr}{i n k:Nat}{p1 pos:Pos}{w:World}{outer:List Env}{H G G':Hp}{s:Shared}{E:XK}{X:Cx}{x qual:Str}{K:Sf}{mg:Str->Option Value}{base:Heap}{scope:Scope}{pins:List (Addr×Obj)}{σ:St}{N ps:List Str}{A:Around}{t ta:TA}{st:Stmt}{ns:List Int}{Q:VK}{j:Int}{y:V}
def PX(X:Cx)(e:Expr)(t:St->Hp->XK->Prop):Prop :=
 ∀pins s(σ:St)H(E:XK),aR X pins σ H s->t σ H E->wpAny (model X.prog X.w) X.A (eval e X.env) (λ_ _=>False) (λev s'=>∃s1 H1,aR X pins σ H1 s1/\mX X.prog X.w X.stack H1 s1 E ev s') s
def J7(x C:Addr):HO:=.ext (BY x C)
section
variable {X:Cx}{pins:List (Addr×Obj)}{σ:St}{H H':Hp}{s s':Shared}
theorem aR.landed{B h:Heap}(I:aR X pins σ H s)(F:AX X.stack H H' s.heap B)(u:Un (iS X.stack) [] H H' s.heap s'.heap)(hok:lW X.prog X.w H' s'.heap)(hs':B.StaysIn s'.heap)(hB:B.StaysIn h)(up:s'.heap.UpToSlots h)(hos:s'.os=s.os)(hg:AllBare s'.gens):
  aR X pins σ H' { s' with heap:=h }:=by
 obtain⟨h1,g1,d1,t1,os1⟩:=s';have e0:os1=s.os:=hos;subst e0;have n0:∀b:Addr,b∉([]:List Addr):=λb z=>absurd z (by simp)
 have slots:∀b,b∈iS X.stack -> ∀o,s.heap.get? b=some o->H b=none -> ∃sl,h.get? b=some { o with slots:=sl }:=λb hb o e n=>by
  obtain⟨sl,e1⟩:=u.any e n (n0 b);obtain⟨_,o',e3,hd⟩:=I.stack.mem hb;rw[e] at e3;cases e3;obtain⟨sl2,e2⟩:=up b _ e1 hd;exact⟨sl2,e2⟩
 have nst:∀b,b≠X.env.locals->b∉X.fs->b∉iS X.stack:=λb h1 h2 z=>(Y2.mp (I.stkSub b z)).elim h1 h2;have hfin:lW X.prog X.w H' h:=jU hok λb v hb z=>by
  obtain⟨o,ho⟩:=F.b1 b hb;have e1:=hs' b o ho;have e2:h1.get? b=some v:=z;rw[e2] at e1;cases e1;exact hB b _ ho
 have key:=I.step (h':=h) (g':=g1) (d':=d1) (t':=t1) (ch:=[]) (λ_ z=>nomatch z) (λb o hL hf _ e n=>hB b o (F.b2 b o e n (nst b hL hf)))
  (λb o hL hf _ e n=>?_) (λb o _ e n=>u.free b o e n (n0 b)) (λb o _ e=>?_) u.tups u.frzs u.tbls (λm hm=>?_) hfin hg
 .exact key
 .by_cases hb:b∈iS X.stack
  .exact slots b hb o e n
  .exact⟨o.slots,hB b o (F.b2 b o e n hb)⟩
 .by_cases hb:b∈iS X.stack
  .obtain⟨sl,q⟩:=slots b hb o e (I.stkFree b hb);exact⟨_,q⟩
  .obtain⟨o',q⟩:=F.b3 b o e hb;exact⟨o',hB b o' q⟩
 .obtain⟨o,es,ep,ho,hd,r⟩:=hm;by_cases hb:X.env.locals∈iS X.stack
  .obtain⟨sl,q⟩:=slots _ hb o ho I.free;exact⟨_,es,ep,q,hd,r⟩
  .exact⟨o,es,ep,hB _ o (F.b2 _ o ho I.free hb),hd,r⟩
theorem aR.track{o:HO}(I:aR X pins σ H s)(ha:H a=none)(h0:X.s₀.heap.get? a=none)(hL:a≠X.env.locals)(hc:∀x c,X.env.cells.lookup x=some c->c≠a)(hp:∀p∈X.pn++pins,p.1≠a)
  (new:dO X.prog X.w (upd H a o) s.heap a o):aR X pins σ (upd H a o) s:=by
 have ne:∀b u,H b=some u->b≠a:=λb u e z=>by rw[z,ha] at e;cases e
 refine⟨I.ok,I.os,I.bare,⟨I.base.keep,I.base.slot,λb ob e n hx=>?_,I.base.there,λb xs e=>?_,λb ob v e=>?_,λb ps e=>?_⟩,I.loc,I.cell,?_,λx c e=>?_,λp hp'=>?_,λb u e=>?_,I.len⟩
 .have:b≠a:=λz=>by rw[z,h0] at e;cases e
  rw[aV this];exact I.base.free b ob e n hx
 .have q:=I.base.tups b xs e;rw[aV (ne b _ q)];exact q
 .have q:=I.base.frzs b ob v e;rw[aV (ne b _ q)];exact q
 .obtain⟨m,q⟩:=I.base.tbls b ps e;exact⟨m,by rw[aV (ne b _ q)];exact q⟩
 .rw[aV (Yl hL)];exact I.free
 .rw[aV (hc x c e)];exact I.freeC x c e
 .obtain⟨q1,q2,q3⟩:=I.pin p hp';exact⟨q1,by rw[aV (hp p hp')];exact q2,q3⟩
 .by_cases hb:b=a
  .subst hb;rw[cz] at e;cases e;exact new
  .rw[aV hb] at e;exact (I.hok b u e).stay (λ_ _ _ q=>q) (λc q=>by rw[aV (ne c _ q)];exact q) λc xs q=>by rw[aV (ne c _ q)];exact q
abbrev Cx.marked (X:Cx)(v:Value):Cx:={ X with A:=X.A.mark (some v),calm:=false,xe:=λ_ _=>False }
theorem aR.mark(I:aR X pins σ H s)(v:Value):aR (X.marked v) pins σ H s :=
 ⟨⟨I.ok.mod,I.ok.kind,I.ok.glob,I.ok.blt,I.ok.above,I.ok.inj,I.ok.has,I.ok.cab,(λz=>nomatch z),I.ok.frames,I.ok.stk,I.ok.exf,I.ok.bs,I.ok.bsz,I.ok.noex,I.ok.exfs,I.ok.funs,I.ok.frf⟩,I.os,I.bare,I.base,I.loc,I.cell,I.free,I.freeC,I.pin,I.hok,I.len⟩
theorem aR.unmark{v:Value}(I:aR (X.marked v) pins σ H s)(ok:X.Ok):aR X pins σ H s:=⟨ok,I.os,I.bare,I.base,I.loc,I.cell,I.free,I.freeC,I.pin,I.hok,I.len⟩
theorem aR.unset{n:Str}{h:Heap}{v:Option Value}{m:Str->Option Value}{t:Tok}(I:aR X pins σ H s)(hN:X.N.Nodup)(hi:X.N[i]? = some n)
  (hm:s.heap.Ns X.env.locals m)(hl:∀(j:Nat)(x:Str)(w:V),X.N[j]? = some x->σ[j]? = some (some w)->Ht X.env.scope x -> ∃u,cw w u/\Ks X.env s.heap m x u)
  (hn:h.Ns X.env.locals (λx=>if x=n then v else m x))(hs:Heap.SameBut X.env.locals s.heap h):aR X pins (σ.set i none) H { s with heap:=h,toks:=t }:=by
 have sm:∀b o,b≠X.env.locals->s.heap.get? b=some o->h.get? b=some o:=λb o hb e=>(hs.2 b hb).trans e;have cellK:∀x c,X.env.cells.lookup x=some c -> ∀w,s.heap.IsCell c w->h.IsCell c w:=λx c e w ⟨o,ho,hd⟩=>⟨o,sm c o (I.cne x c e) ho,hd⟩;refine⟨I.ok,I.os,I.bare,⟨λb o e n' hb hx=>?_,λb o e n' hb hx=>?_,I.base.free,λb o e hx=>?_,I.base.tups,I.base.frzs,I.base.tbls⟩,⟨_,hn,λj x w e1 e2 e3=>?_⟩,λx c e=>?_,I.free,I.freeC,λp hp=>?_,λb u e=>?_,by rw[YJ];exact I.len⟩
 .have neL:b≠X.env.locals:=Yf (Yd (Heap.lt_size e) I.ok.above);exact sm b o neL (I.base.keep b o e n' hb hx)
 .have neL:b≠X.env.locals:=Yf (Yd (Heap.lt_size e) I.ok.above);obtain⟨sl,q⟩:=I.base.slot b o e n' hb hx;exact⟨sl,sm b _ neL q⟩
 .have neL:b≠X.env.locals:=Yf (Yd (Heap.lt_size e) I.ok.above);obtain⟨o',q⟩:=I.base.there b o e hx;exact⟨o',sm b _ neL q⟩
 .have hij:j≠i:=λz=>by
   subst z;rw[Ym (by rw[I.len];exact (List.getElem?_eq_some_iff.mp hi).1)] at e2
   cases e2
  rw[Yn (Yl hij)] at e2;have hxn:x≠n:=λz=>by
   subst z;exact hij ((List.getElem?_inj (List.getElem?_eq_some_iff.mp e1).1 hN).mp (e1.trans hi.symm))
  obtain⟨u,r,l⟩:=hl j x w e1 e2 e3;refine⟨u,r,?_⟩;rcases l with ⟨k,q⟩|⟨k,c,q,z⟩
  .exact .inl ⟨k,(Yc hxn).trans q⟩
  .exact .inr ⟨k,c,q,cellK x c q _ z⟩
 .obtain⟨w,z⟩:=I.cell x c e;exact⟨w,cellK x c e w z⟩
 .obtain⟨q1,q2,q3,q4,q5⟩:=I.pin p hp;exact⟨sm _ _ q3 q1,q2,q3,q4,q5⟩
 .refine (I.hok b u e).stay (λc w hc q=>sm c w (λz=>?_) q) (λ_ q=>q) λ_ _ q=>q;subst z;rcases hc with z|z
  .rw[<-z,I.free] at e;cases e
  .rw[I.free] at z;cases z
end
def Hj(K:Sf)(C0:Addr)(i:Nat)(tb:St->Hp->XK->Prop)(ts:TS):TS:=λD σ H =>
 tb σ H λc _ H1=>∃C,c=.ref C/\PySem.W.exmOne K (.ref C) (.ref C0)=some true /\ ∀a H2,vw K H1 a=none->aB (vw K H1) (vw K H2)->vw K H2 a=some (J7 a C)->ts { nx:=λσ2 H2=>D.nx (σ2.set i none) H2,rt:=λ_ _=>False } (σ.set i (some (.ref a))) H2
section
variable {X:Cx}
theorem IU{e:Expr}{cls n:Str}{b0:Stmt}{suite:List Stmt}{np hp:Pos}{C0:Addr}{tb:St->Hp->XK->Prop}{ts:TS}(hx0:X.ex=[])(hs:X.stack=X.env::X.outer)(hfr:X.env.frame=some X.env.locals)
  (hb:PX X e tb)(hN:X.N.Nodup)(hi:X.N[i]? = some n)(hloc:X.env.scope.names.lookup n=some .local)(hg:Gl X cls)(hm:X.mg cls=some (.ref C0))(hsu:∀v,uW (X.marked v) (b0::suite) ts)
  (hdb:(cls==("__debug__":Str))=false:=by decide) (hsw:swapsWith e none p1.line X.env=pure false:=by rfl) :
  PS X (.Try [.Expr e p1] [.ExceptHandler (some (.Name cls np)) (some n) (b0::suite) hp] [] [] pos) (Hj X.K C0 i tb ts):=by
 intro pins s σ H D I h;obtain⟨E1,hE1⟩:∃E1:XK,E1=λc _ H1=>∃C,c=.ref C/\PySem.W.exmOne X.K (.ref C) (.ref C0)=some true /\ ∀a H2,vw X.K H1 a=none->aB (vw X.K H1) (vw X.K H2)->vw X.K H2 a=some (J7 a C)->ts { nx:=λσ2 H2=>D.nx (σ2.set i none) H2,rt:=λ_ _=>False } (σ.set i (some (.ref a))) H2:=⟨_,rfl⟩;have h':tb σ H E1:=by rw[hE1];exact h
 refine wpAny_Try_except (wpAny_mono (Q:=λ_ _=>False) (E:=λev s'=>∃s1 H1,aR X pins σ H1 s1/\mX X.prog X.w X.stack H1 s1 E1 ev s') ?_ (λ_ _ z=>z.elim) λev s' hx=>?_)
 .refine wpAny_execs_cons (wpAny_Expr_any (dc (hb pins s σ H E1 I h') λ_ _ z=>z.elim) I.quiet hsw)
 .obtain⟨s1,H1,I1,a,C,a0,B,H',rfl,os,gb,un,hok,fl,F,q⟩:=hx;rw[hE1] at q;obtain⟨C',ec,hex,q⟩:=q;cases ec;have hfr':X.A.frames=some (X.env::X.outer):=by rw[I1.ok.frames,hs]
  have fl0:=fl;rw[hs] at fl;have nB:B.get? a=none:=fl0.2.1;obtain⟨oa,va,ga,ca,da,_⟩:=fl0.first
  have n1:s1.heap.get? a=none:=by
   cases z:s1.heap.get? a with
   | none=>rfl
   | some o =>
    by_cases hf:a∈iS X.stack
    .obtain⟨_,o',e3,hd⟩:=fl0.2.2.1.mem hf;rw[ga] at e3;cases e3;exact absurd da (hd _)
    .obtain⟨o',q'⟩:=F.b3 a o z hf;rw[nB] at q';cases q'
  have n0:X.s₀.heap.get? a=none:=by
   cases z:X.s₀.heap.get? a with
   | none=>rfl
   | some o =>
    obtain⟨o',q'⟩:=I1.base.there a o z (by rw[hx0];simp)
    rw[n1] at q';cases q'
  have nH:H' a=none:=by
   cases z:H' a with
   | none=>rfl
   | some u =>
    obtain⟨o',q'⟩:=F.b1 a (by rw[z];simp)
    rw[nB] at q';cases q'
  have nL:a≠X.env.locals:=λz=>by
   obtain⟨m,⟨o,_,_,ho,_⟩,_⟩:=I1.loc;rw[<-z,n1] at ho;cases ho
  have nC:∀x c,X.env.cells.lookup x=some c->c≠a:=λx c e' z=>by
   obtain⟨v,o,ho,_⟩:=I1.cell x c e';rw[z,n1] at ho;cases ho
  have nP:∀p∈X.pn++pins,p.1≠a:=λp hp' z=>by
   have ho:=(I1.pin p hp').1;rw[z,n1] at ho;cases ho
  refine wpAny_looks_onW hfr' hfr fl λh4 held4 up4=>?_;refine wpAny_landsW held4 λh5 KS up5=>?_;have up45:=up4.trans up5;have I5:=I1.landed F un hok fl0.1 KS.1 up45 os gb;refine wpAny_handleBy_cons (codeAny_handlers_test ?_) (by intro z;cases z)
  refine kA (X:=X.marked (.ref a)) (I5.mark (.ref a)) hg hm ?_ hdb;obtain⟨o5,g5,c5⟩:=KS.there;have LT:PySem.W.Looks (model X.prog X.w) h5 (typeOf (.ref a)) (.ref C):=c5▸(PySem.W.Looks.ld g5).andThen .now;refine (PySem.W.exm_one I5.kIn LT hex).here ?_;refine codeAny_handlers_suite_as ?_;refine lands_againW KS λh6 Ll up6=>?_;have I6:=I1.landed F un hok fl0.1 Ll.1 (up45.trans up6) os gb;obtain⟨o6,g6,c6⟩:=Ll.there;have I7:=I6.track (a:=a) (o:=J7 a C) nH n0 nL nC nP ⟨⟨o6,g6,c6⟩,⟨o6,g6⟩,λha hb ⟨o,e1,e2⟩ k=>⟨o,k o e1,e2⟩⟩;have hKa:X.K.lookup a=none:=by
   cases z:X.K.lookup a with
   | none=>rfl
   | some ob =>
    have e1:=I1.bk a ob (I1.ok.mod.kin a ob z);rw[n1] at e1;cases e1
  have hv1:vw X.K H' a=none:=(dU hKa).trans nH;have hv2:vw X.K (upd H' a (J7 a C)) a=some (J7 a C):=(dU hKa).trans cz;refine fK I7 hN hi (.inl hloc) (v:=.ref a) rfl (λs8 I8=>?_) (.inr hloc);refine wpAny_mono ((hsu (.ref a)) pins s8 _ _ _ (I8.mark (.ref a)) (q a _ hv1 (lT (aB.upd nH)) hv2)) (λf s9 z=>?_) λ_ _ z=>z.elim;cases f with
  | next =>
   obtain⟨σ9,H9,I9,q9⟩:=z;have I9':=I9.unmark I.ok;obtain⟨m,hn,hl⟩:=id I9'.loc;refine wpAny_nameGoes_keeps hloc hn (by rw[I.ok.kind];rfl) λh10 v10 hn10 hs10=>?_
   exact⟨_,H9,I9'.unset hN hi hn hl hn10 hs10,q9⟩
  | brk=>obtain⟨_,_,_,z⟩:=z;exact z.elim
  | cont=>obtain⟨_,_,_,z⟩:=z;exact z.elim
  | ret u=>obtain⟨_,_,_,_,_,z⟩:=z;exact z.elim
end
theorem mX.imp{P:Program}{s':Shared}{E':XK}{e:Value}(h:mX P w outer H s E e s')(k:∀c o H',E c o H'->E' c o H'):mX P w outer H s E' e s':=by
 obtain⟨a,C,a0,B,H',h1,h2,h3,h4,h5,h6,h7,h8⟩:=h;exact⟨a,C,a0,B,H',h1,h2,h3,h4,h5,h6,h7,k _ _ _ h8⟩
structure Lb (P:Program)(w:World)(K:Sf)(mg:Str->Option Value)(base:Heap)(k:Nat)(p C:Addr)(s:Shared)(H:Hp)(outer:List Env):Prop where
 fn:∃oc od fd sl,s.heap.get? p=some ⟨oc,od,.func fd,sl⟩
 free:H p=none
 nof:p∉iS outer
 run:∀(A':Around)(outer':List Env)(s':Shared),dE k A'->rE P w K mg base A' outer' s' H->(∀b o,s.heap.get? b=some o->H b=none->b∉iS outer->s'.heap.get? b=some o) ->
  codeAny (model P w) A' (.call (.ref p) ⟨[],[]⟩) (CR (mX P w) outer' P w H s' (λ_ _=>False) (λc o H'=>c=.ref C/\o=none/\aB (vw K H) (vw K H'))) s'
theorem IY{C:Addr}{p2:Pos}(hx0:X.ex=[])(L:Lb X.prog X.w X.K X.mg X.base k p C X.s₀ X.H₀ X.outer)(hr:dE k X.A)(hi:X.N[i]? = some x)(hv:Ht X.env.scope x)
  (hd:(x==("__debug__":Str))=false:=by decide) (hcd:(x==("__classdict__":Str))=false:=by decide) :
  PX X (.Call (.Name x p1) [] [] p2) (λσ H E=>H=X.H₀/\σ[i]? = some (some (.ref p)) /\ ∀H',aB (vw X.K X.H₀) (vw X.K H')->E (.ref C) none H'):=by
 intro pins s σ H E I h;obtain⟨rfl,hσ,hE⟩:=h;have nx:∀b,b∉X.ex:=λb z=>by rw[hx0] at z;exact absurd z (by simp)
 refine wpAny_Call_Name_kw ?_;refine dc (Dc (X:=X.wish λev s'=>∃s1 H1,aR X pins σ H1 s1/\mX X.prog X.w X.stack H1 s1 E ev s') hi hv hd hcd pins s σ X.H₀ (λv H1=>v=.ref p/\H1=X.H₀) (I.wish _) ⟨.ref p,hσ,rfl,rfl⟩) (λu s1 z=>?_);obtain⟨v,H1,I1,r,rfl,rfl⟩:=z;have I1:=I1.unwish;cases r;have keep:∀b o,X.s₀.heap.get? b=some o->X.H₀ b=none->b∉iS X.outer->s1.heap.get? b=some o:=λb o e n nf=>I1.base.keep b o e n nf (nx b);obtain⟨oc,od,fd,sl,hfn⟩:=L.fn;refine PySem.W.callWith_F0 ⟨oc,od,fd,sl,keep _ _ hfn L.free L.nof⟩ ?_;refine wpAny_call (codeAny_mono (L.run X.A X.stack s1 hr I1.env0 keep) λr s' hq=>?_);cases r with
 | error e =>
  have hq':mX X.prog X.w X.stack X.H₀ s1 (λc o H'=>c=.ref C/\o=none/\aB (vw X.K X.H₀) (vw X.K H')) e s':=hq;exact⟨s1,X.H₀,I1,hq'.imp λc o H' ⟨q1,q2,q3⟩=>by subst q1 q2;exact hE H' q3⟩
 | ok fl =>
  cases fl with
  | ret u=>obtain⟨_,_,_,_,_,_,_,z⟩:=hq;exact z.elim
  | next=>exact False.elim hq
  | brk=>exact False.elim hq
  | cont=>exact False.elim hq
theorem JN{CX:wT}{P:Program}{name:Str}{params:Arguments}{body:List Stmt}{dV kV doc pm cdv ct oc:Value}{an od:Option Addr}
  {osl:Array (Option Value)}{N ps:List Str}{A:Around}{outer:List Env}{s:Shared}{H:Hp}{args:Args}{us:List Value}{vs:List V}{Q:VK}{E:XK}
  (lk:K.lookup f=some ⟨oc,od,.func (PySem.W.fnOf name qual params body scope dV kV doc pm an cdv ct),osl⟩)(hcd:PySem.W.codeIn K cdv qual=true)(S:ay N ps scope)
  (hr:dE (k+1) A)(e0:rE P w K mg base A outer s H)(hb:BindsTo s (PySem.W.fnOf name qual params body scope dV kV doc pm an cdv ct) args (ps.zip us))(r:bJ vs us)(hl:vs.length=ps.length)
  (hbody:dE k (A.deeper (envOfC qual scope s.heap.objs.size f cdv)) -> ∃t,uW (gd CX P w K mg base N qual scope f cdv A outer s H E) body t/\t { nx:=λ_ H'=>Q .non H',rt:=Q } (start N vs) H) :
  codeAny (model P w) A (.call (.ref f) args) (CR CX outer P w H s Q E) s:=by
 have KX:K.In s.heap:=e0.mod.kin.keeps λb o e=>(e0.bs b o e).1;have lim:s.heap.NoLimit:=e0.mod.nolimit.keeps λb o e=>(e0.bs b o e).1;have hkind:∀y∈ps.zip us,scope.names.lookup y.1=some .local\/(scope.names.lookup y.1=some .cell/\((cellsFrom (s.heap.objs.size+1) scope.names []).lookup y.1).isSome=true):=λ⟨n,v⟩ hy=>by
  rcases S.par n (List.of_mem_zip hy).1 with q|q
  .exact .inl q
  .exact .inr ⟨q,PySem.W.cellsFrom_some _ _ _ (.inl q)⟩
 refine codeAny_call_function hr.depth (KX _ _ lk) rfl S.co S.gen rfl (PySem.W.codeRec_of KX hcd) (hb _ _ _ _ ?_);refine wpAny_newFunctionEnv_cells S.kind hkind λenv he s1 x=>?_;subst he;refine⟨lim.keeps x.toInCall.keep,codeAny_func ?_⟩;obtain⟨t,ht,hq⟩:=hbody (hr.deeper _);have I:aR (gd CX P w K mg base N qual scope f cdv A outer s H E) [] (start N vs) H s1:=rL S hr.hd e0 hl r x;refine wpAny_mono (ht [] s1 (start N vs) H _ I hq) (λfl s' hs=>?_) λe s' hs=>hs;have fin:∀{σ':St}{H':Hp}{v:V}{u:Value},aR (gd CX P w K mg base N qual scope f cdv A outer s H E) [] σ' H' s'->cw v u->Q v H'->CE outer P w H s Q u s' :=
  λ{σ' H' v u} J rv q=>⟨v,H',J.os,J.bare,J.base,J.hok,rv,q⟩
 cases fl with
 | ret u =>
  obtain⟨v,σ',H',J,rv,q⟩:=hs;exact fin J rv q
 | next =>
  obtain⟨σ',H',J,q⟩:=hs;exact fin (v:=V.non) (u:=Value.none) J rfl q
 | brk =>
  obtain⟨_,_,_,q⟩:=hs;exact False.elim q
 | cont =>
  obtain⟨_,_,_,q⟩:=hs;exact False.elim q
def vR(c:Addr)(qual:Str):HO:=.ext (λh=>h.CodeRec (.ref c) qual)
def dF(H:Hp)(P:Addr)(qual:Str):Prop:=∃ps,H P=some (.tbl ps)/\TriplesOk ps.toList /\ ∀pos cv,codeAmong pos ps.toList=some cv -> ∃c,cv=.ref c/\H c=some (vR c qual)
theorem rg{a b:Int}{c cv:Value}(l:List Value)(h:TriplesOk l)(z:codeAmong pos (l++[rawInt a,rawInt b,c])=some cv):codeAmong pos l=some cv\/cv=c:=by
 fun_induction TriplesOk l with
 | case1 =>
  simp only[List.nil_append,codeAmong,rawInt] at z;split at z
  .exact .inr (Yo z).symm
  .cases z
 | case2 a' t b' u x rest ih =>
  simp only[List.cons_append,codeAmong] at z ⊢;by_cases hh:(a'==(pos.line:Int) && b'==(pos.col:Int))=true
  .rw[Yb hh] at z ⊢;exact .inl z
  .rw[Yc hh] at z ⊢;exact ih h z
 | case3 l h1 h2=>exact h.elim
theorem aR.tabbed{c':Addr}{ps more:Array Value}{h2:Heap}{t':Nat}(I:aR X pins σ H s)(hP:H P=some (.tbl ps))(hx:Heap.ExtBut P s.heap h2)(hc:s.heap.objs.size<=c')
  (hr:h2.CodeRec (.ref c') qual)(hP2:h2.get? P=some { cls:=.none,data:=.fields (ps++more) }):aR X pins σ (upd (upd H P (.tbl (ps++more))) c' (vR c' qual)) { s with heap:=h2,toks:=t' }:=by
 have nc:H c'=none:=I.hok.fresh hc;have cP:c'≠P:=λz=>by rw[z,hP] at nc;cases nc
 have nP:∀b,H b=none->b≠P:=λb n z=>by rw[z,hP] at n;cases n
 have old:∀b o,s.heap.get? b=some o->b≠c':=λb o e z=>by rw[z] at e;exact absurd (Yd (Heap.lt_size e) hc) (Ye _)
 have Kq:∀b u,H b=some u->(∀q,u ≠ .tbl q)->upd (upd H P (.tbl (ps++more))) c' (vR c' qual) b=some u:=λb u e nt=>by
  rw[aV (aj e nc),aV (λz=>by rw[z,hP] at e;cases e;exact nt _ rfl)]
  exact e
 refine I.step (h':=h2) (g':=s.gens) (d':=s.drawn) (t':=t') (ch:=[]) (λ_ z=>nomatch z) (λb o _ _ _ e n=>hx b o (nP b n) e) (λb o _ _ _ e n=>⟨o.slots,hx b o (nP b n) e⟩) (λb o _ e n=>?_) (λb o _ e=>?_)
  (λb xs e=>Kq b _ e (λ_ z=>by cases z)) (λb o u e=>Kq b _ e (λ_ z=>by cases z)) (λb qs e=>?_) (λm hm=>?_) (λb u e=>?_) I.bare
 .rw[aV (old b o e),aV (nP b n)];exact n
 .by_cases hb:b=P
  .exact⟨_,by rw[hb];exact hP2⟩
  .exact⟨o,hx b o hb e⟩
 .by_cases hb:b=P
  .subst hb;rw[hP] at e;cases e;exact⟨more,by rw[aV (Yl cP),cz]⟩
  .exact⟨#[],by rw[aV (aj e nc),aV hb,e];simp⟩
 .obtain⟨o,es,ep,ho,r⟩:=hm;exact⟨o,es,ep,hx _ o (nP _ I.free) ho,r⟩
 .by_cases hb:b=c'
  .subst hb;rw[cz] at e;cases e;obtain⟨c2,oc,vs,t,e1,e2,e3⟩:=id hr;cases e1;exact⟨hr,⟨_,e2⟩,λha hb ⟨c3,o3,v3,t3,q1,q2,q3⟩ k=>by cases q1;exact⟨_,o3,v3,t3,rfl,k o3 q2,q3⟩⟩
  .rw[aV hb] at e;by_cases hp:b=P
   .subst hp;rw[cz] at e;cases e;exact hP2
   .rw[aV hp] at e;refine (I.hok b u e).stay (λc v hc' q=>hx c v (λz=>?_) q) (λc q=>Kq c _ q λ_ z=>by cases z) λc xs q=>Kq c _ q λ_ z=>by cases z
    rcases hc' with z2|z2
    .exact hp (z2.symm.trans z)
    .rw[z,hP] at z2;cases z2
theorem uq{env:Env}:∀(l:List (Str×NameKind))(acc:List (Str×Addr)),(∀q∈l,q.2=.free -> ∃c,env.cells.lookup q.1=some c)->(∀x∈acc,env.cells.lookup x.1=some x.2) ->
  ∃r,(forIn l acc (λ(x:Str×NameKind)(cs:List (Str×Addr))=>(if (x.2==NameKind.free)=true then do let c <-cellOf env x.1;pure (ForInStep.yield ((x.1,c)::cs)) else pure (ForInStep.yield cs):Sem (ForInStep (List (Str×Addr))))):Sem (List (Str×Addr)))=pure r /\
   (∀x∈r,env.cells.lookup x.1=some x.2)/\(∀q∈l,q.2=.free -> ∃c,(q.1,c)∈r) /\ ∀x∈acc,x∈r
 | [],acc,_,ha=>⟨acc,rfl,ha,by simp,λ_ z=>z⟩
 | q::l,acc,h,ha=>by
  obtain⟨n,kd⟩:=q;rw[List.forIn_cons];by_cases hk:kd=.free
  .subst hk;obtain⟨c,hc⟩:=h (n,.free) (by simp) rfl
   obtain⟨r,e1,e2,e3,e4⟩:=uq (env:=env) l ((n,c)::acc) (λq hq=>h q (by simp[hq])) (λx hx=>by
    rcases Y2.mp hx with z|z
    .rw[z];exact hc
    .exact ha x z)
   refine⟨r,?_,e2,λq hq hf=>?_,λx hx=>e4 x (by simp[hx])⟩
   .simp only[cellOf,hc,pure_bind,beq_self_eq_true,if_true];exact e1
   .rcases Y2.mp hq with z|z
    .rw[z];exact⟨c,e4 _ (by simp)⟩
    .exact e3 q z hf
  .obtain⟨r,e1,e2,e3,e4⟩:=uq (env:=env) l acc (λq hq=>h q (by simp[hq])) ha
   refine⟨r,?_,e2,λq hq hf=>?_,e4⟩
   .have:(kd==NameKind.free)=false:=by simpa using hk
    simp only[this,Bool.false_eq_true,if_false,pure_bind];exact e1
   .rcases Y2.mp hq with z|z
    .rw[z] at hf;exact absurd hf hk
    .exact e3 q z hf
theorem FN{env:Env}(h:∀q∈scope.names,q.2=.free -> ∃c,env.cells.lookup q.1=some c):∃r,closureFor scope env=pure r/\(∀x∈r,env.cells.lookup x.1=some x.2)/\(∀q∈scope.names,q.2=.free -> ∃c,(q.1,c)∈r):=by
 obtain⟨r,e1,e2,e3,_⟩:=uq (env:=env) scope.names [] h (by simp)
 refine⟨r,?_,e2,e3⟩;unfold closureFor;have e1':=e1
 first
  | (rw[<-e1];simp;done)
  | (simp only[bind_pure];rw[<-e1];rfl)
  | (show (forIn scope.names [] _ >>= pure)=_;rw[bind_pure];rw[<-e1];rfl)
structure yU (X:Cx)(c P:Addr):Prop where
 code:X.env.code=.ref c
 hd:PySem.W.CodeHd X.base c P
 bi:∃bm o,X.mg "__builtins__"=some (.ref bm)/\bm≠builtinsNs/\bm≠mainGlobals/\X.base.get? bm=some o/\o.cls=.type "module" /\ o.dict=some builtinsNs/\o.data=.plain
abbrev mH (X:Cx):Str:=X.env.qual ++ "<lambda>"
theorem Bw{params:Arguments}{body:Expr}{M':Model}{A':Around}{Q:Value->Shared->Prop}{E:Value->Shared->Prop}
  (M:yU X c P)(hdef:defaultsOf params X.env=([],[]))(I:aR X pins σ H s)(hT:dF H P (mH X))(hfree:∀q∈scope.names,q.2=.free->X.env.kindOf q.1=some .cell)
  (k:∀(p c':Addr)(pm ctv:Value)(clos:List (Str×Addr))(H1:Hp)(s1:Shared),(∀x∈clos,X.env.cells.lookup x.1=some x.2)->(∀q∈scope.names,q.2=.free -> ∃c,(q.1,c)∈clos)->aR X pins σ H1 s1->eJ P H H1->dF H1 P (mH X) ->
   s1.heap.get? p=some (PySem.W.kla_obj "<lambda>" (mH X) params body scope clos pm c' ctv)->H1 p=none->s.heap.objs.size<=p->H1 c'=some (vR c' (mH X))->Q (.ref p) s1) :
  wpAny M' A' (eval (.Lambda params body scope pos) X.env) Q E s:=by
 obtain⟨clos,hcl,hc1,hc2⟩:=FN (env:=X.env) (scope:=scope) λq hq hf=>I.ok.has q.1 (.inl (hfree q hq hf));refine PySem.W.kla_eval hdef ?_;obtain⟨ps,hP,ht,hall⟩:=hT;have oP:s.heap.get? P=some (PySem.W.tabObj ps):=I.hok P _ hP;obtain⟨bm,o,b1,b2,b3,b4,b5,b6,b7⟩:=M.bi;have bP:bm≠P:=λz=>by
  have:=(I.bs bm o b4).2;rw[z,hP] at this;cases this
 have gP:mainGlobals≠P:=λz=>by
  obtain⟨og,_,_,eg,_⟩:=I.mod.glob;have:=(I.bs _ og eg).2;rw[z,hP] at this;cases this
 have hb:s.heap.BuiltinsAt X.mg P:=⟨bm,o,b1,b2,b3,bP,I.bk _ _ b4,b5,b6,b7⟩;cases hh:codeAmong pos ps.toList with
 | none =>
  refine PySem.W.kla_makeFunction hcl I.ok.glob (I.mod.glob.keeps I.bk) M.code (M.hd.keeps I.bk) oP ht hh gP hb λc' ctv h' tk hx hge hlt hrec htb=>?_;have I1:=I.tabbed (t':=tk) hP hx hge hrec htb;have I2:=I1.kept (t':=tk) (h':=h'.push (PySem.W.kla_obj "<lambda>" (mH X) params body scope clos ((X.mg "__name__").getD .none) c' ctv)) λb o e=>Heap.get?_push_of_some _ e;have nc:H c'=none:=I.hok.fresh hge;have cP:c'≠P:=λz=>by rw[z,hP] at nc;cases nc
  have hle:s.heap.objs.size<=h'.objs.size:=Yg hge (Yh hlt);refine k _ c' _ ctv clos _ _ hc1 hc2 I2 (λb o hb e=>?_) ⟨_,by rw[aV (Yl cP),cz],?_,λpos' cv z=>?_⟩ (Heap.get?_push_size _ rfl) (I1.hok.fresh (Yr _)) hle cz
  .rw[aV (aj e nc),aV hb];exact e
  .rw[Array.toList_append];exact TriplesOk_snoc _ _ _ _ ht
  .rw[Array.toList_append] at z;rcases rg _ ht z with q|q
   .obtain⟨c2,e2,e3⟩:=hall pos' cv q;refine⟨c2,e2,?_⟩;rw[aV (aj e3 nc),aV (λz=>by rw[z,hP] at e3;cases e3)]
    exact e3
   .exact⟨c',q,cz⟩
 | some cv =>
  obtain⟨c',rfl,hcO⟩:=hall pos cv hh;refine PySem.W.kla_makeFunctionHit hcl I.ok.glob (I.mod.glob.keeps I.bk) M.code (M.hd.keeps I.bk) oP ht hh hb λctv h' tk hk hsz=>?_;have I1:=I.kept (t':=tk) (h':=h') hk;have I2:=I1.kept (t':=tk) (h':=h'.push (PySem.W.kla_obj "<lambda>" (mH X) params body scope clos ((X.mg "__name__").getD .none) c' ctv)) λb o e=>Heap.get?_push_of_some _ e;exact k _ c' _ ctv clos _ _ hc1 hc2 I2 (λb o _ e=>e) ⟨ps,hP,ht,hall⟩ (Heap.get?_push_size _ rfl) (I1.hok.fresh (Yr _)) hsz hcO
def rS(P:Program)(w:World)(K:Sf)(mg:Str->Option Value)(base:Heap)(N:List Str)(qual:Str)(scope:Scope)(p:Addr)(cd:Value)(cl:List (Str×Addr))(A:Around)(outer:List Env)(s:Shared)(H:Hp):Cx where
 prog:=P
 w:=w
 K:=K
 mg:=mg
 base:=base
 A:=A.deeper (PySem.W.envX qual scope s.heap.objs.size p cd cl)
 N:=N
 s₀:=s
 H₀:=H
 env:=PySem.W.envX qual scope s.heap.objs.size p cd cl
 outer:=outer
 stack:=PySem.W.envX qual scope s.heap.objs.size p cd cl::outer
 ex:=[]
 fn:=λ_=>false
 calm:=true
 pn:=[]
 xe:=λ_ _=>False
theorem kN{cl:List (Str×Addr)}{f:Str->Option Addr}(h:∀x∈cl,f x.1=some x.2){n:Str}{c:Addr}(hm:(n,c)∈cl):cl.lookup n=some c:=by
 induction cl with
 | nil=>cases hm
 | cons q r ih =>
  obtain⟨m,d⟩:=q;rw[List.lookup_cons];by_cases e:n=m
  .subst e;have h1:=h (n,d) (by simp)
   have h2:=h (n,c) hm;rw[h1] at h2;cases h2;simp
  .have:(n==m)=false:=by simpa using e
   rw[this];refine ih (λx hx=>h x (by simp[hx])) ?_
   rcases Y2.mp hm with z|z
   .cases z;exact absurd rfl e
   .exact z
theorem gR{cl:List (Str×Addr)}{n:Str}(h:cl.lookup n=some c):(n,c)∈cl:=by
 induction cl with
 | nil=>cases h
 | cons q r ih =>
  obtain⟨m,d⟩:=q;rw[List.lookup_cons] at h;by_cases e:(n==m)=true
  .rw[e] at h;cases h;rw[eq_of_beq e];simp
  .have:(n==m)=false:=by simpa using e
   rw[this] at h;exact Yk _ (ih h)
theorem F2{P:Program}{cd:Value}{cl:List (Str×Addr)}{h1:Heap}{t:Nat}{g:Str->Option Addr}
  (hk:scope.kind=.function)(hh:A.handled=none)(e0:rE P w K mg base A outer s H)(hg:∀x∈cl,g x.1=some x.2)(hinj:∀x y c,g x=some c->g y=some c->x=y)(hfr:∀q∈scope.names,q.2=.free -> ∃c,(q.1,c)∈cl)(hnc:∀q∈scope.names,q.2 ≠ .cell)
  (hns:h1.Ns s.heap.objs.size (λ_=>none))(keep:∀b o,s.heap.get? b=some o->h1.get? b=some o)(hcell:∀x c,cl.lookup x=some c->H c=none /\ ∃v,s.heap.IsCell c v)
  (hloc:∀(i:Nat)(x:Str)(v:V),N[i]? = some x->σ[i]? = some (some v)->scope.names.lookup x=some .free /\ ∃u c,cw v u/\cl.lookup x=some c/\s.heap.IsCell c (some u))(hlen:σ.length=N.length) :
  aR (rS P w K mg base N qual scope p cd cl A outer s H) [] σ H { s with heap:=h1,toks:=t }:=by
 have noA:∀b:Addr,b∉(rS P w K mg base N qual scope p cd cl A outer s H).ex:=λb z=>absurd (show b∈([]:List Addr) from z) (by simp)
 refine⟨⟨e0.mod,hk,rfl,rfl,Yr _,λx y c h1 h2=>?_,λx hx=>?_,(λx c h=>nomatch h),λ_=>hh,Around.frames_deeper e0.frames,.inr ⟨rfl,rfl⟩,λb z=>absurd z (noA b),e0.bs,e0.bsz,λb _ _=>noA b,λb z=>absurd z (noA b),e0.funs,e0.frf⟩,
  rfl,e0.bare,Un.kept keep,⟨_,hns,λi x v h1 h2 h3=>?_⟩,λx c h=>?_,e0.hok.fresh (Yr _),λx c h=>(hcell x c h).1,λq hq=>absurd (show q∈([]:List (Addr×Obj)) from hq) (by simp),e0.hok.kept keep,hlen⟩
 .exact hinj x y c (hg _ (gR h1)) (hg _ (gR h2))
 .have hx':scope.names.lookup x=some .cell\/scope.names.lookup x=some .free:=hx;rcases hx' with z|z
  .exact absurd rfl (hnc _ (Yy z))
  .obtain⟨c,hc⟩:=hfr _ (Yy z) rfl;exact⟨c,kN hg hc⟩
 .obtain⟨hf,u,c,r,hc,o,ho,hd⟩:=hloc i x v h1 h2;exact⟨u,r,.inr ⟨.inr hf,c,hc,o,keep _ _ ho,hd⟩⟩
 .obtain⟨_,v,o,ho,hd⟩:=hcell x c h;exact⟨v,o,keep _ _ ho,hd⟩
theorem Jx{σl:St}{params:Arguments}{body:Expr}{c' C:Addr}{pm ctv:Value}{clos:List (Str×Addr)}{Nl:List Str}{tl:St->Hp->XK->Prop}
  (hfn:∀x,X.fn x=true)(I:aR X pins σ H s)(hc1:∀x∈clos,X.env.cells.lookup x.1=some x.2)(hc2:∀q∈scope.names,q.2=.free -> ∃c,(q.1,c)∈clos)
  (hp:s.heap.get? p=some (PySem.W.kla_obj "<lambda>" qual params body scope clos pm c' ctv)) (hpn:H p=none)(hpf:p∉iS X.stack)(hco:H c'=some (vR c' qual))
  (hk:scope.kind=.function)(hnc:∀q∈scope.names,q.2 ≠ .cell)(hsc:scope.isCoroutine=false/\scope.isGenerator=false)(hbind:bindArgs (PySem.W.kla_fn "<lambda>" qual params body scope clos pm (.ref c') ctv) ⟨[],[]⟩=pure [])
  (hN:∀(i:Nat)(x:Str)(v:V),Nl[i]? = some x->σl[i]? = some (some v)->scope.names.lookup x=some .free/\X.env.kindOf x=some .cell /\ ∃j:Nat,X.N[j]? = some x/\σ[j]? = some (some v))(hlen:σl.length=Nl.length)
  (hb:∀(A':Around)(outer':List Env)(s':Shared),dE k (A'.deeper (PySem.W.envX qual scope s'.heap.objs.size p (.ref c') clos))->PX (rS X.prog X.w X.K X.mg X.base Nl qual scope p (.ref c') clos A' outer' s' H) body tl)
  (ht:tl σl H λc o H'=>c=.ref C/\o=none/\aB (vw X.K H) (vw X.K H')):Lb X.prog X.w X.K X.mg X.base (k+1) p C s H X.stack:=by
 have cells:∀x c,clos.lookup x=some c->X.env.cells.lookup x=some c:=λx c h=>hc1 _ (gR h);have cfree:∀x c,X.env.cells.lookup x=some c->c∉iS X.stack:=λx c e z=>by
  rcases Y2.mp (I.stkSub c z) with q|q
  .exact I.cne x c e q
  .obtain⟨_,o,ho,_⟩:=I.ok.funs.mem q;exact absurd (Yd (Heap.lt_size ho) (I.ok.cab x c (hfn x) e)) (Ye _)
 refine⟨⟨_,_,_,_,hp⟩,hpn,hpf,λA' outer' s' hr e0 keep=>?_⟩;have KX:X.K.In s'.heap:=e0.mod.kin.keeps λb o e=>(e0.bs b o e).1;have lim:s'.heap.NoLimit:=e0.mod.nolimit.keeps λb o e=>(e0.bs b o e).1;have hrec:s'.heap.CodeRec (.ref c') qual:=(e0.hok c' _ hco).1;have cellAt:∀x c v,X.env.cells.lookup x=some c->s.heap.IsCell c v->s'.heap.IsCell c v:=λx c v e ⟨o,ho,hd⟩=>⟨o,keep c o ho (I.freeC x c e) (cfree x c e),hd⟩;refine PySem.W.kla_callFunE hr.depth (keep _ _ hp hpn hpf) rfl hsc.1 hsc.2 rfl hrec ?_;rw[hbind];refine wpAny_pure (wpAny_newFunctionEnv hnc (λy hy=>absurd hy (by simp)) (λh1 hns hsb=>⟨lim.fresh _ hsb,?_⟩) hk)
 show codeAny _ _ (.expr body (PySem.W.envX qual scope s'.heap.objs.size p (.ref c') clos)) _ _;have kp:∀b o,s'.heap.get? b=some o->h1.get? b=some o:=λb o e=>hsb.extBut b o (Yf (Heap.lt_size e)) (Heap.get?_push_of_some _ e);have J:aR (rS X.prog X.w X.K X.mg X.base Nl qual scope p (.ref c') clos A' outer' s' H) [] σl H { s' with heap:=h1,toks:=s'.toks+([]:List (Str×Value)).length }:=by
  refine F2 (g:=λx=>X.env.cells.lookup x) hk hr.hd e0 hc1 (λx y c h1 h2=>I.ok.inj x y c h1 h2) hc2 hnc (by simpa using hns) kp (λx c e=>⟨I.freeC x c (cells x c e),?_⟩) (λi x v e1 e2=>?_) hlen
  .obtain⟨v,z⟩:=I.cell x c (cells x c e);exact⟨v,cellAt x c v (cells x c e) z⟩
  .obtain⟨f1,f2,j,f3,f4⟩:=hN i x v e1 e2;obtain⟨m,hn,hl⟩:=I.loc;obtain⟨u,r,l⟩:=hl j x v f3 f4 (.inr (.inl f2));refine⟨f1,u,?_⟩;rcases l with ⟨z,_⟩|⟨_,c,hc,hz⟩
   .rw[f2] at z;cases z
   .obtain⟨c2,hm⟩:=hc2 _ (Yy f1) rfl;have l2:=kN (f:=λx=>X.env.cells.lookup x) hc1 hm;have e3:=cells _ _ l2;rw[hc] at e3;cases e3;exact⟨c,r,l2,cellAt x c _ hc hz⟩
 refine PySem.W.kla_codeExpr (wpAny_mono ((hb A' outer' s' (hr.deeper _)) [] _ σl H _ J ht) (λ_ _ z=>z.elim) λev s2 z=>?_);obtain⟨s3,H3,J3,z⟩:=z;exact J3.passed rfl rfl rfl z λ_ _ _ q=>q
def LO:V->Value->Prop
 | .ref a,u=>u=.ref a
 | .ty n,u=>u=.type n
 | _,_=>False
theorem cO:ei X (.builtin "isinstance") (λxs H Q=>∃p c,xs=[.ref p,c] /\ ∃C,vw X.K H p=some (J7 p C)/\tj X.K C /\ ∃cv,LO c cv /\ ∃b,PySem.W.kitOne X.K (.ref C) cv=some b/\Q (.bl b) H):=by
 intro pins s σ H xs us Q I r h;obtain⟨p,c,rfl,C,hp,Z,cv,hc,b,hk,q⟩:=h;obtain⟨u,w',rfl,rx,ry⟩:=wr r;cases rx;have e1:w'=cv:=by
  cases c with
  | ref a=>exact (show w'=Value.ref a from ry).trans hc.symm
  | ty n=>exact (show w'=Value.type n from ry).trans hc.symm
  | non=>exact hc.elim
  | bl _=>exact hc.elim
  | int _=>exact hc.elim
  | str _=>exact hc.elim
  | byt _=>exact hc.elim
  | flt _=>exact hc.elim
 subst e1;have hx:BY p C s.heap:=(I.hok p _ (i4 hp (λ_ z=>by cases z))).1
 exact Yv (Ee Z) I.kIn hx hk (by intro z;cases z) λtk=>⟨.bl b,H,I.tok tk,rfl,q⟩
def CS:List Str:=["NoFraction","NoPolynomial","NoSums","NoFlock","NoWalk","NoSum","NoDeed","NoText","NoRow"]
structure Ac (K:Sf)(mg:Str->Option Value)(C:Addr)(i:Nat):Prop where
 cls:tj K C
 kinds:∀(j:Nat)(n:Str),CS[j]? = some n -> ∃c,mg n=some (.ref c)/\PySem.W.kitOne K (.ref C) (.ref c)=some (decide (j=i))
 mom:∃c,mg "MomentError"=some (.ref c)/\PySem.W.exmOne K (.ref C) (.ref c)=some true
 ve:PySem.W.kitOne K (.ref C) (.type "ValueError")=some true
structure zd (P:Program)(w:World)(K:Sf)(mg:Str->Option Value)(base:Heap)(kl:Nat):Prop where
 ex:∃f,mg "_law_refused"=some (.ref f)/\PySem.W.keepIn K (.ref f)=true /\ ∀(A:Around)(outer:List Env)(s:Shared)(H:Hp)(p C:Addr)(i:Nat)(Q:VK),dE (kl+1) A->rE P w K mg base A outer s H->Lb P w K mg base kl p C s H outer->Ac K mg C i->i<9 ->
  (∀q H',aB (vw K H) (vw K H')->vw K H q=none->vw K H' q=some (.lst [.int i])->Q (.ref q) H')->codeAny (model P w) A (.call (.ref f) ⟨[.ref p],[]⟩) (CR dy outer P w H s Q E0) s
theorem aR.vwT{b:Addr}{o:HO}(I:aR X pins σ H s)(e:H b=some o):vw X.K H b=some o:=by
 have hk:X.K.lookup b=none:=by
  cases z:X.K.lookup b with
  | none=>rfl
  | some ob =>
   have:=(I.bs b ob (I.ok.mod.kin b ob z)).2;rw[e] at this;cases this
 rw[dU hk];exact e
theorem dF.raw(h:dF (vw K H) P qual):dF H P qual:=by
 obtain⟨ps,h1,h2,h3⟩:=h;refine⟨ps,i4 h1 (λ_ z=>by cases z),h2,λpos cv z=>?_⟩
 obtain⟨c,e1,e2⟩:=h3 pos cv z;exact⟨c,e1,i4 e2 (λ_ z=>by cases z)⟩
theorem aR.tabV(I:aR X pins σ H s)(h:dF H P qual):dF (vw X.K H) P qual:=by
 obtain⟨ps,h1,h2,h3⟩:=h;refine⟨ps,I.vwT h1,h2,λpos cv z=>?_⟩;obtain⟨c,e1,e2⟩:=h3 pos cv z;exact⟨c,e1,I.vwT e2⟩
def ym(K:Sf)(P:Addr)(qual:Str)(ixs:List Nat)(C:Addr)(i:Nat)(tl:St->Hp->XK->Prop):TE:=λσ H Q=>dF (vw K H) P qual /\ ∀H1,eJ P (vw K H) (vw K H1)->dF (vw K H1) P qual -> ∃σl:St,σl=ixs.map (λj=>(σ[j]?).join)/\tl σl H1 (λc o H'=>c=.ref C/\o=none/\aB (vw K H1) (vw K H')) /\
 ∀q H',aB (vw K H1) (vw K H')->vw K H1 q=none->vw K H' q=some (.lst [.int i])->Q (.ref q) H'
theorem Fx{params:Arguments}{body:Expr}{C:Addr}{kl:Nat}{lpos:Pos}{Nl:List Str}{ixs:List Nat}{tl:St->Hp->XK->Prop}
  (R:zd X.prog X.w X.K X.mg X.base (kl+1))(M:yU X c P)(hr:dE (kl+2) X.A)(hg:Gl X "_law_refused") (Z:Ac X.K X.mg C i)(hi:i<9)(hfn:∀x,X.fn x=true)(hdef:defaultsOf params X.env=([],[]))
  (hfree:∀q∈scope.names,q.2=.free->X.env.kindOf q.1=some .cell)(hk:scope.kind=.function)(hnc:∀q∈scope.names,q.2 ≠ .cell)(hsc:scope.isCoroutine=false/\scope.isGenerator=false)
  (hbind:∀clos pm c' ctv,bindArgs (PySem.W.kla_fn "<lambda>" (mH X) params body scope clos pm (.ref c') ctv) ⟨[],[]⟩=pure []) (hlen:ixs.length=Nl.length)(hNl:∀(j:Nat)(x:Str),Nl[j]? = some x->scope.names.lookup x=some .free /\ ∃l,ixs[j]? = some l/\X.N[l]? = some x)
  (hb:∀(p c':Addr)(clos:List (Str×Addr))(H1:Hp)(A':Around)(outer':List Env)(s':Shared),dE kl (A'.deeper (PySem.W.envX (mH X) scope s'.heap.objs.size p (.ref c') clos))->PX (rS X.prog X.w X.K X.mg X.base Nl (mH X) scope p (.ref c') clos A' outer' s' H1) body tl)
  (he:starEach [Expr.Lambda params body scope lpos] X.env=[(false,eval (.Lambda params body scope lpos) X.env)]:=by rfl) :
  PE X (.Call (.Name "_law_refused" p1) [.Lambda params body scope lpos] [] pos) (ym X.K P (mH X) ixs C i tl):=by
 intro pins s σ H Q I h;obtain⟨hT,h⟩:=h;obtain⟨f,hm,hkp,run⟩:=R.ex;refine wpAny_Call_Name_kw (kA I hg hm ?_ ∅);refine PySem.W.callWith_K (h₀:=X.base) I.ok.mod.kin hkp ?_ he rfl;rw[he];show wpAny _ _ (spliced [(false,eval (.Lambda params body scope lpos) X.env)]) _ _ s;refine Calls.spliced_cons (Bw M hdef I (dF.raw hT) hfree λp c' pm ctv clos H1 s1 hc1 hc2 I1 B1 T1 hp hpn hps hco=>?_);refine Calls.spliced_nil ⟨I1.kIn,?_⟩;obtain⟨σl,eσ,ht,fin⟩:=h H1 (xy B1) (I1.tabV T1);have hpf:p∉iS X.stack:=λz=>by
  rcases Y2.mp (I.stkSub p z) with q|q
  .exact absurd (Yd I.lt (q▸hps)) (Ye _)
  .exact I.nofs hps q
 have L:Lb X.prog X.w X.K X.mg X.base (kl+1) p C s1 H1 X.stack:=by
  refine Jx (σl:=σl) (Nl:=Nl) hfn I1 hc1 hc2 hp hpn hpf hco hk hnc hsc (hbind clos pm c' ctv) (λj x v e1 e2=>?_) (by rw[eσ,YF];exact hlen) (λA' outer' s' hr'=>hb p c' clos H1 A' outer' s' hr') ht
  obtain⟨a1,l,a2,a3⟩:=hNl j x e1;rw[eσ,YC,a2] at e2;have e3:(σ[l]?).join=some v:=by
   have e4:some ((σ[l]?).join)=some (some v):=e2;exact Yo e4
  refine⟨a1,hfree _ (Yy a1) rfl,l,a3,?_⟩;cases e5:σ[l]? with
  | none=>rw[e5] at e3;cases e3
  | some w=>rw[e5] at e3;cases w with
   | none=>cases e3
   | some w=>cases e3;rfl
 refine wpAny_call (codeAny_mono (run X.A X.stack s1 H1 p C i Q hr I1.env0 L Z hi fin) λr s' hq=>?_);cases r with
 | error e=>exact False.elim hq
 | ok fl =>
  cases fl with
  | ret u=>exact I1.after hq
  | next=>exact False.elim hq
  | brk=>exact False.elim hq
  | cont=>exact False.elim hq
def wb(G G':Hp):Prop:=∀b o,G b=some o->(∀ps,o ≠ .tbl ps)->G' b=some o
theorem wb.trans{G1 G2:Hp}(a:wb G G1)(b:wb G1 G2):wb G G2:=λc o e n=>b c o (a c o e n) n
theorem wb.rfl:wb G G:=λ_ _ e _=>e
theorem wb.but{ps:Array Value}(h:G P=some (.tbl ps))(B:eJ P G G'):wb G G':=λb o e n=>B b o (λz=>by rw[z,h] at e;cases e;exact n _ _root_.rfl) e
theorem dF.same(h:dF G P qual)(S:aB G G'):dF G' P qual:=by
 obtain⟨ps,h1,h2,h3⟩:=h;refine⟨ps,S _ _ h1,h2,λpos cv z=>?_⟩;obtain⟨c,e1,e2⟩:=h3 pos cv z;exact⟨c,e1,S _ _ e2⟩
theorem dF.start(h:G P=some (.tbl #[])):dF G P qual:=⟨#[],h,trivial,λpos cv z=>by cases z⟩
mutual
theorem aI.smT{H H':Hp}(S:wb H H'):∀(d:D)(v:V),aI H d v->aI H' d v
 | .non,v,h=>by unfold aI at *;exact h
 | .bl _,v,h=>by unfold aI at *;exact h
 | .int _,v,h=>by unfold aI at *;exact h
 | .str _,v,h=>by unfold aI at *;exact h
 | .tup ds,v,h=>by
  obtain⟨a,xs,rfl,ha,r⟩:=h.tup_at;exact .mk_tup (S _ _ ha (λ_ z=>by cases z)) (aF.smT S ds xs r)
 | .lst ds,v,h=>by
  obtain⟨a,xs,rfl,ha,r⟩:=h.lst_at;exact .mk_lst (S _ _ ha (λ_ z=>by cases z)) (aF.smT S ds xs r)
 | .dict,v,h=>by
  unfold aI at *
  obtain⟨a,kvs,e,ha⟩:=h;exact⟨a,kvs,e,S _ _ ha (λ_ z=>by cases z)⟩
theorem aF.smT{H H':Hp}(S:wb H H'):∀(ds:List D)(xs:List V),aF H ds xs->aF H' ds xs
 | [],xs,h=>by cases h.nil_at;exact .mk_nil
 | d::ds,xs,h=>by
  obtain⟨x,r,rfl,h1,h2⟩:=h.cons_at;exact .mk_cons (aI.smT S d x h1) (aF.smT S ds r h2)
end
theorem aP.smT{G G':Hp}{a:Addr}{qs:Lt}(h:aP G a qs)(S:wb G G'):aP G' a qs:=by
 obtain⟨xs,e,r⟩:=h;exact⟨xs,S _ _ e (λ_ z=>by cases z),aF.smT S _ _ r⟩
theorem kP.smT{H':Hp}{xs:List V}(h:kP K H a xs)(S:wb (vw K H) (vw K H')):kP K H' a xs:=by
 rcases h with ⟨hk,h⟩|h
 .refine .inl ⟨hk,?_⟩;rcases h with h|⟨o,h⟩
  .have:=S a _ (by rw[dU hk];exact h) (λ_ z=>by cases z)
   rw[dU hk] at this;exact .inl this
  .have:=S a _ (by rw[dU hk];exact h) (λ_ z=>by cases z)
   rw[dU hk] at this;exact .inr ⟨o,this⟩
 .exact .inr h
structure L8 (K:Sf)(mg:Str->Option Value)(base:Heap)(fd:FuncData)(c P:Addr):Prop where
 code:fd.code=.ref c
 hd:PySem.W.CodeHd base c P
 bi:∃bm o,mg "__builtins__"=some (.ref bm)/\bm≠builtinsNs/\bm≠mainGlobals/\base.get? bm=some o/\o.cls=.type "module" /\ o.dict=some builtinsNs/\o.data=.plain
theorem Ct{P:Program}{cdv:Value}{fd:FuncData}{Pt:Addr}(h:fd.code=cdv)(k:L8 K mg base fd c Pt):
  yU ((gd dy P w K mg base N qual scope f cdv A outer s H E).nox) c Pt:=⟨h▸k.code,k.hd,k.bi⟩
structure EA (P:Program)(w:World)(K:Sf)(mg:Str->Option Value)(base:Heap)(x:Str)(ps:List Str)(k:Nat)(sp:Sp):Prop where
 ex:∃f fd,aZ P w K mg base (mX P w) k f fd ps sp/\mg x=some (.ref f)/\PySem.W.keepIn K (.ref f)=true/\kW K fd ps []
structure QX (X:Cx)(e:Expr)(t:St->Hp->XK->Prop):Prop where
 h:PX X e t
def zQ(sp:Sp)(t:TA):St->Hp->XK->Prop:=λσ H E=>t σ H λvs H1=>sp vs H1 (λ_ _=>False) E
theorem Bz{p:Pos}{e:Expr}{es:List Expr}{sp:Sp}(C:EA X.prog X.w X.K X.mg X.base x ps k sp)(hr:dE k X.A)(hg:Gl X x)(ha:∀E,QA (X.wish E) (e::es) t)(hdb:(x==("__debug__":Str))=false:=by decide)
  (he:starEach (e::es) X.env=(false,eval e X.env)::starEach es X.env:=by rfl)(hpl:(backTo pos (starEach es X.env)).any (·.1)=false:=by rfl) :
  QX X (.Call (.Name x p) (e::es) [] pos) (zQ sp t):=⟨by
 obtain⟨f,fd,F,hm,hk,hb⟩:=C.ex;intro pins s σ H E I h;refine wpAny_Call_Name_kw (kA I hg hm ?_ hdb);have ha':=(ha λev s'=>∃s1 H1,aR X pins σ H1 s1/\mX X.prog X.w X.stack H1 s1 E ev s').h pos pins s σ H _ (I.wish _) h;refine PySem.W.callWith_K (h₀:=X.base) I.ok.mod.kin hk (dc ha' λus s1 ⟨vs,H1,I1,r,q⟩=>⟨I1.kIn,?_⟩) he hpl;have I1:=I1.unwish;have hl:us.length=ps.length:=by rw[<-r.length];exact F.len _ _ _ _ q
 have hb':=hb s1 us I1.kIn (by simpa using hl)
 rw[Yw] at hb';refine wpAny_call (codeAny_mono (F.run X.A X.stack s1 H1 ⟨us,[]⟩ us vs _ E hr I1.env0 hb' r q) λr s' hq=>?_);cases r with
 | error e=>exact⟨s1,H1,I1,hq⟩
 | ok fl =>
  cases fl with
  | ret u=>obtain⟨_,_,_,_,_,_,_,z⟩:=hq;exact z.elim
  | next=>exact False.elim hq
  | brk=>exact False.elim hq
  | cont=>exact False.elim hq⟩
section
variable {P:Program}{w:World}{K:Sf}{mg:Str->Option Value}{base:Heap}
theorem de.okX{fd:FuncData}{sp:Sp}(F:de K x qual st f fd)(S:ay N ps (ak st))(len:∀vs H Q E,sp vs H Q E->vs.length=ps.length)
  (hbody:∀(cdv:Value)(A:Around)(outer:List Env)(s:Shared)(H:Hp)(vs:List V)(Q:VK)(E:XK),dE k (A.deeper (envOfC qual (ak st) s.heap.objs.size f cdv))->sp vs H Q E ->
   ∃t,xq (gd (mX P w) P w K mg base N qual (ak st) f cdv A outer s H E) (dj st) t/\t { nx:=λ_ H'=>Q .non H',rt:=Q } (start N vs) H):aZ P w K mg base (mX P w) (k+1) f fd ps sp:=by
 obtain⟨oc,od,kV,doc,pm,an,cdv,ct,osl,rfl,lk,hcd⟩:=F.ex;refine BF lk hcd S len λA outer s H vs Q E hr hsp=>?_;obtain⟨t,h,q⟩:=hbody cdv A outer s H vs Q E hr hsp;exact⟨t,h.h,q⟩
theorem vK{cd:Value}{s₀:Shared}{H₀:Hp}{C:Addr}{np cpos:Pos}{e:Expr}{es:List Expr}(z:vC K C)(hg:Gl (gd (mX P w) P w K mg base N qual scope f cd A outer s₀ H₀ E) x)(hm:mg x=some (.ref C))
  (ha:QA (gd (mX P w) P w K mg base N qual scope f cd A outer s₀ H₀ E) (e::es) t)(hdb:(x==("__debug__":Str))=false:=by decide)
  (he:starEach (e::es) (envOfC qual scope s₀.heap.objs.size f cd)=(false,eval e (envOfC qual scope s₀.heap.objs.size f cd))::starEach es (envOfC qual scope s₀.heap.objs.size f cd):=by rfl)(hpl:(backTo cpos (starEach es (envOfC qual scope s₀.heap.objs.size f cd))).any (·.1)=false:=by rfl) :
  QS (gd (mX P w) P w K mg base N qual scope f cd A outer s₀ H₀ E) (.Raise (some (.Call (.Name x np) (e::es) [] cpos)) none pos) (t8 E C t):=⟨BK z hg hm ha.h hdb he hpl⟩
end
section
variable {X:Cx}
theorem Jb{e:Expr}{cls n:Str}{b0:Stmt}{suite:List Stmt}{np hp:Pos}{C0:Addr}{tb:St->Hp->XK->Prop}{ts:TS}(hx0:X.ex=[])(hs:X.stack=X.env::X.outer)(hfr:X.env.frame=some X.env.locals)
  (hb:PX X e tb)(hN:X.N.Nodup)(hi:X.N[i]? = some n)(hloc:X.env.scope.names.lookup n=some .local)(hg:Gl X cls)(hm:X.mg cls=some (.ref C0))(hsu:∀v,xq (X.marked v) (b0::suite) ts)
  (hdb:(cls==("__debug__":Str))=false:=by decide) (hsw:swapsWith e none p1.line X.env=pure false:=by rfl) :
  QS X (.Try [.Expr e p1] [.ExceptHandler (some (.Name cls np)) (some n) (b0::suite) hp] [] [] pos) (Hj X.K C0 i tb ts):=⟨IU hx0 hs hfr hb hN hi hloc hg hm (λv=>(hsu v).h) hdb hsw⟩
theorem Ge{params:Arguments}{body:Expr}{C:Addr}{kl:Nat}{lpos:Pos}{Nl:List Str}{ixs:List Nat}{tl:St->Hp->XK->Prop}
  (R:zd X.prog X.w X.K X.mg X.base (kl+1))(M:yU X c P)(hr:dE (kl+2) X.A)(hg:Gl X "_law_refused") (Z:Ac X.K X.mg C i)(hi:i<9)(hfn:∀x,X.fn x=true)(hdef:defaultsOf params X.env=([],[]))
  (hfree:∀q∈scope.names,q.2=.free->X.env.kindOf q.1=some .cell)(hk:scope.kind=.function)(hnc:∀q∈scope.names,q.2 ≠ .cell)(hsc:scope.isCoroutine=false/\scope.isGenerator=false)
  (hbind:∀clos pm c' ctv,bindArgs (PySem.W.kla_fn "<lambda>" (mH X) params body scope clos pm (.ref c') ctv) ⟨[],[]⟩=pure []) (hlen:ixs.length=Nl.length)(hNl:∀(j:Nat)(x:Str),Nl[j]? = some x->scope.names.lookup x=some .free /\ ∃l,ixs[j]? = some l/\X.N[l]? = some x)
  (hb:∀(p c':Addr)(clos:List (Str×Addr))(H1:Hp)(A':Around)(outer':List Env)(s':Shared),dE kl (A'.deeper (PySem.W.envX (mH X) scope s'.heap.objs.size p (.ref c') clos))->QX (rS X.prog X.w X.K X.mg X.base Nl (mH X) scope p (.ref c') clos A' outer' s' H1) body tl)
  (he:starEach [Expr.Lambda params body scope lpos] X.env=[(false,eval (.Lambda params body scope lpos) X.env)]:=by rfl) :
  QE X (.Call (.Name "_law_refused" p1) [.Lambda params body scope lpos] [] pos) (ym X.K P (mH X) ixs C i tl) :=
 ⟨Fx R M hr hg Z hi hfn hdef hfree hk hnc hsc hbind hlen hNl (λp c' clos H1 A' outer' s' hr'=>(hb p c' clos H1 A' outer' s' hr').h) he⟩
end
def xj(mg:Str->Option Value)(base:Heap):Prop:=∃bm o,mg "__builtins__"=some (.ref bm)/\bm≠builtinsNs/\bm≠mainGlobals/\base.get? bm=some o/\o.cls=.type "module" /\ o.dict=some builtinsNs/\o.data=.plain
def K0(ts:List (Addr×Addr))(H:Hp):Prop:=∀b,H b=none\/(∃o xs,H b=some (.frz o (.lst xs)))\/(H b=some (.tbl #[]) /\ ∃q∈ts,q.2=b)
theorem Aa{P:Program}{mb:Str->Option Value}{CX:wT}{fa:Addr}{fd:FuncData}{sp:Sp}{s₁:Shared}{vs:List Value}{ts:List (Addr×Addr)}
  (KX:K.In s₁.heap)(hns:s₁.heap.Ns mainGlobals mg)(hb:s₁.heap.Ns builtinsNs mb)(hbb:∀x:Str,x ≠ "__name__"->mb x=bootBuiltins x) (hlim:s₁.heap.NoLimit)(hg:s₁.gens = #[])
  (ha:s₁.heap.get? a=some { cls:=.type "list",data:=.seq vs.toArray }) (hi:IntsAre vs ns)(hl:ns.length<=sizeLine)(hr:dE k callerA)(hT:∀q∈ts,PySem.W.codeHdIn K q.1 q.2=true/\K.lookup q.2=none/\s₁.heap.get? q.2=some (PySem.W.tabObj #[]))
  (hB:xj mg s₁.heap)(hSr:s₁.heap.NoSeer)(F:∀base:Heap,K.In base->base.Ns mainGlobals mg->xj mg base->base.NoSeer->aZ P w K mg base CX k fa fd [x] sp)(hbind:∀(s:Shared)(u:Value),BindsTo s fd ⟨[u],[]⟩ [(x,u)])
  (hsp:∀H:Hp,(∀q∈ts,vw K H q.2=some (.tbl #[]))->(H a≠none->K.lookup a=none)->jx K H a (ns.map V.int)->sp [.ref a] H (λv _=>v=.bl true) λ_ _ _=>False)
  (hCX:∀H e s',CX [] H s₁ (λ_ _ _=>False) e s'->False) :
  codeAny (model P w) callerA (.call (.ref fa) ⟨[.ref a],[]⟩) (λr s'=>r=.ok (.ret (.bool true))/\OldK s₁.heap s'.heap/\s'.os=s₁.os/\AllBare s'.gens) s₁:=by
 have rv:=rV hi;have lenV:=hi.length;have na:∀q∈ts,q.2≠a:=λq hq z=>by
  have:=(hT q hq).2.2;rw[z,ha] at this;cases this
 have core:∀H:Hp,K0 ts H->(∀q∈ts,H q.2=some (.tbl #[]))->jx K H a (ns.map V.int)->lW P w H s₁.heap->(∀b,H b≠none->b=a \/ ∃q∈ts,q.2=b)->(H a≠none->K.lookup a=none) ->
   codeAny (model P w) callerA (.call (.ref fa) ⟨[.ref a],[]⟩) (λr s'=>r=.ok (.ret (.bool true))/\OldK s₁.heap s'.heap/\s'.os=s₁.os/\AllBare s'.gens) s₁:=by
  intro H hO hTT hS hok hA hK;have base_of:∀{b:Addr}{o:Obj},s₁.heap.get? b=some o->H b=none->(qG s₁.heap H).get? b=some o:=λe n=>BE e n;have noA:∀{b:Addr}{o:Obj}{es:Array DictEntry}{ep:Nat},s₁.heap.get? b=some o->o.data=.dict es ep->H b=none:=λ{b o es ep} e d=>by
   cases q:H b with
   | none=>rfl
   | some u =>
    rcases hA b (by rw[q];simp) with e'|⟨y,hy,e'⟩
    .subst e';rw[ha] at e;cases e;have d':Data.seq vs.toArray _=Data.dict es ep:=d;cases d'
    .subst e';rw[(hT y hy).2.2] at e;cases e;have d':Data.fields (#[]:Array Value)=Data.dict es ep:=d;cases d'
  have nsK:∀{b:Addr}{m:Str->Option Value},s₁.heap.Ns b m->(qG s₁.heap H).Ns b m:=λ{b m} ⟨o,es,ep,e,d,r⟩=>⟨o,es,ep,base_of e (noA e d),d,r⟩;have hKb:K.In (qG s₁.heap H):=λb o e=>base_of (KX b o e) (by
   cases q:H b with
   | none=>rfl
   | some u =>
    rcases hA b (by rw[q];simp) with e'|⟨y,hy,e'⟩
    .subst e';rw[hK (by rw[q];simp)] at e;cases e
    .subst e';rw[(hT y hy).2.1] at e;cases e)
  have hM:Mod K mg (qG s₁.heap H):=⟨hKb,nsK hns,⟨mb,nsK hb,hbb⟩,let ⟨mc,h1,h2⟩:=hlim;⟨mc,nsK h1,h2⟩⟩;have e0:rE P w K mg (qG s₁.heap H) callerA [] s₁ H:=⟨rfl,hM,λb o e=>Gi e,Nat.le_of_eq (Au _ _),trivial,λb hb=>absurd (show b∈([]:List Addr) from hb) (by simp),hok,.of_eq hg⟩
  have hBb:xj mg (qG s₁.heap H):=by
   obtain⟨bm,ob,b1,b2,b3,b4,b5,b6,b7⟩:=hB;refine⟨bm,ob,b1,b2,b3,base_of b4 ?_,b5,b6,b7⟩;cases q:H bm with
   | none=>rfl
   | some u =>
    rcases hA bm (by rw[q];simp) with e'|⟨y,hy,e'⟩
    .rw[e',ha] at b4;cases b4;simp at b5
    .rw[<-e',(hT y hy).2.2] at b4;cases b4;cases b5
  have hSb:(qG s₁.heap H).NoSeer:=by
   refine⟨let ⟨mc,a,b⟩:=hSr.statics;⟨mc,nsK a,b⟩,let ⟨mm,a,b⟩:=hSr.mods;⟨mm,nsK a,b⟩,let ⟨mb,a,b⟩:=hSr.imp;⟨mb,nsK a,b⟩,?_⟩;obtain⟨mg',bm,ob,b1,b2,b4,b5,b6⟩:=hSr.main;refine⟨mg',bm,ob,nsK b1,b2,base_of b4 ?_,b5,b6⟩;cases q:H bm with
   | none=>rfl
   | some u =>
    rcases hA bm (by rw[q];simp) with e'|⟨y,hy,e'⟩
    .rw[e',ha] at b4;cases b4;simp at b5
    .rw[<-e',(hT y hy).2.2] at b4;cases b4;cases b5
  refine codeAny_mono ((F _ hKb (nsK hns) hBb hSb).run callerA [] s₁ H ⟨[.ref a],[]⟩ [.ref a] [.ref a] _ _ hr e0 (hbind s₁ (.ref a)) (.cons rfl .nil) (hsp H (λq hq=>(dU (hT q hq).2.1).trans (hTT q hq)) hK hS)) λr s' h=>?_;cases r with
  | error e=>exact (hCX H e s' h).elim
  | ok fl =>
   cases fl with
   | next=>exact False.elim h
   | brk=>exact False.elim h
   | cont=>exact False.elim h
   | ret u =>
    obtain⟨v,H',os,bare,un,hok',r',q⟩:=h;have q':v=.bl true:=q;subst q';obtain rfl:u=Value.bool true:=r';have key:∀b o,s₁.heap.get? b=some o->s'.heap.get? b=some o\/((∃y∈ts,y.2=b)/\o=PySem.W.tabObj #[] /\ ∃more,s'.heap.get? b=some (PySem.W.tabObj more)):=λb o e=>by
     cases q:H b with
     | none=>exact .inl (un.keep b o e q (by intro z;exact absurd (show b∈([]:List Addr) from z) (by simp)) (by simp))
     | some u =>
      rcases hO b with z|⟨ob,xs,z⟩|⟨z,y,hy,e'⟩
      .rw[q] at z;cases z
      .have z2:=un.frzs b ob _ z;obtain⟨e1,_⟩:=hok b _ z;obtain⟨e2,_⟩:=hok' b _ z2;rw[e] at e1;cases e1;exact .inl e2
      .obtain⟨more,z2⟩:=un.tbls b #[] z;have e1:s₁.heap.get? b=some (PySem.W.tabObj #[]):=hok b _ z;have e2:s'.heap.get? b=some (PySem.W.tabObj (#[]++more)):=hok' b _ z2;rw[e] at e1;cases e1;exact .inr ⟨⟨y,hy,e'⟩,rfl,_,e2⟩
    refine⟨rfl,⟨λb o e=>?_,λb o e=>?_⟩,os,bare⟩
    .rcases key b o e with z|⟨⟨y,hy,e'⟩,z1,more,z2⟩
     .exact .inl z
     .subst z1 e';have cd:=PySem.W.codeHd_of_K KX (hT y hy).1;exact .inr (.inl ⟨(cd.tab (hT y hy).2.2).isCodeTable,rfl,#[],more,rfl,by rw[z2];simp⟩)
    .rcases key b o e with z|⟨_,_,more,z2⟩
     .exact⟨o,z⟩
     .exact⟨_,z2⟩
 have dec:∀b,Decidable (∃q∈ts,q.2=b):=λb=>Classical.propDecidable _;have tabH:∀q∈ts,dO P w (λ_=>none) s₁.heap q.2 (.tbl #[]):=λq hq=>(hT q hq).2.2;cases hk:K.lookup a with
 | some o =>
  have e:=KX a o hk;rw[ha] at e;cases e;refine core (λb=>@ite _ (∃q∈ts,q.2=b) (dec b) (some (.tbl #[])) none) (λb=>?_) (λq hq=>Yb ⟨q,hq,rfl⟩) (.inr ⟨_,vs.toArray,_,hk,rfl,rfl,rfl,by rw[Yu,lenV];exact hl,by simpa using rv⟩) (λb u z=>?_) (λb z=>?_) λz=>?_
  .by_cases hb:∃q∈ts,q.2=b
   .exact .inr (.inr ⟨Yb hb,hb⟩)
   .exact .inl (Yc hb)
  .by_cases hb:∃q∈ts,q.2=b
   .have z':=(Yb hb).symm.trans z;cases z';obtain⟨q,hq,rfl⟩:=hb;exact (hT q hq).2.2
   .have z':=(Yc hb).symm.trans z;cases z'
  .by_cases hb:∃q∈ts,q.2=b
   .exact .inr hb
   .exact absurd (Yc hb) z
  .have:¬ ∃q∈ts,q.2=a:=λ⟨q,hq,e⟩=>na q hq e;exact absurd (Yc this) z
 | none =>
  have ia:¬ ∃q∈ts,q.2=a:=λ⟨q,hq,e⟩=>na q hq e;refine core (λb=>if b=a then some (.frz { cls:=.type "list",data:=.seq vs.toArray } (.lst (ns.map V.int))) else @ite _ (∃q∈ts,q.2=b) (dec b) (some (.tbl #[])) none) (λb=>?_) (λq hq=>?_) (.inl (.inr ⟨{ cls:=.type "list",data:=.seq vs.toArray },Yb rfl⟩)) (λb u z=>?_) (λb z=>?_) λ_=>hk
  .by_cases hb:b=a
   .exact .inr (.inl ⟨_,_,Yb hb⟩)
   .by_cases hb2:∃q∈ts,q.2=b
    .exact .inr (.inr ⟨(Yc hb).trans (Yb hb2),hb2⟩)
    .exact .inl ((Yc hb).trans (Yc hb2))
  .exact (Yc (na q hq)).trans (Yb ⟨q,hq,rfl⟩)
  .by_cases hb:b=a
   .have z':=(Yb hb).symm.trans z;cases z';subst hb;exact⟨ha,by rw[YF];exact hl,vs,_,rv,ha⟩
   .by_cases hb2:∃q∈ts,q.2=b
    .have z':=((Yc hb).trans (Yb hb2)).symm.trans z;cases z';obtain⟨q,hq,rfl⟩:=hb2;exact (hT q hq).2.2
    .have z':=((Yc hb).trans (Yc hb2)).symm.trans z;cases z'
  .by_cases hb:b=a
   .exact .inl hb
   .by_cases hb2:∃q∈ts,q.2=b
    .exact .inr hb2
    .exact absurd ((Yc hb).trans (Yc hb2)) z
theorem walk_ofM{l:PySem.W.OpenLaw}{q:Program}{loose:List Str}{XP:(Str->Option Value)->Heap->Prop}{YP:World->Heap->Prop}{d:DefRec}{K:Params->Sf}{CX:World->wT}{sp:World->Sp}(ts:World->List (Addr×Addr))
  (hn:l.most=some n)(hn2:n<=sizeLine)(hdf:d.params.defaults=[])(hr:dE k callerA)(hi:importsNone q=true)
  (hY:∀(w:World)(h:Heap),YP w h->(K w.params).In h /\ ∀q∈ts w,PySem.W.codeHdIn (K w.params) q.1 q.2=true/\(K w.params).lookup q.2=none/\h.get? q.2=some (PySem.W.tabObj #[]))
  (F:∀(w:World)(mg:Str->Option Value)(fa:Addr)(h:Heap),(K w.params).In h->h.Ns mainGlobals mg->mg d.name=some (.ref fa) ->
   ∃fd:FuncData,(∀(s:Shared)(u:Value),BindsTo s fd ⟨[u],[]⟩ [(x,u)]) /\
    ∀base:Heap,(K w.params).In base->base.Ns mainGlobals mg->xj mg base->base.NoSeer->aZ l.prog w (K w.params) mg base (CX w) k fa fd [x] (sp w))
  (hsp:∀(w:World)(H:Hp)(a:Addr)(ns:List Int),ns.length<=n->(∀q∈ts w,vw (K w.params) H q.2=some (.tbl #[]))->(H a≠none->(K w.params).lookup a=none)->jx (K w.params) H a (ns.map V.int)->sp w [.ref a] H (λv _=>v=.bl true) λ_ _ _=>False)
  (hCX:∀(w:World)(H:Hp)(s:Shared)(e:Value)(s':Shared),CX w [] H s (λ_ _ _=>False) e s'->False) :
  PySem.W.WalkO q loose XP YP l.row.toRowW d [] (λf vs=>PySem.call f vs):=by
 refine Att.attach_call hn hdf λw s₀ s₁ mg mb fa o pm cd doc a vs ns G Y ho hd hcd hmg hobj hints hlen hg=>?_;obtain⟨KX,hT⟩:=hY w _ Y;obtain⟨fd,hb,hF⟩:=F w mg fa _ KX G.T.g hmg;have hB:xj mg s₁.heap:=by
  obtain⟨bm,ob,b1,b2,b3,b4,b5,b6⟩:=G.T.bmain;refine⟨bm,ob,b1,b2,λz=>?_,b3,b4,b5,b6⟩;obtain⟨o,es,ep,e,hd',_⟩:=G.T.g;rw[z,e] at b3;cases b3;rw[hd'] at b6;cases b6
 exact Aa KX G.T.g G.T.b G.T.builtins G.T.nolimit hg hobj hints (Yg hlen hn2) hr hT hB (G.T.seer hi) hF hb (λH hTT hK hS=>hsp w H a ns hlen hTT hK hS) λH e s'=>hCX w H s₁ e s'
section
variable {P:Program}{w:World}{K:Sf}{mg:Str->Option Value}{base:Heap}
theorem de.okM{fd:FuncData}{sp:Sp}(F:de K x qual st f fd)(S:ay N ps (ak st))(len:∀vs H Q E,sp vs H Q E->vs.length=ps.length)
  (hbody:∀(cdv:Value)(A:Around)(outer:List Env)(s:Shared)(H:Hp)(vs:List V)(Q:VK)(E:XK),fd.code=cdv->dE k (A.deeper (envOfC qual (ak st) s.heap.objs.size f cdv))->sp vs H Q E ->
   ∃t,xq (gd dy P w K mg base N qual (ak st) f cdv A outer s H E).nox (dj st) t/\t { nx:=λ_ H'=>Q .non H',rt:=Q } (start N vs) H):aZ P w K mg base dy (k+1) f fd ps sp:=by
 obtain⟨oc,od,kV,doc,pm,an,cdv,ct,osl,rfl,lk,hcd⟩:=F.ex;refine BF lk hcd S len λA outer s H vs Q E hr hsp=>?_;obtain⟨t,h,q⟩:=hbody cdv A outer s H vs Q E rfl hr hsp;exact⟨t,h.h.nox,q⟩
theorem de.runQ{fd:FuncData}{us:List Value}{vs:List V}(F:de K x qual st f fd)(S:ay N ps (ak st))(hr:dE (k+1) A)(e0:rE P w K mg base A outer s H)
  (hb:kW K fd ps [])(r:bJ vs us)(hl:vs.length=ps.length)
  (hbody:∀cdv,dE k (A.deeper (envOfC qual (ak st) s.heap.objs.size f cdv)) -> ∃t,xq (gd dy P w K mg base N qual (ak st) f cdv A outer s H E).nox (dj st) t/\t { nx:=λ_ H'=>Q .non H',rt:=Q } (start N vs) H) :
  codeAny (model P w) A (.call (.ref f) ⟨us,[]⟩) (CR dy outer P w H s Q E) s:=by
 obtain⟨oc,od,kV,doc,pm,an,cdv,ct,osl,rfl,lk,hcd⟩:=F.ex;have KX:K.In s.heap:=e0.mod.kin.keeps λb o e=>(e0.bs b o e).1;have hb':=hb s us KX (by rw[Yw,<-r.length];exact hl)
 rw[Yw] at hb';refine JN lk hcd S hr e0 hb' r hl λhr'=>?_;obtain⟨t,h,q⟩:=hbody cdv hr';exact⟨t,h.h.nox,q⟩
end
theorem EQ{sc:Scope}(h:X.env.scope=sc)(z:scope.names.all (λq=>q.2 != .free || sc.names.lookup q.1==some .cell)=true):∀q∈scope.names,q.2=.free->X.env.kindOf q.1=some .cell:=λq hq hf=>by
 have h2:=List.all_eq_true.mp z q hq;rw[Bool.or_eq_true] at h2;rcases h2 with h2|h2
 .rw[hf] at h2;cases h2
 .show X.env.scope.names.lookup q.1=_;rw[h];exact beq_iff_eq.mp h2
theorem AN(z:scope.names.all (λq=>q.2 != .cell)=true):∀q∈scope.names,q.2 ≠ .cell:=λq hq e=>by
 have h2:=List.all_eq_true.mp z q hq;rw[e] at h2;cases h2
theorem rn:bootBuiltins "ValueError"=some (.type "ValueError"):=by decide +kernel
def Lc(K:Sf)(ta:TE):TT:=λσ H Q=>ta σ H λx H'=>∃k,vG K x H' k/\Q k H'
abbrev Bk (n:Str):Str:=n ++ ".<locals>." ++ "<lambda>"
theorem pU(i:Int):(D.lst [.int i]).cmp:=by
 unfold D.cmp D.py D.pys D.pys D.py;exact⟨rfl,Nat.le_of_ble_eq_true rfl⟩
theorem eJ.of(S:aB G G'):eJ P G G':=λb o _ e=>S b o e
theorem dF.butL{l:Addr}{xs:List V}(h:dF G P qual)(hl:G l=some (.lst xs))(B:eJ l G G'):dF G' P qual:=by
 obtain⟨ps,h1,h2,h3⟩:=h;refine⟨ps,B _ _ (λz=>by rw[z,hl] at h1;cases h1) h1,h2,λpos cv z=>?_⟩
 obtain⟨c,e1,e2⟩:=h3 pos cv z;exact⟨c,e1,B _ _ (λz=>by rw[z,hl] at e2;cases e2) e2⟩
theorem dF.smT(h:dF G P qual)(B:eJ P G G')(T:dF G' P qual):wb G G':=by
 obtain⟨ps,h1,_⟩:=h;exact wb.but h1 B
section
variable {P:Program}{w:World}{K:Sf}{mg:Str->Option Value}{base:Heap}
def G8(E:XK)(t:St->Hp->XK->Prop):TS:=λ_ σ H=>t σ H E
end
theorem eJ.none{G G':Hp}{st a:Addr}(B:eJ st G G')(hst:dz G' st)(h:G' a=Option.none):G a=Option.none:=by
 cases e:G a with
 | none=>rfl
 | some o =>
  rw[B a o (hst.ne h) e] at h;cases h
def ap(f g:Nat->Rat):Nat->Rat
 | 0=>0
 | n+1=>ap f g n+f n*g n
theorem BB{f g:Nat->Int}{F G:Nat->Rat}{c d:Rat}(hf:∀i,(f i:Rat)=F i*c)(hg:∀i,(g i:Rat)=G i*d):∀n,‹ml (lz n λi=>f i*g i)›=ap F G n*(c*d)
 | 0=>by
  show ‹0›=0*(c*d);have:‹0›=0:=rfl;rw[this];grind
 | n+1=>by
  have e:lz (n+1) (λi=>f i*g i)=lz n (λi=>f i*g i)++[f n*g n]:=by simp[lz,List.range_succ]
  rw[e,pZ];have e2:ml [f n*g n]=f n*g n:=by simp[ml]
  rw[e2,Xh,Xi,BB hf hg n,hf n,hg n];show _=(ap F G n+F n*G n)*(c*d);grind
theorem aE{f g f' g':Nat->Rat}:∀n,(∀i,i<n->f i=f' i)->(∀i,i<n->g i=g' i)->ap f g n=ap f' g' n
 | 0,_,_=>rfl
 | n+1,h1,h2=>by
  show ap f g n+f n*g n=ap f' g' n+f' n*g' n;rw[aE n (λi hi=>h1 i ()) (λi hi=>h2 i ()),h1 n (),h2 n ()]
theorem Cs{qs:Lt}(h:k<n):cf (qs.take n) k=cf qs k:=by
 unfold cf;rw[Xo,Yb h]
def Sx(b:Nat)(q:Int×Int):Prop:=∃n:Int,wv q=(n:Rat)/6/\n.natAbs<=b
theorem Sx.mono{a b:Nat}{q:Int×Int}(h:Sx a q)(hl:a<=b):Sx b q:=by
 obtain⟨n,h1,h2⟩:=h;exact⟨n,h1,()⟩
theorem Sx.add{a b:Nat}{p q:Int×Int}(hp:p.2≠0)(hq:q.2≠0)(h1:Sx a p)(h2:Sx b q):Sx (a+b) (mh p q):=by
 obtain⟨m,e1,l1⟩:=h1;obtain⟨n,e2,l2⟩:=h2;refine⟨m+n,?_,Yg (Int.natAbs_add_le m n) (Nat.add_le_add l1 l2)⟩;rw[lP hp hq,e1,e2,Xh];grind
theorem Sx.lo{a z:Int}{b:Nat}(h0:0<=z)(h3:z<3)(ha:6*a.natAbs<=b):Sx b (lo a (1+z)):=by
 have hz:1+z≠0:=();have c1:‹1›=1:=rfl;have c2:‹2›=2:=rfl;have c3:‹3›=3:=rfl;have c6:‹6›=6:=rfl;rcases (show z=0\/z=1\/z=2 by nofun) with rfl|rfl|rfl
 .refine⟨6*a,?_,()⟩;rw[io hz,show (1:Int)+0=1 from rfl,Xi,c1,c6]
  grind
 .refine⟨3*a,?_,()⟩;rw[io hz,show (1:Int)+1=2 from rfl,Xi,c2,c3]
  grind
 .refine⟨2*a,?_,()⟩;rw[io hz,show (1:Int)+2=3 from rfl,Xi,c2,c3]
  grind
def kx:Nat->Int
 | 0=>6
 | k+1=>kx k*6
theorem mx:∀k,0<kx k
 | 0=>by decide
 | k+1=>by show 0<kx k*6;have:=mx k;nofun
theorem sW:∀k,Bt (3*(k+1)) (kx k)
 | 0=>by decide
 | k+1=>by
  have h:=(sW k).mul (show Bt 3 6 by decide)
  exact h.mono ()
def AO:Nat->Nat
 | 0=>1
 | k+1=>AO k*512
theorem CM:∀k,AO k=2^(9*k)
 | 0=>rfl
 | k+1=>by
  show AO k*512=_;rw[CM k,show 9*(k+1)=9*k+9 by nofun,Y0]
theorem zX{s w:Int×Int}{b:Nat}(hs:Sx 300 s)(hw:Sx b w):∀k,∃n:Int,wv w*aQ (wv s) k=(n:Rat)/(kx k:Rat)/\n.natAbs<=b*AO k
 | 0=>by
  obtain⟨n,e,l⟩:=hw;refine⟨n,?_,by simpa [AO] using l⟩
  show wv w*1=(n:Rat)/‹6›;have c6:‹6›=6:=rfl;rw[e,c6];grind
 | k+1=>by
  obtain⟨n,e,l⟩:=zX hs hw k;obtain⟨m,e2,l2⟩:=hs;refine⟨n*m,?_,?_⟩
  .rw[gM];have h6:(kx k:Rat)≠0:=ao (by have:=mx k;nofun)
   have c6:‹6›=6:=rfl;show _=_/‹kx k*6›;rw[e2] at e;rw[Xi,Xi,c6,e2];have:wv w*(aQ ((m:Rat)/6) k*((m:Rat)/6))=(wv w*aQ ((m:Rat)/6) k)*((m:Rat)/6):=⋯;rw[this,e];grind
  .rw[YZ];show _<=b*(AO k*512);rw[<-Nat.mul_assoc];exact Xt l ()
theorem pi{k:Nat}:∀{cs:List mO},(∀c∈cs,Sx 300 c.1/\Sx 36 c.2) -> ∃n:Int,kH cs k=(n:Rat)/(kx k:Rat)/\n.natAbs<=cs.length*(36*AO k)
 | [],_=>⟨0,by
   show (0:Rat)=‹0›/_;have c0:‹0›=0:=rfl;rw[c0];grind,by simp⟩
 | c::cs,h=>by
  obtain⟨n,e1,l1⟩:=pi (k:=k) (cs:=cs) λd hd=>h d (by simp[hd])
  obtain⟨h1,h2⟩:=h c (by simp)
  obtain⟨m,e2,l2⟩:=zX h1 h2 k;refine⟨m+n,?_,?_⟩
  .show wv c.2*aQ (wv c.1) k+kH cs k=_;rw[e1,e2,Xh];have h6:(kx k:Rat)≠0:=ao (by have:=mx k;nofun)
   grind
  .rw[Y8,Xu,Nat.one_mul,Nat.add_comm];exact Yg (Int.natAbs_add_le m n) (Nat.add_le_add l2 l1)
theorem BO{cs:List mO}{q:Int×Int}(h:∀c∈cs,Sx 300 c.1/\Sx 36 c.2)(hl:cs.length<=6)(hk:k<=12)(hq:Fq q)(e:wv q=kH cs k):Bq 120 q:=by
 obtain⟨n,e1,l1⟩:=pi (k:=k) h;have h6:kx k≠0:=by have:=mx k;nofun
 have:q=lo n (kx k):=lA hq (ix h6) (by rw[io h6,e,e1])
 rw[this];refine ox h6 (Bt.mono (m:=9*k+8) ?_ ()) ((sW k).mono ());unfold Bt;have l3:cs.length*(36*AO k)<=6*(36*AO k):=Nat.mul_le_mul_right _ hl;have l4:=CM k;rw[Y0,<-l4,show (2:Nat)^8=256 from rfl]
 have:0<AO k:=by rw[l4];exact Nat.two_pow_pos _
 nofun
theorem aK.gen{t u:TS}{D:oZ}(h:∀N:St->Hp->Prop,(∀σ' H',u D σ' H'->N σ' H')->t { D with nx:=N } σ H):aK t u D σ H:=h (u D) λ_ _ z=>z
theorem mF(a b:Int):Builtin.Range.rangeSize a b (-1)=if b<a then a-b else 0:=by
 unfold Builtin.Range.rangeSize;simp only[show ¬ ((-1:Int) > 0) by decide,if_false,Int.neg_neg,Int.ediv_one]
 split<;>(try split)<;>nofun
theorem Dp{a b:Int}(ha : -(2^61)<=a)(ha':a<2^61)(hb : -(2^61)<=b)(hb':b<2^61):Builtin.Range.small a b (-1)=true:=by
 unfold Builtin.Range.small;rw[mF];simp only[Builtin.Range.rangeFitsLong,YI,Bool.or_eq_true,decide_eq_true_eq,beq_iff_eq,show ¬ ((-1:Int) > 0) by decide,if_false]
 split<;>nofun
def Mk(lo:Int)(n:Nat):It:=⟨λi _=>i<n,λi H x H'=>H'=H/\x=.int (lo-i),λi _=>n<=i⟩
theorem Gn{P:Program}{tg:Expr}(it:Addr)(lo:Int)(n:Nat):xY P w K tg (Mk lo n) [it] it (λj hp=>IsRangeIter hp it (lo+(j:Nat)*(-1)) ((n:Int)-(j:Nat)) (-1)) where
 mem:=List.mem_singleton.mpr rfl
 obj:=λj hp st b hb=>by
  cases List.mem_singleton.mp hb;refine⟨_,st,λv z=>?_⟩;exact Data.noConfusion (show Data.fields _=Data.cell v from z)
 keep:=λ_ _ _ st k=>k it (List.mem_singleton.mpr rfl) _ st
 item:=by
  intro Y hP hw hK hc j pins s σ H E J hf st hg;subst hP hw hK;obtain⟨g0,g1,g2,g3,g4,g5⟩:=hf it (List.mem_singleton.mpr rfl);refine (Walks.range (prog:=Y.prog) (w:=Y.w) (J.ok.hd hc) it lo (-1) n).item j s _ _ hg st λv hp tk hv st1 kk=>?_;obtain⟨t,rfl⟩:=hv;have J1:aR Y pins σ H { s with heap:=hp,toks:=tk }:=J.turned (λb o hb e=>kk b o (λz=>hb (List.mem_singleton.mp z)) e) g0 g1 g3 g4 g5
  refine⟨_,rfl,zY (s:={ s with heap:=hp,toks:=tk }) (n:="range_iterator") st1 rfl rfl ∅ ⟨.int (lo-j),H,J1,⟨t,?_⟩,⟨rfl,rfl⟩,st1,λb hb=>(hf b hb).1⟩⟩
  rw[show lo+(j:Nat)*(-1)=lo-(j:Int) by nofun]
 done:=by
  intro Y hP hw hK hc j pins s σ H E J hf st hg;subst hP hw hK;obtain⟨g0,g1,g2,g3,g4,g5⟩:=hf it (List.mem_singleton.mpr rfl);have hj:n<=j:=hg;exact wpAny_pyNext_range_end (J.ok.hd hc) st () λhp eb=>⟨rfl,J.turned (t':=s.toks) (λb o hb e=>eb b o hb e) g0 g1 g3 g4 g5⟩
 self:=λ_ _ _ _ _ st h=>wpAny_pyIter_rangeiter st h
section
variable {X:Cx}{tg:Expr}
def DK(ta:TA):TI:=λσ H R=>ta σ H λvs H1=>∃i j:Int,vs=[.int i,.int j,.int (-1)]/\(-(2^61)<=i/\i<2^61 /\ -(2^61)<=j/\j<2^61)/\R (Mk i (i-j).toNat) H1
theorem AZ{a b c:Expr}{p:Pos}(hg:Gl X "range")(hm:X.mg "range"=none)(ha:PA X [a,b,c] ta)(hs:starEach [a,b,c] X.env=[(false,eval a X.env),(false,eval b X.env),(false,eval c X.env)]:=by rfl)
  (hs2:starEach [b,c] X.env=[(false,eval b X.env),(false,eval c X.env)]:=by rfl):PI X tg (.Call (.Name "range" p) [a,b,c] [] pos) (DK ta):=by
 intro pins s σ H R I h;refine Call_ (jn I hg hm boot_range (Ys (dc (ha pos pins s σ H _ I h) λus s1 ⟨vs,H1,I1,r1,q1⟩=>?_) (by rw[hs,hs2]) (by rw[hs2];rfl)))
 obtain⟨i,j,e,⟨q1,q2,q3,q4⟩,q⟩:=q1;subst e;cases r1 with
 | cons ri rr =>
  cases rr with
  | cons rj rr =>
   cases rr with
   | cons rk rr =>
    cases rr;obtain⟨t1,rfl⟩:=ri;obtain⟨t2,rfl⟩:=rj;obtain⟨t3,rfl⟩:=rk;refine call_range_3 ∅ ?_ (.inl (PyProof.noPylong_of_log2 ∅))
    refine wpAny_pyIter_range (IsRange.new ..) (Dp q1 q2 q3 q4) ?_;have J:aR X pins σ H1 { s1 with heap:=s1.heap.push { cls:=.type "range",data:=.fields #[.int i t1,.int j t2,.int (-1) t3] },toks:=s1.toks }:=I1.kept λb o e=>Heap.get?_push_of_some _ e
    obtain⟨a1,ha1⟩:∃a1,a1=(s1.heap.push { cls:=.type "range",data:=.fields #[.int i t1,.int j t2,.int (-1) t3] }).objs.size:=⟨_,rfl⟩;refine⟨_,[_],_,_,H1,rfl,J.kept (t':=s1.toks) λb o e=>Heap.get?_push_of_some _ e,Gn _ i (i-j).toNat,?_,λb hb=>?_,q⟩
    .have e1:i+((0:Nat):Int)*(-1)=i:=by simp
     have e2:(((i-j).toNat:Nat):Int)-((0:Nat):Int)=Builtin.Range.rangeSize i j (-1):=by rw[mF];split<;>nofun
     show IsRangeIter _ _ (i+((0:Nat):Int)*(-1)) ((((i-j).toNat:Nat):Int)-((0:Nat):Int)) (-1);rw[e1,e2];exact Heap.get?_push_size _ rfl
    .cases List.mem_singleton.mp hb;exact J.fpOk (Yr _) (J.hok.fresh (Yr _))
theorem Ai{a b c:Expr}{p:Pos}(hg:Gl X "range")(hm:X.mg "range"=none)(ha:QA X [a,b,c] ta)(hs:starEach [a,b,c] X.env=[(false,eval a X.env),(false,eval b X.env),(false,eval c X.env)]:=by rfl)
  (hs2:starEach [b,c] X.env=[(false,eval b X.env),(false,eval c X.env)]:=by rfl):QI X tg (.Call (.Name "range" p) [a,b,c] [] pos) (DK ta):=⟨AZ hg hm ha.h hs hs2⟩
end
def Bf(lo:Int)(n:Nat):List V:=(List.range n).map λ(k:Nat)=>V.int (lo-k)
theorem F5{lo:Int}:(Bf lo n).length=n:=by simp[Bf]
theorem IM{lo:Int}{x:V}(h:(Bf lo n)[i]? = some x):i<n/\x=.int (lo-i):=by
 have hi:i<n:=by
  have:=(List.getElem?_eq_some_iff.mp h).1;simpa [Bf] using this
 refine⟨hi,?_⟩;simp[Bf,hi] at h;exact h.symm
theorem Ed{lo:Int}:qb (Mk lo n) H (Bf lo n):=by
 refine⟨λi hi=>by show i<n;simpa [Bf] using hi,λi x H' hi y=>⟨y.1,?_⟩,by show n<=(Bf lo n).length;simp[Bf]⟩
 have hi':i<n:=by simpa [Bf] using hi
 obtain⟨_,rfl⟩:=y;simp[Bf,hi']
theorem GY{f g:Nat->Rat}{d i:Nat}(hg:∀j,d<j->g j=0)(hf:∀j,i<j->f j=0):∀n,pr f g n (i+d)=if i<n then f i*g d else 0
 | 0=>by simp[pr]
 | n+1=>by
  have ih:=GY hg hf n;show pr f g n (i+d)+(if n<=i+d then f n*g (i+d-n) else 0)=_
  rw[ih];rcases Nat.lt_trichotomy i n with h|h|h
  .rw[hf n h,Yb h,Yb (show i<n+1 by nofun)]
   split<;>grind
  .subst h;rw[Yc (),Yb (),Yb (),show i+d-i=d by nofun]
   grind
  .rw[Yc (),Yb (),Yc (),hg _ ()];grind
theorem DB{f f' g:Nat->Rat}:∀n k,pr (λi=>f i-f' i) g n k=pr f g n k-pr f' g n k
 | 0,_=>by
  show (0:Rat)=0-0;grind
 | n+1,k=>by
  show pr _ g n k+(if n<=k then (f n-f' n)*g (k-n) else 0)=(pr f g n k+if n<=k then f n*g (k-n) else 0)-(pr f' g n k+if n<=k then f' n*g (k-n) else 0)
  rw[DB n k];split<;>grind
theorem tO{f g:Nat->Rat}{n:Nat}(hf:∀i,n<=i->f i=0):∀m k,pr f g (n+m) k=pr f g n k
 | 0,_=>rfl
 | m+1,k=>by
  show pr f g (n+m) k+(if n+m<=k then f (n+m)*g (k-(n+m)) else 0)=_
  rw[tO hf m k,hf (n+m) ()];split<;>grind
theorem Ea{e g r:Nat->Rat}{d:Nat}(he:∀i,n<=i->e i=0)(hg:∀j,d<j->g j=0)(hd:g d≠0)(hr:∀k,d<=k->r k=0)(h:∀k,pr e g n k=r k):∀i,e i=0:=by
 have step:∀m i,n<=i+m->e i=0:=by
  intro m;induction m with
  | zero=>intro i hi;exact he i hi
  | succ m ih =>
   intro i hi;by_cases hin:n<=i
   .exact he i hin
   have hab:∀j,i<j->e j=0:=λj hj=>ih j ();have e1:=GY hg hab n;rw[Yb (),h,hr _ ()] at e1;rcases Rat.mul_eq_zero.mp e1.symm with z|z
   .exact z
   .exact absurd z hd
 intro i;exact step n i ()
theorem xO{q q' g r r':Nat->Rat}{n' d:Nat}(hq:∀i,n<=i->q i=0)(hq':∀i,n'<=i->q' i=0)(hg:∀j,d<j->g j=0)(hd:g d≠0)(hr:∀k,d<=k->r k=0)(hr':∀k,d<=k->r' k=0)
  (h:∀k,pr q g n k+r k=pr q' g n' k+r' k):(∀i,q i=q' i) /\ ∀k,r k=r' k:=by
 have a:∀k,pr q g (n+n') k=pr q g n k:=λk=>tO hq n' k;have b:∀k,pr q' g (n+n') k=pr q' g n' k:=λk=>by rw[Nat.add_comm];exact tO hq' n k
 have z:=Ea (e:=λi=>q i-q' i) (g:=g) (r:=λk=>r' k-r k) (n:=n+n') (d:=d) (λi hi=>by
  show q i-q' i=0;rw[hq i (),hq' i ()];grind) hg hd (λk hk=>by
  show r' k-r k=0;rw[hr k hk,hr' k hk];grind) (λk=>by
  rw[DB,a,b];have:=h k;grind)
 have e:∀i,q i=q' i:=λi=>by
  have:q i-q' i=0:=z i;grind
 refine⟨e,λk=>?_⟩;have e2:pr q g n k=pr q' g n' k:=by
  rw[<-a,<-b,show q=q' from funext e]
 have:=h k;grind
theorem nE{rs:Lt}(h:bC rs){m:Nat}(hz:∀k,m<=k->cf rs k=0):rs.length<=m:=by
 refine Nat.le_of_not_lt λhm=>?_;have hl:rs.length-1<rs.length:=();have e:rs.getLast? = some rs[rs.length-1]:=by rw[Y1,YU hl]
 have z:=hz (rs.length-1) ();rw[aH (YU hl)] at z;exact h.2 _ e ((cS (h.1 _ (YT hl)).ne).mp z)
theorem qJ(s:Nat)(gs:Lt)(k:Nat):cf (List.replicate s (0,1)++gs) k=if k<s then 0 else cf gs (k-s):=by
 unfold cf;by_cases h:k<s
 .rw[Yb h,YB (by simpa using h),YA,Yb h]
  exact sx
 .rw[Yc h,Yz (by simp;nofun),YG]
theorem Fd(m n:Int):Co (.int m) (.int n)=decide (m=n):=by
 unfold Co D.py;simp only[PyData.eqv];rw[Bool.eq_iff_iff];simp
theorem zR(i:Int):(D.int i).cmp:=by
 unfold D.cmp D.py;exact⟨rfl,Nat.le_of_ble_eq_true rfl⟩
theorem zm{m:Nat}(h:∀n∈ns.drop m,n=0)(k:Nat):nz (ns.take m) k=nz ns k:=by
 unfold nz;rw[Xe,Xe,Xo];by_cases hk:k<m
 .rw[Yb hk]
 .rw[Yc hk];cases e:ns[k]? with
  | none=>rfl
  | some n =>
   have:n∈ns.drop m:=by
    have e2:(ns.drop m)[k-m]? = some n:=by rw[Xp,show m+(k-m)=k by nofun];exact e
    exact YD e2
   rw[h n this];rfl
theorem Dt{f g:Nat->Int}{i:Nat}{c:Int}(h0:f i=0):∀n k,pz (λj=>if j=i then c else f j) g n k=pz f g n k+if i<n/\i<=k then c*g (k-i) else 0
 | 0,k=>by
  show (0:Int)=0+_;rw[Yc ()];rfl
 | n+1,k=>by
  show pz _ g n k+(if n<=k then (if n=i then c else f n)*g (k-n) else 0)=(pz f g n k+if n<=k then f n*g (k-n) else 0)+_
  rw[Dt h0 n k];rcases Nat.lt_trichotomy n i with h|h|h
  .simp only[Yc (show ¬ (i<n/\i<=k) by nofun),Yc (show ¬ n=i by nofun),Yc (show ¬ (i<n+1/\i<=k) by nofun)]
   nofun
  .subst h;rw[h0];by_cases hk:n<=k
   .simp only[Yb hk,Yb (show n<n+1/\n<=k from ⟨(),hk⟩),Yc (show ¬ (n<n/\n<=k) by nofun),Int.zero_mul,if_true]
    try nofun
   .simp only[Yc hk,Yc (show ¬ (n<n+1/\n<=k) by nofun),Yc (show ¬ (n<n/\n<=k) by nofun)]
  .simp only[Yc (show ¬ n=i by nofun)]
   by_cases hk:i<=k
   .simp only[Yb (show i<n/\i<=k from ⟨h,hk⟩),Yb (show i<n+1/\i<=k from ⟨(),hk⟩)]
    nofun
   .simp only[Yc (show ¬ (i<n/\i<=k) by nofun),Yc (show ¬ (i<n+1/\i<=k) by nofun)]
    nofun
theorem xU{f g:Nat->Int}{c:Int}:∀n k,pz (λj=>c*f j) g n k=c*pz f g n k
 | 0,_=>by show (0:Int)=c*0;nofun
 | n+1,k=>by
  show pz _ g n k+(if n<=k then c*f n*g (k-n) else 0)=c*(pz f g n k+if n<=k then f n*g (k-n) else 0)
  rw[xU n k];split
  .rw[Int.mul_add,Xc]
  .simp
theorem yo{f g:Nat->Int}(h:∀i,f i=0):∀n k,pz f g n k=0
 | 0,_=>rfl
 | n+1,k=>by
  show pz f g n k+(if n<=k then f n*g (k-n) else 0)=0
  rw[yo h n k,h n];simp
theorem pe{v:Int}(hi:i<ns.length):nz (ns.set i v) k=if k=i then v else nz ns k:=by
 unfold nz;rw[Xe,Xe,List.getElem?_set];by_cases h:i=k
 .subst h;simp[hi]
 .rw[Yc h,Yc (λz=>h z.symm)]
theorem pc{c:Int}(k:Nat):nz (ns.map λx=>c*x) k=c*nz ns k:=by
 unfold nz;rw[Xe,Xe,YC];cases ns[k]?<;>simp
theorem oI(k:Nat):nz ns.dropLast k=if k=ns.length-1 then 0 else nz ns k:=by
 unfold nz;rw[Xe,Xe,List.getElem?_dropLast];by_cases h:k<ns.length-1
 .rw[Yb h,Yc ()]
 .rw[Yc h];by_cases h2:k=ns.length-1
  .rw[Yb h2];rfl
  .rw[Yc h2,Xn ()]
theorem AJ{ms:Nat->Int}{S P:Int}{Q Q' N R R1 R2:Nat->Int}{p l:Nat}(h:∀k,S*ms k=pz Q N n k+R k)(h0:Q p=0)(hQ:∀k,Q' k=if k=p then P else Q k)(hp:p<n)(hN:∀j,l<j->N j=0)
  (ht:R (p+l)=P*N l)(h1:∀k,R1 k=if k=p+l then 0 else R k)(h2:∀k,R2 k=R1 k-if p<=k/\k<p+l then P*N (k-p) else 0):∀k,S*ms k=pz Q' N n k+R2 k:=by
 intro k;rw[show Q'=λj=>if j=p then P else Q j from funext hQ,Dt h0,h k,h2 k,h1 k]
 by_cases a:p<=k
 .rw[Yb ⟨hp,a⟩];rcases Nat.lt_trichotomy k (p+l) with b|b|b
  .rw[Yc (show ¬ k=p+l by nofun),Yb ⟨a,b⟩]
   nofun
  .subst b;rw[Yb rfl,Yc (),ht,show p+l-p=l by nofun]
   nofun
  .rw[Yc (show ¬ k=p+l by nofun),Yc (),hN _ (show l<k-p by nofun)]
   nofun
 .rw[Yc (),Yc (show ¬ k=p+l by nofun),Yc ()]
  nofun
section
variable {X:Cx}{a b c:Expr}{ta tb tc:TE}{pos:Pos}
theorem zK(b c:Expr){op op':CmpOp}(h:op' ≠ .In:=by decide)(h2:op' ≠ .NotIn:=by decide):lastMarks [op,op'] [b,c]=false:=by
 show behindInMarks op' c=false;exact aC c h h2
theorem vE{op op':CmpOp}{r r':R2}(ho:eX X (compareOp op) r)(ho':eX X (compareOp op') r')(ha:QE X a ta)(hb:QE X b tb)(hc:QE X c tc)(hm:lastMarks [op,op'] [b,c]=false):QT X (.Compare a [op,op'] [b,c] pos) (sf (tu r r' ta tb tc)) :=
 ⟨DH ho ho' ha.h hb.h hc.h hm⟩
end
theorem qK{f g:Nat->Rat}:∀n,ap f g (n+1)=f 0*g 0+ap (λi=>f (i+1)) (λi=>g (i+1)) n
 | 0=>by
  show (0:Rat)+f 0*g 0=f 0*g 0+0;grind
 | n+1=>by
  show ap f g (n+1)+f (n+1)*g (n+1)=f 0*g 0+(ap (λi=>f (i+1)) (λi=>g (i+1)) n+f (n+1)*g (n+1));rw[qK n];grind
theorem tU{f g:Nat->Rat}:∀n,ap (λi=>f (n-1-i)) (λi=>g (n-1-i)) n=ap f g n
 | 0=>rfl
 | n+1=>by
  rw[qK];show f n*g n+ap (λi=>f (n+1-1-(i+1))) (λi=>g (n+1-1-(i+1))) n=ap f g n+f n*g n;have e:ap (λi=>f (n+1-1-(i+1))) (λi=>g (n+1-1-(i+1))) n=ap (λi=>f (n-1-i)) (λi=>g (n-1-i)) n :=
   aE n (λi _=>by rw[show n+1-1-(i+1)=n-1-i by nofun]) (λi _=>by rw[show n+1-1-(i+1)=n-1-i by nofun])
  rw[e,tU n];grind
def Lz:Nat->Int
 | 0=>1
 | e+1=>Lz e*6
theorem zN(j:Nat):∀e,kx (j+e)=kx j*Lz e
 | 0=>by show kx j=kx j*1;nofun
 | e+1=>by
  show kx (j+e)*6=kx j*(Lz e*6);rw[zN j e,Xc]
theorem sS{qs:Lt}:cf (qs.drop n) k=cf qs (n+k):=by
 unfold cf;rw[Xp]
def xB(x:V)(P:Bool->Prop):Prop:=match x with | .bl k=>P k|_=>False
def isInt(x:V)(P:Int->Prop):Prop:=match x with | .int k=>P k|_=>False
def jE(x:V)(P:Addr->Prop):Prop:=match x with | .ref k=>P k|_=>False
def vj(x:Option (Option V))(P:V->Prop):Prop:=match x with|some (some v)=>P v|_=>False
def JZ(x:List V)(P:V->Prop):Prop:=match x with|[v]=>P v|_=>False
def Lh(x:List V)(P:V->V->Prop):Prop:=match x with|[v,u]=>P v u|_=>False
theorem EW{k:Bool}{P:Bool->Prop}:xB (.bl k) P=P k:=rfl
theorem BU{k:Int}{P:Int->Prop}:isInt (.int k) P=P k:=rfl
theorem Cv{k:Addr}{P:Addr->Prop}:jE (.ref k) P=P k:=rfl
theorem Cn{k:V}{P:V->Prop}:vj (some (some k)) P=P k:=rfl
theorem Ic{k:V}{P:V->Prop}:JZ [k] P=P k:=rfl
theorem JC{k l:V}{P:V->V->Prop}:Lh [k,l] P=P k l:=rfl
theorem jL{x:V}{P:Bool->Prop}:xB x P = ∃k,x=.bl k/\P k:=propext (by cases x<;>simp[xB])
theorem dL{x:V}{P:Int->Prop}:isInt x P = ∃k,x=.int k/\P k:=propext (by cases x<;>simp[isInt])
theorem eC{x:V}{P:Addr->Prop}:jE x P = ∃k,x=.ref k/\P k:=propext (by cases x<;>simp[jE])
theorem nr{x:Option (Option V)}{P:V->Prop}:vj x P = ∃k,x=some (some k)/\P k:=propext (by rcases x with _|_|v<;>simp[vj])
theorem pH{x:List V}{P:V->Prop}:JZ x P = ∃k,x=[k]/\P k:=propext (by rcases x with _|⟨v,_|⟨u,r⟩⟩<;>simp[JZ])
theorem uj{x:List V}{P:V->V->Prop}:Lh x P = ∃k l,x=[k,l]/\P k l:=propext ⟨λh=>match x,h with|[v,u],h=>⟨v,u,rfl,h⟩,λ⟨k,l,e,h⟩=>by subst e;exact h⟩
theorem Hh{α β:Sort _}{A:α->Prop}{B:β->Prop}{C:α->β->Prop}:(∃i j,A i/\B j/\C i j) = ∃i,A i /\ ∃j,B j/\C i j:=propext ⟨λ⟨i,j,a,b,c⟩=>⟨i,a,j,b,c⟩,λ⟨i,a,j,b,c⟩=>⟨i,j,a,b,c⟩⟩
def rG(i:Nat):TE:=λσ H Q=>vj σ[i]? λv=>Q v H
theorem Hk:FC i=rG i:=by funext σ H Q;exact nr.symm
def yD(t:TE):TT:=λσ H Q=>t σ H λx H'=>xB x λk=>Q k H'
theorem ze{t:TE}:sf t=yD t:=by
 funext σ H Q;unfold sf yD;congr 1
 funext x H';exact jL.symm
theorem LU{t:TE}:tB t=yD t:=ze
def CJ(ta tb:TE):TE:=λσ H Q=>ta σ H λx H1=>xB x λc=>if c=true then tb σ H1 Q else Q (.bl false) H1
theorem Fc{ta tb:TE}:yF ta tb=CJ ta tb:=by
 funext σ H Q;unfold yF CJ;congr 1
 funext x H';exact jL.symm
def IV(ta tb:TE):TE:=λσ H Q=>ta σ H λx H1=>xB x λc=>if c=true then Q (.bl true) H1 else tb σ H1 Q
theorem Ib{ta tb:TE}:EI ta tb=IV ta tb:=by
 funext σ H Q;unfold EI IV;congr 1
 funext x H';exact jL.symm
def C7(ta:TE):TE:=λσ H Q=>ta σ H λx H1=>xB x λc=>Q (.bl (!c)) H1
theorem Fy{ta:TE}:zl ta=C7 ta:=by
 funext σ H Q;unfold zl C7;congr 1
 funext x H';exact jL.symm
def mI(C:Int->Int->Prop)(g:Int->Int->V):R2:=λx y H Q=>isInt x λi=>isInt y λj=>C i j/\Q (g i j) H
theorem Ma{C:Int->Int->Prop}{g:Int->Int->V}:rI C g=mI C g:=by
 funext x y H Q;unfold rI mI;rw[dL];simp only[dL];exact Hh
def LG(g:Int->Int->V):R2:=λx y H Q=>isInt x λi=>isInt y λj=>Q (g i j) H
theorem Kn{g:Int->Int->V}:zn g=LG g:=by
 funext x y H Q;unfold zn LG;simp only[dL];exact Hh
def mU(g:Int->V):V->Hp->VK->Prop:=λx H Q=>isInt x λi=>Q (g i) H
theorem Mf{g:Int->V}:rU g=mU g:=by
 funext x H Q;exact dL.symm
theorem pO{i:Int}:Aj (.int i) (.int j)=true:=rfl
theorem E6{i j:Bool}:Aj (.bl i) (.bl j)=true:=rfl
def Lu:R2:=λx y H Q=>match x,y with | .int i,.int j=>Q (.bl (decide (i=j))) H|_,_=>J6 x y H Q
theorem E2{i:Int}:Lu (.int i) (.int j) H Q=Q (.bl (decide (i=j))) H:=rfl
theorem Hg:J6=Lu:=by
 funext x y H Q;unfold Lu;split
 .unfold J6;show (Aj _ _=true/\_)=_;simp only[pO,V.int.injEq,true_and]
 .rfl
theorem FA{x:V}:Lu x y H Q=J6 x y H Q:=by rw[Hg]
def Ls:R2:=λx y H Q=>match x,y with | .int i,.int j=>Q (.bl (!decide (i=j))) H|_,_=>J2 x y H Q
theorem EK{i:Int}:Ls (.int i) (.int j) H Q=Q (.bl (!decide (i=j))) H:=rfl
theorem GU:J2=Ls:=by
 funext x y H Q;unfold Ls;split
 .unfold J2;show (Aj _ _=true/\_)=_;simp only[pO,V.int.injEq,true_and]
 .rfl
theorem EU{x:V}:Ls x y H Q=J2 x y H Q:=by rw[GU]
section
variable {K:Sf}
def JR(K:Sf):R2:=λx y H Q=>jE x λp=>isInt y λi=>∃xs,vw K H p=some (.lst xs) /\ ∃v,oY xs i=some v/\Q v H
theorem JI:vd K=JR K:=by
 funext x y H Q;unfold vd JR;simp only[dL,eC];exact Hh
def HZ(K:Sf):R2:=λx y H Q=>jE x λp=>isInt y λi=>∃xs,vw K H p=some (.tup xs) /\ ∃v,oY xs i=some v/\Q v H
theorem Jj:FR K=HZ K:=by
 funext x y H Q;unfold FR HZ;simp only[dL,eC];exact Hh
def II(K:Sf)(neg:Bool):R2:=λx y H Q=>∃d,aI (vw K H) d x /\ ∃e,aI (vw K H) e y/\d.cmp/\e.cmp/\Q (.bl (cond neg (!Co d e) (Co d e))) H
theorem JS{neg:Bool}:E4 K neg=II K neg:=by
 funext x y H Q;unfold E4 II;cases neg<;>exact Hh
def JH(K:Sf)(neg:Bool):R2:=λx y H Q=>jE x λp=>jE y λq=>∃xs,vw K H p=some (.lst xs)/\vw K H q=some (.lst [])/\Q (.bl (cond neg (!xs.isEmpty) xs.isEmpty)) H
theorem Jo{neg:Bool}:F3 K neg=JH K neg:=by
 funext x y H Q;unfold F3 JH;simp only[eC];cases neg<;>exact Hh
def DZ(t:TE):TO:=λσ H Q=>t σ H λx H1=>isInt x λi=>Q (some i) H1
theorem FT{t:TE}:zo t=DZ t:=by
 funext σ H Q;unfold zo DZ;congr 1
 funext x H';exact dL.symm
def KA(K:Sf):V->Option Int->Option Int->Hp->VK->Prop:=λx lo hi H Q=>jE x λa=>∃xs,vw K H a=some (.lst xs)/\Nw K H (.lst (i8 xs lo hi)) Q
theorem Jq:Eu K=KA K:=by
 funext x lo hi H Q;exact eC.symm
def B0(K:Sf):V->List V->Hp->VK->Prop:=λx vs H Q=>jE x λl=>JZ vs λy=>∃xs,vw K H l=some (.lst xs)/\xs.length<sizeLine/\E8 K H l (.lst (xs++[y])) (Q .non)
theorem E3:CO K=B0 K:=by
 funext x y H Q;unfold CO B0;simp only[eC,pH];exact Hh
def yN(K:Sf):V->V->V->Hp->(Hp->Prop)->Prop:=λo i v H Q=>jE o λp=>isInt i λk=>∃xs,vw K H p=some (.lst xs) /\ ∃j,xH xs.length k=some j/\E8 K H p (.lst (xs.set j v)) Q
theorem Gr:Do K=yN K:=by
 funext x y v H Q;unfold Do yN;simp only[eC,dL];exact Hh
def Jd(i j:Nat)(ta:TA):TS:=λD σ H=>ta σ H λvs H1=>Lh vs λv w=>D.nx ((σ.set i (some v)).set j (some w)) H1
theorem Jp{j:Nat}:En i j ta=Jd i j ta:=by
 funext D σ H;unfold En Jd;congr 1
 funext x H';exact uj.symm
def Kv(i:Nat)(te:TE)(ti:Ek):TS:=λD σ H=>vj σ[i]? λx=>te σ H λy H1=>ti x y H1 λz H2=>D.nx (σ.set i (some z)) H2
theorem Jt{te:TE}{ti:Ek}:JA i te ti=Kv i te ti:=by
 funext D σ H;exact nr.symm
def CA(K:Sf)(tl:TE):TI:=λσ H R=>tl σ H λx H1=>jE x λa=>(∃xs,jx K H1 a xs)/\R (Lw K a) H1
theorem GA{tl:TE}:zc K tl=CA K tl:=by
 funext σ H R;unfold zc CA;congr 1
 funext x H';exact eC.symm
def CW(ta:TA):TI:=λσ H R=>ta σ H λvs H1=>JZ vs λx=>isInt x λj=>-(2^62)<=j/\j<2^62/\R (J0 0 j.toNat) H1
theorem Fh:yI ta=CW ta:=by
 funext σ H R;unfold yI CW;congr 1
 funext x H';simp only[pH,dL];exact propext ⟨λ⟨j,a,b⟩=>⟨_,a,j,rfl,b⟩,λ⟨_,a,j,e,b⟩=>⟨j,by rw[a,e],b⟩⟩
def vX(K:Sf):R2:=λx y H Q=>match x,y with
 | .int i,.int j=>Q (.int (i+j)) H
 | .ref l,.ref b=>∃xs,vw K H l=some (.lst xs) /\ ∃zs,vw K H b=some (.lst zs)/\xs.length+zs.length<=sizeLine/\Nw K H (.lst (xs++zs)) Q
 | _,_=>gz K x y H Q
theorem Ae{i:Int}:vX K (.int i) (.int j) H Q=Q (.int (i+j)) H:=rfl
theorem Ah{l b:Addr}:vX K (.ref l) (.ref b) H Q = ∃xs,vw K H l=some (.lst xs) /\ ∃zs,vw K H b=some (.lst zs)/\xs.length+zs.length<=sizeLine/\Nw K H (.lst (xs++zs)) Q:=rfl
theorem zT:gz K=vX K:=by
 funext x y H Q;unfold vX;split
 .exact ky
 .exact dR
 .rfl
theorem AG{x:V}:vX K x y H Q=gz K x y H Q:=by rw[zT]
def Fv(K:Sf):R2:=λx y H Q=>match x,y with
 | .int i,.int j=>IntMulOk i j/\Q (.int (i*j)) H
 | _,_=>ii K x y H Q
theorem Dv{i:Int}:Fv K (.int i) (.int j) H Q=(IntMulOk i j/\Q (.int (i*j)) H):=rfl
theorem DS:ii K=Fv K:=by
 funext x y H Q;unfold Fv;split
 .exact ij
 .rfl
theorem Dh{x:V}:Fv K x y H Q=ii K x y H Q:=by rw[DS]
end
def LW(P:Addr->Hp->VK->Prop)(t:TA):TE:=λσ H Q=>t σ H λvs H1=>JZ vs λx=>jE x λp=>P p H1 Q
theorem KY{P:Addr->Hp->VK->Prop}:ED (λxs H Q=>∃p,xs=[.ref p]/\P p H Q) t=LW P t:=by
 funext σ H Q;unfold ED LW;congr 1
 funext x H';simp only[pH,eC];exact propext ⟨λ⟨j,a,b⟩=>⟨_,a,j,rfl,b⟩,λ⟨_,a,j,e,b⟩=>⟨j,by rw[a,e],b⟩⟩
def Md(P:Int->Int->Hp->VK->Prop)(t:TA):TE:=λσ H Q=>t σ H λvs H1=>Lh vs λx y=>isInt x λi=>isInt y λj=>P i j H1 Q
theorem KT{P:Int->Int->Hp->VK->Prop}:ED (λxs H Q=>∃i j,xs=[.int i,.int j]/\P i j H Q) t=Md P t:=by
 funext σ H Q;unfold ED Md;congr 1
 funext x H';simp only[uj,dL];exact propext ⟨λ⟨i,j,a,b⟩=>⟨_,_,a,i,rfl,j,rfl,b⟩,λ⟨_,_,a,i,e,j,e',b⟩=>⟨i,j,by rw[a,e,e'],b⟩⟩
end L2
namespace L2
open PySem
variable {F:FuncData}{ps:List Str}
theorem HE(us:List Value)(hl:us.length=1)(h:∀a0,bindArgs F ⟨[a0],[]⟩=pure (ps.zip [a0])):bindArgs F ⟨us,[]⟩=pure (ps.zip us):=by
 rcases us with _|⟨a0,_|⟨b,r⟩⟩
 all_goals first|exact h _|(simp at hl;done)
theorem yg(us:List Value)(hl:us.length=2)(h:∀a0 a1,bindArgs F ⟨[a0,a1],[]⟩=pure (ps.zip [a0,a1])):bindArgs F ⟨us,[]⟩=pure (ps.zip us):=by
 rcases us with _|⟨a0,_|⟨a1,_|⟨b,r⟩⟩⟩
 all_goals first|exact h _ _|(simp at hl;done)
theorem Jy(us:List Value)(hl:us.length=3)(h:∀a0 a1 a2,bindArgs F ⟨[a0,a1,a2],[]⟩=pure (ps.zip [a0,a1,a2])):bindArgs F ⟨us,[]⟩=pure (ps.zip us):=by
 rcases us with _|⟨a0,_|⟨a1,_|⟨a2,_|⟨b,r⟩⟩⟩⟩
 all_goals first|exact h _ _ _|(simp at hl;done)
end L2
namespace L2
open PySem PySem.Spec PyProof.Rows
variable {n:Nat}{f g:Nat->Rat}
def ch:Nat->Nat->Nat
 | _,0=>1
 | 0,_+1=>0
 | n+1,k+1=>ch n k+ch n (k+1)
theorem Hw{xs:List V}(h:xs≠[]):i8 xs none (some (-1))=xs.dropLast:=by
 unfold i8;have hl:0<xs.length:=List.length_pos_iff.mpr h;have e:∀d,HT.sIx xs.length d (some (-1))=xs.length-1:=λd=>by
  simp[HT.sIx];nofun
 rw[e];simp[HT.sIx,List.dropLast_eq_take]
def fw(t r:Nat->Rat):Nat->Nat->Rat
 | 0,h=>if h=0 then 1 else 0
 | k+1,h=>(if h=0 then 0 else fw t r k (h-1))+t h*fw t r k h+r (h+1)*fw t r k (h+1)
def bw(t r:Nat->Rat):Nat->Nat->Rat
 | 0,h=>if h=0 then 1 else 0
 | k+1,h=>bw t r k (h+1)+t h*bw t r k h+(if h=0 then 0 else r h*bw t r k (h-1))
theorem vZ{f g:Nat->Rat}:∀n,ap f g n=ap g f n
 | 0=>rfl
 | n+1=>by
  show ap f g n+f n*g n=ap g f n+g n*f n;rw[vZ n];grind
section
variable {X:Cx}
def Gq(K:Sf):V->List V->Hp->VK->Prop:=λx vs H Q=>∃l,x=.ref l/\vs=[] /\ ∃xs,vw K H l=some (.lst xs)/\E8 K H l (.lst []) (Q .non)
theorem AT:JX X "list.clear" (Gq X.K):=by
 intro pins s σ H x vs v us Q I rx rv h;obtain⟨l,e1,e2,xs,h,q⟩:=h;exact BQ pins s σ H x vs v us Q I rx rv ⟨l,xs,e1,e2,aN h,q.ok (I.noK (aN h))⟩
end
structure Km where
 params:Arguments
 body:Expr
 scope:Scope
 Nl:List Str
 ixs:List Nat
 tl:TE
structure Mu where
 t:Addr
 p:Addr
 c:Addr
 d:Addr
 ps:Arguments
 b:Expr
 sc:Scope
 ds:List D
def Ob(D:Int)(B:Nat)(f:Nat->Rat):Prop:=∀k,∃n:Int,f k=(n:Rat)/(D:Rat)/\Bt B n
section
variable {D E:Int}{a b e:Nat}{f g:Nat->Rat}
theorem J5:Bt n 0:=Nat.two_pow_pos n
theorem Ob.mono(h:Ob D a f)(hl:a<=b):Ob D b f:=λk=>by
 obtain⟨n,e1,h1⟩:=h k;exact⟨n,e1,h1.mono hl⟩
theorem Ob.congr(h:Ob D a f)(e:∀k,g k=f k):Ob D a g:=λk=>by
 rw[e k];exact h k
theorem Ob.bq{qs:Lt}(h:Ob D a (cf qs))(hD:D≠0)(hb:Bt a D)(hF:∀q∈qs,Fq q):∀q∈qs,Bq a q:=λq hq=>by
 obtain⟨k,hk,rfl⟩:=List.getElem_of_mem hq;obtain⟨n,e1,h1⟩:=h k;rw[aH (YU hk)] at e1;rw[lA (hF _ hq) (ix hD) (by rw[io hD,e1])]
 exact ox hD h1 hb
theorem Ob.add(h1:Ob D a f)(h2:Ob D b g):Ob D (max a b+1) (λk=>f k+g k):=λk=>by
 obtain⟨m,e1,b1⟩:=h1 k;obtain⟨n,e2,b2⟩:=h2 k;refine⟨m+n,?_,b1.add b2⟩;show f k+g k=_;rw[e1,e2,Xh];grind
theorem Ob.up(hD:D≠0)(hE:E≠0)(h:Ob D a f)(hb:Bt e E):Ob (D*E) (a+e) f:=λk=>by
 obtain⟨n,e1,h1⟩:=h k;refine⟨n*E,?_,h1.mul hb⟩;have:=ao hD;have:=ao hE;rw[e1,Xi,Xi];grind
theorem Ob.one{c:Rat}{m:Int}(hD:D≠0)(hE:E≠0)(h:Ob D a f)(hc:c=(m:Rat)/(E:Rat))(hb:Bt b m):Ob (D*E) (a+b) (λk=>f k*c):=λk=>by
 obtain⟨n,e1,h1⟩:=h k;refine⟨n*m,?_,h1.mul hb⟩;have:=ao hD;have:=ao hE;show f k*c=_;rw[e1,hc,Xi,Xi];grind
theorem Ob.pr(hD:D≠0)(hE:E≠0)(h1:Ob D a f)(h2:Ob E b g):∀n,Ob (D*E) (a+b+n) (λk=>pr f g n k)
 | 0=>λk=>⟨0,by
  show (0:Rat)=‹0›/_;have c0:‹0›=0:=rfl;rw[c0];grind,J5⟩
 | n+1=>λk=>by
  obtain⟨m,e1,b1⟩:=Ob.pr hD hE h1 h2 n k;show ∃m,L2.pr f g n k+(if n<=k then f n*g (k-n) else 0)=_/\_
  have e1:L2.pr f g n k=(m:Rat)/‹D*E›:=e1;split
  .obtain⟨x,e2,b2⟩:=h1 n;obtain⟨y,e3,b3⟩:=h2 (k-n);refine⟨m+x*y,?_,(b1.add (b2.mul b3)).mono ()⟩;have:=ao hD;have:=ao hE;rw[e1,e2,e3,Xh,Xi,Xi];grind
  .refine⟨m,?_,b1.mono ()⟩;rw[e1];grind
def Pb(a:Nat)(f:Nat->Rat):Prop:=∃D:Int,D≠0/\Bt a D/\Ob D a f
theorem Pb.mono(h:Pb a f)(hl:a<=b):Pb b f:=by
 obtain⟨D,h1,h2,h3⟩:=h;exact⟨D,h1,h2.mono hl,h3.mono hl⟩
theorem Pb.congr(h:Pb a f)(e:∀k,g k=f k):Pb a g:=by
 obtain⟨D,h1,h2,h3⟩:=h;exact⟨D,h1,h2,h3.congr e⟩
theorem Pb.bq{qs:Lt}(h:Pb a (cf qs))(hF:∀q∈qs,Fq q):∀q∈qs,Bq a q:=by
 obtain⟨D,h1,h2,h3⟩:=h;exact h3.bq h1 h2 hF
theorem Pb.pr(h1:Pb a f)(h2:Pb b g)(n:Nat):Pb (a+b+n) (λk=>L2.pr f g n k):=by
 obtain⟨D,d1,d2,d3⟩:=h1;obtain⟨E,e1,e2,e3⟩:=h2;exact⟨D*E,Xg d1 e1,(d2.mul e2).mono (),Ob.pr d1 e1 d3 e3 n⟩
theorem Pb.add(h1:Pb a f)(h2:Pb b g):Pb (a+b+1) (λk=>f k+g k):=by
 obtain⟨D,d1,d2,d3⟩:=h1;obtain⟨E,e1,e2,e3⟩:=h2;have x2:=Ob.up e1 d1 e3 d2;rw[Xd] at x2;refine⟨D*E,Xg d1 e1,(d2.mul e2).mono (),((Ob.up d1 e1 d3 e2).add x2).mono ()⟩
theorem Pb.one{c:Rat}{m:Int}(h:Pb a f)(hE:E≠0)(hc:c=(m:Rat)/(E:Rat))(hb:Bt b m)(hb':Bt b E):Pb (a+b) (λk=>f k*c):=by
 obtain⟨D,d1,d2,d3⟩:=h;exact⟨D*E,Xg d1 hE,d2.mul hb',Ob.one d1 hE d3 hc hb⟩
end
theorem JD{a:Nat}(h:1<=a):Pb a (cf []):=⟨1,∅,Bt.mono (m:=1) ∅ h,λk=>⟨0,by
  show (0:Rat)=‹0›/_;have c0:‹0›=0:=rfl;rw[c0];grind,J5⟩⟩
def lin(p q:Rat)(f:Nat->Rat):Nat->Rat
 | 0=>f 0*p
 | k+1=>f (k+1)*p+f k*q
theorem u9{a b c:Int}(h:Int.gcd a b=1)(hd:a∣b*c):a∣c:=by
 rw[<-Int.natAbs_dvd_natAbs] at hd ⊢;rw[YZ] at hd;exact Nat.Coprime.dvd_of_dvd_mul_left h hd
theorem EH{b q E:Int}(hb:0<b)(hq:0<q)(h1:b∣E)(h2:q∣E):b*q.fdiv (Int.gcd b q:Int)∣E:=by
 obtain⟨_,_,_,hg,_⟩:=vW hb hq;have e:=gg hg (Int.gcd_dvd_right b q);obtain⟨m,hm⟩:=Int.gcd_dvd_left b q;obtain⟨g,hgg⟩:∃g:Nat,g=Int.gcd b q:=⟨_,rfl⟩;generalize hc:q.fdiv (Int.gcd b q:Int)=c at e;rw[<-hgg] at hg e hm;have hcop:Int.gcd c m=1:=by
  have z:Int.gcd b q=g*Int.gcd m c:=by
   rw[hm,<-e,Xd c,Int.gcd_mul_left];simp
  rw[<-hgg] at z;have g0:0<g:=();have:Int.gcd m c=1:=by
   have:g*1=g*Int.gcd m c:=();exact (Nat.eq_of_mul_eq_mul_left g0 this).symm
  rw[Int.gcd_comm];exact this
 obtain⟨u,hu⟩:=h1;obtain⟨v,hv⟩:=h2;have:c∣m*u:=by
  refine⟨v,?_⟩;have z:(g:Int)*(m*u)=(g:Int)*(c*v):=by
   rw[<-Xc,<-hm,<-hu,hv,<-e];rw[Xd c,Xc]
  exact Int.eq_of_mul_eq_mul_left hg z
 obtain⟨t,ht⟩:=u9 hcop this;exact⟨t,by rw[hu,ht,Xc]⟩
theorem j8{q:Int×Int}{n E:Int}(h:Fq q)(hE:E≠0)(e:wv q=(n:Rat)/(E:Rat)):q.2∣E:=by
 unfold wv at e;have c1:=ao h.ne;have c2:=ao hE;have e1:(q.1:Rat)*(E:Rat)=(n:Rat)*(q.2:Rat):=⋯;have e2:q.1*E=n*q.2:=by
  rw[<-Xi,<-Xi] at e1;exact Rat.intCast_inj.mp e1
 refine u9 (b:=q.1) (by rw[Int.gcd_comm];exact h.2) ⟨n,by rw[e2,Xd]⟩
theorem fk{a:Nat}{qs:Lt}{D:Int}{ns:List Int}(h:Pb a (cf qs))(hF:∀q∈qs,Fq q)(hD:0<D)(hm:∀E:Int,(∀q∈qs,q.2∣E)->D∣E)(hl:ns.length=qs.length)(hn:∀(i:Nat)(n:Int)(q:Int×Int),ns[i]? = some n->qs[i]? = some q->(n:Rat)=wv q*(D:Rat)):Bt a D /\ ∀n∈ns,Bt a n:=by
 obtain⟨E,hE,bE,oE⟩:=h;obtain⟨t,ht⟩:=hm E λq hq=>by
  obtain⟨k,hk,rfl⟩:=List.getElem_of_mem hq;obtain⟨n,e,_⟩:=oE k;rw[aH (YU hk)] at e;exact j8 (hF _ hq) hE e
 have t0:t≠0:=λz=>hE (by rw[ht,z,Xr])
 have le:∀x:Int,x.natAbs<=(x*t).natAbs:=λx=>by
  rw[YZ];exact Xa _ ()
 refine⟨?_,λn hn'=>?_⟩
 .unfold Bt at *
  have:=le D;rw[<-ht] at this;nofun
 .obtain⟨i,hi,rfl⟩:=List.getElem_of_mem hn';have hi':i<qs.length:=();have e1:=hn i _ _ (YU hi) (YU hi');obtain⟨m,e2,bm⟩:=oE i;rw[aH (YU hi')] at e2;have c1:=ao hE;have e3:‹ns[i]*t›=(m:Rat):=by
   rw[Xi,e1,e2];have:(E:Rat)=(D:Rat)*(t:Rat):=by rw[ht,Xi]
   have c2:(D:Rat)≠0:=ao ();have c3:(t:Rat)≠0:=ao t0;rw[this];grind
  have e4:=Rat.intCast_inj.mp e3;unfold Bt at *
  have:=le ns[i];rw[e4] at this;nofun
def eE(f:Nat->Rat):Nat->Rat->Rat
 | 0,_=>0
 | n+1,x=>eE f n x+f n*aQ x n
theorem sE{f g:Nat->Rat}{x:Rat}:∀n,(∀k,k<n->f k=g k)->eE f n x=eE g n x
 | 0,_=>rfl
 | n+1,h=>by
  show eE f n x+f n*_=eE g n x+g n*_;rw[sE n (λk hk=>h k ()),h n ()]
theorem tF{f g:Nat->Rat}{x:Rat}:∀n,eE (λk=>f k+g k) n x=eE f n x+eE g n x
 | 0=>by show (0:Rat)=0+0;grind
 | n+1=>by
  show eE (λk=>f k+g k) n x+(f n+g n)*aQ x n=eE f n x+f n*aQ x n+(eE g n x+g n*aQ x n);rw[tF n];grind
theorem qe{f:Nat->Rat}{x:Rat}{n:Nat}(h:∀k,n<=k->f k=0):∀m,eE f (n+m) x=eE f n x
 | 0=>rfl
 | m+1=>by
  show eE f (n+m) x+f (n+m)*_=_;rw[qe h m,h (n+m) ()];grind
theorem yQ{p q:Rat}{f:Nat->Rat}{x:Rat}:∀n,eE (lin p q f) (n+1) x=p*eE f (n+1) x+q*x*eE f n x
 | 0=>by
  show 0+f 0*p*1=p*(0+f 0*1)+q*x*0;grind
 | n+1=>by
  show eE (lin p q f) (n+1) x+(f (n+1)*p+f n*q)*aQ x (n+1)=p*(eE f (n+1) x+f (n+1)*aQ x (n+1))+q*x*(eE f n x+f n*aQ x n);rw[yQ n,gM];grind
def EV(f:Nat->Rat)(x:Rat):Rat:=eE f 20 x
theorem uy{p q:Rat}(h:f 19=0)(x:Rat):EV (lin p q f) x=(p+q*x)*EV f x:=by
 unfold EV;rw[yQ 19];have:eE f 20 x=eE f 19 x:=by
  show eE f 19 x+f 19*_=_;rw[h];grind
 rw[this];grind
theorem dH(h:∀k,f k=g k)(x:Rat):EV f x=EV g x:=sE 20 λk _=>h k
theorem oo(x:Rat):EV (λk=>f k+g k) x=EV f x+EV g x:=tF 20
def DF(f:Nat->Rat):Nat->Rat:=λk=>((k+1:Nat):Int)*f (k+1)
theorem Dn{p:Rat}(k:Nat):DF (lin p 1 f) k=lin p 1 (DF f) k+f k:=by
 cases k with
 | zero =>
  show ‹(0+1:Nat)›*(f 1*p+f 0*1)=‹(0+1:Nat)›*f 1*p+f 0;have c1:‹(0+1:Nat)›=1:=rfl;rw[c1];grind
 | succ k =>
  show ‹(k+1+1:Nat)›*(f (k+2)*p+f (k+1)*1)=‹(k+1+1:Nat)›*f (k+2)*p+‹(k+1:Nat)›*f (k+1)*1+f (k+1);have c1:‹(k+1+1:Nat)›=‹(k+1:Nat)›+1:=by
   rw[show ((k+1+1:Nat):Int)=((k+1:Nat):Int)+1 by nofun,Xh]
   rfl
  rw[c1];grind
theorem rZ{c:Rat}{g:Nat->Rat}{j:Nat}{x:Rat}:∀M,eE (λk=>if j<=k then c*g (k-j) else 0) (j+M) x=c*aQ x j*eE g M x
 | 0=>by
  have:∀n,n<=j->eE (λk=>if j<=k then c*g (k-j) else 0) n x=0:=λn=>by
   induction n with
   | zero=>intro _;rfl
   | succ n ih =>
    intro hn;show eE (λk=>if j<=k then c*g (k-j) else 0) n x+(if j<=n then c*g (n-j) else 0)*aQ x n=0
    rw[ih (),Yc ()];grind
  rw[Nat.add_zero,this j (Yr _)];show (0:Rat)=c*aQ x j*0;grind
 | M+1=>by
  show eE (λk=>if j<=k then c*g (k-j) else 0) (j+M) x+(if j<=j+M then c*g (j+M-j) else 0)*aQ x (j+M)=c*aQ x j*(eE g M x+g M*aQ x M)
  rw[rZ M,Yb (),Nat.add_sub_cancel_left];have:aQ x (j+M)=aQ x j*aQ x M:=by
   induction M with
   | zero=>show aQ x j=aQ x j*1;grind
   | succ M ih =>
    show aQ x (j+M)*x=aQ x j*(aQ x M*x);rw[ih];grind
  rw[this];grind
theorem Ch{f g:Nat->Rat}{x:Rat}{m:Nat}(hg:∀k,m<=k->g k=0):∀n,n+m<=20->EV (λk=>pr f g n k) x=eE f n x*eE g m x
 | 0,_=>by
  have:∀n,eE (λk=>pr f g 0 k) n x=0:=λn=>by
   induction n with
   | zero=>rfl
   | succ n ih =>
    show eE (λk=>pr f g 0 k) n x+0*_=0;rw[ih];grind
  show eE _ 20 x=0*_;rw[this];grind
 | n+1,h=>by
  have e:EV (λk=>pr f g (n+1) k) x=EV (λk=>pr f g n k) x+EV (λk=>if n<=k then f n*g (k-n) else 0) x:=oo x
  rw[e,Ch hg n ()];have s:EV (λk=>if n<=k then f n*g (k-n) else 0) x=f n*aQ x n*eE g m x:=by
   show eE _ 20 x=_;have z:=rZ (c:=f n) (g:=g) (j:=n) (x:=x) (20-n);rw[show n+(20-n)=20 by nofun] at z
   rw[z];have z2:=qe (x:=x) hg (20-n-m);rw[show m+(20-n-m)=20-n by nofun] at z2
   rw[z2]
  rw[s];show _=(eE f n x+f n*aQ x n)*_;grind
theorem fJ(h:∀k,n<=k->f k=0)(hn:n<=20)(x:Rat):EV f x=eE f n x:=by
 have:=qe (x:=x) h (20-n);rw[show n+(20-n)=20 by nofun] at this
 exact this
theorem u4{q:Int×Int}{qs:Lt}{x:Rat}:∀n,eE (cf (q::qs)) (n+1) x=wv q+x*eE (cf qs) n x
 | 0=>by
  show 0+wv q*1=wv q+x*0;grind
 | n+1=>by
  show eE (cf (q::qs)) (n+1) x+cf qs n*aQ x (n+1)=wv q+x*(eE (cf qs) n x+cf qs n*aQ x n);rw[u4 n,gM];grind
theorem nW{x:Rat}:∀{qs:Lt},qs.length<=20->Fg qs x=EV (cf qs) x
 | [],_=>by
  rw[fJ (n:=0) (λk _=>Je k) ∅];rfl
 | q::qs,h=>by
  have h':qs.length+1<=20:=h;rw[fJ (n:=qs.length+1) (λk hk=>aJ hk) h',u4,<-fJ (n:=qs.length) (λk hk=>aJ hk) (),<-nW ()];rfl
def eZ:List Rat->Rat->Rat
 | [],_=>0
 | a::l,x=>a+x*eZ l x
def G4(s:Rat):List Rat->List Rat
 | []=>[]
 | [_]=>[]
 | _::b::l=>eZ (b::l) s::G4 s (b::l)
theorem yt{s:Rat}:∀l:List Rat,(G4 s l).length=l.length-1
 | []=>rfl
 | [_]=>rfl
 | _::b::l=>by
  show (G4 s (b::l)).length+1=_;rw[yt (b::l)];rfl
theorem xQ{s x:Rat}:∀l:List Rat,eZ l x-eZ l s=(x-s)*eZ (G4 s l) x
 | []=>by show (0:Rat)-0=(x-s)*0;grind
 | [a]=>by show a+x*0-(a+s*0)=(x-s)*0;grind
 | a::b::l=>by
  have:=xQ (s:=s) (x:=x) (b::l);show a+x*eZ (b::l) x-(a+s*eZ (b::l) s)=(x-s)*(eZ (b::l) s+x*eZ (G4 s (b::l)) x);have e:(x-s)*(x*eZ (G4 s (b::l)) x)=x*(eZ (b::l) x-eZ (b::l) s):=by rw[this];grind
  grind
theorem vF:∀(S:List Rat)(l:List Rat),S.Nodup->l.length<=S.length->(∀s∈S,eZ l s=0) -> ∀x,eZ l x=0
 | [],l,_,hl,_,x=>by
  have:l=[]:=List.length_eq_zero_iff.mp (Nat.le_zero.mp hl);rw[this];rfl
 | s::S,l,nd,hl,h,x=>by
  rw[List.nodup_cons] at nd;have h0:=h s Yj;have g:∀x,eZ (G4 s l) x=0:=vF S (G4 s l) nd.2 (by rw[yt];have:l.length<=S.length+1:=hl;nofun) λt ht=>by
   have e:=xQ (s:=s) (x:=t) l;rw[h t (Yk _ ht),h0] at e;have hts:t-s=0->t=s:=λz=>by grind
   have hne:t-s≠0:=λz=>nd.1 (by rw[<-hts z];exact ht)
   grind
  have e:=xQ (s:=s) (x:=x) l;rw[g x,h0] at e;grind
def eO(n:Nat)(f:Rat->Rat):Prop:=∃l:List Rat,l.length<=n /\ ∀x,f x=eZ l x
theorem eO.mono{m:Nat}{f:Rat->Rat}(h:eO m f)(hl:m<=n):eO n f:=by
 obtain⟨l,h1,h2⟩:=h;exact⟨l,(),h2⟩
def x9:List Rat->List Rat->List Rat
 | [],b=>b
 | a,[]=>a
 | x::a,y::b=>(x+y)::x9 a b
theorem qo:∀a b:List Rat,(x9 a b).length=max a.length b.length
 | [],b=>by show b.length=max 0 b.length;nofun
 | x::a,[]=>by show (x::a).length=max (x::a).length 0;nofun
 | x::a,y::b=>by
  show (x9 a b).length+1=max (a.length+1) (b.length+1);rw[qo a b];nofun
theorem ua{t:Rat}:∀a b:List Rat,eZ (x9 a b) t=eZ a t+eZ b t
 | [],b=>by show eZ b t=0+eZ b t;grind
 | x::a,[]=>by show eZ (x::a) t=eZ (x::a) t+0;grind
 | x::a,y::b=>by
  show x+y+t*eZ (x9 a b) t=x+t*eZ a t+(y+t*eZ b t);rw[ua a b];grind
theorem eO.add{f g:Rat->Rat}(h1:eO n f)(h2:eO n g):eO n (λx=>f x+g x):=by
 obtain⟨a,a1,a2⟩:=h1;obtain⟨b,b1,b2⟩:=h2;refine⟨x9 a b,by rw[qo];nofun,λx=>?_⟩
 show f x+g x=_;rw[ua,a2,b2]
theorem xb{c x:Rat}:∀l:List Rat,eZ (l.map λa=>a*c) x=eZ l x*c
 | []=>by show (0:Rat)=0*c;grind
 | a::l=>by
  show a*c+x*eZ (l.map λa=>a*c) x=(a+x*eZ l x)*c;rw[xb l];grind
theorem eO.sc{f:Rat->Rat}(h:eO n f)(c:Rat):eO n (λx=>f x*c):=by
 obtain⟨a,a1,a2⟩:=h;refine⟨a.map λa=>a*c,by rw[YF];exact a1,λx=>?_⟩
 show f x*c=_;rw[xb,a2]
theorem eO.mulX{f:Rat->Rat}(h:eO n f)(s:Rat):eO (n+1) (λx=>(x-s)*f x):=by
 obtain⟨a,a1,a2⟩:=h;refine⟨x9 (0::a) (a.map λa=>a*(-s)),by rw[qo,YF];show max (a.length+1) a.length<=n+1;nofun,λx=>?_⟩
 rw[ua,xb];show (x-s)*f x=0+x*eZ a x+eZ a x * -s;rw[a2];grind
theorem GK:∀n x,eE f n x=eZ ((List.range n).map f) x
 | n,x=>by
  have key:∀n j,eZ ((List.range n).map λi=>f (j+i)) x*aQ x j+eE f j x=eE f (j+n) x:=λn=>by
   induction n with
   | zero =>
    intro j;show 0*_+_=eE f j x;grind
   | succ n ih =>
    intro j;rw[List.range_succ_eq_map,YR,List.map_map];show (f (j+0)+x*eZ ((List.range n).map ((λi=>f (j+i)) ∘ Nat.succ)) x)*aQ x j+eE f j x=_;have e:((λi=>f (j+i)) ∘ Nat.succ)=λi=>f (j+1+i):=by
     funext i;show f (j+(i+1))=f (j+1+i);rw[show j+(i+1)=j+1+i by nofun]
    have:=ih (j+1);rw[e,show j+(n+1)=j+1+n by nofun,<-this,gM]
    show _=_+(eE f j x+f j*aQ x j);rw[Nat.add_zero];grind
  have:=key n 0;rw[Xv] at this;rw[<-this];have e:(λi=>f (0+i))=f:=by funext i;rw[Xv]
  rw[e];show _*1+0=_;grind
theorem eO.of(h:∀k,n<=k->f k=0)(hn:n<=20):eO n (EV f):=⟨(List.range n).map f,by simp,λx=>by rw[fJ h hn,GK]⟩
section
variable {X:Cx}
def G6(K:Sf):V->Option Int->Option Int->Hp->VK->Prop:=λx lo hi H Q=>∃a,x=.ref a /\ ∃xs,vw K H a=some (.tup xs) /\ ¬ (HT.sIx xs.length 0 lo=0/\HT.sIx xs.length xs.length hi=xs.length)/\Nw K H (.tup (i8 xs lo hi)) Q
theorem GD:zP X (G6 X.K):=HN.kf.imp λ_ _ _ _ _ ⟨a,e,xs,h,n,q⟩=>⟨a,xs,e,hU h,n,q.al⟩
end
def Ms(cs:List mO):List Rat:=cs.map λc=>wv c.1
def Kq(cs:List mO)(i:Nat):List Rat:=(Ms cs).take i++(Ms cs).drop (i+1)
def Ar:Nat->List Rat
 | 0=>[]
 | n+1=>((n+1:Nat):Int)::Ar n
theorem pS:∀{n:Nat}{x:Rat},x∈Ar n -> ∃m:Nat,1<=m/\m<=n/\x=‹m›
 | n+1,x,h=>by
  rcases Y2.mp h with rfl|h
  .exact⟨n+1,(),(),rfl⟩
  .obtain⟨m,h1,h2,h3⟩:=pS h;exact⟨m,h1,(),h3⟩
theorem zw:∀n,(Ar n).Nodup
 | 0=>List.nodup_nil
 | n+1=>by
  refine List.nodup_cons.mpr ⟨λh=>?_,zw n⟩;obtain⟨m,_,h2,h3⟩:=pS h;have:=Rat.intCast_inj.mp h3;nofun
theorem we:∀n,(Ar n).length=n
 | 0=>rfl
 | n+1=>by show (Ar n).length+1=_;rw[we n]
theorem pM:∀l:List Rat,(∀x,eZ l x=0) -> ∀a∈l,a=0
 | [],_,a,h=>by cases h
 | b::l,h,a,ha=>by
  have h0:b=0:=by
   have:=h 0;show b=0;have e:eZ (b::l) 0=b+0*eZ l 0:=rfl;rw[e] at this;grind
  have hl:∀x,eZ l x=0:=vF (Ar l.length) l (zw _) (by rw[we];exact Yr _) λs hs=>by
   obtain⟨m,h1,_,rfl⟩:=pS hs;have:=h ‹m›;have e:eZ (b::l) ‹m›=b+‹m›*eZ l ‹m›:=rfl;rw[e,h0] at this;have c:‹m›≠0:=ao ();grind
  rcases Y2.mp ha with rfl|ha
  .exact h0
  .exact pM l hl a ha
theorem jO(hf:∀k,20<=k->f k=0)(hg:∀k,20<=k->g k=0)(h:∀x,EV f x=EV g x)(k:Nat):f k=g k:=by
 rcases Xw k 20 with z|z
 .have e:∀x,eZ ((List.range 20).map λk=>f k + -1*g k) x=0:=λx=>by
   rw[<-GK,tF];have h1:eE (λk=>-1*g k) 20 x = -1*eE g 20 x:=by
    have:∀n,eE (λk=>-1*g k) n x = -1*eE g n x:=λn=>by
     induction n with
     | zero=>show (0:Rat) = -1*0;grind
     | succ n ih =>
      show eE (λk=>-1*g k) n x + -1*g n*aQ x n = -1*(eE g n x+g n*aQ x n);rw[ih];grind
    exact this 20
   have h2:eE f 20 x=eE g 20 x:=h x;rw[h1,h2];grind
  have:=pM _ e (f k + -1*g k) (List.mem_map.mpr ⟨k,List.mem_range.mpr z,rfl⟩);grind
 .rw[hf k z,hg k z]
theorem mP{f g h:Nat->Rat}{c:Rat}:∀n,ap f (λi=>g i+c*h i) n=ap f g n+c*ap f h n
 | 0=>by show (0:Rat)=0+c*0;grind
 | n+1=>by
  show ap f (λi=>g i+c*h i) n+f n*(g n+c*h n)=ap f g n+f n*g n+c*(ap f h n+f n*h n);rw[mP n];grind
theorem wI{x:Rat}(i:Nat):∀j,aQ x (i+j)=aQ x i*aQ x j
 | 0=>by show aQ x i=aQ x i*1;grind
 | j+1=>by
  show aQ x (i+j)*x=aQ x i*(aQ x j*x);rw[wI i j];grind
end L2
namespace L2
open PySem
variable {m k:Nat}{v:Nat->Int}{o:Om}
abbrev Om:=List Bool->Int
def wg:Nat->(Nat->Int)->Om->Om
 | 0,_,_=>λ_=>0
 | m+1,v,o=>λl=>match l with
  | []=>0
  | false::l=>wg m v (λk=>o (false::k)) l
  | true::l=>v m*o (false::l)-wg m v (λk=>o (true::k)) l
theorem lI{l:List Bool}:wg (m+1) v o (false::l)=wg m v (λk=>o (false::k)) l:=rfl
theorem kG{l:List Bool}:wg (m+1) v o (true::l)=v m*o (false::l)-wg m v (λk=>o (true::k)) l:=rfl
theorem nY{v:Nat->Int}{a b:Int}:∀(m:Nat)(o p:Om)(l:List Bool),wg m v (λk=>a*o k+b*p k) l=a*wg m v o l+b*wg m v p l
 | 0,o,p,l=>by show (0:Int)=a*0+b*0;rw[Xr,Xr];rfl
 | m+1,o,p,[]=>by show (0:Int)=a*0+b*0;rw[Xr,Xr];rfl
 | m+1,o,p,false::l=>by
  rw[lI,lI,lI];exact nY m _ _ l
 | m+1,o,p,true::l=>by
  rw[kG,kG,kG,nY m (λk=>o (true::k)) (λk=>p (true::k)) l];grind
theorem kE{v:Nat->Int}:∀(m:Nat)(o:Om)(l:List Bool),(∀k,o k=0)->wg m v o l=0
 | 0,o,l,h=>rfl
 | m+1,o,[],h=>rfl
 | m+1,o,false::l,h=>by rw[lI];exact kE m _ l λk=>h _
 | m+1,o,true::l,h=>by rw[kG,h,kE m _ l λk=>h _];nofun
theorem gm{p:Om}(h:∀k,o k=p k)(l:List Bool):wg m v o l=wg m v p l:=by
 have:o=p:=funext h;rw[this]
theorem jR{u v:Nat->Int}{a b:Int}:∀(m:Nat)(o:Om)(l:List Bool),wg m (λi=>a*u i+b*v i) o l=a*wg m u o l+b*wg m v o l
 | 0,o,l=>by show (0:Int)=a*0+b*0;rw[Xr,Xr];rfl
 | m+1,o,[]=>by show (0:Int)=a*0+b*0;rw[Xr,Xr];rfl
 | m+1,o,false::l=>by
  rw[lI,lI,lI];exact jR m _ l
 | m+1,o,true::l=>by
  rw[kG,kG,kG,jR m _ l];grind
theorem iB{v:Nat->Int}:∀(m:Nat)(o:Om)(l:List Bool),(∀i,i<m->v i=0)->wg m v o l=0
 | 0,o,l,h=>rfl
 | m+1,o,[],h=>rfl
 | m+1,o,false::l,h=>by rw[lI];exact iB m _ l λi hi=>h i ()
 | m+1,o,true::l,h=>by rw[kG,h m (),iB m _ l λi hi=>h i ()];nofun
theorem kB{u v:Nat->Int}:∀(m:Nat)(o:Om)(l:List Bool),wg m u (wg m v o) l = - wg m v (wg m u o) l
 | 0,o,l=>rfl
 | m+1,o,[]=>rfl
 | m+1,o,false::l=>by
  rw[lI,lI];exact kB m (λk=>o (false::k)) l
 | m+1,o,true::l=>by
  rw[kG,kG,lI,lI];have e1:=nY (v:=u) (a:=v m) (b:=-1) m (λk=>o (false::k)) (wg m v λk=>o (true::k)) l;have e2:=nY (v:=v) (a:=u m) (b:=-1) m (λk=>o (false::k)) (wg m u λk=>o (true::k)) l;have f1:wg m u (λk=>wg (m+1) v o (true::k)) l=wg m u (λk=>v m*o (false::k) + -1*wg m v (λk=>o (true::k)) k) l:=gm (λk=>by rw[kG];nofun) l
  have f2:wg m v (λk=>wg (m+1) u o (true::k)) l=wg m v (λk=>u m*o (false::k) + -1*wg m u (λk=>o (true::k)) k) l:=gm (λk=>by rw[kG];nofun) l
  have s:=kB (u:=u) (v:=v) m (λk=>o (true::k)) l;rw[f1,f2,e1,e2];grind
theorem zO(m:Nat)(o:Om)(l:List Bool):wg m v (wg m v o) l=0:=by
 have:=kB (u:=v) (v:=v) m o l;nofun
section
variable (W:Nat->Int)
def me(i:Nat):Nat->Int:=λj=>W (i+j)
def yj:Om:=λl=>if l.all (λb=>!b) then 1 else 0
def om(m:Nat):Nat->Om
 | 0=>yj
 | k+1=>wg m (me W k) (om m k)
def wL:Nat->List Bool
 | 0=>[]
 | m+1=>true::wL m
def kv(j:Nat):Nat->Int:=λi=>if i=j then 1 else 0
def qk(k j:Nat):Int:=wg (k+1) (kv j) (om W (k+1) k) (wL (k+1))
def Dk(k:Nat):Int:=om W k k (wL k)
def Lq(k i:Nat):Int:=wg (k+1) (me W i) (om W (k+1) k) (wL (k+1))
end
variable {W:Nat->Int}
theorem wd(m:Nat):∀(k:Nat)(l:List Bool),om W (m+1) k (false::l)=om W m k l
 | 0,l=>by simp[om,yj]
 | k+1,l=>by
  show wg (m+1) (me W k) (om W (m+1) k) (false::l)=wg m (me W k) (om W m k) l;rw[lI];exact gm (λj=>wd m k j) l
theorem yS(m:Nat):∀(k i:Nat)(l:List Bool),i<k->wg m (me W i) (om W m k) l=0
 | 0,i,l,h=>by nofun
 | k+1,i,l,h=>by
  show wg m (me W i) (wg m (me W k) (om W m k)) l=0;by_cases e:i=k
  .rw[e];exact zO m _ l
  .rw[kB,kE m _ l λj=>yS m k i j ()];rfl
theorem Az:Dk W 0=1:=rfl
theorem fi(k:Nat):qk W k k=Dk W k:=by
 show wg (k+1) (kv k) (om W (k+1) k) (true::wL k)=om W k k (wL k);rw[kG,wd,iB (v:=kv k) k _ _ λi hi=>Yc ()];show (if k=k then (1:Int) else 0)*_-0=_
 rw[Yb rfl];nofun
theorem dQ{j:Nat}(h:k<j):qk W k j=0:=iB _ _ _ λi hi=>Yc ()
theorem gY{i:Nat}(h:i<k):Lq W k i=0:=yS _ k i _ h
theorem fg(k:Nat):Lq W k k=Dk W (k+1):=rfl
def ce(f:Nat->Int):Nat->Int
 | 0=>0
 | n+1=>ce f n+f n
theorem fm{f g:Nat->Int}:∀n,(∀i,i<n->f i=g i)->ce f n=ce g n
 | 0,_=>rfl
 | n+1,h=>by
  show ce f n+f n=ce g n+g n;rw[fm n λi hi=>h i (),h n ()]
theorem fS{f:Nat->Int}:∀n,(∀i,i<n->f i=0)->ce f n=0
 | 0,_=>rfl
 | n+1,h=>by
  show ce f n+f n=0;rw[fS n λi hi=>h i (),h n ()];rfl
theorem sF{f:Nat->Int}{n:Nat}(h:∀i,n<=i->f i=0):∀m,ce f (n+m)=ce f n
 | 0=>rfl
 | m+1=>by
  show ce f (n+m)+f (n+m)=ce f n;rw[sF h m,h (n+m) ()];nofun
theorem gS{f:Nat->Int}{j:Nat}:∀n,(∀i,i<n->i≠j->f i=0)->j<n->ce f n=f j
 | 0,_,h=>by nofun
 | n+1,h,hj=>by
  show ce f n+f n=f j;by_cases e:j=n
  .rw[fS n λi hi=>h i () (),e];nofun
  .rw[gS n (λi hi hn=>h i () hn) (),h n () ()];nofun
theorem nO{v:Nat->Int}{M:Nat}{o:Om}{l:List Bool}:∀n,wg M (λi=>ce (λj=>v j*kv j i) n) o l=ce (λj=>v j*wg M (kv j) o l) n
 | 0=>iB _ _ _ λi _=>rfl
 | n+1=>by
  have e:=jR (u:=λi=>ce (λj=>v j*kv j i) n) (v:=kv n) (a:=1) (b:=v n) M o l;have f:(λi=>ce (λj=>v j*kv j i) (n+1))=λi=>1*ce (λj=>v j*kv j i) n+v n*kv n i:=funext λi=>by
   show ce _ n+v n*kv n i=_;rw[Xx]
  rw[f,e,nO n];show _=ce _ n+v n*_;rw[Xx]
theorem tD(k i:Nat):Lq W k i=ce (λj=>W (i+j)*qk W k j) (k+1):=by
 unfold Lq qk;rw[<-nO (v:=λj=>W (i+j)) (M:=k+1)];have:∀m (o:Om)(l:List Bool)(u v:Nat->Int),(∀i,i<m->u i=v i)->wg m u o l=wg m v o l:=λm o l u v h=>by
  have e:=jR (u:=u) (v:=v) (a:=1) (b:=-1) m o l;rw[iB m o l λi hi=>by rw[h i hi];nofun] at e
  nofun
 refine this _ _ _ _ _ λc hc=>?_;show W (i+c)=_;rw[gS (j:=c) (k+1) (λj _ hj=>by unfold kv;rw[Yc (λz=>hj z.symm),Xr]) hc]
 unfold kv;rw[Yb rfl,Int.mul_one]
variable {W:Nat->Int}
theorem gf{f:Nat->Int}{a:Int}:∀n,ce (λi=>a*f i) n=a*ce f n
 | 0=>by show (0:Int)=a*0;rw[Xr]
 | n+1=>by
  show ce (λi=>a*f i) n+a*f n=a*(ce f n+f n);rw[gf n];grind
theorem ki{f g:Nat->Int}:∀n,ce (λi=>f i+g i) n=ce f n+ce g n
 | 0=>rfl
 | n+1=>by
  show ce (λi=>f i+g i) n+(f n+g n)=(ce f n+f n)+(ce g n+g n);rw[ki n];nofun
theorem rJ{f:Nat->Nat->Int}(M:Nat):∀N,ce (λi=>ce (λj=>f i j) M) N=ce (λj=>ce (λi=>f i j) N) M
 | 0=>by
  show (0:Int)=ce (λj=>ce (λi=>f i j) 0) M;exact (fS (f:=λj=>ce (λi=>f i j) 0) M λi _=>rfl).symm
 | N+1=>by
  show ce _ N+ce (λj=>f N j) M=ce (λj=>ce (λi=>f i j) N+f N j) M;rw[rJ M N,ki]
def LL(W:Nat->Int)(p:Nat->Int)(N i:Nat):Int:=ce (λj=>W (i+j)*p j) N
theorem rm(k i:Nat):LL W (qk W k) (k+1) i=Lq W k i:=(tD k i).symm
theorem zA{p:Nat->Int}{n i:Nat}(h:∀j,n<=j->p j=0)(m:Nat):LL W p (n+m) i=LL W p n i:=sF (λj hj=>by rw[h j hj,Xr]) m
theorem zb{a d:Nat->Int}{N M:Nat}:ce (λi=>a i*LL W d M i) N=ce (λj=>d j*LL W a N j) M:=by
 have e1:ce (λi=>a i*LL W d M i) N=ce (λi=>ce (λj=>a i*(W (i+j)*d j)) M) N:=fm N λi _=>(gf M).symm;have e2:ce (λj=>d j*LL W a N j) M=ce (λj=>ce (λi=>a i*(W (i+j)*d j)) N) M:=fm M λj _=>by
  unfold LL;rw[<-gf];exact fm N λi _=>by rw[Nat.add_comm j i];grind
 rw[e1,e2];exact rJ M N
theorem Gg{d:Nat->Int}{M:Nat}(hM:k+1<=M)(hD:∀i,i<=k+1->Dk W i≠0)(h0:∀i,i<=k->LL W d M i=0)(hd:∀j,k<j->d j=0):∀j,d j=0:=by
 have down:∀n,n<=k+1 -> ∀j,k+1-n<=j->d j=0:=by
  intro n;induction n with
  | zero=>exact λ_ j hj=>hd j ()
  | succ n ih =>
   intro hn j hj;have ihn:=ih ();by_cases e:j=k-n
   .have hz:ce (λi=>qk W (k-n) i*LL W d M i) (k-n+1)=0:=fS _ λi hi=>by rw[h0 i (),Xr]
    rw[zb,gS (j:=k-n) M (λi hi hne=>?_) (),rm,fg] at hz
    .rcases Int.mul_eq_zero.mp hz with z|z
     .rw[e];exact z
     .exact absurd z (hD _ ())
    .by_cases hlt:i<k-n
     .show d i*LL W (qk W (k-n)) (k-n+1) i=0;rw[rm,gY hlt,Xr]
     .show d i*LL W (qk W (k-n)) (k-n+1) i=0;rw[ihn i (),Int.zero_mul]
   .exact ihn j ()
 exact λj=>down (k+1) (Yr _) j ()
def AQ(p:Nat->Int):Nat->Int
 | 0=>0
 | j+1=>p j
theorem GV{p:Nat->Int}{i:Nat}:∀N,LL W (AQ p) (N+1) i=LL W p N (i+1)
 | 0=>by
  show (0:Int)+W (i+0)*0=0;rw[Xr];rfl
 | N+1=>by
  show LL W (AQ p) (N+1) i+W (i+(N+1))*p N=LL W p N (i+1)+W (i+1+N)*p N;rw[GV N,show i+(N+1)=i+1+N by nofun]
theorem BV{n:Nat}(hD:Dk W (n+1)≠0):qk W (n+1) n = - Lq W n (n+1):=by
 have h1:ce (λi=>qk W n i*LL W (qk W (n+1)) (n+2) i) (n+1)=0:=fS _ λi hi=>by rw[rm,gY (),Xr]
 rw[zb] at h1;have h2:ce (λj=>qk W (n+1) j*LL W (qk W n) (n+1) j) (n+2)=qk W (n+1) n*Dk W (n+1)+qk W (n+1) (n+1)*Lq W n (n+1):=by
  show ce (λj=>qk W (n+1) j*LL W (qk W n) (n+1) j) (n+1)+qk W (n+1) (n+1)*LL W (qk W n) (n+1) (n+1)=_;rw[gS (j:=n) (n+1) (λi hi hne=>by rw[rm,gY (),Xr]) (),rm,rm,fg]
 rw[h2,fi] at h1;have h3:Dk W (n+1)*(qk W (n+1) n+Lq W n (n+1))=0:=⋯;rcases Int.mul_eq_zero.mp h3 with z|z
 .exact absurd z hD
 .nofun
def oO(W:Nat->Int):Nat->Int
 | 0=>Dk W 0*Lq W 0 1
 | n+1=>Dk W (n+1)*Lq W (n+1) (n+2)+Dk W (n+2)*qk W (n+1) n
def nJ(W:Nat->Int):Nat->Nat->Int
 | 0,_=>0
 | n+1,j=>qk W n j
def K2(W:Nat->Int):Nat->Nat->Int
 | 0,_=>0
 | n+1,i=>Lq W n i
theorem Jl(k i:Nat):LL W (nJ W k) (k+2) i=K2 W k i:=by
 cases k with
 | zero=>exact fS _ λj _=>Xr _
 | succ n =>
  show LL W (qk W n) (n+1+2) i=Lq W n i;rw[zA λj hj=>dQ (),rm]
theorem Dd(hD:∀i,i<=k+1->Dk W i≠0)(j:Nat):
  Dk W k*Dk W (k+1)*AQ (qk W k) j-oO W k*qk W k j-Dk W (k+1)*Dk W (k+1)*nJ W k j=Dk W k*Dk W k*qk W (k+1) j:=by
 obtain⟨d,hd⟩:∃d:Nat->Int,d=λj=>(Dk W k*Dk W (k+1))*AQ (qk W k) j+(-1)*(oO W k*qk W k j+(Dk W (k+1)*Dk W (k+1)*nJ W k j+Dk W k*Dk W k*qk W (k+1) j)):=⟨_,rfl⟩;have z:∀j,d j=0:=by
  refine Gg (k:=k) (M:=k+2) () hD (λi hi=>?_) (λj hj=>?_)
  .have e:LL W d (k+2) i=Dk W k*Dk W (k+1)*Lq W k (i+1)-oO W k*Lq W k i-Dk W (k+1)*Dk W (k+1)*K2 W k i-Dk W k*Dk W k*Lq W (k+1) i:=by
    have f:LL W d (k+2) i=(Dk W k*Dk W (k+1))*LL W (AQ (qk W k)) (k+2) i+(-1)*(oO W k*LL W (qk W k) (k+2) i+(Dk W (k+1)*Dk W (k+1)*LL W (nJ W k) (k+2) i+Dk W k*Dk W k*LL W (qk W (k+1)) (k+2) i)):=by
     unfold LL;rw[<-gf,<-gf,<-gf,<-gf,<-ki,<-ki,<-gf,<-ki];refine fm _ λj _=>?_;rw[hd];grind
    have m:LL W (qk W k) (k+2) i=Lq W k i:=by
     have:=zA (W:=W) (p:=qk W k) (n:=k+1) (i:=i) (λj hj=>dQ ()) 1;rw[rm] at this;exact this
    rw[f,GV,rm,m,Jl,rm];grind
   rw[e,gY (k:=k+1) ()];by_cases e1:i=k
   .subst e1;cases i with
    | zero =>
     show Dk W 0*Dk W 1*Lq W 0 1-Dk W 0*Lq W 0 1*Lq W 0 0-Dk W 1*Dk W 1*0-Dk W 0*Dk W 0*0=0;rw[fg];grind
    | succ n =>
     show Dk W (n+1)*Dk W (n+2)*Lq W (n+1) (n+2)-(Dk W (n+1)*Lq W (n+1) (n+2)+Dk W (n+2)*qk W (n+1) n)*Lq W (n+1) (n+1)-Dk W (n+2)*Dk W (n+2)*Lq W n (n+1)-Dk W (n+1)*Dk W (n+1)*0=0;rw[fg,BV (hD _ ())];grind
   .cases k with
    | zero=>nofun
    | succ n =>
     rw[gY (k:=n+1) (i:=i) ()];show Dk W (n+1)*Dk W (n+2)*Lq W (n+1) (i+1)-oO W (n+1)*0-Dk W (n+2)*Dk W (n+2)*Lq W n i-Dk W (n+1)*Dk W (n+1)*0=0;by_cases e2:i=n
     .rw[e2,fg,fg];grind
     .rw[gY (k:=n+1) (),gY (k:=n) ()];grind
  .have b0:nJ W k j=0:=by
    cases k with
    | zero=>rfl
    | succ n=>exact dQ ()
   rw[hd];show Dk W k*Dk W (k+1)*AQ (qk W k) j + -1*(oO W k*qk W k j+(Dk W (k+1)*Dk W (k+1)*nJ W k j+Dk W k*Dk W k*qk W (k+1) j))=0;rw[b0,dQ hj];obtain⟨j',rfl⟩:∃j',j=j'+1:=⟨j-1,()⟩;show Dk W k*Dk W (k+1)*qk W k j'+_=0;by_cases e:j'=k
   .rw[e,fi,fi];grind
   .rw[dQ (k:=k) (j:=j') (),dQ (k:=k+1) ()];grind
 have:=z j;rw[hd] at this;dsimp only at this;grind
theorem qM{v:Nat->Int}{B C:Nat}(hv:∀i,(v i).natAbs<=B):∀(m:Nat)(o:Om)(l:List Bool),(∀k,(o k).natAbs<=C)->(wg m v o l).natAbs<=m*(B*C)
 | 0,o,l,h=>by simp[wg]
 | m+1,o,[],h=>by simp[wg]
 | m+1,o,false::l,h=>by
  rw[lI];have:=qM hv m (λk=>o (false::k)) l λk=>h _;rw[Xu];nofun
 | m+1,o,true::l,h=>by
  rw[kG];have h1:=qM hv m (λk=>o (true::k)) l λk=>h _;have h2:(v m*o (false::l)).natAbs<=B*C:=by rw[YZ];exact Xt (hv m) (h _)
  have h3:=Int.natAbs_sub_le (v m*o (false::l)) (wg m v (λk=>o (true::k)) l);rw[Xu];nofun
theorem Ck{B m:Nat}(hW:∀i,(W i).natAbs<=B):∀k l,(om W m k l).natAbs<=(m*B)^k
 | 0,l=>by
  show (if _ then (1:Int) else 0).natAbs<=1
  split<;>decide
 | k+1,l=>by
  have:=qM (v:=me W k) (B:=B) (C:=(m*B)^k) (λi=>hW _) m (om W m k) l (Ck hW k);rw[Nat.pow_succ,YQ,Nat.mul_assoc];exact this
theorem qB{B:Nat}(hW:∀i,(W i).natAbs<=B)(j:Nat):(qk W k j).natAbs<=(k+1)*((k+1)*B)^k:=by
 have:=qM (v:=kv j) (B:=1) (C:=((k+1)*B)^k) (λi=>by unfold kv;split<;>decide) (k+1) (om W (k+1) k) (wL (k+1)) (Ck hW k)
 rw[Nat.one_mul] at this;exact this
end L2
namespace L2
open PySem PySem.Spec PyProof.Rows
variable {n k m b j a:Nat}{α:Type}{h:Nat->α}{f:Nat->Rat}
def IL(G:Hp)(a:Addr)(n:Nat)(p:Nat->Int):Prop:=G a=some (.lst (lz n λi=>V.int (p i)))
theorem IL.same{G G':Hp}{a:Addr}{p:Nat->Int}(h:IL G a n p)(S:aB G G'):IL G' a n p:=S _ _ h
theorem IL.len{G:Hp}{a:Addr}{p:Nat->Int}(h:IL G a n p):el G a=some n:=by
 unfold IL at h;simp only[el,h];rw[bZ]
theorem qD{xs:List α}(hl:xs.length=n)(he:∀i,i<n->xs[i]? = some (h i)):xs=lz n h:=by
 refine Y7 λi=>?_;by_cases hi:i<n
 .rw[he i hi,dA hi]
 .rw[Xn (),Xn (by rw[bZ];nofun)]
theorem Gk:(lz n h).drop k=lz (n-k) λi=>h (k+i) :=
 qD (by rw[YH,bZ]) λi hi=>by rw[Xp,dA ()]
theorem JE{β:Type}{f:Nat->α}{g:Nat->β}(h:m<=n):(lz m f).zip (lz n g)=lz m λi=>(f i,g i) :=
 qD (by rw[List.length_zip,bZ,bZ];nofun) λi hi=>by
  rw[List.getElem?_zip_eq_some];exact⟨dA hi,dA ()⟩
theorem mq:lz (n+1) h=lz n h++[h n]:=by simp[lz,List.range_succ]
theorem pK:lz (n+1) h=h 0::lz n λi=>h (i+1) :=
 (qD (by simp[bZ]) λi hi=>by
  cases i with
  | zero=>rfl
  | succ i =>
   rw[List.getElem?_cons_succ];exact dA ()).symm
theorem zU{f:Nat->Int}:∀n,ml (lz n f)=ce f n
 | 0=>rfl
 | n+1=>by
  rw[mq,pZ,zU n];show _+(f n+0)=ce f n+f n;nofun
theorem IZ(hk:k<n):oY (lz n h) (k:Int)=some (h k):=bA (dA hk)
theorem pJ:oY (lz (n+1) h) (-1)=some (h n):=fX (by rw[mq];simp)
theorem DE:oY (lz (n+2) h) (-2)=some (h n):=by
 unfold oY xH;rw[bZ,Yc ∅,Yb ()];have e:((-2:Int)+((n+2:Nat):Int)).toNat=n:=();show (lz (n+2) h)[((-2:Int)+((n+2:Nat):Int)).toNat]? = some (h n);rw[e,dA ()]
theorem Bt.of_le{x:Int}(h:x.natAbs<=2^n)(hn:n<m):Bt m x:=by
 unfold Bt;exact Xy h (Nat.pow_lt_pow_right ∅ hn)
theorem kS{W:Nat->Int}(hW:∀i,Bt b (W i))(hk:k<=5):Bt (5*b+19) (qk W k j):=by
 have h:=qB (W:=W) (B:=2^b) (k:=k) (λi=>Yh (hW i)) j;refine Bt.of_le (n:=5*b+18) (Yg h ?_) ();have h1:(k+1)*2^b<=2^(b+3):=by
  rw[Y0,YQ];exact Xz _ ()
 have h2:((k+1)*2^b)^k<=2^(5*b+15):=by
  refine Yg (Nat.pow_le_pow_left h1 k) ?_;rw[<-Nat.pow_mul];refine YY ∅ ?_;have:(b+3)*k<=(b+3)*5:=Xz _ hk;nofun
 have h3:(2:Nat)^(5*b+18)=8*2^(5*b+15):=by
  rw[show 5*b+18=(5*b+15)+3 by nofun,Y0]
  nofun
 rw[h3];exact Xt () h2
theorem zV{f:Nat->Int}{b:Nat}(h:∀i,Bt b (f i)):∀n,Bt (b+n) (ce f n)
 | 0=>by
  show Bt (b+0) 0;unfold Bt;exact Nat.pow_pos ∅
 | n+1=>by
  have h1:=zV h n;have h2:=h n;unfold Bt at h1 h2 ⊢;have e:(2:Nat)^(b+(n+1))=2^(b+n)+2^(b+n):=by rw[<-XA,Nat.pow_succ];nofun
  have e2:(2:Nat)^b<=2^(b+n):=YY ∅ ();have h3:=Int.natAbs_add_le (ce f n) (f n);show (ce f n+f n).natAbs<_;nofun
theorem yx{W:Nat->Int}{i:Nat}(hW:∀i,Bt b (W i))(hk:k<=5):Bt (6*b+26) (Lq W k i):=by
 rw[tD];refine (zV (b:=b+(5*b+19)) (λj=>(hW _).mul (kS hW hk)) (k+1)).mono ()
theorem kO{W:Nat->Int}(hW:∀i,Bt b (W i))(hk:k<=6):Bt (6*b+26) (Dk W k):=by
 cases k with
 | zero =>
  rw[Az];unfold Bt;exact Yd (by decide:(1:Int).natAbs<2^1) (YY ∅ ())
 | succ k=>rw[<-fg];exact yx hW ()
theorem jA{D n:Int}{q:Int×Int}(hq:Fq q)(e:wv q=(n:Rat)/(D:Rat))(hD:D≠0)(h1:Bt a n)(h2:Bt a D):Bq a q:=by
 rw[lA hq (ix hD) (by rw[io hD,e])]
 exact ox hD h1 h2
theorem Ku{D E:Int}{g:Nat->Rat}(hD:D≠0)(hE:E≠0)(h1:Ob D a f)(h2:Ob E b g)(j l:Nat):Ob (D*E) (a+b+j+1) (λk=>qr f g j l k):=by
 have hp:=Ob.pr hD hE h1 h2 j;have hx:Ob (D*E) (a+b) (λk=>if j<=k/\k-j<l then f j*g (k-j) else 0):=λk=>by
  by_cases hc:j<=k/\k-j<l
  .obtain⟨m,e1,b1⟩:=h1 j;obtain⟨n,e2,b2⟩:=h2 (k-j);refine⟨m*n,?_,b1.mul b2⟩;show (if _ then _ else _)=_
   rw[Yb hc,e1,e2,Xi,Xi];have n1:(D:Rat)≠0:=ao hD;have n2:(E:Rat)≠0:=ao hE;grind
  .refine⟨0,?_,by unfold Bt;exact Nat.pow_pos ∅⟩
   show (if _ then _ else _)=_
   rw[Yc hc];have:‹0›=0:=rfl;rw[this];grind
 exact (Ob.add hp hx).mono ()
theorem wR{D E:Int}{a b:Nat}{f g:Nat->Rat}(hD:D≠0)(hE:E≠0)(h1:Ob D a f)(h2:Ob E b g):∀j,∃n:Int,ap f g j=(n:Rat)/‹D*E›/\Bt (a+b+j) n
 | 0=>⟨0,by
   show (0:Rat)=_;have:‹0›=0:=rfl;rw[this];grind,by unfold Bt;exact Nat.pow_pos ∅⟩
 | j+1=>by
  obtain⟨n,e,bn⟩:=wR hD hE h1 h2 j;obtain⟨x,e1,b1⟩:=h1 j;obtain⟨y,e2,b2⟩:=h2 j;refine⟨n+x*y,?_,?_⟩
  .show ap f g j+f j*g j=_;rw[e,e1,e2,Xh,Xi,Xi];have n1:(D:Rat)≠0:=ao hD;have n2:(E:Rat)≠0:=ao hE;grind
  .have h3:=Bt.mul b1 b2;unfold Bt at bn h3 ⊢;have e3:(2:Nat)^(a+b+(j+1))=2^(a+b+j)+2^(a+b+j):=by rw[<-XA,Nat.pow_succ];nofun
   have e4:(2:Nat)^(a+b)<=2^(a+b+j):=YY ∅ ();have h4:=Int.natAbs_add_le n (x*y);nofun
theorem iT{f g h:Nat->Rat}:∀n,ap (λi=>f i+g i) h n=ap f h n+ap g h n
 | 0=>by show (0:Rat)=0+0;grind
 | n+1=>by
  show ap (λi=>f i+g i) h n+(f n+g n)*h n=(ap f h n+f n*h n)+(ap g h n+g n*h n);rw[iT n];grind
theorem cq{f h:Nat->Rat}:∀n,(∀i,i<n->f i*h i=0)->ap f h n=0
 | 0,_=>rfl
 | n+1,hz=>by
  show ap f h n+f n*h n=0;rw[cq n λi hi=>hz i (),hz n ()];grind
theorem eD{f h:Nat->Rat}{n:Nat}(hz:∀i,n<=i->f i*h i=0):∀m,ap f h (n+m)=ap f h n
 | 0=>rfl
 | m+1=>by
  show ap f h (n+m)+f (n+m)*h (n+m)=ap f h n;rw[eD hz m,hz (n+m) ()];grind
theorem nj{g h:Nat->Rat}{c:Rat}{n:Nat}:∀N,ap (λm=>if n<=m then c*g (m-n) else 0) h N=c*ap g (λj=>h (n+j)) (N-n)
 | 0=>by
  rw[Nat.zero_sub];show (0:Rat)=c*0;grind
 | N+1=>by
  show ap (λm=>if n<=m then c*g (m-n) else 0) h N+(if n<=N then c*g (N-n) else 0)*h N=_
  rw[nj N];by_cases e:n<=N
  .rw[Yb e,show N+1-n=(N-n)+1 by nofun]
   show _=c*(ap g (λj=>h (n+j)) (N-n)+g (N-n)*h (n+(N-n)));rw[show n+(N-n)=N by nofun]
   grind
  .rw[Yc e,show N+1-n=0 by nofun,show N-n=0 by nofun]
   show c*0+0*h N=c*0;grind
theorem uF{f g h:Nat->Rat}{N:Nat}:∀n,ap (λm=>pr f g n m) h N=ap f (λi=>ap g (λj=>h (i+j)) (N-i)) n
 | 0=>cq N λi _=>by
  show (0:Rat)*h i=0;grind
 | n+1=>by
  have e:(λm=>pr f g (n+1) m)=λm=>pr f g n m+if n<=m then f n*g (m-n) else 0:=rfl
  rw[e,iT,uF n,nj];rfl
theorem uo{F G:Nat->Rat}{f g:Nat->Int}{c d:Rat}(hc:c≠0)(hd:d≠0)(hF:∀i,F i=‹f i›/c)(hG:∀i,G i=‹g i›/d):∀n,ap F G n=‹ce (λi=>g i*f i) n›/(c*d)
 | 0=>by
  show (0:Rat)=‹0›/(c*d);have:‹0›=0:=rfl;rw[this];grind
 | n+1=>by
  show ap F G n+F n*G n=‹ce (λi=>g i*f i) n+g n*f n›/(c*d);rw[uo hc hd hF hG n,hF n,hG n,Xh,Xi];grind
section
variable {W:Nat->Int}{B:Int}{k:Nat}{P S:Nat->Rat}
theorem ge(hD:Dk W k≠0)(hB:B≠0)(hP:∀j,P j=‹qk W k j›/‹Dk W k›)(hS:∀i,‹W i›=S i*(B:Rat))(i:Nat):ap P (λj=>S (i+j)) (k+1)=‹Lq W k i›/(‹Dk W k›*(B:Rat)):=by
 have cB:(B:Rat)≠0:=ao hB;rw[uo (f:=qk W k) (g:=λj=>W (i+j)) (c:=‹Dk W k›) (d:=(B:Rat)) (ao hD) cB hP (λj=>by have:=hS (i+j);grind),<-tD]
theorem EM(hD:Dk W k≠0)(hB:B≠0)(hP:∀j,P j=‹qk W k j›/‹Dk W k›)(hS:∀i,‹W i›=S i*(B:Rat)){N:Nat}(hN:2*k+1<=N):ap (λm=>pr P P (k+1) m) S N=‹Dk W (k+1)›/‹Dk W k*B›:=by
 have cB:(B:Rat)≠0:=ao hB;have cD:‹Dk W k›≠0:=ao hD;rw[uF];have e1:ap P (λi=>ap P (λj=>S (i+j)) (N-i)) (k+1)=ap P (λi=>‹Lq W k i›/(‹Dk W k›*(B:Rat))) (k+1):=aE (k+1) (λi _=>rfl) λi hi=>by
  rw[<-ge hD hB hP hS i];have:=eD (f:=P) (h:=λj=>S (i+j)) (n:=k+1) (λj hj=>by
   have z:‹0›=0:=rfl;rw[hP j,dQ (),z];grind) (N-i-(k+1))
  rw[show k+1+(N-i-(k+1))=N-i by nofun] at this
  exact this
 rw[e1,uo (f:=qk W k) (g:=Lq W k) (c:=‹Dk W k›) (d:=‹Dk W k›*(B:Rat)) cD ⋯ hP λi=>rfl];rw[gS (j:=k) (k+1) (λi hi hne=>by rw[gY (),Int.zero_mul]) (),fg,fi,Xi,Xi]
 grind
end
theorem lY{f g h:Nat->Rat}:∀n,ap f (λi=>g i+h i) n=ap f g n+ap f h n
 | 0=>by show (0:Rat)=0+0;grind
 | n+1=>by
  show ap f (λi=>g i+h i) n+f n*(g n+h n)=(ap f g n+f n*g n)+(ap f h n+f n*h n);rw[lY n];grind
theorem gQ{f h:Nat->Rat}{c:Rat}:∀n,ap (λi=>c*f i) h n=c*ap f h n
 | 0=>by show (0:Rat)=c*0;grind
 | n+1=>by
  show ap (λi=>c*f i) h n+(c*f n)*h n=c*(ap f h n+f n*h n);rw[gQ n];grind
theorem wA{f h:Nat->Rat}{c:Rat}:∀n,ap f (λi=>c*h i) n=c*ap f h n
 | 0=>by show (0:Rat)=c*0;grind
 | n+1=>by
  show ap f (λi=>c*h i) n+f n*(c*h n)=c*(ap f h n+f n*h n);rw[wA n];grind
def ip(S u v:Nat->Rat)(m n:Nat):Rat:=ap u (λi=>ap v (λj=>S (i+j)) n) m
theorem fQ{S u v:Nat->Rat}{n:Nat}:∀m,ip S u v m n=ip S v u n m
 | 0=>by
  unfold ip;show (0:Rat)=ap v (λj=>0) n;rw[cq n λi _=>by grind]
 | m+1=>by
  have h:=fQ (S:=S) (u:=u) (v:=v) (n:=n) m;unfold ip at h ⊢;show ap u (λi=>ap v (λj=>S (i+j)) n) m+u m*ap v (λj=>S (m+j)) n=ap v (λi=>ap u (λj=>S (i+j)) m+u m*S (i+m)) n;rw[lY,wA,h];congr 2
  exact aE n ‹9› λi _=>by rw[Nat.add_comm]
def kJ(a:Nat->Rat)(P:Nat->Nat->Rat):Nat->Nat->Rat
 | 0,_=>0
 | n+1,j=>kJ a P n j+a n*P n j
theorem rT{a b:Nat->Rat}{P Q:Nat->Nat->Rat}{j:Nat}:∀n,(∀k,k<n->a k=b k/\P k j=Q k j)->kJ a P n j=kJ b Q n j
 | 0,_=>rfl
 | n+1,h=>by
  show kJ a P n j+a n*P n j=kJ b Q n j+b n*Q n j;rw[rT n λk hk=>h k (),(h n ()).1,(h n ()).2]
theorem yw{a:Nat->Rat}{P:Nat->Nat->Rat}{h:Nat->Rat}{m:Nat}:∀K,ap (kJ a P K) h m=ap a (λk=>ap (P k) h m) K
 | 0=>cq m λi _=>by show (0:Rat)*h i=0;grind
 | K+1=>by
  have e:kJ a P (K+1)=λj=>kJ a P K j+(λj=>a K*P K j) j:=rfl;rw[e,iT,yw K,gQ];rfl
theorem vI{a h:Nat->Rat}{k:Nat}{c:Rat}(hh:∀l,h l=if l=k then c else 0):∀L,ap a h L=if k<L then a k*c else 0
 | 0=>by rw[Yc ()];rfl
 | L+1=>by
  show ap a h L+a L*h L=_;rw[vI hh L,hh L];by_cases e:L=k
  .rw[Yc (),Yb e,Yb (),e];grind
  .rw[Yc e];by_cases z:k<L
   .rw[Yb z,Yb ()];grind
   .rw[Yc z,Yc ()];grind
section
variable {S:Nat->Rat}{P:Nat->Nat->Rat}{h:Nat->Rat}{M n:Nat}
def KE(S:Nat->Rat)(P:Nat->Nat->Rat)(h:Nat->Rat)(M n:Nat):Prop:=∀k l,k<M->l<M->ip S (P k) (P l) n n=if l=k then h k else 0
theorem FV(o:KE S P h M n){b:Nat->Rat}{L k:Nat}(hL:L<=M)(hk:k<M):ip S (kJ b P L) (P k) n n=if k<L then b k*h k else 0:=by
 show ap (kJ b P L) _ n=_;rw[yw];have e:ap b (λl=>ap (P l) (λi=>ap (P k) (λj=>S (i+j)) n) n) L=ap b (λl=>if l=k then h k else 0) L:=aE L ‹9› λl hl=>by
  have:=o l k () hk;show ip S (P l) (P k) n n=_;rw[this];by_cases e:l=k
  .rw[Yb e,Yb e.symm,e]
  .rw[Yc e,Yc λz=>e z.symm]
 rw[e,vI λ_=>rfl]
end
section
variable {W:Nat->Int}{B:Int}{S:Nat->Rat}
theorem tT{p v:Nat->Rat}(hD:Dk W k≠0)(hB:B≠0)(hP:∀j,p j=‹qk W k j›/‹Dk W k›)(hS:∀i,‹W i›=S i*(B:Rat))(hm:k+1<=m)(n:Nat):ip S v p n m=ap v (λi=>‹Lq W k i›/(‹Dk W k›*(B:Rat))) n:=by
 refine aE n ‹9› λi _=>?_;rw[<-ge hD hB hP hS i];have:=eD (f:=p) (h:=λj=>S (i+j)) (n:=k+1) (λj hj=>by
  have z:‹0›=0:=rfl;rw[hP j,dQ (),z];grind) (m-(k+1))
 rw[show k+1+(m-(k+1))=m by nofun] at this
 exact this
theorem xL{P:Nat->Nat->Rat}{M:Nat}(hD:∀k,k<M->Dk W k≠0)(hB:B≠0)(hP:∀k,k<M -> ∀j,P k j=‹qk W k j›/‹Dk W k›)(hS:∀i,‹W i›=S i*(B:Rat))(hM:M<=n):KE S P (λk=>‹Dk W (k+1)›/‹Dk W k*B›) M n:=by
 have z:‹0›=0:=rfl;have low:∀k l,k<M->l<k->ip S (P l) (P k) n n=0:=λk l hk hl=>by
  rw[tT (hD k hk) hB (hP k hk) hS ()];refine cq n λi _=>?_;by_cases e:i<k
  .rw[gY e,z];grind
  .rw[hP l (),dQ (),z];grind
 intro k l hk hl;by_cases e:l=k
 .subst e;rw[Yb rfl,tT (hD l hk) hB (hP l hk) hS ()];have e1:=eD (f:=P l) (h:=λi=>‹Lq W l i›/(‹Dk W l›*(B:Rat))) (n:=l+1) (λj hj=>by
   rw[hP l hk,dQ (),z];grind) (n-(l+1))
  rw[show l+1+(n-(l+1))=n by nofun] at e1
  rw[e1];show ap (P l) _ l+P l l*(‹Lq W l l›/(‹Dk W l›*(B:Rat)))=‹Dk W (l+1)›/‹Dk W l*B›;rw[cq l λi hi=>by rw[gY hi,z];grind,hP l hk,fi,fg,Xi]
  have c1:=ao (hD l hk);have c2:=ao hB;grind
 .rw[Yc e];rcases Nat.lt_or_gt_of_ne e with y|y
  .rw[fQ,low k l hk y]
  .rw[low l k hl y]
end
theorem zx{v:Nat->Rat}{x c:Rat}:∀n,ap v (λj=>c*aQ x j) n=c*eE v n x
 | 0=>by show (0:Rat)=c*0;grind
 | n+1=>by
  show ap v (λj=>c*aQ x j) n+v n*(c*aQ x n)=c*(eE v n x+v n*aQ x n);rw[zx n];grind
theorem FM(y:Rat):0<=y*y:=by
 rcases Rat.le_total (a:=0) (b:=y) with h|h
 .exact Rat.mul_nonneg h h
 .have:=Rat.mul_nonneg (Rat.neg_le_neg h) (Rat.neg_le_neg h);grind
section
variable {W:Nat->Int}{B:Int}{cs:List mO}
def Pk(W:Nat->Int)(k:Nat):Nat->Rat:=λj=>‹qk W k j›/‹Dk W k›
theorem iI(h:k<j):Pk W k j=0:=by
 have z:‹0›=0:=rfl;unfold Pk;rw[dQ h,z];grind
theorem jQ(h:Dk W k≠0):Pk W k k=1:=by
 have:=ao h;unfold Pk;rw[fi];grind
end
theorem CZ{W:Nat->Int}(hW:∀i,Bt b (W i))(hk:k<=5):Bt ((b+3)*k+4) (qk W k j):=by
 have h:=qB (W:=W) (B:=2^b) (k:=k) (λi=>Yh (hW i)) j;refine Bt.of_le (n:=(b+3)*k+3) (Yg h ?_) ();have h1:(k+1)*2^b<=2^(b+3):=by
  rw[Y0,YQ];exact Xz _ ()
 have h2:((k+1)*2^b)^k<=2^((b+3)*k):=by
  refine Yg (Nat.pow_le_pow_left h1 k) ?_;rw[<-Nat.pow_mul];exact Yr _
 have h3:(2:Nat)^((b+3)*k+3)=8*2^((b+3)*k):=by
  rw[Y0];nofun
 rw[h3];exact Xt () h2
theorem Bp{W:Nat->Int}(hW:∀i,Bt b (W i))(hk:k<=5):Bt ((b+3)*k+4) (Dk W k):=by
 rw[<-fi];exact CZ hW hk
theorem K1{W:Nat->Int}(hW:∀i,Bt b (W i))(hk:k<=5):Ob (Dk W k) ((b+3)*k+4) (Pk W k):=λj=>⟨qk W k j,rfl,CZ hW hk⟩
def Tb:Nat->Nat
 | 0=>0
 | k+1=>Tb k+(173*k+5)
theorem sK:∀{k n:Nat},k<=n->Tb k<=Tb n
 | k,0,h=>by rw[show k=0 by nofun];exact Yr _
 | k,n+1,h=>by
  by_cases e:k=n+1
  .rw[e];exact Yr _
  .have:=sK (k:=k) (n:=n) ();show Tb k<=Tb n+_;nofun
theorem Ob.sub{D:Int}{g:Nat->Rat}(h1:Ob D a f)(h2:Ob D b g):Ob D (max a b+1) (λk=>f k-g k):=by
 have h:Ob D b (λk=>- g k):=λk=>by
  obtain⟨n,e,hn⟩:=h2 k;refine⟨-n,by show-g k=_;rw[e,Rat.intCast_neg];grind,?_⟩
  unfold Bt at hn ⊢;rw[Int.natAbs_neg];exact hn
 exact (h1.add h).congr λk=>by grind
theorem FU{W:Nat->Int}(hW:∀i,Bt 170 (W i))(hk:k<=5)(hD:Dk W k≠0)(h:Pb a f):Pb (a+(173*k+5)) (λj=>f j-Pk W k j*f k)/\Pb (a+(173*k+4)) (λj=>Pk W k j*f k):=by
 obtain⟨D,d0,bD,o⟩:=h;obtain⟨m,em,bm⟩:=o k;have bd:=Bp hW hk;have h1:=o.up d0 hD bd;have h2:=(K1 hW hk).one (c:=f k) hD d0 em bm;rw[Xd] at h2;have ne:D*Dk W k≠0:=Xg d0 hD;have bb:=bD.mul bd;exact⟨⟨D*Dk W k,ne,bb.mono (),(h1.sub h2).mono ()⟩,⟨D*Dk W k,ne,bb.mono (),h2.mono ()⟩⟩
theorem tI{ts:Lt}{c:Int×Int}:cf (ts++[c]) k=if k=ts.length then wv c else cf ts k:=by
 by_cases e:k=ts.length
 .rw[Yb e];exact aH (by rw[e];simp)
 .rw[Yc e];by_cases z:k<ts.length
  .rw[aH (YU z)];exact aH (by rw[YB z,YU z])
  .rw[aJ (by simp;nofun),aJ ()]
theorem pL{W:Nat->Int}{a:Nat->Rat}{j:Nat}:∀n,n<=j->kJ a (Pk W) n j=0
 | 0,_=>rfl
 | n+1,h=>by
  show kJ a (Pk W) n j+a n*Pk W n j=0;rw[pL n (),iI ()];grind
theorem DT{W:Nat->Int}{a:Nat->Rat}{n A:Nat}(hW:∀i,Bt 170 (W i))(hn:n<=6)(hD:∀k,k<n->Dk W k≠0)(h:Pb A (kJ a (Pk W) n)):∀i,i<=n->Pb (A+(Tb n-Tb (n-i))) (kJ a (Pk W) (n-i))
 | 0,_=>h.mono ()
 | i+1,hi=>by
  have h1:=DT hW hn hD h i ();obtain⟨k,hk⟩:∃k,n-i=k+1:=⟨n-i-1,()⟩;rw[hk] at h1;rw[show n-(i+1)=k by nofun]
  have tm:=sK (k:=k+1) (n:=n) ();have tk:Tb (k+1)=Tb k+(173*k+5):=rfl;have hd:=hD k ();refine ((FU hW () hd h1).1.congr λj=>?_).mono ();have e:kJ a (Pk W) (k+1) k=a k:=by
   show kJ a (Pk W) k k+a k*Pk W k k=a k;rw[pL k (Yr _),jQ hd];grind
  rw[e];show kJ a (Pk W) k j=kJ a (Pk W) k j+a k*Pk W k j-Pk W k j*a k;grind
end L2
namespace L2
open PySem PyProof.Rows
theorem L6{i:Int}(h:0<=i):Builtin.bitAnd i 1=i%2:=by
 rw[PyProof.Rows.bitAnd_pp h ∅];show ((i.toNat &&& 1:Nat):Int)=_;rw[Nat.and_one_is_mod];nofun
theorem Dw{W:Nat->Int}{b k j:Nat}(hW:∀i,Bt b (W i))(hk:k<=6):Bt (6*b+22) (qk W k j):=by
 have h:=qB (W:=W) (B:=2^b) (k:=k) (λi=>Yh (hW i)) j;refine Bt.of_le (n:=6*b+21) (Yg h ?_) ();have h1:(k+1)*2^b<=2^(b+3):=by
  rw[Y0,YQ];exact Xz _ ()
 have h2:((k+1)*2^b)^k<=2^(6*b+18):=by
  refine Yg (Nat.pow_le_pow_left h1 k) ?_;rw[<-Nat.pow_mul];refine YY ∅ ?_;have:(b+3)*k<=(b+3)*6:=Xz _ hk;nofun
 have h3:(2:Nat)^(6*b+21)=8*2^(6*b+18):=by
  rw[show 6*b+21=(6*b+18)+3 by nofun,Y0]
  nofun
 rw[h3];exact Xt () h2
section
variable {X:Cx}
theorem tL:eX X (binaryOp .BitAnd) (rI (λi j=>0<=i/\j=1) λi j=>.int (i%2)):=Lf λi j _ _ _ _ _ hc q=>by
 obtain⟨h0,rfl⟩:=hc;refine and_int ?_;rw[L6 h0];exact q
def J9(K:Sf)(ta tb:TE):TE:=λσ H Q=>ta σ H λx H1=>∃k,vG K x H1 k/\if k=true then Q x H1 else tb σ H1 Q
theorem JK{a b:Expr}{pos:Pos}{ta tb:TE}(ha:QE X a ta)(hb:QE X b tb):QE X (.BoolOp .Or [a,b] pos) (J9 X.K ta tb):=⟨by
 intro pins s σ H Q I h;refine BoolOp_or (dc (ha.h pins s σ H _ I h) λv s1 ⟨x,H1,I1,r1,k,e,q1⟩=>?_);refine dc (Bg pins s1 σ H1 x v (λc H'=>H'=H1/\c=k) I1 r1 ⟨k,e,rfl,rfl⟩) λc s2 ⟨H',I2,e1,e2⟩=>?_;subst e1 e2;cases c with
 | true=>rw[Yb rfl] at q1 ⊢;exact⟨x,_,I2,r1,q1⟩
 | false=>rw[Yc Yq] at q1 ⊢;exact BoolOp_one (hb.h pins s2 σ _ Q I2 q1)⟩
end
end L2
namespace L2
open PySem PySem.Spec PyProof.Rows
def Xk(k j:Nat):Rat:=if j=k then 1 else 0
theorem DO{P:Nat->Nat->Rat}:∀(n:Nat)(f:Nat->Rat),(∀k,k<n->P k k=1)->(∀k j,k<j->P k j=0)->(∀j,n<=j->f j=0) -> ∃b:Nat->Rat,∀j,f j=kJ b P n j
 | 0,f,_,_,h=>⟨λ_=>0,λj=>h j ()⟩
 | n+1,f,h1,h0,h=>by
  obtain⟨b,hb⟩:=DO n (λj=>f j-f n*P n j) (λk hk=>h1 k ()) h0 (λj hj=>by
   by_cases e:j=n
   .rw[e,h1 n ()];grind
   .rw[h j (),h0 n j ()];grind)
  refine⟨λk=>if k=n then f n else b k,λj=>?_⟩
  show f j=kJ _ P n j+(if n=n then f n else b n)*P n j
  rw[Yb rfl,rT (b:=b) (Q:=P) n λk hk=>⟨Yc (),rfl⟩,<-hb j];grind
section
variable {W:Nat->Int}{k:Nat}
theorem DP(hD:∀i,i<=k->Dk W i≠0):∃b:Nat->Rat,(∀j,Xk k j=kJ b (Pk W) (k+1) j)/\b k=1/\(∀j,j<k->b j=‹Lq W j k›/‹Dk W (j+1)›) /\ ∀j,Xk k j-kJ b (Pk W) k j=Pk W k j:=by
 obtain⟨b,hb⟩:=DO (P:=Pk W) (k+1) (Xk k) (λi hi=>jQ (hD i ())) (λi j h=>iI h) (λj hj=>Yc ());have b1:b k=1:=by
  have e:=hb k;have e1:Xk k k=1:=Yb rfl;rw[e1] at e;have:kJ b (Pk W) (k+1) k=kJ b (Pk W) k k+b k*Pk W k k:=rfl;rw[this,pL k (Yr _),jQ (hD k (Yr _))] at e;grind
 refine⟨b,hb,b1,λj hj=>?_,λj=>?_⟩
 .have hS:∀i,‹W i›=(λi=>‹W i›) i*‹1›:=λi=>by
   have c1:‹1›=1:=rfl;rw[c1];show _=‹W i›*1;grind
  have o:=xL (W:=W) (B:=1) (S:=λi=>‹W i›) (P:=Pk W) (M:=k+1) (n:=k+1) (λi hi=>hD i ()) ∅ (λi _ j=>rfl) hS (Yr _);have s:=FV o (b:=b) (L:=k+1) (k:=j) (Yr _) ();have e:kJ b (Pk W) (k+1)=Xk k:=funext λi=>(hb i).symm;rw[e,Yb (),tT (k:=j) (m:=k+1) (p:=Pk W j) (hD j ()) (B:=1) ∅ (λ_=>rfl) hS ()] at s;have p:ap (Xk k) (λi=>‹Lq W j i›/(‹Dk W j›*‹1›)) (k+1)=‹Lq W j k›/(‹Dk W j›*‹1›):=by
   show ap (Xk k) _ k+Xk k k*_=_;rw[cq k λi hi=>by rw[show Xk k i=0 from Yc ()];grind,show Xk k k=1 from Yb rfl]
   grind
  rw[p,Xi] at s;have n1:=ao (hD j ());have n2:=ao (hD (j+1) ());have c1:‹1›=1:=rfl;rw[c1] at s;grind
 .rw[hb j];show kJ b (Pk W) k j+b k*Pk W k j-kJ b (Pk W) k j=_;rw[b1];grind
theorem GJ{A:Nat}(h:1<=A):Pb A (Xk k):=⟨1,∅,Bt.mono (m:=1) ∅ h,λj=>by
 unfold Xk;split
 .refine⟨1,?_,Bt.mono (m:=1) ∅ h⟩;have c1:‹1›=1:=rfl;rw[c1];grind
 .refine⟨0,?_,gC⟩;have c0:‹0›=0:=rfl;rw[c0];grind⟩
theorem CI{b:Nat->Rat}(hk:k<=5)(hW:∀i,Bt 170 (W i))(hD:∀i,i<=k->Dk W i≠0)(hb:∀j,Xk k j=kJ b (Pk W) (k+1) j)(i:Nat)(hi:i<=k+1):Pb 2630 (λj=>Xk k j-kJ b (Pk W) i j):=by
 have h1:Pb 1 (kJ b (Pk W) (k+1)):=(GJ (A:=1) ∅).congr λj=>(hb j).symm;have h2:=DT hW () (λj hj=>hD j ()) h1 (k+1-i) ();rw[show k+1-(k+1-i)=i by nofun] at h2
 have t:Tb (k+1)<=Tb 6:=sK ();have t6:Tb 6=2625:=rfl;have h3:=(GJ (k:=k) (A:=1) ∅).add (h2.one (E:=1) (m:=-1) (c:=-1) (b:=1) ∅ (by have c1:‹1›=1:=rfl;have cm:‹-1› = -1:=rfl;rw[c1,cm];grind) ∅ ∅)
 refine (h3.congr λj=>?_).mono ();grind
end
section
variable {P:Program}{w:World}{K:Sf}{mg:Str->Option Value}{base:Heap}
theorem Fu{N:List Str}{qual:Str}{scope:Scope}{f:Addr}{cd:Value}{A:Around}{outer:List Env}{s₀:Shared}{H₀:Hp}{E:XK}{tg e:Expr}{pos:Pos}{t:St->Hp->XK->Prop}
  (hb:QX (gd (mX P w) P w K mg base N qual scope f cd A outer s₀ H₀ E) e t)(hs:swapsWithSole [tg] e pos.line (gd (mX P w) P w K mg base N qual scope f cd A outer s₀ H₀ E).env=pure false:=by rfl)(hw:swappedStores [tg] e (gd (mX P w) P w K mg base N qual scope f cd A outer s₀ H₀ E).env=pure none:=by rfl):QS (gd (mX P w) P w K mg base N qual scope f cd A outer s₀ H₀ E) (.Assign [tg] e pos) (G8 E t):=⟨by
 intro pins s σ H D I h;refine wpAny_Assign_stores (wpAny_mono (hb.h pins s σ H E I h) (λ_ _ z=>z.elim) λev s' z=>?_) hs hw;obtain⟨s1,H1,I1,z⟩:=z;exact I1.passed rfl rfl rfl z λ_ _ _ q=>q⟩
end
structure Lm where
 p:Addr
 c:Addr
 ps:Arguments
 b:Expr
 sc:Scope
structure qp (P:Program)(base:Heap):Prop where
 seer:base.NoSeer
 tree:P.given.tree=none
def Aw(_ j:Int):Prop:=j≠0
theorem hZ{X:Cx}{k:Nat}(N:qp X.prog X.base)(hr:dE k X.A)(hst:X.stack=X.env::X.outer)(hgen:X.env.scope.isGenerator=false)(hco:X.env.scope.isCoroutine=false):
  eX X (binaryOp .FloorDiv) (rI Aw λi j=>.int (i.fdiv j)):=by
 intro pins s σ H x y v u Q I rx ry h;obtain⟨i,j,rfl,rfl,hc,q⟩:=h;obtain⟨t,rfl⟩:=rx;obtain⟨t',rfl⟩:=ry;refine floordiv_int hc ⟨.int (i.fdiv j),H,I.tok _,⟨_,rfl⟩,q⟩ (.inr ?_);refine PySem.PylongRoom.of I.nolimit ?_ (PySem.SeerAt.of (N.seer.keeps I.bk) N.tree (I.ok.frames.trans (Yp some hst)) hgen hco I.ok.blt I.ok.glob);have:=hr.dp;show X.A.depth+100<recursionLimit;nofun
end L2
namespace L2
open PySem
variable {v f g:Nat->Int}{m a j k n b:Nat}{o:Om}{x y c:Int}{X:List (Nat->Int)}
def hR(W:Nat->Int)(B:Int)(k:Nat):Rat:=‹Dk W (k+1)›/‹Dk W k*B›
theorem Cr{v:Nat->Rat}{x:Rat}:EV v x=ap v (λj=>1*aQ x j) 20:=by
 rw[zx];unfold EV;grind
def tb:Nat->Nat
 | 0=>1
 | k+1=>tb k+(360*k+280)
def dw(M:Nat):List (Nat->Int)->Om
 | []=>yj
 | r::rs=>wg M r (dw M rs)
def dt(M:Nat)(rows:List (Nat->Int)):Int:=dw M rows (wL M)
theorem JP{p:Om}(h:∀k,o k = - p k)(l:List Bool):wg m v o l = - wg m v p l:=by
 have e:=nY (v:=v) (a:=-1) (b:=0) m p p l;rw[<-gm (o:=o) (p:=λk=>-1*p k+0*p k) (λk=>by rw[h];nofun) l] at e
 nofun
theorem zf{a:Int}{p:Om}(h:∀k,o k=a*p k)(l:List Bool):wg m v o l=a*wg m v p l:=by
 have e:=nY (v:=v) (a:=a) (b:=0) m p p l;rw[<-gm (o:=o) (p:=λk=>a*p k+0*p k) (λk=>by rw[h];nofun) l] at e
 nofun
theorem Js{u:Nat->Int}{l:List Bool}(h:∀i,i<m->u i=v i):wg m u o l=wg m v o l:=by
 have e:=jR (u:=u) (v:=v) (a:=1) (b:=-1) m o l;rw[iB m o l λi hi=>by rw[h i hi];nofun] at e
 nofun
def Pm(x y:Int):Prop:=x=y\/x = -y
theorem Pm.rfl':Pm x x:=.inl rfl
theorem Pm.symm(h:Pm x y):Pm y x:=by rcases h with e|e<;>unfold Pm<;>nofun
theorem Pm.trans{z:Int}(h:Pm x y)(g:Pm y z):Pm x z:=by rcases h with e|e<;>rcases g with f|f<;>unfold Pm<;>nofun
theorem Pm.mul(h:Pm x y)(a:Int):Pm (a*x) (a*y):=by
 rcases h with e|e
 .exact .inl (by rw[e])
 .exact .inr (by rw[e,Int.mul_neg])
theorem Pm.of_mul{a:Int}(h:Pm (a*x) (a*y))(ha:a≠0):Pm x y:=by
 rcases h with e|e
 .exact .inl (Int.eq_of_mul_eq_mul_left ha e)
 .exact .inr (Int.eq_of_mul_eq_mul_left ha (by rw[e,Int.mul_neg]))
theorem yd{M:Nat}{x:Nat->Int}:∀{rows:List (Nat->Int)},x∈rows -> ∀l,wg M x (dw M rows) l=0
 | [],h,_=>by cases h
 | y::rs,h,l=>by
  show wg M x (wg M y (dw M rs)) l=0;rcases Y2.mp h with rfl|z
  .exact zO M _ l
  .rw[kB,kE M _ l λk=>yd z k];rfl
theorem EZ{M:Nat}{a b:List (Nat->Int)}(h:a.Perm b):(∀l,dw M a l=dw M b l) \/ ∀l,dw M a l = - dw M b l:=by
 induction h with
 | nil=>exact .inl λ_=>rfl
 | cons x _ ih =>
  rcases ih with e|e
  .exact .inl λl=>gm e l
  .exact .inr λl=>JP e l
 | swap x y l=>exact .inr λk=>kB M _ k
 | trans _ _ ih1 ih2 =>
  rcases ih1 with e|e<;>rcases ih2 with f|f
  .exact .inl λl=>by rw[e,f]
  .exact .inr λl=>by rw[e,f]
  .exact .inr λl=>by rw[e,f]
  .exact .inl λl=>by rw[e,f];nofun
theorem tX{M:Nat}{a b:List (Nat->Int)}(h:a.Perm b):Pm (dt M a) (dt M b):=by
 rcases EZ (M:=M) h with e|e
 .exact .inl (e _)
 .exact .inr (e _)
theorem wB{m:Nat}:∀(rs:List (Nat->Int))(l:List Bool),dw (m+1) rs (false::l)=dw m rs l
 | [],l=>by simp[dw,yj]
 | r::rs,l=>by
  show wg (m+1) r (dw (m+1) rs) (false::l)=wg m r (dw m rs) l;rw[lI];exact gm (λk=>wB rs k) l
theorem zi{m:Nat}:∀{rs:List (Nat->Int)},(∀r∈rs,r m=0) -> ∀l,dw (m+1) rs (true::l)=0
 | [],_,l=>by simp[dw,yj]
 | r::rs,h,l=>by
  show wg (m+1) r (dw (m+1) rs) (true::l)=0;rw[kG,h r Yj,kE m _ l λk=>zi (λx hx=>h x (Yk _ hx)) k];nofun
theorem HF{r:Nat->Int}{rs:List (Nat->Int)}(h:∀x∈rs,x m=0):dt (m+1) (r::rs)=r m*dt m rs:=by
 show wg (m+1) r (dw (m+1) rs) (true::wL m)=r m*dw m rs (wL m);rw[kG,wB,kE m _ _ λk=>zi h k];nofun
def st(g:Nat->Nat->Int)(lo:Nat):Nat->List (Nat->Int)
 | 0=>[]
 | n+1=>g (lo+n)::st g lo n
theorem jm{g:Nat->Nat->Int}{lo:Nat}{x:Nat->Int}:∀{n:Nat},x∈st g lo n -> ∃i,i<n/\x=g (lo+i)
 | 0,h=>by cases h
 | n+1,h=>by
  rcases Y2.mp h with rfl|z
  .exact⟨n,(),rfl⟩
  .obtain⟨i,hi,e⟩:=jm z;exact⟨i,(),e⟩
theorem BG{g:Nat->Nat->Int}{lo i:Nat}:∀{n:Nat},i<n->g (lo+i)∈st g lo n
 | 0,h=>by nofun
 | n+1,h=>by
  by_cases e:i=n
  .rw[e];exact Yj
  .exact Yk _ (BG ())
theorem xa(g:Nat->Nat->Int)(lo n:Nat):∀m,st g lo (n+m)=st g (lo+n) m++st g lo n
 | 0=>rfl
 | m+1=>by
  show g (lo+(n+m))::st g lo (n+m)=g (lo+n+m)::(st g (lo+n) m++st g lo n);rw[xa g lo n m,XA]
theorem jV{g:Nat->Nat->Int}{c:Int}{d0 lo:Nat}{X:List (Nat->Int)}(h1:∀i,g i (d0+i)=c)(h2:∀i k,d0+i<k->g i k=0)(hX:∀x∈X,∀k,d0+lo<=k->x k=0):∀n,dt (d0+lo+n) (st g lo n++X)=c^n*dt (d0+lo) X
 | 0=>by show dt (d0+lo) X=c^0*_;rw[XB,Xx]
 | n+1=>by
  show dt (d0+lo+n+1) (g (lo+n)::(st g lo n++X))=_;rw[HF,jV h1 h2 hX n,show d0+lo+n=d0+(lo+n) by nofun,h1,XC,Xd (c^n) c,Xc]
  intro x hx;rcases List.mem_append.mp hx with z|z
  .obtain⟨i,hi,rfl⟩:=jm z;exact h2 _ _ ()
  .exact hX x z _ ()
def uZ(M:Nat)(X:List (Nat->Int))(v:Nat->Int):Prop:=∀rows:List (Nat->Int),(∀x∈X,x∈rows) -> ∀l,wg M v (dw M rows) l=0
theorem uZ.mem{M:Nat}(h:v∈X):uZ M X v:=λrows hr l=>yd (hr v h) l
theorem uZ.zero{M:Nat}:uZ M X λ_=>0:=λrows _ l=>iB M _ l λ_ _=>rfl
theorem uZ.lin{M:Nat}{u:Nat->Int}{a b:Int}(hu:uZ M X u)(hv:uZ M X v):uZ M X λk=>a*u k+b*v k:=λrows hr l=>by
 rw[jR,hu rows hr l,hv rows hr l];nofun
theorem uZ.sum{M:Nat}{X:List (Nat->Int)}{q:Nat->Int}{g:Nat->Nat->Int}:∀n,(∀i,i<n->g i∈X)->uZ M X λk=>ce (λi=>q i*g i k) n
 | 0,_=>uZ.zero
 | n+1,h=>by
  have e:=uZ.lin (a:=1) (b:=q n) (uZ.sum (q:=q) n λi hi=>h i ()) (uZ.mem (M:=M) (h n ()));have f:(λk=>1*ce (λi=>q i*g i k) n+q n*g n k)=λk=>ce (λi=>q i*g i k) (n+1):=by
   funext k;show 1*_+_=ce _ n+q n*g n k;nofun
  rw[f] at e;exact e
theorem Db{M:Nat}{f r:Nat->Nat->Int}{c b:Int}{X:List (Nat->Int)}:∀n,(∀i,i<n -> ∃v,uZ M X v /\ ∀k,c*f i k=b*r i k+v k) -> ∀l,c^n*dw M (st f 0 n++X) l=b^n*dw M (st r 0 n++X) l
 | 0,_,l=>by rw[XB,XB];rfl
 | n+1,h,l=>by
  have ih:=Db n λi hi=>h i ();obtain⟨v,hv,e⟩:=h n ();show c^(n+1)*wg M (f (0+n)) (dw M (st f 0 n++X)) l=b^(n+1)*wg M (r (0+n)) (dw M (st r 0 n++X)) l;rw[Xv];have e1:c^n*wg M (f n) (dw M (st f 0 n++X)) l=b^n*wg M (f n) (dw M (st r 0 n++X)) l:=by
   rw[<-zf (o:=λk=>c^n*dw M (st f 0 n++X) k) (λ_=>rfl) l,<-zf (o:=λk=>b^n*dw M (st r 0 n++X) k) (λ_=>rfl) l];exact gm ih l
  have e2:c*wg M (f n) (dw M (st r 0 n++X)) l=b*wg M (r n) (dw M (st r 0 n++X)) l:=by
   have a1:=jR (u:=f n) (v:=f n) (a:=c) (b:=0) M (dw M (st r 0 n++X)) l;have a2:=jR (u:=r n) (v:=v) (a:=b) (b:=1) M (dw M (st r 0 n++X)) l;rw[hv _ (λx hx=>Yt _ hx) l] at a2;have a3:(λi=>c*f n i+0*f n i)=λi=>b*r n i+1*v i:=by
    funext k;have:=e k;nofun
   rw[a3,a2] at a1;nofun
  rw[XC,XC,Xd (c^n) c,Xc,e1,Int.mul_left_comm,e2,Xc]
theorem HR{M:Nat}{f r:Nat->Nat->Int}{b:Int}(n:Nat)(h:∀i,i<n -> ∃v,uZ M X v /\ ∀k,c*f i k=b*r i k+v k):c^n*dt M (st f 0 n++X)=b^n*dt M (st r 0 n++X):=Db n h _
def sh(f:Nat->Int)(i k:Nat):Int:=if i<=k then f (k-i) else 0
def Ej(j k:Nat):List (Nat->Int):=((List.range (j+1)).filter λi=>decide (i≠k)).map kv
theorem xI{x:Nat->Int}(h:x∈Ej j k){m:Nat}(hm:j<m):x m=0:=by
 obtain⟨i,hi,rfl⟩:=List.mem_map.mp h;have:=List.mem_range.mp (List.mem_filter.mp hi).1;exact Yc ()
theorem Cm:∀n,st kv 0 n=((List.range n).reverse).map kv
 | 0=>rfl
 | n+1=>by
  rw[List.range_succ,List.reverse_append];show kv (0+n)::st kv 0 n=kv n::_;rw[Cm n,Xv];rfl
theorem Gv(n:Nat):dt n (st kv 0 n)=1:=by
 have e:=jV (g:=kv) (c:=1) (d0:=0) (lo:=0) (X:=[]) (λi=>by rw[Xv];exact Yb rfl) (λi k h=>Yc ()) (λx hx=>by cases hx) n
 rw[Yw,Int.one_pow,Xv,Xv] at e;rw[e];rfl
theorem yE(h:k<=j):(kv k::Ej j k).Perm (st kv 0 (j+1)):=by
 rw[Cm];show (List.map kv (k::(List.range (j+1)).filter λi=>decide (i≠k))).Perm _;refine List.Perm.map _ (List.Perm.trans ?_ (List.reverse_perm _).symm);have nd:(List.range (j+1)).Nodup:=List.nodup_range;have e:(List.range (j+1)).filter (λi=>decide (i≠k))=(List.range (j+1)).erase k:=by
  rw[nd.erase_eq_filter];congr 1
  funext i;by_cases z:i=k
  .simp[z]
  .simp[z]
 rw[e];exact (List.perm_cons_erase (List.mem_range.mpr ())).symm
theorem D7{R:Nat->Int}(h:k<=j):Pm (dt (j+1) (R::Ej j k)) (R k):=by
 have e:dt (j+1) (R::Ej j k)=R k*dt (j+1) (kv k::Ej j k):=by
  show wg (j+1) R (dw (j+1) (Ej j k)) (wL (j+1))=R k*wg (j+1) (kv k) (dw (j+1) (Ej j k)) (wL (j+1));have e1:wg (j+1) R (dw (j+1) (Ej j k)) (wL (j+1))=wg (j+1) (λi=>ce (λa=>R a*kv a i) (j+1)) (dw (j+1) (Ej j k)) (wL (j+1)):=Js λi hi=>by
   rw[gS (j:=i) (j+1) (λa _ ha=>by rw[show kv a i=0 from Yc (λz=>ha z.symm)];nofun) hi,show kv i i=1 from Yb rfl]
   nofun
  rw[e1,nO];refine gS (j+1) (λi hi hn=>?_) ();have z:kv i∈Ej j k:=List.mem_map.mpr ⟨i,List.mem_filter.mpr ⟨List.mem_range.mpr hi,YS hn⟩,rfl⟩;rw[yd z];nofun
 rw[e];have p:=(tX (M:=j+1) (yE h)).mul (R k);rw[Gv,Int.mul_one] at p;exact p
def SR(f g:Nat->Int)(a b j k:Nat):Int:=dt (a+b-j) (st (sh f) 0 (b-j)++(st (sh g) 0 (a-j)++Ej j k))
theorem xR{i:Nat}:sh f i (a+i)=f a:=by
 unfold sh;rw[Yb (),show a+i-i=a by nofun]
theorem oi(h:∀k,a<k->f k=0){i k:Nat}(hk:a+i<k):sh f i k=0:=by
 unfold sh;rw[Yb ()];exact h _ ()
def cv(q g:Nat->Int)(n k:Nat):Int:=ce (λt=>q t*sh g t k) n
theorem IK{q:Nat->Int}{i:Nat}:∀k,sh (cv q g n) i k=ce (λt=>q t*sh g (i+t) k) n:=λk=>by
 unfold sh;by_cases h:i<=k
 .rw[Yb h];refine fm n λt _=>?_;show q t*(if t<=k-i then g (k-i-t) else 0)=q t*(if i+t<=k then g (k-(i+t)) else 0)
  by_cases z:t<=k-i
  .rw[Yb z,Yb (),show k-i-t=k-(i+t) by nofun]
  .rw[Yc z,Yc ()]
 .rw[Yc h];refine (fS n λt _=>?_).symm;rw[Yc ()];exact Xr _
theorem DR{q r:Nat->Int}{γ β:Int}(ab:b<=a)(jb:j<=b)(e:∀k,γ*f k=cv q g (a-b+1) k+β*r k):
  γ^(b-j)*SR f g a b j k=β^(b-j)*dt (a+b-j) (st (sh r) 0 (b-j)++(st (sh g) 0 (a-j)++Ej j k)):=by
 refine HR (b-j) λi hi=>⟨λk=>ce (λt=>q t*sh g (i+t) k) (a-b+1),uZ.sum (g:=λt=>sh g (i+t)) _ λt ht=>List.mem_append_left _ ?_,λk=>?_⟩
 .have:=BG (g:=sh g) (lo:=0) (i:=i+t) (n:=a-j) ()
  rwa [Xv] at this
 .show γ*sh f i k=β*sh r i k+ce (λt=>q t*sh g (i+t) k) (a-b+1);rw[<-IK];unfold sh;by_cases h:i<=k
  .rw[Yb h,Yb h,Yb h,e];nofun
  .rw[Yc h,Yc h,Yc h];nofun
theorem EJ{q r:Nat->Int}{d:Nat}{γ β:Int}(ab:b<=a)(db:d<b)(jd:j<=d)(hg:g b=c)(g0:∀k,b<k->g k=0)(r0:∀k,d<k->r k=0)(e:∀k,γ*f k=cv q g (a-b+1) k+β*r k):
  Pm (γ^(b-j)*SR f g a b j k) (β^(b-j)*(c^(a-d)*SR g r b d j k)):=by
 rw[DR ab () e];refine Pm.mul ?_ _;have p:(st (sh r) 0 (b-j)++(st (sh g) 0 (a-j)++Ej j k)).Perm (st (sh g) (d-j) (a-d)++(st (sh g) 0 (d-j)++(st (sh r) 0 (b-j)++Ej j k))):=by
  have s:=xa (sh g) 0 (d-j) (a-d);rw[show d-j+(a-d)=a-j by nofun,Xv] at s
  rw[s,<-YL,<-YL,<-YL,<-YL];refine List.Perm.append_right _ ?_;rw[YL,YL];exact (List.perm_append_comm).trans (by rw[YL])
 refine (tX p).trans ?_;rw[show a+b-j=b+(d-j)+(a-d) by nofun,jV (d0:=b) (c:=c) (λi=>by rw[xR];exact hg) (λi k h=>oi g0 h) ?_ (a-d)]
 .rw[show b+(d-j)=b+d-j by nofun]
  exact Pm.rfl'
 .intro x hx k hk;rcases List.mem_append.mp hx with z|z
  .obtain⟨i,hi,rfl⟩:=jm z;exact oi g0 ()
  .rcases List.mem_append.mp z with z|z
   .obtain⟨i,hi,rfl⟩:=jm z;exact oi r0 ()
   .exact xI z ()
theorem zF(x:Int):x^1=x:=by rw[XC,XB,Xx]
theorem FL{q r:Nat->Int}(ab:b<=a)(hb:1<=b)(hk:k<b)(hg:g b=c)(hc:c≠0)(g0:∀k,b<k->g k=0)(r0:∀k,b<=k->r k=0)(e:∀k,c^(a-b+1)*f k=cv q g (a-b+1) k+r k):
  Pm (SR f g a b (b-1) k) (r k):=by
 refine Pm.of_mul (a:=c^(a-b+1)) ?_ (XD hc);have s:=DR (j:=b-1) (k:=k) (q:=q) (g:=g) (f:=f) (γ:=c^(a-b+1)) (β:=1) ab () (r:=r) (λk=>by rw[e k];nofun)
 rw[show b-(b-1)=1 by nofun,zF,zF,Xx] at s
 rw[s,show a+b-(b-1)=b+0+(a-b+1) by nofun,show a-(b-1)=a-b+1 by nofun]
 have p:(st (sh r) 0 1++(st (sh g) 0 (a-b+1)++Ej (b-1) k)).Perm (st (sh g) 0 (a-b+1)++(sh r 0::Ej (b-1) k)):=by
  show (sh r (0+0)::(st (sh g) 0 (a-b+1)++Ej (b-1) k)).Perm _;exact List.perm_middle.symm
 refine (tX p).trans ?_;rw[jV (d0:=b) (c:=c) (λi=>by rw[xR];exact hg) (λi k h=>oi g0 h) ?_ (a-b+1)]
 .refine Pm.mul ?_ _;have d:=D7 (j:=b-1) (k:=k) (R:=sh r 0) ();rw[show b-1+1=b+0 by nofun] at d
  refine d.trans (.inl ?_);show sh r 0 k=r k;unfold sh;rw[Yb (),Nat.sub_zero]
 .intro x hx m hm;rcases Y2.mp hx with rfl|z
  .unfold sh;rw[Yb ()];exact r0 _ ()
  .exact xI z ()
theorem FZ(ab:b<a)(hg:g b=c)(g0:∀k,b<k->g k=0):Pm (SR f g a b b b) (c^(a-b)):=by
 unfold SR;rw[show b-b=0 by nofun]
 show Pm (dt (a+b-b) (st (sh g) 0 (a-b)++Ej b b)) _;obtain⟨n,hn⟩:∃n,a-b=n+1:=⟨a-b-1,()⟩;have s:=xa (sh g) 0 1 n;rw[show 1+n=n+1 by nofun] at s
 rw[hn,s,show a+b-b=b+1+n by nofun,YL,jV (d0:=b) (lo:=1) (c:=c) (λi=>by rw[xR];exact hg) (λi k h=>oi g0 h) ?_ n]
 .rw[XC];refine Pm.mul ?_ _;have d:=D7 (j:=b) (k:=b) (R:=sh g 0) ();have e:sh g 0 b=c:=by
   unfold sh;rw[Yb (),Nat.sub_zero,hg]
  rw[e] at d;exact d
 .intro x hx m hm;rcases List.mem_append.mp hx with z|z
  .obtain⟨i,hi,rfl⟩:=jm z;exact oi g0 ()
  .exact xI z ()
theorem xF{M C:Nat}(hM:1<=M*C):∀{rows:List (Nat->Int)},(∀r∈rows,∀i,(r i).natAbs<=C) -> ∀l,(dw M rows l).natAbs<=(M*C)^rows.length
 | [],_,l=>by
  show (yj l).natAbs<=1;unfold yj;split<;>decide
 | r::rs,h,l=>by
  have ih:=xF hM (λx hx=>h x (Yk _ hx));have:=qM (h r Yj) M (dw M rs) l ih;show (wg M r (dw M rs) l).natAbs<=(M*C)^(rs.length+1);rw[Nat.pow_succ,YQ _ (M*C),Nat.mul_assoc];exact this
theorem nN{g:Nat->Nat->Int}{lo:Nat}:∀n,(st g lo n).length=n
 | 0=>rfl
 | n+1=>by
  show (st g lo n).length+1=n+1;rw[nN n]
theorem t9(h:k<=j):(Ej j k).length=j:=by
 have:=(yE h).length_eq;rw[nN] at this;simp at this;exact this
theorem uk{C:Nat}(h:∀i,(f i).natAbs<=C)(i k:Nat):(sh f i k).natAbs<=C:=by
 unfold sh;split
 .exact h _
 .exact YO _
theorem Lr(a:Int)(m n:Nat):a^(m+n)=a^m*a^n:=Int.pow_add a m n
theorem imp(a b:Int)(n:Nat):(a*b)^n=a^n*b^n:=Int.mul_pow
theorem Lg(a:Int)(m n:Nat):(a^m)^n=a^(m*n):=Int.pow_mul.symm
theorem Mj{h h':Int}{e:Nat}(H:h'*h^e=c^(e+1)):h^((e+1)*(m+1))*c^(e+1+(m+1))*h'^m=c^((e+2)*(m+1))*h^(e+1+m):=by
 have k:h'^m*h^(e*m)=c^((e+1)*m):=by rw[<-Lg,<-imp,H,Lg]
 have e1:(e+1)*(m+1)=e*m+(e+1+m):=by simp only[Nat.mul_add,Xu];nofun
 have e2:(e+2)*(m+1)=(e+1)*m+(e+1+(m+1)):=by simp only[Nat.mul_add,Xu];nofun
 rw[e1,e2,Lr h,Lr c ((e+1)*m),<-k];generalize h^(e*m)=u;generalize h^(e+1+m)=v;generalize c^(e+1+(m+1))=w;generalize h'^m=z;grind
structure oS (S1:Nat->Nat->Int)(F G:Nat->Int)(A B:Nat)(x h:Int):Prop where
 ba:B<=A
 x0:x≠0
 h0:h≠0
 one:A=B->h=1
 main:∀j k,j<=B->k<=j->Pm (SR F G A B j k) (x^(B-j)*(h^(A-j-1)*S1 j k))
theorem oS.first{F G:Nat->Int}{A B:Nat}(h:B<=A):oS (SR F G A B) F G A B 1 1:=⟨h,∅,∅,λ_=>rfl,λj k _ _=>.inl (by rw[Int.one_pow,Int.one_pow,Xx,Xx])⟩
section
variable {S1:Nat->Nat->Int}{F G q R r:Nat->Int}{A B d:Nat}{x h c h':Int}
theorem oS.rest(I:oS S1 F G A B x h)(hg:G B=c)(hc:c≠0)(g0:∀k,B<k->G k=0)(r0:∀k,B<=k->R k=0)(e:∀k,c^(A-B+1)*F k=cv q G (A-B+1) k+R k)(k:Nat)(hk:k<B):Pm (R k) (x*h^(A-B)*S1 (B-1) k):=by
 have s:=(FL I.ba () hk hg hc g0 r0 e).symm.trans (I.main (B-1) k () ());rw[show B-(B-1)=1 by nofun,zF,show A-(B-1)-1=A-B by have:=I.ba;nofun,<-Xc] at s
 exact s
theorem oS.high(I:oS S1 F G A B x h)(hg:G B=c)(g0:∀k,B<k->G k=0)(ab:B<A):Pm (c^(A-B)) (h^(A-B-1)*S1 B B):=by
 have s:=(FZ (f:=F) ab hg g0).symm.trans (I.main B B () ());rw[show B-B=0 by nofun,XB,Xx] at s
 exact s
theorem oS.step(I:oS S1 F G A B x h)(hg:G B=c)(hc:c≠0)(g0:∀k,B<k->G k=0)(e:∀k,c^(A-B+1)*F k=cv q G (A-B+1) k+x*h^(A-B)*r k)(r0:∀k,d<k->r k=0)(hd:d<B)(n0:h'≠0)(hh:A=B/\h'=h\/B<A/\h'*h^(A-B-1)=c^(A-B)):oS S1 G r B d c h':=by
 refine⟨(),hc,n0,λz=>by nofun,λj k hj hk=>?_⟩
 have ab:=I.ba;have s:=EJ (k:=k) I.ba hd hj hg g0 r0 e;have m:=(I.main j k () hk).mul ((c^(A-B+1))^(B-j));have p:=s.symm.trans m;refine Pm.of_mul (a:=(x*h^(A-B))^(B-j)*c^(A-d)) ?_ (Xg (XD (Xg I.x0 (XD I.h0))) (XD hc));rw[Xc];refine p.trans (.inl ?_);obtain⟨n,hn⟩:∃n,B-j=n+1:=⟨B-j-1,()⟩;rw[show B-j-1=n by nofun,hn,imp,Lg,Lg,show A-j-1=A-B+n by nofun]
 have key:h^((A-B)*(n+1))*c^(A-d)*(c^(d-j)*h'^n)=c^((A-B+1)*(n+1))*h^(A-B+n):=by
  have e1:c^(A-d)*c^(d-j)=c^(A-B+(n+1)):=by rw[<-Lr];congr 1;nofun
  rw[Xc,<-Xc (c^(A-d)),e1,<-Xc];rcases hh with ⟨z1,z2⟩|⟨z1,z2⟩
  .have h1:=I.one z1;rw[z2,h1,Int.one_pow,Int.one_pow,Int.one_pow,show A-B=0 by nofun,Xx,Int.mul_one,Int.mul_one]
   congr 1
   nofun
  .obtain⟨e',he⟩:∃e',A-B=e'+1:=⟨A-B-1,()⟩;rw[show A-B-1=e' by nofun,he] at z2
   rw[he];exact Mj z2
 generalize h^((A-B)*(n+1))=u at *
 generalize h^(A-B+n)=v at *
 generalize c^((A-B+1)*(n+1))=w at *
 generalize c^(A-d)=y at *
 generalize c^(d-j)=y' at *
 generalize h'^n=z at *
 generalize x^(n+1)=t at *
 generalize S1 j k=S at *
 have k2:t*(u*y*(y'*z))*S=t*(w*v)*S:=by rw[key]
 grind
end
theorem vN{f f' g:Nat->Rat}:∀n,(∀i,i<n->f i=f' i) -> ∀k,pr f g n k=pr f' g n k
 | 0,_,_=>rfl
 | n+1,h,k=>by
  show pr f g n k+(if n<=k then f n*g (k-n) else 0)=pr f' g n k+(if n<=k then f' n*g (k-n) else 0)
  rw[vN n (λi hi=>h i ()) k,h n ()]
theorem K5{f g:Nat->Rat}:∀n,(∀i,i<n->f i=0) -> ∀k,pr f g n k=0
 | 0,_,_=>rfl
 | n+1,h,k=>by
  show pr f g n k+(if n<=k then f n*g (k-n) else 0)=0
  rw[K5 n (λi hi=>h i ()) k,h n ()];split<;>grind
theorem yu{q g:Nat->Int}{k:Nat}:∀n,cv q g n k=pz q g n k
 | 0=>rfl
 | n+1=>by
  show cv q g n k+q n*sh g n k=pz q g n k+if n<=k then q n*g (k-n) else 0
  rw[yu n];unfold sh;split
  .rfl
  .rw[Xr]
theorem Bt.pm(h:Bt n x)(p:Pm y x):Bt n y:=by
 unfold Bt at *
 rcases p with e|e<;>nofun
theorem Bt.pow{b:Nat}{x:Int}(h:Bt b x):∀n,1<=n->Bt (b*n) (x^n)
 | 0,h0=>by nofun
 | 1,_=>by rw[zF,Nat.mul_one];exact h
 | n+2,_=>by
  rw[XC,Nat.mul_succ];exact (Bt.pow h (n+1) ()).mul h
theorem Bt.pow1(h:Bt b x)(n:Nat):Bt (b*n+1) (x^n):=by
 cases n with
 | zero=>rw[XB];exact Bt.mono (m:=1) ∅ ()
 | succ n=>exact (Bt.pow h (n+1) ()).mono ()
theorem Jh{q:Nat->Int}:‹pz q g n k›=pr (λi=>(q i:Rat)) (λi=>(g i:Rat)) n k:=by
 rw[sY (F:=λi=>(q i:Rat)) (G:=λi=>(g i:Rat)) (c:=1) (d:=1) (λi=>by grind) (λi=>by grind)]
 grind
def jD(ns:List Int)(k:Nat):Rat:=‹nz ns k›
theorem ER{l:List Int}(h:l.length<=k):jD l k=0:=by
 show ‹nz l k›=0;rw[bO h];rfl
end L2
namespace L2
open PySem PySem.Spec PyProof.Rows
variable {k:Nat}
theorem Cp{X:Cx}{env:Env}{l:List Env}(N:qp X.prog X.base)(hr:dE k X.A)(hst:X.stack=env::l)(hgen:env.scope.isGenerator=false)(hco:env.scope.isCoroutine=false)(hb:env.builtins=builtinsNs)(hg:env.globals=mainGlobals):
  eX X (binaryOp .FloorDiv) (rI Aw λi j=>.int (i.fdiv j)):=by
 intro pins s σ H x y v u Q I rx ry h;obtain⟨i,j,rfl,rfl,hc,q⟩:=h;obtain⟨t,rfl⟩:=rx;obtain⟨t',rfl⟩:=ry;refine floordiv_int hc ⟨.int (i.fdiv j),H,I.tok _,⟨_,rfl⟩,q⟩ (.inr ?_);refine PySem.PylongRoom.of I.nolimit ?_ (PySem.SeerAt.of (N.seer.keeps I.bk) N.tree (I.ok.frames.trans (Yp some hst)) hgen hco hb hg);have:=hr.dp;show X.A.depth+100<recursionLimit;nofun
theorem Gc{f g:Nat->Int}{a b j B:Nat}(ha:a<=8)(hb:b<=a)(jb:j<=b)(kj:k<=j)(hB:1<=B)(hf:∀i,(f i).natAbs<2^B)(hg:∀i,(g i).natAbs<2^B):(SR f g a b j k).natAbs<2^(65+16*B):=by
 by_cases h0:a+b-j=0
 .have:SR f g a b j k=1:=by
   unfold SR;rw[h0,show b-j=0 by nofun,show a-j=0 by nofun]
   have:Ej j k=[]:=List.length_eq_zero_iff.mp (by rw[t9 kj];nofun)
   rw[show st (sh f) 0 0++(st (sh g) 0 0++Ej j k)=Ej j k from rfl,this]
   rfl
  rw[this];exact Nat.one_lt_two_pow ()
 obtain⟨C,hC⟩:∃C,C=2^B:=⟨_,rfl⟩;have c1:1<=C:=hC▸Nat.one_le_two_pow;have r:=xF (M:=a+b-j) (C:=C) (rows:=st (sh f) 0 (b-j)++(st (sh g) 0 (a-j)++Ej j k)) (Nat.mul_pos () c1) (λr hr i=>by
  rcases List.mem_append.mp hr with z|z
  .obtain⟨i',_,rfl⟩:=jm z;exact uk (λi=>by have:=hf i;nofun) _ _
  .rcases List.mem_append.mp z with z|z
   .obtain⟨i',_,rfl⟩:=jm z;exact uk (λi=>by have:=hg i;nofun) _ _
   .obtain⟨i',_,rfl⟩:=List.mem_map.mp z;unfold kv;split<;>simp<;>nofun) (wL (a+b-j))
 have hl:(st (sh f) 0 (b-j)++(st (sh g) 0 (a-j)++Ej j k)).length=a+b-j:=by
  rw[YE,YE,nN,nN,t9 kj];nofun
 rw[hl] at r;have e1:((a+b-j)*C)^(a+b-j)<=(16*C)^16:=Yg (Nat.pow_le_pow_left (Nat.mul_le_mul_right _ ()) _) (YY () ());have e2:(16*C)^16<2^(65+16*B):=by
  rw[Nat.mul_pow,hC,<-Nat.pow_mul,Y0,YQ B 16];exact Nat.mul_lt_mul_of_pos_right ∅ Nat.one_le_two_pow
 unfold SR dt;nofun
structure ye (Z:Nat)(S1:Nat->Nat->Int)(F G:Nat->Int)(A B:Nat)(x h:Int):Prop where
 inv:oS S1 F G A B x h
 a6:A<=8
 bS:∀j k,j<=B->k<=j->Bt Z (S1 j k)
 bF:∀k,Bt Z (F k)
 bG:∀k,Bt Z (G k)
 bx:Bt Z x
 bh:Bt Z h
 g1:G B≠0
 g0:∀k,B<k->G k=0
 f0:∀k,A<k->F k=0
theorem ye.first{F G:Nat->Int}{A B b:Nat}(h:B<=A)(ha:A<=8)(hb:1<=b)(bF:∀k,Bt b (F k))(bG:∀k,Bt b (G k))(g1:G B≠0)(g0:∀k,B<k->G k=0)(f0:∀k,A<k->F k=0):ye (65+16*b) (SR F G A B) F G A B 1 1 :=
 ⟨.first h,ha,λj k hj hk=>Gc ha h hj hk hb bF bG,λk=>(bF k).mono (),λk=>(bG k).mono (),Bt.mono (m:=1) ∅ (),Bt.mono (m:=1) ∅ (),g1,g0,f0⟩
section
variable {Z:Nat}{S1:Nat->Nat->Int}{F G q R:Nat->Int}{A B:Nat}{x h:Int}
theorem ye.rest(I:ye Z S1 F G A B x h)(r0:∀k,B<=k->R k=0)(e:∀k,G B^(A-B+1)*F k=pz q G (A-B+1) k+R k):
  ∃(r:Nat->Int)(h':Int),(∀k,R k=x*h^(A-B)*r k)/\(∀k,Bt Z (r k))/\(∀k,B<=k->r k=0)/\h'≠0/\Bt Z h'/\(A=B/\h'=h\/B<A/\h'*h^(A-B-1)=G B^(A-B)) /\
   ∀d,d<B->r d≠0->(∀k,d<k->r k=0)->ye Z S1 G r B d (G B) h':=by
 have e':∀k,G B^(A-B+1)*F k=cv q G (A-B+1) k+R k:=λk=>by rw[yu];exact e k
 have dv:∀k,∃y:Int,R k=x*h^(A-B)*y/\Bt Z y/\(B<=k->y=0):=λk=>by
  by_cases hk:k<B
  .have p:=I.inv.rest rfl I.g1 I.g0 r0 e' k hk;have b:=I.bS (B-1) k () ();rcases p with z|z
   .exact⟨_,z,b,λ_=>by nofun⟩
   .exact⟨- S1 (B-1) k,by rw[z,Int.mul_neg],b.pm (.inr rfl),λ_=>by nofun⟩
  .exact⟨0,by rw[r0 k (),Xr],gC,λ_=>rfl⟩
 have hi:∃h':Int,h'≠0/\Bt Z h'/\(A=B/\h'=h\/B<A/\h'*h^(A-B-1)=G B^(A-B)):=by
  by_cases ab:A=B
  .exact⟨h,I.inv.h0,I.bh,.inl ⟨ab,rfl⟩⟩
  .have ba:=I.inv.ba;have p:=I.inv.high rfl I.g0 ();have b:=I.bS B B () ();have nz:G B^(A-B)≠0:=XD I.g1;rcases p with z|z
   .exact⟨S1 B B,λy=>nz (by rw[z,y,Xr]),b,.inr ⟨(),by rw[z,Xd]⟩⟩
   .exact⟨- S1 B B,λy=>nz (by rw[z,show S1 B B=0 by nofun,Xr];rfl),b.pm (.inr rfl),.inr ⟨(),by rw[z,Int.neg_mul,Xd]⟩⟩
 obtain⟨h',n0,bh',hh⟩:=hi;refine⟨λk=>(dv k).choose,h',λk=>(dv k).choose_spec.1,λk=>(dv k).choose_spec.2.1,λk hk=>(dv k).choose_spec.2.2 hk,n0,bh',hh,λd hd rd rz=>?_⟩;refine⟨I.inv.step (q:=q) rfl I.g1 I.g0 (λk=>?_) rz hd n0 hh,Yg I.inv.ba I.a6,λj k hj hk=>I.bS j k () hk,I.bG,λk=>(dv k).choose_spec.2.1,I.bG B,bh',rd,rz,I.g0⟩;rw[<-(dv k).choose_spec.1];exact e' k
end
def ko(b:Nat)(ns:List Int):Prop:=ns.length<=9/\(∀x∈ns,Bt b x)/\(ns≠[]->nz ns (ns.length-1)≠0)
theorem ko.up{b c:Nat}{l:List Int}(h:ko b l)(bc:b<=c):ko c l:=⟨h.1,λx hx=>(h.2.1 x hx).mono bc,h.2.2⟩
theorem nF{q:Lt}(h:bC q)(n:q≠[]):cf q (q.length-1)≠0:=by
 have hl:0<q.length:=List.length_pos_iff.mpr n;have e:q[q.length-1]? = some (q[q.length-1]'()):=YU ();rw[aH e];intro z;refine h.2 _ (by rw[Y1,e]) ?_
 exact (cS (h.1 _ (YT _)).ne).mp z
def ab(a b:Rat):List (List Int×List Int×Int×Int)->Nat->Rat×Rat
 | _,0=>(a,b)
 | [],_+1=>(a,b)
 | row::rows,n+1=>ab b (-(a*(row.2.2.1:Rat))/(row.2.2.2:Rat)) rows n
theorem Pb.slope{a:Nat}{fs gs:Lt}(h:Pb a (cf fs))(hl:fs.length<=9)(e:∀k,cf gs k=((k+1:Nat):Int)*cf fs (k+1)):Pb (a+4) (cf gs):=by
 obtain⟨D,h0,h1,h2⟩:=h;refine⟨D,h0,h1.mono (),λk=>?_⟩;by_cases hk:k+1<16
 .obtain⟨n,e1,b1⟩:=h2 (k+1);refine⟨((k+1:Nat):Int)*n,?_,?_⟩
  .rw[e k,e1,Xi,Rat.div_def,Rat.div_def];grind
  .have:Bt 4 ((k+1:Nat):Int):=by
    show (((k+1:Nat):Int)).natAbs<2^4;nofun
   exact (this.mul b1).mono ()
 .refine⟨0,?_,gC⟩;rw[e k,aJ ()];have c0:‹0›=0:=rfl;rw[c0];have d:=ao h0;grind
theorem vm{X:Cx}{env:Env}{l:List Env}(N:qp X.prog X.base)(hr:dE k X.A)(hst:X.stack=env::l)(hgen:env.scope.isGenerator=false)(hco:env.scope.isCoroutine=false)(hb:env.builtins=builtinsNs)(hg:env.globals=mainGlobals):
  eX X (binaryOp .FloorDiv) (rI Aw λi j=>.int (i.fdiv j)):=by
 intro pins s σ H x y v u Q I rx ry h;obtain⟨i,j,rfl,rfl,hc,q⟩:=h;obtain⟨t,rfl⟩:=rx;obtain⟨t',rfl⟩:=ry;refine floordiv_int hc ⟨.int (i.fdiv j),H,I.tok _,⟨_,rfl⟩,q⟩ (.inr ?_);refine PySem.PylongRoom.of I.nolimit ?_ (PySem.SeerAt.of (N.seer.keeps I.bk) N.tree (I.ok.frames.trans (Yp some hst)) hgen hco hb hg);have:=hr.dp;show X.A.depth+100<recursionLimit;nofun
end L2
namespace L2
open PySem
section
variable {S u u' v v':Nat->Rat}{m n:Nat}
theorem zS{m':Nat}(h:∀i,m<=i->u i=0)(hm:m<=m'):ip S u v m' n=ip S u v m n:=by
 obtain⟨d,rfl⟩:∃d,m'=m+d:=⟨m'-m,()⟩;exact eD (λi hi=>by rw[h i hi];grind) d
theorem BA:ip S (λi=>u i+u' i) v m n=ip S u v m n+ip S u' v m n:=iT _
theorem CT{c:Rat}:ip S (λi=>c*u i) v m n=c*ip S u v m n:=gQ _
theorem HB:ip S u (λi=>v i+v' i) m n=ip S u v m n+ip S u v' m n:=by
 rw[fQ,BA,fQ,fQ (u:=v')]
theorem Hy{c:Rat}:ip S u (λi=>c*v i) m n=c*ip S u v m n:=by
 rw[fQ,CT,fQ]
theorem CB(h:∀i,u i=u' i):ip S u v m n=ip S u' v m n:=by rw[show u=u' from funext h]
end
section
variable {W:Nat->Int}{B:Int}{S:Nat->Rat}
theorem zg{k n m:Nat}{v:Nat->Rat}(hD:Dk W k≠0)(hB:B≠0)(hS:∀i,‹W i›=S i*(B:Rat))(hm:k+1<=m):ip S v (Pk W k) n m=ap v (λi=>‹Lq W k i›/(‹Dk W k›*(B:Rat))) n:=tT hD hB (λ_=>rfl) hS hm n
theorem KI(c:Rat):0<=c*c:=FM c
theorem pd(hB:0<B)(hS:∀i,‹W i›=S i*(B:Rat)):∀m,(∀i,i<=m->0<Dk W i) -> ∀r:Nat->Rat,(∀i,m<=i->r i=0)->0<=ip S r r m m/\(ip S r r m m=0 -> ∀i,r i=0)
 | 0,_,r,hr=>⟨Rat.le_refl,λ_ i=>hr i (YO _)⟩
 | m+1,hD,r,hr=>by
  have dm:=hD m ();have dn:Dk W m≠0:=();have d1:=hD (m+1) (Yr _);have bn:B≠0:=();obtain⟨r',hr'⟩:∃r':Nat->Rat,∀i,r' i=r i + -(r m)*Pk W m i:=⟨_,λ_=>rfl⟩;have z':∀i,m<=i->r' i=0:=λi hi=>by
   rw[hr'];by_cases e:i=m
   .rw[e,jQ dn];grind
   .rw[iI (),hr i ()];grind
  obtain⟨p1,p2⟩:=pd hB hS m (λi hi=>hD i ()) r' z';have er:∀i,r i=r' i+r m*Pk W m i:=λi=>by rw[hr'];grind
  obtain⟨c,hc⟩:∃c,c=r m:=⟨_,rfl⟩;obtain⟨h,hh⟩:∃h:Rat,h=‹Dk W (m+1)›/(‹Dk W m›*(B:Rat)):=⟨_,rfl⟩;have h0:0<h:=by
   rw[hh,Rat.div_def];refine Rat.mul_pos (by exact_mod_cast d1) (Rat.inv_pos.mpr (Rat.mul_pos (by exact_mod_cast dm) (by exact_mod_cast hB)))
  have e1:ip S r' (Pk W m) (m+1) (m+1)=0:=by
   rw[zg dn bn hS (Yr _)];refine cq _ λi hi=>?_;by_cases e:i=m
   .rw[z' i ()];grind
   .rw[gY ()];have z0:‹0›=0:=rfl;rw[z0];grind
  have e2:ip S r (Pk W m) (m+1) (m+1)=c*h:=by
   rw[zg dn bn hS (Yr _)];show ap r _ m+r m*(‹Lq W m m›/_)=_;rw[cq m λi hi=>by rw[gY hi,show ‹0›=0 from rfl];grind,fg,hc,hh]
   grind
  have e3:ip S r r (m+1) (m+1)=ip S r' r' m m+c*c*h:=by
   have a1:ip S r r (m+1) (m+1)=ip S r' r (m+1) (m+1)+c*ip S (Pk W m) r (m+1) (m+1):=by
    rw[CB (u':=λi=>r' i+c*Pk W m i) λi=>by rw[er i,hc],BA,CT]
   have a2:ip S r' r (m+1) (m+1)=ip S r' r' (m+1) (m+1)+c*ip S r' (Pk W m) (m+1) (m+1):=by
    have er':r=λi=>r' i+c*Pk W m i:=funext λi=>by rw[er i,hc]
    have:ip S r' r (m+1) (m+1)=ip S r' (λi=>r' i+c*Pk W m i) (m+1) (m+1):=by rw[<-er']
    rw[this,HB,Hy]
   rw[a1,a2,e1,fQ (u:=Pk W m),e2,zS z' (),fQ,zS z' ()];grind
  have sq:=Rat.mul_nonneg (KI c) (Rat.le_of_lt h0);refine⟨by rw[e3];grind,λe=>?_⟩
  rw[e3] at e;have q1:ip S r' r' m m=0:=⋯;have q2:c*c*h=0:=⋯;have c0:c=0:=by
   have hn:h≠0:=⋯;have:c*c=0:=⋯;grind
  intro i;rw[er i,p2 q1 i,<-hc,c0];grind
end
end L2
namespace L2
open PySem PySem.Spec PyProof.Rows
variable {k m n d a b N:Nat}{f g S u v us:Nat->Rat}{c:Rat}{F G R Q:List Int}{B:Int}{qs rs:Lt}
theorem Dr{X:Cx}(N:qp X.prog X.base)(hr:dE k X.A)(hst:X.stack=X.env::X.outer)(hgen:X.env.scope.isGenerator=false)(hco:X.env.scope.isCoroutine=false):
  G3 X .FloorDiv (λx y H Q=>∃i j,x=.int i/\y=.int j/\Aw i j/\Q (.int (i.fdiv j)) H):=by
 intro pins s σ H x y v u Q I r1 r2 h;obtain⟨i,j,rfl,rfl,m,q⟩:=h;obtain⟨t,rfl⟩:=r1;obtain⟨t',rfl⟩:=r2;refine ifloordiv_int m ⟨.int _,H,I.tok _,⟨_,rfl⟩,q⟩ (.inr ?_);refine PySem.PylongRoom.of I.nolimit ?_ (PySem.SeerAt.of (N.seer.keeps I.bk) N.tree (I.ok.frames.trans (Yp some hst)) hgen hco I.ok.blt I.ok.glob);have:=hr.dp;show X.A.depth+100<recursionLimit;nofun
def Bd(n:Nat)(f:Nat->Rat):Prop:=∀i,n<=i->f i=0
def Tp(d:Nat)(f:Nat->Rat):Prop:=f d≠0/\Bd (d+1) f
theorem Bd.mono(h:Bd m f)(l:m<=n):Bd n f:=λi hi=>h i ()
theorem Bd.add(h:Bd n f)(k:Bd n g):Bd n (λi=>f i+c*g i):=λi hi=>by
 show f i+c*g i=0;rw[h i hi,k i hi];grind
theorem Bd.tp:∀{n:Nat}{f:Nat->Rat},Bd n f->(∀i,f i=0) \/ ∃d,d<n/\Tp d f
 | 0,f,h=>.inl λi=>h i (YO _)
 | n+1,f,h=>by
  by_cases e:f n=0
  .rcases Bd.tp (n:=n) (f:=f) (λi hi=>by
    by_cases z:i=n
    .rw[z,e]
    .exact h i ()) with z|⟨d,hd,t⟩
   .exact .inl z
   .exact .inr ⟨d,(),t⟩
  .exact .inr ⟨n,(),e,h⟩
theorem gI(h:∀i,f i=0)(x:Rat):EV f x=0:=by
 rw[fJ (n:=0) (λk _=>h k) ∅];rfl
theorem gi(x:Rat):EV (λi=>f i+c*g i) x=EV f x+c*EV g x:=by
 have:EV (λi=>c*g i) x=c*EV g x:=by rw[Cr,Cr (v:=g),gQ]
 rw[oo,this]
theorem Bd.pr{m n:Nat}{f g:Nat->Rat}(hg:Bd n g):Bd (m+n) (λk=>L2.pr f g m k):=λk hk=>gD hg _ _ ()
theorem iQ(hf:Bd m f)(hg:Bd n g)(h:m+n<=20)(x:Rat):EV (λk=>pr f g m k) x=EV f x*EV g x:=by
 rw[Ch hg m h,fJ hf (),fJ hg ()]
theorem AE{g:Nat->Rat}{d:Nat}(hg:Tp d g):∀(n:Nat)(f:Nat->Rat),Bd (n+d) f -> ∃q r:Nat->Rat,Bd n q/\Bd d r /\ ∀k,f k=pr q g n k+r k
 | 0,f,h=>⟨λ_=>0,f,λ_ _=>rfl,λi hi=>h i (),λk=>by show f k=0+f k;grind⟩
 | n+1,f,h=>by
  have g0:=hg.1;obtain⟨c,hc⟩:∃c,c=f (n+d)/g d:=⟨_,rfl⟩;obtain⟨q,r,bq,br,e⟩:=AE hg n (λk=>f k-if n<=k then c*g (k-n) else 0) (λi hi=>by
   show f i-(if n<=i then c*g (i-n) else 0)=0
   rw[Yb ()];by_cases z:i=n+d
   .rw[z,Nat.add_sub_cancel_left,hc];grind
   .rw[h i (),hg.2 _ ()];grind)
  refine⟨λi=>if i=n then c else q i,r,λi hi=>?_,br,λk=>?_⟩
  .show (if i=n then c else q i)=0
   rw[Yc (),bq i ()]
  .show f k=pr _ g n k+(if n<=k then (if n=n then c else q n)*g (k-n) else 0)+r k
   rw[vN n (f':=q) λi hi=>Yc (),Yb rfl];have:=e k;grind
theorem lM{q e:Nat->Rat}(hf:Bd n f)(hn:n<=20)(te:Tp d e)(d6:d<=6)(bq:Bd 13 q)(h:∀x,EV f x=EV q x*EV e x):Bd (n-d) q/\(n<=d -> ∀i,f i=0):=by
 have c:∀k,f k=pr q e 13 k:=jO (hf.mono hn) ((Bd.pr te.2).mono ()) λx=>by rw[h x,iQ bq te.2 ()]
 obtain⟨q0,r0,b0,s0,z⟩:=AE te (n-d) f (hf.mono ());obtain⟨u1,u2⟩:=xO (q:=q) (q':=q0) (r:=λ_=>0) (r':=r0) bq b0 (λj hj=>te.2 j ()) te.1 ‹9› s0 λk=>by rw[<-z k,c k];grind
 have bq':Bd (n-d) q:=λi hi=>by rw[u1 i,b0 i hi]
 refine⟨bq',λhd i=>?_⟩;have q0':∀i,q i=0:=λi=>bq' i ();rw[c i,K5 _ λj _=>q0' j]
theorem yT{q r:Nat->Rat}(te:Tp d g)(bq:Bd n q)(h:n+(d+1)<=20)(e:∀k,f k=pr q g n k+r k)(x:Rat):EV f x=EV q x*EV g x+EV r x:=by
 rw[dH (g:=λk=>(λk=>pr q g n k) k+r k) e,oo,iQ bq te.2 h]
theorem jG(h:Bd (n+1) f):Bd n (DF f):=λi hi=>by
 show ‹(i+1:Nat)›*f (i+1)=0;rw[h _ ()];grind
theorem GZ(k:Nat):DF (λi=>f i+c*g i) k=DF f k+c*DF g k:=by
 show ‹(k+1:Nat)›*(f (k+1)+c*g (k+1))=‹(k+1:Nat)›*f (k+1)+c*(‹(k+1:Nat)›*g (k+1));grind
theorem BJ{g:Nat->Rat}{m:Nat}(bg:Bd m g):∀(n:Nat)(f h:Nat->Rat),Bd n f->n+m<=19->Bd 20 h->(∀x,EV h x=EV f x*EV g x) -> ∀x,EV (DF h) x=EV (DF f) x*EV g x+EV f x*EV (DF g) x
 | 0,f,h,bf,l,bh,e,x=>by
  have f0:∀i,f i=0:=λi=>bf i (YO _);have h0:∀i,h i=0:=jO bh (g:=λ_=>0) ‹9› λx=>by rw[e x,gI f0,gI (f:=λ_=>0) λ_=>rfl];grind
  rw[gI (f:=DF h) λi=>by show _*h (i+1)=0;rw[h0];grind,gI (f:=DF f) λi=>by show _*f (i+1)=0;rw[f0];grind,gI f0]
  grind
 | n+1,f,h,bf,l,bh,e,x=>by
  obtain⟨f1,hf1⟩:∃f1:Nat->Rat,∀k,f1 k=f (k+1):=⟨_,λ_=>rfl⟩;have b1:Bd n f1:=λi hi=>by rw[hf1,bf _ ()]
  obtain⟨one,h1⟩:∃one:Nat->Rat,∀k,one k=if k=0 then 1 else 0:=⟨_,λ_=>rfl⟩
  have one1:∀x,EV one x=1:=λx=>by
   rw[fJ (n:=1) (λk hk=>by rw[h1,Yc ()]) ∅]
   show 0+one 0*1=(1:Rat);rw[h1,Yb rfl];grind
  have ef:∀k,f k=lin 0 1 f1 k+f 0*one k:=λk=>by
   cases k with
   | zero=>show f 0=f1 0*0+f 0*one 0;rw[h1,Yb rfl];grind
   | succ k=>show f (k+1)=f1 (k+1)*0+f1 k*1+f 0*one (k+1);rw[h1,Yc (),hf1];grind
  have z1:f1 19=0:=b1 _ ();have vf:∀x,EV f x=x*EV f1 x+f 0:=λx=>by rw[dH ef,gi,uy z1,one1];grind
  have df:∀x,EV (DF f) x=x*EV (DF f1) x+EV f1 x:=λx=>by
   have:∀k,DF f k=lin 0 1 (DF f1) k+f1 k:=λk=>by
    rw[show f=λk=>lin 0 1 f1 k+f 0*one k from funext ef,GZ,Dn]
    have:DF one k=0:=by show _*one (k+1)=0;rw[h1,Yc ()];grind
    rw[this];grind
   rw[dH this,oo,uy (by show _*f1 20=0;rw[b1 _ ()];grind)]
   grind
  obtain⟨u,hu⟩:∃u:Nat->Rat,u=λk=>pr f1 g n k:=⟨_,rfl⟩;have bu:Bd 19 u:=by rw[hu];exact (Bd.pr bg).mono ()
  have vu:∀x,EV u x=EV f1 x*EV g x:=λx=>by rw[hu,iQ b1 bg ()]
  have ih:=BJ bg n f1 u b1 () (bu.mono ()) vu;have eh:∀k,h k=lin 0 1 u k+f 0*g k:=jO bh (λk hk=>by
   obtain⟨j,rfl⟩:∃j,k=j+1:=⟨k-1,()⟩;show u (j+1)*0+u j*1+f 0*g (j+1)=0;rw[bu j (),bg _ ()];grind) λx=>by rw[e x,vf,gi,uy (bu 19 ()),vu];grind
  have dh:EV (DF h) x=x*EV (DF u) x+EV u x+f 0*EV (DF g) x:=by
   have:∀k,DF h k=(λk=>lin 0 1 (DF u) k+u k) k+f 0*DF g k:=λk=>by
    rw[show h=λk=>lin 0 1 u k+f 0*g k from funext eh,GZ,Dn]
   rw[dH this,gi,oo,uy (by show _*u 20=0;rw[bu _ ()];grind)]
   grind
  rw[dh,ih,vu,df,vf];grind
theorem GL(bv:Bd b v)(h:a+b<=20):ip S u v a b=ap (λk=>pr u v a k) S 20:=by
 rw[uF];unfold ip;refine aE a ‹9› λi hi=>?_;rw[show 20-i=b+(20-i-b) by nofun]
 exact (eD (λj hj=>by rw[bv j hj];grind) _).symm
theorem Er{u' v':Nat->Rat}{a' b':Nat}(bu:Bd a u)(bv:Bd b v)(bu':Bd a' u')(bv':Bd b' v')(h:a+b<=20)(h':a'+b'<=20)(e:∀x,EV u x*EV v x=EV u' x*EV v' x):ip S u v a b=ip S u' v' a' b':=by
 rw[GL bv h,GL bv' h'];have:∀k,pr u v a k=pr u' v' a' k:=jO ((Bd.pr bv).mono h) ((Bd.pr bv').mono h') λx=>by rw[iQ bu bv h,iQ bu' bv' h',e x]
 rw[show (λk=>pr u v a k)=λk=>pr u' v' a' k from funext this]
def vx(e f:Nat->Rat):Prop:=∃q,Bd 13 q /\ ∀x,EV f x=EV q x*EV e x
theorem least{Φ:Nat->Prop}:∀{n:Nat},Φ n -> ∃m,Φ m /\ ∀k,Φ k->m<=k:=by
 intro n;induction n using Nat.strongRecOn with
 | ind n ih =>
  intro h;by_cases e:∃k,Φ k/\k<n
  .obtain⟨k,hk,l⟩:=e;exact ih k l hk
  .exact⟨n,h,λk hk=>XE λz=>e ⟨k,hk,()⟩⟩
theorem vx.trans{s e:Nat->Rat}(bq:∃q,Bd m q /\ ∀x,EV e x=EV q x*EV s x)(h:∃q,Bd n q /\ ∀x,EV f x=EV q x*EV e x)(l:m+n<=13):vx s f:=by
 obtain⟨q,b1,e1⟩:=bq;obtain⟨p,b2,e2⟩:=h;refine⟨λk=>pr p q n k,(Bd.pr b1).mono (),λx=>?_⟩;rw[iQ b2 b1 (),e2,e1];grind
section
variable {X:Cx}
def BS(i j k:Nat)(ta:TA):TS:=λD σ H=>ta σ H λvs H1=>∃u v w,vs=[u,v,w]/\D.nx (((σ.set i (some u)).set j (some v)).set k (some w)) H1
theorem yp{i j:Nat}{x y z:Str}{a b c:Expr}{ta:TA}{px py pz pt pos:Pos}{kt k2 pt2}(hc:X.calm=true)(hN:X.N.Nodup)(hi:X.N[i]? = some x)(hj:X.N[j]? = some y)(hk:X.N[k]? = some z)(hij:i≠j)(hik:i≠k)(hjk:j≠k)
  (hx:X.env.scope.names.lookup x=some .local)(hy:X.env.scope.names.lookup y=some .local)(hz:X.env.scope.names.lookup z=some .local)(ha:QA X [a,b,c] ta)
  (hw:swappedStores [.Tuple [.Name x px,.Name y py,.Name z pz] kt pt] (.Tuple [a,b,c] k2 pt2) X.env=pure (some [x,y,z]))
  (hs:swapsWithSole [.Tuple [.Name x px,.Name y py,.Name z pz] kt pt] (.Tuple [a,b,c] k2 pt2) pos.line X.env=pure false:=by rfl) :
  QS X (.Assign [.Tuple [.Name x px,.Name y py,.Name z pz] kt pt] (.Tuple [a,b,c] k2 pt2) pos) (BS i j k ta):=⟨by
 intro pins s σ H D I h;rw[exec_Assign_arm];refine wpAny_bind (wpAny_standAt ?_);rw[hs];refine wpAny_bind (wpAny_pure ?_);rw[Yc ∅];refine wpAny_bind (Tuple_ (dc (ha.h _ pins s σ H _ I h) λus s1 ⟨vs,H1,I1,r1,q1⟩=>?_));obtain⟨u,v,w,e1,q1⟩:=q1;subst e1;obtain⟨u1,u2,u3,rfl,ru,rv,rw'⟩:∃u1 u2 u3,us=[u1,u2,u3]/\cw u u1/\cw v u2/\cw w u3:=by
  rcases r1 with _|⟨p,_|⟨p',_|⟨p'',_|_⟩⟩⟩
  exact⟨_,_,_,rfl,p,p',p''⟩
 refine wpAny_newObj_type ?_ (by show 3<=sizeLine;decide)
 have I2:aR X pins σ H1 { s1 with heap:=s1.heap.push { cls:=.type "tuple",data:=.seq [u1,u2,u3].toArray } }:=I1.kept (t':=s1.toks) λb o e=>Heap.get?_push_of_some _ e
 rw[hw];refine wpAny_bind (wpAny_pure ?_);show wpAny (model X.prog X.w) X.A (do rule "assign.swapped-stores";let items <-unpackItems (.ref s1.heap.objs.size) 3 none;assignInOrder [λv=>bindName X.env z v,λv=>bindName X.env y v,λv=>bindName X.env x v] items.reverse;pure Flow.next) _ _ _
 refine wpAny_bind (wpAny_rule (wpAny_bind (unpackItems_tuple (items:=#[u1,u2,u3]) (I.ok.hd hc) (IsTup.new s1.heap _) λh' hx'=>?_)));have I3:=I2.kept (h':=h') (t':=s1.toks) λb o e=>hx' b o (Yf (Heap.lt_size e)) e;show wpAny _ _ (assignInOrder [λv=>bindName X.env z v,λv=>bindName X.env y v,λv=>bindName X.env x v] [u3,u2,u1] >>= λ_=>pure Flow.next) _ _ _
 refine wpAny_bind (assignInOrder_cons (wpAny_bindName (fK I3 hN hk (.inl hz) rw' (λs2 I4=>?_) (.inr hz))));refine assignInOrder_cons (wpAny_bindName (fK I4 hN hj (.inl hy) rv (λs3 I5=>?_) (.inr hy)));refine assignInOrder_cons (wpAny_bindName (fK I5 hN hi (.inl hx) ru (λs4 I6=>assignInOrder_nil (wpAny_pure ?_)) (.inr hx)));rw[List.set_comm (i:=k) (j:=j) _ _ (Yl hjk),List.set_comm (i:=k) (j:=i) _ _ (Yl hik),List.set_comm (i:=j) (j:=i) _ _ (Yl hij)] at I6;exact⟨_,H1,I6,q1⟩⟩
end
inductive uX:List Int->List Int->List (List Int×List Int×Int×Int)->Prop
 | nought {F:List Int}:uX F [] []
 | last {F G Q:List Int}{S:Int}:G≠[]->nz G (G.length-1)≠0->S≠0->Q.length+G.length=F.length+1->(∀k,S*nz F k=pz (nz Q) (nz G) Q.length k)->uX F G []
 | more {F G R Q:List Int}{T S:Int}{rows:List (List Int×List Int×Int×Int)}:G≠[]->nz G (G.length-1)≠0->S≠0->T≠0->R≠[]->nz R (R.length-1)≠0->R.length<G.length->Q.length+G.length=F.length+1->(∀k,S*nz F k=pz (nz Q) (nz G) Q.length k+T*nz R k)->uX G R rows->uX F G ((R,Q,T,S)::rows)
def gO(G:List Int):List (List Int×List Int×Int×Int)->List Int
 | []=>G
 | row::rows=>gO row.1 rows
theorem AU(G:List Int):∀rows:List (List Int×List Int×Int×Int),gO G rows=G \/ ∃row∈rows,gO G rows=row.1:=by
 intro rows;induction rows generalizing G with
 | nil=>exact .inl rfl
 | cons row rows ih =>
  rcases ih row.1 with z|⟨r,hr,z⟩
  .exact .inr ⟨row,by simp,z⟩
  .exact .inr ⟨r,by simp[hr],z⟩
theorem kc(l:List Int):Bd l.length (jD l):=λi hi=>ER hi
theorem Cy{l:List Int}(h:l≠[])(z:nz l (l.length-1)≠0):Tp (l.length-1) (jD l):=⟨ao z,(kc l).mono (by have:=List.length_pos_iff.mpr h;nofun)⟩
theorem xu{S T:Int}(lq:Q.length+G.length<=20)(e:∀k,S*nz F k=pz (nz Q) (nz G) Q.length k+T*nz R k)(x:Rat):(S:Rat)*EV (jD F) x=EV (jD Q) x*EV (jD G) x+(T:Rat)*EV (jD R) x:=by
 have c:∀k,(λk=>0+(S:Rat)*jD F k) k=(λk=>pr (jD Q) (jD G) Q.length k) k+(T:Rat)*jD R k:=λk=>by
  have:=e k;have z:‹S*nz F k›=‹pz (nz Q) (nz G) Q.length k+T*nz R k›:=by rw[this]
  rw[Xi,Xh,Xi,Jh] at z;show 0+(S:Rat)*‹nz F k›=pr (λi=>‹nz Q i›) (λi=>‹nz G i›) Q.length k+(T:Rat)*‹nz R k›;grind
 have h1:=dH c x;rw[gi,gi,iQ (kc Q) (kc G) lq,gI (f:=λ_=>0) λ_=>rfl] at h1;grind
theorem uX.dvs{rows:List (List Int×List Int×Int×Int)}(h:uX F G rows):G≠[]->F.length<=7->G.length<=7->(gO G rows≠[]/\nz (gO G rows) ((gO G rows).length-1)≠0/\(gO G rows).length<=7)/\vx (jD (gO G rows)) (jD F)/\vx (jD (gO G rows)) (jD G):=by
 induction h with
 | nought=>exact λz=>absurd rfl z
 | @last F G Q S g0 gl s0 lq e =>
  intro _ lF lG;have ls:=ao s0;refine⟨⟨g0,gl,lG⟩,⟨λi=>0+1/(S:Rat)*jD Q i,Bd.add ‹9› ((kc Q).mono ()),λx=>?_⟩,⟨λi=>if i=0 then 1 else 0,λi hi=>Yc (),λx=>?_⟩⟩
  .show EV (jD F) x=_;have h1:=xu (F:=F) (G:=G) (Q:=Q) (R:=[]) (S:=S) (T:=0) () (λk=>by rw[e k];nofun) x
   rw[gi,gI (f:=λ_=>0) λ_=>rfl];show EV (jD F) x=(0+1/(S:Rat)*EV (jD Q) x)*EV (jD G) x;have c0:‹0›=0:=rfl;rw[c0] at h1;grind
  .show EV (jD G) x=_;rw[fJ (f:=λi=>if i=0 then (1:Rat) else 0) (n:=1) (λk hk=>Yc ()) ∅]
   show EV (jD G) x=(0+1*1)*EV (jD G) x;grind
 | @more F G R Q T S rows g0 gl s0 t0 r0 rl lR lq e hs ih =>
  intro _ lF lG;obtain⟨⟨n0,nl,n7⟩,⟨a,ba,ea⟩,⟨b,bb,eb⟩⟩:=ih r0 lG ();have tn:=Cy n0 nl;have ba':=(lM (kc G) () tn () ba ea).1;have ls:=ao s0;refine⟨⟨n0,nl,n7⟩,⟨λi=>(λi=>0+1/(S:Rat)*pr (jD Q) a Q.length i) i+(T:Rat)/(S:Rat)*b i,Bd.add (Bd.add ‹9› ((Bd.pr ba').mono ())) bb,λx=>?_⟩,⟨a,ba,ea⟩⟩;have h1:=xu (F:=F) (G:=G) (Q:=Q) (R:=R) (S:=S) (T:=T) () e x;rw[gi,gi,gI (f:=λ_=>0) λ_=>rfl,iQ (kc Q) ba' ()];show EV (jD F) x=_*EV (jD (gO R rows)) x;have h2:=ea x;have h3:=eb x;grind
theorem uX.few{rows:List (List Int×List Int×Int×Int)}(h:uX F G rows):rows.length<=G.length-1:=by
 induction h with
 | nought=>exact YO _
 | last _ _ _ _ _=>exact YO _
 | @more F G R Q T S rows g0 gl s0 t0 r0 rl lR lq e hs ih =>
  have:=List.length_pos_iff.mpr r0;simp only[Y8];nofun
def uM(f g:Nat->Rat):Prop:=∀d e,1<=d->d<=6->Tp d e->vx e f->vx e g->False
theorem vx.sc{e f':Nat->Rat}(h:vx e f)(z:∀k,f' k=c*f k):vx e f':=by
 obtain⟨q,bq,eq⟩:=h;refine⟨λi=>0+c*q i,Bd.add ‹9› bq,λx=>?_⟩;rw[dH (g:=λk=>0+c*f k) (λk=>by rw[z];grind),gi,gi,gI (f:=λ_=>0) λ_=>rfl,eq]
 grind
theorem uX.one{rows:List (List Int×List Int×Int×Int)}{d:Rat}(h:uX F G rows)(g0:G≠[])(lF:F.length<=7)(lG:G.length<=7)(ef:∀k,f k=c*jD F k)(eg:∀k,g k=d*jD G k)(n:uM f g):∃x,gO G rows=[x]/\x≠0:=by
 obtain⟨⟨n0,nl,n7⟩,h1,h2⟩:=h.dvs g0 lF lG;have l1:(gO G rows).length=1:=XE λz=>by
  have:=List.length_pos_iff.mpr n0;exact n ((gO G rows).length-1) _ () () (Cy n0 nl) (h1.sc ef) (h2.sc eg)
 obtain⟨x,hx⟩:=List.length_eq_one_iff.mp l1;refine⟨x,hx,?_⟩;rw[hx] at nl;exact nl
theorem Mx(m6:m<=6)(tP:Tp m f)(nosq:∀(d:Nat)(e q:Nat->Rat),1<=d->Tp d e->Bd (m-d+1-d) q->(∀x,EV f x=EV q x*EV e x*EV e x)->False){d:Nat}{e:Nat->Rat}(d1:1<=d)(d6:d<=6)(te:Tp d e)(ha:vx e f)(hc:vx e (DF f)):False:=by
 obtain⟨d,⟨d1,d6,e,te,ha,hc⟩,mn⟩:=least (Φ:=λd=>1<=d/\d<=6 /\ ∃e,Tp d e/\vx e (f)/\vx e (DF (f))) ⟨d1,d6,e,te,ha,hc⟩;obtain⟨a,ba,ea⟩:=ha;obtain⟨c,bc,ec⟩:=hc;have bP:Bd (m+1) (f):=tP.2;obtain⟨ba',az⟩:=lM bP () te d6 ba ea;have dm:d<=m:=XE λz=>tP.1 (az () m);have bc':=(lM (jG bP) () te d6 bc ec).1;have rule:=BJ (m:=d+1) te.2 (m+1-d) a (f) ba' () (bP.mono ()) ea;have k1:∀x,EV (DF e) x*EV a x=(EV c x-EV (DF a) x)*EV e x:=λx=>by
  have:=rule x;rw[ec x] at this;grind
 obtain⟨q,t,bq,bt,eq⟩:=AE te (m+1-d) a (ba'.mono ());have vq:=yT te bq () eq;rcases Bd.tp bt with t0|⟨t',ht',tt⟩
 .-- twice in it
  have v1:∀x,EV (f) x=EV q x*EV e x*EV e x:=λx=>by
   rw[ea x,vq x,gI t0];grind
  have bq2:Bd (m-d+1-d) q:=by
   have:=(lM (f:=a) (n:=m+1-d) ba' () te d6 (bq.mono ()) λx=>by rw[vq x,gI t0];grind).1
   exact this.mono ()
  exact nosq d e q d1 te bq2 v1
 .-- a smallest rest that does it
  have dv:vx e (λk=>pr (DF e) t d k):=by
   refine⟨λi=>c i + -1*(λi=>DF a i+1*pr q (DF e) (m+1-d) i) i,?_,λx=>?_⟩
   .refine Bd.add bc ?_;exact Bd.add ((jG (n:=12) (ba.mono ()))|>.mono ()) ((Bd.pr (jG te.2)).mono ())
   .rw[iQ (jG te.2) bt (),gi,gi,iQ bq (jG te.2) ()];have:=k1 x;rw[vq x] at this;grind
  obtain⟨s,⟨sd,w,tw,q2,bq2,e2⟩,sm⟩:=least (Φ:=λs=>s<d /\ ∃w,Tp s w/\vx e (λk=>pr (DF e) w d k)) ⟨ht',t,tt,dv⟩;have bw:Bd (s+1) w:=tw.2;have v2:∀x,EV (DF e) x*EV w x=EV q2 x*EV e x:=λx=>by rw[<-e2 x,iQ (jG te.2) bw ()]
  obtain⟨b2',z2⟩:=lM (f:=λk=>pr (DF e) w d k) (n:=d+s) (λi hi=>gD bw _ _ ()) () te d6 bq2 e2;by_cases s0:s=0
  .-- the slope itself would be divided
   subst s0;have z:=z2 () (d-1);have d0:DF e (d-1)≠0:=by
    show ‹(d-1+1:Nat)›*e (d-1+1)≠0;rw[show d-1+1=d by nofun]
    have:‹(d:Nat)›≠0:=ao ();have:=te.1;grind
   have e0:∀x,EV (DF e) x*EV w x=0:=λx=>by
    rw[<-iQ (jG te.2) bw (),gI (z2 ())]
   have w0:∀x,EV w x=w 0:=λx=>by
    rw[fJ (n:=1) (λk hk=>bw k ()) ∅];show 0+w 0*1=w 0;grind
   have wn:=tw.1;exact d0 (jO ((jG te.2).mono ()) (g:=λ_=>0) ‹9› (λx=>by
    have:=e0 x;rw[w0] at this;rw[gI (f:=λ_=>0) λ_=>rfl];grind) (d-1))
  .obtain⟨q3,t3,b3,bt3,e3⟩:=AE tw (d+1-s) e (te.2.mono ());have v3:=yT tw b3 () e3;rcases Bd.tp bt3 with t0|⟨t',ht',tt⟩
   .-- a smaller one in both
    have:=mn s ⟨(),(),w,tw,vx.trans (m:=6) (n:=7) ⟨q3,b3.mono (),λx=>by rw[v3 x,gI t0];grind⟩ ⟨a,ba'.mono (),ea⟩ ∅,vx.trans (m:=6) (n:=7) ⟨q3,b3.mono (),λx=>by rw[v3 x,gI t0];grind⟩ ⟨c,bc'.mono (),ec⟩ ∅⟩
    nofun
   .have:=sm t' ⟨(),t3,tt,λi=>DF e i + -1*pr q3 q2 (d+1-s) i,Bd.add ((jG te.2).mono ()) ((Bd.pr b2').mono ()),λx=>?_⟩
    .nofun
    .rw[iQ (jG te.2) bt3 (),gi,iQ b3 b2' ()];have h1:=v3 x;have h2:=v2 x;grind
def lx(s:Rat)(v:Nat->Rat)(j:Nat):Rat:=(if j=0 then 0 else v (j-1))-s*v j
theorem vP{W:Nat->Int}(hB:0<B)(hS:∀i,‹W i›=S i*(B:Rat))(m6:m<=6)(tf:Tp m f)(hD:∀i,i<=m->0<Dk W i)(orth:∀q:Nat->Rat,Bd (m-1) q->ip S q f (m-1) (m+1)=0):uM f (DF f):=by
 intro d e d1 d6 te ha hc;refine Mx m6 tf (λd e q d1 te bq v1=>?_) d1 d6 te ha hc;have bf:Bd (m+1) f:=tf.2;have fin:(∀x,EV f x=0)->False:=λh=>tf.1 (jO (bf.mono ()) (g:=λ_=>0) ‹9› (λx=>by rw[h,gI (f:=λ_=>0) λ_=>rfl]) m)
 by_cases z:m-d+1-d=0
 .have q0:∀i,q i=0:=λi=>bq i ();exact fin λx=>by rw[v1,gI q0];grind
 obtain⟨u,hu⟩:∃u:Nat->Rat,u=λj=>pr q e (m-d+1-d) j:=⟨_,rfl⟩;have te':Bd (d+1) e:=te.2;have vu:∀x,EV u x=EV q x*EV e x:=λx=>by rw[hu,iQ bq te' ()]
 have bu:Bd m u:=by
  rw[hu];exact λi hi=>gD te' _ _ ()
 obtain⟨p1,p2⟩:=pd hB hS m hD u bu;have bqk:Bd (m-1) q:=bq.mono ();have i1:ip S u u m m=ip S q f (m-1) (m+1):=Er bu bu bqk bf () () λx=>by rw[vu,v1];grind
 have u0:=p2 (by rw[i1,orth q bqk])
 exact fin λx=>by rw[v1,<-vu,gI u0];grind
theorem AC{W:Nat->Int}{q:Nat->Rat}(hB:0<B)(hS:∀i,‹W i›=S i*(B:Rat))(dn:Dk W k≠0)(m:Nat)(hm:m<=k):ip S q (Pk W k) m (k+1)=0:=by
 rw[zg dn () hS (Yr _)];exact cq m λi hi=>by rw[gY (),show ‹0›=0 from rfl];grind
theorem Ga{W:Nat->Int}(dn:Dk W k≠0):Tp k (Pk W k):=⟨by rw[jQ dn];decide,λi hi=>iI ()⟩
theorem Br{W:Nat->Int}(hB:0<B)(hS:∀i,‹W i›=S i*(B:Rat))(k6:k<=6)(hD:∀i,i<=k->0<Dk W i):uM (Pk W k) (DF (Pk W k)):=by
 have dn:Dk W k≠0:=by have:=hD k (Yr _);nofun
 exact vP hB hS k6 (Ga dn) hD λq _=>AC hB hS dn (k-1) ()
def sg(x:Rat):Int:=if 0<x then 1 else if x<0 then -1 else 0
def Sm(e x:Rat):Prop:=-e<=x/\x<=e
def Wi(R x:Rat):Prop:=-R<=x/\x<=R
def MJ(R:Rat)(f:Rat->Rat):Prop:=∃B:Rat,0<B /\ ∀x,Wi R x->Sm B (f x)
def chg:Int->List Int->Nat
 | _,[]=>0
 | l,s::r=>if s=0 then chg l r else (if s = -l then 1 else 0)+chg s r
def Lx(R:Rat)(f g:Rat->Rat):Prop:=∃e:Rat,0<e /\ ∀x,Wi R x->Sm e (f x)->Sm e (g x)->False
def v1(f g:Rat->Rat)(x:Rat):Nat:=if sg (f x)*sg (g x) = -1 then 1 else 0
def Py(f:Rat->Rat):Prop:=∃l:List Rat,∀x,f x=eZ l x
theorem Py.congr{f g:Rat->Rat}(h:Py f)(e:∀x,g x=f x):Py g:=by
 obtain⟨l,h⟩:=h;exact⟨l,λx=>(e x).trans (h x)⟩
theorem Py.isP{f:Rat->Rat}(h:Py f):∃n,eO n f:=by
 obtain⟨l,h⟩:=h;exact⟨l.length,l,Yr _,h⟩
theorem eO.py{f:Rat->Rat}(h:eO n f):Py f:=by
 obtain⟨l,_,h⟩:=h;exact⟨l,h⟩
theorem Py.const(c:Rat):Py λ_=>c:=⟨[c],λx=>by show c=c+x*0;grind⟩
theorem Py.add{f g:Rat->Rat}(h:Py f)(k:Py g):Py λx=>f x+g x:=by
 obtain⟨m,hm⟩:=h.isP;obtain⟨n,hn⟩:=k.isP;exact ((hm.mono (Nat.le_max_left m n)).add (hn.mono (Nat.le_max_right m n))).py
theorem Py.shift{f:Rat->Rat}(h:Py f):Py λx=>x*f x:=by
 obtain⟨l,h⟩:=h;exact⟨0::l,λx=>by show x*f x=0+x*eZ l x;rw[h];grind⟩
theorem Py.sc{f:Rat->Rat}(h:Py f)(c:Rat):Py λx=>c*f x:=by
 obtain⟨n,hn⟩:=h.isP;exact (hn.sc c).py.congr λx=>by grind
theorem Py.mul{f g:Rat->Rat}(h:Py f)(k:Py g):Py λx=>f x*g x:=by
 obtain⟨l,h⟩:=h;have:∀l:List Rat,Py λx=>eZ l x*g x:=by
  intro l;induction l with
  | nil=>exact (Py.const 0).congr λx=>by show 0*g x=0;grind
  | cons a l ih=>exact ((k.sc a).add ih.shift).congr λx=>by show (a+x*eZ l x)*g x=a*g x+x*(eZ l x*g x);grind
 exact (this l).congr λx=>by rw[h]
theorem Py.sub{f g:Rat->Rat}(h:Py f)(k:Py g):Py λx=>f x-g x:=(h.add (k.sc (-1))).congr λx=>by grind
theorem zJ(h:Bd n u)(l:n<=20):Py (EV u):=(eO.of h l).py
def ik(F:List Int)(x:Rat):Rat:=EV (jD F) x
theorem BC(h:F.length<=20):Py (ik F):=zJ (kc F) h
theorem Go(x:Rat):ik [] x=0:=gI (λi=>by show ‹nz [] i›=0;rw[bO (by simp)];rfl) x
theorem za(c:Int)(x:Rat):ik [c] x=(c:Rat):=by
 unfold ik;rw[fJ (n:=1) (kc [c]) ∅];show 0+jD [c] 0*1=_;show 0+‹nz [c] 0›*1=_;rw[show nz [c] 0=c from rfl]
 grind
theorem BZ(l:Q.length+G.length<=20)(e:∀k,nz F k=pz (nz Q) (nz G) Q.length k)(x:Rat):ik F x=ik Q x*ik G x:=by
 have:=xu (F:=F) (R:=[]) (S:=1) (T:=0) l (λk=>by rw[e k];nofun) x
 unfold ik;have c1:‹1›=1:=rfl;have c0:‹0›=0:=rfl;rw[c1,c0] at this;grind
inductive Ei:Int->Int->List Int->List Int->List (List Int×List Int×Int×Int)->Prop
 | nil {x h:Int}{F G:List Int}:Ei x h F G []
 | more {x h h' S T:Int}{F G R Q:List Int}{rows:List (List Int×List Int×Int×Int)}:G≠[]->S=nz G (G.length-1)^(F.length-G.length+1)->T=x*h^(F.length-G.length)->h'≠0->(F.length=G.length/\h'=h\/G.length<F.length/\h'*h^(F.length-G.length-1)=nz G (G.length-1)^(F.length-G.length))->Ei (nz G (G.length-1)) h' G R rows->Ei x h F G ((R,Q,T,S)::rows)
def AK(N:Nat)(u F:Nat->Int):Nat->Int:=λk=>if k<N then u k else F (k-N)
theorem hJ{u F:Nat->Int}(h:k<N):AK N u F k=u k:=Yb h
theorem fR{u F:Nat->Int}(h:N<=k):AK N u F k=F (k-N):=Yc ()
theorem xX{q w:Nat->Int}{m:Nat}(hw:∀i,m<=i->w i=0):∀n k,m+n<=k+1->pz q w n k=0
 | 0,_,_=>rfl
 | n+1,k,h=>by
  show pz q w n k+(if n<=k then q n*w (k-n) else 0)=0
  rw[xX hw n k ()];split
  .rw[hw _ (),Xr];rfl
  .rfl
theorem xW{N m:Nat}{q w G:Nat->Int}(hw:∀i,m<=i->w i=0)(k:Nat):∀n,m+n<=N+1->pz q (AK N w G) n k=AK N (pz q w n) (pz q G n) k
 | 0,_=>by
  show (0:Int)=if k<N then 0 else 0
  split<;>rfl
 | n+1,h=>by
  show pz q (AK N w G) n k+(if n<=k then q n*AK N w G (k-n) else 0)=_
  rw[xW hw k n ()];by_cases hk:k<N
  .rw[hJ hk,hJ hk,hJ (show k-n<N by nofun)]
   rfl
  .rw[fR (u:=pz q w n) (show N<=k by nofun),fR (u:=pz q w (n+1)) (show N<=k by nofun)]
   show _=pz q G n (k-N)+(if n<=k-N then q n*G (k-N-n) else 0)
   rw[Yb (show n<=k by nofun)]
   by_cases hn:n<=k-N
   .rw[Yb hn,fR (),show k-n-N=k-N-n by nofun]
   .rw[Yc hn,hJ (),hw _ (),Xr]
theorem DA{f g:Nat->Int}{j B:Nat}(h20:a+b-j<=20)(hb:b<=a)(jb:j<=b)(kj:k<=j)(hB:1<=B)(hf:∀i,(f i).natAbs<2^B)(hg:∀i,(g i).natAbs<2^B):(SR f g a b j k).natAbs<2^(87+20*B):=by
 by_cases h0:a+b-j=0
 .have:SR f g a b j k=1:=by
   unfold SR;rw[h0,show b-j=0 by nofun,show a-j=0 by nofun]
   have:Ej j k=[]:=List.length_eq_zero_iff.mp (by rw[t9 kj];nofun)
   rw[show st (sh f) 0 0++(st (sh g) 0 0++Ej j k)=Ej j k from rfl,this]
   rfl
  rw[this];exact Nat.one_lt_two_pow ()
 obtain⟨C,hC⟩:∃C,C=2^B:=⟨_,rfl⟩;have c1:1<=C:=hC▸Nat.one_le_two_pow;have r:=xF (M:=a+b-j) (C:=C) (rows:=st (sh f) 0 (b-j)++(st (sh g) 0 (a-j)++Ej j k)) (Nat.mul_pos () c1) (λr hr i=>by
  rcases List.mem_append.mp hr with z|z
  .obtain⟨i',_,rfl⟩:=jm z;exact uk (λi=>by have:=hf i;nofun) _ _
  .rcases List.mem_append.mp z with z|z
   .obtain⟨i',_,rfl⟩:=jm z;exact uk (λi=>by have:=hg i;nofun) _ _
   .obtain⟨i',_,rfl⟩:=List.mem_map.mp z;unfold kv;split<;>simp<;>nofun) (wL (a+b-j))
 have hl:(st (sh f) 0 (b-j)++(st (sh g) 0 (a-j)++Ej j k)).length=a+b-j:=by
  rw[YE,YE,nN,nN,t9 kj];nofun
 rw[hl] at r;have e1:((a+b-j)*C)^(a+b-j)<=(20*C)^20:=Yg (Nat.pow_le_pow_left (Nat.mul_le_mul_right _ ()) _) (YY () ());have e2:(20*C)^20<2^(87+20*B):=by
  rw[Nat.mul_pow,hC,<-Nat.pow_mul,Y0,YQ B 20];exact Nat.mul_lt_mul_of_pos_right ∅ Nat.one_le_two_pow
 unfold SR dt;nofun
def GX(N Z:Nat)(x h:Int)(F G u w:Nat->Int)(A B:Nat):Prop:=∃S1,oS S1 (AK N u F) (AK N w G) (A+N) (B+N) x h /\ ∀j k,N<=j->j<=B+N->k<=j->Bt Z (S1 j k)
theorem GX.first{N A B b:Nat}{F G u w:Nat->Int}(h:B<=A)(l:A+B+N<=20)(b1:1<=b)(bF:∀k,Bt b (F k))(bG:∀k,Bt b (G k))(bu:∀k,Bt b (u k))(bw:∀k,Bt b (w k)):GX N (87+20*b) 1 1 F G u w A B :=
 ⟨_,oS.first (),λj k hN hj hk=>DA () () hj hk b1 (λi=>by unfold AK;split;exact bu _;exact bF _) (λi=>by unfold AK;split;exact bw _;exact bG _)⟩
theorem GX.step{N Z A B m:Nat}{x h c:Int}{F G u w q r:Nat->Int}(I:GX N Z x h F G u w A B)(hN:0<N)(hB:1<=B)(hg:G B=c)(hc:c≠0)(g0:∀k,B<k->G k=0)(r0:∀k,B<=k->r k=0)(w0:∀k,m<=k->w k=0)(hm:m+(A-B+1)<=N+1)(u0:∀k,N<=k->u k=0)
  (e:∀k,c^(A-B+1)*F k=pz q G (A-B+1) k+x*h^(A-B)*r k) :
  ∃w':Nat->Int,(∀k,c^(A-B+1)*u k=pz q w (A-B+1) k+x*h^(A-B)*w' k)/\(∀k,Bt Z (w' k)) /\ ∀(d:Nat)(h':Int),d<B->(∀k,d<k->r k=0)->h'≠0->(A=B/\h'=h\/B<A/\h'*h^(A-B-1)=c^(A-B))->GX N Z c h' G r w w' B d:=by
 obtain⟨S1,I,bS⟩:=I;have ba:=I.ba;have hab:A+N-(B+N)=A-B:=();have hgp:AK N w G (B+N)=c:=by rw[fR (),Nat.add_sub_cancel,hg]
 have g0p:∀k,B+N<k->AK N w G k=0:=λk hk=>by rw[fR (),g0 _ ()]
 have up:∀k,N<=k->c^(A-B+1)*u k=pz q w (A-B+1) k:=λk hk=>by
  rw[u0 k hk,Xr,xX w0 _ _ ()]
 have rest:=λk (hk:k<B+N)=>I.rest (R:=AK N (λk=>c^(A-B+1)*u k-pz q w (A-B+1) k) λk=>x*h^(A-B)*r k) (q:=q) hgp hc g0p (λk hk=>by rw[fR (),r0 _ (),Xr]) (λk=>by
  rw[hab,yu,xW w0 k _ hm];by_cases hk:k<N
  .rw[hJ hk,hJ hk,hJ hk];nofun
  .rw[fR (),fR (),fR ()];exact e _) k hk
 rw[hab] at rest;have ex:∀k,∃y:Int,c^(A-B+1)*u k=pz q w (A-B+1) k+x*h^(A-B)*y/\Bt Z y:=λk=>by
  by_cases hk:k<N
  .have p:=rest k ();rw[hJ hk] at p;have bs:=bS (B+N-1) k () () ();rcases p with z|z
   .exact⟨_,by rw[<-z];nofun,bs⟩
   .exact⟨- S1 (B+N-1) k,by rw[Int.mul_neg,<-z];nofun,bs.pm (.inr rfl)⟩
  .exact⟨0,by rw[Xr,up k ()];nofun,gC⟩
 refine⟨λk=>(ex k).choose,λk=>(ex k).choose_spec.1,λk=>(ex k).choose_spec.2,λd h' hd rd n0 hh=>?_⟩;have hh':A+N=B+N/\h'=h\/B+N<A+N/\h'*h^(A+N-(B+N)-1)=c^(A+N-(B+N)):=by
  rw[hab];rcases hh with ⟨a,b⟩|⟨a,b⟩
  .exact .inl ⟨(),b⟩
  .exact .inr ⟨(),b⟩
 refine⟨S1,I.step (q:=q) (d:=d+N) hgp hc g0p (λk=>?_) (λk hk=>by rw[fR (),rd _ ()]) () n0 hh',λj k hN hj hk=>bS j k hN () hk⟩
 rw[hab,yu,xW w0 k _ hm];by_cases hk:k<N
 .rw[hJ hk,hJ hk,hJ hk];exact (ex k).choose_spec.1
 .rw[fR (),fR (),fR ()];exact e _
theorem qy(x:Rat):EV (λk=>c*f k) x=c*EV f x:=by
 have:∀n,eE (λk=>c*f k) n x=c*eE f n x:=λn=>by
  induction n with
  | zero=>show (0:Rat)=c*0;grind
  | succ n ih =>
   show eE (λk=>c*f k) n x+c*f n*aQ x n=c*(eE f n x+f n*aQ x n);rw[ih];grind
 exact this 20
def Im(f g:Rat->Rat)(w G:List Int):Prop:=∃V:Rat->Rat,Py V /\ ∀x,ik G x=ik w x*f x+V x*g x
theorem sJ{S T:Int}(l:Q.length+G.length<=20)(lF:F.length<=20)(lR:R.length<=20)(e:∀k,S*nz F k=pz (nz Q) (nz G) Q.length k+T*nz R k)(x:Rat):(S:Rat)*ik F x=ik Q x*ik G x+(T:Rat)*ik R x:=by
 have a:∀k,nz (lz 20 λk=>S*nz F k-T*nz R k) k=pz (nz Q) (nz G) Q.length k:=λk=>by
  by_cases hk:k<20
  .rw[qO hk,e];nofun
  .rw[bO (by rw[bZ];nofun),xX (m:=G.length) (λi hi=>bO hi) _ _ ()]
 have b:=BZ l a x;have c:ik (lz 20 λk=>S*nz F k-T*nz R k) x=(S:Rat)*ik F x + -(T:Rat)*ik R x:=by
  have d:∀k,jD (lz 20 λk=>S*nz F k-T*nz R k) k=(S:Rat)*jD F k + -(T:Rat)*jD R k:=λk=>by
   show ‹nz (lz 20 λk=>S*nz F k-T*nz R k) k›=(S:Rat)*‹nz F k› + -(T:Rat)*‹nz R k›;by_cases hk:k<20
   .rw[qO hk,Rat.intCast_sub,Xi,Xi];grind
   .rw[bO (by rw[bZ];nofun),bO (show F.length<=k by nofun),bO (show R.length<=k by nofun)]
    have c0:‹0›=0:=rfl;rw[c0];grind
  unfold ik;rw[dH d,oo];rw[qy,qy]
 rw[b] at c;grind
theorem Im.step{f g:Rat->Rat}{u w v:List Int}{S T:Int}(hF:Im f g u F)(hG:Im f g w G)(t0:T≠0)(lQ:Q.length<=9)(l1:F.length<=9/\G.length<=9/\R.length<=9)(l2:u.length<=9/\w.length<=9/\v.length<=20)(e:∀k,S*nz F k=pz (nz Q) (nz G) Q.length k+T*nz R k)(e2:∀k,S*nz u k=pz (nz Q) (nz w) Q.length k+T*nz v k):Im f g v R:=by
 obtain⟨V,pV,eV⟩:=hF;obtain⟨W,pW,eW⟩:=hG;have c:=ao t0;refine⟨λx=>(1/(T:Rat))*((S:Rat)*V x-ik Q x*W x),((pV.sc _).sub ((BC ()).mul pW)).sc _,λx=>?_⟩;have a:=sJ () () () e x;have b:=sJ () () () e2 x;rw[eV,eW] at a;show ik R x=ik v x*f x+1/(T:Rat)*((S:Rat)*V x-ik Q x*W x)*g x;have k:(T:Rat)*ik R x=(T:Rat)*(ik v x*f x)+((S:Rat)*V x-ik Q x*W x)*g x:=by
  have:(T:Rat)*ik v x=(S:Rat)*ik u x-ik Q x*ik w x:=⋯;grind
 grind
theorem ol{ns:List Int}{D:Int}(c:∀k,‹nz ns k›=cf qs k*(D:Rat))(x:Rat):ik ns x=(D:Rat)*EV (cf qs) x:=by
 have:∀k,jD ns k=(D:Rat)*cf qs k:=λk=>by
  show ‹nz ns k›=_;rw[c];grind
 unfold ik;rw[dH this,qy]
theorem Gj{ns:List Int}{d:Int}(c:∀k,cf rs k=‹nz ns k›/(d:Rat))(x:Rat):EV (cf rs) x=1/(d:Rat)*ik ns x:=by
 have:∀k,cf rs k=1/(d:Rat)*jD ns k:=λk=>by
  rw[c];show _=_*‹nz ns k›;grind
 rw[dH this,qy];rfl
theorem FH(x:Rat):EV (cf []) x=0:=by
 rw[fJ (n:=0) (λk _=>aJ (by simp)) ∅]
 rfl
def Hx(p:Nat->Rat)(x:Rat):Nat->Rat
 | 0=>0
 | j+1=>x*Hx p x j+p j
def qE(g p:Nat->Rat)(m:Nat)(k:Nat):Rat:=ap g (λj=>p (k+j)) m
theorem DY{g p:Nat->Rat}{x:Rat}{m:Nat}:∀i,ap g (λj=>Hx p x (i+j)) m=aQ x i*ap g (Hx p x) m+Hx (qE g p m) x i
 | 0=>by
  have:ap g (λj=>Hx p x (0+j)) m=ap g (Hx p x) m:=aE m ‹9› (λi _=>by rw[Xv])
  rw[this];show _=1*_+0;grind
 | i+1=>by
  have:ap g (λj=>Hx p x (i+1+j)) m=ap g (λj=>p (i+j)+x*Hx p x (i+j)) m:=aE m ‹9› (λj _=>by
   rw[show i+1+j=i+j+1 by nofun]
   show x*Hx p x (i+j)+p (i+j)=_;grind)
  rw[this,mP,DY i];show qE g p m i+x*(aQ x i*ap g (Hx p x) m+Hx (qE g p m) x i)=aQ x i*x*ap g (Hx p x) m+(x*Hx (qE g p m) x i+qE g p m i);grind
theorem mi{f g:Nat->Rat}{h:Nat->Rat}{m:Nat}:∀n,ap f (λi=>ap g (λj=>h (i+j)) m) n=ap g (λj=>ap f (λi=>h (j+i)) n) m
 | 0=>by
  show (0:Rat)=ap g (λ_=>0) m;rw[cq m λi _=>by grind]
 | n+1=>by
  show ap f (λi=>ap g (λj=>h (i+j)) m) n+f n*ap g (λj=>h (n+j)) m=ap g (λj=>ap f (λi=>h (j+i)) n+f n*h (j+n)) m;rw[mi n,mP];congr 2
  exact aE m ‹9› (λj _=>by rw[Nat.add_comm])
theorem sU{f:Nat->Rat}{c:Rat}{h:Nat->Rat}:∀n,ap f (λi=>h i*c) n=ap f h n*c
 | 0=>by show (0:Rat)=0*c;grind
 | n+1=>by
  show ap f (λi=>h i*c) n+f n*(h n*c)=(ap f h n+f n*h n)*c;rw[sU n];grind
theorem AL{p:Nat->Rat}{x:Rat}:ap f (Hx (qE g p m) x) n+ap f (aQ x) n*ap g (Hx p x) m=ap g (Hx (qE f p n) x) m+ap g (aQ x) m*ap f (Hx p x) n:=by
 have a:=mi (f:=f) (g:=g) (h:=Hx p x) (m:=m) n;have e1:ap f (λi=>ap g (λj=>Hx p x (i+j)) m) n=ap f (aQ x) n*ap g (Hx p x) m+ap f (Hx (qE g p m) x) n:=by
  rw[<-sU,<-lY];exact aE n ‹9› (λi _=>DY i)
 have e2:ap g (λi=>ap f (λj=>Hx p x (i+j)) n) m=ap g (aQ x) m*ap f (Hx p x) n+ap g (Hx (qE f p n) x) m:=by
  rw[<-sU,<-lY];exact aE m ‹9› (λi _=>DY i)
 rw[e1,e2] at a;grind
theorem eO.shift{f:Rat->Rat}(h:eO n f):eO (n+1) λx=>x*f x:=by
 obtain⟨l,e⟩:∃g,g=λx=>(x-0)*f x:=⟨_,rfl⟩;obtain⟨l',a,b⟩:=h.mulX 0;exact⟨l',a,λx=>by rw[<-b];grind⟩
theorem eO.congr{f g:Rat->Rat}(h:eO n f)(e:∀x,g x=f x):eO n g:=by
 obtain⟨l,a,b⟩:=h;exact⟨l,a,λx=>by rw[e,b]⟩
theorem eO.cst(c:Rat):eO 1 λ_=>c:=⟨[c],Yr _,λx=>by show c=c+x*0;grind⟩
theorem eO.nul:eO 0 λ_=>0:=⟨[],Yr _,λ_=>rfl⟩
theorem eO.mul{n:Nat}{g:Rat->Rat}(hg:eO n g):∀l:List Rat,eO (l.length+n) λx=>eZ l x*g x
 | []=>(eO.nul.mono (YO _)).congr λx=>by show 0*g x=0;grind
 | a::l=>by
  have:=((hg.sc a).mono (show n<=(a::l).length+n by nofun)).add ((eO.mul hg l).shift.mono (show l.length+n+1<=(a::l).length+n by rw[Y8];nofun))
  exact this.congr λx=>by
   show (a+x*eZ l x)*g x=g x*a+x*(eZ l x*g x);grind
theorem qf(a:Rat)(x:Rat):∀l:List Rat,eZ (l++[a]) x=eZ l x+a*aQ x l.length
 | []=>by show a+x*0=0+a*1;grind
 | b::l=>by
  show b+x*eZ (l++[a]) x=b+x*eZ l x+a*(aQ x l.length*x);rw[qf a x l];grind
theorem su(x:Rat):∀n,eZ (List.replicate n 0) x=0
 | 0=>rfl
 | n+1=>by
  show 0+x*eZ (List.replicate n 0) x=0;rw[su x n];grind
theorem zZ(x:Rat)(n:Nat):∀l:List Rat,eZ (l++List.replicate n 0) x=eZ l x
 | []=>su x n
 | a::l=>by
  show a+x*eZ (l++List.replicate n 0) x=a+x*eZ l x;rw[zZ x n l]
theorem yy(h:eO d λx=>c*aQ x d):c=0:=by
 obtain⟨l,ll,e⟩:=h;have z:∀x,eZ ((l++List.replicate (d-l.length) 0)++[-c]) x=0:=λx=>by
  rw[qf,zZ,<-e,YE,YG,show l.length+(d-l.length)=d by nofun]
  grind
 have:=pM _ z (-c) (by simp)
 grind
theorem eO.top{f:Rat->Rat}(h:eO (d+1) f):∃(c:Rat)(g:Rat->Rat),eO d g /\ ∀x,f x=g x+c*aQ x d:=by
 obtain⟨l,ll,e⟩:=h;rcases Xw d l.length with z|z
 .have hl:l≠[]:=λy=>by rw[y] at z;simp at z
  refine⟨l.getLast hl,eZ l.dropLast,⟨l.dropLast,by rw[YN];nofun,λ_=>rfl⟩,λx=>?_⟩
  have:=qf (l.getLast hl) x l.dropLast;rw[List.dropLast_concat_getLast,YN,show l.length-1=d by nofun] at this
  rw[e,this]
 .exact⟨0,f,⟨l,z,e⟩,λx=>by grind⟩
theorem eO.pow{n:Nat}{f:Rat->Rat}(h:eO n f):∀d,eO (n+d) λx=>aQ x d*f x
 | 0=>h.congr λx=>by show 1*f x=f x;grind
 | d+1=>(h.pow d).shift.congr λx=>by
  show aQ x d*x*f x=x*(aQ x d*f x);grind
theorem uH{n:Nat}{P R r:Rat->Rat}(hP:eO n P)(hr:eO n r)(hR:∀x,R x=aQ x n+r x):∀(d:Nat)(C:Rat->Rat),eO d C->(∀x,P x=C x*R x) -> ∀x,C x=0
 | 0,C,⟨l,ll,e⟩,_,x=>by
  have hl:l=[]:=List.length_eq_zero_iff.mp ();rw[e,hl];rfl
 | d+1,C,h,e,x=>by
  obtain⟨c,C0,p0,e0⟩:=h.top;obtain⟨l0,ll0,el0⟩:=id p0;have k:eO (d+n) λx=>c*aQ x (d+n):=by
   have a1:=hP.mono (show n<=d+n by nofun)
   have a2:=((p0.pow n).sc (-1));have a3:=(((hr.mul l0).mono (show l0.length+n<=d+n by nofun)).sc (-1))
   have a4:eO (d+n) λx=>aQ x d*r x * -c:=by
    have:=(hr.pow d).sc (-c);rw[Nat.add_comm] at this;exact this
   exact (((a1.add a2).add a3).add a4).congr λx=>by
    have q:=e x;rw[e0,hR] at q;show c*aQ x (d+n)=P x+aQ x n*C0 x * -1+eZ l0 x*r x * -1+aQ x d*r x * -c;rw[wI,q,<-el0];grind
  have c0:=yy k;have e1:∀x,C x=C0 x:=λx=>by rw[e0,c0];grind
  rw[e1];exact uH hP hr hR d C0 p0 (λx=>by rw[<-e1,e]) x
theorem DJ{p:Nat->Rat}:∀i,eO i λx=>Hx p x i
 | 0=>eO.nul
 | i+1=>((DJ i).shift.add ((eO.cst (p i)).mono ()))
theorem D5{p:Nat->Rat}:∀i,∃L:Rat->Rat,eO i L /\ ∀x,Hx p x (i+1)=L x+p 0*aQ x i
 | 0=>⟨_,eO.nul,λx=>by show x*0+p 0=0+p 0*1;grind⟩
 | i+1=>by
  obtain⟨L,h,e⟩:=D5 (p:=p) i;refine⟨_,h.shift.add ((eO.cst (p (i+1))).mono ()),λx=>?_⟩;show x*Hx p x (i+1)+p (i+1)=x*L x+p (i+1)+p 0*(aQ x i*x);rw[e];grind
theorem mM{R p:Nat->Rat}:∀M,eO M λx=>ap R (Hx p x) (M+1)
 | 0=>eO.nul.congr λx=>by show 0+R 0*0=0;grind
 | M+1=>by
  have:=((mM (R:=R) (p:=p) M).mono (show M<=M+1 by nofun)).add ((DJ (p:=p) (M+1)).sc (R (M+1)))
  exact this.congr λx=>by
   show ap R (Hx p x) (M+1)+R (M+1)*Hx p x (M+1)=ap R (Hx p x) (M+1)+Hx p x (M+1)*R (M+1);grind
theorem pp{p:Nat->Rat}{x:Rat}:∀m,(∀i,i<m->p i=0)->Hx p x m=0
 | 0,_=>rfl
 | m+1,h=>by
  show x*Hx p x m+p m=0;rw[pp m λi hi=>h i (),h m ()];grind
theorem zI{p:Nat->Rat}{x:Rat}{m:Nat}(h:∀i,i<m->p i=0):∀i,Hx p x (m+i)=Hx (λk=>p (m+k)) x i
 | 0=>pp m h
 | i+1=>by
  show x*Hx p x (m+i)+p (m+i)=_;rw[zI h i];rfl
theorem qt{R δ:Nat->Rat}{n:Nat}(hR:R n=1)(h:∀x,ap R (Hx δ x) (n+1)=0):∀m,m<=n -> ∀i,i<m->δ i=0
 | 0,_,i,hi=>by nofun
 | m+1,hm,i,hi=>by
  have ih:=qt hR h m ();rcases Xw i m with z|z
  .exact ih i z
  obtain rfl:i=m:=();obtain⟨M,hM⟩:∃M,n=i+M+1:=⟨n-i-1,()⟩;have e:∀x,ap (λk=>R (i+k)) (Hx (λk=>δ (i+k)) x) (M+1+1)=0:=λx=>by
   have:=h x;rw[show n+1=i+(M+2) by nofun] at this
   have sp:∀b,ap R (Hx δ x) (i+b)=ap R (Hx δ x) i+ap (λk=>R (i+k)) (λk=>Hx δ x (i+k)) b:=λb=>by
    induction b with
    | zero=>show ap R (Hx δ x) i=ap R (Hx δ x) i+0;grind
    | succ b ib =>
     show ap R (Hx δ x) (i+b)+R (i+b)*Hx δ x (i+b)=ap R (Hx δ x) i+(ap (λk=>R (i+k)) (λk=>Hx δ x (i+k)) b+R (i+b)*Hx δ x (i+b));rw[ib];grind
   rw[sp,cq i λj hj=>by rw[pp j λa ha=>ih a ()];grind] at this
   rw[aE (M+2) ‹9› (λk _=>zI ih k)] at this;grind
  obtain⟨L,hL,eL⟩:=D5 (p:=λk=>δ (i+k)) M;have k:eO M λx=>δ i*aQ x M:=by
   have a:=((mM (R:=λk=>R (i+k)) (p:=λk=>δ (i+k)) M).sc (-1)).add (hL.sc (-1));exact a.congr λx=>by
    have q:=e x;have q:ap (λk=>R (i+k)) (Hx (λk=>δ (i+k)) x) (M+1)+R (i+(M+1))*Hx (λk=>δ (i+k)) x (M+1)=0:=q;rw[eL,show i+(M+1)=n by nofun,hR] at q
    have d0:δ (i+0)=δ i:=rfl;rw[d0] at q;show δ i*aQ x M=ap (λk=>R (i+k)) (Hx (λk=>δ (i+k)) x) (M+1) * -1+L x * -1;grind
  exact yy k
theorem BX{s q:Nat->Rat}{x:Rat}:∀i,Hx (λk=>s k-q k) x i=Hx s x i-Hx q x i
 | 0=>by show (0:Rat)=0-0;grind
 | i+1=>by
  show x*Hx (λk=>s k-q k) x i+(s i-q i)=x*Hx s x i+s i-(x*Hx q x i+q i);rw[BX i];grind
theorem AV{R w q p:Nat->Rat}{V D:Rat->Rat}(hR:R n=1)(rec':∀k,ap R (λj=>p (k+j)) (n+1)=0)(hD:∀x,ap R (Hx p x) (n+1)=D x)(hV:Py V)
  (e:∀x,ap w (aQ x) n*D x=ap R (Hx q x) (n+1)+V x*ap R (aQ x) (n+1))(orth:∀k,k+n<N->ap R (λj=>q (k+j)) (n+1)=0):∀k,k<N->ap w (λj=>p (k+j)) n=q k:=by
 have h1:∀x,ap R (Hx (λk=>qE w p n k-q k) x) (n+1)=(V x-ap w (Hx p x) n)*ap R (aQ x) (n+1):=λx=>by
  have b:=AL (f:=R) (g:=w) (p:=p) (x:=x) (m:=n) (n:=n+1);have z:ap w (Hx (qE R p (n+1)) x) n=0:=cq n λi _=>by rw[pp (p:=qE R p (n+1)) i λa _=>rec' a];grind
  have s:ap R (Hx (λk=>qE w p n k-q k) x) (n+1)=ap R (Hx (qE w p n) x) (n+1)-ap R (Hx q x) (n+1):=by
   have:ap R (Hx (λk=>qE w p n k-q k) x) (n+1)=ap R (λi=>Hx (qE w p n) x i + -1*Hx q x i) (n+1):=aE (n+1) ‹9› (λi _=>by rw[BX];grind)
   rw[this,mP];grind
  have:=e x;rw[z,hD] at b;rw[s];grind
 obtain⟨lv,hlv⟩:=hV;have hA:eO n λx=>ap w (Hx p x) n:=by
  cases n with
  | zero=>exact eO.nul
  | succ m=>exact (mM m).mono ()
 have hC:eO (lv.length+n) λx=>V x-ap w (Hx p x) n:=by
  have:=((show eO lv.length (eZ lv) from ⟨lv,Yr _,λ_=>rfl⟩).mono (show lv.length<=lv.length+n by nofun)).add ((hA.sc (-1)).mono (show n<=lv.length+n by nofun))
  exact this.congr λx=>by rw[hlv];grind
 have hr:eO n λx=>ap R (aQ x) n:=by
  have:∀m,eO m λx=>ap R (aQ x) m:=λm=>by
   induction m with
   | zero=>exact eO.nul
   | succ m ih =>
    have:=(ih.mono (show m<=m+1 by nofun)).add (((eO.cst (R m)).pow m).mono (show 1+m<=m+1 by nofun))
    exact this.congr λx=>by
     show ap R (aQ x) m+R m*aQ x m=ap R (aQ x) m+aQ x m*R m;grind
  exact this n
 have c0:=uH (mM (R:=R) (p:=λk=>qE w p n k-q k) n) hr (R:=λx=>ap R (aQ x) (n+1)) (λx=>by
  show ap R (aQ x) n+R n*aQ x n=_;rw[hR];grind) _ _ hC h1
 have d0:=qt (δ:=λk=>qE w p n k-q k) hR (λx=>by rw[h1,c0];grind) n (Yr _)
 have rs:∀k,ap R (λi=>qE w p n (k+i)) (n+1)=0:=λk=>by
  have a:=mi (f:=R) (g:=w) (h:=λi=>p (k+i)) (m:=n) (n+1);have e1:ap R (λi=>qE w p n (k+i)) (n+1)=ap R (λi=>ap w (λj=>p (k+(i+j))) n) (n+1):=aE (n+1) ‹9› (λi _=>aE n ‹9› (λj _=>by rw[XA]))
  rw[e1,a];exact cq n λj _=>by
   have:=rec' (k+j);rw[aE (n+1) (f':=R) (g':=λi=>p (k+j+i)) ‹9› (λi _=>by rw[XA])]
   rw[this];grind
 have all:∀m k,k<m->k<N->qE w p n k=q k:=λm=>by
  induction m with
  | zero=>intro k hk;nofun
  | succ m ih =>
   intro k hk hN;rcases Xw k n with z|z
   .have:=d0 k z;grind
   .obtain⟨j,rfl⟩:∃j,k=j+n:=⟨k-n,()⟩;have a:=rs j;have b:=orth j hN;have a:ap R (λi=>qE w p n (j+i)) n+R n*qE w p n (j+n)=0:=a;have b:ap R (λi=>q (j+i)) n+R n*q (j+n)=0:=b;rw[aE n (f':=R) (g':=λi=>q (j+i)) ‹9› (λi hi=>ih (j+i) () ()),hR] at a;rw[hR] at b;grind
 exact λk hk=>all (k+1) k () hk
theorem Ec{q:Nat->Rat}{x:Rat}:∀m,ap (aQ x) (λk=>q (m-k)) (m+1)=Hx q x (m+1)
 | 0=>by show 0+1*q 0=x*0+q 0;grind
 | m+1=>by
  have s:ap (λi=>aQ x (i+1)) (λi=>q (m+1-(i+1))) (m+1)=x*ap (aQ x) (λk=>q (m-k)) (m+1):=by
   rw[<-gQ];refine aE (m+1) (λi _=>?_) (λi _=>by rw[Nat.add_sub_add_right])
   show aQ x i*x=x*aQ x i;grind
  rw[qK,s,Ec m];show 1*q (m+1)+x*Hx q x (m+1)=x*Hx q x (m+1)+q (m+1);grind
theorem qC{R q:Nat->Rat}{x:Rat}:∀m,ap (λk=>ap (λt=>R (k+1+t)) q (m-k)) (aQ x) m=ap R (Hx q x) (m+1)
 | 0=>by show (0:Rat)=0+R 0*0;grind
 | m+1=>by
  have s:ap (λk=>ap (λt=>R (k+1+t)) q (m+1-k)) (aQ x) (m+1)=ap (λk=>ap (λt=>R (k+1+t)) q (m-k)) (aQ x) (m+1)+R (m+1)*ap (aQ x) (λk=>q (m-k)) (m+1):=by
   rw[vZ (f:=aQ x),<-gQ,<-iT];refine aE (m+1) (λk hk=>?_) ‹9›;rw[show m+1-k=m-k+1 by nofun]
   show ap (λt=>R (k+1+t)) q (m-k)+R (k+1+(m-k))*q (m-k)=_;rw[show k+1+(m-k)=m+1 by nofun]
  have z:ap (λk=>ap (λt=>R (k+1+t)) q (m-k)) (aQ x) (m+1)=ap (λk=>ap (λt=>R (k+1+t)) q (m-k)) (aQ x) m:=by
   show _+ap _ q (m-m)*aQ x m=_;rw[XF];show _+0*aQ x m=_;grind
  rw[s,z,qC m,Ec];rfl
theorem kq{f:Nat->Rat}{x:Rat}:∀n,eE f n x=ap f (aQ x) n
 | 0=>rfl
 | n+1=>by
  show eE f n x+f n*aQ x n=_;rw[kq n];rfl
def FG(rs qs ws:Lt):Prop:=∃V:Rat->Rat,Py V /\ ∀x,ap (cf ws) (aQ x) (rs.length-1)*EV (DF (cf rs)) x=ap (cf rs) (Hx (cf qs) x) rs.length+V x*ap (cf rs) (aQ x) rs.length
theorem FG.of{ws us:Lt}(r0:rs≠[])(lr:rs.length<=7)(lw:ws.length<rs.length)(lu:us.length<rs.length)(eu:∀k,k<rs.length-1->cf us k=ap (cf (rs.drop (k+1))) (cf qs) (rs.drop (k+1)).length)(h:∃V:Rat->Rat,Py V /\ ∀x,EV (cf ws) x*EV (DF (cf rs)) x=EV (cf us) x+V x*EV (cf rs) x):FG rs qs ws:=by
 obtain⟨V,pV,e⟩:=h;have l0:=List.length_pos_iff.mpr r0;refine⟨V,pV,λx=>?_⟩;have a:=e x;rw[fJ (f:=cf ws) (n:=rs.length-1) (λk hk=>aJ ()) (),fJ (f:=cf rs) (n:=rs.length) (λk hk=>aJ hk) (),fJ (f:=cf us) (n:=rs.length-1) (λk hk=>aJ ()) (),kq,kq,kq] at a;have b:ap (cf us) (aQ x) (rs.length-1)=ap (cf rs) (Hx (cf qs) x) rs.length:=by
  have c:=qC (R:=cf rs) (q:=cf qs) (x:=x) (rs.length-1);rw[show rs.length-1+1=rs.length by nofun] at c
  rw[<-c];refine aE _ (λk hk=>?_) ‹9›;rw[eu k hk,YH,show rs.length-(k+1)=rs.length-1-k by nofun]
  exact aE _ (λt _=>sS) ‹9›
 rw[b] at a;exact a
def iy(us rs:Nat->Rat)(d:Nat)(T:Nat->Rat)(k:Nat):Prop:=T k=(if k<d then us (d-1-k) else 0)-ap (λb=>rs (d-1-b)) (λb=>T (k-1-b)) (min k d)
noncomputable def oA(us rs:Nat->Rat)(d:Nat):Nat->Nat->Rat
 | 0=>λ_=>0
 | n+1=>λk=>if k<n then oA us rs d n k else (if n<d then us (d-1-n) else 0)-ap (λb=>rs (d-1-b)) (λb=>oA us rs d n (n-1-b)) (min n d)
theorem qu{us rs:Nat->Rat}{d n:Nat}:∀m k,k<n->oA us rs d (n+m) k=oA us rs d n k
 | 0,_,_=>rfl
 | m+1,k,h=>by
  show (if k<n+m then oA us rs d (n+m) k else _)=_
  rw[Yb (),qu m k h]
theorem Gm(us rs:Nat->Rat)(d:Nat):∃T:Nat->Rat,∀k,iy us rs d T k:=by
 refine⟨λk=>oA us rs d (k+1) k,λk=>?_⟩;unfold iy;show (if k<k then _ else _)=_
 rw[Yc ()];congr 1
 refine aE _ ‹9› (λb hb=>?_);show oA us rs d k (k-1-b)=oA us rs d (k-1-b+1) (k-1-b);have:=qu (us:=us) (rs:=rs) (d:=d) (n:=k-1-b+1) b (k-1-b) ();rw[show k-1-b+1+b=k by nofun] at this
 exact this
theorem sr{us rs T T':Nat->Rat}{d n:Nat}(h:∀k,k<n->iy us rs d T k)(h':∀k,k<n->iy us rs d T' k):∀m k,k<m->k<n->T k=T' k
 | 0,_,h,_=>by nofun
 | m+1,k,hm,hn=>by
  rw[h k hn,h' k hn];congr 1
  exact aE _ ‹9› (λb hb=>sr h h' m _ () ())
theorem wo{rs T:Nat->Rat}(one:rs d=1)(h:∀k,iy us rs d T k)(k:Nat):ap rs (λj=>T (k+j)) (d+1)=0:=by
 have a:=h (k+d);unfold iy at a;rw[Yc (),show min (k+d) d=d by nofun] at a
 have b:ap (λb=>rs (d-1-b)) (λb=>T (k+d-1-b)) d=ap rs (λj=>T (k+j)) d:=by
  rw[<-tU (f:=rs) (g:=λj=>T (k+j))];exact aE d ‹9› (λb hb=>by rw[show k+(d-1-b)=k+d-1-b by nofun])
 rw[b] at a;show ap rs (λj=>T (k+j)) d+rs d*T (k+d)=0;rw[one];grind
theorem xN{rs T:Nat->Rat}(one:rs d=1)(h:∀k,iy us rs d T k)(x:Rat):ap rs (Hx T x) (d+1)=ap us (aQ x) d:=by
 rw[<-qC];refine aE d (λk hk=>?_) ‹9›;obtain⟨m,hm⟩:∃m,d-k=m+1:=⟨d-1-k,()⟩;have a:=h m;unfold iy at a;rw[Yb (),show min m d=m by nofun,show d-1-m=k by nofun] at a
 have b:ap (λb=>rs (d-1-b)) (λb=>T (m-1-b)) m=ap (λt=>rs (k+1+t)) T m:=by
  rw[<-tU (f:=λt=>rs (k+1+t)) (g:=T)];exact aE m (λb hb=>by rw[show k+1+(m-1-b)=d-1-b by nofun]) ‹9›
 rw[b] at a;rw[hm];show ap (λt=>rs (k+1+t)) T m+rs (k+1+m)*T m=us k;rw[show k+1+m=d by nofun,one]
 grind
theorem FG.sums{ws:Lt}{T:Nat->Rat}(h:FG rs qs ws)(lr:rs.length=d+1)(l20:d<=18)(one:cf rs d=1)(hu:∀k,us k=((k+1:Nat):Int)*cf rs (k+1))(hT:∀k,iy us (cf rs) d T k)(orth:∀k,k+d<qs.length->ap (cf rs) (λj=>cf qs (k+j)) (d+1)=0):∀k,k<qs.length->ap (cf ws) (λj=>T (k+j)) d=cf qs k:=by
 obtain⟨V,pV,e⟩:=h;refine AV (R:=cf rs) (D:=λx=>EV (DF (cf rs)) x) (V:=V) one (wo one hT) (λx=>?_) pV (λx=>?_) orth
 .rw[xN one hT,fJ (f:=DF (cf rs)) (n:=d) (λk hk=>?_) (),kq]
  .exact aE d (λk _=>hu k) ‹9›
  .unfold DF;rw[aJ ()];grind
 .have:=e x;rw[lr,Nat.add_sub_cancel] at this;exact this
theorem rh{rs T w:Nat->Rat}(one:rs d=1)(h:∀k,iy us rs d T k)(k:Nat):ap rs (λi=>ap w (λj=>T (k+i+j)) n) (d+1)=0:=by
 have a:=mi (f:=rs) (g:=w) (h:=λi=>T (k+i)) (m:=n) (d+1);have e1:ap rs (λi=>ap w (λj=>T (k+i+j)) n) (d+1)=ap rs (λi=>ap w (λj=>T (k+(i+j))) n) (d+1):=aE (d+1) ‹9› (λi _=>aE n ‹9› (λj _=>by rw[XA]))
 rw[e1,a];exact cq n λj _=>by
  rw[aE (d+1) (f':=rs) (g':=λi=>T (k+j+i)) ‹9› (λi _=>by rw[XA]),wo one h (k+j)]
  grind
def DN(S:Nat->Rat)(n:Nat):Prop:=∀f:Nat->Rat,(∀i,n<=i->f i=0)->(∃i,f i≠0)->0<ip S f f n n
theorem DL{W:Nat->Int}(hB:0<B)(hS:∀i,‹W i›=S i*(B:Rat))(hD:∀i,i<=n->0<Dk W i):DN S n:=λf hf ⟨i,hi⟩=>by
 obtain⟨a,b⟩:=pd hB hS n hD f hf;rcases Rat.le_iff_lt_or_eq.mp a with z|z
 .exact z
 .exact absurd (b z.symm i) hi
theorem F4{T:Nat->Rat}(h:∀i,i+1<a+b->S i=T i):ip S u v a b=ip T u v a b:=by
 unfold ip;exact aE a ‹9› λi hi=>aE b ‹9› λj hj=>h (i+j) ()
theorem DN.congr{T:Nat->Rat}(h:DN S n)(e:∀i,i+1<n+n->T i=S i):DN T n:=λf hf hz=>by
 rw[F4 e];exact h f hf hz
theorem DN.less(h:DN S n)(hm:m<=n):DN S m:=λf hf hz=>by
 have e:ip S f f n n=ip S f f m m:=by
  rw[zS hf hm,fQ,zS hf hm,fQ]
 rw[<-e];exact h f (λi hi=>hf i ()) hz
theorem EO:ip S u v m n=ap u (λi=>ap v (λj=>S (i+j)) n) m:=rfl
theorem yh{W:Nat->Int}(dn:Dk W k≠0)(hB:B≠0)(hS:∀i,‹W i›=S i*(B:Rat)):ip S (Pk W k) (Pk W k) (k+1) (k+1)=‹Dk W (k+1)›/(‹Dk W k›*(B:Rat)):=by
 rw[zg dn hB hS (Yr _)];show ap (Pk W k) _ k+Pk W k k*(‹Lq W k k›/_)=_;rw[cq k λi hi=>by rw[gY hi,show ‹0›=0 from rfl];grind,fg,jQ dn]
 grind
theorem K3{W:Nat->Int}(hB:0<B)(hS:∀i,‹W i›=S i*(B:Rat))(h:DN S n):∀i,i<=n->0<Dk W i:=λi=>by
 induction i with
 | zero=>intro _;rw[Az];decide
 | succ i ih =>
  intro hi;have di:=ih ();have dn:Dk W i≠0:=();have top:Pk W i i=1:=by
   show ‹qk W i i›/‹Dk W i›=1;rw[fi];have:=ao dn;grind
  have p:=h.less (show i+1<=n by nofun) (Pk W i) (λj hj=>by
   show ‹qk W i j›/_=0;rw[dQ ()];have c0:‹0›=0:=rfl;rw[c0];grind) ⟨i,by rw[top];decide⟩
  rw[yh dn () hS] at p;have cB:(0:Rat)<(B:Rat):=Rat.intCast_pos.mpr hB;have cD:(0:Rat)<‹Dk W i›:=Rat.intCast_pos.mpr di;have cc:=Rat.mul_pos cD cB;have q:=Rat.mul_pos p cc;rw[Rat.div_mul_cancel ⋯] at q;exact Rat.intCast_pos.mp q
structure Hf (K:Sf)(x:Str)(st:Stmt):Prop where
 ex:∃f fd,de K x x st f fd/\PySem.W.nsIn K mainGlobals x=some (some (.ref f))
theorem Hf.of{K:Sf}{x:Str}{st:Stmt}{f:Addr}{oc:Value}{od an:Option Addr}{osl:Array (Option Value)}{kV doc pm cdv ct:Value}(a:PySem.W.nsIn K mainGlobals x=some (some (.ref f)))(l:K.lookup f=some ⟨oc,od,.func (PySem.W.fnOf x x (fb st) (dj st) (ak st) .none kV doc pm an cdv ct),osl⟩)(c:PySem.W.codeIn K cdv x=true)(k:PySem.W.keepIn K (.ref f)=true):Hf K x st:=⟨_,_,uP l c k,a⟩
structure Fo (P:Program)(w:World)(K:Sf)(mg:Str->Option Value)(base:Heap):Prop where
 ex:∃h:Heap,K.In h/\h.Ns mainGlobals mg
section
variable {P:Program}{w:World}{K:Sf}{mg:Str->Option Value}{base:Heap}{x:Str}{st:Stmt}{ps:List Str}{n:Nat}{sp:Sp}
theorem Hf.at_(hf:Hf K x st)(E:Fo P w K mg base):∃f fd,de K x x st f fd/\mg x=some (.ref f)/\PySem.W.keepIn K (.ref f)=true:=by
 obtain⟨f,fd,F,a⟩:=hf.ex;obtain⟨h,X,G⟩:=E.ex;exact⟨f,fd,F,XG X G a,F.kp⟩
theorem Hf.cal(hf:Hf K x st)(E:Fo P w K mg base)(ok:∀{f:Addr}{fd:FuncData},de K x x st f fd->aZ P w K mg base dy n f fd ps sp)
  (b:∀(kV doc pm:Value)(an:Option Addr)(cdv ct:Value)(us:List Value),us.length=ps.length->bindArgs (PySem.W.fnOf x x (fb st) (dj st) (ak st) .none kV doc pm an cdv ct) ⟨us,[]⟩=pure (ps.zip us):=by walk_at"bd"):bV P w K mg base x ps n sp:=by
 obtain⟨f,fd,F,a,k⟩:=hf.at_ E;exact⟨f,fd,ok F,a,k,F.binds b⟩
theorem Hf.calX(hf:Hf K x st)(E:Fo P w K mg base)(ok:∀{f:Addr}{fd:FuncData},de K x x st f fd->aZ P w K mg base (mX P w) n f fd ps sp)
  (b:∀(kV doc pm:Value)(an:Option Addr)(cdv ct:Value)(us:List Value),us.length=ps.length->bindArgs (PySem.W.fnOf x x (fb st) (dj st) (ak st) .none kV doc pm an cdv ct) ⟨us,[]⟩=pure (ps.zip us):=by walk_at"bd"):EA P w K mg base x ps n sp:=by
 obtain⟨f,fd,F,a,k⟩:=hf.at_ E;exact⟨f,fd,ok F,a,k,F.binds b⟩
end
end L2
set_option maxHeartbeats 8000000
namespace M
open PySem L2
variable {j n N d k g b:Nat}{G G':Hp}{t:Addr}{qs rs:Lt}{cs:List mO}{B:Int}{c:Lt×(Int×Int)}
abbrev Se(K:Sf)(x:Str)(s:Stmt)(f:Addr)(fd:FuncData):=de K x x s f fd
abbrev LE(K:Sf)(H H':Hp):=aB (vw K H) (vw K H')
open PySem.W (nsIn keepIn codeIn fnOf)
inductive X2 {A B:Type}(p:A->B->Prop):Prop
 | mk (a:A)(b:B)(h:p a b):X2 p
inductive X3 {A B C:Type}(p:A->B->C->Prop):Prop
 | mk (a:A)(b:B)(c:C)(h:p a b c):X3 p
inductive X4 {A B C D:Type}(p:A->B->C->D->Prop):Prop
 | mk (a:A)(b:B)(c:C)(d:D)(h:p a b c d):X4 p
inductive X5 {A B C D E:Type}(p:A->B->C->D->E->Prop):Prop
 | mk (a:A)(b:B)(c:C)(d:D)(e:E)(h:p a b c d e):X5 p
inductive X6 {A B C D E F:Type}(p:A->B->C->D->E->F->Prop):Prop
 | mk (a:A)(b:B)(c:C)(d:D)(e:E)(f:F)(h:p a b c d e f):X6 p
inductive X8 {A B C D E F G H:Type}(p:A->B->C->D->E->F->G->H->Prop):Prop
 | mk (a:A)(b:B)(c:C)(d:D)(e:E)(f:F)(g:G)(i:H)(h:p a b c d e f g i):X8 p
inductive Mq {A0 A1 A2 A3 A4 A5 A6 A7 A8 A9 A10 A11 A12 A13:Type}(p:A0->A1->A2->A3->A4->A5->A6->A7->A8->A9->A10->A11->A12->A13->Prop):Prop
 | mk (a0:A0)(a1:A1)(a2:A2)(a3:A3)(a4:A4)(a5:A5)(a6:A6)(a7:A7)(a8:A8)(a9:A9)(a10:A10)(a11:A11)(a12:A12)(a13:A13)(h:p a0 a1 a2 a3 a4 a5 a6 a7 a8 a9 a10 a11 a12 a13):Mq p
inductive Mt {A0 A1 A2 A3 A4 A5 A6 A7 A8 A9 A10 A11 A12 A13 A14:Type}(p:A0->A1->A2->A3->A4->A5->A6->A7->A8->A9->A10->A11->A12->A13->A14->Prop):Prop
 | mk (a0:A0)(a1:A1)(a2:A2)(a3:A3)(a4:A4)(a5:A5)(a6:A6)(a7:A7)(a8:A8)(a9:A9)(a10:A10)(a11:A11)(a12:A12)(a13:A13)(a14:A14)(h:p a0 a1 a2 a3 a4 a5 a6 a7 a8 a9 a10 a11 a12 a13 a14):Mt p
def top(i:Nat):Stmt:=PySem.Challenge.pw_momentwright_k62_flocks_with_a_told_root.main.body.getD i (.Pass ⟨0,0,0,0⟩)
abbrev fh:Stmt:=top 12
theorem gy:ay ["one","other"] ["one","other"] (ak fh):=‹8›
abbrev ux:Stmt:=top 13
theorem wH:ay ["base","many","product","turn"] ["base","many"] (ak ux):=‹8›
abbrev no:Stmt:=top 14
theorem qS:ay ["numbers","zero","many"] ["numbers","zero"] (ak no):=‹8›
abbrev eI:Stmt:=top 15
theorem gh:ay ["one","other","product","j","former","k","latter"] ["one","other"] (ak eI):=‹8›
abbrev jT:Stmt:=top 16
theorem mj:ay ["wholes","top","bottom","total","scale","whole"] ["wholes","top","bottom"] (ak jT):=‹8›
abbrev gv:Stmt:=top 17
theorem iL:ay ["one","other","last","rest","quotient","scale","place","part","k"] ["one","other"] (ak gv):=‹8›
abbrev gX:Stmt:=top 18
theorem jy:ay ["one","other","told","lead","height","gap","bottom","quotient","rest","scale","top","lack"] ["one","other"] (ak gX):=‹8›
abbrev ui:Stmt:=top 20
theorem wt:ay ["top","bottom","divisor"] ["top","bottom"] (ak ui):=‹8›
abbrev tZ:Stmt:=top 21
theorem wD:ay ["one","other"] ["one","other"] (ak tZ):=‹8›
abbrev sT:Stmt:=top 22
theorem wG:ay ["one","other"] ["one","other"] (ak sT):=‹8›
abbrev yl:Stmt:=top 23
theorem y8:ay ["one","other"] ["one","other"] (ak yl):=‹8›
abbrev jY:Stmt:=top 26
theorem mV:ay ["f","place"] ["f","place"] (ak jY):=‹8›
abbrev kZ:Stmt:=top 27
theorem oC:ay ["f","g","many"] ["f","g"] (ak kZ):=‹8›
abbrev m4:Stmt:=top 28
theorem qX:ay ["f","bottom","number"] ["f"] (ak m4):=‹8›
abbrev oq:Stmt:=top 29
theorem qd:ay ["wholes","bottom"] ["wholes","bottom"] (ak oq):=‹8›
abbrev tV:Stmt:=top 30
theorem wa:ay ["f","by"] ["f","by"] (ak tV):=‹8›
abbrev ue:Stmt:=top 31
theorem wE:ay ["f"] ["f"] (ak ue):=‹8›
abbrev ke:Stmt:=top 32
theorem mz:ay ["f","x","wholes","bottom","total","scale"] ["f","x"] (ak ke):=‹8›
abbrev gZ:Stmt:=top 33
theorem jB:ay ["f","g","other","f_wholes","f_bottom","g_wholes","g_bottom","rest","scale"] ["f","g","other"] (ak gZ):=‹8›
abbrev mZ:Stmt:=top 34
theorem pQ:ay ["f","g","wholes","bottom","former","latter","last","rest","quotient","top","scale","numbers","place","whole"] ["f","g"] (ak mZ):=‹8›
abbrev tJ:Stmt:=top 36
theorem vL:ay ["sums","f","numbers","numbers_bottom","wholes","bottom"] ["sums","f"] (ak tJ):=‹8›
abbrev jf:Stmt:=top 39
theorem kT:ay ["above","roots"] ["above","roots"] (ak jf):=‹8›
abbrev Cb:Stmt:=top 41
theorem DG:ay ["wholes","row","k"] ["wholes","row","k"] (ak Cb):=‹8›
abbrev lB:Stmt:=top 42
theorem ow:ay ["wholes","row","before","k","last","height","middle","told","place","number"] ["wholes","row","before"] (ak lB):=‹8›
abbrev j7:Stmt:=top 43
theorem mG:ay ["wholes","rows","before","row"] ["wholes"] (ak j7):=‹8›
abbrev uA:Stmt:=top 44
theorem vJ:ay ["sums","wholes","bottom","told","k","row"] ["sums"] (ak uA):=‹8›
abbrev gw:Stmt:=top 45
theorem iP:ay ["sums","row"] ["sums"] (ak gw):=‹8›
abbrev jg:Stmt:=top 47
theorem kR:ay ["sums","step","k"] ["sums","step"] (ak jg):=‹8›
abbrev nI:Stmt:=top 48
theorem qW:ay ["sums","step","square"] ["sums"] (ak nI):=‹8›
abbrev qP:Stmt:=top 49
theorem rN:ay ["told"] ["told"] (ak qP):=‹8›
abbrev jr:Stmt:=top 50
theorem kQ:ay ["sums","roots","above"] ["sums","roots"] (ak jr):=‹8›
abbrev zt:Stmt:=top 52
theorem uc:ay ["sums","told"] ["sums"] (ak zt):=‹8›
abbrev iW:Stmt:=top 54
theorem ir:ay ["sums","spot","word","roots","step","number","many"] ["sums","spot"] (ak iW):=‹8›
abbrev m7:Stmt:=top 56
theorem sy:ay ["_law_one","_law_other"] ["_law_one","_law_other"] (ak m7):=‹8›
abbrev Cg:Stmt:=top 57
theorem GM:ay ["_law_top","_law_bottom","_law_by"] ["_law_top","_law_bottom"] (ak Cg):=‹8›
abbrev yc:Stmt:=top 58
theorem Dl:ay ["_law_one","_law_other"] ["_law_one","_law_other"] (ak yc):=‹8›
abbrev wS:Stmt:=top 59
theorem Bv:ay ["_law_one","_law_other"] ["_law_one","_law_other"] (ak wS):=‹8›
abbrev tY:Stmt:=top 60
theorem yq:ay ["_law_one","_law_other"] ["_law_one","_law_other"] (ak tY):=‹8›
abbrev sN:Stmt:=top 61
theorem yP:ay ["_law_sums_here","_law_f","_law_found","_law_place"] ["_law_sums_here","_law_f"] (ak sN):=‹8›
abbrev tN:Stmt:=top 62
theorem zk:ay ["_law_numbers","_law_many"] ["_law_numbers"] (ak tN):=‹8›
abbrev je:Stmt:=top 63
theorem lX:ay ["_law_f","_law_g","_law_found","_law_i","_law_j"] ["_law_f","_law_g"] (ak je):=‹8›
abbrev qR:Stmt:=top 64
theorem uY:ay ["_law_sums_here","_law_f","_law_g"] ["_law_sums_here","_law_f","_law_g"] (ak qR):=‹8›
abbrev qV:Stmt:=top 65
theorem wm:ay ["_law_f","_law_g","_law_by","_law_found","_law_place"] ["_law_f","_law_g","_law_by"] (ak qV):=‹8›
abbrev um:Stmt:=top 66
theorem yn:ay ["_law_sums_here","_law_start","_law_found","_law_step","_law_one","_law_square_here","_law_by"] ["_law_sums_here","_law_start","_law_found"] (ak um):=‹8›
abbrev LQ:Stmt:=top 67
theorem Mr:ay ["_law_many"] ["_law_many"] (ak LQ):=‹8›
abbrev sL:Stmt:=top 68
theorem yC:ay ["_law_sums_here","_law_found","_law_step"] ["_law_sums_here"] (ak sL):=‹8›
abbrev xK:Stmt:=top 69
theorem Cu:ay ["_law_sums_here","_law_last","_law_square_here","_law_many"] ["_law_sums_here"] (ak xK):=‹8›
abbrev nD:Stmt:=top 70
theorem si:ay ["_law_call","_law_error","e","_law_kinds"] ["_law_call"] (ak nD):=‹8›
abbrev jM:Stmt:=top 71
theorem oK:ay ["_law_f","_law_x_here","_law_found","_law_one"] ["_law_f","_law_x_here"] (ak jM):=‹8›
abbrev tK:Stmt:=top 72
theorem yZ:ay ["_law_thing"] ["_law_thing"] (ak tK):=‹8›
abbrev iH:Stmt:=top 73
theorem kL:ay ["_law_thing"] ["_law_thing"] (ak iH):=‹8›
abbrev gu:Stmt:=top 74
theorem jC:ay ["_law_thing"] ["_law_thing"] (ak gu):=‹8›
abbrev uU:Stmt:=top 75
theorem yH:ay ["_law_one","_law_other"] ["_law_one","_law_other"] (ak uU):=‹8›
abbrev ni:Stmt:=top 76
theorem sD:ay ["_law_upper","_law_under","_law_many","_law_degree","_law_found","_law_k","_law_amount","_law_behind"] ["_law_upper","_law_under","_law_many"] (ak ni):=‹8›
abbrev sO:Stmt:=top 77
theorem zM:ay ["_law_f"] ["_law_f"] (ak sO):=‹8›
abbrev jv:Stmt:=top 78
theorem mr:ay ["_law_flock","_law_many","_law_roots","_law_weights","_law_powers"] ["_law_flock","_law_many"] (ak jv):=‹8›
abbrev lH:Stmt:=top 79
theorem ql:ay ["_law_thing","_law_roots","_law_weights","_law_some"] ["_law_thing"] (ak lH):=‹8›
abbrev Dj:Stmt:=top 80
theorem Hd:ay ["_law_flock","_law_sums_here"] ["_law_flock","_law_sums_here"] (ak Dj):=‹8›
abbrev kY:Stmt:=top 81
theorem xE:ay ["_law_found","_law_due"] ["_law_found","_law_due"] (ak kY):=‹8›
abbrev nh:Stmt:=top 82
theorem rM:ay ["_law_script","_law_k"] ["_law_script","_law_k"] (ak nh):=‹8›
abbrev tM:Stmt:=top 83
theorem yG:ay ["_law_script","_law_k","_law_cell"] ["_law_script","_law_k"] (ak tM):=‹8›
abbrev wP:Stmt:=top 84
theorem Ca:ay ["_law_state_here","_law_many","_law_found","_law_mixed"] ["_law_state_here","_law_many"] (ak wP):=‹8›
abbrev sV:Stmt:=top 85
theorem zy:ay ["_law_state_here"] ["_law_state_here"] (ak sV):=‹8›
abbrev uC:Stmt:=top 86
theorem zW:ay ["_law_state_here"] ["_law_state_here"] (ak uC):=‹8›
abbrev uR:Stmt:=top 87
theorem yR:ay ["_law_state_here","_law_most","_law_found","_law_spot","_law_turn"] ["_law_state_here","_law_most"] (ak uR):=‹8›
abbrev ji:Stmt:=top 88
theorem mW:ay ["_law_state_here","_law_most","_law_found"] ["_law_state_here","_law_most"] (ak ji):=‹8›
abbrev i9:Stmt:=top 89
theorem mR:ay ["_law_state_here","_law_middle","_law_found","_law_off","_law_turn","_law_weight"] ["_law_state_here"] (ak i9):=‹8›
abbrev jp:Stmt:=top 90
theorem mQ:ay ["_law_crowd_here","_law_many","_law_found","_law_powers","_law_k","_law_amount","_law_one"] ["_law_crowd_here","_law_many"] (ak jp):=‹8›
abbrev lh:Stmt:=top 91
theorem qT:ay ["_law_state_here","_law_crowd_here","_law_spot","_law_way","_law_sums_here"] ["_law_state_here"] (ak lh):=‹8›
abbrev xG:Stmt:=top 92
theorem Di:ay ["_law_state_here","_law_many","_law_way","_law_found","_law_at"] ["_law_state_here"] (ak xG):=‹8›
abbrev fW:Stmt:=top 93
theorem yA:ay ["_law_sums_here","_law_spot","_law_handed","_law_last","_law_square_here","_law_is_root","_law_found","_law_few","_law_told"] ["_law_sums_here","_law_spot"] (ak fW):=‹8›
abbrev mE:Stmt:=top 94
theorem CG:ay ["_law_script","_law_k","_law_state_here","_law_sums_here","_law_spot"] ["_law_script"] (ak mE):=‹8›
structure dS (K:Sf)(mg:Str->Option Value):Prop where
 non:True
 g_ZERO:GT K mg "ZERO" [V.int (0),V.int (1)]
 g_ONE:GT K mg "ONE" [V.int (1),V.int (1)]
 b_abs:mg "abs"=none
 b_range:mg "range"=none
 b_len:mg "len"=none
 b_enumerate:mg "enumerate"=none
 b_reversed:mg "reversed"=none
 b_max:mg "max"=none
 b_list:mg "list"=none
 b_sum:mg "sum"=none
 b_zip:mg "zip"=none
 b_isinstance:mg "isinstance"=none
 b_ValueError:mg "ValueError"=none
 b_bool:mg "bool"=none
 b_int:mg "int"=none
 b_tuple:mg "tuple"=none
 b_min:mg "min"=none
 b_all:mg "all"=none
set_option compiler.extract_closed false
local macro_rules | `(tactic| walk_at "m")=>do let s:=("L2.start List.map_cons List.map_nil List.cons_append List.nil_append List.replicate_succ List.replicate_zero List.length_cons List.length_nil Nat.reduceSub Nat.reduceAdd Nat.zero_add BR As Hk ze LU Fc Ib Fy Ma Kn Mf Hg GU JI Jj JS Jo FT Jq E3 Gr Jp Jt GA Fh zT DS KY KT".splitOn " ").toArray.map (Lean.mkIdent ·.toName); `(tactic| try simp only [$[$s:term],*])
local macro_rules | `(tactic| walk_at "d")=>do let s:=("aK xc Bo HL JF Kg Cc wQ gj KL jH wk Ij tC F9 Mc FJ ED LJ IG md At HV Mg IE LP vY vV Gu wZ id Mi uT CV K7 BR Kh cz Fj List.getElem?_cons_zero List.getElem?_cons_succ List.set_cons_zero List.set_cons_succ L2.start Option.join Option.bind List.map_cons List.map_nil List.replicate_succ List.replicate_zero List.cons_append List.nil_append List.length_cons List.length_nil Nat.reduceSub Nat.reduceAdd Nat.zero_add rG yD CJ IV C7 mI LG mU E2 EK JR HZ II JH DZ KA B0 yN Jd Kv CA CW Ae Ah Dv LW Md EW BU Cv Cn Ic JC cond".splitOn " ").toArray.map (Lean.mkIdent ·.toName); `(tactic| try dsimp only [$[$s:term],*])
local macro_rules | `(tactic| walk_at "s")=>do let s:=("pO E6 List.map_cons List.map_nil List.cons_append List.nil_append List.replicate_succ List.replicate_zero Option.join Option.bind cz Ka Ld rI rU jL dL eC nr pH uj FA EU AG Dh jH wk zn J6 J2 ij fH ky dR GW jw dN jF K9 GC HO.lst.injEq HO.tup.injEq Fb C9 LV Eg exists_eq_left exists_eq_left' exists_and_left exists_and_right V.int.injEq V.bl.injEq V.ref.injEq V.str.injEq V.ty.injEq List.cons.injEq and_true true_and and_self List.getElem?_cons_zero List.getElem?_cons_succ Option.some.injEq List.set_cons_zero List.set_cons_succ reduceCtorEq or_false false_or false_and and_false exists_false exists_eq exists_eq' and_assoc List.length_cons List.length_nil Nat.reduceSub Nat.reduceAdd Nat.zero_add Bool.not_eq_true' decide_eq_false_iff_not decide_eq_true_eq ES Dg DX AH ne_eq not_true_eq_false not_false_eq_true ite_true ite_false if_true if_false Bool.false_eq_true Bool.not_true Bool.not_false Bool.true_eq_false".splitOn " ").toArray.map (Lean.mkIdent ·.toName); `(tactic| try simp only [$[$s:term],*])
local macro_rules | `(tactic| walk_at "vc")=>`(tactic| (walk_at "d"; walk_at "s"; walk_at "d"; walk_at "s"; walk_at "d"; walk_at "s"))
local macro_rules | `(tactic| walk_at "1")=>`(tactic| (refine aK.gen λN1 hN1=>?_;symm))
local macro_rules | `(tactic| walk_at "2")=>`(tactic| (refine aK.gen λN2 hN2=>?_;symm))
local macro_rules | `(tactic| walk_at "3")=>`(tactic| (refine aK.gen λN3 hN3=>?_;symm))
local macro_rules | `(tactic| walk_at "4")=>`(tactic| (refine aK.gen λN4 hN4=>?_;symm))
local macro_rules | `(tactic| walk_at "5")=>`(tactic| (refine aK.gen λN5 hN5=>?_;symm))
local macro_rules | `(tactic| walk_at "vc*")=>`(tactic| (walk_at "vc"; (repeat (simp only [*]; walk_at "vc"))))
section
variable {P:Program}{w:World}{K:Sf}{mg:Str->Option Value}{base:Heap}{f:Addr}{fd:FuncData}
local macro_rules | `(⟨⟩)=>`(bV P w K mg base)
local macro_rules | `(#[])=>`(aZ P w K mg base dy)
local macro_rules | `(s!"")=>`(ai ar (by rfl) T.b_len aG)
def cT(K:Sf):Sp:=λvs H Q _=>∃a b:Int,vs=[.int a,.int b]/\Q (.int (Int.gcd a b)) H
theorem kI(F:Se K "greatest_divisor" fh f fd)(T:dS K mg):#[] 1 f fd ["one","other"] (cT K):=by
 have scN:=gy.nd;refine F.okQ gy ?_ ?_;walk_at "q"
 .obtain⟨a,b,rfl,_⟩:=h;rfl
 .obtain⟨a,b,rfl,h⟩:=h;refine⟨_,(ae (uD (i:=0) (j:=1) rfl scN rfl rfl ∅ rfl rfl (aa (ai qj (by rfl) T.b_abs yi (aa (qv 0) ac)) (aa (ai qj (by rfl) T.b_abs yi (aa (qv 1) ac)) ac)) rfl)
   (ae (gk PassesOwn.never (aD kU (qv 1) af (aC _)) (ag (uD (i:=0) (j:=1) rfl scN rfl rfl ∅ rfl rfl (aa (qv 1) (aa (aq f9 (qv 0) (qv 1)) ac)) rfl)))
   (ag (av (qv 0))))),?_⟩
  walk_at"m";symm
  refine⟨λm σ H'=>H'=H /\ ∃x y:Int,σ=[some (.int x),some (.int y)]/\Int.gcd x y=Int.gcd a b/\0<=x/\0<=y/\m=y.natAbs,⟨_,rfl,_,_,rfl,?_,?_,?_,rfl⟩,?_⟩
  .split<;>split<;>simp
  .split<;>nofun
  .split<;>nofun
  .rintro m σ H' ⟨rfl,x,y,rfl,hg,hx,hy,rfl⟩;symm
   refine cK (λhy0=>?_) (λhy0=>?_)
   .refine⟨_,λσ' H' h=>h,?_⟩;symm
    exact⟨hy0,_,zG x hy0,by rw[vB,hg],hy,YV x (),rfl⟩
   .symm
    have e:((Int.gcd a b:Nat):Int)=x:=by
     rw[<-hg,show y=0 by nofun]
     simp;nofun
    rw[<-e];exact h
def dr(K:Sf):Sp:=λvs H Q _=>∃a b:Int,vs=[.int a,.int b]/\b≠0/\Bt 90000000 b /\ ∀v H',LE K H H'->aI (vw K H') (fr (lo a b)) v->Q v H'
theorem CK(F:Se K "ratio" ui f fd)(T:dS K mg)(N_:qp P base)(C_greatest_divisor:⟨⟩ "greatest_divisor" ["one","other"] 1 (cT K)):#[] 2 f fd ["top","bottom"] (dr K):=by
 have scN:=wt.nd;refine F.okQ wt ?_ ?_;walk_at "q"
 .obtain⟨a,b,rfl,_⟩:=h;rfl
 .obtain⟨a,b,rfl,hb,hbb,h⟩:=h;refine⟨_,(ae (bQ (aD dY (qv 1) af (aC _)) (ag jW) aL)
   (ae (L4 (i:=2) (Sd C_greatest_divisor (aa (qv 0) (aa (qv 1) ac))))
   (ae (bQ (aD mD (qv 1) af (aC _)) (ag (L4 (i:=2) (dD cI (qv 2)))) aL)
   (ag (av (aT (aa (aq (hZ N_ hr rfl rfl rfl) (qv 0) (qv 2)) (aa (aq (hZ N_ hr rfl rfl rfl) (qv 1) (qv 2)) ac)))))))),?_⟩
  walk_at"m";symm
  simp only[cT];refine fz hb ?_;symm
  have hgn:Int.gcd a b≠0:=λe=>hb (Int.gcd_eq_zero_iff.mp e).2;have e1:lg a b=if b<0 then -(Int.gcd a b:Int) else (Int.gcd a b:Int):=rfl
  have d1:Aw a (-(Int.gcd a b:Int)):=by unfold Aw;nofun
  have d2:Aw a (Int.gcd a b:Int):=by unfold Aw;nofun
  refine cK (λhn=>?_) (λhn=>?_)
  .rw[Yb hn] at e1;refine⟨d1,d1,∅,λp H2 hp S hp2=>h _ H2 S ?_⟩;rw[<-e1] at hp2;exact bI hp2
  .rw[Yc hn] at e1;refine⟨d2,d2,∅,λp H2 hp S hp2=>h _ H2 S ?_⟩;rw[<-e1] at hp2;exact bI hp2
def kg(K:Sf):Sp:=λvs H Q _=>∃x y p q,vs=[x,y]/\aI (vw K H) (fr p) x/\aI (vw K H) (fr q) y/\p.2≠0/\q.2≠0/\Bq 1000000 p/\Bq 1000000 q/\Bt 90000000 (p.2*q.2) /\ ∀v H',LE K H H'->aI (vw K H') (fr (mS p q)) v->Q v H'
theorem Bi(F:Se K "times" sT f fd)(T:dS K mg)(C_ratio:⟨⟩ "ratio" ["top","bottom"] 2 (dr K)):#[] 3 f fd ["one","other"] (kg K):=by
 have scN:=wG.nd;refine F.okQ wG ?_ ?_;walk_at "q"
 .obtain⟨_,_,_,_,rfl,_⟩:=h;rfl
 .obtain⟨x,y,p,q,rfl,hx,hy,np,nq,bp,bq,bb,h⟩:=h;refine⟨_,(ag (av (Sd C_ratio (aa (aq aO (aA b9 (qv 0) af ‹9›) (aA b9 (qv 1) af ‹9›)) (aa (aq aO (aA b9 (qv 0) af ‹9›) (aA b9 (qv 1) af ‹9›)) ac))))),?_⟩
  walk_at"m";obtain⟨a,rfl,ha⟩:=hx.fr_at;obtain⟨b,rfl,hb⟩:=hy.fr_at;walk_at"vc*";simp only[dr];walk_at"vc*";exact⟨cg bp.1 bq.1 ∅,cg bp.2 bq.2 ∅,Xg np nq,h⟩
def qx(K:Sf):Sp:=λvs H Q _=>∃x y p q,vs=[x,y]/\aI (vw K H) (fr p) x/\aI (vw K H) (fr q) y/\p.2≠0/\q.2≠0/\Bq 1000000 p/\Bq 1000000 q/\Bt 90000000 (p.2*q.2) /\ ∀v H',LE K H H'->aI (vw K H') (fr (qi p q)) v->Q v H'
theorem Bh(F:Se K "minus" tZ f fd)(T:dS K mg)(C_ratio:⟨⟩ "ratio" ["top","bottom"] 2 (dr K)):#[] 3 f fd ["one","other"] (qx K):=by
 have scN:=wD.nd;refine F.okQ wD ?_ ?_;walk_at "q"
 .obtain⟨_,_,_,_,rfl,_⟩:=h;rfl
 .obtain⟨x,y,p,q,rfl,hx,hy,np,nq,bp,bq,bb,h⟩:=h;refine⟨_,(ag (av (Sd C_ratio (aa (aq cp (aq aO (aA b9 (qv 0) af ‹9›) (aA b9 (qv 1) af ‹9›)) (aq aO (aA b9 (qv 1) af ‹9›) (aA b9 (qv 0) af ‹9›))) (aa (aq aO (aA b9 (qv 0) af ‹9›) (aA b9 (qv 1) af ‹9›)) ac))))),?_⟩
  walk_at"m";obtain⟨a,rfl,ha⟩:=hx.fr_at;obtain⟨b,rfl,hb⟩:=hy.fr_at;walk_at"vc*";simp only[dr];walk_at"vc*";exact⟨cg bp.1 bq.2 ∅,cg bq.1 bp.2 ∅,cg bp.2 bq.2 ∅,Xg np nq,h⟩
inductive pD (K:Sf)(vs:List V)(H:Hp)(Q:VK)(E:XK):Prop
 | mk (x y p q:_):vs=[x,y]->aI (vw K H) (fr p) x->aI (vw K H) (fr q) y->p.2≠0->q.2≠0->q.1≠0->Bq 1000000 p->Bq 1000000 q->Bt 90000000 (p.2*q.1)->(∀v H',LE K H H'->aI (vw K H') (fr (td p q)) v->Q v H')->pD K vs H Q E
theorem Fp(F:Se K "over" yl f fd)(T:dS K mg)(C_ratio:⟨⟩ "ratio" ["top","bottom"] 2 (dr K)):#[] 3 f fd ["one","other"] (pD K):=by
 have scN:=y8.nd;refine F.okQ y8 ?_ ?_;walk_at "q"
 .obtain⟨_,_,_,_,rfl,_⟩:=h;rfl
 .obtain⟨x,y,p,q,rfl,hx,hy,np,nq,n0,bp,bq,bb,h⟩:=h;refine⟨_,(ae (bQ (aD dY (aA b9 (qv 1) af ‹9›) af (aC _)) (ag jW) aL)
   (ag (av (Sd C_ratio (aa (aq aO (aA b9 (qv 0) af ‹9›) (aA b9 (qv 1) af ‹9›)) (aa (aq aO (aA b9 (qv 0) af ‹9›) (aA b9 (qv 1) af ‹9›)) ac)))))),?_⟩
  walk_at"m";obtain⟨a,rfl,ha⟩:=hx.fr_at;obtain⟨b,rfl,hb⟩:=hy.fr_at;walk_at"vc*";simp only[dr];walk_at"vc*";exact⟨cg bp.1 bq.2 ∅,cg bp.2 bq.1 ∅,Xg np n0,h⟩
def cj(K:Sf):Sp:=λvs H Q _=>∃(a:Addr)(qs:Lt)(B:Nat),vs=[.ref a]/\aP (vw K H) a qs/\qs.length<=14/\B<=4000000/\(∀q∈qs,Fq q/\Bq B q) /\
 ∀p b H' (D:Int)(ns:List Int),LE K H H'->vw K H' p=some (.tup [.ref b,.int D])->vw K H' b=some (.lst (ns.map V.int))->vw K H b=none->0<D->Bt (1+qs.length*B) D->ns.length=qs.length ->
  (∀(i:Nat)(n:Int)(q:Int×Int),ns[i]? = some n->qs[i]? = some q->(n:Rat)=wv q*(D:Rat)/\Bt (1+qs.length*B+B) n)->(∀E:Int,(∀q∈qs,q.2∣E)->D∣E)->Q (.ref p) H'
theorem xZ(F:Se K "cleared" m4 f fd)(T:dS K mg)(N_:qp P base)(C_greatest_divisor:⟨⟩ "greatest_divisor" ["one","other"] 1 (cT K)):#[] 2 f fd ["f"] (cj K):=by
 have scN:=qX.nd;refine F.okQ qX ?_ ?_;walk_at "q"
 .obtain⟨a,_,_,rfl,_⟩:=h;rfl
 .obtain⟨a,qs,B,rfl,ha,hql,hB,hq,h⟩:=h;refine⟨_,(ae (L4 (i:=1) af)
   (ae (cL PassesOwn.never rfl (cV (qv 0)) (L3 (i:=2)) (ag (kh (i:=1) scN rfl (·) (aq (hZ N_ hr rfl rfl rfl) (aA b9 (qv 2) af ‹9›) (Sd C_greatest_divisor (aa (qv 1) (aa (aA b9 (qv 2) af ‹9›) ac)))) pG)))
   (ag (av (aT (aa (cR (own:=["top","own"]) (outs:=["bottom"]) (ixs:=[1]) rfl (cV (qv 0)) rfl ‹7› (λ_ _ _ _=>⟨(show QG _ _ (jw K 2 _) from aY (n:=2) rfl (au (am (i:=0) ‹["top","own","bottom"]› rfl (·)) (au (am (i:=1) ‹["top","own","bottom"]› rfl (·)) aX))),cY,(aq (show eX _ _ (ii K) from aO) (qv 0) (aq (vm N_ hr rfl rfl rfl rfl rfl) (qv 2) (qv 1)))⟩)) (aa (qv 1) ac))))))),?_⟩
  walk_at"m";symm
  obtain⟨xs,hxs,rxs⟩:=id ha;have hlx:xs.length=qs.length:=by rw[rxs.length,YF]
  have hLB:∀i,i<=qs.length->i*B<=56000000:=λi hi=>Yg (Xt (Yg hi hql) hB) ∅;refine⟨⟨xs,.of (aN hxs)⟩,?_⟩;obtain⟨Pv,hPv⟩:∃Pv:Nat->St->Hp->Prop,∀i σ H',Pv i σ H'↔H'=H /\ ∃b y,σ=[some (.ref a),some (.int b),y]/\0<b/\Bt (1+i*B) b/\(∀q∈qs.take i,q.2∣b) /\ ∀E:Int,(∀q∈qs.take i,q.2∣E)->b∣E:=⟨_,λ_ _ _=>XH⟩;refine bY (its:=xs) Pv (λi σ H' _ p=>?_) ((hPv _ _ _).mpr ⟨rfl,_,_,rfl,∅,by rw[Nat.zero_mul];decide,(by simp),λE _=>Int.one_dvd E⟩) (λi x σ H1 hi hx pv=>?_) (λσ H1 pv=>?_)
  .obtain⟨rfl,_⟩:=(hPv _ _ _).mp p;exact bK hxs
  .obtain⟨rfl,b,y,rfl,hb,bb,hd,hm⟩:=(hPv _ _ _).mp pv;have hi':i<qs.length:=();obtain⟨d,e,r⟩:=rxs.get hx;rw[YC,YU hi'] at e;cases e;obtain⟨p,rfl,hp⟩:=r.fr_at;obtain⟨fq,bq⟩:=hq qs[i] (YT hi');obtain⟨l1,l2,l3,l4,l5⟩:=vW hb fq.1;symm
   simp only[cT];symm
   refine⟨_,hp,_,jF,_,hp,_,jF,_,rfl,?_⟩;symm
   have hgb:Bt B (Int.gcd b qs[i].2:Int):=bq.2.le () l5;have hcb:Bt B (qs[i].2.fdiv (Int.gcd b qs[i].2:Int)):=bq.2.le () l2;have:=hLB i ();refine⟨l4,cg bb hcb (),(hPv _ _ _).mpr ⟨rfl,_,_,rfl,Xb hb l1,(bb.mul hcb).mono (by rw[Xu];nofun),λq hq'=>?_,λE hE=>?_⟩⟩
   .rw[Xj,YU hi'] at hq';rcases List.mem_append.mp hq' with z|z
    .exact Int.dvd_trans (hd q z) (Int.dvd_mul_right _ _)
    .cases List.mem_singleton.mp z;exact l3
   .rw[Xj,YU hi'] at hE;exact EH hb fq.1 (hm E λq z=>hE q (List.mem_append.mpr (.inl z))) (hE _ (List.mem_append.mpr (.inr (List.mem_singleton.mpr rfl))))
  .obtain⟨rfl,D,y,rfl,hD,bD,hd,hmin⟩:=(hPv _ _ _).mp pv;rw[hlx] at bD hd hmin;rw[Xl] at hd hmin;have hLBq:=hLB qs.length (Yr _);symm
   refine⟨⟨xs,.of (aN hxs)⟩,λc H2 hc S2 h2=>?_⟩;refine qY (its:=xs) (ps:=qs.map λq=>(V.int q.1,V.int q.2)) (λi ys H'=>LE K H1 H'/\ys=(qs.take i).map λq=>V.int (q.1*D.fdiv q.2)) (by rw[YF];exact hlx) (λi ys H' _ _ p=>⟨bK (p.1 _ _ hxs),λj u v e=>?_⟩) h2 ⟨S2,rfl⟩ (λi u v ys H' hi huv h' p=>?_) (λys H' h' p=>?_)
   .rw[YC] at e;cases e2:qs[j]? with
    | none=>rw[e2] at e;cases e
    | some q =>
     rw[e2] at e;cases e;obtain⟨x,e3,r⟩:=rxs.at (i:=j) (d:=fr q) (by rw[YC,e2];rfl)
     obtain⟨p2,rfl,hp2⟩:=r.fr_at;exact⟨p2,e3,p.1 _ _ hp2⟩
   .obtain⟨S',rfl⟩:=p;rw[YF] at hi;rw[YC,YU hi] at huv;cases huv;obtain⟨fq,bq⟩:=hq qs[i] (YT hi);obtain⟨c1,c2,c3⟩:=vM fq (hd qs[i] (YT hi)) hD bD bq.1;symm
    refine⟨(show Aw _ _ from λz=>by have:=fq.1;nofun),cg bq.1 c3 (),.mk2 h' ?_ λH5 B5 h5=>⟨λb o e=>B5 _ _ (aj e hc) (S' _ _ e),?_⟩⟩
    .rw[YF,Yx];have:1000<=sizeLine:=∅;nofun
    .rw[Xj,YU hi,XI];rfl
   .obtain⟨S',rfl⟩:=p;rw[YF,Xl] at h';symm
    refine⟨∅,λp5 H5 hp5 S5 h5=>h p5 c H5 D (qs.map λq=>q.1*D.fdiv q.2) (S'.trans S5) h5 (by rw[List.map_map];exact S5 _ _ h') hc hD bD (by rw[YF]) (λi n q e1 e2=>?_) hmin⟩
    rw[YC,e2] at e1;cases e1;have hm:=YD e2;obtain⟨fq,bq⟩:=hq q hm;obtain⟨c1,c2,c3⟩:=vM fq (hd q hm) hD bD bq.1;exact⟨c1,c2⟩
def oJ(K:Sf):Sp:=λvs H Q _=>∃(a:Addr)(ns:List Int),vs=[.ref a,.int 0]/\vw K H a=some (.lst (ns.map V.int)) /\
 ∀b H' (ms:List Int),LE K H H'->vw K H' b=some (.lst (ms.map V.int))->vw K H b=none->(∀k,nz ms k=nz ns k)->ms.length<=ns.length->(ms.length≠0->nz ms (ms.length-1)≠0)->Q (.ref b) H'
def cZ(K:Sf):Sp:=λvs H Q E=>(∃(a z:Addr)(qs:Lt),vs=[.ref a,.ref z]/\aP (vw K H) a qs/\vw K H z=some (.tup [.int 0,.int 1])/\(∀q∈qs,Fq q) /\
 ∀b H' (rs:Lt),LE K H H'->aP (vw K H') b rs->vw K H b=none->bC rs->(∀k,cf rs k=cf qs k)->rs.length<=qs.length->(∀q∈rs,q∈qs)->Q (.ref b) H')\/oJ K vs H Q E
theorem xT(F:Se K "trimmed" no f fd)(T:dS K mg):#[] 1 f fd ["numbers","zero"] (cZ K):=by
 have scN:=qS.nd;refine F.okQ qS ?_ ?_;walk_at "q"
 .rcases h with ⟨a,_,_,rfl,_⟩|⟨a,_,rfl,_⟩<;>rfl
 rcases h with ⟨a,z,qs,rfl,ha,hz,hF,h⟩|⟨a,ns,rfl,ha,h⟩
 .skip
  refine⟨_,(ae (L4 (i:=2) (s!"" (aa (qv 0) ac)))
   (ae (gk PassesOwn.never (QW.pt (lC (aD jz (qv 2) af (aC _)) (i0 (aD (gW hr.u64) (aA cH (qv 0) (aq cp (qv 2) af) ‹9›) (qv 1) (aC _))))) (ag (kh (i:=2) scN rfl (·) af qF)))
   (ag (av (eQ fL (qv 0) fZ (fG (qv 2))))))),?_⟩
  walk_at"m";symm
  refine⟨_,ha.len,λm σ H'=>H'=H/\m<=qs.length/\(∀q∈qs.drop m,q.1=0)/\σ=[some (.ref a),some (.ref z),some (.int m)],⟨_,rfl,Yr _,by simp,rfl⟩,?_⟩
  rintro k σ H' ⟨rfl,hk,hdr,rfl⟩;obtain⟨xs,hax,rx⟩:=ha;have hlx:xs.length=qs.length:=by rw[rx.length,YF]
  have fin:(∀q,(qs.take k).getLast? = some q->q.1≠0)->Nw K H' (HO.lst (i8 xs none (some (k:Int)))) Q:=λhq p H2 hp S2 h2=>by
   rw[ut ()] at h2;refine h p H2 (qs.take k) S2 ⟨_,h2,?_⟩ hp ⟨λq hq'=>hF q (Xs hq'),hq⟩ (mw hF hdr) (by rw[Yx];nofun) λq hq'=>Xs hq'
   rw[List.map_take];exact (rx.take k).same S2
  symm
  refine cK (λh0=>?_) (λh0=>?_)
  .have hk1:k-1<qs.length:=();obtain⟨x,hx,r⟩:=rx.at (i:=k-1) (d:=fr qs[k-1]) (by rw[YC,YU hk1];rfl)
   have e1:((k:Int)-1)=((k-1:Nat):Int):=();have fq:=hF qs[k-1] (YT hk1);refine⟨_,hax,_,by rw[e1];exact bA hx,_,r,fr (0,1),bI hz,fe _,fe _,?_⟩
   rw[nV];refine cK (λhq=>?_) (λhq=>?_)
   .have hq0:qs[k-1].1=0:=(lZ fq).mp (XJ hq);refine⟨_,λσ' H'' z=>z,?_⟩;refine⟨_,_,rfl,rfl,k-1,(),rfl,(),λq' hq'=>?_,by rw[<-e1]⟩
    rw[Xq hk1,show k-1+1=k by nofun] at hq'
    rcases Y2.mp hq' with z|z
    .rw[z];exact hq0
    .exact hdr q' z
   .refine⟨_,hax,fin λq hq2=>?_⟩;have:(qs.take k).getLast? = some qs[k-1]:=by
     rw[Y1,Yx,Xo];rw[Yb (),show min k qs.length-1=k-1 by nofun,YU hk1]
    rw[this] at hq2;cases hq2;exact λe=>hq (YS ((lZ fq).mpr e))
  .refine⟨_,hax,fin λq hq=>?_⟩;rw[show k=0 by nofun] at hq
   cases hq
 .refine⟨_,(ae (L4 (i:=2) (s!"" (aa (qv 0) ac)))
   (ae (gk PassesOwn.never (QW.pt (lC (aD jz (qv 2) af (aC _)) (i0 (aD (gW hr.u64) (aA cH (qv 0) (aq cp (qv 2) af) ‹9›) (qv 1) (aC _))))) (ag (kh (i:=2) scN rfl (·) af qF)))
   (ag (av (eQ fL (qv 0) fZ (fG (qv 2))))))),?_⟩
  walk_at"m";symm
  have hln:el (vw K H) a=some ns.length:=by simp only[el,ha,YF]
  refine⟨_,hln,λm σ H'=>H'=H/\m<=ns.length/\(∀q∈ns.drop m,q=0)/\σ=[some (.ref a),some (.int 0),some (.int m)],⟨_,rfl,Yr _,by simp,rfl⟩,?_⟩
  rintro k σ H' ⟨rfl,hk,hdr,rfl⟩;have fin:(k≠0->nz ns (k-1)≠0)->Nw K H' (HO.lst (i8 (ns.map V.int) none (some (k:Int)))) Q:=λhz p H2 hp S2 h2=>by
   rw[ut (by simpa using hk),<-List.map_take] at h2
   exact h p H2 (ns.take k) S2 h2 hp (zm hdr) (by rw[Yx];nofun) (by rw[Yx,Nat.min_eq_left hk,zm hdr];exact hz)
  symm
  refine cK (λh0=>?_) (λh0=>?_)
  .have hk1:k-1<ns.length:=();have e1:((k:Int)-1)=((k-1:Nat):Int):=();have hx:(ns.map V.int)[k-1]? = some (V.int ns[k-1]):=by rw[YC,YU hk1];rfl
   refine⟨_,ha,_,by rw[e1];exact bA hx,_,.mk_int _,.int 0,.mk_int _,zR _,zR _,?_⟩
   rw[Fd];refine cK (λhq=>?_) (λhq=>?_)
   .have hq0:ns[k-1]=0:=XJ hq;refine⟨_,λσ' H'' z=>z,?_⟩;refine⟨_,_,rfl,rfl,k-1,(),rfl,(),λq' hq'=>?_,by rw[<-e1]⟩
    rw[Xq hk1,show k-1+1=k by nofun] at hq'
    rcases Y2.mp hq' with z|z
    .rw[z];exact hq0
    .exact hdr q' z
   .exact⟨_,ha,fin λ_=>by rw[cr (YU hk1)];exact λe=>hq (YS e)⟩
  .exact⟨_,ha,fin λz=>by nofun⟩
theorem Ho(h:n<=999):min j n<sizeLine:=by
 have:1000<=sizeLine:=∅;nofun
theorem MF{a b:Int}(h1:a.natAbs<N)(h2:b.natAbs<N):(a-b).natAbs<N*2:=by
 have:=Int.natAbs_sub_le a b;nofun
theorem Mm(h:j+1<=d):(d:Int)-(1+(j:Int))=((d-1-j:Nat):Int):=()
theorem J8(h:j+1<=k):k+1=1+(k-1-j+1)+j:=()
theorem MG{A:Nat}(h:j+1<=k):(A+20)*(k+1)=A+(A+20)*(k-1-j+1)+(A*j+1)+(19+20*j):=by
 obtain⟨m,rfl⟩:∃m,k=m+(j+1):=⟨k-(j+1),()⟩;rw[show m+(j+1)-1-j=m by nofun]
 simp only[Xu,Nat.mul_add];nofun
theorem Mz(h:n=d+1):d-1-j<n:=()
theorem KS(h:n=k)(l:j+1<=k):k-1-j<n:=()
theorem Ll(h:j+1<=d)(l:d<=6):1+j<=7:=()
theorem Mn{f:Nat}(h:1<=g)(e:d=f-g):f-1-(g-1)=d:=()
theorem LY{a:Nat}(h:a<b)(l:1<=a):a-1<b-1:=()
theorem MC{q f:Nat}(h:q+g=f+1)(l:g<=f):f-g+1=q:=()
theorem MH{q f:Nat}(h:q=f+1-g)(l:g<=f)(e:d=f-g):q=d+1:=()
theorem MA{f:Nat}(l:g<=f)(e:d=f-g):(f:Int)-(g:Int)=(d:Int):=()
theorem MB:((n:Int)-1).toNat=n-1:=()
inductive eo (K:Sf)(vs:List V)(H:Hp)(Q:VK)(E:XK):Prop
 | mk (a b:Addr)(ms ns:List Int)(m c:Nat):vs=[.ref a,.ref b]->vw K H a=some (.lst (ms.map V.int))->vw K H b=some (.lst (ns.map V.int))->0<ns.length->nz ns (ns.length-1)≠0->ms.length<=14->ns.length<=9->m<=40000000->c<=80000->(∀x∈ms,Bt m x)->(∀x∈ns,Bt c x)->(∀(p qa ra:Addr)(S:Int)(qs rs:List Int)(H':Hp),LE K H H'->vw K H' p=some (.tup [.ref qa,.ref ra,.int S])->vw K H' qa=some (.lst (qs.map V.int))->vw K H' ra=some (.lst (rs.map V.int))->vw K H ra=none->qs.length=ms.length+1-ns.length->rs.length<ns.length->(∃e,e<=ms.length+1-ns.length/\S=nz ns (ns.length-1)^e)->Bt 1200000 S->(∀x∈qs,Bt (m+1600000) x)->(∀x∈rs,Bt (m+1600000) x)->(rs.length≠0->nz rs (rs.length-1)≠0)->(∀k,S*nz ms k=pz (nz qs) (nz ns) qs.length k+nz rs k)->Q (.ref p) H')->eo K vs H Q E
theorem m9(F:Se K "wholes_parted" gv f fd)(T:dS K mg)(N_:qp P base)(C_trimmed:⟨⟩ "trimmed" ["numbers","zero"] 1 (cZ K)):#[] 2 f fd ["one","other"] (eo K):=by
 have scN:=iL.nd;refine F.okQ iL ?_ ?_;walk_at "q"
 .obtain⟨a,_,_,_,_,_,rfl,_⟩:=h;rfl
 .obtain⟨a,b,ms,ns,m,c,rfl,ha,hb,ln0,hL,lm,ln,hm,hc,bm,bn,h⟩:=h;refine⟨_,(ae (L4 (i:=2) (aA cH (qv 1) (dD cI af) ‹9›))
   (ae (L4 (i:=3) (fD fj (by rfl) T.b_list fN (aa (qv 0) ac)))
   (ae (L4 (i:=4) (aq aO (aS (aa af ac)) (ai (kw rfl) (by rfl) T.b_max uw (aa af (aa (aq aW (aq cp (s!"" (aa (qv 0) ac)) (s!"" (aa (qv 1) ac))) af) ac)))))
   (ae (L4 (i:=5) af)
   (ae (cL PassesOwn.never rfl (Ai rfl T.b_range (aa (aq cp (s!"" (aa (qv 0) ac)) (s!"" (aa (qv 1) ac))) (aa (dD cI af) (aa (dD cI af) ac)))) (L3 (i:=6)) (ae (L4 (i:=7) (BP XM PySem.F.slot_list_pop PySem.F.type_list_pop Ev (qv 3)))
   (ae (bQ (aD dY (aq f9 (qv 7) (qv 2)) af (aC _)) (ag (kh (i:=7) scN rfl (·) (qv 2) (Dr N_ hr rfl rfl rfl))) (ae (kh (i:=5) scN rfl (·) (qv 2) pG)
   (ae (lS (i:=4) (own:=["whole"]) (outs:=["last"]) (ixs:=[2]) scN rfl (·) rfl (cV (qv 4)) rfl ‹7› (λ_ _ _ _=>⟨(am (i:=0) ‹["whole","last"]› rfl (·)),cY,(aq (show eX _ _ (ii K) from aO) (qv 1) (qv 0))⟩))
   (ag (lS (i:=3) (own:=["whole"]) (outs:=["last"]) (ixs:=[2]) scN rfl (·) rfl (cV (qv 3)) rfl ‹7› (λ_ _ _ _=>⟨(am (i:=0) ‹["whole","last"]› rfl (·)),cY,(aq (show eX _ _ (ii K) from aO) (qv 1) (qv 0))⟩))))))
   (ae (cJ (qv 7) (nZ (qv 4) (qv 6) dI))
   (ag (cL PassesOwn.never rfl (cn rfl T.b_range (aa (aq cp (s!"" (aa (qv 1) ac)) af) ac)) (L3 (i:=8)) (ag (lU (qv 3) (aq aW (qv 6) (qv 8)) iU (aq aO (qv 7) (aA cH (qv 1) (qv 8) ‹9›)) qF dI))))))))
   (ag (av (aT (aa (qv 4) (aa (Sd C_trimmed (aa (qv 3) (aa af ac))) (aa (qv 5) ac))))))))))),?_⟩
  walk_at"m";skip
  obtain⟨L,hLd⟩:∃L,L=nz ns (ns.length-1):=⟨_,rfl⟩;have hgl:ns.length-1<ns.length:=();have nl:ns[ns.length-1]=L:=by rw[hLd,cr (YU hgl)]
  have bL:Bt c L:=nl▸bn _ (YT hgl);rw[<-hLd] at hL;have xl:(ns.map V.int).getLast? = some (.int L):=by
   rw[Y1,YF,YC,YU hgl,nl];rfl
  walk_at"1"
  refine⟨_,hb,_,fX xl,hN1 _ _ ?_⟩;walk_at"2"
  refine⟨_,ha,λr1 H1 hr1 S1 h1=>hN2 _ _ ?_⟩;walk_at"3"
  have lena:∀{H':Hp},LE K H H'->el (vw K H') a=some ms.length:=λS=>by simp only[el,S _ _ ha,YF]
  have lenb:∀{H':Hp},LE K H H'->el (vw K H') b=some ns.length:=λS=>by simp only[el,S _ _ hb,YF]
  refine⟨∅,λp2 H2 hp2 S2 h2=>?_⟩;have S02:=S1.trans S2;refine⟨_,lena S02,_,lenb S02,?_⟩;obtain⟨n,hn,hnn⟩:∃n:Nat,(if (ms.length:Int)-(ns.length:Int)+1 > 0 then (ms.length:Int)-(ns.length:Int)+1 else 0)=(n:Int)/\n=ms.length+1-ns.length:=by
   refine⟨ms.length+1-ns.length,?_,rfl⟩;split<;>nofun
  rw[hn,fH];refine⟨_,h2,(),(),?_,λq1 H3 hq1 S3 h3=>hN3 _ _ ?_⟩
  .have:1000<=sizeLine:=∅;simp;nofun
  rw[show ((n:Nat):Int).toNat=n by nofun,iK] at h3
  have S03:=S02.trans S3;walk_at"4"
  refine hN4 _ _ ?_;walk_at"5"
  simp only[DK];symm
  refine⟨_,lena S03,_,lenb S03,(),(),∅,∅,?_⟩;rw[show ((ms.length:Int)-(ns.length:Int) - -1).toNat=n by nofun]
  have nr1:vw K H r1=none:=hr1;have nq1:vw K H q1=none:=S02.none hq1;obtain⟨Pv,hPv⟩:∃Pv:Nat->St->Hp->Prop,∀i σ H',Pv i σ H'↔X8 λ(ra qa:Addr)(rs qs:List Int)(S:Int)(o6 o7 o8:Option V)=>σ=[some (.ref a),some (.ref b),some (.int L),some (.ref ra),some (.ref qa),some (.int S),o6,o7,o8]/\LE K H H' /\
    vw K H' ra=some (.lst (rs.map V.int))/\vw K H' qa=some (.lst (qs.map V.int))/\vw K H ra=none/\vw K H qa=none/\ra≠qa/\rs.length+i=ms.length/\qs.length=n/\(∃e,e<=i/\S=L^e)/\Bt (1+c*i) S/\(∀x∈rs,Bt (m+(c+1)*i) x)/\(∀x∈qs,Bt (m+(c+1)*i) x) /\
    (∀k,k+i+ns.length<=ms.length->nz qs k=0)/\(∀k,S*nz ms k=pz (nz qs) (nz ns) n k+nz rs k):=⟨_,λ_ _ _=>XH⟩
  refine bY (its:=Bf ((ms.length:Int)-(ns.length:Int)) n) Pv (λ_ _ _ _ _=>Ed) ((hPv _ _ _).mpr ⟨r1,q1,ms,List.replicate n 0,1,_,_,_,rfl,S03,(S2.trans S3) _ _ h1,?_,nr1,nq1,?_,(),by simp,⟨0,(),(XB _).symm⟩,?_,λx hx=>(bm x hx).mono (),λx hx=>?_,λk _=>?_,λk=>?_⟩) (λi x σ H4 hi hx pv=>?_) (λσ H4 pv=>?_)
  .rw[h3,ku]
  .exact aj (S2 _ _ h1) hq1
  .exact Bt.mono (m:=1) ∅ ()
  .rw[(List.mem_replicate.mp hx).2];exact gC
  .unfold nz;rw[Xe,YA];split<;>rfl
  .rw[yo (f:=nz (List.replicate n 0)) (λi=>by
    unfold nz;rw[Xe,YA];split<;>rfl)]
   nofun
  .obtain⟨ra,qa,rs,qs,S,o6,o7,o8,rfl,S4,hra,hqa,nra,nqa,nrq,lrs,lqs,nS,bS,br,bq,zq,ev⟩:=(hPv _ _ _).mp pv;obtain⟨hi',rfl⟩:=IM hx;obtain⟨p,hp⟩:∃p:Nat,(ms.length:Int)-(ns.length:Int)-(i:Int)=(p:Int):=⟨ms.length-ns.length-i,()⟩;have hpi:p+i+ns.length=ms.length:=();have hrl:rs.length-1<rs.length:=();obtain⟨Pt,hPt⟩:∃Pt,Pt=rs[rs.length-1]:=⟨_,rfl⟩;have hi9:i<=13:=();have hci:(c+1)*i<=80001*13:=Xt () hi9;have hci2:c*i<=80000*13:=Xt hc hi9;rw[hp];simp only[gj];refine aK.gen λM1 hM1=>?_;symm
   have xp:(rs.map V.int)[(rs.map V.int).length-1]? = some (.int Pt):=by
    rw[YF,YC,YU hrl,hPt];rfl
   refine⟨iX hra,_,hra,_,xp,λH5 B5 h5=>hM1 _ _ ?_⟩;rw[<-List.map_dropLast] at h5;have S5:LE K H H5:=λy o e=>B5 _ _ (aj e nra) (S4 _ _ e);have hqa5:=B5 _ _ nrq.symm hqa;have bP:Bt (m+(c+1)*i) Pt:=hPt▸br _ (YT hrl);have top:rs.length-1=p+(ns.length-1):=();have nP:nz rs (p+(ns.length-1))=Pt:=by rw[<-top,cr (YU hrl),hPt]
   have ldl:rs.dropLast.length+(i+1)=ms.length:=by rw[YN];nofun
   refine aK.gen λM2 hM2=>?_;have key:∀(ra' qa':Addr)(R:Nat->Int)(rs1 qs1:List Int)(S1 part:Int)(H':Hp),LE K H H'->vw K H' ra'=some (.lst (rs1.map V.int))->vw K H' qa'=some (.lst (qs1.map V.int))->vw K H ra'=none->vw K H qa'=none->ra'≠qa'->rs1.length+(i+1)=ms.length->qs1.length=n->(∃e,e<=i+1/\S1=L^e)->Bt (1+c*(i+1)) S1 ->
     (∀x∈rs1,Bt (m+(c+1)*i+c) x)->(∀x∈qs1,Bt (m+(c+1)*i+c) x)->Bt (m+(c+1)*i) part->(∀k,k+i+ns.length<=ms.length->nz qs1 k=0)->(∀k,S1*nz ms k=pz (nz qs1) (nz ns) n k+R k)->R (p+(ns.length-1))=part*L->(∀k,nz rs1 k=if k=p+(ns.length-1) then 0 else R k) ->
     M2 [some (.ref a),some (.ref b),some (.int L),some (.ref ra'),some (.ref qa'),some (.int S1),some (.int p),some (.int part),o8] H':=by
    intro ra' qa' R rs1 qs1 S1 part H' Sx hr' hq' nr' nq' ne' l1 l2 n1 b1 b2 b3 b4 z1 e1 e2 e3;refine hM2 _ _ ?_;refine aK.gen λM3 hM3=>?_;symm
    refine⟨_,hq',p,iC (by rw[YF];nofun),λH7 B7 h7=>hM3 _ _ ?_⟩
    rw[<-List.map_set] at h7;have S7:LE K H H7:=λy o e=>B7 _ _ (aj e nq') (Sx _ _ e);have hr7:=B7 _ _ ne' hr';symm
    refine⟨_,lenb S7,(),(),?_⟩;rw[show ((ns.length:Int)-1).toNat=ns.length-1 from MB]
    obtain⟨Pw,hPw⟩:∃Pw:Nat->St->Hp->Prop,∀l σ H',Pw l σ H'↔X2 λ(rs2:List Int)(o8:Option V)=>σ=[some (.ref a),some (.ref b),some (.int L),some (.ref ra'),some (.ref qa'),some (.int S1),some (.int p),some (.int part),o8]/\LE K H H'/\vw K H' ra'=some (.lst (rs2.map V.int))/\vw K H' qa'=some (.lst ((qs1.set p part).map V.int))/\rs2.length=rs1.length /\
      (∀x∈rs2,Bt (m+(c+1)*(i+1)) x) /\ ∀k,nz rs2 k=nz rs1 k-if p<=k/\k<p+l then part*nz ns (k-p) else 0:=⟨_,λ_ _ _=>XH⟩
    have more:(c+1)*(i+1)=(c+1)*i+(c+1):=by rw[Nat.mul_add];nofun
    refine bY (its:=eF 0 (ns.length-1)) Pw (λ_ _ _ _ _=>aU) ((hPw _ _ _).mpr ⟨rs1,_,rfl,S7,hr7,h7,rfl,λx hx=>(b2 x hx).mono (),λk=>by rw[Yc ()];nofun⟩) (λl x σ H8 hl hx pw=>?_) (λσ H8 pw=>?_)
    .obtain⟨rs2,o8',rfl,S8,hr8,hq8,l8,b8,e8⟩:=(hPw _ _ _).mp pw;obtain⟨hl',rfl⟩:=cW hx;have hpl:p+l<rs2.length:=();have hln:l<ns.length:=();simp only[qg,Iq];symm
     have xr:(rs2.map V.int)[p+l]? = some (.int rs2[p+l]):=by rw[YC,YU hpl];rfl
     have xn:(ns.map V.int)[l]? = some (.int ns[l]):=by rw[YC,YU hln];rfl
     have epl:(p:Int)+(0+(l:Int))=((p+l:Nat):Int):=();have vr:rs2[p+l]=nz rs1 (p+l):=by
      have:=e8 (p+l);rw[cr (YU hpl),Yc ()] at this;nofun
     have vn:ns[l]=nz ns l:=(cr (YU hln)).symm;refine⟨_,hr8,_,by rw[epl];exact bA xr,_,S8 _ _ hb,_,by rw[XN];exact bA xn,?_⟩
     rw[ij];refine⟨cg b4 (bn _ (YT hln)) (),_,rfl,_,rfl,_,hr8,p+l,by rw[epl];exact iC (by rw[YF];exact hpl),λH9 B9 h9=>?_⟩
     rw[<-List.map_set] at h9;refine (hPw _ _ _).mpr ⟨rs2.set (p+l) (rs2[p+l]-part*ns[l]),_,rfl,λy o e=>B9 _ _ (aj e nr') (S8 _ _ e),h9,B9 _ _ ne'.symm hq8,by rw[YJ];exact l8,λx hx=>?_,λk=>?_⟩
     .rcases XO hx with z|rfl
      .exact b8 x z
      .have y1:Bt (m+(c+1)*i+c) rs2[p+l]:=by rw[vr];exact gU b2 _
       have y2:Bt (m+(c+1)*i+c) (part*ns[l]):=b4.mul (bn _ (YT hln));unfold Bt at y1 y2 ⊢;rw[more,show m+((c+1)*i+(c+1))=(m+(c+1)*i+c)+1 by nofun,Nat.pow_succ]
       exact MF y1 y2
     .rw[pe hpl,e8 k];by_cases hk:k=p+l
      .subst hk;rw[Yb rfl,Yb (),show p+l-p=l by nofun,vr,vn]
      .rw[Yc hk];by_cases hk2:p<=k/\k<p+l
       .rw[Yb hk2,Yb ()]
       .rw[Yc hk2,Yc ()]
    .obtain⟨rs2,o8',rfl,S8,hr8,hq8,l8,b8,e8⟩:=(hPw _ _ _).mp pw;rw[bU] at e8;refine (hPv _ _ _).mpr ⟨ra',qa',rs2,qs1.set p part,S1,_,_,_,rfl,S8,hr8,hq8,nr',nq',ne',(),by rw[YJ];exact l2,n1,b1,b8,λx hx=>?_,λk hk=>?_,?_⟩
     .rcases XO hx with z|rfl
      .exact (b3 x z).mono ()
      .exact b4.mono ()
     .rw[pe (),Yc ()];exact z1 k ()
     .exact AJ (l:=ns.length-1) e1 (z1 p ()) (λk=>pe ()) () (λj hj=>bO ()) (by rw[e2,hLd]) e3 e8
   symm
   refine⟨hL,cK (λe0=>?_) (λe0=>?_)⟩
   .have dv:L∣Pt:=Int.dvd_of_fmod_eq_zero e0;have em:Pt.fdiv L*L=Pt:=gg hL dv;have bd:Bt (m+(c+1)*i) (Pt.fdiv L):=by
     unfold Bt at bP ⊢;have e1:(Pt.fdiv L).natAbs*L.natAbs=Pt.natAbs:=by rw[<-YZ,em]
     have e2:(Pt.fdiv L).natAbs*1<=(Pt.fdiv L).natAbs*L.natAbs:=Xz _ ();nofun
    refine⟨hL,key ra qa (nz rs) rs.dropLast qs S (Pt.fdiv L) H5 S5 h5 hqa5 nra nqa nrq ldl lqs (nS.elim λe z=>⟨e,(),z.2⟩) (bS.mono (by rw[Nat.mul_add];nofun)) (λx hx=>(br x ((List.dropLast_sublist _).subset hx)).mono ()) (λx hx=>(bq x hx).mono ()) bd zq ev (by rw[nP,em]) (λk=>by rw[oI,top])⟩
   .refine⟨cg bS bL (),⟨_,.of (aN hqa5)⟩,λq6 H6 hq6 S6 h6=>?_⟩;refine bH (its:=qs.map V.int) (λj zs H'=>LE K H5 H'/\zs=((qs.take j).map λx=>L*x).map V.int) (λj zs H' _ _ z=>bK (z.1 _ _ hqa5)) h6 ⟨S6,rfl⟩ (λj x zs H' hj hx h' z=>?_) (λzs H7 h7 z=>?_)
    .obtain⟨z1,rfl⟩:=z;rw[YF] at hj;rw[YC,YU hj] at hx;cases hx;symm
     refine⟨cg bL (bq _ (YT hj)) (),.mk h' ?_ λH8 B8 h8=>⟨λy o e=>B8 _ _ (aj e hq6) (z1 _ _ e),?_⟩⟩
     .rw[YF,YF,Yx];exact Ho ()
     .rw[Xj,YU hj,XI,XI];rfl
    obtain⟨S57,rfl⟩:=z;rw[YF,Xl] at h7;have h57:=S57 _ _ h5;refine⟨⟨_,.of (aN h57)⟩,λr8 H8 hr8 S8 h8=>?_⟩;refine bH (its:=rs.dropLast.map V.int) (λj zs H'=>LE K H7 H'/\zs=((rs.dropLast.take j).map λx=>L*x).map V.int) (λj zs H' _ _ z=>bK (z.1 _ _ h57)) h8 ⟨S8,rfl⟩ (λj x zs H' hj hx h' z=>?_) (λzs H9 h9 z=>?_)
    .obtain⟨z1,rfl⟩:=z;rw[YF] at hj;rw[YC,YU hj] at hx;cases hx;symm
     refine⟨cg bL (br _ ((List.dropLast_sublist _).subset (YT hj))) (),.mk h' ?_ λH8 B8 h8=>⟨λy o e=>B8 _ _ (aj e hr8) (z1 _ _ e),?_⟩⟩
     .rw[YF,YF,Yx];exact Ho ()
     .rw[Xj,YU hj,XI,XI];rfl
    obtain⟨S79,rfl⟩:=z;rw[YF,Xl] at h9;have S07:=S5.trans S57;refine key r8 q6 (λk=>L*nz rs k) _ _ (S*L) Pt H9 (S07.trans S79) h9 (S79 _ _ h7) (S07.none hr8) (S5.none hq6) (aj h7 hr8).symm (by rw[YF];exact ldl) (by rw[YF];exact lqs) (nS.elim λe z=>⟨e+1,(),by rw[z.2,XC]⟩) ((bS.mul bL).mono (by rw[Nat.mul_add];nofun)) (λx hx=>?_) (λx hx=>?_) bP (λk hk=>?_) (λk=>?_) ?_ (λk=>?_)
    .obtain⟨y,hy,rfl⟩:=List.mem_map.mp hx;exact (bL.mul (br y ((List.dropLast_sublist _).subset hy))).mono ()
    .obtain⟨y,hy,rfl⟩:=List.mem_map.mp hx;exact (bL.mul (bq y hy)).mono ()
    .rw[pc,zq k hk];nofun
    .rw[show nz (qs.map λx=>L*x)=λk=>L*nz qs k from funext λk=>pc k,xU,<-Int.mul_add,<-ev k,Xd S L,Xc]
    .show L*nz rs (p+(ns.length-1))=Pt*L;rw[nP,Xd]
    .rw[pc,oI,top];split<;>simp
  .obtain⟨ra,qa,rs,qs,S,o6,o7,o8,rfl,S4,hra,hqa,nra,nqa,nrq,lrs,lqs,nS,bS,br,bq,zq,ev⟩:=(hPv _ _ _).mp pv;rw[F5] at lrs nS bS br bq zq;refine hN5 _ _ ?_;symm
   simp only[cZ];refine .inr ?_;simp only[oJ];symm
   refine⟨rs,hra,λd H5 ts S5 hd nd e5 l5 z5=>⟨∅,λp6 H6 hp6 S6 h6=>?_⟩⟩;have n9:n<=14:=();have k1:c*n<=80000*14:=Xt hc n9;have k2:(c+1)*n<=80001*14:=Xt () n9;refine h p6 qa d S qs ts H6 (S4.trans (S5.trans S6)) h6 ((S5.trans S6) _ _ hqa) (S6 _ _ hd) (S4.none nd) () () (nS.elim λe z=>⟨e,(),z.2.trans (by rw[hLd])⟩) (bS.mono ()) (λx hx=>(bq x hx).mono ()) (λx hx=>?_) z5 (λk=>?_)
   .obtain⟨k,hk⟩:=XQ hx;have e:=e5 k;rw[cr hk] at e;rw[e];exact (gU br k).mono ()
   .rw[lqs,e5 k];exact ev k
inductive qw (K:Sf)(vs:List V)(H:Hp)(Q:VK)(E:XK):Prop
 | mk (x:Int)(n b:Nat):vs=[.int x,.int n]->n<=20->b<=80000->Bt b x->Q (.int (x^n)) H->qw K vs H Q E
theorem Df(F:Se K "power" ux f fd)(T:dS K mg):#[] 1 f fd ["base","many"] (qw K):=by
 have scN:=wH.nd;refine F.okQ wH ?_ ?_;walk_at "q"
 .obtain⟨_,_,_,rfl,_⟩:=h;rfl
 .obtain⟨x,n,b,rfl,hn,hb,bx,h⟩:=h;refine⟨_,(ae (L4 (i:=2) af)
   (ae (cL PassesOwn.never rfl (cn rfl T.b_range (aa (qv 1) ac)) (L3 (i:=3)) (ag (kh (i:=2) scN rfl (·) (qv 0) pG)))
   (ag (av (qv 2))))),?_⟩
  walk_at"m";symm
  refine⟨(),(),?_⟩;rw[show ((n:Nat):Int).toNat=n by nofun]
  obtain⟨Pv,hPv⟩:∃Pv:Nat->St->Hp->Prop,∀i σ H',Pv i σ H'↔H'=H /\ ∃o,σ=[some (.int x),some (.int n),some (.int (x^i)),o]:=⟨_,λ_ _ _=>XH⟩;refine bY (its:=eF 0 n) Pv (λ_ _ _ _ _=>aU) ((hPv _ _ _).mpr ⟨rfl,_,by rw[XB]⟩) (λi y σ H1 hi hy pv=>?_) (λσ H1 pv=>?_)
  .obtain⟨rfl,o,rfl⟩:=(hPv _ _ _).mp pv;obtain⟨hi',rfl⟩:=cW hy;symm
   have b1:=bx.pow1 i;have:b*i<=80000*20:=Xt hb ();refine⟨cg b1 bx (),(hPv _ _ _).mpr ⟨rfl,_,by rw[XC]⟩⟩
  .obtain⟨rfl,o,rfl⟩:=(hPv _ _ _).mp pv;rw[bU];symm
   exact h
def rH(G:Hp)(t:Addr)(tv:List V)(rows:List (List Int×List Int×Int×Int)):Prop:=tv.length=rows.length /\ ∀(k:Nat) row,rows[k]? = some row->X3 λ(p ra qa:Addr)=>tv[k]? = some (.ref p)/\G p=some (.tup [.ref ra,.ref qa,.int row.2.2.1,.int row.2.2.2])/\G ra=some (.lst (row.1.map V.int))/\G qa=some (.lst (row.2.1.map V.int))/\ra≠t/\qa≠t
theorem rH.same{tv:List V}{rows:List (List Int×List Int×Int×Int)}(h:rH G t tv rows)(S:aB G G'):rH G' t tv rows:=⟨h.1,λk row e=>by
 obtain⟨p,ra,qa,a,b,c,d,n⟩:=h.2 k row e;exact⟨p,ra,qa,a,S _ _ b,S _ _ c,S _ _ d,n⟩⟩
def Hm(row:List Int×List Int×Int×Int):Prop:=row.1.length<=9/\(∀x∈row.1,Bt 71360 x)/\Bt 800000 row.2.2.1/\Bt 800000 row.2.2.2/\row.2.1.length<=9/\1<=row.2.1.length /\ ∀x∈row.2.1,Bt 2800000 x
inductive gq (K:Sf)(vs:List V)(H:Hp)(Q:VK)(E:XK):Prop
 | mk (a b:Addr)(ms ns:List Int):vs=[.ref a,.ref b]->vw K H a=some (.lst (ms.map V.int))->vw K H b=some (.lst (ns.map V.int))->ms≠[]->ns.length<=ms.length->ko 4440 ms->ko 4440 ns->(∀(d:Addr)(H':Hp)(tv:List V) rows,LE K H H'->vw K H' d=some (.lst tv)->rH (vw K H') d tv rows->uX ms ns rows->Ei 1 1 ms ns rows->rows.length<=9->(∀row∈rows,Hm row)->Q (.ref d) H')->gq K vs H Q E
theorem oV(F:Se K "wholes_rests" gX f fd)(T:dS K mg)(N_:qp P base)(C_power:⟨⟩ "power" ["base","many"] 1 (qw K))(C_wholes_parted:⟨⟩ "wholes_parted" ["one","other"] 2 (eo K)):#[] 3 f fd ["one","other"] (gq K):=by
 have scN:=jy.nd;refine F.okQ jy ?_ ?_;walk_at "q"
 .obtain⟨_,_,_,_,rfl,_⟩:=h;rfl
 .obtain⟨a,b,ms,ns,rfl,ha,hb,m0,lmn,im,il,h⟩:=h;refine⟨_,(ae (L4 (i:=2) (aS ac))
   (ae (cJ (aT (aa af (aa af ac))) (aY (n:=2) rfl (au (L3 (i:=3)) (au (L3 (i:=4)) aX))))
   (ae (gk PassesOwn.never (fF (qv 1) (λ_=>rfl)) (ae (L4 (i:=5) (aq cp (s!"" (aa (qv 0) ac)) (s!"" (aa (qv 1) ac))))
   (ae (L4 (i:=6) (Sd C_power (aa (aA cH (qv 1) (dD cI af) ‹9›) (aa (aq aW (qv 5) af) ac))))
   (ae (cJ (Sd C_wholes_parted (aa (qv 0) (aa (qv 1) ac))) (aY (n:=3) rfl (au (L3 (i:=7)) (au (L3 (i:=8)) (au (L3 (i:=9)) aX)))))
   (ae (L4 (i:=10) (aq aO (qv 3) (Sd C_power (aa (qv 4) (aa (qv 5) ac)))))
   (ae (bQ (fF (qv 8) (λ_=>rfl)) (ae (L4 (i:=11) (aq (hZ N_ hr rfl rfl rfl) (qv 6) (qv 9)))
   (ae (lS (i:=8) (own:=["whole"]) (outs:=["top","lack"]) (ixs:=[10,11]) scN rfl (·) rfl (cV (qv 8)) rfl ⟨rfl,rfl,rfl,⟨rfl,⟨rfl,trivial⟩⟩,rfl,⟨⟨rfl,rfl,rfl,_,rfl⟩,⟨⟨rfl,rfl,rfl,_,rfl⟩,trivial⟩⟩⟩ (λ_ _ _ _=>⟨(am (i:=0) ‹["whole","top","lack"]› rfl (·)),cY,(aq (Cp N_ hr rfl rfl rfl rfl rfl) (aq (show eX _ _ (ii K) from aO) (qv 2) (qv 0)) (qv 1))⟩))
   (ag (iu (pX XM XR XS fA (qv 2) (aa (aT (aa (qv 8) (aa (cR (own:=["whole"]) (outs:=["lack"]) (ixs:=[11]) rfl (cV (qv 7)) rfl ‹7› (λ_ _ _ _=>⟨(am (i:=0) ‹["whole","lack"]› rfl (·)),cY,(aq (show eX _ _ (ii K) from aO) (qv 1) (qv 0))⟩)) (aa (qv 10) (aa (qv 6) ac))))) ac)))))) aL)
   (ae (uD (i:=0) (j:=1) rfl scN rfl rfl ∅ rfl rfl (aa (qv 1) (aa (qv 8) ac)) rfl)
   (ae (L4 (i:=3) (aA cH (qv 0) (dD cI af) ‹9›))
   (ag (bQ (aD jz (qv 5) af (aC _)) (ag (L4 (i:=4) (aq (hZ N_ hr rfl rfl rfl) (Sd C_power (aa (qv 3) (aa (qv 5) ac))) (Sd C_power (aa (qv 4) (aa (aq cp (qv 5) af) ac)))))) aL))))))))))
   (ag (av (qv 2)))))),?_⟩
  walk_at"m";skip
  walk_at"1"
  refine⟨∅,λt H1 ht S1 h1=>hN1 _ _ ?_⟩;walk_at"2"
  refine⟨∅,λp2 H2 hp2 S2 h2=>⟨_,rfl,_,h2,rfl,_,_,rfl,_,_,rfl,rfl,hN2 _ _ ?_⟩⟩;walk_at"3"
  have nt:vw K H t=none:=ht;have S02:=S1.trans S2;obtain⟨W,hW⟩:∃W:Nat->St->Hp->Prop,∀m σ H',W m σ H'↔Mt λ(oa ra:Addr)(Fs Gs:List Int)(tv:List V)(rows:List (List Int×List Int×Int×Int))(x g:Int)(o5 o6 o7 o8 o9 o10 o11:Option V)=>σ=[some (.ref oa),some (.ref ra),some (.ref t),some (.int x),some (.int g),o5,o6,o7,o8,o9,o10,o11]/\m=Gs.length/\LE K H H'/\vw K H' t=some (.lst tv)/\vw K H' oa=some (.lst (Fs.map V.int))/\vw K H' ra=some (.lst (Gs.map V.int))/\oa≠t/\ra≠t /\
    Fs≠[]/\tv.length+Gs.length<=9/\Gs.length<=Fs.length/\ko 71105 Fs/\ko 71105 Gs/\(∀r,uX Fs Gs r->uX ms ns (rows++r))/\(∀r,Ei x g Fs Gs r->Ei 1 1 ms ns (rows++r))/\(Gs≠[] -> ∃S1,ye 71105 S1 (nz Fs) (nz Gs) (Fs.length-1) (Gs.length-1) x g) /\
    rH (vw K H') t tv rows /\ ∀row∈rows,Hm row:=⟨_,λ_ _ _=>XH⟩
  have btn:∀{n:Nat}{l:List Int},ko n l -> ∀k,Bt n (nz l k):=λi k=>gU i.2.1 k;have up:∀{l:List Int},ko 4440 l->ko 71105 l:=λi=>i.up ∅;have lp:∀{l:List Int},l≠[]->0<l.length:=λh=>List.length_pos_iff.mpr h;refine⟨W,⟨_,(hW _ _ _).mpr ⟨a,b,ms,ns,[],[],1,1,_,_,_,_,_,_,_,rfl,rfl,S02,S2 _ _ h1,S02 _ _ ha,S02 _ _ hb,aj ha nt,aj hb nt,m0,by have:=il.1;simp;nofun,lmn,up im,up il,λr z=>z,λr z=>z,λn0=>⟨_,ye.first (b:=4440) () (by have:=im.1;nofun) ∅ (btn im) (btn il) (il.2.2 n0) (λk hk=>bO (by have:=lp n0;nofun)) (λk hk=>bO (by have:=lp m0;nofun))⟩,⟨rfl,by simp⟩,by simp⟩⟩,λm σ H3 hw=>?_⟩
  obtain⟨oa,ra,Fs,Gs,tv,rows,x,g,o5,o6,o7,o8,o9,o10,o11,rfl,rfl,S3,ht3,hF,hG,noa,nra,f0,lt7,lGF,iF,iG,gc,gc2,gs,rt,rwb⟩:=(hW _ _ _).mp hw;refine⟨_,rfl,_,pC hG,cK (λhc=>⟨_,λσ' H' z=>z,?_⟩) (λhc=>hN3 _ _ ?_)⟩
  .have g0:Gs≠[]:=λz=>by rw[z] at hc;cases hc
   obtain⟨Sx,I⟩:=gs g0;have lg:=lp g0;obtain⟨δ,hδ⟩:∃δ,δ=Fs.length-Gs.length:=⟨_,rfl⟩;have hδ2:Fs.length-1-(Gs.length-1)=δ:=Mn (List.length_pos_iff.mpr g0) hδ;have hgl:Gs.length-1<Gs.length:=();obtain⟨c,hcd⟩:∃c,c=nz Gs (Gs.length-1):=⟨_,rfl⟩;have hce:Gs[Gs.length-1]=c:=by rw[hcd,cr (YU hgl)]
   have bc:Bt 71105 c:=hcd▸btn iG _;have c0:c≠0:=hcd▸iG.2.2 g0;have xl:(Gs.map V.int).getLast? = some (.int c):=by
    rw[Y1,YF,YC,YU hgl,hce];rfl
   have lF7:=iF.1;refine aK.gen λM1 hM1=>?_;symm
   refine⟨Fs.length,by simp only[el,hF,YF],Gs.length,by simp only[el,hG,YF],hM1 _ _ ?_⟩
   rw[MA lGF hδ];refine aK.gen λM2 hM2=>?_;symm
   refine⟨_,hG,_,fX xl,⟨c,δ+1,71105,rfl,(),∅,bc,hM2 _ _ ?_⟩⟩;refine aK.gen λM3 hM3=>?_;symm
   refine⟨oa,ra,Fs,Gs,71105,71105,rfl,hF,hG,lg,iG.2.2 g0,(),(),∅,∅,iF.2.1,iG.2.1,λp4 qa rb S qs rs H4 S4 h4 hqa hrb nrb lq lr hSe bS bq br lrz ev=>⟨_,rfl,_,h4,rfl,_,_,rfl,_,_,rfl,_,_,rfl,rfl,hM3 _ _ ?_⟩⟩;obtain⟨e,he,hS⟩:=hSe;rw[<-hcd] at hS;have lq2:qs.length=δ+1:=MH lq lGF hδ;have S0:S≠0:=by rw[hS];exact XD c0
   obtain⟨lack,hlack⟩:∃lack,lack=c^(δ+1-e):=⟨_,rfl⟩;have elk:c^(δ+1)=lack*S:=by rw[hlack,hS,<-Lr,Nat.sub_add_cancel (Yg he (Nat.le_of_eq (lq.symm.trans lq2)))]
   obtain⟨top,htop⟩:∃top,top=x*g^δ:=⟨_,rfl⟩;have top0:top≠0:=by rw[htop];exact Xg I.inv.x0 (XD I.inv.h0)
   have δ6:71105*δ<=71105*8:=Xz _ ();have btop:Bt 800000 top:=by rw[htop];exact (I.bx.mul (I.bh.pow1 δ)).mono ()
   have black:Bt 800000 lack:=by
    rw[hlack];refine (bc.pow1 _).mono ?_;have:71105*(δ+1-e)<=71105*9:=Xz _ ();nofun
   have bgam:Bt 800000 (c^(δ+1)):=by
    refine (bc.pow1 _).mono ?_;have:71105*(δ+1)<=71105*9:=Xz _ ();nofun
   refine aK.gen λM4 hM4=>?_;symm
   refine⟨g,δ,71105,rfl,(),∅,I.bh,?_⟩;rw[ij];refine⟨cg I.bx (I.bh.pow1 δ) (),hM4 _ _ ?_⟩;rw[<-htop];have ev2:∀k,c^(δ+1)*nz Fs k=pz (λi=>lack*nz qs i) (nz Gs) (δ+1) k+lack*nz rs k:=λk=>by
    rw[xU,<-Int.mul_add,<-lq2,<-ev k,<-Xc,<-elk,lq2]
   obtain⟨r,g',hR,bR,r0,ng',bg',hh,next⟩:=I.rest (q:=λi=>lack*nz qs i) (R:=λk=>lack*nz rs k) (λk hk=>by rw[bO (),Xr]) (λk=>by rw[<-hcd,hδ2];exact ev2 k)
   rw[hδ2,<-htop] at hR;rw[<-hcd,hδ2] at hh;rw[<-hcd] at next
   refine aK.gen λM5 hM5=>?_;have key:∀(rc:Addr)(Rs:List Int)(tv':List V)(rows':List (List Int×List Int×Int×Int))(H':Hp)(u7 u11:Option V),LE K H H'->vw K H' t=some (.lst tv')->vw K H' ra=some (.lst (Gs.map V.int))->vw K H' rc=some (.lst (Rs.map V.int))->rc≠t->Rs.length<Gs.length->tv'.length+Rs.length<=9->(∀k,nz Rs k=r k)->ko 71105 Rs->(∀r,uX Gs Rs r->uX ms ns (rows'++r))->(∀r,Ei c g' Gs Rs r->Ei 1 1 ms ns (rows'++r))->rH (vw K H') t tv' rows'->(∀row∈rows',Hm row)->M5 [some (.ref oa),some (.ref ra),some (.ref t),some (.int x),some (.int g),some (.int δ),some (.int (c^(δ+1))),u7,some (.ref rc),some (.int S),some (.int top),u11] H':=by
    intro rc Rs tv' rows' H' u7 u11 Sx' ht' hG' hR' nrc lR lt' eR iR gc' gd' rt' rb';have fin:∀u7 u11:Option V,∃m',m'<Gs.length/\W m' [some (.ref ra),some (.ref rc),some (.ref t),some (.int c),some (.int g'),some (.int δ),some (.int (c^(δ+1))),u7,some (.ref rc),some (.int S),some (.int top),u11] H':=λu7 u11=>by
     refine⟨Rs.length,lR,(hW _ _ _).mpr ⟨ra,rc,Gs,Rs,tv',rows',c,g',_,_,_,_,_,_,_,rfl,rfl,Sx',ht',hG',hR',nra,nrc,g0,lt',(),iG,iR,gc',gd',λz=>?_,rt',rb'⟩⟩;have lz:=lp z;have e1:r=nz Rs:=funext λk=>(eR k).symm;have nx:=next (Rs.length-1) (LY lR lz) (by rw[<-eR];exact iR.2.2 z) (λk hk=>by rw[<-eR];exact bO ())
     rw[e1] at nx;exact⟨_,nx⟩
    refine hM5 _ _ ?_;symm
    refine⟨_,hG',_,fX xl,cK (λh0=>?_) (λh0=>?_)⟩
    .rcases hh with ⟨z,_⟩|⟨_,z2⟩
     .nofun
     have δ5:71105*(δ-1)<=71105*8:=Xz _ ();have u0:g^(δ-1)≠0:=XD I.inv.h0;refine⟨c,δ,71105,rfl,(),∅,bc,⟨g,δ-1,71105,by rw[show ((δ:Int)-1)=((δ-1:Nat):Int) by nofun],(),∅,I.bh,_,rfl,_,rfl,u0,?_⟩⟩
     have e1:(c^δ).fdiv (g^(δ-1))=g':=Xf u0 (by rw[gg u0 ⟨g',by rw[<-z2,Xd]⟩,z2])
     rw[e1];exact fin u7 u11
    .rcases hh with ⟨_,z⟩|⟨z,_⟩
     .rw[<-z];exact fin u7 u11
     .nofun
   have nt4:t≠rb:=aj ht3 nrb;symm
   refine⟨_,pC hrb,cK (λhc2=>?_) (λhc2=>?_)⟩
   .have ef:(c^(δ+1)).fdiv S=lack:=Xf S0 (by rw[gg S0 ⟨lack,by rw[elk,Xd]⟩,elk])
    rw[ef];have rs0:rs≠[]:=λz=>by rw[z] at hc2;cases hc2
    have lrs:=lp rs0;refine⟨S0,⟨_,.of (aN hrb)⟩,λd6 H6 hd6 S6 h6=>?_⟩;refine bH (its:=rs.map V.int) (λj zs H'=>LE K H4 H'/\zs=((rs.take j).map λy=>(lack*y).fdiv top).map V.int) (λj zs H' _ _ z=>bK (z.1 _ _ hrb)) h6 ⟨S6,rfl⟩ (λj y zs H' hj hy h' z=>?_) (λzs H7 h7 z=>?_)
    .obtain⟨z1,rfl⟩:=z;rw[YF] at hj;rw[YC,YU hj] at hy;cases hy;symm
     refine⟨cg black (br _ (YT hj)) (),top0,.mk h' ?_ λH8 B8 h8=>⟨λy o e=>B8 _ _ (aj e hd6) (z1 _ _ e),?_⟩⟩
     .rw[YF,YF,Yx];exact Ho ()
     .rw[Xj,YU hj,XI,XI];rfl
    obtain⟨S47,rfl⟩:=z;rw[YF,Xl] at h7;refine⟨iX (S47 _ _ (S4 _ _ ht3)),⟨_,.of (aN (S47 _ _ hqa))⟩,λd8 H8 hd8 S8 h8=>?_⟩;refine bH (its:=qs.map V.int) (λj zs H'=>LE K H7 H'/\zs=((qs.take j).map λy=>lack*y).map V.int) (λj zs H' _ _ z=>bK (z.1 _ _ (S47 _ _ hqa))) h8 ⟨S8,rfl⟩ (λj y zs H' hj hy h' z=>?_) (λzs H9 h9 z=>?_)
    .obtain⟨z1,rfl⟩:=z;rw[YF] at hj;rw[YC,YU hj] at hy;cases hy;symm
     refine⟨cg black (bq _ (YT hj)) (),.mk h' ?_ λH8 B8 h8=>⟨λy o e=>B8 _ _ (aj e hd8) (z1 _ _ e),?_⟩⟩
     .rw[YF,YF,Yx];exact Ho ()
     .rw[Xj,YU hj,XI,XI];rfl
    obtain⟨S79,rfl⟩:=z;have S49:=S47.trans S79;refine⟨∅,λp10 H10 hp10 S10 h10=>?_⟩;have ht10:=S10 _ _ (S49 _ _ (S4 _ _ ht3));refine⟨tv,ht10,?_,λH11 B11 h11=>?_⟩
    .have:1000<=sizeLine:=∅;nofun
    have nt6:t≠d6:=aj (S4 _ _ ht3) hd6;have nt10:p10≠t:=(aj (S49 _ _ (S4 _ _ ht3)) hp10).symm;have S410:=S49.trans S10;have hd7:=(S79.trans S10) _ _ h7;have lRs:(rs.map λy=>(lack*y).fdiv top).length=rs.length:=YF _;have eR:∀k,nz (rs.map λy=>(lack*y).fdiv top) k=r k:=λk=>by
     have q1:=hR k;cases ek:rs[k]? with
     | none =>
      have l:=List.getElem?_eq_none_iff.mp ek;rw[bO l,Xr] at q1;rw[bO (by rw[lRs];exact l)]
      rcases Int.mul_eq_zero.mp q1.symm with z|z
      .exact absurd z top0
      .exact z.symm
     | some y =>
      rw[cr ek] at q1;rw[cr (n:=(lack*y).fdiv top) (by rw[YC,ek];rfl)]
      exact Xf top0 (by rw[gg top0 ⟨_,q1⟩,q1,Xd])
    have R0:(rs.map λy=>(lack*y).fdiv top)≠[]:=λz=>rs0 (List.map_eq_nil_iff.mp z);have Rl0:nz (rs.map λy=>(lack*y).fdiv top) ((rs.map λy=>(lack*y).fdiv top).length-1)≠0:=by
     rw[lRs,eR];intro z;have q1:=hR (rs.length-1);rw[z,Xr] at q1;rcases Int.mul_eq_zero.mp q1 with y|y
     .exact XD c0 (hlack▸y)
     .exact lrz () y
    have Rb:∀x∈(rs.map λy=>(lack*y).fdiv top),Bt 71105 x:=λx hx=>by
     obtain⟨k,hk⟩:=XQ hx;rw[<-cr hk,eR];exact bR k
    have nzq:∀i,nz (qs.map λy=>lack*y) i=lack*nz qs i:=λi=>by
     cases ek:qs[i]? with
     | none =>
      have l:=List.getElem?_eq_none_iff.mp ek;rw[bO l,bO (by rw[YF];exact l),Xr]
     | some y=>rw[cr ek,cr (n:=lack*y) (by rw[YC,ek];rfl)]
    have GO:∀k,c^(δ+1)*nz Fs k=pz (nz (qs.map λy=>lack*y)) (nz Gs) (qs.map λy=>lack*y).length k+top*nz (rs.map λy=>(lack*y).fdiv top) k:=λk=>by
     rw[show nz (qs.map λy=>lack*y)=λi=>lack*nz qs i from funext nzq,YF,lq2,ev2 k,eR,hR k]
    rw[YF,Xl] at h9;have hq10:=S10 _ _ h9;have nt8:d8≠t:=(aj ((S47) _ _ (S4 _ _ ht3)) hd8).symm;refine key d6 _ (tv++[.ref p10]) (rows++[(rs.map λy=>(lack*y).fdiv top,qs.map λy=>lack*y,top,c^(δ+1))]) H11 _ _ (λy o e=>B11 _ _ (aj e nt) ((S3.trans (S4.trans S410)) _ _ e)) h11 (B11 _ _ nra ((S4.trans S410) _ _ hG)) (B11 _ _ nt6.symm hd7) nt6.symm (by rw[lRs];exact lr) (by rw[lRs,YE];simp;nofun) eR ⟨by rw[lRs];nofun,Rb,λ_=>Rl0⟩ (λr' z=>?_) (λr' z=>?_) ⟨by simp[rt.1],λk row e=>?_⟩ (λrow me=>?_)
    .rw[YL];exact gc _ (.more g0 (iG.2.2 g0) (XD c0) top0 R0 Rl0 (by rw[lRs];exact lr) (by rw[YF];nofun) GO z)
    .rw[YL];refine gc2 _ (.more (h':=g') g0 (by rw[<-hcd,hδ]) (by rw[htop,hδ]) ng' ?_ (by rw[<-hcd];exact z))
     rw[<-hcd,<-hδ];rcases hh with ⟨y1,y2⟩|⟨y1,y2⟩
     .exact .inl ⟨(),y2⟩
     .exact .inr ⟨(),y2⟩
    .by_cases hk:k<rows.length
     .rw[YB hk] at e;obtain⟨p,ra',qa',a1,a2,a3,a4,a5,a6⟩:=rt.2 k row e;have S3z:=S4.trans S410;exact⟨p,ra',qa',by rw[YB (by rw[rt.1];exact hk)];exact a1,B11 _ _ (λz=>by rw[z,ht3] at a2;cases a2) (S3z _ _ a2),B11 _ _ a5 (S3z _ _ a3),B11 _ _ a6 (S3z _ _ a4),a5,a6⟩
     .have hk2:k=rows.length:=by
       have:=(List.getElem?_eq_some_iff.mp e).1;simp at this;nofun
      subst hk2;rw[Yz (),XF] at e;cases e;exact⟨p10,d6,d8,by rw[Yz (by rw[rt.1];nofun),rt.1,XF];rfl,B11 _ _ nt10 h10,B11 _ _ nt6.symm hd7,B11 _ _ nt8 hq10,nt6.symm,nt8⟩
    .rcases List.mem_append.mp me with z|z
     .exact rwb row z
     .cases List.mem_singleton.mp z;refine⟨by rw[lRs];nofun,λx hx=>(Rb x hx).mono ∅,btop,bgam,by rw[YF];nofun,by rw[YF];nofun,λx hx=>?_⟩
      obtain⟨y,hy,rfl⟩:=List.mem_map.mp hx;exact (black.mul (bq y hy)).mono ∅
   .have r1:rs=[]:=by
     cases rs with
     | nil=>rfl
     | cons _ _=>exact absurd rfl hc2
    subst r1;refine key rb [] tv rows H4 _ _ (S3.trans S4) (S4 _ _ ht3) (S4 _ _ hG) hrb nt4.symm (by simp;nofun) (by simp;nofun) (λk=>?_) ⟨by simp,by simp,λz=>absurd rfl z⟩ (λr' z=>?_) (λr' z=>?_) (rt.same S4) rwb
    .have:=hR k;rw[show nz [] k=0 from bO (by simp),Xr] at this
     rcases Int.mul_eq_zero.mp this.symm with z|z
     .exact absurd z top0
     .rw[show nz [] k=0 from bO (by simp),z]
    .have er:r'=[]:=by
      cases z with
      | nought=>rfl
      | last h _ _ _ _=>exact absurd rfl h
      | more h _ _ _ _ _ _ _ _ _=>exact absurd rfl h
     subst er;refine gc _ (.last g0 (iG.2.2 g0) S0 (Q:=qs) () λk=>?_);rw[ev k,show nz [] k=0 from bO (by simp)]
     nofun
    .have er:r'=[]:=by
      cases z with
      | nil=>rfl
      | more h _ _ _ _ _=>exact absurd rfl h
     subst er;exact gc2 _ .nil
  .have g1:Gs=[]:=by
    cases Gs with
    | nil=>rfl
    | cons _ _=>exact absurd rfl hc
   subst g1;symm
   have:=gc [] .nought;rw[Yw] at this;have this2:=gc2 [] .nil;rw[Yw] at this2;exact h t H3 tv rows S3 ht3 rt this this2 (by rw[<-rt.1];nofun) rwb
inductive qh (K:Sf)(vs:List V)(H:Hp)(Q:VK)(E:XK):Prop
 | mk (a:Addr)(fs:Lt):vs=[.ref a]->aP (vw K H) a fs->fs.length<=40->(∀q∈fs,Fq q/\Bq 4800 q)->bC fs->(∀d H' (rs:Lt),LE K H H'->aP (vw K H') d rs->vw K H d=none->bC rs->(∀k,cf rs k=((k+1:Nat):Int)*cf fs (k+1))->rs.length=fs.length-1->Q (.ref d) H')->qh K vs H Q E
theorem Dq(F:Se K "slope" ue f fd)(T:dS K mg)(C_times:⟨⟩ "times" ["one","other"] 3 (kg K)):#[] 4 f fd ["f"] (qh K):=by
 have scN:=wE.nd;refine F.okQ wE ?_ ?_;walk_at "q"
 .obtain⟨a,_,rfl,_⟩:=h;rfl
 .obtain⟨a,fs,rfl,ha,lf,hf,pf,h⟩:=h;refine⟨_,(ag (av (cR (own:=["k"]) (outs:=["f"]) (ixs:=[0]) rfl (ny rfl T.b_range (aa af (aa (s!"" (aa (qv 0) ac)) ac))) rfl ‹7› (λ_ _ _ _=>⟨(am (i:=0) ‹["k","f"]› rfl (·)),cY,(Sd C_times (aa (show QE _ _ (vY K _) from aT (aa (qv 0) (aa af ac))) (aa (aA (show wN _ (vd K) from cH) (qv 1) (qv 0) ‹9›) ac)))⟩)))),?_⟩
  walk_at"m";symm
  obtain⟨xs,hxs,rxs⟩:=id ha;have hlx:xs.length=fs.length:=by rw[rxs.length,YF]
  refine⟨_,ha.len,(),(),(),(),λd H1 hd S1 h1=>?_⟩;rw[show ((fs.length:Int)-1).toNat=fs.length-1 by nofun]
  have f1:∀k:Nat,Fq (((k:Nat):Int),1):=λk=>⟨Int.one_pos,by simp⟩
  refine bH (its:=eF 1 (fs.length-1)) (λi zs H'=>LE K H H' /\ ∃vs:Lt,vs.length=i/\aF (vw K H') (vs.map fr) zs/\(∀q∈vs,Fq q) /\ ∀(j:Nat)(q:Int×Int),vs[j]? = some q->wv q=((j+1:Nat):Int)*cf fs (j+1))
   (λ_ _ _ _ _ _=>aU) h1 ⟨S1,[],rfl,.mk_nil,by simp,by simp⟩ (λi x zs H2 hi hx h2 p=>?_) (λzs H2 h2 p=>?_)
  .obtain⟨S2,vs,lv,rv,fv,hv⟩:=p;obtain⟨hi',rfl⟩:=cW hx;rw[show (1:Int)+(i:Int)=((i+1:Nat):Int) by nofun]
   have hi2:i+1<fs.length:=();obtain⟨x2,e2,r2⟩:=rxs.at (i:=i+1) (d:=fr fs[i+1]) (by rw[YC,YU hi2];rfl)
   obtain⟨k1,k2⟩:=hf fs[i+1] (YT hi2);have bi:Bq 10 (((i+1:Nat):Int),1):=by
    refine⟨?_,(by decide:Bt 10 1)⟩
    show (((i+1:Nat):Int)).natAbs<2^10;nofun
   symm
   refine⟨∅,λp3 H3 hp3 S3 h3=>⟨xs,S3 _ _ (S2 _ _ hxs),x2,bA e2,?_⟩⟩;simp only[kg];symm
   refine⟨_,bI h3,_,aI.same (S2.trans S3) _ _ r2,(f1 (i+1)).ne,k1.ne,bi.mono ∅,k2.mono ∅,(bi.2.mul k2.2).mono ∅,λv4 H4 S4 r4=>.mk ((S3.trans S4) _ _ h2) ?_ λH5 B5 h5=>⟨λb o e=>B5 _ _ (aj e hd) (S4 _ _ (S3 _ _ (S2 _ _ e))),vs++[mS (((i+1:Nat):Int),1) fs[i+1]],by simp[lv],?_,λq hq=>?_,λj q e=>?_⟩⟩
   .rw[rv.length,YF,lv];have:1000<=sizeLine:=∅;nofun
   .rw[XI];exact (aF.flat_but ((S3.trans S4) _ _ h2) B5 _ _ (cE vs) (rv.same (S3.trans S4))).snoc (aI.flat_but ((S3.trans S4) _ _ h2) B5 _ _ (ci _) r4)
   .rcases List.mem_append.mp hq with z|z
    .exact fv q z
    .cases List.mem_singleton.mp z;exact gG (f1 (i+1)) k1
   .by_cases hj:j<vs.length
    .rw[YB hj] at e;exact hv j q e
    .have hj2:j=i:=by
      have:=(List.getElem?_eq_some_iff.mp e).1;simp at this;nofun
     subst hj2;rw[Yz (),lv,XF] at e;cases e;rw[i7 (f1 (j+1)).ne k1.ne,aH (YU hi2)];have e1:wv (((j+1:Nat):Int),1)=((j+1:Nat):Int):=by
      show ‹(j+1:Nat)›/‹1›=_;have:‹1›=1:=rfl;rw[this];grind
     rw[e1]
  .obtain⟨S2,vs,lv,rv,fv,hv⟩:=p;rw[bU] at lv;refine h d H2 vs S2 ⟨zs,h2,rv⟩ hd ⟨fv,λq hq=>?_⟩ (λk=>?_) lv
   .intro e0;have hl:0<vs.length:=by
     cases vs with
     | nil=>cases hq
     | cons _ _=>simp
    rw[Y1] at hq;have e1:=hv _ q hq;rw[(cS (fv q (YD hq)).ne).mpr e0] at e1;have e2:fs[vs.length-1+1]? = some (fs[vs.length-1+1]'()):=YU ();rw[aH e2] at e1;have e3:fs.getLast? = some (fs[vs.length-1+1]'()):=by
     rw[Y1,<-e2];congr 1
     nofun
    have e4:=pf.2 _ e3;have e5:wv (fs[vs.length-1+1]'())≠0:=λz=>e4 ((cS (pf.1 _ (YT _)).ne).mp z);have e6:‹(vs.length-1+1:Nat)›≠0:=ao ();grind
   .by_cases hk:k<vs.length
    .rw[aH (YU hk)];exact hv k _ (YU hk)
    .rw[aJ (),aJ (qs:=fs) ()];grind
inductive fV (K:Sf)(vs:List V)(H:Hp)(Q:VK)(E:XK):Prop
 | mk (a:Addr)(ns:List Int)(d:Int):vs=[.ref a,.int d]->vw K H a=some (.lst (ns.map V.int))->ns.length<=100->d≠0->Bt 80000000 d->(∀c H' (rs:Lt),LE K H H'->aP (vw K H') c rs->vw K H c=none->bC rs->(∀k,cf rs k=‹nz ns k›/(d:Rat))->rs.length<=ns.length->(∀q∈rs,∃n∈ns,q=lo n d)->Q (.ref c) H')->fV K vs H Q E
theorem xC(F:Se K "divided" oq f fd)(T:dS K mg)(C_trimmed:⟨⟩ "trimmed" ["numbers","zero"] 1 (cZ K))(C_ratio:⟨⟩ "ratio" ["top","bottom"] 2 (dr K)):#[] 3 f fd ["wholes","bottom"] (fV K):=by
 have scN:=qd.nd;refine F.okQ qd ?_ ?_;walk_at "q"
 .obtain⟨a,_,_,rfl,_⟩:=h;rfl
 .obtain⟨a,ns,d,rfl,ha,ln,nd,bd,h⟩:=h;obtain⟨z_ZERO,hg_ZERO,hv_ZERO⟩:=T.g_ZERO;refine⟨_,(ag (av (Sd C_trimmed (aa (cR (own:=["whole"]) (outs:=["bottom"]) (ixs:=[1]) rfl (cV (qv 0)) rfl ‹7› (λ_ _ _ _=>⟨(am (i:=0) ‹["whole","bottom"]› rfl (·)),cY,(Sd C_ratio (aa (qv 0) (aa (qv 1) ac)))⟩)) (aa (cC (v:=V.ref z_ZERO) rfl hg_ZERO rfl) ac))))),?_⟩
  walk_at"m";symm
  refine⟨⟨_,.of (aN ha)⟩,λe H1 he S1 h1=>?_⟩;refine bH (its:=ns.map V.int) (λi zs H'=>LE K H H'/\aF (vw K H') (((ns.take i).map λn=>lo n d).map fr) zs)
   (λ_ _ H' _ _ p=>bK (p.1 _ _ ha)) h1 ⟨S1,.mk_nil⟩ (λi x zs H2 hi hx h2 p=>?_) (λzs H2 h2 p=>?_)
  .obtain⟨S2,rv⟩:=p;rw[YF] at hi;rw[YC,YU hi] at hx;cases hx;symm
   simp only[dr];symm
   refine⟨nd,bd.mono ∅,λv3 H3 S3 r3=>.mk (S3 _ _ h2) ?_ λH4 B4 h4=>⟨λb o e'=>B4 _ _ (aj e' he) (S3 _ _ (S2 _ _ e')),?_⟩⟩
   .rw[rv.length,YF,YF,Yx];have:1000<=sizeLine:=∅;nofun
   .rw[Xj,YU hi,XI,XI];exact (aF.flat_but (S3 _ _ h2) B4 _ _ (cE _) (rv.same S3)).snoc (aI.flat_but (S3 _ _ h2) B4 _ _ (ci _) r3)
  .obtain⟨S2,rv⟩:=p;rw[YF,Xl] at rv;symm
   simp only[cZ];refine .inl ?_;symm
   refine⟨_,⟨zs,h2,rv⟩,hv_ZERO _,λq hq=>?_,λc H3 rs S3 l3 n3 p3 c3 e3 m3=>h c H3 rs (S2.trans S3) l3 ?_ p3 (λk=>?_) ?_ λq hq=>?_⟩
   .obtain⟨n,_,rfl⟩:=List.mem_map.mp hq;exact ix nd
   .cases e':vw K H c with
    | none=>rfl
    | some o=>rw[S2 _ _ e'] at n3;cases n3
   .rw[c3 k];by_cases hk:k<ns.length
    .rw[cr (YU hk),aH (q:=lo ns[k] d) (by rw[YC,YU hk];rfl)]
     exact io nd
    .rw[aJ (by rw[YF];nofun),bO ()]
     show 0=‹0›/(d:Rat);grind
   .rw[YF] at e3;exact e3
   .obtain⟨n,h1,h2⟩:=List.mem_map.mp (m3 q hq);exact⟨n,h1,h2.symm⟩
inductive dg (K:Sf)(vs:List V)(H:Hp)(Q:VK)(E:XK):Prop
 | mk (a b:Addr)(ms ns:List Int)(m n:Nat):vs=[.ref a,.ref b]->vw K H a=some (.lst (ms.map V.int))->vw K H b=some (.lst (ns.map V.int))->ms.length<=40->ns.length<=40->m<=40000000->n<=40000000->(∀x∈ms,Bt m x)->(∀x∈ns,Bt n x)->(∀c H' L,LE K H H'->vw K H' c=some (.lst ((lz L (pz (nz ms) (nz ns) ms.length)).map V.int))->vw K H c=none->L<=ms.length+ns.length->(ms≠[]->ns≠[]->L+1=ms.length+ns.length)->(∀k,L<=k->pz (nz ms) (nz ns) ms.length k=0)->Q (.ref c) H')->dg K vs H Q E
theorem jS(F:Se K "wholes_multiplied" eI f fd)(T:dS K mg):#[] 1 f fd ["one","other"] (dg K):=by
 have scN:=gh.nd;refine F.okQ gh ?_ ?_;walk_at "q"
 .obtain⟨a,_,_,_,_,_,rfl,_⟩:=h;rfl
 .obtain⟨a,b,ms,ns,m,n,rfl,ha,hb,lm,ln,hm,hn,bm,bn,h⟩:=h;refine⟨_,(ae (bQ (QW.pt (gN (dX (fF (qv 0) (λ_=>rfl))) (ig (dX (fF (qv 1) (λ_=>rfl)))))) (ag (av (aS ac))) aL)
   (ae (L4 (i:=2) (aq aO (aS (aa af ac)) (aq cp (aq aW (s!"" (aa (qv 0) ac)) (s!"" (aa (qv 1) ac))) af)))
   (ae (cL PassesOwn.never rfl (kz rfl T.b_enumerate (aa (qv 0) ac)) (aY (n:=2) rfl (au (L3 (i:=3)) (au (L3 (i:=4)) aX))) (ag (cL PassesOwn.never rfl (kz rfl T.b_enumerate (aa (qv 1) ac)) (aY (n:=2) rfl (au (L3 (i:=5)) (au (L3 (i:=6)) aX))) (ag (lU (qv 2) (aq aW (qv 3) (qv 5)) iU (aq aO (qv 4) (qv 6)) wM dI)))))
   (ag (av (qv 2)))))),?_⟩
  walk_at"m";walk_at"1"
  have lena:el (vw K H) a=some ms.length:=by simp only[el,ha,YF]
  have lenb:el (vw K H) b=some ns.length:=by simp only[el,hb,YF]
  refine⟨_,pC ha,cK (λe=>?_) λe=>?_⟩
  .have e2:ms=[]:=by simpa using e
   subst e2;exact⟨∅,λc H2 hc S2 h2=>h c H2 0 S2 h2 hc (by simp) (λz=>absurd rfl z) λk _=>rfl⟩
  refine⟨_,pC hb,cK (λe'=>?_) λe'=>hN1 _ _ ?_⟩
  .have e2:ns=[]:=by simpa using e'
   subst e2;refine⟨∅,λc H2 hc S2 h2=>h c H2 0 S2 h2 hc (by simp) (λ_ z=>absurd rfl z) λk _=>?_⟩
   have z:∀j,pz (nz ms) (nz []) j k=0:=λj=>by
    induction j with
    | zero=>rfl
    | succ j ih =>
     show pz (nz ms) (nz []) j k+(if j<=k then nz ms j*nz [] (k-j) else 0)=0
     rw[ih,bO (ns:=[]) (by simp)]
     simp
   exact z _
  have em:0<ms.length:=by
   cases ms with
   | nil=>exact absurd rfl e
   | cons _ _=>simp
  have en:0<ns.length:=by
   cases ns with
   | nil=>exact absurd rfl e'
   | cons _ _=>simp
  walk_at"2"
  refine⟨∅,λp1 H1 hp1 S1 h1=>⟨ms.length,(by simp only[el,S1 _ _ ha,YF]),ns.length,(by simp only[el,S1 _ _ hb,YF]),?_⟩⟩
  obtain⟨L,hL⟩:∃L,ms.length+ns.length=L+1:=⟨ms.length+ns.length-1,()⟩;rw[show (ms.length:Int)+(ns.length:Int)-1=((L:Nat):Int) by nofun,fH]
  refine⟨_,h1,(),(),?_,λc H2 hc S2 h2=>hN2 _ _ ?_⟩
  .have:1000<=sizeLine:=∅;simp;nofun
  rw[show ((L:Nat):Int).toNat=L by nofun,IA] at h2
  have S02:=S1.trans S2;have nc:vw K H c=none:=by
   cases e0:vw K H c with
   | none=>rfl
   | some o=>rw[S1 _ _ e0] at hc;cases hc
  walk_at"3"
  simp only[oy];symm
  refine⟨⟨_,S02 _ _ ha⟩,?_⟩;obtain⟨Pv,hPv⟩:∃Pv:Nat->St->Hp->Prop,∀j σ H',Pv j σ H'↔X4 λo3 o4 o5 o6=>σ=[some (.ref a),some (.ref b),some (.ref c),o3,o4,o5,o6]/\LE K H H'/\vw K H' c=some (.lst (lz L λk=>V.int (pz (nz ms) (nz ns) j k))):=⟨_,λ_ _ _=>XH⟩;refine jJ (rows:=(ms.map V.int).mapIdx λi x=>[V.int i,x]) Pv (λj σ H' _ p=>?_) ((hPv _ _ _).mpr ⟨_,_,_,_,rfl,S02,h2⟩) (λj t σ H3 p H4 hj ht pv hp S4 h4=>?_) (λσ H3 pv=>?_)
  .obtain⟨_,_,_,_,_,S,_⟩:=(hPv _ _ _).mp p;exact⟨_,aN (S _ _ ha),rfl⟩
  .obtain⟨o3,o4,o5,o6,rfl,S3,h3⟩:=(hPv _ _ _).mp pv;rw[Y6,YF] at hj;rw[Y5,YC,YU hj] at ht;cases ht;symm
   refine⟨_,h4,rfl,?_⟩;symm
   have S04:=S3.trans S4;simp only[oy];symm
   refine⟨⟨_,S04 _ _ hb⟩,?_⟩;obtain⟨Pw,hPw⟩:∃Pw:Nat->St->Hp->Prop,∀l σ H',Pw l σ H'↔X2 λo5 o6=>σ=[some (.ref a),some (.ref b),some (.ref c),some (.int j),some (.int ms[j]),o5,o6]/\LE K H H'/\vw K H' c=some (.lst (lz L λk=>V.int (qz (nz ms) (nz ns) j l k))):=⟨_,λ_ _ _=>XH⟩;refine jJ (rows:=(ns.map V.int).mapIdx λi x=>[V.int i,x]) Pw (λl σ H' _ p=>?_) ((hPw _ _ _).mpr ⟨_,_,rfl,S04,?_⟩) (λl t σ H5 p5 H6 hl ht pw hp5 S6 h6=>?_) (λσ H5 pw=>?_)
   .obtain⟨_,_,_,S,_⟩:=(hPw _ _ _).mp p;exact⟨_,aN (S _ _ hb),rfl⟩
   .rw[S4 _ _ h3];congr 2
    exact iM λk _=>by rw[LH]
   .obtain⟨o5,o6,rfl,S5,h5⟩:=(hPw _ _ _).mp pw;rw[Y6,YF] at hl;rw[Y5,YC,YU hl] at ht;cases ht;symm
    refine⟨_,h6,rfl,?_⟩;symm
    simp only[qg,Iq];symm
    have hx:=S6 _ _ h5;have b1:=bm ms[j] (YT hj);have b2:=bn ns[l] (YT hl);rw[show (j:Int)+(l:Int)=((j+l:Nat):Int) by nofun]
    have hjl:j+l<L:=();refine⟨_,hx,_,bA (dA hjl),cg b1 b2 (),_,rfl,_,hx,j+l,by rw[bZ];exact iC hjl,λH7 B7 h7=>(hPw _ _ _).mpr ⟨_,_,rfl,?_,?_⟩⟩
    .exact λx o e0=>B7 _ _ (aj e0 nc) (S6 _ _ (S5 _ _ e0))
    .rw[h7,DC];congr 2
     refine iM λk hk=>?_;rw[K6,cr (YU hj),cr (YU hl)];split<;>rfl
   .obtain⟨o5,o6,rfl,S5,h5⟩:=(hPw _ _ _).mp pw;refine (hPv _ _ _).mpr ⟨_,_,_,_,rfl,S5,?_⟩;rw[h5,Y6,YF];congr 2
    refine iM λk hk=>?_;rw[JQ λi hi=>bO hi]
  .obtain⟨o3,o4,o5,o6,rfl,S3,h3⟩:=(hPv _ _ _).mp pv;rw[Y6,YF] at h3;refine hN3 _ _ ?_;symm
   refine h c H3 L S3 (by rw[h3,uO]) nc () (λ_ _=>by nofun) λk hk=>?_
   have e1:=sY (f:=nz ms) (g:=nz ns) (F:=λi=>(nz ms i:Rat)) (G:=λi=>(nz ns i:Rat)) (c:=1) (d:=1) (λi=>by grind) (λi=>by grind) ms.length k
   rw[gD (n:=ns.length) (λi hi=>by rw[bO hi];rfl) ms.length k ()] at e1
   have e2:‹pz (nz ms) (nz ns) ms.length k›=‹0›:=by rw[e1];grind
   exact Rat.intCast_inj.mp e2
def jq(K:Sf):Sp:=λvs H Q _=>∃(a:Addr)(fs:Lt)(k:Nat),vs=[.ref a,.int k]/\aP (vw K H) a fs /\ ∀v q,aI (vw K H) (fr q) v->(k<fs.length->q∈fs)->(fs.length<=k->q=(0,1))->wv q=cf fs k->Q v H
theorem sH(F:Se K "number_of" jY f fd)(T:dS K mg):#[] 1 f fd ["f","place"] (jq K):=by
 have scN:=mV.nd;refine F.okQ mV ?_ ?_;walk_at "q"
 .obtain⟨a,_,_,rfl,_⟩:=h;rfl
 .obtain⟨a,fs,k,rfl,ha,h⟩:=h;obtain⟨z_ZERO,hg_ZERO,hv_ZERO⟩:=T.g_ZERO;refine⟨_,(ag (av (mK (aD mD (qv 1) (s!"" (aa (qv 0) ac)) (aC _)) (aA cH (qv 0) (qv 1) ‹9›) (cC (v:=V.ref z_ZERO) rfl hg_ZERO rfl)))),?_⟩
  walk_at"m";symm
  obtain⟨xs,hxs,rxs⟩:=id ha;refine⟨_,ha.len,cK (λhk=>?_) (λhk=>?_)⟩
  .have hk':k<fs.length:=();obtain⟨x,hx,r⟩:=rxs.at (i:=k) (d:=fr fs[k]) (by rw[YC,YU hk'];rfl)
   exact⟨xs,hxs,x,bA hx,h x fs[k] r (λ_=>YT hk') (λz=>by nofun) (aH (YU hk')).symm⟩
  .refine h _ (0,1) (bI (hv_ZERO _)) (λz=>by nofun) (λ_=>rfl) ?_
   rw[aJ (),cS ∅]
def iY(K:Sf):Sp:=λvs H Q _=>∃(a:Addr)(ns:List Int)(t b:Int)(W B:Nat),vs=[.ref a,.int t,.int b]/\vw K H a=some (.lst (ns.map V.int))/\ns.length<=40/\W<=1000000/\B<=10000/\(∀n∈ns,Bt W n)/\b≠0/\Bt B t/\Bt B b /\
 ∀p H' (u s:Int),LE K H H'->vw K H' p=some (.tup [.int u,.int s])->s≠0->(0<b->0<s)->(u:Rat)/(s:Rat)=GO ns ((t:Rat)/(b:Rat))->Bt (1+ns.length*B) s->Bt (W+1+ns.length*(B+2)) u->Q (.ref p) H'
theorem uL(F:Se K "wholes_at" jT f fd)(T:dS K mg):#[] 1 f fd ["wholes","top","bottom"] (iY K):=by
 have scN:=mj.nd;refine F.okQ mj ?_ ?_;walk_at "q"
 .obtain⟨a,_,_,_,_,_,rfl,_⟩:=h;rfl
 .obtain⟨a,ns,t,b,W,B,rfl,ha,ln,hW,hB,bn,nb,bt,bb,h⟩:=h;refine⟨_,(ae (cJ (aT (aa af (aa af ac))) (aY (n:=2) rfl (au (L3 (i:=3)) (au (L3 (i:=4)) aX))))
   (ae (cL PassesOwn.never rfl (JT rfl T.b_reversed (aa (qv 0) ac)) (L3 (i:=5)) (ae (kh (i:=4) scN rfl (·) (qv 2) pG)
   (ag (L4 (i:=3) (aq aW (aq aO (qv 3) (qv 1)) (aq aO (qv 5) (qv 4)))))))
   (ag (av (aT (aa (qv 3) (aa (qv 4) ac))))))),?_⟩
  walk_at"m";symm
  refine⟨∅,λp0 H0 hp0 S0 h0=>⟨p0,rfl,_,h0,rfl,?_⟩⟩;symm
  simp only[IB];symm
  replace h:=λp H' u s (S:LE K H0 H')=>h p H' u s (S0.trans S);replace ha:=S0 _ _ ha;clear S0 hp0 h0;refine⟨_,ha,?_⟩;have hLB:∀i,i<=ns.length->i*B<=400000/\i*(B+2)<=400080:=λi hi=>⟨Yg (Xt (Yg hi ln) hB) ∅,Yg (Xt (Yg hi ln) (show B+2<=10002 by nofun)) ∅⟩
  obtain⟨Pv,hPv⟩:∃Pv:Nat->St->Hp->Prop,∀j σ H',Pv j σ H'↔H'=H0 /\ ∃(u s:Int)(y:Option V),σ=[some (.ref a),some (.int t),some (.int b),some (.int u),some (.int s),y]/\s≠0/\(0<b->0<s)/\(u:Rat)/(s:Rat)=GO (ns.drop (ns.length-j)) ((t:Rat)/(b:Rat))/\Bt (1+j*B) s/\Bt (W+1+j*(B+2)) u:=⟨_,λ_ _ _=>XH⟩;refine bY (its:=(ns.map V.int).reverse) Pv (λj σ H' _ p=>?_) ((hPv _ _ _).mpr ⟨rfl,0,1,_,rfl,∅,λ_=>by decide,?_,?_,?_⟩) (λj x σ H1 hj hx pv=>?_) (λσ H1 pv=>?_)
  .obtain⟨rfl,_⟩:=(hPv _ _ _).mp p;exact Bb ha
  .rw[Nat.sub_zero,List.drop_length];show ‹0›/‹1›=0;have e0:‹0›=0:=rfl;rw[e0];grind
  .rw[Nat.zero_mul];decide
  .exact (show Bt 0 0 by decide).mono ()
  .obtain⟨rfl,u,s,y,rfl,s0,sp,hv,bs,bu⟩:=(hPv _ _ _).mp pv;simp only[Y9,YF] at hj;rw[List.getElem?_reverse (by rw[YF];exact hj),YF,YC,YU (show ns.length-1-j<ns.length by nofun)] at hx
   cases hx;have bw:=bn _ (YT (show ns.length-1-j<ns.length by nofun))
   have hd:=rQ hj;generalize ns[ns.length-1-j]'()=w at bw hd;obtain⟨q1,q2⟩:=hLB j ();have hjb:j*(B+2)=j*B+j*2:=Nat.mul_add j B 2;symm
   refine⟨cg bs bb (),?_⟩;have bs':=bs.mul bb;symm
   refine⟨cg bu bt (),cg bw bs' (),?_⟩;refine (hPv _ _ _).mpr ⟨rfl,_,_,_,rfl,Xg s0 nb,λhb0=>Xb (sp hb0) hb0,?_,bs'.mono (by rw[Xu];nofun),((bu.mul bt).add (bw.mul bs')).mono (by rw[Xu];nofun)⟩
   rw[hd];show _=(w:Rat)+_*GO (ns.drop (ns.length-j)) _;rw[<-hv];have c1:=ao s0;have c2:=ao nb;simp only[Xh,Xi];grind
  .obtain⟨rfl,u,s,y,rfl,s0,sp,hv,bs,bu⟩:=(hPv _ _ _).mp pv;simp only[Y9,YF,XF,List.drop_zero] at hv bs bu;symm
   exact⟨∅,λp5 H5 hp5 S5 h5=>h p5 H5 u s S5 h5 s0 sp hv bs bu⟩
inductive gL (K:Sf)(vs:List V)(H:Hp)(Q:VK)(E:XK):Prop
 | mk (a:Addr)(y:V)(fs:Lt)(c:Int×Int):vs=[.ref a,y]->aP (vw K H) a fs->aI (vw K H) (fr c) y->fs.length<=8->(∀q∈fs,Fq q/\Bq 20000 q)->Fq c->Bq 400 c->(∀v H' q,LE K H H'->aI (vw K H') (fr q) v->Fq q->wv q=Fg fs (wv c)->Q v H')->gL K vs H Q E
theorem uJ(F:Se K "number_at" ke f fd)(T:dS K mg)(C_cleared:⟨⟩ "cleared" ["f"] 2 (cj K))(C_wholes_at:⟨⟩ "wholes_at" ["wholes","top","bottom"] 1 (iY K))(C_ratio:⟨⟩ "ratio" ["top","bottom"] 2 (dr K)):#[] 3 f fd ["f","x"] (gL K):=by
 have scN:=mz.nd;refine F.okQ mz ?_ ?_;walk_at "q"
 .obtain⟨a,_,_,_,rfl,_⟩:=h;rfl
 .obtain⟨a,y,fs,c,rfl,ha,hy,lf,hf,fc,bc,h⟩:=h;refine⟨_,(ae (cJ (Sd C_cleared (aa (qv 0) ac)) (aY (n:=2) rfl (au (L3 (i:=2)) (au (L3 (i:=3)) aX))))
   (ae (cJ (Sd C_wholes_at (aa (qv 2) (aa (aA b9 (qv 1) af ‹9›) (aa (aA b9 (qv 1) af ‹9›) ac)))) (aY (n:=2) rfl (au (L3 (i:=4)) (au (L3 (i:=5)) aX))))
   (ag (av (Sd C_ratio (aa (qv 4) (aa (aq aO (qv 3) (qv 5)) ac))))))),?_⟩
  walk_at"m";obtain⟨z,rfl,hz⟩:=hy.fr_at;symm
  simp only[cj];symm
  refine⟨fs,ha,(),20000,∅,hf,λp1 b1 H1 D ns S1 h1 hb1 _ hD bD ln hn _=>⟨_,h1,rfl,_,_,rfl,_,_,rfl,rfl,_,S1 _ _ hz,_,dN,_,S1 _ _ hz,_,jF,?_⟩⟩;simp only[iY];symm
  refine⟨ns,hb1,(),180001,∅,400,∅,λn hn'=>?_,fc.ne,bc.1,bc.2,λp2 H2 u s S2 h2 s0 sp hv bs bu=>⟨_,h2,rfl,_,_,rfl,_,_,rfl,rfl,?_⟩⟩
  .obtain⟨i,hi⟩:=List.mem_iff_getElem?.mp hn';have hil:=(List.getElem?_eq_some_iff.mp hi).1;exact (hn i n _ hi (YU (show i<fs.length by nofun))).2.mono ()
  symm
  refine⟨cg bD bs (),?_⟩;simp only[dr];symm
  have hD0:D≠0:=();have nz:D*s≠0:=Xg hD0 s0;refine⟨nz,(bD.mul bs).mono (),λv H3 S3 r3=>h v H3 _ (S1.trans (S2.trans S3)) r3 (ix nz) ?_⟩;have ec:=wC (D:=(D:Rat)) (x:=(c.1:Rat)/(c.2:Rat)) ln λi n q e1 e2=>(hn i n q e1 e2).1;rw[ec] at hv;have c1:=ao hD0;have c2:=ao s0;rw[io nz,Xi];show _=Fg fs ((c.1:Rat)/(c.2:Rat));grind
inductive mC (K:Sf)(vs:List V)(H:Hp)(Q:VK)(E:XK):Prop
 | mk (a:Addr)(y:V)(fs:Lt)(c:Int×Int):vs=[.ref a,y]->aP (vw K H) a fs->aI (vw K H) (fr c) y->fs.length<=40->(∀q∈fs,Fq q/\Bq 100000 q)->Fq c->Bq 100000 c->(∀d H' (rs:Lt),LE K H H'->aP (vw K H') d rs->vw K H d=none->bC rs->(∀k,cf rs k=cf fs k*wv c)->rs.length<=fs.length->Q (.ref d) H')->mC K vs H Q E
theorem Ef(F:Se K "grown" tV f fd)(T:dS K mg)(C_trimmed:⟨⟩ "trimmed" ["numbers","zero"] 1 (cZ K))(C_times:⟨⟩ "times" ["one","other"] 3 (kg K)):#[] 4 f fd ["f","by"] (mC K):=by
 have scN:=wa.nd;refine F.okQ wa ?_ ?_;walk_at "q"
 .obtain⟨a,_,_,_,rfl,_⟩:=h;rfl
 .obtain⟨a,y,fs,c,rfl,ha,hy,lf,hf,fc,bc,h⟩:=h;obtain⟨z_ZERO,hg_ZERO,hv_ZERO⟩:=T.g_ZERO;refine⟨_,(ag (av (Sd C_trimmed (aa (cR (own:=["number"]) (outs:=["by"]) (ixs:=[1]) rfl (cV (qv 0)) rfl ‹7› (λ_ _ _ _=>⟨(am (i:=0) ‹["number","by"]› rfl (·)),cY,(Sd C_times (aa (qv 0) (aa (qv 1) ac)))⟩)) (aa (cC (v:=V.ref z_ZERO) rfl hg_ZERO rfl) ac))))),?_⟩
  walk_at"m";symm
  obtain⟨xs,hxs,rxs⟩:=id ha;have hlx:xs.length=fs.length:=by rw[rxs.length,YF]
  refine⟨⟨xs,.of (aN hxs)⟩,λd H1 hd S1 h1=>?_⟩;refine bH (its:=xs) (λi zs H'=>LE K H H' /\ ∃vs:Lt,vs.length=i/\aF (vw K H') (vs.map fr) zs/\(∀q∈vs,Fq q) /\ ∀(j:Nat)(q:Int×Int),vs[j]? = some q->wv q=cf fs j*wv c)
   (λ_ _ H' _ _ p=>bK (p.1 _ _ hxs)) h1 ⟨S1,[],rfl,.mk_nil,by simp,by simp⟩ (λi x zs H2 hi hx h2 p=>?_) (λzs H2 h2 p=>?_)
  .obtain⟨S2,vs,lv,rv,fv,hv⟩:=p;have hi':i<fs.length:=();obtain⟨dd,e1,r1⟩:=rxs.get hx;rw[YC,YU hi'] at e1;cases e1;obtain⟨k1,k2⟩:=hf fs[i] (YT hi');symm
   simp only[kg];symm
   refine⟨_,aI.same S2 _ _ r1,c,aI.same S2 _ _ hy,k1.ne,fc.ne,k2.mono ∅,bc.mono ∅,(k2.2.mul bc.2).mono ∅,λv3 H3 S3 r3=>.mk (S3 _ _ h2) ?_ λH4 B4 h4=>⟨λb o e=>B4 _ _ (aj e hd) (S3 _ _ (S2 _ _ e)),vs++[mS fs[i] c],by simp[lv],?_,λq hq=>?_,λj q e=>?_⟩⟩
   .rw[rv.length,YF,lv];have:1000<=sizeLine:=∅;nofun
   .rw[XI];exact (aF.flat_but (S3 _ _ h2) B4 _ _ (cE vs) (rv.same S3)).snoc (aI.flat_but (S3 _ _ h2) B4 _ _ (ci _) r3)
   .rcases List.mem_append.mp hq with z|z
    .exact fv q z
    .cases List.mem_singleton.mp z;exact gG k1 fc
   .by_cases hj:j<vs.length
    .rw[YB hj] at e;exact hv j q e
    .have hj2:j=i:=by
      have:=(List.getElem?_eq_some_iff.mp e).1;simp at this;nofun
     subst hj2;rw[Yz (),lv,XF] at e;cases e;rw[i7 k1.ne fc.ne,aH (YU hi')]
  .obtain⟨S2,vs,lv,rv,fv,hv⟩:=p;symm
   simp only[cZ];symm
   refine .inl ⟨vs,⟨zs,h2,rv⟩,hv_ZERO _,fv,λe H3 rs S3 l3 n3 p3 c3 e3 _=>h e H3 rs (S2.trans S3) l3 ?_ p3 (λk=>?_) ()⟩
   .cases e':vw K H e with
    | none=>rfl
    | some o=>rw[S2 _ _ e'] at n3;cases n3
   .rw[c3 k];by_cases hk:k<vs.length
    .rw[aH (YU hk)];exact hv k _ (YU hk)
    .rw[aJ (),aJ (qs:=fs) ()];grind
inductive iA (K:Sf)(vs:List V)(H:Hp)(Q:VK)(E:XK):Prop
 | mk (a b:Addr)(fs gs:Lt):vs=[.ref a,.ref b]->aP (vw K H) a fs->aP (vw K H) b gs->fs.length<=40->gs.length<=40->(∀q∈fs,Fq q/\Bq 4400 q)->(∀q∈gs,Fq q/\Bq 4400 q)->(∀c H' (rs:Lt),LE K H H'->aP (vw K H') c rs->vw K H c=none->bC rs->(∀k,cf rs k=cf fs k-cf gs k)->rs.length<=max fs.length gs.length->Q (.ref c) H')->iA K vs H Q E
theorem wu(F:Se K "lessened" kZ f fd)(T:dS K mg)(C_trimmed:⟨⟩ "trimmed" ["numbers","zero"] 1 (cZ K))(C_minus:⟨⟩ "minus" ["one","other"] 3 (qx K))(C_number_of:⟨⟩ "number_of" ["f","place"] 1 (jq K)):#[] 4 f fd ["f","g"] (iA K):=by
 have scN:=oC.nd;refine F.okQ oC ?_ ?_;walk_at "q"
 .obtain⟨a,_,_,_,rfl,_⟩:=h;rfl
 .obtain⟨a,b,fs,gs,rfl,ha,hb,lf,lg',hf,hg,h⟩:=h;obtain⟨z_ZERO,hg_ZERO,hv_ZERO⟩:=T.g_ZERO;refine⟨_,(ae (L4 (i:=2) (ai (kw rfl) (by rfl) T.b_max uw (aa (s!"" (aa (qv 0) ac)) (aa (s!"" (aa (qv 1) ac)) ac))))
   (ag (av (Sd C_trimmed (aa (cR (own:=["k"]) (outs:=["f","g"]) (ixs:=[0,1]) rfl (cn rfl T.b_range (aa (qv 2) ac)) rfl ⟨rfl,rfl,rfl,⟨rfl,⟨rfl,trivial⟩⟩,rfl,⟨⟨rfl,rfl,rfl,_,rfl⟩,⟨⟨rfl,rfl,rfl,_,rfl⟩,trivial⟩⟩⟩ (λ_ _ _ _=>⟨(am (i:=0) ‹["k","f","g"]› rfl (·)),cY,(Sd C_minus (aa (Sd C_number_of (aa (qv 1) (aa (qv 0) ac))) (aa (Sd C_number_of (aa (qv 2) (aa (qv 0) ac))) ac)))⟩)) (aa (cC (v:=V.ref z_ZERO) rfl hg_ZERO rfl) ac)))))),?_⟩
  walk_at"m";symm
  refine⟨_,ha.len,_,hb.len,?_⟩;obtain⟨n,hn,hnm⟩:∃n:Nat,(if (gs.length:Int) > (fs.length:Int) then (gs.length:Int) else (fs.length:Int))=(n:Int)/\n=max fs.length gs.length:=by
   refine⟨max fs.length gs.length,?_,rfl⟩;split<;>nofun
  rw[hn];refine⟨(),(),λc H1 hc S1 h1=>?_⟩;refine bH (its:=eF 0 (Int.toNat n)) (λi zs H'=>LE K H H' /\ ∃vs:Lt,vs.length=i/\aF (vw K H') (vs.map fr) zs/\(∀q∈vs,Fq q) /\ ∀(j:Nat)(q:Int×Int),vs[j]? = some q->wv q=cf fs j-cf gs j)
   (λ_ _ _ _ _ _=>aU) h1 ⟨S1,[],rfl,.mk_nil,by simp,by simp⟩ (λi x zs H2 hi hx h2 p=>?_) (λzs H2 h2 p=>?_)
  .obtain⟨S2,vs,lv,rv,fv,hv⟩:=p;obtain⟨hi',rfl⟩:=cW hx;rw[XN];symm
   simp only[jq];symm
   refine⟨fs,i,rfl,ha.same S2,λv1 q1 r1 m1 z1 w1=>?_⟩;refine⟨gs,i,rfl,hb.same S2,λv2 q2 r2 m2 z2 w2=>?_⟩;have k1:Fq q1/\Bq 4400 q1:=by
    by_cases hl:i<fs.length
    .exact hf q1 (m1 hl)
    .rw[z1 ()];exact⟨⟨∅,∅⟩,Bq.mono (m:=10) (q:=(0,1)) ⟨∅,∅⟩ ∅⟩
   have k2:Fq q2/\Bq 4400 q2:=by
    by_cases hl:i<gs.length
    .exact hg q2 (m2 hl)
    .rw[z2 ()];exact⟨⟨∅,∅⟩,Bq.mono (m:=10) (q:=(0,1)) ⟨∅,∅⟩ ∅⟩
   simp only[qx];symm
   refine⟨q1,r1,q2,r2,k1.1.ne,k2.1.ne,k1.2.mono ∅,k2.2.mono ∅,(k1.2.2.mul k2.2.2).mono ∅,λv3 H3 S3 r3=>.mk (S3 _ _ h2) ?_ λH4 B4 h4=>⟨λb o e=>B4 _ _ (aj e hc) (S3 _ _ (S2 _ _ e)),vs++[qi q1 q2],by simp[lv],?_,λq hq=>?_,λj q e=>?_⟩⟩
   .rw[rv.length,YF,lv];have:1000<=sizeLine:=∅;nofun
   .rw[XI];exact (aF.flat_but (S3 _ _ h2) B4 _ _ (cE vs) (rv.same S3)).snoc (aI.flat_but (S3 _ _ h2) B4 _ _ (ci _) r3)
   .rcases List.mem_append.mp hq with z|z
    .exact fv q z
    .cases List.mem_singleton.mp z;exact ub k1.1 k2.1
   .by_cases hj:j<vs.length
    .rw[YB hj] at e;exact hv j q e
    .have hj2:j=i:=by
      have:=(List.getElem?_eq_some_iff.mp e).1;simp at this;nofun
     subst hj2;rw[Yz (),lv,XF] at e;cases e;rw[wO k1.1.ne k2.1.ne,w1,w2]
  .obtain⟨S2,vs,lv,rv,fv,hv⟩:=p;rw[bU] at lv;symm
   simp only[cZ];symm
   refine .inl ⟨vs,⟨zs,h2,rv⟩,hv_ZERO _,fv,λd H3 rs S3 l3 n3 p3 c3 e3 _=>h d H3 rs (S2.trans S3) l3 ?_ p3 (λk=>?_) ()⟩
   .cases e:vw K H d with
    | none=>rfl
    | some o=>rw[S2 _ _ e] at n3;cases n3
   .rw[c3 k];by_cases hk:k<vs.length
    .rw[aH (YU hk)];exact hv k _ (YU hk)
    .rw[aJ (),aJ (qs:=fs) (),aJ (qs:=gs) ()];grind
inductive lJ (K:Sf)(vs:List V)(H:Hp)(Q:VK)(E:XK):Prop
 | mk (a b:Addr)(fs gs:Lt):vs=[.ref a,.ref b]->aP (vw K H) a fs->aP (vw K H) b gs->fs≠[]->fs.length<gs.length->gs.length<=7->bC fs->bC gs->Pb 4440 (cf fs)->Pb 4440 (cf gs)->uM (cf gs) (cf fs)->(∀d H' (rs:Lt),LE K H H'->aP (vw K H') d rs->bC rs->rs.length<=8->Pb 94000 (cf rs)->(∃V:Rat->Rat,Py V /\ ∀x,EV (cf rs) x*EV (cf fs) x=1+V x*EV (cf gs) x)->Q (.ref d) H')->lJ K vs H Q E
theorem yf(F:Se K "inverse" mZ f fd)(T:dS K mg)(N_:qp P base)(C_cleared:⟨⟩ "cleared" ["f"] 2 (cj K))(C_wholes_rests:⟨⟩ "wholes_rests" ["one","other"] 3 (gq K))(C_wholes_multiplied:⟨⟩ "wholes_multiplied" ["one","other"] 1 (dg K))(C_divided:⟨⟩ "divided" ["wholes","bottom"] 3 (fV K)):#[] 4 f fd ["f","g"] (lJ K):=by
 have scN:=pQ.nd;refine F.okQ pQ ?_ ?_;walk_at "q"
 .obtain⟨_,_,_,_,rfl,_⟩:=h;rfl
 .obtain⟨a,b,fs,gs,rfl,ha,hb,f0,lfg,lg7,pf,pg,bf,bg,ns',h⟩:=h;refine⟨_,(ae (cJ (Sd C_cleared (aa (qv 0) ac)) (aY (n:=2) rfl (au (L3 (i:=2)) (au (L3 (i:=3)) aX))))
   (ae (yp (i:=4) (j:=5) (k:=6) rfl scN rfl rfl rfl ∅ ∅ ∅ rfl rfl rfl (aa (aS ac) (aa (aS (aa af ac)) (aa (qv 2) ac))) rfl)
   (ae (cL PassesOwn.never rfl (cV (Sd C_wholes_rests (aa (aA b9 (Sd C_cleared (aa (qv 1) ac)) af ‹9›) (aa (qv 2) ac)))) (aY (n:=4) rfl (au (L3 (i:=7)) (au (L3 (i:=8)) (au (L3 (i:=9)) (au (L3 (i:=10)) aX))))) (ae (lS (i:=11) (own:=["whole"]) (outs:=[]) (ixs:=[]) scN rfl (·) rfl (cV (Sd C_wholes_multiplied (aa (qv 8) (aa (qv 5) ac)))) rfl ⟨rfl,rfl,rfl,trivial,rfl,trivial⟩ (λ_ _ _ _=>⟨(am (i:=0) ‹["whole"]› rfl (·)),cY,(dD cI (qv 0))⟩))
   (ae (cL PassesOwn.never rfl (kz rfl T.b_enumerate (aa (qv 4) ac)) (aY (n:=2) rfl (au (L3 (i:=12)) (au (L3 (i:=13)) aX))) (ag (lU (qv 11) (qv 12) iU (aq aO (qv 10) (qv 13)) wM dI)))
   (ag (yp (i:=4) (j:=5) (k:=6) rfl scN rfl rfl rfl ∅ ∅ ∅ rfl rfl rfl (aa (qv 5) (aa (cR (own:=["whole"]) (outs:=["top"]) (ixs:=[9]) rfl (cV (qv 11)) rfl ‹7› (λ_ _ _ _=>⟨(am (i:=0) ‹["whole","top"]› rfl (·)),cY,(aq (vm N_ hr rfl rfl rfl rfl rfl) (qv 0) (qv 1))⟩)) (aa (qv 7) ac))) rfl)))))
   (ag (av (Sd C_divided (aa (cR (own:=["whole"]) (outs:=["bottom"]) (ixs:=[3]) rfl (cV (qv 5)) rfl ‹7› (λ_ _ _ _=>⟨(am (i:=0) ‹["whole","bottom"]› rfl (·)),cY,(aq (show eX _ _ (ii K) from aO) (qv 0) (qv 1))⟩)) (aa (aA cH (qv 6) af ‹9›) ac)))))))),?_⟩
  walk_at"m";skip
  walk_at"1"
  simp only[cj];refine⟨a,fs,4440,rfl,ha,(),∅,λq hq=>⟨pf.1 q hq,bf.bq pf.1 q hq⟩,λp1 b1 H1 D ns S1 h1 hb1 nb1 hD bD ln hn hm=>⟨_,rfl,_,h1,rfl,_,_,rfl,_,_,rfl,rfl,hN1 _ _ ?_⟩⟩;have cl1:=fk bf pf.1 hD hm ln λi n q e1 e2=>(hn i n q e1 e2).1;walk_at"2"
  simp only[BS];symm
  refine⟨∅,λfo H2 hfo S2 h2=>⟨∅,λla H3 hla S3 h3=>hN2 _ _ ?_⟩⟩;refine aK.gen λN3 hN3=>?_;have S23:=S2.trans S3;have S13:=S1.trans S23;symm
  simp only[cj];refine⟨b,gs,4440,rfl,hb.same S13,(),∅,λq hq=>⟨pg.1 q hq,bg.bq pg.1 q hq⟩,λp4 b4 H4 D4 ms S4 h4 hb4 nb4 hD4 bD4 lm hm4 hmm=>?_⟩;have cl4:=fk bg pg.1 hD4 hmm lm λi n q e1 e2=>(hm4 i n q e1 e2).1;refine⟨p4,rfl,_,h4,_,dN,?_⟩;have lf1:=List.length_pos_iff.mpr f0;have cA:∀k,‹nz ns k›=cf fs k*(D:Rat):=eK ln λi n q e1 e2=>(hn i n q e1 e2).1;have cB:∀k,‹nz ms k›=cf gs k*(D4:Rat):=eK lm λi n q e1 e2=>(hm4 i n q e1 e2).1;have cD:(D:Rat)≠0:=ao ();have cD4:(D4:Rat)≠0:=ao ();have nA:nz ns (ns.length-1)≠0:=λz=>by
   have e:=cA (ns.length-1);have p:=nF pf f0;rw[z,ln,show ‹0›=0 from rfl] at e
   grind
  have nB:nz ms (ms.length-1)≠0:=λz=>by
   have e:=cB (ms.length-1);have p:=nF pg (λz=>by rw[z] at lfg;simp at lfg)
   rw[z,lm,show ‹0›=0 from rfl] at e
   grind
  have ns0:ns≠[]:=λz=>by rw[z] at ln;simp at ln;nofun
  have ms0:ms≠[]:=λz=>by rw[z] at lm;simp at lm;nofun
  refine⟨b4,b1,ms,ns,rfl,hb4,(S23.trans S4) _ _ hb1,ms0,(),⟨(),cl4.2,λ_=>nB⟩,⟨(),cl1.2,λ_=>nA⟩,λd5 H5 tv rows S5 h5 rr rsq srw lr rb=>⟨d5,rfl,⟨_,.of (aN h5)⟩,?_⟩⟩;have few:=rsq.few;have S25:=S4.trans S5;obtain⟨Pv,hPv⟩:∃Pv:Nat->St->Hp->Prop,∀i σ H',Pv i σ H'↔Mq λ(fo la ls:Addr)(us ws F G:List Int)(o7 o8 o9 o10 o11 o12 o13:Option V)=>σ=[some (.ref a),some (.ref b),some (.ref b1),some (.int D),some (.ref fo),some (.ref la),some (.ref ls),o7,o8,o9,o10,o11,o12,o13]/\LE K H5 H'/\vw K H' fo=some (.lst (us.map V.int))/\vw K H' la=some (.lst (ws.map V.int))/\vw K H' ls=some (.lst (G.map V.int))/\uX F G (rows.drop i)/\(∃x h:Int,Ei x h F G (rows.drop i)/\GX 8 88887 x h (nz F) (nz G) (nz us) (nz ws) (F.length-1) (G.length-1))/\Im (ik ns) (ik ms) us F/\Im (ik ns) (ik ms) ws G/\G≠[]/\ws.length+F.length=ms.length+1/\us.length<=ws.length/\ws≠[]/\(∀x∈us,Bt 88887 x)/\(∀x∈ws,Bt 88887 x)/\gO G (rows.drop i)=gO ns rows:=⟨_,λ_ _ _=>XH⟩;refine bY (its:=tv) Pv (λi σ H' _ q=>?_) ((hPv _ _ _).mpr ⟨fo,la,b1,[],[1],ms,ns,_,_,_,_,_,_,_,rfl,.rfl,(S3.trans S25) _ _ h2,S25 _ _ h3,(S23.trans S25) _ _ hb1,rsq,⟨1,1,srw,GX.first (b:=4440) () () ∅ (gU cl4.2) (gU cl1.2) (gU (by simp)) (gU λx hx=>by cases List.mem_singleton.mp hx;exact (show Bt 2 1 by decide).mono ∅)⟩,⟨λ_=>1,.const 1,λx=>by rw[Go];grind⟩,⟨λ_=>0,.const 0,λx=>by rw[za];have c1:‹1›=1:=rfl;rw[c1];grind⟩,ns0,by simp;nofun,by simp,by simp,by simp,λx hx=>?_,rfl⟩) (λi x σ H6 hi hx pv=>?_) (λσ H6 pv=>hN3 _ _ ?_)
  .obtain⟨_,_,_,_,_,_,_,_,_,_,_,_,_,_,_,S',_⟩:=(hPv _ _ _).mp q;exact bK (S' _ _ h5)
  .cases List.mem_singleton.mp hx;exact (show Bt 2 1 by decide).mono ∅
  .obtain⟨fo,la,ls,us,ws,F,G,o7,o8,o9,o10,o11,o12,o13,rfl,S6,hfo,hla,hls,rq,⟨x1,h1',sw,pin⟩,cF,cG,G0,lw,luw,w0,bu,bw,elast⟩:=(hPv _ _ _).mp pv;have hir:i<rows.length:=by rw[<-rr.1];exact hi
   have me:rows[i]? = some rows[i]:=YU hir;obtain⟨p',ra,qa,t1,t2,t3,t4,_,_⟩:=rr.2 i _ me;obtain⟨_,_,bT,bS,q9,q1,bq⟩:=rb _ (YT hir);rw[Xq hir] at rq sw elast;obtain⟨R,Qw,Tt,Ss,erow⟩:∃R Qw Tt Ss,rows[i]=(R,Qw,Tt,Ss):=⟨_,_,_,_,rfl⟩;rw[erow] at rq sw elast t2 t3 t4 bT bS q9 q1 bq;rw[t1] at hx;cases hx;obtain⟨T0,lq,R0,rq',gt,rl,eqn⟩:Tt≠0/\Qw.length+G.length=F.length+1/\R≠[]/\uX G R (rows.drop (i+1))/\nz G (G.length-1)≠0/\R.length<G.length /\ ∀k,Ss*nz F k=pz (nz Qw) (nz G) Qw.length k+Tt*nz R k:=by
    cases rq with
    | more _ g2 _ h1 h2 _ g7 h3 g9 h4=>exact⟨h1,h3,h2,h4,g2,g7,g9⟩
   obtain⟨h2',eS,eT,n2,hh,sw'⟩:∃h2:Int,Ss=nz G (G.length-1)^(F.length-G.length+1)/\Tt=x1*h1'^(F.length-G.length)/\h2≠0/\(F.length=G.length/\h2=h1'\/G.length<F.length/\h2*h1'^(F.length-G.length-1)=nz G (G.length-1)^(F.length-G.length))/\Ei (nz G (G.length-1)) h2 G R (rows.drop (i+1)):=by
    cases sw with
    | more _ b c d e f=>exact⟨_,b,c,d,e,f⟩
   have i5:i<=4:=();replace q1:1<=Qw.length:=q1;replace q9:Qw.length<=9:=q9;replace bS:Bt 800000 Ss:=bS;replace bq:∀x∈Qw,Bt 2800000 x:=bq;have w1:=List.length_pos_iff.mpr w0;have g1:=List.length_pos_iff.mpr G0;have r1:=List.length_pos_iff.mpr R0;have lFG:G.length<=F.length:=();have ab:F.length-1-(G.length-1)=F.length-G.length:=Mn g1 rfl;have qn:F.length-G.length+1=Qw.length:=MC lq lFG;obtain⟨wf,ewf,bwf,nxt⟩:=pin.step (c:=nz G (G.length-1)) (q:=nz Qw) (r:=nz R) (m:=ws.length) ∅ () rfl gt (λk hk=>bO ()) (λk hk=>bO ()) (λk hk=>bO hk) () (λk hk=>bO ()) (λk=>by rw[ab,<-eS,<-eT,qn];exact eqn k)
   rw[ab,<-eS,<-eT,qn] at ewf;have nx:=λvs:List Int=>λ(e:∀k,nz vs k=wf k)=>show GX 8 88887 (nz G (G.length-1)) h2' (nz G) (nz R) (nz ws) (nz vs) (G.length-1) (R.length-1) from by
    rw[show nz vs=wf from funext e]
    refine nxt (R.length-1) h2' (LY rl r1) (λk hk=>bO ()) n2 ?_;rw[ab];rcases hh with ⟨y1,y2⟩|⟨y1,y2⟩
    .exact .inl ⟨(),y2⟩
    .exact .inr ⟨LY y1 g1,y2⟩
   have cf':=λvs:List Int=>λ(lv:vs.length<=20)(e:∀k,nz vs k=wf k)=>Im.step (v:=vs) cF cG T0 () ⟨(),(),()⟩ ⟨(),(),lv⟩ eqn (λk=>by rw[e];exact ewf k)
   symm
   refine⟨_,S6 _ _ t2,rfl,_,_,rfl,_,_,rfl,_,_,rfl,_,_,rfl,rfl,?_⟩;refine⟨qa,la,Qw,ws,2800000,88887,rfl,S6 _ _ t4,hla,(),(),∅,(),bq,bw,λc7 H7 L S7 h7 n7 lL eL zL=>?_⟩;have eL':=eL (λz=>by rw[z] at q1;simp at q1) w0
   obtain⟨ys,hys⟩:∃ys,ys=lz L (pz (nz Qw) (nz ws) Qw.length):=⟨_,rfl⟩;rw[<-hys] at h7;have lys:ys.length=L:=by rw[hys,bZ]
   have S67:=S6.trans S7;refine⟨c7,rfl,⟨_,.of (aN h7)⟩,λc8 H8 hc8 S8 h8=>?_⟩;refine bH (its:=ys.map V.int) (λj zs H'=>LE K H7 H'/\zs=(ys.take j).map λy=>V.int (-y)) (λj zs H' _ _ z=>bK (z.1 _ _ h7)) h8 ⟨S8,rfl⟩ (λj y zs H' hj hy h' z=>?_) (λzs H9 h9 z=>?_)
   .obtain⟨z1,rfl⟩:=z;rw[YF] at hj;rw[YC,YU hj] at hy;cases hy;symm
    refine .mk h' ?_ λH10 B10 h10=>⟨λx o e=>B10 _ _ (aj e hc8) (z1 _ _ e),?_⟩
    .rw[YF,Yx];exact Ho ()
    .rw[Xj,YU hj,XI];rfl
   obtain⟨S79,rfl⟩:=z;rw[YF,Xl] at h9;have by0:∀(k:Nat)(x:Int),(ys.map λy=>-y)[k]? = some x->Bt (2889600) x:=λk x e=>by
    rw[YC] at e;cases e2:ys[k]? with
    | none=>rw[e2] at e;cases e
    | some y =>
     rw[e2] at e;cases e;have bz:=Bj (gU bq) (gU bw) Qw.length k;have ey:nz ys k=pz (nz Qw) (nz ws) Qw.length k:=by rw[hys,qO (by rw[<-lys];exact (List.getElem?_eq_some_iff.mp e2).1)]
     rw[<-ey,cr e2] at bz;have bz':Bt (2889600) y:=bz.mono ();unfold Bt at bz' ⊢;rw[Int.natAbs_neg];exact bz'
   have nz_neg:∀k,nz (ys.map λy=>-y) k = -(nz ys k):=λk=>by
    cases ek:ys[k]? with
    | none =>
     have l:=List.getElem?_eq_none_iff.mp ek;rw[bO l,bO (by rw[YF];exact l)]
     rfl
    | some y=>rw[cr ek,cr (n:=-y) (by rw[YC,ek];rfl)]
   have eyz:∀k,nz ys k=pz (nz Qw) (nz ws) Qw.length k:=λk=>by
    by_cases hk:k<L
    .rw[hys,qO hk]
    .rw[bO (),zL k ()]
   simp only[oy];symm
   refine⟨⟨_,S79 _ _ (S7 _ _ hfo)⟩,?_⟩;obtain⟨Pw,hPw⟩:∃Pw:Nat->St->Hp->Prop,∀j σ H',Pw j σ H'↔X3 λ(o12 o13:Option V)(zs:List Int)=>σ=[some (.ref a),some (.ref b),some (.ref b1),some (.int D),some (.ref fo),some (.ref la),some (.ref ls),some (.ref ra),some (.ref qa),some (.int Tt),some (.int Ss),some (.ref c8),o12,o13]/\LE K H7 H'/\vw K H' c8=some (.lst (zs.map V.int))/\zs.length=L/\(∀(k:Nat)(x:Int),zs[k]? = some x->Bt (2889604) x)/\(∀(k:Nat)(x:Int),j<=k->zs[k]? = some x->Bt (2889600) x) /\ ∀k,nz zs k=(if k<j then Ss*nz us k else 0)-pz (nz Qw) (nz ws) Qw.length k:=⟨_,λ_ _ _=>XH⟩
   refine jJ (rows:=(us.map V.int).mapIdx λi x=>[V.int i,x]) Pw (λl σ H' _ p=>?_) ((hPw _ _ _).mpr ⟨_,_,ys.map λy=>-y,rfl,S79,by rw[List.map_map];exact h9,by rw[YF];exact lys,λk x e=>(by0 k x e).mono (),λk x _ e=>by0 k x e,λk=>?_⟩) (λl t σ H10 p10 H11 hl ht pw hp10 S11 h11=>?_) (λσ H10 pw=>?_)
   .obtain⟨_,_,_,_,S',_⟩:=(hPw _ _ _).mp p;exact⟨_,aN (S' _ _ (S7 _ _ hfo)),rfl⟩
   .rw[Yc (Nat.not_lt_zero _),nz_neg,eyz];nofun
   .obtain⟨o12,o13,zs,rfl,S10,h10,lzs,bz,bz2,vz⟩:=(hPw _ _ _).mp pw;rw[Y6,YF] at hl;rw[Y5,YC,YU hl] at ht;cases ht;have hlz:l<zs.length:=();symm
    refine⟨_,h11,rfl,?_⟩;symm
    simp only[qg,Iq];symm
    have hx:=S11 _ _ h10;have b1':=bu us[l] (YT hl);have b2':=bz2 l zs[l] (Yr _) (YU hlz);refine⟨_,hx,_,bA (by rw[YC,YU hlz];rfl),cg bS b1' (),_,rfl,_,hx,l,by rw[YF];exact iC hlz,λH12 B12 h12=>(hPw _ _ _).mpr ⟨_,_,zs.set l (zs[l]+Ss*us[l]),rfl,?_,?_,by rw[YJ];exact lzs,λk x e=>?_,λk x hk e=>?_,λk=>?_⟩⟩
    .exact λx o e0=>B12 _ _ (aj e0 hc8) (S11 _ _ (S10 _ _ e0))
    .rw[h12,List.map_set]
    .rw[List.getElem?_set] at e;split at e
     .first|cases e|(split at e<;>cases e)
      exact (b2'.add ((bS.mul b1').mono (n:=2889600) ())).mono ()
     .exact bz k x e
    .rw[Yn ()] at e;exact bz2 k x () e
    .rw[pe hlz];by_cases hkl:k=l
     .subst hkl;have v:=vz k;rw[Yc (),cr (YU hlz)] at v;rw[Yb rfl,Yb (),v,cr (YU hl)];nofun
     .rw[Yc hkl,vz];by_cases h2:k<l
      .rw[Yb h2,Yb ()]
      .rw[Yc h2,Yc ()]
   .obtain⟨o12,o13,zs,rfl,S10,h10,lzs,bz,bz2,vz⟩:=(hPw _ _ _).mp pw;rw[Y6,YF] at vz;have vT:∀k,nz zs k=Tt*wf k:=λk=>by
     have a:=vz k;have b:=ewf k;by_cases hk:k<us.length
     .rw[Yb hk] at a;nofun
     .rw[Yc hk] at a;rw[bO (show us.length<=k by nofun),Xr] at b
      nofun
    have vf:∀k,nz (zs.map λy=>y.fdiv Tt) k=wf k:=λk=>by
     cases ek:zs[k]? with
     | none =>
      have l:=List.getElem?_eq_none_iff.mp ek;have a:=vT k;rw[bO l] at a;rw[bO (by rw[YF];exact l)]
      rcases Int.mul_eq_zero.mp a.symm with z|z
      .exact absurd z T0
      .exact z.symm
     | some y =>
      have a:=vT k;rw[cr ek] at a;rw[cr (n:=y.fdiv Tt) (by rw[YC,ek];rfl)]
      exact Xf T0 (by rw[gg T0 ⟨_,a⟩,a,Xd])
    simp only[BS];symm
    refine⟨⟨_,.of (aN h10)⟩,λd12 H12 hd12 S12 h12=>?_⟩;refine bH (its:=zs.map V.int) (λj vs H'=>LE K H10 H'/\vs=((zs.take j).map λy=>y.fdiv Tt).map V.int) (λj vs H' _ _ z=>bK (z.1 _ _ h10)) h12 ⟨S12,rfl⟩ (λj y vs H' hj hy h' z=>?_) (λvs H13 h13 z=>?_)
    .obtain⟨z1,rfl⟩:=z;rw[YF] at hj;rw[YC,YU hj] at hy;cases hy;symm
     refine⟨T0,.mk h' ?_ λH14 B14 h14=>⟨λx o e=>B14 _ _ (aj e hd12) (z1 _ _ e),?_⟩⟩
     .rw[YF,YF,Yx];exact Ho ()
     .rw[Xj,YU hj,XI,XI];rfl
    .obtain⟨S13',rfl⟩:=z;rw[YF,Xl] at h13;have S713:=S10.trans S13';have S613:=S7.trans S713;refine (hPv _ _ _).mpr ⟨la,d12,ra,ws,zs.map λy=>y.fdiv Tt,G,R,_,_,_,_,_,_,_,rfl,S6.trans S613,S613 _ _ hla,h13,(S6.trans S613) _ _ t3,rq',⟨_,_,sw',nx _ vf⟩,cG,cf' _ (by rw[YF];nofun) vf,R0,by rw[YF];nofun,by rw[YF];nofun,λz=>?_,bw,λx hx=>?_,elast⟩
     .have:=Yp List.length z;rw[YF,lzs] at this;simp at this;nofun
     .obtain⟨k,hk⟩:=XQ hx;rw[<-cr hk,vf];exact bwf k
  .obtain⟨fo,la,ls,us,ws,F,G,o7,o8,o9,o10,o11,o12,o13,rfl,S6,hfo,hla,hls,rq,⟨x1,h1',sw,pin⟩,cF,cG,G0,lw,luw,w0,bu,bw,elast⟩:=(hPv _ _ _).mp pv;rw[rr.1,List.drop_length] at rq sw elast;have r5:rows.length<=5:=();obtain⟨x,ex,x0⟩:=rsq.one (f:=cf gs) (g:=cf fs) (c:=1/(D4:Rat)) (d:=1/(D:Rat)) ns0 () () (λk=>by show _=_*‹nz ms k›;rw[cB];grind) (λk=>by show _=_*‹nz ns k›;rw[cA];grind) ns'
   have eG:G=[x]:=by rw[<-ex,<-elast];rfl
   subst eG;have bx:Bt 71360 x:=by
    rcases AU ns rows with z|⟨row,me,z⟩
    .rw[ex] at z;exact (cl1.2 x (by rw[<-z];simp)).mono ∅
    .rw[ex] at z;exact (rb row me).2.1 x (by rw[<-z];simp)
   have S56:=S25.trans S6;symm
   refine⟨⟨_,.of (aN hla)⟩,λd7 H7 hd7 S7 h7=>?_⟩;refine bH (its:=ws.map V.int) (λj vs H'=>LE K H6 H'/\vs=((ws.take j).map λy=>y*D).map V.int) (λj vs H' _ _ z=>bK (z.1 _ _ hla)) h7 ⟨S7,rfl⟩ (λj y vs H' hj hy h' z=>?_) (λvs H8 h8 z=>?_)
   .obtain⟨z1,rfl⟩:=z;rw[YF] at hj;rw[YC,YU hj] at hy;cases hy;symm
    refine⟨cg (bw _ (YT hj)) cl1.1 (),.mk h' ?_ λH14 B14 h14=>⟨λx o e=>B14 _ _ (aj e hd7) (z1 _ _ e),?_⟩⟩
    .rw[YF,YF,Yx];exact Ho ()
    .rw[Xj,YU hj,XI,XI];rfl
   .obtain⟨S8,rfl⟩:=z;rw[YF,Xl] at h8;refine⟨_,S8 _ _ hls,_,rfl,?_⟩;refine⟨d7,ws.map λy=>y*D,x,rfl,h8,by rw[YF];nofun,x0,bx.mono (),λc9 H9 rs S9 l9 n9 p9 c9' e9 q9=>h c9 H9 rs (S13.trans (S56.trans (S8.trans S9))) l9 p9 (by rw[YF] at e9;nofun) ⟨x,x0,bx.mono ∅,λk=>⟨_,c9' k,gU (m:=94000) (λz hz=>?_) k⟩⟩ ?_⟩
    rotate_left
    .obtain⟨V,pV,eV⟩:=cG;refine⟨λy=>-((D4:Rat)/(x:Rat))*V y,pV.sc _,λy=>?_⟩;have cx:=ao x0;have e1:EV (cf rs) y=(D:Rat)/(x:Rat)*ik ws y:=by
      have:∀k,cf rs k=(D:Rat)/(x:Rat)*jD ws k:=λk=>by
       rw[c9',show (ws.map λy=>y*D)=ws.map λy=>D*y from List.map_congr_left λy _=>Xd _ _,pc,Xi]
       show _=_*‹nz ws k›;grind
      rw[dH this,qy];rfl
     have e2:ik ns y=(D:Rat)*EV (cf fs) y:=by
      have:∀k,jD ns k=(D:Rat)*cf fs k:=λk=>by
       show ‹nz ns k›=_;rw[cA];grind
      unfold ik;rw[dH this,qy]
     have e3:ik ms y=(D4:Rat)*EV (cf gs) y:=by
      have:∀k,jD ms k=(D4:Rat)*cf gs k:=λk=>by
       show ‹nz ms k›=_;rw[cB];grind
      unfold ik;rw[dH this,qy]
     have e4:=eV y;rw[za,e2,e3] at e4;rw[e1];show _=1 + -((D4:Rat)/(x:Rat))*V y*EV (cf gs) y;grind
    obtain⟨y,hy,rfl⟩:=List.mem_map.mp hz;exact ((bw y hy).mul cl1.1).mono ∅
theorem wU{ns:List Int}{D:Int}(p:bC qs)(q0:qs≠[])(ln:ns.length=qs.length)(hD:0<D)(c:∀k,‹nz ns k›=cf qs k*(D:Rat)):nz ns (ns.length-1)≠0:=λz=>by
 have e:=c (ns.length-1);have p:=nF p q0;have cD:(D:Rat)≠0:=ao ();rw[z,ln,show ‹0›=0 from rfl] at e
 grind
inductive gp (K:Sf)(vs:List V)(H:Hp)(Q:VK)(E:XK):Prop
 | mk (a b c:Addr)(fs gs os:Lt):vs=[.ref a,.ref b,.ref c]->aP (vw K H) a fs->aP (vw K H) b gs->aP (vw K H) c os->fs.length<=6->gs.length<=8->os≠[]->os.length<=7->bC os->Pb 4440 (cf os)->(∀q∈fs,Fq q)->Pb 5600 (cf fs)->(∀q∈gs,Fq q)->Pb 94000 (cf gs)->(∀d H' (rs:Lt),LE K H H'->aP (vw K H') d rs->vw K H d=none->bC rs->rs.length<os.length->Pb 1760000 (cf rs)->(∃V:Rat->Rat,Py V /\ ∀x,EV (cf fs) x*EV (cf gs) x=EV (cf rs) x+V x*EV (cf os) x)->Q (.ref d) H')->gp K vs H Q E
theorem oT(F:Se K "product_rest" gZ f fd)(T:dS K mg)(C_cleared:⟨⟩ "cleared" ["f"] 2 (cj K))(C_wholes_multiplied:⟨⟩ "wholes_multiplied" ["one","other"] 1 (dg K))(C_wholes_parted:⟨⟩ "wholes_parted" ["one","other"] 2 (eo K))(C_divided:⟨⟩ "divided" ["wholes","bottom"] 3 (fV K)):#[] 4 f fd ["f","g","other"] (gp K):=by
 have scN:=jB.nd;refine F.okQ jB ?_ ?_;walk_at "q"
 .obtain⟨_,_,_,_,_,_,rfl,_⟩:=h;rfl
 .obtain⟨a,b,c,fs,gs,os,rfl,ha,hb,hc,lf,lg',o0,lo',po,bo,hf,bf,hg,bg,h⟩:=h;refine⟨_,(ae (cJ (Sd C_cleared (aa (qv 0) ac)) (aY (n:=2) rfl (au (L3 (i:=3)) (au (L3 (i:=4)) aX))))
   (ae (cJ (Sd C_cleared (aa (qv 1) ac)) (aY (n:=2) rfl (au (L3 (i:=5)) (au (L3 (i:=6)) aX))))
   (ae (cJ (eQ GD (Sd C_wholes_parted (aa (Sd C_wholes_multiplied (aa (qv 3) (aa (qv 5) ac))) (aa (aA b9 (Sd C_cleared (aa (qv 2) ac)) af ‹9›) ac))) (fG af) fZ) (aY (n:=2) rfl (au (L3 (i:=7)) (au (L3 (i:=8)) aX))))
   (ag (av (Sd C_divided (aa (qv 7) (aa (aq aO (aq aO (qv 4) (qv 6)) (qv 8)) ac)))))))),?_⟩
  walk_at"m";skip
  walk_at"1"
  simp only[cj];refine⟨a,fs,5600,rfl,ha,(),∅,λq hq=>⟨hf q hq,bf.bq hf q hq⟩,λp1 b1 H1 D1 ms S1 h1 hb1 nb1 hD1 _ lm hm hmm1=>⟨_,rfl,_,h1,rfl,_,_,rfl,_,_,rfl,rfl,hN1 _ _ ?_⟩⟩;walk_at"2"
  simp only[cj];refine⟨b,gs,94000,rfl,hb.same S1,(),∅,λq hq=>⟨hg q hq,bg.bq hg q hq⟩,λp2 b2 H2 D2 ns S2 h2 hb2 nb2 hD2 _ ln hn hmm2=>⟨_,rfl,_,h2,rfl,_,_,rfl,_,_,rfl,rfl,hN2 _ _ ?_⟩⟩;have S02:=S1.trans S2;obtain⟨bD1,bm⟩:=fk bf hf hD1 hmm1 lm λi n q e1 e2=>(hm i n q e1 e2).1;obtain⟨bD2,bn⟩:=fk bg hg hD2 hmm2 ln λi n q e1 e2=>(hn i n q e1 e2).1;have cM:∀k,‹nz ms k›=cf fs k*(D1:Rat):=eK lm λi n q e1 e2=>(hm i n q e1 e2).1;have cN:∀k,‹nz ns k›=cf gs k*(D2:Rat):=eK ln λi n q e1 e2=>(hn i n q e1 e2).1;walk_at"3"
  refine⟨b1,b2,ms,ns,5600,94000,rfl,S2 _ _ hb1,hb2,(),(),∅,∅,bm,bn,λc3 H3 L S3 h3 n3 lL eL zL=>?_⟩;simp only[cj];have S03:=S02.trans S3;refine⟨c,os,4440,rfl,hc.same S03,(),∅,λq hq=>⟨po.1 q hq,bo.bq po.1 q hq⟩,λp4 b4 H4 D4 us S4 h4 hb4 nb4 hD4 bD4 lu hu hmm=>?_⟩;have cl4:=fk bo po.1 hD4 hmm lu λi n q e1 e2=>(hu i n q e1 e2).1;have cU:∀k,‹nz us k›=cf os k*(D4:Rat):=eK lu λi n q e1 e2=>(hu i n q e1 e2).1;refine⟨p4,rfl,_,h4,_,dN,?_⟩;have l0:=List.length_pos_iff.mpr o0;have nU:=wU po o0 lu hD4 (eK lu λi n q e1 e2=>(hu i n q e1 e2).1);obtain⟨ys,hys⟩:∃ys,ys=lz L (pz (nz ms) (nz ns) ms.length):=⟨_,rfl⟩;rw[<-hys] at h3;have lys:ys.length=L:=by rw[hys,bZ]
  have bys:∀x∈ys,Bt 100000 x:=λx hx=>by
   obtain⟨k,hk⟩:=XQ hx;have bz:=Bj (gU bm) (gU bn) ms.length k;have ey:nz ys k=pz (nz ms) (nz ns) ms.length k:=by rw[hys,qO (by rw[<-lys];exact (List.getElem?_eq_some_iff.mp hk).1)]
   rw[<-ey,cr hk] at bz;exact bz.mono ()
  refine⟨c3,b4,ys,us,100000,4440,rfl,S4 _ _ h3,hb4,(),nU,(),(),∅,∅,bys,cl4.2,λp5 qa ra S qs rs H5 S5 h5 hqa hra nra lq lr hSe bS bq br lrz ev=>?_⟩;simp only[G6];have e5:i8 [V.ref qa,V.ref ra,V.int S] (some 1) none=[V.ref ra,V.int S]:=rfl;refine⟨p5,rfl,_,h5,(λz=>absurd z.1 (show ¬ HT.sIx 3 0 (some 1)=0 by decide)),λp6 H6 hp6 S6 h6=>?_⟩
  rw[e5] at h6;refine⟨p6,rfl,_,h6,rfl,_,_,rfl,_,_,rfl,rfl,hN3 _ _ ?_⟩;have S0:S≠0:=by
   obtain⟨e,_,z⟩:=hSe;rw[z];exact XD nU
  have S05:=S03.trans (S4.trans S5);have bDD:=bD1.mul bD2;symm
  have S06:=S05.trans S6;have nz':D1*D2*S≠0:=Xg (Xg () ()) S0;refine⟨cg bD1 bD2 (),cg bDD bS (),ra,rs,_,rfl,S6 _ _ hra,(),nz',(bDD.mul bS).mono (),λc7 H7 ts S7 l7 n7 p7 c7' e7 _=>h c7 H7 ts (S06.trans S7) l7 (S06.none n7) p7 () ⟨D1*D2*S,nz',(bDD.mul bS).mono ∅,λk=>⟨_,c7' k,gU (λy hy=>(br y hy).mono ∅) k⟩⟩ ?_⟩;have eY:∀k,nz ys k=pz (nz ms) (nz ns) ms.length k:=λk=>by
   by_cases hk:k<L
   .rw[hys,qO hk]
   .rw[bO (),zL k ()]
  have c1:(D1:Rat)≠0:=ao ();have c2:(D2:Rat)≠0:=ao ();have c3':=ao S0;refine⟨λy=>(D4:Rat)/((D1:Rat)*(D2:Rat)*(S:Rat))*ik qs y,(BC ()).sc _,λy=>?_⟩;have r1:=sJ (F:=ys) (Q:=qs) (G:=us) (R:=rs) (S:=S) (T:=1) () () () (λk=>by rw[ev k,Xx]) y
  rw[BZ () eY,ol cM,ol cN,ol cU] at r1;have c1':‹1›=1:=rfl;rw[c1'] at r1;rw[Gj c7',Xi,Xi];show EV (cf fs) y*EV (cf gs) y=1/((D1:Rat)*(D2:Rat)*(S:Rat))*ik rs y+(D4:Rat)/((D1:Rat)*(D2:Rat)*(S:Rat))*ik qs y*EV (cf os) y;generalize EV (cf fs) y=e1 at *
  generalize EV (cf gs) y=e2 at *
  generalize EV (cf os) y=e3 at *
  generalize ik qs y=e4 at *
  generalize ik rs y=e5 at *
  grind
inductive iE (K:Sf)(vs:List V)(H:Hp)(Q:VK)(E:XK):Prop
 | mk (a b:Addr)(us rs:Lt):vs=[.ref a,.ref b]->aP (vw K H) a us->aP (vw K H) b rs->us.length<=6->rs≠[]->rs.length<=7->bC rs->Pb 4400 (cf rs)->(∀q∈us,Fq q)->Pb 5600 (cf us)->us.length<rs.length->(2<=rs.length->uM (cf rs) (DF (cf rs)))->(∀d H' (ws:Lt),LE K H H'->aP (vw K H') d ws->vw K H d=none->bC ws->ws.length<rs.length->Pb 1760000 (cf ws)->(∃V:Rat->Rat,Py V /\ ∀x,EV (cf ws) x*EV (DF (cf rs)) x=EV (cf us) x+V x*EV (cf rs) x)->Q (.ref d) H')->iE K vs H Q E
theorem rA(F:Se K "weights_by" jf f fd)(T:dS K mg)(C_product_rest:⟨⟩ "product_rest" ["f","g","other"] 4 (gp K))(C_inverse:⟨⟩ "inverse" ["f","g"] 4 (lJ K))(C_slope:⟨⟩ "slope" ["f"] 4 (qh K)):#[] 5 f fd ["above","roots"] (iE K):=by
 have scN:=kT.nd;refine F.okQ kT ?_ ?_;walk_at "q"
 .obtain⟨_,_,_,_,rfl,_⟩:=h;rfl
 .obtain⟨a,b,us,rs,rfl,ha,hb,lu,r0,lr,pr',br,hu,bu,lur,ns,h⟩:=h;refine⟨_,(ae (bQ (aD dY (s!"" (aa (qv 1) ac)) af (aC _)) (ag (av (aS ac))) aL)
   (ag (av (Sd C_product_rest (aa (qv 0) (aa (Sd C_inverse (aa (Sd C_slope (aa (qv 1) ac)) (aa (qv 1) ac))) (aa (qv 1) ac))))))),?_⟩
  walk_at"m";skip
  have l0:=List.length_pos_iff.mpr r0;walk_at"1"
  refine⟨_,hb.len,?_⟩;have z1:rs.length=1->us=[]:=λz=>List.length_eq_zero_iff.mp ();refine cK (λe=>⟨∅,λd H1 hd S1 h1=>h d H1 [] S1 ⟨[],h1,.mk_nil⟩ hd ⟨by simp,by simp⟩ (by simpa using l0) (JD ∅) ⟨λ_=>0,.const 0,λx=>?_⟩⟩) (λe=>hN1 _ _ ?_)
  .rw[z1 (),FH];grind
  have l2:2<=rs.length:=();symm
  refine⟨b,rs,rfl,hb,(),λq hq=>⟨pr'.1 q hq,(br.bq pr'.1 q hq).mono ∅⟩,pr',λd1 H1 ss S1 l1 n1 p1 c1 ls=>?_⟩;have bs:Pb 4440 (cf ss):=(Pb.slope br () c1).mono ∅;refine⟨d1,b,ss,rs,rfl,l1,hb.same S1,λz=>by rw[z] at ls;simp at ls;nofun,(),(),p1,pr',bs,br.mono ∅,?_,λd2 H2 is S2 l2' p2 li bi iV=>?_⟩
  .have e:cf ss=DF (cf rs):=funext c1;rw[e];exact ns l2
  have S12:=S1.trans S2;refine⟨a,d2,b,us,is,rs,rfl,ha.same S12,l2',hb.same S12,lu,li,r0,lr,pr',br.mono ∅,hu,bu,p2.1,bi,λd3 H3 ws S3 l3 n3 p3 lw bw pV=>h d3 H3 ws (S12.trans S3) l3 (S12.none n3) p3 lw bw ?_⟩;obtain⟨V,pv,eV⟩:=iV;obtain⟨W,pw,eW⟩:=pV;have es:∀x,EV (DF (cf rs)) x=EV (cf ss) x:=λx=>dH (λk=>by rw[c1 k];rfl) x
  refine⟨λx=>EV (cf us) x*V x-W x*EV (cf ss) x,((zJ (n:=us.length) (λk hk=>aJ hk) ()).mul pv).sub (pw.mul (zJ (n:=ss.length) (λk hk=>aJ hk) ())),λx=>?_⟩;have a1:=eV x;have a2:=eW x;rw[es];show EV (cf ws) x*EV (cf ss) x=EV (cf us) x+(EV (cf us) x*V x-W x*EV (cf ss) x)*EV (cf rs) x;generalize EV (cf us) x=u at *
  generalize EV (cf is) x=i at *
  generalize EV (cf ws) x=w' at *
  generalize EV (cf ss) x=s at *
  generalize EV (cf rs) x=r at *
  grind
def iN(K:Sf):Sp:=λvs H Q _=>∃a b:Int,vs=[.int a,.int b]/\Q (.int (Int.gcd a b)) H
theorem Am(F:Se K "_law_divisor" m7 f fd)(T:dS K mg):#[] 1 f fd ["_law_one","_law_other"] (iN K):=by
 have scN:=sy.nd;refine F.okQ sy ?_ ?_;walk_at "q"
 .obtain⟨a,b,rfl,_⟩:=h;rfl
 .obtain⟨a,b,rfl,h⟩:=h;refine⟨_,(ae (gk PassesOwn.never (aD kU (qv 1) af (aC _)) (ag (uD (i:=0) (j:=1) rfl scN rfl rfl ∅ rfl rfl (aa (qv 1) (aa (aq f9 (qv 0) (qv 1)) ac)) rfl)))
   (ag (av (ai qj (by rfl) T.b_abs yi (aa (qv 0) ac))))),?_⟩
  walk_at"m";symm
  refine⟨λm σ H'=>H'=H /\ ∃x y:Int,σ=[some (.int x),some (.int y)]/\Int.gcd x y=Int.gcd a b/\m=y.natAbs,⟨_,rfl,_,_,rfl,rfl,rfl⟩,?_⟩;rintro m σ H' ⟨rfl,x,y,rfl,hg,rfl⟩;symm
  refine cK (λhy0=>?_) (λhy0=>?_)
  .refine⟨_,λσ' H' h=>h,?_⟩;symm
   exact⟨hy0,_,zG x hy0,by rw[vB,hg],rfl⟩
  .symm
   have e:((Int.gcd a b:Nat):Int)=if x<0 then -x else x:=by
    rw[<-hg,show y=0 by nofun]
    simp;split<;>nofun
   rw[<-e];exact h
def iO(K:Sf):Sp:=λvs H Q _=>∃a b:Int,vs=[.int a,.int b]/\b≠0/\b.natAbs<2^16000000 /\ ∀v H',LE K H H'->aI (vw K H') (fr (lo a b)) v->Q v H'
theorem KO(F:Se K "_law_low" Cg f fd)(T:dS K mg)(N_:qp P base)(zCdivisor:⟨⟩ "_law_divisor" ["_law_one","_law_other"] 1 (iN K)):#[] 2 f fd ["_law_top","_law_bottom"] (iO K):=by
 have scN:=GM.nd;refine F.okQ GM ?_ ?_;walk_at "q"
 .obtain⟨a,b,rfl,_⟩:=h;rfl
 .obtain⟨a,b,rfl,hb,hbb,h⟩:=h;refine⟨_,(ae (L4 (i:=2) (Sd zCdivisor (aa (qv 0) (aa (qv 1) ac))))
   (ae (bQ (aD mD (qv 1) af (aC _)) (ag (L4 (i:=2) (aq cp af (qv 2)))) aL)
   (ag (av (aT (aa (aq (hZ N_ hr rfl rfl rfl) (qv 0) (qv 2)) (aa (aq (hZ N_ hr rfl rfl rfl) (qv 1) (qv 2)) ac))))))),?_⟩
  walk_at"m";symm
  simp only[iN];symm
  have hgn:Int.gcd a b≠0:=λe=>hb (Int.gcd_eq_zero_iff.mp e).2;have e1:lg a b=if b<0 then 0-(Int.gcd a b:Int) else (Int.gcd a b:Int):=by
   unfold lg;split<;>nofun
  have d1:Aw a (0-(Int.gcd a b:Int)):=by unfold Aw;nofun
  have d2:Aw a (Int.gcd a b:Int):=by unfold Aw;nofun
  refine cK (λhn=>?_) (λhn=>?_)
  .rw[Yb hn] at e1;refine⟨d1,d1,∅,λp H2 hp S hp2=>?_⟩;refine h _ H2 S ?_;rw[<-e1] at hp2;simp only[fr,lo,aI,aF];exact⟨p,_,rfl,hp2,_,_,rfl,rfl,_,_,rfl,rfl,rfl⟩
  .rw[Yc hn] at e1;refine⟨d2,d2,∅,λp H2 hp S hp2=>?_⟩;refine h _ H2 S ?_;rw[<-e1] at hp2;simp only[fr,lo,aI,aF];exact⟨p,_,rfl,hp2,_,_,rfl,rfl,_,_,rfl,rfl,rfl⟩
def nX(K:Sf):Sp:=λvs H Q _=>∃(a:Addr)(ns:List Int)(k:Nat),vs=[.ref a,.int k]/\kP K H a (ns.map V.int) /\ ∀x:Int,Q (.int x) H
theorem AD(F:Se K "_law_cell_at" nh f fd)(T:dS K mg):#[] 1 f fd ["_law_script","_law_k"] (nX K):=by
 have scN:=rM.nd;refine F.okQ rM ?_ ?_;walk_at "q"
 .obtain⟨a,ns,k,rfl,_⟩:=h;rfl
 .obtain⟨a,ns,k,rfl,hS,h⟩:=h;refine⟨_,(ae (bQ (aD mD (qv 1) (ai jt (by rfl) T.b_len aG (aa (qv 0) ac)) (aC _)) (ag (av (aA zu (qv 0) (qv 1) ‹9›))) aL)
   (ag (av af))),?_⟩
  walk_at"m";symm
  refine⟨_,.inl hS.sq,cK (λhk=>?_) (λhk=>h 0)⟩;simp only[YF] at hk;have hk':k<ns.length:=();exact⟨_,hS.sq,_,bA (by rw[YC,YU hk'];rfl),h _⟩
def sP(K:Sf):Sp:=λvs H Q _=>∃(a:Addr)(ns:List Int)(k:Nat),vs=[.ref a,.int k]/\kP K H a (ns.map V.int) /\ ∀st H',vw K H st=none->LE K H H'->dz (vw K H') st->Q (.ref st) H'
theorem Fa(F:Se K "_law_state" tM f fd)(T:dS K mg)(zCcell_at:⟨⟩ "_law_cell_at" ["_law_script","_law_k"] 1 (nX K)):#[] 2 f fd ["_law_script","_law_k"] (sP K):=by
 have scN:=yG.nd;refine F.okQ yG ?_ ?_;walk_at "q"
 .obtain⟨a,ns,k,rfl,_⟩:=h;rfl
 .obtain⟨a,ns,k,rfl,hS,h⟩:=h;refine⟨_,(ae (L4 (i:=2) (Sd zCcell_at (aa (qv 0) (aa (qv 1) ac))))
   (ae (bQ (aD GN (qv 2) (aq Bs af af) (aC _)) (ag (av (aS (aa (aq cp (qv 2) (aq Bs af af)) (aa iz ac))))) aL)
   (ag (av (aS (aa (aq f9 (qv 2) af) (aa iz ac))))))),?_⟩
  walk_at"m";symm
  simp only[nX];symm
  refine⟨⟨k,rfl⟩,⟨ns,hS⟩,λx=>⟨yr ∅,cK (λhx=>⟨yr ∅,∅,λp H2 hp S hp2=>h p H2 hp S ⟨_,_,hp2,λz=>by cases z⟩⟩) (λhx=>⟨∅,∅,λp H2 hp S hp2=>h p H2 hp S ⟨_,_,hp2,λ_=>?_⟩⟩)⟩⟩
  exact⟨YV x ∅,YW x ∅⟩
def dJ(K:Sf):Sp:=λvs H Q _=>∃(st:Addr)(m:Int),vs=[.ref st,.int m]/\dz (vw K H) st/\0<m/\m<=2147483587 /\ ∀r H',0<=r->r<m->eJ st (vw K H) (vw K H')->dz (vw K H') st->Q (.int r) H'
theorem JL(F:Se K "_law_take" wP f fd)(T:dS K mg):#[] 1 f fd ["_law_state_here","_law_many"] (dJ K):=by
 have scN:=Ca.nd;refine F.okQ Ca ?_ ?_;walk_at "q"
 .obtain⟨a,ns,rfl,_⟩:=h;rfl
 .obtain⟨st,m,rfl,⟨x,b,hst,hx⟩,hm,hm2,h⟩:=h;refine⟨_,(ae (bQ (fF (aA cH (qv 0) af ‹9›) (λ_=>rfl)) (ae (L4 (i:=2) (aq f9 (aA cH (qv 0) af ‹9›) (qv 1)))
   (ae (cJ (aq qq (aA cH (qv 0) af ‹9›) (qv 1)) (nZ (qv 0) af dI))
   (ag (av (qv 2))))) aL)
   (ae (cJ (aq f9 (aq aW (aq aO (aA cH (qv 0) af ‹9›) af) af) af) (nZ (qv 0) af dI))
   (ae (L4 (i:=3) (aq f9 (aq aW (aq aW (aq aO (aA cH (qv 0) af ‹9›) (aA cH (qv 0) af ‹9›)) (aq aO af (aA cH (qv 0) af ‹9›))) af) af))
   (ae (L4 (i:=3) (aq f9 (aq aW (aq aO (qv 3) (qv 3)) (aq aO af (qv 3))) af))
   (ag (av (aq f9 (aq qq (qv 3) af) (qv 1)))))))),?_⟩
  walk_at"m";have hm0:m≠0:=();cases b with
  | true =>
   walk_at"vc*";refine⟨HD hm0 (by unfold Bt;nofun),λH2 B h2=>h _ _ (YV x hm) (YW x hm) B ⟨_,_,h2,λz=>by cases z⟩⟩
  | false =>
   walk_at"vc*";refine⟨E7 ∅,∅,λH2 B h2=>?_⟩;have b1:Bt 31 ((x*48271+29).fmod 2147483647):=yV ∅ ∅;have b3:0<=(x*48271+29).fmod 2147483647/\(x*48271+29).fmod 2147483647<2147483647:=⟨YV _ ∅,YW _ ∅⟩;generalize (x*48271+29).fmod 2147483647=y at *
   walk_at"vc*";have b2:Bt 31 ((y*y+39373*y+7).fmod 2147483629):=yV ∅ ∅;generalize e2:(y*y+39373*y+7).fmod 2147483629=z at *
   refine⟨gF (b1.mono ∅),gF ∅,∅,gF (b2.mono ∅),gF ∅,∅,HD ∅ ∅,?_⟩;exact h _ _ (YV _ hm) (YW _ hm) B ⟨_,_,h2,λ_=>b3⟩
def eA(K:Sf):Sp:=λvs H Q _=>∃st:Addr,vs=[.ref st]/\dz (vw K H) st /\ ∀v H' q,eJ st (vw K H) (vw K H')->dz (vw K H') st->aI (vw K H') (fr q) v->Fq q->Bt 10 q.1->Bt 10 q.2->Sx 36 q->Q v H'
theorem F8(F:Se K "_law_small" sV f fd)(T:dS K mg)(zClow:⟨⟩ "_law_low" ["_law_top","_law_bottom"] 2 (iO K))
  (zCtake:⟨⟩ "_law_take" ["_law_state_here","_law_many"] 1 (dJ K)):#[] 3 f fd ["_law_state_here"] (eA K):=by
 have scN:=zy.nd;refine F.okQ zy ?_ ?_;walk_at "q"
 .obtain⟨a,rfl,_⟩:=h;rfl
 .obtain⟨st,rfl,hst,h⟩:=h;refine⟨_,(ag (av (Sd zClow (aa (aq cp (Sd zCtake (aa (qv 0) (aa af ac))) af) (aa (aq aW af (aA cH (aS (aa af (aa af (aa (Sd zCtake (aa (qv 0) (aa af ac))) ac)))) (Sd zCtake (aa (qv 0) (aa af ac))) ‹9›)) ac))))),?_⟩
  walk_at"m";symm
  simp only[dJ,iO];symm
  refine⟨hst,∅,∅,λr1 H1 r10 r11 B1 S1=>⟨S1,∅,∅,λr2 H2 r20 r21 B2 S2=>⟨∅,?_⟩⟩⟩;intro p H3 hp S3 h3;refine⟨S2.same S3,∅,∅,λr4 H4 r40 r41 B4 S4=>?_⟩;have h4:=B4 _ _ (S2.ne hp) h3;obtain⟨v,hv,hm⟩:=pE (xs:=[V.int 0,V.int 0,V.int r2]) r40 (by simpa using r41)
  obtain⟨z,rfl,hz0,hz1⟩:∃z,v=.int z/\0<=z/\z<3:=by
   simp only[Y2,Y3,Y4] at hm;rcases hm with rfl|rfl|rfl
   .exact⟨0,rfl,∅,∅⟩
   .exact⟨0,rfl,∅,∅⟩
   .exact⟨r2,rfl,r20,r21⟩
  symm
  refine⟨_,h4,_,hv,?_⟩;symm
  have hz:1+z≠0:=();have hb:(1+z).natAbs<2^10:=();refine⟨hz,Yd hb (YY ∅ ∅),λv H5 S5 r5=>?_⟩;have q2:=fM (a:=r1-6) hz;have q1:=fB (a:=r1-6) hz;have hl:lg (r1-6) (1+z)≠0:=Cf hz;refine h v H5 _ (((B1.trans B2).same_trans S3).trans (B4.same_trans S5)) (S4.same S5) r5 (ix hz) ?_ ?_ (Sx.lo hz0 hz1 ())
  .unfold Bt;have:=YZ (lo (r1-6) (1+z)).1 (lg (r1-6) (1+z));rw[q1] at this;have:=Xa (lo (r1-6) (1+z)).1.natAbs (show 0<(lg (r1-6) (1+z)).natAbs by nofun)
   nofun
  .unfold Bt;have:=YZ (lo (r1-6) (1+z)).2 (lg (r1-6) (1+z));rw[q2] at this;have:=Xa (lo (r1-6) (1+z)).2.natAbs (show 0<(lg (r1-6) (1+z)).natAbs by nofun)
   nofun
inductive mL (K:Sf)(vs:List V)(H:Hp)(Q:VK)(E:XK):Prop
 | mk (st:Addr):vs=[.ref st]->dz (vw K H) st->(∀v H' q,eJ st (vw K H) (vw K H')->dz (vw K H') st->aI (vw K H') (fr q) v->Fq q->0<q.1->Bq 10 q->Sx 36 q->Q v H')->mL K vs H Q E
theorem Gw(F:Se K "_law_above" uC f fd)(T:dS K mg)(zClow:⟨⟩ "_law_low" ["_law_top","_law_bottom"] 2 (iO K))
  (zCtake:⟨⟩ "_law_take" ["_law_state_here","_law_many"] 1 (dJ K)):#[] 3 f fd ["_law_state_here"] (mL K):=by
 have scN:=zW.nd;refine F.okQ zW ?_ ?_;walk_at "q"
 .obtain⟨a,rfl,_⟩:=h;rfl
 .obtain⟨st,rfl,hst,h⟩:=h;refine⟨_,(ag (av (Sd zClow (aa (aq aW af (Sd zCtake (aa (qv 0) (aa af ac)))) (aa (aq aW af (aA cH (aS (aa af (aa af (aa (Sd zCtake (aa (qv 0) (aa af ac))) ac)))) (Sd zCtake (aa (qv 0) (aa af ac))) ‹9›)) ac))))),?_⟩
  walk_at"m";symm
  simp only[dJ,iO];symm
  refine⟨hst,∅,∅,λr1 H1 r10 r11 B1 S1=>⟨S1,∅,∅,λr2 H2 r20 r21 B2 S2=>⟨∅,?_⟩⟩⟩;intro p H3 hp S3 h3;refine⟨S2.same S3,∅,∅,λr4 H4 r40 r41 B4 S4=>?_⟩;have h4:=B4 _ _ (S2.ne hp) h3;obtain⟨v,hv,hm⟩:=pE (xs:=[V.int 0,V.int 0,V.int r2]) r40 (by simpa using r41)
  obtain⟨z,rfl,hz0,hz1⟩:∃z,v=.int z/\0<=z/\z<3:=by
   simp only[Y2,Y3,Y4] at hm;rcases hm with rfl|rfl|rfl
   .exact⟨0,rfl,∅,∅⟩
   .exact⟨0,rfl,∅,∅⟩
   .exact⟨r2,rfl,r20,r21⟩
  symm
  refine⟨_,h4,_,hv,?_⟩;symm
  have hz:1+z≠0:=();have hb:(1+z).natAbs<2^10:=();refine⟨hz,Yd hb (YY ∅ ∅),λv H5 S5 r5=>?_⟩;have q1:=fB (a:=1+r1) hz;have hl:0<lg (1+r1) (1+z):=BD ();refine h v H5 _ (((B1.trans B2).same_trans S3).trans (B4.same_trans S5)) (S4.same S5) r5 (ix hz) ?_ (ox hz (by unfold Bt;nofun) hb) (Sx.lo hz0 hz1 ())
  refine Xm ?_ hl;rw[q1];nofun
def i6(K:Sf):Sp:=λvs H Q _=>∃(a:Addr)(qs:Lt),vs=[.ref a]/\aP (vw K H) a qs /\
 ∀b H' n,n<=qs.length->(∀q,(qs.take n).getLast? = some q->q.1≠0)->(∀q∈qs.drop n,q.1=0)->vw K H b=none->LE K H H'->aP (vw K H') b (qs.take n)->Q (.ref b) H'
theorem FS(F:Se K "_law_clean" tN f fd)(T:dS K mg):#[] 1 f fd ["_law_numbers"] (i6 K):=by
 have scN:=zk.nd;refine F.okQ zk ?_ ?_;walk_at "q"
 .obtain⟨a,_,rfl,_⟩:=h;rfl
 .obtain⟨a,qs,rfl,ha,h⟩:=h;refine⟨_,(ae (L4 (i:=1) (s!"" (aa (qv 0) ac)))
   (ae (gk PassesOwn.never (QW.pt (lC (aD jz (qv 1) af (aC _)) (i0 (aD dY (aA b9 (aA cH (qv 0) (aq cp (qv 1) af) ‹9›) af ‹9›) af (aC _))))) (ag (L4 (i:=1) (aq cp (qv 1) af))))
   (ag (av (fD fj (by rfl) T.b_list fN (aa (eQ fL (qv 0) fZ (fG (qv 1))) ac)))))),?_⟩
  walk_at"m";symm
  refine⟨_,ha.len,λm σ H'=>H'=H/\m<=qs.length/\(∀q∈qs.drop m,q.1=0)/\σ=[some (.ref a),some (.int m)],⟨_,rfl,Yr _,by simp,rfl⟩,?_⟩
  rintro k σ H' ⟨rfl,hk,hdr,rfl⟩;obtain⟨xs,hax,rx⟩:=ha;have hlx:xs.length=qs.length:=by rw[rx.length,YF]
  have fin:(∀q,(qs.take k).getLast? = some q->q.1≠0)->Nw K H' (HO.lst (i8 xs none (some (k:Int)))) λx H1=>∃p,x=V.ref p /\ ∃ys,vw K H1 p=some (HO.lst ys)/\Nw K H1 (HO.lst ys) Q:=λhq p H2 hp S2 h2=>by
   rw[ut ()] at h2;refine⟨p,rfl,_,h2,λp2 H3 hp2 S3 h3=>h p2 H3 k hk hq hdr ?_ (S2.trans S3) ⟨_,h3,?_⟩⟩
   .cases e:vw K H' p2 with
    | none=>rfl
    | some o=>rw[S2 _ _ e] at hp2;cases hp2
   .rw[List.map_take];exact (rx.take k).same (S2.trans S3)
  symm
  refine cK (λh0=>?_) (λh0=>?_)
  .have hk1:k-1<qs.length:=();obtain⟨x,hx,r⟩:=rx.at (i:=k-1) (d:=fr qs[k-1]) (by rw[YC,YU hk1];rfl)
   obtain⟨p,rfl,hp⟩:=r.fr_at;have e1:((k:Int)-1)=((k-1:Nat):Int):=();refine⟨_,hax,_,by rw[e1];exact bA hx,p,rfl,_,hp,_,dN,?_⟩
   symm
   refine cK (λhq=>?_) (λhq=>?_)
   .refine⟨_,λσ' H'' z=>z,k-1,(),rfl,(),λq' hq'=>?_,by rw[e1]⟩
    rw[Xq hk1,show k-1+1=k by nofun] at hq'
    rcases Y2.mp hq' with z|z
    .rw[z];exact hq
    .exact hdr q' z
   .refine⟨_,hax,fin λq hq2=>?_⟩;have:(qs.take k).getLast? = some qs[k-1]:=by
     rw[Y1,Yx,Xo];rw[Yb (),show min k qs.length-1=k-1 by nofun,YU hk1]
    rw[this] at hq2;cases hq2;exact hq
  .refine⟨_,hax,fin λq hq=>?_⟩;rw[show k=0 by nofun] at hq
   cases hq
def dW(K:Sf):Sp:=λvs H Q _=>∃x y p q,vs=[x,y]/\aI (vw K H) (fr p) x/\aI (vw K H) (fr q) y/\p.2≠0/\q.2≠0/\Bq 4000000 p/\Bq 4000000 q/\Bt 16000000 (p.2*q.2) /\ ∀v H',LE K H H'->aI (vw K H') (fr (mh p q)) v->Q v H'
theorem Jz(F:Se K "_law_plus" wS f fd)(T:dS K mg)(zClow:⟨⟩ "_law_low" ["_law_top","_law_bottom"] 2 (iO K)):#[] 3 f fd ["_law_one","_law_other"] (dW K):=by
 have scN:=Bv.nd;refine F.okQ Bv ?_ ?_;walk_at "q"
 .obtain⟨_,_,_,_,rfl,_⟩:=h;rfl
 .obtain⟨x,y,p,q,rfl,hx,hy,np,nq,bp,bq,bb,h⟩:=h;refine⟨_,(ag (av (Sd zClow (aa (aq aW (aq aO (aA b9 (qv 0) af ‹9›) (aA b9 (qv 1) af ‹9›)) (aq aO (aA b9 (qv 1) af ‹9›) (aA b9 (qv 0) af ‹9›))) (aa (aq aO (aA b9 (qv 0) af ‹9›) (aA b9 (qv 1) af ‹9›)) ac))))),?_⟩
  walk_at"m";obtain⟨a,rfl,ha⟩:=hx.fr_at;obtain⟨b,rfl,hb⟩:=hy.fr_at;walk_at"vc*";simp only[iO];walk_at"vc*";exact⟨cg bp.1 bq.2 ∅,cg bq.1 bp.2 ∅,cg bp.2 bq.2 ∅,Xg np nq,h⟩
def dP(K:Sf):Sp:=λvs H Q _=>∃x y p q,vs=[x,y]/\aI (vw K H) (fr p) x/\aI (vw K H) (fr q) y/\p.2≠0/\q.2≠0/\Bq 4000000 p/\Bq 4000000 q/\Bt 16000000 (p.2*q.2) /\ ∀v H',LE K H H'->aI (vw K H') (fr (mS p q)) v->Q v H'
theorem Ft(F:Se K "_law_times" tY f fd)(T:dS K mg)(zClow:⟨⟩ "_law_low" ["_law_top","_law_bottom"] 2 (iO K)):#[] 3 f fd ["_law_one","_law_other"] (dP K):=by
 have scN:=yq.nd;refine F.okQ yq ?_ ?_;walk_at "q"
 .obtain⟨_,_,_,_,rfl,_⟩:=h;rfl
 .obtain⟨x,y,p,q,rfl,hx,hy,np,nq,bp,bq,bb,h⟩:=h;refine⟨_,(ag (av (Sd zClow (aa (aq aO (aA b9 (qv 0) af ‹9›) (aA b9 (qv 1) af ‹9›)) (aa (aq aO (aA b9 (qv 0) af ‹9›) (aA b9 (qv 1) af ‹9›)) ac))))),?_⟩
  walk_at"m";obtain⟨a,rfl,ha⟩:=hx.fr_at;obtain⟨b,rfl,hb⟩:=hy.fr_at;walk_at"vc*";simp only[iO];walk_at"vc*";exact⟨cg bp.1 bq.1 ∅,cg bp.2 bq.2 ∅,Xg np nq,h⟩
inductive pA (K:Sf)(vs:List V)(H:Hp)(Q:VK)(E:XK):Prop
 | mk (x y p q:_):vs=[x,y]->aI (vw K H) (fr p) x->aI (vw K H) (fr q) y->p.2≠0->q.2≠0->Bq 4000000 p->Bq 4000000 q->Bt 16000000 (p.2*q.2)->(∀v H',LE K H H'->aI (vw K H') (fr (qi p q)) v->Q v H')->pA K vs H Q E
theorem FD(F:Se K "_law_minus" uU f fd)(T:dS K mg)(zClow:⟨⟩ "_law_low" ["_law_top","_law_bottom"] 2 (iO K)):#[] 3 f fd ["_law_one","_law_other"] (pA K):=by
 have scN:=yH.nd;refine F.okQ yH ?_ ?_;walk_at "q"
 .obtain⟨_,_,_,_,rfl,_⟩:=h;rfl
 .obtain⟨x,y,p,q,rfl,hx,hy,np,nq,bp,bq,bb,h⟩:=h;refine⟨_,(ag (av (Sd zClow (aa (aq cp (aq aO (aA b9 (qv 0) af ‹9›) (aA b9 (qv 1) af ‹9›)) (aq aO (aA b9 (qv 1) af ‹9›) (aA b9 (qv 0) af ‹9›))) (aa (aq aO (aA b9 (qv 0) af ‹9›) (aA b9 (qv 1) af ‹9›)) ac))))),?_⟩
  walk_at"m";obtain⟨a,rfl,ha⟩:=hx.fr_at;obtain⟨b,rfl,hb⟩:=hy.fr_at;walk_at"vc*";simp only[iO];walk_at"vc*";exact⟨cg bp.1 bq.2 ∅,cg bq.1 bp.2 ∅,cg bp.2 bq.2 ∅,Xg np nq,h⟩
inductive uv (K:Sf)(vs:List V)(H:Hp)(Q:VK)(E:XK):Prop
 | mk (x y p q:_):vs=[x,y]->aI (vw K H) (fr p) x->aI (vw K H) (fr q) y->p.2≠0->q.2≠0->q.1≠0->Bq 1000000 p->Bq 1000000 q->Bt 16000000 (p.2*q.1)->(∀v H',LE K H H'->aI (vw K H') (fr (td p q)) v->Q v H')->uv K vs H Q E
theorem Hv(F:Se K "_law_over" yc f fd)(T:dS K mg)(zClow:⟨⟩ "_law_low" ["_law_top","_law_bottom"] 2 (iO K)):#[] 3 f fd ["_law_one","_law_other"] (uv K):=by
 have scN:=Dl.nd;refine F.okQ Dl ?_ ?_;walk_at "q"
 .obtain⟨_,_,_,_,rfl,_⟩:=h;rfl
 .obtain⟨x,y,p,q,rfl,hx,hy,np,nq,n0,bp,bq,bb,h⟩:=h;refine⟨_,(ag (av (Sd zClow (aa (aq aO (aA b9 (qv 0) af ‹9›) (aA b9 (qv 1) af ‹9›)) (aa (aq aO (aA b9 (qv 0) af ‹9›) (aA b9 (qv 1) af ‹9›)) ac))))),?_⟩
  walk_at"m";obtain⟨a,rfl,ha⟩:=hx.fr_at;obtain⟨b,rfl,hb⟩:=hy.fr_at;walk_at"vc*";simp only[iO];walk_at"vc*";exact⟨cg bp.1 bq.2 ∅,cg bp.2 bq.1 ∅,Xg np n0,h⟩
inductive pB (K:Sf)(vs:List V)(H:Hp)(Q:VK)(E:XK):Prop
 | mk (st:Addr)(m:Nat):vs=[.ref st,.int m]->m<=6->dz (vw K H) st->(∀(a:Addr)(H':Hp)(cs:List mO),eJ st (vw K H) (vw K H')->dz (vw K H') st->gr (vw K H') a (cs.map qZ)->(∀c∈cs,Fq c.1/\Fq c.2/\0<c.2.1)->(∀c∈cs,Bq 100 c.1/\Bq 10 c.2)->(∀c∈cs,Sx 300 c.1/\Sx 36 c.2)->(∀i c d,cs[i]? = some c->cs[i+1]? = some d->La c.1 d.1=true)->cs.length<=m->vw K H a=none->Q (.ref a) H')->pB K vs H Q E
theorem Ep(F:Se K "_law_crowd" uR f fd)(T:dS K mg)(zCsmall:⟨⟩ "_law_small" ["_law_state_here"] 3 (eA K))(zCabove:⟨⟩ "_law_above" ["_law_state_here"] 3 (mL K))
  (zCtake:⟨⟩ "_law_take" ["_law_state_here","_law_many"] 1 (dJ K)) (zCplus:⟨⟩ "_law_plus" ["_law_one","_law_other"] 3 (dW K)):#[] 4 f fd ["_law_state_here","_law_most"] (pB K):=by
 have scN:=yR.nd;refine F.okQ yR ?_ ?_;walk_at "q"
 .obtain⟨a,_,rfl,_⟩:=h;rfl
 .obtain⟨st,m,rfl,hm,hst,h⟩:=h;refine⟨_,(ae (L4 (i:=2) (aS ac))
   (ae (L4 (i:=3) (Sd zCsmall (aa (qv 0) ac)))
   (ae (cL PassesOwn.never rfl (cn rfl T.b_range (aa (Sd zCtake (aa (qv 0) (aa (aq aW (qv 1) af) ac))) ac)) (L3 (i:=4)) (ae (iu (pX XM XR XS fA (qv 2) (aa (aT (aa (qv 3) (aa (Sd zCabove (aa (qv 0) ac)) ac))) ac)))
   (ag (L4 (i:=3) (Sd zCplus (aa (qv 3) (aa (Sd zCabove (aa (qv 0) ac)) ac)))))))
   (ag (av (qv 2)))))),?_⟩
  walk_at"m";walk_at"1"
  refine⟨∅,λa H1 ha S1 h1=>hN1 _ _ ?_⟩;walk_at"2"
  simp only[eA];refine⟨st,rfl,hst.same S1,λv H2 q B2 S2 r2 f2 c1 c2 c5=>hN2 _ _ ?_⟩;walk_at"3"
  simp only[dJ];refine⟨st,_,rfl,S2,(),(),λn H3 n0 n1 B3 S3=>⟨_,rfl,(),(),?_⟩⟩;have nst:st≠a:=((hst.ne ha)).symm;have h3:=B3 _ _ nst.symm (B2 _ _ nst.symm h1);have hr2:aI (vw K H3) (fr q) v:=by
   obtain⟨_,_,z,_⟩:=id S2;exact aI.flat_but z B3 _ _ (ci q) r2
  refine bY (its:=eF 0 n.toNat) (λi σ H'=>∃v y q cs,σ=[some (.ref st),some (.int m),some (.ref a),some v,y]/\eJ st (vw K H) (vw K H')/\dz (vw K H') st/\gr (vw K H') a (cs.map qZ)/\cs.length=i/\aI (vw K H') (fr q) v/\Fq q/\Bq (10+12*i) q/\Sx (36+36*i) q/\(∀c∈cs,Sx 300 c.1/\Sx 36 c.2) /\
   (∀c∈cs,Fq c.1/\Fq c.2/\0<c.2.1)/\(∀c∈cs,Bq 100 c.1/\Bq 10 c.2)/\(∀i c d,cs[i]? = some c->cs[i+1]? = some d->La c.1 d.1=true) /\ ∀c,cs.getLast? = some c->La c.1 q=true) (λ_ _ _ _ _=>aU)
   ⟨v,_,q,[],rfl,((S1.but st).trans B2).trans B3,S3,⟨[],h3,.mk_nil⟩,rfl,hr2,f2,⟨c1,c2⟩,c5,by simp,by simp,by simp,by simp,by simp⟩ ?_ ?_
  .rintro i x σ H4 hi hx ⟨v,y,q,cs,rfl,B4,S4,l4,hl,r4,f4,b4,x4,c6,c1,c2,c3,c4⟩;rw[bU] at hi;refine aK.gen λM1 hM1=>?_;symm
   refine⟨l4.ty,st,rfl,S4,λw5 H5 q5 B5 S5 r5 f5 p5 b5 x5=>⟨∅,λp6 H6 hp6 S6 h6=>?_⟩⟩;have l6:gr (vw K H6) a (cs.map qZ):=(l4.stBut (cX cs) (gT cs) S4 B5).same S6;have r46:aI (vw K H6) (fr q) v:=by
    obtain⟨_,_,z,_⟩:=id S4;exact aI.same S6 _ _ (aI.flat_but z B5 _ _ (ci q) r4)
   have r56:=aI.same S6 _ _ r5;obtain⟨xs,hxs,rxs⟩:=id l6;refine⟨xs,hxs,?_,λH7 B7 h7=>hM1 _ _ ?_⟩
   .rw[rxs.length,YF];exact Yd (show cs.length<7 by nofun) ∅
   have S7:dz (vw K H7) st:=(S5.same S6).but hxs nst B7;have r47:=aI.flat_but hxs B7 _ _ (ci q) r46;have r57:=aI.flat_but hxs B7 _ _ (ci q5) r56;have ne6:p6≠a:=λe=>by
    obtain⟨_,z,_⟩:=l4.stBut (cX cs) (gT cs) S4 B5;rw[<-e,hp6] at z;cases z
   have h67:=B7 _ _ ne6 h6;have l7:gr (vw K H7) a ((cs++[(q,q5)]).map qZ):=by
    refine⟨_,h7,?_⟩;rw[XI];exact (aF.flat_but hxs B7 _ _ (cX cs) rxs).snoc (.mk_spt h67 r47 r57)
   have B07:eJ st (vw K H) (vw K H7):=λb o hb e=>B7 _ _ (aj e ha) (S6 _ _ (B5 _ _ hb (B4 _ _ hb e)));symm
   refine⟨st,rfl,S7,λw8 H8 q8 B8 S8 r8 f8 p8 b8 x8=>?_⟩;obtain⟨_,_,zst,_⟩:=id S7;have r48:=aI.flat_but zst B8 _ _ (ci q) r47;simp only[dW];refine⟨_,_,q,q8,rfl,r48,r8,by have:=f4.1;nofun,by have:=f8.1;nofun,b4.mono (),b8.mono ∅,(b4.2.mul b8.2).mono (),λv9 H9 S9 r9=>?_⟩
   refine⟨(B07.trans B8).same_trans S9,S8.same S9,mh q q8,cs++[(q,q5)],(l7.stBut (cX _) (gT _) S7 B8).same S9,by simp[hl],r9,fY f4 f8,(ja f4 f8 b4 b8).mono (),(x4.add f4.ne f8.ne x8).mono (),?_,?_,?_,?_,?_⟩
   .intro c hc;rcases List.mem_append.mp hc with z|z
    .exact c6 c z
    .cases List.mem_singleton.mp z;exact⟨x4.mono (),x5⟩
   .intro c hc;rcases List.mem_append.mp hc with z|z
    .exact c1 c z
    .cases List.mem_singleton.mp z;exact⟨f4,f5,p5⟩
   .intro c hc;rcases List.mem_append.mp hc with z|z
    .exact c2 c z
    .cases List.mem_singleton.mp z;exact⟨b4.mono (),b5⟩
   .intro j c d e1 e2;by_cases hj:j+1<cs.length
    .rw[YB ()] at e1;rw[YB hj] at e2;exact c3 j c d e1 e2
    .have hj2:j+1=cs.length:=by
      have:=(List.getElem?_eq_some_iff.mp e2).1;simp at this;nofun
     rw[Yz (),hj2,XF] at e2;cases e2;rw[YB ()] at e1;refine c4 c ?_;rw[Y1,<-hj2];exact e1
   .intro c hc;rw[List.getLast?_concat] at hc;cases hc;exact E5 f4 f8 p8
  .rintro σ H4 ⟨v,y,q,cs,rfl,B4,S4,l4,hl,r4,f4,b4,x4,c6,c1,c2,c3,c4⟩;refine hN3 _ _ ?_;symm
   exact h a H4 cs B4 S4 l4 c1 c2 c6 c3 (by rw[hl,bU];nofun) ha
inductive gK (K:Sf)(vs:List V)(H:Hp)(Q:VK)(E:XK):Prop
 | mk (a:Addr)(cs:List mO)(m:Nat):vs=[.ref a,.int m]->gr (vw K H) a (cs.map qZ)->cs.length<=6->m<=13->(∀c∈cs,Fq c.1/\Fq c.2/\Bq 100 c.1/\Bq 10 c.2)->(∀(b:Addr)(H':Hp)(qs:Lt),LE K H H'->aP (vw K H') b qs->vw K H b=none->qs.length=m->(∀(k:Nat)(q:Int×Int),qs[k]? = some q->Fq q/\wv q=kH cs k)->Q (.ref b) H')->gK K vs H Q E
theorem tQ(F:Se K "_law_crowd_sums" jp f fd)(T:dS K mg)(zCplus:⟨⟩ "_law_plus" ["_law_one","_law_other"] 3 (dW K))(zCtimes:⟨⟩ "_law_times" ["_law_one","_law_other"] 3 (dP K)):#[] 4 f fd ["_law_crowd_here","_law_many"] (gK K):=by
 have scN:=mQ.nd;refine F.okQ mQ ?_ ?_;walk_at "q"
 .obtain⟨a,_,_,rfl,_⟩:=h;rfl
 .obtain⟨a,cs,m,rfl,ha,hcl,hm,hc,h⟩:=h;refine⟨_,(ae (L4 (i:=2) (aS ac))
   (ae (L4 (i:=3) (cR (own:=["_law_spot","_law_weight"]) (outs:=[]) (ixs:=[]) rfl (cV (qv 0)) rfl ⟨rfl,rfl,rfl,trivial,rfl,trivial⟩ (λ_ _ _ _=>⟨(show QG _ _ (jw K 2 _) from aY (n:=2) rfl (au (am (i:=0) ‹["_law_spot","_law_weight"]› rfl (·)) (au (am (i:=1) ‹["_law_spot","_law_weight"]› rfl (·)) aX))),cY,(qv 1)⟩)))
   (ae (cL PassesOwn.never rfl (cn rfl T.b_range (aa (qv 1) ac)) (L3 (i:=4)) (ae (L4 (i:=5) (aT (aa af (aa af ac))))
   (ae (cL PassesOwn.never rfl (cV (qv 3)) (L3 (i:=6)) (ag (L4 (i:=5) (Sd zCplus (aa (qv 5) (aa (qv 6) ac))))))
   (ae (iu (pX XM XR XS fA (qv 2) (aa (qv 5) ac)))
   (ag (L4 (i:=3) (cR (own:=["_law_at"]) (outs:=["_law_powers","_law_crowd_here"]) (ixs:=[3,0]) rfl (cn rfl T.b_range (aa (s!"" (aa (qv 0) ac)) ac)) rfl ⟨rfl,rfl,rfl,⟨rfl,⟨rfl,trivial⟩⟩,rfl,⟨⟨rfl,rfl,rfl,_,rfl⟩,⟨⟨rfl,rfl,rfl,_,rfl⟩,trivial⟩⟩⟩ (λ_ _ _ _=>⟨(am (i:=0) ‹["_law_at","_law_powers","_law_crowd_here"]› rfl (·)),cY,(Sd zCtimes (aa (aA (show wN _ (vd K) from cH) (qv 1) (qv 0) ‹9›) (aa (aA (show wN _ (FR K) from b9) (aA (show wN _ (vd K) from cH) (qv 2) (qv 0) ‹9›) af ‹9›) ac)))⟩))))))))
   (ag (av (qv 2)))))),?_⟩
  walk_at"m";skip
  obtain⟨xs,hxs,rxs⟩:=id ha;obtain⟨ps,p1,p2,p3,p4⟩:=qN rxs;have hlx:xs.length=cs.length:=by rw[rxs.length,YF]
  walk_at"1"
  refine⟨∅,λt H1 ht S1 h1=>hN1 _ _ ?_⟩;walk_at"2"
  refine⟨⟨xs,.of (aN (S1 _ _ hxs))⟩,λd H2 hd S2 h2=>?_⟩;have hxs1:=S1 _ _ hxs;refine qY (its:=xs) (ps:=ps) (λi ys H'=>LE K H1 H'/\ys=(ps.take i).map (·.2)) (by rw[hlx,p1]) (λi ys H' _ _ p=>⟨bK (p.1 _ _ hxs1),λj u v e=>?_⟩) h2 ⟨S2,rfl⟩ (λi u v ys H' hi huv h' p=>?_) (λys H3 h3 p=>?_)
  .obtain⟨q,e1,e2⟩:=p2 j u v e;exact⟨q,e1,p.1 _ _ (S1 _ _ e2)⟩
  .obtain⟨S',rfl⟩:=p;symm
   refine .mk2 h' ?_ λH5 B5 h5=>⟨λb o e=>B5 _ _ (aj e hd) (S' _ _ e),?_⟩
   .rw[YF,Yx];have:1000<=sizeLine:=∅;nofun
   .rw[Xj,huv,XI];rfl
  obtain⟨S3,rfl⟩:=p;rw[Xl] at h3;have S03:=S1.trans S3;refine hN2 _ _ ?_;walk_at"3"
  refine⟨(),(),?_⟩;obtain⟨Pv,hPv⟩:∃Pv:Nat->St->Hp->Prop,∀k σ H',Pv k σ H'↔X6 λ(w:Addr)(ws qs:Lt)(y z u:Option V)=>σ=[some (.ref a),some (.int m),some (.ref t),some (.ref w),y,z,u] /\
    LE K H H'/\w≠t/\aP (vw K H') w ws/\ws.length=cs.length/\(∀(i:Nat)(q:Int×Int)(c:mO),ws[i]? = some q->cs[i]? = some c->Fq q/\wv q=wv c.2*aQ (wv c.1) k/\Bq (10+100*k) q) /\
    aP (vw K H') t qs/\qs.length=k /\ ∀(j:Nat)(q:Int×Int),qs[j]? = some q->Fq q/\wv q=kH cs j:=⟨_,λ_ _ _=>XH⟩
  refine bY (its:=eF 0 (Int.toNat m)) Pv (λ_ _ _ _ _=>aU) ((hPv _ _ _).mpr ⟨d,cs.map (·.2),[],_,_,_,rfl,S03,(aj h1 hd).symm,⟨_,h3,p4.same S03⟩,by simp,λi q c e1 e2=>?_,⟨[],S3 _ _ h1,.mk_nil⟩,rfl,by simp⟩) (λk x σ H4 hk hx pv=>?_) (λσ H4 pv=>?_)
  .rw[YC,e2] at e1;cases e1;obtain⟨z1,z2,z3,z4⟩:=hc c (YD e2);refine⟨z2,?_,z4⟩;show wv c.2=wv c.2*1;grind
  .obtain⟨w,ws,qs,y,z,u,rfl,S4,nw,lw4,lw,hws,lt4,lq,hqs⟩:=(hPv _ _ _).mp pv;rw[bU] at hk;have hk13:k<13:=();obtain⟨_,rfl⟩:=cW hx;refine aK.gen λM1 hM1=>?_;symm
   refine⟨∅,λpz Hz hpz Sz hz=>hM1 _ _ ?_⟩;refine aK.gen λM2 hM2=>?_;symm
   have lwz:=lw4.same Sz;obtain⟨wx,hwx,rwx⟩:=id lwz;have lwx:wx.length=cs.length:=by rw[rwx.length,YF,lw]
   refine⟨⟨wx,.of (aN hwx)⟩,?_⟩;obtain⟨Pw,hPw⟩:∃Pw:Nat->St->Hp->Prop,∀j σ H',Pw j σ H'↔X3 λ(v:V)(q:Int×Int)(u:Option V)=>σ=[some (.ref a),some (.int m),some (.ref t),some (.ref w),some (.int (0+k)),some v,u]/\LE K Hz H'/\aI (vw K H') (fr q) v/\Fq q/\wv q=m5 (ws.take j)/\Bq (1+j*(11+100*k)) q:=⟨_,λ_ _ _=>XH⟩;refine bY (its:=wx) Pw (λj σ H' _ p=>?_) ((hPw _ _ _).mpr ⟨_,(0,1),_,rfl,.rfl,bI hz,⟨∅,∅⟩,?_,?_⟩) (λj x σ H5 hj hx5 pw=>?_) (λσ H5 pw=>?_)
   .obtain⟨_,_,_,_,S5,_⟩:=(hPw _ _ _).mp p;exact bK (S5 _ _ hwx)
   .show ‹0›/‹1›=0;have e0:‹0›=0:=rfl;rw[e0];grind
   .rw[Nat.zero_mul];exact⟨∅,∅⟩
   .obtain⟨v,q,u5,rfl,S5,r5,f5,w5,b5⟩:=(hPw _ _ _).mp pw;have jl:j<ws.length:=();have jc:j<cs.length:=();obtain⟨d5,e5,rx5⟩:=rwx.get hx5;rw[YC,YU jl] at e5;cases e5;obtain⟨fw,vw5,bw⟩:=hws j _ _ (YU jl) (YU jc);have hjk:j*(11+100*k)<=5*(11+100*12):=Xt () ();symm
    simp only[dW];symm
    refine⟨q,r5,_,aI.same S5 _ _ rx5,by have:=f5.1;nofun,by have:=fw.1;nofun,b5.mono (),bw.mono (),(b5.2.mul bw.2).mono (),λv6 H6 S6 r6=>(hPw _ _ _).mpr ⟨_,_,_,rfl,S5.trans S6,r6,fY f5 fw,?_,(ja f5 fw b5 bw).mono ?_⟩⟩
    .rw[lP (by have:=f5.1;nofun) (by have:=fw.1;nofun),w5,Xj,YU jl,By]
     show _=m5 (ws.take j)+(wv ws[j]+0);grind
    .rw[Xu];nofun
   .obtain⟨v,q,u5,rfl,S5,r5,f5,w5,b5⟩:=(hPw _ _ _).mp pw;rw[show wx.length=ws.length by nofun,Xl] at w5
    have wq:wv q=kH cs k:=by
     rw[w5];exact u8 lw λi q c e1 e2=>(hws i q c e1 e2).2.1
    have S4z5:=Sz.trans S5;obtain⟨tx,htx,rtx⟩:=lt4.same S4z5;have nat':a≠t:=aj hxs ht;refine hM2 _ _ ?_;refine aK.gen λM3 hM3=>?_;symm
    refine⟨iX htx,tx,htx,?_,λH6 B6 h6=>hM3 _ _ ?_⟩
    .rw[rtx.length,YF,lq];exact Yd hk13 ∅
    have hxs6:=B6 _ _ nat' (S4z5 _ _ (S4 _ _ hxs));have S06:LE K H H6:=λb o e=>B6 _ _ (aj e ht) (S4z5 _ _ (S4 _ _ e));have lw6:=(lw4.same S4z5).but htx nw B6;have lt6:aP (vw K H6) t (qs++[q]):=by
     refine⟨_,h6,?_⟩;rw[XI];exact (aF.flat_but htx B6 _ _ (cE qs) rtx).snoc (aI.flat_but htx B6 _ _ (ci _) r5)
    obtain⟨wx6,hwx6,rwx6⟩:=id lw6;have hln:el (vw K H6) a=some xs.length:=by simp only[el,hxs6]
    symm
    refine⟨_,hln,(),(),λc H7 hc7 S7 h7=>?_⟩;have hct:c≠t:=(aj h6 hc7).symm;rw[show (xs.length:Int).toNat=cs.length by nofun]
    refine bH (its:=eF 0 cs.length) (λi zs H'=>LE K H6 H' /\ ∃vs:Lt,vs.length=i/\aF (vw K H') (vs.map fr) zs /\ ∀(j:Nat)(q:Int×Int)(c:mO),vs[j]? = some q->cs[j]? = some c->Fq q/\wv q=wv c.2*aQ (wv c.1) (k+1)/\Bq (10+100*(k+1)) q)
     (λ_ _ _ _ _ _=>aU) h7 ⟨S7,[],rfl,.mk_nil,by simp⟩ (λi x zs H8 hi hx8 h8 p=>?_) (λzs H8 h8 p=>?_)
    .obtain⟨S8,vs,lv,rv,hv⟩:=p;obtain⟨hi',rfl⟩:=cW hx8;have iw:i<ws.length:=();obtain⟨vi,e1,ri⟩:=rwx6.at (i:=i) (d:=fr ws[i]) (by rw[YC,YU iw];rfl)
     obtain⟨xi,e2,rxi⟩:=rxs.at (i:=i) (d:=qZ cs[i]) (by rw[YC,YU hi'];rfl)
     obtain⟨b,x1,x2,rfl,hb,q1,q2⟩:=(aI.same (S06.trans S8) _ _ rxi).spt_at;obtain⟨fw,vw6,bw⟩:=hws i _ _ (YU iw) (YU hi');obtain⟨z1,z2,z3,z4⟩:=hc cs[i] (YT hi');symm
     simp only[dP];symm
     refine⟨_,S8 _ _ hwx6,vi,by rw[XN];exact bA e1,xs,S8 _ _ hxs6,_,by rw[XN];exact bA e2,b,rfl,_,hb,_,dN,?_⟩
     refine⟨_,aI.same S8 _ _ ri,_,q1,by have:=fw.1;nofun,by have:=z1.1;nofun,bw.mono (),z3.mono ∅,(bw.2.mul z3.2).mono (),λv9 H9 S9 r9=>.mk (S9 _ _ h8) ?_ λH10 B10 h10=>⟨λb o e=>B10 _ _ (aj e hc7) (S9 _ _ (S8 _ _ e)),vs++[mS ws[i] cs[i].1],by simp[lv],?_,λj q c g1 g2=>?_⟩⟩
     .rw[rv.length,YF,lv];have:1000<=sizeLine:=∅;nofun
     .rw[XI];exact (aF.flat_but (S9 _ _ h8) B10 _ _ (cE vs) (rv.same S9)).snoc (aI.flat_but (S9 _ _ h8) B10 _ _ (ci _) r9)
     .by_cases hj:j<vs.length
      .rw[YB hj] at g1;exact hv j q c g1 g2
      .have hj2:j=i:=by
        have:=(List.getElem?_eq_some_iff.mp g1).1;simp at this;nofun
       subst hj2;rw[Yz (),lv,XF] at g1;cases g1;rw[YU hi'] at g2;cases g2;refine⟨gG fw z1,?_,(kr fw z1 bw z3).mono ()⟩;rw[i7 (by have:=fw.1;nofun) (by have:=z1.1;nofun),vw6,gM]
       grind
    .obtain⟨S8,vs,lv,rv,hv⟩:=p;rw[bU] at lv;refine (hPv _ _ _).mpr ⟨c,vs,qs++[q],_,_,_,rfl,S06.trans S8,hct,⟨zs,h8,rv⟩,lv,hv,lt6.same S8,by simp[lq],λj q' e=>?_⟩
     by_cases hj:j<qs.length
     .rw[YB hj] at e;exact hqs j q' e
     .have hj2:j=k:=by
       have:=(List.getElem?_eq_some_iff.mp e).1;simp at this;nofun
      subst hj2;rw[Yz (),lq,XF] at e;cases e;exact⟨f5,wq⟩
  .obtain⟨w,ws,qs,y,z,u,rfl,S4,nw,lw4,lw,hws,lt4,lq,hqs⟩:=(hPv _ _ _).mp pv;rw[bU] at lq;refine hN3 _ _ ?_;symm
   exact h t H4 qs S4 lt4 ht () hqs
def gn(q:Int×Int):Prop:=Fq q/\Bq 131 q/\q.2∣kx 12
theorem Sx.dvd6{q:Int×Int}(hq:Fq q)(h:Sx b q):q.2∣6:=by
 obtain⟨n,e,_⟩:=h;exact j8 hq ∅ e
theorem sI(h:k<=12):kx k∣kx 12:=⟨Lz (12-k),by rw[<-zN,show k+(12-k)=12 by nofun]⟩
theorem Sx.dvd{q:Int×Int}(hq:Fq q)(h:Sx b q):q.2∣kx 12:=Int.dvd_trans (Sx.dvd6 hq h) (sI (k:=0) ∅)
theorem yB{q:Int×Int}(h:∀c∈cs,Sx 300 c.1/\Sx 36 c.2)(hk:k<=12)(hq:Fq q)(e:wv q=kH cs k):q.2∣kx 12:=by
 obtain⟨n,e1,_⟩:=pi (k:=k) h;exact Int.dvd_trans (j8 hq (by have:=mx k;nofun) (e.trans e1)) (sI hk)
theorem EY{p q:Int×Int}(hp:Fq p)(hq:Fq q)(h1:p.2∣kx 12)(h2:q.2∣6):(mh p q).2∣kx 12:=by
 obtain⟨s,hs⟩:=h1;obtain⟨t,ht⟩:=Int.dvd_trans h2 (sI (k:=0) ∅);have n0:kx 12≠0:=∅;have c0:‹kx 12›≠0:=ao n0;have c1:=ao hp.ne;have c2:=ao hq.ne;refine j8 (n:=p.1*s+q.1*t) (fY hp hq) n0 ?_;rw[lP hp.ne hq.ne];have e1:‹kx 12›=(p.2:Rat)*(s:Rat):=by rw[hs,Xi]
 have e2:‹kx 12›=(q.2:Rat)*(t:Rat):=by rw[ht,Xi]
 rw[Xh,Xi,Xi];unfold wv;grind
theorem lO(h:∀q∈qs,gn q):Pb 170 (cf qs):=by
 refine⟨kx 12,∅,(sW 12).mono ∅,λk=>?_⟩;cases e:qs[k]? with
 | none =>
  refine⟨0,?_,∅⟩;rw[aJ (List.getElem?_eq_none_iff.mp e)];have:‹0›=0:=rfl;rw[this];grind
 | some q =>
  obtain⟨f,b,t,ht⟩:=h q (YD e);have c1:=ao f.ne;have c0:‹kx 12›≠0:=ao ∅;refine⟨q.1*t,?_,(b.1.mul (n:=39) ?_).mono ∅⟩
  .rw[aH e];have e1:‹kx 12›=(q.2:Rat)*(t:Rat):=by rw[ht,Xi]
   rw[Xi];unfold wv;grind
  .have h6:=sW 12;unfold Bt at h6 ⊢;rw[ht,YZ] at h6;have:=Nat.le_mul_of_pos_left t.natAbs (show 0<q.2.natAbs by have:=f.1;nofun)
   nofun
inductive xJ (K:Sf)(vs:List V)(H:Hp)(Q:VK)(E:XK):Prop
 | mk (st:Addr):vs=[.ref st]->dz (vw K H) st->(∀(a:Addr)(H':Hp)(qs:Lt),eJ st (vw K H) (vw K H')->dz (vw K H') st->aP (vw K H') a qs->1<=qs.length->qs.length<=11->(∀q∈qs,gn q)->vw K H a=none->Q (.ref a) H')->xJ K vs H Q E
theorem Hr(F:Se K "_law_sums" xG f fd)(T:dS K mg)(zCtake:⟨⟩ "_law_take" ["_law_state_here","_law_many"] 1 (dJ K))(zCsmall:⟨⟩ "_law_small" ["_law_state_here"] 3 (eA K))(zCcrowd:⟨⟩ "_law_crowd" ["_law_state_here","_law_most"] 4 (pB K))
  (zCcrowd_sums:⟨⟩ "_law_crowd_sums" ["_law_crowd_here","_law_many"] 4 (gK K)) (zCplus:⟨⟩ "_law_plus" ["_law_one","_law_other"] 3 (dW K)):#[] 5 f fd ["_law_state_here"] (xJ K):=by
 have scN:=Di.nd;refine F.okQ Di ?_ ?_;walk_at "q"
 .obtain⟨a,rfl,_⟩:=h;rfl
 .obtain⟨st,rfl,hst,h⟩:=h;refine⟨_,(ae (L4 (i:=1) (aq aW af (Sd zCtake (aa (qv 0) (aa af ac)))))
   (ae (L4 (i:=2) (Sd zCtake (aa (qv 0) (aa af ac))))
   (ae (bQ (aD dY (qv 2) af (aC _)) (ag (av (cR (own:=["_law_k"]) (outs:=["_law_state_here"]) (ixs:=[0]) rfl (cn rfl T.b_range (aa (qv 1) ac)) rfl ‹7› (λ_ _ _ _=>⟨(am (i:=0) ‹["_law_k","_law_state_here"]› rfl (·)),cY,(Sd zCsmall (aa (qv 1) ac))⟩)))) aL)
   (ae (bQ (aD dY (qv 2) af (aC _)) (ag (av (aq aW (aq aO (aS (aa (aT (aa af (aa af ac))) ac)) (aq cp (qv 1) af)) (aS (aa (Sd zCsmall (aa (qv 0) ac)) ac))))) aL)
   (ae (L4 (i:=3) (Sd zCcrowd_sums (aa (Sd zCcrowd (aa (qv 0) (aa (aA cH (aS (aa af (aa af (aa af (aa af (aa af ac)))))) (Sd zCtake (aa (qv 0) (aa af ac))) ‹9›) ac))) (aa (qv 1) ac))))
   (ae (bQ (aD mD (qv 2) af (aC _)) (ae (L4 (i:=4) (Sd zCtake (aa (qv 0) (aa (qv 1) ac))))
   (ag (cJ (Sd zCplus (aa (aA cH (qv 3) (qv 4) ‹9›) (aa (aA cH (aS (aa (Sd zCsmall (aa (qv 0) ac)) (aa (aT (aa af (aa af ac))) (aa (aT (aa (dD cI af) (aa af ac))) ac)))) (Sd zCtake (aa (qv 0) (aa af ac))) ‹9›) ac))) (nZ (qv 3) (qv 4) dI)))) aL)
   (ag (av (qv 3))))))))),?_⟩
  walk_at"m";walk_at"1"
  simp only[dJ];refine⟨st,11,rfl,hst,∅,∅,λr H1 r0 r1 B1 S1=>?_⟩;rw[ky];refine hN1 _ _ ?_;walk_at"2"
  simp only[dJ];refine⟨st,8,rfl,S1,∅,∅,λy H2 y0 y1 B2 S2=>hN2 _ _ ?_⟩;have B02:=B1.trans B2;walk_at"3"
  refine cK (λe0=>?_) (λe0=>hN3 _ _ ?_)
  .refine⟨(),(),λa H3 ha S3 h3=>?_⟩;have nst:st≠a:=(S2.ne ha).symm;refine bH (its:=eF 0 (1+r).toNat) (λi xs H'=>eJ st (vw K H2) (vw K H')/\dz (vw K H') st /\ ∃qs,qs.length=i/\aF (vw K H') (qs.map fr) xs /\ ∀q∈qs,gn q) (λi xs H' _ _ _=>aU) h3 ⟨S3.but st,S2.same S3,[],rfl,.mk_nil,by simp⟩ (λi x xs H' hi hx h' p=>?_) (λxs H' h' p=>?_)
   .obtain⟨B',S',qs,hl,rq,hq⟩:=p;symm
    simp only[eA];symm
    refine⟨S',λv H3 q B3 S3 r3 f3 b1 b2 x3=>.mk (B3 _ _ nst.symm h') ?_ λH5 B5 h5=>?_⟩
    .rw[rq.length,YF,hl];rw[bU] at hi;have:1000<=sizeLine:=∅;nofun
    .have h3:=B3 _ _ nst.symm h';obtain⟨xx,bb,e,_⟩:=id S';refine⟨?_,S3.but h3 nst B5,qs++[q],by simp[hl],?_,?_⟩
     .intro b o hb e;have hba:=aj e ha;exact B5 _ _ hba (B3 _ _ hb (B' _ _ hb e))
     .rw[XI];exact (aF.flat_but h3 B5 _ _ (cE qs) (aF.flat_but e B3 _ _ (cE qs) rq)).snoc (aI.flat_but h3 B5 _ _ (ci q) r3)
     .intro q' hq';rcases List.mem_append.mp hq' with z|z
      .exact hq q' z
      .cases List.mem_singleton.mp z;exact⟨f3,Bq.mono (m:=10) ⟨b1,b2⟩ ∅,Sx.dvd f3 x3⟩
   .obtain⟨B',S',qs,hl,rq,hq⟩:=p;rw[bU] at hl;exact h a H' qs (B02.trans B') S' ⟨xs,h',rq⟩ () () hq (B02.none S2 ha)
  walk_at"4"
  refine cK (λe1=>?_) (λe1=>hN4 _ _ ?_)
  .simp only[eA];symm
   refine⟨∅,λp2 H3 hp2 S3 h3=>⟨∅,λp3 H4 hp3 S4 h4=>?_⟩⟩;rw[show 1+r-1=((r.toNat:Nat):Int) by nofun]
   show ii K (.ref p3) (.int _) H4 _;rw[fH];refine⟨_,h4,(),(),?_,λe H5 he S5 h5=>?_⟩
   .have:1000<=sizeLine:=∅;simp;nofun
   rw[show ((r.toNat:Nat):Int).toNat=r.toNat by nofun,iK] at h5
   have S25:=S3.trans (S4.trans S5);refine⟨S2.same S25,λv H6 q B6 S6 r6 f6 b1 b2 x6=>⟨∅,λp7 H7 hp7 S7 h7=>?_⟩⟩;have h6:=B6 _ _ ((S2.same (S3.trans S4)).ne he) h5;have h26:=B6 _ _ (S2.ne hp2) ((S4.trans S5) _ _ h3);show gz K (.ref e) (.ref p7) H7 Q;rw[dR];refine⟨_,S7 _ _ h6,_,h7,?_,λp8 H8 hp8 S8 h8=>?_⟩
   .have:1000<=sizeLine:=∅;simp;nofun
   have S68:=S7.trans S8;have B67:eJ st (vw K H) (vw K H7):=((B02.same_trans S25).trans B6).same_trans S7;refine h p8 H8 (List.replicate r.toNat (0,1)++[q]) (B67.same_trans S8) (S6.same S68) ⟨_,h8,?_⟩ (by simp) (by simp;nofun) (λq' hq'=>?_) (B67.none (S6.same S7) hp8)
   .rw[XI,ku];exact aF.snoc (aF.repl (bI (S68 _ _ h26)) _) (aI.same S68 _ _ r6)
   .rcases List.mem_append.mp hq' with z|z
    .rw[(List.mem_replicate.mp z).2];exact⟨oB,D8 ∅,Int.one_dvd _⟩
    .cases List.mem_singleton.mp z;exact⟨f6,Bq.mono (m:=10) ⟨b1,b2⟩ ∅,Sx.dvd f6 x6⟩
  .clear hN4;walk_at"5"
   simp only[dJ];refine⟨∅,λp3 H3 hp3 S3 h3=>⟨st,5,rfl,S2.same S3,∅,∅,λt H4 t0 t1 B4 S4=>?_⟩⟩;have h4:=B4 _ _ (S2.ne hp3) h3;obtain⟨v,hv,hm⟩:=pE (xs:=[V.int 5,V.int 5,V.int 5,V.int 2,V.int 3]) t0 (by simpa using t1)
   obtain⟨z,rfl,hz⟩:∃z:Nat,v=.int z/\z<=5:=by
    simp only[Y2,Y3,Y4] at hm;rcases hm with rfl|rfl|rfl|rfl|rfl
    .exact⟨5,rfl,∅⟩
    .exact⟨5,rfl,∅⟩
    .exact⟨5,rfl,∅⟩
    .exact⟨2,rfl,∅⟩
    .exact⟨3,rfl,∅⟩
   refine⟨_,rfl,_,rfl,_,h4,_,hv,?_⟩;refine⟨st,z,rfl,(),S4,λc H5 cs B5 S5 l5 c1 c2 c3 c4 lc hc=>?_⟩;obtain⟨m,hm'⟩:∃m:Nat,1+r=(m:Int):=⟨(1+r).toNat,()⟩;rw[hm'];refine⟨_,cs,m,rfl,l5,(),(),λc hc=>⟨(c1 c hc).1,(c1 c hc).2.1,(c2 c hc).1,(c2 c hc).2⟩,λb H6 qs S6 l6 hb lqs hqs=>hN5 _ _ ?_⟩;have bqs:∀q∈qs,(Fq q/\Bq 120 q)/\q.2∣kx 12:=λq hq=>by
    obtain⟨k,hk⟩:=XQ hq;have:=(List.getElem?_eq_some_iff.mp hk).1;exact⟨⟨(hqs k q hk).1,BO c3 () () (hqs k q hk).1 (hqs k q hk).2⟩,yB c3 () (hqs k q hk).1 (hqs k q hk).2⟩
   have B05:eJ st (vw K H) (vw K H5):=((B02.same_trans S3).trans B4).trans B5;have B06:=B05.same_trans S6;have nb0:vw K H b=none:=B05.none S5 hb;refine aK.gen λN6 hN6=>?_;have fin:∀(o:Option V)(H':Hp)(qs:Lt),eJ st (vw K H) (vw K H')->dz (vw K H') st->aP (vw K H') b qs->1<=qs.length->qs.length<=11->(∀q∈qs,gn q)->N6 [some (.ref st),some (.int m),some (.int y),some (.ref b),o] H':=by
    intro o H' qs B' S' l' n1 n2 sq;refine hN6 _ _ ?_;symm
    exact h b H' qs B' S' l' n1 n2 sq nb0
   symm
   refine cK (λe2=>?_) (λe2=>?_)
   .simp only[dJ];refine⟨st,m,rfl,S5.same S6,(),(),λt7 H7 t70 t71 B7 S7=>?_⟩;have l7:aP (vw K H7) b qs:=l6.stBut (S5.same S6) B7;have nbs:b≠st:=l7.ne_st S7;obtain⟨xs,hxs,rxs⟩:=id l7;have hlx:xs.length=qs.length:=by rw[rxs.length,YF]
    obtain⟨j,rfl⟩:∃j:Nat,t7=(j:Int):=⟨t7.toNat,()⟩;have hj:j<qs.length:=();obtain⟨vi,e1,ri⟩:=rxs.at (i:=j) (d:=fr qs[j]) (by rw[YC,YU hj];rfl)
    refine⟨_,rfl,xs,hxs,vi,bA e1,?_⟩;simp only[eA,dJ];symm
    refine⟨S7,λv8 H8 q8 B8 S8 r8 f8 b81 b82 x8=>⟨∅,λp9 H9 hp9 T9 h9=>⟨∅,λp10 H10 hp10 T10 h10=>⟨∅,λp11 H11 hp11 T11 h11=>⟨S8.same (T9.trans (T10.trans T11)),∅,∅,λt12 H12 t120 t121 B12 S12=>?_⟩⟩⟩⟩⟩;have T811:=T9.trans (T10.trans T11);have S11:=S8.same T811;obtain⟨_,_,st7,_⟩:=id S7;obtain⟨_,_,st11,_⟩:=id S11;have h12:=B12 _ _ ((S8.same (T9.trans T10)).ne hp11) h11;have hx12:=B12 _ _ nbs (T811 _ _ (B8 _ _ nbs hxs));have rx12:aF (vw K H12) (qs.map fr) xs:=aF.flat_but st11 B12 _ _ (cE qs) ((aF.flat_but st7 B8 _ _ (cE qs) rxs).same T811);obtain⟨vi',e1',ri'⟩:=rx12.at (i:=j) (d:=fr qs[j]) (by rw[YC,YU hj];rfl)
    rw[e1] at e1';cases e1';obtain⟨v12,hv12,hm12⟩:=pE (xs:=[v8,V.ref p9,V.ref p10]) t120 (by simpa using t121)
    obtain⟨q12,r12,f12,b12,x12⟩:∃q12,aI (vw K H12) (fr q12) v12/\Fq q12/\Bq 10 q12/\q12.2∣6:=by
     simp only[Y2,Y3,Y4] at hm12;rcases hm12 with rfl|rfl|rfl
     .exact⟨q8,aI.flat_but st11 B12 _ _ (ci q8) (aI.same T811 _ _ r8),f8,⟨b81,b82⟩,Sx.dvd6 f8 x8⟩
     .exact⟨(1,1),bI (B12 _ _ (S8.ne hp9) ((T10.trans T11) _ _ h9)),⟨∅,∅⟩,⟨∅,∅⟩,Int.one_dvd _⟩
     .exact⟨(-1,1),bI (B12 _ _ ((S8.same T9).ne hp10) (T11 _ _ h10)),⟨∅,∅⟩,⟨∅,∅⟩,Int.one_dvd _⟩
    obtain⟨⟨k1,k2⟩,k3⟩:=bqs _ (YT hj);refine⟨p11,rfl,_,h12,v12,hv12,?_⟩;simp only[dW];symm
    refine⟨_,ri',q12,r12,k1.ne,f12.ne,k2.mono ∅,b12.mono ∅,(k2.2.mul b12.2).mono ∅,λv13 H13 S13 r13=>⟨xs,S13 _ _ hx12,j,iC (),λH14 B14 h14=>?_⟩⟩;have B0d:eJ st (vw K H) (vw K H13):=((((B06.trans B7).trans B8).same_trans T811).trans B12).same_trans S13;refine fin _ H14 _ (λc o hc e=>B14 _ _ (aj e nb0) (B0d _ _ hc e)) ((S12.same S13).but (S13 _ _ hx12) nbs.symm B14) (aP.chg (S13 _ _ hx12) (rx12.same S13) r13 B14 h14) (by rw[YJ];nofun) (by rw[YJ];nofun) (λq hq=>?_)
    rcases XO hq with z|rfl
    .exact⟨(bqs q z).1.1,(bqs q z).1.2.mono ∅,(bqs q z).2⟩
    .exact⟨fY k1 f12,(ja k1 f12 k2 b12).mono ∅,EY k1 f12 k3 x12⟩
   .exact fin _ H6 qs B06 (S5.same S6) l6 () () (λq hq=>⟨(bqs q hq).1.1,(bqs q hq).1.2.mono ∅,(bqs q hq).2⟩)
inductive pN (K:Sf)(vs:List V)(H:Hp)(Q:VK)(E:XK):Prop
 | mk (a b:Addr)(n m k:Nat)(W p:Nat->Int):vs=[.ref a,.ref b,.int k]->IL (vw K H) a n W->IL (vw K H) b m p->k+m<=n->m<=20->(∀i,Bt 2000 (W i))->(∀i,Bt 2000 (p i))->(∀H',LE K H H'->Q (.int (ce (λi=>p i*W (k+i)) m)) H')->pN K vs H Q E
theorem IN(F:Se K "met" Cb f fd)(T:dS K mg):#[] 1 f fd ["wholes","row","k"] (pN K):=by
 have scN:=DG.nd;refine F.okQ DG ?_ ?_;walk_at "q"
 .obtain⟨_,_,_,_,_,_,_,rfl,_⟩:=h;rfl
 .obtain⟨a,b,n,m,k,W,p,rfl,ha,hb,hk,hm,bW,bp,h⟩:=h;refine⟨_,(ag (av (ai (sk rfl) (by rfl) T.b_sum CY (aa (cR (own:=["number","whole"]) (outs:=[]) (ixs:=[]) rfl (xS rfl T.b_zip (aa (qv 1) (aa (eQ fL (qv 0) (fG (qv 2)) fZ) ac))) rfl ⟨rfl,rfl,rfl,trivial,rfl,trivial⟩ (λ_ _ _ _=>⟨(show QG _ _ (jw K 2 _) from aY (n:=2) rfl (au (am (i:=0) ‹["number","whole"]› rfl (·)) (au (am (i:=1) ‹["number","whole"]› rfl (·)) aX))),cY,(aq (show eX _ _ (ii K) from aO) (qv 0) (qv 1))⟩)) ac)))),?_⟩
  walk_at"m";symm
  simp only[Ag];symm
  refine⟨_,ha,λc H1 hc S1 h1=>?_⟩;rw[mT (by rw[bZ];nofun),Gk] at h1
  have hb1:=hb.same S1;refine⟨c,rfl,true,⟨_,hb1⟩,true,⟨_,h1⟩,λd H2 hd S2 h2=>?_⟩;have ez:(lz m λi=>V.int (p i)).zip (lz (n-k) λi=>V.int (W (k+i)))=lz m λi=>(V.int (p i),V.int (W (k+i))):=JE ();refine ot (ps:=(lz m λi=>V.int (p i)).zip (lz (n-k) λi=>V.int (W (k+i)))) (λi zs H'=>LE K H1 H'/\zs=lz i λi=>V.int (p i*W (k+i))) (λi zs H' _ _ q=>⟨_,_,q.1 _ _ hb1,q.1 _ _ h1,qL.symm⟩) h2 ⟨S2,rfl⟩ (λi u v zs H8 H9 hi huv h9 q S89=>?_) (λzs H8 h8 q=>?_)
  .obtain⟨S8,rfl⟩:=q;rw[ez] at hi huv;rw[bZ] at hi;rw[dA hi] at huv;cases huv;symm
   refine⟨cg (bp i) (bW _) ∅,.mk2 h9 ?_ λH10 B10 h10=>⟨λb o e=>B10 _ _ (aj e hd) (S89 _ _ (S8 _ _ e)),mq.symm⟩⟩;rw[bZ];exact Xy (show i<=20 by nofun) ∅
  .obtain⟨S8,rfl⟩:=q;rw[ez,bZ] at h8;refine⟨lz m λi=>p i*W (k+i),by rw[h8,uO],?_⟩
   rw[zU];exact h H8 (S1.trans S8)
def wl:Nat->Nat
 | 0=>0
 | n+1=>n+1
theorem ph{W:Nat->Int}(k i:Nat):ce (λj=>qk W k j*W (i+j)) (k+1)=Lq W k i:=by
 rw[tD];exact fm _ λj _=>Xd _ _
theorem zB{te:TE}{v0 v1 v2 v3 v4 v5 v6 o8 o9:Option V}{e:Addr}{m:Nat}{f p:Nat->Int}{c:Int}{H0 H1:Hp}{D:oZ}(he:IL (vw K H0) e m p)(ht0:vw K H0 t=none)(S01:LE K H0 H1)(ht:IL (vw K H1) t N f)(hm:m<=N)
  (hte:∀i H' (Qk:VK),i<m->Qk (.int (c*p i)) H'->te [v0,v1,v2,v3,v4,v5,v6,some (.ref t),some (.int (i:Nat)),some (.int (p i))] H' Qk)
  (hQ:∀o8 o9 H',LE K H0 H'->IL (vw K H') t N (λj=>f j-if j<m then c*p j else 0)->D.nx [v0,v1,v2,v3,v4,v5,v6,some (.ref t),o8,o9] H') :
  zp (Ii K (D9 K e)) (jw K 2 (jH (gj 8) (jH (gj 9) wk))) (qg (rG 7) (rG 8) te (λo i H Q=>∃p,o=V.ref p /\ ∃k,i=V.int k /\ ∃xs,vw K H p=some (HO.lst xs) /\ ∃v,oY xs k=some v/\Q v H) (Iq λi j=>i-j) (yN K)) D [v0,v1,v2,v3,v4,v5,v6,some (.ref t),o8,o9] H1:=by
 obtain⟨Pv,hPv⟩:∃Pv:Nat->St->Hp->Prop,∀i σ H',Pv i σ H'↔X2 λo8 o9=>σ=[v0,v1,v2,v3,v4,v5,v6,some (.ref t),o8,o9]/\LE K H0 H'/\IL (vw K H') t N (λj=>f j-if j<i then c*p j else 0):=⟨_,λ_ _ _=>XH⟩
 refine jJ (rows:=(lz m λi=>V.int (p i)).mapIdx λi x=>[V.int i,x]) Pv (λi σ H' _ q=>?_) ((hPv _ _ _).mpr ⟨_,_,rfl,S01,?_⟩) (λi r σ H2 q H3 hi hr pv hq S3 h3=>?_) (λσ H2 pv=>?_)
 .obtain⟨_,_,_,S,_⟩:=(hPv _ _ _).mp q;exact⟨_,aN (S _ _ he),rfl⟩
 .unfold IL at ht ⊢;rw[ht];congr 2
  exact iM λj hj=>by dsimp only;rw[Yc (),Int.sub_zero]
 .obtain⟨o8,o9,rfl,S2,l2⟩:=(hPv _ _ _).mp pv;rw[Y6,bZ] at hi;rw[Y5,dA hi] at hr;cases hr;have l3:=l2.same S3;symm
  simp only[qg,Iq];symm
  refine⟨_,h3,rfl,_,_,rfl,_,_,rfl,rfl,_,rfl,_,l3,_,IZ (show i<N by nofun),hte i H3 _ hi ⟨_,rfl,_,rfl,_,rfl,_,l3,i,by rw[bZ];exact iC (),λH4 B4 h4=>(hPv _ _ _).mpr ⟨_,_,rfl,λx o z=>B4 _ _ (aj z ht0) (S3 _ _ (S2 _ _ z)),?_⟩⟩⟩
  unfold IL;rw[h4,DC];congr 2
  refine iM λj hj=>?_;dsimp only;by_cases ej:j=i
  .rw[Yb ej,ej,Yc (),Yb (),Int.sub_zero]
  .rw[Yc ej];by_cases z:j<i
   .rw[Yb z,Yb ()]
   .rw[Yc z,Yc ()]
 .obtain⟨o8,o9,rfl,S2,l2⟩:=(hPv _ _ _).mp pv;rw[Y6,bZ] at l2;exact hQ _ _ _ S2 l2
inductive jZ (K:Sf)(vs:List V)(H:Hp)(Q:VK)(E:XK):Prop
 | mk (a b c:Addr)(n k:Nat)(W:Nat->Int):vs=[.ref a,.ref b,.ref c]->IL (vw K H) a n W->IL (vw K H) b (k+1) (qk W k)->IL (vw K H) c (wl k) (nJ W k)->2*(k+1)<=n->k<=5->(∀i,Bt 170 (W i))->(∀i,i<=k+1->0<Dk W i)->(∀d H',LE K H H'->vw K H d=none->IL (vw K H') d (k+2) (qk W (k+1))->Q (.ref d) H')->jZ K vs H Q E
theorem vO(F:Se K "next_row" lB f fd)(T:dS K mg)(C_met:⟨⟩ "met" ["wholes","row","k"] 1 (pN K)):#[] 2 f fd ["wholes","row","before"] (jZ K):=by
 have scN:=ow.nd;refine F.okQ ow ?_ ?_;walk_at "q"
 .obtain⟨_,_,_,_,_,_,rfl,_⟩:=h;rfl
 .obtain⟨a,b,c,n,k,W,rfl,ha,hb,hc,hn,hk,bW,hD,h⟩:=h;refine⟨_,(ae (L4 (i:=3) (aq cp (s!"" (aa (qv 1) ac)) af))
   (ae (cJ (aT (aa (aA cH (qv 1) (dD cI af) ‹9›) (aa (Sd C_met (aa (qv 0) (aa (qv 1) (aa (qv 3) ac)))) ac))) (aY (n:=2) rfl (au (L3 (i:=4)) (au (L3 (i:=5)) aX))))
   (ae (L4 (i:=6) (aq aO (qv 4) (Sd C_met (aa (qv 0) (aa (qv 1) (aa (aq aW (qv 3) af) ac))))))
   (ae (bQ (aD jz (qv 3) af (aC _)) (ag (kh (i:=6) scN rfl (·) (aq aO (qv 5) (aA cH (qv 1) (dD cI af) ‹9›)) wM)) aL)
   (ae (lS (i:=7) (own:=["number"]) (outs:=["last","height"]) (ixs:=[4,5]) scN rfl (·) rfl (cV (aq aW (aS (aa af ac)) (qv 1))) rfl ⟨rfl,rfl,rfl,⟨rfl,⟨rfl,trivial⟩⟩,rfl,⟨⟨rfl,rfl,rfl,_,rfl⟩,⟨⟨rfl,rfl,rfl,_,rfl⟩,trivial⟩⟩⟩ (λ_ _ _ _=>⟨(am (i:=0) ‹["number","last","height"]› rfl (·)),cY,(aq (show eX _ _ (ii K) from aO) (aq (show eX _ _ (ii K) from aO) (qv 1) (qv 2)) (qv 0))⟩))
   (ae (cL PassesOwn.never rfl (kz rfl T.b_enumerate (aa (qv 1) ac)) (aY (n:=2) rfl (au (L3 (i:=8)) (au (L3 (i:=9)) aX))) (ag (lU (qv 7) (qv 8) iU (aq aO (qv 6) (qv 9)) qF dI)))
   (ae (cL PassesOwn.never rfl (kz rfl T.b_enumerate (aa (qv 2) ac)) (aY (n:=2) rfl (au (L3 (i:=8)) (au (L3 (i:=9)) aX))) (ag (lU (qv 7) (qv 8) iU (aq aO (aq aO (qv 5) (qv 5)) (qv 9)) qF dI)))
   (ag (av (cR (own:=["number"]) (outs:=["last"]) (ixs:=[4]) rfl (cV (qv 7)) rfl ‹7› (λ_ _ _ _=>⟨(am (i:=0) ‹["number","last"]› rfl (·)),cY,(aq qq (qv 0) (aq (show eX _ _ (ii K) from aO) (qv 1) (qv 1)))⟩))))))))))),?_⟩
  walk_at"m";have bq:∀i,Bt 1046 (qk W k i):=λi=>(kS bW ()).mono ∅;have bq':∀i,Bt 2000 (qk W k i):=λi=>(bq i).mono ∅;have bW':∀i,Bt 2000 (W i):=λi=>(bW i).mono ∅;walk_at"1"
  refine⟨_,hb.len,hN1 _ _ ?_⟩;rw[show (((k+1:Nat):Int)-1)=(k:Int) by nofun]
  walk_at"2"
  refine⟨_,hb,_,pJ,a,b,n,k+1,k,W,qk W k,rfl,ha,hb,(),(),bW',bq',λH1 S1=>⟨∅,λt0 H2 ht0 S2 h2=>⟨t0,rfl,_,h2,rfl,_,_,rfl,_,_,rfl,rfl,hN2 _ _ ?_⟩⟩⟩;have S02:=S1.trans S2;rw[ph,fg,fi];have bD:Bt 1046 (Dk W k):=(kO bW ()).mono ∅;have bD1:Bt 1046 (Dk W (k+1)):=(kO bW ()).mono ∅;have bL:Bt 1046 (Lq W k (k+1)):=(yx bW ()).mono ∅;walk_at"3"
  rw[show (k:Int)+1=((k+1:Nat):Int) by nofun]
  refine⟨a,b,n,k+1,k+1,W,qk W k,rfl,ha.same S02,hb.same S02,(),(),bW',bq',λH3 S3=>?_⟩;rw[ph];symm
  refine⟨cg bD bL ∅,hN3 _ _ ?_⟩;have S03:=S02.trans S3;refine aK.gen λN4 hN4=>?_;have bM:Bt 2100 (oO W k):=by
   cases k with
   | zero=>exact (bD.mul bL).mono ∅
   | succ m =>
    have h1:Bt 2092 (Dk W (m+1)*Lq W (m+1) (m+2)):=bD.mul bL;have h2:Bt 2092 (Dk W (m+2)*qk W (m+1) m):=bD1.mul (bq m);exact (h1.add h2).mono ∅
  have go:N4 [some (.ref a),some (.ref b),some (.ref c),some (.int k),some (.int (Dk W k)),some (.int (Dk W (k+1))),some (.int (oO W k)),none,none,none] H3:=by
   refine hN4 _ _ ?_;walk_at"5"
   refine⟨∅,λz0 H4 hz0 S4 h4=>?_⟩;symm
   refine⟨_,h4,_,S4 _ _ (S03 _ _ hb),?_,λz1 H5 hz1 S5 h5=>⟨z1,rfl,⟨_,.of (aN h5)⟩,λt H6 ht S6 h6=>?_⟩⟩
   .rw[bZ];exact Yg (show _<=20 by simp;nofun) ∅
   have e5:[V.int 0]++(lz (k+1) λi=>V.int (qk W k i))=lz (k+2) λi=>V.int (AQ (qk W k) i):=(pK (n:=k+1) (h:=λi=>V.int (AQ (qk W k) i))).symm;rw[e5] at h5;have bs:∀i,Bt 1046 (AQ (qk W k) i):=λi=>by
    cases i with
    | zero=>show Bt 1046 0;decide
    | succ i=>exact bq i
   have bDD:Bt 2092 (Dk W k*Dk W (k+1)):=bD.mul bD1;refine bH (its:=lz (k+2) λi=>V.int (AQ (qk W k) i)) (λi zs H'=>LE K H5 H'/\zs=lz i λi=>V.int (Dk W k*Dk W (k+1)*AQ (qk W k) i)) (λi zs H' _ _ q=>bK (q.1 _ _ h5)) h6 ⟨S6,rfl⟩ (λi x zs H8 hi hx h8 q=>?_) (λzs H8 h8 q=>hN5 _ _ ?_)
   .obtain⟨S8,rfl⟩:=q;rw[bZ] at hi;rw[dA hi] at hx;cases hx;symm
    refine⟨cg bD bD1 ∅,cg bDD (bs i) ∅,.mk h8 ?_ λH10 B10 h10=>⟨λb o e=>B10 _ _ (aj e ht) (S8 _ _ e),mq.symm⟩⟩;rw[bZ];exact Xy (show i<=20 by nofun) ∅
   obtain⟨S8,rfl⟩:=q;rw[bZ] at h8;have S35:=S4.trans S5;have S38:=S35.trans S8;have ht3:=S35.free ht;refine aK.gen λN6 hN6=>?_;symm
   simp only[oy];symm
   refine⟨⟨_,S38 _ _ (S03 _ _ hb)⟩,zB (p:=qk W k) (c:=oO W k) (m:=k+1) (N:=k+2) (f:=λi=>Dk W k*Dk W (k+1)*AQ (qk W k) i) (hb.same S03) ht3 S38 h8 () (λi H' Qk hi z=>?_) (λo8 o9 H9 S9 h9=>hN6 _ _ ?_)⟩
   .symm
    exact⟨cg bM (bq i) ∅,z⟩
   refine aK.gen λN7 hN7=>?_;symm
   simp only[oy];symm
   have bb:∀i,Bt 1046 (nJ W k i):=λi=>by
    cases k with
    | zero=>show Bt 1046 0;decide
    | succ m=>exact (kS bW ()).mono ∅
   refine⟨⟨_,S9 _ _ (S03 _ _ hc)⟩,zB (p:=nJ W k) (c:=Dk W (k+1)*Dk W (k+1)) (m:=wl k) (N:=k+2) (hc.same S03) ht3 S9 h9 (by cases k<;>simp[wl]) (λi H' Qk hi z=>?_) (λo8 o9 Ha Sa ha'=>hN7 _ _ ?_)⟩
   .symm
    exact⟨cg bD1 bD1 ∅,cg (bD1.mul bD1) (bb i) ∅,z⟩
   have hne:∀i,i<=k+1->Dk W i≠0:=λi hi=>by have:=hD i hi;nofun
   have fin:∀j,j<k+2->(Dk W k*Dk W (k+1)*AQ (qk W k) j-if j<k+1 then oO W k*qk W k j else 0)-(if j<wl k then Dk W (k+1)*Dk W (k+1)*nJ W k j else 0)=Dk W k*Dk W k*qk W (k+1) j:=λj hj=>by
    rw[<-Dd hne j];have e1:(if j<k+1 then oO W k*qk W k j else 0)=oO W k*qk W k j:=by
     by_cases z:j<k+1
     .rw[Yb z]
     .rw[Yc z,dQ (),Xr]
    have e2:(if j<wl k then Dk W (k+1)*Dk W (k+1)*nJ W k j else 0)=Dk W (k+1)*Dk W (k+1)*nJ W k j:=by
     by_cases z:j<wl k
     .rw[Yb z]
     .rw[Yc z];cases k with
      | zero=>show _=_*(0:Int);rw[Xr]
      | succ m =>
       show _=_*qk W m j;rw[dQ (by simp only[wl] at z;nofun),Xr]
    rw[e1,e2]
   have h11:IL (vw K Ha) t (k+2) (λj=>Dk W k*Dk W k*qk W (k+1) j):=by
    unfold IL at ha' ⊢;rw[ha'];congr 2
    exact iM λj hj=>Yp V.int (fin j hj)
   symm
   refine⟨⟨_,.of (aN h11)⟩,λd Hb hd Sb hb2=>?_⟩;have hD0:Dk W k≠0:=hne k ();have bk1:∀i,Bt 1046 (qk W (k+1) i):=λi=>(Dw bW ()).mono ∅;refine bH (its:=lz (k+2) λj=>V.int (Dk W k*Dk W k*qk W (k+1) j)) (λi zs H'=>LE K Ha H'/\zs=lz i λi=>V.int (qk W (k+1) i)) (λi zs H' _ _ q=>bK (q.1 _ _ h11)) hb2 ⟨Sb,rfl⟩ (λi x zs Hc hi hx hc' q=>?_) (λzs Hc hc' q=>?_)
   .obtain⟨Sc,rfl⟩:=q;rw[bZ] at hi;rw[dA hi] at hx;cases hx;symm
    have hDD:Dk W k*Dk W k≠0:=Xg hD0 hD0;refine⟨cg bD bD ∅,HD hDD ((bD.mul bD).mono ∅),?_⟩;rw[Xd (Dk W k*Dk W k) (qk W (k+1) i),Int.mul_fdiv_cancel _ hDD];refine .mk hc' ?_ λH10 B10 h10=>⟨λb o e=>B10 _ _ (aj e hd) (Sc _ _ e),mq.symm⟩;rw[bZ];exact Xy (show i<=20 by nofun) ∅
   .obtain⟨Sc,rfl⟩:=q;rw[bZ] at hc';exact h d Hc (S03.trans (Sa.trans Sc)) ((S03.trans Sa).free hd) hc'
  symm
  cases k with
  | zero=>exact fz ∅ go
  | succ m =>
   refine kK () ⟨_,S03 _ _ hb,_,DE,?_⟩;rw[ij];exact⟨cg bD1 (bq m) ∅,_,_,rfl,rfl,go⟩
def qc(G:Hp)(R:Addr)(W:Nat->Int)(n:Nat):Prop:=∃as:List Addr,G R=some (.lst (as.map V.ref))/\as.length=n /\ ∀i x,as[i]? = some x->IL G x (i+1) (qk W i)
theorem qc.same{G G':Hp}{R:Addr}{W:Nat->Int}{n:Nat}(h:qc G R W n)(S:aB G G'):qc G' R W n:=by
 obtain⟨as,h1,h2,h3⟩:=h;exact⟨as,S _ _ h1,h2,λi x e=>(h3 i x e).same S⟩
theorem GQ{R x:Addr}{as:List Addr}{p:Nat->Int}(h:G R=some (.lst (as.map V.ref)))(h0:as≠[])(hx:IL G x n p):x≠R:=λe=>by
 unfold IL at hx;rw[e,h] at hx;cases as with
 | nil=>exact h0 rfl
 | cons a as =>
  cases n with
  | zero=>cases hx
  | succ n =>
   rw[pK] at hx;cases hx
theorem ie{α:Type}{xs:List α}{x:α}(hl:xs.length=n+1)(h:xs[n]? = some x):oY xs (-1)=some x:=fX (by rw[Y1,hl];exact h)
theorem Ki{W:Nat->Int}:qk W 0 0=1:=by rw[fi,Az]
inductive gH (K:Sf)(vs:List V)(H:Hp)(Q:VK)(E:XK):Prop
 | mk (a:Addr)(n:Nat)(W:Nat->Int):vs=[.ref a]->IL (vw K H) a n W->n<=12->(∀i,Bt 170 (W i))->(∀R H' k,LE K H H'->qc (vw K H') R W (k+1)->k<=6->(∀i,i<=k->0<Dk W i/\2*i<=n)->(n<2*(k+1)\/Dk W (k+1)<=0)->Q (.ref R) H')->gH K vs H Q E
theorem uS(F:Se K "step_rows" j7 f fd)(T:dS K mg)(C_met:⟨⟩ "met" ["wholes","row","k"] 1 (pN K))(C_next_row:⟨⟩ "next_row" ["wholes","row","before"] 2 (jZ K)):#[] 3 f fd ["wholes"] (gH K):=by
 have scN:=mG.nd;refine F.okQ mG ?_ ?_;walk_at "q"
 .obtain⟨_,_,_,rfl,_⟩:=h;rfl
 .obtain⟨a,n,W,rfl,ha,hn,bW,h⟩:=h;refine⟨_,(ae (L4 (i:=1) (aS (aa (aS (aa af ac)) ac)))
   (ae (L4 (i:=2) (aS ac))
   (ae (gk PassesOwn.never (QW.pt (lC (aD yz (aq aO af (s!"" (aa (qv 1) ac))) (s!"" (aa (qv 0) ac)) (aC _)) (i0 (aD jz (Sd C_met (aa (qv 0) (aa (aA cH (qv 1) (dD cI af) ‹9›) (aa (aq cp (s!"" (aa (qv 1) ac)) af) ac)))) af (aC _))))) (ae (L4 (i:=3) (Sd C_next_row (aa (qv 0) (aa (aA cH (qv 1) (dD cI af) ‹9›) (aa (qv 2) ac)))))
   (ae (L4 (i:=2) (aA cH (qv 1) (dD cI af) ‹9›))
   (ag (iu (pX XM XR XS fA (qv 1) (aa (qv 3) ac)))))))
   (ag (av (qv 1)))))),?_⟩
  walk_at"m";have bW':∀i,Bt 2000 (W i):=λi=>(bW i).mono ∅;walk_at"1"
  refine⟨∅,λr0 H1 hr0 S1 h1=>⟨∅,λR H2 hR S2 h2=>hN1 _ _ ?_⟩⟩;walk_at"2"
  refine⟨YO _,λbf H3 hbf S3 h3=>hN2 _ _ ?_⟩;refine aK.gen λN3 hN3=>?_;have S03:=S1.trans (S2.trans S3);have hR0:vw K H R=none:=S1.free hR;refine⟨λm σ H'=>∃(bf:Addr)(k:Nat)(o:Option V),m=20-k/\k<=6/\σ=[some (.ref a),some (.ref R),some (.ref bf),o]/\LE K H H'/\qc (vw K H') R W (k+1)/\IL (vw K H') bf (wl k) (nJ W k) /\ ∀i,i<=k->0<Dk W i/\2*i<=n,⟨20,bf,0,none,rfl,∅,rfl,S03,⟨[r0],S3 _ _ h2,rfl,λi x e=>?_⟩,h3,λi hi=>?_⟩,?_⟩
  .cases i with
   | zero =>
    cases e;show vw K H3 r0=some (.lst (lz 1 λi=>V.int (qk W 0 i)));rw[(S2.trans S3) _ _ h1,pK,Ki];rfl
   | succ i=>simp at e
  .have:i=0:=();rw[this,Az];exact⟨∅,()⟩
  rintro m σ H4 ⟨bf,k,o,rfl,hk,rfl,S4,rw4,b4,hD⟩;obtain⟨as,hR4,las,has⟩:=id rw4;have h0:as≠[]:=λz=>by rw[z] at las;cases las
  obtain⟨x,hx⟩:∃x,as[k]? = some x:=⟨as[k],YU ()⟩;have lx:=has k x hx;have hx':oY (as.map V.ref) (-1)=some (.ref x):=ie (n:=k) (by rw[YF,las]) (by rw[YC,hx];rfl)
  have done:n<2*(k+1)\/Dk W (k+1)<=0 -> ∀H5,LE K H4 H5->N3 [some (.ref a),some (.ref R),some (.ref bf),o] H5:=λhd H5 S5=>by
   refine hN3 _ _ ?_;symm
   exact h R H5 k (S4.trans S5) (rw4.same S5) hk hD hd
  have lR:el (vw K H4) R=some (k+1):=by
   simp only[el,hR4];rw[YF,las]
  symm
  refine⟨k+1,lR,gF ∅,n,(ha.same S4).len,cK (λe1=>⟨_,hR4,_,hx',k+1,lR,?_⟩) (λe1=>done (.inl ()) H4 (λ_ _ z=>z))⟩;rw[show (((k+1:Nat):Int)-1)=(k:Int) by nofun]
  have bq':∀i,Bt 2000 (qk W k i):=λi=>(Dw bW ()).mono ∅;refine⟨a,x,n,k+1,k,W,qk W k,rfl,ha.same S4,lx,(),(),bW',bq',λH5 S5=>⟨_,rfl,?_⟩⟩;rw[ph,fg];refine cK (λe2=>⟨_,λσ' H' z=>z,_,S5 _ _ hR4,_,hx',?_⟩) (λe2=>done (.inr ()) H5 S5);have hn2:2*(k+1)<=n:=();have S45:=S4.trans S5;refine⟨a,x,bf,n,k,W,rfl,ha.same S45,lx.same S5,b4.same S5,hn2,(),bW,λi hi=>?_,λd H6 S6 hd l6=>?_⟩
  .by_cases z:i<=k
   .exact (hD i z).1
   .rw[show i=k+1 by nofun]
    exact e2
  have S46:=S5.trans S6;refine⟨_,S46 _ _ hR4,_,hx',iX (S46 _ _ hR4),_,S46 _ _ hR4,?_,λH7 B7 h7=>⟨20-(k+1),(),x,k+1,rfl,(),⟨_,rfl⟩,λy o e=>B7 _ _ (aj e hR0) (S46 _ _ (S4 _ _ e)),⟨as++[d],?_,by rw[YE,las];rfl,λi y e=>?_⟩,?_,λi hi=>?_⟩⟩
  .rw[YF,las];exact Xy (show _<=20 by nofun) ∅
  .rw[h7,XI];rfl
  .have l7:IL (vw K H6) y (i+1) (qk W i):=by
    by_cases z:i<as.length
    .rw[YB z] at e;exact (has i y e).same S46
    .rw[Yz ()] at e;have:i=k+1:=by
      have h1:=(List.getElem?_eq_some_iff.mp e).1;simp at h1;nofun
     rw[this,las,XF] at e;cases e;rw[this];exact l6
   exact B7 _ _ (GQ (S46 _ _ hR4) h0 l7) l7
  .exact B7 _ _ (GQ (S46 _ _ hR4) h0 (lx.same S46)) (lx.same S46)
  .by_cases z:i<=k
   .exact hD i z
   .rw[show i=k+1 by nofun]
    exact⟨e2,()⟩
structure dG (W:Nat->Int)(B:Int)(k:Nat)(c:Lt×(Int×Int)):Prop where
 po:bC c.1
 num:∀j,cf c.1 j=‹qk W k j›/‹Dk W k›
 fq:Fq c.2
 sqv:wv c.2=‹Dk W (k+1)›/‹Dk W k*B›
def fP(G:Hp)(t:Addr)(pss:List (Lt×(Int×Int)))(Pr:Addr->Prop):Prop:=∃xs,G t=some (.lst xs)/\xs.length=pss.length /\ ∀(k:Nat) c,pss[k]? = some c->X3 λ(x l:Addr)(v:V)=>xs[k]? = some (.ref x)/\G x=some (.tup [.ref l,v])/\aP G l c.1/\aI G (fr c.2) v/\Pr l
structure oN (qs:Lt)(W:Nat->Int)(B:Int):Prop where
 pos:0<B
 val:∀i,‹W i›=cf qs i*(B:Rat)
 least:∀E:Int,(∀q∈qs,q.2∣E)->B∣E
 bt:∀i,Bt 170 (W i)
theorem oN.dvd{W:Nat->Int}(h:oN qs W B)(hF:∀q∈qs,Fq q):∀q∈qs,q.2∣B:=λq hq=>by
 obtain⟨i,hi,rfl⟩:=List.getElem_of_mem hq;have e:=h.val i;rw[aH (YU hi)] at e;have c1:(B:Rat)≠0:=ao (by have:=h.pos;nofun)
 exact j8 (n:=W i) (hF _ hq) (by have:=h.pos;nofun) (by rw[e];grind)
theorem oN.uniq{W W':Nat->Int}{B':Int}(h:oN qs W B)(h':oN qs W' B')(hF:∀q∈qs,Fq q):B=B'/\W=W':=by
 have e:B=B':=Int.dvd_antisymm (YX h.pos) (YX h'.pos) (h.least _ (h'.dvd hF)) (h'.least _ (h.dvd hF));refine⟨e,funext λi=>?_⟩;have:=h.val i;rw[e,<-h'.val i] at this;exact Rat.intCast_inj.mp this
theorem fP.same{G G':Hp}{t:Addr}{pss:List (Lt×(Int×Int))}{Pr:Addr->Prop}(h:fP G t pss Pr)(S:aB G G'):fP G' t pss Pr:=by
 obtain⟨xs,h1,h2,h3⟩:=h;refine⟨xs,S _ _ h1,h2,λk c e=>?_⟩;obtain⟨x,l,v,e1,e2,e3,e4,e5⟩:=h3 k c e;exact⟨x,l,v,e1,S _ _ e2,e3.same S,aI.same S _ _ e4,e5⟩
structure lj (W:Nat->Int)(n M:Nat):Prop where
 one:1<=M
 up:∀i,i<M->0<Dk W i
 most:2*M<=n+1
 all:n<=2*M\/Dk W M<=0
theorem lj.uniq{W:Nat->Int}{M M':Nat}(h:lj W n M)(h':lj W n M'):M=M':=by
 rcases Nat.lt_trichotomy M M' with z|z|z
 .have:=h'.up M z;have:=h'.most;rcases h.all with y|y<;>nofun
 .exact z
 .have:=h.up M' z;have:=h.most;rcases h'.all with y|y<;>nofun
inductive jP (K:Sf)(vs:List V)(H:Hp)(Q:VK)(E:XK):Prop
 | mk (a:Addr)(qs:Lt):vs=[.ref a]->aP (vw K H) a qs->1<=qs.length->qs.length<=11->(∀q∈qs,gn q)->(∀(t:Addr) H' W B pss,LE K H H'->vw K H t=none->oN qs W B->lj W qs.length pss.length->fP (vw K H') t pss (λl=>vw K H l=none/\l≠t)->(∀k c,pss[k]? = some c->dG W B k c)->Q (.ref t) H')->jP K vs H Q E
theorem CD(F:Se K "steps" uA f fd)(T:dS K mg)(C_cleared:⟨⟩ "cleared" ["f"] 2 (cj K))(C_step_rows:⟨⟩ "step_rows" ["wholes"] 3 (gH K))(C_divided:⟨⟩ "divided" ["wholes","bottom"] 3 (fV K))(C_ratio:⟨⟩ "ratio" ["top","bottom"] 2 (dr K))(C_met:⟨⟩ "met" ["wholes","row","k"] 1 (pN K)):#[] 4 f fd ["sums"] (jP K):=by
 have scN:=vJ.nd;refine F.okQ vJ ?_ ?_;walk_at "q"
 .obtain⟨_,_,rfl,_⟩:=h;rfl
 .obtain⟨a,qs,rfl,ha,n1,n2,hq,h⟩:=h;refine⟨_,(ae (cJ (Sd C_cleared (aa (qv 0) ac)) (aY (n:=2) rfl (au (L3 (i:=1)) (au (L3 (i:=2)) aX))))
   (ae (L4 (i:=3) (aS ac))
   (ae (cL PassesOwn.never rfl (kz rfl T.b_enumerate (aa (Sd C_step_rows (aa (qv 1) ac)) ac)) (aY (n:=2) rfl (au (L3 (i:=4)) (au (L3 (i:=5)) aX))) (ag (bQ (aD mD (aq aO af (qv 4)) (s!"" (aa (qv 0) ac)) (aC _)) (ag (iu (pX XM XR XS fA (qv 3) (aa (aT (aa (Sd C_divided (aa (qv 5) (aa (aA cH (qv 5) (dD cI af) ‹9›) ac))) (aa (Sd C_ratio (aa (Sd C_met (aa (qv 1) (aa (qv 5) (aa (qv 4) ac)))) (aa (aq aO (aA cH (qv 5) (dD cI af) ‹9›) (qv 2)) ac))) ac))) ac)))) aL)))
   (ag (av (qv 3)))))),?_⟩
  walk_at"m";have hF:∀q∈qs,Fq q:=λq z=>(hq q z).1;walk_at"1"
  simp only[cj];refine⟨a,qs,131,rfl,ha,(),∅,λq z=>⟨(hq q z).1,(hq q z).2.1⟩,λp b H1 B ns S1 h1 hb nb hB _ ln hn hm=>⟨p,rfl,_,h1,rfl,_,_,rfl,_,_,rfl,rfl,hN1 _ _ ?_⟩⟩;have hc2:=fk (lO hq) hF hB hm ln λi n q e1 e2=>(hn i n q e1 e2).1;have clr:oN qs (nz ns) B:=⟨hB,eK ln λi n q e1 e2=>(hn i n q e1 e2).1,hm,gU hc2.2⟩;have lb:IL (vw K H1) b qs.length (nz ns):=by
   unfold IL;rw[hb];congr 2
   exact qD (by rw[YF,ln]) λi hi=>by
    have hi':i<ns.length:=();rw[YC,YU hi',cr (YU hi')];rfl
  walk_at"2"
  refine⟨YO _,λt H2 ht S2 h2=>hN2 _ _ ?_⟩;walk_at"3"
  simp only[oy];symm
  refine⟨b,qs.length,nz ns,rfl,lb.same S2,(),clr.bt,λR H3 k S3 rw3 hk hD hend=>?_⟩;symm
  obtain⟨as,hR,las,has⟩:=id rw3;obtain⟨W,hW⟩:∃W,W=nz ns:=⟨_,rfl⟩;rw[<-hW] at clr lb hD hend has;have h23:=S3 _ _ h2;have S03:=S1.trans (S2.trans S3);have ht0:vw K H t=none:=S1.free ht;have nR:R≠t:=λz=>by
   rw[z,h23] at hR;cases as with
   | nil=>cases las
   | cons x as=>cases hR
  have nx:∀i x,as[i]? = some x->x≠t:=λi x e z=>by
   have:=has i x e;unfold IL at this;rw[z,h23,pK] at this;cases this
  have bD:∀i,i<=6->Bt 1046 (Dk W i):=λi hi=>(kO clr.bt hi).mono ∅;have bB:Bt 170 B:=hc2.1;obtain⟨Pv,hPv⟩:∃Pv:Nat->St->Hp->Prop,∀i σ H',Pv i σ H'↔X3 λ(o4 o5:Option V)(pss:List (Lt×(Int×Int)))=>σ=[some (.ref a),some (.ref b),some (.int B),some (.ref t),o4,o5]/\eJ t (vw K H3) (vw K H')/\fP (vw K H') t pss (λl=>vw K H l=none/\l≠t)/\pss.length=min i ((qs.length+1)/2) /\ ∀k c,pss[k]? = some c->dG W B k c:=⟨_,λ_ _ _=>XH⟩;refine⟨⟨_,hR⟩,jJ (rows:=(as.map V.ref).mapIdx λi x=>[V.int i,x]) Pv (λi σ H' _ q=>?_) ((hPv _ _ _).mpr ⟨_,_,[],rfl,λ_ _ _ z=>z,⟨[],h23,rfl,λk c e=>by simp at e⟩,by simp,λk c e=>by simp at e⟩) (λi r σ H4 q H5 hi hr pv hq S5 h5=>?_) (λσ H4 pv=>?_)⟩
  .obtain⟨_,_,_,_,B',_⟩:=(hPv _ _ _).mp q;exact⟨_,aN (B' _ _ nR hR),rfl⟩
  .obtain⟨o4,o5,pss,rfl,B4,st4,lp,ok4⟩:=(hPv _ _ _).mp pv;rw[Y6,YF,las] at hi;have hia:i<as.length:=();rw[Y5,YC,YU hia] at hr;cases hr;obtain⟨x,hx⟩:∃x,as[i]? = some x:=⟨_,YU hia⟩;have ex:as[i]=x:=by
    rw[YU hia] at hx;exact Yo hx
   have B5:eJ t (vw K H3) (vw K H5):=B4.same_trans S5;have lx:IL (vw K H5) x (i+1) (qk W i):=B5 _ _ (nx i x hx) (has i x hx);have S05:LE K H H5:=λy o e=>B5 _ _ (aj e ht0) (S03 _ _ e);have lb5:IL (vw K H5) b qs.length W:=B5 _ _ (aj lb ht) ((S2.trans S3) _ _ lb);have st5:=st4.same S5;symm
   refine⟨_,h5,rfl,_,_,rfl,_,_,rfl,rfl,?_⟩;rw[ij,ex];refine⟨gF ∅,_,(ha.same S05).len,_,rfl,cK (λe1=>?_) (λe1=>?_)⟩
   .obtain⟨xs,hxs,lxs,hxs'⟩:=id st5;have lpi:pss.length=i:=();have hDi:=hD i ();have dn:Dk W i≠0:=();have dB:Dk W i*B≠0:=Xg dn ();have eN:lz (i+1) (λj=>V.int (qk W i j))=(lz (i+1) λj=>qk W i j).map V.int:=by rw[uO]
    refine⟨iX hxs,x,rfl,_,lx,_,pJ,?_⟩;rw[fi];refine⟨x,lz (i+1) λj=>qk W i j,Dk W i,rfl,by rw[<-eN];exact lx,by rw[bZ];nofun,dn,(bD i ()).mono ∅,λc H6 rs S6 lc nc po cf6 _ _=>?_⟩
    have bq':∀j,Bt 2000 (qk W i j):=λj=>(kS clr.bt ()).mono ∅;refine⟨b,x,qs.length,i+1,i,W,qk W i,rfl,lb5.same S6,lx.same S6,(),(),λj=>(clr.bt j).mono ∅,bq',λH7 S7=>⟨x,rfl,_,(S6.trans S7) _ _ lx,_,pJ,?_⟩⟩;rw[ph,fg,fi,ij];refine⟨cg (bD i ()) bB ∅,Dk W (i+1),Dk W i*B,rfl,dB,((bD i ()).mul bB).mono ∅,λv H8 S8 r8=>⟨∅,λy H9 hy S9 h9=>?_⟩⟩;have S59:=S6.trans (S7.trans (S8.trans S9));refine⟨xs,S59 _ _ hxs,?_,λHa Ba ha2=>?_⟩
    .rw[lxs,lpi];exact Xy (show i<=20 by nofun) ∅
    have nct:c≠t:=λz=>by
     rw[z,hxs] at nc;cases nc
    have hxs9:=S59 _ _ hxs;refine (hPv _ _ _).mpr ⟨_,_,pss++[(rs,lo (Dk W (i+1)) (Dk W i*B))],rfl,(B5.same_trans S59).trans Ba,⟨_,ha2,by rw[YE,YE,lxs];rfl,λm d e=>?_⟩,by rw[YE,lpi];simp;nofun,λm d e=>?_⟩
    .by_cases z:m<pss.length
     .rw[YB z] at e;obtain⟨x',l,v',e1',e2',e3',e4',e5'⟩:=hxs' m d e;have e2s:=S59 _ _ e2';refine⟨x',l,v',by rw[YB ()];exact e1',Ba _ _ (λz=>by rw[z,hxs9] at e2s;cases e2s) e2s,(e3'.same S59).but hxs9 e5'.2 Ba,aI.flat_but hxs9 Ba _ _ (ci _) (aI.same S59 _ _ e4'),e5'⟩
     .rw[Yz ()] at e;have hm0:m-pss.length=0:=by
       have:=(List.getElem?_eq_some_iff.mp e).1;simp at this;nofun
      rw[hm0] at e;cases e;refine⟨y,c,v,by rw[Yz (),lxs,hm0];rfl,Ba _ _ (λz=>by rw[z,hxs9] at h9;cases h9) h9,(lc.same (S7.trans (S8.trans S9))).but hxs9 nct Ba,aI.flat_but hxs9 Ba _ _ (ci _) (aI.same S9 _ _ r8),S05.free nc,nct⟩
    .by_cases z:m<pss.length
     .rw[YB z] at e;exact ok4 m d e
     .rw[Yz ()] at e;have hm0:m-pss.length=0:=by
       have:=(List.getElem?_eq_some_iff.mp e).1;simp at this;nofun
      rw[hm0] at e;cases e;rw[show m=i by nofun]
      refine⟨po,λj=>?_,ix dB,io dB⟩;rw[cf6 j];congr 2
      by_cases z2:j<i+1
      .rw[cr (dA z2)]
      .rw[bO (by rw[bZ];nofun),dQ ()]
   .exact (hPv _ _ _).mpr ⟨_,_,pss,rfl,B5,st5,(),ok4⟩
  .obtain⟨o4,o5,pss,rfl,B4,st4,lp,ok4⟩:=(hPv _ _ _).mp pv;rw[Y6,YF,las] at lp;refine hN3 _ _ ?_;symm
   refine h t H4 W B pss (λy o e=>B4 _ _ (aj e ht0) (S03 _ _ e)) ht0 clr ⟨(),λi hi=>(hD i ()).1,(),?_⟩ st4 ok4;by_cases z:(qs.length+1)/2<=k+1
   .exact .inl ()
   .rcases hend with y|y
    .exact .inl ()
    .right
     rw[show pss.length=k+1 by nofun]
     exact y
inductive ma (K:Sf)(vs:List V)(H:Hp)(Q:VK)(E:XK):Prop
 | mk (a b:Addr)(qs fs:Lt):vs=[.ref a,.ref b]->aP (vw K H) a qs->aP (vw K H) b fs->fs.length<=qs.length->qs.length<=12->fs.length<=12->(∀q∈qs,Fq q/\Bq 131 q)->(∀q∈fs,Fq q/\Bq 290000 q)->(∀v H' r,LE K H H'->aI (vw K H') (fr r) v->Fq r->wv r=ap (cf fs) (cf qs) fs.length->Q v H')->ma K vs H Q E
theorem DQ(F:Se K "worth" tJ f fd)(T:dS K mg)(C_cleared:⟨⟩ "cleared" ["f"] 2 (cj K))(C_ratio:⟨⟩ "ratio" ["top","bottom"] 2 (dr K)):#[] 3 f fd ["sums","f"] (ma K):=by
 have scN:=vL.nd;refine F.okQ vL ?_ ?_;walk_at "q"
 .obtain⟨a,_,_,_,rfl,_⟩:=h;rfl
 .obtain⟨a,b,qs,fs,rfl,ha,hb,lf,lq,lf6,hq,hf,h⟩:=h;refine⟨_,(ae (bQ (aD jz (s!"" (aa (qv 1) ac)) (s!"" (aa (qv 0) ac)) (aC _)) (ag jW) aL)
   (ae (cJ (Sd C_cleared (aa (qv 1) ac)) (aY (n:=2) rfl (au (L3 (i:=2)) (au (L3 (i:=3)) aX))))
   (ae (cJ (Sd C_cleared (aa (eQ fL (qv 0) fZ (fG (s!"" (aa (qv 1) ac)))) ac)) (aY (n:=2) rfl (au (L3 (i:=4)) (au (L3 (i:=5)) aX))))
   (ag (av (Sd C_ratio (aa (ai (sk rfl) (by rfl) T.b_sum CY (aa (cR (own:=["number","whole"]) (outs:=[]) (ixs:=[]) rfl (xS rfl T.b_zip (aa (qv 2) (aa (qv 4) ac))) rfl ⟨rfl,rfl,rfl,trivial,rfl,trivial⟩ (λ_ _ _ _=>⟨(show QG _ _ (jw K 2 _) from aY (n:=2) rfl (au (am (i:=0) ‹["number","whole"]› rfl (·)) (au (am (i:=1) ‹["number","whole"]› rfl (·)) aX))),cY,(aq (show eX _ _ (ii K) from aO) (qv 0) (qv 1))⟩)) ac)) (aa (aq aO (qv 3) (qv 5)) ac)))))))),?_⟩
  walk_at"m";walk_at"1"
  refine⟨_,hb.len,_,ha.len,fz () (hN1 _ _ ?_)⟩;walk_at"2"
  simp only[cj];refine⟨b,fs,290000,rfl,hb,(),∅,hf,λp1 a1 H1 D1 ms S1 h1 ha1 _ hD1 bD1 lm hm _=>⟨_,rfl,_,h1,rfl,_,_,rfl,_,_,rfl,rfl,hN2 _ _ ?_⟩⟩;walk_at"3"
  obtain⟨xs,hxs,rxs⟩:=id (ha.same S1);have hlx:xs.length=qs.length:=by rw[rxs.length,YF]
  refine⟨_,(hb.same S1).len,xs,hxs,λp2 H2 hp2 S2 h2=>?_⟩;rw[ut ()] at h2;have lt:aP (vw K H2) p2 (qs.take fs.length):=⟨_,h2,by rw[List.map_take];exact (rxs.take _).same S2⟩
  simp only[cj];have lt':(qs.take fs.length).length=fs.length:=by rw[Yx];nofun
  refine⟨p2,_,131,rfl,lt,(),∅,λq z=>hq q (Xs z),λp3 a3 H3 D2 ns S3 h3 ha3 _ hD2 bD2 ln hn _=>⟨_,rfl,_,h3,rfl,_,_,rfl,_,_,rfl,rfl,hN3 _ _ ?_⟩⟩;rw[lt'] at bD2 ln hn;have ha13:=(S2.trans S3) _ _ ha1;symm
  simp only[Ag];symm
  refine⟨true,⟨_,ha13⟩,true,⟨_,ha3⟩,λc H4 hc4 S4 h4=>?_⟩;have ez:List.zipWith (· * ·) ms ns=lz fs.length λi=>nz ms i*nz ns i:=by
   refine Y7 λi=>?_;by_cases hi:i<fs.length
   .have h1:i<ms.length:=();have h2:i<ns.length:=();rw[dA hi,List.getElem?_zipWith,YU h1,YU h2,cr (YU h1),cr (YU h2)]
   .rw[Xn (by rw[List.length_zipWith];nofun),Xn (by rw[bZ];nofun)]
  refine ot (ps:=(ms.map V.int).zip (ns.map V.int)) (λi zs H'=>LE K H3 H'/\zs=((List.zipWith (· * ·) ms ns).take i).map V.int) (λi zs H' _ _ p=>⟨_,_,p.1 _ _ ha13,p.1 _ _ ha3,qL.symm⟩) h4 ⟨S4,rfl⟩ (λi u v zs H8 H9 hi huv h9 p S89=>?_) (λzs H8 h8 p=>?_)
  .obtain⟨S8,rfl⟩:=p;rw[List.getElem?_zip_eq_some,YC,YC] at huv;have li:i<ms.length/\i<ns.length:=by
    simp at hi;nofun
   rw[YU li.1,YU li.2] at huv;obtain⟨e1,e2⟩:=huv;cases e1;cases e2;have w1:=(hm i _ _ (YU li.1) (YU (show i<fs.length by nofun))).2
   have w2:=(hn i _ _ (YU li.2) (YU (show i<(qs.take fs.length).length by nofun))).2
   symm
   refine⟨cg w1 w2 (),.mk2 h9 ?_ λH10 B10 h10=>⟨λb o e=>B10 _ _ (aj e hc4) (S89 _ _ (S8 _ _ e)),?_⟩⟩
   .rw[YF,Yx];have:1000<=sizeLine:=∅;nofun
   .rw[Xj,List.getElem?_zipWith,YU li.1,YU li.2,XI];rfl
  .obtain⟨S8,rfl⟩:=p;have lz1:(List.zipWith (· * ·) ms ns).length=fs.length:=by
    rw[List.length_zipWith,lm,ln];nofun
   have lz2:((ms.map V.int).zip (ns.map V.int)).length=fs.length:=by
    rw[List.length_zip,YF,YF,lm,ln];nofun
   rw[lz2,<-lz1,Xl] at h8;have hD:D1*D2≠0:=by have:=Xb hD1 hD2;nofun
   refine⟨_,h8,?_⟩;symm
   simp only[dr];symm
   refine⟨cg bD1 bD2 (),hD,(bD1.mul bD2).mono (),λv H9 S9 r9=>h v H9 _ (S1.trans (S2.trans (S3.trans (S8.trans S9)))) r9 (ix hD) ?_⟩;rw[io hD,ez,BB (F:=cf fs) (G:=cf (qs.take fs.length)) (c:=(D1:Rat)) (d:=(D2:Rat)) (eK lm λi n q e1 e2=>(hm i n q e1 e2).1) (eK () λi n q e1 e2=>(hn i n q e1 e2).1),Xi];have n1:(D1:Rat)≠0:=ao ();have n2:(D2:Rat)≠0:=ao ();rw[aE fs.length (λi _=>rfl) λi hi=>Cs hi];grind
theorem dG.one{W:Nat->Int}(h:dG W B k c)(hD:Dk W k≠0):cf c.1 k=1:=by
 have cD:‹Dk W k›≠0:=ao hD;rw[h.num,fi];grind
theorem dG.out{W:Nat->Int}(h:dG W B k c){j:Nat}(hj:k<j):cf c.1 j=0:=by
 have z:‹0›=0:=rfl;rw[h.num,dQ hj,z];grind
theorem dG.len{W:Nat->Int}(h:dG W B k c)(hD:Dk W k≠0):c.1.length=k+1:=by
 have h1:=nE h.po (m:=k+1) λj hj=>h.out ();have h2:k<c.1.length:=Nat.lt_of_not_le λz=>by
  have e:=h.one hD;rw[aJ z] at e;exact absurd e ∅
 nofun
theorem dG.pb{W:Nat->Int}(h:dG W B k c)(hD:Dk W k≠0)(hk:k<=5)(bW:∀i,Bt 170 (W i)):Pb 1100 (cf c.1) :=
 ⟨Dk W k,hD,(kO bW ()).mono ∅,λj=>⟨qk W k j,h.num j,(kS bW hk).mono ∅⟩⟩
theorem D3(i m:Nat):cf (List.replicate i (0,1)++[(1,1)]) m=if m=i then 1 else 0:=by
 rw[qJ];by_cases h:m<i
 .rw[Yb h,Yc ()]
 .rw[Yc h];by_cases e:m=i
  .rw[Yb e,e,XF];exact K8
  .rw[Yc e,aJ (by simp;nofun)]
theorem Ip(i:Nat):Pb 1100 (cf (List.replicate i (0,1)++[(1,1)])):=by
 refine⟨1,∅,∅,λm=>?_⟩;rw[D3];by_cases e:m=i
 .rw[Yb e];exact⟨1,by have z:‹1›=1:=rfl;rw[z];grind,∅⟩
 .rw[Yc e];exact⟨0,by have z:‹0›=0:=rfl;rw[z];grind,∅⟩
theorem Du(i:Nat):∀q∈List.replicate i ((0:Int),(1:Int))++[(1,1)],Fq q:=λq hq=>by
 rcases List.mem_append.mp hq with z|z
 .rw[(List.mem_replicate.mp z).2];exact oB
 .cases List.mem_singleton.mp z;exact⟨∅,∅⟩
inductive fT (K:Sf)(vs:List V)(H:Hp)(Q:VK)(E:XK):Prop
 | mk (a:Addr)(qs:Lt):vs=[.ref a]->aP (vw K H) a qs->1<=qs.length->qs.length<=12->(∀q∈qs,gn q)->(∀(d:Addr) H' W B rs k,LE K H H'->vw K H d=none->oN qs W B->aP (vw K H') d rs->bC rs->k<=6->(∀i,i<=k->0<Dk W i/\2*i<=qs.length)->(qs.length<2*(k+1)\/Dk W (k+1)<=0)->(∀j,cf rs j=‹qk W k j›/‹Dk W k›)->Q (.ref d) H')->fT K vs H Q E
theorem ou(F:Se K "furthest_step" gw f fd)(T:dS K mg)(C_cleared:⟨⟩ "cleared" ["f"] 2 (cj K))(C_step_rows:⟨⟩ "step_rows" ["wholes"] 3 (gH K))(C_divided:⟨⟩ "divided" ["wholes","bottom"] 3 (fV K)):#[] 4 f fd ["sums"] (fT K):=by
 have scN:=iP.nd;refine F.okQ iP ?_ ?_;walk_at "q"
 .obtain⟨_,_,rfl,_⟩:=h;rfl
 .obtain⟨a,qs,rfl,ha,l1,l11,sq,h⟩:=h;refine⟨_,(ae (L4 (i:=1) (aA cH (Sd C_step_rows (aa (aA b9 (Sd C_cleared (aa (qv 0) ac)) af ‹9›) ac)) (dD cI af) ‹9›))
   (ag (av (Sd C_divided (aa (qv 1) (aa (aA cH (qv 1) (dD cI af) ‹9›) ac)))))),?_⟩
  walk_at"m";skip
  symm
  have hF:∀q∈qs,Fq q:=λq z=>(sq q z).1;simp only[cj];refine⟨a,qs,131,rfl,ha,(),∅,λq z=>⟨(sq q z).1,(sq q z).2.1⟩,λp b H1 B ns S1 h1 hb nb hB _ ln hn hm=>⟨p,rfl,_,h1,_,rfl,?_⟩⟩;have hc2:=fk (lO sq) hF hB hm ln λi n q e1 e2=>(hn i n q e1 e2).1;have clr:oN qs (nz ns) B:=⟨hB,eK ln λi n q e1 e2=>(hn i n q e1 e2).1,hm,gU hc2.2⟩;have lb:IL (vw K H1) b qs.length (nz ns):=by
   unfold IL;rw[hb];congr 2
   exact qD (by rw[YF,ln]) λi hi=>by
    have hi':i<ns.length:=();rw[YC,YU hi',cr (YU hi')];rfl
  refine⟨b,qs.length,nz ns,rfl,lb,l11,clr.bt,λR H3 k S3 rw3 hk hD hend=>?_⟩;obtain⟨as,hR,las,has⟩:=id rw3;obtain⟨W,hW⟩:∃W,W=nz ns:=⟨_,rfl⟩;rw[<-hW] at clr lb hD hend has;obtain⟨x,hx⟩:∃x,as[k]? = some x:=⟨_,YU ()⟩;have lx:=has k x hx;have xl:(as.map V.ref).getLast? = some (.ref x):=by
   rw[Y1,YF,las,YC,show k+1-1=k by nofun,hx]
   rfl
  have hDk:=(hD k (Yr _)).1;have dn:Dk W k≠0:=();have eN:lz (k+1) (λj=>V.int (qk W k j))=(lz (k+1) λj=>qk W k j).map V.int:=by rw[uO]
  refine⟨R,rfl,_,hR,_,fX xl,x,rfl,_,lx,_,pJ,?_⟩;rw[fi];refine⟨x,lz (k+1) λj=>qk W k j,Dk W k,rfl,by rw[<-eN];exact lx,by rw[bZ];nofun,dn,((kO clr.bt ()).mono (by decide:_<=1046)).mono ∅,λc H6 rs S6 lc nc po cf6 _ _=>?_⟩
  have S06:=S1.trans (S3.trans S6);refine h c H6 W B rs k S06 ((S1.trans S3).none nc) clr lc po hk hD hend (λj=>?_);rw[cf6 j];by_cases hj:j<k+1
  .rw[qO hj]
  .rw[bO (by rw[bZ];nofun),dQ ()]
inductive kF (K:Sf)(vs:List V)(H:Hp)(Q:VK)(E:XK):Prop
 | mk (p:Addr)(s:Str)(ys:List V)(b:Bool):vs=[.ref p]->vw K H p=some (.tup (.str s::ys))->(b=false/\(s="tight" \/ s="open")\/b=true/\(s="below" \/ s="nought"))->(∀H',LE K H H'->Q (.bl b) H')->kF K vs H Q E
theorem Ao(F:Se K "is_bar" qP f fd)(T:dS K mg):#[] 1 f fd ["told"] (kF K):=by
 have scN:=rN.nd;refine F.okQ rN ?_ ?_;walk_at "q"
 .obtain⟨_,_,_,_,rfl,_⟩:=h;rfl
 .obtain⟨p,s,ys,b,rfl,hp,hs,h⟩:=h;refine⟨_,(ag (av (du tS (aA b9 (qv 0) af ‹9›) (aT (aa fI (aa fI ac))) (by rfl)))),?_⟩
  walk_at"m";skip
  symm
  refine⟨_,hp,_,dN,∅,λt H2 ht S2 h2=>⟨t,_,rfl,.inr (hU h2),rfl,rfl,?_⟩⟩;have e:(if true=true then !Li (V.str s) [V.str "tight",V.str "open"] else Li (V.str s) [V.str "tight",V.str "open"])=b:=by
   rcases hs with ⟨rfl,rfl|rfl⟩|⟨rfl,rfl|rfl⟩<;>decide +kernel
  rw[e];exact h H2 S2
inductive eU (K:Sf)(vs:List V)(H:Hp)(Q:VK)(E:XK):Prop
 | mk (a b:Addr)(qs rs:Lt):vs=[.ref a,.ref b]->aP (vw K H) a qs->aP (vw K H) b rs->qs.length<=11->(∀q∈qs,gn q)->rs≠[]->rs.length<=7->rs.length<=qs.length+1->bC rs->Pb 4400 (cf rs)->(2<=rs.length->uM (cf rs) (DF (cf rs)))->(∀(p w:Addr) H' (ws:Lt),LE K H H'->vw K H' p=some (.tup [.ref b,.ref w])->aP (vw K H') w ws->vw K H w=none->bC ws->ws.length<rs.length->Pb 1760000 (cf ws)->FG rs qs ws->Q (.ref p) H')->eU K vs H Q E
theorem re(F:Se K "flock_with" jr f fd)(T:dS K mg)(C_trimmed:⟨⟩ "trimmed" ["numbers","zero"] 1 (cZ K))(C_worth:⟨⟩ "worth" ["sums","f"] 3 (ma K))(C_weights_by:⟨⟩ "weights_by" ["above","roots"] 5 (iE K)):#[] 6 f fd ["sums","roots"] (eU K):=by
 have scN:=kQ.nd;refine F.okQ kQ ?_ ?_;walk_at "q"
 .obtain⟨_,_,_,_,rfl,_⟩:=h;rfl
 .obtain⟨a,b,qs,rs,rfl,ha,hb,l11,sq,r0,lr,lrq,po,br,ns,h⟩:=h;obtain⟨z_ZERO,hg_ZERO,hv_ZERO⟩:=T.g_ZERO;refine⟨_,(ae (L4 (i:=2) (Sd C_trimmed (aa (cR (own:=["k"]) (outs:=["sums","roots"]) (ixs:=[0,1]) rfl (cn rfl T.b_range (aa (aq cp (s!"" (aa (qv 1) ac)) af) ac)) rfl ⟨rfl,rfl,rfl,⟨rfl,⟨rfl,trivial⟩⟩,rfl,⟨⟨rfl,rfl,rfl,_,rfl⟩,⟨⟨rfl,rfl,rfl,_,rfl⟩,trivial⟩⟩⟩ (λ_ _ _ _=>⟨(am (i:=0) ‹["k","sums","roots"]› rfl (·)),cY,(Sd C_worth (aa (qv 1) (aa (eQ (show zP _ (Eu K) from fL) (qv 2) (fG (aq (show eX _ _ (gz K) from aW) (qv 0) af)) fZ) ac)))⟩)) (aa (cC (v:=V.ref z_ZERO) rfl hg_ZERO rfl) ac))))
   (ag (av (aT (aa (qv 1) (aa (Sd C_weights_by (aa (qv 2) (aa (qv 1) ac))) ac)))))),?_⟩
  walk_at"m";skip
  have l0:=List.length_pos_iff.mpr r0;obtain⟨D,d0,bD,oD⟩:=id br;obtain⟨E',e0,bE,oE⟩:=lO sq;have DE0:=Xg d0 e0;walk_at"1"
  refine⟨_,hb.len,(),(),λc1 H1 hc1 S1 h1=>?_⟩;rw[show ((rs.length:Int)-1).toNat=rs.length-1 by nofun]
  obtain⟨xs,hxs,rxs⟩:=id hb;have lx:xs.length=rs.length:=by rw[rxs.length,YF]
  refine bH (its:=eF 0 (rs.length-1)) (λi zs H'=>LE K H H' /\ ∃us:Lt,aF (vw K H') (us.map fr) zs/\us.length=i/\(∀q∈us,Fq q) /\ ∀k q,us[k]? = some q->wv q=ap (cf (rs.drop (k+1))) (cf qs) (rs.drop (k+1)).length) (λ_ _ _ _ _ _=>aU) h1 ⟨S1,[],.mk_nil,rfl,by simp,λk q h=>by simp at h⟩ (λi x zs H2 hi hx h2 p=>?_) (λzs H2 h2 p=>?_)
  .obtain⟨S2,us,rz,lu,hu,vu⟩:=p;obtain⟨hi',rfl⟩:=cW hx;rw[XN];symm
   refine⟨xs,S2 _ _ hxs,λp3 H3 hp3 S3 h3=>?_⟩;rw[show ((i:Nat):Int)+1=((i+1:Nat):Int) by nofun,mT ()] at h3
   have S03:=S2.trans S3;have l3:aP (vw K H3) p3 (rs.drop (i+1)):=⟨_,h3,by rw[List.map_drop];exact (rxs.drop _).same S03⟩
   have br':=br.bq po.1;refine⟨a,p3,qs,rs.drop (i+1),rfl,ha.same S03,l3,by rw[YH];nofun,(),by rw[YH];nofun,λq hq=>⟨(sq q hq).1,(sq q hq).2.1⟩,λq hq=>⟨po.1 q (XT hq),(br' q (XT hq)).mono ∅⟩,λv H4 r S4 r4 f4 w4=>.mk ((S3.trans S4) _ _ h2) ?_ λH5 B5 h5=>⟨λb o e=>B5 _ _ (aj e hc1) ((S2.trans (S3.trans S4)) _ _ e),us++[r],?_,by simp[lu],λq hq=>?_,λk q hq=>?_⟩⟩
   .rw[rz.length,YF];have:1000<=sizeLine:=∅;nofun
   .rw[XI];exact (aF.flat_but ((S3.trans S4) _ _ h2) B5 _ _ (cE _) (rz.same (S3.trans S4))).snoc (aI.flat_but ((S3.trans S4) _ _ h2) B5 _ _ (ci _) r4)
   .rcases List.mem_append.mp hq with z|z
    .exact hu q z
    .cases List.mem_singleton.mp z;exact f4
   .rcases Xw k us.length with z|z
    .rw[YB z] at hq;exact vu k q hq
    .have:=(List.getElem?_eq_some_iff.mp hq).1;rw[YE,YM] at this;obtain rfl:k=i:=();rw[Yz (),lu,XF] at hq;cases hq;exact w4
  .obtain⟨S2,us,rz,lu,hu,vu⟩:=p;rw[bU] at lu;simp only[cZ];refine .inl ⟨c1,_,us,rfl,⟨zs,h2,rz⟩,hv_ZERO _,hu,λd3 H3 vs S3 l3 n3 p3 c3 e3 m3=>hN1 _ _ ?_⟩;have S03:=S2.trans S3;symm
   have cu:∀k,k<rs.length-1->cf us k=ap (cf (rs.drop (k+1))) (cf qs) (rs.drop (k+1)).length:=λk hk=>by
    have hk':k<us.length:=();rw[aH (YU hk')];exact vu k _ (YU hk')
   have bu:Pb 5600 (cf us):=by
    refine⟨D*E',DE0,(bD.mul bE).mono ∅,λk=>?_⟩;rcases Xw k (rs.length-1) with z|z
    .have oD':Ob D 4400 (cf (rs.drop (k+1))):=λj=>by
      rw[sS];exact oD (k+1+j)
     obtain⟨n,en,bn⟩:=wR d0 e0 oD' oE (rs.drop (k+1)).length;rw[cu k z];exact⟨n,en,bn.mono (by rw[YH];nofun)⟩
    .refine⟨0,?_,J5⟩;have c0:‹0›=0:=rfl;rw[aJ (),c0];grind
   refine⟨d3,b,vs,rs,rfl,l3,hb.same S03,(),r0,lr,po,br,p3.1,bu.congr c3,(),ns,λd4 H4 ws S4 l4 n4 p4 lw bw fw=>⟨∅,λp5 H5 hp5 S5 h5=>h p5 d4 H5 ws (S03.trans (S4.trans S5)) h5 (l4.same S5) (S03.none n4) p4 lw bw (FG.of r0 lr lw (us:=vs) () (λk hk=>by rw[c3,cu k hk]) fw)⟩⟩
def xD(W:Nat->Int)(k n:Nat):Prop:=∀i,i+(k+1)<=n->Lq W k i=0
theorem wX{W:Nat->Int}{i:Nat}(cl:oN qs W B)(h:dG W B k c)(hD:Dk W k≠0):ap (cf c.1) (cf (qs.drop i)) (k+1)=‹Lq W k i›/‹Dk W k*B›:=by
 have e:cf (qs.drop i)=λj=>cf qs (i+j):=funext λj=>sS;rw[e,ge hD (by have:=cl.pos;nofun) h.num cl.val i,Xi]
theorem dG.bq'{W:Nat->Int}(h:dG W B k c)(hD:Dk W k≠0)(hk:k<=5)(bW:∀i,Bt 170 (W i)):∀q∈c.1,Fq q/\Bq 1100 q:=λq hq=>by
 obtain⟨j,hj⟩:=XQ hq;have e:=h.num j;rw[aH hj] at e;exact⟨h.po.1 q hq,jA (h.po.1 q hq) e hD ((kS bW hk).mono ∅) ((kO bW ()).mono ∅)⟩
inductive iJ (K:Sf)(vs:List V)(H:Hp)(Q:VK)(E:XK):Prop
 | mk (a l:Addr)(qs:Lt)(c:Lt×(Int×Int))(W:Nat->Int)(B:Int)(k:Nat):vs=[.ref a,.ref l]->aP (vw K H) a qs->aP (vw K H) l c.1->qs.length<=11->(∀q∈qs,gn q)->oN qs W B->dG W B k c->0<Dk W k->k<=5->c.1.length=k+1->k+1<=qs.length->(xD W k qs.length -> ∀H',LE K H H'->Q .non H')->(¬ xD W k qs.length -> ∀H' (p:Addr)(v:V),LE K H H'->vw K H' p=some (.tup [.str "nought",.ref l,v])->Q (.ref p) H')->iJ K vs H Q E
theorem rC(F:Se K "nought_bar" jg f fd)(T:dS K mg)(C_worth:⟨⟩ "worth" ["sums","f"] 3 (ma K)):#[] 4 f fd ["sums","step"] (iJ K):=by
 have scN:=kR.nd;refine F.okQ kR ?_ ?_;walk_at "q"
 .obtain⟨_,_,_,_,_,_,_,rfl,_⟩:=h;rfl
 .obtain⟨a,l,qs,c,W,B,k,rfl,ha,hl,l11,sq,cl,so,dk,k5,lc,lkn,h1,h2⟩:=h;obtain⟨z_ZERO,hg_ZERO,hv_ZERO⟩:=T.g_ZERO;obtain⟨z_ONE,hg_ONE,hv_ONE⟩:=T.g_ONE;refine⟨_,(ae (cL PassesOwn.never rfl (cn rfl T.b_range (aa (aq aW (aq cp (s!"" (aa (qv 0) ac)) (s!"" (aa (qv 1) ac))) af) ac)) (L3 (i:=2)) (ag (bQ (aD (sZ hr.u64) (Sd C_worth (aa (eQ fL (qv 0) (fG (qv 2)) fZ) (aa (qv 1) ac))) (cC (v:=V.ref z_ZERO) rfl hg_ZERO rfl) (aC _)) (ag (av (aT (aa fI (aa (qv 1) (aa (aq aW (aq aO (aS (aa (cC (v:=V.ref z_ZERO) rfl hg_ZERO rfl) ac)) (qv 2)) (aS (aa (cC (v:=V.ref z_ONE) rfl hg_ONE rfl) ac))) ac)))))) aL)))
   (ag (av km))),?_⟩
  walk_at"m";skip
  walk_at"1"
  refine⟨_,ha.len,_,hl.len,(),(),?_⟩;rw[show ((qs.length:Int)-(c.1.length:Int)+1).toNat=qs.length-k by nofun]
  obtain⟨Pv,hPv⟩:∃Pv:Nat->St->Hp->Prop,∀i σ H',Pv i σ H' ↔ ∃o,σ=[some (.ref a),some (.ref l),o]/\LE K H H' /\ ∀j,j<i->Lq W k j=0:=⟨_,λ_ _ _=>XH⟩;have dn:Dk W k≠0:=();have dB:Dk W k*B≠0:=Xg dn (by have:=cl.pos;nofun)
  refine bY (its:=eF 0 (qs.length-k)) Pv (λ_ _ _ _ _=>aU) ((hPv _ _ _).mpr ⟨_,rfl,.rfl,λj z=>by nofun⟩) (λi x σ H1 hi hx pv=>?_) (λσ H1 pv=>hN1 _ _ ?_)
  .obtain⟨o,rfl,S1,z1⟩:=(hPv _ _ _).mp pv;obtain⟨hi',rfl⟩:=cW hx;rw[XN];obtain⟨xs,hxs,rxs⟩:=id (ha.same S1);have lx:xs.length=qs.length:=by rw[rxs.length,YF]
   symm
   refine⟨xs,hxs,λp2 H2 hp2 S2 h2'=>?_⟩;rw[mT ()] at h2';have l2:aP (vw K H2) p2 (qs.drop i):=⟨_,h2',by rw[List.map_drop];exact (rxs.drop i).same S2⟩
   have S02:=S1.trans S2;refine⟨p2,l,qs.drop i,c.1,rfl,l2,hl.same S02,by rw[YH];nofun,by rw[YH];nofun,(),λq hq=>⟨(sq q (XT hq)).1,(sq q (XT hq)).2.1⟩,λq hq=>⟨(so.bq' dn k5 cl.bt q hq).1,(so.bq' dn k5 cl.bt q hq).2.mono ∅⟩,λv H3 r S3 r3 fr3 w3=>?_⟩
   rw[lc,wX cl so dn] at w3;refine⟨_,r3,_,bI (hv_ZERO _),fe _,fe _,?_⟩;rw[nV];have zz:r=(0,1)↔Lq W k i=0:=by
    constructor
    .intro z;rw[z,sx] at w3;have nB:=ao dB;have:‹Lq W k i›=‹0›:=by
      have c0:‹0›=0:=rfl;rw[c0];grind
     exact_mod_cast this
    .intro z;refine lA fr3 oB ?_;rw[w3,z,sx];have c0:‹0›=0:=rfl;rw[c0];grind
   refine cK (λhz=>?_) (λhz=>?_)
   .have nz:¬ xD W k qs.length:=λz=>by
     have:=zz.mpr (z i ());rw[this] at hz;exact absurd hz ∅
    refine⟨∅,λp4 H4 hp4 S4 h4=>?_⟩;show ii K (.ref p4) (.int _) H4 _;rw[fH];refine⟨_,h4,(),(),?_,λp5 H5 hp5 S5 h5=>⟨∅,λp6 H6 hp6 S6 h6=>?_⟩⟩
    .have:1000<=sizeLine:=∅;simp;nofun
    show gz K (.ref p5) (.ref p6) H6 _;rw[dR];refine⟨_,S6 _ _ h5,_,h6,?_,λp7 H7 hp7 S7 h7=>⟨∅,λp8 H8 hp8 S8 h8=>h2 nz H8 p8 _ (S02.trans (S3.trans (S4.trans (S5.trans (S6.trans (S7.trans S8)))))) h8⟩⟩;have:1000<=sizeLine:=∅;simp;nofun
   .refine (hPv _ _ _).mpr ⟨_,rfl,S02.trans S3,λj hj=>?_⟩;by_cases e:j=i
    .rw[e];refine zz.mp ?_;by_cases y:r=(0,1)
     .exact y
     .exact absurd (Ya y) hz
    .exact z1 j ()
  .obtain⟨o,rfl,S1,z1⟩:=(hPv _ _ _).mp pv;rw[bU] at z1;symm
   exact h1 (λi hi=>z1 i ()) H1 S1
theorem LM(i:Nat):cf (qs++[(0,1)]) i=cf qs i:=by
 by_cases h:i<qs.length
 .rw[aH (YU (show i<(qs++[(0,1)]).length by simp;nofun)),aH (YU h),List.getElem_append_left h]
 .rw[aJ (show qs.length<=i by nofun)]
  by_cases e:i=qs.length
  .rw[aH (q:=(0,1)) (by rw[e];simp)]
   exact (cS ∅).mpr rfl
  .exact aJ (by simp;nofun)
theorem oN.zero{W:Nat->Int}(h:oN qs W B):oN (qs++[(0,1)]) W B :=
 ⟨h.pos,λi=>by rw[LM];exact h.val i,λE hE=>h.least E λq hq=>hE q (List.mem_append_left _ hq),h.bt⟩
structure IJ (qs:Lt)(W:Nat->Int)(B:Int)(M:Nat)(G:Hp)(p:Addr)(s:Str):Prop where
 kind:(Dk W M<0/\s="below")\/(Dk W M=0 /\ ¬ xD W (M-1) qs.length/\s="nought")\/(Dk W M=0/\xD W (M-1) qs.length/\s="tight")\/(0<Dk W M/\s="open")
 at_:∃(l:Addr)(ys:List V),G p=some (.tup (.str s :: .ref l::ys))/\(s="tight" \/ s="open"->ys=[])/\(s="tight" -> ∃rs,aP G l rs/\bC rs /\ ∀j,cf rs j=‹qk W (M-1) j›/‹Dk W (M-1)›)/\(s="open" -> ∃rs,aP G l rs/\bC rs /\ ∀j,cf rs j=‹qk W M j›/‹Dk W M›)
def Lp(G0 G:Hp)(p:Addr):Prop:=∀(s:V)(l:Addr)(ys:List V),G p=some (.tup (s :: .ref l::ys))->G0 l=none
theorem Lp.of{G0:Hp}{p l:Addr}{s:V}{ys:List V}(h:G p=some (.tup (s :: .ref l::ys)))(n:G0 l=none):Lp G0 G p:=λs' l' ys' e=>by
 rw[h] at e;cases e;exact n
inductive jo (K:Sf)(vs:List V)(H:Hp)(Q:VK)(E:XK):Prop
 | mk (a:Addr)(qs:Lt):vs=[.ref a]->aP (vw K H) a qs->1<=qs.length->qs.length<=11->(∀q∈qs,gn q)->(∀(p:Addr) H' W B M s,LE K H H'->oN qs W B->lj W qs.length M->IJ qs W B M (vw K H') p s->Lp (vw K H) (vw K H') p->Q (.ref p) H')->jo K vs H Q E
theorem wY(F:Se K "outlook" nI f fd)(T:dS K mg)(C_steps:⟨⟩ "steps" ["sums"] 4 (jP K))(C_nought_bar:⟨⟩ "nought_bar" ["sums","step"] 4 (iJ K))(C_furthest_step:⟨⟩ "furthest_step" ["sums"] 4 (fT K)):#[] 5 f fd ["sums"] (jo K):=by
 have scN:=qW.nd;refine F.okQ qW ?_ ?_;walk_at "q"
 .obtain⟨_,_,rfl,_⟩:=h;rfl
 .obtain⟨a,qs,rfl,ha,l1,l11,sq,h⟩:=h;obtain⟨z_ZERO,hg_ZERO,hv_ZERO⟩:=T.g_ZERO;refine⟨_,(ae (cJ (aA cH (Sd C_steps (aa (qv 0) ac)) (dD cI af) ‹9›) (aY (n:=2) rfl (au (L3 (i:=1)) (au (L3 (i:=2)) aX))))
   (ae (bQ (aD mD (aA b9 (qv 2) af ‹9›) af (aC _)) (ag (av (aT (aa fI (aa (qv 1) ac))))) aL)
   (ae (bQ (aD (gW hr.u64) (qv 2) (cC (v:=V.ref z_ZERO) rfl hg_ZERO rfl) (aC _)) (ag (av (JK (Sd C_nought_bar (aa (qv 0) (aa (qv 1) ac))) (aT (aa fI (aa (qv 1) ac)))))) aL)
   (ag (av (aT (aa fI (aa (Sd C_furthest_step (aa (mK (fF (aq tL (s!"" (aa (qv 0) ac)) af) (λ_=>rfl)) (aq aW (qv 0) (aS (aa (cC (v:=V.ref z_ZERO) rfl hg_ZERO rfl) ac))) (qv 0)) ac)) ac)))))))),?_⟩
  walk_at"m";skip
  walk_at"1"
  refine⟨a,qs,rfl,ha,l1,l11,sq,λt H1 W B pss S1 ht0 cl my sa so=>?_⟩;obtain⟨xs,hxs,lxs,hx⟩:=id sa;obtain⟨M,hM⟩:∃M,M=pss.length:=⟨_,rfl⟩;rw[<-hM] at my;have m1:=my.one;have m2:=my.most;obtain⟨c,hc⟩:∃c,pss[M-1]? = some c:=⟨_,YU ()⟩;obtain⟨x,l,v,e1,e2,e3,e4,e5⟩:=hx _ _ hc;have soc:=so _ _ hc;have dk:=my.up (M-1) ();have dn:Dk W (M-1)≠0:=();have hB:=cl.pos;have lc:=soc.len dn;have dB:0<Dk W (M-1)*B:=Xb dk hB;have sv:=soc.sqv;rw[show M-1+1=M by nofun] at sv
  have xl:xs.getLast? = some (.ref x):=by rw[Y1,lxs,<-hM];exact e1
  refine⟨t,rfl,_,hxs,_,fX xl,x,rfl,_,e2,rfl,_,_,rfl,_,_,rfl,rfl,hN1 _ _ ?_⟩;obtain⟨vp,rfl,hvp⟩:=id e4.fr_at;have iq:c.2.1*(Dk W (M-1)*B)=Dk W M*c.2.2:=by
   have n2:=ao (show c.2.2≠0 by have:=soc.fq.1;nofun)
   have n3:=ao (show Dk W (M-1)*B≠0 by nofun)
   have e:‹c.2.1*(Dk W (M-1)*B)›=‹Dk W M*c.2.2›:=by
    rw[Xi,Xi];unfold wv at sv;grind
   exact_mod_cast e
  have q2:=soc.fq.1;have sneg:c.2.1<0->Dk W M<0:=λz=>by
   have:=Int.mul_neg_of_neg_of_pos z dB;rw[iq] at this;exact Int.not_le.mp λy=>by have:=Int.mul_nonneg y (YX q2);nofun
  have szer:c.2.1=0->Dk W M=0:=λz=>by
   rw[z,Int.zero_mul] at iq;rcases Int.mul_eq_zero.mp iq.symm with y|y
   .exact y
   .nofun
  have spos:0<c.2.1->0<Dk W M:=λz=>by
   have:=Xb z dB;rw[iq] at this;exact Int.not_le.mp λy=>by have:=Int.mul_le_mul_of_nonneg_right y (YX q2);nofun
  walk_at"2"
  refine⟨_,hvp,_,dN,_,rfl,cK (λhneg=>?_) (λhneg=>hN2 _ _ ?_)⟩
  .exact⟨∅,λp H2 hp S2 h2=>h p H2 W B M "below" (S1.trans S2) cl my ⟨.inl ⟨sneg hneg,rfl⟩,l,[],h2,λ_=>rfl,λz=>absurd z ∅,λz=>absurd z ∅⟩ (.of h2 e5.1)⟩
  walk_at"3"
  refine⟨_,e4,_,bI (hv_ZERO _),fe _,fe _,?_⟩;rw[nV];refine cK (λhz=>?_) (λhz=>hN3 _ _ ?_)
  .have d0:Dk W M=0:=szer (by rw[XJ hz])
   unfold J9;symm
   refine⟨a,l,qs,c,W,B,M-1,rfl,ha.same S1,e3,l11,sq,cl,soc,dk,(),lc,(),λhn H2 S2=>⟨false,rfl,fz ∅ ⟨∅,λp H3 hp S3 h3=>h p H3 W B M "tight" (S1.trans (S2.trans S3)) cl my ⟨.inr (.inr (.inl ⟨d0,hn,rfl⟩)),l,[],h3,λ_=>rfl,λ_=>⟨c.1,e3.same (S2.trans S3),soc.po,soc.num⟩,λz=>absurd z ∅⟩ (.of h3 e5.1)⟩⟩,λhn H2 p v S2 h2=>⟨true,?_,kK rfl (h p H2 W B M "nought" (S1.trans S2) cl my ⟨.inr (.inl ⟨d0,hn,rfl⟩),l,[v],h2,λz=>absurd z ∅,λz=>absurd z ∅,λz=>absurd z ∅⟩ (.of h2 e5.1))⟩⟩
   exact .inr (.inl ⟨_,hU h2,rfl⟩)
  .have d1:0<Dk W M:=spos (by
    have:c.2≠(0,1):=λz=>hz (YS z);have:c.2.1≠0:=λz=>this ((lZ soc.fq).mpr z);nofun)
   symm
   have od:2*M=qs.length\/2*M=qs.length+1:=by
    rcases my.all with z|z<;>nofun
   refine⟨_,(ha.same S1).len,(),cK (λho=>?_) (λho=>?_)⟩
   .have o1:2*M=qs.length+1:=by
     have:((qs.length:Int)%2)≠0:=by simpa using ho
     nofun
    obtain⟨ax,hax,rax⟩:=id (ha.same S1);refine⟨∅,λp2 H2 hp2 S2 h2=>?_⟩;show gz K (.ref a) (.ref p2) H2 _;rw[dR];refine⟨ax,S2 _ _ hax,_,h2,?_,λp3 H3 hp3 S3 h3=>?_⟩
    .have:1000<=sizeLine:=∅;rw[rax.length];simp;nofun
    have S23:=S2.trans S3;have l3:aP (vw K H3) p3 (qs++[(0,1)]):=by
     refine⟨_,h3,?_⟩;rw[XI];exact (rax.same S23).app (.mk_cons (bI (hv_ZERO _)) .mk_nil)
    have sq0:∀q∈qs++[(0,1)],gn q:=λq hq=>by
     rcases List.mem_append.mp hq with z|z
     .exact sq q z
     .cases List.mem_singleton.mp z;exact⟨oB,D8 ∅,Int.one_dvd _⟩
    refine⟨p3,qs++[(0,1)],rfl,l3,by simp,by simp;nofun,sq0,λd H4 W' B' rs k S4 nd cl' ld po k6 hD he num=>⟨∅,λp5 H5 hp5 S5 h5=>h p5 H5 W B M "open" (S1.trans (S23.trans (S4.trans S5))) cl my ⟨.inr (.inr (.inr ⟨d1,rfl⟩)),d,[],h5,λ_=>rfl,λz=>absurd z ∅,λ_=>⟨rs,ld.same S5,po,?_⟩⟩ (.of h5 ((S1.trans S23).none nd))⟩⟩
    obtain⟨_,eW⟩:=cl.zero.uniq cl' λq hq=>(sq0 q hq).1;subst eW;rw[YE,YM] at hD he;have hk1:=(hD k (Yr _)).2;have ek:k=M:=by
     by_cases z:k<M
     .rcases he with y|y
      .nofun
      .by_cases e:k+1=M
       .rw[e] at y;nofun
       .have:=my.up (k+1) ();nofun
     .nofun
    rw[<-ek];exact num
   .have o1:2*M=qs.length:=by
     have:((qs.length:Int)%2)=0:=by simpa using ho
     nofun
    refine⟨a,qs,rfl,ha.same S1,l1,(),sq,λd H4 W' B' rs k S4 nd cl' ld po k6 hD he num=>⟨∅,λp5 H5 hp5 S5 h5=>h p5 H5 W B M "open" (S1.trans (S4.trans S5)) cl my ⟨.inr (.inr (.inr ⟨d1,rfl⟩)),d,[],h5,λ_=>rfl,λz=>absurd z ∅,λ_=>⟨rs,ld.same S5,po,?_⟩⟩ (.of h5 (S1.none nd))⟩⟩
    obtain⟨_,eW⟩:=cl.uniq cl' λq hq=>(sq q hq).1;subst eW;have hk1:=(hD k (Yr _)).2;have ek:k=M:=by
     by_cases z:k<M
     .rcases he with y|y
      .nofun
      .by_cases e:k+1=M
       .rw[e] at y;nofun
       .have:=my.up (k+1) ();nofun
     .nofun
    rw[<-ek];exact num
theorem IJ.same{qs:Lt}{W:Nat->Int}{B:Int}{M:Nat}{G G':Hp}{p:Addr}{s:Str}(h:IJ qs W B M G p s)(S:aB G G'):IJ qs W B M G' p s:=by
 obtain⟨k,l,ys,h1,h2,h3,h4⟩:=h;refine⟨k,l,ys,S _ _ h1,h2,λz=>?_,λz=>?_⟩
 .obtain⟨rs,a,b⟩:=h3 z;exact⟨rs,a.same S,b⟩
 .obtain⟨rs,a,b⟩:=h4 z;exact⟨rs,a.same S,b⟩
def oX(W:Nat->Int)(n M:Nat):Prop:=Dk W M<0\/(Dk W M=0 /\ ¬ xD W (M-1) n)
inductive uE (K:Sf)(vs:List V)(H:Hp)(Q:VK)(E:XK):Prop
 | mk (a:Addr)(qs:Lt)(W:Nat->Int)(B:Int)(M:Nat):vs=[.ref a]->aP (vw K H) a qs->1<=qs.length->qs.length<=11->(∀q∈qs,gn q)->oN qs W B->lj W qs.length M -> ¬ oX W qs.length M->(∀(p:Addr) H' s,LE K H H'->IJ qs W B M (vw K H') p s->Lp (vw K H) (vw K H') p->Q (.ref p) H')->uE K vs H Q E
theorem JM(F:Se K "had" zt f fd)(T:dS K mg)(C_outlook:⟨⟩ "outlook" ["sums"] 5 (jo K))(C_is_bar:⟨⟩ "is_bar" ["told"] 1 (kF K)):#[] 6 f fd ["sums"] (uE K):=by
 have scN:=uc.nd;refine F.okQ uc ?_ ?_;walk_at "q"
 .obtain⟨_,_,_,_,_,rfl,_⟩:=h;rfl
 .obtain⟨a,qs,W,B,M,rfl,ha,l1,l11,sq,cl,my,nf,h⟩:=h;refine⟨_,(ae (L4 (i:=1) (Sd C_outlook (aa (qv 0) ac)))
   (ae (bQ (eH (Sd C_is_bar (aa (qv 1) ac))) (ag jW) aL)
   (ag (av (qv 1))))),?_⟩
  walk_at"m";skip
  walk_at"1"
  refine⟨a,qs,rfl,ha,l1,l11,sq,λp H1 W' B' M' s S1 cl' my' o fo=>hN1 _ _ ?_⟩;obtain⟨eB,eW⟩:=cl.uniq cl' λq hq=>(sq q hq).1;subst eB eW;have eM:=my.uniq my';subst eM;walk_at"2"
  obtain⟨l,ys,hp,_⟩:=o.at_;refine⟨p,s,_,false,rfl,hp,.inl ⟨rfl,?_⟩,λH2 S2=>?_⟩
  .rcases o.kind with ⟨z,_⟩|⟨z,y,_⟩|⟨_,_,z⟩|⟨_,z⟩
   .exact absurd (.inl z) nf
   .exact absurd (.inr ⟨z,y⟩) nf
   .exact .inl z
   .exact .inr z
  .refine⟨false,rfl,fz ∅ (hN2 _ _ ?_)⟩;symm
   exact h p H2 s (S1.trans S2) (o.same S2) (.of (S2 _ _ hp) (fo _ _ _ hp))
inductive ug (C:Addr)(K:Sf)(vs:List V)(H:Hp)(_:VK)(E:XK):Prop
 | mk (a:Addr)(qs:Lt)(W:Nat->Int)(B:Int)(M:Nat):vs=[.ref a]->aP (vw K H) a qs->1<=qs.length->qs.length<=11->(∀q∈qs,gn q)->oN qs W B->lj W qs.length M->oX W qs.length M->(∀H',LE K H H'->E (.ref C) none H')->ug C K vs H _ E
theorem Gd{C:Addr}(F:Se K "had" zt f fd)(T:dS K mg)(zx_NoSums:vC K C)(hgx_NoSums:mg "NoSums"=some (.ref C))(C_outlook:⟨⟩ "outlook" ["sums"] 5 (jo K))(C_is_bar:⟨⟩ "is_bar" ["told"] 1 (kF K)):aZ P w K mg base (mX P w) 6 f fd ["sums"] (ug C K):=by
 have scN:=uc.nd;refine F.okX uc ?_ ?_;walk_at "q"
 .obtain⟨_,_,_,_,_,rfl,_⟩:=h;rfl
 .obtain⟨a,qs,W,B,M,rfl,ha,l1,l11,sq,cl,my,nf,h⟩:=h;refine⟨_,(ae (L4 (i:=1) (Sd C_outlook (aa (qv 0) ac)))
   (ae (bQ (eH (Sd C_is_bar (aa (qv 1) ac))) (ag (vK zx_NoSums rfl hgx_NoSums (aa fI ac))) aL)
   (ag (av (qv 1))))),?_⟩
  walk_at"m";symm
  refine⟨a,qs,rfl,ha,l1,l11,sq,λp H1 W' B' M' s S1 cl' my' o fo=>?_⟩;obtain⟨eB,eW⟩:=cl.uniq cl' λq hq=>(sq q hq).1;subst eB eW;have eM:=my.uniq my';subst eM;obtain⟨l,ys,hp,_⟩:=o.at_;refine⟨p,s,_,true,rfl,hp,.inr ⟨rfl,?_⟩,λH2 S2=>⟨true,rfl,kK rfl ?_⟩⟩
  .rcases o.kind with ⟨_,z⟩|⟨_,_,z⟩|⟨z,y,_⟩|⟨z,_⟩
   .exact .inl z
   .exact .inr z
   .rcases nf with u|⟨_,u⟩
    .nofun
    .exact absurd y u
   .rcases nf with u|⟨u,_⟩<;>nofun
  simp only[t8];symm
  exact⟨∅,h _ (S1.trans S2)⟩
def dC(W:Nat->Int)(M:Nat):Nat:=if 0<Dk W M then M else M-1
theorem Cq{W:Nat->Int}{M:Nat}(my:lj W n M):0<Dk W (dC W M):=by
 unfold dC;split
 .assumption
 .exact my.up _ (by have:=my.one;nofun)
theorem IJ.had{W:Nat->Int}{M:Nat}{p:Addr}{s:Str}(o:IJ qs W B M G p s)(nf:¬ oX W qs.length M):∃(l:Addr)(rs:Lt),G p=some (.tup [.str s,.ref l])/\aP G l rs/\bC rs/\(∀j,cf rs j=‹qk W (dC W M) j›/‹Dk W (dC W M)›)/\(s="tight" /\ Dk W M=0\/s="open" /\ 0<Dk W M):=by
 obtain⟨k,l,ys,h1,h2,h3,h4⟩:=o;rcases k with ⟨z,_⟩|⟨z,y,_⟩|⟨d0,_,z⟩|⟨d1,z⟩
 .exact absurd (.inl z) nf
 .exact absurd (.inr ⟨z,y⟩) nf
 .obtain⟨rs,a,b,c⟩:=h3 z;rw[h2 (.inl z)] at h1;refine⟨l,rs,h1,a,b,?_,.inl ⟨z,d0⟩⟩;unfold dC;rw[Yc ()];exact c
 .obtain⟨rs,a,b,c⟩:=h4 z;rw[h2 (.inr z)] at h1;refine⟨l,rs,h1,a,b,?_,.inr ⟨z,d1⟩⟩;unfold dC;rw[Yb d1];exact c
theorem mf{W:Nat->Int}(po:bC rs)(hD:Dk W k≠0)(num:∀j,cf rs j=‹qk W k j›/‹Dk W k›):rs.length=k+1:=by
 have c0:‹0›=0:=rfl;refine Nat.le_antisymm (nE po λj hj=>?_) (Nat.not_lt.mp λz=>?_)
 .rw[num,dQ (),c0];grind
 .have e:=num k;rw[aJ (),fi] at e;have:=ao hD;grind
theorem uI{W:Nat->Int}(hD:Dk W k≠0)(hk:k<=6)(bW:∀i,Bt 170 (W i)):Pb 1100 (Pk W k) :=
 ⟨Dk W k,hD,(kO bW hk).mono ∅,λj=>⟨qk W k j,rfl,by
  by_cases h:k<=5
  .exact (kS bW h).mono ∅
  .obtain rfl:k=6:=();have:=qB (B:=2^170) (k:=6) (λi=>Yh (bW i)) j;exact Xy this ∅⟩⟩
theorem Ko{R Δ u:Nat->Rat}(tR:Tp n R)(n6:n<=6)(ns:uM R (DF R))(bD:Bd n Δ)(bu:Bd 13 u)(h:∀x,EV Δ x*EV (DF R) x=EV u x*EV R x):∀k,Δ k=0:=by
 rcases Bd.tp bD with z|⟨d0,l0,t0⟩
 .exact z
 exfalso;obtain⟨m,⟨mn,e,te,u,bu,h⟩,mn2⟩:=least (Φ:=λd=>d<n /\ ∃e,Tp d e /\ ∃u,Bd 13 u /\ ∀x,EV e x*EV (DF R) x=EV u x*EV R x) ⟨l0,Δ,t0,u,bu,h⟩;obtain⟨q,t,bq,bt,eq⟩:=AE te (n+1-m) R (tR.2.mono ());have vq:=yT te bq () eq;have bR':=jG tR.2;have bu':Bd (m+1) u:=(lM (f:=λk=>pr e (DF R) (m+1) k) (n:=m+1+n) (Bd.pr bR') () tR n6 bu (λx=>by rw[iQ te.2 bR' (),h])).1.mono ()
 rcases Bd.tp bt with z|⟨m',l',t'⟩
 .have v1:∀x,EV R x=EV q x*EV e x:=λx=>by rw[vq x,gI z];grind
  rcases Bd.tp bq with zq|⟨k,lk,tq⟩
  .exact tR.1 (jO (tR.2.mono ()) (g:=λ_=>0) ‹9› (λx=>by rw[v1,gI zq,gI (f:=λ_=>0) λ_=>rfl];grind) n)
  .have k1:1<=k:=Nat.pos_of_ne_zero λz0=>by
    subst z0;have:=jO (tR.2.mono ()) ((Bd.pr (m:=1) (f:=q) te.2).mono ()) (λx=>by rw[iQ tq.2 te.2 (),v1]) n
    rw[gD te.2 _ _ ()] at this;exact tR.1 this
   have bp:Bd (m+1+(k+1)) (λj=>pr u q (m+1) j):=Bd.pr tq.2;obtain⟨g,hg⟩:∃g:Nat->Rat,g=λj=>DF R j+(-1)*(λj=>pr u q (m+1) j) j:=⟨_,rfl⟩;have bg:Bd 13 g:=by
    rw[hg];exact Bd.add (bR'.mono ()) (bp.mono ())
   have vg:∀x,EV g x=EV (DF R) x-EV u x*EV q x:=λx=>by
    rw[hg,gi,iQ bu' tq.2 ()];grind
   have g0:=(lM (f:=λ_=>0) (n:=0) ‹9› () te () bg (λx=>by
    have a:=h x;rw[v1] at a;rw[vg,gI (f:=λ_=>0) λ_=>rfl];grind)).1
   refine ns k q k1 () tq ⟨e,te.2.mono (),λx=>by rw[v1];grind⟩ ⟨u,bu'.mono (),λx=>?_⟩
   have a:=vg x;rw[gI λi=>g0 i ()] at a;grind
 .have:=mn2 m' ⟨(),t,t',λk=>DF R k+(-1)*(λk=>pr q u (n+1-m) k) k,Bd.add (bR'.mono ()) ((Bd.pr bu').mono ()),λx=>?_⟩
  .nofun
  .rw[gi,iQ bq bu' ()];have a:=h x;have b:=vq x;grind
theorem C3{ws ws':Lt}(lr:rs.length=d+1)(d6:d<=6)(one:cf rs d=1)(ns:uM (cf rs) (DF (cf rs)))(lw:ws.length<=d)(lw':ws'.length<=d)(pw:bC ws)(pw':bC ws')(h:FG rs qs ws)(h':FG rs qs ws'):ws=ws':=by
 have tR:Tp d (cf rs):=⟨by rw[one];decide +kernel,λi hi=>aJ ()⟩
 have bR':=jG tR.2;obtain⟨V,pV,e⟩:=h;obtain⟨V',pV',e'⟩:=h';rw[lr,Nat.add_sub_cancel] at e e';have dotE:∀{f:Nat->Rat}{n:Nat},Bd n f->n<=20 -> ∀x,ap f (aQ x) n=EV f x:=λhf hn x=>by rw[fJ hf hn,kq]
 have bw:Bd d (cf ws):=λi hi=>aJ ();have bw':Bd d (cf ws'):=λi hi=>aJ ();obtain⟨Δ,hΔ⟩:∃Δ:Nat->Rat,Δ=λk=>cf ws k+(-1)*cf ws' k:=⟨_,rfl⟩;have bD:Bd d Δ:=by rw[hΔ];exact Bd.add bw bw'
 have vD:∀x,EV Δ x=EV (cf ws) x-EV (cf ws') x:=λx=>by rw[hΔ,gi];grind
 have main:∀x,EV Δ x*EV (DF (cf rs)) x=(V x-V' x)*EV (cf rs) x:=λx=>by
  have a:=e x;have b:=e' x;rw[dotE bw (),dotE tR.2 ()] at a;rw[dotE bw' (),dotE tR.2 ()] at b;rw[vD];grind
 obtain⟨q,t,bq,bt,eq⟩:=AE tR d (λk=>pr Δ (DF (cf rs)) d k) (Bd.pr bR');have vq:=yT tR bq () eq;have vt:∀x,EV t x=(V x-V' x-EV q x)*EV (cf rs) x:=λx=>by
  have a:=vq x;rw[iQ bD bR' (),main] at a;grind
 obtain⟨lv,hv⟩:=(pV.sub pV').sub (zJ bq ());have bl:Bd d (λk=>if k<d then cf rs k else 0):=λi hi=>Yc ()
 have C0:=uH (n:=d) (P:=EV t) (R:=EV (cf rs)) (r:=EV λk=>if k<d then cf rs k else 0) (eO.of bt ()) (eO.of bl ()) (λx=>by
  rw[<-dotE tR.2 (),<-dotE bl ()];show ap (cf rs) (aQ x) d+cf rs d*aQ x d=_;rw[one,aE (f':=λk=>if k<d then cf rs k else 0) (g':=aQ x) d (λi hi=>(Yb hi).symm) λ_ _=>rfl]
  grind) lv.length (λx=>V x-V' x-EV q x) ⟨lv,Yr _,hv⟩ vt
 have z:=Ko tR d6 ns bD (bq.mono ()) λx=>by
  have a:=C0 x;rw[main];grind
 refine wJ pw pw' λk=>?_;have a:=z k;rw[hΔ] at a;grind
structure Gf (rs qs ws:Lt)(d:Nat):Prop where
 lr:rs.length=d+1
 d6:d<=6
 one:cf rs d=1
 po:bC rs
 br:Pb 4400 (cf rs)
 pw:bC ws
 lw:ws.length<=d
 bw:Pb 1760000 (cf ws)
 fw:FG rs qs ws
 orth:∀k,k+d<qs.length->ap (cf rs) (λj=>cf qs (k+j)) (d+1)=0
theorem C5{f:Nat->Rat}{D u v:Int}{a b:Nat}(o:Ob D b f)(D0:D≠0)(v0:v≠0)(bu:Bt a u)(bv:Bt a v):∀n,∃N:Int,eE f n ((u:Rat)/(v:Rat))=(N:Rat)/‹D*v^n›/\Bt (b+1+(a+1)*n) N
 | 0=>⟨0,by
  have c0:‹0›=0:=rfl;rw[c0];show (0:Rat)=_;grind,J5⟩
 | n+1=>by
  obtain⟨N,e,bN⟩:=C5 o D0 v0 bu bv n;obtain⟨m,em,bm⟩:=o n;have c1:=ao D0;have c2:=ao v0;have c3:=ao (show v^n≠0 from XD v0)
  have bn:=(bN.add (bm.mul (bu.pow1 n))).mul bv;refine⟨(N+m*u^n)*v,?_,bn.mono ?_⟩
  .have ep:∀k,aQ ((u:Rat)/(v:Rat)) k=‹u^k›/‹v^k›:=λk=>by
    induction k with
    | zero =>
     show (1:Rat)=_;rw[XB,XB];decide +kernel
    | succ k ih =>
     have c4:=ao (show v^k≠0 from XD v0)
     rw[gM,ih,XC,XC,Xi,Xi];grind
   show eE f n _+f n*aQ _ n=_;rw[e,em,ep,XC];simp only[Xi,Xh];grind
  .rw[Nat.mul_succ,Xu,Nat.one_mul,YQ a n];nofun
def Rk(W:Nat->Int)(M:Nat)(x:Rat):Nat->Rat:=if Dk W M=0 then Pk W (M-1) else λj=>Pk W M j + -(EV (Pk W M) x/EV (Pk W (M-1)) x)*Pk W (M-1) j
def BL(W:Nat->Int)(M:Nat)(x:Rat):Prop:=(Dk W M=0/\EV (Pk W (M-1)) x≠0)\/(Dk W M≠0/\EV (Pk W (M-1)) x=0)
theorem GI{W:Nat->Int}{M:Nat}{c:Int×Int}(bW:∀i,Bt 170 (W i))(hD:∀i,i<=M->Dk W i≠0)(M6:M<=6)(fc:Fq c)(bc:Bq 170 c)(n0:EV (Pk W (M-1)) (wv c)≠0):(Pb 4400 λj=>Pk W M j + -(EV (Pk W M) (wv c)/EV (Pk W (M-1)) (wv c))*Pk W (M-1) j)/\Pb 4400 λj=>Pk W (M-1) j*(EV (Pk W M) (wv c)/EV (Pk W (M-1)) (wv c)):=by
 have ob:∀k,k<=M->Ob (Dk W k) 1100 (Pk W k)/\Bt 1100 (Dk W k) /\ ∃N:Int,EV (Pk W k) (wv c)=(N:Rat)/‹Dk W k*c.2^7›/\Bt 2300 N:=λk hk=>by
  have bD:Bt 1100 (Dk W k):=(kO bW ()).mono ∅;have o:Ob (Dk W k) 1100 (Pk W k):=λj=>⟨qk W k j,rfl,by
   by_cases h:k<=5
   .exact (kS bW h).mono ∅
   .obtain rfl:k=6:=();have:=qB (B:=2^170) (k:=6) (λi=>Yh (bW i)) j;exact Xy this ∅⟩
  obtain⟨N,e,b⟩:=C5 o (hD k hk) fc.ne bc.1 bc.2 7;refine⟨o,bD,N,?_,b.mono ∅⟩;rw[fJ (n:=7) (λj hj=>iI ()) ∅];exact e
 obtain⟨o1,b1,N1,e1,bN1⟩:=ob M (Yr _);obtain⟨o2,b2,N2,e2,bN2⟩:=ob (M-1) ();have d1:=hD M (Yr _);have d2:=hD (M-1) ();have c1:=ao d1;have c2:=ao d2;have c3:=ao (show c.2^7≠0 from XD fc.ne)
 have N0:N2≠0:=λz=>n0 (by
  have c0:‹0›=0:=rfl;rw[e2,z,c0];grind)
 have c4:=ao N0;refine⟨⟨Dk W M*N2,Xg d1 N0,(b1.mul bN2).mono ∅,λj=>?_⟩,Dk W M*N2,Xg d1 N0,(b1.mul bN2).mono ∅,λj=>?_⟩
 .obtain⟨m1,f1,g1⟩:=o1 j;obtain⟨m2,f2,g2⟩:=o2 j;refine⟨m1*N2 + -(N1*m2),?_,((g1.mul bN2).add (n:=3400) ?_).mono ∅⟩
  .show Pk W M j+_=_;rw[e1,e2,f1,f2];simp only[Xi,Xh,Rat.intCast_neg];grind
  .have:=bN1.mul g2;unfold Bt at this ⊢
   rwa [Int.natAbs_neg]
 .obtain⟨m2,f2,g2⟩:=o2 j;refine⟨N1*m2,?_,(bN1.mul g2).mono ∅⟩;show Pk W (M-1) j*_=_;rw[e1,e2,f2];simp only[Xi];grind
theorem G5{f:Nat->Rat}{c q:Int×Int}(pb:Pb 1100 f)(bd:Bd 7 f)(fc:Fq c)(bc:Bq 170 c)(fq:Fq q)(w:wv q=EV f (wv c)):Bq 2300 q:=by
 obtain⟨D,D0,bD,o⟩:=pb;obtain⟨N,e,b⟩:=C5 o D0 fc.ne bc.1 bc.2 7;rw[fJ bd ∅] at w;exact jA fq (w.trans e) (Xg D0 (XD fc.ne)) (b.mono ∅) ((bD.mul (bc.2.pow1 7)).mono ∅)
theorem Ky{W:Nat->Int}{M:Nat}{x:Rat}(nn:¬ BL W M x):EV (Rk W M x) x=0:=by
 unfold Rk;split
 .rename_i d0
  exact XE λz=>nn (.inl ⟨d0,z⟩)
 .rename_i d0
  have z:EV (Pk W (M-1)) x≠0:=λz=>nn (.inr ⟨d0,z⟩);rw[gi];grind
structure Mp (qs rs:Lt)(W:Nat->Int)(M:Nat):Prop where
 lr:rs.length=dC W M+1
 d6:dC W M<=6
 two:2*dC W M<=qs.length+1
 one:cf rs (dC W M)=1
 br:Pb 4400 (cf rs)
 orth:∀k,k+dC W M<qs.length->ap (cf rs) (λj=>cf qs (k+j)) (dC W M+1)=0
 pos:DN (cf qs) (dC W M)
 ns:uM (cf rs) (DF (cf rs))
theorem Hq{W:Nat->Int}{M:Nat}{c:Int×Int}(cl:oN qs W B)(my:lj W qs.length M)(l11:qs.length<=11)(nf:¬ oX W qs.length M)(od:qs.length%2=1)(fc:Fq c)(bc:Bq 170 c)(nn:¬ BL W M (wv c))(po:bC rs)(num:cf rs=Rk W M (wv c)):Mp qs rs W M:=by
 have m1:=my.one;have m2:=my.most;have hB:B≠0:=by have:=cl.pos;nofun
 have c0:‹0›=0:=rfl;have d1:=my.up (M-1) ();have d1n:Dk W (M-1)≠0:=();by_cases d0:Dk W M=0
 .have ek:dC W M=M-1:=by unfold dC;rw[Yc ()]
  have ng:xD W (M-1) qs.length:=XE λz=>nf (.inr ⟨d0,z⟩);have hD:∀i,i<=M-1->0<Dk W i:=λi hi=>my.up i ();have ec:cf rs=Pk W (M-1):=by rw[num];unfold Rk;rw[Yb d0]
  have lr:=mf po d1n (λj=>by rw[ec];rfl)
  refine⟨(),(),(),by rw[ec,ek,jQ d1n],?_,λk hk=>?_,?_,?_⟩
  .rw[ec];exact (uI d1n () cl.bt).mono ∅
  .rw[ek] at hk ⊢;rw[ec,ge (P:=Pk W (M-1)) d1n hB (λj=>rfl) cl.val k,ng k (),c0];grind
  .rw[ek];exact DL cl.pos cl.val hD
  .rw[ec];exact Br cl.pos cl.val () hD
 .have dM:0<Dk W M:=by
   have:¬ Dk W M<0:=λz=>nf (.inl z);nofun
  have ek:dC W M=M:=by unfold dC;rw[Yb dM]
  have nM:qs.length<=2*M:=by
   rcases my.all with y|y
   .exact y
   .nofun
  have n0:EV (Pk W (M-1)) (wv c)≠0:=λz=>nn (.inr ⟨d0,z⟩);have hD:∀i,i<=M->0<Dk W i:=λi hi=>by
   by_cases e:i=M
   .rw[e];exact dM
   .exact my.up i ()
  obtain⟨a,ha⟩:∃a,a = -(EV (Pk W M) (wv c)/EV (Pk W (M-1)) (wv c)):=⟨_,rfl⟩;have ec:cf rs=λj=>Pk W M j+a*Pk W (M-1) j:=by rw[num,ha];unfold Rk;rw[Yc d0]
  have bb:Bd (M+1) (cf rs):=λj hj=>by
   rw[ec];show Pk W M j+a*Pk W (M-1) j=0;rw[iI (),iI ()];grind
  have top:cf rs M=1:=by
   rw[ec];show Pk W M M+a*Pk W (M-1) M=1;rw[jQ d0,iI ()];grind
  have lr:rs.length=M+1:=Nat.le_antisymm (nE po bb) (Nat.not_lt.mp λz=>by
   rw[aJ ()] at top;exact absurd top ∅)
  have orth:∀k,k+1<M->ap (cf rs) (λj=>cf qs (k+j)) (M+1)=0:=λk hk=>by
   have e1:=ge (P:=Pk W M) d0 hB (λj=>rfl) cl.val k;have e2:=ge (P:=Pk W (M-1)) d1n hB (λj=>rfl) cl.val k;rw[gY (),c0] at e1 e2;have e3:ap (Pk W (M-1)) (λj=>cf qs (k+j)) (M+1)=ap (Pk W (M-1)) (λj=>cf qs (k+j)) (M-1+1)+Pk W (M-1) M*cf qs (k+M):=by rw[show M-1+1=M by nofun];rfl
   rw[iI ()] at e3;rw[ec,iT (f:=Pk W M) (g:=λj=>a*Pk W (M-1) j),gQ];grind
  refine⟨(),(),(),by rw[ek];exact top,?_,λk hk=>?_,?_,?_⟩
  .rw[ec,ha];exact (GI (c:=c) cl.bt (λi hi=>by have:=hD i hi;nofun) () fc bc n0).1
  .rw[ek] at hk ⊢;exact orth k ()
  .rw[ek];exact DL cl.pos cl.val hD
  .exact vP cl.pos cl.val (m:=M) () ⟨by rw[top];decide,bb⟩ hD λq _=>by
    rw[EO];exact cq (M-1) λi hi=>by rw[orth i ()];grind
structure LD (qs rs ws:Lt)(W:Nat->Int)(M:Nat)(x:Rat):Prop where
 ra:Mp qs rs W M
 fo:Gf rs qs ws (dC W M)
 num:cf rs=Rk W M x
def My(G0:Hp)(qs:Lt)(W:Nat->Int)(M:Nat)(x:Rat)(G:Hp)(v:V):Prop:=(BL W M x/\v=.non)\/(¬ BL W M x/\X5 λ(p b w:Addr)(rs ws:Lt)=>v=.ref p/\G p=some (.tup [.ref b,.ref w])/\aP G b rs/\aP G w ws/\G0 b=none/\LD qs rs ws W M x)
theorem LD.uniq{ws rs' ws':Lt}{W:Nat->Int}{M:Nat}{x:Rat}(h:LD qs rs ws W M x)(h':LD qs rs' ws' W M x):rs=rs'/\ws=ws':=by
 obtain rfl:=wJ h.fo.po h'.fo.po λk=>by rw[h.num,h'.num]
 exact⟨rfl,C3 h.fo.lr h.fo.d6 h.fo.one h.ra.ns h.fo.lw h'.fo.lw h.fo.pw h'.fo.pw h.fo.fw h'.fo.fw⟩
inductive j9 (K:Sf)(vs:List V)(H:Hp)(Q:VK)(E:XK):Prop
 | mk (a:Addr)(y:V)(qs:Lt)(c:Int×Int)(W:Nat->Int)(B:Int)(M:Nat):vs=[.ref a,y]->aP (vw K H) a qs->aI (vw K H) (fr c) y->Fq c->Bq 170 c->1<=qs.length->qs.length<=11->(∀q∈qs,gn q)->oN qs W B->lj W qs.length M -> ¬ oX W qs.length M->qs.length%2=1->(∀v H',LE K H H'->My (vw K H) qs W M (wv c) (vw K H') v->Q v H')->j9 K vs H Q E
theorem vU(F:Se K "flock_at" iW f fd)(T:dS K mg)(C_had:⟨⟩ "had" ["sums"] 6 (uE K))(C_steps:⟨⟩ "steps" ["sums"] 4 (jP K))(C_number_at:⟨⟩ "number_at" ["f","x"] 3 (gL K))(C_grown:⟨⟩ "grown" ["f","by"] 4 (mC K))(C_over:⟨⟩ "over" ["one","other"] 3 (pD K))(C_lessened:⟨⟩ "lessened" ["f","g"] 4 (iA K))(C_flock_with:⟨⟩ "flock_with" ["sums","roots"] 6 (eU K)):#[] 7 f fd ["sums","spot"] (j9 K):=by
 have scN:=ir.nd;refine F.okQ ir ?_ ?_;walk_at "q"
 .obtain⟨_,_,_,_,_,_,_,rfl,_⟩:=h;rfl
 .obtain⟨a,y,qs,c,W,B,M,rfl,ha,hy,fc,bc,l1,l11,sq,cl,my,nf,od,h⟩:=h;obtain⟨z_ZERO,hg_ZERO,hv_ZERO⟩:=T.g_ZERO;refine⟨_,(ae (cJ (Sd C_had (aa (qv 0) ac)) (aY (n:=2) rfl (au (L3 (i:=2)) (au (L3 (i:=3)) aX))))
   (ae (bQ (dX (fF (aq tL (s!"" (aa (qv 0) ac)) af) (λ_=>rfl))) (ag jW) aL)
   (ae (bQ (aD dY (qv 2) fI (aC _)) (ag (av (mK (aD (gW hr.u64) (Sd C_number_at (aa (qv 3) (aa (qv 1) ac))) (cC (v:=V.ref z_ZERO) rfl hg_ZERO rfl) (aC _)) (Sd C_flock_with (aa (qv 0) (aa (qv 3) ac))) km))) aL)
   (ae (L4 (i:=4) (aA b9 (aA cH (Sd C_steps (aa (qv 0) ac)) (dD cI af) ‹9›) af ‹9›))
   (ae (L4 (i:=5) (Sd C_number_at (aa (qv 4) (aa (qv 1) ac))))
   (ae (bQ (aD (gW hr.u64) (qv 5) (cC (v:=V.ref z_ZERO) rfl hg_ZERO rfl) (aC _)) (ag (av km)) aL)
   (ae (L4 (i:=6) (Sd C_over (aa (Sd C_number_at (aa (qv 3) (aa (qv 1) ac))) (aa (qv 5) ac))))
   (ag (av (Sd C_flock_with (aa (qv 0) (aa (Sd C_lessened (aa (qv 3) (aa (Sd C_grown (aa (qv 4) (aa (qv 6) ac))) ac))) ac)))))))))))),?_⟩
  walk_at"m";skip
  have m1:=my.one;have m2:=my.most;have hups:=my.up;walk_at"1"
  refine⟨a,qs,W,B,M,rfl,ha,l1,l11,sq,cl,my,nf,λp H1 s S1 o fo=>?_⟩;obtain⟨lr,rs,h1,lrs,prs,nrs,hs⟩:=o.had nf;have nl:=fo _ _ _ h1;refine⟨_,rfl,_,h1,rfl,_,_,rfl,_,_,rfl,rfl,hN1 _ _ ?_⟩;have fin:∀(br:Addr)(us:Lt)(H6:Hp)(E':_),LE K H H6->aP (vw K H6) br us->bC us->cf us=Rk W M (wv c) -> ¬ BL W M (wv c)->vw K H br=none->eU K [.ref a,.ref br] H6 (λv H'=>Q v H') E':=by
   intro br us H6 E' S6 lus pu eu nn nbr;have ra:=Hq cl my l11 nf od fc bc nn pu eu;have lr:=ra.lr;have d6:=ra.d6;have two:=ra.two;exact⟨a,br,qs,us,rfl,ha.same S6,lus,l11,sq,λz=>by rw[z] at lr;simp at lr,(),(),pu,ra.br,λ_=>ra.ns,λp7 w7 H7 ws S7 h7 l7' _ pw lw bw fw=>h _ H7 (S6.trans S7) (.inr ⟨nn,p7,br,w7,us,ws,rfl,h7,lus.same S7,l7',nbr,ra,⟨lr,d6,ra.one,pu,ra.br,pw,(),bw,fw,ra.orth⟩,eu⟩)⟩
  walk_at"2"
  refine⟨_,(ha.same S1).len,(),fz (by simp;nofun) (hN2 _ _ ?_)⟩
  have pos:=Cq my;have pn:Dk W (dC W M)≠0:=();have k6:dC W M<=6:=by unfold dC;split<;>nofun
  have lrl:=mf prs pn nrs;have ers:cf rs=Pk W (dC W M):=funext nrs;have prb:Pb 1100 (cf rs):=(uI pn k6 cl.bt).congr nrs;have bdr:Bd 7 (cf rs):=λi hi=>aJ ();walk_at"3"
  refine⟨rfl,cK (λhc=>?_) (λhc=>hN3 _ _ ?_)⟩
  .have d0:Dk W M=0:=by
    rcases hs with ⟨_,z⟩|⟨z,_⟩
    .exact z
    .rw[z] at hc;exact absurd hc ∅
   have ek:dC W M=M-1:=by unfold dC;rw[Yc ()]
   refine⟨lr,y,rs,c,rfl,lrs,aI.same S1 _ _ hy,(),λq hq=>⟨prs.1 q hq,(prb.bq prs.1 q hq).mono ∅⟩,fc,bc.mono ∅,λv8 H8 q8 S8 r8 f8 w8=>?_⟩;rw[nW (),ers,ek] at w8;refine⟨_,r8,_,bI (hv_ZERO _),fe _,fe _,?_⟩;rw[nV];refine cK (λhz=>?_) (λhz=>?_)
   .have eq0:q8=(0,1):=by simpa using hz
    have nx:EV (Pk W (M-1)) (wv c)=0:=by rw[<-w8,eq0];exact (cS ∅).mpr rfl
    exact fin lr rs H8 _ (S1.trans S8) (lrs.same S8) prs (by rw[ers,ek];unfold Rk;rw[Yb d0]) (λz=>by
     rcases z with ⟨_,z⟩|⟨z,_⟩
     .exact z nx
     .exact z d0) nl
   .have nq:q8≠(0,1):=by simpa using hz
    have nx:EV (Pk W (M-1)) (wv c)≠0:=λz=>nq ((lZ f8).mpr ((cS f8.ne).mp (by rw[w8,z])))
    exact h _ H8 (S1.trans S8) (.inl ⟨.inl ⟨d0,nx⟩,rfl⟩)
  have d1:0<Dk W M:=by
   rcases hs with ⟨z,_⟩|⟨_,z⟩
   .exact absurd z hc
   .exact z
  have ek:dC W M=M:=by unfold dC;rw[Yb d1]
  rw[ek] at ers lrl;walk_at"4"
  refine⟨a,qs,rfl,ha.same S1,l1,l11,sq,λt H2 W' B' pss S2 ht cl' my' sa so=>?_⟩;obtain⟨eB,eW⟩:=cl.uniq cl' λq hq=>(sq q hq).1;subst eB eW;have eM:=my.uniq my';subst eM;obtain⟨ys,hys,lys,hx⟩:=id sa;have hM:pss.length-1<pss.length:=();have he:pss[pss.length-1]? = some pss[pss.length-1]:=YU hM;obtain⟨e,hee⟩:∃e,e=pss[pss.length-1]:=⟨_,rfl⟩;rw[<-hee] at he;obtain⟨x,l,v,e1,e2,e3,e4,ne⟩:=hx _ _ he;have soe:=so _ _ he;have dm:=hups (pss.length-1) ();have dn:Dk W (pss.length-1)≠0:=();have le:=mf soe.po dn soe.num;have ee:cf e.1=Pk W (pss.length-1):=funext soe.num;have peb:Pb 1100 (cf e.1):=(uI dn () cl.bt).congr soe.num;have bde:Bd 7 (cf e.1):=λi hi=>aJ ();have S02:=S1.trans S2;refine⟨t,rfl,ys,hys,_,ie (n:=pss.length-1) () e1,x,rfl,_,e2,_,dN,hN4 _ _ ?_⟩;walk_at"5"
  refine⟨l,y,e.1,c,rfl,e3,aI.same S02 _ _ hy,(),λq hq=>⟨soe.po.1 q hq,(peb.bq soe.po.1 q hq).mono ∅⟩,fc,bc.mono ∅,λv5 H5 q5 S5 r5 f5 w5=>hN5 _ _ ?_⟩;rw[nW (),ee] at w5;refine aK.gen λN6 hN6=>?_;symm
  refine⟨_,r5,_,bI (hv_ZERO _),fe _,fe _,?_⟩;rw[nV];refine cK (λhz=>?_) (λhz=>hN6 _ _ ?_)
  .have eq0:q5=(0,1):=by simpa using hz
   have nx:EV (Pk W (pss.length-1)) (wv c)=0:=by rw[<-w5,eq0];exact (cS ∅).mpr rfl
   exact h _ H5 (S02.trans S5) (.inl ⟨.inr ⟨(),nx⟩,rfl⟩)
  have nq:q5≠(0,1):=by simpa using hz
  have nz5:q5.1≠0:=λz=>nq ((lZ f5).mpr z);have nx:EV (Pk W (pss.length-1)) (wv c)≠0:=λz=>nz5 ((cS f5.ne).mp (by rw[w5,z]))
  have b5:=G5 (peb.congr (g:=Pk W (pss.length-1)) λk=>by rw[ee]) (λi hi=>iI ()) fc bc f5 w5
  have S05:=S02.trans S5;refine aK.gen λN7 hN7=>?_;symm
  refine⟨lr,y,rs,c,rfl,lrs.same (S2.trans S5),aI.same S05 _ _ hy,(),λq hq=>⟨prs.1 q hq,(prb.bq prs.1 q hq).mono ∅⟩,fc,bc.mono ∅,λv6 H6 q6 S6 r6 f6 w6=>?_⟩;rw[nW ()] at w6;have b6:=G5 prb bdr fc bc f6 w6;rw[ers] at w6;refine⟨_,_,q6,q5,rfl,r6,aI.same S6 _ _ r5,f6.ne,f5.ne,nz5,b6.mono ∅,b5.mono ∅,(b6.2.mul b5.1).mono ∅,λv7 H7 S7 r7=>hN7 _ _ ?_⟩;have f7:=uB f6 nz5;have b7:=yM f6 nz5 b6 b5;have w7:wv (td q6 q5)=EV (Pk W pss.length) (wv c)/EV (Pk W (pss.length-1)) (wv c):=by rw[Bl f6.ne f5.ne nz5,w6,w5]
  have S57:=S6.trans S7;symm
  refine⟨l,v7,e.1,td q6 q5,rfl,(e3.same S5).same S57,r7,(),λq hq=>⟨soe.po.1 q hq,(peb.bq soe.po.1 q hq).mono ∅⟩,f7,b7.mono ∅,λd8 H8 gs S8 l8 n8 p8 w8 le8=>?_⟩;have hD:∀i,i<=pss.length->Dk W i≠0:=λi hi=>by
   by_cases z:i=pss.length
   .rw[z];nofun
   .have:=hups i ();nofun
  have pgs:Pb 4400 (cf gs):=(GI cl.bt hD () fc bc nx).2.congr λk=>by rw[w8,ee,w7]
  have S08:=(S05.trans S57).trans S8;refine⟨lr,d8,rs,gs,rfl,(lrs.same (S2.trans S5)).same (S57.trans S8),l8,(),(),λq hq=>⟨prs.1 q hq,(prb.bq prs.1 q hq).mono ∅⟩,λq hq=>⟨p8.1 q hq,pgs.bq p8.1 q hq⟩,λd9 H9 us S9 l9 n9 p9 w9 _=>?_⟩;refine fin d9 us H9 _ (S08.trans S9) l9 p9 (funext λk=>?_) (λz=>?_) (S08.none n9)
  .rw[w9,w8,ers,ee,w7];unfold Rk;rw[Yc ()];grind
  .rcases z with ⟨z,_⟩|⟨_,z⟩
   .nofun
   .exact nx z
theorem Sx.sub{a:Nat}{p q:Int×Int}(hp:p.2≠0)(hq:q.2≠0)(h1:Sx a p)(h2:Sx b q):Sx (a+b) (qi p q):=by
 obtain⟨m,e1,l1⟩:=h1;obtain⟨n,e2,l2⟩:=h2;refine⟨m-n,?_,Yg (Int.natAbs_sub_le m n) (Nat.add_le_add l1 l2)⟩;rw[wO hp hq,e1,e2,Rat.intCast_sub];grind
def D6(c:mO):Prop:=(Fq c.1/\Fq c.2/\0<c.2.1)/\(Bq 100 c.1/\Bq 10 c.2)/\Sx 300 c.1/\Sx 36 c.2
inductive iZ (K:Sf)(vs:List V)(H:Hp)(Q:VK)(E:XK):Prop
 | mk (st:Addr):vs=[.ref st]->dz (vw K H) st->(∀(p ca:Addr)(v:V) H' (cs:List mO)(c:Int×Int),eJ st (vw K H) (vw K H')->dz (vw K H') st->vw K H' p=some (.tup [v,.ref ca])->aI (vw K H') (fr c) v->Fq c->Bq 100 c->gr (vw K H') ca (cs.map qZ)->(∀c∈cs,D6 c)->1<=cs.length->cs.length<=5->Q (.ref p) H')->iZ K vs H Q E
theorem tW(F:Se K "_law_even_crowd" i9 f fd)(T:dS K mg)(zCsmall:⟨⟩ "_law_small" ["_law_state_here"] 3 (eA K))(zCabove:⟨⟩ "_law_above" ["_law_state_here"] 3 (mL K))(zCtake:⟨⟩ "_law_take" ["_law_state_here","_law_many"] 1 (dJ K))(zCplus:⟨⟩ "_law_plus" ["_law_one","_law_other"] 3 (dW K))(zCminus:⟨⟩ "_law_minus" ["_law_one","_law_other"] 3 (pA K)):#[] 4 f fd ["_law_state_here"] (iZ K):=by
 have scN:=mR.nd;refine F.okQ mR ?_ ?_;walk_at "q"
 .obtain⟨_,rfl,_⟩:=h;rfl
 .obtain⟨st,rfl,hst,h⟩:=h;refine⟨_,(ae (L4 (i:=1) (Sd zCsmall (aa (qv 0) ac)))
   (ae (L4 (i:=2) (aS ac))
   (ae (bQ (aD dY (Sd zCtake (aa (qv 0) (aa af ac))) af (aC _)) (ag (L4 (i:=2) (aS (aa (aT (aa (qv 1) (aa (Sd zCabove (aa (qv 0) ac)) ac))) ac)))) aL)
   (ae (L4 (i:=3) (Sd zCabove (aa (qv 0) ac)))
   (ae (cL PassesOwn.never rfl (cn rfl T.b_range (aa (aq aW af (Sd zCtake (aa (qv 0) (aa af ac)))) ac)) (L3 (i:=4)) (ae (L4 (i:=5) (Sd zCabove (aa (qv 0) ac)))
   (ae (L4 (i:=2) (aq aW (aq aW (aS (aa (aT (aa (Sd zCminus (aa (qv 1) (aa (qv 3) ac))) (aa (qv 5) ac))) ac)) (qv 2)) (aS (aa (aT (aa (Sd zCplus (aa (qv 1) (aa (qv 3) ac))) (aa (qv 5) ac))) ac))))
   (ag (L4 (i:=3) (Sd zCplus (aa (qv 3) (aa (Sd zCabove (aa (qv 0) ac)) ac))))))))
   (ag (av (aT (aa (qv 1) (aa (qv 2) ac)))))))))),?_⟩
  walk_at"m";skip
  have flt:∀{q:Int×Int}{v:V}{G G':Hp},aI G (fr q) v->dz G st->eJ st G G'->aI G' (fr q) v:=λr hs B=>by
   obtain⟨_,_,e,_⟩:=hs;exact aI.flat_but e B _ _ (ci _) r
  walk_at"1"
  simp only[eA];refine⟨st,rfl,hst,λv1 H1 c B1 st1 r1 fc b11 b12 x1=>hN1 _ _ ?_⟩;have bc:Bq 10 c:=⟨b11,b12⟩;walk_at"2"
  refine⟨∅,λa2 H2 ha2 S2 h2=>hN2 _ _ ?_⟩;refine aK.gen λN3 hN3=>?_;have key:∀(ca:Addr)(cs:List mO)(H3:Hp),eJ st (vw K H) (vw K H3)->dz (vw K H3) st->gr (vw K H3) ca (cs.map qZ)->aI (vw K H3) (fr c) v1->(∀c∈cs,D6 c)->cs.length<=1->N3 [some (.ref st),some v1,some (.ref ca),none,none,none] H3:=by
   intro ca cs H3 B3 st3 l3 r3 ok3 ln3;refine hN3 _ _ ?_;walk_at"4"
   refine⟨st,rfl,st3,λv4 H4 o4 B4 st4 r4 f4 p4 b4 x4=>hN4 _ _ ?_⟩;walk_at"5"
   simp only[dJ];refine⟨st,2,rfl,st4,∅,∅,λn H5 n0 n1 B5 st5=>?_⟩;obtain⟨Pv,hPv⟩:∃Pv:Nat->St->Hp->Prop,∀i σ H',Pv i σ H'↔X6 λ(ca:Addr)(cs:List mO)(v:V)(o:Int×Int)(o5 o6:Option V)=>σ=[some (.ref st),some v1,some (.ref ca),some v,o5,o6]/\eJ st (vw K H) (vw K H')/\dz (vw K H') st/\gr (vw K H') ca (cs.map qZ)/\aI (vw K H') (fr c) v1/\aI (vw K H') (fr o) v/\Fq o/\Bq (10+12*i) o/\Sx (36+36*i) o/\(∀c∈cs,D6 c)/\cs.length<=1+2*i/\2*i<=cs.length:=⟨_,λ_ _ _=>XH⟩;rw[ky];refine⟨_,rfl,(),(),bY (its:=eF 0 (1+n).toNat) Pv (λ_ _ _ _ _=>aU) ((hPv _ _ _).mpr ⟨ca,cs,v4,o4,_,_,rfl,(B3.trans B4).trans B5,st5,(l3.stBut (cX cs) (gT cs) st3 B4).stBut (cX cs) (gT cs) st4 B5,flt (flt r3 st3 B4) st4 B5,flt r4 st4 B5,f4,b4,x4,ok3,(),()⟩) (λi x σ H6 hi hx pv=>?_) (λσ H6 pv=>hN5 _ _ ?_)⟩
   .obtain⟨ca,cs,v,o,o5,o6,rfl,B6,st6,l6,r6,ro6,fo,bo,xo,ok6,n61,n62⟩:=(hPv _ _ _).mp pv;rw[bU] at hi;have i2:i<=1:=();refine aK.gen λN6 hN6=>?_;symm
    refine⟨st,rfl,st6,λv7 H7 q7 B7 st7 r7 f7 p7 b7 x7=>hN6 _ _ ?_⟩;have l7:=l6.stBut (cX cs) (gT cs) st6 B7;have rc7:=flt r6 st6 B7;have ro7:=flt ro6 st6 B7;refine aK.gen λN7 hN7=>?_;symm
    refine⟨_,_,c,o,rfl,rc7,ro7,fc.ne,fo.ne,bc.mono ∅,bo.mono (),(bc.2.mul bo.2).mono (),λv8 H8 S8 r8=>⟨∅,λp9 H9 hp9 S9 h9=>⟨∅,λp10 H10 hp10 S10 h10=>?_⟩⟩⟩;show gz K (.ref p10) (.ref ca) H10 _;rw[dR];obtain⟨xs,hxs,rxs⟩:=id l7;have S710:=S8.trans (S9.trans S10);have lxs:xs.length=cs.length:=by rw[rxs.length,YF]
    have sz:1000<=sizeLine:=∅;refine⟨_,h10,_,S710 _ _ hxs,by simp;nofun,λp11 H11 hp11 S11 h11=>?_⟩
    have S711:=S710.trans S11;simp only[dW];refine⟨_,_,c,o,rfl,aI.same S711 _ _ rc7,aI.same S711 _ _ ro7,fc.ne,fo.ne,bc.mono ∅,bo.mono (),(bc.2.mul bo.2).mono (),λv12 H12 S12 r12=>⟨∅,λp13 H13 hp13 S13 h13=>⟨∅,λp14 H14 hp14 S14 h14=>?_⟩⟩⟩;show gz K (.ref p11) (.ref p14) H14 _;rw[dR];have S1114:=S12.trans (S13.trans S14);refine⟨_,S1114 _ _ h11,_,h14,by simp;nofun,λp15 H15 hp15 S15 h15=>hN7 _ _ ?_⟩
    have S715:=S711.trans (S1114.trans S15);have l15:gr (vw K H15) p15 (((qi c o,q7)::cs++[(mh c o,q7)]).map qZ):=by
     refine⟨_,h15,?_⟩;rw[XI];exact (aF.mk_cons (.mk_spt ((S10.trans (S11.trans (S1114.trans S15))) _ _ h9) (aI.same (S9.trans (S10.trans (S11.trans (S1114.trans S15)))) _ _ r8) (aI.same S715 _ _ r7)) (rxs.same S715)).snoc (.mk_spt ((S14.trans S15) _ _ h13) (aI.same (S13.trans (S14.trans S15)) _ _ r12) (aI.same S715 _ _ r7))
    have st15:=st7.same S715;symm
    refine⟨st,rfl,st15,λv16 H16 q16 B16 st16 r16 f16 p16 b16 x16=>?_⟩;have l16:=l15.stBut (cX _) (gT _) st15 B16;simp only[dW];refine⟨_,_,o,q16,rfl,flt (aI.same S715 _ _ ro7) st15 B16,r16,fo.ne,f16.ne,bo.mono (),b16.mono ∅,(bo.2.mul b16.2).mono (),λv17 H17 S17 r17=>(hPv _ _ _).mpr ⟨p15,_,v17,mh o q16,_,_,rfl,(((B6.trans B7).same_trans S715).trans B16).same_trans S17,st16.same S17,l16.same S17,aI.same S17 _ _ (flt (aI.same S715 _ _ rc7) st15 B16),r17,fY fo f16,(ja fo f16 bo b16).mono (),(Sx.add fo.ne f16.ne xo x16).mono (),λd hd=>?_,by simp;nofun,by simp;nofun⟩⟩
    rcases List.mem_append.mp hd with hd|hd
    .rcases Y2.mp hd with rfl|hd
     .exact⟨⟨ub fc fo,f7,p7⟩,⟨(Gh fc fo bc bo).mono (),b7⟩,(Sx.sub fc.ne fo.ne x1 xo).mono (),x7⟩
     .exact ok6 d hd
    .cases List.mem_singleton.mp hd;exact⟨⟨fY fc fo,f7,p7⟩,⟨(ja fc fo bc bo).mono (),b7⟩,(Sx.add fc.ne fo.ne x1 xo).mono (),x7⟩
   .obtain⟨ca,cs,v,o,o5,o6,rfl,B6,st6,l6,r6,ro6,fo,bo,xo,ok6,n61,n62⟩:=(hPv _ _ _).mp pv;rw[bU] at n61 n62;symm
    exact⟨∅,λp9 H9 hp9 S9 h9=>h p9 ca v1 H9 cs c (B6.same_trans S9) (st6.same S9) h9 (aI.same S9 _ _ r6) fc (bc.mono ∅) (l6.same S9) ok6 () ()⟩
  symm
  have st2:=st1.same S2;simp only[dJ];refine⟨st,2,rfl,st2,∅,∅,λn H3 n0 n1 B3 st3=>⟨rfl,?_⟩⟩;have r3:=flt (aI.same S2 _ _ r1) st2 B3;have B03:=(B1.same_trans S2).trans B3;refine cK (λhc=>?_) (λhc=>?_)
  .skip
   refine⟨st,rfl,st3,λv4 H4 q4 B4 st4 r4 f4 p4 b4 x4=>⟨∅,λp5 H5 hp5 S5 h5=>⟨∅,λp6 H6 hp6 S6 h6=>?_⟩⟩⟩;have S56:=S5.trans S6;have r6:=aI.same S56 _ _ (flt r3 st3 B4);exact key p6 [(c,q4)] H6 ((B03.trans B4).same_trans S56) (st4.same S56) ⟨_,h6,.mk_cons (.mk_spt (S6 _ _ h5) r6 (aI.same S56 _ _ r4)) .mk_nil⟩ r6 (λd hd=>by cases List.mem_singleton.mp hd;exact⟨⟨fc,f4,p4⟩,⟨bc.mono ∅,b4⟩,x1.mono ∅,x4⟩) (by simp)
  .exact key a2 [] H3 B03 st3 ⟨[],B3 _ _ (st1.ne ha2) h2,.mk_nil⟩ r3 (by simp) (by simp)
theorem F0{c:mO}{x:V}(r:aI G (qZ c) x):∃p u w,x=.ref p/\G p=some (.tup [u,w])/\aI G (fr c.1) u/\aI G (fr c.2) w:=by
 obtain⟨p,ys,rfl,hp,r⟩:=r.tup_at;obtain⟨d1,d2,u,w,e,rfl,ru,rw'⟩:=r.pair (by rw[r.length];rfl)
 cases e;exact⟨p,u,w,rfl,hp,ru,rw'⟩
inductive jh (K:Sf)(vs:List V)(H:Hp)(Q:VK)(E:XK):Prop
 | mk (st:Addr)(m:Nat):vs=[.ref st,.int m]->m<=6->1<=m->dz (vw K H) st->(∀(a:Addr)(H':Hp)(cs:List mO),eJ st (vw K H) (vw K H')->dz (vw K H') st->gr (vw K H') a (cs.map qZ)->(∀c∈cs,Fq c.1/\Fq c.2/\0<c.2.1)->(∀c∈cs,Bq 100 c.1/\Bq 10 c.2)->(∀c∈cs,Sx 300 c.1/\Sx 36 c.2)->1<=cs.length->cs.length<=m->Q (.ref a) H')->jh K vs H Q E
theorem sX(F:Se K "_law_spot_crowd" ji f fd)(T:dS K mg)(zCsmall:⟨⟩ "_law_small" ["_law_state_here"] 3 (eA K))(zCabove:⟨⟩ "_law_above" ["_law_state_here"] 3 (mL K))
  (zCcrowd:⟨⟩ "_law_crowd" ["_law_state_here","_law_most"] 4 (pB K)):#[] 5 f fd ["_law_state_here","_law_most"] (jh K):=by
 have scN:=mW.nd;refine F.okQ mW ?_ ?_;walk_at "q"
 .obtain⟨_,_,rfl,_⟩:=h;rfl
 .obtain⟨st,m,rfl,hm,hm1,hst,h⟩:=h;refine⟨_,(ae (L4 (i:=2) (Sd zCcrowd (aa (qv 0) (aa (qv 1) ac))))
   (ae (bQ (aD (qQ hr.ul) (qv 2) (aS ac) (aC _)) (ag (L4 (i:=2) (aS (aa (aT (aa (Sd zCsmall (aa (qv 0) ac)) (aa (Sd zCabove (aa (qv 0) ac)) ac))) ac)))) aL)
   (ag (av (qv 2))))),?_⟩
  walk_at"m";walk_at"1"
  refine⟨st,m,rfl,hm,hst,λa H1 cs B1 st1 l1 f1 b1 s1 _ n1 hn1=>hN1 _ _ ?_⟩;obtain⟨xs,hxs,rxs⟩:=id l1;have lxs:xs.length=cs.length:=by rw[rxs.length,YF]
  walk_at"2"
  refine⟨∅,λe2 H2 he2 S2 h2=>⟨e2,rfl,xs,S2 _ _ hxs,h2,?_⟩⟩;have st2:=st1.same S2;refine cK (λhc=>?_) (λhc=>hN2 _ _ ?_)
  .simp only[eA];refine⟨st,rfl,st2,λv3 H3 q3 B3 st3 r3 f3 b31 b32 s3=>⟨st,rfl,st3,λv4 H4 q4 B4 st4 r4 f4 g4 b4 s4=>⟨∅,λt5 H5 ht5 S5 h5=>⟨∅,λl6 H6 hl6 S6 h6=>hN2 _ _ ?_⟩⟩⟩⟩;obtain⟨_,_,e,_⟩:=id st3;have r34:=aI.flat_but e B4 _ _ (ci _) r3;symm
   refine h l6 H6 [(q3,q4)] ((B1.same_trans S2).trans (B3.trans (B4.same_trans (S5.trans S6)))) (st4.same (S5.trans S6)) ⟨_,h6,.mk_cons (.mk_tup (S6 _ _ h5) (.mk_cons (aI.same (S5.trans S6) _ _ r34) (.mk_cons (aI.same (S5.trans S6) _ _ r4) .mk_nil))) .mk_nil⟩ (λc hc=>?_) (λc hc=>?_) (λc hc=>?_) (by simp) (by simpa using hm1)
   .cases List.mem_singleton.mp hc;exact⟨f3,f4,g4⟩
   .cases List.mem_singleton.mp hc;exact⟨⟨b31.mono ∅,b32.mono ∅⟩,b4⟩
   .cases List.mem_singleton.mp hc;exact⟨s3.mono ∅,s4⟩
  .have hcs:1<=cs.length:=by
    rcases Nat.eq_zero_or_pos cs.length with z|z
    .rw[z] at lxs;have:xs=[]:=List.length_eq_zero_iff.mp lxs;subst this;exact absurd rfl hc
    .exact z
   symm
   exact h a H2 cs (B1.same_trans S2) st2 ⟨xs,S2 _ _ hxs,rxs.same S2⟩ f1 b1 s1 hcs n1
theorem Cd{q:Int×Int}(f:Fq q):0<q.1↔0<wv q:=by
 have c:=Rat.intCast_pos.mpr f.1;unfold wv;rw[Rat.lt_div_iff c];have c0:‹0›=0:=rfl;rw[show (0:Rat)*(q.2:Rat)=‹0› by rw[c0];grind]
 exact Rat.intCast_lt_intCast.symm
theorem y9:∀{cs:List mO},(∀c∈cs,0<wv c.2)->0<=kH cs 0
 | [],_=>by show (0:Rat)<=0;grind
 | c::cs,h=>by
  show 0<=wv c.2*1+kH cs 0;have:=h c Yj;have:=y9 λc hc=>h c (Yk _ hc);grind
theorem DU(h:∀c∈cs,0<wv c.2)(n:1<=cs.length):0<kH cs 0:=by
 cases cs with
 | nil=>simp at n
 | cons c cs =>
  show 0<wv c.2*1+kH cs 0;have:=h c Yj;have:=y9 λc hc=>h c (Yk _ hc);grind
theorem F6{q:Int×Int}(h:∀c∈cs,Sx 300 c.1/\Sx 36 c.2)(hl:cs.length<=6)(f:Fq q)(e:wv q=kH cs 0):Bq 10 q:=by
 obtain⟨n,e1,l1⟩:=pi (k:=0) h;have:cs.length*(36*AO 0)<=6*(36*AO 0):=Nat.mul_le_mul_right _ hl;have e9:6*(36*AO 0)=216:=∅;refine jA f (e.trans e1) ∅ ?_ ∅;unfold Bt;have:2^10=1024:=∅;nofun
inductive lE (K:Sf)(vs:List V)(H:Hp)(Q:VK)(E:XK):Prop
 | mk (st:Addr):vs=[.ref st]->dz (vw K H) st->(∀(p sa:Addr)(v:V) H' (qs:Lt)(c:Int×Int),eJ st (vw K H) (vw K H')->dz (vw K H') st->vw K H' p=some (.tup [.ref sa,v])->aP (vw K H') sa qs->aI (vw K H') (fr c) v->Fq c->Bq 170 c->1<=qs.length->qs.length<=11->(∀q∈qs,gn q)->Q (.ref p) H')->lE K vs H Q E
theorem xf(F:Se K "_law_odd_case" lh f fd)(T:dS K mg)(zCspot_crowd:⟨⟩ "_law_spot_crowd" ["_law_state_here","_law_most"] 5 (jh K))(zCsmall:⟨⟩ "_law_small" ["_law_state_here"] 3 (eA K))(zCtake:⟨⟩ "_law_take" ["_law_state_here","_law_many"] 1 (dJ K))(zCeven_crowd:⟨⟩ "_law_even_crowd" ["_law_state_here"] 4 (iZ K))(zCcrowd_sums:⟨⟩ "_law_crowd_sums" ["_law_crowd_here","_law_many"] 4 (gK K))(zCover:⟨⟩ "_law_over" ["_law_one","_law_other"] 3 (uv K)):#[] 6 f fd ["_law_state_here"] (lE K):=by
 have scN:=qT.nd;refine F.okQ qT ?_ ?_;walk_at "q"
 .obtain⟨_,rfl,_⟩:=h;rfl
 .obtain⟨st,rfl,hst,h⟩:=h;refine⟨_,(ae (L4 (i:=1) (Sd zCspot_crowd (aa (qv 0) (aa af ac))))
   (ae (L4 (i:=2) (Sd zCsmall (aa (qv 0) ac)))
   (ae (L4 (i:=3) (Sd zCtake (aa (qv 0) (aa af ac))))
   (ae (bQ (aD dY (qv 3) af (aC _)) (ag (L4 (i:=2) (aA b9 (aA cH (qv 1) (Sd zCtake (aa (qv 0) (aa (s!"" (aa (qv 1) ac)) ac))) ‹9›) af ‹9›))) aL)
   (ae (bQ (aD dY (qv 3) af (aC _)) (ag (cJ (Sd zCeven_crowd (aa (qv 0) ac)) (aY (n:=2) rfl (au (L3 (i:=2)) (au (L3 (i:=1)) aX))))) aL)
   (ae (L4 (i:=4) (Sd zCcrowd_sums (aa (qv 1) (aa (aq aW af (aq aO af (Sd zCtake (aa (qv 0) (aa af ac))))) ac))))
   (ae (bQ (QW.pt (lC (aD dY (qv 3) af (aC _)) (i0 (aD dY (s!"" (aa (qv 4) ac)) af (aC _))))) (ag (L4 (i:=2) (Sd zCover (aa (aA cH (qv 4) af ‹9›) (aa (aA cH (qv 4) af ‹9›) ac))))) aL)
   (ag (av (aT (aa (qv 4) (aa (qv 2) ac)))))))))))),?_⟩
  walk_at"m";skip
  have flt:∀{q:Int×Int}{v:V}{G G':Hp},aI G (fr q) v->dz G st->eJ st G G'->aI G' (fr q) v:=λr hs B=>by
   obtain⟨_,_,e,_⟩:=hs;exact aI.flat_but e B _ _ (ci _) r
  walk_at"1"
  refine⟨st,5,rfl,∅,∅,hst,λa1 H1 cs B1 st1 l1 f1 b1 s1 n11 n12=>hN1 _ _ ?_⟩;walk_at"2"
  simp only[eA];refine⟨st,rfl,st1,λv2 H2 q2 B2 st2 r2 f2 b21 b22 _=>hN2 _ _ ?_⟩;have l2:=l1.stBut (cX cs) (gT cs) st1 B2;walk_at"3"
  simp only[dJ];refine⟨st,4,rfl,st2,∅,∅,λwy H3 w30 w31 B3 st3=>hN3 _ _ ?_⟩;have l3:=l2.stBut (cX cs) (gT cs) st2 B3;have r3:=flt r2 st2 B3;have B03:=(B1.trans B2).trans B3;have ok3:∀c∈cs,D6 c:=λc hc=>⟨f1 c hc,b1 c hc,s1 c hc⟩;refine aK.gen λN4 hN4=>?_;have k4:∀(v:V)(c:Int×Int)(H4:Hp),eJ st (vw K H) (vw K H4)->dz (vw K H4) st->gr (vw K H4) a1 (cs.map qZ)->aI (vw K H4) (fr c) v->Fq c->Bq 100 c->N4 [some (.ref st),some (.ref a1),some v,some (.int wy),none] H4:=by
   intro v c H4 B4 st4 l4 r4 fc bc;refine hN4 _ _ ?_;refine aK.gen λN5 hN5=>?_;have k5:∀(ca:Addr)(cs:List mO)(v:V)(c:Int×Int)(H5:Hp),eJ st (vw K H) (vw K H5)->dz (vw K H5) st->gr (vw K H5) ca (cs.map qZ)->(∀c∈cs,D6 c)->1<=cs.length->cs.length<=5->aI (vw K H5) (fr c) v->Fq c->Bq 100 c->N5 [some (.ref st),some (.ref ca),some v,some (.int wy),none] H5:=by
    intro ca cs v c H5 B5 st5 l5 ok5 n51 n52 r5 fc bc;refine hN5 _ _ ?_;refine aK.gen λN6 hN6=>?_;symm
    simp only[dJ];refine⟨st,6,rfl,st5,∅,∅,λr6 H6 r60 r61 B6 st6=>?_⟩;have l6:=l5.stBut (cX cs) (gT cs) st5 B6;have r6v:=flt r5 st5 B6;symm
    refine⟨gF ∅,ca,cs,(1+2*r6).toNat,by rw[Int.toNat_of_nonneg ()],l6,(),(),λc hc=>⟨(ok5 c hc).1.1,(ok5 c hc).1.2.1,(ok5 c hc).2.1.1,(ok5 c hc).2.1.2⟩,λb7 H7 qs S7 l7 nb7 ln7 hq7=>hN6 _ _ ?_⟩
    have mv:∀i,i<qs.length->cf qs i=kH cs i:=λi hi=>by
     rw[aH (YU hi)];exact (hq7 i _ (YU hi)).2
    have s5:∀c∈cs,Sx 300 c.1/\Sx 36 c.2:=λc hc=>(ok5 c hc).2.2;have sq:∀q∈qs,gn q:=λq hq=>by
     obtain⟨k,hk⟩:=XQ hq;have kl:=(List.getElem?_eq_some_iff.mp hk).1;obtain⟨z1,z2⟩:=hq7 k q hk;exact⟨z1,(BO s5 () () z1 z2).mono ∅,yB s5 () z1 z2⟩
    refine aK.gen λN7 hN7=>?_;have fin:∀(v:V)(c:Int×Int)(H8:Hp),LE K H7 H8->aI (vw K H8) (fr c) v->Fq c->Bq 170 c->N7 [some (.ref st),some (.ref ca),some v,some (.int wy),some (.ref b7)] H8:=by
     intro v c H8 S8 r8 fc bc;refine hN7 _ _ ?_;symm
     refine⟨∅,λp9 H9 hp9 S9 h9=>h p9 b7 v H9 qs c (((B5.trans B6).same_trans S7).same_trans (S8.trans S9)) (st6.same (S7.trans (S8.trans S9))) h9 (l7.same (S8.trans S9)) (aI.same S9 _ _ r8) fc bc () () sq⟩
    symm
    have f0:=fin v c H7 .rfl (aI.same S7 _ _ r6v) fc (bc.mono ∅);refine cK (λ_=>⟨_,l7.len,cK (λe3=>?_) (λ_=>f0)⟩) (λ_=>f0);have q3:qs.length=3:=();obtain⟨ys,hys,rys⟩:=id l7;have at_:∀i (hi:i<qs.length),∃x,ys[i]? = some x/\aI (vw K H7) (fr qs[i]) x:=λi hi=>rys.at (by rw[YC,YU hi];rfl)
    obtain⟨va,ea,ra⟩:=at_ 1 ();obtain⟨vb,eb,rb⟩:=at_ 0 ();obtain⟨f0',w0⟩:=hq7 0 _ (YU ());have f1':=(sq _ (YT (show 1<qs.length by nofun)))
    have b0:=F6 s5 () f0' w0;have nz:qs[0].1≠0:=by
     have:=(Cd f0').mpr (by rw[w0];exact DU (λd hd=>(Cd (ok5 d hd).1.2.1).mp (ok5 d hd).1.2.2) n51)
     nofun
    refine⟨ys,hys,va,bA (j:=1) ea,ys,hys,vb,bA (j:=0) eb,?_⟩;exact⟨_,_,qs[1],qs[0],rfl,ra,rb,f1'.1.ne,f0'.ne,nz,f1'.2.1.mono ∅,b0.mono ∅,(f1'.2.1.2.mul b0.1).mono ∅,λv8 H8 S8 r8=>fin v8 _ H8 S8 r8 (uB f1'.1 nz) ((yM f1'.1 nz f1'.2.1 b0).mono ∅)⟩
   symm
   refine cK (λ_=>?_) (λ_=>k5 a1 cs v c H4 B4 st4 l4 ok3 n11 n12 r4 fc bc);exact⟨st,rfl,st4,λp5 ca5 v5 H5 cs5 c5 B5 st5 h5 r5 f5 b5 l5 ok5 n51 n52=>⟨_,rfl,_,h5,rfl,_,_,rfl,_,_,rfl,rfl,k5 ca5 cs5 v5 c5 H5 (B4.trans B5) st5 l5 ok5 n51 n52 r5 f5 b5⟩⟩
  symm
  obtain⟨xs,hxs,rxs⟩:=id l3;have lxs:xs.length=cs.length:=by rw[rxs.length,YF]
  refine cK (λ_=>⟨xs.length,by simp only[el,hxs],?_⟩) (λ_=>k4 v2 q2 H3 B03 st3 l3 r3 f2 (Bq.mono (m:=10) ⟨b21,b22⟩ ∅))
  simp only[dJ];refine⟨st,_,rfl,st3,(),(),λt H4 t0 t1 B4 st4=>?_⟩;have l4:=l3.stBut (cX cs) (gT cs) st3 B4;obtain⟨ys,hys,rys⟩:=id l4;obtain⟨j,rfl⟩:∃j:Nat,t=(j:Int):=⟨t.toNat,()⟩;have hj:j<cs.length:=();obtain⟨x,ex,rx⟩:=rys.at (i:=j) (d:=qZ cs[j]) (by rw[YC,YU hj];rfl)
  obtain⟨p,u,w',rfl,hp,ru,_⟩:=F0 rx;have oj:=ok3 _ (YT hj);exact⟨_,rfl,ys,hys,_,bA ex,p,rfl,_,hp,_,dN,k4 u cs[j].1 H4 (B03.trans B4) st4 l4 ru oj.1.1 oj.2.1.1⟩
inductive nQ (K:Sf)(vs:List V)(H:Hp)(Q:VK)(E:XK):Prop
 | mk (a b:Addr)(us rs:Lt)(d n:Nat)(D:Int):vs=[.ref a,.ref b,.int n]->aP (vw K H) a us->aP (vw K H) b rs->rs.length=d+1->d<=6->n<=20->us.length<=40->(∀q∈us,Fq q)->(∀q∈rs,Fq q)->D≠0->Bt 4400 D->Ob D 4403 (cf us)->Ob D 4400 (cf rs)->(∀(c:Addr) H' ts,LE K H H'->vw K H c=none->aP (vw K H') c ts->ts.length=n->(∀q∈ts,Fq q)->(∀k,k<n -> ∃z:Int,cf ts k=(z:Rat)/‹D^(k+1)›/\Bt (4420*(k+1)) z)->(∀k,k<n->iy (cf us) (cf rs) d (cf ts) k)->Q (.ref c) H')->nQ K vs H Q E
theorem AM(F:Se K "_law_falling" ni f fd)(T:dS K mg)(zCminus:⟨⟩ "_law_minus" ["_law_one","_law_other"] 3 (pA K))(zCtimes:⟨⟩ "_law_times" ["_law_one","_law_other"] 3 (dP K)):#[] 4 f fd ["_law_upper","_law_under","_law_many"] (nQ K):=by
 have scN:=sD.nd;refine F.okQ sD ?_ ?_;walk_at "q"
 .obtain⟨_,_,_,_,_,_,_,rfl,_⟩:=h;rfl
 .obtain⟨a,b,us,rs,d,n,D,rfl,ha,hb,lr,d6,n20,lu,fu,fr',D0,bD,oU,oR,h⟩:=h;refine⟨_,(ae (L4 (i:=3) (aq cp (s!"" (aa (qv 1) ac)) af))
   (ae (L4 (i:=4) (aS ac))
   (ae (cL PassesOwn.never rfl (cn rfl T.b_range (aa (qv 2) ac)) (L3 (i:=5)) (ae (L4 (i:=6) (aT (aa af (aa af ac))))
   (ae (bQ (vE yz mD af (aq cp (aq cp (qv 3) af) (qv 5)) (s!"" (aa (qv 0) ac)) (zK _ _)) (ag (L4 (i:=6) (aA cH (qv 0) (aq cp (aq cp (qv 3) af) (qv 5)) ‹9›))) aL)
   (ae (cL PassesOwn.never rfl (ny rfl T.b_range (aa af (aa (aq aW (ai (sA rfl) (by rfl) T.b_min Bu (aa (qv 5) (aa (qv 3) ac))) af) ac))) (L3 (i:=7)) (ag (L4 (i:=6) (Sd zCminus (aa (qv 6) (aa (Sd zCtimes (aa (aA cH (qv 1) (aq cp (qv 3) (qv 7)) ‹9›) (aa (aA cH (qv 4) (aq cp (qv 5) (qv 7)) ‹9›) ac))) ac))))))
   (ag (iu (pX XM XR XS fA (qv 4) (aa (qv 6) ac))))))))
   (ag (av (qv 4)))))),?_⟩
  walk_at"m";skip
  walk_at"1"
  refine⟨_,hb.len,hN1 _ _ ?_⟩;rw[show ((rs.length:Nat):Int)-1=(d:Int) by nofun]
  walk_at"2"
  refine⟨∅,λc1 H1 hc1 S1 h1=>hN2 _ _ ?_⟩;walk_at"3"
  obtain⟨us',hus,rus⟩:=id ha;obtain⟨rs',hrs,rrs⟩:=id hb;have lus:us'.length=us.length:=by rw[rus.length,YF]
  have lrs:rs'.length=rs.length:=by rw[rrs.length,YF]
  obtain⟨Pv,hPv⟩:∃Pv:Nat->St->Hp->Prop,∀k σ H',Pv k σ H'↔X4 λ(ts:Lt)(o5 o6 o7:Option V)=>σ=[some (.ref a),some (.ref b),some (.int n),some (.int d),some (.ref c1),o5,o6,o7]/\LE K H H'/\aP (vw K H') c1 ts/\ts.length=k/\(∀q∈ts,Fq q)/\(∀k,k<ts.length -> ∃z:Int,cf ts k=(z:Rat)/‹D^(k+1)›/\Bt (4420*(k+1)) z) /\ ∀k,k<ts.length->iy (cf us) (cf rs) d (cf ts) k:=⟨_,λ_ _ _=>XH⟩;refine⟨(),(),bY (its:=eF 0 _) Pv (λ_ _ _ _ _=>aU) ((hPv _ _ _).mpr ⟨[],_,_,_,rfl,S1,⟨[],h1,.mk_nil⟩,rfl,by simp,by simp,by simp⟩) (λk x σ H2 hk hx pv=>?_) (λσ H2 pv=>?_)⟩
  .obtain⟨ts,o5,o6,o7,rfl,S2,lt,lts,ft,bt,rt⟩:=(hPv _ _ _).mp pv;obtain⟨hk',rfl⟩:=cW hx;walk_at"4"
   refine⟨∅,λp3 H3 hp3 S3 h3=>hN4 _ _ ?_⟩;rw[XN];obtain⟨P,hP⟩:∃P:Int,P=D^(k+1):=⟨_,rfl⟩;have P0:P≠0:=by rw[hP];exact XD D0
   have cP:=ao P0;refine aK.gen λN5 hN5=>?_;have key:∀(v:V)(H4:Hp)(r:Int×Int)(o7:Option V),LE K H3 H4->aI (vw K H4) (fr r) v->Fq r->wv r=(if k<d then cf us (d-1-k) else 0)->N5 [some (.ref a),some (.ref b),some (.int n),some (.int d),some (.ref c1),some (.int k),some v,o7] H4:=by
    intro v H4 r o7 S4 rv fr0 wv0;refine hN5 _ _ ?_;refine aK.gen λN6 hN6=>?_;symm
    obtain⟨Pi,hPi⟩:∃Pi:Nat->St->Hp->Prop,∀j σ H',Pi j σ H'↔X3 λ(v:V)(r:Int×Int)(o7:Option V)=>σ=[some (.ref a),some (.ref b),some (.int n),some (.int d),some (.ref c1),some (.int k),some v,o7]/\LE K H4 H'/\aI (vw K H') (fr r) v/\Fq r/\wv r=(if k<d then cf us (d-1-k) else 0)-ap (λb=>cf rs (d-1-b)) (λb=>cf ts (k-1-b)) j /\ ∃z:Int,wv r=(z:Rat)/(P:Rat)/\z.natAbs*1024<=2^(4420*(k+1))*(1+j):=⟨_,λ_ _ _=>XH⟩
    have S34:=S2.trans (S3.trans S4);have lt4:=lt.same (S3.trans S4);obtain⟨mn,hmn⟩:∃mn,mn=min k d:=⟨_,rfl⟩;have emn:((if (d:Int)<(k:Int) then (d:Int) else (k:Int))+1-1).toNat=mn:=by split<;>nofun
    rw[emn];obtain⟨zs',hzs,rzs⟩:=id lt4;have big:(1:Nat)<=2^(4420*(k+1)):=Nat.one_le_two_pow;have c0:‹0›=0:=rfl;have start:∃z:Int,wv r=(z:Rat)/(P:Rat)/\z.natAbs*1024<=2^(4420*(k+1))*(1+0):=by
     rw[wv0];split
     .obtain⟨m,em,bm⟩:=oU (d-1-k);have bD':=bD.pow1 k;refine⟨m*D^k,?_,?_⟩
      .have c:=ao D0;have ck:=ao (show D^k≠0 from XD D0)
       rw[em,hP,XC,Xi,Xi];grind
      .have q:=bm.mul bD';unfold Bt at q;have e:2^(4420*(k+1))=2^(4403+(4400*k+1))*2^(20*k+16):=by rw[<-Y0];congr 1;nofun
       have e2:1024<=2^(20*k+16):=Yg (show 1024<=2^16 by decide) (YY ∅ ())
       rw[Nat.mul_one,e];exact Xt (Yh q) e2
     .exact⟨0,by rw[c0];grind,by simp⟩
    refine⟨∅,∅,by split<;>nofun,by split<;>nofun,bY (its:=eF 1 mn) Pi (λ_ _ _ _ _=>aU) ((hPi _ _ _).mpr ⟨v,r,_,rfl,.rfl,rv,fr0,by show _=_-0;grind,start⟩) (λj x σ H5 hj hx pj=>?_) (λσ H5 pj=>?_)⟩
    .obtain⟨v,r,o7,rfl,S5,rv,fr0,wv0,z,ez,bz⟩:=(hPi _ _ _).mp pj;obtain⟨hj',rfl⟩:=cW hx;have S05:=S34.trans S5;have jd:j+1<=d:=();have jk:j+1<=k:=();have h1:d-1-j<rs.length:=Mz ();have h2:k-1-j<ts.length:=KS () jk;obtain⟨v1,e1,r1⟩:=rrs.at (i:=d-1-j) (d:=fr rs[d-1-j]) (by rw[YC,YU h1];rfl)
     obtain⟨v2,e2,r2⟩:=rzs.at (i:=k-1-j) (d:=fr ts[k-1-j]) (by rw[YC,YU h2];rfl)
     have f1:=fr' _ (YT h1);have f2:=ft _ (YT h2);have w1:wv rs[d-1-j]=cf rs (d-1-j):=(aH (YU h1)).symm;have w2:wv ts[k-1-j]=cf ts (k-1-j):=(aH (YU h2)).symm;obtain⟨n1,en1,bn1⟩:=oR (d-1-j);obtain⟨z2,ez2,bz2⟩:=bt (k-1-j) h2;generalize hq1:rs[d-1-j]=q1 at r1 f1 w1;generalize hq2:ts[k-1-j]=q2 at r2 f2 w2;have bq1:Bq 4400 q1:=jA f1 (w1.trans en1) D0 bn1 bD;have bq2:Bq 88500 q2:=jA f2 (w2.trans ez2) (XD D0) (bz2.mono ()) ((bD.pow1 _).mono ());have bzB:Bt (4420*(k+1)) z:=by
      unfold Bt;have:=Xz (2^(4420*(k+1))) (Ll jd d6);nofun
     have bqr:Bq 89000 r:=jA fr0 ez P0 (bzB.mono ()) (by rw[hP];exact (bD.pow1 _).mono ())
     symm
     refine⟨rs',S05 _ _ hrs,v1,by rw[Mm jd];exact bA e1,zs',S5 _ _ hzs,v2,by rw[Mm jk];exact bA e2,?_⟩
     simp only[dP];refine⟨v1,v2,q1,q2,rfl,aI.same S05 _ _ r1,aI.same S5 _ _ r2,f1.ne,f2.ne,bq1.mono ∅,bq2.mono ∅,(bq1.2.mul bq2.2).mono ∅,λv6 H6 S6 r6=>?_⟩;have f6:=gG f1 f2;have w6:=i7 f1.ne f2.ne;have b6:Bq 92900 (mS q1 q2):=(kr f1 f2 bq1 bq2).mono ∅;generalize mS q1 q2=q6 at r6 f6 w6 b6;refine⟨v,v6,r,q6,rfl,aI.same S6 _ _ rv,r6,fr0.ne,f6.ne,bqr.mono ∅,b6.mono ∅,(bqr.2.mul b6.2).mono ∅,λv7 H7 S7 r7=>?_⟩;have ev:wv (qi r q6)=wv r-wv q1*wv q2:=by rw[wO fr0.ne f6.ne,w6]
     refine (hPi _ _ _).mpr ⟨v7,qi r q6,_,rfl,S5.trans (S6.trans S7),r7,ub fr0 f6,?_,z-n1*z2*D^j,?_,?_⟩
     .rw[ev,wv0,w1,w2];show _=_-(ap (λb=>cf rs (d-1-b)) (λb=>cf ts (k-1-b)) j+cf rs (d-1-j)*cf ts (k-1-j));grind
     .have c:=ao D0;have ca:=ao (show D^(k-1-j+1)≠0 from XD D0)
      have cb:=ao (show D^j≠0 from XD D0)
      have eP:(P:Rat)=(D:Rat)*‹D^(k-1-j+1)›*‹D^j›:=by
       rw[hP,<-Xi,<-Xi];congr 1
       rw[J8 jk,Int.pow_add,Int.pow_add,Int.pow_one]
      rw[ev,ez,w1,w2,en1,ez2,Rat.intCast_sub,Xi,Xi,eP];generalize ‹D^(k-1-j+1)›=x1 at ca ⊢;generalize ‹D^j›=x2 at cb ⊢;grind
     .have q:=(bn1.mul bz2).mul (bD.pow1 j);unfold Bt at q;have e:2^(4420*(k+1))=2^(4400+4420*(k-1-j+1)+(4400*j+1))*2^(19+20*j):=by rw[<-Y0];exact Yp _ (MG jk)
      have e2:1024<=2^(19+20*j):=Yg (show 1024<=2^19 by decide) (YY ∅ ())
      have e3:(n1*z2*D^j).natAbs*1024<=2^(4420*(k+1)):=by
       rw[e];exact Xt (Yh q) e2
      have e4:=Int.natAbs_sub_le z (n1*z2*D^j);have e5:2^(4420*(k+1))*(1+(j+1))=2^(4420*(k+1))*(1+j)+2^(4420*(k+1)):=by rw[<-XA,Nat.mul_succ]
      nofun
    .obtain⟨v,r,o7,rfl,S5,rv,fr0,wv0,z,ez,bz⟩:=(hPi _ _ _).mp pj;rw[bU] at wv0 bz;have bzB:Bt (4420*(k+1)) z:=by
      unfold Bt;have:=Xz (2^(4420*(k+1))) (show 1+mn<=7 by nofun)
      nofun
     refine hN6 _ _ ?_;symm
     have lt5:=lt4.same S5;obtain⟨ys,hys,rys⟩:=id lt5;have lys:ys.length=ts.length:=by rw[rys.length,YF]
     have S15:=S3.trans (S4.trans S5);have low:∀i,i<ts.length->cf (ts++[r]) i=cf ts i:=λi hi=>by rw[tI,Yc ()]
     have top:cf (ts++[r]) k=wv r:=by rw[tI,Yb ()]
     refine⟨iX hys,ys,hys,?_,λH6 B6 h6=>(hPv _ _ _).mpr ⟨ts++[r],_,_,_,rfl,λx o e=>B6 _ _ (aj e hc1) ((S34.trans S5) _ _ e),⟨_,h6,?_⟩,by rw[YE,lts];rfl,λq hq=>?_,λi hi=>?_,λi hi=>?_⟩⟩
     .have:1000<=sizeLine:=∅;nofun
     .rw[XI];exact (aF.flat_but hys B6 _ _ (cE _) rys).snoc (aI.flat_but hys B6 _ _ (ci _) rv)
     .rcases List.mem_append.mp hq with y|y
      .exact ft q y
      .rw[List.mem_singleton.mp y];exact fr0
     .rw[YE,YM] at hi;rcases Xw i ts.length with y|y
      .rw[low i y];exact bt i y
      .obtain rfl:i=k:=();rw[top,<-hP];exact⟨z,ez,bzB⟩
     .rw[YE,YM] at hi;rcases Xw i ts.length with y|y
      .have:=rt i y;unfold iy at this ⊢;rw[low i y,this];congr 1
       exact aE _ ‹9› (λb hb=>(low _ (Xy (Yg (Nat.sub_le _ _) (Nat.sub_le _ _)) y)).symm)
      .obtain rfl:i=k:=();unfold iy;rw[top,wv0,hmn];congr 1
       exact aE _ ‹9› (λb hb=>(low _ ()).symm)
   symm
   simp only[tu];symm
   have zero:¬ (k<d/\d-1-k<us.length)->N5 [some (.ref a),some (.ref b),some (.int n),some (.int d),some (.ref c1),some (.int k),some (.ref p3),o7] H3:=λhn=>key (.ref p3) H3 (0,1) o7 .rfl (bI h3) oB (by
    have z:wv (0,1)=0:=by decide +kernel
    rw[z];split
    .rw[aJ ()]
    .rfl)
   refine cK (λh0=>⟨_,(ha.same (S2.trans S3)).len,cK (λh1=>?_) (λh1=>zero ())⟩) (λh0=>zero ());have hkd:k<d:=();have hi:d-1-k<us.length:=();obtain⟨v,ev,rv⟩:=rus.at (i:=d-1-k) (d:=fr us[d-1-k]) (by rw[YC,YU hi];rfl)
   refine⟨us',(S2.trans S3) _ _ hus,v,by rw[show (d:Int)-1-(k:Int)=((d-1-k:Nat):Int) by nofun];exact bA ev,key v H3 _ o7 .rfl (aI.same (S2.trans S3) _ _ rv) (fu _ (YT hi)) (by rw[Yb hkd,aH (YU hi)])⟩
  .obtain⟨ts,o5,o6,o7,rfl,S2,lt,lts,ft,bt,rt⟩:=(hPv _ _ _).mp pv;refine hN3 _ _ ?_;symm
   rw[bU] at lts;have e:ts.length=n:=();exact h c1 H2 ts S2 hc1 lt e ft (λk hk=>bt k ()) (λk hk=>rt k ())
def i3(K:Sf):Sp:=λvs H Q _=>∃(a b:Addr)(es qs fs:Lt)(A B:Nat),vs=[.ref a,.ref b]/\aP (vw K H) a es/\(∃ext,es=qs++ext)/\aP (vw K H) b fs/\fs.length<=qs.length/\qs.length<=12/\(∀q∈qs,Fq q)/\(∀q∈fs,Fq q)/\Pb A (cf qs)/\Pb B (cf fs)/\A+B<=1960000 /\
 ∀v H' r,LE K H H'->aI (vw K H') (fr r) v->Fq r->wv r=ap (cf fs) (cf qs) fs.length->Q v H'
theorem FQ(F:Se K "_law_worth" sN f fd)(T:dS K mg)(zCplus:⟨⟩ "_law_plus" ["_law_one","_law_other"] 3 (dW K))(zCtimes:⟨⟩ "_law_times" ["_law_one","_law_other"] 3 (dP K)):#[] 4 f fd ["_law_sums_here","_law_f"] (i3 K):=by
 have scN:=yP.nd;refine F.okQ yP ?_ ?_;walk_at "q"
 .obtain⟨a,_,_,_,_,_,_,rfl,_⟩:=h;rfl
 .obtain⟨a,b,es,qs,fs,A1,B1,rfl,ha,⟨ext,hex⟩,hb,lf,lq,hq,hf,⟨D1,d1,d2,d3⟩,⟨E1,e1',e2',e3'⟩,ab,h⟩:=h;have bq:=Ob.bq d3 d1 d2 hq;have bf:=Ob.bq e3' e1' e2' hf;have hX:=Xg e1' d1;have bX:=e2'.mul d2;refine⟨_,(ae (L4 (i:=2) (aT (aa af (aa af ac))))
   (ae (cL PassesOwn.never rfl (cn rfl T.b_range (aa (s!"" (aa (qv 1) ac)) ac)) (L3 (i:=3)) (ag (L4 (i:=2) (Sd zCplus (aa (qv 2) (aa (Sd zCtimes (aa (aA cH (qv 1) (qv 3) ‹9›) (aa (aA cH (qv 0) (qv 3) ‹9›) ac))) ac))))))
   (ag (av (qv 2))))),?_⟩
  walk_at"m";symm
  obtain⟨xs,hxs,rxs⟩:=id ha;obtain⟨ys,hys,rys⟩:=id hb;refine⟨∅,λp0 H0 hp0 S0 h0=>⟨_,(hb.same S0).len,(),(),?_⟩⟩;obtain⟨Pv,hPv⟩:∃Pv:Nat->St->Hp->Prop,∀j σ H',Pv j σ H'↔X3 λ(v:V)(q:Int×Int)(u:Option V)=>σ=[some (.ref a),some (.ref b),some v,u]/\LE K H0 H'/\aI (vw K H') (fr q) v/\Fq q/\wv q=ap (cf fs) (cf qs) j:=⟨_,λ_ _ _=>XH⟩;refine bY (its:=eF 0 fs.length) Pv (λ_ _ _ _ _=>aU) ((hPv _ _ _).mpr ⟨_,(0,1),_,rfl,.rfl,bI h0,⟨∅,∅⟩,sx⟩) (λj x σ H2 hj hx pv=>?_) (λσ H2 pv=>?_)
  .obtain⟨v,q,u,rfl,S2,r2,f2,w2⟩:=(hPv _ _ _).mp pv;obtain⟨hj',rfl⟩:=cW hx;have hjq:j<qs.length:=();obtain⟨vi,e1,ri⟩:=rys.at (i:=j) (d:=fr fs[j]) (by rw[YC,YU hj'];rfl)
   obtain⟨xi,e2,rxi⟩:=rxs.at (i:=j) (d:=fr qs[j]) (by rw[YC,hex,YB hjq,YU hjq];rfl)
   have k1:=hf _ (YT hj');have k2:=bf _ (YT hj');have k3:=hq _ (YT hjq);have k4:=bq _ (YT hjq);have b2:Bq (A1+B1+12) q:=by
    obtain⟨m,em,bm⟩:=wR e1' d1 e3' d3 j;exact jA f2 (n:=m) (by rw[w2,em]) hX (bm.mono ()) (bX.mono ())
   have S02:=S0.trans S2;symm
   simp only[dP,dW];symm
   refine⟨_,S02 _ _ hys,vi,by rw[XN];exact bA e1,_,S02 _ _ hxs,xi,by rw[XN];exact bA e2,?_⟩
   refine⟨_,aI.same S02 _ _ ri,_,aI.same S02 _ _ rxi,k1.ne,k3.ne,k2.mono (),k4.mono (),(k2.2.mul k4.2).mono (),λv3 H3 S3 r3=>?_⟩;have f3:=gG k1 k3;have b3:=kr k1 k3 k2 k4;refine⟨_,aI.same S3 _ _ r2,_,r3,f2.ne,f3.ne,b2.mono (),b3.mono (),(b2.2.mul b3.2).mono (),λv4 H4 S4 r4=>(hPv _ _ _).mpr ⟨_,_,_,rfl,S2.trans (S3.trans S4),r4,fY f2 f3,?_⟩⟩;rw[lP f2.ne f3.ne,i7 k1.ne k3.ne,w2];show _=ap (cf fs) (cf qs) j+cf fs j*cf qs j;rw[aH (YU hj'),aH (YU hjq)]
  .obtain⟨v,q,u,rfl,S2,r2,f2,w2⟩:=(hPv _ _ _).mp pv;rw[bU] at w2;symm
   exact h v H2 q (S0.trans S2) r2 f2 w2
inductive uQ (K:Sf)(vs:List V)(H:Hp)(Q:VK)(E:XK):Prop
 | mk (a:Addr)(fs:Lt):vs=[.ref a]->aP (vw K H) a fs->fs.length<=40->(∀q∈fs,Fq q/\Bq 4800 q)->(∀d H' (rs:Lt),LE K H H'->aP (vw K H') d rs->vw K H d=none->bC rs->(∀k,cf rs k=((k+1:Nat):Int)*cf fs (k+1))->rs.length<=fs.length->Q (.ref d) H')->uQ K vs H Q E
theorem Ew(F:Se K "_law_slope" sO f fd)(T:dS K mg)(zCclean:⟨⟩ "_law_clean" ["_law_numbers"] 1 (i6 K))(zCtimes:⟨⟩ "_law_times" ["_law_one","_law_other"] 3 (dP K)):#[] 4 f fd ["_law_f"] (uQ K):=by
 have scN:=zM.nd;refine F.okQ zM ?_ ?_;walk_at "q"
 .obtain⟨a,_,rfl,_⟩:=h;rfl
 .obtain⟨a,fs,rfl,ha,lf,hf,h⟩:=h;refine⟨_,(ag (av (Sd zCclean (aa (cR (own:=["_law_place"]) (outs:=["_law_f"]) (ixs:=[0]) rfl (ny rfl T.b_range (aa af (aa (s!"" (aa (qv 0) ac)) ac))) rfl ‹7› (λ_ _ _ _=>⟨(am (i:=0) ‹["_law_place","_law_f"]› rfl (·)),cY,(Sd zCtimes (aa (aA (show wN _ (vd K) from cH) (qv 1) (qv 0) ‹9›) (aa (show QE _ _ (vY K _) from aT (aa (qv 0) (aa af ac))) ac)))⟩)) ac)))),?_⟩
  walk_at"m";symm
  obtain⟨xs,hxs,rxs⟩:=id ha;have hlx:xs.length=fs.length:=by rw[rxs.length,YF]
  refine⟨_,ha.len,(),(),(),(),λd H1 hd S1 h1=>?_⟩;rw[show ((fs.length:Int)-1).toNat=fs.length-1 by nofun]
  have f1:∀k:Nat,Fq (((k:Nat):Int),1):=λk=>⟨Int.one_pos,by simp⟩
  refine bH (its:=eF 1 (fs.length-1)) (λi zs H'=>LE K H H' /\ ∃vs:Lt,vs.length=i/\aF (vw K H') (vs.map fr) zs/\(∀q∈vs,Fq q) /\ ∀(j:Nat)(q:Int×Int),vs[j]? = some q->wv q=((j+1:Nat):Int)*cf fs (j+1))
   (λ_ _ _ _ _ _=>aU) h1 ⟨S1,[],rfl,.mk_nil,by simp,by simp⟩ (λi x zs H2 hi hx h2 p=>?_) (λzs H2 h2 p=>?_)
  .obtain⟨S2,vs,lv,rv,fv,hv⟩:=p;obtain⟨hi',rfl⟩:=cW hx;rw[show (1:Int)+(i:Int)=((i+1:Nat):Int) by nofun]
   have hi2:i+1<fs.length:=();obtain⟨x2,e2,r2⟩:=rxs.at (i:=i+1) (d:=fr fs[i+1]) (by rw[YC,YU hi2];rfl)
   obtain⟨k1,k2⟩:=hf fs[i+1] (YT hi2);have bi:Bq 10 (((i+1:Nat):Int),1):=by
    refine⟨?_,(by decide:Bt 10 1)⟩
    show (((i+1:Nat):Int)).natAbs<2^10;nofun
   symm
   refine⟨xs,S2 _ _ hxs,x2,bA e2,∅,λp3 H3 hp3 S3 h3=>?_⟩;simp only[dP];symm
   refine⟨_,aI.same (S2.trans S3) _ _ r2,_,bI h3,k1.ne,(f1 (i+1)).ne,k2.mono ∅,bi.mono ∅,(k2.2.mul bi.2).mono ∅,λv4 H4 S4 r4=>.mk ((S3.trans S4) _ _ h2) ?_ λH5 B5 h5=>⟨λb o e=>B5 _ _ (aj e hd) (S4 _ _ (S3 _ _ (S2 _ _ e))),vs++[mS fs[i+1] (((i+1:Nat):Int),1)],by simp[lv],?_,λq hq=>?_,λj q e=>?_⟩⟩
   .rw[rv.length,YF,lv];have:1000<=sizeLine:=∅;nofun
   .rw[XI];exact (aF.flat_but ((S3.trans S4) _ _ h2) B5 _ _ (cE vs) (rv.same (S3.trans S4))).snoc (aI.flat_but ((S3.trans S4) _ _ h2) B5 _ _ (ci _) r4)
   .rcases List.mem_append.mp hq with z|z
    .exact fv q z
    .cases List.mem_singleton.mp z;exact gG k1 (f1 (i+1))
   .by_cases hj:j<vs.length
    .rw[YB hj] at e;exact hv j q e
    .have hj2:j=i:=by
      have:=(List.getElem?_eq_some_iff.mp e).1;simp at this;nofun
     subst hj2;rw[Yz (),lv,XF] at e;cases e;rw[i7 k1.ne (f1 (j+1)).ne,aH (YU hi2)];have e1:wv (((j+1:Nat):Int),1)=((j+1:Nat):Int):=by
      show ‹(j+1:Nat)›/‹1›=_;have:‹1›=1:=rfl;rw[this];grind
     rw[e1];grind
  .obtain⟨S2,vs,lv,rv,fv,hv⟩:=p;rw[bU] at lv;symm
   simp only[i6];symm
   refine⟨vs,⟨zs,h2,rv⟩,λe H7 n' hn' hz hd' hnd S7 l7=>h e H7 (vs.take n') (S2.trans S7) l7 (S2.none hnd) (pP fv hz) (λk=>?_) (by rw[Yx];nofun)⟩
   rw[mw fv hd' k];by_cases hk:k<vs.length
   .rw[aH (YU hk)];exact hv k _ (YU hk)
   .rw[aJ (),aJ (qs:=fs) ()];grind
inductive gJ (K:Sf)(vs:List V)(H:Hp)(Q:VK)(E:XK):Prop
 | mk (p b w:Addr)(rs qs ws:Lt)(d n:Nat):vs=[.ref p,.int n]->vw K H p=some (.tup [.ref b,.ref w])->aP (vw K H) b rs->aP (vw K H) w ws->Gf rs qs ws d->n<=12->(∀(c:Addr) H' ts,LE K H H'->vw K H c=none->aP (vw K H') c ts->ts.length=n->(∀q∈ts,Fq q)->(∀k,k<n->k<qs.length->cf ts k=cf qs k)->(∀k,k+d<n->ap (cf rs) (λj=>cf ts (k+j)) (d+1)=0)->Q (.ref c) H')->gJ K vs H Q E
theorem uu(F:Se K "_law_flock_sums" jv f fd)(T:dS K mg)(zCfalling:⟨⟩ "_law_falling" ["_law_upper","_law_under","_law_many"] 4 (nQ K))(zCslope:⟨⟩ "_law_slope" ["_law_f"] 4 (uQ K))(zCworth:⟨⟩ "_law_worth" ["_law_sums_here","_law_f"] 4 (i3 K)):#[] 5 f fd ["_law_flock","_law_many"] (gJ K):=by
 have scN:=mr.nd;refine F.okQ mr ?_ ?_;walk_at "q"
 .obtain⟨_,_,_,_,_,_,_,_,rfl,_⟩:=h;rfl
 .obtain⟨p,b,w',rs,qs,ws,d,n,rfl,hp,hb,hw,fo,n12,h⟩:=h;obtain⟨lr,d6,one,po,br,pw,lw,bw,fw,orth⟩:=id fo;refine⟨_,(ae (cJ (qv 0) (aY (n:=2) rfl (au (L3 (i:=2)) (au (L3 (i:=3)) aX))))
   (ae (L4 (i:=4) (Sd zCfalling (aa (Sd zCslope (aa (qv 2) ac)) (aa (qv 2) (aa (aq aW (qv 1) (s!"" (aa (qv 3) ac))) ac)))))
   (ag (av (cR (own:=["_law_k"]) (outs:=["_law_weights","_law_powers"]) (ixs:=[3,4]) rfl (cn rfl T.b_range (aa (qv 1) ac)) rfl ⟨rfl,rfl,rfl,⟨rfl,⟨rfl,trivial⟩⟩,rfl,⟨⟨rfl,rfl,rfl,_,rfl⟩,⟨⟨rfl,rfl,rfl,_,rfl⟩,trivial⟩⟩⟩ (λ_ _ _ _=>⟨(am (i:=0) ‹["_law_k","_law_weights","_law_powers"]› rfl (·)),cY,(Sd zCworth (aa (eQ (show zP _ (Eu K) from fL) (qv 2) (fG (qv 0)) fZ) (aa (qv 1) ac)))⟩)))))),?_⟩
  walk_at"m";skip
  walk_at"1"
  refine⟨_,hp,rfl,_,_,rfl,_,_,rfl,rfl,hN1 _ _ ?_⟩;walk_at"2"
  refine⟨b,rs,rfl,hb,(),λq hq=>⟨po.1 q hq,(br.bq po.1 q hq).mono ∅⟩,λc1 H1 us S1 l1 n1 p1 e1 ln1=>?_⟩;refine⟨ws.length,(hw.same S1).len,?_⟩;rw[show (n:Int)+(ws.length:Int)=((n+ws.length:Nat):Int) by nofun]
  obtain⟨D,D0,bD,oD⟩:=id br;have oU:Ob D 4403 (cf us):=λk=>by
   by_cases hk:k<d
   .obtain⟨m,em,bm⟩:=oD (k+1);refine⟨((k+1:Nat):Int)*m,?_,((show Bt 3 (((k+1:Nat):Int)) by unfold Bt;nofun).mul bm).mono ∅⟩
    rw[e1,em,Xi];grind
   .refine⟨0,?_,J5⟩;have c0:‹0›=0:=rfl;rw[e1,aJ (),c0];grind
  refine⟨c1,b,us,rs,d,n+ws.length,D,rfl,l1,hb.same S1,lr,d6,(),(),p1.1,po.1,D0,bD,oU,oD,λc2 H2 ts S2 n2 l2 lt2 f2 v2 r2=>hN2 _ _ ?_⟩;obtain⟨T',hT⟩:=Gm (cf us) (cf rs) d;have eT:∀k,k<n+ws.length->cf ts k=T' k:=λk hk=>sr r2 (λk _=>hT k) (k+1) k () hk;have S02:=S1.trans S2;have cD:=ao D0;have bts:∀k l,Pb 160000 (cf ((ts.drop k).take l)):=λk l=>by
   refine⟨D^18,XD D0,(bD.pow1 18).mono ∅,λj=>?_⟩;by_cases hj:j<l/\k+j<ts.length
   .obtain⟨z,ez,bz⟩:=v2 (k+j) ();refine⟨z*D^(17-(k+j)),?_,(bz.mul (bD.pow1 (17-(k+j)))).mono ()⟩;have e:cf ((ts.drop k).take l) j=cf ts (k+j):=by
     have:((ts.drop k).take l)[j]? = ts[k+j]?:=by rw[Xo,Yb hj.1,Xp]
     rw[YU hj.2] at this;rw[aH this,aH (YU hj.2)]
    have ca:=ao (show D^(k+j+1)≠0 from XD D0)
    have cb:=ao (show D^(17-(k+j))≠0 from XD D0)
    have eP:‹D^18›=‹D^(k+j+1)›*‹D^(17-(k+j))›:=by
     rw[<-Xi,<-Int.pow_add];congr 2
     nofun
    rw[e,ez,eP,Xi];generalize ‹D^(k+j+1)›=x1 at ca ⊢;generalize ‹D^(17-(k+j))›=x2 at cb ⊢;grind
   .refine⟨0,?_,J5⟩;have c0:‹0›=0:=rfl;rw[aJ (by rw[Yx,YH];nofun),c0]
    grind
  obtain⟨xs,hxs,rxs⟩:=id l2;have lxs:xs.length=ts.length:=by rw[rxs.length,YF]
  symm
  refine⟨(),(),λc3 H3 hc3 S3 h3=>?_⟩;rw[Int.toNat_natCast];refine bH (its:=eF 0 n) (λi zs H'=>LE K H2 H' /\ ∃fs:Lt,aF (vw K H') (fs.map fr) zs/\fs.length=i/\(∀q∈fs,Fq q) /\ ∀k,k<fs.length->cf fs k=ap (cf ws) (λj=>T' (k+j)) d) (λ_ _ _ _ _ _=>aU) h3 ⟨S3,[],.mk_nil,rfl,by simp,by simp⟩ (λi x zs H4 hi hx h4 z=>?_) (λzs H4 h4 z=>?_)
  .obtain⟨S4,fs,rf,lf,ff,vf⟩:=z;obtain⟨hi',rfl⟩:=cW hx;rw[XN];symm
   refine⟨xs,S4 _ _ hxs,λp5 H5 hp5 S5 h5=>?_⟩;rw[mT ()] at h5;have S25:=S4.trans S5;have l5:aP (vw K H5) p5 (ts.drop i):=⟨_,h5,by rw[List.map_drop];exact (rxs.drop _).same S25⟩
   have lq:((ts.drop i).take 12).length=min 12 (n+ws.length-i):=by rw[Yx,YH,lt2]
   simp only[i3];refine⟨p5,w',ts.drop i,(ts.drop i).take 12,ws,160000,1760000,rfl,l5,⟨(ts.drop i).drop 12,(List.take_append_drop _ _).symm⟩,hw.same (S02.trans S25),(),(),λq hq=>f2 q (XT (Xs hq)),pw.1,bts i 12,bw,∅,λv H6 r S6 r6 f6 w6=>.mk ((S5.trans S6) _ _ h4) ?_ λH7 B7 h7=>⟨λx o e=>B7 _ _ (aj e hc3) ((S25.trans S6) _ _ e),fs++[r],?_,by rw[YE,lf];rfl,λq hq=>?_,λk hk=>?_⟩⟩
   .rw[rf.length,YF];have:1000<=sizeLine:=∅;nofun
   .rw[XI];exact (aF.flat_but ((S5.trans S6) _ _ h4) B7 _ _ (cE _) (rf.same (S5.trans S6))).snoc (aI.flat_but ((S5.trans S6) _ _ h4) B7 _ _ (ci _) r6)
   .rcases List.mem_append.mp hq with y|y
    .exact ff q y
    .rw[List.mem_singleton.mp y];exact f6
   .rw[YE,YM] at hk;rw[tI];by_cases e:k=fs.length
    .rw[Yb e,w6,e,lf];have m:=eD (f:=cf ws) (h:=λj=>T' (i+j)) (n:=ws.length) (λj hj=>by rw[aJ hj];grind) (d-ws.length)
     rw[show ws.length+(d-ws.length)=d by nofun] at m
     rw[m];refine aE _ ‹9› (λj hj=>?_);have hj2:i+j<ts.length:=();have:((ts.drop i).take 12)[j]? = some ts[i+j]:=by rw[Xo,Yb (),Xp,YU hj2]
     rw[aH this,<-aH (YU hj2),eT _ ()]
    .rw[Yc e];exact vf k ()
  .obtain⟨S4,fs,rf,lf,ff,vf⟩:=z;rw[bU] at lf;refine h c3 H4 fs (S02.trans S4) (S02.none hc3) ⟨_,h4,rf⟩ lf ff (λk hk hq=>?_) (λk hk=>?_)
   .rw[vf k ()];exact fw.sums lr () one e1 hT orth k hq
   .rw[<-rh (w:=cf ws) (n:=d) one hT k];exact aE _ ‹9› (λj hj=>vf _ ())
inductive lV (K:Sf)(vs:List V)(H:Hp)(Q:VK)(E:XK):Prop
 | mk (a b:Addr)(y:V)(fs gs:Lt)(c:Int×Int):vs=[.ref a,.ref b,y]->aP (vw K H) a fs->aP (vw K H) b gs->aI (vw K H) (fr c) y->fs.length<=40->gs.length<=40->(∀q∈fs,Fq q/\Bq 3600 q)->(∀q∈gs,Fq q/\Bq 900 q)->Fq c->Bq 3600 c->(∀d H' (rs:Lt),LE K H H'->aP (vw K H') d rs->vw K H d=none->bC rs->(∀k,cf rs k=cf fs k+cf gs k*wv c)->rs.length<=max fs.length gs.length->Q (.ref d) H')->lV K vs H Q E
theorem BW(F:Se K "_law_summed" qV f fd)(T:dS K mg)(zCclean:⟨⟩ "_law_clean" ["_law_numbers"] 1 (i6 K))(zCplus:⟨⟩ "_law_plus" ["_law_one","_law_other"] 3 (dW K))(zCtimes:⟨⟩ "_law_times" ["_law_one","_law_other"] 3 (dP K)):#[] 4 f fd ["_law_f","_law_g","_law_by"] (lV K):=by
 have scN:=wm.nd;refine F.okQ wm ?_ ?_;walk_at "q"
 .obtain⟨a,_,_,_,_,_,rfl,_⟩:=h;rfl
 .obtain⟨a,b,y,fs,gs,c,rfl,ha,hb,hy,lf,lg',hf,hg,fc,bc,h⟩:=h;refine⟨_,(ae (L4 (i:=3) (aq aW (fD fj (by rfl) T.b_list fN (aa (qv 0) ac)) (aq aO (aS (aa (aT (aa af (aa af ac))) ac)) (ai (kw rfl) (by rfl) T.b_max uw (aa af (aa (aq cp (s!"" (aa (qv 1) ac)) (s!"" (aa (qv 0) ac))) ac))))))
   (ae (cL PassesOwn.never rfl (cn rfl T.b_range (aa (s!"" (aa (qv 1) ac)) ac)) (L3 (i:=4)) (ag (cJ (Sd zCplus (aa (aA cH (qv 3) (qv 4) ‹9›) (aa (Sd zCtimes (aa (aA cH (qv 1) (qv 4) ‹9›) (aa (qv 2) ac))) ac))) (nZ (qv 3) (qv 4) dI))))
   (ag (av (Sd zCclean (aa (qv 3) ac)))))),?_⟩
  walk_at"m";symm
  obtain⟨xs,hxs,rxs⟩:=id ha;obtain⟨ys,hys,rys⟩:=id hb;refine⟨xs,hxs,λp1 H1 hp1 S1 h1=>⟨∅,λp2 H2 hp2 S2 h2=>⟨∅,λp3 H3 hp3 S3 h3=>?_⟩⟩⟩;have S03:=S1.trans (S2.trans S3);refine⟨_,(hb.same S03).len,_,(ha.same S03).len,?_⟩;obtain⟨m,hm,hmm⟩:∃m:Nat,(if (gs.length:Int)-(fs.length:Int) > 0 then (gs.length:Int)-(fs.length:Int) else 0)=(m:Int)/\fs.length+m=max fs.length gs.length:=by
   refine⟨gs.length-fs.length,?_,()⟩;split<;>nofun
  rw[hm,fH];refine⟨_,h3,(),(),?_,λp4 H4 hp4 S4 h4=>?_⟩
  .have:1000<=sizeLine:=∅;simp;nofun
  rw[show ((m:Nat):Int).toNat=m by nofun,iK] at h4
  rw[dR];have S14:=S2.trans (S3.trans S4);refine⟨_,S14 _ _ h1,_,h4,?_,λe H5 he S5 h5=>?_⟩
  .have:1000<=sizeLine:=∅;rw[rxs.length];simp;nofun
  have S04:=S1.trans S14;have S05:=S04.trans S5;have r2:aI (vw K H5) (fr (0,1)) (.ref p2):=bI ((S3.trans (S4.trans S5)) _ _ h2);have ne:vw K H e=none:=S04.none he;refine⟨_,(hb.same S05).len,(),(),?_⟩;obtain⟨Pv,hPv⟩:∃Pv:Nat->St->Hp->Prop,∀i σ H',Pv i σ H' ↔ ∃o4,σ=[some (.ref a),some (.ref b),some y,some (.ref e),o4]/\LE K H H' /\ ∃qs,aP (vw K H') e qs/\qs.length=max fs.length gs.length/\(∀q∈qs,Fq q/\Bq 8200 q)/\(∀k,cf qs k=cf fs k+if k<i then cf gs k*wv c else 0)/\(∀k q,i<=k->qs[k]? = some q->Bq 3600 q):=⟨_,λ_ _ _=>XH⟩
  have hq0:∀q∈fs++List.replicate m (0,1),Fq q/\Bq 3600 q:=λq hq=>by
   rcases List.mem_append.mp hq with z|z
   .exact hf q z
   .rw[(List.mem_replicate.mp z).2];exact⟨oB,D8 ∅⟩
  refine bY (its:=eF 0 gs.length) Pv (λ_ _ _ _ _=>aU) ((hPv _ _ _).mpr ⟨_,rfl,S05,fs++List.replicate m (0,1),⟨_,h5,?_⟩,by simp;nofun,λq hq=>⟨(hq0 q hq).1,(hq0 q hq).2.mono ()⟩,λk=>?_,λk q _ e'=>(hq0 q (YD e')).2⟩) (λi x σ H6 hi hx pv=>?_) (λσ H6 pv=>?_)
  .rw[XI,ku];exact (rxs.same S05).app (aF.repl r2 m)
  .rw[HX,Yc ()];grind
  .obtain⟨o4,rfl,S6,qs,l6,n6,f6,c6,b6⟩:=(hPv _ _ _).mp pv;obtain⟨hi',rfl⟩:=cW hx;rw[XN];obtain⟨zs,hzs,rzs⟩:=id l6;have hiq:i<qs.length:=();obtain⟨x1,e1,r1⟩:=rzs.at (i:=i) (d:=fr qs[i]) (by rw[YC,YU hiq];rfl)
   obtain⟨x2,e2,r2⟩:=rys.at (i:=i) (d:=fr gs[i]) (by rw[YC,YU hi'];rfl)
   obtain⟨k1,k2⟩:=f6 qs[i] (YT hiq);have k3:=b6 i qs[i] (Yr _) (YU hiq);obtain⟨g1,g2⟩:=hg gs[i] (YT hi');symm
   refine⟨zs,hzs,x1,bA e1,ys,S6 _ _ hys,x2,bA e2,?_⟩;simp only[dP];symm
   refine⟨_,aI.same S6 _ _ r2,c,aI.same S6 _ _ hy,g1.ne,fc.ne,g2.mono (),bc.mono (),(g2.2.mul bc.2).mono (),λv3 H7 S7 r3=>?_⟩;have f3:=gG g1 fc;have b3:=kr g1 fc g2 bc;simp only[dW];symm
   refine⟨_,aI.same S7 _ _ r1,_,r3,k1.ne,f3.ne,k3.mono (),b3.mono (),(k3.2.mul b3.2).mono (),λv4 H8 S8 r4=>?_⟩;have f4:=fY k1 f3;have b4:=ja k1 f3 k3 b3;have S68:=S7.trans S8;have hlz:zs.length=qs.length:=by rw[rzs.length,YF]
   refine⟨zs,S68 _ _ hzs,i,by rw[hlz];exact iC hiq,λH9 B9 h9=>(hPv _ _ _).mpr ⟨_,rfl,λx o e'=>B9 _ _ (aj e' ne) (S68 _ _ (S6 _ _ e')),qs.set i (mh qs[i] (mS gs[i] c)),aP.chg (S68 _ _ hzs) (rzs.same S68) r4 B9 h9,by rw[YJ];exact n6,λq hq=>?_,λk=>?_,λk q hk e'=>?_⟩⟩
   .rcases XO hq with z|z
    .exact f6 q z
    .rw[z];exact⟨f4,b4.mono ()⟩
   .rw[zH hiq];by_cases hk:k=i
    .subst hk;rw[Yb rfl,Yb (),lP k1.ne f3.ne,i7 g1.ne fc.ne,<-aH (YU hiq),<-aH (YU hi'),c6 k,Yc ()];grind
    .rw[Yc hk,c6 k];by_cases hk2:k<i
     .rw[Yb hk2,Yb ()]
     .rw[Yc hk2,Yc ()]
   .rw[Yn ()] at e';exact b6 k q () e'
  .obtain⟨o4,rfl,S6,qs,l6,n6,f6,c6,b6⟩:=(hPv _ _ _).mp pv;rw[bU] at c6;symm
   simp only[i6];symm
   have hF:∀q∈qs,Fq q:=λq hq=>(f6 q hq).1;refine⟨qs,l6,λd H7 n hn hz hd hnd S7 l7=>h d H7 (qs.take n) (S6.trans S7) l7 (S6.none hnd) (pP hF hz) (λk=>?_) (by rw[Yx];nofun)⟩
   rw[mw hF hd k,c6 k];by_cases hk:k<gs.length
   .rw[Yb hk]
   .rw[Yc hk,aJ (qs:=gs) ()];grind
def jj(K:Sf):Sp:=λvs H Q _=>∃(a b:Addr)(fs gs:Lt)(A B:Nat),vs=[.ref a,.ref b]/\aP (vw K H) a fs/\aP (vw K H) b gs/\fs.length<=40/\gs.length<=40/\A+B<=400000/\(∀q∈fs,Fq q)/\(∀q∈gs,Fq q)/\Pb A (cf fs)/\Pb B (cf gs) /\
 ∀d H' (rs:Lt),LE K H H'->aP (vw K H') d rs->vw K H d=none->bC rs->(∀k,cf rs k=pr (cf fs) (cf gs) fs.length k)->rs.length<=fs.length+gs.length->Q (.ref d) H'
theorem tH(F:Se K "_law_multiplied" je f fd)(T:dS K mg)(zCclean:⟨⟩ "_law_clean" ["_law_numbers"] 1 (i6 K))(zCplus:⟨⟩ "_law_plus" ["_law_one","_law_other"] 3 (dW K))(zCtimes:⟨⟩ "_law_times" ["_law_one","_law_other"] 3 (dP K)):#[] 4 f fd ["_law_f","_law_g"] (jj K):=by
 have scN:=lX.nd;refine F.okQ lX ?_ ?_;walk_at "q"
 .obtain⟨a,_,_,_,_,_,rfl,_⟩:=h;rfl
 .obtain⟨a,b,fs,gs,A',B,rfl,ha,hb,lf,lg',hAB,hf,hg,⟨D1,d1,d2,d3⟩,⟨E1,e1',e2',e3'⟩,h⟩:=h;have bf:=Ob.bq d3 d1 d2 hf;have bg:=Ob.bq e3' e1' e2' hg;have hX:=Xg d1 e1';have bX:=d2.mul e2';refine⟨_,(ae (L4 (i:=2) (aq aO (aS (aa (aT (aa af (aa af ac))) ac)) (aq aW (s!"" (aa (qv 0) ac)) (s!"" (aa (qv 1) ac)))))
   (ae (cL PassesOwn.never rfl (cn rfl T.b_range (aa (s!"" (aa (qv 0) ac)) ac)) (L3 (i:=3)) (ag (cL PassesOwn.never rfl (cn rfl T.b_range (aa (s!"" (aa (qv 1) ac)) ac)) (L3 (i:=4)) (ag (cJ (Sd zCplus (aa (aA cH (qv 2) (aq aW (qv 3) (qv 4)) ‹9›) (aa (Sd zCtimes (aa (aA cH (qv 0) (qv 3) ‹9›) (aa (aA cH (qv 1) (qv 4) ‹9›) ac))) ac))) (nZ (qv 2) (aq aW (qv 3) (qv 4)) dI))))))
   (ag (av (Sd zCclean (aa (qv 2) ac)))))),?_⟩
  walk_at"m";walk_at"1"
  obtain⟨xs,hxs,rxs⟩:=id ha;obtain⟨ys,hys,rys⟩:=id hb;refine⟨∅,λp2 H2 hp2 S2 h2=>⟨∅,λp3 H3 hp3 S3 h3=>?_⟩⟩;have S03:=S2.trans S3;refine⟨_,(ha.same S03).len,_,(hb.same S03).len,?_⟩;rw[show (fs.length:Int)+(gs.length:Int)=((fs.length+gs.length:Nat):Int) by nofun,fH]
  refine⟨_,h3,(),(),?_,λe H5 he S5 h5=>?_⟩
  .have:1000<=sizeLine:=∅;simp;nofun
  rw[show ((fs.length+gs.length:Nat):Int).toNat=fs.length+gs.length by nofun,iK] at h5
  have S05:=S03.trans S5;have r2:aI (vw K H5) (fr (0,1)) (.ref p2):=bI ((S3.trans S5) _ _ h2);have ne:vw K H e=none:=S03.none he;refine hN1 _ _ ?_;walk_at"2"
  refine⟨_,(ha.same S05).len,(),(),?_⟩;obtain⟨n,hn⟩:∃n,n=fs.length+gs.length:=⟨_,rfl⟩;rw[<-hn] at h5;obtain⟨Pv,hPv⟩:∃Pv:Nat->St->Hp->Prop,∀i σ H',Pv i σ H'↔X2 λo3 o4=>σ=[some (.ref a),some (.ref b),some (.ref e),o3,o4]/\LE K H H' /\ ∃qs,aP (vw K H') e qs/\qs.length=n/\(∀q∈qs,Fq q)/\(∀k,k<n->cf qs k=pr (cf fs) (cf gs) i k):=⟨_,λ_ _ _=>XH⟩;refine bY (its:=eF 0 fs.length) Pv (λ_ _ _ _ _=>aU) ((hPv _ _ _).mpr ⟨_,_,rfl,S05,List.replicate n (0,1),⟨_,h5,?_⟩,by simp,λq hq=>?_,λk hk=>?_⟩) (λi x σ H6 hi hx pv=>?_) (λσ H6 pv=>?_)
  .rw[ku];exact aF.repl r2 n
  .rw[(List.mem_replicate.mp hq).2];exact oB
  .rw[aH (List.getElem?_replicate_of_lt hk),sx];rfl
  .obtain⟨o3,o4,rfl,S6,qs,l6,n6,f6,c6⟩:=(hPv _ _ _).mp pv;obtain⟨hi',rfl⟩:=cW hx;rw[XN];symm
   refine⟨_,(hb.same S6).len,(),(),?_⟩;obtain⟨Pw,hPw⟩:∃Pw:Nat->St->Hp->Prop,∀j σ H',Pw j σ H' ↔ ∃o4,σ=[some (.ref a),some (.ref b),some (.ref e),some (.int i),o4]/\LE K H H' /\ ∃qs,aP (vw K H') e qs/\qs.length=n/\(∀q∈qs,Fq q)/\(∀k,k<n->cf qs k=qr (cf fs) (cf gs) i j k):=⟨_,λ_ _ _=>XH⟩;refine bY (its:=eF 0 gs.length) Pw (λ_ _ _ _ _=>aU) ((hPw _ _ _).mpr ⟨_,rfl,S6,qs,l6,n6,f6,λk hk=>?_⟩) (λj x σ H7 hj hx pw=>?_) (λσ H7 pw=>?_)
   .rw[LN];exact c6 k hk
   .obtain⟨o4,rfl,S7,ps,l7,n7,f7,c7⟩:=(hPw _ _ _).mp pw;obtain⟨hj',rfl⟩:=cW hx;rw[XN];obtain⟨zs,hzs,rzs⟩:=id l7;have hiq:i+j<ps.length:=();obtain⟨x0,e0,r0⟩:=rzs.at (i:=i+j) (d:=fr ps[i+j]) (by rw[YC,YU hiq];rfl)
    obtain⟨x1,e1,r1⟩:=rxs.at (i:=i) (d:=fr fs[i]) (by rw[YC,YU hi'];rfl)
    obtain⟨x2,e2,r2'⟩:=rys.at (i:=j) (d:=fr gs[j]) (by rw[YC,YU hj'];rfl)
    have k1:=f7 ps[i+j] (YT hiq);have k3:Bq (A'+B+100) ps[i+j]:=by
     obtain⟨m,em,bm⟩:=Ku d1 e1' d3 e3' i j (i+j);have em':qr (cf fs) (cf gs) i j (i+j)=_:=em;refine jA k1 (n:=m) (by rw[<-em',<-c7 (i+j) (),aH (YU hiq)]) hX (bm.mono ()) (bX.mono ())
    have g1:=hg gs[j] (YT hj');have g2:=bg gs[j] (YT hj');have u1:=hf fs[i] (YT hi');have u2:=bf fs[i] (YT hi');symm
    rw[show (i:Int)+(j:Int)=((i+j:Nat):Int) by nofun]
    refine⟨zs,hzs,x0,bA e0,xs,S7 _ _ hxs,x1,bA e1,ys,S7 _ _ hys,x2,bA e2,?_⟩;simp only[dP];symm
    refine⟨_,aI.same S7 _ _ r1,_,aI.same S7 _ _ r2',u1.ne,g1.ne,u2.mono (),g2.mono (),(u2.2.mul g2.2).mono (),λv3 H8 S8 r3=>?_⟩;have f3:=gG u1 g1;have b3:=kr u1 g1 u2 g2;simp only[dW];symm
    refine⟨_,aI.same S8 _ _ r0,_,r3,k1.ne,f3.ne,k3.mono (),b3.mono (),(k3.2.mul b3.2).mono (),λv4 H9 S9 r4=>?_⟩;have f4:=fY k1 f3;have S79:=S8.trans S9;have hlz:zs.length=ps.length:=by rw[rzs.length,YF]
    refine⟨zs,S79 _ _ hzs,i+j,by rw[hlz];exact iC hiq,λH10 B10 h10=>(hPw _ _ _).mpr ⟨_,rfl,λx o e'=>B10 _ _ (aj e' ne) (S79 _ _ (S7 _ _ e')),ps.set (i+j) (mh ps[i+j] (mS fs[i] gs[j])),aP.chg (S79 _ _ hzs) (rzs.same S79) r4 B10 h10,by rw[YJ];exact n7,λq hq=>?_,λk hk=>?_⟩⟩
    .rcases XO hq with z|z
     .exact f7 q z
     .rw[z];exact f4
    .rw[zH hiq,Kb];by_cases hk:k=i+j
     .rw[Yb hk,Yb hk,lP k1.ne f3.ne,i7 u1.ne g1.ne,<-aH (YU hiq),<-aH (YU hi'),<-aH (YU hj'),c7 (i+j) ()]
     .rw[Yc hk,Yc hk,c7 k (by assumption)]
   .obtain⟨o4,rfl,S7,ps,l7,n7,f7,c7⟩:=(hPw _ _ _).mp pw;rw[bU] at c7;refine (hPv _ _ _).mpr ⟨_,_,rfl,S7,ps,l7,n7,f7,λk hk=>?_⟩;rw[c7 k hk,Ie λi hi=>aJ hi]
  .obtain⟨o3,o4,rfl,S6,qs,l6,n6,f6,c6⟩:=(hPv _ _ _).mp pv;rw[bU] at c6;refine hN2 _ _ ?_;symm
   simp only[i6];symm
   have hF:∀q∈qs,Fq q:=f6;refine⟨qs,l6,λd H7 n' hn' hz hd hnd S7 l7=>h d H7 (qs.take n') (S6.trans S7) l7 (S6.none hnd) (pP hF hz) (λk=>?_) (by rw[Yx];nofun)⟩
   rw[mw hF hd k];by_cases hk:k<n
   .exact c6 k hk
   .rw[aJ (),gD (n:=gs.length) (λi hi=>aJ hi) _ _ ()]
inductive jK (K:Sf)(vs:List V)(H:Hp)(Q:VK)(E:XK):Prop
 | mk (a b c:Addr)(es qs fs gs:Lt)(A B C:Nat):vs=[.ref a,.ref b,.ref c]->aP (vw K H) a es->(∃ext,es=qs++ext)->aP (vw K H) b fs->aP (vw K H) c gs->qs.length<=12->fs.length<=14->gs.length<=14->(∀q∈qs,Fq q)->(∀q∈fs,Fq q)->(∀q∈gs,Fq q)->A+B+C<=300000->Pb A (cf qs)->Pb B (cf fs)->Pb C (cf gs)->(∀rs,bC rs->(∀k,cf rs k=pr (cf fs) (cf gs) fs.length k)->rs.length<=qs.length)->(∀v H' r,LE K H H'->aI (vw K H') (fr r) v->Fq r->wv r=ap (λm=>pr (cf fs) (cf gs) fs.length m) (cf qs) (fs.length+gs.length)->Q v H')->jK K vs H Q E
theorem Da(F:Se K "_law_square" qR f fd)(T:dS K mg)(zCworth:⟨⟩ "_law_worth" ["_law_sums_here","_law_f"] 4 (i3 K))(zCmultiplied:⟨⟩ "_law_multiplied" ["_law_f","_law_g"] 4 (jj K)):#[] 5 f fd ["_law_sums_here","_law_f","_law_g"] (jK K):=by
 have scN:=uY.nd;refine F.okQ uY ?_ ?_;walk_at "q"
 .obtain⟨a,_,_,_,_,_,_,_,_,_,rfl,_⟩:=h;rfl
 .obtain⟨a,b,c,es,qs,fs,gs,A1,B1,C1,rfl,ha,hex,hb,hc,lq,lf,lg',hq,hf,hg,hA,pq,pf,pg,hl,h⟩:=h;refine⟨_,(ag (av (Sd zCworth (aa (qv 0) (aa (Sd zCmultiplied (aa (qv 1) (aa (qv 2) ac))) ac))))),?_⟩
  walk_at"m";symm
  simp only[jj,i3];symm
  refine⟨fs,hb,gs,hc,(),(),B1,C1,(),hf,hg,pf,pg,λd H1 rs S1 l1 _ p1 w1 n1=>?_⟩;refine⟨es,ha.same S1,qs,hex,rs,l1,hl rs p1 w1,lq,hq,p1.1,A1,pq,B1+C1+fs.length,(Pb.pr pf pg fs.length).congr w1,(),λv H2 r S2 r2 f2 w2=>h v H2 r (S1.trans S2) r2 f2 ?_⟩;rw[w2,<-eD (n:=rs.length) (λi hi=>by rw[aJ hi];grind) (fs.length+gs.length-rs.length),show rs.length+(fs.length+gs.length-rs.length)=fs.length+gs.length by nofun]
  exact aE _ (λi _=>w1 i) λ_ _=>rfl
theorem KN{W:Nat->Int}(cl:oN qs W B)(sq:∀q∈qs,gn q):Bt 170 B:=by
 have:=Int.le_of_dvd ∅ (cl.least (kx 12) λq hq=>(sq q hq).2.2);have:kx 12<2^170:=∅;have:=cl.pos;unfold Bt;have e:(2:Int)^170=((2^170:Nat):Int):=∅;nofun
theorem Hi{W:Nat->Int}(h:dG W B k c)(hB:0<B)(hD:0<Dk W k):c.2.1*(Dk W k*B)=Dk W (k+1)*c.2.2:=by
 have e:=h.sqv;have p:=Xb hD hB;have c1:‹Dk W k*B›≠0:=ao ();have c2:=ao h.fq.ne;unfold wv at e;have:‹c.2.1*(Dk W k*B)›=‹Dk W (k+1)*c.2.2›:=by
  rw[Xi,Xi];grind
 exact Rat.intCast_inj.mp this
theorem dG.sgn{W:Nat->Int}(h:dG W B k c)(hB:0<B)(hD:0<Dk W k):0<c.2.1↔0<Dk W (k+1):=by
 have e:=Hi h hB hD;have p:=Xb hD hB;constructor
 .intro z;exact Xm (by rw[<-e];exact Xb z p) h.fq.1
 .intro z;exact Xm (by rw[e];exact Xb z h.fq.1) p
theorem HH{W:Nat->Int}(hD:Dk W k≠0)(hk:k<=5)(bW:∀i,Bt 170 (W i)):Pb 1100 (Pk W k) :=
 ⟨Dk W k,hD,(kO bW ()).mono ∅,λj=>⟨qk W k j,rfl,(kS bW hk).mono ∅⟩⟩
theorem Ke(k j:Nat):cf (List.replicate k (0,1)++[(1,1)]) j=Xk k j:=D3 k j
theorem L7(k:Nat):bC (List.replicate k ((0:Int),(1:Int))++[(1,1)]):=⟨Du k,λq hq=>by
 rw[List.getLast?_append] at hq;cases hq;decide⟩
inductive Ly (K:Sf)(vs:List V)(H:Hp)(Q:VK)(E:XK):Prop
 | mk (k:Nat):vs=[.int k]->k<=20->(∀d H',LE K H H'->vw K H d=none->aP (vw K H') d (List.replicate k (0,1)++[(1,1)])->Q (.ref d) H')->Ly K vs H Q E
theorem MI(F:Se K "_law_x" LQ f fd)(T:dS K mg):#[] 1 f fd ["_law_many"] (Ly K):=by
 have scN:=Mr.nd;refine F.okQ Mr ?_ ?_;walk_at "q"
 .obtain⟨_,rfl,_⟩:=h;rfl
 .obtain⟨k,rfl,hk,h⟩:=h;refine⟨_,(ag (av (aq aW (aq aO (aS (aa (aT (aa af (aa af ac))) ac)) (qv 0)) (aS (aa (aT (aa af (aa af ac))) ac))))),?_⟩;walk_at"m";skip
  symm
  refine⟨∅,λp1 H1 hp1 S1 h1=>⟨∅,λp2 H2 hp2 S2 h2=>?_⟩⟩;show ii K (.ref p2) (.int _) H2 _;rw[fH];refine⟨_,h2,(),(),?_,λp3 H3 hp3 S3 h3=>⟨∅,λp4 H4 hp4 S4 h4=>⟨∅,λp5 H5 hp5 S5 h5=>?_⟩⟩⟩
  .have:1000<=sizeLine:=∅;simp;nofun
  rw[show ((k:Nat):Int).toNat=k by nofun,iK] at h3
  show gz K (.ref p3) (.ref p5) H5 _;rw[dR];refine⟨_,(S4.trans S5) _ _ h3,_,h5,?_,λp6 H6 hp6 S6 h6=>?_⟩
  .have:1000<=sizeLine:=∅;simp;nofun
  have S15:=S2.trans (S3.trans (S4.trans S5));refine h p6 H6 (S1.trans (S15.trans S6)) ((S1.trans S15).none hp6) ⟨_,h6,?_⟩;rw[XI,ku];exact (aF.repl (bI ((S15.trans S6) _ _ h1)) k).app (.mk_cons (bI ((S5.trans S6) _ _ h4)) .mk_nil)
theorem Kt{W:Nat->Int}{S P:Nat->Rat}{i:Nat}(hD:Dk W i≠0)(hB:B≠0)(hP:∀j,P j=‹qk W i j›/‹Dk W i›)(hS:∀i,‹W i›=S i*(B:Rat))(hN:k+i+1<=N):ap (λm=>pr (Xk k) P (k+1) m) S N=‹Lq W i k›/(‹Dk W i›*(B:Rat)):=by
 rw[uF];show ap (Xk k) _ k+Xk k k*ap P (λj=>S (k+j)) (N-k)=_;rw[cq k λj hj=>by rw[show Xk k j=0 from Yc ()];grind,show Xk k k=1 from Yb rfl]
 have m:=eD (f:=P) (h:=λj=>S (k+j)) (n:=i+1) (λj hj=>by
  have z:‹0›=0:=rfl;rw[hP j,dQ (),z];grind) (N-k-(i+1))
 rw[show i+1+(N-k-(i+1))=N-k by nofun] at m
 rw[m,ge hD hB hP hS k];grind
inductive pF (K:Sf)(vs:List V)(H:Hp)(Q:VK)(E:XK):Prop
 | mk (a b t:Addr)(es qs:Lt)(W:Nat->Int)(B:Int)(k:Nat)(pss:List (Lt×(Int×Int)))(Pr:Addr->Prop):vs=[.ref a,.ref b,.ref t]->aP (vw K H) a es->(∃ext,es=qs++ext)->aP (vw K H) b (List.replicate k (0,1)++[(1,1)])->fP (vw K H) t pss Pr->pss.length=k->k<=5->2*k<=qs.length->qs.length<=11->(∀q∈qs,gn q)->oN qs W B->(∀i,i<=k->0<Dk W i)->(∀i c,pss[i]? = some c->dG W B i c)->(∀d H' rs,LE K H H'->vw K H d=none->aP (vw K H') d rs->bC rs->(∀j,cf rs j=Pk W k j)->Q (.ref d) H')->pF K vs H Q E
theorem EF(F:Se K "_law_along" um f fd)(T:dS K mg)(zCover:⟨⟩ "_law_over" ["_law_one","_law_other"] 3 (uv K))(zCsquare:⟨⟩ "_law_square" ["_law_sums_here","_law_f","_law_g"] 5 (jK K))(zCsummed:⟨⟩ "_law_summed" ["_law_f","_law_g","_law_by"] 4 (lV K)):#[] 6 f fd ["_law_sums_here","_law_start","_law_found"] (pF K):=by
 have scN:=yn.nd;refine F.okQ yn ?_ ?_;walk_at "q"
 .obtain⟨_,_,_,_,_,_,_,_,_,_,rfl,_⟩:=h;rfl
 .obtain⟨a,b,t,es,qs,W,B,k,pss,Pr,rfl,ha,hex,hb,sa,lp,k5,kn,l11,sq,cl,hD,so,h⟩:=h;refine⟨_,(ae (L4 (i:=3) (fD fj (by rfl) T.b_list fN (aa (qv 1) ac)))
   (ae (cL PassesOwn.never rfl (cV (qv 2)) (aY (n:=2) rfl (au (L3 (i:=4)) (au (L3 (i:=5)) aX))) (ae (L4 (i:=6) (Sd zCover (aa (Sd zCsquare (aa (qv 0) (aa (qv 1) (aa (qv 4) ac)))) (aa (qv 5) ac))))
   (ag (L4 (i:=3) (Sd zCsummed (aa (qv 3) (aa (qv 4) (aa (aT (aa (aq cp af (aA b9 (qv 6) af ‹9›)) (aa (aA b9 (qv 6) af ‹9›) ac))) ac))))))))
   (ag (av (qv 3))))),?_⟩
  walk_at"m";skip
  obtain⟨bx,hbx,rbx⟩:=id hb;obtain⟨xs,hxs,lxs,hx⟩:=id sa;have dn:∀i,i<=k->Dk W i≠0:=λi hi=>by have:=hD i hi;nofun
  obtain⟨β,hβ,_,bj,lst⟩:=DP (W:=W) (k:=k) dn;walk_at"1"
  refine⟨bx,hbx,λp1 H1 hp1 S1 h1=>hN1 _ _ ?_⟩;walk_at"2"
  refine⟨⟨_,.of (aN (S1 _ _ hxs))⟩,?_⟩;obtain⟨Pv,hPv⟩:∃Pv:Nat->St->Hp->Prop,∀i σ H',Pv i σ H'↔X5 λ(d:Addr)(o4 o5 o6:Option V)(rs:Lt)=>σ=[some (.ref a),some (.ref b),some (.ref t),some (.ref d),o4,o5,o6]/\LE K H H'/\vw K H d=none/\aP (vw K H') d rs/\bC rs /\ ∀j,cf rs j=Xk k j-kJ β (Pk W) i j:=⟨_,λ_ _ _=>XH⟩;refine bY (its:=xs) Pv (λi σ H' _ p=>?_) ((hPv _ _ _).mpr ⟨p1,_,_,_,_,rfl,S1,hp1,⟨_,h1,rbx.same S1⟩,L7 k,λj=>?_⟩) (λi x σ H2 hi hx2 pv=>?_) (λσ H2 pv=>?_)
  .obtain⟨_,_,_,_,_,_,S2,_⟩:=(hPv _ _ _).mp p;exact bK (S2 _ _ hxs)
  .rw[Ke];show _=Xk k j-0;grind
  .obtain⟨d,o4,o5,o6,rs,rfl,S2,nd,ld,pd,ed⟩:=(hPv _ _ _).mp pv;obtain⟨c,hc⟩:∃c,pss[i]? = some c:=⟨_,YU ()⟩;obtain⟨y,l,v,e1,e2,e3,e4,e5⟩:=hx i c hc;rw[hx2] at e1;cases e1;have soc:=so i c hc;have hi':i<k:=();have di:=hD i ();have di1:=hD (i+1) ();have dni:=dn i ();have hB:=cl.pos;have lc:=soc.len dni;have bB:=KN cl sq;have bD:∀i,i<=6->Bt 1046 (Dk W i):=λi hi=>(kO cl.bt hi).mono ∅;have dB:Dk W i*B≠0:=Xg dni ();have cB:=ao (show B≠0 by nofun)
   have c0:=ao dni;have c1:=ao (show Dk W (i+1)≠0 by nofun)
   have sv:=soc.sqv;have f1:=soc.fq;have b1:Bq 1216 c.2:=jA f1 sv dB ((bD (i+1) ()).mono ∅) (((bD i ()).mul bB).mono ∅);rw[Xi] at sv;have nz:c.2.1≠0:=λz=>by
    rw[(cS f1.ne).mpr z] at sv;grind
   have hFq:∀q∈qs,Fq q:=λq hq=>(sq q hq).1;have xcf:cf (List.replicate k (0,1)++[(1,1)])=Xk k:=funext λj=>Ke k j;symm
   refine⟨_,S2 _ _ e2,rfl,_,_,rfl,_,_,rfl,rfl,?_⟩;refine⟨a,b,l,es,qs,_,c.1,170,1100,1100,rfl,ha.same S2,hex,hb.same S2,e3.same S2,(),by simp;nofun,(),hFq,Du k,soc.po.1,∅,lO sq,Ip k,soc.pb dni () cl.bt,λus pu eu=>?_,λv3 H3 r S3 r3 fr3 w3=>?_⟩
   .refine Yg (nE (m:=k+i+1) pu λm hm=>?_) ();rw[eu];exact gD (n:=i+1) (λj hj=>aJ ()) _ _ (by simp;nofun)
   rw[xcf,YE,YG,YM,Kt dni () soc.num cl.val (by rw[lc];nofun)] at w3
   have b3:Bq 1216 r:=jA (D:=Dk W i*B) fr3 (by rw[w3,Xi]) dB ((yx cl.bt ()).mono ∅) (((bD i ()).mul bB).mono ∅)
   refine⟨_,_,r,c.2,rfl,r3,aI.same (S2.trans S3) _ _ e4,fr3.ne,f1.ne,nz,b3.mono ∅,b1.mono ∅,(b3.2.mul b1.1).mono ∅,λv4 H4 S4 r4=>?_⟩;obtain⟨y',hy'⟩:∃y,y=td r c.2:=⟨_,rfl⟩;rw[<-hy'] at r4;have fy:Fq y':=by rw[hy'];exact uB fr3 nz
   have wy:wv y'=β i:=by
    rw[hy',Bl fr3.ne f1.ne nz,w3,sv,bj i hi'];grind
   have by':Bq 3600 y':=(jA (D:=Dk W (i+1)) fy (by rw[wy,bj i hi']) () ((yx cl.bt ()).mono (by decide:_<=1046)) ((bD (i+1) ()))).mono ∅
   obtain⟨bp,rfl,hbp⟩:=id r4.fr_at;refine⟨bp,rfl,_,hbp,_,dN,_,rfl,bp,rfl,_,hbp,_,jF,∅,λp5 H5 hp5 S5 h5=>?_⟩;have S25:=S3.trans (S4.trans S5);have S05:=S2.trans S25;have fc:Fq (0-y'.1,y'.2):=⟨fy.1,by have:=fy.2;rw[Int.zero_sub,Int.neg_gcd];exact this⟩
   have wc:wv (0-y'.1,y'.2) = - wv y':=by
    unfold wv;show ‹0-y'.1›/(y'.2:Rat)=_;rw[Rat.intCast_sub];have c0:‹0›=0:=rfl;rw[c0];grind
   have bc:Bq 3600 (0-y'.1,y'.2):=⟨by have:=by'.1;unfold Bt at this ⊢;show (0-y'.1).natAbs<_;nofun,by'.2⟩
   have prs:Pb 2630 (cf rs):=(CI k5 cl.bt dn hβ i ()).congr ed;have lrs:rs.length<=k+1:=nE pd λm hm=>by
    rw[ed m,show Xk k m=0 from Yc (),pL i ()]
    grind
   show lV K [.ref d,.ref l,.ref p5] H5 _ _;refine⟨d,l,_,rs,c.1,(0-y'.1,y'.2),rfl,ld.same S25,e3.same S05,bI h5,(),(),λq hq=>⟨pd.1 q hq,(prs.bq pd.1 q hq).mono ∅⟩,λq hq=>⟨soc.po.1 q hq,?_⟩,fc,bc,λd6 H6 us S6 l6 n6 p6 w6 _=>?_⟩
   .obtain⟨j,hj⟩:=XQ hq;have e:=soc.num j;rw[aH hj] at e;exact jA (soc.po.1 q hq) e dni ((kS cl.bt ()).mono ∅) ((Bp cl.bt ()).mono (by have:(170+3)*i<=(170+3)*4:=Xz _ ();nofun))
   refine (hPv _ _ _).mpr ⟨d6,_,_,_,us,rfl,S05.trans S6,S05.none n6,l6,p6,λj=>?_⟩;rw[w6 j,ed j,wc,wy,soc.num j];show _=Xk k j-(kJ β (Pk W) i j+β i*Pk W i j);show _=Xk k j-(kJ β (Pk W) i j+β i*(‹qk W i j›/‹Dk W i›));grind
  .obtain⟨d,o4,o5,o6,rs,rfl,S2,nd,ld,pd,ed⟩:=(hPv _ _ _).mp pv;refine hN2 _ _ ?_;symm
   exact h d H2 rs S2 nd ld pd λj=>by rw[ed j,lxs,lp];exact lst j
theorem fP.snoc{x m:Addr}{v:V}{ys:List V}{pss:List (Lt×(Int×Int))}{Pr:Addr->Prop}(h:fP G t pss Pr)(ht:G t=some (.lst ys))(hP:∀m,Pr m->m≠t)(hx:G x=some (.tup [.ref m,v]))(hm:aP G m c.1)(hv:aI G (fr c.2) v)(pm:Pr m)(B:eJ t G G')(h':G' t=some (.lst (ys++[.ref x]))):fP G' t (pss++[c]) Pr:=by
 obtain⟨ys',h1,h2,h3⟩:=h;rw[ht] at h1;cases h1;refine⟨_,h',by simp[h2],λk d e=>?_⟩
 by_cases z:k<pss.length
 .rw[YB z] at e;obtain⟨x,m,v,e1,e2,e3,e4,e5⟩:=h3 k d e;exact⟨x,m,v,by rw[YB ()];exact e1,B _ _ (λz=>by rw[z,ht] at e2;cases e2) e2,e3.but ht (hP m e5) B,aI.flat_but ht B _ _ (ci _) e4,e5⟩
 .rw[Yz ()] at e;have hm0:k-pss.length=0:=by
   have:=(List.getElem?_eq_some_iff.mp e).1;simp at this;nofun
  rw[hm0] at e;cases e;exact⟨x,m,v,by rw[Yz (),h2,hm0];rfl,B _ _ (λz=>by rw[z,ht] at hx;cases hx) hx,hm.but ht (hP m pm) B,aI.flat_but ht B _ _ (ci _) hv,pm⟩
structure LR (W:Nat->Int)(n M:Nat):Prop where
 up:∀i,i<M->0<Dk W i
 most:2*M<=n+1
inductive mB (K:Sf)(vs:List V)(H:Hp)(Q:VK)(E:XK):Prop
 | mk (a:Addr)(qs:Lt)(W:Nat->Int)(B:Int):vs=[.ref a]->aP (vw K H) a qs->1<=qs.length->qs.length<=11->(∀q∈qs,gn q)->oN qs W B->(∀(t:Addr) H' pss,LE K H H'->vw K H t=none->lj W qs.length pss.length->fP (vw K H') t pss (λl=>vw K H l=none/\l≠t)->(∀k c,pss[k]? = some c->dG W B k c)->Q (.ref t) H')->mB K vs H Q E
theorem Gb(F:Se K "_law_steps" sL f fd)(T:dS K mg)(zCalong:⟨⟩ "_law_along" ["_law_sums_here","_law_start","_law_found"] 6 (pF K))(zCx:⟨⟩ "_law_x" ["_law_many"] 1 (Ly K))(zCsquare:⟨⟩ "_law_square" ["_law_sums_here","_law_f","_law_g"] 5 (jK K)):#[] 7 f fd ["_law_sums_here"] (mB K):=by
 have scN:=yC.nd;refine F.okQ yC ?_ ?_;walk_at "q"
 .obtain⟨_,_,_,_,rfl,_⟩:=h;rfl
 .obtain⟨a,qs,W,B,rfl,ha,n1,n2,sq,cl,h⟩:=h;refine⟨_,(ae (L4 (i:=1) (aS ac))
   (ae (gk PassesOwn.never (QW.pt (lC (aD mD (aq aO af (s!"" (aa (qv 1) ac))) (s!"" (aa (qv 0) ac)) (aC _)) (i0 (QW.pt (gN (aD (qQ hr.ul) (qv 1) (aS ac) (aC _)) (ig (aD jz (aA b9 (aA b9 (aA cH (qv 1) (dD cI af) ‹9›) af ‹9›) af ‹9›) af (aC _)))))))) (ae (L4 (i:=2) (Sd zCalong (aa (qv 0) (aa (Sd zCx (aa (s!"" (aa (qv 1) ac)) ac)) (aa (qv 1) ac)))))
   (ag (iu (pX XM XR XS fA (qv 1) (aa (aT (aa (qv 2) (aa (Sd zCsquare (aa (qv 0) (aa (qv 2) (aa (qv 2) ac)))) ac))) ac))))))
   (ag (av (qv 1))))),?_⟩
  walk_at"m";skip
  have hFq:∀q∈qs,Fq q:=λq hq=>(sq q hq).1;have hB:=cl.pos;walk_at"1"
  refine⟨∅,λt H1 ht S1 h1=>hN1 _ _ ?_⟩;refine aK.gen λN2 hN2=>?_;obtain⟨Wv,hWv⟩:∃Wv:Nat->St->Hp->Prop,∀m σ H',Wv m σ H'↔X2 λ(pss:List (Lt×(Int×Int)))(o:Option V)=>σ=[some (.ref a),some (.ref t),o]/\m=20-pss.length/\LE K H H'/\fP (vw K H') t pss (λl=>vw K H l=none/\l≠t)/\LR W qs.length pss.length/\(∀k c,pss[k]? = some c->dG W B k c):=⟨_,λ_ _ _=>XH⟩;refine⟨Wv,⟨_,(hWv _ _ _).mpr ⟨[],_,rfl,rfl,S1,⟨[],h1,rfl,by simp⟩,⟨by simp,by simp⟩,by simp⟩⟩,λm σ H3 hw=>?_⟩
  obtain⟨pss,o,rfl,rfl,S3,sa,far,so⟩:=(hWv _ _ _).mp hw;obtain⟨xs,hxs,lxs,hx⟩:=id sa;have lt:∀{H':Hp},LE K H3 H'->el (vw K H') t=some pss.length:=λS=>by simp only[el,S _ _ hxs,lxs]
  have mo:=far.most;have key:∀H2,LE K H3 H2->2*pss.length<qs.length->(∀i,i<=pss.length->0<Dk W i) -> ∃n:Nat,el (vw K H2) t=some n/\Ly K [V.int (n:Int)] H2 (λx H1=>pF K [V.ref a,x,V.ref t] H1 (λx H1=>JV K "list" (V.ref t) H1/\jK K [V.ref a,x,x] H1 (λx_1 H1=>2<=sizeLine/\Nw K H1 (HO.tup [x,x_1]) λx_2 H1=>∃xs,vw K H1 t=some (HO.lst xs)/\xs.length<sizeLine/\E8 K H1 t (HO.lst (xs++[x_2])) λH1=>∃m',m'<20-pss.length/\Wv m' [some (V.ref a),some (V.ref t),some x] H1) E0) E0) E0:=by
   intro H4 S4 hkn hD;refine⟨pss.length,lt S4,?_⟩;refine⟨pss.length,rfl,(),λd5 H5 S5 nd5 l5=>?_⟩;have S35:=S4.trans S5;refine⟨a,d5,t,qs,qs,W,B,pss.length,pss,_,rfl,ha.same (S3.trans S35),⟨[],by simp⟩,l5,sa.same S35,rfl,(),Yh hkn,n2,sq,cl,hD,so,λd6 H6 rs S6 nd6 l6 p6 w6=>?_⟩
   have S36:=S35.trans S6;have dn:Dk W pss.length≠0:=by have:=hD pss.length (Yr _);nofun
   have lr:=mf p6 dn w6;have prs:Pb 1100 (cf rs):=by
    have:=(HH dn (show pss.length<=5 by nofun) cl.bt)
    exact this.congr w6
   refine⟨iX (S36 _ _ hxs),?_⟩;refine⟨a,d6,d6,qs,qs,rs,rs,170,1100,1100,rfl,ha.same (S3.trans S36),⟨[],by simp⟩,l6,l6,(),(),(),hFq,p6.1,p6.1,∅,lO sq,prs,prs,λus pu eu=>?_,λv7 H7 r S7 r7 f7 w7=>⟨∅,λp8 H8 hp8 S8 h8=>?_⟩⟩
   .refine Yg (nE (m:=2*pss.length+1) pu λm hm=>?_) ();rw[eu];exact gD (n:=rs.length) (λj hj=>aJ hj) _ _ ()
   rw[lr,EM dn () w6 cl.val ()] at w7;have S38:=S36.trans (S7.trans S8);refine⟨xs,S38 _ _ hxs,?_,λH9 B9 h9=>?_⟩
   .rw[lxs];have:1000<=sizeLine:=∅;nofun
   have S78:=S7.trans S8;have t0:vw K H t=none:=ht;have d6t:d6≠t:=(aj (S35 _ _ hxs) nd6).symm;refine⟨20-(pss.length+1),(),(hWv _ _ _).mpr ⟨pss++[(rs,r)],_,rfl,by simp,λb o e=>B9 _ _ (aj e t0) ((S3.trans S38) _ _ e),(sa.same S38).snoc (c:=(rs,r)) (S38 _ _ hxs) (λm z=>z.2) h8 (l6.same S78) (aI.same S8 _ _ r7) ⟨(S3.trans S35).none nd6,d6t⟩ B9 h9,⟨λi hi=>hD i (by simp at hi;nofun),by simp;nofun⟩,λk c e=>?_⟩⟩
   by_cases z:k<pss.length
   .rw[YB z] at e;exact so k c e
   .rw[Yz ()] at e;have hm0:k=pss.length:=by
     have:=(List.getElem?_eq_some_iff.mp e).1;simp at this;nofun
    subst hm0;rw[XF] at e;cases e;exact⟨p6,w6,f7,w7⟩
  have out:∀H2,LE K H3 H2->1<=pss.length->(qs.length<=2*pss.length\/Dk W pss.length<=0)->N2 [some (V.ref a),some (V.ref t),o] H2:=λH2 S2 one ends=>by
   refine hN2 _ _ ?_;symm
   exact h t H2 pss (S3.trans S2) ht ⟨one,far.up,mo,ends⟩ (sa.same S2) so
  symm
  refine⟨_,lt .rfl,gF ∅,_,(ha.same S3).len,cK (λc1=>?_) (λc1=>out H3 .rfl () (.inl ()))⟩;refine⟨∅,λe4 H4 he4 S4 h4=>⟨e4,rfl,xs,S4 _ _ hxs,h4,cK (λc2=>?_) (λc2=>?_)⟩⟩
  .have p0:pss.length=0:=by rw[<-lxs,List.isEmpty_iff.mp c2];rfl
   exact⟨_,λσ' H' z=>z,key H4 S4 () λi hi=>by rw[show i=0 by nofun,Az];decide⟩
  .have p1:1<=pss.length:=by
    rw[<-lxs];exact List.length_pos_iff.mpr λz=>c2 (by rw[z];rfl)
   obtain⟨c,hc⟩:∃c,pss[pss.length-1]? = some c:=⟨_,YU ()⟩;obtain⟨x,l,v,e1,e2,e3,e4',e5⟩:=hx _ _ hc;obtain⟨vp,rfl,hvp⟩:=id e4'.fr_at;have xl:xs.getLast? = some (.ref x):=by rw[Y1,lxs];exact e1
   have dk:=far.up (pss.length-1) ();have sg:=(so _ _ hc).sgn hB dk;rw[show pss.length-1+1=pss.length by nofun] at sg
   refine⟨xs,S4 _ _ hxs,_,fX xl,x,rfl,_,S4 _ _ e2,_,jF,vp,rfl,_,S4 _ _ hvp,_,dN,_,rfl,cK (λc3=>?_) (λc3=>?_)⟩
   .exact⟨_,λσ' H' z=>z,key H4 S4 () λi hi=>by
     by_cases e:i=pss.length
     .rw[e];exact sg.mp c3
     .exact far.up i ()⟩
   .exact out H4 S4 p1 (.inr (Int.not_lt.mp λz=>c3 (sg.mpr z)))
theorem L9{m p:Nat}(h:m=p):((n:Int)-(m:Int)+1).toNat=n+1-p:=()
theorem Ce{s A:Nat}{gs:Lt}(h:Pb A (cf gs)):Pb A (cf (List.replicate s (0,1)++gs)):=by
 obtain⟨D,d0,bD,o⟩:=h;refine⟨D,d0,bD,λj=>?_⟩;rw[qJ];split
 .refine⟨0,?_,gC⟩;have c0:‹0›=0:=rfl;rw[c0];grind
 .exact o _
theorem AF{W:Nat->Int}{S:Nat->Rat}{gs:Lt}{s:Nat}(hD:Dk W k≠0)(hB:B≠0)(hP:∀j,cf gs j=‹qk W k j›/‹Dk W k›)(hS:∀i,‹W i›=S i*(B:Rat)):ap (cf (List.replicate s (0,1)++gs)) S (s+(k+1))=‹Lq W k s›/(‹Dk W k›*(B:Rat)):=by
 have e:cf (List.replicate s (0,1)++gs)=λm=>if s<=m then 1*cf gs (m-s) else 0:=by
  funext m;rw[qJ];by_cases h:m<s
  .rw[Yb h,Yc ()]
  .rw[Yc h,Yb ()];grind
 rw[e,nj,show s+(k+1)-s=k+1 by nofun,ge hD hB hP hS s]
 grind
def Kw(W:Nat->Int)(k M n:Nat):Prop:=∃i,i+M<=n/\Lq W k i≠0
inductive xV (K:Sf)(vs:List V)(H:Hp)(Q:VK)(E:XK):Prop
 | mk (a:Addr)(qs:Lt)(W:Nat->Int)(B:Int)(M:Nat):vs=[.ref a]->aP (vw K H) a qs->1<=qs.length->qs.length<=11->(∀q∈qs,gn q)->oN qs W B->lj W qs.length M->(oX W qs.length M -> ∀H',LE K H H'->Q (.str "none") H')->(¬ oX W qs.length M -> ∀s H',(s="open" /\ 0<Dk W M\/s="tight" /\ Dk W M=0)->LE K H H'->Q (.str s) H')->xV K vs H Q E
theorem Ji(F:Se K "_law_kind" xK f fd)(T:dS K mg)(zCsteps:⟨⟩ "_law_steps" ["_law_sums_here"] 7 (mB K))(zCworth:⟨⟩ "_law_worth" ["_law_sums_here","_law_f"] 4 (i3 K)):#[] 8 f fd ["_law_sums_here"] (xV K):=by
 have scN:=Cu.nd;refine F.okQ Cu ?_ ?_;walk_at "q"
 .obtain⟨_,_,_,_,_,rfl,_⟩:=h;rfl
 .obtain⟨a,qs,W,B,M,rfl,ha,n1,n2,sq,cl,my,h1,h2⟩:=h;refine⟨_,(ae (cJ (aA cH (Sd zCsteps (aa (qv 0) ac)) (dD cI af) ‹9›) (aY (n:=2) rfl (au (L3 (i:=1)) (au (L3 (i:=2)) aX))))
   (ae (bQ (aD jz (aA b9 (qv 2) af ‹9›) af (aC _)) (ag (av fI)) aL)
   (ae (cL PassesOwn.never rfl (cn rfl T.b_range (aa (aq aW (aq cp (s!"" (aa (qv 0) ac)) (s!"" (aa (qv 1) ac))) af) ac)) (L3 (i:=3)) (ag (bQ (aD kU (aA b9 (Sd zCworth (aa (qv 0) (aa (aq aW (aq aO (aS (aa (aT (aa af (aa af ac))) ac)) (qv 3)) (qv 1)) ac))) af ‹9›) af (aC _)) (ag (av fI)) aL)))
   (ag (av fI))))),?_⟩
  walk_at"m";skip
  have hFq:∀q∈qs,Fq q:=λq hq=>(sq q hq).1;have hB:=cl.pos;walk_at"1"
  refine⟨a,qs,W,B,rfl,ha,n1,n2,sq,cl,λt H1 pss S1 ht my' sa so=>?_⟩;have eM:=my.uniq my';subst eM;obtain⟨xs,hxs,lxs,hx⟩:=id sa;have m1:=my.one;have m2:=my.most;obtain⟨c,hc⟩:∃c,pss[pss.length-1]? = some c:=⟨_,YU ()⟩;obtain⟨x,l,v,e1,e2,e3,e4,e5⟩:=hx _ _ hc;obtain⟨vp,rfl,hvp⟩:=id e4.fr_at;have soc:=so _ _ hc;have dk:=my.up (pss.length-1) ();have dn:Dk W (pss.length-1)≠0:=();have lc:=soc.len dn;have lcp:c.1.length=pss.length:=();have sg:=soc.sgn hB dk;have lt:=fg (W:=W) (pss.length-1);rw[show pss.length-1+1=pss.length by nofun] at sg lt
  have xl:xs.getLast? = some (.ref x):=by rw[Y1,lxs];exact e1
  refine⟨t,rfl,_,hxs,_,fX xl,x,rfl,_,e2,rfl,_,_,rfl,_,_,rfl,rfl,hN1 _ _ ?_⟩;walk_at"2"
  refine⟨_,hvp,_,dN,_,rfl,cK (λc1=>?_) (λc1=>hN2 _ _ ?_)⟩
  .have:=sg.mp c1;exact h2 (λz=>by rcases z with z|⟨z,_⟩<;>nofun) "open" H1 (.inl ⟨rfl,this⟩) S1
  have dM:Dk W pss.length<=0:=Int.not_lt.mp λz=>c1 (sg.mpr z);have hNo:oX W qs.length pss.length↔Kw W (pss.length-1) pss.length qs.length:=by
   constructor
   .intro z;rcases z with z|⟨_,z⟩
    .exact⟨pss.length-1,(),by rw[lt];nofun⟩
    .exact XE λy=>z λi hi=>XE λu=>y ⟨i,(),u⟩
   .rintro ⟨i,hi,hn⟩;by_cases e:Dk W pss.length<0
    .exact .inl e
    .exact .inr ⟨(),λz=>hn (z i ())⟩
  walk_at"3"
  refine⟨_,(ha.same S1).len,_,e3.len,(),(),?_⟩;rw[L9 lcp];obtain⟨Pv,hPv⟩:∃Pv:Nat->St->Hp->Prop,∀i σ H',Pv i σ H' ↔ ∃o,σ=[some (.ref a),some (.ref l),some (.ref vp),o]/\LE K H1 H' /\ ∀j,j<i->Lq W (pss.length-1) j=0:=⟨_,λ_ _ _=>XH⟩;refine bY (its:=eF 0 (qs.length+1-pss.length)) Pv (λ_ _ _ _ _=>aU) ((hPv _ _ _).mpr ⟨_,rfl,.rfl,λj z=>by nofun⟩) (λi y σ H2 hi hy pv=>?_) (λσ H2 pv=>hN3 _ _ ?_)
  .obtain⟨o,rfl,S2,z2⟩:=(hPv _ _ _).mp pv;obtain⟨hi',rfl⟩:=cW hy;rw[XN];symm
   have ip:i+pss.length<=qs.length:=();obtain⟨ly,hly,rly⟩:=id (e3.same S2);have lly:ly.length=c.1.length:=by rw[rly.length,YF]
   refine⟨∅,λp3 H3 hp3 S3 h3=>⟨∅,λp4 H4 hp4 S4 h4=>?_⟩⟩;show ii K (.ref p4) (.int _) H4 _;rw[fH];refine⟨_,h4,(),(),?_,λp5 H5 hp5 S5 h5=>?_⟩
   .have:1000<=sizeLine:=∅;simp;nofun
   rw[show ((i:Nat):Int).toNat=i by nofun,iK] at h5
   have S25:=S3.trans (S4.trans S5);show gz K (.ref p5) (.ref l) H5 _;rw[dR];refine⟨_,h5,ly,S25 _ _ hly,?_,λp6 H6 hp6 S6 h6=>?_⟩
   .have:1000<=sizeLine:=∅;rw[lly];simp;nofun
   have S26:=S25.trans S6;have l6:aP (vw K H6) p6 (List.replicate i (0,1)++c.1):=by
    refine⟨_,h6,?_⟩;rw[XI,ku];exact (aF.repl (bI ((S4.trans (S5.trans S6)) _ _ h3)) i).app (rly.same S26)
   have lf6:(List.replicate i ((0:Int),(1:Int))++c.1).length=i+(pss.length-1+1):=by rw[YE,YG,lc]
   simp only[i3];refine⟨a,p6,qs,qs,_,170,1100,rfl,ha.same (S1.trans (S2.trans S26)),⟨[],by simp⟩,l6,by rw[lf6];nofun,(),hFq,λq hq=>?_,lO sq,Ce (soc.pb dn () cl.bt),∅,λv7 H7 r S7 r7 f7 w7=>?_⟩
   .rcases List.mem_append.mp hq with z|z
    .rw[(List.mem_replicate.mp z).2];exact oB
    .exact soc.po.1 q z
   rw[lf6,AF dn () soc.num cl.val] at w7;obtain⟨rp,rfl,hrp⟩:=id r7.fr_at;have n1':=ao dn;have n2':=ao (show B≠0 by nofun)
   have zz:r.1=0↔Lq W (pss.length-1) i=0:=by
    rw[<-cS f7.ne,w7];constructor
    .intro z;have:‹Lq W (pss.length-1) i›=‹0›:=by
      have c0:‹0›=0:=rfl;rw[c0];grind
     exact_mod_cast this
    .intro z;have c0:‹0›=0:=rfl;rw[z,c0];grind
   refine⟨rp,rfl,_,hrp,_,dN,rfl,cK (λhz=>?_) (λhz=>?_)⟩
   .exact h1 (hNo.mpr ⟨i,ip,λz=>hz (by rw[zz.mpr z])⟩) H7 (S1.trans (S2.trans (S26.trans S7)))
   .have hz':r.1=0:=by
     have:=Classical.not_not.mp hz;injection this
    refine (hPv _ _ _).mpr ⟨_,rfl,S2.trans (S26.trans S7),λj hj=>?_⟩;by_cases e:j=i
    .rw[e];exact zz.mp hz'
    .exact z2 j ()
  .obtain⟨o,rfl,S2,z2⟩:=(hPv _ _ _).mp pv;rw[bU] at z2;symm
   have nf:¬ oX W qs.length pss.length:=λz=>by
    obtain⟨i,hi,hn⟩:=hNo.mp z;exact hn (z2 i ())
   exact h2 nf "tight" H2 (.inr ⟨rfl,Int.le_antisymm dM (Int.not_lt.mp λz=>nf (.inl z))⟩) (S1.trans S2)
inductive ka (K:Sf)(vs:List V)(H:Hp)(Q:VK)(E:XK):Prop
 | mk (a:Addr)(y:V)(fs:Lt)(c:Int×Int):vs=[.ref a,y]->aP (vw K H) a fs->aI (vw K H) (fr c) y->fs.length<=8->(∀q∈fs,Fq q/\Bq 30000 q)->Fq c->Bq 200 c->(∀v H' q,LE K H H'->aI (vw K H') (fr q) v->Fq q->wv q=Fg fs (wv c)->Q v H')->ka K vs H Q E
theorem wj(F:Se K "_law_number_at" jM f fd)(T:dS K mg)(zCplus:⟨⟩ "_law_plus" ["_law_one","_law_other"] 3 (dW K))(zCtimes:⟨⟩ "_law_times" ["_law_one","_law_other"] 3 (dP K)):#[] 4 f fd ["_law_f","_law_x_here"] (ka K):=by
 have scN:=oK.nd;refine F.okQ oK ?_ ?_;walk_at "q"
 .obtain⟨a,_,_,_,rfl,_⟩:=h;rfl
 .obtain⟨a,y,fs,c,rfl,ha,hy,lf,hf,fc,bc,h⟩:=h;refine⟨_,(ae (L4 (i:=2) (aT (aa af (aa af ac))))
   (ae (cL PassesOwn.never rfl (cV (ID (qv 0) (fG (dD cI af)))) (L3 (i:=3)) (ag (L4 (i:=2) (Sd zCplus (aa (Sd zCtimes (aa (qv 2) (aa (qv 1) ac))) (aa (qv 3) ac))))))
   (ag (av (qv 2))))),?_⟩
  walk_at"m";symm
  simp only[Jv];symm
  obtain⟨xs,hxs,rxs⟩:=id ha;have hlx:xs.length=fs.length:=by rw[rxs.length,YF]
  refine⟨∅,λp0 H0 hp0 S0 h0=>⟨xs,S0 _ _ hxs,λp1 H1 hp1 S1 h1=>⟨p1,rfl,⟨_,.of (aN h1)⟩,?_⟩⟩⟩;obtain⟨Pv,hPv⟩:∃Pv:Nat->St->Hp->Prop,∀j σ H',Pv j σ H'↔X3 λ(v:V)(q:Int×Int)(u:Option V)=>σ=[some (.ref a),some y,some v,u]/\LE K H1 H'/\aI (vw K H') (fr q) v/\Fq q/\wv q=Fg (fs.drop (fs.length-j)) (wv c)/\Bq (1+30201*j) q:=⟨_,λ_ _ _=>XH⟩;have S01:=S0.trans S1;refine bY (its:=xs.reverse) Pv (λj σ H' _ p=>?_) ((hPv _ _ _).mpr ⟨_,(0,1),_,rfl,.rfl,bI (S1 _ _ h0),⟨∅,∅⟩,?_,⟨∅,∅⟩⟩) (λj x σ H2 hj hx pv=>?_) (λσ H2 pv=>?_)
  .obtain⟨_,_,_,_,S2,_⟩:=(hPv _ _ _).mp p;exact bK (S2 _ _ h1)
  .rw[Nat.sub_zero,List.drop_length];exact (cS ∅).mpr rfl
  .obtain⟨v,q,u,rfl,S2,r2,f2,w2,b2⟩:=(hPv _ _ _).mp pv;rw[Y9] at hj;have hj':j<fs.length:=();rw[List.getElem?_reverse hj] at hx;obtain⟨d,e,r⟩:=rxs.get hx;rw[hlx,YC,YU (show fs.length-1-j<fs.length by nofun)] at e
   cases e;obtain⟨k1,k2⟩:=hf _ (YT (show fs.length-1-j<fs.length by nofun))
   have hd:=rQ hj';symm
   simp only[dP];symm
   refine⟨q,r2,c,aI.same (S01.trans S2) _ _ hy,f2.ne,fc.ne,b2.mono (),bc.mono ∅,(b2.2.mul bc.2).mono (),λv3 H3 S3 r3=>?_⟩;have f3:=gG f2 fc;have b3:=kr f2 fc b2 bc;simp only[dW];symm
   refine⟨_,r3,_,aI.same (S01.trans (S2.trans S3)) _ _ r,f3.ne,k1.ne,b3.mono (),k2.mono ∅,(b3.2.mul k2.2).mono (),λv4 H4 S4 r4=>(hPv _ _ _).mpr ⟨_,_,_,rfl,S2.trans (S3.trans S4),r4,fY f3 k1,?_,(ja f3 k1 b3 k2).mono ()⟩⟩;rw[lP f3.ne k1.ne,i7 f2.ne fc.ne,w2,hd];show _=wv _+wv c*Fg (fs.drop (fs.length-j)) (wv c);grind
  .obtain⟨v,q,u,rfl,S2,r2,f2,w2,b2⟩:=(hPv _ _ _).mp pv;rw[Y9,hlx,XF,List.drop_zero] at w2;symm
   exact h v H2 q (S01.trans S2) r2 f2 w2
def uh(K:Sf):Sp:=λvs H Q _=>∃x d,vs=[x]/\aI (vw K H) d x/\Q (.bl d.isInt) H
theorem Fw(F:Se K "_law_whole" tK f fd)(T:dS K mg):#[] 1 f fd ["_law_thing"] (uh K):=by
 have scN:=yZ.nd;refine F.okQ yZ ?_ ?_;walk_at "q"
 .obtain⟨a,_,rfl,_⟩:=h;rfl
 .obtain⟨x,d,rfl,hx,h⟩:=h;refine⟨_,(ag (av (lN (ai cQ (by rfl) T.b_isinstance aM (aa (qv 0) (aa (dZ (v:=V.ty "int") rfl T.b_int Cj rfl) ac))) (jX (Jc (ai cQ (by rfl) T.b_isinstance aM (aa (qv 0) (aa (dZ (v:=V.ty "bool") rfl T.b_bool tG rfl) ac)))))))),?_⟩
  walk_at"m";have ht:=aI.ty hx;walk_at"vc*";cases d<;>simpa [D.ty,gA,D.isInt] using h
def iD(K:Sf):Sp:=λvs H Q _=>∃x d,vs=[x]/\aI (vw K H) d x/\Q (.bl d.frac) H
theorem rF(F:Se K "_law_is_fraction" iH f fd)(T:dS K mg)
  (zCdivisor:⟨⟩ "_law_divisor" ["_law_one","_law_other"] 1 (iN K)) (zCwhole:⟨⟩ "_law_whole" ["_law_thing"] 1 (uh K)):#[] 2 f fd ["_law_thing"] (iD K):=by
 have scN:=kL.nd;refine F.okQ kL ?_ ?_;walk_at "q"
 .obtain⟨a,_,rfl,_⟩:=h;rfl
 .obtain⟨x,d,rfl,hx,h⟩:=h;refine⟨_,(ae (bQ (QW.pt (gN (dX (eH (ai cQ (by rfl) T.b_isinstance aM (aa (qv 0) (aa (dZ (v:=V.ty "tuple") rfl T.b_tuple jN rfl) ac))))) (gN (aD kU (s!"" (aa (qv 0) ac)) af (aC _)) (gN (dX (eH (Sd zCwhole (aa (aA b9 (qv 0) af ‹9›) ac)))) (ig (dX (eH (Sd zCwhole (aa (aA b9 (qv 0) af ‹9›) ac))))))))) (ag (av iz)) aL)
   (ag (av (lN (du jz (aA b9 (qv 0) af ‹9›) af (aC _)) (jX (du dY (Sd zCdivisor (aa (aA b9 (qv 0) af ‹9›) (aa (aA b9 (qv 0) af ‹9›) ac))) af (aC _))))))),?_⟩
  walk_at"m";have ht:=aI.ty hx;walk_at"vc*";simp only[uh,iN];walk_at"vc*";cases d with
  | tup ds =>
   obtain⟨a,xs,rfl,ha,r⟩:=hx.tup_at;refine fz (by simp[D.ty,gA]) ⟨a,rfl,xs.length,by simp only[el,ha],cK (λhl=>?_) (λhl=>?_)⟩
   .have e:(D.tup ds).frac=false:=by
     cases e:(D.tup ds).frac with
     | false=>rfl
     | true =>
      obtain⟨_,_,rfl,_⟩:=D.frac_tup e;have:=r.length;simp at this;nofun
    rw[e] at h;exact h
   .obtain⟨d1,d2,x1,x2,rfl,rfl,r1,r2⟩:=r.pair ();refine⟨a,rfl,_,ha,_,dN,d1,r1,cK (λi1=>?_) (λi1=>⟨a,rfl,_,ha,_,jF,d2,r2,cK (λi2=>?_) (λi2=>?_)⟩)⟩
    .cases d1<;>first|exact h|cases i1
    .cases d1<;>cases d2<;>first|exact h|cases i2
    .obtain⟨i1',rfl⟩:=D.isInt_of i1;obtain⟨i2',rfl⟩:=D.isInt_of i2;cases r1.int_at;cases r2.int_at;refine⟨a,rfl,_,ha,_,jF,_,rfl,cK (λhi=>⟨a,rfl,_,ha,_,dN,a,rfl,_,ha,_,jF,?_⟩) (λhi=>?_)⟩
     .have e:=Eo (t:=i1') (b:=i2') ();rw[e] at h;exact⟨_,rfl,_,rfl,h⟩
     .have e:=Fe (t:=i1') (b:=i2') ();rw[e] at h;exact h
  | _=>exact kK (by simp[D.ty,gA]) h
inductive gx (K:Sf)(vs:List V)(H:Hp)(Q:VK)(E:XK):Prop
 | mk (x d:_):vs=[x]->aI (vw K H) d x->d.len<=1000->(∀H',LE K H H'->Q (.bl d.poly) H')->gx K vs H Q E
theorem oQ(F:Se K "_law_is_polynomial" gu f fd)(T:dS K mg)(zCis_fraction:⟨⟩ "_law_is_fraction" ["_law_thing"] 2 (iD K)):#[] 3 f fd ["_law_thing"] (gx K):=by
 have scN:=jC.nd;refine F.okQ jC ?_ ?_;walk_at "q"
 .obtain⟨a,_,rfl,_⟩:=h;rfl
 .obtain⟨x,d,rfl,hx,hdl,h⟩:=h;refine⟨_,(ae (bQ (QW.pt (gN (dX (eH (ai cQ (by rfl) T.b_isinstance aM (aa (qv 0) (aa (dZ (v:=V.ty "list") rfl T.b_list fN rfl) ac))))) (ig (aD (BN hr.ul) (cR (own:=["_law_one"]) (outs:=[]) (ixs:=[]) rfl (cV (qv 0)) rfl ⟨rfl,rfl,rfl,trivial,rfl,trivial⟩ (λ_ _ _ _=>⟨(am (i:=0) ‹["_law_one"]› rfl (·)),(C6 (dX (eH (Sd zCis_fraction (aa (qv 0) ac))))),(qv 0)⟩)) (aS ac) (aC _))))) (ag (av iz)) aL)
   (ag (av (KG (du (qQ hr.ul) (qv 0) (aS ac) (aC _)) (jX (du (sZ hr.u64) (aA cH (qv 0) (dD cI af) ‹9›) (aT (aa af (aa af ac))) (aC _))))))),?_⟩
  walk_at"m";have ht:=aI.ty hx;walk_at"vc*";cases d with
  | lst ds =>
   obtain⟨a,xs,rfl,ha,r⟩:=hx.lst_at;refine fz (by simp[D.ty,gA]) ⟨a,rfl,⟨xs,.of (aN ha)⟩,λc H2 hc S2 h2=>?_⟩
   have hac:a≠c:=aj ha hc;refine bH (its:=xs) (λi ys H'=>LE K H H'/\(ys=[]↔(ds.take i).all D.frac=true)/\ys.length<=i) (λi ys H' _ _ p=>bK (p.1 _ _ ha)) h2 ⟨S2,by simp,Yr _⟩ (λi x ys H' hi hx' h' p=>?_) (λys H' h' p=>?_)
   .obtain⟨S',hall,hlen⟩:=p;obtain⟨d',hd',r'⟩:=r.get hx';have e1:(ds.take (i+1)).all D.frac=((ds.take i).all D.frac && d'.frac):=by
     rw[Xj,hd'];simp
    symm
    simp only[iD];symm
    refine⟨d',aI.same S' _ _ r',cK (λhf=>?_) (λhf=>?_)⟩
    .refine .mk h' ?_ λH5 B5 h5=>⟨λb o e=>B5 _ _ (aj e hc) (S' _ _ e),?_,?_⟩
     .have h1:ds.length<=1000:=hdl;have h2:=r.length;have h3:1000<=sizeLine:=∅;nofun
     .rw[e1,hf];simp
     .simp;nofun
    .refine .mk h' ⟨S',?_,()⟩;rw[e1,hall];simp[hf]
   .obtain⟨S',hall,hlen⟩:=p;rw[r.length,Xl] at hall;refine⟨∅,λp1 H3 hp1 S3 h3=>⟨p1,rfl,ys,S3 _ _ h',h3,?_⟩⟩;cases hys:ds.all D.frac with
    | false =>
     refine kK ?_ ?_
     .cases ys with
      | nil=>rw[hall.mp rfl] at hys;cases hys
      | cons _ _=>rfl
     .have e:(D.lst ds).poly=false:=by
       show (ds.all D.frac && lK ds)=_;rw[hys];rfl
      rw[e] at h;exact h _ (S'.trans S3)
    | true =>
     refine fz ?_ ?_
     .rw[hall.mpr hys];simp
     .refine⟨∅,λp2 H4 hp2 S4 h4=>⟨a,rfl,p2,rfl,xs,(S'.trans (S3.trans S4)) _ _ ha,h4,cK (λh0=>?_) (λh0=>?_)⟩⟩
      .have e:ds=[]:=by
        have:=r.length;have z:xs=[]:=by simpa using h0
        rw[z] at this;exact List.eq_nil_of_length_eq_zero this.symm
       subst e;exact h _ (S'.trans (S3.trans S4))
      .have hn:ds≠[]:=by
        rintro rfl;cases r.nil_at;exact h0 rfl
       obtain⟨q,hq,fq⟩:=yk hys hn;obtain⟨x,hx',rx⟩:=r.last hq;refine⟨a,rfl,xs,(S'.trans (S3.trans S4)) _ _ ha,x,fX hx',∅,λp5 H5 hp5 S5 h5=>?_⟩;have S05:=S'.trans (S3.trans (S4.trans S5));refine⟨_,aI.same S05 _ _ rx,fr (0,1),bI h5,fe _,fe _,?_⟩;rw[nV];have e:(D.lst ds).poly = !decide (q=(0,1)):=by
        show (ds.all D.frac && lK ds)=_;rw[hys,Bool.true_and];exact rR hq
       rw[e] at h;exact h _ S05
  | _=>exact kK (by simp[D.ty,gA]) (h _ (λ_ _ z=>z))
theorem BM:∀(qs:Lt),(∀q∈qs,0<q.2) -> ∃B:Int,0<B/\(∀q∈qs,q.2∣B) /\ ∀E:Int,(∀q∈qs,q.2∣E)->B∣E
 | [],_=>⟨1,∅,by simp,λE _=>Int.one_dvd E⟩
 | q::qs,h=>by
  obtain⟨B,h0,h1,h2⟩:=BM qs λx hx=>h x (Yk _ hx);have hq:=h q Yj;refine⟨(Int.lcm q.2 B:Int),?_,λx hx=>?_,λE hE=>?_⟩
  .have:=Int.lcm_pos (m:=q.2) (n:=B) () ();nofun
  .rcases Y2.mp hx with z|z
   .rw[z];exact Int.dvd_lcm_left q.2 B
   .exact Int.dvd_trans (h1 x z) (Int.dvd_lcm_right q.2 B)
  .refine Int.natAbs_dvd_natAbs.mp ?_;show Nat.lcm q.2.natAbs B.natAbs∣E.natAbs;exact Nat.lcm_dvd (Int.natAbs_dvd_natAbs.mpr (hE q Yj)) (Int.natAbs_dvd_natAbs.mpr (h2 E λx hx=>hE x (Yk _ hx)))
theorem Bx(sq:∀q∈qs,gn q):∃(W:Nat->Int)(B:Int),oN qs W B:=by
 obtain⟨B,h0,h1,h2⟩:=BM qs λq hq=>(sq q hq).1.1;have c0:‹0›=0:=rfl;obtain⟨W,hW⟩:∃W:Nat->Int,∀i,‹W i›=cf qs i*(B:Rat):=by
  have:∀i,∃n:Int,(n:Rat)=cf qs i*(B:Rat):=λi=>by
   cases e:qs[i]? with
   | none =>
    refine⟨0,?_⟩;rw[aJ (List.getElem?_eq_none_iff.mp e),c0];grind
   | some q =>
    have hq:=YD e;obtain⟨d,hd⟩:=h1 q hq;have n2:=ao (sq q hq).1.ne;refine⟨q.1*d,?_⟩;rw[aH e,hd,Xi,Xi];unfold wv;grind
  exact⟨λi=>(this i).choose,λi=>(this i).choose_spec⟩
 refine⟨W,B,h0,hW,h2,λi=>?_⟩;obtain⟨D,d0,bD,o⟩:=lO sq;have dv:B∣D:=h2 D λq hq=>by
  obtain⟨j,hj⟩:=XQ hq;obtain⟨n,hn,_⟩:=o j;rw[aH hj] at hn;have fq:=(sq q hq).1;have n1:=ao fq.ne;have n2:=ao d0;have e:‹q.1*D›=‹n*q.2›:=by
   rw[Xi,Xi];unfold wv at hn;grind
  have e2:q.1*D=n*q.2:=by exact_mod_cast e
  have g2:Int.gcd q.2 q.1=1:=by rw[Int.gcd_comm];exact fq.2
  exact Int.natAbs_dvd_natAbs.mp (Nat.Coprime.dvd_of_dvd_mul_left (k:=q.2.natAbs) (m:=q.1.natAbs) (n:=D.natAbs) g2 (by rw[<-YZ,e2];exact Int.natAbs_dvd_natAbs.mpr ⟨n,Xd _ _⟩))
 obtain⟨n,hn,bn⟩:=o i;have n2:=ao d0;have e:‹W i*D›=‹n*B›:=by
  rw[Xi,Xi,hW i,hn];grind
 have e2:W i*D=n*B:=by exact_mod_cast e
 have e3:(W i).natAbs*D.natAbs=n.natAbs*B.natAbs:=by rw[<-YZ,e2,YZ]
 have le:=Nat.le_of_dvd () (Int.natAbs_dvd_natAbs.mpr dv);have l2:n.natAbs*B.natAbs<=n.natAbs*D.natAbs:=Xz _ le;have l3:(W i).natAbs<=n.natAbs:=Nat.le_of_mul_le_mul_right (by nofun:(W i).natAbs*D.natAbs<=n.natAbs*D.natAbs) ()
 unfold Bt at bn ⊢;nofun
theorem GF{W:Nat->Int}(h:1<=n):∃M,lj W n M:=by
 have step:∀f M,1<=M->2*M<=n+1->(∀i,i<M->0<Dk W i)->n<=M+f -> ∃M',lj W n M':=by
  intro f;induction f with
  | zero=>exact λM h1 h2 h3 h4=>⟨M,h1,h3,h2,.inl ()⟩
  | succ f ih =>
   intro M h1 h2 h3 h4;by_cases e:n<=2*M\/Dk W M<=0
   .exact⟨M,h1,h3,h2,e⟩
   .have e1:¬ n<=2*M:=λz=>e (.inl z);have e2:¬ Dk W M<=0:=λz=>e (.inr z);refine ih (M+1) () () (λi hi=>?_) ();by_cases z:i=M
    .rw[z];nofun
    .exact h3 i ()
 exact step n 1 ∅ () (λi hi=>by rw[show i=0 by nofun,Az];decide) ()
theorem rP{ts:Lt}(ft:∀q∈ts,Fq q)(fq:∀q∈qs,Fq q)(h1:n<=ts.length)(h2:n<=qs.length)(e:∀k,k<n->cf ts k=cf qs k):ts.take n=qs.take n:=by
 refine List.ext_getElem (by rw[Yx,Yx];nofun) λi a b=>?_
 rw[Yx] at a b;rw[List.getElem_take,List.getElem_take];have i1:i<ts.length:=();have i2:i<qs.length:=();have:=e i ();rw[aH (YU i1),aH (YU i2)] at this;exact lA (ft _ (YT i1)) (fq _ (YT i2)) this
theorem mw(h:k<n):cf (qs.take n) k=cf qs k:=by
 by_cases hk:k<qs.length
 .rw[aH (q:=qs[k]) (by rw[Xo,Yb h,YU hk]),aH (YU hk)]
 .rw[aJ (by rw[Yx];nofun),aJ ()]
inductive lD (K:Sf)(vs:List V)(H:Hp)(Q:VK)(E:XK):Prop
 | mk (p b w:Addr)(rs qs ws:Lt)(d:Nat):vs=[.ref p]->vw K H p=some (.tup [.ref b,.ref w])->aP (vw K H) b rs->aP (vw K H) w ws->Gf rs qs ws d->DN (cf qs) d->2*d<=qs.length+1->qs.length<=11->(∀q∈qs,gn q)->(∀H',LE K H H'->Q (.bl true) H')->lD K vs H Q E
theorem xg(F:Se K "_law_is_flock" lH f fd)(T:dS K mg)(zCis_polynomial:⟨⟩ "_law_is_polynomial" ["_law_thing"] 3 (gx K))(zCsteps:⟨⟩ "_law_steps" ["_law_sums_here"] 7 (mB K))(zCflock_sums:⟨⟩ "_law_flock_sums" ["_law_flock","_law_many"] 5 (gJ K)):#[] 8 f fd ["_law_thing"] (lD K):=by
 have scN:=ql.nd;refine F.okQ ql ?_ ?_;walk_at "q"
 .obtain⟨_,_,_,_,_,_,_,rfl,_⟩:=h;rfl
 .obtain⟨p,b,w',rs,qs,ws,d,rfl,hp,hb,hw,fo,pos,len,l11,sq,h⟩:=h;have lr:=fo.lr;have d6:=fo.d6;have lw:=fo.lw;refine⟨_,(ae (bQ (QW.pt (gN (dX (eH (ai cQ (by rfl) T.b_isinstance aM (aa (qv 0) (aa (dZ (v:=V.ty "tuple") rfl T.b_tuple jN rfl) ac))))) (ig (aD kU (s!"" (aa (qv 0) ac)) af (aC _))))) (ag (av iz)) aL)
   (ae (bQ (QW.pt (gN (dX (eH (Sd zCis_polynomial (aa (aA b9 (qv 0) af ‹9›) ac)))) (ig (dX (eH (Sd zCis_polynomial (aa (aA b9 (qv 0) af ‹9›) ac))))))) (ag (av iz)) aL)
   (ae (cJ (qv 0) (aY (n:=2) rfl (au (L3 (i:=1)) (au (L3 (i:=2)) aX))))
   (ae (bQ (QW.pt (gN (dX (vE yz yz af (s!"" (aa (qv 1) ac)) af (zK _ _))) (gN (aD (sZ hr.u64) (aA cH (qv 1) (dD cI af) ‹9›) (aT (aa af (aa af ac))) (aC _)) (ig (aD GN (s!"" (aa (qv 2) ac)) (s!"" (aa (qv 1) ac)) (aC _)))))) (ag (av iz)) aL)
   (ae (bQ (aD dY (s!"" (aa (qv 1) ac)) af (aC _)) (ag (av iz)) aL)
   (ae (L4 (i:=3) (Sd zCsteps (aa (Sd zCflock_sums (aa (qv 0) (aa (aq cp (aq aO af (s!"" (aa (qv 1) ac))) af) ac))) ac)))
   (ag (av (lN (du dY (s!"" (aa (qv 3) ac)) (aq cp (s!"" (aa (qv 1) ac)) af) (aC _)) (jX (du jz (aA b9 (aA b9 (aA cH (qv 3) (dD cI af) ‹9›) af ‹9›) af ‹9›) af (aC _)))))))))))),?_⟩
  walk_at"m";skip
  walk_at"1"
  refine⟨"tuple",by simp only[El,hp],?_⟩
  refine fz (by simp[gA]) ⟨2,by simp only[el,hp];rfl,fz (λz=>z rfl) (hN1 _ _ ?_)⟩
  have pR:(D.lst (rs.map fr)).poly=true:=zD fo.po.1 fo.po.2;have pW:(D.lst (ws.map fr)).poly=true:=zD fo.pw.1 fo.pw.2;walk_at"2"
  refine⟨_,hp,_,dN,_,_,rfl,hb.rep,by show (rs.map fr).length<=1000;rw[YF];nofun,λH1 S1=>?_⟩
  rw[pR];refine⟨true,rfl,?_⟩;refine fz (by simp) ⟨_,S1 _ _ hp,_,jF,_,_,rfl,(hw.same S1).rep,by show (ws.map fr).length<=1000;rw[YF];nofun,λH2 S2=>?_⟩
  rw[pW];refine⟨true,rfl,fz (by simp) (hN2 _ _ ?_)⟩
  have S02:=S1.trans S2;walk_at"3"
  refine⟨_,S02 _ _ hp,rfl,_,_,rfl,_,_,rfl,rfl,hN3 _ _ ?_⟩;walk_at"4"
  simp only[tu];symm
  have hrd:d<rs.length:=();have last:rs[d]=(1,1):=lA (fo.po.1 _ (YT hrd)) (by exact⟨∅,by decide +kernel⟩) (by
   have e:wv (1,1)=1:=by decide +kernel
   rw[e,<-fo.one,aH (YU hrd)])
  obtain⟨zr,hzr,rzr⟩:=hb.same S02;obtain⟨xl,exl,rxl⟩:=rzr.at (i:=d) (d:=fr rs[d]) (by rw[YC,YU hrd];rfl)
  have lzr:zr.length=d+1:=by have:=rzr.length;rw[YF] at this;nofun
  rw[last] at rxl;refine⟨_,(hb.same S02).len,kK () ?_⟩;refine fz (by simp;nofun) ?_
  refine⟨zr,hzr,xl,ie (n:=d) lzr exl,∅,λa3 H3 n3 S3 h3=>⟨_,aI.same S3 _ _ rxl,fr (1,1),bI h3,fe _,fe _,?_⟩⟩;have S03:=S02.trans S3;refine fz (by rw[j4 (fe _)];decide) ⟨_,(hw.same S03).len,_,(hb.same S03).len,fz () (hN4 _ _ ?_)⟩
  walk_at"5"
  refine⟨_,(hb.same S03).len,cK (λ_=>h _ S03) (λe1=>hN5 _ _ ?_)⟩;have d1:1<=d:=();obtain⟨M,rfl⟩:∃M,d=M+1:=⟨d-1,()⟩;refine aK.gen λN6 hN6=>?_;symm
  refine⟨_,(hb.same S03).len,gF ∅,?_⟩;rw[show (2*(rs.length:Int)-3)=((2*M+1:Nat):Int) by nofun]
  refine⟨p,b,w',rs,qs,ws,M+1,2*M+1,rfl,S03 _ _ hp,hb.same S03,hw.same S03,fo,(),λc4 H4 ts S4 n4 l4 lt ft et rt=>?_⟩;have ets:ts=qs.take (2*M+1):=by
   have:=rP ft (λq hq=>(sq q hq).1) (n:=2*M+1) () () λk hk=>et k hk ()
   rwa [List.take_of_length_le ()] at this
  have sqt:∀q∈ts,gn q:=λq hq=>by
   rw[ets] at hq;exact sq q (Xs hq)
  obtain⟨W,B,cl⟩:=Bx sqt;have hD:=K3 cl.pos cl.val (pos.congr (T:=cf ts) λi hi=>et i () ());have S04:=S03.trans S4;refine⟨c4,ts,W,B,rfl,l4,(),(),sqt,cl,λt5 H5 pss S5 n5 my lp so=>hN6 _ _ ?_⟩;have lps:pss.length=M+1:=by
   have a:=my.most;rw[lt] at a;rcases Xw pss.length (M+1) with z|z
   .rcases my.all with y|y
    .nofun
    .have:=hD pss.length ();nofun
   .nofun
  obtain⟨xs,hxs,lxs,hx⟩:=lp;have hM:M<pss.length:=();obtain⟨x,l,v,ex,hx2,_,rv,_⟩:=hx M _ (YU hM);have sM:=so M _ (YU hM);obtain⟨x8,rfl,hx8⟩:=rv.fr_at;symm
  refine⟨xs.length,by simp only[el,hxs],_,(hb.same (S04.trans S5)).len,kK () ⟨xs,hxs,_,ie (n:=M) () ex,_,rfl,_,hx2,_,jF,_,rfl,_,hx8,_,dN,_,rfl,?_⟩⟩
  rw[YS ((sM.sgn cl.pos (hD M ())).mpr (hD (M+1) (Yr _)))];exact h _ (S04.trans S5)
inductive CL (K:Sf)(vs:List V)(H:Hp)(Q:VK)(E:XK):Prop
 | mk (p b w a:Addr)(rs qs ws:Lt)(d:Nat):vs=[.ref p,.ref a]->vw K H p=some (.tup [.ref b,.ref w])->aP (vw K H) b rs->aP (vw K H) w ws->aP (vw K H) a qs->Gf rs qs ws d->DN (cf qs) d->2*d<=qs.length+1->qs.length<=11->(∀q∈qs,gn q)->(∀H',LE K H H'->Q (.bl true) H')->CL K vs H Q E
theorem K4(F:Se K "_law_has" Dj f fd)(T:dS K mg)(zCis_flock:⟨⟩ "_law_is_flock" ["_law_thing"] 8 (lD K))(zCflock_sums:⟨⟩ "_law_flock_sums" ["_law_flock","_law_many"] 5 (gJ K)):#[] 9 f fd ["_law_flock","_law_sums_here"] (CL K):=by
 have scN:=Hd.nd;refine F.okQ Hd ?_ ?_;walk_at "q"
 .obtain⟨_,_,_,_,_,_,_,_,rfl,_⟩:=h;rfl
 .obtain⟨p,b,w',a,rs,qs,ws,d,rfl,hp,hb,hw,ha,fo,pos,len,l11,sq,h⟩:=h;refine⟨_,(ag (av (lN (Sd zCis_flock (aa (qv 0) ac)) (jX (du (gW hr.u64) (Sd zCflock_sums (aa (qv 0) (aa (s!"" (aa (qv 1) ac)) ac))) (qv 1) (aC _)))))),?_⟩
  walk_at"m";symm
  refine⟨p,b,w',rs,qs,ws,d,rfl,hp,hb,hw,fo,pos,len,l11,sq,λH1 S1=>⟨_,rfl,kK rfl ⟨_,(ha.same S1).len,p,b,w',rs,qs,ws,d,_,rfl,S1 _ _ hp,hb.same S1,hw.same S1,fo,(),λc2 H2 ts S2 n2 l2 lt ft et rt=>?_⟩⟩⟩;have ets:ts=qs:=by
   have:=rP ft (λq hq=>(sq q hq).1) (n:=qs.length) () () λk hk=>et k hk hk
   rwa [List.take_of_length_le (),List.take_of_length_le ()] at this
  subst ets;refine⟨_,l2.rep,_,((ha.same S1).same S2).rep,gB _,gB _,?_⟩;rw[j4 (gB _)];exact h _ (S1.trans S2)
def j6(n:Nat)(K:Sf):Sp:=λvs H Q _=>∃x y d,vs=[x,y]/\aI (vw K H) d x/\aI (vw K H) d y/\d.sm n=true /\ ∀H',LE K H H'->Q (.bl true) H'
theorem HS(F:Se K "_law_same" kY f fd)(T:dS K mg)(zCsame:⟨⟩ "_law_same" ["_law_found","_law_due"] (n+1) (j6 n K)):#[] (n+2) f fd ["_law_found","_law_due"] (j6 (n+1) K):=by
 have scN:=xE.nd;refine F.okQ xE ?_ ?_;walk_at "q"
 .obtain⟨a,_,_,rfl,_⟩:=h;rfl
 .obtain⟨x,y,d,rfl,hx,hy,hd,h⟩:=h;refine⟨_,(ae (bQ (eH (ai rB (by rfl) T.b_isinstance aM (aa (qv 1) (aa (aT (aa (dZ (v:=V.ty "tuple") rfl T.b_tuple jN rfl) (aa (dZ (v:=V.ty "list") rfl T.b_list fN rfl) ac))) ac)))) (ae (bQ (QW.pt (gN (aD kU (ai cQ (by rfl) T.b_isinstance aM (aa (qv 0) (aa (dZ (v:=V.ty "tuple") rfl T.b_tuple jN rfl) ac))) (ai cQ (by rfl) T.b_isinstance aM (aa (qv 1) (aa (dZ (v:=V.ty "tuple") rfl T.b_tuple jN rfl) ac))) (aC _)) (ig (aD kU (ai cQ (by rfl) T.b_isinstance aM (aa (qv 0) (aa (dZ (v:=V.ty "list") rfl T.b_list fN rfl) ac))) (ai cQ (by rfl) T.b_isinstance aM (aa (qv 1) (aa (dZ (v:=V.ty "list") rfl T.b_list fN rfl) ac))) (aC _))))) (ag (av iz)) aL)
   (ae (bQ (aD kU (s!"" (aa (qv 0) ac)) (s!"" (aa (qv 1) ac)) (aC _)) (ag (av iz)) aL)
   (ag (av (ai (AI rfl) (by rfl) T.b_all HU (aa (cR (own:=["_law_one","_law_other"]) (outs:=[]) (ixs:=[]) rfl (xS rfl T.b_zip (aa (qv 0) (aa (qv 1) ac))) rfl ⟨rfl,rfl,rfl,trivial,rfl,trivial⟩ (λ_ _ _ _=>⟨(show QG _ _ (jw K 2 _) from aY (n:=2) rfl (au (am (i:=0) ‹["_law_one","_law_other"]› rfl (·)) (au (am (i:=1) ‹["_law_one","_law_other"]› rfl (·)) aX))),cY,(Sd zCsame (aa (qv 0) (aa (qv 1) ac)))⟩)) ac)))))) aL)
   (ag (av (lN (du dY (qv 0) (qv 1) (aC _)) (jX (du dY (ai cQ (by rfl) T.b_isinstance aM (aa (qv 0) (aa (dZ (v:=V.ty "bool") rfl T.b_bool tG rfl) ac))) (ai cQ (by rfl) T.b_isinstance aM (aa (qv 1) (aa (dZ (v:=V.ty "bool") rfl T.b_bool tG rfl) ac))) (aC _))))))),?_⟩
  walk_at"m";have tx:=aI.ty hx;have ty:=aI.ty hy;walk_at"vc*";refine⟨∅,λp0 H1 hp0 S1 h1=>?_⟩;have hx1:=aI.same S1 _ _ hx;have hy1:=aI.same S1 _ _ hy;have tx1:=aI.ty hx1;have ty1:=aI.ty hy1;refine⟨d.ty,p0,rfl,h1,ty1,?_⟩;have seq:∀(b:Bool)(ds:List D)(p q:Addr)(xs ys:List V),qH K b H1 p xs->qH K b H1 q ys->aF (vw K H1) ds xs->aF (vw K H1) ds ys->ds.length<=1000->ds.all (D.sm n)=true ->
    Ag K (md (rG 0) (md (rG 1) At)) [some (.ref p),some (.ref q)] H1 λJ H1=>∀(a:Addr)(H2:Hp),vw K H1 a=none->LE K H1 H2->vw K H2 a=some (HO.lst []) ->
     oh K J (jw K 2 (jH (gj 0) (jH (gj 1) wk))) Gu (FJ (j6 n K) (md (rG 0) (md (rG 1) At))) a [none,none] H2 λH1=>∃bs,vw K H1 a=some (HO.lst (List.map V.bl bs))/\Q (V.bl (bs.all id)) H1:=by
   intro b ds p q xs ys sp sq rx ry hl hs;simp only[Ag];symm
   refine⟨b,⟨xs,sp⟩,b,⟨ys,sq⟩,λc H2 hc S2 h2=>?_⟩;have lx:=rx.length;have ly:=ry.length;refine ot (ps:=xs.zip ys) (λi zs H'=>LE K H1 H'/\zs=List.replicate i (V.bl true)) (λi zs H' _ _ pv=>⟨xs,ys,pv.1 _ _ sp,pv.1 _ _ sq,qL.symm⟩) h2 ⟨S2,rfl⟩ (λi u v zs H3 H4 hi huv h4 pv S4=>?_) (λzs H3 h3 pv=>?_)
   .obtain⟨S3,rfl⟩:=pv;obtain⟨d',hd',r1,r2⟩:=Ir rx ry huv;have S14:=S3.trans S4;symm
    simp only[j6];symm
    refine⟨d',aI.same S14 _ _ r1,aI.same S14 _ _ r2,List.all_eq_true.mp hs d' hd',λH5 S5=>.mk2 (S5 _ _ h4) ?_ λH6 B6 h6=>⟨λa o e=>B6 _ _ (aj e hc) (S5 _ _ (S14 _ _ e)),?_⟩⟩
    .rw[YG];have:1000<=sizeLine:=∅;simp at hi;nofun
    .rw[<-List.replicate_succ',YK]
   .obtain⟨S3,rfl⟩:=pv;refine⟨List.replicate (xs.zip ys).length true,?_,?_⟩
    .rw[List.map_replicate];exact h3
    .have e:(List.replicate (xs.zip ys).length true).all id=true:=by simp
     rw[e];exact h _ (S1.trans S3)
  cases d with
  | tup ds =>
   obtain⟨p,xs,rfl,hp,rx⟩:=hx1.tup_at;obtain⟨q,ys,rfl,hq,ry⟩:=hy1.tup_at;have hsm:(decide (ds.length<=1000) && ds.all (D.sm n))=true:=hd;rw[YI] at hsm;have e:xs.length=ys.length:=by rw[rx.length,ry.length]
   exact kK (by simp[D.ty,gA]) ⟨_,tx1,_,ty1,fz (λz=>z rfl) ⟨_,tx1,_,ty1,fz (λz=>z rfl) ⟨p,rfl,xs.length,by simp only[el,hp],q,rfl,ys.length,by simp only[el,hq],fz (λz=>z (by rw[e])) (seq false ds p q xs ys hp hq rx ry (XJ hsm.1) hsm.2)⟩⟩⟩
  | lst ds =>
   obtain⟨p,xs,rfl,hp,rx⟩:=hx1.lst_at;obtain⟨q,ys,rfl,hq,ry⟩:=hy1.lst_at;have hsm:(decide (ds.length<=1000) && ds.all (D.sm n))=true:=hd;rw[YI] at hsm;have e:xs.length=ys.length:=by rw[rx.length,ry.length]
   exact kK (by simp[D.ty,gA]) ⟨_,tx1,_,ty1,fz (λz=>z rfl) ⟨_,tx1,_,ty1,fz (λz=>z rfl) ⟨p,rfl,xs.length,by simp only[el,hp],q,rfl,ys.length,by simp only[el,hq],fz (λz=>z (by rw[e])) (seq true ds p q xs ys hp hq rx ry (XJ hsm.1) hsm.2)⟩⟩⟩
  | dict=>cases hd
  | _ =>
   unfold aI at hx1 hy1;subst hx1 hy1;refine fz (by simp[D.ty,gA]) ⟨rfl,kK rfl ⟨_,tx1,_,ty1,?_⟩⟩
   have:=h H1 S1;simpa using this
theorem kX(F:Se K "_law_same" kY f fd)(T:dS K mg)(hm:mg "_law_same"=some (.ref f))(hk:keepIn K (.ref f)=true)(hb:kW K fd ["_law_found","_law_due"] []):
  ∀n,⟨⟩ "_law_same" ["_law_found","_law_due"] (n+1) (j6 n K)
 | 0=>⟨f,fd,F.okQ xE (λvs H Q E h=>by obtain⟨_,_,d,_,_,_,z,_⟩:=h;cases d<;>cases z) (λcdv A outer s H vs Q E hr h=>by obtain⟨_,_,d,_,_,_,z,_⟩:=h;cases d<;>cases z),hm,hk,hb⟩
 | n+1=>⟨f,fd,HS F T (kX F T hm hk hb n),hm,hk,hb⟩
theorem Ay(F:Se K "_law_refused" nD f fd)(T:dS K mg){A:Around}{outer:List Env}{s:Shared}{H:Hp}{p C:Addr}{i kl:Nat}{Q:VK}(hb:kW K fd ["_law_call"] [])(hr0:dE (kl+1) A)(e0:rE P w K mg base A outer s H)(L_:Lb P w K mg base kl p C s H outer)(Z:Ac K mg C i)(hi:i<9)
  (h:∀q H',LE K H H'->vw K H q=none->vw K H' q=some (.lst [.int i])->Q (.ref q) H'):codeAny (model P w) A (.call (.ref f) ⟨[.ref p],[]⟩) (CR dy outer P w H s Q E0) s:=by
 have scN:=si.nd;refine F.runQ si hr0 e0 hb (vs:=[.ref p]) (.cons rfl .nil) rfl λcdv hr=>?_;have hrL:=hr;obtain⟨z_NoFraction,hg_NoFraction,k0⟩:=Z.kinds 0 _ rfl;obtain⟨z_NoPolynomial,hg_NoPolynomial,k1⟩:=Z.kinds 1 _ rfl;obtain⟨z_NoSums,hg_NoSums,k2⟩:=Z.kinds 2 _ rfl;obtain⟨z_NoFlock,hg_NoFlock,k3⟩:=Z.kinds 3 _ rfl;obtain⟨z_NoWalk,hg_NoWalk,k4⟩:=Z.kinds 4 _ rfl;obtain⟨z_NoSum,hg_NoSum,k5⟩:=Z.kinds 5 _ rfl;obtain⟨z_NoDeed,hg_NoDeed,k6⟩:=Z.kinds 6 _ rfl;obtain⟨z_NoText,hg_NoText,k7⟩:=Z.kinds 7 _ rfl;obtain⟨z_NoRow,hg_NoRow,k8⟩:=Z.kinds 8 _ rfl;obtain⟨cM,hg_MomentError,kM⟩:=Z.mom;refine⟨_,(ae (L4 (i:=1) km)
   (ae (Jb (i:=2) rfl rfl rfl (IY (i:=0) rfl L_ hrL rfl (Or.inl rfl)) scN rfl rfl rfl hg_MomentError (λ_=>(ag (L4 (i:=1) (qv 2)))))
   (ae (L4 (i:=3) (aS (aa (ai cO (by rfl) T.b_isinstance aM (aa (qv 1) (aa (cC (v:=V.ref z_NoFraction) rfl hg_NoFraction rfl) ac))) (aa (ai cO (by rfl) T.b_isinstance aM (aa (qv 1) (aa (cC (v:=V.ref z_NoPolynomial) rfl hg_NoPolynomial rfl) ac))) (aa (ai cO (by rfl) T.b_isinstance aM (aa (qv 1) (aa (cC (v:=V.ref z_NoSums) rfl hg_NoSums rfl) ac))) ac)))))
   (ae (L4 (i:=3) (aq aW (qv 3) (aS (aa (ai cO (by rfl) T.b_isinstance aM (aa (qv 1) (aa (cC (v:=V.ref z_NoFlock) rfl hg_NoFlock rfl) ac))) (aa (ai cO (by rfl) T.b_isinstance aM (aa (qv 1) (aa (cC (v:=V.ref z_NoWalk) rfl hg_NoWalk rfl) ac))) (aa (ai cO (by rfl) T.b_isinstance aM (aa (qv 1) (aa (cC (v:=V.ref z_NoSum) rfl hg_NoSum rfl) ac))) ac))))))
   (ae (L4 (i:=3) (aq aW (qv 3) (aS (aa (ai cO (by rfl) T.b_isinstance aM (aa (qv 1) (aa (cC (v:=V.ref z_NoDeed) rfl hg_NoDeed rfl) ac))) (aa (ai cO (by rfl) T.b_isinstance aM (aa (qv 1) (aa (cC (v:=V.ref z_NoText) rfl hg_NoText rfl) ac))) (aa (ai cO (by rfl) T.b_isinstance aM (aa (qv 1) (aa (cC (v:=V.ref z_NoRow) rfl hg_NoRow rfl) ac))) ac))))))
   (ae (bQ (dX (eH (ai cO (by rfl) T.b_isinstance aM (aa (qv 1) (aa (dZ (v:=V.ty "ValueError") rfl T.b_ValueError rn rfl) ac))))) (ag (av km)) aL)
   (ag (av (cR (own:=["_law_k"]) (outs:=["_law_kinds"]) (ixs:=[3]) rfl (cn rfl T.b_range (aa af ac)) rfl ‹7› (λ_ _ _ _=>⟨(am (i:=0) ‹["_law_k","_law_kinds"]› rfl (·)),(C6 (show QT _ _ (Lc K _) from fF (aA (show wN _ (vd K) from cH) (qv 1) (qv 0) ‹9›) (λ_=>rfl))),(qv 0)⟩)))))))))),?_⟩
 walk_at"m";symm
 simp only[Hj];refine⟨rfl,rfl,λH1 S1=>⟨C,rfl,kM,λa H2 hna S2 hx=>?_⟩⟩;symm
 refine⟨C,hx,Z.cls,_,rfl,_,k0,C,hx,Z.cls,_,rfl,_,k1,C,hx,Z.cls,_,rfl,_,k2,∅,λp3 H3 _ S3 h3=>?_⟩;have hx3:=S3 _ _ hx;symm
 refine⟨C,hx3,Z.cls,_,rfl,_,k3,C,hx3,Z.cls,_,rfl,_,k4,C,hx3,Z.cls,_,rfl,_,k5,∅,λp4 H4 _ S4 h4=>?_⟩;symm
 refine⟨_,S4 _ _ h3,_,h4,(show 6<=sizeLine by decide),λp5 H5 _ S5 h5=>?_⟩
 have hx5:=S5 _ _ (S4 _ _ hx3);symm
 refine⟨C,hx5,Z.cls,_,rfl,_,k6,C,hx5,Z.cls,_,rfl,_,k7,C,hx5,Z.cls,_,rfl,_,k8,∅,λp6 H6 _ S6 h6=>?_⟩;symm
 refine⟨_,S6 _ _ h5,_,h6,(show 9<=sizeLine by decide),λp7 H7 _ S7 h7=>?_⟩
 have hx7:=S7 _ _ (S6 _ _ hx5);symm
 refine⟨C,hx7,Z.cls,_,rfl,_,Z.ve,?_⟩;symm
 have e9:vw K H7 p7=some (.lst (lz 9 λj=>V.bl (decide (j=i)))):=h7;have S07:LE K H H7:=S1.trans (S2.trans (S3.trans (S4.trans (S5.trans (S6.trans S7)))));refine⟨∅,∅,λc H8 hc S8 h8=>?_⟩;refine bH (its:=eF 0 9) (λj zs H'=>LE K H7 H'/\zs=if i<j then [V.int i] else []) (λ_ _ _ _ _ _=>aU) h8 ⟨S8,by rw[Yc ()]⟩ (λj x zs H9 hj hx' h9 pv=>?_) (λzs H9 h9 pv=>?_)
 .obtain⟨S9,rfl⟩:=pv;obtain⟨hj',rfl⟩:=cW hx';rw[XN];simp only[Lc];symm
  refine⟨_,S9 _ _ e9,_,bA (dA hj'),_,rfl,?_⟩;refine cK (λe=>?_) (λe=>?_)
  .have eji:j=i:=XJ e;subst eji;rw[Yc ()] at h9;refine .mk h9 ∅ λH10 B10 h10=>⟨λb o e'=>B10 _ _ (aj e' hc) (S9 _ _ e'),?_⟩;rw[Yb ()];rfl
  .have eji:j≠i:=λz=>e (YS z);refine⟨⟨_,rfl⟩,_,h9,S9,?_⟩;by_cases hij:i<j
   .rw[Yb hij,Yb ()]
   .rw[Yc hij,Yc ()]
 .obtain⟨S9,rfl⟩:=pv;rw[bU,Yb ()] at h9;exact h c H9 (S07.trans S9) (S07.free hc) h9
def KR(t u:TS):TS:=λD σ H=>t D σ H\/u D σ H
theorem KP{X:Cx}{st:Stmt}{t u:TS}(h1:QS X st t)(h2:QS X st u):QS X st (KR t u):=⟨λpins s σ H D I h=>h.elim (λz=>h1.h pins s σ H D I z) λz=>h2.h pins s σ H D I z⟩
inductive gE (C:Addr)(K:Sf)(vs:List V)(H:Hp)(_:VK)(E:XK):Prop
 | mk (a:Addr)(y:V)(qs:Lt)(W:Nat->Int)(B:Int)(M:Nat):vs=[.ref a,y]->aP (vw K H) a qs->1<=qs.length->qs.length<=11->(∀q∈qs,gn q)->oN qs W B->lj W qs.length M->(oX W qs.length M\/qs.length%2=0)->(∀H',LE K H H'->E (.ref C) none H')->gE C K vs H _ E
theorem uz{C:Addr}(F:Se K "flock_at" iW f fd)(T:dS K mg)(zx_NoSums:vC K C)(hgx_NoSums:mg "NoSums"=some (.ref C))(C_had:⟨⟩ "had" ["sums"] 6 (uE K))(CX_had:EA P w K mg base "had" ["sums"] 6 (ug C K))(C_steps:⟨⟩ "steps" ["sums"] 4 (jP K))(C_number_at:⟨⟩ "number_at" ["f","x"] 3 (gL K))(C_grown:⟨⟩ "grown" ["f","by"] 4 (mC K))(C_over:⟨⟩ "over" ["one","other"] 3 (pD K))(C_lessened:⟨⟩ "lessened" ["f","g"] 4 (iA K))(C_flock_with:⟨⟩ "flock_with" ["sums","roots"] 6 (eU K)):aZ P w K mg base (mX P w) 7 f fd ["sums","spot"] (gE C K):=by
 have scN:=ir.nd;refine F.okX ir ?_ ?_;walk_at "q"
 .obtain⟨_,_,_,_,_,_,rfl,_⟩:=h;rfl
 .obtain⟨a,y,qs,W,B,M,rfl,ha,l1,l11,sq,cl,my,nf,h⟩:=h;obtain⟨z_ZERO,hg_ZERO,hv_ZERO⟩:=T.g_ZERO;refine⟨_,(ae (KP (cJ (Sd C_had (aa (qv 0) ac)) (aY (n:=2) rfl (au (L3 (i:=2)) (au (L3 (i:=3)) aX)))) (Fu (Bz CX_had (hr.mono ∅) rfl (λ_=>(aa (qv 0) ac)))))
   (ae (bQ (dX (fF (aq tL (s!"" (aa (qv 0) ac)) af) (λ_=>rfl))) (ag (vK zx_NoSums rfl hgx_NoSums (aa fI ac))) aL)
   (ae (bQ (aD dY (qv 2) fI (aC _)) (ag (av (mK (aD (gW hr.u64) (Sd C_number_at (aa (qv 3) (aa (qv 1) ac))) (cC (v:=V.ref z_ZERO) rfl hg_ZERO rfl) (aC _)) (Sd C_flock_with (aa (qv 0) (aa (qv 3) ac))) km))) aL)
   (ae (L4 (i:=4) (aA b9 (aA cH (Sd C_steps (aa (qv 0) ac)) (dD cI af) ‹9›) af ‹9›))
   (ae (L4 (i:=5) (Sd C_number_at (aa (qv 4) (aa (qv 1) ac))))
   (ae (bQ (aD (gW hr.u64) (qv 5) (cC (v:=V.ref z_ZERO) rfl hg_ZERO rfl) (aC _)) (ag (av km)) aL)
   (ae (L4 (i:=6) (Sd C_over (aa (Sd C_number_at (aa (qv 3) (aa (qv 1) ac))) (aa (qv 5) ac))))
   (ag (av (Sd C_flock_with (aa (qv 0) (aa (Sd C_lessened (aa (qv 3) (aa (Sd C_grown (aa (qv 4) (aa (qv 6) ac))) ac))) ac)))))))))))),?_⟩
  walk_at"m";refine aK.gen λN1 hN1=>?_;simp only[KR];by_cases nf1:oX W qs.length M
  .refine .inr ?_;simp only[G8,zQ];symm
   exact⟨a,qs,W,B,M,rfl,ha,l1,l11,sq,cl,my,nf1,h⟩
  .refine .inl ?_;symm
   refine⟨a,qs,W,B,M,rfl,ha,l1,l11,sq,cl,my,nf1,λp H1 s S1 o _=>?_⟩;obtain⟨lr,rs,h1,_⟩:=o.had nf1;refine⟨_,rfl,_,h1,rfl,_,_,rfl,_,_,rfl,rfl,hN1 _ _ ?_⟩;walk_at"2"
   have ev:=nf.resolve_left nf1;refine⟨_,(ha.same S1).len,(),kK (by simp;nofun) ?_⟩
   simp only[t8];symm
   exact⟨∅,h _ S1⟩
theorem HC{ps us:Lt}(h1:ps.length<=1000)(h2:us.length<=1000):(D.tup [.lst (ps.map fr),.lst (us.map fr)]).sm 5=true:=by
 show (decide (2<=1000) && ((D.lst (ps.map fr)).sm 4 && ((D.lst (us.map fr)).sm 4 && true)))=true;rw[CQ (n:=1) h1,CQ (n:=1) h2];rfl
inductive pI (Pt:Addr)(K:Sf)(vs:List V)(H:Hp)(Q:VK)(E:XK):Prop
 | mk (a:Addr)(y:V)(qs:Lt)(c:Int×Int):vs=[.ref a,y]->aP (vw K H) a qs->aI (vw K H) (fr c) y->Fq c->Bq 170 c->1<=qs.length->qs.length<=11->(∀q∈qs,gn q)->dF (vw K H) Pt (Bk "_law_right")->(∀H',eJ Pt (vw K H) (vw K H')->dF (vw K H') Pt (Bk "_law_right")->Q (.bl true) H')->pI Pt K vs H Q E
theorem EL{c Pt CF:Addr}(F:Se K "_law_right" fW f fd)(T:dS K mg)(M_:L8 K mg base fd c Pt)(R_:zd P w K mg base 8)(Z_:Ac K mg CF 2)
  (zCkind:⟨⟩ "_law_kind" ["_law_sums_here"] 8 (xV K)) (zCsteps:⟨⟩ "_law_steps" ["_law_sums_here"] 7 (mB K)) (C_flock_at:⟨⟩ "flock_at" ["sums","spot"] 7 (j9 K)) (CX_flock_at:EA P w K mg base "flock_at" ["sums","spot"] 7 (gE CF K))
  (zCsame:⟨⟩ "_law_same" ["_law_found","_law_due"] 6 (j6 5 K)) (zChas:⟨⟩ "_law_has" ["_law_flock","_law_sums_here"] 9 (CL K)) (zCnumber_at:⟨⟩ "_law_number_at" ["_law_f","_law_x_here"] 4 (ka K)):#[] 10 f fd ["_law_sums_here","_law_spot"] (pI Pt K):=by
 have scN:=yA.nd;refine F.okM yA (λvs H Q E h=>?_) (λcdv A outer s H vs Q E hcode hr h=>?_)
 .obtain⟨_,_,_,_,rfl,_⟩:=h;rfl
 .obtain⟨a,y,qs,cc,rfl,ha,hy,fc,bc,n1,n2,sq,hT,h⟩:=h;refine⟨_,(ae (L4 (i:=2) (fD fj (by rfl) T.b_list fN (aa (qv 0) ac)))
   (ae (bQ (QW.pt (gN (aD dY (aq f9 (s!"" (aa (qv 0) ac)) af) af (aC _)) (ig (aD dY (Sd zCkind (aa (qv 0) ac)) fI (aC _))))) (ag (av (du (gW hr.u64) (Ge (Nl:=["_law_handed","_law_spot"]) (ixs:=[2,1]) (kl:=7) R_ (Ct hcode M_) nofun rfl Z_ ∅ (λ_=>rfl) rfl (EQ (sc:=ak fW) rfl ∅) rfl (AN ∅) ⟨rfl,rfl⟩ (λ_ _ _ _=>rfl) rfl (λj x hx=>by rcases j with _|_|j<;>first|(cases hx;exact⟨rfl,_,rfl,rfl⟩)|cases hx) (λ_ _ _ _ _ _ _ hrl=>Bz CX_flock_at (hrl.mono ∅) rfl (λ_=>(aa (qv 0) (aa (qv 1) ac))))) (aS (aa af ac)) (aC _)))) aL)
   (ae (cJ (aA cH (Sd zCsteps (aa (qv 0) ac)) (dD cI af) ‹9›) (aY (n:=2) rfl (au (L3 (i:=3)) (au (L3 (i:=4)) aX))))
   (ae (L4 (i:=5) (du dY (aA b9 (Sd zCnumber_at (aa (qv 3) (aa (qv 1) ac))) af ‹9›) af (aC _)))
   (ae (L4 (i:=6) (Sd C_flock_at (aa (qv 2) (aa (qv 1) ac))))
   (ae (bQ (aD (sZ hr.u64) (qv 5) (du dY (aA b9 (qv 4) af ‹9›) af (aC _)) (aC _)) (ag (av (lN (du HG (qv 6) km (aC _)) (jX (du (gW hr.u64) (qv 2) (qv 0) (aC _)))))) aL)
   (ae (L4 (i:=7) (aq cp (s!"" (aa (qv 3) ac)) (fD Ap (by rfl) T.b_int Cj (aa (du dY (aA b9 (qv 4) af ‹9›) af (aC _)) ac))))
   (ae (bQ (QW.pt (gN (dX (eH (Sd zChas (aa (qv 6) (aa (qv 0) ac))))) (gN (aD kU (aq cp (s!"" (aa (aA b9 (qv 6) af ‹9›) ac)) af) (qv 7) (aC _)) (ig (aD kU (aA b9 (Sd zCnumber_at (aa (aA b9 (qv 6) af ‹9›) (aa (qv 1) ac))) af ‹9›) af (aC _)))))) (ag (av iz)) aL)
   (ae (L4 (i:=8) (aT (aa (fD fj (by rfl) T.b_list fN (aa (aA b9 (qv 6) af ‹9›) ac)) (aa (fD fj (by rfl) T.b_list fN (aa (aA b9 (qv 6) af ‹9›) ac)) ac))))
   (ae (iu (BP XM PySem.F.slot_list_clear PySem.F.type_list_clear AT (aA b9 (qv 6) af ‹9›)))
   (ag (av (lN (du (gW hr.u64) (qv 2) (qv 0) (aC _)) (jX (Sd zCsame (aa (Sd C_flock_at (aa (qv 2) (aa (qv 1) ac))) (aa (qv 8) ac))))))))))))))))),?_⟩
  walk_at"m";skip
  obtain⟨W,B,cl⟩:=Bx sq;obtain⟨M,my⟩:=GF (W:=W) (n:=qs.length) n1;have hFq:∀q∈qs,Fq q:=λq hq=>(sq q hq).1;obtain⟨xs,hxs,rxs⟩:=id ha;walk_at"1"
  refine⟨xs,hxs,λhd H1 hhd S1 h1=>hN1 _ _ ?_⟩;have l1:aP (vw K H1) hd qs:=⟨xs,h1,rxs.same S1⟩;refine aK.gen λN2 hN2=>?_;have refu:∀H2,LE K H1 H2->(oX W qs.length M\/qs.length%2=0)->ym K Pt (Bk "_law_right") [2,1] CF 2 (zQ (gE CF K) (md (rG 0) (md (rG 1) At))) [some (V.ref a),some y,some (V.ref hd),none,none,none,none,none,none] H2 λx H1=>1<=sizeLine/\Nw K H1 (HO.lst [V.int 2]) λy H2=>∃d,aI (vw K H2) d x /\ ∃e,aI (vw K H2) e y/\d.cmp/\e.cmp/\Q (V.bl (Co d e)) H2:=by
   intro H2 S2 nf;have hT2:=hT.same (S1.trans S2);simp only[ym,zQ];refine⟨hT2,λH3 B3 T3=>⟨_,rfl,?_,λc4 H4 S4 hn4 h4=>?_⟩⟩
   .have sm:=hT2.smT B3 T3;symm
    refine⟨hd,y,qs,W,B,M,rfl,(l1.same S2).smT sm,n1,(),sq,cl,my,nf,λH4 S4=>⟨by trivial,by trivial,S4⟩⟩
   .refine⟨∅,λc5 H5 hn5 S5 h5=>?_⟩;have d1:aI (vw K H5) (.lst [.int 2]) (.ref c4):=.mk_lst (S5 _ _ h4) (.mk_cons (.mk_int _) .mk_nil);have d2:aI (vw K H5) (.lst [.int 2]) (.ref c5):=.mk_lst h5 (.mk_cons (.mk_int _) .mk_nil);refine⟨_,d1,_,d2,pU 2,pU 2,?_⟩;rw[j4 (pU 2)];have S35:=S4.trans S5;exact h H5 (((eJ.of (S1.trans S2)).trans B3).same_trans S35) (T3.same S35)
  symm
  refine⟨_,(ha.same S1).len,∅,?_⟩;rw[Int.fmod_eq_emod_of_nonneg _ ∅];refine cK (λev=>refu H1 .rfl (.inr ())) (λod=>?_);refine⟨a,qs,W,B,M,rfl,ha.same S1,n1,(),sq,cl,my,λnf H2 S2=>⟨rfl,kK (by trivial) (refu H2 S2 (.inl nf))⟩,λnf s H2 hs S2=>⟨rfl,fz ?_ (hN2 _ _ ?_)⟩⟩
  .intro z;injection z with z
   rcases hs with ⟨y,_⟩|⟨y,_⟩<;>(rw[y] at z;exact absurd z ∅)
  clear hN2 refu;have S02:=S1.trans S2;walk_at"3"
  refine⟨a,qs,W,B,rfl,ha.same S02,n1,(),sq,cl,λt H3 pss S3 n3 my' sa so=>?_⟩;have eM:=my.uniq my';subst eM;have m1:=my.one;have m2:=my.most;have hups:=my.up;obtain⟨ys,hys,lys,hx⟩:=id sa;have hM:pss.length-1<pss.length:=();have he:pss[pss.length-1]? = some pss[pss.length-1]:=YU hM;obtain⟨e,hee⟩:∃e,e=pss[pss.length-1]:=⟨_,rfl⟩;rw[<-hee] at he;obtain⟨x,l,v,e1,e2,e3,e4,_⟩:=hx _ _ he;have soe:=so _ _ he;have dm:=hups (pss.length-1) ();have dn:Dk W (pss.length-1)≠0:=();have le:=mf soe.po dn soe.num;have ee:cf e.1=Pk W (pss.length-1):=funext soe.num;have peb:Pb 1100 (cf e.1):=(uI dn () cl.bt).congr soe.num;refine⟨t,rfl,ys,hys,_,ie (n:=pss.length-1) () e1,x,rfl,_,e2,rfl,_,_,rfl,_,_,rfl,rfl,hN3 _ _ ?_⟩;have S03:=S02.trans S3;walk_at"4"
  refine⟨l,y,e.1,cc,rfl,e3,aI.same S03 _ _ hy,(),λq hq=>⟨soe.po.1 q hq,(peb.bq soe.po.1 q hq).mono ∅⟩,fc,bc.mono ∅,λv4 H4 q4 S4 r4 f4 w4=>?_⟩;rw[nW (),ee] at w4;obtain⟨x4,rfl,hx4⟩:=id r4.fr_at;refine⟨x4,rfl,_,hx4,_,dN,rfl,hN4 _ _ ?_⟩;have S04:=S03.trans S4;have hb1:q4.1=0↔EV (Pk W (pss.length-1)) (wv cc)=0:=by rw[<-w4,cS f4.ne]
  have hb2:V.int e.2.1=V.int 0↔Dk W pss.length=0:=by
   have c1:=ao (show Dk W (pss.length-1)*B≠0 from Xg dn (by have:=cl.pos;nofun))
   have c0:‹0›=0:=rfl;have sv:=soe.sqv;rw[show pss.length-1+1=pss.length by nofun] at sv
   refine⟨λz=>?_,λz=>?_⟩
   .injection z with z
    have:=(cS soe.fq.ne).mpr z;rw[sv] at this;exact Rat.intCast_inj.mp (by rw[c0];grind)
   .rw[(cS soe.fq.ne).mp (by rw[sv,z,c0];grind)]
  have pb:∀b c:Bool,Co (.bl b) (.bl c)=(b==c):=by intro b c;cases b<;>cases c<;>rfl
  walk_at"5"
  have l4:=l1.same (S2.trans (S3.trans S4));refine⟨hd,y,qs,cc,W,B,pss.length,rfl,l4,aI.same S04 _ _ hy,fc,bc,n1,n2,sq,cl,my,nf,(),λv5 H5 S5 th=>hN5 _ _ ?_⟩;obtain⟨x5,rfl,hx5⟩:=id (aI.fr_at e4);have S35:=S4.trans S5;have S05:=S03.trans S35;have hx6:=S35 _ _ hx5;refine aK.gen λN6 hN6=>?_;rcases th with ⟨na,rfl⟩|⟨nn,p5,b5,u5,rs,ws,rfl,h5,lb5,lw5,nb5,fa⟩
  .symm
   refine⟨_,hx6,_,dN,rfl,_,.mk_bl _,_,.mk_bl _,⟨rfl,YO _⟩,⟨rfl,YO _⟩,kK ?_ ?_⟩
   .rw[pb,beq_eq_false_iff_ne];intro z;have z':=decide_eq_decide.mp z;rw[hb1,hb2] at z';rcases na with ⟨d0,nx⟩|⟨d0,ex⟩
    .exact nx (z'.mpr d0)
    .exact d0 (z'.mp ex)
   .refine⟨_,(l4.same S5).rep,_,(ha.same S05).rep,gB qs,gB qs,?_⟩;rw[j4 (gB qs)];exact h H5 (eJ.of S05) (hT.same S05)
  symm
  refine⟨_,hx6,_,dN,rfl,_,.mk_bl _,_,.mk_bl _,⟨rfl,YO _⟩,⟨rfl,YO _⟩,fz ?_ (hN6 _ _ ?_)⟩
  .have hAB:q4.1=0↔V.int e.2.1=V.int 0:=by
    rw[hb1,hb2];exact⟨λz=>XE λy=>nn (.inr ⟨y,z⟩),λz=>XE λy=>nn (.inl ⟨z,y⟩)⟩
   have hE:decide (q4.1=0)=decide (V.int e.2.1=V.int 0):=decide_eq_decide.mpr hAB;rw[pb,hE];simp
  refine aK.gen λN7 hN7=>?_;symm
  refine⟨_,(e3.same S35).len,_,hx6,_,dN,rfl,hN7 _ _ ?_⟩;have ra:=fa.ra;have lr:=ra.lr;have d6:=ra.d6;have hk:dC W pss.length=if Dk W pss.length=0 then pss.length-1 else pss.length:=by
   unfold dC;have:¬ Dk W pss.length<0:=λz=>nf (.inl z);by_cases z:Dk W pss.length=0
   .rw[Yb z,Yc ()]
   .rw[Yc z,Yb ()]
  have hb3:e.2.1=0↔Dk W pss.length=0:=by
   rw[<-hb2];exact⟨λz=>by rw[z],λz=>by injection z⟩
  refine aK.gen λN8 hN8=>?_;symm
  refine⟨p5,b5,u5,a,rs,qs,ws,_,rfl,h5,lb5,lw5,ha.same S05,fa.fo,ra.pos,ra.two,n2,sq,λH6 S6=>⟨true,rfl,fz ∅ ⟨_,S6 _ _ h5,_,dN,b5,rfl,_,(lb5.same S6).len,fz (λz=>z ?_) ⟨_,S6 _ _ h5,_,dN,?_⟩⟩⟩⟩
  .rw[lr,hk,le];by_cases z:Dk W pss.length=0
   .rw[Yb (hb3.mpr z),Yb z]
   .rw[Yc (λy=>z (hb3.mp y)),Yc z];nofun
  refine⟨b5,y,rs,cc,rfl,lb5.same S6,aI.same (S05.trans S6) _ _ hy,(),λq hq=>⟨fa.fo.po.1 q hq,(ra.br.bq fa.fo.po.1 q hq).mono ∅⟩,fc,bc.mono ∅,λv7 H7 q7 S7 r7 f7 w7=>?_⟩;rw[nW (),fa.num,Ky nn] at w7;have z7:=(cS f7.ne).mp w7;obtain⟨x7,rfl,hx7⟩:=r7.fr_at;refine⟨x7,rfl,_,hx7,_,dN,rfl,fz (λz=>z (by rw[z7])) (hN8 _ _ ?_)⟩
  have S57:=S6.trans S7;obtain⟨xr,hxr,rxr⟩:=id (lb5.same S57);obtain⟨xw,hxw,rxw⟩:=id (lw5.same S57);have h57:=S57 _ _ h5;refine aK.gen λN9 hN9=>?_;symm
  refine⟨_,h57,_,dN,b5,rfl,xr,hxr,λp8 H8 n8 S8 h8=>⟨_,S8 _ _ h57,_,jF,u5,rfl,xw,S8 _ _ hxw,λp9 H9 n9 S9 h9=>⟨∅,λp10 H10 n10 S10 h10=>hN9 _ _ ?_⟩⟩⟩;have S89:=S8.trans S9;have S710:=S89.trans S10;have k8:p8≠b5:=λz=>by rw[z,hxr] at n8;cases n8
  have k9:p9≠b5:=λz=>by rw[z,S8 _ _ hxr] at n9;cases n9
  have k10:p10≠b5:=λz=>by rw[z,S89 _ _ hxr] at n10;cases n10
  refine aK.gen λN10 hN10=>?_;symm
  refine⟨_,S710 _ _ h57,_,dN,iX (S710 _ _ hxr),b5,rfl,rfl,xr,S710 _ _ hxr,λH11 B11 h11=>hN10 _ _ ?_⟩;have rr:=aF.flat_but (S710 _ _ hxr) B11 _ _ (cE rs) (rxr.same S710);have rw1:=aF.flat_but (S710 _ _ hxr) B11 _ _ (cE ws) (rxw.same S710);have told:aI (vw K H11) (.tup [.lst (rs.map fr),.lst (ws.map fr)]) (.ref p10):=.mk_tup (B11 _ _ k10 h10) (.mk_cons (.mk_lst (B11 _ _ k8 ((S9.trans S10) _ _ h8)) rr) (.mk_cons (.mk_lst (B11 _ _ k9 (S10 _ _ h9)) rw1) .mk_nil));have S411:LE K H4 H11:=λb o z=>B11 _ _ (aj z nb5) (S710 _ _ (S57 _ _ (S5 _ _ z)));have S011:=S04.trans S411;symm
  refine⟨_,(l4.same S411).rep,_,(ha.same S011).rep,gB qs,gB qs,?_⟩;rw[j4 (gB qs)];refine kK rfl ?_;refine⟨hd,y,qs,cc,W,B,pss.length,rfl,l4.same S411,aI.same S011 _ _ hy,fc,bc,n1,n2,sq,cl,my,nf,(),λv12 H12 S12 th2=>?_⟩;rcases th2 with ⟨na,_⟩|⟨_,p6,b6,u6,rs',ws',rfl,h6,lb6,lw6,_,fa2⟩
  .exact absurd na nn
  obtain⟨rfl,rfl⟩:=fa2.uniq fa;simp only[j6];have lw6':=fa.fo.lw;exact⟨_,_,_,rfl,.mk_tup h6 (.mk_cons lb6.rep (.mk_cons lw6.rep .mk_nil)),aI.same S12 _ _ told,HC () (),λH13 S13=>h H13 (eJ.of (S011.trans (S12.trans S13))) (hT.same (S011.trans (S12.trans S13)))⟩
theorem zE{Pt st:Addr}{qual:Str}(h:dF G Pt qual)(hst:dz G st)(B:eJ st G G'):dF G' Pt qual:=by
 obtain⟨x,b,e,z⟩:=hst;exact h.butL e B
theorem He{st:Addr}(h:dz G st)(S:wb G G'):dz G' st:=by
 obtain⟨x,b,e,z⟩:=h;exact⟨x,b,S _ _ e (λ_ z=>by cases z),z⟩
def spLaw(K:Sf):Sp:=λvs H Q _=>∃(a:Addr)(ns:List Int),vs=[.ref a]/\kP K H a (ns.map V.int)/\ns.length<=63/\dF (vw K H) 591 (Bk "_law_right") /\ ∀H',Q (.bl true) H'
theorem HM(F:Se K "law" mE f fd)(T:dS K mg)
  (zCstate:⟨⟩ "_law_state" ["_law_script","_law_k"] 2 (sP K)) (zCodd_case:⟨⟩ "_law_odd_case" ["_law_state_here"] 6 (lE K)) (zCsums:⟨⟩ "_law_sums" ["_law_state_here"] 5 (xJ K)) (zCright:⟨⟩ "_law_right" ["_law_sums_here","_law_spot"] 10 (pI 591 K)):#[] 11 f fd ["_law_script"] (spLaw K):=by
 have scN:=CG.nd;refine F.okQ CG ?_ ?_;walk_at "q"
 .obtain⟨a,_,rfl,_⟩:=h;rfl
 .obtain⟨a,ns,rfl,hS,hl,hT1,h⟩:=h;refine⟨_,(FX (cL PassesOwn.never rfl (cn rfl T.b_range (aa (ai (kw rfl) (by rfl) T.b_max uw (aa af (aa (ai (sA rfl) (by rfl) T.b_min Bu (aa (ai jt (by rfl) T.b_len aG (aa (qv 0) ac)) (aa af ac))) ac))) ac)) (L3 (i:=1)) (ae (L4 (i:=2) (Sd zCstate (aa (qv 0) (aa (qv 1) ac))))
   (ae (cJ (Sd zCodd_case (aa (qv 2) ac)) (aY (n:=2) rfl (au (L3 (i:=3)) (au (L3 (i:=4)) aX))))
   (ae (bQ (QW.pt (gN (dX (eH (Sd zCright (aa (qv 3) (aa (qv 4) ac))))) (ig (dX (eH (Sd zCright (aa (Sd zCsums (aa (qv 2) ac)) (aa (qv 4) ac)))))))) (ag (av iz)) aL)
   (ag (bQ (QW.pt (lC (aD jz (s!"" (aa (qv 3) ac)) af (aC _)) (i0 (dX (eH (Sd zCright (aa (eQ fL (qv 3) fZ (fG (dD cI af))) (aa (qv 4) ac)))))))) (ag (av iz)) aL))))))
   (ag (av iz))),?_⟩
  walk_at"m";skip
  refine Ci.mk (λσ H2=>True) ?_ ?_
  .symm
   refine⟨_,.inl hS.sq,?_⟩;simp only[YF];obtain⟨Pv,hPv⟩:∃Pv:Nat->St->Hp->Prop,∀k σ H',Pv k σ H'↔X4 λo1 o2 o3 o4=>σ=[some (.ref a),o1,o2,o3,o4]/\wb (vw K H) (vw K H')/\dF (vw K H') 591 (Bk "_law_right"):=⟨_,λ_ _ _=>XH⟩;refine⟨by repeat' split<;>nofun,by repeat' split<;>nofun,bY (its:=eF 0 _) Pv (λ_ _ _ _ _=>aU) ((hPv _ _ _).mpr ⟨_,_,_,_,rfl,.rfl,hT1⟩) (λi x σ H1 hi hx pv=>?_) (λσ H1 pv=>trivial)⟩
   obtain⟨o1,o2,o3,o4,rfl,s1,T1⟩:=(hPv _ _ _).mp pv;obtain⟨hi',rfl⟩:=cW hx;walk_at"1"
   simp only[sP];symm
   refine⟨⟨i,by simp⟩,⟨ns,hS.smT s1⟩,λst H2 hst0 s2 st2=>hN1 _ _ ?_⟩
   walk_at"2"
   refine⟨st,rfl,st2,λp sa v H3 qs c B3 st3 h3 ls3 rv3 fc bc q1 q2 q3=>?_⟩;have T3:=zE (T1.same s2) st2 B3;have S13:LE K H1 H3:=s2.but_trans hst0 B3;refine⟨_,rfl,_,h3,rfl,_,_,rfl,_,_,rfl,rfl,hN2 _ _ ?_⟩;walk_at"3"
   refine⟨sa,v,qs,c,rfl,ls3,rv3,fc,bc,q1,q2,q3,T3,λH5 B5 T5=>⟨true,rfl,fz ∅ ?_⟩⟩;have m45:=T3.smT B5 T5;have st5:=He st3 m45;have rv5:=aI.smT m45 _ _ rv3;have ls5:=ls3.smT m45;refine⟨st,rfl,st5,λu H6 qs' B6 st6 l6 q1' q2' q3' nu=>?_⟩;obtain⟨_,_,e5,_⟩:=id st5;have rv6:=aI.flat_but e5 B6 _ _ (ci _) rv5;have ls6:=ls5.stBut st5 B6;have T6:=zE T5 st5 B6;refine⟨u,v,qs',c,rfl,l6,rv6,fc,bc,q1',q2',q3',T6,λH8 B8 T8=>⟨true,rfl,fz ∅ (hN3 _ _ ?_)⟩⟩;have m78:=T6.smT B8 T8;have st8:=He st6 m78;have rv8:=aI.smT m78 _ _ rv6;have ls8:=ls6.smT m78;have m18:wb (vw K H) (vw K H8):=s1.trans λb o e n=>by
    have nb:b≠st:=aj e hst0;exact m78 _ _ (B6 _ _ nb (m45 _ _ (S13 _ _ e) n)) n
   symm
   refine⟨_,ls8.len,cK (λl1=>?_) (λ_=>(hPv _ _ _).mpr ⟨_,_,_,_,rfl,m18,T8⟩)⟩;obtain⟨ys,hys,rys⟩:=id ls8;refine⟨ys,hys,λp9 H9 hp9 S9 h9=>?_⟩;rw[Hw (λz=>by rw[z] at rys;have:=rys.length;simp at this;nofun)] at h9
   have ry9:=(rys.same S9);have l9:aP (vw K H9) p9 qs.dropLast:=by
    refine⟨_,h9,?_⟩;rw[List.dropLast_eq_take,List.dropLast_eq_take,List.map_take,rys.length,YF];exact ry9.take _
   have len9:qs.dropLast.length=qs.length-1:=YN;refine⟨p9,v,qs.dropLast,c,rfl,l9,aI.same S9 _ _ rv8,fc,bc,(),(),λq hq=>q3 q ((List.dropLast_sublist qs).subset hq),T8.same S9,λH10 B10 T10=>⟨true,rfl,fz ∅ ((hPv _ _ _).mpr ⟨_,_,_,_,rfl,?_,T10⟩)⟩⟩;have m10:=(T8.same S9).smT B10 T10;exact m18.trans λb o e n=>m10 _ _ (S9 _ _ e) n
  .symm
   intro σ H2 _;exact h H2
end
local macro_rules | `(tactic| walk_at "bd")=>`(tactic| (intro _ _ _ _ _ _ us hl; first | exact HE us hl fun _=>rfl | exact yg us hl fun _ _=>rfl | exact Jy us hl fun _ _ _=>rfl))
theorem all_mk{l:PySem.W.OpenLaw}{w:World}{K:Sf}{h:Heap}{mg:Str->Option Value}{fa f58 f70 f71:Addr}(X:K.In h)(G:h.Ns mainGlobals mg)(hfa:mg "law"=some (.ref fa))(hst:l.prog.given.tree=none)
  {od58 an58 od70 an70 od71 an71:Option Addr}{sl58 sl70 sl71:Array (Option Value)}
  {oc58 kV58 dc58 pm58 cd58 ct58 oc70 kV70 dc70 pm70 cd70 ct70 oc71 kV71 dc71 pm71 cd71 ct71:Value}
  (h0:Hf K "greatest_divisor" fh)
  (h1:Hf K "power" ux)
  (h2:Hf K "trimmed" no)
  (h3:Hf K "wholes_multiplied" eI)
  (h4:Hf K "wholes_at" jT)
  (h5:Hf K "wholes_parted" gv)
  (h6:Hf K "wholes_rests" gX)
  (h7:Hf K "ratio" ui)
  (h8:Hf K "minus" tZ)
  (h9:Hf K "times" sT)
  (h10:Hf K "over" yl)
  (h11:Hf K "number_of" jY)
  (h12:Hf K "lessened" kZ)
  (h13:Hf K "cleared" m4)
  (h14:Hf K "divided" oq)
  (h15:Hf K "grown" tV)
  (h16:Hf K "slope" ue)
  (h17:Hf K "number_at" ke)
  (h18:Hf K "product_rest" gZ)
  (h19:Hf K "inverse" mZ)
  (h20:Hf K "worth" tJ)
  (h21:Hf K "weights_by" jf)
  (h22:Hf K "met" Cb)
  (h23:Hf K "next_row" lB)
  (h24:Hf K "step_rows" j7)
  (h25:Hf K "steps" uA)
  (h26:Hf K "furthest_step" gw)
  (h27:Hf K "nought_bar" jg)
  (h28:Hf K "outlook" nI)
  (h29:Hf K "is_bar" qP)
  (h30:Hf K "flock_with" jr)
  (h31:Hf K "had" zt)
  (h32:Hf K "flock_at" iW)
  (h33:Hf K "_law_divisor" m7)
  (h34:Hf K "_law_low" Cg)
  (h35:Hf K "_law_over" yc)
  (h36:Hf K "_law_plus" wS)
  (h37:Hf K "_law_times" tY)
  (h38:Hf K "_law_worth" sN)
  (h39:Hf K "_law_clean" tN)
  (h40:Hf K "_law_multiplied" je)
  (h41:Hf K "_law_square" qR)
  (h42:Hf K "_law_summed" qV)
  (h43:Hf K "_law_along" um)
  (h44:Hf K "_law_x" LQ)
  (h45:Hf K "_law_steps" sL)
  (h46:Hf K "_law_kind" xK)
  (h47:Hf K "_law_refused" nD)
  (h48:Hf K "_law_number_at" jM)
  (h49:Hf K "_law_whole" tK)
  (h50:Hf K "_law_is_fraction" iH)
  (h51:Hf K "_law_is_polynomial" gu)
  (h52:Hf K "_law_minus" uU)
  (h53:Hf K "_law_falling" ni)
  (h54:Hf K "_law_slope" sO)
  (h55:Hf K "_law_flock_sums" jv)
  (h56:Hf K "_law_is_flock" lH)
  (h57:Hf K "_law_has" Dj)
  (a58:nsIn K mainGlobals "_law_same"=some (some (.ref f58))) (l58:K.lookup f58=some ⟨oc58,od58,.func (fnOf "_law_same" "_law_same" (fb kY) (dj kY) (ak kY) .none kV58 dc58 pm58 an58 cd58 ct58),sl58⟩) (c58:codeIn K cd58 "_law_same"=true) (k58:keepIn K (.ref f58)=true)
  (h59:Hf K "_law_cell_at" nh)
  (h60:Hf K "_law_state" tM)
  (h61:Hf K "_law_take" wP)
  (h62:Hf K "_law_small" sV)
  (h63:Hf K "_law_above" uC)
  (h64:Hf K "_law_crowd" uR)
  (h65:Hf K "_law_spot_crowd" ji)
  (h66:Hf K "_law_even_crowd" i9)
  (h67:Hf K "_law_crowd_sums" jp)
  (h68:Hf K "_law_odd_case" lh)
  (h69:Hf K "_law_sums" xG)
  (a70:nsIn K mainGlobals "_law_right"=some (some (.ref f70))) (l70:K.lookup f70=some ⟨oc70,od70,.func (fnOf "_law_right" "_law_right" (fb fW) (dj fW) (ak fW) .none kV70 dc70 pm70 an70 cd70 ct70),sl70⟩) (c70:codeIn K cd70 "_law_right"=true) (k70:keepIn K (.ref f70)=true)
  (a71:nsIn K mainGlobals "law"=some (some (.ref f71))) (l71:K.lookup f71=some ⟨oc71,od71,.func (fnOf "law" "law" (fb mE) (dj mE) (ak mE) .none kV71 dc71 pm71 an71 cd71 ct71),sl71⟩) (c71:codeIn K cd71 "law"=true) (k71:keepIn K (.ref f71)=true)
  {ga0 ga1:Addr}{go0 go1:Obj}
  (u0:nsIn K mainGlobals "ZERO"=some (some (.ref ga0))) (v0:K.lookup ga0=some go0)(w0:yb go0=some (.tup [V.int (0),V.int (1)]))
  (u1:nsIn K mainGlobals "ONE"=some (some (.ref ga1))) (v1:K.lookup ga1=some go1)(w1:yb go1=some (.tup [V.int (1),V.int (1)]))
  (z0:nsIn K mainGlobals "abs"=some none)
  (z1:nsIn K mainGlobals "range"=some none)
  (z2:nsIn K mainGlobals "len"=some none)
  (z3:nsIn K mainGlobals "enumerate"=some none)
  (z4:nsIn K mainGlobals "reversed"=some none)
  (z5:nsIn K mainGlobals "max"=some none)
  (z6:nsIn K mainGlobals "list"=some none)
  (z7:nsIn K mainGlobals "sum"=some none)
  (z8:nsIn K mainGlobals "zip"=some none)
  (z9:nsIn K mainGlobals "isinstance"=some none)
  (z10:nsIn K mainGlobals "ValueError"=some none)
  (z11:nsIn K mainGlobals "bool"=some none)
  (z12:nsIn K mainGlobals "int"=some none)
  (z13:nsIn K mainGlobals "tuple"=some none)
  (z14:nsIn K mainGlobals "min"=some none)
  (z15:nsIn K mainGlobals "all"=some none)
  {e0 e1 e2 e3 e4 e5 e6 e7 e8 em:Addr}
  (n0:nsIn K mainGlobals "NoFraction"=some (some (.ref e0)))
  (n1:nsIn K mainGlobals "NoPolynomial"=some (some (.ref e1)))
  (n2:nsIn K mainGlobals "NoSums"=some (some (.ref e2)))
  (n3:nsIn K mainGlobals "NoFlock"=some (some (.ref e3)))
  (n4:nsIn K mainGlobals "NoWalk"=some (some (.ref e4)))
  (n5:nsIn K mainGlobals "NoSum"=some (some (.ref e5)))
  (n6:nsIn K mainGlobals "NoDeed"=some (some (.ref e6)))
  (n7:nsIn K mainGlobals "NoText"=some (some (.ref e7)))
  (n8:nsIn K mainGlobals "NoRow"=some (some (.ref e8)))
  (nm:nsIn K mainGlobals "MomentError"=some (some (.ref em))) (xo:vC K e2)
  (q0:PySem.W.kitOne K (.ref e2) (.ref e0)=some false)
  (q1:PySem.W.kitOne K (.ref e2) (.ref e1)=some false)
  (q2:PySem.W.kitOne K (.ref e2) (.ref e2)=some true)
  (q3:PySem.W.kitOne K (.ref e2) (.ref e3)=some false)
  (q4:PySem.W.kitOne K (.ref e2) (.ref e4)=some false)
  (q5:PySem.W.kitOne K (.ref e2) (.ref e5)=some false)
  (q6:PySem.W.kitOne K (.ref e2) (.ref e6)=some false)
  (q7:PySem.W.kitOne K (.ref e2) (.ref e7)=some false)
  (q8:PySem.W.kitOne K (.ref e2) (.ref e8)=some false)
  (qm:PySem.W.exmOne K (.ref e2) (.ref em)=some true)(qv:PySem.W.kitOne K (.ref e2) (.type "ValueError")=some true)
  (y1:PySem.W.findIn K (.ref e2) "__getattribute__"=some (some (.builtin "BaseException.__getattribute__"))) (y2:PySem.W.findIn K (.ref e2) "__getattr__"=some none) (y3:PySem.W.findIn K (.ref e2) "__class__"=some (some (.builtin "object.__class__")))
  (y4:PySem.W.mroIn K e2 (.type "object")=some true) (y5:PySem.W.mroIn K e2 (.type "BaseException")=some true) (y6:(PySem.W.clsIn K e2).isSome=true)
  (m70:cd70=.ref 595)(o70:PySem.W.codeHdIn K 595 591=true)
  : ∃fd:FuncData,(∀(s:Shared)(v:Value),BindsTo s fd ⟨[v],[]⟩ [("_law_script",v)]) /\ ∀base:Heap,K.In base->base.Ns mainGlobals mg->xj mg base->base.NoSeer->aZ l.prog w K mg base dy 11 fa fd ["_law_script"] (spLaw K):=by
 have e:=hfa.symm.trans (XG X G a71);cases e;have T:dS K mg:=⟨trivial,GT.mk (XG X G u0) v0 w0,GT.mk (XG X G u1) v1 w1,XU X G z0,XU X G z1,XU X G z2,XU X G z3,XU X G z4,XU X G z5,XU X G z6,XU X G z7,XU X G z8,XU X G z9,XU X G z10,XU X G z11,XU X G z12,XU X G z13,XU X G z14,XU X G z15⟩;have Z_:Ac K mg e2 2:=by
  refine⟨⟨y1,y2,y3,y4,y5,y6⟩,λj n hn=>?_,⟨em,XG X G nm,qm⟩,qv⟩;rcases j with _|_|_|_|_|_|_|_|_|j
  .cases hn;exact⟨e0,XG X G n0,q0⟩
  .cases hn;exact⟨e1,XG X G n1,q1⟩
  .cases hn;exact⟨e2,XG X G n2,q2⟩
  .cases hn;exact⟨e3,XG X G n3,q3⟩
  .cases hn;exact⟨e4,XG X G n4,q4⟩
  .cases hn;exact⟨e5,XG X G n5,q5⟩
  .cases hn;exact⟨e6,XG X G n6,q6⟩
  .cases hn;exact⟨e7,XG X G n7,q7⟩
  .cases hn;exact⟨e8,XG X G n8,q8⟩
  .cases hn
 refine⟨fnOf "law" "law" (fb mE) (dj mE) (ak mE) .none kV71 dc71 pm71 an71 cd71 ct71,λs v=>.of_eq rfl,λbase kb nb hB hSe=>?_⟩;have N_:qp l.prog base:=⟨hSe,hst⟩;have E_:Fo l.prog w K mg base:=⟨h,X,G⟩;have hX:=XG X G n2;have C_greatest_divisor:=h0.cal E_ λF=>kI F T;have C_power:=h1.cal E_ λF=>Df F T;have C_trimmed:=h2.cal E_ λF=>xT F T;have C_wholes_multiplied:=h3.cal E_ λF=>jS F T;have C_wholes_at:=h4.cal E_ λF=>uL F T;have C_wholes_parted:=h5.cal E_ λF=>m9 F T N_ C_trimmed;have C_wholes_rests:=h6.cal E_ λF=>oV F T N_ C_power C_wholes_parted;have C_ratio:=h7.cal E_ λF=>CK F T N_ C_greatest_divisor;have C_minus:=h8.cal E_ λF=>Bh F T C_ratio;have C_times:=h9.cal E_ λF=>Bi F T C_ratio;have C_over:=h10.cal E_ λF=>Fp F T C_ratio;have C_number_of:=h11.cal E_ λF=>sH F T;have C_lessened:=h12.cal E_ λF=>wu F T C_trimmed C_minus C_number_of;have C_cleared:=h13.cal E_ λF=>xZ F T N_ C_greatest_divisor;have C_divided:=h14.cal E_ λF=>xC F T C_trimmed C_ratio;have C_grown:=h15.cal E_ λF=>Ef F T C_trimmed C_times;have C_slope:=h16.cal E_ λF=>Dq F T C_times;have C_number_at:=h17.cal E_ λF=>uJ F T C_cleared C_wholes_at C_ratio;have C_product_rest:=h18.cal E_ λF=>oT F T C_cleared C_wholes_multiplied C_wholes_parted C_divided;have C_inverse:=h19.cal E_ λF=>yf F T N_ C_cleared C_wholes_rests C_wholes_multiplied C_divided;have C_worth:=h20.cal E_ λF=>DQ F T C_cleared C_ratio;have C_weights_by:=h21.cal E_ λF=>rA F T C_product_rest C_inverse C_slope;have C_met:=h22.cal E_ λF=>IN F T;have C_next_row:=h23.cal E_ λF=>vO F T C_met;have C_step_rows:=h24.cal E_ λF=>uS F T C_met C_next_row;have C_steps:=h25.cal E_ λF=>CD F T C_cleared C_step_rows C_divided C_ratio C_met;have C_furthest_step:=h26.cal E_ λF=>ou F T C_cleared C_step_rows C_divided;have C_nought_bar:=h27.cal E_ λF=>rC F T C_worth;have C_outlook:=h28.cal E_ λF=>wY F T C_steps C_nought_bar C_furthest_step;have C_is_bar:=h29.cal E_ λF=>Ao F T;have C_flock_with:=h30.cal E_ λF=>re F T C_trimmed C_worth C_weights_by;have C_had:=h31.cal E_ λF=>JM F T C_outlook C_is_bar;have CX_had:=h31.calX E_ λF=>Gd F T xo hX C_outlook C_is_bar;have C_flock_at:=h32.cal E_ λF=>vU F T C_had C_steps C_number_at C_grown C_over C_lessened C_flock_with;have CX_flock_at:=h32.calX E_ λF=>uz F T xo hX C_had CX_had C_steps C_number_at C_grown C_over C_lessened C_flock_with;have zCdivisor:=h33.cal E_ λF=>Am F T;have zClow:=h34.cal E_ λF=>KO F T N_ zCdivisor;have zCover:=h35.cal E_ λF=>Hv F T zClow;have zCplus:=h36.cal E_ λF=>Jz F T zClow;have zCtimes:=h37.cal E_ λF=>Ft F T zClow;have zCworth:=h38.cal E_ λF=>FQ F T zCplus zCtimes;have zCclean:=h39.cal E_ λF=>FS F T;have zCmultiplied:=h40.cal E_ λF=>tH F T zCclean zCplus zCtimes;have zCsquare:=h41.cal E_ λF=>Da F T zCworth zCmultiplied;have zCsummed:=h42.cal E_ λF=>BW F T zCclean zCplus zCtimes;have zCalong:=h43.cal E_ λF=>EF F T zCover zCsquare zCsummed;have zCx:=h44.cal E_ λF=>MI F T;have zCsteps:=h45.cal E_ λF=>Gb F T zCalong zCx zCsquare;have zCkind:=h46.cal E_ λF=>Ji F T zCsteps zCworth;have R_:zd l.prog w K mg base 8:=by
  obtain⟨_,_,F,a,k⟩:=h47.at_ E_;exact⟨_,a,k,λA outer s H p C i Q hr e0 L Z hi hq=>Ay F T (F.binds (by walk_at"bd")) hr e0 L Z hi hq⟩
 have zCnumber_at:=h48.cal E_ λF=>wj F T zCplus zCtimes;have zCwhole:=h49.cal E_ λF=>Fw F T;have zCis_fraction:=h50.cal E_ λF=>rF F T zCdivisor zCwhole;have zCis_polynomial:=h51.cal E_ λF=>oQ F T zCis_fraction;have zCminus:=h52.cal E_ λF=>FD F T zClow;have zCfalling:=h53.cal E_ λF=>AM F T zCminus zCtimes;have zCslope:=h54.cal E_ λF=>Ew F T zCclean zCtimes;have zCflock_sums:=h55.cal E_ λF=>uu F T zCfalling zCslope zCworth;have zCis_flock:=h56.cal E_ λF=>xg F T zCis_polynomial zCsteps zCflock_sums;have zChas:=h57.cal E_ λF=>K4 F T zCis_flock zCflock_sums;have zFsame:=uP (st:=kY) l58 c58 k58;have zCsame:bV l.prog w K mg base "_law_same" ["_law_found","_law_due"] 6 (j6 5 K):=kX zFsame T (XG X G a58) k58 (zFsame.binds λ_ _ _ _ _ _ us hl=>yg us hl λ_ _=>rfl) 5;have zCcell_at:=h59.cal E_ λF=>AD F T;have zCstate:=h60.cal E_ λF=>Fa F T zCcell_at;have zCtake:=h61.cal E_ λF=>JL F T;have zCsmall:=h62.cal E_ λF=>F8 F T zClow zCtake;have zCabove:=h63.cal E_ λF=>Gw F T zClow zCtake;have zCcrowd:=h64.cal E_ λF=>Ep F T zCsmall zCabove zCtake zCplus;have zCspot_crowd:=h65.cal E_ λF=>sX F T zCsmall zCabove zCcrowd;have zCeven_crowd:=h66.cal E_ λF=>tW F T zCsmall zCabove zCtake zCplus zCminus;have zCcrowd_sums:=h67.cal E_ λF=>tQ F T zCplus zCtimes;have zCodd_case:=h68.cal E_ λF=>xf F T zCspot_crowd zCsmall zCtake zCeven_crowd zCcrowd_sums zCover;have zCsums:=h69.cal E_ λF=>Hr F T zCtake zCsmall zCcrowd zCcrowd_sums zCplus;have M__law_right:L8 K mg base (fnOf "_law_right" "_law_right" (fb fW) (dj fW) (ak fW) .none kV70 dc70 pm70 an70 cd70 ct70) 595 591:=⟨m70,PySem.W.codeHd_of_K kb o70,hB⟩;have zFright:=uP (st:=fW) l70 c70 k70;have zCright:bV l.prog w K mg base "_law_right" ["_law_sums_here","_law_spot"] 10 (pI 591 K):=⟨_,_,EL zFright T M__law_right R_ Z_ (zCsame:=zCsame) (C_flock_at:=C_flock_at) (zCnumber_at:=zCnumber_at) (zChas:=zChas) (zCsteps:=zCsteps) (zCkind:=zCkind) (CX_flock_at:=CX_flock_at),XG X G a70,k70,(zFright.binds λ_ _ _ _ _ _ us hl=>yg us hl λ_ _=>rfl)⟩;have F_0:=uP (st:=mE) l71 c71 k71;exact HM F_0 T zCstate zCodd_case zCsums zCright
theorem walk{l:PySem.W.OpenLaw}{q:Program}{loose:List Str}{XP:(Str->Option Value)->Heap->Prop}{YP:World->Heap->Prop}{d:DefRec}{K:Params->Sf}(hn:l.most=some 63)(hdf:d.params.defaults=[])(hi:PyProof.Rows.importsNone q=true)
  (hY:∀(w:World)(h:Heap),YP w h->(K w.params).In h /\ ∀q∈([(595,591)]:List (Addr×Addr)),PySem.W.codeHdIn (K w.params) q.1 q.2=true/\(K w.params).lookup q.2=none/\h.get? q.2=some (PySem.W.tabObj #[]))
  (F:∀(w:World)(mg:Str->Option Value)(fa:Addr)(h:Heap),(K w.params).In h->h.Ns mainGlobals mg->mg d.name=some (.ref fa) ->
   ∃fd:FuncData,(∀(s:Shared)(u:Value),BindsTo s fd ⟨[u],[]⟩ [("_law_script",u)]) /\ ∀base:Heap,(K w.params).In base->base.Ns mainGlobals mg->xj mg base->base.NoSeer->aZ l.prog w (K w.params) mg base dy 11 fa fd ["_law_script"] (spLaw (K w.params))) :
  PySem.W.WalkO q loose XP YP l.row.toRowW d [] (λf vs=>PySem.call f vs) :=
 L2.walk_ofM (ts:=λ_=>[(595,591)]) (n:=63) (k:=11) (x:="_law_script") (CX:=λ_=>dy) (sp:=λw=>spLaw (K w.params)) hn ∅ hdf ⟨rfl,∅,∅⟩ hi hY F (λ_ _ a ns hl hT hK hS=>⟨a,ns,rfl,.of hS hK,hl,.start (hT (595,591) (by simp)),λ_=>rfl⟩) λ_ _ _ _ _ z=>z
end M
open PySem PySem.W PyProof.Rows
namespace PySem.W.Fast
theorem Z:True:=trivial
abbrev tw14724217014660498587:=Z
abbrev tw10019426617500791737:=Z
abbrev tw3399014018539182419:=Z
abbrev tw8424499463940973922:=Z
abbrev tw4423896370580327439:=Z
abbrev tw1372843662491014772:=Z
abbrev tw17474602418411232760:=Z
abbrev tw3294462392597770622:=Z
abbrev tw18247215658411574070:=Z
abbrev tw10810125911786047951:=Z
abbrev tw10767219383913224572:=Z
abbrev tw7747338666145963192:=Z
abbrev tw9191729252609954522:=Z
abbrev tw10129347335223158327:=Z
abbrev tw8433776550360403264:=Z
abbrev tw16038497446583313183:=Z
abbrev tw15350923876024129772:=Z
abbrev tw4850331006201628577:=Z
abbrev tw7712471001647458026:=Z
abbrev tw3278618618979065961:=Z
abbrev tw9586895172576866498:=Z
abbrev tw13424298266013039584:=Z
abbrev tw11498786072843383651:=Z
abbrev tw1540156444095872623:=Z
abbrev tw1291146438126138372:=Z
abbrev tw3548442580276097567:=Z
abbrev tw2292307069165288437:=Z
abbrev tw8947226653181969067:=Z
abbrev tw7841880732384049175:=Z
abbrev tw12496779547320512357:=Z
abbrev tw11428254983654113245:=Z
abbrev tw236344568811937021:=Z
abbrev tw10224663230964311003:=Z
abbrev tw10327699827875779702:=Z
abbrev tw14602736069877342318:=Z
abbrev tw16361951915472173531:=Z
abbrev tw11071100382229894076:=Z
abbrev tw11229094400196258724:=Z
abbrev tw8840469639961892730:=Z
abbrev tw1478707802518247787:=Z
abbrev tw4136331930140465045:=Z
abbrev tw8594450646475222342:=Z
abbrev tw2919167234194338319:=Z
abbrev tw13943869665881822865:=Z
abbrev tw14645595082824199720:=Z
abbrev tw17298186805614880742:=Z
abbrev tw14335018742045472715:=Z
abbrev tw3015681241911764726:=Z
abbrev tw7917759450805902141:=Z
abbrev tw1117484209205765026:=Z
abbrev tw5973781729843966879:=Z
abbrev tw17752465161097852073:=Z
abbrev tw17406133112853817298:=Z
abbrev tw17466989031439634179:=Z
abbrev tw9924577490304404279:=Z
abbrev tw5875512112799516884:=Z
abbrev tw6399901986980383118:=Z
abbrev tw13314467066641063488:=Z
abbrev tw856917256729365185:=Z
abbrev tw5862766484404332394:=Z
abbrev tw2325222090355374928:=Z
abbrev tw9824365326857398784:=Z
abbrev tw13694287389924108546:=Z
abbrev tw7412147537333444669:=Z
abbrev tw9028630979590465426:=Z
abbrev tw17011166196148389098:=Z
abbrev tw8486710950953954244:=Z
abbrev tw5361810341858203083:=Z
abbrev tw12514202368074817994:=Z
abbrev tw8797240590183167209:=Z
abbrev tw13436558357258054390:=Z
abbrev tw2779474505857919109:=Z
abbrev tw3566275020894052665:=Z
abbrev tw1145916692775704949:=Z
abbrev tw5220915531604478204:=Z
abbrev tw3885607530013863689:=Z
abbrev tw13856368187562244468:=Z
abbrev tw11246286004485968757:=Z
abbrev tw5871563668965362921:=Z
abbrev tw15532631567360571989:=Z
abbrev tw16963280924718177730:=Z
abbrev tw6919658440837932473:=Z
abbrev tw4305359660460658346:=Z
abbrev tw11438378033780795775:=Z
abbrev tw13576416188740936742:=Z
abbrev tw348685770772105078:=Z
abbrev tw17782489083418715169:=Z
abbrev tw13215924794172285968:=Z
abbrev tw6025462620357851804:=Z
abbrev tw11249447497357295693:=Z
abbrev tw8339944179327883443:=Z
abbrev tw11908093078245063627:=Z
abbrev tw18151541387561962079:=Z
abbrev tw5420095791301864299:=Z
abbrev tw15101752794388954309:=Z
abbrev tw3033979982742352844:=Z
abbrev tw10198319569921496552:=Z
abbrev tw7960353851018112528:=Z
abbrev tw1507824036561363312:=Z
abbrev tw13132875171382612434:=Z
abbrev tw13267883151939094652:=Z
abbrev tw9656464955667331341:=Z
abbrev tw6442213579243581018:=Z
abbrev tw11975037993894840990:=Z
abbrev tw14836492963427287591:=Z
abbrev tw17544877100034210013:=Z
abbrev tw3593333280632832934:=Z
abbrev tw947143622286052633:=Z
abbrev tw14721660768060789631:=Z
abbrev tw7811555839151701950:=Z
abbrev tw16989518995527237392:=Z
abbrev tw12670950479333700670:=Z
abbrev tw15172312992816920499:=Z
abbrev tw9285355024603651404:=Z
abbrev tw12458806342688599015:=Z
abbrev tw6549965935203639150:=Z
abbrev tw14810071702154086544:=Z
abbrev tw9526554394899384178:=Z
abbrev tw17487264188391600486:=Z
abbrev tw5532940264872294366:=Z
abbrev tw5198686978590977749:=Z
abbrev tw5338030628110132130:=Z
abbrev tw14141239385281152760:=Z
abbrev tw3242464477187544298:=Z
abbrev tw10049292111187479697:=Z
abbrev tw12579100873333566831:=Z
abbrev tw4677507145186022356:=Z
abbrev tw1705049313877582727:=Z
abbrev tw7786464121773262852:=Z
abbrev tw5543591891146278250:=Z
abbrev tw8618218505384240693:=Z
abbrev tw2991918015707465581:=Z
abbrev tw16379557008366455441:=Z
abbrev tw9855775886159161828:=Z
abbrev tw1512291497420288537:=Z
abbrev tw12655579745197626881:=Z
abbrev tw7240698790345650519:=Z
abbrev tw896094552611624091:=Z
abbrev tw4968844649716350648:=Z
abbrev tw8876232384367125141:=Z
abbrev tw2421711489049444272:=Z
abbrev tw7787900612362580460:=Z
abbrev tw2176224152946357114:=Z
abbrev tw13099620694373531641:=Z
abbrev tw7189890248886379805:=Z
abbrev tw12074786123777293167:=Z
abbrev tw11082201156807783023:=Z
abbrev tw12779780620455009696:=Z
abbrev tw9871399230436549593:=Z
abbrev tw15762065058677518725:=Z
abbrev tw10835929405219354182:=Z
abbrev tw17573771562449914024:=Z
abbrev tw3275699708540118305:=Z
abbrev tw16176793834037930136:=Z
abbrev tw11428511340705174794:=Z
abbrev tw4207829554165670652:=Z
abbrev tw5529406346375215595:=Z
abbrev tw1633169540379652955:=Z
abbrev tw1457070268763893867:=Z
abbrev tw1981047837517923019:=Z
abbrev tw10566933535324746651:=Z
abbrev tw17403376861363324322:=Z
abbrev tw5152715899031159785:=Z
abbrev tw12829174978247923164:=Z
abbrev tw13610517503525919186:=Z
abbrev tw11144600527322468962:=Z
abbrev tw7008725763092485678:=Z
abbrev tw12049119285123313230:=Z
abbrev tw16923934666992455543:=Z
abbrev tw10687987645730081452:=Z
abbrev tw3224667866260488172:=Z
abbrev tw6663959445105219492:=Z
abbrev tw14656500915913371118:=Z
abbrev tw4669699694539280201:=Z
abbrev tw19425436612380016:=Z
abbrev tw13304834237891031961:=Z
abbrev tw17917277417166485518:=Z
abbrev tw8908721792582250634:=Z
abbrev tw7360589703110430074:=Z
abbrev tw16439805196411685749:=Z
abbrev tw5290416095740397035:=Z
abbrev tw16131838264139111109:=Z
abbrev tw1684942531535024339:=Z
abbrev tw14246679842980250507:=Z
abbrev tw3250967544833636583:=Z
abbrev tw3887610073400382393:=Z
abbrev tw12635362299254219177:=Z
abbrev tw13191190451236307503:=Z
abbrev tw15166665708562216993:=Z
abbrev tw2164159659365551244:=Z
abbrev tw2177463154177830373:=Z
abbrev tw17281804321228821031:=Z
abbrev tw9686223905443617973:=Z
abbrev tw3414783222423974735:=Z
abbrev tw11912827092440477630:=Z
abbrev tw2334825980731804636:=Z
abbrev tw5251772448160140058:=Z
abbrev tw17744879846951685961:=Z
abbrev tw10951461732877388422:=Z
abbrev tw1650275573125257597:=Z
abbrev tw6917511245358358168:=Z
abbrev tw17235388396333770957:=Z
abbrev tw9234771945343836446:=Z
abbrev tw5779699615670320106:=Z
abbrev tw8314009167481968179:=Z
abbrev tw14291732069155967497:=Z
abbrev tw7921753198356143658:=Z
abbrev tw8160406131636858253:=Z
abbrev tw3107115566484787204:=Z
abbrev tw8381790330076626331:=Z
abbrev tw9167329137800124067:=Z
abbrev tw89284717593503866:=Z
abbrev tw1051165046413157761:=Z
abbrev tw14606127285789605348:=Z
abbrev tw1883813623987304476:=Z
abbrev tw13216605933159637804:=Z
abbrev tw13120512037252622078:=Z
abbrev tw4008610694680514282:=Z
abbrev tw9400139128809376431:=Z
abbrev tw9655748021355430392:=Z
abbrev tw4944860681683863245:=Z
abbrev tw3124997689007242088:=Z
abbrev tw15207523294478716288:=Z
abbrev tw11321574712502370516:=Z
abbrev tw14911504945385746234:=Z
abbrev tw13403650678947423940:=Z
abbrev tw15625981741144987908:=Z
abbrev tw17658097678636292329:=Z
abbrev tw6079728998405529463:=Z
abbrev tw2224994518121141812:=Z
abbrev tw5052571533441454708:=Z
abbrev tw4996961055567396762:=Z
abbrev tw9714041159075153321:=Z
abbrev tw4732211293614005540:=Z
abbrev tw1537937988892248969:=Z
abbrev tw14680684386192720857:=Z
abbrev tw9592685993853835029:=Z
abbrev tw6637868476107416606:=Z
abbrev tw1614396723520434370:=Z
abbrev tw2481277242335343824:=Z
abbrev tw12466468813616454746:=Z
abbrev tw6330376235672983373:=Z
abbrev tw8883425616136814559:=Z
abbrev tw11208128452405688171:=Z
abbrev tw2018760142871771845:=Z
abbrev tw18098991460043424246:=Z
abbrev tw4077097253226472267:=Z
abbrev tw2501818635226426115:=Z
abbrev tw15768863984488879975:=Z
abbrev tw191014753725279205:=Z
abbrev tw15759531071474952570:=Z
abbrev tw13492847543159601453:=Z
abbrev tw16397457730153012658:=Z
abbrev tw4878856186518561663:=Z
abbrev tw10592942730681743027:=Z
abbrev tw14838873164219591847:=Z
abbrev tw673493408334211846:=Z
abbrev tw4985129573670960441:=Z
abbrev tw16771442604665272836:=Z
abbrev tw4200473525748791822:=Z
abbrev tw4889074596737114765:=Z
abbrev tw2113440626255817168:=Z
abbrev tw4777407239088742700:=Z
abbrev tw1865604218207774322:=Z
abbrev tw1388485094341374411:=Z
abbrev tw5134595113842774632:=Z
abbrev tw16064588348612557950:=Z
abbrev tw3858123604263781492:=Z
abbrev tw5604960176310106853:=Z
abbrev tw18075862175102172549:=Z
abbrev tw8370188608257261809:=Z
abbrev tw11170300791054696943:=Z
abbrev tw10221397700440070576:=Z
abbrev tw2525555402453004920:=Z
abbrev tw7579506687278492894:=Z
abbrev tw17827240290344486564:=Z
abbrev tw14154104108958075282:=Z
abbrev tw17181551993186937000:=Z
abbrev tw1983982369816024156:=Z
abbrev tw738986466335917589:=Z
abbrev tw644447565687692703:=Z
abbrev tw1691969947351464978:=Z
abbrev tw14959267773595767412:=Z
abbrev tw12562151061915117088:=Z
abbrev tw13919142197583161411:=Z
abbrev tw11143090316934806643:=Z
abbrev tw16107951452110123157:=Z
abbrev tw6331429501751274870:=Z
abbrev tw3153809210693880345:=Z
abbrev tw12426572941834913656:=Z
abbrev tw6077435570704049178:=Z
abbrev tw1824134676983232670:=Z
abbrev tw8295677710261372163:=Z
abbrev tw11728998873927109464:=Z
abbrev tw8595810271687947079:=Z
abbrev tw16916384261054729919:=Z
abbrev tw3102537163088573171:=Z
abbrev tw3908513672622606937:=Z
abbrev tw9732433296813539124:=Z
abbrev tw12172928257527998165:=Z
abbrev tw15700512389661380610:=Z
abbrev tw11034313977400779483:=Z
abbrev tw6141969645651548451:=Z
abbrev tw6577751790417666214:=Z
abbrev tw4958165974235584245:=Z
abbrev tw8940629933587507953:=Z
abbrev tw18206196202238553994:=Z
abbrev tw18256895202570331243:=Z
abbrev tw7559986319082265636:=Z
abbrev tw8866583124227731397:=Z
abbrev tw13766369277739964324:=Z
abbrev tw8189215453797201117:=Z
abbrev tw7621621207370916851:=Z
abbrev tw7121529243876425678:=Z
abbrev tw6421231401096653840:=Z
abbrev tw9241250338392357062:=Z
abbrev tw1348288237286317370:=Z
abbrev tw10287859890413439583:=Z
abbrev tw3207586717476308992:=Z
abbrev tw13461841139179626239:=Z
abbrev tw6192352062703363414:=Z
abbrev tw157939278305651868:=Z
abbrev tw2793030066880918726:=Z
abbrev tw7783146598876722206:=Z
abbrev tw17156113002316174061:=Z
abbrev tw13083721395970450586:=Z
abbrev tw686732993034407915:=Z
abbrev tw4666522535601738889:=Z
abbrev tw1819685367083054999:=Z
abbrev tw16049638032774173033:=Z
abbrev tw2604784573013869101:=Z
abbrev tw4672768300762820943:=Z
abbrev tw17693253029844687530:=Z
abbrev tw13510888705903880497:=Z
abbrev tw15201225655949117812:=Z
abbrev tw2336189480940867122:=Z
abbrev tw15633100680060687724:=Z
abbrev tw13734326680827680443:=Z
abbrev tw9460489561316330276:=Z
abbrev tw8696152743247539810:=Z
abbrev tw3154269598284709518:=Z
abbrev tw17497615640291891401:=Z
abbrev tw8917421196412340924:=Z
abbrev tw1834080639529527267:=Z
abbrev tw3477079418557426618:=Z
abbrev tw6266323489142326504:=Z
abbrev tw16283492561868523237:=Z
abbrev tw1417029453377360554:=Z
abbrev tw7073464252292555818:=Z
abbrev tw6116595393822857354:=Z
abbrev tw5340996979395785297:=Z
abbrev tw13859661884612135060:=Z
abbrev tw3704435863496248035:=Z
abbrev tw2885630506142515621:=Z
abbrev tw4867721026265844196:=Z
abbrev tw2558168133932762752:=Z
abbrev tw4435991833055238784:=Z
abbrev tw13119524323046709305:=Z
abbrev tw8025058152595739911:=Z
abbrev tw12559029656712068708:=Z
abbrev tw658411637187741410:=Z
abbrev tw6610257436797969490:=Z
abbrev tw4873713554363454923:=Z
abbrev tw25053930762483767:=Z
abbrev tw1634074324533743676:=Z
abbrev tw4846774592260475581:=Z
abbrev tw12609845651699192993:=Z
abbrev tw4183865210319165554:=Z
abbrev tw2043515890764056831:=Z
abbrev tw4145461421199440214:=Z
abbrev tw7092621477040097145:=Z
abbrev tw11075620714298370475:=Z
abbrev tw9198096477898835652:=Z
abbrev tw9768835067733160061:=Z
abbrev tw16995362855604729543:=Z
abbrev tw16321097977830902140:=Z
abbrev tw5569334960971777428:=Z
abbrev tw5028800117119165380:=Z
abbrev tw8798385594351425338:=Z
abbrev tw2148100979742572857:=Z
abbrev tw17856302233178726250:=Z
abbrev tw17585227408620370361:=Z
abbrev tw15156902895236219216:=Z
abbrev tw12522872949054933282:=Z
abbrev tw1032804100577073219:=Z
abbrev tw17034378517877514843:=Z
abbrev tw10194766729896881258:=Z
abbrev tw4423169423690919607:=Z
abbrev tw10680678301888829790:=Z
abbrev tw11570537828254967378:=Z
abbrev tw9330823369713906533:=Z
abbrev tw9039332699721749165:=Z
abbrev tw16665047276173620331:=Z
abbrev tw15199010093642188869:=Z
abbrev tw3857320173006568383:=Z
abbrev tw9099120884240065439:=Z
abbrev tw17911248249595233876:=Z
abbrev tw72454627349479127:=Z
abbrev tw845002815800754984:=Z
abbrev tw5429346584223676229:=Z
abbrev tw6182564730650108729:=Z
abbrev tw9311761681089255898:=Z
abbrev tw154967728484746016:=Z
abbrev tw8500874200300770898:=Z
abbrev tw13791947356121454163:=Z
abbrev tw15316824290213936268:=Z
abbrev tw10756259370846796123:=Z
abbrev tw17119711224811060292:=Z
abbrev tw15901330121870372097:=Z
abbrev tw13320256647482218086:=Z
abbrev tw8648864937106320837:=Z
abbrev tw7436213276951854348:=Z
abbrev tw15469942203343316322:=Z
abbrev tw2097790447219011600:=Z
abbrev tw11504580284857343941:=Z
abbrev tw14154412994779873434:=Z
abbrev tw11638579406861729144:=Z
abbrev tw8886008884389862967:=Z
abbrev tw5659892612301487969:=Z
abbrev tw9234997451300601020:=Z
abbrev tw1248436527814142827:=Z
abbrev tw12670647003473026427:=Z
abbrev tw13985520863697702127:=Z
abbrev tw10492484088372809375:=Z
abbrev tw17526842956192686813:=Z
abbrev tw5476069284474459345:=Z
abbrev tw8566638485421820892:=Z
abbrev tw14139147508288184721:=Z
abbrev tw4725520609806627279:=Z
abbrev tw29661273090353122:=Z
abbrev tw8912734712908918598:=Z
abbrev tw13516939317562247719:=Z
abbrev tw15420701850424322505:=Z
abbrev tw13664818989612793372:=Z
abbrev tw4901251490414535982:=Z
abbrev tw13869118264044240208:=Z
abbrev tw10946091395910288257:=Z
abbrev tw15938773228875724417:=Z
abbrev tw17602665696130974265:=Z
abbrev tw11201179299893431146:=Z
abbrev tw15252090860637905316:=Z
abbrev tw644771259320868815:=Z
abbrev tw9250176764080040444:=Z
abbrev tw13717121655328467971:=Z
abbrev tw872802396315453535:=Z
abbrev tw8772558154263376921:=Z
abbrev tw1910905163023916211:=Z
abbrev tw14341574216765069168:=Z
abbrev tw12091800375185633177:=Z
abbrev tw3513511866860163833:=Z
abbrev tw7391038329745011628:=Z
abbrev tw17254913083814518985:=Z
abbrev tw7481304824743952347:=Z
abbrev tw6023096682388746129:=Z
abbrev tw10116925416989427846:=Z
abbrev tw5622281618435309889:=Z
abbrev tw15958454575956279724:=Z
abbrev tw1385292555228062460:=Z
abbrev tw8233113774986599158:=Z
abbrev tw13362165928752952391:=Z
abbrev tw3578669087706091800:=Z
abbrev tw17131769886745916862:=Z
abbrev tw16019956094958738535:=Z
abbrev tw8849474748335090777:=Z
abbrev tw2521991672708829496:=Z
abbrev tw15971174451624132075:=Z
abbrev tw3363684886548314497:=Z
abbrev tw1590519749337117757:=Z
abbrev tw4511222570633361819:=Z
abbrev tw17808853921454576733:=Z
abbrev tw6049622327973588680:=Z
abbrev tw245806612766399113:=Z
abbrev tw12939026861471620838:=Z
abbrev tw7724224106892218260:=Z
abbrev tw6405270626165821866:=Z
abbrev tw11667021844025124794:=Z
abbrev tw4848922156835869649:=Z
abbrev tw13330733987960897599:=Z
abbrev tw16686476497014693634:=Z
abbrev tw1403890156388561500:=Z
abbrev tw12291806611706895445:=Z
abbrev tw14969108074446952042:=Z
abbrev tw10145984310148410173:=Z
abbrev tw8921151745562110287:=Z
abbrev tw11647134514961270409:=Z
abbrev tw18297889839020973972:=Z
abbrev tw13339844881217152918:=Z
abbrev tw17743151071676027952:=Z
abbrev tw7114371824587278952:=Z
abbrev tw11998589257410562359:=Z
abbrev tw9583190996326018097:=Z
abbrev tw4140375347001927571:=Z
abbrev tw443839457005347987:=Z
abbrev tw1384856527896564859:=Z
abbrev tw14025453791731174453:=Z
abbrev tw2023796617046729126:=Z
abbrev tw13058088572011688458:=Z
end PySem.W.Fast
set_option maxRecDepth 100000 in
set_option maxHeartbeats 0 in
theorem PySem.Challenge.cw_momentwright_k62_flocks_with_a_told_root_holds : PySem.Challenge.rw_momentwright_k62_flocks_with_a_told_root.Holds := by
 w_on;o_law;k_head;(case hw=>w_witness2)
 k_fill
 refine M.walk (l:=PySem.Challenge.rw_momentwright_k62_flocks_with_a_told_root) rfl rfl ?hi (fun w h Y=>⟨PySem.W.km_in_of Y,?T⟩) ?F
 case hi=>exact ∅
 case T =>
  have hT:=PySem.W.km_tabs_of Y
  intro q hq
  simp only[List.mem_cons,List.not_mem_nil,or_false] at hq
  rcases hq with rfl
  ·exact⟨by kernel_rfl,by kernel_rfl,hT _ (by simp)⟩
 case F =>
  intro w mg fa h KX G hmg
  refine' M.all_mk KX G hmg rfl ?h0 ?h1 ?h2 ?h3 ?h4 ?h5 ?h6 ?h7 ?h8 ?h9 ?h10 ?h11 ?h12 ?h13 ?h14 ?h15 ?h16 ?h17 ?h18 ?h19 ?h20 ?h21 ?h22 ?h23 ?h24 ?h25 ?h26 ?h27 ?h28 ?h29 ?h30 ?h31 ?h32 ?h33 ?h34 ?h35 ?h36 ?h37 ?h38 ?h39 ?h40 ?h41 ?h42 ?h43 ?h44 ?h45 ?h46 ?h47 ?h48 ?h49 ?h50 ?h51 ?h52 ?h53 ?h54 ?h55 ?h56 ?h57 ?a58 ?l58 ?c58 ?k58 ?h59 ?h60 ?h61 ?h62 ?h63 ?h64 ?h65 ?h66 ?h67 ?h68 ?h69 ?a70 ?l70 ?c70 ?k70 ?a71 ?l71 ?c71 ?k71  ?u0 ?v0 ?w0 ?u1 ?v1 ?w1 ?z0 ?z1 ?z2 ?z3 ?z4 ?z5 ?z6 ?z7 ?z8 ?z9 ?z10 ?z11 ?z12 ?z13 ?z14 ?z15 ?n0 ?n1 ?n2 ?n3 ?n4 ?n5 ?n6 ?n7 ?n8 ?nm ?xo ?q0 ?q1 ?q2 ?q3 ?q4 ?q5 ?q6 ?q7 ?q8 ?qm ?qv ?y1 ?y2 ?y3 ?y4 ?y5 ?y6 ?m70 ?o70
  any_goals (refine' L2.Hf.of ?a ?l ?c ?k;(case a=>k_is);(case l=>k_is);(case c=>k_is);(case k=>k_is))
  (case a58=>k_is);(case l58=>k_is);(case c58=>k_is);(case k58=>k_is)
  (case a70=>k_is);(case l70=>k_is);(case c70=>k_is);(case k70=>k_is)
  (case a71=>k_is);(case l71=>k_is);(case c71=>k_is);(case k71=>k_is)
  (case u0=>k_is);(case v0=>k_is);(case w0=>rfl)
  (case u1=>k_is);(case v1=>k_is);(case w1=>rfl)
  (case z0=>k_is)
  (case z1=>k_is)
  (case z2=>k_is)
  (case z3=>k_is)
  (case z4=>k_is)
  (case z5=>k_is)
  (case z6=>k_is)
  (case z7=>k_is)
  (case z8=>k_is)
  (case z9=>k_is)
  (case z10=>k_is)
  (case z11=>k_is)
  (case z12=>k_is)
  (case z13=>k_is)
  (case z14=>k_is)
  (case z15=>k_is)
  (case n0=>k_is)
  (case n1=>k_is)
  (case n2=>k_is)
  (case n3=>k_is)
  (case n4=>k_is)
  (case n5=>k_is)
  (case n6=>k_is)
  (case n7=>k_is)
  (case n8=>k_is)
  (case nm=>k_is)
  (case xo=>show PySem.W.excIn _ _ _ _=true;kernel_rfl)
  (case q0=>kernel_rfl)
  (case q1=>kernel_rfl)
  (case q2=>kernel_rfl)
  (case q3=>kernel_rfl)
  (case q4=>kernel_rfl)
  (case q5=>kernel_rfl)
  (case q6=>kernel_rfl)
  (case q7=>kernel_rfl)
  (case q8=>kernel_rfl)
  (case qm=>kernel_rfl)
  (case qv=>kernel_rfl)
  (case y1=>kernel_rfl)
  (case y2=>kernel_rfl)
  (case y3=>kernel_rfl)
  (case y4=>kernel_rfl)
  (case y5=>kernel_rfl)
  (case y6=>kernel_rfl)
  (case m70=>rfl)
  (case o70=>kernel_rfl)
#print axioms PySem.Challenge.cw_momentwright_k62_flocks_with_a_told_root_holds

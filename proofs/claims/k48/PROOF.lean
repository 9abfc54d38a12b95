import PyProof.Rows.All
import Wide.All
import OpenK.AllK
import Wide.FinOn
import Lean
import PyProof.EqAt
import PyProof.EqKinds
import PyProof.TupleCall
import PySem.Challenge.RW_momentwright_k48_whole_what_comes_has_a
set_option compiler.extract_closed false
set_option hygiene false
local macro_rules | `(tactic| walk_at "o")=>`(tactic| first | ((repeat (rename (_:Int)≠_=>h; clear h)); (repeat (rename (_:Nat)≠_=>h; clear h)); (repeat (rename _ ∨ _=>h; clear h)); lia) | lia | omega)
local macro_rules | `(nofun)=>`(hr.mono (by walk_at "a2"))
local macro_rules | `(())=>`(by walk_at "o")
local macro_rules | `(∅)=>`(by first | decide | decide +kernel)
local macro_rules | `(tactic| walk_at "q")=>`(tactic| (rotate_left; intro cdv A outer s H vs Q E hr h; rotate_right; intro vs H Q E h))
local macro_rules | `(⋯)=>`(by grind)
local macro_rules | `((·))=>`(by walk_at "a1")
local macro_rules | `(tactic| nofun)=>`(tactic| walk_at "o")
local macro_rules | `(tactic| symm)=>`(tactic| walk_at "vc")
local macro_rules | `(tactic| walk_at "a1")=>`(tactic| first | exact Or.inl rfl | exact Or.inr rfl)
local macro_rules | `(tactic| walk_at "a2")=>`(tactic| first | decide | walk_at "o")
local macro_rules | `(tactic| walk_at "a3")=>`(tactic| exact ⟨rfl,rfl,rfl,by decide +kernel,rfl,by decide +kernel,by decide +kernel⟩)
set_option Elab.async false
set_option linter.all false
set_option maxRecDepth 100000
theorem Ya:type_of% @decide_eq_false:=@decide_eq_false
theorem Yb:type_of% @if_pos:=@if_pos
theorem Yc:type_of% @if_neg:=@if_neg
theorem Yd:type_of% @Nat.lt_of_lt_of_le:=@Nat.lt_of_lt_of_le
theorem Ye:type_of% @Nat.lt_irrefl:=@Nat.lt_irrefl
theorem Yf:type_of% @Nat.ne_of_lt:=@Nat.ne_of_lt
theorem Yg:type_of% @Nat.le_trans:=@Nat.le_trans
theorem Yh:type_of% @Nat.le_of_lt:=@Nat.le_of_lt
theorem Yi:type_of% @List.mem_cons_self:=@List.mem_cons_self
theorem Yj:type_of% @List.mem_cons_of_mem:=@List.mem_cons_of_mem
theorem Yk:type_of% @Ne.symm:=@Ne.symm
theorem Yl:type_of% @List.getElem?_set_ne:=@List.getElem?_set_ne
theorem Ym:type_of% @Option.some.inj:=@Option.some.inj
theorem Yn:type_of% @congrArg:=@congrArg
theorem Yo:type_of% @Bool.false_ne_true:=@Bool.false_ne_true
theorem Yp:type_of% @Nat.le_refl:=@Nat.le_refl
theorem Yq:type_of% @PyProof.Rows.callWith_type1:=@PyProof.Rows.callWith_type1
theorem Yr:type_of% @List.mem_append_right:=@List.mem_append_right
theorem Ys:type_of% @List.size_toArray:=@List.size_toArray
theorem Yt:type_of% @PySem.W.kia_one:=@PySem.W.kia_one
theorem Yu:type_of% @List.length_take:=@List.length_take
theorem Yv:type_of% @PySem.mem_of_lookup:=@PySem.mem_of_lookup
theorem Yw:type_of% @List.getElem?_append_right:=@List.getElem?_append_right
theorem Yx:type_of% @List.getElem?_replicate:=@List.getElem?_replicate
theorem Yy:type_of% @List.getElem?_append_left:=@List.getElem?_append_left
theorem Yz:type_of% @List.getElem?_map:=@List.getElem?_map
theorem YA:type_of% @List.mem_of_getElem?:=@List.mem_of_getElem?
theorem YB:type_of% @List.length_append:=@List.length_append
theorem YC:type_of% @List.length_map:=@List.length_map
theorem YD:type_of% @List.length_replicate:=@List.length_replicate
theorem YE:type_of% @List.length_drop:=@List.length_drop
theorem YF:type_of% @Bool.and_eq_true:=@Bool.and_eq_true
theorem YG:type_of% @List.length_set:=@List.length_set
theorem YH:type_of% @List.replicate_succ:=@List.replicate_succ
theorem YI:type_of% @List.append_assoc:=@List.append_assoc
theorem YJ:type_of% @List.length_singleton:=@List.length_singleton
theorem YK:type_of% @Nat.mul_comm:=@Nat.mul_comm
theorem YL:type_of% @List.map_cons:=@List.map_cons
theorem YM:type_of% @decide_eq_true:=@decide_eq_true
theorem YN:type_of% @List.getElem_mem:=@List.getElem_mem
theorem YO:type_of% @List.getElem?_eq_getElem:=@List.getElem?_eq_getElem
theorem YQ:type_of% @Int.fmod_nonneg_of_pos:=@Int.fmod_nonneg_of_pos
theorem YR:type_of% @Int.fmod_lt_of_pos:=@Int.fmod_lt_of_pos
theorem YS:type_of% @Int.le_of_lt:=@Int.le_of_lt
theorem YT:type_of% @Nat.zero_le:=@Nat.zero_le
theorem YU:type_of% @Nat.pow_le_pow_right:=@Nat.pow_le_pow_right
theorem YV:type_of% @Int.natAbs_mul:=@Int.natAbs_mul
theorem YW:type_of% @Nat.pow_add:=@Nat.pow_add
theorem YX:type_of% @List.getLast?_eq_getElem?:=@List.getLast?_eq_getElem?
theorem YY:type_of% @List.mem_cons:=@List.mem_cons
theorem YZ:type_of% @List.not_mem_nil:=@List.not_mem_nil
theorem Y0:type_of% @or_false:=@or_false
theorem Y1:type_of% @List.getElem?_mapIdx:=@List.getElem?_mapIdx
theorem Y2:type_of% @List.length_mapIdx:=@List.length_mapIdx
theorem Y3:type_of% @Nat.le_mul_of_pos_right:=@Nat.le_mul_of_pos_right
theorem Y4:type_of% @Int.mul_pos:=@Int.mul_pos
theorem Y5:type_of% @Int.mul_assoc:=@Int.mul_assoc
theorem Y6:type_of% @Int.mul_comm:=@Int.mul_comm
theorem Y7:type_of% @Int.eq_of_mul_eq_mul_right:=@Int.eq_of_mul_eq_mul_right
theorem Y8:type_of% @Int.mul_ne_zero:=@Int.mul_ne_zero
theorem Y9:type_of% @Rat.intCast_add:=@Rat.intCast_add
theorem Xa:type_of% @Rat.intCast_mul:=@Rat.intCast_mul
theorem Xb:type_of% @List.take_add_one:=@List.take_add_one
theorem Xc:type_of% @List.getD_eq_getElem?_getD:=@List.getD_eq_getElem?_getD
theorem Xd:type_of% @List.take_length:=@List.take_length
theorem Xe:type_of% @Int.pos_of_mul_pos_left:=@Int.pos_of_mul_pos_left
theorem Xf:type_of% @List.getElem?_eq_none:=@List.getElem?_eq_none
theorem Xg:type_of% @List.getElem?_take:=@List.getElem?_take
theorem Xh:type_of% @List.getElem?_drop:=@List.getElem?_drop
theorem Xi:type_of% @Int.mul_zero:=@Int.mul_zero
theorem Xj:type_of% @List.mem_of_mem_take:=@List.mem_of_mem_take
theorem Xl:type_of% @Nat.mul_le_mul:=@Nat.mul_le_mul
theorem Xm:type_of% @List.length_cons:=@List.length_cons
theorem Xn:type_of% @Nat.add_mul:=@Nat.add_mul
theorem Xo:type_of% @Nat.zero_add:=@Nat.zero_add
theorem Xp:type_of% @Nat.lt_or_ge:=@Nat.lt_or_ge
theorem Xq:type_of% @Int.one_mul:=@Int.one_mul
theorem Xr:type_of% @Nat.lt_of_le_of_lt:=@Nat.lt_of_le_of_lt
theorem Xs:type_of% @Nat.mul_le_mul_left:=@Nat.mul_le_mul_left
theorem Xt:type_of% @Nat.add_assoc:=@Nat.add_assoc
theorem Xu:type_of% @Rat.mul_nonneg:=@Rat.mul_nonneg
theorem Xv:type_of% @Int.pow_zero:=@Int.pow_zero
theorem Xw:type_of% @Int.pow_succ:=@Int.pow_succ
theorem Xx:type_of% @Int.pow_ne_zero:=@Int.pow_ne_zero
theorem Xy:type_of% @Rat.mul_pos:=@Rat.mul_pos
theorem Xz:type_of% @Classical.byContradiction:=@Classical.byContradiction
theorem XA:type_of% @Nat.add_sub_cancel:=@Nat.add_sub_cancel
theorem XB:type_of% @Nat.sub_self:=@Nat.sub_self
theorem XC:type_of% @List.length_nil:=@List.length_nil
theorem XD:type_of% @Iff.rfl:=@Iff.rfl
theorem XE:type_of% @List.map_append:=@List.map_append
theorem XF:type_of% @of_decide_eq_true:=@of_decide_eq_true
theorem XG:type_of% @PySem.F.plainAttrs_list:=@PySem.F.plainAttrs_list
theorem XH:type_of% @Int.zero_add:=@Int.zero_add
theorem XI:type_of% @List.getElem?_of_mem:=@List.getElem?_of_mem
theorem XJ:type_of% @PySem.F.slot_list_append:=@PySem.F.slot_list_append
theorem XM:type_of% @PySem.F.type_list_append:=@PySem.F.type_list_append
theorem XN:type_of% @List.mem_of_mem_drop:=@List.mem_of_mem_drop
theorem XO:type_of% @List.eq_nil_of_length_eq_zero:=@List.eq_nil_of_length_eq_zero
theorem XQ:type_of% @PySem.W.mg_none_of:=@PySem.W.mg_none_of
namespace L2
open PySem PySem.Spec PyProof.Rows
abbrev uh:=Sum Int Str
def FH:uh->Value->Bool
 | .inl k,v=>Value.isInt k v
 | .inr x,v=>Value.isStrOf x v
def Ko(w:World):uh->Int
 | .inl k=>hashInt k
 | .inr x=>hashStr w x
theorem cY:∀{k:uh}{v:Value},FH k v=true->(∃i t,k=Sum.inl i/\v=Value.int i t)\/(∃x t,k=Sum.inr x/\v=Value.str x t)
 | .inl i,v,h=>by
  obtain⟨t,e⟩:=Value.isInt_shape (k:=i) (v:=v) h;exact .inl ⟨i,t,rfl,e⟩
 | .inr x,v,h=>by
  obtain⟨t,e⟩:=Value.isStrOf_shape (x:=x) (v:=v) h;exact .inr ⟨x,t,rfl,e⟩
theorem HK(a b:Int):decide ((Sum.inl a:uh)=Sum.inl b)=(a==b):=by
 by_cases e:a=b
 .subst e;simp
 .have h:¬ (Sum.inl a:uh)=Sum.inl b:=λq=>e (Sum.inl.inj q);rw[Ya h];exact (beq_eq_false_iff_ne.mpr e).symm
theorem GP(a b:Str):decide ((Sum.inr a:uh)=Sum.inr b)=decide (a=b):=by
 by_cases e:a=b
 .subst e;simp
 .have h:¬ (Sum.inr a:uh)=Sum.inr b:=λq=>e (Sum.inr.inj q);rw[Ya h,Ya e]
theorem GZ(a:Int)(b:Str):decide ((Sum.inl a:uh)=Sum.inr b)=false:=Ya (λq=>nomatch q)
theorem Ie(a:Str)(b:Int):decide ((Sum.inr a:uh)=Sum.inl b)=false:=Ya (λq=>nomatch q)
def sC(prog:Program)(w:World):PySem.KeyKind prog w uh where
 is:=FH
 hash:=Ko w
 inj:=λv a b ha hb=>by
  rcases cY ha with ⟨i,t,rfl,rfl⟩|⟨x,t,rfl,rfl⟩
  .rcases cY hb with ⟨j,u,rfl,e⟩|⟨y,u,rfl,e⟩
   .injection e with e1 _;rw[e1]
   .exact nomatch e
  .rcases cY hb with ⟨j,u,rfl,e⟩|⟨y,u,rfl,e⟩
   .exact nomatch e
   .injection e with e1 _;rw[e1]
 byValue:=λk v h=>by
  rcases cY h with ⟨i,t,rfl,rfl⟩|⟨x,t,rfl,rfl⟩<;>rfl
 pyHash:=λhv h=>by
  rcases cY hv with ⟨i,t,rfl,rfl⟩|⟨x,t,rfl,rfl⟩
  .exact wpAny_pyHash_int h
  .exact wpAny_pyHash_str h
 eqBool:=λhu hv h=>by
  rcases cY hu with ⟨i,t,rfl,rfl⟩|⟨x,t,rfl,rfl⟩
  .rcases cY hv with ⟨j,u,rfl,rfl⟩|⟨y,u,rfl,rfl⟩
   .rw[HK] at h;exact wpAny_eqBool_int h
   .rw[GZ] at h;exact SeqAt.EqAt.int_str i t y u _ _ _ _ h
  .rcases cY hv with ⟨j,u,rfl,rfl⟩|⟨y,u,rfl,rfl⟩
   .rw[Ie] at h;exact SeqAt.EqAt.str_int x t j u _ _ _ _ h
   .rw[GP] at h;exact wpAny_eqBool_str h
 «strs»:=λk x t v h=>by
  rcases cY h with ⟨i,u,rfl,e⟩|⟨y,u,rfl,e⟩
  .exact nomatch e
  .injection e with e1 _
   subst e1;cases v<;>rfl
inductive V where
 | non|bl (b:Bool)|int (i:Int)|str (x:Str)|byt (b:Array UInt8)|flt (b:UInt64)|ref (a:Addr)|ty (n:String)
 deriving DecidableEq
def cy:V->Value->Prop
 | .non,u=>u=Value.none
 | .bl b,u=>u=Value.bool b
 | .int i,u=>∃t,u=Value.int i t
 | .str x,u=>∃t,u=Value.str x t
 | .byt b,u=>∃t,u=Value.bytes b t
 | .flt b,u=>∃t,u=Value.float b t
 | .ref a,u=>u=Value.ref a
 | .ty n,u=>u=Value.type n
abbrev bY:List V->List Value->Prop:=Paired cy
theorem bY.length{xs:List V}{us:List Value}(r:bY xs us):xs.length=us.length:=Paired.length r
theorem bY.get:∀{xs:List V}{us:List Value}{i:Nat}{x:V},bY xs us->xs[i]? = some x -> ∃u,us[i]? = some u/\cy x u
 | _,_,_,_,.nil,e=>by simp at e
 | _,_,0,_,.cons r _,e=>by simp at e;subst e;exact⟨_,rfl,r⟩
 | _,_,i+1,x,.cons _ t,e=>by
  obtain⟨u,h1,h2⟩:=bY.get (i:=i) (x:=x) t (by simpa using e)
  exact⟨u,by simpa using h1,h2⟩
theorem bY.set{x:V}{u:Value}(r:cy x u):∀{xs:List V}{us:List Value}(i:Nat),bY xs us->bY (xs.set i x) (us.set i u)
 | _,_,_,.nil=>.nil
 | _,_,0,.cons _ t=>.cons r t
 | _,_,i+1,.cons q t=>.cons q (bY.set r i t)
theorem bY.append:∀{xs ys:List V}{us ws:List Value},bY xs us->bY ys ws->bY (xs++ys) (us++ws)
 | _,_,_,_,.nil,s=>s
 | _,_,_,_,.cons r t,s=>.cons r (bY.append t s)
theorem bY.take:∀{xs:List V}{us:List Value}(n:Nat),bY xs us->bY (xs.take n) (us.take n)
 | _,_,0,_=>.nil
 | _,_,_+1,.nil=>.nil
 | _,_,n+1,.cons r t=>.cons r (bY.take n t)
theorem bY.drop:∀{xs:List V}{us:List Value}(n:Nat),bY xs us->bY (xs.drop n) (us.drop n)
 | _,_,0,r=>r
 | _,_,_+1,.nil=>.nil
 | _,_,n+1,.cons _ t=>bY.drop n t
def GV:Option V->Option Value->Prop
 | some v,some u=>cy v u
 | none,none=>True
 | _,_=>False
def KV{κ:Type}:List (κ×V)->List (κ×Value)->Prop:=Paired λ(p:κ×V)(q:κ×Value)=>p.1=q.1/\cy p.2 q.2
def kV:uh->V
 | .inl i=>.int i
 | .inr x=>.str x
inductive HO where
 /-- a list -/
 | lst (xs:List V)
 /-- a tuple (never changes) -/
 | tup (xs:List V)
 /-- a dict whose keys are ints and texts;one whose keys are tuples of ints and texts (the empty one is both) -/
 | dK (kvs:List (uh×V))|dT (kvs:List (List uh×V))
 /-- a set of ints: its members,its size -/
 | set (S:Int->Bool)(n:Nat)
 /-- an instance of the class at C,its dict at dx,its attributes -/
 | ins (C dx:Addr)(fs:List (Str×V))
 /-- the dict of the instance at x -/
 | own (x:Addr)
 /-- the dict of an exception -/
 | xd (fs:List (Str×V))
 /-- a bound method,f of x -/
 | met (f x:Addr)
 /-- a range object lo,lo+1,.. below hi -/
 | rng (lo hi:Int)
 /-- a thing that is known to the object (the script;a dict while a loop walks it): read,never written while it is so -/
 | frz (o:Obj)(u:HO)
 /-- a code object's table -/
 | tbl (ps:Array Value)
 /-- any other thing,by what is true of its one object (a def of one's own: SetO a S n:=HO.ext λh=>..) -/
 | ext (φ:Heap->Prop)
abbrev Hp:=Addr->Option HO
def upd(H:Hp)(a:Addr)(o:HO):Hp:=λb=>if b=a then some o else H b
theorem dM{H:Hp}{a:Addr}{o:HO}:upd H a o a=some o:=by unfold upd;rw[Yb rfl]
theorem cJ{H:Hp}{a b:Addr}{o:HO}(h:b≠a):upd H a o b=H b:=by unfold upd;rw[Yc h]
theorem ap{H:Hp}{a b:Addr}{o:HO}(h:H a=some o)(h':H b=none):a≠b:=by
 intro e;subst e;rw[h] at h';cases h'
section
variable (P:Program)(w:World)
def fE(H:Hp)(h:Heap)(a:Addr):HO->Prop
 | .lst xs=>xs.length<=sizeLine /\ ∃(its:List Value)(n:Nat),bY xs its/\h.get? a=some { cls:=.type "list",data:=.seq its.toArray n }
 | .tup xs=>xs.length<=sizeLine /\ ∃its:List Value,bY xs its/\IsTup h a its.toArray
 | .dK kvs=>kvs.length<=sizeLine/\(a==sysModules)=false /\ ∃vs,KV kvs vs/\h.DictOf (sC P w) a vs
 | .dT kvs=>kvs.length<=sizeLine/\(a==sysModules)=false /\ ∃xs:List (List uh×Addr×Value),
   Paired (λ(p:List uh×V)(q:List uh×Addr×Value)=>p.1=q.1/\H q.2.1=some (.tup (p.1.map kV))/\cy p.2 q.2.2) kvs xs /\
   ∃o es ep,h.get? a=some o/\o.ExactDict/\o.data=.dict es ep/\es.toList=xs.map (entryOfKey (tupleKind (sC P w)))/\(xs.map (·.1)).Nodup
 | .set S n=>h.SetOf (intKind P w) a S n
 | .ins C dx fs=>H dx=some (.own a)/\fs.length<=1000/\dx≠a/\h.get? a=some (PySem.W.instObj C dx) /\
   ∃mA,h.Ns1 dx mA/\(∀f,GV (fs.lookup f) (mA f))/\PySem.Within mA (fs.map (·.1))
 | .own _=>∃o,h.get? a=some o
 | .xd fs=>∃mA,h.Ns1 a mA /\ ∀f,GV (fs.lookup f) (mA f)
 | .rng lo hi=>∃t u v,h.get? a=some { cls:=.type "range",data:=.fields #[.int lo t,.int hi u,.int 1 v] }
 | .frz o u=>h.get? a=some o/\fE H h a u
 | .tbl ps=>h.get? a=some { cls:=.none,data:=.fields ps }
 | .met f x=>h.get? a=some (PySem.W.methodObj (.ref f) (.ref x))
 | .ext φ=>φ h/\(∃o,h.get? a=some o) /\ ∀h1 h2:Heap,φ h1->(∀o,h1.get? a=some o->h2.get? a=some o)->φ h2
def oi(H:Hp)(h:Heap):Prop:=∀a o,H a=some o->fE P w H h a o
end
section
variable {P:Program}{w:World}{H H':Hp}{h h':Heap}{a:Addr}{o:HO}
theorem fE.lt(x:fE P w H h a o):a<h.objs.size:=by
 cases o with
 | lst xs=>obtain⟨_,_,_,_,e⟩:=x;exact Heap.lt_size e
 | tup xs=>obtain⟨_,_,_,p⟩:=x;exact p.lt
 | dK kvs=>obtain⟨_,_,_,_,o,_,_,e,_⟩:=x;exact Heap.lt_size e
 | dT kvs=>obtain⟨_,_,_,_,o,_,_,e,_⟩:=x;exact Heap.lt_size e
 | set S n=>obtain⟨o,_,_,_,e,_⟩:=x;exact Heap.lt_size e
 | ins C dx fs=>obtain⟨_,_,_,e,_⟩:=x;exact Heap.lt_size e
 | own y=>obtain⟨_,e⟩:=x;exact Heap.lt_size e
 | xd fs=>obtain⟨_,⟨_,_,_,e,_⟩,_⟩:=x;exact Heap.lt_size e
 | rng lo hi=>obtain⟨_,_,_,e⟩:=x;exact Heap.lt_size e
 | frz ob u=>obtain⟨e,_⟩:=x;exact Heap.lt_size e
 | tbl ps=>exact Heap.lt_size (show h.get? a=some _ from x)
 | met f y=>exact Heap.lt_size (show h.get? a=some _ from x)
 | ext φ=>obtain⟨_,⟨_,e⟩,_⟩:=x;exact Heap.lt_size e
theorem Paired.mapP{α β:Type}{F G:α->β->Prop}:∀{l₁:List α}{l₂:List β},Paired F l₁ l₂->(∀a b,F a b->G a b)->Paired G l₁ l₂
 | _,_,.nil,_=>.nil
 | _,_,.cons r t,f=>.cons (f _ _ r) (Paired.mapP t f)
theorem fE.stay(x:fE P w H h a o)(k:∀b u,(b=a\/H b=some (.own a))->h.get? b=some u->h'.get? b=some u)
  (ho:∀b,H b=some (.own a)->H' b=some (.own a))(ht:∀b xs,H b=some (.tup xs)->H' b=some (.tup xs)):fE P w H' h' a o:=by
 induction o with
 | lst xs=>obtain⟨z,its,n,r,e⟩:=x;exact⟨z,its,n,r,k _ _ (.inl rfl) e⟩
 | tup xs=>obtain⟨z,its,r,ob,e,c⟩:=x;exact⟨z,its,r,ob,k _ _ (.inl rfl) e,c⟩
 | dK kvs=>obtain⟨z,y,vs,r,ob,es,ep,e,c⟩:=x;exact⟨z,y,vs,r,ob,es,ep,k _ _ (.inl rfl) e,c⟩
 | dT kvs =>
  obtain⟨z,y,xs,r,ob,es,ep,e,c⟩:=x;exact⟨z,y,xs,Paired.mapP r λp q z=>⟨z.1,ht _ _ z.2.1,z.2.2⟩,ob,es,ep,k _ _ (.inl rfl) e,c⟩
 | set S n=>obtain⟨ob,es,ep,t,e,c⟩:=x;exact⟨ob,es,ep,t,k _ _ (.inl rfl) e,c⟩
 | ins C dx fs =>
  obtain⟨d,z,ne,e,mA,⟨od,es,ep,e2,c⟩,r⟩:=x;exact⟨ho _ d,z,ne,k _ _ (.inl rfl) e,mA,⟨od,es,ep,k _ _ (.inr d) e2,c⟩,r⟩
 | own y=>obtain⟨ob,e⟩:=x;exact⟨ob,k _ _ (.inl rfl) e⟩
 | xd fs=>obtain⟨mA,⟨od,es,ep,e,c⟩,r⟩:=x;exact⟨mA,⟨od,es,ep,k _ _ (.inl rfl) e,c⟩,r⟩
 | rng lo hi=>obtain⟨t,u,v,e⟩:=x;exact⟨t,u,v,k _ _ (.inl rfl) e⟩
 | frz ob u ih=>obtain⟨e,q⟩:=x;exact⟨k _ _ (.inl rfl) e,ih q⟩
 | tbl ps =>
  have e:h.get? a=some { cls:=.none,data:=.fields ps }:=x;show h'.get? a=some { cls:=.none,data:=.fields ps };exact k a _ (.inl rfl) e
 | met f y =>
  have e:h.get? a=some (PySem.W.methodObj (.ref f) (.ref y)):=x;show h'.get? a=some (PySem.W.methodObj (.ref f) (.ref y));exact k a _ (.inl rfl) e
 | ext φ=>obtain⟨p,⟨o,e⟩,st⟩:=x;exact⟨st _ _ p λo q=>k _ _ (.inl rfl) q,⟨o,k _ _ (.inl rfl) e⟩,st⟩
theorem oi.lt(x:oi P w H h)(e:H a=some o):a<h.objs.size:=(x a o e).lt
theorem oi.fresh(x:oi P w H h)(e:h.objs.size<=a):H a=none:=by
 cases q:H a with
 | none=>rfl
 | some u=>exact absurd (Yd (x.lt q) e) (Ye _)
theorem oi.kept(x:oi P w H h)(k:∀b u,h.get? b=some u->h'.get? b=some u):oi P w H h':=λa o e =>
 (x a o e).stay (λb u _ q=>k b u q) (λ_ q=>q) λ_ _ q=>q
theorem oi.laid(x:oi P w H h)(k:∀b u,h.get? b=some u->h'.get? b=some u)(hp:h.objs.size<=a)(new:fE P w (upd H a o) h' a o):oi P w (upd H a o) h':=λb u e=>by
 have hn:=x.fresh hp;by_cases hb:b=a
 .subst hb;rw[dM] at e;cases e;exact new
 .rw[cJ hb] at e;exact (x b u e).stay (λc v _ q=>k c v q) (λc q=>by rw[cJ (ap q hn)];exact q) λc xs q=>by rw[cJ (ap q hn)];exact q
end
def Rd(H:Hp)(a:Addr)(u:HO):Prop:=H a=some u \/ ∃o,H a=some (.frz o u)
theorem Rd.ok{P:Program}{w:World}{H:Hp}{h:Heap}{a:Addr}{u:HO}(r:Rd H a u)(x:oi P w H h):fE P w H h a u:=by
 rcases r with r|⟨o,r⟩
 .exact x a u r
 .obtain⟨_,q⟩:=x a _ r;exact q
def JM:Option HO->Prop
 | some (.lst _)=>True
 | some (.dK _)=>True
 | some (.dT _)=>True
 | some (.set _ _)=>True
 | some (.ins _ _ _)=>True
 | some (.ext _)=>True
 | _=>False
section
variable {P:Program}{w:World}{H:Hp}{h h':Heap}{x e:Addr}{o':HO}
theorem oi.write(ok:oi P w H h)(mu:JM (H x))(he:e=x\/H e=some (.own x))(k:∀b u,b≠e->h.get? b=some u->h'.get? b=some u)(heo:∃u,h'.get? e=some u)
  (new:fE P w (upd H x o') h' x o'):oi P w (upd H x o') h':=λb u q=>by
 have nown:∀c y,H c=some (.own y)->c≠x:=λc y r z=>by subst z;rw[r] at mu;exact mu
 have ntup:∀c xs,H c=some (.tup xs)->c≠x:=λc xs r z=>by subst z;rw[r] at mu;exact mu
 by_cases hb:b=x
 .subst hb;rw[dM] at q;cases q;exact new
 .rw[cJ hb] at q;by_cases hbe:b=e
  .have q':H b=some (.own x):=by
    rcases he with z|z
    .exact absurd (hbe.trans z) hb
    .rw[hbe];exact z
   rw[q] at q';cases q';obtain⟨v,hv⟩:=heo;exact⟨v,by rw[hbe];exact hv⟩
  .refine (ok b u q).stay (λc v hc r=>k c v ?_ r) (λc r=>by rw[cJ (nown c b r)];exact r) λc xs r=>by rw[cJ (ntup c xs r)];exact r
   rcases hc with rfl|hc
   .exact hbe
   .rintro rfl;rcases he with z|z
    .exact nown c b hc z
    .rw[hc] at z;cases z;exact hb rfl
end
structure Un (fs ex:List Addr)(H H':Hp)(h h':Heap):Prop where
 keep:∀b o,h.get? b=some o->H b=none->b∉fs->b∉ex->h'.get? b=some o
 slot:∀b o,h.get? b=some o->H b=none->b∈fs->b∉ex -> ∃sl,h'.get? b=some { o with slots:=sl }
 free:∀b o,h.get? b=some o->H b=none->b∉ex->H' b=none
 there:∀b o,h.get? b=some o->b∉ex -> ∃o',h'.get? b=some o'
 tups:∀b xs,H b=some (.tup xs)->H' b=some (.tup xs)
 frzs:∀b o u,H b=some (.frz o u)->H' b=some (.frz o u)
 tbls:∀b ps,H b=some (.tbl ps) -> ∃more,H' b=some (.tbl (ps++more))
section
variable {fs fs' ex ex':List Addr}{H H1 H2:Hp}{h h1 h2 h':Heap}{a x e:Addr}{o:HO}
theorem Un.any(u:Un fs ex H H1 h h1) {b:Addr}{ob:Obj}(q:h.get? b=some ob)(n:H b=none)(hx:b∉ex):∃sl,h1.get? b=some { ob with slots:=sl }:=by
 by_cases hb:b∈fs
 .exact u.slot b ob q n hb hx
 .exact⟨ob.slots,u.keep b ob q n hb hx⟩
theorem Un.kept(k:∀b u,h.get? b=some u->h'.get? b=some u):Un fs ex H H h h' :=
 ⟨λb ob q _ _ _=>k b ob q,λb ob q _ _ _=>⟨ob.slots,k b ob q⟩,λ_ _ _ n _=>n,λb ob q _=>⟨ob,k b ob q⟩,λ_ _ q=>q,λ_ _ _ q=>q,λ_ ps q=>⟨#[],by rw[q];simp⟩⟩
theorem Un.refl:Un fs ex H H h h:=Un.kept λ_ _ q=>q
theorem Un.laid(k:∀b u,h.get? b=some u->h'.get? b=some u)(hp:h.objs.size<=a)(hn:H a=none):Un fs ex H (upd H a o) h h' where
 keep:=λb u q _ _ _=>k b u q
 slot:=λb u q _ _ _=>⟨u.slots,k b u q⟩
 free:=λb u q n _=>by rw[cJ (Yf (Yd (Heap.lt_size q) hp))];exact n
 there:=λb u q _=>⟨u,k b u q⟩
 tups:=λb xs q=>by rw[cJ (ap q hn)];exact q
 frzs:=λb u xs q=>by rw[cJ (ap q hn)];exact q
 tbls:=λb ps q=>⟨#[],by rw[cJ (ap q hn),q];simp⟩
theorem Un.write(mu:JM (H x))(he:e=x\/H e=some (.own x))(k:∀b u,b≠e->h.get? b=some u->h'.get? b=some u)(heo:∃u,h'.get? e=some u):Un fs ex H (upd H x o) h h':=by
 have hx:∀b,H b=none->b≠x:=λb n z=>by subst z;rw[n] at mu;exact mu
 have hb:∀b,H b=none->b≠e:=λb n z=>by
  subst z;rcases he with r|r
  .exact hx b n r
  .rw[n] at r;cases r
 have hm:∀b u,H b=some u -> ¬ JM (some u)->b≠x:=λb u q nm z=>by subst z;rw[q] at mu;exact nm mu
 refine⟨λb u q n _ _=>k b u (hb b n) q,λb u q n _ _=>⟨u.slots,k b u (hb b n) q⟩,λb u q n _=>by rw[cJ (hx b n)];exact n,λb u q _=>?_,
  λb xs q=>by rw[cJ (hm b _ q λz=>z)];exact q,λb u xs q=>by rw[cJ (hm b _ q λz=>z)];exact q,λb ps q=>⟨#[],by rw[cJ (hm b _ q λz=>z),q];simp⟩⟩
 by_cases hbe:b=e
 .subst hbe;exact heo
 .exact⟨u,k b u hbe q⟩
end
def JD(h:Heap)(H:Hp):List Addr:=(List.range h.objs.size).filter λa=>(H a).isSome
def pN(h:Heap)(H:Hp):Heap:=PySem.W.hideAll h (JD h H)
theorem zH(h:Heap)(H:Hp):(pN h H).objs.size=h.objs.size:=PySem.W.hideAll_size _ _
theorem AO{h:Heap}{H:Hp}{b:Addr}{o:Obj}(e:h.get? b=some o)(n:H b=none):(pN h H).get? b=some o :=
 PySem.W.hideAll_get _ e λhm=>by
  have q:(H b).isSome=true:=(List.mem_filter.mp hm).2;rw[n] at q;simp at q
theorem Ea{h:Heap}{H:Hp}{b:Addr}{o:Obj}(e:(pN h H).get? b=some o):h.get? b=some o/\H b=none:=by
 have e':h.get? b=some o:=PySem.W.of_hideAll (JD h H) e;refine⟨e',?_⟩;cases q:H b with
 | none=>rfl
 | some x =>
  have hm:b∈JD h H:=List.mem_filter.mpr ⟨List.mem_range.mpr (Heap.lt_size e'),by simp[q]⟩
  have z:(pN h H).get? b=none:=PySem.W.hideAll_none (JD h H) hm;rw[z] at e;cases e
def DK(g h:Heap)(L:Addr):List (Addr×Obj):=(List.range h.objs.size).filterMap λa=>if a=L\/(g.get? a).isSome=true then none else (h.get? a).map λo=>(a,o)
def rest(g h:Heap)(L d:Addr):List (Addr×Obj):=(DK g h L).filter λp=>decide (p.1≠d)
structure Mod (K:W.Frag)(mg:Str->Option Value)(base:Heap):Prop where
 kin:K.In base
 glob:base.Ns mainGlobals mg
 blt:∃mb,base.Ns builtinsNs mb /\ ∀x:Str,x ≠ "__name__" -> mb x=bootBuiltins x
 nolimit:base.NoLimit
structure Cx where
 prog:Program
 w:World
 K:W.Frag
 mg:Str->Option Value
 base:Heap
 A:Around
 N:List Str
 s₀:Shared
 H₀:Hp
 env:Env
 outer:List Env
 stack:List Env
 ex:List Addr
 fn:Str->Bool
 calm:Bool
 pn:List (Addr×Obj)
 xe:Value->Shared->Prop
def Ae(l:List Env):List Addr:=l.filterMap (·.frame)
abbrev Cx.fs (X:Cx):List Addr:=Ae X.outer
def IV(sc:Scope)(x:Str):Prop:=sc.names.lookup x=some .local\/sc.names.lookup x=some .cell\/sc.names.lookup x=some .free
def Dh(sc:Scope)(x:Str):Prop:=sc.names.lookup x=some .local\/sc.names.lookup x=some .cell
def JZ(env:Env)(h:Heap)(m:Str->Option Value)(x:Str)(u:Value):Prop :=
 (env.kindOf x=some .local/\m x=some u)\/((env.kindOf x=some .cell\/env.kindOf x=some .free) /\ ∃c,env.cells.lookup x=some c/\h.IsCell c (some u))
structure Cx.Ok (X:Cx):Prop where
 mod:Mod X.K X.mg X.base
 kind:X.env.scope.kind=.function
 glob:X.env.globals=mainGlobals
 blt:X.env.builtins=builtinsNs
 above:X.s₀.heap.objs.size<=X.env.locals
 inj:∀x y c,X.env.cells.lookup x=some c->X.env.cells.lookup y=some c->x=y
 has:∀x,(X.env.kindOf x=some .cell\/X.env.kindOf x=some .free) -> ∃c,X.env.cells.lookup x=some c
 cab:∀x c,X.fn x=true->X.env.cells.lookup x=some c->X.s₀.heap.objs.size<=c
 hd:X.calm=true->X.A.handled=none
 frames:X.A.frames=some X.stack
 stk:X.stack=X.outer\/(X.stack=X.env::X.outer/\X.env.frame=some X.env.locals)
 exf:∀b∈X.ex,b≠X.env.locals /\ ∀x c,X.env.cells.lookup x=some c->c≠b
 bs:∀b o,X.base.get? b=some o->X.s₀.heap.get? b=some o/\X.H₀ b=none
 bsz:X.base.objs.size<=X.s₀.heap.objs.size
 noex:∀b o,X.base.get? b=some o->b∉X.ex
 exfs:∀b∈X.ex,b∉X.fs
 funs:X.s₀.heap.FunFrames X.base X.outer
 frf:∀b∈X.fs,X.H₀ b=none
structure aR (X:Cx)(pins:List (Addr×Obj))(σ:List (Option V))(H:Hp)(s:Shared):Prop where
 ok:X.Ok
 os:s.os=X.s₀.os
 bare:AllBare s.gens
 base:Un X.fs X.ex X.H₀ H X.s₀.heap s.heap
 loc:∃m,s.heap.Ns X.env.locals m /\ ∀(i:Nat)(x:Str)(v:V),X.N[i]? = some x->σ[i]? = some (some v)->IV X.env.scope x -> ∃u,cy v u/\JZ X.env s.heap m x u
 cell:∀x c,X.env.cells.lookup x=some c -> ∃v,s.heap.IsCell c v
 free:H X.env.locals=none
 freeC:∀x c,X.env.cells.lookup x=some c->H c=none
 pin:∀p∈X.pn++pins,s.heap.get? p.1=some p.2/\H p.1=none/\p.1≠X.env.locals/\p.1∉X.fs /\ ∀v,p.2.data ≠ .cell v
 hok:oi X.prog X.w H s.heap
 len:σ.length=X.N.length
section
variable {X:Cx}{pins:List (Addr×Obj)}{σ:List (Option V)}{H H':Hp}{s:Shared}{h':Heap}
theorem Cx.Ok.nofr(ok:X.Ok){b:Addr}{o:Obj}(e:X.base.get? b=some o):b∉X.fs:=λhb=>by
 have:=(ok.funs.mem hb).1;rw[e] at this;cases this
theorem aR.bs(I:aR X pins σ H s):∀b o,X.base.get? b=some o->s.heap.get? b=some o/\H b=none:=λb o e =>
 ⟨I.base.keep b o (I.ok.bs b o e).1 (I.ok.bs b o e).2 (I.ok.nofr e) (I.ok.noex b o e),I.base.free b o (I.ok.bs b o e).1 (I.ok.bs b o e).2 (I.ok.noex b o e)⟩
theorem aR.bk(I:aR X pins σ H s):∀b o,X.base.get? b=some o->s.heap.get? b=some o:=λb o e=>(I.bs b o e).1
theorem aR.mod(I:aR X pins σ H s):Mod X.K X.mg X.base:=I.ok.mod
theorem aR.kIn(I:aR X pins σ H s):X.K.In s.heap:=I.ok.mod.kin.keeps I.bk
theorem aR.nolimit(I:aR X pins σ H s):s.heap.NoLimit:=I.ok.mod.nolimit.keeps I.bk
theorem aR.lt(I:aR X pins σ H s):X.env.locals<s.heap.objs.size:=let ⟨_,hn,_⟩:=I.loc;hn.lt
theorem aR.sz(I:aR X pins σ H s):X.s₀.heap.objs.size<=s.heap.objs.size:=Yg I.ok.above (Yh I.lt)
theorem aR.nofs(I:aR X pins σ H s) {a:Addr}(h:s.heap.objs.size<=a):a∉X.fs:=λhb=>by
 obtain⟨_,o,ho,_⟩:=I.ok.funs.mem hb;exact absurd (Yd (Heap.lt_size ho) (Yg I.sz h)) (Ye _)
theorem aR.cne(I:aR X pins σ H s):∀x c,X.env.cells.lookup x=some c->c≠X.env.locals:=λx c e z=>by
 obtain⟨v,o,ho,hd⟩:=I.cell x c e;obtain⟨m,⟨o',es,ep,ho',hd',_⟩,_⟩:=I.loc;rw[z,ho'] at ho;cases ho;rw[hd'] at hd;cases hd
theorem aR.funs(I:aR X pins σ H s):s.heap.FunFrames X.base X.outer:=by
 have all:∀(l:List Env),(∀b∈Ae l,b∈X.fs)->X.s₀.heap.FunFrames X.base l->s.heap.FunFrames X.base l:=by
  intro l;induction l with
  | nil=>intro _ _;trivial
  | cons env r ih =>
   intro hs hl;obtain⟨hk,⟨L,o,hf,hn,ho,hd⟩,hr⟩:=hl;have hL:L∈X.fs:=hs L (by unfold Ae;rw[List.filterMap_cons,hf];exact Yi)
   obtain⟨sl,e⟩:=I.base.slot L o ho (I.ok.frf L hL) hL λz=>I.ok.exfs L z hL;exact⟨hk,⟨L,_,hf,hn,e,hd⟩,ih (λb hb=>hs b (by unfold Ae;rw[List.filterMap_cons,hf];exact Yj _ hb)) hr⟩
 exact all X.outer (λ_ hb=>hb) I.ok.funs
theorem aR.stack(I:aR X pins σ H s):s.heap.FunFrames X.base X.stack:=by
 rcases I.ok.stk with e|⟨e,hf⟩
 .rw[e];exact I.funs
 .rw[e];obtain⟨m,hn,_⟩:=I.loc;refine .cons (by rw[I.ok.kind];decide) hf hn ?_ I.funs
  exact Heap.get?_none_of_le (Yg I.ok.bsz I.ok.above)
theorem aR.stkSub(I:aR X pins σ H s):∀b∈Ae X.stack,b∈X.env.locals::X.fs:=λb hb=>by
 rcases I.ok.stk with e|⟨e,hf⟩
 .rw[e] at hb;exact Yj _ hb
 .rw[e] at hb;unfold Ae at hb;rw[List.filterMap_cons,hf] at hb;exact hb
theorem aR.stkFree(I:aR X pins σ H s):∀b∈Ae X.stack,H b=none:=λb hb=>by
 rcases YY.mp (I.stkSub b hb) with e|hb
 .rw[e];exact I.free
 .obtain⟨_,o,ho,_⟩:=I.ok.funs.mem hb;exact I.base.free b o ho (I.ok.frf b hb) λz=>I.ok.exfs b z hb
theorem aR.step{g':Array GenState}{t':Nat}{d':Drawn}{ch:List Addr}(I:aR X pins σ H s)
  (hch:∀b∈ch,(b∈X.ex\/X.s₀.heap.objs.size<=b)/\b≠X.env.locals/\(∀x c,X.env.cells.lookup x=some c->c≠b) /\ ∀p∈X.pn++pins,p.1≠b)
  (keep:∀b o,b≠X.env.locals->b∉X.fs->b∉ch->s.heap.get? b=some o->H b=none->h'.get? b=some o)
  (slot:∀b o,b≠X.env.locals->b∈X.fs->b∉ch->s.heap.get? b=some o->H b=none -> ∃sl,h'.get? b=some { o with slots:=sl })(free:∀b o,b∉ch->s.heap.get? b=some o->H b=none->H' b=none)
  (there:∀b o,b∉ch->s.heap.get? b=some o -> ∃o',h'.get? b=some o')
  (tups:∀b xs,H b=some (.tup xs)->H' b=some (.tup xs))(frzs:∀b o u,H b=some (.frz o u)->H' b=some (.frz o u))(tbls:∀b ps,H b=some (.tbl ps) -> ∃more,H' b=some (.tbl (ps++more)))
  (ns:∀m,s.heap.Ns X.env.locals m->h'.Ns X.env.locals m)(hok:oi X.prog X.w H' h')(hg:AllBare g') :
  aR X pins σ H' { s with heap:=h',gens:=g',drawn:=d',toks:=t' }:=by
 have neL:∀b o,X.s₀.heap.get? b=some o->b≠X.env.locals:=λb o e=>Yf (Yd (Heap.lt_size e) I.ok.above);have neC:∀b o,X.s₀.heap.get? b=some o->b∉X.ex->b∉ch:=λb o e hx hb=>by
  rcases (hch b hb).1 with z|z
  .exact hx z
  .exact absurd (Yd (Heap.lt_size e) z) (Ye _)
 have cellK:∀x c,X.env.cells.lookup x=some c -> ∀v,s.heap.IsCell c v->h'.IsCell c v:=λx c e v ⟨o,ho,hd⟩=>by
  have nch:c∉ch:=λz=>(hch c z).2.2.1 x c e rfl;by_cases hc:c∈X.fs
  .obtain⟨sl,q⟩:=slot c o (I.cne x c e) hc nch ho (I.freeC x c e);exact⟨_,q,hd⟩
  .exact⟨o,keep c o (I.cne x c e) hc nch ho (I.freeC x c e),hd⟩
 refine⟨I.ok,I.os,hg,⟨λb o e n hb hx=>?_,λb o e n hb hx=>?_,λb o e n hx=>?_,λb o e hx=>?_,λb xs e=>tups b xs (I.base.tups b xs e),λb o xs e=>frzs b o xs (I.base.frzs b o xs e),λb ps e=>?_⟩,?_,λx c e=>?_,?_,λx c e=>?_,λp hp=>?_,hok,I.len⟩
 .exact keep b o (neL b o e) hb (neC b o e hx) (I.base.keep b o e n hb hx) (I.base.free b o e n hx)
 .obtain⟨sl,e1⟩:=I.base.slot b o e n hb hx;obtain⟨sl',e2⟩:=slot b _ (neL b o e) hb (neC b o e hx) e1 (I.base.free b o e n hx);exact⟨sl',e2⟩
 .obtain⟨o',e1⟩:=I.base.there b o e hx;exact free b o' (neC b o e hx) e1 (I.base.free b o e n hx)
 .obtain⟨o',e1⟩:=I.base.there b o e hx;exact there b o' (neC b o e hx) e1
 .obtain⟨m1,e1⟩:=I.base.tbls b ps e;obtain⟨m2,e2⟩:=tbls b _ e1;exact⟨m1++m2,by rw[e2,Array.append_assoc]⟩
 .obtain⟨m,hn,hl⟩:=I.loc;refine⟨m,ns m hn,λi x v e1 e2 e3=>?_⟩;obtain⟨u,r,l⟩:=hl i x v e1 e2 e3;refine⟨u,r,?_⟩;rcases l with l|⟨k,c,e,z⟩
  .exact .inl l
  .exact .inr ⟨k,c,e,cellK x c e _ z⟩
 .obtain⟨v,z⟩:=I.cell x c e;exact⟨v,cellK x c e v z⟩
 .obtain⟨m,⟨o,_,_,ho,_⟩,_⟩:=I.loc;exact free _ o (λz=>(hch _ z).2.1 rfl) ho I.free
 .obtain⟨v,o,ho,hd⟩:=I.cell x c e;exact free c o (λz=>(hch c z).2.2.1 x c e rfl) ho (I.freeC x c e)
 .obtain⟨e,n,ne,nf,d⟩:=I.pin p hp;have nch:p.1∉ch:=λz=>(hch p.1 z).2.2.2 p hp rfl;exact⟨keep p.1 p.2 ne nf nch e n,free p.1 p.2 nch e n,ne,nf,d⟩
theorem aR.un{t':Nat}(I:aR X pins σ H s)(u:Un X.fs [] H H' s.heap h')(hok:oi X.prog X.w H' h'):aR X pins σ H' { s with heap:=h',toks:=t' }:=by
 obtain⟨m,⟨o,es,ep,ho,r⟩,_⟩:=id I.loc;obtain⟨sl,hL⟩:=u.any ho I.free (by simp)
 exact I.step (g':=s.gens) (d':=s.drawn) (ch:=[]) (λ_ z=>nomatch z) (λb o _ hb _ e n=>u.keep b o e n hb (by simp)) (λb o _ hb _ e n=>u.slot b o e n hb (by simp)) (λb o _ e n=>u.free b o e n (by simp)) (λb o _ e=>u.there b o e (by simp)) u.tups u.frzs u.tbls (λm' hm=>by
  obtain⟨o',es',ep',ho',r'⟩:=hm;rw[ho] at ho';cases ho';exact⟨_,es',ep',hL,r'⟩) hok I.bare
theorem aR.call{g':Array GenState}{t':Nat}{d':Drawn}{ch:List Addr}(I:aR X pins σ H s)(u:Un (Ae X.stack) ch H H' s.heap h')(hok:oi X.prog X.w H' h')(hg:AllBare g')
  (hch:∀b∈ch,(b∈X.ex\/X.s₀.heap.objs.size<=b)/\b≠X.env.locals/\(∀x c,X.env.cells.lookup x=some c->c≠b) /\ ∀p∈X.pn++pins,p.1≠b) :
  aR X pins σ H' { s with heap:=h',gens:=g',drawn:=d',toks:=t' }:=by
 obtain⟨m,⟨o,es,ep,ho,r⟩,_⟩:=id I.loc;obtain⟨sl,hL⟩:=u.any ho I.free λz=>(hch _ z).2.1 rfl;exact I.step (ch:=ch) hch (λb o hL hb hc e n=>u.keep b o e n (λz=>(YY.mp (I.stkSub b z)).elim hL hb) hc) (λb o _ _ hc e n=>u.any e n hc) (λb o hc e n=>u.free b o e n hc) (λb o hc e=>u.there b o e hc) u.tups u.frzs u.tbls (λm' hm=>by
  obtain⟨o',es',ep',ho',r'⟩:=hm;rw[ho] at ho';cases ho';exact⟨_,es',ep',hL,r'⟩) hok hg
theorem aR.turned{t':Nat}{it:Addr}(I:aR X pins σ H s)(k:∀b o,b≠it->s.heap.get? b=some o->h'.get? b=some o)(hn:H it=none)(hL:it≠X.env.locals)
  (h1:it∈X.ex\/X.s₀.heap.objs.size<=it)(h2:∀x c,X.env.cells.lookup x=some c->c≠it)(h3:∀p∈X.pn++pins,p.1≠it):aR X pins σ H { s with heap:=h',toks:=t' }:=by
 have nit:∀b u,H b=some u->b≠it:=λb u e z=>by rw[z,hn] at e;cases e
 refine I.step (g':=s.gens) (d':=s.drawn) (ch:=[it]) (λb hb=>?_) (λb o _ _ hc e _=>k b o (λz=>hc (by simp[z])) e) (λb o _ _ hc e _=>⟨o.slots,k b o (λz=>hc (by simp[z])) e⟩) (λ_ _ _ _ n=>n)
  (λb o hc e=>⟨o,k b o (λz=>hc (by simp[z])) e⟩) (λ_ _ e=>e) (λ_ _ _ e=>e) (λb ps e=>⟨#[],by rw[e];simp⟩) (λm hm=>?_) (λb u e=>?_) I.bare
 .have e:b=it:=by simpa using hb
  subst e;exact⟨h1,hL,h2,h3⟩
 .obtain⟨o,es,ep,ho,r⟩:=hm;exact⟨o,es,ep,k _ o (Yk hL) ho,r⟩
 .refine (I.hok b u e).stay (λc v hc q=>k c v ?_ q) (λ_ q=>q) λ_ _ q=>q;rcases hc with z|z
  .rw[z];exact nit b u e
  .exact nit c _ z
theorem aR.tok(I:aR X pins σ H s)(t:Nat):aR X pins σ H { s with toks:=t }:=I.un (h':=s.heap) (t':=t) Un.refl I.hok
theorem aR.kept{t':Nat}(I:aR X pins σ H s)(k:∀b u,s.heap.get? b=some u->h'.get? b=some u):aR X pins σ H { s with heap:=h',toks:=t' }:=I.un (Un.kept k) (I.hok.kept k)
theorem aR.laid{a:Addr}{o:HO}{t':Nat}(I:aR X pins σ H s)(k:∀b u,s.heap.get? b=some u->h'.get? b=some u)(hp:s.heap.objs.size<=a)(new:fE X.prog X.w (upd H a o) h' a o) :
  aR X pins σ (upd H a o) { s with heap:=h',toks:=t' }:=I.un (Un.laid k hp (I.hok.fresh hp)) (I.hok.laid k hp new)
theorem aR.write{x e:Addr}{o:HO}{t':Nat}(I:aR X pins σ H s)(mu:JM (H x))(he:e=x\/H e=some (.own x))(k:∀b u,b≠e->s.heap.get? b=some u->h'.get? b=some u)(heo:∃u,h'.get? e=some u)
  (new:fE X.prog X.w (upd H x o) h' x o):aR X pins σ (upd H x o) { s with heap:=h',toks:=t' }:=I.un (Un.write mu he k heo) (I.hok.write mu he k heo new)
theorem aR.pins_of{pins':List (Addr×Obj)}(I:aR X pins σ H s)(h:∀p∈pins',s.heap.get? p.1=some p.2/\H p.1=none/\p.1≠X.env.locals/\p.1∉X.fs /\ ∀v,p.2.data ≠ .cell v):aR X pins' σ H s :=
 ⟨I.ok,I.os,I.bare,I.base,I.loc,I.cell,I.free,I.freeC,λp hp=>(List.mem_append.mp hp).elim (λz=>I.pin p (List.mem_append_left _ z)) (h p),I.hok,I.len⟩
theorem uo{N:List Str}(hN:N.Nodup) {i j:Nat}{x:Str}(a:N[i]? = some x)(b:N[j]? = some x):i=j:=by
 obtain⟨h1,e1⟩:=List.getElem?_eq_some_iff.mp a;obtain⟨h2,e2⟩:=List.getElem?_eq_some_iff.mp b;exact (List.getElem_inj hN).mp (e1.trans e2.symm)
theorem qK{M:Model}{A:Around}{E:Value->Shared->Prop}{i:Nat}{x:Str}{v:V}{u:Value}{Q:Unit->Shared->Prop}(I:aR X pins σ H s)(hN:X.N.Nodup)(hi:X.N[i]? = some x)(hx:Dh X.env.scope x)(r:cy v u)
  (h:∀s',aR X pins (σ.set i (some v)) H s'->(∃a,Heap.SameBut a s.heap s'.heap/\(a=X.env.locals\/X.env.cells.lookup x=some a))->Q PUnit.unit s')(hf:X.fn x=true\/X.env.scope.names.lookup x=some .local:=by first|exact .inl rfl|exact .inr rfl|assumption):wpAny M A (storeName X.env x u) Q E s:=by
 obtain⟨m,hn,hl⟩:=id I.loc;have hcls:(X.env.scope.kind == .class || (X.env.scope.kind == .module && X.env.locals != X.env.globals))=false:=by rw[I.ok.kind];rfl
 have hiσ:i<σ.length:=by rw[I.len];exact (List.getElem?_eq_some_iff.mp hi).1
 have cne:=I.cne;have tracked:∀{a:Addr}{h':Heap},(∃o,s.heap.get? a=some o/\H a=none)->Heap.SameBut a s.heap h'->oi X.prog X.w H h':=λ{a h'} ha hs b ob e=>by
  obtain⟨_,_,hfree⟩:=ha;refine (I.hok b ob e).stay (λc w' hc q=>(hs.2 c ?_).trans q) (λ_ q=>q) λ_ _ q=>q;rintro rfl;rcases hc with rfl|hc
  .rw[hfree] at e;cases e
  .rw[hfree] at hc;cases hc
 rcases hx with hk|hk
 .refine wpAny_storeName_local hk hn (λh' hn' hs=>?_) hcls;obtain⟨oL,_,_,hoL,_⟩:=id hn;refine h _ ⟨I.ok,I.os,I.bare,⟨λb o e n hb hx=>?_,λb o e n hb hx=>?_,I.base.free,λb o e hx=>?_,I.base.tups,I.base.frzs,I.base.tbls⟩,⟨_,hn',λj y v' e1 e2 e3=>?_⟩,λy c e=>?_,I.free,I.freeC,λp hp=>?_,tracked ⟨oL,hoL,I.free⟩ hs,by simpa using I.len⟩ ⟨_,hs,.inl rfl⟩
  .exact (hs.2 b (Yf (Yd (Heap.lt_size e) I.ok.above))).trans (I.base.keep b o e n hb hx)
  .obtain⟨sl,e1⟩:=I.base.slot b o e n hb hx;exact⟨sl,(hs.2 b (Yf (Yd (Heap.lt_size e) I.ok.above))).trans e1⟩
  .obtain⟨o',e1⟩:=I.base.there b o e hx;exact⟨o',(hs.2 b (Yf (Yd (Heap.lt_size e) I.ok.above))).trans e1⟩
  .by_cases hj:j=i
   .subst hj;rw[hi] at e1;cases e1;rw[List.getElem?_set_self hiσ] at e2;cases e2;exact⟨u,r,.inl ⟨hk,by simp⟩⟩
   .rw[Yl (Yk hj)] at e2;obtain⟨u',r',q⟩:=hl j y v' e1 e2 e3;refine⟨u',r',?_⟩;rcases q with ⟨k,e⟩|⟨k,c,e,z⟩
    .refine .inl ⟨k,?_⟩;have:y≠x:=λe=>hj (uo hN e1 (e▸hi));simp[this,e]
    .exact .inr ⟨k,c,e,z.sameBut hs (cne y c e)⟩
  .obtain⟨w',z⟩:=I.cell y c e;exact⟨w',z.sameBut hs (cne y c e)⟩
  .obtain⟨e,n,ne,nf,d⟩:=I.pin p hp;exact⟨(hs.2 p.1 ne).trans e,n,ne,nf,d⟩
 .have hfn:X.fn x=true:=by
   rcases hf with z|z
   .exact z
   .rw[z] at hk;cases hk
  obtain⟨c,hc⟩:=I.ok.has x (.inl hk);obtain⟨w',z⟩:=I.cell x c hc;refine wpAny_storeName_cell I.ok.kind hk hc z (λh' hc' hs=>?_);obtain⟨oc,hoc,hocd⟩:=id z;refine h { s with heap:=h' } ⟨I.ok,I.os,I.bare,⟨λb o e n hb hx=>?_,λb o e n hb hx=>?_,I.base.free,λb o e hx=>?_,I.base.tups,I.base.frzs,I.base.tbls⟩,⟨m,hn.sameBut hs (Yk (cne x c hc)),λj y v' e1 e2 e3=>?_⟩,λy c' e=>?_,I.free,I.freeC,λp hp=>?_,tracked ⟨oc,hoc,I.freeC x c hc⟩ hs,by simpa using I.len⟩ ⟨c,hs,.inr hc⟩
  .exact (hs.2 b (Yf (Yd (Heap.lt_size e) (I.ok.cab x c hfn hc)))).trans (I.base.keep b o e n hb hx)
  .obtain⟨sl,e1⟩:=I.base.slot b o e n hb hx;exact⟨sl,(hs.2 b (Yf (Yd (Heap.lt_size e) (I.ok.cab x c hfn hc)))).trans e1⟩
  .obtain⟨o',e1⟩:=I.base.there b o e hx;exact⟨o',(hs.2 b (Yf (Yd (Heap.lt_size e) (I.ok.cab x c hfn hc)))).trans e1⟩
  .by_cases hj:j=i
   .subst hj;rw[hi] at e1;cases e1;rw[List.getElem?_set_self hiσ] at e2;cases e2;exact⟨u,r,.inr ⟨.inl hk,c,hc,hc'⟩⟩
   .rw[Yl (Yk hj)] at e2;obtain⟨u',r',q⟩:=hl j y v' e1 e2 e3;refine⟨u',r',?_⟩;rcases q with q|⟨k,c',e,z'⟩
    .exact .inl q
    .refine .inr ⟨k,c',e,z'.sameBut hs ?_⟩;rintro rfl;exact hj (uo hN e1 (I.ok.inj _ _ _ e hc▸hi))
  .by_cases hcc:c'=c
   .subst hcc;exact⟨_,hc'⟩
   .obtain⟨w2,z2⟩:=I.cell y c' e;exact⟨w2,z2.sameBut hs hcc⟩
  .obtain⟨e,n,ne,nf,d⟩:=I.pin p hp;refine⟨(hs.2 p.1 ?_).trans e,n,ne,nf,d⟩;intro q;rw[q,hoc] at e;have q':oc=p.2:=Ym e;exact d w' (by rw[<-q'];exact hocd)
theorem gg{M:Model}{A:Around}{E:Value->Shared->Prop}{i:Nat}{x:Str}{v:V}{u:Value}{Q:Unit->Shared->Prop}(I:aR X pins σ H s)(hN:X.N.Nodup)(hi:X.N[i]? = some x)(hx:Dh X.env.scope x)(r:cy v u)
  (h:∀s',aR X pins (σ.set i (some v)) H s'->Q PUnit.unit s')(hf:X.fn x=true\/X.env.scope.names.lookup x=some .local:=by first|exact .inl rfl|exact .inr rfl|assumption):wpAny M A (storeName X.env x u) Q E s :=
 qK I hN hi hx r (λs' I' _=>h s' I') hf
theorem aR.call'{s':Shared}{ch:List Addr}(I:aR X pins σ H s)(ho:s'.os=s.os)(u:Un (Ae X.stack) ch H H' s.heap s'.heap)(hok:oi X.prog X.w H' s'.heap)(hg:AllBare s'.gens)
  (hch:∀b∈ch,(b∈X.ex\/X.s₀.heap.objs.size<=b)/\b≠X.env.locals/\(∀x c,X.env.cells.lookup x=some c->c≠b) /\ ∀p∈X.pn++pins,p.1≠b):aR X pins σ H' s':=by
 obtain⟨h',g',d',t',o'⟩:=s';have e:o'=s.os:=ho;subst e;exact I.call (g':=g') (t':=t') (d':=d') u hok hg hch
end
abbrev XK:=Value->Option Addr->Hp->Prop
abbrev St:=List (Option V)
abbrev VK:=V->Hp->Prop
abbrev TE:=St->Hp->VK->Prop
abbrev TT:=St->Hp->(Bool->Hp->Prop)->Prop
abbrev TA:=St->Hp->(List V->Hp->Prop)->Prop
structure nI where
 nx:St->Hp->Prop
 rt:VK
 bk:St->Hp->Prop:=λ_ _=>False
 ct:St->Hp->Prop:=λ_ _=>False
abbrev TS:=nI->St->Hp->Prop
def EP(X:Cx)(pins:List (Addr×Obj))(σ:St)(Q:VK)(u:Value)(s':Shared):Prop:=∃v H',aR X pins σ H' s'/\cy v u/\Q v H'
def TP(X:Cx)(pins:List (Addr×Obj))(σ:St)(Q:Bool->Hp->Prop)(b:Bool)(s':Shared):Prop:=∃H',aR X pins σ H' s'/\Q b H'
def AP(X:Cx)(pins:List (Addr×Obj))(σ:St)(Q:List V->Hp->Prop)(us:List Value)(s':Shared):Prop:=∃vs H',aR X pins σ H' s'/\bY vs us/\Q vs H'
def SP(X:Cx)(pins:List (Addr×Obj))(D:nI)(f:Flow)(s':Shared):Prop :=
 match f with
 | .next=>∃σ' H',aR X pins σ' H' s'/\D.nx σ' H'
 | .brk=>∃σ' H',aR X pins σ' H' s'/\D.bk σ' H'
 | .cont=>∃σ' H',aR X pins σ' H' s'/\D.ct σ' H'
 | .ret u=>∃v σ' H',aR X pins σ' H' s'/\cy v u/\D.rt v H'
def PE(X:Cx)(e:Expr)(t:TE):Prop :=
 ∀(pins:List (Addr×Obj))(s:Shared)(σ:St)(H:Hp)(Q:VK),aR X pins σ H s->t σ H Q->wpAny (model X.prog X.w) X.A (eval e X.env) (EP X pins σ Q) X.xe s
def PT(X:Cx)(e:Expr)(t:TT):Prop :=
 ∀(pins:List (Addr×Obj))(s:Shared)(σ:St)(H:Hp)(Q:Bool->Hp->Prop),aR X pins σ H s->t σ H Q->wpAny (model X.prog X.w) X.A (isTrue e X.env (eval e X.env)) (TP X pins σ Q) X.xe s
def PW(X:Cx)(e:Expr)(t:TT):Prop :=
 ∀(whole:Sem Value)(pins:List (Addr×Obj))(s:Shared)(σ:St)(H:Hp)(Q:Bool->Hp->Prop),aR X pins σ H s->t σ H Q->wpAny (model X.prog X.w) X.A (isTrue e X.env whole) (TP X pins σ Q) X.xe s
theorem PW.pt{X:Cx}{e:Expr}{t:TT}(h:PW X e t):PT X e t:=h _
def PA(X:Cx)(es:List Expr)(t:TA):Prop :=
 ∀(pos:Pos)(pins:List (Addr×Obj))(s:Shared)(σ:St)(H:Hp)(Q:List V->Hp->Prop),aR X pins σ H s->t σ H Q->wpAny (model X.prog X.w) X.A (spliced (backTo pos (starEach es X.env))) (AP X pins σ Q) X.xe s
def PS(X:Cx)(st:Stmt)(t:TS):Prop :=
 ∀(pins:List (Addr×Obj))(s:Shared)(σ:St)(H:Hp)(D:nI),aR X pins σ H s->t D σ H->wpAny (model X.prog X.w) X.A (exec st X.env) (SP X pins D) X.xe s
def vB(X:Cx)(st:List Stmt)(t:TS):Prop :=
 ∀(pins:List (Addr×Obj))(s:Shared)(σ:St)(H:Hp)(D:nI),aR X pins σ H s->t D σ H->wpAny (model X.prog X.w) X.A (execs st X.env) (SP X pins D) X.xe s
theorem da{α:Type}{t:Sem α}{Q Q':α->Shared->Prop}{M:Model}{A:Around}{E:Value->Shared->Prop}{s:Shared}(h:wpAny M A t Q E s)(hQ:∀a s,Q a s->Q' a s):wpAny M A t Q' E s:=wpAny_mono h hQ λ_ _ x=>x
section
variable {X:Cx}
def Ft(i:Nat):TE:=λσ H Q=>∃v,σ[i]? = some (some v)/\Q v H
def tC(v:V):TE:=λ_ H Q=>Q v H
theorem Gj{i:Nat}{x:Str}{pos:Pos}(hN:X.N[i]? = some x)(hv:IV X.env.scope x)(hd:(x==("__debug__" : Str))=false:=by decide) (hcd:(x==("__classdict__" : Str))=false:=by decide):PE X (.Name x pos) (Ft i):=by
 intro pins s σ H Q I h;obtain⟨v,e,h⟩:=h;obtain⟨m,hn,hl⟩:=I.loc;obtain⟨u,r,l⟩:=hl i x v hN e hv;have fin:EP X pins σ Q u s:=⟨v,H,I,r,h⟩;rcases l with ⟨hk,hm⟩|⟨hk,c,hc,hcell⟩
 .exact wpAny_Name (wpAny_loadName_local I.ok.kind hk hn hm fin) hd
 .rcases hk with hk|hk
  .exact wpAny_Name (wpAny_loadName_cell I.ok.kind hk hc hcell fin) hd
  .exact wpAny_Name (wpAny_loadName_free I.ok.kind hk hc hcell fin hcd) hd
theorem F3 {i j pos}:PE X (.Constant (.int i) j pos) (tC (.int i)):=λ_ _ _ H _ I h=>wpAny_Constant_int ⟨.int i,H,I.tok _,⟨_,rfl⟩,h⟩
theorem Jw {b j pos}:PE X (.Constant (.bool b) j pos) (tC (.bl b)):=λ_ _ _ H _ I h=>Constant_bool ⟨.bl b,H,I,rfl,h⟩
theorem Gb {j pos}:PE X (.Constant .none j pos) (tC .non):=λ_ _ _ H _ I h=>Constant_none ⟨.non,H,I,rfl,h⟩
theorem HE {x j pos}:PE X (.Constant (.str x) j pos) (tC (.str x)):=λ_ _ _ H _ I h=>Calls.Constant_str ⟨.str x,H,I.tok _,⟨_,rfl⟩,h⟩
def Gl(X:Cx)(x:Str):Prop:=X.env.kindOf x=some .globalImplicit
theorem xV{E:Value->Shared->Prop}{pins:List (Addr×Obj)}{s:Shared}{σ:St}{H:Hp}{x:Str}{u:Value}{pos:Pos}{Q:Value->Shared->Prop}(I:aR X pins σ H s)(hg:Gl X x)(hm:X.mg x=some u)(h:Q u s)
  (hd:(x==("__debug__" : Str))=false:=by decide):wpAny (model X.prog X.w) X.A (eval (.Name x pos) X.env) Q E s :=
 Calls.Name_function_global I.ok.kind hg (Calls.loadGlobal_global (by rw[I.ok.glob];exact I.mod.glob.keeps I.bk) hm h) hd
theorem jL{E:Value->Shared->Prop}{pins:List (Addr×Obj)}{s:Shared}{σ:St}{H:Hp}{x:Str}{u:Value}{pos:Pos}{Q:Value->Shared->Prop}(I:aR X pins σ H s)(hg:Gl X x)(hm:X.mg x=none)(hv:bootBuiltins x=some u)(h:Q u s)
  (hn:x ≠ "__name__":=by decide) (hd:(x==("__debug__" : Str))=false:=by decide):wpAny (model X.prog X.w) X.A (eval (.Name x pos) X.env) Q E s:=by
 obtain⟨mb,h1,h2⟩:=I.mod.blt;exact Calls.Name_function_global I.ok.kind hg (Calls.loadGlobal_builtin (by rw[I.ok.glob];exact I.mod.glob.keeps I.bk) hm (by rw[I.ok.blt];exact h1.keeps I.bk) ((h2 x hn).trans hv) h) hd
theorem DT{x:Str}{v:V}{u:Value}{pos:Pos}(hg:Gl X x)(hm:X.mg x=some u)(r:cy v u)(hd:(x==("__debug__" : Str))=false:=by decide):PE X (.Name x pos) (tC v) :=
 λ_ _ _ H _ I h=>xV I hg hm ⟨v,H,I,r,h⟩ hd
theorem DR{x:Str}{v:V}{u:Value}{pos:Pos}(hg:Gl X x)(hm:X.mg x=none)(hv:bootBuiltins x=some u)(r:cy v u)(hn:x ≠ "__name__":=by decide) (hd:(x==("__debug__" : Str))=false:=by decide):PE X (.Name x pos) (tC v) :=
 λ_ _ _ H _ I h=>jL I hg hm hv ⟨v,H,I,r,h⟩ hn hd
variable {a b:Expr}{ta tb:TE}{pos:Pos}
def tB(t:TE):TT:=λσ H Q=>t σ H λx H1=>∃c,x=.bl c/\Q c H1
theorem Hv{e:Expr}{t:TE}(h:PE X e t)(he:∀whole,isTrue e X.env whole=(do let v <-whole;standAt e.pos;holding [v] (truthy v)):=by intro _;rfl):PT X e (tB t):=by
 intro pins s σ H Q I hw;refine isTrue_plain (da (h pins s σ H _ I hw) λv s1 ⟨x,H1,I1,r1,q1⟩=>?_) (he _);obtain⟨d,rfl,q⟩:=q1;cases r1;exact wpAny_truthy_bool ⟨H1,I1,q⟩
variable {tA tB':TT}{rest:List Expr}
def F4(t u:TT):TT:=λσ H Q=>t σ H λc H1=>if c=true then u σ H1 Q else Q false H1
def Kr(t u:TT):TT:=λσ H Q=>t σ H λc H1=>if c=true then Q true H1 else u σ H1 Q
def Ib(t:TT):TT:=λσ H Q=>t σ H λc H1=>Q (!c) H1
theorem ER(ha:PT X a tA):PW X (.BoolOp .And [a] pos) tA:=by
 intro wh pins s σ H Q I h;refine isTrue_and (da (ha pins s σ H Q I h) λc s1 e=>?_);cases c with
 | true=>exact isTrue_and_nil e
 | false=>exact e
theorem G3(ha:PT X a tA):PW X (.BoolOp .Or [a] pos) tA:=by
 intro wh pins s σ H Q I h;refine isTrue_or (da (ha pins s σ H Q I h) λc s1 e=>?_);cases c with
 | false=>exact isTrue_or_nil e
 | true=>exact e
theorem F0(ha:PT X a tA)(hb:PW X (.BoolOp .And (b::rest) pos) tB'):PW X (.BoolOp .And (a::b::rest) pos) (F4 tA tB'):=by
 intro wh pins s σ H Q I h;refine isTrue_and (da (ha pins s σ H _ I h) λc s1 ⟨H1,I1,q1⟩=>?_);cases c with
 | true=>exact hb wh pins s1 σ H1 Q I1 q1
 | false=>exact⟨H1,I1,q1⟩
theorem IM(ha:PT X a tA)(hb:PW X (.BoolOp .Or (b::rest) pos) tB'):PW X (.BoolOp .Or (a::b::rest) pos) (Kr tA tB'):=by
 intro wh pins s σ H Q I h;refine isTrue_or (da (ha pins s σ H _ I h) λc s1 ⟨H1,I1,q1⟩=>?_);cases c with
 | true=>exact⟨H1,I1,q1⟩
 | false=>exact hb wh pins s1 σ H1 Q I1 q1
theorem HJ(ha:PT X a tA):PT X (.UnaryOp .Not a pos) (Ib tA):=by
 intro pins s σ H Q I h;exact isTrue_not (ha pins s σ H (λc H1=>Q (!c) H1) I h)
def yi(ta tb:TE):TE:=λσ H Q=>ta σ H λx H1=>∃c,x=.bl c/\if c=true then tb σ H1 Q else Q (.bl false) H1
def EN(ta tb:TE):TE:=λσ H Q=>ta σ H λx H1=>∃c,x=.bl c/\if c=true then Q (.bl true) H1 else tb σ H1 Q
def xN(ta:TE):TE:=λσ H Q=>ta σ H λx H1=>∃c,x=.bl c/\Q (.bl (!c)) H1
theorem F7 {op}{t:TE}(h:PE X a t):PE X (.BoolOp op [a] pos) t:=λpins s σ H Q I hw=>BoolOp_one (h pins s σ H Q I hw)
theorem F5(ha:PE X a ta)(hb:PE X (.BoolOp .And (b::rest) pos) tb):PE X (.BoolOp .And (a::b::rest) pos) (yi ta tb):=by
 intro pins s σ H Q I h;refine BoolOp_and (da (ha pins s σ H _ I h) λv s1 ⟨x,H1,I1,r1,q1⟩=>?_);obtain⟨c,rfl,q1⟩:=q1;cases r1;refine wpAny_truthy_bool ?_;cases c with
 | true=>exact hb pins s1 σ H1 Q I1 q1
 | false=>exact⟨.bl false,H1,I1,rfl,q1⟩
theorem Jp(ha:PE X a ta)(hb:PE X (.BoolOp .Or (b::rest) pos) tb):PE X (.BoolOp .Or (a::b::rest) pos) (EN ta tb):=by
 intro pins s σ H Q I h;refine BoolOp_or (da (ha pins s σ H _ I h) λv s1 ⟨x,H1,I1,r1,q1⟩=>?_);obtain⟨c,rfl,q1⟩:=q1;cases r1;refine wpAny_truthy_bool ?_;cases c with
 | false=>exact hb pins s1 σ H1 Q I1 q1
 | true=>exact⟨.bl true,H1,I1,rfl,q1⟩
theorem Gk(ha:PE X a ta):PE X (.UnaryOp .Not a pos) (xN ta):=by
 intro pins s σ H Q I h;refine UnaryOp_ (da (ha pins s σ H _ I h) λv s1 ⟨x,H1,I1,r1,q1⟩=>?_);obtain⟨c,rfl,q1⟩:=q1;cases r1;exact not_of (wpAny_truthy_bool ⟨.bl (!c),H1,I1,rfl,q1⟩)
def J3(t:TT)(ta tb:TE):TE:=λσ H Q=>t σ H λc H1=>if c=true then ta σ H1 Q else tb σ H1 Q
theorem By{c:Expr}(hc:PT X c tA)(ha:PE X a ta)(hb:PE X b tb):PE X (.IfExp c a b pos) (J3 tA ta tb):=by
 intro pins s σ H Q I h;refine wpAny_IfExp (da (hc pins s σ H _ I h) λd s1 ⟨H1,I1,q1⟩=>?_);cases d with
 | true=>exact ha pins s1 σ H1 Q I1 q1
 | false=>exact hb pins s1 σ H1 Q I1 q1
end
def kr(K:W.Frag)(H:Hp)(a:Addr)(xs:List V):Prop :=
 Rd H a (.lst xs) \/
  ∃(o:Obj)(its:Array Value)(n:Nat),K.lookup a=some o/\o.cls=.type "list" /\ o.dict=none/\o.data=.seq its n/\its.size<=sizeLine/\bY xs its.toList
def ug(K:W.Frag)(H:Hp)(a:Addr)(xs:List V):Prop :=
 Rd H a (.tup xs) \/
  ∃(o:Obj)(its:Array Value)(n:Nat),K.lookup a=some o/\o.cls=.type "tuple" /\ o.data=.seq its n/\its.size<=sizeLine/\bY xs its.toList
def Jr:Value->Option V
 | .none=>some .non
 | .bool b=>some (.bl b)
 | .int i _=>some (.int i)
 | .str x _=>some (.str x)
 | .bytes b _=>some (.byt b)
 | .float b _=>some (.flt b)
 | .ref a=>some (.ref a)
 | .type n=>some (.ty n)
 | _=>none
theorem cy.abs{x:V}{u:Value}(r:cy x u):Jr u=some x:=by
 cases x with
 | non=>cases r;rfl
 | bl _=>cases r;rfl
 | int _=>obtain⟨t,rfl⟩:=r;rfl
 | str _=>obtain⟨t,rfl⟩:=r;rfl
 | byt _=>obtain⟨t,rfl⟩:=r;rfl
 | flt _=>obtain⟨t,rfl⟩:=r;rfl
 | ref _=>cases r;rfl
 | ty _=>cases r;rfl
theorem cy.inj{x y:V}{u:Value}(r:cy x u)(q:cy y u):x=y:=Ym (r.abs.symm.trans q.abs)
theorem bY.inj:∀{xs ys:List V}{us:List Value},bY xs us->bY ys us->xs=ys
 | _,_,_,.nil,.nil=>rfl
 | _,_,_,.cons r t,.cons r' t'=>by rw[r.inj r',bY.inj t t']
section
variable {X:Cx}{pins:List (Addr×Obj)}{σ:St}{H:Hp}{s:Shared}{a:Addr}{xs ys:List V}
theorem kr.of{K:W.Frag}(h:H a=some (.lst xs)):kr K H a xs:=.inl (.inl h)
theorem ug.of{K:W.Frag}(h:H a=some (.tup xs)):ug K H a xs:=.inl (.inl h)
theorem aR.list(I:aR X pins σ H s)(h:kr X.K H a xs):∃its:List Value,bY xs its/\PlainL s.heap a its.toArray/\xs.length<=sizeLine:=by
 rcases h with h|⟨o,its,n,hk,hc,hd,hs,hz,r⟩
 .obtain⟨z,its,n,r,e⟩:=h.ok I.hok;exact⟨its,r,⟨_,n,e,rfl,rfl,rfl⟩,z⟩
 .refine⟨its.toList,r,⟨o,n,I.kIn a o hk,hc,hd,by simpa using hs⟩,?_⟩
  have e:=r.length;simp only[Array.length_toList] at e;nofun
theorem aR.tuple(I:aR X pins σ H s)(h:ug X.K H a xs):∃its:List Value,bY xs its/\IsTup s.heap a its.toArray/\xs.length<=sizeLine:=by
 rcases h with h|⟨o,its,n,hk,hc,hs,hz,r⟩
 .obtain⟨z,its,r,p⟩:=h.ok I.hok;exact⟨its,r,p,z⟩
 .refine⟨its.toList,r,⟨o,I.kIn a o hk,hc,n,by simpa using hs⟩,?_⟩
  have e:=r.length;simp only[Array.length_toList] at e;nofun
theorem aR.list_inj(I:aR X pins σ H s)(h:kr X.K H a xs)(h':kr X.K H a ys):xs=ys:=by
 obtain⟨its,r,⟨o,n,e,_,_,d⟩,_⟩:=I.list h;obtain⟨its',r',⟨o',n',e',_,_,d'⟩,_⟩:=I.list h';rw[e] at e';cases e';rw[d] at d';injection d' with d1 _
 have:its=its':=by simpa using Yn Array.toList d1
 subst this;exact r.inj r'
theorem aR.tuple_inj(I:aR X pins σ H s)(h:ug X.K H a xs)(h':ug X.K H a ys):xs=ys:=by
 obtain⟨its,r,⟨o,e,_,n,d⟩,_⟩:=I.tuple h;obtain⟨its',r',⟨o',e',_,n',d'⟩,_⟩:=I.tuple h';rw[e] at e';cases e';rw[d] at d';injection d' with d1 _
 have:its=its':=by simpa using Yn Array.toList d1
 subst this;exact r.inj r'
end
abbrev Cx.wish (X:Cx)(E:Value->Shared->Prop):Cx:={ X with xe:=E }
abbrev Cx.nox (X:Cx):Cx:=X.wish λ_ _=>False
theorem Cx.Ok.wish{X:Cx}(ok:X.Ok)(E:Value->Shared->Prop):(X.wish E).Ok :=
 ⟨ok.mod,ok.kind,ok.glob,ok.blt,ok.above,ok.inj,ok.has,ok.cab,ok.hd,ok.frames,ok.stk,ok.exf,ok.bs,ok.bsz,ok.noex,ok.exfs,ok.funs,ok.frf⟩
theorem Cx.Ok.unwish{X:Cx}{E:Value->Shared->Prop}(ok:(X.wish E).Ok):X.Ok :=
 ⟨ok.mod,ok.kind,ok.glob,ok.blt,ok.above,ok.inj,ok.has,ok.cab,ok.hd,ok.frames,ok.stk,ok.exf,ok.bs,ok.bsz,ok.noex,ok.exfs,ok.funs,ok.frf⟩
section
variable {X:Cx}{pins:List (Addr×Obj)}{σ:St}{H:Hp}{s:Shared}{E:Value->Shared->Prop}
theorem aR.wish(I:aR X pins σ H s)(E:Value->Shared->Prop):aR (X.wish E) pins σ H s:=⟨I.ok.wish E,I.os,I.bare,I.base,I.loc,I.cell,I.free,I.freeC,I.pin,I.hok,I.len⟩
theorem aR.unwish(I:aR (X.wish E) pins σ H s):aR X pins σ H s:=⟨I.ok.unwish,I.os,I.bare,I.base,I.loc,I.cell,I.free,I.freeC,I.pin,I.hok,I.len⟩
theorem SP.unwish{D:nI}{f:Flow}{s':Shared}(h:SP (X.wish E) pins D f s'):SP X pins D f s':=by
 cases f with
 | next=>obtain⟨σ',H',I,q⟩:=h;exact⟨σ',H',I.unwish,q⟩
 | brk=>obtain⟨σ',H',I,q⟩:=h;exact⟨σ',H',I.unwish,q⟩
 | cont=>obtain⟨σ',H',I,q⟩:=h;exact⟨σ',H',I.unwish,q⟩
 | ret u=>obtain⟨v,σ',H',I,r,q⟩:=h;exact⟨v,σ',H',I.unwish,r,q⟩
theorem vB.nox{st:List Stmt}{t:TS}(h:vB X.nox st t):vB X st t:=λpins s σ H D I hw =>
 wpAny_mono (h pins s σ H D (I.wish _) hw) (λ_ _ q=>q.unwish) λ_ _ z=>False.elim z
end
section
variable {X:Cx}{st:Stmt}{rest:List Stmt}{t u:TS}{e:Expr}{te:TE}{pos:Pos}
def AL:TS:=λD σ H=>D.nx σ H
def aP(t u:TS):TS:=λD σ H=>t { D with nx:=u D } σ H
theorem EH:vB X [] AL:=λ_ _ σ H _ I h=>wpAny_execs_nil ⟨σ,H,I,h⟩
theorem Cq(h1:PS X st t)(h2:vB X rest u):vB X (st::rest) (aP t u):=by
 intro pins s σ H D I h;refine wpAny_execs_cons (da (h1 pins s σ H { D with nx:=u D } I h) λf s1 q=>?_)
 cases f with
 | next =>
  obtain⟨σ',H',I',q⟩:=q;exact h2 pins s1 σ' H' D I' q
 | ret v=>exact q
 | brk=>exact q
 | cont=>exact q
theorem Fi(h1:PS X st t):vB X [st] t:=by
 intro pins s σ H D I h;refine wpAny_execs_cons (da (h1 pins s σ H D I h) λf s1 q=>?_);cases f with
 | next=>exact wpAny_execs_nil q
 | ret v=>exact q
 | brk=>exact q
 | cont=>exact q
theorem aR.quiet{pins:List (Addr×Obj)}{σ:St}{H:Hp}{s:Shared}(I:aR X pins σ H s):interactive X.env=false:=by simp[interactive,I.ok.kind]
def AQ(te:TE):TS:=λD σ H=>te σ H λ_ H1=>D.nx σ H1
theorem DC(he:PE X e te)(hs:swapsWith e none pos.line X.env=pure false:=by rfl):PS X (.Expr e pos) (AQ te):=by
 intro pins s σ H D I h;exact wpAny_Expr_any (da (he pins s σ H _ I h) λv s1 ⟨x,H1,I1,r1,q1⟩=>⟨σ,H1,I1,q1⟩) I.quiet hs
def GC(te:TE):TS:=λD σ H=>te σ H D.rt
theorem GN(he:PE X e te):PS X (.Return (some e) pos) (GC te):=by
 intro pins s σ H D I h;exact wpAny_Return_some (da (he pins s σ H _ I h) λv s1 ⟨x,H1,I1,r1,q1⟩=>⟨x,σ,H1,I1,r1,q1⟩)
def IH:TS:=λD _ H=>D.rt .non H
def Ic(c:TT)(t u:TS):TS:=λD σ H=>c σ H λb H1=>if b=true then t D σ H1 else u D σ H1
theorem Jq{c:Expr}{a b:List Stmt}{tc:TT}(hc:PT X c tc)(ha:vB X a t)(hb:vB X b u):PS X (.If c a b pos) (Ic tc t u):=by
 intro pins s σ H D I h;refine wpAny_If (da (hc pins s σ H _ I h) λd s1 ⟨H1,I1,q1⟩=>?_);cases d with
 | true=>exact ha pins s1 σ H1 D I1 q1
 | false=>exact hb pins s1 σ H1 D I1 q1
def vC:TS:=λ_ _ _=>False
theorem Cg:PS X st vC:=λ_ _ _ _ _ _ h=>h.elim
end
abbrev TG:=V->St->Hp->(St->Hp->Prop)->Prop
abbrev Af:=List V->St->Hp->(St->Hp->Prop)->Prop
def PG(X:Cx)(target:Expr)(t:TG):Prop :=
 ∀(pins:List (Addr×Obj))(s:Shared)(σ:St)(H:Hp)(v:V)(u:Value)(Q:St->Hp->Prop),aR X pins σ H s->cy v u->t v σ H Q ->
  wpAny (model X.prog X.w) X.A (assign target X.env u) (λ_ s'=>∃σ' H',aR X pins σ' H' s'/\Q σ' H') X.xe s
def Iw(X:Cx)(ts:List Expr)(t:Af):Prop :=
 ∀(pins:List (Addr×Obj))(s:Shared)(σ:St)(H:Hp)(vs:List V)(us:List Value)(Q:St->Hp->Prop),aR X pins σ H s->bY vs us->t vs σ H Q ->
  wpAny (model X.prog X.w) X.A (assignInOrder ((assignEach ts X.env).map (·.2)) us) (λ_ s'=>∃σ' H',aR X pins σ' H' s'/\Q σ' H') X.xe s
abbrev vW:=V->V->V->Hp->(Hp->Prop)->Prop
def zx(X:Cx)(t:vW):Prop :=
 ∀(pins:List (Addr×Obj))(s:Shared)(σ:St)(H:Hp)(o i v:V)(ov iv u:Value)(Q:Hp->Prop),aR X pins σ H s->cy o ov->cy i iv->cy v u->t o i v H Q ->
  wpAny (model X.prog X.w) X.A (setItem ov iv u) (λ_ s'=>∃H',aR X pins σ H' s'/\Q H') X.xe s
abbrev Df:=V->V->Hp->VK->Prop
def FO(X:Cx)(op:Operator)(t:Df):Prop :=
 ∀(pins:List (Addr×Obj))(s:Shared)(σ:St)(H:Hp)(x y:V)(v u:Value)(Q:VK),aR X pins σ H s->cy x v->cy y u->t x y H Q ->
  wpAny (model X.prog X.w) X.A (inplaceOp op v u) (EP X pins σ Q) X.xe s
section
variable {X:Cx}{pos:Pos}
def gQ(i:Nat):TG:=λv σ H Q=>Q (σ.set i (some v)) H
theorem EG{i:Nat}{x:Str}(hN:X.N.Nodup)(hi:X.N[i]? = some x)(hx:Dh X.env.scope x)(hf:X.fn x=true\/X.env.scope.names.lookup x=some .local:=by first|exact .inl rfl|exact .inr rfl|assumption):PG X (.Name x pos) (gQ i):=by
 intro pins s σ H v u Q I r h;exact wpAny_assign_Name (gg I hN hi hx r (λs' I'=>⟨_,H,I',h⟩) hf)
def wV:Af:=λvs σ H Q=>vs=[]/\Q σ H
def kI(t:TG)(u:Af):Af:=λvs σ H Q=>∃v r,vs=v::r/\t v σ H λσ' H'=>u r σ' H' Q
theorem Dp:Iw X [] wV:=by
 intro pins s σ H vs us Q I r h;obtain⟨e,h⟩:=h;subst e;cases r;exact assignInOrder_nil ⟨σ,H,I,h⟩
theorem CA{e:Expr}{es:List Expr}{t:TG}{u:Af}(h1:PG X e t)(h2:Iw X es u)
  (hs:(assignEach (e::es) X.env).map (·.2)=assign e X.env::(assignEach es X.env).map (·.2):=by rfl):Iw X (e::es) (kI t u):=by
 intro pins s σ H vs us Q I r h;obtain⟨v,vr,e1,h⟩:=h;subst e1;cases r with
 | cons r rr =>
  rw[hs];refine assignInOrder_cons (da (h1 pins s σ H _ _ _ I r h) λ_ s1 ⟨σ1,H1,I1,q1⟩=>?_);exact h2 pins s1 σ1 H1 _ _ Q I1 rr q1
def IQ(K:W.Frag)(n:Nat)(t:Af):TG:=λv σ H Q=>∃a xs,v=.ref a/\ug K H a xs/\xs.length=n/\t xs σ H Q
theorem Gr{es:List Expr}{k:Nat}{t:Af}{n:Nat}(hc:X.calm=true)(h:Iw X es t)
  (hn:(assignEach es X.env).length=n:=by rfl)(hst:(assignEach es X.env).findIdx? (·.1)=none:=by rfl):PG X (.Tuple es k pos) (IQ X.K n t):=by
 intro pins s σ H v u Q I r hw;obtain⟨a,xs,e1,hq,hl,hw⟩:=hw;subst e1;cases r;obtain⟨its,rv,ht,hz⟩:=I.tuple hq;refine assign_Tuple_tuple (I.ok.hd hc) ht (by simp[hn,<-hl,rv.length]) hst λh' hx=>?_
 have I1:aR X pins σ H { s with heap:=h' }:=I.kept (t':=s.toks) λb o e=>hx b o (Yf (Heap.lt_size e)) e
 exact h pins _ σ H xs _ Q I1 (by simpa using rv) hw
def HZ(to ti:TE)(t:vW):TG:=λv σ H Q=>to σ H λo H1=>ti σ H1 λi H2=>t o i v H2 λH3=>Q σ H3
theorem Hq{o i:Expr}{to ti:TE}{t:vW}(ho:PE X o to)(hi:PE X i ti)(hs:zx X t)
  (ha:∀v,assign (.Subscript o i pos) X.env v=(do
   let ov <-holding [v] (eval o X.env)
   let iv <-holding [v,ov] (eval i X.env)
   standAt pos
   holding [v,ov,iv] (setItem ov iv v)
   release [v,ov,iv] []):=by intro _;rfl):PG X (.Subscript o i pos) (HZ to ti t):=by
 intro pins s σ H v u Q I r h;rw[ha];refine wpAny_bind (wpAny_holding (da (ho pins s σ H _ I h) λov s1 ⟨x,H1,I1,r1,q1⟩=>?_));refine wpAny_bind (wpAny_holding (da (hi pins s1 σ H1 _ I1 q1) λiv s2 ⟨y,H2,I2,r2,q2⟩=>?_));refine wpAny_bind (wpAny_standAt (wpAny_bind (wpAny_holding (da (hs pins s2 σ H2 x y v ov iv u _ I2 r1 r2 r q2) λ_ s3 ⟨H3,I3,q3⟩=>?_))));exact wpAny_release ⟨σ,H3,I3,q3⟩
def wC(te:TE)(g:TG):TS:=λD σ H=>te σ H λx H1=>g x σ H1 D.nx
theorem Gu{tg e:Expr}{te:TE}{g:TG}(he:PE X e te)(hg:PG X tg g)(hs:swapsWithSole [tg] e pos.line X.env=pure false:=by rfl)(hw:swappedStores [tg] e X.env=pure none:=by rfl)
  (h1:(assignEach [tg] X.env).map (·.2)=[assign tg X.env]:=by rfl):PS X (.Assign [tg] e pos) (wC te g):=by
 intro pins s σ H D I h;refine wpAny_Assign_stores (da (he pins s σ H _ I h) λv s1 ⟨x,H1,I1,r1,q1⟩=>?_) hs hw;rw[h1];exact da (hg pins s1 σ H1 x v _ I1 r1 q1) λ_ s2 q=>q
theorem Ga{i:Nat}{x:Str}{e:Expr}{te:TE}{pos':Pos}(hN:X.N.Nodup)(hi:X.N[i]? = some x)(hx:Dh X.env.scope x)(he:PE X e te)(hs:swapsWith e (some (.Name x pos')) pos.line X.env=pure false:=by rfl)(hf:X.fn x=true\/X.env.scope.names.lookup x=some .local:=by first|exact .inl rfl|exact .inr rfl|assumption) :
  PS X (.Assign [.Name x pos'] e pos) (wC te (gQ i)):=by
 intro pins s σ H D I h;refine wpAny_Assign_Name (da (he pins s σ H _ I h) λv s1 ⟨y,H1,I1,r1,q1⟩=>?_) hs;exact gg I1 hN hi hx r1 (λs2 I2=>⟨_,H1,I2,q1⟩) hf
def Fm(i j:Nat)(ta:TA):TS:=λD σ H=>ta σ H λvs H1=>∃v w,vs=[v,w]/\D.nx ((σ.set i (some v)).set j (some w)) H1
theorem GL{i j:Nat}{x y:Str}{a b:Expr}{ta:TA}{px py pt:Pos} {kt k2 pt2}(hc:X.calm=true)(hN:X.N.Nodup)(hi:X.N[i]? = some x)(hj:X.N[j]? = some y)(hij:i≠j)
  (hx:X.env.scope.names.lookup x=some .local)(hy:X.env.scope.names.lookup y=some .local)(ha:PA X [a,b] ta)
  (hw:swappedStores [.Tuple [.Name x px,.Name y py] kt pt] (.Tuple [a,b] k2 pt2) X.env=pure (some [x,y]))
  (hs:swapsWithSole [.Tuple [.Name x px,.Name y py] kt pt] (.Tuple [a,b] k2 pt2) pos.line X.env=pure false:=by rfl) :
  PS X (.Assign [.Tuple [.Name x px,.Name y py] kt pt] (.Tuple [a,b] k2 pt2) pos) (Fm i j ta):=by
 intro pins s σ H D I h;rw[exec_Assign_arm];refine wpAny_bind (wpAny_standAt ?_);rw[hs];refine wpAny_bind (wpAny_pure ?_);rw[Yc ∅];refine wpAny_bind (Tuple_ (da (ha _ pins s σ H _ I h) λus s1 ⟨vs,H1,I1,r1,q1⟩=>?_));obtain⟨v,w,e1,q1⟩:=q1;subst e1;obtain⟨u1,u2,rfl,rv,rw'⟩ : ∃u1 u2,us=[u1,u2]/\cy v u1/\cy w u2:=by
  cases r1 with
  | cons p q =>
   cases q with
   | cons p' q' =>
    cases q';exact⟨_,_,rfl,p,p'⟩
 refine wpAny_newObj_type ?_ (by show 2<=sizeLine;decide)
 have I2:aR X pins σ H1 { s1 with heap:=s1.heap.push { cls:=.type "tuple",data:=.seq [u1,u2].toArray } }:=I1.kept (t':=s1.toks) λb o e=>Heap.get?_push_of_some _ e
 rw[hw];refine wpAny_bind (wpAny_pure ?_);show wpAny (model X.prog X.w) X.A (do rule "assign.swapped-stores";let items <-unpackItems (.ref s1.heap.objs.size) 2 none;assignInOrder [λv=>bindName X.env y v,λv=>bindName X.env x v] items.reverse;pure Flow.next) _ _ _
 refine wpAny_bind (wpAny_rule (wpAny_bind (unpackItems_tuple (items:=#[u1,u2]) (I.ok.hd hc) (IsTup.new s1.heap _) λh' hx'=>?_)));have I3:=I2.kept (h':=h') (t':=s1.toks) λb o e=>hx' b o (Yf (Heap.lt_size e)) e;show wpAny _ _ (assignInOrder [λv=>bindName X.env y v,λv=>bindName X.env x v] [u2,u1] >>= λ_=>pure Flow.next) _ _ _
 refine wpAny_bind (assignInOrder_cons (wpAny_bindName (gg I3 hN hj (.inl hy) rw' (λs2 I4=>?_) (.inr hy))));refine assignInOrder_cons (wpAny_bindName (gg I4 hN hi (.inl hx) rv (λs3 I5=>assignInOrder_nil (wpAny_pure ?_)) (.inr hx)));rw[List.set_comm _ _ (Yk hij)] at I5;exact⟨_,H1,I5,q1⟩
def Hj(i:Nat)(te:TE)(ti:Df):TS:=λD σ H=>∃x,σ[i]? = some (some x)/\te σ H λy H1=>ti x y H1 λz H2=>D.nx (σ.set i (some z)) H2
theorem Gf{i:Nat}{x:Str}{e:Expr}{te:TE}{op:Operator}{ti:Df}{pos':Pos}(hN:X.N.Nodup)(hi:X.N[i]? = some x)(hx:Dh X.env.scope x)(he:PE X e te)(ho:FO X op ti)(hf:X.fn x=true\/X.env.scope.names.lookup x=some .local:=by first|exact .inl rfl|exact .inr rfl|assumption) :
  PS X (.AugAssign (.Name x pos') op e pos) (Hj i te ti):=by
 intro pins s σ H D I h;obtain⟨v,e1,h⟩:=h;obtain⟨m,hn,hl⟩:=I.loc;have vis:IV X.env.scope x:=by rcases hx with k|k;exact .inl k;exact .inr (.inl k)
 obtain⟨u,r,l⟩:=hl i x v hi e1 vis;refine wpAny_AugAssign_Name ?_;have go:wpAny (model X.prog X.w) X.A (eval e X.env) (λw s₂=>wpAny (model X.prog X.w) X.A (inplaceOp op u w) (λr s₃=>wpAny (model X.prog X.w) X.A (storeName X.env x r) (λ_=>SP X pins D .next) X.xe s₃) X.xe s₂) X.xe s:=by
  refine da (he pins s σ H _ I h) λw s1 ⟨y,H1,I1,r1,q1⟩=>?_;refine da (ho pins s1 σ H1 v y u w _ I1 r r1 q1) λz s2 ⟨zv,H2,I2,r2,q2⟩=>?_;exact gg I2 hN hi hx r2 (λs3 I3=>⟨_,H2,I3,q2⟩) hf
 rcases l with ⟨hk,hm⟩|⟨hk,c,hc,hcell⟩
 .exact wpAny_loadName_local I.ok.kind hk hn hm go
 .rcases hk with hk|hk
  .exact wpAny_loadName_cell I.ok.kind hk hc hcell go
  .rcases hx with k|k
   .have:X.env.scope.names.lookup x=some .free:=hk;rw[k] at this;cases this
   .have:X.env.scope.names.lookup x=some .free:=hk;rw[k] at this;cases this
def pA(to ti te:TE)(tget:V->V->Hp->VK->Prop)(tip:Df)(tset:vW):TS:=λD σ H=>to σ H λo H1=>ti σ H1 λi H2=>tget o i H2 λx H3=>te σ H3 λy H4=>tip x y H4 λz H5=>tset o i z H5 λH6=>D.nx σ H6
def Ir(X:Cx)(t:V->V->Hp->VK->Prop):Prop :=
 ∀(pins:List (Addr×Obj))(s:Shared)(σ:St)(H:Hp)(o i:V)(ov iv:Value)(Q:VK),aR X pins σ H s->cy o ov->cy i iv->t o i H Q ->
  wpAny (model X.prog X.w) X.A (getItem ov iv) (EP X pins σ Q) X.xe s
theorem DB{o i e:Expr}{to ti te:TE}{tget:V->V->Hp->VK->Prop}{tip:Df}{tset:vW}{op:Operator}{tpos:Pos}(ho:PE X o to)(hi:PE X i ti)(hg:Ir X tget)(he:PE X e te)(hp:FO X op tip)(hs:zx X tset)
  (ha:∀ov iv new,augStore i ov iv new=(do holding [new,ov,iv] (setItem ov iv new);release [new,ov,iv] [];pure .next):=by intros;rfl):PS X (.AugAssign (.Subscript o i tpos) op e pos) (pA to ti te tget tip tset):=by
 intro pins s σ H D I h;refine wpAny_AugAssign_SubscriptAny (da (ho pins s σ H _ I h) λov s1 ⟨x1,H1,I1,r1,q1⟩=>?_) ha;refine da (hi pins s1 σ H1 _ I1 q1) λiv s2 ⟨x2,H2,I2,r2,q2⟩=>?_;refine da (hg pins s2 σ H2 x1 x2 ov iv _ I2 r1 r2 q2) λold s3 ⟨x3,H3,I3,r3,q3⟩=>?_;refine da (he pins s3 σ H3 _ I3 q3) λv s4 ⟨x4,H4,I4,r4,q4⟩=>?_;refine da (hp pins s4 σ H4 x3 x4 old v _ I4 r3 r4 q4) λnew s5 ⟨x5,H5,I5,r5,q5⟩=>?_;exact da (hs pins s5 σ H5 x1 x2 x5 ov iv new _ I5 r1 r2 r5 q5) λ_ s6 ⟨H6,I6,q6⟩=>⟨σ,H6,I6,q6⟩
def F8(f:Int->Int->Int):Df:=λx y H Q=>∃i j,x=.int i/\y=.int j/\Q (.int (f i j)) H
theorem xf:FO X .Add (F8 λi j=>i+j):=by
 intro pins s σ H x y v u Q I r1 r2 h;obtain⟨i,j,e1,e2,q⟩:=h;subst e1;subst e2;obtain⟨t,rfl⟩:=r1;obtain⟨t',rfl⟩:=r2;exact iadd_int ⟨.int _,H,I.tok _,⟨_,rfl⟩,q⟩
theorem pB:FO X .Sub (F8 λi j=>i-j):=by
 intro pins s σ H x y v u Q I r1 r2 h;obtain⟨i,j,e1,e2,q⟩:=h;subst e1;subst e2;obtain⟨t,rfl⟩:=r1;obtain⟨t',rfl⟩:=r2;exact isub_int ⟨.int _,H,I.tok _,⟨_,rfl⟩,q⟩
end
section
variable {X:Cx}{pos:Pos}
def Bc(c:TT)(tb:TS):TS:=λD σ H=>∃W:Nat->St->Hp->Prop,(∃m,W m σ H) /\ ∀m σ H,W m σ H ->
 c σ H λb H1=>if b=true then ∃N:St->Hp->Prop,(∀σ' H',N σ' H' -> ∃m',m'<m/\W m' σ' H')/\tb { D with nx:=N,ct:=N,bk:=D.nx } σ H1 else D.nx σ H1
theorem Bm{c:Expr}{body:List Stmt}{tc:TT}{tb:TS}(hp:PassesOwn (model X.prog X.w) X.A X.env X.xe)(hc:PT X c tc)(hb:vB X body tb):PS X (.While c body [] pos) (Bc tc tb):=by
 intro pins s σ H D I h;obtain⟨W,⟨m0,w0⟩,turn⟩:=h;refine wpAny_While (codeAny_whileLoop (λn s'=>∃σ' H',aR X pins σ' H' s'/\W n σ' H') ?_ m0 ⟨σ,H,I,w0⟩);rintro n s1 ⟨σ1,H1,I1,w1⟩;refine wpAny_passesOwn hp (da (hc pins s1 σ1 H1 _ I1 (turn n σ1 H1 w1)) λb s2 ⟨H2,I2,q2⟩=>?_);cases b with
 | true =>
  obtain⟨N,hN,q2⟩:=q2;rw[Yb rfl];refine wpAny_passesOwn hp (da (hb pins s2 σ1 H2 _ I2 q2) λf s3 q3=>?_);cases f with
  | next =>
   obtain⟨σ3,H3,I3,n3⟩:=q3;obtain⟨m',hm,w3⟩:=hN σ3 H3 n3;exact⟨m',hm,σ3,H3,I3,w3⟩
  | cont =>
   obtain⟨σ3,H3,I3,n3⟩:=q3;obtain⟨m',hm,w3⟩:=hN σ3 H3 n3;exact⟨m',hm,σ3,H3,I3,w3⟩
  | brk=>exact q3
  | ret v=>exact q3
 | false =>
  rw[Yc Yo];exact wpAny_execs_nil ⟨σ1,H2,I2,q2⟩
end
structure It where
 go:Nat->Hp->Prop
 yld:Nat->Hp->V->Hp->Prop
 stop:Nat->Hp->Prop
def md(X:Cx)(pins:List (Addr×Obj))(H:Hp)(b:Addr):Prop :=
 H b=none/\b≠X.env.locals/\b∉X.fs/\(b∈X.ex\/X.s₀.heap.objs.size<=b)/\(∀x c,X.env.cells.lookup x=some c->c≠b) /\ ∀p∈X.pn++pins,p.1≠b
theorem aR.fpOk{X:Cx}{pins:List (Addr×Obj)}{σ:St}{H H':Hp}{s:Shared}{b:Addr}(I:aR X pins σ H s)(hb:s.heap.objs.size<=b)(hn:H' b=none):md X pins H' b:=by
 refine⟨hn,Nat.ne_of_gt (Yd I.lt hb),I.nofs hb,.inr (Yg I.sz hb),λx c e z=>?_,λp hp z=>?_⟩
 .obtain⟨v,q⟩:=I.cell x c e;exact absurd (Yd q.lt (by rw[z];exact hb)) (Ye _)
 .exact absurd (Yd (Heap.lt_size (I.pin p hp).1) (by rw[z];exact hb)) (Ye _)
structure wM (P:Program)(w:World)(K:W.Frag)(tg:Expr)(J:It)(fp:List Addr)(it:Addr)(tn:Nat->Heap->Prop):Prop where
 mem:it∈fp
 obj:∀i h,tn i h -> ∀b∈fp,∃o,h.get? b=some o /\ ∀v,o.data ≠ .cell v
 keep:∀i h h',tn i h->(∀b∈fp,∀o,h.get? b=some o->h'.get? b=some o)->tn i h'
 item:∀(X:Cx),X.prog=P->X.w=w->X.K=K->X.calm=true -> ∀(i:Nat)(pins:List (Addr×Obj))(s:Shared)(σ:St)(H:Hp)(E:Value->Shared->Prop),aR X pins σ H s->(∀b∈fp,md X pins H b)->tn i s.heap->J.go i H ->
  wpAny (model P w) X.A (pyNext (.ref it)) (λr s1=>∃u,r=some u /\
   wpAny (model P w) X.A (letOwnedTupleGo tg (.ref it) u) (λ_ s2=>∃x H',aR X pins σ H' s2/\cy x u/\J.yld i H x H'/\tn (i+1) s2.heap /\ ∀b∈fp,H' b=none) E s1) E s
 done:∀(X:Cx),X.prog=P->X.w=w->X.K=K->X.calm=true -> ∀(i:Nat)(pins:List (Addr×Obj))(s:Shared)(σ:St)(H:Hp)(E:Value->Shared->Prop),aR X pins σ H s->(∀b∈fp,md X pins H b)->tn i s.heap->J.stop i H ->
  wpAny (model P w) X.A (pyNext (.ref it)) (λr s1=>r=none/\aR X pins σ H s1) E s
 self:∀(A:Around)(i:Nat)(s:Shared)(Q:Value->Shared->Prop)(E:Value->Shared->Prop),tn i s.heap->Q (.ref it) s->wpAny (model P w) A (pyIter (.ref it)) Q E s
abbrev TI:=St->Hp->(It->Hp->Prop)->Prop
def Kz(X:Cx)(pins:List (Addr×Obj))(σ:St)(tg:Expr)(R:It->Hp->Prop)(itv:Value)(s2:Shared):Prop :=
 ∃(it:Addr)(fp:List Addr)(tn:Nat->Heap->Prop)(J:It)(H':Hp),itv=.ref it/\aR X pins σ H' s2/\wM X.prog X.w X.K tg J fp it tn/\tn 0 s2.heap/\(∀b∈fp,md X pins H' b)/\R J H'
def PI(X:Cx)(tg iter:Expr)(wi:TI):Prop :=
 ∀(pins:List (Addr×Obj))(s:Shared)(σ:St)(H:Hp)(R:It->Hp->Prop),aR X pins σ H s->wi σ H R ->
  wpAny (model X.prog X.w) X.A (eval iter X.env) (λv s1=>wpAny (model X.prog X.w) X.A (pyIter v) (Kz X pins σ tg R) X.xe s1) X.xe s
theorem yB{M:Model}{A:Around}{E:Value->Shared->Prop}{s:Shared}{tg:Expr}{it:Addr}{u:Value}{o:Obj}{n:String}{vs:Array Value}{Q:Unit->Shared->Prop}(ho:s.heap.get? it=some o)(hc:o.cls=.type n)(hd:o.data=.fields vs)
  (hn:["enumerate", "zip", "dict_itemiterator", "dict_reverseitemiterator", "odict_iterator", "itertools.zip_longest", "itertools.pairwise"].contains n=false) (hQ:Q PUnit.unit s):wpAny M A (letOwnedTupleGo tg (.ref it) u) Q E s:=by
 unfold letOwnedTupleGo;cases tg<;>first
  | exact wpAny_pure hQ
  | (cases u<;>first
    | exact wpAny_pure hQ
    | (refine wpAny_bind (wpAny_load ho ?_)
       rw[hc,hd];show wpAny M A (if (["enumerate", "zip", "dict_itemiterator", "dict_reverseitemiterator", "odict_iterator", "itertools.zip_longest", "itertools.pairwise"].contains n && vs[0]? == some (rawInt _))=true then _ else _) Q E s
       rw[Yc (by intro h;rw[hn,Bool.false_and] at h;cases h)]
       exact wpAny_pure hQ))
def JO(K:W.Frag)(a:Addr):It :=
 ⟨λi H=>∃xs x,kr K H a xs/\xs[i]? = some x,λi H x H'=>H'=H /\ ∀xs,kr K H a xs->xs[i]? = some x,λi H=>∃xs,kr K H a xs/\xs.length<=i⟩
def Kl(K:W.Frag)(a:Addr):It :=
 ⟨λi H=>∃xs x,ug K H a xs/\xs[i]? = some x,λi H x H'=>H'=H /\ ∀xs,ug K H a xs->xs[i]? = some x,λi H=>∃xs,ug K H a xs/\xs.length<=i⟩
def IB(lo:Int)(n:Nat):It:=⟨λi _=>i<n,λi H x H'=>H'=H/\x=.int (lo+i),λi _=>n<=i⟩
theorem zt{P:Program}{w:World}{K:W.Frag}{tg:Expr}(a it:Addr):wM P w K tg (JO K a) [it] it (λi h=>h.IsListIter it a i) where
 mem:=by simp
 obj:=λi h st b hb=>by
  have e:b=it:=by simpa using hb
  subst e;obtain⟨o,e,c,d⟩:=st;exact⟨o,e,λv z=>by rw[d] at z;cases z⟩
 keep:=λi h h' st k=>st.at λo e=>k it (by simp) o e
 item:=by
  intro X hP hw hK hc i pins s σ H E I hf st hg;subst hP hw hK;obtain⟨xs,x,hq,hx⟩:=hg;obtain⟨its,rv,p,hz⟩:=I.list hq;obtain⟨u,hu,ru⟩:=rv.get hx;obtain⟨f0,f1,f2,f3,f4,f5⟩:=hf it (by simp)
  refine wpAny_pyNext_list_item st p.isList (x:=u) (by simpa using hu) λh' st' sb=>?_
  have I1:aR X pins σ H { s with heap:=h' }:=I.turned (t':=s.toks) (λb o hb e=>(sb.2 b hb).trans e) f0 f1 f3 f4 f5
  obtain⟨o,e,c,d⟩:=id st';exact⟨u,rfl,yB (s:={ s with heap:=h' }) e c d ∅ ⟨x,H,I1,ru,⟨rfl,λys hy=>by rw[I.list_inj hy hq];exact hx⟩,st',λb hb=>(hf b hb).1⟩⟩
 done:=by
  intro X hP hw hK hc i pins s σ H E I hf st hg;subst hP hw hK;obtain⟨xs,hq,hx⟩:=hg;obtain⟨its,rv,p,hz⟩:=I.list hq;obtain⟨f0,f1,f2,f3,f4,f5⟩:=hf it (by simp)
  have hl:=rv.length;exact wpAny_pyNext_list_end (I.ok.hd hc) st p.isList (by simp;nofun) λh' eb=>⟨rfl,I.turned (t':=s.toks) (λb o hb e=>eb b o hb e) f0 f1 f3 f4 f5⟩
 self:=λ_ _ _ _ _ st h=>wpAny_pyIter_listiter st h
theorem wH{P:Program}{w:World}{K:W.Frag}{tg:Expr}(a it:Addr):wM P w K tg (Kl K a) [it] it (λi h=>h.IsTupleIter it a i) where
 mem:=by simp
 obj:=λi h st b hb=>by
  have e:b=it:=by simpa using hb
  subst e;obtain⟨o,e,c,d⟩:=st;exact⟨o,e,λv z=>by rw[d] at z;cases z⟩
 keep:=λi h h' st k=>st.at λo e=>k it (by simp) o e
 item:=by
  intro X hP hw hK hc i pins s σ H E I hf st hg;subst hP hw hK;obtain⟨xs,x,hq,hx⟩:=hg;obtain⟨its,rv,p,hz⟩:=I.tuple hq;obtain⟨u,hu,ru⟩:=rv.get hx;obtain⟨f0,f1,f2,f3,f4,f5⟩:=hf it (by simp)
  refine wpAny_pyNext_tuple_item st (show s.heap.IsTuple a its.toArray from p) (x:=u) (by simpa using hu) λh' st' sb=>?_
  have I1:aR X pins σ H { s with heap:=h' }:=I.turned (t':=s.toks) (λb o hb e=>(sb.2 b hb).trans e) f0 f1 f3 f4 f5
  obtain⟨o,e,c,d⟩:=id st';exact⟨u,rfl,yB (s:={ s with heap:=h' }) e c d ∅ ⟨x,H,I1,ru,⟨rfl,λys hy=>by rw[I.tuple_inj hy hq];exact hx⟩,st',λb hb=>(hf b hb).1⟩⟩
 done:=by
  intro X hP hw hK hc i pins s σ H E I hf st hg;subst hP hw hK;obtain⟨xs,hq,hx⟩:=hg;obtain⟨its,rv,p,hz⟩:=I.tuple hq;obtain⟨f0,f1,f2,f3,f4,f5⟩:=hf it (by simp)
  have hl:=rv.length;exact wpAny_pyNext_tuple_end (I.ok.hd hc) st (show s.heap.IsTuple a its.toArray from p) (by simp;nofun) λh' eb=>⟨rfl,I.turned (t':=s.toks) (λb o hb e=>eb b o hb e) f0 f1 f3 f4 f5⟩
 self:=λ_ _ _ _ _ st h=>wpAny_pyIter_tupleiter st h
theorem wj{P:Program}{w:World}{K:W.Frag}{tg:Expr}(it:Addr)(lo:Int)(n:Nat):wM P w K tg (IB lo n) [it] it (λi h=>IsRangeIter h it (lo+(i:Nat)*1) ((n:Int)-(i:Nat)) 1) where
 mem:=by simp
 obj:=λi h st b hb=>by
  have e:b=it:=by simpa using hb
  subst e;exact⟨_,st,λv z=>by
   have z':Data.fields _=Data.cell v:=z;cases z'⟩
 keep:=λi h h' st k=>k it (by simp) _ st
 item:=by
  intro X hP hw hK hc i pins s σ H E I hf st hg;subst hP hw hK;obtain⟨f0,f1,f2,f3,f4,f5⟩:=hf it (by simp)
  have W:=Walks.range (prog:=X.prog) (w:=X.w) (I.ok.hd hc) it lo 1 n;refine W.item i s _ _ hg st λv h' tk hv st' kk=>?_;obtain⟨t,rfl⟩:=hv;have I1:aR X pins σ H { s with heap:=h',toks:=tk }:=I.turned (λb o hb e=>kk b o (by simpa using hb) e) f0 f1 f3 f4 f5
  refine⟨_,rfl,yB (s:={ s with heap:=h',toks:=tk }) (n:="range_iterator") st' rfl rfl ∅ ⟨.int (lo+i),H,I1,⟨t,?_⟩,⟨rfl,rfl⟩,st',λb hb=>(hf b hb).1⟩⟩
  rw[Int.mul_one]
 done:=by
  intro X hP hw hK hc i pins s σ H E I hf st hg;subst hP hw hK;obtain⟨f0,f1,f2,f3,f4,f5⟩:=hf it (by simp)
  exact wpAny_pyNext_range_end (I.ok.hd hc) st (by have:n<=i:=hg;nofun) λh' eb=>⟨rfl,I.turned (t':=s.toks) (λb o hb e=>eb b o hb e) f0 f1 f3 f4 f5⟩
 self:=λ_ _ _ _ _ st h=>wpAny_pyIter_rangeiter st h
section
variable {X:Cx}{tg:Expr}
def xG(K:W.Frag)(tl:TE):TI:=λσ H R=>tl σ H λx H1=>∃a,x=.ref a/\(∃xs,kr K H1 a xs)/\R (JO K a) H1
def Gp(K:W.Frag)(tl:TE):TI:=λσ H R=>tl σ H λx H1=>∃a,x=.ref a/\(∃xs,ug K H1 a xs)/\R (Kl K a) H1
theorem D7{l:Expr}{tl:TE}(hl:PE X l tl):PI X tg l (xG X.K tl):=by
 intro pins s σ H R I h;refine da (hl pins s σ H _ I h) λv s1 ⟨x,H1,I1,r1,q1⟩=>?_;obtain⟨a,e,⟨xs,hq⟩,q⟩:=q1;subst e;cases r1;obtain⟨its,rv,p,hz⟩:=I1.list hq;refine wpAny_pyIter_list p.isList ?_;refine⟨s1.heap.objs.size,[s1.heap.objs.size],_,_,H1,rfl,I1.kept (t':=s1.toks) λb o e=>Heap.get?_push_of_some _ e,zt a _,⟨_,Heap.get?_push_size _ rfl,rfl,rfl⟩,λb hb=>?_,q⟩;have e:b=s1.heap.objs.size:=by simpa using hb
 subst e;exact I1.fpOk (Yp _) (I1.hok.fresh (Yp _))
theorem G9{l:Expr}{tl:TE}(hl:PE X l tl):PI X tg l (Gp X.K tl):=by
 intro pins s σ H R I h;refine da (hl pins s σ H _ I h) λv s1 ⟨x,H1,I1,r1,q1⟩=>?_;obtain⟨a,e,⟨xs,hq⟩,q⟩:=q1;subst e;cases r1;obtain⟨its,rv,p,hz⟩:=I1.tuple hq;refine wpAny_pyIter_tuple (show s1.heap.IsTuple a its.toArray from p) ?_
 refine⟨s1.heap.objs.size,[s1.heap.objs.size],_,_,H1,rfl,I1.kept (t':=s1.toks) λb o e=>Heap.get?_push_of_some _ e,wH a _,⟨_,Heap.get?_push_size _ rfl,rfl,rfl⟩,λb hb=>?_,q⟩;have e:b=s1.heap.objs.size:=by simpa using hb
 subst e;exact I1.fpOk (Yp _) (I1.hok.fresh (Yp _))
theorem uR{pins:List (Addr×Obj)}{σ:St}{H:Hp}{s:Shared}{R:It->Hp->Prop}{E:Value->Shared->Prop}{lo hi:Int}{t u v:Tok}{tk:Nat}(I:aR X pins σ H s)(h1 : -(2^62)<=lo)(h2:lo<2^62)(h3 : -(2^62)<=hi)(h4:hi<2^62)
  (q:R (IB lo (hi-lo).toNat) H):wpAny (model X.prog X.w) X.A (pyIter (.ref s.heap.objs.size)) (Kz X pins σ tg R) E { s with heap:=s.heap.push { cls:=.type "range",data:=.fields #[.int lo t,.int hi u,.int 1 v] },toks:=tk }:=by
 refine wpAny_pyIter_range (IsRange.new ..) (small_one h1 h2 h3 h4) ?_;have I1:aR X pins σ H { s with heap:=s.heap.push { cls:=.type "range",data:=.fields #[.int lo t,.int hi u,.int 1 v] },toks:=tk }:=I.kept λb o e=>Heap.get?_push_of_some _ e
 refine⟨(s.heap.push { cls:=.type "range",data:=.fields #[.int lo t,.int hi u,.int 1 v] }).objs.size,[(s.heap.push { cls:=.type "range",data:=.fields #[.int lo t,.int hi u,.int 1 v] }).objs.size],_,_,H,rfl,
  I1.kept (t':=tk) λb o e=>Heap.get?_push_of_some _ e,wj _ lo (hi-lo).toNat,?_,λb hb=>?_,q⟩
 .have e1:lo+((0:Nat):Int)*1=lo:=by simp
  have e2:(((hi-lo).toNat:Nat):Int)-((0:Nat):Int)=Builtin.Range.rangeSize lo hi 1:=by rw[rangeSize_one];split<;>nofun
  show IsRangeIter _ _ (lo+((0:Nat):Int)*1) ((((hi-lo).toNat:Nat):Int)-((0:Nat):Int)) 1;rw[e1,e2];exact Heap.get?_push_size _ rfl
 .have e:b=(s.heap.push { cls:=.type "range",data:=.fields #[.int lo t,.int hi u,.int 1 v] }).objs.size:=by simpa using hb
  subst e;exact I1.fpOk (Yp _) (I1.hok.fresh (Yp _))
def y6(ta:TA):TI:=λσ H R=>ta σ H λvs H1=>∃j:Int,vs=[.int j] /\ -(2^62)<=j/\j<2^62/\R (IB 0 j.toNat) H1
def Al(ta:TA):TI:=λσ H R=>ta σ H λvs H1=>∃i j:Int,vs=[.int i,.int j]/\(-(2^62)<=i/\i<2^62 /\ -(2^62)<=j/\j<2^62)/\R (IB i (j-i).toNat) H1
theorem zp{a:Expr}{ta:TA}{p pos:Pos}(hg:Gl X "range") (hm:X.mg "range" = none) (ha:PA X [a] ta)(hs:starEach [a] X.env=[(false,eval a X.env)]:=by rfl):PI X tg (.Call (.Name "range" p) [a] [] pos) (y6 ta):=by
 intro pins s σ H R I h;refine Call_ (jL I hg hm boot_range (Yq (da (ha pos pins s σ H _ I h) λus s1 ⟨vs,H1,I1,r1,q1⟩=>?_) hs rfl));obtain⟨j,e,q1,q2,q⟩:=q1;subst e;cases r1 with
 | cons r rr =>
  cases rr;obtain⟨t,rfl⟩:=r;exact call_range_1 (uR I1 () () q1 q2 (by simpa using q))
theorem zk{a b:Expr}{ta:TA}{p pos:Pos}(hg:Gl X "range") (hm:X.mg "range" = none) (ha:PA X [a,b] ta)(hs:starEach [a,b] X.env=[(false,eval a X.env),(false,eval b X.env)]:=by rfl)(hs2:starEach [b] X.env=[(false,eval b X.env)]:=by rfl) :
  PI X tg (.Call (.Name "range" p) [a,b] [] pos) (Al ta):=by
 intro pins s σ H R I h;refine Call_ (jL I hg hm boot_range (Yq (da (ha pos pins s σ H _ I h) λus s1 ⟨vs,H1,I1,r1,q1⟩=>?_) (by rw[hs,hs2]) (by rw[hs2];rfl)))
 obtain⟨i,j,e,⟨q1,q2,q3,q4⟩,q⟩:=q1;subst e;cases r1 with
 | cons r rr =>
  cases rr with
  | cons r' rr =>
   cases rr;obtain⟨t,rfl⟩:=r;obtain⟨t',rfl⟩:=r';exact call_range_2 (uR I1 q1 q2 q3 q4 q)
def Ip(wi:TI)(g:TG)(tb:TS):TS:=λD σ H=>wi σ H λJ H1=>∃W:Nat->Nat->St->Hp->Prop,(∃m,W 0 m σ H1) /\ ∀i m σ H,W i m σ H ->
 (J.stop i H/\D.nx σ H)\/(J.go i H /\ ∃N:St->Hp->Prop,(∀σ' H',N σ' H' -> ∃m',m'<m/\W (i+1) m' σ' H') /\ ∀x H',J.yld i H x H'->g x σ H' λσ2 H2=>tb { D with nx:=N,ct:=N,bk:=D.nx } σ2 H2)
def pL(fp:List Addr)(h:Heap):List (Addr×Obj):=fp.filterMap λb=>(h.get? b).map λo=>(b,o)
theorem jn{fp:List Addr}{h:Heap}{b:Addr}{o:Obj}(hb:b∈fp)(e:h.get? b=some o):(b,o)∈pL fp h:=List.mem_filterMap.mpr ⟨b,hb,by rw[e];rfl⟩
theorem zF{fp:List Addr}{h:Heap}{p:Addr×Obj}(hp:p∈pL fp h):p.1∈fp/\h.get? p.1=some p.2:=by
 obtain⟨b,hb,e⟩:=List.mem_filterMap.mp hp;cases q:h.get? b with
 | none=>rw[q] at e;cases e
 | some o =>
  rw[q] at e;have e':(b,o)=p:=Ym e;subst e';exact⟨hb,q⟩
theorem aR.pinned{pins:List (Addr×Obj)}{σ:St}{H:Hp}{s:Shared}{fp:List Addr}(I:aR X pins σ H s)(hf:∀b∈fp,md X pins H b)(ho:∀b∈fp,∃o,s.heap.get? b=some o /\ ∀v,o.data ≠ .cell v):aR X (pins++pL fp s.heap) σ H s :=
 I.pins_of λp hp=>(List.mem_append.mp hp).elim (λz=>I.pin p (Yr _ z)) λz=>by
  obtain⟨hb,e⟩:=zF z;obtain⟨f0,f1,f2,_⟩:=hf p.1 hb;obtain⟨o,e',d⟩:=ho p.1 hb;rw[e] at e';cases e';exact⟨e,f0,f1,f2,d⟩
theorem aR.unpinned{pins pl:List (Addr×Obj)}{σ:St}{H:Hp}{s:Shared}(I:aR X (pins++pl) σ H s):aR X pins σ H s:=I.pins_of λp hp=>I.pin p (Yr _ (List.mem_append_left _ hp))
theorem HX{iter:Expr}{body:List Stmt}{wi:TI}{g:TG}{tb:TS}{pos:Pos}(hp:PassesOwn (model X.prog X.w) X.A X.env X.xe)(hc:X.calm=true)(hi:PI X tg iter wi)(hg:PG X tg g)(hb:vB X body tb)
  (hs:∀x,foldedSetIterable iter X.env x=pure x:=by intro _;rfl):PS X (.For tg iter body [] pos) (Ip wi g tb):=by
 intro pins s σ H D I h;refine wpAny_For (da (hi pins s σ H _ I h) λv s1 h1=>da h1 λitv s2 h2=>?_) hs;obtain⟨it,fp,tn,J,H2,e,I2,T,st2,f2,W,⟨m0,w0⟩,turn⟩:=h2;subst e;have stat:∀{H':Hp},(∀b∈fp,H' b=none) -> ∀b∈fp,md X pins H' b:=λhn b hb=>⟨hn b hb,(f2 b hb).2⟩;refine codeAny_forLoop_any (λn s'=>∃i σ' H',aR X pins σ' H' s'/\tn i s'.heap/\(∀b∈fp,H' b=none)/\W i n σ' H') ?_ m0 ⟨0,σ,H2,I2,st2,λb hb=>(f2 b hb).1,w0⟩;rintro n s3 ⟨i,σ3,H3,I3,st3,fr3,w3⟩;rcases turn i n σ3 H3 w3 with ⟨stop,qn⟩|⟨go,N,hN,step⟩
 .refine wpAny_passesOwn hp (da (T.done X rfl rfl rfl hc i pins s3 σ3 H3 X.xe I3 (stat fr3) st3 stop) λr s4 ⟨hr,I4⟩=>?_);subst hr;exact wpAny_execs_nil ⟨σ3,H3,I4,qn⟩
 .refine wpAny_passesOwn hp (da (T.item X rfl rfl rfl hc i pins s3 σ3 H3 X.xe I3 (stat fr3) st3 go) λr s4 ⟨u,hr,h4⟩=>?_);subst hr;refine wpAny_passesOwn hp (da h4 λ_ s5 ⟨x,H5,I5,r5,y5,st5,fr5⟩=>?_);have I5':=I5.pinned (stat fr5) (T.obj _ _ st5);refine wpAny_passesOwn hp (da (hg _ s5 σ3 H5 x u _ I5' r5 (step x H5 y5)) λ_ s6 ⟨σ6,H6,I6,q6⟩=>?_);refine wpAny_passesOwn hp (da (hb _ s6 σ6 H6 _ I6 q6) λf s7 q7=>?_);have again:∀{σ7:St}{H7:Hp},aR X (pins++pL fp s5.heap) σ7 H7 s7->N σ7 H7 -> ∃m,m<n /\ ∃i σ' H',aR X pins σ' H' s7/\tn i s7.heap/\(∀b∈fp,H' b=none)/\W i m σ' H':=λ{σ7 H7} I7 n7=>by
   obtain⟨m',hm,w7⟩:=hN σ7 H7 n7;refine⟨m',hm,i+1,σ7,H7,I7.unpinned,T.keep _ _ _ st5 λb hb o e=>(I7.pin (b,o) (Yr _ (Yr _ (jn hb e)))).1,λb hb=>?_,w7⟩;obtain⟨o,e,d⟩:=T.obj _ _ st5 b hb;exact (I7.pin (b,o) (Yr _ (Yr _ (jn hb e)))).2.1
  cases f with
  | next=>obtain⟨σ7,H7,I7,n7⟩:=q7;exact again I7 n7
  | cont=>obtain⟨σ7,H7,I7,n7⟩:=q7;exact again I7 n7
  | brk=>obtain⟨σ7,H7,I7,q7⟩:=q7;exact⟨σ7,H7,I7.unpinned,q7⟩
  | ret v=>obtain⟨x7,σ7,H7,I7,r7,q7⟩:=q7;exact⟨x7,σ7,H7,I7.unpinned,r7,q7⟩
end
abbrev R2:=V->V->Hp->VK->Prop
def eO(X:Cx)(f:Value->Value->Sem Value)(r:R2):Prop :=
 ∀(pins:List (Addr×Obj))(s:Shared)(σ:St)(H:Hp)(x y:V)(v u:Value)(Q:VK),aR X pins σ H s->cy x v->cy y u->r x y H Q ->
  wpAny (model X.prog X.w) X.A (f v u) (EP X pins σ Q) X.xe s
def JK(X:Cx)(f:Value->Sem Value)(r:V->Hp->VK->Prop):Prop :=
 ∀(pins:List (Addr×Obj))(s:Shared)(σ:St)(H:Hp)(x:V)(v:Value)(Q:VK),aR X pins σ H s->cy x v->r x H Q ->
  wpAny (model X.prog X.w) X.A (f v) (EP X pins σ Q) X.xe s
def fQ(X:Cx)(f:Value)(r:List V->Hp->VK->Prop):Prop :=
 ∀(pins:List (Addr×Obj))(s:Shared)(σ:St)(H:Hp)(xs:List V)(us:List Value)(Q:VK),aR X pins σ H s->bY xs us->r xs H Q ->
  wpAny (model X.prog X.w) X.A (call f us) (EP X pins σ Q) X.xe s
def Kp(X:Cx)(r:V->Hp->(Bool->Hp->Prop)->Prop):Prop :=
 ∀(pins:List (Addr×Obj))(s:Shared)(σ:St)(H:Hp)(x:V)(v:Value)(Q:Bool->Hp->Prop),aR X pins σ H s->cy x v->r x H Q ->
  wpAny (model X.prog X.w) X.A (truthy v) (TP X pins σ Q) X.xe s
def EI(r:R2)(ta tb:TE):TE:=λσ H Q=>ta σ H λx H1=>tb σ H1 λy H2=>r x y H2 Q
def Kn(r:V->Hp->VK->Prop)(ta:TE):TE:=λσ H Q=>ta σ H λx H1=>r x H1 Q
def rI(C:Int->Int->Prop)(g:Int->Int->V):R2:=λx y H Q=>∃i j,x=.int i/\y=.int j/\C i j/\Q (g i j) H
def xT(g:Int->Int->V):R2:=λx y H Q=>∃i j,x=.int i/\y=.int j/\Q (g i j) H
def rU(g:Int->V):V->Hp->VK->Prop:=λx H Q=>∃i,x=.int i/\Q (g i) H
section
variable {X:Cx}{a b c:Expr}{ta tb tc:TE}{pos:Pos}
theorem Hr(ha:PE X a ta)(hb:PE X b tb) {pins:List (Addr×Obj)}{s:Shared}{σ:St}{H:Hp}{R:V->V->Hp->Prop}(I:aR X pins σ H s)
  (h:ta σ H λx H1=>tb σ H1 λy H2=>R x y H2) {Q:Value->Shared->Prop}{f:Value->Value->Sem Value}
  (hf:∀v u s2 x y H2,aR X pins σ H2 s2->cy x v->cy y u->R x y H2->wpAny (model X.prog X.w) X.A (f v u) Q X.xe s2) :
  wpAny (model X.prog X.w) X.A (eval a X.env) (λv s₁=>wpAny (model X.prog X.w) X.A (eval b X.env) (λu s₂=>wpAny (model X.prog X.w) X.A (f v u) Q X.xe s₂) X.xe s₁) X.xe s:=by
 refine da (ha pins s σ H _ I h) λv s1 ⟨x,H1,I1,r1,q1⟩=>?_;refine da (hb pins s1 σ H1 _ I1 q1) λu s2 ⟨y,H2,I2,r2,q2⟩=>?_;exact hf v u s2 x y H2 I2 r1 r2 q2
theorem Jb{op:Operator}{r:R2}(ho:eO X (binaryOp op) r)(ha:PE X a ta)(hb:PE X b tb):PE X (.BinOp a op b pos) (EI r ta tb):=by
 intro pins s σ H Q I h;exact wpAny_BinOp (Hr ha hb I h λv u s2 x y H2 I2 rx ry q=>ho pins s2 σ H2 x y v u Q I2 rx ry q)
theorem Jf{op:UnaryOp}{r:V->Hp->VK->Prop}(ho:JK X (unaryOp op) r)(ha:PE X a ta):PE X (.UnaryOp op a pos) (Kn r ta):=by
 intro pins s σ H Q I h;exact UnaryOp_ (da (ha pins s σ H _ I h) λv s1 ⟨x,H1,I1,r1,q1⟩=>ho pins s1 σ H1 x v Q I1 r1 q1)
theorem Ji{f:Value->Value->Sem Value}{C:Int->Int->Prop}{g:Int->Int->Int}
  (rule:∀(i j:Int)(t u:Tok)(s:Shared)(Q:Value->Shared->Prop)(E:Value->Shared->Prop),C i j->Q (.int (g i j) s.toks) { s with toks:=s.toks+1 } -> wpAny (model X.prog X.w) X.A (f (.int i t) (.int j u)) Q E s) :
  eO X f (rI C λi j=>.int (g i j)):=by
 intro pins s σ H x y v u Q I rx ry h;obtain⟨i,j,rfl,rfl,hc,q⟩:=h;obtain⟨t,rfl⟩:=rx;obtain⟨t',rfl⟩:=ry;exact rule i j t t' s _ _ hc ⟨.int (g i j),H,I.tok _,⟨_,rfl⟩,q⟩
theorem Ju{f:Value->Value->Sem Value}{g:Int->Int->Int}
  (rule:∀(i j:Int)(t u:Tok)(s:Shared)(Q:Value->Shared->Prop)(E:Value->Shared->Prop),Q (.int (g i j) s.toks) { s with toks:=s.toks+1 } -> wpAny (model X.prog X.w) X.A (f (.int i t) (.int j u)) Q E s) :
  eO X f (xT λi j=>.int (g i j)):=by
 intro pins s σ H x y v u Q I rx ry h;obtain⟨i,j,rfl,rfl,q⟩:=h;obtain⟨t,rfl⟩:=rx;obtain⟨t',rfl⟩:=ry;exact rule i j t t' s _ _ ⟨.int (g i j),H,I.tok _,⟨_,rfl⟩,q⟩
theorem EB{f:Value->Value->Sem Value}{g:Int->Int->Bool}
  (rule:∀(i j:Int)(t u:Tok)(s:Shared)(Q:Value->Shared->Prop)(E:Value->Shared->Prop),Q (.bool (g i j)) s->wpAny (model X.prog X.w) X.A (f (.int i t) (.int j u)) Q E s) :
  eO X f (xT λi j=>.bl (g i j)):=by
 intro pins s σ H x y v u Q I rx ry h;obtain⟨i,j,rfl,rfl,q⟩:=h;obtain⟨t,rfl⟩:=rx;obtain⟨t',rfl⟩:=ry;exact rule i j t t' s _ _ ⟨.bl (g i j),H,I,rfl,q⟩
def Jk(i j:Int):Prop:=0<=j/\j<=1000000/\i.natAbs<2^64
theorem HV:eO X (binaryOp .Add) (xT λi j=>.int (i+j)):=Ju λ_ _ _ _ _ _ _ q=>add_int q
theorem bN:eO X (binaryOp .Sub) (xT λi j=>.int (i-j)):=Ju λ_ _ _ _ _ _ _ q=>sub_int q
theorem EW:eO X (binaryOp .Mod) (rI (λ_ j=>j≠0) λi j=>.int (i.fmod j)):=Ji λ_ _ _ _ _ _ _ hc q=>mod_int' hc q
theorem C7:eO X (binaryOp .Pow) (rI Jk λi j=>.int (i^j.toNat)):=Ji λ_ _ _ _ _ _ _ hc q=>pow_int_small hc.1 hc.2.1 hc.2.2 q
theorem KH{f:Value->Sem Value}{g:Int->Int}
  (rule:∀(i:Int)(t:Tok)(s:Shared)(Q:Value->Shared->Prop)(E:Value->Shared->Prop),Q (.int (g i) s.toks) { s with toks:=s.toks+1 } -> wpAny (model X.prog X.w) X.A (f (.int i t)) Q E s) :
  JK X f (rU λi=>.int (g i)):=by
 intro pins s σ H x v Q I rx h;obtain⟨i,rfl,q⟩:=h;obtain⟨t,rfl⟩:=rx;exact rule i t s _ _ ⟨.int (g i),H,I.tok _,⟨_,rfl⟩,q⟩
theorem cV:JK X (unaryOp .USub) (rU λi=>.int (-i)):=KH λ_ _ _ _ _ q=>neg_int q
end
def Aa:V->V->Bool
 | .non,.non=>true | .non,.int _=>true | .int _,.non=>true | .non,.bl _=>true | .bl _,.non=>true | .non,.str _=>true | .str _,.non=>true
 | .int _,.int _=>true | .bl _,.bl _=>true | .str _,.str _=>true | .byt _,.byt _=>true
 | .int _,.str _=>true | .str _,.int _=>true | .bl _,.str _=>true | .str _,.bl _=>true
 | _,_=>false
def Iz:R2:=λx y H Q=>Aa x y=true/\Q (.bl (decide (x=y))) H
def IA:R2:=λx y H Q=>Aa x y=true/\Q (.bl (!decide (x=y))) H
theorem xo{i j:Int}:decide (V.int i=V.int j)=(i==j):=by
 rw[Bool.eq_iff_iff];simp
theorem Cz{i j:Bool}:decide (V.bl i=V.bl j)=(i==j):=by
 rw[Bool.eq_iff_iff];simp
theorem xH{i j:Str}:decide (V.str i=V.str j)=(i==j):=by
 rw[Bool.eq_iff_iff];simp
theorem yE{i j:Array UInt8}:decide (V.byt i=V.byt j)=(i.toList==j.toList):=by
 rw[Bool.eq_iff_iff];cases i;cases j;simp
section
variable {X:Cx}{a b c:Expr}{ta tb tc:TE}{pos:Pos}
theorem cw{pins:List (Addr×Obj)}{σ:St}{H:Hp}{s:Shared}{Q:VK}{k k':Bool}(I:aR X pins σ H s)(q:Q (.bl k) H)(e:k=k'):EP X pins σ Q (.bool k') s:=by
 subst e;exact⟨.bl k,H,I,rfl,q⟩
theorem eK:eO X (compareOp .Eq) Iz:=by
 intro pins s σ H x y v u Q I rx ry h;obtain⟨hs,q⟩:=h;cases x with
 | non =>
  cases rx;cases y with
  | non=>cases ry;exact PySem.EqNone.eq_none_none (cw I q (by simp))
  | bl j=>cases ry;exact PySem.EqNone.eq_none_bool (cw I q (by simp))
  | int j=>obtain⟨t',rfl⟩:=ry;exact PySem.EqNone.eq_none_int (cw I q (by simp))
  | str j=>obtain⟨t',rfl⟩:=ry;exact PySem.EqNone.eq_none_str (cw I q (by simp))
  | _=>exact absurd (show false=true from hs) Yo
 | bl i =>
  cases rx;cases y with
  | non=>cases ry;exact PySem.EqNone.eq_bool_none (cw I q (by simp))
  | bl j=>cases ry;exact eq_bool (cw I q Cz)
  | str j=>obtain⟨t',rfl⟩:=ry;exact PySem.EqMixed.eq_bool_str (cw I q (by simp))
  | _=>exact absurd (show false=true from hs) Yo
 | int i =>
  obtain⟨t,rfl⟩:=rx;cases y with
  | non=>cases ry;exact PySem.EqNone.eq_int_none (cw I q (by simp))
  | int j=>obtain⟨t',rfl⟩:=ry;exact eq_int (cw I q xo)
  | str j=>obtain⟨t',rfl⟩:=ry;exact PySem.EqMixed.eq_int_str (cw I q (by simp))
  | _=>exact absurd (show false=true from hs) Yo
 | str i =>
  obtain⟨t,rfl⟩:=rx;cases y with
  | non=>cases ry;exact PySem.EqNone.eq_str_none (cw I q (by simp))
  | bl j=>cases ry;exact PySem.EqMixed.eq_str_bool (cw I q (by simp))
  | int j=>obtain⟨t',rfl⟩:=ry;exact PySem.EqMixed.eq_str_int (cw I q (by simp))
  | str j=>obtain⟨t',rfl⟩:=ry;exact eq_str (cw I q xH)
  | _=>exact absurd (show false=true from hs) Yo
 | byt i =>
  obtain⟨t,rfl⟩:=rx;cases y with
  | byt j=>obtain⟨t',rfl⟩:=ry;exact PySem.W.eq_bytes (cw I q yE)
  | _=>exact absurd (show false=true from hs) Yo
 | _=>cases y<;>exact absurd (show false=true from hs) Yo
theorem kB:eO X (compareOp .NotEq) IA:=by
 intro pins s σ H x y v u Q I rx ry h;obtain⟨hs,q⟩:=h;cases x with
 | non =>
  cases rx;cases y with
  | non=>cases ry;exact PySem.EqNone.ne_none_none (cw I q (by simp))
  | bl j=>cases ry;exact PySem.EqNone.ne_none_bool (cw I q (by simp))
  | int j=>obtain⟨t',rfl⟩:=ry;exact PySem.EqNone.ne_none_int (cw I q (by simp))
  | str j=>obtain⟨t',rfl⟩:=ry;exact PySem.EqNone.ne_none_str (cw I q (by simp))
  | _=>exact absurd (show false=true from hs) Yo
 | bl i =>
  cases rx;cases y with
  | non=>cases ry;exact PySem.EqNone.ne_bool_none (cw I q (by simp))
  | bl j=>cases ry;exact ne_bool (cw I q (Yn not Cz))
  | str j=>obtain⟨t',rfl⟩:=ry;exact PySem.EqMixed.ne_bool_str (cw I q (by simp))
  | _=>exact absurd (show false=true from hs) Yo
 | int i =>
  obtain⟨t,rfl⟩:=rx;cases y with
  | non=>cases ry;exact PySem.EqNone.ne_int_none (cw I q (by simp))
  | int j=>obtain⟨t',rfl⟩:=ry;exact ne_int (cw I q (Yn not xo))
  | str j=>obtain⟨t',rfl⟩:=ry;exact PySem.EqMixed.ne_int_str (cw I q (by simp))
  | _=>exact absurd (show false=true from hs) Yo
 | str i =>
  obtain⟨t,rfl⟩:=rx;cases y with
  | non=>cases ry;exact PySem.EqNone.ne_str_none (cw I q (by simp))
  | bl j=>cases ry;exact PySem.EqMixed.ne_str_bool (cw I q (by simp))
  | int j=>obtain⟨t',rfl⟩:=ry;exact PySem.EqMixed.ne_str_int (cw I q (by simp))
  | str j=>obtain⟨t',rfl⟩:=ry;exact ne_str (cw I q (Yn not xH))
  | _=>exact absurd (show false=true from hs) Yo
 | byt i =>
  obtain⟨t,rfl⟩:=rx;cases y with
  | byt j=>obtain⟨t',rfl⟩:=ry;exact PySem.W.ne_bytes (cw I q (Yn not yE))
  | _=>exact absurd (show false=true from hs) Yo
 | _=>cases y<;>exact absurd (show false=true from hs) Yo
theorem jw:eO X (compareOp .Lt) (xT λi j=>.bl (decide (i<j))):=EB λ_ _ _ _ _ _ _ q=>lt_int q
theorem ur:eO X (compareOp .LtE) (xT λi j=>.bl (decide (i<=j))):=EB λ_ _ _ _ _ _ _ q=>le_int q
theorem jz:eO X (compareOp .Gt) (xT λi j=>.bl (decide (j<i))):=EB λ_ _ _ _ _ _ _ q=>gt_int q
theorem Cn:eO X (compareOp .GtE) (xT λi j=>.bl (decide (j<=i))):=EB λ_ _ _ _ _ _ _ q=>ge_int q
theorem eO.or{f:Value->Value->Sem Value}{r r':R2}(h:eO X f r)(h':eO X f r'):eO X f (λx y H Q=>r x y H Q\/r' x y H Q):=by
 intro pins s σ H x y v u Q I rx ry q;rcases q with q|q
 .exact h pins s σ H x y v u Q I rx ry q
 .exact h' pins s σ H x y v u Q I rx ry q
theorem aC(b:Expr){op:CmpOp}(h:op ≠ .In:=by decide)(h2:op ≠ .NotIn:=by decide):behindInMarks op b=false:=by
 have e1:(op==CmpOp.In)=false:=by cases op<;>first|rfl|exact absurd rfl h
 have e2:(op==CmpOp.NotIn)=false:=by cases op<;>first|rfl|exact absurd rfl h2
 cases b<;>simp[behindInMarks,e1,e2]
theorem Fc{op:CmpOp}{r:R2}(ho:eO X (compareOp op) r)(ha:PE X a ta)(hb:PE X b tb)(hm:behindInMarks op b=false):PE X (.Compare a [op] [b] pos) (EI r ta tb):=by
 intro pins s σ H Q I h;exact wpAny_Compare1 (Hr ha hb I h λv u s2 x y H2 I2 rx ry q=>ho pins s2 σ H2 x y v u Q I2 rx ry q) hm
def rM(t:TE):TT:=λσ H Q=>t σ H λx H'=>∃k,x=.bl k/\Q k H'
theorem Dt{op:CmpOp}{r:R2}(ho:eO X (compareOp op) r)(ha:PE X a ta)(hb:PE X b tb)(hm:behindInMarks op b=false):PT X (.Compare a [op] [b] pos) (rM (EI r ta tb)):=by
 intro pins s σ H Q I h;refine wpAny_isTrue_Compare1 (da (ha pins s σ H _ I h) λv s1 ⟨x,H1,I1,r1,q1⟩=>da (hb pins s1 σ H1 _ I1 q1) λu s2 ⟨y,H2,I2,r2,q2⟩ =>
  da (ho pins s2 σ H2 x y v u _ I2 r1 r2 q2) λc s3 ⟨z,H3,I3,r3,k,e,q3⟩=>?_) hm
 subst e;cases r3;exact wpAny_truthy_bool ⟨H3,I3,q3⟩
def t8(r r':R2)(ta tb tc:TE):TE:=λσ H Q=>ta σ H λx H1=>tb σ H1 λy H2=>r x y H2 λz H3=>∃k,z=.bl k /\
 (if k=true then tc σ H3 λw' H4=>r' y w' H4 Q else Q (.bl false) H3)
theorem BC{op op':CmpOp}{r r':R2}(ho:eO X (compareOp op) r)(ho':eO X (compareOp op') r')(ha:PE X a ta)(hb:PE X b tb)(hc:PE X c tc)
  (hm:lastMarks [op,op'] [b,c]=false:=by with_unfolding_all rfl):PT X (.Compare a [op,op'] [b,c] pos) (rM (t8 r r' ta tb tc)):=by
 intro pins s σ H Q I h;refine isTrue_chain (da (ha pins s σ H _ I h) λv s1 ⟨x,H1,I1,r1,q1⟩=>test_link (da (hb pins s1 σ H1 _ I1 q1) λu s2 ⟨y,H2,I2,r2,q2⟩ =>
  da (ho pins s2 σ H2 x y v u _ I2 r1 r2 q2) λd s3 ⟨z,H3,I3,r3,k,e,q3⟩=>?_)) hm
 subst e;cases r3;refine wpAny_truthy_bool ?_;cases k with
 | false =>
  obtain⟨k',e',q'⟩:=q3;cases e';exact ite_ff ⟨H3,I3,q'⟩
 | true =>
  refine ite_tt (test_last (da (hc pins s3 σ H3 _ I3 q3) λw' s4 ⟨z',H4,I4,r4,q4⟩=>da (ho' pins s4 σ H4 y z' u w' _ I4 r2 r4 q4) λd' s5 ⟨z2,H5,I5,r5,k2,e2,q5⟩=>?_));subst e2;cases r5;exact wpAny_truthy_bool ⟨H5,I5,q5⟩
def vk(K:W.Frag)(x:V)(H:Hp)(k:Bool):Prop :=
 match x with
 | .non=>k=false
 | .bl b=>k=b
 | .int i=>k=(i != 0)
 | .str y=>y.length<=sizeLine/\k=((y.length:Int) != 0)
 | .byt y=>y.size<=sizeLine/\k=((y.size:Int) != 0)
 | .ref p=>(∃xs,kr K H p xs/\k = !xs.isEmpty)\/(∃xs,ug K H p xs/\k = !xs.isEmpty) \/ ∃kvs,H p=some (.dK kvs)/\k = !kvs.isEmpty
 | _=>False
theorem wF{κ:Type}{kvs:List (κ×V)}{vs:List (κ×Value)}(r:KV kvs vs):(!vs.isEmpty) = !kvs.isEmpty:=by
 cases r<;>rfl
theorem oZ{xs:List V}{its:List Value}(r:bY xs its):(!its.toArray.isEmpty) = !xs.isEmpty:=by
 cases r<;>simp
theorem mf:(sizeLine:Nat)<2^63:=by rw[sizeLine_eq];decide
theorem wZ:Kp X (λx H Q=>∃k,vk X.K x H k/\Q k H):=by
 intro pins s σ H x v Q I rx h;obtain⟨k,e,q⟩:=h;have hl:=mf;have hs:sizeLine=16777216:=sizeLine_eq;cases x with
 | non =>
  cases rx;have e':k=false:=e;subst e';exact truthy_none ⟨H,I,q⟩
 | bl b =>
  cases rx;have e':k=b:=e;subst e';exact wpAny_truthy_bool ⟨H,I,q⟩
 | int i =>
  obtain⟨t,rfl⟩:=rx;have e':k=(i != 0):=e;subst e';exact PySem.P.truthy_int ⟨H,I,q⟩
 | str y =>
  obtain⟨t,rfl⟩:=rx;obtain⟨hy,e'⟩ : y.length<=sizeLine/\k=((y.length:Int) != 0):=e;subst e';exact PySem.P.truthy_str () ⟨H,I.tok _,q⟩
 | byt y =>
  obtain⟨t,rfl⟩:=rx;obtain⟨hy,e'⟩ : y.size<=sizeLine/\k=((y.size:Int) != 0):=e;subst e';exact PySem.W.truthy_bytes () ⟨H,I.tok _,q⟩
 | ref p =>
  cases rx;have e':(∃xs,kr X.K H p xs/\k = !xs.isEmpty)\/(∃xs,ug X.K H p xs/\k = !xs.isEmpty) \/ ∃kvs,H p=some (.dK kvs)/\k = !kvs.isEmpty:=e;rcases e' with ⟨xs,hx,e'⟩|⟨xs,hx,e'⟩|⟨kvs,hx,e'⟩
  .subst e';obtain⟨its,r,pl,hz⟩:=I.list hx;have hlen:=r.length;exact wpAny_truthy_list pl.isList (by simp only[Ys];nofun) ⟨H,I.tok _,by rw[oZ r];exact q⟩
  .subst e';obtain⟨its,r,pl,hz⟩:=I.tuple hx;have hlen:=r.length;exact truthy_tuple pl (by simp only[Ys];nofun) ⟨H,I.tok _,by rw[oZ r];exact q⟩
  .subst e';obtain⟨hz,hS,vs,r,m⟩ : kvs.length<=sizeLine/\(p==sysModules)=false /\ ∃vs,KV kvs vs/\s.heap.DictOf (sC X.prog X.w) p vs:=I.hok p _ hx;have hlen:kvs.length=vs.length:=Paired.length r;exact wpAny_truthy_dict hS m () ⟨H,I.tok _,by rw[wF r];exact q⟩
 | _=>exact (show False from e).elim
theorem CI(ha:PE X a ta)(he:∀whole,isTrue a X.env whole=(do let v <-whole;standAt a.pos;holding [v] (truthy v))) :
  PT X a (λσ H Q=>ta σ H λx H'=>∃k,vk X.K x H' k/\Q k H'):=by
 intro pins s σ H Q I h;exact isTrue_plain (da (ha pins s σ H _ I h) λv s1 ⟨x,H1,I1,r1,q1⟩=>wZ pins s1 σ H1 x v Q I1 r1 q1) (he _)
theorem Ci{x:V}{us:List Value}(r:bY [x] us):∃u,us=[u]/\cy x u:=by
 cases r with
 | cons r1 r2=>cases r2;exact⟨_,rfl,r1⟩
theorem Ax{x y:V}{us:List Value}(r:bY [x,y] us):∃u w',us=[u,w']/\cy x u/\cy y w':=by
 cases r with
 | cons r1 r2 =>
  cases r2 with
  | cons r3 r4=>cases r4;exact⟨_,_,rfl,r1,r3⟩
theorem oT:fQ X (.builtin "abs") (λxs H Q=>∃i,xs=[.int i]/\Q (.int (if i<0 then -i else i)) H):=by
 intro pins s σ H xs us Q I r h;obtain⟨i,rfl,q⟩:=h;obtain⟨u,rfl,t,rfl⟩:=Ci r;exact call_abs_int λu tk=>⟨.int (if i<0 then -i else i),H,I.tok _,⟨_,rfl⟩,q⟩
theorem mj(hc:X.calm=true):fQ X (.builtin "max") (λxs H Q=>∃i j,xs=[.int i,.int j]/\Q (.int (if j > i then j else i)) H):=by
 intro pins s σ H xs us Q I r h;obtain⟨i,j,rfl,q⟩:=h;obtain⟨u,w',rfl,⟨t,rfl⟩,⟨t',rfl⟩⟩:=Ax r;refine max_two_ints (I.ok.hd hc) λh' tk k=>⟨_,H,I.kept k,?_,q⟩;by_cases hj:j > i
 .rw[Yb hj,Yb hj];exact⟨_,rfl⟩
 .rw[Yc hj,Yc hj];exact⟨_,rfl⟩
theorem qY(hc:X.calm=true):fQ X (.builtin "min") (λxs H Q=>∃i j,xs=[.int i,.int j]/\Q (.int (if j<i then j else i)) H):=by
 intro pins s σ H xs us Q I r h;obtain⟨i,j,rfl,q⟩:=h;obtain⟨u,w',rfl,⟨t,rfl⟩,⟨t',rfl⟩⟩:=Ax r;refine min_two_ints (I.ok.hd hc) λh' tk k=>⟨_,H,I.kept k,?_,q⟩;by_cases hj:j<i
 .rw[Yb hj,Yb hj];exact⟨_,rfl⟩
 .rw[Yc hj,Yc hj];exact⟨_,rfl⟩
end
structure F9 (h:Heap)(x dx C:Addr)(mA:Str->Option Value):Prop where
 obj:h.get? x=some (PySem.W.instObj C dx)
 ns:h.Ns1 dx mA
 ne:dx≠x
theorem zY{h:Heap}{dx:Addr}{mA:Str->Option Value}(n:h.Ns1 dx mA):∃od,h.get? dx=some od /\ ∀name,PySem.W.lookIn name od=some (mA name):=by
 obtain⟨o,es,ep,ho,hd,hk,_,hm⟩:=n;refine⟨o,ho,λname=>?_⟩;have e:=hm name;unfold nsFind findBy at e;rw[<-Array.find?_toList] at e;unfold PySem.W.lookIn;rw[hd];dsimp only;split
 .rename_i y q
  rw[q] at e;exact Yn some e
 .rename_i q
  rw[q] at e;have a:es.toList.any (·.refKey)=false:=by
   rw[List.any_eq_false];intro y hy;obtain⟨z,t,hkey⟩:=hk y (Array.mem_toList_iff.mp hy);simp[DictEntry.refKey,hkey]
  have a':¬ es.toList.any (·.refKey)=true:=by rw[a];exact Yo
  rw[Yc a'];exact Yn some e
theorem F9.look{h:Heap}{x dx C:Addr}{mA:Str->Option Value}(I:F9 h x dx C mA):∃od,PySem.W.InstAt h x (PySem.W.instObj C dx) C (some od) /\ ∀name,PySem.W.lookIn name od=some (mA name) :=
 let ⟨od,ho,hl⟩:=zY I.ns
 ⟨od,⟨I.obj,rfl,rfl,ho⟩,hl⟩
section
variable {P:Program}{w:World}{H H':Hp}{h h':Heap}{a C dx:Addr}{fs fs':List (Str×V)}
theorem Ey(hok:oi P w H h)(e:H a=some (.ins C dx fs)):∃mA,F9 h a dx C mA/\(∀f,GV (fs.lookup f) (mA f))/\PySem.Within mA (fs.map (·.1))/\fs.length<=1000/\H dx=some (.own a):=by
 obtain⟨d,z,ne,ob,mA,n,r,q⟩:=(show fE P w H h a (.ins C dx fs) from hok a _ e)
 exact⟨mA,⟨ob,n,ne⟩,r,q,z,d⟩
end
structure J8 (K:W.Frag)(C:Addr):Prop where
 pg:PySem.W.plainGet K C Str.empty=true
 hd:PySem.W.hasDictIn K C=true
 po:PySem.W.plainOver K C=true
 sa:PySem.W.findIn K (.ref C) "__setattr__" = some (some (.builtin "object.__setattr__"))
theorem J8.get{K:W.Frag}{C:Addr}(c:J8 K C)(f:Str):PySem.W.plainGet K C f=true:=c.pg
section
variable {X:Cx}{pins:List (Addr×Obj)}{σ:St}{H:Hp}{s:Shared}{A:Around}{E:Value->Shared->Prop}{Q:Value->Shared->Prop}{c:Value}{b:Bool}
inductive nK (K:W.Frag)(H:Hp):V->Value->Prop where
 | non:nK K H .non (.type "NoneType")
 | bl (x:Bool):nK K H (.bl x) (.type "bool")
 | int (i:Int):nK K H (.int i) (.type "int")
 | str (x:Str):nK K H (.str x) (.type "str")
 | flt (x:UInt64):nK K H (.flt x) (.type "float")
 | lst {a:Addr}{xs:List V}(e:H a=some (.lst xs)):nK K H (.ref a) (.type "list")
 | frz {a:Addr}{o:Obj}{xs:List V}(e:H a=some (.frz o (.lst xs))):nK K H (.ref a) (.type "list")
 | tup {a:Addr}{xs:List V}(e:H a=some (.tup xs)):nK K H (.ref a) (.type "tuple")
 | dK {a:Addr}{kvs:List (uh×V)}(e:H a=some (.dK kvs)):nK K H (.ref a) (.type "dict")
 | dT {a:Addr}{kvs:List (List uh×V)}(e:H a=some (.dT kvs)):nK K H (.ref a) (.type "dict")
 | ins {a C dx:Addr}{fs:List (Str×V)}(e:H a=some (.ins C dx fs))(cl:J8 K C)(ha:PySem.W.findIn K (.ref C) "__class__" = some (some (.builtin "object.__class__")))
   (hn:PySem.W.specialIn K (.builtin "object.__class__") "__get__" = some (some (.builtin "getset_descriptor.__get__"))) (htk:PySem.W.takesIn K (.builtin "object.__class__")=some true)
   (hm:PySem.W.mroIn K C (.type "object")=some true):nK K H (.ref a) (.ref C)
theorem fX{x:V}{u t:Value}(I:aR X pins σ H s)(rx:cy x u)(ty:nK X.K H x t)(e:PySem.W.kitOne X.K t c=some b)(h:∀tk,Q (.bool b) { s with toks:=tk }) :
  wpAny (model X.prog X.w) A (call (.builtin "isinstance") [u,c]) Q E s:=by
 cases ty with
 | non=>cases (show u=Value.none from rx);exact Yt PySem.W.kitx_none I.kIn True.intro e (λz=>nomatch z) h
 | bl y=>cases (show u=Value.bool y from rx);exact Yt PySem.W.kitx_bool I.kIn True.intro e (λz=>nomatch z) h
 | int i=>obtain⟨t,q⟩:=(show ∃t,u=Value.int i t from rx);cases q;exact Yt PySem.W.kitx_int I.kIn True.intro e (λz=>nomatch z) h
 | str y=>obtain⟨t,q⟩:=(show ∃t,u=Value.str y t from rx);cases q;exact Yt PySem.W.kitx_str I.kIn True.intro e (λz=>nomatch z) h
 | flt y=>obtain⟨t,q⟩:=(show ∃t,u=Value.float y t from rx);cases q;exact Yt PySem.W.kitx_float I.kIn True.intro e (λz=>nomatch z) h
 | @lst a xs ea =>
  cases (show u=Value.ref a from rx)
  obtain⟨_,_,n,_,h1⟩:=(show fE X.prog X.w H s.heap a (.lst xs) from I.hok a _ ea)
  exact Yt PySem.W.kitx_list I.kIn ⟨_,h1,rfl⟩ e (λz=>nomatch z) h
 | @frz a ob xs ea =>
  cases (show u=Value.ref a from rx)
  obtain⟨_,_,_,n,_,h1⟩:=(show fE X.prog X.w H s.heap a (.frz ob (.lst xs)) from I.hok a _ ea)
  exact Yt PySem.W.kitx_list I.kIn ⟨_,h1,rfl⟩ e (λz=>nomatch z) h
 | @tup a xs ea =>
  cases (show u=Value.ref a from rx)
  obtain⟨_,_,_,p⟩:=(show fE X.prog X.w H s.heap a (.tup xs) from I.hok a _ ea)
  obtain⟨o,h1,h2,_⟩:=p;exact Yt PySem.W.kitx_tuple I.kIn ⟨o,h1,h2⟩ e (λz=>nomatch z) h
 | @dK a kvs ea =>
  cases (show u=Value.ref a from rx)
  obtain⟨_,_,vs,_,p⟩:=(show fE X.prog X.w H s.heap a (.dK kvs) from I.hok a _ ea)
  obtain⟨o,es,ep,h1,h2,_⟩:=p;exact Yt PySem.W.kitx_dict I.kIn ⟨o,h1,h2.1⟩ e (λz=>nomatch z) h
 | @dT a kvs ea =>
  cases (show u=Value.ref a from rx)
  obtain⟨_,_,xs,_,o,es,ep,h1,h2,_⟩:=(show fE X.prog X.w H s.heap a (.dT kvs) from I.hok a _ ea)
  exact Yt PySem.W.kitx_dict I.kIn ⟨o,h1,h2.1⟩ e (λz=>nomatch z) h
 | @ins a C dx fs ea cl ha hn htk hm =>
  cases (show u=Value.ref a from rx)
  obtain⟨mA,O,_⟩:=Ey I.hok ea;obtain⟨od,J,_⟩:=O.look;exact Yt (PySem.W.kitx_own (cl.get _) cl.hd ha hn htk hm) I.kIn J e (λz=>nomatch z) h
end
structure gi (k:Nat)(A:Around):Prop where
 hd:A.handled=none
 dp:A.depth+3*k+105<recursionLimit
 un:A.units+16*k+200<cLine
theorem gi.mono{j k:Nat}{A:Around}(r:gi k A)(h:j<=k):gi j A:=⟨r.hd,by have:=r.dp;nofun,by have:=r.un;nofun⟩
theorem gi.deeper{k:Nat}{A:Around}(r:gi (k+1) A)(env:Env):gi k (A.deeper env) :=
 ⟨r.hd,by have:=r.dp;show A.depth+1+3*k+105<_;nofun,by have:=r.un;show A.units+3+16*k+200<_;nofun⟩
theorem gi.depth{k:Nat}{A:Around}(r:gi k A):A.depth<recursionLimit:=by have:=r.dp;nofun
def Hw:TA:=λ_ H Q=>Q [] H
def BG(ta:TE)(tr:TA):TA:=λσ H Q=>ta σ H λx H1=>tr σ H1 λxs H2=>Q (x::xs) H2
section
variable {X:Cx}{e:Expr}{es:List Expr}{te:TE}{t:TA}{pos:Pos}
theorem Gz:PA X [] Hw:=λ_ _ _ _ H Q I h=>Calls.spliced_nil ⟨[],H,I,.nil,h⟩
theorem EZ(ha:PE X e te)(hr:PA X es t)(hs:starEach (e::es) X.env=(false,eval e X.env)::starEach es X.env:=by rfl):PA X (e::es) (BG te t):=by
 intro pos pins s σ H Q I h;rw[hs];show wpAny _ _ (spliced ((false,eval e X.env)::backTo pos (starEach es X.env))) _ _ s;refine Calls.spliced_cons (da (ha pins s σ H _ I h) λu s1 ⟨x,H1,I1,r1,q1⟩=>?_);exact da (hr pos pins s1 σ H1 _ I1 q1) λus s2 ⟨xs,H2,I2,r2,q2⟩=>⟨x::xs,H2,I2,.cons r1 r2,q2⟩
end
abbrev Sp:=List V->Hp->VK->XK->Prop
abbrev zn:=List Env->Hp->Shared->XK->Value->Shared->Prop
structure EJ (P:Program)(w:World)(K:W.Frag)(mg:Str->Option Value)(base:Heap)(A:Around)(outer:List Env)(s:Shared)(H:Hp):Prop where
 frames:A.frames=some outer
 mod:Mod K mg base
 bs:∀b o,base.get? b=some o->s.heap.get? b=some o/\H b=none
 bsz:base.objs.size<=s.heap.objs.size
 funs:s.heap.FunFrames base outer
 frf:∀b∈Ae outer,H b=none
 hok:oi P w H s.heap
 bare:AllBare s.gens
def CE(outer:List Env)(P:Program)(w:World)(H:Hp)(s:Shared)(Q:VK)(u:Value)(s':Shared):Prop :=
 ∃v H',s'.os=s.os/\AllBare s'.gens/\Un (Ae outer) [] H H' s.heap s'.heap/\oi P w H' s'.heap/\cy v u/\Q v H'
def CR(CX:zn)(outer:List Env)(P:Program)(w:World)(H:Hp)(s:Shared)(Q:VK)(E:XK)(r:Result)(s':Shared):Prop :=
 match r with
 | .ok (.ret u)=>CE outer P w H s Q u s'
 | .ok _=>False
 | .error e=>CX outer H s E e s'
structure aV (P:Program)(w:World)(K:W.Frag)(mg:Str->Option Value)(base:Heap)(CX:zn)(k:Nat)(f:Addr)(fd:FuncData)(ps:List Str)(sp:Sp):Prop where
 len:∀vs H Q E,sp vs H Q E->vs.length=ps.length
 run:∀(A:Around)(outer:List Env)(s:Shared)(H:Hp)(args:Args)(us:List Value)(vs:List V)(Q:VK)(E:XK),gi k A->EJ P w K mg base A outer s H->BindsTo s fd args (ps.zip us)->bY vs us->sp vs H Q E ->
  codeAny (model P w) A (.call (.ref f) args) (CR CX outer P w H s Q E) s
section
variable {X:Cx}{pins:List (Addr×Obj)}{σ:St}{H:Hp}{s s':Shared}
theorem aR.env0(I:aR X pins σ H s):EJ X.prog X.w X.K X.mg X.base X.A X.stack s H :=
 ⟨I.ok.frames,I.ok.mod,I.bs,Yg I.ok.bsz I.sz,I.stack,I.stkFree,I.hok,I.bare⟩
theorem aR.after{Q:VK}{u:Value}(I:aR X pins σ H s)(h:CE X.stack X.prog X.w H s Q u s'):EP X pins σ Q u s':=by
 obtain⟨v,H',os,bare,un,hok,r,q⟩:=h;obtain⟨hh,g,d,t,os'⟩:=s';obtain rfl:os'=s.os:=os;exact⟨v,H',I.call (h':=hh) (g':=g) (d':=d) (t':=t) (ch:=[]) un hok bare (λb z=>absurd z (by simp)),r,q⟩
end
def Jx(sp:Sp)(dvs:List V)(E:XK)(t:TA):TE:=λσ H Q=>t σ H λvs H1=>sp (vs++dvs) H1 Q E
def rD(K:W.Frag)(fd:FuncData)(ps:List Str)(ds:List Value):Prop :=
 ∀(s:Shared)(us:List Value),K.In s.heap->(us++ds).length=ps.length->BindsTo s fd ⟨us,[]⟩ (ps.zip (us++ds))
theorem rD.all{K:W.Frag}{fd:FuncData}{ps:List Str}(h:∀us:List Value,us.length=ps.length->bindArgs fd ⟨us,[]⟩=pure (ps.zip us)):rD K fd ps []:=λs us _ hl=>by
 rw[List.append_nil] at hl ⊢;exact .of_eq (h us hl)
def vS(CX:zn)(X:Cx)(E:XK):Prop:=∀(pins:List (Addr×Obj))(σ:St)(H:Hp)(s:Shared)(e:Value)(s':Shared),aR X pins σ H s->CX X.stack H s E e s'->X.xe e s'
section
variable {X:Cx}{CX:zn}{k:Nat}{f C:Addr}{fd:FuncData}{ps:List Str}{sp:Sp}{dvs:List V}{ds:List Value}{E:XK}{x m:Str}{p pos apos:Pos}{e o:Expr}{es:List Expr}{ta:TE}{t:TA}
theorem Iq{pins:List (Addr×Obj)}{σ:St}{H:Hp}{s:Shared}{Q:VK}{us:List Value}{vs:List V}(F:aV X.prog X.w X.K X.mg X.base CX k f fd ps sp)(hr:gi k X.A)(hb:rD X.K fd ps ds)(hd:bY dvs ds)(hx:vS CX X E)
  (I:aR X pins σ H s)(r:bY vs us)(h:sp (vs++dvs) H Q E):wpAny (model X.prog X.w) X.A (call (.ref f) us) (EP X pins σ Q) X.xe s:=by
 have r2:bY (vs++dvs) (us++ds):=r.append hd;have hl:(us++ds).length=ps.length:=by rw[<-r2.length];exact F.len _ _ _ _ h
 refine wpAny_call (codeAny_mono (F.run X.A X.stack s H ⟨us,[]⟩ (us++ds) (vs++dvs) Q E hr I.env0 (hb s us I.kIn hl) r2 h) λr s' hq=>?_);cases r with
 | error e=>exact hx pins σ H s e s' I hq
 | ok fl =>
  cases fl with
  | ret u=>exact I.after hq
  | next=>exact False.elim hq
  | brk=>exact False.elim hq
  | cont=>exact False.elim hq
theorem Dv(F:aV X.prog X.w X.K X.mg X.base CX k f fd ps sp)(hr:gi k X.A)(hg:Gl X x)(hm:X.mg x=some (.ref f))(hk:PySem.W.keepIn X.K (.ref f)=true)(hb:rD X.K fd ps ds)(hd:bY dvs ds)(hx:vS CX X E)
  (ha:PA X (e::es) t)(hdb:(x==("__debug__" : Str))=false:=by decide) (he:starEach (e::es) X.env=(false,eval e X.env)::starEach es X.env:=by rfl)(hpl:(backTo pos (starEach es X.env)).any (·.1)=false:=by rfl) :
  PE X (.Call (.Name x p) (e::es) [] pos) (Jx sp dvs E t):=by
 intro pins s σ H Q I h;refine wpAny_Call_Name_kw (xV I hg hm ?_ hdb);refine PySem.W.callWith_K (h₀:=X.base) I.ok.mod.kin hk (da (ha pos pins s σ H _ I h) λus s1 ⟨vs,H1,I1,r,q⟩=>⟨I1.kIn,?_⟩) he hpl;exact Iq F hr hb hd hx I1 r q
end
structure aw (N P:List Str)(sc:Scope):Prop where
 kind:sc.kind=.function
 co:sc.isCoroutine=false
 gen:sc.isGenerator=false
 nd:N.Nodup
 pre:N.take P.length=P
 par:∀x∈P,sc.names.lookup x=some .local\/sc.names.lookup x=some .cell
 nofree:∀y∈sc.names,y.2 ≠ .free
theorem rh{kindOf:Str->Option NameKind}{x:Str}:∀{binds:List (Str×Value)}{m:Str->Option Value},(∀v,(x,v)∉binds)->bindL kindOf binds m x=m x
 | [],_,_=>rfl
 | (n,v)::r,m,h=>by
  unfold bindL;rw[rh λw hw=>h w (Yj _ hw)];split
  .have:x≠n:=by rintro rfl;exact h v Yi
   simp[this]
  .rfl
theorem rJ{kindOf:Str->Option NameKind}{x:Str}:∀{binds:List (Str×Value)}{m:Str->Option Value},(∀v,(x,v)∉binds)->bindC kindOf binds m x=m x
 | [],_,_=>rfl
 | (n,v)::r,m,h=>by
  unfold bindC;rw[rJ λw hw=>h w (Yj _ hw)];split
  .rfl
  .have:x≠n:=by rintro rfl;exact h v Yi
   simp[this]
theorem qS{kindOf:Str->Option NameKind}{x:Str}{v:Value}:∀{P:List Str}{vs:List Value}{i:Nat}{m:Str->Option Value},P.Nodup->P[i]? = some x->vs[i]? = some v->kindOf x=some .local ->
  bindL kindOf (P.zip vs) m x=some v
 | [],_,_,_,_,h,_,_=>by simp at h
 | _::_,[],_,_,_,_,h,_=>by simp at h
 | p::P,w::vs,0,m,nd,h1,h2,hk=>by
  simp at h1 h2;subst h1;subst h2;show bindL kindOf ((p,w)::P.zip vs) m p=_;unfold bindL;rw[rh λv hv=>(List.nodup_cons.mp nd).1 (List.of_mem_zip hv).1,Yb hk];simp
 | p::P,w::vs,i+1,m,nd,h1,h2,hk=>by
  show bindL kindOf ((p,w)::P.zip vs) m x=_;unfold bindL;exact qS (i:=i) (List.nodup_cons.mp nd).2 (by simpa using h1) (by simpa using h2) hk
theorem qJ{kindOf:Str->Option NameKind}{x:Str}{v:Value}:∀{P:List Str}{vs:List Value}{i:Nat}{m:Str->Option Value},P.Nodup->P[i]? = some x->vs[i]? = some v->kindOf x≠some .local ->
  bindC kindOf (P.zip vs) m x=some v
 | [],_,_,_,_,h,_,_=>by simp at h
 | _::_,[],_,_,_,_,h,_=>by simp at h
 | p::P,w::vs,0,m,nd,h1,h2,hk=>by
  simp at h1 h2;subst h1;subst h2;show bindC kindOf ((p,w)::P.zip vs) m p=_;unfold bindC;rw[rJ λv hv=>(List.nodup_cons.mp nd).1 (List.of_mem_zip hv).1,Yc hk];simp
 | p::P,w::vs,i+1,m,nd,h1,h2,hk=>by
  show bindC kindOf ((p,w)::P.zip vs) m x=_;unfold bindC;exact qJ (i:=i) (List.nodup_cons.mp nd).2 (by simpa using h1) (by simpa using h2) hk
def start(N:List Str)(vs:List V):St:=vs.map some++List.replicate (N.length-vs.length) none
def sB(CX:zn)(P:Program)(w:World)(K:W.Frag)(mg:Str->Option Value)(base:Heap)(N:List Str)(qual:Str)(scope:Scope)(f:Addr)(cd:Value)(A:Around)(outer:List Env)(s:Shared)(H:Hp)(E:XK):Cx where
 prog:=P
 w:=w
 K:=K
 mg:=mg
 base:=base
 A:=A.deeper (envOfC qual scope s.heap.objs.size f cd)
 N:=N
 s₀:=s
 H₀:=H
 env:=envOfC qual scope s.heap.objs.size f cd
 outer:=outer
 stack:=envOfC qual scope s.heap.objs.size f cd::outer
 ex:=[]
 calm:=true
 fn:=λ_=>true
 pn:=[]
 xe:=λe s'=>wpAny (model P w) (A.deeper (envOfC qual scope s.heap.objs.size f cd)) (leaving (envOfC qual scope s.heap.objs.size f cd) e) (λ_ s''=>CX outer H s E e s'') (λe' s''=>CX outer H s E e' s'') s'
theorem uI{sc:Scope}{n:Nat}{x:Str}(h:sc.names.lookup x=some .cell):∃c,(cellsFrom n sc.names []).lookup x=some c:=by
 have q:=PySem.W.cellsFrom_some sc.names n [] (.inl h);exact Option.isSome_iff_exists.mp q
theorem zX{CX:zn}{P:Program}{w:World}{K:W.Frag}{mg:Str->Option Value}{base:Heap}{N ps:List Str}{qual:Str}{scope:Scope}{f:Addr}{cd:Value}{A:Around}{outer:List Env}{s s1:Shared}{H:Hp}{E:XK}{us:List Value}{vs:List V}
  (S:aw N ps scope)(hd:A.handled=none)(e0:EJ P w K mg base A outer s H)(hl:vs.length=ps.length)(r:bY vs us)
  (x:InCallC s s.heap.objs.size (bindL (envOfC qual scope s.heap.objs.size f cd).kindOf (ps.zip us) λ_=>none) (cellsFrom (s.heap.objs.size+1) scope.names []) (bindC (envOfC qual scope s.heap.objs.size f cd).kindOf (ps.zip us) λ_=>none) s1) :
  aR (sB CX P w K mg base N qual scope f cd A outer s H E) [] (start N vs) H s1:=by
 have hpl:ps.length<=N.length:=by have:=Yn List.length S.pre;rw[Yu] at this;nofun
 obtain⟨h1,tk,rfl,hk⟩:=x.done;have noA:∀b:Addr,b∉(sB CX P w K mg base N qual scope f cd A outer s H E).ex:=λb z=>absurd (show b∈([]:List Addr) from z) (by simp)
 refine⟨⟨e0.mod,S.kind,rfl,rfl,Yp _,λy z c h1 h2=>?_,λy hy=>?_,λy c _ h=>?_,λ_=>hd,Around.frames_deeper e0.frames,.inr ⟨rfl,rfl⟩,λb z=>absurd z (noA b),e0.bs,e0.bsz,λb _ _=>noA b,λb z=>absurd z (noA b),e0.funs,e0.frf⟩,
  rfl,e0.bare,Un.kept hk,⟨_,x.toInCall.ns,λi y v h1 h2 h3=>?_⟩,λy c h=>⟨_,x.cell y c h⟩,e0.hok.fresh (Yp _),λy c h=>?_,λp hp=>absurd (show p∈([]:List (Addr×Obj)) from hp) (by simp),e0.hok.kept hk,?_⟩
 .exact name_of_addr x.apart (Yv h1) (Yv h2)
 .have hy:scope.names.lookup y=some .cell\/scope.names.lookup y=some .free:=hy;rcases hy with hy|hy
  .exact uI hy
  .exact absurd rfl (S.nofree _ (Yv hy))
 .exact Yh (x.above y c (Yv h))
 .have hi:i<vs.length:=by
   unfold start at h2;by_cases hi:i<vs.length
   .exact hi
   .rw[Yw (by simpa using hi)] at h2
    rw[Yx] at h2;split at h2<;>cases h2
  have ha:vs[i]? = some v:=by
   unfold start at h2;rw[Yy (by simpa using hi),Yz] at h2
   cases e:vs[i]? with
   | none=>rw[e] at h2;cases h2
   | some a=>rw[e] at h2;cases h2;rfl
  obtain⟨u,hu,rv⟩:=r.get ha;have hp:ps[i]? = some y:=by
   rw[<-S.pre,List.getElem?_take_of_lt ()];exact h1
  have ndP:ps.Nodup:=by rw[<-S.pre];exact S.nd.sublist (List.take_sublist _ _)
  refine⟨u,rv,?_⟩;rcases S.par y (YA hp) with k|k
  .exact .inl ⟨k,qS ndP hp hu k⟩
  .obtain⟨c,e⟩:=uI (n:=s.heap.objs.size+1) k;refine .inr ⟨.inl k,c,e,?_⟩;have q:=x.cell y c e;rw[qJ ndP hp hu (by show scope.names.lookup y≠_;rw[k];decide)] at q
   exact q
 .exact e0.hok.fresh (Yh (x.above y c (Yv h)))
 .unfold start;show _=N.length;rw[YB,YC,YD];nofun
theorem IJ{CX:zn}{P:Program}{w:World}{K:W.Frag}{mg:Str->Option Value}{base:Heap}{k:Nat}{f:Addr}{name qual:Str}{params:Arguments}{body:List Stmt}{scope:Scope}{dV kV doc pm cdv ct oc:Value}{an od:Option Addr}
  {osl:Array (Option Value)}{N ps:List Str}{sp:Sp}(lk:K.lookup f=some ⟨oc,od,.func (PySem.W.fnOf name qual params body scope dV kV doc pm an cdv ct),osl⟩)(hcd:PySem.W.codeIn K cdv qual=true)(S:aw N ps scope)
  (len:∀vs H Q E,sp vs H Q E->vs.length=ps.length)
  (hbody:∀(A:Around)(outer:List Env)(s:Shared)(H:Hp)(vs:List V)(Q:VK)(E:XK),gi k (A.deeper (envOfC qual scope s.heap.objs.size f cdv))->sp vs H Q E ->
   ∃t,vB (sB CX P w K mg base N qual scope f cdv A outer s H E) body t/\t { nx:=λ_ H'=>Q .non H',rt:=Q } (start N vs) H) :
  aV P w K mg base CX (k+1) f (PySem.W.fnOf name qual params body scope dV kV doc pm an cdv ct) ps sp:=by
 refine⟨len,λA outer s H args us vs Q E hr e0 hb r hsp=>?_⟩;have hl:=len _ _ _ _ hsp;have KX:K.In s.heap:=e0.mod.kin.keeps λb o e=>(e0.bs b o e).1;have lim:s.heap.NoLimit:=e0.mod.nolimit.keeps λb o e=>(e0.bs b o e).1;have hkind:∀y∈ps.zip us,scope.names.lookup y.1=some .local\/(scope.names.lookup y.1=some .cell/\((cellsFrom (s.heap.objs.size+1) scope.names []).lookup y.1).isSome=true):=λ⟨n,v⟩ hy=>by
  rcases S.par n (List.of_mem_zip hy).1 with q|q
  .exact .inl q
  .exact .inr ⟨q,PySem.W.cellsFrom_some _ _ _ (.inl q)⟩
 refine codeAny_call_function hr.depth (KX _ _ lk) rfl S.co S.gen rfl (PySem.W.codeRec_of KX hcd) (hb _ _ _ _ ?_);refine wpAny_newFunctionEnv_cells S.kind hkind λenv he s1 x=>?_;subst he;refine⟨lim.keeps x.toInCall.keep,codeAny_func ?_⟩;obtain⟨t,ht,hq⟩:=hbody A outer s H vs Q E (hr.deeper _) hsp;have I:aR (sB CX P w K mg base N qual scope f cdv A outer s H E) [] (start N vs) H s1:=zX S hr.hd e0 hl r x;refine wpAny_mono (ht [] s1 (start N vs) H _ I hq) (λfl s' hs=>?_) λe s' hs=>hs;have fin:∀{σ':St}{H':Hp}{v:V}{u:Value},aR (sB CX P w K mg base N qual scope f cdv A outer s H E) [] σ' H' s'->cy v u->Q v H'->CE outer P w H s Q u s' :=
  λ{σ' H' v u} J rv q=>⟨v,H',J.os,J.bare,J.base,J.hok,rv,q⟩
 cases fl with
 | ret u =>
  obtain⟨v,σ',H',J,rv,q⟩:=hs;exact fin J rv q
 | next =>
  obtain⟨σ',H',J,q⟩:=hs;exact fin (v:=V.non) (u:=Value.none) J rfl q
 | brk =>
  obtain⟨_,_,_,q⟩:=hs;exact False.elim q
 | cont =>
  obtain⟨_,_,_,q⟩:=hs;exact False.elim q
section
variable {X:Cx}{x:Str}{p pos:Pos}{e:Expr}{es:List Expr}{t:TA}{id T:String}{r:List V->Hp->VK->Prop}
def EO(r:List V->Hp->VK->Prop)(t:TA):TE:=λσ H Q=>t σ H λvs H1=>r vs H1 Q
theorem Bb(hc:fQ X (.builtin id) r)(hg:Gl X x)(hm:X.mg x=none)(hv:bootBuiltins x=some (.builtin id))(ha:PA X (e::es) t)(hn:x ≠ "__name__":=by decide) (hdb:(x==("__debug__" : Str))=false:=by decide)
  (he:starEach (e::es) X.env=(false,eval e X.env)::starEach es X.env:=by rfl)(hpl:(backTo pos (starEach es X.env)).any (·.1)=false:=by rfl):PE X (.Call (.Name x p) (e::es) [] pos) (EO r t):=by
 intro pins s σ H Q I h;refine wpAny_Call_Name_kw (jL I hg hm hv ?_ hn hdb);exact PyProof.Rows.callWith_builtin1 (da (ha pos pins s σ H _ I h) λus s1 ⟨vs,H1,I1,r1,q1⟩=>hc pins s1 σ H1 vs us Q I1 r1 q1) he hpl
theorem zI(hc:fQ X (.type T) r)(hg:Gl X x)(hm:X.mg x=none)(hv:bootBuiltins x=some (.type T))(ha:PA X (e::es) t)(hn:x ≠ "__name__":=by decide) (hdb:(x==("__debug__" : Str))=false:=by decide)
  (he:starEach (e::es) X.env=(false,eval e X.env)::starEach es X.env:=by rfl)(hpl:(backTo pos (starEach es X.env)).any (·.1)=false:=by rfl):PE X (.Call (.Name x p) (e::es) [] pos) (EO r t):=by
 intro pins s σ H Q I h;refine wpAny_Call_Name_kw (jL I hg hm hv ?_ hn hdb);exact Yq (da (ha pos pins s σ H _ I h) λus s1 ⟨vs,H1,I1,r1,q1⟩=>hc pins s1 σ H1 vs us Q I1 r1 q1) he hpl
end
end L2
namespace HT
open PySem PyProof.Rows
section
open PySem.SeqAt
open PySem.AutoSeq1 (wpAny_loadPart')
open PySem.MeetsSeq PySem.MeetsSeq2 PySem.MeetsSeq3
end
section
variable {prog:Program}{w:World}{A:Around}{E:Value->Shared->Prop}{s:Shared}
def sIx(n d:Nat):Option Int->Nat
 | none=>d
 | some v=>if v<0 then (v+(n:Int)).toNat else min v.toNat n
theorem tU(n d k:Nat):sIx n d (some (k:Int))=min k n:=by
 show (if (k:Int)<0 then ((k:Int)+(n:Int)).toNat else min (k:Int).toNat n)=min k n
 rw[Yc (),Int.toNat_natCast]
theorem HM(n d:Nat)(hd:d<=n)(o:Option Int):sIx n d o<=n:=by
 cases o with
 | none=>exact hd
 | some v =>
  show (if v<0 then (v+(n:Int)).toNat else min v.toNat n)<=n
  by_cases hv:v<0
  .rw[Yb hv];nofun
  .rw[Yc hv];exact Nat.min_le_right _ _
theorem yx(v:Int)(n d:Nat):(if v<0 then max (v+(n:Int)) 0 else min v (n:Int))=((sIx n d (some v):Nat):Int):=by
 show (if v<0 then max (v+(n:Int)) 0 else min v (n:Int))=(((if v<0 then (v+(n:Int)).toNat else min v.toNat n):Nat):Int)
 by_cases hv:v<0
 .simp only[Yb hv];nofun
 .simp only[Yc hv];nofun
theorem vX(lo hi:Option Int)(n:Nat):Builtin.Slice.sliceAdjust lo hi 1 (n:Int)=(((sIx n 0 lo:Nat):Int),((sIx n n hi:Nat):Int)):=by
 have h1:¬ ((1:Int)<0):=();unfold Builtin.Slice.sliceAdjust;simp only[h1,if_false];refine Prod.ext ?_ ?_
 .cases lo with
  | none=>rfl
  | some v=>exact yx v n 0
 .cases hi with
  | none=>rfl
  | some v=>exact yx v n n
theorem xb (i j:Nat):Builtin.Slice.slicePlaces (i:Int) (j:Int) 1=j-i:=by
 unfold Builtin.Slice.slicePlaces;have h1:(1:Int) > 0:=();simp only[h1,if_true,Int.ediv_one];split<;>nofun
theorem pY{v:Value}{o:Option Int}{Q:Option Int->Shared->Prop}(p:IsPart v o)(h:Q o s):wpAny (model prog w) A (Builtin.Slice.slicePartIndex v) Q E s:=by
 cases p with
 | none=>exact slicePart_none h
 | int i t=>exact slicePart_int h
theorem mx{sl:Addr}{vl vu:Value}{lo hi:Option Int}{n:Nat}{Q:Int×Int×Nat->Shared->Prop}(hs:s.heap.IsSliceOf sl vl vu .none)(pl:IsPart vl lo)(pu:IsPart vu hi)
  (h:Q (((sIx n 0 lo:Nat):Int),1,sIx n n hi-sIx n 0 lo) s):wpAny (model prog w) A (Builtin.Slice.sliceApplied (.ref sl) (pure (n:Int))) Q E s:=by
 obtain⟨os,hos,hcs,hds⟩:=id hs;unfold Builtin.Slice.sliceApplied Builtin.Slice.sliceFields;refine wpAny_bind (wpAny_bind (wpAny_field hos hds (x:=vl) rfl (wpAny_bind (wpAny_field hos hds (x:=vu) rfl (wpAny_bind (wpAny_field hos hds (x:=.none) rfl (wpAny_pure ?_)))))));refine wpAny_bind (slicePart_none ?_);show wpAny _ _ (if ((1:Int)==0)=true then _ else _) _ _ s
 rw[Yc ∅];refine wpAny_bind (pY pl (wpAny_bind (pY pu (wpAny_bind (wpAny_pure ?_)))));show wpAny _ _ (match Builtin.Slice.sliceAdjust lo hi 1 (n:Int) with|(lo,hi)=>pure (lo,(1:Int),Builtin.Slice.slicePlaces lo hi 1)) _ _ s
 rw[vX lo hi n];show wpAny _ _ (pure (((sIx n 0 lo:Nat):Int),(1:Int),Builtin.Slice.slicePlaces ((sIx n 0 lo:Nat):Int) ((sIx n n hi:Nat):Int) 1)) _ _ s;rw[xb];exact wpAny_pure h
theorem AM(xs:Array Value)(i k:Nat):((List.range k).filterMap λ(m:Nat)=>xs[((i:Int)+(m:Int)*1).toNat]?).toArray=((xs.toList.drop i).take k).toArray:=by
 have e:(λ(m:Nat)=>xs[((i:Int)+(m:Int)*1).toNat]?)=λm=>xs[i+m]?:=by
  funext m;have:((i:Int)+(m:Int)*1).toNat=i+m:=();rw[this]
 rw[e];have:=pick_run xs i k;rw[List.filterMap_map] at this;have e2:((λx=>xs[x]?) ∘ λx=>i+x)=λm=>xs[i+m]?:=rfl;rw[e2] at this;rw[this]
theorem getItem_tuple_cut{t sl:Addr}{items:Array Value}{vl vu:Value}{lo hi:Option Int}{Q:Value->Shared->Prop}(ht:IsTup s.heap t items)(hs:s.heap.IsSliceOf sl vl vu .none)(pl:IsPart vl lo)(pu:IsPart vu hi)
  (hw:¬ (sIx items.size 0 lo=0/\sIx items.size items.size hi=items.size))
  (h:Q (.ref s.heap.objs.size) { s with heap:=s.heap.push { cls:=.type "tuple",data:=.seq ((items.toList.drop (sIx items.size 0 lo)).take (sIx items.size items.size hi-sIx items.size 0 lo)).toArray } })
  (hsz:items.size<=sizeLine):wpAny (model prog w) A (getItem (.ref t) (.ref sl)) Q E s:=by
 have htake:sizeOk (.seq ((items.toList.drop (sIx items.size 0 lo)).take (sIx items.size items.size hi-sIx items.size 0 lo)).toArray):=by
  show ((items.toList.drop (sIx items.size 0 lo)).take (sIx items.size items.size hi-sIx items.size 0 lo)).toArray.size<=sizeLine;rw[Ys,Yu,YE,Array.length_toList];nofun
 have hj:sIx items.size items.size hi<=items.size:=HM _ _ (Yp _) hi;obtain⟨os,hos,hcs,hds⟩:=id hs;have hTs:s.TypeIs (.ref sl) "slice":=⟨os,hos,hcs⟩;unfold getItem
 try with_reducible refine wpAny_holding ?_
 first|refine wpAny_bind (wpAny_pure ?_)|skip
 refine wpAny_bind (wpAny_sequenceKey ht.typeIs ∅ ?_);refine wpAny_bind (wpAny_callSpecial?_slot (name:=Str.ofString "__getitem__") ht.typeIs PyProof.Rows.slot_tuple_getitem
  (wpAny_call_entry PyProof.Rows.slot_tuple_getitem ht.typeIs entry_tuple_getitem ?_ (args_tuple_getitem _ _)))
 show wpAny _ _ (Builtin.Tuple.tupleItemsOf (.ref t) >>= _) _ _ s;refine wpAny_bind (tupleItemsOf_ ht ?_);refine wpAny_bind (wpAny_typeOf hTs ?_);rw[Yb ∅];refine wpAny_bind (mx hs pl pu ?_);have hno:¬ ((((sIx items.size 0 lo:Nat):Int)==0 && (1:Int)==1 && (sIx items.size items.size hi-sIx items.size 0 lo)==items.size)=true):=by
  intro q;rw[YF,YF] at q;have q1:((sIx items.size 0 lo:Nat):Int)=0:=eq_of_beq q.1.1;have q2:sIx items.size items.size hi-sIx items.size 0 lo=items.size:=eq_of_beq q.2;exact hw ⟨(),()⟩
 show wpAny _ _ (if (((sIx items.size 0 lo:Nat):Int)==0 && (1:Int)==1 && (sIx items.size items.size hi-sIx items.size 0 lo)==items.size)=true then _ else _) _ _ s
 rw[Yc hno,AM]
 first
  | exact wpAny_bind (m:=Builtin.Tuple.tupleExact _) (wpAny_newObj_type (wpAny_pure ⟨_,rfl,wpAny_pure h⟩) htake)
  | exact wpAny_bind (m:=Builtin.Tuple.tupleExact _) (wpAny_newObj_type (wpAny_bind (wpAny_pure (wpAny_pure ⟨_,rfl,wpAny_pure h⟩))) htake)
  | exact wpAny_bind (wpAny_bind (m:=Builtin.Tuple.tupleExact _) (wpAny_newObj_type (wpAny_pure (wpAny_pure ⟨_,rfl,wpAny_pure h⟩)) htake))
  | exact wpAny_bind (wpAny_bind (m:=Builtin.Tuple.tupleExact _) (wpAny_newObj_type (wpAny_pure ⟨_,rfl,wpAny_pure h⟩) htake))
end
end HT
namespace L2
open PySem PySem.Spec PyProof.Rows
abbrev TO:=St->Hp->(Option Int->Hp->Prop)->Prop
def PO(X:Cx)(e:Option Expr)(t:TO):Prop :=
 ∀(pins:List (Addr×Obj))(s:Shared)(σ:St)(H:Hp)(Q:Option Int->Hp->Prop),aR X pins σ H s->t σ H Q ->
  wpAny (model X.prog X.w) X.A (evalPart e X.env) (λu s'=>∃o H',aR X pins σ H' s'/\IsPart u o/\Q o H') X.xe s
def tz:TO:=λ_ H Q=>Q none H
def xu(t:TE):TO:=λσ H Q=>t σ H λx H1=>∃i,x=.int i/\Q (some i) H1
section
variable {X:Cx}{e:Expr}{te:TE}{lo hi:Option Expr}{tl th:TO}{pos p2:Pos}
theorem Ev:PO X none tz:=by
 intro pins s σ H Q I h;rw[evalPart_none];exact wpAny_pure ⟨none,H,I,.none,h⟩
theorem Du(h:PE X e te):PO X (some e) (xu te):=by
 intro pins s σ H Q I hw;rw[evalPart_some];refine da (h pins s σ H _ I hw) λu s1 ⟨x,H1,I1,r1,q1⟩=>?_;obtain⟨i,rfl,q⟩:=q1;obtain⟨t,rfl⟩:=r1;exact⟨some i,H1,I1,.int i t,q⟩
def xW(X:Cx)(r:V->Option Int->Option Int->Hp->VK->Prop):Prop :=
 ∀(pins:List (Addr×Obj))(s:Shared)(σ:St)(H:Hp)(x:V)(v vl vu:Value)(lo hi:Option Int)(sl:Addr)(Q:VK),aR X pins σ H s->cy x v->s.heap.IsSliceOf sl vl vu .none->IsPart vl lo->IsPart vu hi->r x lo hi H Q ->
  ∃T id,typeLookup (.type T) "__getitem__" = pure (some (.builtin id))/\s.TypeIs v T/\wpAny (model X.prog X.w) X.A (getItem v (.ref sl)) (EP X pins σ Q) X.xe s
def Kh(r:V->Option Int->Option Int->Hp->VK->Prop)(te:TE)(tl th:TO):TE:=λσ H Q=>te σ H λx H1=>tl σ H1 λl H2=>th σ H2 λu H3=>r x l u H3 Q
theorem De{r:V->Option Int->Option Int->Hp->VK->Prop}(hr:xW X r)(he:PE X e te)(hl:PO X lo tl)(hu:PO X hi th):PE X (.Subscript e (.Slice lo hi none p2) pos) (Kh r te tl th):=by
 intro pins s σ H Q I h;refine Subscript_ (da (he pins s σ H _ I h) λv s1 ⟨x,H1,I1,r1,q1⟩=>?_);refine wpAny_Slice (da (hl pins s1 σ H1 _ I1 q1) λvl s2 ⟨l,H2,I2,pl,q2⟩=>da (hu pins s2 σ H2 _ I2 q2) λvu s3 ⟨u,H3,I3,pu,q3⟩=>?_);rw[evalPart_none];refine wpAny_pure ?_;have I4:aR X pins σ H3 { s3 with heap:=s3.heap.push { cls:=.type "slice",data:=.fields #[vl,vu,.none] } }:=I3.kept (t':=s3.toks) λb ob q=>Heap.get?_push_of_some _ q
 obtain⟨T,id,hT,ht,hg⟩:=hr pins { s3 with heap:=s3.heap.push { cls:=.type "slice",data:=.fields #[vl,vu,.none] } } σ H3 x v vl vu l u s3.heap.objs.size Q I4 r1 (Heap.IsSliceOf.new ..) pl pu q3;show wpAny (model X.prog X.w) X.A (subscriptTail e (.Slice lo hi none p2) v (.ref s3.heap.objs.size)) (EP X pins σ Q) X.xe { s3 with heap:=s3.heap.push { cls:=.type "slice",data:=.fields #[vl,vu,.none] } }
 exact tail_any (ops:=[.ref s3.heap.objs.size,v]) ht hT hg (by with_unfolding_all rfl)
def iE(xs:List V)(lo hi:Option Int):List V:=(xs.drop (HT.sIx xs.length 0 lo)).take (HT.sIx xs.length xs.length hi-HT.sIx xs.length 0 lo)
theorem m9(xs:List V)(lo hi:Option Int):(iE xs lo hi).length<=xs.length:=by
 unfold iE;rw[Yu,YE];nofun
def J7(K:W.Frag):V->Option Int->Option Int->Hp->VK->Prop:=λx lo hi H Q=>∃a xs,x=.ref a/\ug K H a xs /\
 ¬ (HT.sIx xs.length 0 lo=0/\HT.sIx xs.length xs.length hi=xs.length) /\ ∀p,H p=none->Q (.ref p) (upd H p (.tup (iE xs lo hi)))
theorem F6:xW X (J7 X.K):=by
 intro pins s σ H x v vl vu lo hi sl Q I rx hs pl pu h;obtain⟨a,xs,rfl,hx,hw,q⟩:=h;cases rx;obtain⟨its,r,ht,hz⟩:=I.tuple hx;have hlen:its.toArray.size=xs.length:=by rw[Ys];exact r.length.symm
 refine⟨"tuple",_,PyProof.Rows.slot_tuple_getitem.lookup,ht.typeIs,?_⟩;refine HT.getItem_tuple_cut ht hs pl pu (by rw[hlen];exact hw) ?_ (by rw[hlen];exact hz)
 rw[hlen];refine⟨.ref s.heap.objs.size,_,I.laid (t':=s.toks) (o:=.tup (iE xs lo hi)) (λb ob q=>Heap.get?_push_of_some _ q) (Yp _) ?_,rfl,q _ (I.hok.fresh (Yp _))⟩;exact⟨Yg (m9 xs lo hi) hz,_,(r.drop (HT.sIx xs.length 0 lo)).take (HT.sIx xs.length xs.length hi-HT.sIx xs.length 0 lo),IsTup.new _ _⟩
end
def wK(n:Nat)(i:Int):Option Nat:=if 0<=i then (if i<n then some i.toNat else none) else if -(n:Int)<=i then some (i+n).toNat else none
def nN{α:Type}(xs:List α)(i:Int):Option α:=(wK xs.length i).bind λj=>xs[j]?
theorem xI{n:Nat}{i:Int}{j:Nat}(h:wK n i=some j):seqIndex? i n=some j/\j<n /\ -(n:Int)<=i/\i<n:=by
 unfold wK at h;by_cases h0:0<=i
 .rw[Yb h0] at h;by_cases h1:i<n
  .rw[Yb h1] at h;have e:i.toNat=j:=Ym h;exact⟨by rw[seqIndex_of h0 h1,e],(),(),h1⟩
  .rw[Yc h1] at h;cases h
 .rw[Yc h0] at h;by_cases h1 : -(n:Int)<=i
  .rw[Yb h1] at h;have e:(i+n).toNat=j:=Ym h;exact⟨by rw[seqIndex_neg () h1,e],(),h1,()⟩
  .rw[Yc h1] at h;cases h
theorem tu{α:Type}{xs:List α}{i:Int}{v:α}(h:nN xs i=some v):∃j,seqIndex? i xs.length=some j/\xs[j]? = some v/\j<xs.length /\ -(xs.length:Int)<=i/\i<xs.length:=by
 unfold nN at h;cases e:wK xs.length i with
 | none=>rw[e] at h;cases h
 | some j =>
  rw[e] at h;obtain⟨h1,h2,h3,h4⟩:=xI e;exact⟨j,h1,h,h2,h3,h4⟩
theorem ce{α:Type}{xs:List α}{j:Nat}{v:α}(h:xs[j]? = some v):nN xs (j:Int)=some v:=by
 have hj:j<xs.length:=(List.getElem?_eq_some_iff.mp h).1;have e:wK xs.length (j:Int)=some j:=by
  unfold wK;rw[Yb (),Yb ()];simp
 unfold nN;rw[e];exact h
theorem jW{α:Type}(xs:List α)(v:α):nN (xs++[v]) (-1)=some v:=by
 have hl:(xs++[v]).length=xs.length+1:=by simp
 have e:wK (xs++[v]).length (-1)=some xs.length:=by
  unfold wK;rw[hl,Yc ∅,Yb ()];congr 1
  nofun
 unfold nN;rw[e];show (xs++[v])[xs.length]? = some v;simp
def yT(b:Expr):Prop:=∀o i,subscripted b false o i=operate [o,i] (getItem o i)
def yu(X:Cx)(r:R2):Prop :=
 ∀(value slice:Expr)(pins:List (Addr×Obj))(s:Shared)(σ:St)(H:Hp)(x y:V)(v u:Value)(Q:VK),aR X pins σ H s->cy x v->cy y u->r x y H Q ->
  subscripted slice false v u=operate [v,u] (getItem v u)->wpAny (model X.prog X.w) X.A (subscriptTail value slice v u) (EP X pins σ Q) X.xe s
def JR(X:Cx)(id:String)(r:V->List V->Hp->VK->Prop):Prop :=
 ∀(pins:List (Addr×Obj))(s:Shared)(σ:St)(H:Hp)(x:V)(xs:List V)(v:Value)(us:List Value)(Q:VK),aR X pins σ H s->cy x v->bY xs us->r x xs H Q ->
  wpAny (model X.prog X.w) X.A (call (.builtin id) (v::us)) (EP X pins σ Q) X.xe s
section
variable {X:Cx}{a b:Expr}{ta tb:TE}{pos:Pos}
theorem IN{r:R2}(hr:yu X r)(ha:PE X a ta)(hb:PE X b tb)(hs:yT b):PE X (.Subscript a b pos) (EI r ta tb):=by
 intro pins s σ H Q I h;exact Subscript_ (Hr ha hb I h λv u s2 x y H2 I2 rx ry q=>hr a b pins s2 σ H2 x y v u Q I2 rx ry q (hs _ _))
def Jo(K:W.Frag):R2:=λx y H Q=>∃p xs i v,x=.ref p/\y=.int i/\kr K H p xs/\nN xs i=some v/\Q v H
def Jg(K:W.Frag):R2:=λx y H Q=>∃p xs i v,x=.ref p/\y=.int i/\ug K H p xs/\nN xs i=some v/\Q v H
theorem xw:yu X (Jo X.K):=by
 intro value slice pins s σ H x y v u Q I rx ry h hs;obtain⟨p,xs,i,z,rfl,rfl,hq,he,q⟩:=h;cases rx;obtain⟨t,rfl⟩:=ry;obtain⟨its,r,pl,hz⟩:=I.list hq;obtain⟨j,h1,h2,h3,h4,h5⟩:=tu he;obtain⟨w,ew,rw'⟩:=r.get h2;have hl:=r.length;have hn:=mf;have fin:EP X pins σ Q w s:=⟨z,H,I,rw',q⟩;by_cases h0:0<=i
 .have hj:i.toNat=j:=by
   rw[seqIndex_of h0 h5] at h1;exact Ym h1
  exact item_listR pl.isList h0 () (by rw[hj];simpa using ew) fin hs
 .have hj:(i+(its.toArray.size:Int)).toNat=j:=by
   rw[seqIndex_neg () h4] at h1;rw[Ys,<-hl];exact Ym h1
  exact subscriptTail_builtinR (x:=w) pl.isList.typeIs slot_list_getitem.lookup
   (wpAny_getItem_list_neg (Q:=λr s'=>r=w/\EP X pins σ Q r s') pl.isList () (by rw[Ys]<;>nofun) () (by rw[hj];simpa using ew) ⟨rfl,fin⟩) hs
theorem G5:yu X (Jg X.K):=by
 intro value slice pins s σ H x y v u Q I rx ry h hs;obtain⟨p,xs,i,z,rfl,rfl,hq,he,q⟩:=h;cases rx;obtain⟨t,rfl⟩:=ry;obtain⟨its,r,pl,hz⟩:=I.tuple hq;obtain⟨j,h1,h2,h3,h4,h5⟩:=tu he;obtain⟨w,ew,rw'⟩:=r.get h2;have hl:=r.length;have hn:=mf;have fin:EP X pins σ Q w s:=⟨z,H,I,rw',q⟩;exact subscriptTail_builtinR (x:=w) pl.typeIs slot_tuple_getitem.lookup
  (getItem_tuple (j:=j) (Q:=λr s'=>r=w/\EP X pins σ Q r s') pl () () (by rw[Ys,<-hl];exact h1) (by simpa using ew) ⟨rfl,fin⟩) hs
theorem wP(its:List Value)(n j:Nat)(u:Value):Obj.mapSeq (·.setIfInBounds j u) { cls:=.type "list",data:=.seq its.toArray n } = { cls:=.type "list",data:=.seq (its.set j u).toArray n }:=by
 simp[Obj.mapSeq]
theorem aR.lst{pins:List (Addr×Obj)}{σ:St}{H:Hp}{s:Shared}{p:Addr}{xs:List V}(I:aR X pins σ H s)(h:H p=some (.lst xs)) :
  ∃(its:List Value)(n:Nat),bY xs its/\s.heap.get? p=some { cls:=.type "list",data:=.seq its.toArray n } /\ xs.length<=sizeLine:=by
 obtain⟨z,its,n,r,e⟩:=I.hok p _ h;exact⟨its,n,r,e,z⟩
theorem aR.lstUpd{pins:List (Addr×Obj)}{σ:St}{H:Hp}{s:Shared}{p:Addr}{xs ys:List V}{its its':List Value}{n n':Nat}{f:Obj->Obj}(I:aR X pins σ H s)(h:H p=some (.lst xs))
  (ho:s.heap.get? p=some { cls:=.type "list",data:=.seq its.toArray n }) (hf:f { cls:=.type "list",data:=.seq its.toArray n } = { cls:=.type "list",data:=.seq its'.toArray n' }) (r:bY ys its')(hz:ys.length<=sizeLine)(t:Nat) :
  aR X pins σ (upd H p (.lst ys)) { s with heap:=s.heap.update p f,toks:=t }:=by
 have e:(s.heap.update p f).get? p=some { cls:=.type "list",data:=.seq its'.toArray n' }:=by
  rw[Heap.get?_update_self f ho (by rw[hf]<;>rfl),hf]
 refine I.write (x:=p) (e:=p) (by rw[h];trivial) (.inl rfl) (λb u hb q=>(Heap.get?_update_other _ _ (Yk hb)).trans q) ⟨_,e⟩ ?_
 exact⟨hz,its',n',r,e⟩
def Js:V->V->V->Hp->(Hp->Prop)->Prop:=λo i v H Q=>∃p xs k j,o=.ref p/\i=.int k/\H p=some (.lst xs)/\wK xs.length k=some j/\Q (upd H p (.lst (xs.set j v)))
theorem BL:zx X Js:=by
 intro pins s σ H o i v ov iv u Q I ro ri rv h;obtain⟨p,xs,k,j,rfl,rfl,hp,hj,q⟩:=h;cases ro;obtain⟨t,rfl⟩:=ri;obtain⟨its,n,r,ho,hz⟩:=I.lst hp;obtain⟨h1,h2,h3,h4⟩:=xI hj;have hl:=r.length;have hn:=mf;have I':aR X pins σ (upd H p (.lst (xs.set j v))) { s with heap:=s.heap.update p (Obj.mapSeq (·.setIfInBounds j u)) } :=
  I.lstUpd hp ho (wP its n j u) (r.set rv j) (by rw[YG];exact hz) s.toks
 by_cases h0:0<=k
 .have hk:k.toNat=j:=by
   rw[seqIndex_of h0 h4] at h1;exact Ym h1
  exact PySem.W.ki_setAt ho h0 () (by rw[Ys,<-hl];exact h4) (by rw[hk];exact⟨_,I',q⟩)
 .have hk:(k+(its.toArray.size:Int)).toNat=j:=by
   rw[seqIndex_neg () h3] at h1;rw[Ys,<-hl];exact Ym h1
  exact PySem.W.ki_setBack ho () (by rw[Ys,<-hl];exact h3) () (by rw[hk];exact⟨_,I',q⟩)
theorem sZ(lo hi:Option Int)(n:Nat):(sliceBounds lo hi none n).1=((HT.sIx n 0 lo:Nat):Int)/\(sliceBounds lo hi none n).2.1=((HT.sIx n n hi:Nat):Int)/\(sliceBounds lo hi none n).2.2=1:=by
 refine⟨?_,?_,rfl⟩
 .cases lo with
  | none=>simp[sliceBounds,HT.sIx]
  | some i =>
   simp only[sliceBounds,HT.sIx,Option.getD_none,show (1:Int) > 0 by decide,if_true]
   by_cases h:i<0
   .simp only[h,if_true]<;>nofun
   .simp only[h,if_false]<;>nofun
 .cases hi with
  | none=>simp[sliceBounds,HT.sIx]
  | some i =>
   simp only[sliceBounds,HT.sIx,Option.getD_none,show (1:Int) > 0 by decide,if_true]
   by_cases h:i<0
   .simp only[h,if_true]<;>nofun
   .simp only[h,if_false]<;>nofun
theorem qE(its:List Value)(lo hi:Option Int):slicePick its.toArray lo hi none=((its.drop (HT.sIx its.length 0 lo)).take (HT.sIx its.length its.length hi-HT.sIx its.length 0 lo)).toArray:=by
 obtain⟨h1,h2,h3⟩:=sZ lo hi its.toArray.size;unfold slicePick;rw[h1,h2,h3];simp only[sliceRange_one,pick_run,Ys]<;>rfl
def J9(K:W.Frag):V->Option Int->Option Int->Hp->VK->Prop:=λx lo hi H Q=>∃a xs,x=.ref a/\kr K H a xs /\ ∀p,H p=none->Q (.ref p) (upd H p (.lst (iE xs lo hi)))
theorem DM:xW X (J9 X.K):=by
 intro pins s σ H x v vl vu lo hi sl Q I rx hs pl pu h;obtain⟨a,xs,rfl,hx,q⟩:=h;cases rx;obtain⟨its,r,ht,hz⟩:=I.list hx;have hlen:=r.length;refine⟨"list",_,slot_list_getitem.lookup,ht.isList.typeIs,?_⟩;refine wpAny_getItem_list_slice ht.isList hs pl pu .none (by simp) ?_ (by rw[Ys]<;>nofun)
 rw[qE,<-hlen];refine⟨.ref s.heap.objs.size,_,I.laid (t':=s.toks) (o:=.lst (iE xs lo hi)) (λb ob q=>Heap.get?_push_of_some _ q) (Yp _) ?_,rfl,q _ (I.hok.fresh (Yp _))⟩;exact⟨Yg (m9 xs lo hi) hz,_,0,(r.drop (HT.sIx xs.length 0 lo)).take (HT.sIx xs.length xs.length hi-HT.sIx xs.length 0 lo),Heap.get?_push_size _ rfl⟩
def ni:V->Bool
 | .non=>true
 | .bl _=>true
 | .int _=>true
 | .str _=>true
 | _=>false
def DO:V->V->Bool
 | .non,.non=>true
 | .bl a,.bl b=>a==b
 | .bl a,.int b=>(if a then 1 else 0)==b
 | .int a,.bl b=>a==(if b then 1 else 0)
 | .int a,.int b=>a==b
 | .str a,.str b=>a==b
 | _,_=>false
theorem HS{A:Around}{s:Shared}{y x:V}{u v:Value}(ry:cy y u)(rx:cy x v)(fy:ni y=true)(fx:ni x=true):SeqAt.EqAt A s u v (DO y x):=by
 cases y with
 | non =>
  cases ry;cases x with
  | non=>cases rx;exact SeqAt.EqAt.same _
  | bl b=>cases rx;exact SeqAt.EqAt.none_bool b
  | int b=>obtain⟨t,rfl⟩:=rx;exact SeqAt.EqAt.none_int b t
  | str b=>obtain⟨t,rfl⟩:=rx;exact SeqAt.EqAt.none_str b t
  | _=>exact absurd (show false=true from fx) Yo
 | bl a =>
  cases ry;cases x with
  | non=>cases rx;exact SeqAt.EqAt.bool_none a
  | bl b=>cases rx;exact SeqAt.EqAt.bool_bool a b
  | int b=>obtain⟨t,rfl⟩:=rx;exact SeqAt.EqAt.bool_int a b t
  | str b=>obtain⟨t,rfl⟩:=rx;exact SeqAt.EqAt.bool_str a b t
  | _=>exact absurd (show false=true from fx) Yo
 | int a =>
  obtain⟨t',rfl⟩:=ry;cases x with
  | non=>cases rx;exact SeqAt.EqAt.int_none a t'
  | bl b=>cases rx;exact SeqAt.EqAt.int_bool a t' b
  | int b=>obtain⟨t,rfl⟩:=rx;exact SeqAt.EqAt.int_int a t' b t
  | str b=>obtain⟨t,rfl⟩:=rx;exact SeqAt.EqAt.int_str a t' b t
  | _=>exact absurd (show false=true from fx) Yo
 | str a =>
  obtain⟨t',rfl⟩:=ry;cases x with
  | non=>cases rx;exact SeqAt.EqAt.str_none a t'
  | bl b=>cases rx;exact SeqAt.EqAt.str_bool a t' b
  | int b=>obtain⟨t,rfl⟩:=rx;exact SeqAt.EqAt.str_int a t' b t
  | str b=>obtain⟨t,rfl⟩:=rx;exact SeqAt.EqAt.str_str a t' b t
  | _=>exact absurd (show false=true from fx) Yo
 | _=>exact absurd (show false=true from fy) Yo
def DS(x:V)(u:Value):Bool:=match u with
 | .none=>DO .non x
 | .bool b=>DO (.bl b) x
 | .int i _=>DO (.int i) x
 | .str z _=>DO (.str z) x
 | _=>false
theorem Cf{x y:V}{u:Value}(r:cy y u)(f:ni y=true):DS x u=DO y x:=by
 cases y with
 | non=>cases r;rfl
 | bl b=>cases r;rfl
 | int i=>obtain⟨t,rfl⟩:=r;rfl
 | str z=>obtain⟨t,rfl⟩:=r;rfl
 | _=>exact absurd (show false=true from f) Yo
theorem tS{x:V}:∀{xs:List V}{us:List Value},bY xs us->xs.all ni=true->us.any (DS x)=xs.any λy=>DO y x
 | _,_,.nil,_=>rfl
 | y::xs,u::us,.cons r t,f=>by
  rw[List.all_cons,YF] at f;rw[List.any_cons,List.any_cons,Cf r f.1,tS t f.2]
theorem oY{A:Around}{s:Shared}{x:V}{v:Value}(rx:cy x v)(fx:ni x=true):∀{xs:List V}{us:List Value},bY xs us->xs.all ni=true -> ∀u∈us,SeqAt.EqAt A s u v (DS x u)
 | _,_,.nil,_=>λu hu=>by cases hu
 | y::xs,u::us,.cons r t,f=>λu' hu=>by
  rw[List.all_cons,YF] at f;rcases YY.mp hu with rfl|hu
  .rw[Cf r f.1];exact HS r rx f.1 fx
  .exact oY rx fx t f.2 u' hu
def Ag(x:V)(xs:List V):Bool:=xs.any λy=>DO y x
def KD(K:W.Frag)(neg:Bool):R2:=λx y H Q=>∃p xs,y=.ref p/\(kr K H p xs\/ug K H p xs)/\ni x=true/\xs.all ni=true/\Q (.bl (if neg then !Ag x xs else Ag x xs)) H
theorem iX:eO X (compareOp .NotIn) (KD X.K true):=by
 intro pins s σ H x y v u Q I rx ry h;obtain⟨p,xs,rfl,hq,fx,fs,q⟩:=h;cases ry;rcases hq with hq|hq
 .obtain⟨its,r,pl,hz⟩:=I.list hq;refine SeqAt.notIn_listAt (DS x) pl.isList (λw hw=>oY rx fx r fs w (by simpa using hw)) ⟨.bl _,H,I,rfl,?_⟩
  rw[show its.toArray.any (DS x)=its.any (DS x) by simp,tS r fs]
  exact q
 .obtain⟨its,r,pl,hz⟩:=I.tuple hq;refine SeqAt.notIn_tupleAt (DS x) pl (λw hw=>oY rx fx r fs w (by simpa using hw)) ⟨.bl _,H,I,rfl,?_⟩
  rw[show its.toArray.any (DS x)=its.any (DS x) by simp,tS r fs]
  exact q
theorem i0:fQ X (.builtin "len") (λxs H Q=>∃p ys,xs=[.ref p]/\(kr X.K H p ys\/ug X.K H p ys)/\Q (.int ys.length) H):=by
 intro pins s σ H xs us Q I r h;obtain⟨p,ys,rfl,hq,q⟩:=h;obtain⟨u,rfl,rx⟩:=Ci r;cases rx;have hn:=mf;rcases hq with hq|hq
 .obtain⟨its,r',pl,hz⟩:=I.list hq;have hlen:=r'.length;exact Calls.call_len_list pl.isList (by simp only[Ys]<;>nofun) ⟨.int ys.length,H,I.tok _,⟨s.toks+1,by rw[Ys,hlen]⟩,q⟩
 .obtain⟨its,r',pl,hz⟩:=I.tuple hq;have hlen:=r'.length;exact len_tuple pl (by simp only[Ys]<;>nofun) ⟨.int ys.length,H,I.tok _,⟨s.toks+1,by rw[Ys,hlen]⟩,q⟩
theorem rS:fQ X (.type "list") (λxs H Q=>∃p ys,xs=[.ref p]/\(kr X.K H p ys\/ug X.K H p ys) /\ ∀l,H l=none->Q (.ref l) (upd H l (.lst ys))):=by
 intro pins s σ H xs us Q I r h;obtain⟨p,ys,rfl,hq,q⟩:=h;obtain⟨u,rfl,rx⟩:=Ci r;cases rx;have fin:∀(its:List Value),bY ys its->ys.length<=sizeLine -> ∀(h':Heap)(c':Nat),(∀b o',s.heap.get? b=some o'->h'.get? b=some o') ->
   h'.get? s.heap.objs.size=some { cls:=.type "list",dict:=none,data:=.seq its.toArray c',slots:=#[] } -> EP X pins σ Q (.ref s.heap.objs.size) { s with heap:=h' }:=λits r' hz h' c' kp e =>
  ⟨.ref s.heap.objs.size,_,I.laid (t':=s.toks) kp (Yp _) (show fE X.prog X.w _ h' _ (.lst ys) from ⟨hz,its,c',r',e⟩),rfl,q _ (I.hok.fresh (Yp _))⟩
 rcases hq with hq|hq
 .obtain⟨its,r',pl,hz⟩:=I.list hq;have hlen:=r'.length;obtain⟨o,ho,hc,n,hd⟩:=pl.isList;exact call_list_seq p (.inl rfl) ho hc hd (λh' c' kp e=>fin its r' hz h' c' kp e) (by simp only[Ys]<;>nofun)
 .obtain⟨its,r',pl,hz⟩:=I.tuple hq;have hlen:=r'.length;obtain⟨o,ho,hc,n,hd⟩:=pl;exact call_list_seq p (.inr rfl) ho hc hd (λh' c' kp e=>fin its r' hz h' c' kp e) (by simp only[Ys]<;>nofun)
def Iu(K:W.Frag)(T:String)(x:V)(H:Hp):Prop:=match x with
 | .str _=>T = "str"
 | .int _=>T = "int"
 | .ref p=>(T = "list" /\ ∃xs,kr K H p xs)\/(T = "tuple" /\ ∃o,K.lookup p=some o/\o.cls=.type "tuple" /\ o.dict=none) \/
   (T = "dict" /\ ((∃kvs,H p=some (.dK kvs)) \/ ∃kvs,H p=some (.dT kvs)))\/(T = "set" /\ ∃S n,H p=some (.set S n))
 | _=>False
theorem CH{pins:List (Addr×Obj)}{σ:St}{H:Hp}{s:Shared}{T:String}{x:V}{v:Value}(I:aR X pins σ H s)(r:cy x v)(ty:Iu X.K T x H) :
  s.TypeIs v T /\ ∀a,v=.ref a -> ∃ob,s.heap.get? a=some ob/\ob.dict=none:=by
 cases x with
 | str z =>
  obtain⟨t,rfl⟩:=r;cases (show T = "str" from ty)
  exact⟨typeIs_str s z t,λ_ e=>nomatch e⟩
 | int i =>
  obtain⟨t,rfl⟩:=r;cases (show T = "int" from ty)
  exact⟨typeIs_int s i t,λ_ e=>nomatch e⟩
 | ref p =>
  cases r;rcases ty with ⟨rfl,xs,hq⟩|⟨rfl,o,hk,hc,hd⟩|⟨rfl,hk⟩|⟨rfl,S,n,hk⟩
  .obtain⟨its,_,pl,_⟩:=I.list hq;refine⟨pl.isList.typeIs,λa e=>?_⟩;cases e;obtain⟨o,n,e,c,hd,_⟩:=pl;exact⟨o,e,hd⟩
  .refine⟨⟨o,I.kIn p o hk,hc⟩,λa e=>?_⟩;cases e;exact⟨o,I.kIn _ o hk,hd⟩
  .have z:∃o,s.heap.get? p=some o/\o.ExactDict:=by
    rcases hk with ⟨kvs,hk⟩|⟨kvs,hk⟩
    .obtain⟨_,_,_,_,o,_,_,e,ex,_⟩:=I.hok p _ hk;exact⟨o,e,ex⟩
    .obtain⟨_,_,_,_,o,_,_,e,ex,_⟩:=I.hok p _ hk;exact⟨o,e,ex⟩
   obtain⟨o,e,ex⟩:=z;refine⟨⟨o,e,ex.1⟩,λa e2=>?_⟩;cases e2;exact⟨o,e,ex.2.1⟩
  .obtain⟨o,_,_,_,e,ex,_⟩:=I.hok p _ hk;refine⟨⟨o,e,ex.1⟩,λa e2=>?_⟩;cases e2;exact⟨o,e,ex.2.1⟩
 | _=>exact False.elim ty
def Gy(K:W.Frag)(T:String)(r:V->List V->Hp->VK->Prop)(to:TE):TE:=λσ H Q=>to σ H λx H1=>Iu K T x H1/\r x [] H1 Q
def JU(K:W.Frag)(T:String)(r:V->List V->Hp->VK->Prop)(to:TE)(t:TA):TE:=λσ H Q=>to σ H λx H1=>Iu K T x H1/\t σ H1 λxs H2=>r x xs H2 Q
variable {o e:Expr}{es:List Expr}{to:TE}{t:TA}{name:Str}{apos cpos:Pos}{T id:String}{r:V->List V->Hp->VK->Prop}
theorem Gm(pa:PlainAttrs T)(slot:Slot T name id)(hty:typeOf (.builtin id)=pure (.type "method_descriptor")) (hm:JR X id r)(ho:PE X o to)
  (hbase:attributeBase o name X.env (eval o X.env)=eval o X.env:=by rfl)(hline:(apos.endLine==cpos.line)=true:=by rfl):PE X (.Call (.Attribute o name apos) [] [] cpos) (Gy X.K T r to):=by
 intro pins s σ H Q I h;refine wpAny_Call_method0_late hbase hline (da (ho pins s σ H _ I h) λv s1 ⟨x,H1,I1,r1,ty,q1⟩=>?_);obtain⟨h1,h2⟩:=CH I1 r1 ty;exact⟨T,id,pa,slot,hty,h1,h2,Calls.callWith_builtin rfl (PySem.evalArgs_none (hm pins s1 σ H1 x [] v [] Q I1 r1 .nil q1))⟩
theorem IX(pa:PlainAttrs T)(slot:Slot T name id)(hty:typeOf (.builtin id)=pure (.type "method_descriptor")) (hm:JR X id r)(ho:PE X o to)(ha:PA X (e::es) t)
  (hbase:attributeBase o name X.env (eval o X.env)=eval o X.env:=by rfl)
  (hfew:((backTo cpos (starEach (e::es) X.env)).all (λx=>!x.1) && (backToKw cpos (keywordEach [] X.env)).all (λx=>x.1.isSome)
   && decide ((e::es).length+([]:List Keyword).length+(if ([]:List Keyword).isEmpty then 0 else 1)<30))=true:=by rfl)
  (hline:(apos.endLine==cpos.line)=true:=by rfl)(hs:starEach (e::es) X.env=(false,eval e X.env)::starEach es X.env:=by rfl)(hplain:(backTo cpos (starEach es X.env)).any (·.1)=false:=by rfl) :
  PE X (.Call (.Attribute o name apos) (e::es) [] cpos) (JU X.K T r to t):=by
 intro pins s σ H Q I h;refine wpAny_Call_method_late hbase hfew hline rfl (da (ho pins s σ H _ I h) λv s1 ⟨x,H1,I1,r1,ty,q1⟩=>?_);obtain⟨h1,h2⟩:=CH I1 r1 ty;refine⟨T,id,pa,slot,hty,h1,h2,?_⟩;have hA:=ha cpos pins s1 σ H1 _ I1 q1;rw[hs] at hA ⊢;refine Calls.callWith_builtin (by show (false || (backTo cpos (starEach es X.env)).any (·.1))=false;rw[hplain]<;>rfl) (Calls.evalArgs_plain ?_)
 exact da hA λus s2 ⟨vs,H2,I2,r2,q2⟩=>hm pins s2 σ H2 x vs v us Q I2 r1 r2 q2
end
def JL(X:Cx)(id:String)(r:V->List V->Hp->VK->Prop):Prop :=
 ∀(pins:List (Addr×Obj))(s:Shared)(σ:St)(H:Hp)(x:V)(xs:List V)(v:Value)(us:List Value)(Q:VK),aR X pins σ H s->cy x v->bY xs us->r x xs H Q ->
  wpAny (model X.prog X.w) X.A (call (.builtin id) (v::us)) (EP X pins σ Q) X.xe s
theorem bY.one:∀{x:V}{us:List Value},bY [x] us -> ∃u,us=[u]/\cy x u
 | _,_,.cons r .nil=>⟨_,rfl,r⟩
theorem bY.zero:∀{us:List Value},bY [] us->us=[]
 | _,.nil=>rfl
theorem bY.dropLast{xs:List V}{us:List Value}(h:bY xs us):bY xs.dropLast us.dropLast:=by
 induction h with
 | nil=>exact .nil
 | cons r t ih =>
  cases t with
  | nil=>exact .nil
  | cons q t'=>exact .cons r ih
theorem bY.rep{xs:List V}{us:List Value}(h:bY xs us):∀k:Nat,bY (List.replicate k xs).flatten (List.replicate k us).flatten
 | 0=>.nil
 | k+1=>by
  rw[YH,YH,List.flatten_cons,List.flatten_cons];exact bY.append h (bY.rep h k)
theorem vQ{α:Type}(l:List α):l.eraseIdx (l.length-1)=l.dropLast:=by
 induction l with
 | nil=>rfl
 | cons a r ih =>
  cases r with
  | nil=>rfl
  | cons b r =>
   have e:(a::b::r).length-1=((b::r).length-1)+1:=by
    have h1:(a::b::r).length=r.length+2:=rfl;have h2:(b::r).length=r.length+1:=rfl;nofun
   rw[e,List.eraseIdx_cons_succ,ih]
   all_goals rfl
theorem rN(its:List Value):∀(k:Nat)(acc:List Value),
  List.foldl (λx1 x2=>x1++x2) acc.toArray (List.replicate k its.toArray)=(acc++(List.replicate k its).flatten).toArray
 | 0,acc=>by simp
 | k+1,acc=>by
  have e:acc.toArray++its.toArray=(acc++its).toArray:=by simp
  have e2:(acc++its)++(List.replicate k its).flatten=acc++(List.replicate (k+1) its).flatten:=by
   rw[YH,List.flatten_cons,YI]
  rw[<-e2,<-rN its k (acc++its),<-e,YH,List.foldl_cons]
section
variable {X:Cx}{pins:List (Addr×Obj)}{σ:St}{H:Hp}{s:Shared}{l b:Addr}{xs ys zs:List V}
theorem aR.lset{its its':List Value}{n:Nat}{f:Array Value->Array Value}{t':Nat}(I:aR X pins σ H s)(hH:H l=some (.lst xs))
  (e:s.heap.get? l=some { cls:=.type "list",data:=.seq its.toArray n }) (hf:f its.toArray=its'.toArray)(hv:bY ys its')(hz:ys.length<=sizeLine) :
  aR X pins σ (upd H l (.lst ys)) { s with heap:=s.heap.update l (Obj.mapSeq f),toks:=t' }:=by
 have q:=PySem.IsL.update e f;rw[hf] at q;refine I.write (x:=l) (e:=l) (by rw[hH];exact trivial) (.inl rfl) (λb' u hb hu=>(Heap.get?_update_other s.heap (Obj.mapSeq f) (Yk hb)).trans hu) ⟨_,q⟩ ?_
 exact⟨hz,its',_,hv,q⟩
theorem aR.lnew{its:List Value}{t':Nat}(I:aR X pins σ H s)(hv:bY ys its)(hz:ys.length<=sizeLine) :
  aR X pins σ (upd H s.heap.objs.size (.lst ys)) { s with heap:=s.heap.push { cls:=.type "list",data:=.seq its.toArray },toks:=t' } :=
 I.laid (λ_ _ q=>Heap.get?_push_of_some _ q) (Yp _) ⟨hz,its,0,hv,Heap.get?_push_size _ rfl⟩
theorem aR.fresh(I:aR X pins σ H s):H s.heap.objs.size=none:=I.hok.fresh (Yp _)
theorem aR.lstM(I:aR X pins σ H s)(hH:H l=some (.lst xs)):xs.length<=sizeLine /\ ∃(its:List Value)(n:Nat),bY xs its/\xs.length=its.length/\s.heap.get? l=some { cls:=.type "list",data:=.seq its.toArray n }:=by
 obtain⟨z,its,n,r,e⟩:=I.hok l _ hH;exact⟨z,its,n,r,r.length,e⟩
theorem Co{n:Nat}(h:n<=sizeLine):Builtin.List.listTooLong n=false:=by
 unfold Builtin.List.listTooLong;exact Ya ()
end
section
variable {X:Cx}
def Fx:V->List V->Hp->VK->Prop:=λx vs H Q=>∃l xs y,x=.ref l/\vs=[y]/\H l=some (.lst xs)/\xs.length<sizeLine/\Q .non (upd H l (.lst (xs++[y])))
theorem rE:JL X "list.append" Fx:=by
 intro pins s σ H x vs v us Q I rx rv h;obtain⟨l,xs,y,rfl,rfl,hH,hz,q⟩:=h;cases rx;obtain⟨u,rfl,ru⟩:=rv.one;obtain⟨z,its,n,r,hl,e⟩:=I.lstM hH;refine call_meets F.slot_list_append ⟨_,e,rfl⟩ F.entry_list_append (F.args_list_append_2 _ _) (PySem.list_append l its.toArray n u (by rw[Ys];nofun)) ⟨e,?_⟩
 refine⟨.non,_,I.lset (its':=its++[u]) hH e (by simp) (r.append (.cons ru .nil)) ?_,rfl,q⟩
 rw[YB,YJ];nofun
def JX:V->List V->Hp->VK->Prop:=λx vs H Q=>∃l xs y,x=.ref l/\vs=[]/\H l=some (.lst xs)/\xs[xs.length-1]? = some y/\Q y (upd H l (.lst xs.dropLast))
theorem GM:JL X "list.pop" JX:=by
 intro pins s σ H x vs v us Q I rx rv h;obtain⟨l,xs,y,rfl,rfl,hH,hy,q⟩:=h;cases rx;have hus:=rv.zero;subst hus;obtain⟨z,its,n,r,hl,e⟩:=I.lstM hH;obtain⟨u,hu,ru⟩:=r.get hy;have hy':its.toArray[its.toArray.size-1]? = some u:=by
  show its.toArray[its.length-1]? = some u;rw[<-Array.getElem?_toList,<-hl];exact hu
 refine call_meets F.slot_list_pop ⟨_,e,rfl⟩ F.entry_list_pop (F.args_list_pop_1 _) (MeetsSeq.list_pop_last l its.toArray n u hy' (by rw[Ys];nofun)) ⟨e,?_⟩
 refine⟨y,_,I.lset (its':=its.dropLast) hH e ?_ r.dropLast ?_,ru,q⟩
 .show its.toArray.eraseIdxIfInBounds (its.toArray.size-1)=its.dropLast.toArray;rw[Ys,List.eraseIdxIfInBounds_toArray,vQ]
 .rw[List.length_dropLast];nofun
def Ke:R2:=λx y H Q=>∃l b xs zs,x=.ref l/\y=.ref b/\H l=some (.lst xs)/\H b=some (.lst zs)/\xs.length+zs.length<=sizeLine /\ ∀p,H p=none->Q (.ref p) (upd H p (.lst (xs++zs)))
theorem Hg:eO X (binaryOp .Add) Ke:=by
 intro pins s σ H x y v u Q I rx ry h;obtain⟨l,b,xs,zs,rfl,rfl,hH,hB,hz,q⟩:=h;cases rx;cases ry;obtain⟨z,its,n,r,hl,e⟩:=I.lstM hH;obtain⟨z2,its2,n2,r2,hl2,e2⟩:=I.lstM hB;refine PySem.P.add_list e e2 ?_ (by rw[Ys,Ys];nofun)
 have ea:its.toArray++its2.toArray=(its++its2).toArray:=by simp
 rw[ea];exact⟨.ref _,_,I.lnew (t':=s.toks) (r.append r2) (by rw[YB];nofun),rfl,q _ I.fresh⟩
def Kb:R2:=λx y H Q=>∃l k xs,x=.ref l/\y=.int k/\H l=some (.lst xs) /\ -(2^63)<=k/\k<2^63/\xs.length*k.toNat<=sizeLine /\
 ∀p,H p=none->Q (.ref p) (upd H p (.lst (List.replicate k.toNat xs).flatten))
theorem Dr{α:Type}(xs:List α)(k:Nat):(List.replicate k xs).flatten.length=k*xs.length:=by
 induction k with
 | zero=>simp
 | succ k ih=>rw[YH,List.flatten_cons,YB,ih,Nat.succ_mul,Nat.add_comm]
theorem HF:eO X (binaryOp .Mult) Kb:=by
 intro pins s σ H x y v u Q I rx ry h;obtain⟨l,k,xs,rfl,rfl,hH,h1,h2,hz,q⟩:=h;cases rx;obtain⟨t,rfl⟩:=ry;obtain⟨z,its,n,r,hl,e⟩:=I.lstM hH;have hlen:its.toArray.size*k.toNat<=sizeLine:=by rw[Ys,<-hl];exact hz
 have hcap:¬ its.toArray.size*k.toNat > (2^63-1)/8:=by
  have:(sizeLine:Nat)<=(2^63-1)/8:=∅;nofun
 have hfit:¬ (!Builtin.List.listFitsIndex k)=true:=by
  rw[fitsIndex_both h1 h2];exact Yo
 have hlong:¬ Builtin.List.listTooLong (its.toArray.size*k.toNat)=true:=by
  rw[Co hlen];exact Yo
 have hnew:List.foldl (λx1 x2=>x1++x2) #[] (List.replicate (if its.toArray.isEmpty=true then 0 else k.toNat) its.toArray)=(List.replicate k.toNat its).flatten.toArray:=by
  have f0:∀m:Nat,List.foldl (λx1 x2=>x1++x2) #[] (List.replicate m its.toArray)=(List.replicate m its).flatten.toArray:=λm=>by
   have:=rN its m [];rw[List.nil_append] at this;exact this
  rw[f0];cases its with
  | nil=>simp
  | cons a r'=>rw[Yc (by simp)]
 refine wpAny_binaryOp_repeat_ref (T:="list") (U:="int") ∅ ⟨_,e,rfl⟩ (λs'=>typeIs_int s' k t) noFill_list_mul F.fills_int_mul F.slot_int_rmul repeat_list F.slot_int_index.lookup
  (call_meets F.slot_int_rmul (typeIs_int s k t) F.entry_int_rmul (F.args_int_rmul_2 _ _) (int___rmul___int_list k t l its.toArray n)
   ⟨e,rfl,⟨_,e,rfl⟩,call_meets F.slot_list_mul ⟨_,e,rfl⟩ F.entry_list_mul (F.args_list_mul_2 _ _) (AutoListH.list___mul___list_int_3 l its.toArray n k t hfit hcap hlong) ⟨e,?_⟩⟩)
 rw[hnew];exact⟨.ref _,_,I.lnew (t':=s.toks) (r.rep k.toNat) (by rw[Dr,YK];exact hz),rfl,q _ I.fresh⟩
end
end L2
namespace Att
open PySem PySem.W PySem.Calls PyProof.Rows
theorem nQ{P:Params}{h:Heap}:∀(ns:List Int)(vs:List Value),WellAll P h vs (ns.map WData.int)->IntsAre vs ns:=by
 intro ns;induction ns with
 | nil =>
  intro vs w;rw[List.map_nil] at w;cases w;exact .nil
 | cons n ns ih =>
  intro vs w;rw[YL] at w;cases w with
  | cons a b =>
   cases a;exact .cons _ _ (ih _ b)
theorem zc{l:OpenLaw}{n:Nat}(hn:l.most=some n) {P:Params}{h:Heap}{args:List WData}{vals:List Value}
  (hpre:l.row.toRowW.claim.pre args=true)(hwl:WellAll P h vals args) :
  ∃a vs ns,vals=[Value.ref a]/\args=[WData.list (ns.map WData.int)]/\h.get? a=some { cls:=.type "list",data:=.seq vs.toArray } /\ IntsAre vs ns/\ns.length<=n:=by
 have hsh:WShape.hasAll [] args [.list .int]=true:=(pre_splitW hpre).1;have hc:l.pre.holds [] { args:=args } = true:=(pre_splitW hpre).2;obtain⟨d,r,rfl,h1,h2⟩:=hasAllW_cons hsh;obtain rfl:=hasAllW_nil h2;obtain⟨xs,rfl,h3⟩:=hasW_list h1;obtain⟨ns,rfl⟩:=items_int h3;have hlen:ns.length<=n:=by
  unfold OpenLaw.pre at hc;have h4:(WTm.not (.lt (.lit (.int (n:Int))) (.len (.arg 0)))).holds [] { args:=[.list (ns.map .int)] } = true:=by
   have h4:=(holds_andW hc).1;rw[hn] at h4;exact h4
  have h5:=condW_of h4 (w_not (w_lt w_lit (w_len_list (w_arg rfl))));rw[YC] at h5;refine Nat.le_of_not_lt λq=>?_;have q':(n:Int)<((ns.length:Nat):Int):=()
  first
   | (rw[YM q'] at h5;exact absurd h5 ∅)
   | (simp at h5;nofun)
 cases hwl with
 | cons w1 w2 =>
  cases w2;cases w1 with
  | list ho hall=>exact⟨_,_,ns,rfl,rfl,ho,nQ ns _ hall,hlen⟩
theorem zg(l:OpenLaw)(args:List WData):l.row.toRowW.claim.post args (.bool true) args=true :=
 postW_of (r:=l.row.toRowW) (X:=(true==true))
  (show WShape.has [] (.bool true) .bool=true by first|rfl|decide|simp[WShape.has,WShape.arms,WShape.armsAll])
  (show (WTm.eq .res (.lit (.bool true))).value [] { args:=args,res:=some (.bool true),after:=args } = some (.bool (true==true)) from w_eq_bool (w_res rfl) w_lit) rfl
theorem attach_call{l:OpenLaw}{n:Nat}{q:Program}{loose:List Str}{XP:(Str->Option Value)->Heap->Prop}{YP:World->Heap->Prop}{d:DefRec}
  (hn:l.most=some n)(hdf:d.params.defaults=[])
  (call:∀(w:World)(s₀ s₁:Shared)(mg mb:Str->Option Value)(fa:Addr)(o:Obj)(pm cd doc:Value)(a:Addr)(vs:List Value)(ns:List Int),
   Ground q loose [] XP w s₀ mg mb s₁.heap->YP w s₁.heap ->
   s₁.heap.get? fa=some o->o.data=.func (docDef d.name d.params d.body d.scope pm cd doc)->s₁.heap.CodeRec cd d.name->mg d.name=some (.ref fa) ->
   s₁.heap.get? a=some { cls:=.type "list",data:=.seq vs.toArray } -> IntsAre vs ns->ns.length<=n->s₁.gens = #[] ->
   codeAny (model l.prog w) callerA (.call (.ref fa) ⟨[.ref a],[]⟩) (λr s'=>r=.ok (.ret (.bool true))/\OldK s₁.heap s'.heap/\s'.os=s₁.os/\AllBare s'.gens) s₁) :
  WalkO q loose XP YP l.row.toRowW d [] (λf vs=>PySem.call f vs):=by
 intro w s₀ s₁ mg mb G Y fa o pm cd doc dV kV ho hd hcd hD hmg hg args vals as hpre hlay hrd hwl hlo;obtain rfl:dV=.none:=Dflts.none hD hdf;obtain rfl:kV=.none:=Dflts.noKw hD;obtain⟨a,vs,ns,rfl,rfl,hobj,hints,hlen⟩:=zc hn hpre hwl;refine enter_call (codeAny_mono (call w s₀ s₁ mg mb fa o pm cd doc a vs ns G Y ho (fd_plain hd) hcd hmg hobj hints hlen hg) λr s' hq=>?_);obtain⟨rfl,h2,h3,h4⟩:=hq;exact⟨.inl ⟨.bool true,.bool true,[],rfl,λ_=>rfl,.bool true,zg l _,λ_=>⟨List.Pairwise.nil,λ_ hm=>(nomatch hm)⟩⟩,h2,h3,h4⟩
end Att
namespace L2
open PySem PySem.Spec PyProof.Rows
theorem qP:∀{vs:List Value}{ns:List Int},IntsAre vs ns->bY (ns.map V.int) vs
 | _,_,.nil=>.nil
 | _,_,.cons n t h=>.cons ⟨t,rfl⟩ (qP h)
def hJ(s:Stmt):Arguments:=match s with
 | .FunctionDef _ a _ _ _ _ _ _ _ _=>a
 | _=>{ posonlyargs:=[],args:=[],vararg:=none,kwonlyargs:=[],kw_defaults:=[],kwarg:=none,defaults:=[] }
def ge(s:Stmt):List Stmt:=match s with
 | .FunctionDef _ _ b _ _ _ _ _ _ _=>b
 | _=>[]
def ak(s:Stmt):Scope:=match s with
 | .FunctionDef _ _ _ _ _ _ sc _ _ _=>sc
 | _=>{ kind:=.function,names:=[],isGenerator:=false,isCoroutine:=false }
abbrev dC:zn:=λ_ _ _ _ _ _=>False
abbrev E0:XK:=λ_ _ _=>False
theorem IG{X:Cx}:vS dC X E0:=λ_ _ _ _ _ _ _ h=>h.elim
structure dy (K:W.Frag)(x qual:Str)(st:Stmt)(f:Addr)(fd:FuncData):Prop where
 ex:∃(oc:Value)(od:Option Addr)(kV doc pm:Value)(an:Option Addr)(cdv ct:Value)(osl:Array (Option Value)),
  fd=PySem.W.fnOf x qual (hJ st) (ge st) (ak st) .none kV doc pm an cdv ct/\K.lookup f=some ⟨oc,od,.func fd,osl⟩/\PySem.W.codeIn K cdv qual=true
 kp:PySem.W.keepIn K (.ref f)=true
section
variable {P:Program}{w:World}{K:W.Frag}{mg:Str->Option Value}{base:Heap}
theorem dy.ok{x qual:Str}{st:Stmt}{f:Addr}{fd:FuncData}{N ps:List Str}{k:Nat}{sp:Sp}(F:dy K x qual st f fd)(S:aw N ps (ak st))(len:∀vs H Q E,sp vs H Q E->vs.length=ps.length)
  (hbody:∀(cdv:Value)(A:Around)(outer:List Env)(s:Shared)(H:Hp)(vs:List V)(Q:VK)(E:XK),gi k (A.deeper (envOfC qual (ak st) s.heap.objs.size f cdv))->sp vs H Q E ->
   ∃t,vB (sB dC P w K mg base N qual (ak st) f cdv A outer s H E).nox (ge st) t/\t { nx:=λ_ H'=>Q .non H',rt:=Q } (start N vs) H):aV P w K mg base dC (k+1) f fd ps sp:=by
 obtain⟨oc,od,kV,doc,pm,an,cdv,ct,osl,rfl,lk,hcd⟩:=F.ex;refine IJ lk hcd S len λA outer s H vs Q E hr hsp=>?_;obtain⟨t,h,q⟩:=hbody cdv A outer s H vs Q E hr hsp;exact⟨t,h.nox,q⟩
theorem dy.binds{x qual:Str}{st:Stmt}{f:Addr}{fd:FuncData}{ps:List Str}(F:dy K x qual st f fd)
  (h:∀(kV doc pm:Value)(an:Option Addr)(cdv ct:Value)(us:List Value),us.length=ps.length->bindArgs (PySem.W.fnOf x qual (hJ st) (ge st) (ak st) .none kV doc pm an cdv ct) ⟨us,[]⟩=pure (ps.zip us)):rD K fd ps []:=by
 obtain⟨oc,od,kV,doc,pm,an,cdv,ct,osl,rfl,lk,hcd⟩:=F.ex;exact .all (h kV doc pm an cdv ct)
theorem Ca{x qual:Str}{st:Stmt}{f:Addr}{oc:Value}{od an:Option Addr}{osl:Array (Option Value)}{kV doc pm cdv ct:Value}(l:K.lookup f=some ⟨oc,od,.func (PySem.W.fnOf x qual (hJ st) (ge st) (ak st) .none kV doc pm an cdv ct),osl⟩)
  (c:PySem.W.codeIn K cdv qual=true)(k:PySem.W.keepIn K (.ref f)=true):dy K x qual st f (PySem.W.fnOf x qual (hJ st) (ge st) (ak st) .none kV doc pm an cdv ct):=⟨⟨oc,od,kV,doc,pm,an,cdv,ct,osl,rfl,l,c⟩,k⟩
end
section
variable {X:Cx}
theorem pv(i:Nat){x:Str}{pos:Pos}(hN:X.N[i]? = some x:=by rfl)(hv:IV X.env.scope x:=by first|exact Or.inl rfl|exact Or.inr (Or.inl rfl)|exact Or.inr (Or.inr rfl))(hd:(x==("__debug__" : Str))=false:=by decide)
  (hcd:(x==("__classdict__" : Str))=false:=by decide):PE X (.Name x pos) (Ft i):=Gj hN hv hd hcd
end
theorem cz{c A B:Prop} [Decidable c] (h1:c->A)(h2:¬ c->B):if c then A else B:=by
 by_cases h:c
 .rw[Yb h];exact h1 h
 .rw[Yc h];exact h2 h
def aB(H H':Hp):Prop:=∀b o,H b=some o->H' b=some o
theorem aB.trans{H H1 H2:Hp}(a:aB H H1)(b:aB H1 H2):aB H H2:=λc o h=>b c o (a c o h)
theorem aB.free{H H':Hp}(e:aB H H') {l:Addr}(h:H' l=Option.none):H l=Option.none:=by
 cases q:H l with
 | none=>rfl
 | some o =>
  rw[e l o q] at h;cases h
structure cp (P:Program)(w:World)(K:W.Frag)(mg:Str->Option Value)(base:Heap)(x:Str)(ps:List Str)(k:Nat)(sp:Sp):Prop where
 ex:∃f fd,aV P w K mg base dC k f fd ps sp/\mg x=some (.ref f)/\PySem.W.keepIn K (.ref f)=true/\rD K fd ps []
section
variable {X:Cx}{x:Str}{p pos:Pos}{e:Expr}{es:List Expr}{t:TA}{ps:List Str}{k:Nat}{sp:Sp}
def Ho(sp:Sp)(t:TA):TE:=λσ H Q=>t σ H λvs H1=>sp vs H1 Q E0
theorem HD(C:cp X.prog X.w X.K X.mg X.base x ps k sp)(hr:gi k X.A)(hg:Gl X x)(ha:PA X (e::es) t)(hdb:(x==("__debug__" : Str))=false:=by decide)
  (he:starEach (e::es) X.env=(false,eval e X.env)::starEach es X.env:=by rfl)(hpl:(backTo pos (starEach es X.env)).any (·.1)=false:=by rfl) :
  PE X (.Call (.Name x p) (e::es) [] pos) (Ho sp t):=by
 obtain⟨f,fd,F,hm,hk,hb⟩:=C.ex;intro pins s σ H Q I h;refine Dv (E:=E0) (dvs:=[]) F hr hg hm hk hb .nil IG ha hdb he hpl pins s σ H Q I ?_;show t σ H λvs H1=>sp (vs++[]) H1 Q E0;have e:(λ(vs:List V) H1=>sp (vs++[]) H1 Q E0)=λvs H1=>sp vs H1 Q E0:=by
  funext vs H1;rw[List.append_nil]
 rw[e];exact h
end
section
variable {X:Cx}
theorem Eo:eO X (binaryOp .Mult) (rI IntMulOk λi j=>.int (i*j)):=Ji λ_ _ _ _ _ _ _ hc q=>mul_int q hc
def FE(_ j:Int):Prop:=j≠0/\j.natAbs.log2<9000
theorem pZ:eO X (binaryOp .FloorDiv) (rI FE λi j=>.int (i.fdiv j)):=Ji λ_ _ _ _ _ _ _ hc q=>floordiv_int hc.1 q (.inl (PyProof.noPylong_of_log2 hc.2))
theorem gD:eO X (binaryOp .Mod) (rI (λ_ j=>j≠0) λi j=>.int (i.fmod j)):=EW
theorem Da:eO X (compareOp .Is) (λx y H Q=>∃b c,x=.bl b/\y=.bl c/\Q (.bl (b==c)) H):=by
 intro pins s σ H x y v u Q I rx ry h;obtain⟨b,c,rfl,rfl,q⟩:=h;cases rx;cases ry;exact is_bool ⟨.bl _,H,I,rfl,q⟩
end
theorem C5{CX:zn}{P:Program}{w:World}{K:W.Frag}{mg:Str->Option Value}{base:Heap}{N:List Str}{qual:Str}{scope:Scope}{f:Addr}{cd:Value}{A:Around}{outer:List Env}{s:Shared}{H:Hp}{E:XK} :
  (sB CX P w K mg base N qual scope f cd A outer s H E).K=K:=rfl
def zB:List Value->Option (List V)
 | []=>some []
 | u::us=>match Jr u,zB us with
  | some x,some xs=>some (x::xs)
  | _,_=>none
theorem qT:∀{us:List Value}{xs:List V},zB us=some xs->bY xs us
 | [],xs,h=>by cases h;exact .nil
 | u::us,xs,h=>by
  unfold zB at h;split at h
  .rename_i x ys e1 e2
   cases h;refine .cons ?_ (qT e2);cases u<;>first|(cases e1;first|exact rfl|exact⟨_,rfl⟩)|cases e1
  .cases h
def wm(o:Obj):Option HO:=match o.data with
 | .seq its _=>if o.cls=.type "tuple" /\ its.size<=sizeLine then (zB its.toList).map HO.tup else none
 | _=>none
def vw(K:W.Frag)(H:Hp):Hp:=λa=>match K.lookup a with
 | some o=>wm o
 | none=>H a
theorem AX{o:Obj}{u:HO}(h:wm o=some u):∃xs,u=.tup xs:=by
 unfold wm at h;split at h
 .split at h
  .cases e:zB _ with
   | none=>rw[e] at h;cases h
   | some xs=>rw[e] at h;cases h;exact⟨xs,rfl⟩
  .cases h
 .cases h
theorem fm{K:W.Frag}{H:Hp}{a:Addr}(hk:K.lookup a=none):vw K H a=H a:=by
 unfold vw;rw[hk]
theorem dF{K:W.Frag}{H:Hp}{a:Addr}{xs:List V}(h:vw K H a=some (.tup xs)):ug K H a xs:=by
 unfold vw at h;split at h
 .rename_i o ho
  unfold wm at h;split at h
  .rename_i its n hd
   split at h
   .rename_i hc
    cases e:zB its.toList with
    | none=>rw[e] at h;cases h
    | some ys =>
     rw[e] at h;cases h;exact .inr ⟨o,its,n,ho,hc.1,hd,hc.2,qT e⟩
   .cases h
  .cases h
 .exact .of h
theorem t7{K:W.Frag}{H:Hp}{a:Addr}{u:HO}(h:vw K H a=some u)(hu:∀xs,u ≠ .tup xs):H a=some u:=by
 unfold vw at h;split at h
 .obtain⟨xs,rfl⟩:=AX h;exact absurd rfl (hu xs)
 .exact h
theorem aQ{K:W.Frag}{H:Hp}{a:Addr}{xs:List V}(h:vw K H a=some (.lst xs)):H a=some (.lst xs):=t7 h λ_ e=>by cases e
theorem oj{K:W.Frag}{H H':Hp}(S:aB H H'):aB (vw K H) (vw K H'):=λb o e=>by
 unfold vw at e ⊢;split at e
 .exact e
 .exact S _ _ e
def gB(l:Addr)(H H':Hp):Prop:=∀b o,b≠l->H b=some o->H' b=some o
theorem BI{K:W.Frag}{l:Addr}{H H':Hp}(S:gB l H H'):gB l (vw K H) (vw K H'):=λb o hb e=>by
 unfold vw at e ⊢;split at e
 .exact e
 .exact S _ _ hb e
theorem aR.noK{X:Cx}{pins:List (Addr×Obj)}{σ:St}{H:Hp}{s:Shared}{p:Addr}{o:HO}(I:aR X pins σ H s)(h:H p=some o):X.K.lookup p=none:=by
 cases e:X.K.lookup p with
 | none=>rfl
 | some ob =>
  have:=(I.bs p ob (I.mod.kin p ob e)).2;rw[h] at this;cases this
theorem aR.newK{X:Cx}{pins:List (Addr×Obj)}{σ:St}{H:Hp}{s:Shared}{p:Addr}(I:aR X pins σ H s)(hp:s.heap.objs.size<=p):X.K.lookup p=none:=by
 cases e:X.K.lookup p with
 | none=>rfl
 | some o=>exact absurd (Yd (Heap.lt_size (I.kIn p o e)) hp) (Ye _)
def Kf(K:W.Frag)(v:V)(H:Hp):Prop:=∀p o,v=.ref p->H p=some o->K.lookup p=none
section
variable {X:Cx}
theorem eO.kf{f:Value->Value->Sem Value}{r:R2}(h:eO X f r):eO X f (λx y H Q=>r x y H λv H'=>Kf X.K v H'->Q v H'):=λpins s σ H x y v u Q I rx ry q =>
 da (h pins s σ H x y v u _ I rx ry q) λu' s' ⟨v',H',I',r',q'⟩=>⟨v',H',I',r',q' λp o _ hp=>I'.noK hp⟩
theorem fQ.kf{f:Value}{r:List V->Hp->VK->Prop}(h:fQ X f r):fQ X f (λxs H Q=>r xs H λv H'=>Kf X.K v H'->Q v H'):=λpins s σ H xs us Q I rs q =>
 da (h pins s σ H xs us _ I rs q) λu' s' ⟨v',H',I',r',q'⟩=>⟨v',H',I',r',q' λp o _ hp=>I'.noK hp⟩
theorem xW.kf{r:V->Option Int->Option Int->Hp->VK->Prop}(h:xW X r):xW X (λx a b H Q=>r x a b H λv H'=>Kf X.K v H'->Q v H'):=by
 intro pins s σ H x v vl vu lo hi sl Q I rx hs pl pu q;obtain⟨T,id,e1,e2,e3⟩:=h pins s σ H x v vl vu lo hi sl _ I rx hs pl pu q;exact⟨T,id,e1,e2,da e3 λu' s' ⟨v',H',I',r',q'⟩=>⟨v',H',I',r',q' λp o _ hp=>I'.noK hp⟩⟩
end
theorem aB.upd{H:Hp}{p:Addr}{o:HO}(hp:H p=none):aB H (upd H p o):=λb u e=>by
 rw[cJ (ap e hp)];exact e
theorem gB.upd{H:Hp}{l:Addr}{o:HO}:gB l H (upd H l o):=λb u hb e=>by
 rw[cJ hb];exact e
theorem aB.but{H H':Hp}(h:aB H H')(l:Addr):gB l H H':=λb o _ e=>h b o e
theorem gB.trans{l:Addr}{H H1 H2:Hp}(a:gB l H H1)(b:gB l H1 H2):gB l H H2:=λc o hc h=>b c o hc (a c o hc h)
def Dj(H:Hp):V->Option String
 | .non=>some "NoneType"
 | .bl _=>some "bool"
 | .int _=>some "int"
 | .str _=>some "str"
 | .ref a=>match H a with
  | some (.lst _)=>some "list"
  | some (.frz _ (.lst _))=>some "list"
  | some (.tup _)=>some "tuple"
  | some (.dK _)=>some "dict"
  | _=>none
 | _=>none
def fD(n c:String):Bool:=n==c || (n == "bool" && c == "int")
def Im(n:String):Prop:=n = "NoneType" \/ n = "bool" \/ n = "int" \/ n = "str" \/ n = "list" \/ n = "tuple" \/ n = "dict"
def qX(c:String):Prop:=c = "bool" \/ c = "int" \/ c = "list" \/ c = "tuple" \/ c = "str" \/ c = "dict"
theorem fF{K:W.Frag}{n c:String}(hn:Im n)(hc:qX c):PySem.W.kitOne K (.type n) (.type c)=some (fD n c):=by
 rcases hn with rfl|rfl|rfl|rfl|rfl|rfl|rfl<;>rcases hc with rfl|rfl|rfl|rfl|rfl|rfl<;>rfl
section
variable {X:Cx}
theorem cr:fQ X (.builtin "isinstance") (λxs H Q=>∃x c n,xs=[x,.ty c]/\qX c/\Dj (vw X.K H) x=some n/\Q (.bl (fD n c)) H):=by
 intro pins s σ H xs us Q I r h;obtain⟨x,c,n,rfl,hc,hn,q⟩:=h;obtain⟨u,w',rfl,rx,ry⟩:=Ax r;cases ry;have fin:∀tk,EP X pins σ Q (.bool (fD n c)) { s with toks:=tk }:=λtk=>⟨.bl _,H,I.tok tk,rfl,q⟩
 cases x with
 | non=>cases hn;exact fX I rx .non (fF (.inl rfl) hc) fin
 | bl b=>cases hn;exact fX I rx (.bl b) (fF (.inr (.inl rfl)) hc) fin
 | int b=>cases hn;exact fX I rx (.int b) (fF (.inr (.inr (.inl rfl))) hc) fin
 | str b=>cases hn;exact fX I rx (.str b) (fF (.inr (.inr (.inr (.inl rfl)))) hc) fin
 | flt b=>cases hn
 | byt b=>cases hn
 | ty b=>cases hn
 | ref a =>
  unfold Dj at hn;dsimp only at hn;split at hn
  .rename_i e;cases hn;exact fX I rx (.lst (aQ e)) (fF (.inr (.inr (.inr (.inr (.inl rfl))))) hc) fin
  .rename_i e;cases hn;exact fX I rx (.frz (t7 e λ_ z=>by cases z)) (fF (.inr (.inr (.inr (.inr (.inl rfl))))) hc) fin
  .rename_i ys e
   cases hn;cases (show u=Value.ref a from rx)
   obtain⟨its,rv,p,hz⟩:=I.tuple (dF e);obtain⟨o,h1,h2,_⟩:=p;exact Yt PySem.W.kitx_tuple I.kIn ⟨o,h1,h2⟩ (fF (.inr (.inr (.inr (.inr (.inr (.inl rfl)))))) hc) (λz=>nomatch z) fin
  .rename_i e;cases hn;exact fX I rx (.dK (t7 e λ_ z=>by cases z)) (fF (.inr (.inr (.inr (.inr (.inr (.inr rfl)))))) hc) fin
  .cases hn
end
theorem DY:qX "int":=.inr (.inl rfl)
theorem Bh:qX "bool":=.inl rfl
theorem Au:qX "list":=.inr (.inr (.inl rfl))
theorem zS:qX "tuple":=.inr (.inr (.inr (.inl rfl)))
theorem wW:bootBuiltins "abs" = some (.builtin "abs"):=by decide +kernel
theorem aD:bootBuiltins "len" = some (.builtin "len"):=by decide +kernel
theorem bK:bootBuiltins "isinstance" = some (.builtin "isinstance"):=by decide +kernel
theorem wY:bootBuiltins "max" = some (.builtin "max"):=by decide +kernel
theorem BB:bootBuiltins "min" = some (.builtin "min"):=by decide +kernel
theorem Ar:bootBuiltins "int" = some (.type "int"):=by decide +kernel
theorem yr:bootBuiltins "bool" = some (.type "bool"):=by decide +kernel
theorem Ht:bootBuiltins "str" = some (.type "str"):=by decide +kernel
theorem fH:bootBuiltins "list" = some (.type "list"):=by decide +kernel
theorem iS:bootBuiltins "tuple" = some (.type "tuple"):=by decide +kernel
theorem sx:bootBuiltins "enumerate" = some (.type "enumerate"):=by decide +kernel
theorem Gh:bootBuiltins "zip" = some (.type "zip"):=by decide +kernel
section
variable {X:Cx}
theorem yu.imp{r r':R2}(h:yu X r)(hi:∀x y H Q,r' x y H Q->r x y H Q):yu X r':=λv sl pins s σ H x y vv u Q I rx ry q hs=>h v sl pins s σ H x y vv u Q I rx ry (hi _ _ _ _ q) hs
theorem fQ.imp{f:Value}{r r':List V->Hp->VK->Prop}(h:fQ X f r)(hi:∀xs H Q,r' xs H Q->r xs H Q):fQ X f r':=λpins s σ H xs us Q I rs q=>h pins s σ H xs us Q I rs (hi _ _ _ q)
def wp(K:W.Frag):R2:=λx y H Q=>∃p i,x=.ref p/\y=.int i /\ ∃xs,vw K H p=some (.lst xs) /\ ∃v,nN xs i=some v/\Q v H
def E7(K:W.Frag):R2:=λx y H Q=>∃p i,x=.ref p/\y=.int i /\ ∃xs,vw K H p=some (.tup xs) /\ ∃v,nN xs i=some v/\Q v H
theorem cT:yu X (wp X.K):=xw.imp λ_ _ _ _ ⟨p,i,e1,e2,xs,e3,v,e4,q⟩=>⟨p,xs,i,v,e1,e2,.of (aQ e3),e4,q⟩
theorem aS:yu X (E7 X.K):=G5.imp λ_ _ _ _ ⟨p,i,e1,e2,xs,e3,v,e4,q⟩=>⟨p,xs,i,v,e1,e2,dF e3,e4,q⟩
def de(H:Hp)(p:Addr):Option Nat:=match H p with
 | some (.lst xs)=>some xs.length
 | some (.frz _ (.lst xs))=>some xs.length
 | some (.tup xs)=>some xs.length
 | _=>none
theorem ao:fQ X (.builtin "len") (λxs H Q=>∃p,xs=[.ref p] /\ ∃n:Nat,de (vw X.K H) p=some n/\Q (.int n) H):=i0.imp λxs H Q ⟨p,e,n,hn,q⟩=>by
 unfold de at hn;split at hn
 .rename_i ys hp
  cases hn;exact⟨p,ys,e,.inl (.of (aQ hp)),q⟩
 .rename_i o ys hp
  cases hn;exact⟨p,ys,e,.inl (.inl (.inr ⟨o,t7 hp λ_ z=>by cases z⟩)),q⟩
 .rename_i ys hp
  cases hn;exact⟨p,ys,e,.inr (dF hp),q⟩
 .cases hn
def kG(K:W.Frag)(n:Nat)(t:Af):TG:=λv σ H Q=>∃a,v=.ref a /\ ∃xs,vw K H a=some (.tup xs)/\xs.length=n/\t xs σ H Q
theorem DQ{es:List Expr}{k:Nat}{t:Af}{n:Nat}{pos:Pos}(hc:X.calm=true)(h:Iw X es t)
  (hn:(assignEach es X.env).length=n:=by rfl)(hst:(assignEach es X.env).findIdx? (·.1)=none:=by rfl):PG X (.Tuple es k pos) (kG X.K n t) :=
 λpins s σ H v u Q I r ⟨a,e,xs,hx,hl,q⟩=>Gr hc h hn hst pins s σ H v u Q I r ⟨a,xs,e,dF hx,hl,q⟩
theorem cS{α:Type}{x:α}{xs:List α}:nN (x::xs) 0=some x:=ce (j:=0) rfl
theorem cL{α:Type}{x y:α}{xs:List α}:nN (x::y::xs) 1=some y:=ce (j:=1) rfl
theorem BP{α:Type}{x y z:α}{xs:List α}:nN (x::y::z::xs) 2=some z:=ce (j:=2) rfl
theorem sY{α:Type}{xs:List α}{r:Int}(h0:0<=r)(h1:r<xs.length):∃v,nN xs r=some v/\v∈xs:=by
 have h2:r.toNat<xs.length:=();refine⟨xs[r.toNat],?_,YN h2⟩;have e:=ce (xs:=xs) (j:=r.toNat) (v:=xs[r.toNat]) (YO h2);rw[show ((r.toNat:Nat):Int)=r by nofun] at e
 exact e
theorem gB.same_trans{H H1 H2:Hp}{st:Addr}(b:gB st H H1)(s:aB H1 H2):gB st H H2:=b.trans (s.but st)
theorem EY:wK 2 0=some 0:=rfl
theorem Ez{K:W.Frag}{b k:Bool}{H:Hp}:vk K (.bl b) H k=(k=b):=rfl
theorem Am{K:W.Frag}{i:Int}{k:Bool}{H:Hp}:vk K (.int i) H k=(k=(i != 0)):=rfl
theorem yX{i j:Int}(h:0<=j/\j<=1000000/\i.natAbs<2^64):Jk i j:=h
end
def Nw(K:W.Frag)(H:Hp)(o:HO)(Q:VK):Prop:=∀p H2,vw K H p=none->aB (vw K H) (vw K H2)->vw K H2 p=some o->Q (.ref p) H2
theorem Nw.ok{K:W.Frag}{H:Hp}{o:HO}{Q:VK}(h:Nw K H o Q) {p:Addr}(hk:K.lookup p=none)(hp:H p=none):Q (.ref p) (upd H p o) :=
 h p _ (by rw[fm hk];exact hp) (oj (aB.upd hp)) (by rw[fm hk];exact dM)
theorem Nw.al{K:W.Frag}{H:Hp}{o:HO}{Q:VK}(h:Nw K H o Q):∀p,H p=none->Kf K (.ref p) (upd H p o)->Q (.ref p) (upd H p o):=λp hp hk=>h.ok (hk p _ rfl dM) hp
def vx(K:W.Frag)(t:TA):TE:=λσ H Q=>t σ H λxs H1=>xs.length<=sizeLine/\Nw K H1 (.tup xs) Q
def Dd(K:W.Frag)(t:TA):TE:=λσ H Q=>t σ H λxs H1=>xs.length<=sizeLine/\Nw K H1 (.lst xs) Q
def IR(K:W.Frag):TE:=λ_ H Q=>Nw K H (.dK []) Q
section
variable {X:Cx}{es:List Expr}{t:TA}{pos:Pos}
theorem ES {x1}(h:PA X es t):PE X (.Tuple es x1 pos) (vx X.K t):=by
 intro pins s σ H Q I hq;refine wpAny_Tuple_spliced (da (h pos pins s σ H _ I hq) λus s1 ⟨xs,H1,I1,r,z,q⟩=>⟨by rw[<-r.length];exact z,?_⟩)
 have hf:H1 s1.heap.objs.size=none:=I1.hok.fresh (Yp _);refine⟨.ref s1.heap.objs.size,upd H1 s1.heap.objs.size (.tup xs),I1.laid (t':=s1.toks) (λb u e=>Heap.get?_push_of_some _ e) (Yp _) ?_,rfl,q.ok (I1.newK (Yp _)) hf⟩;exact⟨z,us,r,⟨_,Heap.get?_push_size _ rfl,rfl,_,rfl⟩⟩
theorem DW(h:PA X es t):PE X (.List es pos) (Dd X.K t):=by
 intro pins s σ H Q I hq;refine wpAny_List_spliced (da (h pos pins s σ H _ I hq) λus s1 ⟨xs,H1,I1,r,z,q⟩=>⟨by rw[<-r.length];exact z,?_⟩)
 have hf:H1 s1.heap.objs.size=none:=I1.hok.fresh (Yp _);refine⟨.ref s1.heap.objs.size,upd H1 s1.heap.objs.size (.lst xs),I1.laid (t':=s1.toks) (λb u e=>Heap.get?_push_of_some _ e) (Yp _) ?_,rfl,q.ok (I1.newK (Yp _)) hf⟩;exact⟨z,us,0,r,Heap.get?_push_size _ rfl⟩
theorem eO.imp{f:Value->Value->Sem Value}{r r':R2}(h:eO X f r)(hi:∀x y H Q,r' x y H Q->r x y H Q):eO X f r':=λpins s σ H x y v u Q I rx ry q=>h pins s σ H x y v u Q I rx ry (hi _ _ _ _ q)
def xt(K:W.Frag):R2:=λx y H Q=>∃l b,x=.ref l/\y=.ref b /\ ∃xs,vw K H l=some (.lst xs) /\ ∃zs,vw K H b=some (.lst zs)/\xs.length+zs.length<=sizeLine/\Nw K H (.lst (xs++zs)) Q
theorem Ex:eO X (binaryOp .Add) (xt X.K):=Hg.kf.imp λ_ _ _ _ ⟨l,b,e1,e2,xs,h1,zs,h2,z,q⟩=>⟨l,b,xs,zs,e1,e2,aQ h1,aQ h2,z,q.al⟩
def yU(K:W.Frag):R2:=λx y H Q=>∃l k,x=.ref l/\y=.int k /\ ∃xs,vw K H l=some (.lst xs) /\ -(2^63)<=k/\k<2^63/\xs.length*k.toNat<=sizeLine/\Nw K H (.lst (List.replicate k.toNat xs).flatten) Q
theorem Fo:eO X (binaryOp .Mult) (yU X.K):=HF.kf.imp λ_ _ _ _ ⟨l,k,e1,e2,xs,h1,z1,z2,z3,q⟩=>⟨l,k,xs,e1,e2,aQ h1,z1,z2,z3,q.al⟩
def ic(K:W.Frag):R2:=λx y H Q=>rI IntMulOk (λi j=>.int (i*j)) x y H Q\/yU K x y H Q
def gZ(K:W.Frag):R2:=λx y H Q=>xT (λi j=>.int (i+j)) x y H Q\/xt K x y H Q
theorem aM:eO X (binaryOp .Mult) (ic X.K):=Eo.or Fo
theorem aW:eO X (binaryOp .Add) (gZ X.K):=HV.or Ex
theorem gH{K:W.Frag}{i j:Int}{H:Hp}{Q:VK}:ic K (.int i) (.int j) H Q=(IntMulOk i j/\Q (.int (i*j)) H):=by
 simp[ic,rI,yU]
theorem gI{K:W.Frag}{l:Addr}{j:Int}{H:Hp}{Q:VK}:ic K (.ref l) (.int j) H Q = ∃xs,vw K H l=some (.lst xs) /\ -(2^63)<=j/\j<2^63/\xs.length*j.toNat<=sizeLine/\Nw K H (.lst (List.replicate j.toNat xs).flatten) Q:=by
 simp[ic,rI,yU]
theorem mr{K:W.Frag}{i j:Int}{H:Hp}{Q:VK}:gZ K (.int i) (.int j) H Q=Q (.int (i+j)) H:=by
 simp[gZ,xT,xt]
theorem fB{K:W.Frag}{l b:Addr}{H:Hp}{Q:VK}:gZ K (.ref l) (.ref b) H Q = ∃xs,vw K H l=some (.lst xs) /\ ∃zs,vw K H b=some (.lst zs)/\xs.length+zs.length<=sizeLine/\Nw K H (.lst (xs++zs)) Q:=by
 simp[gZ,xT,xt]
theorem dL:fQ X (.type "list") (λxs H Q=>∃p,xs=[.ref p] /\ ∃ys,vw X.K H p=some (.lst ys)/\Nw X.K H (.lst ys) Q):=rS.kf.imp λ_ _ _ ⟨p,e,ys,h,q⟩=>⟨p,ys,e,.inl (.of (aQ h)),q.al⟩
theorem xW.imp{r r':V->Option Int->Option Int->Hp->VK->Prop}(h:xW X r)(hi:∀x a b H Q,r' x a b H Q->r x a b H Q):xW X r':=by
 intro value p2 pins s σ H x lo hi' v vl vh sl Q
 intros
 apply h<;>first|assumption|(apply hi;assumption)
def D5(K:W.Frag):V->Option Int->Option Int->Hp->VK->Prop:=λx lo hi H Q=>∃a,x=.ref a /\ ∃xs,vw K H a=some (.lst xs)/\Nw K H (.lst (iE xs lo hi)) Q
theorem eJ:xW X (D5 X.K):=DM.kf.imp λ_ _ _ _ _ ⟨a,e,xs,h,q⟩=>⟨a,xs,e,.of (aQ h),q.al⟩
def FZ(K:W.Frag)(H:Hp)(l:Addr)(o:HO)(Q:Hp->Prop):Prop:=∀H2,gB l (vw K H) (vw K H2)->vw K H2 l=some o->Q H2
theorem FZ.ok{K:W.Frag}{H:Hp}{l:Addr}{o:HO}{Q:Hp->Prop}(h:FZ K H l o Q)(hk:K.lookup l=none):Q (upd H l o):=h _ (BI gB.upd) (by rw[fm hk];exact dM)
def C4(K:W.Frag):V->V->V->Hp->(Hp->Prop)->Prop:=λo i v H Q=>∃p k,o=.ref p/\i=.int k /\ ∃xs,vw K H p=some (.lst xs) /\ ∃j,wK xs.length k=some j/\FZ K H p (.lst (xs.set j v)) Q
theorem dP:zx X (C4 X.K):=λpins s σ H o i v ov iv u Q I ro ri rv ⟨p,k,e1,e2,xs,h,j,e3,q⟩=>BL pins s σ H o i v ov iv u Q I ro ri rv ⟨p,xs,k,j,e1,e2,aQ h,e3,q.ok (I.noK (aQ h))⟩
def CG(K:W.Frag):V->List V->Hp->VK->Prop:=λx vs H Q=>∃l y,x=.ref l/\vs=[y] /\ ∃xs,vw K H l=some (.lst xs)/\xs.length<sizeLine/\FZ K H l (.lst (xs++[y])) (Q .non)
theorem fe:JL X "list.append" (CG X.K):=λpins s σ H x vs v us Q I rx rv ⟨l,y,e1,e2,xs,h,z,q⟩=>rE pins s σ H x vs v us Q I rx rv ⟨l,xs,y,e1,e2,aQ h,z,q.ok (I.noK (aQ h))⟩
def FX(K:W.Frag):V->List V->Hp->VK->Prop:=λx vs H Q=>∃l,x=.ref l/\vs=[] /\ ∃xs,vw K H l=some (.lst xs) /\ ∃y,xs[xs.length-1]? = some y/\FZ K H l (.lst xs.dropLast) (Q y)
theorem D3:JL X "list.pop" (FX X.K):=λpins s σ H x vs v us Q I rx rv ⟨l,e1,e2,xs,h,y,e3,q⟩=>GM pins s σ H x vs v us Q I rx rv ⟨l,xs,y,e1,e2,aQ h,e3,q.ok (I.noK (aQ h))⟩
end
def ye(J:It)(g:TG)(tb:TS)(D:nI)(σ:St)(H1:Hp):Prop:=∃W:Nat->Nat->St->Hp->Prop,(∃m,W 0 m σ H1) /\ ∀i m σ H,W i m σ H ->
 (J.stop i H/\D.nx σ H)\/(J.go i H /\ ∃N:St->Hp->Prop,(∀σ' H',N σ' H' -> ∃m',m'<m/\W (i+1) m' σ' H') /\ ∀x H',J.yld i H x H'->g x σ H' λσ2 H2=>tb { D with nx:=N,ct:=N,bk:=D.nx } σ2 H2)
theorem Et(wi:TI)(g:TG)(tb:TS)(D:nI)(σ:St)(H:Hp):Ip wi g tb D σ H=wi σ H λJ H1=>ye J g tb D σ H1:=rfl
inductive D where
 | non|bl (b:Bool)|int (i:Int)|str (x:Str)|dict|tup (ds:List D)|lst (ds:List D)
mutual
def aI(H:Hp):D->V->Prop
 | .non,v=>v=.non
 | .bl b,v=>v=.bl b
 | .int i,v=>v=.int i
 | .str x,v=>v=.str x
 | .dict,v=>∃a kvs,v=.ref a/\H a=some (.dK kvs)
 | .tup ds,v=>∃a xs,v=.ref a/\H a=some (.tup xs)/\aN H ds xs
 | .lst ds,v=>∃a xs,v=.ref a/\H a=some (.lst xs)/\aN H ds xs
def aN(H:Hp):List D->List V->Prop
 | [],xs=>xs=[]
 | d::ds,xs=>∃x r,xs=x::r/\aI H d x/\aN H ds r
end
mutual
theorem aI.same{H H':Hp}(S:aB H H'):∀(d:D)(v:V),aI H d v->aI H' d v
 | .non,v,h=>by unfold aI at h ⊢;exact h
 | .bl b,v,h=>by unfold aI at h ⊢;exact h
 | .int i,v,h=>by unfold aI at h ⊢;exact h
 | .str x,v,h=>by unfold aI at h ⊢;exact h
 | .dict,v,h=>by
  unfold aI at h ⊢;obtain⟨a,kvs,e,h⟩:=h;exact⟨a,kvs,e,S _ _ h⟩
 | .tup ds,v,h=>by
  unfold aI at h ⊢;obtain⟨a,xs,e,h,r⟩:=h;exact⟨a,xs,e,S _ _ h,aN.same S ds xs r⟩
 | .lst ds,v,h=>by
  unfold aI at h ⊢;obtain⟨a,xs,e,h,r⟩:=h;exact⟨a,xs,e,S _ _ h,aN.same S ds xs r⟩
theorem aN.same{H H':Hp}(S:aB H H'):∀(ds:List D)(xs:List V),aN H ds xs->aN H' ds xs
 | [],xs,h=>by unfold aN at h ⊢;exact h
 | d::ds,xs,h=>by
  unfold aN at h ⊢;obtain⟨x,r,e,h1,h2⟩:=h;exact⟨x,r,e,aI.same S d x h1,aN.same S ds r h2⟩
end
theorem aN.get{H:Hp}:∀{ds:List D}{xs:List V}{i:Nat}{x:V},aN H ds xs->xs[i]? = some x -> ∃d,ds[i]? = some d/\aI H d x
 | [],xs,i,x,h,e=>by
  unfold aN at h;subst h;simp at e
 | d::ds,xs,i,x,h,e=>by
  unfold aN at h;obtain⟨y,r,rfl,h1,h2⟩:=h;cases i with
  | zero =>
   have e':y=x:=by simpa using e
   subst e';exact⟨d,by simp,h1⟩
  | succ i =>
   obtain⟨d',e1,e2⟩:=aN.get (i:=i) h2 (by simpa using e)
   exact⟨d',by simpa using e1,e2⟩
theorem aN.length{H:Hp}:∀{ds:List D}{xs:List V},aN H ds xs->xs.length=ds.length
 | [],xs,h=>by
  unfold aN at h;subst h;rfl
 | d::ds,xs,h=>by
  unfold aN at h;obtain⟨y,r,rfl,_,h2⟩:=h;simp[aN.length h2]
def D.ty:D->String
 | .non=>"NoneType" | .bl _=>"bool" | .int _=>"int" | .str _=>"str" | .dict=>"dict" | .tup _=>"tuple" | .lst _=>"list"
theorem aI.ty{H:Hp}{d:D}{v:V}(h:aI H d v):Dj H v=some d.ty:=by
 cases d<;>unfold aI at h
 .subst h;rfl
 .subst h;rfl
 .subst h;rfl
 .subst h;rfl
 .obtain⟨a,kvs,rfl,h⟩:=h;simp only[Dj,h,D.ty]
 .obtain⟨a,xs,rfl,h,_⟩:=h;simp only[Dj,h,D.ty]
 .obtain⟨a,xs,rfl,h,_⟩:=h;simp only[Dj,h,D.ty]
theorem vm(a b:Int):Int.gcd b (a.fmod b)=Int.gcd a b:=by
 rw[Int.fmod_def,Int.gcd_comm a b];have:a-b*a.fdiv b=a+b*(- a.fdiv b):=by rw[Int.mul_neg];nofun
 rw[this];simp
theorem y8(a:Int){b:Int}(hb:b≠0):(a.fmod b).natAbs<b.natAbs:=by
 rcases Int.lt_or_gt_of_ne hb with h|h
 .obtain⟨n,rfl⟩ : ∃n:Nat,b=Int.negSucc n:=⟨(-b-1).toNat,()⟩;cases a with
  | ofNat m =>
   cases m with
   | zero=>simp[Int.fmod]
   | succ m =>
    show (Int.subNatNat (m%(n+1)) n).natAbs<n+1;have:=Nat.mod_lt m (show 0<n+1 by nofun)
    rw[Int.subNatNat_eq_coe];generalize m%(n+1)=z at *
    nofun
  | negSucc m =>
   show (-((((m+1)%(n+1):Nat)):Int)).natAbs<n+1;have:=Nat.mod_lt (m+1) (show 0<n+1 by nofun)
   generalize (m+1)%(n+1)=z at *
   nofun
 .have h1:=YQ a h;have h2:=YR a h;nofun
def lg(a b:Int):Int:=if b<0 then -(Int.gcd a b:Int) else (Int.gcd a b:Int)
def lo(a b:Int):Int×Int:=(a.fdiv (lg a b),b.fdiv (lg a b))
def fr(q:Int×Int):D:=.tup [.int q.1,.int q.2]
def Fq(q:Int×Int):Prop:=0<q.2/\Int.gcd q.1 q.2=1
theorem BE{a b:Int}(hb:b≠0):lg a b≠0:=by
 have h:Int.gcd a b≠0:=λe=>hb (Int.gcd_eq_zero_iff.mp e).2;unfold lg;split<;>nofun
theorem uO(a b:Int):lg a b∣a:=by
 unfold lg;split
 .exact Int.neg_dvd.mpr (Int.gcd_dvd_left ..)
 .exact Int.gcd_dvd_left ..
theorem ue(a b:Int):lg a b∣b:=by
 unfold lg;split
 .exact Int.neg_dvd.mpr (Int.gcd_dvd_right ..)
 .exact Int.gcd_dvd_right ..
theorem fA{a b:Int}(hb:b≠0):(lo a b).1*lg a b=a:=by
 show a.fdiv (lg a b)*lg a b=a;exact Int.fdiv_mul_cancel (uO a b)
theorem fI{a b:Int}(hb:b≠0):(lo a b).2*lg a b=b:=by
 show b.fdiv (lg a b)*lg a b=b;exact Int.fdiv_mul_cancel (ue a b)
theorem zi(a b:Int):(lg a b).natAbs=Int.gcd a b:=by
 unfold lg;split<;>nofun
theorem iH{a b:Int}(hb:b≠0):Fq (lo a b):=by
 have h1:=fA (a:=a) hb;have h2:=fI (a:=a) hb;have hg:0<Int.gcd a b:=Nat.pos_of_ne_zero λe=>hb (Int.gcd_eq_zero_iff.mp e).2;constructor
 .by_cases hn:b<0
  .have e:lg a b = -(Int.gcd a b:Int):=Yb hn;rw[e] at h2;rcases Int.lt_trichotomy (lo a b).2 0 with h|h|h
   .have:=Int.mul_nonneg_of_nonpos_of_nonpos (YS h) (show -(Int.gcd a b:Int)<=0 by nofun)
    nofun
   .rw[h] at h2;nofun
   .exact h
  .have e:lg a b=(Int.gcd a b:Int):=Yc hn;rw[e] at h2;rcases Int.lt_trichotomy (lo a b).2 0 with h|h|h
   .have:=Int.mul_nonpos_of_nonpos_of_nonneg (YS h) (show 0<=(Int.gcd a b:Int) by nofun)
    nofun
   .rw[h] at h2;nofun
   .exact h
 .have e:Int.gcd ((lo a b).1*lg a b) ((lo a b).2*lg a b)=Int.gcd (lo a b).1 (lo a b).2*(lg a b).natAbs:=Int.gcd_mul_right ..;rw[h1,h2,zi] at e;have:1*Int.gcd a b=Int.gcd (lo a b).1 (lo a b).2*Int.gcd a b:=();exact (Nat.eq_of_mul_eq_mul_right hg this).symm
mutual
def D.noSt:D->Bool
 | .lst [.int _,.bl _]=>false
 | .lst ds=>D.noSts ds
 | .tup ds=>D.noSts ds
 | _=>true
def D.noSts:List D->Bool
 | []=>true
 | d::ds=>d.noSt && D.noSts ds
end
def ga(H:Hp)(st:Addr):Prop:=∃x b,H st=some (.lst [.int x,.bl b])/\(b=false->0<=x/\x<2147483647)
theorem aI.lst_st{H:Hp}{ds:List D}{x:Int}{b:Bool}(h:aN H ds [.int x,.bl b]):ds=[.int x,.bl b]:=by
 match ds with
 | []=>unfold aN at h;cases h
 | [d] =>
  unfold aN at h;obtain⟨_,_,e,_,h⟩:=h;unfold aN at h;subst h;cases e
 | d1::d2::d3::r =>
  have:=aN.length h;simp at this
 | [d1,d2] =>
  unfold aN at h;obtain⟨_,_,e,h1,h⟩:=h;cases e;unfold aN at h;obtain⟨_,_,e,h2,h⟩:=h;cases e;have e1:d1=.int x:=by
   cases d1<;>unfold aI at h1<;>first|(cases h1;rfl)|(obtain⟨_,_,e,_⟩:=h1;cases e)|cases h1
  have e2:d2=.bl b:=by
   cases d2<;>unfold aI at h2<;>first|(cases h2;rfl)|(obtain⟨_,_,e,_⟩:=h2;cases e)|cases h2
  rw[e1,e2]
theorem ga.same{H H':Hp}{st:Addr}(h:ga H st)(S:aB H H'):ga H' st:=by
 obtain⟨x,b,e,k⟩:=h;exact⟨x,b,S _ _ e,k⟩
theorem ga.ne{H:Hp}{st p:Addr}(h:ga H st)(hp:H p=none):p≠st:=by
 obtain⟨x,b,e,k⟩:=h;exact (ap e hp).symm
def D.isInt:D->Bool
 | .int _=>true
 | _=>false
def D.frac:D->Bool
 | .tup [.int t,.int b]=>decide (0<b) && decide (Int.gcd t b=1)
 | _=>false
theorem frac_fr{q:Int×Int}(h:Fq q):(fr q).frac=true:=by
 simp[fr,D.frac,h.1,h.2]
theorem aI.tup_at{H:Hp}{ds:List D}{v:V}(h:aI H (.tup ds) v):∃a xs,v=.ref a/\H a=some (.tup xs)/\aN H ds xs:=by
 unfold aI at h;exact h
theorem aI.lst_at{H:Hp}{ds:List D}{v:V}(h:aI H (.lst ds) v):∃a xs,v=.ref a/\H a=some (.lst xs)/\aN H ds xs:=by
 unfold aI at h;exact h
theorem aN.nil_at{H:Hp}{xs:List V}(h:aN H [] xs):xs=[]:=by
 unfold aN at h;exact h
theorem aN.cons_at{H:Hp}{d:D}{ds:List D}{xs:List V}(h:aN H (d::ds) xs):∃x r,xs=x::r/\aI H d x/\aN H ds r:=by
 unfold aN at h;exact h
theorem aI.int_at{H:Hp}{i:Int}{v:V}(h:aI H (.int i) v):v=.int i:=by
 unfold aI at h;exact h
theorem aN.pair{H:Hp}{ds:List D}{xs:List V}(h:aN H ds xs)(hl:xs.length=2):∃d1 d2 x1 x2,ds=[d1,d2]/\xs=[x1,x2]/\aI H d1 x1/\aI H d2 x2:=by
 have e:=h.length;match ds,e with
 | [],e=>rw[hl] at e;cases e
 | [_],e=>rw[hl] at e;cases e
 | _::_::_::_,e=>rw[hl] at e;cases e
 | [d1,d2],_ =>
  obtain⟨x1,r,rfl,h1,h⟩:=h.cons_at;obtain⟨x2,r,rfl,h2,h⟩:=h.cons_at;cases h.nil_at;exact⟨_,_,_,_,rfl,rfl,h1,h2⟩
theorem aI.mk_int{H:Hp}(i:Int):aI H (.int i) (.int i):=by unfold aI;rfl
theorem aI.mk_str{H:Hp}(i:Str):aI H (.str i) (.str i):=by unfold aI;rfl
theorem aN.mk_nil{H:Hp}:aN H [] []:=by unfold aN;rfl
theorem aN.mk_cons{H:Hp}{d:D}{ds:List D}{x:V}{xs:List V}(h1:aI H d x)(h2:aN H ds xs):aN H (d::ds) (x::xs):=by unfold aN;exact⟨_,_,rfl,h1,h2⟩
theorem aI.mk_tup{H:Hp}{a:Addr}{ds:List D}{xs:List V}(h:H a=some (.tup xs))(r:aN H ds xs):aI H (.tup ds) (.ref a):=by unfold aI;exact⟨_,_,rfl,h,r⟩
theorem aI.mk_lst{H:Hp}{a:Addr}{ds:List D}{xs:List V}(h:H a=some (.lst xs))(r:aN H ds xs):aI H (.lst ds) (.ref a):=by unfold aI;exact⟨_,_,rfl,h,r⟩
theorem aI.fr_at{H:Hp}{q:Int×Int}{v:V}(h:aI H (fr q) v):∃a,v=.ref a/\H a=some (.tup [.int q.1,.int q.2]):=by
 obtain⟨a,xs,e,ha,r⟩:=h.tup_at;obtain⟨x1,r1,rfl,h1,r⟩:=r.cons_at;obtain⟨x2,r2,rfl,h2,r⟩:=r.cons_at;cases r.nil_at;rw[h1.int_at,h2.int_at] at ha;exact⟨a,e,ha⟩
theorem D.frac_tup{ds:List D}(h:(D.tup ds).frac=true):∃a b,ds=[.int a,.int b]/\Fq (a,b):=by
 unfold D.frac at h;split at h
 .rename_i t b e
  cases e;simp at h;exact⟨_,_,rfl,h.1,h.2⟩
 .cases h
abbrev Bt (n:Nat)(x:Int):Prop:=x.natAbs<2^n
theorem Bt.ib{n:Nat}{x:Int}(h:Bt n x):Builtin.Int.intBits x<=n:=by
 unfold Builtin.Int.intBits;split
 .exact YT _
 .rename_i h0
  have h1:x.natAbs≠0:=by
   intro e;apply h0
   have:x=0:=();rw[this];rfl
  have:=(Nat.log2_lt h1).mpr h;nofun
theorem cg{m n:Nat}{x y:Int}(hx:Bt m x)(hy:Bt n y)(h:m+n<=134217728:=by decide):IntMulOk x y:=PySem.IntMulOk.of_le hx.ib hy.ib h
theorem Bt.mono{m n:Nat}{x:Int}(hx:Bt m x)(h:m<=n):Bt n x:=Yd hx (YU ∅ h)
theorem Bt.mul{m n:Nat}{x y:Int}(hx:Bt m x)(hy:Bt n y):Bt (m+n) (x*y):=by
 unfold Bt;rw[YV,YW];exact Nat.mul_lt_mul'' hx hy
theorem Bt.add{m n:Nat}{x y:Int}(hx:Bt m x)(hy:Bt n y):Bt (max m n+1) (x+y):=by
 have h1:=hx.mono (Nat.le_max_left m n);have h2:=hy.mono (Nat.le_max_right m n);unfold Bt at *
 rw[Nat.pow_succ];have:=Int.natAbs_add_le x y;nofun
theorem GI{x y:Int}(h:y≠0)(hb:Bt 9000 y):FE x y:=⟨h,by
 by_cases h0:y.natAbs=0
 .rw[h0];decide +kernel
 .exact (Nat.log2_lt h0).mpr hb⟩
theorem yc{x k:Int}{n:Nat}(hk:0<k)(h:k.natAbs<=2^n):Bt n (x.fmod k):=by
 have h1:=YQ x hk;have h2:=YR x hk;unfold Bt;nofun
theorem gY{x y:Int}(hx:Bt 64 x):IntMulOk x y:=.of_left hx.ib
theorem Fa{x y:Int}(hy:Bt 64 y):IntMulOk x y:=.of_right hy.ib
end L2
namespace L2
theorem gW{c A B:Prop} [Decidable c] (hc:c)(h:A):if c then A else B:=by rw[Yb hc];exact h
theorem dD{c A B:Prop} [Decidable c] (hc:¬ c)(h:B):if c then A else B:=by rw[Yc hc];exact h
end L2
namespace L2
theorem D.isInt_of{d:D}(h:¬ d.isInt=false):∃i,d=.int i:=by
 cases d<;>first|exact⟨_,rfl⟩|exact absurd rfl h
theorem yd{t b:Int}(h:b<1):(D.tup [.int t,.int b]).frac=false:=by
 simp only[D.frac,Ya (show ¬ (0:Int)<b by nofun),Bool.false_and]
theorem yh{t b:Int}(h:0<b):(D.tup [.int t,.int b]).frac=decide (((Int.gcd t b:Nat):Int)=1):=by
 simp only[D.frac,YM h,Bool.true_and];apply decide_eq_decide.mpr
 nofun
end L2
namespace L2
open PySem
def D.len:D->Nat
 | .lst ds=>ds.length
 | _=>0
mutual
def D.ib:D->Bool
 | .int i=>decide (i.natAbs<2^200)
 | .tup ds=>D.ibs ds
 | .lst ds=>D.ibs ds
 | _=>true
def D.ibs:List D->Bool
 | []=>true
 | d::ds=>d.ib && D.ibs ds
end
end L2
namespace L2
open PySem PySem.Spec PyProof.Rows
section
variable {prog:Program}{w:World}{A:Around}{R:Result->Shared->Prop}{s:Shared}
theorem sk{elt target iter:Expr}{ifs:List Expr}{scope:Scope}{pos:Pos}{it acc:Value}{env:Env}{EE:Value->Shared->Prop}(hEE:EE=notedBy (model prog w) A env λe s'=>R (.error e) s')(Iv:Nat->Shared->Prop)
  (turn:∀n s,Iv n s->wpAny (model prog w) A (pyNext it) (λr s1=>match r with
   | none=>R (.ok .next) s1
   | some v=>wpAny (model prog w) A (letOwnedTupleGo target it v) (λ_ s2=>wpAny (model prog w) A (assign target env v) (λ_ s3 =>
     wpAny (model prog w) A (forIn ifs true λc r=>if r=true then do let ok <-isTrue c env (eval c env);pure (ForInStep.yield ok) else pure (ForInStep.yield r)) (λok s4 =>
      if ok=true then wpAny (model prog w) A (eval elt env) (λx s5=>wpAny (model prog w) A (call (.builtin "list.append") [acc,x]) (λ_ s6=>∃m,m<n/\Iv m s6) EE s5) EE s4
      else ∃m,m<n/\Iv m s4) EE s3) EE s2) EE s1) EE s)
  (n:Nat)(h:Iv n s):codeAny (model prog w) A (.compLoop (.ListComp elt [⟨target,iter,ifs,0⟩] scope pos) 0 it acc env) R s:=by
 subst hEE;refine codeAny_loop rfl Iv (λn s hI=>?_) n h;show wpAny _ A ((compTurn (.ListComp elt [⟨target,iter,ifs,0⟩] scope pos) 0 it acc env).onRaise (λx=>do noteFrame x env;theTreesLotGoes x)) _ _ s
 refine wpAny_noted ?_;rw[compTurn_list];refine wpAny_bind (wpAny_standAt (wpAny_bind (wpAny_mono (turn n s hI) (λr s1 h1=>?_) λ_ _ h'=>h')));cases r with
 | none=>exact wpAny_pure h1
 | some v =>
  refine wpAny_bind (wpAny_mono h1 (λ_ s2 h2=>?_) λ_ _ h'=>h');refine wpAny_bind (wpAny_mono h2 (λ_ s3 h3=>wpAny_bind (wpAny_mono h3 (λok s4 h4=>?_) λ_ _ h'=>h')) λ_ _ h'=>h');cases ok with
  | false=>exact wpAny_pure ⟨rfl,h4⟩
  | true=>exact wpAny_bind (wpAny_bind (wpAny_mono h4 (λx s5 h5=>wpAny_bind (wpAny_mono h5 (λ_ s6 h6=>wpAny_pure (wpAny_pure ⟨rfl,h6⟩)) λ_ _ h'=>h')) λ_ _ h'=>h'))
end
def m7(X:Cx)(scope:Scope)(cl:List (Str×Addr))(N:List Str)(C:Addr)(s:Shared)(H:Hp)(ex:List Addr):Cx :=
 { X with N:=N,s₀:=s,H₀:=H,env:=compEnvC scope cl C X.env,outer:=X.stack,ex:=ex,fn:=λ_=>false,pn:=[],xe:=λ_ _=>False }
def vo(X:Cx)(scope:Scope)(cl:List (Str×Addr)):List Str->List Nat->Prop
 | [],[]=>True
 | x::xs,j::js=>(X.N[j]? = some x /\ X.env.kindOf x = some .cell /\ (relabel scope X.env).names.lookup x = some .cell /\ (∃c,cl.lookup x = some c)) /\ vo X scope cl xs js
 | _,_=>False
theorem vo.length{X:Cx}{scope:Scope}{cl:List (Str×Addr)}:∀{xs:List Str}{js:List Nat},vo X scope cl xs js->js.length=xs.length
 | [],[],_=>rfl
 | _::_,_::_,h=>by simp[vo.length h.2]
 | [],_::_,h=>h.elim
 | _::_,[],h=>h.elim
theorem vo.get{X:Cx}{scope:Scope}{cl:List (Str×Addr)}:∀{xs:List Str}{js:List Nat}{k j:Nat}{x:Str},vo X scope cl xs js->xs[k]? = some x->js[k]? = some j ->
  X.N[j]? = some x /\ X.env.kindOf x = some .cell /\ (relabel scope X.env).names.lookup x = some .cell /\ ∃c,cl.lookup x = some c
 | [],_,_,_,_,_,e,_=>by simp at e
 | _::_,[],_,_,_,_,_,e=>by simp at e
 | x::xs,j::js,0,_,_,h,e1,e2=>by
  simp at e1 e2;subst e1;subst e2;exact h.1
 | x::xs,j::js,k+1,_,_,h,e1,e2=>vo.get (k:=k) h.2 (by simpa using e1) (by simpa using e2)
def lN(X:Cx):List (Str×Addr)->Prop
 | []=>True
 | p::r=>X.env.cells.lookup p.1=some p.2/\lN X r
theorem lN.mem{X:Cx}:∀{cl:List (Str×Addr)},lN X cl -> ∀p∈cl,X.env.cells.lookup p.1=some p.2
 | [],_,p,hp=>by cases hp
 | q::r,h,p,hp=>by
  rcases YY.mp hp with rfl|hp
  .exact h.1
  .exact lN.mem h.2 p hp
structure qx (X:Cx)(scope:Scope)(cl:List (Str×Addr))(own outs:List Str)(ixs:List Nat):Prop where
 nocell:(scope.names.all λy=>y.2 != .cell)=true
 kind:scope.kind=.function
 names:(scope.names.all λy=>y.2 != .local || scope.names.lookup y.1==some .local)=true
 cells:lN X cl
 has:((relabel scope X.env).names.all λy=>!(y.2 == .cell || y.2 == .free) || (cl.lookup y.1).isSome) = true
 outs:vo X scope cl outs ixs
def PF(X:Cx)(ifs:List Expr)(t:TT):Prop :=
 ∀(pins:List (Addr×Obj))(s:Shared)(σ:St)(H:Hp)(Q:Bool->Hp->Prop),aR X pins σ H s->t σ H Q ->
  wpAny (model X.prog X.w) X.A (forIn ifs true λc r=>if r=true then do let ok <-isTrue c X.env (eval c X.env);pure (ForInStep.yield ok) else pure (ForInStep.yield r)) (TP X pins σ Q) X.xe s
def HH:TT:=λ_ H Q=>Q true H
theorem GQ{X:Cx}:PF X [] HH:=λ_ _ _ H _ I h=>wpAny_tests_nil ⟨H,I,h⟩
theorem Io{X:Cx}{c:Expr}{t:TT}(h:PT X c t):PF X [c] t:=λpins s σ H Q I q=>wpAny_tests_one (h pins s σ H Q I q)
def pU(K:W.Frag)(J:It)(g:TG)(tif:TT)(te:TE)(a:Addr)(σ0:St)(H0:Hp)(Q:Hp->Prop):Prop:=∃W:Nat->Nat->St->Hp->Prop,(∃m,W 0 m σ0 H0) /\ ∀i m σ H,W i m σ H ->
 (J.stop i H/\Q H)\/(J.go i H /\ ∃N:St->Hp->Prop,(∀σ' H',N σ' H' -> ∃m',m'<m/\W (i+1) m' σ' H') /\ ∀x H',J.yld i H x H'->g x σ H' λσ2 H2=>tif σ2 H2 λb H3=>if b=true then te σ2 H3 λv H4=>∃xs,vw K H4 a=some (.lst xs)/\xs.length<sizeLine /\
  ∀H5,gB a (vw K H4) (vw K H5)->vw K H5 a=some (.lst (xs++[v]))->N σ2 H5 else N σ2 H3)
def wX(σ:St)(ixs:List Nat):St:=ixs.map λj=>(σ[j]?).join
def uP(K:W.Frag)(wi:TI)(n:Nat)(ixs:List Nat)(g:TG)(tif:TT)(te:TE):TE:=λσ H Q=>wi σ H λJ H1=>∀a H2,vw K H1 a=none->aB (vw K H1) (vw K H2)->vw K H2 a=some (.lst [])->pU K J g tif te a (List.replicate n none++wX σ ixs) H2 (Q (.ref a))
section
variable {X:Cx}
theorem rG{tg iter elt:Expr}{ifs:List Expr}{scope:Scope}{pos ipos:Pos}{wi:TI}{g:TG}{tif:TT}{te:TE}{cl:List (Str×Addr)}{own outs:List Str}{ixs:List Nat}{use:Option (Value->Sem Unit)}{Qv:Value->Shared->Prop}
  (hc:X.calm=true)(hi:PI X tg iter wi)(hclos:closureFor scope X.env=pure cl)(S:qx X scope cl own outs ixs)
  {G:Shared->Hp->List Addr->Prop}(hb:∀C s H ex,G s H ex->PG (m7 X scope cl (own++outs) C s H ex) tg g/\PF (m7 X scope cl (own++outs) C s H ex) ifs tif/\PE (m7 X scope cl (own++outs) C s H ex) elt te)
  (hs:∀x,foldedSetIterable iter X.env x=pure x) {pins:List (Addr×Obj)}{s:Shared}{σ:St}{H:Hp}(hG:∀s2 H1 H2 fp,aR X pins σ H2 s2->(∀b∈fp,md X pins H1 b)->G s2 H2 fp)(I:aR X pins σ H s)(Qd:Addr->Hp->Prop)
  (hfin:∀(a C:Addr)(H':Hp)(s4:Shared)(m:Str->Option Value),aR X pins σ H' s4->md X pins H' C->s4.heap.Ns C m->Qd a H'->compPost (model X.prog X.w) X.A X.xe use Qv (.ref a) C (.ok .next) s4)
  (h:wi σ H λJ H1=>∀a H2,vw X.K H1 a=none->aB (vw X.K H1) (vw X.K H2)->vw X.K H2 a=some (.lst [])->pU X.K J g tif te a (List.replicate own.length none++wX σ ixs) H2 (Qd a)) :
  wpAny (model X.prog X.w) X.A (comprehension (.ListComp elt [⟨tg,iter,ifs,0⟩] scope pos) scope X.env ipos (newList []) false (eval iter X.env) use) Qv X.xe s:=by
 have Snc:∀y∈scope.names,y.2 ≠ .cell:=λy hy z=>by
  have:=List.all_eq_true.mp S.nocell y hy;rw[z] at this;cases this
 have Snm:∀y∈scope.names,y.2=.local->scope.names.lookup y.1=some .local:=λy hy z=>by
  have:=List.all_eq_true.mp S.names y hy;rw[z] at this;simpa using this
 have Shs:∀y∈(relabel scope X.env).names,(y.2=.cell \/ y.2=.free) -> (cl.lookup y.1).isSome = true:=λy hy z=>by
  have:=List.all_eq_true.mp S.has y hy;rcases z with z|z
  .rw[z] at this;simpa using this
  .rw[z] at this;simpa using this
 refine wpAny_comprehension_free (use:=use) rfl hs hclos S.kind Snm (wpAny_mono (hi pins s σ H _ I h) (λxv s1 h1=>wpAny_mono h1 (λitv s2 h2=>?_) λ_ _ e=>e) λ_ _ e=>e);obtain⟨it,fp,tn,J,H1,rfl,I1,T,st1,f1,q⟩:=h2;refine wpAny_newObj_type (wpAny_newFunctionEnv Snc (by intro y hy;simp at hy) (λh₁ hns₁ hsb₁=>?_) S.kind)
 dsimp only at hns₁ hsb₁ ⊢;have I2:aR X pins σ (upd H1 s2.heap.objs.size (.lst [])) { s2 with heap:=s2.heap.push { cls:=.type "list",dict:=none,data:=.seq ([]:List Value).toArray } }:=I1.lnew (t':=s2.toks) .nil (YT _)
 have q2:=q s2.heap.objs.size (upd H1 s2.heap.objs.size (.lst [])) (by rw[fm (I1.newK (Yp _))];exact I1.fresh) (oj (aB.upd I1.fresh)) (by rw[fm (I1.newK (Yp _))];exact dM)
 have fr2:∀b∈fp,(upd H1 s2.heap.objs.size (.lst [])) b=none:=λb hb=>by
  obtain⟨o,ho,_⟩:=T.obj _ _ st1 b hb;rw[cJ (Yf (Heap.lt_size ho))];exact (f1 b hb).1
 generalize hH2:upd H1 s2.heap.objs.size (.lst [])=H2 at I2 q2 fr2;generalize hs3:s2.heap.push { cls:=.type "list",dict:=none,data:=.seq ([]:List Value).toArray } = hp3 at I2 hns₁ hsb₁ ⊢;have old23:∀b o,s2.heap.get? b=some o->hp3.get? b=some o:=λb o e=>hs3▸Heap.get?_push_of_some _ e;have ltC:∀{b:Addr}{o:Obj},hp3.get? b=some o->b≠hp3.objs.size:=λe=>Yf (Heap.lt_size e);have old:∀b o,hp3.get? b=some o->h₁.get? b=some o:=λb o e=>hsb₁.extBut b o (ltC e) (Heap.get?_push_of_some _ e);have clc:∀x c,cl.lookup x=some c->X.env.cells.lookup x=some c:=λx c e=>S.cells.mem (x,c) (Yv e);obtain⟨W,⟨m0,w0⟩,turn⟩:=q2;have fpo:∀b∈fp,∃o,hp3.get? b=some o:=λb hb=>by
  obtain⟨o,ho,_⟩:=T.obj _ _ st1 b hb;exact⟨o,old23 b o ho⟩
 have ok:(m7 X scope cl (own++outs) hp3.objs.size { s2 with heap:=hp3 } H2 fp).Ok:=by
  refine⟨I.ok.mod,S.kind,I.ok.glob,I.ok.blt,Yp _,λx y c e1 e2=>I.ok.inj x y c (clc x c e1) (clc y c e2),λx hx=>?_,λx c hf _=>(by cases hf),I.ok.hd,I.ok.frames,.inl rfl,λb hb=>⟨?_,λx c e=>?_⟩,I2.bs,Yg I.ok.bsz I2.sz,λb o e hb=>?_,λb hb hz=>?_,I2.stack,I2.stkFree⟩
  .have hx':(relabel scope X.env).names.lookup x = some .cell \/ (relabel scope X.env).names.lookup x = some .free:=hx;have:(cl.lookup x).isSome=true:=by
    rcases hx' with e|e
    .exact Shs _ (Yv e) (.inl rfl)
    .exact Shs _ (Yv e) (.inr rfl)
   exact Option.isSome_iff_exists.mp this
  .obtain⟨o,ho⟩:=fpo b hb;exact ltC ho
  .exact (f1 b hb).2.2.2.2.1 x c (clc x c e)
  .rcases (f1 b hb).2.2.2.1 with z|z
   .exact I.ok.noex b o e z
   .exact absurd (Yd (Heap.lt_size e) (Yg I.ok.bsz z)) (Ye _)
  .rcases YY.mp (I2.stkSub b hz) with z|z
   .exact (f1 b hb).2.1 z
   .exact (f1 b hb).2.2.1 z
 have I4:aR (m7 X scope cl (own++outs) hp3.objs.size { s2 with heap:=hp3 } H2 fp) [] (List.replicate own.length none++wX σ ixs) H2 { s2 with heap:=h₁,toks:=s2.toks+([]:List (Str×Value)).length }:=by
  refine⟨ok,rfl,I2.bare,Un.kept old,⟨_,hns₁,λi x v e1 e2 e3=>?_⟩,λx c e=>?_,I2.hok.fresh (Yp _),λx c e=>I2.freeC x c (clc x c e),λp hp=>by simp[m7] at hp,I2.hok.kept old,?_⟩
  .have e1':(own++outs)[i]? = some x:=e1;have hi':own.length<=i:=by
    by_cases hlt:i<own.length
    .rw[Yy (by simpa using hlt),Yx,Yb hlt] at e2
     cases e2
    .nofun
   rw[Yw (by simpa using hi')] at e2
   rw[Yw hi'] at e1';rw[YD] at e2;unfold wX at e2;rw[Yz] at e2;cases ej:ixs[i-own.length]? with
   | none=>rw[ej] at e2;cases e2
   | some j =>
    rw[ej] at e2;obtain⟨hN,hk,hr,c,hcl⟩:=S.outs.get e1' ej;have e4:(σ[j]?).join=some v:=Ym e2;have e5:σ[j]? = some (some v):=by
     cases es:σ[j]? with
     | none=>rw[es] at e4;cases e4
     | some o=>rw[es] at e4;exact Yn some e4
    obtain⟨m,hn,hl⟩:=I2.loc;obtain⟨u,ru,l⟩:=hl j x v hN e5 (.inr (.inl hk));refine⟨u,ru,.inr ⟨.inl hr,c,hcl,?_⟩⟩;rcases l with ⟨z,_⟩|⟨_,c',hc',cell⟩
    .rw[hk] at z;cases z
    .rw[clc x c hcl] at hc';cases hc';obtain⟨o,ho,hd⟩:=cell;exact⟨o,old _ _ ho,hd⟩
  .obtain⟨v,o,ho,hd⟩:=I2.cell x c (clc x c e);exact⟨v,o,old _ _ ho,hd⟩
  .show (List.replicate own.length none++wX σ ixs).length=(own++outs).length;unfold wX;rw[YB,YB,YD,YC,S.outs.length]
 obtain⟨hg,hf,he⟩:=hb hp3.objs.size { s2 with heap:=hp3 } H2 fp (hG _ _ _ _ I2 f1);have stat:∀{H':Hp},(∀b∈fp,H' b=none) -> ∀b∈fp,md (m7 X scope cl (own++outs) hp3.objs.size { s2 with heap:=hp3 } H2 fp) [] H' b:=λhn b hb =>
  ⟨hn b hb,(ok.exf b hb).1,ok.exfs b hb,.inl hb,(ok.exf b hb).2,λp hp=>by simp[m7] at hp⟩
 have noE:∀{α:Type}{t:Sem α}{Q':α->Shared->Prop}{s':Shared}{E':Value->Shared->Prop},wpAny (model X.prog X.w) X.A t Q' (λ_ _=>False) s'->wpAny (model X.prog X.w) X.A t Q' E' s':=λh=>wpAny_mono h (λ_ _ z=>z) λ_ _ z=>z.elim;have loop:codeAny (model X.prog X.w) X.A (.compLoop (.ListComp elt [⟨tg,iter,ifs,0⟩] scope pos) 0 (.ref it) (.ref s2.heap.objs.size) (compEnvC scope cl hp3.objs.size X.env))
   (compPost (model X.prog X.w) X.A X.xe use Qv (.ref s2.heap.objs.size) hp3.objs.size) { s2 with heap:=h₁,toks:=s2.toks+([]:List (Str×Value)).length }:=by
  refine sk rfl (λn s'=>∃i σ' H',aR (m7 X scope cl (own++outs) hp3.objs.size { s2 with heap:=hp3 } H2 fp) [] σ' H' s'/\tn i s'.heap/\(∀b∈fp,H' b=none)/\W i n σ' H') ?_ m0
   ⟨0,_,H2,I4,T.keep _ _ _ st1 λb hb o e=>old b o (old23 b o e),fr2,w0⟩
  rintro n s' ⟨i,σ',H',I',st',fr',w'⟩;rcases turn i n σ' H' w' with ⟨stop,qn⟩|⟨go,N,hN,step⟩
  .refine da (T.done (m7 X scope cl (own++outs) hp3.objs.size { s2 with heap:=hp3 } H2 fp) rfl rfl rfl hc i [] s' σ' H' _ I' (stat fr') st' stop) λr s4 ⟨hr,I4'⟩=>?_
   subst hr;obtain⟨m,hn,_⟩:=I4'.loc;have kC:∀b o,b≠hp3.objs.size->s4.heap.get? b=some o->s4.heap.get? b=some o:=λb o hb e=>e;have tC:∀b u,H' b=some u->b≠hp3.objs.size:=λb u e z=>by
    have:=I4'.free;rw[z] at e;rw[show H' hp3.objs.size=none from this] at e
    cases e
   have base:=I4'.base;have un:Un (Ae X.stack) fp H2 H' hp3 s4.heap:=⟨λb o e n1 hb hx=>kC b o (ltC e) (base.keep b o e n1 hb hx),λb o e n1 hb hx=>by
     obtain⟨sl,z⟩:=base.slot b o e n1 hb hx;exact⟨sl,kC b _ (ltC e) z⟩,base.free,λb o e hx=>by
     obtain⟨o',z⟩:=base.there b o e hx;exact⟨o',kC b o' (ltC e) z⟩,base.tups,base.frzs,base.tbls⟩
   exact hfin _ _ H' s4 m (I2.call' (s':=s4) (ch:=fp) I4'.os un I4'.hok I4'.bare (λb hb=>⟨(f1 b hb).2.2.2.1,(f1 b hb).2.1,(f1 b hb).2.2.2.2.1,(f1 b hb).2.2.2.2.2⟩)) (I2.fpOk (Yp _) I4'.free) hn qn
  .refine da (T.item (m7 X scope cl (own++outs) hp3.objs.size { s2 with heap:=hp3 } H2 fp) rfl rfl rfl hc i [] s' σ' H' _ I' (stat fr') st' go) λr s4 ⟨u,hr,h4⟩=>?_
   subst hr;refine da h4 λ_ s5 ⟨x,H5,I5,r5,y5,st5,fr5⟩=>?_;have I5':=I5.pinned (stat fr5) (T.obj _ _ st5);have back:∀{σ7:St}{H7:Hp}{s7:Shared},aR (m7 X scope cl (own++outs) hp3.objs.size { s2 with heap:=hp3 } H2 fp) ([]++pL fp s5.heap) σ7 H7 s7 -> ∀m',m'<n->W (i+1) m' σ7 H7 ->
     ∃m,m<n /\ ∃i σ' H',aR (m7 X scope cl (own++outs) hp3.objs.size { s2 with heap:=hp3 } H2 fp) [] σ' H' s7/\tn i s7.heap/\(∀b∈fp,H' b=none)/\W i m σ' H':=λ{σ7 H7 s7} I7 m' hm w7=>by
    refine⟨m',hm,i+1,σ7,H7,I7.unpinned,T.keep _ _ _ st5 λb hb o e=>(I7.pin (b,o) (Yr _ (Yr _ (jn hb e)))).1,λb hb=>?_,w7⟩;obtain⟨o,e,d⟩:=T.obj _ _ st5 b hb;exact (I7.pin (b,o) (Yr _ (Yr _ (jn hb e)))).2.1
   refine da (noE (hg _ s5 σ' H5 x u _ I5' r5 (step x H5 y5))) λ_ s6 ⟨σ6,H6,I6,q6⟩=>?_;refine da (noE (hf _ s6 σ6 H6 _ I6 q6)) λok s7 ⟨H7,I7,q7⟩=>?_;cases ok with
   | false =>
    rw[Yc Yo] at q7 ⊢;obtain⟨m',hm,w7⟩:=hN _ _ q7;exact back I7 m' hm w7
   | true =>
    rw[Yb rfl] at q7 ⊢;refine da (noE (he _ s7 σ6 H7 _ I7 q7)) λv s8 ⟨xv,H8,I8,r8,q8⟩=>?_;obtain⟨xs,hxs,hz,q8⟩:=q8;refine da (noE (rE _ s8 σ6 H8 (.ref s2.heap.objs.size) [xv] _ [v] (λ_ H9=>N σ6 H9) I8 rfl (.cons r8 .nil) ⟨_,xs,xv,rfl,rfl,aQ hxs,hz,q8 _ (BI gB.upd) ((fm (show X.K.lookup _=none from I8.noK (aQ hxs))).trans dM)⟩)) λ_ s9 ⟨_,H9,I9,_,n9⟩=>?_
    obtain⟨m',hm,w9⟩:=hN _ _ n9;exact back I9 m' hm w9
 exact codeAny_compStart_list loop (T.self _ 0 _ _ _ (T.keep _ _ _ st1 λb hb o e=>old b o (old23 b o e)) loop)
theorem Em{tg iter elt:Expr}{ifs:List Expr}{scope:Scope}{pos:Pos}{wi:TI}{g:TG}{tif:TT}{te:TE}{cl:List (Str×Addr)}{own outs:List Str}{ixs:List Nat}
  (hc:X.calm=true)(hi:PI X tg iter wi)(hclos:closureFor scope X.env=pure cl)(S:qx X scope cl own outs ixs)
  (hb:∀C s H ex,PG (m7 X scope cl (own++outs) C s H ex) tg g/\PF (m7 X scope cl (own++outs) C s H ex) ifs tif/\PE (m7 X scope cl (own++outs) C s H ex) elt te)
  (hs:∀x,foldedSetIterable iter X.env x=pure x:=by intro _;rfl) :
  PE X (.ListComp elt [⟨tg,iter,ifs,0⟩] scope pos) (uP X.K wi own.length ixs g tif te):=by
 intro pins s σ H Q I h;rw[eval_ListComp];refine rG (G:=λ_ _ _=>True) hc hi hclos S (λC s H ex _=>hb C s H ex) hs (λ_ _ _ _ _ _=>trivial) I (λa H'=>Q (.ref a) H') (λa C H' s4 m J4 fC hn q=>⟨m,hn,λh' hsb=>?_⟩) h;obtain⟨f0,f1,f2,f3,f4,f5⟩:=fC;exact⟨.ref a,H',J4.turned (t':=s4.toks) (λb o hb e=>hsb.extBut b o hb e) f0 f1 f3 f4 f5,rfl,q⟩
theorem En{tg iter elt:Expr}{ifs:List Expr}{scope:Scope}{pos spos py:Pos}{y:Str}{i:Nat}{wi:TI}{g:TG}{tif:TT}{te:TE}{cl:List (Str×Addr)}{own outs:List Str}{ixs:List Nat}
  (hN:X.N.Nodup)(hy:X.N[i]? = some y)(hx:Dh X.env.scope y)(hc:X.calm=true)(hi:PI X tg iter wi)(hclos:closureFor scope X.env=pure cl)(S:qx X scope cl own outs ixs)
  (hb:∀C s H ex,PG (m7 X scope cl (own++outs) C s H ex) tg g/\PF (m7 X scope cl (own++outs) C s H ex) ifs tif/\PE (m7 X scope cl (own++outs) C s H ex) elt te)
  (hsw:swapsWith (.ListComp elt [⟨tg,iter,ifs,0⟩] scope pos) (some (.Name y py)) spos.line X.env=pure true:=by rfl)
  (hs:∀x,foldedSetIterable iter X.env x=pure x:=by intro _;rfl)(hf:X.fn y=true\/X.env.scope.names.lookup y=some .local:=by first|exact .inl rfl|exact .inr rfl|assumption) :
  PS X (.Assign [.Name y py] (.ListComp elt [⟨tg,iter,ifs,0⟩] scope pos) spos) (wC (uP X.K wi own.length ixs g tif te) (gQ i)):=by
 intro pins s σ H D I h;rw[exec_Assign_Name_used _ _ _ _ hsw];refine wpAny_bind (wpAny_standAt (wpAny_bind ?_));show wpAny _ X.A (do let _ <-comprehension (.ListComp elt [⟨tg,iter,ifs,0⟩] scope pos) scope X.env _ (newList []) false (eval iter X.env) (some (assign (.Name y py) X.env))) _ _ s
 refine wpAny_bind (wpAny_mono (rG (use:=some (assign (.Name y py) X.env)) (Qv:=λ_ s'=>SP X pins D .next s') (G:=λ_ _ _=>True) hc hi hclos S (λC s H ex _=>hb C s H ex) hs (λ_ _ _ _ _ _=>trivial) I (λa H'=>D.nx (σ.set i (some (.ref a))) H') (λa C H' s4 m J4 fC hn q=>?_) h) (λ_ s' hq=>wpAny_pure (wpAny_pure hq)) λ_ _ e=>e)
 obtain⟨f0,f1,f2,f3,f4,f5⟩:=fC;refine wpAny_assign_Name (qK J4 hN hy hx (v:=.ref a) rfl (λs5 I5 hsame=>?_) hf);obtain⟨b,sb,hb'⟩:=hsame;have nb:C≠b:=λe=>by
  rcases hb' with z|z
  .exact f1 (e.trans z)
  .exact f4 _ _ z e.symm
 exact⟨m,hn.sameBut sb nb,λh' hsb=>⟨_,H',I5.turned (t':=s5.toks) (λb o hb e=>hsb.extBut b o hb e) f0 f1 f3 f4 f5,q⟩⟩
end
theorem IU{X:Cx}{scope:Scope}{cl:List (Str×Addr)}{N:List Str}{C:Addr}{s:Shared}{H:Hp}{ex:List Addr}:(m7 X scope cl N C s H ex).K=X.K:=rfl
mutual
def D.py:D->PyData
 | .non=>.none
 | .bl b=>.bool b
 | .int i=>.int i
 | .str x=>.str x
 | .dict=>.dict []
 | .tup ds=>.tuple (D.pys ds)
 | .lst ds=>.list (D.pys ds)
def D.pys:List D->List PyData
 | []=>[]
 | d::ds=>d.py::D.pys ds
end
def D.cmp(d:D):Prop:=d.py.canLay0=true/\d.py.depth<=30
def DD(d e:D):Bool:=PyData.eqv d.py e.py
section
variable {X:Cx}{pins:List (Addr×Obj)}{σ:St}{H:Hp}{s:Shared}
mutual
theorem aI.reads(I:aR X pins σ H s):∀(d:D)(v:V)(u:Value),aI (vw X.K H) d v->cy v u->d.py.canLay0=true -> ∃as,Reads s.heap u d.py as
 | .non,v,u,h,r,_=>by
  unfold aI at h;subst h;cases r;exact⟨_,by unfold D.py;exact .none⟩
 | .bl b,v,u,h,r,_=>by
  unfold aI at h;subst h;cases r;exact⟨_,by unfold D.py;exact .bool b⟩
 | .int i,v,u,h,r,_=>by
  unfold aI at h;subst h;obtain⟨t,rfl⟩:=r;exact⟨_,by unfold D.py;exact .int i t⟩
 | .str x,v,u,h,r,_=>by
  unfold aI at h;subst h;obtain⟨t,rfl⟩:=r;exact⟨_,by unfold D.py;exact .str x t⟩
 | .dict,v,u,h,r,hc=>by
  unfold D.py PyData.canLay0 at hc;cases hc
 | .tup ds,v,u,h,r,hc=>by
  obtain⟨a,xs,rfl,ha,rs⟩:=h.tup_at;cases r;unfold D.py at hc ⊢;obtain⟨its,rv,p,hz⟩:=I.tuple (dF ha);obtain⟨o,h1,h2,n,h3⟩:=p;obtain⟨as,ra⟩:=aN.reads I ds xs its rs rv (by unfold PyData.canLay0 at hc;exact hc)
  exact⟨_,.tuple h1 h2 h3 (by simpa using ra)⟩
 | .lst ds,v,u,h,r,hc=>by
  obtain⟨a,xs,rfl,ha,rs⟩:=h.lst_at;cases r;unfold D.py at hc ⊢;obtain⟨its,rv,p,hz⟩:=I.list (kr.of (K:=X.K) (aQ ha));obtain⟨o,n,h1,h2,h3,h4⟩:=p;obtain⟨as,ra⟩:=aN.reads I ds xs its rs rv (by unfold PyData.canLay0 at hc;exact hc)
  exact⟨_,.list h1 h2 h4 (by simpa using ra)⟩
theorem aN.reads(I:aR X pins σ H s):∀(ds:List D)(xs:List V)(us:List Value),aN (vw X.K H) ds xs->bY xs us->PyData.canLayAll0 (D.pys ds)=true -> ∃as,ReadsAll s.heap us (D.pys ds) as
 | [],xs,us,h,r,_=>by
  cases h.nil_at;cases r;exact⟨_,by unfold D.pys;exact .nil⟩
 | d::ds,xs,us,h,r,hc=>by
  obtain⟨x,ys,rfl,h1,h2⟩:=h.cons_at;cases r with
  | cons r1 r2 =>
   unfold D.pys PyData.canLayAll0 at hc;rw[YF] at hc;obtain⟨as,ra⟩:=aI.reads I d x _ h1 r1 hc.1;obtain⟨bs,rb⟩:=aN.reads I ds ys _ h2 r2 hc.2;exact⟨_,by unfold D.pys;exact .cons ra rb⟩
end
end
def Do(K:W.Frag)(neg:Bool):R2:=λx y H Q=>∃d e,aI (vw K H) d x/\aI (vw K H) e y/\d.cmp/\e.cmp/\Q (.bl (if neg then !DD d e else DD d e)) H
section
variable {X:Cx}
theorem mL(hu:X.A.units+64<cLine):eO X (compareOp .Eq) (Do X.K false):=by
 intro pins s σ H x y v u Q I rx ry h;obtain⟨d,e,h1,h2,c1,c2,q⟩:=h;obtain⟨as,r1⟩:=aI.reads I d x v h1 rx c1.1;obtain⟨bs,r2⟩:=aI.reads I e y u h2 ry c2.1;exact SeqAt.compareEq_reads r1 r2 c1.1 c2.1 (by have:=c1.2;nofun) ⟨.bl _,H,I,rfl,q⟩
theorem qu(hu:X.A.units+64<cLine):eO X (compareOp .NotEq) (Do X.K true):=by
 intro pins s σ H x y v u Q I rx ry h;obtain⟨d,e,h1,h2,c1,c2,q⟩:=h;obtain⟨as,r1⟩:=aI.reads I d x v h1 rx c1.1;obtain⟨bs,r2⟩:=aI.reads I e y u h2 ry c2.1;exact SeqAt.compareNe_reads r1 r2 c1.1 c2.1 (by have:=c1.2;nofun) ⟨.bl _,H,I,rfl,q⟩
end
def kw(K:W.Frag)(H:Hp)(a:Addr)(xs:List V):Prop:=(K.lookup a=none/\Rd H a (.lst xs)) \/
 ∃(o:Obj)(its:Array Value)(n:Nat),K.lookup a=some o/\o.cls=.type "list" /\ o.dict=none/\o.data=.seq its n/\its.size<=sizeLine/\bY xs its.toList
theorem kw.sq{K:W.Frag}{H:Hp}{a:Addr}{xs:List V}(h:kw K H a xs):kr K H a xs:=h.imp (λz=>z.2) λz=>z
theorem kw.of{K:W.Frag}{H:Hp}{a:Addr}{xs:List V}(h:kr K H a xs)(hk:H a≠none->K.lookup a=none):kw K H a xs:=by
 rcases h with h|h
 .refine .inl ⟨hk ?_,h⟩;rcases h with h|⟨o,h⟩<;>rw[h]<;>simp
 .exact .inr h
theorem kw.same{K:W.Frag}{H H':Hp}{a:Addr}{xs:List V}(h:kw K H a xs)(S:aB (vw K H) (vw K H')):kw K H' a xs:=by
 rcases h with ⟨hk,h⟩|h
 .refine .inl ⟨hk,?_⟩;rcases h with h|⟨o,h⟩
  .have:=S a _ ((fm hk).trans h);rw[fm hk] at this;exact .inl this
  .have:=S a _ ((fm hk).trans h);rw[fm hk] at this;exact .inr ⟨o,this⟩
 .exact .inr h
end L2
namespace L2
open PySem PySem.Spec PyProof.Rows
mutual
def D.flat:D->Bool
 | .lst _=>false
 | .tup ds=>D.flats ds
 | _=>true
def D.flats:List D->Bool
 | []=>true
 | d::ds=>d.flat && D.flats ds
end
section
variable {H H':Hp}{l:Addr}{xs:List V}
mutual
theorem aI.flat_but(hl:H l=some (.lst xs))(S:gB l H H'):∀(d:D)(v:V),d.flat=true->aI H d v->aI H' d v
 | .non,v,_,h=>by unfold aI at h ⊢;exact h
 | .bl b,v,_,h=>by unfold aI at h ⊢;exact h
 | .int i,v,_,h=>by unfold aI at h ⊢;exact h
 | .str x,v,_,h=>by unfold aI at h ⊢;exact h
 | .dict,v,_,h=>by
  unfold aI at h ⊢;obtain⟨a,kvs,rfl,h⟩:=h;exact⟨a,kvs,rfl,S _ _ (λe=>by rw[e,hl] at h;cases h) h⟩
 | .tup ds,v,hf,h=>by
  obtain⟨a,ys,rfl,h,rs⟩:=h.tup_at;unfold D.flat at hf;exact .mk_tup (S _ _ (λe=>by rw[e,hl] at h;cases h) h) (aN.flat_but hl S ds ys hf rs)
 | .lst ds,v,hf,h=>by unfold D.flat at hf;cases hf
theorem aN.flat_but(hl:H l=some (.lst xs))(S:gB l H H'):∀(ds:List D)(ys:List V),D.flats ds=true->aN H ds ys->aN H' ds ys
 | [],ys,_,h=>by cases h.nil_at;exact .mk_nil
 | d::ds,ys,hf,h=>by
  obtain⟨y,r,rfl,h1,h2⟩:=h.cons_at;unfold D.flats at hf;rw[YF] at hf;exact .mk_cons (aI.flat_but hl S d y hf.1 h1) (aN.flat_but hl S ds r hf.2 h2)
end
end
theorem cE(q:Int×Int):(fr q).flat=true:=by simp[fr,D.flat,D.flats]
theorem dW:∀(qs:List (Int×Int)),D.flats (qs.map fr)=true
 | []=>by simp[D.flats]
 | q::qs=>by
  rw[YL];unfold D.flats;rw[cE,dW qs];rfl
theorem aN.app{H:Hp}:∀{ds es:List D}{xs ys:List V},aN H ds xs->aN H es ys->aN H (ds++es) (xs++ys)
 | [],es,xs,ys,h,g=>by cases h.nil_at;exact g
 | d::ds,es,xs,ys,h,g=>by
  obtain⟨x,r,rfl,h1,h2⟩:=h.cons_at;exact .mk_cons h1 (aN.app h2 g)
theorem aN.snoc{H:Hp}{ds:List D}{xs:List V}{d:D}{x:V}(h:aN H ds xs)(g:aI H d x):aN H (ds++[d]) (xs++[x]):=h.app (.mk_cons g .mk_nil)
theorem aN.at{H:Hp}{ds:List D}{xs:List V}(h:aN H ds xs) {i:Nat}{d:D}(hd:ds[i]? = some d):∃x,xs[i]? = some x/\aI H d x:=by
 have hi:i<ds.length:=(List.getElem?_eq_some_iff.mp hd).1;have hi':i<xs.length:=by rw[h.length];exact hi
 obtain⟨d',e,r⟩:=h.get (YO hi');rw[hd] at e;cases e;exact⟨_,YO hi',r⟩
theorem aN.take{H:Hp}:∀{ds:List D}{xs:List V}(n:Nat),aN H ds xs->aN H (ds.take n) (xs.take n)
 | ds,xs,0,h=>by simp;exact .mk_nil
 | [],xs,n+1,h=>by cases h.nil_at;exact .mk_nil
 | d::ds,xs,n+1,h=>by
  obtain⟨x,r,rfl,h1,h2⟩:=h.cons_at;exact .mk_cons h1 (h2.take n)
theorem aN.drop{H:Hp}:∀{ds:List D}{xs:List V}(n:Nat),aN H ds xs->aN H (ds.drop n) (xs.drop n)
 | ds,xs,0,h=>h
 | [],xs,n+1,h=>by cases h.nil_at;exact .mk_nil
 | d::ds,xs,n+1,h=>by
  obtain⟨x,r,rfl,h1,h2⟩:=h.cons_at;exact h2.drop n
def aF(G:Hp)(a:Addr)(qs:List (Int×Int)):Prop:=∃xs,G a=some (.lst xs)/\aN G (qs.map fr) xs
section
variable {G G':Hp}{a l:Addr}{qs:List (Int×Int)}{xs:List V}
theorem aF.same(h:aF G a qs)(S:aB G G'):aF G' a qs:=by
 obtain⟨ys,h1,h2⟩:=h;exact⟨ys,S _ _ h1,h2.same S⟩
theorem aF.but(h:aF G a qs)(hl:G l=some (.lst xs))(hn:a≠l)(S:gB l G G'):aF G' a qs:=by
 obtain⟨ys,h1,h2⟩:=h;exact⟨ys,S _ _ hn h1,aN.flat_but hl S _ _ (dW qs) h2⟩
theorem aF.rep(h:aF G a qs):aI G (.lst (qs.map fr)) (.ref a):=by
 obtain⟨ys,h1,h2⟩:=h;exact .mk_lst h1 h2
theorem aF.len(h:aF G a qs):de G a=some qs.length:=by
 obtain⟨ys,h1,h2⟩:=h;unfold de;rw[h1];simp only[h2.length,YC]
theorem aF.ne_st{st:Addr}(h:aF G a qs)(hst:ga G st):a≠st:=by
 rintro rfl;obtain⟨ys,h1,h2⟩:=h;obtain⟨x,b,h3,_⟩:=hst;rw[h1] at h3;cases h3;cases qs with
 | nil=>cases h2.nil_at
 | cons q qs =>
  obtain⟨y,r,e,h4,h5⟩:=aN.cons_at h2;cases e;obtain⟨c,e,_⟩:=h4.fr_at;cases e
theorem aF.stBut{st:Addr}(h:aF G a qs)(hst:ga G st)(S:gB st G G'):aF G' a qs:=by
 obtain⟨x,b,h3,_⟩:=hst;exact h.but h3 (h.ne_st ⟨x,b,h3,by assumption⟩) S
theorem ga.but{st:Addr}(h:ga G st)(hl:G l=some (.lst xs))(hn:st≠l)(S:gB l G G'):ga G' st:=by
 obtain⟨x,b,h3,h4⟩:=h;exact⟨x,b,S _ _ hn h3,h4⟩
end
theorem zl{CX:zn}{P:Program}{w:World}{K:W.Frag}{mg:Str->Option Value}{base:Heap}{N:List Str}{qual:Str}{scope:Scope}{f:Addr}{cd:Value}{A:Around}{outer:List Env}{s:Shared}{H:Hp}{E:XK} :
  (sB CX P w K mg base N qual scope f cd A outer s H E).nox.K=K:=rfl
def Bg(t u:TS):TS:=λD σ H=>∃R:St->Hp->Prop,(∀σ' H',R σ' H'->u D σ' H')/\t { D with nx:=R } σ H
theorem Bg.mk{t u:TS}{D:nI}{σ:St}{H:Hp}(R:St->Hp->Prop)(h1:t { D with nx:=R } σ H)(h2:∀σ' H',R σ' H'->u D σ' H'):Bg t u D σ H:=⟨R,h2,h1⟩
theorem EU{X:Cx}{st:Stmt}{rest:List Stmt}{t u:TS}(h1:PS X st t)(h2:vB X rest u):vB X (st::rest) (Bg t u):=by
 rintro pins s σ H D I ⟨R,hR,h⟩;refine wpAny_execs_cons (da (h1 pins s σ H { D with nx:=R } I h) λf s1 q=>?_)
 cases f with
 | next =>
  obtain⟨σ',H',I',q⟩:=q;exact h2 pins s1 σ' H' D I' (hR _ _ q)
 | ret v=>exact q
 | brk=>exact q
 | cont=>exact q
def ql(J:It)(H:Hp)(its:List V):Prop:=(∀i,i<its.length->J.go i H)/\(∀i x H',i<its.length->J.yld i H x H'->H'=H/\its[i]? = some x)/\J.stop its.length H
def fT(lo:Int)(n:Nat):List V:=(List.range n).map λ(k:Nat)=>V.int (lo+k)
theorem bH{lo:Int}{n:Nat}{H:Hp}:ql (IB lo n) H (fT lo n):=by
 refine⟨λi hi=>by show i<n;simpa [fT] using hi,λi x H' hi y=>⟨y.1,?_⟩,by show n<=(fT lo n).length;simp[fT]⟩
 have hi':i<n:=by simpa [fT] using hi
 rw[y.2];simp[fT,hi']
theorem bI{K:W.Frag}{H:Hp}{a:Addr}{xs:List V}(h:vw K H a=some (.lst xs)):ql (JO K a) H xs :=
 ⟨λi hi=>⟨xs,xs[i],.of (aQ h),by simp[hi]⟩,λi x H' _ y=>⟨y.1,y.2 xs (.of (aQ h))⟩,⟨xs,.of (aQ h),Yp _⟩⟩
theorem ki{K:W.Frag}{H:Hp}{a:Addr}{xs:List V}(h:vw K H a=some (.tup xs)):ql (Kl K a) H xs :=
 ⟨λi hi=>⟨xs,xs[i],dF h,by simp[hi]⟩,λi x H' _ y=>⟨y.1,y.2 xs (dF h)⟩,⟨xs,dF h,Yp _⟩⟩
theorem aX{J:It}{its:List V}{g:TG}{tb:TS}{D:nI}{σ:St}{H:Hp}(Pv:Nat->St->Hp->Prop)(hl:∀i σ H,i<=its.length->Pv i σ H->ql J H its)(h0:Pv 0 σ H)
  (hs:∀i x σ H,i<its.length->its[i]? = some x->Pv i σ H->g x σ H λσ2 H2=>tb { D with nx:=Pv (i+1),ct:=Pv (i+1),bk:=D.nx } σ2 H2)(hd:∀σ H,Pv its.length σ H->D.nx σ H):ye J g tb D σ H:=by
 refine⟨λi m σ H=>m=its.length-i/\i<=its.length/\Pv i σ H,⟨its.length,by simp,YT _,h0⟩,?_⟩
 rintro i m σ H ⟨rfl,hi,p⟩;obtain⟨q1,q2,q3⟩:=hl i σ H hi p;by_cases hlt:i<its.length
 .refine .inr ⟨q1 i hlt,Pv (i+1),λσ' H' p'=>⟨its.length-(i+1),(),rfl,hlt,p'⟩,λx H' y=>?_⟩;obtain⟨e,y2⟩:=q2 i x H' hlt y;subst e;exact hs i x σ _ hlt y2 p
 .have e:i=its.length:=();subst e;exact .inl ⟨q3,hd σ H p⟩
def CN(K:W.Frag)(a:Addr)(σr:St)(Pv:List V->Hp->Prop):St->Hp->Prop:=λσ H=>(∃y,σ=y::σr) /\ ∃xs,vw K H a=some (.lst xs)/\Pv xs H
def GG(K:W.Frag)(a:Addr)(N:Hp->Prop):V->Hp->Prop:=λv H4=>∃xs,vw K H4 a=some (.lst xs)/\xs.length<sizeLine /\ ∀H5,gB a (vw K H4) (vw K H5)->vw K H5 a=some (.lst (xs++[v]))->N H5
theorem cn{K:W.Frag}{J:It}{its:List V}{tif:TT}{te:TE}{a:Addr}{x0:Option V}{σr:St}{H0:Hp}{Q:Hp->Prop}(Pv:Nat->List V->Hp->Prop)
  (hl:∀i xs H,i<=its.length->vw K H a=some (.lst xs)->Pv i xs H->ql J H its)(ha:vw K H0 a=some (.lst []))(h0:Pv 0 [] H0)
  (hs:∀i x xs H,i<its.length->its[i]? = some x->vw K H a=some (.lst xs)->Pv i xs H->tif (some x::σr) H λb H3=>if b=true then te (some x::σr) H3 (GG K a (CN K a σr (Pv (i+1)) (some x::σr))) else CN K a σr (Pv (i+1)) (some x::σr) H3)
  (hd:∀xs H,vw K H a=some (.lst xs)->Pv its.length xs H->Q H):pU K J (gQ 0) tif te a (x0::σr) H0 Q:=by
 refine⟨λi m σ H=>m=its.length-i/\i<=its.length/\CN K a σr (Pv i) σ H,⟨its.length,by simp,YT _,⟨_,rfl⟩,_,ha,h0⟩,?_⟩
 rintro i m σ H ⟨rfl,hi,⟨y,rfl⟩,xs,hxs,p⟩;obtain⟨q1,q2,q3⟩:=hl i xs H hi hxs p;by_cases hlt:i<its.length
 .refine .inr ⟨q1 i hlt,CN K a σr (Pv (i+1)),λσ' H' p'=>⟨its.length-(i+1),(),rfl,hlt,p'⟩,λx H' y=>?_⟩;obtain⟨e,y2⟩:=q2 i x H' hlt y;subst e;exact hs i x xs _ hlt y2 hxs p
 .have e:i=its.length:=();subst e;exact .inl ⟨q3,hd xs H hxs p⟩
theorem GG.mk{K:W.Frag}{a:Addr}{σr:St}{Pv:List V->Hp->Prop}{x:Option V}{v:V}{H:Hp}{xs:List V}(h:vw K H a=some (.lst xs))(hz:xs.length<sizeLine)
  (q:∀H5,gB a (vw K H) (vw K H5)->vw K H5 a=some (.lst (xs++[v]))->Pv (xs++[v]) H5):GG K a (CN K a σr Pv (x::σr)) v H:=⟨xs,h,hz,λH5 B h5=>⟨⟨_,rfl⟩,_,h5,q H5 B h5⟩⟩
theorem CN.mk{K:W.Frag}{a:Addr}{σr:St}{Pv:List V->Hp->Prop}{x:Option V}{H:Hp}{xs:List V}(h:vw K H a=some (.lst xs))(q:Pv xs H):CN K a σr Pv (x::σr) H:=⟨⟨_,rfl⟩,_,h,q⟩
theorem dg{lo:Int}{n i:Nat}{x:V}(h:(fT lo n)[i]? = some x):i<n/\x=.int (lo+i):=by
 have hi:i<n:=by simpa [fT] using (List.getElem?_eq_some_iff.mp h).1
 simp[fT,hi] at h;exact⟨hi,h.symm⟩
theorem cH{lo:Int}{n:Nat}:(fT lo n).length=n:=by simp[fT]
theorem tU{n d:Nat}{k:Nat}(h:k<=n):HT.sIx n d (some (k:Int))=k:=by
 unfold HT.sIx;simp only[Int.toNat_natCast];rw[Yc ()];nofun
theorem ph{xs:List V}{k:Nat}(h:k<=xs.length):iE xs none (some (k:Int))=xs.take k:=by
 unfold iE;rw[tU h];simp[HT.sIx]
theorem iD{xs:List V}{k:Nat}(h:k<=xs.length):iE xs (some (k:Int)) none=xs.drop k:=by
 unfold iE;rw[tU h];simp[HT.sIx];rw[List.take_of_length_le];simp
theorem gd{α:Type}{xs:List α}{x:α}(h:xs.getLast? = some x):nN xs (-1)=some x:=by
 obtain⟨ys,rfl⟩:=List.getLast?_eq_some_iff.mp h;exact jW ys x
def DA(K:W.Frag)(neg:Bool):R2:=λx y H Q=>∃p q,x=.ref p/\y=.ref q /\ ∃xs,vw K H p=some (.lst xs)/\vw K H q=some (.lst [])/\Q (.bl (if neg then !xs.isEmpty else xs.isEmpty)) H
section
variable {X:Cx}
theorem uy(hu:X.A.units<cLine):eO X (compareOp .Eq) (DA X.K false):=by
 intro pins s σ H x y v u Q I rx ry h;obtain⟨p,q,rfl,rfl,xs,h1,h2,k⟩:=h;cases rx;cases ry;obtain⟨its,r,⟨o,n,e1,e2,e3,e4⟩,_⟩:=I.list (kr.of (K:=X.K) (aQ h1));obtain⟨its2,r2,⟨o2,n2,f1,f2,f3,f4⟩,_⟩:=I.list (kr.of (K:=X.K) (aQ h2));cases r2;have fin:EP X pins σ Q (.bool xs.isEmpty) s:=⟨.bl _,H,I,rfl,k⟩;cases xs with
 | nil =>
  cases r;exact SeqAt.RcAt.lists (e:=λ_=>true) ⟨_,e1,e2,_,e4⟩ ⟨_,f1,f2,_,f4⟩ rfl hu (λj h1=>absurd h1 (by simp)) _ _ _ _ fin
 | cons x xs =>
  cases r;exact SeqAt.RcAt.lists_lengths ⟨_,e1,e2,_,e4⟩ ⟨_,f1,f2,_,f4⟩ (by simp) hu _ _ _ _ fin
theorem CF(hu:X.A.units<cLine):eO X (compareOp .NotEq) (DA X.K true):=by
 intro pins s σ H x y v u Q I rx ry h;obtain⟨p,q,rfl,rfl,xs,h1,h2,k⟩:=h;cases rx;cases ry;obtain⟨its,r,⟨o,n,e1,e2,e3,e4⟩,_⟩:=I.list (kr.of (K:=X.K) (aQ h1));obtain⟨its2,r2,⟨o2,n2,f1,f2,f3,f4⟩,_⟩:=I.list (kr.of (K:=X.K) (aQ h2));cases r2;have fin:EP X pins σ Q (.bool !xs.isEmpty) s:=⟨.bl _,H,I,rfl,k⟩;cases xs with
 | nil =>
  cases r;exact SeqAt.RcNeAt.lists (e:=λ_=>true) ⟨_,e1,e2,_,e4⟩ ⟨_,f1,f2,_,f4⟩ rfl hu (λj h1=>absurd h1 (by simp)) _ _ _ _ fin
 | cons x xs =>
  cases r;exact SeqAt.RcNeAt.lists_lengths ⟨_,e1,e2,_,e4⟩ ⟨_,f1,f2,_,f4⟩ (by simp) hu _ _ _ _ fin
end
theorem gi.ul{k:Nat}{A:Around}(r:gi k A):A.units<cLine:=by have:=r.un;nofun
theorem gi.u64{k:Nat}{A:Around}(r:gi k A):A.units+64<cLine:=by have:=r.un;nofun
theorem jJ(p q:Int×Int):DD (fr p) (fr q)=decide (p=q):=by
 unfold DD fr D.py D.pys D.pys D.pys D.py;simp only[PyData.eqv,PyData.eqvAll];rw[Bool.eq_iff_iff];simp[Prod.ext_iff]
theorem dG(q:Int×Int):(fr q).cmp:=by
 unfold D.cmp fr D.py D.pys D.pys D.pys D.py;exact⟨rfl,Nat.le_of_ble_eq_true rfl⟩
def GT(K:W.Frag)(mg:Str->Option Value)(x:Str)(xs:List V):Prop:=∃a,mg x=some (.ref a) /\ ∀H,vw K H a=some (.tup xs)
theorem GT.mk{K:W.Frag}{mg:Str->Option Value}{x:Str}{a:Addr}{o:Obj}{xs:List V}(h:mg x=some (.ref a))(hl:K.lookup a=some o)(hk:wm o=some (.tup xs)):GT K mg x xs :=
 ⟨a,h,λH=>by unfold vw;rw[hl];exact hk⟩
theorem aN.last{H:Hp}{ds:List D}{xs:List V}(h:aN H ds xs) {d:D}(hd:ds.getLast? = some d):∃x,xs.getLast? = some x/\aI H d x:=by
 rw[YX] at hd;obtain⟨x,e,r⟩:=h.at hd;rw[<-h.length,<-YX] at e;exact⟨x,e,r⟩
theorem bC{H:Hp}{a:Addr}{i j:Int}(h:H a=some (.tup [.int i,.int j])):aI H (fr (i,j)) (.ref a):=.mk_tup h (.mk_cons (.mk_int _) (.mk_cons (.mk_int _) .mk_nil))
def i8(ds:List D):Bool:=match ds.getLast? with
 | some (.tup [.int 0,.int 1])=>false
 | _=>true
def D.poly:D->Bool
 | .lst ds=>ds.all D.frac && i8 ds
 | _=>false
theorem kg{ds:List D}{q:Int×Int}(h:ds.getLast? = some (fr q)):i8 ds = !decide (q=(0,1)):=by
 unfold i8;rw[h];obtain⟨a,b⟩:=q;unfold fr;simp only[Prod.mk.injEq];split
 .rename_i e
  simp only[Option.some.injEq,D.tup.injEq,List.cons.injEq,D.int.injEq,and_true] at e;simp[e]
 .rename_i e
  by_cases h1:a=0
  .by_cases h2:b=1
   .subst h1 h2;exact absurd rfl e
   .simp[h2]
  .simp[h1]
theorem D.frac_fr{d:D}(h:d.frac=true):∃q,d=fr q/\Fq q:=by
 cases d with
 | tup ds =>
  obtain⟨a,b,rfl,hq⟩:=D.frac_tup h;exact⟨(a,b),rfl,hq⟩
 | _=>unfold D.frac at h;cases h
theorem pS{ds:List D}(h:ds.all D.frac=true)(hn:ds≠[]):∃q,ds.getLast? = some (fr q)/\Fq q:=by
 obtain⟨d,hd⟩:=Option.isSome_iff_exists.mp (by rw[List.getLast?_isSome];exact hn:ds.getLast?.isSome=true)
 obtain⟨q,rfl,hq⟩:=D.frac_fr (List.all_eq_true.mp h d (List.mem_of_getLast? hd));exact⟨q,hd,hq⟩
end L2
namespace L2
open PySem PySem.Spec PyProof.Rows
theorem aN.repl{H:Hp}{d:D}{x:V}(h:aI H d x):∀n,aN H (List.replicate n d) (List.replicate n x)
 | 0=>.mk_nil
 | n+1=>.mk_cons h (aN.repl h n)
theorem sP{qs:List (Int×Int)}(h:∀q∈qs,Fq q)(hl:∀q,qs.getLast? = some q->q.1≠0):(D.lst (qs.map fr)).poly=true:=by
 show ((qs.map fr).all D.frac && i8 (qs.map fr))=true;rw[YF];refine⟨List.all_eq_true.mpr λd hd=>?_,?_⟩
 .obtain⟨q,hq,rfl⟩:=List.mem_map.mp hd;exact frac_fr (h q hq)
 .cases e:qs.getLast? with
  | none =>
   unfold i8;rw[List.getLast?_map,e];rfl
  | some q =>
   rw[kg (q:=q) (by rw[List.getLast?_map,e];rfl)]
   have:=hl q e;simp;rintro rfl;exact this rfl
theorem aB.rfl{H:Hp}:aB H H:=λ_ _ z=>z
end L2
set_option autoImplicit true
namespace L2
open PySem PySem.Spec PyProof.Rows
structure QE (X:Cx)(e:Expr)(t:TE):Prop where
 h:PE X e t
structure QT (X:Cx)(e:Expr)(t:TT):Prop where
 h:PT X e t
structure QW (X:Cx)(e:Expr)(t:TT):Prop where
 h:PW X e t
structure QA (X:Cx)(e:List Expr)(t:TA):Prop where
 h:PA X e t
structure QS (X:Cx)(e:Stmt)(t:TS):Prop where
 h:PS X e t
structure C2 (X:Cx)(e:List Stmt)(t:TS):Prop where
 h:vB X e t
structure QG (X:Cx)(e:Expr)(t:TG):Prop where
 h:PG X e t
structure JP (X:Cx)(e:List Expr)(t:Af):Prop where
 h:Iw X e t
structure QF (X:Cx)(e:List Expr)(t:TT):Prop where
 h:PF X e t
structure QO (X:Cx)(e:Option Expr)(t:TO):Prop where
 h:PO X e t
structure QI (X:Cx)(tg e:Expr)(t:TI):Prop where
 h:PI X tg e t
section
variable {X:Cx}{pos p p2 apos cpos pos':Pos}{a b e o l:Expr}{es rest:List Expr}{te ta tb to:TE}{tA tB':TT}{st:Stmt}{rest':List Stmt}{lo hi:Option Expr}{id:String}
theorem dO {b j pos}:QE X (.Constant (.bool b) j pos) (tC (.bl b)):=⟨Jw ⟩
theorem ae {i j pos}:QE X (.Constant (.int i) j pos) (tC (.int i)):=⟨F3 ⟩
theorem Gx {j pos}:QE X (.Constant .none j pos) (tC .non):=⟨Gb ⟩
theorem dc {x j pos}:QE X (.Constant (.str x) j pos) (tC (.str x)):=⟨HE ⟩
theorem fJ{x:Str}{v:V}{u:Value}{pos:Pos}(hg:Gl X x)(hm:X.mg x=some u)(r:cy v u)(hd:(x==("__debug__" : Str))=false:=by decide):QE X (.Name x pos) (tC v):=⟨DT (hg:=hg) (hm:=hm) (r:=r) (hd:=hd)⟩
theorem eo{x:Str}{v:V}{u:Value}{pos:Pos}(hg:Gl X x)(hm:X.mg x=none)(hv:bootBuiltins x=some u)(r:cy v u)(hn:x ≠ "__name__":=by decide) (hd:(x==("__debug__" : Str))=false:=by decide):QE X (.Name x pos) (tC v):=⟨DR (hg:=hg) (hm:=hm) (hv:=hv) (r:=r) (hn:=hn) (hd:=hd)⟩
theorem ar{op:Operator}{r:R2}(ho:eO X (binaryOp op) r)(ha:QE X a ta)(hb:QE X b tb):QE X (.BinOp a op b pos) (EI r ta tb):=⟨Jb (ho:=ho) (ha:=ha.h) (hb:=hb.h)⟩
theorem eE{op:UnaryOp}{r:V->Hp->VK->Prop}(ho:JK X (unaryOp op) r)(ha:QE X a ta):QE X (.UnaryOp op a pos) (Kn r ta):=⟨Jf (ho:=ho) (ha:=ha.h)⟩
theorem vZ(ha:QE X a ta):QE X (.UnaryOp .Not a pos) (xN ta):=⟨Gk (ha:=ha.h)⟩
theorem fS(ha:QE X a ta)(hb:QE X (.BoolOp .And (b::rest) pos) tb):QE X (.BoolOp .And (a::b::rest) pos) (yi ta tb):=⟨F5 (ha:=ha.h) (hb:=hb.h)⟩
theorem vd(ha:QE X a ta)(hb:QE X (.BoolOp .Or (b::rest) pos) tb):QE X (.BoolOp .Or (a::b::rest) pos) (EN ta tb):=⟨Jp (ha:=ha.h) (hb:=hb.h)⟩
theorem fk {op}{t:TE}(h:QE X a t):QE X (.BoolOp op [a] pos) t:=⟨F7 (h:=h.h)⟩
theorem bJ{op:CmpOp}{r:R2}(ho:eO X (compareOp op) r)(ha:QE X a ta)(hb:QE X b tb)(hm:behindInMarks op b=false):QE X (.Compare a [op] [b] pos) (EI r ta tb):=⟨Fc (ho:=ho) (ha:=ha.h) (hb:=hb.h) (hm:=hm)⟩
theorem uK{c:Expr}(hc:QT X c tA)(ha:QE X a ta)(hb:QE X b tb):QE X (.IfExp c a b pos) (J3 tA ta tb):=⟨By (hc:=hc.h) (ha:=ha.h) (hb:=hb.h)⟩
theorem aT {x1}(h:QA X es t):QE X (.Tuple es x1 pos) (vx X.K t):=⟨ES (h:=h.h)⟩
theorem aU(h:QA X es t):QE X (.List es pos) (Dd X.K t):=⟨DW (h:=h.h)⟩
theorem cZ{r:V->Option Int->Option Int->Hp->VK->Prop}(hr:xW X r)(he:QE X e te)(hl:QO X lo tl)(hu:QO X hi th):QE X (.Subscript e (.Slice lo hi none p2) pos) (Kh r te tl th):=⟨De (hr:=hr) (he:=he.h) (hl:=hl.h) (hu:=hu.h)⟩
theorem dS  : QO X none tz:=⟨Ev ⟩
theorem dU(h:QE X e te):QO X (some e) (xu te):=⟨Du (h:=h.h)⟩
theorem av{r:R2}(hr:yu X r)(ha:QE X a ta)(hb:QE X b tb)(hs:yT b):QE X (.Subscript a b pos) (EI r ta tb):=⟨IN (hr:=hr) (ha:=ha.h) (hb:=hb.h) (hs:=hs)⟩
theorem ah(C:cp X.prog X.w X.K X.mg X.base x ps k sp)(hr:gi k X.A)(hg:Gl X x)(ha:QA X (e::es) t)(hdb:(x==("__debug__" : Str))=false:=by decide) (he:starEach (e::es) X.env=(false,eval e X.env)::starEach es X.env:=by rfl)(hpl:(backTo pos (starEach es X.env)).any (·.1)=false:=by rfl) :
  QE X (.Call (.Name x p) (e::es) [] pos) (Ho sp t):=⟨HD (C:=C) (hr:=hr) (hg:=hg) (ha:=ha.h) (hdb:=hdb) (he:=he) (hpl:=hpl)⟩
theorem ai(hc:fQ X (.builtin id) r)(hg:Gl X x)(hm:X.mg x=none)(hv:bootBuiltins x=some (.builtin id))(ha:QA X (e::es) t)(hn:x ≠ "__name__":=by decide) (hdb:(x==("__debug__" : Str))=false:=by decide) (he:starEach (e::es) X.env=(false,eval e X.env)::starEach es X.env:=by rfl)(hpl:(backTo pos (starEach es X.env)).any (·.1)=false:=by rfl):QE X (.Call (.Name x p) (e::es) [] pos) (EO r t):=⟨Bb (hc:=hc) (hg:=hg) (hm:=hm) (hv:=hv) (ha:=ha.h) (hn:=hn) (hdb:=hdb) (he:=he) (hpl:=hpl)⟩
theorem el(hc:fQ X (.type T) r)(hg:Gl X x)(hm:X.mg x=none)(hv:bootBuiltins x=some (.type T))(ha:QA X (e::es) t)(hn:x ≠ "__name__":=by decide) (hdb:(x==("__debug__" : Str))=false:=by decide) (he:starEach (e::es) X.env=(false,eval e X.env)::starEach es X.env:=by rfl)(hpl:(backTo pos (starEach es X.env)).any (·.1)=false:=by rfl):QE X (.Call (.Name x p) (e::es) [] pos) (EO r t):=⟨zI (hc:=hc) (hg:=hg) (hm:=hm) (hv:=hv) (ha:=ha.h) (hn:=hn) (hdb:=hdb) (he:=he) (hpl:=hpl)⟩
theorem oN(pa:PlainAttrs T)(slot:Slot T name id)(hty:typeOf (.builtin id)=pure (.type "method_descriptor")) (hm:JR X id r)(ho:QE X o to)(ha:QA X (e::es) t)(hbase:attributeBase o name X.env (eval o X.env)=eval o X.env:=by rfl)(hfew:((backTo cpos (starEach (e::es) X.env)).all (λx=>!x.1) && (backToKw cpos (keywordEach [] X.env)).all (λx=>x.1.isSome)
   && decide ((e::es).length+([]:List Keyword).length+(if ([]:List Keyword).isEmpty then 0 else 1)<30))=true:=by rfl) (hline:(apos.endLine==cpos.line)=true:=by rfl)(hs:starEach (e::es) X.env=(false,eval e X.env)::starEach es X.env:=by rfl)(hplain:(backTo cpos (starEach es X.env)).any (·.1)=false:=by rfl) :
  QE X (.Call (.Attribute o name apos) (e::es) [] cpos) (JU X.K T r to t):=⟨IX (pa:=pa) (slot:=slot) (hty:=hty) (hm:=hm) (ho:=ho.h) (ha:=ha.h) (hbase:=hbase) (hfew:=hfew) (hline:=hline) (hs:=hs) (hplain:=hplain)⟩
theorem He(pa:PlainAttrs T)(slot:Slot T name id)(hty:typeOf (.builtin id)=pure (.type "method_descriptor")) (hm:JR X id r)(ho:QE X o to)(hbase:attributeBase o name X.env (eval o X.env)=eval o X.env:=by rfl)(hline:(apos.endLine==cpos.line)=true:=by rfl):QE X (.Call (.Attribute o name apos) [] [] cpos) (Gy X.K T r to):=⟨Gm (pa:=pa) (slot:=slot) (hty:=hty) (hm:=hm) (ho:=ho.h) (hbase:=hbase) (hline:=hline)⟩
theorem ac  : QA X [] Hw:=⟨Gz ⟩
theorem aa(ha:QE X e te)(hr:QA X es t)(hs:starEach (e::es) X.env=(false,eval e X.env)::starEach es X.env:=by rfl):QA X (e::es) (BG te t):=⟨EZ (ha:=ha.h) (hr:=hr.h) (hs:=hs)⟩
theorem aH{op:CmpOp}{r:R2}(ho:eO X (compareOp op) r)(ha:QE X a ta)(hb:QE X b tb)(hm:behindInMarks op b=false):QT X (.Compare a [op] [b] pos) (rM (EI r ta tb)):=⟨Dt (ho:=ho) (ha:=ha.h) (hb:=hb.h) (hm:=hm)⟩
theorem cK(ha:QT X a tA):QT X (.UnaryOp .Not a pos) (Ib tA):=⟨HJ (ha:=ha.h)⟩
theorem QW.pt{X:Cx}{e:Expr}{t:TT}(h:QW X e t):QT X e t:=⟨PW.pt (h:=h.h)⟩
theorem lX(ha:QT X a tA):QW X (.BoolOp .And [a] pos) tA:=⟨ER (ha:=ha.h)⟩
theorem pi(ha:QT X a tA)(hb:QW X (.BoolOp .And (b::rest) pos) tB'):QW X (.BoolOp .And (a::b::rest) pos) (F4 tA tB'):=⟨F0 (ha:=ha.h) (hb:=hb.h)⟩
theorem fM(ha:QT X a tA):QW X (.BoolOp .Or [a] pos) tA:=⟨G3 (ha:=ha.h)⟩
theorem fG(ha:QT X a tA)(hb:QW X (.BoolOp .Or (b::rest) pos) tB'):QW X (.BoolOp .Or (a::b::rest) pos) (Kr tA tB'):=⟨IM (ha:=ha.h) (hb:=hb.h)⟩
theorem gL(ha:QE X a ta)(he:∀whole,isTrue a X.env whole=(do let v <-whole;standAt a.pos;holding [v] (truthy v))) :
  QT X a (λσ H Q=>ta σ H λx H'=>∃k,vk X.K x H' k/\Q k H'):=⟨CI (ha:=ha.h) (he:=he)⟩
theorem cQ{e:Expr}{t:TE}(h:QE X e t)(he:∀whole,isTrue e X.env whole=(do let v <-whole;standAt e.pos;holding [v] (truthy v)):=by intro _;rfl):QT X e (tB t):=⟨Hv (h:=h.h) (he:=he)⟩
theorem aq{i:Nat}{x:Str}(hN:X.N.Nodup)(hi:X.N[i]? = some x)(hx:Dh X.env.scope x)(hf:X.fn x=true\/X.env.scope.names.lookup x=some .local:=by first|exact .inl rfl|exact .inr rfl|assumption):QG X (.Name x pos) (gQ i):=⟨EG (hN:=hN) (hi:=hi) (hx:=hx) (hf:=hf)⟩
theorem bO{es:List Expr}{k:Nat}{t:Af}{n:Nat}{pos:Pos}(hc:X.calm=true)(h:JP X es t)(hn:(assignEach es X.env).length=n:=by rfl)(hst:(assignEach es X.env).findIdx? (·.1)=none:=by rfl):QG X (.Tuple es k pos) (kG X.K n t):=⟨DQ (hc:=hc) (h:=h.h) (hn:=hn) (hst:=hst)⟩
theorem bQ  : JP X [] wV:=⟨Dp ⟩
theorem ay{e:Expr}{es:List Expr}{t:TG}{u:Af}(h1:QG X e t)(h2:JP X es u)(hs:(assignEach (e::es) X.env).map (·.2)=assign e X.env::(assignEach es X.env).map (·.2):=by rfl):JP X (e::es) (kI t u):=⟨CA (h1:=h1.h) (h2:=h2.h) (hs:=hs)⟩
theorem pJ{o i:Expr}{to ti:TE}{t:vW}(ho:QE X o to)(hi:QE X i ti)(hs:zx X t)(ha:∀v,assign (.Subscript o i pos) X.env v=(do
   let ov <-holding [v] (eval o X.env)
   let iv <-holding [v,ov] (eval i X.env)
   standAt pos
   holding [v,ov,iv] (setItem ov iv v)
   release [v,ov,iv] []):=by intro _;rfl):QG X (.Subscript o i pos) (HZ to ti t):=⟨Hq (ho:=ho.h) (hi:=hi.h) (hs:=hs) (ha:=ha)⟩
theorem cO{a:Expr}{ta:TA}{p pos:Pos}(hg:Gl X "range") (hm:X.mg "range" = none) (ha:QA X [a] ta)(hs:starEach [a] X.env=[(false,eval a X.env)]:=by rfl):QI X tg (.Call (.Name "range" p) [a] [] pos) (y6 ta):=⟨zp (hg:=hg) (hm:=hm) (ha:=ha.h) (hs:=hs)⟩
theorem mE{a b:Expr}{ta:TA}{p pos:Pos}(hg:Gl X "range") (hm:X.mg "range" = none) (ha:QA X [a,b] ta)(hs:starEach [a,b] X.env=[(false,eval a X.env),(false,eval b X.env)]:=by rfl)(hs2:starEach [b] X.env=[(false,eval b X.env)]:=by rfl) :
  QI X tg (.Call (.Name "range" p) [a,b] [] pos) (Al ta):=⟨zk (hg:=hg) (hm:=hm) (ha:=ha.h) (hs:=hs) (hs2:=hs2)⟩
theorem wS{l:Expr}{tl:TE}(hl:QE X l tl):QI X tg l (Gp X.K tl):=⟨G9 (hl:=hl.h)⟩
theorem cR{l:Expr}{tl:TE}(hl:QE X l tl):QI X tg l (xG X.K tl):=⟨D7 (hl:=hl.h)⟩
theorem au(he:QE X e te):QS X (.Return (some e) pos) (GC te):=⟨GN (he:=he.h)⟩
theorem iT(he:QE X e te)(hs:swapsWith e none pos.line X.env=pure false:=by rfl):QS X (.Expr e pos) (AQ te):=⟨DC (he:=he.h) (hs:=hs)⟩
theorem b9{c:Expr}{a b:List Stmt}{tc:TT}(hc:QT X c tc)(ha:C2 X a t)(hb:C2 X b u):QS X (.If c a b pos) (Ic tc t u):=⟨Jq (hc:=hc.h) (ha:=ha.h) (hb:=hb.h)⟩
theorem gh{c:Expr}{body:List Stmt}{tc:TT}{tb:TS}(hp:PassesOwn (model X.prog X.w) X.A X.env X.xe)(hc:QT X c tc)(hb:C2 X body tb):QS X (.While c body [] pos) (Bc tc tb):=⟨Bm (hp:=hp) (hc:=hc.h) (hb:=hb.h)⟩
theorem cC{iter:Expr}{body:List Stmt}{wi:TI}{g:TG}{tb:TS}{pos:Pos}(hp:PassesOwn (model X.prog X.w) X.A X.env X.xe)(hc:X.calm=true)(hi:QI X tg iter wi)(hg:QG X tg g)(hb:C2 X body tb)(hs:∀x,foldedSetIterable iter X.env x=pure x:=by intro _;rfl):QS X (.For tg iter body [] pos) (Ip wi g tb):=⟨HX (hp:=hp) (hc:=hc) (hi:=hi.h) (hg:=hg.h) (hb:=hb.h) (hs:=hs)⟩
theorem aE{i:Nat}{x:Str}{e:Expr}{te:TE}{pos':Pos}(hN:X.N.Nodup)(hi:X.N[i]? = some x)(hx:Dh X.env.scope x)(he:QE X e te)(hs:swapsWith e (some (.Name x pos')) pos.line X.env=pure false:=by rfl)(hf:X.fn x=true\/X.env.scope.names.lookup x=some .local:=by first|exact .inl rfl|exact .inr rfl|assumption) :
  QS X (.Assign [.Name x pos'] e pos) (wC te (gQ i)):=⟨Ga (hN:=hN) (hi:=hi) (hx:=hx) (he:=he.h) (hs:=hs) (hf:=hf)⟩
theorem sT{i j:Nat}{x y:Str}{a b:Expr}{ta:TA}{px py pt:Pos} {kt k2 pt2}(hc:X.calm=true)(hN:X.N.Nodup)(hi:X.N[i]? = some x)(hj:X.N[j]? = some y)(hij:i≠j)(hx:X.env.scope.names.lookup x=some .local)(hy:X.env.scope.names.lookup y=some .local)(ha:QA X [a,b] ta)(hw:swappedStores [.Tuple [.Name x px,.Name y py] kt pt] (.Tuple [a,b] k2 pt2) X.env=pure (some [x,y]))(hs:swapsWithSole [.Tuple [.Name x px,.Name y py] kt pt] (.Tuple [a,b] k2 pt2) pos.line X.env=pure false:=by rfl) :
  QS X (.Assign [.Tuple [.Name x px,.Name y py] kt pt] (.Tuple [a,b] k2 pt2) pos) (Fm i j ta):=⟨GL (hc:=hc) (hN:=hN) (hi:=hi) (hj:=hj) (hij:=hij) (hx:=hx) (hy:=hy) (ha:=ha.h) (hw:=hw) (hs:=hs)⟩
theorem cW{tg e:Expr}{te:TE}{g:TG}(he:QE X e te)(hg:QG X tg g)(hs:swapsWithSole [tg] e pos.line X.env=pure false:=by rfl)(hw:swappedStores [tg] e X.env=pure none:=by rfl)(h1:(assignEach [tg] X.env).map (·.2)=[assign tg X.env]:=by rfl):QS X (.Assign [tg] e pos) (wC te g):=⟨Gu (he:=he.h) (hg:=hg.h) (hs:=hs) (hw:=hw) (h1:=h1)⟩
theorem kX{i:Nat}{x:Str}{e:Expr}{te:TE}{op:Operator}{ti:Df}{pos':Pos}(hN:X.N.Nodup)(hi:X.N[i]? = some x)(hx:Dh X.env.scope x)(he:QE X e te)(ho:FO X op ti)(hf:X.fn x=true\/X.env.scope.names.lookup x=some .local:=by first|exact .inl rfl|exact .inr rfl|assumption) :
  QS X (.AugAssign (.Name x pos') op e pos) (Hj i te ti):=⟨Gf (hN:=hN) (hi:=hi) (hx:=hx) (he:=he.h) (ho:=ho) (hf:=hf)⟩
theorem k8{o i e:Expr}{to ti te:TE}{tget:V->V->Hp->VK->Prop}{tip:Df}{tset:vW}{op:Operator}{tpos:Pos}(ho:QE X o to)(hi:QE X i ti)(hg:Ir X tget)(he:QE X e te)(hp:FO X op tip)(hs:zx X tset)(ha:∀ov iv new,augStore i ov iv new=(do holding [new,ov,iv] (setItem ov iv new);release [new,ov,iv] [];pure .next):=by intros;rfl):QS X (.AugAssign (.Subscript o i tpos) op e pos) (pA to ti te tget tip tset):=⟨DB (ho:=ho.h) (hi:=hi.h) (hg:=hg) (he:=he.h) (hp:=hp) (hs:=hs) (ha:=ha)⟩
theorem aO  : C2 X [] AL:=⟨EH ⟩
theorem ag(h1:QS X st t):C2 X [st] t:=⟨Fi (h1:=h1.h)⟩
theorem af(h1:QS X st t)(h2:C2 X rest' u):C2 X (st::rest') (aP t u):=⟨Cq (h1:=h1.h) (h2:=h2.h)⟩
theorem Fn{X:Cx}{st:Stmt}{rest':List Stmt}{t u:TS}(h1:QS X st t)(h2:C2 X rest' u):C2 X (st::rest') (Bg t u):=⟨EU (h1:=h1.h) (h2:=h2.h)⟩
theorem dJ{X:Cx}:QF X [] HH:=⟨GQ ⟩
theorem Gv{X:Cx}{c:Expr}{t:TT}(h:QT X c t):QF X [c] t:=⟨Io (h:=h.h)⟩
theorem qv(i:Nat){x:Str}{pos:Pos}(hN:X.N[i]? = some x:=by rfl)(hv:IV X.env.scope x:=by first|exact Or.inl rfl|exact Or.inr (Or.inl rfl)|exact Or.inr (Or.inr rfl))(hd:(x==("__debug__" : Str))=false:=by decide) (hcd:(x==("__classdict__" : Str))=false:=by decide):QE X (.Name x pos) (Ft i):=⟨pv (i:=i) (hN:=hN) (hv:=hv) (hd:=hd) (hcd:=hcd)⟩
theorem dH{tg iter elt:Expr}{ifs:List Expr}{scope:Scope}{wi:TI}{g:TG}{tif:TT}{te:TE}{cl:List (Str×Addr)}{own outs:List Str}{ixs:List Nat}
  (hc:X.calm=true)(hi:QI X tg iter wi)(hclos:closureFor scope X.env=pure cl)(S:qx X scope cl own outs ixs)
  (hb:∀C s H ex,QG (m7 X scope cl (own++outs) C s H ex) tg g/\QF (m7 X scope cl (own++outs) C s H ex) ifs tif/\QE (m7 X scope cl (own++outs) C s H ex) elt te)
  (hs:∀x,foldedSetIterable iter X.env x=pure x:=by intro _;rfl):QE X (.ListComp elt [⟨tg,iter,ifs,0⟩] scope pos) (uP X.K wi own.length ixs g tif te) :=
 ⟨Em hc hi.h hclos S (λC s H ex=>⟨(hb C s H ex).1.h,(hb C s H ex).2.1.h,(hb C s H ex).2.2.h⟩) hs⟩
theorem lW{tg iter elt:Expr}{ifs:List Expr}{scope:Scope}{spos py:Pos}{y:Str}{i:Nat}{wi:TI}{g:TG}{tif:TT}{te:TE}{cl:List (Str×Addr)}{own outs:List Str}{ixs:List Nat}
  (hN:X.N.Nodup)(hy:X.N[i]? = some y)(hx:Dh X.env.scope y)(hc:X.calm=true)(hi:QI X tg iter wi)(hclos:closureFor scope X.env=pure cl)(S:qx X scope cl own outs ixs)
  (hb:∀C s H ex,QG (m7 X scope cl (own++outs) C s H ex) tg g/\QF (m7 X scope cl (own++outs) C s H ex) ifs tif/\QE (m7 X scope cl (own++outs) C s H ex) elt te)
  (hsw:swapsWith (.ListComp elt [⟨tg,iter,ifs,0⟩] scope pos) (some (.Name y py)) spos.line X.env=pure true:=by rfl)
  (hs:∀x,foldedSetIterable iter X.env x=pure x:=by intro _;rfl)(hf:X.fn y=true\/X.env.scope.names.lookup y=some .local:=by first|exact .inl rfl|exact .inr rfl|assumption) :
  QS X (.Assign [.Name y py] (.ListComp elt [⟨tg,iter,ifs,0⟩] scope pos) spos) (wC (uP X.K wi own.length ixs g tif te) (gQ i)) :=
 ⟨En hN hy hx hc hi.h hclos S (λC s H ex=>⟨(hb C s H ex).1.h,(hb C s H ex).2.1.h,(hb C s H ex).2.2.h⟩) hsw hs hf⟩
end
section
variable {P:Program}{w:World}{K:W.Frag}{mg:Str->Option Value}{base:Heap}
theorem dy.okQ{x qual:Str}{st:Stmt}{f:Addr}{fd:FuncData}{N ps:List Str}{k:Nat}{sp:Sp}(F:dy K x qual st f fd)(S:aw N ps (ak st))(len:∀vs H Q E,sp vs H Q E->vs.length=ps.length)
  (hbody:∀(cdv:Value)(A:Around)(outer:List Env)(s:Shared)(H:Hp)(vs:List V)(Q:VK)(E:XK),gi k (A.deeper (envOfC qual (ak st) s.heap.objs.size f cdv))->sp vs H Q E ->
   ∃t,C2 (sB dC P w K mg base N qual (ak st) f cdv A outer s H E).nox (ge st) t/\t { nx:=λ_ H'=>Q .non H',rt:=Q } (start N vs) H):aV P w K mg base dC (k+1) f fd ps sp :=
 F.ok S len λcdv A outer s H vs Q E hr h=>(hbody cdv A outer s H vs Q E hr h).imp λt z=>⟨z.1.h,z.2⟩
end
section
variable {X:Cx}{pins:List (Addr×Obj)}{σ:St}{H:Hp}{s:Shared}{h':Heap}
theorem aR.turnT{t':Nat}{ch:List Addr}{T:Addr}{xs:List V}{its:List Value}(I:aR X pins σ H s)(k:∀b o,b∉ch->s.heap.get? b=some o->h'.get? b=some o)(hf:∀b∈ch,md X pins H b)
  (hT:s.heap.objs.size<=T)(hz:xs.length<=sizeLine)(rv:bY xs its)(ht:IsTup h' T its.toArray):aR X pins σ (upd H T (.tup xs)) { s with heap:=h',toks:=t' }:=by
 have hn:H T=none:=I.hok.fresh hT;have nT:∀b o,s.heap.get? b=some o->b≠T:=λb o e=>Yf (Yd (Heap.lt_size e) hT);refine I.step (g':=s.gens) (d':=s.drawn) (ch:=ch) (λb hb=>?_) (λb o _ _ hc e _=>k b o hc e) (λb o _ _ hc e _=>⟨o.slots,k b o hc e⟩) (λb o _ e n=>?_)
  (λb o hc e=>⟨o,k b o hc e⟩) (λb ys e=>?_) (λb o u e=>?_) (λb ps e=>⟨#[],?_⟩) (λm hm=>?_) (λb u e=>?_) I.bare
 .obtain⟨_,f1,_,f3,f4,f5⟩:=hf b hb;exact⟨f3,f1,f4,f5⟩
 .rw[cJ (nT b o e)];exact n
 .rw[cJ (ap e hn)];exact e
 .rw[cJ (ap e hn)];exact e
 .rw[cJ (ap e hn),e];simp
 .obtain⟨o,es,ep,ho,r⟩:=hm;exact⟨o,es,ep,k _ o (λz=>(hf _ z).2.1 rfl) ho,r⟩
 .by_cases hb:b=T
  .subst hb;rw[dM] at e;cases e;exact⟨hz,its,rv,ht⟩
  .rw[cJ hb] at e;have nch:∀c v,H c=some v->c∉ch:=λc v z hc=>by
    rw[(hf c hc).1] at z;cases z
   refine (I.hok b u e).stay (λc v hc q=>k c v ?_ q) (λc q=>?_) λc ys q=>?_
   .rcases hc with z|z
    .rw[z];exact nch b u e
    .exact nch c _ z
   .rw[cJ (ap q hn)];exact q
   .rw[cJ (ap q hn)];exact q
end
def GH(K:W.Frag)(R:Hp->List (List V)->Prop):It :=
 ⟨λi H=>∃ys t,R H ys/\ys[i]? = some t,λi H x H'=>∃p t,x=.ref p/\vw K H p=none/\aB (vw K H) (vw K H')/\vw K H' p=some (.tup t) /\ ∀ys,R H ys->ys[i]? = some t,λi H=>∃ys,R H ys/\ys.length=i⟩
def Cr(K:W.Frag)(a:Addr):Hp->List (List V)->Prop:=λH ys=>∃xs,H a=some (.lst xs)/\ys=xs.mapIdx λi x=>[V.int i,x]
theorem zM{P:Program}{w:World}{K:W.Frag}{elts:List Expr}{x1:Nat}{pos:Pos}(a e it:Addr)(hne:e≠it)(ha:a≠e)(ha2:a≠it) :
  wM P w K (.Tuple elts x1 pos) (GH K (Cr K a)) [e,it] e (λi h=>(∃old,IsEnum h e it (i:Int) old)/\h.IsListIter it a i) where
 mem:=by simp
 obj:=λi h st b hb=>by
  obtain⟨⟨old,h1⟩,o,h2,c,d⟩:=st;simp only[YY,YZ,Y0] at hb;rcases hb with rfl|rfl
  .exact⟨_,h1,λv z=>by cases z⟩
  .exact⟨o,h2,λv z=>by rw[d] at z;cases z⟩
 keep:=λi h h' st k=>by
  obtain⟨⟨old,h1⟩,h2⟩:=st;exact⟨⟨old,k e (by simp) _ h1⟩,h2.at λo z=>k it (by simp) o z⟩
 item:=by
  intro X hP hw hK hc i pins s σ H E I hf st hg;subst hP hw hK;obtain⟨⟨old,h1⟩,h2⟩:=st;obtain⟨ys,t,⟨xs,hxs,rfl⟩,ht⟩:=hg;rw[Y1] at ht;cases hx:xs[i]? with
  | none=>rw[hx] at ht;cases ht
  | some x =>
   rw[hx] at ht;cases ht;obtain⟨its,rv,p,hz⟩:=I.list (kr.of (K:=X.K) hxs);obtain⟨u,hu,ru⟩:=rv.get hx;refine wpAny_pyNext_enum_item h1 h2 p.isList (x:=u) (by simpa using hu) hne λh3 heo hit ht3 hz3 hk3=>⟨_,rfl,?_⟩
   refine wpAny_letOwnedTupleGo_enum (s:={ s with heap:=h3,toks:=s.toks+1 }) heo λh4 he4 hs4=>?_
   have hes:e<s.heap.objs.size:=Heap.lt_size h1;have ht4:=hs4.extBut _ _ (Nat.ne_of_gt hes) ht3;have k4:∀b o,b∉[e,it]->s.heap.get? b=some o->h4.get? b=some o:=λb o hb z=>by
    simp only[YY,YZ,Y0,not_or] at hb;exact hs4.extBut _ _ hb.1 (hk3 b o hb.1 hb.2 z)
   have I4:aR X pins σ (upd H s.heap.objs.size (.tup [.int i,x])) { s with heap:=h4,toks:=s.toks+1 } :=
    I.turnT (its:=[.int i s.toks,u]) k4 hf (Yp _) (show 2<=sizeLine by decide) (.cons ⟨_,rfl⟩ (.cons ru .nil)) ⟨_,ht4,rfl,_,rfl⟩
   have fr:=I.hok.fresh (Yp s.heap.objs.size);have nk:=I.newK (Yp s.heap.objs.size);refine⟨.ref s.heap.objs.size,_,I4,rfl,⟨_,_,rfl,by rw[fm nk];exact fr,oj (aB.upd fr),by rw[fm nk];exact dM,?_⟩,⟨⟨_,he4⟩,hit.extBut hs4.extBut hne.symm⟩,λb hb=>?_⟩
   .rintro ys ⟨zs,hzs,rfl⟩;rw[hxs] at hzs;cases hzs;rw[Y1,hx];rfl
   .have:b<s.heap.objs.size:=by
     simp only[YY,YZ,Y0] at hb;rcases hb with rfl|rfl
     .exact hes
     .obtain⟨_,z,_⟩:=h2;exact Heap.lt_size z
    rw[cJ (Yf this)];exact (hf b hb).1
 done:=by
  intro X hP hw hK hc i pins s σ H E I hf st hg;subst hP hw hK;obtain⟨⟨old,h1⟩,h2⟩:=st;obtain⟨ys,⟨xs,hxs,rfl⟩,hl⟩:=hg;obtain⟨its,rv,p,hz⟩:=I.list (kr.of (K:=X.K) hxs);have hl':=rv.length;rw[Y2] at hl;obtain⟨f0,f1,f2,f3,f4,f5⟩:=hf it (by simp)
  exact wpAny_pyNext_enum_end (I.ok.hd hc) h1 h2 p.isList (by simp;nofun) λh' eb=>⟨rfl,I.turned (t':=s.toks) (λb o hb z=>eb b o hb z) f0 f1 f3 f4 f5⟩
 self:=λ_ _ _ _ _ st h=>by
  obtain⟨⟨old,h1⟩,_⟩:=st;exact wpAny_pyIter_enum h1 h
def nv(K:W.Frag)(ta:TA):TI:=λσ H R=>ta σ H λvs H1=>∃a,vs=[.ref a]/\(∃xs,vw K H1 a=some (.lst xs))/\R (GH K (Cr K a)) H1
theorem DZ{X:Cx}{elts:List Expr}{x1:Nat}{tp p pos:Pos}{a:Expr}{ta:TA}(hg:Gl X "enumerate") (hm:X.mg "enumerate" = none) (ha:PA X [a] ta)(hs:starEach [a] X.env=[(false,eval a X.env)]:=by rfl) :
  PI X (.Tuple elts x1 tp) (.Call (.Name "enumerate" p) [a] [] pos) (nv X.K ta):=by
 intro pins s σ H R I h;refine Call_ (jL I hg hm sx (Yq (da (ha pos pins s σ H _ I h) λus s1 ⟨vs,H1,I1,r1,q1⟩=>?_) hs rfl));obtain⟨b,e,⟨xs,hx⟩,q⟩:=q1;subst e;cases r1 with
 | cons r rr =>
  cases rr;cases r;have hx':=aQ hx;obtain⟨hz,its,n,rv,ho⟩:=I1.hok b _ hx';refine call_enumerate_1 ho λh2 he hit hsz hk=>?_;refine wpAny_pyIter_enum (s:={ s1 with heap:=h2 }) he ?_
  have hb:b<s1.heap.objs.size:=Heap.lt_size ho;refine⟨_,[s1.heap.objs.size+1,s1.heap.objs.size],_,_,H1,rfl,I1.kept (t':=s1.toks) hk,zM b _ _ (Nat.ne_of_gt (Nat.lt_succ_self _)) (Yf (Nat.lt_succ_of_lt hb)) (Yf hb),⟨⟨_,he⟩,hit⟩,λc hc=>?_,q⟩;have hc':s1.heap.objs.size<=c:=by
   simp only[YY,YZ,Y0] at hc;rcases hc with z|z
   .rw[z];exact Nat.le_succ _
   .rw[z];exact Yp _
  exact I1.fpOk hc' (I1.hok.fresh hc')
theorem jV{K:W.Frag}{R:Hp->List (List V)->Prop}{rows:List (List V)}{g:TG}{tb:TS}{D:nI}{σ:St}{H:Hp}(Pv:Nat->St->Hp->Prop)(hl:∀i σ H,i<=rows.length->Pv i σ H->R H rows)(h0:Pv 0 σ H)
  (hs:∀i t σ H p H',i<rows.length->rows[i]? = some t->Pv i σ H->vw K H p=none->aB (vw K H) (vw K H')->vw K H' p=some (.tup t)->g (.ref p) σ H' λσ2 H2=>tb { D with nx:=Pv (i+1),ct:=Pv (i+1),bk:=D.nx } σ2 H2)
  (hd:∀σ H,Pv rows.length σ H->D.nx σ H):ye (GH K R) g tb D σ H:=by
 refine⟨λi m σ H=>m=rows.length-i/\i<=rows.length/\Pv i σ H,⟨rows.length,by simp,YT _,h0⟩,?_⟩
 rintro i m σ H ⟨rfl,hi,p⟩;have q:=hl i σ H hi p;by_cases hlt:i<rows.length
 .refine .inr ⟨⟨rows,rows[i],q,by simp[hlt]⟩,Pv (i+1),λσ' H' p'=>⟨rows.length-(i+1),(),rfl,hlt,p'⟩,λx H' y=>?_⟩
  obtain⟨a,t,rfl,y1,y2,y3,y4⟩:=y;exact hs i t σ H a H' hlt (y4 rows q) p y1 y2 y3
 .have e:i=rows.length:=();subst e;exact .inl ⟨⟨rows,q,rfl⟩,hd σ H p⟩
theorem kh{X:Cx}{elts:List Expr}{x1:Nat}{tp p pos:Pos}{a:Expr}{ta:TA}(hg:Gl X "enumerate") (hm:X.mg "enumerate" = none) (ha:QA X [a] ta)(hs:starEach [a] X.env=[(false,eval a X.env)]:=by rfl) :
  QI X (.Tuple elts x1 tp) (.Call (.Name "enumerate" p) [a] [] pos) (nv X.K ta):=⟨DZ hg hm ha.h hs⟩
def Bq(n:Nat)(q:Int×Int):Prop:=Bt n q.1/\Bt n q.2
theorem Bq.mono{m n:Nat}{q:Int×Int}(h:Bq m q)(hl:m<=n):Bq n q:=⟨h.1.mono hl,h.2.mono hl⟩
def DN(p q:Int×Int):Bool:=decide (p.1*q.2<q.1*p.2)
def qi(p q:Int×Int):Int×Int:=lo (p.1*q.2+q.1*p.2) (p.2*q.2)
theorem Bs{a b:Int}(hb:0<b):0<lg a b:=by
 unfold lg;rw[Yc ()];have:Int.gcd a b≠0:=λe=>by
  have:=(Int.gcd_eq_zero_iff.mp e).2;nofun
 nofun
theorem oB{a b:Int}{n:Nat}(hb:b≠0)(h1:Bt n a)(h2:Bt n b):Bq n (lo a b):=by
 have e1:=fA (a:=a) hb;have e2:=fI (a:=a) hb;have hl:0<(lg a b).natAbs:=by have:=BE (a:=a) hb;nofun
 constructor
 .unfold Bt at *
  have:=YV (lo a b).1 (lg a b);rw[e1] at this;have:=Y3 (lo a b).1.natAbs hl;nofun
 .unfold Bt at *
  have:=YV (lo a b).2 (lg a b);rw[e2] at this;have:=Y3 (lo a b).2.natAbs hl;nofun
theorem lH{p q:Int×Int}(hp:Fq p)(hq:Fq q):Fq (qi p q):=iH (by have:=Y4 hp.1 hq.1;nofun)
theorem Dy{p q:Int×Int}(hp:Fq p)(hq:Fq q)(h0:0<q.1):DN p (qi p q)=true:=by
 have hd:0<p.2*q.2:=Y4 hp.1 hq.1;have hb:p.2*q.2≠0:=();have e1:=fA (a:=p.1*q.2+q.1*p.2) hb;have e2:=fI (a:=p.1*q.2+q.1*p.2) hb;have hg:=Bs (a:=p.1*q.2+q.1*p.2) hd;unfold DN qi;generalize lo (p.1*q.2+q.1*p.2) (p.2*q.2)=r at *
 generalize lg (p.1*q.2+q.1*p.2) (p.2*q.2)=g at *
 apply YM
 apply Int.lt_of_mul_lt_mul_right _ (YS hg)
 have z1:p.1*r.2*g=p.1*(p.2*q.2):=by rw[Y5,e2]
 have z2:r.1*p.2*g=(p.1*q.2+q.1*p.2)*p.2:=by rw[<-e1];rw[Int.mul_right_comm]
 rw[z1,z2];have hq2:0<q.1*p.2*p.2:=Y4 (Y4 h0 hp.1) hp.1;have z3:(p.1*q.2+q.1*p.2)*p.2=p.1*(p.2*q.2)+q.1*p.2*p.2:=by
  rw[Int.add_mul,Y5 p.1 q.2 p.2,Y6 q.2 p.2]
 nofun
theorem tO{p q:Int×Int}{m n:Nat}(hp:Fq p)(hq:Fq q)(h1:Bq m p)(h2:Bq n q):Bq (m+n+1) (qi p q):=by
 refine oB (by have:=Y4 hp.1 hq.1;nofun) ?_ ?_
 .have:=(h1.1.mul h2.2).add (h2.1.mul h1.2);exact this.mono ()
 .exact (h1.2.mul h2.2).mono ()
def jC(G:Hp)(a:Addr)(ds:List D):Prop:=∃xs,G a=some (.lst xs)/\aN G ds xs
section
variable {G G':Hp}{a l:Addr}{ds:List D}{xs:List V}
theorem jC.same(h:jC G a ds)(S:aB G G'):jC G' a ds:=by
 obtain⟨ys,h1,h2⟩:=h;exact⟨ys,S _ _ h1,h2.same S⟩
theorem jC.but(h:jC G a ds)(hf:D.flats ds=true)(hl:G l=some (.lst xs))(hn:a≠l)(S:gB l G G'):jC G' a ds:=by
 obtain⟨ys,h1,h2⟩:=h;exact⟨ys,S _ _ hn h1,aN.flat_but hl S _ _ hf h2⟩
theorem jC.ne_st{st:Addr}(h:jC G a ds)(hd:∀i b,ds≠[.int i,.bl b])(hst:ga G st):a≠st:=by
 rintro rfl;obtain⟨ys,h1,h2⟩:=h;obtain⟨x,b,h3,_⟩:=hst;rw[h1] at h3;cases h3;exact hd _ _ (aI.lst_st h2)
theorem jC.stBut{st:Addr}(h:jC G a ds)(hf:D.flats ds=true)(hd:∀i b,ds≠[.int i,.bl b])(hst:ga G st)(S:gB st G G'):jC G' a ds:=by
 obtain⟨x,b,h3,h4⟩:=id hst;exact h.but hf h3 (h.ne_st hd hst) S
end
theorem jG{K:W.Frag}{H:Hp}{p:Addr}{xs:List V}(h:vw K H p=some (.lst xs)):Iu K "list" (.ref p) H:=.inl ⟨rfl,xs,.of (aQ h)⟩
theorem jC.ty{K:W.Frag}{H:Hp}{p:Addr}{ds:List D}(h:jC (vw K H) p ds):Iu K "list" (.ref p) H:=by
 obtain⟨xs,h,_⟩:=h;exact jG h
abbrev nJ:=(Int×Int)×(Int×Int)
def zf(c:nJ):D:=.tup [fr c.1,fr c.2]
theorem gE:∀(cs:List nJ),D.flats (cs.map zf)=true
 | []=>by simp[D.flats]
 | c::cs=>by
  rw[YL];unfold D.flats;rw[gE cs];simp[zf,D.flat,D.flats,cE]
theorem tI(cs:List nJ):∀i b,cs.map zf≠[.int i,.bl b]:=λi b e=>by
 cases cs with
 | nil=>cases e
 | cons c cs =>
  rw[YL] at e;have:=(List.cons.inj e).1;unfold zf at this;cases this
theorem aI.spt_at{H:Hp}{c:nJ}{v:V}(h:aI H (zf c) v):∃a x y,v=.ref a/\H a=some (.tup [x,y])/\aI H (fr c.1) x/\aI H (fr c.2) y:=by
 obtain⟨a,xs,rfl,ha,r⟩:=h.tup_at;obtain⟨d1,d2,x1,x2,e1,rfl,r1,r2⟩:=r.pair (by rw[r.length];rfl)
 cases e1;exact⟨a,x1,x2,rfl,ha,r1,r2⟩
theorem aI.mk_spt{H:Hp}{c:nJ}{a:Addr}{x y:V}(h:H a=some (.tup [x,y]))(h1:aI H (fr c.1) x)(h2:aI H (fr c.2) y):aI H (zf c) (.ref a):=.mk_tup h (.mk_cons h1 (.mk_cons h2 .mk_nil))
section
variable {prog:Program}{w:World}{A:Around}{E:Value->Shared->Prop}{s:Shared}
theorem Aq{it t:Addr}{i:Nat}{its:Array Value}{x:Value}{Q:Value->Shared->Prop}(a:s.heap.IsTupleIter it t i)(b:s.heap.IsTuple t its)(c:its[i]? = some x)
  (q:∀g,g.IsTupleIter it t (i+1)->Heap.SameBut it s.heap g->Q x { s with heap:=g }):wpAny (model prog w) A (Builtin.SmallTypes.nextOf (.ref it)) Q E s:=by
 obtain⟨u,a1,a2,a3⟩:=id a;obtain⟨v,b1,_,bn,b2⟩:=b;unfold Builtin.SmallTypes.nextOf;refine wpAny_bind (wpAny_callSpecial?_slot (name:=Str.ofString "__next__") a.typeIs F.slot_tuple_iterator_next (wpAny_call_entry F.slot_tuple_iterator_next a.typeIs F.entry_tuple_iterator_next ?_ (F.args_tuple_iterator_next_1 _)));show wpAny _ _ (field (.ref it) 0 >>= _) _ _ s;refine wpAny_bind (wpAny_field a1 a3 (x:=.ref t) rfl ?_);show wpAny _ _ (if (Value.ref t==Value.none)=true then _ else _) _ _ s;rw[Yc (show ¬ ((Value.ref t==Value.none)=true) from Yo)]
 show wpAny _ _ (field (.ref it) 1 >>= _) _ _ s;refine wpAny_bind (wpAny_field a1 a3 (x:=.int i 0) rfl ?_);show wpAny _ _ (seqItems? (.ref t) >>= _) _ _ s;refine wpAny_bind (wpAny_seqItems b1 b2 ?_);simp only[Int.toNat_natCast,c];refine wpAny_bind (wpAny_setField a1 a3 (by simp) (wpAny_pure ⟨x,rfl,wpAny_pure (q _ ?_ (Heap.SameBut.update ..))⟩))
 exact⟨_,Heap.get?_update_self _ a1 (Obj.isFreed_of_fields (Obj.data_mapFields a3 _)),(Obj.cls_mapFields ..).trans a2,by rw[Obj.data_mapFields a3];simp[rawInt]⟩
theorem tZ{it t:Addr}{i:Nat}{its:Array Value}{Q:Value->Shared->Prop}(hh:A.handled=none)(a:s.heap.IsTupleIter it t i)(b:s.heap.IsTuple t its)(c:its[i]? = none)
  (q:∀g e,Heap.ExtBut it s.heap g->(∃o,g.get? e=some o/\o.cls=.type "StopIteration")->E (.ref e) { s with heap:=g }):wpAny (model prog w) A (Builtin.SmallTypes.nextOf (.ref it)) Q E s:=by
 obtain⟨u,a1,a2,a3⟩:=id a;obtain⟨v,b1,_,bn,b2⟩:=b;unfold Builtin.SmallTypes.nextOf;refine wpAny_bind (wpAny_callSpecial?_slot (name:=Str.ofString "__next__") a.typeIs F.slot_tuple_iterator_next (wpAny_call_entry F.slot_tuple_iterator_next a.typeIs F.entry_tuple_iterator_next ?_ (F.args_tuple_iterator_next_1 _)));show wpAny _ _ (field (.ref it) 0 >>= _) _ _ s;refine wpAny_bind (wpAny_field a1 a3 (x:=.ref t) rfl ?_);show wpAny _ _ (if (Value.ref t==Value.none)=true then _ else _) _ _ s;rw[Yc (show ¬ ((Value.ref t==Value.none)=true) from Yo)]
 show wpAny _ _ (field (.ref it) 1 >>= _) _ _ s;refine wpAny_bind (wpAny_field a1 a3 (x:=.int i 0) rfl ?_);show wpAny _ _ (seqItems? (.ref t) >>= _) _ _ s;refine wpAny_bind (wpAny_seqItems b1 b2 ?_);simp only[Int.toNat_natCast,c];refine wpAny_bind (wpAny_rule (wpAny_bind (wpAny_setField a1 a3 (by simp) ?_)));show wpAny _ _ (newExc (.type "StopIteration") [] >>= _) _ _ _
 refine wpAny_bind ?_;simp only[newExc,newTuple];refine wpAny_bind (wpAny_newObj_type ?_ (by size_fits))
 refine wpAny_bind (m:=firstArgMember _ _) (wpAny_of_eq (a:=Value.none) (by first|rfl|(simp only[firstArgMember];rfl)) ?_);refine wpAny_newObj_type ?_ (by size_fits)
 simp only[raiseNew];refine wpAny_bind (wpAny_handled ?_)
 (first|rw[show A.in1.handled=none from hh]|rw[hh]);refine wpAny_bind (wpAny_pure (wpAny_throw ?_))
 exact q _ _ (((Heap.SameBut.update ..).extBut.push _).push _) ⟨_,Heap.get?_push_size _ rfl,rfl⟩
end
theorem zy{prog:Program}{w:World}{A:Around}(hh:A.handled=none)(it l:Addr)(hne:l≠it)(its:Array Value) :
  Draws prog w A it [it,l] its.size (λi v=>its[i]? = some v) (λi h=>h.IsTupleIter it l i/\h.IsTuple l its) where
 live:=λ_ _ st=>let ⟨o,ho,_⟩:=st.1;⟨o,ho⟩
 frame:=λ_ _ _ st hk=>⟨(let ⟨o,ho,r⟩:=st.1;⟨o,hk it (by simp) o ho,r⟩),(let ⟨o,ho,r⟩:=st.2;⟨o,hk l (by simp) o ho,r⟩)⟩
 item:=λi s Q E hi st q=>Aq st.1 st.2 (x:=its[i]) (by simp[hi]) λg a b=>q _ g s.toks (by simp[hi]) ⟨a,st.2.extBut b.extBut hne⟩ b
 done:=λs Q E st q=>tZ hh st.1 st.2 (by simp) q
section
variable {prog:Program}{w:World}{A:Around}{E:Value->Shared->Prop}{s:Shared}{z TI TO i1 i2:Addr}{f1 f2:List Addr}{n1 n2 k:Nat}{P1 P2:Nat->Value->Prop}{T1 T2:Nat->Heap->Prop}{a b:Value}
structure lY (z TI TO i1 i2:Addr)(f1 f2:List Addr):Prop where
 tiz:TI≠z
 toz:TO≠z
 tito:TI≠TO
 ti1:TI≠i1
 ti2:TI≠i2
 to1:TO≠i1
 to2:TO≠i2
 z1:z≠i1
 z2:z≠i2
 n12:i1≠i2
 zf1:z∉f1
 zf2:z∉f2
 tf1:TO∉f1
 tf2:TO∉f2
 if1:i2∉f1
 if2:i1∉f2
theorem zj{Q:Value->Shared->Prop}(D1:Draws prog w A i1 f1 n1 P1 T1)(D2:Draws prog w A i2 f2 n2 P2 T2)(Z:lY z TI TO i1 i2 f1 f2)(hz:IsZip s.heap z TI TO .none)(hTI:IsPair s.heap TI (.ref i1) (.ref i2))(hTO:IsPair s.heap TO a b)
  (h1:T1 k s.heap)(h2:T2 k s.heap)(k1:k<n1)(k2:k<n2)
  (hQ:∀x y g tk,P1 k x->P2 k y->IsZip g z TI TO (rawInt s.heap.objs.size)->IsPair g TO x y->T1 (k+1) g->T2 (k+1) g->IsPair g s.heap.objs.size x y->g.objs.size=s.heap.objs.size+1 ->
   (∀c o,c∉[z,TO,i1,i2]->s.heap.get? c=some o->g.get? c=some o)->Q (.ref s.heap.objs.size) { s with heap:=g,toks:=tk }) :
  wpAny (model prog w) A (Builtin.«zip.__next__» ⟨[.ref z],[]⟩) (λfin s'=>∃v,fin=.done (.ret v)/\Q v s') E s:=by
 show wpAny _ _ (field (.ref z) 2 >>= _) _ _ _;refine wpAny_bind (wpAny_field hz rfl (x:=.bool false) rfl ?_);show wpAny _ _ (field (.ref z) 3 >>= _) _ _ _;refine wpAny_bind (wpAny_field hz rfl (x:=.ref TI) rfl ?_);refine wpAny_bind (wpAny_seqItems hTI rfl ?_);show wpAny _ _ (Builtin.SmallTypes.ownedTupleIsFree (.ref z) >>= _) _ _ _;refine wpAny_bind ?_;unfold Builtin.SmallTypes.ownedTupleIsFree;refine wpAny_bind (wpAny_field hz rfl (x:=.none) rfl (wpAny_pure ?_));simp only[if_true];refine wpAny_bind (wpAny_rule ?_);refine wpAny_bind (wpAny_field hz rfl (x:=.ref TO) rfl ?_);refine wpAny_bind (wpAny_setField_rec hz (by simp) λg1 hz1 s1=>?_)
 replace hz1:IsZip g1 z TI TO .ellipsis:=hz1;refine wpAny_bind ?_;simp only[List.zipIdx_cons,List.zipIdx_nil,List.forIn_cons,List.forIn_nil];refine wpAny_bind (wpAny_bind (wpAny_onRaise ?_));show wpAny _ _ (Builtin.SmallTypes.nextOf (.ref i1) >>= _) _ _ _;refine wpAny_bind (D1.item k _ _ _ k1 (D1.frame k _ _ h1 λc hc o e=>s1.extBut _ _ (λz'=>Z.zf1 (z'▸hc)) e) λx g2 tk2 p1 t1 s2=>wpAny_pure ?_);replace s2:Heap.SameBut i1 g1 g2:=s2;have hTO2:IsPair g2 TO a b:=s2.extBut _ _ Z.to1 (s1.extBut _ _ Z.toz hTO);refine wpAny_bind (wpAny_seqItems hTO2 rfl ?_);refine wpAny_bind (wpAny_updateSeq_pair hTO2 λg3 hTO3 s3=>?_);replace hTO3:IsPair g3 TO x b:=hTO3;replace s3:Heap.SameBut TO g2 g3:=s3;refine wpAny_bind (wpAny_letGo (wpAny_pure ?_));refine wpAny_bind (wpAny_bind (wpAny_onRaise ?_));show wpAny _ _ (Builtin.SmallTypes.nextOf (.ref i2) >>= _) _ _ _;have t2':T2 k g3:=D2.frame k _ _ h2 λc hc o e=>s3.extBut _ _ (λz'=>Z.tf2 (z'▸hc)) (s2.extBut _ _ (λz'=>Z.if2 (z'▸hc)) (s1.extBut _ _ (λz'=>Z.zf2 (z'▸hc)) e));refine wpAny_bind (D2.item k _ _ _ k2 t2' λy g4 tk4 p2 t2 s4=>wpAny_pure ?_);replace s4:Heap.SameBut i2 g3 g4:=s4;have hTO4:IsPair g4 TO x b:=s4.extBut _ _ Z.to2 hTO3;refine wpAny_bind (wpAny_seqItems hTO4 rfl ?_);refine wpAny_bind (wpAny_updateSeq_pair hTO4 λg5 hTO5 s5=>?_);replace hTO5:IsPair g5 TO x y:=hTO5;replace s5:Heap.SameBut TO g4 g5:=s5;refine wpAny_bind (wpAny_letGo (wpAny_pure (wpAny_pure ?_)));refine wpAny_bind (wpAny_seqItems hTO5 rfl ?_);refine wpAny_bind (wpAny_newTuple ?_);have hsz:g5.objs.size=s.heap.objs.size:=by rw[s5.1,s4.1,s3.1,s2.1,s1.1]
 have hz5:IsZip g5 z TI TO .ellipsis:=s5.extBut _ _ Z.toz.symm (s4.extBut _ _ Z.z2 (s3.extBut _ _ Z.toz.symm (s2.extBut _ _ Z.z1 hz1)));have k5:∀c o,c∉[z,TO,i1,i2]->s.heap.get? c=some o->g5.get? c=some o:=λc o hc e=>by
  simp only[YY,YZ,Y0,not_or] at hc;exact s5.extBut _ _ hc.2.1 (s4.extBut _ _ hc.2.2.2 (s3.extBut _ _ hc.2.1 (s2.extBut _ _ hc.2.2.1 (s1.extBut _ _ hc.1 e))))
 have t15:T1 (k+1) g5:=D1.frame _ _ _ t1 λc hc o e=>s5.extBut _ _ (λz'=>Z.tf1 (z'▸hc)) (s4.extBut _ _ (λz'=>Z.if1 (z'▸hc)) (s3.extBut _ _ (λz'=>Z.tf1 (z'▸hc)) e));have t25:T2 (k+1) g5:=D2.frame _ _ _ t2 λc hc o e=>s5.extBut _ _ (λz'=>Z.tf2 (z'▸hc)) e;have zlt:z<g5.objs.size:=Heap.lt_size hz5;show wpAny _ _ (Builtin.SmallTypes.ownedTupleHandOut (.ref z) (.ref g5.objs.size) >>= _) _ _ _;refine wpAny_bind ?_;unfold Builtin.SmallTypes.ownedTupleHandOut;have hz6:IsZip (g5.push { cls:=.type "tuple",data:=.seq #[x,y] }) z TI TO .ellipsis:=Heap.get?_push_of_some _ hz5;refine wpAny_bind (wpAny_setField_rec hz6 (by simp) λg7 hz7 s7=>?_)
 replace hz7:IsZip g7 z TI TO (rawInt g5.objs.size):=hz7;refine wpAny_setField_rec hz7 (by simp) λg8 hz8 s8=>?_
 replace hz8:IsZip g8 z TI TO (rawInt g5.objs.size):=hz8;have up:∀c o,c≠z->g5.get? c=some o->g8.get? c=some o:=λc o hc e=>s8.extBut _ _ hc (s7.extBut _ _ hc (Heap.get?_push_of_some _ e));have hT8:IsPair g8 g5.objs.size x y:=s8.extBut _ _ (Nat.ne_of_gt zlt) (s7.extBut _ _ (Nat.ne_of_gt zlt) (Heap.get?_push_size _ rfl));have hn8:g8.objs.size=g5.objs.size+1:=by rw[s8.1,s7.1,Heap.size_push]
 rw[hsz] at hz8 hT8 hn8;refine wpAny_pure ⟨_,rfl,?_⟩;show Q (.ref g5.objs.size) _;rw[hsz];exact hQ x y g8 _ p1 p2 hz8 (up _ _ Z.toz hTO5) (D1.frame _ _ _ t15 λc hc o e=>up c o (λz'=>Z.zf1 (z'▸hc)) e) (D2.frame _ _ _ t25 λc hc o e=>up c o (λz'=>Z.zf2 (z'▸hc)) e) hT8 hn8
  λc o hc e=>up c o (λz'=>hc (by simp[z'])) (k5 c o hc e)
theorem AJ{Q:Fin->Shared->Prop}(D1:Draws prog w A i1 f1 n1 P1 T1)(D2:Draws prog w A i2 f2 n2 P2 T2)(Z:lY z TI TO i1 i2 f1 f2)(hz:IsZip s.heap z TI TO .none)(hTI:IsPair s.heap TI (.ref i1) (.ref i2))(hTO:IsPair s.heap TO a b)
  (h1:T1 k s.heap)(h2:T2 k s.heap)(hk:k=n1\/(k<n1/\k=n2))
  (hE:∀g tk e,(∀c o,c∉[z,TO,i1,i2]->s.heap.get? c=some o->g.get? c=some o)->(∃o,g.get? e=some o/\o.cls=.type "StopIteration")->E (.ref e) { s with heap:=g,toks:=tk }) :
  wpAny (model prog w) A (Builtin.«zip.__next__» ⟨[.ref z],[]⟩) Q E s:=by
 show wpAny _ _ (field (.ref z) 2 >>= _) _ _ _;refine wpAny_bind (wpAny_field hz rfl (x:=.bool false) rfl ?_);show wpAny _ _ (field (.ref z) 3 >>= _) _ _ _;refine wpAny_bind (wpAny_field hz rfl (x:=.ref TI) rfl ?_);refine wpAny_bind (wpAny_seqItems hTI rfl ?_);show wpAny _ _ (Builtin.SmallTypes.ownedTupleIsFree (.ref z) >>= _) _ _ _;refine wpAny_bind ?_;unfold Builtin.SmallTypes.ownedTupleIsFree;refine wpAny_bind (wpAny_field hz rfl (x:=.none) rfl (wpAny_pure ?_));simp only[if_true];refine wpAny_bind (wpAny_rule ?_);refine wpAny_bind (wpAny_field hz rfl (x:=.ref TO) rfl ?_);refine wpAny_bind (wpAny_setField_rec hz (by simp) λg1 hz1 s1=>?_)
 replace hz1:IsZip g1 z TI TO .ellipsis:=hz1;refine wpAny_bind ?_;simp only[List.zipIdx_cons,List.zipIdx_nil,List.forIn_cons,List.forIn_nil];refine wpAny_bind (wpAny_bind (wpAny_onRaise ?_));show wpAny _ _ (Builtin.SmallTypes.nextOf (.ref i1) >>= _) _ _ _;have t1':T1 k g1:=D1.frame k _ _ h1 λc hc o e=>s1.extBut _ _ (λz'=>Z.zf1 (z'▸hc)) e;rcases hk with rfl|⟨k1,rfl⟩
 .refine wpAny_bind (D1.done _ _ _ t1' λg2 e s2 he=>?_);obtain⟨oe,he1,he2⟩:=he;have hz2:IsZip g2 z TI TO .ellipsis:=s2 _ _ Z.z1 hz1;have hez:e≠z:=λx=>by subst x;rw[hz2] at he1;cases he1;simp at he2
  refine wpAny_setField_rec hz2 (by simp) λg3 _ s3=>hE g3 _ e (λc o hc x=>?_) ⟨oe,s3.extBut _ _ hez he1,he2⟩
  simp only[YY,YZ,Y0,not_or] at hc;exact s3.extBut _ _ hc.1 (s2 _ _ hc.2.2.1 (s1.extBut _ _ hc.1 x))
 .refine wpAny_bind (D1.item k _ _ _ k1 t1' λx g2 tk2 p1 t1 s2=>wpAny_pure ?_);replace s2:Heap.SameBut i1 g1 g2:=s2;have hTO2:IsPair g2 TO a b:=s2.extBut _ _ Z.to1 (s1.extBut _ _ Z.toz hTO);refine wpAny_bind (wpAny_seqItems hTO2 rfl ?_);refine wpAny_bind (wpAny_updateSeq_pair hTO2 λg3 hTO3 s3=>?_);replace s3:Heap.SameBut TO g2 g3:=s3;refine wpAny_bind (wpAny_letGo (wpAny_pure ?_));refine wpAny_bind (wpAny_bind (wpAny_onRaise ?_));show wpAny _ _ (Builtin.SmallTypes.nextOf (.ref i2) >>= _) _ _ _;have t2':T2 k g3:=D2.frame k _ _ h2 λc hc o e=>s3.extBut _ _ (λz'=>Z.tf2 (z'▸hc)) (s2.extBut _ _ (λz'=>Z.if2 (z'▸hc)) (s1.extBut _ _ (λz'=>Z.zf2 (z'▸hc)) e));refine wpAny_bind (D2.done _ _ _ t2' λg4 e s4 he=>?_);obtain⟨oe,he1,he2⟩:=he;have hz4:IsZip g4 z TI TO .ellipsis:=s4 _ _ Z.z2 (s3.extBut _ _ Z.toz.symm (s2.extBut _ _ Z.z1 hz1));have hez:e≠z:=λx=>by subst x;rw[hz4] at he1;cases he1;simp at he2
  refine wpAny_setField_rec hz4 (by simp) λg5 _ s5=>hE g5 _ e (λc o hc x=>?_) ⟨oe,s5.extBut _ _ hez he1,he2⟩
  simp only[YY,YZ,Y0,not_or] at hc;exact s5.extBut _ _ hc.1 (s4 _ _ hc.2.2.2 (s3.extBut _ _ hc.2.1 (s2.extBut _ _ hc.2.2.1 (s1.extBut _ _ hc.1 x))))
end
def jA:Bool->Heap->Addr->Addr->Nat->Prop
 | true,h,it,l,i=>h.IsListIter it l i
 | false,h,it,l,i=>h.IsTupleIter it l i
def fO:Bool->Heap->Addr->Array Value->Prop
 | true,h,l,its=>h.IsList l its
 | false,h,l,its=>h.IsTuple l its
def sI(K:W.Frag)(b:Bool)(H:Hp)(l:Addr)(xs:List V):Prop:=vw K H l=some (if b=true then .lst xs else .tup xs)
theorem kc{prog:Program}{w:World}{A:Around}(hh:A.handled=none)(b:Bool)(it l:Addr)(hne:l≠it)(its:Array Value) :
  Draws prog w A it [it,l] its.size (λi v=>its[i]? = some v) (λi h=>jA b h it l i/\fO b h l its):=by
 cases b with
 | true=>exact Draws.list hh it l hne its
 | false=>exact zy hh it l hne its
theorem jA.at{b:Bool}{h h':Heap}{it l:Addr}{i:Nat}(x:jA b h it l i)(e:∀o,h.get? it=some o->h'.get? it=some o):jA b h' it l i:=by
 cases b with
 | true=>obtain⟨o,ho,r⟩:=x;exact⟨o,e o ho,r⟩
 | false=>obtain⟨o,ho,r⟩:=x;exact⟨o,e o ho,r⟩
theorem jA.obj{b:Bool}{h:Heap}{it l:Addr}{i:Nat}(x:jA b h it l i):∃o,h.get? it=some o /\ ∀v,o.data ≠ .cell v:=by
 cases b with
 | true=>obtain⟨o,ho,_,d⟩:=x;exact⟨o,ho,λv z=>by rw[d] at z;cases z⟩
 | false=>obtain⟨o,ho,_,d⟩:=x;exact⟨o,ho,λv z=>by rw[d] at z;cases z⟩
theorem fO.obj{b:Bool}{h:Heap}{l:Addr}{its:Array Value}(x:fO b h l its):∃o,h.get? l=some o:=by
 cases b with
 | true=>obtain⟨o,ho,_⟩:=x;exact⟨o,ho⟩
 | false=>obtain⟨o,ho,_⟩:=x;exact⟨o,ho⟩
theorem aR.src{X:Cx}{pins:List (Addr×Obj)}{σ:St}{H:Hp}{s:Shared}(I:aR X pins σ H s) {b:Bool}{l:Addr}{xs:List V}(h:sI X.K b H l xs):∃its:List Value,bY xs its/\fO b s.heap l its.toArray/\xs.length<=sizeLine:=by
 cases b with
 | true =>
  obtain⟨its,rv,p,hz⟩:=I.list (kr.of (K:=X.K) (aQ h));exact⟨its,rv,p.isList,hz⟩
 | false =>
  obtain⟨its,rv,p,hz⟩:=I.tuple (dF h);exact⟨its,rv,p,hz⟩
theorem sI.inj{K:W.Frag}{b:Bool}{H:Hp}{l:Addr}{xs ys:List V}(h:sI K b H l xs)(g:sI K b H l ys):xs=ys:=by
 unfold sI at h g;rw[h] at g;cases b<;>cases g<;>rfl
def II(K:W.Frag)(b1 b2:Bool)(l1 l2:Addr):Hp->List (List V)->Prop:=λH ys=>∃xs zs,sI K b1 H l1 xs/\sI K b2 H l2 zs/\ys=List.zipWith (λx z=>[x,z]) xs zs
section
variable {prog:Program}{w:World}{A:Around}{E:Value->Shared->Prop}{s:Shared}{z TI TO i1 i2 l1 l2:Addr}{k:Nat}{b1 b2:Bool}{u1 u2:Array Value}{a b:Value}
theorem KI{n:Nat}(h1 : @LT.lt Nat _ l1 n)(h2 : @LT.lt Nat _ l2 n):lY (n+4) (n+2) (n+3) n (n+1) [n,l1] [n+1,l2]:=by
 constructor<;>(try simp only[YY,YZ,Y0,not_or])<;>(try constructor)<;>(intro e;have e':(_:Nat)=_:=e;nofun)
theorem xh{Q:Option Value->Shared->Prop}(hh:A.handled=none)(Z:lY z TI TO i1 i2 [i1,l1] [i2,l2])(n1:l1≠i1)(n2:l2≠i2)(hz:IsZip s.heap z TI TO .none)(hTI:IsPair s.heap TI (.ref i1) (.ref i2))(hTO:IsPair s.heap TO a b)
  (h1:jA b1 s.heap i1 l1 k)(h2:jA b2 s.heap i2 l2 k)(p1:fO b1 s.heap l1 u1)(p2:fO b2 s.heap l2 u2)(k1:k<u1.size)(k2:k<u2.size)
  (hQ:∀x y g tk,u1[k]? = some x->u2[k]? = some y->IsZip g z TI TO (rawInt s.heap.objs.size)->IsPair g TO x y->jA b1 g i1 l1 (k+1)->jA b2 g i2 l2 (k+1)->IsPair g s.heap.objs.size x y->g.objs.size=s.heap.objs.size+1 ->
   (∀c o,c∉[z,TO,i1,i2]->s.heap.get? c=some o->g.get? c=some o)->Q (some (.ref s.heap.objs.size)) { s with heap:=g,toks:=tk }):wpAny (model prog w) A (pyNext (.ref z)) Q E s:=by
 have hT:s.TypeIs (.ref z) "zip":=⟨_,hz,rfl⟩;unfold pyNext;refine wpAny_bind (wpAny_attempt (wpAny_callSpecial?_slot (name:=Str.ofString "__next__") hT F.slot_zip_next (wpAny_call_entry F.slot_zip_next hT F.entry_zip_next ?_ (F.args_zip_next_1 _))));have D1:Draws prog w A.in1 i1 [i1,l1] u1.size _ _:=kc (A:=A.in1) hh b1 i1 l1 n1 u1;have D2:Draws prog w A.in1 i2 [i2,l2] u2.size _ _:=kc (A:=A.in1) hh b2 i2 l2 n2 u2;exact zj D1 D2 Z hz hTI hTO ⟨h1,p1⟩ ⟨h2,p2⟩ k1 k2 λx y g tk e1 e2 c1 c2 c3 c4 c5 c6 c7=>wpAny_pure (hQ x y g tk e1 e2 c1 c2 c3.1 c4.1 c5 c6 c7)
theorem zh{Q:Option Value->Shared->Prop}(hh:A.handled=none)(Z:lY z TI TO i1 i2 [i1,l1] [i2,l2])(n1:l1≠i1)(n2:l2≠i2)(hz:IsZip s.heap z TI TO .none)(hTI:IsPair s.heap TI (.ref i1) (.ref i2))(hTO:IsPair s.heap TO a b)
  (h1:jA b1 s.heap i1 l1 k)(h2:jA b2 s.heap i2 l2 k)(p1:fO b1 s.heap l1 u1)(p2:fO b2 s.heap l2 u2)(hk:k=u1.size\/(k<u1.size/\k=u2.size))
  (hQ:∀g tk,(∀c o,c∉[z,TO,i1,i2]->s.heap.get? c=some o->g.get? c=some o)->Q none { s with heap:=g,toks:=tk }):wpAny (model prog w) A (pyNext (.ref z)) Q E s:=by
 have hT:s.TypeIs (.ref z) "zip":=⟨_,hz,rfl⟩;unfold pyNext;refine wpAny_bind (wpAny_attempt (wpAny_callSpecial?_slot (name:=Str.ofString "__next__") hT F.slot_zip_next (wpAny_call_entry F.slot_zip_next hT F.entry_zip_next ?_ (F.args_zip_next_1 _))));have D1:Draws prog w A.in1 i1 [i1,l1] u1.size _ _:=kc (A:=A.in1) hh b1 i1 l1 n1 u1;have D2:Draws prog w A.in1 i2 [i2,l2] u2.size _ _:=kc (A:=A.in1) hh b2 i2 l2 n2 u2;refine AJ D1 D2 Z hz hTI hTO ⟨h1,p1⟩ ⟨h2,p2⟩ hk λg tk e hk he=>?_;obtain⟨o,ho,hc⟩:=he;refine wpAny_bind (wpAny_isInstance (T:="StopIteration") (b:=true) ⟨o,ho,hc⟩ isSubtype_stop (wpAny_pure (hQ _ _ hk)))
end
theorem aR.turnL{X:Cx}{pins:List (Addr×Obj)}{σ:St}{H:Hp}{s:Shared}{h':Heap}{t':Nat}{ch:List Addr}(I:aR X pins σ H s)(k:∀b o,b∉ch->s.heap.get? b=some o->h'.get? b=some o)(hf:∀b∈ch,md X pins H b):aR X pins σ H { s with heap:=h',toks:=t' }:=by
 have nch:∀c v,H c=some v->c∉ch:=λc v z hc=>by
  rw[(hf c hc).1] at z;cases z
 refine I.step (g':=s.gens) (d':=s.drawn) (ch:=ch) (λb hb=>?_) (λb o _ _ hc e _=>k b o hc e) (λb o _ _ hc e _=>⟨o.slots,k b o hc e⟩) (λb o _ e n=>n)
  (λb o hc e=>⟨o,k b o hc e⟩) (λb ys e=>e) (λb o u e=>e) (λb ps e=>⟨#[],by rw[e];simp⟩) (λm hm=>?_) (λb u e=>?_) I.bare
 .obtain⟨_,f1,_,f3,f4,f5⟩:=hf b hb;exact⟨f3,f1,f4,f5⟩
 .obtain⟨o,es,ep,ho,r⟩:=hm;exact⟨o,es,ep,k _ o (λz=>(hf _ z).2.1 rfl) ho,r⟩
 .refine (I.hok b u e).stay (λc v hc q=>k c v ?_ q) (λc q=>q) λc ys q=>q;rcases hc with z|z
  .rw[z];exact nch b u e
  .exact nch c _ z
theorem Ce{P:Program}{w:World}{K:W.Frag}{elts:List Expr}{x1:Nat}{pos:Pos}{b1 b2:Bool}(z TI TO i1 i2 l1 l2:Addr)(Z:lY z TI TO i1 i2 [i1,l1] [i2,l2])(n1:l1≠i1)(n2:l2≠i2) :
  wM P w K (.Tuple elts x1 pos) (GH K (II K b1 b2 l1 l2)) [z,TO,i1,i2,TI] z (λi h=>IsZip h z TI TO .none/\IsPair h TI (.ref i1) (.ref i2)/\(∃a b,IsPair h TO a b)/\jA b1 h i1 l1 i/\jA b2 h i2 l2 i) where
 mem:=by simp
 obj:=λi h st b hb=>by
  obtain⟨h1,h2,⟨a,c,h3⟩,h4,h5⟩:=st;simp only[YY,YZ,Y0] at hb;rcases hb with rfl|rfl|rfl|rfl|rfl
  .exact⟨_,h1,λv e=>by cases e⟩
  .exact⟨_,h3,λv e=>by cases e⟩
  .exact h4.obj
  .exact h5.obj
  .exact⟨_,h2,λv e=>by cases e⟩
 keep:=λi h h' st k=>by
  obtain⟨h1,h2,⟨a,c,h3⟩,h4,h5⟩:=st;exact⟨k z (by simp) _ h1,k TI (by simp) _ h2,⟨a,c,k TO (by simp) _ h3⟩,h4.at λo e=>k i1 (by simp) o e,h5.at λo e=>k i2 (by simp) o e⟩
 item:=by
  intro X hP hw hK hc i pins s σ H E I hf st hg;subst hP hw hK;obtain⟨h1,h2,⟨a,c,h3⟩,h4,h5⟩:=st;obtain⟨ys,t,⟨xs,zs,q1,q2,rfl⟩,ht⟩:=hg;have hlt:i<xs.length/\i<zs.length:=by
   have:=(List.getElem?_eq_some_iff.mp ht).1;simp at this;nofun
  obtain⟨u1,r1,p1,z1⟩:=I.src q1;obtain⟨u2,r2,p2,z2⟩:=I.src q2;have e1:=r1.length;have e2:=r2.length;have tx:t=[xs[i]'hlt.1,zs[i]'hlt.2]:=by
   rw[List.getElem?_zipWith,YO hlt.1,YO hlt.2] at ht;exact (Ym ht).symm
  refine xh (I.ok.hd hc) Z n1 n2 h1 h2 h3 h4 h5 p1 p2 (by simp;nofun) (by simp;nofun) λx y g tk ex ey c1 c2 c3 c4 c5 c6 c7=>⟨_,rfl,?_⟩
  refine wpAny_letOwnedTupleGo_zip (s:={ s with heap:=g,toks:=tk }) c1 λg2 d1 d2=>?_
  replace d2:Heap.SameBut z g g2:=d2;have zs':z<s.heap.objs.size:=Heap.lt_size h1;have rx:cy (xs[i]'hlt.1) x:=by
   obtain⟨u,hu,ru⟩:=r1.get (YO hlt.1);rw[List.getElem?_toArray,hu] at ex;cases ex;exact ru
  have ry:cy (zs[i]'hlt.2) y:=by
   obtain⟨u,hu,ru⟩:=r2.get (YO hlt.2);rw[List.getElem?_toArray,hu] at ey;cases ey;exact ru
  have hf4:∀b∈[z,TO,i1,i2],md X pins H b:=λb hb=>hf b (by simp only[YY,YZ,Y0] at hb ⊢;rcases hb with e|e|e|e<;>simp[e])
  have I4:aR X pins σ (upd H s.heap.objs.size (.tup t)) { s with heap:=g2,toks:=tk }:=by
   rw[tx];exact I.turnT (its:=[x,y]) (λb o hb e=>d2.extBut _ _ (λe'=>hb (by simp[e'])) (c7 b o hb e)) hf4 (Yp _) (show 2<=sizeLine by decide) (.cons rx (.cons ry .nil)) ⟨_,d2.extBut _ _ (Nat.ne_of_gt zs') c5,rfl,_,rfl⟩
  have fr:=I.hok.fresh (Yp s.heap.objs.size);have nk:=I.newK (Yp s.heap.objs.size);have hTI2:IsPair g2 TI (.ref i1) (.ref i2):=d2.extBut _ _ Z.tiz (c7 TI _ (by simp[Z.tiz,Z.tito,Z.ti1,Z.ti2]) h2)
  refine⟨.ref s.heap.objs.size,_,I4,rfl,⟨_,_,rfl,by rw[fm nk];exact fr,oj (aB.upd fr),by rw[fm nk];exact dM,?_⟩,⟨d1,hTI2,⟨_,_,d2.extBut _ _ Z.toz c2⟩,c3.at λo e=>d2.extBut _ _ Z.z1.symm e,c4.at λo e=>d2.extBut _ _ Z.z2.symm e⟩,λb hb=>?_⟩
  .rintro ys ⟨xs',zs',q1',q2',rfl⟩;cases q1.inj q1';cases q2.inj q2';exact ht
  .have:b<s.heap.objs.size:=by
    simp only[YY,YZ,Y0] at hb;rcases hb with rfl|rfl|rfl|rfl|rfl
    .exact zs'
    .exact Heap.lt_size h3
    .obtain⟨_,e,_⟩:=h4.obj;exact Heap.lt_size e
    .obtain⟨_,e,_⟩:=h5.obj;exact Heap.lt_size e
    .exact Heap.lt_size h2
   rw[cJ (Yf this)];exact (hf b hb).1
 done:=by
  intro X hP hw hK hc i pins s σ H E I hf st hg;subst hP hw hK;obtain⟨h1,h2,⟨a,c,h3⟩,h4,h5⟩:=st;obtain⟨ys,⟨xs,zs,q1,q2,rfl⟩,hl⟩:=hg;obtain⟨u1,r1,p1,z1⟩:=I.src q1;obtain⟨u2,r2,p2,z2⟩:=I.src q2;have e1:=r1.length;have e2:=r2.length;have hk:i=u1.toArray.size\/(i<u1.toArray.size/\i=u2.toArray.size):=by
   rw[List.length_zipWith] at hl;simp only[Ys];nofun
  have hf4:∀b∈[z,TO,i1,i2],md X pins H b:=λb hb=>hf b (by simp only[YY,YZ,Y0] at hb ⊢;rcases hb with e|e|e|e<;>simp[e])
  exact zh (I.ok.hd hc) Z n1 n2 h1 h2 h3 h4 h5 p1 p2 hk λg tk k=>⟨rfl,I.turnL k hf4⟩
 self:=λ_ _ _ _ _ st h=>wpAny_pyIter_zip st.1 h
def FB(b:Bool)(l:Addr):Obj:=match b with
 | true=>{ cls:=.type "list_iterator",data:=.fields #[.ref l,.int 0 0] }
 | false=>{ cls:=.type "tuple_iterator",data:=.fields #[.ref l,.int 0 0] }
section
variable {prog:Program}{w:World}{A:Around}{E:Value->Shared->Prop}{s:Shared}
theorem yW{b:Bool}{l:Addr}{u:Array Value}{Q:Value->Shared->Prop}(h:fO b s.heap l u)(q:Q (.ref s.heap.objs.size) { s with heap:=s.heap.push (FB b l) }):wpAny (model prog w) A (pyIter (.ref l)) Q E s:=by
 cases b with
 | true=>exact wpAny_pyIter_list h q
 | false=>exact wpAny_pyIter_tuple h q
end
theorem fO.push{b:Bool}{h:Heap}{l:Addr}{u:Array Value}(x:fO b h l u)(o:Obj):fO b (h.push o) l u:=by
 cases b with
 | true=>obtain⟨v,e,r⟩:=x;exact⟨v,Heap.get?_push_of_some _ e,r⟩
 | false=>obtain⟨v,e,r⟩:=x;exact⟨v,Heap.get?_push_of_some _ e,r⟩
theorem jA.new{b:Bool}{h:Heap}{it l:Addr}(e:h.get? it=some (FB b l)):jA b h it l 0:=by
 cases b with
 | true=>exact⟨_,e,rfl,rfl⟩
 | false=>exact⟨_,e,rfl,rfl⟩
abbrev JJ (h:Heap)(b1:Bool)(l1:Addr):Heap:=h.push (FB b1 l1)
abbrev JC (h:Heap)(b1 b2:Bool)(l1 l2:Addr):Heap:=(JJ h b1 l1).push (FB b2 l2)
abbrev JQ (h:Heap)(b1 b2:Bool)(l1 l2:Addr):Heap:=(JC h b1 b2 l1 l2).push { cls:=.type "tuple",data:=.seq #[.ref h.objs.size,.ref (JJ h b1 l1).objs.size] }
abbrev JH (h:Heap)(b1 b2:Bool)(l1 l2:Addr):Heap:=(JQ h b1 b2 l1 l2).push { cls:=.type "tuple",data:=.seq #[.none,.none] }
abbrev Ix (h:Heap)(b1 b2:Bool)(l1 l2:Addr):Heap:=(JH h b1 b2 l1 l2).push { cls:=.type "zip",data:=.fields #[.none,.bool false,.bool false,.ref (JC h b1 b2 l1 l2).objs.size,.ref (JQ h b1 b2 l1 l2).objs.size] }
theorem wk(b1 b2:Bool)(l1 l2:Addr)(u1 u2:Array Value) :
  Meets (Builtin.«zip.__new__» ⟨[.type "zip",.ref l1,.ref l2],[]⟩) (λ_ R s=>fO b1 s.heap l1 u1/\fO b2 s.heap l2 u2/\R (.ok (.ret (.ref (JH s.heap b1 b2 l1 l2).objs.size))) { s with heap:=Ix s.heap b1 b2 l1 l2 }) :=
 .of_wp λprog w A R s h=>by
  obtain⟨hp,g,d,tk,os⟩:=s;obtain⟨q1,q2,h⟩:=h;have hsub:=sub_zip;have y1:fO b1 (Shared.heap ⟨hp,g,d,tk,os⟩) l1 u1:=q1;have y2:fO b2 (Shared.heap ⟨hp.push (FB b1 l1),g,d,tk,os⟩) l2 u2:=fO.push q2 _
  wp_walk using yW y1,yW y2
  exact⟨_,rfl,h⟩
section
variable {prog:Program}{w:World}{A:Around}{E:Value->Shared->Prop}{s:Shared}
theorem ID{b1 b2:Bool}{l1 l2:Addr}{u1 u2:Array Value}{Q:Value->Shared->Prop}(q1:fO b1 s.heap l1 u1)(q2:fO b2 s.heap l2 u2)
  (h:∀g,IsZip g (s.heap.objs.size+4) (s.heap.objs.size+2) (s.heap.objs.size+3) .none->IsPair g (s.heap.objs.size+2) (.ref s.heap.objs.size) (.ref (s.heap.objs.size+1))->IsPair g (s.heap.objs.size+3) .none .none ->
   jA b1 g s.heap.objs.size l1 0->jA b2 g (s.heap.objs.size+1) l2 0->(∀c o,s.heap.get? c=some o->g.get? c=some o)->Q (.ref (s.heap.objs.size+4)) { s with heap:=g }) :
  wpAny (model prog w) A (call (.type "zip") [.ref l1,.ref l2]) Q E s:=by
 refine callType_new F.called_zip ∅ (F.typeCall_zip_2 _ _) (F.newCall_zip_2 _ _) (λobj=>F.args_object_init_3 obj _ _) F.entry_zip_new (wk b1 b2 l1 l2 u1 u2) ⟨q1,q2,?_⟩;have v1:(JJ s.heap b1 l1).objs.size=s.heap.objs.size+1:=Heap.size_push ..;have v2:(JC s.heap b1 b2 l1 l2).objs.size=s.heap.objs.size+2:=by rw[Heap.size_push,v1]
 have v3:(JQ s.heap b1 b2 l1 l2).objs.size=s.heap.objs.size+3:=by rw[Heap.size_push,v2]
 have v4:(JH s.heap b1 b2 l1 l2).objs.size=s.heap.objs.size+4:=by rw[Heap.size_push,v3]
 have g5:(Ix s.heap b1 b2 l1 l2).get? (JH s.heap b1 b2 l1 l2).objs.size=some _:=Heap.get?_push_size _ rfl;have g4:(Ix s.heap b1 b2 l1 l2).get? (JQ s.heap b1 b2 l1 l2).objs.size=some _:=Heap.get?_push_of_some _ (Heap.get?_push_size _ rfl);have g3:(Ix s.heap b1 b2 l1 l2).get? (JC s.heap b1 b2 l1 l2).objs.size=some _:=Heap.get?_push_of_some _ (Heap.get?_push_of_some _ (Heap.get?_push_size _ rfl));have nf:∀b l,(FB b l).isFreed=false:=λb l=>by cases b<;>rfl
 have g2:(Ix s.heap b1 b2 l1 l2).get? (JJ s.heap b1 l1).objs.size=some (FB b2 l2):=Heap.get?_push_of_some _ (Heap.get?_push_of_some _ (Heap.get?_push_of_some _ (Heap.get?_push_size _ (nf _ _))));have g1:(Ix s.heap b1 b2 l1 l2).get? s.heap.objs.size=some (FB b1 l1):=Heap.get?_push_of_some _ (Heap.get?_push_of_some _ (Heap.get?_push_of_some _ (Heap.get?_push_of_some _ (Heap.get?_push_size _ (nf _ _)))));show _/\_;rw[v2,v3,v4] at g5;rw[v1,v2] at g3;rw[v3] at g4;rw[v1] at g2;rw[v4];exact⟨⟨_,g5,rfl⟩,h _ g5 g3 g4 (.new g1) (.new g2) λc o x=>Heap.get?_push_of_some _ (Heap.get?_push_of_some _ (Heap.get?_push_of_some _ (Heap.get?_push_of_some _ (Heap.get?_push_of_some _ x))))⟩
end
def EQ(K:W.Frag)(ta:TA):TI:=λσ H R=>ta σ H λvs H1=>∃a b,vs=[.ref a,.ref b] /\ ∃c d,(∃xs,sI K c H1 a xs)/\(∃ys,sI K d H1 b ys)/\R (GH K (II K c d a b)) H1
theorem GO{X:Cx}{elts:List Expr}{x1:Nat}{tp p pos:Pos}{a b:Expr}{ta:TA}(hg:Gl X "zip") (hm:X.mg "zip" = none) (ha:PA X [a,b] ta)(hs:starEach [a,b] X.env=[(false,eval a X.env),(false,eval b X.env)]:=by rfl)(hs2:starEach [b] X.env=[(false,eval b X.env)]:=by rfl) :
  PI X (.Tuple elts x1 tp) (.Call (.Name "zip" p) [a,b] [] pos) (EQ X.K ta):=by
 intro pins s σ H R I h;refine Call_ (jL I hg hm Gh (Yq (da (ha pos pins s σ H _ I h) λus s1 ⟨vs,H1,I1,r1,q1⟩=>?_) (by rw[hs,hs2]) (by rw[hs2];rfl)))
 obtain⟨l1,l2,e,c,d,⟨xs,hx⟩,⟨ys,hy⟩,q⟩:=q1;subst e;cases r1 with
 | cons r rr =>
  cases rr with
  | cons r' rr =>
   cases rr;cases r;cases r';obtain⟨u1,t1,p1,_⟩:=I1.src hx;obtain⟨u2,t2,p2,_⟩:=I1.src hy;refine ID p1 p2 λg c1 c2 c3 c4 c5 k=>?_;refine wpAny_pyIter_zip (s:={ s1 with heap:=g }) c1 ?_
   have m1:l1<s1.heap.objs.size:=by obtain⟨_,e⟩:=p1.obj;exact Heap.lt_size e
   have m2:l2<s1.heap.objs.size:=by obtain⟨_,e⟩:=p2.obj;exact Heap.lt_size e
   refine⟨_,_,_,_,H1,rfl,I1.kept (t':=s1.toks) k,Ce _ _ _ _ _ l1 l2 (KI m1 m2) (Yf m1) (Yf (Nat.lt_succ_of_lt m2)),⟨c1,c2,⟨_,_,c3⟩,c4,c5⟩,λf hf=>?_,q⟩;have hf':s1.heap.objs.size<=f:=by
    simp only[YY,YZ,Y0] at hf;rcases hf with z|z|z|z|z<;>rw[z]
    .exact Nat.le_add_right _ 4
    .exact Nat.le_add_right _ 3
    .exact Yp _
    .exact Nat.le_add_right _ 1
    .exact Nat.le_add_right _ 2
   exact I1.fpOk hf' (I1.hok.fresh hf')
theorem CZ{X:Cx}{elts:List Expr}{x1:Nat}{tp p pos:Pos}{a b:Expr}{ta:TA}(hg:Gl X "zip") (hm:X.mg "zip" = none) (ha:QA X [a,b] ta)(hs:starEach [a,b] X.env=[(false,eval a X.env),(false,eval b X.env)]:=by rfl)(hs2:starEach [b] X.env=[(false,eval b X.env)]:=by rfl) :
  QI X (.Tuple elts x1 tp) (.Call (.Name "zip" p) [a,b] [] pos) (EQ X.K ta):=⟨GO hg hm ha.h hs hs2⟩
def EF(K:W.Frag)(a:Addr)(σr:St)(Pv:List V->Hp->Prop):St->Hp->Prop:=λσ H=>(∃y z,σ=y::z::σr) /\ ∃xs,vw K H a=some (.lst xs)/\Pv xs H
theorem rH{K:W.Frag}{R:Hp->List (List V)->Prop}{ps:List (V×V)}{tif:TT}{te:TE}{a:Addr}{x0 x1:Option V}{σr:St}{H0:Hp}{Q:Hp->Prop}(Pv:Nat->List V->Hp->Prop)
  (hl:∀i xs H,i<=ps.length->vw K H a=some (.lst xs)->Pv i xs H->R H (ps.map λp=>[p.1,p.2]))(ha:vw K H0 a=some (.lst []))(h0:Pv 0 [] H0)
  (hs:∀i x y xs H H',i<ps.length->ps[i]? = some (x,y)->vw K H' a=some (.lst xs)->Pv i xs H->aB (vw K H) (vw K H')->tif (some x::some y::σr) H' λb H3=>if b=true then te (some x::some y::σr) H3 (GG K a (EF K a σr (Pv (i+1)) (some x::some y::σr))) else EF K a σr (Pv (i+1)) (some x::some y::σr) H3)
  (hd:∀xs H,vw K H a=some (.lst xs)->Pv ps.length xs H->Q H):pU K (GH K R) (kG K 2 (kI (gQ 0) (kI (gQ 1) wV))) tif te a (x0::x1::σr) H0 Q:=by
 refine⟨λi m σ H=>m=ps.length-i/\i<=ps.length/\EF K a σr (Pv i) σ H,⟨ps.length,by simp,YT _,⟨_,_,rfl⟩,_,ha,h0⟩,?_⟩
 rintro i m σ H ⟨rfl,hi,⟨y,z,rfl⟩,xs,hxs,p⟩;have q:=hl i xs H hi hxs p;by_cases hlt:i<ps.length
 .refine .inr ⟨⟨_,_,q,by rw[Yz,YO hlt];rfl⟩,EF K a σr (Pv (i+1)),λσ' H' p'=>⟨ps.length-(i+1),(),rfl,hlt,p'⟩,λx H' y=>?_⟩
  obtain⟨b,t,rfl,y1,y2,y3,y4⟩:=y;have e:=y4 _ q;rw[Yz,YO hlt] at e;cases e;exact⟨b,rfl,_,y3,rfl,_,_,rfl,_,_,rfl,rfl,hs i _ _ xs H H' hlt (YO hlt) (y2 _ _ hxs) p y2⟩
 .have e:i=ps.length:=();subst e;exact .inl ⟨⟨_,q,by simp⟩,hd xs H hxs p⟩
theorem GG.mk2{K:W.Frag}{a:Addr}{σr:St}{Pv:List V->Hp->Prop}{x y:Option V}{v:V}{H:Hp}{xs:List V}(h:vw K H a=some (.lst xs))(hz:xs.length<sizeLine)
  (q:∀H5,gB a (vw K H) (vw K H5)->vw K H5 a=some (.lst (xs++[v]))->Pv (xs++[v]) H5):GG K a (EF K a σr Pv (x::y::σr)) v H:=⟨xs,h,hz,λH5 B h5=>⟨⟨_,_,rfl⟩,_,h5,q H5 B h5⟩⟩
theorem vt{xs ys:List V}:List.zipWith (λx z=>[x,z]) xs ys=(xs.zip ys).map λp=>[p.1,p.2]:=by
 rw[List.zip,List.map_zipWith]
def wv(q:Int×Int):Rat:=(q.1:Rat)/(q.2:Rat)
theorem am{b:Int}(h:b≠0):(b:Rat)≠0:=by simpa using h
theorem ix{a b:Int}(hb:b≠0):wv (lo a b)=(a:Rat)/(b:Rat):=by
 have e1:=fA (a:=a) hb;have e2:=fI (a:=a) hb;have hg:=am (BE (a:=a) hb);have hd:(lo a b).2≠0:=by have:=(iH (a:=a) hb).1;nofun
 have hd':=am hd;have c1:((lo a b).1:Rat)*(lg a b:Rat)=(a:Rat):=by
  have:=Yn (λi:Int=>(i:Rat)) e1;simpa using this
 have c2:((lo a b).2:Rat)*(lg a b:Rat)=(b:Rat):=by
  have:=Yn (λi:Int=>(i:Rat)) e2;simpa using this
 unfold wv;rw[<-c1,<-c2];grind
theorem yD{a b c:Int}(h:b∣a*c)(hg:Int.gcd a b=1):b∣c:=by
 have h1:b.natAbs∣a.natAbs*c.natAbs:=by
  rw[<-YV];exact Int.natAbs_dvd_natAbs.mpr h
 have h2:Nat.Coprime b.natAbs a.natAbs:=by
  unfold Nat.Coprime;rw[Nat.gcd_comm];exact hg
 exact Int.natAbs_dvd_natAbs.mp (Nat.Coprime.dvd_of_dvd_mul_left h2 h1)
theorem je{p q:Int×Int}(hp:Fq p)(hq:Fq q)(h:wv p=wv q):p=q:=by
 have h1:=am (show p.2≠0 by have:=hp.1;nofun)
 have h2:=am (show q.2≠0 by have:=hq.1;nofun)
 have e:p.1*q.2=q.1*p.2:=by
  unfold wv at h;have:(p.1:Rat)*(q.2:Rat)=(q.1:Rat)*(p.2:Rat):=⋯;have h3:((p.1*q.2:Int):Rat)=((q.1*p.2:Int):Rat):=by simpa using this
  exact Rat.intCast_inj.mp h3
 have d1:p.2∣q.2:=by
  have:p.2∣p.1*q.2:=⟨q.1,by rw[e,Y6]⟩
  exact yD this hp.2
 have d2:q.2∣p.2:=by
  have:q.2∣q.1*p.2:=⟨p.1,by rw[<-e,Y6]⟩
  exact yD this hq.2
 have e2:p.2=q.2:=Int.dvd_antisymm (YS hp.1) (YS hq.1) d1 d2;rw[e2] at e;have e1:p.1=q.1:=Y7 (by have:=hq.1;nofun) e
 exact Prod.ext e1 e2
theorem pE{p q:Int×Int}(hp:p.2≠0)(hq:q.2≠0):wv (qi p q)=wv p+wv q:=by
 unfold qi;rw[ix (Y8 hp hq)];unfold wv;have h1:=am hp;have h2:=am hq;simp only[Y9,Xa];grind
def mW(p q:Int×Int):Int×Int:=lo (p.1*q.1) (p.2*q.2)
theorem jf{p q:Int×Int}(hp:Fq p)(hq:Fq q):Fq (mW p q):=iH (by have:=Y4 hp.1 hq.1;nofun)
theorem lM{p q:Int×Int}{m n:Nat}(hp:Fq p)(hq:Fq q)(h1:Bq m p)(h2:Bq n q):Bq (m+n) (mW p q):=oB (by have:=Y4 hp.1 hq.1;nofun) (h1.1.mul h2.1) (h1.2.mul h2.2)
theorem kO{p q:Int×Int}(hp:p.2≠0)(hq:q.2≠0):wv (mW p q)=wv p*wv q:=by
 unfold mW;rw[ix (Y8 hp hq)];unfold wv;have h1:=am hp;have h2:=am hq;simp only[Xa];grind
section
variable {X:Cx}
def lE:List Int->Int
 | []=>0
 | a::as=>a+lE as
theorem oH(as bs:List Int):lE (as++bs)=lE as+lE bs:=by
 induction as with
 | nil=>simp[lE]
 | cons a as ih=>simp only[List.cons_append,lE,ih];nofun
theorem nC(ns:List Int):∀k,k<=ns.length->preSum (λi=>ns.getD i 0) k=lE (ns.take k)
 | 0,_=>rfl
 | k+1,h=>by
  have hk:k<ns.length:=();show preSum _ k+ns.getD k 0=_;rw[nC ns k (),Xb,YO hk,oH];simp[lE,Xc,YO hk]
theorem uU:∀{ns:List Int}{us:List Value},bY (ns.map V.int) us -> ∀{i:Nat}{v:Value},us[i]? = some v -> ∃t,v=.int (ns.getD i 0) t
 | [],us,h,i,v,e=>by cases h;cases e
 | n::ns,us,h,i,v,e=>by
  cases h with
  | cons r rr =>
   cases i with
   | zero =>
    cases e;obtain⟨t,rfl⟩:=r;exact⟨t,rfl⟩
   | succ i =>
    obtain⟨t,q⟩:=uU rr (i:=i) e;exact⟨t,by rw[q];simp⟩
theorem qN(hh:X.calm=true):fQ X (.builtin "sum") (λxs H Q=>∃p,xs=[.ref p] /\ ∃ns:List Int,vw X.K H p=some (.lst (ns.map V.int))/\Q (.int (lE ns)) H):=by
 intro pins s σ H xs us Q I r h;obtain⟨p,rfl,ns,hp,q⟩:=h;cases r with
 | cons r1 rr =>
  cases rr;cases r1;obtain⟨its,rv,pl,hz⟩:=I.list (kr.of (K:=X.K) (aQ hp));have hl:=rv.length;rw[YC] at hl;have hlt:p<s.heap.objs.size:=by obtain⟨o,n,e1,_⟩:=pl;exact Heap.lt_size e1
  refine call_sum_walkG (wpAny_pyIter_list pl.isList ⟨s.heap.objs.size,_,_,_,_,_,λi=>ns.getD i 0,rfl,Walks.list (show X.A.in1.handled=none from I.ok.hd hh) _ p (Yf hlt) _,⟨⟨_,Heap.get?_push_size _ rfl,rfl,rfl⟩,pl.isList.push _⟩,?_,λi v hv=>uU rv (by simpa using hv),λh' tk t' hk=>?_⟩)
  .intro b hb;show b<(s.heap.push _).objs.size;rw[Heap.size_push];simp only[YY,YZ,Y0] at hb;rcases hb with e|e
   .rw[e];exact Nat.lt_succ_self _
   .rw[e];exact Nat.lt_succ_of_lt hlt
  .refine⟨.int (lE ns),H,I.kept λb o e=>hk b o (λz=>?_) (Heap.get?_push_of_some _ e),⟨t',?_⟩,q⟩
   .rw[List.mem_singleton.mp z] at e;exact absurd (Heap.lt_size e) (Ye _)
   .rw[Ys,<-hl,nC ns _ (Yp _),Xd]
theorem tJ:FO X .Mult (λx y H Q=>∃i j,x=.int i/\y=.int j/\IntMulOk i j/\Q (.int (i*j)) H):=by
 intro pins s σ H x y v u Q I r1 r2 h;obtain⟨i,j,rfl,rfl,m,q⟩:=h;obtain⟨t,rfl⟩:=r1;obtain⟨t',rfl⟩:=r2;exact imul_int ⟨.int _,H,I.tok _,⟨_,rfl⟩,q⟩ m
theorem pe{st:Stmt}:QS X st vC:=⟨Cg⟩
theorem AT:bootBuiltins "sum" = some (.builtin "sum"):=by decide +kernel
end
theorem pQ{K:W.Frag}{J:It}{its:List V}{ps:List (V×V)}{tif:TT}{te:TE}{a:Addr}{x0 x1:Option V}{σr:St}{H0:Hp}{Q:Hp->Prop}(Pv:Nat->List V->Hp->Prop)(hlen:its.length=ps.length)
  (hl:∀i xs H,i<=its.length->vw K H a=some (.lst xs)->Pv i xs H->ql J H its /\ ∀(j:Nat)(x y:V),ps[j]? = some (x,y) -> ∃p:Addr,its[j]? = some (V.ref p)/\vw K H p=some (HO.tup [x,y]))(ha:vw K H0 a=some (.lst []))(h0:Pv 0 [] H0)
  (hs:∀i x y xs H,i<ps.length->ps[i]? = some (x,y)->vw K H a=some (.lst xs)->Pv i xs H->tif (some x::some y::σr) H λb H3=>if b=true then te (some x::some y::σr) H3 (GG K a (EF K a σr (Pv (i+1)) (some x::some y::σr))) else EF K a σr (Pv (i+1)) (some x::some y::σr) H3)
  (hd:∀xs H,vw K H a=some (.lst xs)->Pv ps.length xs H->Q H):pU K J (kG K 2 (kI (gQ 0) (kI (gQ 1) wV))) tif te a (x0::x1::σr) H0 Q:=by
 refine⟨λi m σ H=>m=ps.length-i/\i<=ps.length/\EF K a σr (Pv i) σ H,⟨ps.length,by simp,YT _,⟨_,_,rfl⟩,_,ha,h0⟩,?_⟩
 rintro i m σ H ⟨rfl,hi,⟨y,z,rfl⟩,xs,hxs,p⟩;obtain⟨⟨q1,q2,q3⟩,q4⟩:=hl i xs H () hxs p;by_cases hlt:i<ps.length
 .refine .inr ⟨q1 i (),EF K a σr (Pv (i+1)),λσ' H' p'=>⟨ps.length-(i+1),(),rfl,hlt,p'⟩,λx H' y=>?_⟩;obtain⟨e,y2⟩:=q2 i x H' () y;subst e;obtain⟨b,e1,e2⟩:=q4 i _ _ (YO hlt);rw[e1] at y2;cases y2;exact⟨b,rfl,_,e2,rfl,_,_,rfl,_,_,rfl,rfl,hs i _ _ xs _ hlt (YO hlt) hxs p⟩
 .have e:i=ps.length:=();subst e;exact .inl ⟨hlen▸q3,hd xs H hxs p⟩
theorem gj{g q:Int}(hg:g≠0)(h:g∣q):q.fdiv g*g=q:=by
 obtain⟨m,rfl⟩:=h;rw[Y6 g m,Int.mul_fdiv_cancel m hg]
theorem yQ{a b:Int}(ha:0<=a)(hb:1<=b):a<=a*b:=by
 have:=Int.mul_le_mul_of_nonneg_left hb ha;nofun
theorem uJ{b q:Int}(hb:0<b)(hq:0<q):0<q.fdiv (Int.gcd b q:Int)/\q.fdiv (Int.gcd b q:Int)<=q/\q∣b*q.fdiv (Int.gcd b q:Int)/\(Int.gcd b q:Int)≠0/\(Int.gcd b q:Int)<=q:=by
 have hg:(Int.gcd b q:Int)≠0:=by
  have:Int.gcd b q≠0:=λe=>by
   have:=(Int.gcd_eq_zero_iff.mp e).2;nofun
  nofun
 have hg0:0<(Int.gcd b q:Int):=();have e:=gj hg (Int.gcd_dvd_right b q);have hle:(Int.gcd b q:Int)<=q:=Int.le_of_dvd hq (Int.gcd_dvd_right b q);generalize q.fdiv (Int.gcd b q:Int)=c at e;obtain⟨m,hm⟩:=Int.gcd_dvd_left b q;have hc:0<c:=by
  refine Xe ?_ hg0;rw[e];exact hq
 refine⟨hc,?_,⟨m,?_⟩,hg,hle⟩
 .rw[<-e];exact yQ () ()
 .rw[<-e];generalize (Int.gcd b q:Int)=g at *
  rw[hm];rw[Int.mul_right_comm,Y6 c g]
theorem Bt.le{n:Nat}{x y:Int}(h:Bt n y)(h0:0<=x)(hl:x<=y):Bt n x:=by
 unfold Bt at *
 nofun
theorem uz{q:Int×Int}{D:Int}{m n:Nat}(hq:Fq q)(hd:q.2∣D)(hD:0<D)(b1:Bt m D)(b2:Bt n q.1):((q.1*D.fdiv q.2:Int):Rat)=wv q*(D:Rat)/\Bt (m+n) (q.1*D.fdiv q.2)/\Bt m (D.fdiv q.2):=by
 have h2:q.2≠0:=by have:=hq.1;nofun
 have e:=gj h2 hd;have hp:0<D.fdiv q.2:=by
  refine Xe ?_ hq.1;rw[e];exact hD
 have hle:D.fdiv q.2<=D:=by
  have:=yQ (YS hp) (show 1<=q.2 by have:=hq.1;nofun)
  rw[e] at this;exact this
 have bm:=b1.le (YS hp) hle;refine⟨?_,(b2.mul bm).mono (),bm⟩;generalize D.fdiv q.2=c at *
 have h3:=am h2;rw[<-e];unfold wv;simp only[Xa];grind
def aJ(x:Rat):Nat->Rat
 | 0=>1
 | k+1=>aJ x k*x
def jN:List nJ->Nat->Rat
 | [],_=>0
 | c::cs,k=>wv c.2*aJ (wv c.1) k+jN cs k
theorem qo{G:Hp}:∀{cs:List nJ}{xs:List V},aN G (cs.map zf) xs -> ∃ps:List (V×V),ps.length=cs.length/\(∀(j:Nat)(x y:V),ps[j]? = some (x,y) -> ∃p:Addr,xs[j]? = some (V.ref p)/\G p=some (HO.tup [x,y])) /\
  aN G ((cs.map (·.1)).map fr) (ps.map (·.1))/\aN G ((cs.map (·.2)).map fr) (ps.map (·.2))
 | [],xs,h=>⟨[],rfl,by simp,.mk_nil,.mk_nil⟩
 | c::cs,xs,h=>by
  obtain⟨x,r,rfl,h1,h2⟩:=aN.cons_at h;obtain⟨ps,e1,e2,e3,e4⟩:=qo h2;obtain⟨a,u,v,rfl,ha,r1,r2⟩:=h1.spt_at;refine⟨(u,v)::ps,by simp[e1],λj x y e=>?_,.mk_cons r1 e3,.mk_cons r2 e4⟩
  cases j with
  | zero=>cases e;exact⟨a,rfl,ha⟩
  | succ j=>exact e2 j x y e
theorem kd(x:Rat)(k:Nat):aJ x (k+1)=aJ x k*x:=rfl
def mP:List (Int×Int)->Rat
 | []=>0
 | q::qs=>wv q+mP qs
theorem Ao(as bs:List (Int×Int)):mP (as++bs)=mP as+mP bs:=by
 induction as with
 | nil=>show mP bs=0+mP bs;grind
 | cons a as ih=>show wv a+mP (as++bs)=wv a+mP as+mP bs;rw[ih];grind
theorem uL{k:Nat}:∀{cs:List nJ}{qs:List (Int×Int)},qs.length=cs.length->(∀(i:Nat)(q:Int×Int)(c:nJ),qs[i]? = some q->cs[i]? = some c->wv q=wv c.2*aJ (wv c.1) k)->mP qs=jN cs k
 | [],[],_,_=>rfl
 | [],_::_,h,_=>by simp at h
 | _::_,[],h,_=>by simp at h
 | c::cs,q::qs,h,hw=>by
  show wv q+mP qs=wv c.2*aJ (wv c.1) k+jN cs k;rw[uL (cs:=cs) (qs:=qs) (by simpa using h) λi n d e1 e2=>hw (i+1) n d (by simpa using e1) (by simpa using e2),hw 0 q c rfl rfl]
theorem uk{d:D}(h:d.cmp):DD d d=true:=SeqAt.eqv_refl _ h.1
def wz(p q:Int×Int):Int×Int:=lo (p.1*q.2-q.1*p.2) (p.2*q.2)
def CK(p q:Int×Int):Int×Int:=lo (p.1*q.2) (p.2*q.1)
theorem xP{p q:Int×Int}(hp:Fq p)(hq:Fq q):Fq (wz p q):=iH (by have:=Y4 hp.1 hq.1;nofun)
theorem Fe{p q:Int×Int}(hp:Fq p)(h0:q.1≠0):Fq (CK p q):=iH (Y8 (by have:=hp.1;nofun) h0)
theorem CP{p q:Int×Int}(hp:p.2≠0)(hq:q.2≠0):wv (wz p q)=wv p-wv q:=by
 unfold wz;rw[ix (Y8 hp hq)];unfold wv;have h1:=am hp;have h2:=am hq;simp only[Rat.intCast_sub,Xa];grind
theorem Gd{p q:Int×Int}(hp:p.2≠0)(hq:q.2≠0)(h0:q.1≠0):wv (CK p q)=wv p/wv q:=by
 unfold CK;rw[ix (Y8 hp h0)];unfold wv;have h1:=am hp;have h2:=am hq;have h3:=am h0;simp only[Xa];grind
theorem fP{q:Int×Int}(hq:q.2≠0):wv q=0↔q.1=0:=by
 have h2:=am hq;unfold wv;constructor
 .intro h;have:(q.1:Rat)=0:=⋯;simpa using this
 .intro h;have:(q.1:Rat)=0:=by rw[h];rfl
  rw[this];grind
def cf(qs:List (Int×Int))(k:Nat):Rat:=match qs[k]? with
 | some q=>wv q
 | none=>0
def aL(qs:List (Int×Int)):Prop:=(∀q∈qs,Fq q) /\ ∀q,qs.getLast? = some q->q.1≠0
theorem Fq.ne{q:Int×Int}(h:Fq q):q.2≠0:=by have:=h.1;nofun
theorem aG{qs:List (Int×Int)}{k:Nat}{q:Int×Int}(h:qs[k]? = some q):cf qs k=wv q:=by unfold cf;rw[h]
theorem aK{qs:List (Int×Int)}{k:Nat}(h:qs.length<=k):cf qs k=0:=by unfold cf;rw[Xf h]
theorem G4(k:Nat):cf [] k=0:=rfl
theorem j7{qs:List (Int×Int)}{n:Nat}(hF:∀q∈qs,Fq q)(hz:∀q∈qs.drop n,q.1=0)(k:Nat):cf (qs.take n) k=cf qs k:=by
 by_cases hk:k<n
 .unfold cf;rw[Xg,Yb hk]
 .unfold cf;rw[Xg,Yc hk];cases e:qs[k]? with
  | none=>rfl
  | some q =>
   have hm:q∈qs.drop n:=YA (i:=k-n) (by rw[Xh,show n+(k-n)=k by nofun];exact e)
   exact ((fP (hF q (YA e)).ne).mpr (hz q hm)).symm
theorem nY{q:Int×Int}(h:Fq q):q=(0,1)↔q.1=0:=by
 constructor
 .rintro rfl;rfl
 .intro e;obtain⟨h1,h2⟩:=h;rw[e] at h2;have:q.2.natAbs=1:=by simpa using h2
  exact Prod.ext e (by show q.2=1;nofun)
def Kt:List Int->Rat->Rat
 | [],_=>0
 | n::ns,x=>(n:Rat)+x*Kt ns x
def pz(f g:Nat->Int):Nat->Nat->Int
 | 0,_=>0
 | j+1,k=>pz f g j k+if j<=k then f j*g (k-j) else 0
def pr(f g:Nat->Rat):Nat->Nat->Rat
 | 0,_=>0
 | j+1,k=>pr f g j k+if j<=k then f j*g (k-j) else 0
theorem og{f g:Nat->Int}{F G:Nat->Rat}{c d:Rat}(hf:∀i,(f i:Rat)=F i*c)(hg:∀i,(g i:Rat)=G i*d):∀j k,((pz f g j k:Int):Rat)=pr F G j k*(c*d)
 | 0,k=>by
  show ((0:Int):Rat)=0*(c*d);grind
 | j+1,k=>by
  show (((pz f g j k+if j<=k then f j*g (k-j) else 0:Int)):Rat)=(pr F G j k+if j<=k then F j*G (k-j) else 0)*(c*d)
  rw[Y9,og hf hg j k];split
  .rw[Xa,hf,hg];grind
  .grind
theorem hU{n:Nat}:Bt n 0:=by
 show (0:Int).natAbs<2^n;exact Nat.two_pow_pos n
theorem yI{f g:Nat->Int}{m n:Nat}(hf:∀i,Bt m (f i))(hg:∀i,Bt n (g i)):∀j k,Bt (m+n+j) (pz f g j k)
 | 0,k=>hU
 | j+1,k=>by
  have h1:=yI hf hg j k;have h2:Bt (m+n) (if j<=k then f j*g (k-j) else 0):=by
   split
   .exact (hf j).mul (hg _)
   .exact hU
  exact (h1.add h2).mono ()
def qz(f g:Nat->Int)(j l k:Nat):Int:=pz f g j k+if j<=k/\k-j<l then f j*g (k-j) else 0
theorem Kq(f g:Nat->Int)(j k:Nat):qz f g j 0 k=pz f g j k:=by simp[qz]
theorem IE(f g:Nat->Int)(j l k:Nat):qz f g j (l+1) k=if k=j+l then qz f g j l (j+l)+f j*g l else qz f g j l k:=by
 by_cases h:k=j+l
 .subst h;rw[Yb rfl];unfold qz;rw[Yb (),Yc (),show j+l-j=l by nofun]
  nofun
 .rw[Yc h];unfold qz;by_cases h2:j<=k/\k-j<l
  .rw[Yb h2,Yb ()]
  .rw[Yc h2,Yc ()]
theorem GE{f g:Nat->Int}{n:Nat}(hg:∀i,n<=i->g i=0)(j k:Nat):qz f g j n k=pz f g (j+1) k:=by
 show _=pz f g j k+if j<=k then f j*g (k-j) else 0
 unfold qz;by_cases h:j<=k
 .rw[Yb h];by_cases h2:k-j<n
  .rw[Yb ⟨h,h2⟩]
  .rw[Yc (),hg _ (),Xi]
 .rw[Yc h,Yc ()]
def qr(f g:Nat->Rat)(j l k:Nat):Rat:=pr f g j k+if j<=k/\k-j<l then f j*g (k-j) else 0
theorem Kc(f g:Nat->Rat)(j k:Nat):qr f g j 0 k=pr f g j k:=by
 unfold qr;rw[Yc ()];grind
theorem Jd(f g:Nat->Rat)(j l k:Nat):qr f g j (l+1) k=if k=j+l then qr f g j l (j+l)+f j*g l else qr f g j l k:=by
 by_cases h:k=j+l
 .subst h;rw[Yb rfl];unfold qr;rw[Yb (),Yc (),show j+l-j=l by nofun]
  grind
 .rw[Yc h];unfold qr;by_cases h2:j<=k/\k-j<l
  .rw[Yb h2,Yb ()]
  .rw[Yc h2,Yc ()]
theorem GA{f g:Nat->Rat}{n:Nat}(hg:∀i,n<=i->g i=0)(j k:Nat):qr f g j n k=pr f g (j+1) k:=by
 show _=pr f g j k+if j<=k then f j*g (k-j) else 0
 unfold qr;by_cases h:j<=k
 .rw[Yb h];by_cases h2:k-j<n
  .rw[Yb ⟨h,h2⟩]
  .rw[Yc (),hg _ ()];grind
 .rw[Yc h,Yc ()]
theorem fK{f g:Nat->Rat}{n:Nat}(hg:∀i,n<=i->g i=0):∀(j k:Nat),j+n<=k+1->pr f g j k=0
 | 0,k,_=>rfl
 | j+1,k,h=>by
  show pr f g j k+(if j<=k then f j*g (k-j) else 0)=0
  rw[fK hg j k ()];by_cases h1:j<=k
  .rw[Yb h1,hg _ ()];grind
  .rw[Yc h1];grind
def lz{α:Type}(n:Nat)(h:Nat->α):List α:=(List.range n).map h
theorem aZ{α:Type}{n:Nat}{h:Nat->α}:(lz n h).length=n:=by simp[lz]
theorem dj{α:Type}{n:Nat}{h:Nat->α}{i:Nat}(hi:i<n):(lz n h)[i]? = some (h i):=by simp[lz,hi]
theorem iy{α:Type}{n:Nat}{h g:Nat->α}(e:∀k,k<n->h k=g k):lz n h=lz n g:=by
 apply List.ext_getElem?
 intro i;by_cases hi:i<n
 .rw[dj hi,dj hi,e i hi]
 .rw[Xf (by rw[aZ];nofun),Xf (by rw[aZ];nofun)]
theorem CB{α:Type}{n:Nat}{h:Nat->α}{i:Nat}{v:α}:(lz n h).set i v=lz n λk=>if k=i then v else h k:=by
 apply List.ext_getElem?
 intro k;by_cases hk:k<n
 .rw[dj hk];by_cases e:k=i
  .subst e;rw[List.getElem?_set_self (by rw[aZ];exact hk),Yb rfl]
  .rw[Yl (Yk e),dj hk,Yc e]
 .rw[Xf (by rw[YG,aZ];nofun),Xf (by rw[aZ];nofun)]
theorem sX{α β:Type}{n:Nat}{h:Nat->α}(f:α->β):(lz n h).map f=lz n λk=>f (h k):=by simp[lz]
theorem G1{α:Type}(n:Nat)(x:α):(List.replicate n [x]).flatten=lz n λ_=>x:=by
 induction n with
 | zero=>rfl
 | succ n ih =>
  apply List.ext_getElem?
  intro i;rw[show (List.replicate (n+1) [x]).flatten=List.replicate (n+1) x by simp]
  by_cases hi:i<n+1
  .rw[dj hi,List.getElem?_replicate_of_lt hi]
  .rw[Xf (by simp;nofun),Xf (by rw[aZ];nofun)]
def nz(ns:List Int)(k:Nat):Int:=ns.getD k 0
theorem cq{ns:List Int}{k:Nat}{n:Int}(h:ns[k]? = some n):nz ns k=n:=by simp[nz,Xc,h]
theorem bA{ns:List Int}{k:Nat}(h:ns.length<=k):nz ns k=0:=by simp[nz,Xc,Xf h]
theorem gf{ns:List Int}{m:Nat}(h:∀n∈ns,Bt m n)(k:Nat):Bt m (nz ns k):=by
 cases e:ns[k]? with
 | none=>rw[bA (List.getElem?_eq_none_iff.mp e)];exact hU
 | some n=>rw[cq e];exact h n (YA e)
theorem mZ{n k:Nat}{h:Nat->Int}(hk:k<n):nz (lz n h) k=h k:=cq (dj hk)
theorem dN{qs:List (Int×Int)}{ns:List Int}{D:Rat}(hl:ns.length=qs.length)(h:∀(i:Nat)(n:Int)(q:Int×Int),ns[i]? = some n->qs[i]? = some q->(n:Rat)=wv q*D)(i:Nat):((nz ns i:Int):Rat)=cf qs i*D:=by
 by_cases hi:i<qs.length
 .have e1:=YO hi;have e2:=YO (show i<ns.length by nofun)
  rw[cq e2,aG e1];exact h i _ _ e2 e1
 .rw[bA (),aK ()];show ((0:Int):Rat)=0*D;grind
theorem aN.set{H:Hp}:∀{ds:List D}{xs:List V}(i:Nat) {d:D}{x:V},aN H ds xs->aI H d x->aN H (ds.set i d) (xs.set i x)
 | [],xs,i,d,x,h,g=>by
  cases h.nil_at;exact .mk_nil
 | d0::ds,xs,i,d,x,h,g=>by
  obtain⟨x0,r,rfl,h1,h2⟩:=h.cons_at;cases i with
  | zero=>exact .mk_cons g h2
  | succ i=>exact .mk_cons h1 (h2.set i g)
theorem xE{qs:List (Int×Int)}{i k:Nat}{q:Int×Int}(hi:i<qs.length):cf (qs.set i q) k=if k=i then wv q else cf qs k:=by
 by_cases h:k=i
 .subst h;rw[Yb rfl,aG (List.getElem?_set_self hi)]
 .rw[Yc h];unfold cf;rw[Yl (Yk h)]
theorem i6{n k:Nat}(h:k<n):wK n (k:Int)=some k:=by
 unfold wK;simp;nofun
theorem iz{X:Cx}:Ir X (λo i H Q=>∃p k,o=.ref p/\i=.int k /\ ∃xs,vw X.K H p=some (.lst xs) /\ ∃v,nN xs k=some v/\Q v H):=by
 intro pins s σ H x y v u Q I rx ry h;obtain⟨p,k,rfl,rfl,xs,hx,z,he,q⟩:=h;cases rx;obtain⟨t,rfl⟩:=ry;obtain⟨its,r,pl,hz⟩:=I.list (kr.of (K:=X.K) (aQ hx));obtain⟨j,h1,h2,h3,h4,h5⟩:=tu he;obtain⟨w,ew,rw'⟩:=r.get h2;have hl:=r.length;have hn:=mf;have fin:EP X pins σ Q w s:=⟨z,H,I,rw',q⟩;by_cases h0:0<=k
 .have hj:k.toNat=j:=by
   rw[seqIndex_of h0 h5] at h1;exact Ym h1
  exact wpAny_getItem_list pl.isList h0 () (by rw[hj];simpa using ew) fin
 .have hj:(k+(its.toArray.size:Int)).toNat=j:=by
   rw[seqIndex_neg () h4] at h1;rw[Ys,<-hl];exact Ym h1
  exact wpAny_getItem_list_neg pl.isList () (by rw[Ys]<;>nofun) () (by rw[hj];simpa using ew) fin
theorem ke{K:W.Frag}{H:Hp}{p:Addr}{xs:List V}(h:vw K H p=some (.lst xs)):vk K (.ref p) H (!xs.isEmpty):=.inl ⟨xs,.of (aQ h),rfl⟩
theorem aB.none{G G':Hp}{c:Addr}(S:aB G G')(h:G' c=none):G c=none:=by
 cases e:G c with
 | none=>rfl
 | some o=>rw[S _ _ e] at h;cases h
theorem kx:Fq (0,1):=⟨∅,∅⟩
theorem za{n:Nat}(h:1<=n):Bq n (0,1):=Bq.mono (m:=1) (q:=(0,1)) ⟨∅,∅⟩ h
theorem kA:wv (0,1)=0:=(fP (q:=(0,1)) ∅).mpr rfl
theorem FC:wv (1,1)=1:=by
 show ((1:Int):Rat)/((1:Int):Rat)=1;have:((1:Int):Rat)=1:=rfl;rw[this];grind
theorem Hy(fs:List (Int×Int))(m k:Nat):cf (fs++List.replicate m (0,1)) k=cf fs k:=by
 by_cases h:k<fs.length
 .unfold cf;rw[Yy h]
 .rw[aK (qs:=fs) ()];unfold cf;rw[Yw ()];by_cases h2:k-fs.length<m
  .rw[List.getElem?_replicate_of_lt h2];exact kA
  .rw[Xf (by simp;nofun)]
theorem jR{α:Type}(n:Nat)(x:α):(List.replicate n [x]).flatten=List.replicate n x:=by simp
theorem lV{α β:Type}(f:α->β)(n:Nat)(x:α):(List.replicate n x).map f=List.replicate n (f x):=by simp
theorem oQ{qs:List (Int×Int)}{n:Nat}(hF:∀q∈qs,Fq q)(hz:∀q,(qs.take n).getLast? = some q->q.1≠0):aL (qs.take n):=⟨λq hq=>hF q (Xj hq),hz⟩
theorem aF.chg{G G':Hp}{e:Addr}{qs:List (Int×Int)}{xs:List V}{i:Nat}{q:Int×Int}{v:V}(h:G e=some (.lst xs))(r:aN G (qs.map fr) xs)(rv:aI G (fr q) v)(B:gB e G G')(h':G' e=some (.lst (xs.set i v))):aF G' e (qs.set i q):=by
 refine⟨_,h',?_⟩;have r':=aN.flat_but h B _ _ (dW qs) r;have:=r'.set i (aI.flat_but h B _ _ (cE q) rv);rw[List.map_set];exact this
theorem Jt(q:Int×Int):(fr q).py=.tuple [.int q.1,.int q.2]:=by
 unfold fr;simp only[D.py,D.pys]
theorem Ak:∀(qs:List (Int×Int)),PyData.canLayAll0 (D.pys (qs.map fr))=true/\PyData.depthAll (D.pys (qs.map fr))<=4
 | []=>by
  simp only[List.map_nil,D.pys];exact⟨rfl,by simp[PyData.depthAll]⟩
 | c::cs=>by
  obtain⟨h1,h2⟩:=Ak cs;simp only[YL,D.pys,Jt,PyData.canLayAll0,PyData.canLay0,h1,PyData.depthAll,PyData.depth];refine⟨∅,?_⟩;nofun
theorem tE(fs:List (Int×Int)):(D.lst (fs.map fr)).cmp:=by
 obtain⟨h1,h2⟩:=Ak fs;unfold D.cmp;simp only[D.py,PyData.canLay0,PyData.depth];exact⟨h1,()⟩
end L2
namespace L2
open PySem PySem.Spec PyProof.Rows
def vH(mg:Str->Option Value)(base:Heap):Prop:=∃bm o,mg "__builtins__" = some (.ref bm)/\bm≠builtinsNs/\bm≠mainGlobals/\base.get? bm=some o/\o.cls=.type "module" /\ o.dict=some builtinsNs/\o.data=.plain
def IY(ts:List (Addr×Addr))(H:Hp):Prop:=∀b,H b=none\/(∃o xs,H b=some (.frz o (.lst xs)))\/(H b=some (.tbl #[]) /\ ∃q∈ts,q.2=b)
theorem zT{P:Program}{w:World}{K:W.Frag}{mg mb:Str->Option Value}{CX:zn}{k:Nat}{fa a:Addr}{fd:FuncData}{x:Str}{sp:Sp}{s₁:Shared}{vs:List Value}{ns:List Int}{ts:List (Addr×Addr)}
  (KX:K.In s₁.heap)(hns:s₁.heap.Ns mainGlobals mg)(hb:s₁.heap.Ns builtinsNs mb)(hbb:∀x:Str,x ≠ "__name__" -> mb x=bootBuiltins x) (hlim:s₁.heap.NoLimit)(hg:s₁.gens = #[])
  (ha:s₁.heap.get? a=some { cls:=.type "list",data:=.seq vs.toArray }) (hi:IntsAre vs ns)(hl:ns.length<=sizeLine)(hr:gi k callerA)(hT:∀q∈ts,PySem.W.codeHdIn K q.1 q.2=true/\K.lookup q.2=none/\s₁.heap.get? q.2=some (PySem.W.tabObj #[]))
  (hB:vH mg s₁.heap)(hSr:s₁.heap.NoSeer)(F:∀base:Heap,K.In base->base.Ns mainGlobals mg->vH mg base->base.NoSeer->aV P w K mg base CX k fa fd [x] sp)(hbind:∀(s:Shared)(u:Value),BindsTo s fd ⟨[u],[]⟩ [(x,u)])
  (hsp:∀H:Hp,(∀q∈ts,vw K H q.2=some (.tbl #[]))->(H a≠none->K.lookup a=none)->kr K H a (ns.map V.int)->sp [.ref a] H (λv _=>v=.bl true) λ_ _ _=>False)
  (hCX:∀H e s',CX [] H s₁ (λ_ _ _=>False) e s'->False) :
  codeAny (model P w) callerA (.call (.ref fa) ⟨[.ref a],[]⟩) (λr s'=>r=.ok (.ret (.bool true))/\OldK s₁.heap s'.heap/\s'.os=s₁.os/\AllBare s'.gens) s₁:=by
 have rv:=qP hi;have lenV:=hi.length;have na:∀q∈ts,q.2≠a:=λq hq z=>by
  have:=(hT q hq).2.2;rw[z,ha] at this;cases this
 have core:∀H:Hp,IY ts H->(∀q∈ts,H q.2=some (.tbl #[]))->kr K H a (ns.map V.int)->oi P w H s₁.heap->(∀b,H b≠none->b=a \/ ∃q∈ts,q.2=b)->(H a≠none->K.lookup a=none) ->
   codeAny (model P w) callerA (.call (.ref fa) ⟨[.ref a],[]⟩) (λr s'=>r=.ok (.ret (.bool true))/\OldK s₁.heap s'.heap/\s'.os=s₁.os/\AllBare s'.gens) s₁:=by
  intro H hO hTT hS hok hA hK;have base_of:∀{b:Addr}{o:Obj},s₁.heap.get? b=some o->H b=none->(pN s₁.heap H).get? b=some o:=λe n=>AO e n;have noA:∀{b:Addr}{o:Obj}{es:Array DictEntry}{ep:Nat},s₁.heap.get? b=some o->o.data=.dict es ep->H b=none:=λ{b o es ep} e d=>by
   cases q:H b with
   | none=>rfl
   | some u =>
    rcases hA b (by rw[q];simp) with e'|⟨y,hy,e'⟩
    .subst e';rw[ha] at e;cases e;have d':Data.seq vs.toArray _=Data.dict es ep:=d;cases d'
    .subst e';rw[(hT y hy).2.2] at e;cases e;have d':Data.fields (#[]:Array Value)=Data.dict es ep:=d;cases d'
  have nsK:∀{b:Addr}{m:Str->Option Value},s₁.heap.Ns b m->(pN s₁.heap H).Ns b m:=λ{b m} ⟨o,es,ep,e,d,r⟩=>⟨o,es,ep,base_of e (noA e d),d,r⟩;have hKb:K.In (pN s₁.heap H):=λb o e=>base_of (KX b o e) (by
   cases q:H b with
   | none=>rfl
   | some u =>
    rcases hA b (by rw[q];simp) with e'|⟨y,hy,e'⟩
    .subst e';rw[hK (by rw[q];simp)] at e;cases e
    .subst e';rw[(hT y hy).2.1] at e;cases e)
  have hM:Mod K mg (pN s₁.heap H):=⟨hKb,nsK hns,⟨mb,nsK hb,hbb⟩,let ⟨mc,h1,h2⟩:=hlim;⟨mc,nsK h1,h2⟩⟩;have e0:EJ P w K mg (pN s₁.heap H) callerA [] s₁ H:=⟨rfl,hM,λb o e=>Ea e,Nat.le_of_eq (zH _ _),trivial,λb hb=>absurd (show b∈([]:List Addr) from hb) (by simp),hok,.of_eq hg⟩
  have hBb:vH mg (pN s₁.heap H):=by
   obtain⟨bm,ob,b1,b2,b3,b4,b5,b6,b7⟩:=hB;refine⟨bm,ob,b1,b2,b3,base_of b4 ?_,b5,b6,b7⟩;cases q:H bm with
   | none=>rfl
   | some u =>
    rcases hA bm (by rw[q];simp) with e'|⟨y,hy,e'⟩
    .rw[e',ha] at b4;cases b4;simp at b5
    .rw[<-e',(hT y hy).2.2] at b4;cases b4;cases b5
  have hSb:(pN s₁.heap H).NoSeer:=by
   refine⟨let ⟨mc,a,b⟩:=hSr.statics;⟨mc,nsK a,b⟩,let ⟨mm,a,b⟩:=hSr.mods;⟨mm,nsK a,b⟩,let ⟨mb,a,b⟩:=hSr.imp;⟨mb,nsK a,b⟩,?_⟩;obtain⟨mg',bm,ob,b1,b2,b4,b5,b6⟩:=hSr.main;refine⟨mg',bm,ob,nsK b1,b2,base_of b4 ?_,b5,b6⟩;cases q:H bm with
   | none=>rfl
   | some u =>
    rcases hA bm (by rw[q];simp) with e'|⟨y,hy,e'⟩
    .rw[e',ha] at b4;cases b4;simp at b5
    .rw[<-e',(hT y hy).2.2] at b4;cases b4;cases b5
  refine codeAny_mono ((F _ hKb (nsK hns) hBb hSb).run callerA [] s₁ H ⟨[.ref a],[]⟩ [.ref a] [.ref a] _ _ hr e0 (hbind s₁ (.ref a)) (.cons rfl .nil) (hsp H (λq hq=>(fm (hT q hq).2.1).trans (hTT q hq)) hK hS)) λr s' h=>?_;cases r with
  | error e=>exact (hCX H e s' h).elim
  | ok fl =>
   cases fl with
   | next=>exact False.elim h
   | brk=>exact False.elim h
   | cont=>exact False.elim h
   | ret u =>
    obtain⟨v,H',os,bare,un,hok',r',q⟩:=h;have q':v=.bl true:=q;subst q';obtain rfl:u=Value.bool true:=r';have key:∀b o,s₁.heap.get? b=some o->s'.heap.get? b=some o\/((∃y∈ts,y.2=b)/\o=PySem.W.tabObj #[] /\ ∃more,s'.heap.get? b=some (PySem.W.tabObj more)):=λb o e=>by
     cases q:H b with
     | none=>exact .inl (un.keep b o e q (by intro z;exact absurd (show b∈([]:List Addr) from z) (by simp)) (by simp))
     | some u =>
      rcases hO b with z|⟨ob,xs,z⟩|⟨z,y,hy,e'⟩
      .rw[q] at z;cases z
      .have z2:=un.frzs b ob _ z;obtain⟨e1,_⟩:=hok b _ z;obtain⟨e2,_⟩:=hok' b _ z2;rw[e] at e1;cases e1;exact .inl e2
      .obtain⟨more,z2⟩:=un.tbls b #[] z;have e1:s₁.heap.get? b=some (PySem.W.tabObj #[]):=hok b _ z;have e2:s'.heap.get? b=some (PySem.W.tabObj (#[]++more)):=hok' b _ z2;rw[e] at e1;cases e1;exact .inr ⟨⟨y,hy,e'⟩,rfl,_,e2⟩
    refine⟨rfl,⟨λb o e=>?_,λb o e=>?_⟩,os,bare⟩
    .rcases key b o e with z|⟨⟨y,hy,e'⟩,z1,more,z2⟩
     .exact .inl z
     .subst z1 e';have cd:=PySem.W.codeHd_of_K KX (hT y hy).1;exact .inr (.inl ⟨(cd.tab (hT y hy).2.2).isCodeTable,rfl,#[],more,rfl,by rw[z2];simp⟩)
    .rcases key b o e with z|⟨_,_,more,z2⟩
     .exact⟨o,z⟩
     .exact⟨_,z2⟩
 have dec:∀b,Decidable (∃q∈ts,q.2=b):=λb=>Classical.propDecidable _;have tabH:∀q∈ts,fE P w (λ_=>none) s₁.heap q.2 (.tbl #[]):=λq hq=>(hT q hq).2.2;cases hk:K.lookup a with
 | some o =>
  have e:=KX a o hk;rw[ha] at e;cases e;refine core (λb=>@ite _ (∃q∈ts,q.2=b) (dec b) (some (.tbl #[])) none) (λb=>?_) (λq hq=>Yb ⟨q,hq,rfl⟩) (.inr ⟨_,vs.toArray,_,hk,rfl,rfl,rfl,by rw[Ys,lenV];exact hl,by simpa using rv⟩) (λb u z=>?_) (λb z=>?_) λz=>?_
  .by_cases hb:∃q∈ts,q.2=b
   .exact .inr (.inr ⟨Yb hb,hb⟩)
   .exact .inl (Yc hb)
  .by_cases hb:∃q∈ts,q.2=b
   .have z':=(Yb hb).symm.trans z;cases z';obtain⟨q,hq,rfl⟩:=hb;exact (hT q hq).2.2
   .have z':=(Yc hb).symm.trans z;cases z'
  .by_cases hb:∃q∈ts,q.2=b
   .exact .inr hb
   .exact absurd (Yc hb) z
  .have:¬ ∃q∈ts,q.2=a:=λ⟨q,hq,e⟩=>na q hq e;exact absurd (Yc this) z
 | none =>
  have ia:¬ ∃q∈ts,q.2=a:=λ⟨q,hq,e⟩=>na q hq e;refine core (λb=>if b=a then some (.frz { cls:=.type "list",data:=.seq vs.toArray } (.lst (ns.map V.int))) else @ite _ (∃q∈ts,q.2=b) (dec b) (some (.tbl #[])) none) (λb=>?_) (λq hq=>?_) (.inl (.inr ⟨{ cls:=.type "list",data:=.seq vs.toArray },Yb rfl⟩)) (λb u z=>?_) (λb z=>?_) λ_=>hk
  .by_cases hb:b=a
   .exact .inr (.inl ⟨_,_,Yb hb⟩)
   .by_cases hb2:∃q∈ts,q.2=b
    .exact .inr (.inr ⟨(Yc hb).trans (Yb hb2),hb2⟩)
    .exact .inl ((Yc hb).trans (Yc hb2))
  .exact (Yc (na q hq)).trans (Yb ⟨q,hq,rfl⟩)
  .by_cases hb:b=a
   .have z':=(Yb hb).symm.trans z;cases z';subst hb;exact⟨ha,by rw[YC];exact hl,vs,_,rv,ha⟩
   .by_cases hb2:∃q∈ts,q.2=b
    .have z':=((Yc hb).trans (Yb hb2)).symm.trans z;cases z';obtain⟨q,hq,rfl⟩:=hb2;exact (hT q hq).2.2
    .have z':=((Yc hb).trans (Yc hb2)).symm.trans z;cases z'
  .by_cases hb:b=a
   .exact .inl hb
   .by_cases hb2:∃q∈ts,q.2=b
    .exact .inr hb2
    .exact absurd ((Yc hb).trans (Yc hb2)) z
theorem walk_ofM{l:PySem.W.OpenLaw}{n k:Nat}{q:Program}{loose:List Str}{XP:(Str->Option Value)->Heap->Prop}{YP:World->Heap->Prop}{d:DefRec}{K:Params->W.Frag}{CX:World->zn}{sp:World->Sp}{x:Str}(ts:World->List (Addr×Addr))
  (hn:l.most=some n)(hn2:n<=sizeLine)(hdf:d.params.defaults=[])(hr:gi k callerA)(hi:importsNone q=true)
  (hY:∀(w:World)(h:Heap),YP w h->(K w.params).In h /\ ∀q∈ts w,PySem.W.codeHdIn (K w.params) q.1 q.2=true/\(K w.params).lookup q.2=none/\h.get? q.2=some (PySem.W.tabObj #[]))
  (F:∀(w:World)(mg:Str->Option Value)(fa:Addr)(h:Heap),(K w.params).In h->h.Ns mainGlobals mg->mg d.name=some (.ref fa) ->
   ∃fd:FuncData,(∀(s:Shared)(u:Value),BindsTo s fd ⟨[u],[]⟩ [(x,u)]) /\
    ∀base:Heap,(K w.params).In base->base.Ns mainGlobals mg->vH mg base->base.NoSeer->aV l.prog w (K w.params) mg base (CX w) k fa fd [x] (sp w))
  (hsp:∀(w:World)(H:Hp)(a:Addr)(ns:List Int),ns.length<=n->(∀q∈ts w,vw (K w.params) H q.2=some (.tbl #[]))->(H a≠none->(K w.params).lookup a=none)->kr (K w.params) H a (ns.map V.int)->sp w [.ref a] H (λv _=>v=.bl true) λ_ _ _=>False)
  (hCX:∀(w:World)(H:Hp)(s:Shared)(e:Value)(s':Shared),CX w [] H s (λ_ _ _=>False) e s'->False) :
  PySem.W.WalkO q loose XP YP l.row.toRowW d [] (λf vs=>PySem.call f vs):=by
 refine Att.attach_call hn hdf λw s₀ s₁ mg mb fa o pm cd doc a vs ns G Y ho hd hcd hmg hobj hints hlen hg=>?_;obtain⟨KX,hT⟩:=hY w _ Y;obtain⟨fd,hb,hF⟩:=F w mg fa _ KX G.T.g hmg;have hB:vH mg s₁.heap:=by
  obtain⟨bm,ob,b1,b2,b3,b4,b5,b6⟩:=G.T.bmain;refine⟨bm,ob,b1,b2,λz=>?_,b3,b4,b5,b6⟩;obtain⟨o,es,ep,e,hd',_⟩:=G.T.g;rw[z,e] at b3;cases b3;rw[hd'] at b6;cases b6
 exact zT KX G.T.g G.T.b G.T.builtins G.T.nolimit hg hobj hints (Yg hlen hn2) hr hT hB (G.T.seer hi) hF hb (λH hTT hK hS=>hsp w H a ns hlen hTT hK hS) λH e s'=>hCX w H s₁ e s'
theorem gB.of{P:Addr}{G G':Hp}(S:aB G G'):gB P G G':=λb o _ e=>S b o e
theorem gB.none{G G':Hp}{st a:Addr}(B:gB st G G')(hst:ga G' st)(h:G' a=Option.none):G a=Option.none:=by
 cases e:G a with
 | none=>rfl
 | some o =>
  rw[B a o (hst.ne h) e] at h;cases h
def aj(f g:Nat->Rat):Nat->Rat
 | 0=>0
 | n+1=>aj f g n+f n*g n
theorem As{f g:Nat->Int}{F G:Nat->Rat}{c d:Rat}(hf:∀i,(f i:Rat)=F i*c)(hg:∀i,(g i:Rat)=G i*d):∀n,((lE (lz n λi=>f i*g i):Int):Rat)=aj F G n*(c*d)
 | 0=>by
  show ((0:Int):Rat)=0*(c*d);have:((0:Int):Rat)=0:=rfl;rw[this];grind
 | n+1=>by
  have e:lz (n+1) (λi=>f i*g i)=lz n (λi=>f i*g i)++[f n*g n]:=by simp[lz,List.range_succ]
  rw[e,oH];have e2:lE [f n*g n]=f n*g n:=by simp[lE]
  rw[e2,Y9,Xa,As hf hg n,hf n,hg n];show _=(aj F G n+F n*G n)*(c*d);grind
theorem aA{f g f' g':Nat->Rat}:∀n,(∀i,i<n->f i=f' i)->(∀i,i<n->g i=g' i)->aj f g n=aj f' g' n
 | 0,_,_=>rfl
 | n+1,h1,h2=>by
  show aj f g n+f n*g n=aj f' g' n+f' n*g' n;rw[aA n (λi hi=>h1 i ()) (λi hi=>h2 i ()),h1 n (),h2 n ()]
theorem u6{qs:List (Int×Int)}{n k:Nat}(h:k<n):cf (qs.take n) k=cf qs k:=by
 unfold cf;rw[Xg,Yb h]
def Sx(b:Nat)(q:Int×Int):Prop:=∃n:Int,wv q=(n:Rat)/6/\n.natAbs<=b
theorem Sx.mono{a b:Nat}{q:Int×Int}(h:Sx a q)(hl:a<=b):Sx b q:=by
 obtain⟨n,h1,h2⟩:=h;exact⟨n,h1,()⟩
theorem Sx.add{a b:Nat}{p q:Int×Int}(hp:p.2≠0)(hq:q.2≠0)(h1:Sx a p)(h2:Sx b q):Sx (a+b) (qi p q):=by
 obtain⟨m,e1,l1⟩:=h1;obtain⟨n,e2,l2⟩:=h2;refine⟨m+n,?_,Yg (Int.natAbs_add_le m n) (Nat.add_le_add l1 l2)⟩;rw[pE hp hq,e1,e2,Y9];grind
theorem Sx.lo{a z:Int}{b:Nat}(h0:0<=z)(h3:z<3)(ha:6*a.natAbs<=b):Sx b (lo a (1+z)):=by
 have hz:1+z≠0:=();have c1:((1:Int):Rat)=1:=rfl;have c2:((2:Int):Rat)=2:=rfl;have c3:((3:Int):Rat)=3:=rfl;have c6:((6:Int):Rat)=6:=rfl;rcases (show z=0\/z=1\/z=2 by nofun) with rfl|rfl|rfl
 .refine⟨6*a,?_,()⟩;rw[ix hz,show (1:Int)+0=1 from rfl,Xa,c1,c6]
  grind
 .refine⟨3*a,?_,()⟩;rw[ix hz,show (1:Int)+1=2 from rfl,Xa,c2,c3]
  grind
 .refine⟨2*a,?_,()⟩;rw[ix hz,show (1:Int)+2=3 from rfl,Xa,c2,c3]
  grind
def jr:Nat->Int
 | 0=>6
 | k+1=>jr k*6
theorem lS:∀k,0<jr k
 | 0=>by decide
 | k+1=>by show 0<jr k*6;have:=lS k;nofun
theorem kR:∀k,Bt (3*(k+1)) (jr k)
 | 0=>by decide
 | k+1=>by
  have h:=(kR k).mul (show Bt 3 6 by decide)
  exact h.mono ()
def Dl:Nat->Nat
 | 0=>1
 | k+1=>Dl k*512
theorem BU:∀k,Dl k=2^(9*k)
 | 0=>rfl
 | k+1=>by
  show Dl k*512=_;rw[BU k,show 9*(k+1)=9*k+9 by nofun,YW]
theorem yR{s w:Int×Int}{b:Nat}(hs:Sx 300 s)(hw:Sx b w):∀k,∃n:Int,wv w*aJ (wv s) k=(n:Rat)/(jr k:Rat)/\n.natAbs<=b*Dl k
 | 0=>by
  obtain⟨n,e,l⟩:=hw;refine⟨n,?_,by simpa [Dl] using l⟩
  show wv w*1=(n:Rat)/((6:Int):Rat);have c6:((6:Int):Rat)=6:=rfl;rw[e,c6];grind
 | k+1=>by
  obtain⟨n,e,l⟩:=yR hs hw k;obtain⟨m,e2,l2⟩:=hs;refine⟨n*m,?_,?_⟩
  .rw[kd];have h6:(jr k:Rat)≠0:=am (by have:=lS k;nofun)
   have c6:((6:Int):Rat)=6:=rfl;show _=_/((jr k*6:Int):Rat);rw[e2] at e;rw[Xa,Xa,c6,e2];have:wv w*(aJ ((m:Rat)/6) k*((m:Rat)/6))=(wv w*aJ ((m:Rat)/6) k)*((m:Rat)/6):=⋯;rw[this,e];grind
  .rw[YV];show _<=b*(Dl k*512);rw[<-Nat.mul_assoc];exact Xl l ()
theorem rV{k:Nat}:∀{cs:List nJ},(∀c∈cs,Sx 300 c.1/\Sx 36 c.2) -> ∃n:Int,jN cs k=(n:Rat)/(jr k:Rat)/\n.natAbs<=cs.length*(36*Dl k)
 | [],_=>⟨0,by
   show (0:Rat)=((0:Int):Rat)/_;have c0:((0:Int):Rat)=0:=rfl;rw[c0];grind,by simp⟩
 | c::cs,h=>by
  obtain⟨n,e1,l1⟩:=rV (k:=k) (cs:=cs) λd hd=>h d (by simp[hd])
  obtain⟨h1,h2⟩:=h c (by simp)
  obtain⟨m,e2,l2⟩:=yR h1 h2 k;refine⟨m+n,?_,?_⟩
  .show wv c.2*aJ (wv c.1) k+jN cs k=_;rw[e1,e2,Y9];have h6:(jr k:Rat)≠0:=am (by have:=lS k;nofun)
   grind
  .rw[Xm,Xn,Nat.one_mul,Nat.add_comm];exact Yg (Int.natAbs_add_le m n) (Nat.add_le_add l2 l1)
theorem GU{cs:List nJ}{k:Nat}{q:Int×Int}(h:∀c∈cs,Sx 300 c.1/\Sx 36 c.2)(hl:cs.length<=6)(hk:k<=12)(hq:Fq q)(e:wv q=jN cs k):Bq 120 q:=by
 obtain⟨n,e1,l1⟩:=rV (k:=k) h;have h6:jr k≠0:=by have:=lS k;nofun
 have:q=lo n (jr k):=je hq (iH h6) (by rw[ix h6,e,e1])
 rw[this];refine oB h6 (Bt.mono (m:=9*k+8) ?_ ()) ((kR k).mono ());unfold Bt;have l3:cs.length*(36*Dl k)<=6*(36*Dl k):=Nat.mul_le_mul_right _ hl;have l4:=BU k;rw[YW,<-l4,show (2:Nat)^8=256 from rfl]
 have:0<Dl k:=by rw[l4];exact Nat.two_pow_pos _
 nofun
theorem aP.gen{t u:TS}{D:nI}{σ:St}{H:Hp}(h:∀N:St->Hp->Prop,(∀σ' H',u D σ' H'->N σ' H')->t { D with nx:=N } σ H):aP t u D σ H:=h (u D) λ_ _ z=>z
theorem kY(a b:Int):Builtin.Range.rangeSize a b (-1)=if b<a then a-b else 0:=by
 unfold Builtin.Range.rangeSize;simp only[show ¬ ((-1:Int) > 0) by decide,if_false,Int.neg_neg,Int.ediv_one]
 split<;>(try split)<;>nofun
theorem AY{a b:Int}(ha : -(2^61)<=a)(ha':a<2^61)(hb : -(2^61)<=b)(hb':b<2^61):Builtin.Range.small a b (-1)=true:=by
 unfold Builtin.Range.small;rw[kY];simp only[Builtin.Range.rangeFitsLong,YF,Bool.or_eq_true,decide_eq_true_eq,beq_iff_eq,show ¬ ((-1:Int) > 0) by decide,if_false]
 split<;>nofun
def JV(lo:Int)(n:Nat):It:=⟨λi _=>i<n,λi H x H'=>H'=H/\x=.int (lo-i),λi _=>n<=i⟩
theorem Fv{P:Program}{w:World}{K:W.Frag}{tg:Expr}(it:Addr)(lo:Int)(n:Nat):wM P w K tg (JV lo n) [it] it (λj hp=>IsRangeIter hp it (lo+(j:Nat)*(-1)) ((n:Int)-(j:Nat)) (-1)) where
 mem:=List.mem_singleton.mpr rfl
 obj:=λj hp st b hb=>by
  cases List.mem_singleton.mp hb;refine⟨_,st,λv z=>?_⟩;exact Data.noConfusion (show Data.fields _=Data.cell v from z)
 keep:=λ_ _ _ st k=>k it (List.mem_singleton.mpr rfl) _ st
 item:=by
  intro Y hP hw hK hc j pins s σ H E J hf st hg;subst hP hw hK;obtain⟨g0,g1,g2,g3,g4,g5⟩:=hf it (List.mem_singleton.mpr rfl);refine (Walks.range (prog:=Y.prog) (w:=Y.w) (J.ok.hd hc) it lo (-1) n).item j s _ _ hg st λv hp tk hv st1 kk=>?_;obtain⟨t,rfl⟩:=hv;have J1:aR Y pins σ H { s with heap:=hp,toks:=tk }:=J.turned (λb o hb e=>kk b o (λz=>hb (List.mem_singleton.mp z)) e) g0 g1 g3 g4 g5
  refine⟨_,rfl,yB (s:={ s with heap:=hp,toks:=tk }) (n:="range_iterator") st1 rfl rfl ∅ ⟨.int (lo-j),H,J1,⟨t,?_⟩,⟨rfl,rfl⟩,st1,λb hb=>(hf b hb).1⟩⟩
  rw[show lo+(j:Nat)*(-1)=lo-(j:Int) by nofun]
 done:=by
  intro Y hP hw hK hc j pins s σ H E J hf st hg;subst hP hw hK;obtain⟨g0,g1,g2,g3,g4,g5⟩:=hf it (List.mem_singleton.mpr rfl);have hj:n<=j:=hg;exact wpAny_pyNext_range_end (J.ok.hd hc) st () λhp eb=>⟨rfl,J.turned (t':=s.toks) (λb o hb e=>eb b o hb e) g0 g1 g3 g4 g5⟩
 self:=λ_ _ _ _ _ st h=>wpAny_pyIter_rangeiter st h
section
variable {X:Cx}{tg:Expr}
def Ai(ta:TA):TI:=λσ H R=>ta σ H λvs H1=>∃i j:Int,vs=[.int i,.int j,.int (-1)]/\(-(2^61)<=i/\i<2^61 /\ -(2^61)<=j/\j<2^61)/\R (JV i (i-j).toNat) H1
theorem zK{a b c:Expr}{ta:TA}{p pos:Pos}(hg:Gl X "range") (hm:X.mg "range" = none) (ha:PA X [a,b,c] ta)(hs:starEach [a,b,c] X.env=[(false,eval a X.env),(false,eval b X.env),(false,eval c X.env)]:=by rfl)
  (hs2:starEach [b,c] X.env=[(false,eval b X.env),(false,eval c X.env)]:=by rfl):PI X tg (.Call (.Name "range" p) [a,b,c] [] pos) (Ai ta):=by
 intro pins s σ H R I h;refine Call_ (jL I hg hm boot_range (Yq (da (ha pos pins s σ H _ I h) λus s1 ⟨vs,H1,I1,r1,q1⟩=>?_) (by rw[hs,hs2]) (by rw[hs2];rfl)))
 obtain⟨i,j,e,⟨q1,q2,q3,q4⟩,q⟩:=q1;subst e;cases r1 with
 | cons ri rr =>
  cases rr with
  | cons rj rr =>
   cases rr with
   | cons rk rr =>
    cases rr;obtain⟨t1,rfl⟩:=ri;obtain⟨t2,rfl⟩:=rj;obtain⟨t3,rfl⟩:=rk;refine call_range_3 ∅ ?_ (.inl (PyProof.noPylong_of_log2 ∅))
    refine wpAny_pyIter_range (IsRange.new ..) (AY q1 q2 q3 q4) ?_;have J:aR X pins σ H1 { s1 with heap:=s1.heap.push { cls:=.type "range",data:=.fields #[.int i t1,.int j t2,.int (-1) t3] },toks:=s1.toks }:=I1.kept λb o e=>Heap.get?_push_of_some _ e
    obtain⟨a1,ha1⟩ : ∃a1,a1=(s1.heap.push { cls:=.type "range",data:=.fields #[.int i t1,.int j t2,.int (-1) t3] }).objs.size:=⟨_,rfl⟩;refine⟨_,[_],_,_,H1,rfl,J.kept (t':=s1.toks) λb o e=>Heap.get?_push_of_some _ e,Fv _ i (i-j).toNat,?_,λb hb=>?_,q⟩
    .have e1:i+((0:Nat):Int)*(-1)=i:=by simp
     have e2:(((i-j).toNat:Nat):Int)-((0:Nat):Int)=Builtin.Range.rangeSize i j (-1):=by rw[kY];split<;>nofun
     show IsRangeIter _ _ (i+((0:Nat):Int)*(-1)) ((((i-j).toNat:Nat):Int)-((0:Nat):Int)) (-1);rw[e1,e2];exact Heap.get?_push_size _ rfl
    .cases List.mem_singleton.mp hb;exact J.fpOk (Yp _) (J.hok.fresh (Yp _))
theorem zN{a b c:Expr}{ta:TA}{p pos:Pos}(hg:Gl X "range") (hm:X.mg "range" = none) (ha:QA X [a,b,c] ta)(hs:starEach [a,b,c] X.env=[(false,eval a X.env),(false,eval b X.env),(false,eval c X.env)]:=by rfl)
  (hs2:starEach [b,c] X.env=[(false,eval b X.env),(false,eval c X.env)]:=by rfl):QI X tg (.Call (.Name "range" p) [a,b,c] [] pos) (Ai ta):=⟨zK hg hm ha.h hs hs2⟩
end
def Ac(lo:Int)(n:Nat):List V:=(List.range n).map λ(k:Nat)=>V.int (lo-k)
theorem Ff{lo:Int}{n:Nat}:(Ac lo n).length=n:=by simp[Ac]
theorem GS{lo:Int}{n i:Nat}{x:V}(h:(Ac lo n)[i]? = some x):i<n/\x=.int (lo-i):=by
 have hi:i<n:=by
  have:=(List.getElem?_eq_some_iff.mp h).1;simpa [Ac] using this
 refine⟨hi,?_⟩;simp[Ac,hi] at h;exact h.symm
theorem Bl{lo:Int}{n:Nat}{H:Hp}:ql (JV lo n) H (Ac lo n):=by
 refine⟨λi hi=>by show i<n;simpa [Ac] using hi,λi x H' hi y=>⟨y.1,?_⟩,by show n<=(Ac lo n).length;simp[Ac]⟩
 have hi':i<n:=by simpa [Ac] using hi
 obtain⟨_,rfl⟩:=y;simp[Ac,hi']
theorem FG{f g:Nat->Rat}{d i:Nat}(hg:∀j,d<j->g j=0)(hf:∀j,i<j->f j=0):∀n,pr f g n (i+d)=if i<n then f i*g d else 0
 | 0=>by simp[pr]
 | n+1=>by
  have ih:=FG hg hf n;show pr f g n (i+d)+(if n<=i+d then f n*g (i+d-n) else 0)=_
  rw[ih];rcases Nat.lt_trichotomy i n with h|h|h
  .rw[hf n h,Yb h,Yb (show i<n+1 by nofun)]
   split<;>grind
  .subst h;rw[Yc (),Yb (),Yb (),show i+d-i=d by nofun]
   grind
  .rw[Yc (),Yb (),Yc (),hg _ ()];grind
theorem Dc{f f' g:Nat->Rat}:∀n k,pr (λi=>f i-f' i) g n k=pr f g n k-pr f' g n k
 | 0,_=>by
  show (0:Rat)=0-0;grind
 | n+1,k=>by
  show pr _ g n k+(if n<=k then (f n-f' n)*g (k-n) else 0)=(pr f g n k+if n<=k then f n*g (k-n) else 0)-(pr f' g n k+if n<=k then f' n*g (k-n) else 0)
  rw[Dc n k];split<;>grind
theorem tQ{f g:Nat->Rat}{n:Nat}(hf:∀i,n<=i->f i=0):∀m k,pr f g (n+m) k=pr f g n k
 | 0,_=>rfl
 | m+1,k=>by
  show pr f g (n+m) k+(if n+m<=k then f (n+m)*g (k-(n+m)) else 0)=_
  rw[tQ hf m k,hf (n+m) ()];split<;>grind
theorem AG{e g r:Nat->Rat}{n d:Nat}(he:∀i,n<=i->e i=0)(hg:∀j,d<j->g j=0)(hd:g d≠0)(hr:∀k,d<=k->r k=0)(h:∀k,pr e g n k=r k):∀i,e i=0:=by
 have step:∀m i,n<=i+m->e i=0:=by
  intro m;induction m with
  | zero=>intro i hi;exact he i hi
  | succ m ih =>
   intro i hi;by_cases hin:n<=i
   .exact he i hin
   have hab:∀j,i<j->e j=0:=λj hj=>ih j ();have e1:=FG hg hab n;rw[Yb (),h,hr _ ()] at e1;rcases Rat.mul_eq_zero.mp e1.symm with z|z
   .exact z
   .exact absurd z hd
 intro i;exact step n i ()
theorem ww{q q' g r r':Nat->Rat}{n n' d:Nat}(hq:∀i,n<=i->q i=0)(hq':∀i,n'<=i->q' i=0)(hg:∀j,d<j->g j=0)(hd:g d≠0)(hr:∀k,d<=k->r k=0)(hr':∀k,d<=k->r' k=0)
  (h:∀k,pr q g n k+r k=pr q' g n' k+r' k):(∀i,q i=q' i) /\ ∀k,r k=r' k:=by
 have a:∀k,pr q g (n+n') k=pr q g n k:=λk=>tQ hq n' k;have b:∀k,pr q' g (n+n') k=pr q' g n' k:=λk=>by rw[Nat.add_comm];exact tQ hq' n k
 have z:=AG (e:=λi=>q i-q' i) (g:=g) (r:=λk=>r' k-r k) (n:=n+n') (d:=d) (λi hi=>by
  show q i-q' i=0;rw[hq i (),hq' i ()];grind) hg hd (λk hk=>by
  show r' k-r k=0;rw[hr k hk,hr' k hk];grind) (λk=>by
  rw[Dc,a,b];have:=h k;grind)
 have e:∀i,q i=q' i:=λi=>by
  have:q i-q' i=0:=z i;grind
 refine⟨e,λk=>?_⟩;have e2:pr q g n k=pr q' g n' k:=by
  rw[<-a,<-b,show q=q' from funext e]
 have:=h k;grind
theorem jp{rs:List (Int×Int)}(h:aL rs) {m:Nat}(hz:∀k,m<=k->cf rs k=0):rs.length<=m:=by
 refine Nat.le_of_not_lt λhm=>?_;have hl:rs.length-1<rs.length:=();have e:rs.getLast? = some rs[rs.length-1]:=by rw[YX,YO hl]
 have z:=hz (rs.length-1) ();rw[aG (YO hl)] at z;exact h.2 _ e ((fP (h.1 _ (YN hl)).ne).mp z)
theorem uu(s:Nat)(gs:List (Int×Int))(k:Nat):cf (List.replicate s (0,1)++gs) k=if k<s then 0 else cf gs (k-s):=by
 unfold cf;by_cases h:k<s
 .rw[Yb h,Yy (by simpa using h),Yx,Yb h]
  exact kA
 .rw[Yc h,Yw (by simp;nofun),YD]
theorem Fw(m n:Int):DD (.int m) (.int n)=decide (m=n):=by
 unfold DD D.py;simp only[PyData.eqv];rw[Bool.eq_iff_iff];simp
theorem yK(i:Int):(D.int i).cmp:=by
 unfold D.cmp D.py;exact⟨rfl,Nat.le_of_ble_eq_true rfl⟩
theorem xZ{ns:List Int}{m:Nat}(h:∀n∈ns.drop m,n=0)(k:Nat):nz (ns.take m) k=nz ns k:=by
 unfold nz;rw[Xc,Xc,Xg];by_cases hk:k<m
 .rw[Yb hk]
 .rw[Yc hk];cases e:ns[k]? with
  | none=>rfl
  | some n =>
   have:n∈ns.drop m:=by
    have e2:(ns.drop m)[k-m]? = some n:=by rw[Xh,show m+(k-m)=k by nofun];exact e
    exact YA e2
   rw[h n this];rfl
theorem Aj{f g:Nat->Int}{i:Nat}{c:Int}(h0:f i=0):∀n k,pz (λj=>if j=i then c else f j) g n k=pz f g n k+if i<n/\i<=k then c*g (k-i) else 0
 | 0,k=>by
  show (0:Int)=0+_;rw[Yc ()];rfl
 | n+1,k=>by
  show pz _ g n k+(if n<=k then (if n=i then c else f n)*g (k-n) else 0)=(pz f g n k+if n<=k then f n*g (k-n) else 0)+_
  rw[Aj h0 n k];rcases Nat.lt_trichotomy n i with h|h|h
  .simp only[Yc (show ¬ (i<n/\i<=k) by nofun),Yc (show ¬ n=i by nofun),Yc (show ¬ (i<n+1/\i<=k) by nofun)]
   nofun
  .subst h;rw[h0];by_cases hk:n<=k
   .simp only[Yb hk,Yb (show n<n+1/\n<=k from ⟨(),hk⟩),Yc (show ¬ (n<n/\n<=k) by nofun),Int.zero_mul,if_true]
    try nofun
   .simp only[Yc hk,Yc (show ¬ (n<n+1/\n<=k) by nofun),Yc (show ¬ (n<n/\n<=k) by nofun)]
  .simp only[Yc (show ¬ n=i by nofun)]
   by_cases hk:i<=k
   .simp only[Yb (show i<n/\i<=k from ⟨h,hk⟩),Yb (show i<n+1/\i<=k from ⟨(),hk⟩)]
    nofun
   .simp only[Yc (show ¬ (i<n/\i<=k) by nofun),Yc (show ¬ (i<n+1/\i<=k) by nofun)]
    nofun
theorem wU{f g:Nat->Int}{c:Int}:∀n k,pz (λj=>c*f j) g n k=c*pz f g n k
 | 0,_=>by show (0:Int)=c*0;nofun
 | n+1,k=>by
  show pz _ g n k+(if n<=k then c*f n*g (k-n) else 0)=c*(pz f g n k+if n<=k then f n*g (k-n) else 0)
  rw[wU n k];split
  .rw[Int.mul_add,Y5]
  .simp
theorem yC{f g:Nat->Int}(h:∀i,f i=0):∀n k,pz f g n k=0
 | 0,_=>rfl
 | n+1,k=>by
  show pz f g n k+(if n<=k then f n*g (k-n) else 0)=0
  rw[yC h n k,h n];simp
theorem ou{ns:List Int}{i k:Nat}{v:Int}(hi:i<ns.length):nz (ns.set i v) k=if k=i then v else nz ns k:=by
 unfold nz;rw[Xc,Xc,List.getElem?_set];by_cases h:i=k
 .subst h;simp[hi]
 .rw[Yc h,Yc (λz=>h z.symm)]
theorem n8{ns:List Int}{c:Int}(k:Nat):nz (ns.map λx=>c*x) k=c*nz ns k:=by
 unfold nz;rw[Xc,Xc,Yz];cases ns[k]?<;>simp
theorem m5{ns:List Int}(k:Nat):nz ns.dropLast k=if k=ns.length-1 then 0 else nz ns k:=by
 unfold nz;rw[Xc,Xc,List.getElem?_dropLast];by_cases h:k<ns.length-1
 .rw[Yb h,Yc ()]
 .rw[Yc h];by_cases h2:k=ns.length-1
  .rw[Yb h2];rfl
  .rw[Yc h2,Xf ()]
theorem zW{ms:Nat->Int}{S P:Int}{Q Q' N R R1 R2:Nat->Int}{n p l:Nat}(h:∀k,S*ms k=pz Q N n k+R k)(h0:Q p=0)(hQ:∀k,Q' k=if k=p then P else Q k)(hp:p<n)(hN:∀j,l<j->N j=0)
  (ht:R (p+l)=P*N l)(h1:∀k,R1 k=if k=p+l then 0 else R k)(h2:∀k,R2 k=R1 k-if p<=k/\k<p+l then P*N (k-p) else 0):∀k,S*ms k=pz Q' N n k+R2 k:=by
 intro k;rw[show Q'=λj=>if j=p then P else Q j from funext hQ,Aj h0,h k,h2 k,h1 k]
 by_cases a:p<=k
 .rw[Yb ⟨hp,a⟩];rcases Nat.lt_trichotomy k (p+l) with b|b|b
  .rw[Yc (show ¬ k=p+l by nofun),Yb ⟨a,b⟩]
   nofun
  .subst b;rw[Yb rfl,Yc (),ht,show p+l-p=l by nofun]
   nofun
  .rw[Yc (show ¬ k=p+l by nofun),Yc (),hN _ (show l<k-p by nofun)]
   nofun
 .rw[Yc (),Yc (show ¬ k=p+l by nofun),Yc ()]
  nofun
section
variable {X:Cx}{a b c:Expr}{ta tb tc:TE}{pos:Pos}
theorem yZ(b c:Expr) {op op':CmpOp}(h:op' ≠ .In:=by decide)(h2:op' ≠ .NotIn:=by decide):lastMarks [op,op'] [b,c]=false:=by
 show behindInMarks op' c=false;exact aC c h h2
theorem u9{op op':CmpOp}{r r':R2}(ho:eO X (compareOp op) r)(ho':eO X (compareOp op') r')(ha:QE X a ta)(hb:QE X b tb)(hc:QE X c tc)(hm:lastMarks [op,op'] [b,c]=false):QT X (.Compare a [op,op'] [b,c] pos) (rM (t8 r r' ta tb tc)) :=
 ⟨BC ho ho' ha.h hb.h hc.h hm⟩
end
theorem qh{f g:Nat->Rat}:∀n,aj f g (n+1)=f 0*g 0+aj (λi=>f (i+1)) (λi=>g (i+1)) n
 | 0=>by
  show (0:Rat)+f 0*g 0=f 0*g 0+0;grind
 | n+1=>by
  show aj f g (n+1)+f (n+1)*g (n+1)=f 0*g 0+(aj (λi=>f (i+1)) (λi=>g (i+1)) n+f (n+1)*g (n+1));rw[qh n];grind
theorem sE{f g:Nat->Rat}:∀n,aj (λi=>f (n-1-i)) (λi=>g (n-1-i)) n=aj f g n
 | 0=>rfl
 | n+1=>by
  rw[qh];show f n*g n+aj (λi=>f (n+1-1-(i+1))) (λi=>g (n+1-1-(i+1))) n=aj f g n+f n*g n;have e:aj (λi=>f (n+1-1-(i+1))) (λi=>g (n+1-1-(i+1))) n=aj (λi=>f (n-1-i)) (λi=>g (n-1-i)) n :=
   aA n (λi _=>by rw[show n+1-1-(i+1)=n-1-i by nofun]) (λi _=>by rw[show n+1-1-(i+1)=n-1-i by nofun])
  rw[e,sE n];grind
def JN:Nat->Int
 | 0=>1
 | e+1=>JN e*6
theorem xx(j:Nat):∀e,jr (j+e)=jr j*JN e
 | 0=>by show jr j=jr j*1;nofun
 | e+1=>by
  show jr (j+e)*6=jr j*(JN e*6);rw[xx j e,Y5]
theorem oo{qs:List (Int×Int)}{n k:Nat}:cf (qs.drop n) k=cf qs (n+k):=by
 unfold cf;rw[Xh]
def wR(x:V)(P:Bool->Prop):Prop:=match x with | .bl k=>P k|_=>False
def isInt(x:V)(P:Int->Prop):Prop:=match x with | .int k=>P k|_=>False
def jq(x:V)(P:Addr->Prop):Prop:=match x with | .ref k=>P k|_=>False
def uj(x:Option (Option V))(P:V->Prop):Prop:=match x with|some (some v)=>P v|_=>False
def Iy(x:List V)(P:V->Prop):Prop:=match x with|[v]=>P v|_=>False
def JG(x:List V)(P:V->V->Prop):Prop:=match x with|[v,u]=>P v u|_=>False
theorem EM{k:Bool}{P:Bool->Prop}:wR (.bl k) P=P k:=rfl
theorem Bz{k:Int}{P:Int->Prop}:isInt (.int k) P=P k:=rfl
theorem Aw{k:Addr}{P:Addr->Prop}:jq (.ref k) P=P k:=rfl
theorem CS{k:V}{P:V->Prop}:uj (some (some k)) P=P k:=rfl
theorem Ia{k:V}{P:V->Prop}:Iy [k] P=P k:=rfl
theorem HW{k l:V}{P:V->V->Prop}:JG [k,l] P=P k l:=rfl
theorem jK{x:V}{P:Bool->Prop}:wR x P = ∃k,x=.bl k/\P k:=propext (by cases x<;>simp[wR])
theorem dA{x:V}{P:Int->Prop}:isInt x P = ∃k,x=.int k/\P k:=propext (by cases x<;>simp[isInt])
theorem eC{x:V}{P:Addr->Prop}:jq x P = ∃k,x=.ref k/\P k:=propext (by cases x<;>simp[jq])
theorem mM{x:Option (Option V)}{P:V->Prop}:uj x P = ∃k,x=some (some k)/\P k:=propext (by rcases x with _|_|v<;>simp[uj])
theorem ol{x:List V}{P:V->Prop}:Iy x P = ∃k,x=[k]/\P k:=propext (by rcases x with _|⟨v,_|⟨u,r⟩⟩<;>simp[Iy])
theorem tq{x:List V}{P:V->V->Prop}:JG x P = ∃k l,x=[k,l]/\P k l:=propext ⟨λh=>match x,h with|[v,u],h=>⟨v,u,rfl,h⟩,λ⟨k,l,e,h⟩=>by subst e;exact h⟩
theorem FW{α β:Sort _}{A:α->Prop}{B:β->Prop}{C:α->β->Prop}:(∃i j,A i/\B j/\C i j) = ∃i,A i /\ ∃j,B j/\C i j:=propext ⟨λ⟨i,j,a,b,c⟩=>⟨i,a,j,b,c⟩,λ⟨i,a,j,b,c⟩=>⟨i,j,a,b,c⟩⟩
def El(i:Nat):TE:=λσ H Q=>uj σ[i]? λv=>Q v H
theorem Go{i:Nat}:Ft i=El i:=by funext σ H Q;exact mM.symm
def xD(t:TE):TT:=λσ H Q=>t σ H λx H'=>wR x λk=>Q k H'
theorem yJ{t:TE}:rM t=xD t:=by
 funext σ H Q;unfold rM xD;congr 1
 funext x H';exact jK.symm
theorem Kj{t:TE}:tB t=xD t:=yJ
def Cc(ta tb:TE):TE:=λσ H Q=>ta σ H λx H1=>wR x λc=>if c=true then tb σ H1 Q else Q (.bl false) H1
theorem Eb{ta tb:TE}:yi ta tb=Cc ta tb:=by
 funext σ H Q;unfold yi Cc;congr 1
 funext x H';exact jK.symm
def GB(ta tb:TE):TE:=λσ H Q=>ta σ H λx H1=>wR x λc=>if c=true then Q (.bl true) H1 else tb σ H1 Q
theorem Ih{ta tb:TE}:EN ta tb=GB ta tb:=by
 funext σ H Q;unfold EN GB;congr 1
 funext x H';exact jK.symm
def Cw(ta:TE):TE:=λσ H Q=>ta σ H λx H1=>wR x λc=>Q (.bl (!c)) H1
theorem DX{ta:TE}:xN ta=Cw ta:=by
 funext σ H Q;unfold xN Cw;congr 1
 funext x H';exact jK.symm
def mI(C:Int->Int->Prop)(g:Int->Int->V):R2:=λx y H Q=>isInt x λi=>isInt y λj=>C i j/\Q (g i j) H
theorem J6{C:Int->Int->Prop}{g:Int->Int->V}:rI C g=mI C g:=by
 funext x y H Q;unfold rI mI;rw[dA];simp only[dA];exact FW
def JY(g:Int->Int->V):R2:=λx y H Q=>isInt x λi=>isInt y λj=>Q (g i j) H
theorem IK{g:Int->Int->V}:xT g=JY g:=by
 funext x y H Q;unfold xT JY;simp only[dA];exact FW
def mU(g:Int->V):V->Hp->VK->Prop:=λx H Q=>isInt x λi=>Q (g i) H
theorem J0{g:Int->V}:rU g=mU g:=by
 funext x H Q;exact dA.symm
theorem pX{i j:Int}:Aa (.int i) (.int j)=true:=rfl
theorem DH{i j:Bool}:Aa (.bl i) (.bl j)=true:=rfl
def JT:R2:=λx y H Q=>match x,y with | .int i,.int j=>Q (.bl (decide (i=j))) H|_,_=>Iz x y H Q
theorem E5{i j:Int}{H:Hp}{Q:VK}:JT (.int i) (.int j) H Q=Q (.bl (decide (i=j))) H:=rfl
theorem FV:Iz=JT:=by
 funext x y H Q;unfold JT;split
 .unfold Iz;show (Aa _ _=true/\_)=_;simp only[pX,V.int.injEq,true_and]
 .rfl
theorem Fz{x y:V}{H:Hp}{Q:VK}:JT x y H Q=Iz x y H Q:=by rw[FV]
def JI:R2:=λx y H Q=>match x,y with | .int i,.int j=>Q (.bl (!decide (i=j))) H|_,_=>IA x y H Q
theorem ET{i j:Int}{H:Hp}{Q:VK}:JI (.int i) (.int j) H Q=Q (.bl (!decide (i=j))) H:=rfl
theorem FR:IA=JI:=by
 funext x y H Q;unfold JI;split
 .unfold IA;show (Aa _ _=true/\_)=_;simp only[pX,V.int.injEq,true_and]
 .rfl
theorem Ef{x y:V}{H:Hp}{Q:VK}:JI x y H Q=IA x y H Q:=by rw[FR]
section
variable {K:W.Frag}
def GJ(K:W.Frag):R2:=λx y H Q=>jq x λp=>isInt y λi=>∃xs,vw K H p=some (.lst xs) /\ ∃v,nN xs i=some v/\Q v H
theorem GF:wp K=GJ K:=by
 funext x y H Q;unfold wp GJ;simp only[dA,eC];exact FW
def Ii(K:W.Frag):R2:=λx y H Q=>jq x λp=>isInt y λi=>∃xs,vw K H p=some (.tup xs) /\ ∃v,nN xs i=some v/\Q v H
theorem GD:E7 K=Ii K:=by
 funext x y H Q;unfold E7 Ii;simp only[dA,eC];exact FW
def Hi(K:W.Frag)(neg:Bool):R2:=λx y H Q=>∃d,aI (vw K H) d x /\ ∃e,aI (vw K H) e y/\d.cmp/\e.cmp/\Q (.bl (cond neg (!DD d e) (DD d e))) H
theorem F1{neg:Bool}:Do K neg=Hi K neg:=by
 funext x y H Q;unfold Do Hi;cases neg<;>exact FW
def G2(K:W.Frag)(neg:Bool):R2:=λx y H Q=>jq x λp=>jq y λq=>∃xs,vw K H p=some (.lst xs)/\vw K H q=some (.lst [])/\Q (.bl (cond neg (!xs.isEmpty) xs.isEmpty)) H
theorem Ij{neg:Bool}:DA K neg=G2 K neg:=by
 funext x y H Q;unfold DA G2;simp only[eC];cases neg<;>exact FW
def BQ(t:TE):TO:=λσ H Q=>t σ H λx H1=>isInt x λi=>Q (some i) H1
theorem Ee{t:TE}:xu t=BQ t:=by
 funext σ H Q;unfold xu BQ;congr 1
 funext x H';exact dA.symm
def IF(K:W.Frag):V->Option Int->Option Int->Hp->VK->Prop:=λx lo hi H Q=>jq x λa=>∃xs,vw K H a=some (.lst xs)/\Nw K H (.lst (iE xs lo hi)) Q
theorem HU:D5 K=IF K:=by
 funext x lo hi H Q;exact eC.symm
def BV(K:W.Frag):V->List V->Hp->VK->Prop:=λx vs H Q=>jq x λl=>Iy vs λy=>∃xs,vw K H l=some (.lst xs)/\xs.length<sizeLine/\FZ K H l (.lst (xs++[y])) (Q .non)
theorem E6:CG K=BV K:=by
 funext x y H Q;unfold CG BV;simp only[eC,ol];exact FW
def xX(K:W.Frag):V->V->V->Hp->(Hp->Prop)->Prop:=λo i v H Q=>jq o λp=>isInt i λk=>∃xs,vw K H p=some (.lst xs) /\ ∃j,wK xs.length k=some j/\FZ K H p (.lst (xs.set j v)) Q
theorem Eh:C4 K=xX K:=by
 funext x y v H Q;unfold C4 xX;simp only[eC,dA];exact FW
def Gn(i j:Nat)(ta:TA):TS:=λD σ H=>ta σ H λvs H1=>JG vs λv w=>D.nx ((σ.set i (some v)).set j (some w)) H1
theorem Ge{i j:Nat}{ta:TA}:Fm i j ta=Gn i j ta:=by
 funext D σ H;unfold Fm Gn;congr 1
 funext x H';exact tq.symm
def Jn(i:Nat)(te:TE)(ti:Df):TS:=λD σ H=>uj σ[i]? λx=>te σ H λy H1=>ti x y H1 λz H2=>D.nx (σ.set i (some z)) H2
theorem HR{i:Nat}{te:TE}{ti:Df}:Hj i te ti=Jn i te ti:=by
 funext D σ H;exact mM.symm
def Bf(K:W.Frag)(tl:TE):TI:=λσ H R=>tl σ H λx H1=>jq x λa=>(∃xs,kr K H1 a xs)/\R (JO K a) H1
theorem Ep{tl:TE}:xG K tl=Bf K tl:=by
 funext σ H R;unfold xG Bf;congr 1
 funext x H';exact eC.symm
def CM(ta:TA):TI:=λσ H R=>ta σ H λvs H1=>Iy vs λx=>isInt x λj=>-(2^62)<=j/\j<2^62/\R (IB 0 j.toNat) H1
theorem Dw{ta:TA}:y6 ta=CM ta:=by
 funext σ H R;unfold y6 CM;congr 1
 funext x H';simp only[ol,dA];exact propext ⟨λ⟨j,a,b⟩=>⟨_,a,j,rfl,b⟩,λ⟨_,a,j,e,b⟩=>⟨j,by rw[a,e],b⟩⟩
def va(K:W.Frag):R2:=λx y H Q=>match x,y with
 | .int i,.int j=>Q (.int (i+j)) H
 | .ref l,.ref b=>∃xs,vw K H l=some (.lst xs) /\ ∃zs,vw K H b=some (.lst zs)/\xs.length+zs.length<=sizeLine/\Nw K H (.lst (xs++zs)) Q
 | _,_=>gZ K x y H Q
theorem zZ{i j:Int}{H:Hp}{Q:VK}:va K (.int i) (.int j) H Q=Q (.int (i+j)) H:=rfl
theorem zo{l b:Addr}{H:Hp}{Q:VK}:va K (.ref l) (.ref b) H Q = ∃xs,vw K H l=some (.lst xs) /\ ∃zs,vw K H b=some (.lst zs)/\xs.length+zs.length<=sizeLine/\Nw K H (.lst (xs++zs)) Q:=rfl
theorem xU:gZ K=va K:=by
 funext x y H Q;unfold va;split
 .exact mr
 .exact fB
 .rfl
theorem zD{x y:V}{H:Hp}{Q:VK}:va K x y H Q=gZ K x y H Q:=by rw[xU]
def Ei(K:W.Frag):R2:=λx y H Q=>match x,y with
 | .int i,.int j=>IntMulOk i j/\Q (.int (i*j)) H
 | _,_=>ic K x y H Q
theorem BF{i j:Int}{H:Hp}{Q:VK}:Ei K (.int i) (.int j) H Q=(IntMulOk i j/\Q (.int (i*j)) H):=rfl
theorem BH:ic K=Ei K:=by
 funext x y H Q;unfold Ei;split
 .exact gH
 .rfl
theorem Cp{x y:V}{H:Hp}{Q:VK}:Ei K x y H Q=ic K x y H Q:=by rw[BH]
end
def Ka(P:Addr->Hp->VK->Prop)(t:TA):TE:=λσ H Q=>t σ H λvs H1=>Iy vs λx=>jq x λp=>P p H1 Q
theorem Je{P:Addr->Hp->VK->Prop}{t:TA}:EO (λxs H Q=>∃p,xs=[.ref p]/\P p H Q) t=Ka P t:=by
 funext σ H Q;unfold EO Ka;congr 1
 funext x H';simp only[ol,eC];exact propext ⟨λ⟨j,a,b⟩=>⟨_,a,j,rfl,b⟩,λ⟨_,a,j,e,b⟩=>⟨j,by rw[a,e],b⟩⟩
def JW(P:Int->Int->Hp->VK->Prop)(t:TA):TE:=λσ H Q=>t σ H λvs H1=>JG vs λx y=>isInt x λi=>isInt y λj=>P i j H1 Q
theorem IT{P:Int->Int->Hp->VK->Prop}{t:TA}:EO (λxs H Q=>∃i j,xs=[.int i,.int j]/\P i j H Q) t=JW P t:=by
 funext σ H Q;unfold EO JW;congr 1
 funext x H';simp only[tq,dA];exact propext ⟨λ⟨i,j,a,b⟩=>⟨_,_,a,i,rfl,j,rfl,b⟩,λ⟨_,_,a,i,e,j,e',b⟩=>⟨i,j,by rw[a,e,e'],b⟩⟩
end L2
namespace L2
open PySem
theorem HG{α:Sort _}{g z:List Value->α}(us:List Value)(hl:us.length=1)(h:∀a0,g [a0]=z [a0]):g us=z us:=by
 rcases us with _|⟨a0,_|⟨b,r⟩⟩
 all_goals first|exact h _|(simp at hl;done)
theorem HI{α:Sort _}{g z:List Value->α}(us:List Value)(hl:us.length=2)(h:∀a0 a1,g [a0,a1]=z [a0,a1]):g us=z us:=by
 rcases us with _|⟨a0,_|⟨a1,_|⟨b,r⟩⟩⟩
 all_goals first|exact h _ _|(simp at hl;done)
theorem Ig{α:Sort _}{g z:List Value->α}(us:List Value)(hl:us.length=3)(h:∀a0 a1 a2,g [a0,a1,a2]=z [a0,a1,a2]):g us=z us:=by
 rcases us with _|⟨a0,_|⟨a1,_|⟨a2,_|⟨b,r⟩⟩⟩⟩
 all_goals first|exact h _ _ _|(simp at hl;done)
end L2
namespace L2
open PySem PySem.Spec PyProof.Rows
def ch:Nat->Nat->Nat
 | _,0=>1
 | 0,_+1=>0
 | n+1,k+1=>ch n k+ch n (k+1)
def fw(t r:Nat->Rat):Nat->Nat->Rat
 | 0,h=>if h=0 then 1 else 0
 | k+1,h=>(if h=0 then 0 else fw t r k (h-1))+t h*fw t r k h+r (h+1)*fw t r k (h+1)
def bw(t r:Nat->Rat):Nat->Nat->Rat
 | 0,h=>if h=0 then 1 else 0
 | k+1,h=>bw t r k (h+1)+t h*bw t r k h+(if h=0 then 0 else r h*bw t r k (h-1))
theorem uZ{f g:Nat->Rat}:∀n,aj f g n=aj g f n
 | 0=>rfl
 | n+1=>by
  show aj f g n+f n*g n=aj g f n+g n*f n;rw[uZ n];grind
end L2
namespace L2
open PySem PySem.Spec PyProof.Rows
structure Jl where
 params:Arguments
 body:Expr
 scope:Scope
 Nl:List Str
 ixs:List Nat
 tl:TE
structure Ku where
 t:Addr
 p:Addr
 c:Addr
 d:Addr
 ps:Arguments
 b:Expr
 sc:Scope
 ds:List D
def Ob(D:Int)(B:Nat)(f:Nat->Rat):Prop:=∀k,∃n:Int,f k=(n:Rat)/(D:Rat)/\Bt B n
section
variable {D E:Int}{a b e:Nat}{f g:Nat->Rat}
theorem FD{n:Nat}:Bt n 0:=Nat.two_pow_pos n
theorem Ob.mono(h:Ob D a f)(hl:a<=b):Ob D b f:=λk=>by
 obtain⟨n,e1,h1⟩:=h k;exact⟨n,e1,h1.mono hl⟩
theorem Ob.congr(h:Ob D a f)(e:∀k,g k=f k):Ob D a g:=λk=>by
 rw[e k];exact h k
theorem Ob.bq{qs:List (Int×Int)}(h:Ob D a (cf qs))(hD:D≠0)(hb:Bt a D)(hF:∀q∈qs,Fq q):∀q∈qs,Bq a q:=λq hq=>by
 obtain⟨k,hk,rfl⟩:=List.getElem_of_mem hq;obtain⟨n,e1,h1⟩:=h k;rw[aG (YO hk)] at e1;rw[je (hF _ hq) (iH hD) (by rw[ix hD,e1])]
 exact oB hD h1 hb
theorem Ob.add(h1:Ob D a f)(h2:Ob D b g):Ob D (max a b+1) (λk=>f k+g k):=λk=>by
 obtain⟨m,e1,b1⟩:=h1 k;obtain⟨n,e2,b2⟩:=h2 k;refine⟨m+n,?_,b1.add b2⟩;show f k+g k=_;rw[e1,e2,Y9];grind
theorem Ob.up(hD:D≠0)(hE:E≠0)(h:Ob D a f)(hb:Bt e E):Ob (D*E) (a+e) f:=λk=>by
 obtain⟨n,e1,h1⟩:=h k;refine⟨n*E,?_,h1.mul hb⟩;have:=am hD;have:=am hE;rw[e1,Xa,Xa];grind
theorem Ob.one{c:Rat}{m:Int}(hD:D≠0)(hE:E≠0)(h:Ob D a f)(hc:c=(m:Rat)/(E:Rat))(hb:Bt b m):Ob (D*E) (a+b) (λk=>f k*c):=λk=>by
 obtain⟨n,e1,h1⟩:=h k;refine⟨n*m,?_,h1.mul hb⟩;have:=am hD;have:=am hE;show f k*c=_;rw[e1,hc,Xa,Xa];grind
theorem Ob.pr(hD:D≠0)(hE:E≠0)(h1:Ob D a f)(h2:Ob E b g):∀n,Ob (D*E) (a+b+n) (λk=>pr f g n k)
 | 0=>λk=>⟨0,by
  show (0:Rat)=((0:Int):Rat)/_;have c0:((0:Int):Rat)=0:=rfl;rw[c0];grind,FD⟩
 | n+1=>λk=>by
  obtain⟨m,e1,b1⟩:=Ob.pr hD hE h1 h2 n k;show ∃m,L2.pr f g n k+(if n<=k then f n*g (k-n) else 0)=_/\_
  have e1:L2.pr f g n k=(m:Rat)/((D*E:Int):Rat):=e1;split
  .obtain⟨x,e2,b2⟩:=h1 n;obtain⟨y,e3,b3⟩:=h2 (k-n);refine⟨m+x*y,?_,(b1.add (b2.mul b3)).mono ()⟩;have:=am hD;have:=am hE;rw[e1,e2,e3,Y9,Xa,Xa];grind
  .refine⟨m,?_,b1.mono ()⟩;rw[e1];grind
def Pb(a:Nat)(f:Nat->Rat):Prop:=∃D:Int,D≠0/\Bt a D/\Ob D a f
theorem Pb.mono(h:Pb a f)(hl:a<=b):Pb b f:=by
 obtain⟨D,h1,h2,h3⟩:=h;exact⟨D,h1,h2.mono hl,h3.mono hl⟩
theorem Pb.congr(h:Pb a f)(e:∀k,g k=f k):Pb a g:=by
 obtain⟨D,h1,h2,h3⟩:=h;exact⟨D,h1,h2,h3.congr e⟩
theorem Pb.bq{qs:List (Int×Int)}(h:Pb a (cf qs))(hF:∀q∈qs,Fq q):∀q∈qs,Bq a q:=by
 obtain⟨D,h1,h2,h3⟩:=h;exact h3.bq h1 h2 hF
theorem Pb.pr(h1:Pb a f)(h2:Pb b g)(n:Nat):Pb (a+b+n) (λk=>L2.pr f g n k):=by
 obtain⟨D,d1,d2,d3⟩:=h1;obtain⟨E,e1,e2,e3⟩:=h2;exact⟨D*E,Y8 d1 e1,(d2.mul e2).mono (),Ob.pr d1 e1 d3 e3 n⟩
theorem Pb.add(h1:Pb a f)(h2:Pb b g):Pb (a+b+1) (λk=>f k+g k):=by
 obtain⟨D,d1,d2,d3⟩:=h1;obtain⟨E,e1,e2,e3⟩:=h2;have x2:=Ob.up e1 d1 e3 d2;rw[Y6] at x2;refine⟨D*E,Y8 d1 e1,(d2.mul e2).mono (),((Ob.up d1 e1 d3 e2).add x2).mono ()⟩
theorem Pb.one{c:Rat}{m:Int}(h:Pb a f)(hE:E≠0)(hc:c=(m:Rat)/(E:Rat))(hb:Bt b m)(hb':Bt b E):Pb (a+b) (λk=>f k*c):=by
 obtain⟨D,d1,d2,d3⟩:=h;exact⟨D*E,Y8 d1 hE,d2.mul hb',Ob.one d1 hE d3 hc hb⟩
end
theorem C8{a:Nat}(h:1<=a):Pb a (cf []):=⟨1,∅,Bt.mono (m:=1) ∅ h,λk=>⟨0,by
  show (0:Rat)=((0:Int):Rat)/_;have c0:((0:Int):Rat)=0:=rfl;rw[c0];grind,FD⟩⟩
def lin(p q:Rat)(f:Nat->Rat):Nat->Rat
 | 0=>f 0*p
 | k+1=>f (k+1)*p+f k*q
theorem uF{a b c:Int}(h:Int.gcd a b=1)(hd:a∣b*c):a∣c:=by
 rw[<-Int.natAbs_dvd_natAbs] at hd ⊢;rw[YV] at hd;exact Nat.Coprime.dvd_of_dvd_mul_left h hd
theorem D6{b q E:Int}(hb:0<b)(hq:0<q)(h1:b∣E)(h2:q∣E):b*q.fdiv (Int.gcd b q:Int)∣E:=by
 obtain⟨_,_,_,hg,_⟩:=uJ hb hq;have e:=gj hg (Int.gcd_dvd_right b q);obtain⟨m,hm⟩:=Int.gcd_dvd_left b q;obtain⟨g,hgg⟩ : ∃g:Nat,g=Int.gcd b q:=⟨_,rfl⟩;generalize hc:q.fdiv (Int.gcd b q:Int)=c at e;rw[<-hgg] at hg e hm;have hcop:Int.gcd c m=1:=by
  have z:Int.gcd b q=g*Int.gcd m c:=by
   rw[hm,<-e,Y6 c,Int.gcd_mul_left];simp
  rw[<-hgg] at z;have g0:0<g:=();have:Int.gcd m c=1:=by
   have:g*1=g*Int.gcd m c:=();exact (Nat.eq_of_mul_eq_mul_left g0 this).symm
  rw[Int.gcd_comm];exact this
 obtain⟨u,hu⟩:=h1;obtain⟨v,hv⟩:=h2;have:c∣m*u:=by
  refine⟨v,?_⟩;have z:(g:Int)*(m*u)=(g:Int)*(c*v):=by
   rw[<-Y5,<-hm,<-hu,hv,<-e];rw[Y6 c,Y5]
  exact Int.eq_of_mul_eq_mul_left hg z
 obtain⟨t,ht⟩:=uF hcop this;exact⟨t,by rw[hu,ht,Y5]⟩
theorem oM{q:Int×Int}{n E:Int}(h:Fq q)(hE:E≠0)(e:wv q=(n:Rat)/(E:Rat)):q.2∣E:=by
 unfold wv at e;have c1:=am h.ne;have c2:=am hE;have e1:(q.1:Rat)*(E:Rat)=(n:Rat)*(q.2:Rat):=⋯;have e2:q.1*E=n*q.2:=by
  rw[<-Xa,<-Xa] at e1;exact Rat.intCast_inj.mp e1
 refine uF (b:=q.1) (by rw[Int.gcd_comm];exact h.2) ⟨n,by rw[e2,Y6]⟩
theorem fz{a:Nat}{qs:List (Int×Int)}{D:Int}{ns:List Int}(h:Pb a (cf qs))(hF:∀q∈qs,Fq q)(hD:0<D)(hm:∀E:Int,(∀q∈qs,q.2∣E)->D∣E)(hl:ns.length=qs.length)(hn:∀(i:Nat)(n:Int)(q:Int×Int),ns[i]? = some n->qs[i]? = some q->(n:Rat)=wv q*(D:Rat)):Bt a D /\ ∀n∈ns,Bt a n:=by
 obtain⟨E,hE,bE,oE⟩:=h;obtain⟨t,ht⟩:=hm E λq hq=>by
  obtain⟨k,hk,rfl⟩:=List.getElem_of_mem hq;obtain⟨n,e,_⟩:=oE k;rw[aG (YO hk)] at e;exact oM (hF _ hq) hE e
 have t0:t≠0:=λz=>hE (by rw[ht,z,Xi])
 have le:∀x:Int,x.natAbs<=(x*t).natAbs:=λx=>by
  rw[YV];exact Y3 _ ()
 refine⟨?_,λn hn'=>?_⟩
 .unfold Bt at *
  have:=le D;rw[<-ht] at this;nofun
 .obtain⟨i,hi,rfl⟩:=List.getElem_of_mem hn';have hi':i<qs.length:=();have e1:=hn i _ _ (YO hi) (YO hi');obtain⟨m,e2,bm⟩:=oE i;rw[aG (YO hi')] at e2;have c1:=am hE;have e3:((ns[i]*t:Int):Rat)=(m:Rat):=by
   rw[Xa,e1,e2];have:(E:Rat)=(D:Rat)*(t:Rat):=by rw[ht,Xa]
   have c2:(D:Rat)≠0:=am ();have c3:(t:Rat)≠0:=am t0;rw[this];grind
  have e4:=Rat.intCast_inj.mp e3;unfold Bt at *
  have:=le ns[i];rw[e4] at this;nofun
def dY(f:Nat->Rat):Nat->Rat->Rat
 | 0,_=>0
 | n+1,x=>dY f n x+f n*aJ x n
theorem rp{f g:Nat->Rat}{x:Rat}:∀n,(∀k,k<n->f k=g k)->dY f n x=dY g n x
 | 0,_=>rfl
 | n+1,h=>by
  show dY f n x+f n*_=dY g n x+g n*_;rw[rp n (λk hk=>h k ()),h n ()]
theorem su{f g:Nat->Rat}{x:Rat}:∀n,dY (λk=>f k+g k) n x=dY f n x+dY g n x
 | 0=>by show (0:Rat)=0+0;grind
 | n+1=>by
  show dY (λk=>f k+g k) n x+(f n+g n)*aJ x n=dY f n x+f n*aJ x n+(dY g n x+g n*aJ x n);rw[su n];grind
theorem oC{f:Nat->Rat}{x:Rat}{n:Nat}(h:∀k,n<=k->f k=0):∀m,dY f (n+m) x=dY f n x
 | 0=>rfl
 | m+1=>by
  show dY f (n+m) x+f (n+m)*_=_;rw[oC h m,h (n+m) ()];grind
theorem yb{p q:Rat}{f:Nat->Rat}{x:Rat}:∀n,dY (lin p q f) (n+1) x=p*dY f (n+1) x+q*x*dY f n x
 | 0=>by
  show 0+f 0*p*1=p*(0+f 0*1)+q*x*0;grind
 | n+1=>by
  show dY (lin p q f) (n+1) x+(f (n+1)*p+f n*q)*aJ x (n+1)=p*(dY f (n+1) x+f (n+1)*aJ x (n+1))+q*x*(dY f n x+f n*aJ x n);rw[yb n,kd];grind
def EV(f:Nat->Rat)(x:Rat):Rat:=dY f 20 x
theorem si{p q:Rat}{f:Nat->Rat}(h:f 19=0)(x:Rat):EV (lin p q f) x=(p+q*x)*EV f x:=by
 unfold EV;rw[yb 19];have:dY f 20 x=dY f 19 x:=by
  show dY f 19 x+f 19*_=_;rw[h];grind
 rw[this];grind
theorem du{f g:Nat->Rat}(h:∀k,f k=g k)(x:Rat):EV f x=EV g x:=rp 20 λk _=>h k
theorem mB{f g:Nat->Rat}(x:Rat):EV (λk=>f k+g k) x=EV f x+EV g x:=su 20
def DF(f:Nat->Rat):Nat->Rat:=λk=>((k+1:Nat):Int)*f (k+1)
theorem AZ{p:Rat}{f:Nat->Rat}(k:Nat):DF (lin p 1 f) k=lin p 1 (DF f) k+f k:=by
 cases k with
 | zero =>
  show (((0+1:Nat):Int):Rat)*(f 1*p+f 0*1)=(((0+1:Nat):Int):Rat)*f 1*p+f 0;have c1:(((0+1:Nat):Int):Rat)=1:=rfl;rw[c1];grind
 | succ k =>
  show (((k+1+1:Nat):Int):Rat)*(f (k+2)*p+f (k+1)*1)=(((k+1+1:Nat):Int):Rat)*f (k+2)*p+(((k+1:Nat):Int):Rat)*f (k+1)*1+f (k+1);have c1:(((k+1+1:Nat):Int):Rat)=(((k+1:Nat):Int):Rat)+1:=by
   rw[show ((k+1+1:Nat):Int)=((k+1:Nat):Int)+1 by nofun,Y9]
   rfl
  rw[c1];grind
theorem qU{c:Rat}{g:Nat->Rat}{j:Nat}{x:Rat}:∀M,dY (λk=>if j<=k then c*g (k-j) else 0) (j+M) x=c*aJ x j*dY g M x
 | 0=>by
  have:∀n,n<=j->dY (λk=>if j<=k then c*g (k-j) else 0) n x=0:=λn=>by
   induction n with
   | zero=>intro _;rfl
   | succ n ih =>
    intro hn;show dY (λk=>if j<=k then c*g (k-j) else 0) n x+(if j<=n then c*g (n-j) else 0)*aJ x n=0
    rw[ih (),Yc ()];grind
  rw[Nat.add_zero,this j (Yp _)];show (0:Rat)=c*aJ x j*0;grind
 | M+1=>by
  show dY (λk=>if j<=k then c*g (k-j) else 0) (j+M) x+(if j<=j+M then c*g (j+M-j) else 0)*aJ x (j+M)=c*aJ x j*(dY g M x+g M*aJ x M)
  rw[qU M,Yb (),Nat.add_sub_cancel_left];have:aJ x (j+M)=aJ x j*aJ x M:=by
   induction M with
   | zero=>show aJ x j=aJ x j*1;grind
   | succ M ih =>
    show aJ x (j+M)*x=aJ x j*(aJ x M*x);rw[ih];grind
  rw[this];grind
theorem AK{f g:Nat->Rat}{x:Rat}{m:Nat}(hg:∀k,m<=k->g k=0):∀n,n+m<=20->EV (λk=>pr f g n k) x=dY f n x*dY g m x
 | 0,_=>by
  have:∀n,dY (λk=>pr f g 0 k) n x=0:=λn=>by
   induction n with
   | zero=>rfl
   | succ n ih =>
    show dY (λk=>pr f g 0 k) n x+0*_=0;rw[ih];grind
  show dY _ 20 x=0*_;rw[this];grind
 | n+1,h=>by
  have e:EV (λk=>pr f g (n+1) k) x=EV (λk=>pr f g n k) x+EV (λk=>if n<=k then f n*g (k-n) else 0) x:=mB x
  rw[e,AK hg n ()];have s:EV (λk=>if n<=k then f n*g (k-n) else 0) x=f n*aJ x n*dY g m x:=by
   show dY _ 20 x=_;have z:=qU (c:=f n) (g:=g) (j:=n) (x:=x) (20-n);rw[show n+(20-n)=20 by nofun] at z
   rw[z];have z2:=oC (x:=x) hg (20-n-m);rw[show m+(20-n-m)=20-n by nofun] at z2
   rw[z2]
  rw[s];show _=(dY f n x+f n*aJ x n)*_;grind
theorem iO{f:Nat->Rat}{n:Nat}(h:∀k,n<=k->f k=0)(hn:n<=20)(x:Rat):EV f x=dY f n x:=by
 have:=oC (x:=x) h (20-n);rw[show n+(20-n)=20 by nofun] at this
 exact this
def eQ:List Rat->Rat->Rat
 | [],_=>0
 | a::l,x=>a+x*eQ l x
def FA(s:Rat):List Rat->List Rat
 | []=>[]
 | [_]=>[]
 | _::b::l=>eQ (b::l) s::FA s (b::l)
theorem yw{s:Rat}:∀l:List Rat,(FA s l).length=l.length-1
 | []=>rfl
 | [_]=>rfl
 | _::b::l=>by
  show (FA s (b::l)).length+1=_;rw[yw (b::l)];rfl
theorem vM{s x:Rat}:∀l:List Rat,eQ l x-eQ l s=(x-s)*eQ (FA s l) x
 | []=>by show (0:Rat)-0=(x-s)*0;grind
 | [a]=>by show a+x*0-(a+s*0)=(x-s)*0;grind
 | a::b::l=>by
  have:=vM (s:=s) (x:=x) (b::l);show a+x*eQ (b::l) x-(a+s*eQ (b::l) s)=(x-s)*(eQ (b::l) s+x*eQ (FA s (b::l)) x);have e:(x-s)*(x*eQ (FA s (b::l)) x)=x*(eQ (b::l) x-eQ (b::l) s):=by rw[this];grind
  grind
theorem uQ:∀(S:List Rat)(l:List Rat),S.Nodup->l.length<=S.length->(∀s∈S,eQ l s=0) -> ∀x,eQ l x=0
 | [],l,_,hl,_,x=>by
  have:l=[]:=List.length_eq_zero_iff.mp (Nat.le_zero.mp hl);rw[this];rfl
 | s::S,l,nd,hl,h,x=>by
  rw[List.nodup_cons] at nd;have h0:=h s Yi;have g:∀x,eQ (FA s l) x=0:=uQ S (FA s l) nd.2 (by rw[yw];have:l.length<=S.length+1:=hl;nofun) λt ht=>by
   have e:=vM (s:=s) (x:=t) l;rw[h t (Yj _ ht),h0] at e;have hts:t-s=0->t=s:=λz=>by grind
   have hne:t-s≠0:=λz=>nd.1 (by rw[<-hts z];exact ht)
   grind
  have e:=vM (s:=s) (x:=x) l;rw[g x,h0] at e;grind
def eZ(n:Nat)(f:Rat->Rat):Prop:=∃l:List Rat,l.length<=n /\ ∀x,f x=eQ l x
theorem eZ.mono{m n:Nat}{f:Rat->Rat}(h:eZ m f)(hl:m<=n):eZ n f:=by
 obtain⟨l,h1,h2⟩:=h;exact⟨l,(),h2⟩
def xa:List Rat->List Rat->List Rat
 | [],b=>b
 | a,[]=>a
 | x::a,y::b=>(x+y)::xa a b
theorem oW:∀a b:List Rat,(xa a b).length=max a.length b.length
 | [],b=>by show b.length=max 0 b.length;nofun
 | x::a,[]=>by show (x::a).length=max (x::a).length 0;nofun
 | x::a,y::b=>by
  show (xa a b).length+1=max (a.length+1) (b.length+1);rw[oW a b];nofun
theorem sM{t:Rat}:∀a b:List Rat,eQ (xa a b) t=eQ a t+eQ b t
 | [],b=>by show eQ b t=0+eQ b t;grind
 | x::a,[]=>by show eQ (x::a) t=eQ (x::a) t+0;grind
 | x::a,y::b=>by
  show x+y+t*eQ (xa a b) t=x+t*eQ a t+(y+t*eQ b t);rw[sM a b];grind
theorem eZ.add{n:Nat}{f g:Rat->Rat}(h1:eZ n f)(h2:eZ n g):eZ n (λx=>f x+g x):=by
 obtain⟨a,a1,a2⟩:=h1;obtain⟨b,b1,b2⟩:=h2;refine⟨xa a b,by rw[oW];nofun,λx=>?_⟩
 show f x+g x=_;rw[sM,a2,b2]
theorem wJ{c x:Rat}:∀l:List Rat,eQ (l.map λa=>a*c) x=eQ l x*c
 | []=>by show (0:Rat)=0*c;grind
 | a::l=>by
  show a*c+x*eQ (l.map λa=>a*c) x=(a+x*eQ l x)*c;rw[wJ l];grind
theorem eZ.sc{n:Nat}{f:Rat->Rat}(h:eZ n f)(c:Rat):eZ n (λx=>f x*c):=by
 obtain⟨a,a1,a2⟩:=h;refine⟨a.map λa=>a*c,by rw[YC];exact a1,λx=>?_⟩
 show f x*c=_;rw[wJ,a2]
theorem eZ.mulX{n:Nat}{f:Rat->Rat}(h:eZ n f)(s:Rat):eZ (n+1) (λx=>(x-s)*f x):=by
 obtain⟨a,a1,a2⟩:=h;refine⟨xa (0::a) (a.map λa=>a*(-s)),by rw[oW,YC];show max (a.length+1) a.length<=n+1;nofun,λx=>?_⟩
 rw[sM,wJ];show (x-s)*f x=0+x*eQ a x+eQ a x * -s;rw[a2];grind
theorem FS{f:Nat->Rat}:∀n x,dY f n x=eQ ((List.range n).map f) x
 | n,x=>by
  have key:∀n j,eQ ((List.range n).map λi=>f (j+i)) x*aJ x j+dY f j x=dY f (j+n) x:=λn=>by
   induction n with
   | zero =>
    intro j;show 0*_+_=dY f j x;grind
   | succ n ih =>
    intro j;rw[List.range_succ_eq_map,YL,List.map_map];show (f (j+0)+x*eQ ((List.range n).map ((λi=>f (j+i)) ∘ Nat.succ)) x)*aJ x j+dY f j x=_;have e:((λi=>f (j+i)) ∘ Nat.succ)=λi=>f (j+1+i):=by
     funext i;show f (j+(i+1))=f (j+1+i);rw[show j+(i+1)=j+1+i by nofun]
    have:=ih (j+1);rw[e,show j+(n+1)=j+1+n by nofun,<-this,kd]
    show _=_+(dY f j x+f j*aJ x j);rw[Nat.add_zero];grind
  have:=key n 0;rw[Xo] at this;rw[<-this];have e:(λi=>f (0+i))=f:=by funext i;rw[Xo]
  rw[e];show _*1+0=_;grind
theorem eZ.of{f:Nat->Rat}{n:Nat}(h:∀k,n<=k->f k=0)(hn:n<=20):eZ n (EV f):=⟨(List.range n).map f,by simp,λx=>by rw[iO h hn,FS]⟩
section
variable {X:Cx}
def qW(K:W.Frag):V->Option Int->Option Int->Hp->VK->Prop:=λx lo hi H Q=>∃a,x=.ref a /\ ∃xs,vw K H a=some (.tup xs) /\ ¬ (HT.sIx xs.length 0 lo=0/\HT.sIx xs.length xs.length hi=xs.length)/\Nw K H (.tup (iE xs lo hi)) Q
theorem oz:xW X (qW X.K):=F6.kf.imp λ_ _ _ _ _ ⟨a,e,xs,h,n,q⟩=>⟨a,xs,e,dF h,n,q.al⟩
end
def zO:Nat->List Rat
 | 0=>[]
 | n+1=>((n+1:Nat):Int)::zO n
theorem oF:∀{n:Nat}{x:Rat},x∈zO n -> ∃m:Nat,1<=m/\m<=n/\x=((m:Int):Rat)
 | n+1,x,h=>by
  rcases YY.mp h with rfl|h
  .exact⟨n+1,(),(),rfl⟩
  .obtain⟨m,h1,h2,h3⟩:=oF h;exact⟨m,h1,(),h3⟩
theorem yG:∀n,(zO n).Nodup
 | 0=>List.nodup_nil
 | n+1=>by
  refine List.nodup_cons.mpr ⟨λh=>?_,yG n⟩;obtain⟨m,_,h2,h3⟩:=oF h;have:=Rat.intCast_inj.mp h3;nofun
theorem u8:∀n,(zO n).length=n
 | 0=>rfl
 | n+1=>by show (zO n).length+1=_;rw[u8 n]
theorem pC:∀l:List Rat,(∀x,eQ l x=0) -> ∀a∈l,a=0
 | [],_,a,h=>by cases h
 | b::l,h,a,ha=>by
  have h0:b=0:=by
   have:=h 0;show b=0;have e:eQ (b::l) 0=b+0*eQ l 0:=rfl;rw[e] at this;grind
  have hl:∀x,eQ l x=0:=uQ (zO l.length) l (yG _) (by rw[u8];exact Yp _) λs hs=>by
   obtain⟨m,h1,_,rfl⟩:=oF hs;have:=h ((m:Int):Rat);have e:eQ (b::l) ((m:Int):Rat)=b+((m:Int):Rat)*eQ l ((m:Int):Rat):=rfl;rw[e,h0] at this;have c:((m:Int):Rat)≠0:=am ();grind
  rcases YY.mp ha with rfl|ha
  .exact h0
  .exact pC l hl a ha
theorem mC{f g:Nat->Rat}(hf:∀k,20<=k->f k=0)(hg:∀k,20<=k->g k=0)(h:∀x,EV f x=EV g x)(k:Nat):f k=g k:=by
 rcases Xp k 20 with z|z
 .have e:∀x,eQ ((List.range 20).map λk=>f k + -1*g k) x=0:=λx=>by
   rw[<-FS,su];have h1:dY (λk=>-1*g k) 20 x = -1*dY g 20 x:=by
    have:∀n,dY (λk=>-1*g k) n x = -1*dY g n x:=λn=>by
     induction n with
     | zero=>show (0:Rat) = -1*0;grind
     | succ n ih =>
      show dY (λk=>-1*g k) n x + -1*g n*aJ x n = -1*(dY g n x+g n*aJ x n);rw[ih];grind
    exact this 20
   have h2:dY f 20 x=dY g 20 x:=h x;rw[h1,h2];grind
  have:=pC _ e (f k + -1*g k) (List.mem_map.mpr ⟨k,List.mem_range.mpr z,rfl⟩);grind
 .rw[hf k z,hg k z]
theorem kZ{f g h:Nat->Rat}{c:Rat}:∀n,aj f (λi=>g i+c*h i) n=aj f g n+c*aj f h n
 | 0=>by show (0:Rat)=0+c*0;grind
 | n+1=>by
  show aj f (λi=>g i+c*h i) n+f n*(g n+c*h n)=aj f g n+f n*g n+c*(aj f h n+f n*h n);rw[kZ n];grind
theorem qf{x:Rat}(i:Nat):∀j,aJ x (i+j)=aJ x i*aJ x j
 | 0=>by show aJ x i=aJ x i*1;grind
 | j+1=>by
  show aJ x (i+j)*x=aJ x i*(aJ x j*x);rw[qf i j];grind
end L2
namespace L2
open PySem
abbrev Om:=List Bool->Int
def wg:Nat->(Nat->Int)->Om->Om
 | 0,_,_=>λ_=>0
 | m+1,v,o=>λl=>match l with
  | []=>0
  | false::l=>wg m v (λk=>o (false::k)) l
  | true::l=>v m*o (false::l)-wg m v (λk=>o (true::k)) l
theorem kW{m:Nat}{v:Nat->Int}{o:Om}{l:List Bool}:wg (m+1) v o (false::l)=wg m v (λk=>o (false::k)) l:=rfl
theorem kq{m:Nat}{v:Nat->Int}{o:Om}{l:List Bool}:wg (m+1) v o (true::l)=v m*o (false::l)-wg m v (λk=>o (true::k)) l:=rfl
theorem mG{v:Nat->Int}{a b:Int}:∀(m:Nat)(o p:Om)(l:List Bool),wg m v (λk=>a*o k+b*p k) l=a*wg m v o l+b*wg m v p l
 | 0,o,p,l=>by show (0:Int)=a*0+b*0;rw[Xi,Xi];rfl
 | m+1,o,p,[]=>by show (0:Int)=a*0+b*0;rw[Xi,Xi];rfl
 | m+1,o,p,false::l=>by
  rw[kW,kW,kW];exact mG m _ _ l
 | m+1,o,p,true::l=>by
  rw[kq,kq,kq,mG m (λk=>o (true::k)) (λk=>p (true::k)) l];grind
theorem j9{v:Nat->Int}:∀(m:Nat)(o:Om)(l:List Bool),(∀k,o k=0)->wg m v o l=0
 | 0,o,l,h=>rfl
 | m+1,o,[],h=>rfl
 | m+1,o,false::l,h=>by rw[kW];exact j9 m _ l λk=>h _
 | m+1,o,true::l,h=>by rw[kq,h,j9 m _ l λk=>h _];nofun
theorem gn{v:Nat->Int}{m:Nat}{o p:Om}(h:∀k,o k=p k)(l:List Bool):wg m v o l=wg m v p l:=by
 have:o=p:=funext h;rw[this]
theorem jZ{u v:Nat->Int}{a b:Int}:∀(m:Nat)(o:Om)(l:List Bool),wg m (λi=>a*u i+b*v i) o l=a*wg m u o l+b*wg m v o l
 | 0,o,l=>by show (0:Int)=a*0+b*0;rw[Xi,Xi];rfl
 | m+1,o,[]=>by show (0:Int)=a*0+b*0;rw[Xi,Xi];rfl
 | m+1,o,false::l=>by
  rw[kW,kW,kW];exact jZ m _ l
 | m+1,o,true::l=>by
  rw[kq,kq,kq,jZ m _ l];grind
theorem hZ{v:Nat->Int}:∀(m:Nat)(o:Om)(l:List Bool),(∀i,i<m->v i=0)->wg m v o l=0
 | 0,o,l,h=>rfl
 | m+1,o,[],h=>rfl
 | m+1,o,false::l,h=>by rw[kW];exact hZ m _ l λi hi=>h i ()
 | m+1,o,true::l,h=>by rw[kq,h m (),hZ m _ l λi hi=>h i ()];nofun
theorem ko{u v:Nat->Int}:∀(m:Nat)(o:Om)(l:List Bool),wg m u (wg m v o) l = - wg m v (wg m u o) l
 | 0,o,l=>rfl
 | m+1,o,[]=>rfl
 | m+1,o,false::l=>by
  rw[kW,kW];exact ko m (λk=>o (false::k)) l
 | m+1,o,true::l=>by
  rw[kq,kq,kW,kW];have e1:=mG (v:=u) (a:=v m) (b:=-1) m (λk=>o (false::k)) (wg m v λk=>o (true::k)) l;have e2:=mG (v:=v) (a:=u m) (b:=-1) m (λk=>o (false::k)) (wg m u λk=>o (true::k)) l;have f1:wg m u (λk=>wg (m+1) v o (true::k)) l=wg m u (λk=>v m*o (false::k) + -1*wg m v (λk=>o (true::k)) k) l:=gn (λk=>by rw[kq];nofun) l
  have f2:wg m v (λk=>wg (m+1) u o (true::k)) l=wg m v (λk=>u m*o (false::k) + -1*wg m u (λk=>o (true::k)) k) l:=gn (λk=>by rw[kq];nofun) l
  have s:=ko (u:=u) (v:=v) m (λk=>o (true::k)) l;rw[f1,f2,e1,e2];grind
theorem xF{v:Nat->Int}(m:Nat)(o:Om)(l:List Bool):wg m v (wg m v o) l=0:=by
 have:=ko (u:=v) (v:=v) m o l;nofun
section
variable (W:Nat->Int)
def lj(i:Nat):Nat->Int:=λj=>W (i+j)
def vV:Om:=λl=>if l.all (λb=>!b) then 1 else 0
def om(m:Nat):Nat->Om
 | 0=>vV
 | k+1=>wg m (lj W k) (om m k)
def vA:Nat->List Bool
 | 0=>[]
 | m+1=>true::vA m
def j8(j:Nat):Nat->Int:=λi=>if i=j then 1 else 0
def qk(k j:Nat):Int:=wg (k+1) (j8 j) (om W (k+1) k) (vA (k+1))
def Dk(k:Nat):Int:=om W k k (vA k)
def Lq(k i:Nat):Int:=wg (k+1) (lj W i) (om W (k+1) k) (vA (k+1))
end
variable {W:Nat->Int}
theorem uY(m:Nat):∀(k:Nat)(l:List Bool),om W (m+1) k (false::l)=om W m k l
 | 0,l=>by simp[om,vV]
 | k+1,l=>by
  show wg (m+1) (lj W k) (om W (m+1) k) (false::l)=wg m (lj W k) (om W m k) l;rw[kW];exact gn (λj=>uY m k j) l
theorem xY(m:Nat):∀(k i:Nat)(l:List Bool),i<k->wg m (lj W i) (om W m k) l=0
 | 0,i,l,h=>by nofun
 | k+1,i,l,h=>by
  show wg m (lj W i) (wg m (lj W k) (om W m k)) l=0;by_cases e:i=k
  .rw[e];exact xF m _ l
  .rw[ko,j9 m _ l λj=>xY m k i j ()];rfl
theorem Ah:Dk W 0=1:=rfl
theorem fh(k:Nat):qk W k k=Dk W k:=by
 show wg (k+1) (j8 k) (om W (k+1) k) (true::vA k)=om W k k (vA k);rw[kq,uY,hZ (v:=j8 k) k _ _ λi hi=>Yc ()];show (if k=k then (1:Int) else 0)*_-0=_
 rw[Yb rfl];nofun
theorem dE{k j:Nat}(h:k<j):qk W k j=0:=hZ _ _ _ λi hi=>Yc ()
theorem fV{k i:Nat}(h:i<k):Lq W k i=0:=xY _ k i _ h
theorem dQ(k:Nat):Lq W k k=Dk W (k+1):=rfl
def bV(f:Nat->Int):Nat->Int
 | 0=>0
 | n+1=>bV f n+f n
theorem fi{f g:Nat->Int}:∀n,(∀i,i<n->f i=g i)->bV f n=bV g n
 | 0,_=>rfl
 | n+1,h=>by
  show bV f n+f n=bV g n+g n;rw[fi n λi hi=>h i (),h n ()]
theorem gb{f:Nat->Int}:∀n,(∀i,i<n->f i=0)->bV f n=0
 | 0,_=>rfl
 | n+1,h=>by
  show bV f n+f n=0;rw[gb n λi hi=>h i (),h n ()];rfl
theorem rF{f:Nat->Int}{n:Nat}(h:∀i,n<=i->f i=0):∀m,bV f (n+m)=bV f n
 | 0=>rfl
 | m+1=>by
  show bV f (n+m)+f (n+m)=bV f n;rw[rF h m,h (n+m) ()];nofun
theorem gM{f:Nat->Int}{j:Nat}:∀n,(∀i,i<n->i≠j->f i=0)->j<n->bV f n=f j
 | 0,_,h=>by nofun
 | n+1,h,hj=>by
  show bV f n+f n=f j;by_cases e:j=n
  .rw[gb n λi hi=>h i () (),e];nofun
  .rw[gM n (λi hi hn=>h i () hn) (),h n () ()];nofun
theorem mN{v:Nat->Int}{M:Nat}{o:Om}{l:List Bool}:∀n,wg M (λi=>bV (λj=>v j*j8 j i) n) o l=bV (λj=>v j*wg M (j8 j) o l) n
 | 0=>hZ _ _ _ λi _=>rfl
 | n+1=>by
  have e:=jZ (u:=λi=>bV (λj=>v j*j8 j i) n) (v:=j8 n) (a:=1) (b:=v n) M o l;have f:(λi=>bV (λj=>v j*j8 j i) (n+1))=λi=>1*bV (λj=>v j*j8 j i) n+v n*j8 n i:=funext λi=>by
   show bV _ n+v n*j8 n i=_;rw[Xq]
  rw[f,e,mN n];show _=bV _ n+v n*_;rw[Xq]
theorem ub(k i:Nat):Lq W k i=bV (λj=>W (i+j)*qk W k j) (k+1):=by
 unfold Lq qk;rw[<-mN (v:=λj=>W (i+j)) (M:=k+1)];have:∀m (o:Om)(l:List Bool)(u v:Nat->Int),(∀i,i<m->u i=v i)->wg m u o l=wg m v o l:=λm o l u v h=>by
  have e:=jZ (u:=u) (v:=v) (a:=1) (b:=-1) m o l;rw[hZ m o l λi hi=>by rw[h i hi];nofun] at e
  nofun
 refine this _ _ _ _ _ λc hc=>?_;show W (i+c)=_;rw[gM (j:=c) (k+1) (λj _ hj=>by unfold j8;rw[Yc (λz=>hj z.symm),Xi]) hc]
 unfold j8;rw[Yb rfl,Int.mul_one]
end L2
namespace L2
open PySem
variable {W:Nat->Int}
theorem gm{f:Nat->Int}{a:Int}:∀n,bV (λi=>a*f i) n=a*bV f n
 | 0=>by show (0:Int)=a*0;rw[Xi]
 | n+1=>by
  show bV (λi=>a*f i) n+a*f n=a*(bV f n+f n);rw[gm n];grind
theorem jM{f g:Nat->Int}:∀n,bV (λi=>f i+g i) n=bV f n+bV g n
 | 0=>rfl
 | n+1=>by
  show bV (λi=>f i+g i) n+(f n+g n)=(bV f n+f n)+(bV g n+g n);rw[jM n];nofun
theorem qV{f:Nat->Nat->Int}(M:Nat):∀N,bV (λi=>bV (λj=>f i j) M) N=bV (λj=>bV (λi=>f i j) N) M
 | 0=>by
  show (0:Int)=bV (λj=>bV (λi=>f i j) 0) M;exact (gb (f:=λj=>bV (λi=>f i j) 0) M λi _=>rfl).symm
 | N+1=>by
  show bV _ N+bV (λj=>f N j) M=bV (λj=>bV (λi=>f i j) N+f N j) M;rw[qV M N,jM]
def LL(W:Nat->Int)(p:Nat->Int)(N i:Nat):Int:=bV (λj=>W (i+j)*p j) N
theorem qI(k i:Nat):LL W (qk W k) (k+1) i=Lq W k i:=(ub k i).symm
theorem xz{p:Nat->Int}{n i:Nat}(h:∀j,n<=j->p j=0)(m:Nat):LL W p (n+m) i=LL W p n i:=rF (λj hj=>by rw[h j hj,Xi]) m
theorem xR{a d:Nat->Int}{N M:Nat}:bV (λi=>a i*LL W d M i) N=bV (λj=>d j*LL W a N j) M:=by
 have e1:bV (λi=>a i*LL W d M i) N=bV (λi=>bV (λj=>a i*(W (i+j)*d j)) M) N:=fi N λi _=>(gm M).symm;have e2:bV (λj=>d j*LL W a N j) M=bV (λj=>bV (λi=>a i*(W (i+j)*d j)) N) M:=fi M λj _=>by
  unfold LL;rw[<-gm];exact fi N λi _=>by rw[Nat.add_comm j i];grind
 rw[e1,e2];exact qV M N
theorem Fh{d:Nat->Int}{k M:Nat}(hM:k+1<=M)(hD:∀i,i<=k+1->Dk W i≠0)(h0:∀i,i<=k->LL W d M i=0)(hd:∀j,k<j->d j=0):∀j,d j=0:=by
 have down:∀n,n<=k+1 -> ∀j,k+1-n<=j->d j=0:=by
  intro n;induction n with
  | zero=>exact λ_ j hj=>hd j ()
  | succ n ih =>
   intro hn j hj;have ihn:=ih ();by_cases e:j=k-n
   .have hz:bV (λi=>qk W (k-n) i*LL W d M i) (k-n+1)=0:=gb _ λi hi=>by rw[h0 i (),Xi]
    rw[xR,gM (j:=k-n) M (λi hi hne=>?_) (),qI,dQ] at hz
    .rcases Int.mul_eq_zero.mp hz with z|z
     .rw[e];exact z
     .exact absurd z (hD _ ())
    .by_cases hlt:i<k-n
     .show d i*LL W (qk W (k-n)) (k-n+1) i=0;rw[qI,fV hlt,Xi]
     .show d i*LL W (qk W (k-n)) (k-n+1) i=0;rw[ihn i (),Int.zero_mul]
   .exact ihn j ()
 exact λj=>down (k+1) (Yp _) j ()
def zm(p:Nat->Int):Nat->Int
 | 0=>0
 | j+1=>p j
theorem FP{p:Nat->Int}{i:Nat}:∀N,LL W (zm p) (N+1) i=LL W p N (i+1)
 | 0=>by
  show (0:Int)+W (i+0)*0=0;rw[Xi];rfl
 | N+1=>by
  show LL W (zm p) (N+1) i+W (i+(N+1))*p N=LL W p N (i+1)+W (i+1+N)*p N;rw[FP N,show i+(N+1)=i+1+N by nofun]
theorem Bx{n:Nat}(hD:Dk W (n+1)≠0):qk W (n+1) n = - Lq W n (n+1):=by
 have h1:bV (λi=>qk W n i*LL W (qk W (n+1)) (n+2) i) (n+1)=0:=gb _ λi hi=>by rw[qI,fV (),Xi]
 rw[xR] at h1;have h2:bV (λj=>qk W (n+1) j*LL W (qk W n) (n+1) j) (n+2)=qk W (n+1) n*Dk W (n+1)+qk W (n+1) (n+1)*Lq W n (n+1):=by
  show bV (λj=>qk W (n+1) j*LL W (qk W n) (n+1) j) (n+1)+qk W (n+1) (n+1)*LL W (qk W n) (n+1) (n+1)=_;rw[gM (j:=n) (n+1) (λi hi hne=>by rw[qI,fV (),Xi]) (),qI,qI,dQ]
 rw[h2,fh] at h1;have h3:Dk W (n+1)*(qk W (n+1) n+Lq W n (n+1))=0:=⋯;rcases Int.mul_eq_zero.mp h3 with z|z
 .exact absurd z hD
 .nofun
def nE(W:Nat->Int):Nat->Int
 | 0=>Dk W 0*Lq W 0 1
 | n+1=>Dk W (n+1)*Lq W (n+1) (n+2)+Dk W (n+2)*qk W (n+1) n
def mz(W:Nat->Int):Nat->Nat->Int
 | 0,_=>0
 | n+1,j=>qk W n j
def IW(W:Nat->Int):Nat->Nat->Int
 | 0,_=>0
 | n+1,i=>Lq W n i
theorem Hl(k i:Nat):LL W (mz W k) (k+2) i=IW W k i:=by
 cases k with
 | zero=>exact gb _ λj _=>Xi _
 | succ n =>
  show LL W (qk W n) (n+1+2) i=Lq W n i;rw[xz λj hj=>dE (),qI]
theorem Av{k:Nat}(hD:∀i,i<=k+1->Dk W i≠0)(j:Nat) :
  Dk W k*Dk W (k+1)*zm (qk W k) j-nE W k*qk W k j-Dk W (k+1)*Dk W (k+1)*mz W k j=Dk W k*Dk W k*qk W (k+1) j:=by
 obtain⟨d,hd⟩ : ∃d:Nat->Int,d=λj=>(Dk W k*Dk W (k+1))*zm (qk W k) j+(-1)*(nE W k*qk W k j+(Dk W (k+1)*Dk W (k+1)*mz W k j+Dk W k*Dk W k*qk W (k+1) j)):=⟨_,rfl⟩;have z:∀j,d j=0:=by
  refine Fh (k:=k) (M:=k+2) () hD (λi hi=>?_) (λj hj=>?_)
  .have e:LL W d (k+2) i=Dk W k*Dk W (k+1)*Lq W k (i+1)-nE W k*Lq W k i-Dk W (k+1)*Dk W (k+1)*IW W k i-Dk W k*Dk W k*Lq W (k+1) i:=by
    have f:LL W d (k+2) i=(Dk W k*Dk W (k+1))*LL W (zm (qk W k)) (k+2) i+(-1)*(nE W k*LL W (qk W k) (k+2) i+(Dk W (k+1)*Dk W (k+1)*LL W (mz W k) (k+2) i+Dk W k*Dk W k*LL W (qk W (k+1)) (k+2) i)):=by
     unfold LL;rw[<-gm,<-gm,<-gm,<-gm,<-jM,<-jM,<-gm,<-jM];refine fi _ λj _=>?_;rw[hd];grind
    have m:LL W (qk W k) (k+2) i=Lq W k i:=by
     have:=xz (W:=W) (p:=qk W k) (n:=k+1) (i:=i) (λj hj=>dE ()) 1;rw[qI] at this;exact this
    rw[f,FP,qI,m,Hl,qI];grind
   rw[e,fV (k:=k+1) ()];by_cases e1:i=k
   .subst e1;cases i with
    | zero =>
     show Dk W 0*Dk W 1*Lq W 0 1-Dk W 0*Lq W 0 1*Lq W 0 0-Dk W 1*Dk W 1*0-Dk W 0*Dk W 0*0=0;rw[dQ];grind
    | succ n =>
     show Dk W (n+1)*Dk W (n+2)*Lq W (n+1) (n+2)-(Dk W (n+1)*Lq W (n+1) (n+2)+Dk W (n+2)*qk W (n+1) n)*Lq W (n+1) (n+1)-Dk W (n+2)*Dk W (n+2)*Lq W n (n+1)-Dk W (n+1)*Dk W (n+1)*0=0;rw[dQ,Bx (hD _ ())];grind
   .cases k with
    | zero=>nofun
    | succ n =>
     rw[fV (k:=n+1) (i:=i) ()];show Dk W (n+1)*Dk W (n+2)*Lq W (n+1) (i+1)-nE W (n+1)*0-Dk W (n+2)*Dk W (n+2)*Lq W n i-Dk W (n+1)*Dk W (n+1)*0=0;by_cases e2:i=n
     .rw[e2,dQ,dQ];grind
     .rw[fV (k:=n+1) (),fV (k:=n) ()];grind
  .have b0:mz W k j=0:=by
    cases k with
    | zero=>rfl
    | succ n=>exact dE ()
   rw[hd];show Dk W k*Dk W (k+1)*zm (qk W k) j + -1*(nE W k*qk W k j+(Dk W (k+1)*Dk W (k+1)*mz W k j+Dk W k*Dk W k*qk W (k+1) j))=0;rw[b0,dE hj];obtain⟨j',rfl⟩ : ∃j',j=j'+1:=⟨j-1,()⟩;show Dk W k*Dk W (k+1)*qk W k j'+_=0;by_cases e:j'=k
   .rw[e,fh,fh];grind
   .rw[dE (k:=k) (j:=j') (),dE (k:=k+1) ()];grind
 have:=z j;rw[hd] at this;dsimp only at this;grind
theorem pM{v:Nat->Int}{B C:Nat}(hv:∀i,(v i).natAbs<=B):∀(m:Nat)(o:Om)(l:List Bool),(∀k,(o k).natAbs<=C)->(wg m v o l).natAbs<=m*(B*C)
 | 0,o,l,h=>by simp[wg]
 | m+1,o,[],h=>by simp[wg]
 | m+1,o,false::l,h=>by
  rw[kW];have:=pM hv m (λk=>o (false::k)) l λk=>h _;rw[Xn];nofun
 | m+1,o,true::l,h=>by
  rw[kq];have h1:=pM hv m (λk=>o (true::k)) l λk=>h _;have h2:(v m*o (false::l)).natAbs<=B*C:=by rw[YV];exact Xl (hv m) (h _)
  have h3:=Int.natAbs_sub_le (v m*o (false::l)) (wg m v (λk=>o (true::k)) l);rw[Xn];nofun
theorem C3{B m:Nat}(hW:∀i,(W i).natAbs<=B):∀k l,(om W m k l).natAbs<=(m*B)^k
 | 0,l=>by
  show (if _ then (1:Int) else 0).natAbs<=1
  split<;>decide
 | k+1,l=>by
  have:=pM (v:=lj W k) (B:=B) (C:=(m*B)^k) (λi=>hW _) m (om W m k) l (C3 hW k);rw[Nat.pow_succ,YK,Nat.mul_assoc];exact this
theorem sQ{B k:Nat}(hW:∀i,(W i).natAbs<=B)(j:Nat):(qk W k j).natAbs<=(k+1)*((k+1)*B)^k:=by
 have:=pM (v:=j8 j) (B:=1) (C:=((k+1)*B)^k) (λi=>by unfold j8;split<;>decide) (k+1) (om W (k+1) k) (vA (k+1)) (C3 hW k)
 rw[Nat.one_mul] at this;exact this
end L2
namespace L2
open PySem PySem.Spec PyProof.Rows
def IL(G:Hp)(a:Addr)(n:Nat)(p:Nat->Int):Prop:=G a=some (.lst (lz n λi=>V.int (p i)))
theorem IL.same{G G':Hp}{a:Addr}{n:Nat}{p:Nat->Int}(h:IL G a n p)(S:aB G G'):IL G' a n p:=S _ _ h
theorem IL.len{G:Hp}{a:Addr}{n:Nat}{p:Nat->Int}(h:IL G a n p):de G a=some n:=by
 unfold IL at h;simp only[de,h];rw[aZ]
theorem oX{α:Type}{n:Nat}{h:Nat->α}{xs:List α}(hl:xs.length=n)(he:∀i,i<n->xs[i]? = some (h i)):xs=lz n h:=by
 refine List.ext_getElem? λi=>?_;by_cases hi:i<n
 .rw[he i hi,dj hi]
 .rw[Xf (),Xf (by rw[aZ];nofun)]
theorem Eu{α:Type}{n k:Nat}{h:Nat->α}:(lz n h).drop k=lz (n-k) λi=>h (k+i) :=
 oX (by rw[YE,aZ]) λi hi=>by rw[Xh,dj ()]
theorem Gi{α β:Type}{m n:Nat}{f:Nat->α}{g:Nat->β}(h:m<=n):(lz m f).zip (lz n g)=lz m λi=>(f i,g i) :=
 oX (by rw[List.length_zip,aZ,aZ];nofun) λi hi=>by
  rw[List.getElem?_zip_eq_some];exact⟨dj hi,dj ()⟩
theorem lh{α:Type}{n:Nat}{h:Nat->α}:lz (n+1) h=lz n h++[h n]:=by simp[lz,List.range_succ]
theorem oq{α:Type}{n:Nat}{h:Nat->α}:lz (n+1) h=h 0::lz n λi=>h (i+1) :=
 (oX (by simp[aZ]) λi hi=>by
  cases i with
  | zero=>rfl
  | succ i =>
   rw[List.getElem?_cons_succ];exact dj ()).symm
theorem yy{f:Nat->Int}:∀n,lE (lz n f)=bV f n
 | 0=>rfl
 | n+1=>by
  rw[lh,oH,yy n];show _+(f n+0)=bV f n+f n;nofun
theorem HA{α:Type}{n k:Nat}{h:Nat->α}(hk:k<n):nN (lz n h) (k:Int)=some (h k):=ce (dj hk)
theorem nW{α:Type}{n:Nat}{h:Nat->α}:nN (lz (n+1) h) (-1)=some (h n):=gd (by rw[lh];simp)
theorem Bw{α:Type}{n:Nat}{h:Nat->α}:nN (lz (n+2) h) (-2)=some (h n):=by
 unfold nN wK;rw[aZ,Yc ∅,Yb ()];have e:((-2:Int)+((n+2:Nat):Int)).toNat=n:=();show (lz (n+2) h)[((-2:Int)+((n+2:Nat):Int)).toNat]? = some (h n);rw[e,dj ()]
theorem Bt.of_le{n m:Nat}{x:Int}(h:x.natAbs<=2^n)(hn:n<m):Bt m x:=by
 unfold Bt;exact Xr h (Nat.pow_lt_pow_right ∅ hn)
theorem lA{W:Nat->Int}{b k j:Nat}(hW:∀i,Bt b (W i))(hk:k<=5):Bt (5*b+19) (qk W k j):=by
 have h:=sQ (W:=W) (B:=2^b) (k:=k) (λi=>Yh (hW i)) j;refine Bt.of_le (n:=5*b+18) (Yg h ?_) ();have h1:(k+1)*2^b<=2^(b+3):=by
  rw[YW,YK];exact Xs _ ()
 have h2:((k+1)*2^b)^k<=2^(5*b+15):=by
  refine Yg (Nat.pow_le_pow_left h1 k) ?_;rw[<-Nat.pow_mul];refine YU ∅ ?_;have:(b+3)*k<=(b+3)*5:=Xs _ hk;nofun
 have h3:(2:Nat)^(5*b+18)=8*2^(5*b+15):=by
  rw[show 5*b+18=(5*b+15)+3 by nofun,YW]
  nofun
 rw[h3];exact Xl () h2
theorem yp{f:Nat->Int}{b:Nat}(h:∀i,Bt b (f i)):∀n,Bt (b+n) (bV f n)
 | 0=>by
  show Bt (b+0) 0;unfold Bt;exact Nat.pow_pos ∅
 | n+1=>by
  have h1:=yp h n;have h2:=h n;unfold Bt at h1 h2 ⊢;have e:(2:Nat)^(b+(n+1))=2^(b+n)+2^(b+n):=by rw[<-Xt,Nat.pow_succ];nofun
  have e2:(2:Nat)^b<=2^(b+n):=YU ∅ ();have h3:=Int.natAbs_add_le (bV f n) (f n);show (bV f n+f n).natAbs<_;nofun
theorem yt{W:Nat->Int}{b k i:Nat}(hW:∀i,Bt b (W i))(hk:k<=5):Bt (6*b+26) (Lq W k i):=by
 rw[ub];refine (yp (b:=b+(5*b+19)) (λj=>(hW _).mul (lA hW hk)) (k+1)).mono ()
theorem jE{W:Nat->Int}{b k:Nat}(hW:∀i,Bt b (W i))(hk:k<=6):Bt (6*b+26) (Dk W k):=by
 cases k with
 | zero =>
  rw[Ah];unfold Bt;exact Yd (by decide:(1:Int).natAbs<2^1) (YU ∅ ())
 | succ k=>rw[<-dQ];exact yt hW ()
theorem jx{D n:Int}{a:Nat}{q:Int×Int}(hq:Fq q)(e:wv q=(n:Rat)/(D:Rat))(hD:D≠0)(h1:Bt a n)(h2:Bt a D):Bq a q:=by
 rw[je hq (iH hD) (by rw[ix hD,e])]
 exact oB hD h1 h2
theorem IC{D E:Int}{a b:Nat}{f g:Nat->Rat}(hD:D≠0)(hE:E≠0)(h1:Ob D a f)(h2:Ob E b g)(j l:Nat):Ob (D*E) (a+b+j+1) (λk=>qr f g j l k):=by
 have hp:=Ob.pr hD hE h1 h2 j;have hx:Ob (D*E) (a+b) (λk=>if j<=k/\k-j<l then f j*g (k-j) else 0):=λk=>by
  by_cases hc:j<=k/\k-j<l
  .obtain⟨m,e1,b1⟩:=h1 j;obtain⟨n,e2,b2⟩:=h2 (k-j);refine⟨m*n,?_,b1.mul b2⟩;show (if _ then _ else _)=_
   rw[Yb hc,e1,e2,Xa,Xa];have n1:(D:Rat)≠0:=am hD;have n2:(E:Rat)≠0:=am hE;grind
  .refine⟨0,?_,by unfold Bt;exact Nat.pow_pos ∅⟩
   show (if _ then _ else _)=_
   rw[Yc hc];have:((0:Int):Rat)=0:=rfl;rw[this];grind
 exact (Ob.add hp hx).mono ()
theorem sf{D E:Int}{a b:Nat}{f g:Nat->Rat}(hD:D≠0)(hE:E≠0)(h1:Ob D a f)(h2:Ob E b g):∀j,∃n:Int,aj f g j=(n:Rat)/((D*E:Int):Rat)/\Bt (a+b+j) n
 | 0=>⟨0,by
   show (0:Rat)=_;have:((0:Int):Rat)=0:=rfl;rw[this];grind,by unfold Bt;exact Nat.pow_pos ∅⟩
 | j+1=>by
  obtain⟨n,e,bn⟩:=sf hD hE h1 h2 j;obtain⟨x,e1,b1⟩:=h1 j;obtain⟨y,e2,b2⟩:=h2 j;refine⟨n+x*y,?_,?_⟩
  .show aj f g j+f j*g j=_;rw[e,e1,e2,Y9,Xa,Xa];have n1:(D:Rat)≠0:=am hD;have n2:(E:Rat)≠0:=am hE;grind
  .have h3:=Bt.mul b1 b2;unfold Bt at bn h3 ⊢;have e3:(2:Nat)^(a+b+(j+1))=2^(a+b+j)+2^(a+b+j):=by rw[<-Xt,Nat.pow_succ];nofun
   have e4:(2:Nat)^(a+b)<=2^(a+b+j):=YU ∅ ();have h4:=Int.natAbs_add_le n (x*y);nofun
theorem jT{f g h:Nat->Rat}:∀n,aj (λi=>f i+g i) h n=aj f h n+aj g h n
 | 0=>by show (0:Rat)=0+0;grind
 | n+1=>by
  show aj (λi=>f i+g i) h n+(f n+g n)*h n=(aj f h n+f n*h n)+(aj g h n+g n*h n);rw[jT n];grind
theorem aY{f h:Nat->Rat}:∀n,(∀i,i<n->f i*h i=0)->aj f h n=0
 | 0,_=>rfl
 | n+1,hz=>by
  show aj f h n+f n*h n=0;rw[aY n λi hi=>hz i (),hz n ()];grind
theorem cX{f h:Nat->Rat}{n:Nat}(hz:∀i,n<=i->f i*h i=0):∀m,aj f h (n+m)=aj f h n
 | 0=>rfl
 | m+1=>by
  show aj f h (n+m)+f (n+m)*h (n+m)=aj f h n;rw[cX hz m,hz (n+m) ()];grind
theorem qZ{g h:Nat->Rat}{c:Rat}{n:Nat}:∀N,aj (λm=>if n<=m then c*g (m-n) else 0) h N=c*aj g (λj=>h (n+j)) (N-n)
 | 0=>by
  rw[Nat.zero_sub];show (0:Rat)=c*0;grind
 | N+1=>by
  show aj (λm=>if n<=m then c*g (m-n) else 0) h N+(if n<=N then c*g (N-n) else 0)*h N=_
  rw[qZ N];by_cases e:n<=N
  .rw[Yb e,show N+1-n=(N-n)+1 by nofun]
   show _=c*(aj g (λj=>h (n+j)) (N-n)+g (N-n)*h (n+(N-n)));rw[show n+(N-n)=N by nofun]
   grind
  .rw[Yc e,show N+1-n=0 by nofun,show N-n=0 by nofun]
   show c*0+0*h N=c*0;grind
theorem qm{f g h:Nat->Rat}{N:Nat}:∀n,aj (λm=>pr f g n m) h N=aj f (λi=>aj g (λj=>h (i+j)) (N-i)) n
 | 0=>aY N λi _=>by
  show (0:Rat)*h i=0;grind
 | n+1=>by
  have e:(λm=>pr f g (n+1) m)=λm=>pr f g n m+if n<=m then f n*g (m-n) else 0:=rfl
  rw[e,jT,qm n,qZ];rfl
theorem rZ{F G:Nat->Rat}{f g:Nat->Int}{c d:Rat}(hc:c≠0)(hd:d≠0)(hF:∀i,F i=((f i:Int):Rat)/c)(hG:∀i,G i=((g i:Int):Rat)/d):∀n,aj F G n=((bV (λi=>g i*f i) n:Int):Rat)/(c*d)
 | 0=>by
  show (0:Rat)=((0:Int):Rat)/(c*d);have:((0:Int):Rat)=0:=rfl;rw[this];grind
 | n+1=>by
  show aj F G n+F n*G n=((bV (λi=>g i*f i) n+g n*f n:Int):Rat)/(c*d);rw[rZ hc hd hF hG n,hF n,hG n,Y9,Xa];grind
section
variable {W:Nat->Int}{B:Int}{k:Nat}{P S:Nat->Rat}
theorem dX(hD:Dk W k≠0)(hB:B≠0)(hP:∀j,P j=((qk W k j:Int):Rat)/((Dk W k:Int):Rat))(hS:∀i,((W i:Int):Rat)=S i*(B:Rat))(i:Nat):aj P (λj=>S (i+j)) (k+1)=((Lq W k i:Int):Rat)/(((Dk W k:Int):Rat)*(B:Rat)):=by
 have cB:(B:Rat)≠0:=am hB;rw[rZ (f:=qk W k) (g:=λj=>W (i+j)) (c:=((Dk W k:Int):Rat)) (d:=(B:Rat)) (am hD) cB hP (λj=>by have:=hS (i+j);grind),<-ub]
theorem xJ(hD:Dk W k≠0)(hB:B≠0)(hP:∀j,P j=((qk W k j:Int):Rat)/((Dk W k:Int):Rat))(hS:∀i,((W i:Int):Rat)=S i*(B:Rat)) {N:Nat}(hN:2*k+1<=N):aj (λm=>pr P P (k+1) m) S N=((Dk W (k+1):Int):Rat)/((Dk W k*B:Int):Rat):=by
 have cB:(B:Rat)≠0:=am hB;have cD:((Dk W k:Int):Rat)≠0:=am hD;rw[qm];have e1:aj P (λi=>aj P (λj=>S (i+j)) (N-i)) (k+1)=aj P (λi=>((Lq W k i:Int):Rat)/(((Dk W k:Int):Rat)*(B:Rat))) (k+1):=aA (k+1) (λi _=>rfl) λi hi=>by
  rw[<-dX hD hB hP hS i];have:=cX (f:=P) (h:=λj=>S (i+j)) (n:=k+1) (λj hj=>by
   have z:((0:Int):Rat)=0:=rfl;rw[hP j,dE (),z];grind) (N-i-(k+1))
  rw[show k+1+(N-i-(k+1))=N-i by nofun] at this
  exact this
 rw[e1,rZ (f:=qk W k) (g:=Lq W k) (c:=((Dk W k:Int):Rat)) (d:=((Dk W k:Int):Rat)*(B:Rat)) cD ⋯ hP λi=>rfl];rw[gM (j:=k) (k+1) (λi hi hne=>by rw[fV (),Int.zero_mul]) (),dQ,fh,Xa,Xa]
 grind
end
theorem iI{f g h:Nat->Rat}:∀n,aj f (λi=>g i+h i) n=aj f g n+aj f h n
 | 0=>by show (0:Rat)=0+0;grind
 | n+1=>by
  show aj f (λi=>g i+h i) n+f n*(g n+h n)=(aj f g n+f n*g n)+(aj f h n+f n*h n);rw[iI n];grind
theorem iB{f h:Nat->Rat}{c:Rat}:∀n,aj (λi=>c*f i) h n=c*aj f h n
 | 0=>by show (0:Rat)=c*0;grind
 | n+1=>by
  show aj (λi=>c*f i) h n+(c*f n)*h n=c*(aj f h n+f n*h n);rw[iB n];grind
theorem uB{f h:Nat->Rat}{c:Rat}:∀n,aj f (λi=>c*h i) n=c*aj f h n
 | 0=>by show (0:Rat)=c*0;grind
 | n+1=>by
  show aj f (λi=>c*h i) n+f n*(c*h n)=c*(aj f h n+f n*h n);rw[uB n];grind
def ip(S u v:Nat->Rat)(m n:Nat):Rat:=aj u (λi=>aj v (λj=>S (i+j)) n) m
theorem eU{S u v:Nat->Rat}{n:Nat}:∀m,ip S u v m n=ip S v u n m
 | 0=>by
  unfold ip;show (0:Rat)=aj v (λj=>0) n;rw[aY n λi _=>by grind]
 | m+1=>by
  have h:=eU (S:=S) (u:=u) (v:=v) (n:=n) m;unfold ip at h ⊢;show aj u (λi=>aj v (λj=>S (i+j)) n) m+u m*aj v (λj=>S (m+j)) n=aj v (λi=>aj u (λj=>S (i+j)) m+u m*S (i+m)) n;rw[iI,uB,h];congr 2
  exact aA n (λ_ _=>rfl) λi _=>by rw[Nat.add_comm]
def ku(a:Nat->Rat)(P:Nat->Nat->Rat):Nat->Nat->Rat
 | 0,_=>0
 | n+1,j=>ku a P n j+a n*P n j
theorem qL{a b:Nat->Rat}{P Q:Nat->Nat->Rat}{j:Nat}:∀n,(∀k,k<n->a k=b k/\P k j=Q k j)->ku a P n j=ku b Q n j
 | 0,_=>rfl
 | n+1,h=>by
  show ku a P n j+a n*P n j=ku b Q n j+b n*Q n j;rw[qL n λk hk=>h k (),(h n ()).1,(h n ()).2]
theorem yO{a:Nat->Rat}{P:Nat->Nat->Rat}{h:Nat->Rat}{m:Nat}:∀K,aj (ku a P K) h m=aj a (λk=>aj (P k) h m) K
 | 0=>aY m λi _=>by show (0:Rat)*h i=0;grind
 | K+1=>by
  have e:ku a P (K+1)=λj=>ku a P K j+(λj=>a K*P K j) j:=rfl;rw[e,jT,yO K,iB];rfl
theorem u4{a h:Nat->Rat}{k:Nat}{c:Rat}(hh:∀l,h l=if l=k then c else 0):∀L,aj a h L=if k<L then a k*c else 0
 | 0=>by rw[Yc ()];rfl
 | L+1=>by
  show aj a h L+a L*h L=_;rw[u4 hh L,hh L];by_cases e:L=k
  .rw[Yc (),Yb e,Yb (),e];grind
  .rw[Yc e];by_cases z:k<L
   .rw[Yb z,Yb ()];grind
   .rw[Yc z,Yc ()];grind
section
variable {S:Nat->Rat}{P:Nat->Nat->Rat}{h:Nat->Rat}{M n:Nat}
def Jv(S:Nat->Rat)(P:Nat->Nat->Rat)(h:Nat->Rat)(M n:Nat):Prop:=∀k l,k<M->l<M->ip S (P k) (P l) n n=if l=k then h k else 0
theorem Dq(o:Jv S P h M n) {b:Nat->Rat}{L k:Nat}(hL:L<=M)(hk:k<M):ip S (ku b P L) (P k) n n=if k<L then b k*h k else 0:=by
 show aj (ku b P L) _ n=_;rw[yO];have e:aj b (λl=>aj (P l) (λi=>aj (P k) (λj=>S (i+j)) n) n) L=aj b (λl=>if l=k then h k else 0) L:=aA L (λ_ _=>rfl) λl hl=>by
  have:=o l k () hk;show ip S (P l) (P k) n n=_;rw[this];by_cases e:l=k
  .rw[Yb e,Yb e.symm,e]
  .rw[Yc e,Yc λz=>e z.symm]
 rw[e,u4 λ_=>rfl]
end
section
variable {W:Nat->Int}{B:Int}{S:Nat->Rat}
theorem tR{k m:Nat}{p v:Nat->Rat}(hD:Dk W k≠0)(hB:B≠0)(hP:∀j,p j=((qk W k j:Int):Rat)/((Dk W k:Int):Rat))(hS:∀i,((W i:Int):Rat)=S i*(B:Rat))(hm:k+1<=m)(n:Nat):ip S v p n m=aj v (λi=>((Lq W k i:Int):Rat)/(((Dk W k:Int):Rat)*(B:Rat))) n:=by
 refine aA n (λ_ _=>rfl) λi _=>?_;rw[<-dX hD hB hP hS i];have:=cX (f:=p) (h:=λj=>S (i+j)) (n:=k+1) (λj hj=>by
  have z:((0:Int):Rat)=0:=rfl;rw[hP j,dE (),z];grind) (m-(k+1))
 rw[show k+1+(m-(k+1))=m by nofun] at this
 exact this
theorem vR{P:Nat->Nat->Rat}{M n:Nat}(hD:∀k,k<M->Dk W k≠0)(hB:B≠0)(hP:∀k,k<M -> ∀j,P k j=((qk W k j:Int):Rat)/((Dk W k:Int):Rat))(hS:∀i,((W i:Int):Rat)=S i*(B:Rat))(hM:M<=n):Jv S P (λk=>((Dk W (k+1):Int):Rat)/((Dk W k*B:Int):Rat)) M n:=by
 have z:((0:Int):Rat)=0:=rfl;have low:∀k l,k<M->l<k->ip S (P l) (P k) n n=0:=λk l hk hl=>by
  rw[tR (hD k hk) hB (hP k hk) hS ()];refine aY n λi _=>?_;by_cases e:i<k
  .rw[fV e,z];grind
  .rw[hP l (),dE (),z];grind
 intro k l hk hl;by_cases e:l=k
 .subst e;rw[Yb rfl,tR (hD l hk) hB (hP l hk) hS ()];have e1:=cX (f:=P l) (h:=λi=>((Lq W l i:Int):Rat)/(((Dk W l:Int):Rat)*(B:Rat))) (n:=l+1) (λj hj=>by
   rw[hP l hk,dE (),z];grind) (n-(l+1))
  rw[show l+1+(n-(l+1))=n by nofun] at e1
  rw[e1];show aj (P l) _ l+P l l*(((Lq W l l:Int):Rat)/(((Dk W l:Int):Rat)*(B:Rat)))=((Dk W (l+1):Int):Rat)/((Dk W l*B:Int):Rat);rw[aY l λi hi=>by rw[fV hi,z];grind,hP l hk,fh,dQ,Xa]
  have c1:=am (hD l hk);have c2:=am hB;grind
 .rw[Yc e];rcases Nat.lt_or_gt_of_ne e with y|y
  .rw[eU,low k l hk y]
  .rw[low l k hl y]
end
theorem nX{v:Nat->Rat}{x c:Rat}:∀n,aj v (λj=>c*aJ x j) n=c*dY v n x
 | 0=>by show (0:Rat)=c*0;grind
 | n+1=>by
  show aj v (λj=>c*aJ x j) n+v n*(c*aJ x n)=c*(dY v n x+v n*aJ x n);rw[nX n];grind
theorem GW{u v:Nat->Rat}{w x:Rat}{m n:Nat}:ip (λk=>w*aJ x k) u v m n=w*(dY u m x*dY v n x):=by
 unfold ip;have e:aj u (λi=>aj v (λj=>w*aJ x (i+j)) n) m=aj u (λi=>(w*dY v n x)*aJ x i) m:=aA m (λ_ _=>rfl) λi _=>by
  have:aj v (λj=>w*aJ x (i+j)) n=aj v (λj=>(w*aJ x i)*aJ x j) n:=aA n (λ_ _=>rfl) λj _=>by rw[qf];grind
  rw[this,nX];grind
 rw[e,nX];grind
theorem E2{S T u v:Nat->Rat}{m n:Nat}:ip (λk=>S k+T k) u v m n=ip S u v m n+ip T u v m n:=by
 unfold ip;rw[<-iI];exact aA m (λ_ _=>rfl) λi _=>iI n
def lK(F:Rat->Rat):List nJ->Rat
 | []=>0
 | c::cs=>wv c.2*F (wv c.1)+lK F cs
theorem wt{u v:Nat->Rat}{m n:Nat}:∀cs:List nJ,ip (jN cs) u v m n=lK (λx=>dY u m x*dY v n x) cs
 | []=>by
  show aj u (λi=>aj v (λj=>0) n) m=0;exact aY m λi _=>by rw[aY n λj _=>by grind];grind
 | c::cs=>by
  have e:jN (c::cs)=λk=>(λk=>wv c.2*aJ (wv c.1) k) k+jN cs k:=rfl;rw[e,E2,GW,wt cs];rfl
theorem pF{F G:Rat->Rat}:∀{cs:List nJ},(∀c∈cs,F (wv c.1)=G (wv c.1))->lK F cs=lK G cs
 | [],_=>rfl
 | c::cs,h=>by
  show wv c.2*F (wv c.1)+lK F cs=wv c.2*G (wv c.1)+lK G cs;rw[h c (by simp),pF λd hd=>h d (by simp[hd])]
theorem ua(y:Rat):0<=y*y:=by
 rcases Rat.le_total (a:=0) (b:=y) with h|h
 .exact Xu h h
 .have:=Xu (Rat.neg_le_neg h) (Rat.neg_le_neg h);grind
theorem jU{G:Rat->Rat}:∀{cs:List nJ},(∀c∈cs,0<wv c.2)->0<=lK (λx=>G x*G x) cs
 | [],_=>by show (0:Rat)<=0;grind
 | c::cs,h=>by
  show 0<=wv c.2*(G (wv c.1)*G (wv c.1))+lK (λx=>G x*G x) cs;have h1:=jU (G:=G) (cs:=cs) λd hd=>h d (by simp[hd])
  have h2:=Xu (Rat.le_of_lt (h c (by simp))) (ua (G (wv c.1)))
  grind
theorem rA{G:Rat->Rat}:∀{cs:List nJ},(∀c∈cs,0<wv c.2)->lK (λx=>G x*G x) cs=0 -> ∀c∈cs,G (wv c.1)=0
 | [],_,_,c,hc=>by cases hc
 | d::cs,h,e,c,hc=>by
  have e':wv d.2*(G (wv d.1)*G (wv d.1))+lK (λx=>G x*G x) cs=0:=e;have h0:=h d (by simp)
  have h1:=jU (G:=G) (cs:=cs) λd hd=>h d (by simp[hd])
  have h2:=Xu (Rat.le_of_lt h0) (ua (G (wv d.1)));have z1:wv d.2*(G (wv d.1)*G (wv d.1))=0:=⋯;have z2:lK (λx=>G x*G x) cs=0:=⋯;rcases YY.mp hc with rfl|hm
  .have:wv c.2≠0:=⋯;grind
  .exact rA (λd hd=>h d (by simp[hd])) z2 c hm
section
variable {W:Nat->Int}{B:Int}{cs:List nJ}
def Pk(W:Nat->Int)(k:Nat):Nat->Rat:=λj=>((qk W k j:Int):Rat)/((Dk W k:Int):Rat)
theorem jX{k j:Nat}(h:k<j):Pk W k j=0:=by
 have z:((0:Int):Rat)=0:=rfl;unfold Pk;rw[dE h,z];grind
theorem gp{k:Nat}(h:Dk W k≠0):Pk W k k=1:=by
 have:=am h;unfold Pk;rw[fh];grind
end
theorem AE{W:Nat->Int}{b k j:Nat}(hW:∀i,Bt b (W i))(hk:k<=5):Bt ((b+3)*k+4) (qk W k j):=by
 have h:=sQ (W:=W) (B:=2^b) (k:=k) (λi=>Yh (hW i)) j;refine Bt.of_le (n:=(b+3)*k+3) (Yg h ?_) ();have h1:(k+1)*2^b<=2^(b+3):=by
  rw[YW,YK];exact Xs _ ()
 have h2:((k+1)*2^b)^k<=2^((b+3)*k):=by
  refine Yg (Nat.pow_le_pow_left h1 k) ?_;rw[<-Nat.pow_mul];exact Yp _
 have h3:(2:Nat)^((b+3)*k+3)=8*2^((b+3)*k):=by
  rw[YW];nofun
 rw[h3];exact Xl () h2
theorem BK{W:Nat->Int}{b k:Nat}(hW:∀i,Bt b (W i))(hk:k<=5):Bt ((b+3)*k+4) (Dk W k):=by
 rw[<-fh];exact AE hW hk
theorem IP{W:Nat->Int}{b k:Nat}(hW:∀i,Bt b (W i))(hk:k<=5):Ob (Dk W k) ((b+3)*k+4) (Pk W k):=λj=>⟨qk W k j,rfl,AE hW hk⟩
def Tb:Nat->Nat
 | 0=>0
 | k+1=>Tb k+(173*k+5)
theorem sW:∀{k n:Nat},k<=n->Tb k<=Tb n
 | k,0,h=>by rw[show k=0 by nofun];exact Yp _
 | k,n+1,h=>by
  by_cases e:k=n+1
  .rw[e];exact Yp _
  .have:=sW (k:=k) (n:=n) ();show Tb k<=Tb n+_;nofun
theorem Ob.sub{D:Int}{a b:Nat}{f g:Nat->Rat}(h1:Ob D a f)(h2:Ob D b g):Ob D (max a b+1) (λk=>f k-g k):=by
 have h:Ob D b (λk=>- g k):=λk=>by
  obtain⟨n,e,hn⟩:=h2 k;refine⟨-n,by show-g k=_;rw[e,Rat.intCast_neg];grind,?_⟩
  unfold Bt at hn ⊢;rw[Int.natAbs_neg];exact hn
 exact (h1.add h).congr λk=>by grind
theorem DE{W:Nat->Int}{k a:Nat}{f:Nat->Rat}(hW:∀i,Bt 170 (W i))(hk:k<=5)(hD:Dk W k≠0)(h:Pb a f):Pb (a+(173*k+5)) (λj=>f j-Pk W k j*f k)/\Pb (a+(173*k+4)) (λj=>Pk W k j*f k):=by
 obtain⟨D,d0,bD,o⟩:=h;obtain⟨m,em,bm⟩:=o k;have bd:=BK hW hk;have h1:=o.up d0 hD bd;have h2:=(IP hW hk).one (c:=f k) hD d0 em bm;rw[Y6] at h2;have ne:D*Dk W k≠0:=Y8 d0 hD;have bb:=bD.mul bd;exact⟨⟨D*Dk W k,ne,bb.mono (),(h1.sub h2).mono ()⟩,⟨D*Dk W k,ne,bb.mono (),h2.mono ()⟩⟩
theorem ot{b:Nat}:∀{fs:List (Int×Int)},(∀q∈fs,Fq q/\Bq b q)->Pb (b*fs.length+1) (cf fs)
 | [],_=>(C8 (a:=1) ∅).mono (by simp)
 | q::qs,h=>by
  obtain⟨D,d0,bD,o⟩:=ot (b:=b) (fs:=qs) λq hq=>h q (by simp[hq])
  obtain⟨f,bt,bb⟩:=h q (by simp)
  have c1:=am f.ne;have c2:=am d0;have e:b*(q::qs).length+1=b+(b*qs.length+1):=by rw[Xm,Nat.mul_add];nofun
  rw[e];refine⟨q.2*D,Y8 f.ne d0,bb.mul bD,λk=>?_⟩;cases k with
  | zero =>
   refine⟨q.1*D,?_,bt.mul bD⟩;rw[aG (q:=q) rfl,Xa,Xa];unfold wv;grind
  | succ k =>
   obtain⟨n,en,bn⟩:=o k;refine⟨q.2*n,?_,bb.mul bn⟩;have:cf (q::qs) (k+1)=cf qs k:=rfl;rw[this,en,Xa,Xa];grind
theorem gX{ts:List (Int×Int)}{c:Int×Int}{k:Nat}:cf (ts++[c]) k=if k=ts.length then wv c else cf ts k:=by
 by_cases e:k=ts.length
 .rw[Yb e];exact aG (by rw[e];simp)
 .rw[Yc e];by_cases z:k<ts.length
  .rw[aG (YO z)];exact aG (by rw[Yy z,YO z])
  .rw[aK (by simp;nofun),aK ()]
theorem ox{W:Nat->Int}{a:Nat->Rat}{j:Nat}:∀n,n<=j->ku a (Pk W) n j=0
 | 0,_=>rfl
 | n+1,h=>by
  show ku a (Pk W) n j+a n*Pk W n j=0;rw[ox n (),jX ()];grind
theorem CV{W:Nat->Int}{a:Nat->Rat}{n A:Nat}(hW:∀i,Bt 170 (W i))(hn:n<=6)(hD:∀k,k<n->Dk W k≠0)(h:Pb A (ku a (Pk W) n)):∀i,i<=n->Pb (A+(Tb n-Tb (n-i))) (ku a (Pk W) (n-i))
 | 0,_=>h.mono ()
 | i+1,hi=>by
  have h1:=CV hW hn hD h i ();obtain⟨k,hk⟩ : ∃k,n-i=k+1:=⟨n-i-1,()⟩;rw[hk] at h1;rw[show n-(i+1)=k by nofun]
  have tm:=sW (k:=k+1) (n:=n) ();have tk:Tb (k+1)=Tb k+(173*k+5):=rfl;have hd:=hD k ();refine ((DE hW () hd h1).1.congr λj=>?_).mono ();have e:ku a (Pk W) (k+1) k=a k:=by
   show ku a (Pk W) k k+a k*Pk W k k=a k;rw[ox k (Yp _),gp hd];grind
  rw[e];show ku a (Pk W) k j=ku a (Pk W) k j+a k*Pk W k j-Pk W k j*a k;grind
end L2
namespace L2
open PySem PyProof.Rows
theorem Kg{i:Int}(h:0<=i):Builtin.bitAnd i 1=i%2:=by
 rw[PyProof.Rows.bitAnd_pp h ∅];show ((i.toNat &&& 1:Nat):Int)=_;rw[Nat.and_one_is_mod];nofun
theorem sL{W:Nat->Int}{b k j:Nat}(hW:∀i,Bt b (W i))(hk:k<=6):Bt (6*b+22) (qk W k j):=by
 have h:=sQ (W:=W) (B:=2^b) (k:=k) (λi=>Yh (hW i)) j;refine Bt.of_le (n:=6*b+21) (Yg h ?_) ();have h1:(k+1)*2^b<=2^(b+3):=by
  rw[YW,YK];exact Xs _ ()
 have h2:((k+1)*2^b)^k<=2^(6*b+18):=by
  refine Yg (Nat.pow_le_pow_left h1 k) ?_;rw[<-Nat.pow_mul];refine YU ∅ ?_;have:(b+3)*k<=(b+3)*6:=Xs _ hk;nofun
 have h3:(2:Nat)^(6*b+21)=8*2^(6*b+18):=by
  rw[show 6*b+21=(6*b+18)+3 by nofun,YW]
  nofun
 rw[h3];exact Xl () h2
section
variable {X:Cx}
theorem xm:eO X (binaryOp .BitAnd) (rI (λi j=>0<=i/\j=1) λi j=>.int (i%2)):=Ji λi j _ _ _ _ _ hc q=>by
 obtain⟨h0,rfl⟩:=hc;refine and_int ?_;rw[Kg h0];exact q
def Jm(K:W.Frag)(ta tb:TE):TE:=λσ H Q=>ta σ H λx H1=>∃k,vk K x H1 k/\if k=true then Q x H1 else tb σ H1 Q
theorem G6{a b:Expr}{pos:Pos}{ta tb:TE}(ha:QE X a ta)(hb:QE X b tb):QE X (.BoolOp .Or [a,b] pos) (Jm X.K ta tb):=⟨by
 intro pins s σ H Q I h;refine BoolOp_or (da (ha.h pins s σ H _ I h) λv s1 ⟨x,H1,I1,r1,k,e,q1⟩=>?_);refine da (wZ pins s1 σ H1 x v (λc H'=>H'=H1/\c=k) I1 r1 ⟨k,e,rfl,rfl⟩) λc s2 ⟨H',I2,e1,e2⟩=>?_;subst e1 e2;cases c with
 | true=>rw[Yb rfl] at q1 ⊢;exact⟨x,_,I2,r1,q1⟩
 | false=>rw[Yc Yo] at q1 ⊢;exact BoolOp_one (hb.h pins s2 σ _ Q I2 q1)⟩
end
end L2
namespace L2
open PySem PySem.Spec PyProof.Rows
def Xk(k j:Nat):Rat:=if j=k then 1 else 0
theorem CU{P:Nat->Nat->Rat}:∀(n:Nat)(f:Nat->Rat),(∀k,k<n->P k k=1)->(∀k j,k<j->P k j=0)->(∀j,n<=j->f j=0) -> ∃b:Nat->Rat,∀j,f j=ku b P n j
 | 0,f,_,_,h=>⟨λ_=>0,λj=>h j ()⟩
 | n+1,f,h1,h0,h=>by
  obtain⟨b,hb⟩:=CU n (λj=>f j-f n*P n j) (λk hk=>h1 k ()) h0 (λj hj=>by
   by_cases e:j=n
   .rw[e,h1 n ()];grind
   .rw[h j (),h0 n j ()];grind)
  refine⟨λk=>if k=n then f n else b k,λj=>?_⟩
  show f j=ku _ P n j+(if n=n then f n else b n)*P n j
  rw[Yb rfl,qL (b:=b) (Q:=P) n λk hk=>⟨Yc (),rfl⟩,<-hb j];grind
section
variable {W:Nat->Int}{k:Nat}
theorem CQ(hD:∀i,i<=k->Dk W i≠0):∃b:Nat->Rat,(∀j,Xk k j=ku b (Pk W) (k+1) j)/\b k=1/\(∀j,j<k->b j=((Lq W j k:Int):Rat)/((Dk W (j+1):Int):Rat)) /\ ∀j,Xk k j-ku b (Pk W) k j=Pk W k j:=by
 obtain⟨b,hb⟩:=CU (P:=Pk W) (k+1) (Xk k) (λi hi=>gp (hD i ())) (λi j h=>jX h) (λj hj=>Yc ());have b1:b k=1:=by
  have e:=hb k;have e1:Xk k k=1:=Yb rfl;rw[e1] at e;have:ku b (Pk W) (k+1) k=ku b (Pk W) k k+b k*Pk W k k:=rfl;rw[this,ox k (Yp _),gp (hD k (Yp _))] at e;grind
 refine⟨b,hb,b1,λj hj=>?_,λj=>?_⟩
 .have hS:∀i,((W i:Int):Rat)=(λi=>((W i:Int):Rat)) i*((1:Int):Rat):=λi=>by
   have c1:((1:Int):Rat)=1:=rfl;rw[c1];show _=((W i:Int):Rat)*1;grind
  have o:=vR (W:=W) (B:=1) (S:=λi=>((W i:Int):Rat)) (P:=Pk W) (M:=k+1) (n:=k+1) (λi hi=>hD i ()) ∅ (λi _ j=>rfl) hS (Yp _);have s:=Dq o (b:=b) (L:=k+1) (k:=j) (Yp _) ();have e:ku b (Pk W) (k+1)=Xk k:=funext λi=>(hb i).symm;rw[e,Yb (),tR (k:=j) (m:=k+1) (p:=Pk W j) (hD j ()) (B:=1) ∅ (λ_=>rfl) hS ()] at s;have p:aj (Xk k) (λi=>((Lq W j i:Int):Rat)/(((Dk W j:Int):Rat)*((1:Int):Rat))) (k+1)=((Lq W j k:Int):Rat)/(((Dk W j:Int):Rat)*((1:Int):Rat)):=by
   show aj (Xk k) _ k+Xk k k*_=_;rw[aY k λi hi=>by rw[show Xk k i=0 from Yc ()];grind,show Xk k k=1 from Yb rfl]
   grind
  rw[p,Xa] at s;have n1:=am (hD j ());have n2:=am (hD (j+1) ());have c1:((1:Int):Rat)=1:=rfl;rw[c1] at s;grind
 .rw[hb j];show ku b (Pk W) k j+b k*Pk W k j-ku b (Pk W) k j=_;rw[b1];grind
theorem FF{A:Nat}(h:1<=A):Pb A (Xk k):=⟨1,∅,Bt.mono (m:=1) ∅ h,λj=>by
 unfold Xk;split
 .refine⟨1,?_,Bt.mono (m:=1) ∅ h⟩;have c1:((1:Int):Rat)=1:=rfl;rw[c1];grind
 .refine⟨0,?_,hU⟩;have c0:((0:Int):Rat)=0:=rfl;rw[c0];grind⟩
theorem BN{b:Nat->Rat}(hk:k<=5)(hW:∀i,Bt 170 (W i))(hD:∀i,i<=k->Dk W i≠0)(hb:∀j,Xk k j=ku b (Pk W) (k+1) j)(i:Nat)(hi:i<=k+1):Pb 2630 (λj=>Xk k j-ku b (Pk W) i j):=by
 have h1:Pb 1 (ku b (Pk W) (k+1)):=(FF (A:=1) ∅).congr λj=>(hb j).symm;have h2:=CV hW () (λj hj=>hD j ()) h1 (k+1-i) ();rw[show k+1-(k+1-i)=i by nofun] at h2
 have t:Tb (k+1)<=Tb 6:=sW ();have t6:Tb 6=2625:=rfl;have h3:=(FF (k:=k) (A:=1) ∅).add (h2.one (E:=1) (m:=-1) (c:=-1) (b:=1) ∅ (by have c1:((1:Int):Rat)=1:=rfl;have cm:((-1:Int):Rat) = -1:=rfl;rw[c1,cm];grind) ∅ ∅)
 refine (h3.congr λj=>?_).mono ();grind
end
structure Lm where
 p:Addr
 c:Addr
 ps:Arguments
 b:Expr
 sc:Scope
structure nO (P:Program)(base:Heap):Prop where
 seer:base.NoSeer
 tree:P.given.tree=none
def zJ(_ j:Int):Prop:=j≠0
theorem gO{X:Cx}{k:Nat}(N:nO X.prog X.base)(hr:gi k X.A)(hst:X.stack=X.env::X.outer)(hgen:X.env.scope.isGenerator=false)(hco:X.env.scope.isCoroutine=false) :
  eO X (binaryOp .FloorDiv) (rI zJ λi j=>.int (i.fdiv j)):=by
 intro pins s σ H x y v u Q I rx ry h;obtain⟨i,j,rfl,rfl,hc,q⟩:=h;obtain⟨t,rfl⟩:=rx;obtain⟨t',rfl⟩:=ry;refine floordiv_int hc ⟨.int (i.fdiv j),H,I.tok _,⟨_,rfl⟩,q⟩ (.inr ?_);refine PySem.PylongRoom.of I.nolimit ?_ (PySem.SeerAt.of (N.seer.keeps I.bk) N.tree (I.ok.frames.trans (Yn some hst)) hgen hco I.ok.blt I.ok.glob);have:=hr.dp;show X.A.depth+100<recursionLimit;nofun
end L2
namespace L2
open PySem
def hR(W:Nat->Int)(B:Int)(k:Nat):Rat:=((Dk W (k+1):Int):Rat)/((Dk W k*B:Int):Rat)
theorem Bv{v:Nat->Rat}{x:Rat}:EV v x=aj v (λj=>1*aJ x j) 20:=by
 rw[nX];unfold EV;grind
def tb:Nat->Nat
 | 0=>1
 | k+1=>tb k+(360*k+280)
def dw(M:Nat):List (Nat->Int)->Om
 | []=>vV
 | r::rs=>wg M r (dw M rs)
def dt(M:Nat)(rows:List (Nat->Int)):Int:=dw M rows (vA M)
theorem HN{v:Nat->Int}{m:Nat}{o p:Om}(h:∀k,o k = - p k)(l:List Bool):wg m v o l = - wg m v p l:=by
 have e:=mG (v:=v) (a:=-1) (b:=0) m p p l;rw[<-gn (o:=o) (p:=λk=>-1*p k+0*p k) (λk=>by rw[h];nofun) l] at e
 nofun
theorem y0{v:Nat->Int}{a:Int}{m:Nat}{o p:Om}(h:∀k,o k=a*p k)(l:List Bool):wg m v o l=a*wg m v p l:=by
 have e:=mG (v:=v) (a:=a) (b:=0) m p p l;rw[<-gn (o:=o) (p:=λk=>a*p k+0*p k) (λk=>by rw[h];nofun) l] at e
 nofun
theorem HC{u v:Nat->Int}{m:Nat}{o:Om}{l:List Bool}(h:∀i,i<m->u i=v i):wg m u o l=wg m v o l:=by
 have e:=jZ (u:=u) (v:=v) (a:=1) (b:=-1) m o l;rw[hZ m o l λi hi=>by rw[h i hi];nofun] at e
 nofun
def Pm(x y:Int):Prop:=x=y\/x = -y
theorem Pm.rfl'{x:Int}:Pm x x:=.inl rfl
theorem Pm.symm{x y:Int}(h:Pm x y):Pm y x:=by rcases h with e|e<;>unfold Pm<;>nofun
theorem Pm.trans{x y z:Int}(h:Pm x y)(g:Pm y z):Pm x z:=by rcases h with e|e<;>rcases g with f|f<;>unfold Pm<;>nofun
theorem Pm.mul{x y:Int}(h:Pm x y)(a:Int):Pm (a*x) (a*y):=by
 rcases h with e|e
 .exact .inl (by rw[e])
 .exact .inr (by rw[e,Int.mul_neg])
theorem Pm.of_mul{a x y:Int}(h:Pm (a*x) (a*y))(ha:a≠0):Pm x y:=by
 rcases h with e|e
 .exact .inl (Int.eq_of_mul_eq_mul_left ha e)
 .exact .inr (Int.eq_of_mul_eq_mul_left ha (by rw[e,Int.mul_neg]))
theorem xg{M:Nat}{x:Nat->Int}:∀{rows:List (Nat->Int)},x∈rows -> ∀l,wg M x (dw M rows) l=0
 | [],h,_=>by cases h
 | y::rs,h,l=>by
  show wg M x (wg M y (dw M rs)) l=0;rcases YY.mp h with rfl|z
  .exact xF M _ l
  .rw[ko,j9 M _ l λk=>xg z k];rfl
theorem D9{M:Nat}{a b:List (Nat->Int)}(h:a.Perm b):(∀l,dw M a l=dw M b l) \/ ∀l,dw M a l = - dw M b l:=by
 induction h with
 | nil=>exact .inl λ_=>rfl
 | cons x _ ih =>
  rcases ih with e|e
  .exact .inl λl=>gn e l
  .exact .inr λl=>HN e l
 | swap x y l=>exact .inr λk=>ko M _ k
 | trans _ _ ih1 ih2 =>
  rcases ih1 with e|e<;>rcases ih2 with f|f
  .exact .inl λl=>by rw[e,f]
  .exact .inr λl=>by rw[e,f]
  .exact .inr λl=>by rw[e,f]
  .exact .inl λl=>by rw[e,f];nofun
theorem se{M:Nat}{a b:List (Nat->Int)}(h:a.Perm b):Pm (dt M a) (dt M b):=by
 rcases D9 (M:=M) h with e|e
 .exact .inl (e _)
 .exact .inr (e _)
theorem uC{m:Nat}:∀(rs:List (Nat->Int))(l:List Bool),dw (m+1) rs (false::l)=dw m rs l
 | [],l=>by simp[dw,vV]
 | r::rs,l=>by
  show wg (m+1) r (dw (m+1) rs) (false::l)=wg m r (dw m rs) l;rw[kW];exact gn (λk=>uC rs k) l
theorem yo{m:Nat}:∀{rs:List (Nat->Int)},(∀r∈rs,r m=0) -> ∀l,dw (m+1) rs (true::l)=0
 | [],_,l=>by simp[dw,vV]
 | r::rs,h,l=>by
  show wg (m+1) r (dw (m+1) rs) (true::l)=0;rw[kq,h r Yi,j9 m _ l λk=>yo (λx hx=>h x (Yj _ hx)) k];nofun
theorem HQ{m:Nat}{r:Nat->Int}{rs:List (Nat->Int)}(h:∀x∈rs,x m=0):dt (m+1) (r::rs)=r m*dt m rs:=by
 show wg (m+1) r (dw (m+1) rs) (true::vA m)=r m*dw m rs (vA m);rw[kq,uC,j9 m _ _ λk=>yo h k];nofun
def st(g:Nat->Nat->Int)(lo:Nat):Nat->List (Nat->Int)
 | 0=>[]
 | n+1=>g (lo+n)::st g lo n
theorem i3{g:Nat->Nat->Int}{lo:Nat}{x:Nat->Int}:∀{n:Nat},x∈st g lo n -> ∃i,i<n/\x=g (lo+i)
 | 0,h=>by cases h
 | n+1,h=>by
  rcases YY.mp h with rfl|z
  .exact⟨n,(),rfl⟩
  .obtain⟨i,hi,e⟩:=i3 z;exact⟨i,(),e⟩
theorem BR{g:Nat->Nat->Int}{lo i:Nat}:∀{n:Nat},i<n->g (lo+i)∈st g lo n
 | 0,h=>by nofun
 | n+1,h=>by
  by_cases e:i=n
  .rw[e];exact Yi
  .exact Yj _ (BR ())
theorem vL(g:Nat->Nat->Int)(lo n:Nat):∀m,st g lo (n+m)=st g (lo+n) m++st g lo n
 | 0=>rfl
 | m+1=>by
  show g (lo+(n+m))::st g lo (n+m)=g (lo+n+m)::(st g (lo+n) m++st g lo n);rw[vL g lo n m,Xt]
theorem jH{g:Nat->Nat->Int}{c:Int}{d0 lo:Nat}{X:List (Nat->Int)}(h1:∀i,g i (d0+i)=c)(h2:∀i k,d0+i<k->g i k=0)(hX:∀x∈X,∀k,d0+lo<=k->x k=0):∀n,dt (d0+lo+n) (st g lo n++X)=c^n*dt (d0+lo) X
 | 0=>by show dt (d0+lo) X=c^0*_;rw[Xv,Xq]
 | n+1=>by
  show dt (d0+lo+n+1) (g (lo+n)::(st g lo n++X))=_;rw[HQ,jH h1 h2 hX n,show d0+lo+n=d0+(lo+n) by nofun,h1,Xw,Y6 (c^n) c,Y5]
  intro x hx;rcases List.mem_append.mp hx with z|z
  .obtain⟨i,hi,rfl⟩:=i3 z;exact h2 _ _ ()
  .exact hX x z _ ()
def uV(M:Nat)(X:List (Nat->Int))(v:Nat->Int):Prop:=∀rows:List (Nat->Int),(∀x∈X,x∈rows) -> ∀l,wg M v (dw M rows) l=0
theorem uV.mem{M:Nat}{X:List (Nat->Int)}{v:Nat->Int}(h:v∈X):uV M X v:=λrows hr l=>xg (hr v h) l
theorem uV.zero{M:Nat}{X:List (Nat->Int)}:uV M X λ_=>0:=λrows _ l=>hZ M _ l λ_ _=>rfl
theorem uV.lin{M:Nat}{X:List (Nat->Int)}{u v:Nat->Int}{a b:Int}(hu:uV M X u)(hv:uV M X v):uV M X λk=>a*u k+b*v k:=λrows hr l=>by
 rw[jZ,hu rows hr l,hv rows hr l];nofun
theorem uV.sum{M:Nat}{X:List (Nat->Int)}{q:Nat->Int}{g:Nat->Nat->Int}:∀n,(∀i,i<n->g i∈X)->uV M X λk=>bV (λi=>q i*g i k) n
 | 0,_=>uV.zero
 | n+1,h=>by
  have e:=uV.lin (a:=1) (b:=q n) (uV.sum (q:=q) n λi hi=>h i ()) (uV.mem (M:=M) (h n ()));have f:(λk=>1*bV (λi=>q i*g i k) n+q n*g n k)=λk=>bV (λi=>q i*g i k) (n+1):=by
   funext k;show 1*_+_=bV _ n+q n*g n k;nofun
  rw[f] at e;exact e
theorem Cu{M:Nat}{f r:Nat->Nat->Int}{c b:Int}{X:List (Nat->Int)}:∀n,(∀i,i<n -> ∃v,uV M X v /\ ∀k,c*f i k=b*r i k+v k) -> ∀l,c^n*dw M (st f 0 n++X) l=b^n*dw M (st r 0 n++X) l
 | 0,_,l=>by rw[Xv,Xv];rfl
 | n+1,h,l=>by
  have ih:=Cu n λi hi=>h i ();obtain⟨v,hv,e⟩:=h n ();show c^(n+1)*wg M (f (0+n)) (dw M (st f 0 n++X)) l=b^(n+1)*wg M (r (0+n)) (dw M (st r 0 n++X)) l;rw[Xo];have e1:c^n*wg M (f n) (dw M (st f 0 n++X)) l=b^n*wg M (f n) (dw M (st r 0 n++X)) l:=by
   rw[<-y0 (o:=λk=>c^n*dw M (st f 0 n++X) k) (λ_=>rfl) l,<-y0 (o:=λk=>b^n*dw M (st r 0 n++X) k) (λ_=>rfl) l];exact gn ih l
  have e2:c*wg M (f n) (dw M (st r 0 n++X)) l=b*wg M (r n) (dw M (st r 0 n++X)) l:=by
   have a1:=jZ (u:=f n) (v:=f n) (a:=c) (b:=0) M (dw M (st r 0 n++X)) l;have a2:=jZ (u:=r n) (v:=v) (a:=b) (b:=1) M (dw M (st r 0 n++X)) l;rw[hv _ (λx hx=>Yr _ hx) l] at a2;have a3:(λi=>c*f n i+0*f n i)=λi=>b*r n i+1*v i:=by
    funext k;have:=e k;nofun
   rw[a3,a2] at a1;nofun
  rw[Xw,Xw,Y6 (c^n) c,Y5,e1,Int.mul_left_comm,e2,Y5]
theorem HP{M:Nat}{f r:Nat->Nat->Int}{c b:Int}{X:List (Nat->Int)}(n:Nat)(h:∀i,i<n -> ∃v,uV M X v /\ ∀k,c*f i k=b*r i k+v k):c^n*dt M (st f 0 n++X)=b^n*dt M (st r 0 n++X):=Cu n h _
def sh(f:Nat->Int)(i k:Nat):Int:=if i<=k then f (k-i) else 0
def Ej(j k:Nat):List (Nat->Int):=((List.range (j+1)).filter λi=>decide (i≠k)).map j8
theorem wa{j k:Nat}{x:Nat->Int}(h:x∈Ej j k) {m:Nat}(hm:j<m):x m=0:=by
 obtain⟨i,hi,rfl⟩:=List.mem_map.mp h;have:=List.mem_range.mp (List.mem_filter.mp hi).1;exact Yc ()
theorem Cj:∀n,st j8 0 n=((List.range n).reverse).map j8
 | 0=>rfl
 | n+1=>by
  rw[List.range_succ,List.reverse_append];show j8 (0+n)::st j8 0 n=j8 n::_;rw[Cj n,Xo];rfl
theorem Fg(n:Nat):dt n (st j8 0 n)=1:=by
 have e:=jH (g:=j8) (c:=1) (d0:=0) (lo:=0) (X:=[]) (λi=>by rw[Xo];exact Yb rfl) (λi k h=>Yc ()) (λx hx=>by cases hx) n
 rw[List.append_nil,Int.one_pow,Xo,Xo] at e;rw[e];rfl
theorem xS{j k:Nat}(h:k<=j):(j8 k::Ej j k).Perm (st j8 0 (j+1)):=by
 rw[Cj];show (List.map j8 (k::(List.range (j+1)).filter λi=>decide (i≠k))).Perm _;refine List.Perm.map _ (List.Perm.trans ?_ (List.reverse_perm _).symm);have nd:(List.range (j+1)).Nodup:=List.nodup_range;have e:(List.range (j+1)).filter (λi=>decide (i≠k))=(List.range (j+1)).erase k:=by
  rw[nd.erase_eq_filter];congr 1
  funext i;by_cases z:i=k
  .simp[z]
  .simp[z]
 rw[e];exact (List.perm_cons_erase (List.mem_range.mpr ())).symm
theorem Bu{j k:Nat}{R:Nat->Int}(h:k<=j):Pm (dt (j+1) (R::Ej j k)) (R k):=by
 have e:dt (j+1) (R::Ej j k)=R k*dt (j+1) (j8 k::Ej j k):=by
  show wg (j+1) R (dw (j+1) (Ej j k)) (vA (j+1))=R k*wg (j+1) (j8 k) (dw (j+1) (Ej j k)) (vA (j+1));have e1:wg (j+1) R (dw (j+1) (Ej j k)) (vA (j+1))=wg (j+1) (λi=>bV (λa=>R a*j8 a i) (j+1)) (dw (j+1) (Ej j k)) (vA (j+1)):=HC λi hi=>by
   rw[gM (j:=i) (j+1) (λa _ ha=>by rw[show j8 a i=0 from Yc (λz=>ha z.symm)];nofun) hi,show j8 i i=1 from Yb rfl]
   nofun
  rw[e1,mN];refine gM (j+1) (λi hi hn=>?_) ();have z:j8 i∈Ej j k:=List.mem_map.mpr ⟨i,List.mem_filter.mpr ⟨List.mem_range.mpr hi,YM hn⟩,rfl⟩;rw[xg z];nofun
 rw[e];have p:=(se (M:=j+1) (xS h)).mul (R k);rw[Fg,Int.mul_one] at p;exact p
def SR(f g:Nat->Int)(a b j k:Nat):Int:=dt (a+b-j) (st (sh f) 0 (b-j)++(st (sh g) 0 (a-j)++Ej j k))
theorem vN{f:Nat->Int}{a i:Nat}:sh f i (a+i)=f a:=by
 unfold sh;rw[Yb (),show a+i-i=a by nofun]
theorem me{f:Nat->Int}{a:Nat}(h:∀k,a<k->f k=0) {i k:Nat}(hk:a+i<k):sh f i k=0:=by
 unfold sh;rw[Yb ()];exact h _ ()
def cv(q g:Nat->Int)(n k:Nat):Int:=bV (λt=>q t*sh g t k) n
theorem G7{q g:Nat->Int}{i n:Nat}:∀k,sh (cv q g n) i k=bV (λt=>q t*sh g (i+t) k) n:=λk=>by
 unfold sh;by_cases h:i<=k
 .rw[Yb h];refine fi n λt _=>?_;show q t*(if t<=k-i then g (k-i-t) else 0)=q t*(if i+t<=k then g (k-(i+t)) else 0)
  by_cases z:t<=k-i
  .rw[Yb z,Yb (),show k-i-t=k-(i+t) by nofun]
  .rw[Yc z,Yc ()]
 .rw[Yc h];refine (gb n λt _=>?_).symm;rw[Yc ()];exact Xi _
theorem CW{f g q r:Nat->Int}{a b j k:Nat}{γ β:Int}(ab:b<=a)(jb:j<=b)(e:∀k,γ*f k=cv q g (a-b+1) k+β*r k) :
  γ^(b-j)*SR f g a b j k=β^(b-j)*dt (a+b-j) (st (sh r) 0 (b-j)++(st (sh g) 0 (a-j)++Ej j k)):=by
 refine HP (b-j) λi hi=>⟨λk=>bV (λt=>q t*sh g (i+t) k) (a-b+1),uV.sum (g:=λt=>sh g (i+t)) _ λt ht=>List.mem_append_left _ ?_,λk=>?_⟩
 .have:=BR (g:=sh g) (lo:=0) (i:=i+t) (n:=a-j) ()
  rwa [Xo] at this
 .show γ*sh f i k=β*sh r i k+bV (λt=>q t*sh g (i+t) k) (a-b+1);rw[<-G7];unfold sh;by_cases h:i<=k
  .rw[Yb h,Yb h,Yb h,e];nofun
  .rw[Yc h,Yc h,Yc h];nofun
theorem Fl{f g q r:Nat->Int}{a b d j k:Nat}{γ β c:Int}(ab:b<=a)(db:d<b)(jd:j<=d)(hg:g b=c)(g0:∀k,b<k->g k=0)(r0:∀k,d<k->r k=0)(e:∀k,γ*f k=cv q g (a-b+1) k+β*r k) :
  Pm (γ^(b-j)*SR f g a b j k) (β^(b-j)*(c^(a-d)*SR g r b d j k)):=by
 rw[CW ab () e];refine Pm.mul ?_ _;have p:(st (sh r) 0 (b-j)++(st (sh g) 0 (a-j)++Ej j k)).Perm (st (sh g) (d-j) (a-d)++(st (sh g) 0 (d-j)++(st (sh r) 0 (b-j)++Ej j k))):=by
  have s:=vL (sh g) 0 (d-j) (a-d);rw[show d-j+(a-d)=a-j by nofun,Xo] at s
  rw[s,<-YI,<-YI,<-YI,<-YI];refine List.Perm.append_right _ ?_;rw[YI,YI];exact (List.perm_append_comm).trans (by rw[YI])
 refine (se p).trans ?_;rw[show a+b-j=b+(d-j)+(a-d) by nofun,jH (d0:=b) (c:=c) (λi=>by rw[vN];exact hg) (λi k h=>me g0 h) ?_ (a-d)]
 .rw[show b+(d-j)=b+d-j by nofun]
  exact Pm.rfl'
 .intro x hx k hk;rcases List.mem_append.mp hx with z|z
  .obtain⟨i,hi,rfl⟩:=i3 z;exact me g0 ()
  .rcases List.mem_append.mp z with z|z
   .obtain⟨i,hi,rfl⟩:=i3 z;exact me r0 ()
   .exact wa z ()
theorem xA(x:Int):x^1=x:=by rw[Xw,Xv,Xq]
theorem Fu{f g q r:Nat->Int}{a b k:Nat}{c:Int}(ab:b<=a)(hb:1<=b)(hk:k<b)(hg:g b=c)(hc:c≠0)(g0:∀k,b<k->g k=0)(r0:∀k,b<=k->r k=0)(e:∀k,c^(a-b+1)*f k=cv q g (a-b+1) k+r k) :
  Pm (SR f g a b (b-1) k) (r k):=by
 refine Pm.of_mul (a:=c^(a-b+1)) ?_ (Xx hc);have s:=CW (j:=b-1) (k:=k) (q:=q) (g:=g) (f:=f) (γ:=c^(a-b+1)) (β:=1) ab () (r:=r) (λk=>by rw[e k];nofun)
 rw[show b-(b-1)=1 by nofun,xA,xA,Xq] at s
 rw[s,show a+b-(b-1)=b+0+(a-b+1) by nofun,show a-(b-1)=a-b+1 by nofun]
 have p:(st (sh r) 0 1++(st (sh g) 0 (a-b+1)++Ej (b-1) k)).Perm (st (sh g) 0 (a-b+1)++(sh r 0::Ej (b-1) k)):=by
  show (sh r (0+0)::(st (sh g) 0 (a-b+1)++Ej (b-1) k)).Perm _;exact List.perm_middle.symm
 refine (se p).trans ?_;rw[jH (d0:=b) (c:=c) (λi=>by rw[vN];exact hg) (λi k h=>me g0 h) ?_ (a-b+1)]
 .refine Pm.mul ?_ _;have d:=Bu (j:=b-1) (k:=k) (R:=sh r 0) ();rw[show b-1+1=b+0 by nofun] at d
  refine d.trans (.inl ?_);show sh r 0 k=r k;unfold sh;rw[Yb (),Nat.sub_zero]
 .intro x hx m hm;rcases YY.mp hx with rfl|z
  .unfold sh;rw[Yb ()];exact r0 _ ()
  .exact wa z ()
theorem Fj{f g:Nat->Int}{a b:Nat}{c:Int}(ab:b<a)(hg:g b=c)(g0:∀k,b<k->g k=0):Pm (SR f g a b b b) (c^(a-b)):=by
 unfold SR;rw[show b-b=0 by nofun]
 show Pm (dt (a+b-b) (st (sh g) 0 (a-b)++Ej b b)) _;obtain⟨n,hn⟩ : ∃n,a-b=n+1:=⟨a-b-1,()⟩;have s:=vL (sh g) 0 1 n;rw[show 1+n=n+1 by nofun] at s
 rw[hn,s,show a+b-b=b+1+n by nofun,YI,jH (d0:=b) (lo:=1) (c:=c) (λi=>by rw[vN];exact hg) (λi k h=>me g0 h) ?_ n]
 .rw[Xw];refine Pm.mul ?_ _;have d:=Bu (j:=b) (k:=b) (R:=sh g 0) ();have e:sh g 0 b=c:=by
   unfold sh;rw[Yb (),Nat.sub_zero,hg]
  rw[e] at d;exact d
 .intro x hx m hm;rcases List.mem_append.mp hx with z|z
  .obtain⟨i,hi,rfl⟩:=i3 z;exact me g0 ()
  .exact wa z ()
theorem wE{M C:Nat}(hM:1<=M*C):∀{rows:List (Nat->Int)},(∀r∈rows,∀i,(r i).natAbs<=C) -> ∀l,(dw M rows l).natAbs<=(M*C)^rows.length
 | [],_,l=>by
  show (vV l).natAbs<=1;unfold vV;split<;>decide
 | r::rs,h,l=>by
  have ih:=wE hM (λx hx=>h x (Yj _ hx));have:=pM (h r Yi) M (dw M rs) l ih;show (wg M r (dw M rs) l).natAbs<=(M*C)^(rs.length+1);rw[Nat.pow_succ,YK _ (M*C),Nat.mul_assoc];exact this
theorem mh{g:Nat->Nat->Int}{lo:Nat}:∀n,(st g lo n).length=n
 | 0=>rfl
 | n+1=>by
  show (st g lo n).length+1=n+1;rw[mh n]
theorem tD{j k:Nat}(h:k<=j):(Ej j k).length=j:=by
 have:=(xS h).length_eq;rw[mh] at this;simp at this;exact this
theorem sr{f:Nat->Int}{C:Nat}(h:∀i,(f i).natAbs<=C)(i k:Nat):(sh f i k).natAbs<=C:=by
 unfold sh;split
 .exact h _
 .exact YT _
theorem JB(a:Int)(m n:Nat):a^(m+n)=a^m*a^n:=Int.pow_add a m n
theorem imp(a b:Int)(n:Nat):(a*b)^n=a^n*b^n:=Int.mul_pow
theorem JS(a:Int)(m n:Nat):(a^m)^n=a^(m*n):=Int.pow_mul.symm
theorem Kk{h h' c:Int}{e m:Nat}(H:h'*h^e=c^(e+1)):h^((e+1)*(m+1))*c^(e+1+(m+1))*h'^m=c^((e+2)*(m+1))*h^(e+1+m):=by
 have k:h'^m*h^(e*m)=c^((e+1)*m):=by rw[<-JS,<-imp,H,JS]
 have e1:(e+1)*(m+1)=e*m+(e+1+m):=by simp only[Nat.mul_add,Xn];nofun
 have e2:(e+2)*(m+1)=(e+1)*m+(e+1+(m+1)):=by simp only[Nat.mul_add,Xn];nofun
 rw[e1,e2,JB h,JB c ((e+1)*m),<-k];generalize h^(e*m)=u;generalize h^(e+1+m)=v;generalize c^(e+1+(m+1))=w;generalize h'^m=z;grind
structure nL (S1:Nat->Nat->Int)(F G:Nat->Int)(A B:Nat)(x h:Int):Prop where
 ba:B<=A
 x0:x≠0
 h0:h≠0
 one:A=B->h=1
 main:∀j k,j<=B->k<=j->Pm (SR F G A B j k) (x^(B-j)*(h^(A-j-1)*S1 j k))
theorem nL.first{F G:Nat->Int}{A B:Nat}(h:B<=A):nL (SR F G A B) F G A B 1 1:=⟨h,∅,∅,λ_=>rfl,λj k _ _=>.inl (by rw[Int.one_pow,Int.one_pow,Xq,Xq])⟩
section
variable {S1:Nat->Nat->Int}{F G q R r:Nat->Int}{A B d:Nat}{x h c h':Int}
theorem nL.rest(I:nL S1 F G A B x h)(hg:G B=c)(hc:c≠0)(g0:∀k,B<k->G k=0)(r0:∀k,B<=k->R k=0)(e:∀k,c^(A-B+1)*F k=cv q G (A-B+1) k+R k)(k:Nat)(hk:k<B):Pm (R k) (x*h^(A-B)*S1 (B-1) k):=by
 have s:=(Fu I.ba () hk hg hc g0 r0 e).symm.trans (I.main (B-1) k () ());rw[show B-(B-1)=1 by nofun,xA,show A-(B-1)-1=A-B by have:=I.ba;nofun,<-Y5] at s
 exact s
theorem nL.high(I:nL S1 F G A B x h)(hg:G B=c)(g0:∀k,B<k->G k=0)(ab:B<A):Pm (c^(A-B)) (h^(A-B-1)*S1 B B):=by
 have s:=(Fj (f:=F) ab hg g0).symm.trans (I.main B B () ());rw[show B-B=0 by nofun,Xv,Xq] at s
 exact s
theorem nL.step(I:nL S1 F G A B x h)(hg:G B=c)(hc:c≠0)(g0:∀k,B<k->G k=0)(e:∀k,c^(A-B+1)*F k=cv q G (A-B+1) k+x*h^(A-B)*r k)(r0:∀k,d<k->r k=0)(hd:d<B)(n0:h'≠0)(hh:A=B/\h'=h\/B<A/\h'*h^(A-B-1)=c^(A-B)):nL S1 G r B d c h':=by
 refine⟨(),hc,n0,λz=>by nofun,λj k hj hk=>?_⟩
 have ab:=I.ba;have s:=Fl (k:=k) I.ba hd hj hg g0 r0 e;have m:=(I.main j k () hk).mul ((c^(A-B+1))^(B-j));have p:=s.symm.trans m;refine Pm.of_mul (a:=(x*h^(A-B))^(B-j)*c^(A-d)) ?_ (Y8 (Xx (Y8 I.x0 (Xx I.h0))) (Xx hc));rw[Y5];refine p.trans (.inl ?_);obtain⟨n,hn⟩ : ∃n,B-j=n+1:=⟨B-j-1,()⟩;rw[show B-j-1=n by nofun,hn,imp,JS,JS,show A-j-1=A-B+n by nofun]
 have key:h^((A-B)*(n+1))*c^(A-d)*(c^(d-j)*h'^n)=c^((A-B+1)*(n+1))*h^(A-B+n):=by
  have e1:c^(A-d)*c^(d-j)=c^(A-B+(n+1)):=by rw[<-JB];congr 1;nofun
  rw[Y5,<-Y5 (c^(A-d)),e1,<-Y5];rcases hh with ⟨z1,z2⟩|⟨z1,z2⟩
  .have h1:=I.one z1;rw[z2,h1,Int.one_pow,Int.one_pow,Int.one_pow,show A-B=0 by nofun,Xq,Int.mul_one,Int.mul_one]
   congr 1
   nofun
  .obtain⟨e',he⟩ : ∃e',A-B=e'+1:=⟨A-B-1,()⟩;rw[show A-B-1=e' by nofun,he] at z2
   rw[he];exact Kk z2
 generalize h^((A-B)*(n+1))=u at *
 generalize h^(A-B+n)=v at *
 generalize c^((A-B+1)*(n+1))=w at *
 generalize c^(A-d)=y at *
 generalize c^(d-j)=y' at *
 generalize h'^n=z at *
 generalize x^(n+1)=t at *
 generalize S1 j k=S at *
 have k2:t*(u*y*(y'*z))*S=t*(w*v)*S:=by rw[key]
 grind
end
theorem uw{f f' g:Nat->Rat}:∀n,(∀i,i<n->f i=f' i) -> ∀k,pr f g n k=pr f' g n k
 | 0,_,_=>rfl
 | n+1,h,k=>by
  show pr f g n k+(if n<=k then f n*g (k-n) else 0)=pr f' g n k+(if n<=k then f' n*g (k-n) else 0)
  rw[uw n (λi hi=>h i ()) k,h n ()]
theorem IZ{f g:Nat->Rat}:∀n,(∀i,i<n->f i=0) -> ∀k,pr f g n k=0
 | 0,_,_=>rfl
 | n+1,h,k=>by
  show pr f g n k+(if n<=k then f n*g (k-n) else 0)=0
  rw[IZ n (λi hi=>h i ()) k,h n ()];split<;>grind
theorem yl{q g:Nat->Int}{k:Nat}:∀n,cv q g n k=pz q g n k
 | 0=>rfl
 | n+1=>by
  show cv q g n k+q n*sh g n k=pz q g n k+if n<=k then q n*g (k-n) else 0
  rw[yl n];unfold sh;split
  .rfl
  .rw[Xi]
theorem Bt.pm{n:Nat}{x y:Int}(h:Bt n x)(p:Pm y x):Bt n y:=by
 unfold Bt at *
 rcases p with e|e<;>nofun
theorem Bt.pow{b:Nat}{x:Int}(h:Bt b x):∀n,1<=n->Bt (b*n) (x^n)
 | 0,h0=>by nofun
 | 1,_=>by rw[xA,Nat.mul_one];exact h
 | n+2,_=>by
  rw[Xw,Nat.mul_succ];exact (Bt.pow h (n+1) ()).mul h
theorem Bt.pow1{b:Nat}{x:Int}(h:Bt b x)(n:Nat):Bt (b*n+1) (x^n):=by
 cases n with
 | zero=>rw[Xv];exact Bt.mono (m:=1) ∅ ()
 | succ n=>exact (Bt.pow h (n+1) ()).mono ()
theorem G8{q g:Nat->Int}{n k:Nat}:((pz q g n k:Int):Rat)=pr (λi=>(q i:Rat)) (λi=>(g i:Rat)) n k:=by
 rw[og (F:=λi=>(q i:Rat)) (G:=λi=>(g i:Rat)) (c:=1) (d:=1) (λi=>by grind) (λi=>by grind)]
 grind
def jy(ns:List Int)(k:Nat):Rat:=((nz ns k:Int):Rat)
theorem EC{l:List Int}{k:Nat}(h:l.length<=k):jy l k=0:=by
 show ((nz l k:Int):Rat)=0;rw[bA h];rfl
end L2
namespace L2
open PySem PySem.Spec PyProof.Rows
theorem AR{X:Cx}{k:Nat}{env:Env}{l:List Env}(N:nO X.prog X.base)(hr:gi k X.A)(hst:X.stack=env::l)(hgen:env.scope.isGenerator=false)(hco:env.scope.isCoroutine=false)(hb:env.builtins=builtinsNs)(hg:env.globals=mainGlobals) :
  eO X (binaryOp .FloorDiv) (rI zJ λi j=>.int (i.fdiv j)):=by
 intro pins s σ H x y v u Q I rx ry h;obtain⟨i,j,rfl,rfl,hc,q⟩:=h;obtain⟨t,rfl⟩:=rx;obtain⟨t',rfl⟩:=ry;refine floordiv_int hc ⟨.int (i.fdiv j),H,I.tok _,⟨_,rfl⟩,q⟩ (.inr ?_);refine PySem.PylongRoom.of I.nolimit ?_ (PySem.SeerAt.of (N.seer.keeps I.bk) N.tree (I.ok.frames.trans (Yn some hst)) hgen hco hb hg);have:=hr.dp;show X.A.depth+100<recursionLimit;nofun
theorem Fb{f g:Nat->Int}{a b j k B:Nat}(ha:a<=8)(hb:b<=a)(jb:j<=b)(kj:k<=j)(hB:1<=B)(hf:∀i,(f i).natAbs<2^B)(hg:∀i,(g i).natAbs<2^B):(SR f g a b j k).natAbs<2^(65+16*B):=by
 by_cases h0:a+b-j=0
 .have:SR f g a b j k=1:=by
   unfold SR;rw[h0,show b-j=0 by nofun,show a-j=0 by nofun]
   have:Ej j k=[]:=List.length_eq_zero_iff.mp (by rw[tD kj];nofun)
   rw[show st (sh f) 0 0++(st (sh g) 0 0++Ej j k)=Ej j k from rfl,this]
   rfl
  rw[this];exact Nat.one_lt_two_pow ()
 obtain⟨C,hC⟩ : ∃C,C=2^B:=⟨_,rfl⟩;have c1:1<=C:=hC▸Nat.one_le_two_pow;have r:=wE (M:=a+b-j) (C:=C) (rows:=st (sh f) 0 (b-j)++(st (sh g) 0 (a-j)++Ej j k)) (Nat.mul_pos () c1) (λr hr i=>by
  rcases List.mem_append.mp hr with z|z
  .obtain⟨i',_,rfl⟩:=i3 z;exact sr (λi=>by have:=hf i;nofun) _ _
  .rcases List.mem_append.mp z with z|z
   .obtain⟨i',_,rfl⟩:=i3 z;exact sr (λi=>by have:=hg i;nofun) _ _
   .obtain⟨i',_,rfl⟩:=List.mem_map.mp z;unfold j8;split<;>simp<;>nofun) (vA (a+b-j))
 have hl:(st (sh f) 0 (b-j)++(st (sh g) 0 (a-j)++Ej j k)).length=a+b-j:=by
  rw[YB,YB,mh,mh,tD kj];nofun
 rw[hl] at r;have e1:((a+b-j)*C)^(a+b-j)<=(16*C)^16:=Yg (Nat.pow_le_pow_left (Nat.mul_le_mul_right _ ()) _) (YU () ());have e2:(16*C)^16<2^(65+16*B):=by
  rw[Nat.mul_pow,hC,<-Nat.pow_mul,YW,YK B 16];exact Nat.mul_lt_mul_of_pos_right ∅ Nat.one_le_two_pow
 unfold SR dt;nofun
structure wI (Z:Nat)(S1:Nat->Nat->Int)(F G:Nat->Int)(A B:Nat)(x h:Int):Prop where
 inv:nL S1 F G A B x h
 a6:A<=8
 bS:∀j k,j<=B->k<=j->Bt Z (S1 j k)
 bF:∀k,Bt Z (F k)
 bG:∀k,Bt Z (G k)
 bx:Bt Z x
 bh:Bt Z h
 g1:G B≠0
 g0:∀k,B<k->G k=0
 f0:∀k,A<k->F k=0
theorem wI.first{F G:Nat->Int}{A B b:Nat}(h:B<=A)(ha:A<=8)(hb:1<=b)(bF:∀k,Bt b (F k))(bG:∀k,Bt b (G k))(g1:G B≠0)(g0:∀k,B<k->G k=0)(f0:∀k,A<k->F k=0):wI (65+16*b) (SR F G A B) F G A B 1 1 :=
 ⟨.first h,ha,λj k hj hk=>Fb ha h hj hk hb bF bG,λk=>(bF k).mono (),λk=>(bG k).mono (),Bt.mono (m:=1) ∅ (),Bt.mono (m:=1) ∅ (),g1,g0,f0⟩
section
variable {Z:Nat}{S1:Nat->Nat->Int}{F G q R:Nat->Int}{A B:Nat}{x h:Int}
theorem wI.rest(I:wI Z S1 F G A B x h)(r0:∀k,B<=k->R k=0)(e:∀k,G B^(A-B+1)*F k=pz q G (A-B+1) k+R k) :
  ∃(r:Nat->Int)(h':Int),(∀k,R k=x*h^(A-B)*r k)/\(∀k,Bt Z (r k))/\(∀k,B<=k->r k=0)/\h'≠0/\Bt Z h'/\(A=B/\h'=h\/B<A/\h'*h^(A-B-1)=G B^(A-B)) /\
   ∀d,d<B->r d≠0->(∀k,d<k->r k=0)->wI Z S1 G r B d (G B) h':=by
 have e':∀k,G B^(A-B+1)*F k=cv q G (A-B+1) k+R k:=λk=>by rw[yl];exact e k
 have dv:∀k,∃y:Int,R k=x*h^(A-B)*y/\Bt Z y/\(B<=k->y=0):=λk=>by
  by_cases hk:k<B
  .have p:=I.inv.rest rfl I.g1 I.g0 r0 e' k hk;have b:=I.bS (B-1) k () ();rcases p with z|z
   .exact⟨_,z,b,λ_=>by nofun⟩
   .exact⟨- S1 (B-1) k,by rw[z,Int.mul_neg],b.pm (.inr rfl),λ_=>by nofun⟩
  .exact⟨0,by rw[r0 k (),Xi],hU,λ_=>rfl⟩
 have hi:∃h':Int,h'≠0/\Bt Z h'/\(A=B/\h'=h\/B<A/\h'*h^(A-B-1)=G B^(A-B)):=by
  by_cases ab:A=B
  .exact⟨h,I.inv.h0,I.bh,.inl ⟨ab,rfl⟩⟩
  .have ba:=I.inv.ba;have p:=I.inv.high rfl I.g0 ();have b:=I.bS B B () ();have nz:G B^(A-B)≠0:=Xx I.g1;rcases p with z|z
   .exact⟨S1 B B,λy=>nz (by rw[z,y,Xi]),b,.inr ⟨(),by rw[z,Y6]⟩⟩
   .exact⟨- S1 B B,λy=>nz (by rw[z,show S1 B B=0 by nofun,Xi];rfl),b.pm (.inr rfl),.inr ⟨(),by rw[z,Int.neg_mul,Y6]⟩⟩
 obtain⟨h',n0,bh',hh⟩:=hi;refine⟨λk=>(dv k).choose,h',λk=>(dv k).choose_spec.1,λk=>(dv k).choose_spec.2.1,λk hk=>(dv k).choose_spec.2.2 hk,n0,bh',hh,λd hd rd rz=>?_⟩;refine⟨I.inv.step (q:=q) rfl I.g1 I.g0 (λk=>?_) rz hd n0 hh,Yg I.inv.ba I.a6,λj k hj hk=>I.bS j k () hk,I.bG,λk=>(dv k).choose_spec.2.1,I.bG B,bh',rd,rz,I.g0⟩;rw[<-(dv k).choose_spec.1];exact e' k
end
def jQ(b:Nat)(ns:List Int):Prop:=ns.length<=9/\(∀x∈ns,Bt b x)/\(ns≠[]->nz ns (ns.length-1)≠0)
theorem jQ.up{b c:Nat}{l:List Int}(h:jQ b l)(bc:b<=c):jQ c l:=⟨h.1,λx hx=>(h.2.1 x hx).mono bc,h.2.2⟩
theorem iK{q:List (Int×Int)}(h:aL q)(n:q≠[]):cf q (q.length-1)≠0:=by
 have hl:0<q.length:=List.length_pos_iff.mpr n;have e:q[q.length-1]? = some (q[q.length-1]'()):=YO ();rw[aG e];intro z;refine h.2 _ (by rw[YX,e]) ?_
 exact (fP (h.1 _ (YN _)).ne).mp z
def ab(a b:Rat):List (List Int×List Int×Int×Int)->Nat->Rat×Rat
 | _,0=>(a,b)
 | [],_+1=>(a,b)
 | row::rows,n+1=>ab b (-(a*(row.2.2.1:Rat))/(row.2.2.2:Rat)) rows n
theorem Pb.slope{a:Nat}{fs gs:List (Int×Int)}(h:Pb a (cf fs))(hl:fs.length<=9)(e:∀k,cf gs k=((k+1:Nat):Int)*cf fs (k+1)):Pb (a+4) (cf gs):=by
 obtain⟨D,h0,h1,h2⟩:=h;refine⟨D,h0,h1.mono (),λk=>?_⟩;by_cases hk:k+1<16
 .obtain⟨n,e1,b1⟩:=h2 (k+1);refine⟨((k+1:Nat):Int)*n,?_,?_⟩
  .rw[e k,e1,Xa,Rat.div_def,Rat.div_def];grind
  .have:Bt 4 ((k+1:Nat):Int):=by
    show (((k+1:Nat):Int)).natAbs<2^4;nofun
   exact (this.mul b1).mono ()
 .refine⟨0,?_,hU⟩;rw[e k,aK ()];have c0:((0:Int):Rat)=0:=rfl;rw[c0];have d:=am h0;grind
theorem oA{X:Cx}{k:Nat}{env:Env}{l:List Env}(N:nO X.prog X.base)(hr:gi k X.A)(hst:X.stack=env::l)(hgen:env.scope.isGenerator=false)(hco:env.scope.isCoroutine=false)(hb:env.builtins=builtinsNs)(hg:env.globals=mainGlobals) :
  eO X (binaryOp .FloorDiv) (rI zJ λi j=>.int (i.fdiv j)):=by
 intro pins s σ H x y v u Q I rx ry h;obtain⟨i,j,rfl,rfl,hc,q⟩:=h;obtain⟨t,rfl⟩:=rx;obtain⟨t',rfl⟩:=ry;refine floordiv_int hc ⟨.int (i.fdiv j),H,I.tok _,⟨_,rfl⟩,q⟩ (.inr ?_);refine PySem.PylongRoom.of I.nolimit ?_ (PySem.SeerAt.of (N.seer.keeps I.bk) N.tree (I.ok.frames.trans (Yn some hst)) hgen hco hb hg);have:=hr.dp;show X.A.depth+100<recursionLimit;nofun
def Ay(K:W.Frag)(ta:TE):TE:=λσ H Q=>ta σ H λx H1=>∃k,vk K x H1 k/\Q (.bl (!k)) H1
theorem DI{X:Cx}{a:Expr}{ta:TE}{pos:Pos}(ha:PE X a ta):PE X (.UnaryOp .Not a pos) (Ay X.K ta):=by
 intro pins s σ H Q I h;refine UnaryOp_ (da (ha pins s σ H _ I h) λv s1 ⟨x,H1,I1,r1,q1⟩=>?_);exact not_of (da (wZ pins s1 σ H1 x v (λk H'=>Q (.bl (!k)) H') I1 r1 q1) λb s2 ⟨H2,I2,q2⟩=>⟨.bl (!b),H2,I2,rfl,q2⟩)
theorem xL{X:Cx}{a:Expr}{ta:TE}{pos:Pos}(ha:QE X a ta):QE X (.UnaryOp .Not a pos) (Ay X.K ta):=⟨DI (ha:=ha.h)⟩
theorem Hm{x y:Int×Int}(z:fr x=fr y):x=y:=by
 unfold fr at z;injection z with z
 injection z with z1 z2
 injection z1 with z1
 injection z2 with z2 _
 injection z2 with z2
 exact Prod.ext z1 z2
theorem fN{fs gs:List (Int×Int)}(e:D.lst (fs.map fr)=.lst (gs.map fr)):fs=gs:=by
 injection e with e
 exact List.map_inj_right (λ_ _ z=>Hm z) |>.mp e
theorem tF{d:D}(h:d.poly=true):∃fs,d=.lst (fs.map fr)/\aL fs:=by
 cases d with
 | lst ds =>
  have h':(ds.all D.frac && i8 ds)=true:=h;rw[YF] at h';obtain⟨h1,h2⟩:=h';have key:∀ds:List D,ds.all D.frac=true -> ∃fs:List (Int×Int),ds=fs.map fr /\ ∀q∈fs,Fq q:=by
   intro ds;induction ds with
   | nil=>exact λ_=>⟨[],rfl,by simp⟩
   | cons d ds ih =>
    intro z;rw[List.all_cons,YF] at z;obtain⟨q,rfl,fq⟩:=D.frac_fr z.1;obtain⟨fs,rfl,hf⟩:=ih z.2;refine⟨q::fs,rfl,λp hp=>?_⟩;rcases YY.mp hp with rfl|y
    .exact fq
    .exact hf p y
  obtain⟨fs,rfl,hf⟩:=key ds h1;refine⟨fs,rfl,hf,λq hq z=>?_⟩;have hq':(fs.map fr).getLast? = some (fr q):=by rw[List.getLast?_map,hq];rfl
  have e:=kg hq';rw[h2] at e;have fq:=hf q (List.mem_of_getLast? hq);have:q=(0,1):=(nY fq).mpr z;rw[YM this] at e;cases e
 | _=>unfold D.poly at h;cases h
end L2
namespace L2
open PySem
section
variable {S u u' v v':Nat->Rat}{m n:Nat}
theorem xQ{m':Nat}(h:∀i,m<=i->u i=0)(hm:m<=m'):ip S u v m' n=ip S u v m n:=by
 obtain⟨d,rfl⟩ : ∃d,m'=m+d:=⟨m'-m,()⟩;exact cX (λi hi=>by rw[h i hi];grind) d
theorem BD:ip S (λi=>u i+u' i) v m n=ip S u v m n+ip S u' v m n:=jT _
theorem CC{c:Rat}:ip S (λi=>c*u i) v m n=c*ip S u v m n:=iB _
theorem Hh:ip S u (λi=>v i+v' i) m n=ip S u v m n+ip S u v' m n:=by
 rw[eU,BD,eU,eU (u:=v')]
theorem Gq{c:Rat}:ip S u (λi=>c*v i) m n=c*ip S u v m n:=by
 rw[eU,CC,eU]
theorem CL(h:∀i,u i=u' i):ip S u v m n=ip S u' v m n:=by rw[show u=u' from funext h]
end
section
variable {W:Nat->Int}{B:Int}{S:Nat->Rat}
theorem rg{k n m:Nat}{v:Nat->Rat}(hD:Dk W k≠0)(hB:B≠0)(hS:∀i,((W i:Int):Rat)=S i*(B:Rat))(hm:k+1<=m):ip S v (Pk W k) n m=aj v (λi=>((Lq W k i:Int):Rat)/(((Dk W k:Int):Rat)*(B:Rat))) n:=tR hD hB (λ_=>rfl) hS hm n
theorem Jz(c:Rat):0<=c*c:=ua c
theorem pd(hB:0<B)(hS:∀i,((W i:Int):Rat)=S i*(B:Rat)):∀m,(∀i,i<=m->0<Dk W i) -> ∀r:Nat->Rat,(∀i,m<=i->r i=0)->0<=ip S r r m m/\(ip S r r m m=0 -> ∀i,r i=0)
 | 0,_,r,hr=>⟨Rat.le_refl,λ_ i=>hr i (YT _)⟩
 | m+1,hD,r,hr=>by
  have dm:=hD m ();have dn:Dk W m≠0:=();have d1:=hD (m+1) (Yp _);have bn:B≠0:=();obtain⟨r',hr'⟩ : ∃r':Nat->Rat,∀i,r' i=r i + -(r m)*Pk W m i:=⟨_,λ_=>rfl⟩;have z':∀i,m<=i->r' i=0:=λi hi=>by
   rw[hr'];by_cases e:i=m
   .rw[e,gp dn];grind
   .rw[jX (),hr i ()];grind
  obtain⟨p1,p2⟩:=pd hB hS m (λi hi=>hD i ()) r' z';have er:∀i,r i=r' i+r m*Pk W m i:=λi=>by rw[hr'];grind
  obtain⟨c,hc⟩ : ∃c,c=r m:=⟨_,rfl⟩;obtain⟨h,hh⟩ : ∃h:Rat,h=((Dk W (m+1):Int):Rat)/(((Dk W m:Int):Rat)*(B:Rat)):=⟨_,rfl⟩;have h0:0<h:=by
   rw[hh,Rat.div_def];refine Xy (by exact_mod_cast d1) (Rat.inv_pos.mpr (Xy (by exact_mod_cast dm) (by exact_mod_cast hB)))
  have e1:ip S r' (Pk W m) (m+1) (m+1)=0:=by
   rw[rg dn bn hS (Yp _)];refine aY _ λi hi=>?_;by_cases e:i=m
   .rw[z' i ()];grind
   .rw[fV ()];have z0:((0:Int):Rat)=0:=rfl;rw[z0];grind
  have e2:ip S r (Pk W m) (m+1) (m+1)=c*h:=by
   rw[rg dn bn hS (Yp _)];show aj r _ m+r m*(((Lq W m m:Int):Rat)/_)=_;rw[aY m λi hi=>by rw[fV hi,show ((0:Int):Rat)=0 from rfl];grind,dQ,hc,hh]
   grind
  have e3:ip S r r (m+1) (m+1)=ip S r' r' m m+c*c*h:=by
   have a1:ip S r r (m+1) (m+1)=ip S r' r (m+1) (m+1)+c*ip S (Pk W m) r (m+1) (m+1):=by
    rw[CL (u':=λi=>r' i+c*Pk W m i) λi=>by rw[er i,hc],BD,CC]
   have a2:ip S r' r (m+1) (m+1)=ip S r' r' (m+1) (m+1)+c*ip S r' (Pk W m) (m+1) (m+1):=by
    have er':r=λi=>r' i+c*Pk W m i:=funext λi=>by rw[er i,hc]
    have:ip S r' r (m+1) (m+1)=ip S r' (λi=>r' i+c*Pk W m i) (m+1) (m+1):=by rw[<-er']
    rw[this,Hh,Gq]
   rw[a1,a2,e1,eU (u:=Pk W m),e2,xQ z' (),eU,xQ z' ()];grind
  have sq:=Xu (Jz c) (Rat.le_of_lt h0);refine⟨by rw[e3];grind,λe=>?_⟩
  rw[e3] at e;have q1:ip S r' r' m m=0:=⋯;have q2:c*c*h=0:=⋯;have c0:c=0:=by
   have hn:h≠0:=⋯;have:c*c=0:=⋯;grind
  intro i;rw[er i,p2 q1 i,<-hc,c0];grind
end
end L2
namespace L2
open PySem PySem.Spec PyProof.Rows
theorem Az{X:Cx}{k:Nat}(N:nO X.prog X.base)(hr:gi k X.A)(hst:X.stack=X.env::X.outer)(hgen:X.env.scope.isGenerator=false)(hco:X.env.scope.isCoroutine=false) :
  FO X .FloorDiv (λx y H Q=>∃i j,x=.int i/\y=.int j/\zJ i j/\Q (.int (i.fdiv j)) H):=by
 intro pins s σ H x y v u Q I r1 r2 h;obtain⟨i,j,rfl,rfl,m,q⟩:=h;obtain⟨t,rfl⟩:=r1;obtain⟨t',rfl⟩:=r2;refine ifloordiv_int m ⟨.int _,H,I.tok _,⟨_,rfl⟩,q⟩ (.inr ?_);refine PySem.PylongRoom.of I.nolimit ?_ (PySem.SeerAt.of (N.seer.keeps I.bk) N.tree (I.ok.frames.trans (Yn some hst)) hgen hco I.ok.blt I.ok.glob);have:=hr.dp;show X.A.depth+100<recursionLimit;nofun
def Bd(n:Nat)(f:Nat->Rat):Prop:=∀i,n<=i->f i=0
def Tp(d:Nat)(f:Nat->Rat):Prop:=f d≠0/\Bd (d+1) f
theorem Bd.mono{m n:Nat}{f:Nat->Rat}(h:Bd m f)(l:m<=n):Bd n f:=λi hi=>h i ()
theorem Bd.add{n:Nat}{f g:Nat->Rat}{c:Rat}(h:Bd n f)(k:Bd n g):Bd n (λi=>f i+c*g i):=λi hi=>by
 show f i+c*g i=0;rw[h i hi,k i hi];grind
theorem Bd.tp:∀{n:Nat}{f:Nat->Rat},Bd n f->(∀i,f i=0) \/ ∃d,d<n/\Tp d f
 | 0,f,h=>.inl λi=>h i (YT _)
 | n+1,f,h=>by
  by_cases e:f n=0
  .rcases Bd.tp (n:=n) (f:=f) (λi hi=>by
    by_cases z:i=n
    .rw[z,e]
    .exact h i ()) with z|⟨d,hd,t⟩
   .exact .inl z
   .exact .inr ⟨d,(),t⟩
  .exact .inr ⟨n,(),e,h⟩
theorem jm{f:Nat->Rat}(h:∀i,f i=0)(x:Rat):EV f x=0:=by
 rw[iO (n:=0) (λk _=>h k) ∅];rfl
theorem iL{f g:Nat->Rat}{c:Rat}(x:Rat):EV (λi=>f i+c*g i) x=EV f x+c*EV g x:=by
 have:EV (λi=>c*g i) x=c*EV g x:=by rw[Bv,Bv (v:=g),iB]
 rw[mB,this]
theorem Bd.pr{m n:Nat}{f g:Nat->Rat}(hg:Bd n g):Bd (m+n) (λk=>L2.pr f g m k):=λk hk=>fK hg _ _ ()
theorem kU{m n:Nat}{f g:Nat->Rat}(hf:Bd m f)(hg:Bd n g)(h:m+n<=20)(x:Rat):EV (λk=>pr f g m k) x=EV f x*EV g x:=by
 rw[AK hg m h,iO hf (),iO hg ()]
theorem DG{g:Nat->Rat}{d:Nat}(hg:Tp d g):∀(n:Nat)(f:Nat->Rat),Bd (n+d) f -> ∃q r:Nat->Rat,Bd n q/\Bd d r /\ ∀k,f k=pr q g n k+r k
 | 0,f,h=>⟨λ_=>0,f,λ_ _=>rfl,λi hi=>h i (),λk=>by show f k=0+f k;grind⟩
 | n+1,f,h=>by
  have g0:=hg.1;obtain⟨c,hc⟩ : ∃c,c=f (n+d)/g d:=⟨_,rfl⟩;obtain⟨q,r,bq,br,e⟩:=DG hg n (λk=>f k-if n<=k then c*g (k-n) else 0) (λi hi=>by
   show f i-(if n<=i then c*g (i-n) else 0)=0
   rw[Yb ()];by_cases z:i=n+d
   .rw[z,Nat.add_sub_cancel_left,hc];grind
   .rw[h i (),hg.2 _ ()];grind)
  refine⟨λi=>if i=n then c else q i,r,λi hi=>?_,br,λk=>?_⟩
  .show (if i=n then c else q i)=0
   rw[Yc (),bq i ()]
  .show f k=pr _ g n k+(if n<=k then (if n=n then c else q n)*g (k-n) else 0)+r k
   rw[uw n (f':=q) λi hi=>Yc (),Yb rfl];have:=e k;grind
theorem pP{f q e:Nat->Rat}{n d:Nat}(hf:Bd n f)(hn:n<=20)(te:Tp d e)(d6:d<=6)(bq:Bd 13 q)(h:∀x,EV f x=EV q x*EV e x):Bd (n-d) q/\(n<=d -> ∀i,f i=0):=by
 have c:∀k,f k=pr q e 13 k:=mC (hf.mono hn) ((Bd.pr te.2).mono ()) λx=>by rw[h x,kU bq te.2 ()]
 obtain⟨q0,r0,b0,s0,z⟩:=DG te (n-d) f (hf.mono ());obtain⟨u1,u2⟩:=ww (q:=q) (q':=q0) (r:=λ_=>0) (r':=r0) bq b0 (λj hj=>te.2 j ()) te.1 (λ_ _=>rfl) s0 λk=>by rw[<-z k,c k];grind
 have bq':Bd (n-d) q:=λi hi=>by rw[u1 i,b0 i hi]
 refine⟨bq',λhd i=>?_⟩;have q0':∀i,q i=0:=λi=>bq' i ();rw[c i,IZ _ λj _=>q0' j]
theorem FT{f g q r:Nat->Rat}{n d:Nat}(te:Tp d g)(bq:Bd n q)(h:n+(d+1)<=20)(e:∀k,f k=pr q g n k+r k)(x:Rat):EV f x=EV q x*EV g x+EV r x:=by
 rw[du (g:=λk=>(λk=>pr q g n k) k+r k) e,mB,kU bq te.2 h]
theorem kJ{n:Nat}{f:Nat->Rat}(h:Bd (n+1) f):Bd n (DF f):=λi hi=>by
 show (((i+1:Nat):Int):Rat)*f (i+1)=0;rw[h _ ()];grind
theorem FJ{f g:Nat->Rat}{c:Rat}(k:Nat):DF (λi=>f i+c*g i) k=DF f k+c*DF g k:=by
 show (((k+1:Nat):Int):Rat)*(f (k+1)+c*g (k+1))=(((k+1:Nat):Int):Rat)*f (k+1)+c*((((k+1:Nat):Int):Rat)*g (k+1));grind
theorem C6{g:Nat->Rat}{m:Nat}(bg:Bd m g):∀(n:Nat)(f h:Nat->Rat),Bd n f->n+m<=19->Bd 20 h->(∀x,EV h x=EV f x*EV g x) -> ∀x,EV (DF h) x=EV (DF f) x*EV g x+EV f x*EV (DF g) x
 | 0,f,h,bf,l,bh,e,x=>by
  have f0:∀i,f i=0:=λi=>bf i (YT _);have h0:∀i,h i=0:=mC bh (g:=λ_=>0) (λ_ _=>rfl) λx=>by rw[e x,jm f0,jm (f:=λ_=>0) λ_=>rfl];grind
  rw[jm (f:=DF h) λi=>by show _*h (i+1)=0;rw[h0];grind,jm (f:=DF f) λi=>by show _*f (i+1)=0;rw[f0];grind,jm f0]
  grind
 | n+1,f,h,bf,l,bh,e,x=>by
  obtain⟨f1,hf1⟩ : ∃f1:Nat->Rat,∀k,f1 k=f (k+1):=⟨_,λ_=>rfl⟩;have b1:Bd n f1:=λi hi=>by rw[hf1,bf _ ()]
  obtain⟨one,h1⟩ : ∃one:Nat->Rat,∀k,one k=if k=0 then 1 else 0:=⟨_,λ_=>rfl⟩
  have one1:∀x,EV one x=1:=λx=>by
   rw[iO (n:=1) (λk hk=>by rw[h1,Yc ()]) ∅]
   show 0+one 0*1=(1:Rat);rw[h1,Yb rfl];grind
  have ef:∀k,f k=lin 0 1 f1 k+f 0*one k:=λk=>by
   cases k with
   | zero=>show f 0=f1 0*0+f 0*one 0;rw[h1,Yb rfl];grind
   | succ k=>show f (k+1)=f1 (k+1)*0+f1 k*1+f 0*one (k+1);rw[h1,Yc (),hf1];grind
  have z1:f1 19=0:=b1 _ ();have vf:∀x,EV f x=x*EV f1 x+f 0:=λx=>by rw[du ef,iL,si z1,one1];grind
  have df:∀x,EV (DF f) x=x*EV (DF f1) x+EV f1 x:=λx=>by
   have:∀k,DF f k=lin 0 1 (DF f1) k+f1 k:=λk=>by
    rw[show f=λk=>lin 0 1 f1 k+f 0*one k from funext ef,FJ,AZ]
    have:DF one k=0:=by show _*one (k+1)=0;rw[h1,Yc ()];grind
    rw[this];grind
   rw[du this,mB,si (by show _*f1 20=0;rw[b1 _ ()];grind)]
   grind
  obtain⟨u,hu⟩ : ∃u:Nat->Rat,u=λk=>pr f1 g n k:=⟨_,rfl⟩;have bu:Bd 19 u:=by rw[hu];exact (Bd.pr bg).mono ()
  have vu:∀x,EV u x=EV f1 x*EV g x:=λx=>by rw[hu,kU b1 bg ()]
  have ih:=C6 bg n f1 u b1 () (bu.mono ()) vu;have eh:∀k,h k=lin 0 1 u k+f 0*g k:=mC bh (λk hk=>by
   obtain⟨j,rfl⟩ : ∃j,k=j+1:=⟨k-1,()⟩;show u (j+1)*0+u j*1+f 0*g (j+1)=0;rw[bu j (),bg _ ()];grind) λx=>by rw[e x,vf,iL,si (bu 19 ()),vu];grind
  have dh:EV (DF h) x=x*EV (DF u) x+EV u x+f 0*EV (DF g) x:=by
   have:∀k,DF h k=(λk=>lin 0 1 (DF u) k+u k) k+f 0*DF g k:=λk=>by
    rw[show h=λk=>lin 0 1 u k+f 0*g k from funext eh,FJ,AZ]
   rw[du this,iL,mB,si (by show _*u 20=0;rw[bu _ ()];grind)]
   grind
  rw[dh,ih,vu,df,vf];grind
theorem Cd{S u v:Nat->Rat}{a b:Nat}(bv:Bd b v)(h:a+b<=20):ip S u v a b=aj (λk=>pr u v a k) S 20:=by
 rw[qm];unfold ip;refine aA a (λ_ _=>rfl) λi hi=>?_;rw[show 20-i=b+(20-i-b) by nofun]
 exact (cX (λj hj=>by rw[bv j hj];grind) _).symm
theorem DP{S u v u' v':Nat->Rat}{a b a' b':Nat}(bu:Bd a u)(bv:Bd b v)(bu':Bd a' u')(bv':Bd b' v')(h:a+b<=20)(h':a'+b'<=20)(e:∀x,EV u x*EV v x=EV u' x*EV v' x):ip S u v a b=ip S u' v' a' b':=by
 rw[Cd bv h,Cd bv' h'];have:∀k,pr u v a k=pr u' v' a' k:=mC ((Bd.pr bv).mono h) ((Bd.pr bv').mono h') λx=>by rw[kU bu bv h,kU bu' bv' h',e x]
 rw[show (λk=>pr u v a k)=λk=>pr u' v' a' k from funext this]
def uG(e f:Nat->Rat):Prop:=∃q,Bd 13 q /\ ∀x,EV f x=EV q x*EV e x
theorem least{Φ:Nat->Prop}:∀{n:Nat},Φ n -> ∃m,Φ m /\ ∀k,Φ k->m<=k:=by
 intro n;induction n using Nat.strongRecOn with
 | ind n ih =>
  intro h;by_cases e:∃k,Φ k/\k<n
  .obtain⟨k,hk,l⟩:=e;exact ih k l hk
  .exact⟨n,h,λk hk=>Xz λz=>e ⟨k,hk,()⟩⟩
theorem uG.trans{s e f:Nat->Rat}{m n:Nat}(bq:∃q,Bd m q /\ ∀x,EV e x=EV q x*EV s x)(h:∃q,Bd n q /\ ∀x,EV f x=EV q x*EV e x)(l:m+n<=13):uG s f:=by
 obtain⟨q,b1,e1⟩:=bq;obtain⟨p,b2,e2⟩:=h;refine⟨λk=>pr p q n k,(Bd.pr b1).mono (),λx=>?_⟩;rw[kU b2 b1 (),e2,e1];grind
section
variable {X:Cx}
def BW(i j k:Nat)(ta:TA):TS:=λD σ H=>ta σ H λvs H1=>∃u v w,vs=[u,v,w]/\D.nx (((σ.set i (some u)).set j (some v)).set k (some w)) H1
theorem yV{i j k:Nat}{x y z:Str}{a b c:Expr}{ta:TA}{px py pz pt pos:Pos} {kt k2 pt2}(hc:X.calm=true)(hN:X.N.Nodup)(hi:X.N[i]? = some x)(hj:X.N[j]? = some y)(hk:X.N[k]? = some z)(hij:i≠j)(hik:i≠k)(hjk:j≠k)
  (hx:X.env.scope.names.lookup x=some .local)(hy:X.env.scope.names.lookup y=some .local)(hz:X.env.scope.names.lookup z=some .local)(ha:QA X [a,b,c] ta)
  (hw:swappedStores [.Tuple [.Name x px,.Name y py,.Name z pz] kt pt] (.Tuple [a,b,c] k2 pt2) X.env=pure (some [x,y,z]))
  (hs:swapsWithSole [.Tuple [.Name x px,.Name y py,.Name z pz] kt pt] (.Tuple [a,b,c] k2 pt2) pos.line X.env=pure false:=by rfl) :
  QS X (.Assign [.Tuple [.Name x px,.Name y py,.Name z pz] kt pt] (.Tuple [a,b,c] k2 pt2) pos) (BW i j k ta):=⟨by
 intro pins s σ H D I h;rw[exec_Assign_arm];refine wpAny_bind (wpAny_standAt ?_);rw[hs];refine wpAny_bind (wpAny_pure ?_);rw[Yc ∅];refine wpAny_bind (Tuple_ (da (ha.h _ pins s σ H _ I h) λus s1 ⟨vs,H1,I1,r1,q1⟩=>?_));obtain⟨u,v,w,e1,q1⟩:=q1;subst e1;obtain⟨u1,u2,u3,rfl,ru,rv,rw'⟩ : ∃u1 u2 u3,us=[u1,u2,u3]/\cy u u1/\cy v u2/\cy w u3:=by
  rcases r1 with _|⟨p,_|⟨p',_|⟨p'',_|_⟩⟩⟩
  exact⟨_,_,_,rfl,p,p',p''⟩
 refine wpAny_newObj_type ?_ (by show 3<=sizeLine;decide)
 have I2:aR X pins σ H1 { s1 with heap:=s1.heap.push { cls:=.type "tuple",data:=.seq [u1,u2,u3].toArray } }:=I1.kept (t':=s1.toks) λb o e=>Heap.get?_push_of_some _ e
 rw[hw];refine wpAny_bind (wpAny_pure ?_);show wpAny (model X.prog X.w) X.A (do rule "assign.swapped-stores";let items <-unpackItems (.ref s1.heap.objs.size) 3 none;assignInOrder [λv=>bindName X.env z v,λv=>bindName X.env y v,λv=>bindName X.env x v] items.reverse;pure Flow.next) _ _ _
 refine wpAny_bind (wpAny_rule (wpAny_bind (unpackItems_tuple (items:=#[u1,u2,u3]) (I.ok.hd hc) (IsTup.new s1.heap _) λh' hx'=>?_)));have I3:=I2.kept (h':=h') (t':=s1.toks) λb o e=>hx' b o (Yf (Heap.lt_size e)) e;show wpAny _ _ (assignInOrder [λv=>bindName X.env z v,λv=>bindName X.env y v,λv=>bindName X.env x v] [u3,u2,u1] >>= λ_=>pure Flow.next) _ _ _
 refine wpAny_bind (assignInOrder_cons (wpAny_bindName (gg I3 hN hk (.inl hz) rw' (λs2 I4=>?_) (.inr hz))));refine assignInOrder_cons (wpAny_bindName (gg I4 hN hj (.inl hy) rv (λs3 I5=>?_) (.inr hy)));refine assignInOrder_cons (wpAny_bindName (gg I5 hN hi (.inl hx) ru (λs4 I6=>assignInOrder_nil (wpAny_pure ?_)) (.inr hx)));rw[List.set_comm (i:=k) (j:=j) _ _ (Yk hjk),List.set_comm (i:=k) (j:=i) _ _ (Yk hik),List.set_comm (i:=j) (j:=i) _ _ (Yk hij)] at I6;exact⟨_,H1,I6,q1⟩⟩
end
theorem AI(x y:Int):(x.fdiv y).natAbs<=x.natAbs+1:=by
 rw[Int.fdiv_eq_ediv];have h1:=Int.natAbs_ediv_le_natAbs x y;by_cases c:0<=y\/y∣x
 .rw[Yb c];nofun
 .rw[Yc c];have h2:=Int.natAbs_sub_le (x/y) 1;nofun
theorem Bt.fdv{b:Nat}{x:Int}(h:Bt b x)(y:Int):Bt (b+1) (x.fdiv y):=by
 have:=AI x y;have p:=Nat.two_pow_pos b;unfold Bt at *
 rw[Nat.pow_succ];nofun
inductive uW:List Int->List Int->List (List Int×List Int×Int×Int)->Prop
 | nought {F:List Int}:uW F [] []
 | last {F G Q:List Int}{S:Int}:G≠[]->nz G (G.length-1)≠0->S≠0->Q.length+G.length=F.length+1->(∀k,S*nz F k=pz (nz Q) (nz G) Q.length k)->uW F G []
 | more {F G R Q:List Int}{T S:Int}{rows:List (List Int×List Int×Int×Int)}:G≠[]->nz G (G.length-1)≠0->S≠0->T≠0->R≠[]->nz R (R.length-1)≠0->R.length<G.length->Q.length+G.length=F.length+1->(∀k,S*nz F k=pz (nz Q) (nz G) Q.length k+T*nz R k)->uW G R rows->uW F G ((R,Q,T,S)::rows)
def gG(G:List Int):List (List Int×List Int×Int×Int)->List Int
 | []=>G
 | row::rows=>gG row.1 rows
theorem zd(G:List Int):∀rows:List (List Int×List Int×Int×Int),gG G rows=G \/ ∃row∈rows,gG G rows=row.1:=by
 intro rows;induction rows generalizing G with
 | nil=>exact .inl rfl
 | cons row rows ih =>
  rcases ih row.1 with z|⟨r,hr,z⟩
  .exact .inr ⟨row,by simp,z⟩
  .exact .inr ⟨r,by simp[hr],z⟩
theorem jF(l:List Int):Bd l.length (jy l):=λi hi=>EC hi
theorem CT{l:List Int}(h:l≠[])(z:nz l (l.length-1)≠0):Tp (l.length-1) (jy l):=⟨am z,(jF l).mono (by have:=List.length_pos_iff.mpr h;nofun)⟩
theorem wd{F G R Q:List Int}{S T:Int}(lq:Q.length+G.length<=20)(e:∀k,S*nz F k=pz (nz Q) (nz G) Q.length k+T*nz R k)(x:Rat):(S:Rat)*EV (jy F) x=EV (jy Q) x*EV (jy G) x+(T:Rat)*EV (jy R) x:=by
 have c:∀k,(λk=>0+(S:Rat)*jy F k) k=(λk=>pr (jy Q) (jy G) Q.length k) k+(T:Rat)*jy R k:=λk=>by
  have:=e k;have z:((S*nz F k:Int):Rat)=((pz (nz Q) (nz G) Q.length k+T*nz R k:Int):Rat):=by rw[this]
  rw[Xa,Y9,Xa,G8] at z;show 0+(S:Rat)*((nz F k:Int):Rat)=pr (λi=>((nz Q i:Int):Rat)) (λi=>((nz G i:Int):Rat)) Q.length k+(T:Rat)*((nz R k:Int):Rat);grind
 have h1:=du c x;rw[iL,iL,kU (jF Q) (jF G) lq,jm (f:=λ_=>0) λ_=>rfl] at h1;grind
theorem uW.dvs{F G:List Int}{rows:List (List Int×List Int×Int×Int)}(h:uW F G rows):G≠[]->F.length<=7->G.length<=7->(gG G rows≠[]/\nz (gG G rows) ((gG G rows).length-1)≠0/\(gG G rows).length<=7)/\uG (jy (gG G rows)) (jy F)/\uG (jy (gG G rows)) (jy G):=by
 induction h with
 | nought=>exact λz=>absurd rfl z
 | @last F G Q S g0 gl s0 lq e =>
  intro _ lF lG;have ls:=am s0;refine⟨⟨g0,gl,lG⟩,⟨λi=>0+1/(S:Rat)*jy Q i,Bd.add (λ_ _=>rfl) ((jF Q).mono ()),λx=>?_⟩,⟨λi=>if i=0 then 1 else 0,λi hi=>Yc (),λx=>?_⟩⟩
  .show EV (jy F) x=_;have h1:=wd (F:=F) (G:=G) (Q:=Q) (R:=[]) (S:=S) (T:=0) () (λk=>by rw[e k];nofun) x
   rw[iL,jm (f:=λ_=>0) λ_=>rfl];show EV (jy F) x=(0+1/(S:Rat)*EV (jy Q) x)*EV (jy G) x;have c0:((0:Int):Rat)=0:=rfl;rw[c0] at h1;grind
  .show EV (jy G) x=_;rw[iO (f:=λi=>if i=0 then (1:Rat) else 0) (n:=1) (λk hk=>Yc ()) ∅]
   show EV (jy G) x=(0+1*1)*EV (jy G) x;grind
 | @more F G R Q T S rows g0 gl s0 t0 r0 rl lR lq e hs ih =>
  intro _ lF lG;obtain⟨⟨n0,nl,n7⟩,⟨a,ba,ea⟩,⟨b,bb,eb⟩⟩:=ih r0 lG ();have tn:=CT n0 nl;have ba':=(pP (jF G) () tn () ba ea).1;have ls:=am s0;refine⟨⟨n0,nl,n7⟩,⟨λi=>(λi=>0+1/(S:Rat)*pr (jy Q) a Q.length i) i+(T:Rat)/(S:Rat)*b i,Bd.add (Bd.add (λ_ _=>rfl) ((Bd.pr ba').mono ())) bb,λx=>?_⟩,⟨a,ba,ea⟩⟩;have h1:=wd (F:=F) (G:=G) (Q:=Q) (R:=R) (S:=S) (T:=T) () e x;rw[iL,iL,jm (f:=λ_=>0) λ_=>rfl,kU (jF Q) ba' ()];show EV (jy F) x=_*EV (jy (gG R rows)) x;have h2:=ea x;have h3:=eb x;grind
theorem uW.few{F G:List Int}{rows:List (List Int×List Int×Int×Int)}(h:uW F G rows):rows.length<=G.length-1:=by
 induction h with
 | nought=>exact YT _
 | last _ _ _ _ _=>exact YT _
 | @more F G R Q T S rows g0 gl s0 t0 r0 rl lR lq e hs ih =>
  have:=List.length_pos_iff.mpr r0;simp only[Xm];nofun
def zU(f g:Nat->Rat):Prop:=∀d e,1<=d->d<=6->Tp d e->uG e f->uG e g->False
theorem uG.sc{e f f':Nat->Rat}{c:Rat}(h:uG e f)(z:∀k,f' k=c*f k):uG e f':=by
 obtain⟨q,bq,eq⟩:=h;refine⟨λi=>0+c*q i,Bd.add (λ_ _=>rfl) bq,λx=>?_⟩;rw[du (g:=λk=>0+c*f k) (λk=>by rw[z];grind),iL,iL,jm (f:=λ_=>0) λ_=>rfl,eq]
 grind
theorem uW.one{F G:List Int}{rows:List (List Int×List Int×Int×Int)}{f g:Nat->Rat}{c d:Rat}(h:uW F G rows)(g0:G≠[])(lF:F.length<=7)(lG:G.length<=7)(ef:∀k,f k=c*jy F k)(eg:∀k,g k=d*jy G k)(n:zU f g):∃x,gG G rows=[x]/\x≠0:=by
 obtain⟨⟨n0,nl,n7⟩,h1,h2⟩:=h.dvs g0 lF lG;have l1:(gG G rows).length=1:=Xz λz=>by
  have:=List.length_pos_iff.mpr n0;exact n ((gG G rows).length-1) _ () () (CT n0 nl) (h1.sc ef) (h2.sc eg)
 obtain⟨x,hx⟩:=List.length_eq_one_iff.mp l1;refine⟨x,hx,?_⟩;rw[hx] at nl;exact nl
structure Hf (K:W.Frag)(x:Str)(st:Stmt):Prop where
 ex:∃f fd,dy K x x st f fd/\PySem.W.nsIn K mainGlobals x=some (some (.ref f))
theorem Hf.of{K:W.Frag}{x:Str}{st:Stmt}{f:Addr}{oc:Value}{od an:Option Addr}{osl:Array (Option Value)}{kV doc pm cdv ct:Value}(a:PySem.W.nsIn K mainGlobals x=some (some (.ref f)))(l:K.lookup f=some ⟨oc,od,.func (PySem.W.fnOf x x (hJ st) (ge st) (ak st) .none kV doc pm an cdv ct),osl⟩)(c:PySem.W.codeIn K cdv x=true)(k:PySem.W.keepIn K (.ref f)=true):Hf K x st:=⟨_,_,Ca l c k,a⟩
structure Il (P:Program)(w:World)(K:W.Frag)(mg:Str->Option Value)(base:Heap):Prop where
 ex:∃h:Heap,K.In h/\h.Ns mainGlobals mg
section
variable {P:Program}{w:World}{K:W.Frag}{mg:Str->Option Value}{base:Heap}{x:Str}{st:Stmt}{ps:List Str}{n:Nat}{sp:Sp}
theorem Hf.at_(hf:Hf K x st)(E:Il P w K mg base):∃f fd,dy K x x st f fd/\mg x=some (.ref f)/\PySem.W.keepIn K (.ref f)=true:=by
 obtain⟨f,fd,F,a⟩:=hf.ex;obtain⟨h,X,G⟩:=E.ex;exact⟨f,fd,F,PySem.W.mg_of X G a,F.kp⟩
theorem Hf.cal(hf:Hf K x st)(E:Il P w K mg base)(ok:∀{f:Addr}{fd:FuncData},dy K x x st f fd->aV P w K mg base dC n f fd ps sp)
  (b:∀(kV doc pm:Value)(an:Option Addr)(cdv ct:Value)(us:List Value),us.length=ps.length->bindArgs (PySem.W.fnOf x x (hJ st) (ge st) (ak st) .none kV doc pm an cdv ct) ⟨us,[]⟩=pure (ps.zip us):=by walk_at"bd"):cp P w K mg base x ps n sp:=by
 obtain⟨f,fd,F,a,k⟩:=hf.at_ E;exact⟨f,fd,ok F,a,k,F.binds b⟩
end
theorem KQ{f:Nat->Rat}{m:Nat}(m6:m<=6)(tP:Tp m f)(nosq:∀(d:Nat)(e q:Nat->Rat),1<=d->Tp d e->Bd (m-d+1-d) q->(∀x,EV f x=EV q x*EV e x*EV e x)->False) {d:Nat}{e:Nat->Rat}(d1:1<=d)(d6:d<=6)(te:Tp d e)(ha:uG e f)(hc:uG e (DF f)):False:=by
 obtain⟨d,⟨d1,d6,e,te,ha,hc⟩,mn⟩:=least (Φ:=λd=>1<=d/\d<=6 /\ ∃e,Tp d e/\uG e (f)/\uG e (DF (f))) ⟨d1,d6,e,te,ha,hc⟩;obtain⟨a,ba,ea⟩:=ha;obtain⟨c,bc,ec⟩:=hc;have bP:Bd (m+1) (f):=tP.2;obtain⟨ba',az⟩:=pP bP () te d6 ba ea;have dm:d<=m:=Xz λz=>tP.1 (az () m);have bc':=(pP (kJ bP) () te d6 bc ec).1;have rule:=C6 (m:=d+1) te.2 (m+1-d) a (f) ba' () (bP.mono ()) ea;have k1:∀x,EV (DF e) x*EV a x=(EV c x-EV (DF a) x)*EV e x:=λx=>by
  have:=rule x;rw[ec x] at this;grind
 obtain⟨q,t,bq,bt,eq⟩:=DG te (m+1-d) a (ba'.mono ());have vq:=FT te bq () eq;rcases Bd.tp bt with t0|⟨t',ht',tt⟩
 .-- twice in it
  have v1:∀x,EV (f) x=EV q x*EV e x*EV e x:=λx=>by
   rw[ea x,vq x,jm t0];grind
  have bq2:Bd (m-d+1-d) q:=by
   have:=(pP (f:=a) (n:=m+1-d) ba' () te d6 (bq.mono ()) λx=>by rw[vq x,jm t0];grind).1
   exact this.mono ()
  exact nosq d e q d1 te bq2 v1
 .-- a smallest rest that does it
  have dv:uG e (λk=>pr (DF e) t d k):=by
   refine⟨λi=>c i + -1*(λi=>DF a i+1*pr q (DF e) (m+1-d) i) i,?_,λx=>?_⟩
   .refine Bd.add bc ?_;exact Bd.add ((kJ (n:=12) (ba.mono ()))|>.mono ()) ((Bd.pr (kJ te.2)).mono ())
   .rw[kU (kJ te.2) bt (),iL,iL,kU bq (kJ te.2) ()];have:=k1 x;rw[vq x] at this;grind
  obtain⟨s,⟨sd,w,tw,q2,bq2,e2⟩,sm⟩:=least (Φ:=λs=>s<d /\ ∃w,Tp s w/\uG e (λk=>pr (DF e) w d k)) ⟨ht',t,tt,dv⟩;have bw:Bd (s+1) w:=tw.2;have v2:∀x,EV (DF e) x*EV w x=EV q2 x*EV e x:=λx=>by rw[<-e2 x,kU (kJ te.2) bw ()]
  obtain⟨b2',z2⟩:=pP (f:=λk=>pr (DF e) w d k) (n:=d+s) (λi hi=>fK bw _ _ ()) () te d6 bq2 e2;by_cases s0:s=0
  .-- the slope itself would be divided
   subst s0;have z:=z2 () (d-1);have d0:DF e (d-1)≠0:=by
    show (((d-1+1:Nat):Int):Rat)*e (d-1+1)≠0;rw[show d-1+1=d by nofun]
    have:(((d:Nat):Int):Rat)≠0:=am ();have:=te.1;grind
   have e0:∀x,EV (DF e) x*EV w x=0:=λx=>by
    rw[<-kU (kJ te.2) bw (),jm (z2 ())]
   have w0:∀x,EV w x=w 0:=λx=>by
    rw[iO (n:=1) (λk hk=>bw k ()) ∅];show 0+w 0*1=w 0;grind
   have wn:=tw.1;exact d0 (mC ((kJ te.2).mono ()) (g:=λ_=>0) (λ_ _=>rfl) (λx=>by
    have:=e0 x;rw[w0] at this;rw[jm (f:=λ_=>0) λ_=>rfl];grind) (d-1))
  .obtain⟨q3,t3,b3,bt3,e3⟩:=DG tw (d+1-s) e (te.2.mono ());have v3:=FT tw b3 () e3;rcases Bd.tp bt3 with t0|⟨t',ht',tt⟩
   .-- a smaller one in both
    have:=mn s ⟨(),(),w,tw,uG.trans (m:=6) (n:=7) ⟨q3,b3.mono (),λx=>by rw[v3 x,jm t0];grind⟩ ⟨a,ba'.mono (),ea⟩ ∅,uG.trans (m:=6) (n:=7) ⟨q3,b3.mono (),λx=>by rw[v3 x,jm t0];grind⟩ ⟨c,bc'.mono (),ec⟩ ∅⟩
    nofun
   .have:=sm t' ⟨(),t3,tt,λi=>DF e i + -1*pr q3 q2 (d+1-s) i,Bd.add ((kJ te.2).mono ()) ((Bd.pr b2').mono ()),λx=>?_⟩
    .nofun
    .rw[kU (kJ te.2) bt3 (),iL,kU b3 b2' ()];have h1:=v3 x;have h2:=v2 x;grind
def lx(s:Rat)(v:Nat->Rat)(j:Nat):Rat:=(if j=0 then 0 else v (j-1))-s*v j
theorem Cs{W:Nat->Int}{B:Int}{S f:Nat->Rat}{m:Nat}(hB:0<B)(hS:∀i,((W i:Int):Rat)=S i*(B:Rat))(m6:m<=6)(tf:Tp m f)(hD:∀i,i<=m->0<Dk W i)(orth:∀q:Nat->Rat,Bd (m-1) q->ip S q f (m-1) (m+1)=0):zU f (DF f):=by
 intro d e d1 d6 te ha hc;refine KQ m6 tf (λd e q d1 te bq v1=>?_) d1 d6 te ha hc;have bf:Bd (m+1) f:=tf.2;have fin:(∀x,EV f x=0)->False:=λh=>tf.1 (mC (bf.mono ()) (g:=λ_=>0) (λ_ _=>rfl) (λx=>by rw[h,jm (f:=λ_=>0) λ_=>rfl]) m)
 by_cases z:m-d+1-d=0
 .have q0:∀i,q i=0:=λi=>bq i ();exact fin λx=>by rw[v1,jm q0];grind
 obtain⟨u,hu⟩ : ∃u:Nat->Rat,u=λj=>pr q e (m-d+1-d) j:=⟨_,rfl⟩;have te':Bd (d+1) e:=te.2;have vu:∀x,EV u x=EV q x*EV e x:=λx=>by rw[hu,kU bq te' ()]
 have bu:Bd m u:=by
  rw[hu];exact λi hi=>fK te' _ _ ()
 obtain⟨p1,p2⟩:=pd hB hS m hD u bu;have bqk:Bd (m-1) q:=bq.mono ();have i1:ip S u u m m=ip S q f (m-1) (m+1):=DP bu bu bqk bf () () λx=>by rw[vu,v1];grind
 have u0:=p2 (by rw[i1,orth q bqk])
 exact fin λx=>by rw[v1,<-vu,jm u0];grind
theorem zA{W:Nat->Int}{B:Int}{S q:Nat->Rat}{k:Nat}(hB:0<B)(hS:∀i,((W i:Int):Rat)=S i*(B:Rat))(dn:Dk W k≠0)(m:Nat)(hm:m<=k):ip S q (Pk W k) m (k+1)=0:=by
 rw[rg dn () hS (Yp _)];exact aY m λi hi=>by rw[fV (),show ((0:Int):Rat)=0 from rfl];grind
theorem Ec{W:Nat->Int}{k:Nat}(dn:Dk W k≠0):Tp k (Pk W k):=⟨by rw[gp dn];decide,λi hi=>jX ()⟩
theorem Ck{W:Nat->Int}{B:Int}{S:Nat->Rat}{k:Nat}(hB:0<B)(hS:∀i,((W i:Int):Rat)=S i*(B:Rat))(k6:k<=6)(hD:∀i,i<=k->0<Dk W i):zU (Pk W k) (DF (Pk W k)):=by
 have dn:Dk W k≠0:=by have:=hD k (Yp _);nofun
 exact Cs hB hS k6 (Ec dn) hD λq _=>zA hB hS dn (k-1) ()
def sg(x:Rat):Int:=if 0<x then 1 else if x<0 then -1 else 0
def Sm(e x:Rat):Prop:=-e<=x/\x<=e
def Wi(R x:Rat):Prop:=-R<=x/\x<=R
def KT(R:Rat)(f:Rat->Rat):Prop:=∃B:Rat,0<B /\ ∀x,Wi R x->Sm B (f x)
def chg:Int->List Int->Nat
 | _,[]=>0
 | l,s::r=>if s=0 then chg l r else (if s = -l then 1 else 0)+chg s r
def JE(R:Rat)(f g:Rat->Rat):Prop:=∃e:Rat,0<e /\ ∀x,Wi R x->Sm e (f x)->Sm e (g x)->False
def v1(f g:Rat->Rat)(x:Rat):Nat:=if sg (f x)*sg (g x) = -1 then 1 else 0
def Py(f:Rat->Rat):Prop:=∃l:List Rat,∀x,f x=eQ l x
theorem Py.congr{f g:Rat->Rat}(h:Py f)(e:∀x,g x=f x):Py g:=by
 obtain⟨l,h⟩:=h;exact⟨l,λx=>(e x).trans (h x)⟩
theorem Py.isP{f:Rat->Rat}(h:Py f):∃n,eZ n f:=by
 obtain⟨l,h⟩:=h;exact⟨l.length,l,Yp _,h⟩
theorem eZ.py{n:Nat}{f:Rat->Rat}(h:eZ n f):Py f:=by
 obtain⟨l,_,h⟩:=h;exact⟨l,h⟩
theorem Py.const(c:Rat):Py λ_=>c:=⟨[c],λx=>by show c=c+x*0;grind⟩
theorem Py.add{f g:Rat->Rat}(h:Py f)(k:Py g):Py λx=>f x+g x:=by
 obtain⟨m,hm⟩:=h.isP;obtain⟨n,hn⟩:=k.isP;exact ((hm.mono (Nat.le_max_left m n)).add (hn.mono (Nat.le_max_right m n))).py
theorem Py.shift{f:Rat->Rat}(h:Py f):Py λx=>x*f x:=by
 obtain⟨l,h⟩:=h;exact⟨0::l,λx=>by show x*f x=0+x*eQ l x;rw[h];grind⟩
theorem Py.sc{f:Rat->Rat}(h:Py f)(c:Rat):Py λx=>c*f x:=by
 obtain⟨n,hn⟩:=h.isP;exact (hn.sc c).py.congr λx=>by grind
theorem Py.mul{f g:Rat->Rat}(h:Py f)(k:Py g):Py λx=>f x*g x:=by
 obtain⟨l,h⟩:=h;have:∀l:List Rat,Py λx=>eQ l x*g x:=by
  intro l;induction l with
  | nil=>exact (Py.const 0).congr λx=>by show 0*g x=0;grind
  | cons a l ih=>exact ((k.sc a).add ih.shift).congr λx=>by show (a+x*eQ l x)*g x=a*g x+x*(eQ l x*g x);grind
 exact (this l).congr λx=>by rw[h]
theorem Py.sub{f g:Rat->Rat}(h:Py f)(k:Py g):Py λx=>f x-g x:=(h.add (k.sc (-1))).congr λx=>by grind
theorem AW{n:Nat}{u:Nat->Rat}(h:Bd n u)(l:n<=20):Py (EV u):=(eZ.of h l).py
def gU(F:List Int)(x:Rat):Rat:=EV (jy F) x
theorem AV{F:List Int}(h:F.length<=20):Py (gU F):=AW (jF F) h
theorem Dz(x:Rat):gU [] x=0:=jm (λi=>by show ((nz [] i:Int):Rat)=0;rw[bA (by simp)];rfl) x
theorem xy(c:Int)(x:Rat):gU [c] x=(c:Rat):=by
 unfold gU;rw[iO (n:=1) (jF [c]) ∅];show 0+jy [c] 0*1=_;show 0+((nz [c] 0:Int):Rat)*1=_;rw[show nz [c] 0=c from rfl]
 grind
theorem At{F Q G:List Int}(l:Q.length+G.length<=20)(e:∀k,nz F k=pz (nz Q) (nz G) Q.length k)(x:Rat):gU F x=gU Q x*gU G x:=by
 have:=wd (F:=F) (R:=[]) (S:=1) (T:=0) l (λk=>by rw[e k];nofun) x
 unfold gU;have c1:((1:Int):Rat)=1:=rfl;have c0:((0:Int):Rat)=0:=rfl;rw[c1,c0] at this;grind
inductive Di:Int->Int->List Int->List Int->List (List Int×List Int×Int×Int)->Prop
 | nil {x h:Int}{F G:List Int}:Di x h F G []
 | more {x h h' S T:Int}{F G R Q:List Int}{rows:List (List Int×List Int×Int×Int)}:G≠[]->S=nz G (G.length-1)^(F.length-G.length+1)->T=x*h^(F.length-G.length)->h'≠0->(F.length=G.length/\h'=h\/G.length<F.length/\h'*h^(F.length-G.length-1)=nz G (G.length-1)^(F.length-G.length))->Di (nz G (G.length-1)) h' G R rows->Di x h F G ((R,Q,T,S)::rows)
def zV(N:Nat)(u F:Nat->Int):Nat->Int:=λk=>if k<N then u k else F (k-N)
theorem gK{N k:Nat}{u F:Nat->Int}(h:k<N):zV N u F k=u k:=Yb h
theorem fZ{N k:Nat}{u F:Nat->Int}(h:N<=k):zV N u F k=F (k-N):=Yc ()
theorem wD{q w:Nat->Int}{m:Nat}(hw:∀i,m<=i->w i=0):∀n k,m+n<=k+1->pz q w n k=0
 | 0,_,_=>rfl
 | n+1,k,h=>by
  show pz q w n k+(if n<=k then q n*w (k-n) else 0)=0
  rw[wD hw n k ()];split
  .rw[hw _ (),Xi];rfl
  .rfl
theorem vF{N m:Nat}{q w G:Nat->Int}(hw:∀i,m<=i->w i=0)(k:Nat):∀n,m+n<=N+1->pz q (zV N w G) n k=zV N (pz q w n) (pz q G n) k
 | 0,_=>by
  show (0:Int)=if k<N then 0 else 0
  split<;>rfl
 | n+1,h=>by
  show pz q (zV N w G) n k+(if n<=k then q n*zV N w G (k-n) else 0)=_
  rw[vF hw k n ()];by_cases hk:k<N
  .rw[gK hk,gK hk,gK (show k-n<N by nofun)]
   rfl
  .rw[fZ (u:=pz q w n) (show N<=k by nofun),fZ (u:=pz q w (n+1)) (show N<=k by nofun)]
   show _=pz q G n (k-N)+(if n<=k-N then q n*G (k-N-n) else 0)
   rw[Yb (show n<=k by nofun)]
   by_cases hn:n<=k-N
   .rw[Yb hn,fZ (),show k-n-N=k-N-n by nofun]
   .rw[Yc hn,gK (),hw _ (),Xi]
theorem AN{f g:Nat->Int}{a b j k B:Nat}(h20:a+b-j<=20)(hb:b<=a)(jb:j<=b)(kj:k<=j)(hB:1<=B)(hf:∀i,(f i).natAbs<2^B)(hg:∀i,(g i).natAbs<2^B):(SR f g a b j k).natAbs<2^(87+20*B):=by
 by_cases h0:a+b-j=0
 .have:SR f g a b j k=1:=by
   unfold SR;rw[h0,show b-j=0 by nofun,show a-j=0 by nofun]
   have:Ej j k=[]:=List.length_eq_zero_iff.mp (by rw[tD kj];nofun)
   rw[show st (sh f) 0 0++(st (sh g) 0 0++Ej j k)=Ej j k from rfl,this]
   rfl
  rw[this];exact Nat.one_lt_two_pow ()
 obtain⟨C,hC⟩ : ∃C,C=2^B:=⟨_,rfl⟩;have c1:1<=C:=hC▸Nat.one_le_two_pow;have r:=wE (M:=a+b-j) (C:=C) (rows:=st (sh f) 0 (b-j)++(st (sh g) 0 (a-j)++Ej j k)) (Nat.mul_pos () c1) (λr hr i=>by
  rcases List.mem_append.mp hr with z|z
  .obtain⟨i',_,rfl⟩:=i3 z;exact sr (λi=>by have:=hf i;nofun) _ _
  .rcases List.mem_append.mp z with z|z
   .obtain⟨i',_,rfl⟩:=i3 z;exact sr (λi=>by have:=hg i;nofun) _ _
   .obtain⟨i',_,rfl⟩:=List.mem_map.mp z;unfold j8;split<;>simp<;>nofun) (vA (a+b-j))
 have hl:(st (sh f) 0 (b-j)++(st (sh g) 0 (a-j)++Ej j k)).length=a+b-j:=by
  rw[YB,YB,mh,mh,tD kj];nofun
 rw[hl] at r;have e1:((a+b-j)*C)^(a+b-j)<=(20*C)^20:=Yg (Nat.pow_le_pow_left (Nat.mul_le_mul_right _ ()) _) (YU () ());have e2:(20*C)^20<2^(87+20*B):=by
  rw[Nat.mul_pow,hC,<-Nat.pow_mul,YW,YK B 20];exact Nat.mul_lt_mul_of_pos_right ∅ Nat.one_le_two_pow
 unfold SR dt;nofun
def FY(N Z:Nat)(x h:Int)(F G u w:Nat->Int)(A B:Nat):Prop:=∃S1,nL S1 (zV N u F) (zV N w G) (A+N) (B+N) x h /\ ∀j k,N<=j->j<=B+N->k<=j->Bt Z (S1 j k)
theorem FY.first{N A B b:Nat}{F G u w:Nat->Int}(h:B<=A)(l:A+B+N<=20)(b1:1<=b)(bF:∀k,Bt b (F k))(bG:∀k,Bt b (G k))(bu:∀k,Bt b (u k))(bw:∀k,Bt b (w k)):FY N (87+20*b) 1 1 F G u w A B :=
 ⟨_,nL.first (),λj k hN hj hk=>AN () () hj hk b1 (λi=>by unfold zV;split;exact bu _;exact bF _) (λi=>by unfold zV;split;exact bw _;exact bG _)⟩
theorem FY.step{N Z A B m:Nat}{x h c:Int}{F G u w q r:Nat->Int}(I:FY N Z x h F G u w A B)(hN:0<N)(hB:1<=B)(hg:G B=c)(hc:c≠0)(g0:∀k,B<k->G k=0)(r0:∀k,B<=k->r k=0)(w0:∀k,m<=k->w k=0)(hm:m+(A-B+1)<=N+1)(u0:∀k,N<=k->u k=0)
  (e:∀k,c^(A-B+1)*F k=pz q G (A-B+1) k+x*h^(A-B)*r k) :
  ∃w':Nat->Int,(∀k,c^(A-B+1)*u k=pz q w (A-B+1) k+x*h^(A-B)*w' k)/\(∀k,Bt Z (w' k)) /\ ∀(d:Nat)(h':Int),d<B->(∀k,d<k->r k=0)->h'≠0->(A=B/\h'=h\/B<A/\h'*h^(A-B-1)=c^(A-B))->FY N Z c h' G r w w' B d:=by
 obtain⟨S1,I,bS⟩:=I;have ba:=I.ba;have hab:A+N-(B+N)=A-B:=();have hgp:zV N w G (B+N)=c:=by rw[fZ (),XA,hg]
 have g0p:∀k,B+N<k->zV N w G k=0:=λk hk=>by rw[fZ (),g0 _ ()]
 have up:∀k,N<=k->c^(A-B+1)*u k=pz q w (A-B+1) k:=λk hk=>by
  rw[u0 k hk,Xi,wD w0 _ _ ()]
 have rest:=λk (hk:k<B+N)=>I.rest (R:=zV N (λk=>c^(A-B+1)*u k-pz q w (A-B+1) k) λk=>x*h^(A-B)*r k) (q:=q) hgp hc g0p (λk hk=>by rw[fZ (),r0 _ (),Xi]) (λk=>by
  rw[hab,yl,vF w0 k _ hm];by_cases hk:k<N
  .rw[gK hk,gK hk,gK hk];nofun
  .rw[fZ (),fZ (),fZ ()];exact e _) k hk
 rw[hab] at rest;have ex:∀k,∃y:Int,c^(A-B+1)*u k=pz q w (A-B+1) k+x*h^(A-B)*y/\Bt Z y:=λk=>by
  by_cases hk:k<N
  .have p:=rest k ();rw[gK hk] at p;have bs:=bS (B+N-1) k () () ();rcases p with z|z
   .exact⟨_,by rw[<-z];nofun,bs⟩
   .exact⟨- S1 (B+N-1) k,by rw[Int.mul_neg,<-z];nofun,bs.pm (.inr rfl)⟩
  .exact⟨0,by rw[Xi,up k ()];nofun,hU⟩
 refine⟨λk=>(ex k).choose,λk=>(ex k).choose_spec.1,λk=>(ex k).choose_spec.2,λd h' hd rd n0 hh=>?_⟩;have hh':A+N=B+N/\h'=h\/B+N<A+N/\h'*h^(A+N-(B+N)-1)=c^(A+N-(B+N)):=by
  rw[hab];rcases hh with ⟨a,b⟩|⟨a,b⟩
  .exact .inl ⟨(),b⟩
  .exact .inr ⟨(),b⟩
 refine⟨S1,I.step (q:=q) (d:=d+N) hgp hc g0p (λk=>?_) (λk hk=>by rw[fZ (),rd _ ()]) () n0 hh',λj k hN hj hk=>bS j k hN () hk⟩
 rw[hab,yl,vF w0 k _ hm];by_cases hk:k<N
 .rw[gK hk,gK hk,gK hk];exact (ex k).choose_spec.1
 .rw[fZ (),fZ (),fZ ()];exact e _
theorem qc{c:Rat}{f:Nat->Rat}(x:Rat):EV (λk=>c*f k) x=c*EV f x:=by
 have:∀n,dY (λk=>c*f k) n x=c*dY f n x:=λn=>by
  induction n with
  | zero=>show (0:Rat)=c*0;grind
  | succ n ih =>
   show dY (λk=>c*f k) n x+c*f n*aJ x n=c*(dY f n x+f n*aJ x n);rw[ih];grind
 exact this 20
def Hn(f g:Rat->Rat)(w G:List Int):Prop:=∃V:Rat->Rat,Py V /\ ∀x,gU G x=gU w x*f x+V x*g x
theorem tM{F Q G R:List Int}{S T:Int}(l:Q.length+G.length<=20)(lF:F.length<=20)(lR:R.length<=20)(e:∀k,S*nz F k=pz (nz Q) (nz G) Q.length k+T*nz R k)(x:Rat):(S:Rat)*gU F x=gU Q x*gU G x+(T:Rat)*gU R x:=by
 have a:∀k,nz (lz 20 λk=>S*nz F k-T*nz R k) k=pz (nz Q) (nz G) Q.length k:=λk=>by
  by_cases hk:k<20
  .rw[mZ hk,e];nofun
  .rw[bA (by rw[aZ];nofun),wD (m:=G.length) (λi hi=>bA hi) _ _ ()]
 have b:=At l a x;have c:gU (lz 20 λk=>S*nz F k-T*nz R k) x=(S:Rat)*gU F x + -(T:Rat)*gU R x:=by
  have d:∀k,jy (lz 20 λk=>S*nz F k-T*nz R k) k=(S:Rat)*jy F k + -(T:Rat)*jy R k:=λk=>by
   show ((nz (lz 20 λk=>S*nz F k-T*nz R k) k:Int):Rat)=(S:Rat)*((nz F k:Int):Rat) + -(T:Rat)*((nz R k:Int):Rat);by_cases hk:k<20
   .rw[mZ hk,Rat.intCast_sub,Xa,Xa];grind
   .rw[bA (by rw[aZ];nofun),bA (show F.length<=k by nofun),bA (show R.length<=k by nofun)]
    have c0:((0:Int):Rat)=0:=rfl;rw[c0];grind
  unfold gU;rw[du d,mB];rw[qc,qc]
 rw[b] at c;grind
theorem Hn.step{f g:Rat->Rat}{u w v F G R Q:List Int}{S T:Int}(hF:Hn f g u F)(hG:Hn f g w G)(t0:T≠0)(lQ:Q.length<=9)(l1:F.length<=9/\G.length<=9/\R.length<=9)(l2:u.length<=9/\w.length<=9/\v.length<=20)(e:∀k,S*nz F k=pz (nz Q) (nz G) Q.length k+T*nz R k)(e2:∀k,S*nz u k=pz (nz Q) (nz w) Q.length k+T*nz v k):Hn f g v R:=by
 obtain⟨V,pV,eV⟩:=hF;obtain⟨W,pW,eW⟩:=hG;have c:=am t0;refine⟨λx=>(1/(T:Rat))*((S:Rat)*V x-gU Q x*W x),((pV.sc _).sub ((AV ()).mul pW)).sc _,λx=>?_⟩;have a:=tM () () () e x;have b:=tM () () () e2 x;rw[eV,eW] at a;show gU R x=gU v x*f x+1/(T:Rat)*((S:Rat)*V x-gU Q x*W x)*g x;have k:(T:Rat)*gU R x=(T:Rat)*(gU v x*f x)+((S:Rat)*V x-gU Q x*W x)*g x:=by
  have:(T:Rat)*gU v x=(S:Rat)*gU u x-gU Q x*gU w x:=⋯;grind
 grind
theorem mK{qs:List (Int×Int)}{ns:List Int}{D:Int}(c:∀k,((nz ns k:Int):Rat)=cf qs k*(D:Rat))(x:Rat):gU ns x=(D:Rat)*EV (cf qs) x:=by
 have:∀k,jy ns k=(D:Rat)*cf qs k:=λk=>by
  show ((nz ns k:Int):Rat)=_;rw[c];grind
 unfold gU;rw[du this,qc]
theorem Ek{rs:List (Int×Int)}{ns:List Int}{d:Int}(c:∀k,cf rs k=((nz ns k:Int):Rat)/(d:Rat))(x:Rat):EV (cf rs) x=1/(d:Rat)*gU ns x:=by
 have:∀k,cf rs k=1/(d:Rat)*jy ns k:=λk=>by
  rw[c];show _=_*((nz ns k:Int):Rat);grind
 rw[du this,qc];rfl
theorem DV(x:Rat):EV (cf []) x=0:=by
 rw[iO (n:=0) (λk _=>aK (by simp)) ∅]
 rfl
def Hx(p:Nat->Rat)(x:Rat):Nat->Rat
 | 0=>0
 | j+1=>x*Hx p x j+p j
def pI(g p:Nat->Rat)(m:Nat)(k:Nat):Rat:=aj g (λj=>p (k+j)) m
theorem BA{g p:Nat->Rat}{x:Rat}{m:Nat}:∀i,aj g (λj=>Hx p x (i+j)) m=aJ x i*aj g (Hx p x) m+Hx (pI g p m) x i
 | 0=>by
  have:aj g (λj=>Hx p x (0+j)) m=aj g (Hx p x) m:=aA m (λ_ _=>rfl) (λi _=>by rw[Xo])
  rw[this];show _=1*_+0;grind
 | i+1=>by
  have:aj g (λj=>Hx p x (i+1+j)) m=aj g (λj=>p (i+j)+x*Hx p x (i+j)) m:=aA m (λ_ _=>rfl) (λj _=>by
   rw[show i+1+j=i+j+1 by nofun]
   show x*Hx p x (i+j)+p (i+j)=_;grind)
  rw[this,kZ,BA i];show pI g p m i+x*(aJ x i*aj g (Hx p x) m+Hx (pI g p m) x i)=aJ x i*x*aj g (Hx p x) m+(x*Hx (pI g p m) x i+pI g p m i);grind
theorem lC{f g:Nat->Rat}{h:Nat->Rat}{m:Nat}:∀n,aj f (λi=>aj g (λj=>h (i+j)) m) n=aj g (λj=>aj f (λi=>h (j+i)) n) m
 | 0=>by
  show (0:Rat)=aj g (λ_=>0) m;rw[aY m λi _=>by grind]
 | n+1=>by
  show aj f (λi=>aj g (λj=>h (i+j)) m) n+f n*aj g (λj=>h (n+j)) m=aj g (λj=>aj f (λi=>h (j+i)) n+f n*h (j+n)) m;rw[lC n,kZ];congr 2
  exact aA m (λ_ _=>rfl) (λj _=>by rw[Nat.add_comm])
theorem sG{f:Nat->Rat}{c:Rat}{h:Nat->Rat}:∀n,aj f (λi=>h i*c) n=aj f h n*c
 | 0=>by show (0:Rat)=0*c;grind
 | n+1=>by
  show aj f (λi=>h i*c) n+f n*(h n*c)=(aj f h n+f n*h n)*c;rw[sG n];grind
theorem zQ{f g p:Nat->Rat}{x:Rat}{m n:Nat}:aj f (Hx (pI g p m) x) n+aj f (aJ x) n*aj g (Hx p x) m=aj g (Hx (pI f p n) x) m+aj g (aJ x) m*aj f (Hx p x) n:=by
 have a:=lC (f:=f) (g:=g) (h:=Hx p x) (m:=m) n;have e1:aj f (λi=>aj g (λj=>Hx p x (i+j)) m) n=aj f (aJ x) n*aj g (Hx p x) m+aj f (Hx (pI g p m) x) n:=by
  rw[<-sG,<-iI];exact aA n (λ_ _=>rfl) (λi _=>BA i)
 have e2:aj g (λi=>aj f (λj=>Hx p x (i+j)) n) m=aj g (aJ x) m*aj f (Hx p x) n+aj g (Hx (pI f p n) x) m:=by
  rw[<-sG,<-iI];exact aA m (λ_ _=>rfl) (λi _=>BA i)
 rw[e1,e2] at a;grind
theorem eZ.shift{n:Nat}{f:Rat->Rat}(h:eZ n f):eZ (n+1) λx=>x*f x:=by
 obtain⟨l,e⟩ : ∃g,g=λx=>(x-0)*f x:=⟨_,rfl⟩;obtain⟨l',a,b⟩:=h.mulX 0;exact⟨l',a,λx=>by rw[<-b];grind⟩
theorem eZ.congr{n:Nat}{f g:Rat->Rat}(h:eZ n f)(e:∀x,g x=f x):eZ n g:=by
 obtain⟨l,a,b⟩:=h;exact⟨l,a,λx=>by rw[e,b]⟩
theorem eZ.cst(c:Rat):eZ 1 λ_=>c:=⟨[c],Yp _,λx=>by show c=c+x*0;grind⟩
theorem eZ.nul:eZ 0 λ_=>0:=⟨[],Yp _,λ_=>rfl⟩
theorem eZ.mul{n:Nat}{g:Rat->Rat}(hg:eZ n g):∀l:List Rat,eZ (l.length+n) λx=>eQ l x*g x
 | []=>(eZ.nul.mono (YT _)).congr λx=>by show 0*g x=0;grind
 | a::l=>by
  have:=((hg.sc a).mono (show n<=(a::l).length+n by nofun)).add ((eZ.mul hg l).shift.mono (show l.length+n+1<=(a::l).length+n by rw[Xm];nofun))
  exact this.congr λx=>by
   show (a+x*eQ l x)*g x=g x*a+x*(eQ l x*g x);grind
theorem pK(a:Rat)(x:Rat):∀l:List Rat,eQ (l++[a]) x=eQ l x+a*aJ x l.length
 | []=>by show a+x*0=0+a*1;grind
 | b::l=>by
  show b+x*eQ (l++[a]) x=b+x*eQ l x+a*(aJ x l.length*x);rw[pK a x l];grind
theorem rC(x:Rat):∀n,eQ (List.replicate n 0) x=0
 | 0=>rfl
 | n+1=>by
  show 0+x*eQ (List.replicate n 0) x=0;rw[rC x n];grind
theorem yA(x:Rat)(n:Nat):∀l:List Rat,eQ (l++List.replicate n 0) x=eQ l x
 | []=>rC x n
 | a::l=>by
  show a+x*eQ (l++List.replicate n 0) x=a+x*eQ l x;rw[yA x n l]
theorem yk{d:Nat}{c:Rat}(h:eZ d λx=>c*aJ x d):c=0:=by
 obtain⟨l,ll,e⟩:=h;have z:∀x,eQ ((l++List.replicate (d-l.length) 0)++[-c]) x=0:=λx=>by
  rw[pK,yA,<-e,YB,YD,show l.length+(d-l.length)=d by nofun]
  grind
 have:=pC _ z (-c) (by simp)
 grind
theorem eZ.top{d:Nat}{f:Rat->Rat}(h:eZ (d+1) f):∃(c:Rat)(g:Rat->Rat),eZ d g /\ ∀x,f x=g x+c*aJ x d:=by
 obtain⟨l,ll,e⟩:=h;rcases Xp d l.length with z|z
 .have hl:l≠[]:=λy=>by rw[y] at z;simp at z
  refine⟨l.getLast hl,eQ l.dropLast,⟨l.dropLast,by rw[List.length_dropLast];nofun,λ_=>rfl⟩,λx=>?_⟩
  have:=pK (l.getLast hl) x l.dropLast;rw[List.dropLast_concat_getLast,List.length_dropLast,show l.length-1=d by nofun] at this
  rw[e,this]
 .exact⟨0,f,⟨l,z,e⟩,λx=>by grind⟩
theorem eZ.pow{n:Nat}{f:Rat->Rat}(h:eZ n f):∀d,eZ (n+d) λx=>aJ x d*f x
 | 0=>h.congr λx=>by show 1*f x=f x;grind
 | d+1=>(h.pow d).shift.congr λx=>by
  show aJ x d*x*f x=x*(aJ x d*f x);grind
theorem yn{n:Nat}{P R r:Rat->Rat}(hP:eZ n P)(hr:eZ n r)(hR:∀x,R x=aJ x n+r x):∀(d:Nat)(C:Rat->Rat),eZ d C->(∀x,P x=C x*R x) -> ∀x,C x=0
 | 0,C,⟨l,ll,e⟩,_,x=>by
  have hl:l=[]:=List.length_eq_zero_iff.mp ();rw[e,hl];rfl
 | d+1,C,h,e,x=>by
  obtain⟨c,C0,p0,e0⟩:=h.top;obtain⟨l0,ll0,el0⟩:=id p0;have k:eZ (d+n) λx=>c*aJ x (d+n):=by
   have a1:=hP.mono (show n<=d+n by nofun)
   have a2:=((p0.pow n).sc (-1));have a3:=(((hr.mul l0).mono (show l0.length+n<=d+n by nofun)).sc (-1))
   have a4:eZ (d+n) λx=>aJ x d*r x * -c:=by
    have:=(hr.pow d).sc (-c);rw[Nat.add_comm] at this;exact this
   exact (((a1.add a2).add a3).add a4).congr λx=>by
    have q:=e x;rw[e0,hR] at q;show c*aJ x (d+n)=P x+aJ x n*C0 x * -1+eQ l0 x*r x * -1+aJ x d*r x * -c;rw[qf,q,<-el0];grind
  have c0:=yk k;have e1:∀x,C x=C0 x:=λx=>by rw[e0,c0];grind
  rw[e1];exact yn hP hr hR d C0 p0 (λx=>by rw[<-e1,e]) x
theorem AB{p:Nat->Rat}:∀i,eZ i λx=>Hx p x i
 | 0=>eZ.nul
 | i+1=>((AB i).shift.add ((eZ.cst (p i)).mono ()))
theorem AD{p:Nat->Rat}:∀i,∃L:Rat->Rat,eZ i L /\ ∀x,Hx p x (i+1)=L x+p 0*aJ x i
 | 0=>⟨_,eZ.nul,λx=>by show x*0+p 0=0+p 0*1;grind⟩
 | i+1=>by
  obtain⟨L,h,e⟩:=AD (p:=p) i;refine⟨_,h.shift.add ((eZ.cst (p (i+1))).mono ()),λx=>?_⟩;show x*Hx p x (i+1)+p (i+1)=x*L x+p (i+1)+p 0*(aJ x i*x);rw[e];grind
theorem k9{R p:Nat->Rat}:∀M,eZ M λx=>aj R (Hx p x) (M+1)
 | 0=>eZ.nul.congr λx=>by show 0+R 0*0=0;grind
 | M+1=>by
  have:=((k9 (R:=R) (p:=p) M).mono (show M<=M+1 by nofun)).add ((AB (p:=p) (M+1)).sc (R (M+1)))
  exact this.congr λx=>by
   show aj R (Hx p x) (M+1)+R (M+1)*Hx p x (M+1)=aj R (Hx p x) (M+1)+Hx p x (M+1)*R (M+1);grind
theorem oh{p:Nat->Rat}{x:Rat}:∀m,(∀i,i<m->p i=0)->Hx p x m=0
 | 0,_=>rfl
 | m+1,h=>by
  show x*Hx p x m+p m=0;rw[oh m λi hi=>h i (),h m ()];grind
theorem yY{p:Nat->Rat}{x:Rat}{m:Nat}(h:∀i,i<m->p i=0):∀i,Hx p x (m+i)=Hx (λk=>p (m+k)) x i
 | 0=>oh m h
 | i+1=>by
  show x*Hx p x (m+i)+p (m+i)=_;rw[yY h i];rfl
theorem qw{R δ:Nat->Rat}{n:Nat}(hR:R n=1)(h:∀x,aj R (Hx δ x) (n+1)=0):∀m,m<=n -> ∀i,i<m->δ i=0
 | 0,_,i,hi=>by nofun
 | m+1,hm,i,hi=>by
  have ih:=qw hR h m ();rcases Xp i m with z|z
  .exact ih i z
  obtain rfl:i=m:=();obtain⟨M,hM⟩ : ∃M,n=i+M+1:=⟨n-i-1,()⟩;have e:∀x,aj (λk=>R (i+k)) (Hx (λk=>δ (i+k)) x) (M+1+1)=0:=λx=>by
   have:=h x;rw[show n+1=i+(M+2) by nofun] at this
   have sp:∀b,aj R (Hx δ x) (i+b)=aj R (Hx δ x) i+aj (λk=>R (i+k)) (λk=>Hx δ x (i+k)) b:=λb=>by
    induction b with
    | zero=>show aj R (Hx δ x) i=aj R (Hx δ x) i+0;grind
    | succ b ib =>
     show aj R (Hx δ x) (i+b)+R (i+b)*Hx δ x (i+b)=aj R (Hx δ x) i+(aj (λk=>R (i+k)) (λk=>Hx δ x (i+k)) b+R (i+b)*Hx δ x (i+b));rw[ib];grind
   rw[sp,aY i λj hj=>by rw[oh j λa ha=>ih a ()];grind] at this
   rw[aA (M+2) (λ_ _=>rfl) (λk _=>yY ih k)] at this;grind
  obtain⟨L,hL,eL⟩:=AD (p:=λk=>δ (i+k)) M;have k:eZ M λx=>δ i*aJ x M:=by
   have a:=((k9 (R:=λk=>R (i+k)) (p:=λk=>δ (i+k)) M).sc (-1)).add (hL.sc (-1));exact a.congr λx=>by
    have q:=e x;have q:aj (λk=>R (i+k)) (Hx (λk=>δ (i+k)) x) (M+1)+R (i+(M+1))*Hx (λk=>δ (i+k)) x (M+1)=0:=q;rw[eL,show i+(M+1)=n by nofun,hR] at q
    have d0:δ (i+0)=δ i:=rfl;rw[d0] at q;show δ i*aJ x M=aj (λk=>R (i+k)) (Hx (λk=>δ (i+k)) x) (M+1) * -1+L x * -1;grind
  exact yk k
theorem Bp{s q:Nat->Rat}{x:Rat}:∀i,Hx (λk=>s k-q k) x i=Hx s x i-Hx q x i
 | 0=>by show (0:Rat)=0-0;grind
 | i+1=>by
  show x*Hx (λk=>s k-q k) x i+(s i-q i)=x*Hx s x i+s i-(x*Hx q x i+q i);rw[Bp i];grind
theorem zG{n N:Nat}{R w q p:Nat->Rat}{V D:Rat->Rat}(hR:R n=1)(rec':∀k,aj R (λj=>p (k+j)) (n+1)=0)(hD:∀x,aj R (Hx p x) (n+1)=D x)(hV:Py V)
  (e:∀x,aj w (aJ x) n*D x=aj R (Hx q x) (n+1)+V x*aj R (aJ x) (n+1))(orth:∀k,k+n<N->aj R (λj=>q (k+j)) (n+1)=0):∀k,k<N->aj w (λj=>p (k+j)) n=q k:=by
 have h1:∀x,aj R (Hx (λk=>pI w p n k-q k) x) (n+1)=(V x-aj w (Hx p x) n)*aj R (aJ x) (n+1):=λx=>by
  have b:=zQ (f:=R) (g:=w) (p:=p) (x:=x) (m:=n) (n:=n+1);have z:aj w (Hx (pI R p (n+1)) x) n=0:=aY n λi _=>by rw[oh (p:=pI R p (n+1)) i λa _=>rec' a];grind
  have s:aj R (Hx (λk=>pI w p n k-q k) x) (n+1)=aj R (Hx (pI w p n) x) (n+1)-aj R (Hx q x) (n+1):=by
   have:aj R (Hx (λk=>pI w p n k-q k) x) (n+1)=aj R (λi=>Hx (pI w p n) x i + -1*Hx q x i) (n+1):=aA (n+1) (λ_ _=>rfl) (λi _=>by rw[Bp];grind)
   rw[this,kZ];grind
  have:=e x;rw[z,hD] at b;rw[s];grind
 obtain⟨lv,hlv⟩:=hV;have hA:eZ n λx=>aj w (Hx p x) n:=by
  cases n with
  | zero=>exact eZ.nul
  | succ m=>exact (k9 m).mono ()
 have hC:eZ (lv.length+n) λx=>V x-aj w (Hx p x) n:=by
  have:=((show eZ lv.length (eQ lv) from ⟨lv,Yp _,λ_=>rfl⟩).mono (show lv.length<=lv.length+n by nofun)).add ((hA.sc (-1)).mono (show n<=lv.length+n by nofun))
  exact this.congr λx=>by rw[hlv];grind
 have hr:eZ n λx=>aj R (aJ x) n:=by
  have:∀m,eZ m λx=>aj R (aJ x) m:=λm=>by
   induction m with
   | zero=>exact eZ.nul
   | succ m ih =>
    have:=(ih.mono (show m<=m+1 by nofun)).add (((eZ.cst (R m)).pow m).mono (show 1+m<=m+1 by nofun))
    exact this.congr λx=>by
     show aj R (aJ x) m+R m*aJ x m=aj R (aJ x) m+aJ x m*R m;grind
  exact this n
 have c0:=yn (k9 (R:=R) (p:=λk=>pI w p n k-q k) n) hr (R:=λx=>aj R (aJ x) (n+1)) (λx=>by
  show aj R (aJ x) n+R n*aJ x n=_;rw[hR];grind) _ _ hC h1
 have d0:=qw (δ:=λk=>pI w p n k-q k) hR (λx=>by rw[h1,c0];grind) n (Yp _)
 have rs:∀k,aj R (λi=>pI w p n (k+i)) (n+1)=0:=λk=>by
  have a:=lC (f:=R) (g:=w) (h:=λi=>p (k+i)) (m:=n) (n+1);have e1:aj R (λi=>pI w p n (k+i)) (n+1)=aj R (λi=>aj w (λj=>p (k+(i+j))) n) (n+1):=aA (n+1) (λ_ _=>rfl) (λi _=>aA n (λ_ _=>rfl) (λj _=>by rw[Xt]))
  rw[e1,a];exact aY n λj _=>by
   have:=rec' (k+j);rw[aA (n+1) (f':=R) (g':=λi=>p (k+j+i)) (λ_ _=>rfl) (λi _=>by rw[Xt])]
   rw[this];grind
 have all:∀m k,k<m->k<N->pI w p n k=q k:=λm=>by
  induction m with
  | zero=>intro k hk;nofun
  | succ m ih =>
   intro k hk hN;rcases Xp k n with z|z
   .have:=d0 k z;grind
   .obtain⟨j,rfl⟩ : ∃j,k=j+n:=⟨k-n,()⟩;have a:=rs j;have b:=orth j hN;have a:aj R (λi=>pI w p n (j+i)) n+R n*pI w p n (j+n)=0:=a;have b:aj R (λi=>q (j+i)) n+R n*q (j+n)=0:=b;rw[aA n (f':=R) (g':=λi=>q (j+i)) (λ_ _=>rfl) (λi hi=>ih (j+i) () ()),hR] at a;rw[hR] at b;grind
 exact λk hk=>all (k+1) k () hk
theorem Br{q:Nat->Rat}{x:Rat}:∀m,aj (aJ x) (λk=>q (m-k)) (m+1)=Hx q x (m+1)
 | 0=>by show 0+1*q 0=x*0+q 0;grind
 | m+1=>by
  have s:aj (λi=>aJ x (i+1)) (λi=>q (m+1-(i+1))) (m+1)=x*aj (aJ x) (λk=>q (m-k)) (m+1):=by
   rw[<-iB];refine aA (m+1) (λi _=>?_) (λi _=>by rw[Nat.add_sub_add_right])
   show aJ x i*x=x*aJ x i;grind
  rw[qh,s,Br m];show 1*q (m+1)+x*Hx q x (m+1)=x*Hx q x (m+1)+q (m+1);grind
theorem pH{R q:Nat->Rat}{x:Rat}:∀m,aj (λk=>aj (λt=>R (k+1+t)) q (m-k)) (aJ x) m=aj R (Hx q x) (m+1)
 | 0=>by show (0:Rat)=0+R 0*0;grind
 | m+1=>by
  have s:aj (λk=>aj (λt=>R (k+1+t)) q (m+1-k)) (aJ x) (m+1)=aj (λk=>aj (λt=>R (k+1+t)) q (m-k)) (aJ x) (m+1)+R (m+1)*aj (aJ x) (λk=>q (m-k)) (m+1):=by
   rw[uZ (f:=aJ x),<-iB,<-jT];refine aA (m+1) (λk hk=>?_) (λ_ _=>rfl);rw[show m+1-k=m-k+1 by nofun]
   show aj (λt=>R (k+1+t)) q (m-k)+R (k+1+(m-k))*q (m-k)=_;rw[show k+1+(m-k)=m+1 by nofun]
  have z:aj (λk=>aj (λt=>R (k+1+t)) q (m-k)) (aJ x) (m+1)=aj (λk=>aj (λt=>R (k+1+t)) q (m-k)) (aJ x) m:=by
   show _+aj _ q (m-m)*aJ x m=_;rw[XB];show _+0*aJ x m=_;grind
  rw[s,z,pH m,Br];rfl
theorem lJ{f:Nat->Rat}{x:Rat}:∀n,dY f n x=aj f (aJ x) n
 | 0=>rfl
 | n+1=>by
  show dY f n x+f n*aJ x n=_;rw[lJ n];rfl
def GR(rs qs ws:List (Int×Int)):Prop:=∃V:Rat->Rat,Py V /\ ∀x,aj (cf ws) (aJ x) (rs.length-1)*EV (DF (cf rs)) x=aj (cf rs) (Hx (cf qs) x) rs.length+V x*aj (cf rs) (aJ x) rs.length
theorem GR.of{rs qs ws us:List (Int×Int)}(r0:rs≠[])(lr:rs.length<=7)(lw:ws.length<rs.length)(lu:us.length<rs.length)(eu:∀k,k<rs.length-1->cf us k=aj (cf (rs.drop (k+1))) (cf qs) (rs.drop (k+1)).length)(h:∃V:Rat->Rat,Py V /\ ∀x,EV (cf ws) x*EV (DF (cf rs)) x=EV (cf us) x+V x*EV (cf rs) x):GR rs qs ws:=by
 obtain⟨V,pV,e⟩:=h;have l0:=List.length_pos_iff.mpr r0;refine⟨V,pV,λx=>?_⟩;have a:=e x;rw[iO (f:=cf ws) (n:=rs.length-1) (λk hk=>aK ()) (),iO (f:=cf rs) (n:=rs.length) (λk hk=>aK hk) (),iO (f:=cf us) (n:=rs.length-1) (λk hk=>aK ()) (),lJ,lJ,lJ] at a;have b:aj (cf us) (aJ x) (rs.length-1)=aj (cf rs) (Hx (cf qs) x) rs.length:=by
  have c:=pH (R:=cf rs) (q:=cf qs) (x:=x) (rs.length-1);rw[show rs.length-1+1=rs.length by nofun] at c
  rw[<-c];refine aA _ (λk hk=>?_) (λ_ _=>rfl);rw[eu k hk,YE,show rs.length-(k+1)=rs.length-1-k by nofun]
  exact aA _ (λt _=>oo) (λ_ _=>rfl)
 rw[b] at a;exact a
def g6(us rs:Nat->Rat)(d:Nat)(T:Nat->Rat)(k:Nat):Prop:=T k=(if k<d then us (d-1-k) else 0)-aj (λb=>rs (d-1-b)) (λb=>T (k-1-b)) (min k d)
def nj(us rs:Nat->Rat)(d:Nat):Nat->Nat->Rat
 | 0=>λ_=>0
 | n+1=>λk=>if k<n then nj us rs d n k else (if n<d then us (d-1-n) else 0)-aj (λb=>rs (d-1-b)) (λb=>nj us rs d n (n-1-b)) (min n d)
theorem oG{us rs:Nat->Rat}{d n:Nat}:∀m k,k<n->nj us rs d (n+m) k=nj us rs d n k
 | 0,_,_=>rfl
 | m+1,k,h=>by
  show (if k<n+m then nj us rs d (n+m) k else _)=_
  rw[Yb (),oG m k h]
theorem Fy(us rs:Nat->Rat)(d:Nat):∃T:Nat->Rat,∀k,g6 us rs d T k:=by
 refine⟨λk=>nj us rs d (k+1) k,λk=>?_⟩;unfold g6;show (if k<k then _ else _)=_
 rw[Yc ()];congr 1
 refine aA _ (λ_ _=>rfl) (λb hb=>?_);show nj us rs d k (k-1-b)=nj us rs d (k-1-b+1) (k-1-b);have:=oG (us:=us) (rs:=rs) (d:=d) (n:=k-1-b+1) b (k-1-b) ();rw[show k-1-b+1+b=k by nofun] at this
 exact this
theorem rm{us rs T T':Nat->Rat}{d n:Nat}(h:∀k,k<n->g6 us rs d T k)(h':∀k,k<n->g6 us rs d T' k):∀m k,k<m->k<n->T k=T' k
 | 0,_,h,_=>by nofun
 | m+1,k,hm,hn=>by
  rw[h k hn,h' k hn];congr 1
  exact aA _ (λ_ _=>rfl) (λb hb=>rm h h' m _ () ())
theorem vy{us rs T:Nat->Rat}{d:Nat}(one:rs d=1)(h:∀k,g6 us rs d T k)(k:Nat):aj rs (λj=>T (k+j)) (d+1)=0:=by
 have a:=h (k+d);unfold g6 at a;rw[Yc (),show min (k+d) d=d by nofun] at a
 have b:aj (λb=>rs (d-1-b)) (λb=>T (k+d-1-b)) d=aj rs (λj=>T (k+j)) d:=by
  rw[<-sE (f:=rs) (g:=λj=>T (k+j))];exact aA d (λ_ _=>rfl) (λb hb=>by rw[show k+(d-1-b)=k+d-1-b by nofun])
 rw[b] at a;show aj rs (λj=>T (k+j)) d+rs d*T (k+d)=0;rw[one];grind
theorem wL{us rs T:Nat->Rat}{d:Nat}(one:rs d=1)(h:∀k,g6 us rs d T k)(x:Rat):aj rs (Hx T x) (d+1)=aj us (aJ x) d:=by
 rw[<-pH];refine aA d (λk hk=>?_) (λ_ _=>rfl);obtain⟨m,hm⟩ : ∃m,d-k=m+1:=⟨d-1-k,()⟩;have a:=h m;unfold g6 at a;rw[Yb (),show min m d=m by nofun,show d-1-m=k by nofun] at a
 have b:aj (λb=>rs (d-1-b)) (λb=>T (m-1-b)) m=aj (λt=>rs (k+1+t)) T m:=by
  rw[<-sE (f:=λt=>rs (k+1+t)) (g:=T)];exact aA m (λb hb=>by rw[show k+1+(m-1-b)=d-1-b by nofun]) (λ_ _=>rfl)
 rw[b] at a;rw[hm];show aj (λt=>rs (k+1+t)) T m+rs (k+1+m)*T m=us k;rw[show k+1+m=d by nofun,one]
 grind
theorem GR.sums{rs qs ws:List (Int×Int)}{d:Nat}{us T:Nat->Rat}(h:GR rs qs ws)(lr:rs.length=d+1)(l20:d<=18)(one:cf rs d=1)(hu:∀k,us k=((k+1:Nat):Int)*cf rs (k+1))(hT:∀k,g6 us (cf rs) d T k)(orth:∀k,k+d<qs.length->aj (cf rs) (λj=>cf qs (k+j)) (d+1)=0):∀k,k<qs.length->aj (cf ws) (λj=>T (k+j)) d=cf qs k:=by
 obtain⟨V,pV,e⟩:=h;refine zG (R:=cf rs) (D:=λx=>EV (DF (cf rs)) x) (V:=V) one (vy one hT) (λx=>?_) pV (λx=>?_) orth
 .rw[wL one hT,iO (f:=DF (cf rs)) (n:=d) (λk hk=>?_) (),lJ]
  .exact aA d (λk _=>hu k) (λ_ _=>rfl)
  .unfold DF;rw[aK ()];grind
 .have:=e x;rw[lr,XA] at this;exact this
theorem qG{us rs T w:Nat->Rat}{d n:Nat}(one:rs d=1)(h:∀k,g6 us rs d T k)(k:Nat):aj rs (λi=>aj w (λj=>T (k+i+j)) n) (d+1)=0:=by
 have a:=lC (f:=rs) (g:=w) (h:=λi=>T (k+i)) (m:=n) (d+1);have e1:aj rs (λi=>aj w (λj=>T (k+i+j)) n) (d+1)=aj rs (λi=>aj w (λj=>T (k+(i+j))) n) (d+1):=aA (d+1) (λ_ _=>rfl) (λi _=>aA n (λ_ _=>rfl) (λj _=>by rw[Xt]))
 rw[e1,a];exact aY n λj _=>by
  rw[aA (d+1) (f':=rs) (g':=λi=>T (k+j+i)) (λ_ _=>rfl) (λi _=>by rw[Xt]),vy one h (k+j)]
  grind
def Ad(S:Nat->Rat)(n:Nat):Prop:=∀f:Nat->Rat,(∀i,n<=i->f i=0)->(∃i,f i≠0)->0<ip S f f n n
theorem vY{W:Nat->Int}{B:Int}{S:Nat->Rat}{n:Nat}(hB:0<B)(hS:∀i,((W i:Int):Rat)=S i*(B:Rat))(hD:∀i,i<=n->0<Dk W i):Ad S n:=λf hf ⟨i,hi⟩=>by
 obtain⟨a,b⟩:=pd hB hS n hD f hf;rcases Rat.le_iff_lt_or_eq.mp a with z|z
 .exact z
 .exact absurd (b z.symm i) hi
theorem xk{S T u v:Nat->Rat}{a b:Nat}(h:∀i,i+1<a+b->S i=T i):ip S u v a b=ip T u v a b:=by
 unfold ip;exact aA a (λ_ _=>rfl) λi hi=>aA b (λ_ _=>rfl) λj hj=>h (i+j) ()
theorem Ad.congr{S T:Nat->Rat}{n:Nat}(h:Ad S n)(e:∀i,i+1<n+n->T i=S i):Ad T n:=λf hf hz=>by
 rw[xk e];exact h f hf hz
theorem Ad.less{S:Nat->Rat}{m n:Nat}(h:Ad S n)(hm:m<=n):Ad S m:=λf hf hz=>by
 have e:ip S f f n n=ip S f f m m:=by
  rw[xQ hf hm,eU,xQ hf hm,eU]
 rw[<-e];exact h f (λi hi=>hf i ()) hz
theorem wb{W:Nat->Int}{B:Int}{S:Nat->Rat}{k:Nat}(dn:Dk W k≠0)(hB:B≠0)(hS:∀i,((W i:Int):Rat)=S i*(B:Rat)):ip S (Pk W k) (Pk W k) (k+1) (k+1)=((Dk W (k+1):Int):Rat)/(((Dk W k:Int):Rat)*(B:Rat)):=by
 rw[rg dn hB hS (Yp _)];show aj (Pk W k) _ k+Pk W k k*(((Lq W k k:Int):Rat)/_)=_;rw[aY k λi hi=>by rw[fV hi,show ((0:Int):Rat)=0 from rfl];grind,dQ,gp dn]
 grind
theorem FK{W:Nat->Int}{B:Int}{S:Nat->Rat}{n:Nat}(hB:0<B)(hS:∀i,((W i:Int):Rat)=S i*(B:Rat))(h:Ad S n):∀i,i<=n->0<Dk W i:=λi=>by
 induction i with
 | zero=>intro _;rw[Ah];decide
 | succ i ih =>
  intro hi;have di:=ih ();have dn:Dk W i≠0:=();have top:Pk W i i=1:=by
   show ((qk W i i:Int):Rat)/((Dk W i:Int):Rat)=1;rw[fh];have:=am dn;grind
  have p:=h.less (show i+1<=n by nofun) (Pk W i) (λj hj=>by
   show ((qk W i j:Int):Rat)/_=0;rw[dE ()];have c0:((0:Int):Rat)=0:=rfl;rw[c0];grind) ⟨i,by rw[top];decide⟩
  rw[wb dn () hS] at p;have cB:(0:Rat)<(B:Rat):=Rat.intCast_pos.mpr hB;have cD:(0:Rat)<((Dk W i:Int):Rat):=Rat.intCast_pos.mpr di;have cc:=Xy cD cB;have q:=Xy p cc;rw[Rat.div_mul_cancel ⋯] at q;exact Rat.intCast_pos.mp q
end L2
set_option maxHeartbeats 8000000
namespace M
open PySem L2
open PySem.W (nsIn keepIn codeIn fnOf)
inductive X2 {A0 A1:Type}(p:A0->A1->Prop):Prop
 | mk (a0:A0)(a1:A1)(h:p a0 a1):X2 p
inductive X3 {A0 A1 A2:Type}(p:A0->A1->A2->Prop):Prop
 | mk (a0:A0)(a1:A1)(a2:A2)(h:p a0 a1 a2):X3 p
inductive X4 {A0 A1 A2 A3:Type}(p:A0->A1->A2->A3->Prop):Prop
 | mk (a0:A0)(a1:A1)(a2:A2)(a3:A3)(h:p a0 a1 a2 a3):X4 p
inductive X5 {A0 A1 A2 A3 A4:Type}(p:A0->A1->A2->A3->A4->Prop):Prop
 | mk (a0:A0)(a1:A1)(a2:A2)(a3:A3)(a4:A4)(h:p a0 a1 a2 a3 a4):X5 p
inductive X6 {A0 A1 A2 A3 A4 A5:Type}(p:A0->A1->A2->A3->A4->A5->Prop):Prop
 | mk (a0:A0)(a1:A1)(a2:A2)(a3:A3)(a4:A4)(a5:A5)(h:p a0 a1 a2 a3 a4 a5):X6 p
inductive X7 {A0 A1 A2 A3 A4 A5 A6:Type}(p:A0->A1->A2->A3->A4->A5->A6->Prop):Prop
 | mk (a0:A0)(a1:A1)(a2:A2)(a3:A3)(a4:A4)(a5:A5)(a6:A6)(h:p a0 a1 a2 a3 a4 a5 a6):X7 p
inductive X8 {A0 A1 A2 A3 A4 A5 A6 A7:Type}(p:A0->A1->A2->A3->A4->A5->A6->A7->Prop):Prop
 | mk (a0:A0)(a1:A1)(a2:A2)(a3:A3)(a4:A4)(a5:A5)(a6:A6)(a7:A7)(h:p a0 a1 a2 a3 a4 a5 a6 a7):X8 p
inductive KA {A0 A1 A2 A3 A4 A5 A6 A7 A8 A9 A10 A11 A12 A13:Type}(p:A0->A1->A2->A3->A4->A5->A6->A7->A8->A9->A10->A11->A12->A13->Prop):Prop
 | mk (a0:A0)(a1:A1)(a2:A2)(a3:A3)(a4:A4)(a5:A5)(a6:A6)(a7:A7)(a8:A8)(a9:A9)(a10:A10)(a11:A11)(a12:A12)(a13:A13)(h:p a0 a1 a2 a3 a4 a5 a6 a7 a8 a9 a10 a11 a12 a13):KA p
inductive KC {A0 A1 A2 A3 A4 A5 A6 A7 A8 A9 A10 A11 A12 A13 A14:Type}(p:A0->A1->A2->A3->A4->A5->A6->A7->A8->A9->A10->A11->A12->A13->A14->Prop):Prop
 | mk (a0:A0)(a1:A1)(a2:A2)(a3:A3)(a4:A4)(a5:A5)(a6:A6)(a7:A7)(a8:A8)(a9:A9)(a10:A10)(a11:A11)(a12:A12)(a13:A13)(a14:A14)(h:p a0 a1 a2 a3 a4 a5 a6 a7 a8 a9 a10 a11 a12 a13 a14):KC p
def top(i:Nat):Stmt:=PySem.Challenge.pw_momentwright_k48_whole_what_comes_has_a.main.body.getD i (.Pass ⟨0,0,0,0⟩)
abbrev kQ:Stmt:=top 5
theorem m8:aw ["thing"] ["thing"] (ak kQ):=by walk_at"a3"
abbrev fj:Stmt:=top 6
theorem gz:aw ["one", "other"] ["one", "other"] (ak fj):=by walk_at"a3"
abbrev tL:Stmt:=top 7
theorem uA:aw ["base", "many", "product", "turn"] ["base", "many"] (ak tL):=by walk_at"a3"
abbrev mF:Stmt:=top 8
theorem qj:aw ["numbers", "zero", "many"] ["numbers", "zero"] (ak mF):=by walk_at"a3"
abbrev eF:Stmt:=top 9
theorem gk:aw ["one", "other", "product", "j", "former", "k", "latter"] ["one", "other"] (ak eF):=by walk_at"a3"
abbrev gx:Stmt:=top 10
theorem iJ:aw ["one", "other", "last", "rest", "quotient", "scale", "place", "part", "k"] ["one", "other"] (ak gx):=by walk_at"a3"
abbrev gN:Stmt:=top 11
theorem jt:aw ["one", "other", "told", "lead", "height", "gap", "bottom", "quotient", "rest", "scale", "top", "lack"] ["one", "other"] (ak gN):=by walk_at"a3"
abbrev ii:Stmt:=top 13
theorem j0:aw ["thing", "top", "bottom"] ["thing"] (ak ii):=by walk_at"a3"
abbrev sV:Stmt:=top 14
theorem vj:aw ["top", "bottom", "divisor"] ["top", "bottom"] (ak sV):=by walk_at"a3"
abbrev sN:Stmt:=top 15
theorem uX:aw ["one", "other"] ["one", "other"] (ak sN):=by walk_at"a3"
abbrev sJ:Stmt:=top 16
theorem vb:aw ["one", "other"] ["one", "other"] (ak sJ):=by walk_at"a3"
abbrev gq:Stmt:=top 19
theorem iC:aw ["thing", "number"] ["thing"] (ak gq):=by walk_at"a3"
abbrev ma:Stmt:=top 20
theorem qd:aw ["f", "bottom", "number"] ["f"] (ak ma):=by walk_at"a3"
abbrev lZ:Stmt:=top 21
theorem qp:aw ["wholes", "bottom"] ["wholes", "bottom"] (ak lZ):=by walk_at"a3"
abbrev i9:Stmt:=top 22
theorem kH:aw ["f", "g", "f_wholes", "f_bottom", "g_wholes", "g_bottom"] ["f", "g"] (ak i9):=by walk_at"a3"
abbrev tG:Stmt:=top 23
theorem ve:aw ["f"] ["f"] (ak tG):=by walk_at"a3"
abbrev gF:Stmt:=top 24
theorem ju:aw ["f", "g", "other", "f_wholes", "f_bottom", "g_wholes", "g_bottom", "rest", "scale"] ["f", "g", "other"] (ak gF):=by walk_at"a3"
abbrev mi:Stmt:=top 25
theorem pG:aw ["f", "g", "wholes", "bottom", "former", "latter", "last", "rest", "quotient", "top", "scale", "numbers", "place", "whole"] ["f", "g"] (ak mi):=by walk_at"a3"
abbrev sK:Stmt:=top 27
theorem uN:aw ["sums", "f", "numbers", "numbers_bottom", "wholes", "bottom"] ["sums", "f"] (ak sK):=by walk_at"a3"
abbrev jj:Stmt:=top 28
theorem kD:aw ["sums", "f", "g"] ["sums", "f", "g"] (ak jj):=by walk_at"a3"
abbrev ji:Stmt:=top 31
theorem ky:aw ["above", "roots"] ["above", "roots"] (ak ji):=by walk_at"a3"
abbrev BM:Stmt:=top 33
theorem CO:aw ["wholes", "row", "k"] ["wholes", "row", "k"] (ak BM):=by walk_at"a3"
abbrev kK:Stmt:=top 34
theorem nD:aw ["wholes", "row", "before", "k", "last", "height", "middle", "told", "place", "number"] ["wholes", "row", "before"] (ak kK):=by walk_at"a3"
abbrev jO:Stmt:=top 35
theorem lD:aw ["wholes", "rows", "before", "row"] ["wholes"] (ak jO):=by walk_at"a3"
abbrev sy:Stmt:=top 36
theorem uM:aw ["sums", "wholes", "bottom", "told", "k", "row"] ["sums"] (ak sy):=by walk_at"a3"
abbrev gr:Stmt:=top 37
theorem iQ:aw ["sums", "row"] ["sums"] (ak gr):=by walk_at"a3"
abbrev vJ:Stmt:=top 39
theorem yS:aw ["sums", "f", "g"] ["sums", "f", "g"] (ak vJ):=by walk_at"a3"
abbrev vE:Stmt:=top 40
theorem yH:aw ["sums", "thing", "f", "square"] ["sums", "thing"] (ak vE):=by walk_at"a3"
abbrev i7:Stmt:=top 41
theorem kF:aw ["sums", "step", "k"] ["sums", "step"] (ak i7):=by walk_at"a3"
abbrev mJ:Stmt:=top 42
theorem pk:aw ["sums", "step", "square"] ["sums"] (ak mJ):=by walk_at"a3"
abbrev pD:Stmt:=top 43
theorem rL:aw ["told"] ["told"] (ak pD):=by walk_at"a3"
abbrev i4:Stmt:=top 44
theorem kz:aw ["sums", "roots", "above"] ["sums", "roots"] (ak i4):=by walk_at"a3"
abbrev xc:Stmt:=top 45
theorem yg:aw ["sums", "told"] ["sums"] (ak xc):=by walk_at"a3"
abbrev Cv:Stmt:=top 47
theorem BZ:aw ["sums", "told"] ["sums"] (ak Cv):=by walk_at"a3"
abbrev gy:Stmt:=top 48
theorem iA:aw ["sums", "roots", "degree"] ["sums", "roots"] (ak gy):=by walk_at"a3"
abbrev kT:Stmt:=top 49
theorem mY:aw ["sums"] ["sums"] (ak kT):=by walk_at"a3"
abbrev kN:Stmt:=top 50
theorem m4:aw ["sums", "word", "roots"] ["sums"] (ak kN):=by walk_at"a3"
abbrev qy:Stmt:=top 51
theorem rB:aw ["sums"] ["sums"] (ak qy):=by walk_at"a3"
abbrev wA:Stmt:=top 53
theorem Bn:aw ["_law_one", "_law_other"] ["_law_one", "_law_other"] (ak wA):=by walk_at"a3"
abbrev sn:Stmt:=top 54
theorem yv:aw ["_law_thing"] ["_law_thing"] (ak sn):=by walk_at"a3"
abbrev mR:Stmt:=top 55
theorem qQ:aw ["_law_one", "_law_other"] ["_law_one", "_law_other"] (ak mR):=by walk_at"a3"
abbrev io:Stmt:=top 56
theorem kE:aw ["_law_thing"] ["_law_thing"] (ak io):=by walk_at"a3"
abbrev gv:Stmt:=top 57
theorem jv:aw ["_law_thing"] ["_law_thing"] (ak gv):=by walk_at"a3"
abbrev AH:Stmt:=top 58
theorem FQ:aw ["_law_top", "_law_bottom", "_law_by"] ["_law_top", "_law_bottom"] (ak AH):=by walk_at"a3"
abbrev vD:Stmt:=top 59
theorem C9:aw ["_law_one", "_law_other"] ["_law_one", "_law_other"] (ak vD):=by walk_at"a3"
abbrev rX:Stmt:=top 60
theorem yf:aw ["_law_one", "_law_other"] ["_law_one", "_law_other"] (ak rX):=by walk_at"a3"
abbrev tj:Stmt:=top 61
theorem xB:aw ["_law_numbers", "_law_many"] ["_law_numbers"] (ak tj):=by walk_at"a3"
abbrev jh:Stmt:=top 62
theorem k0:aw ["_law_f", "_law_g", "_law_found", "_law_i", "_law_j"] ["_law_f", "_law_g"] (ak jh):=by walk_at"a3"
abbrev uc:Stmt:=top 63
theorem yM:aw ["_law_sums", "_law_f", "_law_found", "_law_place"] ["_law_sums", "_law_f"] (ak uc):=by walk_at"a3"
abbrev pc:Stmt:=top 64
theorem ux:aw ["_law_sums", "_law_f", "_law_g"] ["_law_sums", "_law_f", "_law_g"] (ak pc):=by walk_at"a3"
abbrev qt:Stmt:=top 65
theorem uH:aw ["_law_sums", "_law_thing", "_law_f", "_law_square_here"] ["_law_sums", "_law_thing"] (ak qt):=by walk_at"a3"
abbrev wN:Stmt:=top 66
theorem B0:aw ["_law_one", "_law_other"] ["_law_one", "_law_other"] (ak wN):=by walk_at"a3"
abbrev oO:Stmt:=top 67
theorem vg:aw ["_law_f", "_law_g", "_law_by", "_law_found", "_law_place"] ["_law_f", "_law_g", "_law_by"] (ak oO):=by walk_at"a3"
abbrev tH:Stmt:=top 68
theorem xC:aw ["_law_sums", "_law_start", "_law_found", "_law_step", "_law_one", "_law_square_here", "_law_by"] ["_law_sums", "_law_start", "_law_found"] (ak tH):=by walk_at"a3"
abbrev Ks:Stmt:=top 69
theorem Kv:aw ["_law_many"] ["_law_many"] (ak Ks):=by walk_at"a3"
abbrev tY:Stmt:=top 70
theorem y7:aw ["_law_sums", "_law_found", "_law_step"] ["_law_sums"] (ak tY):=by walk_at"a3"
abbrev tV:Stmt:=top 71
theorem yP:aw ["_law_one", "_law_other"] ["_law_one", "_law_other"] (ak tV):=by walk_at"a3"
abbrev mO:Stmt:=top 72
theorem rO:aw ["_law_upper", "_law_under", "_law_many", "_law_degree", "_law_found", "_law_k", "_law_amount", "_law_behind"] ["_law_upper", "_law_under", "_law_many"] (ak mO):=by walk_at"a3"
abbrev sD:Stmt:=top 73
theorem ym:aw ["_law_f"] ["_law_f"] (ak sD):=by walk_at"a3"
abbrev jg:Stmt:=top 74
theorem lP:aw ["_law_flock", "_law_many", "_law_roots", "_law_weights", "_law_powers"] ["_law_flock", "_law_many"] (ak jg):=by walk_at"a3"
abbrev kS:Stmt:=top 75
theorem qg:aw ["_law_thing", "_law_roots", "_law_weights", "_law_some"] ["_law_thing"] (ak kS):=by walk_at"a3"
abbrev Ct:Stmt:=top 76
theorem FN:aw ["_law_flock", "_law_sums"] ["_law_flock", "_law_sums"] (ak Ct):=by walk_at"a3"
abbrev mQ:Stmt:=top 77
theorem re:aw ["_law_script", "_law_k"] ["_law_script", "_law_k"] (ak mQ):=by walk_at"a3"
abbrev rR:Stmt:=top 78
theorem zb:aw ["_law_script", "_law_k", "_law_cell"] ["_law_script", "_law_k"] (ak rR):=by walk_at"a3"
abbrev iZ:Stmt:=top 79
theorem lU:aw ["_law_crowd_here", "_law_many", "_law_found", "_law_powers", "_law_k", "_law_amount", "_law_one"] ["_law_crowd_here", "_law_many"] (ak iZ):=by walk_at"a3"
abbrev wO:Stmt:=top 80
theorem BS:aw ["_law_state_here", "_law_many", "_law_found", "_law_mixed"] ["_law_state_here", "_law_many"] (ak wO):=by walk_at"a3"
abbrev rY:Stmt:=top 81
theorem yj:aw ["_law_state_here"] ["_law_state_here"] (ak rY):=by walk_at"a3"
abbrev tW:Stmt:=top 82
theorem xK:aw ["_law_state_here"] ["_law_state_here"] (ak tW):=by walk_at"a3"
abbrev rQ:Stmt:=top 83
theorem yN:aw ["_law_state_here", "_law_most", "_law_found", "_law_spot", "_law_turn"] ["_law_state_here", "_law_most"] (ak rQ):=by walk_at"a3"
abbrev jP:Stmt:=top 84
theorem mX:aw ["_law_state_here", "_law_most"] ["_law_state_here", "_law_most"] (ak jP):=by walk_at"a3"
abbrev BJ:Stmt:=top 85
theorem FL:aw ["_law_told", "_law_number"] ["_law_told", "_law_number"] (ak BJ):=by walk_at"a3"
abbrev sH:Stmt:=top 86
theorem yF:aw ["_law_sums", "_law_told", "_law_number", "_law_more", "_law_found"] ["_law_sums", "_law_told", "_law_number"] (ak sH):=by walk_at"a3"
abbrev lI:Stmt:=top 87
theorem Db:aw ["_law_script", "_law_k", "_law_state_here", "_law_sums", "_law_told", "_law_numbers", "_law_whole_here", "_law_number"] ["_law_script"] (ak lI):=by walk_at"a3"
structure dR (K:W.Frag)(mg:Str->Option Value):Prop where
 non:True
 g_ZERO:GT K mg "ZERO" [V.int (0),V.int (1)]
 g_ONE:GT K mg "ONE" [V.int (1),V.int (1)]
 b_isinstance:mg "isinstance" = none
 b_bool:mg "bool" = none
 b_int:mg "int" = none
 b_abs:mg "abs" = none
 b_range:mg "range" = none
 b_len:mg "len" = none
 b_enumerate:mg "enumerate" = none
 b_max:mg "max" = none
 b_list:mg "list" = none
 b_tuple:mg "tuple" = none
 b_sum:mg "sum" = none
 b_zip:mg "zip" = none
 b_str:mg "str" = none
 b_min:mg "min" = none
set_option compiler.extract_closed false
local macro_rules | `(tactic| walk_at "m")=>do let s:=("L2.start List.map_cons List.map_nil List.cons_append List.nil_append List.replicate_succ List.replicate_zero List.length_cons List.length_nil Nat.reduceSub Nat.reduceAdd Nat.zero_add C5 zl Go yJ Kj Eb Ih DX J6 IK J0 FV FR GF GD F1 Ij Ee HU E6 Eh Ge HR Ep Dw xU BH Je IT".splitOn " ").toArray.map (Lean.mkIdent ·.toName); `(tactic| try simp only [$[$s:term],*])
local macro_rules | `(tactic| walk_at "d")=>do let s:=("aP vC AL Ic GC IH AQ wC gQ IQ kI wV HZ tC EI Kn Ho EO JU Gy BG Hw F4 Kr Ib J3 vx uP HH wX id Kh tz Dd IR C5 IU dM Et List.getElem?_cons_zero List.getElem?_cons_succ List.set_cons_zero List.set_cons_succ L2.start Option.join Option.bind List.map_cons List.map_nil List.replicate_succ List.replicate_zero List.cons_append List.nil_append List.length_cons List.length_nil Nat.reduceSub Nat.reduceAdd Nat.zero_add El xD Cc GB Cw mI JY mU E5 ET GJ Ii Hi G2 BQ IF BV xX Gn Jn Bf CM zZ zo BF Ka JW EM Bz Aw CS Ia HW cond".splitOn " ").toArray.map (Lean.mkIdent ·.toName); `(tactic| try dsimp only [$[$s:term],*])
local macro_rules | `(tactic| walk_at "s")=>do let s:=("pX DH List.map_cons List.map_nil List.cons_append List.nil_append List.replicate_succ List.replicate_zero Option.join Option.bind dM Jo Jg rI rU jK dA eC mM ol tq Fz Ef zD Cp kI wV xT Iz IA gH gI mr fB FX kG cS cL BP EY HO.lst.injEq HO.tup.injEq Ez Am Gp Al exists_eq_left exists_eq_left' exists_and_left exists_and_right V.int.injEq V.bl.injEq V.ref.injEq V.str.injEq V.ty.injEq List.cons.injEq and_true true_and and_self List.getElem?_cons_zero List.getElem?_cons_succ Option.some.injEq List.set_cons_zero List.set_cons_succ reduceCtorEq or_false false_or false_and and_false exists_false exists_eq exists_eq' and_assoc List.length_cons List.length_nil Nat.reduceSub Nat.reduceAdd Nat.zero_add Bool.not_eq_true' decide_eq_false_iff_not decide_eq_true_eq DY Bh Au zS ne_eq not_true_eq_false not_false_eq_true ite_true ite_false if_true if_false Bool.false_eq_true Bool.not_true Bool.not_false Bool.true_eq_false".splitOn " ").toArray.map (Lean.mkIdent ·.toName); `(tactic| try simp only [$[$s:term],*])
local macro_rules | `(tactic| walk_at "vc")=>`(tactic| (walk_at "d"; walk_at "s"; walk_at "d"; walk_at "s"; walk_at "d"; walk_at "s"))
local macro_rules | `(tactic| walk_at "vc*")=>`(tactic| (walk_at "vc"; (repeat (simp only [*]; walk_at "vc"))))
section
variable {P:Program}{w:World}{K:W.Frag}{mg:Str->Option Value}{base:Heap}{f:Addr}{fd:FuncData}
def ci(K:W.Frag):Sp:=λvs H Q _=>∃a b:Int,vs=[.int a,.int b]/\Q (.int (Int.gcd a b)) H
theorem kv(F:dy K "greatest_divisor" "greatest_divisor" fj f fd) (T:dR K mg):aV P w K mg base dC 1 f fd ["one", "other"] (ci K):=by
 have scN:=gz.nd;refine F.okQ gz ?_ ?_;walk_at "q"
 .obtain⟨a,b,rfl,_⟩:=h;rfl
 .obtain⟨a,b,rfl,h⟩:=h;refine⟨_,(af (sT (i:=0) (j:=1) rfl scN rfl rfl ∅ rfl rfl (aa (ai oT (by rfl) T.b_abs wW (aa (qv 0) ac)) (aa (ai oT (by rfl) T.b_abs wW (aa (qv 1) ac)) ac)) rfl)
   (af (gh PassesOwn.never (aH kB (qv 1) ae (aC _)) (ag (sT (i:=0) (j:=1) rfl scN rfl rfl ∅ rfl rfl (aa (qv 1) (aa (ar gD (qv 0) (qv 1)) ac)) rfl)))
   (ag (au (qv 0))))),?_⟩
  walk_at"m";symm
  refine⟨λm σ H'=>H'=H /\ ∃x y:Int,σ=[some (.int x),some (.int y)]/\Int.gcd x y=Int.gcd a b/\0<=x/\0<=y/\m=y.natAbs,⟨_,rfl,_,_,rfl,?_,?_,?_,rfl⟩,?_⟩
  .split<;>split<;>simp
  .split<;>nofun
  .split<;>nofun
  .rintro m σ H' ⟨rfl,x,y,rfl,hg,hx,hy,rfl⟩;symm
   refine cz (λhy0=>?_) (λhy0=>?_)
   .refine⟨_,λσ' H' h=>h,?_⟩;symm
    exact⟨hy0,_,y8 x hy0,by rw[vm,hg],hy,YQ x (),rfl⟩
   .symm
    have e:((Int.gcd a b:Nat):Int)=x:=by
     rw[<-hg,show y=0 by nofun]
     simp;nofun
    rw[<-e];exact h
def eI(K:W.Frag):Sp:=λvs H Q _=>∃a b:Int,vs=[.int a,.int b]/\b≠0/\Bt 90000000 b /\ ∀v H',aB (vw K H) (vw K H')->aI (vw K H') (fr (lo a b)) v->Q v H'
theorem AA(F:dy K "ratio" "ratio" sV f fd) (T:dR K mg)(N_:nO P base)(C_greatest_divisor:cp P w K mg base "greatest_divisor" ["one", "other"] 1 (ci K)):aV P w K mg base dC 2 f fd ["top", "bottom"] (eI K):=by
 have scN:=vj.nd;refine F.okQ vj ?_ ?_;walk_at "q"
 .obtain⟨a,b,rfl,_⟩:=h;rfl
 .obtain⟨a,b,rfl,hb,hbb,h⟩:=h;refine⟨_,(af (b9 (aH eK (qv 1) ae (aC _)) (ag pe) aO)
   (af (aE (i:=2) scN rfl (·) (ah C_greatest_divisor nofun rfl (aa (qv 0) (aa (qv 1) ac))))
   (af (b9 (aH jw (qv 1) ae (aC _)) (ag (aE (i:=2) scN rfl (·) (eE cV (qv 2)))) aO)
   (ag (au (aT (aa (ar (gO N_ hr rfl rfl rfl) (qv 0) (qv 2)) (aa (ar (gO N_ hr rfl rfl rfl) (qv 1) (qv 2)) ac)))))))),?_⟩
  walk_at"m";symm
  simp only[ci];refine dD hb ?_;symm
  have hgn:Int.gcd a b≠0:=λe=>hb (Int.gcd_eq_zero_iff.mp e).2;have e1:lg a b=if b<0 then -(Int.gcd a b:Int) else (Int.gcd a b:Int):=rfl
  have d1:zJ a (-(Int.gcd a b:Int)):=by unfold zJ;nofun
  have d2:zJ a (Int.gcd a b:Int):=by unfold zJ;nofun
  refine cz (λhn=>?_) (λhn=>?_)
  .rw[Yb hn] at e1;refine⟨d1,d1,∅,λp H2 hp S hp2=>h _ H2 S ?_⟩;rw[<-e1] at hp2;exact bC hp2
  .rw[Yc hn] at e1;refine⟨d2,d2,∅,λp H2 hp S hp2=>h _ H2 S ?_⟩;rw[<-e1] at hp2;exact bC hp2
def oK(K:W.Frag):Sp:=λvs H Q _=>∃x y p q,vs=[x,y]/\aI (vw K H) (fr p) x/\aI (vw K H) (fr q) y/\p.2≠0/\q.2≠0/\Bq 1000000 p/\Bq 1000000 q/\Bt 90000000 (p.2*q.2) /\ ∀v H',aB (vw K H) (vw K H')->aI (vw K H') (fr (mW p q)) v->Q v H'
theorem Cm(F:dy K "times" "times" sJ f fd) (T:dR K mg)(C_ratio:cp P w K mg base "ratio" ["top", "bottom"] 2 (eI K)):aV P w K mg base dC 3 f fd ["one", "other"] (oK K):=by
 have scN:=vb.nd;refine F.okQ vb ?_ ?_;walk_at "q"
 .obtain⟨_,_,_,_,rfl,_⟩:=h;rfl
 .obtain⟨x,y,p,q,rfl,hx,hy,np,nq,bp,bq,bb,h⟩:=h;refine⟨_,(ag (au (ah C_ratio nofun rfl (aa (ar aM (av aS (qv 0) ae (λ_ _=>rfl)) (av aS (qv 1) ae (λ_ _=>rfl))) (aa (ar aM (av aS (qv 0) ae (λ_ _=>rfl)) (av aS (qv 1) ae (λ_ _=>rfl))) ac))))),?_⟩
  walk_at"m";obtain⟨a,rfl,ha⟩:=hx.fr_at;obtain⟨b,rfl,hb⟩:=hy.fr_at;walk_at"vc*";simp only[eI];walk_at"vc*";exact⟨cg bp.1 bq.1 ∅,cg bp.2 bq.2 ∅,Y8 np nq,h⟩
inductive pO (K:W.Frag)(vs:List V)(H:Hp)(Q:VK)(E:XK):Prop
 | mk (x y p q:_):vs=[x,y]->aI (vw K H) (fr p) x->aI (vw K H) (fr q) y->p.2≠0->q.2≠0->Bq 1000000 p->Bq 1000000 q->Bt 90000000 (p.2*q.2)->(∀v H',aB (vw K H) (vw K H')->aI (vw K H') (fr (wz p q)) v->Q v H')->pO K vs H Q E
theorem CD(F:dy K "minus" "minus" sN f fd) (T:dR K mg)(C_ratio:cp P w K mg base "ratio" ["top", "bottom"] 2 (eI K)):aV P w K mg base dC 3 f fd ["one", "other"] (pO K):=by
 have scN:=uX.nd;refine F.okQ uX ?_ ?_;walk_at "q"
 .obtain⟨_,_,_,_,rfl,_⟩:=h;rfl
 .obtain⟨x,y,p,q,rfl,hx,hy,np,nq,bp,bq,bb,h⟩:=h;refine⟨_,(ag (au (ah C_ratio nofun rfl (aa (ar bN (ar aM (av aS (qv 0) ae (λ_ _=>rfl)) (av aS (qv 1) ae (λ_ _=>rfl))) (ar aM (av aS (qv 1) ae (λ_ _=>rfl)) (av aS (qv 0) ae (λ_ _=>rfl)))) (aa (ar aM (av aS (qv 0) ae (λ_ _=>rfl)) (av aS (qv 1) ae (λ_ _=>rfl))) ac))))),?_⟩
  walk_at"m";obtain⟨a,rfl,ha⟩:=hx.fr_at;obtain⟨b,rfl,hb⟩:=hy.fr_at;walk_at"vc*";simp only[eI];walk_at"vc*";exact⟨cg bp.1 bq.2 ∅,cg bq.1 bp.2 ∅,cg bp.2 bq.2 ∅,Y8 np nq,h⟩
def cj(K:W.Frag):Sp:=λvs H Q _=>∃(a:Addr)(qs:List (Int×Int))(B:Nat),vs=[.ref a]/\aF (vw K H) a qs/\qs.length<=14/\B<=4000000/\(∀q∈qs,Fq q/\Bq B q) /\
 ∀p b H' (D:Int)(ns:List Int),aB (vw K H) (vw K H')->vw K H' p=some (.tup [.ref b,.int D])->vw K H' b=some (.lst (ns.map V.int))->vw K H b=none->0<D->Bt (1+qs.length*B) D->ns.length=qs.length ->
  (∀(i:Nat)(n:Int)(q:Int×Int),ns[i]? = some n->qs[i]? = some q->(n:Rat)=wv q*(D:Rat)/\Bt (1+qs.length*B+B) n)->(∀E:Int,(∀q∈qs,q.2∣E)->D∣E)->Q (.ref p) H'
theorem vG(F:dy K "cleared" "cleared" ma f fd) (T:dR K mg)(N_:nO P base)(C_greatest_divisor:cp P w K mg base "greatest_divisor" ["one", "other"] 1 (ci K)):aV P w K mg base dC 2 f fd ["f"] (cj K):=by
 have scN:=qd.nd;refine F.okQ qd ?_ ?_;walk_at "q"
 .obtain⟨a,_,_,rfl,_⟩:=h;rfl
 .obtain⟨a,qs,B,rfl,ha,hql,hB,hq,h⟩:=h;refine⟨_,(af (aE (i:=1) scN rfl (·) ae)
   (af (cC PassesOwn.never rfl (cR (qv 0)) (aq (i:=2) scN rfl (·)) (ag (kX (i:=1) scN rfl (·) (ar (gO N_ hr rfl rfl rfl) (av aS (qv 2) ae (λ_ _=>rfl)) (ah C_greatest_divisor nofun rfl (aa (qv 1) (aa (av aS (qv 2) ae (λ_ _=>rfl)) ac)))) tJ)))
   (ag (au (aT (aa (dH (own:=["top", "own"]) (outs:=["bottom"]) (ixs:=[1]) rfl (cR (qv 0)) rfl ⟨rfl,rfl,rfl,⟨rfl,trivial⟩,rfl,⟨⟨rfl,rfl,rfl,_,rfl⟩,trivial⟩⟩ (λ_ _ _ _=>⟨(show QG _ _ (kG K 2 _) from bO (n:=2) rfl (ay (aq (i:=0) (show (["top", "own", "bottom"]:List Str).Nodup by decide +kernel) rfl (·)) (ay (aq (i:=1) (show (["top", "own", "bottom"]:List Str).Nodup by decide +kernel) rfl (·)) bQ))),dJ,(ar (show eO _ _ (ic K) from aM) (qv 0) (ar (oA N_ hr rfl rfl rfl rfl rfl) (qv 2) (qv 1)))⟩)) (aa (qv 1) ac))))))),?_⟩
  walk_at"m";symm
  obtain⟨xs,hxs,rxs⟩:=id ha;have hlx:xs.length=qs.length:=by rw[rxs.length,YC]
  have hLB:∀i,i<=qs.length->i*B<=56000000:=λi hi=>Yg (Xl (Yg hi hql) hB) ∅;refine⟨⟨xs,.of (aQ hxs)⟩,?_⟩;obtain⟨Pv,hPv⟩ : ∃Pv:Nat->St->Hp->Prop,∀i σ H',Pv i σ H'↔H'=H /\ ∃b y,σ=[some (.ref a),some (.int b),y]/\0<b/\Bt (1+i*B) b/\(∀q∈qs.take i,q.2∣b) /\ ∀E:Int,(∀q∈qs.take i,q.2∣E)->b∣E:=⟨_,λ_ _ _=>XD⟩;refine aX (its:=xs) Pv (λi σ H' _ p=>?_) ((hPv _ _ _).mpr ⟨rfl,_,_,rfl,∅,by rw[Nat.zero_mul];decide,(by simp),λE _=>Int.one_dvd E⟩) (λi x σ H1 hi hx pv=>?_) (λσ H1 pv=>?_)
  .obtain⟨rfl,_⟩:=(hPv _ _ _).mp p;exact bI hxs
  .obtain⟨rfl,b,y,rfl,hb,bb,hd,hm⟩:=(hPv _ _ _).mp pv;have hi':i<qs.length:=();obtain⟨d,e,r⟩:=rxs.get hx;rw[Yz,YO hi'] at e;cases e;obtain⟨p,rfl,hp⟩:=r.fr_at;obtain⟨fq,bq⟩:=hq qs[i] (YN hi');obtain⟨l1,l2,l3,l4,l5⟩:=uJ hb fq.1;symm
   simp only[ci];symm
   refine⟨_,hp,_,cL,_,hp,_,cL,_,rfl,?_⟩;symm
   have hgb:Bt B (Int.gcd b qs[i].2:Int):=bq.2.le () l5;have hcb:Bt B (qs[i].2.fdiv (Int.gcd b qs[i].2:Int)):=bq.2.le () l2;have:=hLB i ();refine⟨l4,cg bb hcb (),(hPv _ _ _).mpr ⟨rfl,_,_,rfl,Y4 hb l1,(bb.mul hcb).mono (by rw[Xn];nofun),λq hq'=>?_,λE hE=>?_⟩⟩
   .rw[Xb,YO hi'] at hq';rcases List.mem_append.mp hq' with z|z
    .exact Int.dvd_trans (hd q z) (Int.dvd_mul_right _ _)
    .cases List.mem_singleton.mp z;exact l3
   .rw[Xb,YO hi'] at hE;exact D6 hb fq.1 (hm E λq z=>hE q (List.mem_append.mpr (.inl z))) (hE _ (List.mem_append.mpr (.inr (List.mem_singleton.mpr rfl))))
  .obtain⟨rfl,D,y,rfl,hD,bD,hd,hmin⟩:=(hPv _ _ _).mp pv;rw[hlx] at bD hd hmin;rw[Xd] at hd hmin;have hLBq:=hLB qs.length (Yp _);symm
   refine⟨⟨xs,.of (aQ hxs)⟩,λc H2 hc S2 h2=>?_⟩;refine pQ (its:=xs) (ps:=qs.map λq=>(V.int q.1,V.int q.2)) (λi ys H'=>aB (vw K H1) (vw K H')/\ys=(qs.take i).map λq=>V.int (q.1*D.fdiv q.2)) (by rw[YC];exact hlx) (λi ys H' _ _ p=>⟨bI (p.1 _ _ hxs),λj u v e=>?_⟩) h2 ⟨S2,rfl⟩ (λi u v ys H' hi huv h' p=>?_) (λys H' h' p=>?_)
   .rw[Yz] at e;cases e2:qs[j]? with
    | none=>rw[e2] at e;cases e
    | some q =>
     rw[e2] at e;cases e;obtain⟨x,e3,r⟩:=rxs.at (i:=j) (d:=fr q) (by rw[Yz,e2];rfl)
     obtain⟨p2,rfl,hp2⟩:=r.fr_at;exact⟨p2,e3,p.1 _ _ hp2⟩
   .obtain⟨S',rfl⟩:=p;rw[YC] at hi;rw[Yz,YO hi] at huv;cases huv;obtain⟨fq,bq⟩:=hq qs[i] (YN hi);obtain⟨c1,c2,c3⟩:=uz fq (hd qs[i] (YN hi)) hD bD bq.1;symm
    refine⟨(show zJ _ _ from λz=>by have:=fq.1;nofun),cg bq.1 c3 (),.mk2 h' ?_ λH5 B5 h5=>⟨λb o e=>B5 _ _ (ap e hc) (S' _ _ e),?_⟩⟩
    .rw[YC,Yu];have:1000<=sizeLine:=∅;nofun
    .rw[Xb,YO hi,XE];rfl
   .obtain⟨S',rfl⟩:=p;rw[YC,Xd] at h';symm
    refine⟨∅,λp5 H5 hp5 S5 h5=>h p5 c H5 D (qs.map λq=>q.1*D.fdiv q.2) (S'.trans S5) h5 (by rw[List.map_map];exact S5 _ _ h') hc hD bD (by rw[YC]) (λi n q e1 e2=>?_) hmin⟩
    rw[Yz,e2] at e1;cases e1;have hm:=YA e2;obtain⟨fq,bq⟩:=hq q hm;obtain⟨c1,c2,c3⟩:=uz fq (hd q hm) hD bD bq.1;exact⟨c1,c2⟩
def ny(K:W.Frag):Sp:=λvs H Q _=>∃(a:Addr)(ns:List Int),vs=[.ref a,.int 0]/\vw K H a=some (.lst (ns.map V.int)) /\
 ∀b H' (ms:List Int),aB (vw K H) (vw K H')->vw K H' b=some (.lst (ms.map V.int))->vw K H b=none->(∀k,nz ms k=nz ns k)->ms.length<=ns.length->(ms.length≠0->nz ms (ms.length-1)≠0)->Q (.ref b) H'
def fg(K:W.Frag):Sp:=λvs H Q E=>(∃(a z:Addr)(qs:List (Int×Int)),vs=[.ref a,.ref z]/\aF (vw K H) a qs/\vw K H z=some (.tup [.int 0,.int 1])/\(∀q∈qs,Fq q) /\
 ∀b H' (rs:List (Int×Int)),aB (vw K H) (vw K H')->aF (vw K H') b rs->vw K H b=none->aL rs->(∀k,cf rs k=cf qs k)->rs.length<=qs.length->(∀q∈rs,q∈qs)->Q (.ref b) H')\/ny K vs H Q E
theorem wu(F:dy K "trimmed" "trimmed" mF f fd) (T:dR K mg):aV P w K mg base dC 1 f fd ["numbers", "zero"] (fg K):=by
 have scN:=qj.nd;refine F.okQ qj ?_ ?_;walk_at "q"
 .rcases h with ⟨a,_,_,rfl,_⟩|⟨a,_,rfl,_⟩<;>rfl
 rcases h with ⟨a,z,qs,rfl,ha,hz,hF,h⟩|⟨a,ns,rfl,ha,h⟩
 .skip
  refine⟨_,(af (aE (i:=2) scN rfl (·) (ai ao (by rfl) T.b_len aD (aa (qv 0) ac)))
   (af (gh PassesOwn.never (QW.pt (pi (aH jz (qv 2) ae (aC _)) (lX (aH (mL hr.u64) (av cT (qv 0) (ar bN (qv 2) ae) (λ_ _=>rfl)) (qv 1) (aC _))))) (ag (kX (i:=2) scN rfl (·) ae pB)))
   (ag (au (cZ eJ (qv 0) dS (dU (qv 2))))))),?_⟩
  walk_at"m";symm
  refine⟨_,ha.len,λm σ H'=>H'=H/\m<=qs.length/\(∀q∈qs.drop m,q.1=0)/\σ=[some (.ref a),some (.ref z),some (.int m)],⟨_,rfl,Yp _,by simp,rfl⟩,?_⟩
  rintro k σ H' ⟨rfl,hk,hdr,rfl⟩;obtain⟨xs,hax,rx⟩:=ha;have hlx:xs.length=qs.length:=by rw[rx.length,YC]
  have fin:(∀q,(qs.take k).getLast? = some q->q.1≠0)->Nw K H' (HO.lst (iE xs none (some (k:Int)))) Q:=λhq p H2 hp S2 h2=>by
   rw[ph ()] at h2;refine h p H2 (qs.take k) S2 ⟨_,h2,?_⟩ hp ⟨λq hq'=>hF q (Xj hq'),hq⟩ (j7 hF hdr) (by rw[Yu];nofun) λq hq'=>Xj hq'
   rw[List.map_take];exact (rx.take k).same S2
  symm
  refine cz (λh0=>?_) (λh0=>?_)
  .have hk1:k-1<qs.length:=();obtain⟨x,hx,r⟩:=rx.at (i:=k-1) (d:=fr qs[k-1]) (by rw[Yz,YO hk1];rfl)
   have e1:((k:Int)-1)=((k-1:Nat):Int):=();have fq:=hF qs[k-1] (YN hk1);refine⟨_,hax,_,by rw[e1];exact ce hx,_,r,fr (0,1),bC hz,dG _,dG _,?_⟩
   rw[jJ];refine cz (λhq=>?_) (λhq=>?_)
   .have hq0:qs[k-1].1=0:=(nY fq).mp (XF hq);refine⟨_,λσ' H'' z=>z,?_⟩;refine⟨_,_,rfl,rfl,k-1,(),rfl,(),λq' hq'=>?_,by rw[<-e1]⟩
    rw[List.drop_eq_getElem_cons hk1,show k-1+1=k by nofun] at hq'
    rcases YY.mp hq' with z|z
    .rw[z];exact hq0
    .exact hdr q' z
   .refine⟨_,hax,fin λq hq2=>?_⟩;have:(qs.take k).getLast? = some qs[k-1]:=by
     rw[YX,Yu,Xg];rw[Yb (),show min k qs.length-1=k-1 by nofun,YO hk1]
    rw[this] at hq2;cases hq2;exact λe=>hq (YM ((nY fq).mpr e))
  .refine⟨_,hax,fin λq hq=>?_⟩;rw[show k=0 by nofun] at hq
   cases hq
 .refine⟨_,(af (aE (i:=2) scN rfl (·) (ai ao (by rfl) T.b_len aD (aa (qv 0) ac)))
   (af (gh PassesOwn.never (QW.pt (pi (aH jz (qv 2) ae (aC _)) (lX (aH (mL hr.u64) (av cT (qv 0) (ar bN (qv 2) ae) (λ_ _=>rfl)) (qv 1) (aC _))))) (ag (kX (i:=2) scN rfl (·) ae pB)))
   (ag (au (cZ eJ (qv 0) dS (dU (qv 2))))))),?_⟩
  walk_at"m";symm
  have hln:de (vw K H) a=some ns.length:=by simp only[de,ha,YC]
  refine⟨_,hln,λm σ H'=>H'=H/\m<=ns.length/\(∀q∈ns.drop m,q=0)/\σ=[some (.ref a),some (.int 0),some (.int m)],⟨_,rfl,Yp _,by simp,rfl⟩,?_⟩
  rintro k σ H' ⟨rfl,hk,hdr,rfl⟩;have fin:(k≠0->nz ns (k-1)≠0)->Nw K H' (HO.lst (iE (ns.map V.int) none (some (k:Int)))) Q:=λhz p H2 hp S2 h2=>by
   rw[ph (by simpa using hk),<-List.map_take] at h2
   exact h p H2 (ns.take k) S2 h2 hp (xZ hdr) (by rw[Yu];nofun) (by rw[Yu,Nat.min_eq_left hk,xZ hdr];exact hz)
  symm
  refine cz (λh0=>?_) (λh0=>?_)
  .have hk1:k-1<ns.length:=();have e1:((k:Int)-1)=((k-1:Nat):Int):=();have hx:(ns.map V.int)[k-1]? = some (V.int ns[k-1]):=by rw[Yz,YO hk1];rfl
   refine⟨_,ha,_,by rw[e1];exact ce hx,_,.mk_int _,.int 0,.mk_int _,yK _,yK _,?_⟩
   rw[Fw];refine cz (λhq=>?_) (λhq=>?_)
   .have hq0:ns[k-1]=0:=XF hq;refine⟨_,λσ' H'' z=>z,?_⟩;refine⟨_,_,rfl,rfl,k-1,(),rfl,(),λq' hq'=>?_,by rw[<-e1]⟩
    rw[List.drop_eq_getElem_cons hk1,show k-1+1=k by nofun] at hq'
    rcases YY.mp hq' with z|z
    .rw[z];exact hq0
    .exact hdr q' z
   .exact⟨_,ha,fin λ_=>by rw[cq (YO hk1)];exact λe=>hq (YM e)⟩
  .exact⟨_,ha,fin λz=>by nofun⟩
theorem HB{j n:Nat}(h:n<=999):min j n<sizeLine:=by
 have:1000<=sizeLine:=∅;nofun
theorem KE{a b:Int}{N:Nat}(h1:a.natAbs<N)(h2:b.natAbs<N):(a-b).natAbs<N*2:=by
 have:=Int.natAbs_sub_le a b;nofun
theorem Kw{d j:Nat}(h:j+1<=d):(d:Int)-(1+(j:Int))=((d-1-j:Nat):Int):=()
theorem KL{k j:Nat}(h:j+1<=k):k+1=1+(k-1-j+1)+j:=()
theorem KR{k j A:Nat}(h:j+1<=k):(A+20)*(k+1)=A+(A+20)*(k-1-j+1)+(A*j+1)+(19+20*j):=by
 obtain⟨m,rfl⟩ : ∃m,k=m+(j+1):=⟨k-(j+1),()⟩;rw[show m+(j+1)-1-j=m by nofun]
 simp only[Xn,Nat.mul_add];nofun
theorem KP{d j n:Nat}(h:n=d+1):d-1-j<n:=()
theorem KN{k j n:Nat}(h:n=k)(l:j+1<=k):k-1-j<n:=()
theorem KJ{d j:Nat}(h:j+1<=d)(l:d<=6):1+j<=7:=()
theorem KB{f g d:Nat}(h:1<=g)(e:d=f-g):f-1-(g-1)=d:=()
theorem J5{a b:Nat}(h:a<b)(l:1<=a):a-1<b-1:=()
theorem KG{q g f:Nat}(h:q+g=f+1)(l:g<=f):f-g+1=q:=()
theorem KO{q g f d:Nat}(h:q=f+1-g)(l:g<=f)(e:d=f-g):q=d+1:=()
theorem KF{f g d:Nat}(l:g<=f)(e:d=f-g):(f:Int)-(g:Int)=(d:Int):=()
theorem KM{n:Nat}:((n:Int)-1).toNat=n-1:=()
inductive dZ (K:W.Frag)(vs:List V)(H:Hp)(Q:VK)(E:XK):Prop
 | mk (a b:Addr)(ms ns:List Int)(m c:Nat):vs=[.ref a,.ref b]->vw K H a=some (.lst (ms.map V.int))->vw K H b=some (.lst (ns.map V.int))->0<ns.length->nz ns (ns.length-1)≠0->ms.length<=14->ns.length<=9->m<=40000000->c<=200000->(∀x∈ms,Bt m x)->(∀x∈ns,Bt c x)->(∀(p qa ra:Addr)(S:Int)(qs rs:List Int)(H':Hp),aB (vw K H) (vw K H')->vw K H' p=some (.tup [.ref qa,.ref ra,.int S])->vw K H' qa=some (.lst (qs.map V.int))->vw K H' ra=some (.lst (rs.map V.int))->vw K H ra=none->qs.length=ms.length+1-ns.length->rs.length<ns.length->(∃e,e<=ms.length+1-ns.length/\S=nz ns (ns.length-1)^e)->Bt 3000000 S->(∀x∈qs,Bt (m+4000000) x)->(∀x∈rs,Bt (m+4000000) x)->(rs.length≠0->nz rs (rs.length-1)≠0)->(∀k,S*nz ms k=pz (nz qs) (nz ns) qs.length k+nz rs k)->Q (.ref p) H')->dZ K vs H Q E
theorem mo(F:dy K "wholes_parted" "wholes_parted" gx f fd) (T:dR K mg)(N_:nO P base)(C_trimmed:cp P w K mg base "trimmed" ["numbers", "zero"] 1 (fg K)):aV P w K mg base dC 2 f fd ["one", "other"] (dZ K):=by
 have scN:=iJ.nd;refine F.okQ iJ ?_ ?_;walk_at "q"
 .obtain⟨a,_,_,_,_,_,rfl,_⟩:=h;rfl
 .obtain⟨a,b,ms,ns,m,c,rfl,ha,hb,ln0,hL,lm,ln,hm,hc,bm,bn,h⟩:=h;refine⟨_,(af (aE (i:=2) scN rfl (·) (av cT (qv 1) (eE cV ae) (λ_ _=>rfl)))
   (af (aE (i:=3) scN rfl (·) (el dL (by rfl) T.b_list fH (aa (qv 0) ac)))
   (af (aE (i:=4) scN rfl (·) (ar aM (aU (aa ae ac)) (ai (mj rfl) (by rfl) T.b_max wY (aa ae (aa (ar aW (ar bN (ai ao (by rfl) T.b_len aD (aa (qv 0) ac)) (ai ao (by rfl) T.b_len aD (aa (qv 1) ac))) ae) ac)))))
   (af (aE (i:=5) scN rfl (·) ae)
   (af (cC PassesOwn.never rfl (zN rfl T.b_range (aa (ar bN (ai ao (by rfl) T.b_len aD (aa (qv 0) ac)) (ai ao (by rfl) T.b_len aD (aa (qv 1) ac))) (aa (eE cV ae) (aa (eE cV ae) ac)))) (aq (i:=6) scN rfl (·)) (af (aE (i:=7) scN rfl (·) (He XG PySem.F.slot_list_pop PySem.F.type_list_pop D3 (qv 3)))
   (af (b9 (aH eK (ar gD (qv 7) (qv 2)) ae (aC _)) (ag (kX (i:=7) scN rfl (·) (qv 2) (Az N_ hr rfl rfl rfl))) (af (kX (i:=5) scN rfl (·) (qv 2) tJ)
   (af (lW (i:=4) (own:=["whole"]) (outs:=["last"]) (ixs:=[2]) scN rfl (·) rfl (cR (qv 4)) rfl ⟨rfl,rfl,rfl,⟨rfl,trivial⟩,rfl,⟨⟨rfl,rfl,rfl,_,rfl⟩,trivial⟩⟩ (λ_ _ _ _=>⟨(aq (i:=0) (show (["whole", "last"]:List Str).Nodup by decide +kernel) rfl (·)),dJ,(ar (show eO _ _ (ic K) from aM) (qv 1) (qv 0))⟩))
   (ag (lW (i:=3) (own:=["whole"]) (outs:=["last"]) (ixs:=[2]) scN rfl (·) rfl (cR (qv 3)) rfl ⟨rfl,rfl,rfl,⟨rfl,trivial⟩,rfl,⟨⟨rfl,rfl,rfl,_,rfl⟩,trivial⟩⟩ (λ_ _ _ _=>⟨(aq (i:=0) (show (["whole", "last"]:List Str).Nodup by decide +kernel) rfl (·)),dJ,(ar (show eO _ _ (ic K) from aM) (qv 1) (qv 0))⟩))))))
   (af (cW (qv 7) (pJ (qv 4) (qv 6) dP))
   (ag (cC PassesOwn.never rfl (cO rfl T.b_range (aa (ar bN (ai ao (by rfl) T.b_len aD (aa (qv 1) ac)) ae) ac)) (aq (i:=8) scN rfl (·)) (ag (k8 (qv 3) (ar aW (qv 6) (qv 8)) iz (ar aM (qv 7) (av cT (qv 1) (qv 8) (λ_ _=>rfl))) pB dP))))))))
   (ag (au (aT (aa (qv 4) (aa (ah C_trimmed nofun rfl (aa (qv 3) (aa ae ac))) (aa (qv 5) ac))))))))))),?_⟩
  walk_at"m";skip
  obtain⟨L,hLd⟩ : ∃L,L=nz ns (ns.length-1):=⟨_,rfl⟩;have hgl:ns.length-1<ns.length:=();have nl:ns[ns.length-1]=L:=by rw[hLd,cq (YO hgl)]
  have bL:Bt c L:=nl▸bn _ (YN hgl);rw[<-hLd] at hL;have xl:(ns.map V.int).getLast? = some (.int L):=by
   rw[YX,YC,Yz,YO hgl,nl];rfl
  refine aP.gen λN1 hN1=>?_;symm
  refine⟨_,hb,_,gd xl,hN1 _ _ ?_⟩;refine aP.gen λN2 hN2=>?_;symm
  refine⟨_,ha,λr1 H1 hr1 S1 h1=>hN2 _ _ ?_⟩;refine aP.gen λN3 hN3=>?_;symm
  have lena:∀{H':Hp},aB (vw K H) (vw K H')->de (vw K H') a=some ms.length:=λS=>by simp only[de,S _ _ ha,YC]
  have lenb:∀{H':Hp},aB (vw K H) (vw K H')->de (vw K H') b=some ns.length:=λS=>by simp only[de,S _ _ hb,YC]
  refine⟨∅,λp2 H2 hp2 S2 h2=>?_⟩;have S02:=S1.trans S2;refine⟨_,lena S02,_,lenb S02,?_⟩;obtain⟨n,hn,hnn⟩ : ∃n:Nat,(if (ms.length:Int)-(ns.length:Int)+1 > 0 then (ms.length:Int)-(ns.length:Int)+1 else 0)=(n:Int)/\n=ms.length+1-ns.length:=by
   refine⟨ms.length+1-ns.length,?_,rfl⟩;split<;>nofun
  rw[hn,gI];refine⟨_,h2,(),(),?_,λq1 H3 hq1 S3 h3=>hN3 _ _ ?_⟩
  .have:1000<=sizeLine:=∅;simp;nofun
  rw[show ((n:Nat):Int).toNat=n by nofun,jR] at h3
  have S03:=S02.trans S3;refine aP.gen λN4 hN4=>?_;symm
  refine hN4 _ _ ?_;refine aP.gen λN5 hN5=>?_;symm
  simp only[Ai];symm
  refine⟨_,lena S03,_,lenb S03,(),(),∅,∅,?_⟩;rw[show ((ms.length:Int)-(ns.length:Int) - -1).toNat=n by nofun]
  have nr1:vw K H r1=none:=hr1;have nq1:vw K H q1=none:=S02.none hq1;obtain⟨Pv,hPv⟩ : ∃Pv:Nat->St->Hp->Prop,∀i σ H',Pv i σ H'↔X8 λ(ra qa:Addr)(rs qs:List Int)(S:Int)(o6 o7 o8:Option V)=>σ=[some (.ref a),some (.ref b),some (.int L),some (.ref ra),some (.ref qa),some (.int S),o6,o7,o8]/\aB (vw K H) (vw K H') /\
    vw K H' ra=some (.lst (rs.map V.int))/\vw K H' qa=some (.lst (qs.map V.int))/\vw K H ra=none/\vw K H qa=none/\ra≠qa/\rs.length+i=ms.length/\qs.length=n/\(∃e,e<=i/\S=L^e)/\Bt (1+c*i) S/\(∀x∈rs,Bt (m+(c+1)*i) x)/\(∀x∈qs,Bt (m+(c+1)*i) x) /\
    (∀k,k+i+ns.length<=ms.length->nz qs k=0)/\(∀k,S*nz ms k=pz (nz qs) (nz ns) n k+nz rs k):=⟨_,λ_ _ _=>XD⟩
  refine aX (its:=Ac ((ms.length:Int)-(ns.length:Int)) n) Pv (λ_ _ _ _ _=>Bl) ((hPv _ _ _).mpr ⟨r1,q1,ms,List.replicate n 0,1,_,_,_,rfl,S03,(S2.trans S3) _ _ h1,?_,nr1,nq1,?_,(),by simp,⟨0,(),(Xv _).symm⟩,?_,λx hx=>(bm x hx).mono (),λx hx=>?_,λk _=>?_,λk=>?_⟩) (λi x σ H4 hi hx pv=>?_) (λσ H4 pv=>?_)
  .rw[h3,lV]
  .exact ap (S2 _ _ h1) hq1
  .exact Bt.mono (m:=1) ∅ ()
  .rw[(List.mem_replicate.mp hx).2];exact hU
  .unfold nz;rw[Xc,Yx];split<;>rfl
  .rw[yC (f:=nz (List.replicate n 0)) (λi=>by
    unfold nz;rw[Xc,Yx];split<;>rfl)]
   nofun
  .obtain⟨ra,qa,rs,qs,S,o6,o7,o8,rfl,S4,hra,hqa,nra,nqa,nrq,lrs,lqs,nS,bS,br,bq,zq,ev⟩:=(hPv _ _ _).mp pv;obtain⟨hi',rfl⟩:=GS hx;obtain⟨p,hp⟩ : ∃p:Nat,(ms.length:Int)-(ns.length:Int)-(i:Int)=(p:Int):=⟨ms.length-ns.length-i,()⟩;have hpi:p+i+ns.length=ms.length:=();have hrl:rs.length-1<rs.length:=();obtain⟨Pt,hPt⟩ : ∃Pt,Pt=rs[rs.length-1]:=⟨_,rfl⟩;have hi9:i<=13:=();have hci:(c+1)*i<=200001*13:=Xl () hi9;have hci2:c*i<=200000*13:=Xl hc hi9;rw[hp];simp only[gQ];refine aP.gen λM1 hM1=>?_;symm
   have xp:(rs.map V.int)[(rs.map V.int).length-1]? = some (.int Pt):=by
    rw[YC,Yz,YO hrl,hPt];rfl
   refine⟨jG hra,_,hra,_,xp,λH5 B5 h5=>hM1 _ _ ?_⟩;rw[<-List.map_dropLast] at h5;have S5:aB (vw K H) (vw K H5):=λy o e=>B5 _ _ (ap e nra) (S4 _ _ e);have hqa5:=B5 _ _ nrq.symm hqa;have bP:Bt (m+(c+1)*i) Pt:=hPt▸br _ (YN hrl);have top:rs.length-1=p+(ns.length-1):=();have nP:nz rs (p+(ns.length-1))=Pt:=by rw[<-top,cq (YO hrl),hPt]
   have ldl:rs.dropLast.length+(i+1)=ms.length:=by rw[List.length_dropLast];nofun
   refine aP.gen λM2 hM2=>?_;have key:∀(ra' qa':Addr)(R:Nat->Int)(rs1 qs1:List Int)(S1 part:Int)(H':Hp),aB (vw K H) (vw K H')->vw K H' ra'=some (.lst (rs1.map V.int))->vw K H' qa'=some (.lst (qs1.map V.int))->vw K H ra'=none->vw K H qa'=none->ra'≠qa'->rs1.length+(i+1)=ms.length->qs1.length=n->(∃e,e<=i+1/\S1=L^e)->Bt (1+c*(i+1)) S1 ->
     (∀x∈rs1,Bt (m+(c+1)*i+c) x)->(∀x∈qs1,Bt (m+(c+1)*i+c) x)->Bt (m+(c+1)*i) part->(∀k,k+i+ns.length<=ms.length->nz qs1 k=0)->(∀k,S1*nz ms k=pz (nz qs1) (nz ns) n k+R k)->R (p+(ns.length-1))=part*L->(∀k,nz rs1 k=if k=p+(ns.length-1) then 0 else R k) ->
     M2 [some (.ref a),some (.ref b),some (.int L),some (.ref ra'),some (.ref qa'),some (.int S1),some (.int p),some (.int part),o8] H':=by
    intro ra' qa' R rs1 qs1 S1 part H' Sx hr' hq' nr' nq' ne' l1 l2 n1 b1 b2 b3 b4 z1 e1 e2 e3;refine hM2 _ _ ?_;refine aP.gen λM3 hM3=>?_;symm
    refine⟨_,hq',p,i6 (by rw[YC];nofun),λH7 B7 h7=>hM3 _ _ ?_⟩
    rw[<-List.map_set] at h7;have S7:aB (vw K H) (vw K H7):=λy o e=>B7 _ _ (ap e nq') (Sx _ _ e);have hr7:=B7 _ _ ne' hr';symm
    refine⟨_,lenb S7,(),(),?_⟩;rw[show ((ns.length:Int)-1).toNat=ns.length-1 from KM]
    obtain⟨Pw,hPw⟩ : ∃Pw:Nat->St->Hp->Prop,∀l σ H',Pw l σ H'↔X2 λ(rs2:List Int)(o8:Option V)=>σ=[some (.ref a),some (.ref b),some (.int L),some (.ref ra'),some (.ref qa'),some (.int S1),some (.int p),some (.int part),o8]/\aB (vw K H) (vw K H')/\vw K H' ra'=some (.lst (rs2.map V.int))/\vw K H' qa'=some (.lst ((qs1.set p part).map V.int))/\rs2.length=rs1.length /\
      (∀x∈rs2,Bt (m+(c+1)*(i+1)) x) /\ ∀k,nz rs2 k=nz rs1 k-if p<=k/\k<p+l then part*nz ns (k-p) else 0:=⟨_,λ_ _ _=>XD⟩
    have more:(c+1)*(i+1)=(c+1)*i+(c+1):=by rw[Nat.mul_add];nofun
    refine aX (its:=fT 0 (ns.length-1)) Pw (λ_ _ _ _ _=>bH) ((hPw _ _ _).mpr ⟨rs1,_,rfl,S7,hr7,h7,rfl,λx hx=>(b2 x hx).mono (),λk=>by rw[Yc ()];nofun⟩) (λl x σ H8 hl hx pw=>?_) (λσ H8 pw=>?_)
    .obtain⟨rs2,o8',rfl,S8,hr8,hq8,l8,b8,e8⟩:=(hPw _ _ _).mp pw;obtain⟨hl',rfl⟩:=dg hx;have hpl:p+l<rs2.length:=();have hln:l<ns.length:=();simp only[pA,F8];symm
     have xr:(rs2.map V.int)[p+l]? = some (.int rs2[p+l]):=by rw[Yz,YO hpl];rfl
     have xn:(ns.map V.int)[l]? = some (.int ns[l]):=by rw[Yz,YO hln];rfl
     have epl:(p:Int)+(0+(l:Int))=((p+l:Nat):Int):=();have vr:rs2[p+l]=nz rs1 (p+l):=by
      have:=e8 (p+l);rw[cq (YO hpl),Yc ()] at this;nofun
     have vn:ns[l]=nz ns l:=(cq (YO hln)).symm;refine⟨_,hr8,_,by rw[epl];exact ce xr,_,S8 _ _ hb,_,by rw[XH];exact ce xn,?_⟩
     rw[gH];refine⟨cg b4 (bn _ (YN hln)) (),_,rfl,_,rfl,_,hr8,p+l,by rw[epl];exact i6 (by rw[YC];exact hpl),λH9 B9 h9=>?_⟩
     rw[<-List.map_set] at h9;refine (hPw _ _ _).mpr ⟨rs2.set (p+l) (rs2[p+l]-part*ns[l]),_,rfl,λy o e=>B9 _ _ (ap e nr') (S8 _ _ e),h9,B9 _ _ ne'.symm hq8,by rw[YG];exact l8,λx hx=>?_,λk=>?_⟩
     .rcases List.mem_or_eq_of_mem_set hx with z|rfl
      .exact b8 x z
      .have y1:Bt (m+(c+1)*i+c) rs2[p+l]:=by rw[vr];exact gf b2 _
       have y2:Bt (m+(c+1)*i+c) (part*ns[l]):=b4.mul (bn _ (YN hln));unfold Bt at y1 y2 ⊢;rw[more,show m+((c+1)*i+(c+1))=(m+(c+1)*i+c)+1 by nofun,Nat.pow_succ]
       exact KE y1 y2
     .rw[ou hpl,e8 k];by_cases hk:k=p+l
      .subst hk;rw[Yb rfl,Yb (),show p+l-p=l by nofun,vr,vn]
      .rw[Yc hk];by_cases hk2:p<=k/\k<p+l
       .rw[Yb hk2,Yb ()]
       .rw[Yc hk2,Yc ()]
    .obtain⟨rs2,o8',rfl,S8,hr8,hq8,l8,b8,e8⟩:=(hPw _ _ _).mp pw;rw[cH] at e8;refine (hPv _ _ _).mpr ⟨ra',qa',rs2,qs1.set p part,S1,_,_,_,rfl,S8,hr8,hq8,nr',nq',ne',(),by rw[YG];exact l2,n1,b1,b8,λx hx=>?_,λk hk=>?_,?_⟩
     .rcases List.mem_or_eq_of_mem_set hx with z|rfl
      .exact (b3 x z).mono ()
      .exact b4.mono ()
     .rw[ou (),Yc ()];exact z1 k ()
     .exact zW (l:=ns.length-1) e1 (z1 p ()) (λk=>ou ()) () (λj hj=>bA ()) (by rw[e2,hLd]) e3 e8
   symm
   refine⟨hL,cz (λe0=>?_) (λe0=>?_)⟩
   .have dv:L∣Pt:=Int.dvd_of_fmod_eq_zero e0;have em:Pt.fdiv L*L=Pt:=gj hL dv;have bd:Bt (m+(c+1)*i) (Pt.fdiv L):=by
     unfold Bt at bP ⊢;have e1:(Pt.fdiv L).natAbs*L.natAbs=Pt.natAbs:=by rw[<-YV,em]
     have e2:(Pt.fdiv L).natAbs*1<=(Pt.fdiv L).natAbs*L.natAbs:=Xs _ ();nofun
    refine⟨hL,key ra qa (nz rs) rs.dropLast qs S (Pt.fdiv L) H5 S5 h5 hqa5 nra nqa nrq ldl lqs (nS.elim λe z=>⟨e,(),z.2⟩) (bS.mono (by rw[Nat.mul_add];nofun)) (λx hx=>(br x ((List.dropLast_sublist _).subset hx)).mono ()) (λx hx=>(bq x hx).mono ()) bd zq ev (by rw[nP,em]) (λk=>by rw[m5,top])⟩
   .refine⟨cg bS bL (),⟨_,.of (aQ hqa5)⟩,λq6 H6 hq6 S6 h6=>?_⟩;refine cn (its:=qs.map V.int) (λj zs H'=>aB (vw K H5) (vw K H')/\zs=((qs.take j).map λx=>L*x).map V.int) (λj zs H' _ _ z=>bI (z.1 _ _ hqa5)) h6 ⟨S6,rfl⟩ (λj x zs H' hj hx h' z=>?_) (λzs H7 h7 z=>?_)
    .obtain⟨z1,rfl⟩:=z;rw[YC] at hj;rw[Yz,YO hj] at hx;cases hx;symm
     refine⟨cg bL (bq _ (YN hj)) (),.mk h' ?_ λH8 B8 h8=>⟨λy o e=>B8 _ _ (ap e hq6) (z1 _ _ e),?_⟩⟩
     .rw[YC,YC,Yu];exact HB ()
     .rw[Xb,YO hj,XE,XE];rfl
    obtain⟨S57,rfl⟩:=z;rw[YC,Xd] at h7;have h57:=S57 _ _ h5;refine⟨⟨_,.of (aQ h57)⟩,λr8 H8 hr8 S8 h8=>?_⟩;refine cn (its:=rs.dropLast.map V.int) (λj zs H'=>aB (vw K H7) (vw K H')/\zs=((rs.dropLast.take j).map λx=>L*x).map V.int) (λj zs H' _ _ z=>bI (z.1 _ _ h57)) h8 ⟨S8,rfl⟩ (λj x zs H' hj hx h' z=>?_) (λzs H9 h9 z=>?_)
    .obtain⟨z1,rfl⟩:=z;rw[YC] at hj;rw[Yz,YO hj] at hx;cases hx;symm
     refine⟨cg bL (br _ ((List.dropLast_sublist _).subset (YN hj))) (),.mk h' ?_ λH8 B8 h8=>⟨λy o e=>B8 _ _ (ap e hr8) (z1 _ _ e),?_⟩⟩
     .rw[YC,YC,Yu];exact HB ()
     .rw[Xb,YO hj,XE,XE];rfl
    obtain⟨S79,rfl⟩:=z;rw[YC,Xd] at h9;have S07:=S5.trans S57;refine key r8 q6 (λk=>L*nz rs k) _ _ (S*L) Pt H9 (S07.trans S79) h9 (S79 _ _ h7) (S07.none hr8) (S5.none hq6) (ap h7 hr8).symm (by rw[YC];exact ldl) (by rw[YC];exact lqs) (nS.elim λe z=>⟨e+1,(),by rw[z.2,Xw]⟩) ((bS.mul bL).mono (by rw[Nat.mul_add];nofun)) (λx hx=>?_) (λx hx=>?_) bP (λk hk=>?_) (λk=>?_) ?_ (λk=>?_)
    .obtain⟨y,hy,rfl⟩:=List.mem_map.mp hx;exact (bL.mul (br y ((List.dropLast_sublist _).subset hy))).mono ()
    .obtain⟨y,hy,rfl⟩:=List.mem_map.mp hx;exact (bL.mul (bq y hy)).mono ()
    .rw[n8,zq k hk];nofun
    .rw[show nz (qs.map λx=>L*x)=λk=>L*nz qs k from funext λk=>n8 k,wU,<-Int.mul_add,<-ev k,Y6 S L,Y5]
    .show L*nz rs (p+(ns.length-1))=Pt*L;rw[nP,Y6]
    .rw[n8,m5,top];split<;>simp
  .obtain⟨ra,qa,rs,qs,S,o6,o7,o8,rfl,S4,hra,hqa,nra,nqa,nrq,lrs,lqs,nS,bS,br,bq,zq,ev⟩:=(hPv _ _ _).mp pv;rw[Ff] at lrs nS bS br bq zq;refine hN5 _ _ ?_;symm
   simp only[fg];refine .inr ?_;simp only[ny];symm
   refine⟨rs,hra,λd H5 ts S5 hd nd e5 l5 z5=>⟨∅,λp6 H6 hp6 S6 h6=>?_⟩⟩;have n9:n<=14:=();have k1:c*n<=200000*14:=Xl hc n9;have k2:(c+1)*n<=200001*14:=Xl () n9;refine h p6 qa d S qs ts H6 (S4.trans (S5.trans S6)) h6 ((S5.trans S6) _ _ hqa) (S6 _ _ hd) (S4.none nd) () () (nS.elim λe z=>⟨e,(),z.2.trans (by rw[hLd])⟩) (bS.mono ()) (λx hx=>(bq x hx).mono ()) (λx hx=>?_) z5 (λk=>?_)
   .obtain⟨k,hk⟩:=XI hx;have e:=e5 k;rw[cq hk] at e;rw[e];exact (gf br k).mono ()
   .rw[lqs,e5 k];exact ev k
inductive oI (K:W.Frag)(vs:List V)(H:Hp)(Q:VK)(E:XK):Prop
 | mk (x:Int)(n b:Nat):vs=[.int x,.int n]->n<=20->b<=200000->Bt b x->Q (.int (x^n)) H->oI K vs H Q E
theorem AF(F:dy K "power" "power" tL f fd) (T:dR K mg):aV P w K mg base dC 1 f fd ["base", "many"] (oI K):=by
 have scN:=uA.nd;refine F.okQ uA ?_ ?_;walk_at "q"
 .obtain⟨_,_,_,rfl,_⟩:=h;rfl
 .obtain⟨x,n,b,rfl,hn,hb,bx,h⟩:=h;refine⟨_,(af (aE (i:=2) scN rfl (·) ae)
   (af (cC PassesOwn.never rfl (cO rfl T.b_range (aa (qv 1) ac)) (aq (i:=3) scN rfl (·)) (ag (kX (i:=2) scN rfl (·) (qv 0) tJ)))
   (ag (au (qv 2))))),?_⟩
  walk_at"m";symm
  refine⟨(),(),?_⟩;rw[show ((n:Nat):Int).toNat=n by nofun]
  obtain⟨Pv,hPv⟩ : ∃Pv:Nat->St->Hp->Prop,∀i σ H',Pv i σ H'↔H'=H /\ ∃o,σ=[some (.int x),some (.int n),some (.int (x^i)),o]:=⟨_,λ_ _ _=>XD⟩;refine aX (its:=fT 0 n) Pv (λ_ _ _ _ _=>bH) ((hPv _ _ _).mpr ⟨rfl,_,by rw[Xv]⟩) (λi y σ H1 hi hy pv=>?_) (λσ H1 pv=>?_)
  .obtain⟨rfl,o,rfl⟩:=(hPv _ _ _).mp pv;obtain⟨hi',rfl⟩:=dg hy;symm
   have b1:=bx.pow1 i;have:b*i<=200000*20:=Xl hb ();refine⟨cg b1 bx (),(hPv _ _ _).mpr ⟨rfl,_,by rw[Xw]⟩⟩
  .obtain⟨rfl,o,rfl⟩:=(hPv _ _ _).mp pv;rw[cH];symm
   exact h
def qR(G:Hp)(t:Addr)(tv:List V)(rows:List (List Int×List Int×Int×Int)):Prop:=tv.length=rows.length /\ ∀(k:Nat) row,rows[k]? = some row->X3 λ(p ra qa:Addr)=>tv[k]? = some (.ref p)/\G p=some (.tup [.ref ra,.ref qa,.int row.2.2.1,.int row.2.2.2])/\G ra=some (.lst (row.1.map V.int))/\G qa=some (.lst (row.2.1.map V.int))/\ra≠t/\qa≠t
theorem qR.same{G G':Hp}{t:Addr}{tv:List V}{rows:List (List Int×List Int×Int×Int)}(h:qR G t tv rows)(S:aB G G'):qR G' t tv rows:=⟨h.1,λk row e=>by
 obtain⟨p,ra,qa,a,b,c,d,n⟩:=h.2 k row e;exact⟨p,ra,qa,a,S _ _ b,S _ _ c,S _ _ d,n⟩⟩
def GK(row:List Int×List Int×Int×Int):Prop:=row.1.length<=9/\(∀x∈row.1,Bt 178400 x)/\Bt 2000000 row.2.2.1/\Bt 2000000 row.2.2.2/\row.2.1.length<=9/\1<=row.2.1.length /\ ∀x∈row.2.1,Bt 7000000 x
inductive gu (K:W.Frag)(vs:List V)(H:Hp)(Q:VK)(E:XK):Prop
 | mk (a b:Addr)(ms ns:List Int):vs=[.ref a,.ref b]->vw K H a=some (.lst (ms.map V.int))->vw K H b=some (.lst (ns.map V.int))->ms≠[]->ns.length<=ms.length->jQ 11100 ms->jQ 11100 ns->(∀(d:Addr)(H':Hp)(tv:List V) rows,aB (vw K H) (vw K H')->vw K H' d=some (.lst tv)->qR (vw K H') d tv rows->uW ms ns rows->Di 1 1 ms ns rows->rows.length<=9->(∀row∈rows,GK row)->Q (.ref d) H')->gu K vs H Q E
theorem nG(F:dy K "wholes_rests" "wholes_rests" gN f fd) (T:dR K mg)(N_:nO P base)(C_power:cp P w K mg base "power" ["base", "many"] 1 (oI K)) (C_wholes_parted:cp P w K mg base "wholes_parted" ["one", "other"] 2 (dZ K)):aV P w K mg base dC 3 f fd ["one", "other"] (gu K):=by
 have scN:=jt.nd;refine F.okQ jt ?_ ?_;walk_at "q"
 .obtain⟨_,_,_,_,rfl,_⟩:=h;rfl
 .obtain⟨a,b,ms,ns,rfl,ha,hb,m0,lmn,im,il,h⟩:=h;refine⟨_,(af (aE (i:=2) scN rfl (·) (aU ac))
   (af (cW (aT (aa ae (aa ae ac))) (bO (n:=2) rfl (ay (aq (i:=3) scN rfl (·)) (ay (aq (i:=4) scN rfl (·)) bQ))))
   (af (gh PassesOwn.never (gL (qv 1) (λ_=>rfl)) (af (aE (i:=5) scN rfl (·) (ar bN (ai ao (by rfl) T.b_len aD (aa (qv 0) ac)) (ai ao (by rfl) T.b_len aD (aa (qv 1) ac))))
   (af (aE (i:=6) scN rfl (·) (ah C_power nofun rfl (aa (av cT (qv 1) (eE cV ae) (λ_ _=>rfl)) (aa (ar aW (qv 5) ae) ac))))
   (af (cW (ah C_wholes_parted nofun rfl (aa (qv 0) (aa (qv 1) ac))) (bO (n:=3) rfl (ay (aq (i:=7) scN rfl (·)) (ay (aq (i:=8) scN rfl (·)) (ay (aq (i:=9) scN rfl (·)) bQ)))))
   (af (aE (i:=10) scN rfl (·) (ar aM (qv 3) (ah C_power nofun rfl (aa (qv 4) (aa (qv 5) ac)))))
   (af (b9 (gL (qv 8) (λ_=>rfl)) (af (aE (i:=11) scN rfl (·) (ar (gO N_ hr rfl rfl rfl) (qv 6) (qv 9)))
   (af (lW (i:=8) (own:=["whole"]) (outs:=["top", "lack"]) (ixs:=[10,11]) scN rfl (·) rfl (cR (qv 8)) rfl ⟨rfl,rfl,rfl,⟨rfl,⟨rfl,trivial⟩⟩,rfl,⟨⟨rfl,rfl,rfl,_,rfl⟩,⟨⟨rfl,rfl,rfl,_,rfl⟩,trivial⟩⟩⟩ (λ_ _ _ _=>⟨(aq (i:=0) (show (["whole", "top", "lack"]:List Str).Nodup by decide +kernel) rfl (·)),dJ,(ar (AR N_ hr rfl rfl rfl rfl rfl) (ar (show eO _ _ (ic K) from aM) (qv 2) (qv 0)) (qv 1))⟩))
   (ag (iT (oN XG XJ XM fe (qv 2) (aa (aT (aa (qv 8) (aa (dH (own:=["whole"]) (outs:=["lack"]) (ixs:=[11]) rfl (cR (qv 7)) rfl ⟨rfl,rfl,rfl,⟨rfl,trivial⟩,rfl,⟨⟨rfl,rfl,rfl,_,rfl⟩,trivial⟩⟩ (λ_ _ _ _=>⟨(aq (i:=0) (show (["whole", "lack"]:List Str).Nodup by decide +kernel) rfl (·)),dJ,(ar (show eO _ _ (ic K) from aM) (qv 1) (qv 0))⟩)) (aa (qv 10) (aa (qv 6) ac))))) ac)))))) aO)
   (af (sT (i:=0) (j:=1) rfl scN rfl rfl ∅ rfl rfl (aa (qv 1) (aa (qv 8) ac)) rfl)
   (af (aE (i:=3) scN rfl (·) (av cT (qv 0) (eE cV ae) (λ_ _=>rfl)))
   (ag (b9 (aH jz (qv 5) ae (aC _)) (ag (aE (i:=4) scN rfl (·) (ar (gO N_ hr rfl rfl rfl) (ah C_power nofun rfl (aa (qv 3) (aa (qv 5) ac))) (ah C_power nofun rfl (aa (qv 4) (aa (ar bN (qv 5) ae) ac)))))) aO))))))))))
   (ag (au (qv 2)))))),?_⟩
  walk_at"m";skip
  refine aP.gen λN1 hN1=>?_;symm
  refine⟨∅,λt H1 ht S1 h1=>hN1 _ _ ?_⟩;refine aP.gen λN2 hN2=>?_;symm
  refine⟨∅,λp2 H2 hp2 S2 h2=>⟨_,rfl,_,h2,rfl,_,_,rfl,_,_,rfl,rfl,hN2 _ _ ?_⟩⟩;refine aP.gen λN3 hN3=>?_;symm
  have nt:vw K H t=none:=ht;have S02:=S1.trans S2;obtain⟨W,hW⟩ : ∃W:Nat->St->Hp->Prop,∀m σ H',W m σ H'↔KC λ(oa ra:Addr)(Fs Gs:List Int)(tv:List V)(rows:List (List Int×List Int×Int×Int))(x g:Int)(o5 o6 o7 o8 o9 o10 o11:Option V)=>σ=[some (.ref oa),some (.ref ra),some (.ref t),some (.int x),some (.int g),o5,o6,o7,o8,o9,o10,o11]/\m=Gs.length/\aB (vw K H) (vw K H')/\vw K H' t=some (.lst tv)/\vw K H' oa=some (.lst (Fs.map V.int))/\vw K H' ra=some (.lst (Gs.map V.int))/\oa≠t/\ra≠t /\
    Fs≠[]/\tv.length+Gs.length<=9/\Gs.length<=Fs.length/\jQ 177665 Fs/\jQ 177665 Gs/\(∀r,uW Fs Gs r->uW ms ns (rows++r))/\(∀r,Di x g Fs Gs r->Di 1 1 ms ns (rows++r))/\(Gs≠[] -> ∃S1,wI 177665 S1 (nz Fs) (nz Gs) (Fs.length-1) (Gs.length-1) x g) /\
    qR (vw K H') t tv rows /\ ∀row∈rows,GK row:=⟨_,λ_ _ _=>XD⟩
  have btn:∀{n:Nat}{l:List Int},jQ n l -> ∀k,Bt n (nz l k):=λi k=>gf i.2.1 k;have up:∀{l:List Int},jQ 11100 l->jQ 177665 l:=λi=>i.up ∅;have lp:∀{l:List Int},l≠[]->0<l.length:=λh=>List.length_pos_iff.mpr h;refine⟨W,⟨_,(hW _ _ _).mpr ⟨a,b,ms,ns,[],[],1,1,_,_,_,_,_,_,_,rfl,rfl,S02,S2 _ _ h1,S02 _ _ ha,S02 _ _ hb,ap ha nt,ap hb nt,m0,by have:=il.1;simp;nofun,lmn,up im,up il,λr z=>z,λr z=>z,λn0=>⟨_,wI.first (b:=11100) () (by have:=im.1;nofun) ∅ (btn im) (btn il) (il.2.2 n0) (λk hk=>bA (by have:=lp n0;nofun)) (λk hk=>bA (by have:=lp m0;nofun))⟩,⟨rfl,by simp⟩,by simp⟩⟩,λm σ H3 hw=>?_⟩
  obtain⟨oa,ra,Fs,Gs,tv,rows,x,g,o5,o6,o7,o8,o9,o10,o11,rfl,rfl,S3,ht3,hF,hG,noa,nra,f0,lt7,lGF,iF,iG,gc,gc2,gs,rt,rwb⟩:=(hW _ _ _).mp hw;refine⟨_,rfl,_,ke hG,cz (λhc=>⟨_,λσ' H' z=>z,?_⟩) (λhc=>hN3 _ _ ?_)⟩
  .have g0:Gs≠[]:=λz=>by rw[z] at hc;cases hc
   obtain⟨Sx,I⟩:=gs g0;have lg:=lp g0;obtain⟨δ,hδ⟩ : ∃δ,δ=Fs.length-Gs.length:=⟨_,rfl⟩;have hδ2:Fs.length-1-(Gs.length-1)=δ:=KB (List.length_pos_iff.mpr g0) hδ;have hgl:Gs.length-1<Gs.length:=();obtain⟨c,hcd⟩ : ∃c,c=nz Gs (Gs.length-1):=⟨_,rfl⟩;have hce:Gs[Gs.length-1]=c:=by rw[hcd,cq (YO hgl)]
   have bc:Bt 177665 c:=hcd▸btn iG _;have c0:c≠0:=hcd▸iG.2.2 g0;have xl:(Gs.map V.int).getLast? = some (.int c):=by
    rw[YX,YC,Yz,YO hgl,hce];rfl
   have lF7:=iF.1;refine aP.gen λM1 hM1=>?_;symm
   refine⟨Fs.length,by simp only[de,hF,YC],Gs.length,by simp only[de,hG,YC],hM1 _ _ ?_⟩
   rw[KF lGF hδ];refine aP.gen λM2 hM2=>?_;symm
   refine⟨_,hG,_,gd xl,⟨c,δ+1,177665,rfl,(),∅,bc,hM2 _ _ ?_⟩⟩;refine aP.gen λM3 hM3=>?_;symm
   refine⟨oa,ra,Fs,Gs,177665,177665,rfl,hF,hG,lg,iG.2.2 g0,(),(),∅,∅,iF.2.1,iG.2.1,λp4 qa rb S qs rs H4 S4 h4 hqa hrb nrb lq lr hSe bS bq br lrz ev=>⟨_,rfl,_,h4,rfl,_,_,rfl,_,_,rfl,_,_,rfl,rfl,hM3 _ _ ?_⟩⟩;obtain⟨e,he,hS⟩:=hSe;rw[<-hcd] at hS;have lq2:qs.length=δ+1:=KO lq lGF hδ;have S0:S≠0:=by rw[hS];exact Xx c0
   obtain⟨lack,hlack⟩ : ∃lack,lack=c^(δ+1-e):=⟨_,rfl⟩;have elk:c^(δ+1)=lack*S:=by rw[hlack,hS,<-JB,Nat.sub_add_cancel (Yg he (Nat.le_of_eq (lq.symm.trans lq2)))]
   obtain⟨top,htop⟩ : ∃top,top=x*g^δ:=⟨_,rfl⟩;have top0:top≠0:=by rw[htop];exact Y8 I.inv.x0 (Xx I.inv.h0)
   have δ6:177665*δ<=177665*8:=Xs _ ();have btop:Bt 2000000 top:=by rw[htop];exact (I.bx.mul (I.bh.pow1 δ)).mono ()
   have black:Bt 2000000 lack:=by
    rw[hlack];refine (bc.pow1 _).mono ?_;have:177665*(δ+1-e)<=177665*9:=Xs _ ();nofun
   have bgam:Bt 2000000 (c^(δ+1)):=by
    refine (bc.pow1 _).mono ?_;have:177665*(δ+1)<=177665*9:=Xs _ ();nofun
   refine aP.gen λM4 hM4=>?_;symm
   refine⟨g,δ,177665,rfl,(),∅,I.bh,?_⟩;rw[gH];refine⟨cg I.bx (I.bh.pow1 δ) (),hM4 _ _ ?_⟩;rw[<-htop];have ev2:∀k,c^(δ+1)*nz Fs k=pz (λi=>lack*nz qs i) (nz Gs) (δ+1) k+lack*nz rs k:=λk=>by
    rw[wU,<-Int.mul_add,<-lq2,<-ev k,<-Y5,<-elk,lq2]
   obtain⟨r,g',hR,bR,r0,ng',bg',hh,next⟩:=I.rest (q:=λi=>lack*nz qs i) (R:=λk=>lack*nz rs k) (λk hk=>by rw[bA (),Xi]) (λk=>by rw[<-hcd,hδ2];exact ev2 k)
   rw[hδ2,<-htop] at hR;rw[<-hcd,hδ2] at hh;rw[<-hcd] at next
   refine aP.gen λM5 hM5=>?_;have key:∀(rc:Addr)(Rs:List Int)(tv':List V)(rows':List (List Int×List Int×Int×Int))(H':Hp)(u7 u11:Option V),aB (vw K H) (vw K H')->vw K H' t=some (.lst tv')->vw K H' ra=some (.lst (Gs.map V.int))->vw K H' rc=some (.lst (Rs.map V.int))->rc≠t->Rs.length<Gs.length->tv'.length+Rs.length<=9->(∀k,nz Rs k=r k)->jQ 177665 Rs->(∀r,uW Gs Rs r->uW ms ns (rows'++r))->(∀r,Di c g' Gs Rs r->Di 1 1 ms ns (rows'++r))->qR (vw K H') t tv' rows'->(∀row∈rows',GK row)->M5 [some (.ref oa),some (.ref ra),some (.ref t),some (.int x),some (.int g),some (.int δ),some (.int (c^(δ+1))),u7,some (.ref rc),some (.int S),some (.int top),u11] H':=by
    intro rc Rs tv' rows' H' u7 u11 Sx' ht' hG' hR' nrc lR lt' eR iR gc' gd' rt' rb';have fin:∀u7 u11:Option V,∃m',m'<Gs.length/\W m' [some (.ref ra),some (.ref rc),some (.ref t),some (.int c),some (.int g'),some (.int δ),some (.int (c^(δ+1))),u7,some (.ref rc),some (.int S),some (.int top),u11] H':=λu7 u11=>by
     refine⟨Rs.length,lR,(hW _ _ _).mpr ⟨ra,rc,Gs,Rs,tv',rows',c,g',_,_,_,_,_,_,_,rfl,rfl,Sx',ht',hG',hR',nra,nrc,g0,lt',(),iG,iR,gc',gd',λz=>?_,rt',rb'⟩⟩;have lz:=lp z;have e1:r=nz Rs:=funext λk=>(eR k).symm;have nx:=next (Rs.length-1) (J5 lR lz) (by rw[<-eR];exact iR.2.2 z) (λk hk=>by rw[<-eR];exact bA ())
     rw[e1] at nx;exact⟨_,nx⟩
    refine hM5 _ _ ?_;symm
    refine⟨_,hG',_,gd xl,cz (λh0=>?_) (λh0=>?_)⟩
    .rcases hh with ⟨z,_⟩|⟨_,z2⟩
     .nofun
     have δ5:177665*(δ-1)<=177665*8:=Xs _ ();have u0:g^(δ-1)≠0:=Xx I.inv.h0;refine⟨c,δ,177665,rfl,(),∅,bc,⟨g,δ-1,177665,by rw[show ((δ:Int)-1)=((δ-1:Nat):Int) by nofun],(),∅,I.bh,_,rfl,_,rfl,u0,?_⟩⟩
     have e1:(c^δ).fdiv (g^(δ-1))=g':=Y7 u0 (by rw[gj u0 ⟨g',by rw[<-z2,Y6]⟩,z2])
     rw[e1];exact fin u7 u11
    .rcases hh with ⟨_,z⟩|⟨z,_⟩
     .rw[<-z];exact fin u7 u11
     .nofun
   have nt4:t≠rb:=ap ht3 nrb;symm
   refine⟨_,ke hrb,cz (λhc2=>?_) (λhc2=>?_)⟩
   .have ef:(c^(δ+1)).fdiv S=lack:=Y7 S0 (by rw[gj S0 ⟨lack,by rw[elk,Y6]⟩,elk])
    rw[ef];have rs0:rs≠[]:=λz=>by rw[z] at hc2;cases hc2
    have lrs:=lp rs0;refine⟨S0,⟨_,.of (aQ hrb)⟩,λd6 H6 hd6 S6 h6=>?_⟩;refine cn (its:=rs.map V.int) (λj zs H'=>aB (vw K H4) (vw K H')/\zs=((rs.take j).map λy=>(lack*y).fdiv top).map V.int) (λj zs H' _ _ z=>bI (z.1 _ _ hrb)) h6 ⟨S6,rfl⟩ (λj y zs H' hj hy h' z=>?_) (λzs H7 h7 z=>?_)
    .obtain⟨z1,rfl⟩:=z;rw[YC] at hj;rw[Yz,YO hj] at hy;cases hy;symm
     refine⟨cg black (br _ (YN hj)) (),top0,.mk h' ?_ λH8 B8 h8=>⟨λy o e=>B8 _ _ (ap e hd6) (z1 _ _ e),?_⟩⟩
     .rw[YC,YC,Yu];exact HB ()
     .rw[Xb,YO hj,XE,XE];rfl
    obtain⟨S47,rfl⟩:=z;rw[YC,Xd] at h7;refine⟨jG (S47 _ _ (S4 _ _ ht3)),⟨_,.of (aQ (S47 _ _ hqa))⟩,λd8 H8 hd8 S8 h8=>?_⟩;refine cn (its:=qs.map V.int) (λj zs H'=>aB (vw K H7) (vw K H')/\zs=((qs.take j).map λy=>lack*y).map V.int) (λj zs H' _ _ z=>bI (z.1 _ _ (S47 _ _ hqa))) h8 ⟨S8,rfl⟩ (λj y zs H' hj hy h' z=>?_) (λzs H9 h9 z=>?_)
    .obtain⟨z1,rfl⟩:=z;rw[YC] at hj;rw[Yz,YO hj] at hy;cases hy;symm
     refine⟨cg black (bq _ (YN hj)) (),.mk h' ?_ λH8 B8 h8=>⟨λy o e=>B8 _ _ (ap e hd8) (z1 _ _ e),?_⟩⟩
     .rw[YC,YC,Yu];exact HB ()
     .rw[Xb,YO hj,XE,XE];rfl
    obtain⟨S79,rfl⟩:=z;have S49:=S47.trans S79;refine⟨∅,λp10 H10 hp10 S10 h10=>?_⟩;have ht10:=S10 _ _ (S49 _ _ (S4 _ _ ht3));refine⟨tv,ht10,?_,λH11 B11 h11=>?_⟩
    .have:1000<=sizeLine:=∅;nofun
    have nt6:t≠d6:=ap (S4 _ _ ht3) hd6;have nt10:p10≠t:=(ap (S49 _ _ (S4 _ _ ht3)) hp10).symm;have S410:=S49.trans S10;have hd7:=(S79.trans S10) _ _ h7;have lRs:(rs.map λy=>(lack*y).fdiv top).length=rs.length:=YC _;have eR:∀k,nz (rs.map λy=>(lack*y).fdiv top) k=r k:=λk=>by
     have q1:=hR k;cases ek:rs[k]? with
     | none =>
      have l:=List.getElem?_eq_none_iff.mp ek;rw[bA l,Xi] at q1;rw[bA (by rw[lRs];exact l)]
      rcases Int.mul_eq_zero.mp q1.symm with z|z
      .exact absurd z top0
      .exact z.symm
     | some y =>
      rw[cq ek] at q1;rw[cq (n:=(lack*y).fdiv top) (by rw[Yz,ek];rfl)]
      exact Y7 top0 (by rw[gj top0 ⟨_,q1⟩,q1,Y6])
    have R0:(rs.map λy=>(lack*y).fdiv top)≠[]:=λz=>rs0 (List.map_eq_nil_iff.mp z);have Rl0:nz (rs.map λy=>(lack*y).fdiv top) ((rs.map λy=>(lack*y).fdiv top).length-1)≠0:=by
     rw[lRs,eR];intro z;have q1:=hR (rs.length-1);rw[z,Xi] at q1;rcases Int.mul_eq_zero.mp q1 with y|y
     .exact Xx c0 (hlack▸y)
     .exact lrz () y
    have Rb:∀x∈(rs.map λy=>(lack*y).fdiv top),Bt 177665 x:=λx hx=>by
     obtain⟨k,hk⟩:=XI hx;rw[<-cq hk,eR];exact bR k
    have nzq:∀i,nz (qs.map λy=>lack*y) i=lack*nz qs i:=λi=>by
     cases ek:qs[i]? with
     | none =>
      have l:=List.getElem?_eq_none_iff.mp ek;rw[bA l,bA (by rw[YC];exact l),Xi]
     | some y=>rw[cq ek,cq (n:=lack*y) (by rw[Yz,ek];rfl)]
    have Kt:∀k,c^(δ+1)*nz Fs k=pz (nz (qs.map λy=>lack*y)) (nz Gs) (qs.map λy=>lack*y).length k+top*nz (rs.map λy=>(lack*y).fdiv top) k:=λk=>by
     rw[show nz (qs.map λy=>lack*y)=λi=>lack*nz qs i from funext nzq,YC,lq2,ev2 k,eR,hR k]
    rw[YC,Xd] at h9;have hq10:=S10 _ _ h9;have nt8:d8≠t:=(ap ((S47) _ _ (S4 _ _ ht3)) hd8).symm;refine key d6 _ (tv++[.ref p10]) (rows++[(rs.map λy=>(lack*y).fdiv top,qs.map λy=>lack*y,top,c^(δ+1))]) H11 _ _ (λy o e=>B11 _ _ (ap e nt) ((S3.trans (S4.trans S410)) _ _ e)) h11 (B11 _ _ nra ((S4.trans S410) _ _ hG)) (B11 _ _ nt6.symm hd7) nt6.symm (by rw[lRs];exact lr) (by rw[lRs,YB];simp;nofun) eR ⟨by rw[lRs];nofun,Rb,λ_=>Rl0⟩ (λr' z=>?_) (λr' z=>?_) ⟨by simp[rt.1],λk row e=>?_⟩ (λrow lj=>?_)
    .rw[YI];exact gc _ (.more g0 (iG.2.2 g0) (Xx c0) top0 R0 Rl0 (by rw[lRs];exact lr) (by rw[YC];nofun) Kt z)
    .rw[YI];refine gc2 _ (.more (h':=g') g0 (by rw[<-hcd,hδ]) (by rw[htop,hδ]) ng' ?_ (by rw[<-hcd];exact z))
     rw[<-hcd,<-hδ];rcases hh with ⟨y1,y2⟩|⟨y1,y2⟩
     .exact .inl ⟨(),y2⟩
     .exact .inr ⟨(),y2⟩
    .by_cases hk:k<rows.length
     .rw[Yy hk] at e;obtain⟨p,ra',qa',a1,a2,a3,a4,a5,a6⟩:=rt.2 k row e;have S3z:=S4.trans S410;exact⟨p,ra',qa',by rw[Yy (by rw[rt.1];exact hk)];exact a1,B11 _ _ (λz=>by rw[z,ht3] at a2;cases a2) (S3z _ _ a2),B11 _ _ a5 (S3z _ _ a3),B11 _ _ a6 (S3z _ _ a4),a5,a6⟩
     .have hk2:k=rows.length:=by
       have:=(List.getElem?_eq_some_iff.mp e).1;simp at this;nofun
      subst hk2;rw[Yw (),XB] at e;cases e;exact⟨p10,d6,d8,by rw[Yw (by rw[rt.1];nofun),rt.1,XB];rfl,B11 _ _ nt10 h10,B11 _ _ nt6.symm hd7,B11 _ _ nt8 hq10,nt6.symm,nt8⟩
    .rcases List.mem_append.mp lj with z|z
     .exact rwb row z
     .cases List.mem_singleton.mp z;refine⟨by rw[lRs];nofun,λx hx=>(Rb x hx).mono ∅,btop,bgam,by rw[YC];nofun,by rw[YC];nofun,λx hx=>?_⟩
      obtain⟨y,hy,rfl⟩:=List.mem_map.mp hx;exact (black.mul (bq y hy)).mono ∅
   .have r1:rs=[]:=by
     cases rs with
     | nil=>rfl
     | cons _ _=>exact absurd rfl hc2
    subst r1;refine key rb [] tv rows H4 _ _ (S3.trans S4) (S4 _ _ ht3) (S4 _ _ hG) hrb nt4.symm (by simp;nofun) (by simp;nofun) (λk=>?_) ⟨by simp,by simp,λz=>absurd rfl z⟩ (λr' z=>?_) (λr' z=>?_) (rt.same S4) rwb
    .have:=hR k;rw[show nz [] k=0 from bA (by simp),Xi] at this
     rcases Int.mul_eq_zero.mp this.symm with z|z
     .exact absurd z top0
     .rw[show nz [] k=0 from bA (by simp),z]
    .have er:r'=[]:=by
      cases z with
      | nought=>rfl
      | last h _ _ _ _=>exact absurd rfl h
      | more h _ _ _ _ _ _ _ _ _=>exact absurd rfl h
     subst er;refine gc _ (.last g0 (iG.2.2 g0) S0 (Q:=qs) () λk=>?_);rw[ev k,show nz [] k=0 from bA (by simp)]
     nofun
    .have er:r'=[]:=by
      cases z with
      | nil=>rfl
      | more h _ _ _ _ _=>exact absurd rfl h
     subst er;exact gc2 _ .nil
  .have g1:Gs=[]:=by
    cases Gs with
    | nil=>rfl
    | cons _ _=>exact absurd rfl hc
   subst g1;symm
   have:=gc [] .nought;rw[List.append_nil] at this;have this2:=gc2 [] .nil;rw[List.append_nil] at this2;exact h t H3 tv rows S3 ht3 rt this this2 (by rw[<-rt.1];nofun) rwb
inductive oV (K:W.Frag)(vs:List V)(H:Hp)(Q:VK)(E:XK):Prop
 | mk (a:Addr)(fs:List (Int×Int)):vs=[.ref a]->aF (vw K H) a fs->fs.length<=40->(∀q∈fs,Fq q/\Bq 12000 q)->aL fs->(∀d H' (rs:List (Int×Int)),aB (vw K H) (vw K H')->aF (vw K H') d rs->vw K H d=none->aL rs->(∀k,cf rs k=((k+1:Nat):Int)*cf fs (k+1))->rs.length=fs.length-1->Q (.ref d) H')->oV K vs H Q E
theorem An(F:dy K "slope" "slope" tG f fd) (T:dR K mg)(C_times:cp P w K mg base "times" ["one", "other"] 3 (oK K)):aV P w K mg base dC 4 f fd ["f"] (oV K):=by
 have scN:=ve.nd;refine F.okQ ve ?_ ?_;walk_at "q"
 .obtain⟨a,_,rfl,_⟩:=h;rfl
 .obtain⟨a,fs,rfl,ha,lf,hf,pf,h⟩:=h;refine⟨_,(ag (au (dH (own:=["k"]) (outs:=["f"]) (ixs:=[0]) rfl (mE rfl T.b_range (aa ae (aa (ai ao (by rfl) T.b_len aD (aa (qv 0) ac)) ac))) rfl ⟨rfl,rfl,rfl,⟨rfl,trivial⟩,rfl,⟨⟨rfl,rfl,rfl,_,rfl⟩,trivial⟩⟩ (λ_ _ _ _=>⟨(aq (i:=0) (show (["k", "f"]:List Str).Nodup by decide +kernel) rfl (·)),dJ,(ah C_times nofun rfl (aa (show QE _ _ (vx K _) from aT (aa (qv 0) (aa ae ac))) (aa (av (show yu _ (wp K) from cT) (qv 1) (qv 0) (λ_ _=>rfl)) ac)))⟩)))),?_⟩
  walk_at"m";symm
  obtain⟨xs,hxs,rxs⟩:=id ha;have hlx:xs.length=fs.length:=by rw[rxs.length,YC]
  refine⟨_,ha.len,(),(),(),(),λd H1 hd S1 h1=>?_⟩;rw[show ((fs.length:Int)-1).toNat=fs.length-1 by nofun]
  have f1:∀k:Nat,Fq (((k:Nat):Int),1):=λk=>⟨Int.one_pos,by simp⟩
  refine cn (its:=fT 1 (fs.length-1)) (λi zs H'=>aB (vw K H) (vw K H') /\ ∃vs:List (Int×Int),vs.length=i/\aN (vw K H') (vs.map fr) zs/\(∀q∈vs,Fq q) /\ ∀(j:Nat)(q:Int×Int),vs[j]? = some q->wv q=((j+1:Nat):Int)*cf fs (j+1))
   (λ_ _ _ _ _ _=>bH) h1 ⟨S1,[],rfl,.mk_nil,by simp,by simp⟩ (λi x zs H2 hi hx h2 p=>?_) (λzs H2 h2 p=>?_)
  .obtain⟨S2,vs,lv,rv,fv,hv⟩:=p;obtain⟨hi',rfl⟩:=dg hx;rw[show (1:Int)+(i:Int)=((i+1:Nat):Int) by nofun]
   have hi2:i+1<fs.length:=();obtain⟨x2,e2,r2⟩:=rxs.at (i:=i+1) (d:=fr fs[i+1]) (by rw[Yz,YO hi2];rfl)
   obtain⟨k1,k2⟩:=hf fs[i+1] (YN hi2);have bi:Bq 10 (((i+1:Nat):Int),1):=by
    refine⟨?_,(by decide:Bt 10 1)⟩
    show (((i+1:Nat):Int)).natAbs<2^10;nofun
   symm
   refine⟨∅,λp3 H3 hp3 S3 h3=>⟨xs,S3 _ _ (S2 _ _ hxs),x2,ce e2,?_⟩⟩;simp only[oK];symm
   refine⟨_,bC h3,_,aI.same (S2.trans S3) _ _ r2,(f1 (i+1)).ne,k1.ne,bi.mono ∅,k2.mono ∅,(bi.2.mul k2.2).mono ∅,λv4 H4 S4 r4=>.mk ((S3.trans S4) _ _ h2) ?_ λH5 B5 h5=>⟨λb o e=>B5 _ _ (ap e hd) (S4 _ _ (S3 _ _ (S2 _ _ e))),vs++[mW (((i+1:Nat):Int),1) fs[i+1]],by simp[lv],?_,λq hq=>?_,λj q e=>?_⟩⟩
   .rw[rv.length,YC,lv];have:1000<=sizeLine:=∅;nofun
   .rw[XE];exact (aN.flat_but ((S3.trans S4) _ _ h2) B5 _ _ (dW vs) (rv.same (S3.trans S4))).snoc (aI.flat_but ((S3.trans S4) _ _ h2) B5 _ _ (cE _) r4)
   .rcases List.mem_append.mp hq with z|z
    .exact fv q z
    .cases List.mem_singleton.mp z;exact jf (f1 (i+1)) k1
   .by_cases hj:j<vs.length
    .rw[Yy hj] at e;exact hv j q e
    .have hj2:j=i:=by
      have:=(List.getElem?_eq_some_iff.mp e).1;simp at this;nofun
     subst hj2;rw[Yw (),lv,XB] at e;cases e;rw[kO (f1 (j+1)).ne k1.ne,aG (YO hi2)];have e1:wv (((j+1:Nat):Int),1)=((j+1:Nat):Int):=by
      show (((j+1:Nat):Int):Rat)/((1:Int):Rat)=_;have:((1:Int):Rat)=1:=rfl;rw[this];grind
     rw[e1]
  .obtain⟨S2,vs,lv,rv,fv,hv⟩:=p;rw[cH] at lv;refine h d H2 vs S2 ⟨zs,h2,rv⟩ hd ⟨fv,λq hq=>?_⟩ (λk=>?_) lv
   .intro e0;have hl:0<vs.length:=by
     cases vs with
     | nil=>cases hq
     | cons _ _=>simp
    rw[YX] at hq;have e1:=hv _ q hq;rw[(fP (fv q (YA hq)).ne).mpr e0] at e1;have e2:fs[vs.length-1+1]? = some (fs[vs.length-1+1]'()):=YO ();rw[aG e2] at e1;have e3:fs.getLast? = some (fs[vs.length-1+1]'()):=by
     rw[YX,<-e2];congr 1
     nofun
    have e4:=pf.2 _ e3;have e5:wv (fs[vs.length-1+1]'())≠0:=λz=>e4 ((fP (pf.1 _ (YN _)).ne).mp z);have e6:(((vs.length-1+1:Nat):Int):Rat)≠0:=am ();grind
   .by_cases hk:k<vs.length
    .rw[aG (YO hk)];exact hv k _ (YO hk)
    .rw[aK (),aK (qs:=fs) ()];grind
def dd(K:W.Frag):Sp:=λvs H Q _=>∃(a:Addr)(ns:List Int)(d:Int),vs=[.ref a,.int d]/\vw K H a=some (.lst (ns.map V.int))/\ns.length<=100/\d≠0/\Bt 80000000 d /\
 ∀c H' (rs:List (Int×Int)),aB (vw K H) (vw K H')->aF (vw K H') c rs->vw K H c=none->aL rs->(∀k,cf rs k=((nz ns k:Int):Rat)/(d:Rat))->rs.length<=ns.length->(∀q∈rs,∃n∈ns,q=lo n d)->Q (.ref c) H'
theorem we(F:dy K "divided" "divided" lZ f fd) (T:dR K mg)(C_trimmed:cp P w K mg base "trimmed" ["numbers", "zero"] 1 (fg K)) (C_ratio:cp P w K mg base "ratio" ["top", "bottom"] 2 (eI K)):aV P w K mg base dC 3 f fd ["wholes", "bottom"] (dd K):=by
 have scN:=qp.nd;refine F.okQ qp ?_ ?_;walk_at "q"
 .obtain⟨a,_,_,rfl,_⟩:=h;rfl
 .obtain⟨a,ns,d,rfl,ha,ln,nd,bd,h⟩:=h;obtain⟨z_ZERO,hg_ZERO,hv_ZERO⟩:=T.g_ZERO;refine⟨_,(ag (au (ah C_trimmed nofun rfl (aa (dH (own:=["whole"]) (outs:=["bottom"]) (ixs:=[1]) rfl (cR (qv 0)) rfl ⟨rfl,rfl,rfl,⟨rfl,trivial⟩,rfl,⟨⟨rfl,rfl,rfl,_,rfl⟩,trivial⟩⟩ (λ_ _ _ _=>⟨(aq (i:=0) (show (["whole", "bottom"]:List Str).Nodup by decide +kernel) rfl (·)),dJ,(ah C_ratio nofun rfl (aa (qv 0) (aa (qv 1) ac)))⟩)) (aa (fJ (v:=V.ref z_ZERO) rfl hg_ZERO rfl) ac))))),?_⟩
  walk_at"m";symm
  refine⟨⟨_,.of (aQ ha)⟩,λe H1 he S1 h1=>?_⟩;refine cn (its:=ns.map V.int) (λi zs H'=>aB (vw K H) (vw K H')/\aN (vw K H') (((ns.take i).map λn=>lo n d).map fr) zs)
   (λ_ _ H' _ _ p=>bI (p.1 _ _ ha)) h1 ⟨S1,.mk_nil⟩ (λi x zs H2 hi hx h2 p=>?_) (λzs H2 h2 p=>?_)
  .obtain⟨S2,rv⟩:=p;rw[YC] at hi;rw[Yz,YO hi] at hx;cases hx;symm
   simp only[eI];symm
   refine⟨nd,bd.mono ∅,λv3 H3 S3 r3=>.mk (S3 _ _ h2) ?_ λH4 B4 h4=>⟨λb o e'=>B4 _ _ (ap e' he) (S3 _ _ (S2 _ _ e')),?_⟩⟩
   .rw[rv.length,YC,YC,Yu];have:1000<=sizeLine:=∅;nofun
   .rw[Xb,YO hi,XE,XE];exact (aN.flat_but (S3 _ _ h2) B4 _ _ (dW _) (rv.same S3)).snoc (aI.flat_but (S3 _ _ h2) B4 _ _ (cE _) r3)
  .obtain⟨S2,rv⟩:=p;rw[YC,Xd] at rv;symm
   simp only[fg];refine .inl ?_;symm
   refine⟨_,⟨zs,h2,rv⟩,hv_ZERO _,λq hq=>?_,λc H3 rs S3 l3 n3 p3 c3 e3 m3=>h c H3 rs (S2.trans S3) l3 ?_ p3 (λk=>?_) ?_ λq hq=>?_⟩
   .obtain⟨n,_,rfl⟩:=List.mem_map.mp hq;exact iH nd
   .cases e':vw K H c with
    | none=>rfl
    | some o=>rw[S2 _ _ e'] at n3;cases n3
   .rw[c3 k];by_cases hk:k<ns.length
    .rw[cq (YO hk),aG (q:=lo ns[k] d) (by rw[Yz,YO hk];rfl)]
     exact ix nd
    .rw[aK (by rw[YC];nofun),bA ()]
     show 0=((0:Int):Rat)/(d:Rat);grind
   .rw[YC] at e3;exact e3
   .obtain⟨n,h1,h2⟩:=List.mem_map.mp (m3 q hq);exact⟨n,h1,h2.symm⟩
def bZ(K:W.Frag):Sp:=λvs H Q _=>∃(a b:Addr)(ms ns:List Int)(m n:Nat),vs=[.ref a,.ref b]/\vw K H a=some (.lst (ms.map V.int))/\vw K H b=some (.lst (ns.map V.int))/\ms.length<=40/\ns.length<=40/\m<=40000000/\n<=40000000/\(∀x∈ms,Bt m x)/\(∀x∈ns,Bt n x) /\
 ∀c H' L,aB (vw K H) (vw K H')->vw K H' c=some (.lst ((lz L (pz (nz ms) (nz ns) ms.length)).map V.int))->vw K H c=none->L<=ms.length+ns.length->(ms≠[]->ns≠[]->L+1=ms.length+ns.length)->(∀k,L<=k->pz (nz ms) (nz ns) ms.length k=0)->Q (.ref c) H'
theorem jI(F:dy K "wholes_multiplied" "wholes_multiplied" eF f fd) (T:dR K mg):aV P w K mg base dC 1 f fd ["one", "other"] (bZ K):=by
 have scN:=gk.nd;refine F.okQ gk ?_ ?_;walk_at "q"
 .obtain⟨a,_,_,_,_,_,rfl,_⟩:=h;rfl
 .obtain⟨a,b,ms,ns,m,n,rfl,ha,hb,lm,ln,hm,hn,bm,bn,h⟩:=h;refine⟨_,(af (b9 (QW.pt (fG (cK (gL (qv 0) (λ_=>rfl))) (fM (cK (gL (qv 1) (λ_=>rfl)))))) (ag (au (aU ac))) aO)
   (af (aE (i:=2) scN rfl (·) (ar aM (aU (aa ae ac)) (ar bN (ar aW (ai ao (by rfl) T.b_len aD (aa (qv 0) ac)) (ai ao (by rfl) T.b_len aD (aa (qv 1) ac))) ae)))
   (af (cC PassesOwn.never rfl (kh rfl T.b_enumerate (aa (qv 0) ac)) (bO (n:=2) rfl (ay (aq (i:=3) scN rfl (·)) (ay (aq (i:=4) scN rfl (·)) bQ))) (ag (cC PassesOwn.never rfl (kh rfl T.b_enumerate (aa (qv 1) ac)) (bO (n:=2) rfl (ay (aq (i:=5) scN rfl (·)) (ay (aq (i:=6) scN rfl (·)) bQ))) (ag (k8 (qv 2) (ar aW (qv 3) (qv 5)) iz (ar aM (qv 4) (qv 6)) xf dP)))))
   (ag (au (qv 2)))))),?_⟩
  walk_at"m";refine aP.gen λN1 hN1=>?_;symm
  have lena:de (vw K H) a=some ms.length:=by simp only[de,ha,YC]
  have lenb:de (vw K H) b=some ns.length:=by simp only[de,hb,YC]
  refine⟨_,ke ha,cz (λe=>?_) λe=>?_⟩
  .have e2:ms=[]:=by simpa using e
   subst e2;exact⟨∅,λc H2 hc S2 h2=>h c H2 0 S2 h2 hc (by simp) (λz=>absurd rfl z) λk _=>rfl⟩
  refine⟨_,ke hb,cz (λe'=>?_) λe'=>hN1 _ _ ?_⟩
  .have e2:ns=[]:=by simpa using e'
   subst e2;refine⟨∅,λc H2 hc S2 h2=>h c H2 0 S2 h2 hc (by simp) (λ_ z=>absurd rfl z) λk _=>?_⟩
   have z:∀j,pz (nz ms) (nz []) j k=0:=λj=>by
    induction j with
    | zero=>rfl
    | succ j ih =>
     show pz (nz ms) (nz []) j k+(if j<=k then nz ms j*nz [] (k-j) else 0)=0
     rw[ih,bA (ns:=[]) (by simp)]
     simp
   exact z _
  have em:0<ms.length:=by
   cases ms with
   | nil=>exact absurd rfl e
   | cons _ _=>simp
  have en:0<ns.length:=by
   cases ns with
   | nil=>exact absurd rfl e'
   | cons _ _=>simp
  refine aP.gen λN2 hN2=>?_;symm
  refine⟨∅,λp1 H1 hp1 S1 h1=>⟨ms.length,(by simp only[de,S1 _ _ ha,YC]),ns.length,(by simp only[de,S1 _ _ hb,YC]),?_⟩⟩
  obtain⟨L,hL⟩ : ∃L,ms.length+ns.length=L+1:=⟨ms.length+ns.length-1,()⟩;rw[show (ms.length:Int)+(ns.length:Int)-1=((L:Nat):Int) by nofun,gI]
  refine⟨_,h1,(),(),?_,λc H2 hc S2 h2=>hN2 _ _ ?_⟩
  .have:1000<=sizeLine:=∅;simp;nofun
  rw[show ((L:Nat):Int).toNat=L by nofun,G1] at h2
  have S02:=S1.trans S2;have nc:vw K H c=none:=by
   cases e0:vw K H c with
   | none=>rfl
   | some o=>rw[S1 _ _ e0] at hc;cases hc
  refine aP.gen λN3 hN3=>?_;symm
  simp only[nv];symm
  refine⟨⟨_,S02 _ _ ha⟩,?_⟩;obtain⟨Pv,hPv⟩ : ∃Pv:Nat->St->Hp->Prop,∀j σ H',Pv j σ H'↔X4 λo3 o4 o5 o6=>σ=[some (.ref a),some (.ref b),some (.ref c),o3,o4,o5,o6]/\aB (vw K H) (vw K H')/\vw K H' c=some (.lst (lz L λk=>V.int (pz (nz ms) (nz ns) j k))):=⟨_,λ_ _ _=>XD⟩;refine jV (rows:=(ms.map V.int).mapIdx λi x=>[V.int i,x]) Pv (λj σ H' _ p=>?_) ((hPv _ _ _).mpr ⟨_,_,_,_,rfl,S02,h2⟩) (λj t σ H3 p H4 hj ht pv hp S4 h4=>?_) (λσ H3 pv=>?_)
  .obtain⟨_,_,_,_,_,S,_⟩:=(hPv _ _ _).mp p;exact⟨_,aQ (S _ _ ha),rfl⟩
  .obtain⟨o3,o4,o5,o6,rfl,S3,h3⟩:=(hPv _ _ _).mp pv;rw[Y2,YC] at hj;rw[Y1,Yz,YO hj] at ht;cases ht;symm
   refine⟨_,h4,rfl,?_⟩;symm
   have S04:=S3.trans S4;simp only[nv];symm
   refine⟨⟨_,S04 _ _ hb⟩,?_⟩;obtain⟨Pw,hPw⟩ : ∃Pw:Nat->St->Hp->Prop,∀l σ H',Pw l σ H'↔X2 λo5 o6=>σ=[some (.ref a),some (.ref b),some (.ref c),some (.int j),some (.int ms[j]),o5,o6]/\aB (vw K H) (vw K H')/\vw K H' c=some (.lst (lz L λk=>V.int (qz (nz ms) (nz ns) j l k))):=⟨_,λ_ _ _=>XD⟩;refine jV (rows:=(ns.map V.int).mapIdx λi x=>[V.int i,x]) Pw (λl σ H' _ p=>?_) ((hPw _ _ _).mpr ⟨_,_,rfl,S04,?_⟩) (λl t σ H5 p5 H6 hl ht pw hp5 S6 h6=>?_) (λσ H5 pw=>?_)
   .obtain⟨_,_,_,S,_⟩:=(hPw _ _ _).mp p;exact⟨_,aQ (S _ _ hb),rfl⟩
   .rw[S4 _ _ h3];congr 2
    exact iy λk _=>by rw[Kq]
   .obtain⟨o5,o6,rfl,S5,h5⟩:=(hPw _ _ _).mp pw;rw[Y2,YC] at hl;rw[Y1,Yz,YO hl] at ht;cases ht;symm
    refine⟨_,h6,rfl,?_⟩;symm
    simp only[pA,F8];symm
    have hx:=S6 _ _ h5;have b1:=bm ms[j] (YN hj);have b2:=bn ns[l] (YN hl);rw[show (j:Int)+(l:Int)=((j+l:Nat):Int) by nofun]
    have hjl:j+l<L:=();refine⟨_,hx,_,ce (dj hjl),cg b1 b2 (),_,rfl,_,hx,j+l,by rw[aZ];exact i6 hjl,λH7 B7 h7=>(hPw _ _ _).mpr ⟨_,_,rfl,?_,?_⟩⟩
    .exact λx o e0=>B7 _ _ (ap e0 nc) (S6 _ _ (S5 _ _ e0))
    .rw[h7,CB];congr 2
     refine iy λk hk=>?_;rw[IE,cq (YO hj),cq (YO hl)];split<;>rfl
   .obtain⟨o5,o6,rfl,S5,h5⟩:=(hPw _ _ _).mp pw;refine (hPv _ _ _).mpr ⟨_,_,_,_,rfl,S5,?_⟩;rw[h5,Y2,YC];congr 2
    refine iy λk hk=>?_;rw[GE λi hi=>bA hi]
  .obtain⟨o3,o4,o5,o6,rfl,S3,h3⟩:=(hPv _ _ _).mp pv;rw[Y2,YC] at h3;refine hN3 _ _ ?_;symm
   refine h c H3 L S3 (by rw[h3,sX]) nc () (λ_ _=>by nofun) λk hk=>?_
   have e1:=og (f:=nz ms) (g:=nz ns) (F:=λi=>(nz ms i:Rat)) (G:=λi=>(nz ns i:Rat)) (c:=1) (d:=1) (λi=>by grind) (λi=>by grind) ms.length k
   rw[fK (n:=ns.length) (λi hi=>by rw[bA hi];rfl) ms.length k ()] at e1
   have e2:((pz (nz ms) (nz ns) ms.length k:Int):Rat)=((0:Int):Rat):=by rw[e1];grind
   exact Rat.intCast_inj.mp e2
inductive kL (K:W.Frag)(vs:List V)(H:Hp)(Q:VK)(E:XK):Prop
 | mk (a b:Addr)(fs gs:List (Int×Int)):vs=[.ref a,.ref b]->aF (vw K H) a fs->aF (vw K H) b gs->fs≠[]->fs.length<gs.length->gs.length<=7->aL fs->aL gs->Pb 11100 (cf fs)->Pb 11100 (cf gs)->zU (cf gs) (cf fs)->(∀d H' (rs:List (Int×Int)),aB (vw K H) (vw K H')->aF (vw K H') d rs->aL rs->rs.length<=8->Pb 235000 (cf rs)->(∃V:Rat->Rat,Py V /\ ∀x,EV (cf rs) x*EV (cf fs) x=1+V x*EV (cf gs) x)->Q (.ref d) H')->kL K vs H Q E
theorem vP(F:dy K "inverse" "inverse" mi f fd) (T:dR K mg)(N_:nO P base)(C_cleared:cp P w K mg base "cleared" ["f"] 2 (cj K)) (C_wholes_rests:cp P w K mg base "wholes_rests" ["one", "other"] 3 (gu K)) (C_wholes_multiplied:cp P w K mg base "wholes_multiplied" ["one", "other"] 1 (bZ K)) (C_divided:cp P w K mg base "divided" ["wholes", "bottom"] 3 (dd K)):aV P w K mg base dC 4 f fd ["f", "g"] (kL K):=by
 have scN:=pG.nd;refine F.okQ pG ?_ ?_;walk_at "q"
 .obtain⟨_,_,_,_,rfl,_⟩:=h;rfl
 .obtain⟨a,b,fs,gs,rfl,ha,hb,f0,lfg,lg7,pf,pg,bf,bg,ns',h⟩:=h;refine⟨_,(af (cW (ah C_cleared nofun rfl (aa (qv 0) ac)) (bO (n:=2) rfl (ay (aq (i:=2) scN rfl (·)) (ay (aq (i:=3) scN rfl (·)) bQ))))
   (af (yV (i:=4) (j:=5) (k:=6) rfl scN rfl rfl rfl ∅ ∅ ∅ rfl rfl rfl (aa (aU ac) (aa (aU (aa ae ac)) (aa (qv 2) ac))) rfl)
   (af (cC PassesOwn.never rfl (cR (ah C_wholes_rests nofun rfl (aa (av aS (ah C_cleared nofun rfl (aa (qv 1) ac)) ae (λ_ _=>rfl)) (aa (qv 2) ac)))) (bO (n:=4) rfl (ay (aq (i:=7) scN rfl (·)) (ay (aq (i:=8) scN rfl (·)) (ay (aq (i:=9) scN rfl (·)) (ay (aq (i:=10) scN rfl (·)) bQ))))) (af (lW (i:=11) (own:=["whole"]) (outs:=[]) (ixs:=[]) scN rfl (·) rfl (cR (ah C_wholes_multiplied nofun rfl (aa (qv 8) (aa (qv 5) ac)))) rfl ⟨rfl,rfl,rfl,trivial,rfl,trivial⟩ (λ_ _ _ _=>⟨(aq (i:=0) (show (["whole"]:List Str).Nodup by decide +kernel) rfl (·)),dJ,(eE cV (qv 0))⟩))
   (af (cC PassesOwn.never rfl (kh rfl T.b_enumerate (aa (qv 4) ac)) (bO (n:=2) rfl (ay (aq (i:=12) scN rfl (·)) (ay (aq (i:=13) scN rfl (·)) bQ))) (ag (k8 (qv 11) (qv 12) iz (ar aM (qv 10) (qv 13)) xf dP)))
   (ag (yV (i:=4) (j:=5) (k:=6) rfl scN rfl rfl rfl ∅ ∅ ∅ rfl rfl rfl (aa (qv 5) (aa (dH (own:=["whole"]) (outs:=["top"]) (ixs:=[9]) rfl (cR (qv 11)) rfl ⟨rfl,rfl,rfl,⟨rfl,trivial⟩,rfl,⟨⟨rfl,rfl,rfl,_,rfl⟩,trivial⟩⟩ (λ_ _ _ _=>⟨(aq (i:=0) (show (["whole", "top"]:List Str).Nodup by decide +kernel) rfl (·)),dJ,(ar (oA N_ hr rfl rfl rfl rfl rfl) (qv 0) (qv 1))⟩)) (aa (qv 7) ac))) rfl)))))
   (ag (au (ah C_divided nofun rfl (aa (dH (own:=["whole"]) (outs:=["bottom"]) (ixs:=[3]) rfl (cR (qv 5)) rfl ⟨rfl,rfl,rfl,⟨rfl,trivial⟩,rfl,⟨⟨rfl,rfl,rfl,_,rfl⟩,trivial⟩⟩ (λ_ _ _ _=>⟨(aq (i:=0) (show (["whole", "bottom"]:List Str).Nodup by decide +kernel) rfl (·)),dJ,(ar (show eO _ _ (ic K) from aM) (qv 0) (qv 1))⟩)) (aa (av cT (qv 6) ae (λ_ _=>rfl)) ac)))))))),?_⟩
  walk_at"m";skip
  refine aP.gen λN1 hN1=>?_;symm
  simp only[cj];refine⟨a,fs,11100,rfl,ha,(),∅,λq hq=>⟨pf.1 q hq,bf.bq pf.1 q hq⟩,λp1 b1 H1 D ns S1 h1 hb1 nb1 hD bD ln hn hm=>⟨_,rfl,_,h1,rfl,_,_,rfl,_,_,rfl,rfl,hN1 _ _ ?_⟩⟩;have cl1:=fz bf pf.1 hD hm ln λi n q e1 e2=>(hn i n q e1 e2).1;refine aP.gen λN2 hN2=>?_;symm
  simp only[BW];symm
  refine⟨∅,λfo H2 hfo S2 h2=>⟨∅,λla H3 hla S3 h3=>hN2 _ _ ?_⟩⟩;refine aP.gen λN3 hN3=>?_;have S23:=S2.trans S3;have S13:=S1.trans S23;symm
  simp only[cj];refine⟨b,gs,11100,rfl,hb.same S13,(),∅,λq hq=>⟨pg.1 q hq,bg.bq pg.1 q hq⟩,λp4 b4 H4 D4 ms S4 h4 hb4 nb4 hD4 bD4 lm hm4 hmm=>?_⟩;have cl4:=fz bg pg.1 hD4 hmm lm λi n q e1 e2=>(hm4 i n q e1 e2).1;refine⟨p4,rfl,_,h4,_,cS,?_⟩;have lf1:=List.length_pos_iff.mpr f0;have cA:∀k,((nz ns k:Int):Rat)=cf fs k*(D:Rat):=dN ln λi n q e1 e2=>(hn i n q e1 e2).1;have cB:∀k,((nz ms k:Int):Rat)=cf gs k*(D4:Rat):=dN lm λi n q e1 e2=>(hm4 i n q e1 e2).1;have cD:(D:Rat)≠0:=am ();have cD4:(D4:Rat)≠0:=am ();have nA:nz ns (ns.length-1)≠0:=λz=>by
   have e:=cA (ns.length-1);have p:=iK pf f0;rw[z,ln,show ((0:Int):Rat)=0 from rfl] at e
   grind
  have nB:nz ms (ms.length-1)≠0:=λz=>by
   have e:=cB (ms.length-1);have p:=iK pg (λz=>by rw[z] at lfg;simp at lfg)
   rw[z,lm,show ((0:Int):Rat)=0 from rfl] at e
   grind
  have ns0:ns≠[]:=λz=>by rw[z] at ln;simp at ln;nofun
  have ms0:ms≠[]:=λz=>by rw[z] at lm;simp at lm;nofun
  refine⟨b4,b1,ms,ns,rfl,hb4,(S23.trans S4) _ _ hb1,ms0,(),⟨(),cl4.2,λ_=>nB⟩,⟨(),cl1.2,λ_=>nA⟩,λd5 H5 tv rows S5 h5 rr rsq srw lr rb=>⟨d5,rfl,⟨_,.of (aQ h5)⟩,?_⟩⟩;have few:=rsq.few;have S25:=S4.trans S5;obtain⟨Pv,hPv⟩ : ∃Pv:Nat->St->Hp->Prop,∀i σ H',Pv i σ H'↔KA λ(fo la ls:Addr)(us ws F G:List Int)(o7 o8 o9 o10 o11 o12 o13:Option V)=>σ=[some (.ref a),some (.ref b),some (.ref b1),some (.int D),some (.ref fo),some (.ref la),some (.ref ls),o7,o8,o9,o10,o11,o12,o13]/\aB (vw K H5) (vw K H')/\vw K H' fo=some (.lst (us.map V.int))/\vw K H' la=some (.lst (ws.map V.int))/\vw K H' ls=some (.lst (G.map V.int))/\uW F G (rows.drop i)/\(∃x h:Int,Di x h F G (rows.drop i)/\FY 8 222087 x h (nz F) (nz G) (nz us) (nz ws) (F.length-1) (G.length-1))/\Hn (gU ns) (gU ms) us F/\Hn (gU ns) (gU ms) ws G/\G≠[]/\ws.length+F.length=ms.length+1/\us.length<=ws.length/\ws≠[]/\(∀x∈us,Bt 222087 x)/\(∀x∈ws,Bt 222087 x)/\gG G (rows.drop i)=gG ns rows:=⟨_,λ_ _ _=>XD⟩;refine aX (its:=tv) Pv (λi σ H' _ q=>?_) ((hPv _ _ _).mpr ⟨fo,la,b1,[],[1],ms,ns,_,_,_,_,_,_,_,rfl,.rfl,(S3.trans S25) _ _ h2,S25 _ _ h3,(S23.trans S25) _ _ hb1,rsq,⟨1,1,srw,FY.first (b:=11100) () () ∅ (gf cl4.2) (gf cl1.2) (gf (by simp)) (gf λx hx=>by cases List.mem_singleton.mp hx;exact (show Bt 2 1 by decide).mono ∅)⟩,⟨λ_=>1,.const 1,λx=>by rw[Dz];grind⟩,⟨λ_=>0,.const 0,λx=>by rw[xy];have c1:((1:Int):Rat)=1:=rfl;rw[c1];grind⟩,ns0,by simp;nofun,by simp,by simp,by simp,λx hx=>?_,rfl⟩) (λi x σ H6 hi hx pv=>?_) (λσ H6 pv=>hN3 _ _ ?_)
  .obtain⟨_,_,_,_,_,_,_,_,_,_,_,_,_,_,_,S',_⟩:=(hPv _ _ _).mp q;exact bI (S' _ _ h5)
  .cases List.mem_singleton.mp hx;exact (show Bt 2 1 by decide).mono ∅
  .obtain⟨fo,la,ls,us,ws,F,G,o7,o8,o9,o10,o11,o12,o13,rfl,S6,hfo,hla,hls,rq,⟨x1,h1',sw,pin⟩,cF,cG,G0,lw,luw,w0,bu,bw,elast⟩:=(hPv _ _ _).mp pv;have hir:i<rows.length:=by rw[<-rr.1];exact hi
   have lj:rows[i]? = some rows[i]:=YO hir;obtain⟨p',ra,qa,t1,t2,t3,t4,_,_⟩:=rr.2 i _ lj;obtain⟨_,_,bT,bS,q9,q1,bq⟩:=rb _ (YN hir);rw[List.drop_eq_getElem_cons hir] at rq sw elast;obtain⟨R,Qw,Tt,Ss,erow⟩ : ∃R Qw Tt Ss,rows[i]=(R,Qw,Tt,Ss):=⟨_,_,_,_,rfl⟩;rw[erow] at rq sw elast t2 t3 t4 bT bS q9 q1 bq;rw[t1] at hx;cases hx;obtain⟨T0,lq,R0,rq',gt,rl,eqn⟩ : Tt≠0/\Qw.length+G.length=F.length+1/\R≠[]/\uW G R (rows.drop (i+1))/\nz G (G.length-1)≠0/\R.length<G.length /\ ∀k,Ss*nz F k=pz (nz Qw) (nz G) Qw.length k+Tt*nz R k:=by
    cases rq with
    | more _ g2 _ h1 h2 _ g7 h3 g9 h4=>exact⟨h1,h3,h2,h4,g2,g7,g9⟩
   obtain⟨h2',eS,eT,n2,hh,sw'⟩ : ∃h2:Int,Ss=nz G (G.length-1)^(F.length-G.length+1)/\Tt=x1*h1'^(F.length-G.length)/\h2≠0/\(F.length=G.length/\h2=h1'\/G.length<F.length/\h2*h1'^(F.length-G.length-1)=nz G (G.length-1)^(F.length-G.length))/\Di (nz G (G.length-1)) h2 G R (rows.drop (i+1)):=by
    cases sw with
    | more _ b c d e f=>exact⟨_,b,c,d,e,f⟩
   have i5:i<=4:=();replace q1:1<=Qw.length:=q1;replace q9:Qw.length<=9:=q9;replace bS:Bt 2000000 Ss:=bS;replace bq:∀x∈Qw,Bt 7000000 x:=bq;have w1:=List.length_pos_iff.mpr w0;have g1:=List.length_pos_iff.mpr G0;have r1:=List.length_pos_iff.mpr R0;have lFG:G.length<=F.length:=();have ab:F.length-1-(G.length-1)=F.length-G.length:=KB g1 rfl;have qn:F.length-G.length+1=Qw.length:=KG lq lFG;obtain⟨wf,ewf,bwf,nxt⟩:=pin.step (c:=nz G (G.length-1)) (q:=nz Qw) (r:=nz R) (m:=ws.length) ∅ () rfl gt (λk hk=>bA ()) (λk hk=>bA ()) (λk hk=>bA hk) () (λk hk=>bA ()) (λk=>by rw[ab,<-eS,<-eT,qn];exact eqn k)
   rw[ab,<-eS,<-eT,qn] at ewf;have nx:=λvs:List Int=>λ(e:∀k,nz vs k=wf k)=>show FY 8 222087 (nz G (G.length-1)) h2' (nz G) (nz R) (nz ws) (nz vs) (G.length-1) (R.length-1) from by
    rw[show nz vs=wf from funext e]
    refine nxt (R.length-1) h2' (J5 rl r1) (λk hk=>bA ()) n2 ?_;rw[ab];rcases hh with ⟨y1,y2⟩|⟨y1,y2⟩
    .exact .inl ⟨(),y2⟩
    .exact .inr ⟨J5 y1 g1,y2⟩
   have cf':=λvs:List Int=>λ(lv:vs.length<=20)(e:∀k,nz vs k=wf k)=>Hn.step (v:=vs) cF cG T0 () ⟨(),(),()⟩ ⟨(),(),lv⟩ eqn (λk=>by rw[e];exact ewf k)
   symm
   refine⟨_,S6 _ _ t2,rfl,_,_,rfl,_,_,rfl,_,_,rfl,_,_,rfl,rfl,?_⟩;simp only[bZ];refine⟨qa,la,Qw,ws,7000000,222087,rfl,S6 _ _ t4,hla,(),(),∅,(),bq,bw,λc7 H7 L S7 h7 n7 lL eL zL=>?_⟩;have eL':=eL (λz=>by rw[z] at q1;simp at q1) w0
   obtain⟨ys,hys⟩ : ∃ys,ys=lz L (pz (nz Qw) (nz ws) Qw.length):=⟨_,rfl⟩;rw[<-hys] at h7;have lys:ys.length=L:=by rw[hys,aZ]
   have S67:=S6.trans S7;refine⟨c7,rfl,⟨_,.of (aQ h7)⟩,λc8 H8 hc8 S8 h8=>?_⟩;refine cn (its:=ys.map V.int) (λj zs H'=>aB (vw K H7) (vw K H')/\zs=(ys.take j).map λy=>V.int (-y)) (λj zs H' _ _ z=>bI (z.1 _ _ h7)) h8 ⟨S8,rfl⟩ (λj y zs H' hj hy h' z=>?_) (λzs H9 h9 z=>?_)
   .obtain⟨z1,rfl⟩:=z;rw[YC] at hj;rw[Yz,YO hj] at hy;cases hy;symm
    refine .mk h' ?_ λH10 B10 h10=>⟨λx o e=>B10 _ _ (ap e hc8) (z1 _ _ e),?_⟩
    .rw[YC,Yu];exact HB ()
    .rw[Xb,YO hj,XE];rfl
   obtain⟨S79,rfl⟩:=z;rw[YC,Xd] at h9;have by0:∀(k:Nat)(x:Int),(ys.map λy=>-y)[k]? = some x->Bt (7224000) x:=λk x e=>by
    rw[Yz] at e;cases e2:ys[k]? with
    | none=>rw[e2] at e;cases e
    | some y =>
     rw[e2] at e;cases e;have bz:=yI (gf bq) (gf bw) Qw.length k;have ey:nz ys k=pz (nz Qw) (nz ws) Qw.length k:=by rw[hys,mZ (by rw[<-lys];exact (List.getElem?_eq_some_iff.mp e2).1)]
     rw[<-ey,cq e2] at bz;have bz':Bt (7224000) y:=bz.mono ();unfold Bt at bz' ⊢;rw[Int.natAbs_neg];exact bz'
   have nz_neg:∀k,nz (ys.map λy=>-y) k = -(nz ys k):=λk=>by
    cases ek:ys[k]? with
    | none =>
     have l:=List.getElem?_eq_none_iff.mp ek;rw[bA l,bA (by rw[YC];exact l)]
     rfl
    | some y=>rw[cq ek,cq (n:=-y) (by rw[Yz,ek];rfl)]
   have eyz:∀k,nz ys k=pz (nz Qw) (nz ws) Qw.length k:=λk=>by
    by_cases hk:k<L
    .rw[hys,mZ hk]
    .rw[bA (),zL k ()]
   simp only[nv];symm
   refine⟨⟨_,S79 _ _ (S7 _ _ hfo)⟩,?_⟩;obtain⟨Pw,hPw⟩ : ∃Pw:Nat->St->Hp->Prop,∀j σ H',Pw j σ H'↔X3 λ(o12 o13:Option V)(zs:List Int)=>σ=[some (.ref a),some (.ref b),some (.ref b1),some (.int D),some (.ref fo),some (.ref la),some (.ref ls),some (.ref ra),some (.ref qa),some (.int Tt),some (.int Ss),some (.ref c8),o12,o13]/\aB (vw K H7) (vw K H')/\vw K H' c8=some (.lst (zs.map V.int))/\zs.length=L/\(∀(k:Nat)(x:Int),zs[k]? = some x->Bt (7224004) x)/\(∀(k:Nat)(x:Int),j<=k->zs[k]? = some x->Bt (7224000) x) /\ ∀k,nz zs k=(if k<j then Ss*nz us k else 0)-pz (nz Qw) (nz ws) Qw.length k:=⟨_,λ_ _ _=>XD⟩
   refine jV (rows:=(us.map V.int).mapIdx λi x=>[V.int i,x]) Pw (λl σ H' _ p=>?_) ((hPw _ _ _).mpr ⟨_,_,ys.map λy=>-y,rfl,S79,by rw[List.map_map];exact h9,by rw[YC];exact lys,λk x e=>(by0 k x e).mono (),λk x _ e=>by0 k x e,λk=>?_⟩) (λl t σ H10 p10 H11 hl ht pw hp10 S11 h11=>?_) (λσ H10 pw=>?_)
   .obtain⟨_,_,_,_,S',_⟩:=(hPw _ _ _).mp p;exact⟨_,aQ (S' _ _ (S7 _ _ hfo)),rfl⟩
   .rw[Yc (Nat.not_lt_zero _),nz_neg,eyz];nofun
   .obtain⟨o12,o13,zs,rfl,S10,h10,lzs,bz,bz2,vz⟩:=(hPw _ _ _).mp pw;rw[Y2,YC] at hl;rw[Y1,Yz,YO hl] at ht;cases ht;have hlz:l<zs.length:=();symm
    refine⟨_,h11,rfl,?_⟩;symm
    simp only[pA,F8];symm
    have hx:=S11 _ _ h10;have b1':=bu us[l] (YN hl);have b2':=bz2 l zs[l] (Yp _) (YO hlz);refine⟨_,hx,_,ce (by rw[Yz,YO hlz];rfl),cg bS b1' (),_,rfl,_,hx,l,by rw[YC];exact i6 hlz,λH12 B12 h12=>(hPw _ _ _).mpr ⟨_,_,zs.set l (zs[l]+Ss*us[l]),rfl,?_,?_,by rw[YG];exact lzs,λk x e=>?_,λk x hk e=>?_,λk=>?_⟩⟩
    .exact λx o e0=>B12 _ _ (ap e0 hc8) (S11 _ _ (S10 _ _ e0))
    .rw[h12,List.map_set]
    .rw[List.getElem?_set] at e;split at e
     .first|cases e|(split at e<;>cases e)
      exact (b2'.add ((bS.mul b1').mono (n:=7224000) ())).mono ()
     .exact bz k x e
    .rw[Yl ()] at e;exact bz2 k x () e
    .rw[ou hlz];by_cases hkl:k=l
     .subst hkl;have v:=vz k;rw[Yc (),cq (YO hlz)] at v;rw[Yb rfl,Yb (),v,cq (YO hl)];nofun
     .rw[Yc hkl,vz];by_cases h2:k<l
      .rw[Yb h2,Yb ()]
      .rw[Yc h2,Yc ()]
   .obtain⟨o12,o13,zs,rfl,S10,h10,lzs,bz,bz2,vz⟩:=(hPw _ _ _).mp pw;rw[Y2,YC] at vz;have vT:∀k,nz zs k=Tt*wf k:=λk=>by
     have a:=vz k;have b:=ewf k;by_cases hk:k<us.length
     .rw[Yb hk] at a;nofun
     .rw[Yc hk] at a;rw[bA (show us.length<=k by nofun),Xi] at b
      nofun
    have vf:∀k,nz (zs.map λy=>y.fdiv Tt) k=wf k:=λk=>by
     cases ek:zs[k]? with
     | none =>
      have l:=List.getElem?_eq_none_iff.mp ek;have a:=vT k;rw[bA l] at a;rw[bA (by rw[YC];exact l)]
      rcases Int.mul_eq_zero.mp a.symm with z|z
      .exact absurd z T0
      .exact z.symm
     | some y =>
      have a:=vT k;rw[cq ek] at a;rw[cq (n:=y.fdiv Tt) (by rw[Yz,ek];rfl)]
      exact Y7 T0 (by rw[gj T0 ⟨_,a⟩,a,Y6])
    simp only[BW];symm
    refine⟨⟨_,.of (aQ h10)⟩,λd12 H12 hd12 S12 h12=>?_⟩;refine cn (its:=zs.map V.int) (λj vs H'=>aB (vw K H10) (vw K H')/\vs=((zs.take j).map λy=>y.fdiv Tt).map V.int) (λj vs H' _ _ z=>bI (z.1 _ _ h10)) h12 ⟨S12,rfl⟩ (λj y vs H' hj hy h' z=>?_) (λvs H13 h13 z=>?_)
    .obtain⟨z1,rfl⟩:=z;rw[YC] at hj;rw[Yz,YO hj] at hy;cases hy;symm
     refine⟨T0,.mk h' ?_ λH14 B14 h14=>⟨λx o e=>B14 _ _ (ap e hd12) (z1 _ _ e),?_⟩⟩
     .rw[YC,YC,Yu];exact HB ()
     .rw[Xb,YO hj,XE,XE];rfl
    .obtain⟨S13',rfl⟩:=z;rw[YC,Xd] at h13;have S713:=S10.trans S13';have S613:=S7.trans S713;refine (hPv _ _ _).mpr ⟨la,d12,ra,ws,zs.map λy=>y.fdiv Tt,G,R,_,_,_,_,_,_,_,rfl,S6.trans S613,S613 _ _ hla,h13,(S6.trans S613) _ _ t3,rq',⟨_,_,sw',nx _ vf⟩,cG,cf' _ (by rw[YC];nofun) vf,R0,by rw[YC];nofun,by rw[YC];nofun,λz=>?_,bw,λx hx=>?_,elast⟩
     .have:=Yn List.length z;rw[YC,lzs] at this;simp at this;nofun
     .obtain⟨k,hk⟩:=XI hx;rw[<-cq hk,vf];exact bwf k
  .obtain⟨fo,la,ls,us,ws,F,G,o7,o8,o9,o10,o11,o12,o13,rfl,S6,hfo,hla,hls,rq,⟨x1,h1',sw,pin⟩,cF,cG,G0,lw,luw,w0,bu,bw,elast⟩:=(hPv _ _ _).mp pv;rw[rr.1,List.drop_length] at rq sw elast;have r5:rows.length<=5:=();obtain⟨x,ex,x0⟩:=rsq.one (f:=cf gs) (g:=cf fs) (c:=1/(D4:Rat)) (d:=1/(D:Rat)) ns0 () () (λk=>by show _=_*((nz ms k:Int):Rat);rw[cB];grind) (λk=>by show _=_*((nz ns k:Int):Rat);rw[cA];grind) ns'
   have eG:G=[x]:=by rw[<-ex,<-elast];rfl
   subst eG;have bx:Bt 178400 x:=by
    rcases zd ns rows with z|⟨row,lj,z⟩
    .rw[ex] at z;exact (cl1.2 x (by rw[<-z];simp)).mono ∅
    .rw[ex] at z;exact (rb row lj).2.1 x (by rw[<-z];simp)
   have S56:=S25.trans S6;symm
   refine⟨⟨_,.of (aQ hla)⟩,λd7 H7 hd7 S7 h7=>?_⟩;refine cn (its:=ws.map V.int) (λj vs H'=>aB (vw K H6) (vw K H')/\vs=((ws.take j).map λy=>y*D).map V.int) (λj vs H' _ _ z=>bI (z.1 _ _ hla)) h7 ⟨S7,rfl⟩ (λj y vs H' hj hy h' z=>?_) (λvs H8 h8 z=>?_)
   .obtain⟨z1,rfl⟩:=z;rw[YC] at hj;rw[Yz,YO hj] at hy;cases hy;symm
    refine⟨cg (bw _ (YN hj)) cl1.1 (),.mk h' ?_ λH14 B14 h14=>⟨λx o e=>B14 _ _ (ap e hd7) (z1 _ _ e),?_⟩⟩
    .rw[YC,YC,Yu];exact HB ()
    .rw[Xb,YO hj,XE,XE];rfl
   .obtain⟨S8,rfl⟩:=z;rw[YC,Xd] at h8;refine⟨_,S8 _ _ hls,_,rfl,?_⟩;simp only[dd];refine⟨d7,ws.map λy=>y*D,x,rfl,h8,by rw[YC];nofun,x0,bx.mono (),λc9 H9 rs S9 l9 n9 p9 c9' e9 q9=>h c9 H9 rs (S13.trans (S56.trans (S8.trans S9))) l9 p9 (by rw[YC] at e9;nofun) ⟨x,x0,bx.mono ∅,λk=>⟨_,c9' k,gf (m:=235000) (λz hz=>?_) k⟩⟩ ?_⟩
    rotate_left
    .obtain⟨V,pV,eV⟩:=cG;refine⟨λy=>-((D4:Rat)/(x:Rat))*V y,pV.sc _,λy=>?_⟩;have cx:=am x0;have e1:EV (cf rs) y=(D:Rat)/(x:Rat)*gU ws y:=by
      have:∀k,cf rs k=(D:Rat)/(x:Rat)*jy ws k:=λk=>by
       rw[c9',show (ws.map λy=>y*D)=ws.map λy=>D*y from List.map_congr_left λy _=>Y6 _ _,n8,Xa]
       show _=_*((nz ws k:Int):Rat);grind
      rw[du this,qc];rfl
     have e2:gU ns y=(D:Rat)*EV (cf fs) y:=by
      have:∀k,jy ns k=(D:Rat)*cf fs k:=λk=>by
       show ((nz ns k:Int):Rat)=_;rw[cA];grind
      unfold gU;rw[du this,qc]
     have e3:gU ms y=(D4:Rat)*EV (cf gs) y:=by
      have:∀k,jy ms k=(D4:Rat)*cf gs k:=λk=>by
       show ((nz ms k:Int):Rat)=_;rw[cB];grind
      unfold gU;rw[du this,qc]
     have e4:=eV y;rw[xy,e2,e3] at e4;rw[e1];show _=1 + -((D4:Rat)/(x:Rat))*V y*EV (cf gs) y;grind
    obtain⟨y,hy,rfl⟩:=List.mem_map.mp hz;exact ((bw y hy).mul cl1.1).mono ∅
theorem vO{qs:List (Int×Int)}{ns:List Int}{D:Int}(p:aL qs)(q0:qs≠[])(ln:ns.length=qs.length)(hD:0<D)(c:∀k,((nz ns k:Int):Rat)=cf qs k*(D:Rat)):nz ns (ns.length-1)≠0:=λz=>by
 have e:=c (ns.length-1);have p:=iK p q0;have cD:(D:Rat)≠0:=am ();rw[z,ln,show ((0:Int):Rat)=0 from rfl] at e
 grind
inductive gw (K:W.Frag)(vs:List V)(H:Hp)(Q:VK)(E:XK):Prop
 | mk (a b c:Addr)(fs gs os:List (Int×Int)):vs=[.ref a,.ref b,.ref c]->aF (vw K H) a fs->aF (vw K H) b gs->aF (vw K H) c os->fs.length<=6->gs.length<=8->os≠[]->os.length<=7->aL os->Pb 11100 (cf os)->(∀q∈fs,Fq q)->Pb 14000 (cf fs)->(∀q∈gs,Fq q)->Pb 235000 (cf gs)->(∀d H' (rs:List (Int×Int)),aB (vw K H) (vw K H')->aF (vw K H') d rs->vw K H d=none->aL rs->rs.length<os.length->Pb 4400000 (cf rs)->(∃V:Rat->Rat,Py V /\ ∀x,EV (cf fs) x*EV (cf gs) x=EV (cf rs) x+V x*EV (cf os) x)->Q (.ref d) H')->gw K vs H Q E
theorem nF(F:dy K "product_rest" "product_rest" gF f fd) (T:dR K mg)(C_cleared:cp P w K mg base "cleared" ["f"] 2 (cj K)) (C_wholes_multiplied:cp P w K mg base "wholes_multiplied" ["one", "other"] 1 (bZ K)) (C_wholes_parted:cp P w K mg base "wholes_parted" ["one", "other"] 2 (dZ K)) (C_divided:cp P w K mg base "divided" ["wholes", "bottom"] 3 (dd K)):aV P w K mg base dC 4 f fd ["f", "g", "other"] (gw K):=by
 have scN:=ju.nd;refine F.okQ ju ?_ ?_;walk_at "q"
 .obtain⟨_,_,_,_,_,_,rfl,_⟩:=h;rfl
 .obtain⟨a,b,c,fs,gs,os,rfl,ha,hb,hc,lf,lg',o0,lo',po,bo,hf,bf,hg,bg,h⟩:=h;refine⟨_,(af (cW (ah C_cleared nofun rfl (aa (qv 0) ac)) (bO (n:=2) rfl (ay (aq (i:=3) scN rfl (·)) (ay (aq (i:=4) scN rfl (·)) bQ))))
   (af (cW (ah C_cleared nofun rfl (aa (qv 1) ac)) (bO (n:=2) rfl (ay (aq (i:=5) scN rfl (·)) (ay (aq (i:=6) scN rfl (·)) bQ))))
   (af (cW (cZ oz (ah C_wholes_parted nofun rfl (aa (ah C_wholes_multiplied nofun rfl (aa (qv 3) (aa (qv 5) ac))) (aa (av aS (ah C_cleared nofun rfl (aa (qv 2) ac)) ae (λ_ _=>rfl)) ac))) (dU ae) dS) (bO (n:=2) rfl (ay (aq (i:=7) scN rfl (·)) (ay (aq (i:=8) scN rfl (·)) bQ))))
   (ag (au (ah C_divided nofun rfl (aa (qv 7) (aa (ar aM (ar aM (qv 4) (qv 6)) (qv 8)) ac)))))))),?_⟩
  walk_at"m";skip
  refine aP.gen λN1 hN1=>?_;symm
  simp only[cj];refine⟨a,fs,14000,rfl,ha,(),∅,λq hq=>⟨hf q hq,bf.bq hf q hq⟩,λp1 b1 H1 D1 ms S1 h1 hb1 nb1 hD1 _ lm hm hmm1=>⟨_,rfl,_,h1,rfl,_,_,rfl,_,_,rfl,rfl,hN1 _ _ ?_⟩⟩;refine aP.gen λN2 hN2=>?_;symm
  simp only[cj];refine⟨b,gs,235000,rfl,hb.same S1,(),∅,λq hq=>⟨hg q hq,bg.bq hg q hq⟩,λp2 b2 H2 D2 ns S2 h2 hb2 nb2 hD2 _ ln hn hmm2=>⟨_,rfl,_,h2,rfl,_,_,rfl,_,_,rfl,rfl,hN2 _ _ ?_⟩⟩;have S02:=S1.trans S2;obtain⟨bD1,bm⟩:=fz bf hf hD1 hmm1 lm λi n q e1 e2=>(hm i n q e1 e2).1;obtain⟨bD2,bn⟩:=fz bg hg hD2 hmm2 ln λi n q e1 e2=>(hn i n q e1 e2).1;have cM:∀k,((nz ms k:Int):Rat)=cf fs k*(D1:Rat):=dN lm λi n q e1 e2=>(hm i n q e1 e2).1;have cN:∀k,((nz ns k:Int):Rat)=cf gs k*(D2:Rat):=dN ln λi n q e1 e2=>(hn i n q e1 e2).1;refine aP.gen λN3 hN3=>?_;symm
  simp only[bZ];refine⟨b1,b2,ms,ns,14000,235000,rfl,S2 _ _ hb1,hb2,(),(),∅,∅,bm,bn,λc3 H3 L S3 h3 n3 lL eL zL=>?_⟩;simp only[cj];have S03:=S02.trans S3;refine⟨c,os,11100,rfl,hc.same S03,(),∅,λq hq=>⟨po.1 q hq,bo.bq po.1 q hq⟩,λp4 b4 H4 D4 us S4 h4 hb4 nb4 hD4 bD4 lu hu hmm=>?_⟩;have cl4:=fz bo po.1 hD4 hmm lu λi n q e1 e2=>(hu i n q e1 e2).1;have cU:∀k,((nz us k:Int):Rat)=cf os k*(D4:Rat):=dN lu λi n q e1 e2=>(hu i n q e1 e2).1;refine⟨p4,rfl,_,h4,_,cS,?_⟩;have l0:=List.length_pos_iff.mpr o0;have nU:=vO po o0 lu hD4 (dN lu λi n q e1 e2=>(hu i n q e1 e2).1);obtain⟨ys,hys⟩ : ∃ys,ys=lz L (pz (nz ms) (nz ns) ms.length):=⟨_,rfl⟩;rw[<-hys] at h3;have lys:ys.length=L:=by rw[hys,aZ]
  have bys:∀x∈ys,Bt 250000 x:=λx hx=>by
   obtain⟨k,hk⟩:=XI hx;have bz:=yI (gf bm) (gf bn) ms.length k;have ey:nz ys k=pz (nz ms) (nz ns) ms.length k:=by rw[hys,mZ (by rw[<-lys];exact (List.getElem?_eq_some_iff.mp hk).1)]
   rw[<-ey,cq hk] at bz;exact bz.mono ()
  refine⟨c3,b4,ys,us,250000,11100,rfl,S4 _ _ h3,hb4,(),nU,(),(),∅,∅,bys,cl4.2,λp5 qa ra S qs rs H5 S5 h5 hqa hra nra lq lr hSe bS bq br lrz ev=>?_⟩;simp only[qW];have e5:iE [V.ref qa,V.ref ra,V.int S] (some 1) none=[V.ref ra,V.int S]:=rfl;refine⟨p5,rfl,_,h5,(λz=>absurd z.1 (show ¬ HT.sIx 3 0 (some 1)=0 by decide)),λp6 H6 hp6 S6 h6=>?_⟩
  rw[e5] at h6;refine⟨p6,rfl,_,h6,rfl,_,_,rfl,_,_,rfl,rfl,hN3 _ _ ?_⟩;have S0:S≠0:=by
   obtain⟨e,_,z⟩:=hSe;rw[z];exact Xx nU
  have S05:=S03.trans (S4.trans S5);have bDD:=bD1.mul bD2;symm
  simp only[dd];have S06:=S05.trans S6;have nz':D1*D2*S≠0:=Y8 (Y8 () ()) S0;refine⟨cg bD1 bD2 (),cg bDD bS (),ra,rs,_,rfl,S6 _ _ hra,(),nz',(bDD.mul bS).mono (),λc7 H7 ts S7 l7 n7 p7 c7' e7 _=>h c7 H7 ts (S06.trans S7) l7 (S06.none n7) p7 () ⟨D1*D2*S,nz',(bDD.mul bS).mono ∅,λk=>⟨_,c7' k,gf (λy hy=>(br y hy).mono ∅) k⟩⟩ ?_⟩;have eY:∀k,nz ys k=pz (nz ms) (nz ns) ms.length k:=λk=>by
   by_cases hk:k<L
   .rw[hys,mZ hk]
   .rw[bA (),zL k ()]
  have c1:(D1:Rat)≠0:=am ();have c2:(D2:Rat)≠0:=am ();have c3':=am S0;refine⟨λy=>(D4:Rat)/((D1:Rat)*(D2:Rat)*(S:Rat))*gU qs y,(AV ()).sc _,λy=>?_⟩;have r1:=tM (F:=ys) (Q:=qs) (G:=us) (R:=rs) (S:=S) (T:=1) () () () (λk=>by rw[ev k,Xq]) y
  rw[At () eY,mK cM,mK cN,mK cU] at r1;have c1':((1:Int):Rat)=1:=rfl;rw[c1'] at r1;rw[Ek c7',Xa,Xa];show EV (cf fs) y*EV (cf gs) y=1/((D1:Rat)*(D2:Rat)*(S:Rat))*gU rs y+(D4:Rat)/((D1:Rat)*(D2:Rat)*(S:Rat))*gU qs y*EV (cf os) y;generalize EV (cf fs) y=e1 at *
  generalize EV (cf gs) y=e2 at *
  generalize EV (cf os) y=e3 at *
  generalize gU qs y=e4 at *
  generalize gU rs y=e5 at *
  grind
inductive ir (K:W.Frag)(vs:List V)(H:Hp)(Q:VK)(E:XK):Prop
 | mk (a b:Addr)(us rs:List (Int×Int)):vs=[.ref a,.ref b]->aF (vw K H) a us->aF (vw K H) b rs->us.length<=6->rs≠[]->rs.length<=7->aL rs->Pb 11000 (cf rs)->(∀q∈us,Fq q)->Pb 14000 (cf us)->us.length<rs.length->(2<=rs.length->zU (cf rs) (DF (cf rs)))->(∀d H' (ws:List (Int×Int)),aB (vw K H) (vw K H')->aF (vw K H') d ws->vw K H d=none->aL ws->ws.length<rs.length->Pb 4400000 (cf ws)->(∃V:Rat->Rat,Py V /\ ∀x,EV (cf ws) x*EV (DF (cf rs)) x=EV (cf us) x+V x*EV (cf rs) x)->Q (.ref d) H')->ir K vs H Q E
theorem qB(F:dy K "weights_by" "weights_by" ji f fd) (T:dR K mg)(C_product_rest:cp P w K mg base "product_rest" ["f", "g", "other"] 4 (gw K)) (C_inverse:cp P w K mg base "inverse" ["f", "g"] 4 (kL K)) (C_slope:cp P w K mg base "slope" ["f"] 4 (oV K)):aV P w K mg base dC 5 f fd ["above", "roots"] (ir K):=by
 have scN:=ky.nd;refine F.okQ ky ?_ ?_;walk_at "q"
 .obtain⟨_,_,_,_,rfl,_⟩:=h;rfl
 .obtain⟨a,b,us,rs,rfl,ha,hb,lu,r0,lr,pr',br,hu,bu,lur,ns,h⟩:=h;refine⟨_,(af (b9 (aH eK (ai ao (by rfl) T.b_len aD (aa (qv 1) ac)) ae (aC _)) (ag (au (aU ac))) aO)
   (ag (au (ah C_product_rest nofun rfl (aa (qv 0) (aa (ah C_inverse nofun rfl (aa (ah C_slope nofun rfl (aa (qv 1) ac)) (aa (qv 1) ac))) (aa (qv 1) ac))))))),?_⟩
  walk_at"m";skip
  have l0:=List.length_pos_iff.mpr r0;refine aP.gen λN1 hN1=>?_;symm
  refine⟨_,hb.len,?_⟩;have z1:rs.length=1->us=[]:=λz=>List.length_eq_zero_iff.mp ();refine cz (λe=>⟨∅,λd H1 hd S1 h1=>h d H1 [] S1 ⟨[],h1,.mk_nil⟩ hd ⟨by simp,by simp⟩ (by simpa using l0) (C8 ∅) ⟨λ_=>0,.const 0,λx=>?_⟩⟩) (λe=>hN1 _ _ ?_)
  .rw[z1 (),DV];grind
  have l2:2<=rs.length:=();symm
  refine⟨b,rs,rfl,hb,(),λq hq=>⟨pr'.1 q hq,(br.bq pr'.1 q hq).mono ∅⟩,pr',λd1 H1 ss S1 l1 n1 p1 c1 ls=>?_⟩;have bs:Pb 11100 (cf ss):=(Pb.slope br () c1).mono ∅;refine⟨d1,b,ss,rs,rfl,l1,hb.same S1,λz=>by rw[z] at ls;simp at ls;nofun,(),(),p1,pr',bs,br.mono ∅,?_,λd2 H2 is S2 l2' p2 li bi iV=>?_⟩
  .have e:cf ss=DF (cf rs):=funext c1;rw[e];exact ns l2
  have S12:=S1.trans S2;refine⟨a,d2,b,us,is,rs,rfl,ha.same S12,l2',hb.same S12,lu,li,r0,lr,pr',br.mono ∅,hu,bu,p2.1,bi,λd3 H3 ws S3 l3 n3 p3 lw bw pV=>h d3 H3 ws (S12.trans S3) l3 (S12.none n3) p3 lw bw ?_⟩;obtain⟨V,pv,eV⟩:=iV;obtain⟨W,pw,eW⟩:=pV;have es:∀x,EV (DF (cf rs)) x=EV (cf ss) x:=λx=>du (λk=>by rw[c1 k];rfl) x
  refine⟨λx=>EV (cf us) x*V x-W x*EV (cf ss) x,((AW (n:=us.length) (λk hk=>aK hk) ()).mul pv).sub (pw.mul (AW (n:=ss.length) (λk hk=>aK hk) ())),λx=>?_⟩;have a1:=eV x;have a2:=eW x;rw[es];show EV (cf ws) x*EV (cf ss) x=EV (cf us) x+(EV (cf us) x*V x-W x*EV (cf ss) x)*EV (cf rs) x;generalize EV (cf us) x=u at *
  generalize EV (cf is) x=i at *
  generalize EV (cf ws) x=w' at *
  generalize EV (cf ss) x=s at *
  generalize EV (cf rs) x=r at *
  grind
def iP(K:W.Frag):Sp:=λvs H Q _=>∃a b:Int,vs=[.int a,.int b]/\Q (.int (Int.gcd a b)) H
theorem zw(F:dy K "_law_divisor" "_law_divisor" mR f fd) (T:dR K mg):aV P w K mg base dC 1 f fd ["_law_one", "_law_other"] (iP K):=by
 have scN:=qQ.nd;refine F.okQ qQ ?_ ?_;walk_at "q"
 .obtain⟨a,b,rfl,_⟩:=h;rfl
 .obtain⟨a,b,rfl,h⟩:=h;refine⟨_,(af (gh PassesOwn.never (aH kB (qv 1) ae (aC _)) (ag (sT (i:=0) (j:=1) rfl scN rfl rfl ∅ rfl rfl (aa (qv 1) (aa (ar gD (qv 0) (qv 1)) ac)) rfl)))
   (ag (au (ai oT (by rfl) T.b_abs wW (aa (qv 0) ac))))),?_⟩
  walk_at"m";symm
  refine⟨λm σ H'=>H'=H /\ ∃x y:Int,σ=[some (.int x),some (.int y)]/\Int.gcd x y=Int.gcd a b/\m=y.natAbs,⟨_,rfl,_,_,rfl,rfl,rfl⟩,?_⟩;rintro m σ H' ⟨rfl,x,y,rfl,hg,rfl⟩;symm
  refine cz (λhy0=>?_) (λhy0=>?_)
  .refine⟨_,λσ' H' h=>h,?_⟩;symm
   exact⟨hy0,_,y8 x hy0,by rw[vm,hg],rfl⟩
  .symm
   have e:((Int.gcd a b:Nat):Int)=if x<0 then -x else x:=by
    rw[<-hg,show y=0 by nofun]
    simp;split<;>nofun
   rw[<-e];exact h
def iM(K:W.Frag):Sp:=λvs H Q _=>∃a b:Int,vs=[.int a,.int b]/\b≠0/\b.natAbs<2^40000000 /\ ∀v H',aB (vw K H) (vw K H')->aI (vw K H') (fr (lo a b)) v->Q v H'
theorem IS(F:dy K "_law_low" "_law_low" AH f fd) (T:dR K mg)(N_:nO P base)(zCdivisor:cp P w K mg base "_law_divisor" ["_law_one", "_law_other"] 1 (iP K)):aV P w K mg base dC 2 f fd ["_law_top", "_law_bottom"] (iM K):=by
 have scN:=FQ.nd;refine F.okQ FQ ?_ ?_;walk_at "q"
 .obtain⟨a,b,rfl,_⟩:=h;rfl
 .obtain⟨a,b,rfl,hb,hbb,h⟩:=h;refine⟨_,(af (aE (i:=2) scN rfl (·) (ah zCdivisor nofun rfl (aa (qv 0) (aa (qv 1) ac))))
   (af (b9 (aH jw (qv 1) ae (aC _)) (ag (aE (i:=2) scN rfl (·) (ar bN ae (qv 2)))) aO)
   (ag (au (aT (aa (ar (gO N_ hr rfl rfl rfl) (qv 0) (qv 2)) (aa (ar (gO N_ hr rfl rfl rfl) (qv 1) (qv 2)) ac))))))),?_⟩
  walk_at"m";symm
  simp only[iP];symm
  have hgn:Int.gcd a b≠0:=λe=>hb (Int.gcd_eq_zero_iff.mp e).2;have e1:lg a b=if b<0 then 0-(Int.gcd a b:Int) else (Int.gcd a b:Int):=by
   unfold lg;split<;>nofun
  have d1:zJ a (0-(Int.gcd a b:Int)):=by unfold zJ;nofun
  have d2:zJ a (Int.gcd a b:Int):=by unfold zJ;nofun
  refine cz (λhn=>?_) (λhn=>?_)
  .rw[Yb hn] at e1;refine⟨d1,d1,∅,λp H2 hp S hp2=>?_⟩;refine h _ H2 S ?_;rw[<-e1] at hp2;simp only[fr,lo,aI,aN];exact⟨p,_,rfl,hp2,_,_,rfl,rfl,_,_,rfl,rfl,rfl⟩
  .rw[Yc hn] at e1;refine⟨d2,d2,∅,λp H2 hp S hp2=>?_⟩;refine h _ H2 S ?_;rw[<-e1] at hp2;simp only[fr,lo,aI,aN];exact⟨p,_,rfl,hp2,_,_,rfl,rfl,_,_,rfl,rfl,rfl⟩
def mq(K:W.Frag):Sp:=λvs H Q _=>∃(a:Addr)(ns:List Int)(k:Nat),vs=[.ref a,.int k]/\kw K H a (ns.map V.int) /\ ∀x:Int,Q (.int x) H
theorem zu(F:dy K "_law_cell_at" "_law_cell_at" mQ f fd) (T:dR K mg):aV P w K mg base dC 1 f fd ["_law_script", "_law_k"] (mq K):=by
 have scN:=re.nd;refine F.okQ re ?_ ?_;walk_at "q"
 .obtain⟨a,ns,k,rfl,_⟩:=h;rfl
 .obtain⟨a,ns,k,rfl,hS,h⟩:=h;refine⟨_,(af (b9 (aH jw (qv 1) (ai i0 (by rfl) T.b_len aD (aa (qv 0) ac)) (aC _)) (ag (au (av xw (qv 0) (qv 1) (λ_ _=>rfl)))) aO)
   (ag (au ae))),?_⟩
  walk_at"m";symm
  refine⟨_,.inl hS.sq,cz (λhk=>?_) (λhk=>h 0)⟩;simp only[YC] at hk;have hk':k<ns.length:=();exact⟨_,hS.sq,_,ce (by rw[Yz,YO hk'];rfl),h _⟩
def sS(K:W.Frag):Sp:=λvs H Q _=>∃(a:Addr)(ns:List Int)(k:Nat),vs=[.ref a,.int k]/\kw K H a (ns.map V.int) /\ ∀st H',vw K H st=none->aB (vw K H) (vw K H')->ga (vw K H') st->Q (.ref st) H'
theorem DL(F:dy K "_law_state" "_law_state" rR f fd) (T:dR K mg)(zCcell_at:cp P w K mg base "_law_cell_at" ["_law_script", "_law_k"] 1 (mq K)):aV P w K mg base dC 2 f fd ["_law_script", "_law_k"] (sS K):=by
 have scN:=zb.nd;refine F.okQ zb ?_ ?_;walk_at "q"
 .obtain⟨a,ns,k,rfl,_⟩:=h;rfl
 .obtain⟨a,ns,k,rfl,hS,h⟩:=h;refine⟨_,(af (aE (i:=2) scN rfl (·) (ah zCcell_at nofun rfl (aa (qv 0) (aa (qv 1) ac))))
   (af (b9 (aH Cn (qv 2) (ar C7 ae ae) (aC _)) (ag (au (aU (aa (ar bN (qv 2) (ar C7 ae ae)) (aa dO ac))))) aO)
   (ag (au (aU (aa (ar gD (qv 2) ae) (aa dO ac))))))),?_⟩
  walk_at"m";symm
  simp only[mq];symm
  refine⟨⟨k,rfl⟩,⟨ns,hS⟩,λx=>⟨yX ∅,cz (λhx=>⟨yX ∅,∅,λp H2 hp S hp2=>h p H2 hp S ⟨_,_,hp2,λz=>by cases z⟩⟩) (λhx=>⟨∅,∅,λp H2 hp S hp2=>h p H2 hp S ⟨_,_,hp2,λ_=>?_⟩⟩)⟩⟩
  exact⟨YQ x ∅,YR x ∅⟩
def gP(K:W.Frag):Sp:=λvs H Q _=>∃(st:Addr)(m:Int),vs=[.ref st,.int m]/\ga (vw K H) st/\0<m/\m<=2147483587 /\ ∀r H',0<=r->r<m->gB st (vw K H) (vw K H')->ga (vw K H') st->Q (.int r) H'
theorem Hd(F:dy K "_law_take" "_law_take" wO f fd) (T:dR K mg):aV P w K mg base dC 1 f fd ["_law_state_here", "_law_many"] (gP K):=by
 have scN:=BS.nd;refine F.okQ BS ?_ ?_;walk_at "q"
 .obtain⟨a,ns,rfl,_⟩:=h;rfl
 .obtain⟨st,m,rfl,⟨x,b,hst,hx⟩,hm,hm2,h⟩:=h;refine⟨_,(af (b9 (gL (av cT (qv 0) ae (λ_ _=>rfl)) (λ_=>rfl)) (af (aE (i:=2) scN rfl (·) (ar gD (av cT (qv 0) ae (λ_ _=>rfl)) (qv 1)))
   (af (cW (ar pZ (av cT (qv 0) ae (λ_ _=>rfl)) (qv 1)) (pJ (qv 0) ae dP))
   (ag (au (qv 2))))) aO)
   (af (cW (ar gD (ar aW (ar aM (av cT (qv 0) ae (λ_ _=>rfl)) ae) ae) ae) (pJ (qv 0) ae dP))
   (af (aE (i:=3) scN rfl (·) (ar gD (ar aW (ar aW (ar aM (av cT (qv 0) ae (λ_ _=>rfl)) (av cT (qv 0) ae (λ_ _=>rfl))) (ar aM ae (av cT (qv 0) ae (λ_ _=>rfl)))) ae) ae))
   (af (aE (i:=3) scN rfl (·) (ar gD (ar aW (ar aM (qv 3) (qv 3)) (ar aM ae (qv 3))) ae))
   (ag (au (ar gD (ar pZ (qv 3) ae) (qv 1)))))))),?_⟩
  walk_at"m";have hm0:m≠0:=();cases b with
  | true =>
   walk_at"vc*";refine⟨GI hm0 (by unfold Bt;nofun),λH2 B h2=>h _ _ (YQ x hm) (YR x hm) B ⟨_,_,h2,λz=>by cases z⟩⟩
  | false =>
   walk_at"vc*";refine⟨Fa ∅,∅,λH2 B h2=>?_⟩;have b1:Bt 31 ((x*48271+29).fmod 2147483647):=yc ∅ ∅;have b3:0<=(x*48271+29).fmod 2147483647/\(x*48271+29).fmod 2147483647<2147483647:=⟨YQ _ ∅,YR _ ∅⟩;generalize (x*48271+29).fmod 2147483647=y at *
   walk_at"vc*";have b2:Bt 31 ((y*y+39373*y+7).fmod 2147483629):=yc ∅ ∅;generalize e2:(y*y+39373*y+7).fmod 2147483629=z at *
   refine⟨gY (b1.mono ∅),gY ∅,∅,gY (b2.mono ∅),gY ∅,∅,GI ∅ ∅,?_⟩;exact h _ _ (YQ _ hm) (YR _ hm) B ⟨_,_,h2,λ_=>b3⟩
inductive oy (K:W.Frag)(vs:List V)(H:Hp)(Q:VK)(E:XK):Prop
 | mk (st:Addr):vs=[.ref st]->ga (vw K H) st->(∀v H' q,gB st (vw K H) (vw K H')->ga (vw K H') st->aI (vw K H') (fr q) v->Fq q->Bt 10 q.1->Bt 10 q.2->Sx 36 q->Q v H')->oy K vs H Q E
theorem EL(F:dy K "_law_small" "_law_small" rY f fd) (T:dR K mg)(zClow:cp P w K mg base "_law_low" ["_law_top", "_law_bottom"] 2 (iM K))
  (zCtake:cp P w K mg base "_law_take" ["_law_state_here", "_law_many"] 1 (gP K)):aV P w K mg base dC 3 f fd ["_law_state_here"] (oy K):=by
 have scN:=yj.nd;refine F.okQ yj ?_ ?_;walk_at "q"
 .obtain⟨a,rfl,_⟩:=h;rfl
 .obtain⟨st,rfl,hst,h⟩:=h;refine⟨_,(ag (au (ah zClow nofun rfl (aa (ar bN (ah zCtake nofun rfl (aa (qv 0) (aa ae ac))) ae) (aa (ar aW ae (av cT (aU (aa ae (aa ae (aa (ah zCtake nofun rfl (aa (qv 0) (aa ae ac))) ac)))) (ah zCtake nofun rfl (aa (qv 0) (aa ae ac))) (λ_ _=>rfl))) ac))))),?_⟩
  walk_at"m";symm
  simp only[gP,iM];symm
  refine⟨hst,∅,∅,λr1 H1 r10 r11 B1 S1=>⟨S1,∅,∅,λr2 H2 r20 r21 B2 S2=>⟨∅,?_⟩⟩⟩;intro p H3 hp S3 h3;refine⟨S2.same S3,∅,∅,λr4 H4 r40 r41 B4 S4=>?_⟩;have h4:=B4 _ _ (S2.ne hp) h3;obtain⟨v,hv,hm⟩:=sY (xs:=[V.int 0,V.int 0,V.int r2]) r40 (by simpa using r41)
  obtain⟨z,rfl,hz0,hz1⟩ : ∃z,v=.int z/\0<=z/\z<3:=by
   simp only[YY,YZ,Y0] at hm;rcases hm with rfl|rfl|rfl
   .exact⟨0,rfl,∅,∅⟩
   .exact⟨0,rfl,∅,∅⟩
   .exact⟨r2,rfl,r20,r21⟩
  symm
  refine⟨_,h4,_,hv,?_⟩;symm
  have hz:1+z≠0:=();have hb:(1+z).natAbs<2^10:=();refine⟨hz,Yd hb (YU ∅ ∅),λv H5 S5 r5=>?_⟩;have q2:=fI (a:=r1-6) hz;have q1:=fA (a:=r1-6) hz;have hl:lg (r1-6) (1+z)≠0:=BE hz;refine h v H5 _ (((B1.trans B2).same_trans S3).trans (B4.same_trans S5)) (S4.same S5) r5 (iH hz) ?_ ?_ (Sx.lo hz0 hz1 ())
  .unfold Bt;have:=YV (lo (r1-6) (1+z)).1 (lg (r1-6) (1+z));rw[q1] at this;have:=Y3 (lo (r1-6) (1+z)).1.natAbs (show 0<(lg (r1-6) (1+z)).natAbs by nofun)
   nofun
  .unfold Bt;have:=YV (lo (r1-6) (1+z)).2 (lg (r1-6) (1+z));rw[q2] at this;have:=Y3 (lo (r1-6) (1+z)).2.natAbs (show 0<(lg (r1-6) (1+z)).natAbs by nofun)
   nofun
inductive sU (K:W.Frag)(vs:List V)(H:Hp)(Q:VK)(E:XK):Prop
 | mk (st:Addr):vs=[.ref st]->ga (vw K H) st->(∀v H' q,gB st (vw K H) (vw K H')->ga (vw K H') st->aI (vw K H') (fr q) v->Fq q->0<q.1->Bq 10 q->Sx 36 q->Q v H')->sU K vs H Q E
theorem E8(F:dy K "_law_above" "_law_above" tW f fd) (T:dR K mg)(zClow:cp P w K mg base "_law_low" ["_law_top", "_law_bottom"] 2 (iM K))
  (zCtake:cp P w K mg base "_law_take" ["_law_state_here", "_law_many"] 1 (gP K)):aV P w K mg base dC 3 f fd ["_law_state_here"] (sU K):=by
 have scN:=xK.nd;refine F.okQ xK ?_ ?_;walk_at "q"
 .obtain⟨a,rfl,_⟩:=h;rfl
 .obtain⟨st,rfl,hst,h⟩:=h;refine⟨_,(ag (au (ah zClow nofun rfl (aa (ar aW ae (ah zCtake nofun rfl (aa (qv 0) (aa ae ac)))) (aa (ar aW ae (av cT (aU (aa ae (aa ae (aa (ah zCtake nofun rfl (aa (qv 0) (aa ae ac))) ac)))) (ah zCtake nofun rfl (aa (qv 0) (aa ae ac))) (λ_ _=>rfl))) ac))))),?_⟩
  walk_at"m";symm
  simp only[gP,iM];symm
  refine⟨hst,∅,∅,λr1 H1 r10 r11 B1 S1=>⟨S1,∅,∅,λr2 H2 r20 r21 B2 S2=>⟨∅,?_⟩⟩⟩;intro p H3 hp S3 h3;refine⟨S2.same S3,∅,∅,λr4 H4 r40 r41 B4 S4=>?_⟩;have h4:=B4 _ _ (S2.ne hp) h3;obtain⟨v,hv,hm⟩:=sY (xs:=[V.int 0,V.int 0,V.int r2]) r40 (by simpa using r41)
  obtain⟨z,rfl,hz0,hz1⟩ : ∃z,v=.int z/\0<=z/\z<3:=by
   simp only[YY,YZ,Y0] at hm;rcases hm with rfl|rfl|rfl
   .exact⟨0,rfl,∅,∅⟩
   .exact⟨0,rfl,∅,∅⟩
   .exact⟨r2,rfl,r20,r21⟩
  symm
  refine⟨_,h4,_,hv,?_⟩;symm
  have hz:1+z≠0:=();have hb:(1+z).natAbs<2^10:=();refine⟨hz,Yd hb (YU ∅ ∅),λv H5 S5 r5=>?_⟩;have q1:=fA (a:=1+r1) hz;have hl:0<lg (1+r1) (1+z):=Bs ();refine h v H5 _ (((B1.trans B2).same_trans S3).trans (B4.same_trans S5)) (S4.same S5) r5 (iH hz) ?_ (oB hz (by unfold Bt;nofun) hb) (Sx.lo hz0 hz1 ())
  refine Xe ?_ hl;rw[q1];nofun
def iU(K:W.Frag):Sp:=λvs H Q _=>∃(a:Addr)(qs:List (Int×Int)),vs=[.ref a]/\aF (vw K H) a qs /\
 ∀b H' n,n<=qs.length->(∀q,(qs.take n).getLast? = some q->q.1≠0)->(∀q∈qs.drop n,q.1=0)->vw K H b=none->aB (vw K H) (vw K H')->aF (vw K H') b (qs.take n)->Q (.ref b) H'
theorem Fd(F:dy K "_law_clean" "_law_clean" tj f fd) (T:dR K mg):aV P w K mg base dC 1 f fd ["_law_numbers"] (iU K):=by
 have scN:=xB.nd;refine F.okQ xB ?_ ?_;walk_at "q"
 .obtain⟨a,_,rfl,_⟩:=h;rfl
 .obtain⟨a,qs,rfl,ha,h⟩:=h;refine⟨_,(af (aE (i:=1) scN rfl (·) (ai ao (by rfl) T.b_len aD (aa (qv 0) ac)))
   (af (gh PassesOwn.never (QW.pt (pi (aH jz (qv 1) ae (aC _)) (lX (aH eK (av aS (av cT (qv 0) (ar bN (qv 1) ae) (λ_ _=>rfl)) ae (λ_ _=>rfl)) ae (aC _))))) (ag (aE (i:=1) scN rfl (·) (ar bN (qv 1) ae))))
   (ag (au (el dL (by rfl) T.b_list fH (aa (cZ eJ (qv 0) dS (dU (qv 1))) ac)))))),?_⟩
  walk_at"m";symm
  refine⟨_,ha.len,λm σ H'=>H'=H/\m<=qs.length/\(∀q∈qs.drop m,q.1=0)/\σ=[some (.ref a),some (.int m)],⟨_,rfl,Yp _,by simp,rfl⟩,?_⟩
  rintro k σ H' ⟨rfl,hk,hdr,rfl⟩;obtain⟨xs,hax,rx⟩:=ha;have hlx:xs.length=qs.length:=by rw[rx.length,YC]
  have fin:(∀q,(qs.take k).getLast? = some q->q.1≠0)->Nw K H' (HO.lst (iE xs none (some (k:Int)))) λx H1=>∃p,x=V.ref p /\ ∃ys,vw K H1 p=some (HO.lst ys)/\Nw K H1 (HO.lst ys) Q:=λhq p H2 hp S2 h2=>by
   rw[ph ()] at h2;refine⟨p,rfl,_,h2,λp2 H3 hp2 S3 h3=>h p2 H3 k hk hq hdr ?_ (S2.trans S3) ⟨_,h3,?_⟩⟩
   .cases e:vw K H' p2 with
    | none=>rfl
    | some o=>rw[S2 _ _ e] at hp2;cases hp2
   .rw[List.map_take];exact (rx.take k).same (S2.trans S3)
  symm
  refine cz (λh0=>?_) (λh0=>?_)
  .have hk1:k-1<qs.length:=();obtain⟨x,hx,r⟩:=rx.at (i:=k-1) (d:=fr qs[k-1]) (by rw[Yz,YO hk1];rfl)
   obtain⟨p,rfl,hp⟩:=r.fr_at;have e1:((k:Int)-1)=((k-1:Nat):Int):=();refine⟨_,hax,_,by rw[e1];exact ce hx,p,rfl,_,hp,_,cS,?_⟩
   symm
   refine cz (λhq=>?_) (λhq=>?_)
   .refine⟨_,λσ' H'' z=>z,k-1,(),rfl,(),λq' hq'=>?_,by rw[e1]⟩
    rw[List.drop_eq_getElem_cons hk1,show k-1+1=k by nofun] at hq'
    rcases YY.mp hq' with z|z
    .rw[z];exact hq
    .exact hdr q' z
   .refine⟨_,hax,fin λq hq2=>?_⟩;have:(qs.take k).getLast? = some qs[k-1]:=by
     rw[YX,Yu,Xg];rw[Yb (),show min k qs.length-1=k-1 by nofun,YO hk1]
    rw[this] at hq2;cases hq2;exact hq
  .refine⟨_,hax,fin λq hq=>?_⟩;rw[show k=0 by nofun] at hq
   cases hq
def gJ(K:W.Frag):Sp:=λvs H Q _=>∃x y p q,vs=[x,y]/\aI (vw K H) (fr p) x/\aI (vw K H) (fr q) y/\p.2≠0/\q.2≠0/\Bq 10000000 p/\Bq 10000000 q/\Bt 40000000 (p.2*q.2) /\ ∀v H',aB (vw K H) (vw K H')->aI (vw K H') (fr (qi p q)) v->Q v H'
theorem Gg(F:dy K "_law_plus" "_law_plus" vD f fd) (T:dR K mg)(zClow:cp P w K mg base "_law_low" ["_law_top", "_law_bottom"] 2 (iM K)):aV P w K mg base dC 3 f fd ["_law_one", "_law_other"] (gJ K):=by
 have scN:=C9.nd;refine F.okQ C9 ?_ ?_;walk_at "q"
 .obtain⟨_,_,_,_,rfl,_⟩:=h;rfl
 .obtain⟨x,y,p,q,rfl,hx,hy,np,nq,bp,bq,bb,h⟩:=h;refine⟨_,(ag (au (ah zClow nofun rfl (aa (ar aW (ar aM (av aS (qv 0) ae (λ_ _=>rfl)) (av aS (qv 1) ae (λ_ _=>rfl))) (ar aM (av aS (qv 1) ae (λ_ _=>rfl)) (av aS (qv 0) ae (λ_ _=>rfl)))) (aa (ar aM (av aS (qv 0) ae (λ_ _=>rfl)) (av aS (qv 1) ae (λ_ _=>rfl))) ac))))),?_⟩
  walk_at"m";obtain⟨a,rfl,ha⟩:=hx.fr_at;obtain⟨b,rfl,hb⟩:=hy.fr_at;walk_at"vc*";simp only[iM];walk_at"vc*";exact⟨cg bp.1 bq.2 ∅,cg bq.1 bp.2 ∅,cg bp.2 bq.2 ∅,Y8 np nq,h⟩
def ee(K:W.Frag):Sp:=λvs H Q _=>∃x y p q,vs=[x,y]/\aI (vw K H) (fr p) x/\aI (vw K H) (fr q) y/\p.2≠0/\q.2≠0/\Bq 10000000 p/\Bq 10000000 q/\Bt 40000000 (p.2*q.2) /\ ∀v H',aB (vw K H) (vw K H')->aI (vw K H') (fr (mW p q)) v->Q v H'
theorem EK(F:dy K "_law_times" "_law_times" rX f fd) (T:dR K mg)(zClow:cp P w K mg base "_law_low" ["_law_top", "_law_bottom"] 2 (iM K)):aV P w K mg base dC 3 f fd ["_law_one", "_law_other"] (ee K):=by
 have scN:=yf.nd;refine F.okQ yf ?_ ?_;walk_at "q"
 .obtain⟨_,_,_,_,rfl,_⟩:=h;rfl
 .obtain⟨x,y,p,q,rfl,hx,hy,np,nq,bp,bq,bb,h⟩:=h;refine⟨_,(ag (au (ah zClow nofun rfl (aa (ar aM (av aS (qv 0) ae (λ_ _=>rfl)) (av aS (qv 1) ae (λ_ _=>rfl))) (aa (ar aM (av aS (qv 0) ae (λ_ _=>rfl)) (av aS (qv 1) ae (λ_ _=>rfl))) ac))))),?_⟩
  walk_at"m";obtain⟨a,rfl,ha⟩:=hx.fr_at;obtain⟨b,rfl,hb⟩:=hy.fr_at;walk_at"vc*";simp only[iM];walk_at"vc*";exact⟨cg bp.1 bq.1 ∅,cg bp.2 bq.2 ∅,Y8 np nq,h⟩
inductive tX (K:W.Frag)(vs:List V)(H:Hp)(Q:VK)(E:XK):Prop
 | mk (x y p q:_):vs=[x,y]->aI (vw K H) (fr p) x->aI (vw K H) (fr q) y->p.2≠0->q.2≠0->Bq 10000000 p->Bq 10000000 q->Bt 40000000 (p.2*q.2)->(∀v H',aB (vw K H) (vw K H')->aI (vw K H') (fr (wz p q)) v->Q v H')->tX K vs H Q E
theorem Ew(F:dy K "_law_minus" "_law_minus" tV f fd) (T:dR K mg)(zClow:cp P w K mg base "_law_low" ["_law_top", "_law_bottom"] 2 (iM K)):aV P w K mg base dC 3 f fd ["_law_one", "_law_other"] (tX K):=by
 have scN:=yP.nd;refine F.okQ yP ?_ ?_;walk_at "q"
 .obtain⟨_,_,_,_,rfl,_⟩:=h;rfl
 .obtain⟨x,y,p,q,rfl,hx,hy,np,nq,bp,bq,bb,h⟩:=h;refine⟨_,(ag (au (ah zClow nofun rfl (aa (ar bN (ar aM (av aS (qv 0) ae (λ_ _=>rfl)) (av aS (qv 1) ae (λ_ _=>rfl))) (ar aM (av aS (qv 1) ae (λ_ _=>rfl)) (av aS (qv 0) ae (λ_ _=>rfl)))) (aa (ar aM (av aS (qv 0) ae (λ_ _=>rfl)) (av aS (qv 1) ae (λ_ _=>rfl))) ac))))),?_⟩
  walk_at"m";obtain⟨a,rfl,ha⟩:=hx.fr_at;obtain⟨b,rfl,hb⟩:=hy.fr_at;walk_at"vc*";simp only[iM];walk_at"vc*";exact⟨cg bp.1 bq.2 ∅,cg bq.1 bp.2 ∅,cg bp.2 bq.2 ∅,Y8 np nq,h⟩
inductive wG (K:W.Frag)(vs:List V)(H:Hp)(Q:VK)(E:XK):Prop
 | mk (x y p q:_):vs=[x,y]->aI (vw K H) (fr p) x->aI (vw K H) (fr q) y->p.2≠0->q.2≠0->q.1≠0->Bq 10000000 p->Bq 10000000 q->Bt 40000000 (p.2*q.1)->(∀v H',aB (vw K H) (vw K H')->aI (vw K H') (fr (CK p q)) v->Q v H')->wG K vs H Q E
theorem Gc(F:dy K "_law_over" "_law_over" wN f fd) (T:dR K mg)(zClow:cp P w K mg base "_law_low" ["_law_top", "_law_bottom"] 2 (iM K)):aV P w K mg base dC 3 f fd ["_law_one", "_law_other"] (wG K):=by
 have scN:=B0.nd;refine F.okQ B0 ?_ ?_;walk_at "q"
 .obtain⟨_,_,_,_,rfl,_⟩:=h;rfl
 .obtain⟨x,y,p,q,rfl,hx,hy,np,nq,n0,bp,bq,bb,h⟩:=h;refine⟨_,(ag (au (ah zClow nofun rfl (aa (ar aM (av aS (qv 0) ae (λ_ _=>rfl)) (av aS (qv 1) ae (λ_ _=>rfl))) (aa (ar aM (av aS (qv 0) ae (λ_ _=>rfl)) (av aS (qv 1) ae (λ_ _=>rfl))) ac))))),?_⟩
  walk_at"m";obtain⟨a,rfl,ha⟩:=hx.fr_at;obtain⟨b,rfl,hb⟩:=hy.fr_at;walk_at"vc*";simp only[iM];walk_at"vc*";exact⟨cg bp.1 bq.2 ∅,cg bp.2 bq.1 ∅,Y8 np n0,h⟩
inductive rT (K:W.Frag)(vs:List V)(H:Hp)(Q:VK)(E:XK):Prop
 | mk (st:Addr)(m:Nat):vs=[.ref st,.int m]->m<=6->ga (vw K H) st->(∀(a:Addr)(H':Hp)(cs:List nJ),gB st (vw K H) (vw K H')->ga (vw K H') st->jC (vw K H') a (cs.map zf)->(∀c∈cs,Fq c.1/\Fq c.2/\0<c.2.1)->(∀c∈cs,Bq 100 c.1/\Bq 10 c.2)->(∀c∈cs,Sx 300 c.1/\Sx 36 c.2)->(∀i c d,cs[i]? = some c->cs[i+1]? = some d->DN c.1 d.1=true)->cs.length<=m->vw K H a=none->Q (.ref a) H')->rT K vs H Q E
theorem Fk(F:dy K "_law_crowd" "_law_crowd" rQ f fd) (T:dR K mg)(zCsmall:cp P w K mg base "_law_small" ["_law_state_here"] 3 (oy K)) (zCabove:cp P w K mg base "_law_above" ["_law_state_here"] 3 (sU K))
  (zCtake:cp P w K mg base "_law_take" ["_law_state_here", "_law_many"] 1 (gP K)) (zCplus:cp P w K mg base "_law_plus" ["_law_one", "_law_other"] 3 (gJ K)):aV P w K mg base dC 4 f fd ["_law_state_here", "_law_most"] (rT K):=by
 have scN:=yN.nd;refine F.okQ yN ?_ ?_;walk_at "q"
 .obtain⟨a,_,rfl,_⟩:=h;rfl
 .obtain⟨st,m,rfl,hm,hst,h⟩:=h;refine⟨_,(af (aE (i:=2) scN rfl (·) (aU ac))
   (af (aE (i:=3) scN rfl (·) (ah zCsmall nofun rfl (aa (qv 0) ac)))
   (af (cC PassesOwn.never rfl (cO rfl T.b_range (aa (ah zCtake nofun rfl (aa (qv 0) (aa (ar aW (qv 1) ae) ac))) ac)) (aq (i:=4) scN rfl (·)) (af (iT (oN XG XJ XM fe (qv 2) (aa (aT (aa (qv 3) (aa (ah zCabove nofun rfl (aa (qv 0) ac)) ac))) ac)))
   (ag (aE (i:=3) scN rfl (·) (ah zCplus nofun rfl (aa (qv 3) (aa (ah zCabove nofun rfl (aa (qv 0) ac)) ac)))))))
   (ag (au (qv 2)))))),?_⟩
  walk_at"m";refine aP.gen λN1 hN1=>?_;symm
  refine⟨∅,λa H1 ha S1 h1=>hN1 _ _ ?_⟩;refine aP.gen λN2 hN2=>?_;symm
  refine⟨st,rfl,hst.same S1,λv H2 q B2 S2 r2 f2 c1 c2 c5=>hN2 _ _ ?_⟩;refine aP.gen λN3 hN3=>?_;symm
  simp only[gP];refine⟨st,_,rfl,S2,(),(),λn H3 n0 n1 B3 S3=>⟨_,rfl,(),(),?_⟩⟩;have nst:st≠a:=((hst.ne ha)).symm;have h3:=B3 _ _ nst.symm (B2 _ _ nst.symm h1);have hr2:aI (vw K H3) (fr q) v:=by
   obtain⟨_,_,z,_⟩:=id S2;exact aI.flat_but z B3 _ _ (cE q) r2
  refine aX (its:=fT 0 n.toNat) (λi σ H'=>∃v y q cs,σ=[some (.ref st),some (.int m),some (.ref a),some v,y]/\gB st (vw K H) (vw K H')/\ga (vw K H') st/\jC (vw K H') a (cs.map zf)/\cs.length=i/\aI (vw K H') (fr q) v/\Fq q/\Bq (10+12*i) q/\Sx (36+36*i) q/\(∀c∈cs,Sx 300 c.1/\Sx 36 c.2) /\
   (∀c∈cs,Fq c.1/\Fq c.2/\0<c.2.1)/\(∀c∈cs,Bq 100 c.1/\Bq 10 c.2)/\(∀i c d,cs[i]? = some c->cs[i+1]? = some d->DN c.1 d.1=true) /\ ∀c,cs.getLast? = some c->DN c.1 q=true) (λ_ _ _ _ _=>bH)
   ⟨v,_,q,[],rfl,((S1.but st).trans B2).trans B3,S3,⟨[],h3,.mk_nil⟩,rfl,hr2,f2,⟨c1,c2⟩,c5,by simp,by simp,by simp,by simp,by simp⟩ ?_ ?_
  .rintro i x σ H4 hi hx ⟨v,y,q,cs,rfl,B4,S4,l4,hl,r4,f4,b4,x4,c6,c1,c2,c3,c4⟩;rw[cH] at hi;refine aP.gen λM1 hM1=>?_;symm
   refine⟨l4.ty,st,rfl,S4,λw5 H5 q5 B5 S5 r5 f5 p5 b5 x5=>⟨∅,λp6 H6 hp6 S6 h6=>?_⟩⟩;have l6:jC (vw K H6) a (cs.map zf):=(l4.stBut (gE cs) (tI cs) S4 B5).same S6;have r46:aI (vw K H6) (fr q) v:=by
    obtain⟨_,_,z,_⟩:=id S4;exact aI.same S6 _ _ (aI.flat_but z B5 _ _ (cE q) r4)
   have r56:=aI.same S6 _ _ r5;obtain⟨xs,hxs,rxs⟩:=id l6;refine⟨xs,hxs,?_,λH7 B7 h7=>hM1 _ _ ?_⟩
   .rw[rxs.length,YC];exact Yd (show cs.length<7 by nofun) ∅
   have S7:ga (vw K H7) st:=(S5.same S6).but hxs nst B7;have r47:=aI.flat_but hxs B7 _ _ (cE q) r46;have r57:=aI.flat_but hxs B7 _ _ (cE q5) r56;have ne6:p6≠a:=λe=>by
    obtain⟨_,z,_⟩:=l4.stBut (gE cs) (tI cs) S4 B5;rw[<-e,hp6] at z;cases z
   have h67:=B7 _ _ ne6 h6;have l7:jC (vw K H7) a ((cs++[(q,q5)]).map zf):=by
    refine⟨_,h7,?_⟩;rw[XE];exact (aN.flat_but hxs B7 _ _ (gE cs) rxs).snoc (.mk_spt h67 r47 r57)
   have B07:gB st (vw K H) (vw K H7):=λb o hb e=>B7 _ _ (ap e ha) (S6 _ _ (B5 _ _ hb (B4 _ _ hb e)));symm
   refine⟨st,rfl,S7,λw8 H8 q8 B8 S8 r8 f8 p8 b8 x8=>?_⟩;obtain⟨_,_,zst,_⟩:=id S7;have r48:=aI.flat_but zst B8 _ _ (cE q) r47;simp only[gJ];refine⟨_,_,q,q8,rfl,r48,r8,by have:=f4.1;nofun,by have:=f8.1;nofun,b4.mono (),b8.mono ∅,(b4.2.mul b8.2).mono (),λv9 H9 S9 r9=>?_⟩
   refine⟨(B07.trans B8).same_trans S9,S8.same S9,qi q q8,cs++[(q,q5)],(l7.stBut (gE _) (tI _) S7 B8).same S9,by simp[hl],r9,lH f4 f8,(tO f4 f8 b4 b8).mono (),(x4.add f4.ne f8.ne x8).mono (),?_,?_,?_,?_,?_⟩
   .intro c hc;rcases List.mem_append.mp hc with z|z
    .exact c6 c z
    .cases List.mem_singleton.mp z;exact⟨x4.mono (),x5⟩
   .intro c hc;rcases List.mem_append.mp hc with z|z
    .exact c1 c z
    .cases List.mem_singleton.mp z;exact⟨f4,f5,p5⟩
   .intro c hc;rcases List.mem_append.mp hc with z|z
    .exact c2 c z
    .cases List.mem_singleton.mp z;exact⟨b4.mono (),b5⟩
   .intro j c d e1 e2;by_cases hj:j+1<cs.length
    .rw[Yy ()] at e1;rw[Yy hj] at e2;exact c3 j c d e1 e2
    .have hj2:j+1=cs.length:=by
      have:=(List.getElem?_eq_some_iff.mp e2).1;simp at this;nofun
     rw[Yw (),hj2,XB] at e2;cases e2;rw[Yy ()] at e1;refine c4 c ?_;rw[YX,<-hj2];exact e1
   .intro c hc;rw[List.getLast?_concat] at hc;cases hc;exact Dy f4 f8 p8
  .rintro σ H4 ⟨v,y,q,cs,rfl,B4,S4,l4,hl,r4,f4,b4,x4,c6,c1,c2,c3,c4⟩;refine hN3 _ _ ?_;symm
   exact h a H4 cs B4 S4 l4 c1 c2 c6 c3 (by rw[hl,cH];nofun) ha
inductive iY (K:W.Frag)(vs:List V)(H:Hp)(Q:VK)(E:XK):Prop
 | mk (a:Addr)(cs:List nJ)(m:Nat):vs=[.ref a,.int m]->jC (vw K H) a (cs.map zf)->cs.length<=6->m<=13->(∀c∈cs,Fq c.1/\Fq c.2/\Bq 100 c.1/\Bq 10 c.2)->(∀(b:Addr)(H':Hp)(qs:List (Int×Int)),aB (vw K H) (vw K H')->aF (vw K H') b qs->vw K H b=none->qs.length=m->(∀(k:Nat)(q:Int×Int),qs[k]? = some q->Fq q/\wv q=jN cs k)->Q (.ref b) H')->iY K vs H Q E
theorem uf(F:dy K "_law_crowd_sums" "_law_crowd_sums" iZ f fd) (T:dR K mg)(zCplus:cp P w K mg base "_law_plus" ["_law_one", "_law_other"] 3 (gJ K)) (zCtimes:cp P w K mg base "_law_times" ["_law_one", "_law_other"] 3 (ee K)):aV P w K mg base dC 4 f fd ["_law_crowd_here", "_law_many"] (iY K):=by
 have scN:=lU.nd;refine F.okQ lU ?_ ?_;walk_at "q"
 .obtain⟨a,_,_,rfl,_⟩:=h;rfl
 .obtain⟨a,cs,m,rfl,ha,hcl,hm,hc,h⟩:=h;refine⟨_,(af (aE (i:=2) scN rfl (·) (aU ac))
   (af (aE (i:=3) scN rfl (·) (dH (own:=["_law_spot", "_law_weight"]) (outs:=[]) (ixs:=[]) rfl (cR (qv 0)) rfl ⟨rfl,rfl,rfl,trivial,rfl,trivial⟩ (λ_ _ _ _=>⟨(show QG _ _ (kG K 2 _) from bO (n:=2) rfl (ay (aq (i:=0) (show (["_law_spot", "_law_weight"]:List Str).Nodup by decide +kernel) rfl (·)) (ay (aq (i:=1) (show (["_law_spot", "_law_weight"]:List Str).Nodup by decide +kernel) rfl (·)) bQ))),dJ,(qv 1)⟩)))
   (af (cC PassesOwn.never rfl (cO rfl T.b_range (aa (qv 1) ac)) (aq (i:=4) scN rfl (·)) (af (aE (i:=5) scN rfl (·) (aT (aa ae (aa ae ac))))
   (af (cC PassesOwn.never rfl (cR (qv 3)) (aq (i:=6) scN rfl (·)) (ag (aE (i:=5) scN rfl (·) (ah zCplus nofun rfl (aa (qv 5) (aa (qv 6) ac))))))
   (af (iT (oN XG XJ XM fe (qv 2) (aa (qv 5) ac)))
   (ag (aE (i:=3) scN rfl (·) (dH (own:=["_law_at"]) (outs:=["_law_powers", "_law_crowd_here"]) (ixs:=[3,0]) rfl (cO rfl T.b_range (aa (ai ao (by rfl) T.b_len aD (aa (qv 0) ac)) ac)) rfl ⟨rfl,rfl,rfl,⟨rfl,⟨rfl,trivial⟩⟩,rfl,⟨⟨rfl,rfl,rfl,_,rfl⟩,⟨⟨rfl,rfl,rfl,_,rfl⟩,trivial⟩⟩⟩ (λ_ _ _ _=>⟨(aq (i:=0) (show (["_law_at", "_law_powers", "_law_crowd_here"]:List Str).Nodup by decide +kernel) rfl (·)),dJ,(ah zCtimes nofun rfl (aa (av (show yu _ (wp K) from cT) (qv 1) (qv 0) (λ_ _=>rfl)) (aa (av (show yu _ (E7 K) from aS) (av (show yu _ (wp K) from cT) (qv 2) (qv 0) (λ_ _=>rfl)) ae (λ_ _=>rfl)) ac)))⟩))))))))
   (ag (au (qv 2)))))),?_⟩
  walk_at"m";skip
  obtain⟨xs,hxs,rxs⟩:=id ha;obtain⟨ps,p1,p2,p3,p4⟩:=qo rxs;have hlx:xs.length=cs.length:=by rw[rxs.length,YC]
  refine aP.gen λN1 hN1=>?_;symm
  refine⟨∅,λt H1 ht S1 h1=>hN1 _ _ ?_⟩;refine aP.gen λN2 hN2=>?_;symm
  refine⟨⟨xs,.of (aQ (S1 _ _ hxs))⟩,λd H2 hd S2 h2=>?_⟩;have hxs1:=S1 _ _ hxs;refine pQ (its:=xs) (ps:=ps) (λi ys H'=>aB (vw K H1) (vw K H')/\ys=(ps.take i).map (·.2)) (by rw[hlx,p1]) (λi ys H' _ _ p=>⟨bI (p.1 _ _ hxs1),λj u v e=>?_⟩) h2 ⟨S2,rfl⟩ (λi u v ys H' hi huv h' p=>?_) (λys H3 h3 p=>?_)
  .obtain⟨q,e1,e2⟩:=p2 j u v e;exact⟨q,e1,p.1 _ _ (S1 _ _ e2)⟩
  .obtain⟨S',rfl⟩:=p;symm
   refine .mk2 h' ?_ λH5 B5 h5=>⟨λb o e=>B5 _ _ (ap e hd) (S' _ _ e),?_⟩
   .rw[YC,Yu];have:1000<=sizeLine:=∅;nofun
   .rw[Xb,huv,XE];rfl
  obtain⟨S3,rfl⟩:=p;rw[Xd] at h3;have S03:=S1.trans S3;refine hN2 _ _ ?_;refine aP.gen λN3 hN3=>?_;symm
  refine⟨(),(),?_⟩;obtain⟨Pv,hPv⟩ : ∃Pv:Nat->St->Hp->Prop,∀k σ H',Pv k σ H'↔X6 λ(w:Addr)(ws qs:List (Int×Int))(y z u:Option V)=>σ=[some (.ref a),some (.int m),some (.ref t),some (.ref w),y,z,u] /\
    aB (vw K H) (vw K H')/\w≠t/\aF (vw K H') w ws/\ws.length=cs.length/\(∀(i:Nat)(q:Int×Int)(c:nJ),ws[i]? = some q->cs[i]? = some c->Fq q/\wv q=wv c.2*aJ (wv c.1) k/\Bq (10+100*k) q) /\
    aF (vw K H') t qs/\qs.length=k /\ ∀(j:Nat)(q:Int×Int),qs[j]? = some q->Fq q/\wv q=jN cs j:=⟨_,λ_ _ _=>XD⟩
  refine aX (its:=fT 0 (Int.toNat m)) Pv (λ_ _ _ _ _=>bH) ((hPv _ _ _).mpr ⟨d,cs.map (·.2),[],_,_,_,rfl,S03,(ap h1 hd).symm,⟨_,h3,p4.same S03⟩,by simp,λi q c e1 e2=>?_,⟨[],S3 _ _ h1,.mk_nil⟩,rfl,by simp⟩) (λk x σ H4 hk hx pv=>?_) (λσ H4 pv=>?_)
  .rw[Yz,e2] at e1;cases e1;obtain⟨z1,z2,z3,z4⟩:=hc c (YA e2);refine⟨z2,?_,z4⟩;show wv c.2=wv c.2*1;grind
  .obtain⟨w,ws,qs,y,z,u,rfl,S4,nw,lw4,lw,hws,lt4,lq,hqs⟩:=(hPv _ _ _).mp pv;rw[cH] at hk;have hk13:k<13:=();obtain⟨_,rfl⟩:=dg hx;refine aP.gen λM1 hM1=>?_;symm
   refine⟨∅,λpz Hz hpz Sz hz=>hM1 _ _ ?_⟩;refine aP.gen λM2 hM2=>?_;symm
   have lwz:=lw4.same Sz;obtain⟨wx,hwx,rwx⟩:=id lwz;have lwx:wx.length=cs.length:=by rw[rwx.length,YC,lw]
   refine⟨⟨wx,.of (aQ hwx)⟩,?_⟩;obtain⟨Pw,hPw⟩ : ∃Pw:Nat->St->Hp->Prop,∀j σ H',Pw j σ H'↔X3 λ(v:V)(q:Int×Int)(u:Option V)=>σ=[some (.ref a),some (.int m),some (.ref t),some (.ref w),some (.int (0+k)),some v,u]/\aB (vw K Hz) (vw K H')/\aI (vw K H') (fr q) v/\Fq q/\wv q=mP (ws.take j)/\Bq (1+j*(11+100*k)) q:=⟨_,λ_ _ _=>XD⟩;refine aX (its:=wx) Pw (λj σ H' _ p=>?_) ((hPw _ _ _).mpr ⟨_,(0,1),_,rfl,.rfl,bC hz,⟨∅,∅⟩,?_,?_⟩) (λj x σ H5 hj hx5 pw=>?_) (λσ H5 pw=>?_)
   .obtain⟨_,_,_,_,S5,_⟩:=(hPw _ _ _).mp p;exact bI (S5 _ _ hwx)
   .show ((0:Int):Rat)/((1:Int):Rat)=0;have e0:((0:Int):Rat)=0:=rfl;rw[e0];grind
   .rw[Nat.zero_mul];exact⟨∅,∅⟩
   .obtain⟨v,q,u5,rfl,S5,r5,f5,w5,b5⟩:=(hPw _ _ _).mp pw;have jl:j<ws.length:=();have jc:j<cs.length:=();obtain⟨d5,e5,rx5⟩:=rwx.get hx5;rw[Yz,YO jl] at e5;cases e5;obtain⟨fw,vw5,bw⟩:=hws j _ _ (YO jl) (YO jc);have hjk:j*(11+100*k)<=5*(11+100*12):=Xl () ();symm
    simp only[gJ];symm
    refine⟨q,r5,_,aI.same S5 _ _ rx5,by have:=f5.1;nofun,by have:=fw.1;nofun,b5.mono (),bw.mono (),(b5.2.mul bw.2).mono (),λv6 H6 S6 r6=>(hPw _ _ _).mpr ⟨_,_,_,rfl,S5.trans S6,r6,lH f5 fw,?_,(tO f5 fw b5 bw).mono ?_⟩⟩
    .rw[pE (by have:=f5.1;nofun) (by have:=fw.1;nofun),w5,Xb,YO jl,Ao]
     show _=mP (ws.take j)+(wv ws[j]+0);grind
    .rw[Xn];nofun
   .obtain⟨v,q,u5,rfl,S5,r5,f5,w5,b5⟩:=(hPw _ _ _).mp pw;rw[show wx.length=ws.length by nofun,Xd] at w5
    have wq:wv q=jN cs k:=by
     rw[w5];exact uL lw λi q c e1 e2=>(hws i q c e1 e2).2.1
    have S4z5:=Sz.trans S5;obtain⟨tx,htx,rtx⟩:=lt4.same S4z5;have nat':a≠t:=ap hxs ht;refine hM2 _ _ ?_;refine aP.gen λM3 hM3=>?_;symm
    refine⟨jG htx,tx,htx,?_,λH6 B6 h6=>hM3 _ _ ?_⟩
    .rw[rtx.length,YC,lq];exact Yd hk13 ∅
    have hxs6:=B6 _ _ nat' (S4z5 _ _ (S4 _ _ hxs));have S06:aB (vw K H) (vw K H6):=λb o e=>B6 _ _ (ap e ht) (S4z5 _ _ (S4 _ _ e));have lw6:=(lw4.same S4z5).but htx nw B6;have lt6:aF (vw K H6) t (qs++[q]):=by
     refine⟨_,h6,?_⟩;rw[XE];exact (aN.flat_but htx B6 _ _ (dW qs) rtx).snoc (aI.flat_but htx B6 _ _ (cE _) r5)
    obtain⟨wx6,hwx6,rwx6⟩:=id lw6;have hln:de (vw K H6) a=some xs.length:=by simp only[de,hxs6]
    symm
    refine⟨_,hln,(),(),λc H7 hc7 S7 h7=>?_⟩;have hct:c≠t:=(ap h6 hc7).symm;rw[show (xs.length:Int).toNat=cs.length by nofun]
    refine cn (its:=fT 0 cs.length) (λi zs H'=>aB (vw K H6) (vw K H') /\ ∃vs:List (Int×Int),vs.length=i/\aN (vw K H') (vs.map fr) zs /\ ∀(j:Nat)(q:Int×Int)(c:nJ),vs[j]? = some q->cs[j]? = some c->Fq q/\wv q=wv c.2*aJ (wv c.1) (k+1)/\Bq (10+100*(k+1)) q)
     (λ_ _ _ _ _ _=>bH) h7 ⟨S7,[],rfl,.mk_nil,by simp⟩ (λi x zs H8 hi hx8 h8 p=>?_) (λzs H8 h8 p=>?_)
    .obtain⟨S8,vs,lv,rv,hv⟩:=p;obtain⟨hi',rfl⟩:=dg hx8;have iw:i<ws.length:=();obtain⟨vi,e1,ri⟩:=rwx6.at (i:=i) (d:=fr ws[i]) (by rw[Yz,YO iw];rfl)
     obtain⟨xi,e2,rxi⟩:=rxs.at (i:=i) (d:=zf cs[i]) (by rw[Yz,YO hi'];rfl)
     obtain⟨b,x1,x2,rfl,hb,q1,q2⟩:=(aI.same (S06.trans S8) _ _ rxi).spt_at;obtain⟨fw,vw6,bw⟩:=hws i _ _ (YO iw) (YO hi');obtain⟨z1,z2,z3,z4⟩:=hc cs[i] (YN hi');symm
     simp only[ee];symm
     refine⟨_,S8 _ _ hwx6,vi,by rw[XH];exact ce e1,xs,S8 _ _ hxs6,_,by rw[XH];exact ce e2,b,rfl,_,hb,_,cS,?_⟩
     refine⟨_,aI.same S8 _ _ ri,_,q1,by have:=fw.1;nofun,by have:=z1.1;nofun,bw.mono (),z3.mono ∅,(bw.2.mul z3.2).mono (),λv9 H9 S9 r9=>.mk (S9 _ _ h8) ?_ λH10 B10 h10=>⟨λb o e=>B10 _ _ (ap e hc7) (S9 _ _ (S8 _ _ e)),vs++[mW ws[i] cs[i].1],by simp[lv],?_,λj q c g1 g2=>?_⟩⟩
     .rw[rv.length,YC,lv];have:1000<=sizeLine:=∅;nofun
     .rw[XE];exact (aN.flat_but (S9 _ _ h8) B10 _ _ (dW vs) (rv.same S9)).snoc (aI.flat_but (S9 _ _ h8) B10 _ _ (cE _) r9)
     .by_cases hj:j<vs.length
      .rw[Yy hj] at g1;exact hv j q c g1 g2
      .have hj2:j=i:=by
        have:=(List.getElem?_eq_some_iff.mp g1).1;simp at this;nofun
       subst hj2;rw[Yw (),lv,XB] at g1;cases g1;rw[YO hi'] at g2;cases g2;refine⟨jf fw z1,?_,(lM fw z1 bw z3).mono ()⟩;rw[kO (by have:=fw.1;nofun) (by have:=z1.1;nofun),vw6,kd]
       grind
    .obtain⟨S8,vs,lv,rv,hv⟩:=p;rw[cH] at lv;refine (hPv _ _ _).mpr ⟨c,vs,qs++[q],_,_,_,rfl,S06.trans S8,hct,⟨zs,h8,rv⟩,lv,hv,lt6.same S8,by simp[lq],λj q' e=>?_⟩
     by_cases hj:j<qs.length
     .rw[Yy hj] at e;exact hqs j q' e
     .have hj2:j=k:=by
       have:=(List.getElem?_eq_some_iff.mp e).1;simp at this;nofun
      subst hj2;rw[Yw (),lq,XB] at e;cases e;exact⟨f5,wq⟩
  .obtain⟨w,ws,qs,y,z,u,rfl,S4,nw,lw4,lw,hws,lt4,lq,hqs⟩:=(hPv _ _ _).mp pv;rw[cH] at lq;refine hN3 _ _ ?_;symm
   exact h t H4 qs S4 lt4 ht () hqs
def jB(q:Int×Int):Prop:=Fq q/\Bq 131 q/\q.2∣jr 12
theorem ED{k:Nat}(h:k<=12):jr k∣jr 12:=⟨JN (12-k),by rw[<-xx,show k+(12-k)=12 by nofun]⟩
theorem E3{cs:List nJ}{k:Nat}{q:Int×Int}(h:∀c∈cs,Sx 300 c.1/\Sx 36 c.2)(hk:k<=12)(hq:Fq q)(e:wv q=jN cs k):q.2∣jr 12:=by
 obtain⟨n,e1,_⟩:=rV (k:=k) h;exact Int.dvd_trans (oM hq (by have:=lS k;nofun) (e.trans e1)) (ED hk)
theorem k7{qs:List (Int×Int)}(h:∀q∈qs,jB q):Pb 170 (cf qs):=by
 refine⟨jr 12,∅,(kR 12).mono ∅,λk=>?_⟩;cases e:qs[k]? with
 | none =>
  refine⟨0,?_,∅⟩;rw[aK (List.getElem?_eq_none_iff.mp e)];have:((0:Int):Rat)=0:=rfl;rw[this];grind
 | some q =>
  obtain⟨f,b,t,ht⟩:=h q (YA e);have c1:=am f.ne;have c0:((jr 12:Int):Rat)≠0:=am ∅;refine⟨q.1*t,?_,(b.1.mul (n:=39) ?_).mono ∅⟩
  .rw[aG e];have e1:((jr 12:Int):Rat)=(q.2:Rat)*(t:Rat):=by rw[ht,Xa]
   rw[Xa];unfold wv;grind
  .have h6:=kR 12;unfold Bt at h6 ⊢;rw[ht,YV] at h6;have:=Nat.le_mul_of_pos_left t.natAbs (show 0<q.2.natAbs by have:=f.1;nofun)
   nofun
def eH(qs:List (Int×Int)):Prop:=∃U:Int,0<U/\Bt 1700 U /\ ∀q∈qs,Fq q/\Bq 1400 q /\ ∃n:Int,wv q=(n:Rat)/(U:Rat)/\Bt 1700 n
instance {qs:List (Int×Int)}:CoeFun (eH qs) λ_=>∀q∈qs,Fq q/\Bq 1400 q/\True:=⟨λh q hq=>by
 obtain⟨_,_,_,h⟩:=h;exact⟨(h q hq).1,(h q hq).2.1,trivial⟩⟩
theorem mD{qs:List (Int×Int)}(h:eH qs):Pb 1700 (cf qs):=by
 obtain⟨U,u0,bU,h⟩:=h;refine⟨U,(),bU,λk=>?_⟩;cases e:qs[k]? with
 | none =>
  refine⟨0,?_,FD⟩;have:((0:Int):Rat)=0:=rfl;rw[aK (List.getElem?_eq_none_iff.mp e),this];grind
 | some q =>
  obtain⟨_,_,n,en,bn⟩:=h q (YA e);exact⟨n,by rw[aG e,en],bn⟩
theorem jB.num{q:Int×Int}(h:jB q):∃n:Int,wv q=(n:Rat)/((jr 12:Int):Rat)/\Bt 170 n:=by
 obtain⟨D,_,_,o⟩:=k7 (qs:=[q]) λp hp=>by rw[List.mem_singleton.mp hp];exact h
 obtain⟨f,b,t,ht⟩:=h;have c1:=am f.ne;have c0:((jr 12:Int):Rat)≠0:=am ∅;refine⟨q.1*t,?_,(b.1.mul (n:=39) ?_).mono ∅⟩
 .have e1:((jr 12:Int):Rat)=(q.2:Rat)*(t:Rat):=by rw[ht,Xa]
  rw[Xa];unfold wv;grind
 .have h6:=kR 12;unfold Bt at h6 ⊢;rw[ht,YV] at h6;have:=Nat.le_mul_of_pos_left t.natAbs (show 0<q.2.natAbs by have:=f.1;nofun)
  nofun
theorem eH.app{qs:List (Int×Int)}{x:Int×Int}(h:∀q∈qs,jB q)(fx:Fq x)(bx:Bq 1330 x):eH (qs++[x]):=by
 have x0:=fx.1;have s0:0<jr 12:=∅;have c1:((jr 12:Int):Rat)≠0:=am ∅;have c2:=am fx.ne;have b6:Bt 39 (jr 12):=kR 12;refine⟨jr 12*x.2,Y4 s0 x0,(b6.mul bx.2).mono ∅,λq hq=>?_⟩;rcases List.mem_append.mp hq with z|z
 .obtain⟨n,e,b⟩:=(h q z).num;refine⟨(h q z).1,(h q z).2.1.mono ∅,n*x.2,?_,(b.mul bx.2).mono ∅⟩;rw[e,Xa,Xa];grind
 .cases List.mem_singleton.mp z;refine⟨fx,bx.mono ∅,jr 12*x.1,?_,(b6.mul bx.1).mono ∅⟩;rw[Xa,Xa];unfold wv;grind
theorem eH.of{qs:List (Int×Int)}(h:∀q∈qs,jB q):eH qs :=
 ⟨jr 12,∅,(kR 12).mono ∅,λq hq=>by
  obtain⟨n,e,b⟩:=(h q hq).num;exact⟨(h q hq).1,(h q hq).2.1.mono ∅,n,e,b.mono ∅⟩⟩
theorem eH.zero{qs:List (Int×Int)}(h:eH qs):eH (qs++[(0,1)]):=by
 obtain⟨U,u0,bU,h⟩:=h;refine⟨U,u0,bU,λq hq=>?_⟩;rcases List.mem_append.mp hq with z|z
 .exact h q z
 .cases List.mem_singleton.mp z;have c0:((0:Int):Rat)=0:=rfl;refine⟨kx,za ∅,0,?_,FD⟩;rw[(fP ∅).mpr rfl,c0];grind
theorem eH.less{qs:List (Int×Int)}(h:eH qs) {rs:List (Int×Int)}(l:∀q∈rs,q∈qs):eH rs:=by
 obtain⟨U,u0,bU,h⟩:=h;exact⟨U,u0,bU,λq hq=>h q (l q hq)⟩
inductive oJ (K:W.Frag)(vs:List V)(H:Hp)(Q:VK)(E:XK):Prop
 | mk (a b:Addr)(n m k:Nat)(W p:Nat->Int):vs=[.ref a,.ref b,.int k]->IL (vw K H) a n W->IL (vw K H) b m p->k+m<=n->m<=20->(∀i,Bt 20000 (W i))->(∀i,Bt 20000 (p i))->(∀H',aB (vw K H) (vw K H')->Q (.int (bV (λi=>p i*W (k+i)) m)) H')->oJ K vs H Q E
theorem Gw(F:dy K "met" "met" BM f fd) (T:dR K mg):aV P w K mg base dC 1 f fd ["wholes", "row", "k"] (oJ K):=by
 have scN:=CO.nd;refine F.okQ CO ?_ ?_;walk_at "q"
 .obtain⟨_,_,_,_,_,_,_,rfl,_⟩:=h;rfl
 .obtain⟨a,b,n,m,k,W,p,rfl,ha,hb,hk,hm,bW,bp,h⟩:=h;refine⟨_,(ag (au (ai (qN rfl) (by rfl) T.b_sum AT (aa (dH (own:=["number", "whole"]) (outs:=[]) (ixs:=[]) rfl (CZ rfl T.b_zip (aa (qv 1) (aa (cZ eJ (qv 0) (dU (qv 2)) dS) ac))) rfl ⟨rfl,rfl,rfl,trivial,rfl,trivial⟩ (λ_ _ _ _=>⟨(show QG _ _ (kG K 2 _) from bO (n:=2) rfl (ay (aq (i:=0) (show (["number", "whole"]:List Str).Nodup by decide +kernel) rfl (·)) (ay (aq (i:=1) (show (["number", "whole"]:List Str).Nodup by decide +kernel) rfl (·)) bQ))),dJ,(ar (show eO _ _ (ic K) from aM) (qv 0) (qv 1))⟩)) ac)))),?_⟩
  walk_at"m";symm
  simp only[EQ];symm
  refine⟨_,ha,λc H1 hc S1 h1=>?_⟩;rw[iD (by rw[aZ];nofun),Eu] at h1
  have hb1:=hb.same S1;refine⟨c,rfl,true,⟨_,hb1⟩,true,⟨_,h1⟩,λd H2 hd S2 h2=>?_⟩;have ez:(lz m λi=>V.int (p i)).zip (lz (n-k) λi=>V.int (W (k+i)))=lz m λi=>(V.int (p i),V.int (W (k+i))):=Gi ();refine rH (ps:=(lz m λi=>V.int (p i)).zip (lz (n-k) λi=>V.int (W (k+i)))) (λi zs H'=>aB (vw K H1) (vw K H')/\zs=lz i λi=>V.int (p i*W (k+i))) (λi zs H' _ _ q=>⟨_,_,q.1 _ _ hb1,q.1 _ _ h1,vt.symm⟩) h2 ⟨S2,rfl⟩ (λi u v zs H8 H9 hi huv h9 q S89=>?_) (λzs H8 h8 q=>?_)
  .obtain⟨S8,rfl⟩:=q;rw[ez] at hi huv;rw[aZ] at hi;rw[dj hi] at huv;cases huv;symm
   refine⟨cg (bp i) (bW _) ∅,.mk2 h9 ?_ λH10 B10 h10=>⟨λb o e=>B10 _ _ (ap e hd) (S89 _ _ (S8 _ _ e)),lh.symm⟩⟩;rw[aZ];exact Xr (show i<=20 by nofun) ∅
  .obtain⟨S8,rfl⟩:=q;rw[ez,aZ] at h8;refine⟨lz m λi=>p i*W (k+i),by rw[h8,sX],?_⟩
   rw[yy];exact h H8 (S1.trans S8)
def uq:Nat->Nat
 | 0=>0
 | n+1=>n+1
theorem nV{W:Nat->Int}(k i:Nat):bV (λj=>qk W k j*W (i+j)) (k+1)=Lq W k i:=by
 rw[ub];exact fi _ λj _=>Y6 _ _
theorem ya{te:TE}{v0 v1 v2 v3 v4 v5 v6 o8 o9:Option V}{t e:Addr}{m N:Nat}{f p:Nat->Int}{c:Int}{H0 H1:Hp}{D:nI}(he:IL (vw K H0) e m p)(ht0:vw K H0 t=none)(S01:aB (vw K H0) (vw K H1))(ht:IL (vw K H1) t N f)(hm:m<=N)
  (hte:∀i H' (Qk:VK),i<m->Qk (.int (c*p i)) H'->te [v0,v1,v2,v3,v4,v5,v6,some (.ref t),some (.int (i:Nat)),some (.int (p i))] H' Qk)
  (hQ:∀o8 o9 H',aB (vw K H0) (vw K H')->IL (vw K H') t N (λj=>f j-if j<m then c*p j else 0)->D.nx [v0,v1,v2,v3,v4,v5,v6,some (.ref t),o8,o9] H') :
  ye (GH K (Cr K e)) (kG K 2 (kI (gQ 8) (kI (gQ 9) wV))) (pA (El 7) (El 8) te (λo i H Q=>∃p,o=V.ref p /\ ∃k,i=V.int k /\ ∃xs,vw K H p=some (HO.lst xs) /\ ∃v,nN xs k=some v/\Q v H) (F8 λi j=>i-j) (xX K)) D [v0,v1,v2,v3,v4,v5,v6,some (.ref t),o8,o9] H1:=by
 obtain⟨Pv,hPv⟩ : ∃Pv:Nat->St->Hp->Prop,∀i σ H',Pv i σ H'↔X2 λo8 o9=>σ=[v0,v1,v2,v3,v4,v5,v6,some (.ref t),o8,o9]/\aB (vw K H0) (vw K H')/\IL (vw K H') t N (λj=>f j-if j<i then c*p j else 0):=⟨_,λ_ _ _=>XD⟩
 refine jV (rows:=(lz m λi=>V.int (p i)).mapIdx λi x=>[V.int i,x]) Pv (λi σ H' _ q=>?_) ((hPv _ _ _).mpr ⟨_,_,rfl,S01,?_⟩) (λi r σ H2 q H3 hi hr pv hq S3 h3=>?_) (λσ H2 pv=>?_)
 .obtain⟨_,_,_,S,_⟩:=(hPv _ _ _).mp q;exact⟨_,aQ (S _ _ he),rfl⟩
 .unfold IL at ht ⊢;rw[ht];congr 2
  exact iy λj hj=>by dsimp only;rw[Yc (),Int.sub_zero]
 .obtain⟨o8,o9,rfl,S2,l2⟩:=(hPv _ _ _).mp pv;rw[Y2,aZ] at hi;rw[Y1,dj hi] at hr;cases hr;have l3:=l2.same S3;symm
  simp only[pA,F8];symm
  refine⟨_,h3,rfl,_,_,rfl,_,_,rfl,rfl,_,rfl,_,l3,_,HA (show i<N by nofun),hte i H3 _ hi ⟨_,rfl,_,rfl,_,rfl,_,l3,i,by rw[aZ];exact i6 (),λH4 B4 h4=>(hPv _ _ _).mpr ⟨_,_,rfl,λx o z=>B4 _ _ (ap z ht0) (S3 _ _ (S2 _ _ z)),?_⟩⟩⟩
  unfold IL;rw[h4,CB];congr 2
  refine iy λj hj=>?_;dsimp only;by_cases ej:j=i
  .rw[Yb ej,ej,Yc (),Yb (),Int.sub_zero]
  .rw[Yc ej];by_cases z:j<i
   .rw[Yb z,Yb ()]
   .rw[Yc z,Yc ()]
 .obtain⟨o8,o9,rfl,S2,l2⟩:=(hPv _ _ _).mp pv;rw[Y2,aZ] at l2;exact hQ _ _ _ S2 l2
inductive jS (K:W.Frag)(vs:List V)(H:Hp)(Q:VK)(E:XK):Prop
 | mk (a b c:Addr)(n k:Nat)(W:Nat->Int):vs=[.ref a,.ref b,.ref c]->IL (vw K H) a n W->IL (vw K H) b (k+1) (qk W k)->IL (vw K H) c (uq k) (mz W k)->2*(k+1)<=n->k<=5->(∀i,Bt 1700 (W i))->(∀i,i<=k+1->0<Dk W i)->(∀d H',aB (vw K H) (vw K H')->vw K H d=none->IL (vw K H') d (k+2) (qk W (k+1))->Q (.ref d) H')->jS K vs H Q E
theorem uE(F:dy K "next_row" "next_row" kK f fd) (T:dR K mg)(N_:nO P base)(C_met:cp P w K mg base "met" ["wholes", "row", "k"] 1 (oJ K)):aV P w K mg base dC 2 f fd ["wholes", "row", "before"] (jS K):=by
 have scN:=nD.nd;refine F.okQ nD ?_ ?_;walk_at "q"
 .obtain⟨_,_,_,_,_,_,rfl,_⟩:=h;rfl
 .obtain⟨a,b,c,n,k,W,rfl,ha,hb,hc,hn,hk,bW,hD,h⟩:=h;refine⟨_,(af (aE (i:=3) scN rfl (·) (ar bN (ai ao (by rfl) T.b_len aD (aa (qv 1) ac)) ae))
   (af (cW (aT (aa (av cT (qv 1) (eE cV ae) (λ_ _=>rfl)) (aa (ah C_met nofun rfl (aa (qv 0) (aa (qv 1) (aa (qv 3) ac)))) ac))) (bO (n:=2) rfl (ay (aq (i:=4) scN rfl (·)) (ay (aq (i:=5) scN rfl (·)) bQ))))
   (af (aE (i:=6) scN rfl (·) (ar aM (qv 4) (ah C_met nofun rfl (aa (qv 0) (aa (qv 1) (aa (ar aW (qv 3) ae) ac))))))
   (af (b9 (aH jz (qv 3) ae (aC _)) (ag (kX (i:=6) scN rfl (·) (ar aM (qv 5) (av cT (qv 1) (eE cV ae) (λ_ _=>rfl))) xf)) aO)
   (af (lW (i:=7) (own:=["number"]) (outs:=["last", "height"]) (ixs:=[4,5]) scN rfl (·) rfl (cR (ar aW (aU (aa ae ac)) (qv 1))) rfl ⟨rfl,rfl,rfl,⟨rfl,⟨rfl,trivial⟩⟩,rfl,⟨⟨rfl,rfl,rfl,_,rfl⟩,⟨⟨rfl,rfl,rfl,_,rfl⟩,trivial⟩⟩⟩ (λ_ _ _ _=>⟨(aq (i:=0) (show (["number", "last", "height"]:List Str).Nodup by decide +kernel) rfl (·)),dJ,(ar (show eO _ _ (ic K) from aM) (ar (show eO _ _ (ic K) from aM) (qv 1) (qv 2)) (qv 0))⟩))
   (af (cC PassesOwn.never rfl (kh rfl T.b_enumerate (aa (qv 1) ac)) (bO (n:=2) rfl (ay (aq (i:=8) scN rfl (·)) (ay (aq (i:=9) scN rfl (·)) bQ))) (ag (k8 (qv 7) (qv 8) iz (ar aM (qv 6) (qv 9)) pB dP)))
   (af (cC PassesOwn.never rfl (kh rfl T.b_enumerate (aa (qv 2) ac)) (bO (n:=2) rfl (ay (aq (i:=8) scN rfl (·)) (ay (aq (i:=9) scN rfl (·)) bQ))) (ag (k8 (qv 7) (qv 8) iz (ar aM (ar aM (qv 5) (qv 5)) (qv 9)) pB dP)))
   (ag (au (dH (own:=["number"]) (outs:=["last"]) (ixs:=[4]) rfl (cR (qv 7)) rfl ⟨rfl,rfl,rfl,⟨rfl,trivial⟩,rfl,⟨⟨rfl,rfl,rfl,_,rfl⟩,trivial⟩⟩ (λ_ _ _ _=>⟨(aq (i:=0) (show (["number", "last"]:List Str).Nodup by decide +kernel) rfl (·)),dJ,(ar (oA N_ hr rfl rfl rfl rfl rfl) (qv 0) (ar (show eO _ _ (ic K) from aM) (qv 1) (qv 1)))⟩))))))))))),?_⟩
  walk_at"m";have bq:∀i,Bt 10460 (qk W k i):=λi=>(lA bW ()).mono ∅;have bq':∀i,Bt 20000 (qk W k i):=λi=>(bq i).mono ∅;have bW':∀i,Bt 20000 (W i):=λi=>(bW i).mono ∅;refine aP.gen λN1 hN1=>?_;symm
  refine⟨_,hb.len,hN1 _ _ ?_⟩;rw[show (((k+1:Nat):Int)-1)=(k:Int) by nofun]
  refine aP.gen λN2 hN2=>?_;symm
  refine⟨_,hb,_,nW,a,b,n,k+1,k,W,qk W k,rfl,ha,hb,(),(),bW',bq',λH1 S1=>⟨∅,λt0 H2 ht0 S2 h2=>⟨t0,rfl,_,h2,rfl,_,_,rfl,_,_,rfl,rfl,hN2 _ _ ?_⟩⟩⟩;have S02:=S1.trans S2;rw[nV,dQ,fh];have bD:Bt 10460 (Dk W k):=(jE bW ()).mono ∅;have bD1:Bt 10460 (Dk W (k+1)):=(jE bW ()).mono ∅;have bL:Bt 10460 (Lq W k (k+1)):=(yt bW ()).mono ∅;refine aP.gen λN3 hN3=>?_;symm
  rw[show (k:Int)+1=((k+1:Nat):Int) by nofun]
  refine⟨a,b,n,k+1,k+1,W,qk W k,rfl,ha.same S02,hb.same S02,(),(),bW',bq',λH3 S3=>?_⟩;rw[nV];symm
  refine⟨cg bD bL ∅,hN3 _ _ ?_⟩;have S03:=S02.trans S3;refine aP.gen λN4 hN4=>?_;have bM:Bt 21000 (nE W k):=by
   cases k with
   | zero=>exact (bD.mul bL).mono ∅
   | succ m =>
    have h1:Bt 20920 (Dk W (m+1)*Lq W (m+1) (m+2)):=bD.mul bL;have h2:Bt 20920 (Dk W (m+2)*qk W (m+1) m):=bD1.mul (bq m);exact (h1.add h2).mono ∅
  have go:N4 [some (.ref a),some (.ref b),some (.ref c),some (.int k),some (.int (Dk W k)),some (.int (Dk W (k+1))),some (.int (nE W k)),none,none,none] H3:=by
   refine hN4 _ _ ?_;refine aP.gen λN5 hN5=>?_;symm
   refine⟨∅,λz0 H4 hz0 S4 h4=>?_⟩;symm
   refine⟨_,h4,_,S4 _ _ (S03 _ _ hb),?_,λz1 H5 hz1 S5 h5=>⟨z1,rfl,⟨_,.of (aQ h5)⟩,λt H6 ht S6 h6=>?_⟩⟩
   .rw[aZ];exact Yg (show _<=20 by simp;nofun) ∅
   have e5:[V.int 0]++(lz (k+1) λi=>V.int (qk W k i))=lz (k+2) λi=>V.int (zm (qk W k) i):=(oq (n:=k+1) (h:=λi=>V.int (zm (qk W k) i))).symm;rw[e5] at h5;have bs:∀i,Bt 10460 (zm (qk W k) i):=λi=>by
    cases i with
    | zero=>show Bt 10460 0;decide
    | succ i=>exact bq i
   have bDD:Bt 20920 (Dk W k*Dk W (k+1)):=bD.mul bD1;refine cn (its:=lz (k+2) λi=>V.int (zm (qk W k) i)) (λi zs H'=>aB (vw K H5) (vw K H')/\zs=lz i λi=>V.int (Dk W k*Dk W (k+1)*zm (qk W k) i)) (λi zs H' _ _ q=>bI (q.1 _ _ h5)) h6 ⟨S6,rfl⟩ (λi x zs H8 hi hx h8 q=>?_) (λzs H8 h8 q=>hN5 _ _ ?_)
   .obtain⟨S8,rfl⟩:=q;rw[aZ] at hi;rw[dj hi] at hx;cases hx;symm
    refine⟨cg bD bD1 ∅,cg bDD (bs i) ∅,.mk h8 ?_ λH10 B10 h10=>⟨λb o e=>B10 _ _ (ap e ht) (S8 _ _ e),lh.symm⟩⟩;rw[aZ];exact Xr (show i<=20 by nofun) ∅
   obtain⟨S8,rfl⟩:=q;rw[aZ] at h8;have S35:=S4.trans S5;have S38:=S35.trans S8;have ht3:=S35.free ht;refine aP.gen λN6 hN6=>?_;symm
   simp only[nv];symm
   refine⟨⟨_,S38 _ _ (S03 _ _ hb)⟩,ya (p:=qk W k) (c:=nE W k) (m:=k+1) (N:=k+2) (f:=λi=>Dk W k*Dk W (k+1)*zm (qk W k) i) (hb.same S03) ht3 S38 h8 () (λi H' Qk hi z=>?_) (λo8 o9 H9 S9 h9=>hN6 _ _ ?_)⟩
   .symm
    exact⟨cg bM (bq i) ∅,z⟩
   refine aP.gen λN7 hN7=>?_;symm
   simp only[nv];symm
   have bb:∀i,Bt 10460 (mz W k i):=λi=>by
    cases k with
    | zero=>show Bt 10460 0;decide
    | succ m=>exact (lA bW ()).mono ∅
   refine⟨⟨_,S9 _ _ (S03 _ _ hc)⟩,ya (p:=mz W k) (c:=Dk W (k+1)*Dk W (k+1)) (m:=uq k) (N:=k+2) (hc.same S03) ht3 S9 h9 (by cases k<;>simp[uq]) (λi H' Qk hi z=>?_) (λo8 o9 Ha Sa ha'=>hN7 _ _ ?_)⟩
   .symm
    exact⟨cg bD1 bD1 ∅,cg (bD1.mul bD1) (bb i) ∅,z⟩
   have hne:∀i,i<=k+1->Dk W i≠0:=λi hi=>by have:=hD i hi;nofun
   have fin:∀j,j<k+2->(Dk W k*Dk W (k+1)*zm (qk W k) j-if j<k+1 then nE W k*qk W k j else 0)-(if j<uq k then Dk W (k+1)*Dk W (k+1)*mz W k j else 0)=Dk W k*Dk W k*qk W (k+1) j:=λj hj=>by
    rw[<-Av hne j];have e1:(if j<k+1 then nE W k*qk W k j else 0)=nE W k*qk W k j:=by
     by_cases z:j<k+1
     .rw[Yb z]
     .rw[Yc z,dE (),Xi]
    have e2:(if j<uq k then Dk W (k+1)*Dk W (k+1)*mz W k j else 0)=Dk W (k+1)*Dk W (k+1)*mz W k j:=by
     by_cases z:j<uq k
     .rw[Yb z]
     .rw[Yc z];cases k with
      | zero=>show _=_*(0:Int);rw[Xi]
      | succ m =>
       show _=_*qk W m j;rw[dE (by simp only[uq] at z;nofun),Xi]
    rw[e1,e2]
   have h11:IL (vw K Ha) t (k+2) (λj=>Dk W k*Dk W k*qk W (k+1) j):=by
    unfold IL at ha' ⊢;rw[ha'];congr 2
    exact iy λj hj=>Yn V.int (fin j hj)
   symm
   refine⟨⟨_,.of (aQ h11)⟩,λd Hb hd Sb hb2=>?_⟩;have hD0:Dk W k≠0:=hne k ();have bk1:∀i,Bt 10460 (qk W (k+1) i):=λi=>(sL bW ()).mono ∅;refine cn (its:=lz (k+2) λj=>V.int (Dk W k*Dk W k*qk W (k+1) j)) (λi zs H'=>aB (vw K Ha) (vw K H')/\zs=lz i λi=>V.int (qk W (k+1) i)) (λi zs H' _ _ q=>bI (q.1 _ _ h11)) hb2 ⟨Sb,rfl⟩ (λi x zs Hc hi hx hc' q=>?_) (λzs Hc hc' q=>?_)
   .obtain⟨Sc,rfl⟩:=q;rw[aZ] at hi;rw[dj hi] at hx;cases hx;symm
    have hDD:Dk W k*Dk W k≠0:=Y8 hD0 hD0;refine⟨cg bD bD ∅,hDD,?_⟩;rw[Y6 (Dk W k*Dk W k) (qk W (k+1) i),Int.mul_fdiv_cancel _ hDD];refine .mk hc' ?_ λH10 B10 h10=>⟨λb o e=>B10 _ _ (ap e hd) (Sc _ _ e),lh.symm⟩;rw[aZ];exact Xr (show i<=20 by nofun) ∅
   .obtain⟨Sc,rfl⟩:=q;rw[aZ] at hc';exact h d Hc (S03.trans (Sa.trans Sc)) ((S03.trans Sa).free hd) hc'
  symm
  cases k with
  | zero=>exact dD ∅ go
  | succ m =>
   refine gW () ⟨_,S03 _ _ hb,_,Bw,?_⟩;rw[gH];exact⟨cg bD1 (bq m) ∅,_,_,rfl,rfl,go⟩
def oP(G:Hp)(R:Addr)(W:Nat->Int)(n:Nat):Prop:=∃as:List Addr,G R=some (.lst (as.map V.ref))/\as.length=n /\ ∀i x,as[i]? = some x->IL G x (i+1) (qk W i)
theorem oP.same{G G':Hp}{R:Addr}{W:Nat->Int}{n:Nat}(h:oP G R W n)(S:aB G G'):oP G' R W n:=by
 obtain⟨as,h1,h2,h3⟩:=h;exact⟨as,S _ _ h1,h2,λi x e=>(h3 i x e).same S⟩
theorem FU{G:Hp}{R x:Addr}{as:List Addr}{n:Nat}{p:Nat->Int}(h:G R=some (.lst (as.map V.ref)))(h0:as≠[])(hx:IL G x n p):x≠R:=λe=>by
 unfold IL at hx;rw[e,h] at hx;cases as with
 | nil=>exact h0 rfl
 | cons a as =>
  cases n with
  | zero=>cases hx
  | succ n =>
   rw[oq] at hx;cases hx
theorem jW{α:Type}{xs:List α}{n:Nat}{x:α}(hl:xs.length=n+1)(h:xs[n]? = some x):nN xs (-1)=some x:=gd (by rw[YX,hl];exact h)
theorem Ja{W:Nat->Int}:qk W 0 0=1:=by rw[fh,Ah]
inductive gA (K:W.Frag)(vs:List V)(H:Hp)(Q:VK)(E:XK):Prop
 | mk (a:Addr)(n:Nat)(W:Nat->Int):vs=[.ref a]->IL (vw K H) a n W->n<=12->(∀i,Bt 1700 (W i))->(∀R H' k,aB (vw K H) (vw K H')->oP (vw K H') R W (k+1)->k<=6->(∀i,i<=k->0<Dk W i/\2*i<=n)->(n<2*(k+1)\/Dk W (k+1)<=0)->Q (.ref R) H')->gA K vs H Q E
theorem tN(F:dy K "step_rows" "step_rows" jO f fd) (T:dR K mg)(C_met:cp P w K mg base "met" ["wholes", "row", "k"] 1 (oJ K)) (C_next_row:cp P w K mg base "next_row" ["wholes", "row", "before"] 2 (jS K)):aV P w K mg base dC 3 f fd ["wholes"] (gA K):=by
 have scN:=lD.nd;refine F.okQ lD ?_ ?_;walk_at "q"
 .obtain⟨_,_,_,rfl,_⟩:=h;rfl
 .obtain⟨a,n,W,rfl,ha,hn,bW,h⟩:=h;refine⟨_,(af (aE (i:=1) scN rfl (·) (aU (aa (aU (aa ae ac)) ac)))
   (af (aE (i:=2) scN rfl (·) (aU ac))
   (af (gh PassesOwn.never (QW.pt (pi (aH ur (ar aM ae (ai ao (by rfl) T.b_len aD (aa (qv 1) ac))) (ai ao (by rfl) T.b_len aD (aa (qv 0) ac)) (aC _)) (lX (aH jz (ah C_met nofun rfl (aa (qv 0) (aa (av cT (qv 1) (eE cV ae) (λ_ _=>rfl)) (aa (ar bN (ai ao (by rfl) T.b_len aD (aa (qv 1) ac)) ae) ac)))) ae (aC _))))) (af (aE (i:=3) scN rfl (·) (ah C_next_row nofun rfl (aa (qv 0) (aa (av cT (qv 1) (eE cV ae) (λ_ _=>rfl)) (aa (qv 2) ac)))))
   (af (aE (i:=2) scN rfl (·) (av cT (qv 1) (eE cV ae) (λ_ _=>rfl)))
   (ag (iT (oN XG XJ XM fe (qv 1) (aa (qv 3) ac)))))))
   (ag (au (qv 1)))))),?_⟩
  walk_at"m";have bW':∀i,Bt 20000 (W i):=λi=>(bW i).mono ∅;refine aP.gen λN1 hN1=>?_;symm
  refine⟨∅,λr0 H1 hr0 S1 h1=>⟨∅,λR H2 hR S2 h2=>hN1 _ _ ?_⟩⟩;refine aP.gen λN2 hN2=>?_;symm
  refine⟨YT _,λbf H3 hbf S3 h3=>hN2 _ _ ?_⟩;refine aP.gen λN3 hN3=>?_;have S03:=S1.trans (S2.trans S3);have hR0:vw K H R=none:=S1.free hR;refine⟨λm σ H'=>∃(bf:Addr)(k:Nat)(o:Option V),m=20-k/\k<=6/\σ=[some (.ref a),some (.ref R),some (.ref bf),o]/\aB (vw K H) (vw K H')/\oP (vw K H') R W (k+1)/\IL (vw K H') bf (uq k) (mz W k) /\ ∀i,i<=k->0<Dk W i/\2*i<=n,⟨20,bf,0,none,rfl,∅,rfl,S03,⟨[r0],S3 _ _ h2,rfl,λi x e=>?_⟩,h3,λi hi=>?_⟩,?_⟩
  .cases i with
   | zero =>
    cases e;show vw K H3 r0=some (.lst (lz 1 λi=>V.int (qk W 0 i)));rw[(S2.trans S3) _ _ h1,oq,Ja];rfl
   | succ i=>simp at e
  .have:i=0:=();rw[this,Ah];exact⟨∅,()⟩
  rintro m σ H4 ⟨bf,k,o,rfl,hk,rfl,S4,rw4,b4,hD⟩;obtain⟨as,hR4,las,has⟩:=id rw4;have h0:as≠[]:=λz=>by rw[z] at las;cases las
  obtain⟨x,hx⟩ : ∃x,as[k]? = some x:=⟨as[k],YO ()⟩;have lx:=has k x hx;have hx':nN (as.map V.ref) (-1)=some (.ref x):=jW (n:=k) (by rw[YC,las]) (by rw[Yz,hx];rfl)
  have done:n<2*(k+1)\/Dk W (k+1)<=0 -> ∀H5,aB (vw K H4) (vw K H5)->N3 [some (.ref a),some (.ref R),some (.ref bf),o] H5:=λhd H5 S5=>by
   refine hN3 _ _ ?_;symm
   exact h R H5 k (S4.trans S5) (rw4.same S5) hk hD hd
  have lR:de (vw K H4) R=some (k+1):=by
   simp only[de,hR4];rw[YC,las]
  symm
  refine⟨k+1,lR,gY ∅,n,(ha.same S4).len,cz (λe1=>⟨_,hR4,_,hx',k+1,lR,?_⟩) (λe1=>done (.inl ()) H4 (λ_ _ z=>z))⟩;rw[show (((k+1:Nat):Int)-1)=(k:Int) by nofun]
  have bq':∀i,Bt 20000 (qk W k i):=λi=>(sL bW ()).mono ∅;refine⟨a,x,n,k+1,k,W,qk W k,rfl,ha.same S4,lx,(),(),bW',bq',λH5 S5=>⟨_,rfl,?_⟩⟩;rw[nV,dQ];refine cz (λe2=>⟨_,λσ' H' z=>z,_,S5 _ _ hR4,_,hx',?_⟩) (λe2=>done (.inr ()) H5 S5);have hn2:2*(k+1)<=n:=();have S45:=S4.trans S5;refine⟨a,x,bf,n,k,W,rfl,ha.same S45,lx.same S5,b4.same S5,hn2,(),bW,λi hi=>?_,λd H6 S6 hd l6=>?_⟩
  .by_cases z:i<=k
   .exact (hD i z).1
   .rw[show i=k+1 by nofun]
    exact e2
  have S46:=S5.trans S6;refine⟨_,S46 _ _ hR4,_,hx',jG (S46 _ _ hR4),_,S46 _ _ hR4,?_,λH7 B7 h7=>⟨20-(k+1),(),x,k+1,rfl,(),⟨_,rfl⟩,λy o e=>B7 _ _ (ap e hR0) (S46 _ _ (S4 _ _ e)),⟨as++[d],?_,by rw[YB,las];rfl,λi y e=>?_⟩,?_,λi hi=>?_⟩⟩
  .rw[YC,las];exact Xr (show _<=20 by nofun) ∅
  .rw[h7,XE];rfl
  .have l7:IL (vw K H6) y (i+1) (qk W i):=by
    by_cases z:i<as.length
    .rw[Yy z] at e;exact (has i y e).same S46
    .rw[Yw ()] at e;have:i=k+1:=by
      have h1:=(List.getElem?_eq_some_iff.mp e).1;simp at h1;nofun
     rw[this,las,XB] at e;cases e;rw[this];exact l6
   exact B7 _ _ (FU (S46 _ _ hR4) h0 l7) l7
  .exact B7 _ _ (FU (S46 _ _ hR4) h0 (lx.same S46)) (lx.same S46)
  .by_cases z:i<=k
   .exact hD i z
   .rw[show i=k+1 by nofun]
    exact⟨e2,()⟩
structure dI (W:Nat->Int)(B:Int)(k:Nat)(c:List (Int×Int)×(Int×Int)):Prop where
 po:aL c.1
 num:∀j,cf c.1 j=((qk W k j:Int):Rat)/((Dk W k:Int):Rat)
 fq:Fq c.2
 sqv:wv c.2=((Dk W (k+1):Int):Rat)/((Dk W k*B:Int):Rat)
def fL(G:Hp)(t:Addr)(pss:List (List (Int×Int)×(Int×Int)))(Pr:Addr->Prop):Prop:=∃xs,G t=some (.lst xs)/\xs.length=pss.length /\ ∀(k:Nat) c,pss[k]? = some c->X3 λ(x l:Addr)(v:V)=>xs[k]? = some (.ref x)/\G x=some (.tup [.ref l,v])/\aF G l c.1/\aI G (fr c.2) v/\Pr l
structure gS (qs:List (Int×Int))(W:Nat->Int)(B:Int):Prop where
 pos:0<B
 val:∀i,((W i:Int):Rat)=cf qs i*(B:Rat)
 least:∀E:Int,(∀q∈qs,q.2∣E)->B∣E
 bt:∀i,Bt 1700 (W i)
theorem gS.dvd{qs:List (Int×Int)}{W:Nat->Int}{B:Int}(h:gS qs W B)(hF:∀q∈qs,Fq q):∀q∈qs,q.2∣B:=λq hq=>by
 obtain⟨i,hi,rfl⟩:=List.getElem_of_mem hq;have e:=h.val i;rw[aG (YO hi)] at e;have c1:(B:Rat)≠0:=am (by have:=h.pos;nofun)
 exact oM (n:=W i) (hF _ hq) (by have:=h.pos;nofun) (by rw[e];grind)
theorem gS.uniq{qs:List (Int×Int)}{W W':Nat->Int}{B B':Int}(h:gS qs W B)(h':gS qs W' B')(hF:∀q∈qs,Fq q):B=B'/\W=W':=by
 have e:B=B':=Int.dvd_antisymm (YS h.pos) (YS h'.pos) (h.least _ (h'.dvd hF)) (h'.least _ (h.dvd hF));refine⟨e,funext λi=>?_⟩;have:=h.val i;rw[e,<-h'.val i] at this;exact Rat.intCast_inj.mp this
theorem fL.same{G G':Hp}{t:Addr}{pss:List (List (Int×Int)×(Int×Int))}{Pr:Addr->Prop}(h:fL G t pss Pr)(S:aB G G'):fL G' t pss Pr:=by
 obtain⟨xs,h1,h2,h3⟩:=h;refine⟨xs,S _ _ h1,h2,λk c e=>?_⟩;obtain⟨x,l,v,e1,e2,e3,e4,e5⟩:=h3 k c e;exact⟨x,l,v,e1,S _ _ e2,e3.same S,aI.same S _ _ e4,e5⟩
structure fU (W:Nat->Int)(n M:Nat):Prop where
 one:1<=M
 up:∀i,i<M->0<Dk W i
 most:2*M<=n+1
 all:n<=2*M\/Dk W M<=0
theorem fU.uniq{W:Nat->Int}{n M M':Nat}(h:fU W n M)(h':fU W n M'):M=M':=by
 rcases Nat.lt_trichotomy M M' with z|z|z
 .have:=h'.up M z;have:=h'.most;rcases h.all with y|y<;>nofun
 .exact z
 .have:=h.up M' z;have:=h.most;rcases h'.all with y|y<;>nofun
inductive qe (K:W.Frag)(vs:List V)(H:Hp)(Q:VK)(E:XK):Prop
 | mk (a:Addr)(qs:List (Int×Int)):vs=[.ref a]->aF (vw K H) a qs->1<=qs.length->qs.length<=11->eH qs->(∀(t:Addr) H' W B pss,aB (vw K H) (vw K H')->vw K H t=none->gS qs W B->fU W qs.length pss.length->fL (vw K H') t pss (λl=>vw K H l=none/\l≠t)->(∀k c,pss[k]? = some c->dI W B k c)->Q (.ref t) H')->qe K vs H Q E
theorem Be(F:dy K "steps" "steps" sy f fd) (T:dR K mg)(C_cleared:cp P w K mg base "cleared" ["f"] 2 (cj K)) (C_step_rows:cp P w K mg base "step_rows" ["wholes"] 3 (gA K)) (C_divided:cp P w K mg base "divided" ["wholes", "bottom"] 3 (dd K)) (C_ratio:cp P w K mg base "ratio" ["top", "bottom"] 2 (eI K)) (C_met:cp P w K mg base "met" ["wholes", "row", "k"] 1 (oJ K)):aV P w K mg base dC 4 f fd ["sums"] (qe K):=by
 have scN:=uM.nd;refine F.okQ uM ?_ ?_;walk_at "q"
 .obtain⟨_,_,rfl,_⟩:=h;rfl
 .obtain⟨a,qs,rfl,ha,n1,n2,hq,h⟩:=h;refine⟨_,(af (cW (ah C_cleared nofun rfl (aa (qv 0) ac)) (bO (n:=2) rfl (ay (aq (i:=1) scN rfl (·)) (ay (aq (i:=2) scN rfl (·)) bQ))))
   (af (aE (i:=3) scN rfl (·) (aU ac))
   (af (cC PassesOwn.never rfl (kh rfl T.b_enumerate (aa (ah C_step_rows nofun rfl (aa (qv 1) ac)) ac)) (bO (n:=2) rfl (ay (aq (i:=4) scN rfl (·)) (ay (aq (i:=5) scN rfl (·)) bQ))) (ag (b9 (aH jw (ar aM ae (qv 4)) (ai ao (by rfl) T.b_len aD (aa (qv 0) ac)) (aC _)) (ag (iT (oN XG XJ XM fe (qv 3) (aa (aT (aa (ah C_divided nofun rfl (aa (qv 5) (aa (av cT (qv 5) (eE cV ae) (λ_ _=>rfl)) ac))) (aa (ah C_ratio nofun rfl (aa (ah C_met nofun rfl (aa (qv 1) (aa (qv 5) (aa (qv 4) ac)))) (aa (ar aM (av cT (qv 5) (eE cV ae) (λ_ _=>rfl)) (qv 2)) ac))) ac))) ac)))) aO)))
   (ag (au (qv 3)))))),?_⟩
  walk_at"m";have hF:∀q∈qs,Fq q:=λq z=>(hq q z).1;refine aP.gen λN1 hN1=>?_;symm
  simp only[cj];refine⟨a,qs,1400,rfl,ha,(),∅,λq z=>⟨(hq q z).1,(hq q z).2.1⟩,λp b H1 B ns S1 h1 hb nb hB _ ln hn hm=>⟨p,rfl,_,h1,rfl,_,_,rfl,_,_,rfl,rfl,hN1 _ _ ?_⟩⟩;have hc2:=fz (mD hq) hF hB hm ln λi n q e1 e2=>(hn i n q e1 e2).1;have clr:gS qs (nz ns) B:=⟨hB,dN ln λi n q e1 e2=>(hn i n q e1 e2).1,hm,gf hc2.2⟩;have lb:IL (vw K H1) b qs.length (nz ns):=by
   unfold IL;rw[hb];congr 2
   exact oX (by rw[YC,ln]) λi hi=>by
    have hi':i<ns.length:=();rw[Yz,YO hi',cq (YO hi')];rfl
  refine aP.gen λN2 hN2=>?_;symm
  refine⟨YT _,λt H2 ht S2 h2=>hN2 _ _ ?_⟩;refine aP.gen λN3 hN3=>?_;symm
  simp only[nv];symm
  refine⟨b,qs.length,nz ns,rfl,lb.same S2,(),clr.bt,λR H3 k S3 rw3 hk hD hend=>?_⟩;symm
  obtain⟨as,hR,las,has⟩:=id rw3;obtain⟨W,hW⟩ : ∃W,W=nz ns:=⟨_,rfl⟩;rw[<-hW] at clr lb hD hend has;have h23:=S3 _ _ h2;have S03:=S1.trans (S2.trans S3);have ht0:vw K H t=none:=S1.free ht;have nR:R≠t:=λz=>by
   rw[z,h23] at hR;cases as with
   | nil=>cases las
   | cons x as=>cases hR
  have nx:∀i x,as[i]? = some x->x≠t:=λi x e z=>by
   have:=has i x e;unfold IL at this;rw[z,h23,oq] at this;cases this
  have bD:∀i,i<=6->Bt 10460 (Dk W i):=λi hi=>(jE clr.bt hi).mono ∅;have bB:Bt 1700 B:=hc2.1;obtain⟨Pv,hPv⟩ : ∃Pv:Nat->St->Hp->Prop,∀i σ H',Pv i σ H'↔X3 λ(o4 o5:Option V)(pss:List (List (Int×Int)×(Int×Int)))=>σ=[some (.ref a),some (.ref b),some (.int B),some (.ref t),o4,o5]/\gB t (vw K H3) (vw K H')/\fL (vw K H') t pss (λl=>vw K H l=none/\l≠t)/\pss.length=min i ((qs.length+1)/2) /\ ∀k c,pss[k]? = some c->dI W B k c:=⟨_,λ_ _ _=>XD⟩;refine⟨⟨_,hR⟩,jV (rows:=(as.map V.ref).mapIdx λi x=>[V.int i,x]) Pv (λi σ H' _ q=>?_) ((hPv _ _ _).mpr ⟨_,_,[],rfl,λ_ _ _ z=>z,⟨[],h23,rfl,λk c e=>by simp at e⟩,by simp,λk c e=>by simp at e⟩) (λi r σ H4 q H5 hi hr pv hq S5 h5=>?_) (λσ H4 pv=>?_)⟩
  .obtain⟨_,_,_,_,B',_⟩:=(hPv _ _ _).mp q;exact⟨_,aQ (B' _ _ nR hR),rfl⟩
  .obtain⟨o4,o5,pss,rfl,B4,st4,lp,ok4⟩:=(hPv _ _ _).mp pv;rw[Y2,YC,las] at hi;have hia:i<as.length:=();rw[Y1,Yz,YO hia] at hr;cases hr;obtain⟨x,hx⟩ : ∃x,as[i]? = some x:=⟨_,YO hia⟩;have ex:as[i]=x:=by
    rw[YO hia] at hx;exact Ym hx
   have B5:gB t (vw K H3) (vw K H5):=B4.same_trans S5;have lx:IL (vw K H5) x (i+1) (qk W i):=B5 _ _ (nx i x hx) (has i x hx);have S05:aB (vw K H) (vw K H5):=λy o e=>B5 _ _ (ap e ht0) (S03 _ _ e);have lb5:IL (vw K H5) b qs.length W:=B5 _ _ (ap lb ht) ((S2.trans S3) _ _ lb);have st5:=st4.same S5;symm
   refine⟨_,h5,rfl,_,_,rfl,_,_,rfl,rfl,?_⟩;rw[gH,ex];refine⟨gY ∅,_,(ha.same S05).len,_,rfl,cz (λe1=>?_) (λe1=>?_)⟩
   .obtain⟨xs,hxs,lxs,hxs'⟩:=id st5;have lpi:pss.length=i:=();have hDi:=hD i ();have dn:Dk W i≠0:=();have dB:Dk W i*B≠0:=Y8 dn ();have eN:lz (i+1) (λj=>V.int (qk W i j))=(lz (i+1) λj=>qk W i j).map V.int:=by rw[sX]
    refine⟨jG hxs,x,rfl,_,lx,_,nW,?_⟩;rw[fh];refine⟨x,lz (i+1) λj=>qk W i j,Dk W i,rfl,by rw[<-eN];exact lx,by rw[aZ];nofun,dn,(bD i ()).mono ∅,λc H6 rs S6 lc nc po cf6 _ _=>?_⟩
    have bq':∀j,Bt 20000 (qk W i j):=λj=>(lA clr.bt ()).mono ∅;refine⟨b,x,qs.length,i+1,i,W,qk W i,rfl,lb5.same S6,lx.same S6,(),(),λj=>(clr.bt j).mono ∅,bq',λH7 S7=>⟨x,rfl,_,(S6.trans S7) _ _ lx,_,nW,?_⟩⟩;rw[nV,dQ,fh,gH];refine⟨cg (bD i ()) bB ∅,Dk W (i+1),Dk W i*B,rfl,dB,((bD i ()).mul bB).mono ∅,λv H8 S8 r8=>⟨∅,λy H9 hy S9 h9=>?_⟩⟩;have S59:=S6.trans (S7.trans (S8.trans S9));refine⟨xs,S59 _ _ hxs,?_,λHa Ba ha2=>?_⟩
    .rw[lxs,lpi];exact Xr (show i<=20 by nofun) ∅
    have nct:c≠t:=λz=>by
     rw[z,hxs] at nc;cases nc
    have hxs9:=S59 _ _ hxs;refine (hPv _ _ _).mpr ⟨_,_,pss++[(rs,lo (Dk W (i+1)) (Dk W i*B))],rfl,(B5.same_trans S59).trans Ba,⟨_,ha2,by rw[YB,YB,lxs];rfl,λm d e=>?_⟩,by rw[YB,lpi];simp;nofun,λm d e=>?_⟩
    .by_cases z:m<pss.length
     .rw[Yy z] at e;obtain⟨x',l,v',e1',e2',e3',e4',e5'⟩:=hxs' m d e;have e2s:=S59 _ _ e2';refine⟨x',l,v',by rw[Yy ()];exact e1',Ba _ _ (λz=>by rw[z,hxs9] at e2s;cases e2s) e2s,(e3'.same S59).but hxs9 e5'.2 Ba,aI.flat_but hxs9 Ba _ _ (cE _) (aI.same S59 _ _ e4'),e5'⟩
     .rw[Yw ()] at e;have hm0:m-pss.length=0:=by
       have:=(List.getElem?_eq_some_iff.mp e).1;simp at this;nofun
      rw[hm0] at e;cases e;refine⟨y,c,v,by rw[Yw (),lxs,hm0];rfl,Ba _ _ (λz=>by rw[z,hxs9] at h9;cases h9) h9,(lc.same (S7.trans (S8.trans S9))).but hxs9 nct Ba,aI.flat_but hxs9 Ba _ _ (cE _) (aI.same S9 _ _ r8),S05.free nc,nct⟩
    .by_cases z:m<pss.length
     .rw[Yy z] at e;exact ok4 m d e
     .rw[Yw ()] at e;have hm0:m-pss.length=0:=by
       have:=(List.getElem?_eq_some_iff.mp e).1;simp at this;nofun
      rw[hm0] at e;cases e;rw[show m=i by nofun]
      refine⟨po,λj=>?_,iH dB,ix dB⟩;rw[cf6 j];congr 2
      by_cases z2:j<i+1
      .rw[cq (dj z2)]
      .rw[bA (by rw[aZ];nofun),dE ()]
   .exact (hPv _ _ _).mpr ⟨_,_,pss,rfl,B5,st5,(),ok4⟩
  .obtain⟨o4,o5,pss,rfl,B4,st4,lp,ok4⟩:=(hPv _ _ _).mp pv;rw[Y2,YC,las] at lp;refine hN3 _ _ ?_;symm
   refine h t H4 W B pss (λy o e=>B4 _ _ (ap e ht0) (S03 _ _ e)) ht0 clr ⟨(),λi hi=>(hD i ()).1,(),?_⟩ st4 ok4;by_cases z:(qs.length+1)/2<=k+1
   .exact .inl ()
   .rcases hend with y|y
    .exact .inl ()
    .right
     rw[show pss.length=k+1 by nofun]
     exact y
def fR(K:W.Frag):Sp:=λvs H Q _=>∃(a b:Addr)(qs fs:List (Int×Int)),vs=[.ref a,.ref b]/\aF (vw K H) a qs/\aF (vw K H) b fs/\fs.length<=qs.length/\qs.length<=12/\fs.length<=12/\(∀q∈qs,Fq q/\Bq 1400 q)/\(∀q∈fs,Fq q/\Bq 2900000 q) /\
 ∀v H' r,aB (vw K H) (vw K H')->aI (vw K H') (fr r) v->Fq r->wv r=aj (cf fs) (cf qs) fs.length->Q v H'
theorem BY(F:dy K "worth" "worth" sK f fd) (T:dR K mg)(C_cleared:cp P w K mg base "cleared" ["f"] 2 (cj K)) (C_ratio:cp P w K mg base "ratio" ["top", "bottom"] 2 (eI K)):aV P w K mg base dC 3 f fd ["sums", "f"] (fR K):=by
 have scN:=uN.nd;refine F.okQ uN ?_ ?_;walk_at "q"
 .obtain⟨a,_,_,_,rfl,_⟩:=h;rfl
 .obtain⟨a,b,qs,fs,rfl,ha,hb,lf,lq,lf6,hq,hf,h⟩:=h;refine⟨_,(af (b9 (aH jz (ai ao (by rfl) T.b_len aD (aa (qv 1) ac)) (ai ao (by rfl) T.b_len aD (aa (qv 0) ac)) (aC _)) (ag pe) aO)
   (af (cW (ah C_cleared nofun rfl (aa (qv 1) ac)) (bO (n:=2) rfl (ay (aq (i:=2) scN rfl (·)) (ay (aq (i:=3) scN rfl (·)) bQ))))
   (af (cW (ah C_cleared nofun rfl (aa (cZ eJ (qv 0) dS (dU (ai ao (by rfl) T.b_len aD (aa (qv 1) ac)))) ac)) (bO (n:=2) rfl (ay (aq (i:=4) scN rfl (·)) (ay (aq (i:=5) scN rfl (·)) bQ))))
   (ag (au (ah C_ratio nofun rfl (aa (ai (qN rfl) (by rfl) T.b_sum AT (aa (dH (own:=["number", "whole"]) (outs:=[]) (ixs:=[]) rfl (CZ rfl T.b_zip (aa (qv 2) (aa (qv 4) ac))) rfl ⟨rfl,rfl,rfl,trivial,rfl,trivial⟩ (λ_ _ _ _=>⟨(show QG _ _ (kG K 2 _) from bO (n:=2) rfl (ay (aq (i:=0) (show (["number", "whole"]:List Str).Nodup by decide +kernel) rfl (·)) (ay (aq (i:=1) (show (["number", "whole"]:List Str).Nodup by decide +kernel) rfl (·)) bQ))),dJ,(ar (show eO _ _ (ic K) from aM) (qv 0) (qv 1))⟩)) ac)) (aa (ar aM (qv 3) (qv 5)) ac)))))))),?_⟩
  walk_at"m";symm
  refine⟨_,hb.len,_,ha.len,?_⟩;refine dD () ?_;symm
  simp only[cj];symm
  refine⟨fs,hb,(),2900000,∅,hf,λp1 a1 H1 D1 ms S1 h1 ha1 _ hD1 bD1 lm hm _=>⟨_,h1,rfl,?_⟩⟩;symm
  obtain⟨xs,hxs,rxs⟩:=id (ha.same S1);have hlx:xs.length=qs.length:=by rw[rxs.length,YC]
  refine⟨_,(hb.same S1).len,xs,hxs,λp2 H2 hp2 S2 h2=>?_⟩;rw[ph ()] at h2;have lt:aF (vw K H2) p2 (qs.take fs.length):=⟨_,h2,by rw[List.map_take];exact (rxs.take _).same S2⟩
  symm
  have lt':(qs.take fs.length).length=fs.length:=by rw[Yu];nofun
  refine⟨_,lt,(),1400,∅,λq z=>hq q (Xj z),λp3 a3 H3 D2 ns S3 h3 ha3 _ hD2 bD2 ln hn _=>⟨_,h3,rfl,_,_,rfl,_,_,rfl,rfl,?_⟩⟩;rw[lt'] at bD2 ln hn;have ha13:=(S2.trans S3) _ _ ha1;symm
  simp only[EQ];symm
  refine⟨true,⟨_,ha13⟩,true,⟨_,ha3⟩,λc H4 hc4 S4 h4=>?_⟩;have ez:List.zipWith (· * ·) ms ns=lz fs.length λi=>nz ms i*nz ns i:=by
   refine List.ext_getElem? λi=>?_;by_cases hi:i<fs.length
   .have h1:i<ms.length:=();have h2:i<ns.length:=();rw[dj hi,List.getElem?_zipWith,YO h1,YO h2,cq (YO h1),cq (YO h2)]
   .rw[Xf (by rw[List.length_zipWith];nofun),Xf (by rw[aZ];nofun)]
  refine rH (ps:=(ms.map V.int).zip (ns.map V.int)) (λi zs H'=>aB (vw K H3) (vw K H')/\zs=((List.zipWith (· * ·) ms ns).take i).map V.int) (λi zs H' _ _ p=>⟨_,_,p.1 _ _ ha13,p.1 _ _ ha3,vt.symm⟩) h4 ⟨S4,rfl⟩ (λi u v zs H8 H9 hi huv h9 p S89=>?_) (λzs H8 h8 p=>?_)
  .obtain⟨S8,rfl⟩:=p;rw[List.getElem?_zip_eq_some,Yz,Yz] at huv;have li:i<ms.length/\i<ns.length:=by
    simp at hi;nofun
   rw[YO li.1,YO li.2] at huv;obtain⟨e1,e2⟩:=huv;cases e1;cases e2;have w1:=(hm i _ _ (YO li.1) (YO (show i<fs.length by nofun))).2
   have w2:=(hn i _ _ (YO li.2) (YO (show i<(qs.take fs.length).length by nofun))).2
   symm
   refine⟨cg w1 w2 (),.mk2 h9 ?_ λH10 B10 h10=>⟨λb o e=>B10 _ _ (ap e hc4) (S89 _ _ (S8 _ _ e)),?_⟩⟩
   .rw[YC,Yu];have:1000<=sizeLine:=∅;nofun
   .rw[Xb,List.getElem?_zipWith,YO li.1,YO li.2,XE];rfl
  .obtain⟨S8,rfl⟩:=p;have lz1:(List.zipWith (· * ·) ms ns).length=fs.length:=by
    rw[List.length_zipWith,lm,ln];nofun
   have lz2:((ms.map V.int).zip (ns.map V.int)).length=fs.length:=by
    rw[List.length_zip,YC,YC,lm,ln];nofun
   rw[lz2,<-lz1,Xd] at h8;have hD:D1*D2≠0:=by have:=Y4 hD1 hD2;nofun
   refine⟨_,h8,?_⟩;symm
   simp only[eI];symm
   refine⟨cg bD1 bD2 (),hD,(bD1.mul bD2).mono (),λv H9 S9 r9=>h v H9 _ (S1.trans (S2.trans (S3.trans (S8.trans S9)))) r9 (iH hD) ?_⟩;rw[ix hD,ez,As (F:=cf fs) (G:=cf (qs.take fs.length)) (c:=(D1:Rat)) (d:=(D2:Rat)) (dN lm λi n q e1 e2=>(hm i n q e1 e2).1) (dN () λi n q e1 e2=>(hn i n q e1 e2).1),Xa];have n1:(D1:Rat)≠0:=am ();have n2:(D2:Rat)≠0:=am ();rw[aA fs.length (λi _=>rfl) λi hi=>u6 hi];grind
theorem dI.one{W:Nat->Int}{B:Int}{k:Nat}{c:List (Int×Int)×(Int×Int)}(h:dI W B k c)(hD:Dk W k≠0):cf c.1 k=1:=by
 have cD:((Dk W k:Int):Rat)≠0:=am hD;rw[h.num,fh];grind
theorem dI.out{W:Nat->Int}{B:Int}{k:Nat}{c:List (Int×Int)×(Int×Int)}(h:dI W B k c) {j:Nat}(hj:k<j):cf c.1 j=0:=by
 have z:((0:Int):Rat)=0:=rfl;rw[h.num,dE hj,z];grind
theorem dI.len{W:Nat->Int}{B:Int}{k:Nat}{c:List (Int×Int)×(Int×Int)}(h:dI W B k c)(hD:Dk W k≠0):c.1.length=k+1:=by
 have h1:=jp h.po (m:=k+1) λj hj=>h.out ();have h2:k<c.1.length:=Nat.lt_of_not_le λz=>by
  have e:=h.one hD;rw[aK z] at e;exact absurd e ∅
 nofun
theorem dI.pb{W:Nat->Int}{B:Int}{k:Nat}{c:List (Int×Int)×(Int×Int)}(h:dI W B k c)(hD:Dk W k≠0)(hk:k<=5)(bW:∀i,Bt 1700 (W i)):Pb 11000 (cf c.1) :=
 ⟨Dk W k,hD,(jE bW ()).mono ∅,λj=>⟨qk W k j,h.num j,(lA bW hk).mono ∅⟩⟩
theorem Ch(i m:Nat):cf (List.replicate i (0,1)++[(1,1)]) m=if m=i then 1 else 0:=by
 rw[uu];by_cases h:m<i
 .rw[Yb h,Yc ()]
 .rw[Yc h];by_cases e:m=i
  .rw[Yb e,e,XB];exact FC
  .rw[Yc e,aK (by simp;nofun)]
theorem GX(i:Nat):Pb 11000 (cf (List.replicate i (0,1)++[(1,1)])):=by
 refine⟨1,∅,∅,λm=>?_⟩;rw[Ch];by_cases e:m=i
 .rw[Yb e];exact⟨1,by have z:((1:Int):Rat)=1:=rfl;rw[z];grind,∅⟩
 .rw[Yc e];exact⟨0,by have z:((0:Int):Rat)=0:=rfl;rw[z];grind,∅⟩
theorem CJ(i:Nat):∀q∈List.replicate i ((0:Int),(1:Int))++[(1,1)],Fq q:=λq hq=>by
 rcases List.mem_append.mp hq with z|z
 .rw[(List.mem_replicate.mp z).2];exact kx
 .cases List.mem_singleton.mp z;exact⟨∅,∅⟩
theorem mS{ps:List (Int×Int)}(h:aL ps):(D.lst (ps.map fr)).poly=true:=sP h.1 h.2
inductive fW (K:W.Frag)(vs:List V)(H:Hp)(Q:VK)(E:XK):Prop
 | mk (a:Addr)(qs:List (Int×Int)):vs=[.ref a]->aF (vw K H) a qs->1<=qs.length->qs.length<=12->eH qs->(∀(d:Addr) H' W B rs k,aB (vw K H) (vw K H')->vw K H d=none->gS qs W B->aF (vw K H') d rs->aL rs->k<=6->(∀i,i<=k->0<Dk W i/\2*i<=qs.length)->(qs.length<2*(k+1)\/Dk W (k+1)<=0)->(∀j,cf rs j=((qk W k j:Int):Rat)/((Dk W k:Int):Rat))->Q (.ref d) H')->fW K vs H Q E
theorem mT(F:dy K "furthest_step" "furthest_step" gr f fd) (T:dR K mg)(C_cleared:cp P w K mg base "cleared" ["f"] 2 (cj K)) (C_step_rows:cp P w K mg base "step_rows" ["wholes"] 3 (gA K)) (C_divided:cp P w K mg base "divided" ["wholes", "bottom"] 3 (dd K)):aV P w K mg base dC 4 f fd ["sums"] (fW K):=by
 have scN:=iQ.nd;refine F.okQ iQ ?_ ?_;walk_at "q"
 .obtain⟨_,_,rfl,_⟩:=h;rfl
 .obtain⟨a,qs,rfl,ha,l1,l11,sq,h⟩:=h;refine⟨_,(af (aE (i:=1) scN rfl (·) (av cT (ah C_step_rows nofun rfl (aa (av aS (ah C_cleared nofun rfl (aa (qv 0) ac)) ae (λ_ _=>rfl)) ac)) (eE cV ae) (λ_ _=>rfl)))
   (ag (au (ah C_divided nofun rfl (aa (qv 1) (aa (av cT (qv 1) (eE cV ae) (λ_ _=>rfl)) ac)))))),?_⟩
  walk_at"m";skip
  symm
  have hF:∀q∈qs,Fq q:=λq z=>(sq q z).1;simp only[cj];refine⟨a,qs,1400,rfl,ha,(),∅,λq z=>⟨(sq q z).1,(sq q z).2.1⟩,λp b H1 B ns S1 h1 hb nb hB _ ln hn hm=>⟨p,rfl,_,h1,_,rfl,?_⟩⟩;have hc2:=fz (mD sq) hF hB hm ln λi n q e1 e2=>(hn i n q e1 e2).1;have clr:gS qs (nz ns) B:=⟨hB,dN ln λi n q e1 e2=>(hn i n q e1 e2).1,hm,gf hc2.2⟩;have lb:IL (vw K H1) b qs.length (nz ns):=by
   unfold IL;rw[hb];congr 2
   exact oX (by rw[YC,ln]) λi hi=>by
    have hi':i<ns.length:=();rw[Yz,YO hi',cq (YO hi')];rfl
  refine⟨b,qs.length,nz ns,rfl,lb,l11,clr.bt,λR H3 k S3 rw3 hk hD hend=>?_⟩;obtain⟨as,hR,las,has⟩:=id rw3;obtain⟨W,hW⟩ : ∃W,W=nz ns:=⟨_,rfl⟩;rw[<-hW] at clr lb hD hend has;obtain⟨x,hx⟩ : ∃x,as[k]? = some x:=⟨_,YO ()⟩;have lx:=has k x hx;have xl:(as.map V.ref).getLast? = some (.ref x):=by
   rw[YX,YC,las,Yz,show k+1-1=k by nofun,hx]
   rfl
  have hDk:=(hD k (Yp _)).1;have dn:Dk W k≠0:=();have eN:lz (k+1) (λj=>V.int (qk W k j))=(lz (k+1) λj=>qk W k j).map V.int:=by rw[sX]
  refine⟨R,rfl,_,hR,_,gd xl,x,rfl,_,lx,_,nW,?_⟩;rw[fh];simp only[dd];refine⟨x,lz (k+1) λj=>qk W k j,Dk W k,rfl,by rw[<-eN];exact lx,by rw[aZ];nofun,dn,((jE clr.bt ()).mono (by decide:_<=10460)).mono ∅,λc H6 rs S6 lc nc po cf6 _ _=>?_⟩
  have S06:=S1.trans (S3.trans S6);refine h c H6 W B rs k S06 ((S1.trans S3).none nc) clr lc po hk hD hend (λj=>?_);rw[cf6 j];by_cases hj:j<k+1
  .rw[mZ hj]
  .rw[bA (by rw[aZ];nofun),dE ()]
inductive kl (K:W.Frag)(vs:List V)(H:Hp)(Q:VK)(E:XK):Prop
 | mk (p:Addr)(s:Str)(ys:List V)(b:Bool):vs=[.ref p]->vw K H p=some (.tup (.str s::ys))->(b=false/\(s = "tight" \/ s = "open")\/b=true/\(s = "below" \/ s = "nought"))->(∀H',aB (vw K H) (vw K H')->Q (.bl b) H')->kl K vs H Q E
theorem zR(F:dy K "is_bar" "is_bar" pD f fd) (T:dR K mg):aV P w K mg base dC 1 f fd ["told"] (kl K):=by
 have scN:=rL.nd;refine F.okQ rL ?_ ?_;walk_at "q"
 .obtain⟨_,_,_,_,rfl,_⟩:=h;rfl
 .obtain⟨p,s,ys,b,rfl,hp,hs,h⟩:=h;refine⟨_,(ag (au (bJ iX (av aS (qv 0) ae (λ_ _=>rfl)) (aT (aa dc (aa dc ac))) (by rfl)))),?_⟩
  walk_at"m";skip
  symm
  refine⟨_,hp,_,cS,∅,λt H2 ht S2 h2=>⟨t,_,rfl,.inr (dF h2),rfl,rfl,?_⟩⟩;have e:(if true=true then !Ag (V.str s) [V.str "tight",V.str "open"] else Ag (V.str s) [V.str "tight",V.str "open"])=b:=by
   rcases hs with ⟨rfl,rfl|rfl⟩|⟨rfl,rfl|rfl⟩<;>decide +kernel
  rw[e];exact h H2 S2
inductive ij (K:W.Frag)(vs:List V)(H:Hp)(Q:VK)(E:XK):Prop
 | mk (a b:Addr)(qs rs:List (Int×Int)):vs=[.ref a,.ref b]->aF (vw K H) a qs->aF (vw K H) b rs->qs.length<=11->eH qs->rs≠[]->rs.length<=7->rs.length<=qs.length+1->aL rs->Pb 11000 (cf rs)->(2<=rs.length->zU (cf rs) (DF (cf rs)))->(∀(p w:Addr) H' (ws:List (Int×Int)),aB (vw K H) (vw K H')->vw K H' p=some (.tup [.ref b,.ref w])->aF (vw K H') w ws->vw K H w=none->aL ws->ws.length<rs.length->Pb 4400000 (cf ws)->GR rs qs ws->Q (.ref p) H')->ij K vs H Q E
theorem qD(F:dy K "flock_with" "flock_with" i4 f fd) (T:dR K mg)(C_trimmed:cp P w K mg base "trimmed" ["numbers", "zero"] 1 (fg K)) (C_worth:cp P w K mg base "worth" ["sums", "f"] 3 (fR K)) (C_weights_by:cp P w K mg base "weights_by" ["above", "roots"] 5 (ir K)):aV P w K mg base dC 6 f fd ["sums", "roots"] (ij K):=by
 have scN:=kz.nd;refine F.okQ kz ?_ ?_;walk_at "q"
 .obtain⟨_,_,_,_,rfl,_⟩:=h;rfl
 .obtain⟨a,b,qs,rs,rfl,ha,hb,l11,sq,r0,lr,lrq,po,br,ns,h⟩:=h;obtain⟨z_ZERO,hg_ZERO,hv_ZERO⟩:=T.g_ZERO;refine⟨_,(af (aE (i:=2) scN rfl (·) (ah C_trimmed nofun rfl (aa (dH (own:=["k"]) (outs:=["sums", "roots"]) (ixs:=[0,1]) rfl (cO rfl T.b_range (aa (ar bN (ai ao (by rfl) T.b_len aD (aa (qv 1) ac)) ae) ac)) rfl ⟨rfl,rfl,rfl,⟨rfl,⟨rfl,trivial⟩⟩,rfl,⟨⟨rfl,rfl,rfl,_,rfl⟩,⟨⟨rfl,rfl,rfl,_,rfl⟩,trivial⟩⟩⟩ (λ_ _ _ _=>⟨(aq (i:=0) (show (["k", "sums", "roots"]:List Str).Nodup by decide +kernel) rfl (·)),dJ,(ah C_worth nofun rfl (aa (qv 1) (aa (cZ (show xW _ (D5 K) from eJ) (qv 2) (dU (ar (show eO _ _ (gZ K) from aW) (qv 0) ae)) dS) ac)))⟩)) (aa (fJ (v:=V.ref z_ZERO) rfl hg_ZERO rfl) ac))))
   (ag (au (aT (aa (qv 1) (aa (ah C_weights_by nofun rfl (aa (qv 2) (aa (qv 1) ac))) ac)))))),?_⟩
  walk_at"m";skip
  have l0:=List.length_pos_iff.mpr r0;obtain⟨D,d0,bD,oD⟩:=id br;obtain⟨E',e0,bE,oE⟩:=mD sq;have DE0:=Y8 d0 e0;refine aP.gen λN1 hN1=>?_;symm
  refine⟨_,hb.len,(),(),λc1 H1 hc1 S1 h1=>?_⟩;rw[show ((rs.length:Int)-1).toNat=rs.length-1 by nofun]
  obtain⟨xs,hxs,rxs⟩:=id hb;have lx:xs.length=rs.length:=by rw[rxs.length,YC]
  refine cn (its:=fT 0 (rs.length-1)) (λi zs H'=>aB (vw K H) (vw K H') /\ ∃us:List (Int×Int),aN (vw K H') (us.map fr) zs/\us.length=i/\(∀q∈us,Fq q) /\ ∀k q,us[k]? = some q->wv q=aj (cf (rs.drop (k+1))) (cf qs) (rs.drop (k+1)).length) (λ_ _ _ _ _ _=>bH) h1 ⟨S1,[],.mk_nil,rfl,by simp,λk q h=>by simp at h⟩ (λi x zs H2 hi hx h2 p=>?_) (λzs H2 h2 p=>?_)
  .obtain⟨S2,us,rz,lu,hu,vu⟩:=p;obtain⟨hi',rfl⟩:=dg hx;rw[XH];symm
   refine⟨xs,S2 _ _ hxs,λp3 H3 hp3 S3 h3=>?_⟩;rw[show ((i:Nat):Int)+1=((i+1:Nat):Int) by nofun,iD ()] at h3
   have S03:=S2.trans S3;have l3:aF (vw K H3) p3 (rs.drop (i+1)):=⟨_,h3,by rw[List.map_drop];exact (rxs.drop _).same S03⟩
   have br':=br.bq po.1;simp only[fR];refine⟨a,p3,qs,rs.drop (i+1),rfl,ha.same S03,l3,by rw[YE];nofun,(),by rw[YE];nofun,λq hq=>⟨(sq q hq).1,(sq q hq).2.1⟩,λq hq=>⟨po.1 q (XN hq),(br' q (XN hq)).mono ∅⟩,λv H4 r S4 r4 f4 w4=>.mk ((S3.trans S4) _ _ h2) ?_ λH5 B5 h5=>⟨λb o e=>B5 _ _ (ap e hc1) ((S2.trans (S3.trans S4)) _ _ e),us++[r],?_,by simp[lu],λq hq=>?_,λk q hq=>?_⟩⟩
   .rw[rz.length,YC];have:1000<=sizeLine:=∅;nofun
   .rw[XE];exact (aN.flat_but ((S3.trans S4) _ _ h2) B5 _ _ (dW _) (rz.same (S3.trans S4))).snoc (aI.flat_but ((S3.trans S4) _ _ h2) B5 _ _ (cE _) r4)
   .rcases List.mem_append.mp hq with z|z
    .exact hu q z
    .cases List.mem_singleton.mp z;exact f4
   .rcases Xp k us.length with z|z
    .rw[Yy z] at hq;exact vu k q hq
    .have:=(List.getElem?_eq_some_iff.mp hq).1;rw[YB,YJ] at this;obtain rfl:k=i:=();rw[Yw (),lu,XB] at hq;cases hq;exact w4
  .obtain⟨S2,us,rz,lu,hu,vu⟩:=p;rw[cH] at lu;simp only[fg];refine .inl ⟨c1,_,us,rfl,⟨zs,h2,rz⟩,hv_ZERO _,hu,λd3 H3 vs S3 l3 n3 p3 c3 e3 m3=>hN1 _ _ ?_⟩;have S03:=S2.trans S3;symm
   have cu:∀k,k<rs.length-1->cf us k=aj (cf (rs.drop (k+1))) (cf qs) (rs.drop (k+1)).length:=λk hk=>by
    have hk':k<us.length:=();rw[aG (YO hk')];exact vu k _ (YO hk')
   have bu:Pb 14000 (cf us):=by
    refine⟨D*E',DE0,(bD.mul bE).mono ∅,λk=>?_⟩;rcases Xp k (rs.length-1) with z|z
    .have oD':Ob D 11000 (cf (rs.drop (k+1))):=λj=>by
      rw[oo];exact oD (k+1+j)
     obtain⟨n,en,bn⟩:=sf d0 e0 oD' oE (rs.drop (k+1)).length;rw[cu k z];exact⟨n,en,bn.mono (by rw[YE];nofun)⟩
    .refine⟨0,?_,FD⟩;have c0:((0:Int):Rat)=0:=rfl;rw[aK (),c0];grind
   refine⟨d3,b,vs,rs,rfl,l3,hb.same S03,(),r0,lr,po,br,p3.1,bu.congr c3,(),ns,λd4 H4 ws S4 l4 n4 p4 lw bw fw=>⟨∅,λp5 H5 hp5 S5 h5=>h p5 d4 H5 ws (S03.trans (S4.trans S5)) h5 (l4.same S5) (S03.none n4) p4 lw bw (GR.of r0 lr lw (us:=vs) () (λk hk=>by rw[c3,cu k hk]) fw)⟩⟩
def wT(W:Nat->Int)(k n:Nat):Prop:=∀i,i+(k+1)<=n->Lq W k i=0
theorem vI{qs:List (Int×Int)}{W:Nat->Int}{B:Int}{k i:Nat}{c:List (Int×Int)×(Int×Int)}(cl:gS qs W B)(h:dI W B k c)(hD:Dk W k≠0):aj (cf c.1) (cf (qs.drop i)) (k+1)=((Lq W k i:Int):Rat)/((Dk W k*B:Int):Rat):=by
 have e:cf (qs.drop i)=λj=>cf qs (i+j):=funext λj=>oo;rw[e,dX hD (by have:=cl.pos;nofun) h.num cl.val i,Xa]
theorem dI.bq'{W:Nat->Int}{B:Int}{k:Nat}{c:List (Int×Int)×(Int×Int)}(h:dI W B k c)(hD:Dk W k≠0)(hk:k<=5)(bW:∀i,Bt 1700 (W i)):∀q∈c.1,Fq q/\Bq 11000 q:=λq hq=>by
 obtain⟨j,hj⟩:=XI hq;have e:=h.num j;rw[aG hj] at e;exact⟨h.po.1 q hq,jx (h.po.1 q hq) e hD ((lA bW hk).mono ∅) ((jE bW ()).mono ∅)⟩
inductive ik (K:W.Frag)(vs:List V)(H:Hp)(Q:VK)(E:XK):Prop
 | mk (a l:Addr)(qs:List (Int×Int))(c:List (Int×Int)×(Int×Int))(W:Nat->Int)(B:Int)(k:Nat):vs=[.ref a,.ref l]->aF (vw K H) a qs->aF (vw K H) l c.1->qs.length<=11->eH qs->gS qs W B->dI W B k c->0<Dk W k->k<=5->c.1.length=k+1->k+1<=qs.length->(wT W k qs.length -> ∀H',aB (vw K H) (vw K H')->Q .non H')->(¬ wT W k qs.length -> ∀H' (p l2:Addr)(i:Nat),aB (vw K H) (vw K H')->vw K H' p=some (.tup [.str "nought",.ref l,.ref l2])->aF (vw K H') l2 (List.replicate i (0,1)++[(1,1)])->i+(k+1)<=qs.length->Lq W k i≠0->(∀j,j<i->Lq W k j=0)->Q (.ref p) H')->ik K vs H Q E
theorem qH(F:dy K "nought_bar" "nought_bar" i7 f fd) (T:dR K mg)(C_worth:cp P w K mg base "worth" ["sums", "f"] 3 (fR K)):aV P w K mg base dC 4 f fd ["sums", "step"] (ik K):=by
 have scN:=kF.nd;refine F.okQ kF ?_ ?_;walk_at "q"
 .obtain⟨_,_,_,_,_,_,_,rfl,_⟩:=h;rfl
 .obtain⟨a,l,qs,c,W,B,k,rfl,ha,hl,l11,sq,cl,so,dk,k5,lc,lkn,h1,h2⟩:=h;obtain⟨z_ZERO,hg_ZERO,hv_ZERO⟩:=T.g_ZERO;obtain⟨z_ONE,hg_ONE,hv_ONE⟩:=T.g_ONE;refine⟨_,(af (cC PassesOwn.never rfl (cO rfl T.b_range (aa (ar aW (ar bN (ai ao (by rfl) T.b_len aD (aa (qv 0) ac)) (ai ao (by rfl) T.b_len aD (aa (qv 1) ac))) ae) ac)) (aq (i:=2) scN rfl (·)) (ag (b9 (aH (qu hr.u64) (ah C_worth nofun rfl (aa (cZ eJ (qv 0) (dU (qv 2)) dS) (aa (qv 1) ac))) (fJ (v:=V.ref z_ZERO) rfl hg_ZERO rfl) (aC _)) (ag (au (aT (aa dc (aa (qv 1) (aa (ar aW (ar aM (aU (aa (fJ (v:=V.ref z_ZERO) rfl hg_ZERO rfl) ac)) (qv 2)) (aU (aa (fJ (v:=V.ref z_ONE) rfl hg_ONE rfl) ac))) ac)))))) aO)))
   (ag (au Gx))),?_⟩
  walk_at"m";skip
  refine aP.gen λN1 hN1=>?_;symm
  refine⟨_,ha.len,_,hl.len,(),(),?_⟩;rw[show ((qs.length:Int)-(c.1.length:Int)+1).toNat=qs.length-k by nofun]
  obtain⟨Pv,hPv⟩ : ∃Pv:Nat->St->Hp->Prop,∀i σ H',Pv i σ H' ↔ ∃o,σ=[some (.ref a),some (.ref l),o]/\aB (vw K H) (vw K H') /\ ∀j,j<i->Lq W k j=0:=⟨_,λ_ _ _=>XD⟩;have dn:Dk W k≠0:=();have dB:Dk W k*B≠0:=Y8 dn (by have:=cl.pos;nofun)
  refine aX (its:=fT 0 (qs.length-k)) Pv (λ_ _ _ _ _=>bH) ((hPv _ _ _).mpr ⟨_,rfl,.rfl,λj z=>by nofun⟩) (λi x σ H1 hi hx pv=>?_) (λσ H1 pv=>hN1 _ _ ?_)
  .obtain⟨o,rfl,S1,z1⟩:=(hPv _ _ _).mp pv;obtain⟨hi',rfl⟩:=dg hx;rw[XH];obtain⟨xs,hxs,rxs⟩:=id (ha.same S1);have lx:xs.length=qs.length:=by rw[rxs.length,YC]
   symm
   refine⟨xs,hxs,λp2 H2 hp2 S2 h2'=>?_⟩;rw[iD ()] at h2';have l2:aF (vw K H2) p2 (qs.drop i):=⟨_,h2',by rw[List.map_drop];exact (rxs.drop i).same S2⟩
   have S02:=S1.trans S2;simp only[fR];refine⟨p2,l,qs.drop i,c.1,rfl,l2,hl.same S02,by rw[YE];nofun,by rw[YE];nofun,(),λq hq=>⟨(sq q (XN hq)).1,(sq q (XN hq)).2.1⟩,λq hq=>⟨(so.bq' dn k5 cl.bt q hq).1,(so.bq' dn k5 cl.bt q hq).2.mono ∅⟩,λv H3 r S3 r3 fr3 w3=>?_⟩
   rw[lc,vI cl so dn] at w3;refine⟨_,r3,_,bC (hv_ZERO _),dG _,dG _,?_⟩;rw[jJ];have zz:r=(0,1)↔Lq W k i=0:=by
    constructor
    .intro z;rw[z,kA] at w3;have nB:=am dB;have:((Lq W k i:Int):Rat)=((0:Int):Rat):=by
      have c0:((0:Int):Rat)=0:=rfl;rw[c0];grind
     exact_mod_cast this
    .intro z;refine je fr3 kx ?_;rw[w3,z,kA];have c0:((0:Int):Rat)=0:=rfl;rw[c0];grind
   refine cz (λhz=>?_) (λhz=>?_)
   .have nz:¬ wT W k qs.length:=λz=>by
     have:=zz.mpr (z i ());rw[this] at hz;exact absurd hz ∅
    refine⟨∅,λp4 H4 hp4 S4 h4=>?_⟩;show ic K (.ref p4) (.int _) H4 _;rw[gI];refine⟨_,h4,(),(),?_,λp5 H5 hp5 S5 h5=>⟨∅,λp6 H6 hp6 S6 h6=>?_⟩⟩
    .have:1000<=sizeLine:=∅;simp;nofun
    show gZ K (.ref p5) (.ref p6) H6 _;rw[fB];rw[show ((i:Nat):Int).toNat=i by nofun,jR] at h5
    have Li:Lq W k i≠0:=λz=>by
     rw[zz.mpr z] at hz;exact absurd hz ∅
    refine⟨_,S6 _ _ h5,_,h6,?_,λp7 H7 hp7 S7 h7=>⟨∅,λp8 H8 hp8 S8 h8=>h2 nz H8 p8 p7 i (S02.trans (S3.trans (S4.trans (S5.trans (S6.trans (S7.trans S8)))))) h8 ⟨_,S8 _ _ h7,by rw[XE,lV];exact (aN.repl (bC (hv_ZERO _)) i).app (.mk_cons (bC (hv_ONE _)) .mk_nil)⟩ () Li z1⟩⟩
    have:1000<=sizeLine:=∅;simp;nofun
   .refine (hPv _ _ _).mpr ⟨_,rfl,S02.trans S3,λj hj=>?_⟩;by_cases e:j=i
    .rw[e];refine zz.mp ?_;by_cases y:r=(0,1)
     .exact y
     .exact absurd (Ya y) hz
    .exact z1 j ()
  .obtain⟨o,rfl,S1,z1⟩:=(hPv _ _ _).mp pv;rw[cH] at z1;symm
   exact h1 (λi hi=>z1 i ()) H1 S1
theorem Ki{qs:List (Int×Int)}(i:Nat):cf (qs++[(0,1)]) i=cf qs i:=by
 by_cases h:i<qs.length
 .rw[aG (YO (show i<(qs++[(0,1)]).length by simp;nofun)),aG (YO h),List.getElem_append_left h]
 .rw[aK (show qs.length<=i by nofun)]
  by_cases e:i=qs.length
  .rw[aG (q:=(0,1)) (by rw[e];simp)]
   exact (fP ∅).mpr rfl
  .exact aK (by simp;nofun)
theorem gS.zero{qs:List (Int×Int)}{W:Nat->Int}{B:Int}(h:gS qs W B):gS (qs++[(0,1)]) W B :=
 ⟨h.pos,λi=>by rw[Ki];exact h.val i,λE hE=>h.least E λq hq=>hE q (List.mem_append_left _ hq),h.bt⟩
structure Dm (qs:List (Int×Int))(W:Nat->Int)(B:Int)(M:Nat)(G:Hp)(p:Addr)(s:Str):Prop where
 kind:(Dk W M<0/\s = "below")\/(Dk W M=0 /\ ¬ wT W (M-1) qs.length/\s = "nought")\/(Dk W M=0/\wT W (M-1) qs.length/\s = "tight")\/(0<Dk W M/\s = "open")
 at_:∃(l:Addr)(ys:List V),G p=some (.tup (.str s :: .ref l::ys))/\(s = "tight" \/ s = "open" -> ys=[])/\(s = "tight" -> ∃rs,aF G l rs/\aL rs /\ ∀j,cf rs j=((qk W (M-1) j:Int):Rat)/((Dk W (M-1):Int):Rat))/\(s = "open" -> ∃rs,aF G l rs/\aL rs /\ ∀j,cf rs j=((qk W M j:Int):Rat)/((Dk W M:Int):Rat))/\(s = "below" -> ys=[] /\ ∃rs,aF G l rs/\aL rs /\ ∀j,cf rs j=((qk W (M-1) j:Int):Rat)/((Dk W (M-1):Int):Rat))/\(s = "nought" -> ∃(l2:Addr)(i:Nat)(rs:List (Int×Int)),ys=[.ref l2]/\aF G l rs/\aL rs/\(∀j,cf rs j=((qk W (M-1) j:Int):Rat)/((Dk W (M-1):Int):Rat))/\aF G l2 (List.replicate i (0,1)++[(1,1)])/\i+M<=qs.length/\Lq W (M-1) i≠0 /\ ∀j,j<i->Lq W (M-1) j=0)
def Jj(G0 G:Hp)(p:Addr):Prop:=∀(s:V)(l:Addr)(ys:List V),G p=some (.tup (s :: .ref l::ys))->G0 l=none
theorem Jj.of{G0 G:Hp}{p l:Addr}{s:V}{ys:List V}(h:G p=some (.tup (s :: .ref l::ys)))(n:G0 l=none):Jj G0 G p:=λs' l' ys' e=>by
 rw[h] at e;cases e;exact n
inductive iW (K:W.Frag)(vs:List V)(H:Hp)(Q:VK)(E:XK):Prop
 | mk (a:Addr)(qs:List (Int×Int)):vs=[.ref a]->aF (vw K H) a qs->1<=qs.length->qs.length<=11->eH qs->(∀(p:Addr) H' W B M s,aB (vw K H) (vw K H')->gS qs W B->fU W qs.length M->Dm qs W B M (vw K H') p s->Jj (vw K H) (vw K H') p->Q (.ref p) H')->iW K vs H Q E
theorem wl(F:dy K "outlook" "outlook" mJ f fd) (T:dR K mg)(C_steps:cp P w K mg base "steps" ["sums"] 4 (qe K)) (C_nought_bar:cp P w K mg base "nought_bar" ["sums", "step"] 4 (ik K)) (C_furthest_step:cp P w K mg base "furthest_step" ["sums"] 4 (fW K)):aV P w K mg base dC 5 f fd ["sums"] (iW K):=by
 have scN:=pk.nd;refine F.okQ pk ?_ ?_;walk_at "q"
 .obtain⟨_,_,rfl,_⟩:=h;rfl
 .obtain⟨a,qs,rfl,ha,l1,l11,sq,h⟩:=h;obtain⟨z_ZERO,hg_ZERO,hv_ZERO⟩:=T.g_ZERO;refine⟨_,(af (cW (av cT (ah C_steps nofun rfl (aa (qv 0) ac)) (eE cV ae) (λ_ _=>rfl)) (bO (n:=2) rfl (ay (aq (i:=1) scN rfl (·)) (ay (aq (i:=2) scN rfl (·)) bQ))))
   (af (b9 (aH jw (av aS (qv 2) ae (λ_ _=>rfl)) ae (aC _)) (ag (au (aT (aa dc (aa (qv 1) ac))))) aO)
   (af (b9 (aH (mL hr.u64) (qv 2) (fJ (v:=V.ref z_ZERO) rfl hg_ZERO rfl) (aC _)) (ag (au (G6 (ah C_nought_bar nofun rfl (aa (qv 0) (aa (qv 1) ac))) (aT (aa dc (aa (qv 1) ac)))))) aO)
   (ag (au (aT (aa dc (aa (ah C_furthest_step nofun rfl (aa (uK (gL (ar xm (ai ao (by rfl) T.b_len aD (aa (qv 0) ac)) ae) (λ_=>rfl)) (ar aW (qv 0) (aU (aa (fJ (v:=V.ref z_ZERO) rfl hg_ZERO rfl) ac))) (qv 0)) ac)) ac)))))))),?_⟩
  walk_at"m";skip
  refine aP.gen λN1 hN1=>?_;symm
  refine⟨a,qs,rfl,ha,l1,l11,sq,λt H1 W B pss S1 ht0 cl my sa so=>?_⟩;obtain⟨xs,hxs,lxs,hx⟩:=id sa;obtain⟨M,hM⟩ : ∃M,M=pss.length:=⟨_,rfl⟩;rw[<-hM] at my;have m1:=my.one;have m2:=my.most;obtain⟨c,hc⟩ : ∃c,pss[M-1]? = some c:=⟨_,YO ()⟩;obtain⟨x,l,v,e1,e2,e3,e4,e5⟩:=hx _ _ hc;have soc:=so _ _ hc;have dk:=my.up (M-1) ();have dn:Dk W (M-1)≠0:=();have hB:=cl.pos;have lc:=soc.len dn;have dB:0<Dk W (M-1)*B:=Y4 dk hB;have sv:=soc.sqv;rw[show M-1+1=M by nofun] at sv
  have xl:xs.getLast? = some (.ref x):=by rw[YX,lxs,<-hM];exact e1
  refine⟨t,rfl,_,hxs,_,gd xl,x,rfl,_,e2,rfl,_,_,rfl,_,_,rfl,rfl,hN1 _ _ ?_⟩;obtain⟨vp,rfl,hvp⟩:=id e4.fr_at;have iq:c.2.1*(Dk W (M-1)*B)=Dk W M*c.2.2:=by
   have n2:=am (show c.2.2≠0 by have:=soc.fq.1;nofun)
   have n3:=am (show Dk W (M-1)*B≠0 by nofun)
   have e:((c.2.1*(Dk W (M-1)*B):Int):Rat)=((Dk W M*c.2.2:Int):Rat):=by
    rw[Xa,Xa];unfold wv at sv;grind
   exact_mod_cast e
  have q2:=soc.fq.1;have sneg:c.2.1<0->Dk W M<0:=λz=>by
   have:=Int.mul_neg_of_neg_of_pos z dB;rw[iq] at this;exact Int.not_le.mp λy=>by have:=Int.mul_nonneg y (YS q2);nofun
  have szer:c.2.1=0->Dk W M=0:=λz=>by
   rw[z,Int.zero_mul] at iq;rcases Int.mul_eq_zero.mp iq.symm with y|y
   .exact y
   .nofun
  have spos:0<c.2.1->0<Dk W M:=λz=>by
   have:=Y4 z dB;rw[iq] at this;exact Int.not_le.mp λy=>by have:=Int.mul_le_mul_of_nonneg_right y (YS q2);nofun
  refine aP.gen λN2 hN2=>?_;symm
  refine⟨_,hvp,_,cS,_,rfl,cz (λhneg=>?_) (λhneg=>hN2 _ _ ?_)⟩
  .exact⟨∅,λp H2 hp S2 h2=>h p H2 W B M "below" (S1.trans S2) cl my ⟨.inl ⟨sneg hneg,rfl⟩,l,[],h2,λ_=>rfl,λz=>absurd z ∅,λz=>absurd z ∅,λ_=>⟨rfl,c.1,e3.same S2,soc.po,soc.num⟩,λz=>absurd z ∅⟩ (.of h2 e5.1)⟩
  refine aP.gen λN3 hN3=>?_;symm
  refine⟨_,e4,_,bC (hv_ZERO _),dG _,dG _,?_⟩;rw[jJ];refine cz (λhz=>?_) (λhz=>hN3 _ _ ?_)
  .have d0:Dk W M=0:=szer (by rw[XF hz])
   unfold Jm;symm
   refine⟨a,l,qs,c,W,B,M-1,rfl,ha.same S1,e3,l11,sq,cl,soc,dk,(),lc,(),λhn H2 S2=>⟨false,rfl,dD ∅ ⟨∅,λp H3 hp S3 h3=>h p H3 W B M "tight" (S1.trans (S2.trans S3)) cl my ⟨.inr (.inr (.inl ⟨d0,hn,rfl⟩)),l,[],h3,λ_=>rfl,λ_=>⟨c.1,e3.same (S2.trans S3),soc.po,soc.num⟩,λz=>absurd z ∅,λz=>absurd z ∅,λz=>absurd z ∅⟩ (.of h3 e5.1)⟩⟩,λhn H2 p l2 i S2 h2 ll hi hL hF=>⟨true,?_,gW rfl (h p H2 W B M "nought" (S1.trans S2) cl my ⟨.inr (.inl ⟨d0,hn,rfl⟩),l,[.ref l2],h2,λz=>absurd z ∅,λz=>absurd z ∅,λz=>absurd z ∅,λz=>absurd z ∅,λ_=>⟨l2,i,c.1,rfl,e3.same S2,soc.po,soc.num,ll,(),hL,hF⟩⟩ (.of h2 e5.1))⟩⟩
   exact .inr (.inl ⟨_,dF h2,rfl⟩)
  .have d1:0<Dk W M:=spos (by
    have:c.2≠(0,1):=λz=>hz (YM z);have:c.2.1≠0:=λz=>this ((nY soc.fq).mpr z);nofun)
   symm
   have od:2*M=qs.length\/2*M=qs.length+1:=by
    rcases my.all with z|z<;>nofun
   refine⟨_,(ha.same S1).len,(),cz (λho=>?_) (λho=>?_)⟩
   .have o1:2*M=qs.length+1:=by
     have:((qs.length:Int)%2)≠0:=by simpa using ho
     nofun
    obtain⟨ax,hax,rax⟩:=id (ha.same S1);refine⟨∅,λp2 H2 hp2 S2 h2=>?_⟩;show gZ K (.ref a) (.ref p2) H2 _;rw[fB];refine⟨ax,S2 _ _ hax,_,h2,?_,λp3 H3 hp3 S3 h3=>?_⟩
    .have:1000<=sizeLine:=∅;rw[rax.length];simp;nofun
    have S23:=S2.trans S3;have l3:aF (vw K H3) p3 (qs++[(0,1)]):=by
     refine⟨_,h3,?_⟩;rw[XE];exact (rax.same S23).app (.mk_cons (bC (hv_ZERO _)) .mk_nil)
    have sq0:eH (qs++[(0,1)]):=sq.zero;refine⟨p3,qs++[(0,1)],rfl,l3,by simp,by simp;nofun,sq0,λd H4 W' B' rs k S4 nd cl' ld po k6 hD he num=>⟨∅,λp5 H5 hp5 S5 h5=>h p5 H5 W B M "open" (S1.trans (S23.trans (S4.trans S5))) cl my ⟨.inr (.inr (.inr ⟨d1,rfl⟩)),d,[],h5,λ_=>rfl,λz=>absurd z ∅,λ_=>⟨rs,ld.same S5,po,?_⟩,λz=>absurd z ∅,λz=>absurd z ∅⟩ (.of h5 ((S1.trans S23).none nd))⟩⟩
    obtain⟨_,eW⟩:=cl.zero.uniq cl' λq hq=>(sq0 q hq).1;subst eW;rw[YB,YJ] at hD he;have hk1:=(hD k (Yp _)).2;have ek:k=M:=by
     by_cases z:k<M
     .rcases he with y|y
      .nofun
      .by_cases e:k+1=M
       .rw[e] at y;nofun
       .have:=my.up (k+1) ();nofun
     .nofun
    rw[<-ek];exact num
   .have o1:2*M=qs.length:=by
     have:((qs.length:Int)%2)=0:=by simpa using ho
     nofun
    refine⟨a,qs,rfl,ha.same S1,l1,(),sq,λd H4 W' B' rs k S4 nd cl' ld po k6 hD he num=>⟨∅,λp5 H5 hp5 S5 h5=>h p5 H5 W B M "open" (S1.trans (S4.trans S5)) cl my ⟨.inr (.inr (.inr ⟨d1,rfl⟩)),d,[],h5,λ_=>rfl,λz=>absurd z ∅,λ_=>⟨rs,ld.same S5,po,?_⟩,λz=>absurd z ∅,λz=>absurd z ∅⟩ (.of h5 (S1.none nd))⟩⟩
    obtain⟨_,eW⟩:=cl.uniq cl' λq hq=>(sq q hq).1;subst eW;have hk1:=(hD k (Yp _)).2;have ek:k=M:=by
     by_cases z:k<M
     .rcases he with y|y
      .nofun
      .by_cases e:k+1=M
       .rw[e] at y;nofun
       .have:=my.up (k+1) ();nofun
     .nofun
    rw[<-ek];exact num
theorem Dm.same{qs:List (Int×Int)}{W:Nat->Int}{B:Int}{M:Nat}{G G':Hp}{p:Addr}{s:Str}(h:Dm qs W B M G p s)(S:aB G G'):Dm qs W B M G' p s:=by
 obtain⟨k,l,ys,h1,h2,h3,h4,h5,h6⟩:=h;refine⟨k,l,ys,S _ _ h1,h2,λz=>?_,λz=>?_,λz=>?_,λz=>?_⟩
 .obtain⟨rs,a,b⟩:=h3 z;exact⟨rs,a.same S,b⟩
 .obtain⟨rs,a,b⟩:=h4 z;exact⟨rs,a.same S,b⟩
 .obtain⟨e,rs,a,b⟩:=h5 z;exact⟨e,rs,a.same S,b⟩
 .obtain⟨l2,i,rs,e,a,b,c,d,f⟩:=h6 z;exact⟨l2,i,rs,e,a.same S,b,c,d.same S,f⟩
def ja(W:Nat->Int)(n M:Nat):Prop:=Dk W M<0\/(Dk W M=0 /\ ¬ wT W (M-1) n)
inductive pT (K:W.Frag)(vs:List V)(H:Hp)(Q:VK)(E:XK):Prop
 | mk (a:Addr)(qs:List (Int×Int))(W:Nat->Int)(B:Int)(M:Nat):vs=[.ref a]->aF (vw K H) a qs->1<=qs.length->qs.length<=11->eH qs->gS qs W B->fU W qs.length M -> ¬ ja W qs.length M->(∀(p:Addr) H' s,aB (vw K H) (vw K H')->Dm qs W B M (vw K H') p s->Jj (vw K H) (vw K H') p->Q (.ref p) H')->pT K vs H Q E
theorem Hu(F:dy K "had" "had" Cv f fd) (T:dR K mg)(C_outlook:cp P w K mg base "outlook" ["sums"] 5 (iW K)) (C_is_bar:cp P w K mg base "is_bar" ["told"] 1 (kl K)):aV P w K mg base dC 6 f fd ["sums"] (pT K):=by
 have scN:=BZ.nd;refine F.okQ BZ ?_ ?_;walk_at "q"
 .obtain⟨_,_,_,_,_,rfl,_⟩:=h;rfl
 .obtain⟨a,qs,W,B,M,rfl,ha,l1,l11,sq,cl,my,nf,h⟩:=h;refine⟨_,(af (aE (i:=1) scN rfl (·) (ah C_outlook nofun rfl (aa (qv 0) ac)))
   (af (b9 (cQ (ah C_is_bar nofun rfl (aa (qv 1) ac))) (ag pe) aO)
   (ag (au (qv 1))))),?_⟩
  walk_at"m";skip
  refine aP.gen λN1 hN1=>?_;symm
  refine⟨a,qs,rfl,ha,l1,l11,sq,λp H1 W' B' M' s S1 cl' my' o fo=>hN1 _ _ ?_⟩;obtain⟨eB,eW⟩:=cl.uniq cl' λq hq=>(sq q hq).1;subst eB eW;have eM:=my.uniq my';subst eM;refine aP.gen λN2 hN2=>?_;symm
  obtain⟨l,ys,hp,_⟩:=o.at_;refine⟨p,s,_,false,rfl,hp,.inl ⟨rfl,?_⟩,λH2 S2=>?_⟩
  .rcases o.kind with ⟨z,_⟩|⟨z,y,_⟩|⟨_,_,z⟩|⟨_,z⟩
   .exact absurd (.inl z) nf
   .exact absurd (.inr ⟨z,y⟩) nf
   .exact .inl z
   .exact .inr z
  .refine⟨false,rfl,dD ∅ (hN2 _ _ ?_)⟩;symm
   exact h p H2 s (S1.trans S2) (o.same S2) (.of (S2 _ _ hp) (fo _ _ _ hp))
def cI(W:Nat->Int)(M:Nat):Nat:=if 0<Dk W M then M else M-1
theorem oS{W:Nat->Int}{n M:Nat}(my:fU W n M):0<Dk W (cI W M):=by
 unfold cI;split
 .assumption
 .exact my.up _ (by have:=my.one;nofun)
theorem Dm.had{qs:List (Int×Int)}{W:Nat->Int}{B:Int}{M:Nat}{G:Hp}{p:Addr}{s:Str}(o:Dm qs W B M G p s)(nf:¬ ja W qs.length M):∃(l:Addr)(rs:List (Int×Int)),G p=some (.tup [.str s,.ref l])/\aF G l rs/\aL rs/\(∀j,cf rs j=((qk W (cI W M) j:Int):Rat)/((Dk W (cI W M):Int):Rat))/\(s = "tight" /\ Dk W M=0\/s = "open" /\ 0<Dk W M):=by
 obtain⟨k,l,ys,h1,h2,h3,h4,_,_⟩:=o;rcases k with ⟨z,_⟩|⟨z,y,_⟩|⟨d0,_,z⟩|⟨d1,z⟩
 .exact absurd (.inl z) nf
 .exact absurd (.inr ⟨z,y⟩) nf
 .obtain⟨rs,a,b,c⟩:=h3 z;rw[h2 (.inl z)] at h1;refine⟨l,rs,h1,a,b,?_,.inl ⟨z,d0⟩⟩;unfold cI;rw[Yc ()];exact c
 .obtain⟨rs,a,b,c⟩:=h4 z;rw[h2 (.inr z)] at h1;refine⟨l,rs,h1,a,b,?_,.inr ⟨z,d1⟩⟩;unfold cI;rw[Yb d1];exact c
theorem km{W:Nat->Int}{k:Nat}{rs:List (Int×Int)}(po:aL rs)(hD:Dk W k≠0)(num:∀j,cf rs j=((qk W k j:Int):Rat)/((Dk W k:Int):Rat)):rs.length=k+1:=by
 have c0:((0:Int):Rat)=0:=rfl;refine Nat.le_antisymm (jp po λj hj=>?_) (Nat.not_lt.mp λz=>?_)
 .rw[num,dE (),c0];grind
 .have e:=num k;rw[aK (),fh] at e;have:=am hD;grind
theorem Ap{W:Nat->Int}{k:Nat}(hD:Dk W k≠0)(hk:k<=6)(bW:∀i,Bt 1700 (W i)):Pb 11000 (Pk W k) :=
 ⟨Dk W k,hD,(jE bW hk).mono ∅,λj=>⟨qk W k j,rfl,by
  by_cases h:k<=5
  .exact (lA bW h).mono ∅
  .obtain rfl:k=6:=();have:=sQ (B:=2^1700) (k:=6) (λi=>Yh (bW i)) j;exact Xr this ∅⟩⟩
theorem BO{fs gs:List (Int×Int)}{n:Nat}{r:Int×Int}{h:Nat->Rat}(hf:Pb 1100 (cf fs))(hg:Pb 170 h)(hn:n<=6)(f:Fq r)(w:wv r=aj (cf fs) h n):Bq 1300 r:=by
 obtain⟨D,hD,bD,oD⟩:=hf;obtain⟨E,hE,bE,oE⟩:=hg;obtain⟨m,e,bm⟩:=sf hD hE oD oE n;exact jx f (w.trans e) (Y8 hD hE) (bm.mono ()) ((bD.mul bE).mono ())
theorem Fp{a:Nat}{f:Nat->Rat}(h:Pb a f)(i:Nat):Pb a (λj=>f (i+j)):=by
 obtain⟨D,d0,bD,o⟩:=h;exact⟨D,d0,bD,λj=>o (i+j)⟩
def vU(rs qs:List (Int×Int)):Rat:=- aj (cf rs) (λj=>cf qs (qs.length+1-rs.length+j)) (rs.length-1)
inductive ei (K:W.Frag)(vs:List V)(H:Hp)(Q:VK)(E:XK):Prop
 | mk (a b:Addr)(qs rs:List (Int×Int)):vs=[.ref a,.ref b]->aF (vw K H) a qs->aF (vw K H) b rs->1<=rs.length->rs.length<=7->rs.length<=qs.length+1->qs.length<=12->(∀q∈qs,jB q)->(∀q∈rs,Fq q/\Bq 1100 q)->Pb 1100 (cf rs)->(∀v H' r,aB (vw K H) (vw K H')->aI (vw K H') (fr r) v->Fq r->wv r=vU rs qs->Q v H')->ei K vs H Q E
theorem ml(F:dy K "number_behind" "number_behind" gy f fd) (T:dR K mg)(C_minus:cp P w K mg base "minus" ["one", "other"] 3 (pO K)) (C_worth:cp P w K mg base "worth" ["sums", "f"] 3 (fR K)):aV P w K mg base dC 4 f fd ["sums", "roots"] (ei K):=by
 have scN:=iA.nd;refine F.okQ iA ?_ ?_;walk_at "q"
 .obtain⟨_,_,_,_,rfl,_⟩:=h;rfl
 .obtain⟨a,b,qs,rs,rfl,ha,hb,r1,r7,rq,q12,sq,hrs,prs,h⟩:=h;obtain⟨z_ZERO,hg_ZERO,hv_ZERO⟩:=T.g_ZERO;refine⟨_,(af (aE (i:=2) scN rfl (·) (ar bN (ai ao (by rfl) T.b_len aD (aa (qv 1) ac)) ae))
   (ag (au (ah C_minus nofun rfl (aa (fJ (v:=V.ref z_ZERO) rfl hg_ZERO rfl) (aa (ah C_worth nofun rfl (aa (cZ eJ (qv 0) (dU (ar bN (ai ao (by rfl) T.b_len aD (aa (qv 0) ac)) (qv 2))) dS) (aa (cZ eJ (qv 1) dS (dU (qv 2))) ac))) ac)))))),?_⟩
  walk_at"m";skip
  refine aP.gen λN1 hN1=>?_;symm
  refine⟨_,hb.len,hN1 _ _ ?_⟩;obtain⟨d,hd⟩ : ∃d,d=rs.length-1:=⟨_,rfl⟩;rw[show (rs.length:Int)-1=(d:Int) by nofun]
  obtain⟨xs,hxs,rxs⟩:=id ha;obtain⟨ys,hys,rys⟩:=id hb;have lxs:xs.length=qs.length:=by rw[rxs.length,YC]
  have lys:ys.length=rs.length:=by rw[rys.length,YC]
  symm
  refine⟨_,ha.len,?_⟩;rw[show (qs.length:Int)-(d:Int)=((qs.length-d:Nat):Int) by nofun]
  refine⟨xs,hxs,λp1 H1 hp1 S1 h1=>⟨ys,S1 _ _ hys,λp2 H2 hp2 S2 h2=>?_⟩⟩;rw[iD ()] at h1;rw[ph ()] at h2;have S12:=S1.trans S2;have l1:aF (vw K H2) p1 (qs.drop (qs.length-d)):=⟨_,S2 _ _ h1,by rw[List.map_drop];exact (rxs.drop _).same S12⟩
  have l2:aF (vw K H2) p2 (rs.take d):=⟨_,h2,by rw[List.map_take];exact (rys.take _).same S12⟩
  have lt:(rs.take d).length=d:=by rw[Yu];nofun
  simp only[fR];refine⟨p1,p2,_,_,rfl,l1,l2,by rw[lt,YE];nofun,by rw[YE];nofun,by rw[lt];nofun,λq hq=>⟨(sq q (XN hq)).1,(sq q (XN hq)).2.1.mono ∅⟩,λq hq=>⟨(hrs q (Xj hq)).1,(hrs q (Xj hq)).2.mono ∅⟩,λv3 H3 r S3 r3 f3 w3=>?_⟩
  rw[lt,aA (f':=cf rs) (g':=λj=>cf qs (qs.length-d+j)) d (λj hj=>u6 hj) (λj _=>oo)] at w3;have b3:=BO (gs:=qs) prs (Fp (k7 sq) (qs.length-d)) (show d<=6 by nofun) f3 w3
  refine⟨_,_,(0,1),r,rfl,bC (hv_ZERO _),r3,∅,f3.ne,za ∅,b3.mono ∅,by rw[Xq];exact b3.2.mono ∅,λv4 H4 S4 r4=>h v4 H4 _ (S12.trans (S3.trans S4)) r4 (xP kx f3) ?_⟩
  rw[CP ∅ f3.ne,w3,(fP (q:=((0:Int),(1:Int))) ∅).mpr rfl];unfold vU;rw[show qs.length-d=qs.length+1-rs.length by nofun,hd]
  grind
theorem GY{W:Nat->Int}{k:Nat}{rs:List (Int×Int)}(po:aL rs)(hD:Dk W k≠0)(hk:k<=6)(bW:∀i,Bt 170 (W i))(num:∀j,cf rs j=((qk W k j:Int):Rat)/((Dk W k:Int):Rat)):∀q∈rs,Fq q/\Bq 1100 q:=λq hq=>by
 obtain⟨j,hj⟩:=XI hq;have e:=num j;rw[aG hj] at e;exact⟨po.1 q hq,jx (po.1 q hq) e hD ((sL bW hk).mono ∅) ((jE bW ()).mono ∅)⟩
theorem eD{qs:List (Int×Int)}{W:Nat->Int}{B:Int}(cl:gS qs W B)(sq:∀q∈qs,jB q):∀i,Bt 170 (W i):=λi=>by
 obtain⟨t,ht⟩:=cl.least (jr 12) λq hq=>(sq q hq).2.2;have e:=cl.val i;cases h:qs[i]? with
 | none =>
  rw[aK (List.getElem?_eq_none_iff.mp h)] at e;have z:W i=0:=Rat.intCast_inj.mp (by rw[e];show (0:Rat)*_=0;grind)
  rw[z];exact FD
 | some q =>
  obtain⟨n,en,bn⟩:=(sq q (YA h)).num;rw[aG h,en] at e;have c0:((jr 12:Int):Rat)≠0:=am ∅;have k:W i*t=n:=by
   refine Rat.intCast_inj.mp ?_;have e1:((jr 12:Int):Rat)=(B:Rat)*(t:Rat):=by rw[ht,Xa]
   rw[Xa,e];grind
  have t0:t≠0:=λz=>by rw[z,Xi] at ht;exact absurd ht ∅
  unfold Bt at bn ⊢;rw[<-k,YV] at bn;exact Xr (Y3 _ (Int.natAbs_pos.mpr t0)) bn
theorem sA{W:Nat->Int}{n M:Nat}(my:fU W n M):cI W M<=M:=by unfold cI;split<;>nofun
def Dg(W:Nat->Int)(qs:List (Int×Int))(M:Nat)(r:Int×Int):Prop:=Fq r /\ ∃rs,aL rs/\(∀j,cf rs j=((qk W (cI W M) j:Int):Rat)/((Dk W (cI W M):Int):Rat))/\wv r=vU rs qs
def E9(W:Nat->Int)(qs:List (Int×Int))(M:Nat)(d:D):Prop:=(Dk W M=0 /\ ∃r,Dg W qs M r/\d=.tup [.str "just",fr r])\/(0<Dk W M/\qs.length%2=1/\d=.tup [.str "any"])\/(0<Dk W M/\qs.length%2=0 /\ ∃r,Dg W qs M r/\d=.tup [.str "from",fr r])
theorem xM{W:Nat->Int}{qs:List (Int×Int)}{M:Nat}{rs:List (Int×Int)}(bW:∀i,Bt 170 (W i))(my:fU W qs.length M)(n2:qs.length<=11)(po:aL rs)(num:∀j,cf rs j=((qk W (cI W M) j:Int):Rat)/((Dk W (cI W M):Int):Rat)):rs.length=cI W M+1/\(∀q∈rs,Fq q/\Bq 1100 q)/\Pb 1100 (cf rs):=by
 have hp:=oS my;have hl:=sA my;have:=my.most;refine⟨km po () num,GY po () () bW num,?_⟩;refine⟨Dk W (cI W M),(),(jE bW ()).mono ∅,λj=>⟨_,num j,?_⟩⟩;exact (sL bW ()).mono ∅
inductive jY (K:W.Frag)(vs:List V)(H:Hp)(Q:VK)(E:XK):Prop
 | mk (a:Addr)(qs:List (Int×Int))(W:Nat->Int)(B:Int)(M:Nat):vs=[.ref a]->aF (vw K H) a qs->1<=qs.length->qs.length<=11->eH qs->gS qs W B->fU W qs.length M -> ¬ ja W qs.length M->(∀H',aB (vw K H) (vw K H')->Q (.bl (decide (Dk W M=0))) H')->jY K vs H Q E
theorem ui(F:dy K "is_tight" "is_tight" kT f fd) (T:dR K mg)(C_had:cp P w K mg base "had" ["sums"] 6 (pT K)):aV P w K mg base dC 7 f fd ["sums"] (jY K):=by
 have scN:=mY.nd;refine F.okQ mY ?_ ?_;walk_at "q"
 .obtain⟨_,_,_,_,_,rfl,_⟩:=h;rfl
 .obtain⟨a,qs,W,B,M,rfl,ha,l1,l11,sq,cl,my,nf,h⟩:=h;refine⟨_,(ag (au (bJ eK (av aS (ah C_had nofun rfl (aa (qv 0) ac)) ae (λ_ _=>rfl)) dc (aC _)))),?_⟩
  walk_at"m";symm
  refine⟨a,qs,W,B,M,rfl,ha,l1,l11,sq,cl,my,nf,λp H1 s S1 o _=>?_⟩;obtain⟨l,rs,h1,_,_,_,hs⟩:=o.had nf;refine⟨_,rfl,_,h1,_,cS,rfl,?_⟩;have e:decide (V.str s=V.str (Str.ofString "tight"))=decide (Dk W M=0):=by
   rcases hs with ⟨z,y⟩|⟨z,y⟩
   .rw[z,YM y];rfl
   .rw[z,Ya (show ¬ Dk W M=0 by nofun)]
    decide +kernel
  rw[e];exact h H1 S1
inductive mw (K:W.Frag)(vs:List V)(H:Hp)(Q:VK)(E:XK):Prop
 | mk (a:Addr)(qs:List (Int×Int))(W:Nat->Int)(B:Int)(M:Nat):vs=[.ref a]->aF (vw K H) a qs->1<=qs.length->qs.length<=11->eH qs->gS qs W B->fU W qs.length M -> ¬ ja W qs.length M->(∀H',aB (vw K H) (vw K H')->Q (.int (cI W M)) H')->mw K vs H Q E
theorem zC(F:dy K "fewest" "fewest" qy f fd) (T:dR K mg)(C_had:cp P w K mg base "had" ["sums"] 6 (pT K)):aV P w K mg base dC 7 f fd ["sums"] (mw K):=by
 have scN:=rB.nd;refine F.okQ rB ?_ ?_;walk_at "q"
 .obtain⟨_,_,_,_,_,rfl,_⟩:=h;rfl
 .obtain⟨a,qs,W,B,M,rfl,ha,l1,l11,sq,cl,my,nf,h⟩:=h;refine⟨_,(ag (au (ar bN (ai ao (by rfl) T.b_len aD (aa (av aS (ah C_had nofun rfl (aa (qv 0) ac)) ae (λ_ _=>rfl)) ac)) ae))),?_⟩
  walk_at"m";symm
  refine⟨a,qs,W,B,M,rfl,ha,l1,l11,sq,cl,my,nf,λp H1 s S1 o _=>?_⟩;obtain⟨l,rs,h1,lr,po,num,hs⟩:=o.had nf;refine⟨_,rfl,_,h1,_,cL,_,rfl,_,lr.len,?_⟩;rw[km po (by have:=oS my;nofun) num,show ((cI W M+1:Nat):Int)-1=(cI W M:Int) by nofun]
  exact h H1 S1
inductive j6 (K:W.Frag)(vs:List V)(H:Hp)(Q:VK)(E:XK):Prop
 | mk (a:Addr)(qs:List (Int×Int))(W:Nat->Int)(B:Int)(M:Nat):vs=[.ref a]->aF (vw K H) a qs->1<=qs.length->qs.length<=11->(∀q∈qs,jB q)->gS qs W B->fU W qs.length M -> ¬ ja W qs.length M->(∀v H' d,aB (vw K H) (vw K H')->E9 W qs M d->aI (vw K H') d v->Q v H')->j6 K vs H Q E
theorem uS(F:dy K "next_sum" "next_sum" kN f fd) (T:dR K mg)(C_had:cp P w K mg base "had" ["sums"] 6 (pT K)) (C_number_behind:cp P w K mg base "number_behind" ["sums", "roots"] 4 (ei K)):aV P w K mg base dC 7 f fd ["sums"] (j6 K):=by
 have scN:=m4.nd;refine F.okQ m4 ?_ ?_;walk_at "q"
 .obtain⟨_,_,_,_,_,rfl,_⟩:=h;rfl
 .obtain⟨a,qs,W,B,M,rfl,ha,l1,l11,sq,cl,my,nf,h⟩:=h;refine⟨_,(af (cW (ah C_had nofun rfl (aa (qv 0) ac)) (bO (n:=2) rfl (ay (aq (i:=1) scN rfl (·)) (ay (aq (i:=2) scN rfl (·)) bQ))))
   (af (b9 (aH eK (qv 1) dc (aC _)) (ag (au (aT (aa dc (aa (ah C_number_behind nofun rfl (aa (qv 0) (aa (qv 2) ac))) ac))))) aO)
   (af (b9 (gL (ar xm (ai ao (by rfl) T.b_len aD (aa (qv 0) ac)) ae) (λ_=>rfl)) (ag (au (aT (aa dc ac)))) aO)
   (ag (au (aT (aa dc (aa (ah C_number_behind nofun rfl (aa (qv 0) (aa (qv 2) ac))) ac)))))))),?_⟩
  walk_at"m";skip
  refine aP.gen λN1 hN1=>?_;symm
  refine⟨a,qs,W,B,M,rfl,ha,l1,l11,.of sq,cl,my,nf,λp H1 s S1 o _=>?_⟩;obtain⟨l,rs,h1,lr,po,num,hs⟩:=o.had nf;obtain⟨lrs,brs,prs⟩:=xM (eD cl sq) my l11 po num;have hl:=sA my;have hm:=my.most;refine⟨_,rfl,_,h1,rfl,_,_,rfl,_,_,rfl,rfl,hN1 _ _ ?_⟩;refine aP.gen λN2 hN2=>?_;symm
  have nt:s=Str.ofString "tight" ↔ Dk W M=0:=by
   rcases hs with ⟨z,y⟩|⟨z,y⟩
   .exact⟨λ_=>y,λ_=>z⟩
   .refine⟨λx=>?_,λx=>by nofun⟩
    rw[z] at x;exact absurd x ∅
  have nb:∀{Q':VK},(∀v H' r,aB (vw K H1) (vw K H')->aI (vw K H') (fr r) v->Dg W qs M r->Q' v H')->ei K [V.ref a,V.ref l] H1 Q' E0:=λhQ=>⟨a,l,qs,rs,rfl,ha.same S1,lr,(),(),(),(),sq,brs,prs,λv H' r S r' f w=>hQ v H' r S r' ⟨f,rs,po,num,w⟩⟩;refine⟨rfl,cz (λhc=>?_) (λhc=>hN2 _ _ ?_)⟩
  .have d0:=nt.mp hc;refine nb λv H2 r S2 r2 nx=>⟨∅,λp3 H3 hp3 S3 h3=>h _ H3 _ (S1.trans (S2.trans S3)) (.inl ⟨d0,r,nx,rfl⟩) (.mk_tup h3 (.mk_cons (.mk_str _) (.mk_cons (aI.same S3 _ _ r2) .mk_nil)))⟩
  have d1:0<Dk W M:=by
   rcases hs with ⟨z,y⟩|⟨z,y⟩
   .exact absurd (nt.mpr y) hc
   .exact y
  refine aP.gen λN3 hN3=>?_;symm
  refine⟨_,(ha.same S1).len,(),cz (λho=>?_) (λho=>hN3 _ _ ?_)⟩
  .have o1:qs.length%2=1:=by
    have:((qs.length:Int)%2)≠0:=by simpa using ho
    nofun
   exact⟨∅,λp3 H3 hp3 S3 h3=>h _ H3 _ (S1.trans S3) (.inr (.inl ⟨d1,o1,rfl⟩)) (.mk_tup h3 (.mk_cons (.mk_str _) .mk_nil))⟩
  have o0:qs.length%2=0:=by
   have:((qs.length:Int)%2)=0:=by simpa using ho
   nofun
  symm
  refine nb λv H2 r S2 r2 nx=>⟨∅,λp3 H3 hp3 S3 h3=>h _ H3 _ (S1.trans (S2.trans S3)) (.inr (.inr ⟨d1,o0,r,nx,rfl⟩)) (.mk_tup h3 (.mk_cons (.mk_str _) (.mk_cons (aI.same S3 _ _ r2) .mk_nil)))⟩
def j5(K:W.Frag):Sp:=λvs H Q _=>∃x d,vs=[x]/\aI (vw K H) d x/\Q (.bl d.isInt) H
theorem um(F:dy K "is_whole" "is_whole" kQ f fd) (T:dR K mg):aV P w K mg base dC 1 f fd ["thing"] (j5 K):=by
 have scN:=m8.nd;refine F.okQ m8 ?_ ?_;walk_at "q"
 .obtain⟨a,_,rfl,_⟩:=h;rfl
 .obtain⟨x,d,rfl,hx,h⟩:=h;refine⟨_,(ag (au (fS (ai cr (by rfl) T.b_isinstance bK (aa (qv 0) (aa (eo (v:=V.ty "int") rfl T.b_int Ar rfl) ac))) (fk (vZ (ai cr (by rfl) T.b_isinstance bK (aa (qv 0) (aa (eo (v:=V.ty "bool") rfl T.b_bool yr rfl) ac)))))))),?_⟩
  walk_at"m";have ht:=aI.ty hx;walk_at"vc*";cases d<;>simpa [D.ty,fD,D.isInt] using h
def gT(K:W.Frag):Sp:=λvs H Q _=>∃x d,vs=[x]/\aI (vw K H) d x/\Q (.bl d.frac) H
theorem qq(F:dy K "is_fraction" "is_fraction" ii f fd) (T:dR K mg)(C_is_whole:cp P w K mg base "is_whole" ["thing"] 1 (j5 K))
  (C_greatest_divisor:cp P w K mg base "greatest_divisor" ["one", "other"] 1 (ci K)):aV P w K mg base dC 2 f fd ["thing"] (gT K):=by
 have scN:=j0.nd;refine F.okQ j0 ?_ ?_;walk_at "q"
 .obtain⟨a,_,rfl,_⟩:=h;rfl
 .obtain⟨x,d,rfl,hx,h⟩:=h;refine⟨_,(af (b9 (QW.pt (fG (cK (cQ (ai cr (by rfl) T.b_isinstance bK (aa (qv 0) (aa (eo (v:=V.ty "tuple") rfl T.b_tuple iS rfl) ac))))) (fM (aH kB (ai ao (by rfl) T.b_len aD (aa (qv 0) ac)) ae (aC _))))) (ag (au dO)) aO)
   (af (cW (qv 0) (bO (n:=2) rfl (ay (aq (i:=1) scN rfl (·)) (ay (aq (i:=2) scN rfl (·)) bQ))))
   (af (b9 (QW.pt (fG (cK (cQ (ah C_is_whole nofun rfl (aa (qv 1) ac)))) (fG (cK (cQ (ah C_is_whole nofun rfl (aa (qv 2) ac)))) (fM (aH jw (qv 2) ae (aC _)))))) (ag (au dO)) aO)
   (ag (au (bJ eK (ah C_greatest_divisor nofun rfl (aa (qv 1) (aa (qv 2) ac))) ae (aC _))))))),?_⟩
  walk_at"m";have ht:=aI.ty hx;walk_at"vc*";simp only[j5,ci];walk_at"vc*";cases d with
  | tup ds =>
   obtain⟨a,xs,rfl,ha,r⟩:=hx.tup_at;refine dD (by simp[D.ty,fD]) ⟨a,rfl,xs.length,by simp only[de,ha],cz (λhl=>?_) (λhl=>?_)⟩
   .have e:(D.tup ds).frac=false:=by
     cases e:(D.tup ds).frac with
     | false=>rfl
     | true =>
      obtain⟨_,_,rfl,_⟩:=D.frac_tup e;have:=r.length;simp at this;nofun
    rw[e] at h;exact h
   .obtain⟨d1,d2,x1,x2,rfl,rfl,r1,r2⟩:=r.pair ();refine⟨a,rfl,_,ha,rfl,_,_,rfl,_,_,rfl,rfl,d1,r1,cz (λi1=>?_) (λi1=>⟨d2,r2,cz (λi2=>?_) (λi2=>?_)⟩)⟩
    .cases d1<;>first|exact h|cases i1
    .cases d1<;>cases d2<;>first|exact h|cases i2
    .obtain⟨i1',rfl⟩:=D.isInt_of i1;obtain⟨i2',rfl⟩:=D.isInt_of i2;cases r1.int_at;cases r2.int_at;refine⟨_,rfl,cz (λhi=>?_) (λhi=>⟨_,rfl,_,rfl,?_⟩)⟩
     .have e:=yd (t:=i1') (b:=i2') ();rw[e] at h;exact h
     .have e:=yh (t:=i1') (b:=i2') ();rw[e] at h;exact h
  | _=>exact gW (by simp[D.ty,fD]) h
inductive fY (K:W.Frag)(vs:List V)(H:Hp)(Q:VK)(E:XK):Prop
 | mk (x d:_):vs=[x]->aI (vw K H) d x->Q (.bl d.poly) H->fY K vs H Q E
theorem mH(F:dy K "is_polynomial" "is_polynomial" gq f fd) (T:dR K mg)(C_is_fraction:cp P w K mg base "is_fraction" ["thing"] 2 (gT K)):aV P w K mg base dC 3 f fd ["thing"] (fY K):=by
 have scN:=iC.nd;refine F.okQ iC ?_ ?_;walk_at "q"
 .obtain⟨a,_,rfl,_⟩:=h;rfl
 .obtain⟨x,d,rfl,hx,h⟩:=h;obtain⟨z_ZERO,hg_ZERO,hv_ZERO⟩:=T.g_ZERO;refine⟨_,(af (b9 (cK (cQ (ai cr (by rfl) T.b_isinstance bK (aa (qv 0) (aa (eo (v:=V.ty "list") rfl T.b_list fH rfl) ac))))) (ag (au dO)) aO)
   (af (cC PassesOwn.never rfl (cR (qv 0)) (aq (i:=1) scN rfl (·)) (ag (b9 (cK (cQ (ah C_is_fraction nofun rfl (aa (qv 1) ac)))) (ag (au dO)) aO)))
   (ag (au (vd (bJ eK (ai ao (by rfl) T.b_len aD (aa (qv 0) ac)) ae (aC _)) (fk (bJ (qu hr.u64) (av cT (qv 0) (eE cV ae) (λ_ _=>rfl)) (fJ (v:=V.ref z_ZERO) rfl hg_ZERO rfl) (aC _)))))))),?_⟩
  walk_at"m";have ht:=aI.ty hx;walk_at"vc*";cases d with
  | lst ds =>
   obtain⟨a,xs,rfl,ha,r⟩:=hx.lst_at;refine dD (by simp[D.ty,fD]) ⟨a,rfl,⟨xs,.of (aQ ha)⟩,?_⟩
   refine aX (its:=xs) (λi σ H'=>H'=H/\(∃y,σ=[some (.ref a),y])/\(ds.take i).all D.frac=true) (λi σ H' _ p=>by cases p.1;exact bI ha) ⟨rfl,⟨_,rfl⟩,rfl⟩ ?_ ?_
   .rintro i x σ H' hi hx' ⟨rfl,⟨y,rfl⟩,hall⟩;obtain⟨d',hd',r'⟩:=r.get hx';symm
    simp only[gT];symm
    refine⟨d',r',cz (λhf=>?_) (λhf=>?_)⟩
    .have e:(D.lst ds).poly=false:=by
      unfold D.poly;rw[Bool.and_eq_false_iff];exact .inl (List.all_eq_false.mpr ⟨d',YA hd',by simpa using hf⟩)
     rw[e] at h;exact h
    .rw[Xb,hd'];simp only[List.all_append,hall,Option.toList,List.all_cons,List.all_nil];simpa using hf
   .rintro σ H' ⟨rfl,⟨y,rfl⟩,hall⟩;have hall':ds.all D.frac=true:=by rwa [r.length,Xd] at hall
    have hlen:de (vw K H') a=some xs.length:=by simp only[de,ha]
    symm
    refine⟨_,hlen,cz (λh0=>?_) (λh0=>?_)⟩
    .have e:ds=[]:=by
      have:=r.length;exact XO ()
     subst e;exact h
    .have hn:ds≠[]:=by
      rintro rfl;exact h0 (by rw[r.length];rfl)
     obtain⟨q,hq,fq⟩:=pS hall' hn;obtain⟨x,hx',rx⟩:=r.last hq;refine⟨_,ha,x,gd hx',_,rx,fr (0,1),bC (hv_ZERO _),dG _,dG _,?_⟩;rw[jJ];have e:(D.lst ds).poly = !decide (q=(0,1)):=by
      show (ds.all D.frac && i8 ds)=_;rw[hall',Bool.true_and];exact kg hq
     rw[e] at h;exact h
  | _=>exact gW (by simp[D.ty,fD]) h
def ig(K:W.Frag):Sp:=λvs H Q _=>∃(a b:Addr)(fs gs:List (Int×Int))(B:Nat),vs=[.ref a,.ref b]/\aF (vw K H) a fs/\aF (vw K H) b gs/\fs.length<=14/\gs.length<=14/\B<=200000/\fs.length*B+gs.length*B<=9000000/\(∀q∈fs,Fq q/\Bq B q)/\(∀q∈gs,Fq q/\Bq B q) /\
 ∀c H' (rs:List (Int×Int)),aB (vw K H) (vw K H')->aF (vw K H') c rs->vw K H c=none->aL rs->(∀k,cf rs k=pr (cf fs) (cf gs) fs.length k)->rs.length<=fs.length+gs.length->(∀q∈rs,Bq (2+fs.length*B+gs.length*B+B+B+fs.length) q)->Q (.ref c) H'
theorem qC(F:dy K "multiplied" "multiplied" i9 f fd) (T:dR K mg)(C_cleared:cp P w K mg base "cleared" ["f"] 2 (cj K)) (C_divided:cp P w K mg base "divided" ["wholes", "bottom"] 3 (dd K)) (C_wholes_multiplied:cp P w K mg base "wholes_multiplied" ["one", "other"] 1 (bZ K)):aV P w K mg base dC 4 f fd ["f", "g"] (ig K):=by
 have scN:=kH.nd;refine F.okQ kH ?_ ?_;walk_at "q"
 .obtain⟨a,_,_,_,_,rfl,_⟩:=h;rfl
 .obtain⟨a,b,fs,gs,B,rfl,ha,hb,lf,lg',hB,hBB,hf,hg,h⟩:=h;refine⟨_,(af (cW (ah C_cleared nofun rfl (aa (qv 0) ac)) (bO (n:=2) rfl (ay (aq (i:=2) scN rfl (·)) (ay (aq (i:=3) scN rfl (·)) bQ))))
   (af (cW (ah C_cleared nofun rfl (aa (qv 1) ac)) (bO (n:=2) rfl (ay (aq (i:=4) scN rfl (·)) (ay (aq (i:=5) scN rfl (·)) bQ))))
   (ag (au (ah C_divided nofun rfl (aa (ah C_wholes_multiplied nofun rfl (aa (qv 2) (aa (qv 4) ac))) (aa (ar aM (qv 3) (qv 5)) ac))))))),?_⟩
  walk_at"m";symm
  simp only[cj];symm
  refine⟨fs,ha,lf,B,Yg hB ∅,hf,λp1 a1 H1 D1 ms S1 h1 ha1 _ hD1 bD1 lm hm _=>⟨_,h1,rfl,?_⟩⟩;symm
  refine⟨gs,hb.same S1,lg',B,Yg hB ∅,hg,λp2 b1 H2 D2 ns S2 h2 hb1 _ hD2 bD2 ln hn _=>⟨_,h2,rfl,?_⟩⟩;symm
  simp only[bZ];symm
  have bm:∀x∈ms,Bt (1+fs.length*B+B) x:=λx hx=>by
   obtain⟨i,hi⟩:=List.mem_iff_getElem?.mp hx;have hil:=(List.getElem?_eq_some_iff.mp hi).1;exact (hm i x _ hi (YO (show i<fs.length by nofun))).2
  have bn:∀x∈ns,Bt (1+gs.length*B+B) x:=λx hx=>by
   obtain⟨i,hi⟩:=List.mem_iff_getElem?.mp hx;have hil:=(List.getElem?_eq_some_iff.mp hi).1;exact (hn i x _ hi (YO (show i<gs.length by nofun))).2
  refine⟨ms,S2 _ _ ha1,ns,hb1,(),(),1+fs.length*B+B,(),1+gs.length*B+B,(),bm,bn,λc3 H3 L S3 h3 _ hL _ zL=>?_⟩;symm
  refine⟨cg bD1 bD2 (),?_⟩;simp only[dd];symm
  have nz1:D1*D2≠0:=Y8 () ();have bz:=yI (gf bm) (gf bn) ms.length;refine⟨_,h3,by rw[aZ];nofun,nz1,(bD1.mul bD2).mono (),λc4 H4 rs S4 l4 n4 p4 c4' e4 q4=>h c4 H4 rs (S1.trans (S2.trans (S3.trans S4))) l4 ?_ p4 (λk=>?_) (by rw[aZ] at e4;nofun) λq hq=>?_⟩
  .cases e:vw K H c4 with
   | none=>rfl
   | some o=>rw[S3 _ _ (S2 _ _ (S1 _ _ e))] at n4;cases n4
  .rw[c4' k];have e1:nz (lz L (pz (nz ms) (nz ns) ms.length)) k=pz (nz ms) (nz ns) ms.length k:=by
    by_cases hk:k<L
    .exact mZ hk
    .rw[zL k (),bA (by rw[aZ];nofun)]
   rw[e1,og (dN lm λi n q e1 e2=>(hm i n q e1 e2).1) (dN ln λi n q e1 e2=>(hn i n q e1 e2).1),Xa,lm];have c1:=am (show D1≠0 by nofun)
   have c2:=am (show D2≠0 by nofun)
   grind
  .obtain⟨n,hn',rfl⟩:=q4 q hq;obtain⟨k,hk,rfl⟩:=List.mem_map.mp hn';exact oB nz1 ((bz k).mono ()) ((bD1.mul bD2).mono ())
inductive ie (K:W.Frag)(vs:List V)(H:Hp)(Q:VK)(E:XK):Prop
 | mk (a b c:Addr)(qs fs gs:List (Int×Int)):vs=[.ref a,.ref b,.ref c]->aF (vw K H) a qs->aF (vw K H) b fs->aF (vw K H) c gs->qs.length<=12->fs.length<=11->gs.length<=11->(∀q∈qs,Fq q/\Bq 1400 q)->(∀q∈fs,Fq q/\Bq 20000 q)->(∀q∈gs,Fq q/\Bq 20000 q)->(∀rs,aL rs->(∀k,cf rs k=pr (cf fs) (cf gs) fs.length k)->rs.length<=qs.length)->(∀v H' r,aB (vw K H) (vw K H')->aI (vw K H') (fr r) v->Fq r->wv r=aj (λm=>pr (cf fs) (cf gs) fs.length m) (cf qs) (fs.length+gs.length)->Q v H')->ie K vs H Q E
theorem qA(F:dy K "square_sum" "square_sum" jj f fd) (T:dR K mg)(C_worth:cp P w K mg base "worth" ["sums", "f"] 3 (fR K)) (C_multiplied:cp P w K mg base "multiplied" ["f", "g"] 4 (ig K)):aV P w K mg base dC 5 f fd ["sums", "f", "g"] (ie K):=by
 have scN:=kD.nd;refine F.okQ kD ?_ ?_;walk_at "q"
 .obtain⟨a,_,_,_,_,_,rfl,_⟩:=h;rfl
 .obtain⟨a,b,c,qs,fs,gs,rfl,ha,hb,hc,lq,lf,lg',hq,hf,hg,hl,h⟩:=h;refine⟨_,(ag (au (ah C_worth nofun rfl (aa (qv 0) (aa (ah C_multiplied nofun rfl (aa (qv 1) (aa (qv 2) ac))) ac))))),?_⟩
  walk_at"m";symm
  simp only[ig,fR];symm
  refine⟨fs,hb,gs,hc,(),(),20000,∅,(),hf,hg,λd H1 rs S1 l1 _ p1 w1 n1 b1=>?_⟩;refine⟨qs,ha.same S1,rs,l1,hl rs p1 w1,lq,(by have:=hl rs p1 w1;nofun),hq,λq hq'=>⟨p1.1 q hq',(b1 q hq').mono ()⟩,λv H2 r S2 r2 f2 w2=>h v H2 r (S1.trans S2) r2 f2 ?_⟩
  rw[w2,<-cX (n:=rs.length) (λi hi=>by rw[aK hi];grind) (fs.length+gs.length-rs.length),show rs.length+(fs.length+gs.length-rs.length)=fs.length+gs.length by nofun]
  exact aA _ (λi _=>w1 i) λ_ _=>rfl
inductive tK (K:W.Frag)(vs:List V)(H:Hp)(Q:VK)(E:XK):Prop
 | mk (a b c:Addr)(qs fs gs:List (Int×Int)):vs=[.ref a,.ref b,.ref c]->aF (vw K H) a qs->aF (vw K H) b fs->aF (vw K H) c gs->(∀t:Bool,(t=true↔(fs=[]\/gs=[]\/fs.length+gs.length<=qs.length+1))->Q (.bl t) H)->tK K vs H Q E
theorem Ds(F:dy K "fits" "fits" vJ f fd) (T:dR K mg):aV P w K mg base dC 1 f fd ["sums", "f", "g"] (tK K):=by
 have scN:=yS.nd;refine F.okQ yS ?_ ?_;walk_at "q"
 .obtain⟨a,_,_,_,_,_,rfl,_⟩:=h;rfl
 .obtain⟨a,b,c,qs,fs,gs,rfl,ha,hb,hc,h⟩:=h;refine⟨_,(ag (au (vd (xL (qv 1)) (vd (xL (qv 2)) (fk (bJ ur (ar bN (ar aW (ai ao (by rfl) T.b_len aD (aa (qv 1) ac)) (ai ao (by rfl) T.b_len aD (aa (qv 2) ac))) ae) (ai ao (by rfl) T.b_len aD (aa (qv 0) ac)) (aC _))))))),?_⟩
  walk_at"m";symm
  simp only[Ay];symm
  obtain⟨xs,hxs,rxs⟩:=id hb;obtain⟨ys,hys,rys⟩:=id hc;have lx:=rxs.length;have ly:=rys.length;rw[YC] at lx ly;refine⟨_,ke hxs,cz (λe=>?_) (λe=>⟨_,ke hys,cz (λe'=>?_) (λe'=>⟨_,hb.len,_,hc.len,_,ha.len,?_⟩)⟩)⟩
  .have e2:xs=[]:=by simpa using e
   exact h true ⟨λ_=>.inl (XO (by rw[<-lx,e2];rfl)),λ_=>rfl⟩
  .have e2:ys=[]:=by simpa using e'
   exact h true ⟨λ_=>.inr (.inl (XO (by rw[<-ly,e2];rfl))),λ_=>rfl⟩
  .refine h _ ⟨λz=>?_,λz=>?_⟩
   .have z':=XF z;exact .inr (.inr ())
   .rcases z with z|z|z
    .rw[z] at lx;exact absurd (by rw[XO lx];rfl) e
    .rw[z] at ly;exact absurd (by rw[XO ly];rfl) e'
    .exact YM ()
theorem rP{S u v:Nat->Rat}{a b:Nat}(bv:Bd b v)(h:a+b<=20):aj (λm=>pr u v a m) S (a+b)=ip S u v a b:=by
 rw[Cd bv h];have:=cX (f:=λm=>pr u v a m) (h:=S) (n:=a+b) (λi hi=>by
  show pr u v a i*S i=0;rw[fK bv _ _ ()];grind) (20-(a+b))
 rw[show a+b+(20-(a+b))=20 by nofun] at this
 exact this.symm
theorem uT(fs:List (Int×Int)):Bd fs.length (cf fs):=λi hi=>aK hi
theorem FM{f:Nat->Rat}:∀n k,pr f (cf []) n k=0
 | 0,_=>rfl
 | n+1,k=>by
  show pr f (cf []) n k+(if n<=k then f n*cf [] (k-n) else 0)=0
  rw[FM n k,G4];split<;>grind
def rK(n:Nat)(fs gs:List (Int×Int)):Prop:=fs=[]\/gs=[]\/fs.length+gs.length<=n+1
def wo(qs fs gs:List (Int×Int)):Rat:=ip (cf qs) (cf fs) (cf gs) fs.length gs.length
theorem jo{n:Nat}{fs gs us:List (Int×Int)}(h:rK n fs gs)(pu:aL us)(eu:∀k,cf us k=pr (cf fs) (cf gs) fs.length k):us.length<=n:=by
 rcases h with z|z|z
 .refine Yg (jp (m:=0) pu λm hm=>?_) ();rw[eu,z];rfl
 .refine Yg (jp (m:=0) pu λm hm=>?_) ();rw[eu,z];exact FM _ _
 .by_cases e:fs.length+gs.length=0
  .refine Yg (jp (m:=0) pu λm hm=>?_) ();rw[eu,show fs=[] from List.length_eq_zero_iff.mp ()]
   rfl
  .refine Yg (jp (m:=fs.length+gs.length-1) pu λm hm=>?_) ();rw[eu];exact fK (n:=gs.length) (λj hj=>aK hj) _ _ ()
theorem rW{q:Int×Int}(f:Fq q):q.1<0↔wv q<0:=by
 have p:(0:Rat)<((q.2:Int):Rat)⁻¹:=Rat.inv_pos.mpr (by exact_mod_cast f.1)
 unfold wv;rw[Rat.div_def];constructor
 .intro z;have z':((q.1:Int):Rat)<0:=by exact_mod_cast z
  have:=Xy (show (0:Rat) < -((q.1:Int):Rat) by grind) p
  grind
 .intro z;refine Int.not_le.mp λy=>?_;have y':(0:Rat)<=((q.1:Int):Rat):=by exact_mod_cast y
  have:=Xu y' (Rat.le_of_lt p);grind
inductive ow (K:W.Frag)(vs:List V)(H:Hp)(Q:VK)(E:XK):Prop
 | mk (a p l:Addr)(qs fs:List (Int×Int)):vs=[.ref a,.ref p]->aF (vw K H) a qs->qs.length<=11->eH qs->aF (vw K H) l fs->aL fs->fs.length<=11->(∀q∈fs,Bq 20000 q)->((vw K H p=some (.tup [.str "below",.ref l]) /\ ∀(t:Bool) H',aB (vw K H) (vw K H')->(t=true↔rK qs.length fs fs/\wo qs fs fs<0)->Q (.bl t) H') \/ ∃(l2:Addr)(gs:List (Int×Int)),vw K H p=some (.tup [.str "nought",.ref l,.ref l2])/\aF (vw K H) l2 gs/\aL gs/\gs.length<=11/\(∀q∈gs,Bq 20000 q) /\ ∀(t:Bool) H',aB (vw K H) (vw K H')->(t=true↔rK qs.length fs fs/\rK qs.length fs gs/\wo qs fs fs=0/\wo qs fs gs≠0)->Q (.bl t) H')->ow K vs H Q E
theorem E4(F:dy K "bars" "bars" vE f fd) (T:dR K mg)(C_is_polynomial:cp P w K mg base "is_polynomial" ["thing"] 3 (fY K)) (C_fits:cp P w K mg base "fits" ["sums", "f", "g"] 1 (tK K)) (C_square_sum:cp P w K mg base "square_sum" ["sums", "f", "g"] 5 (ie K)):aV P w K mg base dC 6 f fd ["sums", "thing"] (ow K):=by
 have scN:=yH.nd;refine F.okQ yH ?_ ?_;walk_at "q"
 .obtain⟨_,_,_,_,_,rfl,_⟩:=h;rfl
 .obtain⟨a,p,l,qs,fs,rfl,ha,l11,sq,hl,pf,lf,bf,h⟩:=h;obtain⟨z_ZERO,hg_ZERO,hv_ZERO⟩:=T.g_ZERO;refine⟨_,(af (b9 (QW.pt (fG (cK (cQ (ai cr (by rfl) T.b_isinstance bK (aa (qv 1) (aa (eo (v:=V.ty "tuple") rfl T.b_tuple iS rfl) ac))))) (fM (aH iX (ai ao (by rfl) T.b_len aD (aa (qv 1) ac)) (aT (aa ae (aa ae ac))) (by rfl))))) (ag (au dO)) aO)
   (af (cC PassesOwn.never rfl (wS (cZ oz (qv 1) (dU ae) dS)) (aq (i:=2) scN rfl (·)) (ag (b9 (QW.pt (fG (cK (cQ (ah C_is_polynomial nofun rfl (aa (qv 2) ac)))) (fM (cK (cQ (ah C_fits nofun rfl (aa (qv 0) (aa (av aS (qv 1) ae (λ_ _=>rfl)) (aa (qv 2) ac))))))))) (ag (au dO)) aO)))
   (af (aE (i:=3) scN rfl (·) (ah C_square_sum nofun rfl (aa (qv 0) (aa (av aS (qv 1) ae (λ_ _=>rfl)) (aa (av aS (qv 1) ae (λ_ _=>rfl)) ac)))))
   (af (b9 (aH eK (ai ao (by rfl) T.b_len aD (aa (qv 1) ac)) ae (aC _)) (ag (au (fS (bJ eK (av aS (qv 1) ae (λ_ _=>rfl)) dc (aC _)) (fk (bJ jw (av aS (qv 3) ae (λ_ _=>rfl)) ae (aC _)))))) aO)
   (ag (au (fS (bJ eK (av aS (qv 1) ae (λ_ _=>rfl)) dc (aC _)) (fS (bJ (mL hr.u64) (qv 3) (fJ (v:=V.ref z_ZERO) rfl hg_ZERO rfl) (aC _)) (fk (bJ (qu hr.u64) (ah C_square_sum nofun rfl (aa (qv 0) (aa (av aS (qv 1) ae (λ_ _=>rfl)) (aa (av aS (qv 1) ae (λ_ _=>rfl)) ac)))) (fJ (v:=V.ref z_ZERO) rfl hg_ZERO rfl) (aC _))))))))))),?_⟩
  walk_at"m";skip
  rcases h with ⟨hp,h⟩|⟨l2,gs,hp,hl2,pg,lg',bg,h⟩
  .refine aP.gen λN1 hN1=>?_;symm
   refine⟨"tuple",by simp only[Dj,hp],dD ∅ ⟨2,by simp only[de,hp];rfl,?_⟩⟩
   refine⟨∅,λt1 H1 ht1 S1 h1=>⟨t1,_,rfl,.inr (dF h1),rfl,rfl,?_⟩⟩;have e:(if true=true then !Ag (V.int 2) [V.int 2,V.int 3] else Ag (V.int 2) [V.int 2,V.int 3])=false:=by decide +kernel
   rw[show ((2:Nat):Int)=2 from rfl,e]
   refine⟨false,rfl,dD ∅ (hN1 _ _ ?_)⟩;refine aP.gen λN2 hN2=>?_;symm
   simp only[qW];have e2:iE [V.str "below",V.ref l] (some 1) none=[V.ref l]:=rfl;refine⟨p,rfl,_,S1 _ _ hp,(λz=>absurd z.1 (show ¬ HT.sIx 2 0 (some 1)=0 by decide)),λp2 H2 hp2 S2 h2=>⟨p2,rfl,⟨_,dF h2⟩,?_⟩⟩
   rw[e2] at h2;have S02:=S1.trans S2;obtain⟨Pv,hPv⟩ : ∃Pv:Nat->St->Hp->Prop,∀i σ H',Pv i σ H' ↔ ∃o,σ=[some (.ref a),some (.ref p),o,none]/\aB (vw K H2) (vw K H')/\(1<=i->rK qs.length fs fs):=⟨_,λ_ _ _=>XD⟩;refine aX (its:=[.ref l]) Pv (λi σ H' _ q=>?_) ((hPv _ _ _).mpr ⟨_,rfl,.rfl,()⟩) (λi x σ H3 hi hx pv=>?_) (λσ H3 pv=>hN2 _ _ ?_)
   .obtain⟨_,_,S',_⟩:=(hPv _ _ _).mp q;exact ki (S' _ _ h2)
   .obtain⟨o,rfl,S3,_⟩:=(hPv _ _ _).mp pv;obtain rfl:i=0:=by simp at hi;nofun
    cases hx;have S03:=S02.trans S3;symm
    refine⟨_,_,rfl,(hl.same S03).rep,_,rfl,dD (by rw[mS pf];decide) ⟨_,S03 _ _ hp,_,cL,a,l,l,qs,fs,fs,rfl,ha.same S03,hl.same S03,hl.same S03,λt ht=>⟨_,rfl,cz (λe=>?_) (λe=>?_)⟩⟩⟩
    .refine h false H3 S03 ⟨λz=>(by cases z),λz=>?_⟩
     rw[e] at ht;cases ht.mpr z.1
    .exact (hPv _ _ _).mpr ⟨_,rfl,S3,λ_=>ht.mp (by simpa using e)⟩
   .obtain⟨o,rfl,S3,ft⟩:=(hPv _ _ _).mp pv;have fit:=ft (Yp _);have S03:=S02.trans S3;refine aP.gen λN3 hN3=>?_;symm
    refine⟨_,S03 _ _ hp,_,cL,_,S03 _ _ hp,_,cL,a,l,l,qs,fs,fs,rfl,ha.same S03,hl.same S03,hl.same S03,(),lf,lf,λq hq=>⟨(sq q hq).1,(sq q hq).2.1⟩,λq hq=>⟨pf.1 q hq,bf q hq⟩,λq hq=>⟨pf.1 q hq,bf q hq⟩,λus pu eu=>jo fit pu eu,λv4 H4 r4 S4 rr4 fr4 w4=>hN3 _ _ ?_⟩;have bits:fs.length+fs.length<=20\/fs.length+fs.length > 20:=();rw[rP (uT fs) (by
     rcases fit with z|z|z
     .rw[z];simp
     .rw[z];simp
     .nofun)] at w4
    have S04:=S03.trans S4;obtain⟨x4,rfl,hx4⟩:=rr4.fr_at;refine aP.gen λN4 hN4=>?_;symm
    refine⟨2,by simp only[de,S04 _ _ hp];rfl,gW rfl ⟨_,S04 _ _ hp,_,cS,rfl,gW rfl ⟨_,hx4,_,cS,_,rfl,?_⟩⟩⟩
    refine h _ H4 S04 ⟨λz=>⟨fit,?_⟩,λz=>YM ?_⟩
    .show ip _ _ _ _ _<0;rw[<-w4];exact (rW fr4).mp (XF z)
    .refine (rW fr4).mpr ?_;rw[w4];exact z.2
  .refine aP.gen λN1 hN1=>?_;symm
   refine⟨"tuple",by simp only[Dj,hp],dD ∅ ⟨3,by simp only[de,hp];rfl,?_⟩⟩
   refine⟨∅,λt1 H1 ht1 S1 h1=>⟨t1,_,rfl,.inr (dF h1),rfl,rfl,?_⟩⟩;have e:(if true=true then !Ag (V.int 3) [V.int 2,V.int 3] else Ag (V.int 3) [V.int 2,V.int 3])=false:=by decide +kernel
   rw[show ((3:Nat):Int)=3 from rfl,e]
   refine⟨false,rfl,dD ∅ (hN1 _ _ ?_)⟩;refine aP.gen λN2 hN2=>?_;symm
   simp only[qW];have e2:iE [V.str "nought",V.ref l,V.ref l2] (some 1) none=[V.ref l,V.ref l2]:=rfl;refine⟨p,rfl,_,S1 _ _ hp,(λz=>absurd z.1 (show ¬ HT.sIx 3 0 (some 1)=0 by decide)),λp2 H2 hp2 S2 h2=>⟨p2,rfl,⟨_,dF h2⟩,?_⟩⟩
   rw[e2] at h2;have S02:=S1.trans S2;obtain⟨Pv,hPv⟩ : ∃Pv:Nat->St->Hp->Prop,∀i σ H',Pv i σ H' ↔ ∃o,σ=[some (.ref a),some (.ref p),o,none]/\aB (vw K H2) (vw K H')/\(1<=i->rK qs.length fs fs)/\(2<=i->rK qs.length fs gs):=⟨_,λ_ _ _=>XD⟩;refine aX (its:=[.ref l,.ref l2]) Pv (λi σ H' _ q=>?_) ((hPv _ _ _).mpr ⟨_,rfl,.rfl,(),()⟩) (λi x σ H3 hi hx pv=>?_) (λσ H3 pv=>hN2 _ _ ?_)
   .obtain⟨_,_,S',_⟩:=(hPv _ _ _).mp q;exact ki (S' _ _ h2)
   .obtain⟨o,rfl,S3,f1,f2⟩:=(hPv _ _ _).mp pv;have S03:=S02.trans S3;have hi2:i=0\/i=1:=by simp at hi;nofun
    rcases hi2 with rfl|rfl
    .cases hx;symm
     refine⟨_,_,rfl,(hl.same S03).rep,_,rfl,dD (by rw[mS pf];decide) ⟨_,S03 _ _ hp,_,cL,a,l,l,qs,fs,fs,rfl,ha.same S03,hl.same S03,hl.same S03,λt ht=>⟨_,rfl,cz (λe=>?_) (λe=>?_)⟩⟩⟩
     .refine h false H3 S03 ⟨λz=>(by cases z),λz=>?_⟩
      rw[e] at ht;cases ht.mpr z.1
     .exact (hPv _ _ _).mpr ⟨_,rfl,S3,λ_=>ht.mp (by simpa using e),()⟩
    .cases hx;symm
     refine⟨_,_,rfl,(hl2.same S03).rep,_,rfl,dD (by rw[mS pg];decide) ⟨_,S03 _ _ hp,_,cL,a,l,l2,qs,fs,gs,rfl,ha.same S03,hl.same S03,hl2.same S03,λt ht=>⟨_,rfl,cz (λe=>?_) (λe=>?_)⟩⟩⟩
     .refine h false H3 S03 ⟨λz=>(by cases z),λz=>?_⟩
      rw[e] at ht;cases ht.mpr z.2.1
     .exact (hPv _ _ _).mpr ⟨_,rfl,S3,λ_=>f1 (Yp _),λ_=>ht.mp (by simpa using e)⟩
   .obtain⟨o,rfl,S3,ft1,ft2⟩:=(hPv _ _ _).mp pv;have fit:=ft1 (by simp)
    have fit2:=ft2 (by simp)
    have S03:=S02.trans S3;have sm:∀{us ws:List (Int×Int)},us.length<=11->ws.length<=11->rK qs.length us ws->us.length+ws.length<=20:=λh1 h2 z=>by
     rcases z with z|z|z
     .rw[z];simp;nofun
     .rw[z];simp;nofun
     .nofun
    refine aP.gen λN3 hN3=>?_;symm
    refine⟨_,S03 _ _ hp,_,cL,_,S03 _ _ hp,_,cL,a,l,l,qs,fs,fs,rfl,ha.same S03,hl.same S03,hl.same S03,(),lf,lf,λq hq=>⟨(sq q hq).1,(sq q hq).2.1⟩,λq hq=>⟨pf.1 q hq,bf q hq⟩,λq hq=>⟨pf.1 q hq,bf q hq⟩,λus pu eu=>jo fit pu eu,λv4 H4 r4 S4 rr4 fr4 w4=>hN3 _ _ ?_⟩;rw[rP (uT fs) (sm lf lf fit)] at w4;have S04:=S03.trans S4;refine aP.gen λN4 hN4=>?_;symm
    refine⟨3,by simp only[de,S04 _ _ hp];rfl,dD ∅ (hN4 _ _ ?_)⟩
    symm
    refine⟨_,S04 _ _ hp,_,cS,rfl,gW rfl ⟨_,rr4,_,bC (hv_ZERO _),dG _,dG _,?_⟩⟩;rw[jJ];refine cz (λe4=>?_) (λe4=>?_)
    .have z4:r4=(0,1):=XF e4;subst z4;rw[kA] at w4;refine⟨_,S04 _ _ hp,_,cL,_,S04 _ _ hp,_,BP,a,l,l2,qs,fs,gs,rfl,ha.same S04,hl.same S04,hl2.same S04,(),lf,lg',λq hq=>⟨(sq q hq).1,(sq q hq).2.1⟩,λq hq=>⟨pf.1 q hq,bf q hq⟩,λq hq=>⟨pg.1 q hq,bg q hq⟩,λus pu eu=>jo fit2 pu eu,λv5 H5 r5 S5 rr5 fr5 w5=>⟨_,rr5,_,bC (hv_ZERO _),dG _,dG _,?_⟩⟩;rw[rP (uT gs) (sm lf lg' fit2)] at w5;rw[jJ];refine h _ H5 (S04.trans S5) ⟨λz=>⟨fit,fit2,w4.symm,λy=>?_⟩,λz=>?_⟩
     .have y':wv r5=0:=by rw[w5];exact y
      have:r5=(0,1):=je fr5 kx (by rw[y',kA])
      rw[this] at z;exact absurd z ∅
     .have:r5≠(0,1):=λy=>z.2.2.2 (by show ip _ _ _ _ _=0;rw[<-w5,y,kA])
      simp[this]
    .refine h false H4 S04 ⟨λz=>(by cases z),λz=>?_⟩
     refine absurd (YM (je fr4 kx ?_)) e4;rw[w4,kA];exact z.2.2.1
structure DU (rs qs ws:List (Int×Int))(d:Nat):Prop where
 lr:rs.length=d+1
 d6:d<=6
 one:cf rs d=1
 po:aL rs
 br:Pb 11000 (cf rs)
 pw:aL ws
 lw:ws.length<=d
 bw:Pb 4400000 (cf ws)
 fw:GR rs qs ws
 orth:∀k,k+d<qs.length->aj (cf rs) (λj=>cf qs (k+j)) (d+1)=0
structure Kx (qs rs ws:List (Int×Int))(d:Nat):Prop where
 fo:DU rs qs ws d
 pos:Ad (cf qs) d
 two:2*d<=qs.length+1
def Km(G0:Hp)(qs:List (Int×Int))(W:Nat->Int)(B:Int)(M:Nat)(G:Hp)(v:V):Prop:=(ja W qs.length M/\X2 λ(p:Addr)(s:Str)=>v=.ref p/\Dm qs W B M G p s/\(s = "below" \/ s = "nought")/\Jj G0 G p)\/(¬ ja W qs.length M/\X6 λ(p r b w:Addr)(rs ws:List (Int×Int))=>v=.ref p/\G p=some (.tup [.str "flock",.ref r])/\G r=some (.tup [.ref b,.ref w])/\aF G b rs/\aF G w ws/\Kx qs rs ws (cI W M))
inductive ud (K:W.Frag)(vs:List V)(H:Hp)(Q:VK)(E:XK):Prop
 | mk (a:Addr)(qs:List (Int×Int))(W:Nat->Int)(B:Int)(M:Nat):vs=[.ref a]->aF (vw K H) a qs->1<=qs.length->qs.length<=11->eH qs->gS qs W B->fU W qs.length M->(∀v H',aB (vw K H) (vw K H')->Km (vw K H) qs W B M (vw K H') v->Q v H')->ud K vs H Q E
theorem DJ(F:dy K "back" "back" xc f fd) (T:dR K mg)(C_outlook:cp P w K mg base "outlook" ["sums"] 5 (iW K)) (C_is_bar:cp P w K mg base "is_bar" ["told"] 1 (kl K)) (C_flock_with:cp P w K mg base "flock_with" ["sums", "roots"] 6 (ij K)):aV P w K mg base dC 7 f fd ["sums"] (ud K):=by
 have scN:=yg.nd;refine F.okQ yg ?_ ?_;walk_at "q"
 .obtain⟨_,_,_,_,_,rfl,_⟩:=h;rfl
 .obtain⟨a,qs,W,B,M,rfl,ha,l1,l11,sq,cl,my,h⟩:=h;refine⟨_,(af (aE (i:=1) scN rfl (·) (ah C_outlook nofun rfl (aa (qv 0) ac)))
   (ag (au (uK (cQ (ah C_is_bar nofun rfl (aa (qv 1) ac))) (qv 1) (aT (aa dc (aa (ah C_flock_with nofun rfl (aa (qv 0) (aa (av aS (qv 1) ae (λ_ _=>rfl)) ac))) ac))))))),?_⟩
  walk_at"m";skip
  refine aP.gen λN1 hN1=>?_;symm
  refine⟨a,qs,rfl,ha,l1,l11,sq,λp H1 W' B' M' s S1 cl' my' o fr=>hN1 _ _ ?_⟩;obtain⟨eB,eW⟩:=cl.uniq cl' λq hq=>(sq q hq).1;subst eB eW;have eM:=my.uniq my';subst eM;have m1:=my.one;have m2:=my.most;obtain⟨l,ys,hp,h2,h3,h4,h5,h6⟩:=o.at_;symm
  by_cases nf:ja W qs.length M
  .have bs:s = "below" \/ s = "nought":=by
    rcases o.kind with ⟨_,z⟩|⟨_,_,z⟩|⟨d,n,_⟩|⟨d,_⟩
    .exact .inl z
    .exact .inr z
    .rcases nf with y|⟨_,y⟩
     .nofun
     .exact absurd n y
    .rcases nf with y|⟨y,_⟩<;>nofun
   refine⟨p,s,_,true,rfl,hp,.inr ⟨rfl,bs⟩,λH2 S2=>⟨true,rfl,gW rfl (h _ H2 (S1.trans S2) (.inl ⟨nf,p,s,rfl,o.same S2,bs,.of (S2 _ _ hp) (fr _ _ _ hp)⟩))⟩⟩
  .have ts:s = "tight" \/ s = "open":=by
    rcases o.kind with ⟨z,_⟩|⟨z,y,_⟩|⟨_,_,z⟩|⟨_,z⟩
    .exact absurd (.inl z) nf
    .exact absurd (.inr ⟨z,y⟩) nf
    .exact .inl z
    .exact .inr z
   obtain rfl:=h2 ts;obtain⟨rs,lrs,po,num,orth⟩ : ∃(rs:List (Int×Int)),aF (vw K H1) l rs/\aL rs/\(∀j,cf rs j=Pk W (cI W M) j) /\ ∀i,i+cI W M<qs.length->Lq W (cI W M) i=0:=by
    rcases o.kind with ⟨z,_⟩|⟨z,y,_⟩|⟨d0,ng,z⟩|⟨d,z⟩
    .exact absurd (.inl z) nf
    .exact absurd (.inr ⟨z,y⟩) nf
    .obtain⟨rs,a,b,c⟩:=h3 z;have ek:cI W M=M-1:=by unfold cI;rw[Yc ()]
     rw[ek];exact⟨rs,a,b,c,λi hi=>ng i ()⟩
    .obtain⟨rs,a,b,c⟩:=h4 z;have ek:cI W M=M:=by unfold cI;rw[Yb d]
     have nM:qs.length<=2*M:=by
      rcases my.all with y|y
      .exact y
      .nofun
     rw[ek];exact⟨rs,a,b,c,λi hi=>fV ()⟩
   have hD:∀i,i<=cI W M->0<Dk W i:=λi hi=>by
    by_cases e:i<M
    .exact my.up i e
    .have e2:i=cI W M:=by
      unfold cI at hi ⊢;split at hi<;>split<;>nofun
     rw[e2];exact oS my
   have kM:cI W M<=M:=by unfold cI;split<;>nofun
   obtain⟨k,hk⟩ : ∃k,k=cI W M:=⟨_,rfl⟩;rw[<-hk] at num orth hD kM;have dk:=hD k (Yp _);have dn:Dk W k≠0:=();have lr:=km po dn num;have k6:k<=6:=();have ec:cf rs=Pk W k:=funext num;have pb:Pb 11000 (cf rs):=(Ap dn k6 cl.bt).congr num;refine⟨p,s,_,false,rfl,hp,.inl ⟨rfl,ts⟩,λH2 S2=>⟨false,rfl,dD ∅ ?_⟩⟩;refine⟨_,S2 _ _ hp,_,cL,?_⟩;refine⟨a,l,qs,rs,rfl,ha.same (S1.trans S2),lrs.same S2,l11,sq,λz=>by rw[z] at lr;simp at lr,(),(),po,pb,λ_=>by rw[ec];exact Ck cl.pos cl.val k6 hD,λp3 w3 H3 ws S3 h3 l3 _ pw lw bw fw=>⟨∅,λp4 H4 hp4 S4 h4=>h _ H4 (S1.trans (S2.trans (S3.trans S4))) (.inr ⟨nf,p4,p3,l,w3,rs,ws,rfl,h4,S4 _ _ h3,(lrs.same S2).same (S3.trans S4),l3.same S4,?_⟩)⟩⟩
   rw[<-hk];refine⟨⟨lr,k6,by rw[ec,gp dn],po,pb,pw,(),bw,fw,λi hi=>?_⟩,vY cl.pos cl.val hD,()⟩
   rw[ec,dX (P:=Pk W k) dn (show B≠0 by have:=cl.pos;nofun) (λj=>rfl) cl.val i,orth i hi]
   have c0:((0:Int):Rat)=0:=rfl;rw[c0];grind
inductive mV (K:W.Frag)(vs:List V)(H:Hp)(Q:VK)(E:XK):Prop
 | mk (a b:Addr)(us rs:List (Int×Int))(d n:Nat)(D:Int):vs=[.ref a,.ref b,.int n]->aF (vw K H) a us->aF (vw K H) b rs->rs.length=d+1->d<=6->n<=20->us.length<=40->(∀q∈us,Fq q)->(∀q∈rs,Fq q)->D≠0->Bt 11000 D->Ob D 11003 (cf us)->Ob D 11000 (cf rs)->(∀(c:Addr) H' ts,aB (vw K H) (vw K H')->vw K H c=none->aF (vw K H') c ts->ts.length=n->(∀q∈ts,Fq q)->(∀k,k<n -> ∃z:Int,cf ts k=(z:Rat)/((D^(k+1):Int):Rat)/\Bt (11020*(k+1)) z)->(∀k,k<n->g6 (cf us) (cf rs) d (cf ts) k)->Q (.ref c) H')->mV K vs H Q E
theorem zE(F:dy K "_law_falling" "_law_falling" mO f fd) (T:dR K mg)(zCminus:cp P w K mg base "_law_minus" ["_law_one", "_law_other"] 3 (tX K)) (zCtimes:cp P w K mg base "_law_times" ["_law_one", "_law_other"] 3 (ee K)):aV P w K mg base dC 4 f fd ["_law_upper", "_law_under", "_law_many"] (mV K):=by
 have scN:=rO.nd;refine F.okQ rO ?_ ?_;walk_at "q"
 .obtain⟨_,_,_,_,_,_,_,rfl,_⟩:=h;rfl
 .obtain⟨a,b,us,rs,d,n,D,rfl,ha,hb,lr,d6,n20,lu,fu,fr',D0,bD,oU,oR,h⟩:=h;refine⟨_,(af (aE (i:=3) scN rfl (·) (ar bN (ai ao (by rfl) T.b_len aD (aa (qv 1) ac)) ae))
   (af (aE (i:=4) scN rfl (·) (aU ac))
   (af (cC PassesOwn.never rfl (cO rfl T.b_range (aa (qv 2) ac)) (aq (i:=5) scN rfl (·)) (af (aE (i:=6) scN rfl (·) (aT (aa ae (aa ae ac))))
   (af (b9 (u9 ur jw ae (ar bN (ar bN (qv 3) ae) (qv 5)) (ai ao (by rfl) T.b_len aD (aa (qv 0) ac)) (yZ _ _)) (ag (aE (i:=6) scN rfl (·) (av cT (qv 0) (ar bN (ar bN (qv 3) ae) (qv 5)) (λ_ _=>rfl)))) aO)
   (af (cC PassesOwn.never rfl (mE rfl T.b_range (aa ae (aa (ar aW (ai (qY rfl) (by rfl) T.b_min BB (aa (qv 5) (aa (qv 3) ac))) ae) ac))) (aq (i:=7) scN rfl (·)) (ag (aE (i:=6) scN rfl (·) (ah zCminus nofun rfl (aa (qv 6) (aa (ah zCtimes nofun rfl (aa (av cT (qv 1) (ar bN (qv 3) (qv 7)) (λ_ _=>rfl)) (aa (av cT (qv 4) (ar bN (qv 5) (qv 7)) (λ_ _=>rfl)) ac))) ac))))))
   (ag (iT (oN XG XJ XM fe (qv 4) (aa (qv 6) ac))))))))
   (ag (au (qv 4)))))),?_⟩
  walk_at"m";skip
  refine aP.gen λN1 hN1=>?_;symm
  refine⟨_,hb.len,hN1 _ _ ?_⟩;rw[show ((rs.length:Nat):Int)-1=(d:Int) by nofun]
  refine aP.gen λN2 hN2=>?_;symm
  refine⟨∅,λc1 H1 hc1 S1 h1=>hN2 _ _ ?_⟩;refine aP.gen λN3 hN3=>?_;symm
  obtain⟨us',hus,rus⟩:=id ha;obtain⟨rs',hrs,rrs⟩:=id hb;have lus:us'.length=us.length:=by rw[rus.length,YC]
  have lrs:rs'.length=rs.length:=by rw[rrs.length,YC]
  obtain⟨Pv,hPv⟩ : ∃Pv:Nat->St->Hp->Prop,∀k σ H',Pv k σ H'↔X4 λ(ts:List (Int×Int))(o5 o6 o7:Option V)=>σ=[some (.ref a),some (.ref b),some (.int n),some (.int d),some (.ref c1),o5,o6,o7]/\aB (vw K H) (vw K H')/\aF (vw K H') c1 ts/\ts.length=k/\(∀q∈ts,Fq q)/\(∀k,k<ts.length -> ∃z:Int,cf ts k=(z:Rat)/((D^(k+1):Int):Rat)/\Bt (11020*(k+1)) z) /\ ∀k,k<ts.length->g6 (cf us) (cf rs) d (cf ts) k:=⟨_,λ_ _ _=>XD⟩;refine⟨(),(),aX (its:=fT 0 _) Pv (λ_ _ _ _ _=>bH) ((hPv _ _ _).mpr ⟨[],_,_,_,rfl,S1,⟨[],h1,.mk_nil⟩,rfl,by simp,by simp,by simp⟩) (λk x σ H2 hk hx pv=>?_) (λσ H2 pv=>?_)⟩
  .obtain⟨ts,o5,o6,o7,rfl,S2,lt,lts,ft,bt,rt⟩:=(hPv _ _ _).mp pv;obtain⟨hk',rfl⟩:=dg hx;refine aP.gen λN4 hN4=>?_;symm
   refine⟨∅,λp3 H3 hp3 S3 h3=>hN4 _ _ ?_⟩;rw[XH];obtain⟨P,hP⟩ : ∃P:Int,P=D^(k+1):=⟨_,rfl⟩;have P0:P≠0:=by rw[hP];exact Xx D0
   have cP:=am P0;refine aP.gen λN5 hN5=>?_;have key:∀(v:V)(H4:Hp)(r:Int×Int)(o7:Option V),aB (vw K H3) (vw K H4)->aI (vw K H4) (fr r) v->Fq r->wv r=(if k<d then cf us (d-1-k) else 0)->N5 [some (.ref a),some (.ref b),some (.int n),some (.int d),some (.ref c1),some (.int k),some v,o7] H4:=by
    intro v H4 r o7 S4 rv fr0 wv0;refine hN5 _ _ ?_;refine aP.gen λN6 hN6=>?_;symm
    obtain⟨Pi,hPi⟩ : ∃Pi:Nat->St->Hp->Prop,∀j σ H',Pi j σ H'↔X3 λ(v:V)(r:Int×Int)(o7:Option V)=>σ=[some (.ref a),some (.ref b),some (.int n),some (.int d),some (.ref c1),some (.int k),some v,o7]/\aB (vw K H4) (vw K H')/\aI (vw K H') (fr r) v/\Fq r/\wv r=(if k<d then cf us (d-1-k) else 0)-aj (λb=>cf rs (d-1-b)) (λb=>cf ts (k-1-b)) j /\ ∃z:Int,wv r=(z:Rat)/(P:Rat)/\z.natAbs*1024<=2^(11020*(k+1))*(1+j):=⟨_,λ_ _ _=>XD⟩
    have S34:=S2.trans (S3.trans S4);have lt4:=lt.same (S3.trans S4);obtain⟨mn,hmn⟩ : ∃mn,mn=min k d:=⟨_,rfl⟩;have emn:((if (d:Int)<(k:Int) then (d:Int) else (k:Int))+1-1).toNat=mn:=by split<;>nofun
    rw[emn];obtain⟨zs',hzs,rzs⟩:=id lt4;have big:(1:Nat)<=2^(11020*(k+1)):=Nat.one_le_two_pow;have c0:((0:Int):Rat)=0:=rfl;have start:∃z:Int,wv r=(z:Rat)/(P:Rat)/\z.natAbs*1024<=2^(11020*(k+1))*(1+0):=by
     rw[wv0];split
     .obtain⟨m,em,bm⟩:=oU (d-1-k);have bD':=bD.pow1 k;refine⟨m*D^k,?_,?_⟩
      .have c:=am D0;have ck:=am (show D^k≠0 from Xx D0)
       rw[em,hP,Xw,Xa,Xa];grind
      .have q:=bm.mul bD';unfold Bt at q;have e:2^(11020*(k+1))=2^(11003+(11000*k+1))*2^(20*k+16):=by rw[<-YW];congr 1;nofun
       have e2:1024<=2^(20*k+16):=Yg (show 1024<=2^16 by decide) (YU ∅ ())
       rw[Nat.mul_one,e];exact Xl (Yh q) e2
     .exact⟨0,by rw[c0];grind,by simp⟩
    refine⟨∅,∅,by split<;>nofun,by split<;>nofun,aX (its:=fT 1 mn) Pi (λ_ _ _ _ _=>bH) ((hPi _ _ _).mpr ⟨v,r,_,rfl,.rfl,rv,fr0,by show _=_-0;grind,start⟩) (λj x σ H5 hj hx pj=>?_) (λσ H5 pj=>?_)⟩
    .obtain⟨v,r,o7,rfl,S5,rv,fr0,wv0,z,ez,bz⟩:=(hPi _ _ _).mp pj;obtain⟨hj',rfl⟩:=dg hx;have S05:=S34.trans S5;have jd:j+1<=d:=();have jk:j+1<=k:=();have h1:d-1-j<rs.length:=KP ();have h2:k-1-j<ts.length:=KN () jk;obtain⟨v1,e1,r1⟩:=rrs.at (i:=d-1-j) (d:=fr rs[d-1-j]) (by rw[Yz,YO h1];rfl)
     obtain⟨v2,e2,r2⟩:=rzs.at (i:=k-1-j) (d:=fr ts[k-1-j]) (by rw[Yz,YO h2];rfl)
     have f1:=fr' _ (YN h1);have f2:=ft _ (YN h2);have w1:wv rs[d-1-j]=cf rs (d-1-j):=(aG (YO h1)).symm;have w2:wv ts[k-1-j]=cf ts (k-1-j):=(aG (YO h2)).symm;obtain⟨n1,en1,bn1⟩:=oR (d-1-j);obtain⟨z2,ez2,bz2⟩:=bt (k-1-j) h2;generalize hq1:rs[d-1-j]=q1 at r1 f1 w1;generalize hq2:ts[k-1-j]=q2 at r2 f2 w2;have bq1:Bq 11000 q1:=jx f1 (w1.trans en1) D0 bn1 bD;have bq2:Bq 220500 q2:=jx f2 (w2.trans ez2) (Xx D0) (bz2.mono ()) ((bD.pow1 _).mono ());have bzB:Bt (11020*(k+1)) z:=by
      unfold Bt;have:=Xs (2^(11020*(k+1))) (KJ jd d6);nofun
     have bqr:Bq 221000 r:=jx fr0 ez P0 (bzB.mono ()) (by rw[hP];exact (bD.pow1 _).mono ())
     symm
     refine⟨rs',S05 _ _ hrs,v1,by rw[Kw jd];exact ce e1,zs',S5 _ _ hzs,v2,by rw[Kw jk];exact ce e2,?_⟩
     simp only[ee];refine⟨v1,v2,q1,q2,rfl,aI.same S05 _ _ r1,aI.same S5 _ _ r2,f1.ne,f2.ne,bq1.mono ∅,bq2.mono ∅,(bq1.2.mul bq2.2).mono ∅,λv6 H6 S6 r6=>?_⟩;have f6:=jf f1 f2;have w6:=kO f1.ne f2.ne;have b6:Bq 231500 (mW q1 q2):=(lM f1 f2 bq1 bq2).mono ∅;generalize mW q1 q2=q6 at r6 f6 w6 b6;refine⟨v,v6,r,q6,rfl,aI.same S6 _ _ rv,r6,fr0.ne,f6.ne,bqr.mono ∅,b6.mono ∅,(bqr.2.mul b6.2).mono ∅,λv7 H7 S7 r7=>?_⟩;have ev:wv (wz r q6)=wv r-wv q1*wv q2:=by rw[CP fr0.ne f6.ne,w6]
     refine (hPi _ _ _).mpr ⟨v7,wz r q6,_,rfl,S5.trans (S6.trans S7),r7,xP fr0 f6,?_,z-n1*z2*D^j,?_,?_⟩
     .rw[ev,wv0,w1,w2];show _=_-(aj (λb=>cf rs (d-1-b)) (λb=>cf ts (k-1-b)) j+cf rs (d-1-j)*cf ts (k-1-j));grind
     .have c:=am D0;have ca:=am (show D^(k-1-j+1)≠0 from Xx D0)
      have cb:=am (show D^j≠0 from Xx D0)
      have eP:(P:Rat)=(D:Rat)*((D^(k-1-j+1):Int):Rat)*((D^j:Int):Rat):=by
       rw[hP,<-Xa,<-Xa];congr 1
       rw[KL jk,Int.pow_add,Int.pow_add,Int.pow_one]
      rw[ev,ez,w1,w2,en1,ez2,Rat.intCast_sub,Xa,Xa,eP];generalize ((D^(k-1-j+1):Int):Rat)=x1 at ca ⊢;generalize ((D^j:Int):Rat)=x2 at cb ⊢;grind
     .have q:=(bn1.mul bz2).mul (bD.pow1 j);unfold Bt at q;have e:2^(11020*(k+1))=2^(11000+11020*(k-1-j+1)+(11000*j+1))*2^(19+20*j):=by rw[<-YW];exact Yn _ (KR jk)
      have e2:1024<=2^(19+20*j):=Yg (show 1024<=2^19 by decide) (YU ∅ ())
      have e3:(n1*z2*D^j).natAbs*1024<=2^(11020*(k+1)):=by
       rw[e];exact Xl (Yh q) e2
      have e4:=Int.natAbs_sub_le z (n1*z2*D^j);have e5:2^(11020*(k+1))*(1+(j+1))=2^(11020*(k+1))*(1+j)+2^(11020*(k+1)):=by rw[<-Xt,Nat.mul_succ]
      nofun
    .obtain⟨v,r,o7,rfl,S5,rv,fr0,wv0,z,ez,bz⟩:=(hPi _ _ _).mp pj;rw[cH] at wv0 bz;have bzB:Bt (11020*(k+1)) z:=by
      unfold Bt;have:=Xs (2^(11020*(k+1))) (show 1+mn<=7 by nofun)
      nofun
     refine hN6 _ _ ?_;symm
     have lt5:=lt4.same S5;obtain⟨ys,hys,rys⟩:=id lt5;have lys:ys.length=ts.length:=by rw[rys.length,YC]
     have S15:=S3.trans (S4.trans S5);have low:∀i,i<ts.length->cf (ts++[r]) i=cf ts i:=λi hi=>by rw[gX,Yc ()]
     have top:cf (ts++[r]) k=wv r:=by rw[gX,Yb ()]
     refine⟨jG hys,ys,hys,?_,λH6 B6 h6=>(hPv _ _ _).mpr ⟨ts++[r],_,_,_,rfl,λx o e=>B6 _ _ (ap e hc1) ((S34.trans S5) _ _ e),⟨_,h6,?_⟩,by rw[YB,lts];rfl,λq hq=>?_,λi hi=>?_,λi hi=>?_⟩⟩
     .have:1000<=sizeLine:=∅;nofun
     .rw[XE];exact (aN.flat_but hys B6 _ _ (dW _) rys).snoc (aI.flat_but hys B6 _ _ (cE _) rv)
     .rcases List.mem_append.mp hq with y|y
      .exact ft q y
      .rw[List.mem_singleton.mp y];exact fr0
     .rw[YB,YJ] at hi;rcases Xp i ts.length with y|y
      .rw[low i y];exact bt i y
      .obtain rfl:i=k:=();rw[top,<-hP];exact⟨z,ez,bzB⟩
     .rw[YB,YJ] at hi;rcases Xp i ts.length with y|y
      .have:=rt i y;unfold g6 at this ⊢;rw[low i y,this];congr 1
       exact aA _ (λ_ _=>rfl) (λb hb=>(low _ (Xr (Yg (Nat.sub_le _ _) (Nat.sub_le _ _)) y)).symm)
      .obtain rfl:i=k:=();unfold g6;rw[top,wv0,hmn];congr 1
       exact aA _ (λ_ _=>rfl) (λb hb=>(low _ ()).symm)
   symm
   simp only[t8];symm
   have zero:¬ (k<d/\d-1-k<us.length)->N5 [some (.ref a),some (.ref b),some (.int n),some (.int d),some (.ref c1),some (.int k),some (.ref p3),o7] H3:=λhn=>key (.ref p3) H3 (0,1) o7 .rfl (bC h3) kx (by
    have z:wv (0,1)=0:=by decide +kernel
    rw[z];split
    .rw[aK ()]
    .rfl)
   refine cz (λh0=>⟨_,(ha.same (S2.trans S3)).len,cz (λh1=>?_) (λh1=>zero ())⟩) (λh0=>zero ());have hkd:k<d:=();have hi:d-1-k<us.length:=();obtain⟨v,ev,rv⟩:=rus.at (i:=d-1-k) (d:=fr us[d-1-k]) (by rw[Yz,YO hi];rfl)
   refine⟨us',(S2.trans S3) _ _ hus,v,by rw[show (d:Int)-1-(k:Int)=((d-1-k:Nat):Int) by nofun];exact ce ev,key v H3 _ o7 .rfl (aI.same (S2.trans S3) _ _ rv) (fu _ (YN hi)) (by rw[Yb hkd,aG (YO hi)])⟩
  .obtain⟨ts,o5,o6,o7,rfl,S2,lt,lts,ft,bt,rt⟩:=(hPv _ _ _).mp pv;refine hN3 _ _ ?_;symm
   rw[cH] at lts;have e:ts.length=n:=();exact h c1 H2 ts S2 hc1 lt e ft (λk hk=>bt k ()) (λk hk=>rt k ())
def lO(K:W.Frag):Sp:=λvs H Q _=>∃(a b:Addr)(es qs fs:List (Int×Int))(A B:Nat),vs=[.ref a,.ref b]/\aF (vw K H) a es/\(∃ext,es=qs++ext)/\aF (vw K H) b fs/\fs.length<=qs.length/\qs.length<=12/\(∀q∈qs,Fq q)/\(∀q∈fs,Fq q)/\Pb A (cf qs)/\Pb B (cf fs)/\A+B<=4900000 /\
 ∀v H' r,aB (vw K H) (vw K H')->aI (vw K H') (fr r) v->Fq r->wv r=aj (cf fs) (cf qs) fs.length->Q v H'
theorem Dx(F:dy K "_law_worth" "_law_worth" uc f fd) (T:dR K mg)(zCplus:cp P w K mg base "_law_plus" ["_law_one", "_law_other"] 3 (gJ K)) (zCtimes:cp P w K mg base "_law_times" ["_law_one", "_law_other"] 3 (ee K)):aV P w K mg base dC 4 f fd ["_law_sums", "_law_f"] (lO K):=by
 have scN:=yM.nd;refine F.okQ yM ?_ ?_;walk_at "q"
 .obtain⟨a,_,_,_,_,_,_,rfl,_⟩:=h;rfl
 .obtain⟨a,b,es,qs,fs,A1,B1,rfl,ha,⟨ext,hex⟩,hb,lf,lq,hq,hf,⟨D1,d1,d2,d3⟩,⟨E1,e1',e2',e3'⟩,ab,h⟩:=h;have bq:=Ob.bq d3 d1 d2 hq;have bf:=Ob.bq e3' e1' e2' hf;have hX:=Y8 e1' d1;have bX:=e2'.mul d2;refine⟨_,(af (aE (i:=2) scN rfl (·) (aT (aa ae (aa ae ac))))
   (af (cC PassesOwn.never rfl (cO rfl T.b_range (aa (ai ao (by rfl) T.b_len aD (aa (qv 1) ac)) ac)) (aq (i:=3) scN rfl (·)) (ag (aE (i:=2) scN rfl (·) (ah zCplus nofun rfl (aa (qv 2) (aa (ah zCtimes nofun rfl (aa (av cT (qv 1) (qv 3) (λ_ _=>rfl)) (aa (av cT (qv 0) (qv 3) (λ_ _=>rfl)) ac))) ac))))))
   (ag (au (qv 2))))),?_⟩
  walk_at"m";symm
  obtain⟨xs,hxs,rxs⟩:=id ha;obtain⟨ys,hys,rys⟩:=id hb;refine⟨∅,λp0 H0 hp0 S0 h0=>⟨_,(hb.same S0).len,(),(),?_⟩⟩;obtain⟨Pv,hPv⟩ : ∃Pv:Nat->St->Hp->Prop,∀j σ H',Pv j σ H'↔X3 λ(v:V)(q:Int×Int)(u:Option V)=>σ=[some (.ref a),some (.ref b),some v,u]/\aB (vw K H0) (vw K H')/\aI (vw K H') (fr q) v/\Fq q/\wv q=aj (cf fs) (cf qs) j:=⟨_,λ_ _ _=>XD⟩;refine aX (its:=fT 0 fs.length) Pv (λ_ _ _ _ _=>bH) ((hPv _ _ _).mpr ⟨_,(0,1),_,rfl,.rfl,bC h0,⟨∅,∅⟩,kA⟩) (λj x σ H2 hj hx pv=>?_) (λσ H2 pv=>?_)
  .obtain⟨v,q,u,rfl,S2,r2,f2,w2⟩:=(hPv _ _ _).mp pv;obtain⟨hj',rfl⟩:=dg hx;have hjq:j<qs.length:=();obtain⟨vi,e1,ri⟩:=rys.at (i:=j) (d:=fr fs[j]) (by rw[Yz,YO hj'];rfl)
   obtain⟨xi,e2,rxi⟩:=rxs.at (i:=j) (d:=fr qs[j]) (by rw[Yz,hex,Yy hjq,YO hjq];rfl)
   have k1:=hf _ (YN hj');have k2:=bf _ (YN hj');have k3:=hq _ (YN hjq);have k4:=bq _ (YN hjq);have b2:Bq (A1+B1+12) q:=by
    obtain⟨m,em,bm⟩:=sf e1' d1 e3' d3 j;exact jx f2 (n:=m) (by rw[w2,em]) hX (bm.mono ()) (bX.mono ())
   have S02:=S0.trans S2;symm
   simp only[ee,gJ];symm
   refine⟨_,S02 _ _ hys,vi,by rw[XH];exact ce e1,_,S02 _ _ hxs,xi,by rw[XH];exact ce e2,?_⟩
   refine⟨_,aI.same S02 _ _ ri,_,aI.same S02 _ _ rxi,k1.ne,k3.ne,k2.mono (),k4.mono (),(k2.2.mul k4.2).mono (),λv3 H3 S3 r3=>?_⟩;have f3:=jf k1 k3;have b3:=lM k1 k3 k2 k4;refine⟨_,aI.same S3 _ _ r2,_,r3,f2.ne,f3.ne,b2.mono (),b3.mono (),(b2.2.mul b3.2).mono (),λv4 H4 S4 r4=>(hPv _ _ _).mpr ⟨_,_,_,rfl,S2.trans (S3.trans S4),r4,lH f2 f3,?_⟩⟩;rw[pE f2.ne f3.ne,kO k1.ne k3.ne,w2];show _=aj (cf fs) (cf qs) j+cf fs j*cf qs j;rw[aG (YO hj'),aG (YO hjq)]
  .obtain⟨v,q,u,rfl,S2,r2,f2,w2⟩:=(hPv _ _ _).mp pv;rw[cH] at w2;symm
   exact h v H2 q (S0.trans S2) r2 f2 w2
inductive sj (K:W.Frag)(vs:List V)(H:Hp)(Q:VK)(E:XK):Prop
 | mk (a:Addr)(fs:List (Int×Int)):vs=[.ref a]->aF (vw K H) a fs->fs.length<=40->(∀q∈fs,Fq q/\Bq 12000 q)->(∀d H' (rs:List (Int×Int)),aB (vw K H) (vw K H')->aF (vw K H') d rs->vw K H d=none->aL rs->(∀k,cf rs k=((k+1:Nat):Int)*cf fs (k+1))->rs.length<=fs.length->Q (.ref d) H')->sj K vs H Q E
theorem Dn(F:dy K "_law_slope" "_law_slope" sD f fd) (T:dR K mg)(zCclean:cp P w K mg base "_law_clean" ["_law_numbers"] 1 (iU K)) (zCtimes:cp P w K mg base "_law_times" ["_law_one", "_law_other"] 3 (ee K)):aV P w K mg base dC 4 f fd ["_law_f"] (sj K):=by
 have scN:=ym.nd;refine F.okQ ym ?_ ?_;walk_at "q"
 .obtain⟨a,_,rfl,_⟩:=h;rfl
 .obtain⟨a,fs,rfl,ha,lf,hf,h⟩:=h;refine⟨_,(ag (au (ah zCclean nofun rfl (aa (dH (own:=["_law_place"]) (outs:=["_law_f"]) (ixs:=[0]) rfl (mE rfl T.b_range (aa ae (aa (ai ao (by rfl) T.b_len aD (aa (qv 0) ac)) ac))) rfl ⟨rfl,rfl,rfl,⟨rfl,trivial⟩,rfl,⟨⟨rfl,rfl,rfl,_,rfl⟩,trivial⟩⟩ (λ_ _ _ _=>⟨(aq (i:=0) (show (["_law_place", "_law_f"]:List Str).Nodup by decide +kernel) rfl (·)),dJ,(ah zCtimes nofun rfl (aa (av (show yu _ (wp K) from cT) (qv 1) (qv 0) (λ_ _=>rfl)) (aa (show QE _ _ (vx K _) from aT (aa (qv 0) (aa ae ac))) ac)))⟩)) ac)))),?_⟩
  walk_at"m";symm
  obtain⟨xs,hxs,rxs⟩:=id ha;have hlx:xs.length=fs.length:=by rw[rxs.length,YC]
  refine⟨_,ha.len,(),(),(),(),λd H1 hd S1 h1=>?_⟩;rw[show ((fs.length:Int)-1).toNat=fs.length-1 by nofun]
  have f1:∀k:Nat,Fq (((k:Nat):Int),1):=λk=>⟨Int.one_pos,by simp⟩
  refine cn (its:=fT 1 (fs.length-1)) (λi zs H'=>aB (vw K H) (vw K H') /\ ∃vs:List (Int×Int),vs.length=i/\aN (vw K H') (vs.map fr) zs/\(∀q∈vs,Fq q) /\ ∀(j:Nat)(q:Int×Int),vs[j]? = some q->wv q=((j+1:Nat):Int)*cf fs (j+1))
   (λ_ _ _ _ _ _=>bH) h1 ⟨S1,[],rfl,.mk_nil,by simp,by simp⟩ (λi x zs H2 hi hx h2 p=>?_) (λzs H2 h2 p=>?_)
  .obtain⟨S2,vs,lv,rv,fv,hv⟩:=p;obtain⟨hi',rfl⟩:=dg hx;rw[show (1:Int)+(i:Int)=((i+1:Nat):Int) by nofun]
   have hi2:i+1<fs.length:=();obtain⟨x2,e2,r2⟩:=rxs.at (i:=i+1) (d:=fr fs[i+1]) (by rw[Yz,YO hi2];rfl)
   obtain⟨k1,k2⟩:=hf fs[i+1] (YN hi2);have bi:Bq 10 (((i+1:Nat):Int),1):=by
    refine⟨?_,(by decide:Bt 10 1)⟩
    show (((i+1:Nat):Int)).natAbs<2^10;nofun
   symm
   refine⟨xs,S2 _ _ hxs,x2,ce e2,∅,λp3 H3 hp3 S3 h3=>?_⟩;simp only[ee];symm
   refine⟨_,aI.same (S2.trans S3) _ _ r2,_,bC h3,k1.ne,(f1 (i+1)).ne,k2.mono ∅,bi.mono ∅,(k2.2.mul bi.2).mono ∅,λv4 H4 S4 r4=>.mk ((S3.trans S4) _ _ h2) ?_ λH5 B5 h5=>⟨λb o e=>B5 _ _ (ap e hd) (S4 _ _ (S3 _ _ (S2 _ _ e))),vs++[mW fs[i+1] (((i+1:Nat):Int),1)],by simp[lv],?_,λq hq=>?_,λj q e=>?_⟩⟩
   .rw[rv.length,YC,lv];have:1000<=sizeLine:=∅;nofun
   .rw[XE];exact (aN.flat_but ((S3.trans S4) _ _ h2) B5 _ _ (dW vs) (rv.same (S3.trans S4))).snoc (aI.flat_but ((S3.trans S4) _ _ h2) B5 _ _ (cE _) r4)
   .rcases List.mem_append.mp hq with z|z
    .exact fv q z
    .cases List.mem_singleton.mp z;exact jf k1 (f1 (i+1))
   .by_cases hj:j<vs.length
    .rw[Yy hj] at e;exact hv j q e
    .have hj2:j=i:=by
      have:=(List.getElem?_eq_some_iff.mp e).1;simp at this;nofun
     subst hj2;rw[Yw (),lv,XB] at e;cases e;rw[kO k1.ne (f1 (j+1)).ne,aG (YO hi2)];have e1:wv (((j+1:Nat):Int),1)=((j+1:Nat):Int):=by
      show (((j+1:Nat):Int):Rat)/((1:Int):Rat)=_;have:((1:Int):Rat)=1:=rfl;rw[this];grind
     rw[e1];grind
  .obtain⟨S2,vs,lv,rv,fv,hv⟩:=p;rw[cH] at lv;symm
   simp only[iU];symm
   refine⟨vs,⟨zs,h2,rv⟩,λe H7 n' hn' hz hd' hnd S7 l7=>h e H7 (vs.take n') (S2.trans S7) l7 (S2.none hnd) (oQ fv hz) (λk=>?_) (by rw[Yu];nofun)⟩
   rw[j7 fv hd' k];by_cases hk:k<vs.length
   .rw[aG (YO hk)];exact hv k _ (YO hk)
   .rw[aK (),aK (qs:=fs) ()];grind
inductive gC (K:W.Frag)(vs:List V)(H:Hp)(Q:VK)(E:XK):Prop
 | mk (p b w:Addr)(rs qs ws:List (Int×Int))(d n:Nat):vs=[.ref p,.int n]->vw K H p=some (.tup [.ref b,.ref w])->aF (vw K H) b rs->aF (vw K H) w ws->DU rs qs ws d->n<=12->(∀(c:Addr) H' ts,aB (vw K H) (vw K H')->vw K H c=none->aF (vw K H') c ts->ts.length=n->(∀q∈ts,Fq q)->(∀k,k<n->k<qs.length->cf ts k=cf qs k)->(∀k,k+d<n->aj (cf rs) (λj=>cf ts (k+j)) (d+1)=0)->Q (.ref c) H')->gC K vs H Q E
theorem sR(F:dy K "_law_flock_sums" "_law_flock_sums" jg f fd) (T:dR K mg)(zCfalling:cp P w K mg base "_law_falling" ["_law_upper", "_law_under", "_law_many"] 4 (mV K)) (zCslope:cp P w K mg base "_law_slope" ["_law_f"] 4 (sj K)) (zCworth:cp P w K mg base "_law_worth" ["_law_sums", "_law_f"] 4 (lO K)):aV P w K mg base dC 5 f fd ["_law_flock", "_law_many"] (gC K):=by
 have scN:=lP.nd;refine F.okQ lP ?_ ?_;walk_at "q"
 .obtain⟨_,_,_,_,_,_,_,_,rfl,_⟩:=h;rfl
 .obtain⟨p,b,w',rs,qs,ws,d,n,rfl,hp,hb,hw,fo,n12,h⟩:=h;obtain⟨lr,d6,one,po,br,pw,lw,bw,fw,orth⟩:=id fo;refine⟨_,(af (cW (qv 0) (bO (n:=2) rfl (ay (aq (i:=2) scN rfl (·)) (ay (aq (i:=3) scN rfl (·)) bQ))))
   (af (aE (i:=4) scN rfl (·) (ah zCfalling nofun rfl (aa (ah zCslope nofun rfl (aa (qv 2) ac)) (aa (qv 2) (aa (ar aW (qv 1) (ai ao (by rfl) T.b_len aD (aa (qv 3) ac))) ac)))))
   (ag (au (dH (own:=["_law_k"]) (outs:=["_law_weights", "_law_powers"]) (ixs:=[3,4]) rfl (cO rfl T.b_range (aa (qv 1) ac)) rfl ⟨rfl,rfl,rfl,⟨rfl,⟨rfl,trivial⟩⟩,rfl,⟨⟨rfl,rfl,rfl,_,rfl⟩,⟨⟨rfl,rfl,rfl,_,rfl⟩,trivial⟩⟩⟩ (λ_ _ _ _=>⟨(aq (i:=0) (show (["_law_k", "_law_weights", "_law_powers"]:List Str).Nodup by decide +kernel) rfl (·)),dJ,(ah zCworth nofun rfl (aa (cZ (show xW _ (D5 K) from eJ) (qv 2) (dU (qv 0)) dS) (aa (qv 1) ac)))⟩)))))),?_⟩
  walk_at"m";skip
  refine aP.gen λN1 hN1=>?_;symm
  refine⟨_,hp,rfl,_,_,rfl,_,_,rfl,rfl,hN1 _ _ ?_⟩;refine aP.gen λN2 hN2=>?_;symm
  refine⟨b,rs,rfl,hb,(),λq hq=>⟨po.1 q hq,(br.bq po.1 q hq).mono ∅⟩,λc1 H1 us S1 l1 n1 p1 e1 ln1=>?_⟩;refine⟨ws.length,(hw.same S1).len,?_⟩;rw[show (n:Int)+(ws.length:Int)=((n+ws.length:Nat):Int) by nofun]
  obtain⟨D,D0,bD,oD⟩:=id br;have oU:Ob D 11003 (cf us):=λk=>by
   by_cases hk:k<d
   .obtain⟨m,em,bm⟩:=oD (k+1);refine⟨((k+1:Nat):Int)*m,?_,((show Bt 3 (((k+1:Nat):Int)) by unfold Bt;nofun).mul bm).mono ∅⟩
    rw[e1,em,Xa];grind
   .refine⟨0,?_,FD⟩;have c0:((0:Int):Rat)=0:=rfl;rw[e1,aK (),c0];grind
  refine⟨c1,b,us,rs,d,n+ws.length,D,rfl,l1,hb.same S1,lr,d6,(),(),p1.1,po.1,D0,bD,oU,oD,λc2 H2 ts S2 n2 l2 lt2 f2 v2 r2=>hN2 _ _ ?_⟩;obtain⟨T',hT⟩:=Fy (cf us) (cf rs) d;have eT:∀k,k<n+ws.length->cf ts k=T' k:=λk hk=>rm r2 (λk _=>hT k) (k+1) k () hk;have S02:=S1.trans S2;have cD:=am D0;have bts:∀k l,Pb 400000 (cf ((ts.drop k).take l)):=λk l=>by
   refine⟨D^18,Xx D0,(bD.pow1 18).mono ∅,λj=>?_⟩;by_cases hj:j<l/\k+j<ts.length
   .obtain⟨z,ez,bz⟩:=v2 (k+j) ();refine⟨z*D^(17-(k+j)),?_,(bz.mul (bD.pow1 (17-(k+j)))).mono ()⟩;have e:cf ((ts.drop k).take l) j=cf ts (k+j):=by
     have:((ts.drop k).take l)[j]? = ts[k+j]?:=by rw[Xg,Yb hj.1,Xh]
     rw[YO hj.2] at this;rw[aG this,aG (YO hj.2)]
    have ca:=am (show D^(k+j+1)≠0 from Xx D0)
    have cb:=am (show D^(17-(k+j))≠0 from Xx D0)
    have eP:((D^18:Int):Rat)=((D^(k+j+1):Int):Rat)*((D^(17-(k+j)):Int):Rat):=by
     rw[<-Xa,<-Int.pow_add];congr 2
     nofun
    rw[e,ez,eP,Xa];generalize ((D^(k+j+1):Int):Rat)=x1 at ca ⊢;generalize ((D^(17-(k+j)):Int):Rat)=x2 at cb ⊢;grind
   .refine⟨0,?_,FD⟩;have c0:((0:Int):Rat)=0:=rfl;rw[aK (by rw[Yu,YE];nofun),c0]
    grind
  obtain⟨xs,hxs,rxs⟩:=id l2;have lxs:xs.length=ts.length:=by rw[rxs.length,YC]
  symm
  refine⟨(),(),λc3 H3 hc3 S3 h3=>?_⟩;rw[Int.toNat_natCast];refine cn (its:=fT 0 n) (λi zs H'=>aB (vw K H2) (vw K H') /\ ∃fs:List (Int×Int),aN (vw K H') (fs.map fr) zs/\fs.length=i/\(∀q∈fs,Fq q) /\ ∀k,k<fs.length->cf fs k=aj (cf ws) (λj=>T' (k+j)) d) (λ_ _ _ _ _ _=>bH) h3 ⟨S3,[],.mk_nil,rfl,by simp,by simp⟩ (λi x zs H4 hi hx h4 z=>?_) (λzs H4 h4 z=>?_)
  .obtain⟨S4,fs,rf,lf,ff,vf⟩:=z;obtain⟨hi',rfl⟩:=dg hx;rw[XH];symm
   refine⟨xs,S4 _ _ hxs,λp5 H5 hp5 S5 h5=>?_⟩;rw[iD ()] at h5;have S25:=S4.trans S5;have l5:aF (vw K H5) p5 (ts.drop i):=⟨_,h5,by rw[List.map_drop];exact (rxs.drop _).same S25⟩
   have lq:((ts.drop i).take 12).length=min 12 (n+ws.length-i):=by rw[Yu,YE,lt2]
   simp only[lO];refine⟨p5,w',ts.drop i,(ts.drop i).take 12,ws,400000,4400000,rfl,l5,⟨(ts.drop i).drop 12,(List.take_append_drop _ _).symm⟩,hw.same (S02.trans S25),(),(),λq hq=>f2 q (XN (Xj hq)),pw.1,bts i 12,bw,∅,λv H6 r S6 r6 f6 w6=>.mk ((S5.trans S6) _ _ h4) ?_ λH7 B7 h7=>⟨λx o e=>B7 _ _ (ap e hc3) ((S25.trans S6) _ _ e),fs++[r],?_,by rw[YB,lf];rfl,λq hq=>?_,λk hk=>?_⟩⟩
   .rw[rf.length,YC];have:1000<=sizeLine:=∅;nofun
   .rw[XE];exact (aN.flat_but ((S5.trans S6) _ _ h4) B7 _ _ (dW _) (rf.same (S5.trans S6))).snoc (aI.flat_but ((S5.trans S6) _ _ h4) B7 _ _ (cE _) r6)
   .rcases List.mem_append.mp hq with y|y
    .exact ff q y
    .rw[List.mem_singleton.mp y];exact f6
   .rw[YB,YJ] at hk;rw[gX];by_cases e:k=fs.length
    .rw[Yb e,w6,e,lf];have m:=cX (f:=cf ws) (h:=λj=>T' (i+j)) (n:=ws.length) (λj hj=>by rw[aK hj];grind) (d-ws.length)
     rw[show ws.length+(d-ws.length)=d by nofun] at m
     rw[m];refine aA _ (λ_ _=>rfl) (λj hj=>?_);have hj2:i+j<ts.length:=();have:((ts.drop i).take 12)[j]? = some ts[i+j]:=by rw[Xg,Yb (),Xh,YO hj2]
     rw[aG this,<-aG (YO hj2),eT _ ()]
    .rw[Yc e];exact vf k ()
  .obtain⟨S4,fs,rf,lf,ff,vf⟩:=z;rw[cH] at lf;refine h c3 H4 fs (S02.trans S4) (S02.none hc3) ⟨_,h4,rf⟩ lf ff (λk hk hq=>?_) (λk hk=>?_)
   .rw[vf k ()];exact fw.sums lr () one e1 hT orth k hq
   .rw[<-qG (w:=cf ws) (n:=d) one hT k];exact aA _ (λ_ _=>rfl) (λj hj=>vf _ ())
inductive lB (K:W.Frag)(vs:List V)(H:Hp)(Q:VK)(E:XK):Prop
 | mk (a b:Addr)(y:V)(fs gs:List (Int×Int))(c:Int×Int):vs=[.ref a,.ref b,y]->aF (vw K H) a fs->aF (vw K H) b gs->aI (vw K H) (fr c) y->fs.length<=40->gs.length<=40->(∀q∈fs,Fq q/\Bq 3600 q)->(∀q∈gs,Fq q/\Bq 900 q)->Fq c->Bq 3600 c->(∀d H' (rs:List (Int×Int)),aB (vw K H) (vw K H')->aF (vw K H') d rs->vw K H d=none->aL rs->(∀k,cf rs k=cf fs k+cf gs k*wv c)->rs.length<=max fs.length gs.length->Q (.ref d) H')->lB K vs H Q E
theorem Bj(F:dy K "_law_summed" "_law_summed" oO f fd) (T:dR K mg)(zCclean:cp P w K mg base "_law_clean" ["_law_numbers"] 1 (iU K)) (zCplus:cp P w K mg base "_law_plus" ["_law_one", "_law_other"] 3 (gJ K)) (zCtimes:cp P w K mg base "_law_times" ["_law_one", "_law_other"] 3 (ee K)):aV P w K mg base dC 4 f fd ["_law_f", "_law_g", "_law_by"] (lB K):=by
 have scN:=vg.nd;refine F.okQ vg ?_ ?_;walk_at "q"
 .obtain⟨a,_,_,_,_,_,rfl,_⟩:=h;rfl
 .obtain⟨a,b,y,fs,gs,c,rfl,ha,hb,hy,lf,lg',hf,hg,fc,bc,h⟩:=h;refine⟨_,(af (aE (i:=3) scN rfl (·) (ar aW (el dL (by rfl) T.b_list fH (aa (qv 0) ac)) (ar aM (aU (aa (aT (aa ae (aa ae ac))) ac)) (ai (mj rfl) (by rfl) T.b_max wY (aa ae (aa (ar bN (ai ao (by rfl) T.b_len aD (aa (qv 1) ac)) (ai ao (by rfl) T.b_len aD (aa (qv 0) ac))) ac))))))
   (af (cC PassesOwn.never rfl (cO rfl T.b_range (aa (ai ao (by rfl) T.b_len aD (aa (qv 1) ac)) ac)) (aq (i:=4) scN rfl (·)) (ag (cW (ah zCplus nofun rfl (aa (av cT (qv 3) (qv 4) (λ_ _=>rfl)) (aa (ah zCtimes nofun rfl (aa (av cT (qv 1) (qv 4) (λ_ _=>rfl)) (aa (qv 2) ac))) ac))) (pJ (qv 3) (qv 4) dP))))
   (ag (au (ah zCclean nofun rfl (aa (qv 3) ac)))))),?_⟩
  walk_at"m";symm
  obtain⟨xs,hxs,rxs⟩:=id ha;obtain⟨ys,hys,rys⟩:=id hb;refine⟨xs,hxs,λp1 H1 hp1 S1 h1=>⟨∅,λp2 H2 hp2 S2 h2=>⟨∅,λp3 H3 hp3 S3 h3=>?_⟩⟩⟩;have S03:=S1.trans (S2.trans S3);refine⟨_,(hb.same S03).len,_,(ha.same S03).len,?_⟩;obtain⟨m,hm,hmm⟩ : ∃m:Nat,(if (gs.length:Int)-(fs.length:Int) > 0 then (gs.length:Int)-(fs.length:Int) else 0)=(m:Int)/\fs.length+m=max fs.length gs.length:=by
   refine⟨gs.length-fs.length,?_,()⟩;split<;>nofun
  rw[hm,gI];refine⟨_,h3,(),(),?_,λp4 H4 hp4 S4 h4=>?_⟩
  .have:1000<=sizeLine:=∅;simp;nofun
  rw[show ((m:Nat):Int).toNat=m by nofun,jR] at h4
  rw[fB];have S14:=S2.trans (S3.trans S4);refine⟨_,S14 _ _ h1,_,h4,?_,λe H5 he S5 h5=>?_⟩
  .have:1000<=sizeLine:=∅;rw[rxs.length];simp;nofun
  have S04:=S1.trans S14;have S05:=S04.trans S5;have r2:aI (vw K H5) (fr (0,1)) (.ref p2):=bC ((S3.trans (S4.trans S5)) _ _ h2);have ne:vw K H e=none:=S04.none he;refine⟨_,(hb.same S05).len,(),(),?_⟩;obtain⟨Pv,hPv⟩ : ∃Pv:Nat->St->Hp->Prop,∀i σ H',Pv i σ H' ↔ ∃o4,σ=[some (.ref a),some (.ref b),some y,some (.ref e),o4]/\aB (vw K H) (vw K H') /\ ∃qs,aF (vw K H') e qs/\qs.length=max fs.length gs.length/\(∀q∈qs,Fq q/\Bq 8200 q)/\(∀k,cf qs k=cf fs k+if k<i then cf gs k*wv c else 0)/\(∀k q,i<=k->qs[k]? = some q->Bq 3600 q):=⟨_,λ_ _ _=>XD⟩
  have hq0:∀q∈fs++List.replicate m (0,1),Fq q/\Bq 3600 q:=λq hq=>by
   rcases List.mem_append.mp hq with z|z
   .exact hf q z
   .rw[(List.mem_replicate.mp z).2];exact⟨kx,za ∅⟩
  refine aX (its:=fT 0 gs.length) Pv (λ_ _ _ _ _=>bH) ((hPv _ _ _).mpr ⟨_,rfl,S05,fs++List.replicate m (0,1),⟨_,h5,?_⟩,by simp;nofun,λq hq=>⟨(hq0 q hq).1,(hq0 q hq).2.mono ()⟩,λk=>?_,λk q _ e'=>(hq0 q (YA e')).2⟩) (λi x σ H6 hi hx pv=>?_) (λσ H6 pv=>?_)
  .rw[XE,lV];exact (rxs.same S05).app (aN.repl r2 m)
  .rw[Hy,Yc ()];grind
  .obtain⟨o4,rfl,S6,qs,l6,n6,f6,c6,b6⟩:=(hPv _ _ _).mp pv;obtain⟨hi',rfl⟩:=dg hx;rw[XH];obtain⟨zs,hzs,rzs⟩:=id l6;have hiq:i<qs.length:=();obtain⟨x1,e1,r1⟩:=rzs.at (i:=i) (d:=fr qs[i]) (by rw[Yz,YO hiq];rfl)
   obtain⟨x2,e2,r2⟩:=rys.at (i:=i) (d:=fr gs[i]) (by rw[Yz,YO hi'];rfl)
   obtain⟨k1,k2⟩:=f6 qs[i] (YN hiq);have k3:=b6 i qs[i] (Yp _) (YO hiq);obtain⟨g1,g2⟩:=hg gs[i] (YN hi');symm
   refine⟨zs,hzs,x1,ce e1,ys,S6 _ _ hys,x2,ce e2,?_⟩;simp only[ee];symm
   refine⟨_,aI.same S6 _ _ r2,c,aI.same S6 _ _ hy,g1.ne,fc.ne,g2.mono (),bc.mono (),(g2.2.mul bc.2).mono (),λv3 H7 S7 r3=>?_⟩;have f3:=jf g1 fc;have b3:=lM g1 fc g2 bc;simp only[gJ];symm
   refine⟨_,aI.same S7 _ _ r1,_,r3,k1.ne,f3.ne,k3.mono (),b3.mono (),(k3.2.mul b3.2).mono (),λv4 H8 S8 r4=>?_⟩;have f4:=lH k1 f3;have b4:=tO k1 f3 k3 b3;have S68:=S7.trans S8;have hlz:zs.length=qs.length:=by rw[rzs.length,YC]
   refine⟨zs,S68 _ _ hzs,i,by rw[hlz];exact i6 hiq,λH9 B9 h9=>(hPv _ _ _).mpr ⟨_,rfl,λx o e'=>B9 _ _ (ap e' ne) (S68 _ _ (S6 _ _ e')),qs.set i (qi qs[i] (mW gs[i] c)),aF.chg (S68 _ _ hzs) (rzs.same S68) r4 B9 h9,by rw[YG];exact n6,λq hq=>?_,λk=>?_,λk q hk e'=>?_⟩⟩
   .rcases List.mem_or_eq_of_mem_set hq with z|z
    .exact f6 q z
    .rw[z];exact⟨f4,b4.mono ()⟩
   .rw[xE hiq];by_cases hk:k=i
    .subst hk;rw[Yb rfl,Yb (),pE k1.ne f3.ne,kO g1.ne fc.ne,<-aG (YO hiq),<-aG (YO hi'),c6 k,Yc ()];grind
    .rw[Yc hk,c6 k];by_cases hk2:k<i
     .rw[Yb hk2,Yb ()]
     .rw[Yc hk2,Yc ()]
   .rw[Yl ()] at e';exact b6 k q () e'
  .obtain⟨o4,rfl,S6,qs,l6,n6,f6,c6,b6⟩:=(hPv _ _ _).mp pv;rw[cH] at c6;symm
   simp only[iU];symm
   have hF:∀q∈qs,Fq q:=λq hq=>(f6 q hq).1;refine⟨qs,l6,λd H7 n hn hz hd hnd S7 l7=>h d H7 (qs.take n) (S6.trans S7) l7 (S6.none hnd) (oQ hF hz) (λk=>?_) (by rw[Yu];nofun)⟩
   rw[j7 hF hd k,c6 k];by_cases hk:k<gs.length
   .rw[Yb hk]
   .rw[Yc hk,aK (qs:=gs) ()];grind
def eA(K:W.Frag):Sp:=λvs H Q _=>∃(a b:Addr)(fs gs:List (Int×Int))(A B:Nat),vs=[.ref a,.ref b]/\aF (vw K H) a fs/\aF (vw K H) b gs/\fs.length<=40/\gs.length<=40/\A+B<=400000/\(∀q∈fs,Fq q)/\(∀q∈gs,Fq q)/\Pb A (cf fs)/\Pb B (cf gs) /\
 ∀d H' (rs:List (Int×Int)),aB (vw K H) (vw K H')->aF (vw K H') d rs->vw K H d=none->aL rs->(∀k,cf rs k=pr (cf fs) (cf gs) fs.length k)->rs.length<=fs.length+gs.length->Q (.ref d) H'
theorem td(F:dy K "_law_multiplied" "_law_multiplied" jh f fd) (T:dR K mg)(zCclean:cp P w K mg base "_law_clean" ["_law_numbers"] 1 (iU K)) (zCplus:cp P w K mg base "_law_plus" ["_law_one", "_law_other"] 3 (gJ K)) (zCtimes:cp P w K mg base "_law_times" ["_law_one", "_law_other"] 3 (ee K)):aV P w K mg base dC 4 f fd ["_law_f", "_law_g"] (eA K):=by
 have scN:=k0.nd;refine F.okQ k0 ?_ ?_;walk_at "q"
 .obtain⟨a,_,_,_,_,_,rfl,_⟩:=h;rfl
 .obtain⟨a,b,fs,gs,A',B,rfl,ha,hb,lf,lg',hAB,hf,hg,⟨D1,d1,d2,d3⟩,⟨E1,e1',e2',e3'⟩,h⟩:=h;have bf:=Ob.bq d3 d1 d2 hf;have bg:=Ob.bq e3' e1' e2' hg;have hX:=Y8 d1 e1';have bX:=d2.mul e2';refine⟨_,(af (aE (i:=2) scN rfl (·) (ar aM (aU (aa (aT (aa ae (aa ae ac))) ac)) (ar aW (ai ao (by rfl) T.b_len aD (aa (qv 0) ac)) (ai ao (by rfl) T.b_len aD (aa (qv 1) ac)))))
   (af (cC PassesOwn.never rfl (cO rfl T.b_range (aa (ai ao (by rfl) T.b_len aD (aa (qv 0) ac)) ac)) (aq (i:=3) scN rfl (·)) (ag (cC PassesOwn.never rfl (cO rfl T.b_range (aa (ai ao (by rfl) T.b_len aD (aa (qv 1) ac)) ac)) (aq (i:=4) scN rfl (·)) (ag (cW (ah zCplus nofun rfl (aa (av cT (qv 2) (ar aW (qv 3) (qv 4)) (λ_ _=>rfl)) (aa (ah zCtimes nofun rfl (aa (av cT (qv 0) (qv 3) (λ_ _=>rfl)) (aa (av cT (qv 1) (qv 4) (λ_ _=>rfl)) ac))) ac))) (pJ (qv 2) (ar aW (qv 3) (qv 4)) dP))))))
   (ag (au (ah zCclean nofun rfl (aa (qv 2) ac)))))),?_⟩
  walk_at"m";refine aP.gen λN1 hN1=>?_;symm
  obtain⟨xs,hxs,rxs⟩:=id ha;obtain⟨ys,hys,rys⟩:=id hb;refine⟨∅,λp2 H2 hp2 S2 h2=>⟨∅,λp3 H3 hp3 S3 h3=>?_⟩⟩;have S03:=S2.trans S3;refine⟨_,(ha.same S03).len,_,(hb.same S03).len,?_⟩;rw[show (fs.length:Int)+(gs.length:Int)=((fs.length+gs.length:Nat):Int) by nofun,gI]
  refine⟨_,h3,(),(),?_,λe H5 he S5 h5=>?_⟩
  .have:1000<=sizeLine:=∅;simp;nofun
  rw[show ((fs.length+gs.length:Nat):Int).toNat=fs.length+gs.length by nofun,jR] at h5
  have S05:=S03.trans S5;have r2:aI (vw K H5) (fr (0,1)) (.ref p2):=bC ((S3.trans S5) _ _ h2);have ne:vw K H e=none:=S03.none he;refine hN1 _ _ ?_;refine aP.gen λN2 hN2=>?_;symm
  refine⟨_,(ha.same S05).len,(),(),?_⟩;obtain⟨n,hn⟩ : ∃n,n=fs.length+gs.length:=⟨_,rfl⟩;rw[<-hn] at h5;obtain⟨Pv,hPv⟩ : ∃Pv:Nat->St->Hp->Prop,∀i σ H',Pv i σ H'↔X2 λo3 o4=>σ=[some (.ref a),some (.ref b),some (.ref e),o3,o4]/\aB (vw K H) (vw K H') /\ ∃qs,aF (vw K H') e qs/\qs.length=n/\(∀q∈qs,Fq q)/\(∀k,k<n->cf qs k=pr (cf fs) (cf gs) i k):=⟨_,λ_ _ _=>XD⟩;refine aX (its:=fT 0 fs.length) Pv (λ_ _ _ _ _=>bH) ((hPv _ _ _).mpr ⟨_,_,rfl,S05,List.replicate n (0,1),⟨_,h5,?_⟩,by simp,λq hq=>?_,λk hk=>?_⟩) (λi x σ H6 hi hx pv=>?_) (λσ H6 pv=>?_)
  .rw[lV];exact aN.repl r2 n
  .rw[(List.mem_replicate.mp hq).2];exact kx
  .rw[aG (List.getElem?_replicate_of_lt hk),kA];rfl
  .obtain⟨o3,o4,rfl,S6,qs,l6,n6,f6,c6⟩:=(hPv _ _ _).mp pv;obtain⟨hi',rfl⟩:=dg hx;rw[XH];symm
   refine⟨_,(hb.same S6).len,(),(),?_⟩;obtain⟨Pw,hPw⟩ : ∃Pw:Nat->St->Hp->Prop,∀j σ H',Pw j σ H' ↔ ∃o4,σ=[some (.ref a),some (.ref b),some (.ref e),some (.int i),o4]/\aB (vw K H) (vw K H') /\ ∃qs,aF (vw K H') e qs/\qs.length=n/\(∀q∈qs,Fq q)/\(∀k,k<n->cf qs k=qr (cf fs) (cf gs) i j k):=⟨_,λ_ _ _=>XD⟩;refine aX (its:=fT 0 gs.length) Pw (λ_ _ _ _ _=>bH) ((hPw _ _ _).mpr ⟨_,rfl,S6,qs,l6,n6,f6,λk hk=>?_⟩) (λj x σ H7 hj hx pw=>?_) (λσ H7 pw=>?_)
   .rw[Kc];exact c6 k hk
   .obtain⟨o4,rfl,S7,ps,l7,n7,f7,c7⟩:=(hPw _ _ _).mp pw;obtain⟨hj',rfl⟩:=dg hx;rw[XH];obtain⟨zs,hzs,rzs⟩:=id l7;have hiq:i+j<ps.length:=();obtain⟨x0,e0,r0⟩:=rzs.at (i:=i+j) (d:=fr ps[i+j]) (by rw[Yz,YO hiq];rfl)
    obtain⟨x1,e1,r1⟩:=rxs.at (i:=i) (d:=fr fs[i]) (by rw[Yz,YO hi'];rfl)
    obtain⟨x2,e2,r2'⟩:=rys.at (i:=j) (d:=fr gs[j]) (by rw[Yz,YO hj'];rfl)
    have k1:=f7 ps[i+j] (YN hiq);have k3:Bq (A'+B+100) ps[i+j]:=by
     obtain⟨m,em,bm⟩:=IC d1 e1' d3 e3' i j (i+j);have em':qr (cf fs) (cf gs) i j (i+j)=_:=em;refine jx k1 (n:=m) (by rw[<-em',<-c7 (i+j) (),aG (YO hiq)]) hX (bm.mono ()) (bX.mono ())
    have g1:=hg gs[j] (YN hj');have g2:=bg gs[j] (YN hj');have u1:=hf fs[i] (YN hi');have u2:=bf fs[i] (YN hi');symm
    rw[show (i:Int)+(j:Int)=((i+j:Nat):Int) by nofun]
    refine⟨zs,hzs,x0,ce e0,xs,S7 _ _ hxs,x1,ce e1,ys,S7 _ _ hys,x2,ce e2,?_⟩;simp only[ee];symm
    refine⟨_,aI.same S7 _ _ r1,_,aI.same S7 _ _ r2',u1.ne,g1.ne,u2.mono (),g2.mono (),(u2.2.mul g2.2).mono (),λv3 H8 S8 r3=>?_⟩;have f3:=jf u1 g1;have b3:=lM u1 g1 u2 g2;simp only[gJ];symm
    refine⟨_,aI.same S8 _ _ r0,_,r3,k1.ne,f3.ne,k3.mono (),b3.mono (),(k3.2.mul b3.2).mono (),λv4 H9 S9 r4=>?_⟩;have f4:=lH k1 f3;have S79:=S8.trans S9;have hlz:zs.length=ps.length:=by rw[rzs.length,YC]
    refine⟨zs,S79 _ _ hzs,i+j,by rw[hlz];exact i6 hiq,λH10 B10 h10=>(hPw _ _ _).mpr ⟨_,rfl,λx o e'=>B10 _ _ (ap e' ne) (S79 _ _ (S7 _ _ e')),ps.set (i+j) (qi ps[i+j] (mW fs[i] gs[j])),aF.chg (S79 _ _ hzs) (rzs.same S79) r4 B10 h10,by rw[YG];exact n7,λq hq=>?_,λk hk=>?_⟩⟩
    .rcases List.mem_or_eq_of_mem_set hq with z|z
     .exact f7 q z
     .rw[z];exact f4
    .rw[xE hiq,Jd];by_cases hk:k=i+j
     .rw[Yb hk,Yb hk,pE k1.ne f3.ne,kO u1.ne g1.ne,<-aG (YO hiq),<-aG (YO hi'),<-aG (YO hj'),c7 (i+j) ()]
     .rw[Yc hk,Yc hk,c7 k (by assumption)]
   .obtain⟨o4,rfl,S7,ps,l7,n7,f7,c7⟩:=(hPw _ _ _).mp pw;rw[cH] at c7;refine (hPv _ _ _).mpr ⟨_,_,rfl,S7,ps,l7,n7,f7,λk hk=>?_⟩;rw[c7 k hk,GA λi hi=>aK hi]
  .obtain⟨o3,o4,rfl,S6,qs,l6,n6,f6,c6⟩:=(hPv _ _ _).mp pv;rw[cH] at c6;refine hN2 _ _ ?_;symm
   simp only[iU];symm
   have hF:∀q∈qs,Fq q:=f6;refine⟨qs,l6,λd H7 n' hn' hz hd hnd S7 l7=>h d H7 (qs.take n') (S6.trans S7) l7 (S6.none hnd) (oQ hF hz) (λk=>?_) (by rw[Yu];nofun)⟩
   rw[j7 hF hd k];by_cases hk:k<n
   .exact c6 k hk
   .rw[aK (),fK (n:=gs.length) (λi hi=>aK hi) _ _ ()]
inductive gR (K:W.Frag)(vs:List V)(H:Hp)(Q:VK)(E:XK):Prop
 | mk (a b c:Addr)(es qs fs gs:List (Int×Int))(A B C:Nat):vs=[.ref a,.ref b,.ref c]->aF (vw K H) a es->(∃ext,es=qs++ext)->aF (vw K H) b fs->aF (vw K H) c gs->qs.length<=12->fs.length<=14->gs.length<=14->(∀q∈qs,Fq q)->(∀q∈fs,Fq q)->(∀q∈gs,Fq q)->A+B+C<=300000->Pb A (cf qs)->Pb B (cf fs)->Pb C (cf gs)->(∀rs,aL rs->(∀k,cf rs k=pr (cf fs) (cf gs) fs.length k)->rs.length<=qs.length)->(∀v H' r,aB (vw K H) (vw K H')->aI (vw K H') (fr r) v->Fq r->wv r=aj (λm=>pr (cf fs) (cf gs) fs.length m) (cf qs) (fs.length+gs.length)->Q v H')->gR K vs H Q E
theorem BX(F:dy K "_law_square" "_law_square" pc f fd) (T:dR K mg)(zCworth:cp P w K mg base "_law_worth" ["_law_sums", "_law_f"] 4 (lO K)) (zCmultiplied:cp P w K mg base "_law_multiplied" ["_law_f", "_law_g"] 4 (eA K)):aV P w K mg base dC 5 f fd ["_law_sums", "_law_f", "_law_g"] (gR K):=by
 have scN:=ux.nd;refine F.okQ ux ?_ ?_;walk_at "q"
 .obtain⟨a,_,_,_,_,_,_,_,_,_,rfl,_⟩:=h;rfl
 .obtain⟨a,b,c,es,qs,fs,gs,A1,B1,C1,rfl,ha,hex,hb,hc,lq,lf,lg',hq,hf,hg,hA,pq,pf,pg,hl,h⟩:=h;refine⟨_,(ag (au (ah zCworth nofun rfl (aa (qv 0) (aa (ah zCmultiplied nofun rfl (aa (qv 1) (aa (qv 2) ac))) ac))))),?_⟩
  walk_at"m";symm
  simp only[eA,lO];symm
  refine⟨fs,hb,gs,hc,(),(),B1,C1,(),hf,hg,pf,pg,λd H1 rs S1 l1 _ p1 w1 n1=>?_⟩;refine⟨es,ha.same S1,qs,hex,rs,l1,hl rs p1 w1,lq,hq,p1.1,A1,pq,B1+C1+fs.length,(Pb.pr pf pg fs.length).congr w1,(),λv H2 r S2 r2 f2 w2=>h v H2 r (S1.trans S2) r2 f2 ?_⟩;rw[w2,<-cX (n:=rs.length) (λi hi=>by rw[aK hi];grind) (fs.length+gs.length-rs.length),show rs.length+(fs.length+gs.length-rs.length)=fs.length+gs.length by nofun]
  exact aA _ (λi _=>w1 i) λ_ _=>rfl
theorem Jc{qs:List (Int×Int)}{W:Nat->Int}{B:Int}(cl:gS qs W B)(sq:∀q∈qs,jB q):Bt 170 B:=by
 have:=Int.le_of_dvd ∅ (cl.least (jr 12) λq hq=>(sq q hq).2.2);have:jr 12<2^170:=∅;have:=cl.pos;unfold Bt;have e:(2:Int)^170=((2^170:Nat):Int):=∅;nofun
theorem Hs{W:Nat->Int}{B:Int}{k:Nat}{c:List (Int×Int)×(Int×Int)}(h:dI W B k c)(hB:0<B)(hD:0<Dk W k):c.2.1*(Dk W k*B)=Dk W (k+1)*c.2.2:=by
 have e:=h.sqv;have p:=Y4 hD hB;have c1:((Dk W k*B:Int):Rat)≠0:=am ();have c2:=am h.fq.ne;unfold wv at e;have:((c.2.1*(Dk W k*B):Int):Rat)=((Dk W (k+1)*c.2.2:Int):Rat):=by
  rw[Xa,Xa];grind
 exact Rat.intCast_inj.mp this
theorem dI.sgn{W:Nat->Int}{B:Int}{k:Nat}{c:List (Int×Int)×(Int×Int)}(h:dI W B k c)(hB:0<B)(hD:0<Dk W k):0<c.2.1↔0<Dk W (k+1):=by
 have e:=Hs h hB hD;have p:=Y4 hD hB;constructor
 .intro z;exact Xe (by rw[<-e];exact Y4 z p) h.fq.1
 .intro z;exact Xe (by rw[e];exact Y4 z h.fq.1) p
theorem HL{W:Nat->Int}{k:Nat}(hD:Dk W k≠0)(hk:k<=5)(bW:∀i,Bt 170 (W i)):Pb 1100 (Pk W k) :=
 ⟨Dk W k,hD,(jE bW ()).mono ∅,λj=>⟨qk W k j,rfl,(lA bW hk).mono ∅⟩⟩
theorem Jh(k j:Nat):cf (List.replicate k (0,1)++[(1,1)]) j=Xk k j:=Ch k j
theorem J2(k:Nat):aL (List.replicate k ((0:Int),(1:Int))++[(1,1)]):=⟨CJ k,λq hq=>by
 rw[List.getLast?_append] at hq;cases hq;decide⟩
inductive JF (K:W.Frag)(vs:List V)(H:Hp)(Q:VK)(E:XK):Prop
 | mk (k:Nat):vs=[.int k]->k<=20->(∀d H',aB (vw K H) (vw K H')->vw K H d=none->aF (vw K H') d (List.replicate k (0,1)++[(1,1)])->Q (.ref d) H')->JF K vs H Q E
theorem KS(F:dy K "_law_x" "_law_x" Ks f fd) (T:dR K mg):aV P w K mg base dC 1 f fd ["_law_many"] (JF K):=by
 have scN:=Kv.nd;refine F.okQ Kv ?_ ?_;walk_at "q"
 .obtain⟨_,rfl,_⟩:=h;rfl
 .obtain⟨k,rfl,hk,h⟩:=h;refine⟨_,(ag (au (ar aW (ar aM (aU (aa (aT (aa ae (aa ae ac))) ac)) (qv 0)) (aU (aa (aT (aa ae (aa ae ac))) ac))))),?_⟩;walk_at"m";skip
  symm
  refine⟨∅,λp1 H1 hp1 S1 h1=>⟨∅,λp2 H2 hp2 S2 h2=>?_⟩⟩;show ic K (.ref p2) (.int _) H2 _;rw[gI];refine⟨_,h2,(),(),?_,λp3 H3 hp3 S3 h3=>⟨∅,λp4 H4 hp4 S4 h4=>⟨∅,λp5 H5 hp5 S5 h5=>?_⟩⟩⟩
  .have:1000<=sizeLine:=∅;simp;nofun
  rw[show ((k:Nat):Int).toNat=k by nofun,jR] at h3
  show gZ K (.ref p3) (.ref p5) H5 _;rw[fB];refine⟨_,(S4.trans S5) _ _ h3,_,h5,?_,λp6 H6 hp6 S6 h6=>?_⟩
  .have:1000<=sizeLine:=∅;simp;nofun
  have S15:=S2.trans (S3.trans (S4.trans S5));refine h p6 H6 (S1.trans (S15.trans S6)) ((S1.trans S15).none hp6) ⟨_,h6,?_⟩;rw[XE,lV];exact (aN.repl (bC ((S15.trans S6) _ _ h1)) k).app (.mk_cons (bC ((S5.trans S6) _ _ h4)) .mk_nil)
theorem JA{W:Nat->Int}{B:Int}{S P:Nat->Rat}{k i N:Nat}(hD:Dk W i≠0)(hB:B≠0)(hP:∀j,P j=((qk W i j:Int):Rat)/((Dk W i:Int):Rat))(hS:∀i,((W i:Int):Rat)=S i*(B:Rat))(hN:k+i+1<=N):aj (λm=>pr (Xk k) P (k+1) m) S N=((Lq W i k:Int):Rat)/(((Dk W i:Int):Rat)*(B:Rat)):=by
 rw[qm];show aj (Xk k) _ k+Xk k k*aj P (λj=>S (k+j)) (N-k)=_;rw[aY k λj hj=>by rw[show Xk k j=0 from Yc ()];grind,show Xk k k=1 from Yb rfl]
 have m:=cX (f:=P) (h:=λj=>S (k+j)) (n:=i+1) (λj hj=>by
  have z:((0:Int):Rat)=0:=rfl;rw[hP j,dE (),z];grind) (N-k-(i+1))
 rw[show i+1+(N-k-(i+1))=N-k by nofun] at m
 rw[m,dX hD hB hP hS k];grind
inductive nZ (K:W.Frag)(vs:List V)(H:Hp)(Q:VK)(E:XK):Prop
 | mk (a b t:Addr)(es qs:List (Int×Int))(W:Nat->Int)(B:Int)(k:Nat)(pss:List (List (Int×Int)×(Int×Int)))(Pr:Addr->Prop):vs=[.ref a,.ref b,.ref t]->aF (vw K H) a es->(∃ext,es=qs++ext)->aF (vw K H) b (List.replicate k (0,1)++[(1,1)])->fL (vw K H) t pss Pr->pss.length=k->k<=5->2*k<=qs.length->qs.length<=11->(∀q∈qs,jB q)->gS qs W B->(∀i,i<=k->0<Dk W i)->(∀i c,pss[i]? = some c->dI W B i c)->(∀d H' rs,aB (vw K H) (vw K H')->vw K H d=none->aF (vw K H') d rs->aL rs->(∀j,cf rs j=Pk W k j)->Q (.ref d) H')->nZ K vs H Q E
theorem D8(F:dy K "_law_along" "_law_along" tH f fd) (T:dR K mg)(zCover:cp P w K mg base "_law_over" ["_law_one", "_law_other"] 3 (wG K)) (zCsquare:cp P w K mg base "_law_square" ["_law_sums", "_law_f", "_law_g"] 5 (gR K)) (zCsummed:cp P w K mg base "_law_summed" ["_law_f", "_law_g", "_law_by"] 4 (lB K)):aV P w K mg base dC 6 f fd ["_law_sums", "_law_start", "_law_found"] (nZ K):=by
 have scN:=xC.nd;refine F.okQ xC ?_ ?_;walk_at "q"
 .obtain⟨_,_,_,_,_,_,_,_,_,_,rfl,_⟩:=h;rfl
 .obtain⟨a,b,t,es,qs,W,B,k,pss,Pr,rfl,ha,hex,hb,sa,lp,k5,kn,l11,sq,cl,hD,so,h⟩:=h;refine⟨_,(af (aE (i:=3) scN rfl (·) (el dL (by rfl) T.b_list fH (aa (qv 1) ac)))
   (af (cC PassesOwn.never rfl (cR (qv 2)) (bO (n:=2) rfl (ay (aq (i:=4) scN rfl (·)) (ay (aq (i:=5) scN rfl (·)) bQ))) (af (aE (i:=6) scN rfl (·) (ah zCover nofun rfl (aa (ah zCsquare nofun rfl (aa (qv 0) (aa (qv 1) (aa (qv 4) ac)))) (aa (qv 5) ac))))
   (ag (aE (i:=3) scN rfl (·) (ah zCsummed nofun rfl (aa (qv 3) (aa (qv 4) (aa (aT (aa (ar bN ae (av aS (qv 6) ae (λ_ _=>rfl))) (aa (av aS (qv 6) ae (λ_ _=>rfl)) ac))) ac))))))))
   (ag (au (qv 3))))),?_⟩
  walk_at"m";skip
  obtain⟨bx,hbx,rbx⟩:=id hb;obtain⟨xs,hxs,lxs,hx⟩:=id sa;have dn:∀i,i<=k->Dk W i≠0:=λi hi=>by have:=hD i hi;nofun
  obtain⟨β,hβ,_,bj,lst⟩:=CQ (W:=W) (k:=k) dn;refine aP.gen λN1 hN1=>?_;symm
  refine⟨bx,hbx,λp1 H1 hp1 S1 h1=>hN1 _ _ ?_⟩;refine aP.gen λN2 hN2=>?_;symm
  refine⟨⟨_,.of (aQ (S1 _ _ hxs))⟩,?_⟩;obtain⟨Pv,hPv⟩ : ∃Pv:Nat->St->Hp->Prop,∀i σ H',Pv i σ H'↔X5 λ(d:Addr)(o4 o5 o6:Option V)(rs:List (Int×Int))=>σ=[some (.ref a),some (.ref b),some (.ref t),some (.ref d),o4,o5,o6]/\aB (vw K H) (vw K H')/\vw K H d=none/\aF (vw K H') d rs/\aL rs /\ ∀j,cf rs j=Xk k j-ku β (Pk W) i j:=⟨_,λ_ _ _=>XD⟩;refine aX (its:=xs) Pv (λi σ H' _ p=>?_) ((hPv _ _ _).mpr ⟨p1,_,_,_,_,rfl,S1,hp1,⟨_,h1,rbx.same S1⟩,J2 k,λj=>?_⟩) (λi x σ H2 hi hx2 pv=>?_) (λσ H2 pv=>?_)
  .obtain⟨_,_,_,_,_,_,S2,_⟩:=(hPv _ _ _).mp p;exact bI (S2 _ _ hxs)
  .rw[Jh];show _=Xk k j-0;grind
  .obtain⟨d,o4,o5,o6,rs,rfl,S2,nd,ld,pd,ed⟩:=(hPv _ _ _).mp pv;obtain⟨c,hc⟩ : ∃c,pss[i]? = some c:=⟨_,YO ()⟩;obtain⟨y,l,v,e1,e2,e3,e4,e5⟩:=hx i c hc;rw[hx2] at e1;cases e1;have soc:=so i c hc;have hi':i<k:=();have di:=hD i ();have di1:=hD (i+1) ();have dni:=dn i ();have hB:=cl.pos;have lc:=soc.len dni;have bB:=Jc cl sq;have bD:∀i,i<=6->Bt 1046 (Dk W i):=λi hi=>(jE (eD cl sq) hi).mono ∅;have dB:Dk W i*B≠0:=Y8 dni ();have cB:=am (show B≠0 by nofun)
   have c0:=am dni;have c1:=am (show Dk W (i+1)≠0 by nofun)
   have sv:=soc.sqv;have f1:=soc.fq;have b1:Bq 1216 c.2:=jx f1 sv dB ((bD (i+1) ()).mono ∅) (((bD i ()).mul bB).mono ∅);rw[Xa] at sv;have nz:c.2.1≠0:=λz=>by
    rw[(fP f1.ne).mpr z] at sv;grind
   have hFq:∀q∈qs,Fq q:=λq hq=>(sq q hq).1;have xcf:cf (List.replicate k (0,1)++[(1,1)])=Xk k:=funext λj=>Jh k j;symm
   refine⟨_,S2 _ _ e2,rfl,_,_,rfl,_,_,rfl,rfl,?_⟩;refine⟨a,b,l,es,qs,_,c.1,170,11000,11000,rfl,ha.same S2,hex,hb.same S2,e3.same S2,(),by simp;nofun,(),hFq,CJ k,soc.po.1,∅,k7 sq,GX k,soc.pb dni () cl.bt,λus pu eu=>?_,λv3 H3 r S3 r3 fr3 w3=>?_⟩
   .refine Yg (jp (m:=k+i+1) pu λm hm=>?_) ();rw[eu];exact fK (n:=i+1) (λj hj=>aK ()) _ _ (by simp;nofun)
   rw[xcf,YB,YD,YJ,JA dni () soc.num cl.val (by rw[lc];nofun)] at w3
   have b3:Bq 1216 r:=jx (D:=Dk W i*B) fr3 (by rw[w3,Xa]) dB ((yt (eD cl sq) ()).mono ∅) (((bD i ()).mul bB).mono ∅)
   refine⟨_,_,r,c.2,rfl,r3,aI.same (S2.trans S3) _ _ e4,fr3.ne,f1.ne,nz,b3.mono ∅,b1.mono ∅,(b3.2.mul b1.1).mono ∅,λv4 H4 S4 r4=>?_⟩;obtain⟨y',hy'⟩ : ∃y,y=CK r c.2:=⟨_,rfl⟩;rw[<-hy'] at r4;have fy:Fq y':=by rw[hy'];exact Fe fr3 nz
   have wy:wv y'=β i:=by
    rw[hy',Gd fr3.ne f1.ne nz,w3,sv,bj i hi'];grind
   have by':Bq 3600 y':=(jx (D:=Dk W (i+1)) fy (by rw[wy,bj i hi']) () ((yt (eD cl sq) ()).mono (by decide:_<=1046)) ((bD (i+1) ()))).mono ∅
   obtain⟨bp,rfl,hbp⟩:=id r4.fr_at;refine⟨bp,rfl,_,hbp,_,cS,_,rfl,bp,rfl,_,hbp,_,cL,∅,λp5 H5 hp5 S5 h5=>?_⟩;have S25:=S3.trans (S4.trans S5);have S05:=S2.trans S25;have fc:Fq (0-y'.1,y'.2):=⟨fy.1,by have:=fy.2;rw[Int.zero_sub,Int.neg_gcd];exact this⟩
   have wc:wv (0-y'.1,y'.2) = - wv y':=by
    unfold wv;show ((0-y'.1:Int):Rat)/(y'.2:Rat)=_;rw[Rat.intCast_sub];have c0:((0:Int):Rat)=0:=rfl;rw[c0];grind
   have bc:Bq 3600 (0-y'.1,y'.2):=⟨by have:=by'.1;unfold Bt at this ⊢;show (0-y'.1).natAbs<_;nofun,by'.2⟩
   have prs:Pb 2630 (cf rs):=(BN k5 (eD cl sq) dn hβ i ()).congr ed;have lrs:rs.length<=k+1:=jp pd λm hm=>by
    rw[ed m,show Xk k m=0 from Yc (),ox i ()]
    grind
   show lB K [.ref d,.ref l,.ref p5] H5 _ _;refine⟨d,l,_,rs,c.1,(0-y'.1,y'.2),rfl,ld.same S25,e3.same S05,bC h5,(),(),λq hq=>⟨pd.1 q hq,(prs.bq pd.1 q hq).mono ∅⟩,λq hq=>⟨soc.po.1 q hq,?_⟩,fc,bc,λd6 H6 us S6 l6 n6 p6 w6 _=>?_⟩
   .obtain⟨j,hj⟩:=XI hq;have e:=soc.num j;rw[aG hj] at e;exact jx (soc.po.1 q hq) e dni ((lA (eD cl sq) ()).mono ∅) ((BK (eD cl sq) ()).mono (by have:(170+3)*i<=(170+3)*4:=Xs _ ();nofun))
   refine (hPv _ _ _).mpr ⟨d6,_,_,_,us,rfl,S05.trans S6,S05.none n6,l6,p6,λj=>?_⟩;rw[w6 j,ed j,wc,wy,soc.num j];show _=Xk k j-(ku β (Pk W) i j+β i*Pk W i j);show _=Xk k j-(ku β (Pk W) i j+β i*(((qk W i j:Int):Rat)/((Dk W i:Int):Rat)));grind
  .obtain⟨d,o4,o5,o6,rs,rfl,S2,nd,ld,pd,ed⟩:=(hPv _ _ _).mp pv;refine hN2 _ _ ?_;symm
   exact h d H2 rs S2 nd ld pd λj=>by rw[ed j,lxs,lp];exact lst j
theorem fL.snoc{G G':Hp}{t x m:Addr}{v:V}{ys:List V}{pss:List (List (Int×Int)×(Int×Int))}{c:List (Int×Int)×(Int×Int)}{Pr:Addr->Prop}(h:fL G t pss Pr)(ht:G t=some (.lst ys))(hP:∀m,Pr m->m≠t)(hx:G x=some (.tup [.ref m,v]))(hm:aF G m c.1)(hv:aI G (fr c.2) v)(pm:Pr m)(B:gB t G G')(h':G' t=some (.lst (ys++[.ref x]))):fL G' t (pss++[c]) Pr:=by
 obtain⟨ys',h1,h2,h3⟩:=h;rw[ht] at h1;cases h1;refine⟨_,h',by simp[h2],λk d e=>?_⟩
 by_cases z:k<pss.length
 .rw[Yy z] at e;obtain⟨x,m,v,e1,e2,e3,e4,e5⟩:=h3 k d e;exact⟨x,m,v,by rw[Yy ()];exact e1,B _ _ (λz=>by rw[z,ht] at e2;cases e2) e2,e3.but ht (hP m e5) B,aI.flat_but ht B _ _ (cE _) e4,e5⟩
 .rw[Yw ()] at e;have hm0:k-pss.length=0:=by
   have:=(List.getElem?_eq_some_iff.mp e).1;simp at this;nofun
  rw[hm0] at e;cases e;exact⟨x,m,v,by rw[Yw (),h2,hm0];rfl,B _ _ (λz=>by rw[z,ht] at hx;cases hx) hx,hm.but ht (hP m pm) B,aI.flat_but ht B _ _ (cE _) hv,pm⟩
inductive sO (K:W.Frag)(vs:List V)(H:Hp)(Q:VK)(E:XK):Prop
 | mk (a:Addr)(es qs:List (Int×Int))(x:Int×Int)(W:Nat->Int)(B:Int)(M A:Nat):vs=[.ref a]->aF (vw K H) a es->es=qs++[x]->qs.length=2*M->M<=5->(∀q∈qs,jB q)->gS qs W B->(∀i,i<=M->0<Dk W i)->Fq x->Pb A (cf es)->A<=100000->(∀(t:Addr) H' pss c,aB (vw K H) (vw K H')->vw K H t=none->pss.length=M+1->fL (vw K H') t pss (λl=>vw K H l=none/\l≠t)->pss[M]? = some c->Fq c.2->wv c.2=aj (λm=>pr (Pk W M) (Pk W M) (M+1) m) (cf es) (M+1+(M+1))->Q (.ref t) H')->sO K vs H Q E
theorem EX(F:dy K "_law_steps" "_law_steps" tY f fd) (T:dR K mg)(zCalong:cp P w K mg base "_law_along" ["_law_sums", "_law_start", "_law_found"] 6 (nZ K)) (zCx:cp P w K mg base "_law_x" ["_law_many"] 1 (JF K)) (zCsquare:cp P w K mg base "_law_square" ["_law_sums", "_law_f", "_law_g"] 5 (gR K)):aV P w K mg base dC 7 f fd ["_law_sums"] (sO K):=by
 have scN:=y7.nd;refine F.okQ y7 ?_ ?_;walk_at "q"
 .obtain⟨_,_,_,_,_,_,_,_,rfl,_⟩:=h;rfl
 .obtain⟨a,es,qs,y,W,B,M,Ab,rfl,ha,hes,lqs,M5,sq,cl,hD,fy,bes,hAb,h⟩:=h;have les:es.length=2*M+1:=by rw[hes,YB,lqs];rfl
  have fes:∀q∈es,Fq q:=λq hq=>by
   rw[hes] at hq;rcases List.mem_append.mp hq with z|z
   .exact (sq q z).1
   .rw[List.mem_singleton.mp z];exact fy
  refine⟨_,(af (aE (i:=1) scN rfl (·) (aU ac))
   (af (gh PassesOwn.never (QW.pt (pi (aH jw (ar aM ae (ai ao (by rfl) T.b_len aD (aa (qv 1) ac))) (ai ao (by rfl) T.b_len aD (aa (qv 0) ac)) (aC _)) (lX (QW.pt (fG (aH (uy hr.ul) (qv 1) (aU ac) (aC _)) (fM (aH jz (av aS (av aS (av cT (qv 1) (eE cV ae) (λ_ _=>rfl)) ae (λ_ _=>rfl)) ae (λ_ _=>rfl)) ae (aC _)))))))) (af (aE (i:=2) scN rfl (·) (ah zCalong nofun rfl (aa (qv 0) (aa (ah zCx nofun rfl (aa (ai ao (by rfl) T.b_len aD (aa (qv 1) ac)) ac)) (aa (qv 1) ac)))))
   (ag (iT (oN XG XJ XM fe (qv 1) (aa (aT (aa (qv 2) (aa (ah zCsquare nofun rfl (aa (qv 0) (aa (qv 2) (aa (qv 2) ac)))) ac))) ac))))))
   (ag (au (qv 1))))),?_⟩
  walk_at"m";skip
  have hFq:∀q∈qs,Fq q:=λq hq=>(sq q hq).1;have hB:=cl.pos;refine aP.gen λN1 hN1=>?_;symm
  refine⟨∅,λt H1 ht S1 h1=>hN1 _ _ ?_⟩;refine aP.gen λN2 hN2=>?_;obtain⟨Wv,hWv⟩ : ∃Wv:Nat->St->Hp->Prop,∀m σ H',Wv m σ H'↔X2 λ(pss:List (List (Int×Int)×(Int×Int)))(o:Option V)=>σ=[some (.ref a),some (.ref t),o]/\m=20-pss.length/\aB (vw K H) (vw K H')/\fL (vw K H') t pss (λl=>vw K H l=none/\l≠t)/\pss.length<=M+1/\(∀k c,pss[k]? = some c->k<M->dI W B k c)/\(∀c,pss[M]? = some c->Fq c.2/\wv c.2=aj (λm=>pr (Pk W M) (Pk W M) (M+1) m) (cf es) (M+1+(M+1))):=⟨_,λ_ _ _=>XD⟩;refine⟨Wv,⟨_,(hWv _ _ _).mpr ⟨[],_,rfl,rfl,S1,⟨[],h1,rfl,by simp⟩,by simp,by simp,by simp⟩⟩,λm σ H3 hw=>?_⟩
  obtain⟨pss,o,rfl,rfl,S3,sa,far,so,la⟩:=(hWv _ _ _).mp hw;obtain⟨xs,hxs,lxs,hx⟩:=id sa;have lt:∀{H':Hp},aB (vw K H3) (vw K H')->de (vw K H') t=some pss.length:=λS=>by simp only[de,S _ _ hxs,lxs]
  have key:∀H2,aB (vw K H3) (vw K H2)->pss.length<=M -> ∃n:Nat,de (vw K H2) t=some n/\JF K [V.int (n:Int)] H2 (λx H1=>nZ K [V.ref a,x,V.ref t] H1 (λx H1=>Iu K "list" (V.ref t) H1/\gR K [V.ref a,x,x] H1 (λx_1 H1=>2<=sizeLine/\Nw K H1 (HO.tup [x,x_1]) λx_2 H1=>∃xs,vw K H1 t=some (HO.lst xs)/\xs.length<sizeLine/\FZ K H1 t (HO.lst (xs++[x_2])) λH1=>∃m',m'<20-pss.length/\Wv m' [some (V.ref a),some (V.ref t),some x] H1) E0) E0) E0:=by
   intro H4 S4 hkn;refine⟨pss.length,lt S4,?_⟩;refine⟨pss.length,rfl,(),λd5 H5 S5 nd5 l5=>?_⟩;have S35:=S4.trans S5;refine⟨a,d5,t,es,qs,W,B,pss.length,pss,_,rfl,ha.same (S3.trans S35),⟨[y],hes⟩,l5,sa.same S35,rfl,(),(),(),sq,cl,λi hi=>hD i (),λi c e=>so i c e (by have:=(List.getElem?_eq_some_iff.mp e).1;nofun),λd6 H6 rs S6 nd6 l6 p6 w6=>?_⟩
   have S36:=S35.trans S6;have dn:Dk W pss.length≠0:=by have:=hD pss.length hkn;nofun
   have lr:=km p6 dn w6;have prs:Pb 11000 (cf rs):=by
    have:=(HL dn (show pss.length<=5 by nofun) (eD cl sq))
    exact (this.congr w6).mono ∅
   refine⟨jG (S36 _ _ hxs),?_⟩;have hlen:∀us,aL us->(∀k,cf us k=pr (cf rs) (cf rs) rs.length k)->us.length<=2*pss.length+1:=λus pu eu=>jp (m:=2*pss.length+1) pu λm hm=>by
    rw[eu];exact fK (n:=rs.length) (λj hj=>aK hj) _ _ ()
   have sqr:∀Q':VK,(∀v H' r,aB (vw K H6) (vw K H')->aI (vw K H') (fr r) v->Fq r->(pss.length<M->wv r=((Dk W (pss.length+1):Int):Rat)/((Dk W pss.length*B:Int):Rat))->(pss.length=M->wv r=aj (λm=>pr (Pk W M) (Pk W M) (M+1) m) (cf es) (M+1+(M+1)))->Q' v H')->gR K [.ref a,.ref d6,.ref d6] H6 Q' E0:=λQ' hQ=>by
    by_cases hlt:pss.length<M
    .refine⟨a,d6,d6,es,qs,rs,rs,170,11000,11000,rfl,ha.same (S3.trans S36),⟨[y],hes⟩,l6,l6,(),(),(),λq hq=>(sq q hq).1,p6.1,p6.1,∅,k7 sq,prs,prs,λus pu eu=>Yg (hlen us pu eu) (),λv7 H7 r S7 r7 f7 w7=>hQ v7 H7 r S7 r7 f7 (λ_=>?_) λz=>absurd z ()⟩;rw[lr,xJ dn () w6 cl.val ()] at w7;exact w7
    .have ek:pss.length=M:=();refine⟨a,d6,d6,es,es,rs,rs,Ab,11000,11000,rfl,ha.same (S3.trans S36),⟨[],by simp⟩,l6,l6,(),(),(),fes,p6.1,p6.1,(),bes,prs,prs,λus pu eu=>Yg (hlen us pu eu) (),λv7 H7 r S7 r7 f7 w7=>hQ v7 H7 r S7 r7 f7 (λz=>absurd z ()) λ_=>?_⟩
     rw[lr,ek,show cf rs=Pk W M from funext λj=>by rw[w6,ek]] at w7
     exact w7
   refine sqr _ λv7 H7 r S7 r7 f7 w7 w7'=>⟨∅,λp8 H8 hp8 S8 h8=>?_⟩;have S38:=S36.trans (S7.trans S8);refine⟨xs,S38 _ _ hxs,?_,λH9 B9 h9=>?_⟩
   .rw[lxs];have:1000<=sizeLine:=∅;nofun
   have S78:=S7.trans S8;have t0:vw K H t=none:=ht;have d6t:d6≠t:=(ap (S35 _ _ hxs) nd6).symm;refine⟨20-(pss.length+1),(),(hWv _ _ _).mpr ⟨pss++[(rs,r)],_,rfl,by simp,λb o e=>B9 _ _ (ap e t0) ((S3.trans S38) _ _ e),(sa.same S38).snoc (c:=(rs,r)) (S38 _ _ hxs) (λm z=>z.2) h8 (l6.same S78) (aI.same S8 _ _ r7) ⟨(S3.trans S35).none nd6,d6t⟩ B9 h9,by simp;nofun,λk c e hkM=>?_,λc e=>?_⟩⟩
   .by_cases z:k<pss.length
    .rw[Yy z] at e;exact so k c e hkM
    rw[Yw ()] at e;have hm0:k=pss.length:=by
     have:=(List.getElem?_eq_some_iff.mp e).1;simp at this;nofun
    subst hm0;rw[XB] at e;cases e;exact⟨p6,w6,f7,w7 hkM⟩
   .by_cases z:M<pss.length
    .rw[Yy z] at e;exact la c e
    .have hm0:M=pss.length:=by
      have:=(List.getElem?_eq_some_iff.mp e).1;simp at this;nofun
     rw[hm0,Yw (Yp _),XB] at e;cases e;exact⟨f7,w7' hm0.symm⟩
  have out:∀H2,aB (vw K H3) (vw K H2)->pss.length=M+1->N2 [some (V.ref a),some (V.ref t),o] H2:=λH2 S2 one=>by
   refine hN2 _ _ ?_;symm
   have hM:M<pss.length:=();obtain⟨l1,l2⟩:=la _ (YO hM);exact h t H2 pss _ (S3.trans S2) ht one (sa.same S2) (YO hM) l1 l2
  symm
  refine⟨_,lt .rfl,gY ∅,_,(ha.same S3).len,cz (λc1=>?_) (λc1=>out H3 .rfl ())⟩;refine⟨∅,λe4 H4 he4 S4 h4=>⟨e4,rfl,xs,S4 _ _ hxs,h4,cz (λc2=>?_) (λc2=>?_)⟩⟩
  .have p0:pss.length=0:=by rw[<-lxs,List.isEmpty_iff.mp c2];rfl
   exact⟨_,λσ' H' z=>z,key H4 S4 ()⟩
  .have p1:1<=pss.length:=by
    rw[<-lxs];exact List.length_pos_iff.mpr λz=>c2 (by rw[z];rfl)
   obtain⟨c,hc⟩ : ∃c,pss[pss.length-1]? = some c:=⟨_,YO ()⟩;obtain⟨x,l,v,e1,e2,e3,e4',e5⟩:=hx _ _ hc;obtain⟨vp,rfl,hvp⟩:=id e4'.fr_at;have xl:xs.getLast? = some (.ref x):=by rw[YX,lxs];exact e1
   have dk:=hD (pss.length-1) ();have sg:=(so _ _ hc ()).sgn hB dk;rw[show pss.length-1+1=pss.length by nofun] at sg
   refine⟨xs,S4 _ _ hxs,_,gd xl,x,rfl,_,S4 _ _ e2,_,cL,vp,rfl,_,S4 _ _ hvp,_,cS,_,rfl,cz (λc3=>?_) (λc3=>?_)⟩
   .exact⟨_,λσ' H' z=>z,key H4 S4 ()⟩
   .exact absurd (sg.mpr (hD pss.length ())) c3
def sF(K:W.Frag):Sp:=λvs H Q _=>∃x d,vs=[x]/\aI (vw K H) d x/\Q (.bl d.isInt) H
theorem Ed(F:dy K "_law_whole" "_law_whole" sn f fd) (T:dR K mg):aV P w K mg base dC 1 f fd ["_law_thing"] (sF K):=by
 have scN:=yv.nd;refine F.okQ yv ?_ ?_;walk_at "q"
 .obtain⟨a,_,rfl,_⟩:=h;rfl
 .obtain⟨x,d,rfl,hx,h⟩:=h;refine⟨_,(ag (au (fS (ai cr (by rfl) T.b_isinstance bK (aa (qv 0) (aa (eo (v:=V.ty "int") rfl T.b_int Ar rfl) ac))) (fk (vZ (ai cr (by rfl) T.b_isinstance bK (aa (qv 0) (aa (eo (v:=V.ty "bool") rfl T.b_bool yr rfl) ac)))))))),?_⟩
  walk_at"m";have ht:=aI.ty hx;walk_at"vc*";cases d<;>simpa [D.ty,fD,D.isInt] using h
def iu(K:W.Frag):Sp:=λvs H Q _=>∃x d,vs=[x]/\aI (vw K H) d x/\Q (.bl d.frac) H
theorem qF(F:dy K "_law_is_fraction" "_law_is_fraction" io f fd) (T:dR K mg)
  (zCdivisor:cp P w K mg base "_law_divisor" ["_law_one", "_law_other"] 1 (iP K)) (zCwhole:cp P w K mg base "_law_whole" ["_law_thing"] 1 (sF K)):aV P w K mg base dC 2 f fd ["_law_thing"] (iu K):=by
 have scN:=kE.nd;refine F.okQ kE ?_ ?_;walk_at "q"
 .obtain⟨a,_,rfl,_⟩:=h;rfl
 .obtain⟨x,d,rfl,hx,h⟩:=h;refine⟨_,(af (b9 (QW.pt (fG (cK (cQ (ai cr (by rfl) T.b_isinstance bK (aa (qv 0) (aa (eo (v:=V.ty "tuple") rfl T.b_tuple iS rfl) ac))))) (fG (aH kB (ai ao (by rfl) T.b_len aD (aa (qv 0) ac)) ae (aC _)) (fG (cK (cQ (ah zCwhole nofun rfl (aa (av aS (qv 0) ae (λ_ _=>rfl)) ac)))) (fM (cK (cQ (ah zCwhole nofun rfl (aa (av aS (qv 0) ae (λ_ _=>rfl)) ac))))))))) (ag (au dO)) aO)
   (ag (au (fS (bJ jz (av aS (qv 0) ae (λ_ _=>rfl)) ae (aC _)) (fk (bJ eK (ah zCdivisor nofun rfl (aa (av aS (qv 0) ae (λ_ _=>rfl)) (aa (av aS (qv 0) ae (λ_ _=>rfl)) ac))) ae (aC _))))))),?_⟩
  walk_at"m";have ht:=aI.ty hx;walk_at"vc*";simp only[sF,iP];walk_at"vc*";cases d with
  | tup ds =>
   obtain⟨a,xs,rfl,ha,r⟩:=hx.tup_at;refine dD (by simp[D.ty,fD]) ⟨a,rfl,xs.length,by simp only[de,ha],cz (λhl=>?_) (λhl=>?_)⟩
   .have e:(D.tup ds).frac=false:=by
     cases e:(D.tup ds).frac with
     | false=>rfl
     | true =>
      obtain⟨_,_,rfl,_⟩:=D.frac_tup e;have:=r.length;simp at this;nofun
    rw[e] at h;exact h
   .obtain⟨d1,d2,x1,x2,rfl,rfl,r1,r2⟩:=r.pair ();refine⟨a,rfl,_,ha,_,cS,d1,r1,cz (λi1=>?_) (λi1=>⟨a,rfl,_,ha,_,cL,d2,r2,cz (λi2=>?_) (λi2=>?_)⟩)⟩
    .cases d1<;>first|exact h|cases i1
    .cases d1<;>cases d2<;>first|exact h|cases i2
    .obtain⟨i1',rfl⟩:=D.isInt_of i1;obtain⟨i2',rfl⟩:=D.isInt_of i2;cases r1.int_at;cases r2.int_at;refine⟨a,rfl,_,ha,_,cL,_,rfl,cz (λhi=>⟨a,rfl,_,ha,_,cS,a,rfl,_,ha,_,cL,?_⟩) (λhi=>?_)⟩
     .have e:=yh (t:=i1') (b:=i2') ();rw[e] at h;exact⟨_,rfl,_,rfl,h⟩
     .have e:=yd (t:=i1') (b:=i2') ();rw[e] at h;exact h
  | _=>exact gW (by simp[D.ty,fD]) h
inductive eX (K:W.Frag)(vs:List V)(H:Hp)(Q:VK)(E:XK):Prop
 | mk (x d:_):vs=[x]->aI (vw K H) d x->d.len<=1000->(∀H',aB (vw K H) (vw K H')->Q (.bl d.poly) H')->eX K vs H Q E
theorem nH(F:dy K "_law_is_polynomial" "_law_is_polynomial" gv f fd) (T:dR K mg)(zCis_fraction:cp P w K mg base "_law_is_fraction" ["_law_thing"] 2 (iu K)):aV P w K mg base dC 3 f fd ["_law_thing"] (eX K):=by
 have scN:=jv.nd;refine F.okQ jv ?_ ?_;walk_at "q"
 .obtain⟨a,_,rfl,_⟩:=h;rfl
 .obtain⟨x,d,rfl,hx,hdl,h⟩:=h;refine⟨_,(af (b9 (QW.pt (fG (cK (cQ (ai cr (by rfl) T.b_isinstance bK (aa (qv 0) (aa (eo (v:=V.ty "list") rfl T.b_list fH rfl) ac))))) (fM (aH (CF hr.ul) (dH (own:=["_law_one"]) (outs:=[]) (ixs:=[]) rfl (cR (qv 0)) rfl ⟨rfl,rfl,rfl,trivial,rfl,trivial⟩ (λ_ _ _ _=>⟨(aq (i:=0) (show (["_law_one"]:List Str).Nodup by decide +kernel) rfl (·)),(Gv (cK (cQ (ah zCis_fraction nofun rfl (aa (qv 0) ac))))),(qv 0)⟩)) (aU ac) (aC _))))) (ag (au dO)) aO)
   (ag (au (vd (bJ (uy hr.ul) (qv 0) (aU ac) (aC _)) (fk (bJ (qu hr.u64) (av cT (qv 0) (eE cV ae) (λ_ _=>rfl)) (aT (aa ae (aa ae ac))) (aC _))))))),?_⟩
  walk_at"m";have ht:=aI.ty hx;walk_at"vc*";cases d with
  | lst ds =>
   obtain⟨a,xs,rfl,ha,r⟩:=hx.lst_at;refine dD (by simp[D.ty,fD]) ⟨a,rfl,⟨xs,.of (aQ ha)⟩,λc H2 hc S2 h2=>?_⟩
   have hac:a≠c:=ap ha hc;refine cn (its:=xs) (λi ys H'=>aB (vw K H) (vw K H')/\(ys=[]↔(ds.take i).all D.frac=true)/\ys.length<=i) (λi ys H' _ _ p=>bI (p.1 _ _ ha)) h2 ⟨S2,by simp,Yp _⟩ (λi x ys H' hi hx' h' p=>?_) (λys H' h' p=>?_)
   .obtain⟨S',hall,hlen⟩:=p;obtain⟨d',hd',r'⟩:=r.get hx';have e1:(ds.take (i+1)).all D.frac=((ds.take i).all D.frac && d'.frac):=by
     rw[Xb,hd'];simp
    symm
    simp only[iu];symm
    refine⟨d',aI.same S' _ _ r',cz (λhf=>?_) (λhf=>?_)⟩
    .refine .mk h' ?_ λH5 B5 h5=>⟨λb o e=>B5 _ _ (ap e hc) (S' _ _ e),?_,?_⟩
     .have h1:ds.length<=1000:=hdl;have h2:=r.length;have h3:1000<=sizeLine:=∅;nofun
     .rw[e1,hf];simp
     .simp;nofun
    .refine .mk h' ⟨S',?_,()⟩;rw[e1,hall];simp[hf]
   .obtain⟨S',hall,hlen⟩:=p;rw[r.length,Xd] at hall;refine⟨∅,λp1 H3 hp1 S3 h3=>⟨p1,rfl,ys,S3 _ _ h',h3,?_⟩⟩;cases hys:ds.all D.frac with
    | false =>
     refine gW ?_ ?_
     .cases ys with
      | nil=>rw[hall.mp rfl] at hys;cases hys
      | cons _ _=>rfl
     .have e:(D.lst ds).poly=false:=by
       show (ds.all D.frac && i8 ds)=_;rw[hys];rfl
      rw[e] at h;exact h _ (S'.trans S3)
    | true =>
     refine dD ?_ ?_
     .rw[hall.mpr hys];simp
     .refine⟨∅,λp2 H4 hp2 S4 h4=>⟨a,rfl,p2,rfl,xs,(S'.trans (S3.trans S4)) _ _ ha,h4,cz (λh0=>?_) (λh0=>?_)⟩⟩
      .have e:ds=[]:=by
        have:=r.length;have z:xs=[]:=by simpa using h0
        rw[z] at this;exact XO this.symm
       subst e;exact h _ (S'.trans (S3.trans S4))
      .have hn:ds≠[]:=by
        rintro rfl;cases r.nil_at;exact h0 rfl
       obtain⟨q,hq,fq⟩:=pS hys hn;obtain⟨x,hx',rx⟩:=r.last hq;refine⟨a,rfl,xs,(S'.trans (S3.trans S4)) _ _ ha,x,gd hx',∅,λp5 H5 hp5 S5 h5=>?_⟩;have S05:=S'.trans (S3.trans (S4.trans S5));refine⟨_,aI.same S05 _ _ rx,fr (0,1),bC h5,dG _,dG _,?_⟩;rw[jJ];have e:(D.lst ds).poly = !decide (q=(0,1)):=by
        show (ds.all D.frac && i8 ds)=_;rw[hys,Bool.true_and];exact kg hq
       rw[e] at h;exact h _ S05
  | _=>exact gW (by simp[D.ty,fD]) (h _ (λ_ _ z=>z))
theorem AS:∀(qs:List (Int×Int)),(∀q∈qs,0<q.2) -> ∃B:Int,0<B/\(∀q∈qs,q.2∣B) /\ ∀E:Int,(∀q∈qs,q.2∣E)->B∣E
 | [],_=>⟨1,∅,by simp,λE _=>Int.one_dvd E⟩
 | q::qs,h=>by
  obtain⟨B,h0,h1,h2⟩:=AS qs λx hx=>h x (Yj _ hx);have hq:=h q Yi;refine⟨(Int.lcm q.2 B:Int),?_,λx hx=>?_,λE hE=>?_⟩
  .have:=Int.lcm_pos (m:=q.2) (n:=B) () ();nofun
  .rcases YY.mp hx with z|z
   .rw[z];exact Int.dvd_lcm_left q.2 B
   .exact Int.dvd_trans (h1 x z) (Int.dvd_lcm_right q.2 B)
  .refine Int.natAbs_dvd_natAbs.mp ?_;show Nat.lcm q.2.natAbs B.natAbs∣E.natAbs;exact Nat.lcm_dvd (Int.natAbs_dvd_natAbs.mpr (hE q Yi)) (Int.natAbs_dvd_natAbs.mpr (h2 E λx hx=>hE x (Yj _ hx)))
theorem wB{qs:List (Int×Int)}(sq:eH qs):∃(W:Nat->Int)(B:Int),gS qs W B:=by
 obtain⟨B,h0,h1,h2⟩:=AS qs λq hq=>(sq q hq).1.1;have c0:((0:Int):Rat)=0:=rfl;obtain⟨W,hW⟩ : ∃W:Nat->Int,∀i,((W i:Int):Rat)=cf qs i*(B:Rat):=by
  have:∀i,∃n:Int,(n:Rat)=cf qs i*(B:Rat):=λi=>by
   cases e:qs[i]? with
   | none =>
    refine⟨0,?_⟩;rw[aK (List.getElem?_eq_none_iff.mp e),c0];grind
   | some q =>
    have hq:=YA e;obtain⟨d,hd⟩:=h1 q hq;have n2:=am (sq q hq).1.ne;refine⟨q.1*d,?_⟩;rw[aG e,hd,Xa,Xa];unfold wv;grind
  exact⟨λi=>(this i).choose,λi=>(this i).choose_spec⟩
 refine⟨W,B,h0,hW,h2,λi=>?_⟩;obtain⟨D,d0,bD,o⟩:=mD sq;have dv:B∣D:=h2 D λq hq=>by
  obtain⟨j,hj⟩:=XI hq;obtain⟨n,hn,_⟩:=o j;rw[aG hj] at hn;have fq:=(sq q hq).1;have n1:=am fq.ne;have n2:=am d0;have e:((q.1*D:Int):Rat)=((n*q.2:Int):Rat):=by
   rw[Xa,Xa];unfold wv at hn;grind
  have e2:q.1*D=n*q.2:=by exact_mod_cast e
  have g2:Int.gcd q.2 q.1=1:=by rw[Int.gcd_comm];exact fq.2
  exact Int.natAbs_dvd_natAbs.mp (Nat.Coprime.dvd_of_dvd_mul_left (k:=q.2.natAbs) (m:=q.1.natAbs) (n:=D.natAbs) g2 (by rw[<-YV,e2];exact Int.natAbs_dvd_natAbs.mpr ⟨n,Y6 _ _⟩))
 obtain⟨n,hn,bn⟩:=o i;have n2:=am d0;have e:((W i*D:Int):Rat)=((n*B:Int):Rat):=by
  rw[Xa,Xa,hW i,hn];grind
 have e2:W i*D=n*B:=by exact_mod_cast e
 have e3:(W i).natAbs*D.natAbs=n.natAbs*B.natAbs:=by rw[<-YV,e2,YV]
 have le:=Nat.le_of_dvd () (Int.natAbs_dvd_natAbs.mpr dv);have l2:n.natAbs*B.natAbs<=n.natAbs*D.natAbs:=Xs _ le;have l3:(W i).natAbs<=n.natAbs:=Nat.le_of_mul_le_mul_right (by nofun : (W i).natAbs*D.natAbs<=n.natAbs*D.natAbs) ()
 unfold Bt at bn ⊢;nofun
theorem yq{W:Nat->Int}{n:Nat}(h:1<=n):∃M,fU W n M:=by
 have step:∀f M,1<=M->2*M<=n+1->(∀i,i<M->0<Dk W i)->n<=M+f -> ∃M',fU W n M':=by
  intro f;induction f with
  | zero=>exact λM h1 h2 h3 h4=>⟨M,h1,h3,h2,.inl ()⟩
  | succ f ih =>
   intro M h1 h2 h3 h4;by_cases e:n<=2*M\/Dk W M<=0
   .exact⟨M,h1,h3,h2,e⟩
   .have e1:¬ n<=2*M:=λz=>e (.inl z);have e2:¬ Dk W M<=0:=λz=>e (.inr z);refine ih (M+1) () () (λi hi=>?_) ();by_cases z:i=M
    .rw[z];nofun
    .exact h3 i ()
 exact step n 1 ∅ () (λi hi=>by rw[show i=0 by nofun,Ah];decide) ()
def wQ(qs:List (Int×Int))(d:D):Prop:=(∃fs,d=.tup [.str "below",.lst (fs.map fr)]/\aL fs/\rK qs.length fs fs/\wo qs fs fs<0)\/X2 λfs gs=>d=.tup [.str "nought",.lst (fs.map fr),.lst (gs.map fr)]/\aL fs/\aL gs/\rK qs.length fs fs/\rK qs.length fs gs/\wo qs fs fs=0/\wo qs fs gs≠0
def Ky(d:D):Prop:=∀ds,d=.tup ds -> ∀e∈ds,∀fs:List (Int×Int),e=.lst (fs.map fr)->aL fs->fs.length<=14 /\ ∀q∈fs,Bq 11000 q
theorem y9{H:Hp}{d:D}{x:V}{w:Str}(r:aI H d x):x=.str w↔d=.str w:=by
 cases d with
 | str y=>unfold aI at r;subst r;exact⟨λz=>(by cases z;rfl),λz=>(by cases z;rfl)⟩
 | non=>unfold aI at r;subst r;exact⟨λz=>(by cases z),λz=>(by cases z)⟩
 | bl b=>unfold aI at r;subst r;exact⟨λz=>(by cases z),λz=>(by cases z)⟩
 | int i=>unfold aI at r;subst r;exact⟨λz=>(by cases z),λz=>(by cases z)⟩
 | dict=>unfold aI at r;obtain⟨_,_,rfl,_⟩:=r;exact⟨λz=>(by cases z),λz=>(by cases z)⟩
 | tup ds=>obtain⟨_,_,rfl,_⟩:=r.tup_at;exact⟨λz=>(by cases z),λz=>(by cases z)⟩
 | lst ds=>obtain⟨_,_,rfl,_⟩:=r.lst_at;exact⟨λz=>(by cases z),λz=>(by cases z)⟩
theorem Hk{n:Nat}{fs gs us:List (Int×Int)}(pf:aL fs)(pg:aL gs)(eu:∀k,cf us k=pr (cf fs) (cf gs) fs.length k)(h:us.length<=n):rK n fs gs:=by
 by_cases a:fs=[]
 .exact .inl a
 by_cases b:gs=[]
 .exact .inr (.inl b)
 refine .inr (.inr ?_);have la:=List.length_pos_iff.mpr a;have lb:=List.length_pos_iff.mpr b;refine Nat.le_of_not_lt λz=>?_;obtain⟨m,hm⟩ : ∃m,fs.length=m+1:=⟨fs.length-1,()⟩;have e:=eu (m+(gs.length-1));have t:pr (cf fs) (cf gs) (m+1) (m+(gs.length-1))=pr (cf fs) (cf gs) m (m+(gs.length-1))+(if m<=m+(gs.length-1) then cf fs m*cf gs (m+(gs.length-1)-m) else 0):=rfl
 rw[aK (),hm,t,fK (n:=gs.length) (λi hi=>aK hi) _ _ (),Yb (),Nat.add_sub_cancel_left] at e;have p1:=iK pf a;have p2:=iK pg b;rw[hm,XA] at p1;grind
theorem wQ.parts{qs:List (Int×Int)}{d0:D}{ds:List D}(b:wQ qs (.tup (d0::ds))):∀e∈ds,e.poly=true:=by
 rcases b with ⟨fs,z,p,_⟩|⟨fs,gs,z,p1,p2,_⟩
 .injection z with z
  injection z with _ z
  subst z;intro e he;rw[List.mem_singleton.mp he];exact mS p
 .injection z with z
  injection z with _ z
  subst z;intro e he;rcases YY.mp he with y|y
  .rw[y];exact mS p1
  .rw[List.mem_singleton.mp y];exact mS p2
inductive qb (K:W.Frag)(vs:List V)(H:Hp)(Q:VK)(E:XK):Prop
 | mk (a:Addr)(x:V)(qs:List (Int×Int))(d:D):vs=[.ref a,x]->aF (vw K H) a qs->qs.length<=11->eH qs->aI (vw K H) d x->Ky d->(∀ds,d=.tup ds -> ∀e∈ds,e.len<=1000)->(∀(t:Bool) H',aB (vw K H) (vw K H')->(t=true↔wQ qs d)->Q (.bl t) H')->qb K vs H Q E
theorem Cb(F:dy K "_law_is_bar" "_law_is_bar" qt f fd) (T:dR K mg)(zCis_polynomial:cp P w K mg base "_law_is_polynomial" ["_law_thing"] 3 (eX K)) (zCmultiplied:cp P w K mg base "_law_multiplied" ["_law_f", "_law_g"] 4 (eA K)) (zCsquare:cp P w K mg base "_law_square" ["_law_sums", "_law_f", "_law_g"] 5 (gR K)):aV P w K mg base dC 6 f fd ["_law_sums", "_law_thing"] (qb K):=by
 have scN:=uH.nd;refine F.okQ uH ?_ ?_;walk_at "q"
 .obtain⟨_,_,_,_,rfl,_⟩:=h;rfl
 .obtain⟨a,x,qs,d,rfl,ha,l11,sq,hx,tb,ln,h⟩:=h;refine⟨_,(af (b9 (QW.pt (fG (cK (cQ (ai cr (by rfl) T.b_isinstance bK (aa (qv 1) (aa (eo (v:=V.ty "tuple") rfl T.b_tuple iS rfl) ac))))) (fG (aH iX (ai ao (by rfl) T.b_len aD (aa (qv 1) ac)) (aT (aa ae (aa ae ac))) (by rfl)) (fM (cK (cQ (ai cr (by rfl) T.b_isinstance bK (aa (av aS (qv 1) ae (λ_ _=>rfl)) (aa (eo (v:=V.ty "str") rfl T.b_str Ht rfl) ac))))))))) (ag (au dO)) aO)
   (af (cC PassesOwn.never rfl (wS (cZ oz (qv 1) (dU ae) dS)) (aq (i:=2) scN rfl (·)) (ag (b9 (cK (cQ (ah zCis_polynomial nofun rfl (aa (qv 2) ac)))) (ag (au dO)) aO)))
   (af (cC PassesOwn.never rfl (wS (cZ oz (qv 1) (dU ae) dS)) (aq (i:=2) scN rfl (·)) (ag (b9 (aH jz (ai ao (by rfl) T.b_len aD (aa (ah zCmultiplied nofun rfl (aa (av aS (qv 1) ae (λ_ _=>rfl)) (aa (qv 2) ac))) ac)) (ai ao (by rfl) T.b_len aD (aa (qv 0) ac)) (aC _)) (ag (au dO)) aO)))
   (af (aE (i:=3) scN rfl (·) (av aS (ah zCsquare nofun rfl (aa (qv 0) (aa (av aS (qv 1) ae (λ_ _=>rfl)) (aa (av aS (qv 1) ae (λ_ _=>rfl)) ac)))) ae (λ_ _=>rfl)))
   (af (b9 (aH eK (ai ao (by rfl) T.b_len aD (aa (qv 1) ac)) ae (aC _)) (ag (au (fS (bJ eK (av aS (qv 1) ae (λ_ _=>rfl)) dc (aC _)) (fk (bJ jw (qv 3) ae (aC _)))))) aO)
   (af (b9 (aH jz (ai ao (by rfl) T.b_len aD (aa (ah zCmultiplied nofun rfl (aa (av aS (qv 1) ae (λ_ _=>rfl)) (aa (av aS (qv 1) ae (λ_ _=>rfl)) ac))) ac)) (ai ao (by rfl) T.b_len aD (aa (qv 0) ac)) (aC _)) (ag (au dO)) aO)
   (ag (au (fS (bJ eK (av aS (qv 1) ae (λ_ _=>rfl)) dc (aC _)) (fS (bJ eK (qv 3) ae (aC _)) (fk (bJ kB (av aS (ah zCsquare nofun rfl (aa (qv 0) (aa (av aS (qv 1) ae (λ_ _=>rfl)) (aa (av aS (qv 1) ae (λ_ _=>rfl)) ac)))) ae (λ_ _=>rfl)) ae (aC _))))))))))))),?_⟩
  walk_at"m";skip
  have no:¬ wQ qs d -> ∀H',aB (vw K H) (vw K H')->Q (.bl false) H':=λn H' S=>h false H' S ⟨λz=>(by cases z),λz=>absurd z n⟩
  have ht:=aI.ty hx;refine aP.gen λN1 hN1=>?_;symm
  refine⟨_,ht,?_⟩;cases d with
  | tup ds =>
   obtain⟨p,xs,rfl,hp,r⟩:=hx.tup_at;have lds:=r.length;have lnh:∀H',aB (vw K H) (vw K H')->de (vw K H') p=some xs.length:=λH' S=>by simp only[de,S _ _ hp]
   refine dD (by simp[D.ty,fD]) ⟨p,rfl,xs.length,lnh _ .rfl,∅,λt1 H1 ht1 S1 h1=>⟨t1,_,rfl,.inr (dF h1),rfl,rfl,?_⟩⟩
   by_cases l23:¬ (xs.length=2\/xs.length=3)
   .have e:(if true=true then !Ag (V.int (xs.length:Nat)) [V.int 2,V.int 3] else Ag (V.int (xs.length:Nat)) [V.int 2,V.int 3])=true:=by
     have n2:((xs.length:Nat):Int)≠2:=();have n3:((xs.length:Nat):Int)≠3:=();show (!([V.int 2,V.int 3].any λy=>DO y (V.int (xs.length:Nat))))=true;simp only[List.any_cons,List.any_nil,Bool.or_false,Bool.not_eq_true',Bool.or_eq_false_iff];exact⟨by show (2==((xs.length:Nat):Int))=false;exact beq_eq_false_iff_ne.mpr (Yk n2),by show (3==((xs.length:Nat):Int))=false;exact beq_eq_false_iff_ne.mpr (Yk n3)⟩
    rw[e];refine⟨true,rfl,gW rfl (no ?_ H1 S1)⟩;rintro (⟨fs,z,_⟩|⟨fs,gs,z,_⟩)
    .injection z with z
     rw[z] at lds;simp at lds;nofun
    .injection z with z
     rw[z] at lds;simp at lds;nofun
   have e:(if true=true then !Ag (V.int (xs.length:Nat)) [V.int 2,V.int 3] else Ag (V.int (xs.length:Nat)) [V.int 2,V.int 3])=false:=by
    rcases Classical.not_not.mp l23 with z|z<;>(rw[z];decide +kernel)
   have l23:=Classical.not_not.mp l23;rw[e];obtain⟨d0,d1,dr,rfl,ldr⟩ : ∃d0 d1 dr,ds=d0::d1::dr/\dr.length<=1:=by
    match ds,lds with
    | [],z=>simp only[XC] at z;nofun
    | [_],z=>simp only[Xm,XC] at z;nofun
    | d0::d1::dr,z=>exact⟨d0,d1,dr,rfl,by simp only[Xm] at z;nofun⟩
   obtain⟨x0,xr,rfl,r0,rr⟩:=r.cons_at;refine⟨false,rfl,dD ∅ ⟨p,rfl,_,S1 _ _ hp,_,cS,.inr (.inr (.inr (.inr (.inl rfl)))),_,aI.ty (aI.same S1 _ _ r0),cz (λe4=>no ?_ H1 S1) (λe4=>hN1 _ _ ?_)⟩⟩
   .rintro (⟨fs,z,_⟩|⟨fs,gs,z,_⟩)
    .injection z with z
     injection z with z _
     rw[z] at e4;simp[D.ty,fD] at e4
    .injection z with z
     injection z with z _
     rw[z] at e4;simp[D.ty,fD] at e4
   obtain⟨w0,rfl⟩ : ∃w0,d0=.str w0:=by
    cases d0<;>first|exact⟨_,rfl⟩|(exfalso;revert e4;simp[D.ty,fD])
   obtain rfl:=(y9 r0).mpr rfl;have lxr:=rr.length;have e21:iE (.str w0::xr) (some 1) none=xr:=by
    have:=iD (xs:=V.str w0::xr) (k:=1) (by simp)
    simpa using this
   have nf:¬ (HT.sIx (V.str w0::xr).length 0 (some 1)=0/\HT.sIx (V.str w0::xr).length (V.str w0::xr).length none=(V.str w0::xr).length):=λz=>absurd z.1 (by unfold HT.sIx;simp)
   refine aP.gen λN2 hN2=>?_;symm
   simp only[qW];refine⟨p,rfl,_,S1 _ _ hp,nf,λp2 H2 hp2 S2 h2=>?_⟩;rw[e21] at h2;have S02:=S1.trans S2;refine⟨p2,rfl,⟨_,dF h2⟩,?_⟩;obtain⟨Pv,hPv⟩ : ∃Pv:Nat->St->Hp->Prop,∀i σ H',Pv i σ H' ↔ ∃o,σ=[some (.ref a),some (.ref p),o,none]/\aB (vw K H2) (vw K H') /\ ∀e∈(d1::dr).take i,e.poly=true:=⟨_,λ_ _ _=>XD⟩;refine aX (its:=xr) Pv (λi σ H' _ z=>?_) ((hPv _ _ _).mpr ⟨_,rfl,.rfl,by simp⟩) (λi x σ H3 hi hx' pv=>?_) (λσ H3 pv=>hN2 _ _ ?_)
   .obtain⟨_,_,S',_⟩:=(hPv _ _ _).mp z;exact ki (S' _ _ h2)
   .obtain⟨o,rfl,S',hal⟩:=(hPv _ _ _).mp pv;obtain⟨d',hd',r'⟩:=rr.get hx';have hm:d'∈d1::dr:=YA hd';symm
    refine⟨_,d',rfl,aI.same (S02.trans S') _ _ r',ln _ rfl d' (Yj _ hm),λH4 S4=>⟨_,rfl,cz (λhf=>no (λb=>?_) _ (S02.trans (S'.trans S4))) (λhf=>(hPv _ _ _).mpr ⟨_,rfl,S'.trans S4,λe he=>?_⟩)⟩⟩
    .rw[b.parts d' hm] at hf;cases hf
    .rw[Xb,hd'] at he;simp only[Option.toList_some,List.mem_append,List.mem_singleton] at he;rcases he with z|z
     .exact hal e z
     .rw[z];simpa using hf
   obtain⟨o,rfl,S',hall⟩:=(hPv _ _ _).mp pv;rw[lxr,Xd] at hall;have S04:=S02.trans S';obtain⟨fs,rfl,pf⟩:=tF (hall d1 Yi);obtain⟨x1,xq,rfl,r1,rq⟩:=rr.cons_at;obtain⟨l,zs,rfl,hl0,rz0⟩:=r1.lst_at;have hl:aF (vw K H) l fs:=⟨zs,hl0,rz0⟩;obtain⟨lf,bf⟩:=tb _ rfl (.lst (fs.map fr)) (by simp) fs rfl pf
   have pbf:=ot (b:=11000) (fs:=fs) λq hq=>⟨pf.1 q hq,bf q hq⟩;have bt:wQ qs (.tup (.str w0 :: .lst (fs.map fr)::dr))->rK qs.length fs fs /\ ∀gs:List (Int×Int),.lst (gs.map fr)∈dr->rK qs.length fs gs:=λb=>by
    rcases b with ⟨fs',z,_,b2,_⟩|⟨fs',gs',z,_,_,b3,b4,_⟩
    .injection z with z
     injection z with _ z
     injection z with z1 z2
     have u1:=fN z1;subst u1 z2;exact⟨b2,λgs hg=>by cases hg⟩
    .injection z with z
     injection z with _ z
     injection z with z1 z2
     have u1:=fN z1;subst u1 z2;exact⟨b3,λgs hg=>by have:=fN (List.mem_singleton.mp hg);subst this;exact b4⟩
   refine aP.gen λN3 hN3=>?_;symm
   simp only[qW];refine⟨p,rfl,_,S04 _ _ hp,nf,λp5 H5 hp5 S5 h5=>?_⟩;rw[e21] at h5;have S05:=S04.trans S5;refine⟨p5,rfl,⟨_,dF h5⟩,?_⟩;obtain⟨Pw,hPw⟩ : ∃Pw:Nat->St->Hp->Prop,∀i σ H',Pw i σ H' ↔ ∃o,σ=[some (.ref a),some (.ref p),o,none]/\aB (vw K H5) (vw K H') /\ ∀gs:List (Int×Int),.lst (gs.map fr)∈(.lst (fs.map fr)::dr).take i->rK qs.length fs gs:=⟨_,λ_ _ _=>XD⟩;refine aX (its:=.ref l::xq) Pw (λi σ H' _ z=>?_) ((hPw _ _ _).mpr ⟨_,rfl,.rfl,by simp⟩) (λi x σ H6 hi hx' pw=>?_) (λσ H6 pw=>hN3 _ _ ?_)
   .obtain⟨_,_,S',_⟩:=(hPw _ _ _).mp z;exact ki (S' _ _ h5)
   .obtain⟨o,rfl,S',hal⟩:=(hPw _ _ _).mp pw;obtain⟨d',hd',r'⟩:=rr.get hx';have hm:d' ∈ .lst (fs.map fr)::dr:=YA hd';obtain⟨gs,rfl,pg⟩:=tF (hall d' hm);obtain⟨l2,ws,rfl,hw0,rw0⟩:=r'.lst_at;have hl2:aF (vw K H) l2 gs:=⟨ws,hw0,rw0⟩;obtain⟨lg,bg⟩:=tb _ rfl (.lst (gs.map fr)) (Yj _ hm) gs rfl pg;have pbg:=ot (b:=11000) (fs:=gs) λq hq=>⟨pg.1 q hq,bg q hq⟩;have S0:=S05.trans S';symm
    refine⟨_,S0 _ _ hp,_,cL,?_⟩;simp only[eA];refine⟨l,l2,fs,gs,_,_,rfl,hl.same S0,hl2.same S0,(),(),?_,pf.1,pg.1,pbf,pbg,λd7 H7 rs S7 l7 _ p7 w7 n7=>⟨d7,rfl,_,l7.len,_,(ha.same (S0.trans S7)).len,?_⟩⟩
    .nofun
    refine cz (λhf=>no (λb=>?_) _ (S0.trans S7)) (λhf=>(hPw _ _ _).mpr ⟨_,rfl,S'.trans S7,λks hk=>?_⟩)
    .have ft:rK qs.length fs gs:=by
      rcases YY.mp hm with z|z
      .rw[fN z];exact (bt b).1
      .exact (bt b).2 gs z
     have:=jo ft p7 w7;nofun
    .rw[Xb,hd'] at hk;simp only[Option.toList_some,List.mem_append,List.mem_singleton] at hk;rcases hk with z|z
     .exact hal ks z
     .rw[fN z];exact Hk pf pg w7 ()
   obtain⟨o,rfl,S',hal⟩:=(hPw _ _ _).mp pw;rw[lxr,Xd] at hal;have S07:=S05.trans S';have fit:=hal fs Yi;have lf11:fs.length<=11:=by
    rcases fit with z|z|z
    .rw[z];simp
    .rw[z];simp
    .nofun
   have spb:=mD sq;have ext:∃ext,qs=qs++ext:=⟨[],by simp⟩
   refine aP.gen λN4 hN4=>?_;symm
   refine⟨_,S07 _ _ hp,_,cL,_,S07 _ _ hp,_,cL,a,l,l,qs,qs,fs,fs,_,_,_,rfl,ha.same S07,ext,hl.same S07,hl.same S07,(),(),(),λq hq=>(sq q hq).1,pf.1,pf.1,?_,spb,pbf,pbf,λus pu eu=>jo fit pu eu,λv8 H8 r8 S8 rr8 f8 w8=>?_⟩
   .nofun
   rw[rP (uT fs) (by rcases fit with z|z|z<;>first|(rw[z];simp;done)|nofun)] at w8
   have S08:=S07.trans S8;obtain⟨x8,rfl,hx8⟩:=rr8.fr_at;refine⟨_,rfl,_,hx8,_,cS,hN4 _ _ ?_⟩;have st:∀{s:Str},(V.str w0=.str s)↔w0=s:=λ{s}=>⟨λz=>by injection z,λz=>by rw[z]⟩
   refine aP.gen λN5 hN5=>?_;symm
   refine⟨_,lnh _ S08,cz (λe9=>?_) (λe9=>hN5 _ _ ?_)⟩
   .obtain rfl:dr=[]:=XO (by have:=rq.length;simp only[Xm] at e9;nofun)
    refine⟨_,S08 _ _ hp,_,cS,rfl,cz (λe10=>?_) (λe10=>no (λb=>?_) _ S08)⟩
    .refine h _ H8 S08 ⟨λz=>.inl ⟨fs,by rw[st.mp e10],pf,fit,?_⟩,λz=>YM ((rW f8).mpr ?_)⟩
     .show ip _ _ _ _ _<0;rw[<-w8];exact (rW f8).mp (XF z)
     .rw[w8];rcases z with ⟨fs',z,_,_,b3⟩|⟨_,_,z,_⟩
      .injection z with z
       injection z with _ z
       injection z with z1 _
       have u1:=fN z1;subst u1;exact b3
      .injection z with z
       have:=Yn List.length z;simp at this
    .rcases b with ⟨_,z,_⟩|⟨_,_,z,_⟩
     .injection z with z
      injection z with z _
      injection z with z
      exact e10 (st.mpr z)
     .injection z with z
      have:=Yn List.length z;simp at this
   obtain⟨d2,rfl⟩ : ∃d2,dr=[d2]:=by
    match dr,ldr,rq.length with
    | [],_,z=>simp only[XC] at z;simp only[Xm,z] at e9;exact absurd rfl e9
    | [d2],_,_=>exact⟨d2,rfl⟩
    | _::_::_,z,_=>simp only[Xm] at z;nofun
   obtain⟨gs,rfl,pg⟩:=tF (hall d2 (by simp))
   obtain⟨x2,xs2,rfl,r2,rn⟩:=rq.cons_at;cases rn.nil_at;obtain⟨l2,ws,rfl,hw0,rw0⟩:=r2.lst_at;have hl2:aF (vw K H) l2 gs:=⟨ws,hw0,rw0⟩;obtain⟨lg,bg⟩:=tb _ rfl (.lst (gs.map fr)) (by simp) gs rfl pg
   have pbg:=ot (b:=11000) (fs:=gs) λq hq=>⟨pg.1 q hq,bg q hq⟩;have fit2:=hal gs (by simp)
   have bp:wQ qs (.tup [.str w0,.lst (fs.map fr),.lst (gs.map fr)])->w0 = "nought" /\ wo qs fs fs=0/\wo qs fs gs≠0:=λb=>by
    rcases b with ⟨_,z,_⟩|⟨fs',gs',z,_,_,_,_,b5,b6⟩
    .injection z with z
     have:=Yn List.length z;simp at this
    .injection z with z
     injection z with z0 z
     injection z with z1 z
     injection z with z2 _
     have u1:=fN z1;have u2:=fN z2;injection z0 with z0
     subst u1 u2;exact⟨z0,b5,b6⟩
   have z0:∀{q:Int×Int},Fq q->(q.1=0↔wv q=0):=λf=>(fP f.ne).symm;have vi:∀{i:Int},(V.int i=.int 0)↔i=0:=λ{i}=>⟨λz=>by injection z,λz=>by rw[z]⟩
   refine aP.gen λN6 hN6=>?_;symm
   simp only[eA];refine⟨_,S08 _ _ hp,_,cL,_,S08 _ _ hp,_,cL,l,l,fs,fs,_,_,rfl,hl.same S08,hl.same S08,(),(),?_,pf.1,pf.1,pbf,pbf,λd9 H9 us S9 l9 _ p9 w9 n9=>⟨d9,rfl,_,l9.len,_,(ha.same (S08.trans S9)).len,dD ?_ (hN6 _ _ ?_)⟩⟩
   .nofun
   .have:=jo fit p9 w9;nofun
   have S08':=S08.trans S9;symm
   refine⟨_,S08' _ _ hp,_,cS,rfl,cz (λe10=>?_) (λe10=>no (λb=>e10 (st.mpr (bp b).1)) _ S08')⟩;refine cz (λe11=>?_) (λe11=>no (λb=>e11 ((z0 f8).mpr (by rw[w8];exact (bp b).2.1))) _ S08')
   refine⟨_,S08' _ _ hp,_,cL,_,S08' _ _ hp,_,BP,a,l,l2,qs,qs,fs,gs,_,_,_,rfl,ha.same S08',ext,hl.same S08',hl2.same S08',(),(),(),λq hq=>(sq q hq).1,pf.1,pg.1,?_,spb,pbf,pbg,λus pu eu=>jo fit2 pu eu,λv9 H10 r9 S10 rr9 f9 w9'=>?_⟩
   .nofun
   rw[rP (uT gs) (by rcases fit2 with z|z|z<;>first|(rw[z];simp;nofun)|nofun)] at w9'
   have S09:=S08'.trans S10;obtain⟨x9,rfl,hx9⟩:=rr9.fr_at;have w80:wo qs fs fs=0:=by
    show ip _ _ _ _ _=0;rw[<-w8];exact (z0 f8).mp e11
   refine⟨_,rfl,_,hx9,_,cS,rfl,h _ H10 S09 ⟨λz=>.inr ⟨fs,gs,by rw[st.mp e10],pf,pg,fit,fit2,w80,λy=>?_⟩,λz=>?_⟩⟩
   .have y':wv r9=0:=by rw[w9'];exact y
    rw[(z0 f9).mpr y'] at z;simp at z
   .have n9:r9.1≠0:=λy=>(bp z).2.2 (by show ip _ _ _ _ _=0;rw[<-w9'];exact (z0 f9).mp y)
    simp[n9]
  | _=>exact gW (by simp[D.ty,fD]) (no (by rintro (⟨fs,z,_⟩|⟨fs,gs,z,_⟩)<;>cases z) H .rfl)
theorem Bk{q:Int×Int}(f:Fq q):0<q.1↔0<wv q:=by
 have c:=Rat.intCast_pos.mpr f.1;unfold wv;rw[Rat.lt_div_iff c];have c0:((0:Int):Rat)=0:=rfl;rw[show (0:Rat)*(q.2:Rat)=((0:Int):Rat) by rw[c0];grind]
 exact Rat.intCast_lt_intCast.symm
theorem qM{ts qs:List (Int×Int)}{n:Nat}(ft:∀q∈ts,Fq q)(fq:∀q∈qs,Fq q)(h1:n<=ts.length)(h2:n<=qs.length)(e:∀k,k<n->cf ts k=cf qs k):ts.take n=qs.take n:=by
 refine List.ext_getElem (by rw[Yu,Yu];nofun) λi a b=>?_
 rw[Yu] at a b;rw[List.getElem_take,List.getElem_take];have i1:i<ts.length:=();have i2:i<qs.length:=();have:=e i ();rw[aG (YO i1),aG (YO i2)] at this;exact je (ft _ (YN i1)) (fq _ (YN i2)) this
theorem zP{α:Type}{l:List α}{n:Nat}(h:n<l.length):l.take (n+1)=l.take n++[l[n]]:=by
 rw[Xb,YO h];rfl
theorem j7{qs:List (Int×Int)}{n k:Nat}(h:k<n):cf (qs.take n) k=cf qs k:=by
 by_cases hk:k<qs.length
 .rw[aG (q:=qs[k]) (by rw[Xg,Yb h,YO hk]),aG (YO hk)]
 .rw[aK (by rw[Yu];nofun),aK ()]
inductive kP (K:W.Frag)(vs:List V)(H:Hp)(Q:VK)(E:XK):Prop
 | mk (p b w:Addr)(rs qs ws:List (Int×Int))(d:Nat):vs=[.ref p]->vw K H p=some (.tup [.ref b,.ref w])->aF (vw K H) b rs->aF (vw K H) w ws->DU rs qs ws d->Ad (cf qs) d->2*d<=qs.length+1->qs.length<=11->eH qs->(∀q∈qs.take (qs.length-1),jB q)->(∀H',aB (vw K H) (vw K H')->Q (.bl true) H')->kP K vs H Q E
theorem xj(F:dy K "_law_is_flock" "_law_is_flock" kS f fd) (T:dR K mg)(zCis_polynomial:cp P w K mg base "_law_is_polynomial" ["_law_thing"] 3 (eX K)) (zCsteps:cp P w K mg base "_law_steps" ["_law_sums"] 7 (sO K)) (zCflock_sums:cp P w K mg base "_law_flock_sums" ["_law_flock", "_law_many"] 5 (gC K)):aV P w K mg base dC 8 f fd ["_law_thing"] (kP K):=by
 have scN:=qg.nd;refine F.okQ qg ?_ ?_;walk_at "q"
 .obtain⟨_,_,_,_,_,_,_,rfl,_⟩:=h;rfl
 .obtain⟨p,b,w',rs,qs,ws,d,rfl,hp,hb,hw,fo,pos,len,l11,sq,sq0,h⟩:=h;have lr:=fo.lr;have d6:=fo.d6;have lw:=fo.lw;refine⟨_,(af (b9 (QW.pt (fG (cK (cQ (ai cr (by rfl) T.b_isinstance bK (aa (qv 0) (aa (eo (v:=V.ty "tuple") rfl T.b_tuple iS rfl) ac))))) (fM (aH kB (ai ao (by rfl) T.b_len aD (aa (qv 0) ac)) ae (aC _))))) (ag (au dO)) aO)
   (af (b9 (QW.pt (fG (cK (cQ (ah zCis_polynomial nofun rfl (aa (av aS (qv 0) ae (λ_ _=>rfl)) ac)))) (fM (cK (cQ (ah zCis_polynomial nofun rfl (aa (av aS (qv 0) ae (λ_ _=>rfl)) ac))))))) (ag (au dO)) aO)
   (af (cW (qv 0) (bO (n:=2) rfl (ay (aq (i:=1) scN rfl (·)) (ay (aq (i:=2) scN rfl (·)) bQ))))
   (af (b9 (QW.pt (fG (cK (u9 ur ur ae (ai ao (by rfl) T.b_len aD (aa (qv 1) ac)) ae (yZ _ _))) (fG (aH (qu hr.u64) (av cT (qv 1) (eE cV ae) (λ_ _=>rfl)) (aT (aa ae (aa ae ac))) (aC _)) (fM (aH Cn (ai ao (by rfl) T.b_len aD (aa (qv 2) ac)) (ai ao (by rfl) T.b_len aD (aa (qv 1) ac)) (aC _)))))) (ag (au dO)) aO)
   (af (b9 (aH eK (ai ao (by rfl) T.b_len aD (aa (qv 1) ac)) ae (aC _)) (ag (au dO)) aO)
   (af (aE (i:=3) scN rfl (·) (ah zCsteps nofun rfl (aa (ah zCflock_sums nofun rfl (aa (qv 0) (aa (ar bN (ar aM ae (ai ao (by rfl) T.b_len aD (aa (qv 1) ac))) ae) ac))) ac)))
   (ag (au (fS (bJ eK (ai ao (by rfl) T.b_len aD (aa (qv 3) ac)) (ar bN (ai ao (by rfl) T.b_len aD (aa (qv 1) ac)) ae) (aC _)) (fk (bJ jz (av aS (av aS (av cT (qv 3) (eE cV ae) (λ_ _=>rfl)) ae (λ_ _=>rfl)) ae (λ_ _=>rfl)) ae (aC _)))))))))))),?_⟩
  walk_at"m";skip
  refine aP.gen λN1 hN1=>?_;symm
  refine⟨"tuple",by simp only[Dj,hp],?_⟩
  refine dD (by simp[fD]) ⟨2,by simp only[de,hp];rfl,dD (λz=>z rfl) (hN1 _ _ ?_)⟩
  have pR:(D.lst (rs.map fr)).poly=true:=sP fo.po.1 fo.po.2;have pW:(D.lst (ws.map fr)).poly=true:=sP fo.pw.1 fo.pw.2;refine aP.gen λN2 hN2=>?_;symm
  refine⟨_,hp,_,cS,_,_,rfl,hb.rep,by show (rs.map fr).length<=1000;rw[YC];nofun,λH1 S1=>?_⟩
  rw[pR];refine⟨true,rfl,?_⟩;refine dD (by simp) ⟨_,S1 _ _ hp,_,cL,_,_,rfl,(hw.same S1).rep,by show (ws.map fr).length<=1000;rw[YC];nofun,λH2 S2=>?_⟩
  rw[pW];refine⟨true,rfl,dD (by simp) (hN2 _ _ ?_)⟩
  have S02:=S1.trans S2;refine aP.gen λN3 hN3=>?_;symm
  refine⟨_,S02 _ _ hp,rfl,_,_,rfl,_,_,rfl,rfl,hN3 _ _ ?_⟩;refine aP.gen λN4 hN4=>?_;symm
  simp only[t8];symm
  have hrd:d<rs.length:=();have last:rs[d]=(1,1):=je (fo.po.1 _ (YN hrd)) (by exact⟨∅,by decide +kernel⟩) (by
   have e:wv (1,1)=1:=by decide +kernel
   rw[e,<-fo.one,aG (YO hrd)])
  obtain⟨zr,hzr,rzr⟩:=hb.same S02;obtain⟨xl,exl,rxl⟩:=rzr.at (i:=d) (d:=fr rs[d]) (by rw[Yz,YO hrd];rfl)
  have lzr:zr.length=d+1:=by have:=rzr.length;rw[YC] at this;nofun
  rw[last] at rxl;refine⟨_,(hb.same S02).len,gW () ?_⟩;refine dD (by simp;nofun) ?_
  refine⟨zr,hzr,xl,jW (n:=d) lzr exl,∅,λa3 H3 n3 S3 h3=>⟨_,aI.same S3 _ _ rxl,fr (1,1),bC h3,dG _,dG _,?_⟩⟩;have S03:=S02.trans S3;refine dD (by rw[uk (dG _)];decide) ⟨_,(hw.same S03).len,_,(hb.same S03).len,dD () (hN4 _ _ ?_)⟩
  refine aP.gen λN5 hN5=>?_;symm
  refine⟨_,(hb.same S03).len,cz (λ_=>h _ S03) (λe1=>hN5 _ _ ?_)⟩;have d1:1<=d:=();obtain⟨M,rfl⟩ : ∃M,d=M+1:=⟨d-1,()⟩;refine aP.gen λN6 hN6=>?_;symm
  refine⟨_,(hb.same S03).len,gY ∅,?_⟩;rw[show (2*(rs.length:Int)-3)=((2*M+1:Nat):Int) by nofun]
  refine⟨p,b,w',rs,qs,ws,M+1,2*M+1,rfl,S03 _ _ hp,hb.same S03,hw.same S03,fo,(),λc4 H4 ts S4 n4 l4 lt ft et rt=>?_⟩;have h2:2*M<qs.length:=();have ets:ts=qs.take (2*M)++[qs[2*M]]:=by
   have:=qM ft (λq hq=>(sq q hq).1) (n:=2*M+1) () () λk hk=>et k hk ();rw[List.take_of_length_le ()] at this;rw[this,zP h2]
  obtain⟨W,B,cl⟩:=wB (qs:=qs.take (2*M)) (sq.less λq hq=>Xj hq);have pos0:Ad (cf (qs.take (2*M))) M:=(pos.less (m:=M) ()).congr λi hi=>j7 ();have hD:=FK cl.pos cl.val pos0;have ces:∀i,i<2*M+1->cf ts i=cf qs i:=λi hi=>et i hi ();have sqt:eH ts:=sq.less λq hq=>by
   rw[ets] at hq;rcases List.mem_append.mp hq with z|z
   .exact Xj z
   .rw[List.mem_singleton.mp z];exact YN h2
  have S04:=S03.trans S4;refine⟨c4,ts,_,_,W,B,M,1700,rfl,l4,ets,by rw[Yu];nofun,(),(λq hq=>by rw[show qs.take (2*M)=(qs.take (qs.length-1)).take (2*M) by rw[List.take_take,Nat.min_eq_left ()]] at hq;exact sq0 q (Xj hq)),cl,hD,(sq _ (YN h2)).1,mD sqt,∅,λt5 H5 pss c S5 n5 lp sa ec fc wc=>hN6 _ _ ?_⟩
  have pkd:Bd (M+1) (Pk W M):=λi hi=>jX ();have c0:0<wv c.2:=by
   rw[wc,rP pkd (),xk (T:=cf qs) λi hi=>ces i ()];refine pos (Pk W M) pkd ⟨M,?_⟩;rw[gp (by have:=hD M (Yp _);nofun)]
   decide +kernel
  obtain⟨xs,hxs,lxs,hx⟩:=sa;obtain⟨x,l,v,ex,hx2,_,rv,_⟩:=hx _ _ ec;obtain⟨x8,rfl,hx8⟩:=rv.fr_at;symm
  have hxl:xs[M]? = some (.ref x):=ex;refine⟨xs.length,by simp only[de,hxs],_,(hb.same (S04.trans S5)).len,gW () ⟨xs,hxs,_,jW (n:=M) () ex,_,rfl,_,hx2,_,cL,_,rfl,_,hx8,_,cS,_,rfl,?_⟩⟩
  rw[YM ((Bk fc).mpr c0)];exact h _ (S04.trans S5)
inductive Bo (K:W.Frag)(vs:List V)(H:Hp)(Q:VK)(E:XK):Prop
 | mk (p b w a:Addr)(rs qs ws:List (Int×Int))(d:Nat):vs=[.ref p,.ref a]->vw K H p=some (.tup [.ref b,.ref w])->aF (vw K H) b rs->aF (vw K H) w ws->aF (vw K H) a qs->DU rs qs ws d->Ad (cf qs) d->2*d<=qs.length+1->qs.length<=11->eH qs->(∀q∈qs.take (qs.length-1),jB q)->(∀H',aB (vw K H) (vw K H')->Q (.bl true) H')->Bo K vs H Q E
theorem I0(F:dy K "_law_has" "_law_has" Ct f fd) (T:dR K mg)(zCis_flock:cp P w K mg base "_law_is_flock" ["_law_thing"] 8 (kP K)) (zCflock_sums:cp P w K mg base "_law_flock_sums" ["_law_flock", "_law_many"] 5 (gC K)):aV P w K mg base dC 9 f fd ["_law_flock", "_law_sums"] (Bo K):=by
 have scN:=FN.nd;refine F.okQ FN ?_ ?_;walk_at "q"
 .obtain⟨_,_,_,_,_,_,_,_,rfl,_⟩:=h;rfl
 .obtain⟨p,b,w',a,rs,qs,ws,d,rfl,hp,hb,hw,ha,fo,pos,len,l11,sq,sq0,h⟩:=h;refine⟨_,(ag (au (fS (ah zCis_flock nofun rfl (aa (qv 0) ac)) (fk (bJ (mL hr.u64) (ah zCflock_sums nofun rfl (aa (qv 0) (aa (ai ao (by rfl) T.b_len aD (aa (qv 1) ac)) ac))) (qv 1) (aC _)))))),?_⟩
  walk_at"m";symm
  refine⟨p,b,w',rs,qs,ws,d,rfl,hp,hb,hw,fo,pos,len,l11,sq,sq0,λH1 S1=>⟨_,rfl,gW rfl ⟨_,(ha.same S1).len,p,b,w',rs,qs,ws,d,_,rfl,S1 _ _ hp,hb.same S1,hw.same S1,fo,(),λc2 H2 ts S2 n2 l2 lt ft et rt=>?_⟩⟩⟩;have ets:ts=qs:=by
   have:=qM ft (λq hq=>(sq q hq).1) (n:=qs.length) () () λk hk=>et k hk hk
   rwa [List.take_of_length_le (),List.take_of_length_le ()] at this
  subst ets;refine⟨_,l2.rep,_,((ha.same S1).same S2).rep,tE _,tE _,?_⟩;rw[uk (tE _)];exact h _ (S1.trans S2)
theorem FI:∀cs:List nJ,lK (λ_=>0) cs=0
 | []=>rfl
 | c::cs=>by
  show wv c.2*0+lK (λ_=>0) cs=0;rw[FI cs];grind
theorem AC{qs:List (Int×Int)}{W:Nat->Int}{B:Int}{M:Nat}{cs:List nJ}(cl:gS qs W B)(my:fU W qs.length M)(hf:∀c∈cs,Fq c.1/\Fq c.2/\0<c.2.1)(hS:∀i,i<qs.length->cf qs i=jN cs i):¬ ja W qs.length M:=by
 have pw:∀c∈cs,0<wv c.2:=λc hc=>(Bk (hf c hc).2.1).mp (hf c hc).2.2;have hB:B≠0:=by have:=cl.pos;nofun
 have cB:=am hB;obtain⟨k,rfl⟩ : ∃k,M=k+1:=⟨M-1,by have:=my.one;nofun⟩
 have hk:=my.most;have h0:=my.up k ();have hD:Dk W k≠0:=();have e:((Dk W (k+1):Int):Rat)/((Dk W k*B:Int):Rat)=lK (λx=>dY (Pk W k) (k+1) x*dY (Pk W k) (k+1) x) cs:=by
  have e:=xJ (S:=cf qs) (P:=Pk W k) hD hB (λ_=>rfl) cl.val (Yp _);rw[<-e,<-wt,qm];refine aA (k+1) (λ_ _=>rfl) λi hi=>?_;have h1:2*k+1-i=(k+1)+(k-i):=();rw[h1,cX (n:=k+1) λj hj=>by rw[jX ()];grind]
  exact aA (k+1) (λ_ _=>rfl) λj hj=>hS (i+j) ()
 have n0:=jU (G:=λx=>dY (Pk W k) (k+1) x) pw;rw[<-e] at n0;have p:=Y4 h0 cl.pos;have c1:((Dk W k*B:Int):Rat)≠0:=am ();have q:0<=Dk W (k+1):=by
  have c2:(0:Rat)<=((Dk W k*B:Int):Rat):=by
   have:((0:Int):Rat)<=((Dk W k*B:Int):Rat):=Rat.intCast_le_intCast.mpr ();exact this
  have:=Xu n0 c2;have e3:((Dk W (k+1):Int):Rat)/((Dk W k*B:Int):Rat)*((Dk W k*B:Int):Rat)=((Dk W (k+1):Int):Rat):=⋯;rw[e3] at this;exact Rat.intCast_nonneg.mp this
 have z0:((0:Int):Rat)=0:=rfl;rintro (z|⟨z,nn⟩)
 .nofun
 .refine nn λi hi=>?_;rw[XA] at hi ⊢;have ze:=rA (G:=λx=>dY (Pk W k) (k+1) x) pw (by
   rw[<-e,z,z0];grind)
  have s:=dX (S:=cf qs) (P:=Pk W k) hD hB (λ_=>rfl) cl.val i;have t:ip (jN cs) (λm=>if m=i then 1 else 0) (Pk W k) (i+1) (k+1)=aj (Pk W k) (λj=>jN cs (i+j)) (k+1):=by
   show aj (λm=>if m=i then (1:Rat) else 0) _ i+(if i=i then (1:Rat) else 0)*_=_
   rw[aY i λl hl=>by rw[Yc ()];grind,Yb rfl]
   grind
  rw[wt,pF (G:=λ_=>0) (λc hc=>by rw[show dY (Pk W k) (k+1) (wv c.1)=0 from ze c hc];grind),FI] at t
  rw[aA (k+1) (λ_ _=>rfl) λj hj=>hS (i+j) (),<-t] at s;have d1:=am hD;have:((Lq W k i:Int):Rat)=((0:Int):Rat):=by rw[z0];grind
  exact Rat.intCast_inj.mp this
inductive jD (K:W.Frag)(vs:List V)(H:Hp)(Q:VK)(E:XK):Prop
 | mk (st:Addr)(n:Nat):vs=[.ref st,.int n]->1<=n->n<=11->ga (vw K H) st->(∀(a:Addr)(H':Hp)(qs:List (Int×Int)),gB st (vw K H) (vw K H')->ga (vw K H') st->aF (vw K H') a qs->1<=qs.length->qs.length<=n->(∀q∈qs,jB q)->(∃cs:List nJ,(∀c∈cs,Fq c.1/\Fq c.2/\0<c.2.1) /\ ∀i,i<qs.length->cf qs i=jN cs i)->vw K H a=none->Q (.ref a) H')->jD K vs H Q E
theorem uD(F:dy K "_law_good_sums" "_law_good_sums" jP f fd) (T:dR K mg)(zCtake:cp P w K mg base "_law_take" ["_law_state_here", "_law_many"] 1 (gP K)) (zCcrowd:cp P w K mg base "_law_crowd" ["_law_state_here", "_law_most"] 4 (rT K)) (zCcrowd_sums:cp P w K mg base "_law_crowd_sums" ["_law_crowd_here", "_law_many"] 4 (iY K)):aV P w K mg base dC 5 f fd ["_law_state_here", "_law_most"] (jD K):=by
 have scN:=mX.nd;refine F.okQ mX ?_ ?_;walk_at "q"
 .obtain⟨_,_,rfl,_⟩:=h;rfl
 .obtain⟨st,n,rfl,n1,n2,hst,h⟩:=h;refine⟨_,(ag (au (ah zCcrowd_sums nofun rfl (aa (ah zCcrowd nofun rfl (aa (qv 0) (aa (av cT (aU (aa ae (aa ae (aa ae (aa ae ac))))) (ah zCtake nofun rfl (aa (qv 0) (aa ae ac))) (λ_ _=>rfl)) ac))) (aa (ar aW ae (ah zCtake nofun rfl (aa (qv 0) (aa (qv 1) ac)))) ac))))),?_⟩
  walk_at"m";skip
  symm
  refine⟨∅,λp3 H3 hp3 S3 h3=>?_⟩;simp only[gP];symm
  refine⟨hst.same S3,∅,∅,λt H4 t0 t1 B4 S4=>?_⟩;have h4:=B4 _ _ (hst.ne hp3) h3;obtain⟨v,hv,hm⟩:=sY (xs:=[V.int 5,V.int 5,V.int 2,V.int 3]) t0 (by simpa using t1)
  obtain⟨z,rfl,hz⟩ : ∃z:Nat,v=.int z/\z<=5:=by
   simp only[YY,YZ,Y0] at hm;rcases hm with rfl|rfl|rfl|rfl
   .exact⟨5,rfl,∅⟩
   .exact⟨5,rfl,∅⟩
   .exact⟨2,rfl,∅⟩
   .exact⟨3,rfl,∅⟩
  refine⟨_,h4,_,hv,?_⟩;refine⟨st,z,rfl,(),S4,λc H5 cs B5 S5 l5 c1 c2 c3 c4 lc hc=>⟨S5,(),(),λr H6 r0 r1 B6 S6=>?_⟩⟩;obtain⟨m,hm'⟩ : ∃m:Nat,1+r=(m:Int):=⟨(1+r).toNat,()⟩;rw[hm'];refine⟨c,cs,m,rfl,l5.stBut (gE cs) (tI cs) S5 B6,(),(),λc hc=>⟨(c1 c hc).1,(c1 c hc).2.1,(c2 c hc).1,(c2 c hc).2⟩,λb H7 qs S7 l7 hb lqs hqs=>?_⟩;have B06:gB st (vw K H) (vw K H6):=(((gB.of S3).trans B4).trans B5).trans B6;refine h b H7 qs (B06.same_trans S7) (S6.same S7) l7 () () (λq hq=>?_) ⟨cs,c1,λi hi=>?_⟩ (B06.none S6 hb)
  .obtain⟨k,hk⟩:=XI hq;have:=(List.getElem?_eq_some_iff.mp hk).1;exact⟨(hqs k q hk).1,(GU c3 () () (hqs k q hk).1 (hqs k q hk).2).mono ∅,E3 c3 () (hqs k q hk).1 (hqs k q hk).2⟩
  .rw[aG (YO hi)];exact (hqs i _ (YO hi)).2
inductive vK (K:W.Frag)(vs:List V)(H:Hp)(Q:VK)(E:XK):Prop
 | mk (x y p q:_):vs=[x,y]->aI (vw K H) (fr p) x->aI (vw K H) (fr q) y->Bq 1000000 p->Bq 1000000 q->Q (.bl (DN p q)) H->vK K vs H Q E
theorem F2(F:dy K "_law_less" "_law_less" wA f fd) (T:dR K mg):aV P w K mg base dC 1 f fd ["_law_one", "_law_other"] (vK K):=by
 have scN:=Bn.nd;refine F.okQ Bn ?_ ?_;walk_at "q"
 .obtain⟨_,_,_,_,rfl,_⟩:=h;rfl
 .obtain⟨x,y,p,q,rfl,hx,hy,bp,bq,h⟩:=h;refine⟨_,(ag (au (bJ jw (ar aM (av aS (qv 0) ae (λ_ _=>rfl)) (av aS (qv 1) ae (λ_ _=>rfl))) (ar aM (av aS (qv 1) ae (λ_ _=>rfl)) (av aS (qv 0) ae (λ_ _=>rfl))) (aC _)))),?_⟩;walk_at"m";obtain⟨a,rfl,ha⟩:=hx.fr_at;obtain⟨b,rfl,hb⟩:=hy.fr_at;walk_at"vc*";exact⟨cg bp.1 bq.2 ∅,cg bq.1 bp.2 ∅,h⟩
inductive xO (K:W.Frag)(vs:List V)(H:Hp)(Q:VK)(E:XK):Prop
 | mk (p:Addr)(y:V)(q:Int×Int):vs=[.ref p,y]->aI (vw K H) (fr q) y->Fq q->Bq 1000000 q->((vw K H p=some (.tup [.str "any"])/\Q (.bl true) H)\/(∃(x:V)(r:Int×Int),vw K H p=some (.tup [.str "just",x])/\aI (vw K H) (fr r) x/\Q (.bl (decide (q=r))) H) \/ ∃(x:V)(r:Int×Int),vw K H p=some (.tup [.str "from",x])/\aI (vw K H) (fr r) x/\Bq 1000000 r/\Q (.bl (!DN q r)) H)->xO K vs H Q E
theorem Jy(F:dy K "_law_may" "_law_may" BJ f fd) (T:dR K mg)(zCless:cp P w K mg base "_law_less" ["_law_one", "_law_other"] 1 (vK K)):aV P w K mg base dC 2 f fd ["_law_told", "_law_number"] (xO K):=by
 have scN:=FL.nd;refine F.okQ FL ?_ ?_;walk_at "q"
 .obtain⟨_,_,_,rfl,_⟩:=h;rfl
 .obtain⟨p,y,q,rfl,hy,fq,bq,h⟩:=h;refine⟨_,(af (b9 (aH eK (av aS (qv 0) ae (λ_ _=>rfl)) dc (aC _)) (ag (au dO)) aO)
   (af (b9 (aH eK (av aS (qv 0) ae (λ_ _=>rfl)) dc (aC _)) (ag (au (bJ (mL hr.u64) (qv 1) (av aS (qv 0) ae (λ_ _=>rfl)) (aC _)))) aO)
   (ag (au (vZ (ah zCless nofun rfl (aa (qv 1) (aa (av aS (qv 0) ae (λ_ _=>rfl)) ac)))))))),?_⟩
  walk_at"m";skip
  symm
  rcases h with ⟨hp,h⟩|⟨x,r,hp,hx,h⟩|⟨x,r,hp,hx,br,h⟩
  .refine⟨_,hp,_,cS,rfl,gW rfl h⟩
  .refine⟨_,hp,_,cS,rfl,dD ∅ ⟨_,hp,_,cS,rfl,gW rfl ?_⟩⟩;exact⟨_,hp,_,cL,fr q,hy,fr r,hx,dG _,dG _,by rw[jJ];exact h⟩
  .refine⟨_,hp,_,cS,rfl,dD ∅ ⟨_,hp,_,cS,rfl,dD ∅ ?_⟩⟩;exact⟨_,hp,_,cL,y,x,q,r,rfl,hy,hx,bq,br,_,rfl,h⟩
theorem yL{d p q h:Nat->Rat}(hd:∀i,d i=p i-q i):∀n,aj d h n=aj p h n-aj q h n
 | 0=>by show (0:Rat)=0-0;grind
 | n+1=>by
  show aj d h n+d n*h n=(aj p h n+p n*h n)-(aj q h n+q n*h n);rw[yL hd n,hd];grind
theorem Es{W V:Nat->Int}{B C:Int}{S T:Nat->Rat}{k:Nat}(hB:0<B)(hC:0<C)(hS:∀i,((W i:Int):Rat)=S i*(B:Rat))(hT:∀i,((V i:Int):Rat)=T i*(C:Rat))(hW:∀i,i<=k->0<Dk W i)(dv:Dk V k≠0)(e:∀i,i<2*k->T i=S i):Pk V k=Pk W k:=by
 have dw:Dk W k≠0:=by have:=hW k (Yp _);nofun
 have c0:((0:Int):Rat)=0:=rfl;obtain⟨d,hd⟩ : ∃d:Nat->Rat,∀i,d i=Pk V k i-Pk W k i:=⟨_,λ_=>rfl⟩;have bd:∀i,k<=i->d i=0:=λi hi=>by
  rw[hd];by_cases z:i=k
  .rw[z,gp dv,gp dw];grind
  .rw[jX (),jX ()];grind
 have orth:∀i,i<k->aj d (λj=>S (i+j)) k=0:=λi hi=>by
  have a:=dX (P:=Pk V k) dv () (λ_=>rfl) hT i;have b:=dX (P:=Pk W k) dw () (λ_=>rfl) hS i;rw[fV hi,c0] at a b;rw[aA (f':=Pk V k) (g':=λj=>S (i+j)) (k+1) (λ_ _=>rfl) λj hj=>e (i+j) ()] at a;have c:=yL (h:=λj=>S (i+j)) hd (k+1);rw[a,b] at c;have c':aj d (λj=>S (i+j)) k+d k*S (i+k)=_:=c;rw[bd k (Yp _)] at c';grind
 have z:ip S d d k k=0:=aY k λi hi=>by rw[orth i hi];grind
 have pd:=vY hB hS hW;refine funext λi=>Xz λne=>?_;have:=pd d bd ⟨i,by rw[hd];intro y;exact ne ⋯⟩
 rw[z] at this;exact absurd this ∅
section
variable {qs:List (Int×Int)}{x:Int×Int}{W V:Nat->Int}{B C:Int}{M M' k:Nat}
theorem ka(cl:gS qs W B)(cl':gS (qs++[x]) V C)(hk:2*k<=qs.length+1)(hD:∀i,i<=k->0<Dk W i):∀i,i<=k->0<Dk V i :=
 FK cl'.pos cl'.val ((vY cl.pos cl.val hD).congr λi hi=>by rw[gX,Yc ()])
theorem qO(cl:gS qs W B)(cl':gS (qs++[x]) V C)(hk:2*k<=qs.length)(hD:∀i,i<=k->0<Dk W i):Pk V k=Pk W k :=
 Es cl.pos cl'.pos cl.val cl'.val hD (by have:=ka cl cl' () hD k (Yp _);nofun) λi hi=>by rw[gX,Yc ()]
theorem AU{i:Nat}(cl:gS qs W B)(cl':gS (qs++[x]) V C)(hk:2*k<=qs.length)(hD:∀i,i<=k->0<Dk W i)(hi:i+k<qs.length)(z:Lq W k i=0):Lq V k i=0:=by
 have dv:=ka cl cl' () hD k (Yp _);have dw:=hD k (Yp _);have c0:((0:Int):Rat)=0:=rfl;have a:=dX (P:=Pk V k) () (by have:=cl'.pos;nofun) (λ_=>rfl) cl'.val i
 have b:=dX (P:=Pk W k) () (by have:=cl.pos;nofun) (λ_=>rfl) cl.val i
 rw[qO cl cl' hk hD,aA (f':=Pk W k) (g':=λj=>cf qs (i+j)) (k+1) (λ_ _=>rfl) (λj hj=>by rw[gX,Yc ()]),b,z,c0] at a
 have c1:=am (show Dk V k≠0 by nofun)
 have c2:=am (show C≠0 by have:=cl'.pos;nofun)
 exact Rat.intCast_inj.mp (by rw[c0];grind)
theorem yz{rs:List (Int×Int)}(cl:gS qs W B)(cl':gS (qs++[x]) V C)(hk:2*k<=qs.length)(hD:∀i,i<=k->0<Dk W i)(po:aL rs)(num:∀j,cf rs j=((qk W k j:Int):Rat)/((Dk W k:Int):Rat)):((Lq V k (qs.length-k):Int):Rat)=(wv x-vU rs qs)*(((Dk V k:Int):Rat)*(C:Rat)):=by
 have dv:=ka cl cl' () hD k (Yp _);have dw:=hD k (Yp _);have a:=dX (P:=Pk V k) () (by have:=cl'.pos;nofun) (λ_=>rfl) cl'.val (qs.length-k)
 have lr:=km po (show Dk W k≠0 by nofun) num
 rw[qO cl cl' hk hD] at a;have t:aj (Pk W k) (λj=>cf (qs++[x]) (qs.length-k+j)) (k+1)=aj (Pk W k) (λj=>cf (qs++[x]) (qs.length-k+j)) k+Pk W k k*cf (qs++[x]) (qs.length-k+k):=rfl;rw[t,gp (),gX,Yb (),aA (f:=Pk W k) (f':=cf rs) (g':=λj=>cf qs (qs.length-k+j)) k (λj _=>(num j).symm) (λj hj=>by rw[gX,Yc ()])] at a
 have e:vU rs qs = - aj (cf rs) (λj=>cf qs (qs.length-k+j)) k:=by
  unfold vU;rw[lr,XA,show qs.length+1-(k+1)=qs.length-k by nofun]
 have c1:=am (show Dk V k≠0 by nofun)
 have c2:=am (show C≠0 by have:=cl'.pos;nofun)
 grind
theorem Bi(my:fU W qs.length M)(d:0<Dk W M):∀i,i<=M->0<Dk W i:=λi hi=>by
 by_cases e:i=M
 .rw[e];exact d
 .exact my.up i ()
theorem Eg(cl:gS qs W B)(my:fU W qs.length M)(cl':gS (qs++[x]) V C)(my':fU V (qs++[x]).length M')(d:0<Dk W M)(o:qs.length%2=1):¬ ja V (qs++[x]).length M':=by
 have up:=ka cl cl' my.most (Bi my d);have ln:(qs++[x]).length=qs.length+1:=by simp
 rw[ln] at my';have e:M'=M:=my'.uniq ⟨my.one,λi hi=>up i (),by have:=my.most;nofun,by
  rcases my.all with y|y
  .exact .inl ()
  .nofun⟩
 have:=up M (Yp _);rw[e];rintro (z|⟨z,_⟩)<;>nofun
theorem ut{r:Int×Int}(cl:gS qs W B)(my:fU W qs.length M)(nf:¬ ja W qs.length M)(cl':gS (qs++[x]) V C)(my':fU V (qs++[x]).length M')(fx:Fq x)(d:Dk W M=0)(nx:Dg W qs M r):(¬ ja V (qs++[x]).length M'↔x=r)/\Dk V M'=0:=by
 obtain⟨k,rfl⟩ : ∃k,M=k+1:=⟨M-1,by have:=my.one;nofun⟩
 have m2:=my.most;have ln:(qs++[x]).length=qs.length+1:=by simp
 rw[ln] at my' ⊢;have hD:∀i,i<=k->0<Dk W i:=λi hi=>my.up i ();have up:=ka cl cl' () hD;have ng:wT W k qs.length:=Xz λz=>nf (.inr ⟨d,by rw[XA];exact z⟩)
 have low:∀i,i+k<qs.length->Lq V k i=0:=λi hi=>AU cl cl' () hD hi (ng i ());have dv:Dk V (k+1)=0:=by rw[<-dQ];exact low k ()
 have e:M'=k+1:=my'.uniq ⟨(),λi hi=>up i (),(),.inr ()⟩;subst e;refine⟨?_,dv⟩;obtain⟨fr',rs,po,num,wr⟩:=nx;rw[show cI W (k+1)=k by unfold cI;rw[Yc (),XA]] at num
 have t:=yz cl cl' () hD po num;have v0:=up k (Yp _);have c1:=am (show Dk V k≠0 by nofun)
 have c2:=am (show C≠0 by have:=cl'.pos;nofun)
 have c0:((0:Int):Rat)=0:=rfl;have iff0:Lq V k (qs.length-k)=0↔x=r:=by
  constructor
  .intro z;rw[z,c0] at t;refine je fx fr' ?_;rw[wr];rcases Rat.mul_eq_zero.mp t.symm with y|y
   .grind
   .rcases Rat.mul_eq_zero.mp y with y|y
    .exact absurd y c1
    .exact absurd y c2
  .intro z;rw[z,wr] at t;exact Rat.intCast_inj.mp (by rw[c0,t];grind)
 rw[<-iff0];constructor
 .intro nn;refine Xz λz=>nn (.inr ⟨dv,λg=>z ?_⟩);rw[XA] at g;exact g _ ()
 .rintro z (y|⟨_,y⟩)
  .nofun
  .refine y λi hi=>?_;rw[XA] at hi ⊢;by_cases e:i+k<qs.length
   .exact low i e
   .rw[show i=qs.length-k by nofun];exact z
theorem CY{r:Int×Int}(cl:gS qs W B)(my:fU W qs.length M)(cl':gS (qs++[x]) V C)(my':fU V (qs++[x]).length M')(d:0<Dk W M)(o:qs.length%2=0)(nx:Dg W qs M r):¬ ja V (qs++[x]).length M'↔wv r<=wv x:=by
 have m1:=my.one;have m2:=my.most;have nM:qs.length=2*M:=by
  rcases my.all with y|y<;>nofun
 have ln:(qs++[x]).length=qs.length+1:=by simp
 rw[ln] at my' ⊢;have hD:=Bi my d;have up:=ka cl cl' () hD;have e:M'=M+1:=by
  have a:=my'.most;rcases my'.all with y|y
  .nofun
  .have:¬ M'<=M:=λz=>by have:=up M' z;nofun
   nofun
 subst e;obtain⟨fr',rs,po,num,wr⟩:=nx;rw[show cI W M=M by unfold cI;rw[Yb d]] at num
 have t:=yz cl cl' () hD po num;rw[show qs.length-M=M by nofun,dQ,<-wr] at t
 have v0:=up M (Yp _);have p:(0:Rat)<((Dk V M:Int):Rat)*(C:Rat):=Xy (Rat.intCast_pos.mpr v0) (Rat.intCast_pos.mpr cl'.pos);have c0:((0:Int):Rat)=0:=rfl;have key:0<=Dk V (M+1)↔wv r<=wv x:=by
  rw[<-Rat.intCast_nonneg,t];constructor
  .intro z;refine Rat.not_lt.mp λy=>?_;have:=Xy (show 0<wv r-wv x by grind) p
   grind
  .intro z;exact Xu ⋯ (Rat.le_of_lt p)
 rw[<-key];constructor
 .intro nn;exact Int.not_lt.mp λz=>nn (.inl z)
 .rintro z (y|⟨y,ng⟩)
  .nofun
  .refine ng λi hi=>?_;rw[XA] at hi ⊢;by_cases e:i<M
   .exact fV e
   .rw[show i=M by nofun,dQ];exact y
end
theorem EA{qs:List (Int×Int)}{W:Nat->Int}{B:Int}{k:Nat}(cl:gS qs W B)(dk:0<Dk W k):ip (cf qs) (Pk W k) (Pk W k) (k+1) (k+1)=((Dk W (k+1):Int):Rat)/(((Dk W k:Int):Rat)*(B:Rat)):=by
 rw[rg () (by have:=cl.pos;nofun) cl.val (Yp _)]
 show aj (Pk W k) _ k+Pk W k k*(((Lq W k k:Int):Rat)/_)=_;rw[aY k λi hi=>by rw[fV hi,show ((0:Int):Rat)=0 from rfl];grind,dQ,gp ()]
 grind
theorem Cy{qs:List (Int×Int)}{W:Nat->Int}{B:Int}{k i:Nat}{v:Nat->Rat}(cl:gS qs W B)(dk:0<Dk W k)(hv:∀j,v j=if j=i then 1 else 0):ip (cf qs) (Pk W k) v (k+1) (i+1)=((Lq W k i:Int):Rat)/(((Dk W k:Int):Rat)*(B:Rat)):=by
 rw[eU,rg () (by have:=cl.pos;nofun) cl.val (Yp _)]
 show aj v _ i+v i*(((Lq W k i:Int):Rat)/_)=_;rw[aY i λj hj=>by rw[hv,Yc ()];grind,hv,Yb rfl]
 grind
def iN(G:Hp)(p:Addr)(qs:List (Int×Int)):Prop:=X2 λ(l:Addr)(fs:List (Int×Int))=>aL fs/\fs.length<=11/\(∀q∈fs,Bq 11000 q)/\aF G l fs/\((G p=some (.tup [.str "below",.ref l])/\rK qs.length fs fs/\wo qs fs fs<0)\/X2 λ(l2:Addr)(gs:List (Int×Int))=>G p=some (.tup [.str "nought",.ref l,.ref l2])/\aF G l2 gs/\aL gs/\gs.length<=11/\(∀q∈gs,Bq 11000 q)/\rK qs.length fs fs/\rK qs.length fs gs/\wo qs fs fs=0/\wo qs fs gs≠0)
theorem iN.imp{G G':Hp}{p:Addr}{qs:List (Int×Int)}(h:iN G p qs)(h1:∀l fs,aF G l fs->aF G' l fs)(h2:∀xs,G p=some (.tup xs)->G' p=some (.tup xs)):iN G' p qs:=by
 obtain⟨l,fs,a,b,c,d,e⟩:=h;refine⟨l,fs,a,b,c,h1 _ _ d,?_⟩;rcases e with ⟨e1,e2⟩|⟨l2,gs,e1,e2,e3⟩
 .exact .inl ⟨h2 _ e1,e2⟩
 .exact .inr ⟨l2,gs,h2 _ e1,h1 _ _ e2,e3⟩
theorem iN.same{G G':Hp}{p:Addr}{qs:List (Int×Int)}(h:iN G p qs)(S:aB G G'):iN G' p qs:=h.imp (λ_ _ z=>z.same S) λ_ z=>S _ _ z
theorem Dm.barAt{qs:List (Int×Int)}{W:Nat->Int}{B:Int}{M:Nat}{G:Hp}{p:Addr}{s:Str}(o:Dm qs W B M G p s)(l11:qs.length<=11)(cl:gS qs W B)(my:fU W qs.length M)(nf:ja W qs.length M)(bs:s = "below" \/ s = "nought"):iN G p qs:=by
 obtain⟨k,rfl⟩ : ∃k,M=k+1:=⟨M-1,by have:=my.one;nofun⟩
 have m2:=my.most;have dk:=my.up k ();have hB:=cl.pos;have pp:(0:Rat)<((Dk W k:Int):Rat)*(B:Rat):=Xy (by exact_mod_cast dk) (by exact_mod_cast hB)
 obtain⟨l,ys,hp,_,_,_,h5,h6⟩:=o.at_;rw[XA] at h5 h6;have kind:=o.kind;rw[XA] at kind;have fin:∀{fs:List (Int×Int)},aL fs->(∀j,cf fs j=Pk W k j)->fs.length=k+1/\(∀q∈fs,Bq 11000 q)/\rK qs.length fs fs/\wo qs fs fs=((Dk W (k+1):Int):Rat)/(((Dk W k:Int):Rat)*(B:Rat)):=λpo num=>by
  have lr:=km po (show Dk W k≠0 by nofun) num
  have pb:=(Ap (show Dk W k≠0 by nofun) () cl.bt).congr num
  refine⟨lr,λq hq=>(pb.bq po.1 q hq).mono ∅,.inr (.inr ()),?_⟩;unfold wo;rw[lr,show cf _=Pk W k from funext num]
  exact EA cl dk
 rcases bs with rfl|rfl
 .obtain⟨rfl,rs,a1,a2,a3⟩:=h5 rfl;obtain⟨lr,b2,ft,e⟩:=fin a2 a3;refine⟨l,rs,a2,(),b2,a1,.inl ⟨hp,ft,?_⟩⟩;have d0:Dk W (k+1)<0:=by
   rcases kind with ⟨z,_⟩|⟨_,_,z⟩|⟨_,_,z⟩|⟨_,z⟩
   .exact z
   .exact absurd z ∅
   .exact absurd z ∅
   .exact absurd z ∅
  rw[e,Rat.div_def];have zq:((Dk W (k+1):Int):Rat)<0:=by exact_mod_cast d0
  have:=Xy (show (0:Rat) < -((Dk W (k+1):Int):Rat) by grind) (Rat.inv_pos.mpr pp)
  grind
 .obtain⟨l2,i,rs,rfl,a1,a2,a3,a4,a5,a6,_⟩:=h6 rfl;obtain⟨lr,b2,ft,e⟩:=fin a2 a3;have d0:Dk W (k+1)=0:=by
   rcases kind with ⟨_,z⟩|⟨z,_⟩|⟨_,_,z⟩|⟨_,z⟩
   .exact absurd z ∅
   .exact z
   .exact absurd z ∅
   .exact absurd z ∅
  have px:aL (List.replicate i (0,1)++[((1:Int),(1:Int))]):=⟨λq hq=>by
   rcases List.mem_append.mp hq with z|z
   .rw[(List.mem_replicate.mp z).2];exact kx
   .cases List.mem_singleton.mp z;exact⟨∅,∅⟩,λq hq=>by
   rw[List.getLast?_append] at hq;cases hq;decide⟩
  refine⟨l,rs,a2,(),b2,a1,.inr ⟨l2,_,hp,a4,px,by simp;nofun,λq hq=>?_,ft,.inr (.inr (by simp;nofun)),?_,?_⟩⟩
  .rcases List.mem_append.mp hq with z|z
   .rw[(List.mem_replicate.mp z).2];exact za ∅
   .cases List.mem_singleton.mp z;exact Bq.mono (m:=2) ⟨∅,∅⟩ ∅
  .rw[e,d0,show ((0:Int):Rat)=0 from rfl]
   grind
  .unfold wo;rw[lr,show cf rs=Pk W k from funext a3,show (List.replicate i ((0:Int),(1:Int))++[((1:Int),(1:Int))]).length=i+1 by simp,Cy cl dk (v:=cf (List.replicate i (0,1)++[((1:Int),(1:Int))])) λj=>by
    rw[uu];by_cases z:j<i
    .rw[Yb z,Yc ()]
    .rw[Yc z];by_cases y:j=i
     .rw[Yb y,y,XB];exact FC
     .rw[Yc y,aK (by simp;nofun)]]
   have c:=am a6;have pn:((Dk W k:Int):Rat)*(B:Rat)≠0:=⋯;rw[Rat.div_def];intro y;rcases Rat.mul_eq_zero.mp y with y|y
   .exact c y
   .grind
theorem iN.bars{K:W.Frag}{H:Hp}{a p:Addr}{qs:List (Int×Int)}{Q:VK}{E:XK}(h:iN (vw K H) p qs)(ha:aF (vw K H) a qs)(l11:qs.length<=11)(sq:eH qs)(k:∀H',aB (vw K H) (vw K H')->Q (.bl true) H'):ow K [.ref a,.ref p] H Q E:=by
 obtain⟨l,fs,pf,lf,bf,hl,e⟩:=h;refine⟨a,p,l,qs,fs,rfl,ha,l11,sq,hl,pf,lf,λq hq=>(bf q hq).mono ∅,?_⟩;rcases e with ⟨e1,e2,e3⟩|⟨l2,gs,e1,e2,e3,e4,e5,e6,e7,e8,e9⟩
 .refine .inl ⟨e1,λt H' S ht=>?_⟩;rw[ht.mpr ⟨e2,e3⟩];exact k H' S
 .refine .inr ⟨l2,gs,e1,e2,e3,e4,λq hq=>(e5 q hq).mono ∅,λt H' S ht=>?_⟩;rw[ht.mpr ⟨e6,e7,e8,e9⟩];exact k H' S
theorem iN.tree{G:Hp}{p:Addr}{qs:List (Int×Int)}(h:iN G p qs):∃d,aI G d (.ref p)/\Ky d/\(∀ds,d=.tup ds -> ∀e∈ds,e.len<=1000)/\wQ qs d:=by
 have low:∀{us:List (Int×Int)},us.length<=11->(D.lst (us.map fr)).len<=1000:=λz=>by
  show (List.map fr _).length<=1000;rw[YC];nofun
 obtain⟨l,fs,a,b,c,d,⟨e,f1,f2⟩|⟨l2,gs,e,f,g,h,i,j1,j2,j3,j4⟩⟩:=h
 .refine⟨_,.mk_tup e (.mk_cons (by unfold aI;rfl) (.mk_cons d.rep .mk_nil)),?_,?_,.inl ⟨fs,rfl,a,f1,f2⟩⟩
  .intro ds z x hx us hu pu;injection z with z
   subst z;simp only[YY,YZ,Y0] at hx;rcases hx with rfl|rfl
   .cases hu
   .rw[<-fN hu];exact⟨(),c⟩
  .intro ds z x hx;injection z with z
   subst z;simp only[YY,YZ,Y0] at hx;rcases hx with rfl|rfl
   .exact YT _
   .exact low b
 .refine⟨_,.mk_tup e (.mk_cons (by unfold aI;rfl) (.mk_cons d.rep (.mk_cons f.rep .mk_nil))),?_,?_,.inr ⟨fs,gs,rfl,a,g,j1,j2,j3,j4⟩⟩
  .intro ds z x hx us hu pu;injection z with z
   subst z;simp only[YY,YZ,Y0] at hx;rcases hx with rfl|rfl|rfl
   .cases hu
   .rw[<-fN hu];exact⟨(),c⟩
   .rw[<-fN hu];exact⟨(),i⟩
  .intro ds z x hx;injection z with z
   subst z;simp only[YY,YZ,Y0] at hx;rcases hx with rfl|rfl|rfl
   .exact YT _
   .exact low b
   .exact low h
theorem HY{p q:Int×Int}(hp:Fq p)(hq:Fq q):DN p q=decide (wv p<wv q):=by
 unfold DN;refine decide_eq_decide.mpr ?_;have p2:(0:Rat)<((p.2:Int):Rat):=Rat.intCast_pos.mpr hp.1;have q2:(0:Rat)<((q.2:Int):Rat):=Rat.intCast_pos.mpr hq.1;rw[<-Rat.intCast_lt_intCast,Xa,Xa];unfold wv;rw[Rat.div_lt_iff p2];have:(q.1:Rat)/(q.2:Rat)*(p.2:Rat)=((q.1:Rat)*(p.2:Rat))/(q.2:Rat):=⋯;rw[this,Rat.lt_div_iff q2]
theorem E9.at{G:Hp}{p:Addr}{d:D}{W:Nat->Int}{qs:List (Int×Int)}{M:Nat}(r:aI G d (.ref p))(h:E9 W qs M d):(∃(x:V)(q:Int×Int),G p=some (.tup [.str "just",x])/\aI G (fr q) x/\Dk W M=0/\Dg W qs M q)\/(G p=some (.tup [.str "any"])/\0<Dk W M/\qs.length%2=1) \/ ∃(x:V)(q:Int×Int),G p=some (.tup [.str "from",x])/\aI G (fr q) x/\0<Dk W M/\qs.length%2=0/\Dg W qs M q:=by
 rcases h with ⟨a,q,b,rfl⟩|⟨a,b,rfl⟩|⟨a,b,q,c,rfl⟩<;>obtain⟨p',xs,e,hx,rx⟩:=r.tup_at<;>cases e<;>obtain⟨x0,xr,rfl,r0,rr⟩:=rx.cons_at<;>obtain rfl:=(y9 r0).mpr rfl
 .obtain⟨x1,xq,rfl,r1,rq⟩:=rr.cons_at;obtain rfl:=rq.nil_at;exact .inl ⟨x1,q,hx,r1,a,b⟩
 .obtain rfl:=rr.nil_at;exact .inr (.inl ⟨hx,a,b⟩)
 .obtain⟨x1,xq,rfl,r1,rq⟩:=rr.cons_at;obtain rfl:=rq.nil_at;exact .inr (.inr ⟨x1,q,hx,r1,a,b,c⟩)
theorem Dg.bq{W:Nat->Int}{B:Int}{qs:List (Int×Int)}{M:Nat}{r:Int×Int}(h:Dg W qs M r)(cl:gS qs W B)(sq:∀q∈qs,jB q)(my:fU W qs.length M)(l11:qs.length<=11):Bq 1300 r:=by
 obtain⟨f,rs,po,num,w⟩:=h;obtain⟨lr,_,prs⟩:=xM (eD cl sq) my l11 po num;have hl:=sA my;have hm:=my.most;obtain⟨D,hD,bD,oD⟩:=prs;refine BO (fs:=rs) (gs:=[]) (h:=λj=>- cf qs (qs.length+1-rs.length+j)) (n:=rs.length-1) ⟨D,hD,bD,oD⟩ ?_ () f ?_
 .obtain⟨E,hE,bE,oE⟩:=k7 sq;refine⟨E,hE,bE,λj=>?_⟩;obtain⟨n,en,bn⟩:=oE (qs.length+1-rs.length+j);refine⟨-n,?_,by unfold Bt at bn ⊢;rwa [Int.natAbs_neg]⟩
  show-cf qs _=_;rw[en,Rat.intCast_neg];grind
 .rw[w];unfold vU;have:∀n,aj (cf rs) (λj=>- cf qs (qs.length+1-rs.length+j)) n = - aj (cf rs) (λj=>cf qs (qs.length+1-rs.length+j)) n:=λn=>by
   induction n with
   | zero=>show (0:Rat) = -0;grind
   | succ n ih =>
    show aj _ _ n+_ * - _ = - (aj _ _ n+_*_);rw[ih];grind
  rw[this]
theorem E9.may{K:W.Frag}{H:Hp}{Q:VK}{E:XK}{p:Addr}{y:V}{d:D}{W V:Nat->Int}{B C:Int}{qs:List (Int×Int)}{x:Int×Int}{M M':Nat}(nx:E9 W qs M d)(r:aI (vw K H) d (.ref p))(hy:aI (vw K H) (fr x) y)(fx:Fq x)(bx:Bq 1330 x)(sq:∀q∈qs,jB q)(l11:qs.length<=11)(cl:gS qs W B)(my:fU W qs.length M)(nf:¬ ja W qs.length M)(cl':gS (qs++[x]) V C)(my':fU V (qs++[x]).length M')(k:∀t:Bool,(t=true ↔ ¬ ja V (qs++[x]).length M')->Q (.bl t) H):xO K [.ref p,y] H Q E:=by
 refine⟨p,y,x,rfl,hy,fx,bx.mono ∅,?_⟩;rcases nx.at r with ⟨z,q,hp,hz,dz,nr⟩|⟨hp,dp,od⟩|⟨z,q,hp,hz,dp,ev,nr⟩
 .refine .inr (.inl ⟨z,q,hp,hz,k _ ?_⟩);rw[decide_eq_true_iff,(ut cl my nf cl' my' fx dz nr).1]
 .exact .inl ⟨hp,k _ ⟨λ_=>Eg cl my cl' my' dp od,λ_=>rfl⟩⟩
 .refine .inr (.inr ⟨z,q,hp,hz,(nr.bq cl sq my l11).mono ∅,k _ ?_⟩);rw[CY cl my cl' my' dp ev nr,Bool.not_eq_true',<-Bool.not_eq_true,HY fx nr.1,decide_eq_true_iff];exact Rat.not_lt
inductive tT (K:W.Frag)(vs:List V)(H:Hp)(Q:VK)(E:XK):Prop
 | mk (a p:Addr)(y:V)(qs:List (Int×Int))(x:Int×Int)(W:Nat->Int)(B:Int)(M:Nat)(d:D):vs=[.ref a,.ref p,y]->aF (vw K H) a qs->1<=qs.length->qs.length<=10->(∀q∈qs,jB q)->gS qs W B->fU W qs.length M -> ¬ ja W qs.length M->aI (vw K H) d (.ref p)->E9 W qs M d->aI (vw K H) (fr x) y->Fq x->Bq 1330 x->(∀H',aB (vw K H) (vw K H')->Q (.bl true) H')->tT K vs H Q E
theorem Er(F:dy K "_law_right" "_law_right" sH f fd) (T:dR K mg)(C_back:cp P w K mg base "back" ["sums"] 7 (ud K)) (zCmay:cp P w K mg base "_law_may" ["_law_told", "_law_number"] 2 (xO K)) (zCis_bar:cp P w K mg base "_law_is_bar" ["_law_sums", "_law_thing"] 6 (qb K)) (C_bars:cp P w K mg base "bars" ["sums", "thing"] 6 (ow K)) (zChas:cp P w K mg base "_law_has" ["_law_flock", "_law_sums"] 9 (Bo K)) (C_fewest:cp P w K mg base "fewest" ["sums"] 7 (mw K)) (C_is_tight:cp P w K mg base "is_tight" ["sums"] 7 (jY K)):aV P w K mg base dC 10 f fd ["_law_sums", "_law_told", "_law_number"] (tT K):=by
 have scN:=yF.nd;refine F.okQ yF ?_ ?_;walk_at "q"
 .obtain⟨_,_,_,_,_,_,_,_,_,rfl,_⟩:=h;rfl
 .obtain⟨a,p,y,qs,x,W,B,M,d,rfl,ha,l1,l10,sq,cl,my,nf,rd,nx,ry,fx,bx,h⟩:=h;refine⟨_,(af (aE (i:=3) scN rfl (·) (ar aW (qv 0) (aU (aa (qv 2) ac))))
   (af (aE (i:=4) scN rfl (·) (ah C_back nofun rfl (aa (el dL (by rfl) T.b_list fH (aa (qv 3) ac)) ac)))
   (af (b9 (QW.pt (fG (cK (cQ (ai cr (by rfl) T.b_isinstance bK (aa (qv 4) (aa (eo (v:=V.ty "tuple") rfl T.b_tuple iS rfl) ac))))) (fM (aH jw (ai ao (by rfl) T.b_len aD (aa (qv 4) ac)) ae (aC _))))) (ag (au dO)) aO)
   (af (b9 (cK (cQ (ah zCmay nofun rfl (aa (qv 1) (aa (qv 2) ac))))) (ag (au (fS (bJ kB (av aS (qv 4) ae (λ_ _=>rfl)) dc (aC _)) (fS (ah zCis_bar nofun rfl (aa (qv 3) (aa (qv 4) ac))) (fk (bJ Da (ah C_bars nofun rfl (aa (el dL (by rfl) T.b_list fH (aa (qv 3) ac)) (aa (qv 4) ac))) dO (aC _))))))) aO)
   (af (b9 (QW.pt (fG (aH kB (av aS (qv 4) ae (λ_ _=>rfl)) dc (aC _)) (fG (aH kB (ai ao (by rfl) T.b_len aD (aa (qv 4) ac)) ae (aC _)) (fM (cK (cQ (ah zChas nofun rfl (aa (av aS (qv 4) ae (λ_ _=>rfl)) (aa (qv 3) ac))))))))) (ag (au dO)) aO)
   (ag (au (fS (bJ Cn (ar bN (ai ao (by rfl) T.b_len aD (aa (av aS (av aS (qv 4) ae (λ_ _=>rfl)) ae (λ_ _=>rfl)) ac)) ae) (ah C_fewest nofun rfl (aa (el dL (by rfl) T.b_list fH (aa (qv 3) ac)) ac)) (aC _)) (fk (vd (bJ kB (av aS (qv 1) ae (λ_ _=>rfl)) dc (aC _)) (fk (bJ Da (ah C_is_tight nofun rfl (aa (el dL (by rfl) T.b_list fH (aa (qv 3) ac)) ac)) dO (aC _))))))))))))),?_⟩
  walk_at"m";skip
  have sqT:eH (qs++[x]):=eH.app sq fx bx;have sq0:∀q∈(qs++[x]).take ((qs++[x]).length-1),jB q:=λq hq=>by
   rw[YB,YJ,XA,List.take_left] at hq;exact sq q hq
  have lT:(qs++[x]).length=qs.length+1:=by simp
  obtain⟨Z,C,cl'⟩:=wB sqT;obtain⟨M',my'⟩:=yq (W:=Z) (n:=(qs++[x]).length) ();refine aP.gen λN1 hN1=>?_;symm
  obtain⟨xs,hxs,rxs⟩:=id ha;refine⟨∅,λd1 H1 hd1 S1 h1=>?_⟩;show gZ K (.ref a) (.ref d1) H1 _;rw[fB];refine⟨xs,S1 _ _ hxs,_,h1,?_,λm H2 hm S2 h2=>hN1 _ _ ?_⟩
  .have:1000<=sizeLine:=∅;have:=rxs.length;rw[YC] at this;simp only[YJ];nofun
  have S02:=S1.trans S2;have lm:aF (vw K H2) m (qs++[x]):=⟨_,h2,by
   rw[XE];exact (rxs.same S02).app (.mk_cons (aI.same S02 _ _ ry) .mk_nil)⟩
  refine aP.gen λN2 hN2=>?_;symm
  obtain⟨ys,hys,rys⟩:=id lm;refine⟨ys,hys,λc3 H3 n3 S3 h3=>?_⟩;refine⟨c3,_,Z,C,M',rfl,⟨ys,h3,rys.same S3⟩,(),(),sqT,cl',my',λv4 H4 S4 th=>hN2 _ _ ?_⟩;have S24:=S3.trans S4;have S04:=S02.trans S24;have th2:∃(p5:Addr)(s5:Str)(y5:V)(z5:List V),v4=.ref p5/\vw K H4 p5=some (.tup (.str s5::y5::z5))/\((ja Z (qs++[x]).length M'/\s5 ≠ "flock" /\ iN (vw K H4) p5 (qs++[x]))\/(¬ ja Z (qs++[x]).length M'/\s5 = "flock" /\ z5=[] /\ ∃(r b w:Addr)(rs ws:List (Int×Int)),y5=.ref r/\vw K H4 r=some (.tup [.ref b,.ref w])/\aF (vw K H4) b rs/\aF (vw K H4) w ws/\Kx (qs++[x]) rs ws (cI Z M'))):=by
   rcases th with ⟨n5,p5,s5,rfl,o5,bs5,_⟩|⟨n5,p5,r,b,w',rs,ws,rfl,hp5,hr5,hb5,hw5,fb⟩
   .obtain⟨l5,ys5,hp5,_⟩:=o5.at_;exact⟨p5,s5,_,_,rfl,hp5,.inl ⟨n5,by rcases bs5 with z|z<;>(rw[z];decide +kernel),o5.barAt () cl' my' n5 bs5⟩⟩
   .exact⟨p5,_,_,_,rfl,hp5,.inr ⟨n5,rfl,rfl,r,b,w',rs,ws,rfl,hr5,hb5,hw5,fb⟩⟩
  clear th;obtain⟨p5,s5,y5,z5,rfl,hp5,th⟩:=th2;refine aP.gen λN3 hN3=>?_;symm
  refine⟨"tuple",by simp only[Dj,hp5],?_⟩
  refine dD (by simp[fD]) ⟨2+z5.length,by simp only[de,hp5,Xm];congr 1;nofun,dD () (hN3 _ _ ?_)⟩
  refine aP.gen λN4 hN4=>?_;symm
  refine E9.may (x:=x) nx (aI.same S04 _ _ rd) (aI.same S04 _ _ ry) fx bx sq () cl my nf cl' my' λt ht=>?_;refine⟨t,rfl,?_⟩;rcases th with ⟨nf5,ns5,bar⟩|⟨nf5,rfl,rfl,r,b,w',rs,ws,rfl,hr5,hb5,hw5,fb⟩
  .have tf:t=false:=by
    cases t
    .rfl
    .exact absurd nf5 (ht.mp rfl)
   subst tf;obtain⟨d5,rd5,th5,ln5,bt5⟩:=bar.tree;refine gW rfl ?_;symm
   refine⟨_,hp5,_,cS,rfl,?_⟩;rw[Yb (show ¬ (V.str s5=V.str (Str.ofString "flock")) from λz=>ns5 (by injection z))]
   refine⟨m,_,qs++[x],d5,rfl,lm.same S24,(),sqT,rd5,th5,ln5,λt6 H6 S6 ht6=>⟨t6,rfl,?_⟩⟩;rw[ht6.mpr bt5];refine gW rfl ⟨ys,(S24.trans S6) _ _ hys,λc7 H7 n7 S7 h7=>?_⟩;have S27:=S24.trans (S6.trans S7);exact iN.bars (bar.same (S6.trans S7)) ⟨ys,h7,rys.same S27⟩ () sqT λH8 S8=>⟨_,rfl,h _ (S02.trans (S27.trans S8))⟩
  .have tt:t=true:=ht.mpr nf5;subst tt;refine dD ∅ (hN4 _ _ ?_);have nh:∃(w0:Str)(zs:List V),vw K H4 p=some (.tup (.str w0::zs))/\(w0 = "just" -> Dk Z M'=0):=by
    rcases nx.at (aI.same S04 _ _ rd) with ⟨z,q,hp,hz,dz,nr⟩|⟨hp,dp,od⟩|⟨z,q,hp,hz,dp,ev,nr⟩
    .exact⟨_,_,hp,λ_=>(ut cl my nf cl' my' fx dz nr).2⟩
    .exact⟨_,_,hp,λy=>absurd y ∅⟩
    .exact⟨_,_,hp,λy=>absurd y ∅⟩
   obtain⟨w0,zs,hpw,hj⟩:=nh;refine aP.gen λN5 hN5=>?_;symm
   refine⟨_,hp5,_,cS,rfl,dD (λz=>z rfl) ⟨_,by simp only[de,hp5];rfl,dD (λz=>z rfl) ⟨_,hp5,_,cL,?_⟩⟩⟩
   refine⟨r,b,w',m,rs,qs++[x],ws,_,rfl,hr5,hb5,hw5,lm.same S24,fb.fo,fb.pos,fb.two,(),sqT,sq0,λH6 S6=>⟨_,rfl,dD ∅ (hN5 _ _ ?_)⟩⟩;symm
   have S26:=S24.trans S6;refine⟨_,S6 _ _ hp5,_,cL,_,rfl,_,S6 _ _ hr5,_,cS,_,rfl,_,(hb5.same S6).len,ys,S26 _ _ hys,λc7 H7 n7 S7 h7=>?_⟩;refine⟨c7,qs++[x],Z,C,M',rfl,⟨ys,h7,rys.same (S26.trans S7)⟩,(),(),sqT,cl',my',nf5,λH8 S8=>?_⟩;have e1:((rs.length:Int)-1)=(cI Z M':Nat):=by rw[fb.fo.lr];nofun
   have S28:=S26.trans (S7.trans S8);refine⟨_,rfl,gW () ⟨_,(S6.trans (S7.trans S8)) _ _ hpw,_,cS,rfl,?_⟩⟩;by_cases e2:w0 = "just"
   .rw[Yc (λz=>z (by rw[e2]))]
    refine⟨ys,S28 _ _ hys,λc9 H9 n9 S9 h9=>?_⟩;refine⟨c9,qs++[x],Z,C,M',rfl,⟨ys,h9,rys.same (S28.trans S9)⟩,(),(),sqT,cl',my',nf5,λH10 S10=>⟨_,rfl,?_⟩⟩;rw[YM (hj e2)];exact h _ (S02.trans (S28.trans (S9.trans S10)))
   .rw[Yb (λz=>e2 (by injection z))]
    exact h _ (S02.trans S28)
theorem E9.flat{W:Nat->Int}{qs:List (Int×Int)}{M:Nat}{d:D}(h:E9 W qs M d):d.flat=true:=by
 rcases h with ⟨a,r,b,rfl⟩|⟨a,b,rfl⟩|⟨a,b,r,c,rfl⟩<;>rfl
theorem uv{q:Int×Int}{b c:Nat}(f:Fq q)(h:Bq b q)(hc:b+2<=c) {k:Int}(hk : -20<=k/\k<=20)(b5:5<=b):Bq c (q.1.fdiv q.2+k,1):=by
 have k5:Bt 5 k:=by unfold Bt;nofun
 exact⟨((h.1.fdv q.2).add k5).mono (),Bt.mono (x:=1) (m:=1) ∅ ()⟩
def spLaw(K:W.Frag):Sp:=λvs H Q _=>∃(a:Addr)(ns:List Int),vs=[.ref a]/\kw K H a (ns.map V.int)/\ns.length<=63 /\ ∀H',Q (.bl true) H'
theorem Ik(F:dy K "law" "law" lI f fd) (T:dR K mg)
  (zCstate:cp P w K mg base "_law_state" ["_law_script", "_law_k"] 2 (sS K)) (zCgood_sums:cp P w K mg base "_law_good_sums" ["_law_state_here", "_law_most"] 5 (jD K)) (C_next_sum:cp P w K mg base "next_sum" ["sums"] 7 (j6 K)) (zCsmall:cp P w K mg base "_law_small" ["_law_state_here"] 3 (oy K)) (zCtake:cp P w K mg base "_law_take" ["_law_state_here", "_law_many"] 1 (gP K)) (zCright:cp P w K mg base "_law_right" ["_law_sums", "_law_told", "_law_number"] 10 (tT K)):aV P w K mg base dC 11 f fd ["_law_script"] (spLaw K):=by
 have scN:=Db.nd;refine F.okQ Db ?_ ?_;walk_at "q"
 .obtain⟨a,_,rfl,_⟩:=h;rfl
 .obtain⟨a,ns,rfl,hS,hl,h⟩:=h;refine⟨_,(Fn (cC PassesOwn.never rfl (cO rfl T.b_range (aa (ai (mj rfl) (by rfl) T.b_max wY (aa ae (aa (ai (qY rfl) (by rfl) T.b_min BB (aa (ai i0 (by rfl) T.b_len aD (aa (qv 0) ac)) (aa ae ac))) ac))) ac)) (aq (i:=1) scN rfl (·)) (af (aE (i:=2) scN rfl (·) (ah zCstate nofun rfl (aa (qv 0) (aa (qv 1) ac))))
   (af (aE (i:=3) scN rfl (·) (ah zCgood_sums nofun rfl (aa (qv 2) (aa ae ac))))
   (af (aE (i:=4) scN rfl (·) (ah C_next_sum nofun rfl (aa (el dL (by rfl) T.b_list fH (aa (qv 3) ac)) ac)))
   (af (aE (i:=5) scN rfl (·) (aU (aa (ah zCsmall nofun rfl (aa (qv 2) ac)) ac)))
   (af (b9 (aH eK (ai ao (by rfl) T.b_len aD (aa (qv 4) ac)) ae (aC _)) (af (aE (i:=6) scN rfl (·) (ar pZ (av aS (av aS (qv 4) ae (λ_ _=>rfl)) ae (λ_ _=>rfl)) (av aS (av aS (qv 4) ae (λ_ _=>rfl)) ae (λ_ _=>rfl))))
   (ag (aE (i:=5) scN rfl (·) (ar aW (qv 5) (aU (aa (av aS (qv 4) ae (λ_ _=>rfl)) (aa (aT (aa (ar aW (ar aW (qv 6) ae) (ah zCtake nofun rfl (aa (qv 2) (aa ae ac)))) (aa ae ac))) (aa (aT (aa (ar bN (ar bN (qv 6) ae) (ah zCtake nofun rfl (aa (qv 2) (aa ae ac)))) (aa ae ac))) ac)))))))) aO)
   (ag (cC PassesOwn.never rfl (cR (qv 5)) (aq (i:=7) scN rfl (·)) (ag (b9 (cK (cQ (ah zCright nofun rfl (aa (qv 3) (aa (qv 4) (aa (qv 7) ac)))))) (ag (au dO)) aO))))))))))
   (ag (au dO))),?_⟩
  walk_at"m";skip
  refine Bg.mk (λσ H2=>True) ?_ ?_
  .symm
   refine⟨_,.inl hS.sq,?_⟩;simp only[YC];obtain⟨Pv,hPv⟩ : ∃Pv:Nat->St->Hp->Prop,∀k σ H',Pv k σ H'↔X7 λo1 o2 o3 o4 o5 o6 o7=>σ=[some (.ref a),o1,o2,o3,o4,o5,o6,o7]/\aB (vw K H) (vw K H'):=⟨_,λ_ _ _=>XD⟩;refine⟨by repeat' split<;>nofun,by repeat' split<;>nofun,aX (its:=fT 0 _) Pv (λ_ _ _ _ _=>bH) ((hPv _ _ _).mpr ⟨_,_,_,_,_,_,_,rfl,.rfl⟩) (λi x σ H1 hi hx pv=>?_) (λσ H1 pv=>trivial)⟩
   obtain⟨o1,o2,o3,o4,o5,o6,o7,rfl,s1⟩:=(hPv _ _ _).mp pv;obtain⟨hi',rfl⟩:=dg hx;refine aP.gen λN1 hN1=>?_;symm
   simp only[sS];symm
   refine⟨⟨i,by simp⟩,⟨ns,hS.same s1⟩,λst H2 hst0 s2 st2=>hN1 _ _ ?_⟩
   refine aP.gen λN2 hN2=>?_;symm
   refine⟨st,10,rfl,∅,∅,st2,λu H3 qs B3 st3 l3 q1 q2 sq hm nu=>hN2 _ _ ?_⟩;obtain⟨cs,hcs,hmom⟩:=hm;obtain⟨W,B,cl⟩:=wB (eH.of sq);obtain⟨M,my⟩:=yq (W:=W) (n:=qs.length) q1;have nf:=AC cl my hcs hmom;refine aP.gen λN3 hN3=>?_;symm
   obtain⟨ys,hys,rys⟩:=id l3;refine⟨ys,hys,λc4 H4 n4 S4 h4=>?_⟩;refine⟨c4,qs,W,B,M,rfl,⟨ys,h4,rys.same S4⟩,q1,(),sq,cl,my,nf,λv5 H5 d S5 nx rd=>hN3 _ _ ?_⟩;obtain⟨p,rfl⟩ : ∃p,v5=.ref p:=by
    rcases nx with ⟨_,r,_,rfl⟩|⟨_,_,rfl⟩|⟨_,_,r,_,rfl⟩<;>(obtain⟨p,_,e,_⟩:=rd.tup_at;exact⟨p,e⟩)
   have S35:=S4.trans S5;have st5:=st3.same S35;have l5:=l3.same S35;have B15:gB st (vw K H2) (vw K H5):=B3.same_trans S35;refine aP.gen λN4 hN4=>?_;symm
   refine⟨st,rfl,st5,λv6 H6 q6 B6 st6 r6 f6 b61 b62 x6=>⟨∅,λe7 H7 n7 S7 h7=>hN4 _ _ ?_⟩⟩;have l7:aF (vw K H7) u qs:=(l5.stBut st5 B6).same S7;have rd7:aI (vw K H7) d (.ref p):=by
    obtain⟨_,_,e,_⟩:=id st5;exact aI.same S7 _ _ (aI.flat_but e B6 _ _ nx.flat rd)
   have ln7:aF (vw K H7) e7 [q6]:=⟨_,h7,.mk_cons (aI.same S7 _ _ r6) .mk_nil⟩;have B27:gB st (vw K H2) (vw K H7):=(B15.trans B6).same_trans S7;have st7:=st6.same S7;have b6:Bq 1330 q6:=Bq.mono (m:=10) ⟨b61,b62⟩ ∅;refine aP.gen λN5 hN5=>?_;have fin:∀(e:Addr)(o6:Option V)(H8:Hp)(rs:List (Int×Int)),gB st (vw K H2) (vw K H8)->aF (vw K H8) u qs->aI (vw K H8) d (.ref p)->aF (vw K H8) e rs->rs.length<=4->(∀q∈rs,Fq q/\Bq 1330 q)->N5 [some (.ref a),some (.int (0+i)),some (.ref st),some (.ref u),some (.ref p),some (.ref e),o6,o7] H8:=by
    intro e o6 H8 rs B8 l8 rd8 le lrs hrs;refine hN5 _ _ ?_;symm
    obtain⟨zs,hzs,rzs⟩:=id le;refine⟨⟨_,.of (aQ hzs)⟩,?_⟩;obtain⟨Pw,hPw⟩ : ∃Pw:Nat->St->Hp->Prop,∀j σ H',Pw j σ H' ↔ ∃o7:Option V,σ=[some (.ref a),some (.int (0+i)),some (.ref st),some (.ref u),some (.ref p),some (.ref e),o6,o7]/\aB (vw K H8) (vw K H'):=⟨_,λ_ _ _=>XD⟩;refine aX (its:=zs) Pw (λj σ H' _ pw=>?_) ((hPw _ _ _).mpr ⟨_,rfl,.rfl⟩) (λj y σ H9 hj hy pw=>?_) (λσ H9 pw=>?_)
    .obtain⟨_,_,S9⟩:=(hPw _ _ _).mp pw;exact bI (S9 _ _ hzs)
    .obtain⟨o7',rfl,S9⟩:=(hPw _ _ _).mp pw;obtain⟨dq,hdq,rq⟩:=rzs.get hy;obtain⟨q,hq,rfl⟩ : ∃q,q∈rs/\fr q=dq:=by
      have:=YA hdq;simpa using this
     symm
     exact⟨u,p,y,qs,q,W,B,M,d,rfl,l8.same S9,q1,q2,sq,cl,my,nf,aI.same S9 _ _ rd8,nx,aI.same S9 _ _ rq,(hrs q hq).1,(hrs q hq).2,λH10 S10=>⟨_,rfl,dD ∅ ((hPw _ _ _).mpr ⟨_,rfl,S9.trans S10⟩)⟩⟩
    .obtain⟨o7',rfl,S9⟩:=(hPw _ _ _).mp pw;exact (hPv _ _ _).mpr ⟨_,_,_,_,_,_,_,rfl,s1.trans λb o e=>S9 _ _ (B8 _ _ (ap e hst0) (s2 _ _ e))⟩
   symm
   have cases:vw K H7 p=some (.tup [.str "any"]) \/ ∃(w0:Str)(x:V)(q:Int×Int),vw K H7 p=some (.tup [.str w0,x])/\aI (vw K H7) (fr q) x/\Dg W qs M q:=by
    rcases nx.at rd7 with ⟨z,q,hp,hz,dz,nr⟩|⟨hp,dp,od⟩|⟨z,q,hp,hz,dp,ev,nr⟩
    .exact .inr ⟨_,_,_,hp,hz,nr⟩
    .exact .inl hp
    .exact .inr ⟨_,_,_,hp,hz,nr⟩
   rcases cases with hp|⟨w0,x,q,hp,rx,nr⟩
   .exact⟨1,by simp only[de,hp];rfl,dD ∅ (fin e7 _ H7 [q6] B27 l7 rd7 ln7 (by simp) λq hq=>by rw[List.mem_singleton.mp hq];exact⟨f6,b6⟩)⟩
   obtain⟨b,rfl,hb⟩:=id rx.fr_at;have bq:=nr.bq cl sq my ();have fq:=nr.1;refine⟨2,by simp only[de,hp];rfl,gW rfl ⟨_,hp,_,cL,b,rfl,_,hb,_,cS,_,hp,_,cL,b,rfl,_,hb,_,cL,_,rfl,_,rfl,GI fq.ne (bq.2.mono ∅),_,hp,_,cL,?_⟩⟩
   simp only[gP];refine⟨st,9,rfl,st7,∅,∅,λr8 H8 r0 r1 B8 st8=>?_⟩;rw[mr];refine⟨∅,λt9 H9 n9 S9 h9=>⟨st,9,rfl,st8.same S9,∅,∅,λr10 H10 r2 r3 B10 st10=>⟨_,rfl,∅,λt11 H11 n11 S11 h11=>⟨∅,λe12 H12 n12 S12 h12=>?_⟩⟩⟩⟩;have mv:∀{G G':Hp}{d:D}{v:V},ga G st->gB st G G'->d.flat=true->aI G d v->aI G' d v:=λhs B f r=>by
    obtain⟨_,_,e,_⟩:=hs;exact aI.flat_but e B _ _ f r
   have st9:=st8.same S9;have B79:gB st (vw K H7) (vw K H9):=B8.same_trans S9;have B92:gB st (vw K H9) (vw K H12):=B10.same_trans (S11.trans S12);have B72:=B79.trans B92;obtain⟨xs,hxs,rxs⟩:=ln7.stBut st7 B72;have r9:=mv st9 B92 (cE _) (bC h9);have r11:=aI.same S12 _ _ (bC h11);have rx2:=mv st7 B72 (cE _) rx;have fl:∀n:Int,Fq (n,1):=λn=>⟨by show (0:Int)<1;decide,by simp⟩
   show gZ K (.ref e7) (.ref e12) H12 _;rw[fB];refine⟨xs,hxs,_,h12,?_,λf13 H13 n13 S13 h13=>?_⟩
   .have:1000<=sizeLine:=∅;have:=rxs.length;simp only[YC,Xm,XC] at this ⊢;nofun
   refine fin f13 _ H13 ([q6]++[q,(q.1.fdiv q.2+1+r8,1),(q.1.fdiv q.2-1-r10,1)]) ((B27.trans B72).same_trans S13) ((l7.stBut st7 B72).same S13) (aI.same S13 _ _ (mv st7 B72 nx.flat rd7)) ⟨_,h13,?_⟩ (by simp) ?_
   .rw[XE];exact (rxs.same S13).app (.mk_cons (aI.same S13 _ _ rx2) (.mk_cons (aI.same S13 _ _ r9) (.mk_cons (aI.same S13 _ _ r11) .mk_nil)))
   .intro p hp;simp only[List.cons_append,List.nil_append,YY,YZ,Y0] at hp;rcases hp with rfl|rfl|rfl|rfl
    .exact⟨f6,b6⟩
    .exact⟨fq,bq.mono ∅⟩
    .rw[Int.add_assoc];exact⟨fl _,uv fq bq ∅ () ∅⟩
    .rw[show q.1.fdiv q.2-1-r10=q.1.fdiv q.2+(- 1-r10) by nofun]
     exact⟨fl _,uv fq bq ∅ () ∅⟩
  .symm
   intro σ H2 _;exact h H2
end
local macro_rules | `(tactic| walk_at "bd")=>`(tactic| (intro _ _ _ _ _ _ us hl; first | exact HG (g:=fun us=>bindArgs _ ⟨us,[]⟩) (z:=fun us=>pure (List.zip _ us)) us hl fun _=>rfl | exact HI (g:=fun us=>bindArgs _ ⟨us,[]⟩) (z:=fun us=>pure (List.zip _ us)) us hl fun _ _=>rfl | exact Ig (g:=fun us=>bindArgs _ ⟨us,[]⟩) (z:=fun us=>pure (List.zip _ us)) us hl fun _ _ _=>rfl))
theorem all_mk{l:PySem.W.OpenLaw}{w:World}{K:W.Frag}{h:Heap}{mg:Str->Option Value}{fa f72:Addr}(X:K.In h)(G:h.Ns mainGlobals mg)(hfa:mg "law" = some (.ref fa)) (hst:l.prog.given.tree=none)
  {od72 an72:Option Addr}{sl72:Array (Option Value)}
  {oc72 kV72 dc72 pm72 cd72 ct72:Value}
  (h0:Hf K "is_whole" kQ)
  (h1:Hf K "greatest_divisor" fj)
  (h2:Hf K "power" tL)
  (h3:Hf K "trimmed" mF)
  (h4:Hf K "wholes_multiplied" eF)
  (h5:Hf K "wholes_parted" gx)
  (h6:Hf K "wholes_rests" gN)
  (h7:Hf K "is_fraction" ii)
  (h8:Hf K "ratio" sV)
  (h9:Hf K "minus" sN)
  (h10:Hf K "times" sJ)
  (h11:Hf K "is_polynomial" gq)
  (h12:Hf K "cleared" ma)
  (h13:Hf K "divided" lZ)
  (h14:Hf K "multiplied" i9)
  (h15:Hf K "slope" tG)
  (h16:Hf K "product_rest" gF)
  (h17:Hf K "inverse" mi)
  (h18:Hf K "worth" sK)
  (h19:Hf K "square_sum" jj)
  (h20:Hf K "weights_by" ji)
  (h21:Hf K "met" BM)
  (h22:Hf K "next_row" kK)
  (h23:Hf K "step_rows" jO)
  (h24:Hf K "steps" sy)
  (h25:Hf K "furthest_step" gr)
  (h26:Hf K "fits" vJ)
  (h27:Hf K "bars" vE)
  (h28:Hf K "nought_bar" i7)
  (h29:Hf K "outlook" mJ)
  (h30:Hf K "is_bar" pD)
  (h31:Hf K "flock_with" i4)
  (h32:Hf K "back" xc)
  (h33:Hf K "had" Cv)
  (h34:Hf K "number_behind" gy)
  (h35:Hf K "is_tight" kT)
  (h36:Hf K "next_sum" kN)
  (h37:Hf K "fewest" qy)
  (h38:Hf K "_law_less" wA)
  (h39:Hf K "_law_whole" sn)
  (h40:Hf K "_law_divisor" mR)
  (h41:Hf K "_law_is_fraction" io)
  (h42:Hf K "_law_is_polynomial" gv)
  (h43:Hf K "_law_low" AH)
  (h44:Hf K "_law_plus" vD)
  (h45:Hf K "_law_times" rX)
  (h46:Hf K "_law_clean" tj)
  (h47:Hf K "_law_multiplied" jh)
  (h48:Hf K "_law_worth" uc)
  (h49:Hf K "_law_square" pc)
  (h50:Hf K "_law_is_bar" qt)
  (h51:Hf K "_law_over" wN)
  (h52:Hf K "_law_summed" oO)
  (h53:Hf K "_law_along" tH)
  (h54:Hf K "_law_x" Ks)
  (h55:Hf K "_law_steps" tY)
  (h56:Hf K "_law_minus" tV)
  (h57:Hf K "_law_falling" mO)
  (h58:Hf K "_law_slope" sD)
  (h59:Hf K "_law_flock_sums" jg)
  (h60:Hf K "_law_is_flock" kS)
  (h61:Hf K "_law_has" Ct)
  (h62:Hf K "_law_cell_at" mQ)
  (h63:Hf K "_law_state" rR)
  (h64:Hf K "_law_crowd_sums" iZ)
  (h65:Hf K "_law_take" wO)
  (h66:Hf K "_law_small" rY)
  (h67:Hf K "_law_above" tW)
  (h68:Hf K "_law_crowd" rQ)
  (h69:Hf K "_law_good_sums" jP)
  (h70:Hf K "_law_may" BJ)
  (h71:Hf K "_law_right" sH)
  (a72:nsIn K mainGlobals "law" = some (some (.ref f72))) (l72:K.lookup f72=some ⟨oc72,od72,.func (fnOf "law" "law" (hJ lI) (ge lI) (ak lI) .none kV72 dc72 pm72 an72 cd72 ct72),sl72⟩) (c72:codeIn K cd72 "law" = true) (k72:keepIn K (.ref f72)=true)
  {ga0 ga1:Addr}{go0 go1:Obj}
  (u0:nsIn K mainGlobals "ZERO" = some (some (.ref ga0))) (v0:K.lookup ga0=some go0)(w0:wm go0=some (.tup [V.int (0),V.int (1)]))
  (u1:nsIn K mainGlobals "ONE" = some (some (.ref ga1))) (v1:K.lookup ga1=some go1)(w1:wm go1=some (.tup [V.int (1),V.int (1)]))
  (z0:nsIn K mainGlobals "isinstance" = some none)
  (z1:nsIn K mainGlobals "bool" = some none)
  (z2:nsIn K mainGlobals "int" = some none)
  (z3:nsIn K mainGlobals "abs" = some none)
  (z4:nsIn K mainGlobals "range" = some none)
  (z5:nsIn K mainGlobals "len" = some none)
  (z6:nsIn K mainGlobals "enumerate" = some none)
  (z7:nsIn K mainGlobals "max" = some none)
  (z8:nsIn K mainGlobals "list" = some none)
  (z9:nsIn K mainGlobals "tuple" = some none)
  (z10:nsIn K mainGlobals "sum" = some none)
  (z11:nsIn K mainGlobals "zip" = some none)
  (z12:nsIn K mainGlobals "str" = some none)
  (z13:nsIn K mainGlobals "min" = some none)
  : ∃fd:FuncData,(∀(s:Shared)(v:Value),BindsTo s fd ⟨[v],[]⟩ [("_law_script",v)]) /\ ∀base:Heap,K.In base->base.Ns mainGlobals mg->vH mg base->base.NoSeer->aV l.prog w K mg base dC 11 fa fd ["_law_script"] (spLaw K):=by
 have e:=hfa.symm.trans (PySem.W.mg_of X G a72);cases e;have T:dR K mg:=⟨trivial,GT.mk (PySem.W.mg_of X G u0) v0 w0,GT.mk (PySem.W.mg_of X G u1) v1 w1,XQ X G z0,XQ X G z1,XQ X G z2,XQ X G z3,XQ X G z4,XQ X G z5,XQ X G z6,XQ X G z7,XQ X G z8,XQ X G z9,XQ X G z10,XQ X G z11,XQ X G z12,XQ X G z13⟩;refine⟨fnOf "law" "law" (hJ lI) (ge lI) (ak lI) .none kV72 dc72 pm72 an72 cd72 ct72,λs v=>.of_eq rfl,λbase kb nb hB hSe=>?_⟩;have N_:nO l.prog base:=⟨hSe,hst⟩;have E_:Il l.prog w K mg base:=⟨h,X,G⟩;have C_is_whole:=h0.cal E_ λF=>um F T;have C_greatest_divisor:=h1.cal E_ λF=>kv F T;have C_power:=h2.cal E_ λF=>AF F T;have C_trimmed:=h3.cal E_ λF=>wu F T;have C_wholes_multiplied:=h4.cal E_ λF=>jI F T;have C_wholes_parted:=h5.cal E_ λF=>mo F T N_ C_trimmed;have C_wholes_rests:=h6.cal E_ λF=>nG F T N_ C_power C_wholes_parted;have C_is_fraction:=h7.cal E_ λF=>qq F T C_is_whole C_greatest_divisor;have C_ratio:=h8.cal E_ λF=>AA F T N_ C_greatest_divisor;have C_minus:=h9.cal E_ λF=>CD F T C_ratio;have C_times:=h10.cal E_ λF=>Cm F T C_ratio;have C_is_polynomial:=h11.cal E_ λF=>mH F T C_is_fraction;have C_cleared:=h12.cal E_ λF=>vG F T N_ C_greatest_divisor;have C_divided:=h13.cal E_ λF=>we F T C_trimmed C_ratio;have C_multiplied:=h14.cal E_ λF=>qC F T C_cleared C_divided C_wholes_multiplied;have C_slope:=h15.cal E_ λF=>An F T C_times;have C_product_rest:=h16.cal E_ λF=>nF F T C_cleared C_wholes_multiplied C_wholes_parted C_divided;have C_inverse:=h17.cal E_ λF=>vP F T N_ C_cleared C_wholes_rests C_wholes_multiplied C_divided;have C_worth:=h18.cal E_ λF=>BY F T C_cleared C_ratio;have C_square_sum:=h19.cal E_ λF=>qA F T C_worth C_multiplied;have C_weights_by:=h20.cal E_ λF=>qB F T C_product_rest C_inverse C_slope;have C_met:=h21.cal E_ λF=>Gw F T;have C_next_row:=h22.cal E_ λF=>uE F T N_ C_met;have C_step_rows:=h23.cal E_ λF=>tN F T C_met C_next_row;have C_steps:=h24.cal E_ λF=>Be F T C_cleared C_step_rows C_divided C_ratio C_met;have C_furthest_step:=h25.cal E_ λF=>mT F T C_cleared C_step_rows C_divided;have C_fits:=h26.cal E_ λF=>Ds F T;have C_bars:=h27.cal E_ λF=>E4 F T C_is_polynomial C_fits C_square_sum;have C_nought_bar:=h28.cal E_ λF=>qH F T C_worth;have C_outlook:=h29.cal E_ λF=>wl F T C_steps C_nought_bar C_furthest_step;have C_is_bar:=h30.cal E_ λF=>zR F T;have C_flock_with:=h31.cal E_ λF=>qD F T C_trimmed C_worth C_weights_by;have C_back:=h32.cal E_ λF=>DJ F T C_outlook C_is_bar C_flock_with;have C_had:=h33.cal E_ λF=>Hu F T C_outlook C_is_bar;have C_number_behind:=h34.cal E_ λF=>ml F T C_minus C_worth;have C_is_tight:=h35.cal E_ λF=>ui F T C_had;have C_next_sum:=h36.cal E_ λF=>uS F T C_had C_number_behind;have C_fewest:=h37.cal E_ λF=>zC F T C_had;have zCless:=h38.cal E_ λF=>F2 F T;have zCwhole:=h39.cal E_ λF=>Ed F T;have zCdivisor:=h40.cal E_ λF=>zw F T;have zCis_fraction:=h41.cal E_ λF=>qF F T zCdivisor zCwhole;have zCis_polynomial:=h42.cal E_ λF=>nH F T zCis_fraction;have zClow:=h43.cal E_ λF=>IS F T N_ zCdivisor;have zCplus:=h44.cal E_ λF=>Gg F T zClow;have zCtimes:=h45.cal E_ λF=>EK F T zClow;have zCclean:=h46.cal E_ λF=>Fd F T;have zCmultiplied:=h47.cal E_ λF=>td F T zCclean zCplus zCtimes;have zCworth:=h48.cal E_ λF=>Dx F T zCplus zCtimes;have zCsquare:=h49.cal E_ λF=>BX F T zCworth zCmultiplied;have zCis_bar:=h50.cal E_ λF=>Cb F T zCis_polynomial zCmultiplied zCsquare;have zCover:=h51.cal E_ λF=>Gc F T zClow;have zCsummed:=h52.cal E_ λF=>Bj F T zCclean zCplus zCtimes;have zCalong:=h53.cal E_ λF=>D8 F T zCover zCsquare zCsummed;have zCx:=h54.cal E_ λF=>KS F T;have zCsteps:=h55.cal E_ λF=>EX F T zCalong zCx zCsquare;have zCminus:=h56.cal E_ λF=>Ew F T zClow;have zCfalling:=h57.cal E_ λF=>zE F T zCminus zCtimes;have zCslope:=h58.cal E_ λF=>Dn F T zCclean zCtimes;have zCflock_sums:=h59.cal E_ λF=>sR F T zCfalling zCslope zCworth;have zCis_flock:=h60.cal E_ λF=>xj F T zCis_polynomial zCsteps zCflock_sums;have zChas:=h61.cal E_ λF=>I0 F T zCis_flock zCflock_sums;have zCcell_at:=h62.cal E_ λF=>zu F T;have zCstate:=h63.cal E_ λF=>DL F T zCcell_at
 have zCcrowd_sums:=h64.cal E_ λF=>uf F T zCplus zCtimes;have zCtake:=h65.cal E_ λF=>Hd F T;have zCsmall:=h66.cal E_ λF=>EL F T zClow zCtake;have zCabove:=h67.cal E_ λF=>E8 F T zClow zCtake;have zCcrowd:=h68.cal E_ λF=>Fk F T zCsmall zCabove zCtake zCplus;have zCgood_sums:=h69.cal E_ λF=>uD F T zCtake zCcrowd zCcrowd_sums;have zCmay:=h70.cal E_ λF=>Jy F T zCless;have zCright:=h71.cal E_ λF=>Er F T C_back zCmay zCis_bar C_bars zChas C_fewest C_is_tight;have F_0:=Ca (st:=lI) l72 c72 k72;exact Ik F_0 T zCstate zCgood_sums C_next_sum zCsmall zCtake zCright
theorem walk{l:PySem.W.OpenLaw}{q:Program}{loose:List Str}{XP:(Str->Option Value)->Heap->Prop}{YP:World->Heap->Prop}{d:DefRec}{K:Params->W.Frag}(hn:l.most=some 63)(hdf:d.params.defaults=[])(hi:PyProof.Rows.importsNone q=true)
  (hY:∀(w:World)(h:Heap),YP w h->(K w.params).In h /\ ∀q∈([]:List (Addr×Addr)),PySem.W.codeHdIn (K w.params) q.1 q.2=true/\(K w.params).lookup q.2=none/\h.get? q.2=some (PySem.W.tabObj #[]))
  (F:∀(w:World)(mg:Str->Option Value)(fa:Addr)(h:Heap),(K w.params).In h->h.Ns mainGlobals mg->mg d.name=some (.ref fa) ->
   ∃fd:FuncData,(∀(s:Shared)(u:Value),BindsTo s fd ⟨[u],[]⟩ [("_law_script",u)]) /\ ∀base:Heap,(K w.params).In base->base.Ns mainGlobals mg->vH mg base->base.NoSeer->aV l.prog w (K w.params) mg base dC 11 fa fd ["_law_script"] (spLaw (K w.params))) :
  PySem.W.WalkO q loose XP YP l.row.toRowW d [] (λf vs=>PySem.call f vs) :=
 L2.walk_ofM (ts:=λ_=>[]) (n:=63) (k:=11) (x:="_law_script") (CX:=λ_=>dC) (sp:=λw=>spLaw (K w.params)) hn ∅ hdf ⟨rfl,∅,∅⟩ hi hY F (λ_ _ a ns hl hT hK hS=>⟨a,ns,rfl,.of hS hK,hl,λ_=>rfl⟩) λ_ _ _ _ _ z=>z
end M
open PySem PySem.W PyProof.Rows
theorem Zz:True:=trivial
namespace PySem.W.Fast
theorem tw8156896207752940993:True:=Zz
theorem tw10624903120771766596:True:=Zz
theorem tw887302225230354170:True:=Zz
theorem tw17172337388515452922:True:=Zz
theorem tw485538895267376105:True:=Zz
theorem tw4995896773334101598:True:=Zz
theorem tw6945430948098327378:True:=Zz
theorem tw15327832201322455987:True:=Zz
theorem tw18274607933688039178:True:=Zz
theorem tw14683892549191935839:True:=Zz
theorem tw510291557825062122:True:=Zz
theorem tw14573589902839510341:True:=Zz
theorem tw5466386973814027488:True:=Zz
theorem tw17893877271928084342:True:=Zz
theorem tw7501307171131681022:True:=Zz
theorem tw15011950653431782330:True:=Zz
theorem tw7128215791329183496:True:=Zz
theorem tw13461778352684535879:True:=Zz
theorem tw3372502194888609842:True:=Zz
theorem tw17471255060550276003:True:=Zz
theorem tw7218057470233490686:True:=Zz
theorem tw12306978607531702146:True:=Zz
theorem tw11788009134707457047:True:=Zz
theorem tw8614064639741442721:True:=Zz
theorem tw8097572308848494173:True:=Zz
theorem tw13626529590917103782:True:=Zz
theorem tw15887917643408166433:True:=Zz
theorem tw10103068616286390732:True:=Zz
theorem tw14904021421851194958:True:=Zz
theorem tw3068383701858248788:True:=Zz
theorem tw8859331677686372699:True:=Zz
theorem tw16860008723816402882:True:=Zz
theorem tw44094698318257858:True:=Zz
theorem tw1352360408224865754:True:=Zz
theorem tw15276501398359383323:True:=Zz
theorem tw16195243277959958381:True:=Zz
theorem tw12186299758045686143:True:=Zz
theorem tw6905588793901236262:True:=Zz
theorem tw16131603959875382489:True:=Zz
theorem tw6121159781297445463:True:=Zz
theorem tw1011156875879047681:True:=Zz
theorem tw8994630980521976111:True:=Zz
theorem tw11808910257605706566:True:=Zz
theorem tw18264667224839300106:True:=Zz
theorem tw10315539811231541561:True:=Zz
theorem tw17555653863990486852:True:=Zz
theorem tw10483086141798503807:True:=Zz
theorem tw12667135426821666424:True:=Zz
theorem tw7007963167489446314:True:=Zz
theorem tw13301381710780332364:True:=Zz
theorem tw9479022453211617002:True:=Zz
theorem tw10923743777261338042:True:=Zz
theorem tw3187629412320895796:True:=Zz
theorem tw11153409782849382833:True:=Zz
theorem tw11407380391018871751:True:=Zz
theorem tw12170634138278064035:True:=Zz
theorem tw8645049846984830168:True:=Zz
theorem tw10968571814455130697:True:=Zz
theorem tw1522058790018326936:True:=Zz
theorem tw17101942241539628938:True:=Zz
theorem tw12014725360922203771:True:=Zz
theorem tw2199446763186857895:True:=Zz
theorem tw15934237847248322728:True:=Zz
theorem tw11605624255689105861:True:=Zz
theorem tw17542415365353052664:True:=Zz
theorem tw12447070676818535325:True:=Zz
theorem tw7958869312719932086:True:=Zz
theorem tw12316973682860539808:True:=Zz
theorem tw17637898323428646974:True:=Zz
theorem tw16402004019338504619:True:=Zz
theorem tw1877800480053799327:True:=Zz
theorem tw13579132838185553545:True:=Zz
theorem tw2486094772166830716:True:=Zz
theorem tw4715706231582852668:True:=Zz
theorem tw1781839792523048863:True:=Zz
theorem tw621027748114892006:True:=Zz
theorem tw1744301356455152386:True:=Zz
theorem tw17159737958038709728:True:=Zz
theorem tw38373476097006921:True:=Zz
theorem tw4324279963107366788:True:=Zz
theorem tw15978109973506071861:True:=Zz
theorem tw4710617736078453655:True:=Zz
theorem tw4084901888404380027:True:=Zz
theorem tw17242459912850604751:True:=Zz
theorem tw14984907660812672071:True:=Zz
theorem tw2084542536526093268:True:=Zz
theorem tw12689882506403461492:True:=Zz
theorem tw12222895541316202725:True:=Zz
theorem tw949003580315835091:True:=Zz
theorem tw4546020452153057653:True:=Zz
theorem tw3861450707276155200:True:=Zz
theorem tw601414057403814853:True:=Zz
theorem tw7992894721584628785:True:=Zz
theorem tw6005567050131092058:True:=Zz
theorem tw13538593717313348438:True:=Zz
theorem tw7570187780509045437:True:=Zz
theorem tw7565186456462845742:True:=Zz
theorem tw6463010182793465630:True:=Zz
theorem tw17533283850855898816:True:=Zz
theorem tw10684337437284195099:True:=Zz
theorem tw7651166364153954055:True:=Zz
theorem tw13546993957401089759:True:=Zz
theorem tw2905337457379722099:True:=Zz
theorem tw15212885421578135325:True:=Zz
theorem tw3172563478720912672:True:=Zz
theorem tw459045023694312242:True:=Zz
theorem tw1834227883785523548:True:=Zz
theorem tw11936948447825077509:True:=Zz
theorem tw15612443006050982175:True:=Zz
theorem tw13119613409506927774:True:=Zz
theorem tw16405993387817512519:True:=Zz
theorem tw10092876716975212442:True:=Zz
theorem tw13362219072709193487:True:=Zz
theorem tw14498605784691985348:True:=Zz
theorem tw1162022493099561597:True:=Zz
theorem tw1007818170497217312:True:=Zz
theorem tw11079885585650309800:True:=Zz
theorem tw9593281842125394012:True:=Zz
theorem tw5954756293893283796:True:=Zz
theorem tw3819701041132774969:True:=Zz
theorem tw6696054182536709966:True:=Zz
theorem tw4877663915117713616:True:=Zz
theorem tw16758095350109365288:True:=Zz
theorem tw9681941538133049443:True:=Zz
theorem tw1378550027792979745:True:=Zz
theorem tw34657084945373426:True:=Zz
theorem tw10457602790673517317:True:=Zz
theorem tw8344266884408883486:True:=Zz
theorem tw6108493960703575351:True:=Zz
theorem tw15785899085265528025:True:=Zz
theorem tw15865503971546429696:True:=Zz
theorem tw17469474641506496016:True:=Zz
theorem tw133442174992879335:True:=Zz
theorem tw18398954145034746225:True:=Zz
theorem tw224896861991709109:True:=Zz
theorem tw10006988852448397572:True:=Zz
theorem tw8229155615007549016:True:=Zz
theorem tw15316540868131133629:True:=Zz
theorem tw11298105969442730683:True:=Zz
theorem tw15462927470399098886:True:=Zz
theorem tw9377279850779775969:True:=Zz
theorem tw18360485382991942329:True:=Zz
theorem tw4004100598354323808:True:=Zz
theorem tw15753297224968574218:True:=Zz
theorem tw16055637055138479781:True:=Zz
theorem tw6787137515145643585:True:=Zz
theorem tw13208052761731505631:True:=Zz
theorem tw11279818039151957483:True:=Zz
theorem tw16182895174078999517:True:=Zz
theorem tw15968569826650960798:True:=Zz
theorem tw4608910328316972449:True:=Zz
theorem tw7054003273724110103:True:=Zz
theorem tw3577059026354208589:True:=Zz
theorem tw12702375725107245072:True:=Zz
theorem tw3208714228552358315:True:=Zz
theorem tw4671870022372758075:True:=Zz
theorem tw9808347239383469426:True:=Zz
theorem tw9717661836531579473:True:=Zz
theorem tw995763674904979002:True:=Zz
theorem tw2508462061429865797:True:=Zz
theorem tw11900658799795733955:True:=Zz
theorem tw3133929356757102514:True:=Zz
theorem tw12862021165831871110:True:=Zz
theorem tw14485892450785856144:True:=Zz
theorem tw2579834276444121298:True:=Zz
theorem tw6948553112239558462:True:=Zz
theorem tw12985174151371375888:True:=Zz
theorem tw15365088536887226025:True:=Zz
theorem tw4664844293463626353:True:=Zz
theorem tw15210716712928380619:True:=Zz
theorem tw7607579926552052025:True:=Zz
theorem tw12066769395820405699:True:=Zz
theorem tw2906807121539461681:True:=Zz
theorem tw2756802247546457153:True:=Zz
theorem tw6959918125605984880:True:=Zz
theorem tw8490489738525167026:True:=Zz
theorem tw16843034096849385644:True:=Zz
theorem tw4647085136494755638:True:=Zz
theorem tw4970985990304145560:True:=Zz
theorem tw6113157480535407266:True:=Zz
theorem tw18194170581862934213:True:=Zz
theorem tw7613413504092980142:True:=Zz
theorem tw18347702647938501279:True:=Zz
theorem tw13523224998255629336:True:=Zz
theorem tw17297318948468503345:True:=Zz
theorem tw6809095977443243549:True:=Zz
theorem tw10459128125525329973:True:=Zz
theorem tw14029777129027369353:True:=Zz
theorem tw5028611832052247023:True:=Zz
theorem tw17591816431883378008:True:=Zz
theorem tw172540968244702152:True:=Zz
theorem tw606316284154282354:True:=Zz
theorem tw11454253793266262927:True:=Zz
theorem tw3755291805852191995:True:=Zz
theorem tw1602363101631923894:True:=Zz
theorem tw7922616907353551749:True:=Zz
theorem tw12229562880982386102:True:=Zz
theorem tw5819752485206531362:True:=Zz
theorem tw5242592128148242181:True:=Zz
theorem tw15655796331203089494:True:=Zz
theorem tw8545158245684767092:True:=Zz
theorem tw2906708917099501880:True:=Zz
theorem tw8317131074977758145:True:=Zz
theorem tw1475682316875441893:True:=Zz
theorem tw14425096354855750572:True:=Zz
theorem tw13259476147206535907:True:=Zz
theorem tw9340116565715612337:True:=Zz
theorem tw3453881686339366993:True:=Zz
theorem tw13178032641356785938:True:=Zz
theorem tw13415973014575491049:True:=Zz
theorem tw13721427370413502207:True:=Zz
theorem tw15505700693860199833:True:=Zz
theorem tw11744081174498039041:True:=Zz
theorem tw10071458241033585594:True:=Zz
theorem tw6662412166229031236:True:=Zz
theorem tw8900849642345686851:True:=Zz
theorem tw8496710539133108044:True:=Zz
theorem tw12827620253423877926:True:=Zz
theorem tw10007787768266640511:True:=Zz
theorem tw7267739249688859445:True:=Zz
theorem tw3832939535933359917:True:=Zz
theorem tw7571886614628288985:True:=Zz
theorem tw9209206376247476306:True:=Zz
theorem tw10484815961812899220:True:=Zz
theorem tw5545767443315310240:True:=Zz
theorem tw13282373248765712542:True:=Zz
theorem tw6671314555119987371:True:=Zz
theorem tw16494011484879149281:True:=Zz
theorem tw6479716025443593142:True:=Zz
theorem tw339408025885070532:True:=Zz
theorem tw11219237581159251976:True:=Zz
theorem tw6597409286910847734:True:=Zz
theorem tw2545951454993919799:True:=Zz
theorem tw16402623508643657668:True:=Zz
theorem tw2042695027042899788:True:=Zz
theorem tw3480858629738841694:True:=Zz
theorem tw4370591736792834457:True:=Zz
theorem tw16990888013171030249:True:=Zz
theorem tw48680855634388918:True:=Zz
theorem tw5668180562891619440:True:=Zz
theorem tw14684891131045465235:True:=Zz
theorem tw11072689204157184230:True:=Zz
theorem tw2489540222374793485:True:=Zz
theorem tw8976677524974955806:True:=Zz
theorem tw3450540797784290978:True:=Zz
theorem tw12685109440150744885:True:=Zz
theorem tw2846243204728939947:True:=Zz
theorem tw4333180200972183133:True:=Zz
theorem tw18358863212327357765:True:=Zz
theorem tw8202829650141711072:True:=Zz
theorem tw663601343027013504:True:=Zz
theorem tw9787883003399943652:True:=Zz
theorem tw6207395178922526682:True:=Zz
theorem tw17485671477361050287:True:=Zz
theorem tw659124788625028336:True:=Zz
theorem tw2221413890447024984:True:=Zz
theorem tw11384938204589291048:True:=Zz
theorem tw9511163172545880631:True:=Zz
theorem tw13704057528722559112:True:=Zz
theorem tw12975461093946376567:True:=Zz
theorem tw2694454071195196807:True:=Zz
theorem tw17058294778277595812:True:=Zz
theorem tw8906614396797097035:True:=Zz
theorem tw4958811093333018169:True:=Zz
theorem tw15940559032737931927:True:=Zz
theorem tw9690660011230961395:True:=Zz
theorem tw2643529222503611457:True:=Zz
theorem tw1856937262275459020:True:=Zz
theorem tw16374967238340697272:True:=Zz
theorem tw15358837083713248814:True:=Zz
theorem tw13700195310926078267:True:=Zz
theorem tw870439074927013606:True:=Zz
theorem tw8702599683646882938:True:=Zz
theorem tw2695055401494364584:True:=Zz
theorem tw4890139445385693930:True:=Zz
theorem tw13349403809406005788:True:=Zz
theorem tw14220124760595202312:True:=Zz
theorem tw8051524089628850635:True:=Zz
theorem tw11134429997238177083:True:=Zz
theorem tw17228788829393908872:True:=Zz
theorem tw7394500933439031057:True:=Zz
theorem tw13059662187066758170:True:=Zz
theorem tw8083864203306973908:True:=Zz
theorem tw10561697363205205990:True:=Zz
theorem tw4776321296516868329:True:=Zz
theorem tw13155957304279616921:True:=Zz
theorem tw1683781993561117410:True:=Zz
theorem tw2741873775772209017:True:=Zz
theorem tw15784513408071817631:True:=Zz
theorem tw7761856455667929700:True:=Zz
theorem tw730224843183092179:True:=Zz
theorem tw9315339961582318612:True:=Zz
theorem tw15742744882708544971:True:=Zz
theorem tw4231710216214509893:True:=Zz
theorem tw14615356978162185180:True:=Zz
theorem tw2944537714613800488:True:=Zz
theorem tw5738881142725002066:True:=Zz
theorem tw181059590364828453:True:=Zz
theorem tw7336088064275806978:True:=Zz
theorem tw1035981953985244571:True:=Zz
theorem tw8064363749176627216:True:=Zz
theorem tw6582787284280039215:True:=Zz
theorem tw15018285343840665120:True:=Zz
theorem tw2948830962034549517:True:=Zz
theorem tw1989178594841380032:True:=Zz
theorem tw5824959213052695471:True:=Zz
theorem tw10326219286278769595:True:=Zz
theorem tw17387898496584293473:True:=Zz
theorem tw4587863682991880473:True:=Zz
theorem tw7472174484291554801:True:=Zz
theorem tw16498472700150972758:True:=Zz
theorem tw4159166779356694978:True:=Zz
theorem tw14710902942096219547:True:=Zz
theorem tw13419943517423032324:True:=Zz
theorem tw8144541660359842781:True:=Zz
theorem tw627249902425849281:True:=Zz
theorem tw7476671238968097837:True:=Zz
theorem tw11278157111286532359:True:=Zz
theorem tw12555554376680946413:True:=Zz
theorem tw36078081072964918:True:=Zz
theorem tw16864867628120755327:True:=Zz
theorem tw12665953429007842738:True:=Zz
theorem tw2986865586622412496:True:=Zz
theorem tw6024896109444856644:True:=Zz
theorem tw2722442373300153304:True:=Zz
theorem tw9695656536196885902:True:=Zz
theorem tw13361696297865763105:True:=Zz
theorem tw11387039113251475258:True:=Zz
theorem tw8483023991082467245:True:=Zz
theorem tw5454447719761954279:True:=Zz
theorem tw5226336489218927370:True:=Zz
theorem tw3481089738490996466:True:=Zz
theorem tw10749996416455889929:True:=Zz
theorem tw16896903623000693058:True:=Zz
theorem tw8319687234328279786:True:=Zz
theorem tw18250623675417739554:True:=Zz
theorem tw17774230056746679518:True:=Zz
theorem tw12898544473458856848:True:=Zz
theorem tw17432202443721361860:True:=Zz
theorem tw2885947874470566220:True:=Zz
theorem tw7770775867797216731:True:=Zz
theorem tw3017507667962064974:True:=Zz
theorem tw9067462662890081040:True:=Zz
theorem tw6549203961661720079:True:=Zz
theorem tw3496571700063965162:True:=Zz
theorem tw7671958430435863478:True:=Zz
theorem tw8544399833837446202:True:=Zz
theorem tw11743173184848558587:True:=Zz
theorem tw4342494009694962270:True:=Zz
theorem tw11116129770323749209:True:=Zz
theorem tw11206698137879869603:True:=Zz
theorem tw16226969924008876831:True:=Zz
theorem tw9571597186246247322:True:=Zz
theorem tw8286446819717582879:True:=Zz
theorem tw13548300210521050463:True:=Zz
theorem tw4022066580400585772:True:=Zz
theorem tw16490551049820176201:True:=Zz
theorem tw3745602343393430720:True:=Zz
theorem tw17568280535418302748:True:=Zz
theorem tw1007067704662308621:True:=Zz
theorem tw3204037742013456819:True:=Zz
theorem tw15757033477850363052:True:=Zz
theorem tw13678926203599206443:True:=Zz
theorem tw9637121425993291302:True:=Zz
theorem tw7111510778651127043:True:=Zz
theorem tw10871561071597300239:True:=Zz
theorem tw18435909893057559546:True:=Zz
theorem tw6304750112621584768:True:=Zz
theorem tw14595418719792558078:True:=Zz
theorem tw1530885849593070815:True:=Zz
theorem tw714298758505577627:True:=Zz
theorem tw13029246803827560410:True:=Zz
theorem tw151371193900819428:True:=Zz
theorem tw6249470998794795786:True:=Zz
theorem tw16765780870818311942:True:=Zz
theorem tw3896212582433010551:True:=Zz
theorem tw1558551408055191324:True:=Zz
theorem tw12855422233654779672:True:=Zz
theorem tw1177717465263998261:True:=Zz
theorem tw7854210978110378169:True:=Zz
theorem tw3092628219932273931:True:=Zz
theorem tw1701338213219399742:True:=Zz
theorem tw6812353297681635679:True:=Zz
theorem tw2673130627754169883:True:=Zz
theorem tw6334615845926755175:True:=Zz
theorem tw13449962481507994316:True:=Zz
theorem tw12013683883206474696:True:=Zz
theorem tw13804146916529352289:True:=Zz
theorem tw7381037033156679641:True:=Zz
theorem tw9790805994564727717:True:=Zz
theorem tw10713845766309646204:True:=Zz
theorem tw14768784336143399813:True:=Zz
theorem tw14016009431732240382:True:=Zz
theorem tw14007999014772214612:True:=Zz
theorem tw10639782635925891538:True:=Zz
theorem tw14202478007686457948:True:=Zz
theorem tw3300889243439897673:True:=Zz
theorem tw4335150019973297219:True:=Zz
theorem tw16126755486123192577:True:=Zz
theorem tw8076424595533267312:True:=Zz
theorem tw15846143663097041779:True:=Zz
theorem tw12088861691835741618:True:=Zz
theorem tw1312212147212068841:True:=Zz
theorem tw13696767194128561359:True:=Zz
theorem tw18280786467134126711:True:=Zz
theorem tw12997694299092540931:True:=Zz
theorem tw8497365437848214523:True:=Zz
theorem tw14617135919624385150:True:=Zz
theorem tw4847349874138963577:True:=Zz
theorem tw15165467776113362219:True:=Zz
theorem tw7524264638929894193:True:=Zz
theorem tw14517165692914793351:True:=Zz
theorem tw3818336481653785126:True:=Zz
theorem tw17800284518094559293:True:=Zz
theorem tw12560891082425164728:True:=Zz
theorem tw9534567043642543879:True:=Zz
theorem tw11881475095286726817:True:=Zz
theorem tw17004561498101301590:True:=Zz
theorem tw14330147038295542628:True:=Zz
theorem tw12898366001074795434:True:=Zz
theorem tw3025139486335159974:True:=Zz
theorem tw4373907843936516006:True:=Zz
theorem tw15765884164975139109:True:=Zz
theorem tw15168678369060037710:True:=Zz
theorem tw5335529463072615142:True:=Zz
theorem tw2367507315220344884:True:=Zz
theorem tw5748860174237903976:True:=Zz
theorem tw15537732000095615827:True:=Zz
theorem tw9406416807285313962:True:=Zz
theorem tw483824249384312097:True:=Zz
theorem tw11961906295827542998:True:=Zz
theorem tw7810306453200678313:True:=Zz
theorem tw7736774376512042873:True:=Zz
theorem tw1835655563044985370:True:=Zz
theorem tw5964757344048186836:True:=Zz
theorem tw382386311940933800:True:=Zz
theorem tw6469218299818154060:True:=Zz
theorem tw3310928509919894682:True:=Zz
theorem tw8744634743013467268:True:=Zz
theorem tw5943699361210396982:True:=Zz
theorem tw541920979211905316:True:=Zz
theorem tw10573383934061200756:True:=Zz
theorem tw17196865860713563999:True:=Zz
theorem tw14859942578676965969:True:=Zz
theorem tw2213980993594073639:True:=Zz
theorem tw11589663162871080021:True:=Zz
theorem tw14384153884209069988:True:=Zz
theorem tw18270325448860131697:True:=Zz
theorem tw13116729275824937701:True:=Zz
theorem tw18113701630105481393:True:=Zz
theorem tw7080459490186696025:True:=Zz
theorem tw9995536195562861539:True:=Zz
theorem tw2788134615070355802:True:=Zz
theorem tw233936055980043449:True:=Zz
theorem tw9247399420674450956:True:=Zz
theorem tw11170766090652135601:True:=Zz
theorem tw8634637253295855500:True:=Zz
theorem tw4618181140517665311:True:=Zz
theorem tw15718871413370428503:True:=Zz
theorem tw467038558508623244:True:=Zz
theorem tw14267962053474688072:True:=Zz
theorem tw4704643388828738927:True:=Zz
theorem tw1660063861061317001:True:=Zz
theorem tw16808132528836904756:True:=Zz
theorem tw8393589192074693465:True:=Zz
theorem tw5232525118844960720:True:=Zz
theorem tw18394921244662249546:True:=Zz
theorem tw14215146980408655045:True:=Zz
theorem tw1812792647636192965:True:=Zz
theorem tw9505238297764383327:True:=Zz
theorem tw12192386945781091061:True:=Zz
theorem tw17210476805400133982:True:=Zz
theorem tw1335315693530385361:True:=Zz
theorem tw17350536768259652177:True:=Zz
theorem tw958187864570682053:True:=Zz
theorem tw16765076069400989478:True:=Zz
theorem tw17978149744437194724:True:=Zz
theorem tw11712878647771976047:True:=Zz
theorem tw2304670072207169239:True:=Zz
theorem tw10182869483007550967:True:=Zz
theorem tw15053955899856915412:True:=Zz
theorem tw4258280477374124740:True:=Zz
theorem tw1555611596329262594:True:=Zz
theorem tw13099861175018467969:True:=Zz
theorem tw1038136979887769104:True:=Zz
theorem tw4923908768805953099:True:=Zz
end PySem.W.Fast
set_option maxRecDepth 100000 in
set_option maxHeartbeats 0 in
theorem PySem.Challenge.cw_momentwright_k48_whole_what_comes_has_a_holds : PySem.Challenge.rw_momentwright_k48_whole_what_comes_has_a.Holds := by
 w_on;o_law;k_head;(case hw=>w_witness2)
 k_fill
 refine M.walk (l:=PySem.Challenge.rw_momentwright_k48_whole_what_comes_has_a) rfl rfl ?hi (fun w h Y=>⟨PySem.W.kIn_of Y,fun q hq=>by cases hq⟩) ?F
 case hi=>exact ∅
 case F =>
  intro w mg fa h KX G hmg
  refine' M.all_mk KX G hmg rfl ?h0 ?h1 ?h2 ?h3 ?h4 ?h5 ?h6 ?h7 ?h8 ?h9 ?h10 ?h11 ?h12 ?h13 ?h14 ?h15 ?h16 ?h17 ?h18 ?h19 ?h20 ?h21 ?h22 ?h23 ?h24 ?h25 ?h26 ?h27 ?h28 ?h29 ?h30 ?h31 ?h32 ?h33 ?h34 ?h35 ?h36 ?h37 ?h38 ?h39 ?h40 ?h41 ?h42 ?h43 ?h44 ?h45 ?h46 ?h47 ?h48 ?h49 ?h50 ?h51 ?h52 ?h53 ?h54 ?h55 ?h56 ?h57 ?h58 ?h59 ?h60 ?h61 ?h62 ?h63 ?h64 ?h65 ?h66 ?h67 ?h68 ?h69 ?h70 ?h71 ?a72 ?l72 ?c72 ?k72  ?u0 ?v0 ?w0 ?u1 ?v1 ?w1 ?z0 ?z1 ?z2 ?z3 ?z4 ?z5 ?z6 ?z7 ?z8 ?z9 ?z10 ?z11 ?z12 ?z13
  any_goals (refine' L2.Hf.of ?a ?l ?c ?k;(case a=>k_is);(case l=>k_is);(case c=>k_is);(case k=>k_is))
  (case a72=>k_is);(case l72=>k_is);(case c72=>k_is);(case k72=>k_is)
  (case u0=>k_is);(case v0=>k_is);(case w0=>rfl)
  (case u1=>k_is);(case v1=>k_is);(case w1=>rfl)
  (case z0=>k_is)
  (case z1=>k_is)
  (case z2=>k_is)
  (case z3=>k_is)
  (case z4=>k_is)
  (case z5=>k_is)
  (case z6=>k_is)
  (case z7=>k_is)
  (case z8=>k_is)
  (case z9=>k_is)
  (case z10=>k_is)
  (case z11=>k_is)
  (case z12=>k_is)
  (case z13=>k_is)
#print axioms PySem.Challenge.cw_momentwright_k48_whole_what_comes_has_a_holds

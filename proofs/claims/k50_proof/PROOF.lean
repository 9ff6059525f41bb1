import PyProof.Rows.All
import Wide.All
import OpenK.AllK
import Wide.FinOn
import Lean
import PyProof.EqAt
import PyProof.EqKinds
import PyProof.TupleCall
import PyProof.NeKinds
import PyProof.StrLawsIn
import KE.KRevSl
import PyProof.ZipIter
import PyProof.ListRange
import PyProof.Rows.SortStr
import KE.KRevIter
import PyProof.EnumMake
import PyProof.EnumFor
import PyProof.Draws
import KE.KIntText
import PyProof.CallStr
import PyProof.Rows.MinMaxN
import KE.KDictOf
import PyProof.AttrMissHeap
import PySem.Challenge.RW_pastways_k50_least
set_option bootstrap.genMatcherCode false
set_option compiler.extract_closed false
set_option maxHeartbeats 4000000
noncomputable section
set_option Elab.async false
set_option linter.all false
set_option maxRecDepth 100000
def fB:=@PySem.wpAny_bind
def gE:=@List.getElem?_append_left
def gQ:=@if_pos
def gR:=@List.getElem?_set_ne
def gV:=@List.map_cons
def iY:=@Bool.and_eq_true
def jC:=@Option.some.inj
def kJ:=@List.getElem?_set_self
def oM:=@Nat.le_refl
def zP:=@Nat.lt_of_lt_of_le
def JM:=@Option.map_eq_some_iff
def RT:=@PySem.Heap.get?_push_of_some
def RU:=@List.replicate_succ
def RW:=@PySem.wpAny_pure
def RX:=@List.mem_of_getElem?
def RY:=@List.size_toArray
def RZ:=@List.getElem?_eq_getElem
def R0:=@if_neg
def R1:=@List.length_append
def R3:=@List.length_cons
def R4:=@Option.bind_eq_some_iff
def R5:=@PySem.Heap.lt_size
def R6:=@List.reverse_cons
def R7:=@decide_eq_false
def R8:=@congrArg
def R9:=@List.mem_cons_of_mem
def Sa:=@Nat.le_trans
def Sb:=@PySem.Heap.get?_push_size
def Sd:=@List.map_append
def Se:=@List.length_map
def Sf:=@if_true
def Sg:=@List.cons_append
def Sh:=@Nat.ne_of_lt
def Si:=@Bool.false_eq_true
def Sj:=@List.getElem?_append_right
def Sk:=@List.length_singleton
def Sn:=@List.mem_cons_self
def So:=@List.mem_append_right
def Sq:=@List.take_succ_cons
def Su:=@List.getElem?_map
def Sv:=@List.append_assoc
def Sw:=@Nat.lt_irrefl
def Sx:=@List.append_nil
def Sy:=@List.getElem?_eq_none
def Sz:=@PySem.AutoSeq1.wpAny_loadPart'
def SA:=@List.foldl_cons
def SD:=@PySem.W.mg_none_of
def SE:=@List.take_of_length_le
def SG:=@of_decide_eq_true
def SH:=@List.filterMap_cons
def SI:=@PySem.wpAny_ite_split
def SJ:=@PySem.wpAny_mono
def SK:=@if_false
def SM:=@PySem.wpAny_newObj_type
def SN:=@List.find?_cons
def SO:=@Bool.or_eq_true
def SQ:=@Nat.zero_le
def SS:=@List.drop_eq_nil_of_le
def SV:=@List.drop_length
def SW:=@decide_eq_true
def SX:=@PySem.builtinLookup_eq_fast
def SY:=@PyProof.Rows.slot_tuple_getitem
def S5:=@decide_eq_true_eq
def S6:=@List.flatten_cons
def S7:=@PySem.wpAny_call_entry
def S8:=@List.lookup_cons
def S9:=@List.length_take
def Tc:=@PySem.wpAny_field
def Td:=@PySem.sizeLine_eq
def Te:=@of_decide_eq_false
def Tf:=@List.mem_singleton
def Tg:=@Bool.false_ne_true
def Th:=@PyProof.Rows.callWith_type1
def Ti:=@PySem.wpAny_passesOwn
def Tj:=@PySem.Heap.get?_update_self
def To:=@Bool.not_eq_true'
def Tp:=@List.drop_eq_getElem_cons
def Tt:=@PySem.wpAny_of_eq
def Tu:=@Ne.symm
def Tv:=@List.drop_zero
def Tw:=@Nat.add_comm
def Tz:=@List.length_drop
def TF:=@PySem.mem_of_lookup
def TH:=@List.drop_succ_cons
def TJ:=@Array.length_toList
def TL:=@PySem.wpAny_callSpecial?_slot
def TM:=@PySem.F.plainAttrs_list
def TN:=@PySem.call_meets
def TQ:=@PySem.wpAny_specialOf
def TR:=@PySem.typeLookup_type
def TU:=@List.length_nil
def TV:=@PySem.wpAny_Call_Name_kw
def TX:=@PySem.Heap.get?_update_other
def TZ:=@Option.some.injEq
def T3:=@Int.toNat_natCast
def T4:=@PySem.isSubtype_type
def T5:=@List.drop_drop
def T6:=@List.dropLast_eq_take
def T7:=@Nat.lt_succ_self
def T8:=@List.filter_cons
def T9:=@Nat.add_assoc
def Ua:=@Option.bind_eq_bind
def Ub:=@List.range_succ
def Uc:=@List.map_nil
def Ud:=@List.map_map
def Ue:=@Option.isSome_some
def Ug:=@PySem.Obj.data_mapFields
def Uh:=@Nat.lt_of_le_of_lt
def Ui:=@Int.emod_lt_of_pos
def Uj:=@PySem.Calls.spliced_cons
def Uk:=@PySem.F.args_tuple_mul_2
def Ul:=@PySem.F.args_tuple_add_2
def Um:=@PyProof.Rows.len_str
def Uo:=@PySem.F.entry_tuple_mul
def Up:=@PySem.F.entry_tuple_add
def Uq:=@PySem.wpAny_truthy_bool
def Ur:=@List.foldl_append
def Us:=@PySem.F.slot_tuple_mul
def Ut:=@PySem.F.slot_tuple_add
def Uu:=@PySem.Calls.callWith_builtin
def Uv:=@PySem.W.mg_of
def Uw:=@PySem.F.slot_dict_get
def Ux:=@List.set_getElem_self
def Uy:=@List.length_replicate
def Uz:=@Nat.min_eq_left
def UA:=@List.nodup_cons
def UB:=@List.nil_append
def UC:=@Int.emod_nonneg
def UD:=@PySem.W.plainGet_of
def UE:=@List.map_congr_left
def UG:=@List.getElem?_range
def UH:=@PySem.Heap.SameBut.update
def UI:=@PySem.tupleKind_room_in1
def UJ:=@PySem.W.callWith_K
def UK:=@List.filter_append
def UL:=@PySem.wpAny_holding
def UM:=@PySem.wpAny_attempt
def UN:=@PySem.Paired.length
def UO:=@PySem.Calls.Name_function_global
def UP:=@List.ext_getElem?
def UQ:=@PySem.Calls.spliced_nil
def UR:=@PySem.typeIs_int
def US:=@PySem.wpAny_binaryOp_repeat_ref
def UT:=@List.getElem?_eq_none_iff
def UU:=@Array.getElem?_eq_getElem
def UW:=@PySem.wpAny_typeOf
def UX:=@PySem.codeAny_mono
def UY:=@Nat.le_of_lt
def UZ:=@PySem.wpAny_isInstance
def U0:=@PySem.noFill_tuple_add
def U1:=@Nat.min_eq_right
def U3:=@PySem.AutoSeq1.idx_int
def U4:=@PySem.wpAny_comprehension_free
def U5:=@PySem.F.type_list_append
def U6:=@PySem.F.slot_list_append
def U7:=@decide_eq_false_iff_not
def U8:=@PySem.F.args_dict_get_3
def U9:=@List.getElem?_replicate
def Va:=@PySem.wpAny_updateSeq
def Vb:=@PySem.wpAny_execs_nil
def Vc:=@List.of_mem_zip
def Vd:=@List.head?_drop
def Ve:=@PySem.W.cellsFrom_some
def Vf:=@PySem.F.entry_dict_get
def Vg:=@List.range_succ_eq_map
def Vh:=@PySem.wpAny_setField
def Vi:=@List.tail_drop
def Vj:=@List.drop_left
def Vk:=@PySem.Heap.size_push
def Vl:=@PySem.W.methodCall_KW
def Vm:=@PySem.F.slot_int_rmul
def Vn:=@PySem.Obj.isFreed_of_fields
def Vo:=@List.singleton_append
def Vp:=@Array.getElem?_toList
def Vq:=@PySem.args_get
def Vr:=@PySem.wpAny_rule
def Vs:=@List.mem_append_left
def Vt:=@List.getElem?_of_mem
def Vu:=@List.getElem?_modify
def Vv:=@PySem.signature?_of
def Vw:=@PySem.seq_tuple_add
def Vx:=@PySem.plainId_quiet
def Vy:=@List.mem_cons
def Vz:=@List.any_cons
def VA:=@Nat.sub_lt_sub_left
def VB:=@List.flatMap_append
def VC:=@PySem.W.insI_perm
def VD:=@PySem.concat_meets
def VE:=@Nat.ne_of_gt
def VF:=@Int.zero_add
def VG:=@List.find?_eq_none
def VH:=@List.take_add_one
def VI:=@List.getElem?_inj
def VJ:=@Function.comp_def
def VL:=@Nat.le_succ
def VM:=@beq_self_eq_true
def VN:=@PySem.seqSlot_of
def VO:=@Option.getD_none
def VP:=@Nat.succ_le_succ
def VQ:=@List.getElem_inj
def VR:=@List.all_eq_true
def VS:=@bne_iff_ne
def VT:=@beq_iff_eq
def VU:=@Option.map_some
def VV:=@Nat.le_antisymm
def VW:=@List.forIn_cons
def VX:=@List.cons.injEq
namespace L2
open PySem PySem.Spec PyProof.Rows
abbrev Key:=Sum Int Str
noncomputable def mz:Key->Value->Bool
 |.inl k,v=>Value.isInt k v
 |.inr x,v=>Value.isStrOf x v
noncomputable def Ny(w:World):Key->Int
 |.inl k=>hashInt k
 |.inr x=>hashStr w x
def cR:∀{k:Key}{v:Value},mz k v=true->(∃i t,k=Sum.inl i/\v=Value.int i t)\/(∃x t,k=Sum.inr x/\v=Value.str x t)
 |.inl i,v,h=>by
  obtain⟨t,e⟩:=Value.isInt_shape (k:=i) (v:=v) h;exact .inl ⟨i,t,rfl,e⟩
 |.inr x,v,h=>by
  obtain⟨t,e⟩:=Value.isStrOf_shape (x:=x) (v:=v) h;exact .inr ⟨x,t,rfl,e⟩
def xE(i:Int)(t:Tok):mz (.inl i) (.int i t)=true:=by simp[mz,Value.isInt]
def xF(x:Str)(t:Tok):mz (.inr x) (.str x t)=true:=by simp[mz,Value.isStrOf]
def Fd(a b:Int):decide ((Sum.inl a:Key)=Sum.inl b)=(a==b):=by
 by_cases e:a=b
 .subst e;simp
 .have h:¬ (Sum.inl a:Key)=Sum.inl b:=λq=>e (Sum.inl.inj q);rw[R7 h];exact(beq_eq_false_iff_ne.mpr e).symm
def Fe(a b:Str):decide ((Sum.inr a:Key)=Sum.inr b)=decide (a=b):=by
 by_cases e:a=b
 .subst e;simp
 .have h:¬ (Sum.inr a:Key)=Sum.inr b:=λq=>e (Sum.inr.inj q);rw[R7 h,R7 e]
def Ff(a:Int)(b:Str):decide ((Sum.inl a:Key)=Sum.inr b)=false:=R7 (λq=>nomatch q)
def Fi(a:Str)(b:Int):decide ((Sum.inr a:Key)=Sum.inl b)=false:=R7 (λq=>nomatch q)
noncomputable def bO(prog:Program)(w:World):PySem.KeyKind prog w Key where
 is:=mz
 hash:=Ny w
 inj:=λv a b g f=>by
  rcases cR g with ⟨i,t,rfl,rfl⟩|⟨x,t,rfl,rfl⟩
  .rcases cR f with ⟨j,u,rfl,e⟩|⟨y,u,rfl,e⟩
   .injection e with c _;rw[c]
   .exact nomatch e
  .rcases cR f with ⟨j,u,rfl,e⟩|⟨y,u,rfl,e⟩
   .exact nomatch e
   .injection e with c _;rw[c]
 byValue:=λk v h=>by
  rcases cR h with ⟨i,t,rfl,rfl⟩|⟨x,t,rfl,rfl⟩<;>rfl
 pyHash:=λd h=>by
  rcases cR d with ⟨i,t,rfl,rfl⟩|⟨x,t,rfl,rfl⟩
  .exact wpAny_pyHash_int h
  .exact wpAny_pyHash_str h
 eqBool:=λl d h=>by
  rcases cR l with ⟨i,t,rfl,rfl⟩|⟨x,t,rfl,rfl⟩
  .rcases cR d with ⟨j,u,rfl,rfl⟩|⟨y,u,rfl,rfl⟩
   .rw[Fd]at h;exact wpAny_eqBool_int h
   .rw[Ff]at h;exact SeqAt.EqAt.int_str i t y u _ _ _ _ h
  .rcases cR d with ⟨j,u,rfl,rfl⟩|⟨y,u,rfl,rfl⟩
   .rw[Fi]at h;exact SeqAt.EqAt.str_int x t j u _ _ _ _ h
   .rw[Fe]at h;exact wpAny_eqBool_str h
 «strs»:=λk x t v h=>by
  rcases cR h with ⟨i,u,rfl,e⟩|⟨y,u,rfl,e⟩
  .exact nomatch e
  .injection e with c _
   subst c;cases v<;>rfl
def ud(prog:Program)(w:World)(i:Int)(t:Tok):(bO prog w).is (.inl i) (.int i t)=true:=xE i t
def ue(prog:Program)(w:World)(x:Str)(t:Tok):(bO prog w).is (.inr x) (.str x t)=true:=xF x t
inductive V where
 |aY|bl (b:Bool)|int (i:Int)|str (x:Str)|xG (b:Array UInt8)|uu (b:UInt64)|ref (a:Addr)|ty (n:String)
 deriving DecidableEq
def RelV:V->Value->Prop
 |.aY,u=>u=Value.none
 |.bl b,u=>u=Value.bool b
 |.int i,u=>∃t,u=Value.int i t
 |.str x,u=>∃t,u=Value.str x t
 |.xG b,u=>∃t,u=Value.bytes b t
 |.uu b,u=>∃t,u=Value.float b t
 |.ref a,u=>u=Value.ref a
 |.ty n,u=>u=Value.type n
abbrev Vals:List V->List Value->Prop:=Paired RelV
theorem Vals.length{xs:List V}{us:List Value}(r:Vals xs us):xs.length=us.length:=UN r
theorem Vals.get:∀{xs:List V}{us:List Value}{i:Nat}{x:V},Vals xs us->xs[i]?=some x->∃u,us[i]?=some u/\RelV x u
 |_,_,_,_,.nil,e=>by simp at e
 |_,_,0,_,.cons r _,e=>by simp at e;subst e;exact⟨_,rfl,r⟩
 |_,_,i+1,x,.cons _ t,e=>by
  obtain⟨u,a,b⟩:=Vals.get (i:=i) (x:=x) t (by simpa using e);exact⟨u,by simpa using a,b⟩
theorem Vals.append:∀{xs ys:List V}{us ws:List Value},Vals xs us->Vals ys ws->Vals (xs++ys) (us++ws)
 |_,_,_,_,.nil,s=>s
 |_,_,_,_,.cons r t,s=>.cons r (Vals.append t s)
theorem Vals.take:∀{xs:List V}{us:List Value}(n:Nat),Vals xs us->Vals (xs.take n) (us.take n)
 |_,_,0,_=>.nil
 |_,_,_+1,.nil=>.nil
 |_,_,n+1,.cons r t=>.cons r (Vals.take n t)
theorem Vals.drop:∀{xs:List V}{us:List Value}(n:Nat),Vals xs us->Vals (xs.drop n) (us.drop n)
 |_,_,0,r=>r
 |_,_,_+1,.nil=>.nil
 |_,_,n+1,.cons _ t=>Vals.drop n t
def nq:Option V->Option Value->Prop
 |some v,some u=>RelV v u
 |none,none=>True
 |_,_=>False
def KV{κ:Type}:List (κ×V)->List (κ×Value)->Prop:=Paired λ(p:κ×V) (q:κ×Value)=>p.1=q.1/\RelV p.2 q.2
noncomputable def kV:Key->V
 |.inl i=>.int i
 |.inr x=>.str x
inductive HO where
 |lst (xs:List V)
 |tup (xs:List V)
 |dK (kvs:List (Key×V))|dT (kvs:List (List Key×V))
 |set (S:Int->Bool) (n:Nat)
 |ins (C dx:Addr) (fs:List (Str×V))
 |own (x:Addr)
 |xd (fs:List (Str×V))
 |met (f x:Addr)
 |eS (lo hi:Int)
 |bz (o:Obj) (u:HO)
 |rm (ps:Array Value)
 |ext (φ:Heap->Prop)
abbrev Hp:=Addr->Option HO
noncomputable def upd(H:Hp)(a:Addr)(o:HO):Hp:=λb=>if b=a then some o else H b
def dI{H:Hp}{a:Addr}{o:HO}:upd H a o a=some o:=by unfold upd;rw[gQ rfl]
def aN{H:Hp}{a b:Addr}{o:HO}(h:b≠a):upd H a o b=H b:=by unfold upd;rw[R0 h]
def mC{H:Hp}{a b:Addr}{o u:HO}(h:H a=some o)(h':H b=some u)(d:o≠u):a≠b:=by
 intro e;subst e;rw[h]at h';exact d (jC h')
def aZ{H:Hp}{a b:Addr}{o:HO}(h:H a=some o)(h':H b=none):a≠b:=by
 intro e;subst e;rw[h]at h';cases h'
section
variable(P:Program)(w:World)
def b7(H:Hp)(h:Heap)(a:Addr):HO->Prop
 |.lst c=>c.length<=sizeLine/\∃(its:List Value) (n:Nat),Vals c its/\h.get? a=some { cls:=.type "list",data:=.seq its.toArray n }
 |.tup c=>c.length<=sizeLine/\∃its:List Value,Vals c its/\IsTup h a its.toArray
 |.dK b=>b.length<=sizeLine/\(a==sysModules)=false/\∃vs,KV b vs/\h.DictOf (bO P w) a vs
 |.dT b=>b.length<=sizeLine/\(a==sysModules)=false/\∃c:List (List Key×Addr×Value),
   Paired (λ(p:List Key×V) (q:List Key×Addr×Value)=>p.1=q.1/\H q.2.1=some (.tup (p.1.map kV))/\RelV p.2 q.2.2) b c/\
   ∃o es ep,h.get? a=some o/\o.ExactDict/\o.data=.dict es ep/\es.toList=c.map (entryOfKey (tupleKind (bO P w)))/\(c.map (·.1)).Nodup
 |.set S n=>h.SetOf (intKind P w) a S n
 |.ins C d fs=>H d=some (.own a)/\fs.length<=1000/\d≠a/\h.get? a=some (PySem.W.instObj C d)/\
   ∃mA,h.Ns1 d mA/\(∀f,nq (fs.lookup f) (mA f))/\PySem.Within mA (fs.map (·.1))
 |.own _=>∃o,h.get? a=some o
 |.xd fs=>∃mA,h.Ns1 a mA/\∀f,nq (fs.lookup f) (mA f)
 |.eS e g=>∃t u v,h.get? a=some { cls:=.type "range",data:=.fields #[.int e t,.int g u,.int 1 v]}
 |.bz o u=>h.get? a=some o/\b7 H h a u
 |.rm i=>h.get? a=some { cls:=.none,data:=.fields i }
 |.met f x=>h.get? a=some (PySem.W.methodObj (.ref f) (.ref x))
 |.ext φ=>φ h/\(∃o,h.get? a=some o)/\∀h1 h2:Heap,φ h1->(∀o,h1.get? a=some o->h2.get? a=some o)->φ h2
def dX(H:Hp)(h:Heap):Prop:=∀a o,H a=some o->b7 P w H h a o
end
section
variable{P:Program}{w:World}{H H':Hp}{h h':Heap}{a:Addr}{o:HO}
theorem b7.lt(x:b7 P w H h a o):a<h.objs.size:=by
 cases o with
 |lst c=>obtain⟨_,_,_,_,e⟩:=x;exact R5 e
 |tup c=>obtain⟨_,_,_,p⟩:=x;exact p.lt
 |dK b=>obtain⟨_,_,_,_,o,_,_,e,_⟩:=x;exact R5 e
 |dT b=>obtain⟨_,_,_,_,o,_,_,e,_⟩:=x;exact R5 e
 |set S n=>obtain⟨o,_,_,_,e,_⟩:=x;exact R5 e
 |ins C d fs=>obtain⟨_,_,_,e,_⟩:=x;exact R5 e
 |own y=>obtain⟨_,e⟩:=x;exact R5 e
 |xd fs=>obtain⟨_,⟨_,_,_,e,_⟩,_⟩:=x;exact R5 e
 |eS g i=>obtain⟨_,_,_,e⟩:=x;exact R5 e
 |bz j u=>obtain⟨e,_⟩:=x;exact R5 e
 |rm l=>exact R5 (show h.get? a=some _ from x)
 |met f y=>exact R5 (show h.get? a=some _ from x)
 |ext φ=>obtain⟨_,⟨_,e⟩,_⟩:=x;exact R5 e
theorem Paired.Fj{α β:Type}{F G:α->β->Prop}:∀{l₁:List α}{l₂:List β},Paired F l₁ l₂->(∀a b,F a b->G a b)->Paired G l₁ l₂
 |_,_,.nil,_=>.nil
 |_,_,.cons r t,f=>.cons (f _ _ r) (Paired.Fj t f)
def b7.stay(x:b7 P w H h a o)(k:∀b u,(b=a\/H b=some (.own a))->h.get? b=some u->h'.get? b=some u)
  (ho:∀b,H b=some (.own a)->H' b=some (.own a)) (ht:∀b xs,H b=some (.tup xs)->H' b=some (.tup xs)):b7 P w H' h' a o:=by
 induction o with
 |lst xs=>obtain⟨z,l,n,r,e⟩:=x;exact⟨z,l,n,r,k _ _ (.inl rfl) e⟩
 |tup xs=>obtain⟨z,l,r,g,e,c⟩:=x;exact⟨z,l,r,g,k _ _ (.inl rfl) e,c⟩
 |dK A=>obtain⟨z,y,J,r,g,i,j,e,c⟩:=x;exact⟨z,y,J,r,g,i,j,k _ _ (.inl rfl) e,c⟩
 |dT A=>
  obtain⟨z,y,xs,r,g,i,j,e,c⟩:=x;exact⟨z,y,xs,Paired.Fj r λp q z=>⟨z.1,ht _ _ z.2.1,z.2.2⟩,g,i,j,k _ _ (.inl rfl) e,c⟩
 |set S n=>obtain⟨g,i,j,t,e,c⟩:=x;exact⟨g,i,j,t,k _ _ (.inl rfl) e,c⟩
 |ins C N fs=>
  obtain⟨d,z,K,e,B,⟨F,i,j,L,c⟩,r⟩:=x;exact⟨ho _ d,z,K,k _ _ (.inl rfl) e,B,⟨F,i,j,k _ _ (.inr d) L,c⟩,r⟩
 |own y=>obtain⟨g,e⟩:=x;exact⟨g,k _ _ (.inl rfl) e⟩
 |xd fs=>obtain⟨B,⟨F,i,j,e,c⟩,r⟩:=x;exact⟨B,⟨F,i,j,k _ _ (.inl rfl) e,c⟩,r⟩
 |eS Q X=>obtain⟨t,u,v,e⟩:=x;exact⟨t,u,v,k _ _ (.inl rfl) e⟩
 |bz g u M=>obtain⟨e,q⟩:=x;exact⟨k _ _ (.inl rfl) e,M q⟩
 |rm G=>
  have e:h.get? a=some { cls:=.none,data:=.fields G }:=x;show h'.get? a=some { cls:=.none,data:=.fields G };exact k a _ (.inl rfl) e
 |met f y=>
  have e:h.get? a=some (PySem.W.methodObj (.ref f) (.ref y)):=x;show h'.get? a=some (PySem.W.methodObj (.ref f) (.ref y));exact k a _ (.inl rfl) e
 |ext φ=>obtain⟨p,⟨o,e⟩,I⟩:=x;exact⟨I _ _ p λo q=>k _ _ (.inl rfl) q,⟨o,k _ _ (.inl rfl) e⟩,I⟩
theorem dX.lt(x:dX P w H h)(e:H a=some o):a<h.objs.size:=(x a o e).lt
def dX.fresh(x:dX P w H h)(e:h.objs.size<=a):H a=none:=by
 cases q:H a with
 |none=>rfl
 |some u=>exact absurd (zP (x.lt q) e) (Sw _)
def dX.kept(x:dX P w H h)(k:∀b u,h.get? b=some u->h'.get? b=some u):dX P w H h':=λa o e=>
 (x a o e).stay (λb u _ q=>k b u q) (λ_ q=>q) λ_ _ q=>q
def dX.laid(x:dX P w H h)(k:∀b u,h.get? b=some u->h'.get? b=some u)(hp:h.objs.size<=a)(new:b7 P w (upd H a o) h' a o):dX P w (upd H a o) h':=λb u e=>by
 have d:=x.fresh hp;by_cases f:b=a
 .subst f;rw[dI]at e;cases e;exact new
 .rw[aN f]at e;exact(x b u e).stay (λc v _ q=>k c v q) (λc q=>by rw[aN (aZ q d)];exact q) λc g q=>by rw[aN (aZ q d)];exact q
end
def Rd(H:Hp)(a:Addr)(u:HO):Prop:=H a=some u\/∃o,H a=some (.bz o u)
def Rd.ok{P:Program}{w:World}{H:Hp}{h:Heap}{a:Addr}{u:HO}(r:Rd H a u)(x:dX P w H h):b7 P w H h a u:=by
 rcases r with r|⟨o,r⟩
 .exact x a u r
 .obtain⟨_,q⟩:=x a _ r;exact q
def BW:Option HO->Prop
 |some (.lst _)=>True
 |some (.dK _)=>True
 |some (.dT _)=>True
 |some (.set _ _)=>True
 |some (.ins _ _ _)=>True
 |some (.ext _)=>True
 |_=>False
section
variable{P:Program}{w:World}{H:Hp}{h h':Heap}{x e:Addr}{o':HO}
def dX.write(ok:dX P w H h)(mu:BW (H x))(he:e=x\/H e=some (.own x))(k:∀b u,b≠e->h.get? b=some u->h'.get? b=some u)(uv:∃u,h'.get? e=some u)
  (new:b7 P w (upd H x o') h' x o'):dX P w (upd H x o') h':=λb u q=>by
 have Fp:∀c y,H c=some (.own y)->c≠x:=λc y r z=>by subst z;rw[r]at mu;exact mu
 have Nz:∀c a,H c=some (.tup a)->c≠x:=λc a r z=>by subst z;rw[r]at mu;exact mu
 by_cases d:b=x
 .subst d;rw[dI]at q;cases q;exact new
 .rw[aN d]at q;by_cases f:b=e
  .have i:H b=some (.own x):=by
    rcases he with z|z
    .exact absurd (f.trans z) d
    .rw[f];exact z
   rw[q]at i;cases i;obtain⟨v,j⟩:=uv;exact⟨v,by rw[f];exact j⟩
  .refine(ok b u q).stay (λc v g r=>k c v ?_ r) (λc r=>by rw[aN (Fp c b r)];exact r) λc a r=>by rw[aN (Nz c a r)];exact r
   rcases g with rfl|g
   .exact f
   .rintro rfl;rcases he with z|z
    .exact Fp c b g z
    .rw[g]at z;cases z;exact d rfl
end
structure Un(fs ex:List Addr)(H H':Hp)(h h':Heap):Prop where
 keep:∀b o,h.get? b=some o->H b=none->b∉fs->b∉ex->h'.get? b=some o
 slot:∀b o,h.get? b=some o->H b=none->b∈fs->b∉ex->∃sl,h'.get? b=some { o with slots:=sl }
 free:∀b o,h.get? b=some o->H b=none->b∉ex->H' b=none
 there:∀b o,h.get? b=some o->b∉ex->∃o',h'.get? b=some o'
 tups:∀b xs,H b=some (.tup xs)->H' b=some (.tup xs)
 kg:∀b o u,H b=some (.bz o u)->H' b=some (.bz o u)
 kT:∀b ps,H b=some (.rm ps)->∃more,H' b=some (.rm (ps++more))
section
variable{fs ex:List Addr}{H H1:Hp}{h h1 h':Heap}{a x e:Addr}{o:HO}
def Un.any(u:Un fs ex H H1 h h1){b:Addr}{ob:Obj}(q:h.get? b=some ob)(n:H b=none)(hx:b∉ex):∃sl,h1.get? b=some { ob with slots:=sl }:=by
 by_cases c:b∈fs
 .exact u.slot b ob q n c hx
 .exact⟨ob.slots,u.keep b ob q n c hx⟩
def Un.kept(k:∀b u,h.get? b=some u->h'.get? b=some u):Un fs ex H H h h':=
 ⟨λb c q _ _ _=>k b c q,λb c q _ _ _=>⟨c.slots,k b c q⟩,λ_ _ _ n _=>n,λb c q _=>⟨c,k b c q⟩,λ_ _ q=>q,λ_ _ _ q=>q,λ_ d q=>⟨#[],by rw[q];simp⟩⟩
def Un.refl:Un fs ex H H h h:=Un.kept λ_ _ q=>q
def Un.laid(k:∀b u,h.get? b=some u->h'.get? b=some u)(hp:h.objs.size<=a)(hn:H a=none):Un fs ex H (upd H a o) h h' where
 keep:=λb u q _ _ _=>k b u q
 slot:=λb u q _ _ _=>⟨u.slots,k b u q⟩
 free:=λb u q n _=>by rw[aN (Sh (zP (R5 q) hp))];exact n
 there:=λb u q _=>⟨u,k b u q⟩
 tups:=λb c q=>by rw[aN (aZ q hn)];exact q
 kg:=λb u c q=>by rw[aN (aZ q hn)];exact q
 kT:=λb d q=>⟨#[],by rw[aN (aZ q hn),q];simp⟩
def Un.write(mu:BW (H x))(he:e=x\/H e=some (.own x))(k:∀b u,b≠e->h.get? b=some u->h'.get? b=some u)(uv:∃u,h'.get? e=some u):Un fs ex H (upd H x o) h h':=by
 have d:∀b,H b=none->b≠x:=λb n z=>by subst z;rw[n]at mu;exact mu
 have f:∀b,H b=none->b≠e:=λb n z=>by
  subst z;rcases he with r|r
  .exact d b n r
  .rw[n]at r;cases r
 have c:∀b u,H b=some u->¬ BW (some u)->b≠x:=λb u q i z=>by subst z;rw[q]at mu;exact i mu
 refine⟨λb u q n _ _=>k b u (f b n) q,λb u q n _ _=>⟨u.slots,k b u (f b n) q⟩,λb u q n _=>by rw[aN (d b n)];exact n,λb u q _=>?_,
  λb j q=>by rw[aN (c b _ q λz=>z)];exact q,λb u j q=>by rw[aN (c b _ q λz=>z)];exact q,λb l q=>⟨#[],by rw[aN (c b _ q λz=>z),q];simp⟩⟩
 by_cases g:b=e
 .subst g;exact uv
 .exact⟨u,k b u g q⟩
end
noncomputable def BX(h:Heap)(H:Hp):List Addr:=(List.range h.objs.size).filter λa=>(H a).isSome
noncomputable def kh(h:Heap)(H:Hp):Heap:=PySem.W.hideAll h (BX h H)
def xH(h:Heap)(H:Hp):(kh h H).objs.size=h.objs.size:=PySem.W.hideAll_size _ _
def As{h:Heap}{H:Hp}{b:Addr}{o:Obj}(e:h.get? b=some o)(n:H b=none):(kh h H).get? b=some o:=
 PySem.W.hideAll_get _ e λa=>by
  have q:(H b).isSome=true:=(List.mem_filter.mp a).2;rw[n]at q;simp at q
def Dh{h:Heap}{H:Hp}{b:Addr}{o:Obj}(e:(kh h H).get? b=some o):h.get? b=some o/\H b=none:=by
 have a:h.get? b=some o:=PySem.W.of_hideAll (BX h H) e;refine⟨a,?_⟩;cases q:H b with
 |none=>rfl
 |some x=>
  have c:b∈BX h H:=List.mem_filter.mpr ⟨List.mem_range.mpr (R5 a),by simp[q]⟩;have z:(kh h H).get? b=none:=PySem.W.hideAll_none (BX h H) c;rw[z]at e;cases e
noncomputable def Di(g h:Heap)(L:Addr):List (Addr×Obj):=(List.range h.objs.size).filterMap λa=>if a=L\/(g.get? a).isSome=true then none else (h.get? a).map λo=>(a,o)
noncomputable def rest(g h:Heap)(L d:Addr):List (Addr×Obj):=(Di g h L).filter λp=>decide (p.1≠d)
structure Mod(K:PySem.W.Frag)(mg:Str->Option Value)(base:Heap):Prop where
 BY:K.In base
 glob:base.Ns mainGlobals mg
 blt:∃mb,base.Ns builtinsNs mb/\∀x:Str,x≠"__name__" ->mb x=bootBuiltins x
 nolimit:base.NoLimit
structure Cx where
 prog:Program
 w:World
 K:PySem.W.Frag
 mg:Str->Option Value
 base:Heap
 A:Around
 N:List Str
 s₀:Shared
 H₀:Hp
 env:Env
 outer:List Env
 stack:List Env
 ex:List Addr
 fn:Str->Bool
 calm:Bool
 pn:List (Addr×Obj)
 xe:Value->Shared->Prop
noncomputable def frs(l:List Env):List Addr:=l.filterMap (·.frame)
noncomputable abbrev Cx.fs(X:Cx):List Addr:=frs X.outer
def xJ(sc:Scope)(x:Str):Prop:=sc.names.lookup x=some .local\/sc.names.lookup x=some .cell\/sc.names.lookup x=some .free
def Loc(sc:Scope)(x:Str):Prop:=sc.names.lookup x=some .local\/sc.names.lookup x=some .cell
def Look(env:Env)(h:Heap)(m:Str->Option Value)(x:Str)(u:Value):Prop:=
 (env.kindOf x=some .local/\m x=some u)\/((env.kindOf x=some .cell\/env.kindOf x=some .free)/\∃c,env.cells.lookup x=some c/\h.IsCell c (some u))
structure Cx.Ok(X:Cx):Prop where
 mod:Mod X.K X.mg X.base
 kind:X.env.scope.kind=.function
 glob:X.env.globals=mainGlobals
 blt:X.env.builtins=builtinsNs
 above:X.s₀.heap.objs.size<=X.env.locals
 inj:∀x y c,X.env.cells.lookup x=some c->X.env.cells.lookup y=some c->x=y
 has:∀x,(X.env.kindOf x=some .cell\/X.env.kindOf x=some .free)->∃c,X.env.cells.lookup x=some c
 uw:∀x c,X.fn x=true->X.env.cells.lookup x=some c->X.s₀.heap.objs.size<=c
 hd:X.calm=true->X.A.handled=none
 frames:X.A.frames=some X.stack
 stk:X.stack=X.outer\/(X.stack=X.env :: X.outer/\X.env.frame=some X.env.locals)
 BZ:∀b∈X.ex,b≠X.env.locals/\∀x c,X.env.cells.lookup x=some c->c≠b
 bs:∀b o,X.base.get? b=some o->X.s₀.heap.get? b=some o/\X.H₀ b=none
 qg:X.base.objs.size<=X.s₀.heap.objs.size
 oS:∀b o,X.base.get? b=some o->b∉X.ex
 oU:∀b∈X.ex,b∉X.fs
 iF:X.s₀.heap.FunFrames X.base X.outer
 rz:∀b∈X.fs,X.H₀ b=none
structure Inv(X:Cx)(pins:List (Addr×Obj))(σ:List (Option V))(H:Hp)(s:Shared):Prop where
 ok:X.Ok
 os:s.os=X.s₀.os
 bare:AllBare s.gens
 base:Un X.fs X.ex X.H₀ H X.s₀.heap s.heap
 loc:∃m,s.heap.Ns X.env.locals m/\∀(i:Nat) (x:Str) (v:V),X.N[i]?=some x->σ[i]?=some (some v)->xJ X.env.scope x->∃u,RelV v u/\Look X.env s.heap m x u
 cell:∀x c,X.env.cells.lookup x=some c->∃v,s.heap.IsCell c v
 free:H X.env.locals=none
 gU:∀x c,X.env.cells.lookup x=some c->H c=none
 pin:∀p∈X.pn++pins,s.heap.get? p.1=some p.2/\H p.1=none/\p.1≠X.env.locals/\p.1∉X.fs/\∀v,p.2.data≠.cell v
 hok:dX X.prog X.w H s.heap
 len:σ.length=X.N.length
section
variable{X:Cx}{pins:List (Addr×Obj)}{σ:List (Option V)}{H H':Hp}{s:Shared}{h':Heap}
def Cx.Ok.NB(ok:X.Ok){b:Addr}{o:Obj}(e:X.base.get? b=some o):b∉X.fs:=λa=>by
 have:=(ok.iF.mem a).1;rw[e]at this;cases this
theorem Inv.bs(I:Inv X pins σ H s):∀b o,X.base.get? b=some o->s.heap.get? b=some o/\H b=none:=λb o e=>
 ⟨I.base.keep b o (I.ok.bs b o e).1 (I.ok.bs b o e).2 (I.ok.NB e) (I.ok.oS b o e),I.base.free b o (I.ok.bs b o e).1 (I.ok.bs b o e).2 (I.ok.oS b o e)⟩
def Inv.bk(I:Inv X pins σ H s):∀b o,X.base.get? b=some o->s.heap.get? b=some o:=λb o e=>(I.bs b o e).1
theorem Inv.mod(I:Inv X pins σ H s):Mod X.K X.mg X.base:=I.ok.mod
def Inv.fT(I:Inv X pins σ H s):X.K.In s.heap:=I.ok.mod.BY.keeps I.bk
theorem Inv.lt(I:Inv X pins σ H s):X.env.locals<s.heap.objs.size:=let ⟨_,hn,_⟩:=I.loc;hn.lt
def Inv.sz(I:Inv X pins σ H s):X.s₀.heap.objs.size<=s.heap.objs.size:=Sa I.ok.above (UY I.lt)
def Inv.NC(I:Inv X pins σ H s){a:Addr}(h:s.heap.objs.size<=a):a∉X.fs:=λb=>by
 obtain⟨_,o,c,_⟩:=I.ok.iF.mem b;exact absurd (zP (R5 c) (Sa I.sz h)) (Sw _)
def Inv.rA(I:Inv X pins σ H s):∀x c,X.env.cells.lookup x=some c->c≠X.env.locals:=λx c e z=>by
 obtain⟨v,o,d,f⟩:=I.cell x c e;obtain⟨m,⟨g,h,i,a,b,_⟩,_⟩:=I.loc;rw[z,a]at d;cases d;rw[b]at f;cases f
theorem Inv.iF(I:Inv X pins σ H s):s.heap.FunFrames X.base X.outer:=by
 have all:∀(l:List Env),(∀b∈frs l,b∈X.fs)->X.s₀.heap.FunFrames X.base l->s.heap.FunFrames X.base l:=by
  intro l;induction l with
  |nil=>intro _ _;trivial
  |cons g r h=>
   intro f i;obtain⟨j,⟨L,o,a,p,q,x⟩,y⟩:=i;have c:L∈X.fs:=f L (by unfold frs;rw[SH,a];exact Sn);obtain⟨A,e⟩:=I.base.slot L o q (I.ok.rz L c) c λz=>I.ok.oU L z c;exact⟨j,⟨L,_,a,p,e,x⟩,h (λb d=>f b (by unfold frs;rw[SH,a];exact R9 _ d)) y⟩
 exact all X.outer (λ_ d=>d) I.ok.iF
theorem Inv.stack(I:Inv X pins σ H s):s.heap.FunFrames X.base X.stack:=by
 rcases I.ok.stk with e|⟨e,a⟩
 .rw[e];exact I.iF
 .rw[e];obtain⟨m,b,_⟩:=I.loc;refine .cons (by rw[I.ok.kind];decide) a b ?_ I.iF;exact Heap.get?_none_of_le (Sa I.ok.qg I.ok.above)
def Inv.rB(I:Inv X pins σ H s):∀b∈frs X.stack,b∈X.env.locals :: X.fs:=λb a=>by
 rcases I.ok.stk with e|⟨e,c⟩
 .rw[e]at a;exact R9 _ a
 .rw[e]at a;unfold frs at a;rw[SH,c]at a;exact a
def Inv.uy(I:Inv X pins σ H s):∀b∈frs X.stack,H b=none:=λb a=>by
 rcases List.mem_cons.mp (I.rB b a)with e|a
 .rw[e];exact I.free
 .obtain⟨_,o,c,_⟩:=I.ok.iF.mem a;exact I.base.free b o c (I.ok.rz b a) λz=>I.ok.oU b z a
def Inv.step{g':Array GenState}{t':Nat}{d':Drawn}{ch:List Addr}(I:Inv X pins σ H s)
  (hch:∀b∈ch,(b∈X.ex\/X.s₀.heap.objs.size<=b)/\b≠X.env.locals/\(∀x c,X.env.cells.lookup x=some c->c≠b)/\∀p∈X.pn++pins,p.1≠b)
  (keep:∀b o,b≠X.env.locals->b∉X.fs->b∉ch->s.heap.get? b=some o->H b=none->h'.get? b=some o)
  (slot:∀b o,b≠X.env.locals->b∈X.fs->b∉ch->s.heap.get? b=some o->H b=none->∃sl,h'.get? b=some { o with slots:=sl }) (free:∀b o,b∉ch->s.heap.get? b=some o->H b=none->H' b=none)
  (there:∀b o,b∉ch->s.heap.get? b=some o->∃o',h'.get? b=some o')
  (tups:∀b xs,H b=some (.tup xs)->H' b=some (.tup xs)) (kg:∀b o u,H b=some (.bz o u)->H' b=some (.bz o u)) (kT:∀b ps,H b=some (.rm ps)->∃more,H' b=some (.rm (ps++more)))
  (ns:∀m,s.heap.Ns X.env.locals m->h'.Ns X.env.locals m) (hok:dX X.prog X.w H' h') (hg:AllBare g') :
  Inv X pins σ H' { s with heap:=h',gens:=g',drawn:=d',toks:=t' }:=by
 have Mz:∀b o,X.s₀.heap.get? b=some o->b≠X.env.locals:=λb o e=>Sh (zP (R5 e) I.ok.above);have B3:∀b o,X.s₀.heap.get? b=some o->b∉X.ex->b∉ch:=λb o e a h=>by
  rcases(hch b h).1 with z|z
  .exact a z
  .exact absurd (zP (R5 e) z) (Sw _)
 have f:∀x c,X.env.cells.lookup x=some c->∀v,s.heap.IsCell c v->h'.IsCell c v:=λx c e v ⟨o,j,B⟩=>by
  have y:c∉ch:=λz=>(hch c z).2.2.1 x c e rfl;by_cases C:c∈X.fs
  .obtain⟨sl,q⟩:=slot c o (I.rA x c e) C y j (I.gU x c e);exact⟨_,q,B⟩
  .exact⟨o,keep c o (I.rA x c e) C y j (I.gU x c e),B⟩
 refine⟨I.ok,I.os,hg,⟨λb o e n h a=>?_,λb o e n h a=>?_,λb o e n a=>?_,λb o e a=>?_,λb xs e=>tups b xs (I.base.tups b xs e),λb o xs e=>kg b o xs (I.base.kg b o xs e),λb ps e=>?_⟩,?_,λx c e=>?_,?_,λx c e=>?_,λp F=>?_,hok,I.len⟩
 .exact keep b o (Mz b o e) h (B3 b o e a) (I.base.keep b o e n h a) (I.base.free b o e n a)
 .obtain⟨sl,g⟩:=I.base.slot b o e n h a;obtain⟨Pb,A⟩:=slot b _ (Mz b o e) h (B3 b o e a) g (I.base.free b o e n a);exact⟨Pb,A⟩
 .obtain⟨o',g⟩:=I.base.there b o e a;exact free b o' (B3 b o e a) g (I.base.free b o e n a)
 .obtain⟨o',g⟩:=I.base.there b o e a;exact there b o' (B3 b o e a) g
 .obtain⟨K,g⟩:=I.base.kT b ps e;obtain⟨L,A⟩:=kT b _ g;exact⟨K++L,by rw[A,Array.append_assoc]⟩
 .obtain⟨m,M,N⟩:=I.loc;refine⟨m,ns m M,λi x v g A P=>?_⟩;obtain⟨u,r,l⟩:=N i x v g A P;refine⟨u,r,?_⟩;rcases l with l|⟨k,c,e,z⟩
  .exact .inl l
  .exact .inr ⟨k,c,e,f x c e _ z⟩
 .obtain⟨v,z⟩:=I.cell x c e;exact⟨v,f x c e v z⟩
 .obtain⟨m,⟨o,_,_,j,_⟩,_⟩:=I.loc;exact free _ o (λz=>(hch _ z).2.1 rfl) j I.free
 .obtain⟨v,o,j,B⟩:=I.cell x c e;exact free c o (λz=>(hch c z).2.2.1 x c e rfl) j (I.gU x c e)
 .obtain⟨e,n,G,J,d⟩:=I.pin p F;have y:p.1∉ch:=λz=>(hch p.1 z).2.2.2 p F rfl;exact⟨keep p.1 p.2 G J y e n,free p.1 p.2 y e n,G,J,d⟩
def Inv.un{t':Nat}(I:Inv X pins σ H s)(u:Un X.fs [] H H' s.heap h')(hok:dX X.prog X.w H' h'):Inv X pins σ H' { s with heap:=h',toks:=t' }:=by
 obtain⟨m,⟨o,j,l,f,r⟩,_⟩:=id I.loc;obtain⟨p,g⟩:=u.any f I.free (by simp);exact I.step (g':=s.gens) (d':=s.drawn) (ch:=[]) (λ_ z=>nomatch z) (λb o _ c _ e n=>u.keep b o e n c (by simp)) (λb o _ c _ e n=>u.slot b o e n c (by simp)) (λb o _ e n=>u.free b o e n (by simp)) (λb o _ e=>u.there b o e (by simp)) u.tups u.kg u.kT (λq h=>by
  obtain⟨x,d,Fq,a,i⟩:=h;rw[f]at a;cases a;exact⟨_,d,Fq,g,i⟩) hok I.bare
def Inv.call{g':Array GenState}{t':Nat}{d':Drawn}{ch:List Addr}(I:Inv X pins σ H s)(u:Un (frs X.stack) ch H H' s.heap h')(hok:dX X.prog X.w H' h')(hg:AllBare g')
  (hch:∀b∈ch,(b∈X.ex\/X.s₀.heap.objs.size<=b)/\b≠X.env.locals/\(∀x c,X.env.cells.lookup x=some c->c≠b)/\∀p∈X.pn++pins,p.1≠b) :
  Inv X pins σ H' { s with heap:=h',gens:=g',drawn:=d',toks:=t' }:=by
 obtain⟨m,⟨o,q,y,h,r⟩,_⟩:=id I.loc;obtain⟨A,f⟩:=u.any h I.free λz=>(hch _ z).2.1 rfl;exact I.step (ch:=ch) hch (λb o f i a e n=>u.keep b o e n (λz=>(List.mem_cons.mp (I.rB b z)).elim f i) a) (λb o _ _ a e n=>u.any e n a) (λb o a e n=>u.free b o e n a) (λb o a e=>u.there b o e a) u.tups u.kg u.kT (λB j=>by
  obtain⟨C,g,Fq,d,l⟩:=j;rw[h]at d;cases d;exact⟨_,g,Fq,f,l⟩) hok hg
def Inv.turned{t':Nat}{it:Addr}(I:Inv X pins σ H s)(k:∀b o,b≠it->s.heap.get? b=some o->h'.get? b=some o)(hn:H it=none)(hL:it≠X.env.locals)
  (h1:it∈X.ex\/X.s₀.heap.objs.size<=it) (h2:∀x c,X.env.cells.lookup x=some c->c≠it) (h3:∀p∈X.pn++pins,p.1≠it):Inv X pins σ H { s with heap:=h',toks:=t' }:=by
 have d:∀b u,H b=some u->b≠it:=λb u e z=>by rw[z,hn]at e;cases e
 refine I.step (g':=s.gens) (d':=s.drawn) (ch:=[it]) (λb f=>?_) (λb o _ _ a e _=>k b o (λz=>a (by simp[z])) e) (λb o _ _ a e _=>⟨o.slots,k b o (λz=>a (by simp[z])) e⟩) (λ_ _ _ _ n=>n)
  (λb o a e=>⟨o,k b o (λz=>a (by simp[z])) e⟩) (λ_ _ e=>e) (λ_ _ _ e=>e) (λb l e=>⟨#[],by rw[e];simp⟩) (λm g=>?_) (λb u e=>?_) I.bare
 .have e:b=it:=by simpa using f
  subst e;exact⟨h1,hL,h2,h3⟩
 .obtain⟨o,h,i,j,r⟩:=g;exact⟨o,h,i,k _ o (Tu hL) j,r⟩
 .refine(I.hok b u e).stay (λc v a q=>k c v ?_ q) (λ_ q=>q) λ_ _ q=>q;rcases a with z|z
  .rw[z];exact d b u e
  .exact d c _ z
def Inv.tok(I:Inv X pins σ H s)(t:Nat):Inv X pins σ H { s with toks:=t }:=I.un (h':=s.heap) (t':=t) Un.refl I.hok
theorem Inv.kept{t':Nat}(I:Inv X pins σ H s)(k:∀b u,s.heap.get? b=some u->h'.get? b=some u):Inv X pins σ H { s with heap:=h',toks:=t' }:=I.un (Un.kept k) (I.hok.kept k)
theorem Inv.laid{a:Addr}{o:HO}{t':Nat}(I:Inv X pins σ H s)(k:∀b u,s.heap.get? b=some u->h'.get? b=some u)(hp:s.heap.objs.size<=a)(new:b7 X.prog X.w (upd H a o) h' a o) :
  Inv X pins σ (upd H a o) { s with heap:=h',toks:=t' }:=I.un (Un.laid k hp (I.hok.fresh hp)) (I.hok.laid k hp new)
theorem Inv.write{x e:Addr}{o:HO}{t':Nat}(I:Inv X pins σ H s)(mu:BW (H x))(he:e=x\/H e=some (.own x))(k:∀b u,b≠e->s.heap.get? b=some u->h'.get? b=some u)(uv:∃u,h'.get? e=some u)
  (new:b7 X.prog X.w (upd H x o) h' x o):Inv X pins σ (upd H x o) { s with heap:=h',toks:=t' }:=I.un (Un.write mu he k uv) (I.hok.write mu he k uv new)
def Inv.uz{B4:List (Addr×Obj)}(I:Inv X pins σ H s)(h:∀p∈B4,s.heap.get? p.1=some p.2/\H p.1=none/\p.1≠X.env.locals/\p.1∉X.fs/\∀v,p.2.data≠.cell v):Inv X B4 σ H s:=
 ⟨I.ok,I.os,I.bare,I.base,I.loc,I.cell,I.free,I.gU,λp a=>(List.mem_append.mp a).elim (λz=>I.pin p (Vs _ z)) (h p),I.hok,I.len⟩
def rC{N:List Str}(hN:N.Nodup){i j:Nat}{x:Str}(a:N[i]?=some x)(b:N[j]?=some x):i=j:=by
 obtain⟨e,c⟩:=List.getElem?_eq_some_iff.mp a;obtain⟨f,d⟩:=List.getElem?_eq_some_iff.mp b;exact(VQ hN).mp (c.trans d.symm)
def qh{M:Model}{A:Around}{E:Value->Shared->Prop}{i:Nat}{x:Str}{v:V}{u:Value}{Q:Unit->Shared->Prop}(I:Inv X pins σ H s)(hN:X.N.Nodup)(hi:X.N[i]?=some x)(hx:Loc X.env.scope x)(r:RelV v u)
  (h:∀s',Inv X pins (σ.set i (some v)) H s'->(∃a,Heap.SameBut a s.heap s'.heap/\(a=X.env.locals\/X.env.cells.lookup x=some a))->Q () s') (hf:X.fn x=true\/X.env.scope.names.lookup x=some .local:=by first|exact .inl rfl|exact .inr rfl|assumption):wpAny M A (storeName X.env x u) Q E s:=by
 obtain⟨m,hn,hl⟩:=id I.loc;have P:(X.env.scope.kind==.class || (X.env.scope.kind==.module&&X.env.locals != X.env.globals))=false:=by rw[I.ok.kind];rfl
 have Ft:i<σ.length:=by rw[I.len];exact(List.getElem?_eq_some_iff.mp hi).1
 have rA:=I.rA;have g:∀{a:Addr} {h':Heap},(∃o,s.heap.get? a=some o/\H a=none)->Heap.SameBut a s.heap h'->dX X.prog X.w H h':=λ{a h'} ha f b ob e=>by
  obtain⟨_,_,C⟩:=ha;refine(I.hok b ob e).stay (λc w' B q=>(f.2 c ?_).trans q) (λ_ q=>q) λ_ _ q=>q;rintro rfl;rcases B with rfl|B
  .rw[C]at e;cases e
  .rw[C]at B;cases B
 rcases hx with G|G
 .refine wpAny_storeName_local G hn (λh' hn' f=>?_) P;obtain⟨oL,_,_,Pc,_⟩:=id hn;refine h _ ⟨I.ok,I.os,I.bare,⟨λb o e n J hx=>?_,λb o e n J hx=>?_,I.base.free,λb o e hx=>?_,I.base.tups,I.base.kg,I.base.kT⟩,⟨_,hn',λj y v' l F e3=>?_⟩,λy c e=>?_,I.free,I.gU,λp hp=>?_,g ⟨oL,Pc,I.free⟩ f,by simpa using I.len⟩ ⟨_,f,.inl rfl⟩
  .exact(f.2 b (Sh (zP (R5 e) I.ok.above))).trans (I.base.keep b o e n J hx)
  .obtain⟨sl,l⟩:=I.base.slot b o e n J hx;exact⟨sl,(f.2 b (Sh (zP (R5 e) I.ok.above))).trans l⟩
  .obtain⟨o',l⟩:=I.base.there b o e hx;exact⟨o',(f.2 b (Sh (zP (R5 e) I.ok.above))).trans l⟩
  .by_cases K:j=i
   .subst K;rw[hi]at l;cases l;rw[kJ Ft]at F;cases F;exact⟨u,r,.inl ⟨G,by simp⟩⟩
   .rw[gR (Tu K)]at F;obtain⟨u',r',q⟩:=hl j y v' l F e3;refine⟨u',r',?_⟩;rcases q with ⟨k,e⟩|⟨k,c,e,z⟩
    .refine .inl ⟨k,?_⟩;have:y≠x:=λe=>K (rC hN l (e▸hi));simp[this,e]
    .exact .inr ⟨k,c,e,z.sameBut f (rA y c e)⟩
  .obtain⟨w',z⟩:=I.cell y c e;exact⟨w',z.sameBut f (rA y c e)⟩
  .obtain⟨e,n,ne,nf,d⟩:=I.pin p hp;exact⟨(f.2 p.1 ne).trans e,n,ne,nf,d⟩
 .have L:X.fn x=true:=by
   rcases hf with z|z
   .exact z
   .rw[z]at G;cases G
  obtain⟨c,B⟩:=I.ok.has x (.inl G);obtain⟨w',z⟩:=I.cell x c B;refine wpAny_storeName_cell I.ok.kind G B z (λh' W f=>?_);obtain⟨oc,Y,ND⟩:=id z;refine h { s with heap:=h' } ⟨I.ok,I.os,I.bare,⟨λb o e n J hx=>?_,λb o e n J hx=>?_,I.base.free,λb o e hx=>?_,I.base.tups,I.base.kg,I.base.kT⟩,⟨m,hn.sameBut f (Tu (rA x c B)),λj y v' l F e3=>?_⟩,λy c' e=>?_,I.free,I.gU,λp hp=>?_,g ⟨oc,Y,I.gU x c B⟩ f,by simpa using I.len⟩ ⟨c,f,.inr B⟩
  .exact(f.2 b (Sh (zP (R5 e) (I.ok.uw x c L B)))).trans (I.base.keep b o e n J hx)
  .obtain⟨sl,l⟩:=I.base.slot b o e n J hx;exact⟨sl,(f.2 b (Sh (zP (R5 e) (I.ok.uw x c L B)))).trans l⟩
  .obtain⟨o',l⟩:=I.base.there b o e hx;exact⟨o',(f.2 b (Sh (zP (R5 e) (I.ok.uw x c L B)))).trans l⟩
  .by_cases K:j=i
   .subst K;rw[hi]at l;cases l;rw[kJ Ft]at F;cases F;exact⟨u,r,.inr ⟨.inl G,c,B,W⟩⟩
   .rw[gR (Tu K)]at F;obtain⟨u',r',q⟩:=hl j y v' l F e3;refine⟨u',r',?_⟩;rcases q with q|⟨k,c',e,z'⟩
    .exact .inl q
    .refine .inr ⟨k,c',e,z'.sameBut f ?_⟩;rintro rfl;exact K (rC hN l (I.ok.inj _ _ _ e B▸hi))
  .by_cases Z:c'=c
   .subst Z;exact⟨_,W⟩
   .obtain⟨w2,z2⟩:=I.cell y c' e;exact⟨w2,z2.sameBut f Z⟩
  .obtain⟨e,n,ne,nf,d⟩:=I.pin p hp;refine⟨(f.2 p.1 ?_).trans e,n,ne,nf,d⟩;intro q;rw[q,Y]at e;have q':oc=p.2:=jC e;exact d w' (by rw[<-q'];exact ND)
def rD{M:Model}{A:Around}{E:Value->Shared->Prop}{i:Nat}{x:Str}{v:V}{u:Value}{Q:Unit->Shared->Prop}(I:Inv X pins σ H s)(hN:X.N.Nodup)(hi:X.N[i]?=some x)(hx:Loc X.env.scope x)(r:RelV v u)
  (h:∀s',Inv X pins (σ.set i (some v)) H s'->Q () s') (hf:X.fn x=true\/X.env.scope.names.lookup x=some .local:=by first|exact .inl rfl|exact .inr rfl|assumption):wpAny M A (storeName X.env x u) Q E s:=
 qh I hN hi hx r (λs' I' _=>h s' I') hf
def Inv.KQ{s':Shared}{ch:List Addr}(I:Inv X pins σ H s)(ho:s'.os=s.os)(u:Un (frs X.stack) ch H H' s.heap s'.heap)(hok:dX X.prog X.w H' s'.heap)(hg:AllBare s'.gens)
  (hch:∀b∈ch,(b∈X.ex\/X.s₀.heap.objs.size<=b)/\b≠X.env.locals/\(∀x c,X.env.cells.lookup x=some c->c≠b)/\∀p∈X.pn++pins,p.1≠b):Inv X pins σ H' s':=by
 obtain⟨h',g',d',t',a⟩:=s';have e:a=s.os:=ho;subst e;exact I.call (g':=g') (t':=t') (d':=d') u hok hg hch
end
abbrev XK:=Value->Option Addr->Hp->Prop
abbrev St:=List (Option V)
abbrev VK:=V->Hp->Prop
abbrev TE:=St->Hp->VK->Prop
abbrev TT:=St->Hp->(Bool->Hp->Prop)->Prop
abbrev TA:=St->Hp->(List V->Hp->Prop)->Prop
structure Ends where
 nx:St->Hp->Prop
 rt:VK
 bk:St->Hp->Prop:=λ_ _=>False
 ct:St->Hp->Prop:=λ_ _=>False
abbrev TS:=Ends->St->Hp->Prop
def EP(X:Cx)(pins:List (Addr×Obj))(σ:St)(Q:VK)(u:Value)(s':Shared):Prop:=∃v H',Inv X pins σ H' s'/\RelV v u/\Q v H'
def TP(X:Cx)(pins:List (Addr×Obj))(σ:St)(Q:Bool->Hp->Prop)(b:Bool)(s':Shared):Prop:=∃H',Inv X pins σ H' s'/\Q b H'
def AP(X:Cx)(pins:List (Addr×Obj))(σ:St)(Q:List V->Hp->Prop)(us:List Value)(s':Shared):Prop:=∃vs H',Inv X pins σ H' s'/\Vals vs us/\Q vs H'
def SP(X:Cx)(pins:List (Addr×Obj))(D:Ends)(f:Flow)(s':Shared):Prop:=
 match f with
 |.next=>∃σ' H',Inv X pins σ' H' s'/\D.nx σ' H'
 |.brk=>∃σ' H',Inv X pins σ' H' s'/\D.bk σ' H'
 |.cont=>∃σ' H',Inv X pins σ' H' s'/\D.ct σ' H'
 |.ret u=>∃v σ' H',Inv X pins σ' H' s'/\RelV v u/\D.rt v H'
def PE(X:Cx)(e:Expr)(t:TE):Prop:=
 ∀(pins:List (Addr×Obj)) (s:Shared) (σ:St) (H:Hp) (Q:VK),Inv X pins σ H s->t σ H Q->wpAny (model X.prog X.w) X.A (eval e X.env) (EP X pins σ Q) X.xe s
def PT(X:Cx)(e:Expr)(t:TT):Prop:=
 ∀(pins:List (Addr×Obj)) (s:Shared) (σ:St) (H:Hp) (Q:Bool->Hp->Prop),Inv X pins σ H s->t σ H Q->wpAny (model X.prog X.w) X.A (isTrue e X.env (eval e X.env)) (TP X pins σ Q) X.xe s
def PW(X:Cx)(e:Expr)(t:TT):Prop:=
 ∀(whole:Sem Value) (pins:List (Addr×Obj)) (s:Shared) (σ:St) (H:Hp) (Q:Bool->Hp->Prop),Inv X pins σ H s->t σ H Q->wpAny (model X.prog X.w) X.A (isTrue e X.env whole) (TP X pins σ Q) X.xe s
def PW.pt{X:Cx}{e:Expr}{t:TT}(h:PW X e t):PT X e t:=h _
def PA(X:Cx)(es:List Expr)(t:TA):Prop:=
 ∀(pos:Pos) (pins:List (Addr×Obj)) (s:Shared) (σ:St) (H:Hp) (Q:List V->Hp->Prop),Inv X pins σ H s->t σ H Q->wpAny (model X.prog X.w) X.A (spliced (backTo pos (starEach es X.env))) (AP X pins σ Q) X.xe s
def PS(X:Cx)(st:Stmt)(t:TS):Prop:=
 ∀(pins:List (Addr×Obj)) (s:Shared) (σ:St) (H:Hp) (D:Ends),Inv X pins σ H s->t D σ H->wpAny (model X.prog X.w) X.A (exec st X.env) (SP X pins D) X.xe s
def gI(X:Cx)(st:List Stmt)(t:TS):Prop:=
 ∀(pins:List (Addr×Obj)) (s:Shared) (σ:St) (H:Hp) (D:Ends),Inv X pins σ H s->t D σ H->wpAny (model X.prog X.w) X.A (execs st X.env) (SP X pins D) X.xe s
def bB{α:Type}{t:Sem α}{Q Q':α->Shared->Prop}{M:Model}{A:Around}{E:Value->Shared->Prop}{s:Shared}(h:wpAny M A t Q E s)(hQ:∀a s,Q a s->Q' a s):wpAny M A t Q' E s:=SJ h hQ λ_ _ x=>x
section
variable{X:Cx}
def bin{a b:Expr}{ta tb:TE}(ha:PE X a ta)(hb:PE X b tb){pins:List (Addr×Obj)}{s:Shared}{σ:St}{H:Hp}{R:V->V->Hp->Prop}(I:Inv X pins σ H s)(h:ta σ H λx H1=>tb σ H1 λy H2=>R x y H2)
  {α:Type} {Q:α->Shared->Prop} {f:Value->Value->Sem α}
  (hf:∀v u s2 x y H2,Inv X pins σ H2 s2->RelV x v->RelV y u->R x y H2->wpAny (model X.prog X.w) X.A (f v u) Q X.xe s2) :
  wpAny (model X.prog X.w) X.A (eval a X.env) (λv s₁=>wpAny (model X.prog X.w) X.A (eval b X.env) (λu s₂=>wpAny (model X.prog X.w) X.A (f v u) Q X.xe s₂) X.xe s₁) X.xe s:=by
 refine bB (ha pins s σ H _ I h) λv s1 ⟨x,H1,I1,c,d⟩=>?_;refine bB (hb pins s1 σ H1 _ I1 d) λu s2 ⟨y,H2,I2,e,g⟩=>?_;exact hf v u s2 x y H2 I2 c e g
noncomputable def Fv(i:Nat):TE:=λσ H Q=>∃v,σ[i]?=some (some v)/\Q v H
noncomputable def tC(v:V):TE:=λ_ H Q=>Q v H
def xO {i:Nat}{x:Str}{pos:Pos}(hN:X.N[i]?=some x) (hv:xJ X.env.scope x) (hd:(x==("__debug__" : Str))=false:=by decide) (hcd:(x==("__classdict__" : Str))=false:=by decide):PE X (.Name x pos) (Fv i):=by
 intro d s σ H Q I h;obtain⟨v,e,h⟩:=h;obtain⟨m,g,j⟩:=I.loc;obtain⟨u,r,l⟩:=j i x v hN e hv;have fin:EP X d σ Q u s:=⟨v,H,I,r,h⟩
 rcases l with ⟨b,o⟩|⟨b,c,f,a⟩
 .exact wpAny_Name (wpAny_loadName_local I.ok.kind b g o fin) hd
 .rcases b with b|b
  .exact wpAny_Name (wpAny_loadName_cell I.ok.kind b f a fin) hd
  .exact wpAny_Name (wpAny_loadName_free I.ok.kind b f a fin hcd) hd
def Fw{i j pos}:PE X (.Constant (.int i) j pos) (tC (.int i)):=λ_ _ _ H _ I h=>wpAny_Constant_int ⟨.int i,H,I.tok _,⟨_,rfl⟩,h⟩
def KR{b j pos}:PE X (.Constant (.bool b) j pos) (tC (.bl b)):=λ_ _ _ H _ I h=>Constant_bool ⟨.bl b,H,I,rfl,h⟩
def Fx{x j pos}:PE X (.Constant (.str x) j pos) (tC (.str x)):=λ_ _ _ H _ I h=>Calls.Constant_str ⟨.str x,H,I.tok _,⟨_,rfl⟩,h⟩
def Gl(X:Cx)(x:Str):Prop:=X.env.kindOf x=some .globalImplicit
def Dj{E:Value->Shared->Prop}{pins:List (Addr×Obj)}{s:Shared}{σ:St}{H:Hp}{x:Str}{u:Value}{pos:Pos}{Q:Value->Shared->Prop}(I:Inv X pins σ H s)(hg:Gl X x)(hm:X.mg x=some u)(h:Q u s)
  (hd:(x==("__debug__" : Str))=false:=by decide):wpAny (model X.prog X.w) X.A (eval (.Name x pos) X.env) Q E s:=
 UO I.ok.kind hg (Calls.loadGlobal_global (by rw[I.ok.glob];exact I.mod.glob.keeps I.bk) hm h) hd
def eg{E:Value->Shared->Prop}{pins:List (Addr×Obj)}{s:Shared}{σ:St}{H:Hp}{x:Str}{u:Value}{pos:Pos}{Q:Value->Shared->Prop}(I:Inv X pins σ H s)(hg:Gl X x)(hm:X.mg x=none)(hv:bootBuiltins x=some u)(h:Q u s)
  (hn:x≠"__name__" :=by decide) (hd:(x==("__debug__" : Str))=false:=by decide):wpAny (model X.prog X.w) X.A (eval (.Name x pos) X.env) Q E s:=by
 obtain⟨c,a,b⟩:=I.mod.blt;exact UO I.ok.kind hg (Calls.loadGlobal_builtin (by rw[I.ok.glob];exact I.mod.glob.keeps I.bk) hm (by rw[I.ok.blt];exact a.keeps I.bk) ((b x hn).trans hv) h) hd
def Dk {x:Str}{v:V}{u:Value}{pos:Pos}(hg:Gl X x) (hm:X.mg x=none) (hv:bootBuiltins x=some u) (r:RelV v u) (hn:x≠"__name__" :=by decide) (hd:(x==("__debug__" : Str))=false:=by decide):PE X (.Name x pos) (tC v):=
 λ_ _ _ H _ I h=>eg I hg hm hv ⟨v,H,I,r,h⟩ hn hd
variable{a b:Expr}{ta tb:TE}{pos:Pos}
variable{tA B5:TT}{rest:List Expr}
noncomputable def NF(t u:TT):TT:=λσ H Q=>t σ H λc H1=>if c=true then u σ H1 Q else Q false H1
noncomputable def Pd(t u:TT):TT:=λσ H Q=>t σ H λc H1=>if c=true then Q true H1 else u σ H1 Q
noncomputable def NG(t:TT):TT:=λσ H Q=>t σ H λc H1=>Q (!c) H1
def Dl(ha:PT X a tA):PW X (.BoolOp .And [a] pos) tA:=by
 intro f d s σ H Q I h;refine isTrue_and (bB (ha d s σ H Q I h) λc s1 e=>?_);cases c with
 |true=>exact isTrue_and_nil e
 |false=>exact e
def Fy(ha:PT X a tA):PW X (.BoolOp .Or [a] pos) tA:=by
 intro f d s σ H Q I h;refine isTrue_or (bB (ha d s σ H Q I h) λc s1 e=>?_);cases c with
 |false=>exact isTrue_or_nil e
 |true=>exact e
def Fz(ha:PT X a tA)(hb:PW X (.BoolOp .And (b :: rest) pos) B5):PW X (.BoolOp .And (a :: b :: rest) pos) (NF tA B5):=by
 intro f d s σ H Q I h;refine isTrue_and (bB (ha d s σ H _ I h) λc s1 ⟨H1,I1,e⟩=>?_);cases c with
 |true=>exact hb f d s1 σ H1 Q I1 e
 |false=>exact⟨H1,I1,e⟩
def KS(ha:PT X a tA)(hb:PW X (.BoolOp .Or (b :: rest) pos) B5):PW X (.BoolOp .Or (a :: b :: rest) pos) (Pd tA B5):=by
 intro f d s σ H Q I h;refine isTrue_or (bB (ha d s σ H _ I h) λc s1 ⟨H1,I1,e⟩=>?_);cases c with
 |true=>exact⟨H1,I1,e⟩
 |false=>exact hb f d s1 σ H1 Q I1 e
def FA(ha:PT X a tA):PT X (.UnaryOp .Not a pos) (NG tA):=by
 intro d s σ H Q I h;exact isTrue_not (ha d s σ H (λc H1=>Q (!c) H1) I h)
noncomputable def KU(ta tb:TE):TE:=λσ H Q=>ta σ H λx H1=>∃c,x=.bl c/\if c=true then tb σ H1 Q else Q (.bl false) H1
def FD{op}{t:TE}(h:PE X a t):PE X (.BoolOp op [a] pos) t:=λpins s σ H Q I hw=>BoolOp_one (h pins s σ H Q I hw)
def FE(ha:PE X a ta)(hb:PE X (.BoolOp .And (b :: rest) pos) tb):PE X (.BoolOp .And (a :: b :: rest) pos) (KU ta tb):=by
 intro d s σ H Q I h;refine BoolOp_and (bB (ha d s σ H _ I h) λv s1 ⟨x,H1,I1,f,e⟩=>?_);obtain⟨c,rfl,e⟩:=e;cases f;refine Uq ?_;cases c with
 |true=>exact hb d s1 σ H1 Q I1 e
 |false=>exact⟨.bl false,H1,I1,rfl,e⟩
end
def dm(K:PySem.W.Frag)(H:Hp)(a:Addr)(xs:List V):Prop:=
 Rd H a (.lst xs)\/
  ∃(o:Obj) (its:Array Value) (n:Nat),K.lookup a=some o/\o.cls=.type "list" /\o.dict=none/\o.data=.seq its n/\its.size<=sizeLine/\Vals xs its.toList
def cU(K:PySem.W.Frag)(H:Hp)(a:Addr)(xs:List V):Prop:=
 Rd H a (.tup xs)\/
  ∃(o:Obj) (its:Array Value) (n:Nat),K.lookup a=some o/\o.cls=.type "tuple" /\o.data=.seq its n/\its.size<=sizeLine/\Vals xs its.toList
noncomputable def NH:Value->Option V
 |.none=>some .aY
 |.bool b=>some (.bl b)
 |.int i _=>some (.int i)
 |.str x _=>some (.str x)
 |.bytes b _=>some (.xG b)
 |.float b _=>some (.uu b)
 |.ref a=>some (.ref a)
 |.type n=>some (.ty n)
 |_=>none
def RelV.abs{x:V}{u:Value}(r:RelV x u):NH u=some x:=by
 cases x with
 |aY=>cases r;rfl
 |bl _=>cases r;rfl
 |int _=>obtain⟨t,rfl⟩:=r;rfl
 |str _=>obtain⟨t,rfl⟩:=r;rfl
 |xG _=>obtain⟨t,rfl⟩:=r;rfl
 |uu _=>obtain⟨t,rfl⟩:=r;rfl
 |ref _=>cases r;rfl
 |ty _=>cases r;rfl
theorem RelV.inj{x y:V}{u:Value}(r:RelV x u)(q:RelV y u):x=y:=jC (r.abs.symm.trans q.abs)
theorem Vals.inj:∀{xs ys:List V}{us:List Value},Vals xs us->Vals ys us->xs=ys
 |_,_,_,.nil,.nil=>rfl
 |_,_,_,.cons r t,.cons r' t'=>by rw[r.inj r',Vals.inj t t']
section
variable{X:Cx}{pins:List (Addr×Obj)}{σ:St}{H:Hp}{s:Shared}{a:Addr}{xs ys:List V}
def dm.of{K:PySem.W.Frag}(h:H a=some (.lst xs)):dm K H a xs:=.inl (.inl h)
def cU.of{K:PySem.W.Frag}(h:H a=some (.tup xs)):cU K H a xs:=.inl (.inl h)
def Inv.list(I:Inv X pins σ H s)(h:dm X.K H a xs):∃its:List Value,Vals xs its/\PlainL s.heap a its.toArray/\xs.length<=sizeLine:=by
 rcases h with h|⟨o,its,n,b,c,d,f,g,r⟩
 .obtain⟨z,its,n,r,e⟩:=h.ok I.hok;exact⟨its,r,⟨_,n,e,rfl,rfl,rfl⟩,z⟩
 .refine⟨its.toList,r,⟨o,n,I.fT a o b,c,d,by simpa using f⟩,?_⟩;have e:=r.length;simp only[TJ]at e;omega
def Inv.tuple(I:Inv X pins σ H s)(h:cU X.K H a xs):∃its:List Value,Vals xs its/\IsTup s.heap a its.toArray/\xs.length<=sizeLine:=by
 rcases h with h|⟨o,its,n,b,c,d,f,r⟩
 .obtain⟨z,its,r,p⟩:=h.ok I.hok;exact⟨its,r,p,z⟩
 .refine⟨its.toList,r,⟨o,I.fT a o b,c,n,by simpa using d⟩,?_⟩;have e:=r.length;simp only[TJ]at e;omega
def Inv.nu(I:Inv X pins σ H s)(h:dm X.K H a xs)(h':dm X.K H a ys):xs=ys:=by
 obtain⟨c,r,⟨o,n,e,_,_,d⟩,_⟩:=I.list h;obtain⟨b,i,⟨l,p,f,_,_,g⟩,_⟩:=I.list h';rw[e]at f;cases f;rw[d]at g;injection g with j _
 have:c=b:=by simpa using R8 Array.toList j
 subst this;exact r.inj i
def Inv.kU(I:Inv X pins σ H s)(h:cU X.K H a xs)(h':cU X.K H a ys):xs=ys:=by
 obtain⟨c,r,⟨o,e,_,n,d⟩,_⟩:=I.tuple h;obtain⟨b,i,⟨l,f,_,p,g⟩,_⟩:=I.tuple h';rw[e]at f;cases f;rw[d]at g;injection g with j _
 have:c=b:=by simpa using R8 Array.toList j
 subst this;exact r.inj i
end
abbrev Cx.jF(X:Cx)(E:Value->Shared->Prop):Cx:={ X with xe:=E }
abbrev Cx.qi(X:Cx):Cx:=X.jF λ_ _=>False
theorem Cx.Ok.jF{X:Cx}(ok:X.Ok)(E:Value->Shared->Prop):(X.jF E).Ok:=
 ⟨ok.mod,ok.kind,ok.glob,ok.blt,ok.above,ok.inj,ok.has,ok.uw,ok.hd,ok.frames,ok.stk,ok.BZ,ok.bs,ok.qg,ok.oS,ok.oU,ok.iF,ok.rz⟩
def Cx.Ok.ig{X:Cx}{E:Value->Shared->Prop}(ok:(X.jF E).Ok):X.Ok:=
 ⟨ok.mod,ok.kind,ok.glob,ok.blt,ok.above,ok.inj,ok.has,ok.uw,ok.hd,ok.frames,ok.stk,ok.BZ,ok.bs,ok.qg,ok.oS,ok.oU,ok.iF,ok.rz⟩
section
variable{X:Cx}{pins:List (Addr×Obj)}{σ:St}{H:Hp}{s:Shared}{E:Value->Shared->Prop}
theorem Inv.jF(I:Inv X pins σ H s)(E:Value->Shared->Prop):Inv (X.jF E) pins σ H s:=⟨I.ok.jF E,I.os,I.bare,I.base,I.loc,I.cell,I.free,I.gU,I.pin,I.hok,I.len⟩
theorem Inv.ig(I:Inv (X.jF E) pins σ H s):Inv X pins σ H s:=⟨I.ok.ig,I.os,I.bare,I.base,I.loc,I.cell,I.free,I.gU,I.pin,I.hok,I.len⟩
theorem SP.ig{D:Ends}{f:Flow}{s':Shared}(h:SP (X.jF E) pins D f s'):SP X pins D f s':=by
 cases f with
 |next=>obtain⟨a,H',I,q⟩:=h;exact⟨a,H',I.ig,q⟩
 |brk=>obtain⟨a,H',I,q⟩:=h;exact⟨a,H',I.ig,q⟩
 |cont=>obtain⟨a,H',I,q⟩:=h;exact⟨a,H',I.ig,q⟩
 |ret u=>obtain⟨v,a,H',I,r,q⟩:=h;exact⟨v,a,H',I.ig,r,q⟩
theorem gI.qi{st:List Stmt}{t:TS}(h:gI X.qi st t):gI X st t:=λpins s σ H D I hw=>
 SJ (h pins s σ H D (I.jF _) hw) (λ_ _ q=>q.ig) λ_ _ z=>False.elim z
end
section
variable{X:Cx}{st:Stmt}{rest:List Stmt}{t u:TS}{e:Expr}{te:TE}{pos:Pos}
noncomputable def KW:TS:=λD σ H=>D.nx σ H
noncomputable def NI(t u:TS):TS:=λD σ H=>t { D with nx:=u D } σ H
def Dm:gI X [] KW:=λ_ _ σ H _ I h=>Vb ⟨σ,H,I,h⟩
def Au(h1:PS X st t)(h2:gI X rest u):gI X (st :: rest) (NI t u):=by
 intro a s σ H D I h;refine wpAny_execs_cons (bB (h1 a s σ H { D with nx:=u D } I h) λf s1 q=>?_);cases f with
 |next=>
  obtain⟨b,H',I',q⟩:=q;exact h2 a s1 b H' D I' q
 |ret v=>exact q
 |brk=>exact q
 |cont=>exact q
def Inv.quiet{pins:List (Addr×Obj)}{σ:St}{H:Hp}{s:Shared}(I:Inv X pins σ H s):interactive X.env=false:=by simp[interactive,I.ok.kind]
noncomputable def KY(te:TE):TS:=λD σ H=>te σ H λ_ H1=>D.nx σ H1
def Dn(he:PE X e te)(hs:swapsWith e none pos.line X.env=pure false:=by rfl):PS X (.Expr e pos) (KY te):=by
 intro a s σ H D I h;exact wpAny_Expr_any (bB (he a s σ H _ I h) λv s1 ⟨x,H1,I1,c,b⟩=>⟨σ,H1,I1,b⟩) I.quiet hs
noncomputable def NJ(te:TE):TS:=λD σ H=>te σ H D.rt
def FF(he:PE X e te):PS X (.Return (some e) pos) (NJ te):=by
 intro a s σ H D I h;exact wpAny_Return_some (bB (he a s σ H _ I h) λv s1 ⟨x,H1,I1,b,c⟩=>⟨x,σ,H1,I1,b,c⟩)
noncomputable def NK(c:TT)(t u:TS):TS:=λD σ H=>c σ H λb H1=>if b=true then t D σ H1 else u D σ H1
def KZ{c:Expr}{a b:List Stmt}{tc:TT}(hc:PT X c tc)(ha:gI X a t)(hb:gI X b u):PS X (.If c a b pos) (NK tc t u):=by
 intro f s σ H D I h;refine wpAny_If (bB (hc f s σ H _ I h) λd s1 ⟨H1,I1,g⟩=>?_);cases d with
 |true=>exact ha f s1 σ H1 D I1 g
 |false=>exact hb f s1 σ H1 D I1 g
noncomputable def FG:TS:=λ_ _ _=>False
def Av:PS X st FG:=λ_ _ _ _ _ _ h=>h.elim
end
abbrev TG:=V->St->Hp->(St->Hp->Prop)->Prop
abbrev qj:=List V->St->Hp->(St->Hp->Prop)->Prop
def PG(X:Cx)(target:Expr)(t:TG):Prop:=
 ∀(pins:List (Addr×Obj)) (s:Shared) (σ:St) (H:Hp) (v:V) (u:Value) (Q:St->Hp->Prop),Inv X pins σ H s->RelV v u->t v σ H Q->
  wpAny (model X.prog X.w) X.A (assign target X.env u) (λ_ a=>∃σ' H',Inv X pins σ' H' a/\Q σ' H') X.xe s
def mU(X:Cx)(ts:List Expr)(t:qj):Prop:=
 ∀(pins:List (Addr×Obj)) (s:Shared) (σ:St) (H:Hp) (vs:List V) (us:List Value) (Q:St->Hp->Prop),Inv X pins σ H s->Vals vs us->t vs σ H Q->
  wpAny (model X.prog X.w) X.A (assignInOrder ((assignEach ts X.env).map (·.2)) us) (λ_ a=>∃σ' H',Inv X pins σ' H' a/\Q σ' H') X.xe s
section
variable{X:Cx}{pos:Pos}
noncomputable def B6(i:Nat):TG:=λv σ H Q=>Q (σ.set i (some v)) H
def uA{i:Nat}{x:Str}(hN:X.N.Nodup)(hi:X.N[i]?=some x)(hx:Loc X.env.scope x)(hf:X.fn x=true\/X.env.scope.names.lookup x=some .local:=by first|exact .inl rfl|exact .inr rfl|assumption):PG X (.Name x pos) (B6 i):=by
 intro a s σ H v u Q I r h;exact wpAny_assign_Name (rD I hN hi hx r (λb I'=>⟨_,H,I',h⟩) hf)
noncomputable def NL:qj:=λvs σ H Q=>vs=[]/\Q σ H
noncomputable def K0(t:TG)(u:qj):qj:=λvs σ H Q=>∃v r,vs=v :: r/\t v σ H λσ' H'=>u r σ' H' Q
def Dp:mU X [] NL:=by
 intro a s σ H vs us Q I r h;obtain⟨e,h⟩:=h;subst e;cases r;exact assignInOrder_nil ⟨σ,H,I,h⟩
def Aw{e:Expr}{es:List Expr}{t:TG}{u:qj}(h1:PG X e t)(h2:mU X es u)
  (hs:(assignEach (e :: es) X.env).map (·.2)=assign e X.env :: (assignEach es X.env).map (·.2):=by rfl):mU X (e :: es) (K0 t u):=by
 intro a s σ H vs us Q I r h;obtain⟨v,d,b,h⟩:=h;subst b;cases r with
 |cons r c=>
  rw[hs];refine assignInOrder_cons (bB (h1 a s σ H _ _ _ I r h) λ_ s1 ⟨σ1,H1,I1,q1⟩=>?_);exact h2 a s1 σ1 H1 _ _ Q I1 c q1
noncomputable def NN(K:PySem.W.Frag)(n:Nat)(t:qj):TG:=λv σ H Q=>∃a xs,v=.ref a/\cU K H a xs/\xs.length=n/\t xs σ H Q
def FH{es:List Expr}{k:Nat}{t:qj}{n:Nat}(hc:X.calm=true)(h:mU X es t)
  (hn:(assignEach es X.env).length=n:=by rfl) (hst:(assignEach es X.env).findIdx? (·.1)=none:=by rfl):PG X (.Tuple es k pos) (NN X.K n t):=by
 intro c s σ H v u Q I r d;obtain⟨a,f,g,i,j,d⟩:=d;subst g;cases r;obtain⟨l,rv,p,y⟩:=I.tuple i;refine assign_Tuple_tuple (I.ok.hd hc) p (by simp[hn,<-j,rv.length]) hst λq x=>?_;have I1:Inv X c σ H { s with heap:=q }:=I.kept (t':=s.toks) λb o e=>x b o (Sh (R5 e)) e;exact h c _ σ H f _ Q I1 (by simpa using rv) d
noncomputable def NO(te:TE)(g:TG):TS:=λD σ H=>te σ H λx H1=>g x σ H1 D.nx
def xP{i:Nat}{x:Str}{e:Expr}{te:TE}{pos':Pos}(hN:X.N.Nodup)(hi:X.N[i]?=some x)(hx:Loc X.env.scope x)(he:PE X e te)(hs:swapsWith e (some (.Name x pos')) pos.line X.env=pure false:=by rfl)(hf:X.fn x=true\/X.env.scope.names.lookup x=some .local:=by first|exact .inl rfl|exact .inr rfl|assumption) :
  PS X (.Assign [.Name x pos'] e pos) (NO te (B6 i)):=by
 intro a s σ H D I h;refine wpAny_Assign_Name (bB (he a s σ H _ I h) λv s1 ⟨y,H1,I1,b,c⟩=>?_) hs;exact rD I1 hN hi hx b (λs2 I2=>⟨_,H1,I2,c⟩) hf
end
section
variable{X:Cx}{pos:Pos}
noncomputable def FJ(c:TT)(tb:TS):TS:=λD σ H=>∃W:Nat->St->Hp->Prop,(∃m,W m σ H)/\∀m σ H,W m σ H->
 c σ H λb H1=>if b=true then ∃N:St->Hp->Prop,(∀σ' H',N σ' H'->∃m',m'<m/\W m' σ' H')/\tb { D with nx:=N,ct:=N,bk:=D.nx } σ H1 else D.nx σ H1
def Ax{c:Expr}{body:List Stmt}{tc:TT}{tb:TS}(hp:PassesOwn (model X.prog X.w) X.A X.env X.xe)(hc:PT X c tc)(hb:gI X body tb):PS X (.While c body [] pos) (FJ tc tb):=by
 intro a s σ H D I h;obtain⟨W,⟨q,r⟩,d⟩:=h;refine wpAny_While (codeAny_whileLoop (λn x=>∃σ' H',Inv X a σ' H' x/\W n σ' H') ?_ q ⟨σ,H,I,r⟩);rintro n s1 ⟨σ1,H1,I1,w1⟩;refine Ti hp (bB (hc a s1 σ1 H1 _ I1 (d n σ1 H1 w1)) λb s2 ⟨H2,I2,g⟩=>?_);cases b with
 |true=>
  obtain⟨N,p,g⟩:=g;rw[gQ rfl];refine Ti hp (bB (hb a s2 σ1 H2 _ I2 g) λf s3 i=>?_);cases f with
  |next=>
   obtain⟨e,H3,I3,n3⟩:=i;obtain⟨j,l,o⟩:=p e H3 n3;exact⟨j,l,e,H3,I3,o⟩
  |cont=>
   obtain⟨e,H3,I3,n3⟩:=i;obtain⟨j,l,o⟩:=p e H3 n3;exact⟨j,l,e,H3,I3,o⟩
  |brk=>exact i
  |ret v=>exact i
 |false=>
  rw[R0 Tg];exact Vb ⟨σ1,H2,I2,g⟩
end
structure It where
 go:Nat->Hp->Prop
 B7:Nat->Hp->V->Hp->Prop
 stop:Nat->Hp->Prop
def eV(X:Cx)(pins:List (Addr×Obj))(H:Hp)(b:Addr):Prop:=
 H b=none/\b≠X.env.locals/\b∉X.fs/\(b∈X.ex\/X.s₀.heap.objs.size<=b)/\(∀x c,X.env.cells.lookup x=some c->c≠b)/\∀p∈X.pn++pins,p.1≠b
def Inv.oV{X:Cx}{pins:List (Addr×Obj)}{σ:St}{H H':Hp}{s:Shared}{b:Addr}(I:Inv X pins σ H s)(hb:s.heap.objs.size<=b)(hn:H' b=none):eV X pins H' b:=by
 refine⟨hn,VE (zP I.lt hb),I.NC hb,.inr (Sa I.sz hb),λx c e z=>?_,λp a z=>?_⟩
 .obtain⟨v,q⟩:=I.cell x c e;exact absurd (zP q.lt (by rw[z];exact hb)) (Sw _)
 .exact absurd (zP (R5 (I.pin p a).1) (by rw[z];exact hb)) (Sw _)
structure Turn(P:Program)(w:World)(K:PySem.W.Frag)(tg:Expr)(J:It)(fp:List Addr)(it:Addr)(tn:Nat->Heap->Prop):Prop where
 mem:it∈fp
 obj:∀i h,tn i h->∀b∈fp,∃o,h.get? b=some o/\∀v,o.data≠.cell v
 keep:∀i h h',tn i h->(∀b∈fp,∀o,h.get? b=some o->h'.get? b=some o)->tn i h'
 item:∀(X:Cx),X.prog=P->X.w=w->X.K=K->X.calm=true->∀(i:Nat) (pins:List (Addr×Obj)) (s:Shared) (σ:St) (H:Hp) (E:Value->Shared->Prop),Inv X pins σ H s->(∀b∈fp,eV X pins H b)->tn i s.heap->J.go i H->
  wpAny (model P w) X.A (pyNext (.ref it)) (λr s1=>∃u,r=some u/\
   wpAny (model P w) X.A (letOwnedTupleGo tg (.ref it) u) (λ_ s2=>∃x H',Inv X pins σ H' s2/\RelV x u/\J.B7 i H x H'/\tn (i+1) s2.heap/\∀b∈fp,H' b=none) E s1) E s
 done:∀(X:Cx),X.prog=P->X.w=w->X.K=K->X.calm=true->∀(i:Nat) (pins:List (Addr×Obj)) (s:Shared) (σ:St) (H:Hp) (E:Value->Shared->Prop),Inv X pins σ H s->(∀b∈fp,eV X pins H b)->tn i s.heap->J.stop i H->
  wpAny (model P w) X.A (pyNext (.ref it)) (λr s1=>r=none/\Inv X pins σ H s1) E s
 self:∀(A:Around) (i:Nat) (s:Shared) (Q:Value->Shared->Prop) (E:Value->Shared->Prop),tn i s.heap->Q (.ref it) s->wpAny (model P w) A (pyIter (.ref it)) Q E s
abbrev TI:=St->Hp->(It->Hp->Prop)->Prop
def MA(X:Cx)(pins:List (Addr×Obj))(σ:St)(tg:Expr)(R:It->Hp->Prop)(itv:Value)(s2:Shared):Prop:=
 ∃(it:Addr) (fp:List Addr) (tn:Nat->Heap->Prop) (J:It) (H':Hp),itv=.ref it/\Inv X pins σ H' s2/\Turn X.prog X.w X.K tg J fp it tn/\tn 0 s2.heap/\(∀b∈fp,eV X pins H' b)/\R J H'
def PI(X:Cx)(tg iter:Expr)(wi:TI):Prop:=
 ∀(pins:List (Addr×Obj)) (s:Shared) (σ:St) (H:Hp) (R:It->Hp->Prop),Inv X pins σ H s->wi σ H R->
  wpAny (model X.prog X.w) X.A (eval iter X.env) (λv s1=>wpAny (model X.prog X.w) X.A (pyIter v) (MA X pins σ tg R) X.xe s1) X.xe s
def vL{M:Model}{A:Around}{E:Value->Shared->Prop}{s:Shared}{tg:Expr}{it:Addr}{u:Value}{o:Obj}{n:String}{vs:Array Value}{Q:Unit->Shared->Prop}(ho:s.heap.get? it=some o)(hc:o.cls=.type n)(hd:o.data=.fields vs)
    (hn:["enumerate","zip","dict_itemiterator","dict_reverseitemiterator","odict_iterator","itertools.zip_longest","itertools.pairwise"].contains n=false) (hQ:Q () s):wpAny M A (letOwnedTupleGo tg (.ref it) u) Q E s:=by
  unfold letOwnedTupleGo;cases tg<;>first
    |exact RW hQ
    | (cases u<;>first
        |exact RW hQ
        | (refine fB (wpAny_load ho ?_)
           rw[hc,hd];show wpAny M A (if (["enumerate","zip","dict_itemiterator","dict_reverseitemiterator","odict_iterator","itertools.zip_longest","itertools.pairwise"].contains n&&vs[0]?==some (rawInt _))=true then _ else _) Q E s;rw[R0 (by intro h;rw[hn,Bool.false_and]at h;cases h)];exact RW hQ))
noncomputable def MB(K:PySem.W.Frag)(a:Addr):It:=
 ⟨λi H=>∃xs x,dm K H a xs/\xs[i]?=some x,λi H x H'=>H'=H/\∀xs,dm K H a xs->xs[i]?=some x,λi H=>∃xs,dm K H a xs/\xs.length<=i⟩
noncomputable def MC(K:PySem.W.Frag)(a:Addr):It:=
 ⟨λi H=>∃xs x,cU K H a xs/\xs[i]?=some x,λi H x H'=>H'=H/\∀xs,cU K H a xs->xs[i]?=some x,λi H=>∃xs,cU K H a xs/\xs.length<=i⟩
noncomputable def B8(lo:Int)(n:Nat):It:=⟨λi _=>i<n,λi H x H'=>H'=H/\x=.int (lo+i),λi _=>n<=i⟩
def xQ{P:Program}{w:World}{K:PySem.W.Frag}{tg:Expr}(a it:Addr):Turn P w K tg (MB K a) [it] it (λi h=>h.IsListIter it a i) where
 mem:=by simp
 obj:=λi h f b j=>by
  have e:b=it:=by simpa using j
  subst e;obtain⟨o,e,c,d⟩:=f;exact⟨o,e,λv z=>by rw[d]at z;cases z⟩
 keep:=λi h q f k=>f.at λo e=>k it (by simp) o e
 item:=by
  intro X y A B G i g s σ H E I hf f hg;subst y A B;obtain⟨J,x,r,C⟩:=hg;obtain⟨F,rv,p,L⟩:=I.list r;obtain⟨u,M,N⟩:=rv.get C;obtain⟨f0,f1,f2,f3,f4,f5⟩:=hf it (by simp);refine wpAny_pyNext_list_item f p.isList (x:=u) (by simpa using M) λq l Q=>?_;have I1:Inv X g σ H { s with heap:=q }:=I.turned (t':=s.toks) (λb o j e=>(Q.2 b j).trans e) f0 f1 f3 f4 f5;obtain⟨o,e,c,d⟩:=id l;exact⟨u,rfl,vL (s:={ s with heap:=q }) e c d (by decide) ⟨x,H,I1,N,⟨rfl,λys Y=>by rw[I.nu Y r];exact C⟩,l,λb j=>(hf b j).1⟩⟩
 done:=by
  intro X y A B G i g s σ H E I hf f hg;subst y A B;obtain⟨J,r,C⟩:=hg;obtain⟨F,rv,p,L⟩:=I.list r;obtain⟨f0,f1,f2,f3,f4,f5⟩:=hf it (by simp);have hl:=rv.length;exact wpAny_pyNext_list_end (I.ok.hd G) f p.isList (by simp;omega) λq Z=>⟨rfl,I.turned (t':=s.toks) (λb o j e=>Z b o j e) f0 f1 f3 f4 f5⟩
 self:=λ_ _ _ _ _ f h=>wpAny_pyIter_listiter f h
def vM{P:Program}{w:World}{K:PySem.W.Frag}{tg:Expr}(a it:Addr):Turn P w K tg (MC K a) [it] it (λi h=>h.IsTupleIter it a i) where
 mem:=by simp
 obj:=λi h f b j=>by
  have e:b=it:=by simpa using j
  subst e;obtain⟨o,e,c,d⟩:=f;exact⟨o,e,λv z=>by rw[d]at z;cases z⟩
 keep:=λi h r f k=>f.at λo e=>k it (by simp) o e
 item:=by
  intro X A B C G i g s σ H E I hf f hg;subst A B C;obtain⟨J,x,y,F⟩:=hg;obtain⟨l,rv,p,L⟩:=I.tuple y;obtain⟨u,M,N⟩:=rv.get F;obtain⟨f0,f1,f2,f3,f4,f5⟩:=hf it (by simp);refine wpAny_pyNext_tuple_item f (show s.heap.IsTuple a l.toArray from p) (x:=u) (by simpa using M) λr q Q=>?_;have I1:Inv X g σ H { s with heap:=r }:=I.turned (t':=s.toks) (λb o j e=>(Q.2 b j).trans e) f0 f1 f3 f4 f5;obtain⟨o,e,c,d⟩:=id q;exact⟨u,rfl,vL (s:={ s with heap:=r }) e c d (by decide) ⟨x,H,I1,N,⟨rfl,λys Y=>by rw[I.kU Y y];exact F⟩,q,λb j=>(hf b j).1⟩⟩
 done:=by
  intro X A B C G i g s σ H E I hf f hg;subst A B C;obtain⟨J,y,F⟩:=hg;obtain⟨l,rv,p,L⟩:=I.tuple y;obtain⟨f0,f1,f2,f3,f4,f5⟩:=hf it (by simp);have hl:=rv.length;exact wpAny_pyNext_tuple_end (I.ok.hd G) f (show s.heap.IsTuple a l.toArray from p) (by simp;omega) λr Z=>⟨rfl,I.turned (t':=s.toks) (λb o j e=>Z b o j e) f0 f1 f3 f4 f5⟩
 self:=λ_ _ _ _ _ f h=>wpAny_pyIter_tupleiter f h
def vN{P:Program}{w:World}{K:PySem.W.Frag}{tg:Expr}(it:Addr)(lo:Int)(n:Nat):Turn P w K tg (B8 lo n) [it] it (λi h=>IsRangeIter h it (lo+(i:Nat)*1) ((n:Int) - (i:Nat)) 1) where
 mem:=by simp
 obj:=λi h a b d=>by
  have e:b=it:=by simpa using d
  subst e;exact⟨_,a,λv z=>by
   have x:Data.fields _=Data.cell v:=z;cases x⟩
 keep:=λi h g a k=>k it (by simp) _ a
 item:=by
  intro X j l p q i c s σ H E I hf a hg;subst j l p;obtain⟨f0,f1,f2,f3,f4,f5⟩:=hf it (by simp);have W:=Walks.range (prog:=X.prog) (w:=X.w) (I.ok.hd q) it lo 1 n;refine W.item i s _ _ hg a λv g r y f A=>?_;obtain⟨t,rfl⟩:=y;have I1:Inv X c σ H { s with heap:=g,toks:=r }:=I.turned (λb o d e=>A b o (by simpa using d) e) f0 f1 f3 f4 f5;refine⟨_,rfl,vL (s:={ s with heap:=g,toks:=r }) (n:="range_iterator") f rfl rfl (by decide) ⟨.int (lo+i),H,I1,⟨t,?_⟩,⟨rfl,rfl⟩,f,λb d=>(hf b d).1⟩⟩;rw[Int.mul_one]
 done:=by
  intro X j l p q i c s σ H E I hf a hg;subst j l p;obtain⟨f0,f1,f2,f3,f4,f5⟩:=hf it (by simp);exact wpAny_pyNext_range_end (I.ok.hd q) a (by have:n<=i:=hg;omega) λg B=>⟨rfl,I.turned (t':=s.toks) (λb o d e=>B b o d e) f0 f1 f3 f4 f5⟩
 self:=λ_ _ _ _ _ a h=>wpAny_pyIter_rangeiter a h
section
variable{X:Cx}{tg:Expr}
def Ay{pins:List (Addr×Obj)}{σ:St}{H:Hp}{s:Shared}{R:It->Hp->Prop}{E:Value->Shared->Prop}{lo hi:Int}{t u v:Tok}{tk:Nat}(I:Inv X pins σ H s)(h1:-(2 ^ 62)<=lo)(h2:lo<2 ^ 62)(h3:-(2 ^ 62)<=hi)(h4:hi<2 ^ 62)
  (q:R (B8 lo (hi - lo).toNat) H):wpAny (model X.prog X.w) X.A (pyIter (.ref s.heap.objs.size)) (MA X pins σ tg R) E { s with heap:=s.heap.push { cls:=.type "range",data:=.fields #[.int lo t,.int hi u,.int 1 v]},toks:=tk }:=by
 refine wpAny_pyIter_range (IsRange.new ..) (small_one h1 h2 h3 h4) ?_;have I1:Inv X pins σ H { s with heap:=s.heap.push { cls:=.type "range",data:=.fields #[.int lo t,.int hi u,.int 1 v]},toks:=tk }:=I.kept λb o e=>RT _ e;refine⟨(s.heap.push { cls:=.type "range",data:=.fields #[.int lo t,.int hi u,.int 1 v]}).objs.size,[(s.heap.push { cls:=.type "range",data:=.fields #[.int lo t,.int hi u,.int 1 v]}).objs.size],_,_,H,rfl,
  I1.kept (t':=tk) λb o e=>RT _ e,vN _ lo (hi - lo).toNat,?_,λb a=>?_,q⟩
 .have c:lo+((0:Nat):Int)*1=lo:=by simp
  have d:(((hi - lo).toNat:Nat):Int) - ((0:Nat):Int)=Builtin.Range.rangeSize lo hi 1:=by rw[rangeSize_one];split<;>omega
  show IsRangeIter _ _ (lo+((0:Nat):Int)*1) ((((hi - lo).toNat:Nat):Int) - ((0:Nat):Int)) 1;rw[c,d];exact Sb _ rfl
 .have e:b=(s.heap.push { cls:=.type "range",data:=.fields #[.int lo t,.int hi u,.int 1 v]}).objs.size:=by simpa using a
  subst e;exact I1.oV (oM _) (I1.hok.fresh (oM _))
noncomputable def K1(ta:TA):TI:=λσ H R=>ta σ H λa H1=>∃j:Int,a=[.int j]/\-(2 ^ 62)<=j/\j<2 ^ 62/\R (B8 0 j.toNat) H1
def xR {a:Expr}{ta:TA}{p pos:Pos}(hg:Gl X "range") (hm:X.mg "range" = none) (ha:PA X [a] ta) (hs:starEach [a] X.env=[(false,eval a X.env)]:=by rfl):PI X tg (.Call (.Name "range" p) [a] [] pos) (K1 ta):=by
 intro b s σ H R I h;refine Call_ (eg I hg hm boot_range (Th (bB (ha pos b s σ H _ I h) λi s1 ⟨l,H1,I1,d,c⟩=>?_) hs rfl));obtain⟨j,e,c,f,q⟩:=c;subst e;cases d with
 |cons r g=>
  cases g;obtain⟨t,rfl⟩:=r;exact call_range_1 (Ay I1 (by omega) (by omega) c f (by simpa using q))
noncomputable def NP(wi:TI)(g:TG)(tb:TS):TS:=λD σ H=>wi σ H λJ H1=>∃W:Nat->Nat->St->Hp->Prop,(∃m,W 0 m σ H1)/\∀i m σ H,W i m σ H->
 (J.stop i H/\D.nx σ H)\/(J.go i H/\∃N:St->Hp->Prop,(∀σ' H',N σ' H'->∃m',m'<m/\W (i+1) m' σ' H')/\∀x H',J.B7 i H x H'->g x σ H' λσ2 H2=>tb { D with nx:=N,ct:=N,bk:=D.nx } σ2 H2)
noncomputable def kW(fp:List Addr)(h:Heap):List (Addr×Obj):=fp.filterMap λb=>(h.get? b).map λo=>(b,o)
def iM{fp:List Addr}{h:Heap}{b:Addr}{o:Obj}(hb:b∈fp)(e:h.get? b=some o):(b,o)∈kW fp h:=List.mem_filterMap.mpr ⟨b,hb,by rw[e];rfl⟩
def xS{fp:List Addr}{h:Heap}{p:Addr×Obj}(hp:p∈kW fp h):p.1∈fp/\h.get? p.1=some p.2:=by
 obtain⟨b,a,e⟩:=List.mem_filterMap.mp hp;cases q:h.get? b with
 |none=>rw[q]at e;cases e
 |some o=>
  rw[q]at e;have c:(b,o)=p:=jC e;subst c;exact⟨a,q⟩
def Inv.pinned{pins:List (Addr×Obj)}{σ:St}{H:Hp}{s:Shared}{fp:List Addr}(I:Inv X pins σ H s)(hf:∀b∈fp,eV X pins H b)(ho:∀b∈fp,∃o,s.heap.get? b=some o/\∀v,o.data≠.cell v):Inv X (pins++kW fp s.heap) σ H s:=
 I.uz λp f=>(List.mem_append.mp f).elim (λz=>I.pin p (So _ z)) λz=>by
  obtain⟨a,e⟩:=xS z;obtain⟨f0,f1,f2,_⟩:=hf p.1 a;obtain⟨o,c,d⟩:=ho p.1 a;rw[e]at c;cases c;exact⟨e,f0,f1,f2,d⟩
def Inv.ki{pins pl:List (Addr×Obj)}{σ:St}{H:Hp}{s:Shared}(I:Inv X (pins++pl) σ H s):Inv X pins σ H s:=I.uz λp a=>I.pin p (So _ (Vs _ a))
def FL{iter:Expr}{body:List Stmt}{wi:TI}{g:TG}{tb:TS}{pos:Pos}(hp:PassesOwn (model X.prog X.w) X.A X.env X.xe)(hc:X.calm=true)(hi:PI X tg iter wi)(hg:PG X tg g)(hb:gI X body tb)
  (hs:∀x,foldedSetIterable iter X.env x=pure x:=by intro _;rfl):PS X (.For tg iter body [] pos) (NP wi g tb):=by
 intro a s σ H D I h;refine wpAny_For (bB (hi a s σ H _ I h) λv s1 L=>bB L λitv s2 M=>?_) hs;obtain⟨it,p,G,J,H2,e,I2,T,z,f2,W,⟨P,Q⟩,q⟩:=M;subst e;have B:∀{H':Hp},(∀b∈p,H' b=none)->∀b∈p,eV X a H' b:=λY b hb=>⟨Y b hb,(f2 b hb).2⟩
 refine codeAny_forLoop_any (λn K=>∃i σ' H',Inv X a σ' H' K/\G i K.heap/\(∀b∈p,H' b=none)/\W i n σ' H') ?_ P ⟨0,σ,H2,I2,z,λb hb=>(f2 b hb).1,Q⟩;rintro n s3 ⟨i,σ3,H3,I3,st3,b8,w3⟩;rcases q i n σ3 H3 w3 with ⟨y,Z⟩|⟨go,N,hN,step⟩
 .refine Ti hp (bB (T.done X rfl rfl rfl hc i a s3 σ3 H3 X.xe I3 (B b8) st3 y) λr s4 ⟨C,I4⟩=>?_);subst C;exact Vb ⟨σ3,H3,I4,Z⟩
 .refine Ti hp (bB (T.item X rfl rfl rfl hc i a s3 σ3 H3 X.xe I3 (B b8) st3 go) λr s4 ⟨u,C,h4⟩=>?_);subst C;refine Ti hp (bB h4 λ_ s5 ⟨x,H5,I5,r5,y5,F,qk⟩=>?_);have Pe:=I5.pinned (B qk) (T.obj _ _ F);refine Ti hp (bB (hg _ s5 σ3 H5 x u _ Pe r5 (step x H5 y5)) λ_ s6 ⟨Pf,H6,I6,q6⟩=>?_);refine Ti hp (bB (hb _ s6 Pf H6 _ I6 q6) λf s7 l=>?_);have c:∀{j:St} {H7:Hp},Inv X (a++kW p s5.heap) j H7 s7->N j H7->∃m,m<n/\∃i σ' H',Inv X a σ' H' s7/\G i s7.heap/\(∀b∈p,H' b=none)/\W i m σ' H':=λ{j H7} I7 n7=>by
   obtain⟨m',hm,w7⟩:=hN j H7 n7;refine⟨m',hm,i+1,j,H7,I7.ki,T.keep _ _ _ F λb hb o e=>(I7.pin (b,o) (So _ (So _ (iM hb e)))).1,λb hb=>?_,w7⟩;obtain⟨o,e,d⟩:=T.obj _ _ F b hb;exact(I7.pin (b,o) (So _ (So _ (iM hb e)))).2.1
  cases f with
  |next=>obtain⟨j,H7,I7,n7⟩:=l;exact c I7 n7
  |cont=>obtain⟨j,H7,I7,n7⟩:=l;exact c I7 n7
  |brk=>obtain⟨j,H7,I7,l⟩:=l;exact⟨j,H7,I7.ki,l⟩
  |ret v=>obtain⟨x7,j,H7,I7,r7,l⟩:=l;exact⟨x7,j,H7,I7.ki,r7,l⟩
end
abbrev R2:=V->V->Hp->VK->Prop
def dz(X:Cx)(f:Value->Value->Sem Value)(r:R2):Prop:=
 ∀(pins:List (Addr×Obj)) (s:Shared) (σ:St) (H:Hp) (x y:V) (v u:Value) (Q:VK),Inv X pins σ H s->RelV x v->RelV y u->r x y H Q->
  wpAny (model X.prog X.w) X.A (f v u) (EP X pins σ Q) X.xe s
def FO(X:Cx)(f:Value->Sem Value)(r:V->Hp->VK->Prop):Prop:=
 ∀(pins:List (Addr×Obj)) (s:Shared) (σ:St) (H:Hp) (x:V) (v:Value) (Q:VK),Inv X pins σ H s->RelV x v->r x H Q->
  wpAny (model X.prog X.w) X.A (f v) (EP X pins σ Q) X.xe s
def ee(X:Cx)(f:Value)(r:List V->Hp->VK->Prop):Prop:=
 ∀(pins:List (Addr×Obj)) (s:Shared) (σ:St) (H:Hp) (xs:List V) (us:List Value) (Q:VK),Inv X pins σ H s->Vals xs us->r xs H Q->
  wpAny (model X.prog X.w) X.A (call f us) (EP X pins σ Q) X.xe s
def NQ(X:Cx)(r:V->Hp->(Bool->Hp->Prop)->Prop):Prop:=
 ∀(pins:List (Addr×Obj)) (s:Shared) (σ:St) (H:Hp) (x:V) (v:Value) (Q:Bool->Hp->Prop),Inv X pins σ H s->RelV x v->r x H Q->
  wpAny (model X.prog X.w) X.A (truthy v) (TP X pins σ Q) X.xe s
noncomputable def xT(r:R2)(ta tb:TE):TE:=λσ H Q=>ta σ H λx H1=>tb σ H1 λy H2=>r x y H2 Q
noncomputable def Pg(r:V->Hp->VK->Prop)(ta:TE):TE:=λσ H Q=>ta σ H λx H1=>r x H1 Q
noncomputable def rI(C:Int->Int->Prop)(g:Int->Int->V):R2:=λx y H Q=>∃i j,x=.int i/\y=.int j/\C i j/\Q (g i j) H
noncomputable def rE(g:Int->Int->V):R2:=λx y H Q=>∃i j,x=.int i/\y=.int j/\Q (g i j) H
def rU(g:Int->V):V->Hp->VK->Prop:=λx H Q=>∃i,x=.int i/\Q (g i) H
section
variable{X:Cx}{a b:Expr}{ta tb:TE}{pos:Pos}
def Az(ha:PE X a ta)(hb:PE X b tb){pins:List (Addr×Obj)}{s:Shared}{σ:St}{H:Hp}{R:V->V->Hp->Prop}(I:Inv X pins σ H s)
  (h:ta σ H λx H1=>tb σ H1 λy H2=>R x y H2) {Q:Value->Shared->Prop} {f:Value->Value->Sem Value}
  (hf:∀v u s2 x y H2,Inv X pins σ H2 s2->RelV x v->RelV y u->R x y H2->wpAny (model X.prog X.w) X.A (f v u) Q X.xe s2) :
  wpAny (model X.prog X.w) X.A (eval a X.env) (λv s₁=>wpAny (model X.prog X.w) X.A (eval b X.env) (λu s₂=>wpAny (model X.prog X.w) X.A (f v u) Q X.xe s₂) X.xe s₁) X.xe s:=by
 refine bB (ha pins s σ H _ I h) λv s1 ⟨x,H1,I1,c,d⟩=>?_;refine bB (hb pins s1 σ H1 _ I1 d) λu s2 ⟨y,H2,I2,e,g⟩=>?_;exact hf v u s2 x y H2 I2 c e g
def K2{op:Operator}{r:R2}(ho:dz X (binaryOp op) r)(ha:PE X a ta)(hb:PE X b tb):PE X (.BinOp a op b pos) (xT r ta tb):=by
 intro c s σ H Q I h;exact wpAny_BinOp (Az ha hb I h λv u s2 x y H2 I2 d e q=>ho c s2 σ H2 x y v u Q I2 d e q)
def K3{op:UnaryOp}{r:V->Hp->VK->Prop}(ho:FO X (unaryOp op) r)(ha:PE X a ta):PE X (.UnaryOp op a pos) (Pg r ta):=by
 intro c s σ H Q I h;exact UnaryOp_ (bB (ha c s σ H _ I h) λv s1 ⟨x,H1,I1,d,e⟩=>ho c s1 σ H1 x v Q I1 d e)
def FP{f:Value->Value->Sem Value}{C:Int->Int->Prop}{g:Int->Int->Int}
  (rule:∀(i j:Int) (t u:Tok) (s:Shared) (Q:Value->Shared->Prop) (E:Value->Shared->Prop),C i j->Q (.int (g i j) s.toks) { s with toks:=s.toks+1 }->wpAny (model X.prog X.w) X.A (f (.int i t) (.int j u)) Q E s) :
  dz X f (rI C λi j=>.int (g i j)):=by
 intro c s σ H x y v u Q I rx ry h;obtain⟨i,j,rfl,rfl,d,q⟩:=h;obtain⟨t,rfl⟩:=rx;obtain⟨e,rfl⟩:=ry;exact rule i j t e s _ _ d ⟨.int (g i j),H,I.tok _,⟨_,rfl⟩,q⟩
def FQ{f:Value->Value->Sem Value}{g:Int->Int->Int}
  (rule:∀(i j:Int) (t u:Tok) (s:Shared) (Q:Value->Shared->Prop) (E:Value->Shared->Prop),Q (.int (g i j) s.toks) { s with toks:=s.toks+1 }->wpAny (model X.prog X.w) X.A (f (.int i t) (.int j u)) Q E s) :
  dz X f (rE λi j=>.int (g i j)):=by
 intro c s σ H x y v u Q I rx ry h;obtain⟨i,j,rfl,rfl,q⟩:=h;obtain⟨t,rfl⟩:=rx;obtain⟨d,rfl⟩:=ry;exact rule i j t d s _ _ ⟨.int (g i j),H,I.tok _,⟨_,rfl⟩,q⟩
def FT{f:Value->Value->Sem Value}{g:Int->Int->Bool}
  (rule:∀(i j:Int) (t u:Tok) (s:Shared) (Q:Value->Shared->Prop) (E:Value->Shared->Prop),Q (.bool (g i j)) s->wpAny (model X.prog X.w) X.A (f (.int i t) (.int j u)) Q E s) :
  dz X f (rE λi j=>.bl (g i j)):=by
 intro c s σ H x y v u Q I rx ry h;obtain⟨i,j,rfl,rfl,q⟩:=h;obtain⟨t,rfl⟩:=rx;obtain⟨d,rfl⟩:=ry;exact rule i j t d s _ _ ⟨.bl (g i j),H,I,rfl,q⟩
def NR(i j:Int):Prop:=0<j/\j<1073741824
def AA(i j:Int):Prop:=(-(2 ^ 64)<i/\i<2 ^ 64)\/(-(2 ^ 64)<j/\j<2 ^ 64)
def AA.ok{i j:Int}(h:AA i j):IntMulOk i j:=by
 rcases h with ⟨c,d⟩|⟨c,d⟩
 .exact .of_left (intBits_le_64 c d)
 .exact .of_right (intBits_le_64 c d)
def FU:dz X (binaryOp .Add) (rE λi j=>.int (i+j)):=FQ λ_ _ _ _ _ _ _ q=>add_int q
def FY:dz X (binaryOp .Sub) (rE λi j=>.int (i - j)):=FQ λ_ _ _ _ _ _ _ q=>sub_int q
def FZ:dz X (binaryOp .Mult) (rI AA λi j=>.int (i*j)):=FP λ_ _ _ _ _ _ _ c q=>mul_int q c.ok
def Dq:dz X (binaryOp .FloorDiv) (rI NR λi j=>.int (i / j)):=FP λi j _ _ _ _ _ c q=>by
 have d:(0:Int)<j:=c.1;have e:j<1073741824:=c.2;exact floordiv_int (by omega) (by rw[Int.fdiv_eq_ediv_of_nonneg i (by omega)];exact q) (.inl (PyProof.noPylong_small (by omega)))
def Ga:dz X (binaryOp .Mod) (rI (λ_ j=>0<j) λi j=>.int (i % j)):=FP λi j _ _ _ _ _ c q=>by
 have d:(0:Int)<j:=c;exact mod_int' (by omega) (by rw[Int.fmod_eq_emod_of_nonneg i (by omega)];exact q)
def Ph{f:Value->Sem Value}{g:Int->Int}
  (rule:∀(i:Int) (t:Tok) (s:Shared) (Q:Value->Shared->Prop) (E:Value->Shared->Prop),Q (.int (g i) s.toks) { s with toks:=s.toks+1 }->wpAny (model X.prog X.w) X.A (f (.int i t)) Q E s) :
  FO X f (rU λi=>.int (g i)):=by
 intro c s σ H x v Q I rx h;obtain⟨i,rfl,q⟩:=h;obtain⟨t,rfl⟩:=rx;exact rule i t s _ _ ⟨.int (g i),H,I.tok _,⟨_,rfl⟩,q⟩
def Gb:FO X (unaryOp .USub) (rU λi=>.int (-i)):=Ph λ_ _ _ _ _ q=>neg_int q
end
section
variable{X:Cx}{a b c:Expr}{ta tb:TE}{pos:Pos}
def K4:dz X (compareOp .Lt) (rE λi j=>.bl (decide (i<j))):=FT λ_ _ _ _ _ _ _ q=>lt_int q
def K5:dz X (compareOp .Gt) (rE λi j=>.bl (decide (j<i))):=FT λ_ _ _ _ _ _ _ q=>gt_int q
def kY(b:Expr){op:CmpOp}(h:op≠.In:=by decide)(h2:op≠.NotIn:=by decide):behindInMarks op b=false:=by
 have d:(op==CmpOp.In)=false:=by cases op<;>first|rfl|exact absurd rfl h
 have e:(op==CmpOp.NotIn)=false:=by cases op<;>first|rfl|exact absurd rfl h2
 cases b<;>simp[behindInMarks,d,e]
def Ds{op:CmpOp}{r:R2}(ho:dz X (compareOp op) r)(ha:PE X a ta)(hb:PE X b tb)(hm:behindInMarks op b=false):PE X (.Compare a [op] [b] pos) (xT r ta tb):=by
 intro d s σ H Q I h;exact wpAny_Compare1 (Az ha hb I h λv u s2 x y H2 I2 e f q=>ho d s2 σ H2 x y v u Q I2 e f q) hm
noncomputable def K6(t:TE):TT:=λσ H Q=>t σ H λx H'=>∃k,x=.bl k/\Q k H'
def Dt{op:CmpOp}{r:R2}(ho:dz X (compareOp op) r)(ha:PE X a ta)(hb:PE X b tb)(hm:behindInMarks op b=false):PT X (.Compare a [op] [b] pos) (K6 (xT r ta tb)):=by
 intro d s σ H Q I h;refine wpAny_isTrue_Compare1 (bB (ha d s σ H _ I h) λv s1 ⟨x,H1,I1,f,g⟩=>bB (hb d s1 σ H1 _ I1 g) λu s2 ⟨y,H2,I2,i,j⟩=>
  bB (ho d s2 σ H2 x y v u _ I2 f i j) λc s3 ⟨z,H3,I3,l,k,e,o⟩=>?_) hm
 subst e;cases l;exact Uq ⟨H3,I3,o⟩
def AB(K:PySem.W.Frag)(x:V)(H:Hp)(k:Bool):Prop:=
 match x with
 |.aY=>k=false
 |.bl b=>k=b
 |.int i=>k=(i != 0)
 |.str y=>y.length<=sizeLine/\k=((y.length:Int) != 0)
 |.xG y=>y.size<=sizeLine/\k=((y.size:Int) != 0)
 |.ref p=>(∃xs,dm K H p xs/\k = !xs.isEmpty)\/(∃xs,cU K H p xs/\k = !xs.isEmpty)\/∃kvs,H p=some (.dK kvs)/\k = !kvs.isEmpty
 |_=>False
def vO{κ:Type}{kvs:List (κ×V)}{vs:List (κ×Value)}(r:KV kvs vs):(!vs.isEmpty) = !kvs.isEmpty:=by
 cases r<;>rfl
def nN{xs:List V}{its:List Value}(r:Vals xs its):(!its.toArray.isEmpty) = !xs.isEmpty:=by
 cases r<;>simp
def jN:(sizeLine:Nat)<2 ^ 63:=by rw[Td];decide
def Gd:NQ X (λx H Q=>∃k,AB X.K x H k/\Q k H):=by
 intro A s σ H x v Q I rx h;obtain⟨k,e,q⟩:=h;have C:=jN;have F:sizeLine=16777216:=Td;cases x with
 |aY=>
  cases rx;have d:k=false:=e;subst d;exact truthy_none ⟨H,I,q⟩
 |bl b=>
  cases rx;have d:k=b:=e;subst d;exact Uq ⟨H,I,q⟩
 |int i=>
  obtain⟨t,rfl⟩:=rx;have d:k=(i != 0):=e;subst d;exact PySem.P.truthy_int ⟨H,I,q⟩
 |str y=>
  obtain⟨t,rfl⟩:=rx;obtain⟨hy,d⟩:y.length<=sizeLine/\k=((y.length:Int) != 0):=e;subst d;exact PySem.P.truthy_str (by omega) ⟨H,I.tok _,q⟩
 |xG y=>
  obtain⟨t,rfl⟩:=rx;obtain⟨hy,d⟩:y.size<=sizeLine/\k=((y.size:Int) != 0):=e;subst d;exact PySem.W.truthy_bytes (by omega) ⟨H,I.tok _,q⟩
 |ref p=>
  cases rx;have d:(∃j,dm X.K H p j/\k = !j.isEmpty)\/(∃j,cU X.K H p j/\k = !j.isEmpty)\/∃f,H p=some (.dK f)/\k = !f.isEmpty:=e;rcases d with ⟨j,l,d⟩|⟨j,l,d⟩|⟨f,l,d⟩
  .subst d;obtain⟨o,r,z,B⟩:=I.list l;have g:=r.length;exact wpAny_truthy_list z.isList (by simp only[RY];omega) ⟨H,I.tok _,by rw[nN r];exact q⟩
  .subst d;obtain⟨o,r,z,B⟩:=I.tuple l;have g:=r.length;exact truthy_tuple z (by simp only[RY];omega) ⟨H,I.tok _,by rw[nN r];exact q⟩
  .subst d;obtain⟨B,hS,vs,r,m⟩:f.length<=sizeLine/\(p==sysModules)=false/\∃vs,KV f vs/\s.heap.DictOf (bO X.prog X.w) p vs:=I.hok p _ l;have g:f.length=vs.length:=UN r;exact wpAny_truthy_dict hS m (by omega) ⟨H,I.tok _,by rw[vO r];exact q⟩
 |_=>exact(show False from e).elim
def AD(ha:PE X a ta)(he:∀whole,isTrue a X.env whole=(do let v <-whole;standAt a.pos;holding [v] (truthy v))) :
  PT X a (λσ H Q=>ta σ H λx H'=>∃k,AB X.K x H' k/\Q k H'):=by
 intro d s σ H Q I h;exact isTrue_plain (bB (ha d s σ H _ I h) λv s1 ⟨x,H1,I1,e,f⟩=>Gd d s1 σ H1 x v Q I1 e f) (he _)
def vP:dz X (binaryOp .Add) (λx y H Q=>∃i j,x=.str i/\y=.str j/\i.length+j.length<=sizeLine/\Q (.str (i++j)) H):=by
 intro d s σ H x y v u Q I rx ry h;obtain⟨i,j,rfl,rfl,e,q⟩:=h;obtain⟨t,rfl⟩:=rx;obtain⟨f,rfl⟩:=ry;exact add_str (λf g=>⟨.str (i++j),H,I.tok _,⟨_,rfl⟩,q⟩) e
def vals1{x:V}{us:List Value}(r:Vals [x] us):∃u,us=[u]/\RelV x u:=by
 cases r with
 |cons d e=>cases e;exact⟨_,rfl,d⟩
def vals2{x y:V}{us:List Value}(r:Vals [x,y] us):∃u w',us=[u,w']/\RelV x u/\RelV y w':=by
 cases r with
 |cons d e=>
  cases e with
  |cons f g=>cases g;exact⟨_,_,rfl,d,f⟩
def xU (hc:X.calm=true):ee X (.builtin "min") (λxs H Q=>∃i j,xs=[.int i,.int j]/\Q (.int (if j<i then j else i)) H):=by
 intro e s σ H xs us Q I r h;obtain⟨i,j,rfl,q⟩:=h;obtain⟨u,f,rfl,⟨t,rfl⟩,⟨g,rfl⟩⟩:=vals2 r;refine min_two_ints (I.ok.hd hc) λl o k=>⟨_,H,I.kept k,?_,q⟩
 by_cases d:j<i
 .rw[gQ d,gQ d];exact⟨_,rfl⟩
 .rw[R0 d,R0 d];exact⟨_,rfl⟩
end
structure AE(h:Heap)(x dx C:Addr)(mA:Str->Option Value):Prop where
 obj:h.get? x=some (PySem.W.instObj C dx)
 ns:h.Ns1 dx mA
 ne:dx≠x
def xV{h:Heap}{dx:Addr}{mA:Str->Option Value}(n:h.Ns1 dx mA):∃od,h.get? dx=some od/\∀name,PySem.W.lookIn name od=some (mA name):=by
 obtain⟨o,c,p,d,f,g,_,i⟩:=n;refine⟨o,d,λname=>?_⟩;have e:=i name;unfold nsFind findBy at e;rw[<-Array.find?_toList]at e;unfold PySem.W.lookIn;rw[f];dsimp only;split
 .rename_i y q;rw[q]at e;exact R8 some e
 .rename_i q;rw[q]at e;have a:c.toList.any (·.refKey)=false:=by
   rw[List.any_eq_false];intro y j;obtain⟨z,t,b⟩:=g y (Array.mem_toList_iff.mp j);simp[DictEntry.refKey,b]
  have l:¬ c.toList.any (·.refKey)=true:=by rw[a];exact Tg
  rw[R0 l];exact R8 some e
def AE.look{h:Heap}{x dx C:Addr}{mA:Str->Option Value}(I:AE h x dx C mA):∃od,PySem.W.InstAt h x (PySem.W.instObj C dx) C (some od)/\∀name,PySem.W.lookIn name od=some (mA name):=
 let ⟨od,ho,hl⟩:=xV I.ns
 ⟨od,⟨I.obj,rfl,rfl,ho⟩,hl⟩
section
variable{P:Program}{w:World}{H:Hp}{h:Heap}{a C dx:Addr}{fs:List (Str×V)}
def Du(hok:dX P w H h)(e:H a=some (.ins C dx fs)):∃mA,AE h a dx C mA/\(∀f,nq (fs.lookup f) (mA f))/\PySem.Within mA (fs.map (·.1))/\fs.length<=1000/\H dx=some (.own a):=by
 obtain⟨d,z,b,c,mA,n,r,q⟩:=(show b7 P w H h a (.ins C dx fs)from hok a _ e)
 exact⟨mA,⟨c,n,b⟩,r,q,z,d⟩
end
structure Ge(K:PySem.W.Frag)(C:Addr):Prop where
 pg:PySem.W.plainGet K C Str.empty=true
 hd:PySem.W.hasDictIn K C=true
 po:PySem.W.plainOver K C=true
 sa:PySem.W.findIn K (.ref C) "__setattr__" = some (some (.builtin "object.__setattr__"))
def Ge.get{K:PySem.W.Frag}{C:Addr}(c:Ge K C)(f:Str):PySem.W.plainGet K C f=true:=c.pg
section
variable{X:Cx}{pins:List (Addr×Obj)}{σ:St}{H:Hp}{s:Shared}{A:Around}{E:Value->Shared->Prop}{Q:Value->Shared->Prop}{c:Value}{b:Bool}
inductive iG(K:PySem.W.Frag)(H:Hp):V->Value->Prop where
 |aY:iG K H .aY (.type "NoneType")
 |bl (x:Bool):iG K H (.bl x) (.type "bool")
 |int (i:Int):iG K H (.int i) (.type "int")
 |str (x:Str):iG K H (.str x) (.type "str")
 |uu (x:UInt64):iG K H (.uu x) (.type "float")
 |lst {a:Addr} {xs:List V} (e:H a=some (.lst xs)):iG K H (.ref a) (.type "list")
 |bz {a:Addr} {o:Obj} {xs:List V} (e:H a=some (.bz o (.lst xs))):iG K H (.ref a) (.type "list")
 |tup {a:Addr} {xs:List V} (e:H a=some (.tup xs)):iG K H (.ref a) (.type "tuple")
 |dK {a:Addr} {kvs:List (Key×V)} (e:H a=some (.dK kvs)):iG K H (.ref a) (.type "dict")
 |dT {a:Addr} {kvs:List (List Key×V)} (e:H a=some (.dT kvs)):iG K H (.ref a) (.type "dict")
 |ins {a C dx:Addr} {fs:List (Str×V)} (e:H a=some (.ins C dx fs)) (cl:Ge K C) (ha:PySem.W.findIn K (.ref C) "__class__" = some (some (.builtin "object.__class__")))
   (hn:PySem.W.specialIn K (.builtin "object.__class__") "__get__" = some (some (.builtin "getset_descriptor.__get__"))) (htk:PySem.W.takesIn K (.builtin "object.__class__")=some true)
   (hm:PySem.W.mroIn K C (.type "object")=some true):iG K H (.ref a) (.ref C)
def ir{x:V}{u t:Value}(I:Inv X pins σ H s)(rx:RelV x u)(ty:iG X.K H x t)(e:PySem.W.kitOne X.K t c=some b)(h:∀tk,Q (.bool b) { s with toks:=tk }) :
  wpAny (model X.prog X.w) A (call (.builtin "isinstance") [u,c]) Q E s:=by
 cases ty with
 |aY=>cases (show u=Value.none from rx);exact PySem.W.kia_one PySem.W.kitx_none I.fT True.intro e (λz=>nomatch z) h
 |bl y=>cases (show u=Value.bool y from rx);exact PySem.W.kia_one PySem.W.kitx_bool I.fT True.intro e (λz=>nomatch z) h
 |int i=>obtain⟨t,q⟩:=(show ∃t,u=Value.int i t from rx);cases q;exact PySem.W.kia_one PySem.W.kitx_int I.fT True.intro e (λz=>nomatch z) h
 |str y=>obtain⟨t,q⟩:=(show ∃t,u=Value.str y t from rx);cases q;exact PySem.W.kia_one PySem.W.kitx_str I.fT True.intro e (λz=>nomatch z) h
 |uu y=>obtain⟨t,q⟩:=(show ∃t,u=Value.float y t from rx);cases q;exact PySem.W.kia_one PySem.W.kitx_float I.fT True.intro e (λz=>nomatch z) h
 |@lst a j d=>
  cases (show u=Value.ref a from rx);obtain⟨_,_,n,_,f⟩:=(show b7 X.prog X.w H s.heap a (.lst j)from I.hok a _ d)
  exact PySem.W.kia_one PySem.W.kitx_list I.fT ⟨_,f,rfl⟩ e (λz=>nomatch z) h
 |@bz a F j d=>
  cases (show u=Value.ref a from rx);obtain⟨_,_,_,n,_,f⟩:=(show b7 X.prog X.w H s.heap a (.bz F (.lst j))from I.hok a _ d)
  exact PySem.W.kia_one PySem.W.kitx_list I.fT ⟨_,f,rfl⟩ e (λz=>nomatch z) h
 |@tup a j d=>
  cases (show u=Value.ref a from rx);obtain⟨_,_,_,p⟩:=(show b7 X.prog X.w H s.heap a (.tup j)from I.hok a _ d)
  obtain⟨o,f,l,_⟩:=p;exact PySem.W.kia_one PySem.W.kitx_tuple I.fT ⟨o,f,l⟩ e (λz=>nomatch z) h
 |@dK a g d=>
  cases (show u=Value.ref a from rx);obtain⟨_,_,Y,_,p⟩:=(show b7 X.prog X.w H s.heap a (.dK g)from I.hok a _ d)
  obtain⟨o,G,L,f,l,_⟩:=p;exact PySem.W.kia_one PySem.W.kitx_dict I.fT ⟨o,f,l.1⟩ e (λz=>nomatch z) h
 |@dT a g d=>
  cases (show u=Value.ref a from rx);obtain⟨_,_,j,_,o,G,L,f,l,_⟩:=(show b7 X.prog X.w H s.heap a (.dT g)from I.hok a _ d)
  exact PySem.W.kia_one PySem.W.kitx_dict I.fT ⟨o,f,l.1⟩ e (λz=>nomatch z) h
 |@ins a C Z fs d B M N r P=>
  cases (show u=Value.ref a from rx);obtain⟨mA,O,_⟩:=Du I.hok d;obtain⟨od,J,_⟩:=O.look;exact PySem.W.kia_one (PySem.W.kitx_own (B.get _) B.hd M N r P) I.fT J e (λz=>nomatch z) h
end
structure eW(k:Nat)(A:Around):Prop where
 hd:A.handled=none
 dp:A.depth+3*k+5<recursionLimit
 un:A.units+16*k+200<cLine
theorem eW.deeper{k:Nat}{A:Around}(r:eW (k+1) A)(env:Env):eW k (A.deeper env):=
 ⟨r.hd,by have:=r.dp;show A.depth+1+3*k+5<_;omega,by have:=r.un;show A.units+3+16*k+200<_;omega⟩
theorem eW.depth{k:Nat}{A:Around}(r:eW k A):A.depth<recursionLimit:=by have:=r.dp;omega
theorem eW.units{k:Nat}{A:Around}(r:eW k A):A.units+64<cLine:=by have:=r.un;omega
noncomputable def NS:TA:=λ_ H Q=>Q [] H
noncomputable def K7(ta:TE)(tr:TA):TA:=λσ H Q=>ta σ H λx H1=>tr σ H1 λa H2=>Q (x :: a) H2
section
variable{X:Cx}{e:Expr}{es:List Expr}{te:TE}{t:TA}{pos:Pos}
def gi:PA X [] NS:=λ_ _ _ _ H Q I h=>UQ ⟨[],H,I,.nil,h⟩
def dO(ha:PE X e te)(hr:PA X es t)(hs:starEach (e :: es) X.env=(false,eval e X.env) :: starEach es X.env:=by rfl):PA X (e :: es) (K7 te t):=by
 intro pos a s σ H Q I h;rw[hs];show wpAny _ _ (spliced ((false,eval e X.env) :: backTo pos (starEach es X.env))) _ _ s;refine Uj (bB (ha a s σ H _ I h) λu s1 ⟨x,H1,I1,b,c⟩=>?_);exact bB (hr pos a s1 σ H1 _ I1 c) λi s2 ⟨d,H2,I2,f,g⟩=>⟨x :: d,H2,I2,.cons b f,g⟩
noncomputable def NT(t:TA):TE:=λσ H Q=>t σ H λa H1=>a.length<=sizeLine/\∀p,H1 p=none->Q (.ref p) (upd H1 p (.tup a))
noncomputable def NU(t:TA):TE:=λσ H Q=>t σ H λa H1=>a.length<=sizeLine/\∀p,H1 p=none->Q (.ref p) (upd H1 p (.lst a))
def Gf{x1}(h:PA X es t):PE X (.Tuple es x1 pos) (NT t):=by
 intro a s σ H Q I hq;refine wpAny_Tuple_spliced (bB (h pos a s σ H _ I hq) λc s1 ⟨d,H1,I1,r,z,q⟩=>⟨by rw[<-r.length];exact z,?_⟩);have f:H1 s1.heap.objs.size=none:=I1.hok.fresh (oM _);refine⟨.ref s1.heap.objs.size,upd H1 s1.heap.objs.size (.tup d),I1.laid (t':=s1.toks) (λb u e=>RT _ e) (oM _) ?_,rfl,q _ f⟩;exact⟨z,c,r,⟨_,Sb _ rfl,rfl,_,rfl⟩⟩
def Gg(h:PA X es t):PE X (.List es pos) (NU t):=by
 intro a s σ H Q I hq;refine wpAny_List_spliced (bB (h pos a s σ H _ I hq) λc s1 ⟨d,H1,I1,r,z,q⟩=>⟨by rw[<-r.length];exact z,?_⟩);have f:H1 s1.heap.objs.size=none:=I1.hok.fresh (oM _);refine⟨.ref s1.heap.objs.size,upd H1 s1.heap.objs.size (.lst d),I1.laid (t':=s1.toks) (λb u e=>RT _ e) (oM _) ?_,rfl,q _ f⟩;exact⟨z,c,0,r,Sb _ rfl⟩
end
abbrev Sp:=List V->Hp->VK->XK->Prop
abbrev kL:=List Env->Hp->Shared->XK->Value->Shared->Prop
structure vQ(P:Program)(w:World)(K:PySem.W.Frag)(mg:Str->Option Value)(base:Heap)(A:Around)(outer:List Env)(s:Shared)(H:Hp):Prop where
 frames:A.frames=some outer
 mod:Mod K mg base
 bs:∀b o,base.get? b=some o->s.heap.get? b=some o/\H b=none
 qg:base.objs.size<=s.heap.objs.size
 iF:s.heap.FunFrames base outer
 rz:∀b∈frs outer,H b=none
 hok:dX P w H s.heap
 bare:AllBare s.gens
def CE(outer:List Env)(P:Program)(w:World)(H:Hp)(s:Shared)(Q:VK)(u:Value)(s':Shared):Prop:=
 ∃v H',s'.os=s.os/\AllBare s'.gens/\Un (frs outer) [] H H' s.heap s'.heap/\dX P w H' s'.heap/\RelV v u/\Q v H'
def CR(CX:kL)(outer:List Env)(P:Program)(w:World)(H:Hp)(s:Shared)(Q:VK)(E:XK)(r:Result)(s':Shared):Prop:=
 match r with
 |.ok (.ret u)=>CE outer P w H s Q u s'
 |.ok _=>False
 |.error e=>CX outer H s E e s'
structure gK(P:Program)(w:World)(K:PySem.W.Frag)(mg:Str->Option Value)(base:Heap)(CX:kL)(k:Nat)(f:Addr)(fd:FuncData)(ps:List Str)(sp:Sp):Prop where
 len:∀vs H Q E,sp vs H Q E->vs.length=ps.length
 run:∀(A:Around) (outer:List Env) (s:Shared) (H:Hp) (args:Args) (us:List Value) (vs:List V) (Q:VK) (E:XK),eW k A->vQ P w K mg base A outer s H->BindsTo s fd args (ps.zip us)->Vals vs us->sp vs H Q E->
  codeAny (model P w) A (.call (.ref f) args) (CR CX outer P w H s Q E) s
section
variable{X:Cx}{pins:List (Addr×Obj)}{σ:St}{H:Hp}{s s':Shared}
def Inv.NV(I:Inv X pins σ H s):vQ X.prog X.w X.K X.mg X.base X.A X.stack s H:=
 ⟨I.ok.frames,I.ok.mod,I.bs,Sa I.ok.qg I.sz,I.stack,I.uy,I.hok,I.bare⟩
def Inv.after{Q:VK}{u:Value}(I:Inv X pins σ H s)(h:CE X.stack X.prog X.w H s Q u s'):EP X pins σ Q u s':=by
 obtain⟨v,H',f,a,un,c,r,q⟩:=h;obtain⟨i,g,d,t,e⟩:=s';obtain rfl:e=s.os:=f;exact⟨v,H',I.call (h':=i) (g':=g) (d':=d) (t':=t) (ch:=[]) un c a (λb z=>absurd z (by simp)),r,q⟩
end
noncomputable def K8(sp:Sp)(iu:List V)(E:XK)(t:TA):TE:=λσ H Q=>t σ H λa H1=>sp (a++iu) H1 Q E
def Binds(K:PySem.W.Frag)(fd:FuncData)(ps:List Str)(ds:List Value):Prop:=
 ∀(s:Shared) (us:List Value),K.In s.heap->(us++ds).length=ps.length->BindsTo s fd ⟨us,[]⟩ (ps.zip (us++ds))
def Binds.all{K:PySem.W.Frag}{fd:FuncData}{ps:List Str}(h:∀us:List Value,us.length=ps.length->bindArgs fd ⟨us,[]⟩=pure (ps.zip us)):Binds K fd ps []:=λs us _ a=>by
 rw[Sx]at a ⊢;exact .of_eq (h us a)
def Passes(CX:kL)(X:Cx)(E:XK):Prop:=∀(pins:List (Addr×Obj)) (σ:St) (H:Hp) (s:Shared) (e:Value) (s':Shared),Inv X pins σ H s->CX X.stack H s E e s'->X.xe e s'
section
variable{X:Cx}{CX:kL}{k:Nat}{f:Addr}{fd:FuncData}{ps:List Str}{sp:Sp}{iu:List V}{ds:List Value}{E:XK}{x:Str}{p pos:Pos}{e:Expr}{es:List Expr}{t:TA}
def Gh{pins:List (Addr×Obj)}{σ:St}{H:Hp}{s:Shared}{Q:VK}{us:List Value}{vs:List V}(F:gK X.prog X.w X.K X.mg X.base CX k f fd ps sp)(hr:eW k X.A)(hb:Binds X.K fd ps ds)(hd:Vals iu ds)(hx:Passes CX X E)
  (I:Inv X pins σ H s) (r:Vals vs us) (h:sp (vs++iu) H Q E):wpAny (model X.prog X.w) X.A (call (.ref f) us) (EP X pins σ Q) X.xe s:=by
 have b:Vals (vs++iu) (us++ds):=r.append hd;have c:(us++ds).length=ps.length:=by rw[<-b.length];exact F.len _ _ _ _ h
 refine wpAny_call (UX (F.run X.A X.stack s H ⟨us,[]⟩ (us++ds) (vs++iu) Q E hr I.NV (hb s us I.fT c) b h) λr d a=>?_);cases r with
 |error e=>exact hx pins σ H s e d I a
 |ok fl=>
  cases fl with
  |ret u=>exact I.after a
  |next=>exact False.elim a
  |brk=>exact False.elim a
  |cont=>exact False.elim a
def Dv(F:gK X.prog X.w X.K X.mg X.base CX k f fd ps sp)(hr:eW k X.A)(hg:Gl X x)(hm:X.mg x=some (.ref f))(hk:PySem.W.keepIn X.K (.ref f)=true)(hb:Binds X.K fd ps ds)(hd:Vals iu ds)(hx:Passes CX X E)
  (ha:PA X (e :: es) t) (hdb:(x==("__debug__" : Str))=false:=by decide) (he:starEach (e :: es) X.env=(false,eval e X.env) :: starEach es X.env:=by rfl) (hpl:(backTo pos (starEach es X.env)).any (·.1)=false:=by rfl) :
  PE X (.Call (.Name x p) (e :: es) [] pos) (K8 sp iu E t):=by
 intro a s σ H Q I h;refine TV (Dj I hg hm ?_ hdb);refine UJ (h₀:=X.base) I.ok.mod.BY hk (bB (ha pos a s σ H _ I h) λb s1 ⟨c,H1,I1,r,q⟩=>⟨I1.fT,?_⟩) he hpl;exact Gh F hr hb hd hx I1 r q
end
structure bE(N P:List Str)(sc:Scope):Prop where
 kind:sc.kind=.function
 co:sc.isCoroutine=false
 gen:sc.isGenerator=false
 nd:N.Nodup
 pre:N.take P.length=P
 par:∀x∈P,sc.names.lookup x=some .local\/sc.names.lookup x=some .cell
 Gi:∀y∈sc.names,y.2≠.free
theorem ql{kindOf:Str->Option NameKind}{x:Str}:∀{binds:List (Str×Value)}{m:Str->Option Value},(∀v,(x,v)∉binds)->bindL kindOf binds m x=m x
 |[],_,_=>rfl
 | (n,v) :: r,m,h=>by
  unfold bindL;rw[ql λw a=>h w (R9 _ a)];split
  .have:x≠n:=by rintro rfl;exact h v Sn
   simp[this]
  .rfl
theorem qm{kindOf:Str->Option NameKind}{x:Str}:∀{binds:List (Str×Value)}{m:Str->Option Value},(∀v,(x,v)∉binds)->bindC kindOf binds m x=m x
 |[],_,_=>rfl
 | (n,v) :: r,m,h=>by
  unfold bindC;rw[qm λw a=>h w (R9 _ a)];split
  .rfl
  .have:x≠n:=by rintro rfl;exact h v Sn
   simp[this]
theorem qo{kindOf:Str->Option NameKind}{x:Str}{v:Value}:∀{P:List Str}{vs:List Value}{i:Nat}{m:Str->Option Value},P.Nodup->P[i]?=some x->vs[i]?=some v->kindOf x=some .local->
  bindL kindOf (P.zip vs) m x=some v
 |[],_,_,_,_,h,_,_=>by simp at h
 |_ :: _,[],_,_,_,_,h,_=>by simp at h
 |p :: P,w :: vs,0,m,nd,h1,h2,hk=>by
  simp at h1 h2;subst h1;subst h2;show bindL kindOf ((p,w) :: P.zip vs) m p=_;unfold bindL;rw[ql λv a=>(List.nodup_cons.mp nd).1 (Vc a).1,gQ hk];simp
 |p :: P,w :: vs,i+1,m,nd,h1,h2,hk=>by
  show bindL kindOf ((p,w) :: P.zip vs) m x=_;unfold bindL;exact qo (i:=i) (List.nodup_cons.mp nd).2 (by simpa using h1) (by simpa using h2) hk
theorem qp{kindOf:Str->Option NameKind}{x:Str}{v:Value}:∀{P:List Str}{vs:List Value}{i:Nat}{m:Str->Option Value},P.Nodup->P[i]?=some x->vs[i]?=some v->kindOf x≠some .local->
  bindC kindOf (P.zip vs) m x=some v
 |[],_,_,_,_,h,_,_=>by simp at h
 |_ :: _,[],_,_,_,_,h,_=>by simp at h
 |p :: P,w :: vs,0,m,nd,h1,h2,hk=>by
  simp at h1 h2;subst h1;subst h2;show bindC kindOf ((p,w) :: P.zip vs) m p=_;unfold bindC;rw[qm λv a=>(List.nodup_cons.mp nd).1 (Vc a).1,R0 hk];simp
 |p :: P,w :: vs,i+1,m,nd,h1,h2,hk=>by
  show bindC kindOf ((p,w) :: P.zip vs) m x=_;unfold bindC;exact qp (i:=i) (List.nodup_cons.mp nd).2 (by simpa using h1) (by simpa using h2) hk
noncomputable def start(N:List Str)(vs:List V):St:=vs.map some++List.replicate (N.length - vs.length) none
noncomputable def nv(CX:kL)(P:Program)(w:World)(K:PySem.W.Frag)(mg:Str->Option Value)(base:Heap)(N:List Str)(qual:Str)(scope:Scope)(f:Addr)(cd:Value)(A:Around)(outer:List Env)(s:Shared)(H:Hp)(E:XK):Cx where
 prog:=P
 w:=w
 K:=K
 mg:=mg
 base:=base
 A:=A.deeper (envOfC qual scope s.heap.objs.size f cd)
 N:=N
 s₀:=s
 H₀:=H
 env:=envOfC qual scope s.heap.objs.size f cd
 outer:=outer
 stack:=envOfC qual scope s.heap.objs.size f cd :: outer
 ex:=[]
 calm:=true
 fn:=λ_=>true
 pn:=[]
 xe:=λe b=>wpAny (model P w) (A.deeper (envOfC qual scope s.heap.objs.size f cd)) (leaving (envOfC qual scope s.heap.objs.size f cd) e) (λ_ a=>CX outer H s E e a) (λc a=>CX outer H s E c a) b
def rF{sc:Scope}{n:Nat}{x:Str}(h:sc.names.lookup x=some .cell):∃c,(cellsFrom n sc.names []).lookup x=some c:=by
 have q:=Ve sc.names n [] (.inl h);exact Option.isSome_iff_exists.mp q
def xW{CX:kL}{P:Program}{w:World}{K:PySem.W.Frag}{mg:Str->Option Value}{base:Heap}{N ps:List Str}{qual:Str}{scope:Scope}{f:Addr}{cd:Value}{A:Around}{outer:List Env}{s s1:Shared}{H:Hp}{E:XK}{us:List Value}{vs:List V}
  (S:bE N ps scope) (hd:A.handled=none) (e0:vQ P w K mg base A outer s H) (hl:vs.length=ps.length) (r:Vals vs us)
  (x:InCallC s s.heap.objs.size (bindL (envOfC qual scope s.heap.objs.size f cd).kindOf (ps.zip us) λ_=>none) (cellsFrom (s.heap.objs.size+1) scope.names []) (bindC (envOfC qual scope s.heap.objs.size f cd).kindOf (ps.zip us) λ_=>none) s1) :
  Inv (nv CX P w K mg base N qual scope f cd A outer s H E) [] (start N vs) H s1:=by
 have G:ps.length<=N.length:=by have:=R8 List.length S.pre;rw[S9]at this;omega
 obtain⟨l,J,rfl,C⟩:=x.done;have B:∀b:Addr,b∉(nv CX P w K mg base N qual scope f cd A outer s H E).ex:=λb z=>absurd (show b∈([]:List Addr)from z) (by simp);refine⟨⟨e0.mod,S.kind,rfl,rfl,oM _,λy z c l d=>?_,λy g=>?_,λy c _ h=>?_,λ_=>hd,Around.frames_deeper e0.frames,.inr ⟨rfl,rfl⟩,λb z=>absurd z (B b),e0.bs,e0.qg,λb _ _=>B b,λb z=>absurd z (B b),e0.iF,e0.rz⟩,
  rfl,e0.bare,Un.kept C,⟨_,x.toInCall.ns,λi y v l d L=>?_⟩,λy c h=>⟨_,x.cell y c h⟩,e0.hok.fresh (oM _),λy c h=>?_,λp j=>absurd (show p∈([]:List (Addr×Obj))from j) (by simp),e0.hok.kept C,?_⟩
 .exact name_of_addr x.apart (TF l) (TF d)
 .have g:scope.names.lookup y=some .cell\/scope.names.lookup y=some .free:=g;rcases g with g|g
  .exact rF g
  .exact absurd rfl (S.Gi _ (TF g))
 .exact UY (x.above y c (TF h))
 .have o:i<vs.length:=by
   unfold start at d;by_cases o:i<vs.length
   .exact o
   .rw[Sj (by simpa using o)]at d;rw[U9]at d;split at d<;>cases d
  have I:vs[i]?=some v:=by
   unfold start at d;rw[gE (by simpa using o),Su]at d;cases e:vs[i]? with
   |none=>rw[e]at d;cases d
   |some a=>rw[e]at d;cases d;rfl
  obtain⟨u,F,rv⟩:=r.get I;have j:ps[i]?=some y:=by
   rw[<-S.pre,List.getElem?_take_of_lt (by omega)];exact l
  have MD:ps.Nodup:=by rw[<-S.pre];exact S.nd.sublist (List.take_sublist _ _)
  refine⟨u,rv,?_⟩;rcases S.par y (RX j)with k|k
  .exact .inl ⟨k,qo MD j F k⟩
  .obtain⟨c,e⟩:=rF (n:=s.heap.objs.size+1) k;refine .inr ⟨.inl k,c,e,?_⟩;have q:=x.cell y c e;rw[qp MD j F (by show scope.names.lookup y≠_;rw[k];decide)]at q;exact q
 .exact e0.hok.fresh (UY (x.above y c (TF h)))
 .unfold start;show _=N.length;rw[R1,Se,Uy];omega
def K9{CX:kL}{P:Program}{w:World}{K:PySem.W.Frag}{mg:Str->Option Value}{base:Heap}{k:Nat}{f:Addr}{name qual:Str}{params:Arguments}{body:List Stmt}{scope:Scope}{dV kV doc pm cdv ct oc:Value}{an od:Option Addr}
  {osl:Array (Option Value)} {N ps:List Str} {sp:Sp} (lk:K.lookup f=some ⟨oc,od,.func (PySem.W.fnOf name qual params body scope dV kV doc pm an cdv ct),osl⟩) (hcd:PySem.W.codeIn K cdv qual=true) (S:bE N ps scope)
  (len:∀vs H Q E,sp vs H Q E->vs.length=ps.length)
  (hbody:∀(A:Around) (outer:List Env) (s:Shared) (H:Hp) (vs:List V) (Q:VK) (E:XK),eW k (A.deeper (envOfC qual scope s.heap.objs.size f cdv))->sp vs H Q E->
   ∃t,gI (nv CX P w K mg base N qual scope f cdv A outer s H E) body t/\t { nx:=λ_ H'=>Q .aY H',rt:=Q } (start N vs) H) :
  gK P w K mg base CX (k+1) f (PySem.W.fnOf name qual params body scope dV kV doc pm an cdv ct) ps sp:=by
 refine⟨len,λA outer s H args p vs Q E h d z r l=>?_⟩;have B:=len _ _ _ _ l;have KX:K.In s.heap:=d.mod.BY.keeps λb o e=>(d.bs b o e).1;have i:s.heap.NoLimit:=d.mod.nolimit.keeps λb o e=>(d.bs b o e).1;have a:∀y∈ps.zip p,scope.names.lookup y.1=some .local\/(scope.names.lookup y.1=some .cell/\((cellsFrom (s.heap.objs.size+1) scope.names []).lookup y.1).isSome=true):=λ⟨n,v⟩ C=>by
  rcases S.par n (Vc C).1 with q|q
  .exact .inl q
  .exact .inr ⟨q,Ve _ _ _ (.inl q)⟩
 refine codeAny_call_function h.depth (KX _ _ lk) rfl S.co S.gen rfl (PySem.W.codeRec_of KX hcd) (z _ _ _ _ ?_);refine wpAny_newFunctionEnv_cells S.kind a λF G s1 x=>?_;subst G;refine⟨i.keeps x.toInCall.keep,codeAny_func ?_⟩;obtain⟨t,L,M⟩:=hbody A outer s H vs Q E (h.deeper _) l;have I:Inv (nv CX P w K mg base N qual scope f cdv A outer s H E) [] (start N vs) H s1:=xW S h.hd d B r x;refine SJ (L [] s1 (start N vs) H _ I M) (λfl j c=>?_) λe j c=>c;have fin:∀{g:St} {H':Hp} {v:V} {u:Value},Inv (nv CX P w K mg base N qual scope f cdv A outer s H E) [] g H' j->RelV v u->Q v H'->CE outer P w H s Q u j:=
  λ{g H' v u} J rv q=>⟨v,H',J.os,J.bare,J.base,J.hok,rv,q⟩
 cases fl with
 |ret u=>
  obtain⟨v,g,H',J,rv,q⟩:=c;exact fin J rv q
 |next=>
  obtain⟨g,H',J,q⟩:=c;exact fin (v:=V.aY) (u:=Value.none) J rfl q
 |brk=>
  obtain⟨_,_,_,q⟩:=c;exact False.elim q
 |cont=>
  obtain⟨_,_,_,q⟩:=c;exact False.elim q
section
variable{X:Cx}{x:Str}{p pos:Pos}{e:Expr}{es:List Expr}{t:TA}{id T:String}{r:List V->Hp->VK->Prop}
noncomputable def Gj(r:List V->Hp->VK->Prop)(t:TA):TE:=λσ H Q=>t σ H λa H1=>r a H1 Q
def rG (hc:ee X (.builtin id) r) (hg:Gl X x) (hm:X.mg x=none) (hv:bootBuiltins x=some (.builtin id)) (ha:PA X (e :: es) t) (hn:x≠"__name__" :=by decide) (hdb:(x==("__debug__" : Str))=false:=by decide)
  (he:starEach (e :: es) X.env=(false,eval e X.env) :: starEach es X.env:=by rfl) (hpl:(backTo pos (starEach es X.env)).any (·.1)=false:=by rfl):PE X (.Call (.Name x p) (e :: es) [] pos) (Gj r t):=by
 intro a s σ H Q I h;refine TV (eg I hg hm hv ?_ hn hdb);exact PyProof.Rows.callWith_builtin1 (bB (ha pos a s σ H _ I h) λb s1 ⟨c,H1,I1,d,f⟩=>hc a s1 σ H1 c b Q I1 d f) he hpl
def kZ (hc:ee X (.type T) r) (hg:Gl X x) (hm:X.mg x=none) (hv:bootBuiltins x=some (.type T)) (ha:PA X (e :: es) t) (hn:x≠"__name__" :=by decide) (hdb:(x==("__debug__" : Str))=false:=by decide)
  (he:starEach (e :: es) X.env=(false,eval e X.env) :: starEach es X.env:=by rfl) (hpl:(backTo pos (starEach es X.env)).any (·.1)=false:=by rfl):PE X (.Call (.Name x p) (e :: es) [] pos) (Gj r t):=by
 intro a s σ H Q I h;refine TV (eg I hg hm hv ?_ hn hdb);exact Th (bB (ha pos a s σ H _ I h) λb s1 ⟨c,H1,I1,d,f⟩=>hc a s1 σ H1 c b Q I1 d f) he hpl
end
end L2
namespace HT
open PySem PyProof.Rows
section
variable{prog:Program}{w:World}{A:Around}{E:Value->Shared->Prop}{s:Shared}
def Dw{t b:Addr}{vs ws:List Value}{Q:Value->Shared->Prop}(ht:IsTup s.heap t vs.toArray)(hb:IsTup s.heap b ws.toArray)(hv:vs≠[])
  (h1:ws=[]->Q (.ref t) s) (h2:ws≠[]->Q (.ref s.heap.objs.size) { s with heap:=s.heap.push { cls:=.type "tuple",data:=.seq (vs++ws).toArray }})
  (hsz:vs.length+ws.length<=sizeLine):wpAny (model prog w) A (binaryOp .Add (.ref t) (.ref b)) Q E s:=by
 obtain⟨⟨cls,l,data,o⟩,h,p,n,q⟩:=id ht;obtain⟨⟨NW,c,j,d⟩,a,f,n2,g⟩:=id hb;simp only at p q f g;subst p q f g;have e:vs.toArray++ws.toArray=(vs++ws).toArray:=by simp
 by_cases i:ws=[]
 .exact VD ⟨_,h,rfl⟩ ⟨_,a,rfl⟩ U0 Vw Ut Up (Ul _ _)
   (tuple_addW1 t b vs.toArray ws.toArray n n2 l c o d (by simpa using hv) (by simp[i])) ⟨h,a,h1 i⟩
 .refine VD ⟨_,h,rfl⟩ ⟨_,a,rfl⟩ U0 Vw Ut Up (Ul _ _)
   (tuple_addW2 t b vs.toArray ws.toArray n n2 l c o d (by simpa using hv) (by simpa using i) (by rw[RY,RY];exact hsz)) ⟨h,a,?_⟩
  rw[e];exact h2 i
noncomputable def aI(n d:Nat):Option Int->Nat
 |none=>d
 |some v=>if v<0 then (v+(n:Int)).toNat else min v.toNat n
def rH(n d:Nat)(hd:d<=n)(o:Option Int):aI n d o<=n:=by
 cases o with
 |none=>exact hd
 |some v=>
  show(if v<0 then (v+(n:Int)).toNat else min v.toNat n)<=n;by_cases a:v<0
  .rw[gQ a];omega
  .rw[R0 a];exact Nat.min_le_right _ _
def uC(v:Int)(n d:Nat):(if v<0 then max (v+(n:Int)) 0 else min v (n:Int))=((aI n d (some v):Nat):Int):=by
 show(if v<0 then max (v+(n:Int)) 0 else min v (n:Int))=(((if v<0 then (v+(n:Int)).toNat else min v.toNat n):Nat):Int)
 by_cases a:v<0
 .simp only[gQ a];omega
 .simp only[R0 a];omega
def vR(lo hi:Option Int)(n:Nat):Builtin.Slice.sliceAdjust lo hi 1 (n:Int)=(((aI n 0 lo:Nat):Int),((aI n n hi:Nat):Int)):=by
 have a:¬ ((1:Int)<0):=by omega
 unfold Builtin.Slice.sliceAdjust;simp only[a,SK];refine Prod.ext ?_ ?_
 .cases lo with
  |none=>rfl
  |some v=>exact uC v n 0
 .cases hi with
  |none=>rfl
  |some v=>exact uC v n n
def vS(i j:Nat):Builtin.Slice.slicePlaces (i:Int) (j:Int) 1=j - i:=by
 unfold Builtin.Slice.slicePlaces;have a:(1:Int) > 0:=by omega
 simp only[a,Sf,Int.ediv_one];split<;>omega
def gj{v:Value}{o:Option Int}{Q:Option Int->Shared->Prop}(p:IsPart v o)(h:Q o s):wpAny (model prog w) A (Builtin.Slice.slicePartIndex v) Q E s:=by
 cases p with
 |none=>exact slicePart_none h
 |int i t=>exact slicePart_int h
def iZ{sl:Addr}{vl vu:Value}{lo hi:Option Int}{n:Nat}{Q:Int×Int×Nat->Shared->Prop}(hs:s.heap.IsSliceOf sl vl vu .none)(pl:IsPart vl lo)(pu:IsPart vu hi)
  (h:Q (((aI n 0 lo:Nat):Int),1,aI n n hi - aI n 0 lo) s):wpAny (model prog w) A (Builtin.Slice.sliceApplied (.ref sl) (pure (n:Int))) Q E s:=by
 obtain⟨d,a,c,b⟩:=id hs;unfold Builtin.Slice.sliceApplied Builtin.Slice.sliceFields;refine fB (fB (Tc a b (x:=vl) rfl (fB (Tc a b (x:=vu) rfl (fB (Tc a b (x:=.none) rfl (RW ?_)))))));refine fB (slicePart_none ?_);show wpAny _ _ (if ((1:Int)==0)=true then _ else _) _ _ s;rw[R0 (by decide)];refine fB (gj pl (fB (gj pu (fB (RW ?_)))));show wpAny _ _ (match Builtin.Slice.sliceAdjust lo hi 1 (n:Int)with | (lo,hi)=>pure (lo,(1:Int),Builtin.Slice.slicePlaces lo hi 1)) _ _ s;rw[vR lo hi n];show wpAny _ _ (pure (((aI n 0 lo:Nat):Int),(1:Int),Builtin.Slice.slicePlaces ((aI n 0 lo:Nat):Int) ((aI n n hi:Nat):Int) 1)) _ _ s;rw[vS];exact RW h
def AF(xs:Array Value)(i k:Nat):((List.range k).filterMap λ(m:Nat)=>xs[((i:Int)+(m:Int)*1).toNat]?).toArray=((xs.toList.drop i).take k).toArray:=by
 have e:(λ(m:Nat)=>xs[((i:Int)+(m:Int)*1).toNat]?)=λm=>xs[i+m]?:=by
  funext m
  have:((i:Int)+(m:Int)*1).toNat=i+m:=by omega
  rw[this]
 rw[e];have:=pick_run xs i k;rw[List.filterMap_map]at this;have a:((λx=>xs[x]?) ∘ λx=>i+x)=λm=>xs[i+m]?:=rfl;rw[a]at this;rw[this]
def mT{t sl:Addr}{items:Array Value}{vl vu:Value}{lo hi:Option Int}{Q:Value->Shared->Prop}(ht:IsTup s.heap t items)(hs:s.heap.IsSliceOf sl vl vu .none)(pl:IsPart vl lo)(pu:IsPart vu hi)
  (hw:¬ (aI items.size 0 lo=0/\aI items.size items.size hi=items.size))
  (h:Q (.ref s.heap.objs.size) { s with heap:=s.heap.push { cls:=.type "tuple",data:=.seq ((items.toList.drop (aI items.size 0 lo)).take (aI items.size items.size hi - aI items.size 0 lo)).toArray }})
  (hsz:items.size<=sizeLine):wpAny (model prog w) A (getItem (.ref t) (.ref sl)) Q E s:=by
 have a:sizeOk (.seq ((items.toList.drop (aI items.size 0 lo)).take (aI items.size items.size hi - aI items.size 0 lo)).toArray):=by
  show((items.toList.drop (aI items.size 0 lo)).take (aI items.size items.size hi - aI items.size 0 lo)).toArray.size<=sizeLine;rw[RY,S9,Tz,TJ];omega
 have i:aI items.size items.size hi<=items.size:=rH _ _ (oM _) hi;obtain⟨e,b,c,f⟩:=id hs;have g:s.TypeIs (.ref sl) "slice" :=⟨e,b,c⟩
 unfold getItem;try with_reducible refine UL ?_
 first|refine fB (RW ?_)|skip
 refine fB (wpAny_sequenceKey ht.typeIs (by decide) ?_);refine fB (TL (name:=Str.ofString "__getitem__") ht.typeIs SY
  (S7 SY ht.typeIs entry_tuple_getitem ?_ (args_tuple_getitem _ _)))
 show wpAny _ _ (Builtin.Tuple.tupleItemsOf (.ref t) >>= _) _ _ s;refine fB (tupleItemsOf_ ht ?_);refine fB (UW g ?_);rw[gQ (by decide)];refine fB (iZ hs pl pu ?_);have d:¬ ((((aI items.size 0 lo:Nat):Int)==0&&(1:Int)==1&&(aI items.size items.size hi - aI items.size 0 lo)==items.size)=true):=by
  intro q;rw[iY,iY]at q;have j:((aI items.size 0 lo:Nat):Int)=0:=eq_of_beq q.1.1;have l:aI items.size items.size hi - aI items.size 0 lo=items.size:=eq_of_beq q.2;exact hw ⟨by omega,by omega⟩
 show wpAny _ _ (if (((aI items.size 0 lo:Nat):Int)==0&&(1:Int)==1&&(aI items.size items.size hi - aI items.size 0 lo)==items.size)=true then _ else _) _ _ s;rw[R0 d,AF];first
  |exact fB (m:=Builtin.Tuple.tupleExact _) (SM (RW ⟨_,rfl,RW h⟩) a)
  |exact fB (m:=Builtin.Tuple.tupleExact _) (SM (fB (RW (RW ⟨_,rfl,RW h⟩))) a)
  |exact fB (fB (m:=Builtin.Tuple.tupleExact _) (SM (RW (RW ⟨_,rfl,RW h⟩)) a))
  |exact fB (fB (m:=Builtin.Tuple.tupleExact _) (SM (RW ⟨_,rfl,RW h⟩) a))
end
end HT
namespace L2
open PySem PySem.Spec PyProof.Rows
abbrev TO:=St->Hp->(Option Int->Hp->Prop)->Prop
def PO(X:Cx)(e:Option Expr)(t:TO):Prop:=
 ∀(pins:List (Addr×Obj)) (s:Shared) (σ:St) (H:Hp) (Q:Option Int->Hp->Prop),Inv X pins σ H s->t σ H Q->
  wpAny (model X.prog X.w) X.A (evalPart e X.env) (λu a=>∃o H',Inv X pins σ H' a/\IsPart u o/\Q o H') X.xe s
noncomputable def Dy:TO:=λ_ H Q=>Q none H
noncomputable def La(t:TE):TO:=λσ H Q=>t σ H λx H1=>∃i,x=.int i/\Q (some i) H1
section
variable{X:Cx}{e:Expr}{te:TE}{lo hi:Option Expr}{tl th:TO}{pos p2:Pos}
def Dz:PO X none Dy:=by
 intro a s σ H Q I h;rw[evalPart_none];exact RW ⟨none,H,I,.none,h⟩
def uD(h:PE X e te):PO X (some e) (La te):=by
 intro a s σ H Q I hw;rw[evalPart_some];refine bB (h a s σ H _ I hw) λu s1 ⟨x,H1,I1,b,c⟩=>?_;obtain⟨i,rfl,q⟩:=c;obtain⟨t,rfl⟩:=b;exact⟨some i,H1,I1,.int i t,q⟩
def jP(X:Cx)(r:V->Option Int->Option Int->Hp->VK->Prop):Prop:=
 ∀(pins:List (Addr×Obj)) (s:Shared) (σ:St) (H:Hp) (x:V) (v vl vu:Value) (lo hi:Option Int) (sl:Addr) (Q:VK),Inv X pins σ H s->RelV x v->s.heap.IsSliceOf sl vl vu .none->IsPart vl lo->IsPart vu hi->r x lo hi H Q->
  ∃T id,typeLookup (.type T) "__getitem__" = pure (some (.builtin id))/\s.TypeIs v T/\wpAny (model X.prog X.w) X.A (getItem v (.ref sl)) (EP X pins σ Q) X.xe s
noncomputable def Pj(r:V->Option Int->Option Int->Hp->VK->Prop)(te:TE)(tl th:TO):TE:=λσ H Q=>te σ H λx H1=>tl σ H1 λl H2=>th σ H2 λu H3=>r x l u H3 Q
def AG{r:V->Option Int->Option Int->Hp->VK->Prop}(hr:jP X r)(he:PE X e te)(hl:PO X lo tl)(hu:PO X hi th):PE X (.Subscript e (.Slice lo hi none p2) pos) (Pj r te tl th):=by
 intro a s σ H Q I h;refine Subscript_ (bB (he a s σ H _ I h) λv s1 ⟨x,H1,I1,f,g⟩=>?_);refine wpAny_Slice (bB (hl a s1 σ H1 _ I1 g) λc s2 ⟨l,H2,I2,i,j⟩=>bB (hu a s2 σ H2 _ I2 j) λd s3 ⟨u,H3,I3,o,p⟩=>?_);rw[evalPart_none];refine RW ?_;have I4:Inv X a σ H3 { s3 with heap:=s3.heap.push { cls:=.type "slice",data:=.fields #[c,d,.none]}}:=I3.kept (t':=s3.toks) λb C q=>RT _ q;obtain⟨T,id,y,z,B⟩:=hr a { s3 with heap:=s3.heap.push { cls:=.type "slice",data:=.fields #[c,d,.none]}} σ H3 x v c d l u s3.heap.objs.size Q I4 f (Heap.IsSliceOf.new ..) i o p;show wpAny (model X.prog X.w) X.A (subscriptTail e (.Slice lo hi none p2) v (.ref s3.heap.objs.size)) (EP X a σ Q) X.xe { s3 with heap:=s3.heap.push { cls:=.type "slice",data:=.fields #[c,d,.none]}};exact tail_any (ops:=[.ref s3.heap.objs.size,v]) z y B (by with_unfolding_all rfl)
noncomputable def lg(xs:List V)(lo hi:Option Int):List V:=(xs.drop (HT.aI xs.length 0 lo)).take (HT.aI xs.length xs.length hi - HT.aI xs.length 0 lo)
def mV(xs:List V)(lo hi:Option Int):(lg xs lo hi).length<=xs.length:=by
 unfold lg;rw[S9,Tz];omega
def NX(K:PySem.W.Frag):V->Option Int->Option Int->Hp->VK->Prop:=λx lo hi H Q=>∃a xs,x=.ref a/\cU K H a xs/\
 ¬ (HT.aI xs.length 0 lo=0/\HT.aI xs.length xs.length hi=xs.length)/\∀p,H p=none->Q (.ref p) (upd H p (.tup (lg xs lo hi)))
def Gk:jP X (NX X.K):=by
 intro g s σ H x v vl vu lo hi sl Q I rx hs pl pu h;obtain⟨a,d,rfl,l,p,q⟩:=h;cases rx;obtain⟨f,r,i,j⟩:=I.tuple l;have c:f.toArray.size=d.length:=by rw[RY];exact r.length.symm
 refine⟨"tuple",_,PyProof.Rows.slot_tuple_getitem.lookup,i.typeIs,?_⟩;refine HT.mT i hs pl pu (by rw[c];exact p) ?_ (by rw[c];exact j);rw[c];refine⟨.ref s.heap.objs.size,_,I.laid (t':=s.toks) (o:=.tup (lg d lo hi)) (λb y q=>RT _ q) (oM _) ?_,rfl,q _ (I.hok.fresh (oM _))⟩;exact⟨Sa (mV d lo hi) j,_,(r.drop (HT.aI d.length 0 lo)).take (HT.aI d.length d.length hi - HT.aI d.length 0 lo),IsTup.new _ _⟩
noncomputable def Lb(K:PySem.W.Frag):R2:=λx y H Q=>∃a b xs ys,x=.ref a/\y=.ref b/\cU K H a xs/\cU K H b ys/\xs≠[]/\xs.length+ys.length<=sizeLine/\
 (ys=[]->Q (.ref a) H)/\(ys≠[]->∀p,H p=none->Q (.ref p) (upd H p (.tup (xs++ys))))
def Vals.oW{xs:List V}{us:List Value}(r:Vals xs us):us=[]↔xs=[]:=by
 cases r with
 |nil=>simp
 |cons _ _=>simp
def DA:dz X (binaryOp .Add) (Lb X.K):=by
 intro f s σ H x y v u Q I rx ry h;obtain⟨a,b,j,l,rfl,rfl,p,r,A,g,B,C⟩:=h;cases rx;cases ry;obtain⟨F,d,G,_⟩:=I.tuple p;obtain⟨i,c,p2,_⟩:=I.tuple r;refine HT.Dw G p2 (λz=>A (d.oW.mp z)) (λz=>⟨.ref a,H,I,rfl,B (c.oW.mp z)⟩) (λz=>?_) (by rw[<-d.length,<-c.length];exact g);refine⟨.ref s.heap.objs.size,_,I.laid (t':=s.toks) (o:=.tup (j++l)) (λb J q=>RT _ q) (oM _) ?_,rfl,C (λw=>z (c.oW.mpr w)) _ (I.hok.fresh (oM _))⟩;exact⟨by rw[R1];exact g,_,d.append c,IsTup.new _ _⟩
end
noncomputable def dG(n:Nat)(i:Int):Option Nat:=if 0<=i then (if i<n then some i.toNat else none)else if -(n:Int)<=i then some (i+n).toNat else none
noncomputable def bH{α:Type}(xs:List α)(i:Int):Option α:=(dG xs.length i).bind λj=>xs[j]?
def DB{n:Nat}{i:Int}{j:Nat}(h:dG n i=some j):seqIndex? i n=some j/\j<n/\-(n:Int)<=i/\i<n:=by
 unfold dG at h;by_cases b:0<=i
 .rw[gQ b]at h;by_cases a:i<n
  .rw[gQ a]at h;have e:i.toNat=j:=jC h;exact⟨by rw[seqIndex_of b a,e],by omega,by omega,a⟩
  .rw[R0 a]at h;cases h
 .rw[R0 b]at h;by_cases a:-(n:Int)<=i
  .rw[gQ a]at h;have e:(i+n).toNat=j:=jC h;exact⟨by rw[seqIndex_neg (by omega) a,e],by omega,a,by omega⟩
  .rw[R0 a]at h;cases h
def oX{α:Type}{xs:List α}{i:Int}{v:α}(h:bH xs i=some v):∃j,seqIndex? i xs.length=some j/\xs[j]?=some v/\j<xs.length/\-(xs.length:Int)<=i/\i<xs.length:=by
 unfold bH at h;cases e:dG xs.length i with
 |none=>rw[e]at h;cases h
 |some j=>
  rw[e]at h;obtain⟨a,b,c,d⟩:=DB e;exact⟨j,a,h,b,c,d⟩
def jQ{α:Type}{xs:List α}{j:Nat}{v:α}(h:xs[j]?=some v):bH xs (j:Int)=some v:=by
 have a:j<xs.length:=(List.getElem?_eq_some_iff.mp h).1;have e:dG xs.length (j:Int)=some j:=by
  unfold dG;rw[gQ (by omega),gQ (by omega)];simp
 unfold bH;rw[e];exact h
def uE(b:Expr):Prop:=∀o i,subscripted b false o i=operate [o,i] (getItem o i)
def uF(X:Cx)(r:R2):Prop:=
 ∀(value slice:Expr) (pins:List (Addr×Obj)) (s:Shared) (σ:St) (H:Hp) (x y:V) (v u:Value) (Q:VK),Inv X pins σ H s->RelV x v->RelV y u->r x y H Q->
  subscripted slice false v u=operate [v,u] (getItem v u)->wpAny (model X.prog X.w) X.A (subscriptTail value slice v u) (EP X pins σ Q) X.xe s
def xZ(X:Cx)(id:String)(r:V->List V->Hp->VK->Prop):Prop:=
 ∀(pins:List (Addr×Obj)) (s:Shared) (σ:St) (H:Hp) (x:V) (xs:List V) (v:Value) (us:List Value) (Q:VK),Inv X pins σ H s->RelV x v->Vals xs us->r x xs H Q->
  wpAny (model X.prog X.w) X.A (call (.builtin id) (v :: us)) (EP X pins σ Q) X.xe s
section
variable{X:Cx}{a b:Expr}{ta tb:TE}{pos:Pos}
def Lc{r:R2}(hr:uF X r)(ha:PE X a ta)(hb:PE X b tb)(hs:uE b):PE X (.Subscript a b pos) (xT r ta tb):=by
 intro c s σ H Q I h;exact Subscript_ (Az ha hb I h λv u s2 x y H2 I2 d e q=>hr a b c s2 σ H2 x y v u Q I2 d e q (hs _ _))
noncomputable def NY(K:PySem.W.Frag):R2:=λx y H Q=>∃p xs i v,x=.ref p/\y=.int i/\dm K H p xs/\bH xs i=some v/\Q v H
noncomputable def NZ(K:PySem.W.Frag):R2:=λx y H Q=>∃p xs i v,x=.ref p/\y=.int i/\cU K H p xs/\bH xs i=some v/\Q v H
noncomputable def N1:R2:=λx y H Q=>∃z i c,x=.str z/\y=.int i/\z.length<=sizeLine/\bH z.cps.toList i=some c/\Q (.str ⟨#[c]⟩) H
def DC:uF X (NY X.K):=by
 intro e f c s σ H x y v u Q I rx ry h hs;obtain⟨p,W,i,z,rfl,rfl,F,G,q⟩:=h;cases rx;obtain⟨t,rfl⟩:=ry;obtain⟨g,r,l,Y⟩:=I.list F;obtain⟨j,d,J,Z,L,M⟩:=oX G;obtain⟨w,B,o⟩:=r.get J;have N:=r.length;have hn:=jN;have fin:EP X c σ Q w s:=⟨z,H,I,o,q⟩
 by_cases C:0<=i
 .have A:i.toNat=j:=by
   rw[seqIndex_of C M]at d;exact jC d
  exact item_listR l.isList C (by omega) (by rw[A];simpa using B) fin hs
 .have A:(i+(g.toArray.size:Int)).toNat=j:=by
   rw[seqIndex_neg (by omega) L]at d;rw[RY,<-N];exact jC d
  exact subscriptTail_builtinR (x:=w) l.isList.typeIs slot_list_getitem.lookup
   (wpAny_getItem_list_neg (Q:=λr P=>r=w/\EP X c σ Q r P) l.isList (by omega) (by rw[RY]<;>omega) (by omega) (by rw[A];simpa using B) ⟨rfl,fin⟩) hs
def Gm:uF X (NZ X.K):=by
 intro d e c s σ H x y v u Q I rx ry h hs;obtain⟨p,L,i,z,rfl,rfl,l,o,q⟩:=h;cases rx;obtain⟨t,rfl⟩:=ry;obtain⟨A,r,g,M⟩:=I.tuple l;obtain⟨j,B,C,N,P,W⟩:=oX o;obtain⟨w,F,f⟩:=r.get C;have G:=r.length;have Y:=jN;have fin:EP X c σ Q w s:=⟨z,H,I,f,q⟩
 exact subscriptTail_builtinR (x:=w) g.typeIs slot_tuple_getitem.lookup
  (getItem_tuple (j:=j) (Q:=λr J=>r=w/\EP X c σ Q r J) g (by omega) (by omega) (by rw[RY,<-G];exact B) (by simpa using F) ⟨rfl,fin⟩) hs
def Gn:uF X N1:=by
 intro d e f s σ H x y v u Q I rx ry h hs;obtain⟨z,i,c,rfl,rfl,F,l,q⟩:=h;obtain⟨t,rfl⟩:=rx;obtain⟨G,rfl⟩:=ry;obtain⟨j,g,o,J,p,r⟩:=oX l;have A:z.cps.toList.length=z.length:=by simp[Str.length]
 rw[A]at g p r;have K:=jN;exact tail_any (typeIs_str s z t) slot_str_getitem.lookup (getItem_str (c:=c) (by
  have B:decide (i < -(2 ^ 63:Int))=false:=R7 (by omega);have C:decide (i≥2 ^ 63)=false:=R7 (by omega);rw[B,C,Bool.or_false]) (by rw[g];simpa using o) ⟨.str ⟨#[c]⟩,H,I.tok _,⟨_,rfl⟩,q⟩) hs
def rJ(lo hi:Option Int)(n:Nat):(sliceBounds lo hi none n).1=((HT.aI n 0 lo:Nat):Int)/\(sliceBounds lo hi none n).2.1=((HT.aI n n hi:Nat):Int)/\(sliceBounds lo hi none n).2.2=1:=by
 refine⟨?_,?_,rfl⟩
 .cases lo with
  |none=>simp[sliceBounds,HT.aI]
  |some i=>
   simp only[sliceBounds,HT.aI,VO,show(1:Int) > 0 by decide,Sf];by_cases h:i<0
   .simp only[h,Sf]<;>omega
   .simp only[h,SK]<;>omega
 .cases hi with
  |none=>simp[sliceBounds,HT.aI]
  |some i=>
   simp only[sliceBounds,HT.aI,VO,show(1:Int) > 0 by decide,Sf];by_cases h:i<0
   .simp only[h,Sf]<;>omega
   .simp only[h,SK]<;>omega
def qS(its:List Value)(lo hi:Option Int):slicePick its.toArray lo hi none=((its.drop (HT.aI its.length 0 lo)).take (HT.aI its.length its.length hi - HT.aI its.length 0 lo)).toArray:=by
 obtain⟨c,d,e⟩:=rJ lo hi its.toArray.size;unfold slicePick;rw[c,d,e];simp only[sliceRange_one,pick_run,RY]<;>rfl
def N2(K:PySem.W.Frag):V->Option Int->Option Int->Hp->VK->Prop:=λx c d H Q=>∃a xs,x=.ref a/\dm K H a xs/\∀p,H p=none->Q (.ref p) (upd H p (.lst (lg xs c d)))
def DE:jP X (N2 X.K):=by
 intro e s σ H x v vl vu lo hi sl Q I rx hs pl pu h;obtain⟨a,c,rfl,g,q⟩:=h;cases rx;obtain⟨i,r,f,j⟩:=I.list g;have d:=r.length;refine⟨"list",_,slot_list_getitem.lookup,f.isList.typeIs,?_⟩;refine wpAny_getItem_list_slice f.isList hs pl pu .none (by simp) ?_ (by rw[RY]<;>omega);rw[qS,<-d];refine⟨.ref s.heap.objs.size,_,I.laid (t':=s.toks) (o:=.lst (lg c lo hi)) (λb l q=>RT _ q) (oM _) ?_,rfl,q _ (I.hok.fresh (oM _))⟩;exact⟨Sa (mV c lo hi) j,_,0,(r.drop (HT.aI c.length 0 lo)).take (HT.aI c.length c.length hi - HT.aI c.length 0 lo),Sb _ rfl⟩
noncomputable def qU:V->Bool
 |.aY=>true
 |.bl _=>true
 |.int _=>true
 |.str _=>true
 |_=>false
def lq:ee X (.builtin "len") (λxs H Q=>∃p ys,xs=[.ref p]/\(dm X.K H p ys\/cU X.K H p ys)/\Q (.int ys.length) H):=by
 intro i s σ H xs us Q I r h;obtain⟨p,ys,rfl,d,q⟩:=h;obtain⟨u,rfl,j⟩:=vals1 r;cases j;have o:=jN;rcases d with d|d
 .obtain⟨e,f,g,l⟩:=I.list d;have c:=f.length;exact Calls.call_len_list g.isList (by simp only[RY]<;>omega) ⟨.int ys.length,H,I.tok _,⟨s.toks+1,by rw[RY,c]⟩,q⟩
 .obtain⟨e,f,g,l⟩:=I.tuple d;have c:=f.length;exact len_tuple g (by simp only[RY]<;>omega) ⟨.int ys.length,H,I.tok _,⟨s.toks+1,by rw[RY,c]⟩,q⟩
def rK:ee X (.builtin "len") (λxs H Q=>∃z,xs=[.str z]/\z.length<=sizeLine/\Q (.int z.length) H):=by
 intro c s σ H xs us Q I r h;obtain⟨z,rfl,d,q⟩:=h;obtain⟨u,rfl,t,rfl⟩:=vals1 r;have e:=jN;exact Um (by omega) ⟨.int z.length,H,I.tok _,⟨_,rfl⟩,q⟩
def lu:ee X (.type "list") (λxs H Q=>∃p ys,xs=[.ref p]/\(dm X.K H p ys\/cU X.K H p ys)/\∀l,H l=none->Q (.ref l) (upd H l (.lst ys))):=by
 intro i s σ H xs us Q I r h;obtain⟨p,ys,rfl,j,q⟩:=h;obtain⟨u,rfl,G⟩:=vals1 r;cases G;have fin:∀(c:List Value),Vals ys c->ys.length<=sizeLine->∀(d:Heap) (f:Nat),(∀b o',s.heap.get? b=some o'->d.get? b=some o')->
   d.get? s.heap.objs.size=some { cls:=.type "list",dict:=none,data:=.seq c.toArray f,slots:=#[]}->EP X i σ Q (.ref s.heap.objs.size) { s with heap:=d }:=λc g x d f y e=>
  ⟨.ref s.heap.objs.size,_,I.laid (t':=s.toks) y (oM _) (show b7 X.prog X.w _ d _ (.lst ys)from ⟨x,c,f,g,e⟩),rfl,q _ (I.hok.fresh (oM _))⟩
 rcases j with j|j
 .obtain⟨c,g,A,x⟩:=I.list j;have z:=g.length;obtain⟨o,B,C,n,F⟩:=A.isList;exact call_list_seq p (.inl rfl) B C F (λd f y e=>fin c g x d f y e) (by simp only[RY]<;>omega)
 .obtain⟨c,g,A,x⟩:=I.tuple j;have z:=g.length;obtain⟨o,B,C,n,F⟩:=A;exact call_list_seq p (.inr rfl) B C F (λd f y e=>fin c g x d f y e) (by simp only[RY]<;>omega)
def kM:ee X (.type "tuple") (λxs H Q=>∃p ys,xs=[.ref p]/\((dm X.K H p ys/\∀l,H l=none->Q (.ref l) (upd H l (.tup ys)))\/(cU X.K H p ys/\Q (.ref p) H))):=by
 intro c s σ H xs us Q I r h;obtain⟨p,ys,rfl,h⟩:=h;obtain⟨u,rfl,z⟩:=vals1 r;cases z;rcases h with ⟨g,q⟩|⟨g,q⟩
 .obtain⟨d,i,j,x⟩:=I.list g;have y:=i.length;refine call_tuple_list j.isList (λf A=>?_) (by simp only[RY]<;>omega);have I1:Inv X c σ H { s with heap:=f }:=I.kept (t':=s.toks) A;have I2:Inv X c σ (upd H f.objs.size (.tup ys)) { s with heap:=f.push { cls:=.type "tuple",data:=.seq d.toArray }}:=
   I1.laid (t':=s.toks) (λb o e=>RT _ e) (oM _) (show b7 X.prog X.w _ _ _ (.tup ys)from ⟨x,d,i,IsTup.new _ _⟩)
  exact⟨.ref f.objs.size,_,I2,rfl,q _ (I1.hok.fresh (oM _))⟩
 .obtain⟨d,i,j,x⟩:=I.tuple g;exact call_tuple_same j ⟨.ref p,H,I,rfl,q⟩
def B9(K:PySem.W.Frag)(T:String)(x:V)(H:Hp):Prop:=match x with
 |.str _=>T = "str"
 |.int _=>T = "int"
 |.ref p=>(T = "list" /\∃xs,dm K H p xs)\/(T = "tuple" /\∃o,K.lookup p=some o/\o.cls=.type "tuple" /\o.dict=none)\/
   (T = "dict" /\((∃kvs,H p=some (.dK kvs))\/∃kvs,H p=some (.dT kvs)))\/(T = "set" /\∃S n,H p=some (.set S n))
 |_=>False
def Gp{pins:List (Addr×Obj)}{σ:St}{H:Hp}{s:Shared}{T:String}{x:V}{v:Value}(I:Inv X pins σ H s)(r:RelV x v)(ty:B9 X.K T x H) :
  s.TypeIs v T/\∀a,v=.ref a->∃ob,s.heap.get? a=some ob/\ob.dict=none:=by
 cases x with
 |str z=>
  obtain⟨t,rfl⟩:=r;cases (show T = "str" from ty);exact⟨typeIs_str s z t,λ_ e=>nomatch e⟩
 |int i=>
  obtain⟨t,rfl⟩:=r;cases (show T = "int" from ty);exact⟨UR s i t,λ_ e=>nomatch e⟩
 |ref p=>
  cases r;rcases ty with ⟨rfl,A,l⟩|⟨rfl,o,d,q,f⟩|⟨rfl,d⟩|⟨rfl,S,n,d⟩
  .obtain⟨y,_,j,_⟩:=I.list l;refine⟨j.isList.typeIs,λa e=>?_⟩;cases e;obtain⟨o,n,e,c,f,_⟩:=j;exact⟨o,e,f⟩
  .refine⟨⟨o,I.fT p o d,q⟩,λa e=>?_⟩;cases e;exact⟨o,I.fT _ o d,f⟩
  .have z:∃o,s.heap.get? p=some o/\o.ExactDict:=by
    rcases d with ⟨g,d⟩|⟨g,d⟩
    .obtain⟨_,_,_,_,o,_,_,e,ex,_⟩:=I.hok p _ d;exact⟨o,e,ex⟩
    .obtain⟨_,_,_,_,o,_,_,e,ex,_⟩:=I.hok p _ d;exact⟨o,e,ex⟩
   obtain⟨o,e,ex⟩:=z;refine⟨⟨o,e,ex.1⟩,λa h=>?_⟩;cases h;exact⟨o,e,ex.2.1⟩
  .obtain⟨o,_,_,_,e,ex,_⟩:=I.hok p _ d;refine⟨⟨o,e,ex.1⟩,λa h=>?_⟩;cases h;exact⟨o,e,ex.2.1⟩
 |_=>exact False.elim ty
noncomputable def Pk(K:PySem.W.Frag)(T:String)(r:V->List V->Hp->VK->Prop)(to:TE)(t:TA):TE:=λσ H Q=>to σ H λx H1=>B9 K T x H1/\t σ H1 λc H2=>r x c H2 Q
variable{o e:Expr}{es:List Expr}{to:TE}{t:TA}{name:Str}{apos cpos:Pos}{T id:String}{r:V->List V->Hp->VK->Prop}
def Ld (pa:PlainAttrs T) (slot:Slot T name id) (hty:typeOf (.builtin id)=pure (.type "method_descriptor")) (hm:xZ X id r) (ho:PE X o to) (ha:PA X (e :: es) t)
  (hbase:attributeBase o name X.env (eval o X.env)=eval o X.env:=by rfl)
  (hfew:((backTo cpos (starEach (e :: es) X.env)).all (λx=>!x.1)&&(backToKw cpos (keywordEach [] X.env)).all (λx=>x.1.isSome)
   &&decide ((e :: es).length+([]:List Keyword).length+(if ([]:List Keyword).isEmpty then 0 else 1)<30))=true:=by rfl)
  (hline:(apos.endLine==cpos.line)=true:=by rfl) (hs:starEach (e :: es) X.env=(false,eval e X.env) :: starEach es X.env:=by rfl) (hplain:(backTo cpos (starEach es X.env)).any (·.1)=false:=by rfl) :
  PE X (.Call (.Attribute o name apos) (e :: es) [] cpos) (Pk X.K T r to t):=by
 intro c s σ H Q I h;refine wpAny_Call_method_late hbase hfew hline rfl (bB (ho c s σ H _ I h) λv s1 ⟨x,H1,I1,d,g,i⟩=>?_);obtain⟨j,l⟩:=Gp I1 d g;refine⟨T,id,pa,slot,hty,j,l,?_⟩;have f:=ha cpos c s1 σ H1 _ I1 i;rw[hs]at f ⊢;refine Uu (by show(false || (backTo cpos (starEach es X.env)).any (·.1))=false;rw[hplain]<;>rfl) (Calls.evalArgs_plain ?_);exact bB f λp s2 ⟨q,H2,I2,y,z⟩=>hm c s2 σ H2 x q v p Q I2 d y z
end
def MF(X:Cx)(id:String)(r:V->List V->Hp->VK->Prop):Prop:=
 ∀(pins:List (Addr×Obj)) (s:Shared) (σ:St) (H:Hp) (x:V) (xs:List V) (v:Value) (us:List Value) (Q:VK),Inv X pins σ H s->RelV x v->Vals xs us->r x xs H Q->
  wpAny (model X.prog X.w) X.A (call (.builtin id) (v :: us)) (EP X pins σ Q) X.xe s
def Vals.one:∀{x:V}{us:List Value},Vals [x] us->∃u,us=[u]/\RelV x u
 |_,_,.cons r .nil=>⟨_,rfl,r⟩
theorem Vals.reverse{xs:List V}{us:List Value}(h:Vals xs us):Vals xs.reverse us.reverse:=by
 induction h with
 |nil=>exact .nil
 |cons r t a=>rw[R6,R6];exact Vals.append a (.cons r .nil)
theorem Vals.rep{xs:List V}{us:List Value}(h:Vals xs us):∀k:Nat,Vals (List.replicate k xs).flatten (List.replicate k us).flatten
 |0=>.nil
 |k+1=>by
  rw[RU,RU,S6,S6];exact Vals.append h (Vals.rep h k)
theorem foldl_rep(its:List Value):∀(k:Nat) (acc:List Value),
  List.foldl (λx1 x2=>x1++x2) acc.toArray (List.replicate k its.toArray)=(acc++(List.replicate k its).flatten).toArray
 |0,acc=>by simp
 |k+1,acc=>by
  have e:acc.toArray++its.toArray=(acc++its).toArray:=by simp
  have a:(acc++its)++(List.replicate k its).flatten=acc++(List.replicate (k+1) its).flatten:=by
   rw[RU,S6,Sv]
  rw[<-a,<-foldl_rep its k (acc++its),<-e,RU,SA]
section
variable{X:Cx}{pins:List (Addr×Obj)}{σ:St}{H:Hp}{s:Shared}{l:Addr}{xs ys:List V}
def Inv.Gq{its its':List Value}{n:Nat}{f:Array Value->Array Value}{t':Nat}(I:Inv X pins σ H s)(hH:H l=some (.lst xs))
  (e:s.heap.get? l=some { cls:=.type "list",data:=.seq its.toArray n }) (hf:f its.toArray=its'.toArray) (hv:Vals ys its') (hz:ys.length<=sizeLine) :
  Inv X pins σ (upd H l (.lst ys)) { s with heap:=s.heap.update l (Obj.mapSeq f),toks:=t' }:=by
 have q:=PySem.IsL.update e f;rw[hf]at q;refine I.write (x:=l) (e:=l) (by rw[hH];exact trivial) (.inl rfl) (λc u a b=>(TX s.heap (Obj.mapSeq f) (Tu a)).trans b) ⟨_,q⟩ ?_;exact⟨hz,its',_,hv,q⟩
def Inv.AH{its:List Value}{t':Nat}(I:Inv X pins σ H s)(hv:Vals ys its)(hz:ys.length<=sizeLine) :
  Inv X pins σ (upd H s.heap.objs.size (.lst ys)) { s with heap:=s.heap.push { cls:=.type "list",data:=.seq its.toArray },toks:=t' }:=
 I.laid (λ_ _ q=>RT _ q) (oM _) ⟨hz,its,0,hv,Sb _ rfl⟩
theorem Inv.fresh(I:Inv X pins σ H s):H s.heap.objs.size=none:=I.hok.fresh (oM _)
def Inv.oY (I:Inv X pins σ H s) (hH:H l=some (.lst xs)):xs.length<=sizeLine/\∃(its:List Value) (n:Nat),Vals xs its/\xs.length=its.length/\s.heap.get? l=some { cls:=.type "list",data:=.seq its.toArray n }:=by
 obtain⟨z,its,n,r,e⟩:=I.hok l _ hH;exact⟨z,its,n,r,r.length,e⟩
def rL{n:Nat}(h:n<=sizeLine):Builtin.List.listTooLong n=false:=by
 unfold Builtin.List.listTooLong;exact R7 (by omega)
end
section
variable{X:Cx}
def DF:V->List V->Hp->VK->Prop:=λx a H Q=>∃l xs y,x=.ref l/\a=[y]/\H l=some (.lst xs)/\xs.length<sizeLine/\Q .aY (upd H l (.lst (xs++[y])))
def qq:MF X "list.append" DF:=by
 intro b s σ H x vs v us Q I rx rv h;obtain⟨l,f,y,rfl,rfl,c,g,q⟩:=h;cases rx;obtain⟨u,rfl,d⟩:=rv.one;obtain⟨z,a,n,r,i,e⟩:=I.oY c;refine TN F.slot_list_append ⟨_,e,rfl⟩ F.entry_list_append (F.args_list_append_2 _ _) (PySem.list_append l a.toArray n u (by rw[RY];omega)) ⟨e,?_⟩;refine⟨.aY,_,I.Gq (its':=a++[u]) c e (by simp) (r.append (.cons d .nil)) ?_,rfl,q⟩;rw[R1,Sk];omega
def DG:V->List V->Hp->VK->Prop:=λx a H Q=>∃l b xs zs,x=.ref l/\a=[.ref b]/\H l=some (.lst xs)/\H b=some (.lst zs)/\xs.length+zs.length<=sizeLine/\Q .aY (upd H l (.lst (xs++zs)))
def x6:MF X "list.extend" DG:=by
 intro f s σ H x vs v us Q I rx rv h;obtain⟨l,b,B,C,rfl,rfl,g,i,G,q⟩:=h;cases rx;obtain⟨u,rfl,j⟩:=rv.one;cases j;obtain⟨z,c,n,r,J,e⟩:=I.oY g;obtain⟨K,a,n2,o,p,y⟩:=I.oY i;have d:c.toArray.size+a.toArray.size<=sizeLine:=by rw[RY,RY];omega
 have A:¬ (!c.toArray.isEmpty&&Builtin.List.listTooLong (c.toArray.size+a.toArray.size))=true:=by
  rw[rL d,Bool.and_false];exact Tg
 refine TN F.slot_list_extend ⟨_,e,rfl⟩ F.entry_list_extend (F.args_list_extend_2 _ _)
  (AutoSeq1.list_extend_list_list_0 l c.toArray n b a.toArray n2 A (by rw[RY];omega) (by omega)) ⟨e,y,?_⟩
 refine⟨.aY,_,I.Gq (its':=c++a) g e (by simp) (r.append o) ?_,rfl,q⟩;rw[R1];omega
noncomputable def N3:R2:=λx y H Q=>∃l b xs zs,x=.ref l/\y=.ref b/\H l=some (.lst xs)/\H b=some (.lst zs)/\xs.length+zs.length<=sizeLine/\∀p,H p=none->Q (.ref p) (upd H p (.lst (xs++zs)))
def Gr:dz X (binaryOp .Add) N3:=by
 intro d s σ H x y v u Q I rx ry h;obtain⟨l,b,A,B,rfl,rfl,f,g,C,q⟩:=h;cases rx;cases ry;obtain⟨z,c,n,r,F,e⟩:=I.oY f;obtain⟨G,a,n2,i,j,o⟩:=I.oY g;refine PySem.P.add_list e o ?_ (by rw[RY,RY];omega);have p:c.toArray++a.toArray=(c++a).toArray:=by simp
 rw[p];exact⟨.ref _,_,I.AH (t':=s.toks) (r.append i) (by rw[R1];omega),rfl,q _ I.fresh⟩
noncomputable def N4:R2:=λx y H Q=>∃l k xs,x=.ref l/\y=.int k/\H l=some (.lst xs)/\-(2 ^ 63)<=k/\k<2 ^ 63/\xs.length*k.toNat<=sizeLine/\
 ∀p,H p=none->Q (.ref p) (upd H p (.lst (List.replicate k.toNat xs).flatten))
def len_rep{α:Type}(xs:List α)(k:Nat):(List.replicate k xs).flatten.length=k*xs.length:=by
 induction k with
 |zero=>simp
 |succ k a=>rw[RU,S6,R1,a,Nat.succ_mul,Tw]
def Gs:dz X (binaryOp .Mult) N4:=by
 intro o s σ H x y v u Q I rx ry h;obtain⟨l,k,L,rfl,rfl,A,B,C,p,q⟩:=h;cases rx;obtain⟨t,rfl⟩:=ry;obtain⟨z,b,n,r,G,e⟩:=I.oY A;have c:b.toArray.size*k.toNat<=sizeLine:=by rw[RY,<-G];exact p
 have d:¬ b.toArray.size*k.toNat > (2 ^ 63 - 1) / 8:=by
  have:(sizeLine:Nat)<=(2 ^ 63 - 1) / 8:=by decide
  omega
 have f:¬ (!Builtin.List.listFitsIndex k)=true:=by
  rw[fitsIndex_both B C];exact Tg
 have J:¬ Builtin.List.listTooLong (b.toArray.size*k.toNat)=true:=by
  rw[rL c];exact Tg
 have g:List.foldl (λi j=>i++j) #[] (List.replicate (if b.toArray.isEmpty=true then 0 else k.toNat) b.toArray)=(List.replicate k.toNat b).flatten.toArray:=by
  have f0:∀m:Nat,List.foldl (λi j=>i++j) #[] (List.replicate m b.toArray)=(List.replicate m b).flatten.toArray:=λm=>by
   have:=foldl_rep b m [];rw[UB]at this;exact this
  rw[f0];cases b with
  |nil=>simp
  |cons a M=>rw[R0 (by simp)]
 refine US (T:="list") (U:="int") (by decide) ⟨_,e,rfl⟩ (λK=>UR K k t) noFill_list_mul F.fills_int_mul F.slot_int_rmul repeat_list F.slot_int_index.lookup
  (TN F.slot_int_rmul (UR s k t) F.entry_int_rmul (F.args_int_rmul_2 _ _) (int___rmul___int_list k t l b.toArray n)
   ⟨e,rfl,⟨_,e,rfl⟩,TN F.slot_list_mul ⟨_,e,rfl⟩ F.entry_list_mul (F.args_list_mul_2 _ _) (AutoListH.list___mul___list_int_3 l b.toArray n k t f d J) ⟨e,?_⟩⟩)
 rw[g];exact⟨.ref _,_,I.AH (t':=s.toks) (r.rep k.toNat) (by rw[len_rep,Nat.mul_comm];exact p),rfl,q _ I.fresh⟩
end
end L2
namespace MG
open PySem PySem.W PySem.Calls PyProof.Rows
def nO{P:Params}{h:Heap}:∀(ns:List Int) (vs:List Value),WellAll P h vs (ns.map WData.int)->IntsAre vs ns:=by
 intro ns;induction ns with
 |nil=>
  intro vs w;rw[Uc]at w;cases w;exact .nil
 |cons n ns c=>
  intro vs w;rw[gV]at w;cases w with
  |cons a b=>
   cases a;exact .cons _ _ (c _ b)
def x8{l:OpenLaw}{n:Nat}(hn:l.most=some n){P:Params}{h:Heap}{args:List WData}{vals:List Value}
  (hpre:l.row.toRowW.claim.pre args=true) (hwl:WellAll P h vals args) :
  ∃a vs ns,vals=[Value.ref a]/\args=[WData.list (ns.map WData.int)]/\h.get? a=some { cls:=.type "list",data:=.seq vs.toArray }/\IntsAre vs ns/\ns.length<=n:=by
 have g:WShape.hasAll [] args [.list .int]=true:=(pre_splitW hpre).1;have i:l.pre.holds [] { args:=args }=true:=(pre_splitW hpre).2;obtain⟨d,r,rfl,j,o⟩:=hasAllW_cons g;obtain rfl:=hasAllW_nil o;obtain⟨B,rfl,p⟩:=hasW_list j;obtain⟨ns,rfl⟩:=items_int p;have b:ns.length<=n:=by
  unfold OpenLaw.pre at i;have e:(WTm.not (.lt (.lit (.int (n:Int))) (.len (.arg 0)))).holds [] { args:=[.list (ns.map .int)]}=true:=by
   have e:=(holds_andW i).1;rw[hn]at e;exact e
  have f:=condW_of e (w_not (w_lt w_lit (w_len_list (w_arg rfl))));rw[Se]at f;refine Nat.le_of_not_lt λq=>?_;have x:(n:Int)<((ns.length:Nat):Int):=by omega
  first
   | (rw[SW x]at f;exact absurd f (by decide))
   | (simp at f;omega)
 cases hwl with
 |cons y z=>
  cases z;cases y with
  |list A c=>exact⟨_,_,ns,rfl,rfl,A,nO ns _ c,b⟩
def x9(l:OpenLaw)(args:List WData):l.row.toRowW.claim.post args (.bool true) args=true:=
 postW_of (r:=l.row.toRowW) (X:=(true==true))
  (show WShape.has [] (.bool true) .bool=true by first|rfl|decide|simp[WShape.has,WShape.arms,WShape.armsAll])
  (show(WTm.eq .res (.lit (.bool true))).value [] { args:=args,res:=some (.bool true),after:=args }=some (.bool (true==true))from w_eq_bool (w_res rfl) w_lit) rfl
def uf{l:OpenLaw}{n:Nat}{q:Program}{loose:List Str}{XP:(Str->Option Value)->Heap->Prop}{YP:World->Heap->Prop}{d:DefRec}
  (hn:l.most=some n) (hdf:d.params.defaults=[])
  (call:∀(w:World) (s₀ s₁:Shared) (mg mb:Str->Option Value) (fa:Addr) (o:Obj) (pm cd doc:Value) (a:Addr) (vs:List Value) (ns:List Int),
   Ground q loose [] XP w s₀ mg mb s₁.heap->YP w s₁.heap->
   s₁.heap.get? fa=some o->o.data=.func (docDef d.name d.params d.body d.scope pm cd doc)->s₁.heap.CodeRec cd d.name->mg d.name=some (.ref fa)->
   s₁.heap.get? a=some { cls:=.type "list",data:=.seq vs.toArray }->IntsAre vs ns->ns.length<=n->s₁.gens = #[]->
   codeAny (model l.prog w) callerA (.call (.ref fa) ⟨[.ref a],[]⟩) (λr s'=>r=.ok (.ret (.bool true))/\OldK s₁.heap s'.heap/\s'.os=s₁.os/\AllBare s'.gens) s₁) :
  WalkO q loose XP YP l.row.toRowW d [] (λf vs=>PySem.call f vs):=by
 intro w s₀ s₁ mg mb G Y fa o pm cd doc z kV A B h p i C args x N c y F j H;obtain rfl:z=.none:=Dflts.none p hdf;obtain rfl:kV=.none:=Dflts.noKw p;obtain⟨a,vs,ns,rfl,rfl,e,b,g⟩:=x8 hn c j;refine enter_call (UX (call w s₀ s₁ mg mb fa o pm cd doc a vs ns G Y A (fd_plain B) h i e b g C) λr s' I=>?_);obtain⟨rfl,J,K,L⟩:=I;exact⟨.inl ⟨.bool true,.bool true,[],rfl,λ_=>rfl,.bool true,x9 l _,λ_=>⟨List.Pairwise.nil,λ_ M=>(nomatch M)⟩⟩,J,K,L⟩
end MG
namespace L2
open PySem PySem.Spec PyProof.Rows
theorem qt:∀{vs:List Value}{ns:List Int},IntsAre vs ns->Vals (ns.map V.int) vs
 |_,_,.nil=>.nil
 |_,_,.cons n t h=>.cons ⟨t,rfl⟩ (qt h)
def oZ(H:Hp):Prop:=∀b,H b=none\/∃o xs,H b=some (.bz o (.lst xs))
def AI{P:Program}{w:World}{K:PySem.W.Frag}{mg mb:Str->Option Value}{CX:kL}{k:Nat}{fa a:Addr}{fd:FuncData}{x:Str}{sp:Sp}{s₁:Shared}{vs:List Value}{ns:List Int}
  (KX:K.In s₁.heap) (hns:s₁.heap.Ns mainGlobals mg) (hb:s₁.heap.Ns builtinsNs mb) (Gu:∀x:Str,x≠"__name__" ->mb x=bootBuiltins x) (hlim:s₁.heap.NoLimit) (hg:s₁.gens = #[])
  (ha:s₁.heap.get? a=some { cls:=.type "list",data:=.seq vs.toArray }) (hi:IntsAre vs ns) (hl:ns.length<=sizeLine) (hr:eW k callerA)
  (F:∀base:Heap,K.In base->base.Ns mainGlobals mg->gK P w K mg base CX k fa fd [x] sp) (hbind:∀(s:Shared) (u:Value),BindsTo s fd ⟨[u],[]⟩ [(x,u)])
  (jO:∀H:Hp,oZ H->dm K H a (ns.map V.int)->sp [.ref a] H (λv _=>v=.bl true) λ_ _ _=>False)
  (yc:∀H e s',CX [] H s₁ (λ_ _ _=>False) e s'->False) :
  codeAny (model P w) callerA (.call (.ref fa) ⟨[.ref a],[]⟩) (λr s'=>r=.ok (.ret (.bool true))/\OldK s₁.heap s'.heap/\s'.os=s₁.os/\AllBare s'.gens) s₁:=by
 have rv:=qt hi;have N5:=hi.length;have c:∀H:Hp,oZ H->dm K H a (ns.map V.int)->dX P w H s₁.heap->(∀b,H b≠none->b=a)->(H a≠none->K.lookup a=none)->
   codeAny (model P w) callerA (.call (.ref fa) ⟨[.ref a],[]⟩) (λr s'=>r=.ok (.ret (.bool true))/\OldK s₁.heap s'.heap/\s'.os=s₁.os/\AllBare s'.gens) s₁:=by
  intro H l B f p C;have y:∀{b:Addr} {o:Obj},s₁.heap.get? b=some o->H b=none->(kh s₁.heap H).get? b=some o:=λe n=>As e n;have G:∀{b:Addr} {o:Obj} {es:Array DictEntry} {ep:Nat},s₁.heap.get? b=some o->o.data=.dict es ep->H b=none:=λ{b o es ep} e d=>by
   cases q:H b with
   |none=>rfl
   |some u=>
    have j:b=a:=p b (by rw[q];simp);subst j;rw[ha]at e;cases e;have I:Data.seq vs.toArray _=Data.dict es ep:=d;cases I
  have Ca:∀{b:Addr} {m:Str->Option Value},s₁.heap.Ns b m->(kh s₁.heap H).Ns b m:=λ{b m} ⟨o,es,ep,e,d,r⟩=>⟨o,es,ep,y e (G e d),d,r⟩
  have MH:K.In (kh s₁.heap H):=λb o e=>y (KX b o e) (by
   cases q:H b with
   |none=>rfl
   |some u=>
    have j:b=a:=p b (by rw[q];simp);subst j;rw[C (by rw[q];simp)]at e;cases e)
  have J:Mod K mg (kh s₁.heap H):=⟨MH,Ca hns,⟨mb,Ca hb,Gu⟩,let ⟨mc,h1,h2⟩:=hlim;⟨mc,Ca h1,h2⟩⟩
  have L:vQ P w K mg (kh s₁.heap H) callerA [] s₁ H:=⟨rfl,J,λb o e=>Dh e,Nat.le_of_eq (xH _ _),trivial,λb hb=>absurd (show b∈([]:List Addr)from hb) (by simp),f,.of_eq hg⟩
  refine UX ((F _ MH (Ca hns)).run callerA [] s₁ H ⟨[.ref a],[]⟩ [.ref a] [.ref a] _ _ hr L (hbind s₁ (.ref a)) (.cons rfl .nil) (jO H l B)) λr s' h=>?_;cases r with
  |error e=>exact(yc H e s' h).elim
  |ok fl=>
   cases fl with
   |next=>exact False.elim h
   |brk=>exact False.elim h
   |cont=>exact False.elim h
   |ret u=>
    obtain⟨v,H',os,g,un,N6,M,q⟩:=h;have N:v=.bl true:=q;subst N;obtain rfl:u=Value.bool true:=M;refine⟨rfl,OldK.of_keep λb o e=>?_,os,g⟩;cases q:H b with
    |none=>exact un.keep b o e q (by intro z;exact absurd (show b∈([]:List Addr)from z) (by simp)) (by simp)
    |some u=>
     rcases l b with z|⟨Q,Z,z⟩
     .rw[q]at z;cases z
     .have X:=un.kg b Q _ z;obtain⟨A,_⟩:=f b _ z;obtain⟨Y,_⟩:=N6 b _ X;rw[e]at A;cases A;exact Y
 cases hk:K.lookup a with
 |some o=>
  have e:=KX a o hk;rw[ha]at e;cases e;refine c (λ_=>none) (λ_=>.inl rfl) (.inr ⟨_,vs.toArray,_,hk,rfl,rfl,rfl,by rw[RY,N5];exact hl,by simpa using rv⟩) (λb u z=>by have i:(none:Option HO)=some u:=z;cases i) (λb z=>absurd rfl z) λz=>absurd rfl z
 |none=>
  refine c (λb=>if b=a then some (.bz { cls:=.type "list",data:=.seq vs.toArray } (.lst (ns.map V.int)))else none) (λb=>?_) (.inl (.inr ⟨{ cls:=.type "list",data:=.seq vs.toArray },gQ rfl⟩)) (λb u z=>?_) (λb z=>?_) λ_=>hk
  .by_cases hb:b=a
   .exact .inr ⟨_,_,gQ hb⟩
   .exact .inl (R0 hb)
  .by_cases hb:b=a
   .have i:=(gQ hb).symm.trans z;cases i;subst hb;exact⟨ha,by rw[Se];exact hl,vs,_,rv,ha⟩
   .have i:=(R0 hb).symm.trans z;cases i
  .by_cases hb:b=a
   .exact hb
   .exact absurd (R0 hb) z
def DH{l:PySem.W.OpenLaw}{n k:Nat}{q:Program}{loose:List Str}{XP:(Str->Option Value)->Heap->Prop}{YP:World->Heap->Prop}{d:DefRec}{K:Params->PySem.W.Frag}{CX:World->kL}{sp:World->Sp}{x:Str}
  (hn:l.most=some n) (hn2:n<=sizeLine) (hdf:d.params.defaults=[]) (hr:eW k callerA)
  (hY:∀(w:World) (h:Heap),YP w h->(K w.params).In h)
  (F:∀(w:World) (mg:Str->Option Value) (fa:Addr) (h:Heap),(K w.params).In h->h.Ns mainGlobals mg->mg d.name=some (.ref fa)->
   ∃fd:FuncData,(∀(s:Shared) (u:Value),BindsTo s fd ⟨[u],[]⟩ [(x,u)])/\
    ∀base:Heap,(K w.params).In base->base.Ns mainGlobals mg->gK l.prog w (K w.params) mg base (CX w) k fa fd [x] (sp w))
  (jO:∀(w:World) (H:Hp) (a:Addr) (ns:List Int),ns.length<=n->oZ H->dm (K w.params) H a (ns.map V.int)->sp w [.ref a] H (λv _=>v=.bl true) λ_ _ _=>False)
  (yc:∀(w:World) (H:Hp) (s:Shared) (e:Value) (s':Shared),CX w [] H s (λ_ _ _=>False) e s'->False) :
  PySem.W.WalkO q loose XP YP l.row.toRowW d [] (λf vs=>PySem.call f vs):=by
 refine MG.uf hn hdf λw J r mg L fa o M N y a vs ns G Y P Q z p j i c A=>?_;have KX:=hY w _ Y;obtain⟨fd,B,hF⟩:=F w mg fa _ KX G.T.g p;exact AI KX G.T.g G.T.b G.T.builtins G.T.nolimit A j i (Sa c hn2) hr hF B (λH C I=>jO w H a ns c C I) λH e s'=>yc w H r e s'
def AJ{l:PySem.W.OpenLaw}{n k:Nat}{q:Program}{loose:List Str}{XP:(Str->Option Value)->Heap->Prop}{YP:World->Heap->Prop}{d:DefRec}{K:Params->PySem.W.Frag}{CX:kL}{sp:PySem.W.Frag->Sp}{x:Str}
  (hn:l.most=some n) (hn2:n<=sizeLine) (hdf:d.params.defaults=[]) (hr:eW k callerA)
  (hY:∀(w:World) (h:Heap),YP w h->(K w.params).In h)
  (F:∀(w:World) (mg:Str->Option Value) (fa:Addr) (h:Heap),(K w.params).In h->h.Ns mainGlobals mg->mg d.name=some (.ref fa)->
   ∃fd:FuncData,(∀(s:Shared) (u:Value),BindsTo s fd ⟨[u],[]⟩ [(x,u)])/\
    ∀base:Heap,(K w.params).In base->base.Ns mainGlobals mg->gK l.prog w (K w.params) mg base CX k fa fd [x] (sp (K w.params)))
  (jO:∀(K:PySem.W.Frag) (H:Hp) (a:Addr) (ns:List Int),ns.length<=n->oZ H->dm K H a (ns.map V.int)->sp K [.ref a] H (λv _=>v=.bl true) λ_ _ _=>False)
  (yc:∀(H:Hp) (s:Shared) (e:Value) (s':Shared),CX [] H s (λ_ _ _=>False) e s'->False) :
  PySem.W.WalkO q loose XP YP l.row.toRowW d [] (λf vs=>PySem.call f vs):=
 DH (K:=K) (CX:=λ_=>CX) (sp:=λw=>sp (K w.params)) hn hn2 hdf hr hY F (λw H a ns b c g=>jO (K w.params) H a ns b c g) λ_ H s e s'=>yc H s e s'
noncomputable def mD(s:Stmt):Arguments:=match s with
 |.FunctionDef _ a _ _ _ _ _ _ _ _=>a
 |_=>{ posonlyargs:=[],args:=[],vararg:=none,kwonlyargs:=[],kw_defaults:=[],kwarg:=none,defaults:=[]}
noncomputable def fU(s:Stmt):List Stmt:=match s with
 |.FunctionDef _ _ b _ _ _ _ _ _ _=>b
 |_=>[]
noncomputable def aJ(s:Stmt):Scope:=match s with
 |.FunctionDef _ _ _ _ _ _ a _ _ _=>a
 |_=>{ kind:=.function,names:=[],isGenerator:=false,isCoroutine:=false }
abbrev lB:kL:=λ_ _ _ _ _ _=>False
abbrev E0:XK:=λ_ _ _=>False
def Le{X:Cx}:Passes lB X E0:=λ_ _ _ _ _ _ _ h=>h.elim
structure rM(K:PySem.W.Frag)(x qual:Str)(st:Stmt)(f:Addr)(fd:FuncData):Prop where
 ex:∃(oc:Value) (od:Option Addr) (kV doc pm:Value) (an:Option Addr) (cdv ct:Value) (osl:Array (Option Value)),
  fd=PySem.W.fnOf x qual (mD st) (fU st) (aJ st) .none kV doc pm an cdv ct/\K.lookup f=some ⟨oc,od,.func fd,osl⟩/\PySem.W.codeIn K cdv qual=true
 kp:PySem.W.keepIn K (.ref f)=true
section
variable{P:Program}{w:World}{K:PySem.W.Frag}{mg:Str->Option Value}{base:Heap}
def rM.ok{x qual:Str}{st:Stmt}{f:Addr}{fd:FuncData}{N ps:List Str}{k:Nat}{sp:Sp}(F:rM K x qual st f fd)(S:bE N ps (aJ st))(len:∀vs H Q E,sp vs H Q E->vs.length=ps.length)
  (hbody:∀(cdv:Value) (A:Around) (outer:List Env) (s:Shared) (H:Hp) (vs:List V) (Q:VK) (E:XK),eW k (A.deeper (envOfC qual (aJ st) s.heap.objs.size f cdv))->sp vs H Q E->
   ∃t,gI (nv lB P w K mg base N qual (aJ st) f cdv A outer s H E).qi (fU st) t/\t { nx:=λ_ H'=>Q .aY H',rt:=Q } (start N vs) H):gK P w K mg base lB (k+1) f fd ps sp:=by
 obtain⟨i,j,kV,b,l,o,cdv,p,c,rfl,d,a⟩:=F.ex;refine K9 d a S len λA outer s H vs Q E e g=>?_;obtain⟨t,h,q⟩:=hbody cdv A outer s H vs Q E e g;exact⟨t,h.qi,q⟩
def rM.binds{x qual:Str}{st:Stmt}{f:Addr}{fd:FuncData}{ps:List Str}(F:rM K x qual st f fd)
  (h:∀(kV doc pm:Value) (an:Option Addr) (cdv ct:Value) (us:List Value),us.length=ps.length->bindArgs (PySem.W.fnOf x qual (mD st) (fU st) (aJ st) .none kV doc pm an cdv ct) ⟨us,[]⟩=pure (ps.zip us)):Binds K fd ps []:=by
 obtain⟨c,d,kV,doc,pm,an,cdv,ct,a,rfl,e,b⟩:=F.ex;exact .all (h kV doc pm an cdv ct)
def b9{x qual:Str}{st:Stmt}{f:Addr}{oc:Value}{od an:Option Addr}{osl:Array (Option Value)}{kV doc pm cdv ct:Value}(l:K.lookup f=some ⟨oc,od,.func (PySem.W.fnOf x qual (mD st) (fU st) (aJ st) .none kV doc pm an cdv ct),osl⟩)
  (c:PySem.W.codeIn K cdv qual=true) (k:PySem.W.keepIn K (.ref f)=true):rM K x qual st f (PySem.W.fnOf x qual (mD st) (fU st) (aJ st) .none kV doc pm an cdv ct):=⟨⟨oc,od,kV,doc,pm,an,cdv,ct,osl,rfl,l,c⟩,k⟩
end
def Lf{A:Around}{k:Nat}(hr:eW k A):A.units+1<cLine:=Uh (Nat.add_le_add_left (by decide:1<=64) _) hr.units
section
variable{X:Cx}
def pv (i:Nat) {x:Str}{pos:Pos}(hN:X.N[i]?=some x:=by rfl) (hv:xJ X.env.scope x:=by first|exact Or.inl rfl|exact Or.inr (Or.inl rfl)|exact Or.inr (Or.inr rfl)) (hd:(x==("__debug__" : Str))=false:=by decide)
  (hcd:(x==("__classdict__" : Str))=false:=by decide):PE X (.Name x pos) (Fv i):=xO hN hv hd hcd
end
section
variable{κ:Type}[DecidableEq κ]
noncomputable def fQ(kvs:List (κ×V))(k:κ):Option V:=(kvs.find? λa=>decide (a.1=k)).map (·.2)
noncomputable def putK(kvs:List (κ×V))(k:κ)(v:V):List (κ×V):=
 if (kvs.any λa=>decide (a.1=k))=true then kvs.map (λa=>if a.1=k then (a.1,v)else a)else kvs++[(k,v)]
def ja{p:κ×V}{r:List (κ×V)}{k:κ}(e:p.1=k):fQ (p :: r) k=some p.2:=by simp[fQ,SN,e]
def jb{p:κ×V}{r:List (κ×V)}{k:κ}(e:¬ p.1=k):fQ (p :: r) k=fQ r k:=by simp[fQ,SN,e]
theorem ny(k:κ):∀kvs:List (κ×V),(kvs.any λkv=>decide (kv.1=k))=(fQ kvs k).isSome
 |[]=>rfl
 |p :: r=>by
  rw[Vz];by_cases e:p.1=k
  .simp only[ja e,SW e,Bool.true_or,Ue]
  .rw[jb e,R7 e,Bool.false_or];exact ny k r
def ug(kvs:List (κ×V))(k:κ)(v:V):(putK kvs k v).length<=kvs.length+1:=by
 unfold putK;split
 .rw[Se];omega
 .rw[R1,R3,TU];omega
def AK{kvs:List (κ×V)}{k:κ}(v:V)(h:fQ kvs k=none):putK kvs k v=kvs++[(k,v)]:=by
 unfold putK;rw[ny,h];exact R0 (by decide)
def nq.qu{o:Option V}{u:Option Value}(r:nq o u):o.isSome=u.isSome:=by
 cases o with
 |none=>cases u with
  |none=>rfl
  |some _=>exact(show False from r).elim
 |some _=>cases u with
  |none=>exact(show False from r).elim
  |some _=>rfl
def KV.val{kvs:List (κ×V)}{vs:List (κ×Value)}(r:KV kvs vs)(k:κ):nq (fQ kvs k) (valueAt vs k):=by
 unfold KV at r;induction r with
 |nil=>exact True.intro
 |@cons p q i a h t f=>
  obtain⟨d,g⟩:=h;by_cases e:p.1=k
  .have c:q.1=k:=d.symm.trans e;have b:valueAt (q :: a) k=some q.2:=by simp[valueAt,SN,c]
   rw[ja e,b];exact g
  .have c:¬ q.1=k:=λz=>e (d.trans z);have b:valueAt (q :: a) k=valueAt a k:=by simp[valueAt,SN,c]
   rw[jb e,b];exact f
theorem KV.any{kvs:List (κ×V)}{vs:List (κ×Value)}(r:KV kvs vs)(k:κ):(kvs.any λkv=>decide (kv.1=k))=vs.any λkv=>decide (kv.1=k):=by
 unfold KV at r;induction r with
 |nil=>rfl
 |cons h t a=>rw[Vz,Vz,a,h.1]
def KV.repl{kvs:List (κ×V)}{vs:List (κ×Value)}(r:KV kvs vs)(k:κ){y:V}{u:Value}(ry:RelV y u) :
  KV (kvs.map λkv=>if kv.1=k then (kv.1,y)else kv) (vs.map λkv=>if kv.1=k then (kv.1,u)else kv):=by
 unfold KV at r ⊢;induction r with
 |nil=>exact .nil
 |@cons p q d f h t b=>
  rw[gV,gV];refine .cons ?_ b;obtain⟨a,c⟩:=h;by_cases e:p.1=k
  .rw[gQ e,gQ (a.symm.trans e)];exact⟨a,ry⟩
  .rw[R0 e,R0 (λz=>e (a.trans z))];exact⟨a,c⟩
def KV.put{kvs:List (κ×V)}{vs:List (κ×Value)}(r:KV kvs vs)(k:κ){y:V}{u:Value}(ry:RelV y u):KV (putK kvs k y) (stored vs k u):=by
 unfold putK stored;rw[r.any k];by_cases e:(vs.any λa=>decide (a.1=k))=true
 .rw[gQ e,gQ e];exact r.repl k ry
 .rw[R0 e,R0 e];exact Paired.snoc r ⟨rfl,ry⟩
end
def vV{P:Program}{w:World}{k:Key}{u:Value}(r:RelV (kV k) u):(bO P w).is k u=true:=by
 cases k with
 |inl i=>obtain⟨t,e⟩:=(show ∃t,u=Value.int i t from r);subst e;exact ud P w i t
 |inr x=>obtain⟨t,e⟩:=(show ∃t,u=Value.str x t from r);subst e;exact ue P w x t
theorem qv{P:Program}{w:World}:∀{ks:List Key}{us:List Value},Vals (ks.map kV) us->ItemsAre (bO P w) ks us
 |[],_,r=>by rw[Uc]at r;cases r;exact .nil
 |k :: ks,_,r=>by
  rw[gV]at r;cases r with
  |cons h t=>exact .cons (vV h) (qv t)
abbrev KT(H:Hp):List (List Key×V)->List (List Key×Addr×Value)->Prop:=Paired λp q=>p.1=q.1/\H q.2.1=some (.tup (p.1.map kV))/\RelV p.2 q.2.2
def KT.val{H:Hp}{kvs:List (List Key×V)}{xs:List (List Key×Addr×Value)}(r:KT H kvs xs)(k:List Key):nq (fQ kvs k) ((atKey xs k).map (·.2)):=by
 induction r with
 |nil=>exact True.intro
 |@cons p q i a h t f=>
  obtain⟨d,_,g⟩:=h;by_cases e:p.1=k
  .have c:q.1=k:=d.symm.trans e;have b:atKey (q :: a) k=some q.2:=by simp[atKey,SN,c]
   rw[ja e,b];exact g
  .have c:¬ q.1=k:=λz=>e (d.trans z);have b:atKey (q :: a) k=atKey a k:=by simp[atKey,SN,c]
   rw[jb e,b];exact f
section
variable{P:Program}{w:World}{H:Hp}{h:Heap}{a:Addr}
def Cb{u:HO}(ok:dX P w H h)(e:Rd H a u):b7 P w H h a u:=e.ok ok
def Lh{kvs:List (Key×V)}(ok:dX P w H h)(e:Rd H a (.dK kvs)):kvs.length<=sizeLine/\(a==sysModules)=false/\∃vs,KV kvs vs/\h.DictOf (bO P w) a vs:=
 show b7 P w H h a (.dK kvs)from Cb ok e
def yd{ks:List Key}(ok:dX P w H h)(e:H a=some (.tup (ks.map kV))):(tupleKind (bO P w)).is h ks a:=by
 obtain⟨_,b,r,o,c,d,n,f⟩:=(show b7 P w H h a (.tup (ks.map kV))from ok a _ e)
 exact⟨o,b.toArray,n,c,d,f,by simpa using qv r⟩
def Li{kvs:List (List Key×V)}(ok:dX P w H h)(e:Rd H a (.dT kvs)):kvs.length<=sizeLine/\(a==sysModules)=false/\
  ∃xs,KT H kvs xs/\h.DictOfH (tupleKind (bO P w)) a xs:=by
 obtain⟨z,y,xs,r,o,d,f,g,i,j,A,B⟩:=(show b7 P w H h a (.dT kvs)from Cb ok e)
 refine⟨z,y,xs,r,o,d,f,g,i,j,A,λx b=>?_,B⟩;have all:∀{l:List (List Key×V)} {m:List (List Key×Addr×Value)},KT H l m->∀x∈m,(tupleKind (bO P w)).is h x.1 x.2.1:=by
  intro l m q;induction q with
  |nil=>intro x b;exact nomatch b
  |@cons p q F G c t C=>
   intro x b;rcases List.mem_cons.mp b with e|b
   .subst e;exact yd ok (by rw[<-c.1];exact c.2.1)
   .exact C x b
 exact all r x b
end
def vW(H:Hp)(a:Addr)(y:V)(r:Option V):Prop:=
 (∃kvs k,Rd H a (.dK kvs)/\y=kV k/\r=fQ kvs k)\/∃kvs k b,Rd H a (.dT kvs)/\y=.ref b/\H b=some (.tup (k.map kV))/\r=fQ kvs k
theorem vW.k{H:Hp}{a:Addr}{kvs:List (Key×V)}{k:Key}(e:H a=some (.dK kvs)):vW H a (kV k) (fQ kvs k):=.inl ⟨kvs,k,.inl e,rfl,rfl⟩
section
variable{X:Cx}{pins:List (Addr×Obj)}{σ:St}{H:Hp}{s:Shared}{a:Addr}{y:V}{u:Value}{o:Option V}{A:Around}{E:Value->Shared->Prop}
def Inv.big(I:Inv X pins σ H s):sysModules<s.heap.objs.size:=by
 have h:mainGlobals<s.heap.objs.size:=(I.mod.glob.keeps I.bk).lt;exact Nat.lt_trans (by decide) h
def N7{Q:Value->Shared->Prop}(hu:A.units+1<cLine)(I:Inv X pins σ H s)(g:vW H a y o)(ry:RelV y u)(h:∀s',Inv X pins σ H s'->Q (.bool o.isSome) s') :
  wpAny (model X.prog X.w) A (compareOp .In u (.ref a)) Q E s:=by
 rcases g with ⟨d,k,e,f,l⟩|⟨d,k,b,e,f,p,l⟩
 .subst f;obtain⟨z,i,r,c,j⟩:=Lh I.hok e;refine wpAny_in_of (vV ry) i j.mapOf ?_;rw[<- (c.val k).qu,<-l];exact h _ (I.tok _)
 .subst f;cases (show u=Value.ref b from ry);obtain⟨z,i,x,c,j⟩:=Li I.hok e;refine wpAny_in_heap (UI hu) (yd I.hok p) i j ?_;have q:=(c.val k).qu;rw[Option.isSome_map]at q;rw[<-q,<-l];exact h _ (I.tok _)
def Gv{P:Program}{w:World}{H':Hp}{h':Heap}{kvs:List (Key×V)}{vs:List (Key×Value)}(z:kvs.length<=sizeLine)(hd:(a==sysModules)=false)(rel:KV kvs vs)(dd:h'.DictOf (bO P w) a vs) :
  b7 P w H' h' a (.dK kvs):=⟨z,hd,vs,rel,dd⟩
end
noncomputable def jR(kvs more:List (Key×V)):List (Key×V):=more.foldl (λa b=>putK a b.1 b.2) kvs
def KV.merge:∀{more:List (Key×V)}{rs:List (Key×Value)}{kvs:List (Key×V)}{vs:List (Key×Value)},KV more rs->KV kvs vs->KV (jR kvs more) (merged vs rs):=by
 intro more rs kvs vs r;unfold KV at r;induction r generalizing kvs vs with
 |nil=>intro q;exact q
 |@cons p q c d h t a=>
  intro b;have e:KV (putK kvs p.1 p.2) (stored vs q.1 q.2):=by
   have:=b.put p.1 h.2;rw[<-h.1];exact this
  exact a e
theorem kN:∀(more kvs:List (Key×V)),(jR kvs more).length<=kvs.length+more.length
 |[],kvs=>by show kvs.length<=kvs.length+0;omega
 |p :: r,kvs=>by
  have a:=kN r (putK kvs p.1 p.2);have b:=ug kvs p.1 p.2;show(jR (putK kvs p.1 p.2) r).length<=_;rw[R3];omega
end L2
namespace Ev
inductive D where
 |aY|bl (b:Bool)|int (i:Int)|str (s:List Nat)|tup (ds:List D)|ref (n:Nat)
inductive O where
 |lst (ds:List D)|bz (ds:List D)
 |bM (kvs:List (List Nat×List Nat))
abbrev Hh:=List O
abbrev Fr:=List (Option D)
inductive R(α:Type) where
 |ok (a:α) (h:Hh)
 |bad
noncomputable def R.bind{α β:Type}(r:R α)(f:α->Hh->R β):R β:=
 match r with
 |.ok a h=>f a h
 |.bad=>.bad
@[simp] theorem ak{α β:Type}(a:α)(h:Hh)(f:α->Hh->R β):(R.ok a h).bind f=f a h:=rfl
@[simp] theorem AL{α β:Type}(f:α->Hh->R β):(R.bad:R α).bind f=.bad:=rfl
def ah{α β:Type}{r:R α}{f:α->Hh->R β}{b:β}{h:Hh}(e:r.bind f=.ok b h):∃a h1,r=.ok a h1/\f a h1=.ok b h:=by
 cases r with
 |ok a h1=>exact⟨a,h1,rfl,e⟩
 |bad=>cases e
noncomputable def R.of{α:Type}(o:Option α)(h:Hh):R α:=match o with
 |some a=>.ok a h
 |none=>.bad
@[simp] theorem dP{α:Type}(a:α)(h:Hh):R.of (some a) h=.ok a h:=rfl
@[simp] theorem of_none{α:Type}(h:Hh):R.of (none:Option α) h=.bad:=rfl
def aE{α:Type}{o:Option α}{h h':Hh}{a:α}(e:R.of o h=.ok a h'):o=some a/\h'=h:=by
 cases o with
 |none=>cases e
 |some b=>cases e;exact⟨rfl,rfl⟩
inductive bF where
 |add|sub|mul|fdiv|mod
inductive bu where
 |eq|ne|lt|gt
 |isin|ko
 |rN
inductive TY where
 |int|bool|str|tuple|list
inductive BI where
 |len|sum|min
 |lC
 |nA
inductive ME where
 |join|append|extend|pop
inductive T where
 |one (i:Nat)|many (l:List Nat)
mutual
inductive E where
 |c (d:D)|v (i:Nat)|tup (es:Es)|lst (es:Es)
 |bin (o:bF) (a b:E)|cmp (o:bu) (a b:E)
 |nt (a:E)|neg (a:E)|an (a b:E)|orr (a b:E)|qw (t a b:E)
 |ix (a b:E)|sl (a:E) (lo hi:Eo)
 |rv (a:E)
 |jS (a:E)
 |cl (f:Nat) (es:Es)|bi (b:BI) (es:Es)|me (m:ME) (o:E) (es:Es)
 |jt (a:E) (ts:List TY)
 |comp (elt:E) (t:T) (it:It) (cond:Eo)
 |dJ (it:It)
 |iw (a:E)
 |qx (kvs:List (List Nat×List Nat))|rO (a k:E)
inductive Es where
 |nil|cons (e:E) (es:Es)
inductive Eo where
 |no|yes (e:E)
inductive It where
 |seq (e:E)|eS (es:Es)
 |zip (a b:E)
 |jc (a:E)|jd (a b:E)
 |rev (a:E)
end
mutual
inductive S where
 |set (i:Nat) (e:E)
 |exp (e:E)|ret (e:E)|iff (t:E) (a b:Ss)|for (t:T) (it:It) (b:Ss)|jT (t:E) (b:Ss)
 |fJ (c:Nat)
inductive Ss where
 |nil|cons (s:S) (ss:Ss)
end
inductive Fl where
 |nx|bk|ct|ret (d:D)
noncomputable def big:Nat:=16777216
noncomputable def bV(f:D->D->Option Bool):List D->List D->Option Bool
 |[],[]=>some true
 |x :: xs,y :: ys=>do
  let b <-f x y
  let c <-bV f xs ys
  pure (b&&c)
 |_,_=>some false
noncomputable def aL(h:Hh)(n:Nat):Option (List D):=match h[n]? with
 |some (.lst ds)=>some ds
 |some (.bz ds)=>some ds
 |_=>none
noncomputable def b2i(b:Bool):Int:=if b then 1 else 0
noncomputable def je(h:Hh)(f:D->D->Option Bool)(a b:Nat):Option Bool:=if a=b then (aL h a).map λ_=>true else match h[a]?,h[b]? with
 |some (.lst x),some (.lst y)=>bV f x y
 |some (.bz x),some (.lst y)=>bV f x y
 |some (.lst x),some (.bz y)=>bV f x y
 |_,_=>none
noncomputable def fV(h:Hh):Nat->D->D->Option Bool
 |0,_,_=>none
 |_+1,.aY,.aY=>some true
 |_+1,.bl a,.bl b=>some (a==b)
 |_+1,.int a,.int b=>some (a==b)
 |_+1,.bl a,.int b=>some (b2i a==b)
 |_+1,.int a,.bl b=>some (a==b2i b)
 |_+1,.str a,.str b=>some (a==b)
 |n+1,.tup a,.tup b=>bV (fV h n) a b
 |n+1,.ref a,.ref b=>je h (fV h n) a b
 |_+1,.ref a,_=>(aL h a).map λ_=>false
 |_+1,_,.ref a=>(aL h a).map λ_=>false
 |_+1,_,_=>some false
noncomputable def deep:Nat:=20
noncomputable def truthy(h:Hh):D->Option Bool
 |.aY=>some false
 |.bl b=>some b
 |.int i=>some (i != 0)
 |.str s=>some (!s.isEmpty)
 |.tup a=>some (!a.isEmpty)
 |.ref n=>match h[n]? with
  |some (.bM kvs)=>some (!kvs.isEmpty)
  |_=>(aL h n).map λa=>!a.isEmpty
noncomputable def alloc(ds:List D)(h:Hh):R D:=if ds.length<=big then .ok (.ref h.length) (h++[.lst ds])else .bad
noncomputable def rep{α:Type}(k:Nat)(l:List α):List α:=(List.replicate k l).flatten
noncomputable def bQ(i j:Int):Bool:=(decide (-(2 ^ 64)<i)&&decide (i<2 ^ 64)) || (decide (-(2 ^ 64)<j)&&decide (j<2 ^ 64))
noncomputable def bS:bF->D->D->Hh->R D
 |.add,.int i,.int j,h=>.ok (.int (i+j)) h
 |.add,.str a,.str b,h=>if a.length+b.length<=big then .ok (.str (a++b)) h else .bad
 |.add,.tup a,.tup b,h=>if a.length+b.length<=big then .ok (.tup (a++b)) h else .bad
 |.add,.ref a,.ref b,h=>match h[a]?,h[b]? with
  |some (.lst x),some (.lst y)=>alloc (x++y) h
  |_,_=>.bad
 |.sub,.int i,.int j,h=>.ok (.int (i - j)) h
 |.mul,.int i,.int j,h=>if bQ i j then .ok (.int (i*j)) h else .bad
 |.mul,.str a,.int k,h=>if 0<=k/\k<=1000/\a.length<=1000 then .ok (.str (rep k.toNat a)) h else .bad
 |.mul,.tup a,.int k,h=>if 0<=k/\k<=1000/\a.length<=1000 then .ok (.tup (rep k.toNat a)) h else .bad
 |.mul,.ref a,.int k,h=>match h[a]? with
  |some (.lst x)=>if 0<=k/\k<=1000/\x.length<=1000 then alloc (rep k.toNat x) h else .bad
  |_=>.bad
 |.fdiv,.int i,.int j,h=>if 0<j/\j<1073741824 then .ok (.int (i / j)) h else .bad
 |.mod,.int i,.int j,h=>if 0<j then .ok (.int (i % j)) h else .bad
 |_,_,_,_=>.bad
noncomputable def mem(h:Hh)(x:D):List D->Option Bool
 |[]=>some false
 |y :: ys=>do
  let b <-fV h deep y x
  let c <-mem h x ys
  pure (b ||c)
noncomputable def isin(x y:D)(h:Hh):Option Bool:=match y with
 |.str s=>match x with
  |.str [c]=>some (s.contains c)
  |_=>none
 |.tup a=>mem h x a
 |.ref n=>(aL h n).bind λa=>mem h x a
 |_=>none
noncomputable def lexLe:List Nat->List Nat->Bool
 |[],_=>true
 |_ :: _,[]=>false
 |x :: xs,y :: ys=>if x=y then lexLe xs ys else decide (x<y)
noncomputable def rP(x y:D)(h:Hh):Option Bool:=match x,y with
 |.str k,.ref n=>match h[n]? with
  |some (.bM kvs)=>some ((kvs.map (·.1)).contains k)
  |_=>none
 |_,_=>none
noncomputable def cop(o:bu)(x y:D)(h:Hh):Option Bool:=match o,x,y with
 |.eq,x,y=>fV h deep x y
 |.ne,x,y=>(fV h deep x y).map (!·)
 |.lt,.int i,.int j=>some (decide (i<j))
 |.gt,.int i,.int j=>some (decide (j<i))
 |.isin,x,y=>isin x y h
 |.ko,x,y=>(isin x y h).map (!·)
 |.rN,x,y=>rP x y h
 |_,_,_=>none
noncomputable def dG(n:Nat)(i:Int):Option Nat:=if 0<=i then (if i<n then some i.toNat else none)else if -(n:Int)<=i then some (i+n).toNat else none
noncomputable def bH{α:Type}(xs:List α)(i:Int):Option α:=(dG xs.length i).bind λj=>xs[j]?
noncomputable def dY(x y:D)(h:Hh):Option D:=match x,y with
 |.tup a,.int i=>bH a i
 |.str s,.int i=>(bH s i).map λc=>.str [c]
 |.ref n,.int i=>(aL h n).bind λa=>bH a i
 |_,_=>none
noncomputable def aI(n d:Nat):Option Int->Nat
 |none=>d
 |some v=>if v<0 then (v+n).toNat else min v.toNat n
noncomputable def cut{α:Type}(xs:List α)(lo hi:Option Int):List α:=(xs.drop (aI xs.length 0 lo)).take (aI xs.length xs.length hi - aI xs.length 0 lo)
noncomputable def gk(x:D)(lo hi:Option Int)(h:Hh):R D:=match x with
 |.tup a=>.ok (.tup (cut a lo hi)) h
 |.str s=>.ok (.str (cut s lo hi)) h
 |.ref n=>match aL h n with
  |some a=>alloc (cut a lo hi) h
  |none=>.bad
 |_=>.bad
noncomputable def kO(x:D)(h:Hh):R D:=match x with
 |.tup a=>.ok (.tup a.reverse) h
 |.str s=>.ok (.str s.reverse) h
 |.ref n=>match aL h n with
  |some a=>alloc a.reverse h
  |none=>.bad
 |_=>.bad
noncomputable def cG(h:Hh):D->TY->Bool
 |.bl _,.bool=>true
 |.bl _,.int=>true
 |.int _,.int=>true
 |.str _,.str=>true
 |.tup _,.tuple=>true
 |.ref n,.list=>(aL h n).isSome
 |_,_=>false
noncomputable def boolsOf:List D->Option (List Bool)
 |[]=>some []
 |.bl b :: ds=>(boolsOf ds).map λr=>b :: r
 |_=>none
noncomputable def intsOf:List D->Option (List Int)
 |[]=>some []
 |.int i :: ds=>(intsOf ds).map λr=>i :: r
 |_=>none
noncomputable def strsOf:List D->Option (List (List Nat))
 |[]=>some []
 |.str s :: ds=>(strsOf ds).map λr=>s :: r
 |_=>none
noncomputable def bW(sep:List Nat):List (List Nat)->List Nat
 |[]=>[]
 |[s]=>s
 |s :: t :: r=>s++sep++bW sep (t :: r)
noncomputable def Gw(x:List Nat):List (List Nat)->List (List Nat)
 |[]=>[x]
 |y :: ys=>if lexLe x y then x :: y :: ys else y :: Gw x ys
noncomputable def cX:List (List Nat)->List (List Nat)
 |[]=>[]
 |x :: xs=>Gw x (cX xs)
noncomputable def Gx(kvs:List (List Nat×List Nat))(k:List Nat):Option (List Nat):=(kvs.find? λp=>decide (p.1=k)).map (·.2)
noncomputable def AM(x y:D)(h:Hh):Option D:=match x,y with
 |.ref n,.str k=>match h[n]? with
  |some (.bM kvs)=>(Gx kvs k).bind λs=>if s=[]then none else some (.str s)
  |_=>none
 |_,_=>none
noncomputable def fD:List D->Option (List (List Nat))
 |[]=>some []
 |.tup [.str k,.bl true] :: ds=>(fD ds).map λr=>k :: r
 |_=>none
noncomputable def mW(a:List (List Nat))(k:List Nat):List (List Nat):=if k∈a then a else a++[k]
noncomputable def dk(l:List (List Nat)):List (List Nat×List Nat):=(l.foldl mW []).map λk=>(k,[])
noncomputable def ye:List Int->Option Int
 |[]=>none
 |i :: is=>some (is.foldl max i)
noncomputable def bZ(b:BI)(xs:List D)(h:Hh):R D:=match b,xs with
 |.len,[.str s]=>if s.length<=big then .ok (.int s.length) h else .bad
 |.len,[.tup a]=>.ok (.int a.length) h
 |.len,[.ref n]=>R.of ((aL h n).map λa=>.int a.length) h
 |.sum,[.ref n]=>R.of (((aL h n).bind intsOf).map λd=>.int d.sum) h
 |.min,[.int i,.int j]=>.ok (.int (if j<i then j else i)) h
 |.nA,[.ref n]=>R.of ((((aL h n).bind intsOf).bind ye).map .int) h
 |.lC,[.ref n]=>match (aL h n).bind fD with
  |some c=>if c≠[]/\c.length<=100000 then .ok (.ref h.length) (h++[.bM (dk c)])else .bad
  |none=>.bad
 |_,_=>.bad
noncomputable def fh(m:ME)(o:D)(xs:List D)(h:Hh):R D:=match m,o,xs with
 |.join,.str sep,[.ref n]=>match (aL h n).bind strsOf with
  |some a=>if (a.map (·.length)).sum+a.length*sep.length<=big then .ok (.str (bW sep a)) h else .bad
  |none=>.bad
 |.append,.ref n,[x]=>match h[n]? with
  |some (.lst ds)=>if ds.length<big then .ok .aY (h.set n (.lst (ds++[x])))else .bad
  |_=>.bad
 |.extend,.ref n,[.ref m]=>match h[n]?,h[m]? with
  |some (.lst ds),some (.lst es)=>if ds.length+es.length<=big then .ok .aY (h.set n (.lst (ds++es)))else .bad
  |_,_=>.bad
 |.pop,.ref n,[]=>match h[n]? with
  |some (.lst ds)=>match ds[ds.length - 1]? with
   |some x=>.ok x (h.set n (.lst ds.dropLast))
   |none=>.bad
  |_=>.bad
 |_,_,_=>.bad
noncomputable def uH(m:ME)(x:D)(h:Hh):Bool:=match m,x with
 |.join,.str _=>true
 |.join,_=>false
 |_,.ref n=>(aL h n).isSome
 |_,_=>false
noncomputable def kq(x:D):List (D×D)->Option D
 |[]=>none
 | (k,v) :: r=>match fV [] 1 k x with
  |some true=>some v
  |some false=>kq x r
  |none=>none
abbrev Src:=List D×List (Nat×List D)
noncomputable def eK(h:Hh):D->Option Src
 |.tup a=>some (a,[])
 |.str s=>some (s.map λc=>.str [c],[])
 |.ref n=>(aL h n).map λa=>(a,[(n,a)])
 |_=>none
noncomputable def range(lo:Int)(n:Nat):List D:=(List.range n).map λ(i:Nat)=>.int (lo+i)
noncomputable def dB:List D->Option Src
 |[.int j]=>if -(2 ^ 62)<=j/\j<2 ^ 62 then some (range 0 j.toNat,[])else none
 |[.int i,.int j]=>if -(2 ^ 62)<=i/\i<2 ^ 62/\-(2 ^ 62)<=j/\j<2 ^ 62 then some (range i (j - i).toNat,[])else none
 |_=>none
noncomputable def cD(a b:List D):List D:=List.zipWith (λx y=>.tup [x,y]) a b
noncomputable def cH:Int->List D->List D
 |_,[]=>[]
 |k,x :: xs=>.tup [.int k,x] :: cH (k+1) xs
noncomputable def AN:D->Option (List D)
 |.str a=>some (cH 0 (a.map λc=>.str [c]))
 |_=>none
noncomputable def vX:D->D->Option (List D)
 |.str a,.str b=>some (cD (a.map λc=>.str [c]) (b.map λc=>.str [c]))
 |_,_=>none
noncomputable def vY(a b:List D):Bool:=@decide (a=b) (Classical.propDecidable _)
def qy(a b:List D):vY a b=true↔a=b:=@decide_eq_true_iff _ (Classical.propDecidable _)
@[simp] theorem vZ(a:List D):vY a a=true:=(qy a a).mpr rfl
noncomputable def stays(h:Hh):List (Nat×List D)->Bool
 |[]=>true
 | (n,ds) :: r=>(match aL h n with|some es=>vY es ds|none=>false)&&stays h r
noncomputable def cg:List Nat->List D->Fr->Option Fr
 |[],[],fr=>some fr
 |i :: is,d :: ds,fr=>cg is ds (fr.set i (some d))
 |_,_,_=>none
noncomputable def bT:T->D->Fr->Option Fr
 |.one i,d,fr=>some (fr.set i (some d))
 |.many l,.tup ds,fr=>cg l ds fr
 |_,_,_=>none
noncomputable def slots:T->List Nat
 |.one i=>[i]
 |.many l=>l
noncomputable def undef(t:T)(fr:Fr):Bool:=(slots t).all λi=>(fr[i]?.join).isNone
noncomputable def Gy:D->Option (List D)
 |.tup a=>some a
 |_=>none
noncomputable def o6:D->Hh->R D
 |.tup a,h=>.ok (.tup a) h
 |.ref n,h=>match aL h n with
  |some a=>if a.length<=big then .ok (.tup a) h else .bad
  |none=>.bad
 |_,_=>.bad
noncomputable def v5:D->Hh->R D
 |.ref n,h=>match aL h n with
  |some a=>if a.length<=big then .ok (.tup a.reverse) h else .bad
  |none=>.bad
 |_,_=>.bad
noncomputable def o7(h:Hh):D->Option Src
 |.ref n=>(aL h n).map λa=>(a,[(n,a)])
 |_=>none
noncomputable def cz(f:D->Hh->R (Option D))(ck:List (Nat×List D)):List D->Hh->R (List D)
 |[],h=>if stays h ck then .ok [] h else .bad
 |d :: ds,h=>if stays h ck then (f d h).bind λo a=>(cz f ck ds a).bind λr b=>.ok (o.toList++r) b else .bad
noncomputable def forL(f:D->Fr->Hh->R (Fl×Fr))(ck:List (Nat×List D)):List D->Fr->Hh->R (Fl×Fr)
 |[],fr,h=>if stays h ck then .ok (.nx,fr) h else .bad
 |d :: ds,fr,h=>if stays h ck then (f d fr h).bind λp a=>match p.1 with
   |.nx=>forL f ck ds p.2 a
   |.ct=>forL f ck ds p.2 a
   |.bk=>.ok (.nx,p.2) a
   |.ret x=>.ok (.ret x,p.2) a
  else .bad
noncomputable def dD(t:Fr->Hh->R Bool)(f:Fr->Hh->R (Fl×Fr)):Nat->Fr->Hh->R (Fl×Fr)
 |0,_,_=>.bad
 |n+1,fr,h=>(t fr h).bind λb c=>if b then (f fr c).bind λp a=>match p.1 with
   |.nx=>dD t f n p.2 a
   |.ct=>dD t f n p.2 a
   |.bk=>.ok (.nx,p.2) a
   |.ret x=>.ok (.ret x,p.2) a
  else .ok (.nx,fr) c
abbrev aH:=Nat->List D->Hh->R D
noncomputable def intOf:D->Option Int
 |.int i=>some i
 |_=>none
mutual
noncomputable def ev(P:aH):E->Fr->Hh->R D
 |.c d,_,h=>.ok d h
 |.v i,fr,h=>R.of (fr[i]?.join) h
 |.tup es,fr,h=>(bI P es fr h).bind λj e=>if j.length<=big then .ok (.tup j) e else .bad
 |.lst es,fr,h=>(bI P es fr h).bind λj e=>alloc j e
 |.bin o a b,fr,h=>(ev P a fr h).bind λx e=>(ev P b fr e).bind λy g=>bS o x y g
 |.cmp o a b,fr,h=>(ev P a fr h).bind λx e=>(ev P b fr e).bind λy g=>R.of ((cop o x y g).map .bl) g
 |.nt a,fr,h=>(ev P a fr h).bind λx e=>match x with
   |.bl b=>.ok (.bl (!b)) e
   |_=>.bad
 |.neg a,fr,h=>(ev P a fr h).bind λx e=>match x with
   |.int i=>.ok (.int (-i)) e
   |_=>.bad
 |.an a b,fr,h=>(ev P a fr h).bind λx e=>match x with
   |.bl true=>ev P b fr e
   |.bl false=>.ok (.bl false) e
   |_=>.bad
 |.orr a b,fr,h=>(ev P a fr h).bind λx e=>match x with
   |.bl true=>.ok (.bl true) e
   |.bl false=>ev P b fr e
   |_=>.bad
 |.qw t a b,fr,h=>(aD P t fr h).bind λk e=>if k then ev P a fr e else ev P b fr e
 |.ix a b,fr,h=>(ev P a fr h).bind λx e=>(ev P b fr e).bind λy g=>R.of (dY x y g) g
 |.sl a lo hi,fr,h=>(ev P a fr h).bind λx e=>(eX P lo fr e).bind λl g=>(eX P hi fr g).bind λu p=>gk x l u p
 |.rv a,fr,h=>(ev P a fr h).bind λx e=>kO x e
 |.jS a,fr,h=>(ev P a fr h).bind λx e=>v5 x e
 |.cl f es,fr,h=>(bI P es fr h).bind λj e=>P f j e
 |.bi b es,fr,h=>(bI P es fr h).bind λj e=>bZ b j e
 |.me m o es,fr,h=>(ev P o fr h).bind λx e=>if uH m x e then (bI P es fr e).bind λj g=>fh m x j g else .bad
 |.jt a ts,fr,h=>(ev P a fr h).bind λx e=>.ok (.bl (ts.any (cG e x))) e
 |.comp elt t it cond,fr,h=>(bJ P it fr h).bind λs e=>if undef t fr then
   (cz (λd g=>match bT t d fr with
    |none=>.bad
    |some q=>(gm P cond q g).bind λk p=>if k then (ev P elt q p).bind λx r=>.ok (some x) r else .ok none p) s.2 s.1 e).bind λj g=>alloc j g else .bad
 |.dJ it,fr,h=>(bJ P it fr h).bind λs e=>alloc s.1 e
 |.qx kvs,_,h=>if kvs=[]then .bad else .ok (.ref h.length) (h++[.bM kvs])
 |.rO a k,fr,h=>(ev P a fr h).bind λx e=>(ev P k fr e).bind λy g=>R.of (AM x y g) g
 |.iw a,fr,h=>(ev P a fr h).bind λx e=>o6 x e
noncomputable def bI(P:aH):Es->Fr->Hh->R (List D)
 |.nil,_,h=>.ok [] h
 |.cons e es,fr,h=>(ev P e fr h).bind λd a=>(bI P es fr a).bind λb c=>.ok (d :: b) c
noncomputable def eX(P:aH):Eo->Fr->Hh->R (Option Int)
 |.no,_,h=>.ok none h
 |.yes e,fr,h=>(ev P e fr h).bind λd a=>R.of ((intOf d).map some) a
noncomputable def gm(P:aH):Eo->Fr->Hh->R Bool
 |.no,_,h=>.ok true h
 |.yes e,fr,h=>aD P e fr h
noncomputable def aD(P:aH):E->Fr->Hh->R Bool
 |.an a b,fr,h=>(aD P a fr h).bind λk c=>if k then aD P b fr c else .ok false c
 |.orr a b,fr,h=>(aD P a fr h).bind λk c=>if k then .ok true c else aD P b fr c
 |.nt a,fr,h=>(aD P a fr h).bind λk c=>.ok (!k) c
 |e,fr,h=>(ev P e fr h).bind λx c=>R.of (truthy c x) c
noncomputable def bJ(P:aH):It->Fr->Hh->R Src
 |.seq e,fr,h=>(ev P e fr h).bind λx c=>R.of (eK c x) c
 |.eS es,fr,h=>(bI P es fr h).bind λf c=>R.of (dB f) c
 |.zip a b,fr,h=>(ev P a fr h).bind λx c=>(ev P b fr c).bind λy d=>R.of ((o7 d x).bind λs=>(o7 d y).map λt=>(cD s.1 t.1,s.2++t.2)) d
 |.jc a,fr,h=>(ev P a fr h).bind λx c=>R.of ((AN x).map λl=>(l,[])) c
 |.jd a b,fr,h=>(ev P a fr h).bind λx c=>(ev P b fr c).bind λy d=>R.of ((vX x y).map λl=>(l,[])) d
 |.rev a,fr,h=>(ev P a fr h).bind λx c=>R.of ((Gy x).map λf=>(f.reverse,[])) c
end
mutual
noncomputable def ex(P:aH)(w:Nat):S->Fr->Hh->R (Fl×Fr)
 |.set i e,fr,h=>(ev P e fr h).bind λx c=>.ok (.nx,fr.set i (some x)) c
 |.exp e,fr,h=>(ev P e fr h).bind λ_ c=>.ok (.nx,fr) c
 |.ret e,fr,h=>(ev P e fr h).bind λx c=>.ok (.ret x,fr) c
 |.iff t a b,fr,h=>(aD P t fr h).bind λk c=>if k then exs P w a fr c else exs P w b fr c
 |.for t it b,fr,h=>(bJ P it fr h).bind λs c=>forL (λd f g=>match bT t d f with
   |some j=>exs P w b j g
   |none=>.bad) s.2 s.1 fr c
 |.jT t b,fr,h=>dD (λf g=>aD P t f g) (λf g=>exs P w b f g) w fr h
 |.fJ _,_,_=>.bad
noncomputable def exs(P:aH)(w:Nat):Ss->Fr->Hh->R (Fl×Fr)
 |.nil,fr,h=>.ok (.nx,fr) h
 |.cons s ss,fr,h=>(ex P w s fr h).bind λp a=>match p.1 with
   |.nx=>exs P w ss p.2 a
   |_=>.ok p a
end
def iy(P:aH)(w:Nat)(fr:Fr)(h:Hh):(∀e,ex P w (.exp e) fr h=((ev P e fr h).bind λ_ h1=>.ok (.nx,fr) h1))
 /\(∀i e,ex P w (.set i e) fr h=((ev P e fr h).bind λx h1=>.ok (.nx,fr.set i (some x)) h1))
 /\(∀e,ex P w (.exp e) fr h=((ev P e fr h).bind λ_ h1=>.ok (.nx,fr) h1))
 /\(∀e,ex P w (.ret e) fr h=((ev P e fr h).bind λx h1=>.ok (.ret x,fr) h1))
 /\(∀t a b,ex P w (.iff t a b) fr h=((aD P t fr h).bind λk h1=>if k then exs P w a fr h1 else exs P w b fr h1))
 /\(∀t it b,ex P w (.for t it b) fr h=((bJ P it fr h).bind λs h1=>forL (λd ao h2=>match bT t d ao with
   |some b8=>exs P w b b8 h2
   |none=>.bad) s.2 s.1 fr h1))
 /\(∀t b,ex P w (.jT t b) fr h=(dD (λao h2=>aD P t ao h2) (λao h2=>exs P w b ao h2) w fr h))
 /\(∀x1,ex P w (.fJ x1) fr h=(.bad))
 /\True:=by and_intros<;>intros<;>first|rfl|trivial
structure Fn where
 np:Nat
 ns:Nat
 body:Ss
noncomputable def ek(fn:Fn)(ds:List D):Fr:=ds.map some++List.replicate (fn.ns - fn.np) none
noncomputable def endOf(r:R (Fl×Fr)):R D:=r.bind λp h=>match p.1 with
 |.ret d=>.ok d h
 |.nx=>.ok .aY h
 |_=>.bad
noncomputable def run(F:List Fn)(w:Nat):Nat->aH
 |0,_,_,_=>.bad
 |n+1,f,ds,h=>match F[f]? with
  |some a=>if ds.length=a.np then endOf (exs (run F w n) w a.body (ek a ds) h)else .bad
  |none=>.bad
def nP(F:List Fn)(w n f:Nat)(ds:List D)(h:Hh):run F w (n+1) f ds h=match F[f]? with
  |some a=>if ds.length=a.np then endOf (exs (run F w n) w a.body (ek a ds) h)else .bad
  |none=>.bad:=rfl
end Ev
namespace Sm
open PySem PySem.Spec PyProof.Rows L2
noncomputable def aC(l:List Nat):Str:=⟨l.toArray⟩
def cE(l:List Nat):(aC l).length=l.length:=by simp[aC,Str.length]
def mE{a b:List Nat}(h:aC a=aC b):a=b:=by
 have c:a.toArray=b.toArray:=R8 Str.cps h;simpa using R8 Array.toList c
def fK:Ev.big=sizeLine:=by rw[Td];rfl
section
variable(K:PySem.W.Frag)
mutual
def RV(H:Hp)(r:List Addr):Ev.D->V->Prop
 |.aY,v=>v=.aY
 |.bl b,v=>v=.bl b
 |.int i,v=>v=.int i
 |.str s,v=>v=.str (aC s)/\s.length<=sizeLine
 |.ref n,v=>∃a,v=.ref a/\r[n]?=some a
 |.tup ds,v=>∃a vs,v=.ref a/\cU K H a vs/\aB H r ds vs
def aB(H:Hp)(r:List Addr):List Ev.D->List V->Prop
 |[],vs=>vs=[]
 |d :: ds,vs=>∃v w,vs=v :: w/\RV H r d v/\aB H r ds w
end
def v8(H:Hp)(a:Addr)(vs:List V):Prop:=(∃o,H a=some (.bz o (.lst vs)))\/
 ∃(o:Obj) (its:Array Value) (n:Nat),K.lookup a=some o/\o.cls=.type "list" /\o.dict=none/\o.data=.seq its n/\its.size<=sizeLine/\Vals vs its.toList
noncomputable def dv(s:List Nat):V:=if s=[]then .bl true else .str (aC s)
noncomputable def dM(kvs:List (List Nat×List Nat)):List (Key×V):=kvs.map λp=>(Sum.inr (aC p.1),dv p.2)
def RO(H:Hp)(r:List Addr):Ev.O->Addr->Prop
 |.lst ds,a=>∃vs,H a=some (.lst vs)/\aB K H r ds vs
 |.bz ds,a=>∃vs,v8 K H a vs/\aB K H r ds vs
 |.bM kvs,a=>H a=some (.dK (dM kvs))/\kvs≠[]/\∀p∈kvs,p.2.length<=sizeLine
structure HR(H:Hp)(r:List Addr)(h:Ev.Hh):Prop where
 len:r.length=h.length
 ob:∀(n:Nat) o,h[n]?=some o->∃a,r[n]?=some a/\RO K H r o a
 inj:∀(n m:Nat) a x y,r[n]?=some a->r[m]?=some a->h[n]?=some (.lst x)->h[m]?=some (.lst y)->n=m
structure Fm(r r':List Addr)(H H':Hp):Prop where
 pre:∀(n:Nat) a,r[n]?=some a->r'[n]?=some a
 new:∀a∈r',a∈r\/H a=none
 keep:∀a o,H a=some o->a∉r->H' a=some o
 tups:∀a vs,cU K H a vs->cU K H' a vs
end
section
variable{K:PySem.W.Frag}{H H1 H2:Hp}{r r1 r2:List Addr}{h:Ev.Hh}
def Fm.refl:Fm K r r H H:=⟨λ_ _ e=>e,λ_ e=>.inl e,λ_ _ e _=>e,λ_ _ e=>e
 ⟩
def Fm.trans(a:Fm K r r1 H H1)(b:Fm K r1 r2 H1 H2):Fm K r r2 H H2 where
 pre:=λn x e=>b.pre n x (a.pre n x e)
 new:=λx e=>by
  rcases b.new x e with q|q
  .exact a.new x q
  .by_cases z:x∈r
   .exact .inl z
   .refine .inr ?_;cases w:H x with
    |none=>rfl
    |some o=>rw[a.keep x o w z]at q;cases q
 keep:=λx o e n=>by
  refine b.keep x o (a.keep x o e n) λz=>?_;rcases a.new x z with q|q
  .exact n q
  .rw[e]at q;cases q
 tups:=λx c e=>b.tups x c (a.tups x c e)
mutual
theorem RV.grow(f:∀(n:Nat) a,r[n]?=some a->r1[n]?=some a)(g:∀a vs,cU K H a vs->cU K H1 a vs):∀{d:Ev.D}{v:V},RV K H r d v->RV K H1 r1 d v
 |.aY,_,e=>e
 |.bl _,_,e=>e
 |.int _,_,e=>e
 |.str _,_,e=>e
 |.ref n,_,⟨a,e,z⟩=>⟨a,e,f n a z⟩
 |.tup ds,_,⟨a,vs,e,z,q⟩=>⟨a,vs,e,g a vs z,aB.grow f g q⟩
theorem aB.grow(f:∀(n:Nat) a,r[n]?=some a->r1[n]?=some a)(g:∀a vs,cU K H a vs->cU K H1 a vs):∀{ds:List Ev.D}{vs:List V},aB K H r ds vs->aB K H1 r1 ds vs
 |[],_,e=>e
 |_ :: _,_,⟨v,w,e,z,q⟩=>⟨v,w,e,RV.grow f g z,aB.grow f g q⟩
end
def RV.mono(f:Fm K r r1 H H1){d:Ev.D}{v:V}(q:RV K H r d v):RV K H1 r1 d v:=q.grow f.pre f.tups
def aB.mono(f:Fm K r r1 H H1){ds:List Ev.D}{vs:List V}(q:aB K H r ds vs):aB K H1 r1 ds vs:=q.grow f.pre f.tups
def aB.nil:aB K H r [] []:=by simp[aB]
def aB.cons{d:Ev.D}{v:V}{ds:List Ev.D}{vs:List V}(a:RV K H r d v)(b:aB K H r ds vs):aB K H r (d :: ds) (v :: vs):=by
 simp only[aB];exact⟨v,vs,rfl,a,b⟩
theorem aB.length:∀{ds:List Ev.D}{vs:List V},aB K H r ds vs->vs.length=ds.length
 |[],_,e=>by simp only[aB]at e;subst e;rfl
 |_ :: _,_,e=>by
  simp only[aB]at e;obtain⟨v,w,rfl,_,q⟩:=e;simp[aB.length q]
theorem aB.get:∀{ds:List Ev.D}{vs:List V}{i:Nat}{d:Ev.D},aB K H r ds vs->ds[i]?=some d->∃v,vs[i]?=some v/\RV K H r d v
 |[],_,_,_,_,e=>by simp at e
 |_ :: _,_,0,_,h,e=>by
  simp only[aB]at h;obtain⟨v,w,rfl,z,q⟩:=h;simp at e;subst e;exact⟨v,by simp,z⟩
 |_ :: _,_,i+1,_,h,e=>by
  simp only[aB]at h;obtain⟨v,w,rfl,z,q⟩:=h;obtain⟨u,a,b⟩:=aB.get (i:=i) q (by simpa using e);exact⟨u,by simpa using a,b⟩
theorem aB.append:∀{ds es:List Ev.D}{vs ws:List V},aB K H r ds vs->aB K H r es ws->aB K H r (ds++es) (vs++ws)
 |[],_,_,_,a,b=>by simp only[aB]at a;subst a;simpa using b
 |_ :: _,_,_,_,a,b=>by
  simp only[aB]at a;obtain⟨v,w,rfl,z,q⟩:=a;simp only[Sg];exact .cons z (aB.append q b)
theorem aB.take:∀{ds:List Ev.D}{vs:List V}(n:Nat),aB K H r ds vs->aB K H r (ds.take n) (vs.take n)
 |_,_,0,_=>by simp[aB]
 |[],_,_+1,a=>by simp only[aB]at a;subst a;simp[aB]
 |_ :: _,_,n+1,a=>by
  simp only[aB]at a;obtain⟨v,w,rfl,z,q⟩:=a;simp only[Sq];exact .cons z (aB.take n q)
theorem aB.drop:∀{ds:List Ev.D}{vs:List V}(n:Nat),aB K H r ds vs->aB K H r (ds.drop n) (vs.drop n)
 |_,_,0,a=>by simpa using a
 |[],_,_+1,a=>by simp only[aB]at a;subst a;simp[aB]
 |_ :: _,_,n+1,a=>by
  simp only[aB]at a;obtain⟨v,w,rfl,z,q⟩:=a;simp only[TH];exact aB.drop n q
theorem aB.reverse:∀{ds:List Ev.D}{vs:List V},aB K H r ds vs->aB K H r ds.reverse vs.reverse
 |[],_,a=>by simp only[aB]at a;subst a;simp[aB]
 |_ :: _,_,a=>by
  simp only[aB]at a;obtain⟨v,w,rfl,z,q⟩:=a;simp only[R6];exact(aB.reverse q).append (.cons z .nil)
theorem aB.rep{ds:List Ev.D}{vs:List V}(a:aB K H r ds vs):∀k:Nat,aB K H r (Ev.rep k ds) (Ev.rep k vs)
 |0=>by simp[Ev.rep,aB]
 |k+1=>by
  have h:=aB.rep a k;simp only[Ev.rep,RU,S6]at h ⊢;exact a.append h
def Fm.laid{p:Addr}{o:HO}(hp:H p=none):Fm K r (r++[p]) H (upd H p o) where
 pre:=λn a e=>by rw[gE (List.getElem?_eq_some_iff.mp e).1];exact e
 new:=λa e=>by
  rcases List.mem_append.mp e with q|q
  .exact .inl q
  .rw[Tf]at q;subst q;exact .inr hp
 keep:=λa b e _=>by rw[aN (aZ e hp)];exact e
 tups:=λa c e=>by
  rcases e with (e|⟨b,e⟩)|e
  .exact .inl (.inl (by rw[aN (aZ e hp)];exact e))
  .exact .inl (.inr ⟨b,by rw[aN (aZ e hp)];exact e⟩)
  .exact .inr e
def Fm.tup{p:Addr}{o:HO}(hp:H p=none):Fm K r r H (upd H p o) where
 pre:=λn a e=>e
 new:=λa e=>.inl e
 keep:=λa b e _=>by rw[aN (aZ e hp)];exact e
 tups:=(Fm.laid (r:=r) hp).tups
theorem RO.mono{o:Ev.O}{a:Addr}(f:Fm K r r1 H H1)(q:RO K H r o a)(hl:∀ds vs,o=.lst ds->H a=some (.lst vs)->H1 a=some (.lst vs))(hf:∀ob vs,H a=some (.bz ob vs)->H1 a=some (.bz ob vs))
  (hs:∀kvs,o=.bM kvs->H a=some (.dK (dM kvs))->kvs≠[]->H1 a=some (.dK (dM kvs)))
  : RO K H1 r1 o a:=by
 cases o with
 |lst ds=>
  obtain⟨vs,e,z⟩:=q;exact⟨vs,hl ds vs rfl e,z.mono f⟩
 |bz ds=>
  obtain⟨vs,e,z⟩:=q;refine⟨vs,?_,z.mono f⟩;rcases e with ⟨ob,e⟩|e
  .exact .inl ⟨ob,hf _ _ e⟩
  .exact .inr e
 |bM kvs=>exact⟨hs kvs rfl q.1 q.2.1,q.2⟩
theorem HR.tup{p:Addr}{o:HO}(hr:HR K H r h)(hp:H p=none):HR K (upd H p o) r h where
 len:=hr.len
 ob:=λn ob e=>by
  obtain⟨a,b,q⟩:=hr.ob n ob e;exact⟨a,b,q.mono (Fm.tup hp) (λ_ c _ z=>by rw[aN (aZ z hp)];exact z) (λ_ _ z=>by rw[aN (aZ z hp)];exact z)
   (λ_ _ z _=>by rw[aN (aZ z hp)];exact z)
   ⟩
 inj:=hr.inj
theorem HR.lst{p:Addr}{ds:List Ev.D}{vs:List V}(hr:HR K H r h)(hp:H p=none)(q:aB K H r ds vs):HR K (upd H p (.lst vs)) (r++[p]) (h++[.lst ds]) where
 len:=by simp[hr.len]
 ob:=λn ob e=>by
  by_cases M:n<h.length
  .rw[gE M]at e;obtain⟨a,l,z⟩:=hr.ob n ob e;exact⟨a,(Fm.laid (K:=K) (o:=.lst vs) hp).pre n a l,z.mono (Fm.laid hp) (λ_ vs _ z=>by rw[aN (aZ z hp)];exact z) (λ_ _ z=>by rw[aN (aZ z hp)];exact z)
   (λ_ _ z _=>by rw[aN (aZ z hp)];exact z)
    ⟩
  .have f:=(List.getElem?_eq_some_iff.mp e).1;simp only[R1,Sk]at f;have A:n=h.length:=by omega
   subst A;simp at e;subst e;exact⟨p,by rw[<-hr.len];simp,vs,dI,q.mono (Fm.laid hp)⟩
 inj:=λn m a x y l f A G=>by
  have out:∀(k:Nat) z,(h++[Ev.O.lst ds])[k]?=some (.lst z)->(r++[p])[k]?=some a->(k<h.length/\r[k]?=some a/\h[k]?=some (.lst z)/\a≠p)\/(k=h.length/\a=p):=λk z g c=>by
   by_cases B:k<h.length
   .rw[gE B]at g;rw[gE (by rw[hr.len];exact B)]at c;obtain⟨b,i,N,C,_⟩:=hr.ob k _ g;rw[c]at i;cases i;exact .inl ⟨B,c,g,aZ C hp⟩
   .have i:=(List.getElem?_eq_some_iff.mp g).1;simp only[R1,Sk]at i;have C:k=r.length:=by rw[hr.len];omega
    subst C;simp at c;exact .inr ⟨hr.len,c.symm⟩
  rcases out n x A l with ⟨I,F,P,Q⟩|⟨I,F⟩
  .rcases out m y G f with ⟨j,d,J,L⟩|⟨j,d⟩
   .exact hr.inj n m a x y F d P J
   .exact absurd d Q
  .rcases out m y G f with ⟨j,d,J,L⟩|⟨j,d⟩
   .exact absurd F L
   .rw[I,j]
theorem HR.bM{n:Nat}{kvs:List (List Nat×List Nat)}(hr:HR K H r h)(e:h[n]?=some (.bM kvs)):∃a,r[n]?=some a/\H a=some (.dK (dM kvs))/\kvs≠[]/\∀p∈kvs,p.2.length<=sizeLine:=by
 obtain⟨a,b,c,d⟩:=hr.ob n _ e;exact⟨a,b,c,d⟩
def HR.read{n:Nat}{ds:List Ev.D}(hr:HR K H r h)(e:Ev.aL h n=some ds):∃a vs,r[n]?=some a/\dm K H a vs/\aB K H r ds vs:=by
 unfold Ev.aL at e;split at e
 .rename_i z;cases e;obtain⟨a,c,vs,b,d⟩:=hr.ob n _ z;exact⟨a,vs,c,.inl (.inl b),d⟩
 .rename_i z;cases e;obtain⟨a,c,vs,b,d⟩:=hr.ob n _ z;refine⟨a,vs,c,?_,d⟩;rcases b with ⟨f,b⟩|b
  .exact .inl (.inr ⟨f,b⟩)
  .exact .inr b
 .cases e
def Fm.write{a:Addr}{vs ws:List V}(ha:H a=some (.lst vs))(hm:a∈r):Fm K r r H (upd H a (.lst ws)) where
 pre:=λn b e=>e
 new:=λb e=>.inl e
 keep:=λb c e n=>by rw[aN (λz=>n (by rw[z];exact hm))];exact e
 tups:=λb d e=>by
  rcases e with (e|⟨c,e⟩)|e
  .exact .inl (.inl (by rw[aN (mC e ha (by intro z;cases z))];exact e))
  .exact .inl (.inr ⟨c,by rw[aN (mC e ha (by intro z;cases z))];exact e⟩)
  .exact .inr e
theorem HR.write{n:Nat}{a:Addr}{ds es:List Ev.D}{vs ws:List V}(hr:HR K H r h)(hn:h[n]?=some (.lst ds))(Gz:r[n]?=some a)(ha:H a=some (.lst vs))(q:aB K H r es ws) :
  HR K (upd H a (.lst ws)) r (h.set n (.lst es)) where
 len:=by simp[hr.len]
 ob:=λm ob e=>by
  have f:=Fm.write (K:=K) (ws:=ws) ha (RX Gz);by_cases g:m=n
  .subst g;rw[kJ (List.getElem?_eq_some_iff.mp hn).1]at e;cases e;exact⟨a,Gz,ws,dI,q.mono f⟩
  .rw[gR (λz=>g z.symm)]at e;obtain⟨b,d,z⟩:=hr.ob m ob e;refine⟨b,d,z.mono f (λPn o p c=>?_) (λQM o c=>by rw[aN (mC c ha (by intro z;cases z))];exact c)
    (λ_ _ c _=>by rw[aN (mC c ha (by intro z;cases z))];exact c)
    ⟩
   by_cases i:b=a
   .subst i;subst p;exact absurd (hr.inj m n b Pn ds d Gz e hn) g
   .rw[aN i];exact c
 inj:=λk m b x y d A B C=>by
  have back:∀(j:Nat) z,(h.set n (Ev.O.lst es))[j]?=some (.lst z)->∃z',h[j]?=some (.lst z'):=λj z w=>by
   by_cases l:j=n
   .subst l;exact⟨ds,hn⟩
   .rw[gR (λz=>l z.symm)]at w;exact⟨z,w⟩
  obtain⟨F,G⟩:=back k x B;obtain⟨I,J⟩:=back m y C;exact hr.inj k m b F I d A G J
def gn{p:Addr}{vs ws:List V}(hp:H p=some (.lst vs)):∀a us,cU K H a us->cU K (upd H p (.lst ws)) a us:=λb us e=>by
 rcases e with (e|⟨ob,e⟩)|e
 .exact .inl (.inl (by rw[aN (mC e hp (by intro z;cases z))];exact e))
 .exact .inl (.inr ⟨ob,by rw[aN (mC e hp (by intro z;cases z))];exact e⟩)
 .exact .inr e
def HR.other{p:Addr}{vs ws:List V}(hr:HR K H r h)(hp:H p=some (.lst vs))(hn:p∉r):HR K (upd H p (.lst ws)) r h where
 len:=hr.len
 ob:=λn ob e=>by
  obtain⟨a,g,q⟩:=hr.ob n ob e;have c:a≠p:=λz=>hn (by rw[<-z];exact RX g);refine⟨a,g,?_⟩;cases ob with
  |lst i=>
   obtain⟨d,b,f⟩:=q;exact⟨d,by rw[aN c];exact b,f.grow (λ_ _ z=>z) (gn hp)⟩
  |bz i=>
   obtain⟨d,b,f⟩:=q;refine⟨d,?_,f.grow (λ_ _ z=>z) (gn hp)⟩;rcases b with ⟨o,b⟩|b
   .exact .inl ⟨o,by rw[aN c];exact b⟩
   .exact .inr b
  |bM j=>exact⟨by rw[aN c];exact q.1,q.2⟩
 inj:=hr.inj
def Fm.other{p:Addr}{vs ws:List V}(f:Fm K r r1 H H1)(h0:H p=none)(hp:H1 p=some (.lst vs)):Fm K r r1 H (upd H1 p (.lst ws)) where
 pre:=f.pre
 new:=f.new
 keep:=λa o e n=>by rw[aN (aZ e h0)];exact f.keep a o e n
 tups:=λa b e=>gn hp a b (f.tups a b e)
def Fm.ko{p:Addr}{o:HO}(f:Fm K r r1 H H1)(hp:H p=some o)(hn:p∉r):p∉r1/\H1 p=some o:=by
 refine⟨λz=>?_,f.keep p o hp hn⟩;rcases f.new p z with q|q
 .exact hn q
 .rw[hp]at q;cases q
def HR.known{p:Addr}{ds:List Ev.D}{vs:List V}(hr:HR K H r h)(hp:H p=some (.lst vs))(hn:p∉r)(q:aB K H r ds vs):HR K H (r++[p]) (h++[.lst ds]):=by
 have pre:∀(n:Nat) a,r[n]?=some a->(r++[p])[n]?=some a:=λn a e=>by rw[gE (List.getElem?_eq_some_iff.mp e).1];exact e
 refine⟨by simp[hr.len],λn B e=>?_,λn m a x y j b c C=>?_
  ⟩
 .by_cases d:n<h.length
  .rw[gE d]at e;obtain⟨a,j,z⟩:=hr.ob n B e;refine⟨a,pre n a j,?_⟩;cases B with
   |lst ds=>obtain⟨l,b,c⟩:=z;exact⟨l,b,c.grow pre λ_ _ z=>z⟩
   |bz ds=>obtain⟨l,b,c⟩:=z;exact⟨l,b,c.grow pre λ_ _ z=>z⟩
   |bM J=>exact z
  .have b:=(List.getElem?_eq_some_iff.mp e).1;simp only[R1,Sk]at b;have c:n=h.length:=by omega
   subst c;simp at e;subst e;exact⟨p,by rw[<-hr.len];simp,vs,hp,q.grow pre λ_ _ z=>z⟩
 .have out:∀(k:Nat) z,(h++[Ev.O.lst ds])[k]?=some (.lst z)->(r++[p])[k]?=some a->(k<h.length/\r[k]?=some a/\h[k]?=some (.lst z)/\a≠p)\/(k=h.length/\a=p):=λk z o f=>by
   by_cases d:k<h.length
   .rw[gE d]at o;rw[gE (by rw[hr.len];exact d)]at f;exact .inl ⟨d,f,o,λz=>hn (by rw[<-z];exact RX f)⟩
   .have L:=(List.getElem?_eq_some_iff.mp o).1;simp only[R1,Sk]at L;have M:k=r.length:=by rw[hr.len];omega
    subst M;simp at f;exact .inr ⟨hr.len,f.symm⟩
  rcases out n x c j with ⟨F,A,N,P⟩|⟨F,A⟩
  .rcases out m y C b with ⟨i,g,G,I⟩|⟨i,g⟩
   .exact hr.inj n m a x y A g N G
   .exact absurd g P
  .rcases out m y C b with ⟨i,g,G,I⟩|⟨i,g⟩
   .exact absurd A I
   .rw[F,i]
def Fm.known{p:Addr}(f:Fm K r r1 H H1)(h0:H p=none):Fm K r (r1++[p]) H H1 where
 pre:=λn a e=>by
  have b:=f.pre n a e;rw[gE (List.getElem?_eq_some_iff.mp b).1];exact b
 new:=λa e=>by
  rcases List.mem_append.mp e with q|q
  .exact f.new a q
  .rw[Tf]at q;subst q;exact .inr h0
 keep:=f.keep
 tups:=f.tups
end
end Sm
namespace Sm
open PySem PySem.Spec PyProof.Rows L2
open Ev (D O Hh Fr R aH E Es Eo It T S Ss Fl Src bF bu TY BI ME)
section
variable(K:PySem.W.Frag)
def Res(r:List Addr)(H:Hp)(h':Hh)(d:D)(Q:VK):Prop:=∀v H' r',RV K H' r' d v->HR K H' r' h'->Fm K r r' H H'->Q v H'
structure SR(m:List Nat)(H:Hp)(r:List Addr)(fr:Fr)(s:L2.St):Prop where
 len:s.length=m.length
 sl:∀(j i:Nat) d,m[j]?=some i->fr[i]?=some (some d)->∃v,s[j]?=some (some v)/\RV K H r d v
inductive tJ(m:List Nat)(P:aH)(e:E)(s:L2.St)(H:Hp)(Q:VK):Prop
 |mk (r:List Addr) (fr:Fr) (h:Hh) (d:D) (h':Hh) (c0:SR K m H r fr s) (c1:HR K H r h) (c2:Ev.ev P e fr h=.ok d h') (c3:Res K r H h' d Q):tJ m P e s H Q
inductive GA(m:List Nat)(P:aH)(e:E)(s:L2.St)(H:Hp)(Q:Bool->Hp->Prop):Prop
 |mk (r:List Addr) (fr:Fr) (h:Hh) (k:Bool) (h':Hh) (c0:SR K m H r fr s) (c1:HR K H r h) (c2:Ev.aD P e fr h=.ok k h') (c3:∀H' r',HR K H' r' h'->Fm K r r' H H'->Q k H'):GA m P e s H Q
inductive GB(m:List Nat)(P:aH)(es:Es)(s:L2.St)(H:Hp)(Q:List V->Hp->Prop):Prop
 |mk (r:List Addr) (fr:Fr) (h:Hh) (ds:List D) (h':Hh) (c0:SR K m H r fr s) (c1:HR K H r h) (c2:Ev.bI P es fr h=.ok ds h') (c3:∀vs H' r',aB K H' r' ds vs->HR K H' r' h'->Fm K r r' H H'->Q vs H'):GB m P es s H Q
inductive MI(m:List Nat)(P:aH)(e:Eo)(s:L2.St)(H:Hp)(Q:Option Int->Hp->Prop):Prop
 |mk (r:List Addr) (fr:Fr) (h:Hh) (o:Option Int) (h':Hh) (c0:SR K m H r fr s) (c1:HR K H r h) (c2:Ev.eX P e fr h=.ok o h') (c3:∀H' r',HR K H' r' h'->Fm K r r' H H'->Q o H'):MI m P e s H Q
inductive gp(f:D->D->Hh->R D)(x:V)(y:V)(H:Hp)(Q:VK):Prop
 |mk (r:List Addr) (h:Hh) (a:D) (b:D) (d:D) (h':Hh) (c0:HR K H r h) (c1:RV K H r a x) (c2:RV K H r b y) (c3:f a b h=.ok d h') (c4:Res K r H h' d Q):gp f x y H Q
inductive rQ(f:List D->Hh->R D)(xs:List V)(H:Hp)(Q:VK):Prop
 |mk (r:List Addr) (h:Hh) (as:List D) (d:D) (h':Hh) (c0:HR K H r h) (c1:aB K H r as xs) (c2:f as h=.ok d h') (c3:Res K r H h' d Q):rQ f xs H Q
inductive yf(f:D->List D->Hh->R D)(x:V)(xs:List V)(H:Hp)(Q:VK):Prop
 |mk (r:List Addr) (h:Hh) (a:D) (as:List D) (d:D) (h':Hh) (c0:HR K H r h) (c1:RV K H r a x) (c2:aB K H r as xs) (c3:f a as h=.ok d h') (c4:Res K r H h' d Q):yf f x xs H Q
inductive GC  (x:V) (lo:Option Int) (hi:Option Int) (H:Hp) (Q:VK):Prop
 |mk (r:List Addr) (h:Hh) (a:D) (d:D) (h':Hh) (c0:HR K H r h) (c1:RV K H r a x) (c2:Ev.gk a lo hi h=.ok d h') (c3:Res K r H h' d Q):GC x lo hi H Q
end
section
variable{K:PySem.W.Frag}{m:List Nat}{H H':Hp}{r r':List Addr}{fr:Fr}{s:L2.St}{h h':Hh}{d:D}{Q:VK}
theorem SR.mono(a:SR K m H r fr s)(f:Fm K r r' H H'):SR K m H' r' fr s:=⟨a.len,λj i d b c=>by
 obtain⟨v,q,z⟩:=a.sl j i d b c;exact⟨v,q,z.mono f⟩⟩
def Res.here{v:V}(q:Res K r H h d Q)(a:RV K H r d v)(b:HR K H r h):Q v H:=q v H r a b .refl
def Res.later(q:Res K r H h' d Q)(f:Fm K r r' H H'):Res K r' H' h' d Q:=λv H2 c a b g=>q v H2 c a b (f.trans g)
theorem Res.lst{ds:List D}{vs:List V}(q:Res K r H h' d Q)(e:Ev.alloc ds h=.ok d h')(a:aB K H r ds vs)(b:HR K H r h):vs.length<=sizeLine/\∀p,H p=none->Q (.ref p) (upd H p (.lst vs)):=by
 unfold Ev.alloc at e;split at e
 .rename_i z;cases e;refine⟨by rw[a.length,<-fK];exact z,λp c=>?_⟩;exact q _ _ (r++[p]) ⟨p,rfl,by rw[<-b.len];simp⟩ (b.lst c a) (.laid c)
 .cases e
theorem Res.tup{ds:List D}{vs:List V}(q:Res K r H h (.tup ds) Q)(a:aB K H r ds vs)(b:HR K H r h){p:Addr}(hp:H p=none):Q (.ref p) (upd H p (.tup vs)):=
 q _ _ r ⟨p,vs,rfl,.of dI,a.mono (.tup hp)⟩ (b.tup hp) (.tup hp)
end
def PE.of{X:Cx}{e:Expr}{t t':TE}(h:PE X e t)(w:∀s H Q,t' s H Q->t s H Q):PE X e t':=λpins s σ H Q I q=>h pins s σ H Q I (w _ _ _ q)
def PT.of{X:Cx}{e:Expr}{t t':TT}(h:PT X e t)(w:∀s H Q,t' s H Q->t s H Q):PT X e t':=λpins s σ H Q I q=>h pins s σ H Q I (w _ _ _ q)
def PW.of{X:Cx}{e:Expr}{t t':TT}(h:PW X e t)(w:∀s H Q,t' s H Q->t s H Q):PW X e t':=λwh pins s σ H Q I q=>h wh pins s σ H Q I (w _ _ _ q)
def PA.of{X:Cx}{es:List Expr}{t t':TA}(h:PA X es t)(w:∀s H Q,t' s H Q->t s H Q):PA X es t':=λpos pins s σ H Q I q=>h pos pins s σ H Q I (w _ _ _ q)
def PO.of{X:Cx}{e:Option Expr}{t t':TO}(h:PO X e t)(w:∀s H Q,t' s H Q->t s H Q):PO X e t':=λpins s σ H Q I q=>h pins s σ H Q I (w _ _ _ q)
structure FI where
 name:Str
 addr:Addr
 fd:FuncData
 ps:List Str
noncomputable def mX(K:PySem.W.Frag)(F:List Ev.Fn)(w n f:Nat):Sp:=λa H Q _=>∃r h ds d h',aB K H r ds a/\HR K H r h/\Ev.run F w n f ds h=.ok d h'/\Res K r H h' d Q
def uI(K:PySem.W.Frag)(d:D)(v:V):Prop:=∀H r,RV K H r d v
def uI.rv{K:PySem.W.Frag}{H:Hp}{r:List Addr}{d:D}{v:V}(h:uI K d v):RV K H r d v:=h H r
structure Tb where
 F:List Ev.Fn
 w:Nat
 fi:List FI
 bl:List Str
 cs:List (Str×D)
 dk:List (Str×List (D×D))
noncomputable def tabOf:List (D×D)->List (PyData×PyData)
 | (.str k,.str v) :: r=>(.str (aC k),.str (aC v)) :: tabOf r
 |_=>[]
structure Good(G:Tb)(n:Nat)(sc:Scope)(N:List Str)(df:Bool)(X:Cx):Prop where
 nm:X.N=N
 sc:X.env.scope=sc
 calm:X.calm=true
 own:df=true->∀x,X.fn x=true
 room:eW n X.A
 xe:X.xe=λ_ _=>False
 fn:∀(f:Nat) i,G.fi[f]?=some i->X.mg i.name=some (.ref i.addr)/\PySem.W.keepIn X.K (.ref i.addr)=true/\Binds X.K i.fd i.ps []/\gK X.prog X.w X.K X.mg X.base lB n i.addr i.fd i.ps (mX X.K G.F G.w n f)
 bl:∀x∈G.bl,X.mg x=none
 cs:∀x d,(x,d)∈G.cs->∃v u,X.mg x=some u/\RelV v u/\uI X.K d v
 dk:∀x kvs,(x,kvs)∈G.dk->∃a,X.mg x=some (.ref a)/\∀h:Heap,X.K.In h->StrTab X.prog X.w h a (tabOf kvs)
section
variable(G:Tb)(n:Nat)(sc:Scope)(N:List Str)(df:Bool)(m:List Nat)
def JE(e:E)(x:Expr):Prop:=∀X,Good G n sc N df X->PE X x (tJ X.K m (Ev.run G.F G.w n) e)
def JT(e:E)(x:Expr):Prop:=∀X,Good G n sc N df X->PT X x (GA X.K m (Ev.run G.F G.w n) e)
def JW(e:E)(x:Expr):Prop:=∀X,Good G n sc N df X->PW X x (GA X.K m (Ev.run G.F G.w n) e)
def JA(es:Es)(xs:List Expr):Prop:=∀X,Good G n sc N df X->PA X xs (GB X.K m (Ev.run G.F G.w n) es)
def JO(e:Eo)(x:Option Expr):Prop:=∀X,Good G n sc N df X->PO X x (MI X.K m (Ev.run G.F G.w n) e)
end
section
variable{G:Tb}{n:Nat}{sc:Scope}{N:List Str}{df:Bool}{m:List Nat}{a b c:E}{xa xb:Expr}{pos:Pos}
def Good.vis{X:Cx}(g:Good G n sc N df X){x:Str}(h:sc.names.lookup x=some .local\/sc.names.lookup x=some .cell\/sc.names.lookup x=some .free):xJ X.env.scope x:=by
 rw[g.sc];exact h
def Good.gl{X:Cx}(g:Good G n sc N df X){x:Str}(h:sc.names.lookup x=some .globalImplicit):Gl X x:=by
 unfold Gl Env.kindOf;rw[g.sc];exact h
def N8(j i:Nat){x:Str}(hj:m[j]?=some i:=by rfl)(hN:N[j]?=some x:=by rfl)
  (hv:sc.names.lookup x=some .local\/sc.names.lookup x=some .cell\/sc.names.lookup x=some .free:=by first|exact Or.inl rfl|exact Or.inr (Or.inl rfl)|exact Or.inr (Or.inr rfl))
  (hd:(x==("__debug__" : Str))=false:=by decide) (hcd:(x==("__classdict__" : Str))=false:=by decide):JE G n sc N df m (.v i) (.Name x pos):=by
 intro X g;refine PE.of (xO (i:=j) (by rw[g.nm];exact hN) (g.vis hv) hd hcd) λs H Q q=>?_;obtain⟨r,l,h,d,I,p,y,e,q⟩:=q;simp only[Ev.ev]at e;obtain⟨f,A⟩:=Ev.aE e;subst A;obtain⟨v,B,C⟩:=p.sl j i d hj (by
  cases z:l[i]? with
  |none=>rw[z]at f;cases f
  |some o=>
   rw[z]at f;have F:o=some d:=f;rw[F])
 exact⟨v,B,q.here C y⟩
def v9{K:PySem.W.Frag}{P:aH}{d:D}{v:V}(hc:uI K d v):∀s H Q,tJ K m P (.c d) s H Q->tC v s H Q:=λs H Q q=>by
 obtain⟨r,g,h,i,j,l,f,e,q⟩:=q;simp only[Ev.ev]at e;cases e;exact q.here hc.rv f
def yg{i:Int}{j}:JE G n sc N df m (.c (.int i)) (.Constant (.int i) j pos):=λX g=>PE.of Fw (v9 λ_ _=>rfl)
def Lj{k:Bool}{j}:JE G n sc N df m (.c (.bl k)) (.Constant (.bool k) j pos):=λX g=>PE.of KR (v9 λ_ _=>rfl)
def GD{l:List Nat}{x:Str}{j}(hx:x=aC l:=by decide +kernel)(hl:l.length<=sizeLine:=by decide):JE G n sc N df m (.c (.str l)) (.Constant (.str x) j pos):=
 λX g=>PE.of Fx (v9 λ_ _=>by subst hx;exact⟨rfl,hl⟩)
def GF:JA G n sc N df m .nil []:=λX g=>PA.of gi λs H Q q=>by
 obtain⟨r,f,h,i,j,l,d,e,q⟩:=q;simp only[Ev.bI]at e;cases e;exact q [] H r .nil d .refl
def DI{es:Es}{xs:List Expr}(ha:JE G n sc N df m a xa)(hs:JA G n sc N df m es xs)(hst:∀env:Env,starEach (xa :: xs) env=(false,eval xa env) :: starEach xs env:=by intro _;rfl):JA G n sc N df m (.cons a es) (xa :: xs):=
 λX g=>PA.of (dO (ha X g) (hs X g) (hst _)) λs H Q q=>by
  obtain⟨r,l,h,I,J,o,x,e,q⟩:=q;simp only[Ev.bI]at e;obtain⟨d,p,y,e⟩:=Ev.ah e;obtain⟨f,K,z,e⟩:=Ev.ah e;cases e;refine⟨r,l,h,d,p,o,x,y,λv H1 A B i f1=>?_⟩;refine⟨A,l,p,f,_,o.mono f1,i,z,λL H2 C F j f2=>?_⟩;exact q _ H2 C (.cons (B.mono f2) F) j (f1.trans f2)
def GG{es:Es}{xs:List Expr}{k}(hs:JA G n sc N df m es xs):JE G n sc N df m (.tup es) (.Tuple xs k pos):=λX g=>PE.of (Gf (hs X g)) λs H Q q=>by
 obtain⟨r,j,h,d,B,l,o,e,q⟩:=q;simp only[Ev.ev]at e;obtain⟨x,C,y,e⟩:=Ev.ah e;split at e
 .rename_i z;cases e;refine⟨r,j,h,x,_,l,o,y,λF H1 I i f f1=>⟨by rw[i.length,<-fK];exact z,λp A=>?_⟩⟩;exact(q.later f1).tup i f A
 .cases e
def GH{es:Es}{xs:List Expr}(hs:JA G n sc N df m es xs):JE G n sc N df m (.lst es) (.List xs pos):=λX g=>PE.of (Gg (hs X g)) λs H Q q=>by
 obtain⟨r,i,h,d,z,j,l,e,q⟩:=q;simp only[Ev.ev]at e;obtain⟨o,p,x,e⟩:=Ev.ah e;refine⟨r,i,h,o,p,j,l,x,λA H1 B y f f1=>?_⟩;exact(q.later f1).lst e y f
def nQ{K:PySem.W.Frag}{P:aH}{f:D->D->Hh->R D}{e':E}(he:∀fr h,Ev.ev P e' fr h=(Ev.ev P a fr h).bind λx h1=>(Ev.ev P b fr h1).bind λy h2=>f x y h2) :
  ∀s H Q,tJ K m P e' s H Q->xT (gp K f) (tJ K m P a) (tJ K m P b) s H Q:=λs H Q q=>by
 obtain⟨r,fr,h,d,l,j,o,e,q⟩:=q;rw[he]at e;obtain⟨x,h1,p,e⟩:=Ev.ah e;obtain⟨y,h2,z,e⟩:=Ev.ah e;refine⟨r,fr,h,x,h1,j,o,p,λv H1 A B g f1=>?_⟩;refine⟨A,fr,h1,y,h2,j.mono f1,g,z,λu H2 C F i f2=>?_⟩;exact⟨C,h2,x,y,d,l,i,B.mono f2,F,e,q.later (f1.trans f2)⟩
def lD{o:bF}{op:Operator}(ho:∀X,Good G n sc N df X->dz X (binaryOp op) (gp X.K (Ev.bS o)))(ha:JE G n sc N df m a xa)(hb:JE G n sc N df m b xb):JE G n sc N df m (.bin o a b) (.BinOp xa op xb pos):=
 λX g=>PE.of (K2 (ho X g) (ha X g) (hb X g)) (nQ λd h=>by simp only[Ev.ev])
noncomputable def fR(o:bu):D->D->Hh->R D:=λx y h=>R.of ((Ev.cop o x y h).map .bl) h
def GI{o:bu}{op:CmpOp}(ho:∀X,Good G n sc N df X->dz X (compareOp op) (gp X.K (fR o)))(ha:JE G n sc N df m a xa)(hb:JE G n sc N df m b xb)(hm:behindInMarks op xb=false):JE G n sc N df m (.cmp o a b) (.Compare xa [op] [xb] pos):=
 λX g=>PE.of (Ds (ho X g) (ha X g) (hb X g) hm) (nQ λd h=>by simp only[Ev.ev,fR])
def iV{o:bu}{x y d:D}{h h':Hh}(e:fR o x y h=.ok d h'):∃k,Ev.cop o x y h=some k/\d=.bl k/\h'=h:=by
 unfold fR at e;obtain⟨f,rfl⟩:=Ev.aE e;cases z:Ev.cop o x y h' with
 |none=>rw[z]at f;cases f
 |some k=>rw[z]at f;cases f;exact⟨k,rfl,rfl,rfl⟩
def jU{o:bu}{op:CmpOp}(ho:∀X,Good G n sc N df X->dz X (compareOp op) (gp X.K (fR o)))(ha:JE G n sc N df m a xa)(hb:JE G n sc N df m b xb)(hm:behindInMarks op xb=false):JT G n sc N df m (.cmp o a b) (.Compare xa [op] [xb] pos):=
 λX g=>PT.of (Dt (ho X g) (ha X g) (hb X g) hm) λs H Q q=>by
  obtain⟨r,l,h,k,J,z,A,e,q⟩:=q;simp only[Ev.aD]at e;obtain⟨d,L,p,e⟩:=Ev.ah e;have i:=p;simp only[Ev.ev]at i;obtain⟨x,M,_,i⟩:=Ev.ah i;obtain⟨y,B,_,i⟩:=Ev.ah i;obtain⟨P,W,C,Y⟩:=iV (o:=o) (show fR o x y B=_ from i);subst C;simp only[Ev.truthy]at e;cases e;refine nQ (e':=.cmp o a b) (f:=fR o) (λl h=>by simp only[Ev.ev,fR]) s H _ ⟨r,l,h,.bl k,_,z,A,p,λv H1 F I j f1=>?_⟩;exact⟨k,I,q H1 F j f1⟩
end
section
variable{G:Tb}{n:Nat}{sc:Scope}{N:List Str}{df:Bool}{m:List Nat}{a b c:E}{xa xb:Expr}{pos:Pos}
def yh(ha:JE G n sc N df m a xa):JE G n sc N df m (.neg a) (.UnaryOp .USub xa pos):=λX g=>PE.of (K3 Gb (ha X g)) λs H Q q=>by
 obtain⟨r,i,h,d,y,j,l,e,q⟩:=q;simp only[Ev.ev]at e;obtain⟨x,z,o,e⟩:=Ev.ah e;split at e
 .cases e;exact⟨r,i,h,_,_,j,l,o,λv H1 A p f f1=>⟨_,p,(q.later f1).here rfl f⟩⟩
 .cases e
def GJ{op}(ha:JE G n sc N df m a xa):JE G n sc N df m a (.BoolOp op [xa] pos):=λX g=>FD (ha X g)
def Lk{rest:List Expr}(ha:JE G n sc N df m a xa)(hb:JE G n sc N df m b (.BoolOp .And (xb :: rest) pos)):JE G n sc N df m (.an a b) (.BoolOp .And (xa :: xb :: rest) pos):=λX g=>PE.of (FE (ha X g) (hb X g)) λs H Q q=>by
 obtain⟨r,i,h,d,p,j,y,e,q⟩:=q;simp only[Ev.ev]at e;obtain⟨x,l,z,e⟩:=Ev.ah e;refine⟨r,i,h,x,l,j,y,z,λv H1 A o f f1=>?_⟩;split at e
 .exact⟨true,o,A,i,l,d,p,j.mono f1,f,e,q.later f1⟩
 .cases e;exact⟨false,o,(q.later f1).here rfl f⟩
 .cases e
def GK(h:JW G n sc N df m a xa):JT G n sc N df m a xa:=λX g=>(h X g).pt
def GL(ha:JT G n sc N df m a xa):JW G n sc N df m a (.BoolOp .And [xa] pos):=λX g=>Dl (ha X g)
def DJ(ha:JT G n sc N df m a xa):JW G n sc N df m a (.BoolOp .Or [xa] pos):=λX g=>Fy (ha X g)
def Cd{rest:List Expr}(ha:JT G n sc N df m a xa)(hb:JW G n sc N df m b (.BoolOp .And (xb :: rest) pos)):JW G n sc N df m (.an a b) (.BoolOp .And (xa :: xb :: rest) pos):=λX g=>PW.of (Fz (ha X g) (hb X g)) λs H Q q=>by
 obtain⟨r,j,h,k,l,o,y,e,q⟩:=q;simp only[Ev.aD]at e;obtain⟨p,f,z,e⟩:=Ev.ah e;refine⟨r,j,h,p,f,o,y,z,λH1 x d f1=>?_⟩;cases p with
 |true=>exact⟨x,j,f,k,l,o.mono f1,d,e,λH2 A i f2=>q H2 A i (f1.trans f2)⟩
 |false=>
  have B:R.ok false f=R.ok k l:=e;cases B;exact q H1 x d f1
def yi{rest:List Expr}(ha:JT G n sc N df m a xa)(hb:JW G n sc N df m b (.BoolOp .Or (xb :: rest) pos)):JW G n sc N df m (.orr a b) (.BoolOp .Or (xa :: xb :: rest) pos):=λX g=>PW.of (KS (ha X g) (hb X g)) λs H Q q=>by
 obtain⟨r,j,h,k,l,o,y,e,q⟩:=q;simp only[Ev.aD]at e;obtain⟨p,f,z,e⟩:=Ev.ah e;refine⟨r,j,h,p,f,o,y,z,λH1 x d f1=>?_⟩;cases p with
 |false=>exact⟨x,j,f,k,l,o.mono f1,d,e,λH2 A i f2=>q H2 A i (f1.trans f2)⟩
 |true=>
  have B:R.ok true f=R.ok k l:=e;cases B;exact q H1 x d f1
def Ll(ha:JT G n sc N df m a xa):JT G n sc N df m (.nt a) (.UnaryOp .Not xa pos):=λX g=>PT.of (FA (ha X g)) λs H Q q=>by
 obtain⟨r,f,h,k,x,i,j,e,q⟩:=q;simp only[Ev.aD]at e;obtain⟨l,y,o,e⟩:=Ev.ah e;cases e;exact⟨r,f,h,l,_,i,j,o,λH1 p d f1=>q H1 p d f1⟩
def GN{K:PySem.W.Frag}{H:Hp}{r:List Addr}{h:Hh}{d:D}{v:V}{k:Bool}(hr:HR K H r h)(v1:RV K H r d v)(e:Ev.truthy h d=some k):AB K v H k:=by
 cases d with
 |aY=>simp only[RV]at v1;subst v1;cases e;rfl
 |bl x=>simp only[RV]at v1;subst v1;cases e;rfl
 |int x=>simp only[RV]at v1;subst v1;cases e;rfl
 |str x=>
  simp only[RV]at v1;obtain⟨rfl,z⟩:=v1;cases e;refine⟨by rw[cE];exact z,?_⟩;rw[cE];cases x with
  |nil=>rfl
  |cons c l=>simp;omega
 |tup g=>
  simp only[RV]at v1;obtain⟨p,j,rfl,z,q⟩:=v1;cases e;refine .inr (.inl ⟨j,z,?_⟩);have C:=q.length;cases g<;>cases j<;>simp_all
 |ref i=>
  simp only[RV]at v1;obtain⟨p,rfl,z⟩:=v1;by_cases o:∃f,h[i]?=some (.bM f)
  .obtain⟨f,y⟩:=o;simp only[Ev.truthy,y]at e;obtain⟨F,A,I,_⟩:=hr.bM y;rw[z]at A;cases A;refine .inr (.inr ⟨_,I,?_⟩);cases e;cases f<;>rfl
  have J:Ev.truthy h (.ref i)=(Ev.aL h i).map λg=>!g.isEmpty:=by
   first
    |rfl
    | (simp only[Ev.truthy];split<;>first|rfl | (rename_i f z;first|exact(QN ⟨f,z⟩).elim|exact(o ⟨f,z⟩).elim))
  rw[J]at e;simp only[JM]at e;obtain⟨g,y,rfl⟩:=e;obtain⟨F,j,B,L,M⟩:=hr.read y;rw[z]at B;cases B;refine .inl ⟨j,L,?_⟩;have C:=M.length;cases g<;>cases j<;>simp_all
def GO(ha:JE G n sc N df m a xa)(he:∀(P:aH) fr h,Ev.aD P a fr h=(Ev.ev P a fr h).bind λx h1=>R.of (Ev.truthy h1 x) h1:=by intros;simp only[Ev.aD])
  (hx:∀(env:Env) whole,isTrue xa env whole=(do let v <-whole;standAt xa.pos;holding [v] (truthy v)):=by intro _ _;rfl):JT G n sc N df m a xa:=λX g=>PT.of (AD (ha X g) (hx _)) λs H Q q=>by
 obtain⟨r,fr,h,k,y,i,j,e,q⟩:=q;rw[he]at e;obtain⟨d,h1,l,e⟩:=Ev.ah e;obtain⟨e,rfl⟩:=Ev.aE e;refine⟨r,fr,h,d,_,i,j,l,λv H1 o p f f1=>⟨k,GN f p e,q H1 o f f1⟩⟩
noncomputable def GP:D->D->Hh->R D:=λx y h=>R.of (Ev.dY x y h) h
def Lm(ho:∀X,Good G n sc N df X->uF X (gp X.K GP))(ha:JE G n sc N df m a xa)(hb:JE G n sc N df m b xb)(hs:uE xb:=by intro _ _;rfl):JE G n sc N df m (.ix a b) (.Subscript xa xb pos):=
 λX g=>PE.of (Lc (ho X g) (ha X g) (hb X g) hs) (nQ λd h=>by simp only[Ev.ev,GP])
def Ln:JO G n sc N df m .no none:=λX g=>PO.of Dz λs H Q q=>by
 obtain⟨r,f,h,o,i,j,d,e,q⟩:=q;simp only[Ev.eX]at e;cases e;exact q H r d .refl
def GQ(ha:JE G n sc N df m a xa):JO G n sc N df m (.yes a) (some xa):=λX g=>PO.of (uD (ha X g)) λs H Q q=>by
 obtain⟨r,j,h,o,A,l,p,e,q⟩:=q;simp only[Ev.eX]at e;obtain⟨d,B,x,e⟩:=Ev.ah e;obtain⟨e,rfl⟩:=Ev.aE e;cases d with
 |int i=>
  cases e;exact⟨r,j,h,.int i,_,l,p,x,λv H1 y z f f1=>⟨i,z,q H1 y f f1⟩⟩
 |_=>cases e
def Lo{lo hi:Eo}{xl xh:Option Expr}{p2}(ho:∀X,Good G n sc N df X->jP X (GC X.K))(ha:JE G n sc N df m a xa)(hl:JO G n sc N df m lo xl)(hu:JO G n sc N df m hi xh):JE G n sc N df m (.sl a lo hi) (.Subscript xa (.Slice xl xh none p2) pos):=
 λX g=>PE.of (AG (ho X g) (ha X g) (hl X g) (hu X g)) λs H Q q=>by
  obtain⟨r,f,h,d,A,i,B,e,q⟩:=q;simp only[Ev.ev]at e;obtain⟨x,p,C,e⟩:=Ev.ah e;obtain⟨l,y,F,e⟩:=Ev.ah e;obtain⟨u,z,I,e⟩:=Ev.ah e;refine⟨r,f,h,x,p,i,B,C,λv H1 J L j f1=>?_⟩;refine⟨J,f,p,l,y,i.mono f1,j,F,λH2 M o f2=>?_⟩;refine⟨M,f,y,u,z,(i.mono f1).mono f2,o,I,λH3 P W f3=>?_⟩;exact⟨P,z,x,d,A,W,(L.mono f2).mono f3,e,q.later ((f1.trans f2).trans f3)⟩
def DK{K:PySem.W.Frag}{P:aH}{es:Es}{f:List D->Hh->R D}{e':E}(he:∀fr h,Ev.ev P e' fr h=(Ev.bI P es fr h).bind f) :
  ∀s H Q,tJ K m P e' s H Q->Gj (rQ K f) (GB K m P es) s H Q:=λs H Q q=>by
 obtain⟨r,fr,h,d,l,o,p,e,q⟩:=q;rw[he]at e;obtain⟨i,j,x,e⟩:=Ev.ah e;exact⟨r,fr,h,i,j,o,p,x,λA H1 y z g f1=>⟨y,j,i,d,l,g,z,e,q.later f1⟩⟩
def qV{k:BI}{es:Es}{x:Str}{id:String}{e0:Expr}{xs:List Expr}{p:Pos}(hc:∀X,Good G n sc N df X->ee X (.builtin id) (rQ X.K (Ev.bZ k)))(hs:JA G n sc N df m es (e0 :: xs))(hb:x∈G.bl:=by decide +kernel)
  (hg:sc.names.lookup x=some .globalImplicit:=by rfl) (hv:bootBuiltins x=some (.builtin id)) (hn:x≠"__name__" :=by decide) (hd:(x==("__debug__" : Str))=false:=by decide)
  (hst:∀env:Env,starEach (e0 :: xs) env=(false,eval e0 env) :: starEach xs env:=by intro _;rfl) (hpl:∀env:Env,(backTo pos (starEach xs env)).any (·.1)=false:=by intro _;rfl) :
  JE G n sc N df m (.bi k es) (.Call (.Name x p) (e0 :: xs) [] pos):=
 λX g=>PE.of (rG (hc X g) (g.gl hg) (g.bl x hb) hv (hs X g) hn hd (hst _) (hpl _)) (DK λd h=>by simp only[Ev.ev])
def Lp{f:Nat}{i:FI}{es:Es}{e0:Expr}{xs:List Expr}{p:Pos}(hf:G.fi[f]?=some i)(hs:JA G n sc N df m es (e0 :: xs))
  (hg:sc.names.lookup i.name=some .globalImplicit:=by rfl) (hd:(i.name==("__debug__" : Str))=false:=by decide)
  (hst:∀env:Env,starEach (e0 :: xs) env=(false,eval e0 env) :: starEach xs env:=by intro _;rfl) (hpl:∀env:Env,(backTo pos (starEach xs env)).any (·.1)=false:=by intro _;rfl) :
  JE G n sc N df m (.cl f es) (.Call (.Name i.name p) (e0 :: xs) [] pos):=λX g=>by
 obtain⟨x,y,z,A⟩:=g.fn f i hf;refine PE.of (Dv A g.room (g.gl hg) x y z .nil Le (hs X g) hd (hst _) (hpl _)) λs H Q q=>?_;obtain⟨r,B,h,d,C,F,I,e,q⟩:=q;simp only[Ev.ev]at e;obtain⟨l,o,J,e⟩:=Ev.ah e;refine⟨r,B,h,l,o,F,I,J,λM H1 K L j f1=>?_⟩;exact⟨K,o,l,d,C,by rw[Sx];exact L,j,e,q.later f1⟩
noncomputable def GR:ME->String
 |.join=>"str"
 |_=>"list"
def GS{K:PySem.W.Frag}{H:Hp}{r:List Addr}{h:Hh}{k:ME}{d:D}{v:V}{ty:String}(hr:HR K H r h)(v1:RV K H r d v)(e:Ev.uH k d h=true)(ht:ty=GR k):B9 K ty v H:=by
 subst ht;have lst:∀i,d=.ref i->(Ev.aL h i).isSome=true->B9 K "list" v H:=λi g j=>by
  subst g;obtain⟨z,o⟩:=Option.isSome_iff_exists.mp j;obtain⟨p,q,x,y,A⟩:=hr.read o;simp only[RV]at v1;obtain⟨B,rfl,f⟩:=v1;rw[x]at f;cases f;exact .inl ⟨rfl,q,y⟩
 cases k with
 |join=>
  cases d with
  |str l=>simp only[RV]at v1;obtain⟨rfl,_⟩:=v1;rfl
  |_=>cases e
 |append=>cases d with|ref i=>exact lst i rfl e|_=>cases e
 |extend=>cases d with|ref i=>exact lst i rfl e|_=>cases e
 |pop=>cases d with|ref i=>exact lst i rfl e|_=>cases e
def wc {k:ME}{es:Es}{e0:Expr}{xs:List Expr}{name:Str}{apos:Pos}{ty id:String}(pa:PlainAttrs ty) (slot:Slot ty name id) (hty:typeOf (.builtin id)=pure (.type "method_descriptor"))
  (hm:∀X,Good G n sc N df X->xZ X id (yf X.K (Ev.fh k))) (ht:ty=GR k) (ha:JE G n sc N df m a xa) (hs:JA G n sc N df m es (e0 :: xs))
  (hbase:∀env:Env,attributeBase xa name env (eval xa env)=eval xa env:=by intro _;rfl)
  (hfew:∀env:Env,((backTo pos (starEach (e0 :: xs) env)).all (λx=>!x.1)&&(backToKw pos (keywordEach [] env)).all (λx=>x.1.isSome)
   &&decide ((e0 :: xs).length+([]:List Keyword).length+(if ([]:List Keyword).isEmpty then 0 else 1)<30))=true:=by intro _;rfl)
  (hline:(apos.endLine==pos.line)=true:=by rfl) (hst:∀env:Env,starEach (e0 :: xs) env=(false,eval e0 env) :: starEach xs env:=by intro _;rfl) (hpl:∀env:Env,(backTo pos (starEach xs env)).any (·.1)=false:=by intro _;rfl) :
  JE G n sc N df m (.me k a es) (.Call (.Attribute xa name apos) (e0 :: xs) [] pos):=λX g=>
 PE.of (Ld pa slot hty (hm X g) (ha X g) (hs X g) (hbase _) (hfew _) hline (hst _) (hpl _)) λs H Q q=>by
  obtain⟨r,j,h,d,A,l,B,e,q⟩:=q;simp only[Ev.ev]at e;obtain⟨x,o,C,e⟩:=Ev.ah e;split at e
  .rename_i F;obtain⟨p,y,I,e⟩:=Ev.ah e;refine⟨r,j,h,x,o,l,B,C,λv H1 J z f f1=>⟨GS f z F ht,?_⟩⟩;refine⟨J,j,o,p,y,l.mono f1,f,I,λP H2 L M i f2=>?_⟩;exact⟨L,y,x,p,d,A,i,z.mono f2,M,e,q.later (f1.trans f2)⟩
  .cases e
end
end Sm
namespace Sm
open PySem PySem.Spec PyProof.Rows L2
open Ev (D O Hh Fr R aH E Es Eo T S Ss Fl Src bF bu TY BI ME)
def kr(K:PySem.W.Frag)(r0:List Addr)(H0:Hp)(s:Src)(J:L2.It):Prop:=∀(i:Nat) H1 r1 h1,HR K H1 r1 h1->Fm K r0 r1 H0 H1->Ev.stays h1 s.2=true->
 (∀d,s.1[i]?=some d->J.go i H1/\∀x H2,J.B7 i H1 x H2->∃r2,RV K H2 r2 d x/\HR K H2 r2 h1/\Fm K r1 r2 H1 H2)/\(s.1.length<=i->J.stop i H1)
inductive MJ(K:PySem.W.Frag)(m:List Nat)(P:aH)(it:Ev.It)(s:L2.St)(H:Hp)(Rr:L2.It->Hp->Prop):Prop
 |mk (r:List Addr) (fr:Fr) (h:Hh) (src:Src) (h':Hh) (c0:SR K m H r fr s) (c1:HR K H r h) (c2:Ev.bJ P it fr h=.ok src h') (c3:∀J H' r',HR K H' r' h'->Fm K r r' H H'->kr K r' H' src J->Rr J H'):MJ K m P it s H Rr
def JI(G:Tb)(n:Nat)(sc:Scope)(N:List Str)(df:Bool)(m:List Nat)(it:Ev.It)(tg x:Expr):Prop:=∀X,Good G n sc N df X->PI X tg x (MJ X.K m (Ev.run G.F G.w n) it)
noncomputable def Ce(z:Str):L2.It:=⟨λi _=>i<z.length,λi H x H'=>H'=H/\∃c,z.cps[i]?=some c/\x=.str ⟨#[c]⟩,λi _=>z.length<=i⟩
def GU{M:Model}{A:Around}{E:Value->Shared->Prop}{s:Shared}{tg:Expr}{it:Value}{x:Str}{t:Tok}{Q:Unit->Shared->Prop}(hQ:Q () s):wpAny M A (letOwnedTupleGo tg it (.str x t)) Q E s:=by
 unfold letOwnedTupleGo;cases tg<;>first
  |exact RW hQ
  | (cases it<;>exact RW hQ)
def rR {P:Program}{w:World}{K:PySem.W.Frag}{tg:Expr}(z:Str) (t:Tok) (it:Addr) (ty:String) (hty:ty = "str_ascii_iterator" \/ty = "str_iterator") :
  Turn P w K tg (Ce z) [it] it (λi h=>h.IsStrIter it ty z t i) where
 mem:=by simp
 obj:=λi h a b f=>by
  have e:b=it:=by simpa using f
  subst e;obtain⟨o,e,c,d⟩:=a;exact⟨o,e,λv z=>by rw[d]at z;cases z⟩
 keep:=λi h l a k=>by
  obtain⟨o,e,c,d⟩:=a;exact⟨o,k it (by simp) o e,c,d⟩
 item:=by
  intro X p q r j i g s σ H E I hf a hg;subst p q r;obtain⟨f0,f1,f2,f3,f4,f5⟩:=hf it (by simp);have W:Walks X.prog X.w X.A it [it] [it] z.cps.size (SignAt z) (λi h=>h.IsStrIter it ty z t i):=by
   rcases hty with e|e
   .subst e;exact Walks.strAscii (I.ok.hd j) it z t
   .subst e;exact Walks.strWide (I.ok.hd j) it z t
  refine W.item i s _ _ hg a λv l C F x G=>?_;obtain⟨c,u,y,rfl⟩:=F;have I1:Inv X g σ H { s with heap:=l,toks:=C }:=I.turned (λb o f e=>G b o (by simpa using f) e) f0 f1 f3 f4 f5;exact⟨_,rfl,GU ⟨.str ⟨#[c]⟩,H,I1,⟨u,rfl⟩,⟨rfl,c,y,rfl⟩,x,λb f=>(hf b f).1⟩⟩
 done:=by
  intro X p q r j i g s σ H E I hf a hg;subst p q r;obtain⟨f0,f1,f2,f3,f4,f5⟩:=hf it (by simp);rcases hty with e|e
  .subst e;exact wpAny_pyNext_ascii_end (I.ok.hd j) a (by simpa[Str.length,Ce]using hg) λl B=>⟨rfl,I.turned (t':=s.toks) (λb o f e=>B b o f e) f0 f1 f3 f4 f5⟩
  .subst e;exact wpAny_pyNext_wide_end (I.ok.hd j) a (by simpa[Str.length,Ce]using hg) λl B=>⟨rfl,I.turned (t':=s.toks) (λb o f e=>B b o f e) f0 f1 f3 f4 f5⟩
 self:=λ_ _ _ _ _ a h=>by
  rcases hty with e|e
  .subst e;exact wpAny_pyIter_striter_ascii a h
  .subst e;exact wpAny_pyIter_striter_wide a h
def Cf(K:PySem.W.Frag)(x:V)(H:Hp)(Rr:L2.It->Hp->Prop):Prop:=
 (∃a xs,x=.ref a/\dm K H a xs/\Rr (MB K a) H)\/(∃a xs,x=.ref a/\cU K H a xs/\Rr (MC K a) H)\/∃z,x=.str z/\Rr (Ce z) H
def GV{X:Cx}{tg l:Expr}{tl:TE}{wi:TI}(hl:PE X l tl)(hw:∀s H Rr,wi s H Rr->tl s H λx H1=>Cf X.K x H1 Rr):PI X tg l wi:=by
 intro c s σ H Rr I h;refine bB (hl c s σ H _ I (hw _ _ _ h)) λv s1 ⟨x,H1,I1,g,j⟩=>?_;have f:∀(o:Obj) b,b∈[s1.heap.objs.size]->eV X c H1 b:=λo b r=>by
  have e:b=s1.heap.objs.size:=by simpa using r
  subst e;exact I1.oV (oM _) (I1.hok.fresh (oM _))
 rcases j with ⟨a,y,rfl,i,q⟩|⟨a,y,rfl,i,q⟩|⟨z,rfl,q⟩
 .cases g;obtain⟨d,rv,p,A⟩:=I1.list i;refine wpAny_pyIter_list p.isList ?_;exact⟨s1.heap.objs.size,[s1.heap.objs.size],_,_,H1,rfl,I1.kept (t':=s1.toks) λb o e=>RT _ e,xQ a _,⟨_,Sb _ rfl,rfl,rfl⟩,f default,q⟩
 .cases g;obtain⟨d,rv,p,A⟩:=I1.tuple i;refine wpAny_pyIter_tuple (show s1.heap.IsTuple a d.toArray from p) ?_;exact⟨s1.heap.objs.size,[s1.heap.objs.size],_,_,H1,rfl,I1.kept (t':=s1.toks) λb o e=>RT _ e,vM a _,⟨_,Sb _ rfl,rfl,rfl⟩,f default,q⟩
 .obtain⟨t,rfl⟩:=g;cases ha:z.cps.all (· < 128)
  .refine wpAny_pyIter_wide ha ?_;exact⟨s1.heap.objs.size,[s1.heap.objs.size],_,_,H1,rfl,I1.kept (t':=s1.toks) λb o e=>RT _ e,rR z t _ _ (.inr rfl),⟨_,Sb _ rfl,rfl,rfl⟩,f default,q⟩
  .refine wpAny_pyIter_ascii ha ?_;exact⟨s1.heap.objs.size,[s1.heap.objs.size],_,_,H1,rfl,I1.kept (t':=s1.toks) λb o e=>RT _ e,rR z t _ _ (.inl rfl),⟨_,Sb _ rfl,rfl,rfl⟩,f default,q⟩
def lE{h:Hh}{n:Nat}{ds:List D}(e:Ev.stays h [(n,ds)]=true):Ev.aL h n=some ds:=by
 simp only[Ev.stays,Bool.and_true]at e;split at e
 .rename_i a q;rw[q,(Ev.qy _ _).mp e]
 .cases e
def DL{K:PySem.W.Frag}{H:Hp}{r:List Addr}{h:Hh}{d:D}{v:V}{src:Src}{Rr:L2.It->Hp->Prop}(hr:HR K H r h)(v1:RV K H r d v)(e:Ev.eK h d=some src)(q:∀J,kr K r H src J->Rr J H):Cf K v H Rr:=by
 cases d with
 |tup X=>
  simp only[RV]at v1;obtain⟨a,j,rfl,z,w⟩:=v1;cases e;refine .inr (.inl ⟨a,j,rfl,z,q _ λi H1 o I b f1 B=>⟨λL f=>?_,λp=>?_⟩⟩)
  .obtain⟨u,A,g⟩:=w.get f;refine⟨⟨j,u,f1.tups _ _ z,A⟩,λx H2 y=>?_⟩;obtain⟨rfl,y⟩:=y;have:=y j (f1.tups _ _ z);rw[A]at this;cases this;exact⟨o,g.mono f1,b,.refl⟩
  .exact⟨j,f1.tups _ _ z,by rw[w.length];exact p⟩
 |str l=>
  simp only[RV]at v1;obtain⟨rfl,z⟩:=v1;cases e;refine .inr (.inr ⟨_,rfl,q _ λi H1 o I b f1 B=>⟨λL f=>?_,λp=>?_⟩⟩)
  .rw[Su]at f;cases g:l[i]? with
   |none=>rw[g]at f;cases f
   |some c=>
    rw[g]at f;cases f;refine⟨by show i<(aC l).length;rw[cE];exact(List.getElem?_eq_some_iff.mp g).1,λx H2 y=>?_⟩;obtain⟨rfl,c',M,rfl⟩:=y;have C:(aC l).cps[i]?=some c:=by simp[aC,g]
    rw[C]at M;cases M;exact⟨o,⟨rfl,by show 1<=sizeLine;decide⟩,b,.refl⟩
  .show(aC l).length<=i;rw[cE];simpa using p
 |ref k=>
  simp only[RV]at v1;obtain⟨a,rfl,z⟩:=v1;simp only[Ev.eK,JM]at e;obtain⟨X,A,rfl⟩:=e;obtain⟨Y,j,g,C,e4⟩:=hr.read A;rw[z]at g;cases g;refine .inl ⟨a,j,rfl,C,q _ λi H1 o I b f1 B=>?_⟩;obtain⟨Y,F,N,G,P⟩:=b.read (lE B);rw[f1.pre _ _ z]at N;cases N;refine⟨λL f=>?_,λp=>⟨F,G,by rw[P.length];exact p⟩⟩;obtain⟨u,Q,Z⟩:=P.get f;refine⟨⟨F,u,G,Q⟩,λx H2 y=>?_⟩;obtain⟨rfl,y⟩:=y;have:=y F G;rw[Q]at this;cases this;exact⟨o,Z,b,.refl⟩
 |_=>cases e
section
variable{G:Tb}{n:Nat}{sc:Scope}{N:List Str}{df:Bool}{m:List Nat}{a b:E}{xa tg:Expr}{pos:Pos}
def GW(ha:JE G n sc N df m a xa):JI G n sc N df m (.seq a) tg xa:=λX g=>GV (ha X g) λs H Rr q=>by
 obtain⟨r,f,h,src,y,i,j,e,q⟩:=q;simp only[Ev.bJ]at e;obtain⟨d,z,l,e⟩:=Ev.ah e;obtain⟨e,rfl⟩:=Ev.aE e;refine⟨r,f,h,d,_,i,j,l,λv H1 o p c f1=>?_⟩;exact DL c p e λJ x=>q J H1 o c f1 x
def PI.of{X:Cx}{tg l:Expr}{t t':TI}(h:PI X tg l t)(w:∀s H Q,t' s H Q->t s H Q):PI X tg l t':=λpins s σ H Q I q=>h pins s σ H Q I (w _ _ _ q)
def GX{K:PySem.W.Frag}{r:List Addr}{H:Hp}(lo:Int)(k:Nat):kr K r H (Ev.range lo k,[]) (B8 lo k):=λi H1 g p c f1 q=>by
 refine⟨λd e=>?_,λh=>?_⟩
 .simp only[Ev.range,Su]at e;cases e2:(List.range k)[i]? with
  |none=>rw[e2]at e;cases e
  |some j=>
   rw[e2]at e;cases e;have f:i<k:=by simpa using (List.getElem?_eq_some_iff.mp e2).1
   have l:j=i:=by
    rw[UG f]at e2;exact(jC e2).symm
   subst l;refine⟨f,λx H2 y=>?_⟩;obtain⟨rfl,rfl⟩:=y;exact⟨g,rfl,c,.refl⟩
 .have:(Ev.range lo k).length=k:=by simp[Ev.range]
  show k<=i;have o:(Ev.range lo k).length<=i:=h;omega
def DM {e1:E}{p:Pos}(hs:JA G n sc N df m (.cons e1 .nil) [xa]) (hg:sc.names.lookup ("range" : Str)=some .globalImplicit:=by rfl) (hb:("range" : Str)∈G.bl:=by decide +kernel)
  (hst:∀env:Env,starEach [xa] env=[(false,eval xa env)]:=by intro _;rfl):JI G n sc N df m (.eS (.cons e1 .nil)) tg (.Call (.Name "range" p) [xa] [] pos):=λX g=>
 PI.of (xR (g.gl hg) (g.bl _ hb) (hs X g) (hst _)) λs H Rr q=>by
  obtain⟨r,l,h,src,A,o,x,e,q⟩:=q;simp only[Ev.bJ]at e;obtain⟨y,B,e1,e⟩:=Ev.ah e;obtain⟨e,rfl⟩:=Ev.aE e;refine⟨r,l,h,y,_,o,x,e1,λC H1 z f c f1=>?_⟩;unfold Ev.dB at e;split at e
  .rename_i j;split at e
   .rename_i i;cases e;simp only[aB,RV]at f;obtain⟨v,w,rfl,rfl,rfl⟩:=f;exact⟨_,rfl,i.1,i.2,q _ H1 z c f1 (GX 0 _)⟩
   .cases e
  .exfalso;simp only[Ev.bI]at e1;obtain⟨d,_,_,e1⟩:=Ev.ah e1;simp only[Ev.ak]at e1;cases e1
  .cases e
inductive gJ(K:PySem.W.Frag)(m:List Nat)(t:T)(v:V)(s:L2.St)(H:Hp)(Q:L2.St->Hp->Prop):Prop
 |mk (r:List Addr) (fr:Fr) (h:Hh) (d:D) (aj:Fr) (c0:SR K m H r fr s) (c1:HR K H r h) (c2:RV K H r d v) (c3:Ev.bT t d fr=some aj) (c4:∀s',SR K m H r aj s'->Q s' H):gJ K m t v s H Q
def JG(G:Tb)(n:Nat)(sc:Scope)(N:List Str)(df:Bool)(m:List Nat)(t:T)(x:Expr):Prop:=∀X,Good G n sc N df X->PG X x (gJ X.K m t)
def PG.of{X:Cx}{e:Expr}{t t':TG}(h:PG X e t)(w:∀v s H Q,t' v s H Q->t v s H Q):PG X e t':=λpins s σ H v u Q I r q=>h pins s σ H v u Q I r (w _ _ _ _ q)
theorem SR.set{K:PySem.W.Frag}{m:List Nat}{H:Hp}{r:List Addr}{fr:Fr}{s:L2.St}(sr:SR K m H r fr s)(hm:m.Nodup){j i:Nat}(hj:m[j]?=some i){d:D}{v:V}(v1:RV K H r d v):SR K m H r (fr.set i (some d)) (s.set j (some v)):=by
 refine⟨by simp[sr.len],λl f o e c=>?_⟩;by_cases g:f=i
 .subst g;have:l=j:=yj hm e hj;subst this;have h:f<fr.length:=by
   have:=(List.getElem?_eq_some_iff.mp c).1;simpa using this
  rw[kJ h]at c;cases c;refine⟨v,kJ ?_,v1⟩;rw[sr.len];exact(List.getElem?_eq_some_iff.mp hj).1
 .rw[gR (λz=>g z.symm)]at c;obtain⟨u,p,q⟩:=sr.sl l f o e c;refine⟨u,?_,q⟩;rw[gR]
  .exact p
  .intro z;subst z;rw[hj]at e;cases e;exact g rfl
where
 yj {l:List Nat} (hl:l.Nodup) {i j:Nat} {x:Nat} (a:l[i]?=some x) (b:l[j]?=some x):i=j:=by
  have ha:=(List.getElem?_eq_some_iff.mp a)
  have hb:=(List.getElem?_eq_some_iff.mp b)
  obtain⟨h1,e1⟩:=ha;obtain⟨h2,e2⟩:=hb;exact(VQ hl).mp (e1.trans e2.symm)
def Good.loc{X:Cx}(g:Good G n sc N df X){x:Str}(h:sc.names.lookup x=some .local\/(df=true/\sc.names.lookup x=some .cell)):Loc X.env.scope x/\(X.fn x=true\/X.env.scope.names.lookup x=some .local):=by
 rw[show Loc X.env.scope x↔Loc sc x by rw[g.sc],g.sc];rcases h with h|⟨c,h⟩
 .exact⟨.inl h,.inr h⟩
 .exact⟨.inr h,.inl (g.own c x)⟩
def GY(j i:Nat){x:Str}(hm:m.Nodup)(hN:N.Nodup)(hj:m[j]?=some i:=by rfl)(qz:N[j]?=some x:=by rfl)
  (hl:sc.names.lookup x=some .local\/(df=true/\sc.names.lookup x=some .cell):=by first|exact Or.inl rfl|exact Or.inr ⟨rfl,rfl⟩):JG G n sc N df m (.one i) (.Name x pos):=λX g=>by
 obtain⟨c,f⟩:=g.loc hl;refine PG.of (uA (i:=j) (by rw[g.nm];exact hN) (by rw[g.nm];exact qz) c f) λv s H Q q=>?_;obtain⟨r,p,h,d,y,l,z,o,e,q⟩:=q;cases e;exact q _ (l.set hm hj o)
inductive MK(K:PySem.W.Frag)(m:List Nat)(l:List Nat)(vs:List V)(s:L2.St)(H:Hp)(Q:L2.St->Hp->Prop):Prop
 |mk (r:List Addr) (fr:Fr) (h:Hh) (ds:List D) (aj:Fr) (c0:SR K m H r fr s) (c1:HR K H r h) (c2:aB K H r ds vs) (c3:Ev.cg l ds fr=some aj) (c4:∀s',SR K m H r aj s'->Q s' H):MK K m l vs s H Q
def qA(G:Tb)(n:Nat)(sc:Scope)(N:List Str)(df:Bool)(m:List Nat)(l:List Nat)(xs:List Expr):Prop:=∀X,Good G n sc N df X->mU X xs (MK X.K m l)
def mU.of{X:Cx}{e:List Expr}{t t':qj}(h:mU X e t)(w:∀v s H Q,t' v s H Q->t v s H Q):mU X e t':=λpins s σ H v u Q I r q=>h pins s σ H v u Q I r (w _ _ _ _ q)
def DN:qA G n sc N df m [] []:=λX g=>mU.of Dp λi s H Q q=>by
 obtain⟨r,j,h,d,l,f,o,c,e,q⟩:=q;cases d with
 |nil=>simp only[aB]at c;subst c;cases e;exact⟨rfl,q _ f⟩
 |cons _ _=>cases e
def AO(j i:Nat){x:Str}{l:List Nat}{xs:List Expr}(hm:m.Nodup)(hN:N.Nodup)(hs:qA G n sc N df m l xs)(hj:m[j]?=some i:=by rfl)(qz:N[j]?=some x:=by rfl)
  (hl:sc.names.lookup x=some .local\/(df=true/\sc.names.lookup x=some .cell):=by first|exact Or.inl rfl|exact Or.inr ⟨rfl,rfl⟩)
  (hst:∀env:Env,(assignEach (.Name x pos :: xs) env).map (·.2)=assign (.Name x pos) env :: (assignEach xs env).map (·.2):=by intro _;rfl):qA G n sc N df m (i :: l) (.Name x pos :: xs):=λX g=>by
 obtain⟨o,p⟩:=g.loc hl;refine mU.of (Aw (uA (i:=j) (by rw[g.nm];exact hN) (by rw[g.nm];exact qz) o p) (hs X g) (hst _)) λF s H Q q=>?_;obtain⟨r,I,h,c,y,z,A,f,e,q⟩:=q;cases c with
 |nil=>cases e
 |cons d c=>
  simp only[aB]at f;obtain⟨v,w,rfl,B,C⟩:=f;exact⟨v,w,rfl,r,_,h,c,y,z.set hm hj B,A,C,e,q⟩
def DO{l:List Nat}{xs:List Expr}{k:Nat}(hs:qA G n sc N df m l xs)(hn:∀env:Env,(assignEach xs env).length=l.length:=by intro _;rfl)(hst:∀env:Env,(assignEach xs env).findIdx? (·.1)=none:=by intro _;rfl) :
  JG G n sc N df m (.many l) (.Tuple xs k pos):=λX g=>PG.of (FH (n:=l.length) g.calm (hs X g) (hn _) (hst _)) λv s H Q q=>by
 obtain⟨r,f,h,d,j,y,A,x,e,q⟩:=q;cases d with
 |tup c=>
  simp only[RV]at x;obtain⟨p,B,rfl,z,w⟩:=x;have o:∀(l:List Nat) (c:List D) f j,Ev.cg l c f=some j->c.length=l.length:=by
   intro l;induction l with
   |nil=>intro c f j e;cases c with|nil=>rfl|cons _ _=>cases e
   |cons i l C=>intro c f j e;cases c with|nil=>cases e|cons d c=>simp[C c _ _ e]
  exact⟨p,B,rfl,z,by rw[w.length];exact o _ _ _ _ e,r,f,h,c,j,y,A,w,e,q⟩
 |_=>cases e
end
def Fin(K:PySem.W.Frag)(m:List Nat)(r:List Addr)(H:Hp)(h':Hh)(fl:Fl)(aj:Fr)(Q:Ends):Prop:=match fl with
 |.nx=>∀s' H' r',SR K m H' r' aj s'->HR K H' r' h'->Fm K r r' H H'->Q.nx s' H'
 |.bk=>∀s' H' r',SR K m H' r' aj s'->HR K H' r' h'->Fm K r r' H H'->Q.bk s' H'
 |.ct=>∀s' H' r',SR K m H' r' aj s'->HR K H' r' h'->Fm K r r' H H'->Q.ct s' H'
 |.ret d=>Res K r H h' d Q.rt
theorem Fin.later{K:PySem.W.Frag}{m:List Nat}{r r':List Addr}{H H':Hp}{h':Hh}{fl:Fl}{aj:Fr}{Q:Ends}(q:Fin K m r H h' fl aj Q)(f:Fm K r r' H H'):Fin K m r' H' h' fl aj Q:=by
 cases fl with
 |nx=>exact λs2 H2 c a b g=>q s2 H2 c a b (f.trans g)
 |bk=>exact λs2 H2 c a b g=>q s2 H2 c a b (f.trans g)
 |ct=>exact λs2 H2 c a b g=>q s2 H2 c a b (f.trans g)
 |ret d=>exact Res.later q f
inductive ML(K:PySem.W.Frag)(m:List Nat)(P:aH)(w:Nat)(st:S)(Q:Ends)(s:L2.St)(H:Hp):Prop
 |mk (r:List Addr) (fr:Fr) (h:Hh) (fl:Fl) (aj:Fr) (h':Hh) (c0:SR K m H r fr s) (c1:HR K H r h) (c2:Ev.ex P w st fr h=.ok (fl,aj) h') (c3:Fin K m r H h' fl aj Q):ML K m P w st Q s H
inductive AQ(K:PySem.W.Frag)(m:List Nat)(P:aH)(w:Nat)(ss:Ss)(Q:Ends)(s:L2.St)(H:Hp):Prop
 |mk (r:List Addr) (fr:Fr) (h:Hh) (fl:Fl) (aj:Fr) (h':Hh) (c0:SR K m H r fr s) (c1:HR K H r h) (c2:Ev.exs P w ss fr h=.ok (fl,aj) h') (c3:Fin K m r H h' fl aj Q):AQ K m P w ss Q s H
def PS.of{X:Cx}{st:Stmt}{t t':TS}(h:PS X st t)(w:∀Q s H,t' Q s H->t Q s H):PS X st t':=λpins s σ H Q I q=>h pins s σ H Q I (w _ _ _ q)
def gI.of{X:Cx}{st:List Stmt}{t t':TS}(h:gI X st t)(w:∀Q s H,t' Q s H->t Q s H):gI X st t':=λpins s σ H Q I q=>h pins s σ H Q I (w _ _ _ q)
section
variable(G:Tb)(n:Nat)(sc:Scope)(N:List Str)(df:Bool)(m:List Nat)
def JS(st:S)(x:Stmt):Prop:=∀X,Good G n sc N df X->PS X x (ML X.K m (Ev.run G.F G.w n) G.w st)
def kP(ss:Ss)(xs:List Stmt):Prop:=∀X,Good G n sc N df X->gI X xs (AQ X.K m (Ev.run G.F G.w n) G.w ss)
end
section
variable{G:Tb}{n:Nat}{sc:Scope}{N:List Str}{df:Bool}{m:List Nat}{a b:E}{xa tg:Expr}{pos:Pos}
def DP:kP G n sc N df m .nil []:=λX g=>gI.of Dm λQ s H q=>by
 obtain⟨r,f,h,fl,i,j,c,d,e,q⟩:=q;simp only[Ev.exs]at e;cases e;exact q s H r c d .refl
def AR{st:S}{ss:Ss}{x:Stmt}{xs:List Stmt}(h1:JS G n sc N df m st x)(h2:kP G n sc N df m ss xs):kP G n sc N df m (.cons st ss) (x :: xs):=λX g=>gI.of (Au (h1 X g) (h2 X g)) λQ s H q=>by
 obtain⟨r,j,h,fl,l,o,p,y,e,q⟩:=q;simp only[Ev.exs]at e;obtain⟨⟨f,i⟩,h1,z,e⟩:=Ev.ah e;refine⟨r,j,h,f,i,h1,p,y,z,?_⟩;cases f with
 |nx=>exact λs1 H1 A B c f1=>⟨A,i,h1,fl,l,o,B,c,e,q.later f1⟩
 |bk=>cases e;exact q
 |ct=>cases e;exact q
 |ret d=>cases e;exact q
def GZ(j i:Nat){x:Str}{pos':Pos}(hm:m.Nodup)(hN:N.Nodup)(ha:JE G n sc N df m a xa)(hs:∀env:Env,swapsWith xa (some (.Name x pos')) pos.line env=pure false:=by intro _;rfl)(hj:m[j]?=some i:=by rfl)(qz:N[j]?=some x:=by rfl)
  (hl:sc.names.lookup x=some .local\/(df=true/\sc.names.lookup x=some .cell):=by first|exact Or.inl rfl|exact Or.inr ⟨rfl,rfl⟩):JS G n sc N df m (.set i a) (.Assign [.Name x pos'] xa pos):=λX g=>by
 obtain⟨f,o⟩:=g.loc hl;refine PS.of (xP (i:=j) (by rw[g.nm];exact hN) (by rw[g.nm];exact qz) f (ha X g) (hs _) o) λQ s H q=>?_;obtain⟨r,p,h,fl,C,F,l,y,e,q⟩:=q;simp only[Ev.iy]at e;obtain⟨d,f,z,e⟩:=Ev.ah e;cases e;exact⟨r,p,h,d,_,l,y,z,λv H1 A B c f1=>q _ H1 A ((l.mono f1).set hm hj B) c f1⟩
def G0(ha:JE G n sc N df m a xa)(hs:∀env:Env,swapsWith xa none pos.line env=pure false:=by intro _;rfl):JS G n sc N df m (.exp a) (.Expr xa pos):=λX g=>PS.of (Dn (ha X g) (hs _)) λQ s H q=>by
 obtain⟨r,i,h,fl,p,x,f,j,e,q⟩:=q;simp only[Ev.iy]at e;obtain⟨d,y,l,e⟩:=Ev.ah e;cases e;exact⟨r,i,h,d,_,f,j,l,λv H1 o z c f1=>q s H1 o (f.mono f1) c f1⟩
def G1(ha:JE G n sc N df m a xa):JS G n sc N df m (.ret a) (.Return (some xa) pos):=λX g=>PS.of (FF (ha X g)) λQ s H q=>by
 obtain⟨r,c,h,fl,l,o,f,i,e,q⟩:=q;simp only[Ev.iy]at e;obtain⟨d,p,j,e⟩:=Ev.ah e;cases e;exact⟨r,c,h,d,_,f,i,j,q⟩
def G2{ta tb:Ss}{ya yb:List Stmt}(hc:JT G n sc N df m a xa)(h1:kP G n sc N df m ta ya)(h2:kP G n sc N df m tb yb):JS G n sc N df m (.iff a ta tb) (.If xa ya yb pos):=λX g=>PS.of (KZ (hc X g) (h1 X g) (h2 X g)) λQ s H q=>by
 obtain⟨r,d,h,fl,j,l,f,p,e,q⟩:=q;simp only[Ev.iy]at e;obtain⟨k,i,x,e⟩:=Ev.ah e;refine⟨r,d,h,k,i,f,p,x,λH1 o c f1=>?_⟩;cases k with
 |true=>exact⟨o,d,i,fl,j,l,f.mono f1,c,e,q.later f1⟩
 |false=>exact⟨o,d,i,fl,j,l,f.mono f1,c,e,q.later f1⟩
def Good.pass{X:Cx}(g:Good G n sc N df X):PassesOwn (model X.prog X.w) X.A X.env X.xe:=by
 rw[g.xe];exact PassesOwn.never
def FN(K:PySem.W.Frag)(m:List Nat)(fW:Fl)(jf:Fr)(h4:Hh)(r1:List Addr)(H1:Hp)(s5:L2.St)(H5:Hp):Prop:=(fW=.nx\/fW=.ct)/\∃r5,SR K m H5 r5 jf s5/\HR K H5 r5 h4/\Fm K r1 r5 H1 H5
section
variable{K:PySem.W.Frag}{r r1 r2:List Addr}{H H1 H2:Hp}{h4 h':Hh}{fl fW:Fl}{jf aj:Fr}{Q:Ends}
noncomputable def we(L:R (Fl×Fr))(p:Fl×Fr)(h1:Hh):R (Fl×Fr):=match p.1 with
 |.nx=>L
 |.ct=>L
 |.bk=>.ok (.nx,p.2) h1
 |.ret x=>.ok (.ret x,p.2) h1
def uJ{L:R (Fl×Fr)}(e:we L (fW,jf) h4=.ok (fl,aj) h')(z:fW=.nx\/fW=.ct):L=.ok (fl,aj) h':=by rcases z with rfl|rfl<;>exact e
def rS{L:R (Fl×Fr)}(e:we L (fW,jf) h4=.ok (fl,aj) h')(q:Fin K m r H h' fl aj Q)(f:Fm K r r1 H H1)(f2:Fm K r1 r2 H1 H2):Fin K m r2 H2 h4 fW jf { Q with nx:=FN K m fW jf h4 r1 H1,ct:=FN K m fW jf h4 r1 H1,bk:=Q.nx }:=by
 cases fW with
 |nx=>exact λs6 H6 c g h f6=>⟨.inl rfl,c,g,h,f2.trans f6⟩
 |ct=>exact λs6 H6 c g h f6=>⟨.inr rfl,c,g,h,f2.trans f6⟩
 |bk=>
  cases e;exact λs6 H6 c g h f6=>q s6 H6 c g h ((f.trans f2).trans f6)
 |ret d=>
  cases e;exact Res.later q (f.trans f2)
noncomputable def rT(P:aH)(w:Nat)(t:T)(tb:Ss):D->Fr->Hh->R (Fl×Fr):=λd c e=>match Ev.bT t d c with
 |some f=>Ev.exs P w tb f e
 |none=>.bad
def rV(P:aH)(w:Nat)(t:T)(it:Ev.It)(tb:Ss)(fr:Fr)(h:Hh):Ev.ex P w (.for t it tb) fr h=(Ev.bJ P it fr h).bind λs h1=>Ev.forL (rT P w t tb) s.2 s.1 fr h1:=by simp only[Ev.iy];rfl
def qB(f:D->Fr->Hh->R (Fl×Fr))(ck:List (Nat×List D))(d:D)(ds:List D)(fr:Fr)(h:Hh):Ev.forL f ck (d :: ds) fr h=if Ev.stays h ck then (f d fr h).bind λp h1=>we (Ev.forL f ck ds p.2 h1) p h1 else .bad:=rfl
def FW(K:PySem.W.Frag)(m:List Nat)(f:D->Fr->Hh->R (Fl×Fr))(src:Src)(r1:List Addr)(H1:Hp)(o:Fl×Fr)(h':Hh)(i k:Nat)(s3:L2.St)(H3:Hp):Prop:=
 k=src.1.length - i/\i<=src.1.length/\∃r3 b8 h3,SR K m H3 r3 b8 s3/\HR K H3 r3 h3/\Fm K r1 r3 H1 H3/\Ev.forL f src.2 (src.1.drop i) b8 h3=.ok o h'
def AS{P:aH}{w:Nat}{t:T}{tb:Ss}{src:Src}{J:L2.It}{i k:Nat}{s3:L2.St}{H3:Hp}(hJ:kr K r1 H1 src J)(q:Fin K m r H h' fl aj Q)(f1:Fm K r r1 H H1)(hW:FW K m (rT P w t tb) src r1 H1 (fl,aj) h' i k s3 H3) :
  (J.stop i H3/\Q.nx s3 H3)\/(J.go i H3/\∃N:L2.St->Hp->Prop,(∀σ' H',N σ' H'->∃m',m'<k/\FW K m (rT P w t tb) src r1 H1 (fl,aj) h' (i+1) m' σ' H')/\∀x H',J.B7 i H3 x H'->gJ K m t x s3 H' λσ2 H2=>AQ K m P w tb { Q with nx:=N,ct:=N,bk:=Q.nx } σ2 H2):=by
 obtain⟨rfl,g,h,C,j,A,l,f3,c⟩:=hW;rcases Nat.lt_or_ge i src.1.length with d|o
 .rw[Tp d,qB]at c;split at c
  .rename_i e;obtain⟨F,I⟩:=(hJ i H3 h j l f3 e).1 src.1[i] (RZ d);obtain⟨⟨fW,jf⟩,h4,f,c⟩:=Ev.ah c;unfold rT at f;split at f
   .rename_i B L;exact .inr ⟨F,FN K m fW jf h4 r1 H1,λs5 H5 ⟨p,M,z,X,f5⟩=>⟨_,VA d (T7 i),rfl,d,M,jf,h4,z,X,f5,uJ c p⟩,λx H4 y=>
     let ⟨r4,v4,MM,f4⟩:=I x H4 y
     ⟨r4,C,j,_,B,A.mono f4,MM,v4,L,λs5 z=>⟨r4,B,j,fW,jf,h4,z,MM,f,rS c q f1 (f3.trans f4)⟩⟩⟩
   .cases f
  .cases c
 .have Y:i=src.1.length:=VV g o;subst Y;rw[SV]at c;unfold Ev.forL at c;split at c
  .rename_i e;cases c;exact .inl ⟨(hJ _ H3 h _ l f3 e).2 (oM _),q s3 H3 h A l (f1.trans f3)⟩
  .cases c
end
def yp(t:Fr->Hh->R Bool)(f:Fr->Hh->R (Fl×Fr))(n:Nat)(fr:Fr)(h:Hh):Ev.dD t f (n+1) fr h=(t fr h).bind λb h1=>if b then (f fr h1).bind λp h2=>we (Ev.dD t f n p.2 h2) p h2 else .ok (.nx,fr) h1:=rfl
def WW(K:PySem.W.Frag)(m:List Nat)(P:aH)(w:Nat)(a:E)(tb:Ss)(r:List Addr)(H:Hp)(o:Fl×Fr)(h':Hh)(k:Nat)(s1:L2.St)(H1:Hp):Prop:=
 ∃r1 af h1,SR K m H1 r1 af s1/\HR K H1 r1 h1/\Fm K r r1 H H1/\Ev.dD (λc d=>Ev.aD P a c d) (λc d=>Ev.exs P w tb c d) k af h1=.ok o h'
def G3{tb:Ss}{yb:List Stmt}(hc:JT G n sc N df m a xa)(h1:kP G n sc N df m tb yb):JS G n sc N df m (.jT a tb) (.While xa yb [] pos):=λX g=>PS.of (Ax g.pass (hc X g) (h1 X g)) λQ s H q=>by
 obtain⟨r,B,h,fl,C,I,J,L,e,q⟩:=q;simp only[Ev.iy]at e;refine⟨WW X.K m (Ev.run G.F G.w n) G.w a tb r H (fl,C) I,⟨_,r,B,h,J,L,.refl,e⟩,λk s1 H1 M=>?_⟩;obtain⟨P,p,h1,f,i,f1,c⟩:=M;cases k with
 |zero=>cases c
 |succ k=>
  rw[yp]at c;obtain⟨x,y,W,c⟩:=Ev.ah c;refine⟨P,p,h1,x,y,f,i,W,λH2 z d f2=>?_⟩;cases x with
  |false=>
   cases c;exact q s1 H2 z (f.mono f2) d (f1.trans f2)
  |true=>
   rw[gQ rfl]at c;obtain⟨⟨A,j⟩,l,Y,c⟩:=Ev.ah c;exact⟨FN X.K m A j l r H,λs3 H3 ⟨o,Z,uK,nR,f3⟩=>⟨k,T7 k,Z,j,l,uK,nR,f3,uJ c o⟩,z,p,y,A,j,l,f.mono f2,d,Y,rS c q .refl (f1.trans f2)⟩
def G4{t:T}{it:Ev.It}{tb:Ss}{yb:List Stmt}(hi:JI G n sc N df m it tg xa)(hg:JG G n sc N df m t tg)(h1:kP G n sc N df m tb yb)(hs:∀(env:Env) x,foldedSetIterable xa env x=pure x:=by intro _ _;rfl) :
  JS G n sc N df m (.for t it tb) (.For tg xa yb [] pos):=λX g=>PS.of (FL g.pass g.calm (hi X g) (hg X g) (h1 X g) (hs _)) λQ s H q=>by
 obtain⟨r,d,h,fl,o,p,f,y,e,q⟩:=q;rw[rV]at e;obtain⟨src,j,z,e⟩:=Ev.ah e;exact⟨r,d,h,src,j,f,y,z,λJ H1 l c f1 A=>⟨FW X.K m (rT (Ev.run G.F G.w n) G.w t tb) src l H1 (fl,o) p,⟨src.1.length,rfl,SQ _,l,d,j,f.mono f1,c,.refl,by rw[Tv];exact e⟩,λi k s3 H3 B=>AS A q f1 B⟩⟩
end
def getElem?_range'{k j i:Nat}(h:(List.range k)[j]?=some i):i=j:=by
 obtain⟨b,a⟩:=List.getElem?_eq_some_iff.mp h;simpa using a.symm
def AU{K:PySem.W.Frag}{H:Hp}{r:List Addr}{ds:List D}{vs:List V}{N:List Str}{fn:Ev.Fn}(v1:aB K H r ds vs)(hN:vs.length<=N.length):SR K (List.range N.length) H r (Ev.ek fn ds) (L2.start N vs):=by
 refine⟨by unfold L2.start;simp;omega,λj i d c a=>?_⟩;have e:=getElem?_range' c;subst e;unfold Ev.ek at a;by_cases b:i<ds.length
 .rw[gE (by simpa using b),Su]at a;cases e4:ds[i]? with
  |none=>rw[e4]at a;cases a
  |some h=>
   rw[e4]at a;cases a;obtain⟨v,f,g⟩:=v1.get e4;refine⟨v,?_,g⟩;unfold L2.start;rw[gE (by have:=v1.length;simpa using (by omega:i<vs.length)),Su,f];rfl
 .rw[Sj (by simpa using Nat.not_lt.mp b),U9]at a;split at a<;>cases a
section
variable{P:Program}{w:World}{K:PySem.W.Frag}{mg:Str->Option Value}{base:Heap}{G:Tb}
def qW(P:Program)(w:World)(K:PySem.W.Frag)(mg:Str->Option Value)(base:Heap)(G:Tb)(n:Nat):Prop:=∀(f:Nat) i,
 G.fi[f]?=some i
 ->gK P w K mg base lB n i.addr i.fd i.ps (mX K G.F G.w n f)
structure Top(P:Program)(w:World)(K:PySem.W.Frag)(mg:Str->Option Value)(G:Tb):Prop where
 fn:∀(f:Nat) i,G.fi[f]?=some i->mg i.name=some (.ref i.addr)/\PySem.W.keepIn K (.ref i.addr)=true/\Binds K i.fd i.ps []
 bl:∀x∈G.bl,mg x=none
 cs:∀x d,(x,d)∈G.cs->∃v u,mg x=some u/\RelV v u/\uI K d v
 dk:∀x kvs,(x,kvs)∈G.dk->∃a,mg x=some (.ref a)/\∀h:Heap,K.In h->StrTab P w h a (tabOf kvs)
def DQ{f:Addr}{fd:FuncData}{ps:List Str}{k:Nat}:gK P w K mg base lB 0 f fd ps (mX K G.F G.w 0 k):=by
 have c:∀a H Q E,¬ mX K G.F G.w 0 k a H Q E:=λa H Q E h=>by
  obtain⟨r,h,g,d,i,_,_,e,_⟩:=h;cases e
 exact⟨λa H Q E h=>absurd h (c a H Q E),λA b s H args j a Q E _ _ _ _ h=>absurd h (c a H Q E)⟩
def cS{x qual:Str}{st:Stmt}{i:FI}{N:List Str}{n f:Nat}{fn:Ev.Fn}(T:Top P w K mg G)(A0:qW P w K mg base G n)(F:rM K x qual st i.addr i.fd)(S:bE N i.ps (aJ st))(hf:G.F[f]?=some fn)(hp:i.ps.length=fn.np)
  (hb:kP G n (aJ st) N true (List.range N.length) fn.body (fU st)):gK P w K mg base lB (n+1) i.addr i.fd i.ps (mX K G.F G.w (n+1) f):=by
 have a:∀c H Q E,mX K G.F G.w (n+1) f c H Q E->c.length=i.ps.length:=λc H Q E h=>by
  obtain⟨r,h,B,d,I,l,_,e,_⟩:=h;simp only[Ev.nP,hf]at e;split at e
  .rename_i z;rw[l.length,z,hp]
  .cases e
 refine F.ok S a λo A b s H c Q E J C=>?_;have hl:=a c H Q E C;have L:c.length<=N.length:=by
  have:=R8 List.length S.pre;rw[S9]at this;omega
 have g:Good G n (aJ st) N true (nv lB P w K mg base N qual (aJ st) i.addr o A b s H E).qi:=
  ⟨rfl,rfl,rfl,λ_ _=>rfl,J,rfl,λf i j=>⟨(T.fn f i j).1,(T.fn f i j).2.1,(T.fn f i j).2.2,A0 f i
   j
   ⟩,T.bl,T.cs,T.dk
   ⟩
 refine⟨_,hb _ g,?_⟩;obtain⟨r,h,B,d,I,l,p,e,q⟩:=C;simp only[Ev.nP,hf]at e;split at e
 .unfold Ev.endOf at e;obtain⟨⟨fl,M⟩,X,Y,e⟩:=Ev.ah e;refine⟨r,Ev.ek fn B,h,fl,M,X,AU l L,p,Y,?_⟩;cases fl with
  |nx=>
   cases e;exact λs' H' Z _ y f'=>q _ H' Z rfl y f'
  |ret d'=>
   cases e;exact q
  |bk=>cases e
  |ct=>cases e
 .cases e
end
end Sm
namespace Sm
open PySem PySem.Spec PyProof.Rows L2 PySem.SeqAt
open Ev (D O Hh Fr R aH E Es Eo T S Ss Fl Src bF bu TY BI ME)
end Sm
namespace Sm
open PySem PySem.Spec PyProof.Rows L2
open Ev (D O Hh Fr R aH E Es Eo T S Ss Fl Src bF bu TY BI ME)
theorem o8(env:Env):∀(names:List (Str×NameKind)) (acc:List (Str×Addr)),(∀x,(x,NameKind.free)∈names->∃c,env.cells.lookup x=some c)->(∀x c,acc.lookup x=some c->env.cells.lookup x=some c)->
  ∃cl,(forIn names acc (λ(x:Str×NameKind) cs=>if (x.2==NameKind.free)=true then (do let c <-cellOf env x.1;pure (ForInStep.yield ((x.1,c) :: cs)))else pure (ForInStep.yield cs)):Sem (List (Str×Addr)))=pure cl/\
   (∀x c,cl.lookup x=some c->env.cells.lookup x=some c)/\(∀x,(x,NameKind.free)∈names->(cl.lookup x).isSome=true)/\(∀x,(acc.lookup x).isSome=true->(cl.lookup x).isSome=true)
 |[],acc,_,h2=>⟨acc,rfl,h2,(λx h=>by simp at h),λ_ h=>h⟩
 | (y,k) :: r,acc,h1,h2=>by
  by_cases f:k=.free
  .subst f;obtain⟨c,q⟩:=h1 y (Sn ..);have g:∀x b,((y,c) :: acc).lookup x=some b->env.cells.lookup x=some b:=λx b e=>by
    rw[S8]at e;split at e
    .rename_i a;have i:x=y:=by simpa using a
     cases e;rw[i];exact q
    .exact h2 x b e
   obtain⟨cl,j,l,o,d⟩:=o8 env r ((y,c) :: acc) (λx a=>h1 x (R9 _ a)) g;refine⟨cl,?_,l,λx a=>?_,λx a=>d x ?_⟩
   .rw[VW];simp only[VM,Sf];unfold cellOf;rw[q];exact j
   .rcases List.mem_cons.mp a with z|z
    .cases z;exact d y (by simp[S8])
    .exact o x z
   .rw[S8];split
    .rfl
    .exact a
  .have p:(k==NameKind.free)=false:=by simpa using f
   obtain⟨cl,j,l,o,d⟩:=o8 env r acc (λx a=>h1 x (R9 _ a)) h2;refine⟨cl,?_,l,λx a=>?_,d⟩
   .rw[VW];simp only[p,Si,SK];exact j
   .rcases List.mem_cons.mp a with z|z
    .cases z;exact absurd rfl f
    .exact o x z
def DR{scope:Scope}{env:Env}(h:∀x,(x,NameKind.free)∈scope.names->∃c,env.cells.lookup x=some c) :
  ∃cl,closureFor scope env=pure cl/\(∀x c,cl.lookup x=some c->env.cells.lookup x=some c)/\∀x,(x,NameKind.free)∈scope.names->∃c,cl.lookup x=some c:=by
 obtain⟨cl,b,d,f,_⟩:=o8 env scope.names [] h (λx c e=>by simp at e);refine⟨cl,?_,d,λx g=>Option.isSome_iff_exists.mp (f x g)⟩;unfold closureFor;show(forIn scope.names [] _ >>= λa=>pure a:Sem (List (Str×Addr)))=pure cl;have e:(forIn scope.names [] (λ(x:Str×NameKind) a=>if (x.2==NameKind.free)=true then (do let c <-cellOf env x.1;pure (ForInStep.yield ((x.1,c) :: a)))else pure (ForInStep.yield a)):Sem (List (Str×Addr)))=pure cl:=b;exact R8 (λt:Sem (List (Str×Addr))=>t >>= λa=>pure a) e
noncomputable def er(sc scope:Scope):Scope:={ scope with names:=scope.names.map λ(n,k)=>if (k==.free&&sc.kind==.function&&sc.names.lookup n==some .cell)then (n,.cell)else (n,k)}
def o9{env:Env}{sc scope:Scope}(h:env.scope=sc):relabel scope env=er sc scope:=by
 subst h;rfl
theorem qD{sc:Scope}:∀{names:List (Str×NameKind)}{x:Str},(∀y∈names,y.2≠.cell)->
  ((names.map λ(n,k)=>if (k==NameKind.free&&sc.kind==.function&&sc.names.lookup n==some .cell)then (n,NameKind.cell)else (n,k)).lookup x=some .cell\/
   (names.map λ(n,k)=>if (k==NameKind.free&&sc.kind==.function&&sc.names.lookup n==some .cell)then (n,NameKind.cell)else (n,k)).lookup x=some .free)->(x,NameKind.free)∈names
 |[],_,_,h=>by rcases h with h|h<;>simp at h
 | (n,k) :: r,x,hc,h=>by
  have i:=@qD sc r x λy j=>hc y (R9 _ j);simp only[gV]at h;have d:∀(a:NameKind),(if (k==NameKind.free&&sc.kind==.function&&sc.names.lookup n==some .cell)then (n,NameKind.cell)else (n,k))=(n,a)->a=.cell\/a=.free->k=.free:=λa e b=>by
   split at e
   .rename_i z;simp only[iY,VT]at z;exact z.1.1
   .cases e;rcases b with z|z
    .exact absurd z (hc (n,_) (Sn ..))
    .exact z
  generalize hg:(if (k==NameKind.free&&sc.kind==.function&&sc.names.lookup n==some .cell)then (n,NameKind.cell)else (n,k))=p at h d
  have f:p.1=n:=by rw[<-hg];split<;>rfl
  obtain⟨g,l⟩:=p;simp only at f;subst f;simp only[S8]at h;cases hx:(x==g)with
  |true=>
   have c:x=g:=by simpa using hx
   rw[hx]at h;have:=d l rfl (by rcases h with h|h<;>simp at h<;>simp[h]);subst this;rw[c];exact Sn ..
  |false=>
   rw[hx]at h;exact R9 _ (i h)
section
variable{prog:Program}{w:World}{A:Around}{R':Result->Shared->Prop}{s:Shared}
abbrev fJ:Value->Shared->Prop:=λ_ _=>False
noncomputable def uL(ifs:List Expr)(env:Env):Sem Bool:=forIn ifs true λc r=>if r=true then do let ok <-isTrue c env (eval c env);pure (ForInStep.yield ok)else pure (ForInStep.yield r)
def rW{elt target iter:Expr}{ifs:List Expr}{scope:Scope}{pos:Pos}{it acc:Value}{env:Env}(I:Nat->Shared->Prop)
  (turn:∀n s,I n s->wpAny (model prog w) A (pyNext it) (λr s₁=>match r with
   |none=>R' (.ok .next) s₁
   |some v=>wpAny (model prog w) A (letOwnedTupleGo target it v) (λ_ s₂=>wpAny (model prog w) A (assign target env v) (λ_ s₃=>
     wpAny (model prog w) A (uL ifs env) (λok s₄=>
      if ok=true then wpAny (model prog w) A (eval elt env) (λx s₅=>
       wpAny (model prog w) A (call (.builtin "list.append") [acc,x]) (λ_ s₆=>∃m,m<n/\I m s₆) fJ s₅) fJ s₄
      else ∃m,m<n/\I m s₄) fJ s₃) fJ s₂) fJ s₁) fJ s)
  (n:Nat) (h:I n s):codeAny (model prog w) A (.compLoop (.ListComp elt [⟨target,iter,ifs,0⟩] scope pos) 0 it acc env) R' s:=by
 refine codeAny_loop rfl I (λn s d=>?_) n h;show wpAny _ A ((compTurn (.ListComp elt [⟨target,iter,ifs,0⟩] scope pos) 0 it acc env).onRaise (λx=>do noteFrame x env;theTreesLotGoes x)) _ _ s;refine wpAny_noted ?_;rw[compTurn_list];refine fB (wpAny_standAt (fB (SJ (turn n s d) (λr s₁ b=>?_) λ_ _ a=>a.elim)));cases r with
 |none=>exact RW b
 |some v=>
  refine fB (SJ b (λ_ s₂ e=>?_) λ_ _ a=>a.elim);refine fB (SJ e (λ_ s₃ f=>fB (SJ f (λok s₄ c=>?_) λ_ _ a=>a.elim)) λ_ _ a=>a.elim);cases ok with
  |false=>exact RW ⟨rfl,c⟩
  |true=>
   exact fB (fB (SJ c (λx s₅ g=>fB (SJ g (λ_ s₆ i=>RW (RW ⟨rfl,i⟩)) λ_ _ a=>a.elim)) λ_ _ a=>a.elim))
end
inductive MN(K:PySem.W.Frag)(m:List Nat)(P:aH)(e:Eo)(s:L2.St)(H:Hp)(Q:Bool->Hp->Prop):Prop
 |mk (r:List Addr) (fr:Fr) (h:Hh) (k:Bool) (h':Hh) (c0:SR K m H r fr s) (c1:HR K H r h) (c2:Ev.gm P e fr h=.ok k h') (c3:∀H' r',HR K H' r' h'->Fm K r r' H H'->Q k H'):MN K m P e s H Q
def JC(G:Tb)(n:Nat)(sc:Scope)(N:List Str)(df:Bool)(m:List Nat)(e:Eo)(ifs:List Expr):Prop:=∀X,Good G n sc N df X->∀(pins:List (Addr×Obj)) (s:Shared) (σ:L2.St) (H:Hp) (Q:Bool->Hp->Prop),Inv X pins σ H s->
 MN X.K m (Ev.run G.F G.w n) e σ H Q->wpAny (model X.prog X.w) X.A (uL ifs X.env) (TP X pins σ Q) X.xe s
section
variable{G:Tb}{n:Nat}{sc:Scope}{N:List Str}{df:Bool}{m:List Nat}{a:E}{xa:Expr}
def Lq:JC G n sc N df m .no []:=λX g pins s σ H Q I q=>by
 obtain⟨r,c,h,k,d,f,b,e,q⟩:=q;simp only[Ev.gm]at e;cases e;exact RW ⟨H,I,q H r b .refl⟩
def G5(hc:JT G n sc N df m a xa):JC G n sc N df m (.yes a) [xa]:=λX g pins s σ H Q I q=>by
 obtain⟨r,b,h,k,c,d,f,e,q⟩:=q;simp only[Ev.gm]at e;exact wpAny_tests_one (hc X g pins s σ H Q I ⟨r,b,h,k,c,d,f,e,q⟩)
end
noncomputable def nS(X:Cx)(N':List Str)(scope:Scope)(cl:List (Str×Addr))(C:Addr)(s3:Shared)(H3:Hp)(fp:List Addr):Cx:=
 { X with N:=N',s₀:=s3,H₀:=H3,env:=compEnvC scope cl C X.env,outer:=X.stack,stack:=X.stack,ex:=fp,fn:=λ_=>false,pn:=[],xe:=λ_ _=>False }
def namesOk(sc:Scope)(N:List Str)(m:List Nat)(scope:Scope)(t:T)(N':List Str)(m':List Nat):Prop:=m'.length=N'.length/\
 ∀(j:Nat) x i,N'[j]?=some x->m'[j]?=some i->i∈Ev.slots t\/((x,NameKind.free)∈scope.names/\∃jo:Nat,N[jo]?=some x/\m[jo]?=some i)
noncomputable def nT(sc:Scope)(N:List Str)(m:List Nat)(scope:Scope)(t:T)(N':List Str)(m':List Nat):Bool:=m'.length==N'.length&&
 (List.range N'.length).all λj=>match N'[j]?,m'[j]? with
  |some x,some i=>(Ev.slots t).contains i || (scope.names.contains (x,NameKind.free)&&(List.range N.length).any λa=>N[a]?==some x&&m[a]?==some i)
  |_,_=>true
def namesOk.of{sc:Scope}{N:List Str}{m:List Nat}{scope:Scope}{t:T}{N':List Str}{m':List Nat}(h:nT sc N m scope t N' m'=true):namesOk sc N m scope t N' m':=by
 unfold nT at h;rw[iY]at h;refine⟨by simpa using h.1,λj x i a c=>?_⟩;have d:j<N'.length:=(List.getElem?_eq_some_iff.mp a).1;have q:=List.all_eq_true.mp h.2 j (List.mem_range.mpr d);rw[a,c]at q;simp only[SO,iY,List.any_eq_true]at q;rcases q with q|⟨e,f,_,b⟩
 .exact .inl (by simpa using q)
 .exact .inr ⟨by simpa using e,f,by simpa using b.1,by simpa using b.2⟩
def uh{t:T}{d:D}{fr ao:Fr}(e:Ev.bT t d fr=some ao){i:Nat}(hi:i∉Ev.slots t):ao[i]?=fr[i]?:=by
 have c:∀(l:List Nat) (a:List D) (fr ao:Fr),Ev.cg l a fr=some ao->i∉l->ao[i]?=fr[i]?:=by
  intro l;induction l with
  |nil=>
   intro a fr ao e _;cases a with
   |nil=>cases e;rfl
   |cons _ _=>cases e
  |cons j l f=>
   intro a fr ao e b;cases a with
   |nil=>cases e
   |cons d a=>
    rw[f a _ _ e λz=>b (R9 _ z),gR];intro z;exact b (by rw[z];exact Sn ..)
 cases t with
 |one j=>
  cases e;rw[gR];intro z;exact hi (by simp[Ev.slots,z])
 |many l=>
  cases d with
  |tup a=>exact c l a fr ao e hi
  |_=>cases e
def SR.unbind{K:PySem.W.Frag}{m:List Nat}{H:Hp}{r:List Addr}{t:T}{d:D}{fr ao:Fr}{s:L2.St}(sr:SR K m H r ao s)(e:Ev.bT t d fr=some ao)(hu:Ev.undef t fr=true):SR K m H r fr s:=by
 refine⟨sr.len,λj i b c a=>sr.sl j i b c ?_⟩;rw[uh e]
 .exact a
 .intro f;have q:=List.all_eq_true.mp hu i f;rw[a]at q;cases q
structure jG(sc scope:Scope):Prop where
 kind:scope.kind=.function
 yq:∀y∈scope.names,y.2≠.cell
 free:∀x,(x,NameKind.free)∈scope.names->(sc.names.lookup x=some .cell\/sc.names.lookup x=some .free)/\scope.names.lookup x=some .free
 loc:∀y∈scope.names,y.2=.local->scope.names.lookup y.1=some .local
noncomputable def Cg(sc scope:Scope):Bool:=scope.kind==.function&&scope.names.all λy=>y.2 != .cell&&(y.2 != .free || ((sc.names.lookup y.1==some .cell ||sc.names.lookup y.1==some .free)&&scope.names.lookup y.1==some .free))&&(y.2 != .local ||scope.names.lookup y.1==some .local)
def jG.of{sc scope:Scope}(h:Cg sc scope=true):jG sc scope:=by
 unfold Cg at h;rw[iY]at h;have q:∀y∈scope.names,y.2≠.cell/\(y.2=.free->(sc.names.lookup y.1=some .cell\/sc.names.lookup y.1=some .free)/\scope.names.lookup y.1=some .free)/\(y.2=.local->scope.names.lookup y.1=some .local):=λy a=>by
  have z:=List.all_eq_true.mp h.2 y a;simp only[iY,SO,VS,VT,ne_eq]at z;refine⟨z.1.1,λe=>?_,λe=>?_⟩
  .rcases z.1.2 with w|w
   .exact absurd e w
   .exact w
  .rcases z.2 with w|w
   .exact absurd e w
   .exact w
 exact⟨by simpa using h.1,λy a=>(q y a).1,λx b=>(q _ b).2.1 rfl,λy a=>(q y a).2.2⟩
theorem qE{sc:Scope}:∀{names:List (Str×NameKind)}{x:Str},names.lookup x=some .free->
  ((names.map λ(n,k)=>if (k==NameKind.free&&sc.kind==.function&&sc.names.lookup n==some .cell)then (n,NameKind.cell)else (n,k)).lookup x=some .cell\/
   (names.map λ(n,k)=>if (k==NameKind.free&&sc.kind==.function&&sc.names.lookup n==some .cell)then (n,NameKind.cell)else (n,k)).lookup x=some .free)
 |[],_,h=>by simp at h
 | (n,k) :: r,x,h=>by
  have a:=@qE sc r x;simp only[gV];simp only[S8]at h;by_cases b:(k==NameKind.free&&sc.kind==.function&&sc.names.lookup n==some .cell)=true
  .rw[gQ b];simp only[S8];cases hx:(x==n)with
   |true=>exact .inl rfl
   |false=>rw[hx]at h;exact a h
  .rw[R0 b];simp only[S8];cases hx:(x==n)with
   |true=>rw[hx]at h;exact .inr h
   |false=>rw[hx]at h;exact a h
section
variable{G:Tb}{n:Nat}{sc scope:Scope}{N N':List Str}{df:Bool}{m m':List Nat}{t:T}{X:Cx}
def Good.comp(g:Good G n sc N df X){cl:List (Str×Addr)}{C:Addr}{s3:Shared}{H3:Hp}{fp:List Addr}:Good G n (er sc scope) N' false (nS X N' scope cl C s3 H3 fp):=
 ⟨rfl,o9 g.sc,g.calm,(λh=>by cases h),g.room,rfl,g.fn,g.bl,g.cs,g.dk
 ⟩
def DS{pins:List (Addr×Obj)}{σ:L2.St}{H3:Hp}{s3:Shared}(g:Good G n sc N df X)(I:Inv X pins σ H3 s3)(hs:jG sc scope){cl:List (Str×Addr)}(gq:∀x c,cl.lookup x=some c->X.env.cells.lookup x=some c)
  (jH:∀x,(x,NameKind.free)∈scope.names->∃c,cl.lookup x=some c) {fp:List Addr} (hfp:∀b∈fp,eV X pins H3 b) (hfl:∀b∈fp,b<s3.heap.objs.size):(nS X N' scope cl s3.heap.objs.size s3 H3 fp).Ok where
 mod:=I.ok.mod
 kind:=hs.kind
 glob:=I.ok.glob
 blt:=I.ok.blt
 above:=oM _
 inj:=λx y c d f=>I.ok.inj x y c (gq x c d) (gq y c f)
 has:=λx h=>by
  have i:(er sc scope).names.lookup x=some .cell\/(er sc scope).names.lookup x=some .free:=by
   rw[<-o9 (scope:=scope) g.sc];exact h
  exact jH x (qD hs.yq i)
 uw:=λx c h=>by cases h
 hd:=I.ok.hd
 frames:=I.ok.frames
 stk:=.inl rfl
 BZ:=λb a=>⟨Sh (hfl b a),λx c e=>(hfp b a).2.2.2.2.1 x c (gq x c e)⟩
 bs:=I.bs
 qg:=Sa I.ok.qg I.sz
 oS:=λb o e a=>by
  rcases(hfp b a).2.2.2.1 with z|z
  .exact I.ok.oS b o e z
  .have:=R5 (I.ok.bs b o e).1;exact absurd (zP this z) (Sw _)
 oU:=λb a z=>by
  rcases List.mem_cons.mp (I.rB b z)with q|q
  .exact(hfp b a).2.1 q
  .exact(hfp b a).2.2.1 q
 iF:=I.stack
 rz:=I.uy
open Classical in
noncomputable def sig(scope:Scope)(N N':List Str)(m':List Nat)(K:PySem.W.Frag)(H:Hp)(r:List Addr)(fr:Fr)(σ:L2.St):L2.St:=
 (List.range N'.length).map λj=>if h:∃v,∃x i,N'[j]?=some x/\m'[j]?=some i/\(x,NameKind.free)∈scope.names/\(∃jo:Nat,N[jo]?=some x/\σ[jo]?=some (some v))/\∀d,fr[i]?=some (some d)->RV K H r d v then some h.choose else none
def G6{K:PySem.W.Frag}{H:Hp}{r:List Addr}{fr:Fr}{σ:L2.St}{j:Nat}{v:V}(h:(sig scope N N' m' K H r fr σ)[j]?=some (some v)) :
  ∃x i,N'[j]?=some x/\m'[j]?=some i/\(x,NameKind.free)∈scope.names/\(∃jo:Nat,N[jo]?=some x/\σ[jo]?=some (some v))/\∀d,fr[i]?=some (some d)->RV K H r d v:=by
 unfold sig at h;rw[Su]at h;cases e:(List.range N'.length)[j]? with
 |none=>rw[e]at h;cases h
 |some b=>
  have:=getElem?_range' e;subst this;rw[e]at h;simp only[VU,TZ]at h;split at h
  .rename_i a;cases h;exact a.choose_spec
  .cases h
def G7{K:PySem.W.Frag}{H:Hp}{r:List Addr}{fr:Fr}{σ:L2.St}(sr:SR K m H r fr σ)(hn:namesOk sc N m scope t N' m')(hu:Ev.undef t fr=true):SR K m' H r fr (sig scope N N' m' K H r fr σ):=by
 refine⟨by unfold sig;simp[hn.1],λj i d b c=>?_⟩;have e:j<N'.length:=by rw[<-hn.1];exact(List.getElem?_eq_some_iff.mp b).1
 have f:N'[j]?=some N'[j]:=RZ e;rcases hn.2 j _ i f b with l|⟨o,a,p,y⟩
 .exfalso;have q:=List.all_eq_true.mp hu i l;rw[c]at q;cases q
 .obtain⟨v,z,A⟩:=sr.sl a i d y c;have ex:∃v,∃x i,N'[j]?=some x/\m'[j]?=some i/\(x,NameKind.free)∈scope.names/\(∃a:Nat,N[a]?=some x/\σ[a]?=some (some v))/\∀d,fr[i]?=some (some d)->RV K H r d v:=
   ⟨v,N'[j],i,f,b,o,⟨a,p,z⟩,λC g=>by rw[c]at g;cases g;exact A⟩
  refine⟨ex.choose,?_,?_⟩
  .unfold sig;rw[Su,UG e];simp only[VU];rw[dif_pos ex]
  .obtain⟨F,I,J,h,L,M,B⟩:=ex.choose_spec;rw[b]at h;cases h;exact B d c
def AV{pins:List (Addr×Obj)}{σ:L2.St}{H3:Hp}{s3:Shared}(g:Good G n sc N df X)(I:Inv X pins σ H3 s3)(hs:jG sc scope){cl:List (Str×Addr)}(gq:∀x c,cl.lookup x=some c->X.env.cells.lookup x=some c)
  (jH:∀x,(x,NameKind.free)∈scope.names->∃c,cl.lookup x=some c) {fp:List Addr} (hfp:∀b∈fp,eV X pins H3 b) (hfl:∀b∈fp,b<s3.heap.objs.size) {h1:Heap} {tk:Nat} {mm:Str->Option Value}
  (hns:h1.Ns s3.heap.objs.size mm) (hk:∀b o,s3.heap.get? b=some o->h1.get? b=some o) {r:List Addr} {fr:Fr} :
  Inv (nS X N' scope cl s3.heap.objs.size s3 H3 fp) [] (sig scope N N' m' X.K H3 r fr σ) H3 { s3 with heap:=h1,toks:=tk }:=by
 refine⟨DS g I hs gq jH hfp hfl,rfl,I.bare,Un.kept hk,⟨mm,hns,λj x v B C W=>?_⟩,λx c e=>?_,I.hok.fresh (oM _),λx c e=>I.gU x c (gq x c e),(λp F=>by simp[nS]at F),I.hok.kept hk,(by unfold sig;simp[nS])⟩
 .obtain⟨Y,i,y,Z,A,⟨H,J,L⟩,_⟩:=G6 C;have Po:N'[j]?=some x:=B;rw[Po]at y;cases y;obtain⟨f1,f2⟩:=hs.free x A;obtain⟨mO,QO,Pp⟩:=I.loc;obtain⟨u,M,P⟩:=Pp H x v (by rw[g.nm];exact J) L (by rw[g.sc];rcases f1 with z|z<;>simp[xJ,z]);refine⟨u,M,?_⟩;have f:X.env.kindOf x=some .cell\/X.env.kindOf x=some .free:=by unfold Env.kindOf;rw[g.sc];exact f1
  rcases P with ⟨z,_⟩|⟨_,c,Q,a⟩
  .rcases f with w|w <;> (rw[z]at w;cases w)
  .obtain⟨h,d⟩:=jH x A;have:h=c:=by
    have:=gq x h d;rw[Q]at this;cases this;rfl
   subst this;refine .inr ⟨?_,h,d,?_⟩
   .show(relabel scope X.env).names.lookup x=some .cell\/(relabel scope X.env).names.lookup x=some .free;rw[o9 (scope:=scope) g.sc];exact qE f2
   .obtain⟨o,l,q⟩:=a;exact⟨o,hk _ _ l,q⟩
 .obtain⟨v,o,l,q⟩:=I.cell x c (gq x c e);exact⟨v,o,hk _ _ l,q⟩
end
section
variable{G:Tb}{n:Nat}{sc scope:Scope}{N N':List Str}{df:Bool}{m m':List Nat}{elt:E}{t:T}{it:Ev.It}{cond:Eo}{xe xi tg:Expr}{ifs:List Expr}{pos:Pos}{X:Cx}
noncomputable def wg(P:aH)(elt:E)(t:T)(cond:Eo)(fr:Fr):D->Hh->R (Option D):=λd c=>match Ev.bT t d fr with
 |none=>.bad
 |some a=>(Ev.gm P cond a c).bind λk b=>if k then (Ev.ev P elt a b).bind λx e=>.ok (some x) e else .ok none b
def pe(P:aH)(elt:E)(t:T)(it:Ev.It)(cond:Eo)(fr:Fr)(h:Hh):Ev.ev P (.comp elt t it cond) fr h=(Ev.bJ P it fr h).bind λs h1=>if Ev.undef t fr then
  (Ev.cz (wg P elt t cond fr) s.2 s.1 h1).bind λds h2=>Ev.alloc ds h2 else .bad:=by
 simp only[Ev.ev];rfl
inductive CI(Y:Cx)(m':List Nat)(f:D->Hh->R (Option D))(fr:Fr)(src:Src)(fp:List Addr)(tn:Nat->Heap->Prop)(r2:List Addr)(H2:Hp)(Dd:Addr)(ds:List D)(h2:Hh)(k:Nat)(s:Shared):Prop
 |mk (i:Nat) (mY:L2.St) (Hc:Hp) (rc:List Addr) (hc:Hh) (dn:List D) (vs:List V) (rest:List D) (c0:Inv Y [] mY Hc s) (c1:tn i s.heap) (c2:∀b∈fp,Hc b=none) (c3:k=src.1.length - i) (c4:i<=src.1.length) (c5:SR Y.K m' Hc rc fr mY) (c6:HR Y.K Hc rc hc) (c7:Fm Y.K r2 rc H2 Hc) (c8:Hc Dd=some (.lst vs)) (c9:Dd∉rc) (d0:aB Y.K Hc rc dn vs) (d1:Ev.cz f src.2 (src.1.drop i) hc=.ok rest h2) (d2:dn++rest=ds):CI Y m' f fr src fp tn r2 H2 Dd ds h2 k s
section
variable{Y:Cx}{sc':Scope}{J:L2.It}{fp:List Addr}{ita:Addr}{tn:Nat->Heap->Prop}{fr:Fr}{src:Src}{r2:List Addr}{H2:Hp}{Dd:Addr}{ds:List D}{h2:Hh}
def wj(gC:Good G n sc' N' false Y){α:Type}{tt:Sem α}{Q:α->Shared->Prop}{s:Shared}(hw:wpAny (model Y.prog Y.w) Y.A tt Q Y.xe s):wpAny (model Y.prog Y.w) Y.A tt Q fJ s:=by rw[gC.xe]at hw;exact hw
def uM{i:Nat}{kQ:L2.St}{H9:Hp}{r9:List Addr}{h9:Hh}{dn:List D}{vs:List V}{rest':List D}{s9:Shared}{p:List (Addr×Obj)}{f:D->Hh->R (Option D)}(hlt:i<src.1.length)(I9:Inv Y ([]++p) kQ H9 s9)(bk:tn (i+1) s9.heap/\∀b∈fp,H9 b=none)(q:SR Y.K m' H9 r9 fr kQ)(qF:HR Y.K H9 r9 h9)(fm:Fm Y.K r2 r9 H2 H9)(wk:H9 Dd=some (.lst vs))(wm:Dd∉r9)(rv:aB Y.K H9 r9 dn vs)(e7:Ev.cz f src.2 (src.1.drop (i+1)) h9=.ok rest' h2)(ed:dn++rest'=ds) :
  ∃k,k<src.1.length - i/\CI Y m' f fr src fp tn r2 H2 Dd ds h2 k s9:=
 ⟨src.1.length - (i+1),VA hlt (T7 i),i+1,kQ,H9,r9,h9,dn,vs,rest',I9.ki,bk.1,bk.2,rfl,hlt,q,qF,fm,wk,wm,rv,e7,ed⟩
def G8{i:Nat}{kQ:L2.St}{H9:Hp}{r9:List Addr}{h9:Hh}{dn:List D}{vs:List V}{xd:D}{v10:V}{Ci:Value}{rest':List D}{s9:Shared}{p:List (Addr×Obj)}{f:D->Hh->R (Option D)}(hlt:i<src.1.length)(kR:H2 Dd=none)(hsz:ds.length<=sizeLine)(gC:Good G n sc' N' false Y)(I9:Inv Y ([]++p) kQ H9 s9)(AW:RelV v10 Ci)(bk:∀{σ':L2.St}{H':Hp}{s':Shared},Inv Y ([]++p) σ' H' s'->tn (i+1) s'.heap/\∀b∈fp,H' b=none)(q:SR Y.K m' H9 r9 fr kQ)(qF:HR Y.K H9 r9 h9)(fm:Fm Y.K r2 r9 H2 H9)(mZ:H9 Dd=some (.lst vs))(rX:Dd∉r9)(rv:aB Y.K H9 r9 dn vs)(AX:RV Y.K H9 r9 xd v10)(e7:Ev.cz f src.2 (src.1.drop (i+1)) h9=.ok rest' h2)(ed:dn++xd :: rest'=ds) :
  wpAny (model Y.prog Y.w) Y.A (call (.builtin "list.append") [.ref Dd,Ci]) (λ_ iL=>∃k,k<src.1.length - i/\CI Y m' f fr src fp tn r2 H2 Dd ds h2 k iL) fJ s9:=by
 have a:vs.length<sizeLine:=by
  have o:=rv.length;have h2:=R8 List.length ed;simp at h2;omega
 refine bB (wj gC (qq _ s9 kQ H9 (.ref Dd) [v10] (.ref Dd) [Ci] (λ_ MO=>MO=upd H9 Dd (.lst (vs++[v10]))) I9 rfl (.cons AW .nil) ⟨Dd,vs,v10,rfl,rfl,mZ,a,rfl⟩)) λ_ iL ⟨_,MO,MP,_,N9⟩=>?_;subst N9;refine uM (dn:=dn++[xd]) (vs:=vs++[v10]) hlt MP (bk MP) ?_ (qF.other mZ rX) (fm.other kR mZ) dI rX ?_ e7 ?_
 .exact⟨q.len,λj c d e g=>by
   obtain⟨w,h,l⟩:=q.sl j c d e g;exact⟨w,h,l.grow (λ_ _ z=>z) (gn mZ)⟩⟩
 .exact(rv.append (.cons AX .nil)).grow (λ_ _ z=>z) (gn mZ)
 .rw[<-ed];simp
def yr(gC:Good G n sc' N' false Y)(hg:JG G n sc' N' false m' t tg)(hc:JC G n sc' N' false m' cond ifs)(he:JE G n sc' N' false m' elt xe)(Tn:Turn Y.prog Y.w Y.K tg J fp ita tn)(kj:∀{Hc:Hp},(∀b∈fp,Hc b=none)->∀b∈fp,eV Y [] Hc b)
  (hu:Ev.undef t fr=true) (hJ:kr Y.K r2 H2 src J) (kR:H2 Dd=none) (hsz:ds.length<=sizeLine) {R':Result->Shared->Prop}
  (Oa:∀s6 mY Hc rc vs,Inv Y [] mY Hc s6->HR Y.K Hc rc h2->Fm Y.K r2 rc H2 Hc->Hc Dd=some (.lst vs)->Dd∉rc->aB Y.K Hc rc ds vs->R' (.ok .next) s6) {k:Nat} {s:Shared}
  (h:CI Y m' (wg (Ev.run G.F G.w n) elt t cond fr) fr src fp tn r2 H2 Dd ds h2 k s):codeAny (model Y.prog Y.w) Y.A (.compLoop (.ListComp xe [⟨tg,xi,ifs,0⟩] scope pos) 0 (.ref ita) (.ref Dd) Y.env) R' s:=by
 refine rW (CI Y m' (wg (Ev.run G.F G.w n) elt t cond fr) fr src fp tn r2 H2 Dd ds h2) ?_ k h;rintro k s5 ⟨i,mY,Hc,rc,hc',dn,vs,rest,I5,uB,qk,rfl,hle,yo,qC,rY,mZ,rX,yu,a,Cj⟩;rcases Nat.lt_or_ge i src.1.length with d|P
 .rw[Tp d]at a;simp only[Ev.cz]at a;split at a
  .rename_i g;obtain⟨Q,_⟩:=hJ i Hc rc hc' qC rY g;obtain⟨g1,g2⟩:=Q src.1[i] (RZ d);obtain⟨o,h6,c,a⟩:=Ev.ah a;obtain⟨W,h7,e7,a⟩:=Ev.ah a;cases a;refine bB (Tn.item Y rfl rfl rfl gC.calm i [] s5 mY Hc fJ I5 (kj qk) uB g1) λrr s6 ⟨u,Pq,h8⟩=>?_;subst Pq;refine bB h8 λ_ s7 ⟨x,H7,I7,rx,y7,G9,Pu⟩=>?_;obtain⟨z,v7,MQ,l⟩:=g2 x H7 y7;obtain⟨Ob,Oc⟩:=l.ko mZ rX;unfold wg at c;split at c
   .cases c
   .rename_i B Z;obtain⟨kk,h9,e9,c⟩:=Ev.ah c;have Pw:=I7.pinned (kj Pu) (Tn.obj _ _ G9);refine bB (wj gC (hg _ gC _ s7 mY H7 x u (λC H8=>H8=H7/\SR Y.K m' H7 z B C) Pw rx ⟨z,fr,hc',_,B,yo.mono l,MQ,v7,Z,λH q=>⟨rfl,q⟩⟩)) λ_ s8 ⟨C,H8,I8,Px,Ck⟩=>?_;subst Px;refine bB (wj gC (hc _ gC _ s8 C _ (λb H9=>b=kk/\∃j,HR Y.K H9 j h9/\Fm Y.K z j _ H9) I8 ⟨z,B,hc',kk,h9,Ck,MQ,e9,λH9 j I f9=>⟨rfl,j,I,f9⟩⟩)) λbb s9 ⟨H9,I9,Gu,j,I,f⟩=>?_;subst Gu;obtain⟨wm,wk⟩:=f.ko Oc Ob;have back:∀{σ':L2.St} {H':Hp} {H:Shared},Inv Y ([]++kW fp s7.heap) σ' H' H->tn (i+1) H.heap/\∀b∈fp,H' b=none:=λ{σ' H' H} I'=>
     ⟨Tn.keep _ _ _ G9 λb L o e=>(I'.pin (b,o) (So _ (So _ (iM L e)))).1,λb L=>
      let ⟨o,e,_⟩:=Tn.obj _ _ G9 b L
      (I'.pin (b,o) (So _ (So _ (iM L e)))).2.1⟩
    cases bb with
    |false=>
     simp only[Si,SK]at c ⊢;cases c;exact uM d I9 (back I9) ((Ck.mono f).unbind Z hu) I ((rY.trans l).trans f) wk wm ((yu.mono l).mono f) e7 Cj
    |true=>
     simp only[Sf]at c ⊢;obtain⟨xd,QS,Py,c⟩:=Ev.ah c;cases c;refine bB (wj gC (he _ gC _ s9 C H9 (λv r=>∃p,RV Y.K r p xd v/\HR Y.K r p _/\Fm Y.K j p H9 r) I9 ⟨j,B,h9,xd,_,Ck.mono f,I,Py,λv r p y AY yw=>⟨p,y,AY,yw⟩⟩)) λCi ju ⟨y,r,Pz,AW,p,AX,AY,M⟩=>?_;obtain⟨Lr,Ls⟩:=M.ko wk wm;exact G8 d kR hsz gC Pz AW back (((Ck.mono f).mono M).unbind Z hu) AY (((rY.trans l).trans f).trans M) Ls Lr (((yu.mono l).mono f).mono M) AX e7 Cj
  .cases a
 .have hi':i=src.1.length:=VV hle P;subst hi';rw[SV]at a;simp only[Ev.cz]at a;split at a
  .rename_i g;cases a;refine bB (Tn.done Y rfl rfl rfl gC.calm _ [] s5 mY Hc fJ I5 (kj qk) uB ((hJ _ Hc rc _ qC rY g).2 (oM _))) λrr s6 ⟨hrr,I6⟩=>?_;subst hrr;rw[Sx]at Cj;subst Cj;exact Oa s6 mY Hc rc vs I6 qC rY mZ rX yu
  .cases a
end
def qH(g:Good G n sc N df X)(hi:JI G n sc N df m it tg xi)(hg:JG G n (er sc scope) N' false m' t tg)(hc:JC G n (er sc scope) N' false m' cond ifs)(he:JE G n (er sc scope) N' false m' elt xe)
  (hn:namesOk sc N m scope t N' m') (hs:jG sc scope) {cl:List (Str×Addr)} (gq:∀x c,cl.lookup x=some c->X.env.cells.lookup x=some c) (jH:∀x,(x,NameKind.free)∈scope.names->∃c,cl.lookup x=some c)
  {pins:List (Addr×Obj)} {σ:L2.St} {H:Hp} {s:Shared} (I:Inv X pins σ H s) {r:List Addr} {fr:Fr} {h:Hh} {d:D} {h':Hh} (sr:SR X.K m H r fr σ) (hr:HR X.K H r h)
  (e:Ev.ev (Ev.run G.F G.w n) (.comp elt t it cond) fr h=.ok d h') (post:Value->Addr->Result->Shared->Prop)
  (hpost:∀Dd C s' H' r',Inv X pins σ H' s'->(∃mm,s'.heap.Ns C mm)->eV X pins H' C->RV X.K H' r' d (.ref Dd)->HR X.K H' r' h'->Fm X.K r r' H H'->post (.ref Dd) C (.ok .next) s') {E:Value->Shared->Prop} (hE:X.xe=λ_ _=>False) :
  wpAny (model X.prog X.w) X.A (eval xi X.env) (λx s₁=>wpAny (model X.prog X.w) X.A (pyIter x) (λitv s₂=>wpAny (model X.prog X.w) X.A (newList []) (λacc s₃=>
   wpAny (model X.prog X.w) X.A (newFunctionEnv scope X.env.globals cl [] X.env.qual none .none (some X.env)) (λcenv s₄=>
    codeAny (model X.prog X.w) X.A (.compStart (.ListComp xe [⟨tg,xi,ifs,0⟩] scope pos) 0 itv acc { cenv with scope:=relabel scope X.env }) (post acc cenv.locals) s₄) E s₃) E s₂) E s₁) E s:=by
 rw[pe]at e;obtain⟨src,W,e1,e⟩:=Ev.ah e;split at e
 .rename_i hu;obtain⟨ds,h2,e2,e⟩:=Ev.ah e;have qi:∀{α:Type} {tt:Sem α} {Q:α->Shared->Prop} {s:Shared},wpAny (model X.prog X.w) X.A tt Q X.xe s->wpAny (model X.prog X.w) X.A tt Q E s:=λ{α tt Q s} hw=>SJ hw (λ_ _ q=>q) λ_ _ q=>by rw[hE]at q;exact q.elim
  refine bB (qi (hi X g pins s σ H (λJ H2=>∃i,HR X.K H2 i W/\Fm X.K r i H H2/\kr X.K i H2 src J) I ⟨r,fr,h,src,W,sr,hr,e1,λJ H2 i l f2 hJ=>⟨i,l,f2,hJ⟩⟩)) λv s1 q1=>?_;refine bB (qi q1) λitv s2 q2=>?_;obtain⟨ita,B,tn,J,H2,rfl,I2,Tn,M,f2,i,l,Cm,hJ⟩:=q2;refine SM ?_;generalize Cn:s2.heap.objs.size=Dd
  have L:H2 Dd=none:=by rw[<-Cn];exact I2.fresh
  have I3:Inv X pins σ (upd H2 Dd (.lst [])) { s2 with heap:=s2.heap.push { cls:=.type "list",data:=.seq ([]:List Value).toArray }}:=by
   have:=I2.AH (ys:=[]) (its:=[]) (t':=s2.toks) .nil (SQ _);rw[Cn]at this;exact this
  have wu:∀b∈B,b<s2.heap.objs.size:=λb f=>by
   obtain⟨o,e,_⟩:=Tn.obj 0 _ M b f;exact R5 e
  generalize Hf:({ s2 with heap:=s2.heap.push { cls:=.type "list",data:=.seq ([]:List Value).toArray }}:Shared)=s3 at I3
  have Od:s3.heap.objs.size=s2.heap.objs.size+1:=by rw[<-Hf];exact Vk ..
  have k3:∀b o,s2.heap.get? b=some o->s3.heap.get? b=some o:=λb o e=>by rw[<-Hf];exact RT _ e
  have Hg:∀b∈B,b<s3.heap.objs.size:=λb f=>zP (wu b f) (by rw[Od];exact VL _);have Y:∀b∈B,eV X pins (upd H2 Dd (.lst [])) b:=λb f=>⟨by rw[aN (λz=>absurd (wu b f) (by rw[z,Cn];exact Sw _))];exact(f2 b f).1,(f2 b f).2⟩
  refine wpAny_newFunctionEnv (hs.yq) (λy hy=>by simp at hy) (λHi Oe Of=>?_) hs.kind;have k4:∀b o,s3.heap.get? b=some o->Hi.get? b=some o:=λb o e=>Of.extBut b o (Sh (R5 e)) (RT _ e);have gC:Good G n (er sc scope) N' false (nS X N' scope cl s3.heap.objs.size s3 (upd H2 Dd (.lst [])) B):=g.comp;have I4:Inv (nS X N' scope cl s3.heap.objs.size s3 (upd H2 Dd (.lst [])) B) [] (sig scope N N' m' X.K (upd H2 Dd (.lst [])) i fr σ) (upd H2 Dd (.lst [])) { s3 with heap:=Hi,toks:=s3.toks+0 }:=
   AV g I3 hs gq jH Y Hg Oe k4
  have uK:SR X.K m' (upd H2 Dd (.lst [])) i fr (sig scope N N' m' X.K (upd H2 Dd (.lst [])) i fr σ):=G7 (((sr.mono Cm).mono (Fm.tup L))) hn hu;have nR:HR X.K (upd H2 Dd (.lst [])) i W:=l.tup L;have MR:Dd∉i:=λhm=>by
   obtain⟨k,hk⟩:=Vt hm;have hlt:k<W.length:=by rw[<-l.len];exact(List.getElem?_eq_some_iff.mp hk).1
   obtain⟨a,e3,Z⟩:=l.ob k _ (RZ hlt);rw[hk]at e3;cases e3;cases P:W[k]with
   |lst dd=>rw[P]at Z;obtain⟨us,j,_⟩:=Z;rw[L]at j;cases j
   |bz dd=>
    rw[P]at Z;obtain⟨us,j,_⟩:=Z;rcases j with ⟨ob,j⟩|⟨ob,_,_,j,_⟩
    .rw[L]at j;cases j
    .have:=R5 (I2.fT _ _ j);rw[Cn]at this;exact absurd this (Sw _)
   |bM kvs=>rw[P]at Z;have j:=Z.1;rw[L]at j;cases j
  have PB:H Dd=none:=by
   cases z:H Dd with
   |none=>rfl
   |some o=>
    have hnr:Dd∉r:=λhm=>by
     obtain⟨k,hk⟩:=Vt hm;exact MR (RX (Cm.pre _ _ hk))
    have:=Cm.keep _ _ z hnr;rw[L]at this;cases this
  have kj:∀{Hc:Hp},(∀b∈B,Hc b=none)->∀b∈B,eV (nS X N' scope cl s3.heap.objs.size s3 (upd H2 Dd (.lst [])) B) [] Hc b:=λ{Hc} hz b f=>by
   refine⟨hz b f,Sh (Hg b f),(I4.ok).oU b f,.inl f,λx c e=>((I4.ok).BZ b f).2 x c e,λp hp=>?_⟩;simp[nS]at hp
  have hsz:ds.length<=sizeLine:=by
   unfold Ev.alloc at e;split at e
   .rename_i z;rw[<-fK];exact z
   .cases e
  have fin:codeAny (model X.prog X.w) X.A (.compLoop (.ListComp xe [⟨tg,xi,ifs,0⟩] scope pos) 0 (.ref ita) (.ref Dd) (compEnvC scope cl s3.heap.objs.size X.env)) (post (.ref Dd) s3.heap.objs.size) { s3 with heap:=Hi,toks:=s3.toks+0 }:=by
   refine yr gC hg hc he Tn kj hu hJ L hsz (λs6 mY Hc rc vs I6 qC rY mZ rX yu=>?_) ⟨0,_,_,i,W,[],[],ds,I4,Tn.keep _ _ _ M λb f o P=>k4 b o (k3 b o P),λb f=>(Y b f).1,rfl,SQ _,uK,nR,Fm.tup L,dI,MR,.nil,by rw[Tv];exact e2,rfl⟩;unfold Ev.alloc at e;split at e
   .cases e;obtain⟨PC,Og,_⟩:=I6.loc;refine hpost Dd _ s6 Hc (rc++[Dd]) ?_ ⟨PC,Og⟩ ?_ ⟨Dd,rfl,?_⟩ (qC.known mZ rX yu) ((Cm.trans rY).known ?_)
    .exact I3.KQ (ch:=B) (I6.os) I6.base I6.hok I6.bare λb f=>⟨(Y b f).2.2.2.1,(Y b f).2.1,(Y b f).2.2.2.2.1,(Y b f).2.2.2.2.2⟩
    .exact I3.oV (oM _) I6.free
    .rw[<-qC.len];simp
    .exact PB
   .cases e
  subst Hf;exact codeAny_compStart_list fin (Tn.self _ 0 _ _ _ (Tn.keep _ _ _ M λb f o P=>k4 b o (k3 b o P)) fin)
 .cases e
end
section
variable{G:Tb}{n:Nat}{sc scope:Scope}{N N':List Str}{df:Bool}{m m':List Nat}{elt:E}{t:T}{it:Ev.It}{cond:Eo}{xe xi tg:Expr}{ifs:List Expr}{pos:Pos}
theorem Good.cells{X:Cx}{pins:List (Addr×Obj)}{σ:L2.St}{H:Hp}{s:Shared}(g:Good G n sc N df X)(I:Inv X pins σ H s)(hs:jG sc scope) :
  ∃cl,closureFor scope X.env=pure cl/\(∀x c,cl.lookup x=some c->X.env.cells.lookup x=some c)/\∀x,(x,NameKind.free)∈scope.names->∃c,cl.lookup x=some c:=
 DR λx a=>I.ok.has x (by unfold Env.kindOf;rw[g.sc];exact(hs.free x a).1)
def yx{X:Cx}{pins:List (Addr×Obj)}{σ:L2.St}{H:Hp}{s:Shared}(I:Inv X pins σ H s){C:Addr}(fp:eV X pins H C){h':Heap}(hs:Heap.SameBut C s.heap h'):Inv X pins σ H { s with heap:=h' }:=
 I.turned (t':=s.toks) (λb o a e=>hs.extBut b o a e) fp.1 fp.2.1 fp.2.2.2.1 fp.2.2.2.2.1 fp.2.2.2.2.2
def uP(hi:JI G n sc N df m it tg xi)(hg:JG G n (er sc scope) N' false m' t tg)(hc:JC G n (er sc scope) N' false m' cond ifs)(he:JE G n (er sc scope) N' false m' elt xe)
  (hn:namesOk sc N m scope t N' m') (hs:jG sc scope) (hf:∀(env:Env) x,foldedSetIterable xi env x=pure x:=by intro _ _;rfl):JE G n sc N df m (.comp elt t it cond) (.ListComp xe [⟨tg,xi,ifs,0⟩] scope pos):=λX g pins s σ H Q I q=>by
 obtain⟨r,J,h,d,K,i,j,e,q⟩:=q;obtain⟨L,a,l,o⟩:=g.cells I hs;rw[eval_ListComp];refine U4 (use:=none) (Q:=EP X pins σ Q) rfl (hf _) a hs.kind hs.loc ?_;refine qH g hi hg hc he hn hs l o I i j e (λb C=>compPost (model X.prog X.w) X.A X.xe none (EP X pins σ Q) b C) (λDd C M H' p I' c y rv f Co=>?_) g.xe;obtain⟨z,c⟩:=c;exact⟨z,c,λB F=>⟨.ref Dd,H',yx I' y F,rfl,q _ H' p rv f Co⟩⟩
def DT(j i:Nat){x:Str}{pos' cpos:Pos}(hm:m.Nodup)(hN:N.Nodup)(hi:JI G n sc N df m it tg xi)(hg:JG G n (er sc scope) N' false m' t tg)(hc:JC G n (er sc scope) N' false m' cond ifs)(he:JE G n (er sc scope) N' false m' elt xe)
  (hn:namesOk sc N m scope t N' m') (hs:jG sc scope) (hj:m[j]?=some i:=by rfl) (qz:N[j]?=some x:=by rfl)
  (hl:sc.names.lookup x=some .local\/(df=true/\sc.names.lookup x=some .cell):=by first|exact Or.inl rfl|exact Or.inr ⟨rfl,rfl⟩) (hf:∀(env:Env) x,foldedSetIterable xi env x=pure x:=by intro _ _;rfl) :
  JS G n sc N df m (.set i (.comp elt t it cond)) (.Assign [.Name x pos'] (.ListComp xe [⟨tg,xi,ifs,0⟩] scope cpos) pos):=λX g=>by
 obtain⟨y,Y⟩:=g.loc hl;have f:swapsWith (.ListComp xe [⟨tg,xi,ifs,0⟩] scope cpos) (some (.Name x pos')) pos.line X.env=pure (X.env.blockKind==.function&&X.env.kindOf x==some .local&&pos'.line==(Expr.ListComp xe [⟨tg,xi,ifs,0⟩] scope cpos).pos.line&&!(scope.names.any λ(n,k)=>n==x&&(k==.local ||k==.cell))):=rfl;generalize hb:(X.env.blockKind==.function&&X.env.kindOf x==some .local&&pos'.line==(Expr.ListComp xe [⟨tg,xi,ifs,0⟩] scope cpos).pos.line&&!(scope.names.any λ(n,k)=>n==x&&(k==.local ||k==.cell)))=b at f
 cases b with
 |false=>
  refine PS.of (xP (i:=j) (by rw[g.nm];exact hN) (by rw[g.nm];exact qz) y (uP hi hg hc he hn hs hf X g) f Y) λQ s H q=>?_;obtain⟨r,Z,h,fl,aj,h',o,B,e,q⟩:=q;simp only[Ev.iy]at e;obtain⟨d,y,F,e⟩:=Ev.ah e;cases e;exact⟨r,Z,h,d,_,o,B,F,λv H1 r1 v1 J f1=>q _ H1 r1 ((o.mono f1).set hm hj v1) J f1⟩
 |true=>
  have QT:X.env.kindOf x=some .local:=by
   simp only[iY,VT]at hb;exact hb.1.1.2
  intro c s σ H Q I q;obtain⟨r,Z,h,fl,aj,h',o,B,e,q⟩:=q;simp only[Ev.iy]at e;obtain⟨d,h3,F,e⟩:=Ev.ah e;cases e;obtain⟨cl,K,gq,jH⟩:=g.cells I hs;rw[exec_Assign_Name_used _ _ _ _ f];refine fB (wpAny_standAt (fB ?_));show wpAny _ X.A (do let _ <-comprehension (.ListComp xe [⟨tg,xi,ifs,0⟩] scope cpos) scope X.env _ (newList []) false (eval xi X.env) (some (assign (.Name x pos') X.env))) _ _ s;refine fB (SJ (U4 (use:=some (assign (.Name x pos') X.env)) (Q:=λ_ l=>SP X c Q .next l) rfl (hf _) K hs.kind hs.loc ?_) (λ_ l hq=>RW (RW hq)) λ_ _ e=>e);refine qH g hi hg hc he hn hs gq jH I o B F (λL C=>compPost (model X.prog X.w) X.A X.xe (some (assign (.Name x pos') X.env)) (λ_ l=>SP X c Q .next l) L C) (λDd C l H' r' I' M p rv P Co=>?_) g.xe;obtain⟨mm,M⟩:=M;show wpAny _ X.A (assign (.Name x pos') X.env (.ref Dd)) _ _ l;refine wpAny_assign_Name (qh (v:=.ref Dd) I' (by rw[g.nm];exact hN) (i:=j) (by rw[g.nm];exact qz) y rfl (λs'' PD W=>?_) Y);obtain⟨a,W,ha⟩:=W;have PF:C≠a:=by
   rcases ha with z|z
   .rw[z];exact p.2.1
   .exact λw=>p.2.2.2.2.1 x a z w.symm
  refine⟨mm,M.sameBut W PF,λh'' Oh=>?_⟩;exact⟨_,H',yx PD ⟨p.1,p.2⟩ Oh,q _ H' r' ((o.mono Co).set hm hj rv) P Co⟩
end
end Sm
namespace Sm
open PySem PySem.Spec PyProof.Rows L2 PySem.SeqAt
open Ev (D O Hh Fr R aH E Es Eo T S Ss Fl Src bF bu TY BI ME)
structure rZ(A:Around)(s:Shared)(u w:Value)(k:Bool):Prop where
 eq:EqAt A s u w k
 rc:RcAt A s u w k
 ne:RcNeAt A s u w (!k)
theorem pA{f:D->D->Option Bool}:∀{x y:List D},x.length≠y.length->∀{k},Ev.bV f x y=some k->k=false
 |[],[],h,_,_=>absurd rfl h
 |[],_ :: _,_,_,e=>by cases e;rfl
 |_ :: _,[],_,_,e=>by cases e;rfl
 |a :: x,b :: y,h,k,e=>by
  simp only[Ev.bV,Ua,R4]at e;obtain⟨p,_,q,c,d⟩:=e;have:=pA (x:=x) (y:=y) (by simpa using h) c;subst this;cases d;simp
theorem uQ{f:D->D->Option Bool}:∀{x y:List D}{k},Ev.bV f x y=some k->x.length=y.length->∃e:Nat->Bool,(∀(j:Nat) a b,x[j]?=some a->y[j]?=some b->f a b=some (e j))/\(List.range x.length).all e=k
 |[],[],_,h,_=>⟨λ_=>true,(λj a b c=>by simp at c),by cases h;simp⟩
 |[],_ :: _,_,_,h=>by simp at h
 |_ :: _,[],_,_,h=>by simp at h
 |a :: x,b :: y,k,h,hl=>by
  simp only[Ev.bV,Ua,R4]at h;obtain⟨p,i,q,l,o⟩:=h;cases o;obtain⟨e,c,r⟩:=uQ l (by simpa using hl);refine⟨λj=>match j with|0=>p|j+1=>e j,λj z A d g=>?_,?_⟩
  .cases j with
   |zero=>simp at d g;subst d g;exact i
   |succ j=>exact c j z A (by simpa using d) (by simpa using g)
  .rw[R3,Vg,List.all_cons,List.all_map,<-r];rfl
theorem uR{f:D->D->Option Bool}:∀{x y:List D}{k},Ev.bV f x y=some k->∃e:Nat->Bool,∀(j:Nat) a b,x[j]?=some a->y[j]?=some b->f a b=some (e j)
 |[],_,_,_=>⟨λ_=>true,λj a b c=>by simp at c⟩
 |_ :: _,[],_,_=>⟨λ_=>true,λj a b _ c=>by simp at c⟩
 |a :: x,b :: y,k,h=>by
  simp only[Ev.bV,Ua,R4]at h;obtain⟨p,i,q,l,z⟩:=h;obtain⟨e,c⟩:=uR l;refine⟨λj=>match j with|0=>p|j+1=>e j,λj o r d g=>?_⟩;cases j with
  |zero=>simp at d g;subst d g;exact i
  |succ j=>exact c j o r (by simpa using d) (by simpa using g)
section
variable{X:Cx}{pins:List (Addr×Obj)}{σ:L2.St}{H:Hp}{s:Shared}{r:List Addr}{h:Hh}
def mF(I:Inv X pins σ H s){a b:Addr}{vs ws:List V}(h1:v8 X.K H a vs)(h2:H b=some (.lst ws)):a≠b:=by
 rintro rfl;rcases h1 with ⟨o,h1⟩|⟨o,_,_,h1,_⟩
 .rw[h2]at h1;cases h1
 .have:=(I.bs a o (I.ok.mod.BY a o h1)).2;rw[h2]at this;cases this
def qI{x y:List D}{vs ws:List V}{us zs:List Value}{f:D->D->Option Bool}{A:Around}{k:Bool}(v1:aB X.K H r x vs)(v2:aB X.K H r y ws)(p1:Vals vs us)(p2:Vals ws zs)
  (ih:∀a b va vb u w k,RV X.K H r a va->RV X.K H r b vb->RelV va u->RelV vb w->f a b=some k->rZ A s u w k) (hl:x.length=y.length) (e:Ev.bV f x y=some k) :
  ∃e':Nat->Bool,(∀j (h1:j<us.toArray.size) (h2:j<zs.toArray.size),EqAt A s us.toArray[j] zs.toArray[j] (e' j))/\(List.range us.toArray.size).all e'=k/\us.length=zs.length:=by
 obtain⟨e',h1,h2⟩:=uQ e hl;have J:=v1.length;have L:=v2.length;have M:=p1.length;have N:=p2.length;refine⟨e',λj g i=>?_,?_,by omega⟩
 .have PJ:j<us.length:=by simpa using g
  have PK:j<zs.length:=by simpa using i
  have c:x[j]?=some x[j]:=RZ (by omega);have d:y[j]?=some y[j]:=RZ (by omega);obtain⟨va,l,o⟩:=v1.get c;obtain⟨vb,p,q⟩:=v2.get d;obtain⟨u,z,B⟩:=p1.get l;obtain⟨w,C,F⟩:=p2.get p;have G:us.toArray[j]=u:=by
   have:=(List.getElem?_eq_some_iff.mp z).2;simpa using this
  have I:zs.toArray[j]=w:=by
   have:=(List.getElem?_eq_some_iff.mp C).2;simpa using this
  rw[G,I];exact(ih _ _ _ _ _ _ _ o q B F (h1 j _ _ c d)).eq
 .rw[<-h2];have:us.toArray.size=x.length:=by simp;omega
  rw[this]
def bP(K:PySem.W.Frag)(H:Hp)(r:List Addr):D->V->Prop
 |.aY,v=>v=.aY
 |.bl b,v=>v=.bl b
 |.int i,v=>v=.int i
 |.str l,v=>v=.str (aC l)
 |.ref n,v=>∃a,v=.ref a/\r[n]?=some a
 |.tup ds,v=>∃a vs,v=.ref a/\cU K H a vs/\aB K H r ds vs
def RV.shape{d:D}{v:V}(h:RV X.K H r d v):bP X.K H r d v:=by
 cases d<;>simp only[RV]at h<;>simp only[bP]<;>first|exact h|exact h.1
def DU{a b:List Nat}:(aC a==aC b)=(a==b):=by
 by_cases e:a=b
 .subst e;simp
 .have c:(aC a==aC b)=false:=beq_eq_false_iff_ne.mpr λz=>e (mE z);have d:(a==b)=false:=beq_eq_false_iff_ne.mpr e;rw[c,d]
def nB{n:Nat}{A:Around}{x y:List D}{a b:Addr}{vs ws:List V}{k:Bool}(I:Inv X pins σ H s)(hu:A.units<cLine)(q1:dm X.K H a vs)(q2:dm X.K H b ws)(v1:aB X.K H r x vs)(v2:aB X.K H r y ws)(hab:a≠b)
  (ih:∀a b va vb u w k,RV X.K H r a va->RV X.K H r b vb->RelV va u->RelV vb w->Ev.fV h n a b=some k->rZ A.in1 s u w k) (e:Ev.bV (Ev.fV h n) x y=some k):rZ A s (.ref a) (.ref b) k:=by
 obtain⟨i,j,d,_⟩:=I.list q1;obtain⟨l,o,f,_⟩:=I.list q2;by_cases p:x.length=y.length
 .obtain⟨G,q,B,C⟩:=qI v1 v2 j o ih p e;have c:i.toArray.size=l.toArray.size:=by simpa using C
  have g:=RcAt.lists d.isList f.isList c hu q;have z:=RcNeAt.lists d.isList f.isList c hu q;rw[B]at g z;exact⟨.of_refs hab g,g,z⟩
 .have F:=pA p e;subst F;have c:(i.toArray.size != l.toArray.size)=true:=by
   have J:=v1.length;have L:=v2.length;have M:=j.length;have N:=o.length;simp only[RY,VS,ne_eq];omega
  exact⟨.of_refs hab (.lists_lengths d.isList f.isList c hu),.lists_lengths d.isList f.isList c hu,.lists_lengths d.isList f.isList c hu⟩
def r8(I:Inv X pins σ H s)(hr:HR X.K H r h){n:Nat}{a:Addr}{ds:List D}(e:Ev.aL h n=some ds)(ha:r[n]?=some a):∃us:List Value,PlainL s.heap a us.toArray:=by
 obtain⟨f,g,b,c,i⟩:=hr.read e;rw[ha]at b;cases b;obtain⟨us,_,d,_⟩:=I.list c;exact⟨us,d⟩
def yz(I:Inv X pins σ H s)(hr:HR X.K H r h):∀(n:Nat) (a b:D) (v:V) (k:Bool),RV X.K H r a v->RV X.K H r b v->Ev.fV h n a b=some k->k=true:=by
 intro n;induction n with
 |zero=>intro a b v k _ _ e;cases e
 |succ n ih=>
  have l:∀(x y:List D) (g:List V) (k:Bool),aB X.K H r x g->aB X.K H r y g->Ev.bV (Ev.fV h n) x y=some k->k=true:=by
   intro x;induction x with
   |nil=>
    intro y g k f c e;simp only[aB]at f;subst f;cases y with
    |nil=>cases e;rfl
    |cons _ _=>simp only[aB]at c;obtain⟨_,_,c,_⟩:=c;cases c
   |cons d x PL=>
    intro y g k f c e;simp only[aB]at f;obtain⟨v,w,rfl,L,h4⟩:=f;cases y with
    |nil=>simp only[aB]at c;cases c
    |cons d' y=>
     simp only[aB]at c;obtain⟨v',w',M,h5,h6⟩:=c;cases M;simp only[Ev.bV,Ua,R4]at e;obtain⟨p,A,q,M,e3⟩:=e;cases e3;rw[ih d d' v p L h5 A,PL y w q h4 h6 M];rfl
  have lt:∀(a:Addr) (g:List V) (i:Nat) (J:List D),cU X.K H a g->r[i]?=some a->Ev.aL h i=some J->False:=λa g i J f c L=>by
   obtain⟨us,pl⟩:=r8 I hr L c;obtain⟨zs,_,pt,_⟩:=I.tuple f;exact ne_of_list_tuple pl.isList pt rfl
  intro a b v k f c e;have s1:=f.shape;have s2:=c.shape;clear f c;cases a with
  |aY=>simp only[bP]at s1;cases b with
   |aY=>cases e;rfl
   |ref m=>obtain⟨p,z,_⟩:=s2;rw[s1]at z;cases z
   |tup y=>obtain⟨p,_,z,_⟩:=s2;rw[s1]at z;cases z
   |_=>simp only[bP]at s2;rw[s1]at s2;cases s2
  |bl x=>simp only[bP]at s1;cases b with
   |bl y=>simp only[bP]at s2;rw[s1]at s2;cases s2;cases e;simp
   |ref m=>obtain⟨p,z,_⟩:=s2;rw[s1]at z;cases z
   |tup y=>obtain⟨p,_,z,_⟩:=s2;rw[s1]at z;cases z
   |_=>simp only[bP]at s2;rw[s1]at s2;cases s2
  |int x=>simp only[bP]at s1;cases b with
   |int y=>simp only[bP]at s2;rw[s1]at s2;cases s2;cases e;simp
   |ref m=>obtain⟨p,z,_⟩:=s2;rw[s1]at z;cases z
   |tup y=>obtain⟨p,_,z,_⟩:=s2;rw[s1]at z;cases z
   |_=>simp only[bP]at s2;rw[s1]at s2;cases s2
  |str x=>simp only[bP]at s1;cases b with
   |str y=>
    simp only[bP]at s2;rw[s1]at s2;have:x=y:=mE (by injection s2);subst this;cases e;simp
   |ref m=>obtain⟨p,z,_⟩:=s2;rw[s1]at z;cases z
   |tup y=>obtain⟨p,_,z,_⟩:=s2;rw[s1]at z;cases z
   |_=>simp only[bP]at s2;rw[s1]at s2;cases s2
  |tup x=>
   obtain⟨p,g,rfl,z,w⟩:=s1;cases b with
   |tup y=>
    obtain⟨N,P,o,j,Q⟩:=s2;cases o;rw[I.kU j z]at Q;exact l x y g k w Q e
   |ref m=>
    obtain⟨N,o,j⟩:=s2;cases o;obtain⟨J,A,_⟩:=Option.map_eq_some_iff.mp e;exact(lt _ _ _ _ z j A).elim
   |_=>cases s2
  |ref i=>
   obtain⟨p,rfl,z⟩:=s1;cases b with
   |ref m=>
    obtain⟨N,o,j⟩:=s2;cases o;replace e:Ev.je h (Ev.fV h n) i m=some k:=e;unfold Ev.je at e;split at e
    .simp only[JM]at e;obtain⟨_,_,e⟩:=e;exact e.symm
    .rename_i W;split at e
     .rename_i x y B C;exact absurd (hr.inj _ _ _ _ _ z j B C) W
     .rename_i x y B C;obtain⟨p1,F,Cp,Y,_⟩:=hr.ob _ _ B;obtain⟨p2,G,Cq,Z,_⟩:=hr.ob _ _ C;rw[z]at F;cases F;rw[j]at G;cases G;exact absurd rfl (mF I Y Z)
     .rename_i x y B C;obtain⟨p1,F,Cp,Y,_⟩:=hr.ob _ _ B;obtain⟨p2,G,Cq,Z,_⟩:=hr.ob _ _ C;rw[z]at F;cases F;rw[j]at G;cases G;exact absurd rfl (mF I Z Y)
     .cases e
   |tup y=>
    obtain⟨N,P,o,j,Q⟩:=s2;cases o;obtain⟨J,A,_⟩:=Option.map_eq_some_iff.mp e;exact(lt _ _ _ _ j z A).elim
   |_=>cases s2
def DV{n:Nat}{A:Around}{x y:List D}{a b:Addr}{vs ws:List V}{k:Bool}(I:Inv X pins σ H s)(hr:HR X.K H r h)(hu:A.units<cLine)(q1:cU X.K H a vs)(q2:cU X.K H b ws)(v1:aB X.K H r x vs)(v2:aB X.K H r y ws)
  (ih:∀a b va vb u w k,RV X.K H r a va->RV X.K H r b vb->RelV va u->RelV vb w->Ev.fV h n a b=some k->rZ A.in1 s u w k) (e:Ev.bV (Ev.fV h n) x y=some k):rZ A s (.ref a) (.ref b) k:=by
 obtain⟨d,C,q,_⟩:=I.tuple q1;obtain⟨f,F,z,_⟩:=I.tuple q2;have l1:=v1.length;have l2:=v2.length;have l3:=C.length;have l4:=F.length;have c:RcAt A s (.ref a) (.ref b) k/\RcNeAt A s (.ref a) (.ref b) (!k):=by
  by_cases M:x.length=y.length
  .obtain⟨i,g,N,Q⟩:=qI v1 v2 C F ih M e;have l:=RcAt.tuples q z hu g;have o:=RcNeAt.tuples q z hu g;have G:d.toArray.size=f.toArray.size:=by simpa using Q
   have B:((List.range (min d.toArray.size f.toArray.size)).all i&&d.toArray.size==f.toArray.size)=k:=by
    rw[<-G,Nat.min_self,N];simp
   rw[B]at l o;exact⟨l,o⟩
  .have J:=pA M e;subst J;have L:∃i:Nat->Bool,∀j (g:j<d.toArray.size) (N:j<f.toArray.size),EqAt A.in1 s d.toArray[j] f.toArray[j] (i j):=by
    obtain⟨i,g⟩:=uR e;refine⟨i,λj W Y=>?_⟩;have PJ:j<d.length:=by simpa using W
    have PK:j<f.length:=by simpa using Y
    have P:x[j]?=some x[j]:=RZ (by omega);have B:y[j]?=some y[j]:=RZ (by omega);obtain⟨va,Z,a2⟩:=v1.get P;obtain⟨vb,b1,b2⟩:=v2.get B;obtain⟨u,a3,a4⟩:=C.get Z;obtain⟨w,b3,b4⟩:=F.get b1;have eu:d.toArray[j]=u:=by
     have:=(List.getElem?_eq_some_iff.mp a3).2;simpa using this
    have ew:f.toArray[j]=w:=by
     have:=(List.getElem?_eq_some_iff.mp b3).2;simpa using this
    rw[eu,ew];exact(ih _ _ _ _ _ _ _ a2 b2 a4 b4 (g j _ _ P B)).eq
   obtain⟨i,g⟩:=L;have l:=RcAt.tuples q z hu g;have o:=RcNeAt.tuples q z hu g;have G:(d.toArray.size==f.toArray.size)=false:=by
    simp only[RY,beq_eq_false_iff_ne,ne_eq];omega
   rw[G,Bool.and_false]at l o;exact⟨l,o⟩
 by_cases p:a=b
 .subst p;rw[I.kU q2 q1]at v2;have J:k=true:=yz I hr (n+1) (.tup x) (.tup y) (.ref a) k ⟨a,vs,rfl,q1,v1⟩ ⟨a,vs,rfl,q1,v2⟩ e;subst J;exact⟨.same _,c.1,c.2⟩
 .exact⟨.of_refs p c.1,c.1,c.2⟩
end
section
variable{X:Cx}{pins:List (Addr×Obj)}{σ:L2.St}{H:Hp}{s:Shared}{r:List Addr}{h:Hh}
def wz(I:Inv X pins σ H s)(hr:HR X.K H r h):∀(n:Nat) (A:Around) (a b:D) (va vb:V) (u w:Value) (k:Bool),A.units+n<cLine->RV X.K H r a va->RV X.K H r b vb->RelV va u->RelV vb w->Ev.fV h n a b=some k->rZ A s u w k:=by
 intro n;induction n with
 |zero=>intro A a b va vb u w k _ _ _ _ _ e;cases e
 |succ n ih=>
  intro A a b va vb u w k hu h1 h2 o f e;have c:A.units<cLine:=by omega
  have C:∀a b va vb u w k,RV X.K H r a va->RV X.K H r b vb->RelV va u->RelV vb w->Ev.fV h n a b=some k->rZ A.in1 s u w k:=λa b va vb u w k=>ih A.in1 a b va vb u w k (by show A.units+1+n<cLine;omega);have s1:=h1.shape;have s2:=h2.shape;have lst:∀{i:Nat} {v:V} {u:Value} {B:List D},bP X.K H r (.ref i) v->RelV v u->Ev.aL h i=some B->∃p g,u=.ref p/\PlainL s.heap p (List.toArray g):=λ{i v u B} hv ru el=>by
   obtain⟨p,rfl,z⟩:=hv;cases ru;obtain⟨g,d⟩:=r8 I hr el z;exact⟨p,g,rfl,d⟩
  have tup:∀{B:List D} {v:V} {u:Value},bP X.K H r (.tup B) v->RelV v u->∃p g,u=.ref p/\s.heap.IsTuple p (List.toArray g):=λ{B v u} hv ru=>by
   obtain⟨p,vs,rfl,z,_⟩:=hv;cases ru;obtain⟨g,_,pt,_⟩:=I.tuple z;exact⟨p,g,rfl,pt⟩
  cases a with
  |aY=>
   simp only[bP]at s1;subst s1;cases o;cases b with
   |aY=>simp only[bP]at s2;subst s2;cases f;cases e;exact⟨.same _,.none_none,.none_none⟩
   |bl y=>simp only[bP]at s2;subst s2;cases f;cases e;exact⟨.none_bool _,.none_bool _,.none_bool _⟩
   |int y=>simp only[bP]at s2;subst s2;obtain⟨t,rfl⟩:=f;cases e;exact⟨.none_int _ _,.none_int _ _,.none_int _ _⟩
   |str y=>simp only[bP]at s2;subst s2;obtain⟨t,rfl⟩:=f;cases e;exact⟨.none_str _ _,.none_str _ _,.none_str _ _⟩
   |tup y=>obtain⟨p,g,rfl,pt⟩:=tup s2 f;cases e;exact⟨.none_tuple pt c,.none_tuple pt c,.none_tuple pt c⟩
   |ref m=>
    obtain⟨B,l,rfl⟩:=Option.map_eq_some_iff.mp e;obtain⟨p,g,rfl,d⟩:=lst s2 f l;exact⟨.none_list d.isList c,.none_list d.isList c,.none_list d.isList c⟩
  |bl x=>
   simp only[bP]at s1;subst s1;cases o;cases b with
   |aY=>simp only[bP]at s2;subst s2;cases f;cases e;exact⟨.bool_none _,.bool_none _,.bool_none _⟩
   |bl y=>simp only[bP]at s2;subst s2;cases f;cases e;exact⟨.bool_bool _ _,.bool_bool _ _,.bool_bool _ _⟩
   |int y=>simp only[bP]at s2;subst s2;obtain⟨t,rfl⟩:=f;cases e;exact⟨.bool_int _ _ _,.bool_int _ _ _,.bool_int _ _ _⟩
   |str y=>simp only[bP]at s2;subst s2;obtain⟨t,rfl⟩:=f;cases e;exact⟨.bool_str _ _ _,.bool_str _ _ _,.bool_str _ _ _⟩
   |tup y=>obtain⟨p,g,rfl,pt⟩:=tup s2 f;cases e;exact⟨.bool_tuple _ pt c,.bool_tuple _ pt c,.bool_tuple _ pt c⟩
   |ref m=>
    obtain⟨B,l,rfl⟩:=Option.map_eq_some_iff.mp e;obtain⟨p,g,rfl,d⟩:=lst s2 f l;exact⟨.bool_list _ d.isList c,.bool_list _ d.isList c,.bool_list _ d.isList c⟩
  |int x=>
   simp only[bP]at s1;subst s1;obtain⟨t0,rfl⟩:=o;cases b with
   |aY=>simp only[bP]at s2;subst s2;cases f;cases e;exact⟨.int_none _ _,.int_none _ _,.int_none _ _⟩
   |bl y=>simp only[bP]at s2;subst s2;cases f;cases e;exact⟨.int_bool _ _ _,.int_bool _ _ _,.int_bool _ _ _⟩
   |int y=>simp only[bP]at s2;subst s2;obtain⟨t,rfl⟩:=f;cases e;exact⟨.int_int _ _ _ _,.int_int _ _ _ _,.int_int _ _ _ _⟩
   |str y=>simp only[bP]at s2;subst s2;obtain⟨t,rfl⟩:=f;cases e;exact⟨.int_str _ _ _ _,.int_str _ _ _ _,.int_str _ _ _ _⟩
   |tup y=>obtain⟨p,g,rfl,pt⟩:=tup s2 f;cases e;exact⟨.int_tuple _ _ pt c,.int_tuple _ _ pt c,.int_tuple _ _ pt c⟩
   |ref m=>
    obtain⟨B,l,rfl⟩:=Option.map_eq_some_iff.mp e;obtain⟨p,g,rfl,d⟩:=lst s2 f l;exact⟨.int_list _ _ d.isList c,.int_list _ _ d.isList c,.int_list _ _ d.isList c⟩
  |str x=>
   simp only[bP]at s1;subst s1;obtain⟨t0,rfl⟩:=o;cases b with
   |aY=>simp only[bP]at s2;subst s2;cases f;cases e;exact⟨.str_none _ _,.str_none _ _,.str_none _ _⟩
   |bl y=>simp only[bP]at s2;subst s2;cases f;cases e;exact⟨.str_bool _ _ _,.str_bool _ _ _,.str_bool _ _ _⟩
   |int y=>simp only[bP]at s2;subst s2;obtain⟨t,rfl⟩:=f;cases e;exact⟨.str_int _ _ _ _,.str_int _ _ _ _,.str_int _ _ _ _⟩
   |str y=>
    simp only[bP]at s2;subst s2;obtain⟨t,rfl⟩:=f;cases e;rw[<-DU];exact⟨.str_str _ _ _ _,.str_str _ _ _ _,.str_str _ _ _ _⟩
   |tup y=>obtain⟨p,g,rfl,pt⟩:=tup s2 f;cases e;exact⟨.str_tuple _ _ pt c,.str_tuple _ _ pt c,.str_tuple _ _ pt c⟩
   |ref m=>
    obtain⟨B,l,rfl⟩:=Option.map_eq_some_iff.mp e;obtain⟨p,g,rfl,d⟩:=lst s2 f l;exact⟨.str_list _ _ d.isList c,.str_list _ _ d.isList c,.str_list _ _ d.isList c⟩
  |tup x=>
   cases b with
   |tup y=>
    obtain⟨p,vs,rfl,z,w1⟩:=s1;obtain⟨p',vs',rfl,F,w2⟩:=s2;cases o;cases f;exact DV I hr c z F w1 w2 C e
   |aY=>obtain⟨p,g,rfl,pt⟩:=tup s1 o;simp only[bP]at s2;subst s2;cases f;cases e;exact⟨.tuple_none pt c,.tuple_none pt c,.tuple_none pt c⟩
   |bl y=>obtain⟨p,g,rfl,pt⟩:=tup s1 o;simp only[bP]at s2;subst s2;cases f;cases e;exact⟨.tuple_bool _ pt c,.tuple_bool _ pt c,.tuple_bool _ pt c⟩
   |int y=>obtain⟨p,g,rfl,pt⟩:=tup s1 o;simp only[bP]at s2;subst s2;obtain⟨t,rfl⟩:=f;cases e;exact⟨.tuple_int _ _ pt c,.tuple_int _ _ pt c,.tuple_int _ _ pt c⟩
   |str y=>obtain⟨p,g,rfl,pt⟩:=tup s1 o;simp only[bP]at s2;subst s2;obtain⟨t,rfl⟩:=f;cases e;exact⟨.tuple_str _ _ pt c,.tuple_str _ _ pt c,.tuple_str _ _ pt c⟩
   |ref m=>
    obtain⟨p,g,rfl,pt⟩:=tup s1 o;obtain⟨B,l,rfl⟩:=Option.map_eq_some_iff.mp e;obtain⟨p',Y,rfl,d⟩:=lst s2 f l;exact⟨.tuple_list pt d.isList c,.tuple_list pt d.isList c,.tuple_list pt d.isList c⟩
  |ref i=>
   cases b with
   |ref m=>
    replace e:Ev.je h (Ev.fV h n) i m=some k:=e;unfold Ev.je at e;split at e
    .rename_i PM;subst PM;simp only[JM]at e;obtain⟨B,l,rfl⟩:=e;obtain⟨p,g,rfl,d⟩:=lst s1 o l;obtain⟨p0,rfl,z⟩:=s1;obtain⟨p1,rfl,F⟩:=s2;rw[z]at F;cases F;cases o;cases f;have q:(List.range (List.toArray g).size).all (λ_=>true)=true:=by simp
     have rc:=RcAt.lists (A:=A) (e:=λ_=>true) d.isList d.isList rfl c λj _ _=>EqAt.same _;have ne:=RcNeAt.lists (A:=A) (e:=λ_=>true) d.isList d.isList rfl c λj _ _=>EqAt.same _;rw[q]at rc ne;exact⟨.same _,rc,ne⟩
    .rename_i Z;obtain⟨p0,rfl,z⟩:=s1;obtain⟨p1,rfl,F⟩:=s2;cases o;cases f;split at e
     .rename_i x y N P;obtain⟨q0,G,Cp,L,Q⟩:=hr.ob _ _ N;obtain⟨q4,J,Cq,M,W⟩:=hr.ob _ _ P;rw[z]at G;cases G;rw[F]at J;cases J;exact nB I c (.of L) (.of M) Q W (λw=>Z (hr.inj _ _ _ _ _ z (by rw[w];exact F) N P)) C e
     .rename_i x y N P;obtain⟨q0,G,Cp,L,Q⟩:=hr.ob _ _ N;obtain⟨q4,J,Cq,M,W⟩:=hr.ob _ _ P;rw[z]at G;cases G;rw[F]at J;cases J;exact nB I c (Cr L) (.of M) Q W (mF I L M) C e
     .rename_i x y N P;obtain⟨q0,G,Cp,L,Q⟩:=hr.ob _ _ N;obtain⟨q4,J,Cq,M,W⟩:=hr.ob _ _ P;rw[z]at G;cases G;rw[F]at J;cases J;exact nB I c (.of L) (Cr M) Q W (mF I M L).symm C e
     .cases e
   |aY=>obtain⟨B,l,rfl⟩:=Option.map_eq_some_iff.mp e;obtain⟨p,g,rfl,d⟩:=lst s1 o l;simp only[bP]at s2;subst s2;cases f;exact⟨.list_none d.isList c,.list_none d.isList c,.list_none d.isList c⟩
   |bl y=>obtain⟨B,l,rfl⟩:=Option.map_eq_some_iff.mp e;obtain⟨p,g,rfl,d⟩:=lst s1 o l;simp only[bP]at s2;subst s2;cases f;exact⟨.list_bool _ d.isList c,.list_bool _ d.isList c,.list_bool _ d.isList c⟩
   |int y=>obtain⟨B,l,rfl⟩:=Option.map_eq_some_iff.mp e;obtain⟨p,g,rfl,d⟩:=lst s1 o l;simp only[bP]at s2;subst s2;obtain⟨t,rfl⟩:=f;exact⟨.list_int _ _ d.isList c,.list_int _ _ d.isList c,.list_int _ _ d.isList c⟩
   |str y=>obtain⟨B,l,rfl⟩:=Option.map_eq_some_iff.mp e;obtain⟨p,g,rfl,d⟩:=lst s1 o l;simp only[bP]at s2;subst s2;obtain⟨t,rfl⟩:=f;exact⟨.list_str _ _ d.isList c,.list_str _ _ d.isList c,.list_str _ _ d.isList c⟩
   |tup y=>
    obtain⟨B,l,rfl⟩:=Option.map_eq_some_iff.mp e;obtain⟨p,g,rfl,d⟩:=lst s1 o l;obtain⟨p',Y,rfl,pt⟩:=tup s2 f;exact⟨.list_tuple d.isList pt c,.list_tuple d.isList pt c,.list_tuple d.isList pt c⟩
where
 Cr {K:PySem.W.Frag} {H:Hp} {a:Addr} {vs:List V} (q:v8 K H a vs):dm K H a vs:=by
  rcases q with ⟨ob,e2⟩|e2
  .exact .inl (.inr ⟨ob,e2⟩)
  .exact .inr e2
end
theorem Good.units{G:Tb}{n:Nat}{sc:Scope}{N:List Str}{df:Bool}{X:Cx}(g:Good G n sc N df X):X.A.units+1+Ev.deep<cLine:=by
 have:=g.room.un;have:Ev.deep=20:=rfl;omega
section
variable{G:Tb}{n:Nat}{sc:Scope}{N:List Str}{df:Bool}{X:Cx}
def mG{pins:List (Addr×Obj)}{σ:L2.St}{H:Hp}{s:Shared}{Q:VK}{r:List Addr}{h:Hh}{k:Bool}(I:Inv X pins σ H s)(hr:HR X.K H r h)(q:Res X.K r H h (.bl k) Q):EP X pins σ Q (.bool k) s:=
 ⟨.bl k,H,I,rfl,q.here rfl hr⟩
def Cs(g:Good G n sc N df X):dz X (compareOp .Eq) (gp X.K (fR .eq)):=by
 intro c s σ H x y v u Q I rx ry q;obtain⟨r,h,a,b,d,o,f,i,j,e,q⟩:=q;obtain⟨k,l,rfl,rfl⟩:=iV e;have:=g.units;exact(wz I f Ev.deep X.A a b x y v u k (by omega) i j rx ry l).rc _ _ _ _ (mG I f q)
def Lu(g:Good G n sc N df X):dz X (compareOp .NotEq) (gp X.K (fR .ne)):=by
 intro f s σ H x y v u Q I rx ry q;obtain⟨r,h,a,b,d,z,i,j,l,e,q⟩:=q;obtain⟨k,c,rfl,rfl⟩:=iV e;have:=g.units
 delta Ev.cop at c;dsimp only at c;simp only[JM]at c
 obtain⟨o,p,rfl⟩:=c;exact(wz I i Ev.deep X.A a b x y v u o (by omega) j l rx ry p).ne _ _ _ _ (mG I i q)
def yC{op:CmpOp}{o:bu}{p:Int->Int->Bool}(ho:dz X (compareOp op) (rE λi j=>.bl (p i j)))(hc:∀a b h k,Ev.cop o a b h=some k->∃i j,a=.int i/\b=.int j/\k=p i j):dz X (compareOp op) (gp X.K (fR o)):=by
 intro c s σ H x y v u Q I rx ry q;obtain⟨r,h,a,b,d,A,f,g,l,e,q⟩:=q;obtain⟨k,z,rfl,rfl⟩:=iV e;obtain⟨i,j,rfl,rfl,rfl⟩:=hc _ _ _ _ z;exact ho c s σ H x y v u Q I rx ry ⟨i,j,g,l,q.here rfl f⟩
def Lv:dz X (compareOp .Lt) (gp X.K (fR .lt)):=yC K4 λa b h k e=>by
 cases a<;>cases b <;> (delta Ev.cop at e;dsimp only at e)<;>first | (cases e;exact⟨_,_,rfl,rfl,rfl⟩)|cases e
def Lx:dz X (compareOp .Gt) (gp X.K (fR .gt)):=yC K5 λa b h k e=>by
 cases a<;>cases b <;> (delta Ev.cop at e;dsimp only at e)<;>first | (cases e;exact⟨_,_,rfl,rfl,rfl⟩)|cases e
end
theorem uS{h:Hh}{x:D}:∀{ys:List D}{k:Bool},Ev.mem h x ys=some k->∃e:Nat->Bool,(∀(j:Nat) y,ys[j]?=some y->Ev.fV h Ev.deep y x=some (e j))/\(List.range ys.length).any e=k
 |[],_,e=>⟨λ_=>true,(λj y h=>by simp at h),by cases e;simp⟩
 |y :: ys,k,e=>by
  simp only[Ev.mem,Ua,R4]at e;obtain⟨p,a,q,b,c⟩:=e;cases c;obtain⟨e,d,f⟩:=uS b;refine⟨λj=>match j with|0=>p|j+1=>e j,λj i g=>?_,?_⟩
  .cases j with
   |zero=>simp at g;subst g;exact a
   |succ j=>exact d j i (by simpa using g)
  .rw[R3,Vg,Vz,List.any_map,<-f];rfl
section
variable{X:Cx}{pins:List (Addr×Obj)}{σ:L2.St}{H:Hp}{s:Shared}{r:List Addr}{h:Hh}
open Classical in
def uT(I:Inv X pins σ H s)(hr:HR X.K H r h){A:Around}(hu:A.units+1+Ev.deep<cLine){x:D}{vx:V}{ux:Value}(v1:RV X.K H r x vx)(rx:RelV vx ux){ys:List D}{vs:List V}{us:List Value}(v2:aB X.K H r ys vs)(p2:Vals vs us){k:Bool}(e:Ev.mem h x ys=some k) :
  ∃f:Value->Bool,(∀y,y∈us.toArray->EqAt A.in1 s y ux (f y))/\us.toArray.any f=k:=by
 obtain⟨c,B,C⟩:=uS e;have N:=v2.length;have P:=p2.length;have g:∀(j:Nat) (a:j<us.length),EqAt A.in1 s us[j] ux (c j):=λj a=>by
  have o:ys[j]?=some ys[j]:=RZ (by omega);obtain⟨Q,F,G⟩:=v2.get o;obtain⟨u,J,L⟩:=p2.get F;have M:us[j]=u:=(List.getElem?_eq_some_iff.mp J).2;rw[M];exact(wz I hr Ev.deep A.in1 _ _ _ _ _ _ _ (by show A.units+1+Ev.deep<cLine;exact hu) G v1 L rx (B j _ o)).eq
 refine⟨λy=>decide (∃j,∃a:j<us.length,us[j]=y/\c j=true),λy p=>?_,?_⟩
 .by_cases i:∃j,∃a:j<us.length,us[j]=y/\c j=true
  .obtain⟨j,a,rfl,d⟩:=i;have q:=g j a;rw[d]at q;have:decide (∃j',∃b:j'<us.length,us[j']=us[j]/\c j'=true)=true:=SW ⟨j,a,rfl,d⟩;show EqAt A.in1 s us[j] ux (decide (∃j',∃b:j'<us.length,us[j']=us[j]/\c j'=true));rw[this];exact q
  .show EqAt A.in1 s y ux (decide (∃j',∃b:j'<us.length,us[j']=y/\c j'=true));rw[R7 i];have l:y∈us:=by simpa using p
   obtain⟨j,a,rfl⟩:=List.getElem_of_mem l;have q:=g j a;have:c j=false:=by
    cases z:c j with
    |false=>rfl
    |true=>exact absurd ⟨j,a,rfl,z⟩ i
   rw[this]at q;exact q
 .rw[<-C,Bool.eq_iff_iff,Array.any_eq_true',List.any_eq_true];constructor
  .rintro⟨y,p,hd⟩;obtain⟨j,a,_,d⟩:=SG hd;exact⟨j,List.mem_range.mpr (by omega),d⟩
  .rintro⟨j,a,d⟩;have b:j<us.length:=by have:=List.mem_range.mp a;omega
   exact⟨us[j],by simp,SW ⟨j,b,rfl,d⟩⟩
end
section
variable{G:Tb}{n:Nat}{sc:Scope}{N:List Str}{df:Bool}{X:Cx}
def in_of(g:Good G n sc N df X){pins:List (Addr×Obj)}{σ:L2.St}{H:Hp}{s:Shared}{r:List Addr}{h:Hh}(I:Inv X pins σ H s)(hr:HR X.K H r h){a b:D}{x y:V}{v u:Value}{k:Bool}(v1:RV X.K H r a x)(v2:RV X.K H r b y)(rx:RelV x v)(ry:RelV y u)(e:Ev.isin a b h=some k) :
  (∀Q:Value->Shared->Prop,∀E:Value->Shared->Prop,Q (.bool k) s->wpAny (model X.prog X.w) X.A (compareOp .In v u) Q E s)/\(∀Q:Value->Shared->Prop,∀E:Value->Shared->Prop,Q (.bool (!k)) s->wpAny (model X.prog X.w) X.A (compareOp .NotIn v u) Q E s):=by
 have o:=g.units;cases b with
 |str l=>
  cases a with
  |str c=>
   have s1:=v1.shape;have s2:=v2.shape;simp only[bP]at s1 s2;subst s1 s2;obtain⟨t,rfl⟩:=rx;obtain⟨P,rfl⟩:=ry
   match c,e with
   |[c],e=>
    cases e;have q:(!(Builtin.Str.occurrences (aC l) (aC [c]) 0 (aC l).length 1).isEmpty)=l.contains c:=by
     have:=PySem.StrLaws.found_one (aC l) c;rw[show(aC [c])=⟨#[c]⟩from rfl,this,Bool.eq_iff_iff];have j:l.contains c=true↔c∈l:=by simp
     rw[j];exact⟨λz=>by simpa[aC]using SG z,λz=>SW (by simpa[aC]using z)⟩
    refine⟨λQ E d=>in_str (by rw[q];exact d),λQ E d=>notIn_str (by rw[q];exact d)⟩
   |[],e=>cases e
   |_ :: _ :: _,e=>cases e
  |_=>cases e
 |tup W=>
  obtain⟨p,F,rfl,z,w⟩:=v2.shape;cases ry;obtain⟨J,pv,pt,_⟩:=I.tuple z;obtain⟨f,f1,f2⟩:=uT I hr o v1 rx w pv e;refine⟨λQ E d=>in_tupleAt f pt f1 (by rw[f2];exact d),λQ E d=>notIn_tupleAt f pt f1 (by rw[f2];exact d)⟩
 |ref i=>
  simp only[Ev.isin,R4]at e;obtain⟨Y,j,L⟩:=e;obtain⟨p,rfl,z⟩:=v2.shape;cases ry;obtain⟨Z,F,B,M,w⟩:=hr.read j;rw[z]at B;cases B;obtain⟨J,pv,C,_⟩:=I.list M;obtain⟨f,f1,f2⟩:=uT I hr o v1 rx w pv L;refine⟨λQ E d=>in_listAt f C.isList f1 (by rw[f2];exact d),λQ E d=>notIn_listAt f C.isList f1 (by rw[f2];exact d)⟩
 |_=>cases e
def Ly(g:Good G n sc N df X):dz X (compareOp .In) (gp X.K (fR .isin)):=by
 intro c s σ H x y v u Q I rx ry q;obtain⟨r,h,a,b,d,i,f,j,l,e,q⟩:=q;obtain⟨k,o,rfl,rfl⟩:=iV e;exact(in_of g I f j l rx ry (show Ev.isin a b i=some k by cases a<;>cases b<;>exact o)).1 _ _ (mG I f q)
def pB(a b:List Nat):aC a++aC b=aC (a++b):=by
 show Str.append (aC a) (aC b)=_;simp[Str.append,aC]
def DW{pins:List (Addr×Obj)}{σ:L2.St}{H:Hp}{s:Shared}{Q:Value->Shared->Prop}{E:Value->Shared->Prop}(I:Inv X pins σ H s){a b:Addr}{ys:List V}(h1:cU X.K H a [])(h2:cU X.K H b ys)(q:Q (.ref b) s):wpAny (model X.prog X.w) X.A (binaryOp .Add (.ref a) (.ref b)) Q E s:=by
 obtain⟨z,p,PN,_⟩:=I.tuple h1;obtain⟨B,C,PR,_⟩:=I.tuple h2;cases p;obtain⟨⟨r,x,i,y⟩,j,l,n,o⟩:=id PN;obtain⟨⟨NW,f,g,h⟩,c,d,n2,e⟩:=id PR;simp only at l o d e;subst l o d e;exact VD ⟨_,j,rfl⟩ ⟨_,c,rfl⟩ U0 Vw Ut Up (Ul _ _)
  (tuple_addW0 a b _ _ n n2 x f y h (by simp)) ⟨j,c,q⟩
def Hj:dz X (binaryOp .Add) (gp X.K (Ev.bS .add)):=by
 intro c s σ H x y v u Q I rx ry q;obtain⟨r,h,a,b,d,h',g,v1,v2,e,q⟩:=q;have s1:=v1.shape;have s2:=v2.shape;cases a with
 |int i=>cases b with
  |int j=>cases e;exact FU c s σ H x y v u Q I rx ry ⟨i,j,s1,s2,q.here rfl g⟩
  |_=>cases e
 |str i=>cases b with
  |str j=>
   delta Ev.bS at e;dsimp only at e
   split at e
   .rename_i f;cases e;rw[fK]at f;refine vP c s σ H x y v u Q I rx ry ⟨aC i,aC j,s1,s2,by rw[cE,cE];exact f,?_⟩;rw[pB];exact q.here ⟨rfl,by rw[R1];exact f⟩ g
   .cases e
  |_=>cases e
 |tup i=>cases b with
  |tup j=>
   delta Ev.bS at e;dsimp only at e
   split at e
   .rename_i f;cases e;rw[fK]at f;obtain⟨B,l,rfl,o,F⟩:=s1;obtain⟨z,C,rfl,A,J⟩:=s2;have L:=F.length;have M:=J.length;cases l with
    |nil=>
     cases rx;cases ry;refine DW I o A ⟨.ref z,H,I,rfl,q.here ?_ g⟩;have:i=[]:=by cases i with|nil=>rfl|cons _ _=>simp at L
     subst this;exact⟨z,C,rfl,A,by simpa using J⟩
    |cons P l=>
     refine DA c s σ H _ _ v u Q I rx ry ⟨B,z,P :: l,C,rfl,rfl,o,A,by simp,by rw[L,M];exact f,λW=>?_,λW p hp=>?_⟩
     .subst W;have:j=[]:=by cases j with|nil=>rfl|cons _ _=>simp at M
      subst this;exact q.here ⟨B,P :: l,rfl,o,by simpa using F⟩ g
     .exact q.tup (F.append J) g hp
   .cases e
  |_=>cases e
 |ref i=>cases b with
  |ref j=>
   delta Ev.bS at e;dsimp only at e
   split at e
   .rename_i ds es e1 e2;obtain⟨B,rfl,o⟩:=s1;obtain⟨z,rfl,A⟩:=s2;cases rx;cases ry;obtain⟨p1,Y,l,g2,g3⟩:=g.ob _ _ e1;obtain⟨p2,Z,C,k2,k3⟩:=g.ob _ _ e2;rw[o]at Y;cases Y;rw[A]at Z;cases Z;obtain⟨f,q2⟩:=q.lst e (g3.append k3) g;exact Gr c s σ H (.ref B) (.ref z) _ _ Q I rfl rfl ⟨_,_,l,C,rfl,rfl,g2,k2,by rw[R1]at f;exact f,q2⟩
   .cases e
  |_=>cases e
 |_=>cases b<;>cases e
def Hl:dz X (binaryOp .Sub) (gp X.K (Ev.bS .sub)):=by
 intro c s σ H x y v u Q I rx ry q;obtain⟨r,h,a,b,d,o,f,g,l,e,q⟩:=q;cases a with
 |int i=>cases b with
  |int j=>cases e;exact FY c s σ H x y v u Q I rx ry ⟨i,j,g,l,q.here rfl f⟩
  |_=>cases e
 |_=>cases b<;>cases e
def DX:dz X (binaryOp .FloorDiv) (gp X.K (Ev.bS .fdiv)):=by
 intro c s σ H x y v u Q I rx ry q;obtain⟨r,h,a,b,d,p,f,g,l,e,q⟩:=q;cases a with
 |int i=>cases b with
  |int j=>
   delta Ev.bS at e;dsimp only at e
   split at e
   .rename_i o;cases e;exact Dq c s σ H x y v u Q I rx ry ⟨i,j,g,l,o,q.here rfl f⟩
   .cases e
  |_=>cases e
 |_=>cases b<;>cases e
def Ho:dz X (binaryOp .Mod) (gp X.K (Ev.bS .mod)):=by
 intro c s σ H x y v u Q I rx ry q;obtain⟨r,h,a,b,d,p,f,g,l,e,q⟩:=q;cases a with
 |int i=>cases b with
  |int j=>
   delta Ev.bS at e;dsimp only at e
   split at e
   .rename_i o;cases e;exact Ga c s σ H x y v u Q I rx ry ⟨i,j,g,l,o,q.here rfl f⟩
   .cases e
  |_=>cases e
 |_=>cases b<;>cases e
end
section
variable{X:Cx}
def Hq(n:Nat)(i:Int):Ev.dG n i=L2.dG n i:=rfl
def Hr{α:Type}(xs:List α)(i:Int):Ev.bH xs i=L2.bH xs i:=rfl
theorem aB.bH{K:PySem.W.Frag}{H:Hp}{r:List Addr}{ds:List D}{vs:List V}{i:Int}{d:D}(w:aB K H r ds vs)(e:Ev.bH ds i=some d):∃v,L2.bH vs i=some v/\RV K H r d v:=by
 unfold Ev.bH at e;obtain⟨j,a,b⟩:=Option.bind_eq_some_iff.mp e;obtain⟨v,c,f⟩:=w.get b;exact⟨v,by unfold L2.bH;rw[w.length,<-Hq,a];exact c,f⟩
def Lz:uF X (gp X.K GP):=by
 intro f g j s σ H x y v u Q I rx ry q hs;obtain⟨r,h,a,b,d,Z,o,A,M,e,q⟩:=q;obtain⟨e,rfl⟩:=Ev.aE e;cases b with
 |int i=>
  have s2:=M.shape;cases a with
  |tup N=>
   obtain⟨p,B,rfl,z,w⟩:=A.shape;obtain⟨C,F,G⟩:=w.bH e;exact Gm f g j s σ H _ y v u Q I rx ry ⟨p,B,i,C,rfl,s2,z,F,q.here G o⟩ hs
  |str l=>
   simp only[RV]at A;obtain⟨rfl,P⟩:=A;simp only[Ev.dY,JM]at e;obtain⟨c,J,rfl⟩:=e;exact Gn f g j s σ H _ y v u Q I rx ry ⟨aC l,i,c,rfl,s2,by rw[cE];exact P,by simpa[aC,Hr]using J,q.here ⟨rfl,by show 1<=sizeLine;decide⟩ o⟩ hs
  |ref m=>
   simp only[Ev.dY,R4]at e;obtain⟨N,J,W⟩:=e;obtain⟨p,rfl,z⟩:=A.shape;obtain⟨p',B,L,Y,w⟩:=o.read J;rw[z]at L;cases L;obtain⟨C,F,G⟩:=w.bH W;exact DC f g j s σ H _ y v u Q I rx ry ⟨p,B,i,C,rfl,s2,Y,F,q.here G o⟩ hs
  |_=>cases e
 |_=>cases a<;>cases e
theorem aB.cut{K:PySem.W.Frag}{H:Hp}{r:List Addr}{ds:List D}{vs:List V}(w:aB K H r ds vs)(lo hi:Option Int):aB K H r (Ev.cut ds lo hi) (lg vs lo hi):=by
 unfold Ev.cut lg;rw[w.length];exact(w.drop _).take _
def qJ{α:Type}(xs:List α)(lo hi:Option Int)(h:Ev.aI xs.length 0 lo=0/\Ev.aI xs.length xs.length hi=xs.length):Ev.cut xs lo hi=xs:=by
 unfold Ev.cut;rw[h.1,h.2];simp
def DY{α:Type}(xs:List α)(lo hi:Option Int):(Ev.cut xs lo hi).length<=xs.length:=by
 unfold Ev.cut;rw[S9,Tz];omega
def qT{prog:Program}{w:World}{A:Around}{E:Value->Shared->Prop}{s:Shared}{t sl:Addr}{items:Array Value}{vl vu:Value}{lo hi:Option Int}{Q:Value->Shared->Prop}(ht:IsTup s.heap t items)(hs:s.heap.IsSliceOf sl vl vu .none)(pl:IsPart vl lo)(pu:IsPart vu hi)
  (hw:HT.aI items.size 0 lo=0/\HT.aI items.size items.size hi=items.size) (h:Q (.ref t) s):wpAny (model prog w) A (getItem (.ref t) (.ref sl)) Q E s:=by
 obtain⟨d,b,c,e⟩:=id hs;have f:s.TypeIs (.ref sl) "slice" :=⟨d,b,c⟩
 unfold getItem;try with_reducible refine UL ?_
 first|refine fB (RW ?_)|skip
 refine fB (wpAny_sequenceKey ht.typeIs (by decide) ?_);refine fB (TL (name:=Str.ofString "__getitem__") ht.typeIs SY
  (S7 SY ht.typeIs entry_tuple_getitem ?_ (args_tuple_getitem _ _)))
 show wpAny _ _ (Builtin.Tuple.tupleItemsOf (.ref t) >>= _) _ _ s;refine fB (tupleItemsOf_ ht ?_);refine fB (UW f ?_);rw[gQ (by decide)];refine fB (HT.iZ hs pl pu ?_);have a:(((HT.aI items.size 0 lo:Nat):Int)==0&&(1:Int)==1&&(HT.aI items.size items.size hi - HT.aI items.size 0 lo)==items.size)=true:=by
  rw[hw.1,hw.2];simp
 show wpAny _ _ (if (((HT.aI items.size 0 lo:Nat):Int)==0&&(1:Int)==1&&(HT.aI items.size items.size hi - HT.aI items.size 0 lo)==items.size)=true then _ else _) _ _ s;rw[gQ a];refine fB (m:=Builtin.Tuple.tupleIsExact (.ref t)) (fB (UW ht.typeIs (RW ?_)));show wpAny _ _ (if ((Value.type "tuple" ==Value.type "tuple")=true)then _ else _) _ _ s;rw[gQ (by decide)];exact fB (Vr (fB (RW (RW ⟨_,rfl,RW h⟩))))
def yD(lo hi:Option Int)(n:Nat):Builtin.Str.strSliceIndices lo hi 1 n=(List.range (Ev.aI n n hi - Ev.aI n 0 lo)).map (λk=>Ev.aI n 0 lo+k):=by
 have Hs:∀o:Option Int,((match o with|none=>(0:Int)|some i=>max 0 (min (if i<0 then i+(n:Int)else i) (n:Int))))=((Ev.aI n 0 o:Nat):Int):=λo=>by
  cases o with
  |none=>rfl
  |some i=>simp only[Ev.aI];split<;>omega
 have Ht:∀o:Option Int,((match o with|none=>(n:Int)|some i=>max 0 (min (if i<0 then i+(n:Int)else i) (n:Int))))=((Ev.aI n n o:Nat):Int):=λo=>by
  cases o with
  |none=>rfl
  |some i=>simp only[Ev.aI];split<;>omega
 have e:Builtin.Str.strSliceIndices lo hi 1 n=sliceRange (match lo with|none=>(0:Int)|some i=>max 0 (min (if i<0 then i+(n:Int)else i) (n:Int))) (match hi with|none=>(n:Int)|some i=>max 0 (min (if i<0 then i+(n:Int)else i) (n:Int))) 1:=by
  unfold Builtin.Str.strSliceIndices;cases lo<;>cases hi<;>simp
 rw[e,Hs,Ht,sliceRange_one]
def Hu(l:List Nat)(lo hi:Option Int):((Builtin.Str.strSliceIndices lo hi 1 (aC l).length).filterMap ((aC l).cps[·]?)).toArray=(Ev.cut l lo hi).toArray:=by
 rw[cE,yD,pick_run];simp[aC,Ev.cut]
def Hv:jP X (GC X.K):=by
 intro b s σ H x v vl vu lo hi sl Q I rx hs pl pu q;obtain⟨r,h,a,d,h',A,G,e,q⟩:=q;cases a with
 |tup y=>
  cases e;obtain⟨p,c,rfl,z,w⟩:=G.shape;by_cases J:HT.aI c.length 0 lo=0/\HT.aI c.length c.length hi=c.length
  .cases rx;obtain⟨us,pv,pt,hz⟩:=I.tuple z;have Z:=pv.length;have PU:Ev.aI y.length 0 lo=0/\Ev.aI y.length y.length hi=y.length:=by rw[<-w.length];exact J
   refine⟨"tuple",_,PyProof.Rows.slot_tuple_getitem.lookup,pt.typeIs,?_⟩;refine qT pt hs pl pu (by rw[RY,<-Z];exact J) ⟨.ref p,H,I,rfl,q.here ?_ A⟩;rw[qJ y lo hi PU];exact⟨p,c,rfl,z,w⟩
  .exact Gk b s σ H _ v vl vu lo hi sl Q I rx hs pl pu ⟨p,c,rfl,z,J,λp' L=>q.tup (w.cut lo hi) A L⟩
 |str l=>
  simp only[RV]at G;obtain⟨rfl,Z⟩:=G;obtain⟨t,rfl⟩:=rx;cases e;refine⟨"str",_,PySem.F.slot_str_getitem.lookup,typeIs_str s _ t,?_⟩;have f:∀{v:Value} {o:Option Int},IsPart v o->∃p:Option (Int×Tok),v=partValue p/\p.map (·.1)=o:=λ{v o} L=>by
   cases L with
   |none=>exact⟨none,rfl,rfl⟩
   |int i t=>exact⟨some (i,t),rfl,rfl⟩
  obtain⟨g,M,e2⟩:=f pl;obtain⟨j,e3,e4⟩:=f pu;subst M e3;obtain⟨os,N,P,W⟩:=hs;refine wpAny_getItem_str_slice (l:=g) (u:=j) (st:=none) ⟨os,N,P,W⟩ rfl ?_;have nU:((slicePicked (aC l) g j none).filterMap ((aC l).cps[·]?)).toArray=(Ev.cut l lo hi).toArray:=by
   show((Builtin.Str.strSliceIndices (g.map (·.1)) (j.map (·.1)) 1 (aC l).length).filterMap ((aC l).cps[·]?)).toArray=_;rw[e2,e4];exact Hu l lo hi
  have hcl:=DY l lo hi;unfold sliceMade;refine post_val_or_made (λ_=>?_) λt' k=>?_
  .rw[nU];show(Ev.cut l lo hi).toArray.size<=sizeLine;simp only[RY];omega
  .have B:(if (((none:Option (Int×Tok)).map (·.1)).getD 1==1&&(slicePicked (aC l) g j none).length==(aC l).length)=true then aC l else (⟨((slicePicked (aC l) g j none).filterMap ((aC l).cps[·]?)).toArray⟩:Str))=aC (Ev.cut l lo hi):=by
    split
    .rename_i hc;rw[iY]at hc;have C:(slicePicked (aC l) g j none).length=(aC l).length:=eq_of_beq hc.2;have Y:(slicePicked (aC l) g j none).length=Ev.aI l.length l.length hi - Ev.aI l.length 0 lo:=by
      show(Builtin.Str.strSliceIndices (g.map (·.1)) (j.map (·.1)) 1 (aC l).length).length=_;rw[e2,e4,yD,cE];simp
     rw[cE]at C;have hb:Ev.aI l.length l.length hi<=l.length:=HT.rH _ _ (oM _) hi;have ha:Ev.aI l.length 0 lo<=l.length:=HT.rH _ _ (SQ _) lo;rw[qJ l lo hi ⟨by omega,by omega⟩]
    .rw[nU];rfl
   rw[B];exact⟨.str (aC (Ev.cut l lo hi)),H,I.tok _,⟨_,rfl⟩,q.here ⟨rfl,by omega⟩ A⟩
 |ref m=>
  simp only[Ev.gk]at e;split at e
  .rename_i y M;obtain⟨p,rfl,z⟩:=G.shape;obtain⟨p',c,z',q1,w⟩:=A.read M;rw[z]at z';cases z';obtain⟨hz,q2⟩:=q.lst e (w.cut lo hi) A;exact DE b s σ H _ v vl vu lo hi sl Q I rx hs pl pu ⟨p,c,rfl,q1,q2⟩
  .cases e
 |_=>cases e
theorem sd:∀(k:Nat) (l:List Nat) (acc:List Nat),(List.replicate k l.toArray).foldl (·++·) acc.toArray=(acc++Ev.rep k l).toArray
 |0,l,acc=>by simp[Ev.rep]
 |k+1,l,acc=>by
  rw[RU,SA];have:acc.toArray++l.toArray=(acc++l).toArray:=by simp
  rw[this,sd k l (acc++l)];simp[Ev.rep,RU]
def mH{α:Type}(k:Nat)(l:List α):(Ev.rep k l).length=k*l.length:=by
 unfold Ev.rep;exact len_rep l k
def DZ{l:List Nat}{k:Int}(h:0<=k):Txt.mul (aC l) k=aC (Ev.rep k.toNat l):=by
 unfold Txt.mul;by_cases b:k<1
 .have:k=0:=by omega
  subst this;rw[gQ (by decide)];rfl
 .rw[R0 b];split
  .rename_i a;rw[SO]at a;rcases a with a|a
   .have:k=1:=by simpa using a
    subst this;simp[Ev.rep]
   .rw[cE]at a;have:l=[]:=by cases l with|nil=>rfl|cons _ _=>simp at a
    subst this;simp[Ev.rep,aC]
  .show(⟨(List.replicate k.toNat (aC l).cps).foldl (·++·) #[]⟩:Str)=_;have:=sd k.toNat l [];simp only[UB]at this;exact R8 Str.mk this
def jw{a b:Nat}(h1:a<=1000)(h2:b<=1000):a*b<=sizeLine:=Sa (Nat.mul_le_mul h1 h2) (by decide)
def D0{pins:List (Addr×Obj)}{σ:L2.St}{H:Hp}{s:Shared}{Q:VK}(I:Inv X pins σ H s){l:List Nat}{k:Int}{t u:Tok}(hk:0<=k/\k<=1000/\l.length<=1000)(q:Q (.str (aC (Ev.rep k.toNat l))) H) :
  wpAny (model X.prog X.w) X.A (binaryOp .Mult (.str (aC l) t) (.int k u)) (EP X pins σ Q) X.xe s:=by
 have a:MulOk (aC l) k:=mulOk_of 1000 1000 (by rw[cE];exact hk.2.2) (by exact hk.2.1) (by omega) (by decide) (by decide);refine SB.mul a λb c=>?_;rw[DZ hk.1];exact⟨.str _,H,I.tok _,⟨_,rfl⟩,q⟩
def nC:fillsNumberSlot (.type "tuple") "mul" = pure false:=
 PySem.fillsNumberSlot_seq (id:="tuple.__mul__") (r:=some (.builtin "tuple.__rmul__")) PySem.F.slot_tuple_mul.lookup (by decide +kernel) PySem.F.slot_tuple_rmul.lookup (by decide +kernel)
def se:seqRepeat? (.type "tuple")=pure (some (.builtin "tuple.__mul__")):=by
 unfold seqRepeat?;rw[VN (T:="tuple") (name:="__mul__") (id:="tuple.__mul__") PySem.F.slot_tuple_mul.lookup (by decide +kernel),VN (T:="tuple") (name:="__rmul__") (id:="tuple.__rmul__") PySem.F.slot_tuple_rmul.lookup (by decide +kernel)];rfl
def wA(a:Int)(t:Tok)(l:Addr)(items:Array Value)(n:Nat)(dd:Option Addr)(sl:Array (Option Value)) :
  Meets (Builtin.«int.__rmul__» ⟨[.int a t,.ref l],[]⟩) (λ_ R s=>s.heap.get? l=some { cls:=.type "tuple",dict:=dd,data:=.seq items n,slots:=sl }/\R (.ok (.ret Value.notImplemented)) s):=
 .of_wp λprog w A R s h=>by obtain⟨b,g,d,c,e⟩:=s;obtain⟨f,h⟩:=h;wp_walk;exact⟨_,rfl,h⟩
def wC(l:Addr)(items:Array Value)(n:Nat)(dd:Option Addr)(sl:Array (Option Value))(k:Int)(u:Tok)(h1:¬ (decide (k < -2 ^ 63) ||decide (k≥2 ^ 63))=true)(h3:(items.isEmpty ||k==1)=true) :
  Meets (Builtin.«tuple.__mul__» ⟨[.ref l,.int k u],[]⟩) (λ_ R s=>s.heap.get? l=some { cls:=.type "tuple",dict:=dd,data:=.seq items n,slots:=sl }/\R (.ok (.ret (.ref l))) s):=
 .of_wp λprog w A R s h=>by obtain⟨b,g,d,c,e⟩:=s;obtain⟨a,h⟩:=h;have f1:=U3;wp_walk using Sz a;rw[R0 h1];wp_walk using Sz a;exact⟨_,rfl,h⟩
def wD(l:Addr)(items:Array Value)(n:Nat)(dd:Option Addr)(sl:Array (Option Value))(k:Int)(u:Tok)(h1:¬ (decide (k < -2 ^ 63) ||decide (k≥2 ^ 63))=true)(h3:¬ (items.isEmpty ||k==1)=true)(h4:(decide (k<=0) ||items.isEmpty)=true) :
  Meets (Builtin.«tuple.__mul__» ⟨[.ref l,.int k u],[]⟩) (λ_ R s=>s.heap.get? l=some { cls:=.type "tuple",dict:=dd,data:=.seq items n,slots:=sl }/\R (.ok (.ret (Value.ref s.heap.objs.size))) { s with heap:=s.heap.push { cls:=Value.type "tuple",data:=Data.seq #[]},toks:=s.toks }):=
 .of_wp λprog w A R s h=>by obtain⟨b,g,d,c,e⟩:=s;obtain⟨a,h⟩:=h;have f1:=U3;wp_walk using Sz a;rw[R0 h1];wp_walk using Sz a;exact⟨_,rfl,h⟩
def wF(l:Addr)(items:Array Value)(n:Nat)(dd:Option Addr)(sl:Array (Option Value))(k:Int)(u:Tok)(h1:¬ (decide (k < -2 ^ 63) ||decide (k≥2 ^ 63))=true)(h3:¬ (items.isEmpty ||k==1)=true)(h4:¬ (decide (k<=0) ||items.isEmpty)=true)
  (h5:¬ (items.size*k > (2 ^ 63 - 1) / 8)) (h6:¬ Builtin.Tuple.tupleTooMany (items.size*k)=true) (hsz:(List.foldl (λx1 x2=>x1++x2) #[] (List.replicate k.toNat items)).size<=sizeLine) :
  Meets (Builtin.«tuple.__mul__» ⟨[.ref l,.int k u],[]⟩) (λ_ R s=>s.heap.get? l=some { cls:=.type "tuple",dict:=dd,data:=.seq items n,slots:=sl }/\R (.ok (.ret (Value.ref s.heap.objs.size))) { s with heap:=s.heap.push { cls:=Value.type "tuple",data:=Data.seq (List.foldl (λx1 x2=>x1++x2) #[] (List.replicate k.toNat items))},toks:=s.toks }):=
 .of_wp λprog w A R s h=>by obtain⟨b,g,d,c,e⟩:=s;obtain⟨a,h⟩:=h;have f1:=U3;wp_walk using Sz a;rw[R0 h1];wp_walk using Sz a;rw[R0 h5];wp_walk using Sz a;exact⟨_,rfl,h⟩
theorem qK:∀(k:Nat) (l acc:List Value),(List.replicate k l.toArray).foldl (·++·) acc.toArray=(acc++Ev.rep k l).toArray
 |0,l,acc=>by simp[Ev.rep]
 |k+1,l,acc=>by
  rw[RU,SA];have:acc.toArray++l.toArray=(acc++l).toArray:=by simp
  rw[this,qK k l (acc++l)];simp[Ev.rep,RU]
def D3{pins:List (Addr×Obj)}{σ:L2.St}{H:Hp}{s:Shared}{Q:VK}(I:Inv X pins σ H s){p:Addr}{vs:List V}{k:Int}{u:Tok}(hk:0<=k/\k<=1000/\vs.length<=1000)(hp:cU X.K H p vs)
  (q1:Ev.rep k.toNat vs=vs->Q (.ref p) H) (q2:∀p',H p'=none->Q (.ref p') (upd H p' (.tup (Ev.rep k.toNat vs)))) :
  wpAny (model X.prog X.w) X.A (binaryOp .Mult (.ref p) (.int k u)) (EP X pins σ Q) X.xe s:=by
 obtain⟨a,pv,pt,L⟩:=I.tuple hp;obtain⟨⟨cls,g,data,h⟩,d,l,n,r⟩:=id pt;simp only at l r;subst l r;have M:=pv.length;have i:¬ (decide (k < -2 ^ 63) ||decide (k≥2 ^ 63))=true:=by simp;omega
 refine US (T:="tuple") (U:="int") (by decide) ⟨_,d,rfl⟩ (λB=>UR B k u) nC PySem.F.fills_int_mul Vm se PySem.F.slot_int_index.lookup
  (TN Vm (UR s k u) PySem.F.entry_int_rmul (PySem.F.args_int_rmul_2 _ _) (wA k u p a.toArray n g h) ⟨d,rfl,⟨_,d,rfl⟩,?_⟩)
 have x:∀m:Nat,(Ev.rep m a).length=m*a.length:=λm=>mH m a;by_cases c:(a.toArray.isEmpty ||k==1)=true
 .refine TN Us ⟨_,d,rfl⟩ Uo (Uk _ _) (wC p a.toArray n g h k u i c) ⟨d,?_⟩;refine⟨.ref p,H,I,rfl,q1 ?_⟩;rw[SO]at c;rcases c with c|c
  .have:a=[]:=by simpa using c
   subst this;cases pv;simp[Ev.rep]
  .have:k=1:=by simpa using c
   subst this;simp[Ev.rep]
 .have laid:∀m:Nat,m=k.toNat->EP X pins σ Q (.ref s.heap.objs.size) { s with heap:=s.heap.push { cls:=.type "tuple",data:=.seq (Ev.rep m a).toArray }}:=λm y=>by
   subst y;refine⟨.ref s.heap.objs.size,_,I.laid (t':=s.toks) (o:=.tup (Ev.rep k.toNat vs)) (λb N q=>RT _ q) (oM _) ?_,rfl,q2 _ (I.hok.fresh (oM _))⟩;exact⟨by rw[mH];exact jw (by omega) hk.2.2,_,pv.rep k.toNat,IsTup.new _ _⟩
  by_cases f:(decide (k<=0) ||a.toArray.isEmpty)=true
  .refine TN Us ⟨_,d,rfl⟩ Uo (Uk _ _) (wD p a.toArray n g h k u i c f) ⟨d,?_⟩;have j:k=0:=by
    rw[SO]at f c;rcases f with f|f
    .have:k<=0:=SG f;omega
    .exact absurd (.inl f) c
   have:=laid 0 (by rw[j];rfl);exact this
  .have y:a.toArray.size*k.toNat<=1000000:=by
    rw[RY];exact Nat.mul_le_mul (by omega:a.length<=1000) (by omega:k.toNat<=1000)
   have C:(a.toArray.size:Int)*k<=1000000:=by
    have e:(a.toArray.size:Int)*k=((a.toArray.size*k.toNat:Nat):Int):=by
     rw[Int.natCast_mul,Int.toNat_of_nonneg hk.1]
    rw[e];omega
   have z:List.foldl (λG J=>G++J) #[] (List.replicate k.toNat a.toArray)=(Ev.rep k.toNat a).toArray:=by
    have:=qK k.toNat a [];simpa using this
   refine TN Us ⟨_,d,rfl⟩ Uo (Uk _ _) (wF p a.toArray n g h k u i c f (by omega) ?_ ?_) ⟨d,?_⟩
   .unfold Builtin.Tuple.tupleTooMany;simp only[S5];have:(sizeLine:Int)=16777216:=by rw[Td];rfl
    omega
   .rw[z];simp only[RY];rw[mH];exact jw (by omega) (by omega)
   .rw[z];exact laid _ rfl
def Hw:dz X (binaryOp .Mult) (gp X.K (Ev.bS .mul)):=by
 intro f s σ H x y v u Q I rx ry q;obtain⟨r,h,a,b,d,Y,g,j,C,e,q⟩:=q;cases b with
 |int k=>
  have s2:=C.shape;simp only[bP]at s2;subst s2;cases a with
  |int i=>
   delta Ev.bS at e;dsimp only at e
   split at e
   .rename_i c;cases e;refine FZ f s σ H x _ v u Q I rx ry ⟨i,k,j,rfl,?_,q.here rfl g⟩;unfold Ev.bQ at c;simp only[SO,iY,S5]at c;exact c
   .cases e
  |str l=>
   delta Ev.bS at e;dsimp only at e
   split at e
   .rename_i c;cases e;simp only[RV]at j;obtain⟨rfl,Z⟩:=j;obtain⟨t,rfl⟩:=rx;obtain⟨F,rfl⟩:=ry;exact D0 I c (q.here ⟨rfl,by rw[mH];exact jw (by omega) c.2.2⟩ g)
   .cases e
  |tup G=>
   delta Ev.bS at e;dsimp only at e
   split at e
   .rename_i c;cases e;obtain⟨p,o,rfl,z,w⟩:=j.shape;cases rx;obtain⟨F,rfl⟩:=ry;refine D3 I ⟨c.1,c.2.1,by rw[w.length];exact c.2.2⟩ z (λPV=>q.here ⟨p,o,rfl,z,?_⟩ g) λJ L=>q.tup (w.rep k.toNat) g L;have:=w.rep k.toNat;rw[PV]at this;exact this
   .cases e
  |ref i=>
   delta Ev.bS at e;dsimp only at e
   split at e
   .rename_i G M;split at e
    .rename_i c;obtain⟨p,rfl,z⟩:=j.shape;obtain⟨J,A,o,N,B⟩:=g.ob _ _ M;rw[z]at A;cases A;obtain⟨P,W⟩:=q.lst e (B.rep k.toNat) g;exact Gs f s σ H (.ref p) _ v u Q I rx ry ⟨p,k,o,rfl,rfl,N,by omega,by omega,jw (by rw[B.length];exact c.2.2) (by omega),W⟩
    .cases e
   .cases e
  |_=>cases e
 |_=>cases a<;>cases e
end
section
variable{X:Cx}
theorem pC{K:PySem.W.Frag}{H:Hp}{r:List Addr}:∀{ds:List D}{is:List Int}{vs:List V}{us:List Value},Ev.intsOf ds=some is->aB K H r ds vs->Vals vs us->IntsAre us is
 |[],bs,vs,us,e,w,p=>by
  cases e;simp only[aB]at w;subst w;cases p;exact .nil
 |d :: ds,bs,vs,us,e,w,p=>by
  cases d with
  |int b=>
   simp only[Ev.intsOf,JM]at e;obtain⟨a,c,rfl⟩:=e;simp only[aB,RV]at w;obtain⟨v,i,rfl,rfl,f⟩:=w;cases p with
   |cons g h=>
    obtain⟨t,rfl⟩:=g;exact .cons _ _ (pC c f h)
  |_=>cases e
theorem uU{K:PySem.W.Frag}{H:Hp}{r:List Addr}:∀{ds:List D}{ss:List (List Nat)}{vs:List V}{us:List Value},Ev.strsOf ds=some ss->aB K H r ds vs->Vals vs us->StrsAre us (ss.map aC)/\∀l∈ss,l.length<=sizeLine
 |[],bs,vs,us,e,w,p=>by
  cases e;simp only[aB]at w;subst w;cases p;exact⟨.nil,λl h=>nomatch h⟩
 |d :: ds,bs,vs,us,e,w,p=>by
  cases d with
  |str b=>
   simp only[Ev.strsOf,JM]at e;obtain⟨a,c,rfl⟩:=e;simp only[aB,RV]at w;obtain⟨v,y,rfl,⟨rfl,f⟩,g⟩:=w;cases p with
   |cons i j=>
    obtain⟨t,rfl⟩:=i;obtain⟨o,q⟩:=uU c g j;refine⟨.cons _ _ o,λl x=>?_⟩;rcases List.mem_cons.mp x with z|z
    .subst z;exact f
    .exact q l z
  |_=>cases e
variable{G:Tb}{n:Nat}{sc:Scope}{N:List Str}{df:Bool}
def Hx (g:Good G n sc N df X):ee X (.builtin "sum") (rQ X.K (Ev.bZ .sum)):=by
 intro j s σ H xs us Q I r q;obtain⟨Z,h,B,d,h',l,o,e,q⟩:=q
 match B,e with
 |[.ref m],e=>
  obtain⟨e,rfl⟩:=Ev.aE e;simp only[JM,R4]at e;obtain⟨c,⟨ds,C,F⟩,rfl⟩:=e;simp only[aB,RV]at o;obtain⟨v,w,rfl,⟨p,rfl,z⟩,rfl⟩:=o;obtain⟨u,rfl,J⟩:=vals1 r;cases J;obtain⟨p',vs,x,L,w⟩:=l.read C;rw[z]at x;cases x;obtain⟨f,pv,M,_⟩:=I.list L;have y:=pC F w pv;obtain⟨i,a⟩:=(y.allInts).items;have P:s.heap.IsList p (intItems i):=by rw[<-a];exact M.isList
  refine sum_intListG (I.ok.hd g.calm) P λW tk t' Y=>?_;have b:preSum (numAt i) i.size=c.sum:=by
   have A:numsOf f.toArray.toList=c:=by rw[show f.toArray.toList=f from rfl];exact y.numsOf
   rw[a,nums_intItems]at A;rw[preSum_eq,SE (by simp),A]
  rw[b];exact⟨.int c.sum,H,I.kept Y,⟨_,rfl⟩,q.here rfl l⟩
def Hy:ee X (.builtin "len") (rQ X.K (Ev.bZ .len)):=by
 intro a s σ H xs us Q I r q;obtain⟨B,h,i,d,C,c,b,e,q⟩:=q
 match i,e with
 |[.str l],e=>
  delta Ev.bZ at e;dsimp only at e
  split at e
  .cases e;simp only[aB,RV]at b;obtain⟨v,w,rfl,⟨rfl,j⟩,rfl⟩:=b;refine rK a s σ H _ us Q I r ⟨_,rfl,by rw[cE];exact j,?_⟩;rw[cE];exact q.here rfl c
  .cases e
 |[.tup o],e=>
  cases e;simp only[aB,RV]at b;obtain⟨v,w,rfl,⟨p,f,rfl,z,x⟩,rfl⟩:=b;refine lq a s σ H _ us Q I r ⟨p,f,rfl,.inr z,?_⟩;rw[x.length];exact q.here rfl c
 |[.ref m],e=>
  obtain⟨e,rfl⟩:=Ev.aE e;simp only[JM]at e;obtain⟨o,y,rfl⟩:=e;simp only[aB,RV]at b;obtain⟨v,w,rfl,⟨p,rfl,z⟩,rfl⟩:=b;obtain⟨F,f,g,A,w⟩:=c.read y;rw[z]at g;cases g;refine lq a s σ H _ us Q I r ⟨p,f,rfl,.inl A,?_⟩;rw[w.length];exact q.here rfl c
def Hz (g:Good G n sc N df X):ee X (.builtin "min") (rQ X.K (Ev.bZ .min)):=by
 intro a s σ H xs us Q I r q;obtain⟨l,h,c,d,o,f,b,e,q⟩:=q
 match c,e with
 |[.int i,.int j],e=>
  cases e;simp only[aB,RV]at b;obtain⟨v,w,rfl,rfl,p,x,rfl,rfl,rfl⟩:=b;exact xU g.calm a s σ H _ us Q I r ⟨i,j,rfl,q.here rfl f⟩
def yE:xZ X "list.append" (yf X.K (Ev.fh .append)):=by
 intro c s σ H x xs v us Q I rx rs q;obtain⟨r,h,a,F,d,M,i,J,j,e,q⟩:=q;cases a with
 |ref m=>
  match F,e with
  |[b],e=>
   delta Ev.fh at e;dsimp only at e
   split at e
   .rename_i P l;split at e
    .rename_i o;cases e;rw[fK]at o;obtain⟨p,rfl,z⟩:=J.shape;simp only[aB]at j;obtain⟨y,w,rfl,L,rfl⟩:=j;obtain⟨W,A,B,g,C⟩:=i.ob _ _ l;rw[z]at A;cases A;refine qq c s σ H _ _ v us Q I rx rs ⟨p,B,y,rfl,rfl,g,by rw[C.length];exact o,?_⟩;have f:=Fm.write (K:=X.K) (ws:=B++[y]) g (RX z);exact q _ _ r rfl (i.write l z g (C.append (.cons L .nil))) f
    .cases e
   .cases e
  |[],e=>cases e
  |_ :: _ :: _,e=>cases e
 |_=>cases e
def yF:xZ X "list.extend" (yf X.K (Ev.fh .extend)):=by
 intro b s σ H x xs v us Q I rx rs q;obtain⟨r,h,a,J,d,h',c,L,i,e,q⟩:=q;cases a with
 |ref m=>
  match J,e with
  |[.ref k],e=>
   delta Ev.fh at e;dsimp only at e
   split at e
   .rename_i ds es j M;split at e
    .rename_i l;cases e;rw[fK]at l;obtain⟨p,rfl,z⟩:=L.shape;simp only[aB,RV]at i;obtain⟨y,w,rfl,⟨P,rfl,W⟩,rfl⟩:=i;obtain⟨p',o,A,g,B⟩:=c.ob _ _ j;rw[z]at o;cases o;obtain⟨Y,C,ws,Z,F⟩:=c.ob _ _ M;rw[W]at C;cases C;refine x6 b s σ H _ _ v us Q I rx rs ⟨p,P,A,ws,rfl,rfl,g,Z,by rw[B.length,F.length];exact l,?_⟩;have f:=Fm.write (K:=X.K) (ws:=A++ws) g (RX z);exact q _ _ r rfl (c.write j z g (B.append F)) f
    .cases e
   .cases e
 |_=>cases e
theorem nD(sep:List Nat):∀ss:List (List Nat),Str.join (aC sep) (ss.map aC)=aC (Ev.bW sep ss)
 |[]=>rfl
 |[s]=>rfl
 |s :: t :: r=>by
  have a:=nD sep (t :: r);show aC s++aC sep++Str.join (aC sep) ((t :: r).map aC)=_;rw[a,pB,pB];rfl
def join_eq(sep:List Nat)(ss:List (List Nat)):Txt.join (aC sep) (ss.map aC)=aC (Ev.bW sep ss):=by
 rw[<-nD];exact PySem.StrLaws.glued_eq_join _ _
def D4:xZ X "str.join" (yf X.K (Ev.fh .join)):=by
 intro i s σ H x xs v us Q I rx rs q;obtain⟨r,h,a,A,d,Y,j,o,p,e,q⟩:=q;cases a with
 |str b=>
  match A,e with
  |[.ref k],e=>
   delta Ev.fh at e;dsimp only at e
   split at e
   .rename_i g f;split at e
    .rename_i B;cases e;simp only[R4]at f;obtain⟨Z,f,C⟩:=f;simp only[RV]at o;obtain⟨rfl,hl⟩:=o;obtain⟨t,rfl⟩:=rx;simp only[aB,RV]at p;obtain⟨y,w,rfl,⟨p2,rfl,F⟩,rfl⟩:=p;obtain⟨u,rfl,J⟩:=vals1 rs;cases J;obtain⟨p',vs,z,L,w⟩:=j.read f;rw[F]at z;cases z;obtain⟨zs,pv,M,_⟩:=I.list L;obtain⟨P,g2⟩:=uU C w pv;have c:((g.map aC).map (·.length)).sum+(g.map aC).length*(aC b).length<=16777216:=by
      rw[Ud,Se,cE];have:(λx:Str=>x.length) ∘ aC=λl:List Nat=>l.length:=funext λl=>cE l;rw[this];exact B
     refine join_list M.isList P c λt' k'=>?_;rw[join_eq];refine⟨.str _,H,I.tok _,⟨_,rfl⟩,q.here ⟨rfl,?_⟩ j⟩;have W:=PySem.StrLaws.join_length_le (aC b) (g.map aC);rw[nD,cE]at W;have:sizeLine=16777216:=Td;omega
    .cases e
   .cases e
 |_=>cases e
end
section
variable{X:Cx}{G:Tb}{n:Nat}{sc:Scope}{N:List Str}{df:Bool}{m:List Nat}{a b c:E}{xa:Expr}{pos:Pos}
noncomputable def lG:TY->String
 |.int=>"int" |.bool=>"bool" |.str=>"str" |.tuple=>"tuple" |.list=>"list"
def Oi (K:PySem.W.Frag) (t:TY):PySem.W.kitOne K (.type "NoneType") (.type (lG t))=some false/\PySem.W.kitOne K (.type "bool") (.type (lG t))=some (Ev.cG [] (.bl true) t)/\PySem.W.kitOne K (.type "int") (.type (lG t))=some (Ev.cG [] (.int 0) t)/\
  PySem.W.kitOne K (.type "str") (.type (lG t))=some (Ev.cG [] (.str []) t)/\PySem.W.kitOne K (.type "tuple") (.type (lG t))=some (Ev.cG [] (.tup []) t)/\PySem.W.kitOne K (.type "list") (.type (lG t))=some (match t with|.list=>true|_=>false):=by
 cases t<;>refine⟨?_,?_,?_,?_,?_,?_⟩<;>kernel_rfl
def LD(h:Hh)(i:Nat):Prop:=(Ev.aL h i).isSome=true
 \/False
 \/(∃kvs,h[i]?=some (O.bM kvs))
def Oj (K:PySem.W.Frag) (t:TY):PySem.W.kitOne K (.type "dict") (.type (lG t))=some false:=by cases t<;>kernel_rfl
def D5{pins:List (Addr×Obj)}{σ:L2.St}{H:Hp}{s:Shared}{r:List Addr}{h:Hh}(I:Inv X pins σ H s)(hr:HR X.K H r h){d:D}{x:V}{u:Value}(v1:RV X.K H r d x)(rx:RelV x u)(hd:∀i,d=.ref i->LD h i)(t:TY){Q:Value->Shared->Prop}{E:Value->Shared->Prop}(q:∀tk,Q (.bool (Ev.cG h d t)) { s with toks:=tk }) :
  wpAny (model X.prog X.w) X.A (call (.builtin "isinstance") [u,.type (lG t)]) Q E s:=by
 obtain⟨l,y,B,C,F,J⟩:=Oi X.K t;have s1:=v1.shape;cases d with
 |aY=>simp only[bP]at s1;subst s1;exact ir I rx .aY l (by simpa[Ev.cG]using q)
 |bl b=>simp only[bP]at s1;subst s1;exact ir I rx (.bl _) y (by cases t<;>simpa[Ev.cG]using q)
 |int b=>simp only[bP]at s1;subst s1;exact ir I rx (.int _) B (by cases t<;>simpa[Ev.cG]using q)
 |str b=>simp only[bP]at s1;subst s1;exact ir I rx (.str _) C (by cases t<;>simpa[Ev.cG]using q)
 |tup L=>
  obtain⟨p,vs,rfl,z,w⟩:=s1;cases rx;obtain⟨M,_,pt,_⟩:=I.tuple z;obtain⟨o,f,g,_⟩:=pt;exact PySem.W.kia_one PySem.W.kitx_tuple I.fT ⟨o,f,g⟩ F (λz=>nomatch z) (by cases t<;>simpa[Ev.cG]using q)
 |ref i=>
  obtain⟨p,rfl,z⟩:=s1;cases rx;rcases hd i rfl with hd|hd
  case inr=>
   rcases hd with hd|hd
   case inr=>
    obtain⟨P,e⟩:=hd;obtain⟨p',j,Y,_⟩:=hr.bM e;rw[z]at j;cases j;have Z:Ev.aL h i=none:=by unfold Ev.aL;rw[e]
    exact ir I (show RelV (.ref p) (.ref p)from rfl) (.dK Y) (Oj X.K t) (by cases t<;>simpa[Ev.cG,Z]using q)
   exact hd.elim
  obtain⟨L,e⟩:=Option.isSome_iff_exists.mp hd;obtain⟨M,pl⟩:=r8 I hr e z;obtain⟨o,f,g,_⟩:=pl.isList;exact PySem.W.kia_one PySem.W.kitx_list I.fT ⟨o,f,g⟩ J (λz=>nomatch z) (by cases t<;>simpa[Ev.cG,e]using q)
def HA {t:TY}{T:Str}{p q:Pos}(ha:JE G n sc N df m a xa) (hT:bootBuiltins T=some (.type (lG t))) (h1:("isinstance" : Str)∈G.bl:=by decide +kernel) (h2:T∈G.bl:=by decide +kernel)
  (jV:sc.names.lookup ("isinstance" : Str)=some .globalImplicit:=by rfl) (PX:sc.names.lookup T=some .globalImplicit:=by rfl) (hn:T≠"__name__" :=by decide) (hd:(T==("__debug__" : Str))=false:=by decide)
  (hst:∀env:Env,starEach [xa,.Name T q] env=(false,eval xa env) :: starEach [.Name T q] env:=by intro _;rfl):JE G n sc N df m (.jt a [t]) (.Call (.Name "isinstance" p) [xa,.Name T q] [] pos):=λX g=>by
 have l:PE X (.Name T q) (tC (.ty (lG t))):=Dk (g.gl PX) (g.bl T h2) hT rfl hn hd;have L:ee X (.builtin "isinstance") (λF H Q=>∃r h d x,HR X.K H r h/\RV X.K H r d x/\F=[x,.ty (lG t)]/\(∀i,d=.ref i->LD h i)/\Q (.bl (Ev.cG h d t)) H):=by
  intro J s σ H F us Q I rv q;obtain⟨r,h,d,x,o,j,rfl,hd,q⟩:=q;obtain⟨u,w,rfl,y,M⟩:=vals2 rv;cases M;exact D5 I o j y hd t λtk=>⟨.bl _,H,I.tok _,rfl,q⟩
 refine PE.of (rG L (g.gl jV) (g.bl _ h1) (by decide +kernel) (dO (ha X g) (dO l gi) (hst _)) (by decide) (by decide) (hst _) rfl) λs H Q q=>?_;obtain⟨r,P,h,d,A,W,o,e,q⟩:=q;simp only[Ev.ev]at e;obtain⟨x,h3,Y,e⟩:=Ev.ah e;cases e;refine⟨r,P,h,x,_,W,o,Y,λv H1 y j f f1=>?_⟩;refine⟨y,_,x,v,f,j,rfl,λi Z=>?_,?_⟩
 .subst Z;simp only[RV]at j;obtain⟨p,_,z⟩:=j;have B:i<A.length:=by rw[<-f.len];exact(List.getElem?_eq_some_iff.mp z).1
  unfold LD Ev.aL;rw[RZ B];cases A[i]with
  |lst ds=>(try intro _);exact .inl rfl
  |bz ds=>(try intro _);exact .inl rfl
  |bM C=>(try intro _);exact .inr (.inr ⟨C,rfl⟩)
 .have:=(q.later f1).here (v:=.bl (Ev.cG A x t)) (by simp[RV]) f;exact this
theorem aB.ofStr{K:PySem.W.Frag}{H:Hp}{r:List Addr}:∀(l:List Nat),aB K H r (l.map λc=>.str [c]) (l.map λc=>.str (aC [c]))
 |[]=>.nil
 |c :: l=>.cons ⟨rfl,by show 1<=sizeLine;decide⟩ (aB.ofStr l)
def wG{x:List Nat}{acc:Array Value}(h:ItemsOf (SignAt (aC x)) acc (aC x).cps.size):Vals (x.map λc=>.str (aC [c])) acc.toList:=by
 obtain⟨o,p⟩:=h;have d:acc.toList.length=x.length:=by simpa[aC]using o
 have q:∀(y:List Nat) (l:List Value) (k:Nat),l.length=y.length->(∀j v,l[j]?=some v->SignAt (aC x) (k+j) v)->(∀j,y[j]?=x[k+j]?)->Vals (y.map λc=>.str (aC [c])) l:=by
  intro y;induction y with
  |nil=>intro l k d _ _;cases l with|nil=>exact .nil|cons _ _=>simp at d
  |cons c y r=>
   intro l k d e i;cases l with
   |nil=>simp at d
   |cons v l=>
    refine .cons ?_ (r l (k+1) (by simpa using d) (λj w z=>?_) λj=>?_)
    .obtain⟨A,u,f,rfl⟩:=e 0 v (by simp);have:=i 0;simp at this;have g:x[k]?=some A:=by simpa[aC]using f
     rw[g]at this;cases this;exact⟨u,rfl⟩
    .have:=e (j+1) w (by simpa using z);rw[show k+1+j=k+(j+1)by omega];exact this
    .have:=i (j+1);simp at this;rw[this]
     congr 1
     omega
 exact q x acc.toList 0 d (λj v e=>by simpa using p j v (by simpa using e)) λj=>by simp
def D6 (g:Good G n sc N df X):ee X (.type "list") (λxs H Q=>∃r h d src x,HR X.K H r h/\RV X.K H r d x/\xs=[x]/\Ev.eK h d=some src/\src.1.length<=sizeLine/\∀vs,aB X.K H r src.1 vs->∀l,H l=none->Q (.ref l) (upd H l (.lst vs))):=by
 intro f s σ H xs us Q I rv q;obtain⟨r,h,d,src,x,J,A,rfl,e,hz,q⟩:=q;cases d with
 |tup L=>
  cases e;obtain⟨p,vs,rfl,z,w⟩:=A.shape;exact lu f s σ H _ us Q I rv ⟨p,vs,rfl,.inr z,q vs w⟩
 |ref i=>
  simp only[Ev.eK,JM]at e;obtain⟨L,M,rfl⟩:=e;obtain⟨p,rfl,z⟩:=A.shape;obtain⟨p',vs,C,P,w⟩:=J.read M;rw[z]at C;cases C;exact lu f s σ H _ us Q I rv ⟨p,vs,rfl,.inl P,q vs w⟩
 |str l=>
  cases e;simp only[RV]at A;obtain⟨rfl,F⟩:=A;obtain⟨u,rfl,W⟩:=vals1 rv;obtain⟨t,rfl⟩:=W;refine call_list_str (I.ok.hd g.calm) (aC l) t (λh' Y j Z hk B y=>?_) (by simpa[aC]using F);refine⟨.ref s.heap.objs.size,_,I.laid (t':=Y) (o:=.lst (l.map λc=>.str (aC [c]))) hk (oM _) ?_,rfl,q _ (aB.ofStr l) _ (I.hok.fresh (oM _))⟩;exact⟨by simpa using F,j.toList,Z,wG y,by simpa using B⟩
 |_=>cases e
def HB {p:Pos}(ha:JE G n sc N df m a xa) (h1:("list" : Str)∈G.bl:=by decide +kernel) (jV:sc.names.lookup ("list" : Str)=some .globalImplicit:=by rfl)
  (hst:∀env:Env,starEach [xa] env=[(false,eval xa env)]:=by intro _;rfl):JE G n sc N df m (.dJ (.seq a)) (.Call (.Name "list" p) [xa] [] pos):=λX g=>by
 refine PE.of (kZ (D6 g) (g.gl jV) (g.bl _ h1) (by decide +kernel) (dO (ha X g) gi (hst _)) (by decide) (by decide) (hst _) rfl) λs H Q q=>?_;obtain⟨r,j,h,d,J,o,y,e,q⟩:=q;simp only[Ev.ev,Ev.bJ]at e;obtain⟨src,K,f,e⟩:=Ev.ah e;obtain⟨x,L,A,f⟩:=Ev.ah f;obtain⟨f,rfl⟩:=Ev.aE f;refine⟨r,j,h,x,_,o,y,A,λv H1 B C i f1=>?_⟩;have F:src.1.length<=sizeLine:=by
  unfold Ev.alloc at e;split at e
  .rename_i z;rw[<-fK];exact z
  .cases e
 exact⟨B,_,x,src,v,i,C,rfl,f,F,λM w l I=>((q.later f1).lst e w i).2 l I⟩
def wH{lo:Int}{acc:Array Value}{k:Nat}(h:ItemsOf (λi v=>∃t,v=Value.int (lo+i*1) t) acc k):Vals ((List.range k).map λi=>V.int (lo+(i:Nat))) acc.toList:=by
 obtain⟨f,g⟩:=h;subst f;have o:∀(l:List Value) (b:Nat),(∀j v,l[j]?=some v->∃t,v=Value.int (lo+((b+j:Nat):Int)) t)->Vals ((List.range' b l.length).map λi=>V.int (lo+(i:Nat))) l:=by
  intro l;induction l with
  |nil=>intro b _;exact .nil
  |cons v l p=>
   intro b d;rw[R3,List.range'_succ];refine .cons (by obtain⟨t,e⟩:=d 0 v (by simp);subst e;exact⟨t,by simp⟩) (p (b+1) λj w q=>?_);have:=d (j+1) w (by simpa using q);rw[show b+1+j=b+(j+1)by omega];exact this
 have:=o acc.toList 0 λj v d=>by
  obtain⟨t,e⟩:=g j v (by simpa using d);exact⟨t,by simpa using e⟩
 rw[List.range_eq_range'];simpa using this
def aB.ofRange{K:PySem.W.Frag}{H:Hp}{r:List Addr}(lo:Int)(k:Nat):aB K H r (Ev.range lo k) ((List.range k).map λi=>V.int (lo+(i:Nat))):=by
 unfold Ev.range;generalize List.range k=l
 induction l with
 |nil=>exact .nil
 |cons i l d=>exact .cons rfl d
end
section
variable{X:Cx}{G:Tb}{n:Nat}{sc:Scope}{N:List Str}{df:Bool}{m:List Nat}{a b c:E}{xa:Expr}{pos:Pos}
def yG(n:Nat):Builtin.Slice.sliceAdjust none none (-1) (n:Int)=((n:Int) - 1,-1):=by
 unfold Builtin.Slice.sliceAdjust;simp
def yH(n:Nat):Builtin.Slice.slicePlaces ((n:Int) - 1) (-1) (-1)=n:=by
 unfold Builtin.Slice.slicePlaces;have d:¬ ((-1:Int) > 0):=by omega
 simp only[d,SK];have e:(- -1:Int)=1:=by omega
 rw[e];simp only[Int.ediv_one];split<;>omega
def nV{prog:Program}{w:World}{A:Around}{E:Value->Shared->Prop}{s:Shared}{sl:Addr}{vk:Value}{n:Nat}{Q:Int×Int×Nat->Shared->Prop}(hs:s.heap.IsSliceOf sl .none .none vk)(pk:IsPart vk (some (-1)))
  (h:Q ((n:Int) - 1,-1,n) s):wpAny (model prog w) A (Builtin.Slice.sliceApplied (.ref sl) (pure (n:Int))) Q E s:=by
 obtain⟨g,d,f,e⟩:=id hs;unfold Builtin.Slice.sliceApplied Builtin.Slice.sliceFields;refine fB (fB (Tc d e (x:=.none) rfl (fB (Tc d e (x:=.none) rfl (fB (Tc d e (x:=vk) rfl (RW ?_)))))));refine fB (HT.gj pk ?_);show wpAny _ _ (if ((-1:Int)==0)=true then _ else _) _ _ s;rw[R0 (by decide)];refine fB (HT.gj .none (fB (HT.gj .none (fB (RW ?_)))));show wpAny _ _ (match Builtin.Slice.sliceAdjust none none (-1) (n:Int)with | (lo,hi)=>pure (lo,(-1:Int),Builtin.Slice.slicePlaces lo hi (-1))) _ _ s;rw[yG n];show wpAny _ _ (pure ((n:Int) - 1,(-1:Int),Builtin.Slice.slicePlaces ((n:Int) - 1) (-1) (-1))) _ _ s;rw[yH];exact RW h
def D7(xs:Array Value):((List.range xs.size).filterMap λ(m:Nat)=>xs[((xs.size:Int) - 1+(m:Int)*(-1)).toNat]?).toArray=xs.toList.reverse.toArray:=by
 have e:(List.range xs.size).filterMap (λ(m:Nat)=>xs[((xs.size:Int) - 1+(m:Int)*(-1)).toNat]?)=((List.range xs.size).map (λk=>xs.size - 1 - k)).filterMap (xs[·]?):=by
  rw[List.filterMap_map];have g:∀l:List Nat,(∀k∈l,k<xs.size)->l.filterMap (λ(m:Nat)=>xs[((xs.size:Int) - 1+(m:Int)*(-1)).toNat]?)=l.filterMap ((xs[·]?) ∘ λk=>xs.size - 1 - k):=by
   intro l d;induction l with
   |nil=>rfl
   |cons k l h=>
    have f:=d k (by simp);have i:((xs.size:Int) - 1+(k:Int)*(-1)).toNat=xs.size - 1 - k:=by omega
    rw[SH,SH,i,h λj o=>d j (by simp[o])];rfl
  exact g _ λk f=>List.mem_range.mp f
 rw[e,PySem.W.krv_range,List.filterMap_reverse,PySem.W.krv_all]
def wI{prog:Program}{w:World}{A:Around}{E:Value->Shared->Prop}{s:Shared}{t sl:Addr}{items:Array Value}{vk:Value}{Q:Value->Shared->Prop}(ht:IsTup s.heap t items)(hs:s.heap.IsSliceOf sl .none .none vk)(pk:IsPart vk (some (-1)))
  (h:Q (.ref s.heap.objs.size) { s with heap:=s.heap.push { cls:=.type "tuple",data:=.seq items.toList.reverse.toArray }})
  (hsz:items.size<=sizeLine):wpAny (model prog w) A (getItem (.ref t) (.ref sl)) Q E s:=by
 have d:sizeOk (.seq items.toList.reverse.toArray):=by
  show items.toList.reverse.toArray.size<=sizeLine;rw[RY,List.length_reverse,TJ];exact hsz
 obtain⟨i,e,f,j⟩:=id hs;have l:s.TypeIs (.ref sl) "slice" :=⟨i,e,f⟩
 unfold getItem;try with_reducible refine UL ?_
 first|refine fB (RW ?_)|skip
 refine fB (wpAny_sequenceKey ht.typeIs (by decide) ?_);refine fB (TL (name:=Str.ofString "__getitem__") ht.typeIs SY
  (S7 SY ht.typeIs entry_tuple_getitem ?_ (args_tuple_getitem _ _)))
 show wpAny _ _ (Builtin.Tuple.tupleItemsOf (.ref t) >>= _) _ _ s;refine fB (tupleItemsOf_ ht ?_);refine fB (UW l ?_);rw[gQ (by decide)];refine fB (nV hs pk ?_);have g:¬ (((items.size:Int) - 1==0&&(-1:Int)==1&&items.size==items.size)=true):=by simp
 show wpAny _ _ (if ((items.size:Int) - 1==0&&(-1:Int)==1&&items.size==items.size)=true then _ else _) _ _ s;rw[R0 g,D7];first
  |exact fB (m:=Builtin.Tuple.tupleExact _) (SM (RW ⟨_,rfl,RW h⟩) d)
  |exact fB (m:=Builtin.Tuple.tupleExact _) (SM (fB (RW (RW ⟨_,rfl,RW h⟩))) d)
  |exact fB (fB (m:=Builtin.Tuple.tupleExact _) (SM (RW (RW ⟨_,rfl,RW h⟩)) d))
  |exact fB (fB (m:=Builtin.Tuple.tupleExact _) (SM (RW ⟨_,rfl,RW h⟩) d))
def HC(l:List Nat):((Builtin.Str.strSliceIndices none none (-1) (aC l).length).filterMap ((aC l).cps[·]?)).toArray=l.reverse.toArray:=by
 have e:Builtin.Str.strSliceIndices none none (-1) (aC l).length=sliceRange (((aC l).length:Int) - 1) (-1) (-1):=by
  unfold Builtin.Str.strSliceIndices;simp
 rw[e,PySem.W.krv_sliceRange,PySem.W.krv_range,List.filterMap_reverse];have:=PySem.W.krv_all (aC l).cps;rw[show(aC l).length=(aC l).cps.size from rfl,this];rfl
theorem Vals.reverse{vs:List V}{us:List Value}(w:Vals vs us):Vals vs.reverse us.reverse:=by
 induction w with
 |nil=>exact .nil
 |cons a _ d=>rw[R6,R6];exact d.append (.cons a .nil)
def LA{p1 p2 p3:Pos}{j}(ha:JE G n sc N df m a xa):JE G n sc N df m (.rv a) (.Subscript xa (.Slice none none (some (.UnaryOp .USub (.Constant (.int 1) j p1) p2)) p3) pos):=λX g=>by
 intro f s σ H Q I q;obtain⟨r,fr,h,d,h',sr,hr,e,q⟩:=q;simp only[Ev.ev]at e;obtain⟨x,P,e1,e⟩:=Ev.ah e;refine Subscript_ (bB (ha X g f s σ H _ I ⟨r,fr,h,x,P,sr,hr,e1,λv H1 B v1 C f1=>(show(λ(v:V) (H1:Hp)=>∃B,RV X.K H1 B x v/\HR X.K H1 B P/\Fm X.K r B H H1) v H1 from ⟨B,v1,C,f1⟩)⟩) λv s1 ⟨x1,H1,I1,rx,B,v1,C,f1⟩=>?_);refine wpAny_Slice ?_;rw[evalPart_none];refine RW (RW ?_);have hm1:PE X (.UnaryOp .USub (.Constant (.int 1) j p1) p2) (tJ X.K m (Ev.run G.F G.w n) (.neg (.c (.int 1)))):=yh yg X g;refine bB (uD hm1 f s1 σ H1 (λo H2=>o=some (-1)/\∃L,RV X.K H2 L x x1/\HR X.K H2 L P/\Fm X.K r L H H2) I1 ⟨B,fr,P,.int (-1),P,sr.mono f1,C,by simp[Ev.ev],λv' H2 L M y f2=>⟨-1,M,rfl,L,v1.mono f2,y,f1.trans f2⟩⟩) λJ s2 ⟨o,H2,I2,pk,q2⟩=>?_;obtain⟨rfl,L,M,y,f2⟩:=q2;have I4:Inv X f σ H2 { s2 with heap:=s2.heap.push { cls:=.type "slice",data:=.fields #[.none,.none,J]}}:=I2.kept (t':=s2.toks) λb ob q=>RT _ q;have Y:({ s2 with heap:=s2.heap.push { cls:=.type "slice",data:=.fields #[.none,.none,J]}}:Shared).heap.IsSliceOf s2.heap.objs.size .none .none J:=Heap.IsSliceOf.new s2.heap .none .none J;have key:∃T id,typeLookup (.type T) "__getitem__" = pure (some (.builtin id))/\({ s2 with heap:=s2.heap.push { cls:=.type "slice",data:=.fields #[.none,.none,J]}}:Shared).TypeIs v T/\wpAny (model X.prog X.w) X.A (getItem v (.ref s2.heap.objs.size)) (EP X f σ Q) X.xe { s2 with heap:=s2.heap.push { cls:=.type "slice",data:=.fields #[.none,.none,J]}}:=by
  revert I4 Y
  generalize ({ s2 with heap:=s2.heap.push { cls:=.type "slice",data:=.fields #[.none,.none,J]}}:Shared)=s3
  intro I4 Y;cases x with
  |tup ds=>
   cases e;obtain⟨p,vs,rfl,z,w⟩:=M.shape;cases rx;obtain⟨us,pv,pt,Z⟩:=I4.tuple z;refine⟨"tuple",_,PyProof.Rows.slot_tuple_getitem.lookup,pt.typeIs,?_⟩;refine wI pt Y pk ?_ (by rw[RY,<-pv.length];exact Z);refine⟨.ref s3.heap.objs.size,_,I4.laid (t':=s3.toks) (o:=.tup vs.reverse) (λb ob q=>RT _ q) (oM _) ?_,rfl,(q.later f2).tup w.reverse y (I4.hok.fresh (oM _))⟩;exact⟨by simpa using Z,_,Vals.reverse pv,⟨_,Sb _ rfl,rfl,0,rfl⟩⟩
  |str z=>
   cases e;simp only[RV]at M;obtain⟨rfl,hl⟩:=M;obtain⟨t,rfl⟩:=rx;refine⟨"str",_,PySem.F.slot_str_getitem.lookup,typeIs_str _ _ _,?_⟩;cases pk with
   |int _ tk=>
   obtain⟨os,hos,hcs,hds⟩:=Y;refine wpAny_getItem_str_slice (l:=none) (u:=none) (st:=some (-1,tk)) ⟨os,hos,hcs,hds⟩ rfl ?_;have nU:((slicePicked (aC z) none none (some (-1,tk))).filterMap ((aC z).cps[·]?)).toArray=z.reverse.toArray:=HC z;have hl2:z.reverse.length<=sizeLine:=by rw[List.length_reverse];exact hl
   unfold sliceMade;refine post_val_or_made (λ_=>?_) λt' k=>?_
   .rw[nU];show z.reverse.toArray.size<=sizeLine;simpa using hl
   .have hres:(if (((some (-1,tk):Option (Int×Tok)).map (·.1)).getD 1==1&&(slicePicked (aC z) none none (some (-1,tk))).length==(aC z).length)=true then aC z else (⟨((slicePicked (aC z) none none (some (-1,tk))).filterMap ((aC z).cps[·]?)).toArray⟩:Str))=aC z.reverse:=by
     rw[R0 (by simp),nU];rfl
    rw[hres];exact⟨.str (aC z.reverse),H2,I4.tok _,⟨_,rfl⟩,(q.later f2).here ⟨rfl,hl2⟩ y⟩
  |ref i=>
   simp only[Ev.kO]at e;split at e
   .rename_i ds e2;obtain⟨p,rfl,z⟩:=M.shape;obtain⟨p',vs,z',q1,w⟩:=y.read e2;rw[z]at z';cases z';cases rx;obtain⟨us,pv,pt,Z⟩:=I4.list q1;obtain⟨hz2,q2⟩:=(q.later f2).lst e w.reverse y;refine⟨"list",_,slot_list_getitem.lookup,pt.isList.typeIs,?_⟩;refine wpAny_getItem_list_slice pt.isList Y .none .none pk (by simp) ?_ (by rw[RY,<-pv.length];exact Z);rw[PySem.W.krv_pick];refine⟨.ref s3.heap.objs.size,_,I4.laid (t':=s3.toks) (o:=.lst vs.reverse) (λb ob q=>RT _ q) (oM _) ?_,rfl,q2 _ (I4.hok.fresh (oM _))⟩;exact⟨by simpa using Z,_,0,Vals.reverse pv,Sb _ rfl⟩
   .cases e
  |_=>cases e
 obtain⟨T,id,hT,ht,hg⟩:=key;exact tail_any (ops:=[v,.ref s2.heap.objs.size]) ht hT hg (by with_unfolding_all rfl)
end
section
variable{G:Tb}{n:Nat}{sc:Scope}{N:List Str}{df:Bool}{m:List Nat}{a b c:E}{xa xb:Expr}{pos:Pos}
def AZ (g:Good G n sc N df X):ee X (.type "tuple") (λxs H Q=>∃r h d x d' h',HR X.K H r h/\RV X.K H r d x/\xs=[x]/\Ev.o6 d h=.ok d' h'/\Res X.K r H h' d' Q):=by
 intro f s σ H xs us Q I rv q;obtain⟨r,h,d,x,d',h',j,o,rfl,e,q⟩:=q;cases d with
 |tup B=>
  cases e;have C:=o;obtain⟨p,y,rfl,z,w⟩:=o.shape;exact kM f s σ H _ us Q I rv ⟨p,y,rfl,.inr ⟨z,q.here C j⟩⟩
 |ref i=>
  simp only[Ev.o6]at e;split at e
  .rename_i B F;split at e
   .cases e;obtain⟨p,rfl,z⟩:=o.shape;obtain⟨M,y,A,J,w⟩:=j.read F;rw[z]at A;cases A;exact kM f s σ H _ us Q I rv ⟨p,y,rfl,.inl ⟨J,λl L=>q.tup w j L⟩⟩
   .cases e
  .cases e
 |_=>cases e
def HD {p:Pos}(ha:JE G n sc N df m a xa) (h1:("tuple" : Str)∈G.bl:=by decide +kernel) (jV:sc.names.lookup ("tuple" : Str)=some .globalImplicit:=by rfl)
  (hst:∀env:Env,starEach [xa] env=[(false,eval xa env)]:=by intro _;rfl):JE G n sc N df m (.iw a) (.Call (.Name "tuple" p) [xa] [] pos):=λX g=>by
 refine PE.of (kZ (AZ g) (g.gl jV) (g.bl _ h1) (by decide +kernel) (dO (ha X g) gi (hst _)) (by decide) (by decide) (hst _) rfl) λs H Q q=>?_;obtain⟨r,i,h,d,j,l,o,e,q⟩:=q;simp only[Ev.ev]at e;obtain⟨x,y,z,e⟩:=Ev.ah e;refine⟨r,i,h,x,_,l,o,z,λv H1 A B f f1=>?_⟩;exact⟨A,y,x,v,d,j,f,B,rfl,e,q.later f1⟩
def HE{c:Nat}{st:Stmt}:JS G n sc N df m (.fJ c) st:=λX g=>PS.of Av λQ s H q=>by
 obtain⟨r,d,h,fl,f,i,j,l,e,q⟩:=q;simp only[Ev.iy]at e;cases e
def sf{X:Cx}(g:Good G n sc N df X){pins:List (Addr×Obj)}{σ:L2.St}{H:Hp}{s:Shared}{Q:VK}{lo hi:Int}{t u v:Tok}{tk:Nat}(I:Inv X pins σ H s)(h1:-(2 ^ 62)<=lo)(h2:lo<2 ^ 62)(h3:-(2 ^ 62)<=hi)(h4:hi<2 ^ 62)
  (hl:(hi - lo).toNat<=sizeLine) (q:∀l,H l=none->Q (.ref l) (upd H l (.lst ((List.range (hi - lo).toNat).map λi=>V.int (lo+(i:Nat)))))) :
  wpAny (model X.prog X.w) X.A (call (.type "list") [.ref s.heap.objs.size]) (EP X pins σ Q) X.xe { s with heap:=s.heap.push { cls:=.type "range",data:=.fields #[.int lo t,.int hi u,.int 1 v]},toks:=tk }:=by
 have I1:Inv X pins σ H { s with heap:=s.heap.push { cls:=.type "range",data:=.fields #[.int lo t,.int hi u,.int 1 v]},toks:=tk }:=I.kept λb o e=>RT _ e;have p:Builtin.Range.rangeSize lo hi 1=(((hi - lo).toNat:Nat):Int):=by rw[rangeSize_one];split<;>omega
 refine call_list_range (n:=(hi - lo).toNat) (I.ok.hd g.calm) (IsRange.new ..) (small_one h1 h2 h3 h4) p (by rw[Td]at hl;exact hl) λy h d r x j f=>?_;refine⟨.ref _,_,I1.laid (t':=h) (o:=.lst ((List.range (hi - lo).toNat).map λi=>V.int (lo+(i:Nat)))) x (oM _) ?_,rfl,q _ (I1.hok.fresh (oM _))⟩;exact⟨by simpa using hl,d.toList,r,wH f,by simpa using j⟩
def A1 {e1 e2:E}{p p2 pos2:Pos}(hs:JA G n sc N df m (.cons e1 (.cons e2 .nil)) [xa,xb]) (h1:("list" : Str)∈G.bl:=by decide +kernel) (jV:sc.names.lookup ("list" : Str)=some .globalImplicit:=by rfl)
  (hg:sc.names.lookup ("range" : Str)=some .globalImplicit:=by rfl) (hb:("range" : Str)∈G.bl:=by decide +kernel)
  (hst:∀env:Env,starEach [xa,xb] env=[(false,eval xa env),(false,eval xb env)]:=by intro _;rfl) (iH:∀env:Env,starEach [xb] env=[(false,eval xb env)]:=by intro _;rfl)
  (lH:∀env:Env,starEach [Expr.Call (.Name "range" p2) [xa,xb] [] pos2] env=[(false,eval (Expr.Call (.Name "range" p2) [xa,xb] [] pos2) env)]:=by intro _;rfl) :
  JE G n sc N df m (.dJ (.eS (.cons e1 (.cons e2 .nil)))) (.Call (.Name "list" p) [.Call (.Name "range" p2) [xa,xb] [] pos2] [] pos):=λX g=>by
 intro x s σ H Q I q;obtain⟨r,M,h,d,h',P,W,e,q⟩:=q;simp only[Ev.ev,Ev.bJ]at e;replace e:=Ev.ah e;obtain⟨src,J,e1,e⟩:=e;replace e1:=Ev.ah e1;obtain⟨L,h4,e2,e1⟩:=e1;replace e1:=Ev.aE e1;obtain⟨e1,Y⟩:=e1;subst Y;refine TV (eg I (g.gl jV) (g.bl _ h1) (show bootBuiltins ("list" : Str)=some (.type "list")by decide +kernel) ?_ (by decide) (by decide));refine Th ?_ (lH _) rfl;rw[lH];show wpAny _ _ (spliced ((false,eval (Expr.Call (.Name "range" p2) [xa,xb] [] pos2) X.env) :: backTo pos [])) _ _ s;refine Uj ?_;refine Call_ (eg I (g.gl hg) (g.bl _ hb) boot_range (Th (bB ((hs X g) pos2 x s σ H (λC H1=>∃o,aB X.K H1 o L C/\HR X.K H1 o J/\Fm X.K r o H H1) I ⟨r,M,h,L,J,P,W,e2,λC H1 o y f f1=>⟨o,y,f,f1⟩⟩) λus s1 z=>?_) (by rw[hst,iH]) (by rw[iH];rfl)))
 .obtain⟨C,H1,I1,rv,o,y,f,f1⟩:=z;unfold Ev.dB at e1;split at e1
  .exfalso;simp only[Ev.bI]at e2;obtain⟨d,_,_,e2⟩:=Ev.ah e2;obtain⟨d2,_,A,e2⟩:=Ev.ah e2;obtain⟨d3,_,e4,A⟩:=Ev.ah A;simp only[Ev.ak]at A;cases A;cases e2
  .rename_i i j;split at e1
   .rename_i B;cases e1;simp only[aB,RV]at y;obtain⟨v,w,rfl,rfl,v',w',rfl,rfl,rfl⟩:=y;cases rv with
    |cons Z F=>
    cases F with
    |cons F rc=>
    cases rc;obtain⟨t,rfl⟩:=Z;obtain⟨u,rfl⟩:=F;refine call_range_2 ?_;refine UQ ?_;have hz:(j - i).toNat<=sizeLine:=by
     unfold Ev.alloc at e;split at e
     .rename_i z;rw[<-fK];simpa[Ev.range]using z
     .cases e
    refine sf g I1 B.1 B.2.1 B.2.2.1 B.2.2.2 hz λl hl=>?_;exact((q.later f1).lst e (aB.ofRange i (j - i).toNat) f).2 l hl
   .cases e1
  .cases e1
def A2 {e1:E}{p p2 pos2:Pos}(hs:JA G n sc N df m (.cons e1 .nil) [xa]) (h1:("list" : Str)∈G.bl:=by decide +kernel) (jV:sc.names.lookup ("list" : Str)=some .globalImplicit:=by rfl)
  (hg:sc.names.lookup ("range" : Str)=some .globalImplicit:=by rfl) (hb:("range" : Str)∈G.bl:=by decide +kernel)
  (hst:∀env:Env,starEach [xa] env=[(false,eval xa env)]:=by intro _;rfl)
  (lH:∀env:Env,starEach [Expr.Call (.Name "range" p2) [xa] [] pos2] env=[(false,eval (Expr.Call (.Name "range" p2) [xa] [] pos2) env)]:=by intro _;rfl) :
  JE G n sc N df m (.dJ (.eS (.cons e1 .nil))) (.Call (.Name "list" p) [.Call (.Name "range" p2) [xa] [] pos2] [] pos):=λX g=>by
 intro x s σ H Q I q;obtain⟨r,J,h,d,h',L,M,e,q⟩:=q;simp only[Ev.ev,Ev.bJ]at e;replace e:=Ev.ah e;obtain⟨src,B,e1,e⟩:=e;replace e1:=Ev.ah e1;obtain⟨C,h4,i,e1⟩:=e1;replace e1:=Ev.aE e1;obtain⟨e1,P⟩:=e1;subst P;refine TV (eg I (g.gl jV) (g.bl _ h1) (show bootBuiltins ("list" : Str)=some (.type "list")by decide +kernel) ?_ (by decide) (by decide));refine Th ?_ (lH _) rfl;rw[lH];show wpAny _ _ (spliced ((false,eval (Expr.Call (.Name "range" p2) [xa] [] pos2) X.env) :: backTo pos [])) _ _ s;refine Uj ?_;refine Call_ (eg I (g.gl hg) (g.bl _ hb) boot_range (Th (bB ((hs X g) pos2 x s σ H (λA H1=>∃o,aB X.K H1 o C A/\HR X.K H1 o B/\Fm X.K r o H H1) I ⟨r,J,h,C,B,L,M,i,λA H1 o y f f1=>⟨o,y,f,f1⟩⟩) λus s1 z=>?_) (hst _) rfl));obtain⟨A,H1,I1,rv,o,y,f,f1⟩:=z;unfold Ev.dB at e1;split at e1
 .rename_i j;split at e1
  .rename_i F;cases e1;simp only[aB,RV]at y;obtain⟨v,w,rfl,rfl,rfl⟩:=y;cases rv with
   |cons W Y=>
   cases Y;obtain⟨t,rfl⟩:=W;refine call_range_1 ?_;refine UQ ?_;have Z:(j - 0).toNat<=sizeLine:=by
    unfold Ev.alloc at e;split at e
    .rename_i z;rw[<-fK];simpa[Ev.range]using z
    .cases e
   refine sf g I1 (by decide) (by decide) F.1 F.2 Z λl hl=>?_;have:=((q.later f1).lst e (aB.ofRange 0 j.toNat) f).2 l hl;simpa using this
  .cases e1
 .exfalso;simp only[Ev.bI]at i;obtain⟨d,_,_,i⟩:=Ev.ah i;simp only[Ev.ak]at i;cases i
 .cases e1
end
def iW{X:Cx}{pins:List (Addr×Obj)}{σ:L2.St}{H:Hp}{s:Shared}{h':Heap}{t':Nat}{ch:List Addr}(I:Inv X pins σ H s)(k:∀b o,b∉ch->s.heap.get? b=some o->h'.get? b=some o)(hf:∀b∈ch,eV X pins H b):Inv X pins σ H { s with heap:=h',toks:=t' }:=by
 have d:∀b u,H b=some u->b∉ch:=λb u e z=>by rw[(hf b z).1]at e;cases e
 refine I.step (g':=s.gens) (d':=s.drawn) (ch:=ch) (λb f=>?_) (λb o _ _ a e _=>k b o a e) (λb o _ _ a e _=>⟨o.slots,k b o a e⟩) (λ_ _ _ _ n=>n)
  (λb o a e=>⟨o,k b o a e⟩) (λ_ _ e=>e) (λ_ _ _ e=>e) (λb l e=>⟨#[],by rw[e];simp⟩) (λm g=>?_) (λb u e=>?_) I.bare
 .obtain⟨f0,f1,f2,f3,f4,f5⟩:=hf b f;exact⟨f3,f1,f4,f5⟩
 .obtain⟨o,h,i,j,r⟩:=g;exact⟨o,h,i,k _ o (λz=>(hf _ z).2.1 rfl) j,r⟩
 .refine(I.hok b u e).stay (λc v a q=>k c v ?_ q) (λ_ q=>q) λ_ _ q=>q;rcases a with z|z
  .rw[z];exact d b u e
  .exact d c _ z
noncomputable def MS(K:PySem.W.Frag)(a b:Addr):L2.It:=
  ⟨λi H=>∃xs ys x y,dm K H a xs/\dm K H b ys/\xs[i]?=some x/\ys[i]?=some y,
   λi H x H'=>∃p u v,H p=none/\x=.ref p/\H'=upd H p (.tup [u,v])/\(∀xs,dm K H a xs->xs[i]?=some u)/\∀ys,dm K H b ys->ys[i]?=some v,
   λi H=>∃xs ys,dm K H a xs/\dm K H b ys/\(xs.length<=i\/ys.length<=i)⟩
abbrev Zo(h:Heap)(z TI TO:Addr)(f0:Value)(b:Bool):Prop:=
 h.get? z=some { cls:=.type "zip",dict:=none,data:=.fields #[f0,.bool b,.bool false,.ref TI,.ref TO],slots:=#[]}
def Zf(f0:Value):Prop:=f0=.none\/∃T:Addr,f0=rawInt (T:Int)
section
variable{prog:Program}{w:World}{A:Around}{E:Value->Shared->Prop}{s:Shared}
def mJ{z TI TO:Addr}{f0:Value}{b:Bool}{Q:Bool->Shared->Prop}(hz:Zo s.heap z TI TO f0 b)(hf:Zf f0)
  (q1:Q true s) (q2:∀h',Zo h' z TI TO f0 true->Heap.SameBut z s.heap h'->Q false { s with heap:=h' }) :
  wpAny (model prog w) A (Builtin.SmallTypes.ownedTupleIsFree (.ref z)) Q E s:=by
 unfold Builtin.SmallTypes.ownedTupleIsFree;refine fB (Tc hz rfl (x:=f0) rfl ?_);rcases hf with rfl|⟨T,rfl⟩
 .exact RW q1
 .show wpAny _ _ (loadIfAlive _ >>= _) _ _ _;refine fB (show wpAny _ _ (loadIfAlive _) _ _ _ from λ_ _ _=>(?_:wpAny _ _ (if (Option.isNone (s.heap.get? ((T:Int).toNat)))=true then _ else _) Q E s));cases s.heap.get? ((T:Int).toNat)with
  |none=>exact RW q1
  |some o=>
   simp only[Option.isNone_some,Si,SK];refine fB (Tc hz rfl (x:=.bool b) rfl ?_);cases b with
   |true=>
    rw[R0 (show ¬ ((Value.bool true != Value.bool true)=true)from Tg)];exact RW (q2 _ hz (Heap.SameBut.refl _ _))
   |false=>
    rw[gQ (show(Value.bool false != Value.bool true)=true from rfl)];exact fB (wpAny_setField_rec hz (by simp) λh' a c=>RW (q2 h' a c))
def D8{z TI TO i1 i2 l1 l2:Addr}{k1 k2:Nat}{xs ys:Array Value}{x y a b f0:Value}{f1:Bool}{Q:Value->Shared->Prop}(D:ZipApart z TI TO i1 i2 l1 l2)(hz:Zo s.heap z TI TO f0 f1)(hf:Zf f0)
  (hTI:IsPair s.heap TI (.ref i1) (.ref i2)) (hTO:IsPair s.heap TO a b)
  (h1:s.heap.IsListIter i1 l1 k1) (h2:s.heap.IsListIter i2 l2 k2) (hl1:s.heap.IsList l1 xs) (hl2:s.heap.IsList l2 ys) (hx:xs[k1]?=some x) (hy:ys[k2]?=some y)
  (hQ:∀h' f0 f1,Zo h' z TI TO f0 f1->Zf f0->(∃a b,IsPair h' TO a b)->h'.IsListIter i1 l1 (k1+1)->h'.IsListIter i2 l2 (k2+1)->IsPair h' s.heap.objs.size x y->
   (∀c o,c≠z->c≠TO->c≠i1->c≠i2->s.heap.get? c=some o->h'.get? c=some o)->Q (.ref s.heap.objs.size) { s with heap:=h' }) :
  wpAny (model prog w) A (Builtin.«zip.__next__» ⟨[.ref z],[]⟩) (λfin s'=>∃v,fin=.done (.ret v)/\Q v s') E s:=by
 show wpAny _ _ (field (.ref z) 2 >>= _) _ _ _;refine fB (Tc hz rfl (x:=.bool false) rfl ?_);show wpAny _ _ (field (.ref z) 3 >>= _) _ _ _;refine fB (Tc hz rfl (x:=.ref TI) rfl ?_);refine fB (wpAny_seqItems hTI rfl ?_);show wpAny _ _ (Builtin.SmallTypes.ownedTupleIsFree (.ref z) >>= _) _ _ _;refine fB (mJ hz hf ?_ λg K f=>?_)
 .rw[gQ rfl];refine fB (Vr ?_);refine fB (Tc hz rfl (x:=.ref TO) rfl ?_);refine fB (wpAny_setField_rec hz (by simp) λg1 L r=>?_);replace L:Zo g1 z TI TO .ellipsis f1:=L;refine fB ?_;simp only[List.zipIdx_cons,List.zipIdx_nil,VW,List.forIn_nil];refine fB (fB (wpAny_onRaise ?_));show wpAny _ _ (Builtin.SmallTypes.nextOf (.ref i1) >>= _) _ _ _;refine fB (wpAny_nextOf_list_item (h1.extBut r.extBut D.i1z) (hl1.extBut r.extBut D.l1z) hx λP q h=>RW ?_);have W:IsPair P TO a b:=h.extBut _ _ D.TOi1 (r.extBut _ _ D.TOz hTO);refine fB (wpAny_seqItems W rfl ?_);refine fB (wpAny_updateSeq_pair W λg3 M F=>?_);replace M:IsPair g3 TO x b:=M;refine fB (wpAny_letGo (RW ?_));refine fB (fB (wpAny_onRaise ?_));show wpAny _ _ (Builtin.SmallTypes.nextOf (.ref i2) >>= _) _ _ _;refine fB (wpAny_nextOf_list_item (((h2.extBut r.extBut D.i2z).extBut h.extBut D.i12.symm).extBut F.extBut D.TOi2.symm) (((hl2.extBut r.extBut D.l2z).extBut h.extBut D.l2i1).extBut F.extBut D.l2TO) hy λB i l=>RW ?_);have X:IsPair B TO x b:=l.extBut _ _ D.TOi2 M;refine fB (wpAny_seqItems X rfl ?_);refine fB (wpAny_updateSeq_pair X λd H G=>?_);replace H:IsPair d TO x y:=H;refine fB (wpAny_letGo (RW (RW ?_)));refine fB (wpAny_seqItems H rfl ?_);refine fB (wpAny_newTuple ?_);have sz:d.objs.size=s.heap.objs.size:=by rw[G.1,l.1,F.1,h.1,r.1]
  have Y:Zo d z TI TO .ellipsis f1:=G.extBut _ _ D.TOz.symm (l.extBut _ _ D.i2z.symm (F.extBut _ _ D.TOz.symm (h.extBut _ _ D.i1z.symm L)));have k5:∀c o,c≠z->c≠TO->c≠i1->c≠i2->s.heap.get? c=some o->d.get? c=some o:=λc o j q C i e=>G.extBut _ _ q (l.extBut _ _ i (F.extBut _ _ q (h.extBut _ _ C (r.extBut _ _ j e))));have u1:d.IsListIter i1 l1 (k1+1):=((q.extBut F.extBut D.TOi1.symm).extBut l.extBut D.i12).extBut G.extBut D.TOi1.symm;have u2:d.IsListIter i2 l2 (k2+1):=i.extBut G.extBut D.TOi2.symm;have Z:z<d.objs.size:=R5 Y;show wpAny _ _ (Builtin.SmallTypes.ownedTupleHandOut (.ref z) (.ref d.objs.size) >>= _) _ _ _;refine fB ?_;unfold Builtin.SmallTypes.ownedTupleHandOut;have z6:Zo (d.push { cls:=.type "tuple",data:=.seq #[x,y]}) z TI TO .ellipsis f1:=RT _ Y;refine fB (wpAny_setField_rec z6 (by simp) λg7 N e7=>?_);replace N:Zo g7 z TI TO (rawInt d.objs.size) f1:=N;refine wpAny_setField_rec N (by simp) λI J e8=>?_;replace J:Zo I z TI TO (rawInt d.objs.size) false:=J;have p:∀c o,c≠z->d.get? c=some o->I.get? c=some o:=λc o j e=>e8.extBut _ _ j (e7.extBut _ _ j (RT _ e));have t8:IsPair I d.objs.size x y:=e8.extBut _ _ (VE Z) (e7.extBut _ _ (VE Z) (Sb _ rfl));rw[sz]at J t8;refine RW ⟨_,rfl,?_⟩;show Q (.ref d.objs.size) _;rw[sz];exact hQ I _ _ J (.inr ⟨_,rfl⟩) ⟨_,_,p _ _ D.TOz H⟩ (u1.at λo e=>p _ o D.i1z e) (u2.at λo e=>p _ o D.i2z e) t8 λc o j q C i e=>p c o j (k5 c o j q C i e)
 .rw[R0 Tg];simp only[];refine fB ?_;rw[<-Array.forIn_toList];simp only[VW,List.forIn_nil];refine fB (fB (UL ?_));show wpAny _ _ (Builtin.SmallTypes.nextOf (.ref i1) >>= _) _ _ _;refine fB (wpAny_nextOf_list_item (h1.extBut f.extBut D.i1z) (hl1.extBut f.extBut D.l1z) hx λP q h=>RW (RW ?_));refine fB (fB (UL ?_));show wpAny _ _ (Builtin.SmallTypes.nextOf (.ref i2) >>= _) _ _ _;refine fB (wpAny_nextOf_list_item ((h2.extBut f.extBut D.i2z).extBut h.extBut D.i12.symm) ((hl2.extBut f.extBut D.l2z).extBut h.extBut D.l2i1) hy λB i l=>RW (RW (RW ?_)));show wpAny _ _ (newTuple [x,y] >>= _) _ _ _;refine fB (wpAny_newTuple ?_);have sz:B.objs.size=s.heap.objs.size:=by rw[l.1,h.1,f.1]
  have k4:∀c o,c≠z->c≠i1->c≠i2->s.heap.get? c=some o->B.get? c=some o:=λc o j C i e=>l.extBut _ _ i (h.extBut _ _ C (f.extBut _ _ j e));refine RW ⟨_,rfl,?_⟩;show Q (.ref B.objs.size) _;rw[sz];have p:∀c o,B.get? c=some o->(B.push { cls:=.type "tuple",data:=.seq #[x,y]}).get? c=some o:=λc o e=>RT _ e;refine hQ _ _ _ (p _ _ (l.extBut _ _ D.i2z.symm (h.extBut _ _ D.i1z.symm K))) hf ⟨_,_,p _ _ (k4 _ _ D.TOz D.TOi1 D.TOi2 hTO)⟩ ((q.extBut l.extBut D.i12).at λo e=>p _ o e) (i.at λo e=>p _ o e) ?_ λc o j _ C i e=>p c o (k4 c o j C i e);rw[<-sz];exact Sb _ rfl
def HF{z TI TO i1 i2 l1 l2:Addr}{k1 k2:Nat}{xs ys:Array Value}{a b f0:Value}{f1:Bool}{Q:PySem.Fin->Shared->Prop}(hh:A.handled=none)(D:ZipApart z TI TO i1 i2 l1 l2)(hz:Zo s.heap z TI TO f0 f1)(hf:Zf f0)
  (hTI:IsPair s.heap TI (.ref i1) (.ref i2)) (hTO:IsPair s.heap TO a b)
  (h1:s.heap.IsListIter i1 l1 k1) (h2:s.heap.IsListIter i2 l2 k2) (hl1:s.heap.IsList l1 xs) (hl2:s.heap.IsList l2 ys) (hend:xs[k1]?=none\/ys[k2]?=none)
  (hE:∀h' e,(∀c o,c≠z->c≠TO->c≠i1->c≠i2->s.heap.get? c=some o->h'.get? c=some o)->(∃o,h'.get? e=some o/\o.cls=.type "StopIteration")->E (.ref e) { s with heap:=h' }) :
  wpAny (model prog w) A (Builtin.«zip.__next__» ⟨[.ref z],[]⟩) Q E s:=by
 show wpAny _ _ (field (.ref z) 2 >>= _) _ _ _;refine fB (Tc hz rfl (x:=.bool false) rfl ?_);show wpAny _ _ (field (.ref z) 3 >>= _) _ _ _;refine fB (Tc hz rfl (x:=.ref TI) rfl ?_);refine fB (wpAny_seqItems hTI rfl ?_);show wpAny _ _ (Builtin.SmallTypes.ownedTupleIsFree (.ref z) >>= _) _ _ _;refine fB (mJ hz hf ?_ λg Y d=>?_)
 .rw[gQ rfl];refine fB (Vr ?_);refine fB (Tc hz rfl (x:=.ref TO) rfl ?_);refine fB (wpAny_setField_rec hz (by simp) λZ C j=>?_);replace C:Zo Z z TI TO .ellipsis f1:=C;refine fB ?_;simp only[List.zipIdx_cons,List.zipIdx_nil,VW,List.forIn_nil];refine fB (fB (wpAny_onRaise ?_));show wpAny _ _ (Builtin.SmallTypes.nextOf (.ref i1) >>= _) _ _ _;cases hx:xs[k1]? with
  |none=>
   refine fB (wpAny_nextOf_list_end hh (h1.extBut j.extBut D.i1z) (hl1.extBut j.extBut D.l1z) hx λB e f p=>?_);obtain⟨G,q,i⟩:=p;have M:Zo B z TI TO .ellipsis f1:=f _ _ D.i1z.symm C;have H:e≠z:=λx=>by subst x;rw[M]at q;cases q;simp at i
   exact wpAny_setField_rec M (by simp) λN _ r=>hE N e (λc o l _ y _ x=>r.extBut _ _ l (f _ _ y (j.extBut _ _ l x))) ⟨G,r.extBut _ _ H q,i⟩
  |some x=>
   have I:ys[k2]?=none:=by rcases hend with h|h;rw[hx]at h;cases h;exact h
   refine fB (wpAny_nextOf_list_item (h1.extBut j.extBut D.i1z) (hl1.extBut j.extBut D.l1z) hx λB J f=>RW ?_);have P:IsPair B TO a b:=f.extBut _ _ D.TOi1 (j.extBut _ _ D.TOz hTO);refine fB (wpAny_seqItems P rfl ?_);refine fB (wpAny_updateSeq_pair P λN p3 r=>?_);refine fB (wpAny_letGo (RW ?_));refine fB (fB (wpAny_onRaise ?_));show wpAny _ _ (Builtin.SmallTypes.nextOf (.ref i2) >>= _) _ _ _;refine fB (wpAny_nextOf_list_end hh (((h2.extBut j.extBut D.i2z).extBut f.extBut D.i12.symm).extBut r.extBut D.TOi2.symm) (((hl2.extBut j.extBut D.l2z).extBut f.extBut D.l2i1).extBut r.extBut D.l2TO) I λK e F p=>?_);obtain⟨G,q,i⟩:=p;have W:Zo K z TI TO .ellipsis f1:=F _ _ D.i2z.symm (r.extBut _ _ D.TOz.symm (f.extBut _ _ D.i1z.symm C));have H:e≠z:=λx=>by subst x;rw[W]at q;cases q;simp at i
   exact wpAny_setField_rec W (by simp) λg5 _ X=>hE g5 e (λc o l J y L x=>X.extBut _ _ l (F _ _ L (r.extBut _ _ J (f.extBut _ _ y (j.extBut _ _ l x))))) ⟨G,X.extBut _ _ H q,i⟩
 .rw[R0 Tg];simp only[];refine fB ?_;rw[<-Array.forIn_toList];simp only[VW,List.forIn_nil];refine fB (fB (UL ?_));show wpAny _ _ (Builtin.SmallTypes.nextOf (.ref i1) >>= _) _ _ _;cases hx:xs[k1]? with
  |none=>
   refine fB (wpAny_nextOf_list_end hh (h1.extBut d.extBut D.i1z) (hl1.extBut d.extBut D.l1z) hx λB e f p=>?_);exact hE B e (λc o l _ y _ x=>f _ _ y (d.extBut _ _ l x)) p
  |some x=>
   have I:ys[k2]?=none:=by rcases hend with h|h;rw[hx]at h;cases h;exact h
   refine fB (wpAny_nextOf_list_item (h1.extBut d.extBut D.i1z) (hl1.extBut d.extBut D.l1z) hx λB J f=>RW (RW ?_));refine fB (fB (UL ?_));show wpAny _ _ (Builtin.SmallTypes.nextOf (.ref i2) >>= _) _ _ _;refine fB (wpAny_nextOf_list_end hh ((h2.extBut d.extBut D.i2z).extBut f.extBut D.i12.symm) ((hl2.extBut d.extBut D.l2z).extBut f.extBut D.l2i1) I λK e F p=>?_);exact hE K e (λc o l _ y L x=>F _ _ L (f.extBut _ _ y (d.extBut _ _ l x))) p
def Cu{z TI TO T:Addr}{f0:Value}{f1:Bool}{tg:Expr}{Q:Unit->Shared->Prop}(hz:Zo s.heap z TI TO f0 f1)(hf:Zf f0)(hQ:∀h' f0,Zo h' z TI TO f0 f1->Zf f0->Heap.SameBut z s.heap h'->Q () { s with heap:=h' }) :
    wpAny (model prog w) A (letOwnedTupleGo tg (.ref z) (.ref T)) Q E s:=by
  have a:Q () s:=hQ _ _ hz hf (Heap.SameBut.refl _ _);unfold letOwnedTupleGo;cases tg<;>first
    |exact RW a
    | (refine fB (wpAny_load hz ?_)
       show wpAny _ _ (ite _ _ _) _ _ _;split
       . exact fB (Vr (wpAny_setField_rec hz (by simp) λh' b c=>hQ h' _ b (.inl rfl) c))
       . exact RW a)
end
def uV{prog:Program}{w:World}{A:Around}{E:Value->Shared->Prop}{s:Shared}{z TI TO:Addr}{f0:Value}{f1:Bool}{Q:Value->Shared->Prop}(hz:Zo s.heap z TI TO f0 f1)(h:Q (.ref z) s):wpAny (model prog w) A (pyIter (.ref z)) Q E s:=by
 have a:s.TypeIs (.ref z) "zip" :=⟨_,hz,rfl⟩
 refine wpAny_pyIter_slot a F.slot_zip_iter (S7 F.slot_zip_iter a F.entry_zip_iter ?_ (F.args_zip_iter_1 _));exact RW ⟨_,rfl,"zip",_,a,F.slot_zip_next.lookup,h⟩
def A3{P:Program}{w:World}{K:PySem.W.Frag}{tg:Expr}{l1 l2 z TI TO i1 i2:Addr}(D:ZipApart z TI TO i1 i2 l1 l2) :
  Turn P w K tg (MS K l1 l2) [z,TI,TO,i1,i2] z (λi h=>(∃f0 f1,Zo h z TI TO f0 f1/\Zf f0)/\IsPair h TI (.ref i1) (.ref i2)/\(∃a b,IsPair h TO a b)/\h.IsListIter i1 l1 i/\h.IsListIter i2 l2 i) where
 mem:=by simp
 obj:=λi h l b f=>by
  obtain⟨⟨f0,f1,s1,s6⟩,s2,⟨u,v,s3⟩,s4,s5⟩:=l;simp only[Vy,List.mem_nil_iff,or_false]at f;rcases f with rfl|rfl|rfl|rfl|rfl
  .exact⟨_,s1,λv z=>by have p:Data.fields _=Data.cell v:=z;cases p⟩
  .exact⟨_,s2,λv z=>by have p:Data.seq _ _=Data.cell v:=z;cases p⟩
  .exact⟨_,s3,λv z=>by have p:Data.seq _ _=Data.cell v:=z;cases p⟩
  .obtain⟨o,e,c,d⟩:=s4;exact⟨o,e,λv z=>by rw[d]at z;cases z⟩
  .obtain⟨o,e,c,d⟩:=s5;exact⟨o,e,λv z=>by rw[d]at z;cases z⟩
 keep:=λi h L l k=>by
  obtain⟨⟨f0,f1,s1,s6⟩,s2,⟨u,v,s3⟩,s4,s5⟩:=l;exact⟨⟨_,_,k z (by simp) _ s1,s6⟩,k TI (by simp) _ s2,⟨u,v,k TO (by simp) _ s3⟩,s4.at λo e=>k i1 (by simp) o e,s5.at λo e=>k i2 (by simp) o e⟩
 item:=by
  intro X M N Q A i g s σ H E I hf l hg;subst M N Q;obtain⟨⟨f0,f1,s1,s6⟩,s2,⟨u0,v0,s3⟩,s4,s5⟩:=l;obtain⟨xs,ys,x,y,B,C,ex,ey⟩:=hg;obtain⟨xt,Y,Z,_⟩:=I.list B;obtain⟨yt,ry,py,_⟩:=I.list C;obtain⟨u,hu,ru⟩:=Y.get ex;obtain⟨v,hv,rv⟩:=ry.get ey;have j:s.TypeIs (.ref z) "zip" :=⟨_,s1,rfl⟩
  unfold pyNext;refine fB (UM (TL (name:=Str.ofString "__next__") j F.slot_zip_next (S7 F.slot_zip_next j F.entry_zip_next
   (D8 D s1 s6 s2 s3 s4 s5 Z.isList py.isList (x:=u) (y:=v) (by simpa using hu) (by simpa using hv) λL f0 f1 a1 a6 a2 a3 a4 a5 G=>RW ?_) (F.args_zip_next_1 _))))
  refine⟨_,rfl,Cu (s:={ s with heap:=L }) a1 a6 λh'' f0 b1 b3 q=>?_⟩;have lt:∀{c o},s.heap.get? c=some o->c≠s.heap.objs.size:=λe=>Sh (R5 e);have J:H s.heap.objs.size=none:=I.hok.fresh (oM _);have zT:s.heap.objs.size≠z:=Tu (lt s1);have I0:Inv X g σ (upd H s.heap.objs.size (.tup [x,y])) { s with heap:=s.heap.push { cls:=.type "tuple",data:=.seq #[u,v]},toks:=s.toks }:=
   I.laid (λb o e=>RT _ e) (oM _) ⟨by show 2<=sizeLine;decide,[u,v],.cons ru (.cons rv .nil),⟨_,Sb _ rfl,rfl,_,rfl⟩⟩
  have ne:∀b∈[z,TI,TO,i1,i2],b≠s.heap.objs.size:=λb f=>by
   simp only[Vy,List.mem_nil_iff,or_false]at f;rcases f with rfl|rfl|rfl|rfl|rfl
   .exact lt s1
   .exact lt s2
   .exact lt s3
   .obtain⟨o,e,_⟩:=s4;exact lt e
   .obtain⟨o,e,_⟩:=s5;exact lt e
  have fp:∀b∈[z,TI,TO,i1,i2],eV X g (upd H s.heap.objs.size (.tup [x,y])) b:=λb f=>⟨by rw[aN (ne b f)];exact(hf b f).1,(hf b f).2⟩
  have I1:Inv X g σ (upd H s.heap.objs.size (.tup [x,y])) { s with heap:=h'',toks:=s.toks }:=by
   refine iW (s:={ s with heap:=s.heap.push { cls:=.type "tuple",data:=.seq #[u,v]},toks:=s.toks }) (ch:=[z,TI,TO,i1,i2]) I0 (λb o f e=>?_) fp;simp only[Vy,List.mem_nil_iff,or_false,not_or]at f;refine q.extBut _ _ f.1 ?_;by_cases J:b=s.heap.objs.size
   .subst J;have r:(s.heap.push { cls:=.type "tuple",data:=.seq #[u,v]}).get? s.heap.objs.size=some o:=e;rw[Sb _ rfl]at r;cases r;exact a5
   .refine G b o f.1 f.2.2.1 f.2.2.2.1 f.2.2.2.2 ?_;have r:(s.heap.push { cls:=.type "tuple",data:=.seq #[u,v]}).get? b=some o:=e;rw[Heap.get?_push_ne _ _ _ J]at r;exact r
  refine⟨.ref s.heap.objs.size,_,I1,rfl,⟨s.heap.objs.size,x,y,J,rfl,rfl,λxs' h=>by rw[I.nu h B];exact ex,λys' h=>by rw[I.nu h C];exact ey⟩,?_,λb f=>(fp b f).1⟩;exact⟨⟨_,_,b1,b3⟩,q.extBut _ _ D.TIz (G _ _ D.TIz D.TITO D.TIi1 D.TIi2 s2),a2.imp λ_ z=>z.imp λ_ z=>q.extBut _ _ D.TOz z,a3.extBut q.extBut D.i1z,a4.extBut q.extBut D.i2z⟩
 done:=by
  intro X M N Q A i g s σ H E I hf l hg;subst M N Q;obtain⟨⟨f0,f1,s1,s6⟩,s2,⟨u0,v0,s3⟩,s4,s5⟩:=l;obtain⟨xs,ys,B,C,hl⟩:=hg;obtain⟨xt,Y,Z,_⟩:=I.list B;obtain⟨yt,ry,py,_⟩:=I.list C;have hl1:=Y.length;have hl2:=ry.length;have j:s.TypeIs (.ref z) "zip" :=⟨_,s1,rfl⟩
  unfold pyNext;refine fB (UM (TL (name:=Str.ofString "__next__") j F.slot_zip_next (S7 F.slot_zip_next j F.entry_zip_next
   (HF (I.ok.hd A) D s1 s6 s2 s3 s4 s5 Z.isList py.isList (hl.imp (λz=>by simp;omega) λz=>by simp;omega) λL e G he=>?_) (F.args_zip_next_1 _))))
  obtain⟨o,ho,A⟩:=he;refine fB (UZ (T:="StopIteration") (b:=true) ⟨o,ho,A⟩ isSubtype_stop (RW ⟨rfl,?_⟩));refine iW (ch:=[z,TI,TO,i1,i2]) (t':=s.toks) I (λb o f e=>?_) hf;simp only[Vy,List.mem_nil_iff,or_false,not_or]at f;exact G b o f.1 f.2.2.1 f.2.2.2.1 f.2.2.2.2 e
 self:=λ_ _ _ _ _ l h=>by obtain⟨f0,f1,s1,_⟩:=l.1;exact uV s1 h
def yI{h:Hh}{a b:List (Nat×List D)}(e:Ev.stays h (a++b)=true):Ev.stays h a=true/\Ev.stays h b=true:=by
 induction a with
 |nil=>exact⟨rfl,e⟩
 |cons p a c=>
  obtain⟨n,d⟩:=p;simp only[Sg,Ev.stays,iY]at e ⊢;exact⟨⟨e.1,(c e.2).1⟩,(c e.2).2⟩
def zip_get{a b:List D}{i:Nat}{d:D}(e:(Ev.cD a b)[i]?=some d):∃x y,a[i]?=some x/\b[i]?=some y/\d=.tup [x,y]:=by
 unfold Ev.cD at e;rw[List.getElem?_zipWith]at e;split at e
 .rename_i x y c f;cases e;exact⟨x,y,c,f,rfl⟩
 .cases e
def HG{K:PySem.W.Frag}{r:List Addr}{H:Hp}{h:Hh}{n1 n2:Nat}{a1 a2:Addr}{ds es:List D}(z1:r[n1]?=some a1)(z2:r[n2]?=some a2):kr K r H (Ev.cD ds es,[(n1,ds)]++[(n2,es)]) (MS K a1 a2):=λi H1 L h1 a f1 M=>by
 obtain⟨f,g⟩:=yI M;obtain⟨b1,j,A,l,B⟩:=a.read (lE f);rw[f1.pre _ _ z1]at A;cases A;obtain⟨b2,o,C,q,F⟩:=a.read (lE g);rw[f1.pre _ _ z2]at C;cases C;refine⟨λd e=>?_,λN=>?_⟩
 .obtain⟨x,y,P,Q,rfl⟩:=zip_get e;obtain⟨u,G,Y⟩:=B.get P;obtain⟨v,I,Z⟩:=F.get Q;refine⟨⟨j,o,u,v,l,q,G,I⟩,λX H2 y=>?_⟩;obtain⟨p,u',v',c,rfl,rfl,hu,hv⟩:=y;have J:=hu j l;rw[G]at J;cases J;have b:=hv o q;rw[I]at b;cases b;exact⟨L,⟨p,[u,v],rfl,.of dI,.cons (Y.mono (.tup c)) (.cons (Z.mono (.tup c)) .nil)⟩,a.tup c,.tup c⟩
 .refine⟨j,o,l,q,?_⟩;have:=B.length;have:=F.length;have z:(Ev.cD ds es).length<=i:=N;simp only[Ev.cD,List.length_zipWith]at z;omega
section
variable{G:Tb}{n:Nat}{sc:Scope}{N:List Str}{df:Bool}{m:List Nat}{a b:E}{xa xb:Expr}{pos:Pos}
def HH {tg:Expr}{p:Pos}(ha:JE G n sc N df m a xa) (hb:JE G n sc N df m b xb) (hg:sc.names.lookup ("zip" : Str)=some .globalImplicit:=by rfl) (qM:("zip" : Str)∈G.bl:=by decide +kernel)
  (hst:∀env:Env,starEach [xa,xb] env=[(false,eval xa env),(false,eval xb env)]:=by intro _;rfl) (iH:∀env:Env,starEach [xb] env=[(false,eval xb env)]:=by intro _;rfl) :
  JI G n sc N df m (.zip a b) tg (.Call (.Name "zip" p) [xa,xb] [] pos):=λX g=>by
 intro d s σ H Rr I q;obtain⟨r,M,h,src,A,P,hr,e,q⟩:=q;simp only[Ev.bJ]at e;replace e:=Ev.ah e;obtain⟨x,Q,e1,e⟩:=e;replace e:=Ev.ah e;obtain⟨y,h2,e2,e⟩:=e;replace e:=Ev.aE e;obtain⟨e,y0⟩:=e;subst y0;have sj:PA X [xa,xb] _:=dO (ha X g) (dO (hb X g) gi (iH _)) (by rw[hst,iH]);refine Call_ (eg I (g.gl hg) (g.bl _ qM) (show bootBuiltins ("zip" : Str)=some (.type "zip")by decide +kernel) (Th (bB (sj pos d s σ H (λW H1=>∃f u v,W=[u,v]/\RV X.K H1 f x u/\RV X.K H1 f y v/\HR X.K H1 f A/\Fm X.K r f H H1) I ?_) λus s1 z=>?_) (by rw[hst,iH]) (by rw[iH];rfl)))
 .refine⟨r,M,h,x,Q,P,hr,e1,λu H1 f B c f1=>?_⟩;refine⟨f,M,Q,y,A,P.mono f1,c,e2,λv H2 r2 C F f2=>?_⟩;exact⟨r2,u,v,rfl,B.mono f2,C,F,f1.trans f2⟩
 .obtain⟨W,H1,I1,rv,f,u,v,rfl,B,C,c,f1⟩:=z;simp only[R4,JM]at e;obtain⟨s1',j,s2',l,rfl⟩:=e;cases x<;>simp only[Ev.o7,reduceCtorEq,JM]at j
  rename_i n1;obtain⟨ds,j,rfl⟩:=j;cases y<;>simp only[Ev.o7,reduceCtorEq,JM]at l
  rename_i n2;obtain⟨es,l,rfl⟩:=l;obtain⟨Y,rfl,Z⟩:=B.shape;obtain⟨a2,rfl,J⟩:=C.shape;obtain⟨b1,xs,w1,w2,w3⟩:=c.read j;rw[Z]at w1;cases w1;obtain⟨b2,ys,w4,w5,w6⟩:=c.read l;rw[J]at w4;cases w4;cases rv with
  |cons ra L=>
  cases L with
  |cons L rc=>
  cases rc;cases ra;cases L;obtain⟨xt,_,px,_⟩:=I1.list w2;obtain⟨yt,_,py,_⟩:=I1.list w5;refine call_zip_2 px.isList py.isList λhp c1 c2 c3 c4 c5 c6 c7=>?_;have I2:Inv X d σ H1 { s1 with heap:=hp,toks:=s1.toks }:=I1.kept c7;have l1:Y<s1.heap.objs.size:=by obtain⟨o,e,_⟩:=px.isList;exact R5 e
  have l2:a2<s1.heap.objs.size:=by obtain⟨o,e,_⟩:=py.isList;exact R5 e
  refine wpAny_pyIter_zip c1 ⟨_,[s1.heap.objs.size+4,s1.heap.objs.size+2,s1.heap.objs.size+3,s1.heap.objs.size,s1.heap.objs.size+1],_,_,H1,rfl,I2,A3 ?_,⟨⟨_,_,c1,.inl rfl⟩,c2,⟨_,_,c3⟩,c4,c5⟩,λb hb=>?_,q _ H1 f c f1 (HG (h:=A) Z J)⟩
  .constructor <;> (intro z;have J:@Eq Nat _ _:=z;have QU:@LT.lt Nat _ Y s1.heap.objs.size:=l1;have QV:@LT.lt Nat _ a2 s1.heap.objs.size:=l2;omega)
  .have i:s1.heap.objs.size<=b:=by
    simp only[Vy,List.mem_nil_iff,or_false]at hb;rcases hb with rfl|rfl|rfl|rfl|rfl
    .exact Nat.le_add_right _ _
    .exact Nat.le_add_right _ _
    .exact Nat.le_add_right _ _
    .exact oM _
    .exact Nat.le_add_right _ _
   exact I1.oV i (I1.hok.fresh i)
end
end Sm
namespace Rv
open PySem PyProof.Rows
end Rv
namespace Sm
open PySem PySem.Spec PyProof.Rows L2 PySem.SeqAt
open Ev (D O Hh Fr R aH E Es Eo T S Ss Fl Src bF bu TY BI ME)
section
def A4{vs:List V}{us:List Value}(r:Vals vs us){acc:Array Value}(h:ItemsOf (λi v=>us.toArray[us.toArray.size - 1 - i]?=some v) acc us.toArray.size):Vals vs.reverse acc.toList:=by
 obtain⟨a,d⟩:=h;have e:acc.toList=us.reverse:=by
  apply UP;intro i;by_cases b:i<us.length
  .have c:i<acc.size:=by rw[a];simpa using b
   have:=d i _ (UU c);rw[List.getElem?_reverse b];simp only[RY,List.getElem?_toArray]at this;rw[this];simp[c]
  .have f:acc.size=us.length:=by rw[a];simp
   rw[Sy (by rw[TJ];omega),Sy (by rw[List.length_reverse];omega)]
 rw[e];exact Vals.reverse r
end
end Sm
namespace Rv
open PySem PySem.Spec PyProof.Rows
section
variable{prog:Program}{w:World}{A:Around}{E:Value->Shared->Prop}{s:Shared}
def yJ:typeLookup (.type "list_reverseiterator") "__len__" = pure none:=by rw[TR,SX];kernel_rfl
def A5:typeLookup (.type "list_reverseiterator") "__length_hint__" = pure (some (.builtin "list_reverseiterator.__length_hint__")):=by rw[TR,SX];kernel_rfl
def um{Q:List Value->Shared->Prop}{I:Addr}{fp wr:List Addr}{G:Array GenState->Array GenState->Prop}{n:Nat}{P:Nat->Value->Prop}{St:Nat->Shared->Prop}
  (W:WalksS prog w A.in1 I fp wr G n P St) (hT:∀i s,St i s->s.TypeIs (.ref I) "list_reverseiterator") (hst:St 0 s) (hfp:∀b∈fp,b<s.heap.objs.size) (hI:I∈fp)
  (hQ:∀s' acc,Moved wr G s s'->ItemsOf P acc n->Q acc.toList s') (hn:n<=sizeLine):wpAny (model prog w) A (collect (.ref I)) Q E s:=by
 have c:s.heap.objs.size∉fp:=λg=>Sw _ (hfp _ g);have h:s.heap.objs.size≠I:=λe=>c (e▸hI);unfold collect;refine fB (wpAny_runValue (codeAny_builtin F.entry_proto_collect ?_));rw[Around.under_plainId F.plain_proto_collect _];show wpAny _ A.in1 (newList [] >>= λl=>again (.builtin "list.__iadd__" ⟨[l,.ref I],[]⟩)) _ _ s;refine fB (SM ?_);refine RW ⟨Vx F.plain_list_iadd _,codeAny_builtin F.entry_list_iadd ?_⟩;rw[Around.under_plainId F.plain_list_iadd _];have a:=W.frame 0 s (s.heap.push { cls:=.type "list",data:=.seq ([]:List Value).toArray }) s.toks hst (oM _) λb _ o e=>RT _ e;have LC:(s.heap.push { cls:=.type "list",data:=.seq ([]:List Value).toArray }).get? s.heap.objs.size=some { cls:=.type "list",data:=.seq ([]:List Value).toArray }:=Sb _ rfl;have p:Builtin.List.listSameRef (.ref s.heap.objs.size) (.ref I)=false:=by simp[Builtin.List.listSameRef,h]
 show wpAny _ A.in1 (Builtin.List.listExtendWith (.ref s.heap.objs.size) (.ref I) (.ref s.heap.objs.size)) _ _ _;unfold Builtin.List.listExtendWith;refine fB (UW (hT 0 _ a) ?_);rw[R0 (by rw[p];decide)];refine fB (W.self 0 _ _ _ a ?_);refine fB (UL ?_);unfold Builtin.List.listLengthHint;refine fB (TQ (hT 0 _ a) yJ ?_);show wpAny _ A.in1 (specialOf (Value.ref I) (Str.ofString "__length_hint__") >>= _) _ _ _;refine fB (TQ (hT 0 _ a) A5 ?_);generalize hid:("list_reverseiterator.__length_hint__" : String)=PY
 wp_delta
 rw[show splitId PY=some ("list_reverseiterator","__length_hint__")from by subst hid;decide +kernel];subst hid;refine fB (UZ (b:=true) (hT 0 _ a) (by rw[T4];kernel_rfl) ?_);refine RW ?_;rw[R0 (by decide)];refine RW ⟨Vx F.plain_extend_loop _,codeAny_extend_loopS W hn _ c _ n 0 _ _ _ rfl (SQ _) a LC (ItemsOf.nil P) λs' d q g j f=>?_⟩;show wpAny _ A (load s.heap.objs.size >>= _) _ _ s';refine fB (wpAny_load j ?_);exact RW (hQ s' d (Moved.drop_new (o:={ cls:=.type "list",data:=.seq ([]:List Value).toArray }) (tk:=s.toks) g (oM _)) f)
def pD{Q₁:Value->Shared->Prop}{I:Addr}{fp wr:List Addr}{G:Array GenState->Array GenState->Prop}{n:Nat}{P:Nat->Value->Prop}{St:Nat->Shared->Prop}
  (W:WalksS prog w A.in1.in1 I fp wr G n P St) (hT:∀i s,St i s->s.TypeIs (.ref I) "list_reverseiterator") (hst:St 0 s) (hfp:∀b∈fp,b<s.heap.objs.size) (hI:I∈fp)
  (h:∀s' acc,Moved wr G s s'->ItemsOf P acc n->Q₁ (.ref s'.heap.objs.size) { s' with heap:=s'.heap.push { cls:=.type "tuple",data:=.seq acc }}) (hsz:n<=sizeLine) :
  codeAny (model prog w) A (.call (.builtin "tuple.__new__") ⟨[.type "tuple",.ref I],[]⟩) (wants Q₁ E) s:=by
 refine codeAny_of_tree ?_;show wpAny _ A.in1 (do checkBuiltinCall "tuple.__new__" ⟨[.type "tuple",.ref I],[]⟩;again (.builtin "tuple.__new__" ⟨[.type "tuple",.ref I],[]⟩)) _ _ s;refine fB (Tt (F.newCall_tuple_1 _) (RW ⟨Vx F.plain_tuple_new _,codeAny_builtin F.entry_tuple_new ?_⟩));rw[Around.under_plainId F.plain_tuple_new _];have d:=sub_tuple_self;have QG:=init_tuple_lookup;have QW:=madeHere_tuple;have c:=hT 0 s hst
 wp_walk using UW c,um (hn:=hsz) W hT hst hfp hI
 intro s' acc f a;show wpAny _ _ (Builtin.Tuple.tupleExact acc.toList.toArray >>= λv=>ret v) _ _ _;unfold Builtin.Tuple.tupleExact;refine fB (SM ?_ (by show acc.toList.toArray.size<=sizeLine;simp only[Array.toArray_toList];rw[a.1];exact hsz));refine RW ?_;have e:acc.toList.toArray=acc:=by simp
 rw[e];exact h s' acc f a
def pF{Q:Value->Shared->Prop}{I:Addr}{fp wr:List Addr}{G:Array GenState->Array GenState->Prop}{n:Nat}{P:Nat->Value->Prop}{St:Nat->Shared->Prop}
  (W:WalksS prog w A.in1.in1.in1 I fp wr G n P St) (hT:∀i s,St i s->s.TypeIs (.ref I) "list_reverseiterator") (hst:St 0 s) (hfp:∀b∈fp,b<s.heap.objs.size) (hI:I∈fp)
  (hQ:∀s' acc,Moved wr G s s'->ItemsOf P acc n->Q (.ref s'.heap.objs.size) { s' with heap:=s'.heap.push { cls:=.type "tuple",data:=.seq acc }}) (hsz:n<=sizeLine) :
  wpAny (model prog w) A (call (.type "tuple") [.ref I]) Q E s:=by
 refine callType_codes (Q₁:=λa d=>d.TypeIs a "tuple" /\Q a d) F.called_tuple (F.typeCall_tuple_1 _) F.entry_object_init
  (pD (hsz:=hsz) W hT hst hfp hI λs' acc f c=>⟨⟨_,Sb _ rfl,rfl⟩,hQ s' acc f c⟩) λa d e=>?_
 exact⟨e.1,F.args_object_init_2 a _,object_init_meets F.called_tuple.init.lookup F.called_tuple.made (by decide) prog w A.in1 _ d ⟨e.1,rfl,e.2⟩⟩
def pG{Q:Value->Shared->Prop}{I l:Addr}{items:Array Value}(hh:A.handled=none)(hit:s.heap.IsRevIter I l ((items.size:Int) - 1))(hl:s.heap.IsList l items)(hne:l≠I)(hlen:items.size<=sizeLine)
  (hQ:∀(h':Heap) (tk:Nat) (acc:Array Value),(∀b o,b≠I->s.heap.get? b=some o->h'.get? b=some o)->ItemsOf (λi v=>items[items.size - 1 - i]?=some v) acc items.size->
   Q (.ref h'.objs.size) { s with heap:=h'.push { cls:=.type "tuple",data:=.seq acc },toks:=tk }):wpAny (model prog w) A (call (.type "tuple") [.ref I]) Q E s:=by
 have W:=(Walks.listRev (prog:=prog) (w:=w) (A:=A.in1.in1.in1) hh I l hne items).toS;refine pF W (λi s x=>x.2.1.typeIs) ⟨SQ _,by simpa using hit,hl⟩ (λb a=>?_) (by simp) (λg acc h c=>?_) hlen
 .rcases List.mem_cons.mp a with rfl|a
  .obtain⟨o,f,_⟩:=hit;exact R5 f
  .rw[List.mem_singleton.mp a];obtain⟨o,f,_⟩:=hl;exact R5 f
 .rw[Moved.eq_with h];exact hQ g.heap g.toks acc (λb o a e=>h.heap b o (λd=>a (List.mem_singleton.mp d)) e) c
end
end Rv
namespace Sm
open PySem PySem.Spec PyProof.Rows L2 PySem.SeqAt
open Ev (D O Hh Fr R aH E Es Eo T S Ss Fl Src bF bu TY BI ME)
section
variable{X:Cx}{G:Tb}{n:Nat}{sc:Scope}{N:List Str}{df:Bool}{m:List Nat}{a b:E}{xa:Expr}{pos:Pos}
def HJ {p p2 pos2:Pos}(ha:JE G n sc N df m a xa) (h1:("tuple" : Str)∈G.bl:=by decide +kernel) (jV:sc.names.lookup ("tuple" : Str)=some .globalImplicit:=by rfl)
  (hg:sc.names.lookup ("reversed" : Str)=some .globalImplicit:=by rfl) (hb:("reversed" : Str)∈G.bl:=by decide +kernel)
  (hst:∀env:Env,starEach [xa] env=[(false,eval xa env)]:=by intro _;rfl)
  (lH:∀env:Env,starEach [Expr.Call (.Name "reversed" p2) [xa] [] pos2] env=[(false,eval (Expr.Call (.Name "reversed" p2) [xa] [] pos2) env)]:=by intro _;rfl) :
  JE G n sc N df m (.jS a) (.Call (.Name "tuple" p) [.Call (.Name "reversed" p2) [xa] [] pos2] [] pos):=λX g=>by
 intro c s σ H Q I q;obtain⟨r,fr,h,d,h',sr,hr,e,q⟩:=q;rw[Ev.ev]at e;replace e:=Ev.ah e;obtain⟨x,M,e2,e⟩:=e;refine TV (eg I (g.gl jV) (g.bl _ h1) (show bootBuiltins ("tuple" : Str)=some (.type "tuple")by decide +kernel) ?_ (by decide) (by decide));refine Th ?_ (lH _) rfl;rw[lH];show wpAny _ _ (spliced ((false,eval (Expr.Call (.Name "reversed" p2) [xa] [] pos2) X.env) :: backTo pos [])) _ _ s;refine Uj ?_;have sj:PA X [xa] _:=dO (ha X g) gi (by rw[hst];rfl);refine Call_ (eg I (g.gl hg) (g.bl _ hb) (show bootBuiltins ("reversed" : Str)=some (.type "reversed")by decide +kernel) (Th (bB (sj pos2 c s σ H (λP H1=>∃l u,P=[u]/\RV X.K H1 l x u/\HR X.K H1 l M/\Fm X.K r l H H1) I ⟨r,fr,h,x,M,sr,hr,e2,λu H1 l F f f1=>⟨l,u,rfl,F,f,f1⟩⟩) λus s1 z=>?_) (hst _) rfl));obtain⟨P,H1,I1,rv,l,u,rfl,F,f,f1⟩:=z;cases x<;>simp only[Ev.v5,reduceCtorEq]at e
 rename_i i;split at e
 .rename_i ds e1;split at e
  .cases e;obtain⟨t,rfl,z⟩:=F.shape;obtain⟨t',W,Y,q1,w⟩:=f.read e1;rw[z]at Y;cases Y;cases rv with
   |cons ra rb=>
   cases rb;cases ra;obtain⟨y,pv,J,Z⟩:=I1.list q1;have A:y.toArray.size<=sizeLine:=by rw[RY,<-pv.length];exact Z
   refine call_reversed_list J.isList ?_;refine UQ ?_;have I2:Inv X c σ H1 { s1 with heap:=s1.heap.push (revObj t ((y.toArray.size:Int) - 1))}:=I1.kept λb o e=>RT _ e;have L:t≠s1.heap.objs.size:=by obtain⟨o,ho,_⟩:=J.isList;exact Sh (R5 ho)
   refine Rv.pG (I1.ok.hd g.calm) ⟨_,Sb _ rfl,rfl,rfl⟩ (J.isList.at λo e=>RT _ e) L A λB tk j hk C=>?_;have I3:Inv X c σ H1 { s1 with heap:=B }:=I1.kept λb o e=>hk b o (Sh (R5 e)) (RT _ e);have I4:Inv X c σ (upd H1 B.objs.size (.tup W.reverse)) { s1 with heap:=B.push { cls:=.type "tuple",data:=.seq j },toks:=tk }:=
    I3.laid (t':=tk) (λb o e=>RT _ e) (oM _) (show b7 X.prog X.w _ _ _ (.tup W.reverse)from ⟨by simpa using Z,j.toList,A4 pv C,by simpa using IsTup.new B j⟩)
   exact⟨.ref B.objs.size,_,I4,rfl,(q.later f1).tup w.reverse f (I3.hok.fresh (oM _))⟩
  .cases e
 .cases e
end
theorem sq:∀{ds:List D}{k:Int}{i:Nat}{d:D},(Ev.cH k ds)[i]?=some d->∃x,ds[i]?=some x/\d=.tup [.int (k+i),x]
 |[],_,_,_,e=>by simp[Ev.cH]at e
 |x :: ds,k,0,d,e=>by simp[Ev.cH]at e;exact⟨x,by simp,by simp[e]⟩
 |x :: ds,k,i+1,d,e=>by
  simp only[Ev.cH,List.getElem?_cons_succ]at e;obtain⟨y,a,b⟩:=sq e;refine⟨y,by simpa using a,?_⟩;rw[b];have:k+1+(i:Int)=k+((i+1:Nat):Int):=by omega
  rw[this]
theorem su:∀(ds:List D) (k:Int),(Ev.cH k ds).length=ds.length
 |[],_=>rfl
 |_ :: ds,k=>by simp[Ev.cH,su ds]
section
variable{prog:Program}{w:World}{A:Around}{E:Value->Shared->Prop}{s:Shared}
def Draws.one{it:Addr}{n:Nat}{P:Nat->Value->Prop}{St:Nat->Heap->Prop}(D:Draws prog w A it [it] n P St){i:Nat}{h h':Heap}(st:St i h)(k:∀o,h.get? it=some o->h'.get? it=some o):St i h':=
 D.frame _ _ _ st λb a o e=>by rw[List.mem_singleton.mp a]at e ⊢;exact k o e
def fX(hh:A.handled=none)(it:Addr)(x:Str)(t:Tok):Draws prog w A it [it] x.cps.size (λi v=>∃c u,x.cps[i]?=some c/\v=.str ⟨#[c]⟩ u) (λi h=>h.IsStrIter it (strIterType x) x t i):=by
 unfold strIterType;split
 .exact Draws.strAscii hh it x t
 .exact Draws.strWide hh it x t
def D9{z TI TO i1 i2:Addr}{k n1 n2:Nat}{P1 P2:Nat->Value->Prop}{S1 S2:Nat->Heap->Prop}{a b f0:Value}{f1:Bool}{Q:Value->Shared->Prop}(D:ZipApart z TI TO i1 i2 TI TI)(D1:Draws prog w A i1 [i1] n1 P1 S1)(D2:Draws prog w A i2 [i2] n2 P2 S2)(hz:Zo s.heap z TI TO f0 f1)(hf:Zf f0)
  (hTI:IsPair s.heap TI (.ref i1) (.ref i2)) (hTO:IsPair s.heap TO a b)
  (h1:S1 k s.heap) (h2:S2 k s.heap) (hx:k<n1) (hy:k<n2)
  (hQ:∀h' f0 f1 x y tk,Zo h' z TI TO f0 f1->Zf f0->(∃a b,IsPair h' TO a b)->S1 (k+1) h'->S2 (k+1) h'->P1 k x->P2 k y->IsPair h' s.heap.objs.size x y->
   (∀c o,c≠z->c≠TO->c≠i1->c≠i2->s.heap.get? c=some o->h'.get? c=some o)->Q (.ref s.heap.objs.size) { s with heap:=h',toks:=tk }) :
  wpAny (model prog w) A (Builtin.«zip.__next__» ⟨[.ref z],[]⟩) (λfin s'=>∃v,fin=.done (.ret v)/\Q v s') E s:=by
 show wpAny _ _ (field (.ref z) 2 >>= _) _ _ _;refine fB (Tc hz rfl (x:=.bool false) rfl ?_);show wpAny _ _ (field (.ref z) 3 >>= _) _ _ _;refine fB (Tc hz rfl (x:=.ref TI) rfl ?_);refine fB (wpAny_seqItems hTI rfl ?_);show wpAny _ _ (Builtin.SmallTypes.ownedTupleIsFree (.ref z) >>= _) _ _ _;refine fB (mJ hz hf ?_ λg L q=>?_)
 .rw[gQ rfl];refine fB (Vr ?_);refine fB (Tc hz rfl (x:=.ref TO) rfl ?_);refine fB (wpAny_setField_rec hz (by simp) λZ M H=>?_);replace M:Zo Z z TI TO .ellipsis f1:=M;refine fB ?_;simp only[List.zipIdx_cons,List.zipIdx_nil,VW,List.forIn_nil];refine fB (fB (wpAny_onRaise ?_));show wpAny _ _ (Builtin.SmallTypes.nextOf (.ref i1) >>= _) _ _ _;refine fB (D1.item k _ _ _ hx (Draws.one D1 h1 λo e=>H.extBut _ _ D.i1z e) λx G HK N r d=>RW ?_);replace d:Heap.SameBut i1 Z G:=d;have p2:IsPair G TO a b:=d.extBut _ _ D.TOi1 (H.extBut _ _ D.TOz hTO);refine fB (wpAny_seqItems p2 rfl ?_);refine fB (wpAny_updateSeq_pair p2 λP W B=>?_);replace W:IsPair P TO x b:=W;replace B:Heap.SameBut TO G P:=B;refine fB (wpAny_letGo (RW ?_));refine fB (fB (wpAny_onRaise ?_));show wpAny _ _ (Builtin.SmallTypes.nextOf (.ref i2) >>= _) _ _ _;refine fB (D2.item k _ _ _ hy (Draws.one D2 h2 λo e=>B.extBut _ _ D.TOi2.symm (d.extBut _ _ D.i12.symm (H.extBut _ _ D.i2z e))) λy l HL X i f=>RW ?_);replace f:Heap.SameBut i2 P l:=f;have p4:IsPair l TO x b:=f.extBut _ _ D.TOi2 W;refine fB (wpAny_seqItems p4 rfl ?_);refine fB (wpAny_updateSeq_pair p4 λh I C=>?_);replace I:IsPair h TO x y:=I;replace C:Heap.SameBut TO l h:=C;refine fB (wpAny_letGo (RW (RW ?_)));refine fB (wpAny_seqItems I rfl ?_);refine fB (wpAny_newTuple ?_);have sz:h.objs.size=s.heap.objs.size:=by rw[C.1,f.1,B.1,d.1,H.1]
  have z5:Zo h z TI TO .ellipsis f1:=C.extBut _ _ D.TOz.symm (f.extBut _ _ D.i2z.symm (B.extBut _ _ D.TOz.symm (d.extBut _ _ D.i1z.symm M)));have k5:∀c o,c≠z->c≠TO->c≠i1->c≠i2->s.heap.get? c=some o->h.get? c=some o:=λc o j r F i e=>C.extBut _ _ r (f.extBut _ _ i (B.extBut _ _ r (d.extBut _ _ F (H.extBut _ _ j e))));have lz:z<h.objs.size:=R5 z5;show wpAny _ _ (Builtin.SmallTypes.ownedTupleHandOut (.ref z) (.ref h.objs.size) >>= _) _ _ _;refine fB ?_;unfold Builtin.SmallTypes.ownedTupleHandOut;have z6:Zo (h.push { cls:=.type "tuple",data:=.seq #[x,y]}) z TI TO .ellipsis f1:=RT _ z5;refine fB (wpAny_setField_rec z6 (by simp) λg7 Y e7=>?_);replace Y:Zo g7 z TI TO (rawInt h.objs.size) f1:=Y;refine wpAny_setField_rec Y (by simp) λJ K e8=>?_;replace K:Zo J z TI TO (rawInt h.objs.size) false:=K;have p:∀c o,c≠z->h.get? c=some o->J.get? c=some o:=λc o j e=>e8.extBut _ _ j (e7.extBut _ _ j (RT _ e));have t8:IsPair J h.objs.size x y:=e8.extBut _ _ (VE lz) (e7.extBut _ _ (VE lz) (Sb _ rfl));rw[sz]at K t8;refine RW ⟨_,rfl,?_⟩;show Q (.ref h.objs.size) _;rw[sz];exact hQ J _ _ x y HL K (.inr ⟨_,rfl⟩) ⟨_,_,p _ _ D.TOz I⟩ (Draws.one D1 r λo e=>p _ o D.i1z (C.extBut _ _ D.TOi1.symm (f.extBut _ _ D.i12 (B.extBut _ _ D.TOi1.symm e)))) (Draws.one D2 i λo e=>p _ o D.i2z (C.extBut _ _ D.TOi2.symm e)) N X t8 λc o j r F i e=>p c o j (k5 c o j r F i e)
 .rw[R0 Tg];simp only[];refine fB ?_;rw[<-Array.forIn_toList];simp only[VW,List.forIn_nil];refine fB (fB (UL ?_));show wpAny _ _ (Builtin.SmallTypes.nextOf (.ref i1) >>= _) _ _ _;refine fB (D1.item k _ _ _ hx (Draws.one D1 h1 λo e=>q.extBut _ _ D.i1z e) λx G HK N r d=>RW (RW ?_));replace d:Heap.SameBut i1 g G:=d;refine fB (fB (UL ?_));show wpAny _ _ (Builtin.SmallTypes.nextOf (.ref i2) >>= _) _ _ _;refine fB (D2.item k _ _ _ hy (Draws.one D2 h2 λo e=>d.extBut _ _ D.i12.symm (q.extBut _ _ D.i2z e)) λy l HL X i f=>RW (RW (RW ?_)));replace f:Heap.SameBut i2 G l:=f;show wpAny _ _ (newTuple [x,y] >>= _) _ _ _;refine fB (wpAny_newTuple ?_);have sz:l.objs.size=s.heap.objs.size:=by rw[f.1,d.1,q.1]
  have k4:∀c o,c≠z->c≠i1->c≠i2->s.heap.get? c=some o->l.get? c=some o:=λc o j F i e=>f.extBut _ _ i (d.extBut _ _ F (q.extBut _ _ j e));refine RW ⟨_,rfl,?_⟩;show Q (.ref l.objs.size) _;rw[sz];have p:∀c o,l.get? c=some o->(l.push { cls:=.type "tuple",data:=.seq #[x,y]}).get? c=some o:=λc o e=>RT _ e;refine hQ _ _ _ x y HL (p _ _ (f.extBut _ _ D.i2z.symm (d.extBut _ _ D.i1z.symm L))) hf ⟨_,_,p _ _ (k4 _ _ D.TOz D.TOi1 D.TOi2 hTO)⟩ (Draws.one D1 r λo e=>p _ o (f.extBut _ _ D.i12 e)) (Draws.one D2 i λo e=>p _ o e) N X ?_ λc o j _ F i e=>p c o (k4 c o j F i e);rw[<-sz];exact Sb _ rfl
def HM{z TI TO i1 i2:Addr}{k n1 n2:Nat}{P1 P2:Nat->Value->Prop}{S1 S2:Nat->Heap->Prop}{a b f0:Value}{f1:Bool}{Q:PySem.Fin->Shared->Prop}(D:ZipApart z TI TO i1 i2 TI TI)(D1:Draws prog w A i1 [i1] n1 P1 S1)(D2:Draws prog w A i2 [i2] n2 P2 S2)(hz:Zo s.heap z TI TO f0 f1)(hf:Zf f0)
  (hTI:IsPair s.heap TI (.ref i1) (.ref i2)) (hTO:IsPair s.heap TO a b)
  (h1:S1 k s.heap) (h2:S2 k s.heap) (hend:k=n1\/(k<n1/\k=n2))
  (hE:∀h' e tk,(∀c o,c≠z->c≠TO->c≠i1->c≠i2->s.heap.get? c=some o->h'.get? c=some o)->(∃o,h'.get? e=some o/\o.cls=.type "StopIteration")->E (.ref e) { s with heap:=h',toks:=tk }) :
  wpAny (model prog w) A (Builtin.«zip.__next__» ⟨[.ref z],[]⟩) Q E s:=by
 show wpAny _ _ (field (.ref z) 2 >>= _) _ _ _;refine fB (Tc hz rfl (x:=.bool false) rfl ?_);show wpAny _ _ (field (.ref z) 3 >>= _) _ _ _;refine fB (Tc hz rfl (x:=.ref TI) rfl ?_);refine fB (wpAny_seqItems hTI rfl ?_);show wpAny _ _ (Builtin.SmallTypes.ownedTupleIsFree (.ref z) >>= _) _ _ _;refine fB (mJ hz hf ?_ λg Y h=>?_)
 .rw[gQ rfl];refine fB (Vr ?_);refine fB (Tc hz rfl (x:=.ref TO) rfl ?_);refine fB (wpAny_setField_rec hz (by simp) λH F B=>?_);replace F:Zo H z TI TO .ellipsis f1:=F;refine fB ?_;simp only[List.zipIdx_cons,List.zipIdx_nil,VW,List.forIn_nil];refine fB (fB (wpAny_onRaise ?_));show wpAny _ _ (Builtin.SmallTypes.nextOf (.ref i1) >>= _) _ _ _;rcases hend with rfl|⟨I,rfl⟩
  .refine fB (D1.done _ _ _ (Draws.one D1 h1 λo e=>B.extBut _ _ D.i1z e) λf e d q=>?_);replace d:Heap.ExtBut i1 H f:=d;obtain⟨J,r,i⟩:=q;have N:Zo f z TI TO .ellipsis f1:=d _ _ D.i1z.symm F;have K:e≠z:=λx=>by subst x;rw[N]at r;cases r;simp at i
   exact wpAny_setField_rec N (by simp) λG _ l=>hE G e _ (λc o j _ y _ x=>l.extBut _ _ j (d _ _ y (B.extBut _ _ j x))) ⟨J,l.extBut _ _ K r,i⟩
  .refine fB (D1.item k _ _ _ I (Draws.one D1 h1 λo e=>B.extBut _ _ D.i1z e) λx f HK Z L d=>RW ?_);replace d:Heap.SameBut i1 H f:=d;have P:IsPair f TO a b:=d.extBut _ _ D.TOi1 (B.extBut _ _ D.TOz hTO);refine fB (wpAny_seqItems P rfl ?_);refine fB (wpAny_updateSeq_pair P λG p3 l=>?_);replace l:Heap.SameBut TO f G:=l;refine fB (wpAny_letGo (RW ?_));refine fB (fB (wpAny_onRaise ?_));show wpAny _ _ (Builtin.SmallTypes.nextOf (.ref i2) >>= _) _ _ _;refine fB (D2.done _ _ _ (Draws.one D2 h2 λo e=>l.extBut _ _ D.TOi2.symm (d.extBut _ _ D.i12.symm (B.extBut _ _ D.i2z e))) λC e p q=>?_);replace p:Heap.ExtBut i2 G C:=p;obtain⟨J,r,i⟩:=q;have W:Zo C z TI TO .ellipsis f1:=p _ _ D.i2z.symm (l.extBut _ _ D.TOz.symm (d.extBut _ _ D.i1z.symm F));have K:e≠z:=λx=>by subst x;rw[W]at r;cases r;simp at i
   exact wpAny_setField_rec W (by simp) λg5 _ X=>hE g5 e _ (λc o j L y M x=>X.extBut _ _ j (p _ _ M (l.extBut _ _ L (d.extBut _ _ y (B.extBut _ _ j x))))) ⟨J,X.extBut _ _ K r,i⟩
 .rw[R0 Tg];simp only[];refine fB ?_;rw[<-Array.forIn_toList];simp only[VW,List.forIn_nil];refine fB (fB (UL ?_));show wpAny _ _ (Builtin.SmallTypes.nextOf (.ref i1) >>= _) _ _ _;rcases hend with rfl|⟨I,rfl⟩
  .refine fB (D1.done _ _ _ (Draws.one D1 h1 λo e=>h.extBut _ _ D.i1z e) λf e d q=>?_);replace d:Heap.ExtBut i1 g f:=d;exact hE f e _ (λc o j _ y _ x=>d _ _ y (h.extBut _ _ j x)) q
  .refine fB (D1.item k _ _ _ I (Draws.one D1 h1 λo e=>h.extBut _ _ D.i1z e) λx f HK Z L d=>RW (RW ?_));replace d:Heap.SameBut i1 g f:=d;refine fB (fB (UL ?_));show wpAny _ _ (Builtin.SmallTypes.nextOf (.ref i2) >>= _) _ _ _;refine fB (D2.done _ _ _ (Draws.one D2 h2 λo e=>d.extBut _ _ D.i12.symm (h.extBut _ _ D.i2z e)) λC e p q=>?_);replace p:Heap.ExtBut i2 f C:=p;exact hE C e _ (λc o j _ y M x=>p _ _ M (d.extBut _ _ y (h.extBut _ _ j x))) q
end
noncomputable def HN(z:Str):L2.It:=
  ⟨λi _=>i<z.cps.size,
   λi H x H'=>∃p c,H p=none/\x=.ref p/\H'=upd H p (.tup [.int i,.str ⟨#[c]⟩])/\z.cps[i]?=some c,
   λi _=>z.cps.size<=i⟩
def wJ{P:Program}{w:World}{K:PySem.W.Frag}{elts:List Expr}{x1}{pos:Pos}{z:Str}{t:Tok}{e it:Addr}(hne:e≠it) :
  Turn P w K (.Tuple elts x1 pos) (HN z) [e,it] e (λi h=>(∃old,IsEnum h e it i old)/\h.IsStrIter it (strIterType z) z t i/\i<=z.cps.size) where
 mem:=by simp
 obj:=λi h g b a=>by
  obtain⟨⟨old,s1⟩,s2,_⟩:=g;simp only[Vy,List.mem_nil_iff,or_false]at a;rcases a with rfl|rfl
  .exact⟨_,s1,λv z=>by have Y:Data.fields _=Data.cell v:=z;cases Y⟩
  .obtain⟨o,e,c,d⟩:=s2;exact⟨o,e,λv z=>by rw[d]at z;cases z⟩
 keep:=λi h y g k=>by
  obtain⟨⟨old,s1⟩,⟨o,B,r⟩,s3⟩:=g;exact⟨⟨old,k e (by simp) _ s1⟩,⟨o,k it (by simp) o B,r⟩,s3⟩
 item:=by
  intro X l C F G i f s σ H E I hf g hg;subst l C F;obtain⟨⟨old,s1⟩,s2,s3⟩:=g;have Dr:=fX (prog:=X.prog) (w:=X.w) (A:=X.A.in1) (I.ok.hd G) it z t;refine wpAny_pyNext_enum_itemD Dr s1 s2 hg hne (by simpa using hne) λu y j l Z a2 a3 a4 J=>?_;obtain⟨c,p,L,rfl⟩:=l;refine⟨_,rfl,wpAny_letOwnedTupleGo_enum (s:={ s with heap:=y,toks:=j+1 }) Z λM b1 N=>?_⟩;have lt:∀{c o},s.heap.get? c=some o->c≠s.heap.objs.size:=λe=>Sh (R5 e);have x:H s.heap.objs.size=none:=I.hok.fresh (oM _);have I0:Inv X f σ (upd H s.heap.objs.size (.tup [.int i,.str ⟨#[c]⟩])) { s with heap:=s.heap.push { cls:=.type "tuple",data:=.seq #[.int i j,.str ⟨#[c]⟩ p]},toks:=j+1 }:=
   I.laid (λb o e=>RT _ e) (oM _) ⟨by show 2<=sizeLine;decide,[.int i j,.str ⟨#[c]⟩ p],.cons ⟨_,rfl⟩ (.cons ⟨_,rfl⟩ .nil),⟨_,Sb _ rfl,rfl,_,rfl⟩⟩
  have ne:∀b∈[e,it],b≠s.heap.objs.size:=λb a=>by
   simp only[Vy,List.mem_nil_iff,or_false]at a;rcases a with rfl|rfl
   .exact lt s1
   .obtain⟨o,e,_⟩:=s2;exact lt e
  have Q:∀b∈[e,it],eV X f (upd H s.heap.objs.size (.tup [.int i,.str ⟨#[c]⟩])) b:=λb a=>⟨by rw[aN (ne b a)];exact(hf b a).1,(hf b a).2⟩
  have I1:Inv X f σ (upd H s.heap.objs.size (.tup [.int i,.str ⟨#[c]⟩])) { s with heap:=M,toks:=j+1 }:=by
   refine iW (s:={ s with heap:=s.heap.push { cls:=.type "tuple",data:=.seq #[.int i j,.str ⟨#[c]⟩ p]},toks:=j+1 }) (ch:=[e,it]) I0 (λb o a e=>?_) Q;simp only[Vy,List.mem_nil_iff,or_false,not_or]at a;refine N.extBut _ _ a.1 ?_;by_cases x:b=s.heap.objs.size
   .subst x;have q:(s.heap.push { cls:=.type "tuple",data:=.seq #[.int i j,.str ⟨#[c]⟩ p]}).get? s.heap.objs.size=some o:=e;rw[Sb _ rfl]at q;cases q;exact a3
   .refine J b o a.1 a.2 ?_;have q:(s.heap.push { cls:=.type "tuple",data:=.seq #[.int i j,.str ⟨#[c]⟩ p]}).get? b=some o:=e;rw[Heap.get?_push_ne _ _ _ x]at q;exact q
  refine⟨.ref s.heap.objs.size,_,I1,rfl,⟨s.heap.objs.size,c,x,rfl,rfl,L⟩,?_,λb a=>(Q b a).1⟩;obtain⟨o,B,r⟩:=a2;exact⟨⟨_,by simpa using b1⟩,⟨o,N.extBut _ _ (Tu hne) B,r⟩,hg⟩
 done:=by
  intro X l C F G i f s σ H E I hf g hg;subst l C F;obtain⟨⟨old,s1⟩,s2,s3⟩:=g;have hi:i=z.cps.size:=VV s3 hg;subst hi;have Dr:=fX (prog:=X.prog) (w:=X.w) (A:=X.A.in1) (I.ok.hd G) it z t;refine wpAny_pyNext_enum_endD Dr s1 s2 λy J=>⟨rfl,?_⟩
  refine iW (ch:=[e,it]) (t':=s.toks) I (λb o a e=>?_) hf;simp only[Vy,List.mem_nil_iff,or_false,not_or]at a;exact J b o a.2 e
 self:=λ_ _ _ _ _ g h=>by obtain⟨⟨old,s1⟩,s2⟩:=g;exact wpAny_pyIter_enum s1 h
def sy{a:List Nat}{i:Nat}{x:D}(h:(a.map λc=>D.str [c])[i]?=some x):∃c,a[i]?=some c/\x=.str [c]:=by
 rw[Su]at h;obtain⟨c,b,d⟩:=Option.map_eq_some_iff.mp h;exact⟨c,b,d.symm⟩
def wK{K:PySem.W.Frag}{H:Hp}{r:List Addr}{c:Nat}:RV K H r (.str [c]) (.str ⟨#[c]⟩):=⟨rfl,by show 1<=sizeLine;decide⟩
def A6{K:PySem.W.Frag}{r:List Addr}{H:Hp}{a:List Nat}:kr K r H (Ev.cH 0 (a.map λc=>.str [c]),[]) (HN (aC a)):=λi H1 o C f f1 F=>by
 refine⟨λd e=>?_,λq=>?_⟩
 .obtain⟨x,z,rfl⟩:=sq e;obtain⟨c,h,rfl⟩:=sy z;have g:i<a.length:=(List.getElem?_eq_some_iff.mp h).1;refine⟨by show i<a.toArray.size;simpa using g,λX H2 y=>?_⟩;obtain⟨p,A,j,rfl,rfl,B⟩:=y;have l:a[i]?=some A:=by simpa[aC]using B
  rw[h]at l;cases l;exact⟨o,⟨p,[.int i,.str ⟨#[c]⟩],rfl,.of dI,.cons (by simp[RV]) (.cons wK .nil)⟩,f.tup j,.tup j⟩
 .have b:(Ev.cH 0 (a.map λc=>D.str [c])).length<=i:=q;rw[su,Se]at b;show a.toArray.size<=i;simpa using b
noncomputable def HQ(x y:Str):L2.It:=
  ⟨λi _=>i<x.cps.size/\i<y.cps.size,
   λi H v H'=>∃p c d,H p=none/\v=.ref p/\H'=upd H p (.tup [.str ⟨#[c]⟩,.str ⟨#[d]⟩])/\x.cps[i]?=some c/\y.cps[i]?=some d,
   λi _=>x.cps.size<=i\/y.cps.size<=i⟩
def yK{P:Program}{w:World}{K:PySem.W.Frag}{tg:Expr}{x y:Str}{t1 t2:Tok}{z TI TO i1 i2:Addr}(D:ZipApart z TI TO i1 i2 TI TI) :
  Turn P w K tg (HQ x y) [z,TI,TO,i1,i2] z (λi h=>(∃f0 f1,Zo h z TI TO f0 f1/\Zf f0)/\IsPair h TI (.ref i1) (.ref i2)/\(∃a b,IsPair h TO a b)/\h.IsStrIter i1 (strIterType x) x t1 i/\h.IsStrIter i2 (strIterType y) y t2 i/\i<=x.cps.size/\i<=y.cps.size) where
 mem:=by simp
 obj:=λi h l b f=>by
  obtain⟨⟨f0,f1,s1,s6⟩,s2,⟨u,v,s3⟩,s4,s5,_⟩:=l;simp only[Vy,List.mem_nil_iff,or_false]at f;rcases f with rfl|rfl|rfl|rfl|rfl
  .exact⟨_,s1,λv z=>by have C:Data.fields _=Data.cell v:=z;cases C⟩
  .exact⟨_,s2,λv z=>by have C:Data.seq _ _=Data.cell v:=z;cases C⟩
  .exact⟨_,s3,λv z=>by have C:Data.seq _ _=Data.cell v:=z;cases C⟩
  .obtain⟨o,e,c,d⟩:=s4;exact⟨o,e,λv z=>by rw[d]at z;cases z⟩
  .obtain⟨o,e,c,d⟩:=s5;exact⟨o,e,λv z=>by rw[d]at z;cases z⟩
 keep:=λi h Q l k=>by
  obtain⟨⟨f0,f1,s1,s6⟩,s2,⟨u,v,s3⟩,⟨o4,e4,r4⟩,⟨o5,e5,r5⟩,s7⟩:=l;exact⟨⟨_,_,k z (by simp) _ s1,s6⟩,k TI (by simp) _ s2,⟨u,v,k TO (by simp) _ s3⟩,⟨o4,k i1 (by simp) _ e4,r4⟩,⟨o5,k i2 (by simp) _ e5,r5⟩,s7⟩
 item:=by
  intro X Y Z hK p i g s σ H E I hf l hg;subst Y Z hK;obtain⟨⟨f0,f1,s1,s6⟩,s2,⟨q,r,s3⟩,s4,s5,s7⟩:=l;have j:s.TypeIs (.ref z) "zip" :=⟨_,s1,rfl⟩
  have D1:=fX (prog:=X.prog) (w:=X.w) (A:=X.A.in1) (I.ok.hd p) i1 x t1;have D2:=fX (prog:=X.prog) (w:=X.w) (A:=X.A.in1) (I.ok.hd p) i2 y t2;unfold pyNext;refine fB (UM (TL (name:=Str.ofString "__next__") j F.slot_zip_next (S7 F.slot_zip_next j F.entry_zip_next
   (D9 D D1 D2 s1 s6 s2 s3 s4 s5 hg.1 hg.2 λQ f0 f1 u v B a1 a6 a2 a3 a4 hu hv a5 M=>RW ?_) (F.args_zip_next_1 _))))
  obtain⟨c,q,hc1,rfl⟩:=hu;obtain⟨d,r,hc2,rfl⟩:=hv;refine⟨_,rfl,Cu (s:={ s with heap:=Q,toks:=B }) a1 a6 λh'' f0 b1 b3 G=>?_⟩;have lt:∀{c o},s.heap.get? c=some o->c≠s.heap.objs.size:=λe=>Sh (R5 e);have N:H s.heap.objs.size=none:=I.hok.fresh (oM _);have I0:Inv X g σ (upd H s.heap.objs.size (.tup [.str ⟨#[c]⟩,.str ⟨#[d]⟩])) { s with heap:=s.heap.push { cls:=.type "tuple",data:=.seq #[.str ⟨#[c]⟩ q,.str ⟨#[d]⟩ r]},toks:=B }:=
   I.laid (λb o e=>RT _ e) (oM _) ⟨by show 2<=sizeLine;decide,[.str ⟨#[c]⟩ q,.str ⟨#[d]⟩ r],.cons ⟨_,rfl⟩ (.cons ⟨_,rfl⟩ .nil),⟨_,Sb _ rfl,rfl,_,rfl⟩⟩
  have ne:∀b∈[z,TI,TO,i1,i2],b≠s.heap.objs.size:=λb f=>by
   simp only[Vy,List.mem_nil_iff,or_false]at f;rcases f with rfl|rfl|rfl|rfl|rfl
   .exact lt s1
   .exact lt s2
   .exact lt s3
   .obtain⟨o,e,_⟩:=s4;exact lt e
   .obtain⟨o,e,_⟩:=s5;exact lt e
  have fp:∀b∈[z,TI,TO,i1,i2],eV X g (upd H s.heap.objs.size (.tup [.str ⟨#[c]⟩,.str ⟨#[d]⟩])) b:=λb f=>⟨by rw[aN (ne b f)];exact(hf b f).1,(hf b f).2⟩
  have I1:Inv X g σ (upd H s.heap.objs.size (.tup [.str ⟨#[c]⟩,.str ⟨#[d]⟩])) { s with heap:=h'',toks:=B }:=by
   refine iW (s:={ s with heap:=s.heap.push { cls:=.type "tuple",data:=.seq #[.str ⟨#[c]⟩ q,.str ⟨#[d]⟩ r]},toks:=B }) (ch:=[z,TI,TO,i1,i2]) I0 (λb o f e=>?_) fp;simp only[Vy,List.mem_nil_iff,or_false,not_or]at f;refine G.extBut _ _ f.1 ?_;by_cases N:b=s.heap.objs.size
   .subst N;have J:(s.heap.push { cls:=.type "tuple",data:=.seq #[.str ⟨#[c]⟩ q,.str ⟨#[d]⟩ r]}).get? s.heap.objs.size=some o:=e;rw[Sb _ rfl]at J;cases J;exact a5
   .refine M b o f.1 f.2.2.1 f.2.2.2.1 f.2.2.2.2 ?_;have J:(s.heap.push { cls:=.type "tuple",data:=.seq #[.str ⟨#[c]⟩ q,.str ⟨#[d]⟩ r]}).get? b=some o:=e;rw[Heap.get?_push_ne _ _ _ N]at J;exact J
  refine⟨.ref s.heap.objs.size,_,I1,rfl,⟨s.heap.objs.size,c,d,N,rfl,rfl,hc1,hc2⟩,?_,λb f=>(fp b f).1⟩;exact⟨⟨_,_,b1,b3⟩,G.extBut _ _ D.TIz (M _ _ D.TIz D.TITO D.TIi1 D.TIi2 s2),a2.imp λ_ z=>z.imp λ_ z=>G.extBut _ _ D.TOz z,Draws.one D1 a3 λo e=>G.extBut _ _ D.i1z e,Draws.one D2 a4 λo e=>G.extBut _ _ D.i2z e,hg.1,hg.2⟩
 done:=by
  intro X Y Z hK p i g s σ H E I hf l hg;subst Y Z hK;obtain⟨⟨f0,f1,s1,s6⟩,s2,⟨q,r,s3⟩,s4,s5,s7,s8⟩:=l;have j:s.TypeIs (.ref z) "zip" :=⟨_,s1,rfl⟩
  have D1:=fX (prog:=X.prog) (w:=X.w) (A:=X.A.in1) (I.ok.hd p) i1 x t1;have D2:=fX (prog:=X.prog) (w:=X.w) (A:=X.A.in1) (I.ok.hd p) i2 y t2;have L:i=x.cps.size\/(i<x.cps.size/\i=y.cps.size):=by
   rcases Nat.lt_or_ge i x.cps.size with h1|h1
   .rcases hg with h2|h2
    .omega
    .exact .inr ⟨h1,by omega⟩
   .exact .inl (by omega)
  unfold pyNext;refine fB (UM (TL (name:=Str.ofString "__next__") j F.slot_zip_next (S7 F.slot_zip_next j F.entry_zip_next
   (HM D D1 D2 s1 s6 s2 s3 s4 s5 L λQ e B M he=>?_) (F.args_zip_next_1 _))))
  obtain⟨o,ho,p⟩:=he;refine fB (UZ (T:="StopIteration") (b:=true) ⟨o,ho,p⟩ isSubtype_stop (RW ⟨rfl,?_⟩));refine iW (ch:=[z,TI,TO,i1,i2]) (t':=B) I (λb o f e=>?_) hf;simp only[Vy,List.mem_nil_iff,or_false,not_or]at f;exact M b o f.1 f.2.2.1 f.2.2.2.1 f.2.2.2.2 e
 self:=λ_ _ _ _ _ l h=>by obtain⟨f0,f1,s1,_⟩:=l.1;exact uV s1 h
def Ea{K:PySem.W.Frag}{r:List Addr}{H:Hp}{a b:List Nat}:kr K r H (Ev.cD (a.map λc=>.str [c]) (b.map λc=>.str [c]),[]) (HQ (aC a) (aC b)):=λi H1 A N g f1 P=>by
 refine⟨λd e=>?_,λB=>?_⟩
 .obtain⟨x,y,C,F,rfl⟩:=zip_get e;obtain⟨c,l,rfl⟩:=sy C;obtain⟨d,o,rfl⟩:=sy F;have h:i<a.length:=(List.getElem?_eq_some_iff.mp l).1;have G:i<b.length:=(List.getElem?_eq_some_iff.mp o).1;refine⟨⟨by show i<a.toArray.size;simpa using h,by show i<b.toArray.size;simpa using G⟩,λX H2 y=>?_⟩;obtain⟨p,I,J,q,rfl,rfl,L,M⟩:=y;have z:a[i]?=some I:=by simpa[aC]using L
  have f:b[i]?=some J:=by simpa[aC]using M
  rw[l]at z;cases z;rw[o]at f;cases f;exact⟨A,⟨p,[.str ⟨#[c]⟩,.str ⟨#[d]⟩],rfl,.of dI,.cons wK (.cons wK .nil)⟩,g.tup q,.tup q⟩
 .have j:(Ev.cD (a.map λc=>D.str [c]) (b.map λc=>D.str [c])).length<=i:=B;simp only[Ev.cD,List.length_zipWith,Se]at j;show a.toArray.size<=i\/b.toArray.size<=i;simp only[RY];omega
abbrev Cv(h:Heap)(x:Str)(t:Tok):Heap:=h.push { cls:=.type (strIterType x),data:=.fields #[.str x t,.int 0 0]}
abbrev zs2(h:Heap)(x y:Str)(t u:Tok):Heap:=(Cv h x t).push { cls:=.type (strIterType y),data:=.fields #[.str y u,.int 0 0]}
abbrev Cw (h:Heap) (x y:Str) (t u:Tok):Heap:=(zs2 h x y t u).push { cls:=.type "tuple",data:=.seq #[.ref h.objs.size,.ref (Cv h x t).objs.size]}
abbrev Cy (h:Heap) (x y:Str) (t u:Tok):Heap:=(Cw h x y t u).push { cls:=.type "tuple",data:=.seq #[.none,.none]}
abbrev uW (h:Heap) (x y:Str) (t u:Tok):Heap:=(Cy h x y t u).push { cls:=.type "zip",data:=.fields #[.none,.bool false,.bool false,.ref (zs2 h x y t u).objs.size,.ref (Cw h x y t u).objs.size]}
set_option maxHeartbeats 1000000 in
def wL(x y:Str)(t u:Tok) :
  Meets (Builtin.«zip.__new__» ⟨[.type "zip",.str x t,.str y u],[]⟩) (λ_ R s=>R (.ok (.ret (.ref (Cy s.heap x y t u).objs.size))) { s with heap:=uW s.heap x y t u }):=
 .of_wp λprog w A R s h=>by
  obtain⟨b,g,d,c,e⟩:=s;have a:=sub_zip
  wp_walk using wpAny_pyIter_strU
  exact⟨_,rfl,h⟩
section
variable{prog:Program}{w:World}{A:Around}{E:Value->Shared->Prop}{s:Shared}
def yL{x y:Str}{t u:Tok}{Q:Value->Shared->Prop}
  (h:∀h',IsZip h' (s.heap.objs.size+4) (s.heap.objs.size+2) (s.heap.objs.size+3) .none->IsPair h' (s.heap.objs.size+2) (.ref s.heap.objs.size) (.ref (s.heap.objs.size+1))->
   IsPair h' (s.heap.objs.size+3) .none .none->h'.IsStrIter s.heap.objs.size (strIterType x) x t 0->h'.IsStrIter (s.heap.objs.size+1) (strIterType y) y u 0->
   (∀c o,s.heap.get? c=some o->h'.get? c=some o)->Q (.ref (s.heap.objs.size+4)) { s with heap:=h' }) :
  wpAny (model prog w) A (call (.type "zip") [.str x t,.str y u]) Q E s:=by
 refine callType_new F.called_zip (by decide) (F.typeCall_zip_2 _ _) (F.newCall_zip_2 _ _) (λa=>F.args_object_init_3 a _ _) F.entry_zip_new
  (wL x y t u) ?_
 have b:(Cv s.heap x t).objs.size=s.heap.objs.size+1:=Vk ..;have d:(zs2 s.heap x y t u).objs.size=s.heap.objs.size+2:=by rw[Vk,b]
 have e:(Cw s.heap x y t u).objs.size=s.heap.objs.size+3:=by rw[Vk,d]
 have g:(Cy s.heap x y t u).objs.size=s.heap.objs.size+4:=by rw[Vk,e]
 have f:(uW s.heap x y t u).get? (Cy s.heap x y t u).objs.size=some _:=Sb _ rfl;have i:(uW s.heap x y t u).get? (Cw s.heap x y t u).objs.size=some _:=RT _ (Sb _ rfl);have j:(uW s.heap x y t u).get? (zs2 s.heap x y t u).objs.size=some _:=RT _ (RT _ (Sb _ rfl));have l:(uW s.heap x y t u).get? (Cv s.heap x t).objs.size=some _:=RT _ (RT _ (RT _ (Sb _ rfl)));have p:(uW s.heap x y t u).get? s.heap.objs.size=some _:=RT _ (RT _ (RT _ (RT _ (Sb _ rfl))));show _/\_;rw[d,e,g]at f;rw[b,d]at j;rw[e]at i;rw[b]at l;rw[g];exact⟨⟨_,f,rfl⟩,h _ f j i ⟨_,p,rfl,rfl⟩ ⟨_,l,rfl,rfl⟩ λc o x=>
  RT _ (RT _ (RT _ (RT _ (RT _ x))))⟩
end
section
variable{G:Tb}{n:Nat}{sc:Scope}{N:List Str}{df:Bool}{m:List Nat}{a b:E}{xa xb:Expr}{pos:Pos}
def A7 {elts:List Expr}{x1}{tpos p:Pos}(ha:JE G n sc N df m a xa) (hg:sc.names.lookup ("enumerate" : Str)=some .globalImplicit:=by rfl) (qM:("enumerate" : Str)∈G.bl:=by decide +kernel)
  (hst:∀env:Env,starEach [xa] env=[(false,eval xa env)]:=by intro _;rfl) :
  JI G n sc N df m (.jc a) (.Tuple elts x1 tpos) (.Call (.Name "enumerate" p) [xa] [] pos):=λX g=>by
 intro c s σ H Rr I q;obtain⟨r,C,h,src,l,F,J,e,q⟩:=q;rw[Ev.bJ]at e;replace e:=Ev.ah e;obtain⟨x,h1,L,e⟩:=e;replace e:=Ev.aE e;obtain⟨e,M⟩:=e;subst M;have P:PA X [xa] _:=dO (ha X g) gi (by rw[hst];rfl);refine Call_ (eg I (g.gl hg) (g.bl _ qM) (show bootBuiltins ("enumerate" : Str)=some (.type "enumerate")by decide +kernel) (Th (bB (P pos c s σ H (λo H1=>∃d u,o=[u]/\RV X.K H1 d x u/\HR X.K H1 d l/\Fm X.K r d H H1) I ⟨r,C,h,x,l,F,J,L,λu H1 d j f f1=>⟨d,u,rfl,j,f,f1⟩⟩) λus s1 z=>?_) (hst _) rfl));obtain⟨o,H1,I1,rv,d,u,rfl,j,f,f1⟩:=z;simp only[JM]at e;obtain⟨Q,y,rfl⟩:=e;cases x<;>simp only[Ev.AN,reduceCtorEq]at y
 rename_i a;cases y;simp only[RV]at j;obtain⟨rfl,hl⟩:=j;cases rv with
 |cons W Y=>
 cases Y;obtain⟨t,rfl⟩:=W;refine call_enumerate_str λZ A c2 c3 c4=>?_;have I2:Inv X c σ H1 { s1 with heap:=Z,toks:=s1.toks }:=I1.kept c4;have B:∀b∈[s1.heap.objs.size+1,s1.heap.objs.size],s1.heap.objs.size<=b:=λb i=>by
  simp only[Vy,List.mem_nil_iff,or_false]at i;rcases i with rfl|rfl
  .exact VL _
  .exact oM _
 exact wpAny_pyIter_enum A ⟨_,[s1.heap.objs.size+1,s1.heap.objs.size],_,_,H1,rfl,I2,wJ (Nat.succ_ne_self _),⟨⟨_,A⟩,c2,SQ _⟩,λb i=>I1.oV (B b i) (I1.hok.fresh (B b i)),q _ H1 d f f1 A6⟩
def Eb {tg:Expr}{p:Pos}(ha:JE G n sc N df m a xa) (hb:JE G n sc N df m b xb) (hg:sc.names.lookup ("zip" : Str)=some .globalImplicit:=by rfl) (qM:("zip" : Str)∈G.bl:=by decide +kernel)
  (hst:∀env:Env,starEach [xa,xb] env=[(false,eval xa env),(false,eval xb env)]:=by intro _;rfl) (iH:∀env:Env,starEach [xb] env=[(false,eval xb env)]:=by intro _;rfl) :
  JI G n sc N df m (.jd a b) tg (.Call (.Name "zip" p) [xa,xb] [] pos):=λX g=>by
 intro c s σ H Rr I q;obtain⟨r,C,h,src,F,J,Q,e,q⟩:=q;simp only[Ev.bJ]at e;replace e:=Ev.ah e;obtain⟨x,L,W,e⟩:=e;replace e:=Ev.ah e;obtain⟨y,h2,Y,e⟩:=e;replace e:=Ev.aE e;obtain⟨e,Z⟩:=e;subst Z;have sj:PA X [xa,xb] _:=dO (ha X g) (dO (hb X g) gi (iH _)) (by rw[hst,iH]);refine Call_ (eg I (g.gl hg) (g.bl _ qM) (show bootBuiltins ("zip" : Str)=some (.type "zip")by decide +kernel) (Th (bB (sj pos c s σ H (λM H1=>∃d u v,M=[u,v]/\RV X.K H1 d x u/\RV X.K H1 d y v/\HR X.K H1 d F/\Fm X.K r d H H1) I ?_) λus s1 z=>?_) (by rw[hst,iH]) (by rw[iH];rfl)))
 .refine⟨r,C,h,x,L,J,Q,W,λu H1 d j f f1=>?_⟩;refine⟨d,C,L,y,F,J.mono f1,f,Y,λv H2 r2 l A f2=>?_⟩;exact⟨r2,u,v,rfl,j.mono f2,l,A,f1.trans f2⟩
 .obtain⟨M,H1,I1,rv,d,u,v,rfl,j,l,f,f1⟩:=z;simp only[JM]at e;obtain⟨s1',o,rfl⟩:=e;unfold Ev.vX at o;split at o
  case h_2=>cases o
  rename_i a b;cases o;simp only[RV]at j l;obtain⟨rfl,_⟩:=j;obtain⟨rfl,_⟩:=l;cases rv with
  |cons ra B=>
  cases B with
  |cons B rc=>
  cases rc;obtain⟨t,rfl⟩:=ra;obtain⟨t2,rfl⟩:=B;refine yL λhp P c2 c3 c4 c5 c7=>?_;have I2:Inv X c σ H1 { s1 with heap:=hp,toks:=s1.toks }:=I1.kept c7;refine wpAny_pyIter_zip P ⟨_,[s1.heap.objs.size+4,s1.heap.objs.size+2,s1.heap.objs.size+3,s1.heap.objs.size,s1.heap.objs.size+1],_,_,H1,rfl,I2,yK ?_,⟨⟨_,_,P,.inl rfl⟩,c2,⟨_,_,c3⟩,c4,c5,SQ _,SQ _⟩,λb hb=>?_,q _ H1 d f f1 Ea⟩
  .constructor <;> (intro z;have z2:@Eq Nat _ _:=z;omega)
  .have i:s1.heap.objs.size<=b:=by
    simp only[Vy,List.mem_nil_iff,or_false]at hb;rcases hb with rfl|rfl|rfl|rfl|rfl
    .exact Nat.le_add_right _ _
    .exact Nat.le_add_right _ _
    .exact Nat.le_add_right _ _
    .exact oM _
    .exact Nat.le_add_right _ _
   exact I1.oV i (I1.hok.fresh i)
end
theorem aB.ofInts{K:PySem.W.Frag}{H:Hp}{r:List Addr}:∀ns:List Int,aB K H r (ns.map D.int) (ns.map V.int)
 |[]=>.nil
 |_ :: l=>.cons rfl (aB.ofInts l)
def HS{K:PySem.W.Frag}{H:Hp}{a:Addr}{vs:List V}(hO:oZ H)(hS:dm K H a vs):v8 K H a vs:=by
 rcases hS with h|h
 .rcases h with h|⟨o,h⟩
  .rcases hO a with q|⟨o,b,q⟩
   .rw[q]at h;cases h
   .rw[q]at h;cases h
  .exact .inl ⟨o,h⟩
 .exact .inr h
def LF{K:PySem.W.Frag}{F:List Ev.Fn}{w n f:Nat}{H:Hp}{a:Addr}{ns:List Int}(hO:oZ H)(hS:dm K H a (ns.map V.int)){h':Hh}(e:Ev.run F w n f [.ref 0] [.bz (ns.map D.int)]=.ok (.bl true) h') :
  mX K F w n f [.ref a] H (λv _=>v=.bl true) λ_ _ _=>False:=by
 refine⟨[a],[.bz (ns.map D.int)],[.ref 0],.bl true,h',.cons (show RV K H [a] (.ref 0) (.ref a)from ⟨a,rfl,rfl⟩) .nil,⟨rfl,λk o c=>?_,λk l b x y _ _ c _=>?_
  ⟩,e,λv H' g d _ _=>d⟩
 .cases k with
  |zero=>
   simp at c;subst c;exact⟨a,rfl,_,HS hO hS,aB.ofInts ns⟩
  |succ k=>simp at c
 .cases k with
  |zero=>simp at c
  |succ k=>simp at c
def Ec{F:List Ev.Fn}{wh n f:Nat}{l:PySem.W.OpenLaw}{q:Program}{loose:List Str}{XP:(Str->Option Value)->Heap->Prop}{YP:World->Heap->Prop}{d:DefRec}{K:Params->PySem.W.Frag}{x:Str}(hn:l.most=some 63)(hdf:d.params.defaults=[])(hr:eW n callerA)
  (hY:∀(w:World) (h:Heap),YP w h->(K w.params).In h) (good:∀ns:List Int,ns.length<=63->∃h',Ev.run F wh n f [.ref 0] [.bz (ns.map D.int)]=.ok (.bl true) h')
  (Fo:∀(w:World) (mg:Str->Option Value) (fa:Addr) (h:Heap),(K w.params).In h->h.Ns mainGlobals mg->mg d.name=some (.ref fa)->
   ∃fd:FuncData,(∀(s:Shared) (u:Value),BindsTo s fd ⟨[u],[]⟩ [(x,u)])/\∀base:Heap,(K w.params).In base->base.Ns mainGlobals mg->gK l.prog w (K w.params) mg base lB n fa fd [x] (mX (K w.params) F wh n f)) :
  PySem.W.WalkO q loose XP YP l.row.toRowW d [] (λf vs=>PySem.call f vs):=
 L2.AJ (n:=63) (k:=n) (x:=x) (CX:=lB) (sp:=λK=>mX K F wh n f) hn (by decide) hdf hr hY Fo (λK H a ns b c g=>by
  obtain⟨h',e⟩:=good ns b;exact LF c g e) λ_ _ _ _ z=>z
theorem yN{P:Program}{w:World}{K:PySem.W.Frag}{mg:Str->Option Value}{base:Heap}{G:Tb}(T:Top P w K mg G)
  (st:∀n,qW P w K mg base G n->qW P w K mg base G (n+1)):∀n,qW P w K mg base G n
 |0=>λf i _=>DQ
 |n+1=>st n (yN T st n)
end Sm
namespace Sm
open PySem PySem.Spec PyProof.Rows L2
open Ev (D O Hh Fr R aH E Es Eo It T S Ss Fl Src bF bu TY BI ME)
section
variable{G:Tb}{n:Nat}{sc:Scope}{N:List Str}{df:Bool}{m:List Nat}{a b:E}{xa xb:Expr}{pos:Pos}
noncomputable def hasB(N:List Str)(m:List Nat)(x:Str)(i:Nat):Bool:=(List.range N.length).any λj=>m[j]?==some i&&N[j]?==some x
def hasB.of{x:Str}{i:Nat}(h:hasB N m x i=true):∃j:Nat,m[j]?=some i/\N[j]?=some x:=by
 obtain⟨j,_,q⟩:=List.any_eq_true.mp h;rw[iY]at q;exact⟨j,by simpa using q.1,by simpa using q.2⟩
noncomputable def vB (sc:Scope) (N:List Str) (m:List Nat) (x:Str) (i:Nat):Bool:=hasB N m x i&&(sc.names.lookup x==some .local ||sc.names.lookup x==some .cell ||sc.names.lookup x==some .free)&&!(x==("__debug__" : Str))&&!(x==("__classdict__" : Str))
def jv{x:Str}{i:Nat}(h:vB sc N m x i=true):JE G n sc N df m (.v i) (.Name x pos):=by
 unfold vB at h;simp only[iY,To,SO]at h;obtain⟨⟨⟨d,c⟩,e⟩,f⟩:=h;obtain⟨j,g,l⟩:=hasB.of d;exact N8 j i g l (by rcases c with (c|c)|c;exact .inl (by simpa using c);exact .inr (.inl (by simpa using c));exact .inr (.inr (by simpa using c))) e f
noncomputable def gB(sc:Scope)(N:List Str)(df:Bool)(m:List Nat)(x:Str)(i:Nat):Bool:=hasB N m x i&&(sc.names.lookup x==some .local || (df&&sc.names.lookup x==some .cell))&&decide m.Nodup&&decide N.Nodup
theorem gB.of{x:Str}{i:Nat}(h:gB sc N df m x i=true):∃j:Nat,m[j]?=some i/\N[j]?=some x/\(sc.names.lookup x=some .local\/(df=true/\sc.names.lookup x=some .cell))/\m.Nodup/\N.Nodup:=by
 unfold gB at h;simp only[iY,SO]at h;obtain⟨⟨⟨d,c⟩,e⟩,f⟩:=h;obtain⟨j,g,l⟩:=hasB.of d;exact⟨j,g,l,by rcases c with c|⟨c,o⟩;exact .inl (by simpa using c);exact .inr ⟨c,by simpa using o⟩,SG e,SG f⟩
def PZ{x:Str}{i:Nat}(h:gB sc N df m x i=true):JG G n sc N df m (.one i) (.Name x pos):=by
 obtain⟨j,c,d,e,f,g⟩:=gB.of h;exact GY j i f g c d e
def P0{x:Str}{i:Nat}{l:List Nat}{xs:List Expr}(h:gB sc N df m x i=true)(hs:qA G n sc N df m l xs):qA G n sc N df m (i :: l) (.Name x pos :: xs):=by
 obtain⟨j,c,d,e,f,g⟩:=gB.of h;exact AO j i f g hs c d e
def Ol{i:Nat}{x:Str}{pos':Pos}(h:gB sc N df m x i=true)(ha:JE G n sc N df m a xa)(hs:∀env:Env,swapsWith xa (some (.Name x pos')) pos.line env=pure false:=by intro _;rfl):JS G n sc N df m (.set i a) (.Assign [.Name x pos'] xa pos):=by
 obtain⟨j,c,d,e,f,g⟩:=gB.of h;exact GZ j i f g ha hs c d e
noncomputable def MT (sc:Scope) (x:Str):Bool:=sc.names.lookup x==some .globalImplicit&&!(x==("__debug__" : Str))
def P4{f:Nat}{i:FI}{es:Es}{x:Str}{e0:Expr}{xs:List Expr}{p:Pos}(h:MT sc x=true)(hf:G.fi[f]?=some i)(hx:i.name=x)(hs:JA G n sc N df m es (e0 :: xs))
  (hst:∀env:Env,starEach (e0 :: xs) env=(false,eval e0 env) :: starEach xs env:=by intro _;rfl) (hpl:∀env:Env,(backTo pos (starEach xs env)).any (·.1)=false:=by intro _;rfl) :
  JE G n sc N df m (.cl f es) (.Call (.Name x p) (e0 :: xs) [] pos):=by
 subst hx;unfold MT at h;simp only[iY,To]at h;exact Lp hf hs (by simpa using h.1) h.2 hst hpl
noncomputable def P5:Expr->List Str
 |.Name x _=>[x]
 |.Tuple c _ _=>c.filterMap λy=>match y with|.Name x _=>some x|_=>none
 |_=>[]
noncomputable def MU(N:List Str)(m:List Nat)(scope:Scope):List (Str×Nat):=(N.zip m).filter λp=>scope.names.contains (p.1,NameKind.free)
noncomputable def cN(N:List Str)(m:List Nat)(scope:Scope)(tg:Expr):List Str:=P5 tg++(MU N m scope).map (·.1)
noncomputable def cM(N:List Str)(m:List Nat)(scope:Scope)(t:T):List Nat:=Ev.slots t++(MU N m scope).map (·.2)
def LG{elt:E}{t:T}{it:Ev.It}{cond:Eo}{tg xi xe:Expr}{ifs:List Expr}{scope:Scope}(hn:nT sc N m scope t (cN N m scope tg) (cM N m scope t)=true)(hs:Cg sc scope=true)
  (hi:JI G n sc N df m it tg xi) (hg:JG G n (er sc scope) (cN N m scope tg) false (cM N m scope t) t tg) (hc:JC G n (er sc scope) (cN N m scope tg) false (cM N m scope t) cond ifs)
  (he:JE G n (er sc scope) (cN N m scope tg) false (cM N m scope t) elt xe) (hf:∀(env:Env) x,foldedSetIterable xi env x=pure x:=by intro _ _;rfl):JE G n sc N df m (.comp elt t it cond) (.ListComp xe [⟨tg,xi,ifs,0⟩] scope pos):=
 uP hi hg hc he (namesOk.of hn) (jG.of hs) hf
def LH{i:Nat}{x:Str}{pos' cpos:Pos}{elt:E}{t:T}{it:Ev.It}{cond:Eo}{tg xi xe:Expr}{ifs:List Expr}{scope:Scope}(h:gB sc N df m x i=true)(hn:nT sc N m scope t (cN N m scope tg) (cM N m scope t)=true)(hs:Cg sc scope=true)
  (hi:JI G n sc N df m it tg xi) (hg:JG G n (er sc scope) (cN N m scope tg) false (cM N m scope t) t tg) (hc:JC G n (er sc scope) (cN N m scope tg) false (cM N m scope t) cond ifs)
  (he:JE G n (er sc scope) (cN N m scope tg) false (cM N m scope t) elt xe) (hf:∀(env:Env) x,foldedSetIterable xi env x=pure x:=by intro _ _;rfl) :
  JS G n sc N df m (.set i (.comp elt t it cond)) (.Assign [.Name x pos'] (.ListComp xe [⟨tg,xi,ifs,0⟩] scope cpos) pos):=by
 obtain⟨j,c,d,e,f,g⟩:=gB.of h;exact DT j i f g hi hg hc he (namesOk.of hn) (jG.of hs) c d e hf
def Om{rest:List Expr}(ha:JT G n sc N df m a xa)(hb:JW G n sc N df m b (.BoolOp .And (xb :: rest) pos)):JT G n sc N df m (.an a b) (.BoolOp .And (xa :: xb :: rest) pos):=GK (Cd ha hb)
def Oo{rest:List Expr}(ha:JT G n sc N df m a xa)(hb:JW G n sc N df m b (.BoolOp .Or (xb :: rest) pos)):JT G n sc N df m (.orr a b) (.BoolOp .Or (xa :: xb :: rest) pos):=GK (yi ha hb)
def allB(G:Tb)(n:Nat):List (Ss×Stmt×List Str)->Prop
 |[]=>True
 |p :: r=>kP G n (aJ p.2.1) p.2.2 true (List.range p.2.2.length) p.1 (fU p.2.1)/\allB G n r
theorem allB.get:∀{l:List (Ss×Stmt×List Str)}{k:Nat}{p:Ss×Stmt×List Str},allB G n l->l[k]?=some p->kP G n (aJ p.2.1) p.2.2 true (List.range p.2.2.length) p.1 (fU p.2.1)
 |[],_,_,_,e=>nomatch e
 |_ :: _,0,_,h,e=>by cases e;exact h.1
 |_ :: r,k+1,p,h,e=>allB.get (l:=r) (k:=k) h.2 (by simpa using e)
end
end Sm
namespace Sm
open PySem PySem.Spec PyProof.Rows L2 PySem.SeqAt
open Ev (D O Hh Fr R aH E Es Eo T S Ss Fl Src bF bu TY BI ME)
def HR.qx{K:PySem.W.Frag}{H:Hp}{r:List Addr}{h:Hh}{p:Addr}{kvs:List (List Nat×List Nat)}(hr:HR K H r h)(hp:H p=none)(h0:kvs≠[])(hl:∀q∈kvs,q.2.length<=sizeLine):HR K (upd H p (.dK (dM kvs))) (r++[p]) (h++[.bM kvs]) where
 len:=by simp[hr.len]
 ob:=λn ob e=>by
  by_cases l:n<h.length
  .rw[gE l]at e;obtain⟨a,b,z⟩:=hr.ob n ob e;exact⟨a,(Fm.laid (K:=K) (o:=.dK (dM kvs)) hp).pre n a b,z.mono (Fm.laid hp) (λ_ C _ z=>by rw[aN (aZ z hp)];exact z) (λ_ _ z=>by rw[aN (aZ z hp)];exact z)
    (λ_ _ z _=>by rw[aN (aZ z hp)];exact z)⟩
  .have c:=(List.getElem?_eq_some_iff.mp e).1;simp only[R1,Sk]at c;have d:n=h.length:=by omega
   subst d;simp at e;subst e;exact⟨p,by rw[<-hr.len];simp,dI,h0,hl⟩
 inj:=λn m a x y b c d g=>by
  have out:∀(k:Nat) z,(h++[O.bM kvs])[k]?=some (.lst z)->(r++[p])[k]?=some a->r[k]?=some a/\h[k]?=some (.lst z):=λk z f i=>by
   by_cases j:k<h.length
   .rw[gE j]at f;rw[gE (by rw[hr.len];exact j)]at i;exact⟨i,f⟩
   .have A:=(List.getElem?_eq_some_iff.mp f).1;simp only[R1,Sk]at A;have B:k=h.length:=by omega
    subst B;simp at f
  exact hr.inj n m a x y (out n x d b).1 (out m y g c).1 (out n x d b).2 (out m y g c).2
end Sm
namespace Sm
open PySem PySem.Spec PyProof.Rows L2
def qN:entryFor table "dict.update.loop" = some Builtin.«dict.update.loop»:=entryFor_of_tree (by kernel_rfl)
def jx:plainId "dict.update.loop" = true:=by decide +kernel
def yO:typeLookup (.type "list") "keys" = pure none:=by rw[TR,SX];kernel_rfl
section
variable{P:Program}{w:World}{A:Around}{E:Value->Shared->Prop}{s:Shared}
def yP {a:Addr}{xs:Array Value}{k:Nat}{sl:Array (Option Value)}{Q:Option Value->Shared->Prop}(hx:s.heap.get? a=some { cls:=.type "list",dict:=none,data:=.seq xs k,slots:=sl }) (hA:A.handled=none)
  (h:∀h' tk,(∀b o,s.heap.get? b=some o->h'.get? b=some o)->Q none { s with heap:=h',toks:=tk }) :
  wpAny (model P w) A (getAttr? (.ref a) "keys") Q E s:=by
 obtain⟨j,g,d,tk,l⟩:=s;have i:∀c,(⟨j,g,d,c,l⟩:Shared).TypeIs (.ref a) "list" :=λ_=>⟨_,hx,rfl⟩
 have f1:=sub_AttributeError;have f3:=F.slot_list_getattribute.lookup;have f4:=F.slot_list_getattribute.bind (.ref a);have f5:=am_list_getattr_none;unfold getAttr? getAttrBy? getAttrBy;repeat (any_goals (first|assumption|exact i _ | ((with_reducible show wpAny _ _ (call (Value.builtin "list.__getattribute__") _ _) _ _ _);refine TN F.slot_list_getattribute (i _) am_entry_list_getattribute (F.args_list_getattribute_2 _ _) (meets_getattribute_miss_list a xs k sl "keys" _ yO (by decide +kernel)) ⟨hx,hA,λh' c e f=>?_⟩)|wp_step))
 obtain⟨p,q,r⟩:=f.there;show wpAny _ _ (getattributeRaised _ _ _ _ _ _ _) _ _ _;unfold getattributeRaised;repeat (any_goals (first|assumption|wp_step))
 exact h _ _ f.of.keeps
def Pr(P:Program)(w:World)(h:Heap)(D I:Addr)(u:Value)(kv:Key×Value):Prop:=
 ∃b o key n,u=.ref b/\h.get? b=some o/\o.cls=.type "tuple" /\o.data=.seq #[key,kv.2] n/\(bO P w).is kv.1 key=true/\b≠D/\b≠I
def Pr.keep{h h':Heap}{D I:Addr}{u:Value}{kv:Key×Value}(p:Pr P w h D I u kv)(q:∀b o,b≠D->b≠I->h.get? b=some o->h'.get? b=some o):Pr P w h' D I u kv:=by
 obtain⟨b,o,a,n,e,f,g,i,j,c,d⟩:=p;exact⟨b,o,a,n,e,q b o c d f,g,i,j,c,d⟩
def yQ{R:Result->Shared->Prop}{D I:Addr}{items:Array Value}{l:Addr}{rs:List (Key×Value)}{res:Value}(hh:A.in1.handled=none)(hne:l≠I)(HU:D≠I)(Cz:D≠l)(hl:rs.length=items.size)(hb:items.size<=100000) :
  ∀(k i:Nat) (c:Int) (tc:Tok) (s:Shared),items.size - i=k->i<=items.size->s.heap.IsListIter I l i/\s.heap.IsList l items->(∀(j:Nat) (u:Value),items[j]?=some u->∃kv,rs[j]?=some kv/\Pr P w s.heap D I u kv)->
   s.heap.DictOf (bO P w) D (merged [] (rs.take i))->
   (∀h' tk,(∀b o,b≠D->b≠I->s.heap.get? b=some o->h'.get? b=some o)->h'.DictOf (bO P w) D (merged [] rs)->R (.ok (.ret res)) { s with heap:=h',toks:=tk })->
   codeAny (model P w) A (.builtin "dict.update.loop" ⟨[.ref D,.ref I,.int c tc,res],[]⟩) R s:=by
 have W:=Walks.list (prog:=P) (w:=w) hh I l hne items;intro k;induction k with
 |zero=>
  intro i c tc s Q X r x p y;have:i=items.size:=by omega
  subst this;refine codeAny_builtin qN ?_;rw[Around.under_plainId jx _];show wpAny _ A.in1 (pyNext (.ref I) >>= _) _ _ s;refine fB (W.done s _ _ r λh' tk q=>?_);rw[SE (by omega)]at p;refine RW (y h' tk (λb o _ z=>q b o (by simpa using z)) ?_);exact p.at λo e=>q D o (by simpa using HU) e
 |succ k Y=>
  intro i c tc s Q X r x p y;have B:i<items.size:=by omega
  refine codeAny_builtin qN ?_;rw[Around.under_plainId jx _];show wpAny _ A.in1 (pyNext (.ref I) >>= _) _ _ s;refine fB (W.item i s _ _ B r λv d t1 Z f J=>?_);obtain⟨kv,hr,hk⟩:=x i v Z;have C:∀b o,b≠D->b≠I->s.heap.get? b=some o->d.get? b=some o:=λb o _ z=>J b o (by simpa using z);obtain⟨b,o,g,n,rfl,K,g2,g3,g4,g5,g6⟩:=hk.keep C;refine fB (UL ?_);refine fB (wpAny_tryCatch ?_);unfold Builtin.Dict.pairItems;refine fB (UW (T:="tuple") ⟨o,K,g2⟩ ?_);show wpAny _ _ (seqItems? (.ref b) >>= _) _ _ _;refine fB (wpAny_seqItems K g3 ?_);refine RW ?_;show wpAny _ _ (holding [g,kv.2] (dictSet D g kv.2)) _ _ _;have P6:Heap.DictOf (bO P w) d D (merged [] (rs.take i)):=p.at λo e=>J D o (by simpa using HU) e;have F:(merged [] (rs.take i)).length<=sizeLine:=by
   have d:=merged_length_le ([]:List (Key×Value)) (rs.take i);have L:(rs.take i).length<=rs.length:=List.length_take_le' _ _;have M:100000<=sizeLine:=by decide
   simp only[TU]at d;omega
  refine UL (wpAny_dictSet_pairs g4 P6 (λL hD G=>?_) F);have ht:=merged_take_succ [] rs i kv hr;have N:∀b o,b≠D->b≠I->d.get? b=some o->L.get? b=some o:=λb o a _ e=>by rw[G.2 b a];exact e
  refine RW ⟨Vx jx _,Y (i+1) _ _ _ (by omega) (by omega) ?_ (λj u hu=>?_) ?_ λM t3 q3 S3=>?_⟩
  .exact⟨f.1.at λo e=>by rw[G.2 I (Tu HU)];exact e,f.2.at λo e=>by rw[G.2 l (Tu Cz)];exact e⟩
  .obtain⟨H,a,h⟩:=x j u hu;exact⟨H,a,(h.keep C).keep N⟩
  .rw[ht];exact hD
  .exact y M t3 (λb o a h e=>q3 b o a h (N b o a h (C b o a h e))) S3
def yR {l:Addr}{items:Array Value}{k:Nat}{sl:Array (Option Value)}{rs:List (Key×Value)}{Q:Value->Shared->Prop}(hh:A.handled=none) (hx:s.heap.get? l=some { cls:=.type "list",dict:=none,data:=.seq items k,slots:=sl }) (hl:rs.length=items.size) (hb:items.size<=100000)
  (hp:∀(j:Nat) (u:Value),items[j]?=some u->∃kv,rs[j]?=some kv/\∃b o key n,u=.ref b/\s.heap.get? b=some o/\o.cls=.type "tuple" /\o.data=.seq #[key,kv.2] n/\(bO P w).is kv.1 key=true)
  (h:∀h' tk,h'.DictOf (bO P w) s.heap.objs.size (merged [] rs)->(∀b o,s.heap.get? b=some o->h'.get? b=some o)->Q (.ref s.heap.objs.size) { s with heap:=h',toks:=tk }) :
  wpAny (model P w) A (call (.type "dict") [.ref l]) Q E s:=by
 refine callType_codes (Q₁:=λc i=>c=.ref s.heap.objs.size/\i={ s with heap:=s.heap.push { cls:=.type "dict",data:=.dict #[]}}) F.kt_called_dict (F.kt_typeCall_dict_1 _) F.entry_dict_init (kt_code_dict_new _ ⟨rfl,rfl⟩) ?_;rintro c i ⟨rfl,rfl⟩;have a:(s.heap.push { cls:=.type "dict",data:=.dict #[]}).DictOf (bO P w) s.heap.objs.size []:=Heap.DictOf.new s.heap;have HV:(s.heap.push { cls:=.type "dict",data:=.dict #[]}).get? l=some { cls:=.type "list",dict:=none,data:=.seq items k,slots:=sl }:=RT _ hx;refine⟨a.typeIs,F.args_dict_init_2 _ _,?_⟩;unfold Builtin.«dict.__init__»;refine fB ?_;unfold Builtin.Dict.selfAndRest;refine fB (wpAny_notOrdered_dict a.typeIs ?_);show wpAny _ _ (pure (s.heap.objs.size,[Value.ref l])) _ _ _;refine RW ?_;show wpAny _ _ (Builtin.Dict.updateFrom "dict.__init__" s.heap.objs.size (.ref l) [] .none) _ _ _;unfold Builtin.Dict.updateFrom;refine fB (UW (T:="list") ⟨_,HV,rfl⟩ ?_);rw[gQ (by decide)];refine fB ?_;refine yP HV (by simp[hh]) λd tk g=>?_;have Cz:d.DictOf (bO P w) s.heap.objs.size []:=a.at λo e=>g _ _ e;have MV:d.IsList l items:=⟨_,g _ _ HV,rfl,_,rfl⟩
 have p:∀b o,s.heap.get? b=some o->d.get? b=some o:=λb o e=>g b o (RT _ e);have f:s.heap.objs.size<d.objs.size:=by
  obtain⟨q,_,_,z,_⟩:=Cz;exact R5 z
 have r:l<s.heap.objs.size:=R5 hx;rw[gQ (show(none:Option Value).isNone=true from rfl)];refine fB (Vr ?_);refine fB (wpAny_pyIter_list (l:=l) (items:=items) MV ?_);refine RW ⟨Vx jx _,?_⟩;refine yQ (I:=d.objs.size) (l:=l) (items:=items) (rs:=rs) (by simp[hh]) (Sh (Nat.lt_trans r f)) (Sh f) (VE r) hl hb items.size 0 _ _ _ (by omega) (by omega) ⟨⟨_,Sb _ rfl,rfl,rfl⟩,MV.push _⟩ (λj u B=>?_) ?_ λh' C q D'=>?_
 .obtain⟨kv,G,b,o,key,n,H,x,J,K,L⟩:=hp j u B;have y:=R5 x;exact⟨kv,G,b,o,key,n,H,RT _ (p _ _ x),J,K,L,Sh y,Sh (Nat.lt_trans y f)⟩
 .exact Cz.push _
 .refine⟨rfl,h _ _ D' λb o e=>q b o (Sh (R5 e)) (Sh (Nat.lt_trans (R5 e) f)) (RT _ (p _ _ e))⟩
end
open Ev (D O Hh Fr R aH E Es Eo T S Ss Fl Src bF bu TY BI ME)
def yS{acc:List (List Nat)}{k:List Nat}:putK (dM (acc.map λk=>(k,[]))) (Sum.inr (aC k)) (.bl true)=dM ((Ev.mW acc k).map λk=>(k,[])):=by
 have b:∀(acc:List (List Nat)),(k∈acc->(fQ (dM (acc.map λk=>(k,[]))) (Sum.inr (aC k):Key)).isSome=true)/\(k∉acc->fQ (dM (acc.map λk=>(k,[]))) (Sum.inr (aC k):Key)=none):=λacc=>by
  induction acc with
  |nil=>exact⟨λz=>(nomatch z),λ_=>rfl⟩
  |cons a acc c=>
   by_cases h:a=k
   .subst h;exact⟨λ_=>by rw[gV,dM,gV,ja rfl];rfl,λz=>absurd (Sn ..) z⟩
   .have d:¬ ((Sum.inr (aC a):Key)=Sum.inr (aC k)):=λz=>h (mE (Sum.inr.inj z));rw[gV,dM,gV,jb d];exact⟨λz=>c.1 (by rcases List.mem_cons.mp z with z|z;exact absurd z.symm h;exact z),λz=>c.2 λy=>z (R9 _ y)⟩
 unfold Ev.mW;by_cases h:k∈acc
 .rw[gQ h];unfold putK;rw[ny,(b acc).1 h,gQ rfl];simp only[dM,Ud];refine UE λa _=>?_;show(if (Sum.inr (aC a):Key)=Sum.inr (aC k)then _ else _)=_;split
  .simp[dv]
  .rfl
 .rw[R0 h,AK _ ((b acc).2 h)];simp[dM,dv]
theorem qO:∀(ks acc:List (List Nat)),jR (dM (acc.map λk=>(k,[]))) (ks.map λk=>((Sum.inr (aC k):Key),V.bl true))=dM ((ks.foldl Ev.mW acc).map λk=>(k,[]))
 |[],_=>rfl
 |k :: ks,acc=>by
  have:=qO ks (Ev.mW acc k);rw[<-yS]at this;exact this
theorem yT:∀ks:List (List Nat),KV (ks.map λk=>((Sum.inr (aC k):Key),V.bl true)) (ks.map λk=>((Sum.inr (aC k):Key),Value.bool true))
 |[]=>.nil
 |k :: ks=>.cons ⟨rfl,rfl⟩ (yT ks)
theorem yU{X:Cx}{pins:List (Addr×Obj)}{σ:L2.St}{H:Hp}{s:Shared}{r:List Addr}(I:Inv X pins σ H s):∀{ds:List D}{ks:List (List Nat)}{vs:List V}{us:List Value},Ev.fD ds=some ks->aB X.K H r ds vs->Vals vs us->
  ks.length=us.length/\∀(j:Nat) (u:Value),us[j]?=some u->∃k,ks[j]?=some k/\∃b o key n,u=.ref b/\s.heap.get? b=some o/\o.cls=.type "tuple" /\o.data=.seq #[key,.bool true] n/\(bO X.prog X.w).is (Sum.inr (aC k)) key=true
 |[],ks,vs,us,e,w,p=>by
  cases e;simp only[aB]at w;subst w;cases p;exact⟨rfl,λj u h=>by simp at h⟩
 |d :: ds,ks,vs,us,e,w,p=>by
  unfold Ev.fD at e;split at e
  .rename_i z;cases z
  .rename_i k c z;cases z;obtain⟨f,g,rfl⟩:=Option.map_eq_some_iff.mp e;simp only[aB,RV]at w;obtain⟨v,J,rfl,⟨i,L,rfl,l,M,N,rfl,⟨rfl,_⟩,P,Q,rfl,rfl,rfl⟩,w⟩:=w;cases p with
   |cons q x=>
   cases q;obtain⟨i1,i2⟩:=yU I g w x;refine⟨by simp[i1],λj u h=>?_⟩;cases j with
   |zero=>
    simp only[List.getElem?_cons_zero,TZ]at h;subst h;obtain⟨y,pv,⟨o,A,B,nn,C⟩,_⟩:=I.tuple l;cases pv with
    |cons F a=>
    cases a with
    |cons a G=>
    cases G;obtain⟨t,rfl⟩:=F;cases a;exact⟨k,rfl,i,o,_,nn,rfl,A,B,C,vV (k:=Sum.inr (aC k)) ⟨t,rfl⟩⟩
   |succ j=>exact i2 j u (by simpa using h)
  .cases e
section
variable{X:Cx}{G:Tb}{n:Nat}{sc:Scope}{N:List Str}{df:Bool}{m:List Nat}{a b:E}{xa:Expr}{pos:Pos}
def Ed (g:Good G n sc N df X):ee X (.type "dict") (λxs H Q=>∃r h d x d' h',HR X.K H r h/\RV X.K H r d x/\xs=[x]/\Ev.bZ .lC [d] h=.ok d' h'/\Res X.K r H h' d' Q):=by
 intro B s σ H xs us Q I rv q;obtain⟨r,h,d,x,d',h',y,Z,rfl,e,q⟩:=q;have hx:∃i,d=.ref i:=by
  cases d<;>first|exact⟨_,rfl⟩ | (exfalso;delta Ev.bZ at e;dsimp only at e;cases e)
 obtain⟨i,rfl⟩:=hx
 delta Ev.bZ at e;dsimp only at e
 split at e
 case h_2=>cases e
 rename_i c e1;split at e
 case isFalse=>cases e
 rename_i hk;cases e;obtain⟨ds,e5,e6⟩:=Option.bind_eq_some_iff.mp e1;obtain⟨p,rfl,z⟩:=Z.shape;obtain⟨p',vs,C,q1,w⟩:=y.read e5;rw[z]at C;cases C;obtain⟨u,rfl,ru⟩:=vals1 rv;cases ru;obtain⟨its,pv,⟨o,nn,g1,F,J,L⟩,hz⟩:=I.list q1;obtain⟨QL,QH,QI,P7⟩:=o;dsimp only at F J L;subst F J L;obtain⟨i1,i2⟩:=yU I e6 w pv;refine yR (rs:=c.map λk=>((Sum.inr (aC k):Key),Value.bool true)) (I.ok.hd g.calm) g1 (by simpa using i1) (by simp only[RY];omega) (λj u hu=>?_) λh2 tk dd kp=>?_
 .obtain⟨k,a1,b,o,A,n,b1,b2,b3,b4,b5⟩:=i2 j u (by simpa using hu);exact⟨(Sum.inr (aC k),.bool true),by rw[Su,a1];rfl,b,o,A,n,b1,b2,b3,b4,b5⟩
 .have M:=I.hok.fresh (oM s.heap.objs.size);have P:=qO c [];have hl:(dM (Ev.dk c)).length<=sizeLine:=by
   have W:=kN (c.map λk=>((Sum.inr (aC k):Key),V.bl true)) [];rw[show jR [] (c.map λk=>((Sum.inr (aC k):Key),V.bl true))=dM (Ev.dk c)from P]at W;simp only[TU,Se]at W;rw[Td];omega
  have l:=(yT c).merge (kvs:=[]) (vs:=[]) .nil;rw[show jR [] (c.map λk=>((Sum.inr (aC k):Key),V.bl true))=dM (Ev.dk c)from P]at l;have h0:Ev.dk c≠[]:=by
   cases c with
   |nil=>exact absurd rfl hk.1
   |cons k c=>
    have:∀(c f:List (List Nat)),f≠[]->c.foldl Ev.mW f≠[]:=λc=>by
     induction c with
     |nil=>exact λ_ h=>h
     |cons k c ih=>exact λf h=>ih _ (by unfold Ev.mW;split;exact h;simp)
    unfold Ev.dk;intro z;exact this c [k] (by simp) (List.map_eq_nil_iff.mp z)
  refine⟨.ref s.heap.objs.size,_,I.laid (t':=tk) (o:=.dK (dM (Ev.dk c))) kp (oM _) (Gv hl (beq_eq_false_iff_ne.mpr (VE I.big)) l dd),rfl,?_⟩;exact q _ _ (r++[s.heap.objs.size]) ⟨_,rfl,by rw[<-y.len];simp⟩ (y.qx M h0 λp Y=>by unfold Ev.dk at Y;obtain⟨_,_,rfl⟩:=List.mem_map.mp Y;exact SQ _) (Fm.laid M)
def Ef {p:Pos}(ha:JE G n sc N df m a xa) (h1:("dict" : Str)∈G.bl:=by decide +kernel) (jV:sc.names.lookup ("dict" : Str)=some .globalImplicit:=by rfl)
  (hst:∀env:Env,starEach [xa] env=[(false,eval xa env)]:=by intro _;rfl):JE G n sc N df m (.bi .lC (.cons a .nil)) (.Call (.Name "dict" p) [xa] [] pos):=λX g=>by
 refine PE.of (kZ (Ed g) (g.gl jV) (g.bl _ h1) (by decide +kernel) (dO (ha X g) gi (hst _)) (by decide) (by decide) (hst _) rfl) λs H Q q=>?_;obtain⟨r,j,h,d,l,o,y,e,q⟩:=q;rw[Ev.ev]at e;obtain⟨F,z,f,e⟩:=Ev.ah e;rw[Ev.bI]at f;obtain⟨x,I,A,i⟩:=Ev.ah f;rw[Ev.bI]at i;cases i;refine⟨r,j,h,x,_,o,y,A,λv H1 B C c f1=>?_⟩;exact⟨B,z,x,v,d,l,c,C,rfl,e,q.later f1⟩
theorem yV{ks:List Nat}:∀kvs:List (List Nat×List Nat),(fQ (dM kvs) (Sum.inr (aC ks):Key)).isSome=(kvs.map (·.1)).contains ks
 |[]=>rfl
 |q :: kvs=>by
  by_cases h:q.1=ks
  .rw[dM,gV,ja (by rw[h]),gV,List.contains_cons,h];simp
  .rw[dM,gV,jb (λz=>h (mE (Sum.inr.inj z))),gV,List.contains_cons,show(ks==q.1)=false from by simp;exact λz=>h z.symm];exact yV kvs
def HW(g:Good G n sc N df X):dz X (compareOp .In) (gp X.K (fR .rN)):=by
 intro j s σ H x y v u Q I rx ry q;obtain⟨r,h,a,b,d,A,l,B,C,e,q⟩:=q;obtain⟨k,F,rfl,rfl⟩:=iV e;have c:Ev.rP a b A=some k:=by cases a<;>cases b<;>exact F
 unfold Ev.rP at c;split at c
 case h_2=>cases c
 rename_i J i;split at c
 case h_2=>cases c
 rename_i L z;cases c;obtain⟨p,M,P,_,W⟩:=l.bM z;obtain⟨Y,rfl,o⟩:=C.shape;rw[M]at o;cases o;have f:=B.shape;simp only[bP]at f;subst f;cases ry;refine N7 (Lf g.room) I (vW.k (k:=Sum.inr (aC J)) P) rx λZ I'=>?_;rw[yV];exact mG I' l q
end
theorem sA:∀(is:List Int) (i M:Int),M∈i :: is->(∀a,a∈i :: is->a<=M)->M=is.foldl max i
 |[],i,M,h,_=>by simpa using h
 |j :: is,i,M,h,g=>by
  refine sA is (max i j) M ?_ λa b=>?_
  .rcases List.mem_cons.mp h with rfl|h
   .exact List.mem_cons.mpr (.inl (by have:=g j (by simp);omega))
   .rcases List.mem_cons.mp h with rfl|h
    .exact List.mem_cons.mpr (.inl (by have:=g i (by simp);omega))
    .exact R9 _ h
  .rcases List.mem_cons.mp b with rfl|h
   .have c:=g j (by simp);have d:=g i (by simp);omega
   .exact g a (by simp[h])
def Eg {X:Cx}{G:Tb}{n:Nat}{sc:Scope}{N:List Str}{df:Bool}(g:Good G n sc N df X):ee X (.builtin "max") (rQ X.K (Ev.bZ .nA)):=by
 intro x s σ H xs us Q I r q;obtain⟨rr,h,L,d,P,y,A,e,q⟩:=q
 match L,e with
 |[.ref m],e=>
  obtain⟨e,rfl⟩:=Ev.aE e;simp only[JM,R4]at e;obtain⟨M,⟨f,⟨ds,W,Y⟩,B⟩,rfl⟩:=e;simp only[aB,RV]at A;obtain⟨v,w,rfl,⟨p,rfl,z⟩,rfl⟩:=A;obtain⟨u,rfl,Z⟩:=vals1 r;cases Z;obtain⟨p',vs,C,q1,w⟩:=y.read W;rw[z]at C;cases C;obtain⟨zs,pv,pl,_⟩:=I.list q1;have F:=pC Y w pv;cases f with
  |nil=>cases B
  |cons i f=>
   cases B;obtain⟨b,l⟩:=(F.allInts).items;have hl:s.heap.IsList p (intItems b):=by rw[<-l];exact pl.isList
   have c:i :: f=b.toList.map (·.1):=by rw[<-F.numsOf,<-nums_intItems,<-l]
   have o:0<b.size:=by
    have h3:=R8 List.length c;simp only[R3,Se]at h3;have:=TJ (xs:=b);omega
   refine max_intList (I.ok.hd g.calm) hl o λv P tk hv hk=>?_;obtain⟨t,rfl⟩:=intItems_at hv;obtain⟨h1,h2⟩:=argBest_gt (numAt b) (b.size - 1);have hM:numAt b (argBest (λi j=>decide (numAt b i > numAt b j)) (b.size - 1))=f.foldl max i:=by
    refine sA f i _ ?_ λa J=>?_
    .rw[c,numAt_eq];exact getD_mem (by rw[Se,TJ];omega)
    .rw[c]at J;obtain⟨j,hj,rfl⟩:=mem_getD J;rw[Se,TJ]at hj;rw[<-numAt_eq];exact h2 j (by omega)
   rw[hM];exact⟨.int (f.foldl max i),H,I.kept hk,⟨_,rfl⟩,q.here rfl y⟩
end Sm
namespace Pv
open Ev (D bF bu TY BI ME T E Es Eo It S Ss Fn big deep b2i rep bQ dG bH aI cut bW cX slots)
def nd{α:Type _}{a b:α}(h:a=b):a=b:=h
inductive V where
 |aY|bl (b:Bool)|int (i:Int)|str (s:List Nat)|tup (l:List V)|lst (l:List V)|bz (l:List V)
 |bM (kvs:List (List Nat×List Nat))
inductive Sl where
 |val (v:V)|own (l:List V)|bor (l:List V)|ro (l:List V)
abbrev Fr:=List (Option Sl)
inductive R(α:Type) where
 |ok (a:α) (fr:Fr)
 |bad
noncomputable def R.bind{α β:Type}(r:R α)(f:α->Fr->R β):R β:=
 match r with
 |.ok a h=>f a h
 |.bad=>.bad
@[simp] theorem ak{α β:Type}(a:α)(h:Fr)(f:α->Fr->R β):(R.ok a h).bind f=f a h:=nd rfl
@[simp] theorem AL{α β:Type}(f:α->Fr->R β):(R.bad:R α).bind f=.bad:=nd rfl
def ah{α β:Type}{r:R α}{f:α->Fr->R β}{b:β}{h:Fr}(e:r.bind f=.ok b h):∃a h1,r=.ok a h1/\f a h1=.ok b h:=by
 cases r with
 |ok a h1=>exact⟨a,h1,rfl,e⟩
 |bad=>cases e
noncomputable def R.of{α:Type}(o:Option α)(h:Fr):R α:=match o with
 |some a=>.ok a h
 |none=>.bad
@[simp] theorem dP{α:Type}(a:α)(h:Fr):R.of (some a) h=.ok a h:=nd rfl
@[simp] theorem of_none{α:Type}(h:Fr):R.of (none:Option α) h=.bad:=nd rfl
def aE{α:Type}{o:Option α}{h h':Fr}{a:α}(e:R.of o h=.ok a h'):o=some a/\h'=h:=by
 cases o with
 |none=>cases e
 |some b=>cases e;exact⟨rfl,rfl⟩
inductive Fl where
 |nx|bk|ct|ret (v:V)
mutual
noncomputable def ofD:D->Option V
 |.aY=>some .aY
 |.bl b=>some (.bl b)
 |.int i=>some (.int i)
 |.str s=>some (.str s)
 |.tup a=>(sC a).map .tup
 |.ref _=>none
noncomputable def sC:List D->Option (List V)
 |[]=>some []
 |d :: ds=>(ofD d).bind λv=>(sC ds).map λa=>v :: a
end
noncomputable def bV(f:V->V->Option Bool):List V->List V->Option Bool
 |[],[]=>some true
 |x :: xs,y :: ys=>(f x y).bind λb=>(bV f xs ys).bind λc=>some (b&&c)
 |_,_=>some false
noncomputable def cJ:Nat->V->V->Option Bool
 |0,_,_=>none
 |_+1,.aY,.aY=>some true
 |_+1,.bl a,.bl b=>some (a==b)
 |_+1,.int a,.int b=>some (a==b)
 |_+1,.bl a,.int b=>some (b2i a==b)
 |_+1,.int a,.bl b=>some (a==b2i b)
 |_+1,.str a,.str b=>some (a==b)
 |n+1,.tup a,.tup b=>bV (cJ n) a b
 |n+1,.lst a,.lst b=>bV (cJ n) a b
 |n+1,.bz a,.lst b=>bV (cJ n) a b
 |n+1,.lst a,.bz b=>bV (cJ n) a b
 |_+1,.bz _,.bz _=>none
 |_+1,.bM _,_=>none
 |_+1,_,.bM _=>none
 |_+1,_,_=>some false
noncomputable def truthy:V->Bool
 |.aY=>false
 |.bl b=>b
 |.int i=>i != 0
 |.str s=>!s.isEmpty
 |.tup a=>!a.isEmpty
 |.lst a=>!a.isEmpty
 |.bz a=>!a.isEmpty
 |.bM c=>!c.isEmpty
noncomputable def dZ(l:List V):Option V:=if l.length<=big then some (.lst l)else none
noncomputable def fG(l:List V):Option V:=if l.length<=big then some (.tup l)else none
noncomputable def bS:bF->V->V->Option V
 |.add,.int i,.int j=>some (.int (i+j))
 |.add,.str a,.str b=>if a.length+b.length<=big then some (.str (a++b))else none
 |.add,.tup a,.tup b=>if a.length+b.length<=big then some (.tup (a++b))else none
 |.add,.lst a,.lst b=>dZ (a++b)
 |.sub,.int i,.int j=>some (.int (i - j))
 |.mul,.int i,.int j=>if bQ i j then some (.int (i*j))else none
 |.mul,.str a,.int k=>if 0<=k/\k<=1000/\a.length<=1000 then some (.str (rep k.toNat a))else none
 |.mul,.tup a,.int k=>if 0<=k/\k<=1000/\a.length<=1000 then some (.tup (rep k.toNat a))else none
 |.mul,.lst a,.int k=>if 0<=k/\k<=1000/\a.length<=1000 then dZ (rep k.toNat a)else none
 |.fdiv,.int i,.int j=>if 0<j/\j<1073741824 then some (.int (i / j))else none
 |.mod,.int i,.int j=>if 0<j then some (.int (i % j))else none
 |_,_,_=>none
noncomputable def mem(x:V):List V->Option Bool
 |[]=>some false
 |y :: ys=>(cJ deep y x).bind λb=>(mem x ys).bind λc=>some (b ||c)
noncomputable def isin(x y:V):Option Bool:=match y with
 |.str s=>match x with
  |.str [c]=>some (s.contains c)
  |_=>none
 |.tup a=>mem x a
 |.lst a=>mem x a
 |.bz a=>mem x a
 |_=>none
noncomputable def A8:V->V->Option Bool
 |.str k,.bM kvs=>some ((kvs.map (·.1)).contains k)
 |_,_=>none
noncomputable def cop(o:bu)(x y:V):Option Bool:=match o,x,y with
 |.eq,x,y=>cJ deep x y
 |.ne,x,y=>(cJ deep x y).map (!·)
 |.lt,.int i,.int j=>some (decide (i<j))
 |.gt,.int i,.int j=>some (decide (j<i))
 |.isin,x,y=>isin x y
 |.ko,x,y=>(isin x y).map (!·)
 |.rN,x,y=>A8 x y
 |_,_,_=>none
noncomputable def A9:V->V->Option V
 |.bM kvs,.str k=>(Ev.Gx kvs k).bind λs=>if s=[]then none else some (.str s)
 |_,_=>none
noncomputable def dY(x y:V):Option V:=match x,y with
 |.tup ds,.int i=>bH ds i
 |.str s,.int i=>(bH s i).map λc=>.str [c]
 |.lst ds,.int i=>bH ds i
 |.bz ds,.int i=>bH ds i
 |_,_=>none
noncomputable def gk(x:V)(lo hi:Option Int):Option V:=match x with
 |.tup a=>some (.tup (cut a lo hi))
 |.str s=>some (.str (cut s lo hi))
 |.lst a=>dZ (cut a lo hi)
 |.bz a=>dZ (cut a lo hi)
 |_=>none
noncomputable def toT:V->Option V
 |.tup l=>some (.tup l)
 |.lst l=>fG l
 |.bz l=>fG l
 |_=>none
noncomputable def kO:V->Option V
 |.tup a=>some (.tup a.reverse)
 |.str s=>some (.str s.reverse)
 |.lst a=>dZ a.reverse
 |.bz a=>dZ a.reverse
 |_=>none
noncomputable def pH:V->Option V
 |.lst l=>fG l.reverse
 |_=>none
noncomputable def cG:V->TY->Bool
 |.bl _,.bool=>true
 |.bl _,.int=>true
 |.int _,.int=>true
 |.str _,.str=>true
 |.tup _,.tuple=>true
 |.lst _,.list=>true
 |.bz _,.list=>true
 |_,_=>false
noncomputable def boolsOf:List V->Option (List Bool)
 |[]=>some []
 |.bl b :: ds=>(boolsOf ds).map λr=>b :: r
 |_=>none
noncomputable def intsOf:List V->Option (List Int)
 |[]=>some []
 |.int i :: ds=>(intsOf ds).map λr=>i :: r
 |_=>none
noncomputable def strsOf:List V->Option (List (List Nat))
 |[]=>some []
 |.str s :: ds=>(strsOf ds).map λr=>s :: r
 |_=>none
noncomputable def iz:V->Option (List V)
 |.lst l=>some l
 |.bz l=>some l
 |_=>none
noncomputable def fD:List V->Option (List (List Nat))
 |[]=>some []
 |.tup [.str k,.bl true] :: ds=>(fD ds).map λr=>k :: r
 |_=>none
noncomputable def bZ(b:BI)(xs:List V):Option V:=match b,xs with
 |.len,[.str s]=>if s.length<=big then some (.int s.length)else none
 |.len,[.tup a]=>some (.int a.length)
 |.len,[x]=>(iz x).map λa=>.int a.length
 |.sum,[x]=>((iz x).bind intsOf).map λd=>.int d.sum
 |.min,[.int i,.int j]=>some (.int (if j<i then j else i))
 |.nA,[x]=>(((iz x).bind intsOf).bind Ev.ye).map .int
 |.lC,[x]=>((iz x).bind fD).bind λc=>if c≠[]/\c.length<=100000 then some (.bM (Ev.dk c))else none
 |_,_=>none
noncomputable def fh(m:ME)(o:V)(xs:List V):Option V:=match m,o,xs with
 |.join,.str sep,[x]=>((iz x).bind strsOf).bind λa=>if (a.map (·.length)).sum+a.length*sep.length<=big then some (.str (bW sep a))else none
 |_,_,_=>none
noncomputable def lI(m:ME)(l:List V)(xs:List V):Option (V×List V):=match m,xs with
 |.append,[x]=>if l.length<big then some (.aY,l++[x])else none
 |.extend,[.lst es]=>if l.length+es.length<=big then some (.aY,l++es)else none
 |.pop,[]=>match l[l.length - 1]? with
  |some x=>some (x,l.dropLast)
  |none=>none
 |_,_=>none
noncomputable def yW:ME->Bool
 |.extend=>true
 |_=>false
noncomputable def gW:ME->Bool
 |.append=>true
 |.extend=>true
 |.pop=>true
 |_=>false
noncomputable def qU:V->Bool
 |.aY=>true
 |.bl _=>true
 |.int _=>true
 |.str _=>true
 |_=>false
noncomputable def wN(x:V):List (D×D)->Option V
 |[]=>none
 | (k,v) :: r=>match (ofD k).bind λa=>cJ 1 a x with
  |some true=>ofD v
  |some false=>wN x r
  |none=>none
noncomputable def kq(x:V)(kvs:List (D×D)):Option V:=if qU x then wN x kvs else none
noncomputable def eK:V->Option (List V)
 |.tup a=>some a
 |.str s=>some (s.map λc=>.str [c])
 |.lst a=>some a
 |.bz a=>some a
 |_=>none
noncomputable def HX:V->Option (List V)
 |.tup a=>some a
 |_=>none
noncomputable def range(lo:Int)(n:Nat):List V:=(List.range n).map λ(i:Nat)=>.int (lo+i)
noncomputable def dB:List V->Option (List V)
 |[.int j]=>if -(2 ^ 62)<=j/\j<2 ^ 62 then some (range 0 j.toNat)else none
 |[.int i,.int j]=>if -(2 ^ 62)<=i/\i<2 ^ 62/\-(2 ^ 62)<=j/\j<2 ^ 62 then some (range i (j - i).toNat)else none
 |_=>none
noncomputable def cD(a b:List V):List V:=List.zipWith (λx y=>.tup [x,y]) a b
noncomputable def cH:Int->List V->List V
 |_,[]=>[]
 |k,x :: xs=>.tup [.int k,x] :: cH (k+1) xs
noncomputable def jX(a:List Nat):List V:=a.map λc=>.str [c]
noncomputable def Ba:V->Option (List V)
 |.str a=>some (cH 0 (jX a))
 |_=>none
noncomputable def wO:V->V->Option (List V)
 |.str a,.str b=>some (cD (jX a) (jX b))
 |_,_=>none
noncomputable def put(fr:Fr)(i:Nat)(s:Sl):Option Fr:=match fr[i]? with
 |some (some (.bor _))=>none
 |some (some (.ro _))=>none
 |_=>some (fr.set i (some s))
noncomputable def cg:List Nat->List V->Fr->Option Fr
 |[],[],fr=>some fr
 |i :: is,d :: ds,fr=>(put fr i (.val d)).bind (cg is ds)
 |_,_,_=>none
noncomputable def bT:T->V->Fr->Option Fr
 |.one i,d,fr=>put fr i (.val d)
 |.many l,.tup ds,fr=>cg l ds fr
 |_,_,_=>none
noncomputable def undef(t:T)(fr:Fr):Bool:=(slots t).all λi=>(fr[i]?.join).isNone
noncomputable def Sl.read:Sl->Sl
 |.own l=>.ro l
 |.bor l=>.ro l
 |s=>s
noncomputable def m8(fr:Fr):Fr:=fr.map (Option.map Sl.read)
noncomputable def Sl.cL:Sl->Sl
 |.own l=>.val (.lst l)
 |s=>s
noncomputable def eL(fr:Fr):Fr:=fr.map (Option.map Sl.cL)
noncomputable def pI(e:E)(fr:Fr):Fr:=match e with
 |.v j=>fr.modify j (Option.map Sl.cL)
 |_=>fr
noncomputable def Sl.walk:Sl->Sl
 |.own l=>.val (.lst l)
 |.bor l=>.ro l
 |s=>s
noncomputable def qX(is:List Nat)(fr:Fr):Fr:=is.foldl (λfr i=>match fr[i]? with
 |some (some s)=>fr.set i (some s.walk)
 |_=>fr) fr
noncomputable def Sl.out:Sl->Option (List V)
 |.bor l=>some l
 |.ro l=>some l
 |_=>none
noncomputable def Sl.lend:Sl->Option Sl
 |.own l=>some (.bor l)
 |.bor l=>some (.bor l)
 |.ro l=>some (.ro l)
 |.val _=>none
noncomputable def lent(fr:Fr)(i:Nat):Option Sl:=match fr[i]? with
 |some (some s)=>s.lend
 |_=>none
noncomputable def Sl.with:Sl->List V->Sl
 |.own _,l=>.own l
 |.bor _,l=>.bor l
 |s,_=>s
noncomputable def back:List Nat->List (List V)->Fr->Option Fr
 |[],[],fr=>some fr
 |i :: is,l :: ls,fr=>match fr[i]? with
  |some (some s)=>back is ls (fr.set i (some (s.with l)))
  |_=>none
 |_,_,_=>none
noncomputable def cz(f:V->Option (Option V)):List V->Option (List V)
 |[]=>some []
 |d :: ds=>(f d).bind λo=>(cz f ds).bind λr=>some (o.toList++r)
noncomputable def forL(f:V->Fr->R Fl):List V->Fr->R Fl
 |[],fr=>.ok .nx fr
 |d :: ds,fr=>(f d fr).bind λp a=>match p with
   |.nx=>forL f ds a
   |.ct=>forL f ds a
   |.bk=>.ok .nx a
   |.ret x=>.ok (.ret x) a
noncomputable def dD(t:Fr->R Bool)(f:Fr->R Fl):Nat->Fr->R Fl
 |0,_=>.bad
 |n+1,fr=>(t fr).bind λb c=>if b then (f c).bind λp a=>match p with
   |.nx=>dD t f n a
   |.ct=>dD t f n a
   |.bk=>.ok .nx a
   |.ret x=>.ok (.ret x) a
  else .ok .nx c
noncomputable def iu:Es->List Nat
 |.nil=>[]
 |.cons (.v i) a=>i :: iu a
 |.cons _ a=>iu a
noncomputable def CA(m:ME):E->List Nat
 |.v i=>if gW m then [i]else []
 |_=>[]
mutual
noncomputable def ay:E->List Nat
 |.c _=>[]|.v _=>[]|.tup d=>cO d|.lst d=>cO d
 |.bin _ a b=>ay a++ay b|.cmp _ a b=>ay a++ay b
 |.nt a=>ay a|.neg a=>ay a|.an a b=>ay a++ay b|.orr a b=>ay a++ay b|.qw t a b=>ay t++(ay a++ay b)
 |.ix a b=>ay a++ay b|.sl a lo hi=>ay a++(gr lo++gr hi)
 |.rv a=>ay a
 |.jS a=>ay a
 |.cl _ d=>cO d++iu d|.bi _ d=>cO d|.me m o d=>ay o++(cO d++CA m o)
 |.jt a _=>ay a
 |.comp _ _ e _=>sD e
 |.dJ e=>sD e
 |.qx _=>[]|.rO a k=>ay a++ay k
 |.iw a=>ay a
noncomputable def cO:Es->List Nat
 |.nil=>[]
 |.cons e a=>ay e++cO a
noncomputable def gr:Eo->List Nat
 |.no=>[]
 |.yes e=>ay e
noncomputable def sD:It->List Nat
 |.seq e=>ay e|.eS es=>cO es
 |.zip a b=>ay a++ay b
 |.jc a=>ay a|.jd a b=>ay a++ay b
 |.rev a=>ay a
end
noncomputable def kf(a:E)(l:List Nat):Bool:=match a with
 |.v i=>!l.contains i
 |_=>l.isEmpty
noncomputable def itv:It->List Nat
 |.seq (.v i)=>[i]
 |.rev (.v i)=>[i]
 |.zip (.v i) (.v j)=>[i,j]
 |.zip (.v i) _=>[i]
 |.zip _ (.v j)=>[j]
 |_=>[]
abbrev aH:=Nat->List Sl->Option (V×List (List V))
noncomputable def intOf:V->Option Int
 |.int i=>some i
 |_=>none
noncomputable def jI(k:Bool)(fr:Fr)(i:Nat):Option V:=match fr[i]? with
 |some (some (.val v))=>some v
 |some (some (.own l))=>if k then some (.lst l)else none
 |some (some (.bor l))=>if k then some (.lst l)else none
 |some (some (.ro l))=>if k then some (.lst l)else none
 |_=>none
noncomputable def wQ(k:Bool)(fr:Fr)(i:Nat):Option V:=match fr[i]? with
 |some (some (.ro l))=>some (.lst l)
 |_=>jI k fr i
noncomputable def src(k:Bool)(fr:Fr)(e:E)(r:R V):R V:=match e with
 |.v i=>R.of (wQ k fr i) fr
 |_=>r
noncomputable def jY(fr:Fr):E->Option Nat
 |.v i=>if (lent fr i).isSome then some i else none
 |_=>none
noncomputable def args(fr:Fr):List (Nat ⊕ V)->Option (List Sl)
 |[]=>some []
 |.inl i :: r=>(lent fr i).bind λs=>(args fr r).map λl=>s :: l
 |.inr v :: r=>(args fr r).map λl=>.val v :: l
noncomputable def bG:List (Nat ⊕ V)->List Nat
 |[]=>[]
 |.inl i :: r=>i :: bG r
 |.inr _ :: r=>bG r
noncomputable def cY(P:aH)(f:Nat)(as:List (Nat ⊕ V))(fr:Fr):R V:=
 if (bG as).Nodup then match args fr as with
  |some a=>match P f a with
   |some (v,outs)=>R.of ((back (bG as) outs fr).map λb=>(v,b)) fr |>.bind λp _=>.ok p.1 p.2
   |none=>.bad
  |none=>.bad
 else .bad
mutual
noncomputable def ev(P:aH):Bool->E->Fr->R V
 |_,.c d,fr=>R.of (ofD d) fr
 |k,.v i,fr=>R.of (jI k fr i) fr
 |_,.tup es,fr=>(bI P false es fr).bind λh e=>R.of (fG h) e
 |_,.lst es,fr=>(bI P false es fr).bind λh e=>R.of (dZ h) e
 |_,.bin o a b,fr=>(ev P (kf a (ay b)) a fr).bind λx e=>(ev P true b e).bind λy g=>R.of (bS o x y) g
 |_,.cmp o a b,fr=>(ev P (kf a (ay b)) a fr).bind λx e=>(ev P true b e).bind λy g=>R.of ((cop o x y).map .bl) g
 |_,.qx kvs,fr=>if kvs=[]then .bad else .ok (.bM kvs) fr
 |_,.rO a b,fr=>(ev P (kf a (ay b)) a fr).bind λx e=>(ev P true b e).bind λy g=>R.of (A9 x y) g
 |_,.nt a,fr=>(ev P true a fr).bind λx e=>match x with
   |.bl b=>.ok (.bl (!b)) e
   |_=>.bad
 |_,.neg a,fr=>(ev P true a fr).bind λx e=>match x with
   |.int i=>.ok (.int (-i)) e
   |_=>.bad
 |k,.an a b,fr=>(ev P true a fr).bind λx e=>match x with
   |.bl true=>ev P k b e
   |.bl false=>.ok (.bl false) e
   |_=>.bad
 |k,.orr a b,fr=>(ev P true a fr).bind λx e=>match x with
   |.bl true=>.ok (.bl true) e
   |.bl false=>ev P k b e
   |_=>.bad
 |k,.qw t a b,fr=>(aD P t fr).bind λc e=>if c then ev P k a e else ev P k b e
 |_,.ix a b,fr=>(ev P (kf a (ay b)) a fr).bind λx e=>(ev P true b e).bind λy g=>R.of (dY x y) g
 |_,.sl a lo hi,fr=>(ev P (kf a (gr lo++gr hi)) a fr).bind λx e=>(eX P lo e).bind λl g=>(eX P hi g).bind λu j=>R.of (gk x l u) j
 |_,.rv a,fr=>(ev P true a fr).bind λx e=>R.of (kO x) e
 |_,.jS a,fr=>(ev P true a fr).bind λx e=>R.of (pH x) e
 |_,.cl f es,fr=>(eY P es fr).bind λp e=>cY P f p e
 |_,.bi b es,fr=>(bI P true es fr).bind λh e=>R.of (bZ b h) e
 |_,.me m o es,fr=>if gW m then match jY fr o with
   |some i=>(bI P (yW m) es fr).bind λh e=>match e[i]? with
    |some (some (.own l))=>match lI m l h with
     |some (v,l')=>.ok v (e.set i (some (.own l')))
     |none=>.bad
    |some (some (.bor l))=>match lI m l h with
     |some (v,l')=>.ok v (e.set i (some (.bor l')))
     |none=>.bad
    |_=>.bad
   |none=>.bad
  else (ev P (kf o (cO es)) o fr).bind λx e=>(bI P true es e).bind λh g=>R.of (fh m x h) g
 |_,.jt a ts,fr=>(ev P true a fr).bind λx e=>.ok (.bl (ts.any (cG x))) e
 |_,.comp elt t it cond,fr=>(bJ P true it fr).bind λs e=>if undef t e then
   R.of ((cz (λd=>match bT t d (m8 e)with
    |none=>none
    |some g=>match gm P cond g with
     |.ok c _=>if c then (match ev P false elt g with|.ok x _=>some (some x)|.bad=>none)else some none
     |.bad=>none) s).bind dZ) e else .bad
 |_,.dJ it,fr=>(bJ P true it fr).bind λs e=>R.of (dZ s) e
 |_,.iw a,fr=>(ev P true a fr).bind λx e=>R.of (toT x) e
termination_by _ e=>(sizeOf e,0)
noncomputable def bI(P:aH):Bool->Es->Fr->R (List V)
 |_,.nil,fr=>.ok [] fr
 |k,.cons e es,fr=>(ev P (k&&kf e (cO es)) e fr).bind λd a=>(bI P k es a).bind λb c=>.ok (d :: b) c
termination_by _ e=>(sizeOf e,0)
noncomputable def eY(P:aH):Es->Fr->R (List (Nat ⊕ V))
 |.nil,fr=>.ok [] fr
 |.cons e es,fr=>match jY fr e with
   |some i=>(eY P es fr).bind λr a=>.ok (.inl i :: r) a
   |none=>(ev P false e fr).bind λd a=>(eY P es a).bind λr b=>.ok (.inr d :: r) b
termination_by e=>(sizeOf e,0)
noncomputable def eX(P:aH):Eo->Fr->R (Option Int)
 |.no,fr=>.ok none fr
 |.yes e,fr=>(ev P true e fr).bind λd a=>R.of ((intOf d).map some) a
termination_by e=>(sizeOf e,0)
noncomputable def gm(P:aH):Eo->Fr->R Bool
 |.no,fr=>.ok true fr
 |.yes e,fr=>aD P e fr
termination_by e=>(sizeOf e,0)
noncomputable def aD(P:aH):E->Fr->R Bool
 |.an a b,fr=>(aD P a fr).bind λk c=>if k then aD P b c else .ok false c
 |.orr a b,fr=>(aD P a fr).bind λk c=>if k then .ok true c else aD P b c
 |.nt a,fr=>(aD P a fr).bind λk c=>.ok (!k) c
 |e,fr=>(ev P true e fr).bind λx c=>.ok (truthy x) c
termination_by e=>(sizeOf e,1)
noncomputable def bJ(P:aH):Bool->It->Fr->R (List V)
 |k,.seq e,fr=>(src k fr e (ev P k e fr)).bind λx c=>R.of (eK x) c
 |_,.eS es,fr=>(bI P true es fr).bind λf c=>R.of (dB f) c
 |k,.zip a b,fr=>(src (k&&kf a (ay b)) fr a (ev P (k&&kf a (ay b)) a fr)).bind λx c=>(src k c b (ev P k b c)).bind λy d=>R.of ((iz x).bind λs=>(iz y).map λt=>cD s t) d
 |_,.jc a,fr=>(ev P true a fr).bind λx c=>R.of (Ba x) c
 |_,.jd a b,fr=>(ev P (kf a (ay b)) a fr).bind λx c=>(ev P true b c).bind λy d=>R.of (wO x y) d
 |_,.rev a,fr=>(ev P true a fr).bind λx c=>R.of ((HX x).map λs=>s.reverse) c
termination_by _ e=>(sizeOf e,0)
end
noncomputable def isNew:E->Bool
 |.lst _=>true
 |.dJ _=>true
 |_=>false
mutual
noncomputable def ex(P:aH)(w:Nat):S->Fr->R Fl
 |.set i e,fr=>(ev P false e (pI e fr)).bind λx c=>if isNew e then (match x with
   |.lst l=>(R.of (put c i (.own l)) c).bind λf _=>.ok .nx f
   |_=>.bad)
  else (R.of (put c i (.val x)) c).bind λf _=>.ok .nx f
 |.exp e,fr=>(ev P true e fr).bind λ_ c=>.ok .nx c
 |.ret e,fr=>(ev P false e (eL fr)).bind λx c=>.ok (.ret x) c
 |.iff t a b,fr=>(aD P t fr).bind λk c=>if k then exs P w a c else exs P w b c
 |.for t it b,fr=>(bJ P false it (qX (itv it) fr)).bind λs c=>forL (λd f=>match bT t d f with
   |some g=>exs P w b g
   |none=>.bad) s c
 |.jT t b,fr=>dD (λf=>aD P t f) (λf=>exs P w b f) w fr
 |.fJ _,_=>.bad
noncomputable def exs(P:aH)(w:Nat):Ss->Fr->R Fl
 |.nil,fr=>.ok .nx fr
 |.cons s ss,fr=>(ex P w s fr).bind λp a=>match p with
   |.nx=>exs P w ss a
   |p=>.ok p a
end
noncomputable def ek(fn:Fn)(ds:List Sl):Fr:=ds.map some++List.replicate (fn.ns - fn.np) none
noncomputable def outs(np:Nat)(fr:Fr):List (List V):=(fr.take np).filterMap λo=>o.bind Sl.out
noncomputable def HY(_:Fn)(_:List Sl):Option (V×List (List V)):=none
noncomputable def run(F:List Fn)(w:Nat):Nat->aH
 |0,_,_=>none
 |n+1,f,ds=>match F[f]? with
  |some a=>if ds.length=a.np then match exs (run F w n) w a.body (ek a ds)with
    |.ok (.ret v) fr=>some (v,outs a.np fr)
    |.ok .nx fr=>some (.aY,outs a.np fr)
    |_=>HY a ds
   else none
  |none=>none
def nP(F:List Fn)(w n f:Nat)(ds:List Sl):run F w (n+1) f ds=match F[f]? with
  |some a=>if ds.length=a.np then match exs (run F w n) w a.body (ek a ds)with
    |.ok (.ret v) fr=>some (v,outs a.np fr)
    |.ok .nx fr=>some (.aY,outs a.np fr)
    |_=>HY a ds
   else none
  |none=>none:=nd rfl
end Pv
namespace Pv
open Ev (D O Hh bF bu TY BI ME T E Es Eo It S Ss Fn big deep b2i rep bQ dG bH aI cut bW cX slots aL)
section
variable(h:Hh)(S:Nat->Prop)
mutual
def Rep:V->D->Prop
 |.aY,d=>d=.aY
 |.bl b,d=>d=.bl b
 |.int i,d=>d=.int i
 |.str s,d=>d=.str s
 |.tup l,d=>∃ds,d=.tup ds/\aq l ds
 |.lst l,d=>∃n ds,d=.ref n/\S n/\h[n]?=some (.lst ds)/\aq l ds
 |.bz l,d=>∃n ds,d=.ref n/\S n/\h[n]?=some (.bz ds)/\aq l ds
 |.bM kvs,d=>∃n,d=.ref n/\S n/\h[n]?=some (.bM kvs)
def aq:List V->List D->Prop
 |[],ds=>ds=[]
 |v :: vs,ds=>∃d es,ds=d :: es/\Rep v d/\aq vs es
end
def aO:V->D->Prop
 |.lst l,d=>∃n ds,d=.ref n/\h[n]?=some (.lst ds)/\aq h S l ds
 |v,d=>Rep h S v d
def fc:List V->List D->Prop
 |[],ds=>ds=[]
 |v :: vs,ds=>∃d es,ds=d :: es/\aO h S v d/\fc vs es
end
abbrev U:Nat->Prop:=λ_=>True
section
variable{h h':Hh}{S S':Nat->Prop}
mutual
theorem Rep.mono(f:∀m,S m->h'[m]?=h[m]?)(g:∀m,S m->S' m):∀{v:V}{d:D},Rep h S v d->Rep h' S' v d
 |.aY,_,q=>q
 |.bl _,_,q=>q
 |.int _,_,q=>q
 |.str _,_,q=>q
 |.tup l,_,⟨ds,a,b⟩=>⟨ds,a,aq.mono f g b⟩
 |.lst l,_,⟨n,ds,a,b,c,e⟩=>⟨n,ds,a,g n b,by rw[f n b];exact c,aq.mono f g e⟩
 |.bz l,_,⟨n,ds,a,b,c,e⟩=>⟨n,ds,a,g n b,by rw[f n b];exact c,aq.mono f g e⟩
 |.bM kvs,_,⟨n,a,b,c⟩=>⟨n,a,g n b,by rw[f n b];exact c⟩
theorem aq.mono(f:∀m,S m->h'[m]?=h[m]?)(g:∀m,S m->S' m):∀{v:List V}{d:List D},aq h S v d->aq h' S' v d
 |[],_,q=>q
 |_ :: _,_,⟨d,es,a,b,c⟩=>⟨d,es,a,Rep.mono f g b,aq.mono f g c⟩
end
def aq.nil:aq h S [] []:=by simp[aq]
def aq.cons{v:V}{d:D}{vs:List V}{ds:List D}(a:Rep h S v d)(b:aq h S vs ds):aq h S (v :: vs) (d :: ds):=by simp only[aq];exact⟨d,ds,rfl,a,b⟩
def Rep.top{v:V}{d:D}(q:Rep h S v d):aO h S v d:=by
 cases v<;>first|exact q | (obtain⟨n,f,a,b,c,e⟩:=q;exact⟨n,f,a,c,e⟩)
def aO.u{v:V}{d:D}(q:aO h S v d):Rep h U v d:=by
 cases v with
 |lst l=>obtain⟨n,e,a,b,c⟩:=q;exact⟨n,e,a,trivial,b,c.mono (λ_ _=>rfl) λ_ _=>trivial⟩
 |_=>exact Rep.mono (S:=S) (λ_ _=>rfl) (λ_ _=>trivial) q
def aq.u{v:List V}{d:List D}(q:aq h S v d):aq h U v d:=q.mono (λ_ _=>rfl) λ_ _=>trivial
theorem aO.mono{v:V}{d:D}(f:∀m,m<h.length->h'[m]?=h[m]?)(k:∀m,S m->m<h.length)(g:∀m,S m->S' m)(q:aO h S v d):aO h' S' v d:=by
 cases v with
 |lst l=>
  obtain⟨n,e,a,b,c⟩:=q;exact⟨n,e,a,by rw[f n (List.getElem?_eq_some_iff.mp b).1];exact b,c.mono (λm z=>f m (k m z)) g⟩
 |_=>exact Rep.mono (λm z=>f m (k m z)) g q
theorem aq.length:∀{v:List V}{d:List D},aq h S v d->v.length=d.length
 |[],_,q=>by simp only[aq]at q;subst q;rfl
 |_ :: _,_,q=>by simp only[aq]at q;obtain⟨d,a,rfl,_,c⟩:=q;simp[c.length]
theorem aq.get:∀{v:List V}{d:List D}{i:Nat}{x:V},aq h S v d->v[i]?=some x->∃y,d[i]?=some y/\Rep h S x y
 |[],_,_,_,_,e=>by simp at e
 |_ :: _,_,0,_,q,e=>by
  simp only[aq]at q;obtain⟨d,f,rfl,b,_⟩:=q;simp at e;subst e;exact⟨d,by simp,b⟩
 |_ :: _,_,i+1,_,q,e=>by
  simp only[aq]at q;obtain⟨d,f,rfl,_,c⟩:=q;obtain⟨y,a,b⟩:=c.get (i:=i) (by simpa using e);exact⟨y,by simpa using a,b⟩
theorem aq.append:∀{v w:List V}{d e:List D},aq h S v d->aq h S w e->aq h S (v++w) (d++e)
 |[],_,_,_,a,b=>by simp only[aq]at a;subst a;simpa using b
 |_ :: _,_,_,_,a,b=>by
  simp only[aq]at a;obtain⟨d,c,rfl,x,y⟩:=a;exact .cons x (y.append b)
theorem aq.take:∀{v:List V}{d:List D}(n:Nat),aq h S v d->aq h S (v.take n) (d.take n)
 |_,_,0,_=>by simp[aq]
 |[],_,_+1,a=>by simp only[aq]at a;subst a;simp[aq]
 |_ :: _,_,n+1,a=>by
  simp only[aq]at a;obtain⟨d,b,rfl,x,y⟩:=a;simp only[Sq];exact .cons x (y.take n)
theorem aq.drop:∀{v:List V}{d:List D}(n:Nat),aq h S v d->aq h S (v.drop n) (d.drop n)
 |_,_,0,a=>by simpa using a
 |[],_,_+1,a=>by simp only[aq]at a;subst a;simp[aq]
 |_ :: _,_,n+1,a=>by
  simp only[aq]at a;obtain⟨d,b,rfl,x,y⟩:=a;simp only[TH];exact y.drop n
theorem aq.set:∀{v:List V}{d:List D}(j:Nat) {x:V}{y:D},aq h S v d->Rep h S x y->aq h S (v.set j x) (d.set j y)
 |[],_,_,_,_,a,_=>by simp only[aq]at a;subst a;simp[aq]
 |_ :: _,_,0,_,_,a,b=>by
  simp only[aq]at a;obtain⟨d,c,rfl,x,y⟩:=a;exact .cons b y
 |_ :: _,_,j+1,_,_,a,b=>by
  simp only[aq]at a;obtain⟨d,c,rfl,x,y⟩:=a;exact .cons x (y.set j b)
theorem aq.dropLast:∀{v:List V}{d:List D},aq h S v d->aq h S v.dropLast d.dropLast:=λ{v d} a=>by
 rw[T6,T6,a.length];exact a.take _
theorem aq.reverse:∀{v:List V}{d:List D},aq h S v d->aq h S v.reverse d.reverse
 |[],_,a=>by simp only[aq]at a;subst a;simp[aq]
 |_ :: _,_,a=>by
  simp only[aq]at a;obtain⟨d,b,rfl,x,y⟩:=a;simp only[R6];exact y.reverse.append (.cons x .nil)
theorem aq.rep{v:List V}{d:List D}(a:aq h S v d):∀k:Nat,aq h S (Ev.rep k v) (Ev.rep k d)
 |0=>by simp[Ev.rep,aq]
 |k+1=>by
  have z:=aq.rep a k;simp only[Ev.rep,RU,S6]at z ⊢;exact a.append z
theorem aq.cut{v:List V}{d:List D}(a:aq h S v d)(lo hi:Option Int):aq h S (Ev.cut v lo hi) (Ev.cut d lo hi):=by
 unfold Ev.cut;rw[a.length];exact(a.drop _).take _
theorem aq.map{α:Type}{f:α->V}{g:α->D}(q:∀a,Rep h S (f a) (g a)):∀l:List α,aq h S (l.map f) (l.map g)
 |[]=>.nil
 |_ :: l=>.cons (q _) (aq.map q l)
mutual
theorem Rep.uniq:∀{v w:V}{d:D},Rep h U v d->Rep h U w d->v=w
 |.aY,w,_,a,b=>by simp only[Rep]at a;subst a;cases w<;>simp[Rep]at b<;>rfl
 |.bl _,w,_,a,b=>by simp only[Rep]at a;subst a;cases w<;>simp[Rep]at b<;>rw[b]
 |.int _,w,_,a,b=>by simp only[Rep]at a;subst a;cases w<;>simp[Rep]at b<;>rw[b]
 |.str _,w,_,a,b=>by simp only[Rep]at a;subst a;cases w<;>simp[Rep]at b<;>rw[b]
 |.tup l,w,_,a,b=>by
  simp only[Rep]at a;obtain⟨g,rfl,a⟩:=a;cases w<;>simp[Rep]at b
  rw[aq.uniq a b]
 |.lst l,w,_,a,b=>by
  simp only[Rep]at a;obtain⟨n,g,rfl,_,e,a⟩:=a;cases w<;>simp[Rep]at b
  .obtain⟨f,c,b⟩:=b;rw[e]at c;cases c;rw[aq.uniq a b]
  .obtain⟨f,c,b⟩:=b;rw[e]at c;cases c
  .rw[e]at b;cases b
 |.bz l,w,_,a,b=>by
  simp only[Rep]at a;obtain⟨n,g,rfl,_,e,a⟩:=a;cases w<;>simp[Rep]at b
  .obtain⟨f,c,b⟩:=b;rw[e]at c;cases c
  .obtain⟨f,c,b⟩:=b;rw[e]at c;cases c;rw[aq.uniq a b]
  .rw[e]at b;cases b
 |.bM kvs,w,_,a,b=>by
  simp only[Rep]at a;obtain⟨n,rfl,_,e⟩:=a;cases w<;>simp[Rep]at b
  .obtain⟨f,c,b⟩:=b;rw[e]at c;cases c
  .obtain⟨f,c,b⟩:=b;rw[e]at c;cases c
  .rw[e]at b;cases b;rfl
theorem aq.uniq:∀{v w:List V}{d:List D},aq h U v d->aq h U w d->v=w
 |[],w,_,a,b=>by simp only[aq]at a;subst a;cases w<;>simp[aq]at b;rfl
 |x :: xs,w,_,a,b=>by
  simp only[aq]at a;obtain⟨d,l,rfl,c,f⟩:=a;cases w<;>simp only[aq]at b
  .cases b
  obtain⟨o,g,e,i,j⟩:=b;cases e;rw[Rep.uniq c i,aq.uniq f j]
end
theorem sE{n:Nat}(f:∀v b,cJ n v v=some b->b=true):∀l b,bV (cJ n) l l=some b->b=true
 |[],b,e=>by simp[bV]at e;exact e
 |x :: xs,b,e=>by
  simp only[bV,R4]at e;obtain⟨c,a,d,g,e⟩:=e;rw[f x c a,sE f xs d g]at e;simpa using e.symm
theorem sF:∀n v b,cJ n v v=some b->b=true
 |0,_,_,e=>by cases e
 |n+1,v,b,e=>by
  cases v<;>first|exact sE (sF n) _ _ e | (cases e<;>first|rfl|exact VM _)
theorem sG{n:Nat}(f:∀{v w:V}{d e:D}{b},cJ n v w=some b->Rep h U v d->Rep h U w e->Ev.fV h n d e=some b):∀{l m:List V}{ds es:List D}{b},bV (cJ n) l m=some b->aq h U l ds->aq h U m es->Ev.bV (Ev.fV h n) ds es=some b
 |[],[],_,_,b,e,p,q=>by simp only[aq]at p q;subst p q;simpa[bV,Ev.bV]using e
 |[],_ :: _,_,_,b,e,p,q=>by simp only[aq]at p q;subst p;obtain⟨_,_,rfl,_⟩:=q;simpa[bV,Ev.bV]using e
 |_ :: _,[],_,_,b,e,p,q=>by simp only[aq]at p q;subst q;obtain⟨_,_,rfl,_⟩:=p;simpa[bV,Ev.bV]using e
 |x :: xs,y :: ys,_,_,b,e,p,q=>by
  simp only[aq]at p q;obtain⟨d,ds,rfl,a,g⟩:=p;obtain⟨A,i,rfl,j,o⟩:=q;simp only[bV,R4]at e;obtain⟨c,r,B,z,e⟩:=e;simp[Ev.bV,f r a j,sG f z g o];simpa using e
def fj{n:Nat}{ds:List D}(q:h[n]?=some (.lst ds)):aL h n=some ds:=by simp[aL,q]
def fS{n:Nat}{ds:List D}(q:h[n]?=some (.bz ds)):aL h n=some ds:=by simp[aL,q]
theorem jh:∀(n:Nat) {v w:V}{d e:D}{b},cJ n v w=some b->Rep h U v d->Rep h U w e->Ev.fV h n d e=some b
  |0,_,_,_,_,_,e,_,_=>by cases e
  |n+1,v,w,d,e,b,x,p,q=>by
    by_cases r:∃m,d=.ref m/\e=.ref m
    . obtain⟨m,rfl,rfl⟩:=r;have l:=p.uniq q;subst l;have y:=sF _ _ _ x;subst y;cases v<;>simp[Rep]at p
      . obtain⟨f,g,A⟩:=p;show Ev.je _ _ _ _=_;rw[Ev.je,gQ rfl,fj g];rfl
      . obtain⟨f,g,A⟩:=p;show Ev.je _ _ _ _=_;rw[Ev.je,gQ rfl,fS g];rfl
      . cases x
    . cases v<;>cases w<;>simp only[Rep]at p q <;>
      first
      | (subst p;subst q;exact x)
      | (obtain⟨f,rfl,p⟩:=p;subst q;exact x)
      | (obtain⟨f,rfl,q⟩:=q;subst p;exact x)
      | (obtain⟨f,rfl,p⟩:=p;obtain⟨j,rfl,q⟩:=q;exact sG (λa b c=>jh n a b c) x p q)
      | (cases x;done)
      | (obtain⟨m,f,rfl,_,g,p⟩:=p;obtain⟨k,j,rfl,_,i,q⟩:=q
         have o:m≠k:=λz=>r ⟨m,rfl,by rw[z]⟩;show Ev.je _ _ _ _=_;rw[Ev.je,R0 o,g,i];exact sG (λa b c=>jh n a b c) x p q)
      | (cases x;obtain⟨m,f,rfl,_,g,p⟩:=p;subst q;exact R8 (Option.map λ_=>false) (fj g))
      | (cases x;obtain⟨m,f,rfl,_,g,p⟩:=p;subst q;exact R8 (Option.map λ_=>false) (fS g))
      | (cases x;obtain⟨m,f,rfl,_,g,p⟩:=p;obtain⟨j,rfl,q⟩:=q;exact R8 (Option.map λ_=>false) (fj g))
      | (cases x;obtain⟨m,f,rfl,_,g,p⟩:=p;obtain⟨j,rfl,q⟩:=q;exact R8 (Option.map λ_=>false) (fS g))
      | (cases x;obtain⟨m,f,rfl,_,i,q⟩:=q;subst p;exact R8 (Option.map λ_=>false) (fj i))
      | (cases x;obtain⟨m,f,rfl,_,i,q⟩:=q;subst p;exact R8 (Option.map λ_=>false) (fS i))
      | (cases x;obtain⟨m,f,rfl,_,i,q⟩:=q;obtain⟨j,rfl,p⟩:=p;exact R8 (Option.map λ_=>false) (fj i))
      | (cases x;obtain⟨m,f,rfl,_,i,q⟩:=q;obtain⟨j,rfl,p⟩:=p;exact R8 (Option.map λ_=>false) (fS i))
end
structure Al(h:Hh)(S:Nat->Prop)(h':Hh)(S':Nat->Prop):Prop where
 len:h.length<=h'.length
 keep:∀m,m<h.length->h'[m]?=h[m]?
 sub:∀m,S m->S' m
 new:∀m,S' m->S m\/(h.length<=m/\m<h'.length)
section
variable{h h':Hh}{S S':Nat->Prop}
def Al.refl:Al h S h S:=⟨oM _,λ_ _=>rfl,λ_ q=>q,λ_ q=>.inl q⟩
def Al.snoc(o:O):Al h S (h++[o]) (λm=>S m\/m=h.length) where
 len:=by simp
 keep:=λm q=>by rw[gE q]
 sub:=λ_ q=>.inl q
 new:=λm q=>by
  rcases q with q|q
  .exact .inl q
  .subst q;exact .inr ⟨oM _,by simp⟩
def gu{l:List V}{v:V}{ds:List D}(w:∀m,S m->m<h.length)(e:dZ l=some v)(q:aq h S l ds):∃r h' S',Ev.alloc ds h=.ok r h'/\Rep h' S' v r/\Al h S h' S':=by
 unfold dZ at e;split at e
 .rename_i z;cases e;refine⟨.ref h.length,h++[.lst ds],λm=>S m\/m=h.length,by unfold Ev.alloc;rw[gQ (by rw[<-q.length];exact z)],?_,Al.snoc _⟩;simp only[Rep];refine⟨h.length,ds,rfl,.inr rfl,by simp,q.mono (λm z=>?_) λ_ z=>.inl z⟩;rw[gE (w m z)]
 .cases e
def jZ{v:V}{l:List V}{d:D}(e:iz v=some l)(q:aO h S v d):∃n ds,d=.ref n/\aL h n=some ds/\aq h S l ds:=by
 cases v<;>simp[iz]at e
 .subst e;simp only[aO]at q;obtain⟨n,ds,rfl,a,b⟩:=q;exact⟨n,ds,rfl,fj a,b⟩
 .subst e;simp only[aO,Rep]at q;obtain⟨n,ds,rfl,_,a,b⟩:=q;exact⟨n,ds,rfl,fS a,b⟩
mutual
theorem lJ:∀{d:D}{v:V},ofD d=some v->Rep h S v d
 |.aY,_,e=>by simp[ofD]at e;subst e;simp[Rep]
 |.bl _,_,e=>by simp[ofD]at e;subst e;simp[Rep]
 |.int _,_,e=>by simp[ofD]at e;subst e;simp[Rep]
 |.str _,_,e=>by simp[ofD]at e;subst e;simp[Rep]
 |.ref _,_,e=>by simp[ofD]at e
 |.tup ds,_,e=>by
  simp[ofD]at e;obtain⟨a,e,rfl⟩:=e;exact⟨ds,rfl,uX e⟩
theorem uX:∀{d:List D}{v:List V},sC d=some v->aq h S v d
 |[],_,e=>by simp[sC]at e;subst e;exact .nil
 |d :: ds,_,e=>by
  simp only[sC,R4,JM]at e;obtain⟨v,a,c,b,rfl⟩:=e;exact .cons (lJ a) (uX b)
end
def aq.emp{l:List V}{ds:List D}(q:aq h S l ds):ds.isEmpty=l.isEmpty:=by
 have:=q.length;cases l<;>cases ds<;>simp at this ⊢
def yX{v:V}{d:D}(q:aO h S v d):Ev.truthy h d=some (truthy v):=by
 cases v<;>simp only[aO,Rep]at q
 .subst q;rfl
 .subst q;rfl
 .subst q;rfl
 .subst q;rfl
 .obtain⟨b,rfl,q⟩:=q;simp only[Ev.truthy,truthy,q.emp]
 .obtain⟨n,b,rfl,a,q⟩:=q;simp only[Ev.truthy,truthy,fj a,Option.map,q.emp];first|done|rw[a]
 .obtain⟨n,b,rfl,_,a,q⟩:=q;simp only[Ev.truthy,truthy,fS a,Option.map,q.emp];first|done|rw[a]
 .obtain⟨n,rfl,_,a⟩:=q;simp only[Ev.truthy,truthy];rw[a]
def nn{α:Type}{v:α}{p:Prop}(z:none=some v):p:=Option.noConfusion rfl (heq_of_eq z)
def HZ{o:bF}{x y v:V}{d e:D}(w:∀m,S m->m<h.length)(z:bS o x y=some v)(p:aO h S x d)(q:aO h S y e):∃r h' S',Ev.bS o d e h=.ok r h'/\Rep h' S' v r/\Al h S h' S':=by
 cases o<;>cases x<;>first|exact nn z | (cases y<;>first|exact nn z|skip)
 all_goals (delta bS at z;dsimp only at z;simp only[aO,Rep]at p q)
 .subst p q;cases z;exact⟨_,_,S,rfl,rfl,.refl⟩
 .subst p q;split at z
  .rename_i k;cases z;exact⟨_,_,S,by delta Ev.bS;dsimp only;rw[gQ k],rfl,.refl⟩
  .cases z
 .obtain⟨c,rfl,p⟩:=p;obtain⟨f,rfl,q⟩:=q;split at z
  .rename_i k;cases z;exact⟨_,_,S,by delta Ev.bS;dsimp only;rw[gQ (by rw[<-p.length,<-q.length];exact k)],⟨_,rfl,p.append q⟩,.refl⟩
  .cases z
 .obtain⟨n,c,rfl,a,p⟩:=p;obtain⟨m,f,rfl,b,q⟩:=q
  delta Ev.bS;dsimp only;simp only[a,b]
  exact gu w z (p.append q)
 .subst p q;cases z;exact⟨_,_,S,rfl,rfl,.refl⟩
 .subst p q;split at z
  .rename_i k;cases z;exact⟨_,_,S,by delta Ev.bS;dsimp only;rw[gQ k],rfl,.refl⟩
  .cases z
 .subst p q;split at z
  .rename_i k;cases z;exact⟨_,_,S,by delta Ev.bS;dsimp only;rw[gQ k],rfl,.refl⟩
  .cases z
 .obtain⟨c,rfl,p⟩:=p;subst q;split at z
  .rename_i k;cases z;exact⟨_,_,S,by delta Ev.bS;dsimp only;rw[gQ (by rw[<-p.length];exact k)],⟨_,rfl,p.rep _⟩,.refl⟩
  .cases z
 .obtain⟨n,c,rfl,a,p⟩:=p;subst q;split at z
  .rename_i k
   delta Ev.bS;dsimp only;simp only[a]
   rw[gQ (by rw[<-p.length];exact k)];exact gu w z (p.rep _)
  .cases z
 .subst p q;split at z
  .rename_i k;cases z;exact⟨_,_,S,by delta Ev.bS;dsimp only;rw[gQ k],rfl,.refl⟩
  .cases z
 .subst p q;split at z
  .rename_i k;cases z;exact⟨_,_,S,by delta Ev.bS;dsimp only;rw[gQ k],rfl,.refl⟩
  .cases z
theorem nW{x:V}{d:D}(p:Rep h U x d):∀{l:List V}{ds:List D}{b},mem x l=some b->aq h U l ds->Ev.mem h d ds=some b
 |[],_,b,e,q=>by simp only[aq]at q;subst q;simpa[mem,Ev.mem]using e
 |y :: ys,_,b,e,q=>by
  simp only[aq]at q;obtain⟨j,ds,rfl,a,f⟩:=q;simp only[mem,R4]at e;obtain⟨c,g,o,i,e⟩:=e;simp[Ev.mem,jh deep g a p,nW p i f];simpa using e
def uY{x y:V}{d e:D}{b:Bool}(z:isin x y=some b)(p:Rep h U x d)(q:Rep h U y e):Ev.isin d e h=some b:=by
 cases y<;>simp only[isin,reduceCtorEq]at z<;>simp only[Rep]at q
 .subst q;split at z
  .simp only[Rep]at p;subst p;simpa[Ev.isin]using z
  .cases z
 .obtain⟨c,rfl,q⟩:=q;simpa[Ev.isin]using nW p z q
 .obtain⟨n,c,rfl,_,a,q⟩:=q;simpa[Ev.isin,fj a]using nW p z q
 .obtain⟨n,c,rfl,_,a,q⟩:=q;simpa[Ev.isin,fS a]using nW p z q
def Ia{x y:V}{d e:D}{b:Bool}(z:A8 x y=some b)(p:Rep h U x d)(q:Rep h U y e):Ev.rP d e h=some b:=by
 unfold A8 at z;split at z
 .simp only[Rep]at p q;obtain⟨n,rfl,_,a⟩:=q;subst p;cases z;simp only[Ev.rP,a]
 .cases z
theorem yY:∀{l:List V}{ks:List (List Nat)}{ds:List D},fD l=some ks->aq h S l ds->Ev.fD ds=some ks
 |[],ks,ds,e,q=>by cases e;simp only[aq]at q;subst q;rfl
 |v :: l,ks,ds,e,q=>by
  unfold fD at e;split at e
  .rename_i z;cases z
  .rename_i k g z;cases z;obtain⟨a,b,rfl⟩:=Option.map_eq_some_iff.mp e;simp only[aq,Rep]at q;obtain⟨d,i,rfl,⟨c,rfl,j,f,rfl,rfl,o,QX,rfl,rfl,rfl⟩,q⟩:=q;simp only[Ev.fD,yY b q];rfl
  .cases e
def Ib{o:bu}{x y:V}{d e:D}{b:Bool}(z:cop o x y=some b)(p:Rep h U x d)(q:Rep h U y e):Ev.cop o d e h=some b:=by
 cases o
 case eq=>delta cop at z;dsimp only at z;delta Ev.cop;dsimp only;exact jh deep z p q
 case ne=>
  delta cop at z;dsimp only at z;simp only[JM]at z;obtain⟨c,z,rfl⟩:=z
  delta Ev.cop;dsimp only;simp only[jh deep z p q];rfl
 case isin=>delta cop at z;dsimp only at z;delta Ev.cop;dsimp only;exact uY z p q
 case ko=>
  delta cop at z;dsimp only at z;simp only[JM]at z;obtain⟨c,z,rfl⟩:=z
  delta Ev.cop;dsimp only;simp only[uY z p q];rfl
 case rN=>delta cop at z;dsimp only at z;delta Ev.cop;dsimp only;exact Ia z p q
 all_goals (
  cases x<;>first|exact nn z | (cases y<;>first|exact nn z|skip)
  simp only[Rep]at p q;subst p q;exact z)
def wR{l:List V}{ds:List D}{i:Int}{v:V}(e:bH l i=some v)(q:aq h S l ds):∃d,bH ds i=some d/\Rep h S v d:=by
 unfold bH at e ⊢;rw[q.length]at e;cases z:dG ds.length i with
 |none=>rw[z]at e;cases e
 |some j=>rw[z]at e;exact q.get e
def Ic{x y v:V}{d e:D}(z:dY x y=some v)(p:aO h S x d)(q:aO h S y e):∃r,Ev.dY d e h=some r/\Rep h S v r:=by
 cases x<;>cases y<;>simp only[dY,reduceCtorEq]at z<;>simp only[aO,Rep]at p q
 .subst p q;simp only[JM]at z;obtain⟨c,z,rfl⟩:=z;exact⟨.str [c],by simp[Ev.dY,z],rfl⟩
 .obtain⟨b,rfl,p⟩:=p;subst q;simpa[Ev.dY]using wR z p
 .obtain⟨n,b,rfl,a,p⟩:=p;subst q;simpa[Ev.dY,fj a]using wR z p
 .obtain⟨n,b,rfl,_,a,p⟩:=p;subst q;simpa[Ev.dY,fS a]using wR z p
def Ie{x v:V}{d:D}{lo hi:Option Int}(w:∀m,S m->m<h.length)(z:gk x lo hi=some v)(p:aO h S x d):∃r h' S',Ev.gk d lo hi h=.ok r h'/\Rep h' S' v r/\Al h S h' S':=by
 cases x<;>simp only[gk,reduceCtorEq]at z<;>simp only[aO,Rep]at p
 .subst p;cases z;exact⟨_,_,S,rfl,rfl,.refl⟩
 .obtain⟨b,rfl,p⟩:=p;cases z;exact⟨_,_,S,rfl,⟨_,rfl,p.cut _ _⟩,.refl⟩
 .obtain⟨n,b,rfl,a,p⟩:=p;simp only[Ev.gk,fj a];exact gu w z (p.cut _ _)
 .obtain⟨n,b,rfl,_,a,p⟩:=p;simp only[Ev.gk,fS a];exact gu w z (p.cut _ _)
def Ig{x v:V}{d:D}(w:∀m,S m->m<h.length)(z:kO x=some v)(p:aO h S x d):∃r h' S',Ev.kO d h=.ok r h'/\Rep h' S' v r/\Al h S h' S':=by
 cases x<;>simp only[kO,reduceCtorEq]at z<;>simp only[aO,Rep]at p
 .subst p;cases z;exact⟨_,_,S,rfl,rfl,.refl⟩
 .obtain⟨b,rfl,p⟩:=p;cases z;exact⟨_,_,S,rfl,⟨_,rfl,p.reverse⟩,.refl⟩
 .obtain⟨n,b,rfl,a,p⟩:=p;simp only[Ev.kO,fj a];exact gu w z p.reverse
 .obtain⟨n,b,rfl,_,a,p⟩:=p;simp only[Ev.kO,fS a];exact gu w z p.reverse
def Eh{x v:V}{d:D}(z:pH x=some v)(p:aO h S x d):∃r,Ev.v5 d h=.ok r h/\Rep h S v r:=by
 cases x<;>simp only[pH,reduceCtorEq]at z<;>simp only[aO,Rep]at p
 obtain⟨n,b,rfl,a,p⟩:=p;unfold fG at z;split at z
 .rename_i k;cases z;refine⟨.tup b.reverse,?_,⟨_,rfl,p.reverse⟩⟩;rw[List.length_reverse]at k;simp only[Ev.v5,fj a];rw[gQ (by rw[<-p.length];exact k)]
 .cases z
def Ih{x v:V}{d:D}(z:toT x=some v)(p:aO h S x d):∃r,Ev.o6 d h=.ok r h/\Rep h S v r:=by
 cases x<;>simp only[toT,reduceCtorEq]at z<;>simp only[aO,Rep]at p
 .obtain⟨b,rfl,p⟩:=p;cases z;exact⟨_,rfl,⟨_,rfl,p⟩⟩
 .obtain⟨n,b,rfl,a,p⟩:=p;unfold fG at z;split at z
  .rename_i k;cases z;refine⟨.tup b,?_,⟨_,rfl,p⟩⟩;simp only[Ev.o6,fj a];rw[gQ (by rw[<-p.length];exact k)]
  .cases z
 .obtain⟨n,b,rfl,_,a,p⟩:=p;unfold fG at z;split at z
  .rename_i k;cases z;refine⟨.tup b,?_,⟨_,rfl,p⟩⟩;simp only[Ev.o6,fS a];rw[gQ (by rw[<-p.length];exact k)]
  .cases z
def uZ{x:V}{l:List V}{d:D}(z:iz x=some l)(p:aO h S x d):∃s,Ev.o7 h d=some s/\aq h S l s.1/\(∀q∈s.2,d=.ref q.1/\aL h q.1=some q.2):=by
 obtain⟨n,b,rfl,a,q⟩:=jZ z p;exact⟨(b,[(n,b)]),by simp[Ev.o7,a],q,by simp[a]⟩
def Ei{x:V}{d:D}(p:aO h S x d)(t:TY):Ev.cG h d t=cG x t:=by
 cases x<;>simp only[aO,Rep]at p
 .subst p;cases t<;>rfl
 .subst p;cases t<;>rfl
 .subst p;cases t<;>rfl
 .subst p;cases t<;>rfl
 .obtain⟨_,rfl,_⟩:=p;cases t<;>rfl
 .obtain⟨n,b,rfl,a,p⟩:=p;cases t<;>simp[Ev.cG,cG,fj a]
 .obtain⟨n,b,rfl,_,a,p⟩:=p;cases t<;>simp[Ev.cG,cG,fS a]
 .obtain⟨n,rfl,_,a⟩:=p;cases t<;>simp[Ev.cG,cG,Ev.aL,a]
theorem Bb:∀{l:List V}{ds:List D}{bs},boolsOf l=some bs->aq h S l ds->Ev.boolsOf ds=some bs
 |[],_,_,e,q=>by simp only[aq]at q;subst q;exact e
 |x :: xs,_,bs,e,q=>by
  cases x<;>simp only[boolsOf,reduceCtorEq,JM]at e
  obtain⟨r,e,rfl⟩:=e;simp only[aq,Rep]at q;obtain⟨_,ds,rfl,rfl,q⟩:=q;simp[Ev.boolsOf,Bb e q]
theorem pJ:∀{l:List V}{ds:List D}{bs},intsOf l=some bs->aq h S l ds->Ev.intsOf ds=some bs
 |[],_,_,e,q=>by simp only[aq]at q;subst q;exact e
 |x :: xs,_,bs,e,q=>by
  cases x<;>simp only[intsOf,reduceCtorEq,JM]at e
  obtain⟨r,e,rfl⟩:=e;simp only[aq,Rep]at q;obtain⟨_,ds,rfl,rfl,q⟩:=q;simp[Ev.intsOf,pJ e q]
theorem u5:∀{l:List V}{ds:List D}{bs},strsOf l=some bs->aq h S l ds->Ev.strsOf ds=some bs
 |[],_,_,e,q=>by simp only[aq]at q;subst q;exact e
 |x :: xs,_,bs,e,q=>by
  cases x<;>simp only[strsOf,reduceCtorEq,JM]at e
  obtain⟨r,e,rfl⟩:=e;simp only[aq,Rep]at q;obtain⟨_,ds,rfl,rfl,q⟩:=q;simp[Ev.strsOf,u5 e q]
def fc.one{v:V}{ds:List D}(q:fc h S [v] ds):∃d,ds=[d]/\aO h S v d:=by
 simp only[fc]at q;obtain⟨d,b,rfl,a,rfl⟩:=q;exact⟨d,rfl,a⟩
def Ii{b:BI}{xs:List V}{v:V}{ds:List D}(w:∀m,S m->m<h.length)(z:bZ b xs=some v)(p:fc h S xs ds):∃r h' S',Ev.bZ b ds h=.ok r h'/\Rep h' S' v r/\Al h S h' S':=by
 delta bZ at z
 rcases xs with _|⟨x,_|⟨y,_|⟨u,xs⟩⟩⟩
 .cases b<;>exact nn z
 .obtain⟨d,rfl,c⟩:=p.one;cases b
  case len=>
   cases x
   case str s=>
    dsimp only at z;simp only[aO,Rep]at c;subst c;split at z
    .rename_i k;cases z;exact⟨_,_,S,by delta Ev.bZ;dsimp only;rw[gQ k],rfl,.refl⟩
    .cases z
   case tup l=>
    dsimp only at z;simp only[aO,Rep]at c;obtain⟨e,rfl,o⟩:=c;cases z;exact⟨_,_,S,rfl,by simp[Rep,o.length],.refl⟩
   all_goals
    dsimp only at z;simp only[JM]at z;obtain⟨l,z,rfl⟩:=z;obtain⟨n,e,rfl,a,q⟩:=jZ z c;exact⟨.int e.length,h,S,by delta Ev.bZ;dsimp only;simp[a],by simp[Rep,q.length],.refl⟩
  case sum=>
   dsimp only at z;simp only[JM,R4]at z;obtain⟨bs,⟨l,z,f⟩,rfl⟩:=z;obtain⟨n,e,rfl,a,q⟩:=jZ z c;exact⟨_,_,S,by delta Ev.bZ;dsimp only;simp only[a,Option.bind,pJ f q];rfl,rfl,.refl⟩
  case min=>cases x<;>exact nn z
  case nA=>
   dsimp only at z;simp only[JM,R4]at z;obtain⟨bs,⟨C,⟨l,z,f⟩,g⟩,rfl⟩:=z;obtain⟨n,e,rfl,a,q⟩:=jZ z c;exact⟨_,_,S,by delta Ev.bZ;dsimp only;simp only[a,Option.bind,pJ f q,g];rfl,rfl,.refl⟩
  case lC=>
   dsimp only at z;simp only[R4]at z;obtain⟨A,⟨l,z,f⟩,g⟩:=z;obtain⟨n,e,rfl,a,q⟩:=jZ z c;split at g
   .rename_i B;cases g;refine⟨.ref h.length,h++[.bM (Ev.dk A)],λm=>S m\/m=h.length,?_,⟨h.length,rfl,.inr rfl,by simp⟩,Al.snoc _⟩
    delta Ev.bZ;dsimp only;simp only[a,Option.bind,yY f q]
    rw[gQ B]
   .cases g
 .cases b
  case min=>
   cases x
   case int i=>
    cases y
    case int j=>
     dsimp only at z;simp only[fc,aO,Rep]at p;obtain⟨_,_,rfl,rfl,_,_,rfl,rfl,rfl⟩:=p;cases z;exact⟨_,_,S,rfl,rfl,.refl⟩
    all_goals exact nn z
   all_goals exact nn z
  case len=>cases x<;>exact nn z
  all_goals exact nn z
 .cases b
  case min=>cases x <;> (try cases y)<;>exact nn z
  case len=>cases x<;>exact nn z
  all_goals exact nn z
def Ij{m:ME}{o:V}{xs:List V}{v:V}{d:D}{ds:List D}(z:fh m o xs=some v)(hm:gW m=false)(po:aO h S o d)(p:fc h S xs ds):Ev.uH m d h=true/\∃r,Ev.fh m d ds h=.ok r h/\Rep h S v r:=by
 unfold fh at z;split at z
 .obtain⟨d,rfl,c⟩:=p.one;simp only[aO,Rep]at po;subst po;simp only[R4]at z;obtain⟨f,⟨l,z,e⟩,b⟩:=z;obtain⟨n,g,rfl,a,q⟩:=jZ z c;split at b
  .rename_i k;cases b;refine⟨rfl,_,?_,rfl⟩
   delta Ev.fh;dsimp only;simp only[a,Option.bind,u5 e q]
   rw[gQ k]
  .cases b
 .cases z
def Ej{x:V}{d:D}(f:qU x=true)(p:Rep h U x d):Rep [] U x d:=by
 cases x<;>simp only[qU,Si]at f<;>exact p
def Oq{x:V}{d:D}(p:Rep h U x d):∀{kvs:List (D×D)}{v:V},kq x kvs=some v->∃r,Ev.kq d kvs=some r/\Rep h S v r:=by
 intro kvs v z;unfold kq at z;split at z
 .rename_i f;have c:=Ej f p;induction kvs with
  |nil=>cases z
  |cons e r g=>
   obtain⟨k,u⟩:=e;simp only[wN]at z;simp only[Ev.kq];split at z
   .rename_i y;simp only[R4]at y;obtain⟨i,a,b⟩:=y;rw[jh 1 b (lJ a) c];exact⟨u,rfl,lJ z⟩
   .rename_i y;simp only[R4]at y;obtain⟨i,a,b⟩:=y;rw[jh 1 b (lJ a) c];exact g z
   .cases z
 .cases z
def Bc{x:V}{l:List V}{d:D}(z:eK x=some l)(p:aO h S x d):∃s,Ev.eK h d=some s/\aq h S l s.1/\(∀q∈s.2,d=.ref q.1/\aL h q.1=some q.2):=by
 cases x<;>simp only[eK,reduceCtorEq]at z<;>simp only[aO,Rep]at p
 .subst p;cases z;exact⟨_,rfl,aq.map (f:=λc=>V.str [c]) (g:=λc=>D.str [c]) (λ_=>by simp[Rep]) _,by simp⟩
 .obtain⟨b,rfl,p⟩:=p;cases z;exact⟨_,rfl,p,by simp⟩
 .obtain⟨n,b,rfl,a,p⟩:=p;cases z;exact⟨(b,[(n,b)]),by simp[Ev.eK,fj a],p,by simp[fj a]⟩
 .obtain⟨n,b,rfl,_,a,p⟩:=p;cases z;exact⟨(b,[(n,b)]),by simp[Ev.eK,fS a],p,by simp[fS a]⟩
def sH(lo:Int)(n:Nat):aq h S (range lo n) (Ev.range lo n):=aq.map (f:=λ(i:Nat)=>V.int (lo+i)) (g:=λ(i:Nat)=>D.int (lo+i)) (λ_=>by simp[Rep]) _
def Ik{xs l:List V}{ds:List D}(z:dB xs=some l)(p:fc h S xs ds):∃s,Ev.dB ds=some (s,[])/\aq h S l s:=by
 unfold dB at z;split at z
 .obtain⟨d,rfl,a⟩:=p.one;simp only[aO,Rep]at a;subst a;split at z
  .rename_i k;cases z;exact⟨_,by simp only[Ev.dB];rw[gQ k],sH _ _⟩
  .cases z
 .simp only[fc,aO,Rep]at p;obtain⟨_,_,rfl,rfl,_,_,rfl,rfl,rfl⟩:=p;split at z
  .rename_i k;cases z;exact⟨_,by simp only[Ev.dB];rw[gQ k],sH _ _⟩
  .cases z
 .cases z
theorem sI:∀{a b:List V}{ds es:List D},aq h S a ds->aq h S b es->aq h S (cD a b) (Ev.cD ds es)
 |[],_,_,_,p,q=>by simp only[aq]at p;subst p;simp[cD,Ev.cD,aq]
 |_ :: _,[],_,_,p,q=>by simp only[aq]at q;subst q;simp[cD,Ev.cD,aq]
 |x :: xs,y :: ys,_,_,p,q=>by
  simp only[aq]at p q;obtain⟨d,ds,rfl,c,f⟩:=p;obtain⟨e,es,rfl,g,i⟩:=q;have:=sI f i;simp only[cD,Ev.cD,List.zipWith_cons_cons]at this ⊢;exact .cons ⟨_,rfl,.cons c (.cons g .nil)⟩ this
theorem u6:∀{a:List V}{ds:List D}(k:Int),aq h S a ds->aq h S (cH k a) (Ev.cH k ds)
 |[],_,_,p=>by simp only[aq]at p;subst p;simp[cH,Ev.cH,aq]
 |x :: xs,_,k,p=>by
  simp only[aq]at p;obtain⟨d,ds,rfl,b,c⟩:=p;simp only[cH,Ev.cH];exact .cons ⟨_,rfl,.cons rfl (.cons b .nil)⟩ (u6 _ c)
end
def jP(M B:Nat->Prop)(h:Hh)(S:Nat->Prop):Option Sl->Option D->Prop
 |none,p=>p=none
 |some (.val v),p=>∃d,p=some d/\Rep h S v d
 |some (.own l),p=>∃m ds,p=some (.ref m)/\(M m/\¬ B m)/\h[m]?=some (.lst ds)/\aq h S l ds
 |some (.bor l),p=>∃m ds,p=some (.ref m)/\(M m/\B m)/\h[m]?=some (.lst ds)/\aq h S l ds
 |some (.ro l),p=>∃m ds,p=some (.ref m)/\¬ M m/\h[m]?=some (.lst ds)/\aq h S l ds
noncomputable def oO:Sl->List D->O
 |_,ds=>.lst ds
noncomputable def fY:Option Sl->Bool
 |some (.own _)=>true
 |some (.bor _)=>true
 |_=>false
noncomputable def u7:Option Sl->Bool
 |some (.bor _)=>true
 |some (.ro _)=>true
 |_=>false
noncomputable def locked(fr:Fr)(i:Nat):Bool:=match fr[i]? with
 |some o=>u7 o
 |none=>false
structure aT(M B:Nat->Prop)(h:Hh)(S:Nat->Prop)(fr:Fr)(aj:Ev.Fr):Prop where
 wS:∀m,S m->m<h.length/\¬ M m/\¬ B m
 wM:∀m,M m->m<h.length
 wB:∀m,B m->m<h.length
 len:fr.length=aj.length
 sl:∀(i:Nat) o p,fr[i]?=some o->aj[i]?=some p->jP M B h S o p
 inj:∀(i j:Nat) o o' m,fr[i]?=some o->fr[j]?=some o'->fY o=true->fY o'=true->aj[i]?=some (some (.ref m))->aj[j]?=some (some (.ref m))->i=j
structure Tk(X:Nat->Prop)(h:Hh)(S:Nat->Prop)(h':Hh)(S':Nat->Prop):Prop where
 len:h.length<=h'.length
 keep:∀m,m<h.length->¬ X m->h'[m]?=h[m]?
 sub:∀m,S m->S' m
 new:∀m,S' m->S m\/(h.length<=m/\m<h'.length)
def Xs(M:Nat->Prop)(aj:Ev.Fr)(l:List Nat):Nat->Prop:=λm=>M m/\∃i∈l,aj[i]?=some (some (.ref m))
structure Out(M B:Nat->Prop)(c:List Nat)(h:Hh)(S:Nat->Prop)(fr:Fr)(aj:Ev.Fr)(h':Hh)(S':Nat->Prop)(af:Fr):Prop where
 f:aT M B h' S' af aj
 tr:Tk (Xs M aj c) h S h' S'
 lk:∀i,locked af i=locked fr i
section
variable{M B:Nat->Prop}{h h' h1 h2:Hh}{S S' S1 S2:Nat->Prop}{fr af ao:Fr}{aj:Ev.Fr}{c c1 c2:List Nat}{v:V}{d:D}{X X1 X2:Nat->Prop}
def aT.get(f:aT M B h S fr aj){i:Nat}{o:Option Sl}(e:fr[i]?=some o):∃p,aj[i]?=some p/\jP M B h S o p:=by
 have h1:=(List.getElem?_eq_some_iff.mp e).1;rw[f.len]at h1;exact⟨aj[i],RZ h1,f.sl i o _ e (RZ h1)⟩
def aT.w(f:aT M B h S fr aj):∀m,S m->m<h.length:=λm q=>(f.wS m q).1
def Al.tr(a:Al h S h' S'):Tk X h S h' S':=⟨a.len,λm q _=>a.keep m q,a.sub,a.new
 ⟩
def Tk.al(t:Tk X h S h' S')(z:∀m,¬ X m):Al h S h' S':=⟨t.len,λm q=>t.keep m q (z m),t.sub,t.new⟩
def Tk.weak(t:Tk X h S h' S')(q:∀m,X m->X1 m):Tk X1 h S h' S':=⟨t.len,λm k z=>t.keep m k λy=>z (q m y),t.sub,t.new
 ⟩
def Tk.trans(a:Tk X1 h S h1 S1)(b:Tk X2 h1 S1 h2 S2):Tk (λm=>X1 m\/X2 m) h S h2 S2 where
 len:=Sa a.len b.len
 keep:=λm q z=>by rw[b.keep m (zP q a.len) (λy=>z (.inr y)),a.keep m q (λy=>z (.inl y))]
 sub:=λm q=>b.sub m (a.sub m q)
 new:=λm q=>by
  rcases b.new m q with q|⟨e,f⟩
  .rcases a.new m q with q|⟨e,f⟩
   .exact .inl q
   .exact .inr ⟨e,zP f b.len⟩
  .exact .inr ⟨Sa a.len e,f⟩
theorem Al.trans(a:Al h S h1 S1)(b:Al h1 S1 h2 S2):Al h S h2 S2:=((a.tr (X:=λ_=>False)).trans (b.tr (X:=λ_=>False))).al λm z=>by simp at z
def Tk.refl:Tk X h S h S:=⟨oM _,λ_ _ _=>rfl,λ_ q=>q,λ_ q=>.inl q
 ⟩
def Xs.app{l1 l2:List Nat}{m:Nat}:Xs M aj (l1++l2) m↔Xs M aj l1 m\/Xs M aj l2 m:=by
 unfold Xs;constructor
 .rintro⟨a,i,b,e⟩;rcases List.mem_append.mp b with b|b
  .exact .inl ⟨a,i,b,e⟩
  .exact .inr ⟨a,i,b,e⟩
 .rintro(⟨a,i,b,e⟩|⟨a,i,b,e⟩)
  .exact⟨a,i,List.mem_append.mpr (.inl b),e⟩
  .exact⟨a,i,List.mem_append.mpr (.inr b),e⟩
def Xs.nil{m:Nat}:¬ Xs M aj [] m:=by rintro⟨_,i,hi,_⟩;simp at hi
def Xs.mono{l1 l2:List Nat}(q:∀i∈l1,i∈l2){m:Nat}:Xs M aj l1 m->Xs M aj l2 m:=λ⟨a,i,b,e⟩=>⟨a,i,q i b,e⟩
def Rep.tr(q:Rep h S v d)(f:aT M B h S fr aj)(t:Tk (Xs M aj c) h S h' S'):Rep h' S' v d:=q.mono (λm z=>t.keep m (f.wS m z).1 (λy=>(f.wS m z).2.1 y.1)) t.sub
def aq.tr{l:List V}{ds:List D}(q:aq h S l ds)(f:aT M B h S fr aj)(t:Tk (Xs M aj c) h S h' S'):aq h' S' l ds:=q.mono (λm z=>t.keep m (f.wS m z).1 (λy=>(f.wS m z).2.1 y.1)) t.sub
def aO.tr(q:aO h S v d)(f:aT M B h S fr aj)(t:Tk X h S h' S')(z:∀m,¬ X m):aO h' S' v d:=q.mono (λm k=>t.keep m k (z m)) f.w t.sub
def jP.al{o:Option Sl}{p:Option D}(q:jP M B h S o p)(w:∀m,S m->m<h.length)(a:Al h S h' S'):jP M B h' S' o p:=by
 have k:∀m,S m->h'[m]?=h[m]?:=λm z=>a.keep m (w m z);have g:∀(m:Nat) (b:O),h[m]?=some b->h'[m]?=some b:=λm b z=>by rw[a.keep m (List.getElem?_eq_some_iff.mp z).1];exact z
 rcases o with _|s
 .exact q
 .cases s with
  |val v=>obtain⟨d,e,q⟩:=q;exact⟨d,e,q.mono k a.sub⟩
  |own l=>obtain⟨m,b,e,z,y,q⟩:=q;exact⟨m,b,e,z,g m _ y,q.mono k a.sub⟩
  |bor l=>obtain⟨m,b,e,z,y,q⟩:=q;exact⟨m,b,e,z,g m _ y,q.mono k a.sub⟩
  |ro l=>obtain⟨m,b,e,z,y,q⟩:=q;exact⟨m,b,e,z,g m _ y,q.mono k a.sub⟩
theorem aT.al(f:aT M B h S fr aj)(a:Al h S h' S'):aT M B h' S' fr aj where
 wS:=λm q=>by
  rcases a.new m q with q|⟨j,b⟩
  .exact⟨zP (f.wS m q).1 a.len,(f.wS m q).2⟩
  .exact⟨b,λz=>by have:=f.wM m z;omega,λz=>by have:=f.wB m z;omega⟩
 wM:=λm q=>zP (f.wM m q) a.len
 wB:=λm q=>zP (f.wB m q) a.len
 len:=f.len
 sl:=λi o p e g=>(f.sl i o p e g).al f.w a
 inj:=f.inj
theorem Out.refl(f:aT M B h S fr aj):Out M B c h S fr aj h S fr:=⟨f,.refl,λ_=>rfl⟩
theorem Out.trans(a:Out M B c1 h S fr aj h1 S1 af)(b:Out M B c2 h1 S1 af aj h2 S2 ao):Out M B (c1++c2) h S fr aj h2 S2 ao:=⟨b.f,(a.tr.trans b.tr).weak λm z=>Xs.app.mpr z,λi=>(b.lk i).trans (a.lk i)⟩
theorem Out.al(a:Out M B c h S fr aj h1 S1 af)(b:Al h1 S1 h2 S2):Out M B c h S fr aj h2 S2 af:=⟨a.f.al b,(a.tr.trans (b.tr (X:=λ_=>False))).weak (λm z=>by rcases z with z|z;exact z;exact z.elim),a.lk⟩
theorem Out.weak(a:Out M B c h S fr aj h1 S1 af)(q:∀i∈c,i∈c1):Out M B c1 h S fr aj h1 S1 af:=⟨a.f,a.tr.weak λm z=>Xs.mono q z,a.lk⟩
def eN(k:Bool)(h:Hh)(S:Nat->Prop)(v:V)(d:D):Prop:=if k=true then aO h S v d else Rep h S v d
def eN.of{k:Bool}(q:Rep h S v d):eN k h S v d:=by unfold eN;split;exact q.top;exact q
def eN.t{k:Bool}(q:eN k h S v d):aO h S v d:=by unfold eN at q;split at q;exact q;exact q.top
def eN.n(q:eN false h S v d):Rep h S v d:=by simpa[eN]using q
def aT.slot(f:aT M B h S fr aj){i m:Nat}(e:aj[i]?=some (some (.ref m)))(hm:M m):∃o,fr[i]?=some o/\fY o=true:=by
 have b:i<fr.length:=by rw[f.len];exact(List.getElem?_eq_some_iff.mp e).1
 refine⟨fr[i],RZ b,?_⟩;have s:=f.sl i _ _ (RZ b) e
 revert s
 generalize fr[i]=o
 intro s;rcases o with _|j
 .cases s
 .cases j with
  |own l=>rfl
  |bor l=>rfl
  |ro l=>obtain⟨p,g,e,y,_⟩:=s;cases e;exact absurd hm y
  |val v=>
   obtain⟨d,e,q⟩:=s;cases e;exfalso;cases v<;>simp only[Rep,reduceCtorEq]at q
   .obtain⟨_,e,_⟩:=q;cases e
   .obtain⟨n,g,e,a,_⟩:=q;cases e;exact(f.wS _ a).2.1 hm
   .obtain⟨n,g,e,a,_⟩:=q;cases e;exact(f.wS _ a).2.1 hm
   .obtain⟨n,e,a,_⟩:=q;cases e;exact(f.wS _ a).2.1 hm
theorem eN.tr{k:Bool}{a:E}(q:eN k h S v d)(f:aT M B h S fr aj)(t:Tk (Xs M aj c) h S h' S')(hk:k=true->kf a c=true)(ha:∀i,a=.v i->aj[i]?.join=some d):eN k h' S' v d:=by
 unfold eN at q ⊢;split at q
 .rename_i e;rw[gQ e];have hk:=hk e;have b:c=[]->aO h' S' v d:=λz=>q.tr f t λm y=>by subst z;exact Xs.nil y
  by_cases g:∃i,a=.v i
  .obtain⟨i0,rfl⟩:=g;simp only[kf,To,List.contains_eq_mem,U7]at hk;cases v
   case lst l=>
    simp only[aO]at q ⊢;obtain⟨n,x,rfl,o,A⟩:=q;refine⟨n,x,rfl,?_,A.tr f t⟩;rw[t.keep n (List.getElem?_eq_some_iff.mp o).1 ?_]
    .exact o
    .rintro⟨mn,j,hj,ej⟩;have r:aj[i0]?=some (some (D.ref n)):=by
      have:=ha i0 rfl;cases z:aj[i0]? with
      |none=>rw[z]at this;cases this
      |some p=>rw[z]at this;simp at this;rw[this]
     obtain⟨C,F,G⟩:=f.slot r mn;obtain⟨H,I,J⟩:=f.slot ej mn;have:=f.inj i0 j C H n F I G J r ej;subst this;exact hk hj
   all_goals exact Rep.tr (show Rep h S _ d from q) f t
  .have:kf a c=c.isEmpty:=by
    cases a<;>first|rfl|exact absurd ⟨_,rfl⟩ g
   rw[this,List.isEmpty_iff]at hk;exact b hk
 .rename_i e;rw[R0 e];exact q.tr f t
def Ek{k:Bool}{i:Nat}(e:jI k fr i=some v)(f:aT M B h S fr aj):∃d,aj[i]?.join=some d/\eN k h S v d:=by
  unfold jI at e;split at e
  . rename_i z;obtain⟨p,a,q⟩:=f.get z;obtain⟨d,rfl,q⟩:=q;cases e;exact⟨d,by rw[a];rfl,.of q⟩
  all_goals first
    | (rename_i z
       obtain⟨p,a,q⟩:=f.get z;obtain⟨m,b,rfl,_,y,q⟩:=q;split at e
       . rename_i g;cases e;exact⟨.ref m,by rw[a];rfl,by unfold eN;rw[gQ g];exact⟨m,b,rfl,y,q⟩⟩
       . cases e)
    |cases e
def MW:Sl->List V->Prop
 |.bor l,l'=>l=l'
 |_,_=>False
def MX:Sl->List V->Prop
 |.ro l,l'=>l=l'
 |_,_=>False
def iX{i:Nat}{s:Sl}(e:lent fr i=some s)(f:aT M B h S fr aj):∃m ds l o,fr[i]?=some o/\aj[i]?=some (some (.ref m))/\h[m]?=some (oO s ds)/\aq h S l ds/\((MW s l/\M m/\fY o=true)\/(MX s l/\¬ M m/\o=some s)):=by
 unfold lent at e;split at e
 .rename_i g z;obtain⟨p,b,q⟩:=f.get z;cases g with
  |val v=>simp[Sl.lend]at e
  |own l=>
   simp[Sl.lend]at e;subst e;obtain⟨m,ds,rfl,y,a,q⟩:=q;exact⟨m,ds,l,_,z,b,a,q,.inl ⟨rfl,y.1,rfl⟩⟩
  |bor l=>
   simp[Sl.lend]at e;subst e;obtain⟨m,ds,rfl,y,a,q⟩:=q;exact⟨m,ds,l,_,z,b,a,q,.inl ⟨rfl,y.1,rfl⟩⟩
  |ro l=>
   simp[Sl.lend]at e;subst e;obtain⟨m,ds,rfl,y,a,q⟩:=q;exact⟨m,ds,l,_,z,b,a,q,.inr ⟨rfl,y,rfl⟩⟩
 .cases e
def qP(h:Hh)(S:Nat->Prop)(aj:Ev.Fr):List (Nat ⊕ V)->List D->Prop
 |[],ds=>ds=[]
 |.inl i :: r,ds=>∃d es,ds=d :: es/\aj[i]?=some (some d)/\qP h S aj r es
 |.inr v :: r,ds=>∃d es,ds=d :: es/\Rep h S v d/\qP h S aj r es
def lK(h:Hh)(S:Nat->Prop):List Sl->List D->List (List V)->Prop
 |[],_,os=>os=[]
 |.val _ :: sl,ds,os=>∃d es,ds=d :: es/\lK h S sl es os
 |.own _ :: _,_,_=>False
 |s :: sl,ds,os=>∃d es l r m cs,ds=d :: es/\os=l :: r/\d=.ref m/\h[m]?=some (oO s cs)/\aq h S l cs/\lK h S sl es r
def nX(P:aH)(P':Ev.aH):Prop:=∀f sl v os,P f sl=some (v,os)->∀(h:Hh) (S B:Nat->Prop) (ds:List D),aT B B h S (sl.map some) (ds.map some)->
 ∃d h' S',P' f ds h=.ok d h'/\Rep h' S' v d/\Tk B h S h' S'/\lK h' S' sl ds os
theorem Vq(f:aT M B h S fr aj):∀{as:List (Nat ⊕ V)}{sl:List Sl}{ds:List D},args fr as=some sl->qP h S aj as ds->sl.length=ds.length/\∀(a:Nat) s d,sl[a]?=some s->ds[a]?=some d->
  (∃i,as[a]?=some (.inl i)/\lent fr i=some s/\aj[i]?=some (some d))\/(∃v,s=.val v/\Rep h S v d)
 |[],sl,ds,e,q=>by
  simp[args]at e;simp only[qP]at q;subst e q;simp
 |.inl i :: r,sl,ds,e,q=>by
  simp only[args,R4,JM]at e;obtain⟨s,y,l,j,rfl⟩:=e;obtain⟨d,A,rfl,o,q⟩:=q;obtain⟨h1,h2⟩:=Vq f j q;refine⟨by simp[h1],λa p x b g=>?_⟩;cases a with
  |zero=>simp at b g;subst b g;exact .inl ⟨i,by simp,y,o⟩
  |succ a=>exact(h2 a p x (by simpa using b) (by simpa using g)).imp (λ⟨i,k,z⟩=>⟨i,by simpa using k,z⟩) id
 |.inr v :: r,sl,ds,e,q=>by
  simp only[args,JM]at e;obtain⟨l,j,rfl⟩:=e;obtain⟨d,A,rfl,o,q⟩:=q;obtain⟨h1,h2⟩:=Vq f j q;refine⟨by simp[h1],λa p x b g=>?_⟩;cases a with
  |zero=>simp at b g;subst b g;exact .inr ⟨v,rfl,o⟩
  |succ a=>exact(h2 a p x (by simpa using b) (by simpa using g)).imp (λ⟨i,k,z⟩=>⟨i,by simpa using k,z⟩) id
theorem fZ:∀{as:List (Nat ⊕ V)}{a i:Nat},as[a]?=some (.inl i)->i∈bG as
 |[],_,_,e=>by simp at e
 |.inl j :: r,0,i,e=>by simp at e;subst e;simp[bG]
 |.inr j :: r,0,i,e=>by simp at e
 |.inl j :: r,a+1,i,e=>by have:=fZ (as:=r) (a:=a) (i:=i) (by simpa using e);simp[bG,this]
 |.inr j :: r,a+1,i,e=>by have:=fZ (as:=r) (a:=a) (i:=i) (by simpa using e);simp[bG,this]
theorem lM:∀{as:List (Nat ⊕ V)}{a b i:Nat},(bG as).Nodup->as[a]?=some (.inl i)->as[b]?=some (.inl i)->a=b
 |[],_,_,_,_,e,_=>by simp at e
 |x :: r,0,0,_,_,_,_=>rfl
 |.inr j :: r,0,b+1,i,n,e,_=>by simp at e
 |.inl j :: r,0,b+1,i,n,e,e2=>by
  simp at e;subst e;simp only[bG,UA]at n;exact absurd (fZ (as:=r) (a:=b) (by simpa using e2)) n.1
 |.inr j :: r,a+1,0,i,n,_,e=>by simp at e
 |.inl j :: r,a+1,0,i,n,e2,e=>by
  simp at e;subst e;simp only[bG,UA]at n;exact absurd (fZ (as:=r) (a:=a) (by simpa using e2)) n.1
 |.inl j :: r,a+1,b+1,i,n,e1,e2=>by
  simp only[bG,UA]at n;have:=lM (as:=r) (a:=a) (b:=b) (i:=i) n.2 (by simpa using e1) (by simpa using e2);omega
 |.inr j :: r,a+1,b+1,i,n,e1,e2=>by
  simp only[bG]at n;have:=lM (as:=r) (a:=a) (b:=b) (i:=i) n (by simpa using e1) (by simpa using e2);omega
def Bd{s:Sl}{l:List V}:fY (some (s.with l))=fY (some s):=by cases s<;>rfl
def u9{s:Sl}{l:List V}:u7 (some (s.with l))=u7 (some s):=by cases s<;>rfl
theorem sJ:∀{is:List Nat}{ls:List (List V)}{fr af:Fr},back is ls fr=some af->is.Nodup->af.length=fr.length/\(∀i,i∉is->af[i]?=fr[i]?)/\∀i∈is,∃(k:Nat) (s:Sl) (l:List V),is[k]?=some i/\ls[k]?=some l/\fr[i]?=some (some s)/\af[i]?=some (some (s.with l))
 |[],[],fr,af,e,_=>by simp[back]at e;subst e;simp
 |[],_ :: _,_,_,e,_=>by simp[back]at e
 |_ :: _,[],_,_,e,_=>by simp[back]at e
 |i :: is,l :: ls,fr,af,e,n=>by
  simp only[back]at e;simp only[UA]at n;split at e
  .rename_i s z;obtain⟨h1,h2,o⟩:=sJ e n.2;refine⟨by simpa using h1,λj f=>?_,λj f=>?_⟩
   .simp at f;rw[h2 j f.2,gR (λq=>f.1 q.symm)]
   .rcases List.mem_cons.mp f with rfl|f
    .exact⟨0,s,l,by simp,by simp,z,by rw[h2 j n.1,kJ (List.getElem?_eq_some_iff.mp z).1]⟩
    .obtain⟨k,p,r,a,b,c,d⟩:=o j f;have g:i≠j:=λq=>n.1 (q▸f);rw[gR g]at c;exact⟨k+1,p,r,by simpa using a,by simpa using b,c,d⟩
  .cases e
theorem lN(f:aT M B h S fr aj):∀{as:List (Nat ⊕ V)}{sl:List Sl}{ds:List D}{os:List (List V)},args fr as=some sl->qP h S aj as ds->lK h' S' sl ds os->
    ∀(k i:Nat) l,(bG as)[k]?=some i->os[k]?=some l->∃m cs s,lent fr i=some s/\aj[i]?=some (some (.ref m))/\h'[m]?=some (oO s cs)/\aq h' S' l cs
  |[],sl,ds,os,e,q,o=>by simp[bG]
  |.inl i :: r,sl,ds,os,e,q,o=>by
    simp only[args,R4,JM]at e;obtain⟨s,L,l,y,rfl⟩:=e;obtain⟨d,N,rfl,P,q⟩:=q;obtain⟨m,cs,Y,Z,_,z,z3,z4,x⟩:=iX L f;have A:∃a b cs,os=a :: b/\h'[m]?=some (oO s cs)/\aq h' S' a cs/\lK h' S' l N b:=by
      rw[P]at z;cases z;cases s<;>first
        | (obtain⟨Q,C,a,b,m1,Il,F,G,W,H,I,J⟩:=o
           cases F;cases W;exact⟨a,b,Il,G,H,I,J⟩)
        | (rcases x with x|x<;>exact x.1.elim)
    obtain⟨a,b,Il,rfl,H,I,J⟩:=A;intro k j K g p;cases k with
    |zero=>simp[bG]at g p;subst g p;exact⟨m,Il,s,L,z,H,I⟩
    |succ k=>exact lN f y q J k j K (by simpa[bG]using g) (by simpa using p)
  |.inr v :: r,sl,ds,os,e,q,o=>by
    simp only[args,JM]at e;obtain⟨l,y,rfl⟩:=e;obtain⟨d,N,rfl,P,q⟩:=q;obtain⟨Q,C,F,G⟩:=o;cases F;intro k j K g p;exact lN f y q G k j K (by simpa[bG]using g) p
theorem ku:∀{as:List (Nat ⊕ V)}{sl:List Sl}{i:Nat},args fr as=some sl->i∈bG as->∃s,lent fr i=some s
 |[],_,_,_,q=>by simp[bG]at q
 |.inl j :: r,_,i,z,q=>by
  simp only[args,R4,JM]at z;obtain⟨s,b,l,a,rfl⟩:=z;simp[bG]at q;rcases q with rfl|q
  .exact⟨s,b⟩
  .exact ku a q
 |.inr u :: r,_,i,z,q=>by
  simp only[args,JM]at z;obtain⟨l,a,rfl⟩:=z;exact ku a (by simpa[bG]using q)
def LB(fr:Fr)(aj:Ev.Fr)(as:List (Nat ⊕ V)):Nat->Prop:=λm=>∃(i:Nat) (o:Option Sl),i∈bG as/\fr[i]?=some o/\fY o=true/\aj[i]?=some (some (.ref m))
theorem LB.m(f:aT M B h S fr aj){as:List (Nat ⊕ V)}:∀m,LB fr aj as m->M m:=λm ⟨i,o,_,a,b,c⟩=>by
  have s:=f.sl i o _ a c;rcases o with _|j
  .cases b
  .cases j with
   |val v=>cases b
   |ro l=>cases b
   |own l=>obtain⟨p,g,e,y,_⟩:=s;cases e;exact y.1
   |bor l=>obtain⟨p,g,e,y,_⟩:=s;cases e;exact y.1
def El(f:aT M B h S fr aj){as:List (Nat ⊕ V)}{sl:List Sl}{ds:List D}(nd:(bG as).Nodup)(z:args fr as=some sl)(q:qP h S aj as ds):aT (LB fr aj as) (LB fr aj as) h S (sl.map some) (ds.map some):=by
 have x:=LB.m f (as:=as);obtain⟨hl,G⟩:=Vq f z q;refine⟨λm y=>⟨(f.wS m y).1,λz=>(f.wS m y).2.1 (x m z),λz=>(f.wS m y).2.1 (x m z)⟩,λm y=>f.wM m (x m y),λm y=>f.wM m (x m y),by simp[hl],λa o p g l=>?_,λa b o o' m g l J K L N=>?_⟩
 .simp at g l;obtain⟨s,g,rfl⟩:=g;obtain⟨d,l,rfl⟩:=l;rcases G a s d g l with ⟨i,C,H,A⟩|⟨u,rfl,k⟩
  .obtain⟨m,P,l0,Q,F,I,W,Y,e⟩:=iX H f;rw[A]at I;cases I;rcases e with ⟨e,Z,r⟩|⟨e,Z,r⟩
   .cases s<;>first
     | (simp only[MW]at e;subst e;exact⟨m,P,rfl,⟨⟨i,Q,fZ C,F,r,A⟩,⟨i,Q,fZ C,F,r,A⟩⟩,W,Y⟩)
     |exact e.elim
   .cases s<;>first
     | (simp only[MX]at e;subst e;exact⟨m,P,rfl,λz=>Z (x m z),W,Y⟩)
     |exact e.elim
  .exact⟨d,rfl,k⟩
 .simp at g l L N;obtain⟨s,g,rfl⟩:=g;obtain⟨s',l,rfl⟩:=l;rcases G a s _ g L with ⟨i,C,H,A⟩|⟨u,rfl,k⟩
  .rcases G b s' _ l N with ⟨j,k4,k5,k6⟩|⟨u,rfl,k⟩
   .obtain⟨m1,_,l1,o1,F,I,_,_,e⟩:=iX H f;obtain⟨m2,_,l2,o2,x1,x2,_,_,x5⟩:=iX k5 f;have i1:fY o1=true:=by rcases e with ⟨_,_,r⟩|⟨e,_,rfl⟩;exact r;exact J
    have i2:fY o2=true:=by rcases x5 with ⟨_,_,r⟩|⟨x5,_,rfl⟩;exact r;exact K
    have:=f.inj i j o1 o2 m F x1 i1 i2 A k6;subst this;exact lM nd C k4
   .cases K
  .cases J
def Be{P:aH}{P':Ev.aH}(HP:nX P P'){g:Nat}{as:List (Nat ⊕ V)}{ds:List D}(e:cY P g as fr=.ok v af)(f:aT M B h S fr aj)(q:qP h S aj as ds) :
  ∃d h' S',P' g ds h=.ok d h'/\Rep h' S' v d/\Out M B (bG as) h S fr aj h' S' af:=by
 unfold cY at e;split at e
 case isFalse=>cases e
 rename_i nd;cases z:args fr as with
 |none=>rw[z]at e;cases e
 |some W=>
 rw[z]at e;simp only at e;cases z2:P g W with
 |none=>rw[z2]at e;cases e
 |some vo=>
 obtain⟨v',os⟩:=vo;rw[z2]at e;simp only at e;cases z3:back (bG as) os fr with
 |none=>rw[z3]at e;cases e
 |some ao=>
 rw[z3]at e;simp at e;obtain⟨rfl,rfl⟩:=e;obtain⟨hl,hg⟩:=Vq f z q
 let B0:Nat->Prop:=LB fr aj as
 have Q:∀m,B0 m->M m:=LB.m f;have F0:aT B0 B0 h S (W.map some) (ds.map some):=El f nd z q;obtain⟨d,h',S',c1,c2,r,c4⟩:=HP g W v' os z2 h S B0 ds F0;obtain⟨b1,Y,Z⟩:=sJ z3 nd;have hL:=lN f z q c4;have N:∀m,S m->h'[m]?=h[m]?:=λm y=>r.keep m (f.wS m y).1 (λz=>(f.wS m y).2.1 (Q m z));refine⟨d,h',S',c1,c2,⟨?_,?_,?_⟩⟩
 .refine⟨λm y=>?_,λm y=>zP (f.wM m y) r.len,λm y=>zP (f.wB m y) r.len,by rw[b1,f.len],λi o p A F=>?_,λi j o o' m A F y3 y4 y5 y6=>?_⟩
  .rcases r.new m y with y|⟨A,F⟩
   .exact⟨zP (f.wS m y).1 r.len,(f.wS m y).2⟩
   .exact⟨F,λz=>by have:=f.wM m z;omega,λz=>by have:=f.wB m z;omega⟩
  .by_cases G:i∈bG as
   .obtain⟨k,s,l,x,C,I,w4⟩:=Z i G;rw[w4]at A;cases A;obtain⟨m,cs,s',x0,J,K,H⟩:=hL k i l x C;rw[J]at F;cases F;simp only[lent,I]at x0;have a:=f.sl i _ _ I J;cases s with
    |val u=>
     exfalso;have:∃s,lent fr i=some s:=ku z G;obtain⟨s,hs⟩:=this;simp[lent,I,Sl.lend]at hs
    |own u=>cases x0;obtain⟨m',b,e,y,_⟩:=a;cases e;exact⟨m,cs,rfl,y,K,H⟩
    |bor u=>cases x0;obtain⟨m',b,e,y,_⟩:=a;cases e;exact⟨m,cs,rfl,y,K,H⟩
    |ro u=>
     obtain⟨m',b,e,y,A,F⟩:=a;cases e;refine⟨m,b,rfl,y,?_,F.mono N r.sub⟩;rw[r.keep m (List.getElem?_eq_some_iff.mp A).1 (λz=>y (Q m z))];exact A
   .rw[Y i G]at A;have a:=f.sl i o p A F;rcases o with _|s
    .exact a
    .cases s with
     |val u=>obtain⟨d,e,q⟩:=a;exact⟨d,e,q.mono N r.sub⟩
     |own u=>
      obtain⟨m,b,rfl,x,C,I⟩:=a;refine⟨m,b,rfl,x,?_,I.mono N r.sub⟩;rw[r.keep m (f.wM m x.1) (λ⟨j,o2,J,K,H,L⟩=>G (f.inj i j _ o2 m A K rfl H F L▸J))];exact C
     |bor u=>
      obtain⟨m,b,rfl,x,C,I⟩:=a;refine⟨m,b,rfl,x,?_,I.mono N r.sub⟩;rw[r.keep m (f.wM m x.1) (λ⟨j,o2,J,K,H,L⟩=>G (f.inj i j _ o2 m A K rfl H F L▸J))];exact C
     |ro u=>
      obtain⟨m,b,rfl,x,C,I⟩:=a;refine⟨m,b,rfl,x,?_,I.mono N r.sub⟩;rw[r.keep m (List.getElem?_eq_some_iff.mp C).1 (λz=>x (Q m z))];exact C
  .have kind:∀(i:Nat) o,ao[i]?=some o->fY o=true->∃o0,fr[i]?=some o0/\fY o0=true:=λi o x C=>by
    by_cases G:i∈bG as
    .obtain⟨k,s,l,J,K,H,L⟩:=Z i G;rw[L]at x;cases x;exact⟨_,H,by rw[Bd]at C;exact C⟩
    .rw[Y i G]at x;exact⟨o,x,C⟩
   obtain⟨oi,k1,k2⟩:=kind i o A y3;obtain⟨oj,k3,k4⟩:=kind j o' F y4;exact f.inj i j oi oj m k1 k3 k2 k4 y5 y6
 .exact r.weak λm z=>⟨Q m z,by obtain⟨i,o,a1,a2,a3,a4⟩:=z;exact⟨i,a1,a4⟩⟩
 .intro i;unfold locked;by_cases G:i∈bG as
  .obtain⟨k,s,l,J,K,H,L⟩:=Z i G;rw[H,L];exact u9
  .rw[Y i G]
end
end Pv
namespace Pv
open Ev (D O Hh)
end Pv
namespace Pv
open Ev (D O Hh bF bu TY BI ME T E Es Eo It S Ss Fn big deep b2i rep bQ dG bH aI cut bW cX slots aL)
section
variable{M B:Nat->Prop}{h h' h1 h2:Hh}{S S' S1 S2:Nat->Prop}{fr af ao:Fr}{aj:Ev.Fr}{c:List Nat}{v:V}{d:D}
def ji:(∀d,ay (.c d)=[])/\(∀i,ay (.v i)=[])/\(∀es,ay (.tup es)=cO es)/\(∀es,ay (.lst es)=cO es)/\(∀o a b,ay (.bin o a b)=ay a++ay b)/\(∀o a b,ay (.cmp o a b)=ay a++ay b)
 /\(∀a,ay (.nt a)=ay a)/\(∀a,ay (.neg a)=ay a)/\(∀a b,ay (.an a b)=ay a++ay b)/\(∀a b,ay (.orr a b)=ay a++ay b)/\(∀t a b,ay (.qw t a b)=ay t++(ay a++ay b))
 /\(∀a b,ay (.ix a b)=ay a++ay b)/\(∀a lo hi,ay (.sl a lo hi)=ay a++(gr lo++gr hi))
 /\(∀a,ay (.rv a)=ay a)
 /\(∀a,ay (.jS a)=ay a)
 /\(∀f es,ay (.cl f es)=cO es++iu es)/\(∀f es,ay (.bi f es)=cO es)/\(∀m o es,ay (.me m o es)=ay o++(cO es++CA m o))
 /\(∀a l,ay (.jt a l)=ay a)
 /\(∀a k,ay (.rO a k)=ay a++ay k)
 /\(∀a,ay (.iw a)=ay a):=by and_intros<;>intros<;>rfl
def j0{n m:Nat}{o:O}(q:n≠m):(h.set n o)[m]?=h[m]?:=gR q
def aT.mM(f:aT M B h S fr aj){i n:Nat}{o:Option Sl}(e:fr[i]?=some o)(hM:fY o=true)(e':aj[i]?=some (some (.ref n))):M n:=by
 have s:=f.sl i o _ e e';rcases o with _|b
 .cases hM
 .cases b with
  |val v=>cases hM
  |ro l=>cases hM
  |own l=>obtain⟨g,a,e,y,_⟩:=s;cases e;exact y.1
  |bor l=>obtain⟨g,a,e,y,_⟩:=s;cases e;exact y.1
def aT.write(f:aT M B h S fr aj){i n:Nat}{s:Sl}{l':List V}{ds':List D}(e:fr[i]?=some (some s))(hM:fY (some s)=true)(e':aj[i]?=some (some (.ref n)))(q:aq h S l' ds') :
  aT M B (h.set n (oO s ds')) S (fr.set i (some (s.with l'))) aj:=by
 have mn:=f.mM e hM e';have C:∀m,S m->(h.set n (oO s ds'))[m]?=h[m]?:=λm z=>j0 λy=>(f.wS m z).2.1 (y▸mn);have I:=(List.getElem?_eq_some_iff.mp e).1;refine⟨λm y=>by simpa using f.wS m y,λm y=>by simpa using f.wM m y,λm y=>by simpa using f.wB m y,by simp[f.len],λj o p g r=>?_,λj k o J m g r K L N P=>?_⟩
 .by_cases x:i=j
  .subst x;rw[kJ I]at g;cases g;rw[e']at r;cases r;have a:=f.sl i _ _ e e';have H:(h.set n (oO s ds'))[n]?=some (oO s ds'):=kJ (f.wM n mn);cases s with
   |val v=>cases hM
   |ro l=>cases hM
   |own l=>obtain⟨Q,_,e,y,_⟩:=a;cases e;exact⟨n,ds',rfl,y,H,q.mono C λ_ z=>z⟩
   |bor l=>obtain⟨Q,_,e,y,_⟩:=a;cases e;exact⟨n,ds',rfl,y,H,q.mono C λ_ z=>z⟩
  .rw[gR x]at g;have a:=f.sl j o p g r;rcases o with _|W
   .exact a
   .cases W with
    |val u=>obtain⟨d,e,q⟩:=a;exact⟨d,e,q.mono C λ_ z=>z⟩
    |own u=>
     obtain⟨m,F,rfl,b,A,G⟩:=a;refine⟨m,F,rfl,b,?_,G.mono C λ_ z=>z⟩;rw[j0 λ(z:n=m)=>x (f.inj i j _ _ n e g hM rfl e' (by rw[z];exact r))];exact A
    |bor u=>
     obtain⟨m,F,rfl,b,A,G⟩:=a;refine⟨m,F,rfl,b,?_,G.mono C λ_ z=>z⟩;rw[j0 λ(z:n=m)=>x (f.inj i j _ _ n e g hM rfl e' (by rw[z];exact r))];exact A
    |ro u=>
     obtain⟨m,F,rfl,b,A,G⟩:=a;refine⟨m,F,rfl,b,?_,G.mono C λ_ z=>z⟩;rw[j0 λ(z:n=m)=>b (z▸mn)];exact A
 .have kind:∀(j:Nat) o,(fr.set i (some (s.with l')))[j]?=some o->fY o=true->∃o0,fr[j]?=some o0/\fY o0=true:=λj o b A=>by
   by_cases x:i=j
   .subst x;exact⟨_,e,hM⟩
   .rw[gR x]at b;exact⟨o,b,A⟩
  obtain⟨X,Y,Z⟩:=kind j o g K;obtain⟨oj,k3,k4⟩:=kind k J r L;exact f.inj j k X oj m Y k3 Z k4 N P
def Im{m:ME}{l l':List V}{xs:List V}{n:Nat}{ds es:List D}(z:lI m l xs=some (v,l'))(e:h[n]?=some (.lst ds))(q:aq h S l ds)(p:fc h S xs es)(p':yW m=false->aq h S xs es)(hS:∀k,S k->k≠n) :
  ∃r ds',Ev.fh m (.ref n) es h=.ok r (h.set n (.lst ds'))/\Rep h S v r/\aq h S l' ds':=by
 unfold lI at z;split at z
 .have p':=p' rfl;split at z
  .rename_i k;cases z;simp only[aq]at p';obtain⟨d,_,rfl,a,rfl⟩:=p';refine⟨_,_,?_,rfl,q.append (.cons a .nil)⟩
   delta Ev.fh;dsimp only;simp only[e]
   rw[gQ (by rw[<-q.length];exact k)]
  .cases z
 .split at z
  .rename_i k;cases z;obtain⟨d,rfl,a⟩:=p.one;simp only[aO]at a;obtain⟨n2,i,rfl,b,a⟩:=a;refine⟨_,_,?_,rfl,q.append a⟩
   delta Ev.fh;dsimp only;simp only[e,b]
   rw[gQ (by rw[<-q.length,<-a.length];exact k)]
  .cases z
 .simp only[fc]at p;subst p;split at z
  .rename_i x y;cases z;obtain⟨d,f,g⟩:=q.get y;refine⟨d,_,?_,g,q.dropLast⟩
   delta Ev.fh;dsimp only;simp only[e]
   rw[<-q.length,f]
  .cases z
 .cases z
theorem aT.set(f:aT M B h S fr aj){i:Nat}(e:put fr i (.val v)=some af)(q:Rep h S v d):aT M B h S af (aj.set i (some d))/\(∀j,locked af j=locked fr j)/\∀j,locked fr j=true->(aj.set i (some d))[j]?=aj[j]?:=by
 have J:af=fr.set i (some (.val v))/\locked fr i=false:=by
  unfold put at e;unfold locked;split at e
  .cases e
  .cases e
  .rename_i K L;cases e;refine⟨rfl,?_⟩;cases z:fr[i]? with
   |none=>rfl
   |some o=>
    rcases o with _|s
    .rfl
    .cases s with
     |bor l=>exact absurd z (K l)
     |ro l=>exact absurd z (L l)
     |_=>rfl
 obtain⟨rfl,y⟩:=J;have N:∀j,locked (fr.set i (some (.val v))) j=locked fr j:=λj=>by
  by_cases b:i=j
  .subst b;rw[y];unfold locked;by_cases r:i<fr.length
   .rw[kJ r];rfl
   .rw[Sy (by simpa using r)]
  .unfold locked;rw[gR b]
 refine⟨⟨f.wS,f.wM,f.wB,by simp[f.len],λj o p a g=>?_,λj k o A m a g C F G H=>?_⟩,N,λj b=>?_⟩
 .by_cases b:i=j
  .subst b;have r:i<fr.length:=by have:=(List.getElem?_eq_some_iff.mp a).1;simpa using this
   rw[kJ r]at a;rw[kJ (by rw[<-f.len];exact r)]at g;cases a;cases g;exact⟨d,rfl,q⟩
  .rw[gR b]at a g;exact f.sl j o p a g
 .have I:∀(j:Nat) o,(fr.set i (some (.val v)))[j]?=some o->fY o=true->i≠j:=λj o x P Q=>by
   subst Q;have r:i<fr.length:=by have:=(List.getElem?_eq_some_iff.mp x).1;simpa using this
   rw[kJ r]at x;cases x;cases P
  have n1:=I j o a C;have n2:=I k A g F;rw[gR n1]at a G;rw[gR n2]at g H;exact f.inj j k o A m a g C F G H
 .have:i≠j:=λz=>by subst z;rw[y]at b;cases b
  rw[gR this]
theorem aT.cg:∀{is:List Nat}{vs:List V}{ds:List D}{fr af:Fr}{aj:Ev.Fr},aT M B h S fr aj->cg is vs fr=some af->aq h S vs ds->∃bA,Ev.cg is ds aj=some bA/\aT M B h S af bA/\(∀j,locked af j=locked fr j)/\∀j,locked fr j=true->bA[j]?=aj[j]?
 |[],[],ds,fr,af,aj,f,e,q=>by
  simp[Pv.cg]at e;simp only[aq]at q;subst e q;exact⟨aj,rfl,f,λ_=>rfl,λ_ _=>rfl⟩
 |[],_ :: _,_,_,_,_,_,e,_=>by simp[Pv.cg]at e
 |_ :: _,[],_,_,_,_,_,e,_=>by simp[Pv.cg]at e
 |i :: is,v :: vs,ds,fr,af,aj,f,e,q=>by
  simp only[Pv.cg,R4]at e;obtain⟨ao,l,o⟩:=e;simp only[aq]at q;obtain⟨d,A,rfl,p,r⟩:=q;obtain⟨f2,b,x⟩:=f.set l p;obtain⟨bA,a,f3,y,z⟩:=f2.cg o r;exact⟨bA,a,f3,λj=>(y j).trans (b j),λj g=>(z j (by rw[b j];exact g)).trans (x j g)⟩
theorem aT.bT(f:aT M B h S fr aj){t:T}(e:bT t v fr=some af)(q:Rep h S v d):∃bA,Ev.bT t d aj=some bA/\aT M B h S af bA/\(∀j,locked af j=locked fr j)/\∀j,locked fr j=true->bA[j]?=aj[j]?:=by
 cases t with
 |one i=>exact⟨_,rfl,f.set e q⟩
 |many l=>
  cases v<;>simp only[Pv.bT,reduceCtorEq]at e
  simp only[Rep]at q;obtain⟨a,rfl,q⟩:=q;exact f.cg e q
theorem aT.undef(f:aT M B h S fr aj){t:T}(e:undef t fr=true):Ev.undef t aj=true:=by
 unfold Pv.undef at e;unfold Ev.undef;rw[VR]at e ⊢;intro i a;have:=e i a;cases z:fr[i]? with
 |none=>
  have:aj[i]?=none:=by
   rw[UT]at z ⊢;rw[<-f.len];exact z
  rw[this];rfl
 |some o=>
  obtain⟨p,b,q⟩:=f.get z;rw[z]at this;rcases o with _|s
  .simp only[jP]at q;subst q;rw[b];rfl
  .simp at this
def vc{i:Nat}{o:Option Sl}(e:(m8 fr)[i]?=some o):∃o0,fr[i]?=some o0/\o=o0.map Sl.read:=by
 unfold m8 at e;rw[Su]at e;cases z:fr[i]? with
 |none=>rw[z]at e;cases e
 |some o0=>rw[z]at e;cases e;exact⟨o0,rfl,rfl⟩
theorem aT.ro(f:aT M B h S fr aj):aT (λ_=>False) B h S (m8 fr) aj:=by
 refine⟨λm y=>⟨(f.wS m y).1,id,(f.wS m y).2.2⟩,λm y=>y.elim,f.wB,by simp[m8,f.len],λi o p r x=>?_,λi j o C m r x A F G H=>?_⟩
 .obtain⟨g,z,rfl⟩:=vc r;have q:=f.sl i g p z x;rcases g with _|s
  .exact q
  .cases s with
   |val v=>exact q
   |own l=>obtain⟨m,e,a,b,c,d⟩:=q;exact⟨m,e,a,id,c,d⟩
   |bor l=>obtain⟨m,e,a,b,c,d⟩:=q;exact⟨m,e,a,id,c,d⟩
   |ro l=>obtain⟨m,e,a,b,c,d⟩:=q;exact⟨m,e,a,id,c,d⟩
 .obtain⟨g,z,rfl⟩:=vc r;rcases g with _|s
  .cases A
  .cases s<;>cases A
theorem jj:∀{ck:List (Nat×List D)},(∀q∈ck,aL h q.1=some q.2)->Ev.stays h ck=true
 |[],_=>rfl
 | (n,ds) :: r,q=>by
  simp only[Ev.stays,iY];refine⟨?_,jj λx a=>q x (R9 _ a)⟩;rw[q (n,ds) (Sn ..)];exact Ev.vZ _
def kB{n:Nat}{ds:List D}(q:aL h n=some ds)(k:h'[n]?=h[n]?):aL h' n=some ds:=by
 unfold aL at q ⊢;rw[k];exact q
def nZ{n:Nat}{ds:List D}(q:aL h n=some ds):n<h.length:=by
 unfold aL at q;cases z:h[n]? with
 |none=>rw[z]at q;cases q
 |some o=>exact(List.getElem?_eq_some_iff.mp z).1
def Bf(h:Hh)(S:Nat->Prop):Option V->Option D->Prop
 |none,o=>o=none
 |some v,o=>∃d,o=some d/\Rep h S v d
theorem vd{f:V->Option (Option V)}{f':D->Hh->Ev.R (Option D)}{ck:List (Nat×List D)}{h0:Hh}{S0:Nat->Prop}(w0:∀m,S0 m->m<h0.length)(st:∀q∈ck,aL h0 q.1=some q.2)
  (turn:∀v o d h S,Al h0 S0 h S->f v=some o->Rep h S v d->∃o' h' S',f' d h=.ok o' h'/\Bf h' S' o o'/\Al h S h' S') :
  ∀{vs:List V} {ds:List D} {rs:List V} {h:Hh} {S:Nat->Prop},Al h0 S0 h S->cz f vs=some rs->aq h S vs ds->∃rs' h' S',Ev.cz f' ck ds h=.ok rs' h'/\aq h' S' rs rs'/\Al h S h' S'
 |[],ds,rs,h,S,a,e,q=>by
  simp[cz]at e;simp only[aq]at q;subst e q;refine⟨[],h,S,?_,.nil,.refl⟩;simp only[Ev.cz];rw[gQ (jj λx i=>kB (st x i) (a.keep _ (nZ (st x i))))]
 |v :: vs,ds,rs,h,S,a,e,q=>by
  simp only[cz,R4]at e;obtain⟨o,p,r,y,A⟩:=e;cases A;simp only[aq]at q;obtain⟨d,J,rfl,C,F⟩:=q;have w:∀m,S m->m<h.length:=λm z=>by
   rcases a.new m z with z|z
   .exact zP (w0 m z) a.len
   .exact z.2
  obtain⟨o',h1,S1,G,b,g⟩:=turn v o d h S a p C;obtain⟨rs',h2,S2,H,l,j⟩:=vd w0 st turn (a.trans g) y (F.mono (λm z=>g.keep m (w m z)) g.sub);have I:∀m,S1 m->m<h1.length:=λm z=>by
   rcases g.new m z with z|z
   .exact zP (w m z) g.len
   .exact z.2
  refine⟨o'.toList++rs',h2,S2,?_,?_,g.trans j⟩
  .simp only[Ev.cz];rw[gQ (jj λx i=>kB (st x i) (a.keep _ (nZ (st x i)))),G,Ev.ak,H,Ev.ak]
  .cases o with
   |none=>simp only[Bf]at b;subst b;simpa using l
   |some K=>
    simp only[Bf]at b;obtain⟨L,rfl,b⟩:=b;exact .cons (b.mono (λm z=>j.keep m (I m z)) j.sub) l
end
def iO(k:Bool)(h:Hh)(S:Nat->Prop)(v:List V)(d:List D):Prop:=if k=true then fc h S v d else aq h S v d
inductive Io(P':Ev.aH)(e:E)(k:Bool)(v:V)(M B:Nat->Prop)(h:Hh)(S:Nat->Prop)(fr:Fr)(aj:Ev.Fr)(af:Fr):Prop
 |mk (d:D) (h':Hh) (S':Nat->Prop) (c0:Ev.ev P' e aj h=.ok d h') (c1:eN k h' S' v d) (c2:Out M B (ay e) h S fr aj h' S' af):Io P' e k v M B h S fr aj af
inductive Ip(P':Ev.aH)(e:E)(b:Bool)(M B:Nat->Prop)(h:Hh)(S:Nat->Prop)(fr:Fr)(aj:Ev.Fr)(af:Fr):Prop
 |mk (h':Hh) (S':Nat->Prop) (c0:Ev.aD P' e aj h=.ok b h') (c1:Out M B (ay e) h S fr aj h' S' af):Ip P' e b M B h S fr aj af
inductive Iq(P':Ev.aH)(e:Es)(k:Bool)(v:List V)(M B:Nat->Prop)(h:Hh)(S:Nat->Prop)(fr:Fr)(aj:Ev.Fr)(af:Fr):Prop
 |mk (d:List D) (h':Hh) (S':Nat->Prop) (c0:Ev.bI P' e aj h=.ok d h') (c1:iO k h' S' v d) (c2:Out M B (cO e) h S fr aj h' S' af):Iq P' e k v M B h S fr aj af
inductive Ir(P':Ev.aH)(e:Es)(v:List (Nat ⊕ V))(M B:Nat->Prop)(h:Hh)(S:Nat->Prop)(fr:Fr)(aj:Ev.Fr)(af:Fr):Prop
 |mk (d:List D) (h':Hh) (S':Nat->Prop) (c0:Ev.bI P' e aj h=.ok d h') (c1:qP h' S' aj v d) (c2:Out M B (cO e) h S fr aj h' S' af):Ir P' e v M B h S fr aj af
inductive Iu(P':Ev.aH)(e:Eo)(v:Option Int)(M B:Nat->Prop)(h:Hh)(S:Nat->Prop)(fr:Fr)(aj:Ev.Fr)(af:Fr):Prop
 |mk (h':Hh) (S':Nat->Prop) (c0:Ev.eX P' e aj h=.ok v h') (c1:Out M B (gr e) h S fr aj h' S' af):Iu P' e v M B h S fr aj af
inductive Iv(P':Ev.aH)(e:Eo)(v:Bool)(M B:Nat->Prop)(h:Hh)(S:Nat->Prop)(fr:Fr)(aj:Ev.Fr)(af:Fr):Prop
 |mk (h':Hh) (S':Nat->Prop) (c0:Ev.gm P' e aj h=.ok v h') (c1:Out M B (gr e) h S fr aj h' S' af):Iv P' e v M B h S fr aj af
inductive Iw(P':Ev.aH)(e:It)(k:Bool)(v:List V)(M B:Nat->Prop)(h:Hh)(S:Nat->Prop)(fr:Fr)(aj:Ev.Fr)(af:Fr):Prop
 |mk (s:Ev.Src) (h':Hh) (S':Nat->Prop) (c0:Ev.bJ P' e aj h=.ok s h') (c1:aq h' S' v s.1) (c2:∀q∈s.2,aL h' q.1=some q.2/\(k=false->¬ M q.1)) (c3:Out M B (sD e) h S fr aj h' S' af):Iw P' e k v M B h S fr aj af
section
variable(P:aH)(P':Ev.aH)
def aQ(e:E):Prop:=∀{k:Bool} {fr:Fr} {v:V} {af:Fr} {M B:Nat->Prop} {h:Hh} {S:Nat->Prop} {aj:Ev.Fr},ev P k e fr=.ok v af->aT M B h S fr aj->Io P' e k v M B h S fr aj af
def fO(e:E):Prop:=∀{fr:Fr} {b:Bool} {af:Fr} {M B:Nat->Prop} {h:Hh} {S:Nat->Prop} {aj:Ev.Fr},aD P e fr=.ok b af->aT M B h S fr aj->Ip P' e b M B h S fr aj af
def iP(e:Es):Prop:=∀{k:Bool} {fr:Fr} {v:List V} {af:Fr} {M B:Nat->Prop} {h:Hh} {S:Nat->Prop} {aj:Ev.Fr},bI P k e fr=.ok v af->aT M B h S fr aj->Iq P' e k v M B h S fr aj af
def oh(e:Es):Prop:=∀{fr:Fr} {v:List (Nat ⊕ V)} {af:Fr} {M B:Nat->Prop} {h:Hh} {S:Nat->Prop} {aj:Ev.Fr},eY P e fr=.ok v af->aT M B h S fr aj->Ir P' e v M B h S fr aj af
def om(e:Eo):Prop:=∀{fr:Fr} {v:Option Int} {af:Fr} {M B:Nat->Prop} {h:Hh} {S:Nat->Prop} {aj:Ev.Fr},eX P e fr=.ok v af->aT M B h S fr aj->Iu P' e v M B h S fr aj af
def qY(e:Eo):Prop:=∀{fr:Fr} {v:Bool} {af:Fr} {M B:Nat->Prop} {h:Hh} {S:Nat->Prop} {aj:Ev.Fr},gm P e fr=.ok v af->aT M B h S fr aj->Iv P' e v M B h S fr aj af
def iQ(e:It):Prop:=∀{k:Bool} {fr:Fr} {v:List V} {af:Fr} {M B:Nat->Prop} {h:Hh} {S:Nat->Prop} {aj:Ev.Fr},bJ P k e fr=.ok v af->aT M B h S fr aj->Iw P' e k v M B h S fr aj af
end
section
variable{P:aH}{P':Ev.aH}{a b e tt:E}{es:Es}{lo hi:Eo}{it:It}
def Iz{d:D}:aQ P P' (.c d):=λz f=>by
 simp only[ev]at z;replace z:=aE z;obtain⟨z,g⟩:=z;subst g;exact⟨d,_,_,by simp only[Ev.ev],.of (lJ z),.refl f⟩
def IA{i:Nat}:aQ P P' (.v i):=λz f=>by
 simp only[ev]at z;replace z:=aE z;obtain⟨z,c⟩:=z;subst c;obtain⟨d,g,q⟩:=Ek z f;exact⟨d,_,_,by simp only[Ev.ev,g,Ev.dP],q,.refl f⟩
def iO.n{h:Hh}{S:Nat->Prop}{v:List V}{d:List D}(q:iO false h S v d):aq h S v d:=by simpa[iO]using q
theorem aq.tl{h:Hh}{S:Nat->Prop}:∀{v:List V}{d:List D},aq h S v d->fc h S v d
 |[],_,q=>q
 |_ :: _,_,⟨d,es,a,b,q⟩=>⟨d,es,a,b.top,q.tl⟩
def iO.t{k:Bool}{h:Hh}{S:Nat->Prop}{v:List V}{d:List D}(q:iO k h S v d):fc h S v d:=by
 unfold iO at q;split at q
 .exact q
 .exact q.tl
def yZ(is:iP P P' es):aQ P P' (.tup es):=λz f=>by
 simp only[ev]at z;obtain⟨p,r,g,c⟩:=ah z;replace c:=aE c;obtain⟨c,h⟩:=c;subst h;obtain⟨d,i,S',j,q,o⟩:=is g f;unfold fG at c;split at c
 .rename_i l;cases c;refine⟨.tup d,i,S',?_,.of ⟨d,rfl,q.n⟩,o⟩;simp only[Ev.ev,j,Ev.ak];rw[gQ (by rw[<-q.n.length];exact l)]
 .cases c
def y9(is:iP P P' es):aQ P P' (.lst es):=λz f=>by
 simp only[ev]at z;obtain⟨y,A,d,c⟩:=ah z;replace c:=aE c;obtain⟨c,g⟩:=c;subst g;obtain⟨h,B,S',i,q,o⟩:=is d f;obtain⟨r,j,S2,l,p,x⟩:=gu o.f.w c q.n;exact⟨r,j,S2,by simp only[Ev.ev,i,Ev.ak,l],.of p,o.al x⟩
def oq{a:E}{aj:Ev.Fr}{h h1:Hh}{d:D}(e:Ev.ev P' a aj h=.ok d h1):∀i,a=.v i->aj[i]?.join=some d:=λi hi=>by
 subst hi;simp only[Ev.ev]at e;exact(Ev.aE e).1
def two(ia:aQ P P' a)(ib:aQ P P' b){α:Type}{X:V->V->Fr->R α}{u:α}{fr bz:Fr}{M B:Nat->Prop}{h:Hh}{S:Nat->Prop}{aj:Ev.Fr}
  (z:((ev P (kf a (ay b)) a fr).bind λx af=>(ev P true b af).bind λy ao=>X x y ao)=.ok u bz) (f:aT M B h S fr aj) :
  ∃x y d e h2 S2 ao,(∀{β:Type} (g:D->D->Hh->Ev.R β),((Ev.ev P' a aj h).bind λx h1=>(Ev.ev P' b aj h1).bind λy h2=>g x y h2)=g d e h2)/\X x y ao=.ok u bz/\aO h2 S2 x d/\aO h2 S2 y e/\Out M B (ay a++ay b) h S fr aj h2 S2 ao:=by
 replace z:=ah z;obtain⟨x,af,l,z⟩:=z;replace z:=ah z;obtain⟨y,ao,o,z⟩:=z;obtain⟨d,h1,S1,i,p,c⟩:=ia l f;obtain⟨e,h2,S2,q,r,j⟩:=ib o c.f;exact⟨x,y,d,e,h2,S2,ao,λg=>by rw[i,Ev.ak,q,Ev.ak],z,(p.tr c.f j.tr id (oq i)).t,r.t,c.trans j⟩
def za{o:bF}(ia:aQ P P' a)(ib:aQ P P' b):aQ P P' (.bin o a b):=λz f=>by
 simp only[ev]at z;replace z:=two ia ib z f;obtain⟨x,y,d,e,A,S2,B,k,z,g,h,c⟩:=z;replace z:=aE z;obtain⟨z,i⟩:=z;subst i;obtain⟨r,j,S3,l,p,q⟩:=HZ c.f.w z g h;exact⟨r,j,S3,by simp only[Ev.ev];rw[k];exact l,.of p,c.al q⟩
def zc{o:bu}(ia:aQ P P' a)(ib:aQ P P' b):aQ P P' (.cmp o a b):=λz f=>by
 simp only[ev]at z;replace z:=two ia ib z f;obtain⟨x,y,d,e,c,S2,l,k,z,g,h,i⟩:=z;replace z:=aE z;obtain⟨z,j⟩:=z;subst j;simp only[JM]at z;obtain⟨b,z,rfl⟩:=z;exact⟨.bl b,c,S2,by simp only[Ev.ev];rw[k,Ib z g.u h.u];rfl,.of rfl,i⟩
def CB(ia:aQ P P' a)(ib:aQ P P' b):aQ P P' (.ix a b):=λz f=>by
 simp only[ev]at z;replace z:=two ia ib z f;obtain⟨x,y,d,e,c,S2,p,k,z,g,h,i⟩:=z;replace z:=aE z;obtain⟨z,j⟩:=z;subst j;obtain⟨r,l,o⟩:=Ic z g h;exact⟨r,c,S2,by simp only[Ev.ev];rw[k,l];rfl,.of o,i⟩
def Em{x y v:V}{d e:D}{h:Hh}{S:Nat->Prop}(z:A9 x y=some v)(p:aO h S x d)(q:aO h S y e):∃r,Ev.AM d e h=some r/\Rep h S v r:=by
 unfold A9 at z;split at z
 .simp only[aO,Rep]at p q;obtain⟨n,rfl,_,p⟩:=p;subst q;obtain⟨s,c,z⟩:=Option.bind_eq_some_iff.mp z;split at z
  .cases z
  .rename_i f;cases z;exact⟨.str s,by simp[Ev.AM,p,c,f],rfl⟩
 .cases z
def zd(ia:aQ P P' a)(ib:aQ P P' b):aQ P P' (.rO a b):=λz f=>by
 simp only[ev]at z;replace z:=two ia ib z f;obtain⟨x,y,d,e,c,S2,p,k,z,g,h,i⟩:=z;replace z:=aE z;obtain⟨z,j⟩:=z;subst j;obtain⟨r,l,o⟩:=Em z g h;exact⟨r,c,S2,by simp only[Ev.ev];rw[k,l];rfl,.of o,i⟩
def ze{kvs:List (List Nat×List Nat)}:aQ P P' (.qx kvs):=λ{k fr v af M B h S aj} z f=>by
 simp only[ev]at z;split at z
 .cases z
 .rename_i c;cases z;exact⟨.ref h.length,h++[.bM kvs],λm=>S m\/m=h.length,by simp only[Ev.ev];rw[R0 c],.of ⟨h.length,rfl,.inr rfl,by simp⟩,(Out.refl f).al (Al.snoc _)⟩
def LI(ia:aQ P P' a):aQ P P' (.nt a):=λz f=>by
 simp only[ev]at z;replace z:=ah z;obtain⟨x,l,c,z⟩:=z;obtain⟨d,g,S1,h,i,j⟩:=ia c f;cases x<;>simp only[reduceCtorEq]at z
 cases z;have q:=i.t;simp only[aO,Rep]at q;subst q;exact⟨_,g,S1,by simp only[Ev.ev,h,Ev.ak],.of rfl,j⟩
def zf(ia:aQ P P' a):aQ P P' (.neg a):=λz f=>by
 simp only[ev]at z;replace z:=ah z;obtain⟨x,l,c,z⟩:=z;obtain⟨d,g,S1,h,i,j⟩:=ia c f;cases x<;>simp only[reduceCtorEq]at z
 cases z;have q:=i.t;simp only[aO,Rep]at q;subst q;exact⟨_,g,S1,by simp only[Ev.ev,h,Ev.ak],.of rfl,j⟩
def LJ(ia:aQ P P' a)(ib:aQ P P' b):aQ P P' (.an a b):=λz f=>by
 simp only[ev]at z;replace z:=ah z;obtain⟨x,A,h,z⟩:=z;obtain⟨d,j,S1,g,l,c⟩:=ia h f;cases x<;>try (cases z;done)
 rename_i k;have q:=l.t;simp only[aO,Rep]at q;subst q;cases k with
 |true=>
  try simp only at z
  obtain⟨d,o,S2,p,r,y⟩:=ib z c.f;exact⟨d,o,S2,by simp only[Ev.ev,g,Ev.ak,p],r,c.trans y⟩
 |false=>
  try simp only at z
  cases z;exact⟨_,j,S1,by simp only[Ev.ev,g,Ev.ak],.of rfl,c.weak (by simp only[ji];intro i hi;simp[hi])⟩
def IB(ia:aQ P P' a)(ib:aQ P P' b):aQ P P' (.orr a b):=λz f=>by
 simp only[ev]at z;replace z:=ah z;obtain⟨x,A,h,z⟩:=z;obtain⟨d,j,S1,g,l,c⟩:=ia h f;cases x<;>try (cases z;done)
 rename_i k;have q:=l.t;simp only[aO,Rep]at q;subst q;cases k with
 |false=>
  try simp only at z
  obtain⟨d,o,S2,p,r,y⟩:=ib z c.f;exact⟨d,o,S2,by simp only[Ev.ev,g,Ev.ak,p],r,c.trans y⟩
 |true=>
  try simp only at z
  cases z;exact⟨_,j,S1,by simp only[Ev.ev,g,Ev.ak],.of rfl,c.weak (by simp only[ji];intro i hi;simp[hi])⟩
def zg(it:fO P P' tt)(ia:aQ P P' a)(ib:aQ P P' b):aQ P P' (.qw tt a b):=λz f=>by
 simp only[ev]at z;replace z:=ah z;obtain⟨k,q,p,z⟩:=z;obtain⟨r,S1,o,c⟩:=it p f;cases k with
 |true=>
  simp only[Sf]at z;obtain⟨d,g,S2,h,j,l⟩:=ia z c.f;exact⟨d,g,S2,by simp only[Ev.ev,o,Ev.ak,Sf,h],j,(c.trans l).weak (by simp only[ji];intro i hi;simp at hi ⊢;rcases hi with hi|hi<;>simp[hi])⟩
 |false=>
  simp only[Si,SK]at z;obtain⟨d,g,S2,h,j,l⟩:=ib z c.f;exact⟨d,g,S2,by simp only[Ev.ev,o,Ev.ak];rw[R0 (by decide)];exact h,j,(c.trans l).weak (by simp only[ji];intro i hi;simp at hi ⊢;rcases hi with hi|hi<;>simp[hi])⟩
def CC(ia:aQ P P' a)(il:om P P' lo)(ih:om P P' hi):aQ P P' (.sl a lo hi):=λz f=>by
 simp only[ev]at z;replace z:=ah z;obtain⟨x,J,j,z⟩:=z;replace z:=ah z;obtain⟨l,K,o,z⟩:=z;replace z:=ah z;obtain⟨u,L,p,z⟩:=z;replace z:=aE z;obtain⟨z,y⟩:=z;subst y;obtain⟨d,M,S1,i,A,c⟩:=ia j f;obtain⟨N,S2,B,g⟩:=il o c.f;obtain⟨Q,S3,C,h⟩:=ih p g.f;have q:=(A.tr c.f (g.trans h).tr id (oq i)).t;obtain⟨r,F,S4,G,H,I⟩:=Ie h.f.w z q;exact⟨r,F,S4,by simp only[Ev.ev,i,Ev.ak,B,C,G],.of H,(c.trans (g.trans h)).al I⟩
def CD(ia:aQ P P' a):aQ P P' (.rv a):=λz f=>by
 simp only[ev]at z;replace z:=ah z;obtain⟨x,y,g,z⟩:=z;replace z:=aE z;obtain⟨z,h⟩:=z;subst h;obtain⟨d,A,S1,i,j,c⟩:=ia g f;obtain⟨r,l,S4,o,p,q⟩:=Ig c.f.w z j.t;exact⟨r,l,S4,by simp only[Ev.ev,i,Ev.ak,o],.of p,c.al q⟩
theorem lO:∀{es:Es}{fr af:Fr}{as:List (Nat ⊕ V)},eY P es fr=.ok as af->∀i∈bG as,i∈iu es
 |.nil,_,_,_,z=>by simp only[eY]at z;cases z;simp[bG]
 |.cons e es,fr,af,as,z=>by
  simp only[eY]at z;cases y:jY fr e with
  |some i=>
   rw[y]at z;simp only at z;replace z:=ah z;obtain⟨f,g,d,z⟩:=z;cases z;have h:e=.v i:=by
    cases e<;>simp only[jY,reduceCtorEq]at y
    split at y
    .cases y;rfl
    .cases y
   subst h;intro j c;simp only[bG,Vy]at c;simp only[iu,Vy];exact c.imp id λc=>lO d j c
  |none=>
   rw[y]at z;simp only at z;replace z:=ah z;obtain⟨x,l,o,z⟩:=z;replace z:=ah z;obtain⟨f,g,d,z⟩:=z;cases z;intro j c;simp only[bG]at c;have:=lO d j c;cases e<;>simp only[iu]<;>first|exact this|exact R9 _ this
def CF(HP:nX P P'){g:Nat}(is:oh P P' es):aQ P P' (.cl g es):=λz f=>by
 simp only[ev]at z;replace z:=ah z;obtain⟨x,y,c,z⟩:=z;obtain⟨A,B,S1,j,l,h⟩:=is c f;obtain⟨d,o,S2,p,q,r⟩:=Be HP z h.f l;exact⟨d,o,S2,by simp only[Ev.ev,j,Ev.ak,p],.of q,(h.trans r).weak (by
  simp only[ji];intro i hi;rcases List.mem_append.mp hi with hi|hi
  .exact List.mem_append.mpr (.inl hi)
  .exact List.mem_append.mpr (.inr (lO c i hi)))⟩
def CG{g:BI}(is:iP P P' es):aQ P P' (.bi g es):=λz f=>by
 simp only[ev]at z;replace z:=ah z;obtain⟨x,y,d,z⟩:=z;replace z:=aE z;obtain⟨z,h⟩:=z;subst h;obtain⟨A,B,S1,i,j,c⟩:=is d f;obtain⟨r,l,S4,o,p,q⟩:=Ii c.f.w z j.t;exact⟨r,l,S4,by simp only[Ev.ev,i,Ev.ak,o],.of p,c.al q⟩
def zh{ts:List TY}(ia:aQ P P' a):aQ P P' (.jt a ts):=λz f=>by
 simp only[ev]at z;replace z:=ah z;obtain⟨x,l,g,z⟩:=z;cases z;obtain⟨d,c,S1,h,i,j⟩:=ia g f;have:Ev.cG c d=cG x:=funext λt=>Ei i.t t;refine⟨.bl (ts.any (Ev.cG c d)),c,S1,by simp only[Ev.ev,h,Ev.ak],.of ?_,j⟩;rw[this];rfl
def zj(ia:aQ P P' a):aQ P P' (.jS a):=λz f=>by
 simp only[ev]at z;replace z:=ah z;obtain⟨x,q,c,z⟩:=z;replace z:=aE z;obtain⟨z,g⟩:=z;subst g;obtain⟨d,h,S1,i,j,l⟩:=ia c f;obtain⟨r,o,p⟩:=Eh z j.t;exact⟨r,h,S1,by simp only[Ev.ev,i,Ev.ak,o],.of p,l⟩
def zk(ia:aQ P P' a):aQ P P' (.iw a):=λz f=>by
 simp only[ev]at z;replace z:=ah z;obtain⟨x,q,c,z⟩:=z;replace z:=aE z;obtain⟨z,g⟩:=z;subst g;obtain⟨d,h,S1,i,j,l⟩:=ia c f;obtain⟨r,o,p⟩:=Ih z j.t;exact⟨r,h,S1,by simp only[Ev.ev,i,Ev.ak,o],.of p,l⟩
def CH{m:ME}{o:E}(io:aQ P P' o)(is:iP P P' es):aQ P P' (.me m o es):=λ{k fr v af M B h S aj} z f=>by
 simp only[ev]at z;by_cases H:gW m=true
 .rw[gQ H]at z;cases y:jY fr o with
  |none=>rw[y]at z;cases z
  |some i=>
  rw[y]at z;try simp only at z
  replace z:=ah z;obtain⟨Y,Z,z1,z⟩:=z;have hy:o=.v i/\∃s,lent fr i=some s:=by
   cases o<;>simp only[jY,reduceCtorEq]at y
   rename_i j;split at y
   .rename_i hs;cases y;exact⟨rfl,Option.isSome_iff_exists.mp hs⟩
   .cases y
  obtain⟨rfl,s,hs⟩:=hy;obtain⟨n,cs,_,_,_,I,w3,_,_⟩:=iX hs f;obtain⟨J,K,S1,L,F,c⟩:=is z1 f;have X:Ev.uH m (.ref n) h=true:=by cases m<;>simp[gW]at H<;>simp[Ev.uH,fj w3]
  have hap:yW m=false->aq K S1 Y J:=λhh=>by rw[hh]at F;exact F.n
  have fin:∀s l l',Z[i]?=some (some s)->fY (some s)=true->(∀J,oO s J=.lst J)->(∃A g,aj[i]?=some (some (.ref A))/\K[A]?=some (.lst g)/\aq K S1 l g)->lI m l Y=some (v,l')->af=Z.set i (some (s.with l'))->
    Io P' (.me m (.v i) es) k v M B h S fr aj af:=by
   intro s l l' q G k0 ⟨A,g,k3,N,Q⟩ W k7;rw[I]at k3;cases k3;have mn:=c.f.mM q G I;obtain⟨r,ds',a1,a2,a3⟩:=Im W N Q F.t hap λk z y=>(c.f.wS k z).2.1 (y▸mn);have fw:=c.f.write (l':=l') q G I a3;subst k7;refine⟨r,_,S1,?_,.of (a2.mono (λm z=>j0 λy=>(c.f.wS m z).2.1 (y▸mn)) λ_ z=>z),fw,?_,λj=>?_⟩
   .simp only[Ev.ev,I,Option.join,Ev.dP,Ev.ak,X,Sf,L];simp only[Option.bind,id,Ev.dP,Ev.ak,X,Sf,L];rw[k0];exact a1
   .refine⟨by simpa using c.tr.len,λm y1 y2=>?_,c.tr.sub,λm y=>by simpa using c.tr.new m y
     ⟩
    have y3:¬ Xs M aj (cO es) m:=λz=>y2 (Xs.mono (by simp only[ji];intro i hi;simp[hi]) z);have y4:m≠n:=λz=>y2 ⟨z▸mn,i,by simp[ji,CA,H],by rw[z];exact I⟩;rw[j0 (λ(z:n=m)=>y4 z.symm)];exact c.tr.keep m y1 y3
   .rw[<-c.lk j];unfold locked;by_cases hj:i=j
    .subst hj;rw[kJ (List.getElem?_eq_some_iff.mp q).1,q];exact u9
    .rw[gR hj]
  split at z
  .rename_i l q;have C:=c.f.get q;obtain⟨p,G,A,g,rfl,_,N,Q⟩:=C;split at z
   .rename_i v' l' W;cases z;exact fin _ l l' q rfl (λ_=>rfl) ⟨A,g,G,N,Q⟩ W rfl
   .cases z
  .rename_i l q;have C:=c.f.get q;obtain⟨p,G,A,g,rfl,_,N,Q⟩:=C;split at z
   .rename_i v' l' W;cases z;exact fin _ l l' q rfl (λ_=>rfl) ⟨A,g,G,N,Q⟩ W rfl
   .cases z
  .cases z
 .rw[R0 H]at z;replace z:=ah z;obtain⟨x,Z,z1,z⟩:=z;replace z:=ah z;obtain⟨Y,b8,z2,z⟩:=z;replace z:=aE z;obtain⟨z,y0⟩:=z;subst y0;obtain⟨d,K,S1,L,F,c⟩:=io z1 f;obtain⟨J,h2,S2,e2,q2,o2⟩:=is z2 c.f;have hm':gW m=false:=by simpa using H
  have m7:=(F.tr c.f o2.tr id (oq L)).t;obtain⟨a1,r,a2,a3⟩:=Ij z hm' m7 q2.t;have X:Ev.uH m d K=true:=by
   unfold fh at z;split at z
   .have:=F.t;simp only[aO,Rep]at this;subst this;rfl
   .cases z
  exact⟨r,h2,S2,by simp only[Ev.ev,L,Ev.ak,X,Sf,e2,a2],.of a3,(c.trans o2).weak (by simp only[ji];intro i hi;simp at hi ⊢;rcases hi with hi|hi<;>simp[hi])⟩
def sL{elt:E}{t:T}{cond:Eo}(ii:iQ P P' it)(ic:qY P P' cond)(ie:aQ P P' elt):aQ P P' (.comp elt t it cond):=λz f=>by
 simp only[ev]at z;replace z:=ah z;obtain⟨vs,A,H,z⟩:=z;split at z
 case isFalse=>cases z
 rename_i I;replace z:=aE z;obtain⟨z,J⟩:=z;subst J;simp only[R4]at z;obtain⟨rs,K,L⟩:=z;obtain⟨s,h1,S1,M,N,Q,g⟩:=ii H f;have P8:=g.f.ro;obtain⟨W,l,S2,p,X,C⟩:=vd (f':=λd l=>match Ev.bT t d _ with
    |none=>.bad
    |some A=>(Ev.gm P' cond A l).bind λk i=>if k then (Ev.ev P' elt A i).bind λx j=>.ok (some x) j else .ok none i) (ck:=s.2) g.f.w (λq Y=>(Q q Y).1) (λv o d h S al y q=>by
  split at y
  .cases y
  .rename_i b8 Z;obtain⟨jk,b1,F,_,_⟩:=(P8.al al).bT Z q;rw[b1];split at y
   .rename_i c jf y2;obtain⟨i,S3,p,oc⟩:=ic y2 F;have IC:Al h S i S3:=oc.tr.al λm z=>z.1;split at y
    .rename_i B;subst B;split at y
     .rename_i x qk y3;cases y;obtain⟨G,j,S4,d1,d2,od⟩:=ie y3 (F.al IC);refine⟨some G,j,S4,?_,⟨G,rfl,d2.n⟩,IC.trans (od.tr.al λm z=>z.1)⟩;simp only[p,Ev.ak,Sf,d1]
     .cases y
    .rename_i B;cases y;refine⟨none,i,S3,?_,rfl,IC⟩;simp only[p,Ev.ak];rw[R0 B]
   .cases y) Al.refl K N
 obtain⟨r,j,S4,a1,a2,a3⟩:=gu (g.f.al C).w L X;refine⟨r,j,S4,?_,.of a2,(g.al C).al a3⟩;simp only[Ev.ev,M,Ev.ak];rw[gQ (g.f.undef I)];refine Eq.trans (R8 (λq:Ev.R (List D)=>q.bind λds l=>Ev.alloc ds l) p) ?_;simp only[Ev.ak,a1]
def zm(ii:iQ P P' it):aQ P P' (.dJ it):=λz f=>by
 simp only[ev]at z;replace z:=ah z;obtain⟨q,x,d,z⟩:=z;replace z:=aE z;obtain⟨z,g⟩:=z;subst g;obtain⟨s,y,S1,h,i,A,c⟩:=ii d f;obtain⟨r,j,S4,l,o,p⟩:=gu c.f.w z i;exact⟨r,j,S4,by simp only[Ev.ev,h,Ev.ak,l],.of o,c.al p⟩
def ID:iP P P' .nil:=λ{k fr v af M B h S aj} z f=>by
 simp only[bI]at z;cases z;refine⟨[],_,_,by simp only[Ev.bI],?_,.refl f⟩;unfold iO;split<;>rfl
def En(ie:aQ P P' e)(is:iP P P' es):iP P P' (.cons e es):=λ{k fr v af M B h S aj} z f=>by
 simp only[bI]at z;replace z:=ah z;obtain⟨x,C,p,z⟩:=z;replace z:=ah z;obtain⟨F,G,q,z⟩:=z;cases z;obtain⟨d,H,S1,i,r,g⟩:=ie p f;obtain⟨j,y,S2,A,c,l⟩:=is q g.f;have o:=r.tr (a:=e) g.f l.tr (by intro z;simp at z;exact z.2) (oq i);refine⟨d :: j,y,S2,by simp only[Ev.bI,i,Ev.ak,A],?_,g.trans l⟩;unfold iO at c ⊢;cases k with
 |true=>simp only[Sf]at c ⊢;exact⟨d,j,rfl,o.t,c⟩
 |false=>
  simp only[Si,SK]at c ⊢;exact .cons (by simpa[eN]using o) c
def Ep:oh P P' .nil:=λz f=>by
 simp only[eY]at z;cases z;exact⟨[],_,_,by simp only[Ev.bI],rfl,.refl f⟩
def Bg(ie:aQ P P' e)(is:oh P P' es):oh P P' (.cons e es):=λ{fr v af M B h S aj} z f=>by
 simp only[eY]at z;cases y:jY fr e with
 |some i=>
  rw[y]at z;try simp only at z
  replace z:=ah z;obtain⟨F,G,g,z⟩:=z;cases z;have H:e=.v i/\∃s,lent fr i=some s:=by
   cases e<;>simp only[jY,reduceCtorEq]at y
   rename_i j;split at y
   .rename_i l;cases y;exact⟨rfl,Option.isSome_iff_exists.mp l⟩
   .cases y
  obtain⟨rfl,s,l⟩:=H;obtain⟨n,L,_,_,_,C,N,_,_⟩:=iX l f;obtain⟨o,p,S2,q,r,c⟩:=is g f;refine⟨.ref n :: o,p,S2,?_,⟨_,_,rfl,C,r⟩,c.weak (by simp only[cO,ji];intro i hi;simpa using hi)⟩;simp only[Ev.bI,Ev.ev,C,Option.join,Option.bind,id,Ev.dP,Ev.ak,q]
 |none=>
  rw[y]at z;try simp only at z
  replace z:=ah z;obtain⟨x,Q,I,z⟩:=z;replace z:=ah z;obtain⟨F,G,g,z⟩:=z;cases z;obtain⟨d,W,S1,J,K,A⟩:=ie I f;obtain⟨o,p,S2,q,r,c⟩:=is g A.f;exact⟨d :: o,p,S2,by simp only[Ev.bI,J,Ev.ak,q],⟨_,_,rfl,K.n.tr A.f c.tr,r⟩,A.trans c⟩
def LK:om P P' .no:=λz f=>by
 simp only[eX]at z;cases z;exact⟨_,_,by simp only[Ev.eX],.refl f⟩
def IE(ie:aQ P P' e):om P P' (.yes e):=λz f=>by
 simp only[eX]at z;replace z:=ah z;obtain⟨x,o,c,z⟩:=z;replace z:=aE z;obtain⟨z,g⟩:=z;subst g;obtain⟨d,h,S1,i,j,l⟩:=ie c f;cases x<;>simp[intOf]at z
 subst z;have q:=j.t;simp only[aO,Rep]at q;subst q;exact⟨h,S1,by simp only[Ev.eX,i,Ev.ak];rfl,l⟩
def IF:qY P P' .no:=λz f=>by
 simp only[gm]at z;cases z;exact⟨_,_,by simp only[Ev.gm],.refl f⟩
def Er(ie:fO P P' e):qY P P' (.yes e):=λz f=>by
 simp only[gm]at z;obtain⟨c,S1,d,g⟩:=ie z f;exact⟨c,S1,by simp only[Ev.gm,d],g⟩
def Ot(ia:fO P P' a)(ib:fO P P' b):fO P P' (.an a b):=λz f=>by
 simp only[aD]at z;replace z:=ah z;obtain⟨k,p,g,z⟩:=z;obtain⟨h,S1,d,c⟩:=ia g f;cases k with
 |true=>
  simp only[Sf]at z;obtain⟨j,S2,l,o⟩:=ib z c.f;exact⟨j,S2,by simp only[Ev.aD,d,Ev.ak,Sf,l],c.trans o⟩
 |false=>
  simp only[Si,SK]at z;cases z;exact⟨h,S1,by simp only[Ev.aD,d,Ev.ak];rfl,c.weak (by simp only[ji];intro i hi;simp[hi])⟩
def LL(ia:fO P P' a)(ib:fO P P' b):fO P P' (.orr a b):=λz f=>by
 simp only[aD]at z;replace z:=ah z;obtain⟨k,p,g,z⟩:=z;obtain⟨h,S1,d,c⟩:=ia g f;cases k with
 |false=>
  simp only[Si,SK]at z;obtain⟨j,S2,l,o⟩:=ib z c.f;exact⟨j,S2,by simp only[Ev.aD,d,Ev.ak];rw[R0 (by decide)];exact l,c.trans o⟩
 |true=>
  simp only[Sf]at z;cases z;exact⟨h,S1,by simp only[Ev.aD,d,Ev.ak];rfl,c.weak (by simp only[ji];intro i hi;simp[hi])⟩
def Ou(ia:fO P P' a):fO P P' (.nt a):=λz f=>by
 simp only[aD]at z;replace z:=ah z;obtain⟨k,i,c,z⟩:=z;obtain⟨d,S1,g,h⟩:=ia c f;cases z;exact⟨d,S1,by simp only[Ev.aD,g,Ev.ak],h⟩
def cT(ie:aQ P P' e)(h1:∀fr,aD P e fr=(ev P true e fr).bind λx af=>.ok (truthy x) af)(h2:∀fr h,Ev.aD P' e fr h=(Ev.ev P' e fr h).bind λx h1=>Ev.R.of (Ev.truthy h1 x) h1):fO P P' e:=λz f=>by
 rw[h1]at z;replace z:=ah z;obtain⟨x,af,c,z⟩:=z;cases z;obtain⟨d,h1,S1,g,i,j⟩:=ie c f;exact⟨h1,S1,by rw[h2,g,Ev.ak,yX i.t];rfl,j⟩
def sM(ie:aQ P P' e){k:Bool}{fr:Fr}{v:V}{af:Fr}{M B:Nat->Prop}{h:Hh}{S:Nat->Prop}{aj:Ev.Fr}(z:src k fr e (ev P k e fr)=.ok v af)(f:aT M B h S fr aj) :
  ∃d h' S',Ev.ev P' e aj h=.ok d h'/\aO h' S' v d/\(k=false->∀n,d=.ref n->¬ M n)/\Out M B (ay e) h S fr aj h' S' af:=by
 have g:ev P k e fr=.ok v af->∃d h' S',Ev.ev P' e aj h=.ok d h'/\aO h' S' v d/\(k=false->∀n,d=.ref n->¬ M n)/\Out M B (ay e) h S fr aj h' S' af:=λz=>by
  obtain⟨d,C,S1,r,A,o⟩:=ie z f;refine⟨d,C,S1,r,A.t,λF n c=>?_,o⟩;subst F;have q:=A.n;cases v<;>simp only[Rep]at q
  .cases q.symm.trans c
  .cases q.symm.trans c
  .cases q.symm.trans c
  .cases q.symm.trans c
  .obtain⟨_,q,_⟩:=q;cases q.symm.trans c
  .obtain⟨m,x,q,j,_⟩:=q;cases q.symm.trans c;exact(o.f.wS _ j).2.1
  .obtain⟨m,x,q,j,_⟩:=q;cases q.symm.trans c;exact(o.f.wS _ j).2.1
  .obtain⟨m,q,j,_⟩:=q;cases q.symm.trans c;exact(o.f.wS _ j).2.1
 cases e
 case v i=>
  simp only[src]at z;replace z:=aE z;obtain⟨z,G⟩:=z;subst G;unfold wQ at z;split at z
  .rename_i l y;cases z;obtain⟨p,r,m,x,rfl,H,I,J⟩:=f.get y;exact⟨.ref m,h,S,by simp only[Ev.ev,r,Option.join,Option.bind,id,Ev.dP],⟨m,x,rfl,I,J⟩,λ_ n K=>by cases K;exact H,.refl f⟩
  .exact g (by simp only[ev,z,dP])
 all_goals exact g z
def IG(ie:aQ P P' e):iQ P P' (.seq e):=λz f=>by
 simp only[bJ]at z;replace z:=ah z;obtain⟨x,C,h,z⟩:=z;replace z:=aE z;obtain⟨z,i⟩:=z;subst i;obtain⟨d,j,S1,l,o,p,r⟩:=sM ie h f;obtain⟨s,y,A,c⟩:=Bc z o;exact⟨s,j,S1,by simp only[Ev.bJ,l,Ev.ak,y,Ev.dP],A,λq g=>⟨(c q g).2,λB=>p B _ (c q g).1⟩,r⟩
def Et(is:iP P P' es):iQ P P' (.eS es):=λz f=>by
 simp only[bJ]at z;replace z:=ah z;obtain⟨x,y,c,z⟩:=z;replace z:=aE z;obtain⟨z,g⟩:=z;subst g;obtain⟨d,h,S1,i,j,l⟩:=is c f;obtain⟨s,o,p⟩:=Ik z j.t;exact⟨(s,[]),h,S1,by simp only[Ev.bJ,i,Ev.ak,o,Ev.dP],p,λq r=>by simp at r,l⟩
def Eu(ie:aQ P P' e):iQ P P' (.rev e):=λz f=>by
 simp only[bJ]at z;replace z:=ah z;obtain⟨x,C,g,z⟩:=z;replace z:=aE z;obtain⟨z,h⟩:=z;subst h;obtain⟨d,i,S1,j,o,p⟩:=ie g f;simp only[JM]at z;obtain⟨l,z,rfl⟩:=z;cases x<;>simp only[HX,reduceCtorEq]at z
 cases z;have c:=o.t;simp only[aO,Rep]at c;obtain⟨r,y,A⟩:=c;subst y;exact⟨(r.reverse,[]),i,S1,by simp only[Ev.bJ,j,Ev.ak,Ev.Gy,Option.map,Ev.dP],A.reverse,λq B=>by simp at B,p⟩
def Bh(ie:aQ P P' e):iQ P P' (.jc e):=λz f=>by
 simp only[bJ]at z;replace z:=ah z;obtain⟨x,A,i,z⟩:=z;replace z:=aE z;obtain⟨z,j⟩:=z;subst j;obtain⟨d,l,S1,o,p,r⟩:=ie i f;cases x<;>simp only[Ba,reduceCtorEq]at z
 rename_i a;cases z;have h:=p.t;simp only[aO,Rep]at h;subst h;exact⟨(Ev.cH 0 (a.map λc=>.str [c]),[]),l,S1,by simp only[Ev.bJ,o,Ev.ak,Ev.AN,Option.map,Ev.dP],u6 0 (aq.map (f:=λc=>V.str [c]) (g:=λc=>D.str [c]) (λs=>by simp[Rep]) _),λq y=>by simp at y,r⟩
def Bj(ia:aQ P P' a)(ib:aQ P P' b):iQ P P' (.jd a b):=λz f=>by
 simp only[bJ]at z;replace z:=two ia ib z f;obtain⟨x,y,d,e,j,S2,r,k,z,h,i,l⟩:=z;replace z:=aE z;obtain⟨z,o⟩:=z;subst o;unfold wO at z;split at z
 .rename_i a b;simp only[aO,Rep]at h i;subst h;subst i;cases z;exact⟨(Ev.cD (a.map λc=>.str [c]) (b.map λc=>.str [c]),[]),j,S2,by simp only[Ev.bJ];rw[k];simp[Ev.vX],sI (aq.map (f:=λc=>V.str [c]) (g:=λc=>D.str [c]) (λs=>by simp[Rep]) _) (aq.map (f:=λc=>V.str [c]) (g:=λc=>D.str [c]) (λs=>by simp[Rep]) _),λq p=>by simp at p,l⟩
 .cases z
def Ew(ia:aQ P P' a)(ib:aQ P P' b):iQ P P' (.zip a b):=λ{k fr v af M B h S aj} z f=>by
 simp only[bJ]at z;replace z:=ah z;obtain⟨x,ao,I,z⟩:=z;replace z:=ah z;obtain⟨y,b8,J,z⟩:=z;replace z:=aE z;obtain⟨z,K⟩:=z;subst K;obtain⟨d,L,S1,C,o,p,i⟩:=sM ia I f;obtain⟨e,F,S2,N,Q,W,j⟩:=sM ib J i.f;simp only[JM,R4]at z;obtain⟨l,X,m,Y,rfl⟩:=z;have Z:aO F S2 x d:=by
  by_cases c:(k&&kf a (ay b))=true
  .exact(eN.tr (k:=true) (a:=a) (by unfold eN;rw[gQ rfl];exact o) i.f j.tr (λ_=>by simp at c;exact c.2) (oq C)).t
  .have p:=p (by simpa using c);cases x
   case lst l=>
    simp only[aO]at o ⊢;obtain⟨n,ds,rfl,r,A⟩:=o;exact⟨n,ds,rfl,by rw[j.tr.keep n (List.getElem?_eq_some_iff.mp r).1 (λz=>p n rfl z.1)];exact r,A.tr i.f j.tr⟩
   all_goals exact Rep.tr (show Rep L S1 _ d from o) i.f j.tr
 obtain⟨s,r,A,G⟩:=uZ X Z;obtain⟨t,b1,b2,H⟩:=uZ Y Q;refine⟨(Ev.cD s.1 t.1,s.2++t.2),F,S2,by simp only[Ev.bJ,C,Ev.ak,N,r,b1,Option.bind,Option.map,Ev.dP],sI A b2,λq g=>?_,i.trans j⟩;rcases List.mem_append.mp g with g|g
 .exact⟨(G q g).2,λc=>p (by simp[c]) _ (G q g).1⟩
 .exact⟨(H q g).2,λc=>W c _ (H q g).1⟩
end
section
variable{P:aH}{P':Ev.aH}(HP:nX P P')
include HP
mutual
theorem aM:∀e:E,aQ P P' e
 |.c _=>Iz
 |.v _=>IA
 |.tup d=>yZ (fk d)
 |.lst d=>y9 (fk d)
 |.bin _ a b=>za (aM a) (aM b)
 |.cmp _ a b=>zc (aM a) (aM b)
 |.nt a=>LI (aM a)
 |.neg a=>zf (aM a)
 |.an a b=>LJ (aM a) (aM b)
 |.orr a b=>IB (aM a) (aM b)
 |.qw t a b=>zg (fL t) (aM a) (aM b)
 |.ix a b=>CB (aM a) (aM b)
 |.sl a i j=>CC (aM a) (ow i) (ow j)
 |.rv a=>CD (aM a)
 |.jS a=>zj (aM a)
 |.qx _=>ze
 |.rO a b=>zd (aM a) (aM b)
 |.cl _ d=>CF HP (sN d)
 |.bi _ d=>CG (fk d)
 |.me _ o d=>CH (aM o) (fk d)
 |.jt a _=>zh (aM a)
 |.comp g _ h f=>sL (j3 h) (zo f) (aM g)
 |.dJ h=>zm (j3 h)
 |.iw a=>zk (aM a)
theorem fL:∀e:E,fO P P' e
 |.an a b=>Ot (fL a) (fL b)
 |.orr a b=>LL (fL a) (fL b)
 |.nt a=>Ou (fL a)
 |.c x=>cT Iz (λ_=>by simp only[aD]) (λ_ _=>by simp only[Ev.aD])
 |.v x=>cT IA (λ_=>by simp only[aD]) (λ_ _=>by simp only[Ev.aD])
 |.tup d=>cT (yZ (fk d)) (λ_=>by simp only[aD]) (λ_ _=>by simp only[Ev.aD])
 |.lst d=>cT (y9 (fk d)) (λ_=>by simp only[aD]) (λ_ _=>by simp only[Ev.aD])
 |.bin _ a b=>cT (za (aM a) (aM b)) (λ_=>by simp only[aD]) (λ_ _=>by simp only[Ev.aD])
 |.cmp _ a b=>cT (zc (aM a) (aM b)) (λ_=>by simp only[aD]) (λ_ _=>by simp only[Ev.aD])
 |.neg a=>cT (zf (aM a)) (λ_=>by simp only[aD]) (λ_ _=>by simp only[Ev.aD])
 |.qw t a b=>cT (zg (fL t) (aM a) (aM b)) (λ_=>by simp only[aD]) (λ_ _=>by simp only[Ev.aD])
 |.ix a b=>cT (CB (aM a) (aM b)) (λ_=>by simp only[aD]) (λ_ _=>by simp only[Ev.aD])
 |.sl a i j=>cT (CC (aM a) (ow i) (ow j)) (λ_=>by simp only[aD]) (λ_ _=>by simp only[Ev.aD])
 |.rv a=>cT (CD (aM a)) (λ_=>by simp only[aD]) (λ_ _=>by simp only[Ev.aD])
 |.jS a=>cT (zj (aM a)) (λ_=>by simp only[aD]) (λ_ _=>by simp only[Ev.aD])
 |.qx _=>cT ze (λ_=>by simp only[aD]) (λ_ _=>by simp only[Ev.aD])
 |.rO a b=>cT (zd (aM a) (aM b)) (λ_=>by simp only[aD]) (λ_ _=>by simp only[Ev.aD])
 |.cl _ d=>cT (CF HP (sN d)) (λ_=>by simp only[aD]) (λ_ _=>by simp only[Ev.aD])
 |.bi _ d=>cT (CG (fk d)) (λ_=>by simp only[aD]) (λ_ _=>by simp only[Ev.aD])
 |.me _ o d=>cT (CH (aM o) (fk d)) (λ_=>by simp only[aD]) (λ_ _=>by simp only[Ev.aD])
 |.jt a _=>cT (zh (aM a)) (λ_=>by simp only[aD]) (λ_ _=>by simp only[Ev.aD])
 |.comp g _ h f=>cT (sL (j3 h) (zo f) (aM g)) (λ_=>by simp only[aD]) (λ_ _=>by simp only[Ev.aD])
 |.dJ h=>cT (zm (j3 h)) (λ_=>by simp only[aD]) (λ_ _=>by simp only[Ev.aD])
 |.iw a=>cT (zk (aM a)) (λ_=>by simp only[aD]) (λ_ _=>by simp only[Ev.aD])
theorem fk:∀e:Es,iP P P' e
 |.nil=>ID
 |.cons e a=>En (aM e) (fk a)
theorem sN:∀e:Es,oh P P' e
 |.nil=>Ep
 |.cons e a=>Bg (aM e) (sN a)
theorem ow:∀e:Eo,om P P' e
 |.no=>LK
 |.yes e=>IE (aM e)
theorem zo:∀e:Eo,qY P P' e
 |.no=>IF
 |.yes e=>Er (fL e)
theorem j3:∀e:It,iQ P P' e
 |.seq e=>IG (aM e)
 |.eS c=>Et (fk c)
 |.zip a b=>Ew (aM a) (aM b)
 |.rev a=>Eu (aM a)
 |.jc a=>Bh (aM a)
 |.jd a b=>Bj (aM a) (aM b)
end
end
structure Tr(M B:Nat->Prop)(h:Hh)(S:Nat->Prop)(M':Nat->Prop)(h':Hh)(S':Nat->Prop):Prop where
 len:h.length<=h'.length
 keep:∀m,m<h.length->¬ M m->h'[m]?=h[m]?
 sub:∀m,S m->S' m
 new:∀m,S' m->S m\/(h.length<=m/\m<h'.length)\/(M m/\¬ B m)
 wU:∀m,M' m->M m\/h.length<=m
structure dF(M B:Nat->Prop)(h:Hh)(S:Nat->Prop)(fr:Fr)(aj:Ev.Fr)(M':Nat->Prop)(h':Hh)(S':Nat->Prop)(af:Fr)(bA:Ev.Fr):Prop where
 f:aT M' B h' S' af bA
 tr:Tr M B h S M' h' S'
 lk:∀i,locked af i=locked fr i
 rf:∀i,locked fr i=true->bA[i]?=aj[i]?
def gb(h:Hh)(S:Nat->Prop):Fl->Ev.Fl->Prop
 |.nx,g=>g=.nx
 |.bk,g=>g=.bk
 |.ct,g=>g=.ct
 |.ret v,g=>∃d,g=.ret d/\Rep h S v d
section
variable{M B M' M1 M2:Nat->Prop}{h h1 h2:Hh}{S S' S1 S2:Nat->Prop}{fr af ao:Fr}{aj bA kC:Ev.Fr}{c:List Nat}{v:V}{d:D}
def dF.refl(f:aT M B h S fr aj):dF M B h S fr aj M h S fr aj:=⟨f,⟨oM _,λ_ _ _=>rfl,λ_ q=>q,λ_ q=>.inl q,λ_ q=>.inl q
 ⟩,λ_=>rfl,λ_ _=>rfl⟩
def Out.s(o:Out M B c h S fr aj h1 S1 af):dF M B h S fr aj M h1 S1 af aj:=⟨o.f,⟨o.tr.len,λm a b=>o.tr.keep m a (λz=>b z.1),o.tr.sub,λm q=>(o.tr.new m q).imp id .inl,λ_ q=>.inl q
 ⟩,o.lk,λ_ _=>rfl⟩
theorem dF.trans(f0:aT M B h S fr aj)(a:dF M B h S fr aj M1 h1 S1 af bA)(b:dF M1 B h1 S1 af bA M2 h2 S2 ao kC):dF M B h S fr aj M2 h2 S2 ao kC where
 f:=b.f
 tr:=⟨Sa a.tr.len b.tr.len,λm e g=>by
   rw[b.tr.keep m (zP e a.tr.len) (λz=>by
    rcases a.tr.wU m z with z|z
    .exact g z
    .omega),a.tr.keep m e g],λm q=>b.tr.sub m (a.tr.sub m q),λm q=>by
   rcases b.tr.new m q with q|q|q
   .rcases a.tr.new m q with q|q|q
    .exact .inl q
    .exact .inr (.inl ⟨q.1,zP q.2 b.tr.len⟩)
    .exact .inr (.inr q)
   .exact .inr (.inl ⟨Sa a.tr.len q.1,q.2⟩)
   .rcases a.tr.wU m q.1 with z|z
    .exact .inr (.inr ⟨z,q.2⟩)
    .exact .inr (.inl ⟨z,zP (a.f.wM m q.1) b.tr.len⟩),λm q=>by
   rcases b.tr.wU m q with q|q
   .exact a.tr.wU m q
   .exact .inr (Sa a.tr.len q)
  ⟩
 lk:=λi=>(b.lk i).trans (a.lk i)
 rf:=λi q=>(b.rf i (by rw[a.lk i];exact q)).trans (a.rf i q)
def aT.kind(f:aT M B h S fr aj)(g:Option Sl->Option Sl->Prop)(hl:af.length=fr.length)(hg:∀(i:Nat) o,af[i]?=some o->∃o0,fr[i]?=some o0/\(o=o0\/(∃l,o0=some (.own l)/\o=some (.val (.lst l)))\/(∃l,o0=some (.bor l)/\o=some (.ro l)))) :
  ∃M' S',dF M B h S fr aj M' h S' af aj:=by
 let X:Nat->Prop:=λm=>∃(i:Nat) (l:List V),fr[i]?=some (some (Sl.own l))/\af[i]?=some (some (Sl.val (V.lst l)))/\aj[i]?=some (some (D.ref m))
 let Y:Nat->Prop:=λm=>∃(i:Nat) (l:List V),fr[i]?=some (some (Sl.bor l))/\af[i]?=some (some (Sl.ro l))/\aj[i]?=some (some (D.ref m))
 have J:∀m,X m->M m/\¬ B m:=λm ⟨i,l,a,_,b⟩=>by
  obtain⟨P,x,e,q,_⟩:=f.sl i _ _ a b;cases e;exact q
 have yM:∀m,Y m->M m/\B m:=λm ⟨i,l,a,_,b⟩=>by
  obtain⟨P,x,e,q,_⟩:=f.sl i _ _ a b;cases e;exact q
 have mono:∀{l:List V} {x:List D},aq h S l x->aq h (λm=>S m\/X m) l x:=λq=>q.mono (λ_ _=>rfl) λ_ z=>.inl z;refine⟨λm=>M m/\¬ X m/\¬ Y m,λm=>S m\/X m,⟨⟨λm q=>?_,λm q=>f.wM m q.1,f.wB,by rw[hl,f.len],λi o p F G=>?_,λi j o Q m W Z y3 y4 y5 y6=>?_⟩,⟨oM _,λ_ _ _=>rfl,λ_ q=>.inl q,λm q=>?_,λm q=>.inl q.1
  ⟩,λi=>?_,λ_ _=>rfl⟩⟩
 .rcases q with q|q
  .exact⟨(f.wS m q).1,λz=>(f.wS m q).2.1 z.1,(f.wS m q).2.2⟩
  .exact⟨f.wM m (J m q).1,λz=>z.2.1 q,(J m q).2⟩
 .obtain⟨o0,A,k⟩:=hg i o F;have r:=f.sl i o0 p A G;rcases k with rfl|⟨l,rfl,rfl⟩|⟨l,rfl,rfl⟩
  .rcases o with _|s
   .exact r
   .cases s with
    |val v=>obtain⟨d,e,q⟩:=r;exact⟨d,e,q.mono (λ_ _=>rfl) λ_ z=>.inl z⟩
    |own l=>
     obtain⟨m,x,rfl,z,y,q⟩:=r;refine⟨m,x,rfl,⟨⟨z.1,λ⟨j,K,H,C,I⟩=>?_,λ⟨j,K,H,C,I⟩=>?_⟩,z.2⟩,y,mono q⟩
     .have:=f.inj i j _ _ m A H rfl rfl G I;subst this;rw[F]at C;cases C
     .have:=f.inj i j _ _ m A H rfl rfl G I;subst this;rw[F]at C;cases C
    |bor l=>
     obtain⟨m,x,rfl,z,y,q⟩:=r;refine⟨m,x,rfl,⟨⟨z.1,λ⟨j,K,H,C,I⟩=>?_,λ⟨j,K,H,C,I⟩=>?_⟩,z.2⟩,y,mono q⟩
     .have:=f.inj i j _ _ m A H rfl rfl G I;subst this;rw[F]at C;cases C
     .have:=f.inj i j _ _ m A H rfl rfl G I;subst this;rw[F]at C;cases C
    |ro l=>obtain⟨m,x,rfl,z,y,q⟩:=r;exact⟨m,x,rfl,λw=>z w.1,y,mono q⟩
  .obtain⟨m,x,rfl,z,y,q⟩:=r;exact⟨.ref m,rfl,m,x,rfl,.inr ⟨i,l,A,F,G⟩,y,mono q⟩
  .obtain⟨m,x,rfl,z,y,q⟩:=r;exact⟨m,x,rfl,λw=>w.2.2 ⟨i,l,A,F,G⟩,y,mono q⟩
 .have N:∀(i:Nat) o,af[i]?=some o->fY o=true->∃o0,fr[i]?=some o0/\fY o0=true:=λi o w1 L=>by
   obtain⟨o0,A,k⟩:=hg i o w1;rcases k with rfl|⟨l,rfl,rfl⟩|⟨l,rfl,rfl⟩
   .exact⟨o,A,L⟩
   .cases L
   .cases L
  obtain⟨oi,k1,k2⟩:=N i o W y3;obtain⟨oj,k3,k4⟩:=N j Q Z y4;exact f.inj i j oi oj m k1 k3 k2 k4 y5 y6
 .rcases q with q|q
  .exact .inl q
  .exact .inr (.inr (J m q))
 .unfold locked;cases z:af[i]? with
  |none=>
   have:fr[i]?=none:=by rw[UT]at z ⊢;omega
   rw[this]
  |some o=>
   obtain⟨o0,A,k⟩:=hg i o z;rw[A];rcases k with rfl|⟨l,rfl,rfl⟩|⟨l,rfl,rfl⟩<;>rfl
def aT.cL(f:aT M B h S fr aj):∃M' S',dF M B h S fr aj M' h S' (eL fr) aj:=by
 refine f.kind (λ_ _=>True) (by simp[eL]) λi o e=>?_;unfold eL at e;rw[Su]at e;cases z:fr[i]? with
 |none=>rw[z]at e;cases e
 |some a=>
  rw[z]at e;cases e;refine⟨a,rfl,?_⟩;rcases a with _|s
  .exact .inl rfl
  .cases s with
   |own l=>exact .inr (.inl ⟨l,rfl,rfl⟩)
   |_=>exact .inl rfl
def aT.pre(e:E)(f:aT M B h S fr aj):∃M' S',dF M B h S fr aj M' h S' (pI e fr) aj:=by
 cases e with
 |v j=>
  refine f.kind (λ_ _=>True) (by simp[pI]) λi o e=>?_;simp only[pI]at e;rw[Vu]at e;cases z:fr[i]? with
  |none=>rw[z]at e;simp at e
  |some a=>
   rw[z]at e;replace e:(if j=i then Option.map Sl.cL a else a)=o:=jC e;by_cases b:j=i
   .rw[gQ b]at e;subst e;refine⟨a,rfl,?_⟩;rcases a with _|s
    .exact .inl rfl
    .cases s with
     |own l=>exact .inr (.inl ⟨l,rfl,rfl⟩)
     |_=>exact .inl rfl
   .rw[R0 b]at e;subst e;exact⟨a,rfl,.inl rfl⟩
 |_=>exact⟨_,_,.refl f⟩
theorem aT.walk:∀(is:List Nat) {M:Nat->Prop}{S:Nat->Prop}{fr:Fr},aT M B h S fr aj->∃M' S',dF M B h S fr aj M' h S' (qX is fr) aj
 |[],_,_,_,f=>⟨_,_,.refl f⟩
 |i :: is,M,S,fr,f=>by
  have one:∃M1 S1,dF M B h S fr aj M1 h S1 (match fr[i]? with|some (some s)=>fr.set i (some s.walk)|_=>fr) aj:=by
   split
   .rename_i s z;have g:=(List.getElem?_eq_some_iff.mp z).1;refine f.kind (λ_ _=>True) (by simp) λj o e=>?_;by_cases a:i=j
    .subst a;rw[kJ g]at e;cases e;refine⟨_,z,?_⟩;cases s with
     |own l=>exact .inr (.inl ⟨l,rfl,rfl⟩)
     |bor l=>exact .inr (.inr ⟨l,rfl,rfl⟩)
     |_=>exact .inl rfl
    .rw[gR a]at e;exact⟨o,e,.inl rfl⟩
   .exact⟨M,S,.refl f⟩
  obtain⟨M1,S1,b⟩:=one;obtain⟨M2,S2,p⟩:=aT.walk is b.f;exact⟨M2,S2,b.trans f p⟩
def MY:Sl->List V->Prop
 |.own l,l'=>l=l'
 |_,_=>False
def aT.Ov(f:aT M B h S fr aj){i:Nat}{s:Sl}{l:List V}{ds:List D}{rest:List O}(hs:MY s l)(e:put fr i s=some af)(q:aq h S l ds):dF M B h S fr aj (λm=>M m\/m=h.length) (h++oO s ds :: rest) S af (aj.set i (some (.ref h.length))):=by
 have Y:af=fr.set i (some s)/\locked fr i=false:=by
  unfold put at e;unfold locked;split at e
  .cases e
  .cases e
  .rename_i Z k2;cases e;refine⟨rfl,?_⟩;cases z:fr[i]? with
   |none=>rfl
   |some o=>
    rcases o with _|s
    .rfl
    .cases s with
     |bor l=>exact absurd z (Z l)
     |ro l=>exact absurd z (k2 l)
     |_=>rfl
 obtain⟨rfl,P⟩:=Y;have G:∀m,m<h.length->(h++oO s ds :: rest)[m]?=h[m]?:=λm z=>by rw[gE z]
 have H:∀m,S m->(h++oO s ds :: rest)[m]?=h[m]?:=λm z=>G m (f.w m z);refine⟨⟨λm y=>⟨by have:=(f.wS m y).1;simp;omega,λz=>?_,(f.wS m y).2.2⟩,λm y=>?_,λm y=>by have:=f.wB m y;simp;omega,by simp[f.len],λj o p x C=>?_,λj k o Q m x C W X I J=>?_⟩,⟨by simp,λm y _=>G m y,λ_ z=>z,λ_ z=>.inl z,λm z=>z.imp id (λz=>by omega)
   ⟩,λj=>?_,λj g=>?_⟩
 .rcases z with z|z
  .exact(f.wS m y).2.1 z
  .have:=(f.wS m y).1;omega
 .rcases y with y|y
  .have:=f.wM m y;simp;omega
  .subst y;simp
 .by_cases g:i=j
  .subst g;have F:i<fr.length:=by have:=(List.getElem?_eq_some_iff.mp x).1;simpa using this
   rw[kJ F]at x;rw[kJ (by rw[<-f.len];exact F)]at C;cases x;cases C;cases s<;>first
    |exact hs.elim
    | (simp only[MY]at hs;subst hs;exact⟨h.length,ds,rfl,⟨.inr rfl,λz=>by have:=f.wB _ z;omega⟩,by simp[oO],q.mono H λ_ z=>z⟩)
  .rw[gR g]at x C;have A:=f.sl j o p x C;rcases o with _|s
   .exact A
   .cases s with
    |val v=>obtain⟨d,e,q⟩:=A;exact⟨d,e,q.mono H λ_ z=>z⟩
    |own l=>obtain⟨m,K,rfl,z,y,q⟩:=A;exact⟨m,K,rfl,⟨.inl z.1,z.2⟩,by rw[G m (f.wM m z.1)];exact y,q.mono H λ_ z=>z⟩
    |bor l=>obtain⟨m,K,rfl,z,y,q⟩:=A;exact⟨m,K,rfl,⟨.inl z.1,z.2⟩,by rw[G m (f.wM m z.1)];exact y,q.mono H λ_ z=>z⟩
    |ro l=>
     obtain⟨m,K,rfl,z,y,q⟩:=A;have hm:=(List.getElem?_eq_some_iff.mp y).1;exact⟨m,K,rfl,λw=>by rcases w with w|w;exact z w;omega,by rw[G m hm];exact y,q.mono H λ_ z=>z⟩
 .have L:∀(j:Nat) o,i≠j->fr[j]?=some o->fY o=true->aj[j]?=some (some (.ref m))->m<h.length:=λj o _ w1 w2 w3=>f.wM m (f.mM w1 w2 w3);have N:∀(j:Nat),j<fr.length->i=j->(aj.set i (some (.ref h.length)))[j]?=some (some (.ref m))->m=h.length:=λj F g w=>by
   subst g;rw[kJ (by rw[<-f.len];exact F)]at w;cases w;rfl
  have lj:j<fr.length:=by have:=(List.getElem?_eq_some_iff.mp x).1;simpa using this
  have lk:k<fr.length:=by have:=(List.getElem?_eq_some_iff.mp C).1;simpa using this
  by_cases g:i=j
  .by_cases r:i=k
   .rw[<-g,<-r]
   .have a:=N j lj g I;rw[gR r]at C J;have b:=L k Q r C X J;omega
  .by_cases r:i=k
   .have a:=N k lk r J;rw[gR g]at x I;have b:=L j o g x W I;omega
   .rw[gR g]at x I;rw[gR r]at C J;exact f.inj j k o Q m x C W X I J
 .by_cases g:i=j
  .subst g;rw[P];unfold locked;by_cases F:i<fr.length
   .rw[kJ F];cases s<;>first|rfl|exact hs.elim
   .rw[Sy (by simpa using F)]
  .unfold locked;rw[gR g]
 .have:i≠j:=λz=>by subst z;rw[P]at g;cases g
  rw[gR this]
theorem aT.own(f:aT M B h S fr aj){i:Nat}{l:List V}{ds:List D}(e:put fr i (.own l)=some af)(q:aq h S l ds):dF M B h S fr aj (λm=>M m\/m=h.length) (h++[.lst ds]) S af (aj.set i (some (.ref h.length))):=f.Ov (s:=.own l) (rest:=[]) rfl e q
end
inductive II(P':Ev.aH)(w:Nat)(s:S)(g:Fl)(M B:Nat->Prop)(h:Hh)(S:Nat->Prop)(fr:Fr)(aj:Ev.Fr)(af:Fr):Prop
 |mk (g':Ev.Fl) (bA:Ev.Fr) (M':Nat->Prop) (h':Hh) (S':Nat->Prop) (c0:Ev.ex P' w s aj h=.ok (g',bA) h') (c1:gb h' S' g g') (c2:dF M B h S fr aj M' h' S' af bA):II P' w s g M B h S fr aj af
inductive IJ(P':Ev.aH)(w:Nat)(s:Ss)(g:Fl)(M B:Nat->Prop)(h:Hh)(S:Nat->Prop)(fr:Fr)(aj:Ev.Fr)(af:Fr):Prop
 |mk (g':Ev.Fl) (bA:Ev.Fr) (M':Nat->Prop) (h':Hh) (S':Nat->Prop) (c0:Ev.exs P' w s aj h=.ok (g',bA) h') (c1:gb h' S' g g') (c2:dF M B h S fr aj M' h' S' af bA):IJ P' w s g M B h S fr aj af
section
variable(P:aH)(P':Ev.aH)(w:Nat)
def pK(s:S):Prop:=∀{fr:Fr} {g:Fl} {af:Fr} {M B:Nat->Prop} {h:Hh} {S:Nat->Prop} {aj:Ev.Fr},ex P w s fr=.ok g af->aT M B h S fr aj->II P' w s g M B h S fr aj af
def oz(s:Ss):Prop:=∀{fr:Fr} {g:Fl} {af:Fr} {M B:Nat->Prop} {h:Hh} {S:Nat->Prop} {aj:Ev.Fr},exs P w s fr=.ok g af->aT M B h S fr aj->IJ P' w s g M B h S fr aj af
end
section
variable{P:aH}{P':Ev.aH}{w:Nat}(HP:nX P P')
include HP
def Bk{i:Nat}{e:E}{fr:Fr}{g:Fl}{af:Fr}{M B:Nat->Prop}{h:Hh}{S:Nat->Prop}{aj:Ev.Fr}(z:((ev P false e fr).bind λx af=>if isNew e then (match x with
   |.lst l=>(R.of (put af i (.own l)) af).bind λao _=>.ok .nx ao
   |_=>.bad)
  else (R.of (put af i (.val x)) af).bind λao _=>.ok .nx ao)=.ok g af) (f:aT M B h S fr aj):II P' w (.set i e) g M B h S fr aj af:=by
 replace z:=ah z;obtain⟨x,ao,a,z⟩:=z;by_cases y:isNew e=true
 .rw[gQ y]at z;have A:∃l r c S1,x=.lst l/\aq c S1 l r/\Ev.ev P' e aj h=.ok (.ref c.length) (c++[.lst r])/\Out M B (ay e) h S fr aj c S1 ao:=by
   cases e <;> (try simp only[isNew,Si]at y)
   case lst es=>
    simp only[ev]at a;replace a:=ah a;obtain⟨l,C,b,a⟩:=a;replace a:=aE a;obtain⟨a,p⟩:=a;subst p;unfold dZ at a;split at a
    case isFalse=>cases a
    rename_i F;cases a;obtain⟨r,c,S1,q,j,o⟩:=fk HP es b f;refine⟨l,r,c,S1,rfl,j.n,?_,o⟩;simp only[Ev.ev,q,Ev.ak,Ev.alloc];rw[gQ (by rw[<-j.n.length];exact F)]
   case dJ it=>
    simp only[ev]at a;replace a:=ah a;obtain⟨l,C,b,a⟩:=a;replace a:=aE a;obtain⟨a,p⟩:=a;subst p;unfold dZ at a;split at a
    case isFalse=>cases a
    rename_i F;cases a;obtain⟨s,c,S1,q,j,K,o⟩:=j3 HP it b f;refine⟨l,s.1,c,S1,rfl,j,?_,o⟩;simp only[Ev.ev,q,Ev.ak,Ev.alloc];rw[gQ (by rw[<-j.length];exact F)]
  obtain⟨l,r,c,S1,rfl,j,q,o⟩:=A;simp only at z;replace z:=ah z;obtain⟨C,G,b,z⟩:=z;replace b:=aE b;obtain⟨b,p⟩:=b;subst p;cases z;have H:=o.f.own b j;exact⟨.nx,_,_,_,_,by simp only[Ev.iy,q,Ev.ak],rfl,o.s.trans f H⟩
 .rw[R0 y]at z;replace z:=ah z;obtain⟨C,G,b,z⟩:=z;replace b:=aE b;obtain⟨b,p⟩:=b;subst p;cases z;obtain⟨d,c,S1,q,j,o⟩:=aM HP e a f;obtain⟨f2,I,J⟩:=o.f.set b j.n;refine⟨.nx,_,_,_,_,by simp only[Ev.iy,q,Ev.ak],rfl,o.s.trans f ⟨f2,(dF.refl f2).tr,I,J⟩⟩
def Ex{i:Nat}{e:E}:pK P P' w (.set i e):=λ{fr g af M B h S aj} z f=>by
 simp only[ex]at z;obtain⟨M0,S0,a⟩:=f.pre e;obtain⟨b,c,d,j,l,p,q,o⟩:=Bk HP z a.f;exact⟨b,c,d,j,l,p,q,a.trans f o⟩
def IK{e:E}:pK P P' w (.exp e):=λ{fr g af M B h S aj} z f=>by
 simp only[ex]at z;replace z:=ah z;obtain⟨x,i,a,z⟩:=z;cases z;obtain⟨d,j,S1,b,l,c⟩:=aM HP e a f;exact⟨.nx,_,_,_,_,by simp only[Ev.iy,b,Ev.ak],rfl,c.s⟩
def IL{e:E}:pK P P' w (.ret e):=λ{fr g af M B h S aj} z f=>by
 simp only[ex]at z;replace z:=ah z;obtain⟨x,l,b,z⟩:=z;cases z;obtain⟨M1,S1,a⟩:=f.cL;obtain⟨d,o,S2,c,i,j⟩:=aM HP e b a.f;exact⟨.ret d,_,_,_,_,by simp only[Ev.iy,c,Ev.ak],⟨d,rfl,i.n⟩,a.trans f j.s⟩
omit HP in
theorem pL{F:V->Fr->R Fl}{F':D->Ev.Fr->Hh->Ev.R (Ev.Fl×Ev.Fr)}{ck:List (Nat×List D)}{B:Nat->Prop}{M0:Nat->Prop}{h0:Hh}{S0:Nat->Prop}{ek:Fr}{Bm:Ev.Fr}(f0:aT M0 B h0 S0 ek Bm)(st:∀q∈ck,aL h0 q.1=some q.2/\¬ M0 q.1)
  (turn:∀v d fr g af M h S aj,F v fr=.ok g af->aT M B h S fr aj->Rep h S v d->∃g' bA M' h' S',F' d aj h=.ok (g',bA) h'/\gb h' S' g g'/\dF M B h S fr aj M' h' S' af bA) :
  ∀{vs:List V} {ds:List D} {fr:Fr} {g:Fl} {af:Fr} {M:Nat->Prop} {h:Hh} {S:Nat->Prop} {aj:Ev.Fr},forL F vs fr=.ok g af->dF M0 B h0 S0 ek Bm M h S fr aj->aq h S vs ds->
  ∃g' bA M' h' S',Ev.forL F' ck ds aj h=.ok (g',bA) h'/\gb h' S' g g'/\dF M0 B h0 S0 ek Bm M' h' S' af bA
 |[],ds,fr,g,af,M,h,S,aj,e,o,q=>by
  simp only[forL]at e;simp only[aq]at q;subst q;cases e;refine⟨.nx,aj,M,h,S,?_,rfl,o⟩;simp only[Ev.forL];rw[gQ (jj λx b=>kB (st x b).1 (o.tr.keep _ (nZ (st x b).1) (st x b).2))]
 |v :: vs,ds,fr,g,af,M,h,S,aj,e,o,q=>by
  simp only[forL]at e;replace e:=ah e;obtain⟨p,K,L,e⟩:=e;simp only[aq]at q;obtain⟨d,N,rfl,Q,W⟩:=q;obtain⟨g',I,M2,j,S2,c,a,l⟩:=turn v d fr p K M h S aj L o.f Q;have i:=o.trans f0 l;have CJ:Ev.stays h ck=true:=jj λx b=>kB (st x b).1 (o.tr.keep _ (nZ (st x b).1) (st x b).2);have MZ:aq j S2 vs N:=W.mono (λm z=>l.tr.keep m (o.f.wS m z).1 (o.f.wS m z).2.1) l.tr.sub;cases p with
  |nx=>
   simp only[gb]at a;subst a;simp only at e;obtain⟨r,y,M3,A,S3,C,G,H⟩:=pL f0 st turn e i MZ;refine⟨r,y,M3,A,S3,?_,G,H⟩;simp only[Ev.forL];rw[gQ CJ,c,Ev.ak];exact C
  |ct=>
   simp only[gb]at a;subst a;simp only at e;obtain⟨r,y,M3,A,S3,C,G,H⟩:=pL f0 st turn e i MZ;refine⟨r,y,M3,A,S3,?_,G,H⟩;simp only[Ev.forL];rw[gQ CJ,c,Ev.ak];exact C
  |bk=>
   simp only[gb]at a;subst a;simp only at e;cases e;refine⟨.nx,I,M2,j,S2,?_,rfl,i⟩;simp only[Ev.forL];rw[gQ CJ,c,Ev.ak]
  |ret x=>
   simp only[gb]at a;obtain⟨J,rfl,a⟩:=a;simp only at e;cases e;refine⟨.ret J,I,M2,j,S2,?_,⟨J,rfl,a⟩,i⟩;simp only[Ev.forL];rw[gQ CJ,c,Ev.ak]
def IM{t:T}{it:It}{b:Ss}(ib:oz P P' w b):pK P P' w (.for t it b):=λ{o g G M B h S p} z f=>by
 simp only[ex]at z;replace z:=ah z;obtain⟨vs,r,H,z⟩:=z;obtain⟨M1,S1,x⟩:=f.walk (itv it);obtain⟨s,A,S2,I,J,C,a⟩:=j3 HP it H x.f;have K:=x.trans f a.s;obtain⟨c,e,M',i,S',L,N,Q⟩:=pL (F':=λd r A=>match Ev.bT t d r with
   |some j=>Ev.exs P' w b j A
   |none=>.bad) (ck:=s.2) a.f (λq F=>⟨(C q F).1,(C q F).2 rfl⟩) (λv d o g G M h S p y f q=>by
  split at y
  .rename_i j W;obtain⟨X,Y,l,Z,b4⟩:=f.bT W q;rw[Y];obtain⟨c,e,M',i,S',c1,c2,c3⟩:=ib y l;exact⟨c,e,M',i,S',c1,c2,(⟨l,(dF.refl l).tr,Z,b4⟩:dF M _ h S o p M h S j X).trans f c3⟩
  .cases y) z (dF.refl a.f) J
 refine⟨c,e,M',i,S',?_,N,K.trans f Q⟩;simp only[Ev.iy,I,Ev.ak];exact L
theorem sO{t:E}{b:Ss}(ib:oz P P' w b):∀(n:Nat) {fr:Fr}{g:Fl}{af:Fr}{M B:Nat->Prop}{h:Hh}{S:Nat->Prop}{aj:Ev.Fr},dD (λao=>aD P t ao) (λao=>exs P w b ao) n fr=.ok g af->aT M B h S fr aj->
  ∃g' bA M' h' S',Ev.dD (λao h2=>Ev.aD P' t ao h2) (λao h2=>Ev.exs P' w b ao h2) n aj h=.ok (g',bA) h'/\gb h' S' g g'/\dF M B h S fr aj M' h' S' af bA
 |0,_,_,_,_,_,_,_,_,z,_=>by simp only[dD]at z;cases z
 |n+1,fr,g,af,M,B,h,S,aj,z,f=>by
  simp only[dD]at z;replace z:=ah z;obtain⟨k,ao,F,z⟩:=z;obtain⟨G,S1,c,i⟩:=fL HP t F f;cases k with
  |false=>
   simp only[Si,SK]at z;cases z;refine⟨.nx,aj,M,G,S1,?_,rfl,i.s⟩;simp only[Ev.dD,c,Ev.ak];rw[R0 (by decide)]
  |true=>
   simp only[Sf]at z;replace z:=ah z;obtain⟨p,I,H,z⟩:=z;obtain⟨g',A,M2,h2,S2,d,a,j⟩:=ib H i.f;have e:=i.s.trans f j;cases p with
   |nx=>
    simp only[gb]at a;subst a;simp only at z;obtain⟨l,Bo,M3,o,S3,q,r,y⟩:=sO ib n z j.f;refine⟨l,Bo,M3,o,S3,?_,r,e.trans f y⟩;simp only[Ev.dD,c,Ev.ak,Sf,d];exact q
   |ct=>
    simp only[gb]at a;subst a;simp only at z;obtain⟨l,Bo,M3,o,S3,q,r,y⟩:=sO ib n z j.f;refine⟨l,Bo,M3,o,S3,?_,r,e.trans f y⟩;simp only[Ev.dD,c,Ev.ak,Sf,d];exact q
   |bk=>
    simp only[gb]at a;subst a;simp only at z;cases z;refine⟨.nx,A,M2,h2,S2,?_,rfl,e⟩;simp only[Ev.dD,c,Ev.ak,Sf,d]
   |ret x=>
    simp only[gb]at a;obtain⟨C,rfl,a⟩:=a;simp only at z;cases z;refine⟨.ret C,A,M2,h2,S2,?_,⟨C,rfl,a⟩,e⟩;simp only[Ev.dD,c,Ev.ak,Sf,d]
def IP{t:E}{a b:Ss}(ia:oz P P' w a)(ib:oz P P' w b):pK P P' w (.iff t a b):=λ{fr g af M B h S aj} z f=>by
 simp only[ex]at z;replace z:=ah z;obtain⟨k,r,q,z⟩:=z;obtain⟨x,S1,p,c⟩:=fL HP t q f;cases k with
 |true=>
  simp only[Sf]at z;obtain⟨d,e,M',i,S',j,l,o⟩:=ia z c.f;exact⟨d,e,M',i,S',by simp only[Ev.iy,p,Ev.ak,Sf,j],l,c.s.trans f o⟩
 |false=>
  simp only[Si,SK]at z;obtain⟨d,e,M',i,S',j,l,o⟩:=ib z c.f;exact⟨d,e,M',i,S',by simp only[Ev.iy,p,Ev.ak];rw[R0 (by decide)];exact j,l,c.s.trans f o⟩
mutual
theorem LM:∀s:S,pK P P' w s
 |.set _ _=>Ex HP
 |.exp _=>IK HP
 |.ret _=>IL HP
 |.iff _ a b=>IP HP (j4 a) (j4 b)
 |.for _ _ b=>IM HP (j4 b)
 |.jT _ b=>λz f=>by
  simp only[ex]at z;obtain⟨c,d,M',e,S',g,h,i⟩:=sO HP (j4 b) w z f;exact⟨c,d,M',e,S',by simp only[Ev.iy];exact g,h,i⟩
 |.fJ _=>λz _=>by simp only[ex]at z;cases z
theorem j4:∀s:Ss,oz P P' w s
 |.nil=>λz f=>by simp only[exs]at z;cases z;exact⟨.nx,_,_,_,_,by simp only[Ev.exs],rfl,.refl f⟩
 |.cons s h=>λz f=>by
  simp only[exs]at z;replace z:=ah z;obtain⟨p,A,i,z⟩:=z;obtain⟨B,d,M2,e,S2,c,a,b⟩:=LM s i f;cases p with
  |nx=>
   simp only[gb]at a;subst a;simp only at z;obtain⟨j,l,M3,o,S3,q,r,y⟩:=j4 h z b.f;exact⟨j,l,M3,o,S3,by simp only[Ev.exs,c,Ev.ak,q],r,b.trans f y⟩
  |ct=>
   simp only[gb]at a;subst a;simp only at z;cases z;exact⟨.ct,d,M2,e,S2,by simp only[Ev.exs,c,Ev.ak],rfl,b⟩
  |bk=>
   simp only[gb]at a;subst a;simp only at z;cases z;exact⟨.bk,d,M2,e,S2,by simp only[Ev.exs,c,Ev.ak],rfl,b⟩
  |ret x=>
   simp only[gb]at a;obtain⟨g,rfl,a⟩:=a;simp only at z;cases z;exact⟨.ret g,d,M2,e,S2,by simp only[Ev.exs,c,Ev.ak],⟨g,rfl,a⟩,b⟩
end
end
def ve{s s':Sl}{m:Nat}{es:List D}{h':Hh}(k1:h'[m]?=some (oO s' es)):h'[m]?=some (oO s es):=k1
theorem pM{h:Hh}{S:Nat->Prop}{B:Nat->Prop}{h0:Hh}{S0:Nat->Prop}:∀{sl:List Sl}{ds:List D}{cs:Fr},sl.length=ds.length->
  (∀(a:Nat) s d,sl[a]?=some s->ds[a]?=some d->jP B B h0 S0 (some s) (some d)/\locked cs a=u7 (some s)/\(u7 (some s)=true->∃m es l s',d=.ref m/\h[m]?=some (oO s es)/\aq h S l es/\cs[a]?=some (some s')/\s'.out=some l))->lK h S sl ds ((cs.take sl.length).filterMap λo=>o.bind Sl.out)
 |[],ds,cs,_,_=>by simp[lK]
 |s :: sl,[],cs,hl,_=>by simp at hl
 |s :: sl,d :: ds,[],hl,q=>by
  have g:=pM (h:=h) (S:=S) (sl:=sl) (ds:=ds) (cs:=[]) (by simpa using hl) λa s' j p r=>by
   obtain⟨c,f,b⟩:=q (a+1) s' j (by simpa using p) (by simpa using r);exact⟨c,by simpa[locked]using f,λz=>by obtain⟨_,_,_,_,_,_,_,y,_⟩:=b z;simp at y⟩
  obtain⟨c,f,b⟩:=q 0 s d (by simp) (by simp);cases s with
  |val v=>simp at g ⊢;exact⟨d,ds,rfl,g⟩
  |own l=>exact absurd c (by rintro⟨m,es,e,q,_⟩;exact q.2 q.1)
  |bor l=>obtain⟨_,_,_,_,_,_,_,y,_⟩:=b rfl;simp at y
  |ro l=>obtain⟨_,_,_,_,_,_,_,y,_⟩:=b rfl;simp at y
 |s :: sl,d :: ds,o :: cs,hl,q=>by
  have g:=pM (h:=h) (S:=S) (sl:=sl) (ds:=ds) (cs:=cs) (by simpa using hl) λa s' j p r=>by
   obtain⟨c,f,b⟩:=q (a+1) s' j (by simpa using p) (by simpa using r);exact⟨c,by simpa[locked]using f,λz=>by simpa using b z⟩
  obtain⟨c,f,b⟩:=q 0 s d (by simp) (by simp);cases s with
  |val v=>
   have:o.bind Sl.out=none:=by
    simp[locked]at f;rcases o with _|s
    .rfl
    .cases s<;>first|rfl|cases f
   simp only[R3,Sq,SH,this];exact⟨d,ds,rfl,g⟩
  |own l=>exact absurd c (by rintro⟨m,es,e,q,_⟩;exact q.2 q.1)
  |bor l=>
   obtain⟨m,es,x,s',A,C,F,i,G⟩:=b rfl;simp at i;subst i;simp only[R3,Sq,SH,Option.bind,G];exact⟨d,ds,x,_,m,es,rfl,rfl,A,C,F,g⟩
  |ro l=>
   obtain⟨m,es,x,s',A,C,F,i,G⟩:=b rfl;simp at i;subst i;simp only[R3,Sq,SH,Option.bind,G];exact⟨d,ds,x,_,m,es,rfl,rfl,A,C,F,g⟩
def IQ{fn:Fn}{sl:List Sl}{ds:List D}{B:Nat->Prop}{h:Hh}{S:Nat->Prop}(F0:aT B B h S (sl.map some) (ds.map some))(hlen:sl.length=ds.length):aT B B h S (ek fn sl) (Ev.ek fn ds):=by
 unfold ek Ev.ek;have d:∀(i:Nat) o,(sl.map some++List.replicate (fn.ns - fn.np) none)[i]?=some o->(sl.map some)[i]?=some o\/(sl.length<=i/\o=none):=λi o y=>by
  by_cases a:i<sl.length
  .rw[gE (by simpa using a)]at y;exact .inl y
  .rw[Sj (by simpa using a)]at y;have:=RX y;exact .inr ⟨by omega,(List.mem_replicate.mp this).2⟩
 have e:∀(i:Nat) p,i<sl.length->(ds.map some++List.replicate (fn.ns - fn.np) none)[i]?=some p->(ds.map some)[i]?=some p:=λi p a y=>by
  rw[gE (by simpa[<-hlen]using a)]at y;exact y
 refine⟨F0.wS,F0.wM,F0.wB,by simp[hlen],λi o p b c=>?_,λi j o f m b c g l r x=>?_⟩
 .rcases d i o b with b|⟨a,rfl⟩
  .have a:i<sl.length:=by have:=(List.getElem?_eq_some_iff.mp b).1;simpa using this
   exact F0.sl i o p b (e i p a c)
  .rw[Sj (by simpa[<-hlen]using a)]at c;have:=RX c;exact(List.mem_replicate.mp this).2
 .rcases d i o b with b|⟨a,rfl⟩
  .rcases d j f c with c|⟨q,rfl⟩
   .have a:i<sl.length:=by have:=(List.getElem?_eq_some_iff.mp b).1;simpa using this
    have q:j<sl.length:=by have:=(List.getElem?_eq_some_iff.mp c).1;simpa using this
    exact F0.inj i j o f m b c g l (e i _ a r) (e j _ q x)
   .cases l
  .cases g
theorem zp(F:List Fn)(w:Nat):∀n,nX (run F w n) (Ev.run F w n)
 |0=>λf x v os e=>by simp[run]at e
 |n+1=>λf x v os e h S B C F0=>by
  have HP:=zp F w n;simp only[run]at e;cases z:F[f]? with
  |none=>rw[z]at e;cases e
  |some c=>
  rw[z]at e;simp only at e;split at e
  case isFalse=>cases e
  rename_i hl;have i:x.length=C.length:=by have:=F0.len;simpa using this
  have f1:aT B B h S (ek c x) (Ev.ek c C):=IQ F0 i;have fin:∀{g:Fl} {A:Fr},exs (run F w n) w c.body (ek c x)=.ok g A->∃G H M' p S',Ev.exs (Ev.run F w n) w c.body (Ev.ek c C) h=.ok (G,H) p/\gb p S' g G/\Tk B h S p S'/\lK p S' x C (outs c.np A):=λ{g A} y=>by
   obtain⟨G,H,M',p,S',I,r,j⟩:=j4 HP c.body y f1;refine⟨G,H,M',p,S',I,r,⟨j.tr.len,λm y1 J=>j.tr.keep m y1 J,j.tr.sub,λm q=>?_
    ⟩,?_⟩
   .rcases j.tr.new m q with q|q|q
    .exact .inl q
    .exact .inr q
    .exact absurd q.1 q.2
   .unfold outs;rw[<-hl];refine pM (B:=B) (h0:=h) (S0:=S) i λa s d K M=>?_;have Y:a<x.length:=(List.getElem?_eq_some_iff.mp K).1;have h0:(ek c x)[a]?=some (some s):=by unfold ek;rw[gE (by simpa using Y)];simp[K]
    have b:locked A a=u7 (some s):=by rw[j.lk a];unfold locked;rw[h0]
    refine⟨F0.sl a _ _ (by simp[K]) (by simp[M]),b,λL=>?_⟩;have Z:=j.rf a (by unfold locked;rw[h0];exact L);have hd:(Ev.ek c C)[a]?=some (some d):=by unfold Ev.ek;rw[gE (by simpa[<-i]using Y)];simp[M]
    rw[hd]at Z;cases J:A[a]? with
    |none=>unfold locked at b;rw[J]at b;rw[<-b]at L;cases L
    |some o=>
     have sr:=j.f.sl a _ _ J Z;have s0:=F0.sl a (some s) (some d) (by simp[K]) (by simp[M]);unfold locked at b;rw[J,L]at b;rcases o with _|s'
     .cases b
     .cases s' with
      |val v=>cases b
      |own l=>cases b
      |bor l=>obtain⟨m,N,e,_,P,Q⟩:=sr;cases e;exact⟨m,N,l,_,rfl,ve (s':=.bor l)
        P,Q,rfl,rfl⟩
      |ro l=>obtain⟨m,N,e,_,P,Q⟩:=sr;cases e;exact⟨m,N,l,_,rfl,ve (s':=.ro l)
        P,Q,rfl,rfl⟩
  simp only[Ev.nP,z];have W:C.length=c.np:=by omega
  rw[gQ W];split at e
  .rename_i v' A y;cases e;obtain⟨G,H,M',p,S',I,r,j,X⟩:=fin y;simp only[gb]at r;obtain⟨d,rfl,r⟩:=r;exact⟨d,p,S',by simp only[Ev.endOf,I,Ev.ak],r,j,X⟩
  .rename_i A y;cases e;obtain⟨G,H,M',p,S',I,r,j,X⟩:=fin y;simp only[gb]at r;subst r;exact⟨.aY,p,S',by simp only[Ev.endOf,I,Ev.ak],rfl,j,X⟩
  .cases e
end Pv
namespace Pv
open Ev (D O Hh Fn)
def Ey{F:List Fn}{w n f:Nat}{ns:List Int}(e:run F w n f [.val (.bz (ns.map V.int))]=some (.bl true,[]))(hF:F.length<=1000:=by decide):∃h',Ev.run F w n f [.ref 0] [.bz (ns.map D.int)]=.ok (.bl true) h':=by
 have F0:aT (λ_=>False) (λ_=>False) [O.bz (ns.map D.int)] (λm=>m=0) ([Sl.val (.bz (ns.map V.int))].map some) ([D.ref 0].map some):=by
  refine⟨λm q=>⟨by subst q;simp,id,id⟩,λm q=>q.elim,λm q=>q.elim,rfl,λi o p c h=>?_,λi j o r m c h l x y z=>?_⟩
  .cases i with
   |zero=>
    simp at c h;subst c h;refine⟨.ref 0,rfl,?_⟩;simp only[Rep];exact⟨0,_,rfl,rfl,rfl,aq.map (f:=V.int) (g:=D.int) (λ_=>by simp[Rep]) ns⟩
   |succ i=>simp at c
  .cases i with
   |zero=>simp at c;subst c;cases l
   |succ i=>simp at c
 obtain⟨d,h',S',a,b,_,_⟩:=zp F w n f _ _ _ e _ _ _ _ F0;simp only[Rep]at b;subst b;exact⟨h',a⟩
end Pv
namespace Pv
open Ev (D bF bu TY BI ME T E Es Eo It S Ss Fn big deep b2i rep bQ dG bH aI cut bW cX slots)
def bw{n:Nat}(h:n<=100000):n<=big:=Sa h (by decide)
section
variable{i j:Int}{a b:List Nat}{x y:List V}{d e:V}{m n:Nat}{k l:Bool}
def b6(h:x.length<=big):dZ x=some (.lst x):=by simp[dZ,h]
def lP(h:x.length<=big):fG x=some (.tup x):=by simp[fG,h]
@[simp] theorem oB:dZ []=some (.lst []):=b6 (bw (by simp))
@[simp] theorem LN:fG []=some (.tup []):=lP (bw (by simp))
@[simp] theorem kD{a}:dZ [a]=some (.lst [a]):=b6 (bw (by simp))
@[simp] theorem LO{a}:fG [a]=some (.tup [a]):=lP (bw (by simp))
@[simp] theorem LP{a b}:dZ [a,b]=some (.lst [a,b]):=b6 (bw (by simp))
@[simp] theorem jy{a b}:fG [a,b]=some (.tup [a,b]):=lP (bw (by simp))
@[simp] theorem LQ{a b c}:fG [a,b,c]=some (.tup [a,b,c]):=lP (bw (by simp))
@[simp] theorem bL:bS .add (.int i) (.int j)=some (.int (i+j)):=nd rfl
def gM(h:a.length+b.length<=100000):bS .add (.str a) (.str b)=some (.str (a++b)):=by delta bS;dsimp only;simp[bw h]
def eO(h:x.length+y.length<=100000):bS .add (.lst x) (.lst y)=some (.lst (x++y)):=by delta bS;dsimp only;simp[b6 (bw (show(x++y).length<=100000 by simpa using h))]
@[simp] theorem di:bS .sub (.int i) (.int j)=some (.int (i - j)):=nd rfl
@[simp] theorem Bp:bS .mul (.int i) (.int j)=if bQ i j then some (.int (i*j))else none:=nd rfl
def nE(h0:0<=j)(h1:j<=1000)(h2:x.length<=1000)(h3:(rep j.toNat x).length<=100000):bS .mul (.lst x) (.int j)=some (.lst (rep j.toNat x)):=by delta bS;dsimp only;simp[h0,h1,h2,b6 (bw h3)]
@[simp] theorem Bq:bS .fdiv (.int i) (.int j)=if 0<j/\j<1073741824 then some (.int (i / j))else none:=nd rfl
@[simp] theorem Ez:bS .mod (.int i) (.int j)=if 0<j then some (.int (i % j))else none:=nd rfl
@[simp] theorem IS:cop .eq d e=cJ deep d e:=nd rfl
@[simp] theorem zq:cop .ne d e=(cJ deep d e).map (!·):=nd rfl
@[simp] theorem P9:cop .isin d e=isin d e:=nd rfl
@[simp] theorem Ow:isin d (.tup x)=mem d x:=nd rfl
@[simp] theorem OS:mem d []=some false:=nd rfl
@[simp] theorem mem_cons:mem d (e :: x)=(cJ deep e d).bind λb=>(mem d x).bind λc=>some (b ||c):=nd rfl
@[simp] theorem IT:cJ (n+1) (.int i) (.int j)=some (decide (i=j)):=by show some (i==j)=_;by_cases h:i=j<;>simp[h]
@[simp] theorem zu:cJ (n+1) (.str a) (.str b)=some (decide (a=b)):=by show some (a==b)=_;by_cases h:a=b<;>simp[h]
@[simp] theorem Qa:cJ (n+1) (.str a) (.int i)=some false:=nd rfl
@[simp] theorem Qc:cJ (n+1) (.int i) (.str a)=some false:=nd rfl
@[simp] theorem Qd:cJ (n+1) (.lst x) (.lst y)=bV (cJ n) x y:=nd rfl
@[simp] theorem vf:cJ deep (.int i) (.int j)=some (decide (i=j)):=IT
@[simp] theorem vg:cJ deep (.str a) (.str b)=some (decide (a=b)):=zu
@[simp] theorem OT:cJ deep (.str a) (.int i)=some false:=nd rfl
@[simp] theorem OU:cJ deep (.int i) (.str a)=some false:=nd rfl
@[simp] theorem OV:cJ deep (.tup x) (.tup y)=bV (cJ (18+1)) x y:=nd rfl
@[simp] theorem EA:cJ deep (.lst x) (.lst y)=bV (cJ (18+1)) x y:=nd rfl
@[simp] theorem OW{f:V->V->Option Bool}:bV f [] []=some true:=nd rfl
@[simp] theorem Qe{f:V->V->Option Bool}:bV f [] (d :: x)=some false:=nd rfl
@[simp] theorem Qf{f:V->V->Option Bool}:bV f (d :: x) []=some false:=nd rfl
@[simp] theorem Ox{f:V->V->Option Bool}:bV f (d :: x) (e :: y)=(f d e).bind λb=>(bV f x y).bind λc=>some (b&&c):=nd rfl
theorem pN{α:Type}[DecidableEq α]{f:V->V->Option Bool}{g:α->V}(h:∀a b,f (g a) (g b)=some (decide (a=b))):∀l m:List α,bV f (l.map g) (m.map g)=some (decide (l=m))
 |[],[]=>by simp
 |[],_ :: _=>by simp
 |_ :: _,[]=>by simp
 |a :: l,b :: m=>by simp[h,pN h l m]
@[simp] theorem j5:dY (.str a) (.int i)=(bH a i).map λc=>.str [c]:=nd rfl
@[simp] theorem vh:dY (.lst x) (.int i)=bH x i:=nd rfl
@[simp] theorem cZ{lo hi:Option Int}:gk (.str a) lo hi=some (.str (cut a lo hi)):=nd rfl
@[simp] theorem vj{x:List Nat}:kO (.str x)=some (.str x.reverse):=nd rfl
def Um(h:a.length<=100000):bZ .len [.str a]=some (.int a.length):=by delta bZ;dsimp only;simp[bw h]
@[simp] theorem EB:bZ .len [.lst x]=some (.int x.length):=nd rfl
@[simp] theorem vm:bZ .len [.bz x]=some (.int x.length):=nd rfl
@[simp] theorem EC:bZ .sum [.lst x]=(intsOf x).map λis=>.int is.sum:=nd rfl
@[simp] theorem sP:bZ .min [.int i,.int j]=some (.int (if j<i then j else i)):=nd rfl
@[simp] theorem ED:toT (.lst x)=fG x:=nd rfl
def IU(h0:0<=j)(h1:j<=100000):dB [.int j]=some (range 0 j.toNat):=by
 simp only[dB];rw[gQ ⟨by omega,by omega⟩]
def Oz(h0:-100000<=i)(h1:i<=100000)(h2:-100000<=j)(h3:j<=100000):dB [.int i,.int j]=some (range i (j - i).toNat):=by
 simp only[dB];rw[gQ ⟨by omega,by omega,by omega,by omega⟩]
def wV{α:Type}(g:α->Int)(l:List α):intsOf (l.map λx=>.int (g x))=some (l.map g):=by induction l<;>simp[intsOf, *]
def oE{α:Type}(g:α->List Nat)(l:List α):strsOf (l.map λx=>.str (g x))=some (l.map g):=by induction l<;>simp[strsOf, *]
theorem qQ:∀l:List (List Nat),bW [] l=l.flatten
 |[]=>rfl
 |[s]=>by simp[bW]
 |s :: t :: r=>by simp[bW,qQ (t :: r)]
@[simp] theorem Qg:truthy (.bl k)=k:=nd rfl
def CK{l:List (List Nat)}(h:l.flatten.length<=100000):fh .join (.str []) [.lst (l.map V.str)]=some (.str l.flatten):=by
 have f:=oE (λx=>x) l;have:(l.map (·.length)).sum<=big:=bw (by rw[<-List.length_flatten];exact h);simp only[List.map_id']at f;have c:strsOf (l.map V.str)=some l:=by simpa using oE (λx=>x) l
 delta fh;dsimp only;simp[iz,c,qQ,this]
end
def iA{α:Type}{f:V->Option (Option V)}(e:α->V)(g:α->V)(l:List α)(h:∀a∈l,f (e a)=some (some (g a))):cz f (l.map e)=some (l.map g):=by
 induction l with
 |nil=>rfl
 |cons a l b=>simp only[gV,cz,h a (by simp),b λu c=>h u (by simp[c]),Option.bind];rfl
def jl{α:Type}{f:V->Option (Option V)}(e:α->V)(p:α->Bool)(g:α->V)(l:List α)(h:∀a∈l,f (e a)=some (if p a then some (g a)else none)):cz f (l.map e)=some ((l.filter p).map g):=by
 induction l with
 |nil=>rfl
 |cons a l b=>
  simp only[gV,cz,h a (by simp),b λu c=>h u (by simp[c]),Option.bind];cases z:p a<;>simp[z]
def Wp{α:Type}(r:R α)(Q:α->Fr->Prop):Prop:=∃a h,r=.ok a h/\Q a h
section
variable{α β:Type}{Q Q':α->Fr->Prop}
@[simp] theorem jz(a:α)(h:Fr):Wp (.ok a h) Q=Q a h:=propext ⟨λ⟨_,_,e,q⟩=>by cases e;exact q,λq=>⟨_,_,rfl,q⟩⟩
@[simp] theorem Qh:Wp (.bad:R α) Q=False:=propext ⟨λq=>(by obtain⟨_,_,e,_⟩:=q;cases e),False.elim⟩
@[simp] theorem wp_bind(r:R β)(f:β->Fr->R α):Wp (r.bind f) Q=Wp r λa h=>Wp (f a h) Q:=by cases r<;>simp
def Wp.mono{r:R α}(h:Wp r Q)(f:∀a h,Q a h->Q' a h):Wp r Q':=by
 obtain⟨a,b,e,q⟩:=h;exact⟨a,b,e,f a b q⟩
end
def fl(I Q:Fr->Prop)(X:V->Fr->Prop):Fl->Fr->Prop
 |.nx,fr=>I fr
 |.ct,fr=>I fr
 |.bk,fr=>Q fr
 |.ret v,fr=>X v fr
section
variable{I J:Fr->Prop}{X:V->Fr->Prop}{fr:Fr}
@[simp] theorem bX:fl I J X .nx fr=I fr:=nd rfl
end
theorem sQ{f:V->Fr->R Fl}{Q:Fl->Fr->Prop}(I:List V->Fr->Prop)(turn:∀d l fr,I (d :: l) fr->Wp (f d fr) (fl (I l) (Q .nx) λv=>Q (.ret v)))(fin:∀fr,I [] fr->Q .nx fr):∀(ds:List V) (fr:Fr),I ds fr->Wp (forL f ds fr) Q
 |[],fr,i=>by simp only[forL,jz];exact fin fr i
 |d :: ds,fr,i=>by
  simp only[forL,wp_bind];refine(turn d ds fr i).mono λp a q=>?_;cases p with
  |nx=>exact sQ I turn fin ds a q
  |ct=>exact sQ I turn fin ds a q
  |bk=>exact(jz _ _).mpr q
  |ret x=>exact(jz _ _).mpr q
theorem eU{α:Type}{e:α->V}{f:V->Fr->R Fl}{Q:Fl->Fr->Prop}(I:List α->List α->Fr->Prop)(turn:∀p a l fr,I p (a :: l) fr->Wp (f (e a) fr) (fl (I (p++[a]) l) (Q .nx) λv=>Q (.ret v)))(fin:∀p fr,I p [] fr->Q .nx fr):∀(l p:List α) (fr:Fr),I p l fr->Wp (forL f (l.map e) fr) Q
 |[],p,fr,i=>by simp only[Uc,forL,jz];exact fin p fr i
 |a :: l,p,fr,i=>by
  simp only[gV,forL,wp_bind];refine(turn p a l fr i).mono λg b q=>?_;cases g with
  |nx=>exact eU I turn fin l _ b q
  |ct=>exact eU I turn fin l _ b q
  |bk=>exact(jz _ _).mpr q
  |ret x=>exact(jz _ _).mpr q
theorem lQ{t:Fr->R Bool}{f:Fr->R Fl}{Q:Fl->Fr->Prop}(I:Nat->Fr->Prop)(turn:∀k fr,I k fr->Wp (t fr) λb af=>if b then Wp (f af) (fl (λao=>∃j,j<k/\I j ao) (Q .nx) λv=>Q (.ret v))else Q .nx af):∀(n k:Nat) (fr:Fr),k<n->I k fr->Wp (dD t f n fr) Q
 |0,k,fr,hk,_=>by omega
 |n+1,k,fr,hk,i=>by
  simp only[dD,wp_bind];refine(turn k fr i).mono λb af q=>?_;cases b with
  |false=>simpa using q
  |true=>
   simp only[Sf,wp_bind]at q ⊢;refine q.mono λg ao z=>?_;cases g with
   |nx=>obtain⟨j,a,z⟩:=z;exact lQ I turn n j ao (by omega) z
   |ct=>obtain⟨j,a,z⟩:=z;exact lQ I turn n j ao (by omega) z
   |bk=>exact(jz _ _).mpr z
   |ret x=>exact(jz _ _).mpr z
noncomputable def fin(fn:Fn)(ds:List Sl):R Fl->Option (V×List (List V))
 |.ok (.ret v) fr=>some (v,outs fn.np fr)
 |.ok .nx fr=>some (.aY,outs fn.np fr)
 |_=>HY fn ds
def run_eq{F:List Fn}{w n f:Nat}{ds:List Sl}{fn:Fn}(hf:F[f]?=some fn)(hl:ds.length=fn.np):run F w (n+1) f ds=fin fn ds (exs (run F w n) w fn.body (ek fn ds)):=by
 simp only[nP,hf,hl,Sf];cases exs (run F w n) w fn.body (ek fn ds)with
 |bad=>rfl
 |ok g a=>cases g<;>rfl
def cj{F:List Fn}{w n f:Nat}{ds:List Sl}{fn:Fn}{v:V}{os:List (List V)}(hf:F[f]?=some fn)(hl:ds.length=fn.np)(q:Wp (exs (run F w n) w fn.body (ek fn ds)) λg fr=>g=.ret v/\outs fn.np fr=os):run F w (n+1) f ds=some (v,os):=by
 rw[run_eq hf hl];obtain⟨g,fr,e,rfl,rfl⟩:=q;rw[e];rfl
section
variable{P:aH}{w:Nat}{fr:Fr}{k:Bool}{a b c:E}{es:Es}{ss sa sb:Ss}{st:S}{lo hi:Eo}{it:It}
@[simp] theorem OA{d:D}:ev P k (.c d) fr=R.of (ofD d) fr:=by rw[ev]
@[simp] theorem IV{i:Nat}:ev P k (.v i) fr=R.of (jI k fr i) fr:=by rw[ev]
@[simp] theorem IW:ev P k (.tup es) fr=(bI P false es fr).bind λds af=>R.of (fG ds) af:=by rw[ev]
@[simp] theorem IX:ev P k (.lst es) fr=(bI P false es fr).bind λds af=>R.of (dZ ds) af:=by rw[ev]
@[simp] theorem IY{o:bF}:ev P k (.bin o a b) fr=(ev P (kf a (ay b)) a fr).bind λx af=>(ev P true b af).bind λy ao=>R.of (bS o x y) ao:=by rw[ev]
@[simp] theorem IZ{o:bu}:ev P k (.cmp o a b) fr=(ev P (kf a (ay b)) a fr).bind λx af=>(ev P true b af).bind λy ao=>R.of ((cop o x y).map .bl) ao:=by rw[ev]
noncomputable def QY:V->Fr->R V:=λx d=>match x with
 |.bl b=>.ok (.bl (!b)) d
 |_=>.bad
noncomputable def OB:V->Fr->R V:=λx d=>match x with
 |.int i=>.ok (.int (-i)) d
 |_=>.bad
@[simp] theorem Ja:ev P k (.neg a) fr=(ev P true a fr).bind OB:=by rw[ev];rfl
noncomputable def M4(r:Fr->R V):V->Fr->R V:=λx d=>match x with
 |.bl true=>r d
 |.bl false=>.ok (.bl false) d
 |_=>.bad
@[simp] theorem Jb{k:Bool}{r:Fr->R V}:M4 r (.bl k) fr=if k then r fr else .ok (.bl false) fr:=by cases k<;>rfl
@[simp] theorem LR:ev P k (.an a b) fr=(ev P true a fr).bind (M4 λh1=>ev P k b h1):=by rw[ev];rfl
@[simp] theorem LS:ev P k (.ix a b) fr=(ev P (kf a (ay b)) a fr).bind λx af=>(ev P true b af).bind λy ao=>R.of (dY x y) ao:=by rw[ev]
@[simp] theorem LU:ev P k (.sl a lo hi) fr=(ev P (kf a (gr lo++gr hi)) a fr).bind λx af=>(eX P lo af).bind λl ao=>(eX P hi ao).bind λu b8=>R.of (gk x l u) b8:=by rw[ev]
def Jc:ev P k (.jS a) fr=(ev P true a fr).bind λx af=>R.of (pH x) af:=by rw[ev]
@[simp] theorem LV:ev P k (.rv a) fr=(ev P true a fr).bind λx af=>R.of (kO x) af:=by rw[ev]
@[simp] theorem LW{f:Nat}:ev P k (.cl f es) fr=(eY P es fr).bind λas af=>cY P f as af:=by rw[ev]
@[simp] theorem LX{g:BI}:ev P k (.bi g es) fr=(bI P true es fr).bind λds af=>R.of (bZ g ds) af:=by rw[ev]
noncomputable def Br(m:ME)(i:Nat):List V->Fr->R V:=λe d=>match d[i]? with
 |some (some (.own l))=>match lI m l e with
  |some (v,l')=>.ok v (d.set i (some (.own l')))
  |none=>.bad
 |some (some (.bor l))=>match lI m l e with
  |some (v,l')=>.ok v (d.set i (some (.bor l')))
  |none=>.bad
 |_=>.bad
def Jd{m:ME}{i:Nat}(hm:gW m=true):ev P k (.me m (.v i) es) fr=if (lent fr i).isSome then (bI P (yW m) es fr).bind (Br m i)else .bad:=by
 rw[ev,gQ hm];unfold jY;cases z:(lent fr i).isSome<;>simp[z]<;>rfl
def Je{m:ME}(hm:gW m=false):ev P k (.me m a es) fr=(ev P (kf a (cO es)) a fr).bind λx af=>(bI P true es af).bind λds ao=>R.of (fh m x ds) ao:=by rw[ev,hm];rfl
@[simp] theorem Jf{ts:List TY}:ev P k (.jt a ts) fr=(ev P true a fr).bind λx af=>.ok (.bl (ts.any (cG x))) af:=by rw[ev]
noncomputable def iR(P:aH)(elt:E)(t:T)(cond:Eo)(fr:Fr):V->Option (Option V):=λd=>match bT t d (m8 fr)with
 |none=>none
 |some e=>match gm P cond e with
  |.ok c _=>if c then (match ev P false elt e with|.ok x _=>some (some x)|.bad=>none)else some none
  |.bad=>none
@[simp] theorem pe{elt:E}{t:T}{cond:Eo}:ev P k (.comp elt t it cond) fr=(bJ P true it fr).bind λs af=>if undef t af then R.of ((cz (iR P elt t cond af) s).bind dZ) af else .bad:=by rw[ev];rfl
@[simp] theorem Jg:ev P k (.dJ it) fr=(bJ P true it fr).bind λs af=>R.of (dZ s) af:=by rw[ev]
@[simp] theorem Jh:ev P k (.iw a) fr=(ev P true a fr).bind λx af=>R.of (toT x) af:=by rw[ev]
@[simp] theorem EE:bI P k .nil fr=.ok [] fr:=by rw[bI]
@[simp] theorem Bs:bI P k (.cons a es) fr=(ev P (k&&kf a (cO es)) a fr).bind λd af=>(bI P k es af).bind λds ao=>.ok (d :: ds) ao:=by rw[bI]
@[simp] theorem EF:eY P .nil fr=.ok [] fr:=by rw[eY]
noncomputable def wW(P:aH)(a:E)(es:Es)(fr:Fr):Option Nat->R (List (Nat ⊕ V))
 |some i=>(eY P es fr).bind λr e=>.ok (.inl i :: r) e
 |none=>(ev P false a fr).bind λd e=>(eY P es e).bind λr f=>.ok (.inr d :: r) f
@[simp] theorem wX{i:Nat}:wW P a es fr (some i)=(eY P es fr).bind λr af=>.ok (.inl i :: r) af:=nd rfl
@[simp] theorem wY:wW P a es fr none=(ev P false a fr).bind λd af=>(eY P es af).bind λr ao=>.ok (.inr d :: r) ao:=nd rfl
@[simp] theorem sR:eY P (.cons a es) fr=wW P a es fr (jY fr a):=by rw[eY];cases jY fr a<;>rfl
@[simp] theorem Ji:eX P .no fr=.ok none fr:=by rw[eX]
@[simp] theorem EG:eX P (.yes a) fr=(ev P true a fr).bind λd af=>R.of ((intOf d).map some) af:=by rw[eX]
@[simp] theorem Jj:gm P .no fr=.ok true fr:=by rw[gm]
@[simp] theorem EH:gm P (.yes a) fr=aD P a fr:=by rw[gm]
@[simp] theorem sS:aD P (.an a b) fr=(aD P a fr).bind λk af=>if k then aD P b af else .ok false af:=by rw[aD]
@[simp] theorem vn:aD P (.orr a b) fr=(aD P a fr).bind λk af=>if k then .ok true af else aD P b af:=by rw[aD]
@[simp] theorem Jk:aD P (.nt a) fr=(aD P a fr).bind λk af=>.ok (!k) af:=by rw[aD]
noncomputable def Jl:V->Fr->R Bool:=λx d=>.ok (truthy x) d
@[simp] theorem EI{x:V}:Jl x fr=.ok (truthy x) fr:=nd rfl
@[simp] theorem EJ:bJ P k (.seq a) fr=(src k fr a (ev P k a fr)).bind λx af=>R.of (eK x) af:=by rw[bJ]
@[simp] theorem EK:bJ P k (.eS es) fr=(bI P true es fr).bind λds af=>R.of (dB ds) af:=by rw[bJ]
@[simp] theorem EL:bJ P k (.zip a b) fr=(src (k&&kf a (ay b)) fr a (ev P (k&&kf a (ay b)) a fr)).bind λx af=>(src k af b (ev P k b af)).bind λy ao=>R.of ((iz x).bind λs=>(iz y).map λt=>cD s t) ao:=by rw[bJ]
@[simp] theorem Bt:bJ P k (.jc a) fr=(ev P true a fr).bind λx af=>R.of (Ba x) af:=by rw[bJ]
@[simp] theorem Bu:bJ P k (.jd a b) fr=(ev P (kf a (ay b)) a fr).bind λx af=>(ev P true b af).bind λy ao=>R.of (wO x y) ao:=by rw[bJ]
noncomputable def Jm(i:Nat)(af:Fr):V->R Fl
 |.lst l=>(R.of (put af i (.own l)) af).bind λd _=>.ok .nx d
 |_=>.bad
@[simp] theorem Bv{i:Nat}{l:List V}:Jm i fr (.lst l)=(R.of (put fr i (.own l)) fr).bind λao _=>.ok .nx ao:=nd rfl
@[simp] theorem zv{i:Nat}:ex P w (.set i a) fr=(ev P false a (pI a fr)).bind λx af=>if isNew a then Jm i af x else (R.of (put af i (.val x)) af).bind λao _=>.ok .nx ao:=by
 rw[ex];rfl
@[simp] theorem Jo:ex P w (.exp a) fr=(ev P true a fr).bind λ_ af=>.ok .nx af:=by rw[ex]
@[simp] theorem Jp:ex P w (.ret a) fr=(ev P false a (eL fr)).bind λx af=>.ok (.ret x) af:=by rw[ex]
@[simp] theorem Jq:ex P w (.iff a sa sb) fr=(aD P a fr).bind λk af=>if k then exs P w sa af else exs P w sb af:=by rw[ex]
noncomputable def turnF(P:aH)(w:Nat)(t:T)(b:Ss):V->Fr->R Fl:=λd e=>match bT t d e with
 |some f=>exs P w b f
 |none=>.bad
@[simp] theorem rV{t:T}:ex P w (.for t it ss) fr=(bJ P false it (qX (itv it) fr)).bind λs af=>forL (turnF P w t ss) s af:=by rw[ex];rfl
@[simp] theorem Jr:ex P w (.jT a ss) fr=dD (λao=>aD P a ao) (λao=>exs P w ss ao) w fr:=by rw[ex]
@[simp] theorem EM:exs P w .nil fr=.ok .nx fr:=by rw[exs]
noncomputable def LY(P:aH)(w:Nat)(ss:Ss):Fl->Fr->R Fl:=λp d=>match p with
 |.nx=>exs P w ss d
 |p=>.ok p d
@[simp] theorem Bw:exs P w (.cons st ss) fr=(ex P w st fr).bind (LY P w ss):=by rw[exs];rfl
end
def lR{P:aH}{f:Nat}{vs:List V}{fr:Fr}{v:V}(h:P f (vs.map .val)=some (v,[])):cY P f (vs.map .inr) fr=.ok v fr:=by
 have a:∀vs:List V,bG (vs.map .inr)=[]:=λvs=>by induction vs<;>simp[bG, *]
 have b:∀vs:List V,args fr (vs.map .inr)=some (vs.map .val):=λvs=>by induction vs<;>simp[args, *]
 simp[cY,a,b,h,back]
section
variable{P:aH}{f:Nat}{fr:Fr}{a b c v:V}
def gv(h:P f [.val a]=some (v,[])):cY P f [.inr a] fr=.ok v fr:=lR (vs:=[a]) h
def call2(h:P f [.val a,.val b]=some (v,[])):cY P f [.inr a,.inr b] fr=.ok v fr:=lR (vs:=[a,b]) h
def gX(h:P f [.val a,.val b,.val c]=some (v,[])):cY P f [.inr a,.inr b,.inr c] fr=.ok v fr:=lR (vs:=[a,b,c]) h
end
section
variable{fr:Fr}{i:Nat}{k:Bool}{s:Sl}{v:V}{l:List V}
noncomputable def zw(k:Bool):Option (Option Sl)->Option V
 |some (some (.val v))=>some v
 |some (some (.own l))=>if k then some (.lst l)else none
 |some (some (.bor l))=>if k then some (.lst l)else none
 |some (some (.ro l))=>if k then some (.lst l)else none
 |_=>none
@[simp] theorem EN:jI k fr i=zw k fr[i]?:=by unfold jI zw;split<;>simp_all
@[simp] theorem OX:zw k (some (some (.val v)))=some v:=nd rfl
@[simp] theorem OY:zw k (some (some (.own l)))=if k then some (.lst l)else none:=nd rfl
@[simp] theorem LZ{r:R V}:src k fr (.v i) r=R.of (wQ k fr i) fr:=nd rfl
noncomputable def vp(fr:Fr)(i:Nat)(s:Sl):Option (Option Sl)->Option Fr
 |some (some (.bor _))=>none
 |some (some (.ro _))=>none
 |_=>some (fr.set i (some s))
@[simp] theorem zx:put fr i s=vp fr i s fr[i]?:=by unfold put vp;split<;>simp_all
@[simp] theorem OZ:vp fr i s (some (some (.val v)))=some (fr.set i (some s)):=nd rfl
@[simp] theorem O0:vp fr i s (some (some (.own l)))=some (fr.set i (some s)):=nd rfl
@[simp] theorem wZ{l:List Nat}{x:List V}:bT (.many l) (.tup x) fr=cg l x fr:=nd rfl
@[simp] theorem w9:cg [] [] fr=some fr:=nd rfl
@[simp] theorem uo{l:List Nat}{x:List V}:cg (i :: l) (v :: x) fr=(put fr i (.val v)).bind (cg l x):=nd rfl
@[simp] theorem OC:Sl.cL (.val v)=.val v:=nd rfl
@[simp] theorem OD:Sl.cL (.own l)=.val (.lst l):=nd rfl
noncomputable def nc(m:ME)(i:Nat)(ds:List V)(fr:Fr):Option (Option Sl)->R V
 |some (some (.own l))=>match lI m l ds with
  |some (v,l')=>.ok v (fr.set i (some (.own l')))
  |none=>.bad
 |some (some (.bor l))=>match lI m l ds with
  |some (v,l')=>.ok v (fr.set i (some (.bor l')))
  |none=>.bad
 |_=>.bad
@[simp] theorem EO{m:ME}{ds:List V}:Br m i ds fr=nc m i ds fr fr[i]?:=by unfold Br nc;split<;>simp_all<;>rfl
def gc{d:V}(h:l.length<100000):nc .append i [d] fr (some (some (.own l)))=.ok .aY (fr.set i (some (.own (l++[d])))):=by
 simp[nc,lI,zP h (show 100000<=big by decide)]
def ER{d:List V}(h:l.length+d.length<=100000):nc .extend i [.lst d] fr (some (some (.own l)))=.ok .aY (fr.set i (some (.own (l++d)))):=by
 simp[nc,lI,bw h]
end
def vo(o:Option Sl):Prop:=o=none\/∃y,o=some (.val y)
theorem vo.none:vo none:=.inl rfl
theorem vo.val{v:V}:vo (some (.val v)):=.inr ⟨v,rfl⟩
def Js{fr:Fr}{i:Nat}{s:Sl}{b:Option Sl}(h:vo b):vp fr i s (some b)=some (fr.set i (some s)):=by rcases h with rfl|⟨y,rfl⟩<;>rfl
def dc{b:Option Sl}(h:vo b):b.map Sl.cL=b:=by rcases h with rfl|⟨y,rfl⟩<;>rfl
noncomputable def L0(f:V->Fr->R Fl)(ds:List V):Fl->Fr->R Fl:=λp a=>match p with
 |.nx=>forL f ds a
 |.ct=>forL f ds a
 |.bk=>.ok .nx a
 |.ret x=>.ok (.ret x) a
section
variable{f:V->Fr->R Fl}{ds:List V}{d:V}{fr:Fr}
@[simp] theorem qB:forL f (d :: ds) fr=(f d fr).bind (L0 f ds):=nd rfl
end
section
variable{a b c:E}{es:Es}{lo hi:Eo}{it:It}
@[simp] theorem QJ{d:D}:ay (.c d)=[]:=rfl
@[simp] theorem QK{i:Nat}:ay (.v i)=[]:=rfl
@[simp] theorem O1:ay (.tup es)=cO es:=rfl
@[simp] theorem O2:ay (.lst es)=cO es:=rfl
@[simp] theorem O3{o:bF}:ay (.bin o a b)=ay a++ay b:=rfl
@[simp] theorem O4{o:bu}:ay (.cmp o a b)=ay a++ay b:=rfl
@[simp] theorem Qi:ay (.nt a)=ay a:=rfl
@[simp] theorem O5:ay (.neg a)=ay a:=rfl
@[simp] theorem Qj:ay (.an a b)=ay a++ay b:=rfl
@[simp] theorem O6:ay (.orr a b)=ay a++ay b:=rfl
@[simp] theorem O7:ay (.qw a b c)=ay a++(ay b++ay c):=rfl
@[simp] theorem Qk:ay (.ix a b)=ay a++ay b:=rfl
@[simp] theorem Ql:ay (.sl a lo hi)=ay a++(gr lo++gr hi):=rfl
@[simp] theorem Qm:ay (.rv a)=ay a:=rfl
@[simp] theorem Qn{f:Nat}:ay (.cl f es)=cO es++iu es:=rfl
@[simp] theorem Qo{f:BI}:ay (.bi f es)=cO es:=rfl
@[simp] theorem Qp{m:ME}:ay (.me m a es)=ay a++(cO es++CA m a):=rfl
@[simp] theorem O8{ts:List TY}:ay (.jt a ts)=ay a:=rfl
@[simp] theorem OE{t:T}:ay (.comp a t it lo)=sD it:=rfl
@[simp] theorem O9:ay (.dJ it)=sD it:=rfl
@[simp] theorem Pa:ay (.iw a)=ay a:=rfl
end
def sU{α:Type}{l:List α}{i:Int}(h0:0<=i):bH l i=l[i.toNat]?:=by
 unfold bH dG;rw[gQ h0];split
 .rfl
 .rw[Sy (by omega)];rfl
@[simp] theorem jQ{α:Type}{l:List α}{n:Nat}:bH l (n:Int)=l[n]?:=by rw[sU (by omega)];simp
def Jt{α:Type}{l:List α}:bH l (-1:Int)=l.getLast?:=by
 unfold bH dG;cases l with
 |nil=>rfl
 |cons a l=>
  have b:¬ (0:Int)<=-1:=by omega
  have c:-(((a :: l).length:Nat):Int)<=-1:=by simp;omega
  rw[R0 b,gQ c,List.getLast?_eq_getElem?];simp only[Option.bind]
  congr 1
  simp;omega
noncomputable def qZ:Fn:=⟨2,2,(.cons (.iff (.cmp .eq (.v 0) (.lst .nil)) (.cons (.ret (.bin .mul (.c (.int 7)) (.v 1))) .nil) .nil) (.cons (.ret (.bin .add (.ix (.v 0) (.bin .mod (.v 1) (.bi .len (.cons (.v 0) .nil)))) (.bin .mul (.c (.int 6553)) (.bin .fdiv (.v 1) (.bi .len (.cons (.v 0) .nil)))))) .nil))⟩
noncomputable def sV(c:Nat):Fn:=⟨3,4,(.cons (.set 3 (.bin .mod (.bin .add (.bin .mul (.bin .mod (.cl c (.cons (.v 0) (.cons (.v 1) .nil))) (.c (.int 2147483563))) (.c (.int 69069))) (.bin .mul (.c (.int 104723)) (.bin .add (.v 1) (.c (.int 1))))) (.c (.int 2147483563)))) (.cons (.set 3 (.bin .mod (.bin .add (.bin .mul (.v 3) (.v 3)) (.bin .fdiv (.v 3) (.c (.int 3)))) (.c (.int 2147483399)))) (.cons (.ret (.bin .mod (.bin .fdiv (.bin .mod (.bin .add (.bin .mul (.v 3) (.v 3)) (.bin .fdiv (.v 3) (.c (.int 7)))) (.c (.int 2147483647))) (.c (.int 11))) (.v 2))) .nil)))⟩
noncomputable def q8(ns:List Int)(k:Int):Int:=if ns=[]then 7*k else (ns[(k % ns.length).toNat]?.getD 0)+6553*(k / ns.length)
noncomputable def gw(ns:List Int)(k many:Int):Int:=
 let c:=(q8 ns k % 2147483563*69069+104723*(k+1)) % 2147483563
 let c:=(c*c+c / 3) % 2147483399
 (c*c+c / 7) % 2147483647 / 11 % many
def j6(ns:List Int)(k:Int){many:Int}(h:0<many):0<=gw ns k many:=UC _ (by omega)
def oF(ns:List Int)(k:Int){many:Int}(h:0<many):gw ns k many<many:=Ui _ h
noncomputable def sW(ns:List Int):V:=.bz (ns.map V.int)
def ES(ns:List Int):bV (cJ (18+1)) (ns.map V.int) []=some (decide (ns=[])):=by cases ns<;>simp
section
variable{P:aH}{w:Nat}{fr af ao b8:Fr}{k b:Bool}{a e c:E}{es:Es}{ss sa sb:Ss}{st:S}{lo hi:Eo}{it:It}{v x y z:V}{vs:List V}{i:Nat}{l:List V}{Q:Fl->Fr->Prop}
def aP{d:D}(h:ofD d=some v):ev P k (.c d) fr=.ok v fr:=by rw[OA,h];rfl
def au(h:jI k fr i=some v):ev P k (.v i) fr=.ok v fr:=by rw[IV,h];rfl
def jA(h:bI P false es fr=.ok vs af)(h2:fG vs=some v):ev P k (.tup es) fr=.ok v af:=by rw[IW,h,ak,h2];rfl
def gY(h:bI P false es fr=.ok vs af)(h2:dZ vs=some v):ev P k (.lst es) fr=.ok v af:=by rw[IX,h,ak,h2];rfl
def aG{o:bF}(h:ev P (kf a (ay e)) a fr=.ok x af)(h2:ev P true e af=.ok y ao)(h3:bS o x y=some v):ev P k (.bin o a e) fr=.ok v ao:=by rw[IY,h,ak,h2,ak,h3];rfl
def bR{o:bu}(h:ev P (kf a (ay e)) a fr=.ok x af)(h2:ev P true e af=.ok y ao)(h3:cop o x y=some b):ev P k (.cmp o a e) fr=.ok (.bl b) ao:=by rw[IZ,h,ak,h2,ak,h3];rfl
def q9{j:Int}(h:ev P true a fr=.ok (.int j) af):ev P k (.neg a) fr=.ok (.int (-j)) af:=by rw[Ja,h];rfl
def CL(h:ev P true a fr=.ok (.bl true) af)(h2:ev P k e af=.ok v ao):ev P k (.an a e) fr=.ok v ao:=by rw[LR,h,ak,Jb];exact h2
def cP(h:ev P (kf a (ay e)) a fr=.ok x af)(h2:ev P true e af=.ok y ao)(h3:dY x y=some v):ev P k (.ix a e) fr=.ok v ao:=by rw[LS,h,ak,h2,ak,h3];rfl
def gx{p q:Option Int}(h:ev P (kf a (gr lo++gr hi)) a fr=.ok x af)(h2:eX P lo af=.ok p ao)(h3:eX P hi ao=.ok q b8)(h4:gk x p q=some v):ev P k (.sl a lo hi) fr=.ok v b8:=by rw[LU,h,ak,h2,ak,h3,ak,h4];rfl
def L1(h:ev P true a fr=.ok x af)(h2:pH x=some v):ev P k (.jS a) fr=.ok v af:=by rw[Jc,h,ak,h2];rfl
def Bx(h:ev P true a fr=.ok x af)(h2:kO x=some v):ev P k (.rv a) fr=.ok v af:=by rw[LV,h,ak,h2];rfl
def cy{f:Nat}{as:List (Nat ⊕ V)}(h:eY P es fr=.ok as af)(h2:cY P f as af=.ok v ao):ev P k (.cl f es) fr=.ok v ao:=by rw[LW,h,ak];exact h2
def bY{g:BI}(h:bI P true es fr=.ok vs af)(h2:bZ g vs=some v):ev P k (.bi g es) fr=.ok v af:=by rw[LX,h,ak,h2];rfl
def kE{m:ME}(hm:gW m=true)(hl:(lent fr i).isSome=true)(h:bI P (yW m) es fr=.ok vs af)(h2:nc m i vs af af[i]?=.ok v ao):ev P k (.me m (.v i) es) fr=.ok v ao:=by
 rw[Jd hm,gQ hl,h,ak,EO];exact h2
def CM{m:ME}(hm:gW m=false)(h:ev P (kf a (cO es)) a fr=.ok x af)(h2:bI P true es af=.ok vs ao)(h3:fh m x vs=some v):ev P k (.me m a es) fr=.ok v ao:=by rw[Je hm,h,ak,h2,ak,h3];rfl
def L3{ts:List TY}(h:ev P true a fr=.ok x af)(h2:ts.any (cG x)=b):ev P k (.jt a ts) fr=.ok (.bl b) af:=by rw[Jf,h,ak,h2]
def iB{t:T}{cond:Eo}(h:bJ P true it fr=.ok vs af)(hu:undef t af=true)(h2:cz (iR P a t cond af) vs=some l)(h3:dZ l=some v):ev P k (.comp a t it cond) fr=.ok v af:=by
 rw[pe,h,ak,gQ hu,h2];show R.of (dZ l) af=_;rw[h3];rfl
def iS(h:bJ P true it fr=.ok vs af)(h2:dZ vs=some v):ev P k (.dJ it) fr=.ok v af:=by rw[Jg,h,ak,h2];rfl
def xg(h:ev P true a fr=.ok x af)(h2:toT x=some v):ev P k (.iw a) fr=.ok v af:=by rw[Jh,h,ak,h2];rfl
def aF:bI P k .nil fr=.ok [] fr:=EE
def av(h:ev P (k&&kf a (cO es)) a fr=.ok v af)(h2:bI P k es af=.ok vs ao):bI P k (.cons a es) fr=.ok (v :: vs) ao:=by rw[Bs,h,ak,h2];rfl
def br:eY P .nil fr=.ok [] fr:=EF
def aS{as:List (Nat ⊕ V)}(hi:jY fr a=none)(h:ev P false a fr=.ok v af)(h2:eY P es af=.ok as ao):eY P (.cons a es) fr=.ok (.inr v :: as) ao:=by rw[sR,hi,wY,h,ak,h2];rfl
def OF{as:List (Nat ⊕ V)}(hi:jY fr a=some i)(h2:eY P es fr=.ok as ao):eY P (.cons a es) fr=.ok (.inl i :: as) ao:=by rw[sR,hi,wX,h2];rfl
def ff:eX P .no fr=.ok none fr:=Ji
def dQ{j:Int}(h:ev P true a fr=.ok (.int j) af):eX P (.yes a) fr=.ok (some j) af:=by rw[EG,h];rfl
def L4{b2:Bool}(h:aD P a fr=.ok b af)(h2:b=true->aD P e af=.ok b2 ao)(h3:b=false->false=b2/\af=ao):aD P (.an a e) fr=.ok b2 ao:=by
 rw[sS,h,ak];cases b with
 |true=>exact h2 rfl
 |false=>obtain⟨rfl,rfl⟩:=h3 rfl;rfl
def jm(h:aD P a fr=.ok false af):aD P (.an a e) fr=.ok false af:=by rw[sS,h];rfl
def eB{b2:Bool}(h:aD P a fr=.ok true af)(h2:aD P e af=.ok b2 ao):aD P (.an a e) fr=.ok b2 ao:=by rw[sS,h];exact h2
def zy(h:aD P a fr=.ok true af):aD P (.orr a e) fr=.ok true af:=by rw[vn,h];rfl
def fM{b2:Bool}(h:aD P a fr=.ok false af)(h2:aD P e af=.ok b2 ao):aD P (.orr a e) fr=.ok b2 ao:=by rw[vn,h];exact h2
def ri(h:aD P a fr=.ok b af):aD P (.nt a) fr=.ok (!b) af:=by rw[Jk,h];rfl
noncomputable def plainT:E->Bool
 |.an _ _=>false
 |.orr _ _=>false
 |.nt _=>false
 |_=>true
def aR(hp:plainT a=true)(h:ev P true a fr=.ok x af)(h2:truthy x=b):aD P a fr=.ok b af:=by
 have:aD P a fr=(ev P true a fr).bind Jl:=by
  cases a<;>first | (cases hp;done) | (rw[aD];rfl;all_goals (intros;contradiction))
 rw[this,h,ak,EI,h2]
def cV(h:src k fr a (ev P k a fr)=.ok x af)(h2:eK x=some vs):bJ P k (.seq a) fr=.ok vs af:=by rw[EJ,h,ak,h2];rfl
def dg(h:wQ k fr i=some v){r:R V}:src k fr (.v i) r=.ok v fr:=by rw[LZ,h];rfl
def lS(h:bI P true es fr=.ok vs af)(h2:dB vs=some l):bJ P k (.eS es) fr=.ok l af:=by rw[EK,h,ak,h2];rfl
def ET{l:List Nat}(h:ev P true a fr=.ok (.str l) af):bJ P k (.jc a) fr=.ok (cH 0 (jX l)) af:=by rw[Bt,h,ak];rfl
def EU{l m:List Nat}(h:ev P (kf a (ay e)) a fr=.ok (.str l) af)(h2:ev P true e af=.ok (.str m) ao):bJ P k (.jd a e) fr=.ok (cD (jX l) (jX m)) ao:=by rw[Bu,h,ak,h2,ak];rfl
def vq(h:ev P false a fr=.ok v af):pI a fr=fr:=by
 cases a with
 |v j=>
  simp only[IV]at h;show fr.modify j _=fr;apply UP;intro i;rw[Vu];cases z:fr[i]? with
  |none=>rfl
  |some o=>
   show some (if j=i then Option.map Sl.cL o else o)=some o;by_cases d:j=i
   .subst d;rw[gQ rfl];unfold jI at h;rw[z]at h;rcases o with _|s
    .rfl
    .cases s with
     |own l=>cases h
     |_=>rfl
   .rw[R0 d]
 |_=>rfl
def aK(h:ev P false a fr=.ok v af)(hn:isNew a=false)(hp:put af i (.val v)=some ao)(q:Q .nx ao):Wp (ex P w (.set i a) fr) Q:=by
 rw[zv,vq h,h,ak,hn,hp];exact⟨_,_,rfl,q⟩
def gy(h:ev P false a fr=.ok (.lst l) af)(hn:isNew a=true)(hp:put af i (.own l)=some ao)(q:Q .nx ao):Wp (ex P w (.set i a) fr) Q:=by
 rw[zv,vq h,h,ak,hn,gQ rfl,Bv,hp];exact⟨_,_,rfl,q⟩
def fE(h:ev P true a fr=.ok v af)(q:Q .nx af):Wp (ex P w (.exp a) fr) Q:=by rw[Jo,h];exact⟨_,_,rfl,q⟩
def cF(h:ev P false a (eL fr)=.ok v af)(q:Q (.ret v) af):Wp (ex P w (.ret a) fr) Q:=by rw[Jp,h];exact⟨_,_,rfl,q⟩
def aU(h:aD P a fr=.ok b af)(h2:b=true->Wp (exs P w sa af) Q)(h3:b=false->Wp (exs P w sb af) Q):Wp (ex P w (.iff a sa sb) fr) Q:=by
 rw[Jq,h,ak];cases b with
 |true=>exact h2 rfl
 |false=>exact h3 rfl
def az(q:Q .nx fr):Wp (exs P w .nil fr) Q:=by rw[EM];exact⟨_,_,rfl,q⟩
def nx(P:aH)(w:Nat)(ss:Ss)(Q:Fl->Fr->Prop):Fl->Fr->Prop
 |.nx,fr=>Wp (exs P w ss fr) Q
 |g,fr=>Q g fr
def ai(q:Wp (ex P w st fr) (nx P w ss Q)):Wp (exs P w (.cons st ss) fr) Q:=by
 rw[Bw,wp_bind];refine q.mono λg af z=>?_;cases g with
 |nx=>exact z
 |bk=>exact⟨_,_,rfl,z⟩
 |ct=>exact⟨_,_,rfl,z⟩
 |ret v=>exact⟨_,_,rfl,z⟩
def iT{t:T}(h:bJ P false it (qX (itv it) fr)=.ok vs af)(q:Wp (forL (turnF P w t ss) vs af) Q):Wp (ex P w (.for t it ss) fr) Q:=by rw[rV,h,ak];exact q
def xj(q:Wp (dD (λao=>aD P a ao) (λao=>exs P w ss ao) w fr) Q):Wp (ex P w (.jT a ss) fr) Q:=by rw[Jr];exact q
def cK{t:T}{d:V}(hb:bT t d fr=some af)(q:Wp (exs P w ss af) Q):Wp (turnF P w t ss d fr) Q:=by unfold turnF;rw[hb];exact q
def lU{t:T}{d:V}(hb:bT t d (m8 fr)=some af)(h:ev P false a af=.ok v ao):iR P a t .no fr d=some (some v):=by
 unfold iR;rw[hb];dsimp only;rw[Jj];dsimp only;rw[h];rfl
def pO{t:T}{d:V}(hb:bT t d (m8 fr)=some af)(h:aD P c af=.ok b ao)(h2:b=true->ev P false a af=.ok v b8):iR P a t (.yes c) fr d=some (if b then some v else none):=by
 unfold iR;rw[hb];dsimp only;rw[EH,h];dsimp only;cases b with
 |true=>rw[h2 rfl];rfl
 |false=>rfl
def iI{p q:List Nat}:cop .eq (.str p) (.str q)=some (decide (p=q)):=vg
def gz{p q:List Nat}:cop .ne (.str p) (.str q)=some (!decide (p=q)):=by rw[zq,vg];rfl
def By{p q:Int}:cop .eq (.int p) (.int q)=some (decide (p=q)):=vf
def oG{p q:Int}:cop .ne (.int p) (.int q)=some (!decide (p=q)):=by rw[zq,vf];rfl
def xm{p q:Int}:cop .lt (.int p) (.int q)=some (decide (p<q)):=rfl
def Ju{p q:Int}:cop .gt (.int p) (.int q)=some (decide (q<p)):=rfl
def kF{p q:Int}(h:bQ p q=true):bS .mul (.int p) (.int q)=some (.int (p*q)):=by rw[Bp,gQ h]
def mK{p q:Int}(h:0<q):bS .mod (.int p) (.int q)=some (.int (p % q)):=by rw[Ez,gQ h]
def rj{p q:Int}(h:0<q)(h2:q<1073741824):bS .fdiv (.int p) (.int q)=some (.int (p / q)):=by rw[Bq,gQ ⟨h,h2⟩]
end
def sX{fr:Fr}{i:Nat}{s:Sl}{o:Option Sl}(e:fr[i]?=some o)(h:vo o):put fr i s=some (fr.set i (some s)):=by rw[zx,e,Js h]
def fP{fr:Fr}{i j:Nat}{u v:V}{a b:Option Sl}(ea:fr[i]?=some a)(ha:vo a)(eb:(fr.set i (some (.val u)))[j]?=some b)(hb:vo b):bT (.many [i,j]) (.tup [u,v]) fr=some ((fr.set i (some (.val u))).set j (some (.val v))):=by
 simp only[wZ,uo,w9,sX ea ha,Option.bind,sX eb hb]
def bind1{fr:Fr}{i:Nat}{v:V}{a:Option Sl}(ea:fr[i]?=some a)(ha:vo a):bT (.one i) v fr=some (fr.set i (some (.val v))):=sX ea ha
end Pv
local macro_rules|`(tactic|array_get_dec)=>`(tactic|first
  |exact Pv.aF|exact Pv.br|exact Pv.ff
  | (apply Pv.au;rfl) | (apply Pv.aP;rfl)|apply Pv.aG|apply Pv.bR|apply Pv.jA|apply Pv.gY|apply Pv.cP|apply Pv.gx|apply Pv.cy|apply Pv.bY
   |apply Pv.q9|apply Pv.xg|apply Pv.iS|apply Pv.Bx | (apply Pv.kE rfl rfl) | (apply Pv.CM rfl)
  |apply Pv.av | (apply Pv.aS rfl) | (apply Pv.OF rfl)|apply Pv.dQ|apply Pv.ri|apply Pv.aR rfl
  |exact Pv.LN|exact Pv.LO|exact Pv.jy|exact Pv.LQ|exact Pv.oB|exact Pv.kD|exact Pv.LP
  | (with_reducible assumption)|exact Pv.bL|exact Pv.di|exact Pv.iI|exact Pv.gz|exact Pv.By|exact Pv.oG|exact Pv.xm  | exact Pv.Ju
  | (show Pv.truthy _=_;rfl) | (show Pv.dY _ _=some _;rfl) | (show Pv.toT _=some _;rfl) | (show Pv.kq _ _=some _;rfl) | (show Pv.eK _=some _;rfl)|assumption)
namespace Pv
open Ev (D bF bu TY BI ME T E Es Eo It S Ss Fn big deep b2i rep bQ dG bH aI cut bW cX slots)
def Jv(a b:Int):bQ (a % 2147483563) b=true:=by have c:=UC a (b:=2147483563) (by decide);have d:=Ui a (b:=2147483563) (by decide);simp[bQ];omega
def OG(a b:Int):bQ (a % 2147483399) b=true:=by have c:=UC a (b:=2147483399) (by decide);have d:=Ui a (b:=2147483399) (by decide);simp[bQ];omega
def Jw{l:List V}{j:Int}{v:V}(h:bH l j=some v):dY (.bz l) (.int j)=some v:=h
def Jx{l m:List V}:cop .eq (.bz l) (.lst m)=bV (cJ (18+1)) l m:=rfl
def BA{F:List Fn}{w n c:Nat}(hc:F[c]?=some qZ){ns:List Int}(hn:ns.length<=63)(k:Int):run F w (n+1) c [.val (sW ns),.val (.int k)]=some (.int (q8 ns k),[]):=by
 refine cj hc rfl (ai (aU (b:=decide (ns=[])) (aR rfl (bR (au rfl) (gY aF oB) (Jx.trans (ES ns))) rfl) (λh=>?_) λh=>az ?_))
 .have d:=SG h;exact ai (cF (aG (aP rfl) (au rfl) (kF rfl)) ⟨by rw[q8,gQ d],rfl⟩)
 .have d:=Te h;have a:0<ns.length:=List.length_pos_iff.mpr d;have M5:(0:Int)<(ns.map V.int).length:=by rw[Se];exact Int.natCast_pos.mpr a
  have e:((ns.map V.int).length:Int)<1073741824:=by rw[Se];omega
  have f:=UC k (b:=(ns.length:Int)) (by omega);have g:(k % (ns.length:Int)).toNat<ns.length:=by have:=Ui k (b:=(ns.length:Int)) (by omega);omega
  have i:bH (ns.map V.int) (k % ((ns.map V.int).length:Int))=some (.int (ns[(k % (ns.length:Int)).toNat]?.getD 0)):=by
   rw[Se,sU f,Su,RZ g];rfl
  refine ai (cF (aG (cP (au rfl) (aG (au rfl) (bY (av (au rfl) aF) vm) (mK M5)) (Jw i)) (aG (aP rfl) (aG (au rfl) (bY (av (au rfl) aF) vm) (rj M5 e)) (kF rfl)) bL) ⟨?_,rfl⟩);rw[q8,R0 d,Se]
def lV{F:List Fn}{w n c dr:Nat}(hc:F[c]?=some qZ)(hd:F[dr]?=some (sV c)){ns:List Int}(hn:ns.length<=63)(k:Int){many:Int}(hm:0<many):run F w (n+2) dr [.val (sW ns),.val (.int k),.val (.int many)]=some (.int (gw ns k many),[]):=by
 refine cj hd rfl (ai (aK (aG (aG (aG (aG (cy (aS rfl (au rfl) (aS rfl (au rfl) br)) (call2 (BA hc hn k))) (aP rfl) (mK (by decide))) (aP rfl) (kF (Jv _ _))) (aG (aP rfl) (aG (au rfl) (aP rfl) bL) (kF rfl)) bL) (aP rfl) (mK (by decide))) rfl rfl ?_));refine ai (aK (aG (aG (aG (au rfl) (au rfl) (kF (Jv _ _))) (aG (au rfl) (aP rfl) (rj (by decide) (by decide))) bL) (aP rfl) (mK (by decide))) rfl rfl ?_);exact ai (cF (aG (aG (aG (aG (aG (au rfl) (au rfl) (kF (OG _ _))) (aG (au rfl) (aP rfl) (rj (by decide) (by decide))) bL) (aP rfl) (mK (by decide))) (aP rfl) (rj (by decide) (by decide))) (au rfl) (mK hm)) ⟨rfl,rfl⟩)
noncomputable def fText(dr:Nat):Fn:=⟨3,4,(.cons (.ret (.me .join (.c (.str [])) (.cons (.comp (.ix (.c (.str [97,98,99,32])) (.cl dr (.cons (.v 0) (.cons (.bin .add (.bin .add (.v 1) (.c (.int 1))) (.v 3)) (.cons (.c (.int 4)) .nil))))) (.one 3) (.eS (.cons (.cl dr (.cons (.v 0) (.cons (.v 1) (.cons (.bin .add (.v 2) (.c (.int 1))) .nil)))) .nil)) .no) .nil))) .nil)⟩
inductive Pt where
 |keep (n:Nat)|put (s:List Nat)|drop (s:List Nat)
deriving DecidableEq
noncomputable def ef:List Nat:=[107,101,101,112]
noncomputable def jJ:List Nat:=[112,117,116]
noncomputable def iU:List Nat:=[100,114,111,112]
noncomputable def Pt.v:Pt->V
 |.keep n=>.tup [.str ef,.int n]
 |.put s=>.tup [.str jJ,.str s]
 |.drop s=>.tup [.str iU,.str s]
noncomputable def bK(c:List Pt):V:=.tup (c.map Pt.v)
noncomputable def txt(ns:List Int)(at_ most:Int):List Nat:=(List.range (gw ns at_ (most+1)).toNat).map λ(k:Nat)=>[97,98,99,32].getD (gw ns (at_+1+k) 4).toNat 0
def vt(ns:List Int)(at_:Int){most:Int}(h:0<=most):(txt ns at_ most).length<=most.toNat:=by
 unfold txt;have a:=oF ns at_ (many:=most+1) (by omega);have b:=j6 ns at_ (many:=most+1) (by omega);simp;omega
def getD_at{α:Type}{l:List α}{i:Int}(h0:0<=i)(h1:i<l.length)(d:α):bH l i=some (l.getD i.toNat d):=by
 have:i.toNat<l.length:=by omega
 rw[sU h0];simp[List.getD,RZ this]
def ng{α β:Type}(l:List α)(f:α->β):(l.map λx=>[f x]).flatten=l.map f:=by induction l<;>simp[*]
def zz(lo:Int)(n:Nat):range lo n=(List.range n).map λ(i:Nat)=>V.int (lo+i):=rfl
section
variable{F:List Fn}{w n c dr t:Nat}(hc:F[c]?=some qZ)(hd:F[dr]?=some (sV c)){ns:List Int}(hn:ns.length<=63)
include hc hd hn
theorem sY(ht:F[t]?=some (fText dr))(k most:Int)(hm:0<=most)(hm2:most<=1000):run F w (n+3) t [.val (sW ns),.val (.int k),.val (.int most)]=some (.str (txt ns k most),[]):=by
 have b:=j6 ns k (many:=most+1) (by omega);have g:=oF ns k (many:=most+1) (by omega);have d:=λfr=>gX (fr:=fr) (lV (w:=w) (n:=n) hc hd hn k (many:=most+1) (by omega));have L5:cz (iR (run F w (n+2)) (.ix (.c (.str [97,98,99,32])) (.cl dr (.cons (.v 0) (.cons (.bin .add (.bin .add (.v 1) (.c (.int 1))) (.v 3)) (.cons (.c (.int 4)) .nil))))) (.one 3) .no [some (.val (sW ns)),some (.val (.int k)),some (.val (.int most)),none]) (range 0 (gw ns k (most+1)).toNat)=some (((List.range (gw ns k (most+1)).toNat).map λ(j:Nat)=>[[97,98,99,32].getD (gw ns (k+1+j) 4).toNat 0]).map V.str):=by
  rw[zz,Ud];refine iA _ _ _ λj _=>?_;have e:=λfr=>gX (fr:=fr) (lV (w:=w) (n:=n) hc hd hn (k+1+j) (many:=4) (by decide));have h:dY (.str [97,98,99,32]) (.int (gw ns (k+1+j) 4))=some (.str [[97,98,99,32].getD (gw ns (k+1+j) 4).toNat 0]):=by
   rw[j5,getD_at (l:=[97,98,99,32]) (j6 ns (k+1+j) (many:=4) (by decide)) (oF ns (k+1+j) (many:=4) (by decide)) 0];rfl
  rw[show(0:Int)+(j:Int)=j from VF _];exact lU rfl (by (repeat (first|array_get_dec|exact e _)))
 have a:=CK (l:=(List.range (gw ns k (most+1)).toNat).map λ(j:Nat)=>[[97,98,99,32].getD (gw ns (k+1+j) 4).toNat 0]) (by rw[ng];simp;omega);rw[ng]at a;have Qq:dZ (((List.range (gw ns k (most+1)).toNat).map λ(j:Nat)=>[[97,98,99,32].getD (gw ns (k+1+j) 4).toNat 0]).map V.str)=some (.lst _):=b6 (bw (by simp;omega));have f:=IU b (show gw ns k (most+1)<=100000 by omega);refine cj ht rfl (ai (cF (CM rfl (aP rfl) (av (iB (lS (by (repeat (first|array_get_dec|exact d _))) f) rfl L5 Qq) aF) a) ⟨rfl,rfl⟩))
end
def Jy{j:Int}{n:Nat}(h:n<=100000)(e:j=n):dB [.int j]=some (range 0 n):=by
 subst e;rw[IU (by omega) (by omega)];rfl
noncomputable def fN:Fn:=⟨1,1,(.cons (.iff (.cmp .eq (.ix (.v 0) (.c (.int 0))) (.c (.str [107,101,101,112]))) (.cons (.ret (.ix (.v 0) (.c (.int 1)))) .nil) .nil) (.cons (.ret (.bi .len (.cons (.ix (.v 0) (.c (.int 1))) .nil))) .nil))⟩
noncomputable def nF(eE:Nat):Fn:=⟨1,2,(.cons (.ret (.bi .sum (.cons (.comp (.cl eE (.cons (.v 1) .nil)) (.one 1) (.seq (.v 0)) (.yes (.cmp .ne (.ix (.v 1) (.c (.int 0))) (.c (.str [112,117,116]))))) .nil))) .nil)⟩
noncomputable def pP(eE:Nat):Fn:=⟨1,2,(.cons (.ret (.bi .sum (.cons (.comp (.cl eE (.cons (.v 1) .nil)) (.one 1) (.seq (.v 0)) (.yes (.cmp .ne (.ix (.v 1) (.c (.int 0))) (.c (.str [100,114,111,112]))))) .nil))) .nil)⟩
noncomputable def Jz(eE:Nat):Fn:=⟨1,2,(.cons (.ret (.bi .sum (.cons (.comp (.cl eE (.cons (.v 1) .nil)) (.one 1) (.seq (.v 0)) (.yes (.cmp .ne (.ix (.v 1) (.c (.int 0))) (.c (.str [107,101,101,112]))))) .nil))) .nil)⟩
noncomputable def lW(iC:Nat):Fn:=⟨1,7,(.cons (.set 1 (.lst .nil)) (.cons (.set 2 (.c (.int 0))) (.cons (.set 3 (.c (.str []))) (.cons (.set 4 (.c (.str []))) (.cons (.for (.many [5,6]) (.seq (.v 0)) (.cons (.iff (.cmp .eq (.v 5) (.c (.str [100,114,111,112]))) (.cons (.set 3 (.bin .add (.v 3) (.v 6))) .nil) (.cons (.iff (.cmp .eq (.v 5) (.c (.str [112,117,116]))) (.cons (.set 4 (.bin .add (.v 4) (.v 6))) .nil) (.cons (.iff (.cmp .gt (.v 6) (.c (.int 0))) (.cons (.iff (.orr (.cmp .ne (.v 3) (.c (.str []))) (.cmp .ne (.v 4) (.c (.str [])))) (.cons (.exp (.me .extend (.v 1) (.cons (.cl iC (.cons (.v 2) (.cons (.v 3) (.cons (.v 4) .nil)))) .nil))) (.cons (.set 2 (.c (.int 0))) (.cons (.set 3 (.c (.str []))) (.cons (.set 4 (.c (.str []))) .nil)))) .nil) (.cons (.set 2 (.bin .add (.v 2) (.v 6))) .nil)) .nil) .nil)) .nil)) .nil)) (.cons (.exp (.me .extend (.v 1) (.cons (.cl iC (.cons (.v 2) (.cons (.v 3) (.cons (.v 4) .nil)))) .nil))) (.cons (.ret (.iw (.v 1))) .nil)))))))⟩
noncomputable def nh:S:=.iff (.cmp .ne (.v 1) (.c (.str []))) (.cons (.exp (.me .append (.v 3) (.cons (.tup (.cons (.c (.str [100,114,111,112])) (.cons (.v 1) .nil))) .nil))) .nil) .nil
noncomputable def jK:S:=.iff (.cmp .ne (.v 2) (.c (.str []))) (.cons (.exp (.me .append (.v 3) (.cons (.tup (.cons (.c (.str [112,117,116])) (.cons (.v 2) .nil))) .nil))) .nil) .nil
noncomputable def gZ:S:=.ret (.v 3)
noncomputable def gf:Fn:=⟨3,4,(.cons (.set 3 (.lst .nil)) (.cons (.iff (.cmp .gt (.v 0) (.c (.int 0))) (.cons (.exp (.me .append (.v 3) (.cons (.tup (.cons (.c (.str [107,101,101,112])) (.cons (.v 0) .nil))) .nil))) .nil) .nil) (.cons nh (.cons jK (.cons gZ .nil)))))⟩
noncomputable def EV:Fn:=⟨1,5,(.cons (.set 1 (.lst .nil)) (.cons (.set 2 (.lst .nil)) (.cons (.for (.many [3,4]) (.seq (.v 0)) (.cons (.iff (.cmp .eq (.v 3) (.c (.str [107,101,101,112]))) (.cons (.set 2 (.bin .add (.v 2) (.dJ (.eS (.cons (.bi .len (.cons (.v 1) .nil)) (.cons (.bin .add (.bi .len (.cons (.v 1) .nil)) (.v 4)) .nil)))))) (.cons (.set 1 (.bin .add (.v 1) (.bin .mul (.lst (.cons (.c (.str [])) .nil)) (.v 4)))) .nil)) (.cons (.iff (.cmp .eq (.v 3) (.c (.str [100,114,111,112]))) (.cons (.set 1 (.bin .add (.v 1) (.dJ (.seq (.v 4))))) .nil) (.cons (.set 2 (.bin .add (.v 2) (.dJ (.seq (.v 4))))) .nil)) .nil)) .nil)) (.cons (.ret (.tup (.cons (.v 1) (.cons (.v 2) .nil)))) .nil))))⟩
noncomputable def zA:Fn:=⟨1,6,(.cons (.set 1 (.comp (.ix (.v 4) (.c (.int 0))) (.one 4) (.seq (.v 0)) .no)) (.cons (.for (.many [2,3]) (.zip (.v 1) (.sl (.v 1) (.yes (.c (.int 1))) .no)) (.cons (.iff (.orr (.cmp .eq (.v 2) (.v 3)) (.an (.cmp .eq (.v 2) (.c (.str [112,117,116]))) (.cmp .eq (.v 3) (.c (.str [100,114,111,112]))))) (.cons (.ret (.c (.bl false))) .nil) .nil) .nil)) (.cons (.ret (.an (.jt (.v 0) [.tuple]) (.cmp .eq (.comp (.v 5) (.one 5) (.seq (.v 0)) (.yes (.cmp .isin (.ix (.v 5) (.c (.int 1))) (.tup (.cons (.c (.str [])) (.cons (.c (.int 0)) .nil)))))) (.lst .nil)))) .nil)))⟩
noncomputable def Pt.n:Pt->Nat
 |.keep n=>n
 |.put s=>s.length
 |.drop s=>s.length
noncomputable def tot(c:List Pt):Nat:=(c.map Pt.n).sum
def mL(a b:List Pt):tot (a++b)=tot a+tot b:=by simp[tot]
def cQ(p:Pt)(c:List Pt):tot (p :: c)=p.n+tot c:=by simp[tot]
noncomputable def mP:Pt->Bool
 |.put _=>true
 |_=>false
noncomputable def fq:Pt->Bool
 |.drop _=>true
 |_=>false
noncomputable def eF:Pt->Bool
 |.keep _=>true
 |_=>false
noncomputable def aW(c:List Pt):Nat:=tot (c.filter λp=>!mP p)
noncomputable def gA(c:List Pt):Nat:=tot (c.filter λp=>!fq p)
noncomputable def cst(c:List Pt):Nat:=tot (c.filter λp=>!eF p)
section
variable{F:List Fn}{w n bq i:Nat}
def sZ(hs:F[i]?=some fN)(p:Pt)(hp:p.n<=100000):run F w (n+1) i [.val p.v]=some (.int p.n,[]):=by
 cases p with
 |keep k=>exact cj hs rfl (ai (aU (b:=true) (aR rfl (bR (cP (au rfl) (aP rfl) rfl) (aP rfl) iI) rfl) (λ_=>ai (cF (cP (au rfl) (aP rfl) rfl) ⟨rfl,rfl⟩)) nofun))
 |put s=>exact cj hs rfl (ai (aU (b:=false) (aR rfl (bR (cP (au rfl) (aP rfl) rfl) (aP rfl) iI) rfl) nofun (λ_=>az (ai (cF (bY (av (cP (au rfl) (aP rfl) rfl) aF) (Um hp)) ⟨rfl,rfl⟩)))))
 |drop s=>exact cj hs rfl (ai (aU (b:=false) (aR rfl (bR (cP (au rfl) (aP rfl) rfl) (aP rfl) iI) rfl) nofun (λ_=>az (ai (cF (bY (av (cP (au rfl) (aP rfl) rfl) aF) (Um hp)) ⟨rfl,rfl⟩)))))
def OH{c:List Pt}{p:Pt}(h:p∈c):p.n<=tot c:=by
 induction c with
 |nil=>simp at h
 |cons q c a=>
  rw[cQ];rcases List.mem_cons.mp h with rfl|h
  .omega
  .have:=a h;omega
def L6(c:List Pt):(c.map λp=>(p.n:Int)).sum=(tot c:Int):=by
 induction c with
 |nil=>rfl
 |cons p c a=>simp only[gV,List.sum_cons,a,cQ];omega
def pQ{word:List Nat}{pr:Pt->Bool}(hs:F[bq]?=some fN)(hb:F[i]?=some ⟨1,2,.cons (.ret (.bi .sum (.cons (.comp (.cl bq (.cons (.v 1) .nil)) (.one 1) (.seq (.v 0)) (.yes (.cmp .ne (.ix (.v 1) (.c (.int 0))) (.c (.str word))))) .nil))) .nil⟩)
  (hw:∀p:Pt,∃x u,p.v=.tup [.str x,u]/\(!decide (x=word))=pr p) (c:List Pt) (h1:c.length<=10000) (h2:tot c<=100000):run F w (n+2) i [.val (bK c)]=some (.int (tot (c.filter pr)),[]):=by
 refine cj hb rfl (ai (cF (bY (av (iB (cV (dg rfl) rfl) rfl (jl (e:=Pt.v) (p:=pr) (g:=λp=>.int p.n) c λp d=>?_) (b6 (bw ?_))) aF) ?_) ⟨rfl,rfl⟩))
 .obtain⟨x,u,b,Qs⟩:=hw p;have a:=λfr=>gv (fr:=fr) (sZ (w:=w) (n:=n) hs p (Sa (OH d) h2));rw[b]at a;rw[b,<-Qs];exact pO rfl (aR rfl (bR (cP (au rfl) (aP rfl) rfl) (aP rfl) gz) rfl) λ_=>cy (aS rfl (au rfl) br) (a _)
 .rw[Se];exact Sa (List.length_filter_le _ _) (Sa h1 (by decide))
 .rw[EC,wV (λp:Pt=>(p.n:Int))];show some (V.int _)=_;rw[L6]
def xo(hs:F[bq]?=some fN)(hb:F[i]?=some (nF bq))(c:List Pt)(h1:c.length<=10000)(h2:tot c<=100000):run F w (n+2) i [.val (bK c)]=some (.int (aW c),[]):=
 pQ (pr:=λp=>!mP p) hs hb (λp=>by cases p<;>exact⟨_,_,rfl,rfl⟩) c h1 h2
def zB(hs:F[bq]?=some fN)(hb:F[i]?=some (pP bq))(c:List Pt)(h1:c.length<=10000)(h2:tot c<=100000):run F w (n+2) i [.val (bK c)]=some (.int (gA c),[]):=
 pQ (pr:=λp=>!fq p) hs hb (λp=>by cases p<;>exact⟨_,_,rfl,rfl⟩) c h1 h2
def BB(hs:F[bq]?=some fN)(hb:F[i]?=some (Jz bq))(c:List Pt)(h1:c.length<=10000)(h2:tot c<=100000):run F w (n+2) i [.val (bK c)]=some (.int (cst c),[]):=
 pQ (pr:=λp=>!eF p) hs hb (λp=>by cases p<;>exact⟨_,_,rfl,rfl⟩) c h1 h2
end
noncomputable def bf(k:Nat)(g w:List Nat):List Pt:=(if 0<k then [.keep k]else [])++(if g=[]then []else [.drop g])++(if w=[]then []else [.put w])
def dU(k:Nat)(g w:List Nat):(bf k g w).length<=3:=by unfold bf;split<;>split<;>split<;>simp
def g9{F:List Fn}{w n i:Nat}(hs:F[i]?=some gf)(k:Nat)(g x:List Nat):run F w (n+1) i [.val (.int k),.val (.str g),.val (.str x)]=some (.lst ((bf k g x).map Pt.v),[]):=by
 refine cj hs rfl ?_;refine ai (gy (l:=[]) (by repeat array_get_dec) rfl rfl ?_);have c:∀(l:List V) (d:V) (a:Fr) (i:Nat),l.length<=3->a[i]?=some (some (.own l))->nc .append i [d] a a[i]?=.ok .aY (a.set i (some (.own (l++[d])))):=λl d a i h e=>by rw[e];exact gc (by omega)
 have fin:∀l:List V,Wp (exs (run F w n) w (.cons gZ .nil) [some (.val (.int k)),some (.val (.str g)),some (.val (.str x)),some (.own l)]) λg a=>g=.ret (.lst l)/\outs 3 a=[]:=λl=>ai (cF (by repeat array_get_dec) ⟨rfl,rfl⟩);have s3:∀l:List V,l.length<=2->Wp (exs (run F w n) w (.cons jK (.cons gZ .nil)) [some (.val (.int k)),some (.val (.str g)),some (.val (.str x)),some (.own l)]) λg a=>g=.ret (.lst (l++(if x=[]then []else [Pt.put x]).map Pt.v))/\outs 3 a=[]:=λl f=>by
  refine ai (aU (by repeat array_get_dec) (λh=>?_) λh=>?_)
  .have b:x≠[]:=by simpa using h
   refine ai (fE (by (repeat array_get_dec);exact c _ _ _ _ (by omega) rfl) (az ?_));rw[R0 b];exact fin _
  .have b:x=[]:=by simpa using h
   refine az ?_;rw[gQ b,Uc,Sx];exact fin _
 have s2:∀l:List V,l.length<=1->Wp (exs (run F w n) w (.cons nh (.cons jK (.cons gZ .nil))) [some (.val (.int k)),some (.val (.str g)),some (.val (.str x)),some (.own l)]) λy a=>y=.ret (.lst (l++((if g=[]then []else [Pt.drop g])++(if x=[]then []else [Pt.put x])).map Pt.v))/\outs 3 a=[]:=λl f=>by
  refine ai (aU (by repeat array_get_dec) (λh=>?_) λh=>?_)
  .have b:g≠[]:=by simpa using h
   refine ai (fE (by (repeat array_get_dec);exact c _ _ _ _ (by omega) rfl) (az ?_));rw[R0 b,Sd,<-Sv];exact s3 _ (by simp;omega)
  .have b:g=[]:=by simpa using h
   refine az ?_;rw[gQ b,UB];exact s3 _ (by omega)
 refine ai (aU (by repeat array_get_dec) (λh=>?_) λh=>?_)
 .have b:0<k:=by have:=SG h;omega
  refine ai (fE (by (repeat array_get_dec);exact c _ _ _ _ (by decide) rfl) (az ?_));unfold bf;rw[gQ b,Sv];exact s2 _ (oM 1)
 .have b:¬ 0<k:=by have:=Te h;omega
  refine az ?_;unfold bf;rw[R0 b];exact s2 _ (by decide)
abbrev FS:=List Pt×Nat×List Nat×List Nat
noncomputable def bx(st:FS):Pt->FS
 |.drop s=>(st.1,st.2.1,st.2.2.1++s,st.2.2.2)
 |.put s=>(st.1,st.2.1,st.2.2.1,st.2.2.2++s)
 |.keep k=>if 0<k then (if st.2.2.1=[]/\st.2.2.2=[]then (st.1,st.2.1+k,[],[])else (st.1++bf st.2.1 st.2.2.1 st.2.2.2,k,[],[]))else st
noncomputable def eG:FS:=([],0,[],[])
noncomputable def cI(st:FS):List Pt:=st.1++bf st.2.1 st.2.2.1 st.2.2.2
noncomputable def bh(c:List Pt):List Pt:=cI (c.foldl bx eG)
def EW(p:List Pt)(a:Pt):(p++[a]).foldl bx eG=bx (p.foldl bx eG) a:=by simp
def tu(c:List Pt):∀st:FS,(c.foldl bx st).1.length<=st.1.length+3*c.length/\(c.foldl bx st).2.2.1.length<=st.2.2.1.length+tot c/\(c.foldl bx st).2.2.2.length<=st.2.2.2.length+tot c:=by
 induction c with
 |nil=>intro st;simp[tot]
 |cons p c a=>
  intro st;have h:=a (bx st p);have b:(bx st p).1.length<=st.1.length+3/\(bx st p).2.2.1.length<=st.2.2.1.length+p.n/\(bx st p).2.2.2.length<=st.2.2.2.length+p.n:=by
   have:=dU st.2.1 st.2.2.1 st.2.2.2;cases p with
   |drop s=>simp[bx,Pt.n]
   |put s=>simp[bx,Pt.n]
   |keep k=>
    simp only[bx];split
    .split
     .simp
     .simp;omega
    .simp
  simp only[SA,R3,cQ];omega
def tw{F:List Fn}{w n dH i:Nat}(hs:F[dH]?=some gf)(hf:F[i]?=some (lW dH))(c:List Pt)(h1:c.length<=10000)(h2:tot c<=10000):run F w (n+2) i [.val (bK c)]=some (bK (bh c),[]):=by
 refine cj hf rfl ?_;refine ai (gy (l:=[]) (by repeat array_get_dec) rfl rfl ?_);refine ai (aK (by repeat array_get_dec) rfl rfl ?_);refine ai (aK (by repeat array_get_dec) rfl rfl ?_);refine ai (aK (by repeat array_get_dec) rfl rfl ?_);refine ai (iT (vs:=c.map Pt.v) (cV (dg rfl) rfl) ?_);have ext:∀(d:FS) (fr:Fr),d.1.length<=30010->nc .extend 1 [.lst ((bf d.2.1 d.2.2.1 d.2.2.2).map Pt.v)] fr (some (some (.own (d.1.map Pt.v))))=.ok .aY (fr.set 1 (some (.own ((cI d).map Pt.v)))):=λd fr h=>by
  have:=dU d.2.1 d.2.2.1 d.2.2.2;unfold cI;rw[Sd];exact ER (by simp;omega)
 refine eU (e:=Pt.v) (λp l fr=>p++l=c/\∃a b,vo a/\vo b/\fr=[some (.val (bK c)),some (.own ((p.foldl bx eG).1.map Pt.v)),some (.val (.int (p.foldl bx eG).2.1)),some (.val (.str (p.foldl bx eG).2.2.1)),some (.val (.str (p.foldl bx eG).2.2.2)),a,b]) (λp x l fr ⟨f,a,b,q,r,g⟩=>?_) (λp fr ⟨f,a,b,q,r,g⟩=>?_) c [] _ ⟨rfl,none,none,.none,.none,rfl⟩
 .subst g;obtain⟨A,B,C⟩:=tu p eG;have I:p.length+l.length+1=c.length:=by rw[<-f];simp;omega
  have J:tot p+x.n+tot l=tot c:=by rw[<-f,mL,cQ];omega
  rw[EW];have o:(p++[x])++l=c:=by simpa using f
  generalize p.foldl bx eG=d at *
  simp[eG]at A B C;have G:=λfr=>gX (fr:=fr) (g9 (w:=w) (n:=n) hs d.2.1 d.2.2.1 d.2.2.2);have ex:=λfr=>ext d fr (by omega);cases x with
  |drop s=>
   have hs:s.length<=tot c:=by simp only[Pt.n]at J;omega
   have K:=gM (a:=d.2.2.1) (b:=s) (by omega);refine cK (fP rfl q rfl r) (ai (aU (by repeat array_get_dec) (λ_=>?_) λh=>absurd h (by decide)));refine ai (aK (by repeat array_get_dec) rfl rfl (az (az ?_)));rw[bX];exact⟨o,_,_,.val,.val,rfl⟩
  |put s=>
   have hs:s.length<=tot c:=by simp only[Pt.n]at J;omega
   have K:=gM (a:=d.2.2.2) (b:=s) (by omega);refine cK (fP rfl q rfl r) (ai (aU (by repeat array_get_dec) (λh=>absurd h (by decide)) λ_=>?_));refine ai (aU (by repeat array_get_dec) (λ_=>?_) λh=>absurd h (by decide));refine ai (aK (by repeat array_get_dec) rfl rfl (az (az (az ?_))));rw[bX];exact⟨o,_,_,.val,.val,rfl⟩
  |keep k=>
   refine cK (fP rfl q rfl r) (ai (aU (by repeat array_get_dec) (λh=>absurd h (by decide)) λ_=>?_));refine ai (aU (by repeat array_get_dec) (λh=>absurd h (by decide)) λ_=>?_);refine ai (aU (by repeat array_get_dec) (λh=>?_) λh=>?_)
   .have y:0<k:=by have:=SG h;omega
    by_cases j:d.2.2.1=[]/\d.2.2.2=[]
    .have n1:cop .ne (.str d.2.2.1) (.str [])=some false:=by rw[gz,j.1];rfl
     have n2:cop .ne (.str d.2.2.2) (.str [])=some false:=by rw[gz,j.2];rfl
     refine ai (aU (b:=false) (fM (aR rfl (by repeat array_get_dec) rfl) (aR rfl (by repeat array_get_dec) rfl)) (λh=>absurd h (by decide)) λ_=>az ?_);refine ai (aK (by repeat array_get_dec) rfl rfl (az (az (az (az ?_)))));rw[bX];refine⟨o,some (.val (.str ef)),some (.val (.int k)),.val,.val,?_⟩;simp only[bx,gQ y,gQ j];rw[j.1,j.2];rfl
    .have L:aD (run F w (n+1)) (.orr (.cmp .ne (.v 3) (.c (.str []))) (.cmp .ne (.v 4) (.c (.str [])))) [some (.val (bK c)),some (.own (d.1.map Pt.v)),some (.val (.int d.2.1)),some (.val (.str d.2.2.1)),some (.val (.str d.2.2.2)),some (.val (.str ef)),some (.val (.int k))]=.ok true [some (.val (bK c)),some (.own (d.1.map Pt.v)),some (.val (.int d.2.1)),some (.val (.str d.2.2.1)),some (.val (.str d.2.2.2)),some (.val (.str ef)),some (.val (.int k))]:=by
      by_cases H:d.2.2.1=[]
      .have M:¬ d.2.2.2=[]:=λz=>j ⟨H,z⟩;have n1:cop .ne (.str d.2.2.1) (.str [])=some false:=by rw[gz,H];rfl
       have n2:cop .ne (.str d.2.2.2) (.str [])=some true:=by rw[gz,R7 M];rfl
       exact fM (aR rfl (by repeat array_get_dec) rfl) (aR rfl (by repeat array_get_dec) rfl)
      .have n1:cop .ne (.str d.2.2.1) (.str [])=some true:=by rw[gz,R7 H];rfl
       exact zy (aR rfl (by repeat array_get_dec) rfl)
     refine ai (aU L (λ_=>?_) λh=>absurd h (by decide));refine ai (fE (by (repeat (first|array_get_dec|exact G _|exact ex _))) ?_);refine ai (aK (by repeat array_get_dec) rfl rfl ?_);refine ai (aK (by repeat array_get_dec) rfl rfl ?_);refine ai (aK (by repeat array_get_dec) rfl rfl (az ?_));refine ai (aK (by repeat array_get_dec) rfl rfl (az (az (az (az ?_)))));rw[bX];refine⟨o,some (.val (.str ef)),some (.val (.int k)),.val,.val,?_⟩;simp only[bx,gQ y,R0 j];rw[VF];rfl
   .have y:¬ 0<k:=by have:=Te h;omega
    refine az (az (az (az ?_)));rw[bX];refine⟨o,some (.val (.str ef)),some (.val (.int k)),.val,.val,?_⟩;simp only[bx,R0 y];rfl
 .subst g;simp at f;subst f;obtain⟨A,B,C⟩:=tu p eG;have e:bh p=cI (p.foldl bx eG):=rfl;rw[e];generalize p.foldl bx eG=d at *
  simp[eG]at A B C;have P:=dU d.2.1 d.2.2.1 d.2.2.2;have G:=λfr=>gX (fr:=fr) (g9 (w:=w) (n:=n) hs d.2.1 d.2.2.1 d.2.2.2);have ex:=λfr=>ext d fr (by omega);have N:toT (.lst ((cI d).map Pt.v))=some (bK (cI d)):=by rw[ED];exact lP (bw (by simp[cI];omega))
  refine ai (fE (by (repeat (first|array_get_dec|exact G _|exact ex _))) ?_);exact ai (cF (xg (au rfl) N) ⟨rfl,rfl⟩)
def lv(o:Option Sl)(l:List V):Prop:=o=some (.own l)\/o=some (.val (.lst l))
section
variable{o:Option Sl}{l:List V}{fr:Fr}{i:Nat}{s:Sl}
theorem lv.own:lv (some (.own l)) l:=.inl rfl
theorem lv.val:lv (some (.val (.lst l))) l:=.inr rfl
def JB(h:lv o l):zw true (some o)=some (.lst l):=by rcases h with rfl|rfl<;>simp
def JD(h:lv o l):vp fr i s (some o)=some (fr.set i (some s)):=by rcases h with rfl|rfl<;>simp
def pR(h:lv o l):o.map Sl.cL=some (.val (.lst l)):=by rcases h with rfl|rfl<;>simp
end
def nG{P:aH}{fr:Fr}{i:Nat}{k:Bool}{o:Option Sl}{l:List V}(hk:k=true)(e:fr[i]?=some o)(h:lv o l):ev P k (.v i) fr=.ok (.lst l) fr:=by
 subst hk;exact au (by rw[EN,e,JB h])
def lX{fr:Fr}{i:Nat}{s:Sl}{o:Option Sl}{l:List V}(e:fr[i]?=some o)(h:lv o l):put fr i s=some (fr.set i (some s)):=by rw[zx,e,JD h]
inductive Tq where
 |at (i:Nat)|sg (c:Nat)
deriving DecidableEq
noncomputable def Tq.v:Tq->V
 |.at i=>.int i
 |.sg c=>.str [c]
def JF(n:Nat)(a b:Tq):cJ (n+1) a.v b.v=some (decide (a=b)):=by
 cases a<;>cases b<;>simp[Tq.v]
 all_goals omega
noncomputable def Pt.asks:Pt->List (List Nat)
 |.keep n=>List.replicate n []
 |.drop s=>s.map λc=>[c]
 |.put _=>[]
noncomputable def asks(c:List Pt):List (List Nat):=c.flatMap Pt.asks
noncomputable def Pt.told(k:Nat):Pt->List Tq
 |.keep n=>(List.range n).map λj=>.at (k+j)
 |.drop _=>[]
 |.put s=>s.map .sg
noncomputable def told(k:Nat):List Pt->List Tq
 |[]=>[]
 |p :: c=>p.told k++told (k+p.asks.length) c
def fy(a b:List Pt):asks (a++b)=asks a++asks b:=by simp[asks]
def fz(a b:List Pt):∀k,told k (a++b)=told k a++told (k+(asks a).length) b:=by
 induction a with
 |nil=>intro k;simp[told,asks]
 |cons p a c=>
  intro k;simp only[Sg,told,c,Sv]
  congr 3
  simp[asks];omega
def BC(p:Pt):p.asks.length<=p.n:=by cases p<;>simp[Pt.asks,Pt.n]
def BD(k:Nat)(p:Pt):(p.told k).length<=p.n:=by cases p<;>simp[Pt.told,Pt.n]
def EX(c:List Pt):(asks c).length<=tot c:=by
 induction c with
 |nil=>simp[asks]
 |cons p c a=>have:=BC p;simp only[asks,List.flatMap_cons,R1,cQ]at *;omega
def EY(c:List Pt):∀k,(told k c).length<=tot c:=by
 induction c with
 |nil=>intro k;simp[told]
 |cons p c a=>intro k;have:=BD k p;have:=a (k+p.asks.length);simp only[told,R1,cQ];omega
noncomputable def bN(c:List Pt):List V:=(asks c).map V.str
noncomputable def cB(c:List Pt):List V:=(told 0 c).map Tq.v
noncomputable def xq(c:List Pt):List (List Nat)×List Tq:=(asks c,told 0 c)
noncomputable def pS(c:List Pt):V:=.tup [.lst (bN c),.lst (cB c)]
def EZ(a b:List Pt):cJ deep (pS a) (pS b)=some (decide (xq a=xq b)):=by
 have c:=pN (f:=cJ (17+1)) (g:=V.str) (λa b=>zu) (asks a) (asks b);have d:=pN (f:=cJ (17+1)) (g:=Tq.v) (λa b=>JF 17 a b) (told 0 a) (told 0 b);simp[pS,xq,bN,cB,c,d]
def CN{i j:Int}{n:Nat}(h0:0<=i)(h1:i<=50000)(h2:n<=50000)(e:j=i+n):dB [.int i,.int j]=some (range i n):=by
 rw[Oz (by omega) (by omega) (by omega) (by omega)]
 congr 2
 omega
def pT{α:Type}(n:Nat)(a:α):rep n [a]=List.replicate n a:=by
 induction n with
 |zero=>rfl
 |succ n b=>simp only[rep,RU,S6]at b ⊢;rw[b];rfl
def zC{F:List Fn}{w n i:Nat}(hs:F[i]?=some EV)(c:List Pt)(h1:tot c<=1000):run F w (n+1) i [.val (bK c)]=some (pS c,[]):=by
 refine cj hs rfl ?_;refine ai (gy (l:=[]) (by repeat array_get_dec) rfl rfl ?_);refine ai (gy (l:=[]) (by repeat array_get_dec) rfl rfl ?_);refine ai (iT (vs:=c.map Pt.v) (cV (dg rfl) rfl) ?_);refine eU (e:=Pt.v) (λp l I=>p++l=c/\∃o q a b,lv o (bN p)/\lv q (cB p)/\vo a/\vo b/\I=[some (.val (bK c)),o,q,a,b]) (λp x l I ⟨f,o,q,a,b,g,d,z,A,r⟩=>?_) (λp I ⟨f,o,q,a,b,g,d,z,A,r⟩=>?_) c [] _ ⟨rfl,_,_,none,none,.own,.own,.none,.none,rfl⟩
 .subst r;have J:(p++[x])++l=c:=by simpa using f
  have K:tot p+x.n+tot l=tot c:=by rw[<-f,mL,cQ];omega
  have X:(bN p).length<=tot p:=by rw[bN,Se];exact EX p
  have Y:(cB p).length<=tot p:=by rw[cB,Se];exact EY p 0
  have L:bN (p++[x])=bN p++x.asks.map V.str:=by simp[bN,asks]
  have M:cB (p++[x])=cB p++(x.told (bN p).length).map Tq.v:=by simp[cB,fz,told,bN]
  cases x with
  |drop s=>
   have hs:s.length<=1000:=by simp only[Pt.n]at K;omega
   have B:=eO (x:=bN p) (y:=s.map λc=>V.str [c]) (by simp;omega);have C:bN (p++[.drop s])=bN p++s.map λc=>V.str [c]:=by rw[L];simp[Pt.asks]
   have G:cB (p++[.drop s])=cB p:=by rw[M];simp[Pt.told]
   have H:=b6 (x:=s.map λc=>V.str [c]) (bw (by simp;omega));refine cK (fP rfl z rfl A) (ai (aU (by repeat array_get_dec) (λh=>absurd h (by decide)) λ_=>?_));refine ai (aU (by repeat array_get_dec) (λ_=>?_) λh=>absurd h (by decide));refine ai (aK (aG (nG rfl rfl g) (iS (cV (dg rfl) rfl) H) B) rfl (lX rfl g) (az (az (az ?_))));rw[bX,C,G];exact⟨J,_,q,_,_,.val,d,.val,.val,rfl⟩
  |put s=>
   have hs:s.length<=1000:=by simp only[Pt.n]at K;omega
   have B:=eO (x:=cB p) (y:=s.map λc=>V.str [c]) (by simp;omega);have C:cB (p++[.put s])=cB p++s.map λc=>V.str [c]:=by rw[M];simp[Pt.told,Tq.v]
   have G:bN (p++[.put s])=bN p:=by rw[L];simp[Pt.asks]
   have H:=b6 (x:=s.map λc=>V.str [c]) (bw (by simp;omega));refine cK (fP rfl z rfl A) (ai (aU (by repeat array_get_dec) (λh=>absurd h (by decide)) λ_=>?_));refine ai (aU (by repeat array_get_dec) (λh=>absurd h (by decide)) λ_=>?_);refine ai (aK (aG (nG rfl rfl d) (iS (cV (dg rfl) rfl) H) B) rfl (lX rfl d) (az (az (az ?_))));rw[bX,C,G];exact⟨J,o,_,_,_,g,.val,.val,.val,rfl⟩
  |keep k=>
   have hs:k<=1000:=by simp only[Pt.n]at K;omega
   have P:=CN (i:=((bN p).length:Int)) (j:=((bN p).length:Int)+k) (n:=k) (by omega) (by omega) (by omega) rfl;have H:=b6 (x:=range ((bN p).length:Int) k) (bw (by simp[range];omega));have B:=eO (x:=cB p) (y:=range ((bN p).length:Int) k) (by simp[range];omega);have Q:=nE (x:=[V.str []]) (j:=(k:Int)) (by omega) (by omega) (by simp) (by simp[rep];omega);have Qt:=eO (x:=bN p) (y:=rep (k:Int).toNat [V.str []]) (by simp[rep];omega);have C:cB (p++[.keep k])=cB p++range ((bN p).length:Int) k:=by rw[M];simp[Pt.told,Tq.v,range]
   have G:bN (p++[.keep k])=bN p++rep (k:Int).toNat [V.str []]:=by rw[L,pT];simp[Pt.asks]
   refine cK (fP rfl z rfl A) (ai (aU (by repeat array_get_dec) (λ_=>?_) λh=>absurd h (by decide)));have N:bZ .len [.lst (bN p)]=some (.int ((bN p).length:Nat)):=EB;refine ai (aK (aG (nG rfl rfl d) (iS (lS (vs:=[.int ((bN p).length:Nat),.int (((bN p).length:Nat)+(k:Int))]) (av (bY (av (nG rfl rfl g) aF) N) (av (aG (bY (av (nG rfl rfl g) aF) N) (au rfl) bL) aF)) P) H) B) rfl (lX rfl d) ?_);refine ai (aK (aG (nG rfl rfl g) (aG (gY (av (aP rfl) aF) kD) (au rfl) Q) Qt) rfl (lX rfl g) (az (az ?_)));rw[bX,C,G];exact⟨J,_,_,_,_,.val,.val,.val,.val,rfl⟩
 .subst r;simp at f;subst f;have W:eL [some (.val (bK p)),o,q,a,b]=[some (.val (bK p)),some (.val (.lst (bN p))),some (.val (.lst (cB p))),a,b]:=by
   show _ :: o.map Sl.cL :: q.map Sl.cL :: a.map Sl.cL :: [b.map Sl.cL]=_;rw[pR g,pR d,dc z,dc A];rfl
  refine ai (cF (v:=pS p) (af:=[some (.val (bK p)),some (.val (.lst (bN p))),some (.val (.lst (cB p))),a,b]) ?_ ⟨rfl,rfl⟩);rw[W];exact jA (av (au rfl) (av (au rfl) aF)) jy
noncomputable def Pt.word:Pt->List Nat
 |.keep _=>ef
 |.put _=>jJ
 |.drop _=>iU
noncomputable def mQ(a b:List Nat):Bool:=!(decide (a=b) || (decide (a=jJ)&&decide (b=iU)))
noncomputable def jn:List (List Nat)->Bool
 |a :: b :: r=>mQ a b&&jn (b :: r)
 |_=>true
noncomputable def CO(p:Pt):Bool:=p.n != 0
noncomputable def j7(c:List Pt):Bool:=jn (c.map Pt.word)&&c.all CO
def L7{α:Type}(l:List α):cut l (some 1) none=l.tail:=by
 unfold cut aI;cases l with
 |nil=>rfl
 |cons a l=>
  have:min (1:Int).toNat (a :: l).length=1:=by simp
  simp[this]
def eH(k:Nat)(g x:List Nat):asks (bf k g x)=List.replicate k []++g.map λc=>[c]:=by
  unfold bf;by_cases a:0<k<;>by_cases b:g=[]<;>by_cases d:x=[]<;>simp[a,b,d,asks,Pt.asks]
  all_goals (have:k=0:=by omega
             subst this;simp)
def gD(k:Nat)(g x:List Nat)(j:Nat):told j (bf k g x)=(List.range k).map (λi=>Tq.at (j+i))++x.map Tq.sg:=by
  unfold bf;by_cases a:0<k<;>by_cases b:g=[]<;>by_cases c:x=[]<;>simp[a,b,c,told,Pt.told,Pt.asks]
  all_goals (have:k=0:=by omega
             subst this;simp)
def xr(st:FS)(p:Pt):asks (cI (bx st p))=asks (cI st++[p])/\∀j,told j (cI (bx st p))=told j (cI st++[p]):=by
 obtain⟨d,k,g,x⟩:=st;have c:∀a:List Pt,asks (a++[p])=asks a++p.asks:=λa=>by simp[asks]
 have b:∀(a:List Pt) j,told j (a++[p])=told j a++p.told (j+(asks a).length):=λa j=>by simp[fz,told]
 rw[c];cases p with
 |drop s=>
  refine⟨by simp[bx,cI,fy,eH,Pt.asks],λj=>?_⟩;rw[b];simp[bx,cI,fz,gD,Pt.told]
 |put s=>
  refine⟨by simp[bx,cI,fy,eH,Pt.asks],λj=>?_⟩;rw[b];simp[bx,cI,fz,gD,Pt.told]
 |keep m=>
  simp only[bx];split
  .split
   .rename_i h;obtain⟨rfl,rfl⟩:=h;refine⟨by simp[cI,fy,eH,Pt.asks],λj=>?_⟩;rw[b];simp[cI,fy,fz,gD,eH,Pt.told,List.range_add,T9]
   .refine⟨by simp[cI,fy,eH,Pt.asks],λj=>?_⟩;rw[b];simp[cI,fy,fz,gD,eH,Pt.told,T9]
  .rename_i h;have:m=0:=by omega
   subst this;refine⟨by simp[Pt.asks],λj=>?_⟩;rw[b];simp[Pt.told]
def oJ(c:List Pt):∀st:FS,asks (cI (c.foldl bx st))=asks (cI st++c)/\∀j,told j (cI (c.foldl bx st))=told j (cI st++c):=by
 induction c with
 |nil=>intro st;simp
 |cons p c b=>
  intro st;obtain⟨d,f⟩:=b (bx st p);obtain⟨a,g⟩:=xr st p;simp only[SA];have e:cI st++p :: c=(cI st++[p])++c:=by simp
  refine⟨?_,λj=>?_⟩
  .rw[d,e,fy,fy _ c,a]
  .rw[f j,e,fz,fz _ c,g j,a]
def lY(c:List Pt):asks (bh c)=asks c:=by
 have:=(oJ c eG).1;simpa[bh,eG,cI,bf]using this
def jB(c:List Pt)(j:Nat):told j (bh c)=told j c:=by
 have:=(oJ c eG).2 j;simpa[bh,eG,cI,bf]using this
noncomputable def kps(c:List Pt):Nat:=tot (c.filter eF)
def tB(c:List Pt):(asks c).length=aW c:=by
 induction c with
 |nil=>rfl
 |cons p c a=>cases p<;>simp[asks,aW,tot,mP,Pt.asks,Pt.n]at a ⊢<;>omega
def tD(c:List Pt):∀j,(told j c).length=gA c:=by
 induction c with
 |nil=>intro j;rfl
 |cons p c a=>intro j;cases p<;>simp[told,gA,tot,fq,Pt.told,Pt.n,a]at a ⊢
def kH(n:Nat)(c:List Pt):aW (.keep n :: c)=n+aW c:=by simp[aW,tot,mP,Pt.n]
def mR(s:List Nat)(c:List Pt):aW (.drop s :: c)=s.length+aW c:=by simp[aW,tot,mP,Pt.n]
def kI(s:List Nat)(c:List Pt):aW (.put s :: c)=aW c:=by simp[aW,tot,mP,Pt.n]
def xu(n:Nat)(c:List Pt):gA (.keep n :: c)=n+gA c:=by simp[gA,tot,fq,Pt.n]
def xw(s:List Nat)(c:List Pt):gA (.drop s :: c)=gA c:=by simp[gA,tot,fq,Pt.n]
def xx(s:List Nat)(c:List Pt):gA (.put s :: c)=s.length+gA c:=by simp[gA,tot,fq,Pt.n]
def CP(n:Nat)(c:List Pt):cst (.keep n :: c)=cst c:=by simp[cst,tot,eF,Pt.n]
def CQ(s:List Nat)(c:List Pt):cst (.drop s :: c)=s.length+cst c:=by simp[cst,tot,eF,Pt.n]
def CS(s:List Nat)(c:List Pt):cst (.put s :: c)=s.length+cst c:=by simp[cst,tot,eF,Pt.n]
def CT(n:Nat)(c:List Pt):kps (.keep n :: c)=n+kps c:=by simp[kps,tot,T8,eF,Pt.n]
def CU(s:List Nat)(c:List Pt):kps (.drop s :: c)=kps c:=by simp[kps,tot,eF,Pt.n]
def CV(s:List Nat)(c:List Pt):kps (.put s :: c)=kps c:=by simp[kps,tot,eF,Pt.n]
noncomputable def isAt:Tq->Bool
 |.at _=>true
 |_=>false
def zE(c:List Pt):∀j,((told j c).filter isAt).length=kps c:=by
 induction c with
 |nil=>intro j;rfl
 |cons p c b=>
  intro j;have e:∀(m:Nat) (f:Nat->Nat),(((List.range m).map λi=>Tq.at (f i)).filter isAt).length=m:=λm f=>by
   rw[List.filter_eq_self.mpr]
   .simp
   .intro a d;obtain⟨i,_,rfl⟩:=List.mem_map.mp d;rfl
  have g:∀s:List Nat,((s.map Tq.sg).filter isAt).length=0:=λs=>by
   rw[List.filter_eq_nil_iff.mpr]
   .rfl
   .intro a d;obtain⟨i,_,rfl⟩:=List.mem_map.mp d;simp[isAt]
  cases p with
  |keep m=>simp only[told,Pt.told,UK,R1,e,b,kps,tot,eF,T8,Sf,gV,List.sum_cons,Pt.n]
  |put s=>simp only[told,Pt.told,UK,R1,g,b,kps,eF,T8];simp
  |drop s=>simp only[told,Pt.told,UK,R1,b,kps,eF,T8];simp
def zF(c:List Pt):(cst c:Int)=aW c - kps c+gA c - kps c:=by
 induction c with
 |nil=>rfl
 |cons p c a=>cases p<;>simp only[CP,CQ,CS,kH,mR,kI,xu,xw,xx,CT,CU,CV]<;>omega
def zG(c:List Pt):tot c+kps c=aW c+gA c:=by
 induction c with
 |nil=>rfl
 |cons p c a=>cases p<;>simp only[cQ,Pt.n,kH,mR,kI,xu,xw,xx,CT,CU,CV]<;>omega
def tE(c:List Pt):aW (bh c)=aW c:=by rw[<-tB,<-tB,lY]
def tF(c:List Pt):gA (bh c)=gA c:=by rw[<-tD _ 0,<-tD _ 0,jB]
def tG(c:List Pt):kps (bh c)=kps c:=by rw[<-zE _ 0,<-zE _ 0,jB]
def BE(c:List Pt):cst (bh c)=cst c:=by
 have a:=zF (bh c);have b:=zF c;rw[tE,tF,tG]at a;omega
def BF(c:List Pt):tot (bh c)=tot c:=by
 have a:=zG (bh c);have b:=zG c;rw[tE,tF,tG]at a;omega
theorem vv:∀(a:List (List Nat)) (b:List (List Nat)),jn (a++b)=true↔jn a=true/\jn b=true/\∀x∈a.getLast?,∀y∈b.head?,mQ x y=true
 |[],b=>by simp[jn]
 |[x],[]=>by simp[jn]
 |[x],y :: b=>by simp[jn,and_comm]
 |x :: y :: a,b=>by
  have:=vv (y :: a) b;simp only[Sg]at this ⊢;simp only[jn,iY,this,List.getLast?_cons_cons];constructor
  .rintro⟨h1,h2,h3,h4⟩;exact⟨⟨h1,h2⟩,h3,h4⟩
  .rintro⟨⟨h1,h2⟩,h3,h4⟩;exact⟨h1,h2,h3,h4⟩
def uq(k:Nat)(g x:List Nat):j7 (bf k g x)=true:=by
 unfold bf;by_cases a:0<k<;>by_cases b:g=[]<;>by_cases c:x=[]<;>simp[a,b,c,j7,CO,jn,mQ,Pt.word,Pt.n,ef,jJ,iU]
 all_goals omega
def tH(st:FS):Prop:=j7 st.1=true/\(st.1≠[]->0<st.2.1)/\∀p∈st.1.getLast?,p.word≠ef
def E1{a b:List Pt}(ha:j7 a=true)(hb:j7 b=true)(h:∀p∈a.getLast?,∀q∈b.head?,mQ p.word q.word=true):j7 (a++b)=true:=by
 simp only[j7,iY]at ha hb ⊢;refine⟨?_,by rw[List.all_append,ha.2,hb.2];rfl⟩;rw[Sd,vv];refine⟨ha.1,hb.1,λx c y d=>?_⟩;simp at c d;obtain⟨p,e,rfl⟩:=c;obtain⟨q,f,rfl⟩:=d;exact h p e q f
def tK{k:Nat}{g x:List Nat}(hk:0<k):(bf k g x).head?=some (.keep k):=by simp[bf,hk]
def E2{w:List Nat}(h:w≠ef)(hw:w=jJ\/w=iU):mQ w ef=true:=by
 rcases hw with rfl|rfl<;>decide
def E3(p:Pt):p.word=ef\/p.word=jJ\/p.word=iU:=by cases p<;>simp[Pt.word]
def tL{st:FS}(h:tH st):j7 (cI st)=true:=by
 refine E1 h.1 (uq _ _ _) λp a q b=>?_;have c:st.1≠[]:=by intro z;rw[z]at a;simp at a
 rw[tK (h.2.1 c)]at b;simp at b;subst b;have d:=h.2.2 p a;exact E2 d ((E3 p).resolve_left d)
def tM{k:Nat}{g x:List Nat}(h:¬ (g=[]/\x=[])):∀p∈(bf k g x).getLast?,p.word≠ef:=by
 unfold bf;by_cases b:x=[]
 .have c:g≠[]:=λz=>h ⟨z,b⟩;intro p a;simp[c,b]at a;subst a;simp[Pt.word,iU,ef]
 .intro p a;simp[b]at a;subst a;simp[Pt.word,jJ,ef]
def zH{st:FS}(h:tH st)(p:Pt):tH (bx st p):=by
 cases p with
 |drop s=>exact h
 |put s=>exact h
 |keep k=>
  simp only[bx];split
  .rename_i b;split
   .exact⟨h.1,λz=>by simp;omega,h.2.2⟩
   .rename_i M6;refine⟨tL h,λ_=>b,λp a=>?_⟩;rw[List.getLast?_append]at a;cases z:(bf st.2.1 st.2.2.1 st.2.2.2).getLast? with
    |none=>
     exfalso;rw[List.getLast?_eq_none_iff]at z;unfold bf at z;by_cases c:st.2.2.2=[]<;>by_cases d:st.2.2.1=[]<;>simp[c,d]at z M6
    |some q=>
     rw[z]at a;simp at a;subst a;exact tM M6 q z
  .exact h
def nH(c:List Pt):j7 (bh c)=true:=by
 have:∀(c:List Pt) (a:FS),tH a->tH (c.foldl bx a):=λc=>by
  induction c with
  |nil=>exact λa h=>h
  |cons p c b=>exact λa h=>b _ (zH h p)
 exact tL (this c eG ⟨rfl,λz=>absurd rfl z,λp d=>by simp[eG]at d⟩)
abbrev Bl:=List Nat×List Nat
noncomputable def JH(st:List Pt×Nat)(b:Bl):List Pt×Nat:=if b.1=[]/\b.2=[]then (st.1,st.2+1)else (st.1++bf st.2 b.1 b.2,1)
noncomputable def pk(bs:List Bl):List Pt×Nat:=bs.foldl JH ([],0)
noncomputable def Pt.sw:Pt->Pt
 |.keep n=>.keep n
 |.put s=>.drop s
 |.drop s=>.put s
noncomputable def sw(c:List Pt):List Pt:=c.map Pt.sw
def JJ(c:List Pt):aW (sw c)=gA c:=by
 induction c with
 |nil=>rfl
 |cons p c a=>cases p<;>simp only[sw,gV,Pt.sw,kH,mR,kI,xu,xw,xx]at a ⊢<;>omega
noncomputable def bC:List Pt->List Nat->Bool
 |[],t=>t.isEmpty
 |.keep n :: c,t=>decide (n<=t.length)&&bC c (t.drop n)
 |.drop s :: c,t=>s.isPrefixOf t&&bC c (t.drop s.length)
 |.put _ :: c,t=>bC c t
noncomputable def bg:List Pt->List Nat->List Nat
 |[],_=>[]
 |.keep n :: c,t=>t.take n++bg c (t.drop n)
 |.drop s :: c,t=>bg c (t.drop s.length)
 |.put s :: c,t=>s++bg c t
noncomputable def gO:List (List Nat)->List Nat->Bool
 |[],[]=>true
 |x :: a,c :: t=>(decide (x=[]) ||decide (x=[c]))&&gO a t
 |_,_=>false
def zI(n:Nat)(a:List (List Nat)):∀t,gO (List.replicate n []++a) t=(decide (n<=t.length)&&gO a (t.drop n)):=by
 induction n with
 |zero=>intro t;simp
 |succ n b=>
  intro t;cases t with
  |nil=>simp[RU,gO]
  |cons c t=>simp[RU,gO,b]
def zJ(s:List Nat)(a:List (List Nat)):∀t,gO ((s.map λc=>[c])++a) t=(s.isPrefixOf t&&gO a (t.drop s.length)):=by
 induction s with
 |nil=>intro t;simp
 |cons c s b=>
  intro t;cases t with
  |nil=>simp[gO]
  |cons d t=>
   simp only[gV,Sg,gO,b,List.isPrefixOf,R3,TH];by_cases h:c=d<;>simp[h]
def tN(c:List Pt):∀t,bC c t=gO (asks c) t:=by
 induction c with
 |nil=>intro t;cases t<;>rfl
 |cons p c a=>
  intro t;have e:asks (p :: c)=p.asks++asks c:=by simp[asks]
  rw[e];cases p with
  |keep n=>simp[bC,Pt.asks,zI,a]
  |drop s=>simp[bC,Pt.asks,zJ,a]
  |put s=>simp[bC,Pt.asks,a]
def BG(c:List Pt)(t:List Nat):bC (bh c) t=bC c t:=by rw[tN,tN,lY]
noncomputable def pick(t:List Nat):Tq->List Nat
 |.at i=>(t[i]?).toList
 |.sg c=>[c]
def zK(c:List Pt):∀(t:List Nat) (k:Nat),bg c (t.drop k)=(told k c).flatMap (pick t):=by
 induction c with
 |nil=>intro t k;rfl
 |cons p c a=>
  intro t k;rw[told,VB,<-a];cases p with
  |put s=>
   simp only[bg,Pt.told,Pt.asks,TU,Nat.add_zero]
   congr 1
   induction s with
   |nil=>rfl
   |cons c s a=>simp[pick]at a ⊢;exact a
  |drop s=>simp[bg,Pt.told,Pt.asks,Tw]
  |keep n=>
   simp only[bg,Pt.told,Pt.asks,Uy,T5]
   congr 1
   induction n generalizing k with
   |zero=>simp
   |succ n b=>
    rw[Ub,Sd,VB,<-b];rw[VH];simp[pick]
def zL(c:List Pt)(t:List Nat):bg (bh c) t=bg c t:=by
 have a:=zK (bh c) t 0;have b:=zK c t 0;rw[jB,<-b]at a;simpa using a
def BH(c:List Pt):∀t,bC c t=true->bC (sw c) (bg c t)=true/\bg (sw c) (bg c t)=t:=by
 induction c with
 |nil=>intro t h;simp[bC]at h;subst h;simp[sw,bC,bg]
 |cons p c d=>
  intro t h;cases p with
  |keep n=>
   simp only[bC,iY,S5]at h;obtain⟨a,b⟩:=d _ h.2;have g:(t.take n).length=n:=by simp;omega
   simp only[sw,gV,Pt.sw,bg,bC]at a b ⊢;have e:(t.take n++bg c (t.drop n)).drop n=bg c (t.drop n):=by rw[List.drop_append_of_le_length (by omega),SS (by omega)];rfl
   have f:(t.take n++bg c (t.drop n)).take n=t.take n:=by rw[List.take_append_of_le_length (by omega),List.take_take,Nat.min_self]
   rw[e,f,a,b];simp;omega
  |drop s=>
   simp only[bC,iY]at h;obtain⟨a,b⟩:=d _ h.2;simp only[sw,gV,Pt.sw,bg,bC]at a b ⊢;rw[b];refine⟨a,?_⟩;obtain⟨r,rfl⟩:=List.isPrefixOf_iff_prefix.mp h.1;simp
  |put s=>
   simp only[bC]at h;obtain⟨a,b⟩:=d _ h;simp only[sw,gV,Pt.sw,bg,bC]at a b ⊢;simp[a,b]
noncomputable def zM(eE:Nat):Fn:=⟨2,4,(.cons (.set 2 (.c (.int 0))) (.cons (.for (.one 3) (.seq (.v 0)) (.cons (.iff (.an (.cmp .eq (.ix (.v 3) (.c (.int 0))) (.c (.str [100,114,111,112]))) (.cmp .ne (.sl (.v 1) (.yes (.v 2)) (.yes (.bin .add (.v 2) (.cl eE (.cons (.v 3) .nil))))) (.ix (.v 3) (.c (.int 1))))) (.cons (.ret (.c (.bl false))) .nil) .nil) (.cons (.iff (.cmp .ne (.ix (.v 3) (.c (.int 0))) (.c (.str [112,117,116]))) (.cons (.set 2 (.bin .add (.v 2) (.cl eE (.cons (.v 3) .nil)))) .nil) .nil) .nil))) (.cons (.ret (.cmp .eq (.v 2) (.bi .len (.cons (.v 1) .nil)))) .nil)))⟩
noncomputable def JK(JL:Nat):Fn:=⟨2,6,(.cons (.iff (.nt (.cl JL (.cons (.v 0) (.cons (.v 1) .nil)))) (.cons (.fJ 0) .nil) .nil) (.cons (.set 2 (.lst .nil)) (.cons (.set 3 (.c (.int 0))) (.cons (.for (.many [4,5]) (.seq (.v 0)) (.cons (.iff (.cmp .eq (.v 4) (.c (.str [112,117,116]))) (.cons (.exp (.me .append (.v 2) (.cons (.v 5) .nil))) .nil) (.cons (.iff (.cmp .eq (.v 4) (.c (.str [100,114,111,112]))) (.cons (.set 3 (.bin .add (.v 3) (.bi .len (.cons (.v 5) .nil)))) .nil) (.cons (.exp (.me .append (.v 2) (.cons (.sl (.v 1) (.yes (.v 3)) (.yes (.bin .add (.v 3) (.v 5)))) .nil))) (.cons (.set 3 (.bin .add (.v 3) (.v 5))) .nil))) .nil)) .nil)) (.cons (.ret (.me .join (.c (.str [])) (.cons (.v 2) .nil))) .nil)))))⟩
def zN{α:Type}(l:List α)(p k:Nat):cut l (some (p:Int)) (some ((p:Int)+k))=(l.drop p).take k:=by
 have a:¬ (p:Int)<0:=by omega
 have b:¬ (p:Int)+k<0:=by omega
 have c:((p:Int)+k).toNat=p+k:=by omega
 simp only[cut,aI,a,b,SK,c,T3];by_cases d:p<=l.length
 .rw[Uz d];by_cases e:p+k<=l.length
  .rw[Uz e];congr 1;omega
  .rw[U1 (by omega),SE (by simp),SE (by simp;omega)]
 .have f:min p l.length=l.length:=by omega
  rw[f,SS (oM _),SS (by omega)];simp
def pre_take{s t:List Nat}:s.isPrefixOf t=decide (t.take s.length=s):=by
 cases h:s.isPrefixOf t with
 |true=>
  obtain⟨r,rfl⟩:=List.isPrefixOf_iff_prefix.mp h;simp
 |false=>
  symm
  rw[U7];intro e;have:s.isPrefixOf t=true:=List.isPrefixOf_iff_prefix.mpr (by have z:=List.take_prefix s.length t;rw[e]at z;exact z);rw[h]at this;cases this
def vz(a b:List Pt):aW (a++b)=aW a+aW b:=by simp[aW,tot]
def vA{c:List Pt}:∀{t:List Nat},bC c t=true->t.length=aW c:=by
 induction c with
 |nil=>intro t h;simp[bC]at h;subst h;rfl
 |cons p c a=>
  intro t h;cases p with
  |keep n=>simp only[bC,iY,S5]at h;have:=a h.2;rw[kH];simp at this;omega
  |drop s=>
   simp only[bC,iY]at h;have b:=a h.2;obtain⟨r,rfl⟩:=List.isPrefixOf_iff_prefix.mp h.1;rw[mR];simp at b ⊢;omega
  |put s=>rw[kI];exact a h
def BJ(c:List Pt):∀t,(bg c t).length<=t.length+tot c:=by
 induction c with
 |nil=>intro t;simp[bg]
 |cons p c a=>
  intro t;rw[cQ];cases p with
  |keep n=>have:=a (t.drop n);simp[bg,Pt.n]at this ⊢;omega
  |drop s=>have:=a (t.drop s.length);simp[bg,Pt.n]at this ⊢;omega
  |put s=>have:=a t;simp[bg,Pt.n]at this ⊢;omega
section
variable{F:List Fn}{w n bq tO i:Nat}
def BK(c:List Pt)(t:List Nat)(q:Nat)(p:Pt)(l:List Pt)(h:bC c t=(decide (q<=t.length)&&bC (p :: l) (t.drop q))) :
  (fq p=true->(∃s,p=.drop s/\(if (t.drop q).take s.length=s then bC c t=(decide (q+s.length<=t.length)&&bC l (t.drop (q+s.length)))else bC c t=false)))/\
  (fq p=false->bC c t=(decide (q+aW [p]<=t.length)&&bC l (t.drop (q+aW [p])))):=by
 cases p with
 |drop s=>
  refine⟨λ_=>⟨s,rfl,?_⟩,λz=>by simp[fq]at z⟩;simp only[bC,pre_take,T5]at h;split
  .rename_i d;rw[h];simp only[d,decide_true,Bool.true_and];have f:=R8 List.length d;simp at f;by_cases b:q<=t.length
   .by_cases a:q+s.length<=t.length
    .simp[b,a]
    .omega
   .have:¬ q+s.length<=t.length:=by omega
    simp[b,this]
  .rename_i d;rw[h];simp[d]
 |keep k=>
  refine⟨λz=>by simp[fq]at z,λ_=>?_⟩;have e:aW [.keep k]=k:=by rw[kH];rfl
  rw[h,e];simp only[bC,T5,Tz];by_cases b:q<=t.length
  .by_cases a:q+k<=t.length
   .have:k<=t.length - q:=by omega
    simp[b,a,this]
   .have:¬ k<=t.length - q:=by omega
    simp[a,this]
  .have:¬ q+k<=t.length:=by omega
   simp[b,this]
 |put s=>
  refine⟨λz=>by simp[fq]at z,λ_=>?_⟩;have e:aW [.put s]=0:=by rw[kI];rfl
  rw[h,e];simp[bC]
def tP(hs:F[bq]?=some fN)(hf:F[i]?=some (zM bq))(c:List Pt)(t:List Nat)(h1:tot c<=10000)(h2:t.length<=10000):run F w (n+2) i [.val (bK c),.val (.str t)]=some (.bl (bC c t),[]):=by
 refine cj hf rfl ?_;refine ai (aK (by repeat array_get_dec) rfl rfl ?_);refine ai (iT (vs:=c.map Pt.v) (cV (dg rfl) rfl) ?_);refine eU (e:=Pt.v) (λp l fr=>p++l=c/\bC c t=(decide (aW p<=t.length)&&bC l (t.drop (aW p)))/\∃a,vo a/\fr=[some (.val (bK c)),some (.val (.str t)),some (.val (.int (aW p))),a]) (λp x l fr ⟨d,f,a,q,o⟩=>?_) (λp fr ⟨d,f,a,q,o⟩=>?_) c [] _ ⟨rfl,by simp[aW,tot],none,.none,rfl⟩
 .subst o;have J:tot p+x.n+tot l=tot c:=by rw[<-d,mL,cQ];omega
  have sz:=λfr=>gv (fr:=fr) (sZ (w:=w) (n:=n) hs x (by omega));obtain⟨r,g⟩:=BK c t (aW p) x l f;have C:(p++[x])++l=c:=by simpa using d
  have j:aW (p++[x])=aW p+aW [x]:=vz p [x];have A:((aW (p++[x]):Nat):Int)=(aW p:Int)+(aW [x]:Nat):=by rw[j];simp
  cases x with
  |drop s=>
   obtain⟨K,e,r⟩:=r rfl;cases e;have y:aW [.drop s]=s.length:=by rw[mR];rfl
   rw[y]at j A;have L:gk (.str t) (some (aW p:Int)) (some ((aW p:Int)+((Pt.drop s).n:Nat)))=some (.str ((t.drop (aW p)).take s.length)):=by rw[cZ];exact R8 (λz=>some (V.str z)) (zN t (aW p) s.length)
   by_cases B:(t.drop (aW p)).take s.length=s
   .rw[gQ B]at r;have G:cop .ne (.str ((t.drop (aW p)).take s.length)) (.str s)=some false:=by rw[gz,SW B];rfl
    refine cK (bind1 rfl q) (ai (aU (b:=false) (eB (b2:=false) (aR rfl (by repeat array_get_dec) rfl) (aR rfl (by (repeat (first|array_get_dec|exact sz _))) rfl)) (λh=>absurd h (by decide)) λ_=>az ?_));refine ai (aU (by repeat array_get_dec) (λ_=>?_) λh=>absurd h (by decide));refine ai (aK (by (repeat (first|array_get_dec|exact sz _))) rfl rfl (az (az ?_)));rw[bX];exact⟨C,by rw[j];exact r,some (.val (Pt.drop s).v),.val,by rw[A];rfl⟩
   .rw[R0 B]at r;have G:cop .ne (.str ((t.drop (aW p)).take s.length)) (.str s)=some true:=by rw[gz,R7 B];rfl
    refine cK (bind1 rfl q) (ai (aU (b:=true) (eB (b2:=true) (aR rfl (by repeat array_get_dec) rfl) (aR rfl (by (repeat (first|array_get_dec|exact sz _))) rfl)) (λ_=>?_) λh=>absurd h (by decide)));refine ai (cF (by repeat array_get_dec) ?_);show nx _ _ _ _ _ _;rw[r];exact⟨rfl,rfl⟩
  |keep k=>
   have g:=g rfl;have y:aW [.keep k]=k:=by rw[kH];rfl
   rw[y]at g j A;refine cK (bind1 rfl q) (ai (aU (b:=false) (jm (aR rfl (by repeat array_get_dec) rfl)) (λh=>absurd h (by decide)) λ_=>az ?_));refine ai (aU (by repeat array_get_dec) (λ_=>?_) λh=>absurd h (by decide));refine ai (aK (by (repeat (first|array_get_dec|exact sz _))) rfl rfl (az (az ?_)));rw[bX];exact⟨C,by rw[j];exact g,some (.val (Pt.keep k).v),.val,by rw[A];rfl⟩
  |put s=>
   have g:=g rfl;have y:aW [.put s]=0:=by rw[kI];rfl
   rw[y]at g j;refine cK (bind1 rfl q) (ai (aU (b:=false) (jm (aR rfl (by repeat array_get_dec) rfl)) (λh=>absurd h (by decide)) λ_=>az ?_));refine ai (aU (by repeat array_get_dec) (λh=>absurd h (by decide)) λ_=>az (az ?_));rw[bX];exact⟨C,by rw[j];exact g,some (.val (Pt.put s).v),.val,by rw[j];rfl⟩
 .subst o;simp at d;subst d;have e:decide ((aW p:Int)=(t.length:Nat))=bC p t:=by
   rw[f];simp only[bC];by_cases H:aW p=t.length
   .have:(aW p:Int)=t.length:=by omega
    simp[this,H]
   .have:¬ (aW p:Int)=t.length:=by omega
    simp[this];intro h;omega
  have M:bZ .len [.str t]=some (.int (t.length:Nat)):=Um (by omega);have N:cop .eq (.int (aW p)) (.int (t.length:Nat))=some (bC p t):=by rw[By,e]
  have I:eL [some (.val (bK p)),some (.val (.str t)),some (.val (.int (aW p))),a]=[some (.val (bK p)),some (.val (.str t)),some (.val (.int (aW p))),a]:=by
   show _ :: _ :: _ :: [a.map Sl.cL]=_;rw[dc q];rfl
  refine ai (cF (v:=.bl (bC p t)) (af:=[some (.val (bK p)),some (.val (.str t)),some (.val (.int (aW p))),a]) ?_ ⟨rfl,rfl⟩);rw[I];repeat array_get_dec
def BL(hs:F[bq]?=some fN)(hf:F[tO]?=some (zM bq))(hd:F[i]?=some (JK tO))(c:List Pt)(t:List Nat)(h1:tot c<=10000)(h2:t.length<=10000)(h3:c.length<=10000)(h:bC c t=true):run F w (n+3) i [.val (bK c),.val (.str t)]=some (.str (bg c t),[]):=by
 refine cj hd rfl ?_;have C:=λfr=>call2 (fr:=fr) (tP (w:=w) (n:=n) hs hf c t h1 h2);rw[h]at C;refine ai (aU (b:=false) (ri (aR (b:=true) rfl (by (repeat (first|array_get_dec|exact C _))) rfl)) (λh=>absurd h (by decide)) λ_=>az ?_);refine ai (gy (l:=[]) (by repeat array_get_dec) rfl rfl ?_);refine ai (aK (by repeat array_get_dec) rfl rfl ?_);refine ai (iT (vs:=c.map Pt.v) (cV (dg rfl) rfl) ?_);refine eU (e:=Pt.v) (λp l fr=>p++l=c/\∃d a b,vo a/\vo b/\d.length<=p.length/\d.flatten++bg l (t.drop (aW p))=bg c t/\fr=[some (.val (bK c)),some (.val (.str t)),some (.own (d.map V.str)),some (.val (.int (aW p))),a,b]) (λp x l fr ⟨f,d,a,b,o,q,I,hd,j⟩=>?_) (λp fr ⟨f,d,a,b,o,q,I,hd,j⟩=>?_) c [] _ ⟨rfl,[],none,none,.none,.none,by simp,by simp[aW,tot],rfl⟩
 .subst j;have B:(p++[x])++l=c:=by simpa using f
  have g:aW (p++[x])=aW p+aW [x]:=vz p [x];have A:((aW (p++[x]):Nat):Int)=(aW p:Int)+(aW [x]:Nat):=by rw[g];simp
  have J:tot p+x.n+tot l=tot c:=by rw[<-f,mL,cQ];omega
  have G:p.length+l.length+1=c.length:=by rw[<-f];simp;omega
  have H:∀(fr:Fr) (z:List Nat),nc .append 2 [.str z] fr (some (some (.own (d.map V.str))))=.ok .aY (fr.set 2 (some (.own ((d++[z]).map V.str)))):=λfr z=>by
   rw[Sd];exact gc (by simp;omega)
  cases x with
  |put s=>
   have r:aW [.put s]=0:=by rw[kI];rfl
   rw[r]at g;refine cK (fP rfl o rfl q) (ai (aU (by repeat array_get_dec) (λ_=>?_) λh=>absurd h (by decide)));refine ai (fE (by (repeat (first|array_get_dec|exact H _ _))) (az (az ?_)));rw[bX];exact⟨B,d++[s],some (.val (.str jJ)),some (.val (.str s)),.val,.val,by simp;omega,by rw[g];simpa[bg]using hd,by rw[g];rfl⟩
  |drop s=>
   have r:aW [.drop s]=s.length:=by rw[mR];rfl
   rw[r]at g A;have QZ:s.length<=tot c:=by simp only[Pt.n]at J;omega
   have M:bZ .len [.str s]=some (.int (s.length:Nat)):=Um (by omega);refine cK (fP rfl o rfl q) (ai (aU (by repeat array_get_dec) (λh=>absurd h (by decide)) λ_=>?_));refine ai (aU (by repeat array_get_dec) (λ_=>?_) λh=>absurd h (by decide));refine ai (aK (by repeat array_get_dec) rfl rfl (az (az (az ?_))));rw[bX];exact⟨B,d,some (.val (.str iU)),some (.val (.str s)),.val,.val,by simp;omega,by rw[g];simpa[bg]using hd,by rw[A];rfl⟩
  |keep k=>
   have r:aW [.keep k]=k:=by rw[kH];rfl
   rw[r]at g A;have N:gk (.str t) (some (aW p:Int)) (some ((aW p:Int)+(k:Nat)))=some (.str ((t.drop (aW p)).take k)):=by rw[cZ,zN]
   refine cK (fP rfl o rfl q) (ai (aU (by repeat array_get_dec) (λh=>absurd h (by decide)) λ_=>?_));refine ai (aU (by repeat array_get_dec) (λh=>absurd h (by decide)) λ_=>?_);refine ai (fE (by (repeat (first|array_get_dec|exact H _ _))) ?_);refine ai (aK (by repeat array_get_dec) rfl rfl (az (az (az ?_))));rw[bX];exact⟨B,d++[(t.drop (aW p)).take k],some (.val (.str ef)),some (.val (.int k)),.val,.val,by simp;omega,by rw[g];simpa[bg]using hd,by rw[A];rfl⟩
 .subst j;simp at f;subst f;have y:d.flatten=bg p t:=by simpa[bg]using hd
  have dl:=BJ p t;have K:=CK (l:=d) (by rw[y];omega);rw[y]at K;have L:eL [some (.val (bK p)),some (.val (.str t)),some (.own (d.map V.str)),some (.val (.int (aW p))),a,b]=[some (.val (bK p)),some (.val (.str t)),some (.val (.lst (d.map V.str))),some (.val (.int (aW p))),a,b]:=by
   show _ :: _ :: _ :: _ :: a.map Sl.cL :: [b.map Sl.cL]=_;rw[dc o,dc q];rfl
  refine ai (cF (v:=.str (bg p t)) (af:=[some (.val (bK p)),some (.val (.str t)),some (.val (.lst (d.map V.str))),some (.val (.int (aW p))),a,b]) ?_ ⟨rfl,rfl⟩);rw[L];repeat array_get_dec
end
end Pv
namespace Pv
open Ev (rep)
end Pv
namespace Pv
inductive At where
 |k|d (c:Nat)|p (c:Nat)
noncomputable def Pt.bU:Pt->List At
 |.keep n=>List.replicate n .k
 |.drop s=>s.map .d
 |.put s=>s.map .p
noncomputable def bU(c:List Pt):List At:=c.flatMap Pt.bU
def pU(a b:List Pt):bU (a++b)=bU a++bU b:=by simp[bU]
def gP(p:Pt)(c:List Pt):bU (p :: c)=p.bU++bU c:=by simp[bU]
def BN(p:Pt):p.bU.length=p.n:=by cases p<;>simp[Pt.bU,Pt.n]
def pV(c:List Pt):(bU c).length=tot c:=by
 induction c with
 |nil=>rfl
 |cons p c a=>rw[gP,R1,BN,a,cQ]
noncomputable def tA:Nat->List At->List Tq
 |_,[]=>[]
 |i,.k :: a=>.at i :: tA (i+1) a
 |i,.d _ :: a=>tA (i+1) a
 |i,.p c :: a=>.sg c :: tA i a
noncomputable def aA:List At->List (List Nat)
 |[]=>[]
 |.k :: a=>[] :: aA a
 |.d c :: a=>[c] :: aA a
 |.p _ :: a=>aA a
noncomputable def dA:List At->List Nat->List Nat
 |[],_=>[]
 |.k :: a,t=>t.take 1++dA a (t.drop 1)
 |.d _ :: a,t=>dA a (t.drop 1)
 |.p c :: a,t=>c :: dA a t
noncomputable def cA:List At->Nat
 |[]=>0
 |.k :: a=>cA a
 |_ :: a=>cA a+1
theorem gF:∀a b:List At,aA (a++b)=aA a++aA b
 |[],_=>rfl
 |.k :: a,b=>by simp[aA,gF a b]
 |.d c :: a,b=>by simp[aA,gF a b]
 |.p c :: a,b=>by simp[aA,gF a b]
theorem jq:∀(a b:List At) (i:Nat),tA i (a++b)=tA i a++tA (i+(aA a).length) b
 |[],_,_=>rfl
 |.k :: a,b,i=>by simp[tA,aA,jq a b,T9,Tw 1]
 |.d c :: a,b,i=>by simp[tA,aA,jq a b,T9,Tw 1]
 |.p c :: a,b,i=>by simp[tA,aA,jq a b]
theorem lZ:∀a b:List At,cA (a++b)=cA a+cA b
 |[],b=>by simp[cA]
 |.k :: a,b=>by simp[cA,lZ a b]
 |.d c :: a,b=>by simp[cA,lZ a b];omega
 |.p c :: a,b=>by simp[cA,lZ a b];omega
def CW(p:Pt):aA p.bU=p.asks:=by
 cases p with
 |keep n=>simp only[Pt.bU,Pt.asks];induction n<;>simp_all [RU,aA]
 |drop s=>simp only[Pt.bU,Pt.asks];induction s<;>simp_all [aA]
 |put s=>simp only[Pt.bU,Pt.asks];induction s<;>simp_all [aA]
def L8(p:Pt):∀i,tA i p.bU=p.told i:=by
 cases p with
 |keep n=>
  simp only[Pt.bU,Pt.told];induction n with
  |zero=>intro i;rfl
  |succ n a=>intro i;simp only[RU,tA,a,Vg,gV,Ud];simp[VJ,T9,Tw 1]
 |drop s=>intro i;simp only[Pt.bU,Pt.told];induction s generalizing i<;>simp_all [tA]
 |put s=>intro i;simp only[Pt.bU,Pt.told];induction s generalizing i<;>simp_all [tA]
def Mb(p:Pt):cA p.bU=cst [p]:=by
 cases p with
 |keep n=>simp only[Pt.bU];rw[CP];induction n<;>simp_all [RU,cA,cst,tot]
 |drop s=>simp only[Pt.bU];rw[CQ];induction s<;>simp_all [cA,cst,tot]
 |put s=>simp only[Pt.bU];rw[CS];induction s<;>simp_all [cA,cst,tot]
def tQ(c:List Pt):asks c=aA (bU c):=by
 induction c with
 |nil=>rfl
 |cons p c a=>rw[gP,gF,CW,<-a];simp[asks]
def BO(c:List Pt):∀i,told i c=tA i (bU c):=by
 induction c with
 |nil=>intro i;rfl
 |cons p c a=>intro i;rw[gP,jq,L8,CW,<-a,told]
def vC(c:List Pt):cst c=cA (bU c):=by
 induction c with
 |nil=>rfl
 |cons p c a=>
  rw[gP,lZ,Mb,<-a];simp[cst,tot];cases p<;>simp[T8,eF]
def BP:∀(c:List Pt) (t:List Nat),bg c t=dA (bU c) t:=by
 have k:∀(n:Nat) (a:List At) (t:List Nat),dA (List.replicate n .k++a) t=t.take n++dA a (t.drop n):=λn=>by
  induction n with
  |zero=>intro a t;simp
  |succ n b=>
   intro a t;simp only[RU,Sg,dA,b,T5];cases t with
   |nil=>simp
   |cons c t=>simp[Tw 1]
 have d:∀(s:List Nat) (a:List At) (t:List Nat),dA (s.map .d++a) t=dA a (t.drop s.length):=λs=>by
  induction s with
  |nil=>intro a t;simp
  |cons c s b=>intro a t;simp[dA,b,Tw 1]
 have p:∀(s:List Nat) (a:List At) (t:List Nat),dA (s.map .p++a) t=s++dA a t:=λs=>by
  induction s with
  |nil=>intro a t;simp
  |cons c s b=>intro a t;simp[dA,b]
 intro c;induction c with
 |nil=>intro t;rfl
 |cons q c b=>
  intro t;rw[gP];cases q with
  |keep n=>simp only[Pt.bU,k,bg,b]
  |drop s=>simp only[Pt.bU,d,bg,b]
  |put s=>simp only[Pt.bU,p,bg,b]
noncomputable def sub(L:List Tq):Tq->Tq
 |.at j=>L.getD j (.sg 0)
 |.sg c=>.sg c
def BQ{c:List Pt}{t:List Nat}(h:bC c t=true):(bg c t).length=gA c:=by
 rw[vA (BH c t h).1,JJ]
end Pv
namespace Pv
open Ev (D bF bu TY BI ME T E Es Eo It S Ss Fn big deep b2i rep bQ dG bH aI cut bW cX slots)
noncomputable def zO(E4:Nat)(BR:Nat)(jr:Nat)(eE:Nat)(Mc:Nat)(vD:Nat):Fn:=⟨2,6,(.cons (.iff (.cmp .ne (.cl E4 (.cons (.v 0) .nil)) (.cl BR (.cons (.v 1) .nil))) (.cons (.fJ 0) .nil) .nil) (.cons (.set 2 (.dJ (.rev (.cl jr (.cons (.v 0) .nil))))) (.cons (.set 3 (.dJ (.rev (.cl jr (.cons (.v 1) .nil))))) (.cons (.set 4 (.lst .nil)) (.cons (.jT (.orr (.v 2) (.v 3)) (.cons (.iff (.an (.v 2) (.cmp .eq (.ix (.ix (.v 2) (.neg (.c (.int 1)))) (.c (.int 0))) (.c (.str [100,114,111,112])))) (.cons (.exp (.me .append (.v 4) (.cons (.me .pop (.v 2) .nil) .nil))) .nil) (.cons (.iff (.an (.v 3) (.cmp .eq (.ix (.ix (.v 3) (.neg (.c (.int 1)))) (.c (.int 0))) (.c (.str [112,117,116])))) (.cons (.exp (.me .append (.v 4) (.cons (.me .pop (.v 3) .nil) .nil))) .nil) (.cons (.set 5 (.bi .min (.cons (.cl eE (.cons (.ix (.v 2) (.neg (.c (.int 1)))) .nil)) (.cons (.cl eE (.cons (.ix (.v 3) (.neg (.c (.int 1)))) .nil)) .nil)))) (.cons (.exp (.me .extend (.v 4) (.cons (.cl Mc (.cons (.cl vD (.cons (.v 2) (.cons (.v 5) .nil))) (.cons (.cl vD (.cons (.v 3) (.cons (.v 5) .nil))) .nil))) .nil))) .nil))) .nil)) .nil)) (.cons (.ret (.cl jr (.cons (.iw (.v 4)) .nil))) .nil))))))⟩
noncomputable def xy:Fn:=⟨2,2,(.cons (.iff (.cmp .eq (.ix (.v 1) (.c (.int 0))) (.c (.str [107,101,101,112]))) (.cons (.ret (.lst (.cons (.v 0) .nil))) .nil) .nil) (.cons (.iff (.cmp .eq (.ix (.v 0) (.c (.int 0))) (.c (.str [107,101,101,112]))) (.cons (.ret (.lst (.cons (.v 1) .nil))) .nil) .nil) (.cons (.iff (.cmp .ne (.ix (.v 0) (.c (.int 1))) (.ix (.v 1) (.c (.int 1)))) (.cons (.fJ 0) .nil) .nil) (.cons (.ret (.lst .nil)) .nil))))⟩
noncomputable def pW(BS:Nat)(eE:Nat):Fn:=⟨2,3,(.cons (.set 2 (.cl BS (.cons (.me .pop (.v 0) .nil) (.cons (.v 1) .nil)))) (.cons (.iff (.cmp .gt (.cl eE (.cons (.ix (.v 2) (.c (.int 1))) .nil)) (.c (.int 0))) (.cons (.exp (.me .append (.v 0) (.cons (.ix (.v 2) (.c (.int 1))) .nil))) .nil) .nil) (.cons (.ret (.ix (.v 2) (.c (.int 0)))) .nil)))⟩
noncomputable def nI:Fn:=⟨2,3,(.cons (.set 2 (.ix (.v 0) (.c (.int 0)))) (.cons (.iff (.cmp .eq (.v 2) (.c (.str [107,101,101,112]))) (.cons (.ret (.tup (.cons (.tup (.cons (.v 2) (.cons (.v 1) .nil))) (.cons (.tup (.cons (.v 2) (.cons (.bin .sub (.ix (.v 0) (.c (.int 1))) (.v 1)) .nil))) .nil)))) .nil) .nil) (.cons (.ret (.tup (.cons (.tup (.cons (.v 2) (.cons (.sl (.ix (.v 0) (.c (.int 1))) .no (.yes (.v 1))) .nil))) (.cons (.tup (.cons (.v 2) (.cons (.sl (.ix (.v 0) (.c (.int 1))) (.yes (.v 1)) .no) .nil))) .nil)))) .nil)))⟩
def xA{α:Type}(l:List α)(m:Nat):cut l none (some (m:Int))=l.take m:=by
 have a:¬ (m:Int)<0:=by omega
 simp only[cut,aI,a,SK,T3,Tv,Nat.sub_zero];by_cases h:m<=l.length
 .rw[Uz h]
 .rw[U1 (by omega),SE (oM _),SE (by omega)]
def oK{α:Type}(l:List α)(m:Nat):cut l (some (m:Int)) none=l.drop m:=by
 have a:¬ (m:Int)<0:=by omega
 simp only[cut,aI,a,SK,T3];by_cases h:m<=l.length
 .rw[Uz h,SE (by simp)]
 .rw[U1 (by omega),SS (oM _),SS (by omega)];simp
section
variable{n:Nat}
def E5{l:List V}{v:V}:dY (.lst (l++[v])) (.int (-1))=some v:=by rw[vh,Jt];simp
def E6{c:List Pt}(h:j7 c=true):∀p∈c,0<p.n:=λp a=>by
 simp only[j7,iY,VR]at h;have:=h.2 p a;simp only[CO,VS,ne_eq]at this;omega
theorem vE:∀{c:List Pt},(∀p∈c,0<p.n)->c.length<=tot c
 |[],_=>by simp[tot]
 |p :: c,h=>by
  have b:=h p (by simp);have d:=vE (c:=c) λq a=>h q (by simp[a]);rw[cQ,R3];omega
end
section
def Ch:List Nat->List (List Pt)->Prop
 |_,[]=>True
 |t,c :: rs=>bC c t=true/\Ch (bg c t) rs
end
def JN{P:aH}{fr af ao:Fr}{k:Bool}{a b:E}{x y:V}{l m:List V}(h:src (k&&kf a (ay b)) fr a (ev P (k&&kf a (ay b)) a fr)=.ok x af)(h2:src k af b (ev P k b af)=.ok y ao)(hx:iz x=some l)(hy:iz y=some m):bJ P k (.zip a b) fr=.ok (cD l m) ao:=by rw[EL,h,ak,h2,ak,hx,hy];rfl
def tR{F:List Fn}{w n i:Nat}(hs:F[i]?=some zA)(c:List Pt)(h1:c.length<=1000)(hF:j7 c=true):run F w (n+1) i [.val (bK c)]=some (.bl true,[]):=by
 obtain⟨P,Q⟩:=Bool.and_eq_true_iff.mp hF;have L:(c.map λp=>V.str p.word).length<=big:=by rw[Se];exact Sa h1 (by decide)
 refine cj hs rfl (ai (aK (iB (cV (dg rfl) rfl) rfl (iA _ (λp=>.str p.word) c λp _=>by cases p<;>exact lU rfl (cP (au rfl) (aP rfl) rfl)) (b6 L)) rfl rfl ?_));refine ai (iT (JN (dg rfl) (gx (au rfl) (dQ (aP rfl)) ff (show dZ (cut _ (some 1) none)=some _ by rw[L7];exact b6 (by rw[List.length_tail];exact Sa (Nat.sub_le _ _) L))) rfl rfl) ?_);refine sQ (λl H=>∃A a b,vo a/\vo b/\l=cD (A.map V.str) (A.map V.str).tail/\jn A=true/\H=[some (.val (bK c)),some (.val (.lst (c.map λp=>.str p.word))),a,b,none,none]) (λd l H ⟨A,a,b,C,G,j,JP,o⟩=>?_) (λH ⟨A,a,b,C,G,j,JP,o⟩=>?_) _ _ ⟨c.map Pt.word,none,none,.none,.none,by rw[Ud];rfl,P,rfl⟩
 .subst o
  match A,j with
  |[],j=>cases j
  |[x],j=>cases j
  |x :: y :: r,j=>
   cases j;obtain⟨M,W⟩:=Bool.and_eq_true_iff.mp JP;have N:decide (x=y)=false/\(decide (x=jJ)&&decide (y=iU))=false:=by
    simp only[mQ,To,Bool.or_eq_false_iff]at M;exact M
   refine cK (fP rfl C rfl G) (ai (aU (b:=false) (af:=[some (.val (bK c)),some (.val (.lst (c.map λp=>.str p.word))),some (.val (.str x)),some (.val (.str y)),none,none]) (fM (aR rfl (bR (au rfl) (au rfl) iI) N.1) ?_) (λh=>absurd h (by decide)) λ_=>az (az ?_)))
   .refine L4 (aR rfl (bR (au rfl) (aP rfl) iI) rfl) (λh=>aR rfl (bR (au rfl) (aP rfl) iI) ?_) λ_=>⟨rfl,rfl⟩
    have:=N.2;rw[show decide (x=jJ)=true from h]at this;exact this
   .rw[bX];exact⟨y :: r,_,_,.val,.val,rfl,W,rfl⟩
 .subst o;have X:eL [some (.val (bK c)),some (.val (.lst (c.map λp=>V.str p.word))),a,b,none,none]=[some (.val (bK c)),some (.val (.lst (c.map λp=>V.str p.word))),a,b,none,none]:=by
   show _ :: _ :: a.map Sl.cL :: b.map Sl.cL :: _=_;rw[dc C,dc G];rfl
  have I:∀p∈c,decide (p.n=0)=false:=λp B=>by
   have:=List.all_eq_true.mp Q p B;simpa[CO]using this
  have Qu:c.filter (λp=>decide (p.n=0))=[]:=List.filter_eq_nil_iff.mpr λp B=>by rw[I p B];decide
  have J:cz (iR (run F w n) (.v 5) (.one 5) (.yes (.cmp .isin (.ix (.v 5) (.c (.int 1))) (.tup (.cons (.c (.str [])) (.cons (.c (.int 0)) .nil))))) [some (.val (bK c)),some (.val (.lst (c.map λp=>V.str p.word))),a,b,none,none]) (c.map Pt.v)=some []:=by
   have:=jl (f:=iR (run F w n) (.v 5) (.one 5) (.yes (.cmp .isin (.ix (.v 5) (.c (.int 1))) (.tup (.cons (.c (.str [])) (.cons (.c (.int 0)) .nil))))) [some (.val (bK c)),some (.val (.lst (c.map λp=>V.str p.word))),a,b,none,none]) (e:=Pt.v) (p:=λp=>decide (p.n=0)) (g:=Pt.v) c λp B=>by
    have q:=Te (I p B);have K:∃x u,p.v=.tup [x,u]/\cop .isin u (.tup [.str [],.int 0])=some false:=by
     cases p with
     |keep k=>
      have:¬ (0:Int)=(k:Int):=λz=>q (by show k=0;omega);exact⟨_,_,rfl,by simp[this]⟩
     |put s=>
      have:¬ []=s:=λz=>q (by subst z;rfl);exact⟨_,_,rfl,by simp[this]⟩
     |drop s=>
      have:¬ []=s:=λz=>q (by subst z;rfl);exact⟨_,_,rfl,by simp[this]⟩
    obtain⟨x,u,e,K⟩:=K;rw[I p B,e];have Y:bT (.one 5) (.tup [x,u]) (m8 [some (.val (bK c)),some (.val (.lst (c.map λp=>V.str p.word))),a,b,none,none])=some [some (.val (bK c)),some (.val (.lst (c.map λp=>V.str p.word))),a,b,none,some (.val (.tup [x,u]))]:=by
     have ro:m8 [some (.val (bK c)),some (.val (.lst (c.map λp=>V.str p.word))),a,b,none,none]=[some (.val (bK c)),some (.val (.lst (c.map λp=>V.str p.word))),a,b,none,none]:=by
      rcases C with rfl|⟨_,rfl⟩<;>rcases G with rfl|⟨_,rfl⟩<;>rfl
     rw[ro];rfl
    exact pO (v:=.aY) (b8:=[]) (b:=false) Y (aR rfl (bR (cP (au rfl) (aP rfl) rfl) (jA (av (aP rfl) (av (aP rfl) aF)) jy) K) rfl) nofun
   rw[Qu]at this;exact this
  refine ai (cF (af:=[some (.val (bK c)),some (.val (.lst (c.map λp=>V.str p.word))),a,b,none,none]) ?_ ⟨rfl,rfl⟩);rw[X];exact CL (L3 (au rfl) rfl) (bR (iB (cV (dg rfl) rfl) rfl J oB) (gY aF oB) EA)
end Pv
namespace Pv
open Ev (deep big rep cut bH)
end Pv
namespace Pv
open Ev (D bF bu TY BI ME T E Es Eo It S Ss Fn big deep b2i rep bQ dG bH aI cut bW cX slots)
inductive Ma:List At->List Nat->List Nat->Prop
 |nil:Ma [] [] []
 |k {A a b c}:Ma A a b->Ma (.k :: A) (c :: a) (c :: b)
 |d {A a b c}:Ma A a b->Ma (.d c :: A) (c :: a) b
 |p {A a b c}:Ma A a b->Ma (.p c :: A) a (c :: b)
def Ma.fit{A:List At}{a b:List Nat}(h:Ma A a b):gO (aA A) a=true/\dA A a=b:=by
 induction h with
 |nil=>exact⟨rfl,rfl⟩
 |k _ c=>exact⟨by simp[aA,gO,c.1],by simp[dA,c.2]⟩
 |d _ c=>exact⟨by simp[aA,gO,c.1],by simp[dA,c.2]⟩
 |p _ c=>exact⟨by simp[aA,c.1],by simp[dA,c.2]⟩
def Ma.app{A B:List At}{a b x y:List Nat}(h:Ma A a b)(g:Ma B x y):Ma (A++B) (a++x) (b++y):=by
 induction h with
 |nil=>exact g
 |k _ c=>exact .k c
 |d _ c=>exact .d c
 |p _ c=>exact .p c
def Ma.rev{A:List At}{a b:List Nat}(h:Ma A a b):Ma A.reverse a.reverse b.reverse:=by
 induction h with
 |nil=>exact .nil
 |k _ e=>rw[R6,R6,R6];exact e.app (.k .nil)
 |@d _ _ _ c _ e=>rw[R6,R6];have:=e.app (.d (c:=c) .nil);rwa [Sx]at this
 |@p _ _ _ c _ e=>rw[R6,R6];have:=e.app (.p (c:=c) .nil);rwa [Sx]at this
def zQ(A:List At):cA A.reverse=cA A:=by
 induction A with
 |nil=>rfl
 |cons x A a=>rw[R6,lZ,a];cases x<;>simp[cA]
def Ma.trans{A:List At}{a b:List Nat}(h:Ma A a b):∀{B:List At}{c:List Nat},Ma B b c->∃C,Ma C a c/\cA C<=cA A+cA B:=by
 induction h with
 |nil=>intro B c g;exact⟨B,g,by simp[cA]⟩
 |d _ i=>intro B c g;obtain⟨C,e,f⟩:=i g;exact⟨_,.d e,by simp only[cA];omega⟩
 |@k A a b x h i=>
  intro B c g;generalize hb:x :: b=bb at g
  induction g with
  |nil=>cases hb
  |k g _=>cases hb;obtain⟨C,e,f⟩:=i g;exact⟨_,.k e,by simp only[cA];omega⟩
  |d g _=>cases hb;obtain⟨C,e,f⟩:=i g;exact⟨_,.d e,by simp only[cA];omega⟩
  |p g j=>obtain⟨C,e,f⟩:=j hb;exact⟨_,.p e,by simp only[cA]at f ⊢;omega⟩
 |@p A a b x h i=>
  intro B c g;generalize hb:x :: b=bb at g
  induction g with
  |nil=>cases hb
  |k g _=>cases hb;obtain⟨C,e,f⟩:=i g;exact⟨_,.p e,by simp only[cA];omega⟩
  |d g _=>cases hb;obtain⟨C,e,f⟩:=i g;exact⟨_,e,by simp only[cA];omega⟩
  |p g j=>obtain⟨C,e,f⟩:=j hb;exact⟨_,.p e,by simp only[cA]at f ⊢;omega⟩
def Ma.len{A:List At}{a b:List Nat}(h:Ma A a b):cA A<=a.length+b.length/\a.length<=b.length+cA A/\b.length<=a.length+cA A/\(cA A+a.length+b.length) % 2=0/\A.length<=a.length+b.length:=by
 induction h with
 |nil=>simp[cA]
 |k _ c=>simp only[cA,R3];omega
 |d _ c=>simp only[cA,R3];omega
 |p _ c=>simp only[cA,R3];omega
noncomputable def dl:List Nat->List Nat->Nat
 |[],b=>b.length
 |_ :: a,[]=>a.length+1
 |x :: a,y :: b=>if x=y then dl a b else 1+min (dl a (y :: b)) (dl (x :: a) b)
termination_by a b=>a.length+b.length
noncomputable def gG:List Nat->List Nat->List At
 |[],[]=>[]
 |[],y :: b=>.p y :: gG [] b
 |x :: a,[]=>.d x :: gG a []
 |x :: a,y :: b=>if x=y then .k :: gG a b else if dl a (y :: b)<dl (x :: a) (y :: b)then .d x :: gG a (y :: b)else .p y :: gG (x :: a) b
termination_by a b=>a.length+b.length
def iD(a:List Nat):dl a []=a.length:=by cases a<;>simp[dl]
def gg(x:Nat)(a b:List Nat):dl (x :: a) (x :: b)=dl a b:=by rw[dl,gQ rfl]
def mS{x y:Nat}(h:x≠y)(a b:List Nat):dl (x :: a) (y :: b)=1+min (dl a (y :: b)) (dl (x :: a) b):=by rw[dl,R0 h]
theorem fF:∀(a b:List Nat),Ma (gG a b) a b/\cA (gG a b)=dl a b
 |[],[]=>by rw[gG,dl];exact⟨.nil,rfl⟩
 |[],y :: b=>by
  have c:=fF [] b;rw[gG];exact⟨.p c.1,by simp only[cA,c.2,dl,R3]⟩
 |x :: a,[]=>by
  have c:=fF a [];rw[gG];exact⟨.d c.1,by simp only[cA,c.2,iD,R3]⟩
 |x :: a,y :: b=>by
  rw[gG];by_cases h:x=y
  .subst h;have c:=fF a b;rw[gQ rfl,gg];exact⟨.k c.1,c.2⟩
  .rw[R0 h];have e:=mS h a b;by_cases f:dl a (y :: b)<dl (x :: a) (y :: b)
   .have c:=fF a (y :: b);rw[gQ f];exact⟨.d c.1,by simp only[cA,c.2];omega⟩
   .have c:=fF (x :: a) b;rw[R0 f];exact⟨.p c.1,by simp only[cA,c.2];omega⟩
termination_by a b=>a.length+b.length
theorem gh:∀(a b:List Nat),dl a b=dl b a
 |[],b=>by rw[iD];simp[dl]
 |x :: a,[]=>by simp[dl]
 |x :: a,y :: b=>by
  by_cases h:x=y
  .subst h;rw[gg,gg];exact gh a b
  .rw[mS h,mS (Tu h),gh a (y :: b),gh (x :: a) b,Nat.min_comm]
termination_by a b=>a.length+b.length
theorem dl_step:∀(n:Nat) (a b:List Nat) (x:Nat),a.length+b.length<=n->dl (x :: a) b<=dl a b+1/\dl a b<=dl (x :: a) b+1
 |_,a,[],x,_=>by rw[iD,iD];simp only[R3];omega
 |0,a,y :: b,x,h=>by simp at h
 |n+1,a,y :: b,x,h=>by
  simp only[R3]at h;have i1:=dl_step n b a y (by omega);rw[gh (y :: b) a,gh b a]at i1;have i2:=dl_step n a b x (by omega);by_cases e:x=y
  .subst e;rw[gg];omega
  .rw[mS e];omega
def xB{A:List At}{a b:List Nat}(h:Ma A a b):dl a b<=cA A:=by
 induction h with
 |nil=>simp[dl]
 |k _ e=>rw[gg];exact e
 |@d A a b c _ e=>have:=(dl_step _ a b c (oM _)).1;simp only[cA];omega
 |@p A a b c _ e=>have:=(dl_step _ b a c (oM _)).1;rw[gh (c :: b) a,gh b a]at this;simp only[cA];omega
def zR(a b:List Nat):dl a.reverse b.reverse=dl a b:=by
 have d:=xB (fF a b).1.rev;have c:=xB (fF a.reverse b.reverse).1.rev;rw[zQ,(fF _ _).2]at d c;rw[List.reverse_reverse,List.reverse_reverse]at c;omega
def JQ(a b c:List Nat):dl a c<=dl a b+dl b c:=by
 obtain⟨C,e,d⟩:=(fF a b).1.trans (fF b c).1;rw[(fF _ _).2,(fF _ _).2]at d;exact Sa (xB e) d
noncomputable def ni:At->Pt
 |.k=>.keep 1
 |.d c=>.drop [c]
 |.p c=>.put [c]
def vF(A:List At):bU (A.map ni)=A:=by
 induction A with
 |nil=>rfl
 |cons x A a=>rw[gV,gP,a];cases x<;>rfl
def Me{c:List Pt}{a b:List Nat}(h:Ma (bU c) a b):bC c a=true/\bg c a=b/\cst c=cA (bU c):=by
 obtain⟨d,e⟩:=h.fit;exact⟨by rw[tN,tQ];exact d,by rw[BP];exact e,vC c⟩
noncomputable def eT(a b:List Nat):List Pt:=(gG a.reverse b.reverse).reverse.map ni
def zS(a b:List Nat):Ma (bU (eT a b)) a b/\cA (bU (eT a b))=dl a b:=by
 unfold eT;rw[vF];have h:=fF a.reverse b.reverse;have c:=h.1.rev;rw[List.reverse_reverse,List.reverse_reverse]at c;exact⟨c,by rw[zQ,h.2,zR]⟩
noncomputable def cp:List Nat->List Nat->Nat
 |x :: a,y :: b=>if x=y then cp a b+1 else 0
 |_,_=>0
theorem j8:∀a b:List Nat,cp a b=cp b a
 |[],[]=>rfl
 |[],_ :: _=>rfl
 |_ :: _,[]=>rfl
 |x :: a,y :: b=>by
  simp only[cp];by_cases h:x=y
  .subst h;rw[gQ rfl,gQ rfl,j8]
  .rw[R0 h,R0 (Tu h)]
theorem dh:∀a b:List Nat,a.take (cp a b)=b.take (cp a b)/\cp a b<=a.length/\cp a b<=b.length
 |[],b=>by simp[cp]
 |_ :: _,[]=>by simp[cp]
 |x :: a,y :: b=>by
  simp only[cp];by_cases h:x=y
  .subst h;rw[gQ rfl];have:=dh a b;simp only[Sq,this.1,R3,true_and];omega
  .rw[R0 h];simp
noncomputable def aV(a b:List Nat):List Nat:=a.drop (cp a b)
noncomputable def aX(a b:List Nat):Nat:=cp (aV a b).reverse (aV b a).reverse
noncomputable def cW(a b:List Nat):List Nat:=(aV a b).take ((aV a b).length - aX a b)
noncomputable def dR(a b:List Nat):List Pt:=bf (cp a b) (cW a b) (cW b a)++bf (aX a b) [] []
def mh(a b:List Nat):aX a b=aX b a:=by unfold aX;rw[j8]
def tS(k:Nat)(g x:List Nat):bU (bf k g x)=List.replicate k .k++g.map .d++x.map .p:=by
 unfold bf;rw[pU,pU]
 congr 1
 .congr 1
  .split
   .simp[bU,Pt.bU]
   .have:k=0:=by omega
    subst this;rfl
  .split
   .rename_i h;subst h;rfl
   .simp[bU,Pt.bU]
 .split
  .rename_i h;subst h;rfl
  .simp[bU,Pt.bU]
def pX(a b:List Nat):bU (dR a b)=List.replicate (cp a b) .k++(cW a b).map .d++(cW b a).map .p++List.replicate (aX a b) .k:=by
 unfold dR;rw[pU,tS,tS];simp
def CY(z:List Nat):Ma (List.replicate z.length .k) z z:=by
 induction z with
 |nil=>exact .nil
 |cons c z a=>exact .k a
def Mf(g:List Nat):Ma (g.map .d) g []:=by
 induction g with
 |nil=>exact .nil
 |cons c z a=>exact .d a
def Mg(g:List Nat):Ma (g.map .p) [] g:=by
 induction g with
 |nil=>exact .nil
 |cons c z a=>exact .p a
def zU(a b:List Nat):Ma (bU (dR a b)) a b:=by
 rw[pX];have c:=dh a b;have d:=dh (aV a b).reverse (aV b a).reverse;have g:(aV a b).drop ((aV a b).length - aX a b)=(aV b a).drop ((aV b a).length - aX a b):=by
  have:=d.1;rw[List.take_reverse,List.take_reverse]at this;exact List.reverse_inj.mp this
 have l:aX a b<=(aV a b).length:=by have:=d.2.1;rwa [List.length_reverse]at this
 have h:((aV a b).drop ((aV a b).length - aX a b)).length=aX a b:=by rw[Tz];omega
 have e:=CY (a.take (cp a b));have f:=CY ((aV a b).drop ((aV a b).length - aX a b));rw[S9,Uz c.2.1]at e;rw[h]at f;have m:=((e.app (Mf (cW a b))).app (Mg (cW b a))).app f;have i:a.take (cp a b)++cW a b++[]++(aV a b).drop ((aV a b).length - aX a b)=a:=by
  unfold cW;rw[Sx,Sv,List.take_append_drop];exact List.take_append_drop _ _
 have j:a.take (cp a b)++[]++cW b a++(aV a b).drop ((aV a b).length - aX a b)=b:=by
  rw[g,c.1];unfold cW;rw[Sx,mh b a,Sv,List.take_append_drop,j8 a b];exact List.take_append_drop _ _
 rw[i,j]at m;exact m
def Mh(g:List Nat)(i:Nat):tA i (g.map At.p)=g.map .sg:=by
 induction g with
 |nil=>rfl
 |cons c g a=>simp[tA,a]
def Mi(g:List Nat):∀i:Nat,tA i (g.map At.d)=[]:=by
 induction g with
 |nil=>intro i;rfl
 |cons c g a=>intro i;simp[tA,a]
def CZ(g:List Nat):aA (g.map At.p)=[]:=by
 induction g with
 |nil=>rfl
 |cons c g a=>simp[aA,a]
noncomputable def mj:Fn:=⟨2,5,(.cons (.set 2 (.c (.int 0))) (.cons (.for (.many [3,4]) (.jd (.v 0) (.v 1)) (.cons (.iff (.cmp .ne (.v 3) (.v 4)) (.cons (.ret (.v 2)) .nil) .nil) (.cons (.set 2 (.bin .add (.v 2) (.c (.int 1)))) .nil))) (.cons (.ret (.v 2)) .nil)))⟩
noncomputable def gH:Fn:=⟨3,6,(.cons (.set 3 (.lst (.cons (.bin .add (.ix (.v 2) (.c (.int 0))) (.c (.int 1))) .nil))) (.cons (.for (.many [4,5]) (.jc (.v 1)) (.cons (.iff (.cmp .eq (.v 5) (.v 0)) (.cons (.exp (.me .append (.v 3) (.cons (.ix (.v 2) (.v 4)) .nil))) .nil) (.cons (.exp (.me .append (.v 3) (.cons (.bin .add (.c (.int 1)) (.bi .min (.cons (.ix (.v 2) (.bin .add (.v 4) (.c (.int 1)))) (.cons (.ix (.v 3) (.v 4)) .nil)))) .nil))) .nil)) .nil)) (.cons (.ret (.v 3)) .nil)))⟩
noncomputable def iJ(tT:Nat):Fn:=⟨2,4,(.cons (.set 2 (.lst (.cons (.dJ (.eS (.cons (.bin .add (.bi .len (.cons (.v 1) .nil)) (.c (.int 1))) .nil))) .nil))) (.cons (.for (.one 3) (.seq (.v 0)) (.cons (.exp (.me .append (.v 2) (.cons (.cl tT (.cons (.v 3) (.cons (.v 1) (.cons (.ix (.v 2) (.neg (.c (.int 1)))) .nil)))) .nil))) .nil)) (.cons (.ret (.v 2)) .nil)))⟩
noncomputable def tU(iK:Nat):Fn:=⟨2,2,(.cons (.ret (.ix (.ix (.cl iK (.cons (.v 0) (.cons (.v 1) .nil))) (.neg (.c (.int 1)))) (.neg (.c (.int 1))))) .nil)⟩
noncomputable def pY(iK:Nat)(jr:Nat):Fn:=⟨2,6,(.cons (.set 2 (.cl iK (.cons (.v 0) (.cons (.v 1) .nil)))) (.cons (.set 3 (.lst .nil)) (.cons (.set 4 (.bi .len (.cons (.v 0) .nil))) (.cons (.set 5 (.bi .len (.cons (.v 1) .nil))) (.cons (.jT (.orr (.cmp .gt (.v 4) (.c (.int 0))) (.cmp .gt (.v 5) (.c (.int 0)))) (.cons (.iff (.an (.cmp .gt (.v 4) (.c (.int 0))) (.an (.cmp .gt (.v 5) (.c (.int 0))) (.cmp .eq (.ix (.v 0) (.bin .sub (.v 4) (.c (.int 1)))) (.ix (.v 1) (.bin .sub (.v 5) (.c (.int 1))))))) (.cons (.exp (.me .append (.v 3) (.cons (.tup (.cons (.c (.str [107,101,101,112])) (.cons (.c (.int 1)) .nil))) .nil))) (.cons (.set 4 (.bin .sub (.v 4) (.c (.int 1)))) (.cons (.set 5 (.bin .sub (.v 5) (.c (.int 1)))) .nil))) (.cons (.iff (.an (.cmp .gt (.v 4) (.c (.int 0))) (.cmp .lt (.ix (.ix (.v 2) (.bin .sub (.v 4) (.c (.int 1)))) (.v 5)) (.ix (.ix (.v 2) (.v 4)) (.v 5)))) (.cons (.exp (.me .append (.v 3) (.cons (.tup (.cons (.c (.str [100,114,111,112])) (.cons (.ix (.v 0) (.bin .sub (.v 4) (.c (.int 1)))) .nil))) .nil))) (.cons (.set 4 (.bin .sub (.v 4) (.c (.int 1)))) .nil)) (.cons (.exp (.me .append (.v 3) (.cons (.tup (.cons (.c (.str [112,117,116])) (.cons (.ix (.v 1) (.bin .sub (.v 5) (.c (.int 1)))) .nil))) .nil))) (.cons (.set 5 (.bin .sub (.v 5) (.c (.int 1)))) .nil))) .nil)) .nil)) (.cons (.ret (.cl jr (.cons (.jS (.v 3)) .nil))) .nil))))))⟩
noncomputable def E7(mq:Nat)(iC:Nat)(jr:Nat):Fn:=⟨2,7,(.cons (.set 2 (.cl mq (.cons (.v 0) (.cons (.v 1) .nil)))) (.cons (.set 3 (.sl (.v 0) (.yes (.v 2)) .no)) (.cons (.set 4 (.sl (.v 1) (.yes (.v 2)) .no)) (.cons (.set 5 (.cl mq (.cons (.rv (.v 3)) (.cons (.rv (.v 4)) .nil)))) (.cons (.set 6 (.cl iC (.cons (.v 2) (.cons (.sl (.v 3) .no (.yes (.bin .sub (.bi .len (.cons (.v 3) .nil)) (.v 5)))) (.cons (.sl (.v 4) .no (.yes (.bin .sub (.bi .len (.cons (.v 4) .nil)) (.v 5)))) .nil))))) (.cons (.ret (.cl jr (.cons (.iw (.bin .add (.v 6) (.cl iC (.cons (.v 5) (.cons (.c (.str [])) (.cons (.c (.str [])) .nil)))))) .nil))) .nil))))))⟩
noncomputable def fC(A new:List Nat)(j:Nat):V:=.int (dl A (new.take j).reverse:Nat)
noncomputable def gS(A new:List Nat):List V:=(List.range (new.length+1)).map (fC A new)
noncomputable def qR(old new:List Nat)(i:Nat):V:=.lst (gS (old.take i).reverse new)
noncomputable def zV(old new:List Nat):List V:=(List.range (old.length+1)).map (qR old new)
def iE{f:Nat->V}{n j:Nat}(h:j<n):dY (.lst ((List.range n).map f)) (.int (j:Int))=some (f j):=by
 rw[vh,jQ,Su,UG h];rfl
def pZ{f:Nat->V}{n:Nat}:dY (.lst ((List.range (n+1)).map f)) (.int (-1))=some (f n):=by
 rw[Ub,Sd];exact E5
def dS{l:List Nat}{k c:Nat}(h:l[k]?=some c):(l.take (k+1)).reverse=c :: (l.take k).reverse:=by
 rw[List.take_succ,h];simp
def OI(s:Nat)(A new:List Nat):V.int ((dl A (new.take 0).reverse:Nat)+1:Int)=fC (s :: A) new 0:=by
 simp[fC,iD]
def Mj{s k:Nat}{A new:List Nat}(h:new[k]?=some s):fC A new k=fC (s :: A) new (k+1):=by
 unfold fC;rw[dS h,gg]
def Ml{s c k:Nat}{A new:List Nat}(h:new[k]?=some c)(hc:s≠c):V.int (1+(if ((dl (s :: A) (new.take k).reverse:Nat):Int)<((dl A (new.take (k+1)).reverse:Nat):Int)then ((dl (s :: A) (new.take k).reverse:Nat):Int)else ((dl A (new.take (k+1)).reverse:Nat):Int)))=fC (s :: A) new (k+1):=by
 unfold fC;rw[dS h,mS hc]
 congr 1
 split<;>omega
def JR(new:List Nat):range 0 (new.length+1)=gS [] new:=by
 unfold range gS;refine UE λj a=>?_;have:=List.mem_range.mp a;unfold fC;simp only[dl,List.length_reverse,S9]
 congr 1
 omega
noncomputable def eI(q:Nat×Nat):V:=.tup [.int (q.2:Int),.str [q.1]]
def enum_zip(l:List Nat):∀k:Nat,cH (k:Int) (jX l)=(l.zipIdx k).map eI:=by
 induction l with
 |nil=>intro k;rfl
 |cons c l a=>
  intro k;have:=a (k+1);simp only[jX,gV,cH,List.zipIdx_cons]at this ⊢;rw[show((k:Int)+1)=((k+1:Nat):Int)by simp,this];rfl
noncomputable def eZ(q:Nat×Nat):V:=.tup [.str [q.1],.str [q.2]]
def E8(a:List Nat):∀b:List Nat,cD (jX a) (jX b)=(a.zip b).map eZ:=by
 induction a with
 |nil=>intro b;simp[cD,jX]
 |cons x a c=>
  intro b;cases b with
  |nil=>simp[cD,jX]
  |cons y b=>
   have:=c b;simp only[cD,jX,gV,List.zipWith_cons_cons,List.zip_cons_cons]at this ⊢;rw[this];rfl
noncomputable def oN:List (Nat×Nat)->Nat
 |[]=>0
 |q :: l=>if q.1=q.2 then oN l+1 else 0
theorem zW:∀a b:List Nat,cp a b=oN (a.zip b)
 |[],_=>by simp[cp,oN]
 |_ :: _,[]=>by simp[cp,oN]
 |x :: a,y :: b=>by simp only[cp,List.zip_cons_cons,oN,zW a b]
section
variable{F:List Fn}{w n i:Nat}
def j9(hd:F[i]?=some mj)(a b:List Nat)(h:a.length<=1000):run F w (n+1) i [.val (.str a),.val (.str b)]=some (.int (cp a b),[]):=by
 refine cj hd rfl ?_;refine ai (aK (aP rfl) rfl rfl ?_);refine ai (iT (vs:=(a.zip b).map eZ) (af:=[some (.val (.str a)),some (.val (.str b)),some (.val (.int (0:Nat))),none,none]) (by rw[<-E8];exact EU (au rfl) (au rfl)) ?_);refine eU (e:=eZ) (λp l f=>cp a b=p.length+oN l/\∃u v,vo u/\vo v/\f=[some (.val (.str a)),some (.val (.str b)),some (.val (.int (p.length:Nat))),u,v]) (λp q l f ⟨c,u,v,g,j,d⟩=>?_) (λp f ⟨c,u,v,g,j,d⟩=>?_) _ [] _ ⟨by rw[zW];simp,none,none,.none,.none,rfl⟩
 .subst d;refine cK (af:=[some (.val (.str a)),some (.val (.str b)),some (.val (.int (p.length:Nat))),some (.val (.str [q.1])),some (.val (.str [q.2]))]) (fP rfl g rfl j) ?_;refine ai (aU (b:=!decide (q.1=q.2)) (aR rfl (bR (au rfl) (au rfl) gz) (by simp[truthy])) (λo=>?_) λo=>az ?_)
  .have r:q.1≠q.2:=by simpa using o
   refine ai (cF (af:=[some (.val (.str a)),some (.val (.str b)),some (.val (.int (p.length:Nat))),some (.val (.str [q.1])),some (.val (.str [q.2]))]) (v:=.int (p.length:Nat)) (au rfl) ?_);simp only[oN,R0 r,Nat.add_zero]at c;rw[c];exact⟨rfl,rfl⟩
  .have x:q.1=q.2:=by simpa using o
   refine ai (aK (v:=.int ((p.length+1:Nat):Int)) (ao:=[some (.val (.str a)),some (.val (.str b)),some (.val (.int ((p.length+1:Nat):Int))),some (.val (.str [q.1])),some (.val (.str [q.2]))]) (aG (au rfl) (aP rfl) (bL.trans (by simp))) rfl rfl (az ?_));rw[bX];simp only[oN,gQ x]at c;exact⟨by rw[c];simp;omega,some (.val (.str [q.1])),some (.val (.str [q.2])),.val,.val,by simp⟩
 .subst d;refine ai (cF (af:=[some (.val (.str a)),some (.val (.str b)),some (.val (.int (p.length:Nat))),u,v]) (v:=.int (p.length:Nat)) ?_ ?_)
  .rw[show eL [some (.val (.str a)),some (.val (.str b)),some (.val (.int (p.length:Nat))),u,v]=[some (.val (.str a)),some (.val (.str b)),some (.val (.int (p.length:Nat))),u,v]by
    show [_,_,_,u.map Sl.cL,v.map Sl.cL]=_;rw[dc g,dc j];rfl]
   exact au rfl
  .simp only[oN,Nat.add_zero]at c;rw[c];exact⟨rfl,rfl⟩
noncomputable def nj(s:Nat)(A new:List Nat)(j:Nat)(a b:Option Sl):Fr:=[some (.val (.str [s])),some (.val (.str new)),some (.val (.lst (gS A new))),some (.own ((List.range (j+1)).map (fC (s :: A) new))),a,b]
def tV{s:Nat}{A new:List Nat}{j:Nat}{a b:Option Sl}{v:V}(h:v=fC (s :: A) new (j+1)):(nj s A new j a b).set 3 (some (.own ((List.range (j+1)).map (fC (s :: A) new)++[v])))=nj s A new (j+1) a b:=by
 rw[h];unfold nj;rw[Ub (n:=j+1),Sd];rfl
def qa(hd:F[i]?=some gH)(s:Nat)(A new:List Nat)(h:new.length<=1000):run F w (n+1) i [.val (.str [s]),.val (.str new),.val (.lst (gS A new))]=some (.lst (gS (s :: A) new),[]):=by
 refine cj hd rfl ?_;refine ai (gy (l:=[fC (s :: A) new 0]) (ao:=nj s A new 0 none none) (gY (av (aG (cP (au rfl) (aP rfl) (iE (f:=fC A new) (j:=0) (by omega))) (aP rfl) (bL.trans (R8 some (OI s A new)))) aF) kD) rfl rfl ?_);refine ai (iT (vs:=(new.zipIdx 0).map eI) (af:=nj s A new 0 none none) (by rw[<-enum_zip];exact ET (au rfl)) ?_);refine eU (e:=eI) (λp l y=>p++l=new.zipIdx 0/\∃a b,vo a/\vo b/\y=nj s A new p.length a b) (λp q l y ⟨r,a,b,B,d,o⟩=>?_) (λp y ⟨r,a,b,B,d,o⟩=>?_) _ [] _ ⟨rfl,none,none,.none,.none,rfl⟩
 .subst o;obtain⟨c,k⟩:=q;have G:(new.zipIdx 0)[p.length]?=some (c,k):=by rw[<-r];simp
  rw[List.getElem?_zipIdx]at G;obtain⟨g,C,e⟩:=Option.map_eq_some_iff.mp G;have H:g=c:=R8 Prod.fst e;have I:p.length=k:=by have:=R8 Prod.snd e;simpa using this
  subst H I;have x:(p++[(g,p.length)])++l=new.zipIdx 0:=by simpa using r
  have J:p.length<new.length:=(List.getElem?_eq_some_iff.mp C).1;refine cK (af:=nj s A new p.length (some (.val (.int (p.length:Nat)))) (some (.val (.str [g])))) (fP rfl B rfl d) ?_;have Qv:dY (.lst (gS A new)) (.int (p.length:Nat))=some (fC A new p.length):=iE (by omega);refine ai (aU (b:=decide (g=s)) (aR rfl (bR (au rfl) (au rfl) iI) (by simp[truthy])) (λd=>?_) λd=>?_)
  .have d:g=s:=by simpa using d
   subst d;refine ai (fE (v:=.aY) (af:=nj g A new (p.length+1) (some (.val (.int (p.length:Nat)))) (some (.val (.str [g])))) (kE rfl rfl (av (cP (au rfl) (au rfl) Qv) aF) ((gc (by simp;omega)).trans (by rw[tV (Mj C)]))) (az (az ?_)));rw[bX];exact⟨x,some (.val (.int (p.length:Nat))),some (.val (.str [g])),.val,.val,by simp⟩
  .have d:s≠g:=λz=>by simp[z]at d
   have Qw:dY (.lst (gS A new)) (.int ((p.length:Int)+1))=some (fC A new (p.length+1)):=by
    have:=iE (f:=fC A new) (n:=new.length+1) (j:=p.length+1) (by omega)
    rwa [show(((p.length+1:Nat)):Int)=(p.length:Int)+1 by simp]at this
   have Qx:dY (.lst ((List.range (p.length+1)).map (fC (s :: A) new))) (.int (p.length:Nat))=some (fC (s :: A) new p.length):=iE (by omega);refine ai (fE (v:=.aY) (af:=nj s A new (p.length+1) (some (.val (.int (p.length:Nat)))) (some (.val (.str [g])))) (kE rfl rfl (av (aG (aP rfl) (bY (av (cP (au rfl) (aG (au rfl) (aP rfl) bL) Qw) (av (cP (au rfl) (au rfl) Qx) aF)) sP) bL) aF) ((gc (by simp;omega)).trans (by rw[tV (Ml C d)]))) (az (az ?_)));rw[bX];exact⟨x,some (.val (.int (p.length:Nat))),some (.val (.str [g])),.val,.val,by simp⟩
 .subst o;have K:p.length=new.length:=by rw[Sx]at r;rw[r];simp
  refine ai (cF (af:=[some (.val (.str [s])),some (.val (.str new)),some (.val (.lst (gS A new))),some (.val (.lst (gS (s :: A) new))),a,b]) ?_ ⟨rfl,rfl⟩);rw[show eL (nj s A new p.length a b)=[some (.val (.str [s])),some (.val (.str new)),some (.val (.lst (gS A new))),some (.val (.lst (gS (s :: A) new))),a,b]by
   show [_,_,_,_,a.map Sl.cL,b.map Sl.cL]=_;rw[dc B,dc d,K];rfl]
  exact au rfl
noncomputable def tW(old new:List Nat)(j:Nat)(a:Option Sl):Fr:=[some (.val (.str old)),some (.val (.str new)),some (.own ((List.range (j+1)).map (qR old new))),a]
def jD{jL:Nat}(hcw:F[jL]?=some gH)(hd:F[i]?=some (iJ jL))(old new:List Nat)(h0:old.length<=1000)(h:new.length<=1000):run F w (n+2) i [.val (.str old),.val (.str new)]=some (.lst (zV old new),[]):=by
 refine cj hd rfl ?_;have o:V.lst (range 0 (new.length+1))=qR old new 0:=by rw[JR];rfl
 refine ai (gy (l:=[qR old new 0]) (ao:=tW old new 0 none) (gY (av (iS (lS (av (aG (bY (av (au rfl) aF) (Um (by omega))) (aP rfl) bL) aF) (Jy (n:=new.length+1) (by omega) (by simp))) ((b6 (bw (by simp[range];omega))).trans (R8 some o))) aF) kD) rfl rfl ?_);refine ai (iT (vs:=old.map λc=>V.str [c]) (af:=tW old new 0 none) (cV (dg rfl) rfl) ?_);refine eU (e:=λc=>V.str [c]) (λp l f=>p++l=old/\∃a,vo a/\f=tW old new p.length a) (λp c l f ⟨d,a,g,b⟩=>?_) (λp f ⟨d,a,g,b⟩=>?_) _ [] _ ⟨rfl,none,.none,rfl⟩
 .subst b;have j:old[p.length]?=some c:=by rw[<-d];simp
  have q:p.length<old.length:=(List.getElem?_eq_some_iff.mp j).1;refine cK (af:=tW old new p.length (some (.val (.str [c])))) (bind1 rfl g) ?_;have r:V.lst (gS (c :: (old.take p.length).reverse) new)=qR old new (p.length+1):=by unfold qR;rw[dS j]
  refine ai (fE (v:=.aY) (af:=tW old new (p.length+1) (some (.val (.str [c])))) (kE rfl rfl (av (cy (aS rfl (au rfl) (aS rfl (au rfl) (aS rfl (cP (au rfl) (q9 (aP rfl)) pZ) br))) (gX (qa (F:=F) (w:=w) (n:=n) hcw c (old.take p.length).reverse new h))) aF) ((gc (by simp;omega)).trans (by
   rw[r];unfold tW;rw[Ub (n:=p.length+1),Sd];rfl))) (az ?_))
  rw[bX];exact⟨by simpa using d,some (.val (.str [c])),.val,by simp⟩
 .subst b;have x:p.length=old.length:=by rw[Sx]at d;rw[d]
  refine ai (cF (af:=[some (.val (.str old)),some (.val (.str new)),some (.val (.lst (zV old new))),a]) ?_ ⟨rfl,rfl⟩);rw[show eL (tW old new p.length a)=[some (.val (.str old)),some (.val (.str new)),some (.val (.lst (zV old new))),a]by
   show [_,_,_,a.map Sl.cL]=_;rw[dc g,x];rfl]
  exact au rfl
def qb{jL nJ:Nat}(hcw:F[jL]?=some gH)(hfc:F[nJ]?=some (iJ jL))(hd:F[i]?=some (tU nJ))(old new:List Nat)(h0:old.length<=1000)(h:new.length<=1000):run F w (n+3) i [.val (.str old),.val (.str new)]=some (.int (dl old new),[]):=by
 have e:fC (old.take old.length).reverse new new.length=.int (dl old new:Nat):=by unfold fC;rw[List.take_length,List.take_length,zR]
 refine cj hd rfl (ai (cF (af:=[some (.val (.str old)),some (.val (.str new))]) (cP (cP (cy (aS rfl (au rfl) (aS rfl (au rfl) br)) (call2 (jD (F:=F) (w:=w) (n:=n) hcw hfc old new h0 h))) (q9 (aP rfl)) pZ) (q9 (aP rfl)) (pZ.trans (R8 some e))) ⟨rfl,rfl⟩))
noncomputable def hF(old new:List Nat)(ps:List At)(i j:Nat):Fr:=[some (.val (.str old)),some (.val (.str new)),some (.val (.lst (zV old new))),some (.own (ps.map λx=>(ni x).v)),some (.val (.int (i:Nat))),some (.val (.int (j:Nat)))]
def qc{old new:List Nat}{ps:List At}{i j:Nat}{x:At}:(hF old new ps i j).set 3 (some (.own ((ps.map λx=>(ni x).v)++[(ni x).v])))=hF old new (ps++[x]) i j:=by
 unfold hF;rw[Sd];rfl
section
variable{P:aH}{old new:List Nat}{ps:List At}{i j:Nat}{k:Bool}
def dN{s:Nat}{m:Nat}(h:jI true (hF old new ps i j) s=some (.int (m:Nat))){b:Bool}(e:decide (0<m)=b):aD P (.cmp .gt (.v s) (.c (.int 0))) (hF old new ps i j)=.ok b (hF old new ps i j):=
 aR rfl (bR (au h) (aP rfl) Ju) (by rw[<-e];show decide ((0:Int)<(m:Nat))=_;simp)
def nK(m:Nat):bS .sub (.int ((m+1:Nat):Int)) (.int 1)=some (.int (m:Nat)):=di.trans (by simp)
def tX{c:Nat}(h:old[i]?=some c):ev P k (.ix (.v 0) (.bin .sub (.v 4) (.c (.int 1)))) (hF old new ps (i+1) j)=.ok (.str [c]) (hF old new ps (i+1) j):=
 cP (au rfl) (aG (au rfl) (aP rfl) (nK i)) (by rw[j5,jQ,h];rfl)
def tY{c:Nat}(h:new[j]?=some c):ev P k (.ix (.v 1) (.bin .sub (.v 5) (.c (.int 1)))) (hF old new ps i (j+1))=.ok (.str [c]) (hF old new ps i (j+1)):=
 cP (au rfl) (aG (au rfl) (aP rfl) (nK j)) (by rw[j5,jQ,h];rfl)
def tZ(h1:i+1<=old.length)(h2:j<=new.length){b:Bool}(e:decide (dl (old.take i).reverse (new.take j).reverse<dl (old.take (i+1)).reverse (new.take j).reverse)=b) :
  aD P (.cmp .lt (.ix (.ix (.v 2) (.bin .sub (.v 4) (.c (.int 1)))) (.v 5)) (.ix (.ix (.v 2) (.v 4)) (.v 5))) (hF old new ps (i+1) j)=.ok b (hF old new ps (i+1) j):=
 aR rfl (bR (cP (cP (au rfl) (aG (au rfl) (aP rfl) (nK i)) (iE (f:=qR old new) (j:=i) (by omega))) (au rfl) (iE (f:=fC (old.take i).reverse new) (j:=j) (by omega))) (cP (cP (au rfl) (au rfl) (iE (f:=qR old new) (j:=i+1) (by omega))) (au rfl) (iE (f:=fC (old.take (i+1)).reverse new) (j:=j) (by omega))) xm) (by rw[<-e];show decide (((_:Nat):Int)<((_:Nat):Int))=_;simp)
def vG{w:Nat}{Q:Fl->Fr->Prop}{x:Nat}(hx:old[i]?=some x)(hl:ps.length<100000)(q:Q .nx (hF old new (ps++[.d x]) i j)):Wp (exs P w (.cons (.exp (.me .append (.v 3) (.cons (.tup (.cons (.c (.str [100,114,111,112])) (.cons (.ix (.v 0) (.bin .sub (.v 4) (.c (.int 1)))) .nil))) .nil))) (.cons (.set 4 (.bin .sub (.v 4) (.c (.int 1)))) .nil)) (hF old new ps (i+1) j)) Q:=by
 refine ai (fE (v:=.aY) (af:=hF old new (ps++[.d x]) (i+1) j) (kE rfl rfl (av (jA (av (aP rfl) (av (tX hx) aF)) jy) aF) ((gc (by simpa using hl)).trans (by rw[show V.tup [V.str [100,114,111,112],V.str [x]]=(ni (.d x)).v from rfl,qc]))) ?_);exact ai (aK (ao:=hF old new (ps++[.d x]) i j) (aG (au rfl) (aP rfl) (nK i)) rfl rfl (az q))
def zX{w:Nat}{Q:Fl->Fr->Prop}{y:Nat}(hy:new[j]?=some y)(hl:ps.length<100000)(q:Q .nx (hF old new (ps++[.p y]) i j)):Wp (exs P w (.cons (.exp (.me .append (.v 3) (.cons (.tup (.cons (.c (.str [112,117,116])) (.cons (.ix (.v 1) (.bin .sub (.v 5) (.c (.int 1)))) .nil))) .nil))) (.cons (.set 5 (.bin .sub (.v 5) (.c (.int 1)))) .nil)) (hF old new ps i (j+1))) Q:=by
 refine ai (fE (v:=.aY) (af:=hF old new (ps++[.p y]) i (j+1)) (kE rfl rfl (av (jA (av (aP rfl) (av (tY hy) aF)) jy) aF) ((gc (by simpa using hl)).trans (by rw[show V.tup [V.str [112,117,116],V.str [y]]=(ni (.p y)).v from rfl,qc]))) ?_);exact ai (aK (ao:=hF old new (ps++[.p y]) i j) (aG (au rfl) (aP rfl) (nK j)) rfl rfl (az q))
end
def nL{jL nJ mw nM:Nat}(hst:F[mw]?=some gf)(hfo:F[nM]?=some (lW mw))(hcw:F[jL]?=some gH)(hfc:F[nJ]?=some (iJ jL))(hd:F[i]?=some (pY nJ nM))(hw:3000<w)(old new:List Nat)(h0:old.length<=1000)(h:new.length<=1000):run F w (n+3) i [.val (.str old),.val (.str new)]=some (bK (bh (eT old new)),[]):=by
 refine cj hd rfl ?_;refine ai (aK (cy (aS rfl (au rfl) (aS rfl (au rfl) br)) (call2 (jD (F:=F) (w:=w) (n:=n) hcw hfc old new h0 h))) rfl rfl ?_);refine ai (gy (l:=[]) (gY aF oB) rfl rfl ?_);refine ai (aK (bY (av (au rfl) aF) (Um (by omega))) rfl rfl ?_);refine ai (aK (ao:=hF old new [] old.length new.length) (bY (av (au rfl) aF) (Um (by omega))) rfl rfl ?_);refine ai (xj (lQ (λk q=>∃c i j,k=i+j/\i<=old.length/\j<=new.length/\c.length+(i+j)<=2000/\c++gG (old.take i).reverse (new.take j).reverse=gG old.reverse new.reverse/\q=hF old new c i j) (λk q A=>?_) w (old.length+new.length) _ (by omega) ⟨[],_,_,rfl,oM _,oM _,by simp;omega,by simp,rfl⟩));obtain⟨c,B,r,rfl,g,f,G,a,rfl⟩:=A;cases B with
 |zero=>
  cases r with
  |zero=>
   refine⟨false,_,fM (dN rfl rfl) (dN rfl rfl),?_⟩;dsimp only;rw[R0 Tg];have a:c=gG old.reverse new.reverse:=by simpa[gG]using a
   have o:V.tup (c.map λx=>(ni x).v).reverse=bK (eT old new):=by
    unfold eT bK;rw[a,<-List.map_reverse,Ud];rfl
   have Q0:(eT old new).length<=2000:=by unfold eT;rw[Se,List.length_reverse,<-a];omega
   have C:tot (eT old new)<=2000:=by rw[<-pV];unfold eT;rw[vF,List.length_reverse,<-a];omega
   refine ai (cF (af:=[some (.val (.str old)),some (.val (.str new)),some (.val (.lst (zV old new))),some (.val (.lst (c.map λx=>(ni x).v))),some (.val (.int (0:Nat))),some (.val (.int (0:Nat)))]) (cy (aS rfl (L1 (au rfl) ((show pH _=fG _ from rfl).trans ((show fG _=some _ from by unfold fG;rw[gQ (bw (by simp;omega))]).trans (R8 some o)))) br) (gv (tw (F:=F) (w:=w) (n:=n) hst hfo (eT old new) (by omega) (by omega)))) ⟨rfl,rfl⟩)
  |succ j=>
   obtain⟨y,hy⟩:∃y,new[j]?=some y:=⟨_,RZ (by omega)⟩
   rw[dS hy,List.take_zero,List.reverse_nil,gG]at a;refine⟨true,_,fM (dN rfl rfl) (dN rfl (by simp)),?_⟩;dsimp only;rw[gQ rfl];refine ai (aU (b:=false) (jm (dN rfl rfl)) (λz=>absurd z (by decide)) λ_=>?_);refine ai (aU (b:=false) (jm (dN rfl rfl)) (λz=>absurd z (by decide)) λ_=>?_);refine zX hy (by omega) (az (az ?_));rw[bX];exact⟨0+j,by omega,c++[.p y],0,j,rfl,by omega,by omega,by simp;omega,by simpa using a,rfl⟩
 |succ i=>
  obtain⟨x,hx⟩:∃x,old[i]?=some x:=⟨_,RZ (by omega)⟩
  refine⟨true,_,zy (dN rfl (by simp)),?_⟩;dsimp only;rw[gQ rfl];cases r with
  |zero=>
   rw[dS hx,List.take_zero,List.reverse_nil,gG]at a;refine ai (aU (b:=false) (eB (dN rfl (by simp)) (jm (dN rfl rfl))) (λz=>absurd z (by decide)) λ_=>?_);refine ai (aU (b:=true) (eB (dN rfl (by simp)) (tZ g f (by rw[List.take_zero,List.reverse_nil,iD,iD,dS hx];simp))) (λ_=>?_) λz=>absurd z (by decide));refine vG hx (by omega) (az (az ?_));rw[bX];exact⟨i+0,by omega,c++[.d x],i,0,rfl,by omega,f,by simp;omega,by simpa using a,rfl⟩
  |succ j=>
   obtain⟨y,hy⟩:∃y,new[j]?=some y:=⟨_,RZ (by omega)⟩
   rw[dS hx,dS hy,gG]at a;by_cases e:x=y
   .subst e;rw[gQ rfl]at a;refine ai (aU (b:=true) (eB (dN rfl (by simp)) (eB (dN rfl (by simp)) (aR rfl (bR (tX hx) (tY hy) iI) (by simp[truthy])))) (λ_=>?_) λz=>absurd z (by decide));refine ai (fE (v:=.aY) (af:=hF old new (c++[.k]) (i+1) (j+1)) (kE rfl rfl (av (jA (av (aP rfl) (av (aP rfl) aF)) jy) aF) ((gc (by simp;omega)).trans (by rw[show V.tup [V.str [107,101,101,112],V.int 1]=(ni .k).v from rfl,qc]))) ?_);refine ai (aK (ao:=hF old new (c++[.k]) i (j+1)) (aG (au rfl) (aP rfl) (nK i)) rfl rfl ?_);refine ai (aK (ao:=hF old new (c++[.k]) i j) (aG (au rfl) (aP rfl) (nK j)) rfl rfl (az (az ?_)));rw[bX];exact⟨i+j,by omega,c++[.k],i,j,rfl,by omega,by omega,by simp;omega,by simpa using a,rfl⟩
   .rw[R0 e]at a;refine ai (aU (b:=false) (eB (dN rfl (by simp)) (eB (dN rfl (by simp)) (aR rfl (bR (tX hx) (tY hy) iI) (by simp[truthy,e])))) (λz=>absurd z (by decide)) λ_=>?_);refine ai (aU (b:=decide (dl (old.take i).reverse (new.take (j+1)).reverse<dl (old.take (i+1)).reverse (new.take (j+1)).reverse)) (eB (dN rfl (by simp)) (tZ g f rfl)) (λz=>?_) λz=>?_)
    .have z:dl (old.take i).reverse (new.take (j+1)).reverse<dl (old.take (i+1)).reverse (new.take (j+1)).reverse:=by simpa using z
     rw[dS hx,dS hy]at z;rw[gQ z]at a;refine vG hx (by omega) (az (az ?_));rw[bX];exact⟨i+(j+1),by omega,c++[.d x],i,j+1,rfl,by omega,f,by simp;omega,by rw[dS hy];simpa using a,rfl⟩
    .have z:¬ dl (old.take i).reverse (new.take (j+1)).reverse<dl (old.take (i+1)).reverse (new.take (j+1)).reverse:=by simpa using z
     rw[dS hx,dS hy]at z;rw[R0 z]at a;refine zX hy (by omega) (az (az ?_));rw[bX];exact⟨i+1+j,by omega,c++[.p y],i+1,j,rfl,g,by omega,by simp;omega,by rw[dS hx];simpa using a,rfl⟩
def oQ{l:List Nat}{m:Nat}(h:m<=l.length):cut l none (some (((l.length:Nat):Int) - (m:Nat)))=l.take (l.length - m):=by
 rw[<-xA,show((l.length:Int) - (m:Nat))=((l.length - m:Nat):Int)by omega]
def kc(a b:List Nat):(aV a b).length<=a.length:=by unfold aV;rw[Tz];omega
def E9(a b:List Nat):(dR a b).length<=6:=by unfold dR;have:=dU (cp a b) (cW a b) (cW b a);have:=dU (aX a b) [] [];simp;omega
def Fb(a b:List Nat):tot (dR a b)<=a.length+b.length:=by rw[<-pV];exact(zU a b).len.2.2.2.2
def zY{BU mw nM:Nat}(hst:F[mw]?=some gf)(hfo:F[nM]?=some (lW mw))(M7:F[BU]?=some mj)(hd:F[i]?=some (E7 BU mw nM))(a b:List Nat)(ha:a.length<=1000)(hb:b.length<=1000):run F w (n+3) i [.val (.str a),.val (.str b)]=some (bK (bh (dR a b)),[]):=by
 have o:=kc a b;have p:=kc b a;have d:aX a b<=(aV a b).length:=by have:=(dh (aV a b).reverse (aV b a).reverse).2.1;rwa [List.length_reverse]at this
 have e:aX a b<=(aV b a).length:=by have:=(dh (aV a b).reverse (aV b a).reverse).2.2;rwa [List.length_reverse]at this
 have f:gk (.str a) (some (cp a b:Int)) none=some (.str (aV a b)):=by rw[cZ,oK];rfl
 have g:gk (.str b) (some (cp a b:Int)) none=some (.str (aV b a)):=by rw[cZ,oK,j8];rfl
 have h:gk (.str (aV a b)) none (some (((aV a b).length:Int) - (aX a b:Nat)))=some (.str (cW a b)):=by rw[cZ,oQ d];rfl
 have tb:gk (.str (aV b a)) none (some (((aV b a).length:Int) - (aX a b:Nat)))=some (.str (cW b a)):=by rw[cZ,oQ e,mh];rfl
 have c:=E9 a b;have q:=Fb a b;have s1:=dU (cp a b) (cW a b) (cW b a);have s2:=dU (aX a b) [] [];have j:bS .add (.lst ((bf (cp a b) (cW a b) (cW b a)).map Pt.v)) (.lst ((bf (aX a b) [] []).map Pt.v))=some (.lst ((dR a b).map Pt.v)):=by
  show dZ _=_;rw[<-Sd];exact b6 (bw (by unfold dR at c;simp at c ⊢;omega))
 have l:toT (.lst ((dR a b).map Pt.v))=some (bK (dR a b)):=by
  show fG _=_;unfold fG;rw[gQ (bw (by simp;omega))];rfl
 refine cj hd rfl ?_;refine ai (aK (cy (aS rfl (au rfl) (aS rfl (au rfl) br)) (call2 (j9 (F:=F) (w:=w) (n:=n+1) M7 a b ha))) rfl rfl ?_);refine ai (aK (gx (au rfl) (dQ (au rfl)) ff f) rfl rfl ?_);refine ai (aK (gx (au rfl) (dQ (au rfl)) ff g) rfl rfl ?_);refine ai (aK (cy (aS rfl (Bx (au rfl) vj) (aS rfl (Bx (au rfl) vj) br)) (call2 (j9 (F:=F) (w:=w) (n:=n+1) M7 (aV a b).reverse (aV b a).reverse (by rw[List.length_reverse];omega)))) rfl rfl ?_);refine ai (aK (cy (aS rfl (au rfl) (aS rfl (gx (au rfl) ff (dQ (aG (bY (av (au rfl) aF) (Um (by omega))) (au rfl) di)) h) (aS rfl (gx (au rfl) ff (dQ (aG (bY (av (au rfl) aF) (Um (by omega))) (au rfl) di)) tb) br))) (gX (g9 (F:=F) (w:=w) (n:=n+1) hst (cp a b) (cW a b) (cW b a)))) rfl rfl ?_);exact ai (cF (cy (aS rfl (xg (aG (au rfl) (cy (aS rfl (au rfl) (aS rfl (aP rfl) (aS rfl (aP rfl) br))) (gX (g9 (F:=F) (w:=w) (n:=n+1) hst (aX a b) [] []))) j) l) br) (gv (tw (F:=F) (w:=w) (n:=n) hst hfo (dR a b) (by omega) (by omega)))) ⟨rfl,rfl⟩)
end
end Pv
namespace Lw
noncomputable abbrev f0:Ev.Fn:=⟨1,1,(.cons (.iff (.cmp .eq (.ix (.v 0) (.c (.int 0))) (.c (.str [107,101,101,112]))) (.cons (.ret (.ix (.v 0) (.c (.int 1)))) .nil) .nil) (.cons (.ret (.bi .len (.cons (.ix (.v 0) (.c (.int 1))) .nil))) .nil))⟩
noncomputable abbrev f1:Ev.Fn:=⟨1,2,(.cons (.ret (.bi .sum (.cons (.comp (.cl 0 (.cons (.v 1) .nil)) (.one 1) (.seq (.v 0)) (.yes (.cmp .ne (.ix (.v 1) (.c (.int 0))) (.c (.str [112,117,116]))))) .nil))) .nil)⟩
noncomputable abbrev f2:Ev.Fn:=⟨1,2,(.cons (.ret (.bi .sum (.cons (.comp (.cl 0 (.cons (.v 1) .nil)) (.one 1) (.seq (.v 0)) (.yes (.cmp .ne (.ix (.v 1) (.c (.int 0))) (.c (.str [100,114,111,112]))))) .nil))) .nil)⟩
noncomputable abbrev f3:Ev.Fn:=⟨1,2,(.cons (.ret (.bi .sum (.cons (.comp (.cl 0 (.cons (.v 1) .nil)) (.one 1) (.seq (.v 0)) (.yes (.cmp .ne (.ix (.v 1) (.c (.int 0))) (.c (.str [107,101,101,112]))))) .nil))) .nil)⟩
noncomputable abbrev f4:Ev.Fn:=⟨1,7,(.cons (.set 1 (.lst .nil)) (.cons (.set 2 (.c (.int 0))) (.cons (.set 3 (.c (.str []))) (.cons (.set 4 (.c (.str []))) (.cons (.for (.many [5,6]) (.seq (.v 0)) (.cons (.iff (.cmp .eq (.v 5) (.c (.str [100,114,111,112]))) (.cons (.set 3 (.bin .add (.v 3) (.v 6))) .nil) (.cons (.iff (.cmp .eq (.v 5) (.c (.str [112,117,116]))) (.cons (.set 4 (.bin .add (.v 4) (.v 6))) .nil) (.cons (.iff (.cmp .gt (.v 6) (.c (.int 0))) (.cons (.iff (.orr (.cmp .ne (.v 3) (.c (.str []))) (.cmp .ne (.v 4) (.c (.str [])))) (.cons (.exp (.me .extend (.v 1) (.cons (.cl 5 (.cons (.v 2) (.cons (.v 3) (.cons (.v 4) .nil)))) .nil))) (.cons (.set 2 (.c (.int 0))) (.cons (.set 3 (.c (.str []))) (.cons (.set 4 (.c (.str []))) .nil)))) .nil) (.cons (.set 2 (.bin .add (.v 2) (.v 6))) .nil)) .nil) .nil)) .nil)) .nil)) (.cons (.exp (.me .extend (.v 1) (.cons (.cl 5 (.cons (.v 2) (.cons (.v 3) (.cons (.v 4) .nil)))) .nil))) (.cons (.ret (.iw (.v 1))) .nil)))))))⟩
noncomputable abbrev f5:Ev.Fn:=⟨3,4,(.cons (.set 3 (.lst .nil)) (.cons (.iff (.cmp .gt (.v 0) (.c (.int 0))) (.cons (.exp (.me .append (.v 3) (.cons (.tup (.cons (.c (.str [107,101,101,112])) (.cons (.v 0) .nil))) .nil))) .nil) .nil) (.cons (.iff (.cmp .ne (.v 1) (.c (.str []))) (.cons (.exp (.me .append (.v 3) (.cons (.tup (.cons (.c (.str [100,114,111,112])) (.cons (.v 1) .nil))) .nil))) .nil) .nil) (.cons (.iff (.cmp .ne (.v 2) (.c (.str []))) (.cons (.exp (.me .append (.v 3) (.cons (.tup (.cons (.c (.str [112,117,116])) (.cons (.v 2) .nil))) .nil))) .nil) .nil) (.cons (.ret (.v 3)) .nil)))))⟩
noncomputable abbrev f6:Ev.Fn:=⟨2,2,(.cons (.ret (.ix (.ix (.cl 8 (.cons (.v 0) (.cons (.v 1) .nil))) (.neg (.c (.int 1)))) (.neg (.c (.int 1))))) .nil)⟩
noncomputable abbrev f7:Ev.Fn:=⟨2,6,(.cons (.set 2 (.cl 8 (.cons (.v 0) (.cons (.v 1) .nil)))) (.cons (.set 3 (.lst .nil)) (.cons (.set 4 (.bi .len (.cons (.v 0) .nil))) (.cons (.set 5 (.bi .len (.cons (.v 1) .nil))) (.cons (.jT (.orr (.cmp .gt (.v 4) (.c (.int 0))) (.cmp .gt (.v 5) (.c (.int 0)))) (.cons (.iff (.an (.cmp .gt (.v 4) (.c (.int 0))) (.an (.cmp .gt (.v 5) (.c (.int 0))) (.cmp .eq (.ix (.v 0) (.bin .sub (.v 4) (.c (.int 1)))) (.ix (.v 1) (.bin .sub (.v 5) (.c (.int 1))))))) (.cons (.exp (.me .append (.v 3) (.cons (.tup (.cons (.c (.str [107,101,101,112])) (.cons (.c (.int 1)) .nil))) .nil))) (.cons (.set 4 (.bin .sub (.v 4) (.c (.int 1)))) (.cons (.set 5 (.bin .sub (.v 5) (.c (.int 1)))) .nil))) (.cons (.iff (.an (.cmp .gt (.v 4) (.c (.int 0))) (.cmp .lt (.ix (.ix (.v 2) (.bin .sub (.v 4) (.c (.int 1)))) (.v 5)) (.ix (.ix (.v 2) (.v 4)) (.v 5)))) (.cons (.exp (.me .append (.v 3) (.cons (.tup (.cons (.c (.str [100,114,111,112])) (.cons (.ix (.v 0) (.bin .sub (.v 4) (.c (.int 1)))) .nil))) .nil))) (.cons (.set 4 (.bin .sub (.v 4) (.c (.int 1)))) .nil)) (.cons (.exp (.me .append (.v 3) (.cons (.tup (.cons (.c (.str [112,117,116])) (.cons (.ix (.v 1) (.bin .sub (.v 5) (.c (.int 1)))) .nil))) .nil))) (.cons (.set 5 (.bin .sub (.v 5) (.c (.int 1)))) .nil))) .nil)) .nil)) (.cons (.ret (.cl 4 (.cons (.jS (.v 3)) .nil))) .nil))))))⟩
noncomputable abbrev f8:Ev.Fn:=⟨2,4,(.cons (.set 2 (.lst (.cons (.dJ (.eS (.cons (.bin .add (.bi .len (.cons (.v 1) .nil)) (.c (.int 1))) .nil))) .nil))) (.cons (.for (.one 3) (.seq (.v 0)) (.cons (.exp (.me .append (.v 2) (.cons (.cl 9 (.cons (.v 3) (.cons (.v 1) (.cons (.ix (.v 2) (.neg (.c (.int 1)))) .nil)))) .nil))) .nil)) (.cons (.ret (.v 2)) .nil)))⟩
noncomputable abbrev f9:Ev.Fn:=⟨3,6,(.cons (.set 3 (.lst (.cons (.bin .add (.ix (.v 2) (.c (.int 0))) (.c (.int 1))) .nil))) (.cons (.for (.many [4,5]) (.jc (.v 1)) (.cons (.iff (.cmp .eq (.v 5) (.v 0)) (.cons (.exp (.me .append (.v 3) (.cons (.ix (.v 2) (.v 4)) .nil))) .nil) (.cons (.exp (.me .append (.v 3) (.cons (.bin .add (.c (.int 1)) (.bi .min (.cons (.ix (.v 2) (.bin .add (.v 4) (.c (.int 1)))) (.cons (.ix (.v 3) (.v 4)) .nil)))) .nil))) .nil)) .nil)) (.cons (.ret (.v 3)) .nil)))⟩
noncomputable abbrev yw:Ev.Fn:=⟨2,7,(.cons (.set 2 (.cl 11 (.cons (.v 0) (.cons (.v 1) .nil)))) (.cons (.set 3 (.sl (.v 0) (.yes (.v 2)) .no)) (.cons (.set 4 (.sl (.v 1) (.yes (.v 2)) .no)) (.cons (.set 5 (.cl 11 (.cons (.rv (.v 3)) (.cons (.rv (.v 4)) .nil)))) (.cons (.set 6 (.cl 5 (.cons (.v 2) (.cons (.sl (.v 3) .no (.yes (.bin .sub (.bi .len (.cons (.v 3) .nil)) (.v 5)))) (.cons (.sl (.v 4) .no (.yes (.bin .sub (.bi .len (.cons (.v 4) .nil)) (.v 5)))) .nil))))) (.cons (.ret (.cl 4 (.cons (.iw (.bin .add (.v 6) (.cl 5 (.cons (.v 5) (.cons (.c (.str [])) (.cons (.c (.str [])) .nil)))))) .nil))) .nil))))))⟩
noncomputable abbrev JU:Ev.Fn:=⟨2,5,(.cons (.set 2 (.c (.int 0))) (.cons (.for (.many [3,4]) (.jd (.v 0) (.v 1)) (.cons (.iff (.cmp .ne (.v 3) (.v 4)) (.cons (.ret (.v 2)) .nil) .nil) (.cons (.set 2 (.bin .add (.v 2) (.c (.int 1)))) .nil))) (.cons (.ret (.v 2)) .nil)))⟩
noncomputable abbrev JV:Ev.Fn:=⟨2,4,(.cons (.set 2 (.c (.int 0))) (.cons (.for (.one 3) (.seq (.v 0)) (.cons (.iff (.an (.cmp .eq (.ix (.v 3) (.c (.int 0))) (.c (.str [100,114,111,112]))) (.cmp .ne (.sl (.v 1) (.yes (.v 2)) (.yes (.bin .add (.v 2) (.cl 0 (.cons (.v 3) .nil))))) (.ix (.v 3) (.c (.int 1))))) (.cons (.ret (.c (.bl false))) .nil) .nil) (.cons (.iff (.cmp .ne (.ix (.v 3) (.c (.int 0))) (.c (.str [112,117,116]))) (.cons (.set 2 (.bin .add (.v 2) (.cl 0 (.cons (.v 3) .nil)))) .nil) .nil) .nil))) (.cons (.ret (.cmp .eq (.v 2) (.bi .len (.cons (.v 1) .nil)))) .nil)))⟩
noncomputable abbrev JX:Ev.Fn:=⟨2,6,(.cons (.iff (.nt (.cl 12 (.cons (.v 0) (.cons (.v 1) .nil)))) (.cons (.fJ 0) .nil) .nil) (.cons (.set 2 (.lst .nil)) (.cons (.set 3 (.c (.int 0))) (.cons (.for (.many [4,5]) (.seq (.v 0)) (.cons (.iff (.cmp .eq (.v 4) (.c (.str [112,117,116]))) (.cons (.exp (.me .append (.v 2) (.cons (.v 5) .nil))) .nil) (.cons (.iff (.cmp .eq (.v 4) (.c (.str [100,114,111,112]))) (.cons (.set 3 (.bin .add (.v 3) (.bi .len (.cons (.v 5) .nil)))) .nil) (.cons (.exp (.me .append (.v 2) (.cons (.sl (.v 1) (.yes (.v 3)) (.yes (.bin .add (.v 3) (.v 5)))) .nil))) (.cons (.set 3 (.bin .add (.v 3) (.v 5))) .nil))) .nil)) .nil)) (.cons (.ret (.me .join (.c (.str [])) (.cons (.v 2) .nil))) .nil)))))⟩
noncomputable abbrev JY:Ev.Fn:=⟨2,2,(.cons (.iff (.cmp .eq (.v 0) (.lst .nil)) (.cons (.ret (.bin .mul (.c (.int 7)) (.v 1))) .nil) .nil) (.cons (.ret (.bin .add (.ix (.v 0) (.bin .mod (.v 1) (.bi .len (.cons (.v 0) .nil)))) (.bin .mul (.c (.int 6553)) (.bin .fdiv (.v 1) (.bi .len (.cons (.v 0) .nil)))))) .nil))⟩
noncomputable abbrev JZ:Ev.Fn:=⟨3,4,(.cons (.set 3 (.bin .mod (.bin .add (.bin .mul (.bin .mod (.cl 14 (.cons (.v 0) (.cons (.v 1) .nil))) (.c (.int 2147483563))) (.c (.int 69069))) (.bin .mul (.c (.int 104723)) (.bin .add (.v 1) (.c (.int 1))))) (.c (.int 2147483563)))) (.cons (.set 3 (.bin .mod (.bin .add (.bin .mul (.v 3) (.v 3)) (.bin .fdiv (.v 3) (.c (.int 3)))) (.c (.int 2147483399)))) (.cons (.ret (.bin .mod (.bin .fdiv (.bin .mod (.bin .add (.bin .mul (.v 3) (.v 3)) (.bin .fdiv (.v 3) (.c (.int 7)))) (.c (.int 2147483647))) (.c (.int 11))) (.v 2))) .nil)))⟩
noncomputable abbrev J0:Ev.Fn:=⟨3,4,(.cons (.ret (.me .join (.c (.str [])) (.cons (.comp (.ix (.c (.str [97,98,99,32])) (.cl 15 (.cons (.v 0) (.cons (.bin .add (.bin .add (.v 1) (.c (.int 1))) (.v 3)) (.cons (.c (.int 4)) .nil))))) (.one 3) (.eS (.cons (.cl 15 (.cons (.v 0) (.cons (.v 1) (.cons (.bin .add (.v 2) (.c (.int 1))) .nil)))) .nil)) .no) .nil))) .nil)⟩
noncomputable abbrev J1:Ev.Fn:=⟨1,5,(.cons (.set 1 (.lst .nil)) (.cons (.set 2 (.lst .nil)) (.cons (.for (.many [3,4]) (.seq (.v 0)) (.cons (.iff (.cmp .eq (.v 3) (.c (.str [107,101,101,112]))) (.cons (.set 2 (.bin .add (.v 2) (.dJ (.eS (.cons (.bi .len (.cons (.v 1) .nil)) (.cons (.bin .add (.bi .len (.cons (.v 1) .nil)) (.v 4)) .nil)))))) (.cons (.set 1 (.bin .add (.v 1) (.bin .mul (.lst (.cons (.c (.str [])) .nil)) (.v 4)))) .nil)) (.cons (.iff (.cmp .eq (.v 3) (.c (.str [100,114,111,112]))) (.cons (.set 1 (.bin .add (.v 1) (.dJ (.seq (.v 4))))) .nil) (.cons (.set 2 (.bin .add (.v 2) (.dJ (.seq (.v 4))))) .nil)) .nil)) .nil)) (.cons (.ret (.tup (.cons (.v 1) (.cons (.v 2) .nil)))) .nil))))⟩
noncomputable abbrev J2:Ev.Fn:=⟨1,6,(.cons (.set 1 (.comp (.ix (.v 4) (.c (.int 0))) (.one 4) (.seq (.v 0)) .no)) (.cons (.for (.many [2,3]) (.zip (.v 1) (.sl (.v 1) (.yes (.c (.int 1))) .no)) (.cons (.iff (.orr (.cmp .eq (.v 2) (.v 3)) (.an (.cmp .eq (.v 2) (.c (.str [112,117,116]))) (.cmp .eq (.v 3) (.c (.str [100,114,111,112]))))) (.cons (.ret (.c (.bl false))) .nil) .nil) .nil)) (.cons (.ret (.an (.jt (.v 0) [.tuple]) (.cmp .eq (.comp (.v 5) (.one 5) (.seq (.v 0)) (.yes (.cmp .isin (.ix (.v 5) (.c (.int 1))) (.tup (.cons (.c (.str [])) (.cons (.c (.int 0)) .nil)))))) (.lst .nil)))) .nil)))⟩
noncomputable abbrev C0:Ev.Ss:=(.cons (.set 1 (.bin .add (.v 1) (.comp (.bin .add (.v 3) (.v 2)) (.one 3) (.seq (.v 1)) .no))) .nil)
noncomputable abbrev zZ:Ev.Fn:=⟨1,4,(.cons (.set 1 (.lst (.cons (.c (.str [])) .nil))) (.cons (.for (.one 2) (.seq (.v 0)) C0) (.cons (.ret (.v 1)) .nil)))⟩
noncomputable abbrev C1:Ev.S:=.set 4 (.bi .lC (.cons (.comp (.tup (.cons (.v 14) (.cons (.c (.bl true)) .nil))) (.one 14) (.seq (.cl 19 (.cons (.v 1) .nil))) .no) .nil))
noncomputable abbrev C2:Ev.S:=.set 5 (.bi .nA (.cons (.comp (.bi .len (.cons (.v 15) .nil)) (.one 15) (.seq (.cl 19 (.cons (.v 2) .nil))) (.yes (.cmp .rN (.v 15) (.v 4)))) .nil))
noncomputable abbrev C3:Ev.S:=.set 6 (.bin .sub (.bin .add (.bi .len (.cons (.v 1) .nil)) (.bi .len (.cons (.v 2) .nil))) (.bin .mul (.c (.int 2)) (.v 5)))
noncomputable abbrev C4:Ev.S:=.set 7 (.cl 7 (.cons (.v 1) (.cons (.v 2) .nil)))
noncomputable abbrev C5:Ev.S:=.iff (.orr (.cmp .ne (.cl 6 (.cons (.v 1) (.cons (.v 2) .nil))) (.v 6)) (.orr (.cmp .ne (.cl 3 (.cons (.v 7) .nil)) (.v 6)) (.orr (.nt (.cl 12 (.cons (.v 7) (.cons (.v 1) .nil)))) (.cmp .ne (.cl 13 (.cons (.v 7) (.cons (.v 1) .nil))) (.v 2))))) (.cons (.ret (.c (.bl false))) .nil) .nil
noncomputable abbrev C6:Ev.S:=.iff (.orr (.cmp .ne (.cl 1 (.cons (.v 7) .nil)) (.bi .len (.cons (.v 1) .nil))) (.orr (.cmp .ne (.cl 2 (.cons (.v 7) .nil)) (.bi .len (.cons (.v 2) .nil))) (.nt (.cl 18 (.cons (.v 7) .nil))))) (.cons (.ret (.c (.bl false))) .nil) .nil
noncomputable abbrev C7:Ev.S:=.set 8 (.c (.int 0))
noncomputable abbrev C8:Ev.Ss:=(.cons (.set 8 (.bin .add (.v 8) (.c (.int 1)))) .nil)
noncomputable abbrev t6:Ev.S:=.jT (.an (.cmp .eq (.sl (.v 1) .no (.yes (.bin .add (.v 8) (.c (.int 1))))) (.sl (.v 2) .no (.yes (.bin .add (.v 8) (.c (.int 1)))))) (.cmp .lt (.v 8) (.bi .min (.cons (.bi .len (.cons (.v 1) .nil)) (.cons (.bi .len (.cons (.v 2) .nil)) .nil))))) C8
noncomputable abbrev Aa:Ev.S:=.set 9 (.sl (.v 1) (.yes (.v 8)) .no)
noncomputable abbrev Ab:Ev.S:=.set 10 (.sl (.v 2) (.yes (.v 8)) .no)
noncomputable abbrev Ac:Ev.S:=.set 11 (.c (.int 0))
noncomputable abbrev C9:Ev.Ss:=(.cons (.set 11 (.bin .add (.v 11) (.c (.int 1)))) .nil)
noncomputable abbrev t7:Ev.S:=.jT (.an (.cmp .lt (.v 11) (.bi .min (.cons (.bi .len (.cons (.v 9) .nil)) (.cons (.bi .len (.cons (.v 10) .nil)) .nil)))) (.cmp .eq (.ix (.v 9) (.bin .sub (.bin .sub (.bi .len (.cons (.v 9) .nil)) (.v 11)) (.c (.int 1)))) (.ix (.v 10) (.bin .sub (.bin .sub (.bi .len (.cons (.v 10) .nil)) (.v 11)) (.c (.int 1)))))) C9
noncomputable abbrev Ad:Ev.S:=.set 12 (.bin .add (.bin .add (.bin .mul (.lst (.cons (.c (.str [])) .nil)) (.v 8)) (.dJ (.seq (.sl (.v 9) .no (.yes (.bin .sub (.bi .len (.cons (.v 9) .nil)) (.v 11))))))) (.bin .mul (.lst (.cons (.c (.str [])) .nil)) (.v 11)))
noncomputable abbrev Ae:Ev.S:=.set 13 (.bin .add (.dJ (.eS (.cons (.v 8) .nil))) (.dJ (.seq (.sl (.v 10) .no (.yes (.bin .sub (.bi .len (.cons (.v 10) .nil)) (.v 11)))))))
noncomputable abbrev Af:Ev.S:=.set 13 (.bin .add (.v 13) (.dJ (.eS (.cons (.bin .sub (.bi .len (.cons (.v 1) .nil)) (.v 11)) (.cons (.bi .len (.cons (.v 1) .nil)) .nil)))))
noncomputable abbrev Ag:Ev.S:=.ret (.an (.cmp .eq (.cl 17 (.cons (.cl 10 (.cons (.v 1) (.cons (.v 2) .nil))) .nil)) (.tup (.cons (.v 12) (.cons (.v 13) .nil)))) (.cl 18 (.cons (.cl 10 (.cons (.v 1) (.cons (.v 2) .nil))) .nil)))
noncomputable abbrev Ah:Ev.Fn:=⟨1,16,(.cons (.set 1 (.cl 16 (.cons (.v 0) (.cons (.c (.int 0)) (.cons (.c (.int 6)) .nil))))) (.cons (.set 2 (.cl 16 (.cons (.v 0) (.cons (.c (.int 10)) (.cons (.c (.int 6)) .nil))))) (.cons (.iff (.cmp .eq (.cl 15 (.cons (.v 0) (.cons (.c (.int 20)) (.cons (.c (.int 3)) .nil)))) (.c (.int 0))) (.cons (.set 3 (.cl 15 (.cons (.v 0) (.cons (.c (.int 21)) (.cons (.bin .add (.bi .len (.cons (.v 1) .nil)) (.c (.int 1))) .nil))))) (.cons (.set 2 (.bin .add (.bin .add (.sl (.v 1) .no (.yes (.v 3))) (.ix (.c (.str [122,113])) (.cl 15 (.cons (.v 0) (.cons (.c (.int 22)) (.cons (.c (.int 2)) .nil)))))) (.sl (.v 1) (.yes (.bin .add (.v 3) (.cl 15 (.cons (.v 0) (.cons (.c (.int 23)) (.cons (.c (.int 3)) .nil)))))) .no))) .nil)) .nil) (.cons C1 (.cons C2 (.cons C3 (.cons C4 (.cons C5 (.cons C6 (.cons C7 (.cons t6 (.cons Aa (.cons Ab (.cons Ac (.cons t7 (.cons Ad (.cons Ae (.cons Af (.cons Ag .nil)))))))))))))))))))⟩
noncomputable def prog:List Ev.Fn:=[f0,f1,f2,f3,f4,f5,f6,f7,f8,f9,yw,JU,JV,JX,JY,JZ,J0,J1,J2,zZ,Ah]
end Lw
namespace Lw
open PySem PySem.Spec PyProof.Rows L2 Sm
open Ev (D O Hh Fr R aH E Es Eo T S Ss Fl Src bF bu TY BI ME)
noncomputable def top(i:Nat):Stmt:=PySem.Challenge.pw_pastways_k50_least.main.body.getD i (.Pass ⟨0,0,0,0⟩)
abbrev i0 (a:Nat->Addr) (d:Nat->FuncData):FI:=⟨"size",a 0,d 0,["part"]⟩
abbrev i1 (a:Nat->Addr) (d:Nat->FuncData):FI:=⟨"before",a 1,d 1,["change"]⟩
abbrev i2 (a:Nat->Addr) (d:Nat->FuncData):FI:=⟨"after",a 2,d 2,["change"]⟩
abbrev i3 (a:Nat->Addr) (d:Nat->FuncData):FI:=⟨"cost",a 3,d 3,["change"]⟩
abbrev i4 (a:Nat->Addr) (d:Nat->FuncData):FI:=⟨"form",a 4,d 4,["change"]⟩
abbrev i5 (a:Nat->Addr) (d:Nat->FuncData):FI:=⟨"stretch",a 5,d 5,["kept","gone","new"]⟩
abbrev i6 (a:Nat->Addr) (d:Nat->FuncData):FI:=⟨"least_cost",a 6,d 6,["old","new"]⟩
abbrev i7 (a:Nat->Addr) (d:Nat->FuncData):FI:=⟨"least_change",a 7,d 7,["old","new"]⟩
abbrev i8 (a:Nat->Addr) (d:Nat->FuncData):FI:=⟨"first_costs",a 8,d 8,["old","new"]⟩
abbrev i9 (a:Nat->Addr) (d:Nat->FuncData):FI:=⟨"costs_with",a 9,d 9,["sign","new","costs"]⟩
abbrev J3 (a:Nat->Addr) (d:Nat->FuncData):FI:=⟨"apart",a 10,d 10,["old","new"]⟩
abbrev J4 (a:Nat->Addr) (d:Nat->FuncData):FI:=⟨"alike_many",a 11,d 11,["one","other"]⟩
abbrev i12 (a:Nat->Addr) (d:Nat->FuncData):FI:=⟨"fits",a 12,d 12,["change","text"]⟩
abbrev J5 (a:Nat->Addr) (d:Nat->FuncData):FI:=⟨"done",a 13,d 13,["change","text"]⟩
abbrev J6 (a:Nat->Addr) (d:Nat->FuncData):FI:=⟨"_law_cell",a 14,d 14,["_law_script","_law_k"]⟩
abbrev J7 (a:Nat->Addr) (d:Nat->FuncData):FI:=⟨"_law_drawn",a 15,d 15,["_law_script","_law_k","_law_many"]⟩
abbrev J8 (a:Nat->Addr) (d:Nat->FuncData):FI:=⟨"_law_text",a 16,d 16,["_law_script","_law_at","_law_most"]⟩
abbrev J9 (a:Nat->Addr) (d:Nat->FuncData):FI:=⟨"_law_sense",a 17,d 17,["_law_change"]⟩
abbrev Ka (a:Nat->Addr) (d:Nat->FuncData):FI:=⟨"_law_is_form",a 18,d 18,["_law_change"]⟩
abbrev Kc (a:Nat->Addr) (d:Nat->FuncData):FI:=⟨"_law_subs",a 19,d 19,["_law_text_here"]⟩
abbrev Dc (a:Nat->Addr) (d:Nat->FuncData):FI:=⟨"law",a 20,d 20,["_law_script"]⟩
noncomputable def jE:List Str:=["dict","enumerate","isinstance","len","list","max","min","range","reversed","sum","tuple","zip"]
def Kd:("dict" : Str)∈jE:=by decide +kernel
def ur:("enumerate" : Str)∈jE:=by decide +kernel
def t9:("isinstance" : Str)∈jE:=by decide +kernel
def Mm:("len" : Str)∈jE:=by decide +kernel
def ua:("list" : Str)∈jE:=by decide +kernel
def Mn:("max" : Str)∈jE:=by decide +kernel
def Mp:("min" : Str)∈jE:=by decide +kernel
def qd:("range" : Str)∈jE:=by decide +kernel
def xC:("reversed" : Str)∈jE:=by decide +kernel
def Mq:("sum" : Str)∈jE:=by decide +kernel
def qe:("tuple" : Str)∈jE:=by decide +kernel
def De:("zip" : Str)∈jE:=by decide +kernel
noncomputable def tb (a:Nat->Addr) (d:Nat->FuncData):Tb:=⟨prog,100000,[i0 a d,i1 a d,i2 a d,i3 a d,i4 a d,i5 a d,i6 a d,i7 a d,i8 a d,i9 a d,J3 a d,J4 a d,i12 a d,J5 a d,J6 a d,J7 a d,J8 a d,J9 a d,Ka a d,Kc a d,Dc a d],jE,[("__name__",.str [108,97,119,95,112,97,115,116,119,97,121,115,95,107,53,48,95,108,101,97,115,116])],[]⟩
section
variable{a:Nat->Addr}{d:Nat->FuncData}{n:Nat}
abbrev n0:List Str:=["part"]
def s0:bE n0 ["part"] (aJ (top 1)):=⟨rfl,rfl,rfl,by decide +kernel,rfl,by decide +kernel,by decide +kernel⟩
abbrev n1:List Str:=["change"]
def s1:bE n1 ["change"] (aJ (top 2)):=⟨rfl,rfl,rfl,by decide +kernel,rfl,by decide +kernel,by decide +kernel⟩
abbrev n2:List Str:=["change"]
def s2:bE n2 ["change"] (aJ (top 3)):=⟨rfl,rfl,rfl,by decide +kernel,rfl,by decide +kernel,by decide +kernel⟩
abbrev n3:List Str:=["change"]
def s3:bE n3 ["change"] (aJ (top 4)):=⟨rfl,rfl,rfl,by decide +kernel,rfl,by decide +kernel,by decide +kernel⟩
abbrev n4:List Str:=["change","parts","kept","gone","new","word","what"]
def s4:bE n4 ["change"] (aJ (top 5)):=⟨rfl,rfl,rfl,by decide +kernel,rfl,by decide +kernel,by decide +kernel⟩
abbrev n5:List Str:=["kept","gone","new","parts"]
def s5:bE n5 ["kept","gone","new"] (aJ (top 6)):=⟨rfl,rfl,rfl,by decide +kernel,rfl,by decide +kernel,by decide +kernel⟩
abbrev n6:List Str:=["old","new"]
def s6:bE n6 ["old","new"] (aJ (top 8)):=⟨rfl,rfl,rfl,by decide +kernel,rfl,by decide +kernel,by decide +kernel⟩
abbrev n7:List Str:=["old","new","costs","parts","left","wanted"]
def s7:bE n7 ["old","new"] (aJ (top 9)):=⟨rfl,rfl,rfl,by decide +kernel,rfl,by decide +kernel,by decide +kernel⟩
abbrev n8:List Str:=["old","new","rows","sign"]
def s8:bE n8 ["old","new"] (aJ (top 10)):=⟨rfl,rfl,rfl,by decide +kernel,rfl,by decide +kernel,by decide +kernel⟩
abbrev n9:List Str:=["sign","new","costs","row","place","wanted"]
def s9:bE n9 ["sign","new","costs"] (aJ (top 11)):=⟨rfl,rfl,rfl,by decide +kernel,rfl,by decide +kernel,by decide +kernel⟩
abbrev Ke:List Str:=["old","new","first","gone","put","last","parts"]
def ju:bE Ke ["old","new"] (aJ (top 12)):=⟨rfl,rfl,rfl,by decide +kernel,rfl,by decide +kernel,by decide +kernel⟩
abbrev Kf:List Str:=["one","other","many","sign","wanted"]
def iL:bE Kf ["one","other"] (aJ (top 13)):=⟨rfl,rfl,rfl,by decide +kernel,rfl,by decide +kernel,by decide +kernel⟩
abbrev Kg:List Str:=["change","text","place","part"]
def s12:bE Kg ["change","text"] (aJ (top 18)):=⟨rfl,rfl,rfl,by decide +kernel,rfl,by decide +kernel,by decide +kernel⟩
abbrev Kh:List Str:=["change","text","pieces","place","word","what"]
def fH:bE Kh ["change","text"] (aJ (top 19)):=⟨rfl,rfl,rfl,by decide +kernel,rfl,by decide +kernel,by decide +kernel⟩
abbrev Kl:List Str:=["_law_script","_law_k"]
def Qy:bE Kl ["_law_script","_law_k"] (aJ (top 21)):=⟨rfl,rfl,rfl,by decide +kernel,rfl,by decide +kernel,by decide +kernel⟩
abbrev Km:List Str:=["_law_script","_law_k","_law_many","_law_cell_here"]
def Qz:bE Km ["_law_script","_law_k","_law_many"] (aJ (top 22)):=⟨rfl,rfl,rfl,by decide +kernel,rfl,by decide +kernel,by decide +kernel⟩
abbrev Kn:List Str:=["_law_script","_law_at","_law_most"]
def QA:bE Kn ["_law_script","_law_at","_law_most"] (aJ (top 23)):=⟨rfl,rfl,rfl,by decide +kernel,rfl,by decide +kernel,by decide +kernel⟩
abbrev Ko:List Str:=["_law_change","_law_asks","_law_told","_law_word","_law_what"]
def QB:bE Ko ["_law_change"] (aJ (top 24)):=⟨rfl,rfl,rfl,by decide +kernel,rfl,by decide +kernel,by decide +kernel⟩
abbrev Kp:List Str:=["_law_change","_law_words","_law_one","_law_other"]
def QC:bE Kp ["_law_change"] (aJ (top 25)):=⟨rfl,rfl,rfl,by decide +kernel,rfl,by decide +kernel,by decide +kernel⟩
abbrev Kq:List Str:=["_law_text_here","_law_found","_law_sign"]
def QD:bE Kq ["_law_text_here"] (aJ (top 26)):=⟨rfl,rfl,rfl,by decide +kernel,rfl,by decide +kernel,by decide +kernel⟩
abbrev Kr:List Str:=["_law_script","_law_old","_law_new","_law_at","_law_both","_law_most","_law_due","_law_change","_law_ahead","_law_mine","_law_yours","_law_behind","_law_asks","_law_told"]
def QE:bE Kr ["_law_script"] (aJ (top 27)):=⟨rfl,rfl,rfl,by decide +kernel,rfl,by decide +kernel,by decide +kernel⟩
set_option maxHeartbeats 0 in
def dW:allB (tb a d) n [(f0.body,top 1,n0),(f1.body,top 2,n1),(f2.body,top 3,n2),(f3.body,top 4,n3),(f4.body,top 5,n4),(f5.body,top 6,n5),(f6.body,top 8,n6),(f7.body,top 9,n7),(f8.body,top 10,n8),(f9.body,top 11,n9),(yw.body,top 12,Ke),(JU.body,top 13,Kf),(JV.body,top 18,Kg),(JX.body,top 19,Kh),(JY.body,top 21,Kl),(JZ.body,top 22,Km),(J0.body,top 23,Kn),(J1.body,top 24,Ko),(J2.body,top 25,Kp),(zZ.body,top 26,Kq),(Ah.body,top 27,Kr)]:=by
 refine⟨?_,?_,?_,?_,?_,?_,?_,?_,?_,?_,?_,?_,?_,?_,?_,?_,?_,?_,?_,?_,?_,trivial⟩;all_goals try dsimp only
 all_goals repeat (first
  | ((with_reducible show JE _ _ _ _ _ _ _ (.BoolOp _ [_] _));refine GJ ?_)
  | ((with_reducible show JE _ _ _ _ _ _ (.v _) _);exact jv (by decide +kernel))
  | ((with_reducible show JA _ _ _ _ _ _ (.cons _ _) _);refine DI ?_ ?_)
  | ((with_reducible show kP _ _ _ _ _ _ (.cons _ _) _);refine AR ?_ ?_)
  | ((with_reducible show JA _ _ _ _ _ _ .nil _);refine GF)
  | ((with_reducible show JE _ _ _ _ _ _ (.c (.int _)) _);refine yg)
  | ((with_reducible show kP _ _ _ _ _ _ .nil _);refine DP)
  | ((with_reducible show JE _ _ _ _ _ _ (.bin .add _ _) _);refine lD (λX g=>Hj) ?_ ?_)
  | ((with_reducible show JE _ _ _ _ _ _ (.cl _ _) _);refine P4 (by decide +kernel) rfl rfl ?_)
  | ((with_reducible show JE _ _ _ _ _ _ (.c (.str _)) _);refine GD)
  | ((with_reducible show JE _ _ _ _ _ _ (.ix _ _) _);refine Lm (λX g=>Lz) ?_ ?_)
  | ((with_reducible show JS _ _ _ _ _ _ (.ret _) _);refine G1 ?_)
  | ((with_reducible show JE _ _ _ _ _ _ (.bi .len _) _);refine qV (x:="len") (id:="len") (λX g=>Hy) ?_ (hb:=Mm) (hv:=by decide +kernel))
  | ((with_reducible show JS _ _ _ _ _ _ (.iff _ _ _) _);refine G2 ?_ ?_ ?_)
  | ((with_reducible show JE _ _ _ _ _ _ (.bin .sub _ _) _);refine lD (λX g=>Hl) ?_ ?_)
  | ((with_reducible show JT _ _ _ _ _ _ (.cmp .eq _ _) _);refine jU (λX g=>Cs g) ?_ ?_ (kY _))
  | ((with_reducible show JO _ _ _ _ _ _ (.yes _) _);refine GQ ?_)
  | ((with_reducible show JT _ _ _ _ _ _ (.cmp .ne _ _) _);refine jU (λX g=>Lu g) ?_ ?_ (kY _))
  | ((with_reducible show JE _ _ _ _ _ _ (.sl _ _ _) _);refine Lo (λX g=>Hv) ?_ ?_ ?_)
  | ((with_reducible show JI _ _ _ _ _ _ (.seq _) _ _);refine GW ?_)
  | ((with_reducible show JE _ _ _ _ _ _ (.lst _) _);refine GH ?_)
  | ((with_reducible show JS _ _ _ _ _ _ (.exp _) _);refine G0 ?_)
  | ((with_reducible show JO _ _ _ _ _ _ .no _);refine Ln)
  | ((with_reducible show JG _ _ _ _ _ _ (.one _) _);exact PZ (by decide +kernel))
  | ((with_reducible show qA _ _ _ _ _ _ (_ :: _) _);refine P0 (by decide +kernel) ?_)
  | ((with_reducible show JE _ _ _ _ _ _ (.me .append _ (.cons _ _)) _);refine wc TM U6 U5 (λX g=>yE) rfl ?_ ?_)
  | ((with_reducible show JE _ _ _ _ _ _ (.tup _) _);refine GG ?_)
  | ((with_reducible show JE _ _ _ _ _ _ (.bin .mul _ _) _);refine lD (λX g=>Hw) ?_ ?_)
  | ((with_reducible show JS _ _ _ _ _ _ (.for _ _ _) _);refine G4 ?_ ?_ ?_)
  | ((with_reducible show JE _ _ _ _ _ _ (.comp _ _ _ _) _);refine LG (by decide +kernel) (by decide +kernel) ?_ ?_ ?_ ?_)
  | ((with_reducible show JT _ _ _ _ _ _ (.orr _ _) _);refine Oo ?_ ?_)
  | ((with_reducible show JW _ _ _ _ _ _ (.orr _ _) (.BoolOp _ (_ :: _ :: _) _));refine yi ?_ ?_)
  | ((with_reducible show JT _ _ _ _ _ _ (.cmp .gt _ _) _);refine jU (λX g=>Lx) ?_ ?_ (kY _))
  | ((with_reducible show JT _ _ _ _ _ _ (.an _ _) _);refine Om ?_ ?_)
  | ((with_reducible show JW _ _ _ _ _ _ (.an _ _) (.BoolOp _ (_ :: _ :: _) _));refine Cd ?_ ?_)
  | ((with_reducible show JG _ _ _ _ _ _ (.many _) _);refine DO ?_)
  | ((with_reducible show qA _ _ _ _ _ _ [] _);refine DN)
  | ((with_reducible show JW _ _ _ _ _ _ _ (.BoolOp .And [_] _));refine GL ?_)
  | ((with_reducible show JE _ _ _ _ _ _ (.bin .mod _ _) _);refine lD (λX g=>Ho) ?_ ?_)
  | ((with_reducible show JC _ _ _ _ _ _ (.yes _) _);refine G5 ?_)
  | ((with_reducible show JW _ _ _ _ _ _ _ (.BoolOp .Or [_] _));refine DJ ?_)
  | ((with_reducible show JE _ _ _ _ _ _ (.c (.bl _)) _);refine Lj)
  | ((with_reducible show JE _ _ _ _ _ _ (.bin .fdiv _ _) _);refine lD (λX g=>DX) ?_ ?_)
  | ((with_reducible show JC _ _ _ _ _ _ .no _);refine Lq)
  | ((with_reducible show JE _ _ _ _ _ _ (.dJ (.seq _)) _);refine HB ?_ (h1:=ua))
  | ((with_reducible show JE _ _ _ _ _ _ (.bi .sum _) _);refine qV (x:="sum") (id:="sum") (λX g=>Hx g) ?_ (hb:=Mq) (hv:=by decide +kernel))
  | ((with_reducible show JE _ _ _ _ _ _ (.neg _) _);refine yh ?_)
  | ((with_reducible show JS _ _ _ _ _ _ (.jT _ _) _);refine G3 ?_ ?_)
  | ((with_reducible show JT _ _ _ _ _ _ (.cmp .lt _ _) _);refine jU (λX g=>Lv) ?_ ?_ (kY _))
  | ((with_reducible show JE _ _ _ _ _ _ (.bi .min _) _);refine qV (x:="min") (id:="min") (λX g=>Hz g) ?_ (hb:=Mp) (hv:=by decide +kernel))
  | ((with_reducible show JE _ _ _ _ _ _ (.cmp .eq _ _) _);refine GI (λX g=>Cs g) ?_ ?_ (kY _))
  | ((with_reducible show JT _ _ _ _ _ _ (.nt _) _);refine Ll ?_)
  | ((with_reducible show JE _ _ _ _ _ _ (.me .extend _ (.cons _ _)) _);refine wc TM PySem.F.slot_list_extend PySem.F.type_list_extend (λX g=>yF) rfl ?_ ?_)
  | ((with_reducible show JE _ _ _ _ _ _ (.iw _) _);refine HD ?_ (h1:=qe))
  | ((with_reducible show JE _ _ _ _ _ _ (.dJ (.eS (.cons _ .nil))) _);refine A2 ?_ (h1:=ua) (hb:=qd))
  | ((with_reducible show JE _ _ _ _ _ _ (.rv _) _);refine LA ?_)
  | ((with_reducible show JE _ _ _ _ _ _ (.me .join _ (.cons _ _)) _);refine wc PySem.F.plainAttrs_str PySem.F.slot_str_join PySem.F.type_str_join (λX g=>D4) rfl ?_ ?_)
  | ((with_reducible show JE _ _ _ _ _ _ (.dJ (.eS (.cons _ (.cons _ .nil)))) _);refine A1 ?_ (h1:=ua) (hb:=qd))
  | ((with_reducible show JE _ _ _ _ _ _ (.an _ _) (.BoolOp _ (_ :: _ :: _) _));refine Lk ?_ ?_)
  | ((with_reducible show JE _ _ _ _ _ _ (.jS _) _);refine HJ ?_ (h1:=qe) (hb:=xC))
  | ((with_reducible show JI _ _ _ _ _ _ (.jc _) _ _);refine A7 ?_ (qM:=ur))
  | ((with_reducible show JI _ _ _ _ _ _ (.jd _ _) _ _);refine Eb ?_ ?_ (qM:=De))
  | ((with_reducible show JS _ _ _ _ _ _ (.fJ _) _);refine HE)
  | ((with_reducible show JI _ _ _ _ _ _ (.eS (.cons _ .nil)) _ _);refine DM ?_ (hb:=qd))
  | ((with_reducible show JS _ _ _ _ _ _ (.set _ (.comp _ _ _ _)) _);refine LH (by decide +kernel) (by decide +kernel) (by decide +kernel) ?_ ?_ ?_ ?_)
  | ((with_reducible show JI _ _ _ _ _ _ (.zip _ _) _ _);refine HH ?_ ?_ (qM:=De))
  | ((with_reducible show JE _ _ _ _ _ _ (.jt _ [.tuple]) _);refine HA (t:=.tuple) (T:="tuple") ?_ (by decide +kernel) (h1:=t9) (h2:=qe))
  | ((with_reducible show JT _ _ _ _ _ _ (.cmp .isin _ _) _);refine jU (λX g=>Ly g) ?_ ?_ (by with_unfolding_all rfl))
  | ((with_reducible show JE _ _ _ _ _ _ (.bi .lC _) _);refine Ef ?_ (h1:=Kd))
  | ((with_reducible show JE _ _ _ _ _ _ (.bi .nA _) _);refine qV (x:="max") (id:="max") (λX g=>Eg g) ?_ (hb:=Mn) (hv:=by decide +kernel))
  | ((with_reducible show JT _ _ _ _ _ _ (.cmp .rN _ _) _);refine jU (λX g=>HW g) ?_ ?_ (by with_unfolding_all rfl))
  | ((with_reducible show JS _ _ _ _ _ _ (.set _ _) _);refine Ol ?_ ?_;decide +kernel)
  | ((with_reducible show JT _ _ _ _ _ _ _ _);refine GO ?_))
end
def jM{α:Type _}{l:List α}(h:l.length=1):∃a,l=[a]:=by
 rcases l with _|⟨a,_|⟨b,l⟩⟩<;>simp at h ⊢
def kK{α:Type _}{l:List α}(h:l.length=2):∃a b,l=[a,b]:=by
 rcases l with _|⟨a,l⟩
 .simp at h
 .obtain⟨b,rfl⟩:=jM (l:=l) (by simpa using h);exact⟨a,b,rfl⟩
def xD{α:Type _}{l:List α}(h:l.length=3):∃a b c,l=[a,b,c]:=by
 rcases l with _|⟨a,l⟩
 .simp at h
 .obtain⟨b,c,rfl⟩:=kK (l:=l) (by simpa using h);exact⟨a,b,c,rfl⟩
structure Fg(K:PySem.W.Frag)(x:Str)(i:Nat)(p:Addr)(d:FuncData):Prop where
 a:PySem.W.nsIn K mainGlobals x=some (some (.ref p))
 f:rM K x x (top i) p d
def Fg.t{K:PySem.W.Frag}{h:Heap}{mg:Str->Option Value}{x:Str}{i:Nat}{p:Addr}{d:FuncData}{ps:List Str}(F:Fg K x i p d)(X:K.In h)(G:h.Ns mainGlobals mg)(b:Binds K d ps []):mg x=some (.ref p)/\PySem.W.keepIn K (.ref p)=true/\Binds K d ps []:=⟨Uv X G F.a,F.f.kp,b⟩
def all_mk {l:PySem.W.OpenLaw}{w:World}{K:PySem.W.Frag}{h:Heap}{mg:Str->Option Value}{fa p0 p1 p2 p3 p4 p5 p6 p7 p8 p9 M8 M9 Na Nb Nc Nd Nf Ng Nh Ni Ks:Addr}{d0 d1 d2 d3 d4 d5 d6 d7 d8 d9 Nj Nk Nl Nm Nn Np Nq Nr Nt Nu Ku:FuncData}(X:K.In h) (G:h.Ns mainGlobals mg) (QF:mg "law" = some (.ref fa))
  (F0:Fg K "size" 1 p0 d0)
  (F1:Fg K "before" 2 p1 d1)
  (F2:Fg K "after" 3 p2 d2)
  (F3:Fg K "cost" 4 p3 d3)
  (F4:Fg K "form" 5 p4 d4)
  (F5:Fg K "stretch" 6 p5 d5)
  (F6:Fg K "least_cost" 8 p6 d6)
  (F7:Fg K "least_change" 9 p7 d7)
  (F8:Fg K "first_costs" 10 p8 d8)
  (F9:Fg K "costs_with" 11 p9 d9)
  (Kv:Fg K "apart" 12 M8 Nj)
  (Kw:Fg K "alike_many" 13 M9 Nk)
  (Ky:Fg K "fits" 18 Na Nl)
  (Kz:Fg K "done" 19 Nb Nm)
  (KA:Fg K "_law_cell" 21 Nc Nn)
  (KC:Fg K "_law_drawn" 22 Nd Np)
  (KD:Fg K "_law_text" 23 Nf Nq)
  (KG:Fg K "_law_sense" 24 Ng Nr)
  (KH:Fg K "_law_is_form" 25 Nh Nt)
  (KI:Fg K "_law_subs" 26 Ni Nu)
  (Ai:Fg K "law" 27 Ks Ku)
  (z0:PySem.W.nsIn K mainGlobals "dict" = some none)
  (z1:PySem.W.nsIn K mainGlobals "enumerate" = some none)
  (z2:PySem.W.nsIn K mainGlobals "isinstance" = some none)
  (z3:PySem.W.nsIn K mainGlobals "len" = some none)
  (z4:PySem.W.nsIn K mainGlobals "list" = some none)
  (z5:PySem.W.nsIn K mainGlobals "max" = some none)
  (z6:PySem.W.nsIn K mainGlobals "min" = some none)
  (z7:PySem.W.nsIn K mainGlobals "range" = some none)
  (z8:PySem.W.nsIn K mainGlobals "reversed" = some none)
  (z9:PySem.W.nsIn K mainGlobals "sum" = some none)
  (Nv:PySem.W.nsIn K mainGlobals "tuple" = some none)
  (Nx:PySem.W.nsIn K mainGlobals "zip" = some none)
  {t0:Tok} (q0:PySem.W.nsIn K mainGlobals "__name__" = some (some (.str "law_pastways_k50_least" t0)))
  : ∃fd:FuncData,(∀(s:Shared) (v:Value),BindsTo s fd ⟨[v],[]⟩ [("_law_script",v)])/\∀base:Heap,K.In base->base.Ns mainGlobals mg->gK l.prog w K mg base lB 60 fa fd ["_law_script"] (mX K prog 100000 60 20):=by
 have e:=QF.symm.trans (Uv X G Ai.a);have p:Ks=fa:=by injection e with e;injection e with e;exact e.symm
 subst p
 let aa:Nat->Addr:=λk=>[p0,p1,p2,p3,p4,p5,p6,p7,p8,p9,M8,M9,Na,Nb,Nc,Nd,Nf,Ng,Nh,Ni,Ks].getD k p0
 let dd:Nat->FuncData:=λk=>[d0,d1,d2,d3,d4,d5,d6,d7,d8,d9,Nj,Nk,Nl,Nm,Nn,Np,Nq,Nr,Nt,Nu,Ku].getD k d0
 have T:Top l.prog w K mg (tb aa dd):=by
  refine⟨λf i b=>(show ∀i∈(tb aa dd).fi,mg i.name=some (.ref i.addr)/\PySem.W.keepIn K (.ref i.addr)=true/\Binds K i.fd i.ps []from ?_) i (RX b),?_,?_,?_⟩
  .refine List.forall_mem_cons.mpr ⟨F0.t X G (F0.f.binds λ_ _ _ _ _ _ g c=>by obtain⟨_,rfl⟩:=jM c;rfl),?_⟩;refine List.forall_mem_cons.mpr ⟨F1.t X G (F1.f.binds λ_ _ _ _ _ _ g c=>by obtain⟨_,rfl⟩:=jM c;rfl),?_⟩;refine List.forall_mem_cons.mpr ⟨F2.t X G (F2.f.binds λ_ _ _ _ _ _ g c=>by obtain⟨_,rfl⟩:=jM c;rfl),?_⟩;refine List.forall_mem_cons.mpr ⟨F3.t X G (F3.f.binds λ_ _ _ _ _ _ g c=>by obtain⟨_,rfl⟩:=jM c;rfl),?_⟩;refine List.forall_mem_cons.mpr ⟨F4.t X G (F4.f.binds λ_ _ _ _ _ _ g c=>by obtain⟨_,rfl⟩:=jM c;rfl),?_⟩;refine List.forall_mem_cons.mpr ⟨F5.t X G (F5.f.binds λ_ _ _ _ _ _ g c=>by obtain⟨_,_,_,rfl⟩:=xD c;rfl),?_⟩;refine List.forall_mem_cons.mpr ⟨F6.t X G (F6.f.binds λ_ _ _ _ _ _ g c=>by obtain⟨_,_,rfl⟩:=kK c;rfl),?_⟩;refine List.forall_mem_cons.mpr ⟨F7.t X G (F7.f.binds λ_ _ _ _ _ _ g c=>by obtain⟨_,_,rfl⟩:=kK c;rfl),?_⟩;refine List.forall_mem_cons.mpr ⟨F8.t X G (F8.f.binds λ_ _ _ _ _ _ g c=>by obtain⟨_,_,rfl⟩:=kK c;rfl),?_⟩;refine List.forall_mem_cons.mpr ⟨F9.t X G (F9.f.binds λ_ _ _ _ _ _ g c=>by obtain⟨_,_,_,rfl⟩:=xD c;rfl),?_⟩;refine List.forall_mem_cons.mpr ⟨Kv.t X G (Kv.f.binds λ_ _ _ _ _ _ g c=>by obtain⟨_,_,rfl⟩:=kK c;rfl),?_⟩;refine List.forall_mem_cons.mpr ⟨Kw.t X G (Kw.f.binds λ_ _ _ _ _ _ g c=>by obtain⟨_,_,rfl⟩:=kK c;rfl),?_⟩;refine List.forall_mem_cons.mpr ⟨Ky.t X G (Ky.f.binds λ_ _ _ _ _ _ g c=>by obtain⟨_,_,rfl⟩:=kK c;rfl),?_⟩;refine List.forall_mem_cons.mpr ⟨Kz.t X G (Kz.f.binds λ_ _ _ _ _ _ g c=>by obtain⟨_,_,rfl⟩:=kK c;rfl),?_⟩;refine List.forall_mem_cons.mpr ⟨KA.t X G (KA.f.binds λ_ _ _ _ _ _ g c=>by obtain⟨_,_,rfl⟩:=kK c;rfl),?_⟩;refine List.forall_mem_cons.mpr ⟨KC.t X G (KC.f.binds λ_ _ _ _ _ _ g c=>by obtain⟨_,_,_,rfl⟩:=xD c;rfl),?_⟩;refine List.forall_mem_cons.mpr ⟨KD.t X G (KD.f.binds λ_ _ _ _ _ _ g c=>by obtain⟨_,_,_,rfl⟩:=xD c;rfl),?_⟩;refine List.forall_mem_cons.mpr ⟨KG.t X G (KG.f.binds λ_ _ _ _ _ _ g c=>by obtain⟨_,rfl⟩:=jM c;rfl),?_⟩;refine List.forall_mem_cons.mpr ⟨KH.t X G (KH.f.binds λ_ _ _ _ _ _ g c=>by obtain⟨_,rfl⟩:=jM c;rfl),?_⟩;refine List.forall_mem_cons.mpr ⟨KI.t X G (KI.f.binds λ_ _ _ _ _ _ g c=>by obtain⟨_,rfl⟩:=jM c;rfl),?_⟩;refine List.forall_mem_cons.mpr ⟨Ai.t X G (Ai.f.binds λ_ _ _ _ _ _ g c=>by obtain⟨_,rfl⟩:=jM c;rfl),?_⟩;exact λ_ h=>nomatch h
  .exact(show ∀x∈jE,mg x=none from List.forall_mem_cons.mpr ⟨SD X G z0,List.forall_mem_cons.mpr ⟨SD X G z1,List.forall_mem_cons.mpr ⟨SD X G z2,List.forall_mem_cons.mpr ⟨SD X G z3,List.forall_mem_cons.mpr ⟨SD X G z4,List.forall_mem_cons.mpr ⟨SD X G z5,List.forall_mem_cons.mpr ⟨SD X G z6,List.forall_mem_cons.mpr ⟨SD X G z7,List.forall_mem_cons.mpr ⟨SD X G z8,List.forall_mem_cons.mpr ⟨SD X G z9,List.forall_mem_cons.mpr ⟨SD X G Nv,List.forall_mem_cons.mpr ⟨SD X G Nx,λ_ h=>nomatch h⟩⟩⟩⟩⟩⟩⟩⟩⟩⟩⟩⟩)
  .exact λx d o=>(show ∀y∈(tb aa dd).cs,∃v u,mg y.1=some u/\RelV v u/\uI K y.2 v from List.forall_mem_cons.mpr ⟨⟨.str "law_pastways_k50_least",_,Uv X G q0,⟨_,rfl⟩,λ_ _=>⟨by decide +kernel,by decide⟩⟩,λ_ h=>nomatch h⟩) (x,d) o
  .exact λx d o=>(show ∀y∈(tb aa dd).dk,∃a,mg y.1=some (.ref a)/\∀h:Heap,K.In h->StrTab l.prog w h a (tabOf y.2)from λ_ h=>nomatch h) (x,d) o
 refine⟨Ku,λs v=>?_,λbase _ _=>?_⟩
 .obtain⟨A,B,kV,q,C,F,r,H,z,e,_⟩:=Ai.f.ex;rw[e];exact .of_eq rfl
 refine yN (P:=l.prog) (w:=w) (base:=base) T (λn A0 f i b=>?_) 60 20 (Dc aa dd) rfl
 match f,b with
 |0,b=>obtain rfl:i0 aa dd=i:=jC b;exact cS (i:=i0 aa dd) T A0 F0.f s0 rfl rfl (@allB.get _ _ _ 0 (f0.body,top 1,n0) dW rfl)
 |1,b=>obtain rfl:i1 aa dd=i:=jC b;exact cS (i:=i1 aa dd) T A0 F1.f s1 rfl rfl (@allB.get _ _ _ 1 (f1.body,top 2,n1) dW rfl)
 |2,b=>obtain rfl:i2 aa dd=i:=jC b;exact cS (i:=i2 aa dd) T A0 F2.f s2 rfl rfl (@allB.get _ _ _ 2 (f2.body,top 3,n2) dW rfl)
 |3,b=>obtain rfl:i3 aa dd=i:=jC b;exact cS (i:=i3 aa dd) T A0 F3.f s3 rfl rfl (@allB.get _ _ _ 3 (f3.body,top 4,n3) dW rfl)
 |4,b=>obtain rfl:i4 aa dd=i:=jC b;exact cS (i:=i4 aa dd) T A0 F4.f s4 rfl rfl (@allB.get _ _ _ 4 (f4.body,top 5,n4) dW rfl)
 |5,b=>obtain rfl:i5 aa dd=i:=jC b;exact cS (i:=i5 aa dd) T A0 F5.f s5 rfl rfl (@allB.get _ _ _ 5 (f5.body,top 6,n5) dW rfl)
 |6,b=>obtain rfl:i6 aa dd=i:=jC b;exact cS (i:=i6 aa dd) T A0 F6.f s6 rfl rfl (@allB.get _ _ _ 6 (f6.body,top 8,n6) dW rfl)
 |7,b=>obtain rfl:i7 aa dd=i:=jC b;exact cS (i:=i7 aa dd) T A0 F7.f s7 rfl rfl (@allB.get _ _ _ 7 (f7.body,top 9,n7) dW rfl)
 |8,b=>obtain rfl:i8 aa dd=i:=jC b;exact cS (i:=i8 aa dd) T A0 F8.f s8 rfl rfl (@allB.get _ _ _ 8 (f8.body,top 10,n8) dW rfl)
 |9,b=>obtain rfl:i9 aa dd=i:=jC b;exact cS (i:=i9 aa dd) T A0 F9.f s9 rfl rfl (@allB.get _ _ _ 9 (f9.body,top 11,n9) dW rfl)
 |10,b=>obtain rfl:J3 aa dd=i:=jC b;exact cS (i:=J3 aa dd) T A0 Kv.f ju rfl rfl (@allB.get _ _ _ 10 (yw.body,top 12,Ke) dW rfl)
 |11,b=>obtain rfl:J4 aa dd=i:=jC b;exact cS (i:=J4 aa dd) T A0 Kw.f iL rfl rfl (@allB.get _ _ _ 11 (JU.body,top 13,Kf) dW rfl)
 |12,b=>obtain rfl:i12 aa dd=i:=jC b;exact cS (i:=i12 aa dd) T A0 Ky.f s12 rfl rfl (@allB.get _ _ _ 12 (JV.body,top 18,Kg) dW rfl)
 |13,b=>obtain rfl:J5 aa dd=i:=jC b;exact cS (i:=J5 aa dd) T A0 Kz.f fH rfl rfl (@allB.get _ _ _ 13 (JX.body,top 19,Kh) dW rfl)
 |14,b=>obtain rfl:J6 aa dd=i:=jC b;exact cS (i:=J6 aa dd) T A0 KA.f Qy rfl rfl (@allB.get _ _ _ 14 (JY.body,top 21,Kl) dW rfl)
 |15,b=>obtain rfl:J7 aa dd=i:=jC b;exact cS (i:=J7 aa dd) T A0 KC.f Qz rfl rfl (@allB.get _ _ _ 15 (JZ.body,top 22,Km) dW rfl)
 |16,b=>obtain rfl:J8 aa dd=i:=jC b;exact cS (i:=J8 aa dd) T A0 KD.f QA rfl rfl (@allB.get _ _ _ 16 (J0.body,top 23,Kn) dW rfl)
 |17,b=>obtain rfl:J9 aa dd=i:=jC b;exact cS (i:=J9 aa dd) T A0 KG.f QB rfl rfl (@allB.get _ _ _ 17 (J1.body,top 24,Ko) dW rfl)
 |18,b=>obtain rfl:Ka aa dd=i:=jC b;exact cS (i:=Ka aa dd) T A0 KH.f QC rfl rfl (@allB.get _ _ _ 18 (J2.body,top 25,Kp) dW rfl)
 |19,b=>obtain rfl:Kc aa dd=i:=jC b;exact cS (i:=Kc aa dd) T A0 KI.f QD rfl rfl (@allB.get _ _ _ 19 (zZ.body,top 26,Kq) dW rfl)
 |20,b=>obtain rfl:Dc aa dd=i:=jC b;exact cS (i:=Dc aa dd) T A0 Ai.f QE rfl rfl (@allB.get _ _ _ 20 (Ah.body,top 27,Kr) dW rfl)
 |j+21,b=>exact nomatch (show(none:Option FI)=some i from b)
end Lw
namespace Lg
open Pv
open Lw (prog zZ Ah C0 C8 C9)
open Ev (deep big rep cut bH)
noncomputable def vH(f:List (List Nat))(c:Nat):List (List Nat):=f++f.map λs=>s++[c]
noncomputable def cC(t:List Nat):List (List Nat):=t.foldl vH [[]]
theorem Aj:∀(t:List Nat) (acc:List (List Nat)) (s:List Nat),s∈t.foldl vH acc↔∃x y,x∈acc/\List.Sublist y t/\s=x++y
 |[],acc,s=>⟨λh=>⟨s,[],h,.slnil,by simp⟩,λ⟨x,y,a,b,d⟩=>by cases b;simpa[d]using a⟩
 |c :: t,acc,s=>by
  rw[SA,Aj t];constructor
  .rintro⟨x,y,a,b,d⟩;rcases List.mem_append.mp a with a|a
   .exact⟨x,y,a,.cons _ b,d⟩
   .obtain⟨z,e,rfl⟩:=List.mem_map.mp a;exact⟨z,c :: y,e,.cons_cons _ b,by simp[d]⟩
  .rintro⟨x,y,a,b,d⟩;cases b with
   |cons _ b=>exact⟨x,y,Vs _ a,b,d⟩
   |@cons_cons f _ _ b=>exact⟨x++[c],f,So _ (List.mem_map.mpr ⟨x,a,rfl⟩),b,by simp[d]⟩
def gT(t s:List Nat):s∈cC t↔List.Sublist s t:=by
 unfold cC;rw[Aj];exact⟨λ⟨x,y,a,b,c⟩=>by simp at a;subst a;simpa[c]using b,λh=>⟨[],s,by simp,h,rfl⟩⟩
theorem Ak:∀(t:List Nat) (acc:List (List Nat)),(t.foldl vH acc).length=acc.length*2 ^ t.length
 |[],acc=>by simp
 |c :: t,acc=>by
  rw[SA,Ak t,vH,R1,Se,R3,Nat.pow_succ,<-Nat.two_mul];rw[Nat.mul_comm 2,Nat.mul_assoc,Nat.mul_comm 2]
def qf{t:List Nat}(h:t.length<=13):(cC t).length<=8192:=by
 unfold cC;rw[Ak];have:=Nat.pow_le_pow_right (n:=2) (by decide) h;simpa using this
def BV(t:List Nat)(c:Nat):cC (t++[c])=vH (cC t) c:=by unfold cC;rw[Ur];rfl
def Am{s a:List Nat}(h:List.Sublist s a):dl a s+s.length<=a.length:=by
 induction h with
 |slnil=>simp[dl]
 |@cons s a x h b=>have:=(dl_step _ a s x (oM _)).1;simp;omega
 |@cons_cons s a x h b=>rw[gg];simp;omega
def KJ{s a b:List Nat}(h:List.Sublist s a)(g:List.Sublist s b):dl a b+2*s.length<=a.length+b.length:=by
 have c:=Am h;have d:=Am g;have e:=JQ a s b;have f:=gh s b;omega
theorem oR:∀(n:Nat) (a b:List Nat),a.length+b.length<=n->∃s,List.Sublist s a/\List.Sublist s b/\dl a b+2*s.length=a.length+b.length
 |_,[],b,_=>⟨[],.slnil,List.nil_sublist _,by simp[dl]⟩
 |_,x :: a,[],_=>⟨[],List.nil_sublist _,.slnil,by rw[iD];simp⟩
 |0,x :: a,y :: b,h=>by simp at h
 |n+1,x :: a,y :: b,h=>by
  simp only[R3]at h;by_cases e:x=y
  .subst e;obtain⟨s,c,d,f⟩:=oR n a b (by omega);exact⟨x :: s,.cons_cons _ c,.cons_cons _ d,by rw[gg];simp;omega⟩
  .rw[mS e];by_cases m:dl a (y :: b)<=dl (x :: a) b
   .obtain⟨s,c,d,f⟩:=oR n a (y :: b) (by simp;omega);rw[Uz m];exact⟨s,.cons _ c,d,by simp at f ⊢;omega⟩
   .obtain⟨s,c,d,f⟩:=oR n (x :: a) b (by simp;omega);rw[U1 (by omega)];exact⟨s,c,.cons _ d,by simp at f ⊢;omega⟩
theorem vI:∀(l acc:List (List Nat)) (k:List Nat),k∈l.foldl Ev.mW acc↔k∈acc\/k∈l
 |[],acc,k=>by simp
 |x :: l,acc,k=>by
  rw[SA,vI l];unfold Ev.mW;split
  .rename_i h;simp only[Vy];constructor
   .rintro(h|h);exact .inl h;exact .inr (.inr h)
   .rintro(h1|rfl|h1);exact .inl h1;exact .inl h;exact .inr h1
  .simp only[List.mem_append,Vy,List.mem_nil_iff,or_false];constructor
   .rintro((h|h)|h);exact .inl h;exact .inr (.inl h);exact .inr (.inr h)
   .rintro(h|h|h);exact .inl (.inl h);exact .inl (.inr h);exact .inr h
def Mr(l:List (List Nat))(k:List Nat):((Ev.dk l).map (·.1)).contains k=decide (k∈l):=by
 have:(Ev.dk l).map (·.1)=l.foldl Ev.mW []:=by unfold Ev.dk;rw[Ud];simp[VJ]
 rw[this];have h:=vI l [] k;rw[Bool.eq_iff_iff];simp only[List.contains_iff_mem,S5,h];simp
theorem fold_max:∀(is:List Int) (i:Int),(is.foldl max i)∈i :: is/\∀a∈i :: is,a<=is.foldl max i
 |[],i=>by simp
 |j :: is,i=>by
  obtain⟨d,c⟩:=fold_max is (max i j);rw[SA];refine⟨?_,λa b=>?_⟩
  .rcases List.mem_cons.mp d with h|h
   .rw[h];by_cases m:i<=j
    .rw[Int.max_eq_right m];simp
    .rw[Int.max_eq_left (by omega)];simp
   .exact R9 _ (R9 _ h)
  .have e:=c (max i j) (Sn ..);rcases List.mem_cons.mp b with rfl|b
   .omega
   .rcases List.mem_cons.mp b with rfl|b
    .omega
    .exact c a (R9 _ b)
noncomputable def cm(o t:List Nat):List (List Nat):=(cC t).filter λs=>decide (s∈cC o)
def Ms(o t:List Nat):∃M:Nat,Ev.ye ((cm o t).map λs=>((s.length:Nat):Int))=some (M:Int)/\dl o t+2*M=o.length+t.length:=by
 obtain⟨s,i,j,y⟩:=oR _ o t (oM _);have c:s∈cm o t:=List.mem_filter.mpr ⟨(gT _ _).mpr j,SW ((gT _ _).mpr i)⟩;have g:∀z∈cm o t,dl o t+2*z.length<=o.length+t.length:=λz l=>by
  obtain⟨a,b⟩:=List.mem_filter.mp l;exact KJ ((gT _ _).mp (SG b)) ((gT _ _).mp a)
 cases e:cm o t with
 |nil=>rw[e]at c;cases c
 |cons x d=>
  rw[e]at c g;obtain⟨a,b⟩:=fold_max (d.map λs=>((s.length:Nat):Int)) (x.length:Nat);have p:(d.map λs=>((s.length:Nat):Int)).foldl max ((x.length:Nat):Int)∈(x :: d).map λs=>((s.length:Nat):Int):=by rw[gV];exact a
  obtain⟨z,q,h⟩:=List.mem_map.mp p;have r:=b ((s.length:Nat):Int) (by have:=List.mem_map_of_mem (f:=λs:List Nat=>((s.length:Nat):Int)) c;rwa [gV]at this);have:=g z q;rw[<-h]at r;exact⟨z.length,by rw[gV,Ev.ye,<-h],by omega⟩
theorem An:∀(a b:List Nat) (k:Nat),k<=a.length->k<=b.length->a.take k=b.take k->k<=cp a b
 |_,_,0,_,_,_=>SQ _
 |[],_,k+1,h,_,_=>by simp at h
 |_ :: _,[],k+1,_,h,_=>by simp at h
 |x :: a,y :: b,k+1,h1,h2,h3=>by
  simp only[Sq,VX]at h3;have:=An a b k (by simpa using h1) (by simpa using h2) h3.2;rw[cp,gQ h3.1];omega
def Df{a b:List Nat}{k:Nat}(h:k<cp a b):a.take (k+1)=b.take (k+1)/\k<a.length/\k<b.length/\a[k]?=b[k]?:=by
 obtain⟨c,d,f⟩:=dh a b;have e:a.take (k+1)=b.take (k+1):=by
  have:=R8 (List.take (k+1)) c
  rwa [List.take_take,List.take_take,Uz (by omega)]at this
 refine⟨e,by omega,by omega,?_⟩;have:=R8 (λl:List Nat=>l[k]?) e;simpa[List.getElem?_take]using this
def Ao{a b:List Nat}(h1:cp a b<a.length)(h2:cp a b<b.length):a.take (cp a b+1)≠b.take (cp a b+1)/\a[cp a b]?≠b[cp a b]?:=by
 have h:a.take (cp a b+1)≠b.take (cp a b+1):=λe=>by have:=An a b (cp a b+1) (by omega) (by omega) e;omega
 refine⟨h,λe=>h ?_⟩;rw[List.take_succ,List.take_succ,(dh a b).1,e]
def Aq{α:Type}(l:List α)(k:Nat):(cut l none (some (k:Int))).length<=l.length/\(cut l (some (k:Int)) none).length<=l.length:=by
 rw[xA,oK];simp;omega
structure Mk(c:List Pt)(a b:List Nat):Prop where
 fit:bC c a=true
 dn:bg c a=b
 tt:tot c<=a.length+b.length
 ln:c.length<=tot c
def Dg{c:List Pt}{a b:List Nat}(h:Ma (bU c) a b):Mk (bh c) a b:=by
 obtain⟨d,e,f⟩:=Me h;have t:=h.len.2.2.2.2;rw[pV]at t;exact⟨by rw[BG];exact d,by rw[zL];exact e,by rw[BF];exact t,vE (E6 (nH c))⟩
section
variable{w n:Nat}{fr:Fr}{a b:List Nat}
def uc(t:List Nat)(h:t.length<=13):run prog w (n+1) 19 [.val (.str t)]=some (.lst ((cC t).map V.str),[]):=by
 refine cj (fn:=zZ) rfl rfl ?_;refine ai (gy (l:=[V.str []]) (gY (av (aP rfl) aF) kD) rfl rfl ?_);refine ai (iT (vs:=t.map λc=>V.str [c]) (af:=[some (.val (.str t)),some (.own [V.str []]),none,none]) (cV (dg rfl) rfl) ?_);refine eU (e:=λc=>V.str [c]) (λp l fr=>p++l=t/\∃o a,lv o ((cC p).map V.str)/\vo a/\fr=[some (.val (.str t)),o,a,none]) (λp c l fr ⟨f,o,a,g,j,d⟩=>?_) (λp fr ⟨f,o,a,g,j,d⟩=>?_) _ [] _ ⟨rfl,_,none,.own,.none,rfl⟩
 .subst d;have q:p.length<=13:=by have:=R8 List.length f;simp at this;omega
  have y:=qf q;have r:∀s∈cC p,s.length<=13:=λs i=>by have:=((gT _ _).mp i).length_le;omega
  refine cK (af:=[some (.val (.str t)),o,some (.val (.str [c])),none]) (bind1 rfl j) ?_;have x:∀k,ev (run prog w n) k (.comp (.bin .add (.v 3) (.v 2)) (.one 3) (.seq (.v 1)) .no) [some (.val (.str t)),o,some (.val (.str [c])),none]=.ok (.lst ((cC p).map λs=>V.str (s++[c]))) [some (.val (.str t)),o,some (.val (.str [c])),none]:=λk=>by
   rcases g with rfl|rfl
   .exact iB (cV (dg rfl) rfl) rfl (iA V.str (λs=>V.str (s++[c])) (cC p) λs i=>lU rfl (aG (au rfl) (au rfl) (gM (by have:=r s i;simp;omega)))) (b6 (bw (by simp;omega)))
   .exact iB (cV (dg rfl) rfl) rfl (iA V.str (λs=>V.str (s++[c])) (cC p) λs i=>lU rfl (aG (au rfl) (au rfl) (gM (by have:=r s i;simp;omega)))) (b6 (bw (by simp;omega)))
  have e:(cC p).map V.str++(cC p).map (λs=>V.str (s++[c]))=(cC (p++[c])).map V.str:=by rw[BV,vH,Sd,Ud];rfl
  refine ai (aK (aG (nG rfl rfl g) (x _) ((eO (by simp;omega)).trans (by rw[e]))) rfl (lX rfl g) (az ?_));rw[bX];exact⟨by simpa using f,_,_,.val,.val,rfl⟩
 .subst d;rw[Sx]at f;subst f;refine ai (cF (af:=[some (.val (.str p)),some (.val (.lst ((cC p).map V.str))),a,none]) ?_ ⟨rfl,rfl⟩);rw[show eL [some (.val (.str p)),o,a,none]=[some (.val (.str p)),some (.val (.lst ((cC p).map V.str))),a,none]by
   show [_,o.map Sl.cL,a.map Sl.cL,_]=_;rw[pR g,dc j];rfl]
  exact au rfl
def OJ(ha:a.length<=1000)(hb:b.length<=1000):cY (run prog w (n+8)) 6 [.inr (.str a),.inr (.str b)] fr=.ok (.int (dl a b:Nat)) fr:=
 call2 (qb (F:=prog) (jL:=9) (nJ:=8) (i:=6) (w:=w) (n:=n+5) rfl rfl rfl a b ha hb)
def OL(hw:5000<w)(ha:a.length<=1000)(hb:b.length<=1000):cY (run prog w (n+8)) 7 [.inr (.str a),.inr (.str b)] fr=.ok (bK (bh (eT a b))) fr:=
 call2 (nL (F:=prog) (mw:=5) (nM:=4) (jL:=9) (nJ:=8) (i:=7) (w:=w) (n:=n+5) rfl rfl rfl rfl rfl (by omega) a b ha hb)
def KL(ha:a.length<=1000)(hb:b.length<=1000):cY (run prog w (n+8)) 10 [.inr (.str a),.inr (.str b)] fr=.ok (bK (bh (dR a b))) fr:=
 call2 (zY (F:=prog) (mw:=5) (nM:=4) (BU:=11) (i:=10) (w:=w) (n:=n+5) rfl rfl rfl rfl a b ha hb)
def OM{c:List Pt}(h:Mk c a b)(ha:a.length<=1000)(hb:b.length<=1000):cY (run prog w (n+8)) 13 [.inr (bK c),.inr (.str a)] fr=.ok (.str b) fr:=by
 have t:=h.tt;have l:=h.ln;have:=call2 (fr:=fr) (BL (F:=prog) (bq:=0) (tO:=12) (i:=13) (w:=w) (n:=n+5) rfl rfl rfl c a (by omega) (by omega) (by omega) h.fit);rw[h.dn]at this;exact this
def ON{c:List Pt}(h:Mk c a b)(ha:a.length<=1000)(hb:b.length<=1000):cY (run prog w (n+8)) 12 [.inr (bK c),.inr (.str a)] fr=.ok (.bl true) fr:=by
 have t:=h.tt;have:=call2 (fr:=fr) (tP (F:=prog) (bq:=0) (i:=12) (w:=w) (n:=n+6) rfl rfl c a (by omega) (by omega));rw[h.fit]at this;exact this
def OO{c:List Pt}(h1:tot c<=2000)(h2:c.length<=2000):cY (run prog w (n+8)) 3 [.inr (bK c)] fr=.ok (.int (cst c:Nat)) fr:=
 gv (BB (F:=prog) (bq:=0) (i:=3) (w:=w) (n:=n+6) rfl rfl c (by omega) (by omega))
def OP{c:List Pt}(h1:tot c<=2000)(h2:c.length<=2000):cY (run prog w (n+8)) 1 [.inr (bK c)] fr=.ok (.int (aW c:Nat)) fr:=
 gv (xo (F:=prog) (bq:=0) (i:=1) (w:=w) (n:=n+6) rfl rfl c (by omega) (by omega))
def OQ{c:List Pt}(h1:tot c<=2000)(h2:c.length<=2000):cY (run prog w (n+8)) 2 [.inr (bK c)] fr=.ok (.int (gA c:Nat)) fr:=
 gv (zB (F:=prog) (bq:=0) (i:=2) (w:=w) (n:=n+6) rfl rfl c (by omega) (by omega))
def KN{c:List Pt}(h1:c.length<=1000)(hF:j7 c=true):cY (run prog w (n+8)) 18 [.inr (bK c)] fr=.ok (.bl true) fr:=
 gv (tR (F:=prog) (i:=18) (w:=w) (n:=n+7) rfl c h1 hF)
def OR{c:List Pt}(h1:tot c<=1000):cY (run prog w (n+8)) 17 [.inr (bK c)] fr=.ok (pS c) fr:=
 gv (zC (F:=prog) (i:=17) (w:=w) (n:=n+7) rfl c h1)
end
def KO(a b:List Nat):bN (bh (dR a b))=rep (cp a b) [V.str []]++(cW a b).map (λc=>V.str [c])++rep (aX a b) [V.str []]:=by
 have f:∀n:Nat,aA (List.replicate n .k)=List.replicate n []:=λn=>by
  induction n with
  |zero=>rfl
  |succ n e=>rw[RU,aA,e];rfl
 have h:∀g:List Nat,aA (g.map .d)=g.map λc=>[c]:=λg=>by
  induction g with
  |nil=>rfl
  |cons x g e=>rw[gV,aA,e];rfl
 rw[bN,lY,tQ,pX,gF,gF,gF,f,f,h,CZ,pT,pT];simp
def Fc(a b:List Nat):cB (bh (dR a b))=range 0 (cp a b)++(cW b a).map (λc=>V.str [c])++range (((a.length:Nat):Int) - (aX a b:Nat)) (aX a b):=by
 have h:∀(n i:Nat),tA i (List.replicate n .k)=(List.range n).map λj=>Tq.at (i+j):=λn=>by
  induction n with
  |zero=>intro i;rfl
  |succ n f=>
   intro i;rw[RU,tA,f,Vg,gV,Ud];simp only[Nat.add_zero,VX,true_and];exact UE λj _=>by simp only[Function.comp];congr 1;omega
 have p:=(dh a b).2.1;have q:aX a b<=(aV a b).length:=by have:=(dh (aV a b).reverse (aV b a).reverse).2.1;unfold aX;simpa using this
 have r:(aV a b).length=a.length - cp a b:=by unfold aV;simp
 have e:cp a b+(cW a b).length=a.length - aX a b:=by
  unfold cW;rw[S9];omega
 rw[cB,jB,BO,pX,jq,jq,jq,Mh,Mi,h,h];have l:(aA (List.replicate (cp a b) At.k)).length=cp a b:=by
  have:∀n:Nat,(aA (List.replicate n .k)).length=n:=λn=>by
   induction n with
   |zero=>rfl
   |succ n f=>rw[RU,aA,R3,f]
  exact this _
 have o:(aA ((cW a b).map At.d)).length=(cW a b).length:=by
  have:∀g:List Nat,(aA (g.map .d)).length=g.length:=λg=>by
   induction g with
   |nil=>rfl
   |cons x g f=>rw[gV,aA,R3,f];rfl
  exact this _
 rw[gF,gF,CZ,R1,R1,l,o];simp only[TU,Nat.add_zero,Sd,Ud,Sx,range,Nat.zero_add]
 congr 1
 .congr 1
  exact UE λj _=>by simp[Function.comp,Tq.v]
 .refine UE λj _=>?_;show Tq.v (.at (cp a b+(cW a b).length+j))=_;rw[e];simp only[Tq.v,V.int.injEq];omega
theorem vJ:∀l:List (List Nat),fD (l.map λs=>V.tup [.str s,.bl true])=some l
 |[]=>rfl
 |s :: l=>by rw[gV,fD,vJ l];rfl
theorem ints_map{α:Type}(f:α->Int):∀l:List α,intsOf (l.map λs=>V.int (f s))=some (l.map f)
 |[]=>rfl
 |s :: l=>by rw[gV,intsOf,ints_map f l];rfl
def Mt{l:List (List Nat)}(h:l≠[])(h2:l.length<=100000):bZ .lC [.lst (l.map λs=>V.tup [.str s,.bl true])]=some (.bM (Ev.dk l)):=by
 delta bZ;dsimp only
 rw[iz,Option.bind_some,vJ,Option.bind_some,gQ ⟨h,h2⟩]
def Mu{l:List (List Nat)}{M:Int}(h:Ev.ye (l.map λs=>((s.length:Nat):Int))=some M):bZ .nA [.lst (l.map λs=>V.int (s.length:Nat))]=some (.int M):=by
 delta bZ;dsimp only
 rw[iz,Option.bind_some,ints_map (λs:List Nat=>((s.length:Nat):Int)),Option.bind_some,h];rfl
def Mv{l:List (List Nat)}{s:List Nat}:Pv.cop .rN (.str s) (.bM (Ev.dk l))=some (decide (s∈l)):=by
 show some (((Ev.dk l).map (·.1)).contains s)=_;rw[Mr]
noncomputable def lF(ns:List Int)(o t:List Nat)(a3 s4 s5 s6 s7 s8 s9 ju iL s12 fH:Option Sl):Fr:=[some (.val (sW ns)),some (.val (.str o)),some (.val (.str t)),a3,s4,s5,s6,s7,s8,s9,ju,iL,s12,fH,none,none]
noncomputable def In(i:Nat):Option Sl:=some (.val (.int (i:Nat)))
noncomputable def St(s:List Nat):Option Sl:=some (.val (.str s))
section
variable{w n:Nat}(hw:5000<w){ns:List Int}{o t:List Nat}(ho:o.length<=6)(ht:t.length<=13){a3 s4 s5 s6 s7 s9 ju iL s12 fH:Option Sl}
include ho ht
theorem mn:bZ .min [.int (o.length:Nat),.int (t.length:Nat)]=some (.int ((min o.length t.length:Nat):Int)):=by
 rw[sP]
 congr 2
 split<;>omega
theorem Mw(hw:5000<w){Q:Fl->Fr->Prop}(q:Q .nx (lF ns o t a3 s4 s5 s6 s7 (In (cp o t)) s9 ju iL s12 fH)) :
  Wp (ex (run prog w (n+8)) w Lw.t6 (lF ns o t a3 s4 s5 s6 s7 (In 0) s9 ju iL s12 fH)) Q:=by
 have p:bZ .len [.str o]=some (.int (o.length:Nat)):=Um (by omega);have lt:bZ .len [.str t]=some (.int (t.length:Nat)):=Um (by omega);have y:=(dh o t).2;refine xj (lQ (λk j=>∃i,k+i=cp o t/\j=lF ns o t a3 s4 s5 s6 s7 (In i) s9 ju iL s12 fH) (λk j ⟨i,A,f⟩=>?_) w (cp o t) _ (by omega) ⟨0,by omega,rfl⟩);subst f;have l:∀x:List Nat,cut x none (some ((i:Int)+1))=x.take (i+1):=λx=>by have:=xA x (i+1);simpa using this
 have d:aD (run prog w (n+8)) (.cmp .eq (.sl (.v 1) .no (.yes (.bin .add (.v 8) (.c (.int 1))))) (.sl (.v 2) .no (.yes (.bin .add (.v 8) (.c (.int 1)))))) (lF ns o t a3 s4 s5 s6 s7 (In i) s9 ju iL s12 fH)=.ok (decide (o.take (i+1)=t.take (i+1))) (lF ns o t a3 s4 s5 s6 s7 (In i) s9 ju iL s12 fH):=
  aR rfl (bR (gx (au rfl) ff (dQ (aG (au rfl) (aP rfl) bL)) (cZ.trans (by rw[l]))) (gx (au rfl) ff (dQ (aG (au rfl) (aP rfl) bL)) (cZ.trans (by rw[l]))) iI) rfl
 have e:aD (run prog w (n+8)) (.cmp .lt (.v 8) (.bi .min (.cons (.bi .len (.cons (.v 1) .nil)) (.cons (.bi .len (.cons (.v 2) .nil)) .nil)))) (lF ns o t a3 s4 s5 s6 s7 (In i) s9 ju iL s12 fH)=.ok (decide (i<min o.length t.length)) (lF ns o t a3 s4 s5 s6 s7 (In i) s9 ju iL s12 fH):=
  aR rfl (bR (au rfl) (bY (av (bY (av (au rfl) aF) p) (av (bY (av (au rfl) aF) lt) aF)) (mn ho ht)) xm) (by
   show decide ((i:Int)<((min o.length t.length:Nat):Int))=_;by_cases h:i<min o.length t.length
   .rw[SW h,SW (by omega)]
   .rw[R7 h,R7 (by omega)])
 by_cases g:i<cp o t
 .obtain⟨r,B,C,_⟩:=Df g;rw[SW r]at d;rw[SW (by omega)]at e;refine⟨true,_,eB d e,?_⟩;dsimp only;rw[gQ rfl];refine ai (aK (v:=.int ((i+1:Nat):Int)) (ao:=lF ns o t a3 s4 s5 s6 s7 (In (i+1)) s9 ju iL s12 fH) (aG (au rfl) (aP rfl) (bL.trans (by simp))) rfl rfl (az ?_));rw[bX];exact⟨k - 1,by omega,i+1,by omega,rfl⟩
 .have g:i=cp o t:=by omega
  subst g;refine⟨false,lF ns o t a3 s4 s5 s6 s7 (In (cp o t)) s9 ju iL s12 fH,?_,?_⟩
  .by_cases h:o.take (cp o t+1)=t.take (cp o t+1)
   .rw[SW h]at d;rw[R7 (λz=>(Ao (a:=o) (b:=t) (by omega) (by omega)).1 h)]at e;exact eB d e
   .rw[R7 h]at d;exact jm d
  .dsimp only;rw[R0 Tg];exact q
end
section
variable{w n:Nat}{ns:List Int}{o t m y:List Nat}(hm:m.length<=13)(hy:y.length<=13){a3 s4 s5 s6 s7 s8 s12 fH:Option Sl}
include hm hy
theorem Ar{x:List Nat}{i:Nat}(h:i<x.length):dY (.str x) (.int (((x.length:Nat):Int) - (i:Nat) - 1))=some (.str [(x.reverse[i]?).getD 0]):=by
 have e:((x.length:Nat):Int) - (i:Nat) - 1=((x.length - 1 - i:Nat):Int):=by omega
 rw[j5,e,jQ,List.getElem?_reverse h,RZ (by omega)];rfl
theorem Mx(hw:5000<w){Q:Fl->Fr->Prop}(q:Q .nx (lF ns o t a3 s4 s5 s6 s7 s8 (St m) (St y) (In (cp m.reverse y.reverse)) s12 fH)) :
  Wp (ex (run prog w (n+8)) w Lw.t7 (lF ns o t a3 s4 s5 s6 s7 s8 (St m) (St y) (In 0) s12 fH)) Q:=by
 have j:bZ .len [.str m]=some (.int (m.length:Nat)):=Um (by omega);have lt:bZ .len [.str y]=some (.int (y.length:Nat)):=Um (by omega);have r:=(dh m.reverse y.reverse).2;simp only[List.length_reverse]at r;refine xj (lQ (λk l=>∃i,k+i=cp m.reverse y.reverse/\l=lF ns o t a3 s4 s5 s6 s7 s8 (St m) (St y) (In i) s12 fH) (λk l ⟨i,C,g⟩=>?_) w (cp m.reverse y.reverse) _ (by omega) ⟨0,by omega,rfl⟩);subst g;have e:aD (run prog w (n+8)) (.cmp .lt (.v 11) (.bi .min (.cons (.bi .len (.cons (.v 9) .nil)) (.cons (.bi .len (.cons (.v 10) .nil)) .nil)))) (lF ns o t a3 s4 s5 s6 s7 s8 (St m) (St y) (In i) s12 fH)=.ok (decide (i<min m.length y.length)) (lF ns o t a3 s4 s5 s6 s7 s8 (St m) (St y) (In i) s12 fH):=
  aR rfl (bR (au rfl) (bY (av (bY (av (au rfl) aF) j) (av (bY (av (au rfl) aF) lt) aF)) (sP.trans (show _=some (V.int ((min m.length y.length:Nat):Int))by congr 2;split<;>omega))) xm) (by
   show decide ((i:Int)<((min m.length y.length:Nat):Int))=_;by_cases h:i<min m.length y.length
   .rw[SW h,SW (by omega)]
   .rw[R7 h,R7 (by omega)])
 by_cases p:i<min m.length y.length
 .have f:aD (run prog w (n+8)) (.cmp .eq (.ix (.v 9) (.bin .sub (.bin .sub (.bi .len (.cons (.v 9) .nil)) (.v 11)) (.c (.int 1)))) (.ix (.v 10) (.bin .sub (.bin .sub (.bi .len (.cons (.v 10) .nil)) (.v 11)) (.c (.int 1))))) (lF ns o t a3 s4 s5 s6 s7 s8 (St m) (St y) (In i) s12 fH)=.ok (decide ([(m.reverse[i]?).getD 0]=[(y.reverse[i]?).getD 0])) (lF ns o t a3 s4 s5 s6 s7 s8 (St m) (St y) (In i) s12 fH):=
   aR rfl (bR (cP (au rfl) (aG (aG (bY (av (au rfl) aF) j) (au rfl) di) (aP rfl) di) (Ar hm hy (by omega))) (cP (au rfl) (aG (aG (bY (av (au rfl) aF) lt) (au rfl) di) (aP rfl) di) (Ar hm hy (by omega))) iI) rfl
  rw[SW p]at e;by_cases d:i<cp m.reverse y.reverse
  .obtain⟨_,_,_,x⟩:=Df d;rw[x,SW rfl]at f;refine⟨true,_,eB e f,?_⟩;dsimp only;rw[gQ rfl];refine ai (aK (v:=.int ((i+1:Nat):Int)) (ao:=lF ns o t a3 s4 s5 s6 s7 s8 (St m) (St y) (In (i+1)) s12 fH) (aG (au rfl) (aP rfl) (bL.trans (by simp))) rfl rfl (az ?_));rw[bX];exact⟨k - 1,by omega,i+1,by omega,rfl⟩
  .have d:i=cp m.reverse y.reverse:=by omega
   have h:=(Ao (a:=m.reverse) (b:=y.reverse) (by simp;omega) (by simp;omega)).2;rw[<-d]at h;rw[R7 (λz=>h (by
    have A:i<m.reverse.length:=by simp;omega
    have B:i<y.reverse.length:=by simp;omega
    rw[RZ A,RZ B]at z ⊢;simpa using z))]at f
   refine⟨false,_,eB e f,?_⟩;dsimp only;rw[R0 Tg];rw[d];exact q
 .have d:i=cp m.reverse y.reverse:=by omega
  rw[R7 p]at e;refine⟨false,_,jm e,?_⟩;dsimp only;rw[R0 Tg];rw[d];exact q
end
noncomputable abbrev My:Ev.Ss:=.cons Lw.C1 (.cons Lw.C2 (.cons Lw.C3 (.cons Lw.C4 (.cons Lw.C5 (.cons Lw.C6 (.cons Lw.C7 (.cons Lw.t6 (.cons Lw.Aa (.cons Lw.Ab (.cons Lw.Ac (.cons Lw.t7 (.cons Lw.Ad (.cons Lw.Ae (.cons Lw.Af (.cons Lw.Ag .nil)))))))))))))))
noncomputable def Ch(c:List Pt):Option Sl:=some (.val (bK c))
set_option maxHeartbeats 1000000 in
def vK{w n:Nat}(hw:5000<w){ns:List Int}{o t:List Nat}(ho:o.length<=6)(ht:t.length<=13){a3:Option Sl}(v3:vo a3){Q:Fl->Fr->Prop}(q:∀tl,Q (.ret (.bl true)) (some (.val (sW ns)) :: tl)) :
  Wp (exs (run prog w (n+8)) w My (lF ns o t a3 none none none none none none none none none none)) Q:=by
 have a:bZ .len [.str o]=some (.int (o.length:Nat)):=Um (by omega);have lt:bZ .len [.str t]=some (.int (t.length:Nat)):=Um (by omega);have L:=qf (t:=o) (by omega);have N:=qf (t:=t) ht;have p:∀s∈cC t,s.length<=13:=λs d=>by have:=((gT _ _).mp d).length_le;omega
 have r:cC o≠[]:=λz=>by have:=(gT o []).mpr (List.nil_sublist _);rw[z]at this;cases this
 obtain⟨M,y,P⟩:=Ms o t;have C:=Dg (zS o t).1;have Ct:=C.tt;have Cl:=C.ln;have Cc:cst (bh (eT o t))=dl o t:=by rw[BE,vC];exact(zS o t).2
 have A:=Dg (zU o t);have At:=A.tt;have Al:=A.ln;have e:(aV o t).length<=13:=by have:=kc o t;omega
 have f:(aV t o).length<=13:=by have:=kc t o;omega
 refine ai (aK (v:=.bM (Ev.dk (cC o))) (ao:=lF ns o t a3 (some (.val (.bM (Ev.dk (cC o))))) none none none none none none none none none) (bY (av (iB (cV (cy (aS rfl (au rfl) br) (gv (uc (w:=w) (n:=n+7) o (by omega)))) rfl) rfl (iA V.str (λs=>V.tup [.str s,.bl true]) (cC o) λs _=>lU rfl (jA (av (au rfl) (av (aP rfl) aF)) jy)) (b6 (bw (by simp;omega)))) aF) (Mt r (by omega))) rfl rfl ?_);refine ai (aK (v:=.int (M:Nat)) (ao:=lF ns o t a3 (some (.val (.bM (Ev.dk (cC o))))) (In M) none none none none none none none none) (bY (av (iB (cV (cy (aS rfl (au rfl) br) (gv (uc (w:=w) (n:=n+7) t ht))) rfl) rfl (jl V.str (λs=>decide (s∈cC o)) (λs=>V.int (s.length:Nat)) (cC t) λs d=>pO rfl (aR rfl (bR (au rfl) (au rfl) Mv) rfl) λ_=>bY (av (au rfl) aF) (Um (by have:=p s d;omega))) (b6 (bw (by have:=List.length_filter_le (λs=>decide (s∈cC o)) (cC t);simp;omega)))) aF) (Mu y)) rfl rfl ?_);refine ai (aK (v:=.int (dl o t:Nat)) (ao:=lF ns o t a3 (some (.val (.bM (Ev.dk (cC o))))) (In M) (In (dl o t)) none none none none none none none) (aG (aG (bY (av (au rfl) aF) a) (bY (av (au rfl) aF) lt) bL) (aG (aP rfl) (au rfl) (kF (by simp[Ev.bQ]))) (di.trans (by congr 2;omega))) rfl rfl ?_);refine ai (aK (v:=bK (bh (eT o t))) (ao:=lF ns o t a3 (some (.val (.bM (Ev.dk (cC o))))) (In M) (In (dl o t)) (Ch (bh (eT o t))) none none none none none none) (cy (aS rfl (au rfl) (aS rfl (au rfl) br)) (OL hw (by omega) (by omega))) rfl rfl ?_);refine ai (aU (b:=false) (fM (aR rfl (bR (cy (aS rfl (au rfl) (aS rfl (au rfl) br)) (OJ (by omega) (by omega))) (au rfl) oG) (by simp[truthy])) (fM (aR rfl (bR (cy (aS rfl (au rfl) br) (OO (by omega) (by omega))) (au rfl) oG) (by simp[truthy,Cc])) (fM (ri (aR rfl (cy (aS rfl (au rfl) (aS rfl (au rfl) br)) (ON C (by omega) (by omega))) rfl)) (aR rfl (bR (cy (aS rfl (au rfl) (aS rfl (au rfl) br)) (OM C (by omega) (by omega))) (au rfl) gz) (by simp[truthy]))))) (λz=>absurd z (by decide)) λ_=>az ?_);have B:=vA C.fit;have h:=BQ C.fit;rw[C.dn]at h;refine ai (aU (b:=false) (fM (aR rfl (bR (cy (aS rfl (au rfl) br) (OP (by omega) (by omega))) (bY (av (au rfl) aF) a) oG) (by simp[truthy,B])) (fM (aR rfl (bR (cy (aS rfl (au rfl) br) (OQ (by omega) (by omega))) (bY (av (au rfl) aF) lt) oG) (by simp[truthy,h])) (ri (aR rfl (cy (aS rfl (au rfl) br) (KN (by omega) (nH _))) rfl)))) (λz=>absurd z (by decide)) λ_=>az ?_);refine ai (aK (v:=.int (0:Nat)) (ao:=lF ns o t a3 (some (.val (.bM (Ev.dk (cC o))))) (In M) (In (dl o t)) (Ch (bh (eT o t))) (In 0) none none none none none) (aP rfl) rfl rfl ?_);refine ai (Mw ho ht hw ?_);refine ai (aK (v:=.str (aV o t)) (ao:=lF ns o t a3 (some (.val (.bM (Ev.dk (cC o))))) (In M) (In (dl o t)) (Ch (bh (eT o t))) (In (cp o t)) (St (aV o t)) none none none none) (gx (au rfl) (dQ (au rfl)) ff (cZ.trans (by rw[oK];rfl))) rfl rfl ?_);refine ai (aK (v:=.str (aV t o)) (ao:=lF ns o t a3 (some (.val (.bM (Ev.dk (cC o))))) (In M) (In (dl o t)) (Ch (bh (eT o t))) (In (cp o t)) (St (aV o t)) (St (aV t o)) none none none) (gx (au rfl) (dQ (au rfl)) ff (cZ.trans (by rw[oK,j8];rfl))) rfl rfl ?_);refine ai (aK (v:=.int (0:Nat)) (ao:=lF ns o t a3 (some (.val (.bM (Ev.dk (cC o))))) (In M) (In (dl o t)) (Ch (bh (eT o t))) (In (cp o t)) (St (aV o t)) (St (aV t o)) (In 0) none none) (aP rfl) rfl rfl ?_);refine ai (Mx e f hw ?_);have F:aX o t<=(aV o t).length:=by have:=(dh (aV o t).reverse (aV t o).reverse).2.1;unfold aX;simpa using this
 have g:aX o t<=(aV t o).length:=by have:=(dh (aV o t).reverse (aV t o).reverse).2.2;unfold aX;simpa using this
 have G:=(dh o t).2;have Q2:=kc o t;have H:bZ .len [.str (aV o t)]=some (.int ((aV o t).length:Nat)):=Um (by omega);have I:bZ .len [.str (aV t o)]=some (.int ((aV t o).length:Nat)):=Um (by omega);rw[show cp (aV o t).reverse (aV t o).reverse=aX o t from rfl];have gl:(cW o t).length<=13:=by unfold cW;rw[S9];omega
 have Q3:(cW t o).length<=13:=by unfold cW;rw[S9];omega
 have i:=nE (x:=[V.str []]) (j:=((cp o t:Nat):Int)) (by omega) (by omega) (by simp) (by simp[rep];omega);have l:=nE (x:=[V.str []]) (j:=((aX o t:Nat):Int)) (by omega) (by omega) (by simp) (by simp[rep];omega);rw[T3]at i l;have J:cut (aV o t) none (some (((aV o t).length:Int) - (aX o t:Nat)))=cW o t:=oQ F;have K:cut (aV t o) none (some (((aV t o).length:Int) - (aX o t:Nat)))=cW t o:=by rw[oQ g,mh];rfl
 refine ai (aK (v:=.lst (bN (bh (dR o t)))) (ao:=lF ns o t a3 (some (.val (.bM (Ev.dk (cC o))))) (In M) (In (dl o t)) (Ch (bh (eT o t))) (In (cp o t)) (St (aV o t)) (St (aV t o)) (In (aX o t)) (some (.val (.lst (bN (bh (dR o t)))))) none) (aG (aG (aG (gY (av (aP rfl) aF) kD) (au rfl) i) (iS (cV (gx (au rfl) ff (dQ (aG (bY (av (au rfl) aF) H) (au rfl) di)) (cZ.trans (by rw[J]))) rfl) (b6 (bw (by simp;omega)))) (eO (by simp[rep];omega))) (aG (gY (av (aP rfl) aF) kD) (au rfl) l) ((eO (by simp[rep];omega)).trans (by rw[KO]))) rfl rfl ?_);refine ai (aK (v:=.lst (range 0 (cp o t)++(cW t o).map λc=>V.str [c])) (ao:=lF ns o t a3 (some (.val (.bM (Ev.dk (cC o))))) (In M) (In (dl o t)) (Ch (bh (eT o t))) (In (cp o t)) (St (aV o t)) (St (aV t o)) (In (aX o t)) (some (.val (.lst (bN (bh (dR o t)))))) (some (.val (.lst (range 0 (cp o t)++(cW t o).map λc=>V.str [c]))))) (aG (iS (lS (av (au rfl) aF) (Jy (n:=cp o t) (by omega) rfl)) (b6 (bw (by simp[range];omega)))) (iS (cV (gx (au rfl) ff (dQ (aG (bY (av (au rfl) aF) I) (au rfl) di)) (cZ.trans (by rw[K]))) rfl) (b6 (bw (by simp;omega)))) (eO (by simp[range];omega))) rfl rfl ?_);refine ai (aK (v:=.lst (cB (bh (dR o t)))) (ao:=lF ns o t a3 (some (.val (.bM (Ev.dk (cC o))))) (In M) (In (dl o t)) (Ch (bh (eT o t))) (In (cp o t)) (St (aV o t)) (St (aV t o)) (In (aX o t)) (some (.val (.lst (bN (bh (dR o t)))))) (some (.val (.lst (cB (bh (dR o t))))))) (aG (au rfl) (iS (lS (av (aG (bY (av (au rfl) aF) a) (au rfl) di) (av (bY (av (au rfl) aF) a) aF)) (CN (n:=aX o t) (by omega) (by omega) (by omega) (by omega))) (b6 (bw (by simp[range];omega)))) ((eO (by simp[range];omega)).trans (by rw[Fc]))) rfl rfl ?_);refine ai (cF (af:=lF ns o t a3 (some (.val (.bM (Ev.dk (cC o))))) (In M) (In (dl o t)) (Ch (bh (eT o t))) (In (cp o t)) (St (aV o t)) (St (aV t o)) (In (aX o t)) (some (.val (.lst (bN (bh (dR o t)))))) (some (.val (.lst (cB (bh (dR o t))))))) ?_ (q _));rw[show eL (lF ns o t a3 (some (.val (.bM (Ev.dk (cC o))))) (In M) (In (dl o t)) (Ch (bh (eT o t))) (In (cp o t)) (St (aV o t)) (St (aV t o)) (In (aX o t)) (some (.val (.lst (bN (bh (dR o t)))))) (some (.val (.lst (cB (bh (dR o t)))))))=lF ns o t a3 (some (.val (.bM (Ev.dk (cC o))))) (In M) (In (dl o t)) (Ch (bh (eT o t))) (In (cp o t)) (St (aV o t)) (St (aV t o)) (In (aX o t)) (some (.val (.lst (bN (bh (dR o t)))))) (some (.val (.lst (cB (bh (dR o t))))))by
  show [_,_,_,a3.map Sl.cL,_,_,_,_,_,_,_,_,_,_,_,_]=_;rw[dc v3];rfl]
 exact CL (bR (cy (aS rfl (cy (aS rfl (au rfl) (aS rfl (au rfl) br)) (KL (by omega) (by omega))) br) (OR (by omega))) (jA (av (au rfl) (av (au rfl) aF)) jy) (by rw[IS];exact(EZ (bh (dR o t)) (bh (dR o t))).trans (by simp))) (cy (aS rfl (cy (aS rfl (au rfl) (aS rfl (au rfl) br)) (KL (by omega) (by omega))) br) (KN (by omega) (nH _)))
set_option maxHeartbeats 1000000 in
def KP{w n:Nat}{ns:List Int}(hn:ns.length<=63)(hw:5000<w):run prog w (n+9) 20 [.val (sW ns)]=some (.bl true,[]):=by
 have d:(txt ns 0 6).length<=6:=vt ns 0 (most:=6) (by decide);have h:(txt ns 10 6).length<=6:=vt ns 10 (most:=6) (by decide);have e:=λfr=>gX (fr:=fr) (sY (F:=prog) (c:=14) (dr:=15) (t:=16) (w:=w) (n:=n+5) rfl rfl hn rfl 0 6 (by decide) (by decide));have f:=λfr=>gX (fr:=fr) (sY (F:=prog) (c:=14) (dr:=15) (t:=16) (w:=w) (n:=n+5) rfl rfl hn rfl 10 6 (by decide) (by decide));generalize txt ns 0 6=o at d e
 generalize txt ns 10 6=t at h f
 have i:bZ .len [.str o]=some (.int (o.length:Nat)):=Um (by omega);have a:=λ(k many:Int) (hm:0<many) fr=>gX (fr:=fr) (lV (F:=prog) (c:=14) (dr:=15) (w:=w) (n:=n+6) rfl rfl hn k hm);refine cj (fn:=Ah) rfl rfl ?_;refine ai (aK (cy (aS rfl (au rfl) (aS rfl (aP rfl) (aS rfl (aP rfl) br))) (e _)) rfl rfl ?_);refine ai (aK (ao:=lF ns o t none none none none none none none none none none none) (cy (aS rfl (au rfl) (aS rfl (aP rfl) (aS rfl (aP rfl) br))) (f _)) rfl rfl ?_);refine ai (aU (b:=decide (gw ns 20 3=0)) (aR rfl (bR (cy (aS rfl (au rfl) (aS rfl (aP rfl) (aS rfl (aP rfl) br))) (a 20 3 (by decide) _)) (aP rfl) By) rfl) (λ_=>?_) λ_=>az (vK hw d (by omega) .none λ_=>⟨rfl,rfl⟩));have p:=j6 ns 21 (many:=(o.length:Int)+1) (by omega);obtain⟨k,q⟩:=Int.eq_ofNat_of_zero_le p;have r:=j6 ns 23 (many:=3) (by decide);obtain⟨j,x⟩:=Int.eq_ofNat_of_zero_le r;have y:dY (.str [122,113]) (.int (gw ns 22 2))=some (.str [[122,113].getD (gw ns 22 2).toNat 0]):=by
  rw[j5,getD_at (l:=[122,113]) (j6 ns 22 (many:=2) (by decide)) (oF ns 22 (many:=2) (by decide)) 0];rfl
 have dk:=a 21 ((o.length:Int)+1) (by omega);have g:=a 23 3 (by decide);rw[q]at dk;rw[x]at g;have z:(cut o none (some ((k:Nat):Int))).length<=o.length:=(Aq o k).1;have A:(cut o (some (((k:Nat):Int)+((j:Nat):Int))) none).length<=o.length:=by
  have:=(Aq o (k+j)).2;simpa using this
 refine ai (aK (v:=.int (k:Nat)) (ao:=lF ns o t (In k) none none none none none none none none none none) (cy (aS rfl (au rfl) (aS rfl (aP rfl) (aS rfl (aG (bY (av (au rfl) aF) i) (aP rfl) bL) br))) (dk _)) rfl rfl ?_);refine ai (aK (ao:=lF ns o ((cut o none (some ((k:Nat):Int))++[[122,113].getD (gw ns 22 2).toNat 0])++cut o (some (((k:Nat):Int)+((j:Nat):Int))) none) (In k) none none none none none none none none none none) (aG (aG (gx (au rfl) ff (dQ (au rfl)) cZ) (cP (aP rfl) (cy (aS rfl (au rfl) (aS rfl (aP rfl) (aS rfl (aP rfl) br))) (a 22 2 (by decide) _)) y) (gM (by simp;omega))) (gx (au rfl) (dQ (aG (au rfl) (cy (aS rfl (au rfl) (aS rfl (aP rfl) (aS rfl (aP rfl) br))) (g _)) bL)) ff cZ) (gM (by simp;omega))) rfl rfl (az ?_));exact vK hw d (by simp;omega) .val λ_=>⟨rfl,rfl⟩
def good:∀ns:List Int,ns.length<=63->∃h',Ev.run prog 100000 60 20 [.ref 0] [.bz (ns.map Ev.D.int)]=.ok (.bl true) h':=λns h=>Ey (KP (w:=100000) (n:=51) h (by decide))
end Lg
theorem Lw.good:∀ns:List Int,ns.length<=63->∃h',Ev.run Lw.prog 100000 60 20 [.ref 0] [.bz (ns.map Ev.D.int)]=.ok (.bl true) h':=Lg.good
structure PySem.W.Fast:Prop where(tw2485862396685754637 tw14339549980808489415 tw14903215011842033883 tw9024849413661894793 tw9488579456073454837 tw6746003753393603619 tw9274272933858335925 tw17682372517576514958 tw15842250258251999864 tw12519937826030733320 tw16727861536775125991 tw8831502015237608450 tw7183320936736914653 tw893380124864928829 tw14850980241709694094 tw8417394087854160863 tw8719137709827417209 tw15746217090186923553 tw388958430875723869 tw641142664744729335 tw1590286504027711411 tw10565615805608654865 tw16115998264095719778 tw5340805925622704351 tw17159904784759521619 tw2773049669827271216 tw17888356162789664429 tw14286312811169164011 tw2914264783240844374 tw17809776191117326082 tw16601525895495398412 tw8694754993951305779 tw14161305583071358182 tw9402392231892939518 tw9897256206166936940 tw1432713014932377089 tw6592870059773250573 tw11675123213089017894 tw7411461562376681323 tw11279996246598416160 tw11240315996065943379 tw3872954649171369960 tw14879532970709437647 tw4819728759618452713 tw18310064309736828591 tw17121357312780395486 tw9663918966506962164 tw15219514909636537690 tw17507007148323369071 tw5841800404035810456 tw6255643518213930227 tw12576854016429270269 tw15305178121577080779 tw6176614448168807380 tw15656062638133077365 tw8087629513378789656 tw15521456172365595238 tw10266220847302668803 tw13659092718398460337 tw13380330703606300064 tw8486924629062503552 tw9945895973277634407 tw12591671646182420693 tw1260138101987677878 tw4361604264879959690 tw297399888370889370 tw3156807394660840062 tw15443933908620725053 tw9306423804025929758 tw6335502337688514894 tw16022302753319015203 tw12014930890485359117 tw16478473972664174692 tw15666255795664114846 tw6907580009045558504 tw1206688195779760605 tw7541867870110182660 tw17761622323009373439 tw4219352536514862350 tw12339245284885048787 tw16304029658317804169 tw13676576386491789051 tw8790649461118338755 tw7719766810021406682 tw18373804465174031003 tw3047315857857653279 tw7450668299279997202 tw17426455276896884893 tw7952873136284873646 tw7931322695733707046 tw348806443549533784 tw10444586296123472949 tw6239106315376904651 tw10358340317108628496 tw17051101403197138355 tw8835316332310005656 tw14884451920079189147 tw6749395456600042606 tw16095824681575182418 tw11161755789327959547 tw17379059941496497490 tw11368878975413475595 tw5019477939274121211 tw8579967197424294888 tw1406260720656147133 tw450083568081443275 tw10429060307220346016 tw4193928123880237650 tw17139364183097531492 tw9133223966208867837 tw2902917474279298376 tw16966567657187443449 tw7611614599676850553 tw1839081271956185394 tw15023753198861952450 tw10453815904242285238 tw2352967605604786142 tw10644769249087362704 tw6882326704165679265 tw374769195320181438 tw17358468521791468525 tw3463128313345162162 tw8165200117309137175 tw16316354171134912252 tw10638508927723686279 tw3285972915947757429 tw16821337295248656975 tw16307818620954876639 tw5299317936496156324 tw14796837515013760071 tw13437058943671125721 tw2659511349878683751 tw14404010201232630805 tw6352257398130641414 tw8811595365448994900 tw1550026032993511980 tw5872659582206044619 tw15112491499914754096 tw2733616710149994840 tw11196581310674941352 tw17987954207285858179 tw16703529463323713944 tw3276630543800901596 tw7411214018596158412 tw15494844696467678568 tw3636255192534031839 tw2714927952146077979 tw11279025432479662467 tw41938544583369525 tw8059236090511766346 tw4314784174281377966 tw8922833141369472238 tw5885528284807011305 tw7401002594515844329 tw18024392468889587227:True)
open PySem PySem.W PyProof.Rows
set_option maxRecDepth 100000 in
set_option maxHeartbeats 0 in
theorem PySem.Challenge.cw_pastways_k50_least_holds : PySem.Challenge.rw_pastways_k50_least.Holds := by
 w_on;o_law;k_head;(case hw=>w_witness2)
 k_fill
 refine Sm.Ec (F:=Lw.prog) (wh:=100000) (n:=60) (f:=20) (x:="_law_script") (l:=PySem.Challenge.rw_pastways_k50_least) rfl rfl ⟨rfl,by decide,by decide⟩ (λw h Y=>PySem.W.kIn_of Y) Lw.good ?F
 case F=>
  intro w mg fa h KX G hmg
  refine' Lw.all_mk KX G hmg ⟨?a0,L2.b9 ?l0 ?c0 ?k0⟩ ⟨?a1,L2.b9 ?l1 ?c1 ?k1⟩ ⟨?a2,L2.b9 ?l2 ?c2 ?k2⟩ ⟨?a3,L2.b9 ?l3 ?c3 ?k3⟩ ⟨?a4,L2.b9 ?l4 ?c4 ?k4⟩ ⟨?a5,L2.b9 ?l5 ?c5 ?k5⟩ ⟨?a6,L2.b9 ?l6 ?c6 ?k6⟩ ⟨?a7,L2.b9 ?l7 ?c7 ?k7⟩ ⟨?a8,L2.b9 ?l8 ?c8 ?k8⟩ ⟨?a9,L2.b9 ?l9 ?c9 ?k9⟩ ⟨?Q4,L2.b9 ?Q5 ?Q6 ?Q7⟩ ⟨?Q8,L2.b9 ?Q9 ?Ra ?Rb⟩ ⟨?Rc,L2.b9 ?Rf ?c12 ?Rg⟩ ⟨?Rh,L2.b9 ?Ri ?Rj ?Rk⟩ ⟨?Rl,L2.b9 ?Rm ?Rn ?Ro⟩ ⟨?Rp,L2.b9 ?Rq ?Rt ?Ru⟩ ⟨?Rw,L2.b9 ?Rx ?Ry ?Rz⟩ ⟨?RA,L2.b9 ?RB ?RC ?RD⟩ ⟨?RE,L2.b9 ?RG ?RH ?RI⟩ ⟨?RJ,L2.b9 ?RK ?RL ?RM⟩ ⟨?RN,L2.b9 ?RP ?RQ ?RS⟩ ?z0 ?z1 ?z2 ?z3 ?z4 ?z5 ?z6 ?z7 ?z8 ?z9 ?Nv ?Nx ?q0;all_goals try first|k_is|rfl|decide +kernel | (with_unfolding_all rfl)

import PyProof.Rows.All
import Wide.All
import OpenK.AllK
import Wide.FinOn
import Lean
import PyProof.EqAt
import PyProof.EqKinds
import PyProof.TupleCall
import PyProof.DictUpdate
import PyProof.NeKinds
import PyProof.StrLawsIn
import KE.KRevSl
import PyProof.ZipIter
import PyProof.ListRange
import PyProof.Rows.SortStr
import KE.KRevIter
import KE.KDictSum
import PyProof.EnumMake
import PyProof.EnumFor
import PyProof.Draws
import KE.KIntText
import PyProof.CallStr
import PyProof.SetKind
import PySem.Challenge.RW_pastways_k43_owners
set_option Elab.async false
set_option linter.all false
set_option maxRecDepth 100000
def bT:=@PySem.wpAny_bind
def bY:=@PySem.wpAny_pure
def cI:=@Option.bind_eq_some_iff
def cL:=@Option.map_eq_some_iff
def cS:=@if_pos
def eV:=@PySem.Heap.get?_push_of_some
def fB:=@Nat.lt_of_lt_of_le
def gI:=@List.getElem?_set_ne
def gV:=@Bool.and_eq_true
def kI:=@Option.some.inj
def vn:=@Nat.le_refl
def xZ:=@List.getElem?_eq_getElem
def zA:=@List.size_toArray
def Ei:=@List.getElem?_set_self
def Mt:=@PySem.Heap.lt_size
def Mv:=@List.getElem?_append_left
def Qm:=@if_neg
def Qn:=@List.length_append
def RB:=@PySem.Heap.get?_push_size
def So:=@Nat.ne_of_lt
def Uj:=@List.replicate_succ
def Ux:=@List.append_nil
def Uy:=@List.map_append
def Vw:=@congrArg
def Vx:=@PySem.wpAny_mono
def Vy:=@decide_eq_false
def Vz:=@List.getElem?_map
def VA:=@List.mem_cons_of_mem
def VB:=@Bool.false_ne_true
def VC:=@List.cons_append
def VD:=@List.mem_of_getElem?
def VE:=@Nat.le_trans
def VF:=@List.mem_append_right
def VG:=@List.getElem?_eq_none
def VH:=@Bool.false_eq_true
def VI:=@if_true
def VJ:=@decide_eq_true
def VL:=@List.length_map
def VM:=@List.length_take
def VN:=@List.append_assoc
def VO:=@List.map_cons
def VP:=@List.drop_drop
def VQ:=@PySem.Heap.get?_update_self
def VR:=@PySem.AutoSeq1.wpAny_loadPart'
def VS:=@List.mem_cons_self
def VT:=@List.take_of_length_le
def VU:=@PySem.wpAny_newObj_type
def VV:=@of_decide_eq_true
def VW:=@List.filterMap_cons
def VX:=@PySem.Heap.SameBut.update
def VY:=@PySem.wpAny_call_entry
def VZ:=@PySem.W.mg_none_of
def V0:=@PySem.wpAny_callSpecial?_slot
def V1:=@Bool.not_eq_true'
def V2:=@List.mem_append
def V3:=@Bool.or_eq_true
def V4:=@Array.length_toList
def V5:=@PySem.wpAny_holding
def V6:=@List.getElem?_append_right
def V7:=@List.length_cons
def V8:=@PySem.Heap.size_push
def V9:=@List.mem_singleton
def Wa:=@PyProof.Rows.slot_tuple_getitem
def Wb:=@if_false
def Wd:=@List.foldl_cons
def We:=@List.mem_of_mem_drop
def Wf:=@PySem.wpAny_setState_of
def Wg:=@List.flatten_cons
def Wh:=@Int.toNat_natCast
def Wi:=@Nat.lt_irrefl
def Wj:=@PySem.F.plainAttrs_list
def Wk:=@Option.bind_eq_bind
def Wl:=@List.lookup_cons
def Wm:=@Nat.zero_le
def Wn:=@PySem.Heap.get?_update_other
def Wo:=@PySem.codeAny_mono
def Wq:=@PySem.codeAny_builtin
def Wr:=@List.take_append_drop
def Ws:=@List.length_singleton
def Wt:=@Array.getElem?_toList
def Wu:=@List.map_drop
def Wv:=@PySem.Calls.Name_function_global
def Ww:=@List.mem_of_mem_take
def Wx:=@PySem.Around.under_plainId
def Wy:=@List.drop_eq_getElem_cons
def Wz:=@Array.getElem?_eq_getElem
def WA:=@PyProof.Rows.len_str
def WB:=@Ne.symm
def WC:=@List.map_map
def WD:=@Option.bind_some
def WE:=@Nat.lt_succ_self
def WG:=@PySem.wpAny_setEntries_of
def WH:=@PySem.mem_of_lookup
def WI:=@List.take_succ_cons
def WJ:=@PySem.W.mg_of
def WK:=@PySem.call_meets
def WL:=@PySem.wpAny_ite_split
def WM:=@Bool.eq_iff_iff
def WN:=@List.drop_eq_nil_of_le
def WO:=@PySem.wpAny_setField
def WQ:=@List.not_mem_nil
def WR:=@List.length_drop
def WS:=@PySem.wpAny_attempt
def WT:=@List.mem_cons
def WU:=@List.map_take
def WV:=@List.getElem?_range
def WW:=@PySem.wpAny_passesOwn
def WX:=@PySem.wpAny_Call_Name_kw
def WY:=@Int.emod_lt_of_pos
def WZ:=@PySem.Calls.spliced_cons
def W0:=@PySem.F.args_tuple_mul_2
def W2:=@PySem.F.args_tuple_add_2
def W3:=@PySem.F.slot_list_count
def W4:=@PySem.F.entry_tuple_mul
def W5:=@PySem.F.entry_tuple_add
def W6:=@PyProof.Rows.F.plain_set_update_loop
def W7:=@PySem.Calls.loadGlobal_global
def W8:=@PySem.fits_of_scanBound
def W9:=@decide_eq_true_eq
def Xa:=@Nat.lt_succ_of_lt
def Xb:=@PySem.Calls.spliced_nil
def Xc:=@PySem.wpAny_Call_method_late
def Xd:=@PySem.W.cellsFrom_some
def Xe:=@PySem.F.slot_tuple_mul
def Xf:=@PySem.F.slot_tuple_add
def Xg:=@PySem.plainId_quiet
def Xh:=@PySem.wpAny_execs_cons
def Xi:=@PySem.wpAny_call
def Xj:=@PySem.wpAny_typeOf
def Xk:=@Nat.min_eq_left
def Xl:=@List.of_mem_zip
def Xm:=@List.nodup_cons
def Xn:=@Int.emod_nonneg
def Xo:=@PySem.codeAny_call_builtin
def Xp:=@List.getElem?_modify
def Xq:=@PyProof.Rows.callWith_builtin1
def Xr:=@List.eq_nil_of_length_eq_zero
def Xu:=@Nat.sub_lt_sub_left
def Xv:=@List.drop_succ_cons
def Xw:=@PySem.wpAny_fieldsOf
def Xx:=@List.drop_zero
def Xy:=@PySem.sizeLine_eq
def Xz:=@of_decide_eq_false
def XA:=@PySem.W.callWith_K
def XD:=@Nat.add_sub_cancel
def XE:=@List.filterMap_map
def XF:=@PyProof.Rows.callWith_type1
def XG:=@PySem.wpAny_newFunctionEnv_cells
def XH:=@List.length_eraseIdx_of_lt
def XJ:=@PySem.wpAny_truthy_bool
def XM:=@PySem.wpAny_Return_some
def XN:=@List.ext_getElem?
def XO:=@PySem.wpAny_rule
def XQ:=@PySem.typeIs_int
def XS:=@beq_iff_eq
def XT:=@PySem.wpAny_binaryOp_repeat_ref
def XU:=@PySem.F.plain_extend_loop
def XW:=@List.getElem?_eq_none_iff
def XX:=@PySem.W.looks_findIn
def XY:=@Nat.lt_or_ge
def XZ:=@Nat.le_of_lt
def X3:=@PySem.wpAny_askSetting
def X4:=@PySem.noFill_tuple_add
def X5:=@Nat.min_eq_right
def X6:=@List.getElem_mem
def X7:=@List.drop_length
def X8:=@List.countP_cons
def Yb:=@PySem.AutoSeq1.idx_int
def Yc:=@PySem.wpAny_comprehension_free
def Yd:=@decide_eq_false_iff_not
def Ye:=@PySem.F.type_list_count
def Yg:=@PySem.F.plain_list_iadd
def Yh:=@List.getElem?_replicate
def Yi:=@PySem.wpAny_execs_nil
def Yj:=@Nat.le_antisymm
def Yk:=@List.range_succ
def Yl:=@Nat.le_succ
def Ym:=@List.range_succ_eq_map
def Yn:=@List.pairwise_lt_range
def Yo:=@Array.getElem?_eq_none
def Yp:=@PySem.codeAny_call_function
def Yq:=@PySem.builtinLookup_eq_fast
def Yr:=@PySem.F.slot_set_iter
def Ys:=@PySem.F.slot_int_rmul
def Yt:=@List.getElem?_toArray
def Yu:=@List.dropLast_eq_take
def Yv:=@PySem.args_get
def Yw:=@PySem.wpAny_Name
def Yx:=@List.mem_append_left
def Yy:=@List.getElem_toArray
def Yz:=@List.getElem?_of_mem
def YA:=@PySem.seq_tuple_add
def YB:=@PySem.W.KF.type_class
def YC:=@List.getElem_of_mem
def YD:=@List.filterMap_some
def YE:=@PySem.concat_meets
def YF:=@Nat.ne_of_gt
def YG:=@Nat.lt_trans
def YH:=@Nat.add_comm
def YI:=@List.map_nil
def YJ:=@PySem.W.codeRec_of
def YK:=@Option.some.injEq
def YL:=@List.take_sublist
def YM:=@List.take_add_one
def YN:=@Array.toList_push
def YO:=@beq_self_eq_true
def YQ:=@PySem.seqSlot_of
def YR:=@Option.getD_none
def YS:=@List.getElem_map
def YT:=@List.getElem_inj
def YU:=@List.any_eq_true
def YV:=@Option.map_some
def YW:=@Nat.not_lt_zero
def YX:=@Nat.le_add_left
def YY:=@List.nil_append
def YZ:=@List.forIn_cons
namespace L2
open PySem PySem.Spec PyProof.Rows
abbrev Key:=Sum Int Str
noncomputable def kM:Key->Value->Bool
 |.inl k,v=>Value.isInt k v
 |.inr x,v=>Value.isStrOf x v
noncomputable def QA(w:World):Key->Int
 |.inl k=>hashInt k
 |.inr x=>hashStr w x
def dM:∀{k:Key}{v:Value},kM k v=true->(∃i t,k=Sum.inl i/\v=Value.int i t)\/(∃x t,k=Sum.inr x/\v=Value.str x t)
 |.inl i,v,h=>by
  obtain⟨t,e⟩:=Value.isInt_shape (k:=i) (v:=v) h;exact .inl ⟨i,t,rfl,e⟩
 |.inr x,v,h=>by
  obtain⟨t,e⟩:=Value.isStrOf_shape (x:=x) (v:=v) h;exact .inr ⟨x,t,rfl,e⟩
def zS(i:Int)(t:Tok):kM (.inl i) (.int i t)=true:=by simp[kM,Value.isInt]
def zT(x:Str)(t:Tok):kM (.inr x) (.str x t)=true:=by simp[kM,Value.isStrOf]
def IF(a b:Int):decide ((Sum.inl a:Key)=Sum.inl b)=(a==b):=by
 by_cases e:a=b
 .subst e;simp
 .have h:¬ (Sum.inl a:Key)=Sum.inl b:=λq=>e (Sum.inl.inj q);rw[Vy h];exact(beq_eq_false_iff_ne.mpr e).symm
def IG(a b:Str):decide ((Sum.inr a:Key)=Sum.inr b)=decide (a=b):=by
 by_cases e:a=b
 .subst e;simp
 .have h:¬ (Sum.inr a:Key)=Sum.inr b:=λq=>e (Sum.inr.inj q);rw[Vy h,Vy e]
def II(a:Int)(b:Str):decide ((Sum.inl a:Key)=Sum.inr b)=false:=Vy (λq=>nomatch q)
def IJ(a:Str)(b:Int):decide ((Sum.inr a:Key)=Sum.inl b)=false:=Vy (λq=>nomatch q)
noncomputable def cT(prog:Program)(w:World):PySem.KeyKind prog w Key where
 is:=kM
 hash:=QA w
 inj:=λv a b ha hb=>by
  rcases dM ha with ⟨i,t,rfl,rfl⟩|⟨x,t,rfl,rfl⟩
  .rcases dM hb with ⟨j,u,rfl,e⟩|⟨y,u,rfl,e⟩
   .injection e with e1 _;rw[e1]
   .exact nomatch e
  .rcases dM hb with ⟨j,u,rfl,e⟩|⟨y,u,rfl,e⟩
   .exact nomatch e
   .injection e with e1 _;rw[e1]
 byValue:=λk v h=>by
  rcases dM h with ⟨i,t,rfl,rfl⟩|⟨x,t,rfl,rfl⟩<;>rfl
 pyHash:=λhv h=>by
  rcases dM hv with ⟨i,t,rfl,rfl⟩|⟨x,t,rfl,rfl⟩
  .exact wpAny_pyHash_int h
  .exact wpAny_pyHash_str h
 eqBool:=λhu hv h=>by
  rcases dM hu with ⟨i,t,rfl,rfl⟩|⟨x,t,rfl,rfl⟩
  .rcases dM hv with ⟨j,u,rfl,rfl⟩|⟨y,u,rfl,rfl⟩
   .rw[IF]at h;exact wpAny_eqBool_int h
   .rw[II]at h;exact SeqAt.EqAt.int_str i t y u _ _ _ _ h
  .rcases dM hv with ⟨j,u,rfl,rfl⟩|⟨y,u,rfl,rfl⟩
   .rw[IJ]at h;exact SeqAt.EqAt.str_int x t j u _ _ _ _ h
   .rw[IG]at h;exact wpAny_eqBool_str h
 «strs»:=λk x t v h=>by
  rcases dM h with ⟨i,u,rfl,e⟩|⟨y,u,rfl,e⟩
  .exact nomatch e
  .injection e with e1 _
   subst e1;cases v<;>rfl
inductive V where
 |aG|bl (b:Bool)|int (i:Int)|str (x:Str)|lR (b:Array UInt8)|IK (b:UInt64)|ref (a:Addr)|ty (n:String)
 deriving DecidableEq
noncomputable def RelV:V->Value->Prop
 |.aG,u=>u=Value.none
 |.bl b,u=>u=Value.bool b
 |.int i,u=>∃t,u=Value.int i t
 |.str x,u=>∃t,u=Value.str x t
 |.lR b,u=>∃t,u=Value.bytes b t
 |.IK b,u=>∃t,u=Value.float b t
 |.ref a,u=>u=Value.ref a
 |.ty n,u=>u=Value.type n
abbrev Vals:List V->List Value->Prop:=Paired RelV
theorem Vals.length{xs:List V}{us:List Value}(r:Vals xs us):xs.length=us.length:=Paired.length r
theorem Vals.get:∀{xs:List V}{us:List Value}{i:Nat}{x:V},Vals xs us->xs[i]?=some x->∃u,us[i]?=some u/\RelV x u
 |_,_,_,_,.nil,e=>by simp at e
 |_,_,0,_,.cons r _,e=>by simp at e;subst e;exact⟨_,rfl,r⟩
 |_,_,i+1,x,.cons _ t,e=>by
  obtain⟨u,h1,h2⟩:=Vals.get (i:=i) (x:=x) t (by simpa using e);exact⟨u,by simpa using h1,h2⟩
theorem Vals.append:∀{xs ys:List V}{us ws:List Value},Vals xs us->Vals ys ws->Vals (xs++ys) (us++ws)
 |_,_,_,_,.nil,s=>s
 |_,_,_,_,.cons r t,s=>.cons r (Vals.append t s)
theorem Vals.take:∀{xs:List V}{us:List Value}(n:Nat),Vals xs us->Vals (xs.take n) (us.take n)
 |_,_,0,_=>.nil
 |_,_,_+1,.nil=>.nil
 |_,_,n+1,.cons r t=>.cons r (Vals.take n t)
theorem Vals.drop:∀{xs:List V}{us:List Value}(n:Nat),Vals xs us->Vals (xs.drop n) (us.drop n)
 |_,_,0,r=>r
 |_,_,_+1,.nil=>.nil
 |_,_,n+1,.cons _ t=>Vals.drop n t
noncomputable def IL:Option V->Option Value->Prop
 |some v,some u=>RelV v u
 |none,none=>True
 |_,_=>False
noncomputable def KV{κ:Type}:List (κ×V)->List (κ×Value)->Prop:=Paired λ(p:κ×V) (q:κ×Value)=>p.1=q.1/\RelV p.2 q.2
noncomputable def kV:Key->V
 |.inl i=>.int i
 |.inr x=>.str x
inductive HO where
 |lst (xs:List V)
 |tup (xs:List V)
 |dK (kvs:List (Key×V))|dT (kvs:List (List Key×V))
 |set (S:Int->Bool) (n:Nat)
 |ins (C dx:Addr) (fs:List (Str×V))
 |own (x:Addr)
 |xd (fs:List (Str×V))
 |met (f x:Addr)
 |fU (lo hi:Int)
 |bX (o:Obj) (u:HO)
 |rK (ps:Array Value)
 |ext (φ:Heap->Prop)
abbrev Hp:=Addr->Option HO
noncomputable def upd(H:Hp)(a:Addr)(o:HO):Hp:=λb=>if b=a then some o else H b
def ez{H:Hp}{a:Addr}{o:HO}:upd H a o a=some o:=by unfold upd;rw[cS rfl]
def bB{H:Hp}{a b:Addr}{o:HO}(h:b≠a):upd H a o b=H b:=by unfold upd;rw[Qm h]
def pL{H:Hp}{a b:Addr}{o u:HO}(h:H a=some o)(h':H b=some u)(d:o≠u):a≠b:=by
 intro e;subst e;rw[h]at h';exact d (kI h')
def bZ{H:Hp}{a b:Addr}{o:HO}(h:H a=some o)(h':H b=none):a≠b:=by
 intro e;subst e;rw[h]at h';cases h'
section
variable(P:Program)(w:World)
noncomputable def gg(H:Hp)(h:Heap)(a:Addr):HO->Prop
 |.lst xs=>xs.length<=sizeLine/\∃(its:List Value) (n:Nat),Vals xs its/\h.get? a=some { cls:=.type "list",data:=.seq its.toArray n }
 |.tup xs=>xs.length<=sizeLine/\∃its:List Value,Vals xs its/\IsTup h a its.toArray
 |.dK kvs=>kvs.length<=sizeLine/\(a==sysModules)=false/\∃vs,KV kvs vs/\h.DictOf (cT P w) a vs
 |.dT kvs=>kvs.length<=sizeLine/\(a==sysModules)=false/\∃xs:List (List Key×Addr×Value),
   Paired (λ(p:List Key×V) (q:List Key×Addr×Value)=>p.1=q.1/\H q.2.1=some (.tup (p.1.map kV))/\RelV p.2 q.2.2) kvs xs/\
   ∃o es ep,h.get? a=some o/\o.ExactDict/\o.data=.dict es ep/\es.toList=xs.map (entryOfKey (tupleKind (cT P w)))/\(xs.map (·.1)).Nodup
 |.set S n=>h.SetOf (intKind P w) a S n
 |.ins C dx fs=>H dx=some (.own a)/\fs.length<=1000/\dx≠a/\h.get? a=some (PySem.W.instObj C dx)/\
   ∃mA,h.Ns1 dx mA/\(∀f,IL (fs.lookup f) (mA f))/\PySem.Within mA (fs.map (·.1))
 |.own _=>∃o,h.get? a=some o
 |.xd fs=>∃mA,h.Ns1 a mA/\∀f,IL (fs.lookup f) (mA f)
 |.fU lo hi=>∃t u v,h.get? a=some { cls:=.type "range",data:=.fields #[.int lo t,.int hi u,.int 1 v]}
 |.bX o u=>h.get? a=some o/\gg H h a u
 |.rK ps=>h.get? a=some { cls:=.none,data:=.fields ps }
 |.met f x=>h.get? a=some (PySem.W.methodObj (.ref f) (.ref x))
 |.ext φ=>φ h/\(∃o,h.get? a=some o)/\∀h1 h2:Heap,φ h1->(∀o,h1.get? a=some o->h2.get? a=some o)->φ h2
noncomputable def eX(H:Hp)(h:Heap):Prop:=∀a o,H a=some o->gg P w H h a o
end
section
variable{P:Program}{w:World}{H H':Hp}{h h':Heap}{a:Addr}{o:HO}
theorem gg.lt(x:gg P w H h a o):a<h.objs.size:=by
 cases o with
 |lst xs=>obtain⟨_,_,_,_,e⟩:=x;exact Mt e
 |tup xs=>obtain⟨_,_,_,p⟩:=x;exact p.lt
 |dK kvs=>obtain⟨_,_,_,_,o,_,_,e,_⟩:=x;exact Mt e
 |dT kvs=>obtain⟨_,_,_,_,o,_,_,e,_⟩:=x;exact Mt e
 |set S n=>obtain⟨o,_,_,_,e,_⟩:=x;exact Mt e
 |ins C dx fs=>obtain⟨_,_,_,e,_⟩:=x;exact Mt e
 |own y=>obtain⟨_,e⟩:=x;exact Mt e
 |xd fs=>obtain⟨_,⟨_,_,_,e,_⟩,_⟩:=x;exact Mt e
 |fU lo hi=>obtain⟨_,_,_,e⟩:=x;exact Mt e
 |bX ob u=>obtain⟨e,_⟩:=x;exact Mt e
 |rK ps=>exact Mt (show h.get? a=some _ from x)
 |met f y=>exact Mt (show h.get? a=some _ from x)
 |ext φ=>obtain⟨_,⟨_,e⟩,_⟩:=x;exact Mt e
theorem Paired.IM{α β:Type}{F G:α->β->Prop}:∀{l₁:List α}{l₂:List β},Paired F l₁ l₂->(∀a b,F a b->G a b)->Paired G l₁ l₂
 |_,_,.nil,_=>.nil
 |_,_,.cons r t,f=>.cons (f _ _ r) (Paired.IM t f)
def gg.stay(x:gg P w H h a o)(k:∀b u,(b=a\/H b=some (.own a))->h.get? b=some u->h'.get? b=some u)
  (ho:∀b,H b=some (.own a)->H' b=some (.own a)) (ht:∀b xs,H b=some (.tup xs)->H' b=some (.tup xs)):gg P w H' h' a o:=by
 induction o with
 |lst xs=>obtain⟨z,its,n,r,e⟩:=x;exact⟨z,its,n,r,k _ _ (.inl rfl) e⟩
 |tup xs=>obtain⟨z,its,r,ob,e,c⟩:=x;exact⟨z,its,r,ob,k _ _ (.inl rfl) e,c⟩
 |dK kvs=>obtain⟨z,y,vs,r,ob,es,ep,e,c⟩:=x;exact⟨z,y,vs,r,ob,es,ep,k _ _ (.inl rfl) e,c⟩
 |dT kvs=>
  obtain⟨z,y,xs,r,ob,es,ep,e,c⟩:=x;exact⟨z,y,xs,Paired.IM r λp q z=>⟨z.1,ht _ _ z.2.1,z.2.2⟩,ob,es,ep,k _ _ (.inl rfl) e,c⟩
 |set S n=>obtain⟨ob,es,ep,t,e,c⟩:=x;exact⟨ob,es,ep,t,k _ _ (.inl rfl) e,c⟩
 |ins C dx fs=>
  obtain⟨d,z,ne,e,mA,⟨od,es,ep,e2,c⟩,r⟩:=x;exact⟨ho _ d,z,ne,k _ _ (.inl rfl) e,mA,⟨od,es,ep,k _ _ (.inr d) e2,c⟩,r⟩
 |own y=>obtain⟨ob,e⟩:=x;exact⟨ob,k _ _ (.inl rfl) e⟩
 |xd fs=>obtain⟨mA,⟨od,es,ep,e,c⟩,r⟩:=x;exact⟨mA,⟨od,es,ep,k _ _ (.inl rfl) e,c⟩,r⟩
 |fU lo hi=>obtain⟨t,u,v,e⟩:=x;exact⟨t,u,v,k _ _ (.inl rfl) e⟩
 |bX ob u ih=>obtain⟨e,q⟩:=x;exact⟨k _ _ (.inl rfl) e,ih q⟩
 |rK ps=>
  have e:h.get? a=some { cls:=.none,data:=.fields ps }:=x;show h'.get? a=some { cls:=.none,data:=.fields ps };exact k a _ (.inl rfl) e
 |met f y=>
  have e:h.get? a=some (PySem.W.methodObj (.ref f) (.ref y)):=x;show h'.get? a=some (PySem.W.methodObj (.ref f) (.ref y));exact k a _ (.inl rfl) e
 |ext φ=>obtain⟨p,⟨o,e⟩,st⟩:=x;exact⟨st _ _ p λo q=>k _ _ (.inl rfl) q,⟨o,k _ _ (.inl rfl) e⟩,st⟩
theorem eX.lt(x:eX P w H h)(e:H a=some o):a<h.objs.size:=(x a o e).lt
def eX.fresh(x:eX P w H h)(e:h.objs.size<=a):H a=none:=by
 cases q:H a with
 |none=>rfl
 |some u=>exact absurd (fB (x.lt q) e) (Wi _)
def eX.kept(x:eX P w H h)(k:∀b u,h.get? b=some u->h'.get? b=some u):eX P w H h':=λa o e=>
 (x a o e).stay (λb u _ q=>k b u q) (λ_ q=>q) λ_ _ q=>q
def eX.laid(x:eX P w H h)(k:∀b u,h.get? b=some u->h'.get? b=some u)(hp:h.objs.size<=a)(new:gg P w (upd H a o) h' a o):eX P w (upd H a o) h':=λb u e=>by
 have hn:=x.fresh hp;by_cases hb:b=a
 .subst hb;rw[ez]at e;cases e;exact new
 .rw[bB hb]at e;exact(x b u e).stay (λc v _ q=>k c v q) (λc q=>by rw[bB (bZ q hn)];exact q) λc xs q=>by rw[bB (bZ q hn)];exact q
end
noncomputable def Rd(H:Hp)(a:Addr)(u:HO):Prop:=H a=some u\/∃o,H a=some (.bX o u)
def Rd.ok{P:Program}{w:World}{H:Hp}{h:Heap}{a:Addr}{u:HO}(r:Rd H a u)(x:eX P w H h):gg P w H h a u:=by
 rcases r with r|⟨o,r⟩
 .exact x a u r
 .obtain⟨_,q⟩:=x a _ r;exact q
noncomputable def Et:Option HO->Prop
 |some (.lst _)=>True
 |some (.dK _)=>True
 |some (.dT _)=>True
 |some (.set _ _)=>True
 |some (.ins _ _ _)=>True
 |some (.ext _)=>True
 |_=>False
section
variable{P:Program}{w:World}{H:Hp}{h h':Heap}{x e:Addr}{o':HO}
def eX.write(ok:eX P w H h)(mu:Et (H x))(he:e=x\/H e=some (.own x))(k:∀b u,b≠e->h.get? b=some u->h'.get? b=some u)(vW:∃u,h'.get? e=some u)
  (new:gg P w (upd H x o') h' x o'):eX P w (upd H x o') h':=λb u q=>by
 have IP:∀c y,H c=some (.own y)->c≠x:=λc y r z=>by subst z;rw[r]at mu;exact mu
 have QB:∀c xs,H c=some (.tup xs)->c≠x:=λc xs r z=>by subst z;rw[r]at mu;exact mu
 by_cases hb:b=x
 .subst hb;rw[ez]at q;cases q;exact new
 .rw[bB hb]at q;by_cases tO:b=e
  .have q':H b=some (.own x):=by
    rcases he with z|z
    .exact absurd (tO.trans z) hb
    .rw[tO];exact z
   rw[q]at q';cases q';obtain⟨v,hv⟩:=vW;exact⟨v,by rw[tO];exact hv⟩
  .refine(ok b u q).stay (λc v hc r=>k c v ?_ r) (λc r=>by rw[bB (IP c b r)];exact r) λc xs r=>by rw[bB (QB c xs r)];exact r
   rcases hc with rfl|hc
   .exact tO
   .rintro rfl;rcases he with z|z
    .exact IP c b hc z
    .rw[hc]at z;cases z;exact hb rfl
end
structure Un(fs ex:List Addr)(H H':Hp)(h h':Heap):Prop where
 keep:∀b o,h.get? b=some o->H b=none->b∉fs->b∉ex->h'.get? b=some o
 slot:∀b o,h.get? b=some o->H b=none->b∈fs->b∉ex->∃sl,h'.get? b=some { o with slots:=sl }
 free:∀b o,h.get? b=some o->H b=none->b∉ex->H' b=none
 there:∀b o,h.get? b=some o->b∉ex->∃o',h'.get? b=some o'
 tups:∀b xs,H b=some (.tup xs)->H' b=some (.tup xs)
 jx:∀b o u,H b=some (.bX o u)->H' b=some (.bX o u)
 jV:∀b ps,H b=some (.rK ps)->∃more,H' b=some (.rK (ps++more))
section
variable{fs ex:List Addr}{H H1:Hp}{h h1 h':Heap}{a x e:Addr}{o:HO}
def Un.any(u:Un fs ex H H1 h h1){b:Addr}{ob:Obj}(q:h.get? b=some ob)(n:H b=none)(hx:b∉ex):∃sl,h1.get? b=some { ob with slots:=sl }:=by
 by_cases hb:b∈fs
 .exact u.slot b ob q n hb hx
 .exact⟨ob.slots,u.keep b ob q n hb hx⟩
def Un.kept(k:∀b u,h.get? b=some u->h'.get? b=some u):Un fs ex H H h h':=
 ⟨λb ob q _ _ _=>k b ob q,λb ob q _ _ _=>⟨ob.slots,k b ob q⟩,λ_ _ _ n _=>n,λb ob q _=>⟨ob,k b ob q⟩,λ_ _ q=>q,λ_ _ _ q=>q,λ_ ps q=>⟨#[],by rw[q];simp⟩⟩
def Un.refl:Un fs ex H H h h:=Un.kept λ_ _ q=>q
def Un.laid(k:∀b u,h.get? b=some u->h'.get? b=some u)(hp:h.objs.size<=a)(hn:H a=none):Un fs ex H (upd H a o) h h' where
 keep:=λb u q _ _ _=>k b u q
 slot:=λb u q _ _ _=>⟨u.slots,k b u q⟩
 free:=λb u q n _=>by rw[bB (So (fB (Mt q) hp))];exact n
 there:=λb u q _=>⟨u,k b u q⟩
 tups:=λb xs q=>by rw[bB (bZ q hn)];exact q
 jx:=λb u xs q=>by rw[bB (bZ q hn)];exact q
 jV:=λb ps q=>⟨#[],by rw[bB (bZ q hn),q];simp⟩
def Un.write(mu:Et (H x))(he:e=x\/H e=some (.own x))(k:∀b u,b≠e->h.get? b=some u->h'.get? b=some u)(vW:∃u,h'.get? e=some u):Un fs ex H (upd H x o) h h':=by
 have hx:∀b,H b=none->b≠x:=λb n z=>by subst z;rw[n]at mu;exact mu
 have hb:∀b,H b=none->b≠e:=λb n z=>by
  subst z;rcases he with r|r
  .exact hx b n r
  .rw[n]at r;cases r
 have hm:∀b u,H b=some u->¬ Et (some u)->b≠x:=λb u q nm z=>by subst z;rw[q]at mu;exact nm mu
 refine⟨λb u q n _ _=>k b u (hb b n) q,λb u q n _ _=>⟨u.slots,k b u (hb b n) q⟩,λb u q n _=>by rw[bB (hx b n)];exact n,λb u q _=>?_,
  λb xs q=>by rw[bB (hm b _ q λz=>z)];exact q,λb u xs q=>by rw[bB (hm b _ q λz=>z)];exact q,λb ps q=>⟨#[],by rw[bB (hm b _ q λz=>z),q];simp⟩⟩
 by_cases tO:b=e
 .subst tO;exact vW
 .exact⟨u,k b u tO q⟩
end
noncomputable def Eu(h:Heap)(H:Hp):List Addr:=(List.range h.objs.size).filter λa=>(H a).isSome
noncomputable def kN(h:Heap)(H:Hp):Heap:=PySem.W.hideAll h (Eu h H)
def zU(h:Heap)(H:Hp):(kN h H).objs.size=h.objs.size:=PySem.W.hideAll_size _ _
def B6{h:Heap}{H:Hp}{b:Addr}{o:Obj}(e:h.get? b=some o)(n:H b=none):(kN h H).get? b=some o:=
 PySem.W.hideAll_get _ e λhm=>by
  have q:(H b).isSome=true:=(List.mem_filter.mp hm).2;rw[n]at q;simp at q
def Gb{h:Heap}{H:Hp}{b:Addr}{o:Obj}(e:(kN h H).get? b=some o):h.get? b=some o/\H b=none:=by
 have e':h.get? b=some o:=PySem.W.of_hideAll (Eu h H) e;refine⟨e',?_⟩;cases q:H b with
 |none=>rfl
 |some x=>
  have hm:b∈Eu h H:=List.mem_filter.mpr ⟨List.mem_range.mpr (Mt e'),by simp[q]⟩;have z:(kN h H).get? b=none:=PySem.W.hideAll_none (Eu h H) hm;rw[z]at e;cases e
noncomputable def Gd(g h:Heap)(L:Addr):List (Addr×Obj):=(List.range h.objs.size).filterMap λa=>if a=L\/(g.get? a).isSome=true then none else (h.get? a).map λo=>(a,o)
noncomputable def rest(g h:Heap)(L d:Addr):List (Addr×Obj):=(Gd g h L).filter λp=>decide (p.1≠d)
structure Mod(K:PySem.W.Frag)(mg:Str->Option Value)(base:Heap):Prop where
 cZ:K.In base
 glob:base.Ns mainGlobals mg
 blt:∃mb,base.Ns builtinsNs mb/\∀x:Str,x≠"__name__" ->mb x=bootBuiltins x
 nolimit:base.NoLimit
structure Cx where
 prog:Program
 w:World
 K:PySem.W.Frag
 mg:Str->Option Value
 base:Heap
 A:Around
 N:List Str
 s₀:Shared
 H₀:Hp
 env:Env
 outer:List Env
 stack:List Env
 ex:List Addr
 fn:Str->Bool
 calm:Bool
 pn:List (Addr×Obj)
 xe:Value->Shared->Prop
noncomputable def frs(l:List Env):List Addr:=l.filterMap (·.frame)
noncomputable abbrev Cx.fs(X:Cx):List Addr:=frs X.outer
noncomputable def rL(sc:Scope)(x:Str):Prop:=sc.names.lookup x=some .local\/sc.names.lookup x=some .cell\/sc.names.lookup x=some .free
noncomputable def Loc(sc:Scope)(x:Str):Prop:=sc.names.lookup x=some .local\/sc.names.lookup x=some .cell
noncomputable def Look(env:Env)(h:Heap)(m:Str->Option Value)(x:Str)(u:Value):Prop:=
 (env.kindOf x=some .local/\m x=some u)\/((env.kindOf x=some .cell\/env.kindOf x=some .free)/\∃c,env.cells.lookup x=some c/\h.IsCell c (some u))
structure Cx.Ok(X:Cx):Prop where
 mod:Mod X.K X.mg X.base
 kind:X.env.scope.kind=.function
 glob:X.env.globals=mainGlobals
 blt:X.env.builtins=builtinsNs
 above:X.s₀.heap.objs.size<=X.env.locals
 inj:∀x y c,X.env.cells.lookup x=some c->X.env.cells.lookup y=some c->x=y
 has:∀x,(X.env.kindOf x=some .cell\/X.env.kindOf x=some .free)->∃c,X.env.cells.lookup x=some c
 tP:∀x c,X.fn x=true->X.env.cells.lookup x=some c->X.s₀.heap.objs.size<=c
 hd:X.calm=true->X.A.handled=none
 frames:X.A.frames=some X.stack
 stk:X.stack=X.outer\/(X.stack=X.env :: X.outer/\X.env.frame=some X.env.locals)
 zV:∀b∈X.ex,b≠X.env.locals/\∀x c,X.env.cells.lookup x=some c->c≠b
 bs:∀b o,X.base.get? b=some o->X.s₀.heap.get? b=some o/\X.H₀ b=none
 lS:X.base.objs.size<=X.s₀.heap.objs.size
 oM:∀b o,X.base.get? b=some o->b∉X.ex
 oN:∀b∈X.ex,b∉X.fs
 gM:X.s₀.heap.FunFrames X.base X.outer
 nV:∀b∈X.fs,X.H₀ b=none
structure Inv(X:Cx)(pins:List (Addr×Obj))(σ:List (Option V))(H:Hp)(s:Shared):Prop where
 ok:X.Ok
 os:s.os=X.s₀.os
 bare:AllBare s.gens
 base:Un X.fs X.ex X.H₀ H X.s₀.heap s.heap
 loc:∃m,s.heap.Ns X.env.locals m/\∀(i:Nat) (x:Str) (v:V),X.N[i]?=some x->σ[i]?=some (some v)->rL X.env.scope x->∃u,RelV v u/\Look X.env s.heap m x u
 cell:∀x c,X.env.cells.lookup x=some c->∃v,s.heap.IsCell c v
 free:H X.env.locals=none
 gj:∀x c,X.env.cells.lookup x=some c->H c=none
 pin:∀p∈X.pn++pins,s.heap.get? p.1=some p.2/\H p.1=none/\p.1≠X.env.locals/\p.1∉X.fs/\∀v,p.2.data≠.cell v
 hok:eX X.prog X.w H s.heap
 len:σ.length=X.N.length
section
variable{X:Cx}{pins:List (Addr×Obj)}{σ:List (Option V)}{H H':Hp}{s:Shared}{h':Heap}
def Cx.Ok.QC(ok:X.Ok){b:Addr}{o:Obj}(e:X.base.get? b=some o):b∉X.fs:=λhb=>by
 have:=(ok.gM.mem hb).1;rw[e]at this;cases this
theorem Inv.bs(I:Inv X pins σ H s):∀b o,X.base.get? b=some o->s.heap.get? b=some o/\H b=none:=λb o e=>
 ⟨I.base.keep b o (I.ok.bs b o e).1 (I.ok.bs b o e).2 (I.ok.QC e) (I.ok.oM b o e),I.base.free b o (I.ok.bs b o e).1 (I.ok.bs b o e).2 (I.ok.oM b o e)⟩
def Inv.bk(I:Inv X pins σ H s):∀b o,X.base.get? b=some o->s.heap.get? b=some o:=λb o e=>(I.bs b o e).1
theorem Inv.mod(I:Inv X pins σ H s):Mod X.K X.mg X.base:=I.ok.mod
def Inv.jb(I:Inv X pins σ H s):X.K.In s.heap:=I.ok.mod.cZ.keeps I.bk
theorem Inv.lt(I:Inv X pins σ H s):X.env.locals<s.heap.objs.size:=let ⟨_,hn,_⟩:=I.loc;hn.lt
def Inv.sz(I:Inv X pins σ H s):X.s₀.heap.objs.size<=s.heap.objs.size:=VE I.ok.above (XZ I.lt)
def Inv.QD(I:Inv X pins σ H s){a:Addr}(h:s.heap.objs.size<=a):a∉X.fs:=λhb=>by
 obtain⟨_,o,ho,_⟩:=I.ok.gM.mem hb;exact absurd (fB (Mt ho) (VE I.sz h)) (Wi _)
def Inv.lT(I:Inv X pins σ H s):∀x c,X.env.cells.lookup x=some c->c≠X.env.locals:=λx c e z=>by
 obtain⟨v,o,ho,hd⟩:=I.cell x c e;obtain⟨m,⟨o',es,ep,ho',hd',_⟩,_⟩:=I.loc;rw[z,ho']at ho;cases ho;rw[hd']at hd;cases hd
theorem Inv.gM(I:Inv X pins σ H s):s.heap.FunFrames X.base X.outer:=by
 have all:∀(l:List Env),(∀b∈frs l,b∈X.fs)->X.s₀.heap.FunFrames X.base l->s.heap.FunFrames X.base l:=by
  intro l;induction l with
  |nil=>intro _ _;trivial
  |cons env r ih=>
   intro hs hl;obtain⟨hk,⟨L,o,hf,hn,ho,hd⟩,hr⟩:=hl;have hL:L∈X.fs:=hs L (by unfold frs;rw[VW,hf];exact VS);obtain⟨sl,e⟩:=I.base.slot L o ho (I.ok.nV L hL) hL λz=>I.ok.oN L z hL;exact⟨hk,⟨L,_,hf,hn,e,hd⟩,ih (λb hb=>hs b (by unfold frs;rw[VW,hf];exact VA _ hb)) hr⟩
 exact all X.outer (λ_ hb=>hb) I.ok.gM
theorem Inv.stack(I:Inv X pins σ H s):s.heap.FunFrames X.base X.stack:=by
 rcases I.ok.stk with e|⟨e,hf⟩
 .rw[e];exact I.gM
 .rw[e];obtain⟨m,hn,_⟩:=I.loc;refine .cons (by rw[I.ok.kind];decide) hf hn ?_ I.gM;exact Heap.get?_none_of_le (VE I.ok.lS I.ok.above)
def Inv.pM(I:Inv X pins σ H s):∀b∈frs X.stack,b∈X.env.locals :: X.fs:=λb hb=>by
 rcases I.ok.stk with e|⟨e,hf⟩
 .rw[e]at hb;exact VA _ hb
 .rw[e]at hb;unfold frs at hb;rw[VW,hf]at hb;exact hb
def Inv.qF(I:Inv X pins σ H s):∀b∈frs X.stack,H b=none:=λb hb=>by
 rcases List.mem_cons.mp (I.pM b hb)with e|hb
 .rw[e];exact I.free
 .obtain⟨_,o,ho,_⟩:=I.ok.gM.mem hb;exact I.base.free b o ho (I.ok.nV b hb) λz=>I.ok.oN b z hb
def Inv.step{g':Array GenState}{t':Nat}{d':Drawn}{ch:List Addr}(I:Inv X pins σ H s)
  (hch:∀b∈ch,(b∈X.ex\/X.s₀.heap.objs.size<=b)/\b≠X.env.locals/\(∀x c,X.env.cells.lookup x=some c->c≠b)/\∀p∈X.pn++pins,p.1≠b)
  (keep:∀b o,b≠X.env.locals->b∉X.fs->b∉ch->s.heap.get? b=some o->H b=none->h'.get? b=some o)
  (slot:∀b o,b≠X.env.locals->b∈X.fs->b∉ch->s.heap.get? b=some o->H b=none->∃sl,h'.get? b=some { o with slots:=sl }) (free:∀b o,b∉ch->s.heap.get? b=some o->H b=none->H' b=none)
  (there:∀b o,b∉ch->s.heap.get? b=some o->∃o',h'.get? b=some o')
  (tups:∀b xs,H b=some (.tup xs)->H' b=some (.tup xs)) (jx:∀b o u,H b=some (.bX o u)->H' b=some (.bX o u)) (jV:∀b ps,H b=some (.rK ps)->∃more,H' b=some (.rK (ps++more)))
  (ns:∀m,s.heap.Ns X.env.locals m->h'.Ns X.env.locals m) (hok:eX X.prog X.w H' h') (hg:AllBare g') :
  Inv X pins σ H' { s with heap:=h',gens:=g',drawn:=d',toks:=t' }:=by
 have Pg:∀b o,X.s₀.heap.get? b=some o->b≠X.env.locals:=λb o e=>So (fB (Mt e) I.ok.above);have Ew:∀b o,X.s₀.heap.get? b=some o->b∉X.ex->b∉ch:=λb o e hx hb=>by
  rcases(hch b hb).1 with z|z
  .exact hx z
  .exact absurd (fB (Mt e) z) (Wi _)
 have cellK:∀x c,X.env.cells.lookup x=some c->∀v,s.heap.IsCell c v->h'.IsCell c v:=λx c e v ⟨o,ho,hd⟩=>by
  have zW:c∉ch:=λz=>(hch c z).2.2.1 x c e rfl;by_cases hc:c∈X.fs
  .obtain⟨sl,q⟩:=slot c o (I.lT x c e) hc zW ho (I.gj x c e);exact⟨_,q,hd⟩
  .exact⟨o,keep c o (I.lT x c e) hc zW ho (I.gj x c e),hd⟩
 refine⟨I.ok,I.os,hg,⟨λb o e n hb hx=>?_,λb o e n hb hx=>?_,λb o e n hx=>?_,λb o e hx=>?_,λb xs e=>tups b xs (I.base.tups b xs e),λb o xs e=>jx b o xs (I.base.jx b o xs e),λb ps e=>?_⟩,?_,λx c e=>?_,?_,λx c e=>?_,λp hp=>?_,hok,I.len⟩
 .exact keep b o (Pg b o e) hb (Ew b o e hx) (I.base.keep b o e n hb hx) (I.base.free b o e n hx)
 .obtain⟨sl,e1⟩:=I.base.slot b o e n hb hx;obtain⟨Sq,e2⟩:=slot b _ (Pg b o e) hb (Ew b o e hx) e1 (I.base.free b o e n hx);exact⟨Sq,e2⟩
 .obtain⟨o',e1⟩:=I.base.there b o e hx;exact free b o' (Ew b o e hx) e1 (I.base.free b o e n hx)
 .obtain⟨o',e1⟩:=I.base.there b o e hx;exact there b o' (Ew b o e hx) e1
 .obtain⟨m1,e1⟩:=I.base.jV b ps e;obtain⟨m2,e2⟩:=jV b _ e1;exact⟨m1++m2,by rw[e2,Array.append_assoc]⟩
 .obtain⟨m,hn,hl⟩:=I.loc;refine⟨m,ns m hn,λi x v e1 e2 e3=>?_⟩;obtain⟨u,r,l⟩:=hl i x v e1 e2 e3;refine⟨u,r,?_⟩;rcases l with l|⟨k,c,e,z⟩
  .exact .inl l
  .exact .inr ⟨k,c,e,cellK x c e _ z⟩
 .obtain⟨v,z⟩:=I.cell x c e;exact⟨v,cellK x c e v z⟩
 .obtain⟨m,⟨o,_,_,ho,_⟩,_⟩:=I.loc;exact free _ o (λz=>(hch _ z).2.1 rfl) ho I.free
 .obtain⟨v,o,ho,hd⟩:=I.cell x c e;exact free c o (λz=>(hch c z).2.2.1 x c e rfl) ho (I.gj x c e)
 .obtain⟨e,n,ne,nf,d⟩:=I.pin p hp;have zW:p.1∉ch:=λz=>(hch p.1 z).2.2.2 p hp rfl;exact⟨keep p.1 p.2 ne nf zW e n,free p.1 p.2 zW e n,ne,nf,d⟩
def Inv.un{t':Nat}(I:Inv X pins σ H s)(u:Un X.fs [] H H' s.heap h')(hok:eX X.prog X.w H' h'):Inv X pins σ H' { s with heap:=h',toks:=t' }:=by
 obtain⟨m,⟨o,es,ep,ho,r⟩,_⟩:=id I.loc;obtain⟨sl,hL⟩:=u.any ho I.free (by simp);exact I.step (g':=s.gens) (d':=s.drawn) (ch:=[]) (λ_ z=>nomatch z) (λb o _ hb _ e n=>u.keep b o e n hb (by simp)) (λb o _ hb _ e n=>u.slot b o e n hb (by simp)) (λb o _ e n=>u.free b o e n (by simp)) (λb o _ e=>u.there b o e (by simp)) u.tups u.jx u.jV (λm' hm=>by
  obtain⟨o',es',IQ,ho',r'⟩:=hm;rw[ho]at ho';cases ho';exact⟨_,es',IQ,hL,r'⟩) hok I.bare
def Inv.call{g':Array GenState}{t':Nat}{d':Drawn}{ch:List Addr}(I:Inv X pins σ H s)(u:Un (frs X.stack) ch H H' s.heap h')(hok:eX X.prog X.w H' h')(hg:AllBare g')
  (hch:∀b∈ch,(b∈X.ex\/X.s₀.heap.objs.size<=b)/\b≠X.env.locals/\(∀x c,X.env.cells.lookup x=some c->c≠b)/\∀p∈X.pn++pins,p.1≠b) :
  Inv X pins σ H' { s with heap:=h',gens:=g',drawn:=d',toks:=t' }:=by
 obtain⟨m,⟨o,es,ep,ho,r⟩,_⟩:=id I.loc;obtain⟨sl,hL⟩:=u.any ho I.free λz=>(hch _ z).2.1 rfl;exact I.step (ch:=ch) hch (λb o hL hb hc e n=>u.keep b o e n (λz=>(List.mem_cons.mp (I.pM b z)).elim hL hb) hc) (λb o _ _ hc e n=>u.any e n hc) (λb o hc e n=>u.free b o e n hc) (λb o hc e=>u.there b o e hc) u.tups u.jx u.jV (λm' hm=>by
  obtain⟨o',es',IQ,ho',r'⟩:=hm;rw[ho]at ho';cases ho';exact⟨_,es',IQ,hL,r'⟩) hok hg
def Inv.turned{t':Nat}{it:Addr}(I:Inv X pins σ H s)(k:∀b o,b≠it->s.heap.get? b=some o->h'.get? b=some o)(hn:H it=none)(hL:it≠X.env.locals)
  (h1:it∈X.ex\/X.s₀.heap.objs.size<=it) (h2:∀x c,X.env.cells.lookup x=some c->c≠it) (h3:∀p∈X.pn++pins,p.1≠it):Inv X pins σ H { s with heap:=h',toks:=t' }:=by
 have Ph:∀b u,H b=some u->b≠it:=λb u e z=>by rw[z,hn]at e;cases e
 refine I.step (g':=s.gens) (d':=s.drawn) (ch:=[it]) (λb hb=>?_) (λb o _ _ hc e _=>k b o (λz=>hc (by simp[z])) e) (λb o _ _ hc e _=>⟨o.slots,k b o (λz=>hc (by simp[z])) e⟩) (λ_ _ _ _ n=>n)
  (λb o hc e=>⟨o,k b o (λz=>hc (by simp[z])) e⟩) (λ_ _ e=>e) (λ_ _ _ e=>e) (λb ps e=>⟨#[],by rw[e];simp⟩) (λm hm=>?_) (λb u e=>?_) I.bare
 .have e:b=it:=by simpa using hb
  subst e;exact⟨h1,hL,h2,h3⟩
 .obtain⟨o,es,ep,ho,r⟩:=hm;exact⟨o,es,ep,k _ o (WB hL) ho,r⟩
 .refine(I.hok b u e).stay (λc v hc q=>k c v ?_ q) (λ_ q=>q) λ_ _ q=>q;rcases hc with z|z
  .rw[z];exact Ph b u e
  .exact Ph c _ z
def Inv.tok(I:Inv X pins σ H s)(t:Nat):Inv X pins σ H { s with toks:=t }:=I.un (h':=s.heap) (t':=t) Un.refl I.hok
theorem Inv.kept{t':Nat}(I:Inv X pins σ H s)(k:∀b u,s.heap.get? b=some u->h'.get? b=some u):Inv X pins σ H { s with heap:=h',toks:=t' }:=I.un (Un.kept k) (I.hok.kept k)
theorem Inv.laid{a:Addr}{o:HO}{t':Nat}(I:Inv X pins σ H s)(k:∀b u,s.heap.get? b=some u->h'.get? b=some u)(hp:s.heap.objs.size<=a)(new:gg X.prog X.w (upd H a o) h' a o) :
  Inv X pins σ (upd H a o) { s with heap:=h',toks:=t' }:=I.un (Un.laid k hp (I.hok.fresh hp)) (I.hok.laid k hp new)
theorem Inv.write{x e:Addr}{o:HO}{t':Nat}(I:Inv X pins σ H s)(mu:Et (H x))(he:e=x\/H e=some (.own x))(k:∀b u,b≠e->s.heap.get? b=some u->h'.get? b=some u)(vW:∃u,h'.get? e=some u)
  (new:gg X.prog X.w (upd H x o) h' x o):Inv X pins σ (upd H x o) { s with heap:=h',toks:=t' }:=I.un (Un.write mu he k vW) (I.hok.write mu he k vW new)
def Inv.vX{Ey:List (Addr×Obj)}(I:Inv X pins σ H s)(h:∀p∈Ey,s.heap.get? p.1=some p.2/\H p.1=none/\p.1≠X.env.locals/\p.1∉X.fs/\∀v,p.2.data≠.cell v):Inv X Ey σ H s:=
 ⟨I.ok,I.os,I.bare,I.base,I.loc,I.cell,I.free,I.gj,λp hp=>(List.mem_append.mp hp).elim (λz=>I.pin p (Yx _ z)) (h p),I.hok,I.len⟩
def oO{N:List Str}(hN:N.Nodup){i j:Nat}{x:Str}(a:N[i]?=some x)(b:N[j]?=some x):i=j:=by
 obtain⟨h1,e1⟩:=List.getElem?_eq_some_iff.mp a;obtain⟨h2,e2⟩:=List.getElem?_eq_some_iff.mp b;exact(YT hN).mp (e1.trans e2.symm)
def lU{M:Model}{A:Around}{E:Value->Shared->Prop}{i:Nat}{x:Str}{v:V}{u:Value}{Q:Unit->Shared->Prop}(I:Inv X pins σ H s)(hN:X.N.Nodup)(hi:X.N[i]?=some x)(hx:Loc X.env.scope x)(r:RelV v u)
  (h:∀s',Inv X pins (σ.set i (some v)) H s'->(∃a,Heap.SameBut a s.heap s'.heap/\(a=X.env.locals\/X.env.cells.lookup x=some a))->Q () s') (hf:X.fn x=true\/X.env.scope.names.lookup x=some .local:=by first|exact .inl rfl|exact .inr rfl|assumption):wpAny M A (storeName X.env x u) Q E s:=by
 obtain⟨m,hn,hl⟩:=id I.loc;have hcls:(X.env.scope.kind==.class || (X.env.scope.kind==.module&&X.env.locals != X.env.globals))=false:=by rw[I.ok.kind];rfl
 have yl:i<σ.length:=by rw[I.len];exact(List.getElem?_eq_some_iff.mp hi).1
 have lT:=I.lT;have tracked:∀{a:Addr} {h':Heap},(∃o,s.heap.get? a=some o/\H a=none)->Heap.SameBut a s.heap h'->eX X.prog X.w H h':=λ{a h'} ha hs b ob e=>by
  obtain⟨_,_,hfree⟩:=ha;refine(I.hok b ob e).stay (λc w' hc q=>(hs.2 c ?_).trans q) (λ_ q=>q) λ_ _ q=>q;rintro rfl;rcases hc with rfl|hc
  .rw[hfree]at e;cases e
  .rw[hfree]at hc;cases hc
 rcases hx with hk|hk
 .refine wpAny_storeName_local hk hn (λh' hn' hs=>?_) hcls;obtain⟨oL,_,_,vY,_⟩:=id hn;refine h _ ⟨I.ok,I.os,I.bare,⟨λb o e n hb hx=>?_,λb o e n hb hx=>?_,I.base.free,λb o e hx=>?_,I.base.tups,I.base.jx,I.base.jV⟩,⟨_,hn',λj y v' e1 e2 e3=>?_⟩,λy c e=>?_,I.free,I.gj,λp hp=>?_,tracked ⟨oL,vY,I.free⟩ hs,by simpa using I.len⟩ ⟨_,hs,.inl rfl⟩
  .exact(hs.2 b (So (fB (Mt e) I.ok.above))).trans (I.base.keep b o e n hb hx)
  .obtain⟨sl,e1⟩:=I.base.slot b o e n hb hx;exact⟨sl,(hs.2 b (So (fB (Mt e) I.ok.above))).trans e1⟩
  .obtain⟨o',e1⟩:=I.base.there b o e hx;exact⟨o',(hs.2 b (So (fB (Mt e) I.ok.above))).trans e1⟩
  .by_cases hj:j=i
   .subst hj;rw[hi]at e1;cases e1;rw[Ei yl]at e2;cases e2;exact⟨u,r,.inl ⟨hk,by simp⟩⟩
   .rw[gI (WB hj)]at e2;obtain⟨u',r',q⟩:=hl j y v' e1 e2 e3;refine⟨u',r',?_⟩;rcases q with ⟨k,e⟩|⟨k,c,e,z⟩
    .refine .inl ⟨k,?_⟩;have:y≠x:=λe=>hj (oO hN e1 (e▸hi));simp[this,e]
    .exact .inr ⟨k,c,e,z.sameBut hs (lT y c e)⟩
  .obtain⟨w',z⟩:=I.cell y c e;exact⟨w',z.sameBut hs (lT y c e)⟩
  .obtain⟨e,n,ne,nf,d⟩:=I.pin p hp;exact⟨(hs.2 p.1 ne).trans e,n,ne,nf,d⟩
 .have hfn:X.fn x=true:=by
   rcases hf with z|z
   .exact z
   .rw[z]at hk;cases hk
  obtain⟨c,hc⟩:=I.ok.has x (.inl hk);obtain⟨w',z⟩:=I.cell x c hc;refine wpAny_storeName_cell I.ok.kind hk hc z (λh' hc' hs=>?_);obtain⟨oc,hoc,QE⟩:=id z;refine h { s with heap:=h' } ⟨I.ok,I.os,I.bare,⟨λb o e n hb hx=>?_,λb o e n hb hx=>?_,I.base.free,λb o e hx=>?_,I.base.tups,I.base.jx,I.base.jV⟩,⟨m,hn.sameBut hs (WB (lT x c hc)),λj y v' e1 e2 e3=>?_⟩,λy c' e=>?_,I.free,I.gj,λp hp=>?_,tracked ⟨oc,hoc,I.gj x c hc⟩ hs,by simpa using I.len⟩ ⟨c,hs,.inr hc⟩
  .exact(hs.2 b (So (fB (Mt e) (I.ok.tP x c hfn hc)))).trans (I.base.keep b o e n hb hx)
  .obtain⟨sl,e1⟩:=I.base.slot b o e n hb hx;exact⟨sl,(hs.2 b (So (fB (Mt e) (I.ok.tP x c hfn hc)))).trans e1⟩
  .obtain⟨o',e1⟩:=I.base.there b o e hx;exact⟨o',(hs.2 b (So (fB (Mt e) (I.ok.tP x c hfn hc)))).trans e1⟩
  .by_cases hj:j=i
   .subst hj;rw[hi]at e1;cases e1;rw[Ei yl]at e2;cases e2;exact⟨u,r,.inr ⟨.inl hk,c,hc,hc'⟩⟩
   .rw[gI (WB hj)]at e2;obtain⟨u',r',q⟩:=hl j y v' e1 e2 e3;refine⟨u',r',?_⟩;rcases q with q|⟨k,c',e,z'⟩
    .exact .inl q
    .refine .inr ⟨k,c',e,z'.sameBut hs ?_⟩;rintro rfl;exact hj (oO hN e1 (I.ok.inj _ _ _ e hc▸hi))
  .by_cases hcc:c'=c
   .subst hcc;exact⟨_,hc'⟩
   .obtain⟨w2,z2⟩:=I.cell y c' e;exact⟨w2,z2.sameBut hs hcc⟩
  .obtain⟨e,n,ne,nf,d⟩:=I.pin p hp;refine⟨(hs.2 p.1 ?_).trans e,n,ne,nf,d⟩;intro q;rw[q,hoc]at e;have q':oc=p.2:=kI e;exact d w' (by rw[<-q'];exact QE)
def oQ{M:Model}{A:Around}{E:Value->Shared->Prop}{i:Nat}{x:Str}{v:V}{u:Value}{Q:Unit->Shared->Prop}(I:Inv X pins σ H s)(hN:X.N.Nodup)(hi:X.N[i]?=some x)(hx:Loc X.env.scope x)(r:RelV v u)
  (h:∀s',Inv X pins (σ.set i (some v)) H s'->Q () s') (hf:X.fn x=true\/X.env.scope.names.lookup x=some .local:=by first|exact .inl rfl|exact .inr rfl|assumption):wpAny M A (storeName X.env x u) Q E s:=
 lU I hN hi hx r (λs' I' _=>h s' I') hf
def Inv.sW{s':Shared}{ch:List Addr}(I:Inv X pins σ H s)(ho:s'.os=s.os)(u:Un (frs X.stack) ch H H' s.heap s'.heap)(hok:eX X.prog X.w H' s'.heap)(hg:AllBare s'.gens)
  (hch:∀b∈ch,(b∈X.ex\/X.s₀.heap.objs.size<=b)/\b≠X.env.locals/\(∀x c,X.env.cells.lookup x=some c->c≠b)/\∀p∈X.pn++pins,p.1≠b):Inv X pins σ H' s':=by
 obtain⟨h',g',d',t',o'⟩:=s';have e:o'=s.os:=ho;subst e;exact I.call (g':=g') (t':=t') (d':=d') u hok hg hch
end
abbrev XK:=Value->Option Addr->Hp->Prop
abbrev St:=List (Option V)
abbrev VK:=V->Hp->Prop
abbrev TE:=St->Hp->VK->Prop
abbrev TT:=St->Hp->(Bool->Hp->Prop)->Prop
abbrev TA:=St->Hp->(List V->Hp->Prop)->Prop
structure Ends where
 nx:St->Hp->Prop
 rt:VK
 bk:St->Hp->Prop:=λ_ _=>False
 ct:St->Hp->Prop:=λ_ _=>False
abbrev TS:=Ends->St->Hp->Prop
noncomputable def EP(X:Cx)(pins:List (Addr×Obj))(σ:St)(Q:VK)(u:Value)(s':Shared):Prop:=∃v H',Inv X pins σ H' s'/\RelV v u/\Q v H'
noncomputable def TP(X:Cx)(pins:List (Addr×Obj))(σ:St)(Q:Bool->Hp->Prop)(b:Bool)(s':Shared):Prop:=∃H',Inv X pins σ H' s'/\Q b H'
noncomputable def AP(X:Cx)(pins:List (Addr×Obj))(σ:St)(Q:List V->Hp->Prop)(us:List Value)(s':Shared):Prop:=∃vs H',Inv X pins σ H' s'/\Vals vs us/\Q vs H'
noncomputable def SP(X:Cx)(pins:List (Addr×Obj))(D:Ends)(f:Flow)(s':Shared):Prop:=
 match f with
 |.next=>∃σ' H',Inv X pins σ' H' s'/\D.nx σ' H'
 |.brk=>∃σ' H',Inv X pins σ' H' s'/\D.bk σ' H'
 |.cont=>∃σ' H',Inv X pins σ' H' s'/\D.ct σ' H'
 |.ret u=>∃v σ' H',Inv X pins σ' H' s'/\RelV v u/\D.rt v H'
noncomputable def PE(X:Cx)(e:Expr)(t:TE):Prop:=
 ∀(pins:List (Addr×Obj)) (s:Shared) (σ:St) (H:Hp) (Q:VK),Inv X pins σ H s->t σ H Q->wpAny (model X.prog X.w) X.A (eval e X.env) (EP X pins σ Q) X.xe s
noncomputable def PT(X:Cx)(e:Expr)(t:TT):Prop:=
 ∀(pins:List (Addr×Obj)) (s:Shared) (σ:St) (H:Hp) (Q:Bool->Hp->Prop),Inv X pins σ H s->t σ H Q->wpAny (model X.prog X.w) X.A (isTrue e X.env (eval e X.env)) (TP X pins σ Q) X.xe s
noncomputable def PW(X:Cx)(e:Expr)(t:TT):Prop:=
 ∀(whole:Sem Value) (pins:List (Addr×Obj)) (s:Shared) (σ:St) (H:Hp) (Q:Bool->Hp->Prop),Inv X pins σ H s->t σ H Q->wpAny (model X.prog X.w) X.A (isTrue e X.env whole) (TP X pins σ Q) X.xe s
def PW.pt{X:Cx}{e:Expr}{t:TT}(h:PW X e t):PT X e t:=h _
noncomputable def PA(X:Cx)(es:List Expr)(t:TA):Prop:=
 ∀(pos:Pos) (pins:List (Addr×Obj)) (s:Shared) (σ:St) (H:Hp) (Q:List V->Hp->Prop),Inv X pins σ H s->t σ H Q->wpAny (model X.prog X.w) X.A (spliced (backTo pos (starEach es X.env))) (AP X pins σ Q) X.xe s
noncomputable def PS(X:Cx)(st:Stmt)(t:TS):Prop:=
 ∀(pins:List (Addr×Obj)) (s:Shared) (σ:St) (H:Hp) (D:Ends),Inv X pins σ H s->t D σ H->wpAny (model X.prog X.w) X.A (exec st X.env) (SP X pins D) X.xe s
noncomputable def eY(X:Cx)(st:List Stmt)(t:TS):Prop:=
 ∀(pins:List (Addr×Obj)) (s:Shared) (σ:St) (H:Hp) (D:Ends),Inv X pins σ H s->t D σ H->wpAny (model X.prog X.w) X.A (execs st X.env) (SP X pins D) X.xe s
def bU{α:Type}{t:Sem α}{Q Q':α->Shared->Prop}{M:Model}{A:Around}{E:Value->Shared->Prop}{s:Shared}(h:wpAny M A t Q E s)(hQ:∀a s,Q a s->Q' a s):wpAny M A t Q' E s:=Vx h hQ λ_ _ x=>x
section
variable{X:Cx}
def bin{a b:Expr}{ta tb:TE}(ha:PE X a ta)(hb:PE X b tb){pins:List (Addr×Obj)}{s:Shared}{σ:St}{H:Hp}{R:V->V->Hp->Prop}(I:Inv X pins σ H s)(h:ta σ H λx H1=>tb σ H1 λy H2=>R x y H2)
  {α:Type} {Q:α->Shared->Prop} {f:Value->Value->Sem α}
  (hf:∀v u s2 x y H2,Inv X pins σ H2 s2->RelV x v->RelV y u->R x y H2->wpAny (model X.prog X.w) X.A (f v u) Q X.xe s2) :
  wpAny (model X.prog X.w) X.A (eval a X.env) (λv s₁=>wpAny (model X.prog X.w) X.A (eval b X.env) (λu s₂=>wpAny (model X.prog X.w) X.A (f v u) Q X.xe s₂) X.xe s₁) X.xe s:=by
 refine bU (ha pins s σ H _ I h) λv s1 ⟨x,H1,I1,r1,q1⟩=>?_;refine bU (hb pins s1 σ H1 _ I1 q1) λu s2 ⟨y,H2,I2,r2,q2⟩=>?_;exact hf v u s2 x y H2 I2 r1 r2 q2
noncomputable def B7(i:Nat):TE:=λσ H Q=>∃v,σ[i]?=some (some v)/\Q v H
noncomputable def tC(v:V):TE:=λ_ H Q=>Q v H
def lV {i:Nat}{x:Str}{pos:Pos}(hN:X.N[i]?=some x) (hv:rL X.env.scope x) (hd:(x==("__debug__" : Str))=false:=by decide) (hcd:(x==("__classdict__" : Str))=false:=by decide):PE X (.Name x pos) (B7 i):=by
 intro pins s σ H Q I h;obtain⟨v,e,h⟩:=h;obtain⟨m,hn,hl⟩:=I.loc;obtain⟨u,r,l⟩:=hl i x v hN e hv;have fin:EP X pins σ Q u s:=⟨v,H,I,r,h⟩
 rcases l with ⟨hk,hm⟩|⟨hk,c,hc,hcell⟩
 .exact Yw (wpAny_loadName_local I.ok.kind hk hn hm fin) hd
 .rcases hk with hk|hk
  .exact Yw (wpAny_loadName_cell I.ok.kind hk hc hcell fin) hd
  .exact Yw (wpAny_loadName_free I.ok.kind hk hc hcell fin hcd) hd
def zX{i j pos}:PE X (.Constant (.int i) j pos) (tC (.int i)):=λ_ _ _ H _ I h=>wpAny_Constant_int ⟨.int i,H,I.tok _,⟨_,rfl⟩,h⟩
def Ni{b j pos}:PE X (.Constant (.bool b) j pos) (tC (.bl b)):=λ_ _ _ H _ I h=>Constant_bool ⟨.bl b,H,I,rfl,h⟩
def IS{j pos}:PE X (.Constant .none j pos) (tC .aG):=λ_ _ _ H _ I h=>Constant_none ⟨.aG,H,I,rfl,h⟩
def zY{x j pos}:PE X (.Constant (.str x) j pos) (tC (.str x)):=λ_ _ _ H _ I h=>Calls.Constant_str ⟨.str x,H,I.tok _,⟨_,rfl⟩,h⟩
noncomputable def Gl(X:Cx)(x:Str):Prop:=X.env.kindOf x=some .globalImplicit
def qG{E:Value->Shared->Prop}{pins:List (Addr×Obj)}{s:Shared}{σ:St}{H:Hp}{x:Str}{u:Value}{pos:Pos}{Q:Value->Shared->Prop}(I:Inv X pins σ H s)(hg:Gl X x)(hm:X.mg x=some u)(h:Q u s)
  (hd:(x==("__debug__" : Str))=false:=by decide):wpAny (model X.prog X.w) X.A (eval (.Name x pos) X.env) Q E s:=
 Wv I.ok.kind hg (W7 (by rw[I.ok.glob];exact I.mod.glob.keeps I.bk) hm h) hd
def lW{E:Value->Shared->Prop}{pins:List (Addr×Obj)}{s:Shared}{σ:St}{H:Hp}{x:Str}{u:Value}{pos:Pos}{Q:Value->Shared->Prop}(I:Inv X pins σ H s)(hg:Gl X x)(hm:X.mg x=none)(hv:bootBuiltins x=some u)(h:Q u s)
  (hn:x≠"__name__" :=by decide) (hd:(x==("__debug__" : Str))=false:=by decide):wpAny (model X.prog X.w) X.A (eval (.Name x pos) X.env) Q E s:=by
 obtain⟨mb,h1,h2⟩:=I.mod.blt;exact Wv I.ok.kind hg (Calls.loadGlobal_builtin (by rw[I.ok.glob];exact I.mod.glob.keeps I.bk) hm (by rw[I.ok.blt];exact h1.keeps I.bk) ((h2 x hn).trans hv) h) hd
def nv {x:Str}{v:V}{u:Value}{pos:Pos}(hg:Gl X x) (hm:X.mg x=some u) (r:RelV v u) (hd:(x==("__debug__" : Str))=false:=by decide):PE X (.Name x pos) (tC v):=
 λ_ _ _ H _ I h=>qG I hg hm ⟨v,H,I,r,h⟩ hd
def Ge {x:Str}{v:V}{u:Value}{pos:Pos}(hg:Gl X x) (hm:X.mg x=none) (hv:bootBuiltins x=some u) (r:RelV v u) (hn:x≠"__name__" :=by decide) (hd:(x==("__debug__" : Str))=false:=by decide):PE X (.Name x pos) (tC v):=
 λ_ _ _ H _ I h=>lW I hg hm hv ⟨v,H,I,r,h⟩ hn hd
variable{a b:Expr}{ta tb:TE}{pos:Pos}
noncomputable def tB(t:TE):TT:=λσ H Q=>t σ H λx H1=>∃c,x=.bl c/\Q c H1
def IT{e:Expr}{t:TE}(h:PE X e t)(he:∀whole,isTrue e X.env whole=(do let v <-whole;standAt e.pos;holding [v] (truthy v)):=by intro _;rfl):PT X e (tB t):=by
 intro pins s σ H Q I hw;refine isTrue_plain (bU (h pins s σ H _ I hw) λv s1 ⟨x,H1,I1,r1,q1⟩=>?_) (he _);obtain⟨d,rfl,q⟩:=q1;cases r1;exact XJ ⟨H1,I1,q⟩
variable{tA Ez:TT}{rest:List Expr}
noncomputable def QF(t u:TT):TT:=λσ H Q=>t σ H λc H1=>if c=true then u σ H1 Q else Q false H1
noncomputable def Su(t u:TT):TT:=λσ H Q=>t σ H λc H1=>if c=true then Q true H1 else u σ H1 Q
noncomputable def QG(t:TT):TT:=λσ H Q=>t σ H λc H1=>Q (!c) H1
def Gf(ha:PT X a tA):PW X (.BoolOp .And [a] pos) tA:=by
 intro wh pins s σ H Q I h;refine isTrue_and (bU (ha pins s σ H Q I h) λc s1 e=>?_);cases c with
 |true=>exact isTrue_and_nil e
 |false=>exact e
def IU(ha:PT X a tA):PW X (.BoolOp .Or [a] pos) tA:=by
 intro wh pins s σ H Q I h;refine isTrue_or (bU (ha pins s σ H Q I h) λc s1 e=>?_);cases c with
 |false=>exact isTrue_or_nil e
 |true=>exact e
def IV(ha:PT X a tA)(hb:PW X (.BoolOp .And (b :: rest) pos) Ez):PW X (.BoolOp .And (a :: b :: rest) pos) (QF tA Ez):=by
 intro wh pins s σ H Q I h;refine isTrue_and (bU (ha pins s σ H _ I h) λc s1 ⟨H1,I1,q1⟩=>?_);cases c with
 |true=>exact hb wh pins s1 σ H1 Q I1 q1
 |false=>exact⟨H1,I1,q1⟩
def Nj(ha:PT X a tA)(hb:PW X (.BoolOp .Or (b :: rest) pos) Ez):PW X (.BoolOp .Or (a :: b :: rest) pos) (Su tA Ez):=by
 intro wh pins s σ H Q I h;refine isTrue_or (bU (ha pins s σ H _ I h) λc s1 ⟨H1,I1,q1⟩=>?_);cases c with
 |true=>exact⟨H1,I1,q1⟩
 |false=>exact hb wh pins s1 σ H1 Q I1 q1
def zZ(ha:PT X a tA):PT X (.UnaryOp .Not a pos) (QG tA):=by
 intro pins s σ H Q I h;exact isTrue_not (ha pins s σ H (λc H1=>Q (!c) H1) I h)
noncomputable def Sv(t:TT)(ta tb:TE):TE:=λσ H Q=>t σ H λc H1=>if c=true then ta σ H1 Q else tb σ H1 Q
def B8{c:Expr}(hc:PT X c tA)(ha:PE X a ta)(hb:PE X b tb):PE X (.IfExp c a b pos) (Sv tA ta tb):=by
 intro pins s σ H Q I h;refine wpAny_IfExp (bU (hc pins s σ H _ I h) λd s1 ⟨H1,I1,q1⟩=>?_);cases d with
 |true=>exact ha pins s1 σ H1 Q I1 q1
 |false=>exact hb pins s1 σ H1 Q I1 q1
end
noncomputable def fE(K:PySem.W.Frag)(H:Hp)(a:Addr)(xs:List V):Prop:=
 Rd H a (.lst xs)\/
  ∃(o:Obj) (its:Array Value) (n:Nat),K.lookup a=some o/\o.cls=.type "list" /\o.dict=none/\o.data=.seq its n/\its.size<=sizeLine/\Vals xs its.toList
noncomputable def dU(K:PySem.W.Frag)(H:Hp)(a:Addr)(xs:List V):Prop:=
 Rd H a (.tup xs)\/
  ∃(o:Obj) (its:Array Value) (n:Nat),K.lookup a=some o/\o.cls=.type "tuple" /\o.data=.seq its n/\its.size<=sizeLine/\Vals xs its.toList
noncomputable def QH:Value->Option V
 |.none=>some .aG
 |.bool b=>some (.bl b)
 |.int i _=>some (.int i)
 |.str x _=>some (.str x)
 |.bytes b _=>some (.lR b)
 |.float b _=>some (.IK b)
 |.ref a=>some (.ref a)
 |.type n=>some (.ty n)
 |_=>none
def RelV.abs{x:V}{u:Value}(r:RelV x u):QH u=some x:=by
 cases x with
 |aG=>cases r;rfl
 |bl _=>cases r;rfl
 |int _=>obtain⟨t,rfl⟩:=r;rfl
 |str _=>obtain⟨t,rfl⟩:=r;rfl
 |lR _=>obtain⟨t,rfl⟩:=r;rfl
 |IK _=>obtain⟨t,rfl⟩:=r;rfl
 |ref _=>cases r;rfl
 |ty _=>cases r;rfl
theorem RelV.inj{x y:V}{u:Value}(r:RelV x u)(q:RelV y u):x=y:=kI (r.abs.symm.trans q.abs)
theorem Vals.inj:∀{xs ys:List V}{us:List Value},Vals xs us->Vals ys us->xs=ys
 |_,_,_,.nil,.nil=>rfl
 |_,_,_,.cons r t,.cons r' t'=>by rw[r.inj r',Vals.inj t t']
section
variable{X:Cx}{pins:List (Addr×Obj)}{σ:St}{H:Hp}{s:Shared}{a:Addr}{xs ys:List V}
def fE.of{K:PySem.W.Frag}(h:H a=some (.lst xs)):fE K H a xs:=.inl (.inl h)
def dU.of{K:PySem.W.Frag}(h:H a=some (.tup xs)):dU K H a xs:=.inl (.inl h)
def Inv.list(I:Inv X pins σ H s)(h:fE X.K H a xs):∃its:List Value,Vals xs its/\PlainL s.heap a its.toArray/\xs.length<=sizeLine:=by
 rcases h with h|⟨o,its,n,hk,hc,hd,hs,hz,r⟩
 .obtain⟨z,its,n,r,e⟩:=h.ok I.hok;exact⟨its,r,⟨_,n,e,rfl,rfl,rfl⟩,z⟩
 .refine⟨its.toList,r,⟨o,n,I.jb a o hk,hc,hd,by simpa using hs⟩,?_⟩;have e:=r.length;simp only[V4]at e;omega
def Inv.tuple(I:Inv X pins σ H s)(h:dU X.K H a xs):∃its:List Value,Vals xs its/\IsTup s.heap a its.toArray/\xs.length<=sizeLine:=by
 rcases h with h|⟨o,its,n,hk,hc,hs,hz,r⟩
 .obtain⟨z,its,r,p⟩:=h.ok I.hok;exact⟨its,r,p,z⟩
 .refine⟨its.toList,r,⟨o,I.jb a o hk,hc,n,by simpa using hs⟩,?_⟩;have e:=r.length;simp only[V4]at e;omega
def Inv.B9(I:Inv X pins σ H s)(h:fE X.K H a xs)(h':fE X.K H a ys):xs=ys:=by
 obtain⟨its,r,⟨o,n,e,_,_,d⟩,_⟩:=I.list h;obtain⟨its',r',⟨o',n',e',_,_,d'⟩,_⟩:=I.list h';rw[e]at e';cases e';rw[d]at d';injection d' with d1 _
 have:its=its':=by simpa using Vw Array.toList d1
 subst this;exact r.inj r'
def Inv.lX(I:Inv X pins σ H s)(h:dU X.K H a xs)(h':dU X.K H a ys):xs=ys:=by
 obtain⟨its,r,⟨o,e,_,n,d⟩,_⟩:=I.tuple h;obtain⟨its',r',⟨o',e',_,n',d'⟩,_⟩:=I.tuple h';rw[e]at e';cases e';rw[d]at d';injection d' with d1 _
 have:its=its':=by simpa using Vw Array.toList d1
 subst this;exact r.inj r'
end
abbrev Cx.gr(X:Cx)(E:Value->Shared->Prop):Cx:={ X with xe:=E }
abbrev Cx.dB(X:Cx):Cx:=X.gr λ_ _=>False
theorem Cx.Ok.gr{X:Cx}(ok:X.Ok)(E:Value->Shared->Prop):(X.gr E).Ok:=
 ⟨ok.mod,ok.kind,ok.glob,ok.blt,ok.above,ok.inj,ok.has,ok.tP,ok.hd,ok.frames,ok.stk,ok.zV,ok.bs,ok.lS,ok.oM,ok.oN,ok.gM,ok.nV⟩
def Cx.Ok.dW{X:Cx}{E:Value->Shared->Prop}(ok:(X.gr E).Ok):X.Ok:=
 ⟨ok.mod,ok.kind,ok.glob,ok.blt,ok.above,ok.inj,ok.has,ok.tP,ok.hd,ok.frames,ok.stk,ok.zV,ok.bs,ok.lS,ok.oM,ok.oN,ok.gM,ok.nV⟩
section
variable{X:Cx}{pins:List (Addr×Obj)}{σ:St}{H:Hp}{s:Shared}{E:Value->Shared->Prop}
theorem Inv.gr(I:Inv X pins σ H s)(E:Value->Shared->Prop):Inv (X.gr E) pins σ H s:=⟨I.ok.gr E,I.os,I.bare,I.base,I.loc,I.cell,I.free,I.gj,I.pin,I.hok,I.len⟩
theorem Inv.dW(I:Inv (X.gr E) pins σ H s):Inv X pins σ H s:=⟨I.ok.dW,I.os,I.bare,I.base,I.loc,I.cell,I.free,I.gj,I.pin,I.hok,I.len⟩
theorem SP.dW{D:Ends}{f:Flow}{s':Shared}(h:SP (X.gr E) pins D f s'):SP X pins D f s':=by
 cases f with
 |next=>obtain⟨σ',H',I,q⟩:=h;exact⟨σ',H',I.dW,q⟩
 |brk=>obtain⟨σ',H',I,q⟩:=h;exact⟨σ',H',I.dW,q⟩
 |cont=>obtain⟨σ',H',I,q⟩:=h;exact⟨σ',H',I.dW,q⟩
 |ret u=>obtain⟨v,σ',H',I,r,q⟩:=h;exact⟨v,σ',H',I.dW,r,q⟩
theorem PE.dB{e:Expr}{t:TE}(h:PE X.dB e t):PE X e t:=λpins s σ H Q I hw=>
 Vx (h pins s σ H Q (I.gr _) hw) (λ_ _ ⟨v,H',I',r,q⟩=>⟨v,H',I'.dW,r,q⟩) λ_ _ z=>False.elim z
theorem PT.dB{e:Expr}{t:TT}(h:PT X.dB e t):PT X e t:=λpins s σ H Q I hw=>
 Vx (h pins s σ H Q (I.gr _) hw) (λ_ _ ⟨H',I',q⟩=>⟨H',I'.dW,q⟩) λ_ _ z=>False.elim z
theorem eY.dB{st:List Stmt}{t:TS}(h:eY X.dB st t):eY X st t:=λpins s σ H D I hw=>
 Vx (h pins s σ H D (I.gr _) hw) (λ_ _ q=>q.dW) λ_ _ z=>False.elim z
end
section
variable{X:Cx}{st:Stmt}{rest:List Stmt}{t u:TS}{e:Expr}{te:TE}{pos:Pos}
noncomputable def Nk:TS:=λD σ H=>D.nx σ H
noncomputable def QI(t u:TS):TS:=λD σ H=>t { D with nx:=u D } σ H
def vZ:eY X [] Nk:=λ_ _ σ H _ I h=>Yi ⟨σ,H,I,h⟩
def jy(h1:PS X st t)(h2:eY X rest u):eY X (st :: rest) (QI t u):=by
 intro pins s σ H D I h;refine Xh (bU (h1 pins s σ H { D with nx:=u D } I h) λf s1 q=>?_);cases f with
 |next=>
  obtain⟨σ',H',I',q⟩:=q;exact h2 pins s1 σ' H' D I' q
 |ret v=>exact q
 |brk=>exact q
 |cont=>exact q
def v5(h1:PS X st t):eY X [st] t:=by
 intro pins s σ H D I h;refine Xh (bU (h1 pins s σ H D I h) λf s1 q=>?_);cases f with
 |next=>exact Yi q
 |ret v=>exact q
 |brk=>exact q
 |cont=>exact q
noncomputable def Nl:TS:=λD σ H=>D.ct σ H
def vE:PS X (.Continue pos) Nl:=λ_ _ σ H _ I h=>wpAny_Continue ⟨σ,H,I,h⟩
def Inv.quiet{pins:List (Addr×Obj)}{σ:St}{H:Hp}{s:Shared}(I:Inv X pins σ H s):interactive X.env=false:=by simp[interactive,I.ok.kind]
noncomputable def Nm(te:TE):TS:=λD σ H=>te σ H λ_ H1=>D.nx σ H1
def Gg(he:PE X e te)(hs:swapsWith e none pos.line X.env=pure false:=by rfl):PS X (.Expr e pos) (Nm te):=by
 intro pins s σ H D I h;exact wpAny_Expr_any (bU (he pins s σ H _ I h) λv s1 ⟨x,H1,I1,r1,q1⟩=>⟨σ,H1,I1,q1⟩) I.quiet hs
noncomputable def QJ(te:TE):TS:=λD σ H=>te σ H D.rt
def tQ(he:PE X e te):PS X (.Return (some e) pos) (QJ te):=by
 intro pins s σ H D I h;exact XM (bU (he pins s σ H _ I h) λv s1 ⟨x,H1,I1,r1,q1⟩=>⟨x,σ,H1,I1,r1,q1⟩)
noncomputable def QK(c:TT)(t u:TS):TS:=λD σ H=>c σ H λb H1=>if b=true then t D σ H1 else u D σ H1
def ym{c:Expr}{a b:List Stmt}{tc:TT}(hc:PT X c tc)(ha:eY X a t)(hb:eY X b u):PS X (.If c a b pos) (QK tc t u):=by
 intro pins s σ H D I h;refine wpAny_If (bU (hc pins s σ H _ I h) λd s1 ⟨H1,I1,q1⟩=>?_);cases d with
 |true=>exact ha pins s1 σ H1 D I1 q1
 |false=>exact hb pins s1 σ H1 D I1 q1
noncomputable def z6:TS:=λ_ _ _=>False
def Ca:PS X st z6:=λ_ _ _ _ _ _ h=>h.elim
def z7{sts:List Stmt}:eY X sts z6:=λ_ _ _ _ _ _ h=>h.elim
end
abbrev TG:=V->St->Hp->(St->Hp->Prop)->Prop
abbrev rM:=List V->St->Hp->(St->Hp->Prop)->Prop
noncomputable def PG(X:Cx)(target:Expr)(t:TG):Prop:=
 ∀(pins:List (Addr×Obj)) (s:Shared) (σ:St) (H:Hp) (v:V) (u:Value) (Q:St->Hp->Prop),Inv X pins σ H s->RelV v u->t v σ H Q->
  wpAny (model X.prog X.w) X.A (assign target X.env u) (λ_ s'=>∃σ' H',Inv X pins σ' H' s'/\Q σ' H') X.xe s
noncomputable def nW(X:Cx)(ts:List Expr)(t:rM):Prop:=
 ∀(pins:List (Addr×Obj)) (s:Shared) (σ:St) (H:Hp) (vs:List V) (us:List Value) (Q:St->Hp->Prop),Inv X pins σ H s->Vals vs us->t vs σ H Q->
  wpAny (model X.prog X.w) X.A (assignInOrder ((assignEach ts X.env).map (·.2)) us) (λ_ s'=>∃σ' H',Inv X pins σ' H' s'/\Q σ' H') X.xe s
section
variable{X:Cx}{pos:Pos}
noncomputable def EA(i:Nat):TG:=λv σ H Q=>Q (σ.set i (some v)) H
def v8{i:Nat}{x:Str}(hN:X.N.Nodup)(hi:X.N[i]?=some x)(hx:Loc X.env.scope x)(hf:X.fn x=true\/X.env.scope.names.lookup x=some .local:=by first|exact .inl rfl|exact .inr rfl|assumption):PG X (.Name x pos) (EA i):=by
 intro pins s σ H v u Q I r h;exact wpAny_assign_Name (oQ I hN hi hx r (λs' I'=>⟨_,H,I',h⟩) hf)
noncomputable def QL:rM:=λvs σ H Q=>vs=[]/\Q σ H
noncomputable def Np(t:TG)(u:rM):rM:=λvs σ H Q=>∃v r,vs=v :: r/\t v σ H λσ' H'=>u r σ' H' Q
def Gh:nW X [] QL:=by
 intro pins s σ H vs us Q I r h;obtain⟨e,h⟩:=h;subst e;cases r;exact assignInOrder_nil ⟨σ,H,I,h⟩
def Cb{e:Expr}{es:List Expr}{t:TG}{u:rM}(h1:PG X e t)(h2:nW X es u)
  (hs:(assignEach (e :: es) X.env).map (·.2)=assign e X.env :: (assignEach es X.env).map (·.2):=by rfl):nW X (e :: es) (Np t u):=by
 intro pins s σ H vs us Q I r h;obtain⟨v,vr,e1,h⟩:=h;subst e1;cases r with
 |cons r rr=>
  rw[hs];refine assignInOrder_cons (bU (h1 pins s σ H _ _ _ I r h) λ_ s1 ⟨σ1,H1,I1,q1⟩=>?_);exact h2 pins s1 σ1 H1 _ _ Q I1 rr q1
noncomputable def QM(K:PySem.W.Frag)(n:Nat)(t:rM):TG:=λv σ H Q=>∃a xs,v=.ref a/\dU K H a xs/\xs.length=n/\t xs σ H Q
def IW{es:List Expr}{k:Nat}{t:rM}{n:Nat}(hc:X.calm=true)(h:nW X es t)
  (hn:(assignEach es X.env).length=n:=by rfl) (hst:(assignEach es X.env).findIdx? (·.1)=none:=by rfl):PG X (.Tuple es k pos) (QM X.K n t):=by
 intro pins s σ H v u Q I r hw;obtain⟨a,xs,e1,hq,hl,hw⟩:=hw;subst e1;cases r;obtain⟨its,rv,ht,hz⟩:=I.tuple hq;refine assign_Tuple_tuple (I.ok.hd hc) ht (by simp[hn,<-hl,rv.length]) hst λh' hx=>?_;have I1:Inv X pins σ H { s with heap:=h' }:=I.kept (t':=s.toks) λb o e=>hx b o (So (Mt e)) e;exact h pins _ σ H xs _ Q I1 (by simpa using rv) hw
noncomputable def IX(te:TE)(g:TG):TS:=λD σ H=>te σ H λx H1=>g x σ H1 D.nx
def IY{tg e:Expr}{te:TE}{g:TG}(he:PE X e te)(hg:PG X tg g)(hs:swapsWithSole [tg] e pos.line X.env=pure false:=by rfl)(hw:swappedStores [tg] e X.env=pure none:=by rfl)
  (h1:(assignEach [tg] X.env).map (·.2)=[assign tg X.env]:=by rfl):PS X (.Assign [tg] e pos) (IX te g):=by
 intro pins s σ H D I h;refine wpAny_Assign_stores (bU (he pins s σ H _ I h) λv s1 ⟨x,H1,I1,r1,q1⟩=>?_) hs hw;rw[h1];exact bU (hg pins s1 σ H1 x v _ I1 r1 q1) λ_ s2 q=>q
def pN{i:Nat}{x:Str}{e:Expr}{te:TE}{pos':Pos}(hN:X.N.Nodup)(hi:X.N[i]?=some x)(hx:Loc X.env.scope x)(he:PE X e te)(hs:swapsWith e (some (.Name x pos')) pos.line X.env=pure false:=by rfl)(hf:X.fn x=true\/X.env.scope.names.lookup x=some .local:=by first|exact .inl rfl|exact .inr rfl|assumption) :
  PS X (.Assign [.Name x pos'] e pos) (IX te (EA i)):=by
 intro pins s σ H D I h;refine wpAny_Assign_Name (bU (he pins s σ H _ I h) λv s1 ⟨y,H1,I1,r1,q1⟩=>?_) hs;exact oQ I1 hN hi hx r1 (λs2 I2=>⟨_,H1,I2,q1⟩) hf
end
structure It where
 go:Nat->Hp->Prop
 z8:Nat->Hp->V->Hp->Prop
 stop:Nat->Hp->Prop
noncomputable def g5(X:Cx)(pins:List (Addr×Obj))(H:Hp)(b:Addr):Prop:=
 H b=none/\b≠X.env.locals/\b∉X.fs/\(b∈X.ex\/X.s₀.heap.objs.size<=b)/\(∀x c,X.env.cells.lookup x=some c->c≠b)/\∀p∈X.pn++pins,p.1≠b
def Inv.Cc{X:Cx}{pins:List (Addr×Obj)}{σ:St}{H H':Hp}{s:Shared}{b:Addr}(I:Inv X pins σ H s)(hb:s.heap.objs.size<=b)(hn:H' b=none):g5 X pins H' b:=by
 refine⟨hn,YF (fB I.lt hb),I.QD hb,.inr (VE I.sz hb),λx c e z=>?_,λp hp z=>?_⟩
 .obtain⟨v,q⟩:=I.cell x c e;exact absurd (fB q.lt (by rw[z];exact hb)) (Wi _)
 .exact absurd (fB (Mt (I.pin p hp).1) (by rw[z];exact hb)) (Wi _)
structure Turn(P:Program)(w:World)(K:PySem.W.Frag)(tg:Expr)(J:It)(fp:List Addr)(it:Addr)(tn:Nat->Heap->Prop):Prop where
 mem:it∈fp
 obj:∀i h,tn i h->∀b∈fp,∃o,h.get? b=some o/\∀v,o.data≠.cell v
 keep:∀i h h',tn i h->(∀b∈fp,∀o,h.get? b=some o->h'.get? b=some o)->tn i h'
 item:∀(X:Cx),X.prog=P->X.w=w->X.K=K->X.calm=true->∀(i:Nat) (pins:List (Addr×Obj)) (s:Shared) (σ:St) (H:Hp) (E:Value->Shared->Prop),Inv X pins σ H s->(∀b∈fp,g5 X pins H b)->tn i s.heap->J.go i H->
  wpAny (model P w) X.A (pyNext (.ref it)) (λr s1=>∃u,r=some u/\
   wpAny (model P w) X.A (letOwnedTupleGo tg (.ref it) u) (λ_ s2=>∃x H',Inv X pins σ H' s2/\RelV x u/\J.z8 i H x H'/\tn (i+1) s2.heap/\∀b∈fp,H' b=none) E s1) E s
 done:∀(X:Cx),X.prog=P->X.w=w->X.K=K->X.calm=true->∀(i:Nat) (pins:List (Addr×Obj)) (s:Shared) (σ:St) (H:Hp) (E:Value->Shared->Prop),Inv X pins σ H s->(∀b∈fp,g5 X pins H b)->tn i s.heap->J.stop i H->
  wpAny (model P w) X.A (pyNext (.ref it)) (λr s1=>r=none/\Inv X pins σ H s1) E s
 self:∀(A:Around) (i:Nat) (s:Shared) (Q:Value->Shared->Prop) (E:Value->Shared->Prop),tn i s.heap->Q (.ref it) s->wpAny (model P w) A (pyIter (.ref it)) Q E s
abbrev TI:=St->Hp->(It->Hp->Prop)->Prop
noncomputable def v9(X:Cx)(pins:List (Addr×Obj))(σ:St)(tg:Expr)(R:It->Hp->Prop)(itv:Value)(s2:Shared):Prop:=
 ∃(it:Addr) (fp:List Addr) (tn:Nat->Heap->Prop) (J:It) (H':Hp),itv=.ref it/\Inv X pins σ H' s2/\Turn X.prog X.w X.K tg J fp it tn/\tn 0 s2.heap/\(∀b∈fp,g5 X pins H' b)/\R J H'
noncomputable def PI(X:Cx)(tg iter:Expr)(wi:TI):Prop:=
 ∀(pins:List (Addr×Obj)) (s:Shared) (σ:St) (H:Hp) (R:It->Hp->Prop),Inv X pins σ H s->wi σ H R->
  wpAny (model X.prog X.w) X.A (eval iter X.env) (λv s1=>wpAny (model X.prog X.w) X.A (pyIter v) (v9 X pins σ tg R) X.xe s1) X.xe s
def yo{M:Model}{A:Around}{E:Value->Shared->Prop}{s:Shared}{tg:Expr}{it:Addr}{u:Value}{o:Obj}{n:String}{vs:Array Value}{Q:Unit->Shared->Prop}(ho:s.heap.get? it=some o)(hc:o.cls=.type n)(hd:o.data=.fields vs)
    (hn:["enumerate","zip","dict_itemiterator","dict_reverseitemiterator","odict_iterator","itertools.zip_longest","itertools.pairwise"].contains n=false) (hQ:Q () s):wpAny M A (letOwnedTupleGo tg (.ref it) u) Q E s:=by
  unfold letOwnedTupleGo;cases tg<;>first
    |exact bY hQ
    | (cases u<;>first
        |exact bY hQ
        | (refine bT (wpAny_load ho ?_)
           rw[hc,hd];show wpAny M A (if (["enumerate","zip","dict_itemiterator","dict_reverseitemiterator","odict_iterator","itertools.zip_longest","itertools.pairwise"].contains n&&vs[0]?==some (rawInt _))=true then _ else _) Q E s;rw[Qm (by intro h;rw[hn,Bool.false_and]at h;cases h)];exact bY hQ))
noncomputable def Pj(K:PySem.W.Frag)(a:Addr):It:=
 ⟨λi H=>∃xs x,fE K H a xs/\xs[i]?=some x,λi H x H'=>H'=H/\∀xs,fE K H a xs->xs[i]?=some x,λi H=>∃xs,fE K H a xs/\xs.length<=i⟩
noncomputable def Pk(K:PySem.W.Frag)(a:Addr):It:=
 ⟨λi H=>∃xs x,dU K H a xs/\xs[i]?=some x,λi H x H'=>H'=H/\∀xs,dU K H a xs->xs[i]?=some x,λi H=>∃xs,dU K H a xs/\xs.length<=i⟩
noncomputable def EB(lo:Int)(n:Nat):It:=⟨λi _=>i<n,λi H x H'=>H'=H/\x=.int (lo+i),λi _=>n<=i⟩
def z9{P:Program}{w:World}{K:PySem.W.Frag}{tg:Expr}(a it:Addr):Turn P w K tg (Pj K a) [it] it (λi h=>h.IsListIter it a i) where
 mem:=by simp
 obj:=λi h st b hb=>by
  have e:b=it:=by simpa using hb
  subst e;obtain⟨o,e,c,d⟩:=st;exact⟨o,e,λv z=>by rw[d]at z;cases z⟩
 keep:=λi h h' st k=>st.at λo e=>k it (by simp) o e
 item:=by
  intro X hP hw hK hc i pins s σ H E I hf st hg;subst hP hw hK;obtain⟨xs,x,hq,hx⟩:=hg;obtain⟨its,rv,p,hz⟩:=I.list hq;obtain⟨u,hu,ru⟩:=rv.get hx;obtain⟨f0,f1,f2,f3,f4,f5⟩:=hf it (by simp);refine wpAny_pyNext_list_item st p.isList (x:=u) (by simpa using hu) λh' st' sb=>?_;have I1:Inv X pins σ H { s with heap:=h' }:=I.turned (t':=s.toks) (λb o hb e=>(sb.2 b hb).trans e) f0 f1 f3 f4 f5;obtain⟨o,e,c,d⟩:=id st';exact⟨u,rfl,yo (s:={ s with heap:=h' }) e c d (by decide) ⟨x,H,I1,ru,⟨rfl,λys hy=>by rw[I.B9 hy hq];exact hx⟩,st',λb hb=>(hf b hb).1⟩⟩
 done:=by
  intro X hP hw hK hc i pins s σ H E I hf st hg;subst hP hw hK;obtain⟨xs,hq,hx⟩:=hg;obtain⟨its,rv,p,hz⟩:=I.list hq;obtain⟨f0,f1,f2,f3,f4,f5⟩:=hf it (by simp);have hl:=rv.length;exact wpAny_pyNext_list_end (I.ok.hd hc) st p.isList (by simp;omega) λh' eb=>⟨rfl,I.turned (t':=s.toks) (λb o hb e=>eb b o hb e) f0 f1 f3 f4 f5⟩
 self:=λ_ _ _ _ _ st h=>wpAny_pyIter_listiter st h
def yp{P:Program}{w:World}{K:PySem.W.Frag}{tg:Expr}(a it:Addr):Turn P w K tg (Pk K a) [it] it (λi h=>h.IsTupleIter it a i) where
 mem:=by simp
 obj:=λi h st b hb=>by
  have e:b=it:=by simpa using hb
  subst e;obtain⟨o,e,c,d⟩:=st;exact⟨o,e,λv z=>by rw[d]at z;cases z⟩
 keep:=λi h h' st k=>st.at λo e=>k it (by simp) o e
 item:=by
  intro X hP hw hK hc i pins s σ H E I hf st hg;subst hP hw hK;obtain⟨xs,x,hq,hx⟩:=hg;obtain⟨its,rv,p,hz⟩:=I.tuple hq;obtain⟨u,hu,ru⟩:=rv.get hx;obtain⟨f0,f1,f2,f3,f4,f5⟩:=hf it (by simp);refine wpAny_pyNext_tuple_item st (show s.heap.IsTuple a its.toArray from p) (x:=u) (by simpa using hu) λh' st' sb=>?_;have I1:Inv X pins σ H { s with heap:=h' }:=I.turned (t':=s.toks) (λb o hb e=>(sb.2 b hb).trans e) f0 f1 f3 f4 f5;obtain⟨o,e,c,d⟩:=id st';exact⟨u,rfl,yo (s:={ s with heap:=h' }) e c d (by decide) ⟨x,H,I1,ru,⟨rfl,λys hy=>by rw[I.lX hy hq];exact hx⟩,st',λb hb=>(hf b hb).1⟩⟩
 done:=by
  intro X hP hw hK hc i pins s σ H E I hf st hg;subst hP hw hK;obtain⟨xs,hq,hx⟩:=hg;obtain⟨its,rv,p,hz⟩:=I.tuple hq;obtain⟨f0,f1,f2,f3,f4,f5⟩:=hf it (by simp);have hl:=rv.length;exact wpAny_pyNext_tuple_end (I.ok.hd hc) st (show s.heap.IsTuple a its.toArray from p) (by simp;omega) λh' eb=>⟨rfl,I.turned (t':=s.toks) (λb o hb e=>eb b o hb e) f0 f1 f3 f4 f5⟩
 self:=λ_ _ _ _ _ st h=>wpAny_pyIter_tupleiter st h
def yq{P:Program}{w:World}{K:PySem.W.Frag}{tg:Expr}(it:Addr)(lo:Int)(n:Nat):Turn P w K tg (EB lo n) [it] it (λi h=>IsRangeIter h it (lo+(i:Nat)*1) ((n:Int) - (i:Nat)) 1) where
 mem:=by simp
 obj:=λi h st b hb=>by
  have e:b=it:=by simpa using hb
  subst e;exact⟨_,st,λv z=>by
   have z':Data.fields _=Data.cell v:=z;cases z'⟩
 keep:=λi h h' st k=>k it (by simp) _ st
 item:=by
  intro X hP hw hK hc i pins s σ H E I hf st hg;subst hP hw hK;obtain⟨f0,f1,f2,f3,f4,f5⟩:=hf it (by simp);have W:=Walks.range (prog:=X.prog) (w:=X.w) (I.ok.hd hc) it lo 1 n;refine W.item i s _ _ hg st λv h' tk hv st' kk=>?_;obtain⟨t,rfl⟩:=hv;have I1:Inv X pins σ H { s with heap:=h',toks:=tk }:=I.turned (λb o hb e=>kk b o (by simpa using hb) e) f0 f1 f3 f4 f5;refine⟨_,rfl,yo (s:={ s with heap:=h',toks:=tk }) (n:="range_iterator") st' rfl rfl (by decide) ⟨.int (lo+i),H,I1,⟨t,?_⟩,⟨rfl,rfl⟩,st',λb hb=>(hf b hb).1⟩⟩;rw[Int.mul_one]
 done:=by
  intro X hP hw hK hc i pins s σ H E I hf st hg;subst hP hw hK;obtain⟨f0,f1,f2,f3,f4,f5⟩:=hf it (by simp);exact wpAny_pyNext_range_end (I.ok.hd hc) st (by have:n<=i:=hg;omega) λh' eb=>⟨rfl,I.turned (t':=s.toks) (λb o hb e=>eb b o hb e) f0 f1 f3 f4 f5⟩
 self:=λ_ _ _ _ _ st h=>wpAny_pyIter_rangeiter st h
section
variable{X:Cx}{tg:Expr}
def Cd{pins:List (Addr×Obj)}{σ:St}{H:Hp}{s:Shared}{R:It->Hp->Prop}{E:Value->Shared->Prop}{lo hi:Int}{t u v:Tok}{tk:Nat}(I:Inv X pins σ H s)(h1:-(2 ^ 62)<=lo)(h2:lo<2 ^ 62)(h3:-(2 ^ 62)<=hi)(h4:hi<2 ^ 62)
  (q:R (EB lo (hi - lo).toNat) H):wpAny (model X.prog X.w) X.A (pyIter (.ref s.heap.objs.size)) (v9 X pins σ tg R) E { s with heap:=s.heap.push { cls:=.type "range",data:=.fields #[.int lo t,.int hi u,.int 1 v]},toks:=tk }:=by
 refine wpAny_pyIter_range (IsRange.new ..) (small_one h1 h2 h3 h4) ?_;have I1:Inv X pins σ H { s with heap:=s.heap.push { cls:=.type "range",data:=.fields #[.int lo t,.int hi u,.int 1 v]},toks:=tk }:=I.kept λb o e=>eV _ e;refine⟨(s.heap.push { cls:=.type "range",data:=.fields #[.int lo t,.int hi u,.int 1 v]}).objs.size,[(s.heap.push { cls:=.type "range",data:=.fields #[.int lo t,.int hi u,.int 1 v]}).objs.size],_,_,H,rfl,
  I1.kept (t':=tk) λb o e=>eV _ e,yq _ lo (hi - lo).toNat,?_,λb hb=>?_,q⟩
 .have e1:lo+((0:Nat):Int)*1=lo:=by simp
  have e2:(((hi - lo).toNat:Nat):Int) - ((0:Nat):Int)=Builtin.Range.rangeSize lo hi 1:=by rw[rangeSize_one];split<;>omega
  show IsRangeIter _ _ (lo+((0:Nat):Int)*1) ((((hi - lo).toNat:Nat):Int) - ((0:Nat):Int)) 1;rw[e1,e2];exact RB _ rfl
 .have e:b=(s.heap.push { cls:=.type "range",data:=.fields #[.int lo t,.int hi u,.int 1 v]}).objs.size:=by simpa using hb
  subst e;exact I1.Cc (vn _) (I1.hok.fresh (vn _))
noncomputable def Nq(ta:TA):TI:=λσ H R=>ta σ H λvs H1=>∃j:Int,vs=[.int j]/\-(2 ^ 62)<=j/\j<2 ^ 62/\R (EB 0 j.toNat) H1
def Aa {a:Expr}{ta:TA}{p pos:Pos}(hg:Gl X "range") (hm:X.mg "range" = none) (ha:PA X [a] ta) (hs:starEach [a] X.env=[(false,eval a X.env)]:=by rfl):PI X tg (.Call (.Name "range" p) [a] [] pos) (Nq ta):=by
 intro pins s σ H R I h;refine Call_ (lW I hg hm boot_range (XF (bU (ha pos pins s σ H _ I h) λus s1 ⟨vs,H1,I1,r1,q1⟩=>?_) hs rfl));obtain⟨j,e,q1,q2,q⟩:=q1;subst e;cases r1 with
 |cons r rr=>
  cases rr;obtain⟨t,rfl⟩:=r;exact call_range_1 (Cd I1 (by omega) (by omega) q1 q2 (by simpa using q))
noncomputable def QN(wi:TI)(g:TG)(tb:TS):TS:=λD σ H=>wi σ H λJ H1=>∃W:Nat->Nat->St->Hp->Prop,(∃m,W 0 m σ H1)/\∀i m σ H,W i m σ H->
 (J.stop i H/\D.nx σ H)\/(J.go i H/\∃N:St->Hp->Prop,(∀σ' H',N σ' H'->∃m',m'<m/\W (i+1) m' σ' H')/\∀x H',J.z8 i H x H'->g x σ H' λσ2 H2=>tb { D with nx:=N,ct:=N,bk:=D.nx } σ2 H2)
noncomputable def lY(fp:List Addr)(h:Heap):List (Addr×Obj):=fp.filterMap λb=>(h.get? b).map λo=>(b,o)
def jh{fp:List Addr}{h:Heap}{b:Addr}{o:Obj}(hb:b∈fp)(e:h.get? b=some o):(b,o)∈lY fp h:=List.mem_filterMap.mpr ⟨b,hb,by rw[e];rfl⟩
def Ab{fp:List Addr}{h:Heap}{p:Addr×Obj}(hp:p∈lY fp h):p.1∈fp/\h.get? p.1=some p.2:=by
 obtain⟨b,hb,e⟩:=List.mem_filterMap.mp hp;cases q:h.get? b with
 |none=>rw[q]at e;cases e
 |some o=>
  rw[q]at e;have e':(b,o)=p:=kI e;subst e';exact⟨hb,q⟩
def Inv.pinned{pins:List (Addr×Obj)}{σ:St}{H:Hp}{s:Shared}{fp:List Addr}(I:Inv X pins σ H s)(hf:∀b∈fp,g5 X pins H b)(ho:∀b∈fp,∃o,s.heap.get? b=some o/\∀v,o.data≠.cell v):Inv X (pins++lY fp s.heap) σ H s:=
 I.vX λp hp=>(List.mem_append.mp hp).elim (λz=>I.pin p (VF _ z)) λz=>by
  obtain⟨hb,e⟩:=Ab z;obtain⟨f0,f1,f2,_⟩:=hf p.1 hb;obtain⟨o,e',d⟩:=ho p.1 hb;rw[e]at e';cases e';exact⟨e,f0,f1,f2,d⟩
def Inv.kO{pins pl:List (Addr×Obj)}{σ:St}{H:Hp}{s:Shared}(I:Inv X (pins++pl) σ H s):Inv X pins σ H s:=I.vX λp hp=>I.pin p (VF _ (Yx _ hp))
def Ac{iter:Expr}{body:List Stmt}{wi:TI}{g:TG}{tb:TS}{pos:Pos}(hp:PassesOwn (model X.prog X.w) X.A X.env X.xe)(hc:X.calm=true)(hi:PI X tg iter wi)(hg:PG X tg g)(hb:eY X body tb)
  (hs:∀x,foldedSetIterable iter X.env x=pure x:=by intro _;rfl):PS X (.For tg iter body [] pos) (QN wi g tb):=by
 intro pins s σ H D I h;refine wpAny_For (bU (hi pins s σ H _ I h) λv s1 h1=>bU h1 λitv s2 h2=>?_) hs;obtain⟨it,fp,tn,J,H2,e,I2,T,st2,f2,W,⟨m0,w0⟩,turn⟩:=h2;subst e;have kP:∀{H':Hp},(∀b∈fp,H' b=none)->∀b∈fp,g5 X pins H' b:=λhn b hb=>⟨hn b hb,(f2 b hb).2⟩
 refine codeAny_forLoop_any (λn s'=>∃i σ' H',Inv X pins σ' H' s'/\tn i s'.heap/\(∀b∈fp,H' b=none)/\W i n σ' H') ?_ m0 ⟨0,σ,H2,I2,st2,λb hb=>(f2 b hb).1,w0⟩;rintro n s3 ⟨i,σ3,H3,I3,st3,bf,w3⟩;rcases turn i n σ3 H3 w3 with ⟨stop,qn⟩|⟨go,N,hN,step⟩
 .refine WW hp (bU (T.done X rfl rfl rfl hc i pins s3 σ3 H3 X.xe I3 (kP bf) st3 stop) λr s4 ⟨hr,I4⟩=>?_);subst hr;exact Yi ⟨σ3,H3,I4,qn⟩
 .refine WW hp (bU (T.item X rfl rfl rfl hc i pins s3 σ3 H3 X.xe I3 (kP bf) st3 go) λr s4 ⟨u,hr,h4⟩=>?_);subst hr;refine WW hp (bU h4 λ_ s5 ⟨x,H5,I5,r5,y5,wc,jL⟩=>?_);have Sw:=I5.pinned (kP jL) (T.obj _ _ wc);refine WW hp (bU (hg _ s5 σ3 H5 x u _ Sw r5 (step x H5 y5)) λ_ s6 ⟨Sx,H6,I6,q6⟩=>?_);refine WW hp (bU (hb _ s6 Sx H6 _ I6 q6) λf s7 q7=>?_);have again:∀{lZ:St} {H7:Hp},Inv X (pins++lY fp s5.heap) lZ H7 s7->N lZ H7->∃m,m<n/\∃i σ' H',Inv X pins σ' H' s7/\tn i s7.heap/\(∀b∈fp,H' b=none)/\W i m σ' H':=λ{lZ H7} I7 n7=>by
   obtain⟨m',hm,w7⟩:=hN lZ H7 n7;refine⟨m',hm,i+1,lZ,H7,I7.kO,T.keep _ _ _ wc λb hb o e=>(I7.pin (b,o) (VF _ (VF _ (jh hb e)))).1,λb hb=>?_,w7⟩;obtain⟨o,e,d⟩:=T.obj _ _ wc b hb;exact(I7.pin (b,o) (VF _ (VF _ (jh hb e)))).2.1
  cases f with
  |next=>obtain⟨lZ,H7,I7,n7⟩:=q7;exact again I7 n7
  |cont=>obtain⟨lZ,H7,I7,n7⟩:=q7;exact again I7 n7
  |brk=>obtain⟨lZ,H7,I7,q7⟩:=q7;exact⟨lZ,H7,I7.kO,q7⟩
  |ret v=>obtain⟨x7,lZ,H7,I7,r7,q7⟩:=q7;exact⟨x7,lZ,H7,I7.kO,r7,q7⟩
end
abbrev R2:=V->V->Hp->VK->Prop
noncomputable def dN(X:Cx)(f:Value->Value->Sem Value)(r:R2):Prop:=
 ∀(pins:List (Addr×Obj)) (s:Shared) (σ:St) (H:Hp) (x y:V) (v u:Value) (Q:VK),Inv X pins σ H s->RelV x v->RelV y u->r x y H Q->
  wpAny (model X.prog X.w) X.A (f v u) (EP X pins σ Q) X.xe s
noncomputable def ny(X:Cx)(f:Value)(r:List V->Hp->VK->Prop):Prop:=
 ∀(pins:List (Addr×Obj)) (s:Shared) (σ:St) (H:Hp) (xs:List V) (us:List Value) (Q:VK),Inv X pins σ H s->Vals xs us->r xs H Q->
  wpAny (model X.prog X.w) X.A (call f us) (EP X pins σ Q) X.xe s
noncomputable def QO(X:Cx)(r:V->Hp->(Bool->Hp->Prop)->Prop):Prop:=
 ∀(pins:List (Addr×Obj)) (s:Shared) (σ:St) (H:Hp) (x:V) (v:Value) (Q:Bool->Hp->Prop),Inv X pins σ H s->RelV x v->r x H Q->
  wpAny (model X.prog X.w) X.A (truthy v) (TP X pins σ Q) X.xe s
noncomputable def Ad(r:R2)(ta tb:TE):TE:=λσ H Q=>ta σ H λx H1=>tb σ H1 λy H2=>r x y H2 Q
noncomputable def rI(C:Int->Int->Prop)(g:Int->Int->V):R2:=λx y H Q=>∃i j,x=.int i/\y=.int j/\C i j/\Q (g i j) H
noncomputable def tR(g:Int->Int->V):R2:=λx y H Q=>∃i j,x=.int i/\y=.int j/\Q (g i j) H
section
variable{X:Cx}{a b:Expr}{ta tb:TE}{pos:Pos}
def Ce(ha:PE X a ta)(hb:PE X b tb){pins:List (Addr×Obj)}{s:Shared}{σ:St}{H:Hp}{R:V->V->Hp->Prop}(I:Inv X pins σ H s)
  (h:ta σ H λx H1=>tb σ H1 λy H2=>R x y H2) {Q:Value->Shared->Prop} {f:Value->Value->Sem Value}
  (hf:∀v u s2 x y H2,Inv X pins σ H2 s2->RelV x v->RelV y u->R x y H2->wpAny (model X.prog X.w) X.A (f v u) Q X.xe s2) :
  wpAny (model X.prog X.w) X.A (eval a X.env) (λv s₁=>wpAny (model X.prog X.w) X.A (eval b X.env) (λu s₂=>wpAny (model X.prog X.w) X.A (f v u) Q X.xe s₂) X.xe s₁) X.xe s:=by
 refine bU (ha pins s σ H _ I h) λv s1 ⟨x,H1,I1,r1,q1⟩=>?_;refine bU (hb pins s1 σ H1 _ I1 q1) λu s2 ⟨y,H2,I2,r2,q2⟩=>?_;exact hf v u s2 x y H2 I2 r1 r2 q2
def Nr{op:Operator}{r:R2}(ho:dN X (binaryOp op) r)(ha:PE X a ta)(hb:PE X b tb):PE X (.BinOp a op b pos) (Ad r ta tb):=by
 intro pins s σ H Q I h;exact wpAny_BinOp (Ce ha hb I h λv u s2 x y H2 I2 rx ry q=>ho pins s2 σ H2 x y v u Q I2 rx ry q)
def IZ{f:Value->Value->Sem Value}{C:Int->Int->Prop}{g:Int->Int->Int}
  (rule:∀(i j:Int) (t u:Tok) (s:Shared) (Q:Value->Shared->Prop) (E:Value->Shared->Prop),C i j->Q (.int (g i j) s.toks) { s with toks:=s.toks+1 }->wpAny (model X.prog X.w) X.A (f (.int i t) (.int j u)) Q E s) :
  dN X f (rI C λi j=>.int (g i j)):=by
 intro pins s σ H x y v u Q I rx ry h;obtain⟨i,j,rfl,rfl,hc,q⟩:=h;obtain⟨t,rfl⟩:=rx;obtain⟨t',rfl⟩:=ry;exact rule i j t t' s _ _ hc ⟨.int (g i j),H,I.tok _,⟨_,rfl⟩,q⟩
def Ja{f:Value->Value->Sem Value}{g:Int->Int->Int}
  (rule:∀(i j:Int) (t u:Tok) (s:Shared) (Q:Value->Shared->Prop) (E:Value->Shared->Prop),Q (.int (g i j) s.toks) { s with toks:=s.toks+1 }->wpAny (model X.prog X.w) X.A (f (.int i t) (.int j u)) Q E s) :
  dN X f (tR λi j=>.int (g i j)):=by
 intro pins s σ H x y v u Q I rx ry h;obtain⟨i,j,rfl,rfl,q⟩:=h;obtain⟨t,rfl⟩:=rx;obtain⟨t',rfl⟩:=ry;exact rule i j t t' s _ _ ⟨.int (g i j),H,I.tok _,⟨_,rfl⟩,q⟩
def Jb{f:Value->Value->Sem Value}{g:Int->Int->Bool}
  (rule:∀(i j:Int) (t u:Tok) (s:Shared) (Q:Value->Shared->Prop) (E:Value->Shared->Prop),Q (.bool (g i j)) s->wpAny (model X.prog X.w) X.A (f (.int i t) (.int j u)) Q E s) :
  dN X f (tR λi j=>.bl (g i j)):=by
 intro pins s σ H x y v u Q I rx ry h;obtain⟨i,j,rfl,rfl,q⟩:=h;obtain⟨t,rfl⟩:=rx;obtain⟨t',rfl⟩:=ry;exact rule i j t t' s _ _ ⟨.bl (g i j),H,I,rfl,q⟩
noncomputable def QS(i j:Int):Prop:=0<j/\j<1073741824
noncomputable def Cf(i j:Int):Prop:=(-(2 ^ 64)<i/\i<2 ^ 64)\/(-(2 ^ 64)<j/\j<2 ^ 64)
def Cf.ok{i j:Int}(h:Cf i j):IntMulOk i j:=by
 rcases h with ⟨h1,h2⟩|⟨h1,h2⟩
 .exact .of_left (intBits_le_64 h1 h2)
 .exact .of_right (intBits_le_64 h1 h2)
def Jc:dN X (binaryOp .Add) (tR λi j=>.int (i+j)):=Ja λ_ _ _ _ _ _ _ q=>add_int q
def Jd:dN X (binaryOp .Sub) (tR λi j=>.int (i - j)):=Ja λ_ _ _ _ _ _ _ q=>sub_int q
def Je:dN X (binaryOp .Mult) (rI Cf λi j=>.int (i*j)):=IZ λ_ _ _ _ _ _ _ hc q=>mul_int q hc.ok
def Gi:dN X (binaryOp .FloorDiv) (rI QS λi j=>.int (i / j)):=IZ λi j _ _ _ _ _ hc q=>by
 have h1:(0:Int)<j:=hc.1;have h2:j<1073741824:=hc.2;exact floordiv_int (by omega) (by rw[Int.fdiv_eq_ediv_of_nonneg i (by omega)];exact q) (.inl (PyProof.noPylong_small (by omega)))
def Jf:dN X (binaryOp .Mod) (rI (λ_ j=>0<j) λi j=>.int (i % j)):=IZ λi j _ _ _ _ _ hc q=>by
 have h1:(0:Int)<j:=hc;exact mod_int' (by omega) (by rw[Int.fmod_eq_emod_of_nonneg i (by omega)];exact q)
end
noncomputable def QT:V->V->Bool
 |.aG,.aG=>true|.aG,.int _=>true|.int _,.aG=>true|.aG,.bl _=>true|.bl _,.aG=>true|.aG,.str _=>true|.str _,.aG=>true
 |.int _,.int _=>true|.bl _,.bl _=>true|.str _,.str _=>true|.lR _,.lR _=>true
 |.int _,.str _=>true|.str _,.int _=>true|.bl _,.str _=>true|.str _,.bl _=>true
 |_,_=>false
noncomputable def Sy:R2:=λx y H Q=>QT x y=true/\Q (.bl (!decide (x=y))) H
def Gj{i j:Int}:decide (V.int i=V.int j)=(i==j):=by
 rw[WM];simp
def Jg{i j:Bool}:decide (V.bl i=V.bl j)=(i==j):=by
 rw[WM];simp
def Gk{i j:Str}:decide (V.str i=V.str j)=(i==j):=by
 rw[WM];simp
def Gm{i j:Array UInt8}:decide (V.lR i=V.lR j)=(i.toList==j.toList):=by
 rw[WM];cases i;cases j;simp
section
variable{X:Cx}{a b c:Expr}{ta tb:TE}{pos:Pos}
def dX{pins:List (Addr×Obj)}{σ:St}{H:Hp}{s:Shared}{Q:VK}{k k':Bool}(I:Inv X pins σ H s)(q:Q (.bl k) H)(e:k=k'):EP X pins σ Q (.bool k') s:=by
 subst e;exact⟨.bl k,H,I,rfl,q⟩
def Nt:dN X (compareOp .NotEq) Sy:=by
 intro pins s σ H x y v u Q I rx ry h;obtain⟨hs,q⟩:=h;cases x with
 |aG=>
  cases rx;cases y with
  |aG=>cases ry;exact PySem.EqNone.ne_none_none (dX I q (by simp))
  |bl j=>cases ry;exact PySem.EqNone.ne_none_bool (dX I q (by simp))
  |int j=>obtain⟨t',rfl⟩:=ry;exact PySem.EqNone.ne_none_int (dX I q (by simp))
  |str j=>obtain⟨t',rfl⟩:=ry;exact PySem.EqNone.ne_none_str (dX I q (by simp))
  |_=>exact absurd (show false=true from hs) VB
 |bl i=>
  cases rx;cases y with
  |aG=>cases ry;exact PySem.EqNone.ne_bool_none (dX I q (by simp))
  |bl j=>cases ry;exact ne_bool (dX I q (Vw not Jg))
  |str j=>obtain⟨t',rfl⟩:=ry;exact PySem.EqMixed.ne_bool_str (dX I q (by simp))
  |_=>exact absurd (show false=true from hs) VB
 |int i=>
  obtain⟨t,rfl⟩:=rx;cases y with
  |aG=>cases ry;exact PySem.EqNone.ne_int_none (dX I q (by simp))
  |int j=>obtain⟨t',rfl⟩:=ry;exact ne_int (dX I q (Vw not Gj))
  |str j=>obtain⟨t',rfl⟩:=ry;exact PySem.EqMixed.ne_int_str (dX I q (by simp))
  |_=>exact absurd (show false=true from hs) VB
 |str i=>
  obtain⟨t,rfl⟩:=rx;cases y with
  |aG=>cases ry;exact PySem.EqNone.ne_str_none (dX I q (by simp))
  |bl j=>cases ry;exact PySem.EqMixed.ne_str_bool (dX I q (by simp))
  |int j=>obtain⟨t',rfl⟩:=ry;exact PySem.EqMixed.ne_str_int (dX I q (by simp))
  |str j=>obtain⟨t',rfl⟩:=ry;exact ne_str (dX I q (Vw not Gk))
  |_=>exact absurd (show false=true from hs) VB
 |lR i=>
  obtain⟨t,rfl⟩:=rx;cases y with
  |lR j=>obtain⟨t',rfl⟩:=ry;exact PySem.W.ne_bytes (dX I q (Vw not Gm))
  |_=>exact absurd (show false=true from hs) VB
 |_=>cases y<;>exact absurd (show false=true from hs) VB
def Nu:dN X (compareOp .Lt) (tR λi j=>.bl (decide (i<j))):=Jb λ_ _ _ _ _ _ _ q=>lt_int q
def Nv:dN X (compareOp .Gt) (tR λi j=>.bl (decide (j<i))):=Jb λ_ _ _ _ _ _ _ q=>gt_int q
def Gp:dN X (compareOp .IsNot) (λx y H Q=>y=.aG/\Q (.bl (!decide (x=.aG))) H):=by
 intro pins s σ H x y v u Q I rx ry h;obtain⟨rfl,q⟩:=h;cases ry;refine isnot_none_gen (dX I q ?_);cases x<;>first
  | (cases rx;rfl)
  | (obtain⟨t,rfl⟩:=rx;rfl)
def iQ(b:Expr){op:CmpOp}(h:op≠.In:=by decide)(h2:op≠.NotIn:=by decide):behindInMarks op b=false:=by
 have e1:(op==CmpOp.In)=false:=by cases op<;>first|rfl|exact absurd rfl h
 have e2:(op==CmpOp.NotIn)=false:=by cases op<;>first|rfl|exact absurd rfl h2
 cases b<;>simp[behindInMarks,e1,e2]
def Gq{op:CmpOp}{r:R2}(ho:dN X (compareOp op) r)(ha:PE X a ta)(hb:PE X b tb)(hm:behindInMarks op b=false):PE X (.Compare a [op] [b] pos) (Ad r ta tb):=by
 intro pins s σ H Q I h;exact wpAny_Compare1 (Ce ha hb I h λv u s2 x y H2 I2 rx ry q=>ho pins s2 σ H2 x y v u Q I2 rx ry q) hm
noncomputable def Nx(t:TE):TT:=λσ H Q=>t σ H λx H'=>∃k,x=.bl k/\Q k H'
def we{op:CmpOp}{r:R2}(ho:dN X (compareOp op) r)(ha:PE X a ta)(hb:PE X b tb)(hm:behindInMarks op b=false):PT X (.Compare a [op] [b] pos) (Nx (Ad r ta tb)):=by
 intro pins s σ H Q I h;refine wpAny_isTrue_Compare1 (bU (ha pins s σ H _ I h) λv s1 ⟨x,H1,I1,r1,q1⟩=>bU (hb pins s1 σ H1 _ I1 q1) λu s2 ⟨y,H2,I2,r2,q2⟩=>
  bU (ho pins s2 σ H2 x y v u _ I2 r1 r2 q2) λc s3 ⟨z,H3,I3,r3,k,e,q3⟩=>?_) hm
 subst e;cases r3;exact XJ ⟨H3,I3,q3⟩
noncomputable def Cg(K:PySem.W.Frag)(x:V)(H:Hp)(k:Bool):Prop:=
 match x with
 |.aG=>k=false
 |.bl b=>k=b
 |.int i=>k=(i != 0)
 |.str y=>y.length<=sizeLine/\k=((y.length:Int) != 0)
 |.lR y=>y.size<=sizeLine/\k=((y.size:Int) != 0)
 |.ref p=>(∃xs,fE K H p xs/\k = !xs.isEmpty)\/(∃xs,dU K H p xs/\k = !xs.isEmpty)\/∃kvs,H p=some (.dK kvs)/\k = !kvs.isEmpty
 |_=>False
def yr{κ:Type}{kvs:List (κ×V)}{vs:List (κ×Value)}(r:KV kvs vs):(!vs.isEmpty) = !kvs.isEmpty:=by
 cases r<;>rfl
def pO{xs:List V}{its:List Value}(r:Vals xs its):(!its.toArray.isEmpty) = !xs.isEmpty:=by
 cases r<;>simp
def j9:(sizeLine:Nat)<2 ^ 63:=by rw[Xy];decide
def Jh:QO X (λx H Q=>∃k,Cg X.K x H k/\Q k H):=by
 intro pins s σ H x v Q I rx h;obtain⟨k,e,q⟩:=h;have hl:=j9;have hs:sizeLine=16777216:=Xy;cases x with
 |aG=>
  cases rx;have e':k=false:=e;subst e';exact truthy_none ⟨H,I,q⟩
 |bl b=>
  cases rx;have e':k=b:=e;subst e';exact XJ ⟨H,I,q⟩
 |int i=>
  obtain⟨t,rfl⟩:=rx;have e':k=(i != 0):=e;subst e';exact PySem.P.truthy_int ⟨H,I,q⟩
 |str y=>
  obtain⟨t,rfl⟩:=rx;obtain⟨hy,e'⟩:y.length<=sizeLine/\k=((y.length:Int) != 0):=e;subst e';exact PySem.P.truthy_str (by omega) ⟨H,I.tok _,q⟩
 |lR y=>
  obtain⟨t,rfl⟩:=rx;obtain⟨hy,e'⟩:y.size<=sizeLine/\k=((y.size:Int) != 0):=e;subst e';exact PySem.W.truthy_bytes (by omega) ⟨H,I.tok _,q⟩
 |ref p=>
  cases rx;have e':(∃xs,fE X.K H p xs/\k = !xs.isEmpty)\/(∃xs,dU X.K H p xs/\k = !xs.isEmpty)\/∃kvs,H p=some (.dK kvs)/\k = !kvs.isEmpty:=e;rcases e' with ⟨xs,hx,e'⟩|⟨xs,hx,e'⟩|⟨kvs,hx,e'⟩
  .subst e';obtain⟨its,r,pl,hz⟩:=I.list hx;have hlen:=r.length;exact wpAny_truthy_list pl.isList (by simp only[zA];omega) ⟨H,I.tok _,by rw[pO r];exact q⟩
  .subst e';obtain⟨its,r,pl,hz⟩:=I.tuple hx;have hlen:=r.length;exact truthy_tuple pl (by simp only[zA];omega) ⟨H,I.tok _,by rw[pO r];exact q⟩
  .subst e';obtain⟨hz,hS,vs,r,m⟩:kvs.length<=sizeLine/\(p==sysModules)=false/\∃vs,KV kvs vs/\s.heap.DictOf (cT X.prog X.w) p vs:=I.hok p _ hx;have hlen:kvs.length=vs.length:=Paired.length r;exact wpAny_truthy_dict hS m (by omega) ⟨H,I.tok _,by rw[yr r];exact q⟩
 |_=>exact(show False from e).elim
def Ci(ha:PE X a ta)(he:∀whole,isTrue a X.env whole=(do let v <-whole;standAt a.pos;holding [v] (truthy v))) :
  PT X a (λσ H Q=>ta σ H λx H'=>∃k,Cg X.K x H' k/\Q k H'):=by
 intro pins s σ H Q I h;exact isTrue_plain (bU (ha pins s σ H _ I h) λv s1 ⟨x,H1,I1,r1,q1⟩=>Jh pins s1 σ H1 x v Q I1 r1 q1) (he _)
def yt:dN X (binaryOp .Add) (λx y H Q=>∃i j,x=.str i/\y=.str j/\i.length+j.length<=sizeLine/\Q (.str (i++j)) H):=by
 intro pins s σ H x y v u Q I rx ry h;obtain⟨i,j,rfl,rfl,hz,q⟩:=h;obtain⟨t,rfl⟩:=rx;obtain⟨t',rfl⟩:=ry;exact add_str (λt' tk=>⟨.str (i++j),H,I.tok _,⟨_,rfl⟩,q⟩) hz
def vals1{x:V}{us:List Value}(r:Vals [x] us):∃u,us=[u]/\RelV x u:=by
 cases r with
 |cons r1 r2=>cases r2;exact⟨_,rfl,r1⟩
end
structure gO(k:Nat)(A:Around):Prop where
 hd:A.handled=none
 dp:A.depth+3*k+5<recursionLimit
 un:A.units+16*k+200<cLine
theorem gO.deeper{k:Nat}{A:Around}(r:gO (k+1) A)(env:Env):gO k (A.deeper env):=
 ⟨r.hd,by have:=r.dp;show A.depth+1+3*k+5<_;omega,by have:=r.un;show A.units+3+16*k+200<_;omega⟩
theorem gO.depth{k:Nat}{A:Around}(r:gO k A):A.depth<recursionLimit:=by have:=r.dp;omega
noncomputable def QU:TA:=λ_ H Q=>Q [] H
noncomputable def Ny(ta:TE)(tr:TA):TA:=λσ H Q=>ta σ H λx H1=>tr σ H1 λxs H2=>Q (x :: xs) H2
section
variable{X:Cx}{e:Expr}{es:List Expr}{te:TE}{t:TA}{pos:Pos}
def kg:PA X [] QU:=λ_ _ _ _ H Q I h=>Xb ⟨[],H,I,.nil,h⟩
def eL(ha:PE X e te)(hr:PA X es t)(hs:starEach (e :: es) X.env=(false,eval e X.env) :: starEach es X.env:=by rfl):PA X (e :: es) (Ny te t):=by
 intro pos pins s σ H Q I h;rw[hs];show wpAny _ _ (spliced ((false,eval e X.env) :: backTo pos (starEach es X.env))) _ _ s;refine WZ (bU (ha pins s σ H _ I h) λu s1 ⟨x,H1,I1,r1,q1⟩=>?_);exact bU (hr pos pins s1 σ H1 _ I1 q1) λus s2 ⟨xs,H2,I2,r2,q2⟩=>⟨x :: xs,H2,I2,.cons r1 r2,q2⟩
noncomputable def QV(t:TA):TE:=λσ H Q=>t σ H λxs H1=>xs.length<=sizeLine/\∀p,H1 p=none->Q (.ref p) (upd H1 p (.tup xs))
noncomputable def QW(t:TA):TE:=λσ H Q=>t σ H λxs H1=>xs.length<=sizeLine/\∀p,H1 p=none->Q (.ref p) (upd H1 p (.lst xs))
def Ae{x1}(h:PA X es t):PE X (.Tuple es x1 pos) (QV t):=by
 intro pins s σ H Q I hq;refine wpAny_Tuple_spliced (bU (h pos pins s σ H _ I hq) λus s1 ⟨xs,H1,I1,r,z,q⟩=>⟨by rw[<-r.length];exact z,?_⟩);have hf:H1 s1.heap.objs.size=none:=I1.hok.fresh (vn _);refine⟨.ref s1.heap.objs.size,upd H1 s1.heap.objs.size (.tup xs),I1.laid (t':=s1.toks) (λb u e=>eV _ e) (vn _) ?_,rfl,q _ hf⟩;exact⟨z,us,r,⟨_,RB _ rfl,rfl,_,rfl⟩⟩
def tS(h:PA X es t):PE X (.List es pos) (QW t):=by
 intro pins s σ H Q I hq;refine wpAny_List_spliced (bU (h pos pins s σ H _ I hq) λus s1 ⟨xs,H1,I1,r,z,q⟩=>⟨by rw[<-r.length];exact z,?_⟩);have hf:H1 s1.heap.objs.size=none:=I1.hok.fresh (vn _);refine⟨.ref s1.heap.objs.size,upd H1 s1.heap.objs.size (.lst xs),I1.laid (t':=s1.toks) (λb u e=>eV _ e) (vn _) ?_,rfl,q _ hf⟩;exact⟨z,us,0,r,RB _ rfl⟩
end
abbrev Sp:=List V->Hp->VK->XK->Prop
abbrev kh:=List Env->Hp->Shared->XK->Value->Shared->Prop
structure qH(P:Program)(w:World)(K:PySem.W.Frag)(mg:Str->Option Value)(base:Heap)(A:Around)(outer:List Env)(s:Shared)(H:Hp):Prop where
 frames:A.frames=some outer
 mod:Mod K mg base
 bs:∀b o,base.get? b=some o->s.heap.get? b=some o/\H b=none
 lS:base.objs.size<=s.heap.objs.size
 gM:s.heap.FunFrames base outer
 nV:∀b∈frs outer,H b=none
 hok:eX P w H s.heap
 bare:AllBare s.gens
noncomputable def CE(outer:List Env)(P:Program)(w:World)(H:Hp)(s:Shared)(Q:VK)(u:Value)(s':Shared):Prop:=
 ∃v H',s'.os=s.os/\AllBare s'.gens/\Un (frs outer) [] H H' s.heap s'.heap/\eX P w H' s'.heap/\RelV v u/\Q v H'
noncomputable def CR(CX:kh)(outer:List Env)(P:Program)(w:World)(H:Hp)(s:Shared)(Q:VK)(E:XK)(r:Result)(s':Shared):Prop:=
 match r with
 |.ok (.ret u)=>CE outer P w H s Q u s'
 |.ok _=>False
 |.error e=>CX outer H s E e s'
structure fK(P:Program)(w:World)(K:PySem.W.Frag)(mg:Str->Option Value)(base:Heap)(CX:kh)(k:Nat)(f:Addr)(fd:FuncData)(ps:List Str)(sp:Sp):Prop where
 len:∀vs H Q E,sp vs H Q E->vs.length=ps.length
 run:∀(A:Around) (outer:List Env) (s:Shared) (H:Hp) (args:Args) (us:List Value) (vs:List V) (Q:VK) (E:XK),gO k A->qH P w K mg base A outer s H->BindsTo s fd args (ps.zip us)->Vals vs us->sp vs H Q E->
  codeAny (model P w) A (.call (.ref f) args) (CR CX outer P w H s Q E) s
section
variable{X:Cx}{pins:List (Addr×Obj)}{σ:St}{H:Hp}{s s':Shared}
def Inv.jW(I:Inv X pins σ H s):qH X.prog X.w X.K X.mg X.base X.A X.stack s H:=
 ⟨I.ok.frames,I.ok.mod,I.bs,VE I.ok.lS I.sz,I.stack,I.qF,I.hok,I.bare⟩
def Inv.after{Q:VK}{u:Value}(I:Inv X pins σ H s)(h:CE X.stack X.prog X.w H s Q u s'):EP X pins σ Q u s':=by
 obtain⟨v,H',os,bare,un,hok,r,q⟩:=h;obtain⟨hh,g,d,t,os'⟩:=s';obtain rfl:os'=s.os:=os;exact⟨v,H',I.call (h':=hh) (g':=g) (d':=d) (t':=t) (ch:=[]) un hok bare (λb z=>absurd z (by simp)),r,q⟩
end
noncomputable def Nz(sp:Sp)(jc:List V)(E:XK)(t:TA):TE:=λσ H Q=>t σ H λvs H1=>sp (vs++jc) H1 Q E
noncomputable def Binds(K:PySem.W.Frag)(fd:FuncData)(ps:List Str)(ds:List Value):Prop:=
 ∀(s:Shared) (us:List Value),K.In s.heap->(us++ds).length=ps.length->BindsTo s fd ⟨us,[]⟩ (ps.zip (us++ds))
def Binds.all{K:PySem.W.Frag}{fd:FuncData}{ps:List Str}(h:∀us:List Value,us.length=ps.length->bindArgs fd ⟨us,[]⟩=pure (ps.zip us)):Binds K fd ps []:=λs us _ hl=>by
 rw[Ux]at hl ⊢;exact .of_eq (h us hl)
noncomputable def Passes(CX:kh)(X:Cx)(E:XK):Prop:=∀(pins:List (Addr×Obj)) (σ:St) (H:Hp) (s:Shared) (e:Value) (s':Shared),Inv X pins σ H s->CX X.stack H s E e s'->X.xe e s'
section
variable{X:Cx}{CX:kh}{k:Nat}{f:Addr}{fd:FuncData}{ps:List Str}{sp:Sp}{jc:List V}{ds:List Value}{E:XK}{x:Str}{p pos:Pos}{e:Expr}{es:List Expr}{t:TA}
def Af{pins:List (Addr×Obj)}{σ:St}{H:Hp}{s:Shared}{Q:VK}{us:List Value}{vs:List V}(F:fK X.prog X.w X.K X.mg X.base CX k f fd ps sp)(hr:gO k X.A)(hb:Binds X.K fd ps ds)(hd:Vals jc ds)(hx:Passes CX X E)
  (I:Inv X pins σ H s) (r:Vals vs us) (h:sp (vs++jc) H Q E):wpAny (model X.prog X.w) X.A (call (.ref f) us) (EP X pins σ Q) X.xe s:=by
 have r2:Vals (vs++jc) (us++ds):=r.append hd;have hl:(us++ds).length=ps.length:=by rw[<-r2.length];exact F.len _ _ _ _ h
 refine Xi (Wo (F.run X.A X.stack s H ⟨us,[]⟩ (us++ds) (vs++jc) Q E hr I.jW (hb s us I.jb hl) r2 h) λr s' hq=>?_);cases r with
 |error e=>exact hx pins σ H s e s' I hq
 |ok fl=>
  cases fl with
  |ret u=>exact I.after hq
  |next=>exact False.elim hq
  |brk=>exact False.elim hq
  |cont=>exact False.elim hq
def nA(F:fK X.prog X.w X.K X.mg X.base CX k f fd ps sp)(hr:gO k X.A)(hg:Gl X x)(hm:X.mg x=some (.ref f))(hk:PySem.W.keepIn X.K (.ref f)=true)(hb:Binds X.K fd ps ds)(hd:Vals jc ds)(hx:Passes CX X E)
  (ha:PA X (e :: es) t) (hdb:(x==("__debug__" : Str))=false:=by decide) (he:starEach (e :: es) X.env=(false,eval e X.env) :: starEach es X.env:=by rfl) (hpl:(backTo pos (starEach es X.env)).any (·.1)=false:=by rfl) :
  PE X (.Call (.Name x p) (e :: es) [] pos) (Nz sp jc E t):=by
 intro pins s σ H Q I h;refine WX (qG I hg hm ?_ hdb);refine XA (h₀:=X.base) I.ok.mod.cZ hk (bU (ha pos pins s σ H _ I h) λus s1 ⟨vs,H1,I1,r,q⟩=>⟨I1.jb,?_⟩) he hpl;exact Af F hr hb hd hx I1 r q
end
structure bG(N P:List Str)(sc:Scope):Prop where
 kind:sc.kind=.function
 co:sc.isCoroutine=false
 gen:sc.isGenerator=false
 nd:N.Nodup
 pre:N.take P.length=P
 par:∀x∈P,sc.names.lookup x=some .local\/sc.names.lookup x=some .cell
 Ji:∀y∈sc.names,y.2≠.free
theorem rN{kindOf:Str->Option NameKind}{x:Str}:∀{binds:List (Str×Value)}{m:Str->Option Value},(∀v,(x,v)∉binds)->bindL kindOf binds m x=m x
 |[],_,_=>rfl
 | (n,v) :: r,m,h=>by
  unfold bindL;rw[rN λw hw=>h w (VA _ hw)];split
  .have:x≠n:=by rintro rfl;exact h v VS
   simp[this]
  .rfl
theorem rO{kindOf:Str->Option NameKind}{x:Str}:∀{binds:List (Str×Value)}{m:Str->Option Value},(∀v,(x,v)∉binds)->bindC kindOf binds m x=m x
 |[],_,_=>rfl
 | (n,v) :: r,m,h=>by
  unfold bindC;rw[rO λw hw=>h w (VA _ hw)];split
  .rfl
  .have:x≠n:=by rintro rfl;exact h v VS
   simp[this]
theorem rP{kindOf:Str->Option NameKind}{x:Str}{v:Value}:∀{P:List Str}{vs:List Value}{i:Nat}{m:Str->Option Value},P.Nodup->P[i]?=some x->vs[i]?=some v->kindOf x=some .local->
  bindL kindOf (P.zip vs) m x=some v
 |[],_,_,_,_,h,_,_=>by simp at h
 |_ :: _,[],_,_,_,_,h,_=>by simp at h
 |p :: P,w :: vs,0,m,nd,h1,h2,hk=>by
  simp at h1 h2;subst h1;subst h2;show bindL kindOf ((p,w) :: P.zip vs) m p=_;unfold bindL;rw[rN λv hv=>(List.nodup_cons.mp nd).1 (Xl hv).1,cS hk];simp
 |p :: P,w :: vs,i+1,m,nd,h1,h2,hk=>by
  show bindL kindOf ((p,w) :: P.zip vs) m x=_;unfold bindL;exact rP (i:=i) (List.nodup_cons.mp nd).2 (by simpa using h1) (by simpa using h2) hk
theorem rQ{kindOf:Str->Option NameKind}{x:Str}{v:Value}:∀{P:List Str}{vs:List Value}{i:Nat}{m:Str->Option Value},P.Nodup->P[i]?=some x->vs[i]?=some v->kindOf x≠some .local->
  bindC kindOf (P.zip vs) m x=some v
 |[],_,_,_,_,h,_,_=>by simp at h
 |_ :: _,[],_,_,_,_,h,_=>by simp at h
 |p :: P,w :: vs,0,m,nd,h1,h2,hk=>by
  simp at h1 h2;subst h1;subst h2;show bindC kindOf ((p,w) :: P.zip vs) m p=_;unfold bindC;rw[rO λv hv=>(List.nodup_cons.mp nd).1 (Xl hv).1,Qm hk];simp
 |p :: P,w :: vs,i+1,m,nd,h1,h2,hk=>by
  show bindC kindOf ((p,w) :: P.zip vs) m x=_;unfold bindC;exact rQ (i:=i) (List.nodup_cons.mp nd).2 (by simpa using h1) (by simpa using h2) hk
noncomputable def start(N:List Str)(vs:List V):St:=vs.map some++List.replicate (N.length - vs.length) none
noncomputable def iW(CX:kh)(P:Program)(w:World)(K:PySem.W.Frag)(mg:Str->Option Value)(base:Heap)(N:List Str)(qual:Str)(scope:Scope)(f:Addr)(cd:Value)(A:Around)(outer:List Env)(s:Shared)(H:Hp)(E:XK):Cx where
 prog:=P
 w:=w
 K:=K
 mg:=mg
 base:=base
 A:=A.deeper (envOfC qual scope s.heap.objs.size f cd)
 N:=N
 s₀:=s
 H₀:=H
 env:=envOfC qual scope s.heap.objs.size f cd
 outer:=outer
 stack:=envOfC qual scope s.heap.objs.size f cd :: outer
 ex:=[]
 calm:=true
 fn:=λ_=>true
 pn:=[]
 xe:=λe s'=>wpAny (model P w) (A.deeper (envOfC qual scope s.heap.objs.size f cd)) (leaving (envOfC qual scope s.heap.objs.size f cd) e) (λ_ s''=>CX outer H s E e s'') (λe' s''=>CX outer H s E e' s'') s'
def tT{sc:Scope}{n:Nat}{x:Str}(h:sc.names.lookup x=some .cell):∃c,(cellsFrom n sc.names []).lookup x=some c:=by
 have q:=Xd sc.names n [] (.inl h);exact Option.isSome_iff_exists.mp q
def rR{CX:kh}{P:Program}{w:World}{K:PySem.W.Frag}{mg:Str->Option Value}{base:Heap}{N ps:List Str}{qual:Str}{scope:Scope}{f:Addr}{cd:Value}{A:Around}{outer:List Env}{s s1:Shared}{H:Hp}{E:XK}{us:List Value}{vs:List V}
  (S:bG N ps scope) (hd:A.handled=none) (e0:qH P w K mg base A outer s H) (hl:vs.length=ps.length) (r:Vals vs us)
  (x:InCallC s s.heap.objs.size (bindL (envOfC qual scope s.heap.objs.size f cd).kindOf (ps.zip us) λ_=>none) (cellsFrom (s.heap.objs.size+1) scope.names []) (bindC (envOfC qual scope s.heap.objs.size f cd).kindOf (ps.zip us) λ_=>none) s1) :
  Inv (iW CX P w K mg base N qual scope f cd A outer s H E) [] (start N vs) H s1:=by
 have hpl:ps.length<=N.length:=by have:=Vw List.length S.pre;rw[VM]at this;omega
 obtain⟨h1,tk,rfl,hk⟩:=x.done;have Ag:∀b:Addr,b∉(iW CX P w K mg base N qual scope f cd A outer s H E).ex:=λb z=>absurd (show b∈([]:List Addr)from z) (by simp);refine⟨⟨e0.mod,S.kind,rfl,rfl,vn _,λy z c h1 h2=>?_,λy hy=>?_,λy c _ h=>?_,λ_=>hd,Around.frames_deeper e0.frames,.inr ⟨rfl,rfl⟩,λb z=>absurd z (Ag b),e0.bs,e0.lS,λb _ _=>Ag b,λb z=>absurd z (Ag b),e0.gM,e0.nV⟩,
  rfl,e0.bare,Un.kept hk,⟨_,x.toInCall.ns,λi y v h1 h2 h3=>?_⟩,λy c h=>⟨_,x.cell y c h⟩,e0.hok.fresh (vn _),λy c h=>?_,λp hp=>absurd (show p∈([]:List (Addr×Obj))from hp) (by simp),e0.hok.kept hk,?_⟩
 .exact name_of_addr x.apart (WH h1) (WH h2)
 .have hy:scope.names.lookup y=some .cell\/scope.names.lookup y=some .free:=hy;rcases hy with hy|hy
  .exact tT hy
  .exact absurd rfl (S.Ji _ (WH hy))
 .exact XZ (x.above y c (WH h))
 .have hi:i<vs.length:=by
   unfold start at h2;by_cases hi:i<vs.length
   .exact hi
   .rw[V6 (by simpa using hi)]at h2;rw[Yh]at h2;split at h2<;>cases h2
  have ha:vs[i]?=some v:=by
   unfold start at h2;rw[Mv (by simpa using hi),Vz]at h2;cases e:vs[i]? with
   |none=>rw[e]at h2;cases h2
   |some a=>rw[e]at h2;cases h2;rfl
  obtain⟨u,hu,rv⟩:=r.get ha;have hp:ps[i]?=some y:=by
   rw[<-S.pre,List.getElem?_take_of_lt (by omega)];exact h1
  have Pn:ps.Nodup:=by rw[<-S.pre];exact S.nd.sublist (YL _ _)
  refine⟨u,rv,?_⟩;rcases S.par y (VD hp)with k|k
  .exact .inl ⟨k,rP Pn hp hu k⟩
  .obtain⟨c,e⟩:=tT (n:=s.heap.objs.size+1) k;refine .inr ⟨.inl k,c,e,?_⟩;have q:=x.cell y c e;rw[rQ Pn hp hu (by show scope.names.lookup y≠_;rw[k];decide)]at q;exact q
 .exact e0.hok.fresh (XZ (x.above y c (WH h)))
 .unfold start;show _=N.length;rw[Qn,VL,List.length_replicate];omega
def EC{CX:kh}{P:Program}{w:World}{K:PySem.W.Frag}{mg:Str->Option Value}{base:Heap}{k:Nat}{f:Addr}{name qual:Str}{params:Arguments}{body:List Stmt}{scope:Scope}{dV kV doc pm cdv ct oc:Value}{an od:Option Addr}
  {osl:Array (Option Value)} {N ps:List Str} {sp:Sp} (lk:K.lookup f=some ⟨oc,od,.func (PySem.W.fnOf name qual params body scope dV kV doc pm an cdv ct),osl⟩) (hcd:PySem.W.codeIn K cdv qual=true) (S:bG N ps scope)
  (len:∀vs H Q E,sp vs H Q E->vs.length=ps.length)
  (hbody:∀(A:Around) (outer:List Env) (s:Shared) (H:Hp) (vs:List V) (Q:VK) (E:XK),gO k (A.deeper (envOfC qual scope s.heap.objs.size f cdv))->sp vs H Q E->
   ∃t,eY (iW CX P w K mg base N qual scope f cdv A outer s H E) body t/\t { nx:=λ_ H'=>Q .aG H',rt:=Q } (start N vs) H) :
  fK P w K mg base CX (k+1) f (PySem.W.fnOf name qual params body scope dV kV doc pm an cdv ct) ps sp:=by
 refine⟨len,λA outer s H args us vs Q E hr e0 hb r g6=>?_⟩;have hl:=len _ _ _ _ g6;have KX:K.In s.heap:=e0.mod.cZ.keeps λb o e=>(e0.bs b o e).1;have lim:s.heap.NoLimit:=e0.mod.nolimit.keeps λb o e=>(e0.bs b o e).1;have hkind:∀y∈ps.zip us,scope.names.lookup y.1=some .local\/(scope.names.lookup y.1=some .cell/\((cellsFrom (s.heap.objs.size+1) scope.names []).lookup y.1).isSome=true):=λ⟨n,v⟩ hy=>by
  rcases S.par n (Xl hy).1 with q|q
  .exact .inl q
  .exact .inr ⟨q,Xd _ _ _ (.inl q)⟩
 refine Yp hr.depth (KX _ _ lk) rfl S.co S.gen rfl (YJ KX hcd) (hb _ _ _ _ ?_);refine XG S.kind hkind λenv he s1 x=>?_;subst he;refine⟨lim.keeps x.toInCall.keep,codeAny_func ?_⟩;obtain⟨t,ht,hq⟩:=hbody A outer s H vs Q E (hr.deeper _) g6;have I:Inv (iW CX P w K mg base N qual scope f cdv A outer s H E) [] (start N vs) H s1:=rR S hr.hd e0 hl r x;refine Vx (ht [] s1 (start N vs) H _ I hq) (λfl s' hs=>?_) λe s' hs=>hs;have fin:∀{σ':St} {H':Hp} {v:V} {u:Value},Inv (iW CX P w K mg base N qual scope f cdv A outer s H E) [] σ' H' s'->RelV v u->Q v H'->CE outer P w H s Q u s':=
  λ{σ' H' v u} J rv q=>⟨v,H',J.os,J.bare,J.base,J.hok,rv,q⟩
 cases fl with
 |ret u=>
  obtain⟨v,σ',H',J,rv,q⟩:=hs;exact fin J rv q
 |next=>
  obtain⟨σ',H',J,q⟩:=hs;exact fin (v:=V.aG) (u:=Value.none) J rfl q
 |brk=>
  obtain⟨_,_,_,q⟩:=hs;exact False.elim q
 |cont=>
  obtain⟨_,_,_,q⟩:=hs;exact False.elim q
section
variable{X:Cx}{x:Str}{p pos:Pos}{e:Expr}{es:List Expr}{t:TA}{id:String}{r:List V->Hp->VK->Prop}
noncomputable def Po(r:List V->Hp->VK->Prop)(t:TA):TE:=λσ H Q=>t σ H λvs H1=>r vs H1 Q
def tU (hc:ny X (.builtin id) r) (hg:Gl X x) (hm:X.mg x=none) (hv:bootBuiltins x=some (.builtin id)) (ha:PA X (e :: es) t) (hn:x≠"__name__" :=by decide) (hdb:(x==("__debug__" : Str))=false:=by decide)
  (he:starEach (e :: es) X.env=(false,eval e X.env) :: starEach es X.env:=by rfl) (hpl:(backTo pos (starEach es X.env)).any (·.1)=false:=by rfl):PE X (.Call (.Name x p) (e :: es) [] pos) (Po r t):=by
 intro pins s σ H Q I h;refine WX (lW I hg hm hv ?_ hn hdb);exact Xq (bU (ha pos pins s σ H _ I h) λus s1 ⟨vs,H1,I1,r1,q1⟩=>hc pins s1 σ H1 vs us Q I1 r1 q1) he hpl
end
end L2
namespace HT
open PySem PyProof.Rows
section
variable{prog:Program}{w:World}{A:Around}{E:Value->Shared->Prop}{s:Shared}
def Gr{t b:Addr}{vs ws:List Value}{Q:Value->Shared->Prop}(ht:IsTup s.heap t vs.toArray)(hb:IsTup s.heap b ws.toArray)(hv:vs≠[])
  (h1:ws=[]->Q (.ref t) s) (h2:ws≠[]->Q (.ref s.heap.objs.size) { s with heap:=s.heap.push { cls:=.type "tuple",data:=.seq (vs++ws).toArray }})
  (hsz:vs.length+ws.length<=sizeLine):wpAny (model prog w) A (binaryOp .Add (.ref t) (.ref b)) Q E s:=by
 obtain⟨⟨cls,dd,data,sl⟩,ho,hc,n,hd⟩:=id ht;obtain⟨⟨QX,dd2,data2,sl2⟩,ho2,hc2,n2,hd2⟩:=id hb;simp only at hc hd hc2 hd2;subst hc hd hc2 hd2;have e:vs.toArray++ws.toArray=(vs++ws).toArray:=by simp
 by_cases hw:ws=[]
 .exact YE ⟨_,ho,rfl⟩ ⟨_,ho2,rfl⟩ X4 YA Xf W5 (W2 _ _)
   (tuple_addW1 t b vs.toArray ws.toArray n n2 dd dd2 sl sl2 (by simpa using hv) (by simp[hw])) ⟨ho,ho2,h1 hw⟩
 .refine YE ⟨_,ho,rfl⟩ ⟨_,ho2,rfl⟩ X4 YA Xf W5 (W2 _ _)
   (tuple_addW2 t b vs.toArray ws.toArray n n2 dd dd2 sl sl2 (by simpa using hv) (by simpa using hw) (by rw[zA,zA];exact hsz)) ⟨ho,ho2,?_⟩
  rw[e];exact h2 hw
noncomputable def aN(n d:Nat):Option Int->Nat
 |none=>d
 |some v=>if v<0 then (v+(n:Int)).toNat else min v.toNat n
def tV(n d:Nat)(hd:d<=n)(o:Option Int):aN n d o<=n:=by
 cases o with
 |none=>exact hd
 |some v=>
  show(if v<0 then (v+(n:Int)).toNat else min v.toNat n)<=n;by_cases hv:v<0
  .rw[cS hv];omega
  .rw[Qm hv];exact Nat.min_le_right _ _
def wg(v:Int)(n d:Nat):(if v<0 then max (v+(n:Int)) 0 else min v (n:Int))=((aN n d (some v):Nat):Int):=by
 show(if v<0 then max (v+(n:Int)) 0 else min v (n:Int))=(((if v<0 then (v+(n:Int)).toNat else min v.toNat n):Nat):Int)
 by_cases hv:v<0
 .simp only[cS hv];omega
 .simp only[Qm hv];omega
def yu(lo hi:Option Int)(n:Nat):Builtin.Slice.sliceAdjust lo hi 1 (n:Int)=(((aN n 0 lo:Nat):Int),((aN n n hi:Nat):Int)):=by
 have h1:¬ ((1:Int)<0):=by omega
 unfold Builtin.Slice.sliceAdjust;simp only[h1,Wb];refine Prod.ext ?_ ?_
 .cases lo with
  |none=>rfl
  |some v=>exact wg v n 0
 .cases hi with
  |none=>rfl
  |some v=>exact wg v n n
def yv(i j:Nat):Builtin.Slice.slicePlaces (i:Int) (j:Int) 1=j - i:=by
 unfold Builtin.Slice.slicePlaces;have h1:(1:Int) > 0:=by omega
 simp only[h1,VI,Int.ediv_one];split<;>omega
def pP{v:Value}{o:Option Int}{Q:Option Int->Shared->Prop}(p:IsPart v o)(h:Q o s):wpAny (model prog w) A (Builtin.Slice.slicePartIndex v) Q E s:=by
 cases p with
 |none=>exact slicePart_none h
 |int i t=>exact slicePart_int h
def jz{sl:Addr}{vl vu:Value}{lo hi:Option Int}{n:Nat}{Q:Int×Int×Nat->Shared->Prop}(hs:s.heap.IsSliceOf sl vl vu .none)(pl:IsPart vl lo)(pu:IsPart vu hi)
  (h:Q (((aN n 0 lo:Nat):Int),1,aN n n hi - aN n 0 lo) s):wpAny (model prog w) A (Builtin.Slice.sliceApplied (.ref sl) (pure (n:Int))) Q E s:=by
 obtain⟨os,hos,hcs,hds⟩:=id hs;unfold Builtin.Slice.sliceApplied Builtin.Slice.sliceFields;refine bT (bT (wpAny_field hos hds (x:=vl) rfl (bT (wpAny_field hos hds (x:=vu) rfl (bT (wpAny_field hos hds (x:=.none) rfl (bY ?_)))))));refine bT (slicePart_none ?_);show wpAny _ _ (if ((1:Int)==0)=true then _ else _) _ _ s;rw[Qm (by decide)];refine bT (pP pl (bT (pP pu (bT (bY ?_)))));show wpAny _ _ (match Builtin.Slice.sliceAdjust lo hi 1 (n:Int)with | (lo,hi)=>pure (lo,(1:Int),Builtin.Slice.slicePlaces lo hi 1)) _ _ s;rw[yu lo hi n];show wpAny _ _ (pure (((aN n 0 lo:Nat):Int),(1:Int),Builtin.Slice.slicePlaces ((aN n 0 lo:Nat):Int) ((aN n n hi:Nat):Int) 1)) _ _ s;rw[yv];exact bY h
def Cj(xs:Array Value)(i k:Nat):((List.range k).filterMap λ(m:Nat)=>xs[((i:Int)+(m:Int)*1).toNat]?).toArray=((xs.toList.drop i).take k).toArray:=by
 have e:(λ(m:Nat)=>xs[((i:Int)+(m:Int)*1).toNat]?)=λm=>xs[i+m]?:=by
  funext m
  have:((i:Int)+(m:Int)*1).toNat=i+m:=by omega
  rw[this]
 rw[e];have:=pick_run xs i k;rw[XE]at this;have e2:((λx=>xs[x]?) ∘ λx=>i+x)=λm=>xs[i+m]?:=rfl;rw[e2]at this;rw[this]
def nU{t sl:Addr}{items:Array Value}{vl vu:Value}{lo hi:Option Int}{Q:Value->Shared->Prop}(ht:IsTup s.heap t items)(hs:s.heap.IsSliceOf sl vl vu .none)(pl:IsPart vl lo)(pu:IsPart vu hi)
  (hw:¬ (aN items.size 0 lo=0/\aN items.size items.size hi=items.size))
  (h:Q (.ref s.heap.objs.size) { s with heap:=s.heap.push { cls:=.type "tuple",data:=.seq ((items.toList.drop (aN items.size 0 lo)).take (aN items.size items.size hi - aN items.size 0 lo)).toArray }})
  (hsz:items.size<=sizeLine):wpAny (model prog w) A (getItem (.ref t) (.ref sl)) Q E s:=by
 have sX:sizeOk (.seq ((items.toList.drop (aN items.size 0 lo)).take (aN items.size items.size hi - aN items.size 0 lo)).toArray):=by
  show((items.toList.drop (aN items.size 0 lo)).take (aN items.size items.size hi - aN items.size 0 lo)).toArray.size<=sizeLine;rw[zA,VM,WR,V4];omega
 have hj:aN items.size items.size hi<=items.size:=tV _ _ (vn _) hi;obtain⟨os,hos,hcs,hds⟩:=id hs;have Jj:s.TypeIs (.ref sl) "slice" :=⟨os,hos,hcs⟩
 unfold getItem;try with_reducible refine V5 ?_
 first|refine bT (bY ?_)|skip
 refine bT (wpAny_sequenceKey ht.typeIs (by decide) ?_);refine bT (V0 (name:=Str.ofString "__getitem__") ht.typeIs Wa
  (VY Wa ht.typeIs entry_tuple_getitem ?_ (args_tuple_getitem _ _)))
 show wpAny _ _ (Builtin.Tuple.tupleItemsOf (.ref t) >>= _) _ _ s;refine bT (tupleItemsOf_ ht ?_);refine bT (Xj Jj ?_);rw[cS (by decide)];refine bT (jz hs pl pu ?_);have hno:¬ ((((aN items.size 0 lo:Nat):Int)==0&&(1:Int)==1&&(aN items.size items.size hi - aN items.size 0 lo)==items.size)=true):=by
  intro q;rw[gV,gV]at q;have q1:((aN items.size 0 lo:Nat):Int)=0:=eq_of_beq q.1.1;have q2:aN items.size items.size hi - aN items.size 0 lo=items.size:=eq_of_beq q.2;exact hw ⟨by omega,by omega⟩
 show wpAny _ _ (if (((aN items.size 0 lo:Nat):Int)==0&&(1:Int)==1&&(aN items.size items.size hi - aN items.size 0 lo)==items.size)=true then _ else _) _ _ s;rw[Qm hno,Cj];first
  |exact bT (m:=Builtin.Tuple.tupleExact _) (VU (bY ⟨_,rfl,bY h⟩) sX)
  |exact bT (m:=Builtin.Tuple.tupleExact _) (VU (bT (bY (bY ⟨_,rfl,bY h⟩))) sX)
  |exact bT (bT (m:=Builtin.Tuple.tupleExact _) (VU (bY (bY ⟨_,rfl,bY h⟩)) sX))
  |exact bT (bT (m:=Builtin.Tuple.tupleExact _) (VU (bY ⟨_,rfl,bY h⟩) sX))
end
end HT
namespace L2
open PySem PySem.Spec PyProof.Rows
abbrev TO:=St->Hp->(Option Int->Hp->Prop)->Prop
noncomputable def PO(X:Cx)(e:Option Expr)(t:TO):Prop:=
 ∀(pins:List (Addr×Obj)) (s:Shared) (σ:St) (H:Hp) (Q:Option Int->Hp->Prop),Inv X pins σ H s->t σ H Q->
  wpAny (model X.prog X.w) X.A (evalPart e X.env) (λu s'=>∃o H',Inv X pins σ H' s'/\IsPart u o/\Q o H') X.xe s
noncomputable def Gs:TO:=λ_ H Q=>Q none H
noncomputable def NB(t:TE):TO:=λσ H Q=>t σ H λx H1=>∃i,x=.int i/\Q (some i) H1
section
variable{X:Cx}{e:Expr}{te:TE}{lo hi:Option Expr}{tl th:TO}{pos p2:Pos}
def Gu:PO X none Gs:=by
 intro pins s σ H Q I h;rw[evalPart_none];exact bY ⟨none,H,I,.none,h⟩
def Gv(h:PE X e te):PO X (some e) (NB te):=by
 intro pins s σ H Q I hw;rw[evalPart_some];refine bU (h pins s σ H _ I hw) λu s1 ⟨x,H1,I1,r1,q1⟩=>?_;obtain⟨i,rfl,q⟩:=q1;obtain⟨t,rfl⟩:=r1;exact⟨some i,H1,I1,.int i t,q⟩
noncomputable def ki(X:Cx)(r:V->Option Int->Option Int->Hp->VK->Prop):Prop:=
 ∀(pins:List (Addr×Obj)) (s:Shared) (σ:St) (H:Hp) (x:V) (v vl vu:Value) (lo hi:Option Int) (sl:Addr) (Q:VK),Inv X pins σ H s->RelV x v->s.heap.IsSliceOf sl vl vu .none->IsPart vl lo->IsPart vu hi->r x lo hi H Q->
  ∃T id,typeLookup (.type T) "__getitem__" = pure (some (.builtin id))/\s.TypeIs v T/\wpAny (model X.prog X.w) X.A (getItem v (.ref sl)) (EP X pins σ Q) X.xe s
noncomputable def Sz(r:V->Option Int->Option Int->Hp->VK->Prop)(te:TE)(tl th:TO):TE:=λσ H Q=>te σ H λx H1=>tl σ H1 λl H2=>th σ H2 λu H3=>r x l u H3 Q
def Ck{r:V->Option Int->Option Int->Hp->VK->Prop}(hr:ki X r)(he:PE X e te)(hl:PO X lo tl)(hu:PO X hi th):PE X (.Subscript e (.Slice lo hi none p2) pos) (Sz r te tl th):=by
 intro pins s σ H Q I h;refine Subscript_ (bU (he pins s σ H _ I h) λv s1 ⟨x,H1,I1,r1,q1⟩=>?_);refine wpAny_Slice (bU (hl pins s1 σ H1 _ I1 q1) λvl s2 ⟨l,H2,I2,pl,q2⟩=>bU (hu pins s2 σ H2 _ I2 q2) λvu s3 ⟨u,H3,I3,pu,q3⟩=>?_);rw[evalPart_none];refine bY ?_;have I4:Inv X pins σ H3 { s3 with heap:=s3.heap.push { cls:=.type "slice",data:=.fields #[vl,vu,.none]}}:=I3.kept (t':=s3.toks) λb ob q=>eV _ q;obtain⟨T,id,hT,ht,hg⟩:=hr pins { s3 with heap:=s3.heap.push { cls:=.type "slice",data:=.fields #[vl,vu,.none]}} σ H3 x v vl vu l u s3.heap.objs.size Q I4 r1 (Heap.IsSliceOf.new ..) pl pu q3;show wpAny (model X.prog X.w) X.A (subscriptTail e (.Slice lo hi none p2) v (.ref s3.heap.objs.size)) (EP X pins σ Q) X.xe { s3 with heap:=s3.heap.push { cls:=.type "slice",data:=.fields #[vl,vu,.none]}};exact tail_any (ops:=[.ref s3.heap.objs.size,v]) ht hT hg (by with_unfolding_all rfl)
noncomputable def mh(xs:List V)(lo hi:Option Int):List V:=(xs.drop (HT.aN xs.length 0 lo)).take (HT.aN xs.length xs.length hi - HT.aN xs.length 0 lo)
def nX(xs:List V)(lo hi:Option Int):(mh xs lo hi).length<=xs.length:=by
 unfold mh;rw[VM,WR];omega
noncomputable def QY(K:PySem.W.Frag):V->Option Int->Option Int->Hp->VK->Prop:=λx lo hi H Q=>∃a xs,x=.ref a/\dU K H a xs/\
 ¬ (HT.aN xs.length 0 lo=0/\HT.aN xs.length xs.length hi=xs.length)/\∀p,H p=none->Q (.ref p) (upd H p (.tup (mh xs lo hi)))
def Jk:ki X (QY X.K):=by
 intro pins s σ H x v vl vu lo hi sl Q I rx hs pl pu h;obtain⟨a,xs,rfl,hx,hw,q⟩:=h;cases rx;obtain⟨its,r,ht,hz⟩:=I.tuple hx;have hlen:its.toArray.size=xs.length:=by rw[zA];exact r.length.symm
 refine⟨"tuple",_,PyProof.Rows.slot_tuple_getitem.lookup,ht.typeIs,?_⟩;refine HT.nU ht hs pl pu (by rw[hlen];exact hw) ?_ (by rw[hlen];exact hz);rw[hlen];refine⟨.ref s.heap.objs.size,_,I.laid (t':=s.toks) (o:=.tup (mh xs lo hi)) (λb ob q=>eV _ q) (vn _) ?_,rfl,q _ (I.hok.fresh (vn _))⟩;exact⟨VE (nX xs lo hi) hz,_,(r.drop (HT.aN xs.length 0 lo)).take (HT.aN xs.length xs.length hi - HT.aN xs.length 0 lo),IsTup.new _ _⟩
noncomputable def NC(K:PySem.W.Frag):R2:=λx y H Q=>∃a b xs ys,x=.ref a/\y=.ref b/\dU K H a xs/\dU K H b ys/\xs≠[]/\xs.length+ys.length<=sizeLine/\
 (ys=[]->Q (.ref a) H)/\(ys≠[]->∀p,H p=none->Q (.ref p) (upd H p (.tup (xs++ys))))
def Vals.qI{xs:List V}{us:List Value}(r:Vals xs us):us=[]↔xs=[]:=by
 cases r with
 |nil=>simp
 |cons _ _=>simp
def Gw:dN X (binaryOp .Add) (NC X.K):=by
 intro pins s σ H x y v u Q I rx ry h;obtain⟨a,b,xs,ys,rfl,rfl,ha,hb,hx,hz,q1,q2⟩:=h;cases rx;cases ry;obtain⟨its,r1,p1,_⟩:=I.tuple ha;obtain⟨its2,r2,p2,_⟩:=I.tuple hb;refine HT.Gr p1 p2 (λz=>hx (r1.qI.mp z)) (λz=>⟨.ref a,H,I,rfl,q1 (r2.qI.mp z)⟩) (λz=>?_) (by rw[<-r1.length,<-r2.length];exact hz);refine⟨.ref s.heap.objs.size,_,I.laid (t':=s.toks) (o:=.tup (xs++ys)) (λb ob q=>eV _ q) (vn _) ?_,rfl,q2 (λw=>z (r2.qI.mpr w)) _ (I.hok.fresh (vn _))⟩;exact⟨by rw[Qn];exact hz,_,r1.append r2,IsTup.new _ _⟩
end
noncomputable def dg(n:Nat)(i:Int):Option Nat:=if 0<=i then (if i<n then some i.toNat else none)else if -(n:Int)<=i then some (i+n).toNat else none
noncomputable def bz{α:Type}(xs:List α)(i:Int):Option α:=(dg xs.length i).bind λj=>xs[j]?
def Gx{n:Nat}{i:Int}{j:Nat}(h:dg n i=some j):seqIndex? i n=some j/\j<n/\-(n:Int)<=i/\i<n:=by
 unfold dg at h;by_cases h0:0<=i
 .rw[cS h0]at h;by_cases h1:i<n
  .rw[cS h1]at h;have e:i.toNat=j:=kI h;exact⟨by rw[seqIndex_of h0 h1,e],by omega,by omega,h1⟩
  .rw[Qm h1]at h;cases h
 .rw[Qm h0]at h;by_cases h1:-(n:Int)<=i
  .rw[cS h1]at h;have e:(i+n).toNat=j:=kI h;exact⟨by rw[seqIndex_neg (by omega) h1,e],by omega,h1,by omega⟩
  .rw[Qm h1]at h;cases h
def qJ{α:Type}{xs:List α}{i:Int}{v:α}(h:bz xs i=some v):∃j,seqIndex? i xs.length=some j/\xs[j]?=some v/\j<xs.length/\-(xs.length:Int)<=i/\i<xs.length:=by
 unfold bz at h;cases e:dg xs.length i with
 |none=>rw[e]at h;cases h
 |some j=>
  rw[e]at h;obtain⟨h1,h2,h3,h4⟩:=Gx e;exact⟨j,h1,h,h2,h3,h4⟩
def wj{α:Type}{xs:List α}{j:Nat}{v:α}(h:xs[j]?=some v):bz xs (j:Int)=some v:=by
 have hj:j<xs.length:=(List.getElem?_eq_some_iff.mp h).1;have e:dg xs.length (j:Int)=some j:=by
  unfold dg;rw[cS (by omega),cS (by omega)];simp
 unfold bz;rw[e];exact h
noncomputable def nB(b:Expr):Prop:=∀o i,subscripted b false o i=operate [o,i] (getItem o i)
noncomputable def wk(X:Cx)(r:R2):Prop:=
 ∀(value slice:Expr) (pins:List (Addr×Obj)) (s:Shared) (σ:St) (H:Hp) (x y:V) (v u:Value) (Q:VK),Inv X pins σ H s->RelV x v->RelV y u->r x y H Q->
  subscripted slice false v u=operate [v,u] (getItem v u)->wpAny (model X.prog X.w) X.A (subscriptTail value slice v u) (EP X pins σ Q) X.xe s
noncomputable def wm(X:Cx)(id:String)(r:V->List V->Hp->VK->Prop):Prop:=
 ∀(pins:List (Addr×Obj)) (s:Shared) (σ:St) (H:Hp) (x:V) (xs:List V) (v:Value) (us:List Value) (Q:VK),Inv X pins σ H s->RelV x v->Vals xs us->r x xs H Q->
  wpAny (model X.prog X.w) X.A (call (.builtin id) (v :: us)) (EP X pins σ Q) X.xe s
section
variable{X:Cx}{a b:Expr}{ta tb:TE}{pos:Pos}
def yw{r:R2}(hr:wk X r)(ha:PE X a ta)(hb:PE X b tb)(hs:nB b):PE X (.Subscript a b pos) (Ad r ta tb):=by
 intro pins s σ H Q I h;exact Subscript_ (Ce ha hb I h λv u s2 x y H2 I2 rx ry q=>hr a b pins s2 σ H2 x y v u Q I2 rx ry q (hs _ _))
noncomputable def QZ(K:PySem.W.Frag):R2:=λx y H Q=>∃p xs i v,x=.ref p/\y=.int i/\fE K H p xs/\bz xs i=some v/\Q v H
noncomputable def Q0(K:PySem.W.Frag):R2:=λx y H Q=>∃p xs i v,x=.ref p/\y=.int i/\dU K H p xs/\bz xs i=some v/\Q v H
noncomputable def Q2:R2:=λx y H Q=>∃z i c,x=.str z/\y=.int i/\z.length<=sizeLine/\bz z.cps.toList i=some c/\Q (.str ⟨#[c]⟩) H
def wo:wk X (QZ X.K):=by
 intro value slice pins s σ H x y v u Q I rx ry h hs;obtain⟨p,xs,i,z,rfl,rfl,hq,he,q⟩:=h;cases rx;obtain⟨t,rfl⟩:=ry;obtain⟨its,r,pl,hz⟩:=I.list hq;obtain⟨j,h1,h2,h3,h4,h5⟩:=qJ he;obtain⟨w,ew,rw'⟩:=r.get h2;have hl:=r.length;have hn:=j9;have fin:EP X pins σ Q w s:=⟨z,H,I,rw',q⟩
 by_cases h0:0<=i
 .have hj:i.toNat=j:=by
   rw[seqIndex_of h0 h5]at h1;exact kI h1
  exact item_listR pl.isList h0 (by omega) (by rw[hj];simpa using ew) fin hs
 .have hj:(i+(its.toArray.size:Int)).toNat=j:=by
   rw[seqIndex_neg (by omega) h4]at h1;rw[zA,<-hl];exact kI h1
  exact subscriptTail_builtinR (x:=w) pl.isList.typeIs slot_list_getitem.lookup
   (wpAny_getItem_list_neg (Q:=λr s'=>r=w/\EP X pins σ Q r s') pl.isList (by omega) (by rw[zA]<;>omega) (by omega) (by rw[hj];simpa using ew) ⟨rfl,fin⟩) hs
def Jl:wk X (Q0 X.K):=by
 intro value slice pins s σ H x y v u Q I rx ry h hs;obtain⟨p,xs,i,z,rfl,rfl,hq,he,q⟩:=h;cases rx;obtain⟨t,rfl⟩:=ry;obtain⟨its,r,pl,hz⟩:=I.tuple hq;obtain⟨j,h1,h2,h3,h4,h5⟩:=qJ he;obtain⟨w,ew,rw'⟩:=r.get h2;have hl:=r.length;have hn:=j9;have fin:EP X pins σ Q w s:=⟨z,H,I,rw',q⟩
 exact subscriptTail_builtinR (x:=w) pl.typeIs slot_tuple_getitem.lookup
  (getItem_tuple (j:=j) (Q:=λr s'=>r=w/\EP X pins σ Q r s') pl (by omega) (by omega) (by rw[zA,<-hl];exact h1) (by simpa using ew) ⟨rfl,fin⟩) hs
def Jm:wk X Q2:=by
 intro value slice pins s σ H x y v u Q I rx ry h hs;obtain⟨z,i,c,rfl,rfl,hz,he,q⟩:=h;obtain⟨t,rfl⟩:=rx;obtain⟨t',rfl⟩:=ry;obtain⟨j,h1,h2,h3,h4,h5⟩:=qJ he;have hl:z.cps.toList.length=z.length:=by simp[Str.length]
 rw[hl]at h1 h4 h5;have hn:=j9;exact tail_any (typeIs_str s z t) slot_str_getitem.lookup (getItem_str (c:=c) (by
  have e1:decide (i < -(2 ^ 63:Int))=false:=Vy (by omega);have e2:decide (i≥2 ^ 63)=false:=Vy (by omega);rw[e1,e2,Bool.or_false]) (by rw[h1];simpa using h2) ⟨.str ⟨#[c]⟩,H,I.tok _,⟨_,rfl⟩,q⟩) hs
def tW(lo hi:Option Int)(n:Nat):(sliceBounds lo hi none n).1=((HT.aN n 0 lo:Nat):Int)/\(sliceBounds lo hi none n).2.1=((HT.aN n n hi:Nat):Int)/\(sliceBounds lo hi none n).2.2=1:=by
 refine⟨?_,?_,rfl⟩
 .cases lo with
  |none=>simp[sliceBounds,HT.aN]
  |some i=>
   simp only[sliceBounds,HT.aN,YR,show(1:Int) > 0 by decide,VI];by_cases h:i<0
   .simp only[h,VI]<;>omega
   .simp only[h,Wb]<;>omega
 .cases hi with
  |none=>simp[sliceBounds,HT.aN]
  |some i=>
   simp only[sliceBounds,HT.aN,YR,show(1:Int) > 0 by decide,VI];by_cases h:i<0
   .simp only[h,VI]<;>omega
   .simp only[h,Wb]<;>omega
def sS(its:List Value)(lo hi:Option Int):slicePick its.toArray lo hi none=((its.drop (HT.aN its.length 0 lo)).take (HT.aN its.length its.length hi - HT.aN its.length 0 lo)).toArray:=by
 obtain⟨h1,h2,h3⟩:=tW lo hi its.toArray.size;unfold slicePick;rw[h1,h2,h3];simp only[sliceRange_one,pick_run,zA]<;>rfl
noncomputable def Q3(K:PySem.W.Frag):V->Option Int->Option Int->Hp->VK->Prop:=λx lo hi H Q=>∃a xs,x=.ref a/\fE K H a xs/\∀p,H p=none->Q (.ref p) (upd H p (.lst (mh xs lo hi)))
def Gy:ki X (Q3 X.K):=by
 intro pins s σ H x v vl vu lo hi sl Q I rx hs pl pu h;obtain⟨a,xs,rfl,hx,q⟩:=h;cases rx;obtain⟨its,r,ht,hz⟩:=I.list hx;have hlen:=r.length;refine⟨"list",_,slot_list_getitem.lookup,ht.isList.typeIs,?_⟩;refine wpAny_getItem_list_slice ht.isList hs pl pu .none (by simp) ?_ (by rw[zA]<;>omega);rw[sS,<-hlen];refine⟨.ref s.heap.objs.size,_,I.laid (t':=s.toks) (o:=.lst (mh xs lo hi)) (λb ob q=>eV _ q) (vn _) ?_,rfl,q _ (I.hok.fresh (vn _))⟩;exact⟨VE (nX xs lo hi) hz,_,0,(r.drop (HT.aN xs.length 0 lo)).take (HT.aN xs.length xs.length hi - HT.aN xs.length 0 lo),RB _ rfl⟩
noncomputable def sY:V->Bool
 |.aG=>true
 |.bl _=>true
 |.int _=>true
 |.str _=>true
 |_=>false
def mj:ny X (.builtin "len") (λxs H Q=>∃p ys,xs=[.ref p]/\(fE X.K H p ys\/dU X.K H p ys)/\Q (.int ys.length) H):=by
 intro pins s σ H xs us Q I r h;obtain⟨p,ys,rfl,hq,q⟩:=h;obtain⟨u,rfl,rx⟩:=vals1 r;cases rx;have hn:=j9;rcases hq with hq|hq
 .obtain⟨its,r',pl,hz⟩:=I.list hq;have hlen:=r'.length;exact Calls.call_len_list pl.isList (by simp only[zA]<;>omega) ⟨.int ys.length,H,I.tok _,⟨s.toks+1,by rw[zA,hlen]⟩,q⟩
 .obtain⟨its,r',pl,hz⟩:=I.tuple hq;have hlen:=r'.length;exact len_tuple pl (by simp only[zA]<;>omega) ⟨.int ys.length,H,I.tok _,⟨s.toks+1,by rw[zA,hlen]⟩,q⟩
def tY:ny X (.builtin "len") (λxs H Q=>∃z,xs=[.str z]/\z.length<=sizeLine/\Q (.int z.length) H):=by
 intro pins s σ H xs us Q I r h;obtain⟨z,rfl,hz,q⟩:=h;obtain⟨u,rfl,t,rfl⟩:=vals1 r;have hn:=j9;exact WA (by omega) ⟨.int z.length,H,I.tok _,⟨_,rfl⟩,q⟩
noncomputable def ED(K:PySem.W.Frag)(T:String)(x:V)(H:Hp):Prop:=match x with
 |.str _=>T = "str"
 |.int _=>T = "int"
 |.ref p=>(T = "list" /\∃xs,fE K H p xs)\/(T = "tuple" /\∃o,K.lookup p=some o/\o.cls=.type "tuple" /\o.dict=none)\/
   (T = "dict" /\((∃kvs,H p=some (.dK kvs))\/∃kvs,H p=some (.dT kvs)))\/(T = "set" /\∃S n,H p=some (.set S n))
 |_=>False
def Jo{pins:List (Addr×Obj)}{σ:St}{H:Hp}{s:Shared}{T:String}{x:V}{v:Value}(I:Inv X pins σ H s)(r:RelV x v)(ty:ED X.K T x H) :
  s.TypeIs v T/\∀a,v=.ref a->∃ob,s.heap.get? a=some ob/\ob.dict=none:=by
 cases x with
 |str z=>
  obtain⟨t,rfl⟩:=r;cases (show T = "str" from ty);exact⟨typeIs_str s z t,λ_ e=>nomatch e⟩
 |int i=>
  obtain⟨t,rfl⟩:=r;cases (show T = "int" from ty);exact⟨XQ s i t,λ_ e=>nomatch e⟩
 |ref p=>
  cases r;rcases ty with ⟨rfl,xs,hq⟩|⟨rfl,o,hk,hc,hd⟩|⟨rfl,hk⟩|⟨rfl,S,n,hk⟩
  .obtain⟨its,_,pl,_⟩:=I.list hq;refine⟨pl.isList.typeIs,λa e=>?_⟩;cases e;obtain⟨o,n,e,c,hd,_⟩:=pl;exact⟨o,e,hd⟩
  .refine⟨⟨o,I.jb p o hk,hc⟩,λa e=>?_⟩;cases e;exact⟨o,I.jb _ o hk,hd⟩
  .have z:∃o,s.heap.get? p=some o/\o.ExactDict:=by
    rcases hk with ⟨kvs,hk⟩|⟨kvs,hk⟩
    .obtain⟨_,_,_,_,o,_,_,e,ex,_⟩:=I.hok p _ hk;exact⟨o,e,ex⟩
    .obtain⟨_,_,_,_,o,_,_,e,ex,_⟩:=I.hok p _ hk;exact⟨o,e,ex⟩
   obtain⟨o,e,ex⟩:=z;refine⟨⟨o,e,ex.1⟩,λa e2=>?_⟩;cases e2;exact⟨o,e,ex.2.1⟩
  .obtain⟨o,_,_,_,e,ex,_⟩:=I.hok p _ hk;refine⟨⟨o,e,ex.1⟩,λa e2=>?_⟩;cases e2;exact⟨o,e,ex.2.1⟩
 |_=>exact False.elim ty
noncomputable def SA(K:PySem.W.Frag)(T:String)(r:V->List V->Hp->VK->Prop)(to:TE)(t:TA):TE:=λσ H Q=>to σ H λx H1=>ED K T x H1/\t σ H1 λxs H2=>r x xs H2 Q
variable{o e:Expr}{es:List Expr}{to:TE}{t:TA}{name:Str}{apos cpos:Pos}{T id:String}{r:V->List V->Hp->VK->Prop}
def ND (pa:PlainAttrs T) (slot:Slot T name id) (hty:typeOf (.builtin id)=pure (.type "method_descriptor")) (hm:wm X id r) (ho:PE X o to) (ha:PA X (e :: es) t)
  (hbase:attributeBase o name X.env (eval o X.env)=eval o X.env:=by rfl)
  (hfew:((backTo cpos (starEach (e :: es) X.env)).all (λx=>!x.1)&&(backToKw cpos (keywordEach [] X.env)).all (λx=>x.1.isSome)
   &&decide ((e :: es).length+([]:List Keyword).length+(if ([]:List Keyword).isEmpty then 0 else 1)<30))=true:=by rfl)
  (hline:(apos.endLine==cpos.line)=true:=by rfl) (hs:starEach (e :: es) X.env=(false,eval e X.env) :: starEach es X.env:=by rfl) (hplain:(backTo cpos (starEach es X.env)).any (·.1)=false:=by rfl) :
  PE X (.Call (.Attribute o name apos) (e :: es) [] cpos) (SA X.K T r to t):=by
 intro pins s σ H Q I h;refine Xc hbase hfew hline rfl (bU (ho pins s σ H _ I h) λv s1 ⟨x,H1,I1,r1,ty,q1⟩=>?_);obtain⟨h1,h2⟩:=Jo I1 r1 ty;refine⟨T,id,pa,slot,hty,h1,h2,?_⟩;have hA:=ha cpos pins s1 σ H1 _ I1 q1;rw[hs]at hA ⊢;refine Calls.callWith_builtin (by show(false || (backTo cpos (starEach es X.env)).any (·.1))=false;rw[hplain]<;>rfl) (Calls.evalArgs_plain ?_);exact bU hA λus s2 ⟨vs,H2,I2,r2,q2⟩=>hm pins s2 σ H2 x vs v us Q I2 r1 r2 q2
end
noncomputable def Pp(X:Cx)(id:String)(r:V->List V->Hp->VK->Prop):Prop:=
 ∀(pins:List (Addr×Obj)) (s:Shared) (σ:St) (H:Hp) (x:V) (xs:List V) (v:Value) (us:List Value) (Q:VK),Inv X pins σ H s->RelV x v->Vals xs us->r x xs H Q->
  wpAny (model X.prog X.w) X.A (call (.builtin id) (v :: us)) (EP X pins σ Q) X.xe s
def Vals.one:∀{x:V}{us:List Value},Vals [x] us->∃u,us=[u]/\RelV x u
 |_,_,.cons r .nil=>⟨_,rfl,r⟩
theorem Vals.rep{xs:List V}{us:List Value}(h:Vals xs us):∀k:Nat,Vals (List.replicate k xs).flatten (List.replicate k us).flatten
 |0=>.nil
 |k+1=>by
  rw[Uj,Uj,Wg,Wg];exact Vals.append h (Vals.rep h k)
theorem foldl_rep(its:List Value):∀(k:Nat) (acc:List Value),
  List.foldl (λx1 x2=>x1++x2) acc.toArray (List.replicate k its.toArray)=(acc++(List.replicate k its).flatten).toArray
 |0,acc=>by simp
 |k+1,acc=>by
  have e:acc.toArray++its.toArray=(acc++its).toArray:=by simp
  have e2:(acc++its)++(List.replicate k its).flatten=acc++(List.replicate (k+1) its).flatten:=by
   rw[Uj,Wg,VN]
  rw[<-e2,<-foldl_rep its k (acc++its),<-e,Uj,Wd]
section
variable{X:Cx}{pins:List (Addr×Obj)}{σ:St}{H:Hp}{s:Shared}{l:Addr}{xs ys:List V}
def Inv.Jp{its its':List Value}{n:Nat}{f:Array Value->Array Value}{t':Nat}(I:Inv X pins σ H s)(hH:H l=some (.lst xs))
  (e:s.heap.get? l=some { cls:=.type "list",data:=.seq its.toArray n }) (hf:f its.toArray=its'.toArray) (hv:Vals ys its') (hz:ys.length<=sizeLine) :
  Inv X pins σ (upd H l (.lst ys)) { s with heap:=s.heap.update l (Obj.mapSeq f),toks:=t' }:=by
 have q:=PySem.IsL.update e f;rw[hf]at q;refine I.write (x:=l) (e:=l) (by rw[hH];exact trivial) (.inl rfl) (λb' u hb hu=>(Wn s.heap (Obj.mapSeq f) (WB hb)).trans hu) ⟨_,q⟩ ?_;exact⟨hz,its',_,hv,q⟩
def Inv.Cm{its:List Value}{t':Nat}(I:Inv X pins σ H s)(hv:Vals ys its)(hz:ys.length<=sizeLine) :
  Inv X pins σ (upd H s.heap.objs.size (.lst ys)) { s with heap:=s.heap.push { cls:=.type "list",data:=.seq its.toArray },toks:=t' }:=
 I.laid (λ_ _ q=>eV _ q) (vn _) ⟨hz,its,0,hv,RB _ rfl⟩
theorem Inv.fresh(I:Inv X pins σ H s):H s.heap.objs.size=none:=I.hok.fresh (vn _)
def Inv.mq (I:Inv X pins σ H s) (hH:H l=some (.lst xs)):xs.length<=sizeLine/\∃(its:List Value) (n:Nat),Vals xs its/\xs.length=its.length/\s.heap.get? l=some { cls:=.type "list",data:=.seq its.toArray n }:=by
 obtain⟨z,its,n,r,e⟩:=I.hok l _ hH;exact⟨z,its,n,r,r.length,e⟩
def tZ{n:Nat}(h:n<=sizeLine):Builtin.List.listTooLong n=false:=by
 unfold Builtin.List.listTooLong;exact Vy (by omega)
end
section
variable{X:Cx}
noncomputable def Gz:V->List V->Hp->VK->Prop:=λx vs H Q=>∃l xs y,x=.ref l/\vs=[y]/\H l=some (.lst xs)/\xs.length<sizeLine/\Q .aG (upd H l (.lst (xs++[y])))
def rS:Pp X "list.append" Gz:=by
 intro pins s σ H x vs v us Q I rx rv h;obtain⟨l,xs,y,rfl,rfl,hH,hz,q⟩:=h;cases rx;obtain⟨u,rfl,ru⟩:=rv.one;obtain⟨z,its,n,r,hl,e⟩:=I.mq hH;refine WK F.slot_list_append ⟨_,e,rfl⟩ F.entry_list_append (F.args_list_append_2 _ _) (PySem.list_append l its.toArray n u (by rw[zA];omega)) ⟨e,?_⟩;refine⟨.aG,_,I.Jp (its':=its++[u]) hH e (by simp) (r.append (.cons ru .nil)) ?_,rfl,q⟩;rw[Qn,Ws];omega
noncomputable def GA:V->List V->Hp->VK->Prop:=λx vs H Q=>∃l b xs zs,x=.ref l/\vs=[.ref b]/\H l=some (.lst xs)/\H b=some (.lst zs)/\xs.length+zs.length<=sizeLine/\Q .aG (upd H l (.lst (xs++zs)))
def Ah:Pp X "list.extend" GA:=by
 intro pins s σ H x vs v us Q I rx rv h;obtain⟨l,b,xs,zs,rfl,rfl,hH,hB,hz,q⟩:=h;cases rx;obtain⟨u,rfl,ru⟩:=rv.one;cases ru;obtain⟨z,its,n,r,hl,e⟩:=I.mq hH;obtain⟨z2,its2,n2,r2,hl2,e2⟩:=I.mq hB;have hsz:its.toArray.size+its2.toArray.size<=sizeLine:=by rw[zA,zA];omega
 have yx:¬ (!its.toArray.isEmpty&&Builtin.List.listTooLong (its.toArray.size+its2.toArray.size))=true:=by
  rw[tZ hsz,Bool.and_false];exact VB
 refine WK F.slot_list_extend ⟨_,e,rfl⟩ F.entry_list_extend (F.args_list_extend_2 _ _)
  (AutoSeq1.list_extend_list_list_0 l its.toArray n b its2.toArray n2 yx (by rw[zA];omega) (by omega)) ⟨e,e2,?_⟩
 refine⟨.aG,_,I.Jp (its':=its++its2) hH e (by simp) (r.append r2) ?_,rfl,q⟩;rw[Qn];omega
noncomputable def Q4:R2:=λx y H Q=>∃l b xs zs,x=.ref l/\y=.ref b/\H l=some (.lst xs)/\H b=some (.lst zs)/\xs.length+zs.length<=sizeLine/\∀p,H p=none->Q (.ref p) (upd H p (.lst (xs++zs)))
def Jq:dN X (binaryOp .Add) Q4:=by
 intro pins s σ H x y v u Q I rx ry h;obtain⟨l,b,xs,zs,rfl,rfl,hH,hB,hz,q⟩:=h;cases rx;cases ry;obtain⟨z,its,n,r,hl,e⟩:=I.mq hH;obtain⟨z2,its2,n2,r2,hl2,e2⟩:=I.mq hB;refine PySem.P.add_list e e2 ?_ (by rw[zA,zA];omega);have ea:its.toArray++its2.toArray=(its++its2).toArray:=by simp
 rw[ea];exact⟨.ref _,_,I.Cm (t':=s.toks) (r.append r2) (by rw[Qn];omega),rfl,q _ I.fresh⟩
noncomputable def Q5:R2:=λx y H Q=>∃l k xs,x=.ref l/\y=.int k/\H l=some (.lst xs)/\-(2 ^ 63)<=k/\k<2 ^ 63/\xs.length*k.toNat<=sizeLine/\
 ∀p,H p=none->Q (.ref p) (upd H p (.lst (List.replicate k.toNat xs).flatten))
def len_rep{α:Type}(xs:List α)(k:Nat):(List.replicate k xs).flatten.length=k*xs.length:=by
 induction k with
 |zero=>simp
 |succ k ih=>rw[Uj,Wg,Qn,ih,Nat.succ_mul,YH]
def Jr:dN X (binaryOp .Mult) Q5:=by
 intro pins s σ H x y v u Q I rx ry h;obtain⟨l,k,xs,rfl,rfl,hH,h1,h2,hz,q⟩:=h;cases rx;obtain⟨t,rfl⟩:=ry;obtain⟨z,its,n,r,hl,e⟩:=I.mq hH;have hlen:its.toArray.size*k.toNat<=sizeLine:=by rw[zA,<-hl];exact hz
 have hcap:¬ its.toArray.size*k.toNat > (2 ^ 63 - 1) / 8:=by
  have:(sizeLine:Nat)<=(2 ^ 63 - 1) / 8:=by decide
  omega
 have hfit:¬ (!Builtin.List.listFitsIndex k)=true:=by
  rw[fitsIndex_both h1 h2];exact VB
 have yx:¬ Builtin.List.listTooLong (its.toArray.size*k.toNat)=true:=by
  rw[tZ hlen];exact VB
 have hnew:List.foldl (λx1 x2=>x1++x2) #[] (List.replicate (if its.toArray.isEmpty=true then 0 else k.toNat) its.toArray)=(List.replicate k.toNat its).flatten.toArray:=by
  have f0:∀m:Nat,List.foldl (λx1 x2=>x1++x2) #[] (List.replicate m its.toArray)=(List.replicate m its).flatten.toArray:=λm=>by
   have:=foldl_rep its m [];rw[YY]at this;exact this
  rw[f0];cases its with
  |nil=>simp
  |cons a r'=>rw[Qm (by simp)]
 refine XT (T:="list") (U:="int") (by decide) ⟨_,e,rfl⟩ (λs'=>XQ s' k t) noFill_list_mul F.fills_int_mul F.slot_int_rmul repeat_list F.slot_int_index.lookup
  (WK F.slot_int_rmul (XQ s k t) F.entry_int_rmul (F.args_int_rmul_2 _ _) (int___rmul___int_list k t l its.toArray n)
   ⟨e,rfl,⟨_,e,rfl⟩,WK F.slot_list_mul ⟨_,e,rfl⟩ F.entry_list_mul (F.args_list_mul_2 _ _) (AutoListH.list___mul___list_int_3 l its.toArray n k t hfit hcap yx) ⟨e,?_⟩⟩)
 rw[hnew];exact⟨.ref _,_,I.Cm (t':=s.toks) (r.rep k.toNat) (by rw[len_rep,Nat.mul_comm];exact hz),rfl,q _ I.fresh⟩
end
end L2
namespace Pq
open PySem PySem.W PySem.Calls PyProof.Rows
def pQ{P:Params}{h:Heap}:∀(ns:List Int) (vs:List Value),WellAll P h vs (ns.map WData.int)->IntsAre vs ns:=by
 intro ns;induction ns with
 |nil=>
  intro vs w;rw[YI]at w;cases w;exact .nil
 |cons n ns ih=>
  intro vs w;rw[VO]at w;cases w with
  |cons a b=>
   cases a;exact .cons _ _ (ih _ b)
def Ai{l:OpenLaw}{n:Nat}(hn:l.most=some n){P:Params}{h:Heap}{args:List WData}{vals:List Value}
  (hpre:l.row.toRowW.claim.pre args=true) (hwl:WellAll P h vals args) :
  ∃a vs ns,vals=[Value.ref a]/\args=[WData.list (ns.map WData.int)]/\h.get? a=some { cls:=.type "list",data:=.seq vs.toArray }/\IntsAre vs ns/\ns.length<=n:=by
 have hsh:WShape.hasAll [] args [.list .int]=true:=(pre_splitW hpre).1;have hc:l.pre.holds [] { args:=args }=true:=(pre_splitW hpre).2;obtain⟨d,r,rfl,h1,h2⟩:=hasAllW_cons hsh;obtain rfl:=hasAllW_nil h2;obtain⟨xs,rfl,h3⟩:=hasW_list h1;obtain⟨ns,rfl⟩:=items_int h3;have hlen:ns.length<=n:=by
  unfold OpenLaw.pre at hc;have h4:(WTm.not (.lt (.lit (.int (n:Int))) (.len (.arg 0)))).holds [] { args:=[.list (ns.map .int)]}=true:=by
   have h4:=(holds_andW hc).1;rw[hn]at h4;exact h4
  have h5:=condW_of h4 (w_not (w_lt w_lit (w_len_list (w_arg rfl))));rw[VL]at h5;refine Nat.le_of_not_lt λq=>?_;have q':(n:Int)<((ns.length:Nat):Int):=by omega
  first
   | (rw[VJ q']at h5;exact absurd h5 (by decide))
   | (simp at h5;omega)
 cases hwl with
 |cons w1 w2=>
  cases w2;cases w1 with
  |list ho hall=>exact⟨_,_,ns,rfl,rfl,ho,pQ ns _ hall,hlen⟩
def Aj(l:OpenLaw)(args:List WData):l.row.toRowW.claim.post args (.bool true) args=true:=
 postW_of (r:=l.row.toRowW) (X:=(true==true))
  (show WShape.has [] (.bool true) .bool=true by first|rfl|decide|simp[WShape.has,WShape.arms,WShape.armsAll])
  (show(WTm.eq .res (.lit (.bool true))).value [] { args:=args,res:=some (.bool true),after:=args }=some (.bool (true==true))from w_eq_bool (w_res rfl) w_lit) rfl
def vF{l:OpenLaw}{n:Nat}{q:Program}{loose:List Str}{XP:(Str->Option Value)->Heap->Prop}{YP:World->Heap->Prop}{d:DefRec}
  (hn:l.most=some n) (hdf:d.params.defaults=[])
  (call:∀(w:World) (s₀ s₁:Shared) (mg mb:Str->Option Value) (fa:Addr) (o:Obj) (pm cd doc:Value) (a:Addr) (vs:List Value) (ns:List Int),
   Ground q loose [] XP w s₀ mg mb s₁.heap->YP w s₁.heap->
   s₁.heap.get? fa=some o->o.data=.func (docDef d.name d.params d.body d.scope pm cd doc)->s₁.heap.CodeRec cd d.name->mg d.name=some (.ref fa)->
   s₁.heap.get? a=some { cls:=.type "list",data:=.seq vs.toArray }->IntsAre vs ns->ns.length<=n->s₁.gens = #[]->
   codeAny (model l.prog w) callerA (.call (.ref fa) ⟨[.ref a],[]⟩) (λr s'=>r=.ok (.ret (.bool true))/\OldK s₁.heap s'.heap/\s'.os=s₁.os/\AllBare s'.gens) s₁) :
  WalkO q loose XP YP l.row.toRowW d [] (λf vs=>PySem.call f vs):=by
 intro w s₀ s₁ mg mb G Y fa o pm cd doc dV kV ho hd hcd hD hmg hg args vals as hpre hlay hrd hwl hlo;obtain rfl:dV=.none:=Dflts.none hD hdf;obtain rfl:kV=.none:=Dflts.noKw hD;obtain⟨a,vs,ns,rfl,rfl,hobj,hints,hlen⟩:=Ai hn hpre hwl;refine enter_call (Wo (call w s₀ s₁ mg mb fa o pm cd doc a vs ns G Y ho (fd_plain hd) hcd hmg hobj hints hlen hg) λr s' hq=>?_);obtain⟨rfl,h2,h3,h4⟩:=hq;exact⟨.inl ⟨.bool true,.bool true,[],rfl,λ_=>rfl,.bool true,Aj l _,λ_=>⟨List.Pairwise.nil,λ_ hm=>(nomatch hm)⟩⟩,h2,h3,h4⟩
end Pq
namespace L2
open PySem PySem.Spec PyProof.Rows
theorem rT:∀{vs:List Value}{ns:List Int},IntsAre vs ns->Vals (ns.map V.int) vs
 |_,_,.nil=>.nil
 |_,_,.cons n t h=>.cons ⟨t,rfl⟩ (rT h)
noncomputable def qK(H:Hp):Prop:=∀b,H b=none\/∃o xs,H b=some (.bX o (.lst xs))
def Cn{P:Program}{w:World}{K:PySem.W.Frag}{mg mb:Str->Option Value}{CX:kh}{k:Nat}{fa a:Addr}{fd:FuncData}{x:Str}{sp:Sp}{s₁:Shared}{vs:List Value}{ns:List Int}
  (KX:K.In s₁.heap) (hns:s₁.heap.Ns mainGlobals mg) (hb:s₁.heap.Ns builtinsNs mb) (Js:∀x:Str,x≠"__name__" ->mb x=bootBuiltins x) (hlim:s₁.heap.NoLimit) (hg:s₁.gens = #[])
  (ha:s₁.heap.get? a=some { cls:=.type "list",data:=.seq vs.toArray }) (hi:IntsAre vs ns) (hl:ns.length<=sizeLine) (hr:gO k callerA)
  (F:∀base:Heap,K.In base->base.Ns mainGlobals mg->fK P w K mg base CX k fa fd [x] sp) (hbind:∀(s:Shared) (u:Value),BindsTo s fd ⟨[u],[]⟩ [(x,u)])
  (g6:∀H:Hp,qK H->fE K H a (ns.map V.int)->sp [.ref a] H (λv _=>v=.bl true) λ_ _ _=>False)
  (Ak:∀H e s',CX [] H s₁ (λ_ _ _=>False) e s'->False) :
  codeAny (model P w) callerA (.call (.ref fa) ⟨[.ref a],[]⟩) (λr s'=>r=.ok (.ret (.bool true))/\OldK s₁.heap s'.heap/\s'.os=s₁.os/\AllBare s'.gens) s₁:=by
 have rv:=rT hi;have Q6:=hi.length;have core:∀H:Hp,qK H->fE K H a (ns.map V.int)->eX P w H s₁.heap->(∀b,H b≠none->b=a)->(H a≠none->K.lookup a=none)->
   codeAny (model P w) callerA (.call (.ref fa) ⟨[.ref a],[]⟩) (λr s'=>r=.ok (.ret (.bool true))/\OldK s₁.heap s'.heap/\s'.os=s₁.os/\AllBare s'.gens) s₁:=by
  intro H hO hS hok hA hK;have wu:∀{b:Addr} {o:Obj},s₁.heap.get? b=some o->H b=none->(kN s₁.heap H).get? b=some o:=λe n=>B6 e n;have Ag:∀{b:Addr} {o:Obj} {es:Array DictEntry} {ep:Nat},s₁.heap.get? b=some o->o.data=.dict es ep->H b=none:=λ{b o es ep} e d=>by
   cases q:H b with
   |none=>rfl
   |some u=>
    have e':b=a:=hA b (by rw[q];simp);subst e';rw[ha]at e;cases e;have d':Data.seq vs.toArray _=Data.dict es ep:=d;cases d'
  have EE:∀{b:Addr} {m:Str->Option Value},s₁.heap.Ns b m->(kN s₁.heap H).Ns b m:=λ{b m} ⟨o,es,ep,e,d,r⟩=>⟨o,es,ep,wu e (Ag e d),d,r⟩
  have Pr:K.In (kN s₁.heap H):=λb o e=>wu (KX b o e) (by
   cases q:H b with
   |none=>rfl
   |some u=>
    have e':b=a:=hA b (by rw[q];simp);subst e';rw[hK (by rw[q];simp)]at e;cases e)
  have hM:Mod K mg (kN s₁.heap H):=⟨Pr,EE hns,⟨mb,EE hb,Js⟩,let ⟨mc,h1,h2⟩:=hlim;⟨mc,EE h1,h2⟩⟩
  have e0:qH P w K mg (kN s₁.heap H) callerA [] s₁ H:=⟨rfl,hM,λb o e=>Gb e,Nat.le_of_eq (zU _ _),trivial,λb hb=>absurd (show b∈([]:List Addr)from hb) (by simp),hok,.of_eq hg⟩
  refine Wo ((F _ Pr (EE hns)).run callerA [] s₁ H ⟨[.ref a],[]⟩ [.ref a] [.ref a] _ _ hr e0 (hbind s₁ (.ref a)) (.cons rfl .nil) (g6 H hO hS)) λr s' h=>?_;cases r with
  |error e=>exact(Ak H e s' h).elim
  |ok fl=>
   cases fl with
   |next=>exact False.elim h
   |brk=>exact False.elim h
   |cont=>exact False.elim h
   |ret u=>
    obtain⟨v,H',os,bare,un,Q7,r',q⟩:=h;have q':v=.bl true:=q;subst q';obtain rfl:u=Value.bool true:=r';refine⟨rfl,OldK.of_keep λb o e=>?_,os,bare⟩;cases q:H b with
    |none=>exact un.keep b o e q (by intro z;exact absurd (show b∈([]:List Addr)from z) (by simp)) (by simp)
    |some u=>
     rcases hO b with z|⟨ob,xs,z⟩
     .rw[q]at z;cases z
     .have z2:=un.jx b ob _ z;obtain⟨e1,_⟩:=hok b _ z;obtain⟨e2,_⟩:=Q7 b _ z2;rw[e]at e1;cases e1;exact e2
 cases hk:K.lookup a with
 |some o=>
  have e:=KX a o hk;rw[ha]at e;cases e;refine core (λ_=>none) (λ_=>.inl rfl) (.inr ⟨_,vs.toArray,_,hk,rfl,rfl,rfl,by rw[zA,Q6];exact hl,by simpa using rv⟩) (λb u z=>by have z':(none:Option HO)=some u:=z;cases z') (λb z=>absurd rfl z) λz=>absurd rfl z
 |none=>
  refine core (λb=>if b=a then some (.bX { cls:=.type "list",data:=.seq vs.toArray } (.lst (ns.map V.int)))else none) (λb=>?_) (.inl (.inr ⟨{ cls:=.type "list",data:=.seq vs.toArray },cS rfl⟩)) (λb u z=>?_) (λb z=>?_) λ_=>hk
  .by_cases hb:b=a
   .exact .inr ⟨_,_,cS hb⟩
   .exact .inl (Qm hb)
  .by_cases hb:b=a
   .have z':=(cS hb).symm.trans z;cases z';subst hb;exact⟨ha,by rw[VL];exact hl,vs,_,rv,ha⟩
   .have z':=(Qm hb).symm.trans z;cases z'
  .by_cases hb:b=a
   .exact hb
   .exact absurd (Qm hb) z
def GB{l:PySem.W.OpenLaw}{n k:Nat}{q:Program}{loose:List Str}{XP:(Str->Option Value)->Heap->Prop}{YP:World->Heap->Prop}{d:DefRec}{K:Params->PySem.W.Frag}{CX:World->kh}{sp:World->Sp}{x:Str}
  (hn:l.most=some n) (hn2:n<=sizeLine) (hdf:d.params.defaults=[]) (hr:gO k callerA)
  (hY:∀(w:World) (h:Heap),YP w h->(K w.params).In h)
  (F:∀(w:World) (mg:Str->Option Value) (fa:Addr) (h:Heap),(K w.params).In h->h.Ns mainGlobals mg->mg d.name=some (.ref fa)->
   ∃fd:FuncData,(∀(s:Shared) (u:Value),BindsTo s fd ⟨[u],[]⟩ [(x,u)])/\
    ∀base:Heap,(K w.params).In base->base.Ns mainGlobals mg->fK l.prog w (K w.params) mg base (CX w) k fa fd [x] (sp w))
  (g6:∀(w:World) (H:Hp) (a:Addr) (ns:List Int),ns.length<=n->qK H->fE (K w.params) H a (ns.map V.int)->sp w [.ref a] H (λv _=>v=.bl true) λ_ _ _=>False)
  (Ak:∀(w:World) (H:Hp) (s:Shared) (e:Value) (s':Shared),CX w [] H s (λ_ _ _=>False) e s'->False) :
  PySem.W.WalkO q loose XP YP l.row.toRowW d [] (λf vs=>PySem.call f vs):=by
 refine Pq.vF hn hdf λw s₀ s₁ mg mb fa o pm cd doc a vs ns G Y ho hd hcd hmg hobj hints hlen hg=>?_;have KX:=hY w _ Y;obtain⟨fd,hb,hF⟩:=F w mg fa _ KX G.T.g hmg;exact Cn KX G.T.g G.T.b G.T.builtins G.T.nolimit hg hobj hints (VE hlen hn2) hr hF hb (λH hO hS=>g6 w H a ns hlen hO hS) λH e s'=>Ak w H s₁ e s'
def Co{l:PySem.W.OpenLaw}{n k:Nat}{q:Program}{loose:List Str}{XP:(Str->Option Value)->Heap->Prop}{YP:World->Heap->Prop}{d:DefRec}{K:Params->PySem.W.Frag}{CX:kh}{sp:PySem.W.Frag->Sp}{x:Str}
  (hn:l.most=some n) (hn2:n<=sizeLine) (hdf:d.params.defaults=[]) (hr:gO k callerA)
  (hY:∀(w:World) (h:Heap),YP w h->(K w.params).In h)
  (F:∀(w:World) (mg:Str->Option Value) (fa:Addr) (h:Heap),(K w.params).In h->h.Ns mainGlobals mg->mg d.name=some (.ref fa)->
   ∃fd:FuncData,(∀(s:Shared) (u:Value),BindsTo s fd ⟨[u],[]⟩ [(x,u)])/\
    ∀base:Heap,(K w.params).In base->base.Ns mainGlobals mg->fK l.prog w (K w.params) mg base CX k fa fd [x] (sp (K w.params)))
  (g6:∀(K:PySem.W.Frag) (H:Hp) (a:Addr) (ns:List Int),ns.length<=n->qK H->fE K H a (ns.map V.int)->sp K [.ref a] H (λv _=>v=.bl true) λ_ _ _=>False)
  (Ak:∀(H:Hp) (s:Shared) (e:Value) (s':Shared),CX [] H s (λ_ _ _=>False) e s'->False) :
  PySem.W.WalkO q loose XP YP l.row.toRowW d [] (λf vs=>PySem.call f vs):=
 GB (K:=K) (CX:=λ_=>CX) (sp:=λw=>sp (K w.params)) hn hn2 hdf hr hY F (λw H a ns h1 h2 h3=>g6 (K w.params) H a ns h1 h2 h3) λ_ H s e s'=>Ak H s e s'
noncomputable def nC(s:Stmt):Arguments:=match s with
 |.FunctionDef _ a _ _ _ _ _ _ _ _=>a
 |_=>{ posonlyargs:=[],args:=[],vararg:=none,kwonlyargs:=[],kw_defaults:=[],kwarg:=none,defaults:=[]}
noncomputable def cE(s:Stmt):List Stmt:=match s with
 |.FunctionDef _ _ b _ _ _ _ _ _ _=>b
 |_=>[]
noncomputable def aB(s:Stmt):Scope:=match s with
 |.FunctionDef _ _ _ _ _ _ sc _ _ _=>sc
 |_=>{ kind:=.function,names:=[],isGenerator:=false,isCoroutine:=false }
abbrev jd:kh:=λ_ _ _ _ _ _=>False
abbrev E0:XK:=λ_ _ _=>False
def NF{X:Cx}:Passes jd X E0:=λ_ _ _ _ _ _ _ h=>h.elim
structure mC(K:PySem.W.Frag)(x qual:Str)(st:Stmt)(f:Addr)(fd:FuncData):Prop where
 ex:∃(oc:Value) (od:Option Addr) (kV doc pm:Value) (an:Option Addr) (cdv ct:Value) (osl:Array (Option Value)),
  fd=PySem.W.fnOf x qual (nC st) (cE st) (aB st) .none kV doc pm an cdv ct/\K.lookup f=some ⟨oc,od,.func fd,osl⟩/\PySem.W.codeIn K cdv qual=true
 kp:PySem.W.keepIn K (.ref f)=true
section
variable{P:Program}{w:World}{K:PySem.W.Frag}{mg:Str->Option Value}{base:Heap}
def mC.ok{x qual:Str}{st:Stmt}{f:Addr}{fd:FuncData}{N ps:List Str}{k:Nat}{sp:Sp}(F:mC K x qual st f fd)(S:bG N ps (aB st))(len:∀vs H Q E,sp vs H Q E->vs.length=ps.length)
  (hbody:∀(cdv:Value) (A:Around) (outer:List Env) (s:Shared) (H:Hp) (vs:List V) (Q:VK) (E:XK),gO k (A.deeper (envOfC qual (aB st) s.heap.objs.size f cdv))->sp vs H Q E->
   ∃t,eY (iW jd P w K mg base N qual (aB st) f cdv A outer s H E).dB (cE st) t/\t { nx:=λ_ H'=>Q .aG H',rt:=Q } (start N vs) H):fK P w K mg base jd (k+1) f fd ps sp:=by
 obtain⟨oc,od,kV,doc,pm,an,cdv,ct,osl,rfl,lk,hcd⟩:=F.ex;refine EC lk hcd S len λA outer s H vs Q E hr g6=>?_;obtain⟨t,h,q⟩:=hbody cdv A outer s H vs Q E hr g6;exact⟨t,h.dB,q⟩
def mC.binds{x qual:Str}{st:Stmt}{f:Addr}{fd:FuncData}{ps:List Str}(F:mC K x qual st f fd)
  (h:∀(kV doc pm:Value) (an:Option Addr) (cdv ct:Value) (us:List Value),us.length=ps.length->bindArgs (PySem.W.fnOf x qual (nC st) (cE st) (aB st) .none kV doc pm an cdv ct) ⟨us,[]⟩=pure (ps.zip us)):Binds K fd ps []:=by
 obtain⟨oc,od,kV,doc,pm,an,cdv,ct,osl,rfl,lk,hcd⟩:=F.ex;exact .all (h kV doc pm an cdv ct)
def cO{x qual:Str}{st:Stmt}{f:Addr}{oc:Value}{od an:Option Addr}{osl:Array (Option Value)}{kV doc pm cdv ct:Value}(l:K.lookup f=some ⟨oc,od,.func (PySem.W.fnOf x qual (nC st) (cE st) (aB st) .none kV doc pm an cdv ct),osl⟩)
  (c:PySem.W.codeIn K cdv qual=true) (k:PySem.W.keepIn K (.ref f)=true):mC K x qual st f (PySem.W.fnOf x qual (nC st) (cE st) (aB st) .none kV doc pm an cdv ct):=⟨⟨oc,od,kV,doc,pm,an,cdv,ct,osl,rfl,l,c⟩,k⟩
end
section
variable{X:Cx}
def pv (i:Nat) {x:Str}{pos:Pos}(hN:X.N[i]?=some x:=by rfl) (hv:rL X.env.scope x:=by first|exact Or.inl rfl|exact Or.inr (Or.inl rfl)|exact Or.inr (Or.inr rfl)) (hd:(x==("__debug__" : Str))=false:=by decide)
  (hcd:(x==("__classdict__" : Str))=false:=by decide):PE X (.Name x pos) (B7 i):=lV hN hv hd hcd
end
end L2
namespace Ev
inductive D where
 |aG|bl (b:Bool)|int (i:Int)|str (s:List Nat)|tup (ds:List D)|ref (n:Nat)
inductive O where
 |lst (ds:List D)|bX (ds:List D)
abbrev Hh:=List O
abbrev Fr:=List (Option D)
inductive R(α:Type) where
 |ok (a:α) (h:Hh)
 |bad
noncomputable def R.bind{α β:Type}(r:R α)(f:α->Hh->R β):R β:=
 match r with
 |.ok a h=>f a h
 |.bad=>.bad
@[simp] theorem ao{α β:Type}(a:α)(h:Hh)(f:α->Hh->R β):(R.ok a h).bind f=f a h:=rfl
@[simp] theorem Cp{α β:Type}(f:α->Hh->R β):(R.bad:R α).bind f=.bad:=rfl
def ah{α β:Type}{r:R α}{f:α->Hh->R β}{b:β}{h:Hh}(e:r.bind f=.ok b h):∃a h1,r=.ok a h1/\f a h1=.ok b h:=by
 cases r with
 |ok a h1=>exact⟨a,h1,rfl,e⟩
 |bad=>cases e
noncomputable def R.of{α:Type}(o:Option α)(h:Hh):R α:=match o with
 |some a=>.ok a h
 |none=>.bad
@[simp] theorem dG{α:Type}(a:α)(h:Hh):R.of (some a) h=.ok a h:=rfl
@[simp] theorem of_none{α:Type}(h:Hh):R.of (none:Option α) h=.bad:=rfl
def aL{α:Type}{o:Option α}{h h':Hh}{a:α}(e:R.of o h=.ok a h'):o=some a/\h'=h:=by
 cases o with
 |none=>cases e
 |some b=>cases e;exact⟨rfl,rfl⟩
inductive aU where
 |add|sub|mul|fdiv|mod
inductive aR where
 |eq|ne|lt|gt
 |isin|kQ
 |Jt|jX
inductive TY where
 |int|bool|str|tuple|list
inductive BI where
 |len|sum|min
 |jM
inductive ME where
 |join|append|extend|pop
 |count|index
inductive T where
 |one (i:Nat)|many (l:List Nat)
mutual
inductive E where
 |c (d:D)|v (i:Nat)|tup (es:Es)|lst (es:Es)
 |bin (o:aU) (a b:E)|cmp (o:aR) (a b:E)
 |nt (a:E)|neg (a:E)|an (a b:E)|orr (a b:E)|fV (t a b:E)
 |ix (a b:E)|sl (a:E) (lo hi:Eo)
 |cl (f:Nat) (es:Es)|bi (b:BI) (es:Es)|me (m:ME) (o:E) (es:Es)
 |comp (elt:E) (t:T) (it:It) (cond:Eo)
 |je (it:It)
 |iX (kvs:List (D×D)) (a:E)|jN (a:E)
inductive Es where
 |nil|cons (e:E) (es:Es)
inductive Eo where
 |no|yes (e:E)
inductive It where
 |seq (e:E)|fU (es:Es)
 |enum (a:E)|rev (a:E)
end
mutual
inductive S where
 |set (i:Nat) (e:E)|iH (l:List Nat) (e:E)
 |exp (e:E)|ret (e:E)|iff (t:E) (a b:Ss)|for (t:T) (it:It) (b:Ss)|mD (t:E) (b:Ss)
 |pass|brk|cnt
 |eO (c:Nat)
 |tr (f k:Nat) (es:Es)
inductive Ss where
 |nil|cons (s:S) (ss:Ss)
end
inductive Fl where
 |nx|bk|ct|ret (d:D)
noncomputable def big:Nat:=16777216
noncomputable def cG(f:D->D->Option Bool):List D->List D->Option Bool
 |[],[]=>some true
 |x :: xs,y :: ys=>do
  let b <-f x y
  let c <-cG f xs ys
  pure (b&&c)
 |_,_=>some false
noncomputable def aY(h:Hh)(n:Nat):Option (List D):=match h[n]? with
 |some (.lst ds)=>some ds
 |some (.bX ds)=>some ds
 |_=>none
noncomputable def b2i(b:Bool):Int:=if b then 1 else 0
noncomputable def jA(h:Hh)(f:D->D->Option Bool)(a b:Nat):Option Bool:=if a=b then (aY h a).map λ_=>true else match h[a]?,h[b]? with
 |some (.lst x),some (.lst y)=>cG f x y
 |some (.bX x),some (.lst y)=>cG f x y
 |some (.lst x),some (.bX y)=>cG f x y
 |_,_=>none
noncomputable def eH(h:Hh):Nat->D->D->Option Bool
 |0,_,_=>none
 |_+1,.aG,.aG=>some true
 |_+1,.bl a,.bl b=>some (a==b)
 |_+1,.int a,.int b=>some (a==b)
 |_+1,.bl a,.int b=>some (b2i a==b)
 |_+1,.int a,.bl b=>some (a==b2i b)
 |_+1,.str a,.str b=>some (a==b)
 |n+1,.tup a,.tup b=>cG (eH h n) a b
 |n+1,.ref a,.ref b=>jA h (eH h n) a b
 |_+1,.ref a,_=>(aY h a).map λ_=>false
 |_+1,_,.ref a=>(aY h a).map λ_=>false
 |_+1,_,_=>some false
noncomputable def deep:Nat:=20
noncomputable def truthy(h:Hh):D->Option Bool
 |.aG=>some false
 |.bl b=>some b
 |.int i=>some (i != 0)
 |.str s=>some (!s.isEmpty)
 |.tup ds=>some (!ds.isEmpty)
 |.ref n=>match h[n]? with
  |_=>(aY h n).map λds=>!ds.isEmpty
noncomputable def alloc(ds:List D)(h:Hh):R D:=if ds.length<=big then .ok (.ref h.length) (h++[.lst ds])else .bad
noncomputable def rep{α:Type}(k:Nat)(l:List α):List α:=(List.replicate k l).flatten
noncomputable def bE(i j:Int):Bool:=(decide (-(2 ^ 64)<i)&&decide (i<2 ^ 64)) || (decide (-(2 ^ 64)<j)&&decide (j<2 ^ 64))
noncomputable def bH:aU->D->D->Hh->R D
 |.add,.int i,.int j,h=>.ok (.int (i+j)) h
 |.add,.str a,.str b,h=>if a.length+b.length<=big then .ok (.str (a++b)) h else .bad
 |.add,.tup a,.tup b,h=>if a.length+b.length<=big then .ok (.tup (a++b)) h else .bad
 |.add,.ref a,.ref b,h=>match h[a]?,h[b]? with
  |some (.lst x),some (.lst y)=>alloc (x++y) h
  |_,_=>.bad
 |.sub,.int i,.int j,h=>.ok (.int (i - j)) h
 |.mul,.int i,.int j,h=>if bE i j then .ok (.int (i*j)) h else .bad
 |.mul,.str a,.int k,h=>if 0<=k/\k<=1000/\a.length<=1000 then .ok (.str (rep k.toNat a)) h else .bad
 |.mul,.tup a,.int k,h=>if 0<=k/\k<=1000/\a.length<=1000 then .ok (.tup (rep k.toNat a)) h else .bad
 |.mul,.ref a,.int k,h=>match h[a]? with
  |some (.lst x)=>if 0<=k/\k<=1000/\x.length<=1000 then alloc (rep k.toNat x) h else .bad
  |_=>.bad
 |.fdiv,.int i,.int j,h=>if 0<j/\j<1073741824 then .ok (.int (i / j)) h else .bad
 |.mod,.int i,.int j,h=>if 0<j then .ok (.int (i % j)) h else .bad
 |_,_,_,_=>.bad
noncomputable def mem(h:Hh)(x:D):List D->Option Bool
 |[]=>some false
 |y :: ys=>do
  let b <-eH h deep y x
  let c <-mem h x ys
  pure (b ||c)
noncomputable def isin(x y:D)(h:Hh):Option Bool:=match y with
 |.str s=>match x with
  |.str [c]=>some (s.contains c)
  |_=>none
 |.tup ds=>mem h x ds
 |.ref n=>(aY h n).bind λds=>mem h x ds
 |_=>none
noncomputable def cop(o:aR)(x y:D)(h:Hh):Option Bool:=match o,x,y with
 |.eq,x,y=>eH h deep x y
 |.ne,x,y=>(eH h deep x y).map (!·)
 |.lt,.int i,.int j=>some (decide (i<j))
 |.gt,.int i,.int j=>some (decide (j<i))
 |.isin,x,y=>isin x y h
 |.kQ,x,y=>(isin x y h).map (!·)
 |.Jt,x,.aG=>some (match x with|.aG=>true|_=>false)
 |.jX,x,.aG=>some (match x with|.aG=>false|_=>true)
 |_,_,_=>none
noncomputable def dg(n:Nat)(i:Int):Option Nat:=if 0<=i then (if i<n then some i.toNat else none)else if -(n:Int)<=i then some (i+n).toNat else none
noncomputable def bz{α:Type}(xs:List α)(i:Int):Option α:=(dg xs.length i).bind λj=>xs[j]?
noncomputable def fW(x y:D)(h:Hh):Option D:=match x,y with
 |.tup ds,.int i=>bz ds i
 |.str s,.int i=>(bz s i).map λc=>.str [c]
 |.ref n,.int i=>(aY h n).bind λds=>bz ds i
 |_,_=>none
noncomputable def aN(n d:Nat):Option Int->Nat
 |none=>d
 |some v=>if v<0 then (v+n).toNat else min v.toNat n
noncomputable def cut{α:Type}(xs:List α)(lo hi:Option Int):List α:=(xs.drop (aN xs.length 0 lo)).take (aN xs.length xs.length hi - aN xs.length 0 lo)
noncomputable def fN(x:D)(lo hi:Option Int)(h:Hh):R D:=match x with
 |.tup ds=>.ok (.tup (cut ds lo hi)) h
 |.str s=>.ok (.str (cut s lo hi)) h
 |.ref n=>match aY h n with
  |some ds=>alloc (cut ds lo hi) h
  |none=>.bad
 |_=>.bad
noncomputable def boolsOf:List D->Option (List Bool)
 |[]=>some []
 |.bl b :: ds=>(boolsOf ds).map λr=>b :: r
 |_=>none
noncomputable def intsOf:List D->Option (List Int)
 |[]=>some []
 |.int i :: ds=>(intsOf ds).map λr=>i :: r
 |_=>none
noncomputable def strsOf:List D->Option (List (List Nat))
 |[]=>some []
 |.str s :: ds=>(strsOf ds).map λr=>s :: r
 |_=>none
noncomputable def bO(sep:List Nat):List (List Nat)->List Nat
 |[]=>[]
 |[s]=>s
 |s :: t :: r=>s++sep++bO sep (t :: r)
noncomputable def lexLe:List Nat->List Nat->Bool
 |[],_=>true
 |_ :: _,[]=>false
 |x :: xs,y :: ys=>if x=y then lexLe xs ys else decide (x<y)
noncomputable def kR(x:List Nat):List (List Nat)->List (List Nat)
 |[]=>[x]
 |y :: ys=>if lexLe x y then x :: y :: ys else y :: kR x ys
noncomputable def bu:List (List Nat)->List (List Nat)
 |[]=>[]
 |x :: xs=>kR x (bu xs)
noncomputable def dd{α:Type}[DecidableEq α](l:List α):List α:=l.foldl (λa k=>if k∈a then a else a++[k]) []
noncomputable def dO(b:BI)(xs:List D)(h:Hh):R D:=match b,xs with
 |.len,[.str s]=>if s.length<=big then .ok (.int s.length) h else .bad
 |.len,[.tup ds]=>.ok (.int ds.length) h
 |.len,[.ref n]=>R.of ((aY h n).map λds=>.int ds.length) h
 |.sum,[.ref n]=>R.of (((aY h n).bind intsOf).map λis=>.int is.sum) h
 |.min,[.int i,.int j]=>.ok (.int (if j<i then j else i)) h
 |.jM,[.ref n]=>match (aY h n).bind strsOf with
  |some ss=>if ss.length<4095/\(dd ss).length<64 then alloc ((bu (dd ss)).map .str) h else .bad
  |none=>.bad
 |_,_=>.bad
noncomputable def idx(h:Hh)(x:D):List D->Nat->Option Nat
 |[],_=>none
 |y :: ys,k=>match eH h deep y x with
  |some true=>some k
  |some false=>idx h x ys (k+1)
  |none=>none
noncomputable def cnt(h:Hh)(x:D):List D->Option Nat
 |[]=>some 0
 |y :: ys=>do
  let b <-eH h deep y x
  let k <-cnt h x ys
  pure (if b then k+1 else k)
noncomputable def eZ(m:ME)(o:D)(xs:List D)(h:Hh):R D:=match m,o,xs with
 |.join,.str sep,[.ref n]=>match (aY h n).bind strsOf with
  |some ss=>if (ss.map (·.length)).sum+ss.length*sep.length<=big then .ok (.str (bO sep ss)) h else .bad
  |none=>.bad
 |.append,.ref n,[x]=>match h[n]? with
  |some (.lst ds)=>if ds.length<big then .ok .aG (h.set n (.lst (ds++[x])))else .bad
  |_=>.bad
 |.extend,.ref n,[.ref m]=>match h[n]?,h[m]? with
  |some (.lst ds),some (.lst es)=>if ds.length+es.length<=big then .ok .aG (h.set n (.lst (ds++es)))else .bad
  |_,_=>.bad
 |.pop,.ref n,[]=>match h[n]? with
  |some (.lst ds)=>match ds[ds.length - 1]? with
   |some x=>.ok x (h.set n (.lst ds.dropLast))
   |none=>.bad
  |_=>.bad
 |.count,.ref n,[.str t]=>R.of (((aY h n).bind (cnt h (.str t))).map λ(k:Nat)=>.int k) h
 |.index,.ref n,[x]=>R.of (((aY h n).bind λds=>idx h x ds 0).map λ(k:Nat)=>.int k) h
 |_,_,_=>.bad
noncomputable def kj(m:ME)(x:D)(h:Hh):Bool:=match m,x with
 |.join,.str _=>true
 |.join,_=>false
 |_,.ref n=>(aY h n).isSome
 |_,_=>false
noncomputable def g7(x:D):List (D×D)->Option D
 |[]=>none
 | (k,v) :: r=>match eH [] 1 k x with
  |some true=>some v
  |some false=>g7 x r
  |none=>none
abbrev Src:=List D×List (Nat×List D)
noncomputable def gk(h:Hh):D->Option Src
 |.tup ds=>some (ds,[])
 |.str s=>some (s.map λc=>.str [c],[])
 |.ref n=>(aY h n).map λds=>(ds,[(n,ds)])
 |_=>none
noncomputable def range(lo:Int)(n:Nat):List D:=(List.range n).map λ(i:Nat)=>.int (lo+i)
noncomputable def e8:List D->Option Src
 |[.int j]=>if -(2 ^ 62)<=j/\j<2 ^ 62 then some (range 0 j.toNat,[])else none
 |[.int i,.int j]=>if -(2 ^ 62)<=i/\i<2 ^ 62/\-(2 ^ 62)<=j/\j<2 ^ 62 then some (range i (j - i).toNat,[])else none
 |_=>none
noncomputable def gF:Int->List D->List D
 |_,[]=>[]
 |k,x :: xs=>.tup [.int k,x] :: gF (k+1) xs
noncomputable def yy(a b:List D):Bool:=@decide (a=b) (Classical.propDecidable _)
def rU(a b:List D):yy a b=true↔a=b:=@decide_eq_true_iff _ (Classical.propDecidable _)
@[simp] theorem yz(a:List D):yy a a=true:=(rU a a).mpr rfl
noncomputable def stays(h:Hh):List (Nat×List D)->Bool
 |[]=>true
 | (n,ds) :: r=>(match aY h n with|some es=>yy es ds|none=>false)&&stays h r
noncomputable def cP:List Nat->List D->Fr->Option Fr
 |[],[],fr=>some fr
 |i :: is,d :: ds,fr=>cP is ds (fr.set i (some d))
 |_,_,_=>none
noncomputable def bw:T->D->Fr->Option Fr
 |.one i,d,fr=>some (fr.set i (some d))
 |.many l,.tup ds,fr=>cP l ds fr
 |_,_,_=>none
noncomputable def slots:T->List Nat
 |.one i=>[i]
 |.many l=>l
noncomputable def undef(t:T)(fr:Fr):Bool:=(slots t).all λi=>(fr[i]?.join).isNone
noncomputable def Ju:D->Option (List D)
 |.tup ds=>some ds
 |_=>none
noncomputable def yC:D->Hh->R D
 |.tup ds,h=>.ok (.tup ds) h
 |.ref n,h=>match aY h n with
  |some ds=>if ds.length<=big then .ok (.tup ds) h else .bad
  |none=>.bad
 |_,_=>.bad
noncomputable def Cq(h:Hh):D->Option Src
 |.ref n=>(aY h n).map λds=>(ds,[(n,ds)])
 |_=>none
noncomputable def b7(f:D->Hh->R (Option D))(ck:List (Nat×List D)):List D->Hh->R (List D)
 |[],h=>if stays h ck then .ok [] h else .bad
 |d :: ds,h=>if stays h ck then (f d h).bind λo h1=>(b7 f ck ds h1).bind λr h2=>.ok (o.toList++r) h2 else .bad
noncomputable def forL(f:D->Fr->Hh->R (Fl×Fr))(ck:List (Nat×List D)):List D->Fr->Hh->R (Fl×Fr)
 |[],fr,h=>if stays h ck then .ok (.nx,fr) h else .bad
 |d :: ds,fr,h=>if stays h ck then (f d fr h).bind λp h1=>match p.1 with
   |.nx=>forL f ck ds p.2 h1
   |.ct=>forL f ck ds p.2 h1
   |.bk=>.ok (.nx,p.2) h1
   |.ret x=>.ok (.ret x,p.2) h1
  else .bad
noncomputable def fj(t:Fr->Hh->R Bool)(f:Fr->Hh->R (Fl×Fr)):Nat->Fr->Hh->R (Fl×Fr)
 |0,_,_=>.bad
 |n+1,fr,h=>(t fr h).bind λb h1=>if b then (f fr h1).bind λp h2=>match p.1 with
   |.nx=>fj t f n p.2 h2
   |.ct=>fj t f n p.2 h2
   |.bk=>.ok (.nx,p.2) h2
   |.ret x=>.ok (.ret x,p.2) h2
  else .ok (.nx,fr) h1
abbrev aF:=Nat->List D->Hh->R D
noncomputable def intOf:D->Option Int
 |.int i=>some i
 |_=>none
mutual
noncomputable def ev(P:aF):E->Fr->Hh->R D
 |.c d,_,h=>.ok d h
 |.v i,fr,h=>R.of (fr[i]?.join) h
 |.tup es,fr,h=>(bQ P es fr h).bind λds h1=>if ds.length<=big then .ok (.tup ds) h1 else .bad
 |.lst es,fr,h=>(bQ P es fr h).bind λds h1=>alloc ds h1
 |.bin o a b,fr,h=>(ev P a fr h).bind λx h1=>(ev P b fr h1).bind λy h2=>bH o x y h2
 |.cmp o a b,fr,h=>(ev P a fr h).bind λx h1=>(ev P b fr h1).bind λy h2=>R.of ((cop o x y h2).map .bl) h2
 |.nt a,fr,h=>(ev P a fr h).bind λx h1=>match x with
   |.bl b=>.ok (.bl (!b)) h1
   |_=>.bad
 |.neg a,fr,h=>(ev P a fr h).bind λx h1=>match x with
   |.int i=>.ok (.int (-i)) h1
   |_=>.bad
 |.an a b,fr,h=>(ev P a fr h).bind λx h1=>match x with
   |.bl true=>ev P b fr h1
   |.bl false=>.ok (.bl false) h1
   |_=>.bad
 |.orr a b,fr,h=>(ev P a fr h).bind λx h1=>match x with
   |.bl true=>.ok (.bl true) h1
   |.bl false=>ev P b fr h1
   |_=>.bad
 |.fV t a b,fr,h=>(aJ P t fr h).bind λk h1=>if k then ev P a fr h1 else ev P b fr h1
 |.ix a b,fr,h=>(ev P a fr h).bind λx h1=>(ev P b fr h1).bind λy h2=>R.of (fW x y h2) h2
 |.sl a lo hi,fr,h=>(ev P a fr h).bind λx h1=>(fO P lo fr h1).bind λl h2=>(fO P hi fr h2).bind λu h3=>fN x l u h3
 |.cl f es,fr,h=>(bQ P es fr h).bind λds h1=>P f ds h1
 |.bi b es,fr,h=>(bQ P es fr h).bind λds h1=>dO b ds h1
 |.me m o es,fr,h=>(ev P o fr h).bind λx h1=>if kj m x h1 then (bQ P es fr h1).bind λds h2=>eZ m x ds h2 else .bad
 |.comp elt t it cond,fr,h=>(dD P it fr h).bind λs h1=>if undef t fr then
   (b7 (λd h2=>match bw t d fr with
    |none=>.bad
    |some aq=>(g8 P cond aq h2).bind λk h3=>if k then (ev P elt aq h3).bind λx h4=>.ok (some x) h4 else .ok none h3) s.2 s.1 h1).bind λds h2=>alloc ds h2 else .bad
 |.je it,fr,h=>(dD P it fr h).bind λs h1=>alloc s.1 h1
 |.iX kvs a,fr,h=>(ev P a fr h).bind λx h1=>R.of (g7 x kvs) h1
 |.jN a,fr,h=>(ev P a fr h).bind λx h1=>yC x h1
noncomputable def bQ(P:aF):Es->Fr->Hh->R (List D)
 |.nil,_,h=>.ok [] h
 |.cons e es,fr,h=>(ev P e fr h).bind λd h1=>(bQ P es fr h1).bind λds h2=>.ok (d :: ds) h2
noncomputable def fO(P:aF):Eo->Fr->Hh->R (Option Int)
 |.no,_,h=>.ok none h
 |.yes e,fr,h=>(ev P e fr h).bind λd h1=>R.of ((intOf d).map some) h1
noncomputable def g8(P:aF):Eo->Fr->Hh->R Bool
 |.no,_,h=>.ok true h
 |.yes e,fr,h=>aJ P e fr h
noncomputable def aJ(P:aF):E->Fr->Hh->R Bool
 |.an a b,fr,h=>(aJ P a fr h).bind λk h1=>if k then aJ P b fr h1 else .ok false h1
 |.orr a b,fr,h=>(aJ P a fr h).bind λk h1=>if k then .ok true h1 else aJ P b fr h1
 |.nt a,fr,h=>(aJ P a fr h).bind λk h1=>.ok (!k) h1
 |e,fr,h=>(ev P e fr h).bind λx h1=>R.of (truthy h1 x) h1
noncomputable def dD(P:aF):It->Fr->Hh->R Src
 |.seq e,fr,h=>(ev P e fr h).bind λx h1=>R.of (gk h1 x) h1
 |.fU es,fr,h=>(bQ P es fr h).bind λds h1=>R.of (e8 ds) h1
 |.enum a,fr,h=>(ev P a fr h).bind λx h1=>R.of ((Cq h1 x).map λs=>(gF 0 s.1,s.2)) h1
 |.rev a,fr,h=>(ev P a fr h).bind λx h1=>R.of ((Ju x).map λds=>(ds.reverse,[])) h1
end
noncomputable def xo:Nat:=1000
noncomputable def Cr(k:Nat):D->Option D
 |.int c=>if 0<=c/\c<k then some (.tup [.str [114,101,102,117,115,101,100],.int c])else none
 |_=>none
noncomputable def tryD(k:Nat):R D->R D->R D
 |.ok d h,_=>.ok d h
 |.bad,q=>q.bind λc h=>R.of (Cr k c) h
mutual
noncomputable def ex(P:aF)(w:Nat):S->Fr->Hh->R (Fl×Fr)
 |.set i e,fr,h=>(ev P e fr h).bind λx h1=>.ok (.nx,fr.set i (some x)) h1
 |.iH l e,fr,h=>(ev P e fr h).bind λx h1=>match bw (.many l) x fr with
   |some aq=>.ok (.nx,aq) h1
   |none=>.bad
 |.exp e,fr,h=>(ev P e fr h).bind λ_ h1=>.ok (.nx,fr) h1
 |.ret e,fr,h=>(ev P e fr h).bind λx h1=>.ok (.ret x,fr) h1
 |.iff t a b,fr,h=>(aJ P t fr h).bind λk h1=>if k then exs P w a fr h1 else exs P w b fr h1
 |.for t it b,fr,h=>(dD P it fr h).bind λs h1=>forL (λd aq h2=>match bw t d aq with
   |some bf=>exs P w b bf h2
   |none=>.bad) s.2 s.1 fr h1
 |.mD t b,fr,h=>fj (λaq h2=>aJ P t aq h2) (λaq h2=>exs P w b aq h2) w fr h
 |.pass,fr,h=>.ok (.nx,fr) h
 |.brk,fr,h=>.ok (.bk,fr) h
 |.cnt,fr,h=>.ok (.ct,fr) h
 |.eO _,_,_=>.bad
 |.tr f k es,fr,h=>(bQ P es fr h).bind λds h1=>(tryD k (P f ds h1) (P (f+xo) ds h1)).bind λx h2=>.ok (.ret x,fr) h2
noncomputable def exs(P:aF)(w:Nat):Ss->Fr->Hh->R (Fl×Fr)
 |.nil,fr,h=>.ok (.nx,fr) h
 |.cons s ss,fr,h=>(ex P w s fr h).bind λp h1=>match p.1 with
   |.nx=>exs P w ss p.2 h1
   |_=>.ok p h1
end
structure Fn where
 np:Nat
 ns:Nat
 body:Ss
noncomputable def dJ(fn:Fn)(ds:List D):Fr:=ds.map some++List.replicate (fn.ns - fn.np) none
noncomputable def endOf(r:R (Fl×Fr)):R D:=r.bind λp h=>match p.1 with
 |.ret d=>.ok d h
 |.nx=>.ok .aG h
 |_=>.bad
abbrev XR:=Option (Nat×Hh)
abbrev cF:=Nat->List D->Hh->XR
mutual
noncomputable def xe(P:aF)(X:cF):E->Fr->Hh->XR
 |.cl f es,fr,h=>match bQ P es fr h with
  |.ok ds h1=>X f ds h1
  |.bad=>xa P X es fr h
 |.ix a _,fr,h=>xe P X a fr h
 |.me m o es,fr,h=>match ev P o fr h with
  |.ok x h1=>if kj m x h1 then xa P X es fr h1 else none
  |.bad=>none
 |_,_,_=>none
noncomputable def xa(P:aF)(X:cF):Es->Fr->Hh->XR
 |.nil,_,_=>none
 |.cons e es,fr,h=>match ev P e fr h with
  |.ok _ h1=>xa P X es fr h1
  |.bad=>xe P X e fr h
end
noncomputable def cX(f:D->Fr->Hh->R (Fl×Fr))(g:D->Fr->Hh->XR)(ck:List (Nat×List D)):List D->Fr->Hh->XR
 |[],_,_=>none
 |d :: ds,fr,h=>if stays h ck then match f d fr h with
   |.ok (.nx,af) h1=>cX f g ck ds af h1
   |.ok (.ct,af) h1=>cX f g ck ds af h1
   |.ok _ _=>none
   |.bad=>g d fr h
  else none
noncomputable def fX(t:Fr->Hh->R Bool)(f:Fr->Hh->R (Fl×Fr))(g:Fr->Hh->XR):Nat->Fr->Hh->XR
 |0,_,_=>none
 |n+1,fr,h=>match t fr h with
  |.ok true h1=>match f fr h1 with
   |.ok (.nx,af) h2=>fX t f g n af h2
   |.ok (.ct,af) h2=>fX t f g n af h2
   |.ok _ _=>none
   |.bad=>g fr h1
  |_=>none
mutual
noncomputable def xs(P:aF)(X:cF)(w:Nat):S->Fr->Hh->XR
 |.eO c,_,h=>some (c,h)
 |.set _ e,fr,h=>xe P X e fr h
 |.exp e,fr,h=>xe P X e fr h
 |.ret e,fr,h=>xe P X e fr h
 |.iff t a b,fr,h=>match aJ P t fr h with
  |.ok k h1=>if k then xss P X w a fr h1 else xss P X w b fr h1
  |.bad=>xe P X t fr h
 |.for t it b,fr,h=>match dD P it fr h with
  |.ok s h1=>cX (λd aq h2=>match bw t d aq with|some bf=>exs P w b bf h2|none=>.bad) (λd aq h2=>match bw t d aq with|some bf=>xss P X w b bf h2|none=>none) s.2 s.1 fr h1
  |.bad=>none
 |.mD t b,fr,h=>fX (λaq h2=>aJ P t aq h2) (λaq h2=>exs P w b aq h2) (λaq h2=>xss P X w b aq h2) w fr h
 |_,_,_=>none
noncomputable def xss(P:aF)(X:cF)(w:Nat):Ss->Fr->Hh->XR
 |.nil,_,_=>none
 |.cons s ss,fr,h=>match ex P w s fr h with
  |.ok (.nx,af) h1=>xss P X w ss af h1
  |.ok _ _=>none
  |.bad=>xs P X w s fr h
end
noncomputable def lK(X:cF)(f:Nat)(ds:List D)(h:Hh):R D:=if xo<=f then (match X (f - xo) ds h with
  |some (c,h')=>.ok (.int c) h'
  |none=>.bad)else .bad
noncomputable def runs(F:List Fn)(w:Nat):Nat->aF×cF
 |0=>(λ_ _ _=>.bad,λ_ _ _=>none)
 |n+1=>
  let X:cF:=λf ds h=>match F[f]? with
   |some fn=>if ds.length=fn.np then xss (runs F w n).1 (runs F w n).2 w fn.body (dJ fn ds) h else none
   |none=>none
  (λf ds h=>match F[f]? with
   |some fn=>if ds.length=fn.np then endOf (exs (runs F w n).1 w fn.body (dJ fn ds) h)else .bad
   |none=>lK X f ds h,X)
noncomputable def run(F:List Fn)(w n:Nat):aF:=(runs F w n).1
noncomputable def bS(F:List Fn)(w n:Nat):cF:=(runs F w n).2
def fP(F:List Fn)(w n f:Nat)(ds:List D)(h:Hh):run F w (n+1) f ds h=match F[f]? with
  |some fn=>if ds.length=fn.np then endOf (exs (run F w n) w fn.body (dJ fn ds) h)else .bad
  |none=>lK (bS F w (n+1)) f ds h:=rfl
def g9(F:List Fn)(w n f:Nat)(ds:List D)(h:Hh):bS F w (n+1) f ds h=match F[f]? with
  |some fn=>if ds.length=fn.np then xss (run F w n) (bS F w n) w fn.body (dJ fn ds) h else none
  |none=>none:=rfl
mutual
noncomputable def mE(rz:List Nat):E->Bool
 |.cl f es=>!rz.contains f&&wz rz es
 |.ix a _=>mE rz a
 |.me _ _ es=>wz rz es
 |_=>true
noncomputable def wz(rz:List Nat):Es->Bool
 |.nil=>true
 |.cons e es=>mE rz e&&wz rz es
end
mutual
noncomputable def nY(rz:List Nat):S->Bool
 |.eO _=>false
 |.set _ e=>mE rz e
 |.exp e=>mE rz e
 |.ret e=>mE rz e
 |.iff t a b=>mE rz t&&(jY rz a&&jY rz b)
 |.for _ _ b=>jY rz b
 |.mD _ b=>jY rz b
 |_=>true
noncomputable def jY(rz:List Nat):Ss->Bool
 |.nil=>true
 |.cons s ss=>nY rz s&&jY rz ss
end
section
variable{P:aF}{X:cF}{w:Nat}{rz:List Nat}(hz:∀f,rz.contains f=false->∀ds h,X f ds h=none)
include hz
mutual
theorem oR:∀(e:E) {fr:Fr}{h:Hh},mE rz e=true->xe P X e fr h=none
 |.cl f es,fr,h,z=>by
  simp only[mE,gV,V1]at z;simp only[xe];split
  .exact hz f z.1 _ _
  .exact yD es z.2
 |.ix a b,fr,h,z=>by
  simp only[mE]at z;simp only[xe];exact oR a z
 |.me m o es,fr,h,z=>by
  simp only[mE]at z;simp only[xe];split
  .split
   .exact yD es z
   .rfl
  .rfl
 |.tup _,_,_,_=>rfl|.comp _ _ _ _,_,_,_=>rfl|.jN _,_,_,_=>rfl
 |.c _,_,_,_=>rfl|.v _,_,_,_=>rfl|.lst _,_,_,_=>rfl
 |.bin _ _ _,_,_,_=>rfl|.cmp _ _ _,_,_,_=>rfl
 |.nt _,_,_,_=>rfl|.neg _,_,_,_=>rfl|.an _ _,_,_,_=>rfl|.orr _ _,_,_,_=>rfl|.fV _ _ _,_,_,_=>rfl
 |.sl _ _ _,_,_,_=>rfl
 |.bi _ _,_,_,_=>rfl
 |.je _,_,_,_=>rfl
 |.iX _ _,_,_,_=>rfl
theorem yD:∀(es:Es) {fr:Fr}{h:Hh},wz rz es=true->xa P X es fr h=none
 |.nil,_,_,_=>rfl
 |.cons e es,fr,h,z=>by
  simp only[wz,gV]at z;simp only[xa];split
  .exact yD es z.2
  .exact oR e z.1
end
omit hz in
theorem mF{f:D->Fr->Hh->R (Fl×Fr)}{g:D->Fr->Hh->XR}{ck:List (Nat×List D)}(hg:∀d fr h,g d fr h=none):∀(ds:List D) (fr:Fr) (h:Hh),cX f g ck ds fr h=none
 |[],_,_=>rfl
 |d :: ds,fr,h=>by
  simp only[cX];split
  .split
   .exact mF hg ds _ _
   .exact mF hg ds _ _
   .rfl
   .exact hg _ _ _
  .rfl
omit hz in
theorem mG{t:Fr->Hh->R Bool}{f:Fr->Hh->R (Fl×Fr)}{g:Fr->Hh->XR}(hg:∀fr h,g fr h=none):∀(n:Nat) (fr:Fr) (h:Hh),fX t f g n fr h=none
 |0,_,_=>rfl
 |n+1,fr,h=>by
  simp only[fX];split
  .split
   .exact mG hg n _ _
   .exact mG hg n _ _
   .rfl
   .exact hg _ _
  .rfl
mutual
theorem Jv:∀(s:S) {fr:Fr}{h:Hh},nY rz s=true->xs P X w s fr h=none
 |.eO c,_,_,z=>by simp[nY]at z
 |.set i e,fr,h,z=>by simp only[nY]at z;simp only[xs];exact oR hz e z
 |.exp e,fr,h,z=>by simp only[nY]at z;simp only[xs];exact oR hz e z
 |.ret e,fr,h,z=>by simp only[nY]at z;simp only[xs];exact oR hz e z
 |.iff t a b,fr,h,z=>by
  simp only[nY,gV]at z;simp only[xs];split
  .split
   .exact kT a z.2.1
   .exact kT b z.2.2
  .exact oR hz t z.1
 |.for t it b,fr,h,z=>by
  simp only[nY]at z;simp only[xs];split
  .refine mF (λd fr h=>?_) _ _ _;split
   .exact kT b z
   .rfl
  .rfl
 |.mD t b,fr,h,z=>by
  simp only[nY]at z;simp only[xs];exact mG (λfr h=>kT b z) _ _ _
 |.iH _ _,_,_,_=>rfl
 |.pass,_,_,_=>rfl|.brk,_,_,_=>rfl|.cnt,_,_,_=>rfl
 |.tr _ _ _,_,_,_=>rfl
theorem kT:∀(s:Ss) {fr:Fr}{h:Hh},jY rz s=true->xss P X w s fr h=none
 |.nil,_,_,_=>rfl
 |.cons s ss,fr,h,z=>by
  simp only[jY,gV]at z;simp only[xss];split
  .exact kT ss z.2
  .rfl
  .exact Jv s z.1
end
end
noncomputable def nZ(rz:List Nat):Nat->List Fn->Bool
 |_,[]=>true
 |k,fn :: r=>(rz.contains k ||jY rz fn.body)&&nZ rz (k+1) r
theorem nZ.get{rz:List Nat}:∀{F:List Fn}{k f:Nat}{fn:Fn},nZ rz k F=true->F[f]?=some fn->rz.contains (k+f)=false->jY rz fn.body=true
 |_ :: r,k,0,fn,z,e,n=>by
  simp only[nZ,gV,V3]at z;cases e;rcases z.1 with z|z
  .rw[Nat.add_zero,z]at n;cases n
  .exact z
 |_ :: r,k,f+1,fn,z,e,n=>by
  simp only[nZ,gV]at z;exact nZ.get (F:=r) (k:=k+1) (f:=f) z.2 (by simpa using e) (by rw[show k+1+f=k+(f+1)by omega];exact n)
theorem wA{F:List Fn}{rz:List Nat}(hF:nZ rz 0 F=true)(w:Nat):∀(n f:Nat),rz.contains f=false->∀ds h,bS F w n f ds h=none
 |0,_,_,_,_=>rfl
 |n+1,f,k,ds,h=>by
  rw[g9];cases y:F[f]? with
  |none=>rfl
  |some fn=>
   simp only;split
   .exact kT (wA hF w n) _ (nZ.get hF y (by rw[Nat.zero_add];exact k))
   .rfl
section
variable{P:aF}{X:cF}{w:Nat}(hX:∀f ds h r,X f ds h=some r->P f ds h=.bad)
include hX
mutual
theorem eB:∀(e:E) {fr:Fr}{h:Hh}{r:Nat×Hh},xe P X e fr h=some r->ev P e fr h=.bad/\aJ P e fr h=.bad
 |.cl f es,fr,h,r,z=>by
  simp only[xe]at z;have q:ev P (.cl f es) fr h=.bad:=by
   rw[ev];cases y:bQ P es fr h with
   |ok ds h1=>rw[y]at z;exact hX _ _ _ _ z
   |bad=>rfl
  exact⟨q,by rw[aJ,q];rfl;all_goals (intros;contradiction)⟩
 |.ix a b,fr,h,r,z=>by
  simp only[xe]at z;have q:ev P (.ix a b) fr h=.bad:=by rw[ev,(eB a z).1];rfl
  exact⟨q,by rw[aJ,q];rfl;all_goals (intros;contradiction)⟩
 |.me m o es,fr,h,r,z=>by
  simp only[xe]at z;have q:ev P (.me m o es) fr h=.bad:=by
   rw[ev];cases y:ev P o fr h with
   |ok x h1=>
    rw[y]at z;simp only at z;split at z
    .rename_i k;simp only[ao,cS k];rw[t6 es z];rfl
    .cases z
   |bad=>rfl
  exact⟨q,by rw[aJ,q];rfl;all_goals (intros;contradiction)⟩
 |.tup _,_,_,_,z=>nomatch z|.comp _ _ _ _,_,_,_,z=>nomatch z|.jN _,_,_,_,z=>nomatch z
 |.c _,_,_,_,z=>nomatch z|.v _,_,_,_,z=>nomatch z|.lst _,_,_,_,z=>nomatch z
 |.bin _ _ _,_,_,_,z=>nomatch z|.cmp _ _ _,_,_,_,z=>nomatch z
 |.nt _,_,_,_,z=>nomatch z|.neg _,_,_,_,z=>nomatch z|.an _ _,_,_,_,z=>nomatch z|.orr _ _,_,_,_,z=>nomatch z|.fV _ _ _,_,_,_,z=>nomatch z
 |.sl _ _ _,_,_,_,z=>nomatch z
 |.bi _ _,_,_,_,z=>nomatch z
 |.je _,_,_,_,z=>nomatch z
 |.iX _ _,_,_,_,z=>nomatch z
theorem t6:∀(es:Es) {fr:Fr}{h:Hh}{r:Nat×Hh},xa P X es fr h=some r->bQ P es fr h=.bad
 |.nil,_,_,_,z=>nomatch z
 |.cons e es,fr,h,r,z=>by
  simp only[xa]at z;rw[bQ];cases y:ev P e fr h with
  |ok d h1=>rw[y]at z;simp only[ao];rw[t6 es z];rfl
  |bad=>rfl
end
omit hX in
theorem gP{f:D->Fr->Hh->R (Fl×Fr)}{g:D->Fr->Hh->XR}{ck:List (Nat×List D)}(hg:∀d fr h r,g d fr h=some r->f d fr h=.bad):∀(ds:List D) {fr:Fr}{h:Hh}{r:Nat×Hh},cX f g ck ds fr h=some r->forL f ck ds fr h=.bad
 |[],_,_,_,z=>nomatch z
 |d :: ds,fr,h,r,z=>by
  simp only[cX]at z;split at z
  case isFalse=>cases z
  rename_i k;simp only[forL,cS k];split at z
  .rename_i e;rw[e];exact gP hg ds z
  .rename_i e;rw[e];exact gP hg ds z
  .cases z
  .rw[hg _ _ _ _ z];rfl
omit hX in
theorem gQ{t:Fr->Hh->R Bool}{f:Fr->Hh->R (Fl×Fr)}{g:Fr->Hh->XR}(hg:∀fr h r,g fr h=some r->f fr h=.bad):∀(n:Nat) {fr:Fr}{h:Hh}{r:Nat×Hh},fX t f g n fr h=some r->fj t f n fr h=.bad
 |0,_,_,_,z=>nomatch z
 |n+1,fr,h,r,z=>by
  simp only[fX]at z;split at z
  case h_2=>cases z
  rename_i e0;simp only[fj,e0,ao,VI];split at z
  .rename_i e;rw[e];exact gQ hg n z
  .rename_i e;rw[e];exact gQ hg n z
  .cases z
  .rw[hg _ _ _ z];rfl
mutual
theorem mH:∀(s:S) {fr:Fr}{h:Hh}{r:Nat×Hh},xs P X w s fr h=some r->ex P w s fr h=.bad
 |.eO c,_,_,_,_=>by rw[ex]
 |.set i e,fr,h,r,z=>by rw[ex,(eB hX e z).1];rfl
 |.exp e,fr,h,r,z=>by rw[ex,(eB hX e z).1];rfl
 |.ret e,fr,h,r,z=>by rw[ex,(eB hX e z).1];rfl
 |.iff t a b,fr,h,r,z=>by
  simp only[xs]at z;rw[ex];cases y:aJ P t fr h with
  |bad=>rfl
  |ok k h1=>
   rw[y]at z;simp only at z;simp only[ao];cases k with
   |true=>exact dw a z
   |false=>exact dw b z
 |.for t it b,fr,h,r,z=>by
  simp only[xs]at z;rw[ex];cases y:dD P it fr h with
  |bad=>rfl
  |ok s h1=>
   rw[y]at z;simp only at z;simp only[ao];refine gP (λd fr h r q=>?_) _ z;cases k:bw t d fr with
   |none=>rw[k]at q
   |some bf=>rw[k]at q;exact dw b q
 |.mD t b,fr,h,r,z=>by
  simp only[xs]at z;rw[ex];exact gQ (λfr h r q=>dw b q) _ z
 |.iH _ _,_,_,_,z=>nomatch z
 |.pass,_,_,_,z=>nomatch z|.brk,_,_,_,z=>nomatch z|.cnt,_,_,_,z=>nomatch z
 |.tr _ _ _,_,_,_,z=>nomatch z
theorem dw:∀(s:Ss) {fr:Fr}{h:Hh}{r:Nat×Hh},xss P X w s fr h=some r->exs P w s fr h=.bad
 |.nil,_,_,_,z=>nomatch z
 |.cons s ss,fr,h,r,z=>by
  simp only[xss]at z;rw[exs];split at z
  .rename_i e;rw[e];exact dw ss z
  .cases z
  .rw[mH s z];rfl
end
end
theorem oS(F:List Fn)(w:Nat):∀(n f:Nat) (ds:List D) (h:Hh) (r:Nat×Hh),bS F w n f ds h=some r->run F w n f ds h=.bad
 |0,_,_,_,_,_=>rfl
 |n+1,f,ds,h,r,z=>by
  rw[g9]at z;rw[fP];cases y:F[f]? with
  |none=>rw[y]at z;cases z
  |some fn=>
   rw[y]at z;simp only at z ⊢;split at z
   .rename_i k;rw[cS k,dw (oS F w n) _ z];rfl
   .cases z
end Ev
namespace Sm
open PySem PySem.Spec PyProof.Rows L2
noncomputable def aS(l:List Nat):Str:=⟨l.toArray⟩
def cU(l:List Nat):(aS l).length=l.length:=by simp[aS,Str.length]
def nD{a b:List Nat}(h:aS a=aS b):a=b:=by
 have h1:a.toArray=b.toArray:=Vw Str.cps h;simpa using Vw Array.toList h1
def jB:Ev.big=sizeLine:=by rw[Xy];rfl
section
variable(K:PySem.W.Frag)
mutual
noncomputable def RV(H:Hp)(r:List Addr):Ev.D->V->Prop
 |.aG,v=>v=.aG
 |.bl b,v=>v=.bl b
 |.int i,v=>v=.int i
 |.str s,v=>v=.str (aS s)/\s.length<=sizeLine
 |.ref n,v=>∃a,v=.ref a/\r[n]?=some a
 |.tup ds,v=>∃a vs,v=.ref a/\dU K H a vs/\aI H r ds vs
noncomputable def aI(H:Hp)(r:List Addr):List Ev.D->List V->Prop
 |[],vs=>vs=[]
 |d :: ds,vs=>∃v w,vs=v :: w/\RV H r d v/\aI H r ds w
end
noncomputable def yE(H:Hp)(a:Addr)(vs:List V):Prop:=(∃o,H a=some (.bX o (.lst vs)))\/
 ∃(o:Obj) (its:Array Value) (n:Nat),K.lookup a=some o/\o.cls=.type "list" /\o.dict=none/\o.data=.seq its n/\its.size<=sizeLine/\Vals vs its.toList
noncomputable def RO(H:Hp)(r:List Addr):Ev.O->Addr->Prop
 |.lst ds,a=>∃vs,H a=some (.lst vs)/\aI K H r ds vs
 |.bX ds,a=>∃vs,yE K H a vs/\aI K H r ds vs
structure HR(H:Hp)(r:List Addr)(h:Ev.Hh):Prop where
 len:r.length=h.length
 ob:∀(n:Nat) o,h[n]?=some o->∃a,r[n]?=some a/\RO K H r o a
 inj:∀(n m:Nat) a x y,r[n]?=some a->r[m]?=some a->h[n]?=some (.lst x)->h[m]?=some (.lst y)->n=m
structure Fm(r r':List Addr)(H H':Hp):Prop where
 pre:∀(n:Nat) a,r[n]?=some a->r'[n]?=some a
 new:∀a∈r',a∈r\/H a=none
 keep:∀a o,H a=some o->a∉r->H' a=some o
 tups:∀a vs,dU K H a vs->dU K H' a vs
end
section
variable{K:PySem.W.Frag}{H H1 H2:Hp}{r r1 r2:List Addr}{h:Ev.Hh}
def Fm.refl:Fm K r r H H:=⟨λ_ _ e=>e,λ_ e=>.inl e,λ_ _ e _=>e,λ_ _ e=>e⟩
def Fm.trans(a:Fm K r r1 H H1)(b:Fm K r1 r2 H1 H2):Fm K r r2 H H2 where
 pre:=λn x e=>b.pre n x (a.pre n x e)
 new:=λx e=>by
  rcases b.new x e with q|q
  .exact a.new x q
  .by_cases z:x∈r
   .exact .inl z
   .refine .inr ?_;cases w:H x with
    |none=>rfl
    |some o=>rw[a.keep x o w z]at q;cases q
 keep:=λx o e n=>by
  refine b.keep x o (a.keep x o e n) λz=>?_;rcases a.new x z with q|q
  .exact n q
  .rw[e]at q;cases q
 tups:=λx vs e=>b.tups x vs (a.tups x vs e)
mutual
theorem RV.grow(f:∀(n:Nat) a,r[n]?=some a->r1[n]?=some a)(g:∀a vs,dU K H a vs->dU K H1 a vs):∀{d:Ev.D}{v:V},RV K H r d v->RV K H1 r1 d v
 |.aG,_,e=>e
 |.bl _,_,e=>e
 |.int _,_,e=>e
 |.str _,_,e=>e
 |.ref n,_,⟨a,e,z⟩=>⟨a,e,f n a z⟩
 |.tup ds,_,⟨a,vs,e,z,q⟩=>⟨a,vs,e,g a vs z,aI.grow f g q⟩
theorem aI.grow(f:∀(n:Nat) a,r[n]?=some a->r1[n]?=some a)(g:∀a vs,dU K H a vs->dU K H1 a vs):∀{ds:List Ev.D}{vs:List V},aI K H r ds vs->aI K H1 r1 ds vs
 |[],_,e=>e
 |_ :: _,_,⟨v,w,e,z,q⟩=>⟨v,w,e,RV.grow f g z,aI.grow f g q⟩
end
def RV.mono(f:Fm K r r1 H H1){d:Ev.D}{v:V}(q:RV K H r d v):RV K H1 r1 d v:=q.grow f.pre f.tups
def aI.mono(f:Fm K r r1 H H1){ds:List Ev.D}{vs:List V}(q:aI K H r ds vs):aI K H1 r1 ds vs:=q.grow f.pre f.tups
def aI.nil:aI K H r [] []:=by simp[aI]
def aI.cons{d:Ev.D}{v:V}{ds:List Ev.D}{vs:List V}(a:RV K H r d v)(b:aI K H r ds vs):aI K H r (d :: ds) (v :: vs):=by
 simp only[aI];exact⟨v,vs,rfl,a,b⟩
theorem aI.length:∀{ds:List Ev.D}{vs:List V},aI K H r ds vs->vs.length=ds.length
 |[],_,e=>by simp only[aI]at e;subst e;rfl
 |_ :: _,_,e=>by
  simp only[aI]at e;obtain⟨v,w,rfl,_,q⟩:=e;simp[aI.length q]
theorem aI.get:∀{ds:List Ev.D}{vs:List V}{i:Nat}{d:Ev.D},aI K H r ds vs->ds[i]?=some d->∃v,vs[i]?=some v/\RV K H r d v
 |[],_,_,_,_,e=>by simp at e
 |_ :: _,_,0,_,h,e=>by
  simp only[aI]at h;obtain⟨v,w,rfl,z,q⟩:=h;simp at e;subst e;exact⟨v,by simp,z⟩
 |_ :: _,_,i+1,_,h,e=>by
  simp only[aI]at h;obtain⟨v,w,rfl,z,q⟩:=h;obtain⟨u,a,b⟩:=aI.get (i:=i) q (by simpa using e);exact⟨u,by simpa using a,b⟩
theorem aI.append:∀{ds es:List Ev.D}{vs ws:List V},aI K H r ds vs->aI K H r es ws->aI K H r (ds++es) (vs++ws)
 |[],_,_,_,a,b=>by simp only[aI]at a;subst a;simpa using b
 |_ :: _,_,_,_,a,b=>by
  simp only[aI]at a;obtain⟨v,w,rfl,z,q⟩:=a;simp only[VC];exact .cons z (aI.append q b)
theorem aI.take:∀{ds:List Ev.D}{vs:List V}(n:Nat),aI K H r ds vs->aI K H r (ds.take n) (vs.take n)
 |_,_,0,_=>by simp[aI]
 |[],_,_+1,a=>by simp only[aI]at a;subst a;simp[aI]
 |_ :: _,_,n+1,a=>by
  simp only[aI]at a;obtain⟨v,w,rfl,z,q⟩:=a;simp only[WI];exact .cons z (aI.take n q)
theorem aI.drop:∀{ds:List Ev.D}{vs:List V}(n:Nat),aI K H r ds vs->aI K H r (ds.drop n) (vs.drop n)
 |_,_,0,a=>by simpa using a
 |[],_,_+1,a=>by simp only[aI]at a;subst a;simp[aI]
 |_ :: _,_,n+1,a=>by
  simp only[aI]at a;obtain⟨v,w,rfl,z,q⟩:=a;simp only[Xv];exact aI.drop n q
theorem aI.rep{ds:List Ev.D}{vs:List V}(a:aI K H r ds vs):∀k:Nat,aI K H r (Ev.rep k ds) (Ev.rep k vs)
 |0=>by simp[Ev.rep,aI]
 |k+1=>by
  have h:=aI.rep a k;simp only[Ev.rep,Uj,Wg]at h ⊢;exact a.append h
def Fm.laid{p:Addr}{o:HO}(hp:H p=none):Fm K r (r++[p]) H (upd H p o) where
 pre:=λn a e=>by rw[Mv (List.getElem?_eq_some_iff.mp e).1];exact e
 new:=λa e=>by
  rcases List.mem_append.mp e with q|q
  .exact .inl q
  .rw[V9]at q;subst q;exact .inr hp
 keep:=λa ob e _=>by rw[bB (bZ e hp)];exact e
 tups:=λa vs e=>by
  rcases e with (e|⟨ob,e⟩)|e
  .exact .inl (.inl (by rw[bB (bZ e hp)];exact e))
  .exact .inl (.inr ⟨ob,by rw[bB (bZ e hp)];exact e⟩)
  .exact .inr e
def Fm.tup{p:Addr}{o:HO}(hp:H p=none):Fm K r r H (upd H p o) where
 pre:=λn a e=>e
 new:=λa e=>.inl e
 keep:=λa ob e _=>by rw[bB (bZ e hp)];exact e
 tups:=(Fm.laid (r:=r) hp).tups
theorem RO.mono{o:Ev.O}{a:Addr}(f:Fm K r r1 H H1)(q:RO K H r o a)(hl:∀ds vs,o=.lst ds->H a=some (.lst vs)->H1 a=some (.lst vs))(hf:∀ob vs,H a=some (.bX ob vs)->H1 a=some (.bX ob vs))
  : RO K H1 r1 o a:=by
 cases o with
 |lst ds=>
  obtain⟨vs,e,z⟩:=q;exact⟨vs,hl ds vs rfl e,z.mono f⟩
 |bX ds=>
  obtain⟨vs,e,z⟩:=q;refine⟨vs,?_,z.mono f⟩;rcases e with ⟨ob,e⟩|e
  .exact .inl ⟨ob,hf _ _ e⟩
  .exact .inr e
theorem HR.tup{p:Addr}{o:HO}(hr:HR K H r h)(hp:H p=none):HR K (upd H p o) r h where
 len:=hr.len
 ob:=λn ob e=>by
  obtain⟨a,e1,q⟩:=hr.ob n ob e;exact⟨a,e1,q.mono (Fm.tup hp) (λ_ vs _ z=>by rw[bB (bZ z hp)];exact z) (λ_ _ z=>by rw[bB (bZ z hp)];exact z)
   ⟩
 inj:=hr.inj
theorem HR.lst{p:Addr}{ds:List Ev.D}{vs:List V}(hr:HR K H r h)(hp:H p=none)(q:aI K H r ds vs):HR K (upd H p (.lst vs)) (r++[p]) (h++[.lst ds]) where
 len:=by simp[hr.len]
 ob:=λn ob e=>by
  by_cases hn:n<h.length
  .rw[Mv hn]at e;obtain⟨a,e1,z⟩:=hr.ob n ob e;exact⟨a,(Fm.laid (K:=K) (o:=.lst vs) hp).pre n a e1,z.mono (Fm.laid hp) (λ_ vs _ z=>by rw[bB (bZ z hp)];exact z) (λ_ _ z=>by rw[bB (bZ z hp)];exact z)
    ⟩
  .have e2:=(List.getElem?_eq_some_iff.mp e).1;simp only[Qn,Ws]at e2;have e3:n=h.length:=by omega
   subst e3;simp at e;subst e;exact⟨p,by rw[<-hr.len];simp,vs,ez,q.mono (Fm.laid hp)⟩
 inj:=λn m a x y e1 e2 e3 e4=>by
  have out:∀(k:Nat) z,(h++[Ev.O.lst ds])[k]?=some (.lst z)->(r++[p])[k]?=some a->(k<h.length/\r[k]?=some a/\h[k]?=some (.lst z)/\a≠p)\/(k=h.length/\a=p):=λk z q1 q2=>by
   by_cases hk:k<h.length
   .rw[Mv hk]at q1;rw[Mv (by rw[hr.len];exact hk)]at q2;obtain⟨b,e5,vs',e6,_⟩:=hr.ob k _ q1;rw[q2]at e5;cases e5;exact .inl ⟨hk,q2,q1,bZ e6 hp⟩
   .have e5:=(List.getElem?_eq_some_iff.mp q1).1;simp only[Qn,Ws]at e5;have e6:k=r.length:=by rw[hr.len];omega
    subst e6;simp at q2;exact .inr ⟨hr.len,q2.symm⟩
  rcases out n x e3 e1 with ⟨h1,h2,h3,h4⟩|⟨h1,h2⟩
  .rcases out m y e4 e2 with ⟨k1,k2,k3,k4⟩|⟨k1,k2⟩
   .exact hr.inj n m a x y h2 k2 h3 k3
   .exact absurd k2 h4
  .rcases out m y e4 e2 with ⟨k1,k2,k3,k4⟩|⟨k1,k2⟩
   .exact absurd h2 k4
   .rw[h1,k1]
def HR.read{n:Nat}{ds:List Ev.D}(hr:HR K H r h)(e:Ev.aY h n=some ds):∃a vs,r[n]?=some a/\fE K H a vs/\aI K H r ds vs:=by
 unfold Ev.aY at e;split at e
 .rename_i z;cases e;obtain⟨a,e1,vs,e2,e3⟩:=hr.ob n _ z;exact⟨a,vs,e1,.inl (.inl e2),e3⟩
 .rename_i z;cases e;obtain⟨a,e1,vs,e2,e3⟩:=hr.ob n _ z;refine⟨a,vs,e1,?_,e3⟩;rcases e2 with ⟨ob,e2⟩|e2
  .exact .inl (.inr ⟨ob,e2⟩)
  .exact .inr e2
 .cases e
def Fm.write{a:Addr}{vs ws:List V}(ha:H a=some (.lst vs))(hm:a∈r):Fm K r r H (upd H a (.lst ws)) where
 pre:=λn b e=>e
 new:=λb e=>.inl e
 keep:=λb ob e n=>by rw[bB (λz=>n (by rw[z];exact hm))];exact e
 tups:=λb us e=>by
  rcases e with (e|⟨ob,e⟩)|e
  .exact .inl (.inl (by rw[bB (pL e ha (by intro z;cases z))];exact e))
  .exact .inl (.inr ⟨ob,by rw[bB (pL e ha (by intro z;cases z))];exact e⟩)
  .exact .inr e
theorem HR.write{n:Nat}{a:Addr}{ds es:List Ev.D}{vs ws:List V}(hr:HR K H r h)(hn:h[n]?=some (.lst ds))(Jw:r[n]?=some a)(ha:H a=some (.lst vs))(q:aI K H r es ws) :
  HR K (upd H a (.lst ws)) r (h.set n (.lst es)) where
 len:=by simp[hr.len]
 ob:=λm ob e=>by
  have f:=Fm.write (K:=K) (ws:=ws) ha (VD Jw);by_cases hm:m=n
  .subst hm;rw[Ei (List.getElem?_eq_some_iff.mp hn).1]at e;cases e;exact⟨a,Jw,ws,ez,q.mono f⟩
  .rw[gI (λz=>hm z.symm)]at e;obtain⟨b,e1,z⟩:=hr.ob m ob e;refine⟨b,e1,z.mono f (λSD us z3 z2=>?_) (λUA us z2=>by rw[bB (pL z2 ha (by intro z;cases z))];exact z2)
    ⟩
   by_cases hb:b=a
   .subst hb;subst z3;exact absurd (hr.inj m n b SD ds e1 Jw e hn) hm
   .rw[bB hb];exact z2
 inj:=λk m b x y e1 e2 e3 e4=>by
  have back:∀(j:Nat) z,(h.set n (Ev.O.lst es))[j]?=some (.lst z)->∃z',h[j]?=some (.lst z'):=λj z w=>by
   by_cases hj:j=n
   .subst hj;exact⟨ds,hn⟩
   .rw[gI (λz=>hj z.symm)]at w;exact⟨z,w⟩
  obtain⟨x',e5⟩:=back k x e3;obtain⟨y',e6⟩:=back m y e4;exact hr.inj k m b x' y' e1 e2 e5 e6
def ig{p:Addr}{vs ws:List V}(hp:H p=some (.lst vs)):∀a us,dU K H a us->dU K (upd H p (.lst ws)) a us:=λb us e=>by
 rcases e with (e|⟨ob,e⟩)|e
 .exact .inl (.inl (by rw[bB (pL e hp (by intro z;cases z))];exact e))
 .exact .inl (.inr ⟨ob,by rw[bB (pL e hp (by intro z;cases z))];exact e⟩)
 .exact .inr e
def HR.other{p:Addr}{vs ws:List V}(hr:HR K H r h)(hp:H p=some (.lst vs))(hn:p∉r):HR K (upd H p (.lst ws)) r h where
 len:=hr.len
 ob:=λn ob e=>by
  obtain⟨a,e1,q⟩:=hr.ob n ob e;have ha:a≠p:=λz=>hn (by rw[<-z];exact VD e1);refine⟨a,e1,?_⟩;cases ob with
  |lst ds=>
   obtain⟨us,e2,e3⟩:=q;exact⟨us,by rw[bB ha];exact e2,e3.grow (λ_ _ z=>z) (ig hp)⟩
  |bX ds=>
   obtain⟨us,e2,e3⟩:=q;refine⟨us,?_,e3.grow (λ_ _ z=>z) (ig hp)⟩;rcases e2 with ⟨o,e2⟩|e2
   .exact .inl ⟨o,by rw[bB ha];exact e2⟩
   .exact .inr e2
 inj:=hr.inj
def Fm.other{p:Addr}{vs ws:List V}(f:Fm K r r1 H H1)(h0:H p=none)(hp:H1 p=some (.lst vs)):Fm K r r1 H (upd H1 p (.lst ws)) where
 pre:=f.pre
 new:=f.new
 keep:=λa o e n=>by rw[bB (bZ e h0)];exact f.keep a o e n
 tups:=λa us e=>ig hp a us (f.tups a us e)
def Fm.kQ{p:Addr}{o:HO}(f:Fm K r r1 H H1)(hp:H p=some o)(hn:p∉r):p∉r1/\H1 p=some o:=by
 refine⟨λz=>?_,f.keep p o hp hn⟩;rcases f.new p z with q|q
 .exact hn q
 .rw[hp]at q;cases q
def HR.known{p:Addr}{ds:List Ev.D}{vs:List V}(hr:HR K H r h)(hp:H p=some (.lst vs))(hn:p∉r)(q:aI K H r ds vs):HR K H (r++[p]) (h++[.lst ds]):=by
 have pre:∀(n:Nat) a,r[n]?=some a->(r++[p])[n]?=some a:=λn a e=>by rw[Mv (List.getElem?_eq_some_iff.mp e).1];exact e
 refine⟨by simp[hr.len],λn ob e=>?_,λn m a x y e1 e2 e3 e4=>?_
  ⟩
 .by_cases hk:n<h.length
  .rw[Mv hk]at e;obtain⟨a,e1,z⟩:=hr.ob n ob e;refine⟨a,pre n a e1,?_⟩;cases ob with
   |lst ds=>obtain⟨us,e2,e3⟩:=z;exact⟨us,e2,e3.grow pre λ_ _ z=>z⟩
   |bX ds=>obtain⟨us,e2,e3⟩:=z;exact⟨us,e2,e3.grow pre λ_ _ z=>z⟩
  .have e2:=(List.getElem?_eq_some_iff.mp e).1;simp only[Qn,Ws]at e2;have e3:n=h.length:=by omega
   subst e3;simp at e;subst e;exact⟨p,by rw[<-hr.len];simp,vs,hp,q.grow pre λ_ _ z=>z⟩
 .have out:∀(k:Nat) z,(h++[Ev.O.lst ds])[k]?=some (.lst z)->(r++[p])[k]?=some a->(k<h.length/\r[k]?=some a/\h[k]?=some (.lst z)/\a≠p)\/(k=h.length/\a=p):=λk z q1 q2=>by
   by_cases hk:k<h.length
   .rw[Mv hk]at q1;rw[Mv (by rw[hr.len];exact hk)]at q2;exact .inl ⟨hk,q2,q1,λz=>hn (by rw[<-z];exact VD q2)⟩
   .have e5:=(List.getElem?_eq_some_iff.mp q1).1;simp only[Qn,Ws]at e5;have e6:k=r.length:=by rw[hr.len];omega
    subst e6;simp at q2;exact .inr ⟨hr.len,q2.symm⟩
  rcases out n x e3 e1 with ⟨h1,h2,h3,h4⟩|⟨h1,h2⟩
  .rcases out m y e4 e2 with ⟨k1,k2,k3,k4⟩|⟨k1,k2⟩
   .exact hr.inj n m a x y h2 k2 h3 k3
   .exact absurd k2 h4
  .rcases out m y e4 e2 with ⟨k1,k2,k3,k4⟩|⟨k1,k2⟩
   .exact absurd h2 k4
   .rw[h1,k1]
def Fm.known{p:Addr}(f:Fm K r r1 H H1)(h0:H p=none):Fm K r (r1++[p]) H H1 where
 pre:=λn a e=>by
  have e':=f.pre n a e;rw[Mv (List.getElem?_eq_some_iff.mp e').1];exact e'
 new:=λa e=>by
  rcases List.mem_append.mp e with q|q
  .exact f.new a q
  .rw[V9]at q;subst q;exact .inr h0
 keep:=f.keep
 tups:=f.tups
end
end Sm
namespace Sm
open PySem PySem.Spec PyProof.Rows L2
open Ev (D O Hh Fr R aF E Es Eo It T S Ss Fl Src aU aR TY BI ME)
section
variable(K:PySem.W.Frag)
noncomputable def Res(r:List Addr)(H:Hp)(h':Hh)(d:D)(Q:VK):Prop:=∀v H' r',RV K H' r' d v->HR K H' r' h'->Fm K r r' H H'->Q v H'
structure SR(m:List Nat)(H:Hp)(r:List Addr)(fr:Fr)(s:L2.St):Prop where
 len:s.length=m.length
 sl:∀(j i:Nat) d,m[j]?=some i->fr[i]?=some (some d)->∃v,s[j]?=some (some v)/\RV K H r d v
inductive tJ(m:List Nat)(P:aF)(e:E)(s:L2.St)(H:Hp)(Q:VK):Prop
 |mk (r:List Addr) (fr:Fr) (h:Hh) (d:D) (h':Hh) (c0:SR K m H r fr s) (c1:HR K H r h) (c2:Ev.ev P e fr h=.ok d h') (c3:Res K r H h' d Q):tJ m P e s H Q
inductive Jx(m:List Nat)(P:aF)(e:E)(s:L2.St)(H:Hp)(Q:Bool->Hp->Prop):Prop
 |mk (r:List Addr) (fr:Fr) (h:Hh) (k:Bool) (h':Hh) (c0:SR K m H r fr s) (c1:HR K H r h) (c2:Ev.aJ P e fr h=.ok k h') (c3:∀H' r',HR K H' r' h'->Fm K r r' H H'->Q k H'):Jx m P e s H Q
inductive Jy(m:List Nat)(P:aF)(es:Es)(s:L2.St)(H:Hp)(Q:List V->Hp->Prop):Prop
 |mk (r:List Addr) (fr:Fr) (h:Hh) (ds:List D) (h':Hh) (c0:SR K m H r fr s) (c1:HR K H r h) (c2:Ev.bQ P es fr h=.ok ds h') (c3:∀vs H' r',aI K H' r' ds vs->HR K H' r' h'->Fm K r r' H H'->Q vs H'):Jy m P es s H Q
inductive Pu(m:List Nat)(P:aF)(e:Eo)(s:L2.St)(H:Hp)(Q:Option Int->Hp->Prop):Prop
 |mk (r:List Addr) (fr:Fr) (h:Hh) (o:Option Int) (h':Hh) (c0:SR K m H r fr s) (c1:HR K H r h) (c2:Ev.fO P e fr h=.ok o h') (c3:∀H' r',HR K H' r' h'->Fm K r r' H H'->Q o H'):Pu m P e s H Q
inductive ir(f:D->D->Hh->R D)(x:V)(y:V)(H:Hp)(Q:VK):Prop
 |mk (r:List Addr) (h:Hh) (a:D) (b:D) (d:D) (h':Hh) (c0:HR K H r h) (c1:RV K H r a x) (c2:RV K H r b y) (c3:f a b h=.ok d h') (c4:Res K r H h' d Q):ir f x y H Q
inductive EF(f:List D->Hh->R D)(xs:List V)(H:Hp)(Q:VK):Prop
 |mk (r:List Addr) (h:Hh) (as:List D) (d:D) (h':Hh) (c0:HR K H r h) (c1:aI K H r as xs) (c2:f as h=.ok d h') (c3:Res K r H h' d Q):EF f xs H Q
inductive wC(f:D->List D->Hh->R D)(x:V)(xs:List V)(H:Hp)(Q:VK):Prop
 |mk (r:List Addr) (h:Hh) (a:D) (as:List D) (d:D) (h':Hh) (c0:HR K H r h) (c1:RV K H r a x) (c2:aI K H r as xs) (c3:f a as h=.ok d h') (c4:Res K r H h' d Q):wC f x xs H Q
inductive Jz  (x:V) (lo:Option Int) (hi:Option Int) (H:Hp) (Q:VK):Prop
 |mk (r:List Addr) (h:Hh) (a:D) (d:D) (h':Hh) (c0:HR K H r h) (c1:RV K H r a x) (c2:Ev.fN a lo hi h=.ok d h') (c3:Res K r H h' d Q):Jz x lo hi H Q
end
section
variable{K:PySem.W.Frag}{m:List Nat}{H H':Hp}{r r':List Addr}{fr:Fr}{s:L2.St}{h h':Hh}{d:D}{Q:VK}
theorem SR.mono(a:SR K m H r fr s)(f:Fm K r r' H H'):SR K m H' r' fr s:=⟨a.len,λj i d e1 e2=>by
 obtain⟨v,q,z⟩:=a.sl j i d e1 e2;exact⟨v,q,z.mono f⟩⟩
def Res.here{v:V}(q:Res K r H h d Q)(a:RV K H r d v)(b:HR K H r h):Q v H:=q v H r a b .refl
def Res.later(q:Res K r H h' d Q)(f:Fm K r r' H H'):Res K r' H' h' d Q:=λv H2 r2 a b g=>q v H2 r2 a b (f.trans g)
theorem Res.lst{ds:List D}{vs:List V}(q:Res K r H h' d Q)(e:Ev.alloc ds h=.ok d h')(a:aI K H r ds vs)(b:HR K H r h):vs.length<=sizeLine/\∀p,H p=none->Q (.ref p) (upd H p (.lst vs)):=by
 unfold Ev.alloc at e;split at e
 .rename_i z;cases e;refine⟨by rw[a.length,<-jB];exact z,λp hp=>?_⟩;exact q _ _ (r++[p]) ⟨p,rfl,by rw[<-b.len];simp⟩ (b.lst hp a) (.laid hp)
 .cases e
theorem Res.tup{ds:List D}{vs:List V}(q:Res K r H h (.tup ds) Q)(a:aI K H r ds vs)(b:HR K H r h){p:Addr}(hp:H p=none):Q (.ref p) (upd H p (.tup vs)):=
 q _ _ r ⟨p,vs,rfl,.of ez,a.mono (.tup hp)⟩ (b.tup hp) (.tup hp)
end
def PE.of{X:Cx}{e:Expr}{t t':TE}(h:PE X e t)(w:∀s H Q,t' s H Q->t s H Q):PE X e t':=λpins s σ H Q I q=>h pins s σ H Q I (w _ _ _ q)
def PT.of{X:Cx}{e:Expr}{t t':TT}(h:PT X e t)(w:∀s H Q,t' s H Q->t s H Q):PT X e t':=λpins s σ H Q I q=>h pins s σ H Q I (w _ _ _ q)
def PW.of{X:Cx}{e:Expr}{t t':TT}(h:PW X e t)(w:∀s H Q,t' s H Q->t s H Q):PW X e t':=λwh pins s σ H Q I q=>h wh pins s σ H Q I (w _ _ _ q)
def PA.of{X:Cx}{es:List Expr}{t t':TA}(h:PA X es t)(w:∀s H Q,t' s H Q->t s H Q):PA X es t':=λpos pins s σ H Q I q=>h pos pins s σ H Q I (w _ _ _ q)
def PO.of{X:Cx}{e:Option Expr}{t t':TO}(h:PO X e t)(w:∀s H Q,t' s H Q->t s H Q):PO X e t':=λpins s σ H Q I q=>h pins s σ H Q I (w _ _ _ q)
structure FI where
 name:Str
 addr:Addr
 fd:FuncData
 ps:List Str
noncomputable def ko(K:PySem.W.Frag)(F:List Ev.Fn)(w n f:Nat):Sp:=λvs H Q _=>∃r h ds d h',aI K H r ds vs/\HR K H r h/\Ev.run F w n f ds h=.ok d h'/\Res K r H h' d Q
noncomputable def wD(K:PySem.W.Frag)(d:D)(v:V):Prop:=∀H r,RV K H r d v
def wD.rv{K:PySem.W.Frag}{H:Hp}{r:List Addr}{d:D}{v:V}(h:wD K d v):RV K H r d v:=h H r
structure Tb where
 F:List Ev.Fn
 w:Nat
 fi:List FI
 bl:List Str
 cs:List (Str×D)
 dk:List (Str×List (D×D))
noncomputable def tabOf:List (D×D)->List (PyData×PyData)
 | (.str k,.str v) :: r=>(.str (aS k),.str (aS v)) :: tabOf r
 |_=>[]
structure Good(G:Tb)(n:Nat)(sc:Scope)(N:List Str)(df:Bool)(X:Cx):Prop where
 nm:X.N=N
 sc:X.env.scope=sc
 calm:X.calm=true
 own:df=true->∀x,X.fn x=true
 room:gO n X.A
 xe:X.xe=λ_ _=>False
 fn:∀(f:Nat) i,G.fi[f]?=some i->X.mg i.name=some (.ref i.addr)/\PySem.W.keepIn X.K (.ref i.addr)=true/\Binds X.K i.fd i.ps []/\fK X.prog X.w X.K X.mg X.base jd n i.addr i.fd i.ps (ko X.K G.F G.w n f)
 bl:∀x∈G.bl,X.mg x=none
 cs:∀x d,(x,d)∈G.cs->∃v u,X.mg x=some u/\RelV v u/\wD X.K d v
 dk:∀x kvs,(x,kvs)∈G.dk->∃a,X.mg x=some (.ref a)/\∀h:Heap,X.K.In h->StrTab X.prog X.w h a (tabOf kvs)
section
variable(G:Tb)(n:Nat)(sc:Scope)(N:List Str)(df:Bool)(m:List Nat)
noncomputable def JE(e:E)(x:Expr):Prop:=∀X,Good G n sc N df X->PE X x (tJ X.K m (Ev.run G.F G.w n) e)
noncomputable def JT(e:E)(x:Expr):Prop:=∀X,Good G n sc N df X->PT X x (Jx X.K m (Ev.run G.F G.w n) e)
noncomputable def JW(e:E)(x:Expr):Prop:=∀X,Good G n sc N df X->PW X x (Jx X.K m (Ev.run G.F G.w n) e)
noncomputable def JA(es:Es)(xs:List Expr):Prop:=∀X,Good G n sc N df X->PA X xs (Jy X.K m (Ev.run G.F G.w n) es)
noncomputable def JO(e:Eo)(x:Option Expr):Prop:=∀X,Good G n sc N df X->PO X x (Pu X.K m (Ev.run G.F G.w n) e)
end
section
variable{G:Tb}{n:Nat}{sc:Scope}{N:List Str}{df:Bool}{m:List Nat}{a b c:E}{xa xb:Expr}{pos:Pos}
def Good.vis{X:Cx}(g:Good G n sc N df X){x:Str}(h:sc.names.lookup x=some .local\/sc.names.lookup x=some .cell\/sc.names.lookup x=some .free):rL X.env.scope x:=by
 rw[g.sc];exact h
def Good.gl{X:Cx}(g:Good G n sc N df X){x:Str}(h:sc.names.lookup x=some .globalImplicit):Gl X x:=by
 unfold Gl Env.kindOf;rw[g.sc];exact h
def Q8(j i:Nat){x:Str}(hj:m[j]?=some i:=by rfl)(hN:N[j]?=some x:=by rfl)
  (hv:sc.names.lookup x=some .local\/sc.names.lookup x=some .cell\/sc.names.lookup x=some .free:=by first|exact Or.inl rfl|exact Or.inr (Or.inl rfl)|exact Or.inr (Or.inr rfl))
  (hd:(x==("__debug__" : Str))=false:=by decide) (hcd:(x==("__classdict__" : Str))=false:=by decide):JE G n sc N df m (.v i) (.Name x pos):=by
 intro X g;refine PE.of (lV (i:=j) (by rw[g.nm];exact hN) (g.vis hv) hd hcd) λs H Q q=>?_;obtain⟨r,fr,h,d,h',sr,hr,e,q⟩:=q;simp only[Ev.ev]at e;obtain⟨e2,e3⟩:=Ev.aL e;subst e3;obtain⟨v,q1,q2⟩:=sr.sl j i d hj (by
  cases z:fr[i]? with
  |none=>rw[z]at e2;cases e2
  |some o=>
   rw[z]at e2;have e':o=some d:=e2;rw[e'])
 exact⟨v,q1,q.here q2 hr⟩
def sZ{K:PySem.W.Frag}{P:aF}{d:D}{v:V}(hc:wD K d v):∀s H Q,tJ K m P (.c d) s H Q->tC v s H Q:=λs H Q q=>by
 obtain⟨r,fr,h,d',h',sr,hr,e,q⟩:=q;simp only[Ev.ev]at e;cases e;exact q.here hc.rv hr
def JB{i:Int}{j}:JE G n sc N df m (.c (.int i)) (.Constant (.int i) j pos):=λX g=>PE.of zX (sZ λ_ _=>rfl)
def NG{k:Bool}{j}:JE G n sc N df m (.c (.bl k)) (.Constant (.bool k) j pos):=λX g=>PE.of Ni (sZ λ_ _=>rfl)
def JD{j}:JE G n sc N df m (.c .aG) (.Constant .none j pos):=λX g=>PE.of IS (sZ λ_ _=>rfl)
def JF{l:List Nat}{x:Str}{j}(hx:x=aS l:=by decide +kernel)(hl:l.length<=sizeLine:=by decide):JE G n sc N df m (.c (.str l)) (.Constant (.str x) j pos):=
 λX g=>PE.of zY (sZ λ_ _=>by subst hx;exact⟨rfl,hl⟩)
def JH:JA G n sc N df m .nil []:=λX g=>PA.of kg λs H Q q=>by
 obtain⟨r,fr,h,ds,h',sr,hr,e,q⟩:=q;simp only[Ev.bQ]at e;cases e;exact q [] H r .nil hr .refl
def GC{es:Es}{xs:List Expr}(ha:JE G n sc N df m a xa)(hs:JA G n sc N df m es xs)(hst:∀env:Env,starEach (xa :: xs) env=(false,eval xa env) :: starEach xs env:=by intro _;rfl):JA G n sc N df m (.cons a es) (xa :: xs):=
 λX g=>PA.of (eL (ha X g) (hs X g) (hst _)) λs H Q q=>by
  obtain⟨r,fr,h,ds,h',sr,hr,e,q⟩:=q;simp only[Ev.bQ]at e;obtain⟨d,h1,e1,e⟩:=Ev.ah e;obtain⟨ds',h2,e2,e⟩:=Ev.ah e;cases e;refine⟨r,fr,h,d,h1,sr,hr,e1,λv H1 r1 v1 hr1 f1=>?_⟩;refine⟨r1,fr,h1,ds',_,sr.mono f1,hr1,e2,λvs H2 r2 v2 hr2 f2=>?_⟩;exact q _ H2 r2 (.cons (v1.mono f2) v2) hr2 (f1.trans f2)
def JJ{es:Es}{xs:List Expr}{k}(hs:JA G n sc N df m es xs):JE G n sc N df m (.tup es) (.Tuple xs k pos):=λX g=>PE.of (Ae (hs X g)) λs H Q q=>by
 obtain⟨r,fr,h,d,h',sr,hr,e,q⟩:=q;simp only[Ev.ev]at e;obtain⟨ds,h1,e1,e⟩:=Ev.ah e;split at e
 .rename_i z;cases e;refine⟨r,fr,h,ds,_,sr,hr,e1,λvs H1 r1 v1 hr1 f1=>⟨by rw[v1.length,<-jB];exact z,λp hp=>?_⟩⟩;exact(q.later f1).tup v1 hr1 hp
 .cases e
def JK{es:Es}{xs:List Expr}(hs:JA G n sc N df m es xs):JE G n sc N df m (.lst es) (.List xs pos):=λX g=>PE.of (tS (hs X g)) λs H Q q=>by
 obtain⟨r,fr,h,d,h',sr,hr,e,q⟩:=q;simp only[Ev.ev]at e;obtain⟨ds,h1,e1,e⟩:=Ev.ah e;refine⟨r,fr,h,ds,h1,sr,hr,e1,λvs H1 r1 v1 hr1 f1=>?_⟩;exact(q.later f1).lst e v1 hr1
def pR{K:PySem.W.Frag}{P:aF}{f:D->D->Hh->R D}{e':E}(he:∀fr h,Ev.ev P e' fr h=(Ev.ev P a fr h).bind λx h1=>(Ev.ev P b fr h1).bind λy h2=>f x y h2) :
  ∀s H Q,tJ K m P e' s H Q->Ad (ir K f) (tJ K m P a) (tJ K m P b) s H Q:=λs H Q q=>by
 obtain⟨r,fr,h,d,h',sr,hr,e,q⟩:=q;rw[he]at e;obtain⟨x,h1,e1,e⟩:=Ev.ah e;obtain⟨y,h2,e2,e⟩:=Ev.ah e;refine⟨r,fr,h,x,h1,sr,hr,e1,λv H1 r1 v1 hr1 f1=>?_⟩;refine⟨r1,fr,h1,y,h2,sr.mono f1,hr1,e2,λu H2 r2 v2 hr2 f2=>?_⟩;exact⟨r2,h2,x,y,d,h',hr2,v1.mono f2,v2,e,q.later (f1.trans f2)⟩
def mJ{o:aU}{op:Operator}(ho:∀X,Good G n sc N df X->dN X (binaryOp op) (ir X.K (Ev.bH o)))(ha:JE G n sc N df m a xa)(hb:JE G n sc N df m b xb):JE G n sc N df m (.bin o a b) (.BinOp xa op xb pos):=
 λX g=>PE.of (Nr (ho X g) (ha X g) (hb X g)) (pR λfr h=>by simp only[Ev.ev])
noncomputable def gR(o:aR):D->D->Hh->R D:=λx y h=>R.of ((Ev.cop o x y h).map .bl) h
def Am{o:aR}{op:CmpOp}(ho:∀X,Good G n sc N df X->dN X (compareOp op) (ir X.K (gR o)))(ha:JE G n sc N df m a xa)(hb:JE G n sc N df m b xb)(hm:behindInMarks op xb=false):JE G n sc N df m (.cmp o a b) (.Compare xa [op] [xb] pos):=
 λX g=>PE.of (Gq (ho X g) (ha X g) (hb X g) hm) (pR λfr h=>by simp only[Ev.ev,gR])
def jr{o:aR}{x y d:D}{h h':Hh}(e:gR o x y h=.ok d h'):∃k,Ev.cop o x y h=some k/\d=.bl k/\h'=h:=by
 unfold gR at e;obtain⟨e1,rfl⟩:=Ev.aL e;cases z:Ev.cop o x y h' with
 |none=>rw[z]at e1;cases e1
 |some k=>rw[z]at e1;cases e1;exact⟨k,rfl,rfl,rfl⟩
def kq{o:aR}{op:CmpOp}(ho:∀X,Good G n sc N df X->dN X (compareOp op) (ir X.K (gR o)))(ha:JE G n sc N df m a xa)(hb:JE G n sc N df m b xb)(hm:behindInMarks op xb=false):JT G n sc N df m (.cmp o a b) (.Compare xa [op] [xb] pos):=
 λX g=>PT.of (we (ho X g) (ha X g) (hb X g) hm) λs H Q q=>by
  obtain⟨r,fr,h,k,h',sr,hr,e,q⟩:=q;simp only[Ev.aJ]at e;obtain⟨d,h1,e1,e⟩:=Ev.ah e;have e0:=e1;simp only[Ev.ev]at e0;obtain⟨x,h2,_,e0⟩:=Ev.ah e0;obtain⟨y,h3,_,e0⟩:=Ev.ah e0;obtain⟨k',e2,e3,e4⟩:=jr (o:=o) (show gR o x y h3=_ from e0);subst e3;simp only[Ev.truthy]at e;cases e;refine pR (e':=.cmp o a b) (f:=gR o) (λfr h=>by simp only[Ev.ev,gR]) s H _ ⟨r,fr,h,.bl k,_,sr,hr,e1,λv H1 r1 v1 hr1 f1=>?_⟩;exact⟨k,v1,q H1 r1 hr1 f1⟩
end
section
variable{G:Tb}{n:Nat}{sc:Scope}{N:List Str}{df:Bool}{m:List Nat}{a b c:E}{xa xb xc:Expr}{pos:Pos}
def JL(ha:JT G n sc N df m a xa)(hb:JE G n sc N df m b xb)(hc:JE G n sc N df m c xc):JE G n sc N df m (.fV a b c) (.IfExp xa xb xc pos):=λX g=>PE.of (B8 (ha X g) (hb X g) (hc X g)) λs H Q q=>by
 obtain⟨r,fr,h,d,h',sr,hr,e,q⟩:=q;simp only[Ev.ev]at e;obtain⟨k,h1,e1,e⟩:=Ev.ah e;refine⟨r,fr,h,k,h1,sr,hr,e1,λH1 r1 hr1 f1=>?_⟩;cases k with
 |true=>exact⟨r1,fr,h1,d,h',sr.mono f1,hr1,e,q.later f1⟩
 |false=>exact⟨r1,fr,h1,d,h',sr.mono f1,hr1,e,q.later f1⟩
def Q9(h:JW G n sc N df m a xa):JT G n sc N df m a xa:=λX g=>(h X g).pt
def JM(ha:JT G n sc N df m a xa):JW G n sc N df m a (.BoolOp .And [xa] pos):=λX g=>Gf (ha X g)
def EG{rest:List Expr}(ha:JT G n sc N df m a xa)(hb:JW G n sc N df m b (.BoolOp .And (xb :: rest) pos)):JW G n sc N df m (.an a b) (.BoolOp .And (xa :: xb :: rest) pos):=λX g=>PW.of (IV (ha X g) (hb X g)) λs H Q q=>by
 obtain⟨r,fr,h,k,h',sr,hr,e,q⟩:=q;simp only[Ev.aJ]at e;obtain⟨k1,h1,e1,e⟩:=Ev.ah e;refine⟨r,fr,h,k1,h1,sr,hr,e1,λH1 r1 hr1 f1=>?_⟩;cases k1 with
 |true=>exact⟨r1,fr,h1,k,h',sr.mono f1,hr1,e,λH2 r2 hr2 f2=>q H2 r2 hr2 (f1.trans f2)⟩
 |false=>
  have e':R.ok false h1=R.ok k h':=e;cases e';exact q H1 r1 hr1 f1
def NH(ha:JT G n sc N df m a xa):JT G n sc N df m (.nt a) (.UnaryOp .Not xa pos):=λX g=>PT.of (zZ (ha X g)) λs H Q q=>by
 obtain⟨r,fr,h,k,h',sr,hr,e,q⟩:=q;simp only[Ev.aJ]at e;obtain⟨k1,h1,e1,e⟩:=Ev.ah e;cases e;exact⟨r,fr,h,k1,_,sr,hr,e1,λH1 r1 hr1 f1=>q H1 r1 hr1 f1⟩
def JN{K:PySem.W.Frag}{H:Hp}{r:List Addr}{h:Hh}{d:D}{v:V}{k:Bool}(hr:HR K H r h)(v1:RV K H r d v)(e:Ev.truthy h d=some k):Cg K v H k:=by
 cases d with
 |aG=>simp only[RV]at v1;subst v1;cases e;rfl
 |bl x=>simp only[RV]at v1;subst v1;cases e;rfl
 |int x=>simp only[RV]at v1;subst v1;cases e;rfl
 |str x=>
  simp only[RV]at v1;obtain⟨rfl,z⟩:=v1;cases e;refine⟨by rw[cU];exact z,?_⟩;rw[cU];cases x with
  |nil=>rfl
  |cons c l=>simp;omega
 |tup ds=>
  simp only[RV]at v1;obtain⟨p,vs,rfl,z,q⟩:=v1;cases e;refine .inr (.inl ⟨vs,z,?_⟩);have hl:=q.length;cases ds<;>cases vs<;>simp_all
 |ref i=>
  simp only[RV]at v1;obtain⟨p,rfl,z⟩:=v1;have et:Ev.truthy h (.ref i)=(Ev.aY h i).map λds=>!ds.isEmpty:=by
   first
    |rfl
    | (simp only[Ev.truthy];split<;>first|rfl | (rename_i kvs z;first|exact(UB ⟨kvs,z⟩).elim|exact(hss ⟨kvs,z⟩).elim))
  rw[et]at e;simp only[cL]at e;obtain⟨ds,e1,rfl⟩:=e;obtain⟨p',vs,e2,q1,q2⟩:=hr.read e1;rw[z]at e2;cases e2;refine .inl ⟨vs,q1,?_⟩;have hl:=q2.length;cases ds<;>cases vs<;>simp_all
def JP(ha:JE G n sc N df m a xa)(he:∀(P:aF) fr h,Ev.aJ P a fr h=(Ev.ev P a fr h).bind λx h1=>R.of (Ev.truthy h1 x) h1:=by intros;simp only[Ev.aJ])
  (hx:∀(env:Env) whole,isTrue xa env whole=(do let v <-whole;standAt xa.pos;holding [v] (truthy v)):=by intro _ _;rfl):JT G n sc N df m a xa:=λX g=>PT.of (Ci (ha X g) (hx _)) λs H Q q=>by
 obtain⟨r,fr,h,k,h',sr,hr,e,q⟩:=q;rw[he]at e;obtain⟨d,h1,e1,e⟩:=Ev.ah e;obtain⟨e,rfl⟩:=Ev.aL e;refine⟨r,fr,h,d,_,sr,hr,e1,λv H1 r1 v1 hr1 f1=>⟨k,JN hr1 v1 e,q H1 r1 hr1 f1⟩⟩
noncomputable def JQ:D->D->Hh->R D:=λx y h=>R.of (Ev.fW x y h) h
def NI(ho:∀X,Good G n sc N df X->wk X (ir X.K JQ))(ha:JE G n sc N df m a xa)(hb:JE G n sc N df m b xb)(hs:nB xb:=by intro _ _;rfl):JE G n sc N df m (.ix a b) (.Subscript xa xb pos):=
 λX g=>PE.of (yw (ho X g) (ha X g) (hb X g) hs) (pR λfr h=>by simp only[Ev.ev,JQ])
def NJ:JO G n sc N df m .no none:=λX g=>PO.of Gu λs H Q q=>by
 obtain⟨r,fr,h,o,h',sr,hr,e,q⟩:=q;simp only[Ev.fO]at e;cases e;exact q H r hr .refl
def JR(ha:JE G n sc N df m a xa):JO G n sc N df m (.yes a) (some xa):=λX g=>PO.of (Gv (ha X g)) λs H Q q=>by
 obtain⟨r,fr,h,o,h',sr,hr,e,q⟩:=q;simp only[Ev.fO]at e;obtain⟨d,h1,e1,e⟩:=Ev.ah e;obtain⟨e,rfl⟩:=Ev.aL e;cases d with
 |int i=>
  cases e;exact⟨r,fr,h,.int i,_,sr,hr,e1,λv H1 r1 v1 hr1 f1=>⟨i,v1,q H1 r1 hr1 f1⟩⟩
 |_=>cases e
def NK{lo hi:Eo}{xl xh:Option Expr}{p2}(ho:∀X,Good G n sc N df X->ki X (Jz X.K))(ha:JE G n sc N df m a xa)(hl:JO G n sc N df m lo xl)(hu:JO G n sc N df m hi xh):JE G n sc N df m (.sl a lo hi) (.Subscript xa (.Slice xl xh none p2) pos):=
 λX g=>PE.of (Ck (ho X g) (ha X g) (hl X g) (hu X g)) λs H Q q=>by
  obtain⟨r,fr,h,d,h',sr,hr,e,q⟩:=q;simp only[Ev.ev]at e;obtain⟨x,h1,e1,e⟩:=Ev.ah e;obtain⟨l,h2,e2,e⟩:=Ev.ah e;obtain⟨u,h3,e3,e⟩:=Ev.ah e;refine⟨r,fr,h,x,h1,sr,hr,e1,λv H1 r1 v1 hr1 f1=>?_⟩;refine⟨r1,fr,h1,l,h2,sr.mono f1,hr1,e2,λH2 r2 hr2 f2=>?_⟩;refine⟨r2,fr,h2,u,h3,(sr.mono f1).mono f2,hr2,e3,λH3 r3 mK f3=>?_⟩;exact⟨r3,h3,x,d,h',mK,(v1.mono f2).mono f3,e,q.later ((f1.trans f2).trans f3)⟩
def GD{K:PySem.W.Frag}{P:aF}{es:Es}{f:List D->Hh->R D}{e':E}(he:∀fr h,Ev.ev P e' fr h=(Ev.bQ P es fr h).bind f) :
  ∀s H Q,tJ K m P e' s H Q->Po (EF K f) (Jy K m P es) s H Q:=λs H Q q=>by
 obtain⟨r,fr,h,d,h',sr,hr,e,q⟩:=q;rw[he]at e;obtain⟨ds,h1,e1,e⟩:=Ev.ah e;exact⟨r,fr,h,ds,h1,sr,hr,e1,λvs H1 r1 v1 hr1 f1=>⟨r1,h1,ds,d,h',hr1,v1,e,q.later f1⟩⟩
def NL{k:BI}{es:Es}{x:Str}{id:String}{e0:Expr}{xs:List Expr}{p:Pos}(hc:∀X,Good G n sc N df X->ny X (.builtin id) (EF X.K (Ev.dO k)))(hs:JA G n sc N df m es (e0 :: xs))(hb:x∈G.bl:=by decide +kernel)
  (hg:sc.names.lookup x=some .globalImplicit:=by rfl) (hv:bootBuiltins x=some (.builtin id)) (hn:x≠"__name__" :=by decide) (hd:(x==("__debug__" : Str))=false:=by decide)
  (hst:∀env:Env,starEach (e0 :: xs) env=(false,eval e0 env) :: starEach xs env:=by intro _;rfl) (hpl:∀env:Env,(backTo pos (starEach xs env)).any (·.1)=false:=by intro _;rfl) :
  JE G n sc N df m (.bi k es) (.Call (.Name x p) (e0 :: xs) [] pos):=
 λX g=>PE.of (tU (hc X g) (g.gl hg) (g.bl x hb) hv (hs X g) hn hd (hst _) (hpl _)) (GD λfr h=>by simp only[Ev.ev])
def NN{f:Nat}{i:FI}{es:Es}{e0:Expr}{xs:List Expr}{p:Pos}(hf:G.fi[f]?=some i)(hs:JA G n sc N df m es (e0 :: xs))
  (hg:sc.names.lookup i.name=some .globalImplicit:=by rfl) (hd:(i.name==("__debug__" : Str))=false:=by decide)
  (hst:∀env:Env,starEach (e0 :: xs) env=(false,eval e0 env) :: starEach xs env:=by intro _;rfl) (hpl:∀env:Env,(backTo pos (starEach xs env)).any (·.1)=false:=by intro _;rfl) :
  JE G n sc N df m (.cl f es) (.Call (.Name i.name p) (e0 :: xs) [] pos):=λX g=>by
 obtain⟨h1,h2,h3,h4⟩:=g.fn f i hf;refine PE.of (nA h4 g.room (g.gl hg) h1 h2 h3 .nil NF (hs X g) hd (hst _) (hpl _)) λs H Q q=>?_;obtain⟨r,fr,h,d,h',sr,hr,e,q⟩:=q;simp only[Ev.ev]at e;obtain⟨ds,h5,e1,e⟩:=Ev.ah e;refine⟨r,fr,h,ds,h5,sr,hr,e1,λvs H1 r1 v1 hr1 f1=>?_⟩;exact⟨r1,h5,ds,d,h',by rw[Ux];exact v1,hr1,e,q.later f1⟩
noncomputable def JU:ME->String
 |.join=>"str"
 |_=>"list"
def JV{K:PySem.W.Frag}{H:Hp}{r:List Addr}{h:Hh}{k:ME}{d:D}{v:V}{ty:String}(hr:HR K H r h)(v1:RV K H r d v)(e:Ev.kj k d h=true)(ht:ty=JU k):ED K ty v H:=by
 subst ht;have lst:∀i,d=.ref i->(Ev.aY h i).isSome=true->ED K "list" v H:=λi ed es=>by
  subst ed;obtain⟨ds,e1⟩:=Option.isSome_iff_exists.mp es;obtain⟨p,vs,e2,q1,q2⟩:=hr.read e1;simp only[RV]at v1;obtain⟨p',rfl,e3⟩:=v1;rw[e2]at e3;cases e3;exact .inl ⟨rfl,vs,q1⟩
 cases k with
 |join=>
  cases d with
  |str l=>simp only[RV]at v1;obtain⟨rfl,_⟩:=v1;rfl
  |_=>cases e
 |append=>cases d with|ref i=>exact lst i rfl e|_=>cases e
 |extend=>cases d with|ref i=>exact lst i rfl e|_=>cases e
 |pop=>cases d with|ref i=>exact lst i rfl e|_=>cases e
 |count=>cases d with|ref i=>exact lst i rfl e|_=>cases e
 |index=>cases d with|ref i=>exact lst i rfl e|_=>cases e
def tu {k:ME}{es:Es}{e0:Expr}{xs:List Expr}{name:Str}{apos:Pos}{ty id:String}(pa:PlainAttrs ty) (slot:Slot ty name id) (hty:typeOf (.builtin id)=pure (.type "method_descriptor"))
  (hm:∀X,Good G n sc N df X->wm X id (wC X.K (Ev.eZ k))) (ht:ty=JU k) (ha:JE G n sc N df m a xa) (hs:JA G n sc N df m es (e0 :: xs))
  (hbase:∀env:Env,attributeBase xa name env (eval xa env)=eval xa env:=by intro _;rfl)
  (hfew:∀env:Env,((backTo pos (starEach (e0 :: xs) env)).all (λx=>!x.1)&&(backToKw pos (keywordEach [] env)).all (λx=>x.1.isSome)
   &&decide ((e0 :: xs).length+([]:List Keyword).length+(if ([]:List Keyword).isEmpty then 0 else 1)<30))=true:=by intro _;rfl)
  (hline:(apos.endLine==pos.line)=true:=by rfl) (hst:∀env:Env,starEach (e0 :: xs) env=(false,eval e0 env) :: starEach xs env:=by intro _;rfl) (hpl:∀env:Env,(backTo pos (starEach xs env)).any (·.1)=false:=by intro _;rfl) :
  JE G n sc N df m (.me k a es) (.Call (.Attribute xa name apos) (e0 :: xs) [] pos):=λX g=>
 PE.of (ND pa slot hty (hm X g) (ha X g) (hs X g) (hbase _) (hfew _) hline (hst _) (hpl _)) λs H Q q=>by
  obtain⟨r,fr,h,d,h',sr,hr,e,q⟩:=q;simp only[Ev.ev]at e;obtain⟨x,h1,e1,e⟩:=Ev.ah e;split at e
  .rename_i hk;obtain⟨ds,h2,e2,e⟩:=Ev.ah e;refine⟨r,fr,h,x,h1,sr,hr,e1,λv H1 r1 v1 hr1 f1=>⟨JV hr1 v1 hk ht,?_⟩⟩;refine⟨r1,fr,h1,ds,h2,sr.mono f1,hr1,e2,λvs H2 r2 v2 hr2 f2=>?_⟩;exact⟨r2,h2,x,ds,d,h',hr2,v1.mono f2,v2,e,q.later (f1.trans f2)⟩
  .cases e
end
end Sm
namespace Sm
open PySem PySem.Spec PyProof.Rows L2
open Ev (D O Hh Fr R aF E Es Eo T S Ss Fl Src aU aR TY BI ME)
noncomputable def qL(K:PySem.W.Frag)(r0:List Addr)(H0:Hp)(s:Src)(J:L2.It):Prop:=∀(i:Nat) H1 r1 h1,HR K H1 r1 h1->Fm K r0 r1 H0 H1->Ev.stays h1 s.2=true->
 (∀d,s.1[i]?=some d->J.go i H1/\∀x H2,J.z8 i H1 x H2->∃r2,RV K H2 r2 d x/\HR K H2 r2 h1/\Fm K r1 r2 H1 H2)/\(s.1.length<=i->J.stop i H1)
inductive Pw(K:PySem.W.Frag)(m:List Nat)(P:aF)(it:Ev.It)(s:L2.St)(H:Hp)(Rr:L2.It->Hp->Prop):Prop
 |mk (r:List Addr) (fr:Fr) (h:Hh) (src:Src) (h':Hh) (c0:SR K m H r fr s) (c1:HR K H r h) (c2:Ev.dD P it fr h=.ok src h') (c3:∀J H' r',HR K H' r' h'->Fm K r r' H H'->qL K r' H' src J->Rr J H'):Pw K m P it s H Rr
noncomputable def JI(G:Tb)(n:Nat)(sc:Scope)(N:List Str)(df:Bool)(m:List Nat)(it:Ev.It)(tg x:Expr):Prop:=∀X,Good G n sc N df X->PI X tg x (Pw X.K m (Ev.run G.F G.w n) it)
noncomputable def EH(z:Str):L2.It:=⟨λi _=>i<z.length,λi H x H'=>H'=H/\∃c,z.cps[i]?=some c/\x=.str ⟨#[c]⟩,λi _=>z.length<=i⟩
def JX{M:Model}{A:Around}{E:Value->Shared->Prop}{s:Shared}{tg:Expr}{it:Value}{x:Str}{t:Tok}{Q:Unit->Shared->Prop}(hQ:Q () s):wpAny M A (letOwnedTupleGo tg it (.str x t)) Q E s:=by
 unfold letOwnedTupleGo;cases tg<;>first
  |exact bY hQ
  | (cases it<;>exact bY hQ)
def t7 {P:Program}{w:World}{K:PySem.W.Frag}{tg:Expr}(z:Str) (t:Tok) (it:Addr) (ty:String) (hty:ty = "str_ascii_iterator" \/ty = "str_iterator") :
  Turn P w K tg (EH z) [it] it (λi h=>h.IsStrIter it ty z t i) where
 mem:=by simp
 obj:=λi h st b hb=>by
  have e:b=it:=by simpa using hb
  subst e;obtain⟨o,e,c,d⟩:=st;exact⟨o,e,λv z=>by rw[d]at z;cases z⟩
 keep:=λi h h' st k=>by
  obtain⟨o,e,c,d⟩:=st;exact⟨o,k it (by simp) o e,c,d⟩
 item:=by
  intro X hP hw hK hc i pins s σ H E I hf st hg;subst hP hw hK;obtain⟨f0,f1,f2,f3,f4,f5⟩:=hf it (by simp);have W:Walks X.prog X.w X.A it [it] [it] z.cps.size (SignAt z) (λi h=>h.IsStrIter it ty z t i):=by
   rcases hty with e|e
   .subst e;exact Walks.strAscii (I.ok.hd hc) it z t
   .subst e;exact Walks.strWide (I.ok.hd hc) it z t
  refine W.item i s _ _ hg st λv h' tk hv st' kk=>?_;obtain⟨c,u,hc',rfl⟩:=hv;have I1:Inv X pins σ H { s with heap:=h',toks:=tk }:=I.turned (λb o hb e=>kk b o (by simpa using hb) e) f0 f1 f3 f4 f5;exact⟨_,rfl,JX ⟨.str ⟨#[c]⟩,H,I1,⟨u,rfl⟩,⟨rfl,c,hc',rfl⟩,st',λb hb=>(hf b hb).1⟩⟩
 done:=by
  intro X hP hw hK hc i pins s σ H E I hf st hg;subst hP hw hK;obtain⟨f0,f1,f2,f3,f4,f5⟩:=hf it (by simp);rcases hty with e|e
  .subst e;exact wpAny_pyNext_ascii_end (I.ok.hd hc) st (by simpa[Str.length,EH]using hg) λh' eb=>⟨rfl,I.turned (t':=s.toks) (λb o hb e=>eb b o hb e) f0 f1 f3 f4 f5⟩
  .subst e;exact wpAny_pyNext_wide_end (I.ok.hd hc) st (by simpa[Str.length,EH]using hg) λh' eb=>⟨rfl,I.turned (t':=s.toks) (λb o hb e=>eb b o hb e) f0 f1 f3 f4 f5⟩
 self:=λ_ _ _ _ _ st h=>by
  rcases hty with e|e
  .subst e;exact wpAny_pyIter_striter_ascii st h
  .subst e;exact wpAny_pyIter_striter_wide st h
noncomputable def EI(K:PySem.W.Frag)(x:V)(H:Hp)(Rr:L2.It->Hp->Prop):Prop:=
 (∃a xs,x=.ref a/\fE K H a xs/\Rr (Pj K a) H)\/(∃a xs,x=.ref a/\dU K H a xs/\Rr (Pk K a) H)\/∃z,x=.str z/\Rr (EH z) H
def JY{X:Cx}{tg l:Expr}{tl:TE}{wi:TI}(hl:PE X l tl)(hw:∀s H Rr,wi s H Rr->tl s H λx H1=>EI X.K x H1 Rr):PI X tg l wi:=by
 intro pins s σ H Rr I h;refine bU (hl pins s σ H _ I (hw _ _ _ h)) λv s1 ⟨x,H1,I1,r1,q1⟩=>?_;have fp:∀(o:Obj) b,b∈[s1.heap.objs.size]->g5 X pins H1 b:=λo b hb=>by
  have e:b=s1.heap.objs.size:=by simpa using hb
  subst e;exact I1.Cc (vn _) (I1.hok.fresh (vn _))
 rcases q1 with ⟨a,xs,rfl,hq,q⟩|⟨a,xs,rfl,hq,q⟩|⟨z,rfl,q⟩
 .cases r1;obtain⟨its,rv,p,hz⟩:=I1.list hq;refine wpAny_pyIter_list p.isList ?_;exact⟨s1.heap.objs.size,[s1.heap.objs.size],_,_,H1,rfl,I1.kept (t':=s1.toks) λb o e=>eV _ e,z9 a _,⟨_,RB _ rfl,rfl,rfl⟩,fp default,q⟩
 .cases r1;obtain⟨its,rv,p,hz⟩:=I1.tuple hq;refine wpAny_pyIter_tuple (show s1.heap.IsTuple a its.toArray from p) ?_;exact⟨s1.heap.objs.size,[s1.heap.objs.size],_,_,H1,rfl,I1.kept (t':=s1.toks) λb o e=>eV _ e,yp a _,⟨_,RB _ rfl,rfl,rfl⟩,fp default,q⟩
 .obtain⟨t,rfl⟩:=r1;cases ha:z.cps.all (· < 128)
  .refine wpAny_pyIter_wide ha ?_;exact⟨s1.heap.objs.size,[s1.heap.objs.size],_,_,H1,rfl,I1.kept (t':=s1.toks) λb o e=>eV _ e,t7 z t _ _ (.inr rfl),⟨_,RB _ rfl,rfl,rfl⟩,fp default,q⟩
  .refine wpAny_pyIter_ascii ha ?_;exact⟨s1.heap.objs.size,[s1.heap.objs.size],_,_,H1,rfl,I1.kept (t':=s1.toks) λb o e=>eV _ e,t7 z t _ _ (.inl rfl),⟨_,RB _ rfl,rfl,rfl⟩,fp default,q⟩
def An{h:Hh}{n:Nat}{ds:List D}(e:Ev.stays h [(n,ds)]=true):Ev.aY h n=some ds:=by
 simp only[Ev.stays,Bool.and_true]at e;split at e
 .rename_i es q;rw[q,(Ev.rU _ _).mp e]
 .cases e
def GF{K:PySem.W.Frag}{H:Hp}{r:List Addr}{h:Hh}{d:D}{v:V}{src:Src}{Rr:L2.It->Hp->Prop}(hr:HR K H r h)(v1:RV K H r d v)(e:Ev.gk h d=some src)(q:∀J,qL K r H src J->Rr J H):EI K v H Rr:=by
 cases d with
 |tup ds=>
  simp only[RV]at v1;obtain⟨a,vs,rfl,z,w⟩:=v1;cases e;refine .inr (.inl ⟨a,vs,rfl,z,q _ λi H1 r1 h1 hr1 f1 st=>⟨λd' e'=>?_,λhl=>?_⟩⟩)
  .obtain⟨u,e1,e2⟩:=w.get e';refine⟨⟨vs,u,f1.tups _ _ z,e1⟩,λx H2 y=>?_⟩;obtain⟨rfl,y⟩:=y;have:=y vs (f1.tups _ _ z);rw[e1]at this;cases this;exact⟨r1,e2.mono f1,hr1,.refl⟩
  .exact⟨vs,f1.tups _ _ z,by rw[w.length];exact hl⟩
 |str l=>
  simp only[RV]at v1;obtain⟨rfl,z⟩:=v1;cases e;refine .inr (.inr ⟨_,rfl,q _ λi H1 r1 h1 hr1 f1 st=>⟨λd' e'=>?_,λhl=>?_⟩⟩)
  .rw[Vz]at e';cases e2:l[i]? with
   |none=>rw[e2]at e';cases e'
   |some c=>
    rw[e2]at e';cases e';refine⟨by show i<(aS l).length;rw[cU];exact(List.getElem?_eq_some_iff.mp e2).1,λx H2 y=>?_⟩;obtain⟨rfl,c',y1,rfl⟩:=y;have e3:(aS l).cps[i]?=some c:=by simp[aS,e2]
    rw[e3]at y1;cases y1;exact⟨r1,⟨rfl,by show 1<=sizeLine;decide⟩,hr1,.refl⟩
  .show(aS l).length<=i;rw[cU];simpa using hl
 |ref k=>
  simp only[RV]at v1;obtain⟨a,rfl,z⟩:=v1;simp only[Ev.gk,cL]at e;obtain⟨ds,e1,rfl⟩:=e;obtain⟨a',vs,e2,e3,e4⟩:=hr.read e1;rw[z]at e2;cases e2;refine .inl ⟨a,vs,rfl,e3,q _ λi H1 r1 h1 hr1 f1 st=>?_⟩;obtain⟨a',us,e5,e6,e7⟩:=hr1.read (An st);rw[f1.pre _ _ z]at e5;cases e5;refine⟨λd' e'=>?_,λhl=>⟨us,e6,by rw[e7.length];exact hl⟩⟩;obtain⟨u,g1,g2⟩:=e7.get e';refine⟨⟨us,u,e6,g1⟩,λx H2 y=>?_⟩;obtain⟨rfl,y⟩:=y;have:=y us e6;rw[g1]at this;cases this;exact⟨r1,g2,hr1,.refl⟩
 |_=>cases e
section
variable{G:Tb}{n:Nat}{sc:Scope}{N:List Str}{df:Bool}{m:List Nat}{a b:E}{xa tg:Expr}{pos:Pos}
def JZ(ha:JE G n sc N df m a xa):JI G n sc N df m (.seq a) tg xa:=λX g=>JY (ha X g) λs H Rr q=>by
 obtain⟨r,fr,h,src,h',sr,hr,e,q⟩:=q;simp only[Ev.dD]at e;obtain⟨d,h1,e1,e⟩:=Ev.ah e;obtain⟨e,rfl⟩:=Ev.aL e;refine⟨r,fr,h,d,_,sr,hr,e1,λv H1 r1 v1 hr1 f1=>?_⟩;exact GF hr1 v1 e λJ hJ=>q J H1 r1 hr1 f1 hJ
def PI.of{X:Cx}{tg l:Expr}{t t':TI}(h:PI X tg l t)(w:∀s H Q,t' s H Q->t s H Q):PI X tg l t':=λpins s σ H Q I q=>h pins s σ H Q I (w _ _ _ q)
def J0{K:PySem.W.Frag}{r:List Addr}{H:Hp}(lo:Int)(k:Nat):qL K r H (Ev.range lo k,[]) (EB lo k):=λi H1 r1 h1 hr1 f1 st=>by
 refine⟨λd e=>?_,λhl=>?_⟩
 .simp only[Ev.range,Vz]at e;cases e2:(List.range k)[i]? with
  |none=>rw[e2]at e;cases e
  |some j=>
   rw[e2]at e;cases e;have hi:i<k:=by simpa using (List.getElem?_eq_some_iff.mp e2).1
   have hj:j=i:=by
    rw[WV hi]at e2;exact(kI e2).symm
   subst hj;refine⟨hi,λx H2 y=>?_⟩;obtain⟨rfl,rfl⟩:=y;exact⟨r1,rfl,hr1,.refl⟩
 .have:(Ev.range lo k).length=k:=by simp[Ev.range]
  show k<=i;have hl':(Ev.range lo k).length<=i:=hl;omega
def GG {e1:E}{p:Pos}(hs:JA G n sc N df m (.cons e1 .nil) [xa]) (hg:sc.names.lookup ("range" : Str)=some .globalImplicit:=by rfl) (hb:("range" : Str)∈G.bl:=by decide +kernel)
  (hst:∀env:Env,starEach [xa] env=[(false,eval xa env)]:=by intro _;rfl):JI G n sc N df m (.fU (.cons e1 .nil)) tg (.Call (.Name "range" p) [xa] [] pos):=λX g=>
 PI.of (Aa (g.gl hg) (g.bl _ hb) (hs X g) (hst _)) λs H Rr q=>by
  obtain⟨r,fr,h,src,h',sr,hr,e,q⟩:=q;simp only[Ev.dD]at e;obtain⟨ds,h1,e1,e⟩:=Ev.ah e;obtain⟨e,rfl⟩:=Ev.aL e;refine⟨r,fr,h,ds,_,sr,hr,e1,λvs H1 r1 v1 hr1 f1=>?_⟩;unfold Ev.e8 at e;split at e
  .rename_i j;split at e
   .rename_i hj;cases e;simp only[aI,RV]at v1;obtain⟨v,w,rfl,rfl,rfl⟩:=v1;exact⟨_,rfl,hj.1,hj.2,q _ H1 r1 hr1 f1 (J0 0 _)⟩
   .cases e
  .exfalso;simp only[Ev.bQ]at e1;obtain⟨d,_,_,e1⟩:=Ev.ah e1;simp only[Ev.ao]at e1;cases e1
  .cases e
inductive gJ(K:PySem.W.Frag)(m:List Nat)(t:T)(v:V)(s:L2.St)(H:Hp)(Q:L2.St->Hp->Prop):Prop
 |mk (r:List Addr) (fr:Fr) (h:Hh) (d:D) (ai:Fr) (c0:SR K m H r fr s) (c1:HR K H r h) (c2:RV K H r d v) (c3:Ev.bw t d fr=some ai) (c4:∀s',SR K m H r ai s'->Q s' H):gJ K m t v s H Q
noncomputable def JG(G:Tb)(n:Nat)(sc:Scope)(N:List Str)(df:Bool)(m:List Nat)(t:T)(x:Expr):Prop:=∀X,Good G n sc N df X->PG X x (gJ X.K m t)
def PG.of{X:Cx}{e:Expr}{t t':TG}(h:PG X e t)(w:∀v s H Q,t' v s H Q->t v s H Q):PG X e t':=λpins s σ H v u Q I r q=>h pins s σ H v u Q I r (w _ _ _ _ q)
theorem SR.set{K:PySem.W.Frag}{m:List Nat}{H:Hp}{r:List Addr}{fr:Fr}{s:L2.St}(sr:SR K m H r fr s)(hm:m.Nodup){j i:Nat}(hj:m[j]?=some i){d:D}{v:V}(v1:RV K H r d v):SR K m H r (fr.set i (some d)) (s.set j (some v)):=by
 refine⟨by simp[sr.len],λj' i' d' e1 e2=>?_⟩;by_cases hi:i'=i
 .subst hi;have:j'=j:=Ao hm e1 hj;subst this;have hlt:i'<fr.length:=by
   have:=(List.getElem?_eq_some_iff.mp e2).1;simpa using this
  rw[Ei hlt]at e2;cases e2;refine⟨v,Ei ?_,v1⟩;rw[sr.len];exact(List.getElem?_eq_some_iff.mp hj).1
 .rw[gI (λz=>hi z.symm)]at e2;obtain⟨u,q1,q2⟩:=sr.sl j' i' d' e1 e2;refine⟨u,?_,q2⟩;rw[gI]
  .exact q1
  .intro z;subst z;rw[hj]at e1;cases e1;exact hi rfl
where
 Ao {l:List Nat} (hl:l.Nodup) {i j:Nat} {x:Nat} (a:l[i]?=some x) (b:l[j]?=some x):i=j:=by
  have ha:=(List.getElem?_eq_some_iff.mp a)
  have hb:=(List.getElem?_eq_some_iff.mp b)
  obtain⟨h1,e1⟩:=ha;obtain⟨h2,e2⟩:=hb;exact(YT hl).mp (e1.trans e2.symm)
def Good.loc{X:Cx}(g:Good G n sc N df X){x:Str}(h:sc.names.lookup x=some .local\/(df=true/\sc.names.lookup x=some .cell)):Loc X.env.scope x/\(X.fn x=true\/X.env.scope.names.lookup x=some .local):=by
 rw[show Loc X.env.scope x↔Loc sc x by rw[g.sc],g.sc];rcases h with h|⟨h1,h⟩
 .exact⟨.inl h,.inr h⟩
 .exact⟨.inr h,.inl (g.own h1 x)⟩
def J1(j i:Nat){x:Str}(hm:m.Nodup)(hN:N.Nodup)(hj:m[j]?=some i:=by rfl)(rV:N[j]?=some x:=by rfl)
  (hl:sc.names.lookup x=some .local\/(df=true/\sc.names.lookup x=some .cell):=by first|exact Or.inl rfl|exact Or.inr ⟨rfl,rfl⟩):JG G n sc N df m (.one i) (.Name x pos):=λX g=>by
 obtain⟨h1,h2⟩:=g.loc hl;refine PG.of (v8 (i:=j) (by rw[g.nm];exact hN) (by rw[g.nm];exact rV) h1 h2) λv s H Q q=>?_;obtain⟨r,fr,h,d,ai,sr,hr,v1,e,q⟩:=q;cases e;exact q _ (sr.set hm hj v1)
inductive Px(K:PySem.W.Frag)(m:List Nat)(l:List Nat)(vs:List V)(s:L2.St)(H:Hp)(Q:L2.St->Hp->Prop):Prop
 |mk (r:List Addr) (fr:Fr) (h:Hh) (ds:List D) (ai:Fr) (c0:SR K m H r fr s) (c1:HR K H r h) (c2:aI K H r ds vs) (c3:Ev.cP l ds fr=some ai) (c4:∀s',SR K m H r ai s'->Q s' H):Px K m l vs s H Q
noncomputable def rW(G:Tb)(n:Nat)(sc:Scope)(N:List Str)(df:Bool)(m:List Nat)(l:List Nat)(xs:List Expr):Prop:=∀X,Good G n sc N df X->nW X xs (Px X.K m l)
def nW.of{X:Cx}{e:List Expr}{t t':rM}(h:nW X e t)(w:∀v s H Q,t' v s H Q->t v s H Q):nW X e t':=λpins s σ H v u Q I r q=>h pins s σ H v u Q I r (w _ _ _ _ q)
def GH:rW G n sc N df m [] []:=λX g=>nW.of Gh λvs s H Q q=>by
 obtain⟨r,fr,h,ds,ai,sr,hr,v1,e,q⟩:=q;cases ds with
 |nil=>simp only[aI]at v1;subst v1;cases e;exact⟨rfl,q _ sr⟩
 |cons _ _=>cases e
def Cs(j i:Nat){x:Str}{l:List Nat}{xs:List Expr}(hm:m.Nodup)(hN:N.Nodup)(hs:rW G n sc N df m l xs)(hj:m[j]?=some i:=by rfl)(rV:N[j]?=some x:=by rfl)
  (hl:sc.names.lookup x=some .local\/(df=true/\sc.names.lookup x=some .cell):=by first|exact Or.inl rfl|exact Or.inr ⟨rfl,rfl⟩)
  (hst:∀env:Env,(assignEach (.Name x pos :: xs) env).map (·.2)=assign (.Name x pos) env :: (assignEach xs env).map (·.2):=by intro _;rfl):rW G n sc N df m (i :: l) (.Name x pos :: xs):=λX g=>by
 obtain⟨h1,h2⟩:=g.loc hl;refine nW.of (Cb (v8 (i:=j) (by rw[g.nm];exact hN) (by rw[g.nm];exact rV) h1 h2) (hs X g) (hst _)) λvs s H Q q=>?_;obtain⟨r,fr,h,ds,ai,sr,hr,v1,e,q⟩:=q;cases ds with
 |nil=>cases e
 |cons d ds=>
  simp only[aI]at v1;obtain⟨v,w,rfl,v2,v3⟩:=v1;exact⟨v,w,rfl,r,_,h,ds,ai,sr.set hm hj v2,hr,v3,e,q⟩
def GI{l:List Nat}{xs:List Expr}{k:Nat}(hs:rW G n sc N df m l xs)(hn:∀env:Env,(assignEach xs env).length=l.length:=by intro _;rfl)(hst:∀env:Env,(assignEach xs env).findIdx? (·.1)=none:=by intro _;rfl) :
  JG G n sc N df m (.many l) (.Tuple xs k pos):=λX g=>PG.of (IW (n:=l.length) g.calm (hs X g) (hn _) (hst _)) λv s H Q q=>by
 obtain⟨r,fr,h,d,ai,sr,hr,v1,e,q⟩:=q;cases d with
 |tup ds=>
  simp only[RV]at v1;obtain⟨p,vs,rfl,z,w⟩:=v1;have hlen:∀(l:List Nat) (ds:List D) fr ai,Ev.cP l ds fr=some ai->ds.length=l.length:=by
   intro l;induction l with
   |nil=>intro ds fr ai e;cases ds with|nil=>rfl|cons _ _=>cases e
   |cons i l ih=>intro ds fr ai e;cases ds with|nil=>cases e|cons d ds=>simp[ih ds _ _ e]
  exact⟨p,vs,rfl,z,by rw[w.length];exact hlen _ _ _ _ e,r,fr,h,ds,ai,sr,hr,w,e,q⟩
 |_=>cases e
end
noncomputable def Fin(K:PySem.W.Frag)(m:List Nat)(r:List Addr)(H:Hp)(h':Hh)(fl:Fl)(ai:Fr)(Q:Ends):Prop:=match fl with
 |.nx=>∀s' H' r',SR K m H' r' ai s'->HR K H' r' h'->Fm K r r' H H'->Q.nx s' H'
 |.bk=>∀s' H' r',SR K m H' r' ai s'->HR K H' r' h'->Fm K r r' H H'->Q.bk s' H'
 |.ct=>∀s' H' r',SR K m H' r' ai s'->HR K H' r' h'->Fm K r r' H H'->Q.ct s' H'
 |.ret d=>Res K r H h' d Q.rt
theorem Fin.later{K:PySem.W.Frag}{m:List Nat}{r r':List Addr}{H H':Hp}{h':Hh}{fl:Fl}{ai:Fr}{Q:Ends}(q:Fin K m r H h' fl ai Q)(f:Fm K r r' H H'):Fin K m r' H' h' fl ai Q:=by
 cases fl with
 |nx=>exact λs2 H2 r2 a b g=>q s2 H2 r2 a b (f.trans g)
 |bk=>exact λs2 H2 r2 a b g=>q s2 H2 r2 a b (f.trans g)
 |ct=>exact λs2 H2 r2 a b g=>q s2 H2 r2 a b (f.trans g)
 |ret d=>exact Res.later q f
inductive Py(K:PySem.W.Frag)(m:List Nat)(P:aF)(w:Nat)(st:S)(Q:Ends)(s:L2.St)(H:Hp):Prop
 |mk (r:List Addr) (fr:Fr) (h:Hh) (fl:Fl) (ai:Fr) (h':Hh) (c0:SR K m H r fr s) (c1:HR K H r h) (c2:Ev.ex P w st fr h=.ok (fl,ai) h') (c3:Fin K m r H h' fl ai Q):Py K m P w st Q s H
inductive iY(K:PySem.W.Frag)(m:List Nat)(P:aF)(w:Nat)(ss:Ss)(Q:Ends)(s:L2.St)(H:Hp):Prop
 |mk (r:List Addr) (fr:Fr) (h:Hh) (fl:Fl) (ai:Fr) (h':Hh) (c0:SR K m H r fr s) (c1:HR K H r h) (c2:Ev.exs P w ss fr h=.ok (fl,ai) h') (c3:Fin K m r H h' fl ai Q):iY K m P w ss Q s H
def PS.of{X:Cx}{st:Stmt}{t t':TS}(h:PS X st t)(w:∀Q s H,t' Q s H->t Q s H):PS X st t':=λpins s σ H Q I q=>h pins s σ H Q I (w _ _ _ q)
def eY.of{X:Cx}{st:List Stmt}{t t':TS}(h:eY X st t)(w:∀Q s H,t' Q s H->t Q s H):eY X st t':=λpins s σ H Q I q=>h pins s σ H Q I (w _ _ _ q)
section
variable(G:Tb)(n:Nat)(sc:Scope)(N:List Str)(df:Bool)(m:List Nat)
noncomputable def JS(st:S)(x:Stmt):Prop:=∀X,Good G n sc N df X->PS X x (Py X.K m (Ev.run G.F G.w n) G.w st)
noncomputable def ku(ss:Ss)(xs:List Stmt):Prop:=∀X,Good G n sc N df X->eY X xs (iY X.K m (Ev.run G.F G.w n) G.w ss)
end
section
variable{G:Tb}{n:Nat}{sc:Scope}{N:List Str}{df:Bool}{m:List Nat}{a:E}{xa tg:Expr}{pos:Pos}
def GJ:ku G n sc N df m .nil []:=λX g=>eY.of vZ λQ s H q=>by
 obtain⟨r,fr,h,fl,ai,h',sr,hr,e,q⟩:=q;simp only[Ev.exs]at e;cases e;exact q s H r sr hr .refl
def Ct{st:S}{ss:Ss}{x:Stmt}{xs:List Stmt}(h1:JS G n sc N df m st x)(h2:ku G n sc N df m ss xs):ku G n sc N df m (.cons st ss) (x :: xs):=λX g=>eY.of (jy (h1 X g) (h2 X g)) λQ s H q=>by
 obtain⟨r,fr,h,fl,ai,h',sr,hr,e,q⟩:=q;simp only[Ev.exs]at e;obtain⟨⟨fk,af⟩,h1,e1,e⟩:=Ev.ah e;refine⟨r,fr,h,fk,af,h1,sr,hr,e1,?_⟩;cases fk with
 |nx=>exact λs1 H1 r1 J2 hr1 f1=>⟨r1,af,h1,fl,ai,h',J2,hr1,e,q.later f1⟩
 |bk=>cases e;exact q
 |ct=>cases e;exact q
 |ret d=>cases e;exact q
def J3(j i:Nat){x:Str}{pos':Pos}(hm:m.Nodup)(hN:N.Nodup)(ha:JE G n sc N df m a xa)(hs:∀env:Env,swapsWith xa (some (.Name x pos')) pos.line env=pure false:=by intro _;rfl)(hj:m[j]?=some i:=by rfl)(rV:N[j]?=some x:=by rfl)
  (hl:sc.names.lookup x=some .local\/(df=true/\sc.names.lookup x=some .cell):=by first|exact Or.inl rfl|exact Or.inr ⟨rfl,rfl⟩):JS G n sc N df m (.set i a) (.Assign [.Name x pos'] xa pos):=λX g=>by
 obtain⟨h1,h2⟩:=g.loc hl;refine PS.of (pN (i:=j) (by rw[g.nm];exact hN) (by rw[g.nm];exact rV) h1 (ha X g) (hs _) h2) λQ s H q=>?_;obtain⟨r,fr,h,fl,ai,h',sr,hr,e,q⟩:=q;simp only[Ev.ex]at e;obtain⟨d,h1,e1,e⟩:=Ev.ah e;cases e;exact⟨r,fr,h,d,_,sr,hr,e1,λv H1 r1 v1 hr1 f1=>q _ H1 r1 ((sr.mono f1).set hm hj v1) hr1 f1⟩
def GK{l:List Nat}(ha:JE G n sc N df m a xa)(hg:JG G n sc N df m (.many l) tg)(hs:∀env:Env,swapsWithSole [tg] xa pos.line env=pure false:=by intro _;rfl)(hw:∀env:Env,swappedStores [tg] xa env=pure none:=by intro _;rfl)
  (h1:∀env:Env,(assignEach [tg] env).map (·.2)=[assign tg env]:=by intro _;rfl):JS G n sc N df m (.iH l a) (.Assign [tg] xa pos):=λX g=>PS.of (IY (ha X g) (hg X g) (hs _) (hw _) (h1 _)) λQ s H q=>by
 obtain⟨r,fr,h,fl,ai,h',sr,hr,e,q⟩:=q;simp only[Ev.ex]at e;obtain⟨d,h2,e1,e⟩:=Ev.ah e;split at e
 .rename_i aq e2;cases e;exact⟨r,fr,h,d,_,sr,hr,e1,λv H1 r1 v1 hr1 f1=>⟨r1,fr,_,d,_,sr.mono f1,hr1,v1,e2,λs' SE=>q s' H1 r1 SE hr1 f1⟩⟩
 .cases e
def J4(ha:JE G n sc N df m a xa)(hs:∀env:Env,swapsWith xa none pos.line env=pure false:=by intro _;rfl):JS G n sc N df m (.exp a) (.Expr xa pos):=λX g=>PS.of (Gg (ha X g) (hs _)) λQ s H q=>by
 obtain⟨r,fr,h,fl,ai,h',sr,hr,e,q⟩:=q;simp only[Ev.ex]at e;obtain⟨d,h1,e1,e⟩:=Ev.ah e;cases e;exact⟨r,fr,h,d,_,sr,hr,e1,λv H1 r1 v1 hr1 f1=>q s H1 r1 (sr.mono f1) hr1 f1⟩
def J5(ha:JE G n sc N df m a xa):JS G n sc N df m (.ret a) (.Return (some xa) pos):=λX g=>PS.of (tQ (ha X g)) λQ s H q=>by
 obtain⟨r,fr,h,fl,ai,h',sr,hr,e,q⟩:=q;simp only[Ev.ex]at e;obtain⟨d,h1,e1,e⟩:=Ev.ah e;cases e;exact⟨r,fr,h,d,_,sr,hr,e1,q⟩
def J6:JS G n sc N df m .cnt (.Continue pos):=λX g=>PS.of vE λQ s H q=>by
 obtain⟨r,fr,h,fl,ai,h',sr,hr,e,q⟩:=q;simp only[Ev.ex]at e;cases e;exact q s H r sr hr .refl
def J7{ta tb:Ss}{ya yb:List Stmt}(hc:JT G n sc N df m a xa)(h1:ku G n sc N df m ta ya)(h2:ku G n sc N df m tb yb):JS G n sc N df m (.iff a ta tb) (.If xa ya yb pos):=λX g=>PS.of (ym (hc X g) (h1 X g) (h2 X g)) λQ s H q=>by
 obtain⟨r,fr,h,fl,ai,h',sr,hr,e,q⟩:=q;simp only[Ev.ex]at e;obtain⟨k,h3,e1,e⟩:=Ev.ah e;refine⟨r,fr,h,k,h3,sr,hr,e1,λH1 r1 hr1 f1=>?_⟩;cases k with
 |true=>exact⟨r1,fr,h3,fl,ai,h',sr.mono f1,hr1,e,q.later f1⟩
 |false=>exact⟨r1,fr,h3,fl,ai,h',sr.mono f1,hr1,e,q.later f1⟩
def Good.pass{X:Cx}(g:Good G n sc N df X):PassesOwn (model X.prog X.w) X.A X.env X.xe:=by
 rw[g.xe];exact PassesOwn.never
noncomputable def FN(K:PySem.W.Frag)(m:List Nat)(fk:Fl)(fY:Fr)(h4:Hh)(r1:List Addr)(H1:Hp)(s5:L2.St)(H5:Hp):Prop:=(fk=.nx\/fk=.ct)/\∃r5,SR K m H5 r5 fY s5/\HR K H5 r5 h4/\Fm K r1 r5 H1 H5
section
variable{K:PySem.W.Frag}{r r1 r2:List Addr}{H H1 H2:Hp}{h4 h':Hh}{fl fk:Fl}{fY ai:Fr}{Q:Ends}
noncomputable def Cu(L:R (Fl×Fr))(p:Fl×Fr)(h1:Hh):R (Fl×Fr):=match p.1 with
 |.nx=>L
 |.ct=>L
 |.bk=>.ok (.nx,p.2) h1
 |.ret x=>.ok (.ret x,p.2) h1
def GL{L:R (Fl×Fr)}(e:Cu L (fk,fY) h4=.ok (fl,ai) h')(z:fk=.nx\/fk=.ct):L=.ok (fl,ai) h':=by rcases z with rfl|rfl<;>exact e
def Cv{L:R (Fl×Fr)}(e:Cu L (fk,fY) h4=.ok (fl,ai) h')(q:Fin K m r H h' fl ai Q)(f:Fm K r r1 H H1)(f2:Fm K r1 r2 H1 H2):Fin K m r2 H2 h4 fk fY { Q with nx:=FN K m fk fY h4 r1 H1,ct:=FN K m fk fY h4 r1 H1,bk:=Q.nx }:=by
 cases fk with
 |nx=>exact λs6 H6 r6 Aq Ar f6=>⟨.inl rfl,r6,Aq,Ar,f2.trans f6⟩
 |ct=>exact λs6 H6 r6 Aq Ar f6=>⟨.inr rfl,r6,Aq,Ar,f2.trans f6⟩
 |bk=>
  cases e;exact λs6 H6 r6 Aq Ar f6=>q s6 H6 r6 Aq Ar ((f.trans f2).trans f6)
 |ret d=>
  cases e;exact Res.later q (f.trans f2)
noncomputable def jZ(P:aF)(w:Nat)(t:T)(tb:Ss):D->Fr->Hh->R (Fl×Fr):=λd aq h2=>match Ev.bw t d aq with
 |some bf=>Ev.exs P w tb bf h2
 |none=>.bad
def t8(P:aF)(w:Nat)(t:T)(it:Ev.It)(tb:Ss)(fr:Fr)(h:Hh):Ev.ex P w (.for t it tb) fr h=(Ev.dD P it fr h).bind λs h1=>Ev.forL (jZ P w t tb) s.2 s.1 fr h1:=by simp only[Ev.ex];rfl
def rY(f:D->Fr->Hh->R (Fl×Fr))(ck:List (Nat×List D))(d:D)(ds:List D)(fr:Fr)(h:Hh):Ev.forL f ck (d :: ds) fr h=if Ev.stays h ck then (f d fr h).bind λp h1=>Cu (Ev.forL f ck ds p.2 h1) p h1 else .bad:=rfl
noncomputable def FW(K:PySem.W.Frag)(m:List Nat)(f:D->Fr->Hh->R (Fl×Fr))(src:Src)(r1:List Addr)(H1:Hp)(o:Fl×Fr)(h':Hh)(i k:Nat)(s3:L2.St)(H3:Hp):Prop:=
 k=src.1.length - i/\i<=src.1.length/\∃r3 bf h3,SR K m H3 r3 bf s3/\HR K H3 r3 h3/\Fm K r1 r3 H1 H3/\Ev.forL f src.2 (src.1.drop i) bf h3=.ok o h'
def Cw{P:aF}{w:Nat}{t:T}{tb:Ss}{src:Src}{J:L2.It}{i k:Nat}{s3:L2.St}{H3:Hp}(hJ:qL K r1 H1 src J)(q:Fin K m r H h' fl ai Q)(f1:Fm K r r1 H H1)(hW:FW K m (jZ P w t tb) src r1 H1 (fl,ai) h' i k s3 H3) :
  (J.stop i H3/\Q.nx s3 H3)\/(J.go i H3/\∃N:L2.St->Hp->Prop,(∀σ' H',N σ' H'->∃m',m'<k/\FW K m (jZ P w t tb) src r1 H1 (fl,ai) h' (i+1) m' σ' H')/\∀x H',J.z8 i H3 x H'->gJ K m t x s3 H' λσ2 H2=>iY K m P w tb { Q with nx:=N,ct:=N,bk:=Q.nx } σ2 H2):=by
 obtain⟨rfl,hle,r3,bf,h3,t9,mK,f3,e3⟩:=hW;rcases XY i src.1.length with hlt|hge
 .rw[Wy hlt,rY]at e3;split at e3
  .rename_i hst;obtain⟨g1,g2⟩:=(hJ i H3 r3 h3 mK f3 hst).1 src.1[i] (xZ hlt);obtain⟨⟨fk,fY⟩,h4,e4,e3⟩:=Ev.ah e3;unfold jZ at e4;split at e4
   .rename_i jL e5;exact .inr ⟨g1,FN K m fk fY h4 r1 H1,λs5 H5 ⟨hfl,r5,pT,rZ,f5⟩=>⟨_,Xu hlt (WE i),rfl,hlt,r5,fY,h4,pT,rZ,f5,GL e3 hfl⟩,λx H4 y=>
     let ⟨r4,v4,oh,f4⟩:=g2 x H4 y
     ⟨r4,bf,h3,_,jL,t9.mono f4,oh,v4,e5,λs5 pT=>⟨r4,jL,h3,fk,fY,h4,pT,oh,e4,Cv e3 q f1 (f3.trans f4)⟩⟩⟩
   .cases e4
  .cases e3
 .have hi:i=src.1.length:=Yj hle hge;subst hi;rw[X7]at e3;unfold Ev.forL at e3;split at e3
  .rename_i hst;cases e3;exact .inl ⟨(hJ _ H3 r3 _ mK f3 hst).2 (vn _),q s3 H3 r3 t9 mK (f1.trans f3)⟩
  .cases e3
end
def J8{t:T}{it:Ev.It}{tb:Ss}{yb:List Stmt}(hi:JI G n sc N df m it tg xa)(hg:JG G n sc N df m t tg)(h1:ku G n sc N df m tb yb)(hs:∀(env:Env) x,foldedSetIterable xa env x=pure x:=by intro _ _;rfl) :
  JS G n sc N df m (.for t it tb) (.For tg xa yb [] pos):=λX g=>PS.of (Ac g.pass g.calm (hi X g) (hg X g) (h1 X g) (hs _)) λQ s H q=>by
 obtain⟨r,fr,h,fl,ai,h',sr,hr,e,q⟩:=q;rw[t8]at e;obtain⟨src,h2,e1,e⟩:=Ev.ah e;exact⟨r,fr,h,src,h2,sr,hr,e1,λJ H1 r1 hr1 f1 hJ=>⟨FW X.K m (jZ (Ev.run G.F G.w n) G.w t tb) src r1 H1 (fl,ai) h',⟨src.1.length,rfl,Wm _,r1,fr,h2,sr.mono f1,hr1,.refl,by rw[Xx];exact e⟩,λi k s3 H3 hW=>Cw hJ q f1 hW⟩⟩
end
def getElem?_range'{k j i:Nat}(h:(List.range k)[j]?=some i):i=j:=by
 obtain⟨h1,h2⟩:=List.getElem?_eq_some_iff.mp h;simpa using h2.symm
def oU{K:PySem.W.Frag}{H:Hp}{r:List Addr}{ds:List D}{vs:List V}{N:List Str}{fn:Ev.Fn}(v1:aI K H r ds vs)(hN:vs.length<=N.length):SR K (List.range N.length) H r (Ev.dJ fn ds) (L2.start N vs):=by
 refine⟨by unfold L2.start;simp;omega,λj i d e1 e2=>?_⟩;have e3:=getElem?_range' e1;subst e3;unfold Ev.dJ at e2;by_cases hj:i<ds.length
 .rw[Mv (by simpa using hj),Vz]at e2;cases e4:ds[i]? with
  |none=>rw[e4]at e2;cases e2
  |some d'=>
   rw[e4]at e2;cases e2;obtain⟨v,q1,q2⟩:=v1.get e4;refine⟨v,?_,q2⟩;unfold L2.start;rw[Mv (by have:=v1.length;simpa using (by omega:i<vs.length)),Vz,q1];rfl
 .rw[V6 (by simpa using Nat.not_lt.mp hj),Yh]at e2;split at e2<;>cases e2
section
variable{P:Program}{w:World}{K:PySem.W.Frag}{mg:Str->Option Value}{base:Heap}{G:Tb}
noncomputable def nE(P:Program)(w:World)(K:PySem.W.Frag)(mg:Str->Option Value)(base:Heap)(G:Tb)(n:Nat):Prop:=∀(f:Nat) i,G.fi[f]?=some i->fK P w K mg base jd n i.addr i.fd i.ps (ko K G.F G.w n f)
structure Top(P:Program)(w:World)(K:PySem.W.Frag)(mg:Str->Option Value)(G:Tb):Prop where
 fn:∀(f:Nat) i,G.fi[f]?=some i->mg i.name=some (.ref i.addr)/\PySem.W.keepIn K (.ref i.addr)=true/\Binds K i.fd i.ps []
 bl:∀x∈G.bl,mg x=none
 cs:∀x d,(x,d)∈G.cs->∃v u,mg x=some u/\RelV v u/\wD K d v
 dk:∀x kvs,(x,kvs)∈G.dk->∃a,mg x=some (.ref a)/\∀h:Heap,K.In h->StrTab P w h a (tabOf kvs)
def GN{f:Addr}{fd:FuncData}{ps:List Str}{k:Nat}:fK P w K mg base jd 0 f fd ps (ko K G.F G.w 0 k):=by
 have no:∀vs H Q E,¬ ko K G.F G.w 0 k vs H Q E:=λvs H Q E h=>by
  obtain⟨r,h,ds,d,h',_,_,e,_⟩:=h;cases e
 exact⟨λvs H Q E h=>absurd h (no vs H Q E),λA outer s H args us vs Q E _ _ _ _ h=>absurd h (no vs H Q E)⟩
def ef{x qual:Str}{st:Stmt}{i:FI}{N:List Str}{n f:Nat}{fn:Ev.Fn}(T:Top P w K mg G)(A0:nE P w K mg base G n)(F:mC K x qual st i.addr i.fd)(S:bG N i.ps (aB st))(hf:G.F[f]?=some fn)(hp:i.ps.length=fn.np)
  (hb:ku G n (aB st) N true (List.range N.length) fn.body (cE st)):fK P w K mg base jd (n+1) i.addr i.fd i.ps (ko K G.F G.w (n+1) f):=by
 have hlen:∀vs H Q E,ko K G.F G.w (n+1) f vs H Q E->vs.length=i.ps.length:=λvs H Q E h=>by
  obtain⟨r,h,ds,d,h',v1,_,e,_⟩:=h;simp only[Ev.fP,hf]at e;split at e
  .rename_i z;rw[v1.length,z,hp]
  .cases e
 refine F.ok S hlen λcdv A outer s H vs Q E hr g6=>?_;have hl:=hlen vs H Q E g6;have hN:vs.length<=N.length:=by
  have:=Vw List.length S.pre;rw[VM]at this;omega
 have g:Good G n (aB st) N true (iW jd P w K mg base N qual (aB st) i.addr cdv A outer s H E).dB:=
  ⟨rfl,rfl,rfl,λ_ _=>rfl,hr,rfl,λf i hi=>⟨(T.fn f i hi).1,(T.fn f i hi).2.1,(T.fn f i hi).2.2,A0 f i hi⟩,T.bl,T.cs,T.dk⟩
 refine⟨_,hb _ g,?_⟩;obtain⟨r,h,ds,d,h',v1,hr1,e,q⟩:=g6;simp only[Ev.fP,hf]at e;split at e
 .unfold Ev.endOf at e;obtain⟨⟨fl,ai⟩,h2,e1,e⟩:=Ev.ah e;refine⟨r,Ev.dJ fn ds,h,fl,ai,h2,oU v1 hN,hr1,e1,?_⟩;cases fl with
  |nx=>
   cases e;exact λs' H' r' _ hr' f'=>q _ H' r' rfl hr' f'
  |ret d'=>
   cases e;exact q
  |bk=>cases e
  |ct=>cases e
 .cases e
end
end Sm
namespace Sm
open PySem PySem.Spec PyProof.Rows L2 PySem.SeqAt
open Ev (D O Hh Fr R aF E Es Eo T S Ss Fl Src aU aR TY BI ME)
end Sm
namespace L2
open PySem PySem.Spec PyProof.Rows
end L2
namespace Sm
open PySem PySem.Spec PyProof.Rows L2 PySem.SeqAt
open Ev (D O Hh Fr R aF E Es Eo T S Ss Fl Src aU aR TY BI ME)
end Sm
namespace Sm
open PySem PySem.Spec PyProof.Rows L2
open Ev (D O Hh Fr R aF E Es Eo T S Ss Fl Src aU aR TY BI ME)
theorem qM(env:Env):∀(names:List (Str×NameKind)) (acc:List (Str×Addr)),(∀x,(x,NameKind.free)∈names->∃c,env.cells.lookup x=some c)->(∀x c,acc.lookup x=some c->env.cells.lookup x=some c)->
  ∃cl,(forIn names acc (λ(x:Str×NameKind) cs=>if (x.2==NameKind.free)=true then (do let c <-cellOf env x.1;pure (ForInStep.yield ((x.1,c) :: cs)))else pure (ForInStep.yield cs)):Sem (List (Str×Addr)))=pure cl/\
   (∀x c,cl.lookup x=some c->env.cells.lookup x=some c)/\(∀x,(x,NameKind.free)∈names->(cl.lookup x).isSome=true)/\(∀x,(acc.lookup x).isSome=true->(cl.lookup x).isSome=true)
 |[],acc,_,h2=>⟨acc,rfl,h2,(λx h=>by simp at h),λ_ h=>h⟩
 | (y,k) :: r,acc,h1,h2=>by
  by_cases hk:k=.free
  .subst hk;obtain⟨c,hc⟩:=h1 y (VS ..);have h2':∀x c',((y,c) :: acc).lookup x=some c'->env.cells.lookup x=some c':=λx c' e=>by
    rw[Wl]at e;split at e
    .rename_i hx;have hx':x=y:=by simpa using hx
     cases e;rw[hx'];exact hc
    .exact h2 x c' e
   obtain⟨cl,e1,e2,e3,e4⟩:=qM env r ((y,c) :: acc) (λx hx=>h1 x (VA _ hx)) h2';refine⟨cl,?_,e2,λx hx=>?_,λx hx=>e4 x ?_⟩
   .rw[YZ];simp only[YO,VI];unfold cellOf;rw[hc];exact e1
   .rcases List.mem_cons.mp hx with z|z
    .cases z;exact e4 y (by simp[Wl])
    .exact e3 x z
   .rw[Wl];split
    .rfl
    .exact hx
  .have hk':(k==NameKind.free)=false:=by simpa using hk
   obtain⟨cl,e1,e2,e3,e4⟩:=qM env r acc (λx hx=>h1 x (VA _ hx)) h2;refine⟨cl,?_,e2,λx hx=>?_,e4⟩
   .rw[YZ];simp only[hk',VH,Wb];exact e1
   .rcases List.mem_cons.mp hx with z|z
    .cases z;exact absurd rfl hk
    .exact e3 x z
def GO{scope:Scope}{env:Env}(h:∀x,(x,NameKind.free)∈scope.names->∃c,env.cells.lookup x=some c) :
  ∃cl,closureFor scope env=pure cl/\(∀x c,cl.lookup x=some c->env.cells.lookup x=some c)/\∀x,(x,NameKind.free)∈scope.names->∃c,cl.lookup x=some c:=by
 obtain⟨cl,e1,e2,e3,_⟩:=qM env scope.names [] h (λx c e=>by simp at e);refine⟨cl,?_,e2,λx hx=>Option.isSome_iff_exists.mp (e3 x hx)⟩;unfold closureFor;show(forIn scope.names [] _ >>= λcs=>pure cs:Sem (List (Str×Addr)))=pure cl;have e:(forIn scope.names [] (λ(x:Str×NameKind) cs=>if (x.2==NameKind.free)=true then (do let c <-cellOf env x.1;pure (ForInStep.yield ((x.1,c) :: cs)))else pure (ForInStep.yield cs)):Sem (List (Str×Addr)))=pure cl:=e1;exact Vw (λt:Sem (List (Str×Addr))=>t >>= λcs=>pure cs) e
noncomputable def fq(sc scope:Scope):Scope:={ scope with names:=scope.names.map λ(n,k)=>if (k==.free&&sc.kind==.function&&sc.names.lookup n==some .cell)then (n,.cell)else (n,k)}
def qN{env:Env}{sc scope:Scope}(h:env.scope=sc):relabel scope env=fq sc scope:=by
 subst h;rfl
theorem r8{sc:Scope}:∀{names:List (Str×NameKind)}{x:Str},(∀y∈names,y.2≠.cell)->
  ((names.map λ(n,k)=>if (k==NameKind.free&&sc.kind==.function&&sc.names.lookup n==some .cell)then (n,NameKind.cell)else (n,k)).lookup x=some .cell\/
   (names.map λ(n,k)=>if (k==NameKind.free&&sc.kind==.function&&sc.names.lookup n==some .cell)then (n,NameKind.cell)else (n,k)).lookup x=some .free)->(x,NameKind.free)∈names
 |[],_,_,h=>by rcases h with h|h<;>simp at h
 | (n,k) :: r,x,hc,h=>by
  have ih:=@r8 sc r x λy hy=>hc y (VA _ hy);simp only[VO]at h;have nk:∀(k':NameKind),(if (k==NameKind.free&&sc.kind==.function&&sc.names.lookup n==some .cell)then (n,NameKind.cell)else (n,k))=(n,k')->k'=.cell\/k'=.free->k=.free:=λk' e hk'=>by
   split at e
   .rename_i z;simp only[gV,XS]at z;exact z.1.1
   .cases e;rcases hk' with z|z
    .exact absurd z (hc (n,_) (VS ..))
    .exact z
  generalize hg:(if (k==NameKind.free&&sc.kind==.function&&sc.names.lookup n==some .cell)then (n,NameKind.cell)else (n,k))=p at h nk
  have hp:p.1=n:=by rw[<-hg];split<;>rfl
  obtain⟨p1,p2⟩:=p;simp only at hp;subst hp;simp only[Wl]at h;cases hx:(x==p1)with
  |true=>
   have hx':x=p1:=by simpa using hx
   rw[hx]at h;have:=nk p2 rfl (by rcases h with h|h<;>simp at h<;>simp[h]);subst this;rw[hx'];exact VS ..
  |false=>
   rw[hx]at h;exact VA _ (ih h)
section
variable{prog:Program}{w:World}{A:Around}{R':Result->Shared->Prop}{s:Shared}
abbrev eO:Value->Shared->Prop:=λ_ _=>False
noncomputable def wF(ifs:List Expr)(env:Env):Sem Bool:=forIn ifs true λc r=>if r=true then do let ok <-isTrue c env (eval c env);pure (ForInStep.yield ok)else pure (ForInStep.yield r)
def ua{elt target iter:Expr}{ifs:List Expr}{scope:Scope}{pos:Pos}{it acc:Value}{env:Env}(I:Nat->Shared->Prop)
  (turn:∀n s,I n s->wpAny (model prog w) A (pyNext it) (λr s₁=>match r with
   |none=>R' (.ok .next) s₁
   |some v=>wpAny (model prog w) A (letOwnedTupleGo target it v) (λ_ s₂=>wpAny (model prog w) A (assign target env v) (λ_ s₃=>
     wpAny (model prog w) A (wF ifs env) (λok s₄=>
      if ok=true then wpAny (model prog w) A (eval elt env) (λx s₅=>
       wpAny (model prog w) A (call (.builtin "list.append") [acc,x]) (λ_ s₆=>∃m,m<n/\I m s₆) eO s₅) eO s₄
      else ∃m,m<n/\I m s₄) eO s₃) eO s₂) eO s₁) eO s)
  (n:Nat) (h:I n s):codeAny (model prog w) A (.compLoop (.ListComp elt [⟨target,iter,ifs,0⟩] scope pos) 0 it acc env) R' s:=by
 refine codeAny_loop rfl I (λn s hI=>?_) n h;show wpAny _ A ((compTurn (.ListComp elt [⟨target,iter,ifs,0⟩] scope pos) 0 it acc env).onRaise (λx=>do noteFrame x env;theTreesLotGoes x)) _ _ s;refine wpAny_noted ?_;rw[compTurn_list];refine bT (wpAny_standAt (bT (Vx (turn n s hI) (λr s₁ h₁=>?_) λ_ _ h'=>h'.elim)));cases r with
 |none=>exact bY h₁
 |some v=>
  refine bT (Vx h₁ (λ_ s₂ h₂=>?_) λ_ _ h'=>h'.elim);refine bT (Vx h₂ (λ_ s₃ h₃=>bT (Vx h₃ (λok s₄ h₄=>?_) λ_ _ h'=>h'.elim)) λ_ _ h'=>h'.elim);cases ok with
  |false=>exact bY ⟨rfl,h₄⟩
  |true=>
   exact bT (bT (Vx h₄ (λx s₅ h₅=>bT (Vx h₅ (λ_ s₆ h₆=>bY (bY ⟨rfl,h₆⟩)) λ_ _ h'=>h'.elim)) λ_ _ h'=>h'.elim))
end
inductive Pz(K:PySem.W.Frag)(m:List Nat)(P:aF)(e:Eo)(s:L2.St)(H:Hp)(Q:Bool->Hp->Prop):Prop
 |mk (r:List Addr) (fr:Fr) (h:Hh) (k:Bool) (h':Hh) (c0:SR K m H r fr s) (c1:HR K H r h) (c2:Ev.g8 P e fr h=.ok k h') (c3:∀H' r',HR K H' r' h'->Fm K r r' H H'->Q k H'):Pz K m P e s H Q
noncomputable def JC(G:Tb)(n:Nat)(sc:Scope)(N:List Str)(df:Bool)(m:List Nat)(e:Eo)(ifs:List Expr):Prop:=∀X,Good G n sc N df X->∀(pins:List (Addr×Obj)) (s:Shared) (σ:L2.St) (H:Hp) (Q:Bool->Hp->Prop),Inv X pins σ H s->
 Pz X.K m (Ev.run G.F G.w n) e σ H Q->wpAny (model X.prog X.w) X.A (wF ifs X.env) (TP X pins σ Q) X.xe s
section
variable{G:Tb}{n:Nat}{sc:Scope}{N:List Str}{df:Bool}{m:List Nat}{a:E}{xa:Expr}
def NO:JC G n sc N df m .no []:=λX g pins s σ H Q I q=>by
 obtain⟨r,fr,h,k,h',sr,hr,e,q⟩:=q;simp only[Ev.g8]at e;cases e;exact bY ⟨H,I,q H r hr .refl⟩
def J9(hc:JT G n sc N df m a xa):JC G n sc N df m (.yes a) [xa]:=λX g pins s σ H Q I q=>by
 obtain⟨r,fr,h,k,h',sr,hr,e,q⟩:=q;simp only[Ev.g8]at e;exact wpAny_tests_one (hc X g pins s σ H Q I ⟨r,fr,h,k,h',sr,hr,e,q⟩)
end
noncomputable def pU(X:Cx)(N':List Str)(scope:Scope)(cl:List (Str×Addr))(C:Addr)(s3:Shared)(H3:Hp)(fp:List Addr):Cx:=
 { X with N:=N',s₀:=s3,H₀:=H3,env:=compEnvC scope cl C X.env,outer:=X.stack,stack:=X.stack,ex:=fp,fn:=λ_=>false,pn:=[],xe:=λ_ _=>False }
noncomputable def namesOk(sc:Scope)(N:List Str)(m:List Nat)(scope:Scope)(t:T)(N':List Str)(m':List Nat):Prop:=m'.length=N'.length/\
 ∀(j:Nat) x i,N'[j]?=some x->m'[j]?=some i->i∈Ev.slots t\/((x,NameKind.free)∈scope.names/\∃jo:Nat,N[jo]?=some x/\m[jo]?=some i)
noncomputable def pV(sc:Scope)(N:List Str)(m:List Nat)(scope:Scope)(t:T)(N':List Str)(m':List Nat):Bool:=m'.length==N'.length&&
 (List.range N'.length).all λj=>match N'[j]?,m'[j]? with
  |some x,some i=>(Ev.slots t).contains i || (scope.names.contains (x,NameKind.free)&&(List.range N.length).any λjo=>N[jo]?==some x&&m[jo]?==some i)
  |_,_=>true
def namesOk.of{sc:Scope}{N:List Str}{m:List Nat}{scope:Scope}{t:T}{N':List Str}{m':List Nat}(h:pV sc N m scope t N' m'=true):namesOk sc N m scope t N' m':=by
 unfold pV at h;rw[gV]at h;refine⟨by simpa using h.1,λj x i e1 e2=>?_⟩;have hj:j<N'.length:=(List.getElem?_eq_some_iff.mp e1).1;have q:=List.all_eq_true.mp h.2 j (List.mem_range.mpr hj);rw[e1,e2]at q;simp only[V3,gV,YU]at q;rcases q with q|⟨q1,jo,_,q2⟩
 .exact .inl (by simpa using q)
 .exact .inr ⟨by simpa using q1,jo,by simpa using q2.1,by simpa using q2.2⟩
def vG{t:T}{d:D}{fr aq:Fr}(e:Ev.bw t d fr=some aq){i:Nat}(hi:i∉Ev.slots t):aq[i]?=fr[i]?:=by
 have go:∀(l:List Nat) (ds:List D) (fr aq:Fr),Ev.cP l ds fr=some aq->i∉l->aq[i]?=fr[i]?:=by
  intro l;induction l with
  |nil=>
   intro ds fr aq e _;cases ds with
   |nil=>cases e;rfl
   |cons _ _=>cases e
  |cons j l ih=>
   intro ds fr aq e hj;cases ds with
   |nil=>cases e
   |cons d ds=>
    rw[ih ds _ _ e λz=>hj (VA _ z),gI];intro z;exact hj (by rw[z];exact VS ..)
 cases t with
 |one j=>
  cases e;rw[gI];intro z;exact hi (by simp[Ev.slots,z])
 |many l=>
  cases d with
  |tup ds=>exact go l ds fr aq e hi
  |_=>cases e
def SR.unbind{K:PySem.W.Frag}{m:List Nat}{H:Hp}{r:List Addr}{t:T}{d:D}{fr aq:Fr}{s:L2.St}(sr:SR K m H r aq s)(e:Ev.bw t d fr=some aq)(hu:Ev.undef t fr=true):SR K m H r fr s:=by
 refine⟨sr.len,λj i d' e1 e2=>sr.sl j i d' e1 ?_⟩;rw[vG e]
 .exact e2
 .intro hi;have q:=List.all_eq_true.mp hu i hi;rw[e2]at q;cases q
structure j3(sc scope:Scope):Prop where
 kind:scope.kind=.function
 As:∀y∈scope.names,y.2≠.cell
 free:∀x,(x,NameKind.free)∈scope.names->(sc.names.lookup x=some .cell\/sc.names.lookup x=some .free)/\scope.names.lookup x=some .free
 loc:∀y∈scope.names,y.2=.local->scope.names.lookup y.1=some .local
noncomputable def EJ(sc scope:Scope):Bool:=scope.kind==.function&&scope.names.all λy=>y.2 != .cell&&(y.2 != .free || ((sc.names.lookup y.1==some .cell ||sc.names.lookup y.1==some .free)&&scope.names.lookup y.1==some .free))&&(y.2 != .local ||scope.names.lookup y.1==some .local)
def j3.of{sc scope:Scope}(h:EJ sc scope=true):j3 sc scope:=by
 unfold EJ at h;rw[gV]at h;have q:∀y∈scope.names,y.2≠.cell/\(y.2=.free->(sc.names.lookup y.1=some .cell\/sc.names.lookup y.1=some .free)/\scope.names.lookup y.1=some .free)/\(y.2=.local->scope.names.lookup y.1=some .local):=λy hy=>by
  have z:=List.all_eq_true.mp h.2 y hy;simp only[gV,V3,bne_iff_ne,XS,ne_eq]at z;refine⟨z.1.1,λe=>?_,λe=>?_⟩
  .rcases z.1.2 with w|w
   .exact absurd e w
   .exact w
  .rcases z.2 with w|w
   .exact absurd e w
   .exact w
 exact⟨by simpa using h.1,λy hy=>(q y hy).1,λx hx=>(q _ hx).2.1 rfl,λy hy=>(q y hy).2.2⟩
theorem sd{sc:Scope}:∀{names:List (Str×NameKind)}{x:Str},names.lookup x=some .free->
  ((names.map λ(n,k)=>if (k==NameKind.free&&sc.kind==.function&&sc.names.lookup n==some .cell)then (n,NameKind.cell)else (n,k)).lookup x=some .cell\/
   (names.map λ(n,k)=>if (k==NameKind.free&&sc.kind==.function&&sc.names.lookup n==some .cell)then (n,NameKind.cell)else (n,k)).lookup x=some .free)
 |[],_,h=>by simp at h
 | (n,k) :: r,x,h=>by
  have ih:=@sd sc r x;simp only[VO];simp only[Wl]at h;by_cases hc:(k==NameKind.free&&sc.kind==.function&&sc.names.lookup n==some .cell)=true
  .rw[cS hc];simp only[Wl];cases hx:(x==n)with
   |true=>exact .inl rfl
   |false=>rw[hx]at h;exact ih h
  .rw[Qm hc];simp only[Wl];cases hx:(x==n)with
   |true=>rw[hx]at h;exact .inr h
   |false=>rw[hx]at h;exact ih h
section
variable{G:Tb}{n:Nat}{sc scope:Scope}{N N':List Str}{df:Bool}{m m':List Nat}{t:T}{X:Cx}
def Good.comp(g:Good G n sc N df X){cl:List (Str×Addr)}{C:Addr}{s3:Shared}{H3:Hp}{fp:List Addr}:Good G n (fq sc scope) N' false (pU X N' scope cl C s3 H3 fp):=
 ⟨rfl,qN g.sc,g.calm,(λh=>by cases h),g.room,rfl,g.fn,g.bl,g.cs,g.dk⟩
def GP{pins:List (Addr×Obj)}{σ:L2.St}{H3:Hp}{s3:Shared}(g:Good G n sc N df X)(I:Inv X pins σ H3 s3)(hs:j3 sc scope){cl:List (Str×Addr)}(iu:∀x c,cl.lookup x=some c->X.env.cells.lookup x=some c)
  (j4:∀x,(x,NameKind.free)∈scope.names->∃c,cl.lookup x=some c) {fp:List Addr} (hfp:∀b∈fp,g5 X pins H3 b) (hfl:∀b∈fp,b<s3.heap.objs.size):(pU X N' scope cl s3.heap.objs.size s3 H3 fp).Ok where
 mod:=I.ok.mod
 kind:=hs.kind
 glob:=I.ok.glob
 blt:=I.ok.blt
 above:=vn _
 inj:=λx y c h1 h2=>I.ok.inj x y c (iu x c h1) (iu y c h2)
 has:=λx h=>by
  have h':(fq sc scope).names.lookup x=some .cell\/(fq sc scope).names.lookup x=some .free:=by
   rw[<-qN (scope:=scope) g.sc];exact h
  exact j4 x (r8 hs.As h')
 tP:=λx c h=>by cases h
 hd:=I.ok.hd
 frames:=I.ok.frames
 stk:=.inl rfl
 zV:=λb hb=>⟨So (hfl b hb),λx c e=>(hfp b hb).2.2.2.2.1 x c (iu x c e)⟩
 bs:=I.bs
 lS:=VE I.ok.lS I.sz
 oM:=λb o e hb=>by
  rcases(hfp b hb).2.2.2.1 with z|z
  .exact I.ok.oM b o e z
  .have:=Mt (I.ok.bs b o e).1;exact absurd (fB this z) (Wi _)
 oN:=λb hb z=>by
  rcases List.mem_cons.mp (I.pM b z)with q|q
  .exact(hfp b hb).2.1 q
  .exact(hfp b hb).2.2.1 q
 gM:=I.stack
 nV:=I.qF
open Classical in
noncomputable def sig(scope:Scope)(N N':List Str)(m':List Nat)(K:PySem.W.Frag)(H:Hp)(r:List Addr)(fr:Fr)(σ:L2.St):L2.St:=
 (List.range N'.length).map λj=>if h:∃v,∃x i,N'[j]?=some x/\m'[j]?=some i/\(x,NameKind.free)∈scope.names/\(∃jo:Nat,N[jo]?=some x/\σ[jo]?=some (some v))/\∀d,fr[i]?=some (some d)->RV K H r d v then some h.choose else none
def Ka{K:PySem.W.Frag}{H:Hp}{r:List Addr}{fr:Fr}{σ:L2.St}{j:Nat}{v:V}(h:(sig scope N N' m' K H r fr σ)[j]?=some (some v)) :
  ∃x i,N'[j]?=some x/\m'[j]?=some i/\(x,NameKind.free)∈scope.names/\(∃jo:Nat,N[jo]?=some x/\σ[jo]?=some (some v))/\∀d,fr[i]?=some (some d)->RV K H r d v:=by
 unfold sig at h;rw[Vz]at h;cases e:(List.range N'.length)[j]? with
 |none=>rw[e]at h;cases h
 |some j'=>
  have:=getElem?_range' e;subst this;rw[e]at h;simp only[YV,YK]at h;split at h
  .rename_i hh;cases h;exact hh.choose_spec
  .cases h
def Kc{K:PySem.W.Frag}{H:Hp}{r:List Addr}{fr:Fr}{σ:L2.St}(sr:SR K m H r fr σ)(hn:namesOk sc N m scope t N' m')(hu:Ev.undef t fr=true):SR K m' H r fr (sig scope N N' m' K H r fr σ):=by
 refine⟨by unfold sig;simp[hn.1],λj i d e1 e2=>?_⟩;have hj:j<N'.length:=by rw[<-hn.1];exact(List.getElem?_eq_some_iff.mp e1).1
 have hx:N'[j]?=some N'[j]:=xZ hj;rcases hn.2 j _ i hx e1 with hi|⟨h1,jo,h2,h3⟩
 .exfalso;have q:=List.all_eq_true.mp hu i hi;rw[e2]at q;cases q
 .obtain⟨v,h4,h5⟩:=sr.sl jo i d h3 e2;have ex:∃v,∃x i,N'[j]?=some x/\m'[j]?=some i/\(x,NameKind.free)∈scope.names/\(∃jo:Nat,N[jo]?=some x/\σ[jo]?=some (some v))/\∀d,fr[i]?=some (some d)->RV K H r d v:=
   ⟨v,N'[j],i,hx,e1,h1,⟨jo,h2,h4⟩,λd' e'=>by rw[e2]at e';cases e';exact h5⟩
  refine⟨ex.choose,?_,?_⟩
  .unfold sig;rw[Vz,WV hj];simp only[YV];rw[dif_pos ex]
  .obtain⟨x',i',q1,q2,q3,q4,q5⟩:=ex.choose_spec;rw[e1]at q2;cases q2;exact q5 d e2
def Cy{pins:List (Addr×Obj)}{σ:L2.St}{H3:Hp}{s3:Shared}(g:Good G n sc N df X)(I:Inv X pins σ H3 s3)(hs:j3 sc scope){cl:List (Str×Addr)}(iu:∀x c,cl.lookup x=some c->X.env.cells.lookup x=some c)
  (j4:∀x,(x,NameKind.free)∈scope.names->∃c,cl.lookup x=some c) {fp:List Addr} (hfp:∀b∈fp,g5 X pins H3 b) (hfl:∀b∈fp,b<s3.heap.objs.size) {h1:Heap} {tk:Nat} {mm:Str->Option Value}
  (hns:h1.Ns s3.heap.objs.size mm) (hk:∀b o,s3.heap.get? b=some o->h1.get? b=some o) {r:List Addr} {fr:Fr} :
  Inv (pU X N' scope cl s3.heap.objs.size s3 H3 fp) [] (sig scope N N' m' X.K H3 r fr σ) H3 { s3 with heap:=h1,toks:=tk }:=by
 refine⟨GP g I hs iu j4 hfp hfl,rfl,I.bare,Un.kept hk,⟨mm,hns,λj x v e1 e2 e3=>?_⟩,λx c e=>?_,I.hok.fresh (vn _),λx c e=>I.gj x c (iu x c e),(λp hp=>by simp[pU]at hp),I.hok.kept hk,(by unfold sig;simp[pU])⟩
 .obtain⟨x',i,q1,q2,q3,⟨jo,q4,q5⟩,_⟩:=Ka e2;have SG:N'[j]?=some x:=e1;rw[SG]at q1;cases q1;obtain⟨f1,f2⟩:=hs.free x q3;obtain⟨mO,UC,SH⟩:=I.loc;obtain⟨u,ru,lk⟩:=SH jo x v (by rw[g.nm];exact q4) q5 (by rw[g.sc];rcases f1 with z|z<;>simp[rL,z]);refine⟨u,ru,?_⟩;have hkd:X.env.kindOf x=some .cell\/X.env.kindOf x=some .free:=by unfold Env.kindOf;rw[g.sc];exact f1
  rcases lk with ⟨z,_⟩|⟨_,c,hc,hcell⟩
  .rcases hkd with w|w <;> (rw[z]at w;cases w)
  .obtain⟨c',hc'⟩:=j4 x q3;have:c'=c:=by
    have:=iu x c' hc';rw[hc]at this;cases this;rfl
   subst this;refine .inr ⟨?_,c',hc',?_⟩
   .show(relabel scope X.env).names.lookup x=some .cell\/(relabel scope X.env).names.lookup x=some .free;rw[qN (scope:=scope) g.sc];exact sd f2
   .obtain⟨o,ho,hd⟩:=hcell;exact⟨o,hk _ _ ho,hd⟩
 .obtain⟨v,o,ho,hd⟩:=I.cell x c (iu x c e);exact⟨v,o,hk _ _ ho,hd⟩
end
section
variable{G:Tb}{n:Nat}{sc scope:Scope}{N N':List Str}{df:Bool}{m m':List Nat}{elt:E}{t:T}{it:Ev.It}{cond:Eo}{xe xi tg:Expr}{ifs:List Expr}{pos:Pos}{X:Cx}
noncomputable def yF(P:aF)(elt:E)(t:T)(cond:Eo)(fr:Fr):D->Hh->R (Option D):=λd h2=>match Ev.bw t d fr with
 |none=>.bad
 |some aq=>(Ev.g8 P cond aq h2).bind λk h3=>if k then (Ev.ev P elt aq h3).bind λx h4=>.ok (some x) h4 else .ok none h3
def qO(P:aF)(elt:E)(t:T)(it:Ev.It)(cond:Eo)(fr:Fr)(h:Hh):Ev.ev P (.comp elt t it cond) fr h=(Ev.dD P it fr h).bind λs h1=>if Ev.undef t fr then
  (Ev.b7 (yF P elt t cond fr) s.2 s.1 h1).bind λds h2=>Ev.alloc ds h2 else .bad:=by
 simp only[Ev.ev];rfl
noncomputable def CI(Y:Cx)(m':List Nat)(f:D->Hh->R (Option D))(fr:Fr)(src:Src)(fp:List Addr)(tn:Nat->Heap->Prop)(r2:List Addr)(H2:Hp)(Dd:Addr)(ds:List D)(h2:Hh)(k:Nat)(s:Shared):Prop:=
 ∃i om Hc rc hc dn vs rest,Inv Y [] om Hc s/\tn i s.heap/\(∀b∈fp,Hc b=none)/\k=src.1.length - i/\i<=src.1.length/\
  SR Y.K m' Hc rc fr om/\HR Y.K Hc rc hc/\Fm Y.K r2 rc H2 Hc/\Hc Dd=some (.lst vs)/\Dd∉rc/\aI Y.K Hc rc dn vs/\Ev.b7 f src.2 (src.1.drop i) hc=.ok rest h2/\dn++rest=ds
section
variable{Y:Cx}{sc':Scope}{J:L2.It}{fp:List Addr}{ita:Addr}{tn:Nat->Heap->Prop}{fr:Fr}{src:Src}{r2:List Addr}{H2:Hp}{Dd:Addr}{ds:List D}{h2:Hh}
def yG(gC:Good G n sc' N' false Y){α:Type}{tt:Sem α}{Q:α->Shared->Prop}{s:Shared}(hw:wpAny (model Y.prog Y.w) Y.A tt Q Y.xe s):wpAny (model Y.prog Y.w) Y.A tt Q eO s:=by rw[gC.xe]at hw;exact hw
def wG{i:Nat}{lM:L2.St}{H9:Hp}{r9:List Addr}{h9:Hh}{dn:List D}{vs:List V}{rest':List D}{s9:Shared}{p:List (Addr×Obj)}{f:D->Hh->R (Option D)}(hlt:i<src.1.length)(I9:Inv Y ([]++p) lM H9 s9)(bk:tn (i+1) s9.heap/\∀b∈fp,H9 b=none)(q:SR Y.K m' H9 r9 fr lM)(sf:HR Y.K H9 r9 h9)(fm:Fm Y.K r2 r9 H2 H9)(yH:H9 Dd=some (.lst vs))(yI:Dd∉r9)(rv:aI Y.K H9 r9 dn vs)(e7:Ev.b7 f src.2 (src.1.drop (i+1)) h9=.ok rest' h2)(ed:dn++rest'=ds) :
  ∃k,k<src.1.length - i/\CI Y m' f fr src fp tn r2 H2 Dd ds h2 k s9:=
 ⟨src.1.length - (i+1),Xu hlt (WE i),i+1,lM,H9,r9,h9,dn,vs,rest',I9.kO,bk.1,bk.2,rfl,hlt,q,sf,fm,yH,yI,rv,e7,ed⟩
def Kd{i:Nat}{lM:L2.St}{H9:Hp}{r9:List Addr}{h9:Hh}{dn:List D}{vs:List V}{xd:D}{v10:V}{EK:Value}{rest':List D}{s9:Shared}{p:List (Addr×Obj)}{f:D->Hh->R (Option D)}(hlt:i<src.1.length)(mL:H2 Dd=none)(hsz:ds.length<=sizeLine)(gC:Good G n sc' N' false Y)(I9:Inv Y ([]++p) lM H9 s9)(Cz:RelV v10 EK)(bk:∀{σ':L2.St}{H':Hp}{s':Shared},Inv Y ([]++p) σ' H' s'->tn (i+1) s'.heap/\∀b∈fp,H' b=none)(q:SR Y.K m' H9 r9 fr lM)(sf:HR Y.K H9 r9 h9)(fm:Fm Y.K r2 r9 H2 H9)(oq:H9 Dd=some (.lst vs))(uc:Dd∉r9)(rv:aI Y.K H9 r9 dn vs)(CA:RV Y.K H9 r9 xd v10)(e7:Ev.b7 f src.2 (src.1.drop (i+1)) h9=.ok rest' h2)(ed:dn++xd :: rest'=ds) :
  wpAny (model Y.prog Y.w) Y.A (call (.builtin "list.append") [.ref Dd,EK]) (λ_ EL=>∃k,k<src.1.length - i/\CI Y m' f fr src fp tn r2 H2 Dd ds h2 k EL) eO s9:=by
 have hlen:vs.length<sizeLine:=by
  have h1:=rv.length;have h2:=Vw List.length ed;simp at h2;omega
 refine bU (yG gC (rS _ s9 lM H9 (.ref Dd) [v10] (.ref Dd) [EK] (λ_ PB=>PB=upd H9 Dd (.lst (vs++[v10]))) I9 rfl (.cons Cz .nil) ⟨Dd,vs,v10,rfl,rfl,oq,hlen,rfl⟩)) λ_ EL ⟨_,PB,PC,_,Ra⟩=>?_;subst Ra;refine wG (dn:=dn++[xd]) (vs:=vs++[v10]) hlt PC (bk PC) ?_ (sf.other oq uc) (fm.other mL oq) ez uc ?_ e7 ?_
 .exact⟨q.len,λj i' d' a1 a2=>by
   obtain⟨w,b1,b2⟩:=q.sl j i' d' a1 a2;exact⟨w,b1,b2.grow (λ_ _ z=>z) (ig oq)⟩⟩
 .exact(rv.append (.cons CA .nil)).grow (λ_ _ z=>z) (ig oq)
 .rw[<-ed];simp
def Au(gC:Good G n sc' N' false Y)(hg:JG G n sc' N' false m' t tg)(hc:JC G n sc' N' false m' cond ifs)(he:JE G n sc' N' false m' elt xe)(Tn:Turn Y.prog Y.w Y.K tg J fp ita tn)(kP:∀{Hc:Hp},(∀b∈fp,Hc b=none)->∀b∈fp,g5 Y [] Hc b)
  (hu:Ev.undef t fr=true) (hJ:qL Y.K r2 H2 src J) (mL:H2 Dd=none) (hsz:ds.length<=sizeLine) {R':Result->Shared->Prop}
  (Rb:∀s6 om Hc rc vs,Inv Y [] om Hc s6->HR Y.K Hc rc h2->Fm Y.K r2 rc H2 Hc->Hc Dd=some (.lst vs)->Dd∉rc->aI Y.K Hc rc ds vs->R' (.ok .next) s6) {k:Nat} {s:Shared}
  (h:CI Y m' (yF (Ev.run G.F G.w n) elt t cond fr) fr src fp tn r2 H2 Dd ds h2 k s):codeAny (model Y.prog Y.w) Y.A (.compLoop (.ListComp xe [⟨tg,xi,ifs,0⟩] scope pos) 0 (.ref ita) (.ref Dd) Y.env) R' s:=by
 refine ua (CI Y m' (yF (Ev.run G.F G.w n) elt t cond fr) fr src fp tn r2 H2 Dd ds h2) ?_ k h;rintro k s5 ⟨i,om,Hc,rc,hc',dn,vs,rest,I5,wc,jL,rfl,hle,pT,rZ,ud,oq,uc,Av,e5,EM⟩;rcases XY i src.1.length with hlt|hge
 .rw[Wy hlt]at e5;simp only[Ev.b7]at e5;split at e5
  .rename_i hst;obtain⟨hgo,_⟩:=hJ i Hc rc hc' rZ ud hst;obtain⟨g1,g2⟩:=hgo src.1[i] (xZ hlt);obtain⟨o,h6,e6,e5⟩:=Ev.ah e5;obtain⟨rest',h7,e7,e5⟩:=Ev.ah e5;cases e5;refine bU (Tn.item Y rfl rfl rfl gC.calm i [] s5 om Hc eO I5 (kP jL) wc g1) λrr s6 ⟨u,SJ,h8⟩=>?_;subst SJ;refine bU h8 λ_ s7 ⟨x,H7,I7,rx,y7,Ke,SK⟩=>?_;obtain⟨r7,v7,PD,wH⟩:=g2 x H7 y7;obtain⟨Rc,Rg⟩:=wH.kQ oq uc;unfold yF at e6;split at e6
   .cases e6
   .rename_i aq eb;obtain⟨kk,h9,e9,e6⟩:=Ev.ah e6;have SM:=I7.pinned (kP SK) (Tn.obj _ _ Ke);refine bU (yG gC (hg _ gC _ s7 om H7 x u (λlM H8=>H8=H7/\SR Y.K m' H7 r7 aq lM) SM rx ⟨r7,fr,hc',_,aq,pT.mono wH,PD,v7,eb,λs' q=>⟨rfl,q⟩⟩)) λ_ s8 ⟨lM,H8,I8,SN,EN⟩=>?_;subst SN;refine bU (yG gC (hc _ gC _ s8 lM _ (λb H9=>b=kk/\∃r9,HR Y.K H9 r9 h9/\Fm Y.K r7 r9 _ H9) I8 ⟨r7,aq,hc',kk,h9,EN,PD,e9,λH9 r9 sf f9=>⟨rfl,r9,sf,f9⟩⟩)) λbb s9 ⟨H9,I9,Js,r9,sf,sj⟩=>?_;subst Js;obtain⟨yI,yH⟩:=sj.kQ Rg Rc;have back:∀{σ':L2.St} {H':Hp} {s':Shared},Inv Y ([]++lY fp s7.heap) σ' H' s'->tn (i+1) s'.heap/\∀b∈fp,H' b=none:=λ{σ' H' s'} I'=>
     ⟨Tn.keep _ _ _ Ke λb hb o e=>(I'.pin (b,o) (VF _ (VF _ (jh hb e)))).1,λb hb=>
      let ⟨o,e,_⟩:=Tn.obj _ _ Ke b hb
      (I'.pin (b,o) (VF _ (VF _ (jh hb e)))).2.1⟩
    cases bb with
    |false=>
     simp only[VH,Wb]at e6 ⊢;cases e6;exact wG hlt I9 (back I9) ((EN.mono sj).unbind eb hu) sf ((ud.trans wH).trans sj) yH yI ((Av.mono wH).mono sj) e7 EM
    |true=>
     simp only[VI]at e6 ⊢;obtain⟨xd,sq,Kf,e6⟩:=Ev.ah e6;cases e6;refine bU (yG gC (he _ gC _ s9 lM H9 (λv Aw=>∃wI,RV Y.K Aw wI xd v/\HR Y.K Aw wI _/\Fm Y.K r9 wI H9 Aw) I9 ⟨r9,aq,h9,xd,_,EN.mono sj,sf,Kf,λv Aw wI v10 CB Ax=>⟨wI,v10,CB,Ax⟩⟩)) λEK PF ⟨v10,Aw,SQ,Cz,wI,CA,CB,yJ⟩=>?_;obtain⟨NP,NQ⟩:=yJ.kQ yH yI;exact Kd hlt mL hsz gC SQ Cz back (((EN.mono sj).mono yJ).unbind eb hu) CB (((ud.trans wH).trans sj).trans yJ) NQ NP (((Av.mono wH).mono sj).mono yJ) CA e7 EM
  .cases e5
 .have hi':i=src.1.length:=Yj hle hge;subst hi';rw[X7]at e5;simp only[Ev.b7]at e5;split at e5
  .rename_i hst;cases e5;refine bU (Tn.done Y rfl rfl rfl gC.calm _ [] s5 om Hc eO I5 (kP jL) wc ((hJ _ Hc rc _ rZ ud hst).2 (vn _))) λrr s6 ⟨hrr,I6⟩=>?_;subst hrr;rw[Ux]at EM;subst EM;exact Rb s6 om Hc rc vs I6 rZ ud oq uc Av
  .cases e5
end
def sy(g:Good G n sc N df X)(hi:JI G n sc N df m it tg xi)(hg:JG G n (fq sc scope) N' false m' t tg)(hc:JC G n (fq sc scope) N' false m' cond ifs)(he:JE G n (fq sc scope) N' false m' elt xe)
  (hn:namesOk sc N m scope t N' m') (hs:j3 sc scope) {cl:List (Str×Addr)} (iu:∀x c,cl.lookup x=some c->X.env.cells.lookup x=some c) (j4:∀x,(x,NameKind.free)∈scope.names->∃c,cl.lookup x=some c)
  {pins:List (Addr×Obj)} {σ:L2.St} {H:Hp} {s:Shared} (I:Inv X pins σ H s) {r:List Addr} {fr:Fr} {h:Hh} {d:D} {h':Hh} (sr:SR X.K m H r fr σ) (hr:HR X.K H r h)
  (e:Ev.ev (Ev.run G.F G.w n) (.comp elt t it cond) fr h=.ok d h') (post:Value->Addr->Result->Shared->Prop)
  (hpost:∀Dd C s' H' r',Inv X pins σ H' s'->(∃mm,s'.heap.Ns C mm)->g5 X pins H' C->RV X.K H' r' d (.ref Dd)->HR X.K H' r' h'->Fm X.K r r' H H'->post (.ref Dd) C (.ok .next) s') {E:Value->Shared->Prop} (hE:X.xe=λ_ _=>False) :
  wpAny (model X.prog X.w) X.A (eval xi X.env) (λx s₁=>wpAny (model X.prog X.w) X.A (pyIter x) (λitv s₂=>wpAny (model X.prog X.w) X.A (newList []) (λacc s₃=>
   wpAny (model X.prog X.w) X.A (newFunctionEnv scope X.env.globals cl [] X.env.qual none .none (some X.env)) (λcenv s₄=>
    codeAny (model X.prog X.w) X.A (.compStart (.ListComp xe [⟨tg,xi,ifs,0⟩] scope pos) 0 itv acc { cenv with scope:=relabel scope X.env }) (post acc cenv.locals) s₄) E s₃) E s₂) E s₁) E s:=by
 rw[qO]at e;obtain⟨src,h1,e1,e⟩:=Ev.ah e;split at e
 .rename_i hu;obtain⟨ds,h2,e2,e⟩:=Ev.ah e;have dB:∀{α:Type} {tt:Sem α} {Q:α->Shared->Prop} {s:Shared},wpAny (model X.prog X.w) X.A tt Q X.xe s->wpAny (model X.prog X.w) X.A tt Q E s:=λ{α tt Q s} hw=>Vx hw (λ_ _ q=>q) λ_ _ q=>by rw[hE]at q;exact q.elim
  refine bU (dB (hi X g pins s σ H (λJ H2=>∃r2,HR X.K H2 r2 h1/\Fm X.K r r2 H H2/\qL X.K r2 H2 src J) I ⟨r,fr,h,src,h1,sr,hr,e1,λJ H2 r2 hr2 f2 hJ=>⟨r2,hr2,f2,hJ⟩⟩)) λv s1 q1=>?_;refine bU (dB q1) λitv s2 q2=>?_;obtain⟨ita,fp,tn,J,H2,rfl,I2,Tn,st2,f2,r2,hr2,EO,hJ⟩:=q2;refine VU ?_;generalize ER:s2.heap.objs.size=Dd
  have mL:H2 Dd=none:=by rw[<-ER];exact I2.fresh
  have I3:Inv X pins σ (upd H2 Dd (.lst [])) { s2 with heap:=s2.heap.push { cls:=.type "list",data:=.seq ([]:List Value).toArray }}:=by
   have:=I2.Cm (ys:=[]) (its:=[]) (t':=s2.toks) .nil (Wm _);rw[ER]at this;exact this
  have Kg:∀b∈fp,b<s2.heap.objs.size:=λb hb=>by
   obtain⟨o,e,_⟩:=Tn.obj 0 _ st2 b hb;exact Mt e
  generalize Kh:({ s2 with heap:=s2.heap.push { cls:=.type "list",data:=.seq ([]:List Value).toArray }}:Shared)=s3 at I3
  have Rh:s3.heap.objs.size=s2.heap.objs.size+1:=by rw[<-Kh];exact V8 ..
  have k3:∀b o,s2.heap.get? b=some o->s3.heap.get? b=some o:=λb o e=>by rw[<-Kh];exact eV _ e
  have Kl:∀b∈fp,b<s3.heap.objs.size:=λb hb=>fB (Kg b hb) (by rw[Rh];exact Yl _);have qP:∀b∈fp,g5 X pins (upd H2 Dd (.lst [])) b:=λb hb=>⟨by rw[bB (λz=>absurd (Kg b hb) (by rw[z,ER];exact Wi _))];exact(f2 b hb).1,(f2 b hb).2⟩
  refine wpAny_newFunctionEnv (hs.As) (λy hy=>by simp at hy) (λKm Ri Rj=>?_) hs.kind;have k4:∀b o,s3.heap.get? b=some o->Km.get? b=some o:=λb o e=>Rj.extBut b o (So (Mt e)) (eV _ e);have gC:Good G n (fq sc scope) N' false (pU X N' scope cl s3.heap.objs.size s3 (upd H2 Dd (.lst [])) fp):=g.comp;have I4:Inv (pU X N' scope cl s3.heap.objs.size s3 (upd H2 Dd (.lst [])) fp) [] (sig scope N N' m' X.K (upd H2 Dd (.lst [])) r2 fr σ) (upd H2 Dd (.lst [])) { s3 with heap:=Km,toks:=s3.toks+0 }:=
   Cy g I3 hs iu j4 qP Kl Ri k4
  have t9:SR X.K m' (upd H2 Dd (.lst [])) r2 fr (sig scope N N' m' X.K (upd H2 Dd (.lst [])) r2 fr σ):=Kc (((sr.mono EO).mono (Fm.tup mL))) hn hu;have mK:HR X.K (upd H2 Dd (.lst [])) r2 h1:=hr2.tup mL;have PJ:Dd∉r2:=λhm=>by
   obtain⟨k,hk⟩:=Yz hm;have hlt:k<h1.length:=by rw[<-hr2.len];exact(List.getElem?_eq_some_iff.mp hk).1
   obtain⟨a,e3,e4⟩:=hr2.ob k _ (xZ hlt);rw[hk]at e3;cases e3;cases eo:h1[k]with
   |lst dd=>rw[eo]at e4;obtain⟨us,e5,_⟩:=e4;rw[mL]at e5;cases e5
   |bX dd=>
    rw[eo]at e4;obtain⟨us,e5,_⟩:=e4;rcases e5 with ⟨ob,e5⟩|⟨ob,_,_,e5,_⟩
    .rw[mL]at e5;cases e5
    .have:=Mt (I2.jb _ _ e5);rw[ER]at this;exact absurd this (Wi _)
  have SS:H Dd=none:=by
   cases z:H Dd with
   |none=>rfl
   |some o=>
    have hnr:Dd∉r:=λhm=>by
     obtain⟨k,hk⟩:=Yz hm;exact PJ (VD (EO.pre _ _ hk))
    have:=EO.keep _ _ z hnr;rw[mL]at this;cases this
  have kP:∀{Hc:Hp},(∀b∈fp,Hc b=none)->∀b∈fp,g5 (pU X N' scope cl s3.heap.objs.size s3 (upd H2 Dd (.lst [])) fp) [] Hc b:=λ{Hc} hz b hb=>by
   refine⟨hz b hb,So (Kl b hb),(I4.ok).oN b hb,.inl hb,λx c e=>((I4.ok).zV b hb).2 x c e,λp hp=>?_⟩;simp[pU]at hp
  have hsz:ds.length<=sizeLine:=by
   unfold Ev.alloc at e;split at e
   .rename_i z;rw[<-jB];exact z
   .cases e
  have fin:codeAny (model X.prog X.w) X.A (.compLoop (.ListComp xe [⟨tg,xi,ifs,0⟩] scope pos) 0 (.ref ita) (.ref Dd) (compEnvC scope cl s3.heap.objs.size X.env)) (post (.ref Dd) s3.heap.objs.size) { s3 with heap:=Km,toks:=s3.toks+0 }:=by
   refine Au gC hg hc he Tn kP hu hJ mL hsz (λs6 om Hc rc vs I6 rZ ud oq uc Av=>?_) ⟨0,_,_,r2,h1,[],[],ds,I4,Tn.keep _ _ _ st2 λb hb o eo=>k4 b o (k3 b o eo),λb hb=>(qP b hb).1,rfl,Wm _,t9,mK,Fm.tup mL,ez,PJ,.nil,by rw[Xx];exact e2,rfl⟩;unfold Ev.alloc at e;split at e
   .cases e;obtain⟨SV,Rk,_⟩:=I6.loc;refine hpost Dd _ s6 Hc (rc++[Dd]) ?_ ⟨SV,Rk⟩ ?_ ⟨Dd,rfl,?_⟩ (rZ.known oq uc Av) ((EO.trans ud).known ?_)
    .exact I3.sW (ch:=fp) (I6.os) I6.base I6.hok I6.bare λb hb=>⟨(qP b hb).2.2.2.1,(qP b hb).2.1,(qP b hb).2.2.2.2.1,(qP b hb).2.2.2.2.2⟩
    .exact I3.Cc (vn _) I6.free
    .rw[<-rZ.len];simp
    .exact SS
   .cases e
  subst Kh;exact codeAny_compStart_list fin (Tn.self _ 0 _ _ _ (Tn.keep _ _ _ st2 λb hb o eo=>k4 b o (k3 b o eo)) fin)
 .cases e
end
section
variable{G:Tb}{n:Nat}{sc scope:Scope}{N N':List Str}{df:Bool}{m m':List Nat}{elt:E}{t:T}{it:Ev.It}{cond:Eo}{xe xi tg:Expr}{ifs:List Expr}{pos:Pos}
theorem Good.cells{X:Cx}{pins:List (Addr×Obj)}{σ:L2.St}{H:Hp}{s:Shared}(g:Good G n sc N df X)(I:Inv X pins σ H s)(hs:j3 sc scope) :
  ∃cl,closureFor scope X.env=pure cl/\(∀x c,cl.lookup x=some c->X.env.cells.lookup x=some c)/\∀x,(x,NameKind.free)∈scope.names->∃c,cl.lookup x=some c:=
 GO λx hx=>I.ok.has x (by unfold Env.kindOf;rw[g.sc];exact(hs.free x hx).1)
def Ay{X:Cx}{pins:List (Addr×Obj)}{σ:L2.St}{H:Hp}{s:Shared}(I:Inv X pins σ H s){C:Addr}(fp:g5 X pins H C){h':Heap}(hs:Heap.SameBut C s.heap h'):Inv X pins σ H { s with heap:=h' }:=
 I.turned (t':=s.toks) (λb o hb e=>hs.extBut b o hb e) fp.1 fp.2.1 fp.2.2.2.1 fp.2.2.2.2.1 fp.2.2.2.2.2
def wJ(hi:JI G n sc N df m it tg xi)(hg:JG G n (fq sc scope) N' false m' t tg)(hc:JC G n (fq sc scope) N' false m' cond ifs)(he:JE G n (fq sc scope) N' false m' elt xe)
  (hn:namesOk sc N m scope t N' m') (hs:j3 sc scope) (hf:∀(env:Env) x,foldedSetIterable xi env x=pure x:=by intro _ _;rfl):JE G n sc N df m (.comp elt t it cond) (.ListComp xe [⟨tg,xi,ifs,0⟩] scope pos):=λX g pins s σ H Q I q=>by
 obtain⟨r,fr,h,d,h',sr,hr,e,q⟩:=q;obtain⟨cl,hcl,iu,j4⟩:=g.cells I hs;rw[eval_ListComp];refine Yc (use:=none) (Q:=EP X pins σ Q) rfl (hf _) hcl hs.kind hs.loc ?_;refine sy g hi hg hc he hn hs iu j4 I sr hr e (λacc C=>compPost (model X.prog X.w) X.A X.xe none (EP X pins σ Q) acc C) (λDd C s' H' r' I' hC fp rv hr' ES=>?_) g.xe;obtain⟨mm,hC⟩:=hC;exact⟨mm,hC,λh'' Az=>⟨.ref Dd,H',Ay I' fp Az,rfl,q _ H' r' rv hr' ES⟩⟩
def GQ(j i:Nat){x:Str}{pos' cpos:Pos}(hm:m.Nodup)(hN:N.Nodup)(hi:JI G n sc N df m it tg xi)(hg:JG G n (fq sc scope) N' false m' t tg)(hc:JC G n (fq sc scope) N' false m' cond ifs)(he:JE G n (fq sc scope) N' false m' elt xe)
  (hn:namesOk sc N m scope t N' m') (hs:j3 sc scope) (hj:m[j]?=some i:=by rfl) (rV:N[j]?=some x:=by rfl)
  (hl:sc.names.lookup x=some .local\/(df=true/\sc.names.lookup x=some .cell):=by first|exact Or.inl rfl|exact Or.inr ⟨rfl,rfl⟩) (hf:∀(env:Env) x,foldedSetIterable xi env x=pure x:=by intro _ _;rfl) :
  JS G n sc N df m (.set i (.comp elt t it cond)) (.Assign [.Name x pos'] (.ListComp xe [⟨tg,xi,ifs,0⟩] scope cpos) pos):=λX g=>by
 obtain⟨h1,h2⟩:=g.loc hl;have hsw:swapsWith (.ListComp xe [⟨tg,xi,ifs,0⟩] scope cpos) (some (.Name x pos')) pos.line X.env=pure (X.env.blockKind==.function&&X.env.kindOf x==some .local&&pos'.line==(Expr.ListComp xe [⟨tg,xi,ifs,0⟩] scope cpos).pos.line&&!(scope.names.any λ(n,k)=>n==x&&(k==.local ||k==.cell))):=rfl;generalize hb:(X.env.blockKind==.function&&X.env.kindOf x==some .local&&pos'.line==(Expr.ListComp xe [⟨tg,xi,ifs,0⟩] scope cpos).pos.line&&!(scope.names.any λ(n,k)=>n==x&&(k==.local ||k==.cell)))=b at hsw
 cases b with
 |false=>
  refine PS.of (pN (i:=j) (by rw[g.nm];exact hN) (by rw[g.nm];exact rV) h1 (wJ hi hg hc he hn hs hf X g) hsw h2) λQ s H q=>?_;obtain⟨r,fr,h,fl,ai,h',sr,hr,e,q⟩:=q;simp only[Ev.ex]at e;obtain⟨d,h1,e1,e⟩:=Ev.ah e;cases e;exact⟨r,fr,h,d,_,sr,hr,e1,λv H1 r1 v1 hr1 f1=>q _ H1 r1 ((sr.mono f1).set hm hj v1) hr1 f1⟩
 |true=>
  have UD:X.env.kindOf x=some .local:=by
   simp only[gV,XS]at hb;exact hb.1.1.2
  intro pins s σ H Q I q;obtain⟨r,fr,h,fl,ai,h',sr,hr,e,q⟩:=q;simp only[Ev.ex]at e;obtain⟨d,h3,e1,e⟩:=Ev.ah e;cases e;obtain⟨cl,hcl,iu,j4⟩:=g.cells I hs;rw[exec_Assign_Name_used _ _ _ _ hsw];refine bT (wpAny_standAt (bT ?_));show wpAny _ X.A (do let _ <-comprehension (.ListComp xe [⟨tg,xi,ifs,0⟩] scope cpos) scope X.env _ (newList []) false (eval xi X.env) (some (assign (.Name x pos') X.env))) _ _ s;refine bT (Vx (Yc (use:=some (assign (.Name x pos') X.env)) (Q:=λ_ s'=>SP X pins Q .next s') rfl (hf _) hcl hs.kind hs.loc ?_) (λ_ s' hq=>bY (bY hq)) λ_ _ e=>e);refine sy g hi hg hc he hn hs iu j4 I sr hr e1 (λacc C=>compPost (model X.prog X.w) X.A X.xe (some (assign (.Name x pos') X.env)) (λ_ s'=>SP X pins Q .next s') acc C) (λDd C s' H' r' I' hC fp rv hr' ES=>?_) g.xe;obtain⟨mm,hC⟩:=hC;show wpAny _ X.A (assign (.Name x pos') X.env (.ref Dd)) _ _ s';refine wpAny_assign_Name (lU (v:=.ref Dd) I' (by rw[g.nm];exact hN) (i:=j) (by rw[g.nm];exact rV) h1 rfl (λs'' SX Az=>?_) h2);obtain⟨a,Az,ha⟩:=Az;have SY:C≠a:=by
   rcases ha with z|z
   .rw[z];exact fp.2.1
   .exact λw=>fp.2.2.2.2.1 x a z w.symm
  refine⟨mm,hC.sameBut Az SY,λh'' Rl=>?_⟩;exact⟨_,H',Ay SX ⟨fp.1,fp.2⟩ Rl,q _ H' r' ((sr.mono ES).set hm hj rv) hr' ES⟩
end
end Sm
namespace Sm
open PySem PySem.Spec PyProof.Rows L2 PySem.SeqAt
open Ev (D O Hh Fr R aF E Es Eo T S Ss Fl Src aU aR TY BI ME)
structure ue(A:Around)(s:Shared)(u w:Value)(k:Bool):Prop where
 eq:EqAt A s u w k
 rc:RcAt A s u w k
 ne:RcNeAt A s u w (!k)
theorem qQ{f:D->D->Option Bool}:∀{x y:List D},x.length≠y.length->∀{k},Ev.cG f x y=some k->k=false
 |[],[],h,_,_=>absurd rfl h
 |[],_ :: _,_,_,e=>by cases e;rfl
 |_ :: _,[],_,_,e=>by cases e;rfl
 |a :: x,b :: y,h,k,e=>by
  simp only[Ev.cG,Wk,cI]at e;obtain⟨p,_,q,e2,e3⟩:=e;have:=qQ (x:=x) (y:=y) (by simpa using h) e2;subst this;cases e3;simp
theorem wK{f:D->D->Option Bool}:∀{x y:List D}{k},Ev.cG f x y=some k->x.length=y.length->∃e:Nat->Bool,(∀(j:Nat) a b,x[j]?=some a->y[j]?=some b->f a b=some (e j))/\(List.range x.length).all e=k
 |[],[],_,h,_=>⟨λ_=>true,(λj a b h1=>by simp at h1),by cases h;simp⟩
 |[],_ :: _,_,_,h=>by simp at h
 |_ :: _,[],_,_,h=>by simp at h
 |a :: x,b :: y,k,h,hl=>by
  simp only[Ev.cG,Wk,cI]at h;obtain⟨p,e1,q,e2,e3⟩:=h;cases e3;obtain⟨e,h1,h2⟩:=wK e2 (by simpa using hl);refine⟨λj=>match j with|0=>p|j+1=>e j,λj a' b' g1 g2=>?_,?_⟩
  .cases j with
   |zero=>simp at g1 g2;subst g1 g2;exact e1
   |succ j=>exact h1 j a' b' (by simpa using g1) (by simpa using g2)
  .rw[V7,Ym,List.all_cons,List.all_map,<-h2];rfl
theorem wL{f:D->D->Option Bool}:∀{x y:List D}{k},Ev.cG f x y=some k->∃e:Nat->Bool,∀(j:Nat) a b,x[j]?=some a->y[j]?=some b->f a b=some (e j)
 |[],_,_,_=>⟨λ_=>true,λj a b h1=>by simp at h1⟩
 |_ :: _,[],_,_=>⟨λ_=>true,λj a b _ h1=>by simp at h1⟩
 |a :: x,b :: y,k,h=>by
  simp only[Ev.cG,Wk,cI]at h;obtain⟨p,e1,q,e2,e3⟩:=h;obtain⟨e,h1⟩:=wL e2;refine⟨λj=>match j with|0=>p|j+1=>e j,λj a' b' g1 g2=>?_⟩;cases j with
  |zero=>simp at g1 g2;subst g1 g2;exact e1
  |succ j=>exact h1 j a' b' (by simpa using g1) (by simpa using g2)
section
variable{X:Cx}{pins:List (Addr×Obj)}{σ:L2.St}{H:Hp}{s:Shared}{r:List Addr}{h:Hh}
def nF(I:Inv X pins σ H s){a b:Addr}{vs ws:List V}(h1:yE X.K H a vs)(h2:H b=some (.lst ws)):a≠b:=by
 rintro rfl;rcases h1 with ⟨o,h1⟩|⟨o,_,_,h1,_⟩
 .rw[h2]at h1;cases h1
 .have:=(I.bs a o (I.ok.mod.cZ a o h1)).2;rw[h2]at this;cases this
def sA{x y:List D}{vs ws:List V}{us zs:List Value}{f:D->D->Option Bool}{A:Around}{k:Bool}(v1:aI X.K H r x vs)(v2:aI X.K H r y ws)(p1:Vals vs us)(p2:Vals ws zs)
  (ih:∀a b va vb u w k,RV X.K H r a va->RV X.K H r b vb->RelV va u->RelV vb w->f a b=some k->ue A s u w k) (hl:x.length=y.length) (e:Ev.cG f x y=some k) :
  ∃e':Nat->Bool,(∀j (h1:j<us.toArray.size) (h2:j<zs.toArray.size),EqAt A s us.toArray[j] zs.toArray[j] (e' j))/\(List.range us.toArray.size).all e'=k/\us.length=zs.length:=by
 obtain⟨e',h1,h2⟩:=wK e hl;have l1:=v1.length;have l2:=v2.length;have l3:=p1.length;have l4:=p2.length;refine⟨e',λj g1 g2=>?_,?_,by omega⟩
 .have S6:j<us.length:=by simpa using g1
  have S7:j<zs.length:=by simpa using g2
  have ha:x[j]?=some x[j]:=xZ (by omega);have hb:y[j]?=some y[j]:=xZ (by omega);obtain⟨va,a1,a2⟩:=v1.get ha;obtain⟨vb,b1,b2⟩:=v2.get hb;obtain⟨u,a3,a4⟩:=p1.get a1;obtain⟨w,b3,b4⟩:=p2.get b1;have eu:us.toArray[j]=u:=by
   have:=(List.getElem?_eq_some_iff.mp a3).2;simpa using this
  have ew:zs.toArray[j]=w:=by
   have:=(List.getElem?_eq_some_iff.mp b3).2;simpa using this
  rw[eu,ew];exact(ih _ _ _ _ _ _ _ a2 b2 a4 b4 (h1 j _ _ ha hb)).eq
 .rw[<-h2];have:us.toArray.size=x.length:=by simp;omega
  rw[this]
noncomputable def cy(K:PySem.W.Frag)(H:Hp)(r:List Addr):D->V->Prop
 |.aG,v=>v=.aG
 |.bl b,v=>v=.bl b
 |.int i,v=>v=.int i
 |.str l,v=>v=.str (aS l)
 |.ref n,v=>∃a,v=.ref a/\r[n]?=some a
 |.tup ds,v=>∃a vs,v=.ref a/\dU K H a vs/\aI K H r ds vs
def RV.shape{d:D}{v:V}(h:RV X.K H r d v):cy X.K H r d v:=by
 cases d<;>simp only[RV]at h<;>simp only[cy]<;>first|exact h|exact h.1
def GR{a b:List Nat}:(aS a==aS b)=(a==b):=by
 by_cases e:a=b
 .subst e;simp
 .have e1:(aS a==aS b)=false:=beq_eq_false_iff_ne.mpr λz=>e (nD z);have e2:(a==b)=false:=beq_eq_false_iff_ne.mpr e;rw[e1,e2]
def oV{n:Nat}{A:Around}{x y:List D}{a b:Addr}{vs ws:List V}{k:Bool}(I:Inv X pins σ H s)(hu:A.units<cLine)(q1:fE X.K H a vs)(q2:fE X.K H b ws)(v1:aI X.K H r x vs)(v2:aI X.K H r y ws)(hab:a≠b)
  (ih:∀a b va vb u w k,RV X.K H r a va->RV X.K H r b vb->RelV va u->RelV vb w->Ev.eH h n a b=some k->ue A.in1 s u w k) (e:Ev.cG (Ev.eH h n) x y=some k):ue A s (.ref a) (.ref b) k:=by
 obtain⟨us,p1,oz,_⟩:=I.list q1;obtain⟨zs,p2,oA,_⟩:=I.list q2;by_cases hl:x.length=y.length
 .obtain⟨e',h1,h2,h3⟩:=sA v1 v2 p1 p2 ih hl e;have hs:us.toArray.size=zs.toArray.size:=by simpa using h3
  have rc:=RcAt.lists oz.isList oA.isList hs hu h1;have ne:=RcNeAt.lists oz.isList oA.isList hs hu h1;rw[h2]at rc ne;exact⟨.of_refs hab rc,rc,ne⟩
 .have hk:=qQ hl e;subst hk;have hs:(us.toArray.size != zs.toArray.size)=true:=by
   have l1:=v1.length;have l2:=v2.length;have l3:=p1.length;have l4:=p2.length;simp only[zA,bne_iff_ne,ne_eq];omega
  exact⟨.of_refs hab (.lists_lengths oz.isList oA.isList hs hu),.lists_lengths oz.isList oA.isList hs hu,.lists_lengths oz.isList oA.isList hs hu⟩
def AA(I:Inv X pins σ H s)(hr:HR X.K H r h){n:Nat}{a:Addr}{ds:List D}(e:Ev.aY h n=some ds)(ha:r[n]?=some a):∃us:List Value,PlainL s.heap a us.toArray:=by
 obtain⟨a',vs,e1,e2,e3⟩:=hr.read e;rw[ha]at e1;cases e1;obtain⟨us,_,pl,_⟩:=I.list e2;exact⟨us,pl⟩
def AB(I:Inv X pins σ H s)(hr:HR X.K H r h):∀(n:Nat) (a b:D) (v:V) (k:Bool),RV X.K H r a v->RV X.K H r b v->Ev.eH h n a b=some k->k=true:=by
 intro n;induction n with
 |zero=>intro a b v k _ _ e;cases e
 |succ n ih=>
  have items:∀(x y:List D) (vs:List V) (k:Bool),aI X.K H r x vs->aI X.K H r y vs->Ev.cG (Ev.eH h n) x y=some k->k=true:=by
   intro x;induction x with
   |nil=>
    intro y vs k h1 h2 e;simp only[aI]at h1;subst h1;cases y with
    |nil=>cases e;rfl
    |cons _ _=>simp only[aI]at h2;obtain⟨_,_,h2,_⟩:=h2;cases h2
   |cons d x S8=>
    intro y vs k h1 h2 e;simp only[aI]at h1;obtain⟨v,w,rfl,h3,h4⟩:=h1;cases y with
    |nil=>simp only[aI]at h2;cases h2
    |cons d' y=>
     simp only[aI]at h2;obtain⟨v',w',e2,h5,h6⟩:=h2;cases e2;simp only[Ev.cG,Wk,cI]at e;obtain⟨p,e1,q,e2,e3⟩:=e;cases e3;rw[ih d d' v p h3 h5 e1,S8 y w q h4 h6 e2];rfl
  have lt:∀(a:Addr) (vs:List V) (i:Nat) (ds:List D),dU X.K H a vs->r[i]?=some a->Ev.aY h i=some ds->False:=λa vs i ds h1 h2 h3=>by
   obtain⟨us,pl⟩:=AA I hr h3 h2;obtain⟨zs,_,pt,_⟩:=I.tuple h1;exact ne_of_list_tuple pl.isList pt rfl
  intro a b v k h1 h2 e;have s1:=h1.shape;have s2:=h2.shape;clear h1 h2;cases a with
  |aG=>simp only[cy]at s1;cases b with
   |aG=>cases e;rfl
   |ref m=>obtain⟨p,z,_⟩:=s2;rw[s1]at z;cases z
   |tup y=>obtain⟨p,_,z,_⟩:=s2;rw[s1]at z;cases z
   |_=>simp only[cy]at s2;rw[s1]at s2;cases s2
  |bl x=>simp only[cy]at s1;cases b with
   |bl y=>simp only[cy]at s2;rw[s1]at s2;cases s2;cases e;simp
   |ref m=>obtain⟨p,z,_⟩:=s2;rw[s1]at z;cases z
   |tup y=>obtain⟨p,_,z,_⟩:=s2;rw[s1]at z;cases z
   |_=>simp only[cy]at s2;rw[s1]at s2;cases s2
  |int x=>simp only[cy]at s1;cases b with
   |int y=>simp only[cy]at s2;rw[s1]at s2;cases s2;cases e;simp
   |ref m=>obtain⟨p,z,_⟩:=s2;rw[s1]at z;cases z
   |tup y=>obtain⟨p,_,z,_⟩:=s2;rw[s1]at z;cases z
   |_=>simp only[cy]at s2;rw[s1]at s2;cases s2
  |str x=>simp only[cy]at s1;cases b with
   |str y=>
    simp only[cy]at s2;rw[s1]at s2;have:x=y:=nD (by injection s2);subst this;cases e;simp
   |ref m=>obtain⟨p,z,_⟩:=s2;rw[s1]at z;cases z
   |tup y=>obtain⟨p,_,z,_⟩:=s2;rw[s1]at z;cases z
   |_=>simp only[cy]at s2;rw[s1]at s2;cases s2
  |tup x=>
   obtain⟨p,vs,rfl,z,w⟩:=s1;cases b with
   |tup y=>
    obtain⟨p',vs',z',z2,w2⟩:=s2;cases z';rw[I.lX z2 z]at w2;exact items x y vs k w w2 e
   |ref m=>
    obtain⟨p',z',z2⟩:=s2;cases z';obtain⟨ds,e1,_⟩:=Option.map_eq_some_iff.mp e;exact(lt _ _ _ _ z z2 e1).elim
   |_=>cases s2
  |ref i=>
   obtain⟨p,rfl,z⟩:=s1;cases b with
   |ref m=>
    obtain⟨p',z',z2⟩:=s2;cases z';replace e:Ev.jA h (Ev.eH h n) i m=some k:=e;unfold Ev.jA at e;split at e
    .simp only[cL]at e;obtain⟨_,_,e⟩:=e;exact e.symm
    .rename_i hne;split at e
     .rename_i x y g1 g2;exact absurd (hr.inj _ _ _ _ _ z z2 g1 g2) hne
     .rename_i x y g1 g2;obtain⟨p1,q1,ET,q2,_⟩:=hr.ob _ _ g1;obtain⟨p2,q3,EU,q4,_⟩:=hr.ob _ _ g2;rw[z]at q1;cases q1;rw[z2]at q3;cases q3;exact absurd rfl (nF I q2 q4)
     .rename_i x y g1 g2;obtain⟨p1,q1,ET,q2,_⟩:=hr.ob _ _ g1;obtain⟨p2,q3,EU,q4,_⟩:=hr.ob _ _ g2;rw[z]at q1;cases q1;rw[z2]at q3;cases q3;exact absurd rfl (nF I q4 q2)
     .cases e
   |tup y=>
    obtain⟨p',vs',z',z2,w2⟩:=s2;cases z';obtain⟨ds,e1,_⟩:=Option.map_eq_some_iff.mp e;exact(lt _ _ _ _ z2 z e1).elim
   |_=>cases s2
def GS{n:Nat}{A:Around}{x y:List D}{a b:Addr}{vs ws:List V}{k:Bool}(I:Inv X pins σ H s)(hr:HR X.K H r h)(hu:A.units<cLine)(q1:dU X.K H a vs)(q2:dU X.K H b ws)(v1:aI X.K H r x vs)(v2:aI X.K H r y ws)
  (ih:∀a b va vb u w k,RV X.K H r a va->RV X.K H r b vb->RelV va u->RelV vb w->Ev.eH h n a b=some k->ue A.in1 s u w k) (e:Ev.cG (Ev.eH h n) x y=some k):ue A s (.ref a) (.ref b) k:=by
 obtain⟨us,p1,oz,_⟩:=I.tuple q1;obtain⟨zs,p2,oA,_⟩:=I.tuple q2;have l1:=v1.length;have l2:=v2.length;have l3:=p1.length;have l4:=p2.length;have both:RcAt A s (.ref a) (.ref b) k/\RcNeAt A s (.ref a) (.ref b) (!k):=by
  by_cases hl:x.length=y.length
  .obtain⟨e',h1,h2,h3⟩:=sA v1 v2 p1 p2 ih hl e;have rc:=RcAt.tuples oz oA hu h1;have ne:=RcNeAt.tuples oz oA hu h1;have hs:us.toArray.size=zs.toArray.size:=by simpa using h3
   have hb:((List.range (min us.toArray.size zs.toArray.size)).all e'&&us.toArray.size==zs.toArray.size)=k:=by
    rw[<-hs,Nat.min_self,h2];simp
   rw[hb]at rc ne;exact⟨rc,ne⟩
  .have hk:=qQ hl e;subst hk;have hcl:∃e':Nat->Bool,∀j (h1:j<us.toArray.size) (h2:j<zs.toArray.size),EqAt A.in1 s us.toArray[j] zs.toArray[j] (e' j):=by
    obtain⟨e',h1⟩:=wL e;refine⟨e',λj g1 g2=>?_⟩;have S6:j<us.length:=by simpa using g1
    have S7:j<zs.length:=by simpa using g2
    have ha:x[j]?=some x[j]:=xZ (by omega);have hb:y[j]?=some y[j]:=xZ (by omega);obtain⟨va,a1,a2⟩:=v1.get ha;obtain⟨vb,b1,b2⟩:=v2.get hb;obtain⟨u,a3,a4⟩:=p1.get a1;obtain⟨w,b3,b4⟩:=p2.get b1;have eu:us.toArray[j]=u:=by
     have:=(List.getElem?_eq_some_iff.mp a3).2;simpa using this
    have ew:zs.toArray[j]=w:=by
     have:=(List.getElem?_eq_some_iff.mp b3).2;simpa using this
    rw[eu,ew];exact(ih _ _ _ _ _ _ _ a2 b2 a4 b4 (h1 j _ _ ha hb)).eq
   obtain⟨e',h1⟩:=hcl;have rc:=RcAt.tuples oz oA hu h1;have ne:=RcNeAt.tuples oz oA hu h1;have hs:(us.toArray.size==zs.toArray.size)=false:=by
    simp only[zA,beq_eq_false_iff_ne,ne_eq];omega
   rw[hs,Bool.and_false]at rc ne;exact⟨rc,ne⟩
 by_cases hab:a=b
 .subst hab;rw[I.lX q2 q1]at v2;have hk:k=true:=AB I hr (n+1) (.tup x) (.tup y) (.ref a) k ⟨a,vs,rfl,q1,v1⟩ ⟨a,vs,rfl,q1,v2⟩ e;subst hk;exact⟨.same _,both.1,both.2⟩
 .exact⟨.of_refs hab both.1,both.1,both.2⟩
end
section
variable{X:Cx}{pins:List (Addr×Obj)}{σ:L2.St}{H:Hp}{s:Shared}{r:List Addr}{h:Hh}
def tD(I:Inv X pins σ H s)(hr:HR X.K H r h):∀(n:Nat) (A:Around) (a b:D) (va vb:V) (u w:Value) (k:Bool),A.units+n<cLine->RV X.K H r a va->RV X.K H r b vb->RelV va u->RelV vb w->Ev.eH h n a b=some k->ue A s u w k:=by
 intro n;induction n with
 |zero=>intro A a b va vb u w k _ _ _ _ _ e;cases e
 |succ n ih=>
  intro A a b va vb u w k hu h1 h2 r1 r2 e;have bP:A.units<cLine:=by omega
  have ih':∀a b va vb u w k,RV X.K H r a va->RV X.K H r b vb->RelV va u->RelV vb w->Ev.eH h n a b=some k->ue A.in1 s u w k:=λa b va vb u w k=>ih A.in1 a b va vb u w k (by show A.units+1+n<cLine;omega);have s1:=h1.shape;have s2:=h2.shape;have lst:∀{i:Nat} {v:V} {u:Value} {ds:List D},cy X.K H r (.ref i) v->RelV v u->Ev.aY h i=some ds->∃p us,u=.ref p/\PlainL s.heap p (List.toArray us):=λ{i v u ds} hv ru el=>by
   obtain⟨p,rfl,z⟩:=hv;cases ru;obtain⟨us,pl⟩:=AA I hr el z;exact⟨p,us,rfl,pl⟩
  have tup:∀{ds:List D} {v:V} {u:Value},cy X.K H r (.tup ds) v->RelV v u->∃p us,u=.ref p/\s.heap.IsTuple p (List.toArray us):=λ{ds v u} hv ru=>by
   obtain⟨p,vs,rfl,z,_⟩:=hv;cases ru;obtain⟨us,_,pt,_⟩:=I.tuple z;exact⟨p,us,rfl,pt⟩
  cases a with
  |aG=>
   simp only[cy]at s1;subst s1;cases r1;cases b with
   |aG=>simp only[cy]at s2;subst s2;cases r2;cases e;exact⟨.same _,.none_none,.none_none⟩
   |bl y=>simp only[cy]at s2;subst s2;cases r2;cases e;exact⟨.none_bool _,.none_bool _,.none_bool _⟩
   |int y=>simp only[cy]at s2;subst s2;obtain⟨t,rfl⟩:=r2;cases e;exact⟨.none_int _ _,.none_int _ _,.none_int _ _⟩
   |str y=>simp only[cy]at s2;subst s2;obtain⟨t,rfl⟩:=r2;cases e;exact⟨.none_str _ _,.none_str _ _,.none_str _ _⟩
   |tup y=>obtain⟨p,us,rfl,pt⟩:=tup s2 r2;cases e;exact⟨.none_tuple pt bP,.none_tuple pt bP,.none_tuple pt bP⟩
   |ref m=>
    obtain⟨ds,e1,rfl⟩:=Option.map_eq_some_iff.mp e;obtain⟨p,us,rfl,pl⟩:=lst s2 r2 e1;exact⟨.none_list pl.isList bP,.none_list pl.isList bP,.none_list pl.isList bP⟩
  |bl x=>
   simp only[cy]at s1;subst s1;cases r1;cases b with
   |aG=>simp only[cy]at s2;subst s2;cases r2;cases e;exact⟨.bool_none _,.bool_none _,.bool_none _⟩
   |bl y=>simp only[cy]at s2;subst s2;cases r2;cases e;exact⟨.bool_bool _ _,.bool_bool _ _,.bool_bool _ _⟩
   |int y=>simp only[cy]at s2;subst s2;obtain⟨t,rfl⟩:=r2;cases e;exact⟨.bool_int _ _ _,.bool_int _ _ _,.bool_int _ _ _⟩
   |str y=>simp only[cy]at s2;subst s2;obtain⟨t,rfl⟩:=r2;cases e;exact⟨.bool_str _ _ _,.bool_str _ _ _,.bool_str _ _ _⟩
   |tup y=>obtain⟨p,us,rfl,pt⟩:=tup s2 r2;cases e;exact⟨.bool_tuple _ pt bP,.bool_tuple _ pt bP,.bool_tuple _ pt bP⟩
   |ref m=>
    obtain⟨ds,e1,rfl⟩:=Option.map_eq_some_iff.mp e;obtain⟨p,us,rfl,pl⟩:=lst s2 r2 e1;exact⟨.bool_list _ pl.isList bP,.bool_list _ pl.isList bP,.bool_list _ pl.isList bP⟩
  |int x=>
   simp only[cy]at s1;subst s1;obtain⟨t0,rfl⟩:=r1;cases b with
   |aG=>simp only[cy]at s2;subst s2;cases r2;cases e;exact⟨.int_none _ _,.int_none _ _,.int_none _ _⟩
   |bl y=>simp only[cy]at s2;subst s2;cases r2;cases e;exact⟨.int_bool _ _ _,.int_bool _ _ _,.int_bool _ _ _⟩
   |int y=>simp only[cy]at s2;subst s2;obtain⟨t,rfl⟩:=r2;cases e;exact⟨.int_int _ _ _ _,.int_int _ _ _ _,.int_int _ _ _ _⟩
   |str y=>simp only[cy]at s2;subst s2;obtain⟨t,rfl⟩:=r2;cases e;exact⟨.int_str _ _ _ _,.int_str _ _ _ _,.int_str _ _ _ _⟩
   |tup y=>obtain⟨p,us,rfl,pt⟩:=tup s2 r2;cases e;exact⟨.int_tuple _ _ pt bP,.int_tuple _ _ pt bP,.int_tuple _ _ pt bP⟩
   |ref m=>
    obtain⟨ds,e1,rfl⟩:=Option.map_eq_some_iff.mp e;obtain⟨p,us,rfl,pl⟩:=lst s2 r2 e1;exact⟨.int_list _ _ pl.isList bP,.int_list _ _ pl.isList bP,.int_list _ _ pl.isList bP⟩
  |str x=>
   simp only[cy]at s1;subst s1;obtain⟨t0,rfl⟩:=r1;cases b with
   |aG=>simp only[cy]at s2;subst s2;cases r2;cases e;exact⟨.str_none _ _,.str_none _ _,.str_none _ _⟩
   |bl y=>simp only[cy]at s2;subst s2;cases r2;cases e;exact⟨.str_bool _ _ _,.str_bool _ _ _,.str_bool _ _ _⟩
   |int y=>simp only[cy]at s2;subst s2;obtain⟨t,rfl⟩:=r2;cases e;exact⟨.str_int _ _ _ _,.str_int _ _ _ _,.str_int _ _ _ _⟩
   |str y=>
    simp only[cy]at s2;subst s2;obtain⟨t,rfl⟩:=r2;cases e;rw[<-GR];exact⟨.str_str _ _ _ _,.str_str _ _ _ _,.str_str _ _ _ _⟩
   |tup y=>obtain⟨p,us,rfl,pt⟩:=tup s2 r2;cases e;exact⟨.str_tuple _ _ pt bP,.str_tuple _ _ pt bP,.str_tuple _ _ pt bP⟩
   |ref m=>
    obtain⟨ds,e1,rfl⟩:=Option.map_eq_some_iff.mp e;obtain⟨p,us,rfl,pl⟩:=lst s2 r2 e1;exact⟨.str_list _ _ pl.isList bP,.str_list _ _ pl.isList bP,.str_list _ _ pl.isList bP⟩
  |tup x=>
   cases b with
   |tup y=>
    obtain⟨p,vs,rfl,z,w1⟩:=s1;obtain⟨p',vs',rfl,z',w2⟩:=s2;cases r1;cases r2;exact GS I hr bP z z' w1 w2 ih' e
   |aG=>obtain⟨p,us,rfl,pt⟩:=tup s1 r1;simp only[cy]at s2;subst s2;cases r2;cases e;exact⟨.tuple_none pt bP,.tuple_none pt bP,.tuple_none pt bP⟩
   |bl y=>obtain⟨p,us,rfl,pt⟩:=tup s1 r1;simp only[cy]at s2;subst s2;cases r2;cases e;exact⟨.tuple_bool _ pt bP,.tuple_bool _ pt bP,.tuple_bool _ pt bP⟩
   |int y=>obtain⟨p,us,rfl,pt⟩:=tup s1 r1;simp only[cy]at s2;subst s2;obtain⟨t,rfl⟩:=r2;cases e;exact⟨.tuple_int _ _ pt bP,.tuple_int _ _ pt bP,.tuple_int _ _ pt bP⟩
   |str y=>obtain⟨p,us,rfl,pt⟩:=tup s1 r1;simp only[cy]at s2;subst s2;obtain⟨t,rfl⟩:=r2;cases e;exact⟨.tuple_str _ _ pt bP,.tuple_str _ _ pt bP,.tuple_str _ _ pt bP⟩
   |ref m=>
    obtain⟨p,us,rfl,pt⟩:=tup s1 r1;obtain⟨ds,e1,rfl⟩:=Option.map_eq_some_iff.mp e;obtain⟨p',us',rfl,pl⟩:=lst s2 r2 e1;exact⟨.tuple_list pt pl.isList bP,.tuple_list pt pl.isList bP,.tuple_list pt pl.isList bP⟩
  |ref i=>
   cases b with
   |ref m=>
    replace e:Ev.jA h (Ev.eH h n) i m=some k:=e;unfold Ev.jA at e;split at e
    .rename_i S9;subst S9;simp only[cL]at e;obtain⟨ds,e1,rfl⟩:=e;obtain⟨p,us,rfl,pl⟩:=lst s1 r1 e1;obtain⟨p0,rfl,z⟩:=s1;obtain⟨p1,rfl,z'⟩:=s2;rw[z]at z';cases z';cases r1;cases r2;have q:(List.range (List.toArray us).size).all (λ_=>true)=true:=by simp
     have rc:=RcAt.lists (A:=A) (e:=λ_=>true) pl.isList pl.isList rfl bP λj _ _=>EqAt.same _;have ne:=RcNeAt.lists (A:=A) (e:=λ_=>true) pl.isList pl.isList rfl bP λj _ _=>EqAt.same _;rw[q]at rc ne;exact⟨.same _,rc,ne⟩
    .rename_i hne;obtain⟨p0,rfl,z⟩:=s1;obtain⟨p1,rfl,z'⟩:=s2;cases r1;cases r2;split at e
     .rename_i x y g1 g2;obtain⟨q0,q1,ET,q2,q3⟩:=hr.ob _ _ g1;obtain⟨q4,q5,EU,q6,q7⟩:=hr.ob _ _ g2;rw[z]at q1;cases q1;rw[z']at q5;cases q5;exact oV I bP (.of q2) (.of q6) q3 q7 (λw=>hne (hr.inj _ _ _ _ _ z (by rw[w];exact z') g1 g2)) ih' e
     .rename_i x y g1 g2;obtain⟨q0,q1,ET,q2,q3⟩:=hr.ob _ _ g1;obtain⟨q4,q5,EU,q6,q7⟩:=hr.ob _ _ g2;rw[z]at q1;cases q1;rw[z']at q5;cases q5;exact oV I bP (EV q2) (.of q6) q3 q7 (nF I q2 q6) ih' e
     .rename_i x y g1 g2;obtain⟨q0,q1,ET,q2,q3⟩:=hr.ob _ _ g1;obtain⟨q4,q5,EU,q6,q7⟩:=hr.ob _ _ g2;rw[z]at q1;cases q1;rw[z']at q5;cases q5;exact oV I bP (.of q2) (EV q6) q3 q7 (nF I q6 q2).symm ih' e
     .cases e
   |aG=>obtain⟨ds,e1,rfl⟩:=Option.map_eq_some_iff.mp e;obtain⟨p,us,rfl,pl⟩:=lst s1 r1 e1;simp only[cy]at s2;subst s2;cases r2;exact⟨.list_none pl.isList bP,.list_none pl.isList bP,.list_none pl.isList bP⟩
   |bl y=>obtain⟨ds,e1,rfl⟩:=Option.map_eq_some_iff.mp e;obtain⟨p,us,rfl,pl⟩:=lst s1 r1 e1;simp only[cy]at s2;subst s2;cases r2;exact⟨.list_bool _ pl.isList bP,.list_bool _ pl.isList bP,.list_bool _ pl.isList bP⟩
   |int y=>obtain⟨ds,e1,rfl⟩:=Option.map_eq_some_iff.mp e;obtain⟨p,us,rfl,pl⟩:=lst s1 r1 e1;simp only[cy]at s2;subst s2;obtain⟨t,rfl⟩:=r2;exact⟨.list_int _ _ pl.isList bP,.list_int _ _ pl.isList bP,.list_int _ _ pl.isList bP⟩
   |str y=>obtain⟨ds,e1,rfl⟩:=Option.map_eq_some_iff.mp e;obtain⟨p,us,rfl,pl⟩:=lst s1 r1 e1;simp only[cy]at s2;subst s2;obtain⟨t,rfl⟩:=r2;exact⟨.list_str _ _ pl.isList bP,.list_str _ _ pl.isList bP,.list_str _ _ pl.isList bP⟩
   |tup y=>
    obtain⟨ds,e1,rfl⟩:=Option.map_eq_some_iff.mp e;obtain⟨p,us,rfl,pl⟩:=lst s1 r1 e1;obtain⟨p',us',rfl,pt⟩:=tup s2 r2;exact⟨.list_tuple pl.isList pt bP,.list_tuple pl.isList pt bP,.list_tuple pl.isList pt bP⟩
where
 EV {K:PySem.W.Frag} {H:Hp} {a:Addr} {vs:List V} (q:yE K H a vs):fE K H a vs:=by
  rcases q with ⟨ob,e2⟩|e2
  .exact .inl (.inr ⟨ob,e2⟩)
  .exact .inr e2
end
theorem Good.units{G:Tb}{n:Nat}{sc:Scope}{N:List Str}{df:Bool}{X:Cx}(g:Good G n sc N df X):X.A.units+1+Ev.deep<cLine:=by
 have:=g.room.un;have:Ev.deep=20:=rfl;omega
section
variable{G:Tb}{n:Nat}{sc:Scope}{N:List Str}{df:Bool}{X:Cx}
def qR{pins:List (Addr×Obj)}{σ:L2.St}{H:Hp}{s:Shared}{Q:VK}{r:List Addr}{h:Hh}{k:Bool}(I:Inv X pins σ H s)(hr:HR X.K H r h)(q:Res X.K r H h (.bl k) Q):EP X pins σ Q (.bool k) s:=
 ⟨.bl k,H,I,rfl,q.here rfl hr⟩
def EW(g:Good G n sc N df X):dN X (compareOp .Eq) (ir X.K (gR .eq)):=by
 intro pins s σ H x y v u Q I rx ry q;obtain⟨r,h,a,b,d,h',hr,v1,v2,e,q⟩:=q;obtain⟨k,e1,rfl,rfl⟩:=jr e;have:=g.units;exact(tD I hr Ev.deep X.A a b x y v u k (by omega) v1 v2 rx ry e1).rc _ _ _ _ (qR I hr q)
def NR(g:Good G n sc N df X):dN X (compareOp .NotEq) (ir X.K (gR .ne)):=by
 intro pins s σ H x y v u Q I rx ry q;obtain⟨r,h,a,b,d,h',hr,v1,v2,e,q⟩:=q;obtain⟨k,e1,rfl,rfl⟩:=jr e;have:=g.units
 delta Ev.cop at e1;dsimp only at e1;simp only[cL]at e1
 obtain⟨k',e2,rfl⟩:=e1;exact(tD I hr Ev.deep X.A a b x y v u k' (by omega) v1 v2 rx ry e2).ne _ _ _ _ (qR I hr q)
def AD{op:CmpOp}{o:aR}{p:Int->Int->Bool}(ho:dN X (compareOp op) (tR λi j=>.bl (p i j)))(hc:∀a b h k,Ev.cop o a b h=some k->∃i j,a=.int i/\b=.int j/\k=p i j):dN X (compareOp op) (ir X.K (gR o)):=by
 intro pins s σ H x y v u Q I rx ry q;obtain⟨r,h,a,b,d,h',hr,v1,v2,e,q⟩:=q;obtain⟨k,e1,rfl,rfl⟩:=jr e;obtain⟨i,j,rfl,rfl,rfl⟩:=hc _ _ _ _ e1;exact ho pins s σ H x y v u Q I rx ry ⟨i,j,v1,v2,q.here rfl hr⟩
def NS:dN X (compareOp .Lt) (ir X.K (gR .lt)):=AD Nu λa b h k e=>by
 cases a<;>cases b <;> (delta Ev.cop at e;dsimp only at e)<;>first | (cases e;exact⟨_,_,rfl,rfl,rfl⟩)|cases e
def EX:dN X (compareOp .Gt) (ir X.K (gR .gt)):=AD Nv λa b h k e=>by
 cases a<;>cases b <;> (delta Ev.cop at e;dsimp only at e)<;>first | (cases e;exact⟨_,_,rfl,rfl,rfl⟩)|cases e
def GU:dN X (compareOp .IsNot) (ir X.K (gR .jX)):=by
 intro pins s σ H x y v u Q I rx ry q;obtain⟨r,h,a,b,d,h',hr,v1,v2,e,q⟩:=q;obtain⟨k,e1,rfl,rfl⟩:=jr e;cases b with
 |aG=>
  refine Gp pins s σ H x y v u Q I rx ry ⟨v2,?_⟩;have:=v1.shape;cases a with
  |aG=>simp only[cy]at this;subst this;cases e1;exact q.here rfl hr
  |bl _=>simp only[cy]at this;subst this;cases e1;exact q.here rfl hr
  |int _=>simp only[cy]at this;subst this;cases e1;exact q.here rfl hr
  |str _=>simp only[cy]at this;subst this;cases e1;exact q.here rfl hr
  |ref _=>obtain⟨p,rfl,_⟩:=this;cases e1;exact q.here rfl hr
  |tup _=>obtain⟨p,_,rfl,_⟩:=this;cases e1;exact q.here rfl hr
 |_=>cases a<;>cases e1
end
theorem wN{h:Hh}{x:D}:∀{ys:List D}{k:Bool},Ev.mem h x ys=some k->∃e:Nat->Bool,(∀(j:Nat) y,ys[j]?=some y->Ev.eH h Ev.deep y x=some (e j))/\(List.range ys.length).any e=k
 |[],_,e=>⟨λ_=>true,(λj y h=>by simp at h),by cases e;simp⟩
 |y :: ys,k,e=>by
  simp only[Ev.mem,Wk,cI]at e;obtain⟨p,e1,q,e2,e3⟩:=e;cases e3;obtain⟨e,h1,h2⟩:=wN e2;refine⟨λj=>match j with|0=>p|j+1=>e j,λj y' g=>?_,?_⟩
  .cases j with
   |zero=>simp at g;subst g;exact e1
   |succ j=>exact h1 j y' (by simpa using g)
  .rw[V7,Ym,List.any_cons,List.any_map,<-h2];rfl
section
variable{X:Cx}{pins:List (Addr×Obj)}{σ:L2.St}{H:Hp}{s:Shared}{r:List Addr}{h:Hh}
open Classical in
def wO(I:Inv X pins σ H s)(hr:HR X.K H r h){A:Around}(hu:A.units+1+Ev.deep<cLine){x:D}{vx:V}{ux:Value}(v1:RV X.K H r x vx)(rx:RelV vx ux){ys:List D}{vs:List V}{us:List Value}(v2:aI X.K H r ys vs)(p2:Vals vs us){k:Bool}(e:Ev.mem h x ys=some k) :
  ∃f:Value->Bool,(∀y,y∈us.toArray->EqAt A.in1 s y ux (f y))/\us.toArray.any f=k:=by
 obtain⟨e',h1,h2⟩:=wN e;have l1:=v2.length;have l2:=p2.length;have at':∀(j:Nat) (hj:j<us.length),EqAt A.in1 s us[j] ux (e' j):=λj hj=>by
  have ha:ys[j]?=some ys[j]:=xZ (by omega);obtain⟨va,a1,a2⟩:=v2.get ha;obtain⟨u,a3,a4⟩:=p2.get a1;have eu:us[j]=u:=(List.getElem?_eq_some_iff.mp a3).2;rw[eu];exact(tD I hr Ev.deep A.in1 _ _ _ _ _ _ _ (by show A.units+1+Ev.deep<cLine;exact hu) a2 v1 a4 rx (h1 j _ ha)).eq
 refine⟨λy=>decide (∃j,∃hj:j<us.length,us[j]=y/\e' j=true),λy hy=>?_,?_⟩
 .by_cases hx:∃j,∃hj:j<us.length,us[j]=y/\e' j=true
  .obtain⟨j,hj,rfl,ej⟩:=hx;have q:=at' j hj;rw[ej]at q;have:decide (∃j',∃hj':j'<us.length,us[j']=us[j]/\e' j'=true)=true:=VJ ⟨j,hj,rfl,ej⟩;show EqAt A.in1 s us[j] ux (decide (∃j',∃hj':j'<us.length,us[j']=us[j]/\e' j'=true));rw[this];exact q
  .show EqAt A.in1 s y ux (decide (∃j',∃hj':j'<us.length,us[j']=y/\e' j'=true));rw[Vy hx];have hy':y∈us:=by simpa using hy
   obtain⟨j,hj,rfl⟩:=YC hy';have q:=at' j hj;have:e' j=false:=by
    cases z:e' j with
    |false=>rfl
    |true=>exact absurd ⟨j,hj,rfl,z⟩ hx
   rw[this]at q;exact q
 .rw[<-h2,WM,Array.any_eq_true',YU];constructor
  .rintro⟨y,hy,hd⟩;obtain⟨j,hj,_,ej⟩:=VV hd;exact⟨j,List.mem_range.mpr (by omega),ej⟩
  .rintro⟨j,hj,ej⟩;have hj':j<us.length:=by have:=List.mem_range.mp hj;omega
   exact⟨us[j],by simp,VJ ⟨j,hj',rfl,ej⟩⟩
end
section
variable{G:Tb}{n:Nat}{sc:Scope}{N:List Str}{df:Bool}{X:Cx}
def in_of(g:Good G n sc N df X){pins:List (Addr×Obj)}{σ:L2.St}{H:Hp}{s:Shared}{r:List Addr}{h:Hh}(I:Inv X pins σ H s)(hr:HR X.K H r h){a b:D}{x y:V}{v u:Value}{k:Bool}(v1:RV X.K H r a x)(v2:RV X.K H r b y)(rx:RelV x v)(ry:RelV y u)(e:Ev.isin a b h=some k) :
  (∀Q:Value->Shared->Prop,∀E:Value->Shared->Prop,Q (.bool k) s->wpAny (model X.prog X.w) X.A (compareOp .In v u) Q E s)/\(∀Q:Value->Shared->Prop,∀E:Value->Shared->Prop,Q (.bool (!k)) s->wpAny (model X.prog X.w) X.A (compareOp .NotIn v u) Q E s):=by
 have hu:=g.units;cases b with
 |str l=>
  cases a with
  |str c=>
   have s1:=v1.shape;have s2:=v2.shape;simp only[cy]at s1 s2;subst s1 s2;obtain⟨t,rfl⟩:=rx;obtain⟨t',rfl⟩:=ry
   match c,e with
   |[c],e=>
    cases e;have q:(!(Builtin.Str.occurrences (aS l) (aS [c]) 0 (aS l).length 1).isEmpty)=l.contains c:=by
     have:=PySem.StrLaws.found_one (aS l) c;rw[show(aS [c])=⟨#[c]⟩from rfl,this,WM];have e1:l.contains c=true↔c∈l:=by simp
     rw[e1];exact⟨λz=>by simpa[aS]using VV z,λz=>VJ (by simpa[aS]using z)⟩
    refine⟨λQ E hq=>in_str (by rw[q];exact hq),λQ E hq=>notIn_str (by rw[q];exact hq)⟩
   |[],e=>cases e
   |_ :: _ :: _,e=>cases e
  |_=>cases e
 |tup ys=>
  obtain⟨p,vs,rfl,z,w⟩:=v2.shape;cases ry;obtain⟨us,pv,pt,_⟩:=I.tuple z;obtain⟨f,f1,f2⟩:=wO I hr hu v1 rx w pv e;refine⟨λQ E hq=>in_tupleAt f pt f1 (by rw[f2];exact hq),λQ E hq=>notIn_tupleAt f pt f1 (by rw[f2];exact hq)⟩
 |ref i=>
  simp only[Ev.isin,cI]at e;obtain⟨ds,e1,e2⟩:=e;obtain⟨p,rfl,z⟩:=v2.shape;cases ry;obtain⟨p',vs,z',q1,w⟩:=hr.read e1;rw[z]at z';cases z';obtain⟨us,pv,pl,_⟩:=I.list q1;obtain⟨f,f1,f2⟩:=wO I hr hu v1 rx w pv e2;refine⟨λQ E hq=>in_listAt f pl.isList f1 (by rw[f2];exact hq),λQ E hq=>notIn_listAt f pl.isList f1 (by rw[f2];exact hq)⟩
 |_=>cases e
def NT(g:Good G n sc N df X):dN X (compareOp .In) (ir X.K (gR .isin)):=by
 intro pins s σ H x y v u Q I rx ry q;obtain⟨r,h,a,b,d,h',hr,v1,v2,e,q⟩:=q;obtain⟨k,e1,rfl,rfl⟩:=jr e;exact(in_of g I hr v1 v2 rx ry (show Ev.isin a b h'=some k by cases a<;>cases b<;>exact e1)).1 _ _ (qR I hr q)
def qS(a b:List Nat):aS a++aS b=aS (a++b):=by
 show Str.append (aS a) (aS b)=_;simp[Str.append,aS]
def GV{pins:List (Addr×Obj)}{σ:L2.St}{H:Hp}{s:Shared}{Q:Value->Shared->Prop}{E:Value->Shared->Prop}(I:Inv X pins σ H s){a b:Addr}{ys:List V}(h1:dU X.K H a [])(h2:dU X.K H b ys)(q:Q (.ref b) s):wpAny (model X.prog X.w) X.A (binaryOp .Add (.ref a) (.ref b)) Q E s:=by
 obtain⟨us,p1,Tc,_⟩:=I.tuple h1;obtain⟨zs,p2,Td,_⟩:=I.tuple h2;cases p1;obtain⟨⟨cls,dd,data,sl⟩,ho,hc,n,hd⟩:=id Tc;obtain⟨⟨QX,dd2,data2,sl2⟩,ho2,hc2,n2,hd2⟩:=id Td;simp only at hc hd hc2 hd2;subst hc hd hc2 hd2;exact YE ⟨_,ho,rfl⟩ ⟨_,ho2,rfl⟩ X4 YA Xf W5 (W2 _ _)
  (tuple_addW0 a b _ _ n n2 dd dd2 sl sl2 (by simp)) ⟨ho,ho2,q⟩
def Kn:dN X (binaryOp .Add) (ir X.K (Ev.bH .add)):=by
 intro pins s σ H x y v u Q I rx ry q;obtain⟨r,h,a,b,d,h',hr,v1,v2,e,q⟩:=q;have s1:=v1.shape;have s2:=v2.shape;cases a with
 |int i=>cases b with
  |int j=>cases e;exact Jc pins s σ H x y v u Q I rx ry ⟨i,j,s1,s2,q.here rfl hr⟩
  |_=>cases e
 |str i=>cases b with
  |str j=>
   delta Ev.bH at e;dsimp only at e
   split at e
   .rename_i hz;cases e;rw[jB]at hz;refine yt pins s σ H x y v u Q I rx ry ⟨aS i,aS j,s1,s2,by rw[cU,cU];exact hz,?_⟩;rw[qS];exact q.here ⟨rfl,by rw[Qn];exact hz⟩ hr
   .cases e
  |_=>cases e
 |tup i=>cases b with
  |tup j=>
   delta Ev.bH at e;dsimp only at e
   split at e
   .rename_i hz;cases e;rw[jB]at hz;obtain⟨pa,vs,rfl,z1,w1⟩:=s1;obtain⟨pb,ws,rfl,z2,w2⟩:=s2;have l1:=w1.length;have l2:=w2.length;cases vs with
    |nil=>
     cases rx;cases ry;refine GV I z1 z2 ⟨.ref pb,H,I,rfl,q.here ?_ hr⟩;have:i=[]:=by cases i with|nil=>rfl|cons _ _=>simp at l1
     subst this;exact⟨pb,ws,rfl,z2,by simpa using w2⟩
    |cons v0 vs=>
     refine Gw pins s σ H _ _ v u Q I rx ry ⟨pa,pb,v0 :: vs,ws,rfl,rfl,z1,z2,by simp,by rw[l1,l2];exact hz,λhw=>?_,λhw p hp=>?_⟩
     .subst hw;have:j=[]:=by cases j with|nil=>rfl|cons _ _=>simp at l2
      subst this;exact q.here ⟨pa,v0 :: vs,rfl,z1,by simpa using w1⟩ hr
     .exact q.tup (w1.append w2) hr hp
   .cases e
  |_=>cases e
 |ref i=>cases b with
  |ref j=>
   delta Ev.bH at e;dsimp only at e
   split at e
   .rename_i ds es e1 e2;obtain⟨pa,rfl,z1⟩:=s1;obtain⟨pb,rfl,z2⟩:=s2;cases rx;cases ry;obtain⟨p1,g1,vs,g2,g3⟩:=hr.ob _ _ e1;obtain⟨p2,k1,ws,k2,k3⟩:=hr.ob _ _ e2;rw[z1]at g1;cases g1;rw[z2]at k1;cases k1;obtain⟨hz,q2⟩:=q.lst e (g3.append k3) hr;exact Jq pins s σ H (.ref pa) (.ref pb) _ _ Q I rfl rfl ⟨_,_,vs,ws,rfl,rfl,g2,k2,by rw[Qn]at hz;exact hz,q2⟩
   .cases e
  |_=>cases e
 |_=>cases b<;>cases e
def Ko:dN X (binaryOp .Sub) (ir X.K (Ev.bH .sub)):=by
 intro pins s σ H x y v u Q I rx ry q;obtain⟨r,h,a,b,d,h',hr,v1,v2,e,q⟩:=q;cases a with
 |int i=>cases b with
  |int j=>cases e;exact Jd pins s σ H x y v u Q I rx ry ⟨i,j,v1,v2,q.here rfl hr⟩
  |_=>cases e
 |_=>cases b<;>cases e
def GW:dN X (binaryOp .FloorDiv) (ir X.K (Ev.bH .fdiv)):=by
 intro pins s σ H x y v u Q I rx ry q;obtain⟨r,h,a,b,d,h',hr,v1,v2,e,q⟩:=q;cases a with
 |int i=>cases b with
  |int j=>
   delta Ev.bH at e;dsimp only at e
   split at e
   .rename_i hz;cases e;exact Gi pins s σ H x y v u Q I rx ry ⟨i,j,v1,v2,hz,q.here rfl hr⟩
   .cases e
  |_=>cases e
 |_=>cases b<;>cases e
def Kp:dN X (binaryOp .Mod) (ir X.K (Ev.bH .mod)):=by
 intro pins s σ H x y v u Q I rx ry q;obtain⟨r,h,a,b,d,h',hr,v1,v2,e,q⟩:=q;cases a with
 |int i=>cases b with
  |int j=>
   delta Ev.bH at e;dsimp only at e
   split at e
   .rename_i hz;cases e;exact Jf pins s σ H x y v u Q I rx ry ⟨i,j,v1,v2,hz,q.here rfl hr⟩
   .cases e
  |_=>cases e
 |_=>cases b<;>cases e
end
noncomputable def uf(t:List Nat):D->Bool
 |.str a=>a==t
 |_=>false
def Kq{h:Hh}{t:List Nat}{n:Nat}:∀{y:D}{b:Bool},Ev.eH h (n+1) y (.str t)=some b->b=uf t y
 |.aG,b,e=>by simp only[Ev.eH]at e;cases e;rfl
 |.bl _,b,e=>by simp only[Ev.eH]at e;cases e;rfl
 |.int _,b,e=>by simp only[Ev.eH]at e;cases e;rfl
 |.str _,b,e=>by simp only[Ev.eH]at e;cases e;rfl
 |.tup _,b,e=>by simp only[Ev.eH]at e;cases e;rfl
 |.ref a,b,e=>by
  simp only[Ev.eH,cL]at e;obtain⟨_,_,rfl⟩:=e;rfl
theorem AE{h:Hh}{t:List Nat}:∀{ys:List D}{k:Nat},Ev.cnt h (.str t) ys=some k->(∀y∈ys,Ev.eH h Ev.deep y (.str t)=some (uf t y))/\k=ys.countP (uf t)
 |[],k,e=>by cases e;simp
 |y :: ys,k,e=>by
  simp only[Ev.cnt,Wk,cI]at e;obtain⟨b,e1,m,e2,e3⟩:=e;have hb:=Kq (n:=19) e1;subst hb;obtain⟨h1,rfl⟩:=AE e2;refine⟨λz hz=>?_,?_⟩
  .rcases List.mem_cons.mp hz with rfl|hz
   .exact e1
   .exact h1 z hz
  .cases e3;rw[X8];split<;>rfl
noncomputable def CC(t:List Nat):Value->Bool
 |.str a _=>a==aS t
 |_=>false
def EY{K:List (Addr×Obj)}{H:Hp}{r:List Addr}{t:List Nat}{y:D}{v:V}{u:Value}(h1:RV K H r y v)(h2:RelV v u):CC t u=uf t y:=by
 cases y with
 |str a=>
  simp only[RV]at h1;obtain⟨rfl,_⟩:=h1;obtain⟨k,rfl⟩:=h2;show(aS a==aS t)=(a==t)
  by_cases q:a=t
  .subst q;simp
  .rw[beq_eq_false_iff_ne.mpr q,beq_eq_false_iff_ne.mpr λz=>q (nD z)]
 |ref n=>
  simp only[RV]at h1;obtain⟨p,rfl,_⟩:=h1;cases h2;rfl
 |tup n=>
  simp only[RV]at h1;obtain⟨p,_,rfl,_⟩:=h1;cases h2;rfl
 |aG=>simp only[RV]at h1;subst h1;cases h2;rfl
 |bl b=>simp only[RV]at h1;subst h1;cases h2;rfl
 |int b=>simp only[RV]at h1;subst h1;obtain⟨k,rfl⟩:=h2;rfl
theorem wQ{K:List (Addr×Obj)}{H:Hp}{r:List Addr}{t:List Nat}:∀{ys:List D}{vs:List V}{us:List Value},aI K H r ys vs->Vals vs us->us.countP (CC t)=ys.countP (uf t)
 |[],_,us,h1,h2=>by simp only[aI]at h1;subst h1;cases h2;rfl
 |y :: ys,_,us,h1,h2=>by
  simp only[aI]at h1;obtain⟨v,w,rfl,h3,h4⟩:=h1;cases h2 with
  |cons a b=>rw[X8,X8,wQ h4 b,EY h3 a]
section
variable{G:Tb}{n:Nat}{sc:Scope}{N:List Str}{df:Bool}{X:Cx}
def CD (g:Good G n sc N df X):wm X "list.count" (wC X.K (Ev.eZ .count)):=by
 intro pins s σ H x xs v us Q I rx rs q;obtain⟨r,h,a,as,d,h',hr,v1,v2,e,q⟩:=q;have hu:=g.units;cases a with
 |ref m=>
  match as,e with
  |[.str t],e=>
   delta Ev.eZ at e;dsimp only at e
   obtain⟨e1,y0⟩:=Ev.aL e;subst y0;obtain⟨k,e2,rfl⟩:=Option.map_eq_some_iff.mp e1;simp only[cI]at e2;obtain⟨ds,e3,e4⟩:=e2;obtain⟨h1,rfl⟩:=AE e4;obtain⟨p,rfl,z⟩:=v1.shape;cases rx;have v2':=v2;simp only[aI]at v2;obtain⟨y,w,rfl,v3,rfl⟩:=v2;obtain⟨u,rfl,ru⟩:=vals1 rs;obtain⟨p',vs,z',q1,w⟩:=hr.read e3;rw[z]at z';cases z';obtain⟨us,pv,pl,_⟩:=I.list q1;obtain⟨⟨cls,dd,data,sl⟩,ho,hc,nn,hd⟩:=id pl.isList;simp only at hc hd;subst hc hd;refine WK W3 ⟨_,ho,rfl⟩ PySem.F.entry_list_count (PySem.F.args_list_count_2 _ _) (list_countAt p us.toArray nn dd sl u (CC t)) ⟨ho,λy hy=>?_,?_⟩
   .have hy':y∈us:=by simpa using hy
    obtain⟨j,hj,rfl⟩:=YC hy';have l1:=w.length;have l2:=pv.length;have ha:ds[j]?=some ds[j]:=xZ (by omega);obtain⟨va,a1,a2⟩:=w.get ha;obtain⟨u',a3,a4⟩:=pv.get a1;have eu:us[j]=u':=(List.getElem?_eq_some_iff.mp a3).2;rw[eu,EY a2 a4];exact(tD I hr Ev.deep X.A.in1 _ _ _ _ _ _ _ (by show X.A.units+1+Ev.deep<cLine;exact hu) a2 v3 a4 ru (h1 _ (X6 _))).eq
   .rw[show us.toArray.toList=us from rfl,wQ w pv];exact⟨.int _,H,I.tok _,⟨_,rfl⟩,q.here (by simp[RV]) hr⟩
 |_=>cases e
end
section
variable{X:Cx}
def Kr(n:Nat)(i:Int):Ev.dg n i=L2.dg n i:=rfl
def Ks{α:Type}(xs:List α)(i:Int):Ev.bz xs i=L2.bz xs i:=rfl
theorem aI.bz{K:PySem.W.Frag}{H:Hp}{r:List Addr}{ds:List D}{vs:List V}{i:Int}{d:D}(w:aI K H r ds vs)(e:Ev.bz ds i=some d):∃v,L2.bz vs i=some v/\RV K H r d v:=by
 unfold Ev.bz at e;obtain⟨j,e1,e2⟩:=Option.bind_eq_some_iff.mp e;obtain⟨v,e3,e4⟩:=w.get e2;exact⟨v,by unfold L2.bz;rw[w.length,<-Kr,e1];exact e3,e4⟩
def NU:wk X (ir X.K JQ):=by
 intro value slice pins s σ H x y v u Q I rx ry q hs;obtain⟨r,h,a,b,d,h',hr,v1,v2,e,q⟩:=q;obtain⟨e,rfl⟩:=Ev.aL e;cases b with
 |int i=>
  have s2:=v2.shape;cases a with
  |tup ds=>
   obtain⟨p,vs,rfl,z,w⟩:=v1.shape;obtain⟨v',g1,g2⟩:=w.bz e;exact Jl value slice pins s σ H _ y v u Q I rx ry ⟨p,vs,i,v',rfl,s2,z,g1,q.here g2 hr⟩ hs
  |str l=>
   simp only[RV]at v1;obtain⟨rfl,hl⟩:=v1;simp only[Ev.fW,cL]at e;obtain⟨c,e1,rfl⟩:=e;exact Jm value slice pins s σ H _ y v u Q I rx ry ⟨aS l,i,c,rfl,s2,by rw[cU];exact hl,by simpa[aS,Ks]using e1,q.here ⟨rfl,by show 1<=sizeLine;decide⟩ hr⟩ hs
  |ref m=>
   simp only[Ev.fW,cI]at e;obtain⟨ds,e1,e2⟩:=e;obtain⟨p,rfl,z⟩:=v1.shape;obtain⟨p',vs,z',q1,w⟩:=hr.read e1;rw[z]at z';cases z';obtain⟨v',g1,g2⟩:=w.bz e2;exact wo value slice pins s σ H _ y v u Q I rx ry ⟨p,vs,i,v',rfl,s2,q1,g1,q.here g2 hr⟩ hs
  |_=>cases e
 |_=>cases a<;>cases e
theorem aI.cut{K:PySem.W.Frag}{H:Hp}{r:List Addr}{ds:List D}{vs:List V}(w:aI K H r ds vs)(lo hi:Option Int):aI K H r (Ev.cut ds lo hi) (mh vs lo hi):=by
 unfold Ev.cut mh;rw[w.length];exact(w.drop _).take _
def sC{α:Type}(xs:List α)(lo hi:Option Int)(h:Ev.aN xs.length 0 lo=0/\Ev.aN xs.length xs.length hi=xs.length):Ev.cut xs lo hi=xs:=by
 unfold Ev.cut;rw[h.1,h.2];simp
def GY{α:Type}(xs:List α)(lo hi:Option Int):(Ev.cut xs lo hi).length<=xs.length:=by
 unfold Ev.cut;rw[VM,WR];omega
def sU{prog:Program}{w:World}{A:Around}{E:Value->Shared->Prop}{s:Shared}{t sl:Addr}{items:Array Value}{vl vu:Value}{lo hi:Option Int}{Q:Value->Shared->Prop}(ht:IsTup s.heap t items)(hs:s.heap.IsSliceOf sl vl vu .none)(pl:IsPart vl lo)(pu:IsPart vu hi)
  (hw:HT.aN items.size 0 lo=0/\HT.aN items.size items.size hi=items.size) (h:Q (.ref t) s):wpAny (model prog w) A (getItem (.ref t) (.ref sl)) Q E s:=by
 obtain⟨os,hos,hcs,hds⟩:=id hs;have Jj:s.TypeIs (.ref sl) "slice" :=⟨os,hos,hcs⟩
 unfold getItem;try with_reducible refine V5 ?_
 first|refine bT (bY ?_)|skip
 refine bT (wpAny_sequenceKey ht.typeIs (by decide) ?_);refine bT (V0 (name:=Str.ofString "__getitem__") ht.typeIs Wa
  (VY Wa ht.typeIs entry_tuple_getitem ?_ (args_tuple_getitem _ _)))
 show wpAny _ _ (Builtin.Tuple.tupleItemsOf (.ref t) >>= _) _ _ s;refine bT (tupleItemsOf_ ht ?_);refine bT (Xj Jj ?_);rw[cS (by decide)];refine bT (HT.jz hs pl pu ?_);have hyes:(((HT.aN items.size 0 lo:Nat):Int)==0&&(1:Int)==1&&(HT.aN items.size items.size hi - HT.aN items.size 0 lo)==items.size)=true:=by
  rw[hw.1,hw.2];simp
 show wpAny _ _ (if (((HT.aN items.size 0 lo:Nat):Int)==0&&(1:Int)==1&&(HT.aN items.size items.size hi - HT.aN items.size 0 lo)==items.size)=true then _ else _) _ _ s;rw[cS hyes];refine bT (m:=Builtin.Tuple.tupleIsExact (.ref t)) (bT (Xj ht.typeIs (bY ?_)));show wpAny _ _ (if ((Value.type "tuple" ==Value.type "tuple")=true)then _ else _) _ _ s;rw[cS (by decide)];exact bT (XO (bT (bY (bY ⟨_,rfl,bY h⟩))))
def AF(lo hi:Option Int)(n:Nat):Builtin.Str.strSliceIndices lo hi 1 n=(List.range (Ev.aN n n hi - Ev.aN n 0 lo)).map (λk=>Ev.aN n 0 lo+k):=by
 have Ku:∀o:Option Int,((match o with|none=>(0:Int)|some i=>max 0 (min (if i<0 then i+(n:Int)else i) (n:Int))))=((Ev.aN n 0 o:Nat):Int):=λo=>by
  cases o with
  |none=>rfl
  |some i=>simp only[Ev.aN];split<;>omega
 have Kv:∀o:Option Int,((match o with|none=>(n:Int)|some i=>max 0 (min (if i<0 then i+(n:Int)else i) (n:Int))))=((Ev.aN n n o:Nat):Int):=λo=>by
  cases o with
  |none=>rfl
  |some i=>simp only[Ev.aN];split<;>omega
 have e:Builtin.Str.strSliceIndices lo hi 1 n=sliceRange (match lo with|none=>(0:Int)|some i=>max 0 (min (if i<0 then i+(n:Int)else i) (n:Int))) (match hi with|none=>(n:Int)|some i=>max 0 (min (if i<0 then i+(n:Int)else i) (n:Int))) 1:=by
  unfold Builtin.Str.strSliceIndices;cases lo<;>cases hi<;>simp
 rw[e,Ku,Kv,sliceRange_one]
def Kw(l:List Nat)(lo hi:Option Int):((Builtin.Str.strSliceIndices lo hi 1 (aS l).length).filterMap ((aS l).cps[·]?)).toArray=(Ev.cut l lo hi).toArray:=by
 rw[cU,AF,pick_run];simp[aS,Ev.cut]
def Kz:ki X (Jz X.K):=by
 intro pins s σ H x v vl vu lo hi sl Q I rx hs pl pu q;obtain⟨r,h,a,d,h',hr,v1,e,q⟩:=q;cases a with
 |tup ds=>
  cases e;obtain⟨p,vs,rfl,z,w⟩:=v1.shape;by_cases hw:HT.aN vs.length 0 lo=0/\HT.aN vs.length vs.length hi=vs.length
  .cases rx;obtain⟨us,pv,pt,hz⟩:=I.tuple z;have hl:=pv.length;have Te:Ev.aN ds.length 0 lo=0/\Ev.aN ds.length ds.length hi=ds.length:=by rw[<-w.length];exact hw
   refine⟨"tuple",_,PyProof.Rows.slot_tuple_getitem.lookup,pt.typeIs,?_⟩;refine sU pt hs pl pu (by rw[zA,<-hl];exact hw) ⟨.ref p,H,I,rfl,q.here ?_ hr⟩;rw[sC ds lo hi Te];exact⟨p,vs,rfl,z,w⟩
  .exact Jk pins s σ H _ v vl vu lo hi sl Q I rx hs pl pu ⟨p,vs,rfl,z,hw,λp' hp=>q.tup (w.cut lo hi) hr hp⟩
 |str l=>
  simp only[RV]at v1;obtain⟨rfl,hl⟩:=v1;obtain⟨t,rfl⟩:=rx;cases e;refine⟨"str",_,PySem.F.slot_str_getitem.lookup,typeIs_str s _ t,?_⟩;have part:∀{v:Value} {o:Option Int},IsPart v o->∃p:Option (Int×Tok),v=partValue p/\p.map (·.1)=o:=λ{v o} hp=>by
   cases hp with
   |none=>exact⟨none,rfl,rfl⟩
   |int i t=>exact⟨some (i,t),rfl,rfl⟩
  obtain⟨l1,e1,e2⟩:=part pl;obtain⟨u1,e3,e4⟩:=part pu;subst e1 e3;obtain⟨os,hos,hcs,hds⟩:=hs;refine wpAny_getItem_str_slice (l:=l1) (u:=u1) (st:=none) ⟨os,hos,hcs,hds⟩ rfl ?_;have EZ:((slicePicked (aS l) l1 u1 none).filterMap ((aS l).cps[·]?)).toArray=(Ev.cut l lo hi).toArray:=by
   show((Builtin.Str.strSliceIndices (l1.map (·.1)) (u1.map (·.1)) 1 (aS l).length).filterMap ((aS l).cps[·]?)).toArray=_;rw[e2,e4];exact Kw l lo hi
  have hcl:=GY l lo hi;unfold sliceMade;refine post_val_or_made (λ_=>?_) λt' k=>?_
  .rw[EZ];show(Ev.cut l lo hi).toArray.size<=sizeLine;simp only[zA];omega
  .have hres:(if (((none:Option (Int×Tok)).map (·.1)).getD 1==1&&(slicePicked (aS l) l1 u1 none).length==(aS l).length)=true then aS l else (⟨((slicePicked (aS l) l1 u1 none).filterMap ((aS l).cps[·]?)).toArray⟩:Str))=aS (Ev.cut l lo hi):=by
    split
    .rename_i hc;rw[gV]at hc;have hlen:(slicePicked (aS l) l1 u1 none).length=(aS l).length:=eq_of_beq hc.2;have hlen2:(slicePicked (aS l) l1 u1 none).length=Ev.aN l.length l.length hi - Ev.aN l.length 0 lo:=by
      show(Builtin.Str.strSliceIndices (l1.map (·.1)) (u1.map (·.1)) 1 (aS l).length).length=_;rw[e2,e4,AF,cU];simp
     rw[cU]at hlen;have hb:Ev.aN l.length l.length hi<=l.length:=HT.tV _ _ (vn _) hi;have ha:Ev.aN l.length 0 lo<=l.length:=HT.tV _ _ (Wm _) lo;rw[sC l lo hi ⟨by omega,by omega⟩]
    .rw[EZ];rfl
   rw[hres];exact⟨.str (aS (Ev.cut l lo hi)),H,I.tok _,⟨_,rfl⟩,q.here ⟨rfl,by omega⟩ hr⟩
 |ref m=>
  simp only[Ev.fN]at e;split at e
  .rename_i ds e1;obtain⟨p,rfl,z⟩:=v1.shape;obtain⟨p',vs,z',q1,w⟩:=hr.read e1;rw[z]at z';cases z';obtain⟨hz,q2⟩:=q.lst e (w.cut lo hi) hr;exact Gy pins s σ H _ v vl vu lo hi sl Q I rx hs pl pu ⟨p,vs,rfl,q1,q2⟩
  .cases e
 |_=>cases e
theorem ug:∀(k:Nat) (l:List Nat) (acc:List Nat),(List.replicate k l.toArray).foldl (·++·) acc.toArray=(acc++Ev.rep k l).toArray
 |0,l,acc=>by simp[Ev.rep]
 |k+1,l,acc=>by
  rw[Uj,Wd];have:acc.toArray++l.toArray=(acc++l).toArray:=by simp
  rw[this,ug k l (acc++l)];simp[Ev.rep,Uj]
def nG{α:Type}(k:Nat)(l:List α):(Ev.rep k l).length=k*l.length:=by
 unfold Ev.rep;exact len_rep l k
def GZ{l:List Nat}{k:Int}(h:0<=k):Txt.mul (aS l) k=aS (Ev.rep k.toNat l):=by
 unfold Txt.mul;by_cases h1:k<1
 .have:k=0:=by omega
  subst this;rw[cS (by decide)];rfl
 .rw[Qm h1];split
  .rename_i hc;rw[V3]at hc;rcases hc with hc|hc
   .have:k=1:=by simpa using hc
    subst this;simp[Ev.rep]
   .rw[cU]at hc;have:l=[]:=by cases l with|nil=>rfl|cons _ _=>simp at hc
    subst this;simp[Ev.rep,aS]
  .show(⟨(List.replicate k.toNat (aS l).cps).foldl (·++·) #[]⟩:Str)=_;have:=ug k.toNat l [];simp only[YY]at this;exact Vw Str.mk this
def jO{a b:Nat}(h1:a<=1000)(h2:b<=1000):a*b<=sizeLine:=VE (Nat.mul_le_mul h1 h2) (by decide)
def G0{pins:List (Addr×Obj)}{σ:L2.St}{H:Hp}{s:Shared}{Q:VK}(I:Inv X pins σ H s){l:List Nat}{k:Int}{t u:Tok}(hk:0<=k/\k<=1000/\l.length<=1000)(q:Q (.str (aS (Ev.rep k.toNat l))) H) :
  wpAny (model X.prog X.w) X.A (binaryOp .Mult (.str (aS l) t) (.int k u)) (EP X pins σ Q) X.xe s:=by
 have hok:MulOk (aS l) k:=mulOk_of 1000 1000 (by rw[cU];exact hk.2.2) (by exact hk.2.1) (by omega) (by decide) (by decide);refine SB.mul hok λt' k'=>?_;rw[GZ hk.1];exact⟨.str _,H,I.tok _,⟨_,rfl⟩,q⟩
def oW:fillsNumberSlot (.type "tuple") "mul" = pure false:=
 PySem.fillsNumberSlot_seq (id:="tuple.__mul__") (r:=some (.builtin "tuple.__rmul__")) PySem.F.slot_tuple_mul.lookup (by decide +kernel) PySem.F.slot_tuple_rmul.lookup (by decide +kernel)
def uh:seqRepeat? (.type "tuple")=pure (some (.builtin "tuple.__mul__")):=by
 unfold seqRepeat?;rw[YQ (T:="tuple") (name:="__mul__") (id:="tuple.__mul__") PySem.F.slot_tuple_mul.lookup (by decide +kernel),YQ (T:="tuple") (name:="__rmul__") (id:="tuple.__rmul__") PySem.F.slot_tuple_rmul.lookup (by decide +kernel)];rfl
def yK(a:Int)(t:Tok)(l:Addr)(items:Array Value)(n:Nat)(dd:Option Addr)(sl:Array (Option Value)) :
  Meets (Builtin.«int.__rmul__» ⟨[.int a t,.ref l],[]⟩) (λ_ R s=>s.heap.get? l=some { cls:=.type "tuple",dict:=dd,data:=.seq items n,slots:=sl }/\R (.ok (.ret Value.notImplemented)) s):=
 .of_wp λprog w A R s h=>by obtain⟨hp,g,d,tk,os⟩:=s;obtain⟨hl,h⟩:=h;wp_walk;exact⟨_,rfl,h⟩
def yL(l:Addr)(items:Array Value)(n:Nat)(dd:Option Addr)(sl:Array (Option Value))(k:Int)(u:Tok)(h1:¬ (decide (k < -2 ^ 63) ||decide (k≥2 ^ 63))=true)(h3:(items.isEmpty ||k==1)=true) :
  Meets (Builtin.«tuple.__mul__» ⟨[.ref l,.int k u],[]⟩) (λ_ R s=>s.heap.get? l=some { cls:=.type "tuple",dict:=dd,data:=.seq items n,slots:=sl }/\R (.ok (.ret (.ref l))) s):=
 .of_wp λprog w A R s h=>by obtain⟨hp,g,d,tk,os⟩:=s;obtain⟨hl,h⟩:=h;have f1:=Yb;wp_walk using VR hl;rw[Qm h1];wp_walk using VR hl;exact⟨_,rfl,h⟩
def yN(l:Addr)(items:Array Value)(n:Nat)(dd:Option Addr)(sl:Array (Option Value))(k:Int)(u:Tok)(h1:¬ (decide (k < -2 ^ 63) ||decide (k≥2 ^ 63))=true)(h3:¬ (items.isEmpty ||k==1)=true)(h4:(decide (k<=0) ||items.isEmpty)=true) :
  Meets (Builtin.«tuple.__mul__» ⟨[.ref l,.int k u],[]⟩) (λ_ R s=>s.heap.get? l=some { cls:=.type "tuple",dict:=dd,data:=.seq items n,slots:=sl }/\R (.ok (.ret (Value.ref s.heap.objs.size))) { s with heap:=s.heap.push { cls:=Value.type "tuple",data:=Data.seq #[]},toks:=s.toks }):=
 .of_wp λprog w A R s h=>by obtain⟨hp,g,d,tk,os⟩:=s;obtain⟨hl,h⟩:=h;have f1:=Yb;wp_walk using VR hl;rw[Qm h1];wp_walk using VR hl;exact⟨_,rfl,h⟩
def yO(l:Addr)(items:Array Value)(n:Nat)(dd:Option Addr)(sl:Array (Option Value))(k:Int)(u:Tok)(h1:¬ (decide (k < -2 ^ 63) ||decide (k≥2 ^ 63))=true)(h3:¬ (items.isEmpty ||k==1)=true)(h4:¬ (decide (k<=0) ||items.isEmpty)=true)
  (h5:¬ (items.size*k > (2 ^ 63 - 1) / 8)) (h6:¬ Builtin.Tuple.tupleTooMany (items.size*k)=true) (hsz:(List.foldl (λx1 x2=>x1++x2) #[] (List.replicate k.toNat items)).size<=sizeLine) :
  Meets (Builtin.«tuple.__mul__» ⟨[.ref l,.int k u],[]⟩) (λ_ R s=>s.heap.get? l=some { cls:=.type "tuple",dict:=dd,data:=.seq items n,slots:=sl }/\R (.ok (.ret (Value.ref s.heap.objs.size))) { s with heap:=s.heap.push { cls:=Value.type "tuple",data:=Data.seq (List.foldl (λx1 x2=>x1++x2) #[] (List.replicate k.toNat items))},toks:=s.toks }):=
 .of_wp λprog w A R s h=>by obtain⟨hp,g,d,tk,os⟩:=s;obtain⟨hl,h⟩:=h;have f1:=Yb;wp_walk using VR hl;rw[Qm h1];wp_walk using VR hl;rw[Qm h5];wp_walk using VR hl;exact⟨_,rfl,h⟩
theorem sD:∀(k:Nat) (l acc:List Value),(List.replicate k l.toArray).foldl (·++·) acc.toArray=(acc++Ev.rep k l).toArray
 |0,l,acc=>by simp[Ev.rep]
 |k+1,l,acc=>by
  rw[Uj,Wd];have:acc.toArray++l.toArray=(acc++l).toArray:=by simp
  rw[this,sD k l (acc++l)];simp[Ev.rep,Uj]
def G1{pins:List (Addr×Obj)}{σ:L2.St}{H:Hp}{s:Shared}{Q:VK}(I:Inv X pins σ H s){p:Addr}{vs:List V}{k:Int}{u:Tok}(hk:0<=k/\k<=1000/\vs.length<=1000)(hp:dU X.K H p vs)
  (q1:Ev.rep k.toNat vs=vs->Q (.ref p) H) (q2:∀p',H p'=none->Q (.ref p') (upd H p' (.tup (Ev.rep k.toNat vs)))) :
  wpAny (model X.prog X.w) X.A (binaryOp .Mult (.ref p) (.int k u)) (EP X pins σ Q) X.xe s:=by
 obtain⟨us,pv,pt,hz⟩:=I.tuple hp;obtain⟨⟨cls,dd,data,sl⟩,ho,hc,n,hd⟩:=id pt;simp only at hc hd;subst hc hd;have hl:=pv.length;have h1:¬ (decide (k < -2 ^ 63) ||decide (k≥2 ^ 63))=true:=by simp;omega
 refine XT (T:="tuple") (U:="int") (by decide) ⟨_,ho,rfl⟩ (λs'=>XQ s' k u) oW PySem.F.fills_int_mul Ys uh PySem.F.slot_int_index.lookup
  (WK Ys (XQ s k u) PySem.F.entry_int_rmul (PySem.F.args_int_rmul_2 _ _) (yK k u p us.toArray n dd sl) ⟨ho,rfl,⟨_,ho,rfl⟩,?_⟩)
 have hrep:∀m:Nat,(Ev.rep m us).length=m*us.length:=λm=>nG m us;by_cases h3:(us.toArray.isEmpty ||k==1)=true
 .refine WK Xe ⟨_,ho,rfl⟩ W4 (W0 _ _) (yL p us.toArray n dd sl k u h1 h3) ⟨ho,?_⟩;refine⟨.ref p,H,I,rfl,q1 ?_⟩;rw[V3]at h3;rcases h3 with h3|h3
  .have:us=[]:=by simpa using h3
   subst this;cases pv;simp[Ev.rep]
  .have:k=1:=by simpa using h3
   subst this;simp[Ev.rep]
 .have laid:∀m:Nat,m=k.toNat->EP X pins σ Q (.ref s.heap.objs.size) { s with heap:=s.heap.push { cls:=.type "tuple",data:=.seq (Ev.rep m us).toArray }}:=λm hm=>by
   subst hm;refine⟨.ref s.heap.objs.size,_,I.laid (t':=s.toks) (o:=.tup (Ev.rep k.toNat vs)) (λb ob q=>eV _ q) (vn _) ?_,rfl,q2 _ (I.hok.fresh (vn _))⟩;exact⟨by rw[nG];exact jO (by omega) hk.2.2,_,pv.rep k.toNat,IsTup.new _ _⟩
  by_cases h4:(decide (k<=0) ||us.toArray.isEmpty)=true
  .refine WK Xe ⟨_,ho,rfl⟩ W4 (W0 _ _) (yN p us.toArray n dd sl k u h1 h3 h4) ⟨ho,?_⟩;have hk0:k=0:=by
    rw[V3]at h4 h3;rcases h4 with h4|h4
    .have:k<=0:=VV h4;omega
    .exact absurd (.inl h4) h3
   have:=laid 0 (by rw[hk0];rfl);exact this
  .have hm:us.toArray.size*k.toNat<=1000000:=by
    rw[zA];exact Nat.mul_le_mul (by omega:us.length<=1000) (by omega:k.toNat<=1000)
   have hm':(us.toArray.size:Int)*k<=1000000:=by
    have e:(us.toArray.size:Int)*k=((us.toArray.size*k.toNat:Nat):Int):=by
     rw[Int.natCast_mul,Int.toNat_of_nonneg hk.1]
    rw[e];omega
   have hf:List.foldl (λx1 x2=>x1++x2) #[] (List.replicate k.toNat us.toArray)=(Ev.rep k.toNat us).toArray:=by
    have:=sD k.toNat us [];simpa using this
   refine WK Xe ⟨_,ho,rfl⟩ W4 (W0 _ _) (yO p us.toArray n dd sl k u h1 h3 h4 (by omega) ?_ ?_) ⟨ho,?_⟩
   .unfold Builtin.Tuple.tupleTooMany;simp only[W9];have:(sizeLine:Int)=16777216:=by rw[Xy];rfl
    omega
   .rw[hf];simp only[zA];rw[nG];exact jO (by omega) (by omega)
   .rw[hf];exact laid _ rfl
def KA:dN X (binaryOp .Mult) (ir X.K (Ev.bH .mul)):=by
 intro pins s σ H x y v u Q I rx ry q;obtain⟨r,h,a,b,d,h',hr,v1,v2,e,q⟩:=q;cases b with
 |int k=>
  have s2:=v2.shape;simp only[cy]at s2;subst s2;cases a with
  |int i=>
   delta Ev.bH at e;dsimp only at e
   split at e
   .rename_i hz;cases e;refine Je pins s σ H x _ v u Q I rx ry ⟨i,k,v1,rfl,?_,q.here rfl hr⟩;unfold Ev.bE at hz;simp only[V3,gV,W9]at hz;exact hz
   .cases e
  |str l=>
   delta Ev.bH at e;dsimp only at e
   split at e
   .rename_i hz;cases e;simp only[RV]at v1;obtain⟨rfl,hl⟩:=v1;obtain⟨t,rfl⟩:=rx;obtain⟨t',rfl⟩:=ry;exact G0 I hz (q.here ⟨rfl,by rw[nG];exact jO (by omega) hz.2.2⟩ hr)
   .cases e
  |tup ds=>
   delta Ev.bH at e;dsimp only at e
   split at e
   .rename_i hz;cases e;obtain⟨p,vs,rfl,z,w⟩:=v1.shape;cases rx;obtain⟨t',rfl⟩:=ry;refine G1 I ⟨hz.1,hz.2.1,by rw[w.length];exact hz.2.2⟩ z (λTf=>q.here ⟨p,vs,rfl,z,?_⟩ hr) λp' hp=>q.tup (w.rep k.toNat) hr hp;have:=w.rep k.toNat;rw[Tf]at this;exact this
   .cases e
  |ref i=>
   delta Ev.bH at e;dsimp only at e
   split at e
   .rename_i ds e1;split at e
    .rename_i hz;obtain⟨p,rfl,z⟩:=v1.shape;obtain⟨p',g1,vs,g2,g3⟩:=hr.ob _ _ e1;rw[z]at g1;cases g1;obtain⟨hz2,q2⟩:=q.lst e (g3.rep k.toNat) hr;exact Jr pins s σ H (.ref p) _ v u Q I rx ry ⟨p,k,vs,rfl,rfl,g2,by omega,by omega,jO (by rw[g3.length];exact hz.2.2) (by omega),q2⟩
    .cases e
   .cases e
  |_=>cases e
 |_=>cases a<;>cases e
end
section
variable{X:Cx}
theorem qT{K:PySem.W.Frag}{H:Hp}{r:List Addr}:∀{ds:List D}{ss:List (List Nat)}{vs:List V}{us:List Value},Ev.strsOf ds=some ss->aI K H r ds vs->Vals vs us->StrsAre us (ss.map aS)/\∀l∈ss,l.length<=sizeLine
 |[],bs,vs,us,e,w,p=>by
  cases e;simp only[aI]at w;subst w;cases p;exact⟨.nil,λl h=>nomatch h⟩
 |d :: ds,bs,vs,us,e,w,p=>by
  cases d with
  |str b=>
   simp only[Ev.strsOf,cL]at e;obtain⟨bs',e1,rfl⟩:=e;simp only[aI,RV]at w;obtain⟨v,w',rfl,⟨rfl,hb⟩,w2⟩:=w;cases p with
   |cons p1 p2=>
    obtain⟨t,rfl⟩:=p1;obtain⟨g1,g2⟩:=qT e1 w2 p2;refine⟨.cons _ _ g1,λl hl=>?_⟩;rcases List.mem_cons.mp hl with z|z
    .subst z;exact hb
    .exact g2 l z
  |_=>cases e
def KD:ny X (.builtin "len") (EF X.K (Ev.dO .len)):=by
 intro pins s σ H xs us Q I r q;obtain⟨rr,h,as,d,h',hr,v1,e,q⟩:=q
 match as,e with
 |[.str l],e=>
  delta Ev.dO at e;dsimp only at e
  split at e
  .cases e;simp only[aI,RV]at v1;obtain⟨v,w,rfl,⟨rfl,hl⟩,rfl⟩:=v1;refine tY pins s σ H _ us Q I r ⟨_,rfl,by rw[cU];exact hl,?_⟩;rw[cU];exact q.here rfl hr
  .cases e
 |[.tup ds],e=>
  cases e;simp only[aI,RV]at v1;obtain⟨v,w,rfl,⟨p,vs,rfl,z,w'⟩,rfl⟩:=v1;refine mj pins s σ H _ us Q I r ⟨p,vs,rfl,.inr z,?_⟩;rw[w'.length];exact q.here rfl hr
 |[.ref m],e=>
  obtain⟨e,rfl⟩:=Ev.aL e;simp only[cL]at e;obtain⟨ds,e1,rfl⟩:=e;simp only[aI,RV]at v1;obtain⟨v,w,rfl,⟨p,rfl,z⟩,rfl⟩:=v1;obtain⟨p',vs,z',q1,w⟩:=hr.read e1;rw[z]at z';cases z';refine mj pins s σ H _ us Q I r ⟨p,vs,rfl,.inl q1,?_⟩;rw[w.length];exact q.here rfl hr
def AG:wm X "list.append" (wC X.K (Ev.eZ .append)):=by
 intro pins s σ H x xs v us Q I rx rs q;obtain⟨r,h,a,as,d,h',hr,v1,v2,e,q⟩:=q;cases a with
 |ref m=>
  match as,e with
  |[b],e=>
   delta Ev.eZ at e;dsimp only at e
   split at e
   .rename_i ds e1;split at e
    .rename_i hz;cases e;rw[jB]at hz;obtain⟨p,rfl,z⟩:=v1.shape;simp only[aI]at v2;obtain⟨y,w,rfl,v3,rfl⟩:=v2;obtain⟨p',g1,vs,g2,g3⟩:=hr.ob _ _ e1;rw[z]at g1;cases g1;refine rS pins s σ H _ _ v us Q I rx rs ⟨p,vs,y,rfl,rfl,g2,by rw[g3.length];exact hz,?_⟩;have f:=Fm.write (K:=X.K) (ws:=vs++[y]) g2 (VD z);exact q _ _ r rfl (hr.write e1 z g2 (g3.append (.cons v3 .nil))) f
    .cases e
   .cases e
  |[],e=>cases e
  |_ :: _ :: _,e=>cases e
 |_=>cases e
def AH:wm X "list.extend" (wC X.K (Ev.eZ .extend)):=by
 intro pins s σ H x xs v us Q I rx rs q;obtain⟨r,h,a,as,d,h',hr,v1,v2,e,q⟩:=q;cases a with
 |ref m=>
  match as,e with
  |[.ref k],e=>
   delta Ev.eZ at e;dsimp only at e
   split at e
   .rename_i ds es e1 e2;split at e
    .rename_i hz;cases e;rw[jB]at hz;obtain⟨p,rfl,z⟩:=v1.shape;simp only[aI,RV]at v2;obtain⟨y,w,rfl,⟨p2,rfl,z2⟩,rfl⟩:=v2;obtain⟨p',g1,vs,g2,g3⟩:=hr.ob _ _ e1;rw[z]at g1;cases g1;obtain⟨p'',k1,ws,k2,k3⟩:=hr.ob _ _ e2;rw[z2]at k1;cases k1;refine Ah pins s σ H _ _ v us Q I rx rs ⟨p,p2,vs,ws,rfl,rfl,g2,k2,by rw[g3.length,k3.length];exact hz,?_⟩;have f:=Fm.write (K:=X.K) (ws:=vs++ws) g2 (VD z);exact q _ _ r rfl (hr.write e1 z g2 (g3.append k3)) f
    .cases e
   .cases e
 |_=>cases e
theorem oX(sep:List Nat):∀ss:List (List Nat),Str.join (aS sep) (ss.map aS)=aS (Ev.bO sep ss)
 |[]=>rfl
 |[s]=>rfl
 |s :: t :: r=>by
  have ih:=oX sep (t :: r);show aS s++aS sep++Str.join (aS sep) ((t :: r).map aS)=_;rw[ih,qS,qS];rfl
def join_eq(sep:List Nat)(ss:List (List Nat)):Txt.join (aS sep) (ss.map aS)=aS (Ev.bO sep ss):=by
 rw[<-oX];exact PySem.StrLaws.glued_eq_join _ _
def G2:wm X "str.join" (wC X.K (Ev.eZ .join)):=by
 intro pins s σ H x xs v us Q I rx rs q;obtain⟨r,h,a,as,d,h',hr,v1,v2,e,q⟩:=q;cases a with
 |str sep=>
  match as,e with
  |[.ref k],e=>
   delta Ev.eZ at e;dsimp only at e
   split at e
   .rename_i ss e1;split at e
    .rename_i hz;cases e;simp only[cI]at e1;obtain⟨ds,e1,e2⟩:=e1;simp only[RV]at v1;obtain⟨rfl,hl⟩:=v1;obtain⟨t,rfl⟩:=rx;simp only[aI,RV]at v2;obtain⟨y,w,rfl,⟨p2,rfl,z2⟩,rfl⟩:=v2;obtain⟨u,rfl,ru⟩:=vals1 rs;cases ru;obtain⟨p',vs,z',q1,w⟩:=hr.read e1;rw[z2]at z';cases z';obtain⟨zs,pv,pl,_⟩:=I.list q1;obtain⟨g1,g2⟩:=qT e2 w pv;have hlen:((ss.map aS).map (·.length)).sum+(ss.map aS).length*(aS sep).length<=16777216:=by
      rw[WC,VL,cU];have:(λx:Str=>x.length) ∘ aS=λl:List Nat=>l.length:=funext λl=>cU l;rw[this];exact hz
     refine join_list pl.isList g1 hlen λt' k'=>?_;rw[join_eq];refine⟨.str _,H,I.tok _,⟨_,rfl⟩,q.here ⟨rfl,?_⟩ hr⟩;have hj:=PySem.StrLaws.join_length_le (aS sep) (ss.map aS);rw[oX,cU]at hj;have:sizeLine=16777216:=Xy;omega
    .cases e
   .cases e
 |_=>cases e
end
section
variable{G:Tb}{n:Nat}{sc:Scope}{N:List Str}{df:Bool}{m:List Nat}{c:E}
def KG{c:Nat}{st:Stmt}:JS G n sc N df m (.eO c) st:=λX g=>PS.of Ca λQ s H q=>by
 obtain⟨r,fr,h,fl,ai,h',sr,hr,e,q⟩:=q;simp only[Ev.ex]at e;cases e
end
theorem wR:∀{a b:List Nat},Ev.lexLe a b=true->Ev.lexLe b a=true->a=b
 |[],[],_,_=>rfl
 |[],_ :: _,_,h=>by simp[Ev.lexLe]at h
 |_ :: _,[],h,_=>by simp[Ev.lexLe]at h
 |x :: xs,y :: ys,h1,h2=>by
  simp only[Ev.lexLe]at h1 h2;by_cases e:x=y
  .subst e;simp only[VI]at h1 h2;rw[wR h1 h2]
  .rw[Qm e]at h1;rw[Qm (WB e)]at h2;simp at h1 h2;omega
theorem le_trans':∀{a b c:List Nat},Ev.lexLe a b=true->Ev.lexLe b c=true->Ev.lexLe a c=true
 |[],_,_,_,_=>by simp[Ev.lexLe]
 |_ :: _,[],_,h,_=>by simp[Ev.lexLe]at h
 |_ :: _,_ :: _,[],_,h=>by simp[Ev.lexLe]at h
 |x :: xs,y :: ys,z :: zs,h1,h2=>by
  simp only[Ev.lexLe]at h1 h2 ⊢;by_cases e:x=y
  .subst e;rw[cS rfl]at h1;by_cases f:x=z
   .subst f;rw[cS rfl]at h2 ⊢;exact le_trans' h1 h2
   .rw[Qm f]at h2 ⊢;exact h2
  .rw[Qm e]at h1;by_cases f:y=z
   .subst f;rw[Qm e];exact h1
   .rw[Qm f]at h2;simp at h1 h2;have:x≠z:=by omega
    rw[Qm this];simp;omega
theorem le_total':∀a b:List Nat,Ev.lexLe a b=false->Ev.lexLe b a=true
 |[],_,h=>by simp[Ev.lexLe]at h
 |_ :: _,[],_=>by simp[Ev.lexLe]
 |x :: xs,y :: ys,h=>by
  simp only[Ev.lexLe]at h ⊢;by_cases e:x=y
  .subst e;rw[cS rfl]at h ⊢;exact le_total' _ _ h
  .rw[Qm e]at h;rw[Qm (WB e)];simp at h ⊢;omega
abbrev Le(a b:List Nat):Prop:=Ev.lexLe a b=true
theorem oY(x:List Nat):∀l,(Ev.kR x l).Perm (x :: l)
 |[]=>.refl _
 |y :: l=>by
  simp only[Ev.kR];split
  .exact .refl _
  .exact((oY x l).cons y).trans (.swap ..)
theorem pW(x:List Nat):∀{l},l.Pairwise Le->(Ev.kR x l).Pairwise Le
 |[],_=>by simp[Ev.kR]
 |y :: l,h=>by
  obtain⟨h1,h2⟩:=List.pairwise_cons.mp h;simp only[Ev.kR];split
  .rename_i hx;exact List.pairwise_cons.mpr ⟨λz hz=>by
    rcases List.mem_cons.mp hz with rfl|hz
    .exact hx
    .exact le_trans' hx (h1 z hz),h⟩
  .rename_i hx;refine List.pairwise_cons.mpr ⟨λz hz=>?_,pW x h2⟩;rcases List.mem_cons.mp ((oY x l).mem_iff.mp hz)with rfl|hz
   .exact le_total' _ _ (by simpa using hx)
   .exact h1 z hz
theorem kU:∀l,(Ev.bu l).Perm l
 |[]=>.refl _
 |x :: l=>(oY x _).trans ((kU l).cons x)
theorem mP:∀l,(Ev.bu l).Pairwise Le
 |[]=>.nil
 |x :: l=>pW x (mP l)
def yP{l m:List (List Nat)}(h:m.Perm l)(s:m.Pairwise Le):m=Ev.bu l:=
 (h.trans (kU l).symm).eq_of_pairwise (λa b _ _=>wR) s (mP l)
theorem um:∀a b:List Nat,Ev.lexLe a b = !ltCps b a
 |[],[]=>by simp[Ev.lexLe,ltCps]
 |[],_ :: _=>by simp[Ev.lexLe,ltCps]
 |_ :: _,[]=>by simp[Ev.lexLe,ltCps]
 |x :: xs,y :: ys=>by
  have ih:=um xs ys;simp only[Ev.lexLe,ltCps];by_cases e:x=y
  .subst e;simp[ih]
  .have e2:¬ y=x:=λz=>e z.symm;rw[Qm e];by_cases h:x<y
   .have:¬ y<x:=by omega
    simp[h,this,e2]
   .have:y<x:=by omega
    simp[h,this]
theorem oB:∀(p:Str) (l:List Str),risingS p l=true->(p :: l).Pairwise λa b=>Le a.cps.toList b.cps.toList
 |p,[],_=>by simp
 |p,x :: r,h=>by
  have h':(!ltCps x.cps.toList p.cps.toList&&risingS x r)=true:=h;rw[gV,<-um]at h';have ih:=oB x r h'.2;refine List.pairwise_cons.mpr ⟨λz hz=>?_,ih⟩;rcases List.mem_cons.mp hz with rfl|hz
  .exact h'.1
  .exact le_trans' h'.1 ((List.pairwise_cons.mp ih).1 z hz)
def AI{ss:List (List Nat)}{ss':List Str}(hp:ss'.Perm (ss.map aS))(hs:sortedS ss'=true):ss'=(Ev.bu ss).map aS:=by
 have Tg:ss'.Pairwise λa b=>Le a.cps.toList b.cps.toList:=by
  cases ss' with
  |nil=>exact .nil
  |cons p l=>exact oB p l hs
 have h1:(ss'.map λz=>z.cps.toList).Perm ss:=by
  have:=hp.map λz:Str=>z.cps.toList;rw[WC]at this;have e:ss.map ((λz:Str=>z.cps.toList) ∘ aS)=ss:=by
   rw[show((λz:Str=>z.cps.toList) ∘ aS)=id from funext λl=>by simp[aS]];simp
  rw[e]at this;exact this
 have h2:=yP h1 (List.pairwise_map.mpr Tg);rw[<-h2,WC];rw[show(aS ∘ λz:Str=>z.cps.toList)=id from funext λz=>by simp[aS]];simp
section
theorem sE:∀{us:List Value}{ss:List (List Nat)},StrsAre us (ss.map aS)->Vals (ss.map λl=>V.str (aS l)) us
 |[],[],_=>.nil
 |[],_ :: _,h=>by cases h
 |u :: us,[],h=>by cases h
 |u :: us,l :: ss,h=>by
  cases h with
  |cons x t h=>exact .cons ⟨_,rfl⟩ (sE h)
theorem aI.ofStrs{K:PySem.W.Frag}{H:Hp}{r:List Addr}:∀{ss:List (List Nat)},(∀l∈ss,l.length<=sizeLine)->aI K H r (ss.map D.str) (ss.map λl=>V.str (aS l))
 |[],_=>.nil
 |l :: ss,h=>.cons ⟨rfl,h l (by simp)⟩ (aI.ofStrs λz hz=>h z (by simp[hz]))
end
end Sm
namespace Rv
open PySem PyProof.Rows
end Rv
namespace Sm
open PySem PySem.Spec PyProof.Rows L2 PySem.SeqAt
open Ev (D O Hh Fr R aF E Es Eo T S Ss Fl Src aU aR TY BI ME)
theorem aI.ofInts{K:PySem.W.Frag}{H:Hp}{r:List Addr}:∀ns:List Int,aI K H r (ns.map D.int) (ns.map V.int)
 |[]=>.nil
 |_ :: l=>.cons rfl (aI.ofInts l)
def KH{K:PySem.W.Frag}{H:Hp}{a:Addr}{vs:List V}(hO:qK H)(hS:fE K H a vs):yE K H a vs:=by
 rcases hS with h|h
 .rcases h with h|⟨o,h⟩
  .rcases hO a with q|⟨o,xs,q⟩
   .rw[q]at h;cases h
   .rw[q]at h;cases h
  .exact .inl ⟨o,h⟩
 .exact .inr h
def NV{K:PySem.W.Frag}{F:List Ev.Fn}{w n f:Nat}{H:Hp}{a:Addr}{ns:List Int}(hO:qK H)(hS:fE K H a (ns.map V.int)){h':Hh}(e:Ev.run F w n f [.ref 0] [.bX (ns.map D.int)]=.ok (.bl true) h') :
  ko K F w n f [.ref a] H (λv _=>v=.bl true) λ_ _ _=>False:=by
 refine⟨[a],[.bX (ns.map D.int)],[.ref 0],.bl true,h',.cons (show RV K H [a] (.ref 0) (.ref a)from ⟨a,rfl,rfl⟩) .nil,⟨rfl,λk o hk=>?_,λk l b x y _ _ hk _=>?_
  ⟩,e,λv H' r' v1 _ _=>v1⟩
 .cases k with
  |zero=>
   simp at hk;subst hk;exact⟨a,rfl,_,KH hO hS,aI.ofInts ns⟩
  |succ k=>simp at hk
 .cases k with
  |zero=>simp at hk
  |succ k=>simp at hk
def G3{F:List Ev.Fn}{wh n f:Nat}{l:PySem.W.OpenLaw}{q:Program}{loose:List Str}{XP:(Str->Option Value)->Heap->Prop}{YP:World->Heap->Prop}{d:DefRec}{K:Params->PySem.W.Frag}{x:Str}(hn:l.most=some 63)(hdf:d.params.defaults=[])(hr:gO n callerA)
  (hY:∀(w:World) (h:Heap),YP w h->(K w.params).In h) (good:∀ns:List Int,ns.length<=63->∃h',Ev.run F wh n f [.ref 0] [.bX (ns.map D.int)]=.ok (.bl true) h')
  (Fo:∀(w:World) (mg:Str->Option Value) (fa:Addr) (h:Heap),(K w.params).In h->h.Ns mainGlobals mg->mg d.name=some (.ref fa)->
   ∃fd:FuncData,(∀(s:Shared) (u:Value),BindsTo s fd ⟨[u],[]⟩ [(x,u)])/\∀base:Heap,(K w.params).In base->base.Ns mainGlobals mg->fK l.prog w (K w.params) mg base jd n fa fd [x] (ko (K w.params) F wh n f)) :
  PySem.W.WalkO q loose XP YP l.row.toRowW d [] (λf vs=>PySem.call f vs):=
 L2.Co (n:=63) (k:=n) (x:=x) (CX:=jd) (sp:=λK=>ko K F wh n f) hn (by decide) hdf hr hY Fo (λK H a ns hl hO hS=>by
  obtain⟨h',e⟩:=good ns hl;exact NV hO hS e) λ_ _ _ _ z=>z
end Sm
namespace Sm
open PySem PySem.Spec PyProof.Rows L2
open Ev (D O Hh Fr R aF E Es Eo It T S Ss Fl Src aU aR TY BI ME)
section
variable{G:Tb}{n:Nat}{sc:Scope}{N:List Str}{df:Bool}{m:List Nat}{a b:E}{xa xb:Expr}{pos:Pos}
noncomputable def hasB(N:List Str)(m:List Nat)(x:Str)(i:Nat):Bool:=(List.range N.length).any λj=>m[j]?==some i&&N[j]?==some x
def hasB.of{x:Str}{i:Nat}(h:hasB N m x i=true):∃j:Nat,m[j]?=some i/\N[j]?=some x:=by
 obtain⟨j,_,q⟩:=List.any_eq_true.mp h;rw[gV]at q;exact⟨j,by simpa using q.1,by simpa using q.2⟩
noncomputable def vB (sc:Scope) (N:List Str) (m:List Nat) (x:Str) (i:Nat):Bool:=hasB N m x i&&(sc.names.lookup x==some .local ||sc.names.lookup x==some .cell ||sc.names.lookup x==some .free)&&!(x==("__debug__" : Str))&&!(x==("__classdict__" : Str))
def jv{x:Str}{i:Nat}(h:vB sc N m x i=true):JE G n sc N df m (.v i) (.Name x pos):=by
 unfold vB at h;simp only[gV,V1,V3]at h;obtain⟨⟨⟨h1,h2⟩,h3⟩,h4⟩:=h;obtain⟨j,e1,e2⟩:=hasB.of h1;exact Q8 j i e1 e2 (by rcases h2 with (h2|h2)|h2;exact .inl (by simpa using h2);exact .inr (.inl (by simpa using h2));exact .inr (.inr (by simpa using h2))) h3 h4
noncomputable def gB(sc:Scope)(N:List Str)(df:Bool)(m:List Nat)(x:Str)(i:Nat):Bool:=hasB N m x i&&(sc.names.lookup x==some .local || (df&&sc.names.lookup x==some .cell))&&decide m.Nodup&&decide N.Nodup
theorem gB.of{x:Str}{i:Nat}(h:gB sc N df m x i=true):∃j:Nat,m[j]?=some i/\N[j]?=some x/\(sc.names.lookup x=some .local\/(df=true/\sc.names.lookup x=some .cell))/\m.Nodup/\N.Nodup:=by
 unfold gB at h;simp only[gV,V3]at h;obtain⟨⟨⟨h1,h2⟩,h3⟩,h4⟩:=h;obtain⟨j,e1,e2⟩:=hasB.of h1;exact⟨j,e1,e2,by rcases h2 with h2|⟨h2,h5⟩;exact .inl (by simpa using h2);exact .inr ⟨h2,by simpa using h5⟩,VV h3,VV h4⟩
def Th{x:Str}{i:Nat}(h:gB sc N df m x i=true):JG G n sc N df m (.one i) (.Name x pos):=by
 obtain⟨j,e1,e2,e3,e4,e5⟩:=gB.of h;exact J1 j i e4 e5 e1 e2 e3
def Ti{x:Str}{i:Nat}{l:List Nat}{xs:List Expr}(h:gB sc N df m x i=true)(hs:rW G n sc N df m l xs):rW G n sc N df m (i :: l) (.Name x pos :: xs):=by
 obtain⟨j,e1,e2,e3,e4,e5⟩:=gB.of h;exact Cs j i e4 e5 hs e1 e2 e3
def Rm{i:Nat}{x:Str}{pos':Pos}(h:gB sc N df m x i=true)(ha:JE G n sc N df m a xa)(hs:∀env:Env,swapsWith xa (some (.Name x pos')) pos.line env=pure false:=by intro _;rfl):JS G n sc N df m (.set i a) (.Assign [.Name x pos'] xa pos):=by
 obtain⟨j,e1,e2,e3,e4,e5⟩:=gB.of h;exact J3 j i e4 e5 ha hs e1 e2 e3
noncomputable def lN (sc:Scope) (x:Str):Bool:=sc.names.lookup x==some .globalImplicit&&!(x==("__debug__" : Str))
def Tj{f:Nat}{i:FI}{es:Es}{x:Str}{e0:Expr}{xs:List Expr}{p:Pos}(h:lN sc x=true)(hf:G.fi[f]?=some i)(hx:i.name=x)(hs:JA G n sc N df m es (e0 :: xs))
  (hst:∀env:Env,starEach (e0 :: xs) env=(false,eval e0 env) :: starEach xs env:=by intro _;rfl) (hpl:∀env:Env,(backTo pos (starEach xs env)).any (·.1)=false:=by intro _;rfl) :
  JE G n sc N df m (.cl f es) (.Call (.Name x p) (e0 :: xs) [] pos):=by
 subst hx;unfold lN at h;simp only[gV,V1]at h;exact NN hf hs (by simpa using h.1) h.2 hst hpl
noncomputable def To:Expr->List Str
 |.Name x _=>[x]
 |.Tuple xs _ _=>xs.filterMap λy=>match y with|.Name x _=>some x|_=>none
 |_=>[]
noncomputable def PK(N:List Str)(m:List Nat)(scope:Scope):List (Str×Nat):=(N.zip m).filter λp=>scope.names.contains (p.1,NameKind.free)
noncomputable def cN(N:List Str)(m:List Nat)(scope:Scope)(tg:Expr):List Str:=To tg++(PK N m scope).map (·.1)
noncomputable def cM(N:List Str)(m:List Nat)(scope:Scope)(t:T):List Nat:=Ev.slots t++(PK N m scope).map (·.2)
def NW{elt:E}{t:T}{it:Ev.It}{cond:Eo}{tg xi xe:Expr}{ifs:List Expr}{scope:Scope}(hn:pV sc N m scope t (cN N m scope tg) (cM N m scope t)=true)(hs:EJ sc scope=true)
  (hi:JI G n sc N df m it tg xi) (hg:JG G n (fq sc scope) (cN N m scope tg) false (cM N m scope t) t tg) (hc:JC G n (fq sc scope) (cN N m scope tg) false (cM N m scope t) cond ifs)
  (he:JE G n (fq sc scope) (cN N m scope tg) false (cM N m scope t) elt xe) (hf:∀(env:Env) x,foldedSetIterable xi env x=pure x:=by intro _ _;rfl):JE G n sc N df m (.comp elt t it cond) (.ListComp xe [⟨tg,xi,ifs,0⟩] scope pos):=
 wJ hi hg hc he (namesOk.of hn) (j3.of hs) hf
def NY{i:Nat}{x:Str}{pos' cpos:Pos}{elt:E}{t:T}{it:Ev.It}{cond:Eo}{tg xi xe:Expr}{ifs:List Expr}{scope:Scope}(h:gB sc N df m x i=true)(hn:pV sc N m scope t (cN N m scope tg) (cM N m scope t)=true)(hs:EJ sc scope=true)
  (hi:JI G n sc N df m it tg xi) (hg:JG G n (fq sc scope) (cN N m scope tg) false (cM N m scope t) t tg) (hc:JC G n (fq sc scope) (cN N m scope tg) false (cM N m scope t) cond ifs)
  (he:JE G n (fq sc scope) (cN N m scope tg) false (cM N m scope t) elt xe) (hf:∀(env:Env) x,foldedSetIterable xi env x=pure x:=by intro _ _;rfl) :
  JS G n sc N df m (.set i (.comp elt t it cond)) (.Assign [.Name x pos'] (.ListComp xe [⟨tg,xi,ifs,0⟩] scope cpos) pos):=by
 obtain⟨j,e1,e2,e3,e4,e5⟩:=gB.of h;exact GQ j i e4 e5 hi hg hc he (namesOk.of hn) (j3.of hs) e1 e2 e3 hf
def Rn{rest:List Expr}(ha:JT G n sc N df m a xa)(hb:JW G n sc N df m b (.BoolOp .And (xb :: rest) pos)):JT G n sc N df m (.an a b) (.BoolOp .And (xa :: xb :: rest) pos):=Q9 (EG ha hb)
noncomputable def allB(G:Tb)(n:Nat):List (Ss×Stmt×List Str)->Prop
 |[]=>True
 |p :: r=>ku G n (aB p.2.1) p.2.2 true (List.range p.2.2.length) p.1 (cE p.2.1)/\allB G n r
theorem allB.get:∀{l:List (Ss×Stmt×List Str)}{k:Nat}{p:Ss×Stmt×List Str},allB G n l->l[k]?=some p->ku G n (aB p.2.1) p.2.2 true (List.range p.2.2.length) p.1 (cE p.2.1)
 |[],_,_,_,e=>nomatch e
 |_ :: _,0,_,h,e=>by cases e;exact h.1
 |_ :: r,k+1,p,h,e=>allB.get (l:=r) (k:=k) h.2 (by simpa using e)
end
end Sm
namespace Sm
open PySem PySem.Spec PyProof.Rows L2 PySem.SeqAt
open Ev (D O Hh Fr R aF E Es Eo T S Ss Fl Src aU aR TY BI ME)
end Sm
namespace Sm
open PySem PySem.Spec PyProof.Rows L2
open Ev (D O Hh Fr R aF E Es Eo It T S Ss Fl Src aU aR TY BI ME)
end Sm
namespace Sm
open PySem PySem.Spec PyProof.Rows
noncomputable def Rs(xs:Array Nat):Prop:=xs.toList.Pairwise (· < ·)
def Rs.lt{xs:Array Nat}(h:Rs xs){i j:Nat}(a:i<j)(b:j<xs.size):xs.getD i 0<xs.getD j 0:=by
 have hi:i<xs.size:=YG a b;have e1:xs.getD i 0=xs.toList[i]'(by simpa using hi):=by simp[Array.getD,hi]
 have e2:xs.getD j 0=xs.toList[j]'(by simpa using b):=by simp[Array.getD,b]
 rw[e1,e2];exact(List.pairwise_iff_getElem.mp h) i j _ _ a
theorem oZ{xs:Array Nat}{j:Nat}(h:Rs xs):∀(f lo hi:Nat),lo<=hi->hi<=xs.size->hi - lo<=f->(∀i,i<lo->xs.getD i 0<j)->(∀i,hi<=i->i<xs.size->j<=xs.getD i 0)->
  SetTable.below.go xs j f lo hi<=xs.size/\(∀i,i<SetTable.below.go xs j f lo hi->xs.getD i 0<j)/\∀i,SetTable.below.go xs j f lo hi<=i->i<xs.size->j<=xs.getD i 0
 |0,lo,hi,a,b,c,d,e=>by
  have:lo=hi:=by omega
  subst this;exact⟨b,d,e⟩
 |f+1,lo,hi,a,b,c,d,e=>by
  unfold SetTable.below.go;by_cases q:lo<hi
  .rw[cS q];have hm:(lo+hi) / 2<xs.size:=by omega
   have hg:xs.getD ((lo+hi) / 2) j=xs.getD ((lo+hi) / 2) 0:=by simp[Array.getD,hm]
   dsimp only;rw[hg];by_cases z:xs.getD ((lo+hi) / 2) 0<j
   .rw[cS z];refine oZ h f _ hi (by omega) b (by omega) (λi hi'=>?_) e;by_cases y:i=(lo+hi) / 2
    .rw[y];exact z
    .exact YG (h.lt (show i<(lo+hi) / 2 by omega) hm) z
   .rw[Qm z];refine oZ h f lo _ (by omega) (by omega) (by omega) d (λi hi' hs=>?_);by_cases y:i=(lo+hi) / 2
    .rw[y];omega
    .have:=h.lt (show(lo+hi) / 2<i by omega) hs;omega
  .rw[Qm q];have:lo=hi:=by omega
   subst this;exact⟨b,d,e⟩
def o4{xs:Array Nat}{j:Nat}(h:Rs xs):SetTable.below xs j<=xs.size/\(∀i,i<SetTable.below xs j->xs.getD i 0<j)/\∀i,SetTable.below xs j<=i->i<xs.size->j<=xs.getD i 0:=
 oZ h xs.size 0 xs.size (Wm _) (vn _) (by omega) (λ_ q=>absurd q (YW _)) (λi a b=>absurd b (by omega))
def wU{xs:Array Nat}{i:Nat}(h:i<xs.size):xs[i]?=some (xs.getD i 0):=by simp[Array.getD,h]
def below_at{xs:Array Nat}(h:Rs xs){i:Nat}(hi:i<xs.size){j:Nat}(a:j<=xs.getD i 0)(b:∀k,k<i->xs.getD k 0<j):SetTable.below xs j=i:=by
 obtain⟨c,d,e⟩:=o4 (j:=j) h;rcases Nat.lt_trichotomy (SetTable.below xs j) i with q|q|q
 .have:=e _ (vn _) (by omega);have:=b _ q;omega
 .exact q
 .have:=d _ q;omega
def AJ{xs:Array Nat}(h:Rs xs){j:Nat}(b:∀k,k<xs.size->xs.getD k 0<j):SetTable.below xs j=xs.size:=by
 obtain⟨c,d,e⟩:=o4 (j:=j) h;rcases XY (SetTable.below xs j) xs.size with q|q
 .have:=e _ (vn _) q;have:=b _ q;omega
 .omega
def AK{xs:Array Nat}(h:Rs xs){j:Nat}(n:xs[SetTable.below xs j]?≠some j):Rs (SetTable.insertAt xs (SetTable.below xs j) j):=by
 obtain⟨c,d,e⟩:=o4 (j:=j) h;unfold Rs;rw[SetTable.toList_insertAt,List.pairwise_append];have hd:∀x∈xs.toList.drop (SetTable.below xs j),j<x:=by
  intro x hx;obtain⟨i,hi,rfl⟩:=List.mem_iff_getElem.mp hx;rw[WR,V4]at hi;rw[List.getElem_drop];have hz:SetTable.below xs j+i<xs.size:=by omega
  have e1:xs.toList[SetTable.below xs j+i]'(by simpa using hz)=xs.getD (SetTable.below xs j+i) 0:=by simp[Array.getD,hz]
  rw[e1];have q1:=e _ (vn _) (show SetTable.below xs j<xs.size by omega);have q2:xs.getD (SetTable.below xs j) 0≠j:=λq=>n (by rw[wU (by omega),q]);by_cases z:i=0
  .subst z;rw[Nat.add_zero];omega
  .have:=h.lt (show SetTable.below xs j<SetTable.below xs j+i by omega) (by omega);omega
 have ht:∀x∈xs.toList.take (SetTable.below xs j),x<j:=by
  intro x hx;obtain⟨i,hi,rfl⟩:=List.mem_iff_getElem.mp hx;rw[VM,V4]at hi;rw[List.getElem_take];have hz:i<xs.size:=by omega
  have e1:xs.toList[i]'(by simpa using hz)=xs.getD i 0:=by simp[Array.getD,hz]
  rw[e1];exact d i (by omega)
 refine⟨h.sublist (YL _ _),List.pairwise_cons.mpr ⟨hd,h.sublist (List.drop_sublist _ _)⟩,λa ha b hb=>?_⟩;rcases List.mem_cons.mp hb with rfl|hb
 .exact ht a ha
 .exact YG (ht a ha) (hd b hb)
def CF(n:Nat):Rs (Array.range n):=by
 unfold Rs;rw[Array.toList_range];exact Yn
noncomputable def Tw(t:SetTable):Prop:=t.dummies = #[]/\Rs t.place
def G4{j:Nat}:SetTable.has #[] j=false:=rfl
theorem uo{t:SetTable}(hd:t.dummies = #[]){f:Nat->Int}{h:Int}:∀(n:Nat) (p:SetTable.Probe) {j:Nat}{d:Option Nat},p.dummy=none->SetTable.probe.go t f h n p=some (.empty j d)->d=none/\t.place[SetTable.below t.place j]?≠some j
 |0,p,j,d,hp,e=>by cases e
 |n+1,p,j,d,hp,e=>by
  unfold SetTable.probe.go at e;cases hs:t.slot p.j with
  |empty=>
   rw[hs]at e;dsimp only at e;injection e with e
   injection e with e1 e2
   subst e1;refine⟨by rw[<-e2];exact hp,λq=>?_⟩;unfold SetTable.slot at hs;dsimp only at hs;rw[q]at hs;simp at hs
  |dummy=>
   unfold SetTable.slot at hs;dsimp only at hs;rw[hd]at hs;split at hs<;>cases hs
  |live i=>
   rw[hs]at e;dsimp only at e;split at e
   .cases e
   .refine uo hd n _ ?_ e;unfold SetTable.advance;split<;>exact hp
theorem Tw.standIn(t:SetTable)(n:Nat):Tw (t.standIn n):=⟨rfl,CF n⟩
def Tw.lay{t:SetTable}(w:Tw t){es:Array (Int×Value)}{h:Int}{x:Value}:Tw (layNew t es h x).2.1/\(layNew t es h x).2.1.led=t.led:=by
 unfold layNew;cases hf:t.freeSlot h with
 |none=>exact⟨.standIn _ _,rfl⟩
 |some q=>
  obtain⟨slot,wd⟩:=q;dsimp only;unfold SetTable.freeSlot at hf;split at hf
  .rename_i j d hp;obtain⟨rfl,hn⟩:=uo w.1 _ _ rfl hp;cases hf;rw[show((none:Option Nat).getD j)=j from rfl];unfold SetTable.orStandIn;split
   .refine⟨⟨?_,AK w.2 hn⟩,rfl⟩;show(if SetTable.has t.dummies j then _ else t.dummies) = #[];rw[w.1,G4];rfl
   .exact⟨.standIn _ _,rfl⟩
  .cases hf
def Tw.CG{t:SetTable}(w:Tw t):Tw { t with plain:=false }:=w
def Tw.NZ{t:SetTable}{es:Array (Int×Value)}{n:Nat}:Tw (relayAll t es n).2.1/\(relayAll t es n).2.1.led=t.led:=by
 unfold relayAll;cases hr:t.relaid (es.map (·.1)) n with
 |none=>exact⟨.standIn _ _,rfl⟩
 |some q=>
  obtain⟨t',o⟩:=q;dsimp only;split
  .unfold SetTable.relaid SetTable.laid at hr;obtain⟨ow,_,e⟩:=Option.bind_eq_some_iff.mp hr;cases e;refine⟨⟨rfl,?_⟩,rfl⟩;show List.Pairwise _ (List.map _ _);rw[List.pairwise_map];refine List.Pairwise.filterMap _ (R:=(· < ·)) (λa b hab x hx y hy=>?_) Yn;simp only[cL]at hx hy;obtain⟨_,_,rfl⟩:=hx;obtain⟨_,_,rfl⟩:=hy;exact hab
  .exact⟨.standIn _ _,rfl⟩
end Sm
namespace Sm
open PySem PySem.Spec PyProof.Rows L2
noncomputable def dY:Value->Key
 |.int n _=>.inl n
 |.str x _=>.inr x
 |_=>.inl 0
inductive Ky:Value->Prop where
 |i (n:Int) (t:Tok):Ky (.int n t)
 |s (x:Str) (t:Tok):Ky (.str x t)
def Ky.is{v:Value}(h:Ky v):kM (dY v) v=true:=by
 cases h
 .exact zS _ _
 .exact zT _ _
def Ky.sc{v:Value}(h:Ky v):v.scannable=true:=by cases h<;>rfl
inductive SW(P:Program)(w:World)(h:Heap)(a:Addr)(ks:List Key):Prop where
 |mk (es:Array (Int×Value)) (ep:Nat) (t:SetTable) (ob:h.get? a=some { cls:=.type "set",dict:=none,data:=.set es ep t })
   (el:∀e∈es.toList,e.1=(cT P w).hash (dY e.2)/\Ky e.2) (fit:t.fits es.size=true) (sm:es.size<scanBound) (tw:Tw t) (led:w.params.followText "set-order" = false->t.led=true)
   (pm:(es.toList.map λe=>dY e.2).Perm ks) (nd:ks.Nodup)
def N1{P:Program}{w:World}{es:List (Int×Value)}(el:∀e∈es,e.1=(cT P w).hash (dY e.2)/\Ky e.2):ElemsOf (cT P w) es:=λe he=>
 ⟨⟨_,(el e he).2.is,(el e he).1⟩,(el e he).2.sc⟩
def SW.at'{P:Program}{w:World}{h h':Heap}{a:Addr}{ks:List Key}(z:SW P w h a ks)(k:∀o,h.get? a=some o->h'.get? a=some o):SW P w h' a ks:=by
 obtain⟨es,ep,t,ob,x⟩:=z;exact⟨es,ep,t,k _ ob,‹_›,‹_›,‹_›,‹_›,‹_›,‹_›,‹_›⟩
noncomputable def fZ(ks:List Key)(k:Key):List Key:=open Classical in if k∈ks then ks else ks++[k]
def CH(ks:List Key)(k:Key):(fZ ks k).length<=ks.length+1:=by unfold fZ;split<;>simp
def qU{ks:List Key}{k:Key}(h:ks.Nodup):(fZ ks k).Nodup:=by
 unfold fZ;split
 .exact h
 .rename_i q;exact List.nodup_append.mpr ⟨h,by simp,λa ha b hb=>by simp at hb;subst hb;intro e;subst e;exact q ha⟩
section
variable{P:Program}{w:World}{A:Around}{E:Value->Shared->Prop}{s:Shared}
def G5{a:Addr}{ks:List Key}{x:Value}{Q:Bool->Shared->Prop}(hx:Ky x)(S:SW P w s.heap a ks)(hr:ks.length+1<scanBound)
  (h:∀b h',Heap.SameBut a s.heap h'->SW P w h' a (fZ ks (dY x))->Q b { s with heap:=h' }):wpAny (model P w) A (setAddHashed a x ((cT P w).hash (dY x))) Q E s:=by
 obtain⟨es,ep,t,ob,el,fit,sm,tw,led,pm,nd⟩:=S;have hel:=N1 el;have hlen:es.size=ks.length:=by rw[<-pm.length_eq];simp
 unfold setAddHashed setAddHashedIn;refine V5 (bT (Wf ob rfl fit ?_));dsimp only;rw[byScan_of hx.sc sm hel,cS rfl];unfold setAddByScan;refine bT (bT (XO (bT (wpAny_setScan_of (knd:=cT P w) hx.is ob rfl fit hel ?_))));have hmem:dY x∈ks↔∃e∈es.toList,(cT P w).is (dY x) e.2=true:=by
  rw[<-pm.mem_iff,List.mem_map];constructor
  .rintro⟨e,he,q⟩;exact⟨e,he,by rw[<-q];exact(el e he).2.is⟩
  .rintro⟨e,he,q⟩;exact⟨e,he,((cT P w).inj e.2 _ _ q (el e he).2.is).symm⟩
 cases hf:List.findIdx? (λe=>(cT P w).is (dY x) e.2) es.toList with
 |some j=>
  obtain⟨hj,hp,_⟩:=List.findIdx?_eq_some_iff_getElem.mp hf;have hin:dY x∈ks:=hmem.mpr ⟨_,X6 hj,hp⟩;have hq:=h false s.heap (Heap.SameBut.refl a s.heap) ⟨es,ep,t,ob,el,fit,sm,tw,led,by rw[fZ,cS hin];exact pm,qU nd⟩;exact bY (bY hq)
 |none=>
  have hin:dY x∉ks:=λq=>by
   obtain⟨e,he,hp⟩:=hmem.mp q;have:=List.findIdx?_eq_none_iff.mp hf e he;rw[hp]at this;cases this
  have hk:fZ ks (dY x)=ks++[dY x]:=by rw[fZ,Qm hin]
  dsimp only;have gw:∀(b:Bool) {s1:Shared} {Q1:Unit->Shared->Prop},Q1 () s1->wpAny (model P w) A (match b with|true=>rule "set.scan.the-table-gave-way" |false=>pure ()) Q1 E s1:=λb s1 Q1 q=>by
   cases b
   .exact bY q
   .exact XO q
  obtain⟨AL,KI⟩:=Tw.lay tw (es:=es) (h:=(cT P w).hash (dY x)) (x:=x);have wV:=layNew_perm t es ((cT P w).hash (dY x)) x;have AM:=layNew_fits t es ((cT P w).hash (dY x)) x;generalize layNew t es ((cT P w).hash (dY x)) x=L at AL KI wV AM ⊢
  obtain⟨es1,t1,wd,gv⟩:=L;dsimp only at AL KI wV AM ⊢;rw[YN]at wV;have PM:∀e∈es1.toList,e.1=(cT P w).hash (dY e.2)/\Ky e.2:=λe he=>by
   rcases List.mem_append.mp (wV.mem_iff.mp he)with q|q
   .exact el e q
   .rw[List.mem_singleton.mp q];exact⟨rfl,hx⟩
  have PN:(es1.toList.map λe=>dY e.2).Perm (fZ ks (dY x)):=by
   rw[hk];exact(wV.map _).trans (by rw[Uy];exact pm.append_right _)
  have PR:es1.size<scanBound:=by
   have:=wV.length_eq;simp at this;omega
  have KJ:w.params.followText "set-order" = false->t1.led=true:=λq=>by rw[KI];exact led q
  refine bT (gw _ ?_);have fin:∀(t2:SetTable),Tw t2->t2.led=t1.led->t2.fits es1.size=true->wpAny (model P w) A (do
    storeSet a es1 t2
    if (!wd&&t2.tooFull)=true then do
      (match (relayAll t2 es1 (SetTable.grown es1.size)).2.2 with|true=>rule "set.scan.the-table-gave-way" |false=>pure ():Sem Unit)
      storeSet a (relayAll t2 es1 (SetTable.grown es1.size)).1 (relayAll t2 es1 (SetTable.grown es1.size)).2.1
      pure (some true)
     else pure (some true):Sem (Option Bool)) (λr s'=>∃h',r=some true/\s'={ s with heap:=h' }/\Heap.SameBut a s.heap h'/\SW P w h' a (fZ ks (dY x))) E s:=by
   intro t2 Tp PU Tq;refine bT (wpAny_storeSet_of ob rfl ?_ (W8 PR));have uq:(s.heap.update a (Obj.putSet es1 t2)).get? a=some { cls:=.type "set",dict:=none,data:=.set es1 (ep+1) t2 }:=VQ (Obj.putSet es1 t2) ob rfl;have PX:=VX s.heap a (Obj.putSet es1 t2);split
   .have AN:=relayAll_perm t2 es1 (SetTable.grown es1.size);have KL:=relayAll_fits t2 es1 (SetTable.grown es1.size);obtain⟨KN,KO⟩:=Tw.NZ (t:=t2) (es:=es1) (n:=SetTable.grown es1.size);generalize relayAll t2 es1 (SetTable.grown es1.size)=L at AN KL KN KO ⊢
    obtain⟨KP,t3,g3⟩:=L;dsimp only at AN KL KN KO ⊢;have PY:KP.size<scanBound:=by
     have:=AN.length_eq;simp at this;omega
    refine bT (gw _ (bT (wpAny_storeSet_of uq rfl (bY ⟨_,rfl,rfl,PX.trans (VX _ a _),?_⟩) (W8 PY))));exact⟨KP,ep+1+1,t3,VQ (Obj.putSet KP t3) uq rfl,λe he=>PM e (AN.mem_iff.mp he),KL,PY,KN,λq=>by rw[KO,PU];exact KJ q,(AN.map _).trans PN,qU nd⟩
   .exact bY ⟨_,rfl,rfl,PX,es1,ep+1,t2,uq,PM,Tq,PR,Tp,λq=>by rw[PU];exact KJ q,PN,qU nd⟩
  split
  .refine bT ?_;rw[hashByValue_scannable 8 hx.sc];refine bY ?_;refine Vx (fin _ ?_ ?_ ?_) (λr s' q=>?_) λ_ _ q=>q
   .split
    .exact AL
    .exact AL.CG
   .split<;>rfl
   .split
    .exact AM
    .exact SetTable.fits_plain_off AM
   .obtain⟨h',rfl,rfl,sb,S'⟩:=q;exact bY (h _ _ sb S')
  .refine bT (bY ?_);rw[cS rfl];refine Vx (fin t1 AL rfl AM) (λr s' q=>?_) λ_ _ q=>q;obtain⟨h',rfl,rfl,sb,S'⟩:=q;exact bY (h _ _ sb S')
end
noncomputable def iy(ks:List Key)(vs:List Value):List Key:=vs.foldl (λk v=>fZ k (dY v)) ks
theorem ur:∀(vs:List Value) (ks:List Key),(iy ks vs).length<=ks.length+vs.length
 |[],ks=>vn _
 |v :: vs,ks=>by
  have h1:=ur vs (fZ ks (dY v));have h2:=CH ks (dY v);show(iy (fZ ks (dY v)) vs).length<=ks.length+(vs.length+1)
  omega
def CJ(ks:List Key)(a b:List Value):iy ks (a++b)=iy (iy ks a) b:=List.foldl_append
section
variable{P:Program}{w:World}{A:Around}{E:Value->Shared->Prop}{s:Shared}
def CK{R:Result->Shared->Prop}{I S:Addr}{items:Array Value}{l:Addr}(hh:A.in1.handled=none)(hne:l≠I)(AO:S≠I)(Tt:S≠l)(hb:items.size+1<scanBound)(hk:∀v∈items.toList,Ky v) :
  ∀(k i:Nat) (s:Shared),items.size - i=k->i<=items.size->s.heap.IsListIter I l i/\s.heap.IsList l items->SW P w s.heap S (iy [] (items.toList.take i))->
   (∀h' tk,(∀b o,b≠S->b≠I->s.heap.get? b=some o->h'.get? b=some o)->SW P w h' S (iy [] items.toList)->R (.ok (.ret .none)) { s with heap:=h',toks:=tk })->
   codeAny (model P w) A (.builtin "set.update.loop" ⟨[.ref S,.ref I],[]⟩) R s:=by
 have W:=Walks.list (prog:=P) (w:=w) hh I l hne items;intro k;induction k with
 |zero=>
  intro i s e1 e2 st hS hR;have:i=items.size:=by omega
  subst this;refine Wq F.entry_set_update_loop ?_;rw[Wx W6 _];show wpAny _ A.in1 (pyNext (.ref I) >>= _) _ _ s;refine bT (W.done s _ _ st λh' tk q=>?_);refine bY (hR h' tk (λb o _ z=>q b o (by simpa using z)) (SW.at' (by
   rw[show items.toList.take items.size=items.toList from VT (by simp)]at hS;exact hS) λo e=>q S o (by simpa using AO) e))
 |succ k ih=>
  intro i s e1 e2 st hS hR;have hlt:i<items.size:=by omega
  refine Wq F.entry_set_update_loop ?_;rw[Wx W6 _];show wpAny _ A.in1 (pyNext (.ref I) >>= _) _ _ s;refine bT (W.item i s _ _ hlt st λv h1 t1 hv st1 q1=>?_);have hv':Ky v:=hk v (by
   have:items.toList[i]?=some v:=by rw[Wt];exact hv
   exact VD this)
  have hS':=hS.at' (h':=h1) λo e=>q1 S o (by simpa using AO) e;show wpAny _ A.in1 (holding [v] (setAdd S v) >>= _) _ _ _;refine bT (V5 ?_);unfold setAdd;refine V5 (bT ((cT P w).pyHash hv'.is ?_));refine G5 (s:={ s with heap:=h1,toks:=t1+1 }) hv' hS' (by
   have:=ur (items.toList.take i) [];simp at this;omega) λb h2 sb S2=>?_
  refine bY ⟨Xg W6 _,ih (i+1) _ (by omega) (by omega) ?_ ?_ λh3 t3 q3 S3=>?_⟩
  .exact⟨st1.1.at λo e=>by rw[sb.2 I (WB AO)];exact e,st1.2.at λo e=>by rw[sb.2 l (WB Tt)];exact e⟩
  .have ht:items.toList.take (i+1)=items.toList.take i++[v]:=by
    rw[YM,Wt,hv];rfl
   rw[ht,CJ];exact S2
  .refine hR h3 t3 (λb o a1 a2 e=>q3 b o a1 a2 ?_) S3;show h2.get? b=some o;rw[sb.2 b a1];exact q1 b o (by simpa using a2) e
def G6(a:Value){Q:Value->Shared->Prop}
  (h:Q (.ref s.heap.objs.size) { s with heap:=s.heap.push { cls:=.type "set",dict:=none,data:=.set #[] 0 (.fresh 0 0 (!w.params.followText "set-order"))}}) :
  codeAny (model P w) A (.call (.builtin "set.__new__") ⟨[.type "set",a],[]⟩) (wants Q E) s:=by
 refine codeAny_of_tree ?_;refine bT (wpAny_of_eq (PySem.F.newCall_set_1 a) (bY ⟨Xg F.plain_set_new _,Wq F.entry_set_new ?_⟩));rw[Wx F.plain_set_new _];unfold Builtin.«set.__new__» Builtin.Frozenset.newClass;have hsub:=sub_set_self;obtain⟨hp,g,d,tk,os⟩:=s;dsimp only
 wp_walk
 refine X3 (bY ?_);dsimp only;simp only[newObj];exact bT (wpAny_alloc (bY (bY h)))
set_option maxHeartbeats 4000000 in
def CL{l:Addr}{items:Array Value}{Q:Value->Shared->Prop}(hh:A.handled=none)(hl:s.heap.IsList l items)(hk:∀v∈items.toList,Ky v)(hb:items.size+1<scanBound)
  (h:∀h' tk,SW P w h' s.heap.objs.size (iy [] items.toList)->(∀b o,s.heap.get? b=some o->h'.get? b=some o)->Q (.ref s.heap.objs.size) { s with heap:=h',toks:=tk }) :
  wpAny (model P w) A (call (.type "set") [.ref l]) Q E s:=by
 obtain⟨c,tl,hm⟩:=F.called_set.mro;have x1:=F.called_set.made;have x2:=F.called_set.sub;refine Xi (codeAny_of_tree ?_);show wpAny _ _ (callAny (.type "set") _) _ _ _;refine bY ⟨Code.quiet_builtin _ (by decide +kernel),Wq F.entry_type_call ?_⟩;rw[Around.under_plain (weight_type_call_type "set" [.ref l] []) rfl];have x3:=F.called_set.notType;have x4:=F.called_set.canCreate;have x5:=PySem.F.typeCall_set_1 (.ref l);repeat (any_goals (first|assumption|wp_step))
 refine Wo (G6 (.ref l) (E:=E) (Q:=λv s1=>v=.ref s.heap.objs.size/\s1={ s with heap:=s.heap.push { cls:=.type "set",dict:=none,data:=.set #[] 0 (.fresh 0 0 (!w.params.followText "set-order"))}}) ⟨rfl,rfl⟩) λr s1 q=>?_;cases r with
 |error e=>exact q
 |ok fl=>
  cases fl with
  |ret v=>
   obtain⟨rfl,rfl⟩:=q;generalize hso:({ cls:=.type "set",dict:=none,data:=.set #[] 0 (.fresh 0 0 (!w.params.followText "set-order"))}:Obj)=so
   have hS:(s.heap.push so).get? s.heap.objs.size=some so:=RB _ (by subst hso;rfl);have hT:Shared.TypeIs { s with heap:=s.heap.push so } (.ref s.heap.objs.size) "set" :=⟨_,hS,by subst hso;rfl⟩
   have y1:=F.called_set.init.lookup;have y2:=F.called_set.init.bind (.ref s.heap.objs.size);repeat (any_goals (first|assumption|wp_step))
   refine Wo (Xo (R:=wants (λr s2=>r=.none/\∃h' tk,s2={ s with heap:=h',toks:=tk }/\SW P w h' s.heap.objs.size (iy [] items.toList)/\(∀b o,s.heap.get? b=some o->h'.get? b=some o)) E) F.called_set.init.plain F.entry_set_init (check_set_init_1 hT ?_)) λr2 s2 q2=>?_
   .obtain⟨ol,z1,z2,nl,z3⟩:=hl;obtain⟨c1,c2,c3,c4⟩:=ol;simp only at z2 z3;subst z2;subst z3;have z4:(s.heap.push so).get? l=some { cls:=.type "list",dict:=c2,data:=.seq items nl,slots:=c4 }:=eV _ z1;have n1:=PySem.F.sub_list_set;have n2:=PySem.F.sub_list_frozenset;have n3:(Value.type "list" ==Value.type "dict")=false:=by decide
    have hl1:(s.heap.push so).IsList l items:=⟨_,z4,rfl,nl,rfl⟩
    subst hso;unfold Builtin.«set.__init__» noKeywords Builtin.Frozenset.updateFrom;generalize Tu:pyIter=PI
    wp_walk
    subst Tu;refine wpAny_pyIter_list (l:=l) (items:=items) ?_ ?_
    .exact hl1
    refine bT (wpAny_runValue ?_);have PZ:l<s.heap.objs.size:=Mt z1;refine CK (I:=(s.heap.push _).objs.size) (l:=l) (items:=items) (by simp[hh]) (by rw[V8];exact So (Xa PZ)) (by rw[V8];exact So (WE _)) (YF PZ) hb hk (items.size - 0) 0 _ rfl (Wm _)
     ⟨⟨_,RB _ rfl,rfl,rfl⟩,hl1.push _⟩ ?_ λh' tk q S'=>?_
    .refine⟨#[],0,.fresh 0 0 (!w.params.followText "set-order"),?_,λe he=>by simp at he,rfl,by decide,⟨rfl,List.Pairwise.nil⟩,λz=>by show(!w.params.followText "set-order")=true;rw[z];rfl,?_,?_⟩
     .exact eV _ hS
     .simp[iy]
     .simp[iy]
    .show wpAny _ _ _ _ _ _;refine bY ?_;show wpAny _ _ (ret Value.none) _ _ _;refine bY ⟨rfl,h',tk,rfl,S',λb o e=>q b o (So (Mt e)) ?_ (eV _ (eV _ e))⟩;rw[V8];exact So (Xa (Mt e))
   .cases r2 with
    |error e=>exact q2
    |ok f2=>
     cases f2 with
     |ret r=>
      obtain⟨rfl,h',tk,rfl,S',k'⟩:=q2;repeat (any_goals (first|assumption|wp_step))
      exact h _ _ S' k'
     |_=>exact q2.elim
  |_=>exact q.elim
end
def AQ:entryFor table "set.__iter__" = some Builtin.«frozenset.__iter__»:=by
 refine entryFor_alias (id':="frozenset.__iter__") ?_ rfl ?_ ?_
 .kernel_rfl
 .decide +kernel
 .kernel_rfl
def jP:entryFor table "set_iterator.__next__" = some Builtin.«set_iterator.__next__»:=entryFor_of_tree (by kernel_rfl)
def eW:Slot "set_iterator" "__next__" "set_iterator.__next__" :=by
 refine .of (owner:="set_iterator") (n:="__next__") ?_ ?_ ?_ ?_ (.inl ?_) ?_
 .rw[typeLookup_type,Yq];kernel_rfl
 .decide +kernel
 .decide +kernel
 .decide +kernel
 .decide +kernel
 .rw[isSubtype_type];kernel_rfl
def kW (a:Value):argsOk "set_iterator.__next__" ⟨[a],[]⟩:=by unfold argsOk;kernel_rfl
def wW{α:Type}{l:List α}{i:Nat}(h:i<l.length):(l[i] :: l.eraseIdx i).Perm l:=by
 rw[List.eraseIdx_eq_take_drop_succ];refine List.perm_middle.symm.trans ?_;rw[<-Wy h,Wr]
theorem wX{α:Type}(nx:Nat->Nat):∀(f k:Nat) (l:List α) (out:Array α),f=l.length->(pickOrder.go nx f k l out).toList.Perm (out.toList++l)
 |0,k,l,out,e=>by
  have:l=[]:=Xr e.symm;subst this;unfold pickOrder.go;simp
 |f+1,k,l,out,e=>by
  have hl:nx k % l.length<l.length:=Nat.mod_lt _ (by omega);unfold pickOrder.go;rw[xZ hl];dsimp only;refine(wX nx f (k+1) _ _ (by rw[XH hl];omega)).trans ?_;rw[YN,VN];exact(wW hl).append_left _
def sF{α:Type}(nx:Nat->Nat)(xs:Array α):(pickOrder nx xs).toList.Perm xs.toList:=by
 have:=wX nx xs.size 0 xs.toList #[] (by simp);simpa[pickOrder]using this
section
variable{P:Program}{w:World}{A:Around}{E:Value->Shared->Prop}{s:Shared}
def yQ{src:Source}{n:Nat}{Q:Nat->Shared->Prop}(hn:n≠0)(h:∀i d,i<n->Q i { s with drawn:=d }):wpAny (model P w) A (choose src n) Q E s:=λΓ p _=>by
 show Sem.wp _ Γ (.choose src n .pure) _ _ p s;rw[Sem.wp_choose];exact⟨hn,h _ _ (Nat.mod_lt _ (Nat.pos_of_ne_zero hn))⟩
theorem wY{α:Type}:∀(n:Nat) (xs:List α) (s:Shared) {Q:List α->Shared->Prop},n=xs.length->(∀ys d,ys.Perm xs->Q ys { s with drawn:=d })->wpAny (model P w) A (drawOrder n xs) Q E s
 |0,xs,s,Q,e,h=>by
  have:xs=[]:=Xr e.symm;subst this;exact bY (h [] s.drawn .nil)
 |n+1,[],s,Q,e,h=>by cases e
 |n+1,x :: xs,s,Q,e,h=>by
  show wpAny _ _ (choose .order (x :: xs).length >>= _) _ _ _;refine bT (yQ (by simp) λi d hi=>?_);rw[xZ hi];dsimp only;refine bT (wY n ((x :: xs).eraseIdx i) _ (by rw[XH hi];omega) λys d' p=>?_);exact bY (h _ d' ((p.cons _).trans (wW hi)))
noncomputable def SO (h:Heap) (a:Addr) (es:Array (Int×Value)) (ep:Nat) (t:SetTable):Prop:=h.get? a=some { cls:=.type "set",dict:=none,data:=.set es ep t }
noncomputable def SI (h:Heap) (I a:Addr) (f:Value) (i n ep:Nat):Prop:=h.get? I=some { cls:=.type "set_iterator",dict:=none,data:=.fields #[f,.int i 0,.ref a,.int n 0,.int ep 0]}
def kB {Q:Bool->Shared->Prop}(h:Q (w.params.followText "set-order") s):wpAny (model P w) A setsByText Q E s:=bT (X3 (bY h))
def sG{Q:Option Value->Shared->Prop}(hh:A.handled=none)(h:∀h',(∀b o,s.heap.get? b=some o->h'.get? b=some o)->Q none { s with heap:=h' }) :
  wpAny (model P w) A.in1 (newExc (.type "StopIteration") [] >>= λx=>(raiseNew x:Sem PySem.Fin)) (λ_ _=>False) (λe s1=>wpAny (model P w) A (do
   if <-isInstance e (.type "StopIteration")then pure none else throw e) Q E s1) s:=by
 refine bT ?_;simp only[newExc,newTuple];refine bT (VU ?_ (by size_fits));refine bT (m:=firstArgMember _ _) (wpAny_of_eq (a:=Value.none) (by first|rfl | (simp only[firstArgMember];rfl)) ?_);refine VU ?_ (by size_fits);simp only[raiseNew];refine bT (wpAny_handled ?_);rw[show A.in1.handled=none from hh];refine bT (bY (wpAny_throw ?_));refine bT (wpAny_isInstance (T:="StopIteration") (b:=true) ⟨_,RB _ rfl,rfl⟩ isSubtype_stop ?_);exact bY (h _ λb o e=>eV _ (eV _ e))
end
section
variable{P:Program}{w:World}{A:Around}{E:Value->Shared->Prop}{s:Shared}{I a:Addr}{es:Array (Int×Value)}{ep:Nat}{t:SetTable}
noncomputable def NX(P:Program)(w:World)(a:Addr)(es:Array (Int×Value))(ep:Nat)(t:SetTable)(slot i:Nat)(r:Option (Value×Nat)):Prop:=
 ∀(A:Around) (E:Value->Shared->Prop) (s:Shared) (Q:Option (Value×Nat)->Shared->Prop),SO s.heap a es ep t->Q r s->wpAny (model P w) A (setNext a slot i ep) Q E s
def SI.ty {f:Value}{i n:Nat}(h:SI s.heap I a f i n ep):s.TypeIs (.ref I) "set_iterator" :=⟨_,h,rfl⟩
def SO.ty (h:SO s.heap a es ep t):s.TypeIs (.ref a) "set" :=⟨_,h,rfl⟩
def KQ{slot i nx:Nat}{v:Value}{Q:Option Value->Shared->Prop}(hI:SI s.heap I a (.int slot 0) i es.size ep)(hS:SO s.heap a es ep t)(fit:t.fits es.size=true)(hne:a≠I)(hx:NX P w a es ep t slot i (some (v,nx)))
  (hQ:∀h',SI h' I a (.int nx 0) (i+1) es.size ep->Heap.SameBut I s.heap h'->Q (some v) { s with heap:=h' }):wpAny (model P w) A (pyNext (.ref I)) Q E s:=by
 unfold pyNext;refine bT (WS (V0 (name:=Str.ofString "__next__") hI.ty eW (VY eW hI.ty jP ?_ (kW _))));refine bT (bY ?_);refine bT (Xw hI rfl ?_);refine bT (WG hS rfl fit ?_);rw[Qm (by simp)];refine bT (hx _ _ _ _ hS ?_);dsimp only;refine bT (WO hI rfl (by simp) ?_);have h1:SI (s.heap.update I (Obj.mapFields (·.setIfInBounds 0 (rawInt nx)))) I a (.int nx 0) i es.size ep:=VQ _ hI rfl;refine bT (WO h1 rfl (by simp) ?_);refine bY ⟨_,rfl,bY (hQ _ ?_ ((VX ..).trans (VX ..)))⟩;exact VQ _ h1 rfl
def yR{slot i:Nat}{Q:Option Value->Shared->Prop}(hh:A.handled=none)(hI:SI s.heap I a (.int slot 0) i es.size ep)(hS:SO s.heap a es ep t)(fit:t.fits es.size=true)(hx:NX P w a es ep t slot i none)
  (hQ:∀h',Heap.ExtBut I s.heap h'->Q none { s with heap:=h' }):wpAny (model P w) A (pyNext (.ref I)) Q E s:=by
 unfold pyNext;refine bT (WS (V0 (name:=Str.ofString "__next__") hI.ty eW (VY eW hI.ty jP ?_ (kW _))));refine bT (bY ?_);refine bT (Xw hI rfl ?_);refine bT (WG hS rfl fit ?_);rw[Qm (by simp)];refine bT (hx _ _ _ _ hS ?_);dsimp only;refine bT (WO hI rfl (by simp) ?_);refine Vx (sG (Q:=Q) (E:=E) (s:={ s with heap:=s.heap.update I (Obj.mapFields (·.setIfInBounds 2 Value.none))}) hh λh' k=>hQ h' ?_) (λ_ _ f=>f.elim) λe s1 q=>q;exact λb o e1 e2=>k b o ((VX ..).extBut b o e1 e2)
noncomputable def TP (h:Heap) (T:Addr) (ps:List Nat):Prop:=h.get? T=some { cls:=.type "tuple",dict:=none,data:=.seq (ps.map λ(i:Nat)=>rawInt i).toArray }
def KR{T:Addr}{ps:List Nat}{i p:Nat}{hv:Int}{v:Value}{Q:Option Value->Shared->Prop}(hI:SI s.heap I a (.ref T) i es.size ep)(hS:SO s.heap a es ep t)(fit:t.fits es.size=true)(hT:TP s.heap T ps)(hp:ps[i]?=some p)(hx:es[p]?=some (hv,v))
  (hQ:∀h',SI h' I a (.ref T) (i+1) es.size ep->Heap.SameBut I s.heap h'->Q (some v) { s with heap:=h' }):wpAny (model P w) A (pyNext (.ref I)) Q E s:=by
 unfold pyNext;refine bT (WS (V0 (name:=Str.ofString "__next__") hI.ty eW (VY eW hI.ty jP ?_ (kW _))));refine bT (bY ?_);refine bT (Xw hI rfl ?_);refine bT (WG hS rfl fit ?_);rw[Qm (by simp)];refine bT (wpAny_seqItems hT rfl ?_);dsimp only;have e1:((ps.map λ(i:Nat)=>rawInt i).toArray)[(Int.toNat ((i:Nat):Int))]?=some (rawInt p):=by
  rw[Wh,Yt,Vz,hp];rfl
 rw[e1];show wpAny _ _ (setNextDrawn a (Int.toNat ((p:Nat):Int)) (Int.toNat ((ep:Nat):Int)) >>= _) _ _ _;unfold setNextDrawn;refine bT (bT (Wf hS rfl fit ?_));dsimp only;rw[Qm (by simp),Wh,hx];refine bY ?_;refine bT (WO hI rfl (by simp) ?_);refine bY ⟨_,rfl,bY (hQ _ ?_ (VX ..))⟩;exact VQ _ hI rfl
def yS{T:Addr}{ps:List Nat}{i:Nat}{Q:Option Value->Shared->Prop}(hh:A.handled=none)(hI:SI s.heap I a (.ref T) i es.size ep)(hS:SO s.heap a es ep t)(fit:t.fits es.size=true)(hT:TP s.heap T ps)(hp:ps[i]?=none)
  (hQ:∀h',Heap.ExtBut I s.heap h'->Q none { s with heap:=h' }):wpAny (model P w) A (pyNext (.ref I)) Q E s:=by
 unfold pyNext;refine bT (WS (V0 (name:=Str.ofString "__next__") hI.ty eW (VY eW hI.ty jP ?_ (kW _))));refine bT (bY ?_);refine bT (Xw hI rfl ?_);refine bT (WG hS rfl fit ?_);rw[Qm (by simp)];refine bT (wpAny_seqItems hT rfl ?_);dsimp only;have e1:((ps.map λ(i:Nat)=>rawInt i).toArray)[(Int.toNat ((i:Nat):Int))]?=none:=by
  rw[Wh,Yt,Vz,hp];rfl
 rw[e1];dsimp only;refine bT (WO hI rfl (by simp) ?_);have h1:SI (s.heap.update I (Obj.mapFields (·.setIfInBounds 0 (rawInt 0)))) I a (.int 0 0) i es.size ep:=VQ _ hI rfl;refine bT (WO h1 rfl (by simp) ?_);refine Vx (sG (Q:=Q) (E:=E) hh λh' k=>hQ h' ?_) (λ_ _ f=>f.elim) λe s1 q=>q;exact λb o e1 e2=>k b o (((VX ..).trans (VX ..)).extBut b o e1 e2)
end
def AR:entryFor table "set_iterator.__iter__" = some Builtin.«dict_keyiterator.__iter__»:=by
 refine entryFor_alias (id':="dict_keyiterator.__iter__") ?_ rfl ?_ ?_
 .kernel_rfl
 .decide +kernel
 .kernel_rfl
def uu:Slot "set_iterator" "__iter__" "set_iterator.__iter__" :=by
 refine .of (owner:="set_iterator") (n:="__iter__") ?_ ?_ ?_ ?_ (.inl ?_) ?_
 .rw[typeLookup_type,Yq];kernel_rfl
 .decide +kernel
 .decide +kernel
 .decide +kernel
 .decide +kernel
 .rw[isSubtype_type];kernel_rfl
def CM (a:Value):argsOk "set_iterator.__iter__" ⟨[a],[]⟩:=by unfold argsOk;kernel_rfl
section
variable{P:Program}{w:World}{A:Around}{E:Value->Shared->Prop}{s:Shared}{I a:Addr}{es:Array (Int×Value)}{ep:Nat}{t:SetTable}
def wZ{f:Value}{i n:Nat}{Q:Value->Shared->Prop}(h:SI s.heap I a f i n ep)(q:Q (.ref I) s):wpAny (model P w) A (pyIter (.ref I)) Q E s:=by
 refine wpAny_pyIter_slot h.ty uu (VY uu h.ty AR ?_ (CM _));show wpAny _ _ (ret (.ref I)) _ _ s;exact bY ⟨_,rfl,"set_iterator",_,h.ty,eW.lookup,q⟩
noncomputable def w9(t:SetTable):Nat->Nat
 |0=>0
 |i+1=>t.place.getD i 0+1
def AS(fit:t.fits es.size=true):t.place.size=es.size:=by
 simp only[SetTable.fits,gV,XS]at fit;exact fit.1
def KS (hb:w.params.followText "set-order" = false) (led:t.led=true) (tw:Tw t) (fit:t.fits es.size=true) (dr:(!t.plain&&decide (es.size > 1))=false) {i:Nat} {e:Int×Value} (hx:es[i]?=some e):NX P w a es ep t (w9 t i) i (some (e.2,w9 t (i+1))):=by
 intro A E s Q hS q;have hi:i<t.place.size:=by rw[AS fit];exact(Array.getElem?_eq_some_iff.mp hx).1
 have KU:SetTable.below t.place (w9 t i)=i:=by
  refine below_at tw.2 hi ?_ λk hk=>?_
  .cases i with
   |zero=>exact Wm _
   |succ i=>exact tw.2.lt (WE i) hi
  .cases i with
   |zero=>omega
   |succ i=>
    show _<t.place.getD i 0+1;by_cases z:k=i
    .rw[z];omega
    .have:=tw.2.lt (show k<i by omega) (by omega);omega
 unfold setNext;refine bT (Wf hS rfl fit ?_);dsimp only;refine bT (kB ?_);rw[hb,Qm VB];refine WL (λz=>absurd z (by show ¬ (!t.plain&&decide (es.size > 1))=true;rw[dr];exact VB)) λ_=>?_;refine bT ?_;show wpAny _ _ (if (!t.led&&!es.isEmpty)=true then unsupported "set:maker-not-led" else pure ()) _ _ _;rw[led];refine bY (bY ?_);rw[KU,hx,wU hi];exact q
def yT (hb:w.params.followText "set-order" = false) (led:t.led=true) (tw:Tw t) (fit:t.fits es.size=true) (dr:(!t.plain&&decide (es.size > 1))=false):NX P w a es ep t (w9 t es.size) es.size none:=by
 intro A E s Q hS q;have KU:SetTable.below t.place (w9 t es.size)=es.size:=by
  rw[<-AS fit];refine AJ tw.2 λk hk=>?_;cases hz:t.place.size with
  |zero=>omega
  |succ i=>
   show _<t.place.getD i 0+1;by_cases z:k=i
   .rw[z];omega
   .have:=tw.2.lt (show k<i by omega) (by omega);omega
 unfold setNext;refine bT (Wf hS rfl fit ?_);dsimp only;refine bT (kB ?_);rw[hb,Qm VB];refine WL (λz=>absurd z (by show ¬ (!t.plain&&decide (es.size > 1))=true;rw[dr];exact VB)) λ_=>?_;refine bT ?_;show wpAny _ _ (if (!t.led&&!es.isEmpty)=true then unsupported "set:maker-not-led" else pure ()) _ _ _;rw[led];refine bY (bY ?_);rw[KU,Yo (vn _)];exact q
def AU (hb:w.params.followText "set-order" = true) (fit:t.fits es.size=true) (i:Nat):NX P w a es ep t 0 i (((pickOrder (w.params.setOrder a ep) es)[i]?).map λe=>(e.2,0)):=by
 intro A E s Q hS q;unfold setNext;refine bT (Wf hS rfl fit ?_);dsimp only;refine bT (kB ?_);rw[hb,cS rfl,Qm (by simp)];unfold setWalk;refine bT (bT (Wf hS rfl fit ?_));dsimp only;refine bT (kB ?_);rw[hb,cS rfl];exact bT (X3 (bY (bY q)))
def CN {Q:Value->Shared->Prop}(hS:SO s.heap a es ep t) (fit:t.fits es.size=true) (sm:es.size<scanBound) (tw:Tw t) (led:w.params.followText "set-order" = false->t.led=true)
  (h:∀(I:Addr) (h':Heap) d (vs:List Value) (St:Nat->Heap->Prop) (fp:List Addr),vs.Perm (es.toList.map (·.2))->(∀A:Around,A.handled=none->Walks P w A I fp [I] es.size (λi v=>vs[i]?=some v) St)->St 0 h'->
   (∀b o,s.heap.get? b=some o->h'.get? b=some o)->s.heap.objs.size<=I->(∀b∈fp,b=a\/s.heap.objs.size<=b)->Q (.ref I) { s with heap:=h',drawn:=d }) :
  wpAny (model P w) A (pyIter (.ref a)) Q E s:=by
 have E2:a<s.heap.objs.size:=Mt hS;refine wpAny_pyIter_slot hS.ty Yr (VY Yr hS.ty AQ ?_ (PySem.F.args_set_iter_1 _));unfold Builtin.«frozenset.__iter__» Builtin.Frozenset.slot0;refine bT (bT (bY (bY ?_)));unfold Builtin.Frozenset.sizeOf;refine bT (bT (WG hS rfl fit (bY ?_)));refine bT ?_;unfold setDrawn;refine bT (Wf hS rfl fit ?_);dsimp only;refine bT (kB (bY ?_));have last:∀(s1:Shared) (f:Value) (St:Nat->Heap->Prop) (fp:List Addr) (vs:List Value),SO s1.heap a es ep t->s.heap.objs.size<=s1.heap.objs.size->s1.gens=s.gens->s1.toks=s.toks->s1.os=s.os->(∀b o,s.heap.get? b=some o->s1.heap.get? b=some o)->vs.Perm (es.toList.map (·.2))->
   (∀A:Around,A.handled=none->Walks P w A s1.heap.objs.size fp [s1.heap.objs.size] es.size (λi v=>vs[i]?=some v) St)->(∀b∈fp,b=a\/s.heap.objs.size<=b)->
   (∀h',SI h' s1.heap.objs.size a f 0 es.size ep->(∀b o,s1.heap.get? b=some o->h'.get? b=some o)->St 0 h')->
   wpAny (model P w) A.in1 (do ret (<-newFields "set_iterator" [f,rawInt 0,.ref a,rawInt es.size,rawInt (<-setEpoch a)])) (λx s2=>∃v,x=PySem.Fin.done (.ret v)/\∃T idx,s2.TypeIs v T/\typeLookup (.type T) (Str.ofString "__next__")=pure (some idx)/\Q v s2) E s1:=by
  intro s1 f St fp vs AO l1 l2 l3 l4 l5 pv W hf hst;refine bT (wpAny_setEpoch_of AO rfl fit ?_);refine bT (VU (bY ⟨_,rfl,"set_iterator",_,⟨_,RB _ rfl,rfl⟩,eW.lookup,?_⟩));have hq:=h s1.heap.objs.size _ s1.drawn vs St fp pv W (hst (s1.heap.push { cls:=.type "set_iterator",dict:=none,data:=.fields #[f,.int 0 0,.ref a,.int es.size 0,.int ep 0]}) (RB _ rfl) λb o e=>eV _ e) (λb o e=>eV _ (l5 b o e)) l1 hf;obtain⟨p1,p2,p3,p4,p5⟩:=s1;simp only at l2 l3 l4;subst l2;subst l3;subst l4;exact hq
 refine WL (λz=>?_) λz=>?_
 .have hz:es.size<=sizeLine:=W8 sm;refine bT (wY _ _ _ (by simp) λps d pp=>?_);have pl:ps.length=es.size:=by rw[pp.length_eq];simp
  refine bT (wpAny_newTuple ?_ (by rw[VL,pl];exact hz));have hlt:∀p∈ps,p<es.size:=λp hp=>List.mem_range.mp (pp.mem_iff.mp hp);generalize hto:({ cls:=.type "tuple",data:=.seq (ps.map λ(i:Nat)=>rawInt i).toArray }:Obj)=to
  refine last { s with heap:=s.heap.push to,drawn:=d } (.ref s.heap.objs.size) (λi h=>SI h (s.heap.push to).objs.size a (.ref s.heap.objs.size) i es.size ep/\SO h a es ep t/\TP h s.heap.objs.size ps) [(s.heap.push to).objs.size,a,s.heap.objs.size] (ps.map λp=>((es[p]?).map (·.2)).getD .none)
   (eV _ hS) (by rw[V8];exact Yl _) rfl rfl rfl (λb o e=>eV _ e) ?_ (λA1 hh=>?_) ?_ λh' x k=>⟨x,k _ _ (eV _ hS),k _ _ (by subst hto;exact RB _ rfl)⟩
  .refine(pp.map _).trans (List.Perm.of_eq ?_);refine List.ext_getElem (by simp) λi h1 h2=>?_;have hi:i<es.size:=by simpa using h1
   simp[Wz hi]
  .have ne1:a≠(s.heap.push to).objs.size:=by rw[V8];exact So (Xa E2)
   have ne2:s.heap.objs.size≠(s.heap.push to).objs.size:=by rw[V8];exact So (WE _)
   exact {
    sub:=λb hb=>by simp at hb;simp[hb]
    frame:=λi h h' st hk=>⟨hk _ (by simp) _ st.1,hk _ (by simp) _ st.2.1,hk _ (by simp) _ st.2.2⟩
    item:=λi s1 Q1 E1 hi st hq=>by
     have hp:ps[i]?=some (ps[i]'(by rw[pl];exact hi)):=xZ _;have hp2:ps[i]'(by rw[pl];exact hi)<es.size:=hlt _ (X6 _);refine KR (hv:=(es[ps[i]'(by rw[pl];exact hi)]).1) (v:=(es[ps[i]'(by rw[pl];exact hi)]).2) st.1 st.2.1 fit st.2.2 hp (Wz hp2) λh' a1 a2=>hq _ h' s1.toks ?_ ⟨a1,?_,?_⟩ λb o hb e=>?_
     .rw[Vz,hp];simp[Wz hp2]
     .exact(a2.2 _ ne1).trans st.2.1
     .exact(a2.2 _ ne2).trans st.2.2
     .exact(a2.2 _ (by simpa using hb)).trans e
    done:=λs1 Q1 E1 st hq=>yS hh st.1 st.2.1 fit st.2.2 (VG (by rw[pl];exact vn _)) λh' a1=>hq h' s1.toks λb o hb e=>a1 b o (by simpa using hb) e
    self:=λi s1 Q1 E1 st hq=>wZ st.1 hq }
  .intro b hb;simp at hb;rcases hb with rfl|rfl|rfl
   .exact .inr (by exact Yl _)
   .exact .inl rfl
   .exact .inr (vn _)
 .refine bT (bY ?_);have ne1:a≠s.heap.objs.size:=So E2;have hf:∀b∈[s.heap.objs.size,a],b=a\/s.heap.objs.size<=b:=λb hb=>by
   simp at hb;rcases hb with rfl|rfl
   .exact .inr (vn _)
   .exact .inl rfl
  have go:∀(sl:Nat->Nat) (vs:List Value),sl 0=0->vs.Perm (es.toList.map (·.2))->(∀i v,vs[i]?=some v->NX P w a es ep t (sl i) i (some (v,sl (i+1))))->NX P w a es ep t (sl es.size) es.size none->wpAny (model P w) A.in1 (do ret (<-newFields "set_iterator" [rawInt 0,rawInt 0,.ref a,rawInt es.size,rawInt (<-setEpoch a)])) (λx s2=>∃v,x=PySem.Fin.done (.ret v)/\∃T idx,s2.TypeIs v T/\typeLookup (.type T) (Str.ofString "__next__")=pure (some idx)/\Q v s2) E s:=by
   intro sl vs e0 pv hx hend;have vl:vs.length=es.size:=by rw[pv.length_eq];simp
   refine last s (rawInt 0) (λi h=>SI h s.heap.objs.size a (.int (sl i) 0) i es.size ep/\SO h a es ep t) [s.heap.objs.size,a] vs hS (vn _) rfl rfl rfl (λb o e=>e) pv (λA1 hh=>?_) hf λh' x k=>⟨by rw[e0];exact x,k _ _ hS⟩
   exact {
    sub:=λb hb=>by simp at hb;simp[hb]
    frame:=λi h h' st hk=>⟨hk _ (by simp) _ st.1,hk _ (by simp) _ st.2⟩
    item:=λi s1 Q1 E1 hi st hq=>by
     have hp:vs[i]?=some (vs[i]'(by rw[vl];exact hi)):=xZ _;refine KQ st.1 st.2 fit ne1 (hx i _ hp) λh' a1 a2=>hq _ h' s1.toks hp ⟨a1,?_⟩ λb o hb e=>?_
     .exact(a2.2 _ ne1).trans st.2
     .exact(a2.2 _ (by simpa using hb)).trans e
    done:=λs1 Q1 E1 st hq=>yR hh st.1 st.2 fit hend λh' a1=>hq h' s1.toks λb o hb e=>a1 b o (by simpa using hb) e
    self:=λi s1 Q1 E1 st hq=>wZ st.1 hq }
  cases hb:w.params.followText "set-order" with
  |true=>
   refine go (λ_=>0) ((pickOrder (w.params.setOrder a ep) es).toList.map (·.2)) rfl ((sF _ _).map _) (λi v e=>?_) ?_
   .rw[Vz,Wt]at e;obtain⟨x,x1,x2⟩:=Option.map_eq_some_iff.mp e;have:=AU (P:=P) (a:=a) (ep:=ep) hb fit i;rw[x1]at this;subst x2;exact this
   .have:=AU (P:=P) (a:=a) (ep:=ep) hb fit es.size;rw[Yo (by rw[<-V4,(sF _ _).length_eq];simp)]at this;exact this
  |false=>
   have dr:(!t.plain&&decide (es.size > 1))=false:=by
    rw[hb]at z;cases hd:(!t.plain&&decide (es.size > 1))with
    |false=>rfl
    |true=>exact absurd hd z
   refine go (w9 t) (es.toList.map (·.2)) rfl .rfl (λi v e=>?_) (yT hb (led hb) tw fit dr);rw[Vz,Wt]at e;obtain⟨x,x1,x2⟩:=Option.map_eq_some_iff.mp e;subst x2;exact KS hb (led hb) tw fit dr x1
end
end Sm
namespace Sm
open PySem PySem.Spec PyProof.Rows L2 PySem.SeqAt
open Ev (D O Hh Fr R aF E Es Eo T S Ss Fl Src aU aR TY BI ME)
section
variable{P:Program}{w:World}{A:Around}{E:Value->Shared->Prop}{s:Shared}
def CO {r:Addr}{Q:Bool->Shared->Prop}(hT:s.TypeIs (.ref r) "set") (h:Q false s):wpAny (model P w) A (Builtin.List.listLengthHint (.ref r)) Q E s:=by
 unfold Builtin.List.listLengthHint;refine bT (wpAny_specialOf hT PySem.F.slot_set_len.lookup ?_);generalize hid:("set.__len__" : String)=i0
 wp_delta
 rw[show splitId i0=some ("set","__len__")from by subst hid;decide +kernel];subst hid;refine bT (wpAny_isInstance (T:="set") (b:=true) hT sub_set_self ?_);refine WL (λz=>absurd z (by decide)) λ_=>?_;refine WL (λ_=>?_) λz=>absurd (by decide +kernel) z;exact bT (Xj hT (bY h))
def vH{a:Addr}{ks:List Key}{R:List Value->Shared->Prop}(hh:A.handled=none)(S:SW P w s.heap a ks)
  (h:∀(h':Heap) (tk:Nat) d (vs:List Value),(∀b o,s.heap.get? b=some o->h'.get? b=some o)->(vs.map dY).Perm ks->(∀v∈vs,Ky v)->R vs { s with heap:=h',toks:=tk,drawn:=d }) :
  wpAny (model P w) A (collect (.ref a)) R E s:=by
 obtain⟨es,ep,t,ob,el,fit,sm,tw,led,pm,nd⟩:=S;have hn:es.size<=sizeLine:=W8 sm;have E2:a<s.heap.objs.size:=Mt ob;unfold collect;refine bT (wpAny_runValue (Wq entry_proto_collect' ?_));rw[Wx PySem.F.plain_proto_collect _];refine bT (VU ?_);refine bY ⟨Xg Yg _,Wq entry_list_iadd' ?_⟩;rw[Wx Yg _];show wpAny _ A.in1 (Builtin.List.listExtendWith (.ref s.heap.objs.size) (.ref a) (.ref s.heap.objs.size)) _ _ _;generalize hlo:({ cls:=.type "list",data:=.seq ([]:List Value).toArray }:Obj)=lo
 have hL:(s.heap.push lo).get? s.heap.objs.size=some { cls:=.type "list",data:=.seq #[]}:=by subst hlo;exact RB _ rfl
 have uq:SO (s.heap.push lo) a es ep t:=eV _ ob;have P4:s.heap.objs.size≠a:=YF E2;unfold Builtin.List.listExtendWith;refine bT (Xj (T:="set") (SO.ty (s:={ s with heap:=s.heap.push lo }) uq) ?_);have e1:Builtin.List.listSameRef (.ref s.heap.objs.size) (.ref a)=false:=by simp[Builtin.List.listSameRef,P4]
 have e2:(Value.type "set" ==Value.type "list")=false:=by decide
 have e3:(Value.type "set" ==Value.type "tuple")=false:=by decide
 simp only[e1,e2,e3,Bool.or_false,VH,Wb];refine bT (CN (s:={ s with heap:=s.heap.push lo }) uq fit sm tw led λI h1 d vs St fp pv W st k1 lI hf=>?_);have KW:=k1 _ _ hL;have hLf:s.heap.objs.size∉fp:=λq=>by
  rcases hf _ q with z|z
  .exact P4 z
  .rw[show(({ s with heap:=s.heap.push lo }:Shared).heap.objs.size)=s.heap.objs.size+1 from V8 _ _]at z;exact absurd z (Nat.not_succ_le_self _)
 refine bT (V5 (CO (SO.ty (s:={ s with heap:=h1,drawn:=d }) (k1 _ _ uq)) ?_));have fin:∀(h2:Heap) (tk c:Nat),St 0 h2->(∀b o,b≠s.heap.objs.size->h1.get? b=some o->h2.get? b=some o)->h2.get? s.heap.objs.size=some { cls:=.type "list",data:=.seq #[] c }->
   codeAny (model P w) A (.builtin "list.extend.loop" ⟨[.ref s.heap.objs.size,.ref I,.ref s.heap.objs.size],[]⟩) (λq s'=>∃h' tk acc c',q=.ok (.ret (.ref s.heap.objs.size))/\s'={ s with heap:=h',toks:=tk,drawn:=d }/\(∀b o,s.heap.get? b=some o->h'.get? b=some o)/\h'.get? s.heap.objs.size=some { cls:=.type "list",dict:=none,data:=.seq acc c',slots:=#[]}/\acc.toList=vs) { s with heap:=h2,toks:=tk,drawn:=d }:=by
  intro h2 tk c st2 k2 Tv;refine codeAny_extend_loopS (W A.in1 (by simpa using hh)).toS hn _ hLf _ es.size 0 _ #[] c rfl (Wm _) st2 Tv (ItemsOf.nil _) λs' acc c' hm hL' hacc=>?_;have z:=Moved.eq_with hm;rw[z];refine⟨s'.heap,s'.toks,acc,c',rfl,rfl,λb o e=>?_,hL',?_⟩
  .have lb:=Mt e;refine hm.heap b o (λq=>?_) (k2 b o (So lb) (k1 b o (eV _ e)));rcases List.mem_cons.mp q with z|z
   .exact So lb z
   .rw[List.mem_singleton.mp z]at lb;have:s.heap.objs.size+1<=I:=by rw[<-V8 s.heap lo];exact lI
    exact absurd (fB lb (Yl _)) (Nat.not_lt.mpr this)
  .refine XN λi=>?_;have vl:vs.length=es.size:=by rw[pv.length_eq];simp
   by_cases hi:i<es.size
   .obtain⟨v,hv⟩:∃v,acc[i]?=some v:=⟨acc[i]'(by rw[hacc.1];exact hi),Wz _⟩
    rw[Wt,hv];exact(hacc.2 i v hv).symm
   .rw[VG (by rw[V4,hacc.1];omega),VG (by omega)]
 have done:∀(h':Heap) (tk':Nat) (acc:Array Value) (c':Nat),(∀b o,s.heap.get? b=some o->h'.get? b=some o)->h'.get? s.heap.objs.size=some { cls:=.type "list",dict:=none,data:=.seq acc c',slots:=#[]}->acc.toList=vs->
   wpAny (model P w) A (load s.heap.objs.size >>= λo=>match o.data with|.seq xs _=>pure xs.toList|_=>unsupported "internal:collect") R E { s with heap:=h',toks:=tk',drawn:=d }:=by
  intro h' tk' acc c' k' g' av;refine bT (wpAny_load g' (bY ?_));rw[av];refine h h' tk' d vs k' ?_ λv hv=>?_
  .refine(pv.map dY).trans ?_;rw[WC];exact pm
  .obtain⟨e,he,rfl⟩:=List.mem_map.mp (pv.mem_iff.mp hv);exact(el e he).2
 refine WL (λ_=>?_) λ_=>?_
 .refine bT (XO (bT ?_));show wpAny _ _ (updateSeq s.heap.objs.size (·.push .none) >>= λ_=>updateSeq s.heap.objs.size (·.pop)) _ _ _;refine bT (wpAny_updateSeq KW rfl ?_);have u1:=VQ (Obj.mapSeq (·.push Value.none)) KW rfl;refine wpAny_updateSeq (hz:=by seq_fits) u1 rfl ?_;have u2:=VQ (Obj.mapSeq (·.pop)) u1 rfl;refine bY ⟨Xg XU _,Wo (fin _ s.toks _ ?_ (λb o hb e=>?_) u2) λr s' q=>?_⟩
  .refine(W A.in1 (by simpa using hh)).frame 0 _ _ st λb hb o e=>?_;have P5:b≠s.heap.objs.size:=λz=>hLf (z▸hb);exact(Wn _ _ (WB P5)).trans ((Wn _ _ (WB P5)).trans e)
  .exact(Wn _ _ (WB hb)).trans ((Wn _ _ (WB hb)).trans e)
  .obtain⟨h',tk',acc,c',rfl,rfl,k',g',av⟩:=q;exact done h' tk' acc c' k' g' av
 .refine bY ⟨Xg XU _,Wo (fin _ s.toks 0 st (λb o _ e=>e) KW) λr s' q=>?_⟩;obtain⟨h',tk',acc,c',rfl,rfl,k',g',av⟩:=q;exact done h' tk' acc c' k' g' av
end
def AV{X:Cx}{pins:List (Addr×Obj)}{σ:L2.St}{H:Hp}{s:Shared}{d:Drawn}(I:Inv X pins σ H s):Inv X pins σ H { s with drawn:=d }:=
 ⟨I.ok,I.os,I.bare,I.base,I.loc,I.cell,I.free,I.gj,I.pin,I.hok,I.len⟩
section
variable{P:Program}{w:World}{A:Around}{E:Value->Shared->Prop}{s:Shared}
def vI{a:Addr}{ks:List Key}{ns:List Str}{Q:Value->Shared->Prop}(S:SW P w s.heap a ks)(hh:A.handled=none)(hk:ks=ns.map Sum.inr)(h64:ns.length<64)
  (h:∀(h1 h2:Heap) (tk:Nat) d (out:Array Value) (ns':List Str) (e:Nat),(∀b o,s.heap.get? b=some o->h1.get? b=some o)->(∀b o,h1.get? b=some o->h2.get? b=some o)->h2.get? h1.objs.size=some (seqObj "list" out e)->StrsAre out.toList ns'->ns'.Perm ns->sortedS ns'=true->Q (.ref h1.objs.size) { s with heap:=h2,toks:=tk,drawn:=d }) :
  wpAny (model P w) A (call (.builtin "sorted") [.ref a]) Q E s:=by
 refine Calls.call_function_entry kind_sorted plain_sorted entry_sorted (args_sorted1 _) ?_;unfold Builtin.«sorted»;refine bT (m:=checkCount "sorted" 1 1 _) (bY ?_);refine bT (vH (A:=A.in1) hh S λh' tk d vs k pm ky=>?_);have hl:vs.length=ns.length:=by
  have:=pm.length_eq;rw[hk]at this;simpa using this
 have hsz:vs.length<=sizeLine:=VE (XZ (by rw[hl];exact h64)) (by decide);refine bT (wpAny_newList ?_ hsz);obtain⟨is,hI,hp⟩:∃is:List Str,StrsAre vs is/\is.Perm ns:=by
  have:∀vs:List Value,(∀v∈vs,Ky v)->(∀k∈vs.map dY,∃i:Str,k=Sum.inr i)->∃is:List Str,StrsAre vs is/\vs.map dY=is.map Sum.inr:=by
   intro vs;induction vs with
   |nil=>intro _ _;exact⟨[],.nil,rfl⟩
   |cons v vs ih=>
    intro q1 q2;obtain⟨is,j1,j2⟩:=ih (λv hv=>q1 v (by simp[hv])) (λk hk=>q2 k (by simp at hk ⊢;exact .inr hk));have:=q1 v (by simp);cases this with
    |s x t=>exact⟨x :: is,.cons x t j1,by simp[dY,j2]⟩
    |i n t=>
     obtain⟨i,z⟩:=q2 (.inl n) (by simp[dY]);cases z
  obtain⟨is,j1,j2⟩:=this vs ky λk hk'=>by
   have:=pm.mem_iff.mp hk';rw[hk]at this;obtain⟨i,_,rfl⟩:=List.mem_map.mp this;exact⟨i,rfl⟩
  refine⟨is,j1,?_⟩;rw[j2,hk]at pm;have:=pm.filterMap (λk:Key=>match k with|.inr i=>some i|.inl _=>none);have fe:((λk:Key=>match k with|.inr i=>some i|.inl _=>none) ∘ (Sum.inr:Str->Key))=some:=rfl;rw[XE,XE,fe,YD,YD]at this;exact this
 have vY:(h'.push (seqObj "list" vs.toArray 0)).get? h'.objs.size=some (seqObj "list" vs.toArray 0):=RB _ rfl;refine bT (V5 (VY slot_list_sort ⟨_,vY,rfl⟩ entry_list_sort (list_sort_treeK strKind_oneLt vY hI.keysOf (λv₁ v₂ rest e=>keyKind_strs (by rw[<-e];exact hI)) (by rw[hl];exact h64) λst' q1 q2=>⟨_,rfl,?_⟩) (args_list_sort _)));obtain⟨ns',a1,a2,a3⟩:=sorted_out_str hI q1 q2;generalize ((arrOf st').map (·.2))=out at a1 ⊢
 obtain⟨e,he⟩:=sortedHeap_at (out:=out) vY;exact bY ⟨_,rfl,h h' _ tk d out ns' e k (λb o e2=>by
  have lt:=Mt e2;rw[sortedHeap_old (So lt) (by rw[size_push'];exact Xa lt),Heap.get?_push_ne _ _ _ (So lt)];exact e2) he a1 (a2.trans hp) a3⟩
end
noncomputable def o5(a:List Str)(k:Str):List Str:=open Classical in if k∈a then a else a++[k]
theorem sH:∀{vs:List Value}{is:List Str}(ns:List Str),StrsAre vs is->iy (ns.map Sum.inr) vs=(is.foldl o5 ns).map Sum.inr
 |_,_,ns,.nil=>rfl
 |_,_,ns,.cons n t h=>by
  have e:fZ (ns.map Sum.inr) (dY (.str n t))=(o5 ns n).map Sum.inr:=by
   show fZ (ns.map Sum.inr) (Sum.inr n)=_;unfold fZ o5;by_cases q:n∈ns
   .rw[cS (List.mem_map.mpr ⟨n,q,rfl⟩),cS q]
   .rw[Qm (λz=>by obtain⟨x,x1,x2⟩:=List.mem_map.mp z;cases x2;exact q x1),Qm q,Uy];rfl
  show iy (fZ (ns.map Sum.inr) (dY (.str n t))) _=_;rw[e,sH _ h];rfl
theorem xg:∀{vs:List Value}{is:List Str},StrsAre vs is->∀v∈vs,Ky v
 |_,_,.nil,v,h=>by cases h
 |_,_,.cons n t h,v,hv=>by
  rcases List.mem_cons.mp hv with rfl|hv
  .exact .s n t
  .exact xg h v hv
theorem AW{α:Type}[DecidableEq α]{x:α}:∀{l a:List α},x∈l.foldl (λa k=>if k∈a then a else a++[k]) a->x∈a\/x∈l
 |[],a,h=>.inl h
 |y :: l,a,h=>by
  rw[Wd]at h;rcases AW h with q|q
  .split at q
   .exact .inl q
   .rcases List.mem_append.mp q with q|q
    .exact .inl q
    .rw[List.mem_singleton.mp q];exact .inr (by simp)
  .exact .inr (by simp[q])
theorem AX(inst:∀(a:List (List Nat)) (k:List Nat),Decidable (k∈a)):∀(ss a:List (List Nat)),(ss.map aS).foldl o5 (a.map aS)=(ss.foldl (λa k=>@ite _ (k∈a) (inst a k) a (a++[k])) a).map aS
 |[],a=>rfl
 |s :: ss,a=>by
  have e:o5 (a.map aS) (aS s)=(@ite _ (s∈a) (inst a s) a (a++[s])).map aS:=by
   unfold o5;by_cases q:s∈a
   .rw[cS (List.mem_map.mpr ⟨s,q,rfl⟩),cS q]
   .rw[Qm (λz=>by obtain⟨x,x1,x2⟩:=List.mem_map.mp z;exact q (by rw[<-nD x2];exact x1)),Qm q,Uy];rfl
  rw[VO,Wd,Wd,e];exact AX inst ss _
section
variable{X:Cx}{G:Tb}{n:Nat}{sc:Scope}{N:List Str}{df:Bool}{m:List Nat}{a:E}{xa:Expr}{pos:Pos}
def CP {p p2 pos2:Pos}(ha:JE G n sc N df m a xa) (h1:("sorted" : Str)∈G.bl:=by decide +kernel) (Tz:sc.names.lookup ("sorted" : Str)=some .globalImplicit:=by rfl)
  (hg:sc.names.lookup ("set" : Str)=some .globalImplicit:=by rfl) (hb:("set" : Str)∈G.bl:=by decide +kernel)
  (hst:∀env:Env,starEach [xa] env=[(false,eval xa env)]:=by intro _;rfl)
  (KY:∀env:Env,starEach [Expr.Call (.Name "set" p2) [xa] [] pos2] env=[(false,eval (Expr.Call (.Name "set" p2) [xa] [] pos2) env)]:=by intro _;rfl) :
  JE G n sc N df m (.bi .jM (.cons a .nil)) (.Call (.Name "sorted" p) [.Call (.Name "set" p2) [xa] [] pos2] [] pos):=λX g=>by
 intro pins s σ H Q I q;obtain⟨r,fr,h,d,h',sr,hr,e,q⟩:=q;rw[Ev.ev]at e;obtain⟨ds,h3,e2,e⟩:=Ev.ah e;refine WX (lW I (g.gl Tz) (g.bl _ h1) (show bootBuiltins ("sorted" : Str)=some (.builtin "sorted")by decide +kernel) ?_ (by decide) (by decide));refine Xq ?_ (KY _) rfl;rw[KY];show wpAny _ _ (spliced ((false,eval (Expr.Call (.Name "set" p2) [xa] [] pos2) X.env) :: backTo pos [])) _ _ s;refine WZ ?_;have TF:PA X [xa] _:=eL (ha X g) kg (by rw[hst];rfl);rw[Ev.bQ]at e2;obtain⟨x,h4,e3,e4⟩:=Ev.ah e2;rw[Ev.bQ]at e4;cases e4;refine Call_ (lW I (g.gl hg) (g.bl _ hb) (show bootBuiltins ("set" : Str)=some (.type "set")by decide +kernel) (XF (bU (TF pos2 pins s σ H (λvs H1=>∃r1 u,vs=[u]/\RV X.K H1 r1 x u/\HR X.K H1 r1 h3/\Fm X.K r r1 H H1) I ⟨r,fr,h,x,h3,sr,hr,e3,λu H1 r1 v1 hr1 f1=>⟨r1,u,rfl,v1,hr1,f1⟩⟩) λus s1 z=>?_) (hst _) rfl));obtain⟨vs,H1,I1,rv,r1,u,rfl,v1,hr1,f1⟩:=z;have hx:∃i,x=.ref i:=by
  cases x<;>first|exact⟨_,rfl⟩ | (exfalso;delta Ev.dO at e;dsimp only at e;cases e)
 obtain⟨i,rfl⟩:=hx
 delta Ev.dO at e;dsimp only at e
 split at e
 case h_2=>cases e
 rename_i ss e1;split at e
 case isFalse=>cases e
 rename_i h64;obtain⟨ds,e5,e6⟩:=Option.bind_eq_some_iff.mp e1;obtain⟨t,rfl,z⟩:=v1.shape;obtain⟨t',ws,z',q1,w⟩:=hr1.read e5;rw[z]at z';cases z';cases rv with
 |cons ra rb=>
 cases rb;cases ra;obtain⟨its,pv,pl,hz⟩:=I1.list q1;obtain⟨hI,hlS⟩:=qT e6 w pv;have hlen:its.toArray.size+1<scanBound:=by
  have:=hI.length;rw[VL]at this;rw[zA];unfold scanBound;omega
 refine CL (I1.ok.hd g.calm) pl.isList (by simpa using xg hI) hlen λh5 P6 S5 k5=>?_;refine Xb ?_;have I2:Inv X pins σ H1 { s1 with heap:=h5,toks:=P6 }:=I1.kept k5;have hk:iy [] its.toArray.toList=((Ev.dd ss).map aS).map Sum.inr:=by
  have h0:=sH [] hI;rw[show(ss.map aS).foldl o5 []=(Ev.dd ss).map aS from AX _ ss []]at h0;simpa using h0
 refine vI (s:={ s1 with heap:=h5,toks:=P6 }) S5 (I1.ok.hd g.calm) hk (by rw[VL];exact h64.2) λh6 h7 tk d' out ns' e7 c1 c2 c3 a1 a2 a3=>?_;have hq:=AI a2 a3;subst hq;have hsl:∀l∈Ev.bu (Ev.dd ss),l.length<=sizeLine:=λl hl'=>hlS l (AW (a:=[]) ((kU _).mem_iff.mp hl') |>.resolve_left (by simp));obtain⟨hz2,q2⟩:=(q.later f1).lst e (aI.ofStrs hsl) hr1;have I6:Inv X pins σ H1 { s1 with heap:=h6,toks:=tk,drawn:=d' }:=AV (I2.kept (t':=tk) c1);refine⟨.ref h6.objs.size,_,I6.laid (t':=tk) (o:=.lst ((Ev.bu (Ev.dd ss)).map λl=>V.str (aS l))) c2 (vn _) ?_,rfl,q2 _ (I6.hok.fresh (vn _))⟩;exact⟨hz2,out.toList,e7,sE a1,by simpa[seqObj]using c3⟩
end
end Sm
namespace Sm
open PySem PySem.Spec PyProof.Rows L2 PySem.W
noncomputable def XI(h:Heap)(x C:Addr):Prop:=∃ox:Obj,h.get? x=some ox/\ox.cls=.ref C/\∃vs,ox.data=.fields vs
structure XC(K:PySem.W.Frag)(C:Addr):Prop where
 ob:∃nm q N bs bm hdct sn sub ab col dd k0 k1 k2 k3 k5 newId,K.lookup C=some (excClassObj nm q C N bs bm hdct sn sub ab col dd k0 k1 k2 k3 k5 newId)/\∀h:Heap,K.In h->OwnTailQ h [.type "ValueError",.type "Exception",.type "BaseException",.type "object"] bm
 ga:findIn K (.ref C) "__getattribute__" = some (some (.builtin "BaseException.__getattribute__"))
 gh:findIn K (.ref C) "__getattr__" = some none
 cl:findIn K (.ref C) "__class__" = some (some (.builtin "object.__class__"))
 so:subIn K (.ref C) (.type "object")=some true
 me:kitCls K (.ref C) (.ref C)=some true
section
variable{prog:Program}{w:World}{A:Around}{E:Value->Shared->Prop}{s:Shared}{K:PySem.W.Frag}{x C:Addr}
def nI{M:Model}{h:Heap}(i:XI h x C):Looks M h (typeOf (.ref x)) (.ref C):=λA Q E s k q=>by
 obtain⟨ox,h1,h2,_⟩:=i;exact wpAny_typeOf_ref (k _ _ h1) (by rw[h2];exact q)
def KZ {R:Result->Shared->Prop}{tp:Value}(cZ:K.In s.heap) (i:XI s.heap x C) (so:subIn K (.ref C) (.type "object")=some true) (h:R (.ok (.ret (.ref C))) s) :
  codeAny (model prog w) A (.call (.builtin "getset_descriptor.__get__") ⟨[.builtin "object.__class__",.ref x,tp],[]⟩) R s:=by
 refine Xo (by decide +kernel) KF.entry_gs (KF.slot_gs.check _ _ _ _ _ _ _ _ YB (KF.args_gs _ _ _) ?_);unfold Builtin.«getset_descriptor.__get__» Builtin.Getset_descriptor.descrGet;rw[dga_obj];show wpAny _ _ (do Builtin.Getset_descriptor.descrCheckInstance (.builtin "object.__class__") (.ref x);again _) _ _ _;refine bT ?_;unfold Builtin.Getset_descriptor.descrCheckInstance;have e1:Builtin.Getset_descriptor.descrNameAndClass (.builtin "object.__class__")=pure (("__class__" : Str),Value.type "object"):=by kernel_rfl
 rw[e1];show wpAny _ _ (do let b <-isInstance (.ref x) (.type "object");_) _ _ _;refine bT ?_;unfold isInstance;refine bT (nI i _ _ _ _ (λ_ _ e=>e) ?_);refine looks_subIn cZ so _ _ _ _ (λ_ _ e=>e) ?_;refine bY ?_;refine bY ⟨by kernel_rfl,?_⟩;refine Wq KF.entry_class ?_;show wpAny _ _ (do let t <-shownTypeOf (.ref x);ret t) _ _ _;refine bT ?_;unfold shownTypeOf;refine bT (nI i _ _ _ _ (λ_ _ e=>e) ?_);refine bY ?_;exact bY h
def G7 {M:Model}{h:Heap}(cZ:K.In h) (cl:findIn K (.ref C) "__class__" = some (some (.builtin "object.__class__"))):Looks M h (Builtin.ObjectAttr.find (.ref x) (.ref C) "__class__") (.bind (.builtin "getset_descriptor.__get__") (.builtin "object.__class__")):=λA Q E s k q=>by
 unfold Builtin.ObjectAttr.find;refine bT (XX cZ cl _ _ _ _ k ?_);refine bT ?_;show wpAny _ _ (specialOf _ _) _ _ _;unfold specialOf;rw[YB];show wpAny _ _ (typeLookup (.type "getset_descriptor") _) _ _ _;refine XX cZ (K:=K) (t:=.type "getset_descriptor") (r:=some (.builtin "getset_descriptor.__get__")) (by kernel_rfl) _ _ _ _ k ?_;refine bT ?_;show wpAny _ _ (do let b <-Builtin.ObjectAttr.takesStores _;_) _ _ _;refine bT ?_;unfold Builtin.ObjectAttr.takesStores;refine bT ?_;unfold specialOf;rw[YB];show wpAny _ _ (typeLookup (.type "getset_descriptor") _) _ _ _;refine XX cZ (K:=K) (t:=.type "getset_descriptor") (r:=some (.builtin "getset_descriptor.__set__")) (by kernel_rfl) _ _ _ _ k ?_;refine bY ?_;refine bY ?_;exact bT (XO (bY q))
def CQ {Q:Option Value->Shared->Prop}(c:XC K C) (cZ:K.In s.heap) (i:XI s.heap x C) (h:Q (some (.ref C)) { s with toks:=s.toks+1 }):wpAny (model prog w) A (getAttr? (.ref x) "__class__") Q E s:=by
 obtain⟨⟨nm,q,N,bs,bm,hdct,sn,sub,ab,col,dd,k0,k1,k2,k3,k5,newId,lk,ht⟩,ga,gh,cl,so,me⟩:=c;obtain⟨ox,i1,i2,_⟩:=id i;unfold getAttr?;refine bT (wpAny_mkText ?_);unfold getAttrBy?;refine bT (WS ?_);unfold getAttrBy;refine V5 (bT (nI i _ _ _ _ (λ_ _ e=>e) ?_));refine bT (XX cZ ga _ _ _ _ (λ_ _ e=>e) ?_);show wpAny _ _ (getAttrByItsOwn _ _ _ _ _ _) _ _ _;unfold getAttrByItsOwn;refine bT (looks_hook cZ (mc:=.ref C) (r:=none) gh _ _ _ _ (λ_ _ e=>e) ?_);refine bT (WS (V5 ?_));show wpAny _ _ (boundAndCalled _ _ _) _ _ _;unfold boundAndCalled;rw[PySem.F.attrBase_ValueError.ga.bind];show wpAny _ _ (call (.builtin "BaseException.__getattribute__") [.ref x,.str "__class__" s.toks]) _ _ _;refine Xi (Xo (by decide +kernel) PySem.F.entry_bexc_ga (wpAny_check_ga_own PySem.F.attrBase_ValueError (cZ _ _ lk) (ht _ cZ) i1 i2 ?_));unfold Builtin.«object.__getattribute__»;have e1:slotArgs "__getattribute__" 1 ⟨[.ref x,.str "__class__" s.toks],[]⟩=pure (Value.ref x,[Value.str "__class__" s.toks]):=rfl;rw[e1];show wpAny _ _ (do let tp <-typeOf (.ref x);_) _ _ _;refine bT (nI i _ _ _ _ (λ_ _ e=>e) ?_);refine bT (G7 cZ cl _ _ _ _ (λ_ _ e=>e) ?_);show wpAny _ _ (do let r <-holding _ (call _ _);ret r) _ _ _;refine bT (V5 (Xi (KZ cZ i so ?_)));refine bY ?_;refine bY ?_;exact bY h
def K0(c:XC K C):KitX K (.ref x) (.ref C) (λh=>XI h x C):=by
 refine⟨λM h cZ i=>nI i,λM h cZ _=>(kit_cls cZ c.me).2.1,λh tp dd its n sl cZ e=>?_,λ{prog w A E Q s} cZ i hq=>CQ c cZ i hq⟩;by_cases z:C=tp
 .subst z;obtain⟨nm,q,N,bs,bm,hdct,sn,sub,ab,col,dd,k0,k1,k2,k3,k5,newId,lk,ht⟩:=c.ob;have:=cZ _ _ lk;rw[e]at this;have z:=Vw Obj.cls (kI this);injection z with z
  exact absurd z (by decide)
 .simpa using z
def K1(c:XC K C){D:Value}{b:Bool}(cZ:K.In s.heap)(i:XI s.heap x C)(e:kitOne K (.ref C) D=some b){Q:Value->Shared->Prop}(h:∀tk,Q (.bool b) { s with toks:=tk }) :
  wpAny (model prog w) A (call (.builtin "isinstance") [.ref x,D]) Q E s:=kia_one (K0 c) cZ i e (λz=>nomatch z) h
end
noncomputable def E3(l:List Env)(H':Hp)(h g B:Heap):Prop:=∀b o,g.get? b=some o->((H' b).isSome=true\/(h.get? b).isSome=true)->b∉frs l->B.get? b=some o
structure iG(P:Program)(w:World)(l:List Env)(H:Hp)(s:Shared)(a C:Addr)(H':Hp)(s':Shared):Prop where
 os:s'.os=s.os
 bare:AllBare s'.gens
 un:Un (frs l) [] H H' s.heap s'.heap
 hok:eX P w H' s'.heap
 fl:∃B a0,Heap.FlyingW B l a (.ref C) a0 s'.heap/\E3 l H' s.heap s'.heap B
noncomputable def uv(P:Program)(w:World):kh:=λouter H s E e s'=>∃a C H',e=.ref a/\iG P w outer H s a C H' s'/\E (.ref C) none H'
def AY{P:Program}{w:World}{H:Hp}{h:Heap}{a:Addr}{o:HO}(x:gg P w H h a o):∃ob,h.get? a=some ob:=by
 cases o with
 |lst xs=>obtain⟨_,_,_,_,e⟩:=x;exact⟨_,e⟩
 |tup xs=>obtain⟨_,_,_,ob,e,_⟩:=x;exact⟨_,e⟩
 |dK kvs=>obtain⟨_,_,_,_,o,_,_,e,_⟩:=x;exact⟨_,e⟩
 |dT kvs=>obtain⟨_,_,_,_,o,_,_,e,_⟩:=x;exact⟨_,e⟩
 |set S n=>obtain⟨o,_,_,_,e,_⟩:=x;exact⟨_,e⟩
 |ins C dx fs=>obtain⟨_,_,_,e,_⟩:=x;exact⟨_,e⟩
 |own y=>obtain⟨_,e⟩:=x;exact⟨_,e⟩
 |xd fs=>obtain⟨_,⟨_,_,_,e,_⟩,_⟩:=x;exact⟨_,e⟩
 |fU lo hi=>obtain⟨_,_,_,e⟩:=x;exact⟨_,e⟩
 |bX ob u=>obtain⟨e,_⟩:=x;exact⟨_,e⟩
 |rK ps=>exact⟨_,(show h.get? a=some _ from x)⟩
 |met f y=>exact⟨_,(show h.get? a=some _ from x)⟩
 |ext φ=>obtain⟨_,e,_⟩:=x;exact e
def o6{P:Program}{w:World}{l:List Env}{H H':Hp}{h g g2 B:Heap}(u:Un (frs l) [] H H' h g)(hok:eX P w H' g)(lP:E3 l H' h g B)(st:Heap.StaysIn B g2)(up:∀b∈frs l,∀o,g.get? b=some o->∃sl,g2.get? b=some { o with slots:=sl })(hb:∀b∈frs l,H' b=none) :
  Un (frs l) [] H H' h g2/\eX P w H' g2/\E3 l H' h g2 B:=by
 have same:∀b o,g.get? b=some o->((H' b).isSome=true\/(h.get? b).isSome=true)->b∉frs l->g2.get? b=some o:=λb o e z n=>st b o (lP b o e z n);refine⟨⟨λb o e n hf hx=>same b o (u.keep b o e n hf hx) (.inr (by rw[e];rfl)) hf,λb o e n hf hx=>?_,u.free,λb o e hx=>?_,u.tups,u.jx,u.jV⟩,λa o e=>?_,λb o e z n=>?_⟩
 .obtain⟨sl,e1⟩:=u.slot b o e n hf hx;obtain⟨sl2,e2⟩:=up b hf _ e1;exact⟨sl2,e2⟩
 .obtain⟨o',e1⟩:=u.there b o e hx;by_cases hf:b∈frs l
  .obtain⟨sl,e2⟩:=up b hf _ e1;exact⟨_,e2⟩
  .exact⟨o',same b o' e1 (.inr (by rw[e];rfl)) hf⟩
 .refine(hok a o e).stay (λb v z q=>?_) (λ_ q=>q) λ_ _ q=>q;have tr:(H' b).isSome=true:=by
   rcases z with z|z
   .rw[z,e];rfl
   .rw[z];rfl
  exact same b v q (.inl tr) λhf=>by rw[hb b hf]at tr;cases tr
 .have ex:∃o',g.get? b=some o':=by
   rcases z with z|z
   .obtain⟨x,e1⟩:=Option.isSome_iff_exists.mp z;exact AY (hok b x e1)
   .obtain⟨x,e1⟩:=Option.isSome_iff_exists.mp z;exact u.there b x e1 (by simp)
  obtain⟨o',e1⟩:=ex;have e2:=same b o' e1 z n;rw[e]at e2;cases e2;exact lP b o e1 z n
section
variable{X:Cx}{pins:List (Addr×Obj)}{σ:L2.St}{H H':Hp}{s s':Shared}{a C:Addr}
def o8(I:Inv X pins σ H s)(u:Un (frs X.stack) [] H H' s.heap s'.heap):∀b∈frs X.stack,H' b=none:=λb hb=>by
 obtain⟨_,o,ho,_⟩:=I.stack.mem hb;exact u.free b o ho (I.qF b hb) (by simp)
def sI(hx:X.ex=[])(hs:X.stack=X.env :: X.outer)(I:Inv X pins σ H s){g2:Heap}{B:Heap}{a0:Value}(os:s'.os=s.os)(bare:AllBare s'.gens)(u:Un (frs X.stack) [] H H' s.heap s'.heap)(hok:eX X.prog X.w H' s'.heap)(lP:E3 X.stack H' s.heap s'.heap B)
  (ff:∀b∈frs X.stack,∃o,s'.heap.get? b=some o/\∀vs,o.data≠.fields vs) (fl:Heap.FlyingW B X.outer a (.ref C) a0 g2) (up:Heap.UpToSlots s'.heap g2):iG X.prog X.w X.outer X.H₀ X.s₀ a C H' { s' with heap:=g2 }:=by
 obtain⟨u2,qV,uw⟩:=o6 u hok lP fl.1 (λb hb o e=>by
  obtain⟨o',e1,e2⟩:=ff b hb;rw[e]at e1;cases e1;exact up b o e e2) (o8 I u)
 have I2:Inv X pins σ H' { s' with heap:=g2 }:=I.sW (s':={ s' with heap:=g2 }) (ch:=[]) os u2 qV bare (λb z=>absurd z (by simp));refine⟨os.trans I.os,bare,by have:=I2.base;rw[hx]at this;exact this,qV,B,a0,fl,λb o e z n=>?_⟩;have hne:b≠X.env.locals:=λy=>by
  rcases z with z|z
  .rw[y,I2.free]at z;cases z
  .obtain⟨x,e1⟩:=Option.isSome_iff_exists.mp z;rw[y]at e1;exact absurd (Mt e1) (Nat.not_lt.mpr I.ok.above)
 refine uw b o e (z.imp id λz=>?_) λhb=>?_
 .obtain⟨x,e1⟩:=Option.isSome_iff_exists.mp z;obtain⟨x',e2⟩:=I.base.there b x e1 (by rw[hx];simp);rw[e2];rfl
 .rcases List.mem_cons.mp (I.pM b hb)with y|y
  .exact hne y
  .exact n y
theorem pX:∀{l:List Env}{h base B:Heap},Heap.FunFrames h base l->(∀b∈frs l,B.get? b=none)->Heap.FunFrames h B l
 |[],_,_,_,_,_=>trivial
 |env :: r,h,base,B,hl,n=>by
  obtain⟨hk,⟨L,o,hf,hn,ho,hd⟩,hr⟩:=hl;exact⟨hk,⟨L,o,hf,n L (by unfold frs;rw[VW,hf];exact VS),ho,hd⟩,pX hr λb hb=>n b (by unfold frs;rw[VW,hf];exact VA _ hb)⟩
def CS{Q:Unit->Shared->Prop}{E:Value->Shared->Prop}(hx:X.ex=[])(hs:X.stack=X.env :: X.outer)(hf:X.env.frame=some X.env.locals)(I:Inv X pins σ H s)(f:iG X.prog X.w X.stack H s a C H' s')(q:∀s'',iG X.prog X.w X.outer X.H₀ X.s₀ a C H' s''->Q () s'') :
  wpAny (model X.prog X.w) X.A (leaving X.env (.ref a)) Q E s':=by
 obtain⟨os,bare,un,hok,B,a0,fl,lP⟩:=f;have ff:∀b∈frs X.stack,∃o,s'.heap.get? b=some o/\∀vs,o.data≠.fields vs:=λb hb=>(fl.2.2.1.mem hb).2;rw[hs]at fl;exact wpAny_leaves_onW (by rw[I.ok.frames,hs]) hf fl λh' uy up=>q _ (sI hx hs I os bare un hok lP ff uy up)
def yU{Q:Unit->Shared->Prop}{E:Value->Shared->Prop}{h1:Heap}{args:List Value}(hx:X.ex=[])(hs:X.stack=X.env :: X.outer)(hf:X.env.frame=some X.env.locals)(I:Inv X pins σ H s)(m:Heap.MadeExcOf s.heap h1 a (.ref C) args)(q:∀s'',iG X.prog X.w X.outer X.H₀ X.s₀ a C H s''->Q () s'') :
  wpAny (model X.prog X.w) X.A (leaving X.env (.ref a)) Q E { s with heap:=h1 }:=by
 have cut:∀b∈frs X.stack,(hideAll s.heap (frs X.stack)).get? b=none:=λb hb=>hideAll_none _ hb;have K2:=pX (B:=hideAll s.heap (frs X.stack)) I.stack cut;have ff:∀b∈frs X.stack,∃o,s.heap.get? b=some o/\∀vs,o.data≠.fields vs:=λb hb=>(K2.mem hb).2;refine wpAny_leaves_madeW (base:=hideAll s.heap (frs X.stack)) (h:=s.heap) (by rw[I.ok.frames,hs]) hf (λb o e=>of_hideAll _ e) (by rw[hs]at K2 ⊢;exact K2) m λh' t uy _ _ up=>q _ ?_;have:=sI (s':=s) hx hs I (g2:=h') rfl I.bare Un.refl I.hok (B:=hideAll s.heap (frs X.stack)) (λb o e _ n=>hideAll_get _ e n) ff uy λb o e hd=>up b o (m.keeps b o e) hd;exact this
def iG.inv(f:iG X.prog X.w X.stack H s a C H' s')(I:Inv X pins σ H s):Inv X pins σ H' s':=I.sW (ch:=[]) f.os f.un f.hok f.bare (λb z=>absurd z (by simp))
def iG.xi{P:Program}{w:World}{l:List Env}(f:iG P w l H s a C H' s'):XI s'.heap a C:=by
 obtain⟨B,a0,fl,_⟩:=f.fl;obtain⟨oe,vs,T,oT,ts,h1,h2,h3,_⟩:=fl.2.2.2;exact⟨oe,h1,h2.1,vs,h3⟩
def iG.new{P:Program}{w:World}{l:List Env}(f:iG P w l H s a C H' s'):a∉frs l/\H' a=none:=by
 obtain⟨oe,h1,h2,vs,h3⟩:=f.xi;obtain⟨B,a0,fl,lP⟩:=f.fl;have n1:a∉frs l:=λhb=>by
  obtain⟨_,o,e1,e2⟩:=fl.2.2.1.mem hb;rw[h1]at e1;cases e1;exact e2 vs h3
 refine⟨n1,?_⟩;cases z:H' a with
 |none=>rfl
 |some x=>
  have:=lP a oe h1 (.inl (by rw[z];rfl)) n1;rw[fl.2.1]at this;cases this
def iG.on{A:Around}{M:Model}{P:Program}{w:World}{l:List Env}{Q:Unit->Shared->Prop}{E:Value->Shared->Prop}(f:iG P w l H s a C H' s')(hb:∀b∈frs l,H' b=none)(q:∀s'',iG P w l H s a C H' s''->Q () s''):wpAny M A (setFlight (.ref a) none) Q E s':=by
 obtain⟨os,bare,un,hok,B,a0,fl,lP⟩:=f;refine lands_againW fl λh2 AZ up=>q _ ?_;obtain⟨u2,qV,uw⟩:=o6 un hok lP AZ.1 (λb hb o e=>by
  obtain⟨_,o',e1,e2⟩:=fl.2.2.1.mem hb;rw[e]at e1;cases e1;exact up b o e e2) hb
 exact⟨os,bare,u2,qV,B,a0,AZ,uw⟩
def yV(I:Inv X pins σ H s)(f:iG X.prog X.w X.stack H s a C H' s')(hs:X.stack=X.env :: X.outer)(hf:X.env.frame=some X.env.locals){Q:Unit->Shared->Prop}{E:Value->Shared->Prop}
  (q:∀s'',iG X.prog X.w X.stack H s a C H' s''->Q () s''):wpAny (model X.prog X.w) X.A (noteFrame (.ref a) X.env) (λ_ s₂=>wpAny (model X.prog X.w) X.A (setFlight (.ref a) none) Q E s₂) E s':=by
 obtain⟨os,bare,un,hok,B,a0,fl,lP⟩:=f;have ff:∀b∈frs X.stack,∃o,s'.heap.get? b=some o/\∀vs,o.data≠.fields vs:=λb hb=>(fl.2.2.1.mem hb).2;have fr:=o8 I un;rw[hs]at fl;refine wpAny_looks_onW (by rw[I.ok.frames,hs]) hf fl λh1 hl1 up1=>wpAny_landsW hl1 λh2 AZ TH=>q _ ?_;obtain⟨u2,qV,uw⟩:=o6 un hok lP AZ.1 (λb hb o e=>by
  obtain⟨o',e1,e2⟩:=ff b hb;rw[e]at e1;cases e1;obtain⟨sl,e3⟩:=up1 b o e e2;obtain⟨sl2,e4⟩:=TH b _ e3 e2;exact⟨sl2,e4⟩) fr
 exact⟨os,bare,u2,qV,B,a0,by rw[hs];exact AZ,uw⟩
end
section
variable{X:Cx}
def K4{e:Expr}{t t':TE}(h:PE X e t)(w:∀s H Q,t' s H Q->t s H Q):PE X e t':=λpins s σ H Q I q=>h pins s σ H Q I (w _ _ _ q)
def G8{a:Addr}{oe:Obj}{C:Addr}{D:V}{Du:Value}{b:Bool}{ed:Expr}{xe:Str}{p p1 pos:Pos}(hp:(a,oe)∈X.pn)(ho:oe.cls=.ref C)(hd:∃vs,oe.data=.fields vs)(c:XC X.K C)(hD:PE X ed (tC D))(rD:∀u,RelV D u->u=Du)(k:kitOne X.K (.ref C) Du=some b)
  (hN:X.N[0]?=some xe) (hv:rL X.env.scope xe) (hg:Gl X "isinstance") (hm:X.mg "isinstance" = none) (hst:∀env:Env,starEach [.Name xe p1,ed] env=(false,eval (.Name xe p1) env) :: starEach [ed] env) (K5:∀env:Env,starEach [ed] env=(false,eval ed env) :: starEach [] env)
  (TJ:(xe==("__debug__" : Str))=false) (TL:(xe==("__classdict__" : Str))=false) :
  PE X (.Call (.Name "isinstance" p) [.Name xe p1,ed] [] pos) (λσ H Q=>σ[0]?=some (some (.ref a))/\Q (.bl b) H):=by
 have hc:ny X (.builtin "isinstance") (λxs H Q=>xs=[.ref a,D]/\Q (.bl b) H):=by
  intro pins s σ H xs us Q I rv q;obtain⟨rfl,q⟩:=q;cases rv with
  |cons r1 rv=>
   cases rv with
   |cons r2 rv=>
    cases rv;cases r1;obtain rfl:=rD _ r2;obtain⟨h1,_⟩:=I.pin (a,oe) (List.mem_append.mpr (.inl hp));exact K1 c I.jb ⟨oe,h1,ho,hd⟩ k λtk=>⟨.bl b,H,I.tok _,rfl,q⟩
 refine K4 (tU hc hg hm (by decide +kernel) (eL (lV hN hv TJ TL) (eL hD kg (K5 _)) (hst _)) (by decide) (by decide) (hst _) (by rw[K5];rfl)) λs H Q q=>?_;exact⟨_,q.1,rfl,q.2⟩
theorem qW:∀{bs:List Bool}{its:List Value},Vals (bs.map V.bl) its->its=bs.map Value.bool
 |[],_,h=>by cases h;rfl
 |b :: bs,_,h=>by
  cases h with
  |cons r h=>cases r;rw[qW h];rfl
noncomputable def E4:Value->Bool
 |.bool b=>b
 |_=>false
def uz(bs:List Bool):∀y∈(bs.map Value.bool).toArray,MeetsSeq.EqGives y (.bool true) (E4 y):=λy hy=>by
 rw[List.mem_toArray,List.mem_map]at hy;obtain⟨b,_,rfl⟩:=hy;intro prog w A E s Q q;refine SeqAt.EqAt.bool_bool b true prog w E Q ?_;cases b<;>exact q
section
variable{o:Expr}{to:TE}{j:Nat}{ap pos p1:Pos}
def G9 (ho:PE X o to) (hbase:attributeBase o "count" X.env (eval o X.env)=eval o X.env:=by rfl) (hline:(ap.endLine==pos.line)=true:=by rfl):PE X (.Call (.Attribute o "count" ap) [.Constant (.bool true) j p1] [] pos) (λσ H Q=>to σ H λx H1=>∃(l:Addr) (bs:List Bool),x=.ref l/\H1 l=some (.lst (bs.map V.bl))/\Q (.int (bs.countP id)) H1):=by
 intro pins s σ H Q I h;refine Xc hbase rfl hline rfl (bU (ho pins s σ H _ I h) λv s1 ⟨x,H1,I1,r1,l,bs,ex,hl,q⟩=>?_);subst ex;cases r1;obtain⟨z,its,n,r,hn,e⟩:=I1.mq hl;obtain rfl:=qW r;refine⟨"list","list.count",Wj,W3,Ye,⟨_,e,rfl⟩,λa ha=>by cases ha;exact⟨_,e,rfl⟩,?_⟩;show wpAny _ _ (callWith pos (.builtin "list.count") [.ref l] [(false,eval (.Constant (.bool true) j p1) X.env)] []) _ _ _;refine PySem.P.count_list (Constant_bool ⟨_,n,E4,e,uz bs,?_⟩);refine⟨.int (bs.countP id),H1,I1.tok _,⟨s1.toks,?_⟩,q⟩;have:List.countP E4 (bs.map Value.bool)=bs.countP id:=by rw[List.countP_map];rfl
 rw[List.toList_toArray,this]
def Hf (ho:PE X o to) (hbase:attributeBase o "index" X.env (eval o X.env)=eval o X.env:=by rfl) (hline:(ap.endLine==pos.line)=true:=by rfl):PE X (.Call (.Attribute o "index" ap) [.Constant (.bool true) j p1] [] pos) (λσ H Q=>to σ H λx H1=>∃(l:Addr) (bs:List Bool) (k:Nat),x=.ref l/\H1 l=some (.lst (bs.map V.bl))/\(bs[k]?=some true/\(∀m,m<k->bs[m]?=some false)/\k<1000)/\Q (.int k) H1):=by
 intro pins s σ H Q I h;refine Xc hbase rfl hline rfl (bU (ho pins s σ H _ I h) λv s1 ⟨x,H1,I1,r1,l,bs,k,ex,hl,⟨hk1,hk2,UE⟩,q⟩=>?_);subst ex;cases r1;obtain⟨z,its,n,r,hn,e⟩:=I1.mq hl;obtain rfl:=qW r;refine⟨"list","list.index",Wj,PySem.F.slot_list_index,PySem.F.type_list_index,⟨_,e,rfl⟩,λa ha=>by cases ha;exact⟨_,e,rfl⟩,?_⟩;show wpAny _ _ (callWith pos (.builtin "list.index") [.ref l] [(false,eval (.Constant (.bool true) j p1) X.env)] []) _ _ _;have hlt:=(List.getElem?_eq_some_iff.mp hk1).1;refine PySem.P.index_list (Constant_bool ⟨_,n,E4,k,by simpa using hlt,e,uz bs,by omega,?_,λm hm h2=>?_,?_⟩)
 .simp only[Yy,YS];show bs[k]=true;exact(List.getElem?_eq_some_iff.mp hk1).2
 .simp only[Yy,YS];show bs[m]'(by simpa using hm)=false;exact(List.getElem?_eq_some_iff.mp (hk2 m h2)).2
 .exact⟨.int k,H1,I1.tok _,⟨_,rfl⟩,q⟩
end
def Hg{st:List Stmt}{t t':TS}(h:eY X st t)(w:∀D σ H,t' D σ H->t D σ H):eY X st t':=λpins s σ H D I q=>h pins s σ H D I (w _ _ _ q)
structure E5(K:PySem.W.Frag)(C D0:Addr)(c:Nat):Prop where
 xc:XC K C
 k0:kitOne K (.ref C) (.ref D0)=some true
 kv:kitOne K (.ref C) (.type "ValueError")=some true
 c0:c=0
set_option maxHeartbeats 1000000 in
def A3{a:Addr}{oe:Obj}{C D0:Addr}{c:Nat}{x0:Str}{tb:List Stmt}{p0 p1 p2 p3 p4 p5 p6 p7 p8 p9 E6 E7 E8 E9 Fb Fc Fd Fe Ff A4 P7 P8 TM TN TQ TR TU:Pos}
  (hp:(a,oe)∈X.pn) (ho:oe.cls=.ref C) (hd:∃vs,oe.data=.fields vs) (k:E5 X.K C D0 c) (g0:Gl X x0) (gi:Gl X "isinstance") (gv:Gl X "ValueError") (m0:X.mg x0=some (.ref D0)) (mi:X.mg "isinstance" = none) (mv:X.mg "ValueError" = none) (TV:(x0==("__debug__" : Str))=false)
  (hN:X.N=(["_law_e","_law_flags"]:List Str)) (h0:X.env.scope.names.lookup ("_law_e" : Str)=some .local) (h1:X.env.scope.names.lookup ("_law_flags" : Str)=some .local)
  (hl1:(p7.endLine==p8.line)=true) (hl2:(P7.endLine==P8.line)=true) :
  eY X [.Assign [.Name "_law_flags" p0] (.List [.Call (.Name "isinstance" p1) [.Name "_law_e" p2,.Name x0 p3] [] p4] p5) p6,
   .If (.BoolOp .Or [.Compare (.Call (.Attribute (.Name "_law_flags" p9) "count" p7) [.Constant (.bool true) 0 E6] [] p8) [.NotEq] [.Constant (.int 1) 0 E7] E8,.UnaryOp .Not (.Call (.Name "isinstance" E9) [.Name "_law_e" Fb,.Name "ValueError" Fc] [] Fd) Fe] Ff) tb [] A4,
   .Return (some (.Tuple [.Constant (.str "refused") 0 TM,.Call (.Attribute (.Name "_law_flags" TN) "index" P7) [.Constant (.bool true) 0 TQ] [] P8] 0 TR)) TU] (λD σ H=>σ=[some (.ref a),none]/\∀p H',(∀b o,H b=some o->H' b=some o)->H' p=some (.tup [.str "refused",.int c])->D.rt (.ref p) H'):=by
 have v0:rL X.env.scope ("_law_e" : Str):=.inl h0;have v1:rL X.env.scope ("_law_flags" : Str):=.inl h1;have n0:X.N[0]?=some ("_law_e" : Str):=by rw[hN];rfl
 have n1:X.N[1]?=some ("_law_flags" : Str):=by rw[hN];rfl
 have nd:X.N.Nodup:=by rw[hN];decide
 have P9:∀{ed:Expr} {D:V} {Du:Value} {b:Bool} {q0 q1 q2:Pos},PE X ed (tC D)->(∀u,RelV D u->u=Du)->kitOne X.K (.ref C) Du=some b->(∀env:Env,starEach [.Name "_law_e" q1,ed] env=(false,eval (.Name "_law_e" q1) env) :: starEach [ed] env)->(∀env:Env,starEach [ed] env=(false,eval ed env) :: starEach [] env)->
   PE X (.Call (.Name "isinstance" q0) [.Name "_law_e" q1,ed] [] q2) (λσ H Q=>σ[0]?=some (some (.ref a))/\Q (.bl b) H):=λh1 h2 h3 h4 h5=>G8 hp ho hd k.xc h1 h2 h3 n0 v0 gi mi h4 h5 (by decide) (by decide)
 have i0:=λ{q0 q1 q2 q3:Pos}=>P9 (q0:=q0) (q1:=q1) (q2:=q2) (nv (pos:=q3) g0 m0 (v:=.ref D0) rfl TV) (λu r=>r) k.k0 (λ_=>rfl) (λ_=>rfl);have iv:=λ{q0 q1 q2 q3:Pos}=>P9 (q0:=q0) (q1:=q1) (q2:=q2) (Ge (pos:=q3) gv mv (by decide +kernel) (v:=.ty "ValueError") rfl) (λu r=>r) k.kv (λ_=>rfl) (λ_=>rfl);have Qa:=λ{q:Pos}=>lV (X:=X) (pos:=q) n1 v1;refine Hg (jy (pN (i:=1) (pos':=p0) nd n1 (.inl h1) (tS (eL i0 kg)) rfl (.inr h1))
  (jy (ym (PW.pt (Nj (we Nt (G9 Qa rfl hl1) zX (iQ _)) (IU (zZ (IT iv))))) z7 vZ) (v5 (tQ (Ae (eL zY (eL (Hf Qa rfl hl2) kg))))))) λD σ H q=>?_
 obtain⟨rfl,q⟩:=q;obtain rfl:=k.c0;refine⟨rfl,by show 1<=sizeLine;decide,λl hl=>?_⟩;have keep:∀{H1:Hp} {q:Addr} {x:HO},(∀b o,H b=some o->H1 b=some o)->H1 q=none->∀b o,H b=some o->upd H1 q x b=some o:=λk1 k2 b o e=>by rw[bB (bZ (k1 b o e) k2)];exact k1 b o e
 have k1:=keep (x:=.lst [V.bl true]) (λ_ _ e=>e) hl;refine⟨_,rfl,l,[true],rfl,ez,?_⟩;refine⟨rfl,_,rfl,?_⟩;dsimp only;rw[Qm (by decide)];refine⟨rfl,_,rfl,?_⟩;dsimp only;rw[Qm (by decide)];refine⟨_,rfl,l,[true],0,rfl,ez,⟨rfl,λm h=>absurd h (YW _),by decide⟩,?_⟩;exact⟨by show 2<=sizeLine;decide,λt ht=>q t _ (keep k1 ht) ez⟩
end
section
variable{P:Program}{w:World}{K:PySem.W.Frag}{mg:Str->Option Value}{base:Heap}
noncomputable def Fi(P:Program)(w:World)(K:PySem.W.Frag)(mg:Str->Option Value)(base:Heap)(N:List Str)(qual:Str)(scope:Scope)(f:Addr)(cd:Value)(A:Around)(outer:List Env)(s:Shared)(H:Hp)(a:Addr)(oe:Obj):Cx:=
 { iW jd P w K mg base N qual scope f cd A outer s H E0 with calm:=false,pn:=[(a,oe)],xe:=λ_ _=>False }
def CT{x qual:Str}{st:Stmt}{f:Addr}{fd:FuncData}{N ps:List Str}{A:Around}{outer:List Env}{s:Shared}{H:Hp}{args:Args}{us:List Value}{vs:List V}{Q:VK}{a:Addr}{oe:Obj}(F:mC K x qual st f fd)(S:bG N ps (aB st))(dp:A.depth<recursionLimit)
  (e0:qH P w K mg base A outer s H) (hb:BindsTo s fd args (ps.zip us)) (r:Vals vs us) (hl:vs.length=ps.length) (p1:s.heap.get? a=some oe) (p2:H a=none) (p3:a∉frs outer) (p4:∀v,oe.data≠.cell v)
  (hbody:∀(cdv:Value) (X:Cx),X=Fi P w K mg base N qual (aB st) f cdv A outer s H a oe->∃t,eY X (cE st) t/\t { nx:=λ_ H'=>Q .aG H',rt:=Q } (start N vs) H) :
  codeAny (model P w) A (.call (.ref f) args) (CR jd outer P w H s Q E0) s:=by
 obtain⟨oc,od,kV,doc,pm,an,cdv,ct,osl,rfl,lk,hcd⟩:=F.ex;have KX:K.In s.heap:=e0.mod.cZ.keeps λb o e=>(e0.bs b o e).1;have lim:s.heap.NoLimit:=e0.mod.nolimit.keeps λb o e=>(e0.bs b o e).1;have hkind:∀y∈ps.zip us,(aB st).names.lookup y.1=some .local\/((aB st).names.lookup y.1=some .cell/\((cellsFrom (s.heap.objs.size+1) (aB st).names []).lookup y.1).isSome=true):=λ⟨n,v⟩ hy=>by
  rcases S.par n (Xl hy).1 with q|q
  .exact .inl q
  .exact .inr ⟨q,Xd _ _ _ (.inl q)⟩
 refine Yp dp (KX _ _ lk) rfl S.co S.gen rfl (YJ KX hcd) (hb _ _ _ _ ?_);refine XG S.kind hkind λenv he s1 y=>?_;subst he;refine⟨lim.keeps y.toInCall.keep,codeAny_func ?_⟩;obtain⟨t,ht,hq⟩:=hbody cdv _ rfl;have I0:Inv (iW jd P w K mg base N qual (aB st) f cdv { A with handled:=none } outer s H E0) [] (start N vs) H s1:=rR S rfl ⟨e0.frames,e0.mod,e0.bs,e0.lS,e0.gM,e0.nV,e0.hok,e0.bare⟩ hl r y;have ok:=I0.ok;have I:Inv (Fi P w K mg base N qual (aB st) f cdv A outer s H a oe) [] (start N vs) H s1:=
  ⟨⟨ok.mod,ok.kind,ok.glob,ok.blt,ok.above,ok.inj,ok.has,ok.tP,(λh=>nomatch h),Around.frames_deeper e0.frames,ok.stk,ok.zV,ok.bs,ok.lS,ok.oM,ok.oN,ok.gM,ok.nV⟩,I0.os,I0.bare,I0.base,I0.loc,I0.cell,I0.free,I0.gj,
   λp hp=>by
    obtain rfl:p=(a,oe):=by simpa[Fi]using hp
    exact⟨y.toInCall.keep _ _ p1,p2,λz=>by
     have:=Mt p1;rw[show a=s.heap.objs.size from z]at this;exact absurd this (Wi _),p3,p4⟩,I0.hok,I0.len⟩
 refine Vx (ht [] s1 (start N vs) H _ I hq) (λfl s' hs=>?_) λe s' hs=>hs.elim;have fin:∀{σ':L2.St} {H':Hp} {v:V} {u:Value},Inv (Fi P w K mg base N qual (aB st) f cdv A outer s H a oe) [] σ' H' s'->RelV v u->Q v H'->CE outer P w H s Q u s':=
  λ{σ' H' v u} J rv q=>⟨v,H',J.os,J.bare,J.base,J.hok,rv,q⟩
 cases fl with
 |ret u=>
  obtain⟨v,σ',H',J,rv,q⟩:=hs;exact fin J rv q
 |next=>
  obtain⟨σ',H',J,q⟩:=hs;exact fin (v:=V.aG) (u:=Value.none) J rfl q
 |brk=>
  obtain⟨_,_,_,q⟩:=hs;exact False.elim q
 |cont=>
  obtain⟨_,_,_,q⟩:=hs;exact False.elim q
end
section
variable{X:Cx}{pins:List (Addr×Obj)}{σ:L2.St}{H H':Hp}{s s':Shared}{a C:Addr}
def A5{M:Model}{A:Around}{E:Value->Shared->Prop}{i:Nat}{x:Str}{v:V}{Q:Unit->Shared->Prop}(I:Inv X pins σ H s)(hN:X.N.Nodup)(hi:X.N[i]?=some x)(hk:X.env.scope.names.lookup x=some .local)(hv:σ[i]?=some (some v))
  (h:∀s',Inv X pins (σ.set i none) H s'->Q () s'):wpAny M A (unbindName X.env x) Q E s:=by
 obtain⟨m,hn,hl⟩:=id I.loc;have hcls:(X.env.scope.kind==.class || (X.env.scope.kind==.module&&X.env.locals != X.env.globals))=false:=by rw[I.ok.kind];rfl
 have lT:=I.lT;obtain⟨u,r,q⟩:=hl i x v hi hv (.inl hk);have hm:m x=some u:=by
  rcases q with ⟨_,e⟩|⟨k,_⟩
  .exact e
  .rcases k with k|k
   .rw[show X.env.kindOf x=X.env.scope.names.lookup x from rfl,hk]at k;cases k
   .rw[show X.env.kindOf x=X.env.scope.names.lookup x from rfl,hk]at k;cases k
 refine wpAny_unbindName_local hk hn hm hcls λh' u' hn' hs=>?_;obtain⟨oL,_,_,vY,_⟩:=id hn;have tracked:eX X.prog X.w H h':=λb ob e=>by
  refine(I.hok b ob e).stay (λc w' hc q=>(hs.2 c ?_).trans q) (λ_ q=>q) λ_ _ q=>q;rintro rfl;rcases hc with rfl|hc
  .rw[I.free]at e;cases e
  .rw[I.free]at hc;cases hc
 refine h _ ⟨I.ok,I.os,I.bare,⟨λb o e n hb hx=>?_,λb o e n hb hx=>?_,I.base.free,λb o e hx=>?_,I.base.tups,I.base.jx,I.base.jV⟩,⟨_,hn',λj y v' e1 e2 e3=>?_⟩,λy c e=>?_,I.free,I.gj,λp hp=>?_,tracked,by simpa using I.len⟩
 .exact(hs.2 b (So (fB (Mt e) I.ok.above))).trans (I.base.keep b o e n hb hx)
 .obtain⟨sl,e1⟩:=I.base.slot b o e n hb hx;exact⟨sl,(hs.2 b (So (fB (Mt e) I.ok.above))).trans e1⟩
 .obtain⟨o',e1⟩:=I.base.there b o e hx;exact⟨o',(hs.2 b (So (fB (Mt e) I.ok.above))).trans e1⟩
 .have yl:i<σ.length:=by rw[I.len];exact(List.getElem?_eq_some_iff.mp hi).1
  by_cases hj:j=i
  .subst hj;rw[Ei yl]at e2;cases e2
  .rw[gI (WB hj)]at e2;obtain⟨u',r',q⟩:=hl j y v' e1 e2 e3;refine⟨u',r',?_⟩;rcases q with ⟨k,e⟩|⟨k,c,e,z⟩
   .refine .inl ⟨k,?_⟩;have:y≠x:=λe=>hj (oO hN e1 (e▸hi));simp[this,e]
   .exact .inr ⟨k,c,e,z.sameBut hs (lT y c e)⟩
 .obtain⟨w',z⟩:=I.cell y c e;exact⟨w',z.sameBut hs (lT y c e)⟩
 .obtain⟨e,n,ne,nf,d⟩:=I.pin p hp;exact⟨(hs.2 p.1 ne).trans e,n,ne,nf,d⟩
structure CU(K:PySem.W.Frag)(mg:Str->Option Value)(rf:Addr)(rd:FuncData)(sJ:Stmt)(Wc:Addr)(KC:Addr->Nat->Prop):Prop where
 fn:mC K "_law_refused" "_law_refused" sJ rf rd
 sc:bG ["_law_e","_law_flags"] ["_law_e"] (aB sJ)
 bd:Binds K rd ["_law_e"] []
 mr:mg "_law_refused" = some (.ref rf)
 mw:mg "WayError" = some (.ref Wc)
 body:∀(Y:Cx) (a:Addr) (oe:Obj) (C:Addr) (c:Nat),Y.N=(["_law_e","_law_flags"]:List Str)->Y.env.scope=aB sJ->Y.K=K->Y.mg=mg->(a,oe)∈Y.pn->oe.cls=.ref C->(∃vs,oe.data=.fields vs)->KC C c->
  eY Y (cE sJ) (λD σ H=>σ=[some (.ref a),none]/\∀p H',(∀b o,H b=some o->H' b=some o)->H' p=some (.tup [.str "refused",.int c])->D.rt (.ref p) H')
def K6{rf:Addr}{rd:FuncData}{sJ:Stmt}{Wc:Addr}{KC:Addr->Nat->Prop}{c i:Nat}{D:Ends}{p1 p2 p3 p4 p5 p6:Pos}{E:Value->Shared->Prop}(R:CU X.K X.mg rf rd sJ Wc KC)(k:KC C c)(kw:exmOne X.K (.ref C) (.ref Wc)=some true)
  (hs:X.stack=X.env :: X.outer) (hf:X.env.frame=some X.env.locals) (dp:X.A.depth<recursionLimit) (hN:X.N.Nodup) (hi:X.N[i]?=some ("_law_e" : Str)) (hk:X.env.scope.names.lookup ("_law_e" : Str)=some .local) (g1:Gl X "_law_refused") (g2:Gl X "WayError")
  (I1:Inv X pins σ H s) (f:iG X.prog X.w X.stack H s a C H' s') (q:∀p kC,(∀b o,H' b=some o->kC b=some o)->kC p=some (.tup [.str "refused",.int c])->D.rt (.ref p) kC) :
  wpAny (model X.prog X.w) X.A (noteFrame (.ref a) X.env) (λ_ s₂=>wpAny (model X.prog X.w) X.A (setFlight (.ref a) none) (λ_ s₃=>wpAny (model X.prog X.w) X.A (handleBy (.ref a) X.env [.ExceptHandler (some (.Name "WayError" p1)) (some "_law_e") [.Return (some (.Call (.Name "_law_refused" p2) [.Name "_law_e" p3] [] p4)) p5] p6]) (SP X pins D) E s₃) E s₂) E s':=by
 refine yV I1 f hs hf λs2 f2=>?_;have I2:=f2.inv I1;have TX:=f2.un;refine wpAny_handleBy_cons (codeAny_handlers_test ?_) (λz=>nomatch z);refine Wv I2.ok.kind g2 (W7 (by rw[I2.ok.glob];exact I2.mod.glob.keeps I2.bk) R.mw ?_) (by decide);refine exm_one I2.jb (nI f2.xi) kw _ _ _ _ (λ_ _ e=>e) ?_;show codeAny _ _ (Code.handlers (.ref a) [.ExceptHandler none (some "_law_e") _ p6] X.env) _ s2;refine codeAny_handlers_suite_as ?_;refine f2.on (o8 I1 TX) λs3 f3=>?_;have I3:=f3.inv I1;obtain⟨nf,na⟩:=f3.new;obtain⟨oe,x1,x2,vs,x3⟩:=f3.xi;refine lU I3 hN hi (.inl hk) (v:=.ref a) rfl (λs4 I4 ⟨b,TZ,hb⟩=>?_) (.inr hk);have hab:a≠b:=λz=>by
  subst z;rcases hb with z|z
  .obtain⟨m,⟨o,es,ep,e1,e2,_⟩,_⟩:=I3.loc;rw[<-z,x1]at e1;cases e1;rw[x3]at e2;cases e2
  .obtain⟨v,o,e1,e2⟩:=I3.cell _ _ z;rw[x1]at e1;cases e1;rw[x3]at e2;cases e2
 have x4:s4.heap.get? a=some oe:=(TZ.2 a hab).trans x1;have hσ:(σ.set i (some (V.ref a)))[i]?=some (some (.ref a)):=Ei (by rw[I3.len];exact(List.getElem?_eq_some_iff.mp hi).1);refine Xh (XM (WX ?_));refine Wv I4.ok.kind g1 (W7 (by rw[I4.ok.glob];exact I4.mod.glob.keeps I4.bk) R.mr ?_) (by decide);refine callWith_K (h₀:=X.base) I4.ok.mod.cZ R.fn.kp ?_ rfl rfl;show wpAny _ _ (spliced ((false,eval (.Name "_law_e" p3) X.env) :: [])) _ _ _;refine WZ ?_;obtain⟨m,hn,hl⟩:=I4.loc;obtain⟨u,r,l⟩:=hl i _ _ hi hσ (.inl hk);cases r;have hm:m "_law_e" = some (.ref a):=by
  rcases l with ⟨_,e⟩|⟨z,_⟩
  .exact e
  .rcases z with z|z<;>rw[show X.env.kindOf "_law_e" = X.env.scope.names.lookup ("_law_e" : Str)from rfl,hk]at z<;>cases z
 refine Yw (wpAny_loadName_local I4.ok.kind hk hn hm ?_) (by decide);refine Xb ⟨I4.jb,?_⟩;have e0:qH X.prog X.w X.K X.mg X.base (X.A.mark (some (.ref a))) X.stack s4 H':=⟨I4.jW.frames,I4.jW.mod,I4.jW.bs,I4.jW.lS,I4.jW.gM,I4.jW.nV,I4.jW.hok,I4.jW.bare⟩
 refine Xi (Wo (CT (args:=⟨[.ref a],[]⟩) (us:=[.ref a]) (vs:=[.ref a]) (Q:=λv kC=>∃p,v=.ref p/\(∀b o,H' b=some o->kC b=some o)/\kC p=some (.tup [.str "refused",.int c])) R.fn R.sc dp e0 (R.bd s4 [.ref a] I4.jb rfl) (.cons rfl .nil) rfl x4 na nf (λv=>by rw[x3];exact λz=>nomatch z) λcdv Y hY=>⟨_,R.body Y a oe C c (by rw[hY];rfl) (by rw[hY];rfl) (by rw[hY];rfl) (by rw[hY];rfl) (by rw[hY];exact List.mem_singleton.mpr rfl) x2 ⟨vs,x3⟩ k,rfl,λp kC k1 k2=>⟨p,rfl,k1,k2⟩⟩) λres s5 hq=>?_);cases res with
 |error e=>exact hq.elim
 |ok fl=>
  cases fl with
  |next=>exact hq.elim
  |brk=>exact hq.elim
  |cont=>exact hq.elim
  |ret u5=>
   obtain⟨v,H5,T3,N2,T4,Ro,r5,p,rfl,k1,k2⟩:=hq;have I5:Inv X pins _ H5 s5:=I4.sW (ch:=[]) T3 T4 Ro N2 (λb z=>absurd z (by simp));show wpAny _ _ (do bindName X.env "_law_e" .none;unbindBehindTheSuite X.env "_law_e" p6) _ _ s5;refine bT (wpAny_bindName (oQ I5 hN hi (.inl hk) (v:=.aG) rfl (λs6 I6=>?_) (.inr hk)));refine wpAny_onRaise (A5 I6 hN hi hk (v:=.aG) (Ei (by simpa using (List.getElem?_eq_some_iff.mp hσ).1)) λs7 I7=>?_);exact⟨.ref p,_,H5,I7,r5,q p H5 k1 k2⟩
end
end Sm
namespace Sm
open PySem PySem.Spec PyProof.Rows L2
open Ev (D O Hh Fr R aF E Es Eo It T S Ss Fl Src aU aR TY BI ME)
abbrev Fj:List Value:=[.type "ValueError",.type "Exception",.type "BaseException",.type "object"]
noncomputable def A6 (K:PySem.W.Frag) (C:Addr):Prop:=∃nm q N bs bm hdct sn sub ab col dd k0 k1 k2 k3 k5,K.lookup C=some (excClassObj nm q C N bs bm hdct sn sub ab col dd k0 k1 k2 k3 k5 "ValueError.__new__")/\bm.contains (.type "BaseException")=true/\∀h:Heap,K.In h->∃mN,h.Ns N mN/\mN "__init__" = none/\OwnTail h Fj bm
noncomputable def uA(K:PySem.W.Frag)(cl:Nat->Addr)(F:List Ev.Fn)(w n f:Nat):Sp:=λvs H Q E=>∃r h ds c h',aI K H r ds vs/\HR K H r h/\Ev.bS F w n f ds h=some (c,h')/\∀H' r',HR K H' r' h'->Fm K r r' H H'->E (.ref (cl c)) none H'
inductive tX(K:PySem.W.Frag)(cl:Nat->Addr)(m:List Nat)(E:XK)(f:Fr->Hh->Ev.XR)(s:L2.St)(H:Hp):Prop
 |mk (r:List Addr) (fr:Fr) (h:Hh) (c:Nat) (h':Hh) (sr:SR K m H r fr s) (hr:HR K H r h) (e:f fr h=some (c,h')) (q:∀H' r',HR K H' r' h'->Fm K r r' H H'->E (.ref (cl c)) none H'):tX K cl m E f s H
structure GX(G:Tb)(cl:Nat->Addr)(cz:List (Str×Nat))(rz su:List Nat)(n:Nat)(sc:Scope)(N:List Str)(df:Bool)(E:XK)(X:Cx):Prop where
 g:Good G n sc N df X.dB
 own:PassesOwn (model X.prog X.w) X.A X.env X.xe
 ps:Passes (uv X.prog X.w) X E
 md:∀(pins:List (Addr×Obj)) (σ:L2.St) (H:Hp) (s:Shared) (h1:Heap) (e C:Addr) (args:List Value),Inv X pins σ H s->Heap.MadeExcOf s.heap h1 e (.ref C) args->E (.ref C) none H->X.xe (.ref e) { s with heap:=h1 }
 fn:∀(f:Nat) i,G.fi[f]?=some i->su.contains f=true->fK X.prog X.w X.K X.mg X.base (uv X.prog X.w) n i.addr i.fd i.ps (uA X.K cl G.F G.w n f)
 nz:∀f,rz.contains f=false->∀ds h,Ev.bS G.F G.w n f ds h=none
 cs:∀x c,(x,c)∈cz->X.mg x=some (.ref (cl c))/\A6 X.K (cl c)
theorem PA.dB{X:Cx}{es:List Expr}{t:TA}(h:PA X.dB es t):PA X es t:=λpos pins s σ H Q I hw=>
 Vx (h pos pins s σ H Q (I.gr _) hw) (λ_ _ ⟨vs,H',I',r,q⟩=>⟨vs,H',I'.dW,r,q⟩) λ_ _ z=>False.elim z
theorem PS.dB{X:Cx}{st:Stmt}{t:TS}(h:PS X.dB st t):PS X st t:=λpins s σ H D I hw=>
 Vx (h pins s σ H D (I.gr _) hw) (λ_ _ q=>q.dW) λ_ _ z=>False.elim z
section
variable(G:Tb)(cl:Nat->Addr)(cz:List (Str×Nat))(rz su:List Nat)(n:Nat)(sc:Scope)(N:List Str)(df:Bool)(m:List Nat)
noncomputable def uB(e:E)(x:Expr):Prop:=∀X Ex,GX G cl cz rz su n sc N df Ex X->PE X x (λs H _=>tX X.K cl m Ex (Ev.xe (Ev.run G.F G.w n) (Ev.bS G.F G.w n) e) s H)
noncomputable def A7(es:Es)(xs:List Expr):Prop:=∀X Ex,GX G cl cz rz su n sc N df Ex X->PA X xs (λs H _=>tX X.K cl m Ex (Ev.xa (Ev.run G.F G.w n) (Ev.bS G.F G.w n) es) s H)
noncomputable def uC(st:S)(x:Stmt):Prop:=∀X Ex,GX G cl cz rz su n sc N df Ex X->PS X x (λ_ s H=>tX X.K cl m Ex (Ev.xs (Ev.run G.F G.w n) (Ev.bS G.F G.w n) G.w st) s H)
noncomputable def iI(ss:Ss)(xs:List Stmt):Prop:=∀X Ex,GX G cl cz rz su n sc N df Ex X->eY X xs (λ_ s H=>tX X.K cl m Ex (Ev.xss (Ev.run G.F G.w n) (Ev.bS G.F G.w n) G.w ss) s H)
end
section
variable{G:Tb}{cl:Nat->Addr}{cz:List (Str×Nat)}{rz su:List Nat}{n:Nat}{sc:Scope}{N:List Str}{df:Bool}{m:List Nat}{a b:E}{xa xb:Expr}{pos:Pos}
def kD{es:Es}{xs:List Expr}(h:Ev.wz rz es=true):A7 G cl cz rz su n sc N df m es xs:=λX Ex g pos pins s σ H Q I q=>by
 obtain⟨r,fr,h1,c,h',sr,hr,e,q⟩:=q;rw[Ev.yD g.nz _ h]at e;cases e
def uD{s:S}{x:Stmt}(h:Ev.nY rz s=true):uC G cl cz rz su n sc N df m s x:=λX Ex g pins s σ H Q I q=>by
 obtain⟨r,fr,h1,c,h',sr,hr,e,q⟩:=q;rw[Ev.Jv g.nz _ h]at e;cases e
def gT{s:Ss}{xs:List Stmt}(h:Ev.jY rz s=true):iI G cl cz rz su n sc N df m s xs:=λX Ex g pins s σ H Q I q=>by
 obtain⟨r,fr,h1,c,h',sr,hr,e,q⟩:=q;rw[Ev.kT g.nz _ h]at e;cases e
def tE{f:Nat}{i:FI}{es:Es}{x:Str}{e0:Expr}{xs:List Expr}{p:Pos}(h:lN sc x=true)(hu:su.contains f=true)(hf:G.fi[f]?=some i)(hx:i.name=x)(hs:JA G n sc N df m es (e0 :: xs))(ks:A7 G cl cz rz su n sc N df m es (e0 :: xs))
  (hst:∀env:Env,starEach (e0 :: xs) env=(false,eval e0 env) :: starEach xs env:=by intro _;rfl) (hpl:∀env:Env,(backTo pos (starEach xs env)).any (·.1)=false:=by intro _;rfl) :
  uB G cl cz rz su n sc N df m (.cl f es) (.Call (.Name x p) (e0 :: xs) [] pos):=λX Ex g pins s σ H Q I q=>by
 subst hx;unfold lN at h;simp only[gV,V1]at h;obtain⟨h1,h2,h3,_⟩:=g.g.fn f i hf;have hg:Gl X i.name:=g.g.gl (by simpa using h.1);obtain⟨r,fr,hh,c,h',sr,hr,e,q⟩:=q;simp only[Ev.xe]at e;split at e
 .rename_i ds hd ey;refine nA (g.fn f i hf hu) g.g.room hg h1 h2 h3 .nil g.ps (PA.dB (hs X.dB g.g)) h.2 (hst _) (hpl _) pins s σ H Q I ⟨r,fr,hh,ds,hd,sr,hr,ey,λvs H1 r1 v1 hr1 f1=>?_⟩;exact⟨r1,hd,ds,c,h',by rw[Ux];exact v1,hr1,e,λH' r' y1 y2=>q H' r' y1 (f1.trans y2)⟩
 .exact nA (g.fn f i hf hu) g.g.room hg h1 h2 h3 .nil g.ps (ks X Ex g) h.2 (hst _) (hpl _) pins s σ H Q I ⟨r,fr,hh,c,h',sr,hr,e,q⟩
def uE{es:Es}{xs:List Expr}(ha:JE G n sc N df m a xa)(ka:uB G cl cz rz su n sc N df m a xa)(ks:A7 G cl cz rz su n sc N df m es xs)(hst:∀env:Env,starEach (xa :: xs) env=(false,eval xa env) :: starEach xs env:=by intro _;rfl):A7 G cl cz rz su n sc N df m (.cons a es) (xa :: xs):=λX Ex g pos pins s σ H Q I q=>by
 obtain⟨r,fr,hh,c,h',sr,hr,e,q⟩:=q;simp only[Ev.xa]at e;split at e
 .rename_i d hd ey;exact eL (PE.dB (ha X.dB g.g)) (ks X Ex g) (hst _) pos pins s σ H Q I ⟨r,fr,hh,d,hd,sr,hr,ey,λv H1 r1 v1 hr1 f1=>⟨r1,fr,hd,c,h',sr.mono f1,hr1,e,λH' r' y1 y2=>q H' r' y1 (f1.trans y2)⟩⟩
 .exact eL (ka X Ex g) (t:=λ_ _ _=>False) (λ_ _ _ _ _ _ _ z=>z.elim) (hst _) pos pins s σ H Q I ⟨r,fr,hh,c,h',sr,hr,e,q⟩
def yW(ka:uB G cl cz rz su n sc N df m a xa)(hs:nB xb:=by intro _ _;rfl):uB G cl cz rz su n sc N df m (.ix a b) (.Subscript xa xb pos):=λX Ex g pins s σ H Q I q=>by
 obtain⟨r,fr,hh,c,h',sr,hr,e,q⟩:=q;simp only[Ev.xe]at e;exact yw (r:=λ_ _ _ _=>False) (λ_ _ _ _ _ _ _ _ _ _ _ _ _ _ z _=>z.elim) (ka X Ex g) (tb:=λ_ _ _=>False) (λ_ _ _ _ _ _ z=>z.elim) hs pins s σ H Q I ⟨r,fr,hh,c,h',sr,hr,e,q⟩
def qX(ka:uB G cl cz rz su n sc N df m a xa):uC G cl cz rz su n sc N df m (.ret a) (.Return (some xa) pos):=λX Ex g pins s σ H Q I q=>by
 obtain⟨r,fr,hh,c,h',sr,hr,e,q⟩:=q;simp only[Ev.xs]at e;exact tQ (ka X Ex g) pins s σ H Q I ⟨r,fr,hh,c,h',sr,hr,e,q⟩
def Hi{i:Nat}{x:Str}{pos':Pos}(h:gB sc N df m x i=true)(ka:uB G cl cz rz su n sc N df m a xa)(hs:∀env:Env,swapsWith xa (some (.Name x pos')) pos.line env=pure false:=by intro _;rfl):uC G cl cz rz su n sc N df m (.set i a) (.Assign [.Name x pos'] xa pos):=λX Ex g pins s σ H Q I q=>by
 obtain⟨r,fr,hh,c,h',sr,hr,e,q⟩:=q;simp only[Ev.xs]at e;obtain⟨j,e1,e2,e3,e4,e5⟩:=gB.of h;obtain⟨h1,h2⟩:=g.g.loc e3;exact pN (X:=X) (i:=j) (by rw[show X.N=N from g.g.nm];exact e5) (by rw[show X.N=N from g.g.nm];exact e2) h1 (ka X Ex g) (hs _) h2 pins s σ H Q I ⟨r,fr,hh,c,h',sr,hr,e,q⟩
def Hj{ta tb:Ss}{ya yb:List Stmt}(hc:JT G n sc N df m a xa)(kc:Ev.mE rz a=true)(h1:iI G cl cz rz su n sc N df m ta ya)(h2:iI G cl cz rz su n sc N df m tb yb):uC G cl cz rz su n sc N df m (.iff a ta tb) (.If xa ya yb pos):=λX Ex g pins s σ H Q I q=>by
 obtain⟨r,fr,hh,c,h',sr,hr,e,q⟩:=q;simp only[Ev.xs]at e;split at e
 .rename_i k h3 ey;refine ym (PT.dB (hc X.dB g.g)) (h1 X Ex g) (h2 X Ex g) pins s σ H Q I ⟨r,fr,hh,k,h3,sr,hr,ey,λH1 r1 hr1 f1=>?_⟩;cases k with
  |true=>exact⟨r1,fr,h3,c,h',sr.mono f1,hr1,by simpa using e,λH' r' y1 y2=>q H' r' y1 (f1.trans y2)⟩
  |false=>exact⟨r1,fr,h3,c,h',sr.mono f1,hr1,by simpa using e,λH' r' y1 y2=>q H' r' y1 (f1.trans y2)⟩
 .rw[Ev.oR g.nz _ kc]at e;cases e
def eg{st:S}{ss:Ss}{x:Stmt}{xs:List Stmt}(h1:JS G n sc N df m st x)(k1:uC G cl cz rz su n sc N df m st x)(ks:iI G cl cz rz su n sc N df m ss xs):iI G cl cz rz su n sc N df m (.cons st ss) (x :: xs):=λX Ex g pins s σ H Q I q=>by
 obtain⟨r,fr,hh,c,h',sr,hr,e,q⟩:=q;simp only[Ev.xss]at e;split at e
 .rename_i af h3 ey;exact jy (PS.dB (h1 X.dB g.g)) (ks X Ex g) pins s σ H Q I ⟨r,fr,hh,.nx,af,h3,sr,hr,ey,λs1 H1 r1 J2 hr1 f1=>⟨r1,af,h3,c,h',J2,hr1,e,λH' r' y1 y2=>q H' r' y1 (f1.trans y2)⟩⟩
 .cases e
 .exact jy (k1 X Ex g) (ks X Ex g) pins s σ H Q I ⟨r,fr,hh,c,h',sr,hr,e,q⟩
def Hl{c:Nat}{x t:Str}{np cp p1 pos:Pos}{j:Nat}(hx:(x,c)∈cz:=by decide +kernel)(h:lN sc x=true:=by decide +kernel):uC G cl cz rz su n sc N df m (.eO c) (.Raise (some (.Call (.Name x np) [.Constant (.str t) j p1] [] cp)) none pos):=λX Ex g pins s σ H Q I q=>by
 obtain⟨r,fr,hh,c',h',sr,hr,e,q⟩:=q;simp only[Ev.xs]at e;cases e;unfold lN at h;simp only[gV,V1]at h;have hg:Gl X x:=g.g.gl (by simpa using h.1);obtain⟨hm,nm,qn,Nn,bs,bm,hdct,sn,sub,ab,col,dd,k0,k1,k2,k3,k5,lk,hb,hN⟩:=g.cs x _ hx;have qE:=q H r hr .refl;obtain⟨mN,n1,n2,n3⟩:=hN s.heap I.jb;refine wpAny_Raise_call_subT (nm:=nm) (q:=qn) (N:=Nn) (bs:=bs) (hdct:=hdct) (sn:=sn) (sub:=sub) (ab:=ab) (col:=col) (dd:=dd) (k0:=k0) (k1:=k1) (k2:=k2) (k3:=k3) (k5:=k5) PySem.F.excBase_ValueError hb g.g.room.hd rfl n2 (qG I hg hm ⟨rfl,?_⟩ h.2);refine Calls.evalArgs_plain ?_;show wpAny _ _ (spliced ((false,eval (.Constant (.str t) j p1) X.env) :: [])) _ _ _;refine WZ (Calls.Constant_str (Xb ⟨rfl,by show 1<=sizeLine;decide,I.jb _ _ lk,n1,n3,λh1 e mk=>?_⟩));exact g.md pins σ H { s with toks:=s.toks+1 } h1 e _ _ (I.tok _) mk qE
section
variable{P:Program}{w:World}{K:PySem.W.Frag}{mg:Str->Option Value}{base:Heap}
noncomputable def kX(P:Program)(w:World)(K:PySem.W.Frag)(mg:Str->Option Value)(base:Heap)(G:Tb)(cl:Nat->Addr)(su:List Nat)(n:Nat):Prop:=∀(f:Nat) i,G.fi[f]?=some i->su.contains f=true->fK P w K mg base (uv P w) n i.addr i.fd i.ps (uA K cl G.F G.w n f)
def A8{f:Addr}{fd:FuncData}{ps:List Str}{k:Nat}(z:∀ds h,Ev.bS G.F G.w n k ds h=none):fK P w K mg base (uv P w) n f fd ps (uA K cl G.F G.w n k):=by
 have no:∀vs H Q E,¬ uA K cl G.F G.w n k vs H Q E:=λvs H Q E h=>by
  obtain⟨r,h,ds,c,h',_,_,e,_⟩:=h;rw[z]at e;cases e
 exact⟨λvs H Q E h=>absurd h (no vs H Q E),λA outer s H args us vs Q E _ _ _ _ h=>absurd h (no vs H Q E)⟩
def mQ{x qual:Str}{st:Stmt}{i:FI}{N:List Str}{f:Nat}{fn:Ev.Fn}(T:Top P w K mg G)(A0:nE P w K mg base G n)(A1:kX P w K mg base G cl su n)(hz:Ev.nZ rz 0 G.F=true)(hc:∀x c,(x,c)∈cz->mg x=some (.ref (cl c))/\A6 K (cl c))
  (F:mC K x qual st i.addr i.fd) (S:bG N i.ps (aB st)) (hf:G.F[f]?=some fn) (hp:i.ps.length=fn.np)
  (hb:iI G cl cz rz su n (aB st) N true (List.range N.length) fn.body (cE st)):fK P w K mg base (uv P w) (n+1) i.addr i.fd i.ps (uA K cl G.F G.w (n+1) f):=by
 have hlen:∀vs H Q E,uA K cl G.F G.w (n+1) f vs H Q E->vs.length=i.ps.length:=λvs H Q E h=>by
  obtain⟨r,h,ds,c,h',v1,_,e,_⟩:=h;simp only[Ev.g9,hf]at e;split at e
  .rename_i z;rw[v1.length,z,hp]
  .cases e
 obtain⟨oc,od,kV,doc,pm,an,cdv,ct,osl,e0,lk,hcd⟩:=F.ex;rw[e0]at lk ⊢;refine EC lk hcd S hlen λA outer s H vs Q Ex hr g6=>?_;have hl:=hlen vs H Q Ex g6;have hN:vs.length<=N.length:=by
  have:=Vw List.length S.pre;rw[VM]at this;omega
 have g:Good G n (aB st) N true (iW (uv P w) P w K mg base N qual (aB st) i.addr cdv A outer s H Ex).dB:=
  ⟨rfl,rfl,rfl,λ_ _=>rfl,hr,rfl,λf i hi=>⟨(T.fn f i hi).1,(T.fn f i hi).2.1,(T.fn f i hi).2.2,A0 f i hi⟩,T.bl,T.cs,T.dk⟩
 have gx:GX G cl cz rz su n (aB st) N true Ex (iW (uv P w) P w K mg base N qual (aB st) i.addr cdv A outer s H Ex):=
  ⟨g,PassesOwn.leaving,λpins σ H1 s1 e s' I ⟨a,C,H',h1,fl,q⟩=>by
    subst h1;exact CS rfl rfl rfl I fl λs'' uy=>⟨a,C,H',rfl,uy,q⟩,
   λpins σ H1 s1 h1 e C args I mk q=>yU rfl rfl rfl I mk λs'' uy=>⟨e,C,H1,rfl,uy,q⟩,A1,Ev.wA hz G.w n,hc
   ⟩
 refine⟨_,hb _ Ex gx,?_⟩;obtain⟨r,h,ds,c,h',v1,hr1,e,q⟩:=g6;simp only[Ev.g9,hf]at e;split at e
 .exact⟨r,Ev.dJ fn ds,h,c,h',oU v1 hN,hr1,e,q⟩
 .cases e
def xj{H H':Hp}{r:List Addr}{h:Hh}(k:∀b o,H b=some o->H' b=some o):Fm K r r H H'/\(HR K H r h->HR K H' r h):=by
 have f:Fm K r r H H':=⟨λ_ _ e=>e,λ_ e=>.inl e,λa o e _=>k a o e,λa vs e=>by
  rcases e with (e|⟨ob,e⟩)|e
  .exact .inl (.inl (k _ _ e))
  .exact .inl (.inr ⟨ob,k _ _ e⟩)
  .exact .inr e⟩
 refine⟨f,λhr=>⟨hr.len,λn o e=>?_,hr.inj
  ⟩⟩
 obtain⟨a,e1,q⟩:=hr.ob n o e;exact⟨a,e1,q.mono f (λ_ _ _ z=>k _ _ z) (λ_ _ z=>k _ _ z)
  ⟩
def K7{F:List Ev.Fn}{w n f:Nat}{ds:List D}{h h':Hh}{d:D}(hF:F.length<=1000)(e:Ev.run F w n (f+Ev.xo) ds h=.ok d h'):∃c:Nat,d=.int c/\Ev.bS F w n f ds h=some (c,h'):=by
 cases n with
 |zero=>cases e
 |succ n=>
  rw[Ev.fP,VG (by show F.length<=f+1000;omega)]at e;simp only[Ev.lK]at e;rw[cS (YX _ _),XD]at e;split at e
  .rename_i c h2 z;cases e;exact⟨c,rfl,z⟩
  .cases e
theorem qY{base:Heap}(st:∀n,nE P w K mg base G n->kX P w K mg base G cl su n->nE P w K mg base G (n+1)/\kX P w K mg base G cl su (n+1)):∀n,nE P w K mg base G n/\kX P w K mg base G cl su n
 |0=>⟨λf i _=>GN,λf i _ _=>A8 λ_ _=>rfl⟩
 |n+1=>st n (qY st n).1 (qY st n).2
end
end
end Sm
namespace Sm
open PySem PySem.Spec PyProof.Rows L2 PySem.W
noncomputable def uF(K:PySem.W.Frag)(N:Addr):Bool:=nsOkIn K N&&quietNames.all λn=>nsIn K N n==some none
noncomputable def K8(K:PySem.W.Frag)(C Wc:Addr):Bool:=
 findIn K (.ref C) "__getattribute__" ==some (some (.builtin "BaseException.__getattribute__"))&&findIn K (.ref C) "__getattr__" ==some none&&findIn K (.ref C) "__class__" ==some (some (.builtin "object.__class__"))
 &&subIn K (.ref C) (.type "object")==some true&&kitCls K (.ref C) (.ref C)==some true
 &&kitOne K (.ref C) (.ref C)==some true&&kitOne K (.ref C) (.type "ValueError")==some true&&exmOne K (.ref C) (.ref Wc)==some true
structure K9(K:PySem.W.Frag)(x:Str)(C Wc:Addr):Prop where
 ns:nsIn K mainGlobals x=some (some (.ref C))
 rs:A6 K C
 cs:E5 K C C 0
 em:exmOne K (.ref C) (.ref Wc)=some true
def uF.ns{K:PySem.W.Frag}{N:Addr}{h:Heap}(q:uF K N=true)(cZ:K.In h):∃m,h.Ns N m/\∀n∈quietNames,m n=none:=by
 unfold uF at q;rw[gV]at q;have hn:=Heap.Ns.of_isNs (isNs_of_in cZ q.1);exact⟨_,hn,λn hn'=>nsMap_none_of_in cZ q.1 (beq_iff_eq.mp (List.all_eq_true.mp q.2 n hn'))⟩
def Ho{K:PySem.W.Frag}{x:Str}{C Wc N:Addr}{nm q:Str}{bs:List Value}{hdct:Bool}{sn:List Str}{sub:List Value}{ab:Bool}{col:Option Bool}{dd T5:Option Addr}{k0 k1 k2 k3 k5:Option Value}{c0:Value}{cd:ClassData}{sl:Array (Option Value)}
  (a:nsIn K mainGlobals x=some (some (.ref C))) (l:K.lookup C=some (excClassObj nm q C N bs (.ref Wc :: Fj) hdct sn sub ab col dd k0 k1 k2 k3 k5 "ValueError.__new__")) (lw:K.lookup Wc=some ⟨c0,T5,.cls cd,sl⟩) (n:uF K N=true) (nw:uF K cd.ns=true) (f:K8 K C Wc=true):K9 K x C Wc:=by
 unfold K8 at f;simp only[gV,XS]at f;obtain⟨⟨⟨⟨⟨⟨⟨f1,f2⟩,f3⟩,f4⟩,f5⟩,f6⟩,f7⟩,f8⟩:=f;have tq:∀h:Heap,K.In h->OwnTailQ h Fj (.ref Wc :: Fj):=λh cZ=>by
  obtain⟨m,h1,h2⟩:=uF.ns nw cZ;exact .own (cZ _ _ lw) h1 h2 .base
 refine⟨a,⟨_,_,_,_,_,_,_,_,_,_,_,_,_,_,_,_,l,rfl,λh cZ=>?_⟩,⟨⟨⟨_,_,_,_,_,_,_,_,_,_,_,_,_,_,_,_,_,l,tq⟩,f1,f2,f3,f4,f5⟩,f6,f7,rfl⟩,f8⟩;obtain⟨m,h1,h2⟩:=uF.ns n cZ;exact⟨m,h1,h2 _ (by simp[quietNames]),(tq h cZ).tail⟩
end Sm
namespace Sm
open PySem PySem.Spec PyProof.Rows L2
open Ev (D O Hh Fr R aF E Es Eo It T S Ss Fl Src aU aR TY BI ME)
theorem PG.dB{X:Cx}{e:Expr}{t:TG}(h:PG X.dB e t):PG X e t:=λpins s σ H v u Q I r q=>
 Vx (h pins s σ H v u Q (I.gr _) r q) (λ_ _ ⟨σ',H',I',q⟩=>⟨σ',H',I'.dW,q⟩) λ_ _ z=>False.elim z
theorem v9.dW{X:Cx}{pins:List (Addr×Obj)}{σ:L2.St}{tg:Expr}{R:L2.It->Hp->Prop}{itv:Value}{s:Shared}(h:v9 X.dB pins σ tg R itv s):v9 X pins σ tg R itv s:=by
 obtain⟨it,J,fp,tn,H',e,I,x⟩:=h;exact⟨it,J,fp,tn,H',e,I.dW,x⟩
theorem PI.dB{X:Cx}{tg iter:Expr}{wi:TI}(h:PI X.dB tg iter wi):PI X tg iter wi:=λpins s σ H Rr I hw=>
 Vx (h pins s σ H Rr (I.gr _) hw) (λv s1 q=>Vx q (λ_ _ y=>v9.dW y) λ_ _ z=>False.elim z) λ_ _ z=>False.elim z
section
variable{G:Tb}{cl:Nat->Addr}{cz:List (Str×Nat)}{rz su:List Nat}{n:Nat}{sc:Scope}{N:List Str}{df:Bool}{m:List Nat}{xa tg:Expr}{pos:Pos}
noncomputable def Qc(X:Cx)(cl:Nat->Addr)(m:List Nat)(Ex:XK)(G:Tb)(n:Nat)(tb:Ss):TS:=λD s H=>iY X.K m (Ev.run G.F G.w n) G.w tb D s H\/tX X.K cl m Ex (Ev.xss (Ev.run G.F G.w n) (Ev.bS G.F G.w n) G.w tb) s H
def CV{X:Cx}{Ex:XK}{tb:Ss}{yb:List Stmt}(g:GX G cl cz rz su n sc N df Ex X)(h1:ku G n sc N df m tb yb)(k1:iI G cl cz rz su n sc N df m tb yb):eY X yb (Qc X cl m Ex G n tb):=λpins s σ H D I q=>by
 rcases q with q|q
 .exact eY.dB (h1 X.dB g.g) pins s σ H D I q
 .exact k1 X Ex g pins s σ H D I q
def Hq{t:T}{it:Ev.It}{tb:Ss}{yb:List Stmt}(hi:JI G n sc N df m it tg xa)(hg:JG G n sc N df m t tg)(h1:ku G n sc N df m tb yb)(k1:iI G cl cz rz su n sc N df m tb yb)(hs:∀(env:Env) x,foldedSetIterable xa env x=pure x:=by intro _ _;rfl) :
  uC G cl cz rz su n sc N df m (.for t it tb) (.For tg xa yb [] pos):=λX Ex g pins s σ H Q I q=>by
 obtain⟨r,fr,hh,c,h',sr,hr,e,q⟩:=q;simp only[Ev.xs]at e;split at e
 case h_2=>cases e
 rename_i src h2 e1;refine Ac g.own g.g.calm (PI.dB (hi X.dB g.g)) (PG.dB (hg X.dB g.g)) (CV g h1 k1) (hs _) pins s σ H Q I ⟨r,fr,hh,src,h2,sr,hr,e1,λJ H1 r1 hr1 f1 hJ=>⟨λi k s3 H3=>k=src.1.length - i/\i<=src.1.length/\∃r3 bf h3,SR X.K m H3 r3 bf s3/\HR X.K H3 r3 h3/\Fm X.K r1 r3 H1 H3/\Ev.cX (jZ (Ev.run G.F G.w n) G.w t tb) (λd aq h2=>match Ev.bw t d aq with|some bf=>Ev.xss (Ev.run G.F G.w n) (Ev.bS G.F G.w n) G.w tb bf h2|none=>none) src.2 (src.1.drop i) bf h3=some (c,h'),
  ⟨src.1.length,rfl,Wm _,r1,fr,h2,sr.mono f1,hr1,.refl,by rw[Xx];exact e⟩,λi k s3 H3 hW=>?_⟩⟩
 obtain⟨rfl,hle,r3,bf,h3,t9,mK,f3,e3⟩:=hW;rcases XY i src.1.length with hlt|hge
 .rw[Wy hlt]at e3;simp only[Ev.cX]at e3;split at e3
  case isFalse=>cases e3
  rename_i hst;obtain⟨g1,g2⟩:=(hJ i H3 r3 h3 mK f3 hst).1 src.1[i] (xZ hlt);have go:∀{fk:Fl} {fY:Fr} {h4:Hh},(fk=.nx\/fk=.ct)->jZ (Ev.run G.F G.w n) G.w t tb src.1[i] bf h3=.ok (fk,fY) h4->Ev.cX (jZ (Ev.run G.F G.w n) G.w t tb) (λd aq h2=>match Ev.bw t d aq with|some bf=>Ev.xss (Ev.run G.F G.w n) (Ev.bS G.F G.w n) G.w tb bf h2|none=>none) src.2 (src.1.drop (i+1)) fY h4=some (c,h')->
    (J.stop i H3/\Q.nx s3 H3)\/(J.go i H3/\∃Nn:L2.St->Hp->Prop,(∀σ' H',Nn σ' H'->∃m',m'<src.1.length - i/\(m'=src.1.length - (i+1)/\i+1<=src.1.length/\∃r3 bf h3,SR X.K m H' r3 bf σ'/\HR X.K H' r3 h3/\Fm X.K r1 r3 H1 H'/\Ev.cX (jZ (Ev.run G.F G.w n) G.w t tb) (λd aq h2=>match Ev.bw t d aq with|some bf=>Ev.xss (Ev.run G.F G.w n) (Ev.bS G.F G.w n) G.w tb bf h2|none=>none) src.2 (src.1.drop (i+1)) bf h3=some (c,h')))/\∀x H',J.z8 i H3 x H'->gJ X.K m t x s3 H' λσ2 H2=>Qc X cl m Ex G n tb { Q with nx:=Nn,ct:=Nn,bk:=Q.nx } σ2 H2):=λ{fk fY h4} hfl e4 e5=>by
   unfold jZ at e4;split at e4
   .rename_i jL e6;refine .inr ⟨g1,λs' H'=>∃r',SR X.K m H' r' fY s'/\HR X.K H' r' h4/\Fm X.K r1 r' H1 H',λs' H' ⟨r',z1,z2,z3⟩=>⟨_,Xu hlt (WE i),rfl,hlt,r',fY,h4,z1,z2,z3,e5⟩,λx H4 y=>?_⟩;obtain⟨r4,v4,oh,f4⟩:=g2 x H4 y;refine⟨r4,bf,h3,_,jL,t9.mono f4,oh,v4,e6,λs5 pT=>.inl ⟨r4,jL,h3,fk,fY,h4,pT,oh,e4,?_⟩⟩;rcases hfl with rfl|rfl
    .exact λs' H' r' z1 z2 z3=>⟨r',z1,z2,(f3.trans f4).trans z3⟩
    .exact λs' H' r' z1 z2 z3=>⟨r',z1,z2,(f3.trans f4).trans z3⟩
   .cases e4
  split at e3
  .rename_i e4;exact go (.inl rfl) e4 e3
  .rename_i e4;exact go (.inr rfl) e4 e3
  .cases e3
  .split at e3
   .rename_i jL e6;refine .inr ⟨g1,λ_ _=>False,λ_ _ z=>z.elim,λx H4 y=>?_⟩;obtain⟨r4,v4,oh,f4⟩:=g2 x H4 y;exact⟨r4,bf,h3,_,jL,t9.mono f4,oh,v4,e6,λs5 pT=>.inr ⟨r4,jL,h3,c,h',pT,oh,e3,λH' r' y1 y2=>q H' r' y1 ((f1.trans (f3.trans f4)).trans y2)⟩⟩
   .cases e3
 .have hi:i=src.1.length:=Yj hle hge;subst hi;rw[X7]at e3;cases e3
end
section
variable(G:Tb)(cl:Nat->Addr)(nc:Nat)(su:List Nat)(n:Nat)(sc:Scope)(N:List Str)
noncomputable def HX (X:Cx) (pins:List (Addr×Obj)) (σ:L2.St) (R:VK) (E':Value->Shared->Prop):Prop:=∀(H2:Hp) (s2:Shared) (a:Addr) (c:Nat) (H':Hp) (s':Shared),Inv X pins σ H2 s2->iG X.prog X.w X.stack H2 s2 a (cl c) H' s'->c<nc->(∀p kC,(∀b o,H' b=some o->kC b=some o)->kC p=some (.tup [.str "refused",.int c])->R (.ref p) kC)->E' (.ref a) s'
noncomputable def Qd(ss:Ss)(x:Expr):Prop:=∀X,Good G n sc N true X->kX X.prog X.w X.K X.mg X.base G cl su n->∀(pins:List (Addr×Obj)) (s:Shared) (σ:L2.St) (H:Hp) (D:Ends) (E':Value->Shared->Prop),Inv X pins σ H s->iY X.K (List.range N.length) (Ev.run G.F G.w n) G.w ss D σ H->HX cl nc X pins σ D.rt E'->wpAny (model X.prog X.w) X.A (eval x X.env) (EP X pins σ D.rt) E' s
noncomputable def TB(ss:Ss)(xs:List Stmt):Prop:=∀X,Good G n sc N true X->kX X.prog X.w X.K X.mg X.base G cl su n->∀(pins:List (Addr×Obj)) (s:Shared) (σ:L2.St) (H:Hp) (D:Ends) (E':Value->Shared->Prop),Inv X pins σ H s->iY X.K (List.range N.length) (Ev.run G.F G.w n) G.w ss D σ H->HX cl nc X pins σ D.rt E'->wpAny (model X.prog X.w) X.A (execs xs X.env) (λf s2=>∃u,f=.ret u/\EP X pins σ D.rt u s2) E' s
end
section
variable{G:Tb}{cl:Nat->Addr}{nc:Nat}{su:List Nat}{n:Nat}{sc:Scope}{N:List Str}{a:E}{xa:Expr}{pos:Pos}{ta:Ss}
def A9{cz:List (Str×Nat)}{rz:List Nat}{df:Bool}{m:List Nat}{f:Nat}{i:FI}{es:Es}{x:Str}{e0:Expr}{xs:List Expr}{p:Pos}(h:lN sc x=true)(hz:rz.contains f=false)(hf:G.fi[f]?=some i)(hx:i.name=x)(ks:A7 G cl cz rz su n sc N df m es (e0 :: xs))
  (hst:∀env:Env,starEach (e0 :: xs) env=(false,eval e0 env) :: starEach xs env:=by intro _;rfl) (hpl:∀env:Env,(backTo pos (starEach xs env)).any (·.1)=false:=by intro _;rfl) :
  uB G cl cz rz su n sc N df m (.cl f es) (.Call (.Name x p) (e0 :: xs) [] pos):=λX Ex g pins s σ H Q I q=>by
 subst hx;unfold lN at h;simp only[gV,V1]at h;obtain⟨h1,h2,h3,_⟩:=g.g.fn f i hf;have hg:Gl X i.name:=g.g.gl (by simpa using h.1);obtain⟨r,fr,hh,c,h',sr,hr,e,q⟩:=q;simp only[Ev.xe]at e;split at e
 .rw[g.nz f hz]at e;cases e
 .exact nA (X:=X) (A8 (cl:=cl) (g.nz f hz)) g.g.room hg h1 h2 h3 .nil g.ps (ks X Ex g) h.2 (hst _) (hpl _) pins s σ H Q I ⟨r,fr,hh,c,h',sr,hr,e,q⟩
def La(h:Qd G cl nc su n sc N ta xa):TB G cl nc su n sc N ta [.Return (some xa) pos]:=λX g A1 pins s σ H D E' I q hx=>
 Xh (XM (bU (h X g A1 pins s σ H D E' I q hx) λu s1 z=>⟨u,rfl,z⟩))
section
variable{P:Program}{w:World}{K:PySem.W.Frag}{mg:Str->Option Value}{base:Heap}
def CW{x qual:Str}{st:Stmt}{i:FI}{N:List Str}{ft:Nat}{fn:Ev.Fn}{bs:List Stmt}{p1 p2 p3 p4 p5 p6 p7:Pos}{rf Wc:Addr}{KC:Addr->Nat->Prop}{rd:FuncData}{sJ:Stmt}{ix:Nat}(T:Top P w K mg G)(A0:nE P w K mg base G n)(A1:kX P w K mg base G cl su n)
  (R:CU K mg rf rd sJ Wc KC) (kc:∀c,c<nc->KC (cl c) c/\PySem.W.exmOne K (.ref (cl c)) (.ref Wc)=some true)
  (F:mC K x qual st i.addr i.fd) (S:bG N i.ps (aB st)) (Qe:G.F[ft]?=some fn) (hp:i.ps.length=fn.np)
  (hst:cE st=[.Try bs [.ExceptHandler (some (.Name "WayError" p1)) (some "_law_e") [.Return (some (.Call (.Name "_law_refused" p2) [.Name "_law_e" p3] [] p4)) p5] p6] [] [] p7])
  (hb:TB G cl nc su n (aB st) N fn.body bs) (h1:N[ix]?=some ("_law_e" : Str)) (h2:(aB st).names.lookup ("_law_e" : Str)=some .local) (h3:(aB st).names.lookup ("_law_refused" : Str)=some .globalImplicit) (h4:(aB st).names.lookup ("WayError" : Str)=some .globalImplicit) :
  fK P w K mg base jd (n+1) i.addr i.fd i.ps (ko K G.F G.w (n+1) ft):=by
 have hlen:∀vs H Q E,ko K G.F G.w (n+1) ft vs H Q E->vs.length=i.ps.length:=λvs H Q E h=>by
  obtain⟨r,h,ds,d,h',v1,_,e,_⟩:=h;simp only[Ev.fP,Qe]at e;split at e
  .rename_i z;rw[v1.length,z,hp]
  .cases e
 refine F.ok S hlen λcdv A outer s H vs Q Ex hr g6=>?_;have hl:=hlen vs H Q Ex g6;have hN:vs.length<=N.length:=by
  have:=Vw List.length S.pre;rw[VM]at this;omega
 generalize hX:(iW jd P w K mg base N qual (aB st) i.addr cdv A outer s H Ex).dB=X
 have g:Good G n (aB st) N true X:=by
  rw[<-hX];exact⟨rfl,rfl,rfl,λ_ _=>rfl,hr,rfl,λf i hi=>⟨(T.fn f i hi).1,(T.fn f i hi).2.1,(T.fn f i hi).2.2,A0 f i hi⟩,T.bl,T.cs,T.dk⟩
 have T6:X.stack=X.env :: X.outer:=by rw[<-hX];rfl
 have xf:X.env.frame=some X.env.locals:=by rw[<-hX];rfl
 have xK:X.K=K:=by rw[<-hX];rfl
 have xm:X.mg=mg:=by rw[<-hX];rfl
 have F1:kX X.prog X.w X.K X.mg X.base G cl su n:=by rw[<-hX];exact A1
 refine⟨iY X.K (List.range N.length) (Ev.run G.F G.w n) G.w fn.body,?_,?_⟩
 .rw[hst];refine eY.of (v5 (t:=iY X.K (List.range N.length) (Ev.run G.F G.w n) G.w fn.body) λpins s1 σ1 H1 D I q=>?_) λQ s H q=>q;refine wpAny_Try_except ?_;refine Vx (hb X g F1 pins s1 σ1 H1 D _ I q λH2 s2 a c H' s' I2 fl c4 q2=>?_) (λf s2 ⟨u,e,v,H',z1,z2,z3⟩=>?_) λ_ _ z=>z
  .obtain⟨k1,k2⟩:=kc c c4;exact K6 (i:=ix) (c:=c) (by rw[xK,xm];exact R) k1 (by rw[xK];exact k2) T6 xf g.room.depth (by rw[g.nm];exact S.nd) (by rw[g.nm];exact h1) (by rw[g.sc];exact h2) (g.gl h3) (g.gl h4) I2 fl q2
  .subst e;exact⟨v,σ1,H',z1,z2,z3⟩
 .obtain⟨r,h,ds,d,h',v1,hr1,e,q⟩:=g6;simp only[Ev.fP,Qe]at e;split at e
  .unfold Ev.endOf at e;obtain⟨⟨fl,ai⟩,h2,e1,e⟩:=Ev.ah e;refine⟨r,Ev.dJ fn ds,h,fl,ai,h2,by rw[xK];exact oU v1 hN,by rw[xK];exact hr1,e1,?_⟩;rw[xK];cases fl with
   |nx=>
    cases e;exact λs' H' r' _ hr' f'=>q _ H' r' rfl hr' f'
   |ret d'=>
    cases e;exact q
   |bk=>cases e
   |ct=>cases e
  .cases e
end
end
section
variable{G:Tb}{cl:Nat->Addr}{nc:Nat}{su:List Nat}{n:Nat}{sc:Scope}{N:List Str}
def o9{f:Nat}{j:FI}{es:Es}{e0:Expr}{xs:List Expr}{cp:Pos}(hG:G.F.length<=1000)(hj:G.fi[f]?=some j)(T7:su.contains f=true)(hs:JA G n sc N true (List.range N.length) es (e0 :: xs))
  (se:∀env:Env,starEach (e0 :: xs) env=(false,eval e0 env) :: starEach xs env) (sp:∀env:Env,(backTo cp (starEach xs env)).any (·.1)=false)
  {X:Cx} (g:Good G n sc N true X) (A1:kX X.prog X.w X.K X.mg X.base G cl su n) {pins:List (Addr×Obj)} {s1:Shared} {σ1:L2.St} {H1:Hp} {D:Ends} {E':Value->Shared->Prop} (I:Inv X pins σ1 H1 s1) (q:iY X.K (List.range N.length) (Ev.run G.F G.w n) G.w (.cons (.tr f nc es) .nil) D σ1 H1) (hx':HX cl nc X pins σ1 D.rt E') :
  wpAny (model X.prog X.w) X.A (callWith cp (.ref j.addr) [] (backTo cp (starEach (e0 :: xs) X.env)) []) (EP X pins σ1 D.rt) E' s1:=by
 obtain⟨r,fr,h,fl,ai,h',sr,hr',e,q⟩:=q;simp only[Ev.exs,Ev.ex]at e;obtain⟨⟨fk,af⟩,h2',e2,e⟩:=Ev.ah e;obtain⟨ds,h3',e3,e2⟩:=Ev.ah e2;obtain⟨y,UG,e4,e2⟩:=Ev.ah e2;cases e2;cases e;obtain⟨g1,g2,g3,g4⟩:=g.fn f j hj;cases ey:Ev.run G.F G.w n f ds h3' with
 |ok d hd=>
  rw[ey]at e4;obtain⟨rfl,rfl⟩:d=y/\hd=h':=by simpa[Ev.tryD]using e4
  refine XA (h₀:=X.base) I.ok.mod.cZ g2 (Vx (hs X g cp pins s1 σ1 H1 (λvs H2=>ko X.K G.F G.w n f vs H2 D.rt (λ_ _ _=>False)) I ⟨r,fr,h,ds,h3',sr,hr',e3,λvs H2 r2 v2 hr2 f2=>⟨r2,h3',ds,d,_,v2,hr2,ey,λv H' r' y0 y1 y2=>q v H' r' y0 y1 (f2.trans y2)⟩⟩) (λus s2 ⟨vs,H2,I2,rv,q2⟩=>⟨I2.jb,?_⟩) (λ_ _ z=>by rw[g.xe]at z;exact z.elim)) (se _) (sp _);exact Vx (Af (jc:=[]) (ds:=[]) g4 g.room g3 .nil (λ_ _ _ _ _ _ _ z=>z.elim) I2 rv (by rw[Ux];exact q2)) (λ_ _ z=>z) (λ_ _ z=>by rw[g.xe]at z;exact z.elim)
 |bad=>
  rw[ey]at e4;simp only[Ev.tryD]at e4;obtain⟨dc,UH,e5,e4⟩:=Ev.ah e4;obtain⟨c,rfl,ex⟩:=K7 hG e5;obtain⟨e6,e7⟩:=Ev.aL e4;subst e7;simp only[Ev.Cr]at e6;split at e6
  case isFalse=>cases e6
  rename_i hc4;cases e6;have c4:c<nc:=by omega
  have F:=A1 f j hj T7;refine XA (h₀:=X.base) I.ok.mod.cZ g2 (Vx (hs X g cp pins s1 σ1 H1 (λvs H2=>uA X.K cl G.F G.w n f vs H2 (λ_ _=>False) λv _ H'=>v=.ref (cl c)/\∃r',HR X.K H' r' h'/\Fm X.K r r' H1 H') I ⟨r,fr,h,ds,h3',sr,hr',e3,λvs H2 r2 v2 hr2 f2=>⟨r2,h3',ds,c,h',v2,hr2,ex,λH' r' y1 y2=>⟨rfl,r',y1,f2.trans y2⟩⟩⟩) (λus s2 ⟨vs,H2,I2,rv,q2⟩=>⟨I2.jb,?_⟩) (λ_ _ z=>by rw[g.xe]at z;exact z.elim)) (se _) (sp _);have hl:us.length=j.ps.length:=by rw[<-rv.length];exact F.len _ _ _ _ q2
  have hb1:=g3 s2 us I2.jb (by rw[Ux];exact hl);rw[Ux]at hb1;refine Xi (Wo (F.run X.A X.stack s2 H2 ⟨us,[]⟩ us vs _ _ g.room I2.jW hb1 rv q2) λres s' hq=>?_);cases res with
  |error e=>
   obtain⟨a,C,H',rfl,fl,hC,r',mK,f3⟩:=hq;cases hC;refine hx' H2 s2 a c H' s' I2 fl c4 λp kC m1 m2=>?_;obtain⟨f4,oh⟩:=xj (K:=X.K) (r:=r') (h:=h') m1;exact q _ kC r' ⟨p,[.str "refused",.int c],rfl,.of m2,⟨_,_,rfl,⟨by decide +kernel,by decide⟩,⟨_,_,rfl,rfl,rfl⟩⟩⟩ (oh mK) (f3.trans f4)
  |ok fl=>
   cases fl with
   |ret u=>obtain⟨v,H',_,_,_,_,_,z⟩:=hq;exact z.elim
   |next=>exact hq.elim
   |brk=>exact hq.elim
   |cont=>exact hq.elim
@[reducible] noncomputable def pk(iw:Nat)(k:Int):E:=.cmp .eq (.bin .add (.v iw) (.c (.int 0))) (.c (.int k))
@[reducible] noncomputable def Fp(iw f0 f1 f2 nc:Nat)(es:Es):Ss:=.cons (.iff (pk iw 0) (.cons (.tr f0 nc es) .nil) (.cons (.iff (pk iw 1) (.cons (.tr f1 nc es) .nil) (.cons (.iff (pk iw 2) (.cons (.tr f2 nc es) .nil) (.cons (.ret (.ix (.c (.str [])) (.c (.int 0)))) .nil)) .nil)) .nil)) .nil
def eq_int{P:aF}{iw:Nat}{k:Int}{fr:Fr}{h h2:Hh}{b:Bool}(e:Ev.aJ P (pk iw k) fr h=.ok b h2):h2=h/\∃i:Int,fr[iw]?=some (some (.int i))/\b=decide (i=k):=by
 simp only[Ev.aJ,Ev.ev]at e;obtain⟨d,h1,e1,e9⟩:=Ev.ah e;obtain⟨y,h3,e2,e3⟩:=Ev.ah e1;simp only[Ev.ao]at e3;obtain⟨e4,y0⟩:=Ev.aL e3;obtain⟨e5,y1⟩:=Ev.aL e9;subst y0;subst y1;obtain⟨b',e6,rfl⟩:=Option.map_eq_some_iff.mp e4;simp only[Ev.truthy,YK]at e5;subst e5;obtain⟨x,h4,Kf,Fq⟩:=Ev.ah e2;simp only[Ev.ao]at Fq;obtain⟨e7,y2⟩:=Ev.aL Kf;subst y2;have hx:∃i,x=.int i/\y=.int i/\h2=h4:=by
  cases x<;>simp only[Ev.bH]at Fq
  all_goals first
   | (cases Fq;done)
   | (cases Fq;exact⟨_,rfl,by simp,rfl⟩)
 obtain⟨i,rfl,rfl,rfl⟩:=hx;refine⟨rfl,i,?_,?_⟩
 .cases hz:fr[iw]? with
  |none=>rw[hz]at e7;cases e7
  |some o=>rw[hz]at e7;exact Vw some e7
 .have e6:some (i==k)=some b':=e6;cases e6;by_cases q:i=k<;>simp[q]
def mR{P:aF}{w:Nat}{a:E}{ta tb:Ss}{fr ai:Fr}{h h':Hh}{fl:Fl}(e:Ev.exs P w (.cons (.iff a ta tb) .nil) fr h=.ok (fl,ai) h'):∃k h3,Ev.aJ P a fr h=.ok k h3/\Ev.exs P w (if k then ta else tb) fr h3=.ok (fl,ai) h':=by
 simp only[Ev.exs,Ev.ex]at e;obtain⟨⟨fk,af⟩,h2,e2,e⟩:=Ev.ah e;obtain⟨k,h3,e1,e2⟩:=Ev.ah e2;refine⟨k,h3,e1,?_⟩;have:(.ok (fk,af) h2:R (Fl×Fr))=.ok (fl,ai) h':=by cases fk<;>exact e
 rw[<-this];cases k<;>simpa using e2
def CY{K:PySem.W.Frag}{m:List Nat}{P:aF}{w:Nat}{D:Ends}{σ:L2.St}{H:Hp}{iw f0 f1 f2 nc:Nat}{es:Es}(q:iY K m P w (Fp iw f0 f1 f2 nc es) D σ H) :
  ∃(i:Nat) (r:List Addr) (fr:Fr) (h:Hh),i<3/\SR K m H r fr σ/\HR K H r h/\fr[iw]?=some (some (.int i))/\∀H',(∀b o,H b=some o->H' b=some o)->iY K m P w (.cons (.tr (if i=0 then f0 else if i=1 then f1 else f2) nc es) .nil) D σ H':=by
 obtain⟨r,fr,h,fl,ai,h',sr,hr,e,q⟩:=q;have back:∀{f:Nat},Ev.exs P w (.cons (.tr f nc es) .nil) fr h=.ok (fl,ai) h'->∀H',(∀b o,H b=some o->H' b=some o)->iY K m P w (.cons (.tr f nc es) .nil) D σ H':=λ{f} e H' k=>by
  obtain⟨f1,f2⟩:=xj (K:=K) (r:=r) (h:=h) k;exact⟨r,fr,h,fl,ai,h',sr.mono f1,f2 hr,e,q.later f1⟩
 obtain⟨k0,h3,e0,e⟩:=mR e;obtain⟨rfl,i,hi,rfl⟩:=eq_int e0;by_cases q0:i=0
 .rw[VJ q0,cS rfl]at e;exact⟨0,r,fr,h3,by decide,sr,hr,by rw[hi,q0];rfl,by rw[cS rfl];exact back e⟩
 .rw[Vy q0,Qm (by decide)]at e;obtain⟨k1,h4,e1,e⟩:=mR e;obtain⟨rfl,i1,hi1,rfl⟩:=eq_int e1;rw[hi]at hi1;cases hi1;by_cases q1:i=1
  .rw[VJ q1,cS rfl]at e;exact⟨1,r,fr,h4,by decide,sr,hr,by rw[hi,q1];rfl,by rw[Qm (by decide),cS rfl];exact back e⟩
  .rw[Vy q1,Qm (by decide)]at e;obtain⟨k2,h5,e2,e⟩:=mR e;obtain⟨rfl,i2,hi2,rfl⟩:=eq_int e2;rw[hi]at hi2;cases hi2;by_cases q2:i=2
   .rw[VJ q2,cS rfl]at e;exact⟨2,r,fr,h5,by decide,sr,hr,by rw[hi,q2];rfl,by rw[Qm (by decide),Qm (by decide)];exact back e⟩
   .rw[Vy q2,Qm (by decide)]at e;exfalso;simp only[Ev.exs,Ev.ex,Ev.ev,Ev.ao]at e;rw[show Ev.fW (.str []) (.int 0) h5=none from rfl]at e;cases e
def CZ{iw:Nat}{f0 f1 f2:Nat}{j0 j1 j2:FI}{es:Es}{x0 x1 x2 wy:Str}{e0:Expr}{xs:List Expr}{p0 p1 p2 p3 lp Qf cp:Pos}(hG:G.F.length<=1000)(h0:G.fi[f0]?=some j0)(h1:G.fi[f1]?=some j1)(h2:G.fi[f2]?=some j2)(n0:j0.name=x0)(n1:j1.name=x1)(n2:j2.name=x2)
  (c0:lN sc x0=true) (c1:lN sc x1=true) (c2:lN sc x2=true) (u0:su.contains f0=true) (u1:su.contains f1=true) (u2:su.contains f2=true) (hN:N[iw]?=some wy) (hv:sc.names.lookup wy=some .local) (hs:JA G n sc N true (List.range N.length) es (e0 :: xs))
  (se:∀env:Env,starEach (e0 :: xs) env=(false,eval e0 env) :: starEach xs env:=by intro _;rfl) (sp:∀env:Env,(backTo cp (starEach xs env)).any (·.1)=false:=by intro _;rfl)
  (hd:(wy==("__debug__" : Str))=false:=by decide) (hcd:(wy==("__classdict__" : Str))=false:=by decide) (hp:nB (.Name wy p3):=by intro _ _;rfl) (s3:∀env:Env,starEach [.Name x0 p0,.Name x1 p1,.Name x2 p2] env=[(false,eval (.Name x0 p0) env),(false,eval (.Name x1 p1) env),(false,eval (.Name x2 p2) env)]:=by intro _;rfl) (s2:∀env:Env,starEach [.Name x1 p1,.Name x2 p2] env=[(false,eval (.Name x1 p1) env),(false,eval (.Name x2 p2) env)]:=by intro _;rfl) (s1:∀env:Env,starEach [.Name x2 p2] env=[(false,eval (.Name x2 p2) env)]:=by intro _;rfl) :
  Qd G cl nc su n sc N (Fp iw f0 f1 f2 nc es) (.Call (.Subscript (.List [.Name x0 p0,.Name x1 p1,.Name x2 p2] lp) (.Name wy p3) Qf) (e0 :: xs) [] cp):=λX g A1 pins s σ H D E' I q hx'=>by
 subst n0;subst n1;subst n2;obtain⟨i,r,fr,h,hi,sr,hr,ew,q⟩:=CY q;obtain⟨g0,k0,_,_⟩:=g.fn f0 j0 h0;obtain⟨g1,k1,_,_⟩:=g.fn f1 j1 h1;obtain⟨g2,k2,_,_⟩:=g.fn f2 j2 h2;unfold lN at c0 c1 c2;simp only[gV,V1]at c0 c1 c2;have P0:PE X (.Name j0.name p0) (tC (.ref j0.addr)):=nv (g.gl (by simpa using c0.1)) g0 rfl c0.2;have P1:PE X (.Name j1.name p1) (tC (.ref j1.addr)):=nv (g.gl (by simpa using c1.1)) g1 rfl c1.2;have P2:PE X (.Name j2.name p2) (tC (.ref j2.addr)):=nv (g.gl (by simpa using c2.1)) g2 rfl c2.2;have PL:=tS (X:=X) (pos:=lp) (eL P0 (eL P1 (eL P2 kg (by rw[s1];rfl)) (by rw[s2,s1])) (by rw[s3,s2]));have PV:PE X (.Name wy p3) (B7 iw):=lV (by rw[g.nm];exact hN) (g.vis (.inl hv)) hd hcd;have hlt:iw<N.length:=(List.getElem?_eq_some_iff.mp hN).1;obtain⟨vw,w1,w2⟩:=sr.sl iw iw _ (by rw[WV hlt]) ew;obtain rfl:vw=.int i:=w2;have PS:=yw (X:=X) (pos:=Qf) wo PL PV hp;refine Call_ (Vx (PS pins s σ H (λv H1=>(∀b o,H b=some o->H1 b=some o)/\v=.ref (if i=0 then j0.addr else if i=1 then j1.addr else j2.addr)) I ?_) (λfv s1 ⟨v,H1,I1,rv,m1,ev⟩=>?_) λ_ _ z=>by rw[g.xe]at z;exact z.elim)
 .show(3<=sizeLine)/\_;refine⟨by decide,λp hp0=>?_⟩;have mo:∀b o,H b=some o->upd H p (.lst [.ref j0.addr,.ref j1.addr,.ref j2.addr]) b=some o:=λb o e=>by rw[bB (λz=>by rw[z,hp0]at e;cases e)];exact e
  refine⟨.int i,w1,p,[.ref j0.addr,.ref j1.addr,.ref j2.addr],i,.ref (if i=0 then j0.addr else if i=1 then j1.addr else j2.addr),rfl,rfl,.inl (.inl ez),?_,mo,rfl⟩
  match i,hi with
  |0,_=>rfl
  |1,_=>rfl
  |2,_=>rfl
  |i+3,hi=>omega
 .subst ev;obtain rfl:fv=.ref (if i=0 then j0.addr else if i=1 then j1.addr else j2.addr):=rv;have q':=q H1 m1
  match i,hi,q' with
  |0,_,q'=>exact o9 hG h0 u0 hs se sp g A1 I1 q' hx'
  |1,_,q'=>exact o9 hG h1 u1 hs se sp g A1 I1 q' hx'
  |2,_,q'=>exact o9 hG h2 u2 hs se sp g A1 I1 q' hx'
  |i+3,hi,_=>omega
end
end Sm
namespace Pv
open Ev (D aU aR TY BI ME T E Es Eo It S Ss Fn big deep b2i rep bE dg bz aN cut bO bu slots)
def nd{α:Type _}{a b:α}(h:a=b):a=b:=h
inductive V where
 |aG|bl (b:Bool)|int (i:Int)|str (s:List Nat)|tup (l:List V)|lst (l:List V)|bX (l:List V)
inductive Sl where
 |val (v:V)|own (l:List V)|bor (l:List V)|ro (l:List V)
abbrev Fr:=List (Option Sl)
inductive R(α:Type) where
 |ok (a:α) (fr:Fr)
 |bad
noncomputable def R.bind{α β:Type}(r:R α)(f:α->Fr->R β):R β:=
 match r with
 |.ok a h=>f a h
 |.bad=>.bad
@[simp] theorem ao{α β:Type}(a:α)(h:Fr)(f:α->Fr->R β):(R.ok a h).bind f=f a h:=nd rfl
@[simp] theorem Cp{α β:Type}(f:α->Fr->R β):(R.bad:R α).bind f=.bad:=nd rfl
def ah{α β:Type}{r:R α}{f:α->Fr->R β}{b:β}{h:Fr}(e:r.bind f=.ok b h):∃a h1,r=.ok a h1/\f a h1=.ok b h:=by
 cases r with
 |ok a h1=>exact⟨a,h1,rfl,e⟩
 |bad=>cases e
noncomputable def R.of{α:Type}(o:Option α)(h:Fr):R α:=match o with
 |some a=>.ok a h
 |none=>.bad
@[simp] theorem dG{α:Type}(a:α)(h:Fr):R.of (some a) h=.ok a h:=nd rfl
@[simp] theorem of_none{α:Type}(h:Fr):R.of (none:Option α) h=.bad:=nd rfl
def aL{α:Type}{o:Option α}{h h':Fr}{a:α}(e:R.of o h=.ok a h'):o=some a/\h'=h:=by
 cases o with
 |none=>cases e
 |some b=>cases e;exact⟨rfl,rfl⟩
inductive Fl where
 |nx|bk|ct|ret (v:V)
mutual
noncomputable def ofD:D->Option V
 |.aG=>some .aG
 |.bl b=>some (.bl b)
 |.int i=>some (.int i)
 |.str s=>some (.str s)
 |.tup ds=>(uG ds).map .tup
 |.ref _=>none
noncomputable def uG:List D->Option (List V)
 |[]=>some []
 |d :: ds=>(ofD d).bind λv=>(uG ds).map λvs=>v :: vs
end
noncomputable def cG(f:V->V->Option Bool):List V->List V->Option Bool
 |[],[]=>some true
 |x :: xs,y :: ys=>(f x y).bind λb=>(cG f xs ys).bind λc=>some (b&&c)
 |_,_=>some false
noncomputable def cA:Nat->V->V->Option Bool
 |0,_,_=>none
 |_+1,.aG,.aG=>some true
 |_+1,.bl a,.bl b=>some (a==b)
 |_+1,.int a,.int b=>some (a==b)
 |_+1,.bl a,.int b=>some (b2i a==b)
 |_+1,.int a,.bl b=>some (a==b2i b)
 |_+1,.str a,.str b=>some (a==b)
 |n+1,.tup a,.tup b=>cG (cA n) a b
 |n+1,.lst a,.lst b=>cG (cA n) a b
 |n+1,.bX a,.lst b=>cG (cA n) a b
 |n+1,.lst a,.bX b=>cG (cA n) a b
 |_+1,.bX _,.bX _=>none
 |_+1,_,_=>some false
noncomputable def truthy:V->Bool
 |.aG=>false
 |.bl b=>b
 |.int i=>i != 0
 |.str s=>!s.isEmpty
 |.tup ds=>!ds.isEmpty
 |.lst ds=>!ds.isEmpty
 |.bX ds=>!ds.isEmpty
noncomputable def dR(l:List V):Option V:=if l.length<=big then some (.lst l)else none
noncomputable def jQ(l:List V):Option V:=if l.length<=big then some (.tup l)else none
noncomputable def bH:aU->V->V->Option V
 |.add,.int i,.int j=>some (.int (i+j))
 |.add,.str a,.str b=>if a.length+b.length<=big then some (.str (a++b))else none
 |.add,.tup a,.tup b=>if a.length+b.length<=big then some (.tup (a++b))else none
 |.add,.lst a,.lst b=>dR (a++b)
 |.sub,.int i,.int j=>some (.int (i - j))
 |.mul,.int i,.int j=>if bE i j then some (.int (i*j))else none
 |.mul,.str a,.int k=>if 0<=k/\k<=1000/\a.length<=1000 then some (.str (rep k.toNat a))else none
 |.mul,.tup a,.int k=>if 0<=k/\k<=1000/\a.length<=1000 then some (.tup (rep k.toNat a))else none
 |.mul,.lst a,.int k=>if 0<=k/\k<=1000/\a.length<=1000 then dR (rep k.toNat a)else none
 |.fdiv,.int i,.int j=>if 0<j/\j<1073741824 then some (.int (i / j))else none
 |.mod,.int i,.int j=>if 0<j then some (.int (i % j))else none
 |_,_,_=>none
noncomputable def mem(x:V):List V->Option Bool
 |[]=>some false
 |y :: ys=>(cA deep y x).bind λb=>(mem x ys).bind λc=>some (b ||c)
noncomputable def isin(x y:V):Option Bool:=match y with
 |.str s=>match x with
  |.str [c]=>some (s.contains c)
  |_=>none
 |.tup ds=>mem x ds
 |.lst ds=>mem x ds
 |.bX ds=>mem x ds
 |_=>none
noncomputable def cop(o:aR)(x y:V):Option Bool:=match o,x,y with
 |.eq,x,y=>cA deep x y
 |.ne,x,y=>(cA deep x y).map (!·)
 |.lt,.int i,.int j=>some (decide (i<j))
 |.gt,.int i,.int j=>some (decide (j<i))
 |.isin,x,y=>isin x y
 |.kQ,x,y=>(isin x y).map (!·)
 |.Jt,x,.aG=>some (match x with|.aG=>true|_=>false)
 |.jX,x,.aG=>some (match x with|.aG=>false|_=>true)
 |_,_,_=>none
noncomputable def fW(x y:V):Option V:=match x,y with
 |.tup ds,.int i=>bz ds i
 |.str s,.int i=>(bz s i).map λc=>.str [c]
 |.lst ds,.int i=>bz ds i
 |.bX ds,.int i=>bz ds i
 |_,_=>none
noncomputable def fN(x:V)(lo hi:Option Int):Option V:=match x with
 |.tup ds=>some (.tup (cut ds lo hi))
 |.str s=>some (.str (cut s lo hi))
 |.lst ds=>dR (cut ds lo hi)
 |.bX ds=>dR (cut ds lo hi)
 |_=>none
noncomputable def toT:V->Option V
 |.tup l=>some (.tup l)
 |.lst l=>jQ l
 |.bX l=>jQ l
 |_=>none
noncomputable def boolsOf:List V->Option (List Bool)
 |[]=>some []
 |.bl b :: ds=>(boolsOf ds).map λr=>b :: r
 |_=>none
noncomputable def intsOf:List V->Option (List Int)
 |[]=>some []
 |.int i :: ds=>(intsOf ds).map λr=>i :: r
 |_=>none
noncomputable def strsOf:List V->Option (List (List Nat))
 |[]=>some []
 |.str s :: ds=>(strsOf ds).map λr=>s :: r
 |_=>none
noncomputable def jf:V->Option (List V)
 |.lst l=>some l
 |.bX l=>some l
 |_=>none
noncomputable def dO(b:BI)(xs:List V):Option V:=match b,xs with
 |.len,[.str s]=>if s.length<=big then some (.int s.length)else none
 |.len,[.tup ds]=>some (.int ds.length)
 |.len,[x]=>(jf x).map λds=>.int ds.length
 |.sum,[x]=>((jf x).bind intsOf).map λis=>.int is.sum
 |.min,[.int i,.int j]=>some (.int (if j<i then j else i))
 |.jM,[x]=>((jf x).bind strsOf).bind λss=>if ss.length<4095/\(Ev.dd ss).length<64 then dR ((bu (Ev.dd ss)).map .str)else none
 |_,_=>none
noncomputable def idx(x:V):List V->Nat->Option Nat
 |[],_=>none
 |y :: ys,k=>match cA deep y x with
  |some true=>some k
  |some false=>idx x ys (k+1)
  |none=>none
noncomputable def cnt(x:V):List V->Option Nat
 |[]=>some 0
 |y :: ys=>(cA deep y x).bind λb=>(cnt x ys).bind λk=>some (if b then k+1 else k)
noncomputable def eZ(m:ME)(o:V)(xs:List V):Option V:=match m,o,xs with
 |.join,.str sep,[x]=>((jf x).bind strsOf).bind λss=>if (ss.map (·.length)).sum+ss.length*sep.length<=big then some (.str (bO sep ss))else none
 |.count,o,[.str t]=>((jf o).bind (cnt (.str t))).map λ(k:Nat)=>.int k
 |.index,o,[x]=>((jf o).bind λds=>idx x ds 0).map λ(k:Nat)=>.int k
 |_,_,_=>none
noncomputable def mS(m:ME)(l:List V)(xs:List V):Option (V×List V):=match m,xs with
 |.append,[x]=>if l.length<big then some (.aG,l++[x])else none
 |.extend,[.lst es]=>if l.length+es.length<=big then some (.aG,l++es)else none
 |.pop,[]=>match l[l.length - 1]? with
  |some x=>some (x,l.dropLast)
  |none=>none
 |_,_=>none
noncomputable def xq:ME->Bool
 |.extend=>true
 |_=>false
noncomputable def iz:ME->Bool
 |.append=>true
 |.extend=>true
 |.pop=>true
 |_=>false
noncomputable def sY:V->Bool
 |.aG=>true
 |.bl _=>true
 |.int _=>true
 |.str _=>true
 |_=>false
noncomputable def yX(x:V):List (D×D)->Option V
 |[]=>none
 | (k,v) :: r=>match (ofD k).bind λk'=>cA 1 k' x with
  |some true=>ofD v
  |some false=>yX x r
  |none=>none
noncomputable def g7(x:V)(kvs:List (D×D)):Option V:=if sY x then yX x kvs else none
noncomputable def gk:V->Option (List V)
 |.tup ds=>some ds
 |.str s=>some (s.map λc=>.str [c])
 |.lst ds=>some ds
 |.bX ds=>some ds
 |_=>none
noncomputable def Lb:V->Option (List V)
 |.tup ds=>some ds
 |_=>none
noncomputable def range(lo:Int)(n:Nat):List V:=(List.range n).map λ(i:Nat)=>.int (lo+i)
noncomputable def e8:List V->Option (List V)
 |[.int j]=>if -(2 ^ 62)<=j/\j<2 ^ 62 then some (range 0 j.toNat)else none
 |[.int i,.int j]=>if -(2 ^ 62)<=i/\i<2 ^ 62/\-(2 ^ 62)<=j/\j<2 ^ 62 then some (range i (j - i).toNat)else none
 |_=>none
noncomputable def gF:Int->List V->List V
 |_,[]=>[]
 |k,x :: xs=>.tup [.int k,x] :: gF (k+1) xs
noncomputable def put(fr:Fr)(i:Nat)(s:Sl):Option Fr:=match fr[i]? with
 |some (some (.bor _))=>none
 |some (some (.ro _))=>none
 |_=>some (fr.set i (some s))
noncomputable def cP:List Nat->List V->Fr->Option Fr
 |[],[],fr=>some fr
 |i :: is,d :: ds,fr=>(put fr i (.val d)).bind (cP is ds)
 |_,_,_=>none
noncomputable def bw:T->V->Fr->Option Fr
 |.one i,d,fr=>put fr i (.val d)
 |.many l,.tup ds,fr=>cP l ds fr
 |_,_,_=>none
noncomputable def undef(t:T)(fr:Fr):Bool:=(slots t).all λi=>(fr[i]?.join).isNone
noncomputable def Sl.read:Sl->Sl
 |.own l=>.ro l
 |.bor l=>.ro l
 |s=>s
noncomputable def sL(fr:Fr):Fr:=fr.map (Option.map Sl.read)
noncomputable def Sl.cj:Sl->Sl
 |.own l=>.val (.lst l)
 |s=>s
noncomputable def fc(fr:Fr):Fr:=fr.map (Option.map Sl.cj)
noncomputable def mT(e:E)(fr:Fr):Fr:=match e with
 |.v j=>fr.modify j (Option.map Sl.cj)
 |_=>fr
noncomputable def Sl.walk:Sl->Sl
 |.own l=>.val (.lst l)
 |.bor l=>.ro l
 |s=>s
noncomputable def iM(is:List Nat)(fr:Fr):Fr:=is.foldl (λfr i=>match fr[i]? with
 |some (some s)=>fr.set i (some s.walk)
 |_=>fr) fr
noncomputable def Sl.out:Sl->Option (List V)
 |.bor l=>some l
 |.ro l=>some l
 |_=>none
noncomputable def Sl.lend:Sl->Option Sl
 |.own l=>some (.bor l)
 |.bor l=>some (.bor l)
 |.ro l=>some (.ro l)
 |.val _=>none
noncomputable def lent(fr:Fr)(i:Nat):Option Sl:=match fr[i]? with
 |some (some s)=>s.lend
 |_=>none
noncomputable def Sl.with:Sl->List V->Sl
 |.own _,l=>.own l
 |.bor _,l=>.bor l
 |s,_=>s
noncomputable def back:List Nat->List (List V)->Fr->Option Fr
 |[],[],fr=>some fr
 |i :: is,l :: ls,fr=>match fr[i]? with
  |some (some s)=>back is ls (fr.set i (some (s.with l)))
  |_=>none
 |_,_,_=>none
noncomputable def b7(f:V->Option (Option V)):List V->Option (List V)
 |[]=>some []
 |d :: ds=>(f d).bind λo=>(b7 f ds).bind λr=>some (o.toList++r)
noncomputable def forL(f:V->Fr->R Fl):List V->Fr->R Fl
 |[],fr=>.ok .nx fr
 |d :: ds,fr=>(f d fr).bind λp af=>match p with
   |.nx=>forL f ds af
   |.ct=>forL f ds af
   |.bk=>.ok .nx af
   |.ret x=>.ok (.ret x) af
noncomputable def fj(t:Fr->R Bool)(f:Fr->R Fl):Nat->Fr->R Fl
 |0,_=>.bad
 |n+1,fr=>(t fr).bind λb af=>if b then (f af).bind λp aq=>match p with
   |.nx=>fj t f n aq
   |.ct=>fj t f n aq
   |.bk=>.ok .nx aq
   |.ret x=>.ok (.ret x) aq
  else .ok .nx af
noncomputable def jc:Es->List Nat
 |.nil=>[]
 |.cons (.v i) es=>i :: jc es
 |.cons _ es=>jc es
noncomputable def Qg(m:ME):E->List Nat
 |.v i=>if iz m then [i]else []
 |_=>[]
mutual
noncomputable def b8:E->List Nat
 |.c _=>[]|.v _=>[]|.tup es=>fL es|.lst es=>fL es
 |.bin _ a b=>b8 a++b8 b|.cmp _ a b=>b8 a++b8 b
 |.nt a=>b8 a|.neg a=>b8 a|.an a b=>b8 a++b8 b|.orr a b=>b8 a++b8 b|.fV t a b=>b8 t++(b8 a++b8 b)
 |.ix a b=>b8 a++b8 b|.sl a lo hi=>b8 a++(j5 lo++j5 hi)
 |.cl _ es=>fL es++jc es|.bi _ es=>fL es|.me m o es=>b8 o++(fL es++Qg m o)
 |.comp _ _ it _=>C1 it
 |.je it=>C1 it
 |.iX _ a=>b8 a
 |.jN a=>b8 a
noncomputable def fL:Es->List Nat
 |.nil=>[]
 |.cons e es=>b8 e++fL es
noncomputable def j5:Eo->List Nat
 |.no=>[]
 |.yes e=>b8 e
noncomputable def C1:It->List Nat
 |.seq e=>b8 e|.fU es=>fL es
 |.enum a=>b8 a|.rev a=>b8 a
end
noncomputable def kf(a:E)(l:List Nat):Bool:=match a with
 |.v i=>!l.contains i
 |_=>l.isEmpty
noncomputable def itv:It->List Nat
 |.seq (.v i)=>[i]
 |.enum (.v i)=>[i]
 |.rev (.v i)=>[i]
 |_=>[]
abbrev aF:=Nat->List Sl->Option (V×List (List V))
noncomputable def intOf:V->Option Int
 |.int i=>some i
 |_=>none
noncomputable def iZ(k:Bool)(fr:Fr)(i:Nat):Option V:=match fr[i]? with
 |some (some (.val v))=>some v
 |some (some (.own l))=>if k then some (.lst l)else none
 |some (some (.bor l))=>if k then some (.lst l)else none
 |some (some (.ro l))=>if k then some (.lst l)else none
 |_=>none
noncomputable def yY(k:Bool)(fr:Fr)(i:Nat):Option V:=match fr[i]? with
 |some (some (.ro l))=>some (.lst l)
 |_=>iZ k fr i
noncomputable def src(k:Bool)(fr:Fr)(e:E)(r:R V):R V:=match e with
 |.v i=>R.of (yY k fr i) fr
 |_=>r
noncomputable def fQ(fr:Fr):E->Option Nat
 |.v i=>if (lent fr i).isSome then some i else none
 |_=>none
noncomputable def args(fr:Fr):List (Nat ⊕ V)->Option (List Sl)
 |[]=>some []
 |.inl i :: r=>(lent fr i).bind λs=>(args fr r).map λl=>s :: l
 |.inr v :: r=>(args fr r).map λl=>.val v :: l
noncomputable def bJ:List (Nat ⊕ V)->List Nat
 |[]=>[]
 |.inl i :: r=>i :: bJ r
 |.inr _ :: r=>bJ r
noncomputable def eS(P:aF)(f:Nat)(as:List (Nat ⊕ V))(fr:Fr):R V:=
 if (bJ as).Nodup then match args fr as with
  |some sl=>match P f sl with
   |some (v,outs)=>R.of ((back (bJ as) outs fr).map λaf=>(v,af)) fr |>.bind λp _=>.ok p.1 p.2
   |none=>.bad
  |none=>.bad
 else .bad
mutual
noncomputable def ev(P:aF):Bool->E->Fr->R V
 |_,.c d,fr=>R.of (ofD d) fr
 |k,.v i,fr=>R.of (iZ k fr i) fr
 |_,.tup es,fr=>(bQ P false es fr).bind λds af=>R.of (jQ ds) af
 |_,.lst es,fr=>(bQ P false es fr).bind λds af=>R.of (dR ds) af
 |_,.bin o a b,fr=>(ev P (kf a (b8 b)) a fr).bind λx af=>(ev P true b af).bind λy aq=>R.of (bH o x y) aq
 |_,.cmp o a b,fr=>(ev P (kf a (b8 b)) a fr).bind λx af=>(ev P true b af).bind λy aq=>R.of ((cop o x y).map .bl) aq
 |_,.nt a,fr=>(ev P true a fr).bind λx af=>match x with
   |.bl b=>.ok (.bl (!b)) af
   |_=>.bad
 |_,.neg a,fr=>(ev P true a fr).bind λx af=>match x with
   |.int i=>.ok (.int (-i)) af
   |_=>.bad
 |k,.an a b,fr=>(ev P true a fr).bind λx af=>match x with
   |.bl true=>ev P k b af
   |.bl false=>.ok (.bl false) af
   |_=>.bad
 |k,.orr a b,fr=>(ev P true a fr).bind λx af=>match x with
   |.bl true=>.ok (.bl true) af
   |.bl false=>ev P k b af
   |_=>.bad
 |k,.fV t a b,fr=>(aJ P t fr).bind λc af=>if c then ev P k a af else ev P k b af
 |_,.ix a b,fr=>(ev P (kf a (b8 b)) a fr).bind λx af=>(ev P true b af).bind λy aq=>R.of (fW x y) aq
 |_,.sl a lo hi,fr=>(ev P (kf a (j5 lo++j5 hi)) a fr).bind λx af=>(fO P lo af).bind λl aq=>(fO P hi aq).bind λu bf=>R.of (fN x l u) bf
 |_,.cl f es,fr=>(ek P es fr).bind λas af=>eS P f as af
 |_,.bi b es,fr=>(bQ P true es fr).bind λds af=>R.of (dO b ds) af
 |_,.me m o es,fr=>if iz m then match fQ fr o with
   |some i=>(bQ P (xq m) es fr).bind λds af=>match af[i]? with
    |some (some (.own l))=>match mS m l ds with
     |some (v,l')=>.ok v (af.set i (some (.own l')))
     |none=>.bad
    |some (some (.bor l))=>match mS m l ds with
     |some (v,l')=>.ok v (af.set i (some (.bor l')))
     |none=>.bad
    |_=>.bad
   |none=>.bad
  else (ev P (kf o (fL es)) o fr).bind λx af=>(bQ P true es af).bind λds aq=>R.of (eZ m x ds) aq
 |_,.comp elt t it cond,fr=>(dD P true it fr).bind λs af=>if undef t af then
   R.of ((b7 (λd=>match bw t d (sL af)with
    |none=>none
    |some aq=>match g8 P cond aq with
     |.ok c _=>if c then (match ev P false elt aq with|.ok x _=>some (some x)|.bad=>none)else some none
     |.bad=>none) s).bind dR) af else .bad
 |_,.je it,fr=>(dD P true it fr).bind λs af=>R.of (dR s) af
 |_,.iX kvs a,fr=>(ev P true a fr).bind λx af=>R.of (g7 x kvs) af
 |_,.jN a,fr=>(ev P true a fr).bind λx af=>R.of (toT x) af
termination_by _ e=>(sizeOf e,0)
noncomputable def bQ(P:aF):Bool->Es->Fr->R (List V)
 |_,.nil,fr=>.ok [] fr
 |k,.cons e es,fr=>(ev P (k&&kf e (fL es)) e fr).bind λd af=>(bQ P k es af).bind λds aq=>.ok (d :: ds) aq
termination_by _ e=>(sizeOf e,0)
noncomputable def ek(P:aF):Es->Fr->R (List (Nat ⊕ V))
 |.nil,fr=>.ok [] fr
 |.cons e es,fr=>match fQ fr e with
   |some i=>(ek P es fr).bind λr af=>.ok (.inl i :: r) af
   |none=>(ev P false e fr).bind λd af=>(ek P es af).bind λr aq=>.ok (.inr d :: r) aq
termination_by e=>(sizeOf e,0)
noncomputable def fO(P:aF):Eo->Fr->R (Option Int)
 |.no,fr=>.ok none fr
 |.yes e,fr=>(ev P true e fr).bind λd af=>R.of ((intOf d).map some) af
termination_by e=>(sizeOf e,0)
noncomputable def g8(P:aF):Eo->Fr->R Bool
 |.no,fr=>.ok true fr
 |.yes e,fr=>aJ P e fr
termination_by e=>(sizeOf e,0)
noncomputable def aJ(P:aF):E->Fr->R Bool
 |.an a b,fr=>(aJ P a fr).bind λk af=>if k then aJ P b af else .ok false af
 |.orr a b,fr=>(aJ P a fr).bind λk af=>if k then .ok true af else aJ P b af
 |.nt a,fr=>(aJ P a fr).bind λk af=>.ok (!k) af
 |e,fr=>(ev P true e fr).bind λx af=>.ok (truthy x) af
termination_by e=>(sizeOf e,1)
noncomputable def dD(P:aF):Bool->It->Fr->R (List V)
 |k,.seq e,fr=>(src k fr e (ev P k e fr)).bind λx af=>R.of (gk x) af
 |_,.fU es,fr=>(bQ P true es fr).bind λds af=>R.of (e8 ds) af
 |k,.enum a,fr=>(src k fr a (ev P k a fr)).bind λx af=>R.of ((jf x).map λs=>gF 0 s) af
 |_,.rev a,fr=>(ev P true a fr).bind λx af=>R.of ((Lb x).map λs=>s.reverse) af
termination_by _ e=>(sizeOf e,0)
end
noncomputable def isNew:E->Bool
 |.lst _=>true
 |.je _=>true
 |_=>false
noncomputable def yZ(k:Nat):V->Option V
 |.int c=>if 0<=c/\c<k then some (.tup [.str [114,101,102,117,115,101,100],.int c])else none
 |_=>none
mutual
noncomputable def ex(P:aF)(w:Nat):S->Fr->R Fl
 |.set i e,fr=>(ev P false e (mT e fr)).bind λx af=>if isNew e then (match x with
   |.lst l=>(R.of (put af i (.own l)) af).bind λaq _=>.ok .nx aq
   |_=>.bad)
  else (R.of (put af i (.val x)) af).bind λaq _=>.ok .nx aq
 |.iH l e,fr=>(ev P false e fr).bind λx af=>(R.of (bw (.many l) x af) af).bind λaq _=>.ok .nx aq
 |.exp e,fr=>(ev P true e fr).bind λ_ af=>.ok .nx af
 |.ret e,fr=>(ev P false e (fc fr)).bind λx af=>.ok (.ret x) af
 |.iff t a b,fr=>(aJ P t fr).bind λk af=>if k then exs P w a af else exs P w b af
 |.for t it b,fr=>(dD P false it (iM (itv it) fr)).bind λs af=>forL (λd aq=>match bw t d aq with
   |some bf=>exs P w b bf
   |none=>.bad) s af
 |.mD t b,fr=>fj (λaq=>aJ P t aq) (λaq=>exs P w b aq) w fr
 |.pass,fr=>.ok .nx fr
 |.brk,fr=>.ok .bk fr
 |.cnt,fr=>.ok .ct fr
 |.eO _,_=>.bad
 |.tr f k es,fr=>(ek P es fr).bind λas af=>if (bJ as).isEmpty then (match eS P f as af with
   |.ok v aq=>.ok (.ret v) aq
   |.bad=>(eS P (f+Ev.xo) as af).bind λc aq=>R.of ((yZ k c).map .ret) aq)
  else .bad
noncomputable def exs(P:aF)(w:Nat):Ss->Fr->R Fl
 |.nil,fr=>.ok .nx fr
 |.cons s ss,fr=>(ex P w s fr).bind λp af=>match p with
   |.nx=>exs P w ss af
   |p=>.ok p af
end
noncomputable def dJ(fn:Fn)(ds:List Sl):Fr:=ds.map some++List.replicate (fn.ns - fn.np) none
noncomputable def outs(np:Nat)(fr:Fr):List (List V):=(fr.take np).filterMap λo=>o.bind Sl.out
noncomputable def Ba(_:Fn)(_:List Sl):Option (V×List (List V)):=none
abbrev cF:=Nat->List Sl->Option Nat
noncomputable def nJ(X:cF)(f:Nat)(as:List (Nat ⊕ V))(fr:Fr):Option Nat:=if (bJ as).Nodup then (args fr as).bind (X f)else none
mutual
noncomputable def xe(P:aF)(X:cF):E->Fr->Option Nat
 |.cl f es,fr=>match ek P es fr with
  |.ok as af=>nJ X f as af
  |.bad=>oE P X es fr
 |.ix a _,fr=>xe P X a fr
 |.me m o es,fr=>if iz m then match fQ fr o with
   |some _=>xr P X (xq m) es fr
   |none=>none
  else none
 |_,_=>none
noncomputable def oE(P:aF)(X:cF):Es->Fr->Option Nat
 |.nil,_=>none
 |.cons e es,fr=>match fQ fr e with
  |some _=>oE P X es fr
  |none=>match ev P false e fr with
   |.ok _ af=>oE P X es af
   |.bad=>xe P X e fr
noncomputable def xr(P:aF)(X:cF)(k:Bool):Es->Fr->Option Nat
 |.nil,_=>none
 |.cons e es,fr=>match ev P (k&&kf e (fL es)) e fr with
  |.ok _ af=>xr P X k es af
  |.bad=>xe P X e fr
end
noncomputable def cX(f:V->Fr->R Fl)(g:V->Fr->Option Nat):List V->Fr->Option Nat
 |[],_=>none
 |d :: ds,fr=>match f d fr with
   |.ok .nx af=>cX f g ds af
   |.ok .ct af=>cX f g ds af
   |.ok _ _=>none
   |.bad=>g d fr
noncomputable def fX(t:Fr->R Bool)(f:Fr->R Fl)(g:Fr->Option Nat):Nat->Fr->Option Nat
 |0,_=>none
 |n+1,fr=>match t fr with
  |.ok true af=>match f af with
   |.ok .nx aq=>fX t f g n aq
   |.ok .ct aq=>fX t f g n aq
   |.ok _ _=>none
   |.bad=>g af
  |_=>none
mutual
noncomputable def xs(P:aF)(X:cF)(w:Nat):S->Fr->Option Nat
 |.eO c,_=>some c
 |.set _ e,fr=>xe P X e fr
 |.exp e,fr=>xe P X e fr
 |.ret e,fr=>xe P X e (fc fr)
 |.iff t a b,fr=>match aJ P t fr with
  |.ok k af=>if k then xss P X w a af else xss P X w b af
  |.bad=>xe P X t fr
 |.for t it b,fr=>match dD P false it (iM (itv it) fr)with
  |.ok s af=>cX (λd aq=>match bw t d aq with|some bf=>exs P w b bf|none=>.bad) (λd aq=>match bw t d aq with|some bf=>xss P X w b bf|none=>none) s af
  |.bad=>none
 |.mD t b,fr=>fX (λaq=>aJ P t aq) (λaq=>exs P w b aq) (λaq=>xss P X w b aq) w fr
 |_,_=>none
noncomputable def xss(P:aF)(X:cF)(w:Nat):Ss->Fr->Option Nat
 |.nil,_=>none
 |.cons s ss,fr=>match ex P w s fr with
  |.ok .nx af=>xss P X w ss af
  |.ok _ _=>none
  |.bad=>xs P X w s fr
end
noncomputable def Sl.fQ:Sl->Bool
 |.val _=>true
 |_=>false
noncomputable def lK(X:cF)(f:Nat)(ds:List Sl):Option (V×List (List V)):=if Ev.xo<=f/\ds.all Sl.fQ=true then (X (f - Ev.xo) ds).map λ(c:Nat)=>((.int (c:Int),[]):V×List (List V))else none
noncomputable def runs(F:List Fn)(w:Nat):Nat->aF×cF
 |0=>(λ_ _=>none,λ_ _=>none)
 |n+1=>
  let X:cF:=λf ds=>match F[f]? with
   |some fn=>if ds.length=fn.np then xss (runs F w n).1 (runs F w n).2 w fn.body (dJ fn ds)else none
   |none=>none
  (λf ds=>match F[f]? with
   |some fn=>if ds.length=fn.np then match exs ((runs F w n).1) w fn.body (dJ fn ds)with
     |.ok (.ret v) fr=>some (v,outs fn.np fr)
     |.ok .nx fr=>some (.aG,outs fn.np fr)
     |_=>Ba fn ds
    else none
   |none=>lK X f ds,X)
noncomputable def run(F:List Fn)(w n:Nat):aF:=(runs F w n).1
noncomputable def bS(F:List Fn)(w n:Nat):cF:=(runs F w n).2
def fP(F:List Fn)(w n f:Nat)(ds:List Sl):run F w (n+1) f ds=match F[f]? with
   |some fn=>if ds.length=fn.np then match exs (run F w n) w fn.body (dJ fn ds)with
     |.ok (.ret v) fr=>some (v,outs fn.np fr)
     |.ok .nx fr=>some (.aG,outs fn.np fr)
     |_=>Ba fn ds
    else none
   |none=>lK (bS F w (n+1)) f ds:=nd rfl
def g9(F:List Fn)(w n f:Nat)(ds:List Sl):bS F w (n+1) f ds=match F[f]? with
   |some fn=>if ds.length=fn.np then xss (run F w n) (bS F w n) w fn.body (dJ fn ds)else none
   |none=>none:=nd rfl
end Pv
namespace Pv
open Ev (D O Hh aU aR TY BI ME T E Es Eo It S Ss Fn big deep b2i rep bE dg bz aN cut bO bu slots aY)
section
variable(h:Hh)(S:Nat->Prop)
mutual
noncomputable def Rep:V->D->Prop
 |.aG,d=>d=.aG
 |.bl b,d=>d=.bl b
 |.int i,d=>d=.int i
 |.str s,d=>d=.str s
 |.tup l,d=>∃ds,d=.tup ds/\ay l ds
 |.lst l,d=>∃n ds,d=.ref n/\S n/\h[n]?=some (.lst ds)/\ay l ds
 |.bX l,d=>∃n ds,d=.ref n/\S n/\h[n]?=some (.bX ds)/\ay l ds
noncomputable def ay:List V->List D->Prop
 |[],ds=>ds=[]
 |v :: vs,ds=>∃d es,ds=d :: es/\Rep v d/\ay vs es
end
noncomputable def bC:V->D->Prop
 |.lst l,d=>∃n ds,d=.ref n/\h[n]?=some (.lst ds)/\ay h S l ds
 |v,d=>Rep h S v d
noncomputable def fR:List V->List D->Prop
 |[],ds=>ds=[]
 |v :: vs,ds=>∃d es,ds=d :: es/\bC h S v d/\fR vs es
end
abbrev U:Nat->Prop:=λ_=>True
section
variable{h h':Hh}{S S':Nat->Prop}
mutual
theorem Rep.mono(f:∀m,S m->h'[m]?=h[m]?)(g:∀m,S m->S' m):∀{v:V}{d:D},Rep h S v d->Rep h' S' v d
 |.aG,_,q=>q
 |.bl _,_,q=>q
 |.int _,_,q=>q
 |.str _,_,q=>q
 |.tup l,_,⟨ds,a,b⟩=>⟨ds,a,ay.mono f g b⟩
 |.lst l,_,⟨n,ds,a,b,c,e⟩=>⟨n,ds,a,g n b,by rw[f n b];exact c,ay.mono f g e⟩
 |.bX l,_,⟨n,ds,a,b,c,e⟩=>⟨n,ds,a,g n b,by rw[f n b];exact c,ay.mono f g e⟩
theorem ay.mono(f:∀m,S m->h'[m]?=h[m]?)(g:∀m,S m->S' m):∀{v:List V}{d:List D},ay h S v d->ay h' S' v d
 |[],_,q=>q
 |_ :: _,_,⟨d,es,a,b,c⟩=>⟨d,es,a,Rep.mono f g b,ay.mono f g c⟩
end
def ay.nil:ay h S [] []:=by simp[ay]
def ay.cons{v:V}{d:D}{vs:List V}{ds:List D}(a:Rep h S v d)(b:ay h S vs ds):ay h S (v :: vs) (d :: ds):=by simp only[ay];exact⟨d,ds,rfl,a,b⟩
def Rep.top{v:V}{d:D}(q:Rep h S v d):bC h S v d:=by
 cases v<;>first|exact q | (obtain⟨n,ds,a,b,c,e⟩:=q;exact⟨n,ds,a,c,e⟩)
def bC.u{v:V}{d:D}(q:bC h S v d):Rep h U v d:=by
 cases v with
 |lst l=>obtain⟨n,ds,a,b,c⟩:=q;exact⟨n,ds,a,trivial,b,c.mono (λ_ _=>rfl) λ_ _=>trivial⟩
 |_=>exact Rep.mono (S:=S) (λ_ _=>rfl) (λ_ _=>trivial) q
def ay.u{v:List V}{d:List D}(q:ay h S v d):ay h U v d:=q.mono (λ_ _=>rfl) λ_ _=>trivial
theorem bC.mono{v:V}{d:D}(f:∀m,m<h.length->h'[m]?=h[m]?)(k:∀m,S m->m<h.length)(g:∀m,S m->S' m)(q:bC h S v d):bC h' S' v d:=by
 cases v with
 |lst l=>
  obtain⟨n,ds,a,b,c⟩:=q;exact⟨n,ds,a,by rw[f n (List.getElem?_eq_some_iff.mp b).1];exact b,c.mono (λm z=>f m (k m z)) g⟩
 |_=>exact Rep.mono (λm z=>f m (k m z)) g q
theorem ay.length:∀{v:List V}{d:List D},ay h S v d->v.length=d.length
 |[],_,q=>by simp only[ay]at q;subst q;rfl
 |_ :: _,_,q=>by simp only[ay]at q;obtain⟨d,es,rfl,_,c⟩:=q;simp[c.length]
theorem ay.get:∀{v:List V}{d:List D}{i:Nat}{x:V},ay h S v d->v[i]?=some x->∃y,d[i]?=some y/\Rep h S x y
 |[],_,_,_,_,e=>by simp at e
 |_ :: _,_,0,_,q,e=>by
  simp only[ay]at q;obtain⟨d,es,rfl,b,_⟩:=q;simp at e;subst e;exact⟨d,by simp,b⟩
 |_ :: _,_,i+1,_,q,e=>by
  simp only[ay]at q;obtain⟨d,es,rfl,_,c⟩:=q;obtain⟨y,a,b⟩:=c.get (i:=i) (by simpa using e);exact⟨y,by simpa using a,b⟩
theorem ay.append:∀{v w:List V}{d e:List D},ay h S v d->ay h S w e->ay h S (v++w) (d++e)
 |[],_,_,_,a,b=>by simp only[ay]at a;subst a;simpa using b
 |_ :: _,_,_,_,a,b=>by
  simp only[ay]at a;obtain⟨d,es,rfl,x,y⟩:=a;exact .cons x (y.append b)
theorem ay.take:∀{v:List V}{d:List D}(n:Nat),ay h S v d->ay h S (v.take n) (d.take n)
 |_,_,0,_=>by simp[ay]
 |[],_,_+1,a=>by simp only[ay]at a;subst a;simp[ay]
 |_ :: _,_,n+1,a=>by
  simp only[ay]at a;obtain⟨d,es,rfl,x,y⟩:=a;simp only[WI];exact .cons x (y.take n)
theorem ay.drop:∀{v:List V}{d:List D}(n:Nat),ay h S v d->ay h S (v.drop n) (d.drop n)
 |_,_,0,a=>by simpa using a
 |[],_,_+1,a=>by simp only[ay]at a;subst a;simp[ay]
 |_ :: _,_,n+1,a=>by
  simp only[ay]at a;obtain⟨d,es,rfl,x,y⟩:=a;simp only[Xv];exact y.drop n
theorem ay.dropLast:∀{v:List V}{d:List D},ay h S v d->ay h S v.dropLast d.dropLast:=λ{v d} a=>by
 rw[Yu,Yu,a.length];exact a.take _
theorem ay.reverse:∀{v:List V}{d:List D},ay h S v d->ay h S v.reverse d.reverse
 |[],_,a=>by simp only[ay]at a;subst a;simp[ay]
 |_ :: _,_,a=>by
  simp only[ay]at a;obtain⟨d,es,rfl,x,y⟩:=a;simp only[List.reverse_cons];exact y.reverse.append (.cons x .nil)
theorem ay.rep{v:List V}{d:List D}(a:ay h S v d):∀k:Nat,ay h S (Ev.rep k v) (Ev.rep k d)
 |0=>by simp[Ev.rep,ay]
 |k+1=>by
  have z:=ay.rep a k;simp only[Ev.rep,Uj,Wg]at z ⊢;exact a.append z
theorem ay.cut{v:List V}{d:List D}(a:ay h S v d)(lo hi:Option Int):ay h S (Ev.cut v lo hi) (Ev.cut d lo hi):=by
 unfold Ev.cut;rw[a.length];exact(a.drop _).take _
theorem ay.map{α:Type}{f:α->V}{g:α->D}(q:∀a,Rep h S (f a) (g a)):∀l:List α,ay h S (l.map f) (l.map g)
 |[]=>.nil
 |_ :: l=>.cons (q _) (ay.map q l)
mutual
theorem Rep.uniq:∀{v w:V}{d:D},Rep h U v d->Rep h U w d->v=w
 |.aG,w,_,a,b=>by simp only[Rep]at a;subst a;cases w<;>simp[Rep]at b<;>rfl
 |.bl _,w,_,a,b=>by simp only[Rep]at a;subst a;cases w<;>simp[Rep]at b<;>rw[b]
 |.int _,w,_,a,b=>by simp only[Rep]at a;subst a;cases w<;>simp[Rep]at b<;>rw[b]
 |.str _,w,_,a,b=>by simp only[Rep]at a;subst a;cases w<;>simp[Rep]at b<;>rw[b]
 |.tup l,w,_,a,b=>by
  simp only[Rep]at a;obtain⟨ds,rfl,a⟩:=a;cases w<;>simp[Rep]at b
  rw[ay.uniq a b]
 |.lst l,w,_,a,b=>by
  simp only[Rep]at a;obtain⟨n,ds,rfl,_,a1,a⟩:=a;cases w<;>simp[Rep]at b
  .obtain⟨ds',b1,b⟩:=b;rw[a1]at b1;cases b1;rw[ay.uniq a b]
  .obtain⟨ds',b1,b⟩:=b;rw[a1]at b1;cases b1
 |.bX l,w,_,a,b=>by
  simp only[Rep]at a;obtain⟨n,ds,rfl,_,a1,a⟩:=a;cases w<;>simp[Rep]at b
  .obtain⟨ds',b1,b⟩:=b;rw[a1]at b1;cases b1
  .obtain⟨ds',b1,b⟩:=b;rw[a1]at b1;cases b1;rw[ay.uniq a b]
theorem ay.uniq:∀{v w:List V}{d:List D},ay h U v d->ay h U w d->v=w
 |[],w,_,a,b=>by simp only[ay]at a;subst a;cases w<;>simp[ay]at b;rfl
 |x :: xs,w,_,a,b=>by
  simp only[ay]at a;obtain⟨d,es,rfl,a1,a2⟩:=a;cases w<;>simp only[ay]at b
  .cases b
  obtain⟨d',es',e,b1,b2⟩:=b;cases e;rw[Rep.uniq a1 b1,ay.uniq a2 b2]
end
theorem uH{n:Nat}(f:∀v b,cA n v v=some b->b=true):∀l b,cG (cA n) l l=some b->b=true
 |[],b,e=>by simp[cG]at e;exact e
 |x :: xs,b,e=>by
  simp only[cG,cI]at e;obtain⟨c,e1,c2,e2,e⟩:=e;rw[f x c e1,uH f xs c2 e2]at e;simpa using e.symm
theorem uI:∀n v b,cA n v v=some b->b=true
 |0,_,_,e=>by cases e
 |n+1,v,b,e=>by
  cases v<;>first|exact uH (uI n) _ _ e | (cases e<;>first|rfl|exact YO _)
theorem uJ{n:Nat}(f:∀{v w:V}{d e:D}{b},cA n v w=some b->Rep h U v d->Rep h U w e->Ev.eH h n d e=some b):∀{l m:List V}{ds es:List D}{b},cG (cA n) l m=some b->ay h U l ds->ay h U m es->Ev.cG (Ev.eH h n) ds es=some b
 |[],[],_,_,b,e,p,q=>by simp only[ay]at p q;subst p q;simpa[cG,Ev.cG]using e
 |[],_ :: _,_,_,b,e,p,q=>by simp only[ay]at p q;subst p;obtain⟨_,_,rfl,_⟩:=q;simpa[cG,Ev.cG]using e
 |_ :: _,[],_,_,b,e,p,q=>by simp only[ay]at p q;subst q;obtain⟨_,_,rfl,_⟩:=p;simpa[cG,Ev.cG]using e
 |x :: xs,y :: ys,_,_,b,e,p,q=>by
  simp only[ay]at p q;obtain⟨d,ds,rfl,p1,p2⟩:=p;obtain⟨d',ds',rfl,q1,q2⟩:=q;simp only[cG,cI]at e;obtain⟨c,e1,c2,e2,e⟩:=e;simp[Ev.cG,f e1 p1 q1,uJ f e2 p2 q2];simpa using e
def iA{n:Nat}{ds:List D}(q:h[n]?=some (.lst ds)):aY h n=some ds:=by simp[aY,q]
def iJ{n:Nat}{ds:List D}(q:h[n]?=some (.bX ds)):aY h n=some ds:=by simp[aY,q]
theorem iB:∀(n:Nat) {v w:V}{d e:D}{b},cA n v w=some b->Rep h U v d->Rep h U w e->Ev.eH h n d e=some b
  |0,_,_,_,_,_,e,_,_=>by cases e
  |n+1,v,w,d,e,b,x,p,q=>by
    by_cases hr:∃m,d=.ref m/\e=.ref m
    . obtain⟨m,rfl,rfl⟩:=hr;have hvw:=p.uniq q;subst hvw;have hb:=uI _ _ _ x;subst hb;cases v<;>simp[Rep]at p
      . obtain⟨ds,p1,p2⟩:=p;show Ev.jA _ _ _ _=_;rw[Ev.jA,cS rfl,iA p1];rfl
      . obtain⟨ds,p1,p2⟩:=p;show Ev.jA _ _ _ _=_;rw[Ev.jA,cS rfl,iJ p1];rfl
    . cases v<;>cases w<;>simp only[Rep]at p q <;>
      first
      | (subst p;subst q;exact x)
      | (obtain⟨ds,rfl,p⟩:=p;subst q;exact x)
      | (obtain⟨ds,rfl,q⟩:=q;subst p;exact x)
      | (obtain⟨ds,rfl,p⟩:=p;obtain⟨es,rfl,q⟩:=q;exact uJ (λa b c=>iB n a b c) x p q)
      | (cases x;done)
      | (obtain⟨m,ds,rfl,_,p1,p⟩:=p;obtain⟨k,es,rfl,_,q1,q⟩:=q
         have hne:m≠k:=λz=>hr ⟨m,rfl,by rw[z]⟩;show Ev.jA _ _ _ _=_;rw[Ev.jA,Qm hne,p1,q1];exact uJ (λa b c=>iB n a b c) x p q)
      | (cases x;obtain⟨m,ds,rfl,_,p1,p⟩:=p;subst q;exact Vw (Option.map λ_=>false) (iA p1))
      | (cases x;obtain⟨m,ds,rfl,_,p1,p⟩:=p;subst q;exact Vw (Option.map λ_=>false) (iJ p1))
      | (cases x;obtain⟨m,ds,rfl,_,p1,p⟩:=p;obtain⟨es,rfl,q⟩:=q;exact Vw (Option.map λ_=>false) (iA p1))
      | (cases x;obtain⟨m,ds,rfl,_,p1,p⟩:=p;obtain⟨es,rfl,q⟩:=q;exact Vw (Option.map λ_=>false) (iJ p1))
      | (cases x;obtain⟨m,ds,rfl,_,q1,q⟩:=q;subst p;exact Vw (Option.map λ_=>false) (iA q1))
      | (cases x;obtain⟨m,ds,rfl,_,q1,q⟩:=q;subst p;exact Vw (Option.map λ_=>false) (iJ q1))
      | (cases x;obtain⟨m,ds,rfl,_,q1,q⟩:=q;obtain⟨es,rfl,p⟩:=p;exact Vw (Option.map λ_=>false) (iA q1))
      | (cases x;obtain⟨m,ds,rfl,_,q1,q⟩:=q;obtain⟨es,rfl,p⟩:=p;exact Vw (Option.map λ_=>false) (iJ q1))
end
structure Al(h:Hh)(S:Nat->Prop)(h':Hh)(S':Nat->Prop):Prop where
 len:h.length<=h'.length
 keep:∀m,m<h.length->h'[m]?=h[m]?
 sub:∀m,S m->S' m
 new:∀m,S' m->S m\/(h.length<=m/\m<h'.length)
section
variable{h h':Hh}{S S':Nat->Prop}
def Al.refl:Al h S h S:=⟨vn _,λ_ _=>rfl,λ_ q=>q,λ_ q=>.inl q⟩
def Al.snoc(o:O):Al h S (h++[o]) (λm=>S m\/m=h.length) where
 len:=by simp
 keep:=λm q=>by rw[Mv q]
 sub:=λ_ q=>.inl q
 new:=λm q=>by
  rcases q with q|q
  .exact .inl q
  .subst q;exact .inr ⟨vn _,by simp⟩
def iR{l:List V}{v:V}{ds:List D}(w:∀m,S m->m<h.length)(e:dR l=some v)(q:ay h S l ds):∃r h' S',Ev.alloc ds h=.ok r h'/\Rep h' S' v r/\Al h S h' S':=by
 unfold dR at e;split at e
 .rename_i z;cases e;refine⟨.ref h.length,h++[.lst ds],λm=>S m\/m=h.length,by unfold Ev.alloc;rw[cS (by rw[<-q.length];exact z)],?_,Al.snoc _⟩;simp only[Rep];refine⟨h.length,ds,rfl,.inr rfl,by simp,q.mono (λm z=>?_) λ_ z=>.inl z⟩;rw[Mv (w m z)]
 .cases e
def iC{v:V}{l:List V}{d:D}(e:jf v=some l)(q:bC h S v d):∃n ds,d=.ref n/\aY h n=some ds/\ay h S l ds:=by
 cases v<;>simp[jf]at e
 .subst e;simp only[bC]at q;obtain⟨n,ds,rfl,a,b⟩:=q;exact⟨n,ds,rfl,iA a,b⟩
 .subst e;simp only[bC,Rep]at q;obtain⟨n,ds,rfl,_,a,b⟩:=q;exact⟨n,ds,rfl,iJ a,b⟩
mutual
theorem mU:∀{d:D}{v:V},ofD d=some v->Rep h S v d
 |.aG,_,e=>by simp[ofD]at e;subst e;simp[Rep]
 |.bl _,_,e=>by simp[ofD]at e;subst e;simp[Rep]
 |.int _,_,e=>by simp[ofD]at e;subst e;simp[Rep]
 |.str _,_,e=>by simp[ofD]at e;subst e;simp[Rep]
 |.ref _,_,e=>by simp[ofD]at e
 |.tup ds,_,e=>by
  simp[ofD]at e;obtain⟨vs,e,rfl⟩:=e;exact⟨ds,rfl,xu e⟩
theorem xu:∀{d:List D}{v:List V},uG d=some v->ay h S v d
 |[],_,e=>by simp[uG]at e;subst e;exact .nil
 |d :: ds,_,e=>by
  simp only[uG,cI,cL]at e;obtain⟨v,e1,vs,e2,rfl⟩:=e;exact .cons (mU e1) (xu e2)
end
def ay.emp{l:List V}{ds:List D}(q:ay h S l ds):ds.isEmpty=l.isEmpty:=by
 have:=q.length;cases l<;>cases ds<;>simp at this ⊢
def Bb{v:V}{d:D}(q:bC h S v d):Ev.truthy h d=some (truthy v):=by
 cases v<;>simp only[bC,Rep]at q
 .subst q;rfl
 .subst q;rfl
 .subst q;rfl
 .subst q;rfl
 .obtain⟨ds,rfl,q⟩:=q;simp only[Ev.truthy,truthy,q.emp]
 .obtain⟨n,ds,rfl,a,q⟩:=q;simp only[Ev.truthy,truthy,iA a,Option.map,q.emp];first|done|rw[a]
 .obtain⟨n,ds,rfl,_,a,q⟩:=q;simp only[Ev.truthy,truthy,iJ a,Option.map,q.emp];first|done|rw[a]
def nn{α:Type}{v:α}{p:Prop}(z:none=some v):p:=Option.noConfusion rfl (heq_of_eq z)
def Lc{o:aU}{x y v:V}{d e:D}(w:∀m,S m->m<h.length)(z:bH o x y=some v)(p:bC h S x d)(q:bC h S y e):∃r h' S',Ev.bH o d e h=.ok r h'/\Rep h' S' v r/\Al h S h' S':=by
 cases o<;>cases x<;>first|exact nn z | (cases y<;>first|exact nn z|skip)
 all_goals (delta bH at z;dsimp only at z;simp only[bC,Rep]at p q)
 .subst p q;cases z;exact⟨_,_,S,rfl,rfl,.refl⟩
 .subst p q;split at z
  .rename_i k;cases z;exact⟨_,_,S,by delta Ev.bH;dsimp only;rw[cS k],rfl,.refl⟩
  .cases z
 .obtain⟨ds,rfl,p⟩:=p;obtain⟨es,rfl,q⟩:=q;split at z
  .rename_i k;cases z;exact⟨_,_,S,by delta Ev.bH;dsimp only;rw[cS (by rw[<-p.length,<-q.length];exact k)],⟨_,rfl,p.append q⟩,.refl⟩
  .cases z
 .obtain⟨n,ds,rfl,a,p⟩:=p;obtain⟨m,es,rfl,b,q⟩:=q
  delta Ev.bH;dsimp only;simp only[a,b]
  exact iR w z (p.append q)
 .subst p q;cases z;exact⟨_,_,S,rfl,rfl,.refl⟩
 .subst p q;split at z
  .rename_i k;cases z;exact⟨_,_,S,by delta Ev.bH;dsimp only;rw[cS k],rfl,.refl⟩
  .cases z
 .subst p q;split at z
  .rename_i k;cases z;exact⟨_,_,S,by delta Ev.bH;dsimp only;rw[cS k],rfl,.refl⟩
  .cases z
 .obtain⟨ds,rfl,p⟩:=p;subst q;split at z
  .rename_i k;cases z;exact⟨_,_,S,by delta Ev.bH;dsimp only;rw[cS (by rw[<-p.length];exact k)],⟨_,rfl,p.rep _⟩,.refl⟩
  .cases z
 .obtain⟨n,ds,rfl,a,p⟩:=p;subst q;split at z
  .rename_i k
   delta Ev.bH;dsimp only;simp only[a]
   rw[cS (by rw[<-p.length];exact k)];exact iR w z (p.rep _)
  .cases z
 .subst p q;split at z
  .rename_i k;cases z;exact⟨_,_,S,by delta Ev.bH;dsimp only;rw[cS k],rfl,.refl⟩
  .cases z
 .subst p q;split at z
  .rename_i k;cases z;exact⟨_,_,S,by delta Ev.bH;dsimp only;rw[cS k],rfl,.refl⟩
  .cases z
theorem pY{x:V}{d:D}(p:Rep h U x d):∀{l:List V}{ds:List D}{b},mem x l=some b->ay h U l ds->Ev.mem h d ds=some b
 |[],_,b,e,q=>by simp only[ay]at q;subst q;simpa[mem,Ev.mem]using e
 |y :: ys,_,b,e,q=>by
  simp only[ay]at q;obtain⟨d',ds,rfl,q1,q2⟩:=q;simp only[mem,cI]at e;obtain⟨c,e1,c2,e2,e⟩:=e;simp[Ev.mem,iB deep e1 q1 p,pY p e2 q2];simpa using e
def xx{x y:V}{d e:D}{b:Bool}(z:isin x y=some b)(p:Rep h U x d)(q:Rep h U y e):Ev.isin d e h=some b:=by
 cases y<;>simp only[isin,reduceCtorEq]at z<;>simp only[Rep]at q
 .subst q;split at z
  .simp only[Rep]at p;subst p;simpa[Ev.isin]using z
  .cases z
 .obtain⟨ds,rfl,q⟩:=q;simpa[Ev.isin]using pY p z q
 .obtain⟨n,ds,rfl,_,a,q⟩:=q;simpa[Ev.isin,iA a]using pY p z q
 .obtain⟨n,ds,rfl,_,a,q⟩:=q;simpa[Ev.isin,iJ a]using pY p z q
def Ld{o:aR}{x y:V}{d e:D}{b:Bool}(z:cop o x y=some b)(p:Rep h U x d)(q:Rep h U y e):Ev.cop o d e h=some b:=by
 cases o
 case eq=>delta cop at z;dsimp only at z;delta Ev.cop;dsimp only;exact iB deep z p q
 case ne=>
  delta cop at z;dsimp only at z;simp only[cL]at z;obtain⟨c,z,rfl⟩:=z
  delta Ev.cop;dsimp only;simp only[iB deep z p q];rfl
 case isin=>delta cop at z;dsimp only at z;delta Ev.cop;dsimp only;exact xx z p q
 case kQ=>
  delta cop at z;dsimp only at z;simp only[cL]at z;obtain⟨c,z,rfl⟩:=z
  delta Ev.cop;dsimp only;simp only[xx z p q];rfl
 case Jt=>
  cases y <;> (delta cop at z;dsimp only at z) <;> (try simp only[reduceCtorEq]at z)
  simp only[Rep]at q;subst q;cases x<;>simp only[Rep]at p <;> (try obtain⟨_,rfl,_⟩:=p) <;> (try obtain⟨_,_,rfl,_⟩:=p) <;> (try subst p) <;> (delta Ev.cop;dsimp only;simpa using z)
 case jX=>
  cases y <;> (delta cop at z;dsimp only at z) <;> (try simp only[reduceCtorEq]at z)
  simp only[Rep]at q;subst q;cases x<;>simp only[Rep]at p <;> (try obtain⟨_,rfl,_⟩:=p) <;> (try obtain⟨_,_,rfl,_⟩:=p) <;> (try subst p) <;> (delta Ev.cop;dsimp only;simpa using z)
 all_goals (
  cases x<;>first|exact nn z | (cases y<;>first|exact nn z|skip)
  simp only[Rep]at p q;subst p q;exact z)
def y9{l:List V}{ds:List D}{i:Int}{v:V}(e:bz l i=some v)(q:ay h S l ds):∃d,bz ds i=some d/\Rep h S v d:=by
 unfold bz at e ⊢;rw[q.length]at e;cases z:dg ds.length i with
 |none=>rw[z]at e;cases e
 |some j=>rw[z]at e;exact q.get e
def Lf{x y v:V}{d e:D}(z:fW x y=some v)(p:bC h S x d)(q:bC h S y e):∃r,Ev.fW d e h=some r/\Rep h S v r:=by
 cases x<;>cases y<;>simp only[fW,reduceCtorEq]at z<;>simp only[bC,Rep]at p q
 .subst p q;simp only[cL]at z;obtain⟨c,z,rfl⟩:=z;exact⟨.str [c],by simp[Ev.fW,z],rfl⟩
 .obtain⟨ds,rfl,p⟩:=p;subst q;simpa[Ev.fW]using y9 z p
 .obtain⟨n,ds,rfl,a,p⟩:=p;subst q;simpa[Ev.fW,iA a]using y9 z p
 .obtain⟨n,ds,rfl,_,a,p⟩:=p;subst q;simpa[Ev.fW,iJ a]using y9 z p
def Lh{x v:V}{d:D}{lo hi:Option Int}(w:∀m,S m->m<h.length)(z:fN x lo hi=some v)(p:bC h S x d):∃r h' S',Ev.fN d lo hi h=.ok r h'/\Rep h' S' v r/\Al h S h' S':=by
 cases x<;>simp only[fN,reduceCtorEq]at z<;>simp only[bC,Rep]at p
 .subst p;cases z;exact⟨_,_,S,rfl,rfl,.refl⟩
 .obtain⟨ds,rfl,p⟩:=p;cases z;exact⟨_,_,S,rfl,⟨_,rfl,p.cut _ _⟩,.refl⟩
 .obtain⟨n,ds,rfl,a,p⟩:=p;simp only[Ev.fN,iA a];exact iR w z (p.cut _ _)
 .obtain⟨n,ds,rfl,_,a,p⟩:=p;simp only[Ev.fN,iJ a];exact iR w z (p.cut _ _)
def Li{x v:V}{d:D}(z:toT x=some v)(p:bC h S x d):∃r,Ev.yC d h=.ok r h/\Rep h S v r:=by
 cases x<;>simp only[toT,reduceCtorEq]at z<;>simp only[bC,Rep]at p
 .obtain⟨ds,rfl,p⟩:=p;cases z;exact⟨_,rfl,⟨_,rfl,p⟩⟩
 .obtain⟨n,ds,rfl,a,p⟩:=p;unfold jQ at z;split at z
  .rename_i k;cases z;refine⟨.tup ds,?_,⟨_,rfl,p⟩⟩;simp only[Ev.yC,iA a];rw[cS (by rw[<-p.length];exact k)]
  .cases z
 .obtain⟨n,ds,rfl,_,a,p⟩:=p;unfold jQ at z;split at z
  .rename_i k;cases z;refine⟨.tup ds,?_,⟨_,rfl,p⟩⟩;simp only[Ev.yC,iJ a];rw[cS (by rw[<-p.length];exact k)]
  .cases z
def Hr{x:V}{l:List V}{d:D}(z:jf x=some l)(p:bC h S x d):∃s,Ev.Cq h d=some s/\ay h S l s.1/\(∀q∈s.2,d=.ref q.1/\aY h q.1=some q.2):=by
 obtain⟨n,ds,rfl,a,q⟩:=iC z p;exact⟨(ds,[(n,ds)]),by simp[Ev.Cq,a],q,by simp[a]⟩
theorem C2:∀{l:List V}{ds:List D}{bs},boolsOf l=some bs->ay h S l ds->Ev.boolsOf ds=some bs
 |[],_,_,e,q=>by simp only[ay]at q;subst q;exact e
 |x :: xs,_,bs,e,q=>by
  cases x<;>simp only[boolsOf,reduceCtorEq,cL]at e
  obtain⟨r,e,rfl⟩:=e;simp only[ay,Rep]at q;obtain⟨_,ds,rfl,rfl,q⟩:=q;simp[Ev.boolsOf,C2 e q]
theorem xy:∀{l:List V}{ds:List D}{bs},intsOf l=some bs->ay h S l ds->Ev.intsOf ds=some bs
 |[],_,_,e,q=>by simp only[ay]at q;subst q;exact e
 |x :: xs,_,bs,e,q=>by
  cases x<;>simp only[intsOf,reduceCtorEq,cL]at e
  obtain⟨r,e,rfl⟩:=e;simp only[ay,Rep]at q;obtain⟨_,ds,rfl,rfl,q⟩:=q;simp[Ev.intsOf,xy e q]
theorem qZ:∀{l:List V}{ds:List D}{bs},strsOf l=some bs->ay h S l ds->Ev.strsOf ds=some bs
 |[],_,_,e,q=>by simp only[ay]at q;subst q;exact e
 |x :: xs,_,bs,e,q=>by
  cases x<;>simp only[strsOf,reduceCtorEq,cL]at e
  obtain⟨r,e,rfl⟩:=e;simp only[ay,Rep]at q;obtain⟨_,ds,rfl,rfl,q⟩:=q;simp[Ev.strsOf,qZ e q]
def fR.one{v:V}{ds:List D}(q:fR h S [v] ds):∃d,ds=[d]/\bC h S v d:=by
 simp only[fR]at q;obtain⟨d,es,rfl,a,rfl⟩:=q;exact⟨d,rfl,a⟩
def Lj{b:BI}{xs:List V}{v:V}{ds:List D}(w:∀m,S m->m<h.length)(z:dO b xs=some v)(p:fR h S xs ds):∃r h' S',Ev.dO b ds h=.ok r h'/\Rep h' S' v r/\Al h S h' S':=by
 delta dO at z
 rcases xs with _|⟨x,_|⟨y,_|⟨u,xs⟩⟩⟩
 .cases b<;>exact nn z
 .obtain⟨d,rfl,p1⟩:=p.one;cases b
  case len=>
   cases x
   case str s=>
    dsimp only at z;simp only[bC,Rep]at p1;subst p1;split at z
    .rename_i k;cases z;exact⟨_,_,S,by delta Ev.dO;dsimp only;rw[cS k],rfl,.refl⟩
    .cases z
   case tup l=>
    dsimp only at z;simp only[bC,Rep]at p1;obtain⟨es,rfl,p2⟩:=p1;cases z;exact⟨_,_,S,rfl,by simp[Rep,p2.length],.refl⟩
   all_goals
    dsimp only at z;simp only[cL]at z;obtain⟨l,z,rfl⟩:=z;obtain⟨n,es,rfl,a,q⟩:=iC z p1;exact⟨.int es.length,h,S,by delta Ev.dO;dsimp only;simp[a],by simp[Rep,q.length],.refl⟩
  case sum=>
   dsimp only at z;simp only[cL,cI]at z;obtain⟨bs,⟨l,z,z2⟩,rfl⟩:=z;obtain⟨n,es,rfl,a,q⟩:=iC z p1;exact⟨_,_,S,by delta Ev.dO;dsimp only;simp only[a,Option.bind,xy z2 q];rfl,rfl,.refl⟩
  case min=>cases x<;>exact nn z
  case jM=>
   dsimp only at z;simp only[cI]at z;obtain⟨ss,⟨l,z,z2⟩,z3⟩:=z;obtain⟨n,es,rfl,a,q⟩:=iC z p1;split at z3
   .rename_i hl
    delta Ev.dO;dsimp only;simp only[a,Option.bind,qZ z2 q]
    rw[cS hl];exact iR w z3 (ay.map (f:=V.str) (g:=D.str) (λs=>by simp[Rep]) _)
   .cases z3
 .cases b
  case min=>
   cases x
   case int i=>
    cases y
    case int j=>
     dsimp only at z;simp only[fR,bC,Rep]at p;obtain⟨_,_,rfl,rfl,_,_,rfl,rfl,rfl⟩:=p;cases z;exact⟨_,_,S,rfl,rfl,.refl⟩
    all_goals exact nn z
   all_goals exact nn z
  case len=>cases x<;>exact nn z
  all_goals exact nn z
 .cases b
  case min=>cases x <;> (try cases y)<;>exact nn z
  case len=>cases x<;>exact nn z
  all_goals exact nn z
theorem Bc{x:V}{d:D}(p:Rep h U x d):∀{l:List V}{ds:List D}{b},cnt x l=some b->ay h U l ds->Ev.cnt h d ds=some b
 |[],_,b,e,q=>by simp only[ay]at q;subst q;simpa[cnt,Ev.cnt]using e
 |y :: ys,_,b,e,q=>by
  simp only[ay]at q;obtain⟨d',ds,rfl,q1,q2⟩:=q;simp only[cnt,cI]at e;obtain⟨c,e1,c2,e2,e⟩:=e;simp[Ev.cnt,iB deep e1 q1 p,Bc p e2 q2];simpa using e
theorem Bd{x:V}{d:D}(p:Rep h U x d):∀{l:List V}{ds:List D}{k b},idx x l k=some b->ay h U l ds->Ev.idx h d ds k=some b
 |[],_,k,b,e,q=>by simp[idx]at e
 |y :: ys,_,k,b,e,q=>by
  simp only[ay]at q;obtain⟨d',ds,rfl,q1,q2⟩:=q;simp only[idx]at e;cases z:cA deep y x with
  |none=>rw[z]at e;cases e
  |some c=>
   rw[z]at e;simp only[Ev.idx,iB deep z q1 p];cases c with
   |true=>exact e
   |false=>exact Bd p e q2
def Lk{m:ME}{o:V}{xs:List V}{v:V}{d:D}{ds:List D}(z:eZ m o xs=some v)(hm:iz m=false)(po:bC h S o d)(p:fR h S xs ds):Ev.kj m d h=true/\∃r,Ev.eZ m d ds h=.ok r h/\Rep h S v r:=by
 unfold eZ at z;split at z
 .obtain⟨d,rfl,p1⟩:=p.one;simp only[bC,Rep]at po;subst po;simp only[cI]at z;obtain⟨ss,⟨l,z,z2⟩,z3⟩:=z;obtain⟨n,es,rfl,a,q⟩:=iC z p1;split at z3
  .rename_i k;cases z3;refine⟨rfl,_,?_,rfl⟩
   delta Ev.eZ;dsimp only;simp only[a,Option.bind,qZ z2 q]
   rw[cS k]
  .cases z3
 .obtain⟨d',rfl,p1⟩:=p.one;have p1':=p1.u;simp only[bC,Rep]at p1;subst p1;simp only[cL,cI]at z;obtain⟨k,⟨l,z,z2⟩,rfl⟩:=z;obtain⟨n,es,rfl,a,q⟩:=iC z po;refine⟨by simp[Ev.kj,a],_,?_,rfl⟩
  delta Ev.eZ;dsimp only;simp only[a,Option.bind,Bc p1' z2 q.u];rfl
 .obtain⟨d',rfl,p1⟩:=p.one;simp only[cL,cI]at z;obtain⟨k,⟨l,z,z2⟩,rfl⟩:=z;obtain⟨n,es,rfl,a,q⟩:=iC z po;refine⟨by simp[Ev.kj,a],_,?_,rfl⟩
  delta Ev.eZ;dsimp only;simp only[a,Option.bind,Bd p1.u z2 q.u];rfl
 .cases z
def Hs{x:V}{d:D}(f:sY x=true)(p:Rep h U x d):Rep [] U x d:=by
 cases x<;>simp only[sY,VH]at f<;>exact p
def C3{x:V}{d:D}(p:Rep h U x d):∀{kvs:List (D×D)}{v:V},g7 x kvs=some v->∃r,Ev.g7 d kvs=some r/\Rep h S v r:=by
 intro kvs v z;unfold g7 at z;split at z
 .rename_i f;have p':=Hs f p;induction kvs with
  |nil=>cases z
  |cons kv r ih=>
   obtain⟨k,u⟩:=kv;simp only[yX]at z;simp only[Ev.g7];split at z
   .rename_i y;simp only[cI]at y;obtain⟨k',y1,y2⟩:=y;rw[iB 1 y2 (mU y1) p'];exact⟨u,rfl,mU z⟩
   .rename_i y;simp only[cI]at y;obtain⟨k',y1,y2⟩:=y;rw[iB 1 y2 (mU y1) p'];exact ih z
   .cases z
 .cases z
def C4{x:V}{l:List V}{d:D}(z:gk x=some l)(p:bC h S x d):∃s,Ev.gk h d=some s/\ay h S l s.1/\(∀q∈s.2,d=.ref q.1/\aY h q.1=some q.2):=by
 cases x<;>simp only[gk,reduceCtorEq]at z<;>simp only[bC,Rep]at p
 .subst p;cases z;exact⟨_,rfl,ay.map (f:=λc=>V.str [c]) (g:=λc=>D.str [c]) (λ_=>by simp[Rep]) _,by simp⟩
 .obtain⟨ds,rfl,p⟩:=p;cases z;exact⟨_,rfl,p,by simp⟩
 .obtain⟨n,ds,rfl,a,p⟩:=p;cases z;exact⟨(ds,[(n,ds)]),by simp[Ev.gk,iA a],p,by simp[iA a]⟩
 .obtain⟨n,ds,rfl,_,a,p⟩:=p;cases z;exact⟨(ds,[(n,ds)]),by simp[Ev.gk,iJ a],p,by simp[iJ a]⟩
def uK(lo:Int)(n:Nat):ay h S (range lo n) (Ev.range lo n):=ay.map (f:=λ(i:Nat)=>V.int (lo+i)) (g:=λ(i:Nat)=>D.int (lo+i)) (λ_=>by simp[Rep]) _
def Ll{xs l:List V}{ds:List D}(z:e8 xs=some l)(p:fR h S xs ds):∃s,Ev.e8 ds=some (s,[])/\ay h S l s:=by
 unfold e8 at z;split at z
 .obtain⟨d,rfl,p1⟩:=p.one;simp only[bC,Rep]at p1;subst p1;split at z
  .rename_i k;cases z;exact⟨_,by simp only[Ev.e8];rw[cS k],uK _ _⟩
  .cases z
 .simp only[fR,bC,Rep]at p;obtain⟨_,_,rfl,rfl,_,_,rfl,rfl,rfl⟩:=p;split at z
  .rename_i k;cases z;exact⟨_,by simp only[Ev.e8];rw[cS k],uK _ _⟩
  .cases z
 .cases z
theorem xA:∀{a:List V}{ds:List D}(k:Int),ay h S a ds->ay h S (gF k a) (Ev.gF k ds)
 |[],_,_,p=>by simp only[ay]at p;subst p;simp[gF,Ev.gF,ay]
 |x :: xs,_,k,p=>by
  simp only[ay]at p;obtain⟨d,ds,rfl,p1,p2⟩:=p;simp only[gF,Ev.gF];exact .cons ⟨_,rfl,.cons rfl (.cons p1 .nil)⟩ (xA _ p2)
end
noncomputable def ki(M B:Nat->Prop)(h:Hh)(S:Nat->Prop):Option Sl->Option D->Prop
 |none,p=>p=none
 |some (.val v),p=>∃d,p=some d/\Rep h S v d
 |some (.own l),p=>∃m ds,p=some (.ref m)/\(M m/\¬ B m)/\h[m]?=some (.lst ds)/\ay h S l ds
 |some (.bor l),p=>∃m ds,p=some (.ref m)/\(M m/\B m)/\h[m]?=some (.lst ds)/\ay h S l ds
 |some (.ro l),p=>∃m ds,p=some (.ref m)/\¬ M m/\h[m]?=some (.lst ds)/\ay h S l ds
noncomputable def gU:Option Sl->Bool
 |some (.own _)=>true
 |some (.bor _)=>true
 |_=>false
noncomputable def xB:Option Sl->Bool
 |some (.bor _)=>true
 |some (.ro _)=>true
 |_=>false
noncomputable def locked(fr:Fr)(i:Nat):Bool:=match fr[i]? with
 |some o=>xB o
 |none=>false
structure aW(M B:Nat->Prop)(h:Hh)(S:Nat->Prop)(fr:Fr)(ai:Ev.Fr):Prop where
 wS:∀m,S m->m<h.length/\¬ M m/\¬ B m
 wM:∀m,M m->m<h.length
 wB:∀m,B m->m<h.length
 len:fr.length=ai.length
 sl:∀(i:Nat) o p,fr[i]?=some o->ai[i]?=some p->ki M B h S o p
 inj:∀(i j:Nat) o o' m,fr[i]?=some o->fr[j]?=some o'->gU o=true->gU o'=true->ai[i]?=some (some (.ref m))->ai[j]?=some (some (.ref m))->i=j
structure Tk(X:Nat->Prop)(h:Hh)(S:Nat->Prop)(h':Hh)(S':Nat->Prop):Prop where
 len:h.length<=h'.length
 keep:∀m,m<h.length->¬ X m->h'[m]?=h[m]?
 sub:∀m,S m->S' m
 new:∀m,S' m->S m\/(h.length<=m/\m<h'.length)
noncomputable def Xs(M:Nat->Prop)(ai:Ev.Fr)(l:List Nat):Nat->Prop:=λm=>M m/\∃i∈l,ai[i]?=some (some (.ref m))
structure Out(M B:Nat->Prop)(c:List Nat)(h:Hh)(S:Nat->Prop)(fr:Fr)(ai:Ev.Fr)(h':Hh)(S':Nat->Prop)(af:Fr):Prop where
 f:aW M B h' S' af ai
 tr:Tk (Xs M ai c) h S h' S'
 lk:∀i,locked af i=locked fr i
section
variable{M B:Nat->Prop}{h h' h1 h2:Hh}{S S' S1 S2:Nat->Prop}{fr af aq:Fr}{ai:Ev.Fr}{c c1 c2:List Nat}{v:V}{d:D}{X X1 X2:Nat->Prop}
def aW.get(f:aW M B h S fr ai){i:Nat}{o:Option Sl}(e:fr[i]?=some o):∃p,ai[i]?=some p/\ki M B h S o p:=by
 have h1:=(List.getElem?_eq_some_iff.mp e).1;rw[f.len]at h1;exact⟨ai[i],xZ h1,f.sl i o _ e (xZ h1)⟩
def aW.w(f:aW M B h S fr ai):∀m,S m->m<h.length:=λm q=>(f.wS m q).1
def Al.tr(a:Al h S h' S'):Tk X h S h' S':=⟨a.len,λm q _=>a.keep m q,a.sub,a.new⟩
def Tk.al(t:Tk X h S h' S')(z:∀m,¬ X m):Al h S h' S':=⟨t.len,λm q=>t.keep m q (z m),t.sub,t.new⟩
def Tk.weak(t:Tk X h S h' S')(q:∀m,X m->X1 m):Tk X1 h S h' S':=⟨t.len,λm k z=>t.keep m k λy=>z (q m y),t.sub,t.new⟩
def Tk.trans(a:Tk X1 h S h1 S1)(b:Tk X2 h1 S1 h2 S2):Tk (λm=>X1 m\/X2 m) h S h2 S2 where
 len:=VE a.len b.len
 keep:=λm q z=>by rw[b.keep m (fB q a.len) (λy=>z (.inr y)),a.keep m q (λy=>z (.inl y))]
 sub:=λm q=>b.sub m (a.sub m q)
 new:=λm q=>by
  rcases b.new m q with q|⟨q1,q2⟩
  .rcases a.new m q with q|⟨q1,q2⟩
   .exact .inl q
   .exact .inr ⟨q1,fB q2 b.len⟩
  .exact .inr ⟨VE a.len q1,q2⟩
theorem Al.trans(a:Al h S h1 S1)(b:Al h1 S1 h2 S2):Al h S h2 S2:=((a.tr (X:=λ_=>False)).trans (b.tr (X:=λ_=>False))).al λm z=>by simp at z
def Tk.refl:Tk X h S h S:=⟨vn _,λ_ _ _=>rfl,λ_ q=>q,λ_ q=>.inl q⟩
def Xs.app{l1 l2:List Nat}{m:Nat}:Xs M ai (l1++l2) m↔Xs M ai l1 m\/Xs M ai l2 m:=by
 unfold Xs;constructor
 .rintro⟨a,i,hi,e⟩;rcases List.mem_append.mp hi with hi|hi
  .exact .inl ⟨a,i,hi,e⟩
  .exact .inr ⟨a,i,hi,e⟩
 .rintro(⟨a,i,hi,e⟩|⟨a,i,hi,e⟩)
  .exact⟨a,i,List.mem_append.mpr (.inl hi),e⟩
  .exact⟨a,i,List.mem_append.mpr (.inr hi),e⟩
def Xs.nil{m:Nat}:¬ Xs M ai [] m:=by rintro⟨_,i,hi,_⟩;simp at hi
def Xs.mono{l1 l2:List Nat}(q:∀i∈l1,i∈l2){m:Nat}:Xs M ai l1 m->Xs M ai l2 m:=λ⟨a,i,hi,e⟩=>⟨a,i,q i hi,e⟩
def Rep.tr(q:Rep h S v d)(f:aW M B h S fr ai)(t:Tk (Xs M ai c) h S h' S'):Rep h' S' v d:=q.mono (λm z=>t.keep m (f.wS m z).1 (λy=>(f.wS m z).2.1 y.1)) t.sub
def ay.tr{l:List V}{ds:List D}(q:ay h S l ds)(f:aW M B h S fr ai)(t:Tk (Xs M ai c) h S h' S'):ay h' S' l ds:=q.mono (λm z=>t.keep m (f.wS m z).1 (λy=>(f.wS m z).2.1 y.1)) t.sub
def bC.tr(q:bC h S v d)(f:aW M B h S fr ai)(t:Tk X h S h' S')(z:∀m,¬ X m):bC h' S' v d:=q.mono (λm k=>t.keep m k (z m)) f.w t.sub
def ki.al{o:Option Sl}{p:Option D}(q:ki M B h S o p)(w:∀m,S m->m<h.length)(a:Al h S h' S'):ki M B h' S' o p:=by
 have k:∀m,S m->h'[m]?=h[m]?:=λm z=>a.keep m (w m z);have g:∀(m:Nat) (ds:List D),h[m]?=some (O.lst ds)->h'[m]?=some (O.lst ds):=λm ds z=>by rw[a.keep m (List.getElem?_eq_some_iff.mp z).1];exact z
 rcases o with _|s
 .exact q
 .cases s with
  |val v=>obtain⟨d,e,q⟩:=q;exact⟨d,e,q.mono k a.sub⟩
  |own l=>obtain⟨m,ds,e,z,y,q⟩:=q;exact⟨m,ds,e,z,g m ds y,q.mono k a.sub⟩
  |bor l=>obtain⟨m,ds,e,z,y,q⟩:=q;exact⟨m,ds,e,z,g m ds y,q.mono k a.sub⟩
  |ro l=>obtain⟨m,ds,e,z,y,q⟩:=q;exact⟨m,ds,e,z,g m ds y,q.mono k a.sub⟩
theorem aW.al(f:aW M B h S fr ai)(a:Al h S h' S'):aW M B h' S' fr ai where
 wS:=λm q=>by
  rcases a.new m q with q|⟨q1,q2⟩
  .exact⟨fB (f.wS m q).1 a.len,(f.wS m q).2⟩
  .exact⟨q2,λz=>by have:=f.wM m z;omega,λz=>by have:=f.wB m z;omega⟩
 wM:=λm q=>fB (f.wM m q) a.len
 wB:=λm q=>fB (f.wB m q) a.len
 len:=f.len
 sl:=λi o p e1 e2=>(f.sl i o p e1 e2).al f.w a
 inj:=f.inj
theorem Out.refl(f:aW M B h S fr ai):Out M B c h S fr ai h S fr:=⟨f,.refl,λ_=>rfl⟩
theorem Out.trans(a:Out M B c1 h S fr ai h1 S1 af)(b:Out M B c2 h1 S1 af ai h2 S2 aq):Out M B (c1++c2) h S fr ai h2 S2 aq:=⟨b.f,(a.tr.trans b.tr).weak λm z=>Xs.app.mpr z,λi=>(b.lk i).trans (a.lk i)⟩
theorem Out.al(a:Out M B c h S fr ai h1 S1 af)(b:Al h1 S1 h2 S2):Out M B c h S fr ai h2 S2 af:=⟨a.f.al b,(a.tr.trans (b.tr (X:=λ_=>False))).weak (λm z=>by rcases z with z|z;exact z;exact z.elim),a.lk⟩
theorem Out.weak(a:Out M B c h S fr ai h1 S1 af)(q:∀i∈c,i∈c1):Out M B c1 h S fr ai h1 S1 af:=⟨a.f,a.tr.weak λm z=>Xs.mono q z,a.lk⟩
noncomputable def gb(k:Bool)(h:Hh)(S:Nat->Prop)(v:V)(d:D):Prop:=if k=true then bC h S v d else Rep h S v d
def gb.of{k:Bool}(q:Rep h S v d):gb k h S v d:=by unfold gb;split;exact q.top;exact q
def gb.t{k:Bool}(q:gb k h S v d):bC h S v d:=by unfold gb at q;split at q;exact q;exact q.top
def gb.n(q:gb false h S v d):Rep h S v d:=by simpa[gb]using q
def aW.slot(f:aW M B h S fr ai){i m:Nat}(e:ai[i]?=some (some (.ref m)))(hm:M m):∃o,fr[i]?=some o/\gU o=true:=by
 have hl:i<fr.length:=by rw[f.len];exact(List.getElem?_eq_some_iff.mp e).1
 refine⟨fr[i],xZ hl,?_⟩;have s:=f.sl i _ _ (xZ hl) e
 revert s
 generalize fr[i]=o
 intro s;rcases o with _|s'
 .cases s
 .cases s' with
  |own l=>rfl
  |bor l=>rfl
  |ro l=>obtain⟨m',ds,e,y,_⟩:=s;cases e;exact absurd hm y
  |val v=>
   obtain⟨d,e,q⟩:=s;cases e;exfalso;cases v<;>simp only[Rep,reduceCtorEq]at q
   .obtain⟨_,e,_⟩:=q;cases e
   .obtain⟨n,ds,e,sn,_⟩:=q;cases e;exact(f.wS _ sn).2.1 hm
   .obtain⟨n,ds,e,sn,_⟩:=q;cases e;exact(f.wS _ sn).2.1 hm
theorem gb.tr{k:Bool}{a:E}(q:gb k h S v d)(f:aW M B h S fr ai)(t:Tk (Xs M ai c) h S h' S')(hk:k=true->kf a c=true)(ha:∀i,a=.v i->ai[i]?.join=some d):gb k h' S' v d:=by
 unfold gb at q ⊢;split at q
 .rename_i e;rw[cS e];have hk:=hk e;have gen:c=[]->bC h' S' v d:=λz=>q.tr f t λm y=>by subst z;exact Xs.nil y
  by_cases hv:∃i,a=.v i
  .obtain⟨i0,rfl⟩:=hv;simp only[kf,V1,List.contains_eq_mem,Yd]at hk;cases v
   case lst l=>
    simp only[bC]at q ⊢;obtain⟨n,ds,rfl,b1,b2⟩:=q;refine⟨n,ds,rfl,?_,b2.tr f t⟩;rw[t.keep n (List.getElem?_eq_some_iff.mp b1).1 ?_]
    .exact b1
    .rintro⟨mn,j,hj,ej⟩;have e2:ai[i0]?=some (some (D.ref n)):=by
      have:=ha i0 rfl;cases z:ai[i0]? with
      |none=>rw[z]at this;cases this
      |some p=>rw[z]at this;simp at this;rw[this]
     obtain⟨o1,y1,y2⟩:=f.slot e2 mn;obtain⟨o2,y3,y4⟩:=f.slot ej mn;have:=f.inj i0 j o1 o2 n y1 y3 y2 y4 e2 ej;subst this;exact hk hj
   all_goals exact Rep.tr (show Rep h S _ d from q) f t
  .have:kf a c=c.isEmpty:=by
    cases a<;>first|rfl|exact absurd ⟨_,rfl⟩ hv
   rw[this,List.isEmpty_iff]at hk;exact gen hk
 .rename_i e;rw[Qm e];exact q.tr f t
def Ht{k:Bool}{i:Nat}(e:iZ k fr i=some v)(f:aW M B h S fr ai):∃d,ai[i]?.join=some d/\gb k h S v d:=by
  unfold iZ at e;split at e
  . rename_i z;obtain⟨p,e1,q⟩:=f.get z;obtain⟨d,rfl,q⟩:=q;cases e;exact⟨d,by rw[e1];rfl,.of q⟩
  all_goals first
    | (rename_i z
       obtain⟨p,e1,q⟩:=f.get z;obtain⟨m,ds,rfl,_,y,q⟩:=q;split at e
       . rename_i hk;cases e;exact⟨.ref m,by rw[e1];rfl,by unfold gb;rw[cS hk];exact⟨m,ds,rfl,y,q⟩⟩
       . cases e)
    |cases e
def gW{i:Nat}{s:Sl}(e:lent fr i=some s)(f:aW M B h S fr ai):∃m ds l o,fr[i]?=some o/\ai[i]?=some (some (.ref m))/\h[m]?=some (.lst ds)/\ay h S l ds/\((s=.bor l/\M m/\gU o=true)\/(s=.ro l/\¬ M m/\o=some (.ro l))):=by
 unfold lent at e;split at e
 .rename_i s' z;obtain⟨p,e1,q⟩:=f.get z;cases s' with
  |val v=>simp[Sl.lend]at e
  |own l=>
   simp[Sl.lend]at e;subst e;obtain⟨m,ds,rfl,y,y1,q⟩:=q;exact⟨m,ds,l,_,z,e1,y1,q,.inl ⟨rfl,y.1,rfl⟩⟩
  |bor l=>
   simp[Sl.lend]at e;subst e;obtain⟨m,ds,rfl,y,y1,q⟩:=q;exact⟨m,ds,l,_,z,e1,y1,q,.inl ⟨rfl,y.1,rfl⟩⟩
  |ro l=>
   simp[Sl.lend]at e;subst e;obtain⟨m,ds,rfl,y,y1,q⟩:=q;exact⟨m,ds,l,_,z,e1,y1,q,.inr ⟨rfl,y,rfl⟩⟩
 .cases e
noncomputable def sM(h:Hh)(S:Nat->Prop)(ai:Ev.Fr):List (Nat ⊕ V)->List D->Prop
 |[],ds=>ds=[]
 |.inl i :: r,ds=>∃d es,ds=d :: es/\ai[i]?=some (some d)/\sM h S ai r es
 |.inr v :: r,ds=>∃d es,ds=d :: es/\Rep h S v d/\sM h S ai r es
noncomputable def j6(h:Hh)(S:Nat->Prop):List Sl->List D->List (List V)->Prop
 |[],_,os=>os=[]
 |.val _ :: sl,ds,os=>∃d es,ds=d :: es/\j6 h S sl es os
 |.own _ :: _,_,_=>False
 |_ :: sl,ds,os=>∃d es l r m cs,ds=d :: es/\os=l :: r/\d=.ref m/\h[m]?=some (.lst cs)/\ay h S l cs/\j6 h S sl es r
noncomputable def nK(P:aF)(P':Ev.aF):Prop:=∀f sl v os,P f sl=some (v,os)->∀(h:Hh) (S B:Nat->Prop) (ds:List D),aW B B h S (sl.map some) (ds.map some)->
 ∃d h' S',P' f ds h=.ok d h'/\Rep h' S' v d/\Tk B h S h' S'/\j6 h' S' sl ds os
theorem Yv(f:aW M B h S fr ai):∀{as:List (Nat ⊕ V)}{sl:List Sl}{ds:List D},args fr as=some sl->sM h S ai as ds->sl.length=ds.length/\∀(a:Nat) s d,sl[a]?=some s->ds[a]?=some d->
  (∃i,as[a]?=some (.inl i)/\lent fr i=some s/\ai[i]?=some (some d))\/(∃v,s=.val v/\Rep h S v d)
 |[],sl,ds,e,q=>by
  simp[args]at e;simp only[sM]at q;subst e q;simp
 |.inl i :: r,sl,ds,e,q=>by
  simp only[args,cI,cL]at e;obtain⟨s,e1,l,e2,rfl⟩:=e;obtain⟨d,es,rfl,q1,q⟩:=q;obtain⟨h1,h2⟩:=Yv f e2 q;refine⟨by simp[h1],λa s' d' z1 z2=>?_⟩;cases a with
  |zero=>simp at z1 z2;subst z1 z2;exact .inl ⟨i,by simp,e1,q1⟩
  |succ a=>exact(h2 a s' d' (by simpa using z1) (by simpa using z2)).imp (λ⟨i,k,z⟩=>⟨i,by simpa using k,z⟩) id
 |.inr v :: r,sl,ds,e,q=>by
  simp only[args,cL]at e;obtain⟨l,e2,rfl⟩:=e;obtain⟨d,es,rfl,q1,q⟩:=q;obtain⟨h1,h2⟩:=Yv f e2 q;refine⟨by simp[h1],λa s' d' z1 z2=>?_⟩;cases a with
  |zero=>simp at z1 z2;subst z1 z2;exact .inr ⟨v,rfl,q1⟩
  |succ a=>exact(h2 a s' d' (by simpa using z1) (by simpa using z2)).imp (λ⟨i,k,z⟩=>⟨i,by simpa using k,z⟩) id
theorem gX:∀{as:List (Nat ⊕ V)}{a i:Nat},as[a]?=some (.inl i)->i∈bJ as
 |[],_,_,e=>by simp at e
 |.inl j :: r,0,i,e=>by simp at e;subst e;simp[bJ]
 |.inr j :: r,0,i,e=>by simp at e
 |.inl j :: r,a+1,i,e=>by have:=gX (as:=r) (a:=a) (i:=i) (by simpa using e);simp[bJ,this]
 |.inr j :: r,a+1,i,e=>by have:=gX (as:=r) (a:=a) (i:=i) (by simpa using e);simp[bJ,this]
theorem mV:∀{as:List (Nat ⊕ V)}{a b i:Nat},(bJ as).Nodup->as[a]?=some (.inl i)->as[b]?=some (.inl i)->a=b
 |[],_,_,_,_,e,_=>by simp at e
 |x :: r,0,0,_,_,_,_=>rfl
 |.inr j :: r,0,b+1,i,n,e,_=>by simp at e
 |.inl j :: r,0,b+1,i,n,e,e2=>by
  simp at e;subst e;simp only[bJ,Xm]at n;exact absurd (gX (as:=r) (a:=b) (by simpa using e2)) n.1
 |.inr j :: r,a+1,0,i,n,_,e=>by simp at e
 |.inl j :: r,a+1,0,i,n,e2,e=>by
  simp at e;subst e;simp only[bJ,Xm]at n;exact absurd (gX (as:=r) (a:=a) (by simpa using e2)) n.1
 |.inl j :: r,a+1,b+1,i,n,e1,e2=>by
  simp only[bJ,Xm]at n;have:=mV (as:=r) (a:=a) (b:=b) (i:=i) n.2 (by simpa using e1) (by simpa using e2);omega
 |.inr j :: r,a+1,b+1,i,n,e1,e2=>by
  simp only[bJ]at n;have:=mV (as:=r) (a:=a) (b:=b) (i:=i) n (by simpa using e1) (by simpa using e2);omega
def C5{s:Sl}{l:List V}:gU (some (s.with l))=gU (some s):=by cases s<;>rfl
def xC{s:Sl}{l:List V}:xB (some (s.with l))=xB (some s):=by cases s<;>rfl
theorem uL:∀{is:List Nat}{ls:List (List V)}{fr af:Fr},back is ls fr=some af->is.Nodup->af.length=fr.length/\(∀i,i∉is->af[i]?=fr[i]?)/\∀i∈is,∃(k:Nat) (s:Sl) (l:List V),is[k]?=some i/\ls[k]?=some l/\fr[i]?=some (some s)/\af[i]?=some (some (s.with l))
 |[],[],fr,af,e,_=>by simp[back]at e;subst e;simp
 |[],_ :: _,_,_,e,_=>by simp[back]at e
 |_ :: _,[],_,_,e,_=>by simp[back]at e
 |i :: is,l :: ls,fr,af,e,n=>by
  simp only[back]at e;simp only[Xm]at n;split at e
  .rename_i s z;obtain⟨h1,h2,h3⟩:=uL e n.2;refine⟨by simpa using h1,λj hj=>?_,λj hj=>?_⟩
   .simp at hj;rw[h2 j hj.2,gI (λq=>hj.1 q.symm)]
   .rcases List.mem_cons.mp hj with rfl|hj
    .exact⟨0,s,l,by simp,by simp,z,by rw[h2 j n.1,Ei (List.getElem?_eq_some_iff.mp z).1]⟩
    .obtain⟨k,s',l',a,b,c,d⟩:=h3 j hj;have hne:i≠j:=λq=>n.1 (q▸hj);rw[gI hne]at c;exact⟨k+1,s',l',by simpa using a,by simpa using b,c,d⟩
  .cases e
theorem mW(f:aW M B h S fr ai):∀{as:List (Nat ⊕ V)}{sl:List Sl}{ds:List D}{os:List (List V)},args fr as=some sl->sM h S ai as ds->j6 h' S' sl ds os->
  ∀(k i:Nat) l,(bJ as)[k]?=some i->os[k]?=some l->∃m cs,ai[i]?=some (some (.ref m))/\h'[m]?=some (.lst cs)/\ay h' S' l cs
 |[],sl,ds,os,e,q,o=>by simp[bJ]
 |.inl i :: r,sl,ds,os,e,q,o=>by
  simp only[args,cI,cL]at e;obtain⟨s,e1,l,e2,rfl⟩:=e;obtain⟨d,es,rfl,q1,q⟩:=q;obtain⟨m,cs,l0,o0,_,z2,z3,z4,z5⟩:=gW e1 f;have key:∃l1 r1 cs,os=l1 :: r1/\h'[m]?=some (.lst cs)/\ay h' S' l1 cs/\j6 h' S' l es r1:=by
   rw[q1]at z2;cases z2;rcases z5 with ⟨rfl,_⟩|⟨rfl,_⟩
   .obtain⟨d',es',l1,r1,m1,Be,a1,a2,a3,a4,a5,a6⟩:=o;cases a1;cases a3;exact⟨l1,r1,Be,a2,a4,a5,a6⟩
   .obtain⟨d',es',l1,r1,m1,Be,a1,a2,a3,a4,a5,a6⟩:=o;cases a1;cases a3;exact⟨l1,r1,Be,a2,a4,a5,a6⟩
  obtain⟨l1,r1,Be,rfl,a4,a5,a6⟩:=key;intro k j l' y1 y2;cases k with
  |zero=>simp[bJ]at y1 y2;subst y1 y2;exact⟨m,Be,z2,a4,a5⟩
  |succ k=>exact mW f e2 q a6 k j l' (by simpa[bJ]using y1) (by simpa using y2)
 |.inr v :: r,sl,ds,os,e,q,o=>by
  simp only[args,cL]at e;obtain⟨l,e2,rfl⟩:=e;obtain⟨d,es,rfl,q1,q⟩:=q;obtain⟨d',es',a1,a2⟩:=o;cases a1;intro k j l' y1 y2;exact mW f e2 q a2 k j l' (by simpa[bJ]using y1) y2
theorem kY:∀{as:List (Nat ⊕ V)}{sl:List Sl}{i:Nat},args fr as=some sl->i∈bJ as->∃s,lent fr i=some s
 |[],_,_,_,q=>by simp[bJ]at q
 |.inl j :: r,_,i,z,q=>by
  simp only[args,cI,cL]at z;obtain⟨s,e1,l,e2,rfl⟩:=z;simp[bJ]at q;rcases q with rfl|q
  .exact⟨s,e1⟩
  .exact kY e2 q
 |.inr u :: r,_,i,z,q=>by
  simp only[args,cL]at z;obtain⟨l,e2,rfl⟩:=z;exact kY e2 (by simpa[bJ]using q)
noncomputable def LB(fr:Fr)(ai:Ev.Fr)(as:List (Nat ⊕ V)):Nat->Prop:=λm=>∃(i:Nat) (o:Option Sl),i∈bJ as/\fr[i]?=some o/\gU o=true/\ai[i]?=some (some (.ref m))
theorem LB.m(f:aW M B h S fr ai){as:List (Nat ⊕ V)}:∀m,LB fr ai as m->M m:=λm ⟨i,o,_,a,b,c⟩=>by
  have s:=f.sl i o _ a c;rcases o with _|s'
  .cases b
  .cases s' with
   |val v=>cases b
   |ro l=>cases b
   |own l=>obtain⟨m',ds',e,y,_⟩:=s;cases e;exact y.1
   |bor l=>obtain⟨m',ds',e,y,_⟩:=s;cases e;exact y.1
def xD(f:aW M B h S fr ai){as:List (Nat ⊕ V)}{sl:List Sl}{ds:List D}(nd:(bJ as).Nodup)(z:args fr as=some sl)(q:sM h S ai as ds):aW (LB fr ai as) (LB fr ai as) h S (sl.map some) (ds.map some):=by
 have oF:=LB.m f (as:=as);obtain⟨hl,hg⟩:=Yv f z q;refine⟨λm y=>⟨(f.wS m y).1,λz=>(f.wS m y).2.1 (oF m z),λz=>(f.wS m y).2.1 (oF m z)⟩,λm y=>f.wM m (oF m y),λm y=>f.wM m (oF m y),by simp[hl],λa o p y1 y2=>?_,λa b o o' m y1 y2 y3 y4 y5 y6=>?_⟩
 .simp at y1 y2;obtain⟨s,y1,rfl⟩:=y1;obtain⟨d,y2,rfl⟩:=y2;rcases hg a s d y1 y2 with ⟨i,k1,k2,k3⟩|⟨u,rfl,k⟩
  .obtain⟨m,cs,l0,o0,w1,w2,w3,w4,w5⟩:=gW k2 f;rw[k3]at w2;cases w2;rcases w5 with ⟨rfl,w6,w7⟩|⟨rfl,w6,w7⟩
   .exact⟨m,cs,rfl,⟨⟨i,o0,gX k1,w1,w7,k3⟩,⟨i,o0,gX k1,w1,w7,k3⟩⟩,w3,w4⟩
   .exact⟨m,cs,rfl,λz=>w6 (oF m z),w3,w4⟩
  .exact⟨d,rfl,k⟩
 .simp at y1 y2 y5 y6;obtain⟨s,y1,rfl⟩:=y1;obtain⟨s',y2,rfl⟩:=y2;rcases hg a s _ y1 y5 with ⟨i,k1,k2,k3⟩|⟨u,rfl,k⟩
  .rcases hg b s' _ y2 y6 with ⟨j,k4,k5,k6⟩|⟨u,rfl,k⟩
   .obtain⟨m1,_,l1,o1,w1,w2,_,_,w5⟩:=gW k2 f;obtain⟨m2,_,l2,o2,x1,x2,_,_,x5⟩:=gW k5 f;have i1:gU o1=true:=by rcases w5 with ⟨_,_,w7⟩|⟨rfl,_,_⟩;exact w7;cases y3
    have i2:gU o2=true:=by rcases x5 with ⟨_,_,w7⟩|⟨rfl,_,_⟩;exact w7;cases y4
    have:=f.inj i j o1 o2 m w1 x1 i1 i2 k3 k6;subst this;exact mV nd k1 k4
   .cases y4
  .cases y3
def pe{P:aF}{P':Ev.aF}(HP:nK P P'){g:Nat}{as:List (Nat ⊕ V)}{ds:List D}(e:eS P g as fr=.ok v af)(f:aW M B h S fr ai)(q:sM h S ai as ds) :
  ∃d h' S',P' g ds h=.ok d h'/\Rep h' S' v d/\Out M B (bJ as) h S fr ai h' S' af:=by
 unfold eS at e;split at e
 case isFalse=>cases e
 rename_i nd;cases z:args fr as with
 |none=>rw[z]at e;cases e
 |some sl=>
 rw[z]at e;simp only at e;cases z2:P g sl with
 |none=>rw[z2]at e;cases e
 |some vo=>
 obtain⟨v',os⟩:=vo;rw[z2]at e;simp only at e;cases z3:back (bJ as) os fr with
 |none=>rw[z3]at e;cases e
 |some aq=>
 rw[z3]at e;simp at e;obtain⟨rfl,rfl⟩:=e;obtain⟨hl,hg⟩:=Yv f z q
 let B0:Nat->Prop:=LB fr ai as
 have oF:∀m,B0 m->M m:=LB.m f;have F0:aW B0 B0 h S (sl.map some) (ds.map some):=xD f nd z q;obtain⟨d,h',S',c1,c2,c3,c4⟩:=HP g sl v' os z2 h S B0 ds F0;obtain⟨b1,b2,b3⟩:=uL z3 nd;have hL:=mW f z q c4;have pZ:∀m,S m->h'[m]?=h[m]?:=λm y=>c3.keep m (f.wS m y).1 (λz=>(f.wS m y).2.1 (oF m z));refine⟨d,h',S',c1,c2,⟨?_,?_,?_⟩⟩
 .refine⟨λm y=>?_,λm y=>fB (f.wM m y) c3.len,λm y=>fB (f.wB m y) c3.len,by rw[b1,f.len],λi o p y1 y2=>?_,λi j o o' m y1 y2 y3 y4 y5 y6=>?_⟩
  .rcases c3.new m y with y|⟨y1,y2⟩
   .exact⟨fB (f.wS m y).1 c3.len,(f.wS m y).2⟩
   .exact⟨y2,λz=>by have:=f.wM m z;omega,λz=>by have:=f.wB m z;omega⟩
  .by_cases hi:i∈bJ as
   .obtain⟨k,s,l,w1,w2,w3,w4⟩:=b3 i hi;rw[w4]at y1;cases y1;obtain⟨m,cs,x1,x2,x3⟩:=hL k i l w1 w2;rw[x1]at y2;cases y2;have old:=f.sl i _ _ w3 x1;cases s with
    |val u=>
     exfalso;have:∃s,lent fr i=some s:=kY z hi;obtain⟨s,hs⟩:=this;simp[lent,w3,Sl.lend]at hs
    |own u=>obtain⟨m',ds',e,y,_⟩:=old;cases e;exact⟨m,cs,rfl,y,x2,x3⟩
    |bor u=>obtain⟨m',ds',e,y,_⟩:=old;cases e;exact⟨m,cs,rfl,y,x2,x3⟩
    |ro u=>
     obtain⟨m',ds',e,y,y1,y2⟩:=old;cases e;refine⟨m,ds',rfl,y,?_,y2.mono pZ c3.sub⟩;rw[c3.keep m (List.getElem?_eq_some_iff.mp y1).1 (λz=>y (oF m z))];exact y1
   .rw[b2 i hi]at y1;have old:=f.sl i o p y1 y2;rcases o with _|s
    .exact old
    .cases s with
     |val u=>obtain⟨d,e,q⟩:=old;exact⟨d,e,q.mono pZ c3.sub⟩
     |own u=>
      obtain⟨m,ds',rfl,w1,w2,w3⟩:=old;refine⟨m,ds',rfl,w1,?_,w3.mono pZ c3.sub⟩;rw[c3.keep m (f.wM m w1.1) (λ⟨j,o2,x1,x2,x3,x4⟩=>hi (f.inj i j _ o2 m y1 x2 rfl x3 y2 x4▸x1))];exact w2
     |bor u=>
      obtain⟨m,ds',rfl,w1,w2,w3⟩:=old;refine⟨m,ds',rfl,w1,?_,w3.mono pZ c3.sub⟩;rw[c3.keep m (f.wM m w1.1) (λ⟨j,o2,x1,x2,x3,x4⟩=>hi (f.inj i j _ o2 m y1 x2 rfl x3 y2 x4▸x1))];exact w2
     |ro u=>
      obtain⟨m,ds',rfl,w1,w2,w3⟩:=old;refine⟨m,ds',rfl,w1,?_,w3.mono pZ c3.sub⟩;rw[c3.keep m (List.getElem?_eq_some_iff.mp w2).1 (λz=>w1 (oF m z))];exact w2
  .have kind:∀(i:Nat) o,aq[i]?=some o->gU o=true->∃o0,fr[i]?=some o0/\gU o0=true:=λi o w1 w2=>by
    by_cases hi:i∈bJ as
    .obtain⟨k,s,l,x1,x2,x3,x4⟩:=b3 i hi;rw[x4]at w1;cases w1;exact⟨_,x3,by rw[C5]at w2;exact w2⟩
    .rw[b2 i hi]at w1;exact⟨o,w1,w2⟩
   obtain⟨oi,k1,k2⟩:=kind i o y1 y3;obtain⟨oj,k3,k4⟩:=kind j o' y2 y4;exact f.inj i j oi oj m k1 k3 k2 k4 y5 y6
 .exact c3.weak λm z=>⟨oF m z,by obtain⟨i,o,a1,a2,a3,a4⟩:=z;exact⟨i,a1,a4⟩⟩
 .intro i;unfold locked;by_cases hi:i∈bJ as
  .obtain⟨k,s,l,x1,x2,x3,x4⟩:=b3 i hi;rw[x3,x4];exact xC
  .rw[b2 i hi]
end
end Pv
namespace Pv
open Ev (D O Hh)
end Pv
namespace Pv
open Ev (D O Hh aU aR TY BI ME T E Es Eo It S Ss Fn big deep b2i rep bE dg bz aN cut bO bu slots aY)
section
variable{M B:Nat->Prop}{h h' h1 h2:Hh}{S S' S1 S2:Nat->Prop}{fr af aq:Fr}{ai:Ev.Fr}{c:List Nat}{v:V}{d:D}
def kE{n m:Nat}{o:O}(q:n≠m):(h.set n o)[m]?=h[m]?:=gI q
def aW.mM(f:aW M B h S fr ai){i n:Nat}{o:Option Sl}(e:fr[i]?=some o)(hM:gU o=true)(e':ai[i]?=some (some (.ref n))):M n:=by
 have s:=f.sl i o _ e e';rcases o with _|s'
 .cases hM
 .cases s' with
  |val v=>cases hM
  |ro l=>cases hM
  |own l=>obtain⟨m',ds',e,y,_⟩:=s;cases e;exact y.1
  |bor l=>obtain⟨m',ds',e,y,_⟩:=s;cases e;exact y.1
def aW.write(f:aW M B h S fr ai){i n:Nat}{s:Sl}{l':List V}{ds':List D}(e:fr[i]?=some (some s))(hM:gU (some s)=true)(e':ai[i]?=some (some (.ref n)))(q:ay h S l' ds') :
  aW M B (h.set n (.lst ds')) S (fr.set i (some (s.with l'))) ai:=by
 have mn:=f.mM e hM e';have kp:∀m,S m->(h.set n (.lst ds'))[m]?=h[m]?:=λm z=>kE λy=>(f.wS m z).2.1 (y▸mn);have il:=(List.getElem?_eq_some_iff.mp e).1;refine⟨λm y=>by simpa using f.wS m y,λm y=>by simpa using f.wM m y,λm y=>by simpa using f.wB m y,by simp[f.len],λj o p y1 y2=>?_,λj k o o' m y1 y2 y3 y4 y5 y6=>?_⟩
 .by_cases hj:i=j
  .subst hj;rw[Ei il]at y1;cases y1;rw[e']at y2;cases y2;have old:=f.sl i _ _ e e';have hn:(h.set n (.lst ds'))[n]?=some (.lst ds'):=Ei (f.wM n mn);cases s with
   |val v=>cases hM
   |ro l=>cases hM
   |own l=>obtain⟨m',_,e,y,_⟩:=old;cases e;exact⟨n,ds',rfl,y,hn,q.mono kp λ_ z=>z⟩
   |bor l=>obtain⟨m',_,e,y,_⟩:=old;cases e;exact⟨n,ds',rfl,y,hn,q.mono kp λ_ z=>z⟩
  .rw[gI hj]at y1;have old:=f.sl j o p y1 y2;rcases o with _|s'
   .exact old
   .cases s' with
    |val u=>obtain⟨d,e,q⟩:=old;exact⟨d,e,q.mono kp λ_ z=>z⟩
    |own u=>
     obtain⟨m,es,rfl,w1,w2,w3⟩:=old;refine⟨m,es,rfl,w1,?_,w3.mono kp λ_ z=>z⟩;rw[kE λ(z:n=m)=>hj (f.inj i j _ _ n e y1 hM rfl e' (by rw[z];exact y2))];exact w2
    |bor u=>
     obtain⟨m,es,rfl,w1,w2,w3⟩:=old;refine⟨m,es,rfl,w1,?_,w3.mono kp λ_ z=>z⟩;rw[kE λ(z:n=m)=>hj (f.inj i j _ _ n e y1 hM rfl e' (by rw[z];exact y2))];exact w2
    |ro u=>
     obtain⟨m,es,rfl,w1,w2,w3⟩:=old;refine⟨m,es,rfl,w1,?_,w3.mono kp λ_ z=>z⟩;rw[kE λ(z:n=m)=>w1 (z▸mn)];exact w2
 .have kind:∀(j:Nat) o,(fr.set i (some (s.with l')))[j]?=some o->gU o=true->∃o0,fr[j]?=some o0/\gU o0=true:=λj o w1 w2=>by
   by_cases hj:i=j
   .subst hj;exact⟨_,e,hM⟩
   .rw[gI hj]at w1;exact⟨o,w1,w2⟩
  obtain⟨oi,k1,k2⟩:=kind j o y1 y3;obtain⟨oj,k3,k4⟩:=kind k o' y2 y4;exact f.inj j k oi oj m k1 k3 k2 k4 y5 y6
def Lm{m:ME}{l l':List V}{xs:List V}{n:Nat}{ds es:List D}(z:mS m l xs=some (v,l'))(e:h[n]?=some (.lst ds))(q:ay h S l ds)(p:fR h S xs es)(p':xq m=false->ay h S xs es)(hS:∀k,S k->k≠n) :
  ∃r ds',Ev.eZ m (.ref n) es h=.ok r (h.set n (.lst ds'))/\Rep h S v r/\ay h S l' ds':=by
 unfold mS at z;split at z
 .have p':=p' rfl;split at z
  .rename_i k;cases z;simp only[ay]at p';obtain⟨d,_,rfl,p1,rfl⟩:=p';refine⟨_,_,?_,rfl,q.append (.cons p1 .nil)⟩
   delta Ev.eZ;dsimp only;simp only[e]
   rw[cS (by rw[<-q.length];exact k)]
  .cases z
 .split at z
  .rename_i k;cases z;obtain⟨d,rfl,p1⟩:=p.one;simp only[bC]at p1;obtain⟨n2,cs,rfl,e2,p1⟩:=p1;refine⟨_,_,?_,rfl,q.append p1⟩
   delta Ev.eZ;dsimp only;simp only[e,e2]
   rw[cS (by rw[<-q.length,<-p1.length];exact k)]
  .cases z
 .simp only[fR]at p;subst p;split at z
  .rename_i x y;cases z;obtain⟨d,k1,k2⟩:=q.get y;refine⟨d,_,?_,k2,q.dropLast⟩
   delta Ev.eZ;dsimp only;simp only[e]
   rw[<-q.length,k1]
  .cases z
 .cases z
theorem aW.set(f:aW M B h S fr ai){i:Nat}(e:put fr i (.val v)=some af)(q:Rep h S v d):aW M B h S af (ai.set i (some d))/\(∀j,locked af j=locked fr j)/\∀j,locked fr j=true->(ai.set i (some d))[j]?=ai[j]?:=by
 have hx:af=fr.set i (some (.val v))/\locked fr i=false:=by
  unfold put at e;unfold locked;split at e
  .cases e
  .cases e
  .rename_i k1 k2;cases e;refine⟨rfl,?_⟩;cases z:fr[i]? with
   |none=>rfl
   |some o=>
    rcases o with _|s
    .rfl
    .cases s with
     |bor l=>exact absurd z (k1 l)
     |ro l=>exact absurd z (k2 l)
     |_=>rfl
 obtain⟨rfl,hk⟩:=hx;have lk:∀j,locked (fr.set i (some (.val v))) j=locked fr j:=λj=>by
  by_cases hj:i=j
  .subst hj;rw[hk];unfold locked;by_cases hl:i<fr.length
   .rw[Ei hl];rfl
   .rw[VG (by simpa using hl)]
  .unfold locked;rw[gI hj]
 refine⟨⟨f.wS,f.wM,f.wB,by simp[f.len],λj o p y1 y2=>?_,λj k o o' m y1 y2 y3 y4 y5 y6=>?_⟩,lk,λj hj=>?_⟩
 .by_cases hj:i=j
  .subst hj;have hl:i<fr.length:=by have:=(List.getElem?_eq_some_iff.mp y1).1;simpa using this
   rw[Ei hl]at y1;rw[Ei (by rw[<-f.len];exact hl)]at y2;cases y1;cases y2;exact⟨d,rfl,q⟩
  .rw[gI hj]at y1 y2;exact f.sl j o p y1 y2
 .have hn:∀(j:Nat) o,(fr.set i (some (.val v)))[j]?=some o->gU o=true->i≠j:=λj o w1 w2 w3=>by
   subst w3;have hl:i<fr.length:=by have:=(List.getElem?_eq_some_iff.mp w1).1;simpa using this
   rw[Ei hl]at w1;cases w1;cases w2
  have n1:=hn j o y1 y3;have n2:=hn k o' y2 y4;rw[gI n1]at y1 y5;rw[gI n2]at y2 y6;exact f.inj j k o o' m y1 y2 y3 y4 y5 y6
 .have:i≠j:=λz=>by subst z;rw[hk]at hj;cases hj
  rw[gI this]
theorem aW.cP:∀{is:List Nat}{vs:List V}{ds:List D}{fr af:Fr}{ai:Ev.Fr},aW M B h S fr ai->cP is vs fr=some af->ay h S vs ds->∃bg,Ev.cP is ds ai=some bg/\aW M B h S af bg/\(∀j,locked af j=locked fr j)/\∀j,locked fr j=true->bg[j]?=ai[j]?
 |[],[],ds,fr,af,ai,f,e,q=>by
  simp[Pv.cP]at e;simp only[ay]at q;subst e q;exact⟨ai,rfl,f,λ_=>rfl,λ_ _=>rfl⟩
 |[],_ :: _,_,_,_,_,_,e,_=>by simp[Pv.cP]at e
 |_ :: _,[],_,_,_,_,_,e,_=>by simp[Pv.cP]at e
 |i :: is,v :: vs,ds,fr,af,ai,f,e,q=>by
  simp only[Pv.cP,cI]at e;obtain⟨aq,e1,e2⟩:=e;simp only[ay]at q;obtain⟨d,es,rfl,q1,q2⟩:=q;obtain⟨f2,l2,r2⟩:=f.set e1 q1;obtain⟨bg,a,f3,l3,r3⟩:=f2.cP e2 q2;exact⟨bg,a,f3,λj=>(l3 j).trans (l2 j),λj hj=>(r3 j (by rw[l2 j];exact hj)).trans (r2 j hj)⟩
theorem aW.bw(f:aW M B h S fr ai){t:T}(e:bw t v fr=some af)(q:Rep h S v d):∃bg,Ev.bw t d ai=some bg/\aW M B h S af bg/\(∀j,locked af j=locked fr j)/\∀j,locked fr j=true->bg[j]?=ai[j]?:=by
 cases t with
 |one i=>exact⟨_,rfl,f.set e q⟩
 |many l=>
  cases v<;>simp only[Pv.bw,reduceCtorEq]at e
  simp only[Rep]at q;obtain⟨ds,rfl,q⟩:=q;exact f.cP e q
theorem aW.undef(f:aW M B h S fr ai){t:T}(e:undef t fr=true):Ev.undef t ai=true:=by
 unfold Pv.undef at e;unfold Ev.undef;rw[List.all_eq_true]at e ⊢;intro i hi;have:=e i hi;cases z:fr[i]? with
 |none=>
  have:ai[i]?=none:=by
   rw[XW]at z ⊢;rw[<-f.len];exact z
  rw[this];rfl
 |some o=>
  obtain⟨p,e1,q⟩:=f.get z;rw[z]at this;rcases o with _|s
  .simp only[ki]at q;subst q;rw[e1];rfl
  .simp at this
def xE{i:Nat}{o:Option Sl}(e:(sL fr)[i]?=some o):∃o0,fr[i]?=some o0/\o=o0.map Sl.read:=by
 unfold sL at e;rw[Vz]at e;cases z:fr[i]? with
 |none=>rw[z]at e;cases e
 |some o0=>rw[z]at e;cases e;exact⟨o0,rfl,rfl⟩
theorem aW.ro(f:aW M B h S fr ai):aW (λ_=>False) B h S (sL fr) ai:=by
 refine⟨λm y=>⟨(f.wS m y).1,id,(f.wS m y).2.2⟩,λm y=>y.elim,f.wB,by simp[sL,f.len],λi o p y1 y2=>?_,λi j o o' m y1 y2 y3 y4 y5 y6=>?_⟩
 .obtain⟨o0,z,rfl⟩:=xE y1;have q:=f.sl i o0 p z y2;rcases o0 with _|s
  .exact q
  .cases s with
   |val v=>exact q
   |own l=>obtain⟨m,ds,a,b,c,d⟩:=q;exact⟨m,ds,a,id,c,d⟩
   |bor l=>obtain⟨m,ds,a,b,c,d⟩:=q;exact⟨m,ds,a,id,c,d⟩
   |ro l=>obtain⟨m,ds,a,b,c,d⟩:=q;exact⟨m,ds,a,id,c,d⟩
 .obtain⟨o0,z,rfl⟩:=xE y1;rcases o0 with _|s
  .cases y3
  .cases s<;>cases y3
theorem iK:∀{ck:List (Nat×List D)},(∀q∈ck,aY h q.1=some q.2)->Ev.stays h ck=true
 |[],_=>rfl
 | (n,ds) :: r,q=>by
  simp only[Ev.stays,gV];refine⟨?_,iK λx hx=>q x (VA _ hx)⟩;rw[q (n,ds) (VS ..)];exact Ev.yz _
def jC{n:Nat}{ds:List D}(q:aY h n=some ds)(k:h'[n]?=h[n]?):aY h' n=some ds:=by
 unfold aY at q ⊢;rw[k];exact q
def kF{n:Nat}{ds:List D}(q:aY h n=some ds):n<h.length:=by
 unfold aY at q;cases z:h[n]? with
 |none=>rw[z]at q;cases q
 |some o=>exact(List.getElem?_eq_some_iff.mp z).1
noncomputable def C6(h:Hh)(S:Nat->Prop):Option V->Option D->Prop
 |none,o=>o=none
 |some v,o=>∃d,o=some d/\Rep h S v d
theorem xF{f:V->Option (Option V)}{f':D->Hh->Ev.R (Option D)}{ck:List (Nat×List D)}{h0:Hh}{S0:Nat->Prop}(w0:∀m,S0 m->m<h0.length)(st:∀q∈ck,aY h0 q.1=some q.2)
  (turn:∀v o d h S,Al h0 S0 h S->f v=some o->Rep h S v d->∃o' h' S',f' d h=.ok o' h'/\C6 h' S' o o'/\Al h S h' S') :
  ∀{vs:List V} {ds:List D} {rs:List V} {h:Hh} {S:Nat->Prop},Al h0 S0 h S->b7 f vs=some rs->ay h S vs ds->∃rs' h' S',Ev.b7 f' ck ds h=.ok rs' h'/\ay h' S' rs rs'/\Al h S h' S'
 |[],ds,rs,h,S,a,e,q=>by
  simp[b7]at e;simp only[ay]at q;subst e q;refine⟨[],h,S,?_,.nil,.refl⟩;simp only[Ev.b7];rw[cS (iK λx hx=>jC (st x hx) (a.keep _ (kF (st x hx))))]
 |v :: vs,ds,rs,h,S,a,e,q=>by
  simp only[b7,cI]at e;obtain⟨o,e1,r,e2,e3⟩:=e;cases e3;simp only[ay]at q;obtain⟨d,es,rfl,q1,q2⟩:=q;have w:∀m,S m->m<h.length:=λm z=>by
   rcases a.new m z with z|z
   .exact fB (w0 m z) a.len
   .exact z.2
  obtain⟨o',h1,S1,t1,t2,t3⟩:=turn v o d h S a e1 q1;obtain⟨rs',h2,S2,u1,u2,u3⟩:=xF w0 st turn (a.trans t3) e2 (q2.mono (λm z=>t3.keep m (w m z)) t3.sub);have w1:∀m,S1 m->m<h1.length:=λm z=>by
   rcases t3.new m z with z|z
   .exact fB (w m z) t3.len
   .exact z.2
  refine⟨o'.toList++rs',h2,S2,?_,?_,t3.trans u3⟩
  .simp only[Ev.b7];rw[cS (iK λx hx=>jC (st x hx) (a.keep _ (kF (st x hx)))),t1,Ev.ao,u1,Ev.ao]
  .cases o with
   |none=>simp only[C6]at t2;subst t2;simpa using u2
   |some v'=>
    simp only[C6]at t2;obtain⟨d',rfl,t2⟩:=t2;exact .cons (t2.mono (λm z=>u3.keep m (w1 m z)) u3.sub) u2
end
noncomputable def ji(k:Bool)(h:Hh)(S:Nat->Prop)(v:List V)(d:List D):Prop:=if k=true then fR h S v d else ay h S v d
inductive Ln(P':Ev.aF)(e:E)(k:Bool)(v:V)(M B:Nat->Prop)(h:Hh)(S:Nat->Prop)(fr:Fr)(ai:Ev.Fr)(af:Fr):Prop
 |mk (d:D) (h':Hh) (S':Nat->Prop) (c0:Ev.ev P' e ai h=.ok d h') (c1:gb k h' S' v d) (c2:Out M B (b8 e) h S fr ai h' S' af):Ln P' e k v M B h S fr ai af
inductive Lo(P':Ev.aF)(e:E)(b:Bool)(M B:Nat->Prop)(h:Hh)(S:Nat->Prop)(fr:Fr)(ai:Ev.Fr)(af:Fr):Prop
 |mk (h':Hh) (S':Nat->Prop) (c0:Ev.aJ P' e ai h=.ok b h') (c1:Out M B (b8 e) h S fr ai h' S' af):Lo P' e b M B h S fr ai af
inductive Lp(P':Ev.aF)(e:Es)(k:Bool)(v:List V)(M B:Nat->Prop)(h:Hh)(S:Nat->Prop)(fr:Fr)(ai:Ev.Fr)(af:Fr):Prop
 |mk (d:List D) (h':Hh) (S':Nat->Prop) (c0:Ev.bQ P' e ai h=.ok d h') (c1:ji k h' S' v d) (c2:Out M B (fL e) h S fr ai h' S' af):Lp P' e k v M B h S fr ai af
inductive Lq(P':Ev.aF)(e:Es)(v:List (Nat ⊕ V))(M B:Nat->Prop)(h:Hh)(S:Nat->Prop)(fr:Fr)(ai:Ev.Fr)(af:Fr):Prop
 |mk (d:List D) (h':Hh) (S':Nat->Prop) (c0:Ev.bQ P' e ai h=.ok d h') (c1:sM h' S' ai v d) (c2:Out M B (fL e) h S fr ai h' S' af):Lq P' e v M B h S fr ai af
inductive Lr(P':Ev.aF)(e:Eo)(v:Option Int)(M B:Nat->Prop)(h:Hh)(S:Nat->Prop)(fr:Fr)(ai:Ev.Fr)(af:Fr):Prop
 |mk (h':Hh) (S':Nat->Prop) (c0:Ev.fO P' e ai h=.ok v h') (c1:Out M B (j5 e) h S fr ai h' S' af):Lr P' e v M B h S fr ai af
inductive Ls(P':Ev.aF)(e:Eo)(v:Bool)(M B:Nat->Prop)(h:Hh)(S:Nat->Prop)(fr:Fr)(ai:Ev.Fr)(af:Fr):Prop
 |mk (h':Hh) (S':Nat->Prop) (c0:Ev.g8 P' e ai h=.ok v h') (c1:Out M B (j5 e) h S fr ai h' S' af):Ls P' e v M B h S fr ai af
inductive Lu(P':Ev.aF)(e:It)(k:Bool)(v:List V)(M B:Nat->Prop)(h:Hh)(S:Nat->Prop)(fr:Fr)(ai:Ev.Fr)(af:Fr):Prop
 |mk (s:Ev.Src) (h':Hh) (S':Nat->Prop) (c0:Ev.dD P' e ai h=.ok s h') (c1:ay h' S' v s.1) (c2:∀q∈s.2,aY h' q.1=some q.2/\(k=false->¬ M q.1)) (c3:Out M B (C1 e) h S fr ai h' S' af):Lu P' e k v M B h S fr ai af
section
variable(P:aF)(P':Ev.aF)
noncomputable def bF(e:E):Prop:=∀{k:Bool} {fr:Fr} {v:V} {af:Fr} {M B:Nat->Prop} {h:Hh} {S:Nat->Prop} {ai:Ev.Fr},ev P k e fr=.ok v af->aW M B h S fr ai->Ln P' e k v M B h S fr ai af
noncomputable def gG(e:E):Prop:=∀{fr:Fr} {b:Bool} {af:Fr} {M B:Nat->Prop} {h:Hh} {S:Nat->Prop} {ai:Ev.Fr},aJ P e fr=.ok b af->aW M B h S fr ai->Lo P' e b M B h S fr ai af
noncomputable def jj(e:Es):Prop:=∀{k:Bool} {fr:Fr} {v:List V} {af:Fr} {M B:Nat->Prop} {h:Hh} {S:Nat->Prop} {ai:Ev.Fr},bQ P k e fr=.ok v af->aW M B h S fr ai->Lp P' e k v M B h S fr ai af
noncomputable def qa(e:Es):Prop:=∀{fr:Fr} {v:List (Nat ⊕ V)} {af:Fr} {M B:Nat->Prop} {h:Hh} {S:Nat->Prop} {ai:Ev.Fr},ek P e fr=.ok v af->aW M B h S fr ai->Lq P' e v M B h S fr ai af
noncomputable def qb(e:Eo):Prop:=∀{fr:Fr} {v:Option Int} {af:Fr} {M B:Nat->Prop} {h:Hh} {S:Nat->Prop} {ai:Ev.Fr},fO P e fr=.ok v af->aW M B h S fr ai->Lr P' e v M B h S fr ai af
noncomputable def tF(e:Eo):Prop:=∀{fr:Fr} {v:Bool} {af:Fr} {M B:Nat->Prop} {h:Hh} {S:Nat->Prop} {ai:Ev.Fr},g8 P e fr=.ok v af->aW M B h S fr ai->Ls P' e v M B h S fr ai af
noncomputable def kZ(e:It):Prop:=∀{k:Bool} {fr:Fr} {v:List V} {af:Fr} {M B:Nat->Prop} {h:Hh} {S:Nat->Prop} {ai:Ev.Fr},dD P k e fr=.ok v af->aW M B h S fr ai->Lu P' e k v M B h S fr ai af
end
section
variable{P:aF}{P':Ev.aF}{a b e tt:E}{es:Es}{lo hi:Eo}{it:It}
def Lv{d:D}:bF P P' (.c d):=λz f=>by
 simp only[ev]at z;replace z:=aL z;obtain⟨z,y0⟩:=z;subst y0;exact⟨d,_,_,by simp only[Ev.ev],.of (mU z),.refl f⟩
def Lx{i:Nat}:bF P P' (.v i):=λz f=>by
 simp only[ev]at z;replace z:=aL z;obtain⟨z,y0⟩:=z;subst y0;obtain⟨d,e1,q⟩:=Ht z f;exact⟨d,_,_,by simp only[Ev.ev,e1,Ev.dG],q,.refl f⟩
def ji.n{h:Hh}{S:Nat->Prop}{v:List V}{d:List D}(q:ji false h S v d):ay h S v d:=by simpa[ji]using q
theorem ay.tl{h:Hh}{S:Nat->Prop}:∀{v:List V}{d:List D},ay h S v d->fR h S v d
 |[],_,q=>q
 |_ :: _,_,⟨d,es,a,b,q⟩=>⟨d,es,a,b.top,q.tl⟩
def ji.t{k:Bool}{h:Hh}{S:Nat->Prop}{v:List V}{d:List D}(q:ji k h S v d):fR h S v d:=by
 unfold ji at q;split at q
 .exact q
 .exact q.tl
def Bf(is:jj P P' es):bF P P' (.tup es):=λz f=>by
 simp only[ev]at z;obtain⟨ds,aq,z1,z2⟩:=ah z;replace z2:=aL z2;obtain⟨z2,y0⟩:=z2;subst y0;obtain⟨ds',h',S',e1,q,o⟩:=is z1 f;unfold jQ at z2;split at z2
 .rename_i hk;cases z2;refine⟨.tup ds',h',S',?_,.of ⟨ds',rfl,q.n⟩,o⟩;simp only[Ev.ev,e1,Ev.ao];rw[cS (by rw[<-q.n.length];exact hk)]
 .cases z2
def Bg(is:jj P P' es):bF P P' (.lst es):=λz f=>by
 simp only[ev]at z;obtain⟨ds,aq,z1,z2⟩:=ah z;replace z2:=aL z2;obtain⟨z2,y0⟩:=z2;subst y0;obtain⟨ds',h',S',e1,q,o⟩:=is z1 f;obtain⟨r,h2,S2,a1,a2,a3⟩:=iR o.f.w z2 q.n;exact⟨r,h2,S2,by simp only[Ev.ev,e1,Ev.ao,a1],.of a2,o.al a3⟩
def tG{a:E}{ai:Ev.Fr}{h h1:Hh}{d:D}(e:Ev.ev P' a ai h=.ok d h1):∀i,a=.v i->ai[i]?.join=some d:=λi hi=>by
 subst hi;simp only[Ev.ev]at e;exact(Ev.aL e).1
def two(ia:bF P P' a)(ib:bF P P' b){α:Type}{X:V->V->Fr->R α}{u:α}{fr bX:Fr}{M B:Nat->Prop}{h:Hh}{S:Nat->Prop}{ai:Ev.Fr}
  (z:((ev P (kf a (b8 b)) a fr).bind λx af=>(ev P true b af).bind λy aq=>X x y aq)=.ok u bX) (f:aW M B h S fr ai) :
  ∃x y d e h2 S2 aq,(∀{β:Type} (g:D->D->Hh->Ev.R β),((Ev.ev P' a ai h).bind λx h1=>(Ev.ev P' b ai h1).bind λy h2=>g x y h2)=g d e h2)/\X x y aq=.ok u bX/\bC h2 S2 x d/\bC h2 S2 y e/\Out M B (b8 a++b8 b) h S fr ai h2 S2 aq:=by
 replace z:=ah z;obtain⟨x,af,z1,z⟩:=z;replace z:=ah z;obtain⟨y,aq,z2,z⟩:=z;obtain⟨d,h1,S1,e1,q1,o1⟩:=ia z1 f;obtain⟨e,h2,S2,e2,q2,o2⟩:=ib z2 o1.f;exact⟨x,y,d,e,h2,S2,aq,λg=>by rw[e1,Ev.ao,e2,Ev.ao],z,(q1.tr o1.f o2.tr id (tG e1)).t,q2.t,o1.trans o2⟩
def Bh{o:aU}(ia:bF P P' a)(ib:bF P P' b):bF P P' (.bin o a b):=λz f=>by
 simp only[ev]at z;replace z:=two ia ib z f;obtain⟨x,y,d,e,h2,S2,aq,k,z,q1,q2,ou⟩:=z;replace z:=aL z;obtain⟨z,y0⟩:=z;subst y0;obtain⟨r,h3,S3,a1,a2,a3⟩:=Lc ou.f.w z q1 q2;exact⟨r,h3,S3,by simp only[Ev.ev];rw[k];exact a1,.of a2,ou.al a3⟩
def Bj{o:aR}(ia:bF P P' a)(ib:bF P P' b):bF P P' (.cmp o a b):=λz f=>by
 simp only[ev]at z;replace z:=two ia ib z f;obtain⟨x,y,d,e,h2,S2,aq,k,z,q1,q2,ou⟩:=z;replace z:=aL z;obtain⟨z,y0⟩:=z;subst y0;simp only[cL]at z;obtain⟨b,z,rfl⟩:=z;exact⟨.bl b,h2,S2,by simp only[Ev.ev];rw[k,Ld z q1.u q2.u];rfl,.of rfl,ou⟩
def Ft(ia:bF P P' a)(ib:bF P P' b):bF P P' (.ix a b):=λz f=>by
 simp only[ev]at z;replace z:=two ia ib z f;obtain⟨x,y,d,e,h2,S2,aq,k,z,q1,q2,ou⟩:=z;replace z:=aL z;obtain⟨z,y0⟩:=z;subst y0;obtain⟨r,a1,a2⟩:=Lf z q1 q2;exact⟨r,h2,S2,by simp only[Ev.ev];rw[k,a1];rfl,.of a2,ou⟩
def N3(ia:bF P P' a):bF P P' (.nt a):=λz f=>by
 simp only[ev]at z;replace z:=ah z;obtain⟨x,af,z1,z⟩:=z;obtain⟨d,h1,S1,e1,q1,o1⟩:=ia z1 f;cases x<;>simp only[reduceCtorEq]at z
 cases z;have q:=q1.t;simp only[bC,Rep]at q;subst q;exact⟨_,h1,S1,by simp only[Ev.ev,e1,Ev.ao],.of rfl,o1⟩
def Bk(ia:bF P P' a):bF P P' (.neg a):=λz f=>by
 simp only[ev]at z;replace z:=ah z;obtain⟨x,af,z1,z⟩:=z;obtain⟨d,h1,S1,e1,q1,o1⟩:=ia z1 f;cases x<;>simp only[reduceCtorEq]at z
 cases z;have q:=q1.t;simp only[bC,Rep]at q;subst q;exact⟨_,h1,S1,by simp only[Ev.ev,e1,Ev.ao],.of rfl,o1⟩
def N4(ia:bF P P' a)(ib:bF P P' b):bF P P' (.an a b):=λz f=>by
 simp only[ev]at z;replace z:=ah z;obtain⟨x,af,z1,z⟩:=z;obtain⟨d,h1,S1,e1,q1,o1⟩:=ia z1 f;cases x<;>try (cases z;done)
 rename_i k;have q:=q1.t;simp only[bC,Rep]at q;subst q;cases k with
 |true=>
  try simp only at z
  obtain⟨d,h2,S2,e2,q2,o2⟩:=ib z o1.f;exact⟨d,h2,S2,by simp only[Ev.ev,e1,Ev.ao,e2],q2,o1.trans o2⟩
 |false=>
  try simp only at z
  cases z;exact⟨_,h1,S1,by simp only[Ev.ev,e1,Ev.ao],.of rfl,o1.weak (by simp only[b8];intro i hi;simp[hi])⟩
def Ly(ia:bF P P' a)(ib:bF P P' b):bF P P' (.orr a b):=λz f=>by
 simp only[ev]at z;replace z:=ah z;obtain⟨x,af,z1,z⟩:=z;obtain⟨d,h1,S1,e1,q1,o1⟩:=ia z1 f;cases x<;>try (cases z;done)
 rename_i k;have q:=q1.t;simp only[bC,Rep]at q;subst q;cases k with
 |false=>
  try simp only at z
  obtain⟨d,h2,S2,e2,q2,o2⟩:=ib z o1.f;exact⟨d,h2,S2,by simp only[Ev.ev,e1,Ev.ao,e2],q2,o1.trans o2⟩
 |true=>
  try simp only at z
  cases z;exact⟨_,h1,S1,by simp only[Ev.ev,e1,Ev.ao],.of rfl,o1.weak (by simp only[b8];intro i hi;simp[hi])⟩
def Bm(it:gG P P' tt)(ia:bF P P' a)(ib:bF P P' b):bF P P' (.fV tt a b):=λz f=>by
 simp only[ev]at z;replace z:=ah z;obtain⟨k,af,z1,z⟩:=z;obtain⟨h1,S1,e1,o1⟩:=it z1 f;cases k with
 |true=>
  simp only[VI]at z;obtain⟨d,h2,S2,e2,q2,o2⟩:=ia z o1.f;exact⟨d,h2,S2,by simp only[Ev.ev,e1,Ev.ao,VI,e2],q2,(o1.trans o2).weak (by simp only[b8];intro i hi;simp at hi ⊢;rcases hi with hi|hi<;>simp[hi])⟩
 |false=>
  simp only[VH,Wb]at z;obtain⟨d,h2,S2,e2,q2,o2⟩:=ib z o1.f;exact⟨d,h2,S2,by simp only[Ev.ev,e1,Ev.ao];rw[Qm (by decide)];exact e2,q2,(o1.trans o2).weak (by simp only[b8];intro i hi;simp at hi ⊢;rcases hi with hi|hi<;>simp[hi])⟩
def Fv(ia:bF P P' a)(il:qb P P' lo)(ih:qb P P' hi):bF P P' (.sl a lo hi):=λz f=>by
 simp only[ev]at z;replace z:=ah z;obtain⟨x,af,z1,z⟩:=z;replace z:=ah z;obtain⟨l,aq,z2,z⟩:=z;replace z:=ah z;obtain⟨u,bf,z3,z⟩:=z;replace z:=aL z;obtain⟨z,y0⟩:=z;subst y0;obtain⟨d,h1,S1,e1,q1,o1⟩:=ia z1 f;obtain⟨h2,S2,e2,o2⟩:=il z2 o1.f;obtain⟨h3,S3,e3,o3⟩:=ih z3 o2.f;have q:=(q1.tr o1.f (o2.trans o3).tr id (tG e1)).t;obtain⟨r,h4,S4,a1,a2,a3⟩:=Lh o3.f.w z q;exact⟨r,h4,S4,by simp only[Ev.ev,e1,Ev.ao,e2,e3,a1],.of a2,(o1.trans (o2.trans o3)).al a3⟩
theorem mX:∀{es:Es}{fr af:Fr}{as:List (Nat ⊕ V)},ek P es fr=.ok as af->∀i∈bJ as,i∈jc es
 |.nil,_,_,_,z=>by simp only[ek]at z;cases z;simp[bJ]
 |.cons e es,fr,af,as,z=>by
  simp only[ek]at z;cases y:fQ fr e with
  |some i=>
   rw[y]at z;simp only at z;replace z:=ah z;obtain⟨xs,bf,z2,z⟩:=z;cases z;have hy:e=.v i:=by
    cases e<;>simp only[fQ,reduceCtorEq]at y
    split at y
    .cases y;rfl
    .cases y
   subst hy;intro j hj;simp only[bJ,WT]at hj;simp only[jc,WT];exact hj.imp id λhj=>mX z2 j hj
  |none=>
   rw[y]at z;simp only at z;replace z:=ah z;obtain⟨x,aq,z1,z⟩:=z;replace z:=ah z;obtain⟨xs,bf,z2,z⟩:=z;cases z;intro j hj;simp only[bJ]at hj;have:=mX z2 j hj;cases e<;>simp only[jc]<;>first|exact this|exact VA _ this
def Fw(HP:nK P P'){g:Nat}(is:qa P P' es):bF P P' (.cl g es):=λz f=>by
 simp only[ev]at z;replace z:=ah z;obtain⟨as,af,z1,z⟩:=z;obtain⟨ds,h1,S1,e1,q1,o1⟩:=is z1 f;obtain⟨d,h2,S2,e2,q2,o2⟩:=pe HP z o1.f q1;exact⟨d,h2,S2,by simp only[Ev.ev,e1,Ev.ao,e2],.of q2,(o1.trans o2).weak (by
  simp only[b8];intro i hi;rcases List.mem_append.mp hi with hi|hi
  .exact List.mem_append.mpr (.inl hi)
  .exact List.mem_append.mpr (.inr (mX z1 i hi)))⟩
def Fx{g:BI}(is:jj P P' es):bF P P' (.bi g es):=λz f=>by
 simp only[ev]at z;replace z:=ah z;obtain⟨as,af,z1,z⟩:=z;replace z:=aL z;obtain⟨z,y0⟩:=z;subst y0;obtain⟨ds,h1,S1,e1,q1,o1⟩:=is z1 f;obtain⟨r,h4,S4,a1,a2,a3⟩:=Lj o1.f.w z q1.t;exact⟨r,h4,S4,by simp only[Ev.ev,e1,Ev.ao,a1],.of a2,o1.al a3⟩
def xG{kvs:List (D×D)}(ia:bF P P' a):bF P P' (.iX kvs a):=λz f=>by
 simp only[ev]at z;replace z:=ah z;obtain⟨x,af,z1,z⟩:=z;replace z:=aL z;obtain⟨z,y0⟩:=z;subst y0;obtain⟨d,h1,S1,e1,q1,o1⟩:=ia z1 f;obtain⟨r,a1,a2⟩:=C3 (S:=S1) q1.t.u z;exact⟨r,h1,S1,by simp only[Ev.ev,e1,Ev.ao,a1,Ev.dG],.of a2,o1⟩
def Bo(ia:bF P P' a):bF P P' (.jN a):=λz f=>by
 simp only[ev]at z;replace z:=ah z;obtain⟨x,af,z1,z⟩:=z;replace z:=aL z;obtain⟨z,y0⟩:=z;subst y0;obtain⟨d,h1,S1,e1,q1,o1⟩:=ia z1 f;obtain⟨r,a1,a2⟩:=Li z q1.t;exact⟨r,h1,S1,by simp only[Ev.ev,e1,Ev.ao,a1],.of a2,o1⟩
def Fy{m:ME}{o:E}(io:bF P P' o)(is:jj P P' es):bF P P' (.me m o es):=λ{k fr v af M B h S ai} z f=>by
 simp only[ev]at z;by_cases hm:iz m=true
 .rw[cS hm]at z;cases y:fQ fr o with
  |none=>rw[y]at z;cases z
  |some i=>
  rw[y]at z;try simp only at z
  replace z:=ah z;obtain⟨as,aq,z1,z⟩:=z;have hy:o=.v i/\∃s,lent fr i=some s:=by
   cases o<;>simp only[fQ,reduceCtorEq]at y
   rename_i j;split at y
   .rename_i hs;cases y;exact⟨rfl,Option.isSome_iff_exists.mp hs⟩
   .cases y
  obtain⟨rfl,s,hs⟩:=hy;obtain⟨n,cs,_,_,_,w2,w3,_,_⟩:=gW hs f;obtain⟨ds,h1,S1,e1,q1,o1⟩:=is z1 f;have hr:Ev.kj m (.ref n) h=true:=by cases m<;>simp[iz]at hm<;>simp[Ev.kj,iA w3]
  have hap:xq m=false->ay h1 S1 as ds:=λhh=>by rw[hh]at q1;exact q1.n
  have fin:∀s l l',aq[i]?=some (some s)->gU (some s)=true->(∃m' cs',ai[i]?=some (some (.ref m'))/\h1[m']?=some (.lst cs')/\ay h1 S1 l cs')->mS m l as=some (v,l')->af=aq.set i (some (s.with l'))->
    Ln P' (.me m (.v i) es) k v M B h S fr ai af:=by
   intro s l l' k1 k2 ⟨m',cs',k3,k4,k5⟩ k6 k7;rw[w2]at k3;cases k3;have mn:=o1.f.mM k1 k2 w2;obtain⟨r,ds',a1,a2,a3⟩:=Lm k6 k4 k5 q1.t hap λk z y=>(o1.f.wS k z).2.1 (y▸mn);have fw:=o1.f.write (l':=l') k1 k2 w2 a3;subst k7;refine⟨r,_,S1,?_,.of (a2.mono (λm z=>kE λy=>(o1.f.wS m z).2.1 (y▸mn)) λ_ z=>z),fw,?_,λj=>?_⟩
   .simp only[Ev.ev,w2,Option.join,Ev.dG,Ev.ao,hr,VI,e1];simp only[Option.bind,id,Ev.dG,Ev.ao,hr,VI,e1];exact a1
   .refine⟨by simpa using o1.tr.len,λm y1 y2=>?_,o1.tr.sub,λm y=>by simpa using o1.tr.new m y⟩;have y3:¬ Xs M ai (fL es) m:=λz=>y2 (Xs.mono (by simp only[b8];intro i hi;simp[hi]) z);have y4:m≠n:=λz=>y2 ⟨z▸mn,i,by simp[b8,Qg,hm],by rw[z];exact w2⟩;rw[kE (λ(z:n=m)=>y4 z.symm)];exact o1.tr.keep m y1 y3
   .rw[<-o1.lk j];unfold locked;by_cases hj:i=j
    .subst hj;rw[Ei (List.getElem?_eq_some_iff.mp k1).1,k1];exact xC
    .rw[gI hj]
  split at z
  .rename_i l k1;have old:=o1.f.get k1;obtain⟨p,k2,m',cs',rfl,_,k4,k5⟩:=old;split at z
   .rename_i v' l' k6;cases z;exact fin _ l l' k1 rfl ⟨m',cs',k2,k4,k5⟩ k6 rfl
   .cases z
  .rename_i l k1;have old:=o1.f.get k1;obtain⟨p,k2,m',cs',rfl,_,k4,k5⟩:=old;split at z
   .rename_i v' l' k6;cases z;exact fin _ l l' k1 rfl ⟨m',cs',k2,k4,k5⟩ k6 rfl
   .cases z
  .cases z
 .rw[Qm hm]at z;replace z:=ah z;obtain⟨x,aq,z1,z⟩:=z;replace z:=ah z;obtain⟨as,bf,z2,z⟩:=z;replace z:=aL z;obtain⟨z,y0⟩:=z;subst y0;obtain⟨d,h1,S1,e1,q1,o1⟩:=io z1 f;obtain⟨ds,h2,S2,e2,q2,o2⟩:=is z2 o1.f;have hm':iz m=false:=by simpa using hm
  have Fz:=(q1.tr o1.f o2.tr id (tG e1)).t;obtain⟨a1,r,a2,a3⟩:=Lk z hm' Fz q2.t;have hr:Ev.kj m d h1=true:=by
   unfold eZ at z;split at z
   .have:=q1.t;simp only[bC,Rep]at this;subst this;rfl
   .simp only[cL,cI]at z;obtain⟨_,⟨l,z,_⟩,_⟩:=z;obtain⟨n,es,rfl,a,q⟩:=iC z q1.t;simp[Ev.kj,a]
   .simp only[cL,cI]at z;obtain⟨_,⟨l,z,_⟩,_⟩:=z;obtain⟨n,es,rfl,a,q⟩:=iC z q1.t;simp[Ev.kj,a]
   .cases z
  exact⟨r,h2,S2,by simp only[Ev.ev,e1,Ev.ao,hr,VI,e2,a2],.of a3,(o1.trans o2).weak (by simp only[b8];intro i hi;simp at hi ⊢;rcases hi with hi|hi<;>simp[hi])⟩
def uM{elt:E}{t:T}{cond:Eo}(ii:kZ P P' it)(ic:tF P P' cond)(ie:bF P P' elt):bF P P' (.comp elt t it cond):=λz f=>by
 simp only[ev]at z;replace z:=ah z;obtain⟨vs,aq,z1,z⟩:=z;split at z
 case isFalse=>cases z
 rename_i hu;replace z:=aL z;obtain⟨z,y0⟩:=z;subst y0;simp only[cI]at z;obtain⟨rs,z2,z3⟩:=z;obtain⟨s,h1,S1,e1,q1,q2,o1⟩:=ii z1 f;have T8:=o1.f.ro;obtain⟨rs',h2,S2,c1,c2,c3⟩:=xF (f':=λd h2=>match Ev.bw t d _ with
    |none=>.bad
    |some aq=>(Ev.g8 P' cond aq h2).bind λk h3=>if k then (Ev.ev P' elt aq h3).bind λx h4=>.ok (some x) h4 else .ok none h3) (ck:=s.2) o1.f.w (λq hq=>(q2 q hq).1) (λv o d h S al y q=>by
  split at y
  .cases y
  .rename_i bf y1;obtain⟨gS,b1,b2,_,_⟩:=(T8.al al).bw y1 q;rw[b1];split at y
   .rename_i c fY y2;obtain⟨h3,S3,c1,oc⟩:=ic y2 b2;have Lz:Al h S h3 S3:=oc.tr.al λm z=>z.1;split at y
    .rename_i hc;subst hc;split at y
     .rename_i x jL y3;cases y;obtain⟨d',h4,S4,d1,d2,od⟩:=ie y3 (b2.al Lz);refine⟨some d',h4,S4,?_,⟨d',rfl,d2.n⟩,Lz.trans (od.tr.al λm z=>z.1)⟩;simp only[c1,Ev.ao,VI,d1]
     .cases y
    .rename_i hc;cases y;refine⟨none,h3,S3,?_,rfl,Lz⟩;simp only[c1,Ev.ao];rw[Qm hc]
   .cases y) Al.refl z2 q1
 obtain⟨r,h4,S4,a1,a2,a3⟩:=iR (o1.f.al c3).w z3 c2;refine⟨r,h4,S4,?_,.of a2,(o1.al c3).al a3⟩;simp only[Ev.ev,e1,Ev.ao];rw[cS (o1.f.undef hu)];refine Eq.trans (Vw (λq:Ev.R (List D)=>q.bind λds h2=>Ev.alloc ds h2) c1) ?_;simp only[Ev.ao,a1]
def Bp(ii:kZ P P' it):bF P P' (.je it):=λz f=>by
 simp only[ev]at z;replace z:=ah z;obtain⟨vs,aq,z1,z⟩:=z;replace z:=aL z;obtain⟨z,y0⟩:=z;subst y0;obtain⟨s,h1,S1,e1,q1,q2,o1⟩:=ii z1 f;obtain⟨r,h4,S4,a1,a2,a3⟩:=iR o1.f.w z q1;exact⟨r,h4,S4,by simp only[Ev.ev,e1,Ev.ao,a1],.of a2,o1.al a3⟩
def LA:jj P P' .nil:=λ{k fr v af M B h S ai} z f=>by
 simp only[bQ]at z;cases z;refine⟨[],_,_,by simp only[Ev.bQ],?_,.refl f⟩;unfold ji;split<;>rfl
def Hu(ie:bF P P' e)(is:jj P P' es):jj P P' (.cons e es):=λ{k fr v af M B h S ai} z f=>by
 simp only[bQ]at z;replace z:=ah z;obtain⟨x,aq,z1,z⟩:=z;replace z:=ah z;obtain⟨xs,bf,z2,z⟩:=z;cases z;obtain⟨d,h1,S1,e1,q1,o1⟩:=ie z1 f;obtain⟨ds,h2,S2,e2,q2,o2⟩:=is z2 o1.f;have Fz:=q1.tr (a:=e) o1.f o2.tr (by intro z;simp at z;exact z.2) (tG e1);refine⟨d :: ds,h2,S2,by simp only[Ev.bQ,e1,Ev.ao,e2],?_,o1.trans o2⟩;unfold ji at q2 ⊢;cases k with
 |true=>simp only[VI]at q2 ⊢;exact⟨d,ds,rfl,Fz.t,q2⟩
 |false=>
  simp only[VH,Wb]at q2 ⊢;exact .cons (by simpa[gb]using Fz) q2
def Hv:qa P P' .nil:=λz f=>by
 simp only[ek]at z;cases z;exact⟨[],_,_,by simp only[Ev.bQ],rfl,.refl f⟩
def C7(ie:bF P P' e)(is:qa P P' es):qa P P' (.cons e es):=λ{fr v af M B h S ai} z f=>by
 simp only[ek]at z;cases y:fQ fr e with
 |some i=>
  rw[y]at z;try simp only at z
  replace z:=ah z;obtain⟨xs,bf,z2,z⟩:=z;cases z;have hy:e=.v i/\∃s,lent fr i=some s:=by
   cases e<;>simp only[fQ,reduceCtorEq]at y
   rename_i j;split at y
   .rename_i hs;cases y;exact⟨rfl,Option.isSome_iff_exists.mp hs⟩
   .cases y
  obtain⟨rfl,s,hs⟩:=hy;obtain⟨n,cs,_,_,_,w2,w3,_,_⟩:=gW hs f;obtain⟨ds,h2,S2,e2,q2,o2⟩:=is z2 f;refine⟨.ref n :: ds,h2,S2,?_,⟨_,_,rfl,w2,q2⟩,o2.weak (by simp only[fL,b8];intro i hi;simpa using hi)⟩;simp only[Ev.bQ,Ev.ev,w2,Option.join,Option.bind,id,Ev.dG,Ev.ao,e2]
 |none=>
  rw[y]at z;try simp only at z
  replace z:=ah z;obtain⟨x,aq,z1,z⟩:=z;replace z:=ah z;obtain⟨xs,bf,z2,z⟩:=z;cases z;obtain⟨d,h1,S1,e1,q1,o1⟩:=ie z1 f;obtain⟨ds,h2,S2,e2,q2,o2⟩:=is z2 o1.f;exact⟨d :: ds,h2,S2,by simp only[Ev.bQ,e1,Ev.ao,e2],⟨_,_,rfl,q1.n.tr o1.f o2.tr,q2⟩,o1.trans o2⟩
def N5:qb P P' .no:=λz f=>by
 simp only[fO]at z;cases z;exact⟨_,_,by simp only[Ev.fO],.refl f⟩
def LC(ie:bF P P' e):qb P P' (.yes e):=λz f=>by
 simp only[fO]at z;replace z:=ah z;obtain⟨x,aq,z1,z⟩:=z;replace z:=aL z;obtain⟨z,y0⟩:=z;subst y0;obtain⟨d,h1,S1,e1,q1,o1⟩:=ie z1 f;cases x<;>simp[intOf]at z
 subst z;have q:=q1.t;simp only[bC,Rep]at q;subst q;exact⟨h1,S1,by simp only[Ev.fO,e1,Ev.ao];rfl,o1⟩
def LD:tF P P' .no:=λz f=>by
 simp only[g8]at z;cases z;exact⟨_,_,by simp only[Ev.g8],.refl f⟩
def Hw(ie:gG P P' e):tF P P' (.yes e):=λz f=>by
 simp only[g8]at z;obtain⟨h1,S1,e1,o1⟩:=ie z f;exact⟨h1,S1,by simp only[Ev.g8,e1],o1⟩
def Rp(ia:gG P P' a)(ib:gG P P' b):gG P P' (.an a b):=λz f=>by
 simp only[aJ]at z;replace z:=ah z;obtain⟨k,af,z1,z⟩:=z;obtain⟨h1,S1,e1,o1⟩:=ia z1 f;cases k with
 |true=>
  simp only[VI]at z;obtain⟨h2,S2,e2,o2⟩:=ib z o1.f;exact⟨h2,S2,by simp only[Ev.aJ,e1,Ev.ao,VI,e2],o1.trans o2⟩
 |false=>
  simp only[VH,Wb]at z;cases z;exact⟨h1,S1,by simp only[Ev.aJ,e1,Ev.ao];rfl,o1.weak (by simp only[b8];intro i hi;simp[hi])⟩
def N6(ia:gG P P' a)(ib:gG P P' b):gG P P' (.orr a b):=λz f=>by
 simp only[aJ]at z;replace z:=ah z;obtain⟨k,af,z1,z⟩:=z;obtain⟨h1,S1,e1,o1⟩:=ia z1 f;cases k with
 |false=>
  simp only[VH,Wb]at z;obtain⟨h2,S2,e2,o2⟩:=ib z o1.f;exact⟨h2,S2,by simp only[Ev.aJ,e1,Ev.ao];rw[Qm (by decide)];exact e2,o1.trans o2⟩
 |true=>
  simp only[VI]at z;cases z;exact⟨h1,S1,by simp only[Ev.aJ,e1,Ev.ao];rfl,o1.weak (by simp only[b8];intro i hi;simp[hi])⟩
def Rq(ia:gG P P' a):gG P P' (.nt a):=λz f=>by
 simp only[aJ]at z;replace z:=ah z;obtain⟨k,af,z1,z⟩:=z;obtain⟨h1,S1,e1,o1⟩:=ia z1 f;cases z;exact⟨h1,S1,by simp only[Ev.aJ,e1,Ev.ao],o1⟩
def eT(ie:bF P P' e)(h1:∀fr,aJ P e fr=(ev P true e fr).bind λx af=>.ok (truthy x) af)(h2:∀fr h,Ev.aJ P' e fr h=(Ev.ev P' e fr h).bind λx h1=>Ev.R.of (Ev.truthy h1 x) h1):gG P P' e:=λz f=>by
 rw[h1]at z;replace z:=ah z;obtain⟨x,af,z1,z⟩:=z;cases z;obtain⟨d,h1,S1,e1,q1,o1⟩:=ie z1 f;exact⟨h1,S1,by rw[h2,e1,Ev.ao,Bb q1.t];rfl,o1⟩
def Bq(ie:bF P P' e){k:Bool}{fr:Fr}{v:V}{af:Fr}{M B:Nat->Prop}{h:Hh}{S:Nat->Prop}{ai:Ev.Fr}(z:src k fr e (ev P k e fr)=.ok v af)(f:aW M B h S fr ai) :
  ∃d h' S',Ev.ev P' e ai h=.ok d h'/\bC h' S' v d/\(k=false->∀n,d=.ref n->¬ M n)/\Out M B (b8 e) h S fr ai h' S' af:=by
 have gen:ev P k e fr=.ok v af->∃d h' S',Ev.ev P' e ai h=.ok d h'/\bC h' S' v d/\(k=false->∀n,d=.ref n->¬ M n)/\Out M B (b8 e) h S fr ai h' S' af:=λz=>by
  obtain⟨d,h1,S1,e1,q1,o1⟩:=ie z f;refine⟨d,h1,S1,e1,q1.t,λhk n hd=>?_,o1⟩;subst hk;have q:=q1.n;cases v<;>simp only[Rep]at q
  .cases q.symm.trans hd
  .cases q.symm.trans hd
  .cases q.symm.trans hd
  .cases q.symm.trans hd
  .obtain⟨_,q,_⟩:=q;cases q.symm.trans hd
  .obtain⟨m,ds,q,sm,_⟩:=q;cases q.symm.trans hd;exact(o1.f.wS _ sm).2.1
  .obtain⟨m,ds,q,sm,_⟩:=q;cases q.symm.trans hd;exact(o1.f.wS _ sm).2.1
 cases e
 case v i=>
  simp only[src]at z;replace z:=aL z;obtain⟨z,y0⟩:=z;subst y0;unfold yY at z;split at z
  .rename_i l y;cases z;obtain⟨p,e1,m,ds,rfl,y1,y2,y3⟩:=f.get y;exact⟨.ref m,h,S,by simp only[Ev.ev,e1,Option.join,Option.bind,id,Ev.dG],⟨m,ds,rfl,y2,y3⟩,λ_ n hn=>by cases hn;exact y1,.refl f⟩
  .exact gen (by simp only[ev,z,dG])
 all_goals exact gen z
def LF(ie:bF P P' e):kZ P P' (.seq e):=λz f=>by
 simp only[dD]at z;replace z:=ah z;obtain⟨x,af,z1,z⟩:=z;replace z:=aL z;obtain⟨z,y0⟩:=z;subst y0;obtain⟨d,h1,S1,e1,q1,q2,o1⟩:=Bq ie z1 f;obtain⟨s,a1,a2,a3⟩:=C4 z q1;exact⟨s,h1,S1,by simp only[Ev.dD,e1,Ev.ao,a1,Ev.dG],a2,λq hq=>⟨(a3 q hq).2,λhk=>q2 hk _ (a3 q hq).1⟩,o1⟩
def Hx(is:jj P P' es):kZ P P' (.fU es):=λz f=>by
 simp only[dD]at z;replace z:=ah z;obtain⟨x,af,z1,z⟩:=z;replace z:=aL z;obtain⟨z,y0⟩:=z;subst y0;obtain⟨d,h1,S1,e1,q1,o1⟩:=is z1 f;obtain⟨s,a1,a2⟩:=Ll z q1.t;exact⟨(s,[]),h1,S1,by simp only[Ev.dD,e1,Ev.ao,a1,Ev.dG],a2,λq hq=>by simp at hq,o1⟩
def C8(ie:bF P P' e):kZ P P' (.enum e):=λz f=>by
 simp only[dD]at z;replace z:=ah z;obtain⟨x,af,z1,z⟩:=z;replace z:=aL z;obtain⟨z,y0⟩:=z;subst y0;obtain⟨d,h1,S1,e1,q1,q2,o1⟩:=Bq ie z1 f;simp only[cL]at z;obtain⟨l,z,rfl⟩:=z;obtain⟨s,a1,a2,a3⟩:=Hr z q1;exact⟨(Ev.gF 0 s.1,s.2),h1,S1,by simp only[Ev.dD,e1,Ev.ao,a1,Option.map,Ev.dG],xA 0 a2,λq hq=>⟨(a3 q hq).2,λhk=>q2 hk _ (a3 q hq).1⟩,o1⟩
def Hy(ie:bF P P' e):kZ P P' (.rev e):=λz f=>by
 simp only[dD]at z;replace z:=ah z;obtain⟨x,af,z1,z⟩:=z;replace z:=aL z;obtain⟨z,y0⟩:=z;subst y0;obtain⟨d,h1,S1,e1,q1,o1⟩:=ie z1 f;simp only[cL]at z;obtain⟨l,z,rfl⟩:=z;cases x<;>simp only[Lb,reduceCtorEq]at z
 cases z;have k1:=q1.t;simp only[bC,Rep]at k1;obtain⟨ds,y1,k2⟩:=k1;subst y1;exact⟨(ds.reverse,[]),h1,S1,by simp only[Ev.dD,e1,Ev.ao,Ev.Ju,Option.map,Ev.dG],k2.reverse,λq hq=>by simp at hq,o1⟩
end
section
variable{P:aF}{P':Ev.aF}(HP:nK P P')
include HP
mutual
theorem bx:∀e:E,bF P P' e
 |.c _=>Lv
 |.v _=>Lx
 |.tup es=>Bf (gc es)
 |.lst es=>Bg (gc es)
 |.bin _ a b=>Bh (bx a) (bx b)
 |.cmp _ a b=>Bj (bx a) (bx b)
 |.nt a=>N3 (bx a)
 |.neg a=>Bk (bx a)
 |.an a b=>N4 (bx a) (bx b)
 |.orr a b=>Ly (bx a) (bx b)
 |.fV t a b=>Bm (fF t) (bx a) (bx b)
 |.ix a b=>Ft (bx a) (bx b)
 |.sl a lo hi=>Fv (bx a) (qc lo) (qc hi)
 |.cl _ es=>Fw HP (mY es)
 |.bi _ es=>Fx (gc es)
 |.me _ o es=>Fy (bx o) (gc es)
 |.comp elt _ it cond=>uM (jD it) (Br cond) (bx elt)
 |.je it=>Bp (jD it)
 |.iX _ a=>xG (bx a)
 |.jN a=>Bo (bx a)
theorem fF:∀e:E,gG P P' e
 |.an a b=>Rp (fF a) (fF b)
 |.orr a b=>N6 (fF a) (fF b)
 |.nt a=>Rq (fF a)
 |.c x=>eT Lv (λ_=>by simp only[aJ]) (λ_ _=>by simp only[Ev.aJ])
 |.v x=>eT Lx (λ_=>by simp only[aJ]) (λ_ _=>by simp only[Ev.aJ])
 |.tup es=>eT (Bf (gc es)) (λ_=>by simp only[aJ]) (λ_ _=>by simp only[Ev.aJ])
 |.lst es=>eT (Bg (gc es)) (λ_=>by simp only[aJ]) (λ_ _=>by simp only[Ev.aJ])
 |.bin _ a b=>eT (Bh (bx a) (bx b)) (λ_=>by simp only[aJ]) (λ_ _=>by simp only[Ev.aJ])
 |.cmp _ a b=>eT (Bj (bx a) (bx b)) (λ_=>by simp only[aJ]) (λ_ _=>by simp only[Ev.aJ])
 |.neg a=>eT (Bk (bx a)) (λ_=>by simp only[aJ]) (λ_ _=>by simp only[Ev.aJ])
 |.fV t a b=>eT (Bm (fF t) (bx a) (bx b)) (λ_=>by simp only[aJ]) (λ_ _=>by simp only[Ev.aJ])
 |.ix a b=>eT (Ft (bx a) (bx b)) (λ_=>by simp only[aJ]) (λ_ _=>by simp only[Ev.aJ])
 |.sl a lo hi=>eT (Fv (bx a) (qc lo) (qc hi)) (λ_=>by simp only[aJ]) (λ_ _=>by simp only[Ev.aJ])
 |.cl _ es=>eT (Fw HP (mY es)) (λ_=>by simp only[aJ]) (λ_ _=>by simp only[Ev.aJ])
 |.bi _ es=>eT (Fx (gc es)) (λ_=>by simp only[aJ]) (λ_ _=>by simp only[Ev.aJ])
 |.me _ o es=>eT (Fy (bx o) (gc es)) (λ_=>by simp only[aJ]) (λ_ _=>by simp only[Ev.aJ])
 |.comp elt _ it cond=>eT (uM (jD it) (Br cond) (bx elt)) (λ_=>by simp only[aJ]) (λ_ _=>by simp only[Ev.aJ])
 |.je it=>eT (Bp (jD it)) (λ_=>by simp only[aJ]) (λ_ _=>by simp only[Ev.aJ])
 |.iX _ a=>eT (xG (bx a)) (λ_=>by simp only[aJ]) (λ_ _=>by simp only[Ev.aJ])
 |.jN a=>eT (Bo (bx a)) (λ_=>by simp only[aJ]) (λ_ _=>by simp only[Ev.aJ])
theorem gc:∀e:Es,jj P P' e
 |.nil=>LA
 |.cons e es=>Hu (bx e) (gc es)
theorem mY:∀e:Es,qa P P' e
 |.nil=>Hv
 |.cons e es=>C7 (bx e) (mY es)
theorem qc:∀e:Eo,qb P P' e
 |.no=>N5
 |.yes e=>LC (bx e)
theorem Br:∀e:Eo,tF P P' e
 |.no=>LD
 |.yes e=>Hw (fF e)
theorem jD:∀e:It,kZ P P' e
 |.seq e=>LF (bx e)
 |.fU es=>Hx (gc es)
 |.enum a=>C8 (bx a)
 |.rev a=>Hy (bx a)
end
end
structure Tr(M B:Nat->Prop)(h:Hh)(S:Nat->Prop)(M':Nat->Prop)(h':Hh)(S':Nat->Prop):Prop where
 len:h.length<=h'.length
 keep:∀m,m<h.length->¬ M m->h'[m]?=h[m]?
 sub:∀m,S m->S' m
 new:∀m,S' m->S m\/(h.length<=m/\m<h'.length)\/(M m/\¬ B m)
 q8:∀m,M' m->M m\/h.length<=m
structure dh(M B:Nat->Prop)(h:Hh)(S:Nat->Prop)(fr:Fr)(ai:Ev.Fr)(M':Nat->Prop)(h':Hh)(S':Nat->Prop)(af:Fr)(bg:Ev.Fr):Prop where
 f:aW M' B h' S' af bg
 tr:Tr M B h S M' h' S'
 lk:∀i,locked af i=locked fr i
 rf:∀i,locked fr i=true->bg[i]?=ai[i]?
noncomputable def fC(h:Hh)(S:Nat->Prop):Fl->Ev.Fl->Prop
 |.nx,g=>g=.nx
 |.bk,g=>g=.bk
 |.ct,g=>g=.ct
 |.ret v,g=>∃d,g=.ret d/\Rep h S v d
section
variable{M B M' M1 M2:Nat->Prop}{h h1 h2:Hh}{S S' S1 S2:Nat->Prop}{fr af aq:Fr}{ai bg ja:Ev.Fr}{c:List Nat}{v:V}{d:D}
def dh.refl(f:aW M B h S fr ai):dh M B h S fr ai M h S fr ai:=⟨f,⟨vn _,λ_ _ _=>rfl,λ_ q=>q,λ_ q=>.inl q,λ_ q=>.inl q⟩,λ_=>rfl,λ_ _=>rfl⟩
def Out.s(o:Out M B c h S fr ai h1 S1 af):dh M B h S fr ai M h1 S1 af ai:=⟨o.f,⟨o.tr.len,λm y1 y2=>o.tr.keep m y1 (λz=>y2 z.1),o.tr.sub,λm q=>(o.tr.new m q).imp id .inl,λ_ q=>.inl q⟩,o.lk,λ_ _=>rfl⟩
theorem dh.trans(f0:aW M B h S fr ai)(a:dh M B h S fr ai M1 h1 S1 af bg)(b:dh M1 B h1 S1 af bg M2 h2 S2 aq ja):dh M B h S fr ai M2 h2 S2 aq ja where
 f:=b.f
 tr:=⟨VE a.tr.len b.tr.len,λm y1 y2=>by
   rw[b.tr.keep m (fB y1 a.tr.len) (λz=>by
    rcases a.tr.q8 m z with z|z
    .exact y2 z
    .omega),a.tr.keep m y1 y2],λm q=>b.tr.sub m (a.tr.sub m q),λm q=>by
   rcases b.tr.new m q with q|q|q
   .rcases a.tr.new m q with q|q|q
    .exact .inl q
    .exact .inr (.inl ⟨q.1,fB q.2 b.tr.len⟩)
    .exact .inr (.inr q)
   .exact .inr (.inl ⟨VE a.tr.len q.1,q.2⟩)
   .rcases a.tr.q8 m q.1 with z|z
    .exact .inr (.inr ⟨z,q.2⟩)
    .exact .inr (.inl ⟨z,fB (a.f.wM m q.1) b.tr.len⟩),λm q=>by
   rcases b.tr.q8 m q with q|q
   .exact a.tr.q8 m q
   .exact .inr (VE a.tr.len q)⟩
 lk:=λi=>(b.lk i).trans (a.lk i)
 rf:=λi q=>(b.rf i (by rw[a.lk i];exact q)).trans (a.rf i q)
def aW.kind(f:aW M B h S fr ai)(g:Option Sl->Option Sl->Prop)(hl:af.length=fr.length)(hg:∀(i:Nat) o,af[i]?=some o->∃o0,fr[i]?=some o0/\(o=o0\/(∃l,o0=some (.own l)/\o=some (.val (.lst l)))\/(∃l,o0=some (.bor l)/\o=some (.ro l)))) :
  ∃M' S',dh M B h S fr ai M' h S' af ai:=by
 let X:Nat->Prop:=λm=>∃(i:Nat) (l:List V),fr[i]?=some (some (Sl.own l))/\af[i]?=some (some (Sl.val (V.lst l)))/\ai[i]?=some (some (D.ref m))
 let Y:Nat->Prop:=λm=>∃(i:Nat) (l:List V),fr[i]?=some (some (Sl.bor l))/\af[i]?=some (some (Sl.ro l))/\ai[i]?=some (some (D.ref m))
 have xM:∀m,X m->M m/\¬ B m:=λm ⟨i,l,a,_,b⟩=>by
  obtain⟨m',ds,e,q,_⟩:=f.sl i _ _ a b;cases e;exact q
 have yM:∀m,Y m->M m/\B m:=λm ⟨i,l,a,_,b⟩=>by
  obtain⟨m',ds,e,q,_⟩:=f.sl i _ _ a b;cases e;exact q
 have mono:∀{l:List V} {ds:List D},ay h S l ds->ay h (λm=>S m\/X m) l ds:=λq=>q.mono (λ_ _=>rfl) λ_ z=>.inl z;refine⟨λm=>M m/\¬ X m/\¬ Y m,λm=>S m\/X m,⟨⟨λm q=>?_,λm q=>f.wM m q.1,f.wB,by rw[hl,f.len],λi o p e1 e2=>?_,λi j o o' m y1 y2 y3 y4 y5 y6=>?_⟩,⟨vn _,λ_ _ _=>rfl,λ_ q=>.inl q,λm q=>?_,λm q=>.inl q.1⟩,λi=>?_,λ_ _=>rfl⟩⟩
 .rcases q with q|q
  .exact⟨(f.wS m q).1,λz=>(f.wS m q).2.1 z.1,(f.wS m q).2.2⟩
  .exact⟨f.wM m (xM m q).1,λz=>z.2.1 q,(xM m q).2⟩
 .obtain⟨o0,e0,k⟩:=hg i o e1;have old:=f.sl i o0 p e0 e2;rcases k with rfl|⟨l,rfl,rfl⟩|⟨l,rfl,rfl⟩
  .rcases o with _|s
   .exact old
   .cases s with
    |val v=>obtain⟨d,e,q⟩:=old;exact⟨d,e,q.mono (λ_ _=>rfl) λ_ z=>.inl z⟩
    |own l=>
     obtain⟨m,ds,rfl,z,y,q⟩:=old;refine⟨m,ds,rfl,⟨⟨z.1,λ⟨j,l',a1,a2,a3⟩=>?_,λ⟨j,l',a1,a2,a3⟩=>?_⟩,z.2⟩,y,mono q⟩
     .have:=f.inj i j _ _ m e0 a1 rfl rfl e2 a3;subst this;rw[e1]at a2;cases a2
     .have:=f.inj i j _ _ m e0 a1 rfl rfl e2 a3;subst this;rw[e1]at a2;cases a2
    |bor l=>
     obtain⟨m,ds,rfl,z,y,q⟩:=old;refine⟨m,ds,rfl,⟨⟨z.1,λ⟨j,l',a1,a2,a3⟩=>?_,λ⟨j,l',a1,a2,a3⟩=>?_⟩,z.2⟩,y,mono q⟩
     .have:=f.inj i j _ _ m e0 a1 rfl rfl e2 a3;subst this;rw[e1]at a2;cases a2
     .have:=f.inj i j _ _ m e0 a1 rfl rfl e2 a3;subst this;rw[e1]at a2;cases a2
    |ro l=>obtain⟨m,ds,rfl,z,y,q⟩:=old;exact⟨m,ds,rfl,λw=>z w.1,y,mono q⟩
  .obtain⟨m,ds,rfl,z,y,q⟩:=old;exact⟨.ref m,rfl,m,ds,rfl,.inr ⟨i,l,e0,e1,e2⟩,y,mono q⟩
  .obtain⟨m,ds,rfl,z,y,q⟩:=old;exact⟨m,ds,rfl,λw=>w.2.2 ⟨i,l,e0,e1,e2⟩,y,mono q⟩
 .have kd:∀(i:Nat) o,af[i]?=some o->gU o=true->∃o0,fr[i]?=some o0/\gU o0=true:=λi o w1 w2=>by
   obtain⟨o0,e0,k⟩:=hg i o w1;rcases k with rfl|⟨l,rfl,rfl⟩|⟨l,rfl,rfl⟩
   .exact⟨o,e0,w2⟩
   .cases w2
   .cases w2
  obtain⟨oi,k1,k2⟩:=kd i o y1 y3;obtain⟨oj,k3,k4⟩:=kd j o' y2 y4;exact f.inj i j oi oj m k1 k3 k2 k4 y5 y6
 .rcases q with q|q
  .exact .inl q
  .exact .inr (.inr (xM m q))
 .unfold locked;cases z:af[i]? with
  |none=>
   have:fr[i]?=none:=by rw[XW]at z ⊢;omega
   rw[this]
  |some o=>
   obtain⟨o0,e0,k⟩:=hg i o z;rw[e0];rcases k with rfl|⟨l,rfl,rfl⟩|⟨l,rfl,rfl⟩<;>rfl
def aW.cj(f:aW M B h S fr ai):∃M' S',dh M B h S fr ai M' h S' (fc fr) ai:=by
 refine f.kind (λ_ _=>True) (by simp[fc]) λi o e=>?_;unfold fc at e;rw[Vz]at e;cases z:fr[i]? with
 |none=>rw[z]at e;cases e
 |some o0=>
  rw[z]at e;cases e;refine⟨o0,rfl,?_⟩;rcases o0 with _|s
  .exact .inl rfl
  .cases s with
   |own l=>exact .inr (.inl ⟨l,rfl,rfl⟩)
   |_=>exact .inl rfl
def aW.pre(e:E)(f:aW M B h S fr ai):∃M' S',dh M B h S fr ai M' h S' (mT e fr) ai:=by
 cases e with
 |v j=>
  refine f.kind (λ_ _=>True) (by simp[mT]) λi o e=>?_;simp only[mT]at e;rw[Xp]at e;cases z:fr[i]? with
  |none=>rw[z]at e;simp at e
  |some o0=>
   rw[z]at e;replace e:(if j=i then Option.map Sl.cj o0 else o0)=o:=kI e;by_cases hj:j=i
   .rw[cS hj]at e;subst e;refine⟨o0,rfl,?_⟩;rcases o0 with _|s
    .exact .inl rfl
    .cases s with
     |own l=>exact .inr (.inl ⟨l,rfl,rfl⟩)
     |_=>exact .inl rfl
   .rw[Qm hj]at e;subst e;exact⟨o0,rfl,.inl rfl⟩
 |_=>exact⟨_,_,.refl f⟩
theorem aW.walk:∀(is:List Nat) {M:Nat->Prop}{S:Nat->Prop}{fr:Fr},aW M B h S fr ai->∃M' S',dh M B h S fr ai M' h S' (iM is fr) ai
 |[],_,_,_,f=>⟨_,_,.refl f⟩
 |i :: is,M,S,fr,f=>by
  have one:∃M1 S1,dh M B h S fr ai M1 h S1 (match fr[i]? with|some (some s)=>fr.set i (some s.walk)|_=>fr) ai:=by
   split
   .rename_i s z;have hl:=(List.getElem?_eq_some_iff.mp z).1;refine f.kind (λ_ _=>True) (by simp) λj o e=>?_;by_cases hj:i=j
    .subst hj;rw[Ei hl]at e;cases e;refine⟨_,z,?_⟩;cases s with
     |own l=>exact .inr (.inl ⟨l,rfl,rfl⟩)
     |bor l=>exact .inr (.inr ⟨l,rfl,rfl⟩)
     |_=>exact .inl rfl
    .rw[gI hj]at e;exact⟨o,e,.inl rfl⟩
   .exact⟨M,S,.refl f⟩
  obtain⟨M1,S1,o1⟩:=one;obtain⟨M2,S2,o2⟩:=aW.walk is o1.f;exact⟨M2,S2,o1.trans f o2⟩
theorem aW.own(f:aW M B h S fr ai){i:Nat}{l:List V}{ds:List D}(e:put fr i (.own l)=some af)(q:ay h S l ds):dh M B h S fr ai (λm=>M m\/m=h.length) (h++[.lst ds]) S af (ai.set i (some (.ref h.length))):=by
 have hx:af=fr.set i (some (.own l))/\locked fr i=false:=by
  unfold put at e;unfold locked;split at e
  .cases e
  .cases e
  .rename_i k1 k2;cases e;refine⟨rfl,?_⟩;cases z:fr[i]? with
   |none=>rfl
   |some o=>
    rcases o with _|s
    .rfl
    .cases s with
     |bor l=>exact absurd z (k1 l)
     |ro l=>exact absurd z (k2 l)
     |_=>rfl
 obtain⟨rfl,hk⟩:=hx;have kp:∀m,m<h.length->(h++[O.lst ds])[m]?=h[m]?:=λm z=>by rw[Mv z]
 have kS:∀m,S m->(h++[O.lst ds])[m]?=h[m]?:=λm z=>kp m (f.w m z);refine⟨⟨λm y=>⟨by have:=(f.wS m y).1;simp;omega,λz=>?_,(f.wS m y).2.2⟩,λm y=>?_,λm y=>by have:=f.wB m y;simp;omega,by simp[f.len],λj o p y1 y2=>?_,λj k o o' m y1 y2 y3 y4 y5 y6=>?_⟩,⟨by simp,λm y _=>kp m y,λ_ z=>z,λ_ z=>.inl z,λm z=>z.imp id (λz=>by omega)⟩,λj=>?_,λj hj=>?_⟩
 .rcases z with z|z
  .exact(f.wS m y).2.1 z
  .have:=(f.wS m y).1;omega
 .rcases y with y|y
  .have:=f.wM m y;simp;omega
  .subst y;simp
 .by_cases hj:i=j
  .subst hj;have hl:i<fr.length:=by have:=(List.getElem?_eq_some_iff.mp y1).1;simpa using this
   rw[Ei hl]at y1;rw[Ei (by rw[<-f.len];exact hl)]at y2;cases y1;cases y2;exact⟨h.length,ds,rfl,⟨.inr rfl,λz=>by have:=f.wB _ z;omega⟩,by simp,q.mono kS λ_ z=>z⟩
  .rw[gI hj]at y1 y2;have old:=f.sl j o p y1 y2;rcases o with _|s
   .exact old
   .cases s with
    |val v=>obtain⟨d,e,q⟩:=old;exact⟨d,e,q.mono kS λ_ z=>z⟩
    |own l=>obtain⟨m,es,rfl,z,y,q⟩:=old;exact⟨m,es,rfl,⟨.inl z.1,z.2⟩,by rw[kp m (f.wM m z.1)];exact y,q.mono kS λ_ z=>z⟩
    |bor l=>obtain⟨m,es,rfl,z,y,q⟩:=old;exact⟨m,es,rfl,⟨.inl z.1,z.2⟩,by rw[kp m (f.wM m z.1)];exact y,q.mono kS λ_ z=>z⟩
    |ro l=>
     obtain⟨m,es,rfl,z,y,q⟩:=old;have hm:=(List.getElem?_eq_some_iff.mp y).1;exact⟨m,es,rfl,λw=>by rcases w with w|w;exact z w;omega,by rw[kp m hm];exact y,q.mono kS λ_ z=>z⟩
 .have low:∀(j:Nat) o,i≠j->fr[j]?=some o->gU o=true->ai[j]?=some (some (.ref m))->m<h.length:=λj o _ w1 w2 w3=>f.wM m (f.mM w1 w2 w3);have new:∀(j:Nat),j<fr.length->i=j->(ai.set i (some (.ref h.length)))[j]?=some (some (.ref m))->m=h.length:=λj hl hj w=>by
   subst hj;rw[Ei (by rw[<-f.len];exact hl)]at w;cases w;rfl
  have lj:j<fr.length:=by have:=(List.getElem?_eq_some_iff.mp y1).1;simpa using this
  have lk:k<fr.length:=by have:=(List.getElem?_eq_some_iff.mp y2).1;simpa using this
  by_cases hj:i=j
  .by_cases hk2:i=k
   .rw[<-hj,<-hk2]
   .have a:=new j lj hj y5;rw[gI hk2]at y2 y6;have b:=low k o' hk2 y2 y4 y6;omega
  .by_cases hk2:i=k
   .have a:=new k lk hk2 y6;rw[gI hj]at y1 y5;have b:=low j o hj y1 y3 y5;omega
   .rw[gI hj]at y1 y5;rw[gI hk2]at y2 y6;exact f.inj j k o o' m y1 y2 y3 y4 y5 y6
 .by_cases hj:i=j
  .subst hj;rw[hk];unfold locked;by_cases hl:i<fr.length
   .rw[Ei hl];rfl
   .rw[VG (by simpa using hl)]
  .unfold locked;rw[gI hj]
 .have:i≠j:=λz=>by subst z;rw[hk]at hj;cases hj
  rw[gI this]
end
inductive LG(P':Ev.aF)(w:Nat)(s:S)(g:Fl)(M B:Nat->Prop)(h:Hh)(S:Nat->Prop)(fr:Fr)(ai:Ev.Fr)(af:Fr):Prop
 |mk (g':Ev.Fl) (bg:Ev.Fr) (M':Nat->Prop) (h':Hh) (S':Nat->Prop) (c0:Ev.ex P' w s ai h=.ok (g',bg) h') (c1:fC h' S' g g') (c2:dh M B h S fr ai M' h' S' af bg):LG P' w s g M B h S fr ai af
inductive LH(P':Ev.aF)(w:Nat)(s:Ss)(g:Fl)(M B:Nat->Prop)(h:Hh)(S:Nat->Prop)(fr:Fr)(ai:Ev.Fr)(af:Fr):Prop
 |mk (g':Ev.Fl) (bg:Ev.Fr) (M':Nat->Prop) (h':Hh) (S':Nat->Prop) (c0:Ev.exs P' w s ai h=.ok (g',bg) h') (c1:fC h' S' g g') (c2:dh M B h S fr ai M' h' S' af bg):LH P' w s g M B h S fr ai af
section
variable(P:aF)(P':Ev.aF)(w:Nat)
noncomputable def mZ(s:S):Prop:=∀{fr:Fr} {g:Fl} {af:Fr} {M B:Nat->Prop} {h:Hh} {S:Nat->Prop} {ai:Ev.Fr},ex P w s fr=.ok g af->aW M B h S fr ai->LG P' w s g M B h S fr ai af
noncomputable def qd(s:Ss):Prop:=∀{fr:Fr} {g:Fl} {af:Fr} {M B:Nat->Prop} {h:Hh} {S:Nat->Prop} {ai:Ev.Fr},exs P w s fr=.ok g af->aW M B h S fr ai->LH P' w s g M B h S fr ai af
end
section
variable{P:aF}{P':Ev.aF}{w:Nat}(HP:nK P P')
include HP
def C9{i:Nat}{e:E}{fr:Fr}{g:Fl}{af:Fr}{M B:Nat->Prop}{h:Hh}{S:Nat->Prop}{ai:Ev.Fr}(z:((ev P false e fr).bind λx af=>if isNew e then (match x with
   |.lst l=>(R.of (put af i (.own l)) af).bind λaq _=>.ok .nx aq
   |_=>.bad)
  else (R.of (put af i (.val x)) af).bind λaq _=>.ok .nx aq)=.ok g af) (f:aW M B h S fr ai):LG P' w (.set i e) g M B h S fr ai af:=by
 replace z:=ah z;obtain⟨x,aq,z1,z⟩:=z;by_cases hn:isNew e=true
 .rw[cS hn]at z;have key:∃l ds h1 S1,x=.lst l/\ay h1 S1 l ds/\Ev.ev P' e ai h=.ok (.ref h1.length) (h1++[.lst ds])/\Out M B (b8 e) h S fr ai h1 S1 aq:=by
   cases e <;> (try simp only[isNew,VH]at hn)
   case lst es=>
    simp only[ev]at z1;replace z1:=ah z1;obtain⟨l,bf,z2,z1⟩:=z1;replace z1:=aL z1;obtain⟨z1,y0⟩:=z1;subst y0;unfold dR at z1;split at z1
    case isFalse=>cases z1
    rename_i hk;cases z1;obtain⟨ds,h1,S1,e1,q1,o1⟩:=gc HP es z2 f;refine⟨l,ds,h1,S1,rfl,q1.n,?_,o1⟩;simp only[Ev.ev,e1,Ev.ao,Ev.alloc];rw[cS (by rw[<-q1.n.length];exact hk)]
   case je it=>
    simp only[ev]at z1;replace z1:=ah z1;obtain⟨l,bf,z2,z1⟩:=z1;replace z1:=aL z1;obtain⟨z1,y0⟩:=z1;subst y0;unfold dR at z1;split at z1
    case isFalse=>cases z1
    rename_i hk;cases z1;obtain⟨s,h1,S1,e1,q1,q2,o1⟩:=jD HP it z2 f;refine⟨l,s.1,h1,S1,rfl,q1,?_,o1⟩;simp only[Ev.ev,e1,Ev.ao,Ev.alloc];rw[cS (by rw[<-q1.length];exact hk)]
  obtain⟨l,ds,h1,S1,rfl,q1,e1,o1⟩:=key;simp only at z;replace z:=ah z;obtain⟨bf,fY,z2,z⟩:=z;replace z2:=aL z2;obtain⟨z2,y0⟩:=z2;subst y0;cases z;have o2:=o1.f.own z2 q1;exact⟨.nx,_,_,_,_,by simp only[Ev.ex,e1,Ev.ao],rfl,o1.s.trans f o2⟩
 .rw[Qm hn]at z;replace z:=ah z;obtain⟨bf,fY,z2,z⟩:=z;replace z2:=aL z2;obtain⟨z2,y0⟩:=z2;subst y0;cases z;obtain⟨d,h1,S1,e1,q1,o1⟩:=bx HP e z1 f;obtain⟨f2,l2,r2⟩:=o1.f.set z2 q1.n;refine⟨.nx,_,_,_,_,by simp only[Ev.ex,e1,Ev.ao],rfl,o1.s.trans f ⟨f2,(dh.refl f2).tr,l2,r2⟩⟩
def Hz{i:Nat}{e:E}:mZ P P' w (.set i e):=λ{fr g af M B h S ai} z f=>by
 simp only[ex]at z;obtain⟨M0,S0,o0⟩:=f.pre e;obtain⟨g',y1,y2,y3,y4,y5,y6,o⟩:=C9 HP z o0.f;exact⟨g',y1,y2,y3,y4,y5,y6,o0.trans f o⟩
def HA{l:List Nat}{e:E}:mZ P P' w (.iH l e):=λ{fr g af M B h S ai} z f=>by
 simp only[ex]at z;replace z:=ah z;obtain⟨x,aq,z1,z⟩:=z;replace z:=ah z;obtain⟨bf,fY,z2,z⟩:=z;replace z2:=aL z2;obtain⟨z2,y0⟩:=z2;subst y0;cases z;obtain⟨d,h1,S1,e1,q1,o1⟩:=bx HP e z1 f;obtain⟨gS,b1,f2,l2,r2⟩:=o1.f.bw z2 q1.n;exact⟨.nx,_,_,_,_,by simp only[Ev.ex,e1,Ev.ao,b1],rfl,o1.s.trans f ⟨f2,(dh.refl f2).tr,l2,r2⟩⟩
def LI{e:E}:mZ P P' w (.exp e):=λ{fr g af M B h S ai} z f=>by
 simp only[ex]at z;replace z:=ah z;obtain⟨x,aq,z1,z⟩:=z;cases z;obtain⟨d,h1,S1,e1,q1,o1⟩:=bx HP e z1 f;exact⟨.nx,_,_,_,_,by simp only[Ev.ex,e1,Ev.ao],rfl,o1.s⟩
def LJ{e:E}:mZ P P' w (.ret e):=λ{fr g af M B h S ai} z f=>by
 simp only[ex]at z;replace z:=ah z;obtain⟨x,aq,z1,z⟩:=z;cases z;obtain⟨M1,S1,o1⟩:=f.cj;obtain⟨d,h2,S2,e1,q1,o2⟩:=bx HP e z1 o1.f;exact⟨.ret d,_,_,_,_,by simp only[Ev.ex,e1,Ev.ao],⟨d,rfl,q1.n⟩,o1.trans f o2.s⟩
omit HP in
theorem q9{F:V->Fr->R Fl}{F':D->Ev.Fr->Hh->Ev.R (Ev.Fl×Ev.Fr)}{ck:List (Nat×List D)}{B:Nat->Prop}{M0:Nat->Prop}{h0:Hh}{S0:Nat->Prop}{dJ:Fr}{Dc:Ev.Fr}(f0:aW M0 B h0 S0 dJ Dc)(st:∀q∈ck,aY h0 q.1=some q.2/\¬ M0 q.1)
  (turn:∀v d fr g af M h S ai,F v fr=.ok g af->aW M B h S fr ai->Rep h S v d->∃g' bg M' h' S',F' d ai h=.ok (g',bg) h'/\fC h' S' g g'/\dh M B h S fr ai M' h' S' af bg) :
  ∀{vs:List V} {ds:List D} {fr:Fr} {g:Fl} {af:Fr} {M:Nat->Prop} {h:Hh} {S:Nat->Prop} {ai:Ev.Fr},forL F vs fr=.ok g af->dh M0 B h0 S0 dJ Dc M h S fr ai->ay h S vs ds->
  ∃g' bg M' h' S',Ev.forL F' ck ds ai h=.ok (g',bg) h'/\fC h' S' g g'/\dh M0 B h0 S0 dJ Dc M' h' S' af bg
 |[],ds,fr,g,af,M,h,S,ai,e,o,q=>by
  simp only[forL]at e;simp only[ay]at q;subst q;cases e;refine⟨.nx,ai,M,h,S,?_,rfl,o⟩;simp only[Ev.forL];rw[cS (iK λx hx=>jC (st x hx).1 (o.tr.keep _ (kF (st x hx).1) (st x hx).2))]
 |v :: vs,ds,fr,g,af,M,h,S,ai,e,o,q=>by
  simp only[forL]at e;replace e:=ah e;obtain⟨p,aq,e1,e⟩:=e;simp only[ay]at q;obtain⟨d,es,rfl,q1,q2⟩:=q;obtain⟨g',ja,M2,h2,S2,t1,t2,t3⟩:=turn v d fr p aq M h S ai e1 o.f q1;have o2:=o.trans f0 t3;have bL:Ev.stays h ck=true:=iK λx hx=>jC (st x hx).1 (o.tr.keep _ (kF (st x hx).1) (st x hx).2);have Qh:ay h2 S2 vs es:=q2.mono (λm z=>t3.tr.keep m (o.f.wS m z).1 (o.f.wS m z).2.1) t3.tr.sub;cases p with
  |nx=>
   simp only[fC]at t2;subst t2;simp only at e;obtain⟨qe,gS,M3,h3,S3,u1,u2,u3⟩:=q9 f0 st turn e o2 Qh;refine⟨qe,gS,M3,h3,S3,?_,u2,u3⟩;simp only[Ev.forL];rw[cS bL,t1,Ev.ao];exact u1
  |ct=>
   simp only[fC]at t2;subst t2;simp only at e;obtain⟨qe,gS,M3,h3,S3,u1,u2,u3⟩:=q9 f0 st turn e o2 Qh;refine⟨qe,gS,M3,h3,S3,?_,u2,u3⟩;simp only[Ev.forL];rw[cS bL,t1,Ev.ao];exact u1
  |bk=>
   simp only[fC]at t2;subst t2;simp only at e;cases e;refine⟨.nx,ja,M2,h2,S2,?_,rfl,o2⟩;simp only[Ev.forL];rw[cS bL,t1,Ev.ao]
  |ret x=>
   simp only[fC]at t2;obtain⟨d2,rfl,t2⟩:=t2;simp only at e;cases e;refine⟨.ret d2,ja,M2,h2,S2,?_,⟨d2,rfl,t2⟩,o2⟩;simp only[Ev.forL];rw[cS bL,t1,Ev.ao]
def LK{t:T}{it:It}{b:Ss}(ib:qd P P' w b):mZ P P' w (.for t it b):=λ{fr g af M B h S ai} z f=>by
 simp only[ex]at z;replace z:=ah z;obtain⟨vs,aq,z1,z⟩:=z;obtain⟨M1,S1,o1⟩:=f.walk (itv it);obtain⟨s,h2,S2,e1,q1,q2,o2⟩:=jD HP it z1 o1.f;have o3:=o1.trans f o2.s;obtain⟨g',bg,M',h',S',u1,u2,u3⟩:=q9 (F':=λd aq h2=>match Ev.bw t d aq with
   |some bf=>Ev.exs P' w b bf h2
   |none=>.bad) (ck:=s.2) o2.f (λq hq=>⟨(q2 q hq).1,(q2 q hq).2 rfl⟩) (λv d fr g af M h S ai y f q=>by
  split at y
  .rename_i bf y1;obtain⟨gS,b1,b2,b3,b4⟩:=f.bw y1 q;rw[b1];obtain⟨g',bg,M',h',S',c1,c2,c3⟩:=ib y b2;exact⟨g',bg,M',h',S',c1,c2,(⟨b2,(dh.refl b2).tr,b3,b4⟩:dh M _ h S fr ai M h S bf gS).trans f c3⟩
  .cases y) z (dh.refl o2.f) q1
 refine⟨g',bg,M',h',S',?_,u2,o3.trans f u3⟩;simp only[Ev.ex,e1,Ev.ao];exact u1
theorem uN{t:E}{b:Ss}(ib:qd P P' w b):∀(n:Nat) {fr:Fr}{g:Fl}{af:Fr}{M B:Nat->Prop}{h:Hh}{S:Nat->Prop}{ai:Ev.Fr},fj (λaq=>aJ P t aq) (λaq=>exs P w b aq) n fr=.ok g af->aW M B h S fr ai->
  ∃g' bg M' h' S',Ev.fj (λaq h2=>Ev.aJ P' t aq h2) (λaq h2=>Ev.exs P' w b aq h2) n ai h=.ok (g',bg) h'/\fC h' S' g g'/\dh M B h S fr ai M' h' S' af bg
 |0,_,_,_,_,_,_,_,_,z,_=>by simp only[fj]at z;cases z
 |n+1,fr,g,af,M,B,h,S,ai,z,f=>by
  simp only[fj]at z;replace z:=ah z;obtain⟨k,aq,z1,z⟩:=z;obtain⟨h1,S1,e1,o1⟩:=fF HP t z1 f;cases k with
  |false=>
   simp only[VH,Wb]at z;cases z;refine⟨.nx,ai,M,h1,S1,?_,rfl,o1.s⟩;simp only[Ev.fj,e1,Ev.ao];rw[Qm (by decide)]
  |true=>
   simp only[VI]at z;replace z:=ah z;obtain⟨p,bf,z2,z⟩:=z;obtain⟨g',gS,M2,h2,S2,t1,t2,t3⟩:=ib z2 o1.f;have o2:=o1.s.trans f t3;cases p with
   |nx=>
    simp only[fC]at t2;subst t2;simp only at z;obtain⟨qe,De,M3,h3,S3,u1,u2,u3⟩:=uN ib n z t3.f;refine⟨qe,De,M3,h3,S3,?_,u2,o2.trans f u3⟩;simp only[Ev.fj,e1,Ev.ao,VI,t1];exact u1
   |ct=>
    simp only[fC]at t2;subst t2;simp only at z;obtain⟨qe,De,M3,h3,S3,u1,u2,u3⟩:=uN ib n z t3.f;refine⟨qe,De,M3,h3,S3,?_,u2,o2.trans f u3⟩;simp only[Ev.fj,e1,Ev.ao,VI,t1];exact u1
   |bk=>
    simp only[fC]at t2;subst t2;simp only at z;cases z;refine⟨.nx,gS,M2,h2,S2,?_,rfl,o2⟩;simp only[Ev.fj,e1,Ev.ao,VI,t1]
   |ret x=>
    simp only[fC]at t2;obtain⟨d2,rfl,t2⟩:=t2;simp only at z;cases z;refine⟨.ret d2,gS,M2,h2,S2,?_,⟨d2,rfl,t2⟩,o2⟩;simp only[Ev.fj,e1,Ev.ao,VI,t1]
def LL{t:E}{a b:Ss}(ia:qd P P' w a)(ib:qd P P' w b):mZ P P' w (.iff t a b):=λ{fr g af M B h S ai} z f=>by
 simp only[ex]at z;replace z:=ah z;obtain⟨k,aq,z1,z⟩:=z;obtain⟨h1,S1,e1,o1⟩:=fF HP t z1 f;cases k with
 |true=>
  simp only[VI]at z;obtain⟨g',bg,M',h',S',c1,c2,c3⟩:=ia z o1.f;exact⟨g',bg,M',h',S',by simp only[Ev.ex,e1,Ev.ao,VI,c1],c2,o1.s.trans f c3⟩
 |false=>
  simp only[VH,Wb]at z;obtain⟨g',bg,M',h',S',c1,c2,c3⟩:=ib z o1.f;exact⟨g',bg,M',h',S',by simp only[Ev.ex,e1,Ev.ao];rw[Qm (by decide)];exact c1,c2,o1.s.trans f c3⟩
noncomputable def uO(P':Ev.aF):Prop:=∀f ds h d h',P' (f+Ev.xo) ds h=.ok d h'->P' f ds h=.bad
def N7(HE:uO P'){g kk:Nat}{es:Es}:mZ P P' w (.tr g kk es):=λ{fr _ af M B h S ai} z f=>by
 simp only[ex]at z;replace z:=ah z;obtain⟨as,aq,z1,z⟩:=z;obtain⟨ds,h1,S1,e1,q1,o1⟩:=mY HP es z1 f;split at z
 case isFalse=>cases z
 split at z
 .rename_i v bf y;cases z;obtain⟨d,h2,S2,e2,q2,o2⟩:=pe HP y o1.f q1;exact⟨.ret d,ai,M,h2,S2,by simp only[Ev.ex,e1,Ev.ao,e2,Ev.tryD],⟨d,rfl,q2⟩,(o1.trans o2).s⟩
 .replace z:=ah z;obtain⟨c,bf,z2,z⟩:=z;replace z:=aL z;obtain⟨z,rfl⟩:=z;obtain⟨d,h2,S2,e2,q2,o2⟩:=pe HP z2 o1.f q1;have e3:=HE _ _ _ _ _ e2;cases c with
  |int c=>
   simp only[Rep]at q2;subst q2;simp only[yZ]at z;split at z
   case isFalse=>cases z
   rename_i hc;cases z;refine⟨.ret (.tup [.str [114,101,102,117,115,101,100],.int c]),ai,M,h2,S2,by simp only[Ev.ex,e1,Ev.ao,e2,e3,Ev.tryD,Ev.Cr,cS hc,Ev.dG],⟨_,rfl,?_⟩,(o1.trans o2).s⟩;simp[Rep,ay]
  |_=>cases z
mutual
theorem FA(HE:uO P'):∀s:S,mZ P P' w s
 |.set _ _=>Hz HP
 |.iH _ _=>HA HP
 |.exp _=>LI HP
 |.ret _=>LJ HP
 |.iff _ a b=>LL HP (iD HE a) (iD HE b)
 |.for _ _ b=>LK HP (iD HE b)
 |.tr _ _ _=>N7 HP HE
 |.mD _ b=>λz f=>by
  simp only[ex]at z;obtain⟨g',bg,M',h',S',c1,c2,c3⟩:=uN HP (iD HE b) w z f;exact⟨g',bg,M',h',S',by simp only[Ev.ex];exact c1,c2,c3⟩
 |.pass=>λz f=>by simp only[ex]at z;cases z;exact⟨.nx,_,_,_,_,by simp only[Ev.ex],rfl,.refl f⟩
 |.brk=>λz f=>by simp only[ex]at z;cases z;exact⟨.bk,_,_,_,_,by simp only[Ev.ex],rfl,.refl f⟩
 |.eO _=>λz _=>by simp only[ex]at z;cases z
 |.cnt=>λz f=>by simp only[ex]at z;cases z;exact⟨.ct,_,_,_,_,by simp only[Ev.ex],rfl,.refl f⟩
theorem iD(HE:uO P'):∀s:Ss,qd P P' w s
 |.nil=>λz f=>by simp only[exs]at z;cases z;exact⟨.nx,_,_,_,_,by simp only[Ev.exs],rfl,.refl f⟩
 |.cons s ss=>λz f=>by
  simp only[exs]at z;replace z:=ah z;obtain⟨p,aq,z1,z⟩:=z;obtain⟨g',ja,M2,h2,S2,t1,t2,t3⟩:=FA HE s z1 f;cases p with
  |nx=>
   simp only[fC]at t2;subst t2;simp only at z;obtain⟨qe,gS,M3,h3,S3,u1,u2,u3⟩:=iD HE ss z t3.f;exact⟨qe,gS,M3,h3,S3,by simp only[Ev.exs,t1,Ev.ao,u1],u2,t3.trans f u3⟩
  |ct=>
   simp only[fC]at t2;subst t2;simp only at z;cases z;exact⟨.ct,ja,M2,h2,S2,by simp only[Ev.exs,t1,Ev.ao],rfl,t3⟩
  |bk=>
   simp only[fC]at t2;subst t2;simp only at z;cases z;exact⟨.bk,ja,M2,h2,S2,by simp only[Ev.exs,t1,Ev.ao],rfl,t3⟩
  |ret x=>
   simp only[fC]at t2;obtain⟨d2,rfl,t2⟩:=t2;simp only at z;cases z;exact⟨.ret d2,ja,M2,h2,S2,by simp only[Ev.exs,t1,Ev.ao],⟨d2,rfl,t2⟩,t3⟩
end
end
structure gu(M:Nat->Prop)(h h':Hh):Prop where
 len:h.length<=h'.length
 keep:∀m,m<h.length->¬ M m->h'[m]?=h[m]?
inductive jE(c:Nat)(M:Nat->Prop)(h:Hh)(r:Ev.XR):Prop
 |mk (h':Hh) (e:r=some (c,h')) (k:gu M h h'):jE c M h r
noncomputable def qf(X:cF)(X':Ev.cF):Prop:=∀f sl c,X f sl=some c->∀(h:Hh) (S B:Nat->Prop) (ds:List D),aW B B h S (sl.map some) (ds.map some)->jE c B h (X' f ds h)
def gu.after{M M1 B:Nat->Prop}{h h1 h2:Hh}{S S1:Nat->Prop}{fr af:Fr}{ai bg:Ev.Fr}(o:dh M B h S fr ai M1 h1 S1 af bg)(r:gu M1 h1 h2):gu M h h2:=⟨VE o.tr.len r.len,λm y1 y2=>by
 rw[r.keep m (fB y1 o.tr.len) (λz=>by
  rcases o.tr.q8 m z with z|z
  .exact y2 z
  .omega),o.tr.keep m y1 y2]⟩
section
variable{P:aF}{P':Ev.aF}{X:cF}{X':Ev.cF}{w:Nat}(HP:nK P P')(HE:uO P')(HX:qf X X')(HB:∀f ds h r,X' f ds h=some r->P' f ds h=.bad)
include HP HX HB
mutual
theorem lq:∀(e:E) {fr:Fr}{c:Nat}{M B:Nat->Prop}{h:Hh}{S:Nat->Prop}{ai:Ev.Fr},xe P X e fr=some c->aW M B h S fr ai->jE c M h (Ev.xe P' X' e ai h)
 |.cl g es,fr,c,M,B,h,S,ai,z,f=>by
  simp only[xe]at z;simp only[Ev.xe];split at z
  .rename_i as af y;obtain⟨ds,h1,S1,e1,q1,o1⟩:=mY HP es y f;rw[e1];unfold nJ at z;split at z
   case isFalse=>cases z
   rename_i nd;rw[cI]at z;obtain⟨sl,z1,z2⟩:=z;obtain⟨h2,e2,k⟩:=HX _ _ _ z2 h1 S1 _ ds (xD o1.f nd z1 q1);exact⟨h2,e2,gu.after o1.s ⟨k.len,λm y1 y2=>k.keep m y1 λz=>y2 (LB.m o1.f m z)⟩⟩
  .obtain⟨h2,e2,k⟩:=uP es z f;rw[Ev.t6 HB es e2];exact⟨h2,e2,k⟩
 |.ix a b,fr,c,M,B,h,S,ai,z,f=>by
  simp only[xe]at z;simp only[Ev.xe];exact lq a z f
 |.me m o es,fr,c,M,B,h,S,ai,z,f=>by
  simp only[xe]at z;split at z
  case isFalse=>cases z
  rename_i hm;split at z
  case h_2=>cases z
  rename_i i hi;cases o with
  |v j=>
   simp only[fQ]at hi;split at hi
   case isFalse=>cases hi
   rename_i hl;cases hi;obtain⟨s,hs⟩:=Option.isSome_iff_exists.mp hl;obtain⟨n,ds,l,o,k1,k2,k3,k4,k5⟩:=gW hs f;simp only[Ev.xe,Ev.ev,k2];have e0:Ev.kj m (.ref n) h=true:=by
    have:aY h n=some ds:=by unfold aY;rw[k3]
    cases m<;>first | (simp[Ev.kj,this];done)|cases hm
   simp only[Option.join,Option.bind,id,Ev.dG];rw[cS e0];exact Bs es z f
  |_=>cases hi
 |.tup _,_,_,_,_,_,_,_,z,_=>nomatch z|.comp _ _ _ _,_,_,_,_,_,_,_,z,_=>nomatch z|.jN _,_,_,_,_,_,_,_,z,_=>nomatch z
 |.c _,_,_,_,_,_,_,_,z,_=>nomatch z|.v _,_,_,_,_,_,_,_,z,_=>nomatch z|.lst _,_,_,_,_,_,_,_,z,_=>nomatch z
 |.bin _ _ _,_,_,_,_,_,_,_,z,_=>nomatch z|.cmp _ _ _,_,_,_,_,_,_,_,z,_=>nomatch z
 |.nt _,_,_,_,_,_,_,_,z,_=>nomatch z|.neg _,_,_,_,_,_,_,_,z,_=>nomatch z|.an _ _,_,_,_,_,_,_,_,z,_=>nomatch z|.orr _ _,_,_,_,_,_,_,_,z,_=>nomatch z|.fV _ _ _,_,_,_,_,_,_,_,z,_=>nomatch z
 |.sl _ _ _,_,_,_,_,_,_,_,z,_=>nomatch z
 |.bi _ _,_,_,_,_,_,_,_,z,_=>nomatch z
 |.je _,_,_,_,_,_,_,_,z,_=>nomatch z
 |.iX _ _,_,_,_,_,_,_,_,z,_=>nomatch z
theorem uP:∀(es:Es) {fr:Fr}{c:Nat}{M B:Nat->Prop}{h:Hh}{S:Nat->Prop}{ai:Ev.Fr},oE P X es fr=some c->aW M B h S fr ai->jE c M h (Ev.xa P' X' es ai h)
 |.nil,_,_,_,_,_,_,_,z,_=>nomatch z
 |.cons e es,fr,c,M,B,h,S,ai,z,f=>by
  simp only[oE]at z;simp only[Ev.xa];split at z
  .rename_i i hi;cases e with
   |v j=>
    simp only[fQ]at hi;split at hi
    case isFalse=>cases hi
    rename_i hl;cases hi;obtain⟨s,hs⟩:=Option.isSome_iff_exists.mp hl;obtain⟨n,ds,l,o,k1,k2,k3,k4,k5⟩:=gW hs f;simp only[Ev.ev,k2,Option.join,Option.bind,id,Ev.dG];exact uP es z f
   |_=>cases hi
  .split at z
   .rename_i y;obtain⟨d,h1,S1,e1,q1,o1⟩:=bx HP e y f;rw[e1];obtain⟨h2,e2,k⟩:=uP es z o1.f;exact⟨h2,e2,gu.after o1.s k⟩
   .obtain⟨h2,e2,k⟩:=lq e z f;rw[(Ev.eB HB e e2).1];exact⟨h2,e2,k⟩
theorem Bs:∀(es:Es) {k:Bool}{fr:Fr}{c:Nat}{M B:Nat->Prop}{h:Hh}{S:Nat->Prop}{ai:Ev.Fr},xr P X k es fr=some c->aW M B h S fr ai->jE c M h (Ev.xa P' X' es ai h)
 |.nil,_,_,_,_,_,_,_,_,z,_=>nomatch z
 |.cons e es,k,fr,c,M,B,h,S,ai,z,f=>by
  simp only[xr]at z;simp only[Ev.xa];split at z
  .rename_i y;obtain⟨d,h1,S1,e1,q1,o1⟩:=bx HP e y f;rw[e1];obtain⟨h2,e2,k⟩:=Bs es z o1.f;exact⟨h2,e2,gu.after o1.s k⟩
  .obtain⟨h2,e2,k⟩:=lq e z f;rw[(Ev.eB HB e e2).1];exact⟨h2,e2,k⟩
end
omit HP HX HB in
theorem xH{f:V->Fr->R Fl}{g:V->Fr->Option Nat}{f':D->Ev.Fr->Hh->Ev.R (Ev.Fl×Ev.Fr)}{g':D->Ev.Fr->Hh->Ev.XR}{ck:List (Nat×List D)}{B:Nat->Prop}
  (hf:∀{v d fr fl af M h S ai},f v fr=.ok fl af->aW M B h S fr ai->Rep h S v d->∃gl bg M' h' S',f' d ai h=.ok (gl,bg) h'/\fC h' S' fl gl/\dh M B h S fr ai M' h' S' af bg)
  (hg:∀{v d fr c M h S ai},g v fr=some c->aW M B h S fr ai->Rep h S v d->jE c M h (g' d ai h)) (hb:∀d fr h r,g' d fr h=some r->f' d fr h=.bad) :
  ∀(vs:List V) {ds:List D} {fr:Fr} {c:Nat} {M:Nat->Prop} {h:Hh} {S:Nat->Prop} {ai:Ev.Fr},cX f g vs fr=some c->aW M B h S fr ai->ay h S vs ds->(∀q∈ck,aY h q.1=some q.2/\¬ M q.1)->jE c M h (Ev.cX f' g' ck ds ai h)
 |[],_,_,_,_,_,_,_,z,_,_,_=>nomatch z
 |v :: vs,ds,fr,c,M,h,S,ai,z,f0,q,st=>by
  simp only[ay]at q;obtain⟨d,es,rfl,q1,q2⟩:=q;simp only[cX]at z;simp only[Ev.cX];rw[cS (iK λq hq=>(st q hq).1)];have go:∀{af:Fr} {bg:Ev.Fr} {M1:Nat->Prop} {h1:Hh} {S1:Nat->Prop},cX f g vs af=some c->dh M B h S fr ai M1 h1 S1 af bg->jE c M h (Ev.cX f' g' ck es bg h1):=λ{af bg M1 h1 S1} z1 o=>by
   obtain⟨h2,e2,k⟩:=xH hf hg hb vs z1 o.f (q2.mono (λm y=>o.tr.keep m (f0.wS m y).1 (f0.wS m y).2.1) o.tr.sub) (λq hq=>⟨jC (st q hq).1 (o.tr.keep _ (kF (st q hq).1) (st q hq).2),λy=>by
    rcases o.tr.q8 _ y with y|y
    .exact(st q hq).2 y
    .have:=kF (st q hq).1;omega⟩)
   exact⟨h2,e2,gu.after o k⟩
  split at z
  .rename_i y;obtain⟨gl,bg,M1,h1,S1,t1,t2,t3⟩:=hf y f0 q1;simp only[fC]at t2;subst t2;rw[t1];exact go z t3
  .rename_i y;obtain⟨gl,bg,M1,h1,S1,t1,t2,t3⟩:=hf y f0 q1;simp only[fC]at t2;subst t2;rw[t1];exact go z t3
  .cases z
  .obtain⟨h2,e2,k⟩:=hg z f0 q1;rw[hb _ _ _ _ e2];exact⟨h2,e2,k⟩
include HE
mutual
theorem N8:∀(s:S) {fr:Fr}{c:Nat}{M B:Nat->Prop}{h:Hh}{S:Nat->Prop}{ai:Ev.Fr},xs P X w s fr=some c->aW M B h S fr ai->jE c M h (Ev.xs P' X' w s ai h)
 |.eO c,fr,_,M,B,h,S,ai,z,f=>by
  simp only[xs]at z;cases z;exact⟨h,rfl,vn _,λ_ _ _=>rfl⟩
 |.set i e,fr,c,M,B,h,S,ai,z,f=>by
  simp only[xs]at z;simp only[Ev.xs];exact lq HP HX HB e z f
 |.exp e,fr,c,M,B,h,S,ai,z,f=>by
  simp only[xs]at z;simp only[Ev.xs];exact lq HP HX HB e z f
 |.ret e,fr,c,M,B,h,S,ai,z,f=>by
  simp only[xs]at z;simp only[Ev.xs];obtain⟨M1,S1,o⟩:=f.cj;obtain⟨h2,e2,k⟩:=lq HP HX HB e z o.f;exact⟨h2,e2,gu.after o k⟩
 |.iff t a b,fr,c,M,B,h,S,ai,z,f=>by
  simp only[xs]at z;simp only[Ev.xs];split at z
  .rename_i k af y;obtain⟨h1,S1,e1,o1⟩:=fF HP t y f;rw[e1];cases k with
   |true=>
    obtain⟨h2,e2,k⟩:=kG a (by simpa using z) o1.f;exact⟨h2,by simpa using e2,gu.after o1.s k⟩
   |false=>
    obtain⟨h2,e2,k⟩:=kG b (by simpa using z) o1.f;exact⟨h2,by simpa using e2,gu.after o1.s k⟩
  .obtain⟨h2,e2,k⟩:=lq HP HX HB t z f;rw[(Ev.eB HB t e2).2];exact⟨h2,e2,k⟩
 |.for t it b,fr,c,M,B,h,S,ai,z,f=>by
  simp only[xs]at z;simp only[Ev.xs];split at z
  case h_2=>cases z
  rename_i vs af y;obtain⟨M0,S0,o0⟩:=f.walk (itv it);obtain⟨s,h1,S1,e1,q1,q2,o1⟩:=jD HP it y o0.f;rw[e1];have o2:=o0.trans f o1.s;obtain⟨h2,e2,k⟩:=xH (B:=B) (ck:=s.2) (f':=λd aq h2=>match Ev.bw t d aq with|some bf=>Ev.exs P' w b bf h2|none=>.bad) (g':=λd aq h2=>match Ev.bw t d aq with|some bf=>Ev.xss P' X' w b bf h2|none=>none)
   (λ{v d fr fl af M h S ai} y1 f1 r1=>by
    split at y1
    .rename_i bf e3;obtain⟨gS,b1,b2,b3,b4⟩:=f1.bw e3 r1;rw[b1];obtain⟨g',bg,M',h',S',c1,c2,c3⟩:=iD HP HE b y1 b2;exact⟨g',bg,M',h',S',c1,c2,(⟨b2,(dh.refl b2).tr,b3,b4⟩:dh M _ h S fr ai M h S bf gS).trans f1 c3⟩
    .cases y1)
   (λ{v d fr c M h S ai} y1 f1 r1=>by
    split at y1
    .rename_i bf e3;obtain⟨gS,b1,b2,b3,b4⟩:=f1.bw e3 r1;rw[b1];exact kG b y1 b2
    .cases y1)
   (λd fr h r y1=>by
    split at y1
    .rename_i e3;exact Ev.dw HB b y1
    .cases y1) vs z o2.f q1 (λq hq=>⟨(q2 q hq).1,(q2 q hq).2 rfl⟩)
  exact⟨h2,e2,gu.after o2 k⟩
 |.mD t b,fr,c,M,B,h,S,ai,z,f=>by
  simp only[xs]at z;simp only[Ev.xs];have go:∀(n:Nat) {fr:Fr} {M:Nat->Prop} {h:Hh} {S:Nat->Prop} {ai:Ev.Fr},fX (λaq=>aJ P t aq) (λaq=>exs P w b aq) (λaq=>xss P X w b aq) n fr=some c->aW M B h S fr ai->jE c M h (Ev.fX (λaq h2=>Ev.aJ P' t aq h2) (λaq h2=>Ev.exs P' w b aq h2) (λaq h2=>Ev.xss P' X' w b aq h2) n ai h):=λn=>by
   induction n with
   |zero=>intro _ _ _ _ _ z _;cases z
   |succ n ih=>
    intro fr M h S ai z f;simp only[fX]at z;simp only[Ev.fX];split at z
    case h_2=>cases z
    rename_i af y;obtain⟨h1,S1,e1,o1⟩:=fF HP t y f;rw[e1];simp only;split at z
    .rename_i y2;obtain⟨gl,ja,M2,h2,S2,t1,t2,t3⟩:=iD HP HE b y2 o1.f;simp only[fC]at t2;subst t2;rw[t1];obtain⟨h3,e3,k⟩:=ih z t3.f;exact⟨h3,e3,gu.after (o1.s.trans f t3) k⟩
    .rename_i y2;obtain⟨gl,ja,M2,h2,S2,t1,t2,t3⟩:=iD HP HE b y2 o1.f;simp only[fC]at t2;subst t2;rw[t1];obtain⟨h3,e3,k⟩:=ih z t3.f;exact⟨h3,e3,gu.after (o1.s.trans f t3) k⟩
    .cases z
    .obtain⟨h3,e3,k⟩:=kG b z o1.f;rw[Ev.dw HB b e3];exact⟨h3,e3,gu.after o1.s k⟩
  exact go w z f
 |.iH _ _,_,_,_,_,_,_,_,z,_=>nomatch z
 |.pass,_,_,_,_,_,_,_,z,_=>nomatch z|.brk,_,_,_,_,_,_,_,z,_=>nomatch z|.cnt,_,_,_,_,_,_,_,z,_=>nomatch z
 |.tr _ _ _,_,_,_,_,_,_,_,z,_=>nomatch z
theorem kG:∀(s:Ss) {fr:Fr}{c:Nat}{M B:Nat->Prop}{h:Hh}{S:Nat->Prop}{ai:Ev.Fr},xss P X w s fr=some c->aW M B h S fr ai->jE c M h (Ev.xss P' X' w s ai h)
 |.nil,_,_,_,_,_,_,_,z,_=>nomatch z
 |.cons s ss,fr,c,M,B,h,S,ai,z,f=>by
  simp only[xss]at z;simp only[Ev.xss];split at z
  .rename_i y;obtain⟨gl,ja,M2,h2,S2,t1,t2,t3⟩:=FA HP HE s y f;simp only[fC]at t2;subst t2;rw[t1];obtain⟨h3,e3,k⟩:=kG ss z t3.f;exact⟨h3,e3,gu.after t3 k⟩
  .cases z
  .obtain⟨h3,e3,k⟩:=N8 s z f;rw[Ev.mH HB s e3];exact⟨h3,e3,k⟩
end
end
theorem ri{h:Hh}{S:Nat->Prop}{B:Nat->Prop}{h0:Hh}{S0:Nat->Prop}:∀{sl:List Sl}{ds:List D}{cs:Fr},sl.length=ds.length->
  (∀(a:Nat) s d,sl[a]?=some s->ds[a]?=some d->ki B B h0 S0 (some s) (some d)/\locked cs a=xB (some s)/\(xB (some s)=true->∃m es l s',d=.ref m/\h[m]?=some (.lst es)/\ay h S l es/\cs[a]?=some (some s')/\s'.out=some l))->j6 h S sl ds ((cs.take sl.length).filterMap λo=>o.bind Sl.out)
 |[],ds,cs,_,_=>by simp[j6]
 |s :: sl,[],cs,hl,_=>by simp at hl
 |s :: sl,d :: ds,[],hl,q=>by
  have ih:=ri (h:=h) (S:=S) (sl:=sl) (ds:=ds) (cs:=[]) (by simpa using hl) λa s' d' e1 e2=>by
   obtain⟨w1,w2,w3⟩:=q (a+1) s' d' (by simpa using e1) (by simpa using e2);exact⟨w1,by simpa[locked]using w2,λz=>by obtain⟨_,_,_,_,_,_,_,y,_⟩:=w3 z;simp at y⟩
  obtain⟨w1,w2,w3⟩:=q 0 s d (by simp) (by simp);cases s with
  |val v=>simp at ih ⊢;exact⟨d,ds,rfl,ih⟩
  |own l=>exact absurd w1 (by rintro⟨m,es,e,q,_⟩;exact q.2 q.1)
  |bor l=>obtain⟨_,_,_,_,_,_,_,y,_⟩:=w3 rfl;simp at y
  |ro l=>obtain⟨_,_,_,_,_,_,_,y,_⟩:=w3 rfl;simp at y
 |s :: sl,d :: ds,o :: cs,hl,q=>by
  have ih:=ri (h:=h) (S:=S) (sl:=sl) (ds:=ds) (cs:=cs) (by simpa using hl) λa s' d' e1 e2=>by
   obtain⟨w1,w2,w3⟩:=q (a+1) s' d' (by simpa using e1) (by simpa using e2);exact⟨w1,by simpa[locked]using w2,λz=>by simpa using w3 z⟩
  obtain⟨w1,w2,w3⟩:=q 0 s d (by simp) (by simp);cases s with
  |val v=>
   have:o.bind Sl.out=none:=by
    simp[locked]at w2;rcases o with _|s
    .rfl
    .cases s<;>first|rfl|cases w2
   simp only[V7,WI,VW,this];exact⟨d,ds,rfl,ih⟩
  |own l=>exact absurd w1 (by rintro⟨m,es,e,q,_⟩;exact q.2 q.1)
  |bor l=>
   obtain⟨m,es,l',s',a1,a2,a3,a4,a5⟩:=w3 rfl;simp at a4;subst a4;simp only[V7,WI,VW,Option.bind,a5];exact⟨d,ds,l',_,m,es,rfl,rfl,a1,a2,a3,ih⟩
  |ro l=>
   obtain⟨m,es,l',s',a1,a2,a3,a4,a5⟩:=w3 rfl;simp at a4;subst a4;simp only[V7,WI,VW,Option.bind,a5];exact⟨d,ds,l',_,m,es,rfl,rfl,a1,a2,a3,ih⟩
def Bt{fn:Fn}{sl:List Sl}{ds:List D}{B:Nat->Prop}{h:Hh}{S:Nat->Prop}(F0:aW B B h S (sl.map some) (ds.map some))(hlen:sl.length=ds.length):aW B B h S (dJ fn sl) (Ev.dJ fn ds):=by
 unfold dJ Ev.dJ;have sp:∀(i:Nat) o,(sl.map some++List.replicate (fn.ns - fn.np) none)[i]?=some o->(sl.map some)[i]?=some o\/(sl.length<=i/\o=none):=λi o y=>by
  by_cases hi:i<sl.length
  .rw[Mv (by simpa using hi)]at y;exact .inl y
  .rw[V6 (by simpa using hi)]at y;have:=VD y;exact .inr ⟨by omega,(List.mem_replicate.mp this).2⟩
 have lo:∀(i:Nat) p,i<sl.length->(ds.map some++List.replicate (fn.ns - fn.np) none)[i]?=some p->(ds.map some)[i]?=some p:=λi p hi y=>by
  rw[Mv (by simpa[<-hlen]using hi)]at y;exact y
 refine⟨F0.wS,F0.wM,F0.wB,by simp[hlen],λi o p y1 y2=>?_,λi j o o' m y1 y2 y3 y4 y5 y6=>?_⟩
 .rcases sp i o y1 with y1|⟨hi,rfl⟩
  .have hi:i<sl.length:=by have:=(List.getElem?_eq_some_iff.mp y1).1;simpa using this
   exact F0.sl i o p y1 (lo i p hi y2)
  .rw[V6 (by simpa[<-hlen]using hi)]at y2;have:=VD y2;exact(List.mem_replicate.mp this).2
 .rcases sp i o y1 with y1|⟨hi,rfl⟩
  .rcases sp j o' y2 with y2|⟨hj,rfl⟩
   .have hi:i<sl.length:=by have:=(List.getElem?_eq_some_iff.mp y1).1;simpa using this
    have hj:j<sl.length:=by have:=(List.getElem?_eq_some_iff.mp y2).1;simpa using this
    exact F0.inj i j o o' m y1 y2 y3 y4 (lo i _ hi y5) (lo j _ hj y6)
   .cases y4
  .cases y3
def HC{F:List Fn}(hF:F.length<=Ev.xo)(w n:Nat):uO (Ev.run F w n):=λf ds h d h' e=>by
 cases n with
 |zero=>cases e
 |succ n=>
  rw[Ev.fP,VG (by omega)]at e;simp only[Ev.lK]at e;rw[cS (by omega),XD]at e;split at e
  .rename_i z;exact Ev.oS F w _ _ _ _ _ z
  .cases e
def LM{X:cF}{X':Ev.cF}(HX:qf X X'){f:Nat}{sl:List Sl}{v:V}{os:List (List V)}(e:lK X f sl=some (v,os)){h:Hh}{S B:Nat->Prop}{ds:List D}(F0:aW B B h S (sl.map some) (ds.map some)) :
  ∃d h' S',Ev.lK X' f ds h=.ok d h'/\Rep h' S' v d/\Tk B h S h' S'/\j6 h' S' sl ds os:=by
 unfold lK at e;split at e
 case isFalse=>cases e
 rename_i hk;rw[cL]at e;obtain⟨c,e1,e2⟩:=e;cases e2;obtain⟨h',e3,k⟩:=HX _ _ _ e1 h S B ds F0;refine⟨.int c,h',S,by simp only[Ev.lK];rw[cS hk.1,e3],by simp[Rep],⟨k.len,k.keep,λ_ q=>q,λ_ q=>.inl q⟩,?_⟩;have hlen:sl.length=ds.length:=by have:=F0.len;simpa using this
 have:∀{sl:List Sl} {ds:List D},sl.length=ds.length->sl.all Sl.fQ=true->j6 h' S sl ds []:=λ{sl}=>by
  induction sl with
  |nil=>intro ds _ _;rfl
  |cons s sl ih=>
   intro ds hl ha;cases ds with
   |nil=>simp at hl
   |cons d ds=>
    simp only[List.all_cons,gV]at ha;cases s with
    |val v=>exact⟨d,ds,rfl,ih (by simpa using hl) ha.2⟩
    |_=>cases ha.1
 exact this hlen hk.2
theorem xJ{F:List Fn}(hF:F.length<=Ev.xo)(w:Nat):∀n,nK (run F w n) (Ev.run F w n)/\qf (bS F w n) (Ev.bS F w n)
 |0=>⟨λf sl v os e=>(nomatch e),λf sl c e=>(nomatch e)⟩
 |n+1=>by
  obtain⟨HP,HX⟩:=xJ hF w n;have HE:=HC hF w n;have hx:qf (bS F w (n+1)) (Ev.bS F w (n+1)):=λf sl c e h S B ds F0=>by
   rw[g9]at e;rw[Ev.g9];cases z:F[f]? with
   |none=>rw[z]at e;cases e
   |some fn=>
    rw[z]at e;simp only at e ⊢;split at e
    case isFalse=>cases e
    rename_i hl;have hlen:sl.length=ds.length:=by have:=F0.len;simpa using this
    rw[cS (by omega)];exact kG HP HE HX (Ev.oS F w n) fn.body e (Bt F0 hlen)
  refine⟨λf sl v os e h S B ds F0=>?_,hx⟩;rw[fP]at e;cases z:F[f]? with
  |none=>
   rw[z]at e;rw[Ev.fP,z];exact LM hx e F0
  |some fn=>
  rw[z]at e;simp only at e;split at e
  case isFalse=>cases e
  rename_i hl;have hlen:sl.length=ds.length:=by have:=F0.len;simpa using this
  have f1:aW B B h S (dJ fn sl) (Ev.dJ fn ds):=Bt F0 hlen;have fin:∀{g:Fl} {af:Fr},exs (run F w n) w fn.body (dJ fn sl)=.ok g af->∃g' bg M' h' S',Ev.exs (Ev.run F w n) w fn.body (Ev.dJ fn ds) h=.ok (g',bg) h'/\fC h' S' g g'/\Tk B h S h' S'/\j6 h' S' sl ds (outs fn.np af):=λ{g af} y=>by
   obtain⟨g',bg,M',h',S',c1,c2,c3⟩:=iD HP HE fn.body y f1;refine⟨g',bg,M',h',S',c1,c2,⟨c3.tr.len,λm y1 y2=>c3.tr.keep m y1 y2,c3.tr.sub,λm q=>?_⟩,?_⟩
   .rcases c3.tr.new m q with q|q|q
    .exact .inl q
    .exact .inr q
    .exact absurd q.1 q.2
   .unfold outs;rw[<-hl];refine ri (B:=B) (h0:=h) (S0:=S) hlen λa s d e1 e2=>?_;have ha:a<sl.length:=(List.getElem?_eq_some_iff.mp e1).1;have h0:(dJ fn sl)[a]?=some (some s):=by unfold dJ;rw[Mv (by simpa using ha)];simp[e1]
    have hlk:locked af a=xB (some s):=by rw[c3.lk a];unfold locked;rw[h0]
    refine⟨F0.sl a _ _ (by simp[e1]) (by simp[e2]),hlk,λhk=>?_⟩;have hr:=c3.rf a (by unfold locked;rw[h0];exact hk);have hd:(Ev.dJ fn ds)[a]?=some (some d):=by unfold Ev.dJ;rw[Mv (by simpa[<-hlen]using ha)];simp[e2]
    rw[hd]at hr;cases y2:af[a]? with
    |none=>unfold locked at hlk;rw[y2]at hlk;rw[<-hlk]at hk;cases hk
    |some o=>
     have sr:=c3.f.sl a _ _ y2 hr;unfold locked at hlk;rw[y2,hk]at hlk;rcases o with _|s'
     .cases hlk
     .cases s' with
      |val v=>cases hlk
      |own l=>cases hlk
      |bor l=>obtain⟨m,es,e,_,k1,k2⟩:=sr;cases e;exact⟨m,es,l,_,rfl,k1,k2,rfl,rfl⟩
      |ro l=>obtain⟨m,es,e,_,k1,k2⟩:=sr;cases e;exact⟨m,es,l,_,rfl,k1,k2,rfl,rfl⟩
  simp only[Ev.fP,z];have hl':ds.length=fn.np:=by omega
  rw[cS hl'];split at e
  .rename_i v' af y;cases e;obtain⟨g',bg,M',h',S',c1,c2,c3,c4⟩:=fin y;simp only[fC]at c2;obtain⟨d,rfl,c2⟩:=c2;exact⟨d,h',S',by simp only[Ev.endOf,c1,Ev.ao],c2,c3,c4⟩
  .rename_i af y;cases e;obtain⟨g',bg,M',h',S',c1,c2,c3,c4⟩:=fin y;simp only[fC]at c2;subst c2;exact⟨.aG,h',S',by simp only[Ev.endOf,c1,Ev.ao],rfl,c3,c4⟩
  .cases e
end Pv
namespace Pv
open Ev (D O Hh Fn)
def HD{F:List Fn}{w n f:Nat}{ns:List Int}(e:run F w n f [.val (.bX (ns.map V.int))]=some (.bl true,[]))(hF:F.length<=1000:=by decide):∃h',Ev.run F w n f [.ref 0] [.bX (ns.map D.int)]=.ok (.bl true) h':=by
 have F0:aW (λ_=>False) (λ_=>False) [O.bX (ns.map D.int)] (λm=>m=0) ([Sl.val (.bX (ns.map V.int))].map some) ([D.ref 0].map some):=by
  refine⟨λm q=>⟨by subst q;simp,id,id⟩,λm q=>q.elim,λm q=>q.elim,rfl,λi o p y1 y2=>?_,λi j o o' m y1 y2 y3 y4 y5 y6=>?_⟩
  .cases i with
   |zero=>
    simp at y1 y2;subst y1 y2;refine⟨.ref 0,rfl,?_⟩;simp only[Rep];exact⟨0,_,rfl,rfl,rfl,ay.map (f:=V.int) (g:=D.int) (λ_=>by simp[Rep]) ns⟩
   |succ i=>simp at y1
  .cases i with
   |zero=>simp at y1;subst y1;cases y3
   |succ i=>simp at y1
 obtain⟨d,h',S',a,b,_,_⟩:=(xJ hF w n).1 f _ _ _ e _ _ _ _ F0;simp only[Rep]at b;subst b;exact⟨h',a⟩
end Pv
namespace Pv
open Ev (D aU aR TY BI ME T E Es Eo It S Ss Fn big deep b2i rep bE dg bz aN cut bO bu slots)
def bD{n:Nat}(h:n<=100000):n<=big:=VE h (by decide)
section
variable{i j:Int}{a b:List Nat}{x y:List V}{d e:V}{n:Nat}{k l:Bool}
def b9(h:x.length<=big):dR x=some (.lst x):=by simp[dR,h]
def qg(h:x.length<=big):jQ x=some (.tup x):=by simp[jQ,h]
@[simp] theorem fS:dR []=some (.lst []):=b9 (bD (by simp))
@[simp] theorem za:jQ []=some (.tup []):=qg (bD (by simp))
@[simp] theorem nL{a}:dR [a]=some (.lst [a]):=b9 (bD (by simp))
@[simp] theorem jk{a}:jQ [a]=some (.tup [a]):=qg (bD (by simp))
@[simp] theorem zb{a b}:dR [a,b]=some (.lst [a,b]):=b9 (bD (by simp))
@[simp] theorem cg{a b}:jQ [a,b]=some (.tup [a,b]):=qg (bD (by simp))
@[simp] theorem ly{a b c}:dR [a,b,c]=some (.lst [a,b,c]):=b9 (bD (by simp))
@[simp] theorem qh{a b c}:jQ [a,b,c]=some (.tup [a,b,c]):=qg (bD (by simp))
@[simp] theorem aZ:bH .add (.int i) (.int j)=some (.int (i+j)):=nd rfl
def uQ(h:a.length+b.length<=100000):bH .add (.str a) (.str b)=some (.str (a++b)):=by delta bH;dsimp only;simp[bD h]
def pg(h:x.length+y.length<=100000):bH .add (.tup x) (.tup y)=some (.tup (x++y)):=by delta bH;dsimp only;simp[bD h]
def jF(h:x.length+y.length<=100000):bH .add (.lst x) (.lst y)=some (.lst (x++y)):=by delta bH;dsimp only;simp[b9 (bD (show(x++y).length<=100000 by simpa using h))]
@[simp] theorem uR:bH .sub (.int i) (.int j)=some (.int (i - j)):=nd rfl
@[simp] theorem pq:bH .mul (.int i) (.int j)=if bE i j then some (.int (i*j))else none:=nd rfl
def Df(h0:0<=j)(h1:j<=1000)(h2:a.length<=1000):bH .mul (.str a) (.int j)=some (.str (rep j.toNat a)):=by delta bH;dsimp only;simp[h0,h1,h2]
def uS(h0:0<=j)(h1:j<=1000)(h2:x.length<=1000)(h3:(rep j.toNat x).length<=100000):bH .mul (.lst x) (.int j)=some (.lst (rep j.toNat x)):=by delta bH;dsimp only;simp[h0,h1,h2,b9 (bD h3)]
@[simp] theorem Dg:bH .fdiv (.int i) (.int j)=if 0<j/\j<1073741824 then some (.int (i / j))else none:=nd rfl
@[simp] theorem HF:bH .mod (.int i) (.int j)=if 0<j then some (.int (i % j))else none:=nd rfl
@[simp] theorem LN:cop .eq d e=cA deep d e:=nd rfl
@[simp] theorem uT:cop .ne d e=(cA deep d e).map (!·):=nd rfl
@[simp] theorem Sh:mem d []=some false:=nd rfl
@[simp] theorem mem_cons:mem d (e :: x)=(cA deep e d).bind λb=>(mem d x).bind λc=>some (b ||c):=nd rfl
@[simp] theorem Dh:cop .jX .aG .aG=some false:=nd rfl
@[simp] theorem Di:cop .jX (.str a) .aG=some true:=nd rfl
@[simp] theorem LO:cA (n+1) (.int i) (.int j)=some (decide (i=j)):=by show some (i==j)=_;by_cases h:i=j<;>simp[h]
@[simp] theorem uU:cA (n+1) (.str a) (.str b)=some (decide (a=b)):=by show some (a==b)=_;by_cases h:a=b<;>simp[h]
@[simp] theorem T9:cA (n+1) .aG .aG=some true:=nd rfl
@[simp] theorem Ua:cA (n+1) (.str a) .aG=some false:=nd rfl
@[simp] theorem Bu:cA (n+1) .aG (.str a)=some false:=nd rfl
@[simp] theorem Ub:cA (n+1) (.tup x) (.tup y)=cG (cA n) x y:=nd rfl
@[simp] theorem Bv:cA (n+1) (.lst x) (.lst y)=cG (cA n) x y:=nd rfl
@[simp] theorem xN:cA deep (.int i) (.int j)=some (decide (i=j)):=LO
@[simp] theorem xO:cA deep (.str a) (.str b)=some (decide (a=b)):=uU
@[simp] theorem HG:cA deep (.lst x) (.lst y)=cG (cA (18+1)) x y:=nd rfl
@[simp] theorem HH{f:V->V->Option Bool}:cG f [] []=some true:=nd rfl
@[simp] theorem Uc{f:V->V->Option Bool}:cG f (d :: x) []=some false:=nd rfl
@[simp] theorem Dj{f:V->V->Option Bool}:cG f (d :: x) (e :: y)=(f d e).bind λb=>(cG f x y).bind λc=>some (b&&c):=nd rfl
@[simp] theorem rj:fW (.str a) (.int i)=(bz a i).map λc=>.str [c]:=nd rfl
@[simp] theorem kH{lo hi:Option Int}:fN (.str a) lo hi=some (.str (cut a lo hi)):=nd rfl
@[simp] theorem xP{lo hi:Option Int}:fN (.lst x) lo hi=dR (cut x lo hi):=nd rfl
def WA(h:a.length<=100000):dO .len [.str a]=some (.int a.length):=by delta dO;dsimp only;simp[bD h]
@[simp] theorem xQ:dO .len [.lst x]=some (.int x.length):=nd rfl
@[simp] theorem xR:dO .len [.bX x]=some (.int x.length):=nd rfl
@[simp] theorem nM:jf (.lst x)=some x:=nd rfl
def LP(h0:0<=j)(h1:j<=100000):e8 [.int j]=some (range 0 j.toNat):=by
 simp only[e8];rw[cS ⟨by omega,by omega⟩]
def jl{α:Type}(g:α->List Nat)(l:List α):strsOf (l.map λx=>.str (g x))=some (l.map g):=by induction l<;>simp[strsOf, *]
theorem m5:∀l:List (List Nat),bO [] l=l.flatten
 |[]=>rfl
 |[s]=>by simp[bO]
 |s :: t :: r=>by simp[bO,m5 (t :: r)]
@[simp] theorem Ud:truthy (.bl k)=k:=nd rfl
def FD{l:List (List Nat)}(h:l.flatten.length<=100000):eZ .join (.str []) [.lst (l.map V.str)]=some (.str l.flatten):=by
 have hs:=jl (λx=>x) l;have:(l.map (·.length)).sum<=big:=bD (by rw[<-List.length_flatten];exact h);simp only[List.map_id']at hs;have hs':strsOf (l.map V.str)=some l:=by simpa using jl (λx=>x) l
 delta eZ;dsimp only;simp[jf,hs',m5,this]
end
def er{α:Type}{f:V->Option (Option V)}(e:α->V)(g:α->V)(l:List α)(h:∀a∈l,f (e a)=some (some (g a))):b7 f (l.map e)=some (l.map g):=by
 induction l with
 |nil=>rfl
 |cons a l ih=>simp only[VO,b7,h a (by simp),ih λu hu=>h u (by simp[hu]),Option.bind];rfl
def m6{α:Type}{f:V->Option (Option V)}(e:α->V)(p:α->Bool)(g:α->V)(l:List α)(h:∀a∈l,f (e a)=some (if p a then some (g a)else none)):b7 f (l.map e)=some ((l.filter p).map g):=by
 induction l with
 |nil=>rfl
 |cons a l ih=>
  simp only[VO,b7,h a (by simp),ih λu hu=>h u (by simp[hu]),Option.bind];cases z:p a<;>simp[z]
noncomputable def Wp{α:Type}(r:R α)(Q:α->Fr->Prop):Prop:=∃a h,r=.ok a h/\Q a h
section
variable{α β:Type}{Q Q':α->Fr->Prop}
@[simp] theorem zc(a:α)(h:Fr):Wp (.ok a h) Q=Q a h:=propext ⟨λ⟨_,_,e,q⟩=>by cases e;exact q,λq=>⟨_,_,rfl,q⟩⟩
@[simp] theorem Ue:Wp (.bad:R α) Q=False:=propext ⟨λq=>(by obtain⟨_,_,e,_⟩:=q;cases e),False.elim⟩
@[simp] theorem wp_bind(r:R β)(f:β->Fr->R α):Wp (r.bind f) Q=Wp r λa h=>Wp (f a h) Q:=by cases r<;>simp
def Wp.mono{r:R α}(h:Wp r Q)(f:∀a h,Q a h->Q' a h):Wp r Q':=by
 obtain⟨a,h',e,q⟩:=h;exact⟨a,h',e,f a h' q⟩
end
noncomputable def fl(I Q:Fr->Prop)(X:V->Fr->Prop):Fl->Fr->Prop
 |.nx,fr=>I fr
 |.ct,fr=>I fr
 |.bk,fr=>Q fr
 |.ret v,fr=>X v fr
section
variable{I J:Fr->Prop}{X:V->Fr->Prop}{fr:Fr}
@[simp] theorem eG:fl I J X .nx fr=I fr:=nd rfl
end
theorem fu{α:Type}{e:α->V}{f:V->Fr->R Fl}{Q:Fl->Fr->Prop}(I:List α->List α->Fr->Prop)(turn:∀p a l fr,I p (a :: l) fr->Wp (f (e a) fr) (fl (I (p++[a]) l) (Q .nx) λv=>Q (.ret v)))(fin:∀p fr,I p [] fr->Q .nx fr):∀(l p:List α) (fr:Fr),I p l fr->Wp (forL f (l.map e) fr) Q
 |[],p,fr,i=>by simp only[YI,forL,zc];exact fin p fr i
 |a :: l,p,fr,i=>by
  simp only[VO,forL,wp_bind];refine(turn p a l fr i).mono λg h2 q=>?_;cases g with
  |nx=>exact fu I turn fin l _ h2 q
  |ct=>exact fu I turn fin l _ h2 q
  |bk=>exact(zc _ _).mpr q
  |ret x=>exact(zc _ _).mpr q
def xS{f:V->Fr->R Fl}{Q:Fl->Fr->Prop}{lo:Int}{N:Nat}(I:Nat->Fr->Prop)(turn:∀(k:Nat) fr,k<N->I k fr->Wp (f (.int (lo+(k:Nat))) fr) (fl (I (k+1)) (Q .nx) λv=>Q (.ret v)))(fin:∀fr,I N fr->Q .nx fr){fr:Fr}(i:I 0 fr):Wp (forL f (range lo N) fr) Q:=by
 have h:=fu (e:=λ(k:Nat)=>V.int (lo+k)) (f:=f) (Q:=Q) (λp l fr=>∃k,k<=N/\p=List.range k/\p++l=List.range N/\I k fr)
  (λp a l fr ⟨k,hk,hp,hl,q⟩=>by
   subst hp;have hlen:=Vw List.length hl;simp at hlen;have ha:a=k:=by
    have:=Vw (·[k]?) hl;simp[V6]at this;rw[WV (by omega)]at this;simpa using this
   subst ha;refine(turn a fr (by omega) q).mono λg h2 z=>?_;cases g with
   |nx=>exact⟨a+1,by omega,by simp[Yk],by simpa using hl,z⟩
   |ct=>exact⟨a+1,by omega,by simp[Yk],by simpa using hl,z⟩
   |bk=>exact z
   |ret x=>exact z)
  (λp fr ⟨k,hk,hp,hl,q⟩=>by
   subst hp;have hlen:=Vw List.length hl;simp at hlen;subst hlen;exact fin fr q) (List.range N) [] fr ⟨0,Wm _,rfl,by simp,i⟩
 exact h
noncomputable def fin(fn:Fn)(ds:List Sl):R Fl->Option (V×List (List V))
 |.ok (.ret v) fr=>some (v,outs fn.np fr)
 |.ok .nx fr=>some (.aG,outs fn.np fr)
 |_=>Ba fn ds
def run_eq{F:List Fn}{w n f:Nat}{ds:List Sl}{fn:Fn}(hf:F[f]?=some fn)(hl:ds.length=fn.np):run F w (n+1) f ds=fin fn ds (exs (run F w n) w fn.body (dJ fn ds)):=by
 simp only[fP,hf,hl,VI];cases exs (run F w n) w fn.body (dJ fn ds)with
 |bad=>rfl
 |ok g fr=>cases g<;>rfl
def bN{F:List Fn}{w n f:Nat}{ds:List Sl}{fn:Fn}{v:V}{os:List (List V)}(hf:F[f]?=some fn)(hl:ds.length=fn.np)(q:Wp (exs (run F w n) w fn.body (dJ fn ds)) λg fr=>g=.ret v/\outs fn.np fr=os):run F w (n+1) f ds=some (v,os):=by
 rw[run_eq hf hl];obtain⟨g,fr,e,rfl,rfl⟩:=q;rw[e];rfl
section
variable{P:aF}{w:Nat}{fr:Fr}{k:Bool}{a b c:E}{es:Es}{ss sa sb:Ss}{st:S}{lo hi:Eo}{it:It}
@[simp] theorem Rt{d:D}:ev P k (.c d) fr=R.of (ofD d) fr:=by rw[ev]
@[simp] theorem LQ{i:Nat}:ev P k (.v i) fr=R.of (iZ k fr i) fr:=by rw[ev]
@[simp] theorem LR:ev P k (.tup es) fr=(bQ P false es fr).bind λds af=>R.of (jQ ds) af:=by rw[ev]
@[simp] theorem LS:ev P k (.lst es) fr=(bQ P false es fr).bind λds af=>R.of (dR ds) af:=by rw[ev]
@[simp] theorem LU{o:aU}:ev P k (.bin o a b) fr=(ev P (kf a (b8 b)) a fr).bind λx af=>(ev P true b af).bind λy aq=>R.of (bH o x y) aq:=by rw[ev]
@[simp] theorem LV{o:aR}:ev P k (.cmp o a b) fr=(ev P (kf a (b8 b)) a fr).bind λx af=>(ev P true b af).bind λy aq=>R.of ((cop o x y).map .bl) aq:=by rw[ev]
noncomputable def Ug:V->Fr->R V:=λx h1=>match x with
 |.bl b=>.ok (.bl (!b)) h1
 |_=>.bad
@[simp] theorem N9:ev P k (.nt a) fr=(ev P true a fr).bind Ug:=by rw[ev];rfl
noncomputable def Ru:V->Fr->R V:=λx h1=>match x with
 |.int i=>.ok (.int (-i)) h1
 |_=>.bad
@[simp] theorem LW:ev P k (.neg a) fr=(ev P true a fr).bind Ru:=by rw[ev];rfl
@[simp] theorem LX:ev P k (.fV a b c) fr=(aJ P a fr).bind λt af=>if t then ev P k b af else ev P k c af:=by rw[ev]
@[simp] theorem Oa:ev P k (.ix a b) fr=(ev P (kf a (b8 b)) a fr).bind λx af=>(ev P true b af).bind λy aq=>R.of (fW x y) aq:=by rw[ev]
@[simp] theorem Ob:ev P k (.sl a lo hi) fr=(ev P (kf a (j5 lo++j5 hi)) a fr).bind λx af=>(fO P lo af).bind λl aq=>(fO P hi aq).bind λu bf=>R.of (fN x l u) bf:=by rw[ev]
@[simp] theorem Oc{f:Nat}:ev P k (.cl f es) fr=(ek P es fr).bind λas af=>eS P f as af:=by rw[ev]
@[simp] theorem Od{g:BI}:ev P k (.bi g es) fr=(bQ P true es fr).bind λds af=>R.of (dO g ds) af:=by rw[ev]
noncomputable def Dk(m:ME)(i:Nat):List V->Fr->R V:=λds af=>match af[i]? with
 |some (some (.own l))=>match mS m l ds with
  |some (v,l')=>.ok v (af.set i (some (.own l')))
  |none=>.bad
 |some (some (.bor l))=>match mS m l ds with
  |some (v,l')=>.ok v (af.set i (some (.bor l')))
  |none=>.bad
 |_=>.bad
def LY{m:ME}{i:Nat}(hm:iz m=true):ev P k (.me m (.v i) es) fr=if (lent fr i).isSome then (bQ P (xq m) es fr).bind (Dk m i)else .bad:=by
 rw[ev,cS hm];unfold fQ;cases z:(lent fr i).isSome<;>simp[z]<;>rfl
def LZ{m:ME}(hm:iz m=false):ev P k (.me m a es) fr=(ev P (kf a (fL es)) a fr).bind λx af=>(bQ P true es af).bind λds aq=>R.of (eZ m x ds) aq:=by rw[ev,hm];rfl
noncomputable def gm(P:aF)(elt:E)(t:T)(cond:Eo)(fr:Fr):V->Option (Option V):=λd=>match bw t d (sL fr)with
 |none=>none
 |some aq=>match g8 P cond aq with
  |.ok c _=>if c then (match ev P false elt aq with|.ok x _=>some (some x)|.bad=>none)else some none
  |.bad=>none
@[simp] theorem qO{elt:E}{t:T}{cond:Eo}:ev P k (.comp elt t it cond) fr=(dD P true it fr).bind λs af=>if undef t af then R.of ((b7 (gm P elt t cond af) s).bind dR) af else .bad:=by rw[ev];rfl
@[simp] theorem L0:ev P k (.je it) fr=(dD P true it fr).bind λs af=>R.of (dR s) af:=by rw[ev]
@[simp] theorem HJ{kvs:List (D×D)}:ev P k (.iX kvs a) fr=(ev P true a fr).bind λx af=>R.of (g7 x kvs) af:=by rw[ev]
@[simp] theorem L1:ev P k (.jN a) fr=(ev P true a fr).bind λx af=>R.of (toT x) af:=by rw[ev]
@[simp] theorem HK:bQ P k .nil fr=.ok [] fr:=by rw[bQ]
@[simp] theorem Dl:bQ P k (.cons a es) fr=(ev P (k&&kf a (fL es)) a fr).bind λd af=>(bQ P k es af).bind λds aq=>.ok (d :: ds) aq:=by rw[bQ]
@[simp] theorem HL:ek P .nil fr=.ok [] fr:=by rw[ek]
noncomputable def zd(P:aF)(a:E)(es:Es)(fr:Fr):Option Nat->R (List (Nat ⊕ V))
 |some i=>(ek P es fr).bind λr af=>.ok (.inl i :: r) af
 |none=>(ev P false a fr).bind λd af=>(ek P es af).bind λr aq=>.ok (.inr d :: r) aq
@[simp] theorem ze{i:Nat}:zd P a es fr (some i)=(ek P es fr).bind λr af=>.ok (.inl i :: r) af:=nd rfl
@[simp] theorem zf:zd P a es fr none=(ev P false a fr).bind λd af=>(ek P es af).bind λr aq=>.ok (.inr d :: r) aq:=nd rfl
@[simp] theorem uV:ek P (.cons a es) fr=zd P a es fr (fQ fr a):=by rw[ek];cases fQ fr a<;>rfl
@[simp] theorem L3:fO P .no fr=.ok none fr:=by rw[fO]
@[simp] theorem HM:fO P (.yes a) fr=(ev P true a fr).bind λd af=>R.of ((intOf d).map some) af:=by rw[fO]
@[simp] theorem L4:g8 P .no fr=.ok true fr:=by rw[g8]
@[simp] theorem HN:g8 P (.yes a) fr=aJ P a fr:=by rw[g8]
@[simp] theorem Bw:aJ P (.an a b) fr=(aJ P a fr).bind λk af=>if k then aJ P b af else .ok false af:=by rw[aJ]
@[simp] theorem L5:aJ P (.nt a) fr=(aJ P a fr).bind λk af=>.ok (!k) af:=by rw[aJ]
noncomputable def L6:V->Fr->R Bool:=λx af=>.ok (truthy x) af
@[simp] theorem HQ{x:V}:L6 x fr=.ok (truthy x) fr:=nd rfl
@[simp] theorem HS:dD P k (.seq a) fr=(src k fr a (ev P k a fr)).bind λx af=>R.of (gk x) af:=by rw[dD]
@[simp] theorem HU:dD P k (.fU es) fr=(bQ P true es fr).bind λds af=>R.of (e8 ds) af:=by rw[dD]
noncomputable def L7(i:Nat)(af:Fr):V->R Fl
 |.lst l=>(R.of (put af i (.own l)) af).bind λaq _=>.ok .nx aq
 |_=>.bad
@[simp] theorem Dm{i:Nat}{l:List V}:L7 i fr (.lst l)=(R.of (put fr i (.own l)) fr).bind λaq _=>.ok .nx aq:=nd rfl
@[simp] theorem uW{i:Nat}:ex P w (.set i a) fr=(ev P false a (mT a fr)).bind λx af=>if isNew a then L7 i af x else (R.of (put af i (.val x)) af).bind λaq _=>.ok .nx aq:=by
 rw[ex];rfl
@[simp] theorem HV{l:List Nat}:ex P w (.iH l a) fr=(ev P false a fr).bind λx af=>(R.of (bw (.many l) x af) af).bind λaq _=>.ok .nx aq:=by rw[ex]
@[simp] theorem L8:ex P w (.exp a) fr=(ev P true a fr).bind λ_ af=>.ok .nx af:=by rw[ex]
@[simp] theorem Ma:ex P w (.ret a) fr=(ev P false a (fc fr)).bind λx af=>.ok (.ret x) af:=by rw[ex]
@[simp] theorem mR:ex P w (.iff a sa sb) fr=(aJ P a fr).bind λk af=>if k then exs P w sa af else exs P w sb af:=by rw[ex]
@[simp] theorem Mb:ex P w .cnt fr=.ok .ct fr:=by rw[ex]
noncomputable def turnF(P:aF)(w:Nat)(t:T)(b:Ss):V->Fr->R Fl:=λd aq=>match bw t d aq with
 |some bf=>exs P w b bf
 |none=>.bad
@[simp] theorem t8{t:T}:ex P w (.for t it ss) fr=(dD P false it (iM (itv it) fr)).bind λs af=>forL (turnF P w t ss) s af:=by rw[ex];rfl
@[simp] theorem HW:exs P w .nil fr=.ok .nx fr:=by rw[exs]
noncomputable def Oe(P:aF)(w:Nat)(ss:Ss):Fl->Fr->R Fl:=λp h1=>match p with
 |.nx=>exs P w ss h1
 |p=>.ok p h1
@[simp] theorem Dn:exs P w (.cons st ss) fr=(ex P w st fr).bind (Oe P w ss):=by rw[exs];rfl
end
def gY{P:aF}{f:Nat}{vs:List V}{fr:Fr}{v:V}(h:P f (vs.map .val)=some (v,[])):eS P f (vs.map .inr) fr=.ok v fr:=by
 have h1:∀vs:List V,bJ (vs.map .inr)=[]:=λvs=>by induction vs<;>simp[bJ, *]
 have h2:∀vs:List V,args fr (vs.map .inr)=some (vs.map .val):=λvs=>by induction vs<;>simp[args, *]
 simp[eS,h1,h2,h,back]
section
variable{P:aF}{f:Nat}{fr:Fr}{a b c d v:V}
def nN(h:P f [.val a]=some (v,[])):eS P f [.inr a] fr=.ok v fr:=gY (vs:=[a]) h
def call2(h:P f [.val a,.val b]=some (v,[])):eS P f [.inr a,.inr b] fr=.ok v fr:=gY (vs:=[a,b]) h
def cQ(h:P f [.val a,.val b,.val c]=some (v,[])):eS P f [.inr a,.inr b,.inr c] fr=.ok v fr:=gY (vs:=[a,b,c]) h
def Of(h:P f [.val a,.val b,.val c,.val d]=some (v,[])):eS P f [.inr a,.inr b,.inr c,.inr d] fr=.ok v fr:=gY (vs:=[a,b,c,d]) h
end
section
variable{fr:Fr}{i:Nat}{k:Bool}{s:Sl}{v:V}{l:List V}
noncomputable def Bx(k:Bool):Option (Option Sl)->Option V
 |some (some (.val v))=>some v
 |some (some (.own l))=>if k then some (.lst l)else none
 |some (some (.bor l))=>if k then some (.lst l)else none
 |some (some (.ro l))=>if k then some (.lst l)else none
 |_=>none
@[simp] theorem HY:iZ k fr i=Bx k fr[i]?:=by unfold iZ Bx;split<;>simp_all
@[simp] theorem Si:Bx k (some (some (.val v)))=some v:=nd rfl
@[simp] theorem Sj:Bx k (some (some (.own l)))=if k then some (.lst l)else none:=nd rfl
@[simp] theorem Og{r:R V}:src k fr (.v i) r=R.of (yY k fr i) fr:=nd rfl
noncomputable def xT(fr:Fr)(i:Nat)(s:Sl):Option (Option Sl)->Option Fr
 |some (some (.bor _))=>none
 |some (some (.ro _))=>none
 |_=>some (fr.set i (some s))
@[simp] theorem By:put fr i s=xT fr i s fr[i]?:=by unfold put xT;split<;>simp_all
@[simp] theorem Sk:xT fr i s (some (some (.val v)))=some (fr.set i (some s)):=nd rfl
@[simp] theorem Sn:xT fr i s (some (some (.own l)))=some (fr.set i (some s)):=nd rfl
@[simp] theorem zg{l:List Nat}{x:List V}:bw (.many l) (.tup x) fr=cP l x fr:=nd rfl
@[simp] theorem zh:cP [] [] fr=some fr:=nd rfl
@[simp] theorem vJ{l:List Nat}{x:List V}:cP (i :: l) (v :: x) fr=(put fr i (.val v)).bind (cP l x):=nd rfl
@[simp] theorem Rw:Sl.cj (.val v)=.val v:=nd rfl
@[simp] theorem Rx:Sl.cj (.own l)=.val (.lst l):=nd rfl
noncomputable def Qi(fr:Fr)(i:Nat):Option (Option Sl)->Fr
 |some (some s)=>fr.set i (some s.walk)
 |_=>fr
@[simp] theorem Qj:iM [] fr=fr:=nd rfl
@[simp] theorem Oh{l:List Nat}:iM (i :: l) fr=iM l (Qi fr i fr[i]?):=by
 show List.foldl _ _ _=_;simp only[Wd];unfold iM Qi
 congr 1
@[simp] theorem Uw:itv (.seq (.v i))=[i]:=nd rfl
noncomputable def sN(m:ME)(i:Nat)(ds:List V)(fr:Fr):Option (Option Sl)->R V
 |some (some (.own l))=>match mS m l ds with
  |some (v,l')=>.ok v (fr.set i (some (.own l')))
  |none=>.bad
 |some (some (.bor l))=>match mS m l ds with
  |some (v,l')=>.ok v (fr.set i (some (.bor l')))
  |none=>.bad
 |_=>.bad
@[simp] theorem HZ{m:ME}{ds:List V}:Dk m i ds fr=sN m i ds fr fr[i]?:=by unfold Dk sN;split<;>simp_all<;>rfl
def rq{d:V}(h:l.length<100000):sN .append i [d] fr (some (some (.own l)))=.ok .aG (fr.set i (some (.own (l++[d])))):=by
 simp[sN,mS,fB h (show 100000<=big by decide)]
def nO{d:List V}(h:l.length+d.length<=100000):sN .extend i [.lst d] fr (some (some (.own l)))=.ok .aG (fr.set i (some (.own (l++d)))):=by
 simp[sN,mS,bD h]
end
noncomputable def vo(o:Option Sl):Prop:=o=none\/∃y,o=some (.val y)
theorem vo.none:vo none:=.inl rfl
theorem vo.val{v:V}:vo (some (.val v)):=.inr ⟨v,rfl⟩
def Mc{fr:Fr}{i:Nat}{s:Sl}{b:Option Sl}(h:vo b):xT fr i s (some b)=some (fr.set i (some s)):=by rcases h with rfl|⟨y,rfl⟩<;>rfl
def b5{b:Option Sl}(h:vo b):b.map Sl.cj=b:=by rcases h with rfl|⟨y,rfl⟩<;>rfl
noncomputable def Oi(f:V->Fr->R Fl)(ds:List V):Fl->Fr->R Fl:=λp af=>match p with
 |.nx=>forL f ds af
 |.ct=>forL f ds af
 |.bk=>.ok .nx af
 |.ret x=>.ok (.ret x) af
section
variable{f:V->Fr->R Fl}{ds:List V}{d:V}{fr:Fr}
@[simp] theorem rY:forL f (d :: ds) fr=(f d fr).bind (Oi f ds):=nd rfl
end
def uX{α:Type}{l:List α}{i:Int}(h0:0<=i):bz l i=l[i.toNat]?:=by
 unfold bz dg;rw[cS h0];split
 .rfl
 .rw[VG (by omega)];rfl
@[simp] theorem wj{α:Type}{l:List α}{n:Nat}:bz l (n:Int)=l[n]?:=by rw[uX (by omega)];simp
noncomputable def tK:Fn:=⟨2,2,(.cons (.iff (.cmp .eq (.v 0) (.lst .nil)) (.cons (.ret (.bin .mul (.c (.int 7)) (.v 1))) .nil) .nil) (.cons (.ret (.bin .add (.ix (.v 0) (.bin .mod (.v 1) (.bi .len (.cons (.v 0) .nil)))) (.bin .mul (.c (.int 6553)) (.bin .fdiv (.v 1) (.bi .len (.cons (.v 0) .nil)))))) .nil))⟩
noncomputable def uY(c:Nat):Fn:=⟨3,4,(.cons (.set 3 (.bin .mod (.bin .add (.bin .mul (.bin .mod (.cl c (.cons (.v 0) (.cons (.v 1) .nil))) (.c (.int 2147483563))) (.c (.int 69069))) (.bin .mul (.c (.int 104723)) (.bin .add (.v 1) (.c (.int 1))))) (.c (.int 2147483563)))) (.cons (.set 3 (.bin .mod (.bin .add (.bin .mul (.v 3) (.v 3)) (.bin .fdiv (.v 3) (.c (.int 3)))) (.c (.int 2147483399)))) (.cons (.ret (.bin .mod (.bin .fdiv (.bin .mod (.bin .add (.bin .mul (.v 3) (.v 3)) (.bin .fdiv (.v 3) (.c (.int 7)))) (.c (.int 2147483647))) (.c (.int 11))) (.v 2))) .nil)))⟩
noncomputable def tL(ns:List Int)(k:Int):Int:=if ns=[]then 7*k else (ns[(k % ns.length).toNat]?.getD 0)+6553*(k / ns.length)
noncomputable def cC(ns:List Int)(k many:Int):Int:=
 let c:=(tL ns k % 2147483563*69069+104723*(k+1)) % 2147483563
 let c:=(c*c+c / 3) % 2147483399
 (c*c+c / 7) % 2147483647 / 11 % many
def iT(ns:List Int)(k:Int){many:Int}(h:0<many):0<=cC ns k many:=Xn _ (by omega)
def iU(ns:List Int)(k:Int){many:Int}(h:0<many):cC ns k many<many:=WY _ h
noncomputable def fT(ns:List Int):V:=.bX (ns.map V.int)
def Ia(ns:List Int):cG (cA (18+1)) (ns.map V.int) []=some (decide (ns=[])):=by cases ns<;>simp
section
variable{P:aF}{w:Nat}{fr af aq bf:Fr}{k b:Bool}{a e c:E}{es:Es}{ss sa sb:Ss}{st:S}{lo hi:Eo}{it:It}{v x y z:V}{vs:List V}{i:Nat}{l:List V}{Q:Fl->Fr->Prop}
def aD{d:D}(h:ofD d=some v):ev P k (.c d) fr=.ok v fr:=by rw[Rt,h];rfl
def au(h:iZ k fr i=some v):ev P k (.v i) fr=.ok v fr:=by rw[LQ,h];rfl
def bA(h:bQ P false es fr=.ok vs af)(h2:jQ vs=some v):ev P k (.tup es) fr=.ok v af:=by rw[LR,h,ao,h2];rfl
def cR(h:bQ P false es fr=.ok vs af)(h2:dR vs=some v):ev P k (.lst es) fr=.ok v af:=by rw[LS,h,ao,h2];rfl
def aH{o:aU}(h:ev P (kf a (b8 e)) a fr=.ok x af)(h2:ev P true e af=.ok y aq)(h3:bH o x y=some v):ev P k (.bin o a e) fr=.ok v aq:=by rw[LU,h,ao,h2,ao,h3];rfl
def bh{o:aR}(h:ev P (kf a (b8 e)) a fr=.ok x af)(h2:ev P true e af=.ok y aq)(h3:cop o x y=some b):ev P k (.cmp o a e) fr=.ok (.bl b) aq:=by rw[LV,h,ao,h2,ao,h3];rfl
def Ry(h:ev P true a fr=.ok (.bl b) af):ev P k (.nt a) fr=.ok (.bl (!b)) af:=by rw[N9,h];rfl
def Oj{j:Int}(h:ev P true a fr=.ok (.int j) af):ev P k (.neg a) fr=.ok (.int (-j)) af:=by rw[LW,h];rfl
def iN(h:aJ P a fr=.ok b af)(h2:b=true->ev P k e af=.ok v aq)(h3:b=false->ev P k c af=.ok v aq):ev P k (.fV a e c) fr=.ok v aq:=by
 rw[LX,h,ao];cases b with
 |true=>exact h2 rfl
 |false=>exact h3 rfl
def fy(h:ev P (kf a (b8 e)) a fr=.ok x af)(h2:ev P true e af=.ok y aq)(h3:fW x y=some v):ev P k (.ix a e) fr=.ok v aq:=by rw[Oa,h,ao,h2,ao,h3];rfl
def m7{p q:Option Int}(h:ev P (kf a (j5 lo++j5 hi)) a fr=.ok x af)(h2:fO P lo af=.ok p aq)(h3:fO P hi aq=.ok q bf)(h4:fN x p q=some v):ev P k (.sl a lo hi) fr=.ok v bf:=by rw[Ob,h,ao,h2,ao,h3,ao,h4];rfl
def bV{f:Nat}{as:List (Nat ⊕ V)}(h:ek P es fr=.ok as af)(h2:eS P f as af=.ok v aq):ev P k (.cl f es) fr=.ok v aq:=by rw[Oc,h,ao];exact h2
def gf{g:BI}(h:bQ P true es fr=.ok vs af)(h2:dO g vs=some v):ev P k (.bi g es) fr=.ok v af:=by rw[Od,h,ao,h2];rfl
def lz{m:ME}(hm:iz m=true)(hl:(lent fr i).isSome=true)(h:bQ P (xq m) es fr=.ok vs af)(h2:sN m i vs af af[i]?=.ok v aq):ev P k (.me m (.v i) es) fr=.ok v aq:=by
 rw[LY hm,cS hl,h,ao,HZ];exact h2
def qi{m:ME}(hm:iz m=false)(h:ev P (kf a (fL es)) a fr=.ok x af)(h2:bQ P true es af=.ok vs aq)(h3:eZ m x vs=some v):ev P k (.me m a es) fr=.ok v aq:=by rw[LZ hm,h,ao,h2,ao,h3];rfl
def dZ{t:T}{cond:Eo}(h:dD P true it fr=.ok vs af)(hu:undef t af=true)(h2:b7 (gm P a t cond af) vs=some l)(h3:dR l=some v):ev P k (.comp a t it cond) fr=.ok v af:=by
 rw[qO,h,ao,cS hu,h2];show R.of (dR l) af=_;rw[h3];rfl
def Ol(h:dD P true it fr=.ok vs af)(h2:dR vs=some v):ev P k (.je it) fr=.ok v af:=by rw[L0,h,ao,h2];rfl
def Me{kvs:List (D×D)}(h:ev P true a fr=.ok x af)(h2:g7 x kvs=some v):ev P k (.iX kvs a) fr=.ok v af:=by rw[HJ,h,ao,h2];rfl
def Om(h:ev P true a fr=.ok x af)(h2:toT x=some v):ev P k (.jN a) fr=.ok v af:=by rw[L1,h,ao,h2];rfl
def az:bQ P k .nil fr=.ok [] fr:=HK
def ak(h:ev P (k&&kf a (fL es)) a fr=.ok v af)(h2:bQ P k es af=.ok vs aq):bQ P k (.cons a es) fr=.ok (v :: vs) aq:=by rw[Dl,h,ao,h2];rfl
def aO:ek P .nil fr=.ok [] fr:=HL
def aE{as:List (Nat ⊕ V)}(hi:fQ fr a=none)(h:ev P false a fr=.ok v af)(h2:ek P es af=.ok as aq):ek P (.cons a es) fr=.ok (.inr v :: as) aq:=by rw[uV,hi,zf,h,ao,h2];rfl
def Rz{as:List (Nat ⊕ V)}(hi:fQ fr a=some i)(h2:ek P es fr=.ok as aq):ek P (.cons a es) fr=.ok (.inl i :: as) aq:=by rw[uV,hi,ze,h2];rfl
def zj:fO P .no fr=.ok none fr:=L3
def fz{j:Int}(h:ev P true a fr=.ok (.int j) af):fO P (.yes a) fr=.ok (some j) af:=by rw[HM,h];rfl
def BA(h:aJ P a fr=.ok false af):aJ P (.an a e) fr=.ok false af:=by rw[Bw,h];rfl
def BB{b2:Bool}(h:aJ P a fr=.ok true af)(h2:aJ P e af=.ok b2 aq):aJ P (.an a e) fr=.ok b2 aq:=by rw[Bw,h];exact h2
def zk(h:aJ P a fr=.ok b af):aJ P (.nt a) fr=.ok (!b) af:=by rw[L5,h];rfl
noncomputable def plainT:E->Bool
 |.an _ _=>false
 |.orr _ _=>false
 |.nt _=>false
 |_=>true
def aK(hp:plainT a=true)(h:ev P true a fr=.ok x af)(h2:truthy x=b):aJ P a fr=.ok b af:=by
 have:aJ P a fr=(ev P true a fr).bind L6:=by
  cases a<;>first | (cases hp;done) | (rw[aJ];rfl;all_goals (intros;contradiction))
 rw[this,h,ao,HQ,h2]
def cV(h:src k fr a (ev P k a fr)=.ok x af)(h2:gk x=some vs):dD P k (.seq a) fr=.ok vs af:=by rw[HS,h,ao,h2];rfl
def dz(h:yY k fr i=some v){r:R V}:src k fr (.v i) r=.ok v fr:=by rw[Og,h];rfl
def jG(h:bQ P true es fr=.ok vs af)(h2:e8 vs=some l):dD P k (.fU es) fr=.ok l af:=by rw[HU,h,ao,h2];rfl
def xU(h:ev P false a fr=.ok v af):mT a fr=fr:=by
 cases a with
 |v j=>
  simp only[LQ]at h;show fr.modify j _=fr;apply XN;intro i;rw[Xp];cases z:fr[i]? with
  |none=>rfl
  |some o=>
   show some (if j=i then Option.map Sl.cj o else o)=some o;by_cases hj:j=i
   .subst hj;rw[cS rfl];unfold iZ at h;rw[z]at h;rcases o with _|s
    .rfl
    .cases s with
     |own l=>cases h
     |_=>rfl
   .rw[Qm hj]
 |_=>rfl
def Mf{j:Nat}{o:Option Sl}{l:List V}(hj:fr[j]?=some o)(ho:o=some (.own l)\/o=some (.val (.lst l)))(hp:put (fr.set j (some (.val (.lst l)))) i (.val (.lst l))=some aq)(q:Q .nx aq):Wp (ex P w (.set i (.v j)) fr) Q:=by
 have e:mT (.v j) fr=fr.set j (some (.val (.lst l))):=by
  show fr.modify j _=_;apply XN;intro i;rw[Xp];by_cases hi:j=i
  .subst hi;obtain⟨hlt,-⟩:=List.getElem?_eq_some_iff.mp hj;rw[hj,Ei hlt];show some (if j=j then Option.map Sl.cj o else o)=_;rw[cS rfl];rcases ho with rfl|rfl<;>rfl
  .rw[gI hi];cases z:fr[i]? with
   |none=>rfl
   |some o'=>
    show some (if j=i then Option.map Sl.cj o' else o')=some o';rw[Qm hi]
 have g:ev P false (.v j) (fr.set j (some (.val (.lst l))))=.ok (.lst l) (fr.set j (some (.val (.lst l)))):=by
  obtain⟨hlt,-⟩:=List.getElem?_eq_some_iff.mp hj;refine au ?_;unfold iZ;rw[Ei hlt]
 rw[uW,e,g,ao,show isNew (.v j)=false from rfl,hp];exact⟨_,_,rfl,q⟩
def aX(h:ev P false a fr=.ok v af)(hn:isNew a=false)(hp:put af i (.val v)=some aq)(q:Q .nx aq):Wp (ex P w (.set i a) fr) Q:=by
 rw[uW,xU h,h,ao,hn,hp];exact⟨_,_,rfl,q⟩
def gA(h:ev P false a fr=.ok (.lst l) af)(hn:isNew a=true)(hp:put af i (.own l)=some aq)(q:Q .nx aq):Wp (ex P w (.set i a) fr) Q:=by
 rw[uW,xU h,h,ao,hn,cS rfl,Dm,hp];exact⟨_,_,rfl,q⟩
def Mg{is:List Nat}(h:ev P false a fr=.ok v af)(hp:bw (.many is) v af=some aq)(q:Q .nx aq):Wp (ex P w (.iH is a) fr) Q:=by
 rw[HV,h,ao,hp];exact⟨_,_,rfl,q⟩
def jR(h:ev P true a fr=.ok v af)(q:Q .nx af):Wp (ex P w (.exp a) fr) Q:=by rw[L8,h];exact⟨_,_,rfl,q⟩
def cK(h:ev P false a (fc fr)=.ok v af)(q:Q (.ret v) af):Wp (ex P w (.ret a) fr) Q:=by rw[Ma,h];exact⟨_,_,rfl,q⟩
def aV(h:aJ P a fr=.ok b af)(h2:b=true->Wp (exs P w sa af) Q)(h3:b=false->Wp (exs P w sb af) Q):Wp (ex P w (.iff a sa sb) fr) Q:=by
 rw[mR,h,ao];cases b with
 |true=>exact h2 rfl
 |false=>exact h3 rfl
def aQ(q:Q .nx fr):Wp (exs P w .nil fr) Q:=by rw[HW];exact⟨_,_,rfl,q⟩
noncomputable def nx(P:aF)(w:Nat)(ss:Ss)(Q:Fl->Fr->Prop):Fl->Fr->Prop
 |.nx,fr=>Wp (exs P w ss fr) Q
 |g,fr=>Q g fr
def aj(q:Wp (ex P w st fr) (nx P w ss Q)):Wp (exs P w (.cons st ss) fr) Q:=by
 rw[Dn,wp_bind];refine q.mono λg af z=>?_;cases g with
 |nx=>exact z
 |bk=>exact⟨_,_,rfl,z⟩
 |ct=>exact⟨_,_,rfl,z⟩
 |ret v=>exact⟨_,_,rfl,z⟩
def iO{t:T}(h:dD P false it (iM (itv it) fr)=.ok vs af)(q:Wp (forL (turnF P w t ss) vs af) Q):Wp (ex P w (.for t it ss) fr) Q:=by rw[t8,h,ao];exact q
def di{t:T}{d:V}(hb:bw t d fr=some af)(q:Wp (exs P w ss af) Q):Wp (turnF P w t ss d fr) Q:=by unfold turnF;rw[hb];exact q
def cH{t:T}{d:V}(hb:bw t d (sL fr)=some af)(h:ev P false a af=.ok v aq):gm P a t .no fr d=some (some v):=by
 unfold gm;rw[hb];dsimp only;rw[L4];dsimp only;rw[h];rfl
def rA{t:T}{d:V}(hb:bw t d (sL fr)=some af)(h:aJ P c af=.ok b aq)(h2:b=true->ev P false a af=.ok v bf):gm P a t (.yes c) fr d=some (if b then some v else none):=by
 unfold gm;rw[hb];dsimp only;rw[HN,h];dsimp only;cases b with
 |true=>rw[h2 rfl];rfl
 |false=>rfl
def gy{p q:List Nat}:cop .eq (.str p) (.str q)=some (decide (p=q)):=xO
def qj{p q:List Nat}:cop .ne (.str p) (.str q)=some (!decide (p=q)):=by rw[uT,xO];rfl
def fM{p q:Int}:cop .eq (.int p) (.int q)=some (decide (p=q)):=xN
def FE{p q:Int}:cop .ne (.int p) (.int q)=some (!decide (p=q)):=by rw[uT,xN];rfl
def Dp{p q:Int}:cop .lt (.int p) (.int q)=some (decide (p<q)):=rfl
def zl{p q:Int}:cop .gt (.int p) (.int q)=some (decide (q<p)):=rfl
def jS{p q:Int}(h:bE p q=true):bH .mul (.int p) (.int q)=some (.int (p*q)):=by rw[pq,cS h]
def nP{p q:Int}(h:0<q):bH .mod (.int p) (.int q)=some (.int (p % q)):=by rw[HF,cS h]
def tM{p q:Int}(h:0<q)(h2:q<1073741824):bH .fdiv (.int p) (.int q)=some (.int (p / q)):=by rw[Dg,cS ⟨h,h2⟩]
end
def eE{fr:Fr}{i:Nat}{s:Sl}{o:Option Sl}(e:fr[i]?=some o)(h:vo o):put fr i s=some (fr.set i (some s)):=by rw[By,e,Mc h]
def gH{fr:Fr}{i j:Nat}{u v:V}{a b:Option Sl}(ea:fr[i]?=some a)(ha:vo a)(eb:(fr.set i (some (.val u)))[j]?=some b)(hb:vo b):bw (.many [i,j]) (.tup [u,v]) fr=some ((fr.set i (some (.val u))).set j (some (.val v))):=by
 simp only[zg,vJ,zh,eE ea ha,Option.bind,eE eb hb]
def bind1{fr:Fr}{i:Nat}{v:V}{a:Option Sl}(ea:fr[i]?=some a)(ha:vo a):bw (.one i) v fr=some (fr.set i (some (.val v))):=eE ea ha
end Pv
namespace Pv
open Ev (D O Hh aU aR TY BI ME T E Es Eo It S Ss Fn)
section
variable{P:aF}{X:cF}{w:Nat}(hX:∀f sl c,X f sl=some c->P f sl=none)
include hX
mutual
theorem eB:∀(e:E) {fr:Fr}{c:Nat},xe P X e fr=some c->(∀k,ev P k e fr=.bad)/\aJ P e fr=.bad
 |.cl f es,fr,c,z=>by
  simp only[xe]at z;have q:∀k,ev P k (.cl f es) fr=.bad:=λk=>by
   rw[ev];cases y:ek P es fr with
   |ok as af=>
    rw[y]at z;simp only at z;simp only[ao];unfold nJ at z;unfold eS;split at z
    case isFalse=>cases z
    rename_i nd;rw[cS nd];rw[cI]at z;obtain⟨sl,z1,z2⟩:=z;rw[z1];simp only;rw[hX _ _ _ z2]
   |bad=>rfl
  exact⟨q,by rw[aJ,q];rfl;all_goals (intros;contradiction)⟩
 |.ix a b,fr,c,z=>by
  simp only[xe]at z;have q:∀k,ev P k (.ix a b) fr=.bad:=λk=>by rw[ev,(eB a z).1];rfl
  exact⟨q,by rw[aJ,q];rfl;all_goals (intros;contradiction)⟩
 |.me m o es,fr,c,z=>by
  simp only[xe]at z;split at z
  case isFalse=>cases z
  rename_i hm;split at z
  case h_2=>cases z
  rename_i i hi;have q:∀k,ev P k (.me m o es) fr=.bad:=λk=>by
   rw[ev,cS hm,hi];simp only;rw[xV es z];rfl
  exact⟨q,by rw[aJ,q];rfl;all_goals (intros;contradiction)⟩
 |.tup _,_,_,z=>nomatch z|.comp _ _ _ _,_,_,z=>nomatch z|.jN _,_,_,z=>nomatch z
 |.c _,_,_,z=>nomatch z|.v _,_,_,z=>nomatch z|.lst _,_,_,z=>nomatch z
 |.bin _ _ _,_,_,z=>nomatch z|.cmp _ _ _,_,_,z=>nomatch z
 |.nt _,_,_,z=>nomatch z|.neg _,_,_,z=>nomatch z|.an _ _,_,_,z=>nomatch z|.orr _ _,_,_,z=>nomatch z|.fV _ _ _,_,_,z=>nomatch z
 |.sl _ _ _,_,_,z=>nomatch z
 |.bi _ _,_,_,z=>nomatch z
 |.je _,_,_,z=>nomatch z
 |.iX _ _,_,_,z=>nomatch z
theorem rB:∀(es:Es) {fr:Fr}{c:Nat},oE P X es fr=some c->ek P es fr=.bad
 |.nil,_,_,z=>nomatch z
 |.cons e es,fr,c,z=>by
  simp only[oE]at z;rw[ek];split at z
  .rw[rB es z];rfl
  .split at z
   .rename_i y2;rw[y2];simp only[ao];rw[rB es z];rfl
   .rw[(eB e z).1];rfl
theorem xV:∀(es:Es) {k:Bool}{fr:Fr}{c:Nat},xr P X k es fr=some c->bQ P k es fr=.bad
 |.nil,_,_,_,z=>nomatch z
 |.cons e es,k,fr,c,z=>by
  simp only[xr]at z;rw[bQ];split at z
  .rename_i y2;rw[y2];simp only[ao];rw[xV es z];rfl
  .rw[(eB e z).1];rfl
end
omit hX in
theorem gP{f:V->Fr->R Fl}{g:V->Fr->Option Nat}(hg:∀d fr c,g d fr=some c->f d fr=.bad):∀(vs:List V) {fr:Fr}{c:Nat},cX f g vs fr=some c->forL f vs fr=.bad
 |[],_,_,z=>nomatch z
 |d :: ds,fr,c,z=>by
  simp only[cX]at z;simp only[forL];split at z
  .rename_i e;rw[e];exact gP hg ds z
  .rename_i e;rw[e];exact gP hg ds z
  .cases z
  .rw[hg _ _ _ z];rfl
omit hX in
theorem gQ{t:Fr->R Bool}{f:Fr->R Fl}{g:Fr->Option Nat}(hg:∀fr c,g fr=some c->f fr=.bad):∀(n:Nat) {fr:Fr}{c:Nat},fX t f g n fr=some c->fj t f n fr=.bad
 |0,_,_,z=>nomatch z
 |n+1,fr,c,z=>by
  simp only[fX]at z;split at z
  case h_2=>cases z
  rename_i e0;simp only[fj,e0,ao,VI];split at z
  .rename_i e;rw[e];exact gQ hg n z
  .rename_i e;rw[e];exact gQ hg n z
  .cases z
  .rw[hg _ _ z];rfl
mutual
theorem mH:∀(s:S) {fr:Fr}{c:Nat},xs P X w s fr=some c->ex P w s fr=.bad
 |.eO c,_,_,_=>by rw[ex]
 |.set i e,fr,c,z=>by
  have:mT e fr=fr:=by cases e<;>first|rfl|cases z
  rw[ex,this,(eB hX e z).1];rfl
 |.exp e,fr,c,z=>by rw[ex,(eB hX e z).1];rfl
 |.ret e,fr,c,z=>by rw[ex,(eB hX e z).1];rfl
 |.iff t a b,fr,c,z=>by
  simp only[xs]at z;rw[ex];cases y:aJ P t fr with
  |bad=>rfl
  |ok k h1=>
   rw[y]at z;simp only at z;simp only[ao];cases k with
   |true=>exact dw a z
   |false=>exact dw b z
 |.for t it b,fr,c,z=>by
  simp only[xs]at z;rw[ex];split at z
  case h_2=>cases z
  rename_i y;rw[y];simp only[ao];refine gP (λd fr c q=>?_) _ z;cases k:bw t d fr with
  |none=>rfl
  |some bf=>rw[k]at q;exact dw b q
 |.mD t b,fr,c,z=>by
  simp only[xs]at z;rw[ex];exact gQ (λfr c q=>dw b q) _ z
 |.iH _ _,_,_,z=>nomatch z
 |.pass,_,_,z=>nomatch z|.brk,_,_,z=>nomatch z|.cnt,_,_,z=>nomatch z
 |.tr _ _ _,_,_,z=>nomatch z
theorem dw:∀(s:Ss) {fr:Fr}{c:Nat},xss P X w s fr=some c->exs P w s fr=.bad
 |.nil,_,_,z=>nomatch z
 |.cons s ss,fr,c,z=>by
  simp only[xss]at z;rw[exs];split at z
  .rename_i e;rw[e];exact dw ss z
  .cases z
  .rw[mH s z];rfl
end
end
def Oo{P:aF}{X:cF}{w:Nat}{fn:Fn}{ds:List Sl}{fr:Fr}{c:Nat}(z:xss P X w fn.body fr=some c):Ba fn ds=none:=by
 unfold Ba;rfl
theorem dF(F:List Fn)(w:Nat):∀(n f:Nat) (sl:List Sl) (c:Nat),bS F w n f sl=some c->run F w n f sl=none
 |0,_,_,_,_=>rfl
 |n+1,f,ds,c,z=>by
  rw[g9]at z;rw[fP];cases y:F[f]? with
  |none=>rw[y]at z;cases z
  |some fn=>
   rw[y]at z;simp only at z ⊢;split at z
   .rename_i k;rw[cS k,dw (dF F w n) _ z];exact Oo z
   .cases z
section
variable{F:List Fn}{P:aF}{X:cF}{w n f c:Nat}{fr af:Fr}{s:S}{ss sa sb:Ss}{e t:E}{b:Bool}{es:Es}{v:V}
def jH(hX:∀f sl c,X f sl=some c->P f sl=none)(h:xs P X w s fr=some c):xss P X w (.cons s ss) fr=some c:=by
 simp only[xss,mH hX s h];exact h
def uZ(h:Wp (ex P w s fr) λg af=>g=.nx/\xss P X w ss af=some c):xss P X w (.cons s ss) fr=some c:=by
 obtain⟨g,af,e,rfl,q⟩:=h;simp only[xss,e];exact q
def Oq(h:aJ P t fr=.ok b af)(h2:(if b then xss P X w sa af else xss P X w sb af)=some c):xs P X w (.iff t sa sb) fr=some c:=by
 simp only[xs,h];exact h2
def Ot:xs P X w (.eO c) fr=some c:=rfl
def Ou{i:Nat}(h:xe P X e fr=some c):xs P X w (.set i e) fr=some c:=h
def y_ret(h:xe P X e (fc fr)=some c):xs P X w (.ret e) fr=some c:=h
def Dq{a:E}(h:xe P X a fr=some c):xe P X (.ix a e) fr=some c:=by simp only[xe];exact h
def zm{as:List (Nat ⊕ V)}(h:ek P es fr=.ok as af)(h2:nJ X f as af=some c):xe P X (.cl f es) fr=some c:=by simp only[xe,h];exact h2
def FF(hX:∀f sl c,X f sl=some c->P f sl=none)(h:oE P X es fr=some c):xe P X (.cl f es) fr=some c:=by simp only[xe,rB hX es h];exact h
def qk{fn:Fn}{ds:List Sl}(hf:F[f]?=some fn)(hl:ds.length=fn.np)(h:xss (run F w n) (bS F w n) w fn.body (dJ fn ds)=some c):bS F w (n+1) f ds=some c:=by
 rw[g9,hf];simp only;rw[cS hl];exact h
theorem jt:∀vs:List V,bJ (vs.map .inr)=[]/\args fr (vs.map .inr)=some (vs.map Sl.val)
 |[]=>⟨rfl,rfl⟩
 |v :: vs=>⟨(jt vs).1,by rw[VO,args,(jt vs).2];rfl⟩
def jT{vs:List V}(h:X f (vs.map .val)=some c):nJ X f (vs.map .inr) fr=some c:=by
 have h1:=jt (fr:=fr);unfold nJ;rw[(h1 vs).1,(h1 vs).2];exact h
def zo{vs:List V}(h:P f (vs.map .val)=none):eS P f (vs.map .inr) fr=.bad:=by
 have h1:=jt (fr:=fr);unfold eS;rw[(h1 vs).1,(h1 vs).2];simp only[h];rfl
def Ov{ds:List Sl}(hF:F.length<=1000)(ha:ds.all Sl.fQ=true)(h:bS F w n f ds=some c):run F w n (f+1000) ds=some (.int (c:Int),[]):=by
 cases n with
 |zero=>cases h
 |succ n=>
  rw[fP,VG (by omega)];simp only[lK];rw[cS ⟨YX _ _,ha⟩,show f+1000 - Ev.xo=f from XD ..];rw[h];rfl
def zp{Q:Fl->Fr->Prop}{vs:List V}{kk:Nat}(h:ek P es fr=.ok (vs.map .inr) af)(h2:P f (vs.map .val)=some (v,[]))(q:Q (.ret v) af):Wp (ex P w (.tr f kk es) fr) Q:=by
 have hl:=λvs=>(jt (fr:=fr) vs).1;have:=gY (P:=P) (f:=f) (fr:=af) h2;simp only[ex,h,ao,hl,this];exact⟨_,_,rfl,q⟩
def u6{Q:Fl->Fr->Prop}{vs:List V}{kk:Nat}(h:ek (run F w n) es fr=.ok (vs.map .inr) af)(hF:F.length<=1000)(h2:bS F w n f (vs.map .val)=some c)(hc:c<kk)(q:Q (.ret (.tup [.str [114,101,102,117,115,101,100],.int (c:Int)])) af):Wp (ex (run F w n) w (.tr f kk es) fr) Q:=by
 have hl:=λvs=>(jt (fr:=fr) vs).1;have ha:(vs.map Sl.val).all Sl.fQ=true:=by simp[Sl.fQ]
 have h3:=zo (P:=run F w n) (f:=f) (fr:=af) (dF F w n f _ c h2);have h4:=gY (P:=run F w n) (f:=f+1000) (fr:=af) (Ov hF ha h2);have h5:yZ kk (.int (c:Int))=some (.tup [.str [114,101,102,117,115,101,100],.int (c:Int)]):=by simp only[yZ];rw[cS (by omega)]
 simp only[ex,h,ao,hl,h3];show Wp ((eS (run F w n) (f+1000) (vs.map .inr) af).bind _) Q;rw[h4,ao,h5];exact⟨_,_,rfl,q⟩
end
end Pv
local macro_rules|`(tactic|array_get_dec)=>`(tactic|first
 |exact Pv.az|exact Pv.aO|exact Pv.zj
 | (apply Pv.au;rfl) | (apply Pv.aD;rfl)|apply Pv.aH|apply Pv.bh|apply Pv.bA|apply Pv.cR|apply Pv.fy|apply Pv.m7|apply Pv.bV|apply Pv.gf
 |apply Pv.Ry|apply Pv.Oj|apply Pv.Om|apply Pv.Ol  | (apply Pv.lz rfl rfl) | (apply Pv.qi rfl)|apply Pv.Me
 |apply Pv.ak | (apply Pv.aE rfl) | (apply Pv.Rz rfl)|apply Pv.fz|apply Pv.zk|apply Pv.aK rfl
 |exact Pv.za|exact Pv.jk|exact Pv.cg|exact Pv.qh|exact Pv.fS|exact Pv.nL|exact Pv.zb
 | (with_reducible assumption)|exact Pv.aZ|exact Pv.uR|exact Pv.gy|exact Pv.qj|exact Pv.fM|exact Pv.FE|exact Pv.Dp  | exact Pv.zl
 | (show Pv.truthy _=_;rfl) | (show Pv.fW _ _=some _;rfl) | (show Pv.toT _=some _;rfl) | (show Pv.g7 _ _=some _;rfl) | (show Pv.gk _=some _;rfl)|assumption)
namespace Pv
open Ev (D aU aR TY BI ME T E Es Eo It S Ss Fn big deep b2i rep bE dg bz aN cut bO bu slots)
def Mh(a b:Int):bE (a % 2147483563) b=true:=by have h1:=Xn a (b:=2147483563) (by decide);have h2:=WY a (b:=2147483563) (by decide);simp[bE];omega
def RA(a b:Int):bE (a % 2147483399) b=true:=by have h1:=Xn a (b:=2147483399) (by decide);have h2:=WY a (b:=2147483399) (by decide);simp[bE];omega
def Mi{l:List V}{j:Int}{v:V}(h:bz l j=some v):fW (.bX l) (.int j)=some v:=h
def Mj{l m:List V}:cop .eq (.bX l) (.lst m)=cG (cA (18+1)) l m:=rfl
def Dr{F:List Fn}{w n c:Nat}(hc:F[c]?=some tK){ns:List Int}(hn:ns.length<=63)(k:Int):run F w (n+1) c [.val (fT ns),.val (.int k)]=some (.int (tL ns k),[]):=by
 refine bN hc rfl (aj (aV (b:=decide (ns=[])) (aK rfl (bh (au rfl) (cR az fS) (Mj.trans (Ia ns))) rfl) (λh=>?_) λh=>aQ ?_))
 .have h0:=VV h;exact aj (cK (aH (aD rfl) (au rfl) (jS rfl)) ⟨by rw[tL,cS h0],rfl⟩)
 .have h0:=Xz h;have hlen:0<ns.length:=List.length_pos_iff.mpr h0;have Qk:(0:Int)<(ns.map V.int).length:=by rw[VL];exact Int.natCast_pos.mpr hlen
  have h30:((ns.map V.int).length:Int)<1073741824:=by rw[VL];omega
  have hm0:=Xn k (b:=(ns.length:Int)) (by omega);have hlt:(k % (ns.length:Int)).toNat<ns.length:=by have:=WY k (b:=(ns.length:Int)) (by omega);omega
  have hx:bz (ns.map V.int) (k % ((ns.map V.int).length:Int))=some (.int (ns[(k % (ns.length:Int)).toNat]?.getD 0)):=by
   rw[VL,uX hm0,Vz,xZ hlt];rfl
  refine aj (cK (aH (fy (au rfl) (aH (au rfl) (gf (ak (au rfl) az) xR) (nP Qk)) (Mi hx)) (aH (aD rfl) (aH (au rfl) (gf (ak (au rfl) az) xR) (tM Qk h30)) (jS rfl)) aZ) ⟨?_,rfl⟩);rw[tL,Qm h0,VL]
def eU{F:List Fn}{w n c dr:Nat}(hc:F[c]?=some tK)(hd:F[dr]?=some (uY c)){ns:List Int}(hn:ns.length<=63)(k:Int){many:Int}(hm:0<many):run F w (n+2) dr [.val (fT ns),.val (.int k),.val (.int many)]=some (.int (cC ns k many),[]):=by
 refine bN hd rfl (aj (aX (aH (aH (aH (aH (bV (aE rfl (au rfl) (aE rfl (au rfl) aO)) (call2 (Dr hc hn k))) (aD rfl) (nP (by decide))) (aD rfl) (jS (Mh _ _))) (aH (aD rfl) (aH (au rfl) (aD rfl) aZ) (jS rfl)) aZ) (aD rfl) (nP (by decide))) rfl rfl ?_));refine aj (aX (aH (aH (aH (au rfl) (au rfl) (jS (Mh _ _))) (aH (au rfl) (aD rfl) (tM (by decide) (by decide))) aZ) (aD rfl) (nP (by decide))) rfl rfl ?_);exact aj (cK (aH (aH (aH (aH (aH (au rfl) (au rfl) (jS (RA _ _))) (aH (au rfl) (aD rfl) (tM (by decide) (by decide))) aZ) (aD rfl) (nP (by decide))) (aD rfl) (tM (by decide) (by decide))) (au rfl) (nP hm)) ⟨rfl,rfl⟩)
noncomputable def fText(dr:Nat):Fn:=⟨3,4,(.cons (.ret (.me .join (.c (.str [])) (.cons (.comp (.ix (.c (.str [97,98,99,32])) (.cl dr (.cons (.v 0) (.cons (.bin .add (.bin .add (.v 1) (.c (.int 1))) (.v 3)) (.cons (.c (.int 4)) .nil))))) (.one 3) (.fU (.cons (.cl dr (.cons (.v 0) (.cons (.v 1) (.cons (.bin .add (.v 2) (.c (.int 1))) .nil)))) .nil)) .no) .nil))) .nil)⟩
noncomputable def FG(dr:Nat):S:=.iff (.cmp .eq (.cl dr (.cons (.v 0) (.cons (.bin .add (.v 1) (.bin .mul (.c (.int 4)) (.v 4))) (.cons (.c (.int 4)) .nil)))) (.c (.int 0))) (.cons (.set 5 (.bin .mul (.ix (.c (.str [97,98,122])) (.cl dr (.cons (.v 0) (.cons (.bin .add (.bin .add (.v 1) (.bin .mul (.c (.int 4)) (.v 4))) (.c (.int 1))) (.cons (.c (.int 3)) .nil))))) (.bin .add (.c (.int 1)) (.cl dr (.cons (.v 0) (.cons (.bin .add (.bin .add (.v 1) (.bin .mul (.c (.int 4)) (.v 4))) (.c (.int 2))) (.cons (.c (.int 2)) .nil))))))) (.cons (.set 3 (.bin .add (.v 3) (.tup (.cons (.tup (.cons (.c (.str [112,117,116])) (.cons (.v 5) .nil))) .nil)))) .nil)) .nil
noncomputable def FH(dr:Nat):S:=.iff (.cmp .lt (.v 4) (.bi .len (.cons (.v 2) .nil))) (.cons (.set 6 (.cmp .gt (.cl dr (.cons (.v 0) (.cons (.bin .add (.bin .add (.v 1) (.bin .mul (.c (.int 4)) (.v 4))) (.c (.int 3))) (.cons (.c (.int 3)) .nil)))) (.c (.int 0)))) (.cons (.set 3 (.bin .add (.v 3) (.tup (.cons (.fV (.v 6) (.tup (.cons (.c (.str [107,101,101,112])) (.cons (.c (.int 1)) .nil))) (.tup (.cons (.c (.str [100,114,111,112])) (.cons (.ix (.v 2) (.v 4)) .nil)))) .nil)))) .nil)) .nil
noncomputable def Ib(dr:Nat):Fn:=⟨3,7,(.cons (.set 3 (.tup .nil)) (.cons (.for (.one 4) (.fU (.cons (.bin .add (.bi .len (.cons (.v 2) .nil)) (.c (.int 1))) .nil)) (.cons (FG dr) (.cons (FH dr) .nil))) (.cons (.ret (.v 3)) .nil)))⟩
inductive Pt where
 |keep (n:Nat)|put (s:List Nat)|drop (s:List Nat)
deriving DecidableEq
noncomputable def FJ:List Nat:=[107,101,101,112]
noncomputable def Ml:List Nat:=[112,117,116]
noncomputable def FL:List Nat:=[100,114,111,112]
noncomputable def Pt.v:Pt->V
 |.keep n=>.tup [.str FJ,.int n]
 |.put s=>.tup [.str Ml,.str s]
 |.drop s=>.tup [.str FL,.str s]
noncomputable def bM(c:List Pt):V:=.tup (c.map Pt.v)
noncomputable def txt(ns:List Int)(at_ most:Int):List Nat:=(List.range (cC ns at_ (most+1)).toNat).map λ(k:Nat)=>[97,98,99,32].getD (cC ns (at_+1+k) 4).toNat 0
def Ic(ns:List Int)(at_:Int){most:Int}(h:0<=most):(txt ns at_ most).length<=most.toNat:=by
 unfold txt;have h1:=iU ns at_ (many:=most+1) (by omega);have h2:=iT ns at_ (many:=most+1) (by omega);simp;omega
def getD_at{α:Type}{l:List α}{i:Int}(h0:0<=i)(h1:i<l.length)(d:α):bz l i=some (l.getD i.toNat d):=by
 have:i.toNat<l.length:=by omega
 rw[uX h0];simp[List.getD,xZ this]
def j7{α β:Type}(l:List α)(f:α->β):(l.map λx=>[f x]).flatten=l.map f:=by induction l<;>simp[*]
def BC(lo:Int)(n:Nat):range lo n=(List.range n).map λ(i:Nat)=>V.int (lo+i):=rfl
section
variable{F:List Fn}{w n c dr t:Nat}(hc:F[c]?=some tK)(hd:F[dr]?=some (uY c)){ns:List Int}(hn:ns.length<=63)
include hc hd hn
theorem Ds(ht:F[t]?=some (fText dr))(k most:Int)(hm:0<=most)(hm2:most<=1000):run F w (n+3) t [.val (fT ns),.val (.int k),.val (.int most)]=some (.str (txt ns k most),[]):=by
 have b0:=iT ns k (many:=most+1) (by omega);have b1:=iU ns k (many:=most+1) (by omega);have d0:=λfr=>cQ (fr:=fr) (eU (w:=w) (n:=n) hc hd hn k (many:=most+1) (by omega));have Ox:b7 (gm (run F w (n+2)) (.ix (.c (.str [97,98,99,32])) (.cl dr (.cons (.v 0) (.cons (.bin .add (.bin .add (.v 1) (.c (.int 1))) (.v 3)) (.cons (.c (.int 4)) .nil))))) (.one 3) .no [some (.val (fT ns)),some (.val (.int k)),some (.val (.int most)),none]) (range 0 (cC ns k (most+1)).toNat)=some (((List.range (cC ns k (most+1)).toNat).map λ(j:Nat)=>[[97,98,99,32].getD (cC ns (k+1+j) 4).toNat 0]).map V.str):=by
  rw[BC,WC];refine er _ _ _ λj _=>?_;have d1:=λfr=>cQ (fr:=fr) (eU (w:=w) (n:=n) hc hd hn (k+1+j) (many:=4) (by decide));have ix:fW (.str [97,98,99,32]) (.int (cC ns (k+1+j) 4))=some (.str [[97,98,99,32].getD (cC ns (k+1+j) 4).toNat 0]):=by
   rw[rj,getD_at (l:=[97,98,99,32]) (iT ns (k+1+j) (many:=4) (by decide)) (iU ns (k+1+j) (many:=4) (by decide)) 0];rfl
  rw[show(0:Int)+(j:Int)=j from Int.zero_add _];exact cH rfl (by (repeat (first|array_get_dec|exact d1 _)))
 have hj:=FD (l:=(List.range (cC ns k (most+1)).toNat).map λ(j:Nat)=>[[97,98,99,32].getD (cC ns (k+1+j) 4).toNat 0]) (by rw[j7];simp;omega);rw[j7]at hj;have Uh:dR (((List.range (cC ns k (most+1)).toNat).map λ(j:Nat)=>[[97,98,99,32].getD (cC ns (k+1+j) 4).toNat 0]).map V.str)=some (.lst _):=b9 (bD (by simp;omega));have rg:=LP b0 (show cC ns k (most+1)<=100000 by omega);refine bN ht rfl (aj (cK (qi rfl (aD rfl) (ak (dZ (jG (by (repeat (first|array_get_dec|exact d0 _))) rg) rfl Ox Uh) az) hj) ⟨rfl,rfl⟩))
end
noncomputable def iP(ns:List Int)(at_:Int)(s:List Nat)(k:Nat):List Pt:=
 (if cC ns (at_+4*k) 4=0 then [.put (rep (1+cC ns (at_+4*k+2) 2).toNat [[97,98,122].getD (cC ns (at_+4*k+1) 3).toNat 0])]else [])++
 (match s[k]? with
 |some c=>[if 0<cC ns (at_+4*k+3) 3 then .keep 1 else .drop [c]]
 |none=>[])
noncomputable def fh(ns:List Int)(at_:Int)(s:List Nat)(k:Nat):List Pt:=(List.range k).flatMap (iP ns at_ s)
noncomputable def chg(ns:List Int)(at_:Int)(s:List Nat):List Pt:=fh ns at_ s (s.length+1)
def BD(ns:List Int)(at_:Int)(s:List Nat)(k:Nat):(iP ns at_ s k).length<=2:=by
 unfold iP;split<;>split<;>simp
def jm(ns:List Int)(at_:Int)(s:List Nat)(k:Nat):fh ns at_ s (k+1)=fh ns at_ s k++iP ns at_ s k:=by simp[fh,Yk]
theorem m8(ns:List Int)(at_:Int)(s:List Nat):∀k,(fh ns at_ s k).length<=2*k
 |0=>by simp[fh]
 |k+1=>by
  have h1:=BD ns at_ s k;have h2:=m8 ns at_ s k;rw[jm,Qn];omega
def Mm(i:Int):bE 4 i=true:=by simp[bE]
def zq{a b:List Pt}(h:a.length+b.length<=100000):bH .add (bM a) (bM b)=some (bM (a++b)):=by
 simp only[bM];rw[pg (by simpa using h)];simp
def Dt{j:Int}{n:Nat}(h:n<=100000)(e:j=n):e8 [.int j]=some (range 0 n):=by
 subst e;rw[LP (by omega) (by omega)];rfl
def Ie{a:List Pt}{s:List Nat}(h:a.length<100000):bH .add (bM a) (.tup [.tup [.str [112,117,116],.str s]])=some (bM (a++[.put s])):=zq (a:=a) (b:=[.put s]) (by simp;omega)
def Dv{a:List Pt}{s:List Nat}(h:a.length<100000):bH .add (bM a) (.tup [.tup [.str [100,114,111,112],.str s]])=some (bM (a++[.drop s])):=zq (a:=a) (b:=[.drop s]) (by simp;omega)
def Dw{a:List Pt}(h:a.length<100000):bH .add (bM a) (.tup [.tup [.str [107,101,101,112],.int 1]])=some (bM (a++[.keep 1])):=zq (a:=a) (b:=[.keep 1]) (by simp;omega)
section
variable{F:List Fn}{w n c dr t:Nat}(hc:F[c]?=some tK)(hd:F[dr]?=some (uY c)){ns:List Int}(hn:ns.length<=63)
include hc hd hn
theorem Dy(k:Int)(x:V)(fd:List Pt)(j:Nat)(u v:Option Sl)(hu:vo u)(hfd:fd.length<=10000) :
  Wp (ex (run F w (n+2)) w (FG dr) [some (.val (fT ns)),some (.val (.int k)),some (.val x),some (.val (bM fd)),some (.val (.int j)),u,v]) λg fr=>g=.nx/\∃b,vo b/\fr=[some (.val (fT ns)),some (.val (.int k)),some (.val x),some (.val (bM (fd++if cC ns (k+4*j) 4=0 then [.put (rep (1+cC ns (k+4*j+2) 2).toNat [[97,98,122].getD (cC ns (k+4*j+1) 3).toNat 0])]else []))),some (.val (.int j)),b,v]:=by
 have d1:=λfr=>cQ (fr:=fr) (eU (w:=w) (n:=n) hc hd hn (k+4*j) (many:=4) (by decide));have m4:bH .mul (.int 4) (.int j)=some (.int (4*j)):=by rw[pq,Mm];rfl
 refine aV (by (repeat (first|array_get_dec|exact d1 _))) (λh=>?_) λh=>?_
 .have h0:=VV h;have d2:=λfr=>cQ (fr:=fr) (eU (w:=w) (n:=n) hc hd hn (k+4*j+1) (many:=3) (by decide));have d3:=λfr=>cQ (fr:=fr) (eU (w:=w) (n:=n) hc hd hn (k+4*j+2) (many:=2) (by decide));have c2:=iT ns (k+4*j+2) (many:=2) (by decide);have c3:=iU ns (k+4*j+2) (many:=2) (by decide);have ix:fW (.str [97,98,122]) (.int (cC ns (k+4*j+1) 3))=some (.str [[97,98,122].getD (cC ns (k+4*j+1) 3).toNat 0]):=by
   rw[rj,getD_at (l:=[97,98,122]) (iT ns (k+4*j+1) (many:=3) (by decide)) (iU ns (k+4*j+1) (many:=3) (by decide)) 0];rfl
  have ml:=Df (j:=1+cC ns (k+4*j+2) 2) (a:=[[97,98,122].getD (cC ns (k+4*j+1) 3).toNat 0]) (by omega) (by omega) (by simp);have ad:=Ie (a:=fd) (s:=rep (1+cC ns (k+4*j+2) 2).toNat [[97,98,122].getD (cC ns (k+4*j+1) 3).toNat 0]) (by omega);refine aj (aX (by (repeat (first|array_get_dec|exact d2 _|exact d3 _))) rfl (eE rfl hu) ?_);refine aj (aX (by repeat array_get_dec) rfl rfl (aQ ?_));rw[cS h0];exact⟨rfl,_,.val,rfl⟩
 .have h0:=Xz h;rw[Qm h0,Ux];exact aQ ⟨rfl,u,hu,rfl⟩
theorem Dz(k:Int)(x:List Nat)(hx:x.length<=1000)(fd:List Pt)(j:Nat)(u v:Option Sl)(hv:vo v)(hfd:fd.length<=10000) :
  Wp (ex (run F w (n+2)) w (FH dr) [some (.val (fT ns)),some (.val (.int k)),some (.val (.str x)),some (.val (bM fd)),some (.val (.int j)),u,v]) λg fr=>g=.nx/\∃b,vo b/\fr=[some (.val (fT ns)),some (.val (.int k)),some (.val (.str x)),some (.val (bM (fd++match x[j]? with
     |some c=>[if 0<cC ns (k+4*j+3) 3 then .keep 1 else .drop [c]]
     |none=>[]))),some (.val (.int j)),u,b]:=by
 have ln:dO .len [.str x]=some (.int (x.length:Nat)):=WA (by omega);refine aV (by repeat array_get_dec) (λh=>?_) λh=>?_
 .have hlt:j<x.length:=by have:=VV h;omega
  have d1:=λfr=>cQ (fr:=fr) (eU (w:=w) (n:=n) hc hd hn (k+4*j+3) (many:=3) (by decide));have m4:bH .mul (.int 4) (.int j)=some (.int (4*j)):=by rw[pq,Mm];rfl
  have hg:x[j]?=some x[j]:=xZ hlt;have ix:fW (.str x) (.int j)=some (.str [x[j]]):=by rw[rj,wj,hg];rfl
  rw[hg];refine aj (aX (by (repeat (first|array_get_dec|exact d1 _))) rfl (eE rfl hv) ?_);by_cases hk:0<cC ns (k+4*j+3) 3
  .have ad:=Dw (a:=fd) (by omega);have ht:truthy (.bl (decide (0<cC ns (k+4*j+3) 3)))=true:=VJ hk;refine aj (aX (aH (au rfl) (bA (ak (iN (b:=true) (aK rfl (au rfl) ht) (λ_=>by repeat array_get_dec) λh=>absurd h (by decide)) az) jk) ad) rfl rfl (aQ ?_));refine⟨rfl,some (.val (.bl (decide (0<cC ns (k+4*j+3) 3)))),.val,?_⟩;simp only[cS hk];rfl
  .have ad:=Dv (a:=fd) (s:=[x[j]]) (by omega);have ht:truthy (.bl (decide (0<cC ns (k+4*j+3) 3)))=false:=Vy hk;refine aj (aX (aH (au rfl) (bA (ak (iN (b:=false) (aK rfl (au rfl) ht) (λh=>absurd h (by decide)) λ_=>by repeat array_get_dec) az) jk) ad) rfl rfl (aQ ?_));refine⟨rfl,some (.val (.bl (decide (0<cC ns (k+4*j+3) 3)))),.val,?_⟩;simp only[Qm hk];rfl
 .have hlt:¬ j<x.length:=by have:=Xz h;omega
  rw[VG (by omega),Ux];exact aQ ⟨rfl,v,hv,rfl⟩
theorem zu(ht:F[t]?=some (Ib dr))(k:Int)(x:List Nat)(hx:x.length<=1000):run F w (n+3) t [.val (fT ns),.val (.int k),.val (.str x)]=some (bM (chg ns k x),[]):=by
 refine bN ht rfl ?_;have ln:dO .len [.str x]=some (.int (x.length:Nat)):=WA (by omega);have rg:e8 [.int ((x.length:Nat)+1)]=some (range 0 (x.length+1)):=Dt (by omega) (by omega);refine aj (aX (by repeat array_get_dec) rfl rfl ?_);refine aj (iO (jG (ak (aH (gf (ak (au rfl) az) ln) (aD rfl) aZ) az) rg) ?_);refine xS (λj fr=>∃a b c,vo a/\vo b/\vo c/\fr=[some (.val (fT ns)),some (.val (.int k)),some (.val (.str x)),some (.val (bM (fh ns k x j))),a,b,c]) (λj fr hj ⟨a,b,c',ha,hb,hc',hfr⟩=>?_) (λfr ⟨a,b,c',ha,hb,hc',hfr⟩=>?_) ⟨none,none,none,.none,.none,.none,rfl⟩
 .subst hfr;have hz:=m8 ns k x j;rw[show(0:Int)+(j:Int)=j from Int.zero_add _];refine di (bind1 rfl ha) (aj ?_);refine(Dy hc hd hn k (.str x) (fh ns k x j) j b c' hb (by omega)).mono λg fr ⟨q1,b2,hb2,q3⟩=>?_;subst q1 q3;refine aj ?_;refine(Dz hc hd hn k x hx _ j b2 c' hc' (by split<;>simp<;>omega)).mono λg fr ⟨q1,b3,Ui,q3⟩=>?_;subst q1 q3;refine aQ ?_;rw[eG];refine⟨some (.val (.int j)),b2,b3,.val,hb2,Ui,?_⟩;rw[jm,iP,VN]
 .subst hfr;refine aj (cK (v:=bM (chg ns k x)) (af:=[some (.val (fT ns)),some (.val (.int k)),some (.val (.str x)),some (.val (bM (fh ns k x (x.length+1)))),a,b,c']) ?_ ⟨rfl,rfl⟩);have sh:fc [some (.val (fT ns)),some (.val (.int k)),some (.val (.str x)),some (.val (bM (fh ns k x (x.length+1)))),a,b,c']=[some (.val (fT ns)),some (.val (.int k)),some (.val (.str x)),some (.val (bM (fh ns k x (x.length+1)))),a,b,c']:=by
   show _ :: _ :: _ :: _ :: a.map Sl.cj :: b.map Sl.cj :: [c'.map Sl.cj]=_;rw[b5 ha,b5 hb,b5 hc'];rfl
  rw[sh];exact au rfl
end
noncomputable def DA:S:=.iff (.cmp .eq (.ix (.v 0) (.c (.int 0))) (.c (.str [107,101,101,112]))) (.cons (.ret (.ix (.v 0) (.c (.int 1)))) .nil) .nil
noncomputable def DB:S:=.ret (.bi .len (.cons (.ix (.v 0) (.c (.int 1))) .nil))
noncomputable def fG:Fn:=⟨1,1,(.cons DA (.cons DB .nil))⟩
noncomputable def zv(bI:Nat):S:=.ret (.bi .sum (.cons (.comp (.cl bI (.cons (.v 1) .nil)) (.one 1) (.seq (.v 0)) (.yes (.cmp .ne (.ix (.v 1) (.c (.int 0))) (.c (.str [112,117,116]))))) .nil))
noncomputable def u7(bI:Nat):Fn:=⟨1,2,(.cons (zv bI) .nil)⟩
noncomputable def BE(bI:Nat):S:=.ret (.bi .sum (.cons (.comp (.cl bI (.cons (.v 1) .nil)) (.one 1) (.seq (.v 0)) (.yes (.cmp .ne (.ix (.v 1) (.c (.int 0))) (.c (.str [100,114,111,112]))))) .nil))
noncomputable def xW(bI:Nat):Fn:=⟨1,2,(.cons (BE bI) .nil)⟩
noncomputable def DC:S:=.set 1 (.lst .nil)
noncomputable def DE:S:=.set 2 (.c (.int 0))
noncomputable def DF:S:=.set 3 (.c (.str []))
noncomputable def DG:S:=.set 4 (.c (.str []))
noncomputable def DH(fD:Nat):Ss:=(.cons (.iff (.cmp .eq (.v 5) (.c (.str [100,114,111,112]))) (.cons (.set 3 (.bin .add (.v 3) (.v 6))) .nil) (.cons (.iff (.cmp .eq (.v 5) (.c (.str [112,117,116]))) (.cons (.set 4 (.bin .add (.v 4) (.v 6))) .nil) (.cons (.iff (.cmp .gt (.v 6) (.c (.int 0))) (.cons (.iff (.orr (.cmp .ne (.v 3) (.c (.str []))) (.cmp .ne (.v 4) (.c (.str [])))) (.cons (.exp (.me .extend (.v 1) (.cons (.cl fD (.cons (.v 2) (.cons (.v 3) (.cons (.v 4) .nil)))) .nil))) (.cons (.set 2 (.c (.int 0))) (.cons (.set 3 (.c (.str []))) (.cons (.set 4 (.c (.str []))) .nil)))) .nil) (.cons (.set 2 (.bin .add (.v 2) (.v 6))) .nil)) .nil) .nil)) .nil)) .nil)
noncomputable def DI(fD:Nat):S:=.for (.many [5,6]) (.seq (.v 0)) (DH fD)
noncomputable def DJ(fD:Nat):S:=.exp (.me .extend (.v 1) (.cons (.cl fD (.cons (.v 2) (.cons (.v 3) (.cons (.v 4) .nil)))) .nil))
noncomputable def DK:S:=.ret (.jN (.v 1))
noncomputable def u9(fD:Nat):Fn:=⟨1,7,(.cons DC (.cons DE (.cons DF (.cons DG (.cons (DI fD) (.cons (DJ fD) (.cons DK .nil)))))))⟩
noncomputable def vK:S:=.set 3 (.lst .nil)
noncomputable def vL:S:=.iff (.cmp .gt (.v 0) (.c (.int 0))) (.cons (.exp (.me .append (.v 3) (.cons (.tup (.cons (.c (.str [107,101,101,112])) (.cons (.v 0) .nil))) .nil))) .nil) .nil
noncomputable def vM:S:=.iff (.cmp .ne (.v 1) (.c (.str []))) (.cons (.exp (.me .append (.v 3) (.cons (.tup (.cons (.c (.str [100,114,111,112])) (.cons (.v 1) .nil))) .nil))) .nil) .nil
noncomputable def vN:S:=.iff (.cmp .ne (.v 2) (.c (.str []))) (.cons (.exp (.me .append (.v 3) (.cons (.tup (.cons (.c (.str [112,117,116])) (.cons (.v 2) .nil))) .nil))) .nil) .nil
noncomputable def vO:S:=.ret (.v 3)
noncomputable def m9:Fn:=⟨3,4,(.cons vK (.cons vL (.cons vM (.cons vN (.cons vO .nil)))))⟩
noncomputable def Pt.n:Pt->Nat
 |.keep n=>n
 |.put s=>s.length
 |.drop s=>s.length
noncomputable def tot(c:List Pt):Nat:=(c.map Pt.n).sum
def gn(a b:List Pt):tot (a++b)=tot a+tot b:=by simp[tot]
def eF(p:Pt)(c:List Pt):tot (p :: c)=p.n+tot c:=by simp[tot]
noncomputable def iE:Pt->Bool
 |.put _=>true
 |_=>false
noncomputable def ng:Pt->Bool
 |.drop _=>true
 |_=>false
noncomputable def aC(c:List Pt):Nat:=tot (c.filter λp=>!iE p)
section
variable{F:List Fn}{w n i:Nat}
def vc(hs:F[i]?=some fG)(p:Pt)(hp:p.n<=100000):run F w (n+1) i [.val p.v]=some (.int p.n,[]):=by
 cases p with
 |keep k=>exact bN hs rfl (aj (aV (b:=true) (aK rfl (bh (fy (au rfl) (aD rfl) rfl) (aD rfl) gy) rfl) (λ_=>aj (cK (fy (au rfl) (aD rfl) rfl) ⟨rfl,rfl⟩)) nofun))
 |put s=>exact bN hs rfl (aj (aV (b:=false) (aK rfl (bh (fy (au rfl) (aD rfl) rfl) (aD rfl) gy) rfl) nofun (λ_=>aQ (aj (cK (gf (ak (fy (au rfl) (aD rfl) rfl) az) (WA hp)) ⟨rfl,rfl⟩)))))
 |drop s=>exact bN hs rfl (aj (aV (b:=false) (aK rfl (bh (fy (au rfl) (aD rfl) rfl) (aD rfl) gy) rfl) nofun (λ_=>aQ (aj (cK (gf (ak (fy (au rfl) (aD rfl) rfl) az) (WA hp)) ⟨rfl,rfl⟩)))))
end
noncomputable def Ig(k:Nat)(g w:List Nat):List Pt:=(if 0<k then [.keep k]else [])++(if g=[]then []else [.drop g])++(if w=[]then []else [.put w])
noncomputable def lv(o:Option Sl)(l:List V):Prop:=o=some (.own l)\/o=some (.val (.lst l))
section
variable{o:Option Sl}{l:List V}{fr:Fr}{i:Nat}{s:Sl}
theorem lv.own:lv (some (.own l)) l:=.inl rfl
theorem lv.val:lv (some (.val (.lst l))) l:=.inr rfl
def Mn(h:lv o l):Bx true (some o)=some (.lst l):=by rcases h with rfl|rfl<;>simp
def Mp(h:lv o l):xT fr i s (some o)=some (fr.set i (some s)):=by rcases h with rfl|rfl<;>simp
def Ih(h:lv o l):o.map Sl.cj=some (.val (.lst l)):=by rcases h with rfl|rfl<;>simp
end
def DL{P:aF}{fr:Fr}{i:Nat}{k:Bool}{o:Option Sl}{l:List V}(hk:k=true)(e:fr[i]?=some o)(h:lv o l):ev P k (.v i) fr=.ok (.lst l) fr:=by
 subst hk;exact au (by rw[HY,e,Mn h])
def vd{fr:Fr}{i:Nat}{s:Sl}{o:Option Sl}{l:List V}(e:fr[i]?=some o)(h:lv o l):put fr i s=some (fr.set i (some s)):=by rw[By,e,Mp h]
noncomputable def Pt.asks:Pt->List (List Nat)
 |.keep n=>List.replicate n []
 |.drop s=>s.map λc=>[c]
 |.put _=>[]
noncomputable def asks(c:List Pt):List (List Nat):=c.flatMap Pt.asks
def pA(a b:List Pt):asks (a++b)=asks a++asks b:=by simp[asks]
def rC{α:Type}(n:Nat)(a:α):rep n [a]=List.replicate n a:=by
 induction n with
 |zero=>rfl
 |succ n ih=>simp only[rep,Uj,Wg]at ih ⊢;rw[ih];rfl
def DM(c:List Pt):(asks c).length=aC c:=by
 induction c with
 |nil=>rfl
 |cons p c ih=>cases p<;>simp[asks,aC,tot,iE,Pt.asks,Pt.n]at ih ⊢<;>omega
def lA(n:Nat)(c:List Pt):aC (.keep n :: c)=n+aC c:=by simp[aC,tot,iE,Pt.n]
def nQ(s:List Nat)(c:List Pt):aC (.drop s :: c)=s.length+aC c:=by simp[aC,tot,iE,Pt.n]
def lB(s:List Nat)(c:List Pt):aC (.put s :: c)=aC c:=by simp[aC,tot,iE,Pt.n]
abbrev Bl:=List Nat×List Nat
noncomputable def Mq(st:List Pt×Nat)(b:Bl):List Pt×Nat:=if b.1=[]/\b.2=[]then (st.1,st.2+1)else (st.1++Ig st.2 b.1 b.2,1)
noncomputable def pk(bs:List Bl):List Pt×Nat:=bs.foldl Mq ([],0)
noncomputable def br:List Pt->List Nat->Bool
 |[],t=>t.isEmpty
 |.keep n :: c,t=>decide (n<=t.length)&&br c (t.drop n)
 |.drop s :: c,t=>s.isPrefixOf t&&br c (t.drop s.length)
 |.put _ :: c,t=>br c t
noncomputable def aM:List Pt->List Nat->List Nat
 |[],_=>[]
 |.keep n :: c,t=>t.take n++aM c (t.drop n)
 |.drop s :: c,t=>aM c (t.drop s.length)
 |.put s :: c,t=>s++aM c t
noncomputable def eK:List (List Nat)->List Nat->Bool
 |[],[]=>true
 |x :: a,c :: t=>(decide (x=[]) ||decide (x=[c]))&&eK a t
 |_,_=>false
def BF(n:Nat)(a:List (List Nat)):∀t,eK (List.replicate n []++a) t=(decide (n<=t.length)&&eK a (t.drop n)):=by
 induction n with
 |zero=>intro t;simp
 |succ n ih=>
  intro t;cases t with
  |nil=>simp[Uj,eK]
  |cons c t=>simp[Uj,eK,ih]
def BG(s:List Nat)(a:List (List Nat)):∀t,eK ((s.map λc=>[c])++a) t=(s.isPrefixOf t&&eK a (t.drop s.length)):=by
 induction s with
 |nil=>intro t;simp
 |cons c s ih=>
  intro t;cases t with
  |nil=>simp[eK]
  |cons d t=>
   simp only[VO,VC,eK,ih,List.isPrefixOf,V7,Xv];by_cases h:c=d<;>simp[h]
def ve(c:List Pt):∀t,br c t=eK (asks c) t:=by
 induction c with
 |nil=>intro t;cases t<;>rfl
 |cons p c ih=>
  intro t;have e:asks (p :: c)=p.asks++asks c:=by simp[asks]
  rw[e];cases p with
  |keep n=>simp[br,Pt.asks,BF,ih]
  |drop s=>simp[br,Pt.asks,BG,ih]
  |put s=>simp[br,Pt.asks,ih]
noncomputable def DN:S:=.set 2 (.c (.int 0))
noncomputable def DO(bI:Nat):Ss:=(.cons (.iff (.an (.cmp .eq (.ix (.v 3) (.c (.int 0))) (.c (.str [100,114,111,112]))) (.cmp .ne (.sl (.v 1) (.yes (.v 2)) (.yes (.bin .add (.v 2) (.cl bI (.cons (.v 3) .nil))))) (.ix (.v 3) (.c (.int 1))))) (.cons (.ret (.c (.bl false))) .nil) .nil) (.cons (.iff (.cmp .ne (.ix (.v 3) (.c (.int 0))) (.c (.str [112,117,116]))) (.cons (.set 2 (.bin .add (.v 2) (.cl bI (.cons (.v 3) .nil)))) .nil) .nil) .nil))
noncomputable def DP(bI:Nat):S:=.for (.one 3) (.seq (.v 0)) (DO bI)
noncomputable def DQ:S:=.ret (.cmp .eq (.v 2) (.bi .len (.cons (.v 1) .nil)))
noncomputable def ql(bI:Nat):Fn:=⟨2,4,(.cons DN (.cons (DP bI) (.cons DQ .nil)))⟩
noncomputable def DR(vf:Nat):S:=.iff (.nt (.cl vf (.cons (.v 0) (.cons (.v 1) .nil)))) (.cons (.eO 0) .nil) .nil
noncomputable def DS:S:=.set 2 (.lst .nil)
noncomputable def DT:S:=.set 3 (.c (.int 0))
noncomputable def DU:Ss:=(.cons (.iff (.cmp .eq (.v 4) (.c (.str [112,117,116]))) (.cons (.exp (.me .append (.v 2) (.cons (.v 5) .nil))) .nil) (.cons (.iff (.cmp .eq (.v 4) (.c (.str [100,114,111,112]))) (.cons (.set 3 (.bin .add (.v 3) (.bi .len (.cons (.v 5) .nil)))) .nil) (.cons (.exp (.me .append (.v 2) (.cons (.sl (.v 1) (.yes (.v 3)) (.yes (.bin .add (.v 3) (.v 5)))) .nil))) (.cons (.set 3 (.bin .add (.v 3) (.v 5))) .nil))) .nil)) .nil)
noncomputable def DV:S:=.for (.many [4,5]) (.seq (.v 0)) DU
noncomputable def DW:S:=.ret (.me .join (.c (.str [])) (.cons (.v 2) .nil))
noncomputable def vg(vf:Nat):Fn:=⟨2,6,(.cons (DR vf) (.cons DS (.cons DT (.cons DV (.cons DW .nil)))))⟩
noncomputable def vP(dQ:Nat):S:=.ret (.cl dQ (.cons (.tup (.cons (.tup (.cons (.c (.str [107,101,101,112])) (.cons (.v 0) .nil))) .nil)) .nil))
noncomputable def nh(dQ:Nat):Fn:=⟨1,1,(.cons (vP dQ) .nil)⟩
noncomputable def DX:S:=.set 2 (.c (.int 0))
noncomputable def DY:S:=.set 3 (.c (.str []))
noncomputable def DZ:Ss:=(.cons (.iff (.cmp .eq (.v 4) (.c (.str [112,117,116]))) (.cons (.set 3 (.bin .add (.v 3) (.v 5))) .nil) (.cons (.iff (.cmp .eq (.v 4) (.c (.str [100,114,111,112]))) (.cons (.iff (.cmp .ne (.sl (.v 1) (.yes (.v 2)) (.yes (.bin .add (.v 2) (.bi .len (.cons (.v 5) .nil))))) (.v 5)) (.cons (.ret (.c (.aG))) .nil) .nil) (.cons (.set 2 (.bin .add (.v 2) (.bi .len (.cons (.v 5) .nil)))) .nil)) (.cons (.set 3 (.bin .add (.v 3) (.sl (.v 1) (.yes (.v 2)) (.yes (.bin .add (.v 2) (.v 5)))))) (.cons (.set 2 (.bin .add (.v 2) (.v 5))) .nil))) .nil)) .nil)
noncomputable def D3:S:=.for (.many [4,5]) (.seq (.v 0)) DZ
noncomputable def D4:S:=.ret (.fV (.cmp .eq (.v 2) (.bi .len (.cons (.v 1) .nil))) (.v 3) (.c (.aG)))
noncomputable def Mr:Fn:=⟨2,6,(.cons DX (.cons DY (.cons D3 (.cons D4 .nil))))⟩
def iV{α:Type}(l:List α)(p k:Nat):cut l (some (p:Int)) (some ((p:Int)+k))=(l.drop p).take k:=by
 have h1:¬ (p:Int)<0:=by omega
 have h2:¬ (p:Int)+k<0:=by omega
 have h3:((p:Int)+k).toNat=p+k:=by omega
 simp only[cut,aN,h1,h2,Wb,h3,Wh];by_cases hp:p<=l.length
 .rw[Xk hp];by_cases hk:p+k<=l.length
  .rw[Xk hk];congr 1;omega
  .rw[X5 (by omega),VT (by simp),VT (by simp;omega)]
 .have e1:min p l.length=l.length:=by omega
  rw[e1,WN (vn _),WN (by omega)];simp
def pre_take{s t:List Nat}:s.isPrefixOf t=decide (t.take s.length=s):=by
 cases h:s.isPrefixOf t with
 |true=>
  obtain⟨r,rfl⟩:=List.isPrefixOf_iff_prefix.mp h;simp
 |false=>
  symm
  rw[Yd];intro e;have:s.isPrefixOf t=true:=List.isPrefixOf_iff_prefix.mpr (by have z:=List.take_prefix s.length t;rw[e]at z;exact z);rw[h]at this;cases this
def gq(a b:List Pt):aC (a++b)=aC a+aC b:=by simp[aC,tot]
def rE{c:List Pt}:∀{t:List Nat},br c t=true->t.length=aC c:=by
 induction c with
 |nil=>intro t h;simp[br]at h;subst h;rfl
 |cons p c ih=>
  intro t h;cases p with
  |keep n=>simp only[br,gV,W9]at h;have:=ih h.2;rw[lA];simp at this;omega
  |drop s=>
   simp only[br,gV]at h;have h2:=ih h.2;obtain⟨r,rfl⟩:=List.isPrefixOf_iff_prefix.mp h.1;rw[nQ];simp at h2 ⊢;omega
  |put s=>rw[lB];exact ih h
def jI(c:List Pt):∀t,(aM c t).length<=t.length+tot c:=by
 induction c with
 |nil=>intro t;simp[aM]
 |cons p c ih=>
  intro t;rw[eF];cases p with
  |keep n=>have:=ih (t.drop n);simp[aM,Pt.n]at this ⊢;omega
  |drop s=>have:=ih (t.drop s.length);simp[aM,Pt.n]at this ⊢;omega
  |put s=>have:=ih t;simp[aM,Pt.n]at this ⊢;omega
section
variable{F:List Fn}{w n aP ee i:Nat}
def D5(c:List Pt)(t:List Nat)(q:Nat)(p:Pt)(l:List Pt)(h:br c t=(decide (q<=t.length)&&br (p :: l) (t.drop q))) :
  (ng p=true->(∃s,p=.drop s/\(if (t.drop q).take s.length=s then br c t=(decide (q+s.length<=t.length)&&br l (t.drop (q+s.length)))else br c t=false)))/\
  (ng p=false->br c t=(decide (q+aC [p]<=t.length)&&br l (t.drop (q+aC [p])))):=by
 cases p with
 |drop s=>
  refine⟨λ_=>⟨s,rfl,?_⟩,λz=>by simp[ng]at z⟩;simp only[br,pre_take,VP]at h;split
  .rename_i hs;rw[h];simp only[hs,decide_true,Bool.true_and];have hl:=Vw List.length hs;simp at hl;by_cases hq:q<=t.length
   .by_cases hq2:q+s.length<=t.length
    .simp[hq,hq2]
    .omega
   .have:¬ q+s.length<=t.length:=by omega
    simp[hq,this]
  .rename_i hs;rw[h];simp[hs]
 |keep k=>
  refine⟨λz=>by simp[ng]at z,λ_=>?_⟩;have e:aC [.keep k]=k:=by rw[lA];rfl
  rw[h,e];simp only[br,VP,WR];by_cases hq:q<=t.length
  .by_cases hq2:q+k<=t.length
   .have:k<=t.length - q:=by omega
    simp[hq,hq2,this]
   .have:¬ k<=t.length - q:=by omega
    simp[hq2,this]
  .have:¬ q+k<=t.length:=by omega
   simp[hq,this]
 |put s=>
  refine⟨λz=>by simp[ng]at z,λ_=>?_⟩;have e:aC [.put s]=0:=by rw[lB];rfl
  rw[h,e];simp[br]
def vh(hs:F[aP]?=some fG)(hf:F[i]?=some (ql aP))(c:List Pt)(t:List Nat)(h1:tot c<=10000)(h2:t.length<=10000):run F w (n+2) i [.val (bM c),.val (.str t)]=some (.bl (br c t),[]):=by
 refine bN hf rfl ?_;refine aj (aX (by repeat array_get_dec) rfl rfl ?_);refine aj (iO (vs:=c.map Pt.v) (cV (dz rfl) rfl) ?_);refine fu (e:=Pt.v) (λp l fr=>p++l=c/\br c t=(decide (aC p<=t.length)&&br l (t.drop (aC p)))/\∃a,vo a/\fr=[some (.val (bM c)),some (.val (.str t)),some (.val (.int (aC p))),a]) (λp x l fr ⟨hpl,hfit,a,ha,hfr⟩=>?_) (λp fr ⟨hpl,hfit,a,ha,hfr⟩=>?_) c [] _ ⟨rfl,by simp[aC,tot],none,.none,rfl⟩
 .subst hfr;have Ms:tot p+x.n+tot l=tot c:=by rw[<-hpl,gn,eF];omega
  have sz:=λfr=>nN (fr:=fr) (vc (w:=w) (n:=n) hs x (by omega));obtain⟨k1,k2⟩:=D5 c t (aC p) x l hfit;have gz:(p++[x])++l=c:=by simpa using hpl
  have eb:aC (p++[x])=aC p+aC [x]:=gq p [x];have ei:((aC (p++[x]):Nat):Int)=(aC p:Int)+(aC [x]:Nat):=by rw[eb];simp
  cases x with
  |drop s=>
   obtain⟨s',e,k1⟩:=k1 rfl;cases e;have e2:aC [.drop s]=s.length:=by rw[nQ];rfl
   rw[e2]at eb ei;have cu:fN (.str t) (some (aC p:Int)) (some ((aC p:Int)+((Pt.drop s).n:Nat)))=some (.str ((t.drop (aC p)).take s.length)):=by rw[kH];exact Vw (λz=>some (V.str z)) (iV t (aC p) s.length)
   by_cases hx:(t.drop (aC p)).take s.length=s
   .rw[cS hx]at k1;have ne:cop .ne (.str ((t.drop (aC p)).take s.length)) (.str s)=some false:=by rw[qj,VJ hx];rfl
    refine di (bind1 rfl ha) (aj (aV (b:=false) (BB (b2:=false) (aK rfl (by repeat array_get_dec) rfl) (aK rfl (by (repeat (first|array_get_dec|exact sz _))) rfl)) (λh=>absurd h (by decide)) λ_=>aQ ?_));refine aj (aV (by repeat array_get_dec) (λ_=>?_) λh=>absurd h (by decide));refine aj (aX (by (repeat (first|array_get_dec|exact sz _))) rfl rfl (aQ (aQ ?_)));rw[eG];exact⟨gz,by rw[eb];exact k1,some (.val (Pt.drop s).v),.val,by rw[ei];rfl⟩
   .rw[Qm hx]at k1;have ne:cop .ne (.str ((t.drop (aC p)).take s.length)) (.str s)=some true:=by rw[qj,Vy hx];rfl
    refine di (bind1 rfl ha) (aj (aV (b:=true) (BB (b2:=true) (aK rfl (by repeat array_get_dec) rfl) (aK rfl (by (repeat (first|array_get_dec|exact sz _))) rfl)) (λ_=>?_) λh=>absurd h (by decide)));refine aj (cK (by repeat array_get_dec) ?_);show nx _ _ _ _ _ _;rw[k1];exact⟨rfl,rfl⟩
  |keep k=>
   have k2:=k2 rfl;have e2:aC [.keep k]=k:=by rw[lA];rfl
   rw[e2]at k2 eb ei;refine di (bind1 rfl ha) (aj (aV (b:=false) (BA (aK rfl (by repeat array_get_dec) rfl)) (λh=>absurd h (by decide)) λ_=>aQ ?_));refine aj (aV (by repeat array_get_dec) (λ_=>?_) λh=>absurd h (by decide));refine aj (aX (by (repeat (first|array_get_dec|exact sz _))) rfl rfl (aQ (aQ ?_)));rw[eG];exact⟨gz,by rw[eb];exact k2,some (.val (Pt.keep k).v),.val,by rw[ei];rfl⟩
  |put s=>
   have k2:=k2 rfl;have e2:aC [.put s]=0:=by rw[lB];rfl
   rw[e2]at k2 eb;refine di (bind1 rfl ha) (aj (aV (b:=false) (BA (aK rfl (by repeat array_get_dec) rfl)) (λh=>absurd h (by decide)) λ_=>aQ ?_));refine aj (aV (by repeat array_get_dec) (λh=>absurd h (by decide)) λ_=>aQ (aQ ?_));rw[eG];exact⟨gz,by rw[eb];exact k2,some (.val (Pt.put s).v),.val,by rw[eb];rfl⟩
 .subst hfr;simp at hpl;subst hpl;have e:decide ((aC p:Int)=(t.length:Nat))=br p t:=by
   rw[hfit];simp only[br];by_cases hq:aC p=t.length
   .have:(aC p:Int)=t.length:=by omega
    simp[this,hq]
   .have:¬ (aC p:Int)=t.length:=by omega
    simp[this];intro h;omega
  have ln:dO .len [.str t]=some (.int (t.length:Nat)):=WA (by omega);have eq:cop .eq (.int (aC p)) (.int (t.length:Nat))=some (br p t):=by rw[fM,e]
  have sh:fc [some (.val (bM p)),some (.val (.str t)),some (.val (.int (aC p))),a]=[some (.val (bM p)),some (.val (.str t)),some (.val (.int (aC p))),a]:=by
   show _ :: _ :: _ :: [a.map Sl.cj]=_;rw[b5 ha];rfl
  refine aj (cK (v:=.bl (br p t)) (af:=[some (.val (bM p)),some (.val (.str t)),some (.val (.int (aC p))),a]) ?_ ⟨rfl,rfl⟩);rw[sh];repeat array_get_dec
def D6(hs:F[aP]?=some fG)(hf:F[ee]?=some (ql aP))(hd:F[i]?=some (vg ee))(c:List Pt)(t:List Nat)(h1:tot c<=10000)(h2:t.length<=10000)(h3:c.length<=10000)(h:br c t=true):run F w (n+3) i [.val (bM c),.val (.str t)]=some (.str (aM c t),[]):=by
 refine bN hd rfl ?_;have ft:=λfr=>call2 (fr:=fr) (vh (w:=w) (n:=n) hs hf c t h1 h2);rw[h]at ft;refine aj (aV (b:=false) (zk (aK (b:=true) rfl (by (repeat (first|array_get_dec|exact ft _))) rfl)) (λh=>absurd h (by decide)) λ_=>aQ ?_);refine aj (gA (l:=[]) (by repeat array_get_dec) rfl rfl ?_);refine aj (aX (by repeat array_get_dec) rfl rfl ?_);refine aj (iO (vs:=c.map Pt.v) (cV (dz rfl) rfl) ?_);refine fu (e:=Pt.v) (λp l fr=>p++l=c/\∃ps a b,vo a/\vo b/\ps.length<=p.length/\ps.flatten++aM l (t.drop (aC p))=aM c t/\fr=[some (.val (bM c)),some (.val (.str t)),some (.own (ps.map V.str)),some (.val (.int (aC p))),a,b]) (λp x l fr ⟨hpl,ps,a,b,ha,hb,hl,hd,hfr⟩=>?_) (λp fr ⟨hpl,ps,a,b,ha,hb,hl,hd,hfr⟩=>?_) c [] _ ⟨rfl,[],none,none,.none,.none,by simp,by simp[aC,tot],rfl⟩
 .subst hfr;have gz:(p++[x])++l=c:=by simpa using hpl
  have eb:aC (p++[x])=aC p+aC [x]:=gq p [x];have ei:((aC (p++[x]):Nat):Int)=(aC p:Int)+(aC [x]:Nat):=by rw[eb];simp
  have Ms:tot p+x.n+tot l=tot c:=by rw[<-hpl,gn,eF];omega
  have hlen:p.length+l.length+1=c.length:=by rw[<-hpl];simp;omega
  have ap:∀(fr:Fr) (z:List Nat),sN .append 2 [.str z] fr (some (some (.own (ps.map V.str))))=.ok .aG (fr.set 2 (some (.own ((ps++[z]).map V.str)))):=λfr z=>by
   rw[Uy];exact rq (by simp;omega)
  cases x with
  |put s=>
   have e2:aC [.put s]=0:=by rw[lB];rfl
   rw[e2]at eb;refine di (gH rfl ha rfl hb) (aj (aV (by repeat array_get_dec) (λ_=>?_) λh=>absurd h (by decide)));refine aj (jR (by (repeat (first|array_get_dec|exact ap _ _))) (aQ (aQ ?_)));rw[eG];exact⟨gz,ps++[s],some (.val (.str Ml)),some (.val (.str s)),.val,.val,by simp;omega,by rw[eb];simpa[aM]using hd,by rw[eb];rfl⟩
  |drop s=>
   have e2:aC [.drop s]=s.length:=by rw[nQ];rfl
   rw[e2]at eb ei;have UI:s.length<=tot c:=by simp only[Pt.n]at Ms;omega
   have ln:dO .len [.str s]=some (.int (s.length:Nat)):=WA (by omega);refine di (gH rfl ha rfl hb) (aj (aV (by repeat array_get_dec) (λh=>absurd h (by decide)) λ_=>?_));refine aj (aV (by repeat array_get_dec) (λ_=>?_) λh=>absurd h (by decide));refine aj (aX (by repeat array_get_dec) rfl rfl (aQ (aQ (aQ ?_))));rw[eG];exact⟨gz,ps,some (.val (.str FL)),some (.val (.str s)),.val,.val,by simp;omega,by rw[eb];simpa[aM]using hd,by rw[ei];rfl⟩
  |keep k=>
   have e2:aC [.keep k]=k:=by rw[lA];rfl
   rw[e2]at eb ei;have cu:fN (.str t) (some (aC p:Int)) (some ((aC p:Int)+(k:Nat)))=some (.str ((t.drop (aC p)).take k)):=by rw[kH,iV]
   refine di (gH rfl ha rfl hb) (aj (aV (by repeat array_get_dec) (λh=>absurd h (by decide)) λ_=>?_));refine aj (aV (by repeat array_get_dec) (λh=>absurd h (by decide)) λ_=>?_);refine aj (jR (by (repeat (first|array_get_dec|exact ap _ _))) ?_);refine aj (aX (by repeat array_get_dec) rfl rfl (aQ (aQ (aQ ?_))));rw[eG];exact⟨gz,ps++[(t.drop (aC p)).take k],some (.val (.str FJ)),some (.val (.int k)),.val,.val,by simp;omega,by rw[eb];simpa[aM]using hd,by rw[ei];rfl⟩
 .subst hfr;simp at hpl;subst hpl;have hd':ps.flatten=aM p t:=by simpa[aM]using hd
  have dl:=jI p t;have hj:=FD (l:=ps) (by rw[hd'];omega);rw[hd']at hj;have sh:fc [some (.val (bM p)),some (.val (.str t)),some (.own (ps.map V.str)),some (.val (.int (aC p))),a,b]=[some (.val (bM p)),some (.val (.str t)),some (.val (.lst (ps.map V.str))),some (.val (.int (aC p))),a,b]:=by
   show _ :: _ :: _ :: _ :: a.map Sl.cj :: [b.map Sl.cj]=_;rw[b5 ha,b5 hb];rfl
  refine aj (cK (v:=.str (aM p t)) (af:=[some (.val (bM p)),some (.val (.str t)),some (.val (.lst (ps.map V.str))),some (.val (.int (aC p))),a,b]) ?_ ⟨rfl,rfl⟩);rw[sh];repeat array_get_dec
end
end Pv
namespace Pv
open Ev (rep)
def BH(ns:List Int)(at_:Int)(s:List Nat)(k:Nat):tot (iP ns at_ s k)<=3:=by
 have h1:=iU ns (at_+4*k+2) (many:=2) (by decide);have h2:=iT ns (at_+4*k+2) (many:=2) (by decide);unfold iP;rw[gn];have a:tot (if cC ns (at_+4*k) 4=0 then [Pt.put (rep (1+cC ns (at_+4*k+2) 2).toNat [[97,98,122].getD (cC ns (at_+4*k+1) 3).toNat 0])]else [])<=2:=by
  split
  .simp[tot,Pt.n,rep];omega
  .simp[tot]
 cases s[k]? with
 |none=>simp[tot]at a ⊢;omega
 |some c=>
  have b:tot [if 0<cC ns (at_+4*k+3) 3 then Pt.keep 1 else Pt.drop [c]]<=1:=by split<;>simp[tot,Pt.n]
  simp only at b ⊢;omega
theorem sO(ns:List Int)(at_:Int)(s:List Nat):∀k,tot (fh ns at_ s k)<=3*k
 |0=>by simp[fh,tot]
 |k+1=>by
  have h1:=BH ns at_ s k;have h2:=sO ns at_ s k;rw[jm,gn];omega
theorem pB:∀{a b:List (List Nat)}{t u:List Nat},eK a t=true->eK b u=true->eK (a++b) (t++u)=true
 |[],_,[],_,_,hb=>hb
 |x :: a,b,c :: t,u,ha,hb=>by
  simp only[eK,gV]at ha;simp only[VC,eK,gV];exact⟨ha.1,pB ha.2 hb⟩
 |[],_,_ :: _,_,ha,_=>by simp[eK]at ha
 |_ :: _,_,[],_,ha,_=>by simp[eK]at ha
def Ii(ns:List Int)(at_:Int)(s:List Nat)(k:Nat):eK (asks (iP ns at_ s k)) (s[k]?).toList=true:=by
 unfold iP;rw[pA];have a:asks (if cC ns (at_+4*k) 4=0 then [Pt.put (rep (1+cC ns (at_+4*k+2) 2).toNat [[97,98,122].getD (cC ns (at_+4*k+1) 3).toNat 0])]else [])=[]:=by
  split<;>simp[asks,Pt.asks]
 rw[a];cases s[k]? with
 |none=>simp[asks,eK]
 |some c=>simp only;split<;>simp[asks,Pt.asks,eK]
theorem BJ(ns:List Int)(at_:Int)(s:List Nat):∀k,eK (asks (fh ns at_ s k)) (s.take k)=true
 |0=>by simp[fh,asks,eK]
 |k+1=>by
  rw[jm,pA,YM];exact pB (BJ ns at_ s k) (Ii ns at_ s k)
def xX(ns:List Int)(at_:Int)(s:List Nat):br (chg ns at_ s) s=true:=by
 have:=BJ ns at_ s (s.length+1);rw[VT (by omega)]at this;rw[ve];exact this
noncomputable def vj(c:List Pt):Prop:=∀s,Pt.put s∈c->113∉s
def xY(ns:List Int)(at_:Int)(s:List Nat):vj (chg ns at_ s):=by
 intro x hx;unfold chg fh at hx;rw[List.mem_flatMap]at hx;obtain⟨k,-,hk⟩:=hx;unfold iP at hk;rw[V2]at hk;have h1:=iU ns (at_+4*k+1) (many:=3) (by decide);have h2:=iT ns (at_+4*k+1) (many:=3) (by decide);rcases hk with hk|hk
 .split at hk
  .simp only[V9,Pt.put.injEq]at hk;subst hk;rw[rC];intro h;have:=List.eq_of_mem_replicate h;generalize cC ns (at_+4*k+1) 3=d at *
   have:d=0\/d=1\/d=2:=by omega
   rcases this with rfl|rfl|rfl<;>simp_all
  .simp at hk
 .cases h:s[k]? with
  |none=>simp[h]at hk
  |some c=>simp only[h,V9]at hk;split at hk<;>cases hk
end Pv
namespace Pv
inductive At where
 |k|d (c:Nat)|p (c:Nat)
noncomputable def Pt.gD:Pt->List At
 |.keep n=>List.replicate n .k
 |.drop s=>s.map .d
 |.put s=>s.map .p
noncomputable def gD(c:List Pt):List At:=c.flatMap Pt.gD
def Ij(a b:List Pt):gD (a++b)=gD a++gD b:=by simp[gD]
def vm(p:Pt)(c:List Pt):gD (p :: c)=p.gD++gD c:=by simp[gD]
noncomputable def aA:List At->List (List Nat)
 |[]=>[]
 |.k :: a=>[] :: aA a
 |.d c :: a=>[c] :: aA a
 |.p _ :: a=>aA a
noncomputable def dA:List At->List Nat->List Nat
 |[],_=>[]
 |.k :: a,t=>t.take 1++dA a (t.drop 1)
 |.d _ :: a,t=>dA a (t.drop 1)
 |.p c :: a,t=>c :: dA a t
theorem qm:∀a b:List At,aA (a++b)=aA a++aA b
 |[],_=>rfl
 |.k :: a,b=>by simp[aA,qm a b]
 |.d c :: a,b=>by simp[aA,qm a b]
 |.p c :: a,b=>by simp[aA,qm a b]
def Oz(p:Pt):aA p.gD=p.asks:=by
 cases p with
 |keep n=>simp only[Pt.gD,Pt.asks];induction n<;>simp_all [Uj,aA]
 |drop s=>simp only[Pt.gD,Pt.asks];induction s<;>simp_all [aA]
 |put s=>simp only[Pt.gD,Pt.asks];induction s<;>simp_all [aA]
def D7(c:List Pt):asks c=aA (gD c):=by
 induction c with
 |nil=>rfl
 |cons p c ih=>rw[vm,qm,Oz,<-ih];simp[asks]
def pC:∀(c:List Pt) (t:List Nat),aM c t=dA (gD c) t:=by
 have k:∀(n:Nat) (a:List At) (t:List Nat),dA (List.replicate n .k++a) t=t.take n++dA a (t.drop n):=λn=>by
  induction n with
  |zero=>intro a t;simp
  |succ n ih=>
   intro a t;simp only[Uj,VC,dA,ih,VP];cases t with
   |nil=>simp
   |cons c t=>simp[YH 1]
 have d:∀(s:List Nat) (a:List At) (t:List Nat),dA (s.map .d++a) t=dA a (t.drop s.length):=λs=>by
  induction s with
  |nil=>intro a t;simp
  |cons c s ih=>intro a t;simp[dA,ih,YH 1]
 have p:∀(s:List Nat) (a:List At) (t:List Nat),dA (s.map .p++a) t=s++dA a t:=λs=>by
  induction s with
  |nil=>intro a t;simp
  |cons c s ih=>intro a t;simp[dA,ih]
 intro c;induction c with
 |nil=>intro t;rfl
 |cons q c ih=>
  intro t;rw[vm];cases q with
  |keep n=>simp only[Pt.gD,k,aM,ih]
  |drop s=>simp only[Pt.gD,d,aM,ih]
  |put s=>simp only[Pt.gD,p,aM,ih]
end Pv
namespace Pv
open Ev (D aU aR TY BI ME T E Es Eo It S Ss Fn big deep b2i rep bE dg bz aN cut bO bu slots)
noncomputable def D8(rG:Nat)(pD:Nat):S:=.iff (.cmp .ne (.cl rG (.cons (.v 0) .nil)) (.cl pD (.cons (.v 1) .nil))) (.cons (.eO 0) .nil) .nil
noncomputable def D9(dQ:Nat):S:=.set 2 (.je (.rev (.cl dQ (.cons (.v 0) .nil))))
noncomputable def Ea(dQ:Nat):S:=.set 3 (.je (.rev (.cl dQ (.cons (.v 1) .nil))))
noncomputable def Eb:S:=.set 4 (.lst .nil)
noncomputable def Ec(bI:Nat)(qo:Nat)(ju:Nat):Ss:=(.cons (.iff (.an (.v 2) (.cmp .eq (.ix (.ix (.v 2) (.neg (.c (.int 1)))) (.c (.int 0))) (.c (.str [100,114,111,112])))) (.cons (.exp (.me .append (.v 4) (.cons (.me .pop (.v 2) .nil) .nil))) .nil) (.cons (.iff (.an (.v 3) (.cmp .eq (.ix (.ix (.v 3) (.neg (.c (.int 1)))) (.c (.int 0))) (.c (.str [112,117,116])))) (.cons (.exp (.me .append (.v 4) (.cons (.me .pop (.v 3) .nil) .nil))) .nil) (.cons (.set 5 (.bi .min (.cons (.cl bI (.cons (.ix (.v 2) (.neg (.c (.int 1)))) .nil)) (.cons (.cl bI (.cons (.ix (.v 3) (.neg (.c (.int 1)))) .nil)) .nil)))) (.cons (.exp (.me .extend (.v 4) (.cons (.cl qo (.cons (.cl ju (.cons (.v 2) (.cons (.v 5) .nil))) (.cons (.cl ju (.cons (.v 3) (.cons (.v 5) .nil))) .nil))) .nil))) .nil))) .nil)) .nil)
noncomputable def Ed(bI:Nat)(qo:Nat)(ju:Nat):S:=.mD (.orr (.v 2) (.v 3)) (Ec bI qo ju)
noncomputable def Ef(dQ:Nat):S:=.ret (.cl dQ (.cons (.jN (.v 4)) .nil))
noncomputable def BK(rG:Nat)(pD:Nat)(dQ:Nat)(bI:Nat)(qo:Nat)(ju:Nat):Fn:=⟨2,6,(.cons (D8 rG pD) (.cons (D9 dQ) (.cons (Ea dQ) (.cons Eb (.cons (Ed bI qo ju) (.cons (Ef dQ) .nil))))))⟩
noncomputable def Ik:S:=.iff (.cmp .eq (.ix (.v 1) (.c (.int 0))) (.c (.str [107,101,101,112]))) (.cons (.ret (.lst (.cons (.v 0) .nil))) .nil) .nil
noncomputable def Il:S:=.iff (.cmp .eq (.ix (.v 0) (.c (.int 0))) (.c (.str [107,101,101,112]))) (.cons (.ret (.lst (.cons (.v 1) .nil))) .nil) .nil
noncomputable def Im:S:=.iff (.cmp .ne (.ix (.v 0) (.c (.int 1))) (.ix (.v 1) (.c (.int 1)))) (.cons (.eO 0) .nil) .nil
noncomputable def Io:S:=.ret (.lst .nil)
noncomputable def qp:Fn:=⟨2,2,(.cons Ik (.cons Il (.cons Im (.cons Io .nil))))⟩
noncomputable def BL(pF:Nat):S:=.set 2 (.cl pF (.cons (.me .pop (.v 0) .nil) (.cons (.v 1) .nil)))
noncomputable def BN(bI:Nat):S:=.iff (.cmp .gt (.cl bI (.cons (.ix (.v 2) (.c (.int 1))) .nil)) (.c (.int 0))) (.cons (.exp (.me .append (.v 0) (.cons (.ix (.v 2) (.c (.int 1))) .nil))) .nil) .nil
noncomputable def BO:S:=.ret (.ix (.v 2) (.c (.int 0)))
noncomputable def jw(pF:Nat)(bI:Nat):Fn:=⟨2,3,(.cons (BL pF) (.cons (BN bI) (.cons BO .nil)))⟩
noncomputable def zw:S:=.set 2 (.ix (.v 0) (.c (.int 0)))
noncomputable def zx:S:=.iff (.cmp .eq (.v 2) (.c (.str [107,101,101,112]))) (.cons (.ret (.tup (.cons (.tup (.cons (.v 2) (.cons (.v 1) .nil))) (.cons (.tup (.cons (.v 2) (.cons (.bin .sub (.ix (.v 0) (.c (.int 1))) (.v 1)) .nil))) .nil)))) .nil) .nil
noncomputable def zy:S:=.ret (.tup (.cons (.tup (.cons (.v 2) (.cons (.sl (.ix (.v 0) (.c (.int 1))) .no (.yes (.v 1))) .nil))) (.cons (.tup (.cons (.v 2) (.cons (.sl (.ix (.v 0) (.c (.int 1))) (.yes (.v 1)) .no) .nil))) .nil)))
noncomputable def iL:Fn:=⟨2,3,(.cons zw (.cons zx (.cons zy .nil)))⟩
def OA{α:Type}(l:List α)(m:Nat):cut l none (some (m:Int))=l.take m:=by
 have h1:¬ (m:Int)<0:=by omega
 simp only[cut,aN,h1,Wb,Wh,Xx,Nat.sub_zero];by_cases h:m<=l.length
 .rw[Xk h]
 .rw[X5 (by omega),VT (vn _),VT (by omega)]
def OB{α:Type}(l:List α)(m:Nat):cut l (some (m:Int)) none=l.drop m:=by
 have h1:¬ (m:Int)<0:=by omega
 simp only[cut,aN,h1,Wb,Wh];by_cases h:m<=l.length
 .rw[Xk h,VT (by simp)]
 .rw[X5 (by omega),WN (vn _),WN (by omega)];simp
section
variable{F:List Fn}{w n i:Nat}
def Eg(hf:F[i]?=some Mr)(c:List Pt)(t:List Nat)(h1:tot c<=10000)(h2:t.length<=10000)(h:br c t=true):run F w (n+1) i [.val (bM c),.val (.str t)]=some (.str (aM c t),[]):=by
 refine bN hf rfl ?_;refine aj (aX (by repeat array_get_dec) rfl rfl ?_);refine aj (aX (by repeat array_get_dec) rfl rfl ?_);refine aj (iO (vs:=c.map Pt.v) (cV (dz rfl) rfl) ?_);have dl:=jI c t;refine fu (e:=Pt.v) (λp l fr=>p++l=c/\aC p<=t.length/\br l (t.drop (aC p))=true/\∃f a b,f++aM l (t.drop (aC p))=aM c t/\vo a/\vo b/\fr=[some (.val (bM c)),some (.val (.str t)),some (.val (.int (aC p))),some (.val (.str f)),a,b]) (λp x l fr ⟨hpl,Ql,hfit,f,a,b,hd,ha,hb,hfr⟩=>?_) (λp fr ⟨hpl,Ql,hfit,f,a,b,hd,ha,hb,hfr⟩=>?_) c [] _ ⟨rfl,by simp[aC,tot],by simpa[aC,tot]using h,[],none,none,by simp[aC,tot],.none,.none,rfl⟩
 .subst hfr;have gz:(p++[x])++l=c:=by simpa using hpl
  have lf:=Vw List.length hd;rw[Qn]at lf;cases x with
  |put s=>
   have e2:aC (p++[.put s])=aC p:=by rw[gq,lB];simp[aC,tot]
   have ad:=uQ (a:=f) (b:=s) (by simp[aM]at lf;omega);refine di (gH rfl ha rfl hb) (aj (aV (by repeat array_get_dec) (λ_=>?_) λh=>absurd h (by decide)));refine aj (aX (by repeat array_get_dec) rfl rfl (aQ (aQ ?_)));rw[eG,e2];exact⟨gz,Ql,hfit,f++s,_,_,by simpa[aM]using hd,.val,.val,rfl⟩
  |drop s=>
   simp only[br,gV]at hfit;have e2:aC (p++[.drop s])=aC p+s.length:=by rw[gq,nQ];simp[aC,tot]
   have e3:((aC (p++[.drop s]):Nat):Int)=(aC p:Int)+(s.length:Nat):=by rw[e2];simp
   have hs:=hfit.1;rw[pre_take]at hs;have hs:=VV hs;have hl:s.length<=(t.drop (aC p)).length:=by have:=Vw List.length hs;simp at this ⊢;omega
   have hl2:aC p+s.length<=t.length:=by simp at hl;omega
   have ln:dO .len [.str s]=some (.int (s.length:Nat)):=WA (by omega);have cu:fN (.str t) (some (aC p:Int)) (some ((aC p:Int)+(s.length:Nat)))=some (.str s):=by rw[kH,iV,hs]
   refine di (gH rfl ha rfl hb) (aj (aV (by repeat array_get_dec) (λh=>absurd h (by decide)) λ_=>?_));refine aj (aV (by repeat array_get_dec) (λ_=>?_) λh=>absurd h (by decide));refine aj (aV (by repeat array_get_dec) (λh=>?_) λ_=>aQ ?_)
   .simp at h
   .refine aj (aX (by repeat array_get_dec) rfl rfl (aQ (aQ (aQ ?_))));rw[eG];refine⟨gz,by omega,?_,f,_,_,?_,.val,.val,by rw[e3];rfl⟩
    .rw[e2,<-VP];exact hfit.2
    .rw[e2,<-VP];simpa[aM]using hd
  |keep k=>
   simp only[br,gV,W9]at hfit;have e2:aC (p++[.keep k])=aC p+k:=by rw[gq,lA];simp[aC,tot]
   have e3:((aC (p++[.keep k]):Nat):Int)=(aC p:Int)+(k:Nat):=by rw[e2];simp
   have hl2:aC p+k<=t.length:=by have:=hfit.1;simp at this;omega
   have cu:fN (.str t) (some (aC p:Int)) (some ((aC p:Int)+(k:Nat)))=some (.str ((t.drop (aC p)).take k)):=by rw[kH,iV]
   have ad:=uQ (a:=f) (b:=(t.drop (aC p)).take k) (by simp[aM]at lf ⊢;omega);refine di (gH rfl ha rfl hb) (aj (aV (by repeat array_get_dec) (λh=>absurd h (by decide)) λ_=>?_));refine aj (aV (by repeat array_get_dec) (λh=>absurd h (by decide)) λ_=>?_);refine aj (aX (by repeat array_get_dec) rfl rfl ?_);refine aj (aX (by repeat array_get_dec) rfl rfl (aQ (aQ (aQ ?_))));rw[eG];refine⟨gz,by omega,?_,f++(t.drop (aC p)).take k,_,_,?_,.val,.val,by rw[e3];rfl⟩
   .rw[e2,<-VP];exact hfit.2
   .rw[e2,<-VP];simpa[aM]using hd
 .subst hfr;simp at hpl;subst hpl;have hd':f=aM p t:=by simpa[aM]using hd
  subst hd';have e0:=rE h;have ln:dO .len [.str t]=some (.int (t.length:Nat)):=WA (by omega);have eq:cop .eq (.int (aC p)) (.int (t.length:Nat))=some true:=by rw[fM,e0];simp
  have sh:fc [some (.val (bM p)),some (.val (.str t)),some (.val (.int (aC p))),some (.val (.str (aM p t))),a,b]=[some (.val (bM p)),some (.val (.str t)),some (.val (.int (aC p))),some (.val (.str (aM p t))),a,b]:=by
   show _ :: _ :: _ :: _ :: a.map Sl.cj :: [b.map Sl.cj]=_;rw[b5 ha,b5 hb];rfl
  refine aj (cK (v:=.str (aM p t)) (af:=[some (.val (bM p)),some (.val (.str t)),some (.val (.int (aC p))),some (.val (.str (aM p t))),a,b]) ?_ ⟨rfl,rfl⟩);rw[sh];exact iN (b:=true) (aK rfl (by repeat array_get_dec) rfl) (λ_=>au rfl) λh=>absurd h (by decide)
noncomputable def Ch:List Nat->List (List Pt)->Prop
 |_,[]=>True
 |t,c :: rs=>br c t=true/\Ch (aM c t) rs
noncomputable def dj(t:List Nat)(rs:List (List Pt)):List Nat:=rs.foldl (λs c=>aM c s) t
noncomputable def dI(rs:List (List Pt)):Nat:=(rs.map tot).sum
def Ip(t:List Nat)(p q:List (List Pt)):dj t (p++q)=dj (dj t p) q:=by simp[dj]
theorem qq{t:List Nat}:∀{p q:List (List Pt)},Ch t (p++q)↔Ch t p/\Ch (dj t p) q
 |[],q=>⟨λh=>⟨trivial,h⟩,λh=>h.2⟩
 |c :: p,q=>by
  show(br c t=true/\Ch (aM c t) (p++q))↔(br c t=true/\Ch (aM c t) p)/\Ch (dj (aM c t) p) q;rw[qq,and_assoc]
end
noncomputable def scan:List Nat->List (List Pt)->List (List Nat)
 |t,[]=>[t]
 |t,c :: rs=>t :: scan (aM c t) rs
end Pv
namespace Pv
open Ev (deep big rep cut bz)
theorem qs:∀(a b:List At) (t:List Nat),dA (a++b) t=dA a (t.take (aA a).length)++dA b (t.drop (aA a).length)
 |[],b,t=>by simp[dA,aA]
 |.k :: a,b,t=>by
  simp only[VC,dA,aA,V7,qs a b];cases t with
  |nil=>simp
  |cons c t=>simp
 |.d c :: a,b,t=>by
  simp only[VC,dA,aA,V7,qs a b];cases t with
  |nil=>simp
  |cons c t=>simp
 |.p c :: a,b,t=>by simp only[VC,dA,aA,qs a b]
section
variable{c:List Pt}
def Mu(c:List Pt):aC c=(aA (gD c)).length:=by rw[<-D7,DM]
end
end Pv
namespace Pv
open Ev (D aU aR TY BI ME T E Es Eo It S Ss Fn big deep rep cut bz)
noncomputable def zz(dQ:Nat):S:=.ret (.cl dQ (.cons (.bin .add (.v 0) (.v 1)) .nil))
noncomputable def Eh(dQ:Nat):Fn:=⟨2,2,(.cons (zz dQ) .nil)⟩
noncomputable def BP(lC:Nat)(jU:Nat):S:=.ret (.cl lC (.cons (.cl lC (.cons (.cl jU (.cons (.v 0) .nil)) (.cons (.v 1) .nil))) (.cons (.cl jU (.cons (.v 2) .nil)) .nil)))
noncomputable def Iq(lC:Nat)(jU:Nat):Fn:=⟨3,3,(.cons (BP lC jU) .nil)⟩
abbrev Row:=List Nat×List Pt
noncomputable def aT(r:Row):V:=.tup [.str r.1,bM r.2]
noncomputable def bK(rs:List Row):List (List Pt):=rs.map Prod.snd
def nR(a b:List Row):bK (a++b)=bK a++bK b:=Uy
def BQ(K:List Row)(r:Row):dI (bK (K++[r]))=dI (bK K)+tot r.2:=by simp[dI,bK]
def lD(t:List Nat)(K:List Row)(r:Row):dj t (bK (K++[r]))=aM r.2 (dj t (bK K)):=by rw[nR,Ip];rfl
def Ir{t:List Nat}{K:List Row}{r:Row}:Ch t (bK (K++[r]))↔Ch t (bK K)/\br r.2 (dj t (bK K))=true:=by
 rw[nR,qq];exact⟨λh=>⟨h.1,h.2.1⟩,λh=>⟨h.1,h.2,trivial⟩⟩
noncomputable def sV:S:=.ret (.an (.cmp .gt (.bi .len (.cons (.v 0) .nil)) (.c (.int 0))) (.cmp .eq (.ix (.ix (.v 0) (.neg (.c (.int 1)))) (.c (.int 0))) (.c (.str [112,117,116]))))
noncomputable def vQ:Fn:=⟨1,1,(.cons sV .nil)⟩
noncomputable def pS:List At->List Nat
 |[]=>[]
 |.p c :: a=>c :: pS a
 |_ :: a=>pS a
end Pv
namespace Pv
end Pv
namespace Pv
open Ev (D aU aR TY BI ME T E Es Eo It S Ss Fn big deep rep cut bz)
noncomputable def kp(g:Nat->Bool):Nat->List (List Nat)->List Nat
 |_,[]=>[]
 |i,y :: a=>if decide (y=[])&&g i then i :: kp g (i+1) a else kp g (i+1) a
section
noncomputable def ou(c:List Pt)(x:List Nat):Option (List Nat):=if br c x=true then some (aM c x)else none
end
end Pv
namespace Pv
open Ev (D aU aR TY BI ME T E Es Eo It S Ss Fn big deep b2i rep bE dg bz aN cut bO bu slots)
noncomputable def mk(x:List Nat)(l:List Pt)(k:Nat)(f:List Nat):Option (List Nat):=if k<=x.length/\br l (x.drop k)=true then some (f++aM l (x.drop k))else none
end Pv
namespace Pv
open Ev (D aU aR TY BI ME T E Es Eo It S Ss Fn)
section
variable{F:List Fn}{w n aP ee i:Nat}
def BR(hs:F[aP]?=some fG)(hf:F[ee]?=some (ql aP))(hd:F[i]?=some (vg ee))(c:List Pt)(t:List Nat)(h1:tot c<=10000)(h2:t.length<=10000)(h:br c t=false):bS F w (n+3) i [.val (bM c),.val (.str t)]=some 0:=by
 have r:=vh (w:=w) (n:=n) hs hf c t h1 h2;rw[h]at r;refine qk hd rfl (jH (dF F w (n+2)) (Oq (b:=true) (zk (aK rfl (bV (aE rfl (au rfl) (aE rfl (au rfl) aO)) (call2 r)) rfl)) ?_));rw[cS rfl];exact jH (dF F w (n+2)) Ot
end
section
variable{P:aF}{X:cF}{w c:Nat}{fr af:Fr}{t:T}{it:It}{b:Ss}{vs:List V}{d:V}
noncomputable def lE(P:aF)(X:cF)(w:Nat)(t:T)(b:Ss):V->Fr->Option Nat:=λd aq=>match bw t d aq with
 |some bf=>xss P X w b bf
 |none=>none
def OC(h:dD P false it (iM (itv it) fr)=.ok vs af)(q:cX (turnF P w t b) (lE P X w t b) vs af=some c):xs P X w (.for t it b) fr=some c:=by
 simp only[xs,h];exact q
def Iu(h:Wp (turnF P w t b d fr) (fl (λaf=>cX (turnF P w t b) (lE P X w t b) vs af=some c) (λ_=>False) λ_ _=>False)):cX (turnF P w t b) (lE P X w t b) (d :: vs) fr=some c:=by
 obtain⟨g,af,e,q⟩:=h;simp only[cX,e];cases g with
 |nx=>exact q
 |ct=>exact q
 |bk=>exact q.elim
 |ret v=>exact q.elim
def Iv(hX:∀f sl c,X f sl=some c->P f sl=none)(hb:bw t d fr=some af)(h:xss P X w b af=some c):cX (turnF P w t b) (lE P X w t b) (d :: vs) fr=some c:=by
 have e:turnF P w t b d fr=.bad:=by unfold turnF;rw[hb];exact dw hX b h
 have e2:lE P X w t b d fr=some c:=by unfold lE;rw[hb];exact h
 simp only[cX,e];exact e2
end
end Pv
namespace Pv
open Ev (D aU aR TY BI ME T E Es Eo It S Ss Fn big deep b2i rep bE dg bz aN cut bO bu slots)
end Pv
namespace Pv
end Pv
namespace Pv
open Ev (D aU aR TY BI ME T E Es Eo It S Ss Fn big deep b2i rep bE dg bz aN cut bO bu slots)
end Pv
namespace Pv
open Ev (D aU aR TY BI ME T E Es Eo It S Ss Fn)
section
variable{P:aF}{X:cF}{c:Nat}{fr:Fr}{e:E}{es:Es}
def yc(hX:∀f sl c,X f sl=some c->P f sl=none)(hi:fQ fr e=none)(h:xe P X e fr=some c):oE P X (.cons e es) fr=some c:=by simp only[oE,hi,(eB hX e h).1];exact h
end
noncomputable def bare(A:List (List Nat)):List Nat:=(List.range A.length).filter λj=>decide (A.getD j [0]=[])
end Pv
namespace Pv
open Ev (deep big rep cut bz E Es Eo It T S Ss Fn)
noncomputable def b6{α:Type}(pu:List Nat->List α):List Pt->List α->List α
 |[],_=>[]
 |.put s :: c,st=>pu s++b6 pu c st
 |.keep k :: c,st=>st.take k++b6 pu c (st.drop k)
 |.drop s :: c,st=>b6 pu c (st.drop s.length)
noncomputable def cJ{α:Type}:List Pt->List α->List α
 |[],_=>[]
 |.put _ :: c,st=>cJ c st
 |.keep k :: c,st=>cJ c (st.drop k)
 |.drop s :: c,st=>st.take s.length++cJ c (st.drop s.length)
theorem kJ{α:Type}{pu:List Nat->List α}(q:List Pt):∀(p:List Pt) (st:List α),b6 pu (p++q) st=b6 pu p st++b6 pu q (st.drop (aC p))
 |[],st=>by simp[b6,aC,tot]
 |.put s :: p,st=>by simp only[VC,b6,kJ q p,lB,VN]
 |.keep k :: p,st=>by simp only[VC,b6,kJ q p,lA,VN,VP]
 |.drop s :: p,st=>by simp only[VC,b6,kJ q p,nQ,VP]
theorem kK{α:Type}(q:List Pt):∀(p:List Pt) (st:List α),cJ (p++q) st=cJ p st++cJ q (st.drop (aC p))
 |[],st=>by simp[cJ,aC,tot]
 |.put s :: p,st=>by simp only[VC,cJ,kK q p,lB]
 |.keep k :: p,st=>by simp only[VC,cJ,kK q p,lA,VP]
 |.drop s :: p,st=>by simp only[VC,cJ,kK q p,nQ,VN,VP]
theorem kL{α β:Type}{pu:List Nat->List α}(f:α->β):∀(c:List Pt) (st:List α),(b6 pu c st).map f=b6 (λs=>(pu s).map f) c (st.map f)
 |[],st=>rfl
 |.put s :: p,st=>by simp only[b6,Uy,kL f p]
 |.keep k :: p,st=>by simp only[b6,Uy,kL f p,WU,Wu]
 |.drop s :: p,st=>by simp only[b6,kL f p,Wu]
theorem nS{α β:Type}(f:α->β):∀(c:List Pt) (st:List α),(cJ c st).map f=cJ c (st.map f)
 |[],st=>rfl
 |.put s :: p,st=>by simp only[cJ,nS f p]
 |.keep k :: p,st=>by simp only[cJ,nS f p,Wu]
 |.drop s :: p,st=>by simp only[cJ,Uy,nS f p,WU,Wu]
theorem ni{α:Type}{pu:List Nat->List α}(hp:∀s,(pu s).length=s.length):∀(c:List Pt) (st:List α),(b6 pu c st).length<=tot c
 |[],st=>by simp[b6]
 |.put s :: p,st=>by have:=ni hp p st;simp only[b6,Qn,hp,eF,Pt.n];omega
 |.keep k :: p,st=>by have:=ni hp p (st.drop k);simp only[b6,Qn,VM,eF,Pt.n];omega
 |.drop s :: p,st=>by have:=ni hp p (st.drop s.length);simp only[b6,eF,Pt.n];omega
theorem jJ{α:Type}:∀(c:List Pt) (st:List α),(cJ c st).length<=tot c
 |[],st=>by simp[cJ]
 |.put s :: p,st=>by have:=jJ p st;simp only[cJ,eF,Pt.n];omega
 |.keep k :: p,st=>by have:=jJ p (st.drop k);simp only[cJ,eF,Pt.n];omega
 |.drop s :: p,st=>by have:=jJ p (st.drop s.length);simp only[cJ,Qn,VM,eF,Pt.n];omega
theorem lG{α:Type}{pu:List Nat->List α}(hp:∀s,(pu s).length=s.length):∀(c:List Pt) (st:List α) (t:List Nat),st.length=t.length->(b6 pu c st).length=(aM c t).length
 |[],st,t,h=>rfl
 |.put s :: p,st,t,h=>by simp only[b6,aM,Qn,hp,lG hp p st t h]
 |.keep k :: p,st,t,h=>by simp only[b6,aM,Qn,VM,h,lG hp p (st.drop k) (t.drop k) (by simp[h])]
 |.drop s :: p,st,t,h=>by simp only[b6,aM,lG hp p (st.drop s.length) (t.drop s.length) (by simp[h])]
noncomputable def cB{α:Type}(pu:List Nat->List Nat->List α):List Row->List α->List α
 |[],st=>st
 |r :: rs,st=>cB pu rs (b6 (pu r.1) r.2 st)
noncomputable def cY{α:Type}(pu:List Nat->List Nat->List α):List Row->List α->List α
 |[],_=>[]
 |r :: rs,st=>cJ r.2 st++cY pu rs (b6 (pu r.1) r.2 st)
theorem pG{α:Type}{pu:List Nat->List Nat->List α}(r:Row):∀(p:List Row) (st:List α),cB pu (p++[r]) st=b6 (pu r.1) r.2 (cB pu p st)
 |[],st=>rfl
 |q :: p,st=>pG r p _
theorem pH{α:Type}{pu:List Nat->List Nat->List α}(r:Row):∀(p:List Row) (st:List α),cY pu (p++[r]) st=cY pu p st++cJ r.2 (cB pu p st)
 |[],st=>by simp[cY,cB]
 |q :: p,st=>by simp only[VC,cY,cB,pH r p,VN]
theorem yd{α β:Type}{pu:List Nat->List Nat->List α}(f:α->β):∀(p:List Row) (st:List α),(cB pu p st).map f=cB (λo s=>(pu o s).map f) p (st.map f)
 |[],st=>rfl
 |q :: p,st=>by simp only[cB,yd f p,kL f]
theorem ye{α β:Type}{pu:List Nat->List Nat->List α}(f:α->β):∀(p:List Row) (st:List α),(cY pu p st).map f=cY (λo s=>(pu o s).map f) p (st.map f)
 |[],st=>rfl
 |q :: p,st=>by simp only[cY,Uy,ye f p,kL f,nS f]
theorem nT{α:Type}{pu:List Nat->List Nat->List α}(hp:∀o s,(pu o s).length=s.length):∀(p:List Row) (st:List α) (t:List Nat),st.length=t.length->(cB pu p st).length=(dj t (bK p)).length
 |[],st,t,h=>h
 |r :: p,st,t,h=>nT hp p _ _ (lG (hp r.1) r.2 st t h)
theorem nj{α:Type}{pu:List Nat->List Nat->List α}:∀(p:List Row) (st:List α),(cY pu p st).length<=dI (bK p)
 |[],st=>by simp[cY]
 |r :: p,st=>by
  have h1:=jJ r.2 st;have h2:=nj (pu:=pu) p (b6 (pu r.1) r.2 st);have h3:dI (bK (r :: p))=tot r.2+dI (bK p):=by simp[dI,bK]
  simp only[cY,Qn];omega
abbrev Ow:=Option (List Nat)
noncomputable def Ow.v:Ow->V
 |none=>.aG
 |some s=>.str s
noncomputable def bR(o s:List Nat):List Ow:=s.map λ_=>some o
noncomputable def bL(t:List Nat):List Ow:=t.map λ_=>none
theorem qt:∀(rs:List (List Pt)) (t:List Nat),(dj t rs).length<=t.length+dI rs
 |[],t=>by simp[dj,dI]
 |c :: rs,t=>by
  have h1:=jI c t;have h2:=qt rs (aM c t);have h3:dI (c :: rs)=tot c+dI rs:=by simp[dI]
  have h4:dj t (c :: rs)=dj (aM c t) rs:=rfl;rw[h3,h4];omega
structure jg(t:List Nat)(rs:List Row):Prop where
 ch:Ch t (bK rs)
 ln:∀r∈rs,r.2.length<=900
 tt:t.length+dI (bK rs)<=900
theorem jg.at{t:List Nat}{rs p l:List Row}{r:Row}(h:jg t rs)(e:p++r :: l=rs):br r.2 (dj t (bK p))=true/\r.2.length<=900/\tot r.2<=900/\(dj t (bK p)).length<=900/\dI (bK p)+tot r.2<=900:=by
 have h1:=h.ch;have h2:=h.tt;have h3:=qt (bK p) t;rw[<-e,nR]at h1 h2;have h4:dI (bK p++bK (r :: l))=dI (bK p)+(tot r.2+dI (bK l)):=by simp[dI,bK]
 rw[h4]at h2;exact⟨((qq.mp h1).2).1,h.ln r (by rw[<-e];simp),by omega,by omega,by omega⟩
noncomputable def qu:S:=.set 3 (.lst .nil)
noncomputable def qv:S:=.set 4 (.lst .nil)
noncomputable def qw:S:=.set 5 (.c (.int 0))
noncomputable def qx(bI:Nat):Ss:=(.cons (.iff (.cmp .eq (.ix (.v 6) (.c (.int 0))) (.c (.str [112,117,116]))) (.cons (.exp (.me .extend (.v 3) (.cons (.comp (.v 1) (.one 8) (.seq (.ix (.v 6) (.c (.int 1)))) .no) .nil))) (.cons (.cnt) .nil)) .nil) (.cons (.set 7 (.sl (.v 0) (.yes (.v 5)) (.yes (.bin .add (.v 5) (.cl bI (.cons (.v 6) .nil)))))) (.cons (.set 5 (.bin .add (.v 5) (.cl bI (.cons (.v 6) .nil)))) (.cons (.iff (.cmp .eq (.ix (.v 6) (.c (.int 0))) (.c (.str [107,101,101,112]))) (.cons (.exp (.me .extend (.v 3) (.cons (.v 7) .nil))) .nil) (.cons (.exp (.me .extend (.v 4) (.cons (.v 7) .nil))) .nil)) .nil))))
noncomputable def qy(bI:Nat):S:=.for (.one 6) (.seq (.v 2)) (qx bI)
noncomputable def qz:S:=.ret (.tup (.cons (.v 3) (.cons (.v 4) .nil)))
noncomputable def lQ(bI:Nat):Fn:=⟨3,9,(.cons qu (.cons qv (.cons qw (.cons (qy bI) (.cons qz .nil)))))⟩
noncomputable def zB:S:=.set 2 (.v 0)
noncomputable def zC:S:=.set 3 (.comp (.c (.aG)) (.one 8) (.seq (.v 0)) .no)
noncomputable def zD:S:=.set 4 (.lst .nil)
noncomputable def jq(nu:Nat)(fJ:Nat):Ss:=(.cons (.set 2 (.cl nu (.cons (.v 6) (.cons (.v 2) .nil)))) (.cons (.set 7 (.cl fJ (.cons (.v 3) (.cons (.v 5) (.cons (.v 6) .nil))))) (.cons (.set 3 (.ix (.v 7) (.c (.int 0)))) (.cons (.exp (.me .extend (.v 4) (.cons (.ix (.v 7) (.c (.int 1))) .nil))) .nil))))
noncomputable def zE(nu:Nat)(fJ:Nat):S:=.for (.many [5,6]) (.seq (.v 1)) (jq nu fJ)
noncomputable def zF:S:=.ret (.tup (.cons (.v 3) (.cons (.v 4) .nil)))
noncomputable def Ej(nu:Nat)(fJ:Nat):Fn:=⟨2,9,(.cons zB (.cons zC (.cons zD (.cons (zE nu fJ) (.cons zF .nil)))))⟩
noncomputable def vR:S:=.set 1 (.comp (.v 2) (.one 2) (.seq (.v 0)) (.yes (.cmp .jX (.v 2) (.c (.aG)))))
noncomputable def vS:S:=.ret (.comp (.tup (.cons (.v 3) (.cons (.me .count (.v 1) (.cons (.v 3) .nil)) .nil))) (.one 3) (.seq (.bi .jM (.cons (.v 1) .nil))) .no)
noncomputable def BS:Fn:=⟨1,4,(.cons vR (.cons vS .nil))⟩
def zG(a b:Nat):Pv.bH .add (.int (a:Int)) (.int (b:Int))=some (.int ((a+b:Nat):Int)):=by rw[aZ];congr 2
section
variable{F:List Fn}{aP ee gE jK i w n:Nat}
noncomputable def oG(st:List Ow)(o:List Nat)(c p:List Pt)(x y:Option Sl):Fr:=[some (.val (.lst (st.map Ow.v))),some (.val (.str o)),some (.val (bM c)),some (.own ((b6 (bR o) p st).map Ow.v)),some (.own ((cJ p st).map Ow.v)),some (.val (.int (aC p:Nat))),x,y,none]
def Ek(hs:F[aP]?=some fG)(hi:F[i]?=some (lQ aP)){st:List Ow}{o:List Nat}{c:List Pt}{t:List Nat}(h:br c t=true)(hst:st.length=t.length)(b1:tot c<=900)(b2:t.length<=900) :
  run F w (n+6) i [.val (.lst (st.map Ow.v)),.val (.str o),.val (bM c)]=some (.tup [.lst ((b6 (bR o) c st).map Ow.v),.lst ((cJ c st).map Ow.v)],[]):=by
 have bc:=rE h;have hp:∀s:List Nat,(bR o s).length=s.length:=λs=>by simp[bR]
 refine bN hi rfl ?_;refine aj (gA (l:=[]) (cR az fS) rfl rfl ?_);refine aj (gA (l:=[]) (cR az fS) rfl rfl ?_);refine aj (aX (aD rfl) rfl rfl ?_);refine aj (iO (vs:=c.map Pt.v) (cV (dz rfl) rfl) ?_);refine fu (e:=Pt.v) (λp l fr=>p++l=c/\∃x y,vo x/\vo y/\fr=oG st o c p x y) (λp q l fr ⟨hpl,x,y,hx,hy,hfr⟩=>?_) (λp fr ⟨hpl,x,y,hx,hy,hfr⟩=>?_) c [] _ ⟨rfl,none,none,.none,.none,rfl⟩
 .subst hfr;have gz:(p++[q])++l=c:=by simpa using hpl
  have e1:aC p+(aC [q]+aC l)=aC c:=by rw[<-gz,gq,gq];omega
  have e2:tot p+(q.n+tot l)=tot c:=by rw[<-hpl,gn,eF]
  have e3:tot (p++[q])=tot p+q.n:=by rw[gn];simp[tot]
  have lt:=ni hp p st;have lg:=jJ p st;have sz:=λfr=>nN (fr:=fr) (vc (F:=F) (i:=aP) (w:=w) (n:=n+4) hs q (by omega));have la:=kJ (pu:=bR o) [q] p st;have ga:=kK [q] p st;have ba:=gq p [q];refine di (af:=oG st o c p (some (.val q.v)) y) (bind1 rfl hx) ?_;cases q with
  |put s=>
   have bq:aC (p++[.put s])=aC p:=by rw[ba];simp[aC,tot,iE]
   have mk:=b9 (x:=s.map λ_=>V.str o) (bD (by simp[Pt.n]at e2 ⊢;omega));have cm:b7 (gm (run F w (n+5)) (.v 1) (.one 8) .no (oG st o c p (some (.val (Pt.put s).v)) y)) (s.map λd=>V.str [d])=some (s.map λ_=>V.str o):=er (λd=>V.str [d]) (λ_=>V.str o) s λd _=>cH rfl (au rfl);refine aj (aV (b:=true) (aK rfl (bh (fy (au rfl) (aD rfl) rfl) (aD rfl) gy) rfl) (λ_=>?_) λh=>absurd h (by decide));refine aj (jR (lz rfl rfl (ak (dZ (cV (fy (au rfl) (aD rfl) rfl) rfl) rfl cm mk) az) (nO (by simp[Pt.n]at e2 ⊢;omega))) ?_);refine aj ⟨_,_,Mb,?_⟩;show(p++[Pt.put s])++l=c/\∃x y,vo x/\vo y/\_=oG st o c (p++[Pt.put s]) x y;refine⟨gz,some (.val (Pt.put s).v),y,.val,hy,?_⟩;unfold oG;rw[la,ga,bq];simp[b6,cJ,bR,Ow.v]
  |keep k=>
   have bq:aC (p++[.keep k])=aC p+k:=by rw[ba];simp[aC,tot,iE,Pt.n]
   have sl:fN (.lst (st.map Ow.v)) (some (aC p:Int)) (some ((aC p+k:Nat):Int))=some (.lst (((st.drop (aC p)).take k).map Ow.v)):=by
    have e:cut (st.map Ow.v) (some (aC p:Int)) (some ((aC p+k:Nat):Int))=((st.map Ow.v).drop (aC p)).take k:=iV _ (aC p) k;show dR (cut (st.map Ow.v) _ _)=_;rw[e,<-Wu,<-WU];exact b9 (bD (by simp;omega))
   refine aj (aV (b:=false) (aK rfl (bh (fy (au rfl) (aD rfl) rfl) (aD rfl) gy) rfl) (λh=>absurd h (by decide)) λ_=>aQ ?_);refine aj (aX (aq:=oG st o c p (some (.val (Pt.keep k).v)) (some (.val (.lst (((st.drop (aC p)).take k).map Ow.v))))) (m7 (au rfl) (fz (au rfl)) (fz (aH (au rfl) (bV (aE rfl (au rfl) aO) (sz _)) (zG (aC p) k))) sl) rfl (eE rfl hy) ?_);refine aj (aX (aH (au rfl) (bV (aE rfl (au rfl) aO) (sz _)) (zG (aC p) k)) rfl rfl ?_);refine aj (aV (b:=true) (aK rfl (bh (fy (au rfl) (aD rfl) rfl) (aD rfl) gy) rfl) (λ_=>?_) λh=>absurd h (by decide));refine aj (jR (lz rfl rfl (ak (au rfl) az) (nO (by simp;omega))) (aQ (aQ ?_)));rw[eG];refine⟨gz,some (.val (Pt.keep k).v),some (.val (.lst (((st.drop (aC p)).take k).map Ow.v))),.val,.val,?_⟩;unfold oG;rw[la,ga,bq,Uy];simp only[b6,cJ,Ux];rfl
  |drop s=>
   have bq:aC (p++[.drop s])=aC p+s.length:=by rw[ba];simp[aC,tot,iE,Pt.n]
   have sl:fN (.lst (st.map Ow.v)) (some (aC p:Int)) (some ((aC p+s.length:Nat):Int))=some (.lst (((st.drop (aC p)).take s.length).map Ow.v)):=by
    have e:cut (st.map Ow.v) (some (aC p:Int)) (some ((aC p+s.length:Nat):Int))=((st.map Ow.v).drop (aC p)).take s.length:=iV _ (aC p) s.length;show dR (cut (st.map Ow.v) _ _)=_;rw[e,<-Wu,<-WU];exact b9 (bD (by simp;omega))
   refine aj (aV (b:=false) (aK rfl (bh (fy (au rfl) (aD rfl) rfl) (aD rfl) gy) rfl) (λh=>absurd h (by decide)) λ_=>aQ ?_);refine aj (aX (aq:=oG st o c p (some (.val (Pt.drop s).v)) (some (.val (.lst (((st.drop (aC p)).take s.length).map Ow.v))))) (m7 (au rfl) (fz (au rfl)) (fz (aH (au rfl) (bV (aE rfl (au rfl) aO) (sz _)) (zG (aC p) s.length))) sl) rfl (eE rfl hy) ?_);refine aj (aX (aH (au rfl) (bV (aE rfl (au rfl) aO) (sz _)) (zG (aC p) s.length)) rfl rfl ?_);refine aj (aV (b:=false) (aK rfl (bh (fy (au rfl) (aD rfl) rfl) (aD rfl) gy) rfl) (λh=>absurd h (by decide)) λ_=>?_);refine aj (jR (lz rfl rfl (ak (au rfl) az) (nO (by simp;omega))) (aQ (aQ ?_)));rw[eG];refine⟨gz,some (.val (Pt.drop s).v),some (.val (.lst (((st.drop (aC p)).take s.length).map Ow.v))),.val,.val,?_⟩;unfold oG;rw[la,ga,bq,Uy];simp only[b6,cJ,Ux,Uy,YI];rfl
 .subst hfr;rw[Ux]at hpl;subst hpl;have sh:fc (oG st o p p x y)=[some (.val (.lst (st.map Ow.v))),some (.val (.str o)),some (.val (bM p)),some (.val (.lst ((b6 (bR o) p st).map Ow.v))),some (.val (.lst ((cJ p st).map Ow.v))),some (.val (.int (aC p:Nat))),x,y,none]:=by
   show [_,_,_,_,_,_,x.map Sl.cj,y.map Sl.cj,_]=_;rw[b5 hx,b5 hy];rfl
  refine aj (cK (af:=[some (.val (.lst (st.map Ow.v))),some (.val (.str o)),some (.val (bM p)),some (.val (.lst ((b6 (bR o) p st).map Ow.v))),some (.val (.lst ((cJ p st).map Ow.v))),some (.val (.int (aC p:Nat))),x,y,none]) ?_ ⟨rfl,rfl⟩);rw[sh];exact bA (ak (au rfl) (ak (au rfl) az)) cg
noncomputable def oH(t:List Nat)(rs p:List Row)(x y z:Option Sl):Fr:=[some (.val (.str t)),some (.val (.lst (rs.map aT))),some (.val (.str (dj t (bK p)))),some (.val (.lst ((cB bR p (bL t)).map Ow.v))),some (.own ((cY bR p (bL t)).map Ow.v)),x,y,z,none]
variable(hs:F[aP]?=some fG)(hf:F[ee]?=some (ql aP))(hd:F[gE]?=some (vg ee))(ho:F[jK]?=some (lQ aP))(hi:F[i]?=some (Ej gE jK))
include hs hf hd ho
theorem yf{t:List Nat}{rs p:List Row}{r:Row}{x y z:Option Sl}{Q:Fl->Fr->Prop}(h1:br r.2 (dj t (bK p))=true)(h2:r.2.length<=900)(h3:tot r.2<=900)(h4:(dj t (bK p)).length<=900)(h5:dI (bK p)+tot r.2<=900)(hx:vo x)(hy:vo y)(hz:vo z)
  (q:∀x y z,vo x->vo y->vo z->Q .nx (oH t rs (p++[r]) x y z)):Wp (turnF (run F w (n+6)) w (.many [5,6]) (jq gE jK) (aT r) (oH t rs p x y z)) Q:=by
 have D:=λfr=>call2 (fr:=fr) (D6 (F:=F) (aP:=aP) (ee:=ee) (i:=gE) (w:=w) (n:=n+3) hs hf hd r.2 (dj t (bK p)) (by omega) (by omega) (by omega) h1);have ol:=nT (pu:=bR) (λo s=>by simp[bR]) p (bL t) t (by simp[bL]);have gl:=nj (pu:=bR) p (bL t);have UJ:=jJ r.2 (cB bR p (bL t));have ro:=λfr=>cQ (fr:=fr) (Ek (w:=w) (n:=n) (o:=r.1) hs ho h1 ol (by omega) h4);refine di (af:=oH t rs p (some (.val (.str r.1))) (some (.val (bM r.2))) z) (gH rfl hx rfl hy) ?_;refine aj (aX (bV (aE rfl (au rfl) (aE rfl (au rfl) aO)) (D _)) rfl rfl ?_);refine aj (aX (bV (aE rfl (au rfl) (aE rfl (au rfl) (aE rfl (au rfl) aO))) (ro _)) rfl (eE rfl hz) ?_);refine aj (aX (fy (au rfl) (aD rfl) rfl) rfl rfl ?_);refine aj (jR (lz rfl rfl (ak (fy (au rfl) (aD rfl) rfl) az) (nO (by simp;omega))) (aQ ?_));have:=q (some (.val (.str r.1))) (some (.val (bM r.2))) _ .val .val (.val (v:=.tup [.lst ((b6 (bR r.1) r.2 (cB bR p (bL t))).map Ow.v),.lst ((cJ r.2 (cB bR p (bL t))).map Ow.v)]));unfold oH at this;rw[lD,pG,pH,Uy]at this;exact this
include hi
theorem zH{t:List Nat}{rs:List Row}(R:jg t rs):run F w (n+7) i [.val (.str t),.val (.lst (rs.map aT))]=some (.tup [.lst ((cB bR rs (bL t)).map Ow.v),.lst ((cY bR rs (bL t)).map Ow.v)],[]):=by
 have bt:=R.tt;have mk:=b9 (x:=t.map λ_=>V.aG) (bD (by simp;omega));refine bN hi rfl ?_;refine aj (aX (au rfl) rfl rfl ?_);refine aj (aX (dZ (cV (dz rfl) rfl) rfl (er (λd=>V.str [d]) (λ_=>V.aG) t λd _=>cH rfl (aD rfl)) mk) rfl rfl ?_);refine aj (gA (l:=[]) (cR az fS) rfl rfl ?_);refine aj (iO (vs:=rs.map aT) (cV (dz rfl) rfl) ?_);refine fu (e:=aT) (λp l fr=>p++l=rs/\∃x y z,vo x/\vo y/\vo z/\fr=oH t rs p x y z) (λp r l fr ⟨hpl,x,y,z,hx,hy,hz,hfr⟩=>?_) (λp fr ⟨hpl,x,y,z,hx,hy,hz,hfr⟩=>?_) rs [] _ ⟨rfl,none,none,none,.none,.none,.none,by unfold oH;simp[cB,cY,bL,Ow.v,dj,bK];rfl⟩
 .subst hfr;obtain⟨h1,h2,h3,h4,h5⟩:=R.at hpl;refine yf hs hf hd ho h1 h2 h3 h4 h5 hx hy hz λx y z hx hy hz=>?_;rw[eG];exact⟨by simpa using hpl,x,y,z,hx,hy,hz,rfl⟩
 .subst hfr;rw[Ux]at hpl;subst hpl;have sh:fc (oH t p p x y z)=[some (.val (.str t)),some (.val (.lst (p.map aT))),some (.val (.str (dj t (bK p)))),some (.val (.lst ((cB bR p (bL t)).map Ow.v))),some (.val (.lst ((cY bR p (bL t)).map Ow.v))),x,y,z,none]:=by
   show [_,_,_,_,_,x.map Sl.cj,y.map Sl.cj,z.map Sl.cj,_]=_;rw[b5 hx,b5 hy,b5 hz];rfl
  refine aj (cK (af:=[some (.val (.str t)),some (.val (.lst (p.map aT))),some (.val (.str (dj t (bK p)))),some (.val (.lst ((cB bR p (bL t)).map Ow.v))),some (.val (.lst ((cY bR p (bL t)).map Ow.v))),x,y,z,none]) ?_ ⟨rfl,rfl⟩);rw[sh];exact bA (ak (au rfl) (ak (au rfl) az)) cg
theorem vU{t:List Nat}{pre post:List Row}{b:Row}(R:jg t pre)(hb:br b.2 (dj t (bK pre))=false)(h3:tot b.2<=900):bS F w (n+7) i [.val (.str t),.val (.lst ((pre++b :: post).map aT))]=some 0:=by
 have bt:=R.tt;have mk:=b9 (x:=t.map λ_=>V.aG) (bD (by simp;omega));have hX:=dF F w (n+6);have bl:=qt (bK pre) t;have rX:=BR (F:=F) (aP:=aP) (ee:=ee) (i:=gE) (w:=w) (n:=n+3) hs hf hd b.2 (dj t (bK pre)) (by omega) (by omega) hb;have go:∀(l p:List Row) (x y z:Option Sl),p++l=pre->vo x->vo y->vo z->cX (turnF (run F w (n+6)) w (.many [5,6]) (jq gE jK)) (lE (run F w (n+6)) (bS F w (n+6)) w (.many [5,6]) (jq gE jK)) ((l++b :: post).map aT) (oH t (pre++b :: post) p x y z)=some 0:=by
  intro l;induction l with
  |nil=>
   intro p x y z hpl hx hy hz;rw[Ux]at hpl;subst hpl;refine Iv hX (af:=oH t (p++b :: post) p (some (.val (.str b.1))) (some (.val (bM b.2))) z) (gH rfl hx rfl hy) ?_;exact jH hX (Ou (zm (aE rfl (au rfl) (aE rfl (au rfl) aO)) (jT (vs:=[bM b.2,.str (dj t (bK p))]) rX)))
  |cons r l ih=>
   intro p x y z hpl hx hy hz;obtain⟨h1,h2,h3,h4,h5⟩:=R.at hpl;refine Iu (yf hs hf hd ho h1 h2 h3 h4 h5 hx hy hz λx y z hx hy hz=>?_);rw[eG];exact ih (p++[r]) x y z (by simpa using hpl) hx hy hz
 refine qk hi rfl ?_;refine uZ (aX (au rfl) rfl rfl ⟨rfl,?_⟩);refine uZ (aX (dZ (cV (dz rfl) rfl) rfl (er (λd=>V.str [d]) (λ_=>V.aG) t λd _=>cH rfl (aD rfl)) mk) rfl rfl ⟨rfl,?_⟩);refine uZ (gA (l:=[]) (cR az fS) rfl rfl ⟨rfl,?_⟩);refine jH hX (OC (vs:=(pre++b :: post).map aT) (cV (dz rfl) rfl) ?_);have:=go pre [] none none none rfl .none .none .none;unfold oH at this;have e0:(cB bR [] (bL t)).map Ow.v=t.map λ_=>V.aG:=by simp[cB,bL,Ow.v]
 rw[e0]at this;exact this
end
end Pv
namespace Pv
open Ev (deep big rep cut bz E Es Eo It T S Ss Fn bu dd)
noncomputable def bW(l:List Ow):List (List Nat):=l.filterMap id
theorem vp:∀l:List Ow,(l.filter Option.isSome).map Ow.v=(bW l).map V.str
 |[]=>rfl
 |none :: l=>by simpa[bW]using vp l
 |some s :: l=>by have:=vp l;simp[bW,Ow.v]at this ⊢;exact this
def Iw(l:List Ow):(bW l).length<=l.length:=List.length_filterMap_le _ _
theorem lJ(s:List Nat):∀l:List Ow,cnt (.str s) (l.map Ow.v)=some ((bW l).count s)
 |[]=>rfl
 |none :: l=>by
  have:=lJ s l;simp only[VO,cnt,Ow.v,this];rw[show cA deep .aG (.str s)=some false from Bu];rfl
 |some o :: l=>by
  have:=lJ s l;simp only[VO,cnt,Ow.v,this];rw[show cA deep (.str o) (.str s)=some (decide (o=s))from uU];show some (if decide (o=s)=true then _ else _)=_;rw[show bW (some o :: l)=o :: bW l from rfl,List.count_cons];by_cases h:o=s<;>simp[h]
theorem pI(s:List Nat):∀l:List Ow,mem (.str s) (l.map Ow.v)=some (decide (s∈bW l))
 |[]=>by simp[bW]
 |none :: l=>by
  have:=pI s l;rw[VO,mem_cons,this,show cA deep (Ow.v none) (.str s)=some false from Bu];simp[bW]
 |some o :: l=>by
  have:=pI s l;rw[VO,mem_cons,this,show cA deep (Ow.v (some o)) (.str s)=some (decide (o=s))from uU];rw[show bW (some o :: l)=o :: bW l from rfl];by_cases h:o=s<;>by_cases h2:s∈bW l<;>simp[h,h2,eq_comm]
  exact λe=>h e.symm
theorem vq(x:List Nat):∀l,(Ev.kR x l).length=l.length+1
 |[]=>rfl
 |y :: l=>by
  unfold Ev.kR;split
  .rfl
  .simp[vq x l]
theorem sP:∀l,(bu l).length=l.length
 |[]=>rfl
 |x :: l=>by unfold bu;rw[vq,sP l];rfl
noncomputable def sQ(l:List (List Nat))(s:List Nat):V:=.tup [.str s,.int ((l.count s:Nat):Int)]
def strs_map(l:List (List Nat)):strsOf (l.map V.str)=some l:=by simpa using jl id l
def cnt_strs(s:List Nat)(l:List (List Nat)):cnt (.str s) (l.map V.str)=some (l.count s):=by
 have:=lJ s (l.map some);rw[WC]at this;have e:bW (l.map some)=l:=by unfold bW;induction l<;>simp_all
 rw[e]at this;exact this
section
variable{F:List Fn}{i w n:Nat}
def vV(hi:F[i]?=some BS){l:List Ow}(hl:l.length<=2000)(hd:(dd (bW l)).length<64):run F w (n+1) i [.val (.lst (l.map Ow.v))]=some (.lst ((bu (dd (bW l))).map (sQ (bW l))),[]):=by
 have pl:=Iw l;have hs:(bu (dd (bW l))).length=(dd (bW l)).length:=sP _;have c1:b7 (gm (run F w n) (.v 2) (.one 2) (.yes (.cmp .jX (.v 2) (.c (.aG)))) [some (.val (.lst (l.map Ow.v))),none,none,none]) (l.map Ow.v)=some ((bW l).map V.str):=by
  rw[<-vp];refine m6 Ow.v Option.isSome Ow.v l λa _=>?_;cases a with
  |none=>exact rA (v:=.aG) (bf:=[]) rfl (aK rfl (bh (au rfl) (aD rfl) Dh) rfl) λh=>absurd h (by decide)
  |some s=>exact rA rfl (aK rfl (bh (au rfl) (aD rfl) Di) rfl) λ_=>au rfl
 have m1:=b9 (x:=(bW l).map V.str) (bD (by simp;omega));have m2:=b9 (x:=(bu (dd (bW l))).map V.str) (bD (by simp;omega));have m3:=b9 (x:=(bu (dd (bW l))).map (sQ (bW l))) (bD (by simp;omega));have sb:dO .jM [.lst ((bW l).map V.str)]=some (.lst ((bu (dd (bW l))).map V.str)):=by
  show((jf (.lst ((bW l).map V.str))).bind strsOf).bind _=_;rw[nM,WD,strs_map,WD,cS ⟨by omega,hd⟩,m2]
 refine bN hi rfl ?_;refine aj (aX (dZ (cV (dz rfl) rfl) rfl c1 m1) rfl rfl ?_);refine aj (cK (dZ (cV (gf (ak (au rfl) az) sb) rfl) rfl (er V.str (sQ (bW l)) _ λs _=>cH rfl (bA (ak (au rfl) (ak (qi rfl (au rfl) (ak (au rfl) az) ?_) az)) cg)) m3) ⟨rfl,rfl⟩);show((jf (.lst ((bW l).map V.str))).bind (cnt (.str s))).map _=_;rw[nM,WD,cnt_strs];rfl
end
abbrev K3:List (List Nat):=[[97,110,110],[98,111],[99]]
noncomputable def yg:List (List (List Nat)):=[[]]++K3.map (λa=>[a])++(K3.flatMap λa=>(K3.filter (·≠a)).flatMap λb=>[a,b] :: ((K3.filter λc=>c≠a/\c≠b).map λc=>[a,b,c]))
def Mw:∀a∈yg,∀k∈K3,(if k∈a then a else a++[k])∈yg:=by decide
def Mx:∀a∈yg,bu a=K3.filter (·∈a)/\a.length<=3:=by decide
theorem BU:∀(l a:List (List Nat)),a∈yg->(∀k∈l,k∈K3)->l.foldl (λa k=>if k∈a then a else a++[k]) a∈yg
 |[],a,h,_=>h
 |k :: l,a,h,hl=>BU l _ (Mw a h k (hl k (by simp))) λx hx=>hl x (by simp[hx])
theorem BV{x:List Nat}:∀(l a:List (List Nat)),x∈l.foldl (λa k=>if k∈a then a else a++[k]) a↔x∈a\/x∈l
 |[],a=>by simp
 |k :: l,a=>by
  rw[Wd,BV l];by_cases h:k∈a
  .rw[cS h,WT];constructor
   .rintro(q|q)<;>simp[q]
   .rintro(q|rfl|q)
    .exact .inl q
    .exact .inl h
    .exact .inr q
  .rw[Qm h,V2,V9,WT];constructor
   .rintro((q|q)|q)<;>simp[q]
   .rintro(q|q|q)<;>simp[q]
def FO(l:List (List Nat)):dd l=l.foldl (λa k=>if k∈a then a else a++[k]) []:=by
 unfold dd
 congr 1
 funext a k
 by_cases h:k∈a
 .rw[cS h,cS h]
 .rw[Qm h,Qm h]
def OD{l:List (List Nat)}(h:∀k∈l,k∈K3):bu (dd l)=K3.filter (λs=>decide (s∈l))/\(dd l).length<=3:=by
 have h1:dd l∈yg:=by rw[FO];exact BU l [] (by decide) h
 obtain⟨h2,h3⟩:=Mx _ h1;refine⟨h2.trans ?_,h3⟩;apply List.filter_congr;intro x _;have:=BV (x:=x) l [];simp only[WQ,false_or]at this;rw[<-FO]at this;exact decide_eq_decide.mpr this
def My(n:Nat)(a b:Ow):cA (n+1) a.v b.v=some (decide (a=b)):=by
 cases a<;>cases b<;>simp[Ow.v]
end Pv
namespace Pv
open Ev (D aU aR TY BI ME T E Es Eo It S Ss Fn big deep b2i rep bE dg bz aN cut bO bu slots)
end Pv
namespace Pv
open Ev (D aU aR TY BI ME T E Es Eo It S Ss Fn deep big rep bO cut bz)
end Pv
namespace Pv
open Ev (D aU aR TY BI ME T E Es Eo It S Ss Fn big deep b2i rep bE dg bz aN cut bO bu slots)
end Pv
namespace Pv
open Ev (deep big rep cut bz)
open Ev (D aU aR TY BI ME T E Es Eo It S Ss Fn)
noncomputable def nk(c:List Pt):Nat:=(asks c).countP (λa=>decide (a=[]))
end Pv
namespace Pv
open Ev (D aU aR TY BI ME T E Es Eo It S Ss Fn big deep b2i rep bE dg bz aN cut bO bu slots)
noncomputable def dl:List Nat->List Nat->Nat
 |[],b=>b.length
 |_ :: a,[]=>a.length+1
 |x :: a,y :: b=>if x=y then dl a b else 1+min (dl a (y :: b)) (dl (x :: a) b)
termination_by a b=>a.length+b.length
noncomputable def cp:List Nat->List Nat->Nat
 |x :: a,y :: b=>if x=y then cp a b+1 else 0
 |_,_=>0
noncomputable def Uk(A new:List Nat)(j:Nat):V:=.int (dl A (new.take j).reverse:Nat)
noncomputable def RC(A new:List Nat):List V:=(List.range (new.length+1)).map (Uk A new)
noncomputable def Ul(old new:List Nat)(i:Nat):V:=.lst (RC (old.take i).reverse new)
noncomputable def UK(old new:List Nat):List V:=(List.range (old.length+1)).map (Ul old new)
end Pv
namespace Lw
@[reducible] noncomputable def RD:Ev.S:=.iff (.cmp .eq (.ix (.v 0) (.c (.int 0))) (.c (.str [107,101,101,112]))) (.cons (.ret (.ix (.v 0) (.c (.int 1)))) .nil) .nil
@[reducible] noncomputable def RE:Ev.S:=.ret (.bi .len (.cons (.ix (.v 0) (.c (.int 1))) .nil))
@[reducible] noncomputable def f0:Ev.Fn:=⟨1,1,(.cons RD (.cons RE .nil))⟩
@[reducible] noncomputable def RG:Ev.S:=.set 2 (.c (.int 0))
@[reducible] noncomputable def RH:Ev.Ss:=(.cons (.iff (.an (.cmp .eq (.ix (.v 3) (.c (.int 0))) (.c (.str [100,114,111,112]))) (.cmp .ne (.sl (.v 1) (.yes (.v 2)) (.yes (.bin .add (.v 2) (.cl 0 (.cons (.v 3) .nil))))) (.ix (.v 3) (.c (.int 1))))) (.cons (.ret (.c (.bl false))) .nil) .nil) (.cons (.iff (.cmp .ne (.ix (.v 3) (.c (.int 0))) (.c (.str [112,117,116]))) (.cons (.set 2 (.bin .add (.v 2) (.cl 0 (.cons (.v 3) .nil)))) .nil) .nil) .nil))
@[reducible] noncomputable def RI:Ev.S:=.for (.one 3) (.seq (.v 0)) RH
@[reducible] noncomputable def RJ:Ev.S:=.ret (.cmp .eq (.v 2) (.bi .len (.cons (.v 1) .nil)))
@[reducible] noncomputable def f1:Ev.Fn:=⟨2,4,(.cons RG (.cons RI (.cons RJ .nil)))⟩
@[reducible] noncomputable def RL:Ev.S:=.iff (.nt (.cl 1 (.cons (.v 0) (.cons (.v 1) .nil)))) (.cons (.eO 0) .nil) .nil
@[reducible] noncomputable def RM:Ev.S:=.set 2 (.lst .nil)
@[reducible] noncomputable def RN:Ev.S:=.set 3 (.c (.int 0))
@[reducible] noncomputable def RP:Ev.Ss:=(.cons (.iff (.cmp .eq (.v 4) (.c (.str [112,117,116]))) (.cons (.exp (.me .append (.v 2) (.cons (.v 5) .nil))) .nil) (.cons (.iff (.cmp .eq (.v 4) (.c (.str [100,114,111,112]))) (.cons (.set 3 (.bin .add (.v 3) (.bi .len (.cons (.v 5) .nil)))) .nil) (.cons (.exp (.me .append (.v 2) (.cons (.sl (.v 1) (.yes (.v 3)) (.yes (.bin .add (.v 3) (.v 5)))) .nil))) (.cons (.set 3 (.bin .add (.v 3) (.v 5))) .nil))) .nil)) .nil)
@[reducible] noncomputable def RQ:Ev.S:=.for (.many [4,5]) (.seq (.v 0)) RP
@[reducible] noncomputable def RS:Ev.S:=.ret (.me .join (.c (.str [])) (.cons (.v 2) .nil))
@[reducible] noncomputable def f2:Ev.Fn:=⟨2,6,(.cons RL (.cons RM (.cons RN (.cons RQ (.cons RS .nil)))))⟩
@[reducible] noncomputable def RT:Ev.S:=.ret (.ix (.cl 6 (.cons (.v 0) (.cons (.v 1) .nil))) (.c (.int 0)))
@[reducible] noncomputable def f3:Ev.Fn:=⟨2,2,(.cons RT .nil)⟩
@[reducible] noncomputable def RU:Ev.S:=.ret (.cl 8 (.cons (.ix (.cl 6 (.cons (.v 0) (.cons (.v 1) .nil))) (.c (.int 0))) .nil))
@[reducible] noncomputable def f4:Ev.Fn:=⟨2,2,(.cons RU .nil)⟩
@[reducible] noncomputable def RW:Ev.S:=.ret (.cl 8 (.cons (.ix (.cl 6 (.cons (.v 0) (.cons (.v 1) .nil))) (.c (.int 1))) .nil))
@[reducible] noncomputable def f5:Ev.Fn:=⟨2,2,(.cons RW .nil)⟩
@[reducible] noncomputable def RX:Ev.S:=.set 2 (.v 0)
@[reducible] noncomputable def RY:Ev.S:=.set 3 (.comp (.c (.aG)) (.one 8) (.seq (.v 0)) .no)
@[reducible] noncomputable def RZ:Ev.S:=.set 4 (.lst .nil)
@[reducible] noncomputable def R0:Ev.Ss:=(.cons (.set 2 (.cl 2 (.cons (.v 6) (.cons (.v 2) .nil)))) (.cons (.set 7 (.cl 7 (.cons (.v 3) (.cons (.v 5) (.cons (.v 6) .nil))))) (.cons (.set 3 (.ix (.v 7) (.c (.int 0)))) (.cons (.exp (.me .extend (.v 4) (.cons (.ix (.v 7) (.c (.int 1))) .nil))) .nil))))
@[reducible] noncomputable def R1:Ev.S:=.for (.many [5,6]) (.seq (.v 1)) R0
@[reducible] noncomputable def R3:Ev.S:=.ret (.tup (.cons (.v 3) (.cons (.v 4) .nil)))
@[reducible] noncomputable def f6:Ev.Fn:=⟨2,9,(.cons RX (.cons RY (.cons RZ (.cons R1 (.cons R3 .nil)))))⟩
@[reducible] noncomputable def R4:Ev.S:=.set 3 (.lst .nil)
@[reducible] noncomputable def R5:Ev.S:=.set 4 (.lst .nil)
@[reducible] noncomputable def R6:Ev.S:=.set 5 (.c (.int 0))
@[reducible] noncomputable def R7:Ev.Ss:=(.cons (.iff (.cmp .eq (.ix (.v 6) (.c (.int 0))) (.c (.str [112,117,116]))) (.cons (.exp (.me .extend (.v 3) (.cons (.comp (.v 1) (.one 8) (.seq (.ix (.v 6) (.c (.int 1)))) .no) .nil))) (.cons (.cnt) .nil)) .nil) (.cons (.set 7 (.sl (.v 0) (.yes (.v 5)) (.yes (.bin .add (.v 5) (.cl 0 (.cons (.v 6) .nil)))))) (.cons (.set 5 (.bin .add (.v 5) (.cl 0 (.cons (.v 6) .nil)))) (.cons (.iff (.cmp .eq (.ix (.v 6) (.c (.int 0))) (.c (.str [107,101,101,112]))) (.cons (.exp (.me .extend (.v 3) (.cons (.v 7) .nil))) .nil) (.cons (.exp (.me .extend (.v 4) (.cons (.v 7) .nil))) .nil)) .nil))))
@[reducible] noncomputable def R8:Ev.S:=.for (.one 6) (.seq (.v 2)) R7
@[reducible] noncomputable def R9:Ev.S:=.ret (.tup (.cons (.v 3) (.cons (.v 4) .nil)))
@[reducible] noncomputable def f7:Ev.Fn:=⟨3,9,(.cons R4 (.cons R5 (.cons R6 (.cons R8 (.cons R9 .nil)))))⟩
@[reducible] noncomputable def Sa:Ev.S:=.set 1 (.comp (.v 2) (.one 2) (.seq (.v 0)) (.yes (.cmp .jX (.v 2) (.c (.aG)))))
@[reducible] noncomputable def Sb:Ev.S:=.ret (.comp (.tup (.cons (.v 3) (.cons (.me .count (.v 1) (.cons (.v 3) .nil)) .nil))) (.one 3) (.seq (.bi .jM (.cons (.v 1) .nil))) .no)
@[reducible] noncomputable def f8:Ev.Fn:=⟨1,4,(.cons Sa (.cons Sb .nil))⟩
@[reducible] noncomputable def Sd:Ev.S:=.iff (.cmp .eq (.v 0) (.lst .nil)) (.cons (.ret (.bin .mul (.c (.int 7)) (.v 1))) .nil) .nil
@[reducible] noncomputable def Se:Ev.S:=.ret (.bin .add (.ix (.v 0) (.bin .mod (.v 1) (.bi .len (.cons (.v 0) .nil)))) (.bin .mul (.c (.int 6553)) (.bin .fdiv (.v 1) (.bi .len (.cons (.v 0) .nil)))))
@[reducible] noncomputable def f9:Ev.Fn:=⟨2,2,(.cons Sd (.cons Se .nil))⟩
@[reducible] noncomputable def OE:Ev.S:=.set 3 (.bin .mod (.bin .add (.bin .mul (.bin .mod (.cl 9 (.cons (.v 0) (.cons (.v 1) .nil))) (.c (.int 2147483563))) (.c (.int 69069))) (.bin .mul (.c (.int 104723)) (.bin .add (.v 1) (.c (.int 1))))) (.c (.int 2147483563)))
@[reducible] noncomputable def OF:Ev.S:=.set 3 (.bin .mod (.bin .add (.bin .mul (.v 3) (.v 3)) (.bin .fdiv (.v 3) (.c (.int 3)))) (.c (.int 2147483399)))
@[reducible] noncomputable def OG:Ev.S:=.ret (.bin .mod (.bin .fdiv (.bin .mod (.bin .add (.bin .mul (.v 3) (.v 3)) (.bin .fdiv (.v 3) (.c (.int 7)))) (.c (.int 2147483647))) (.c (.int 11))) (.v 2))
@[reducible] noncomputable def Ax:Ev.Fn:=⟨3,4,(.cons OE (.cons OF (.cons OG .nil)))⟩
@[reducible] noncomputable def OH:Ev.S:=.ret (.me .join (.c (.str [])) (.cons (.comp (.ix (.c (.str [97,98,99,32])) (.cl 10 (.cons (.v 0) (.cons (.bin .add (.bin .add (.v 1) (.c (.int 1))) (.v 3)) (.cons (.c (.int 4)) .nil))))) (.one 3) (.fU (.cons (.cl 10 (.cons (.v 0) (.cons (.v 1) (.cons (.bin .add (.v 2) (.c (.int 1))) .nil)))) .nil)) .no) .nil))
@[reducible] noncomputable def Mz:Ev.Fn:=⟨3,4,(.cons OH .nil)⟩
@[reducible] noncomputable def OI:Ev.S:=.set 3 (.tup .nil)
@[reducible] noncomputable def OJ:Ev.Ss:=(.cons (.iff (.cmp .eq (.cl 10 (.cons (.v 0) (.cons (.bin .add (.v 1) (.bin .mul (.c (.int 4)) (.v 4))) (.cons (.c (.int 4)) .nil)))) (.c (.int 0))) (.cons (.set 5 (.bin .mul (.ix (.c (.str [97,98,122])) (.cl 10 (.cons (.v 0) (.cons (.bin .add (.bin .add (.v 1) (.bin .mul (.c (.int 4)) (.v 4))) (.c (.int 1))) (.cons (.c (.int 3)) .nil))))) (.bin .add (.c (.int 1)) (.cl 10 (.cons (.v 0) (.cons (.bin .add (.bin .add (.v 1) (.bin .mul (.c (.int 4)) (.v 4))) (.c (.int 2))) (.cons (.c (.int 2)) .nil))))))) (.cons (.set 3 (.bin .add (.v 3) (.tup (.cons (.tup (.cons (.c (.str [112,117,116])) (.cons (.v 5) .nil))) .nil)))) .nil)) .nil) (.cons (.iff (.cmp .lt (.v 4) (.bi .len (.cons (.v 2) .nil))) (.cons (.set 6 (.cmp .gt (.cl 10 (.cons (.v 0) (.cons (.bin .add (.bin .add (.v 1) (.bin .mul (.c (.int 4)) (.v 4))) (.c (.int 3))) (.cons (.c (.int 3)) .nil)))) (.c (.int 0)))) (.cons (.set 3 (.bin .add (.v 3) (.tup (.cons (.fV (.v 6) (.tup (.cons (.c (.str [107,101,101,112])) (.cons (.c (.int 1)) .nil))) (.tup (.cons (.c (.str [100,114,111,112])) (.cons (.ix (.v 2) (.v 4)) .nil)))) .nil)))) .nil)) .nil) .nil))
@[reducible] noncomputable def OL:Ev.S:=.for (.one 4) (.fU (.cons (.bin .add (.bi .len (.cons (.v 2) .nil)) (.c (.int 1))) .nil)) OJ
@[reducible] noncomputable def OM:Ev.S:=.ret (.v 3)
@[reducible] noncomputable def MA:Ev.Fn:=⟨3,7,(.cons OI (.cons OL (.cons OM .nil)))⟩
@[reducible] noncomputable def ON:Ev.S:=.set 2 (.c (.int 0))
@[reducible] noncomputable def OO:Ev.S:=.set 3 (.c (.str []))
@[reducible] noncomputable def OP:Ev.Ss:=(.cons (.iff (.cmp .eq (.v 4) (.c (.str [112,117,116]))) (.cons (.set 3 (.bin .add (.v 3) (.v 5))) .nil) (.cons (.iff (.cmp .eq (.v 4) (.c (.str [100,114,111,112]))) (.cons (.iff (.cmp .ne (.sl (.v 1) (.yes (.v 2)) (.yes (.bin .add (.v 2) (.bi .len (.cons (.v 5) .nil))))) (.v 5)) (.cons (.ret (.c (.aG))) .nil) .nil) (.cons (.set 2 (.bin .add (.v 2) (.bi .len (.cons (.v 5) .nil)))) .nil)) (.cons (.set 3 (.bin .add (.v 3) (.sl (.v 1) (.yes (.v 2)) (.yes (.bin .add (.v 2) (.v 5)))))) (.cons (.set 2 (.bin .add (.v 2) (.v 5))) .nil))) .nil)) .nil)
@[reducible] noncomputable def OQ:Ev.S:=.for (.many [4,5]) (.seq (.v 0)) OP
@[reducible] noncomputable def OR:Ev.S:=.ret (.fV (.cmp .eq (.v 2) (.bi .len (.cons (.v 1) .nil))) (.v 3) (.c (.aG)))
@[reducible] noncomputable def MB:Ev.Fn:=⟨2,6,(.cons ON (.cons OO (.cons OQ (.cons OR .nil))))⟩
@[reducible] noncomputable def FP:Ev.S:=.iff (.cmp .eq (.cl 10 (.cons (.v 0) (.cons (.bin .add (.v 1) (.c (.int 60))) (.cons (.c (.int 5)) .nil)))) (.c (.int 0))) (.cons (.ret (.fV (.cmp .ne (.v 2) (.c (.str []))) (.tup (.cons (.tup (.cons (.c (.str [107,101,101,112])) (.cons (.bi .len (.cons (.v 2) .nil)) .nil))) .nil)) (.tup .nil))) .nil) .nil
@[reducible] noncomputable def zI:Ev.S:=.iff (.cmp .lt (.bi .len (.cons (.v 2) .nil)) (.c (.int 7))) (.cons (.ret (.cl 12 (.cons (.v 0) (.cons (.v 1) (.cons (.v 2) .nil))))) .nil) .nil
@[reducible] noncomputable def zJ:Ev.S:=.set 3 (.cl 10 (.cons (.v 0) (.cons (.bin .add (.v 1) (.c (.int 61))) (.cons (.bin .sub (.bi .len (.cons (.v 2) .nil)) (.c (.int 3))) .nil))))
@[reducible] noncomputable def zK:Ev.S:=.set 4 (.fV (.cmp .gt (.v 3) (.c (.int 0))) (.tup (.cons (.tup (.cons (.c (.str [107,101,101,112])) (.cons (.v 3) .nil))) .nil)) (.tup .nil))
@[reducible] noncomputable def zL:Ev.S:=.set 5 (.bin .sub (.bin .sub (.bi .len (.cons (.v 2) .nil)) (.v 3)) (.c (.int 3)))
@[reducible] noncomputable def zM:Ev.S:=.ret (.bin .add (.bin .add (.v 4) (.cl 12 (.cons (.v 0) (.cons (.v 1) (.cons (.sl (.v 2) (.yes (.v 3)) (.yes (.bin .add (.v 3) (.c (.int 3))))) .nil))))) (.fV (.cmp .gt (.v 5) (.c (.int 0))) (.tup (.cons (.tup (.cons (.c (.str [107,101,101,112])) (.cons (.v 5) .nil))) .nil)) (.tup .nil)))
@[reducible] noncomputable def oJ:Ev.Fn:=⟨3,6,(.cons FP (.cons zI (.cons zJ (.cons zK (.cons zL (.cons zM .nil))))))⟩
@[reducible] noncomputable def OS:Ev.S:=.set 4 (.lst .nil)
@[reducible] noncomputable def OT:Ev.Ss:=(.cons (.set 6 (.ix (.lst (.cons (.c (.str [97,110,110])) (.cons (.c (.str [98,111])) (.cons (.c (.str [97,110,110])) (.cons (.c (.str [99])) .nil))))) (.cl 10 (.cons (.v 0) (.cons (.bin .add (.bin .add (.v 1) (.c (.int 1))) (.bin .mul (.c (.int 70)) (.v 5))) (.cons (.c (.int 4)) .nil)))))) (.cons (.set 7 (.cl 14 (.cons (.v 0) (.cons (.bin .add (.bin .add (.v 1) (.c (.int 2))) (.bin .mul (.c (.int 70)) (.v 5))) (.cons (.v 2) .nil))))) (.cons (.set 2 (.cl 13 (.cons (.v 7) (.cons (.v 2) .nil)))) (.cons (.exp (.me .append (.v 4) (.cons (.tup (.cons (.v 6) (.cons (.v 7) .nil))) .nil))) .nil))))
@[reducible] noncomputable def OU:Ev.S:=.for (.one 5) (.fU (.cons (.cl 10 (.cons (.v 0) (.cons (.v 1) (.cons (.bin .add (.v 3) (.c (.int 1))) .nil)))) .nil)) OT
@[reducible] noncomputable def OV:Ev.S:=.ret (.v 4)
@[reducible] noncomputable def vt:Ev.Fn:=⟨4,8,(.cons OS (.cons OU (.cons OV .nil)))⟩
@[reducible] noncomputable def OW:Ev.S:=.set 2 (.comp (.tup (.cons (.v 11) (.cons (.c (.aG)) .nil))) (.one 11) (.seq (.v 0)) .no)
@[reducible] noncomputable def OX:Ev.S:=.set 3 (.lst .nil)
@[reducible] noncomputable def zN:Ev.Ss:=(.cons (.iff (.cmp .eq (.v 8) (.c (.str [112,117,116]))) (.cons (.set 7 (.bin .add (.v 7) (.comp (.tup (.cons (.v 12) (.cons (.v 4) .nil))) (.one 12) (.seq (.v 9)) .no))) .nil) (.cons (.set 10 (.fV (.cmp .eq (.v 8) (.c (.str [107,101,101,112]))) (.v 9) (.bi .len (.cons (.v 9) .nil)))) (.cons (.iff (.cmp .eq (.v 8) (.c (.str [107,101,101,112]))) (.cons (.set 7 (.bin .add (.v 7) (.sl (.v 2) (.yes (.v 6)) (.yes (.bin .add (.v 6) (.v 10)))))) .nil) (.cons (.set 3 (.bin .add (.v 3) (.sl (.v 2) (.yes (.v 6)) (.yes (.bin .add (.v 6) (.v 10)))))) .nil)) (.cons (.set 6 (.bin .add (.v 6) (.v 10))) .nil)))) .nil)
@[reducible] noncomputable def zO:Ev.Ss:=(.cons (.set 6 (.c (.int 0))) (.cons (.set 7 (.lst .nil)) (.cons (.for (.many [8,9]) (.seq (.v 5)) zN) (.cons (.set 2 (.v 7)) .nil))))
@[reducible] noncomputable def OY:Ev.S:=.for (.many [4,5]) (.seq (.v 1)) zO
@[reducible] noncomputable def OZ:Ev.S:=.ret (.tup (.cons (.comp (.v 14) (.many [13,14]) (.seq (.v 2)) .no) (.cons (.comp (.v 16) (.many [15,16]) (.seq (.v 3)) .no) (.cons (.me .join (.c (.str [])) (.cons (.comp (.v 17) (.many [17,18]) (.seq (.v 2)) .no) .nil)) .nil))))
@[reducible] noncomputable def BW:Ev.Fn:=⟨2,19,(.cons OW (.cons OX (.cons OY (.cons OZ .nil))))⟩
@[reducible] noncomputable def O0:Ev.S:=.ret (.comp (.tup (.cons (.v 1) (.cons (.me .count (.v 0) (.cons (.v 1) .nil)) .nil))) (.one 1) (.seq (.tup (.cons (.c (.str [97,110,110])) (.cons (.c (.str [98,111])) (.cons (.c (.str [99])) .nil))))) (.yes (.cmp .isin (.v 1) (.v 0))))
@[reducible] noncomputable def BX:Ev.Fn:=⟨1,2,(.cons O0 .nil)⟩
@[reducible] noncomputable def O1:Ev.S:=.iff (.cmp .eq (.bin .add (.v 0) (.c (.int 0))) (.c (.int 0))) (.cons (.tr 3 1 (.cons (.v 1) (.cons (.v 2) .nil))) .nil) (.cons (.iff (.cmp .eq (.bin .add (.v 0) (.c (.int 0))) (.c (.int 1))) (.cons (.tr 4 1 (.cons (.v 1) (.cons (.v 2) .nil))) .nil) (.cons (.iff (.cmp .eq (.bin .add (.v 0) (.c (.int 0))) (.c (.int 2))) (.cons (.tr 5 1 (.cons (.v 1) (.cons (.v 2) .nil))) .nil) (.cons (.ret (.ix (.c (.str [])) (.c (.int 0)))) .nil)) .nil)) .nil)
@[reducible] noncomputable def qA:Ev.Fn:=⟨3,4,(.cons O1 .nil)⟩
@[reducible] noncomputable def O2:Ev.S:=.set 1 (.cl 11 (.cons (.v 0) (.cons (.c (.int 0)) (.cons (.c (.int 6)) .nil))))
@[reducible] noncomputable def O3:Ev.S:=.set 2 (.cl 15 (.cons (.v 0) (.cons (.c (.int 20)) (.cons (.v 1) (.cons (.c (.int 5)) .nil)))))
@[reducible] noncomputable def O4:Ev.S:=.iH [3,4,5] (.cl 16 (.cons (.v 1) (.cons (.v 2) .nil)))
@[reducible] noncomputable def O5:Ev.S:=.set 6 (.lst (.cons (.v 3) (.cons (.cl 17 (.cons (.v 3) .nil)) (.cons (.cl 17 (.cons (.v 4) .nil)) .nil))))
@[reducible] noncomputable def O6:Ev.S:=.iff (.cmp .ne (.comp (.cl 18 (.cons (.v 11) (.cons (.v 1) (.cons (.v 2) .nil)))) (.one 11) (.fU (.cons (.c (.int 3)) .nil)) .no) (.v 6)) (.cons (.ret (.c (.bl false))) .nil) .nil
@[reducible] noncomputable def O7:Ev.S:=.iff (.cmp .ne (.bi .len (.cons (.v 3) .nil)) (.bi .len (.cons (.v 5) .nil))) (.cons (.ret (.c (.bl false))) .nil) .nil
@[reducible] noncomputable def O8:Ev.S:=.set 7 (.cl 10 (.cons (.v 0) (.cons (.c (.int 10)) (.cons (.bin .add (.bi .len (.cons (.v 2) .nil)) (.c (.int 1))) .nil))))
@[reducible] noncomputable def FQ:Ev.Ss:=(.cons (.set 9 (.bin .add (.bin .add (.sl (.v 2) .no (.yes (.v 7))) (.lst (.cons (.tup (.cons (.c (.str [98,111])) (.cons (.v 8) .nil))) .nil))) (.sl (.v 2) (.yes (.v 7)) .no))) (.cons (.iff (.cmp .ne (.comp (.cl 18 (.cons (.v 12) (.cons (.v 1) (.cons (.v 9) .nil)))) (.one 12) (.fU (.cons (.c (.int 3)) .nil)) .no) (.bin .mul (.lst (.cons (.tup (.cons (.c (.str [114,101,102,117,115,101,100])) (.cons (.c (.int 0)) .nil))) .nil)) (.c (.int 3)))) (.cons (.ret (.c (.bl false))) .nil) .nil) .nil))
@[reducible] noncomputable def O9:Ev.S:=.for (.one 8) (.seq (.tup (.cons (.tup (.cons (.tup (.cons (.c (.str [100,114,111,112])) (.cons (.c (.str [113])) .nil))) .nil)) (.cons (.tup (.cons (.tup (.cons (.c (.str [107,101,101,112])) (.cons (.c (.int 99)) .nil))) .nil)) (.cons (.tup (.cons (.tup (.cons (.c (.str [107,101,101,112])) (.cons (.c (.int 98)) .nil))) (.cons (.tup (.cons (.c (.str [112,117,116])) (.cons (.c (.str [97])) .nil))) .nil))) .nil))))) FQ
@[reducible] noncomputable def Pa:Ev.S:=.iff (.cmp .ne (.comp (.cl 18 (.cons (.v 13) (.cons (.v 1) (.cons (.lst .nil) .nil)))) (.one 13) (.fU (.cons (.c (.int 3)) .nil)) .no) (.lst (.cons (.bin .mul (.lst (.cons (.c (.aG)) .nil)) (.bi .len (.cons (.v 1) .nil))) (.cons (.lst .nil) (.cons (.lst .nil) .nil))))) (.cons (.ret (.c (.bl false))) .nil) .nil
@[reducible] noncomputable def Pb:Ev.S:=.set 10 (.lst (.cons (.tup (.cons (.c (.str [97,110,110])) (.cons (.tup (.cons (.tup (.cons (.c (.str [112,117,116])) (.cons (.c (.str [97,98])) .nil))) .nil)) .nil))) (.cons (.tup (.cons (.c (.str [98,111])) (.cons (.tup (.cons (.tup (.cons (.c (.str [107,101,101,112])) (.cons (.c (.int 1)) .nil))) (.cons (.tup (.cons (.c (.str [100,114,111,112])) (.cons (.c (.str [98])) .nil))) (.cons (.tup (.cons (.c (.str [112,117,116])) (.cons (.c (.str [99,100])) .nil))) .nil)))) .nil))) .nil)))
@[reducible] noncomputable def MC:Ev.S:=.exp (.me .append (.v 10) (.cons (.tup (.cons (.c (.str [97,110,110])) (.cons (.tup (.cons (.tup (.cons (.c (.str [100,114,111,112])) (.cons (.c (.str [97])) .nil))) (.cons (.tup (.cons (.c (.str [107,101,101,112])) (.cons (.c (.int 2)) .nil))) .nil))) .nil))) .nil))
@[reducible] noncomputable def MD:Ev.S:=.ret (.cmp .eq (.comp (.cl 18 (.cons (.v 14) (.cons (.c (.str [])) (.cons (.v 10) .nil)))) (.one 14) (.fU (.cons (.c (.int 3)) .nil)) .no) (.lst (.cons (.lst (.cons (.c (.str [98,111])) (.cons (.c (.str [98,111])) .nil))) (.cons (.lst (.cons (.tup (.cons (.c (.str [98,111])) (.cons (.c (.int 2)) .nil))) .nil)) (.cons (.lst (.cons (.tup (.cons (.c (.str [97,110,110])) (.cons (.c (.int 2)) .nil))) .nil)) .nil)))))
@[reducible] noncomputable def BY:Ev.Fn:=⟨1,15,(.cons O2 (.cons O3 (.cons O4 (.cons O5 (.cons O6 (.cons O7 (.cons O8 (.cons O9 (.cons Pa (.cons Pb (.cons MC (.cons MD .nil))))))))))))⟩
noncomputable def prog:List Ev.Fn:=[f0,f1,f2,f3,f4,f5,f6,f7,f8,f9,Ax,Mz,MA,MB,oJ,vt,BW,BX,qA,BY]
end Lw
namespace Lw
open PySem PySem.Spec PyProof.Rows L2 Sm
open Ev (D O Hh Fr R aF E Es Eo T S Ss Fl Src aU aR TY BI ME)
noncomputable def top(i:Nat):Stmt:=PySem.Challenge.pw_pastways_k43_owners.main.body.getD i (.Pass ⟨0,0,0,0⟩)
abbrev i0 (a:Nat->Addr) (d:Nat->FuncData):FI:=⟨"size",a 0,d 0,["part"]⟩
abbrev i1 (a:Nat->Addr) (d:Nat->FuncData):FI:=⟨"fits",a 1,d 1,["change","text"]⟩
abbrev i2 (a:Nat->Addr) (d:Nat->FuncData):FI:=⟨"done",a 2,d 2,["change","text"]⟩
abbrev i3 (a:Nat->Addr) (d:Nat->FuncData):FI:=⟨"owners",a 3,d 3,["text","rows"]⟩
abbrev i4 (a:Nat->Addr) (d:Nat->FuncData):FI:=⟨"shares",a 4,d 4,["text","rows"]⟩
abbrev i5 (a:Nat->Addr) (d:Nat->FuncData):FI:=⟨"lost",a 5,d 5,["text","rows"]⟩
abbrev i6 (a:Nat->Addr) (d:Nat->FuncData):FI:=⟨"traced",a 6,d 6,["text","rows"]⟩
abbrev i7 (a:Nat->Addr) (d:Nat->FuncData):FI:=⟨"traced_once",a 7,d 7,["standing","own","change"]⟩
abbrev i8 (a:Nat->Addr) (d:Nat->FuncData):FI:=⟨"counted",a 8,d 8,["names"]⟩
abbrev i9 (a:Nat->Addr) (d:Nat->FuncData):FI:=⟨"_law_cell",a 9,d 9,["_law_script","_law_k"]⟩
abbrev MF (a:Nat->Addr) (d:Nat->FuncData):FI:=⟨"_law_drawn",a 10,d 10,["_law_script","_law_k","_law_many"]⟩
abbrev MG (a:Nat->Addr) (d:Nat->FuncData):FI:=⟨"_law_text",a 11,d 11,["_law_script","_law_at","_law_most"]⟩
abbrev i12 (a:Nat->Addr) (d:Nat->FuncData):FI:=⟨"_law_change",a 12,d 12,["_law_script","_law_at","_law_text_here"]⟩
abbrev MH (a:Nat->Addr) (d:Nat->FuncData):FI:=⟨"_law_made",a 13,d 13,["_law_change_here","_law_text_here"]⟩
abbrev MI (a:Nat->Addr) (d:Nat->FuncData):FI:=⟨"_law_small",a 14,d 14,["_law_script","_law_at","_law_text_here"]⟩
abbrev MJ (a:Nat->Addr) (d:Nat->FuncData):FI:=⟨"_law_rows",a 15,d 15,["_law_script","_law_at","_law_text_here","_law_most"]⟩
abbrev MK (a:Nat->Addr) (d:Nat->FuncData):FI:=⟨"_law_marks",a 16,d 16,["_law_text_here","_law_rows_here"]⟩
abbrev ML (a:Nat->Addr) (d:Nat->FuncData):FI:=⟨"_law_often",a 17,d 17,["_law_names"]⟩
abbrev Qo (a:Nat->Addr) (d:Nat->FuncData):FI:=⟨"_law_told",a 18,d 18,["_law_way","_law_text_here","_law_rows_here"]⟩
abbrev FT (a:Nat->Addr) (d:Nat->FuncData):FI:=⟨"law",a 19,d 19,["_law_script"]⟩
noncomputable def yh:List Str:=["ValueError","isinstance","len","range","set","sorted"]
def Pc:("len" : Str)∈yh:=by decide +kernel
def Iz:("range" : Str)∈yh:=by decide +kernel
def Pd:("set" : Str)∈yh:=by decide +kernel
def El:("sorted" : Str)∈yh:=by decide +kernel
noncomputable def tb (a:Nat->Addr) (d:Nat->FuncData):Tb:=⟨prog,100000,[i0 a d,i1 a d,i2 a d,i3 a d,i4 a d,i5 a d,i6 a d,i7 a d,i8 a d,i9 a d,MF a d,MG a d,i12 a d,MH a d,MI a d,MJ a d,MK a d,ML a d,Qo a d,FT a d],yh,[("__name__",.str [108,97,119,95,112,97,115,116,119,97,121,115,95,107,52,51,95,111,119,110,101,114,115])],[]⟩
section
variable{a:Nat->Addr}{d:Nat->FuncData}{n:Nat}
abbrev n0:List Str:=["part"]
def s0:bG n0 ["part"] (aB (top 1)):=⟨rfl,rfl,rfl,by decide +kernel,rfl,by decide +kernel,by decide +kernel⟩
abbrev n1:List Str:=["change","text","place","part"]
def s1:bG n1 ["change","text"] (aB (top 6)):=⟨rfl,rfl,rfl,by decide +kernel,rfl,by decide +kernel,by decide +kernel⟩
abbrev n2:List Str:=["change","text","pieces","place","word","what"]
def s2:bG n2 ["change","text"] (aB (top 7)):=⟨rfl,rfl,rfl,by decide +kernel,rfl,by decide +kernel,by decide +kernel⟩
abbrev n3:List Str:=["text","rows"]
def s3:bG n3 ["text","rows"] (aB (top 9)):=⟨rfl,rfl,rfl,by decide +kernel,rfl,by decide +kernel,by decide +kernel⟩
abbrev n4:List Str:=["text","rows"]
def s4:bG n4 ["text","rows"] (aB (top 10)):=⟨rfl,rfl,rfl,by decide +kernel,rfl,by decide +kernel,by decide +kernel⟩
abbrev n5:List Str:=["text","rows"]
def s5:bG n5 ["text","rows"] (aB (top 11)):=⟨rfl,rfl,rfl,by decide +kernel,rfl,by decide +kernel,by decide +kernel⟩
abbrev n6:List Str:=["text","rows","now","standing","gone","own","change","both"]
def s6:bG n6 ["text","rows"] (aB (top 12)):=⟨rfl,rfl,rfl,by decide +kernel,rfl,by decide +kernel,by decide +kernel⟩
abbrev n7:List Str:=["standing","own","change","left","gone","place","part","names"]
def s7:bG n7 ["standing","own","change"] (aB (top 13)):=⟨rfl,rfl,rfl,by decide +kernel,rfl,by decide +kernel,by decide +kernel⟩
abbrev n8:List Str:=["names","put"]
def s8:bG n8 ["names"] (aB (top 14)):=⟨rfl,rfl,rfl,by decide +kernel,rfl,by decide +kernel,by decide +kernel⟩
abbrev n9:List Str:=["_law_script","_law_k"]
def s9:bG n9 ["_law_script","_law_k"] (aB (top 16)):=⟨rfl,rfl,rfl,by decide +kernel,rfl,by decide +kernel,by decide +kernel⟩
abbrev MM:List Str:=["_law_script","_law_k","_law_many","_law_cell_here"]
def PF:bG MM ["_law_script","_law_k","_law_many"] (aB (top 17)):=⟨rfl,rfl,rfl,by decide +kernel,rfl,by decide +kernel,by decide +kernel⟩
abbrev MN:List Str:=["_law_script","_law_at","_law_most"]
def EL:bG MN ["_law_script","_law_at","_law_most"] (aB (top 18)):=⟨rfl,rfl,rfl,by decide +kernel,rfl,by decide +kernel,by decide +kernel⟩
abbrev MO:List Str:=["_law_script","_law_at","_law_text_here","_law_found","_law_k","_law_new","_law_is_kept"]
def s12:bG MO ["_law_script","_law_at","_law_text_here"] (aB (top 19)):=⟨rfl,rfl,rfl,by decide +kernel,rfl,by decide +kernel,by decide +kernel⟩
abbrev MP:List Str:=["_law_change_here","_law_text_here","_law_place","_law_found","_law_word","_law_what"]
def Um:bG MP ["_law_change_here","_law_text_here"] (aB (top 20)):=⟨rfl,rfl,rfl,by decide +kernel,rfl,by decide +kernel,by decide +kernel⟩
abbrev MQ:List Str:=["_law_script","_law_at","_law_text_here","_law_place","_law_here","_law_rest"]
def Uo:bG MQ ["_law_script","_law_at","_law_text_here"] (aB (top 21)):=⟨rfl,rfl,rfl,by decide +kernel,rfl,by decide +kernel,by decide +kernel⟩
abbrev MR:List Str:=["_law_script","_law_at","_law_text_here","_law_most","_law_found","_law_k","_law_own","_law_change_here"]
def Up:bG MR ["_law_script","_law_at","_law_text_here","_law_most"] (aB (top 22)):=⟨rfl,rfl,rfl,by decide +kernel,rfl,by decide +kernel,by decide +kernel⟩
abbrev MS:List Str:=["_law_text_here","_law_rows_here","_law_here","_law_gone","_law_own","_law_change_here","_law_place","_law_fresh","_law_word","_law_what","_law_many"]
def Uq:bG MS ["_law_text_here","_law_rows_here"] (aB (top 23)):=⟨rfl,rfl,rfl,by decide +kernel,rfl,by decide +kernel,by decide +kernel⟩
abbrev MT:List Str:=["_law_names"]
def Ur:bG MT ["_law_names"] (aB (top 24)):=⟨rfl,rfl,rfl,by decide +kernel,rfl,by decide +kernel,by decide +kernel⟩
abbrev Qp:List Str:=["_law_way","_law_text_here","_law_rows_here","_law_e"]
def Us:bG Qp ["_law_way","_law_text_here","_law_rows_here"] (aB (top 26)):=⟨rfl,rfl,rfl,by decide +kernel,rfl,by decide +kernel,by decide +kernel⟩
abbrev MU:List Str:=["_law_script","_law_text_here","_law_rows_here","_law_marks_here","_law_gone","_law_last","_law_due","_law_at","_law_bad","_law_spoilt","_law_known"]
def Ut:bG MU ["_law_script"] (aB (top 27)):=⟨rfl,rfl,rfl,by decide +kernel,rfl,by decide +kernel,by decide +kernel⟩
noncomputable def cz:List (Str×Nat):=[("NoFit",0)]
noncomputable def rz:List Nat:=[2,3,4,5,6]
noncomputable def su:List Nat:=[2,3,4,5,6]
def hz:Ev.nZ rz 0 prog=true:=by decide +kernel
noncomputable def Uz(s:Stmt):List Expr:=match cE s with
 |[.Try [.Return (some (.Call _ xs _ _)) _] _ _ _ _]=>xs
 |_=>[]
noncomputable def Sf(s:Stmt):List Stmt:=match cE s with
 |[.Try xs _ _ _ _]=>xs
 |_=>[]
set_option maxHeartbeats 0 in
def dS{cl:Nat->Addr}:allB (tb a d) n [(f0.body,top 1,n0),(f1.body,top 6,n1),(f2.body,top 7,n2),(f3.body,top 9,n3),(f4.body,top 10,n4),(f5.body,top 11,n5),(f6.body,top 12,n6),(f7.body,top 13,n7),(f8.body,top 14,n8),(f9.body,top 16,n9),(Ax.body,top 17,MM),(Mz.body,top 18,MN),(MA.body,top 19,MO),(MB.body,top 20,MP),(oJ.body,top 21,MQ),(vt.body,top 22,MR),(BW.body,top 23,MS),(BX.body,top 24,MT),(BY.body,top 27,MU)]/\iI (tb a d) cl cz rz su n (aB (top 7)) n2 true (List.range n2.length) f2.body (cE (top 7))/\iI (tb a d) cl cz rz su n (aB (top 9)) n3 true (List.range n3.length) f3.body (cE (top 9))/\iI (tb a d) cl cz rz su n (aB (top 10)) n4 true (List.range n4.length) f4.body (cE (top 10))/\iI (tb a d) cl cz rz su n (aB (top 11)) n5 true (List.range n5.length) f5.body (cE (top 11))/\iI (tb a d) cl cz rz su n (aB (top 12)) n6 true (List.range n6.length) f6.body (cE (top 12))/\TB (tb a d) cl 1 su n (aB (top 26)) Qp qA.body (Sf (top 26)):=by
 refine⟨⟨?_,?_,?_,?_,?_,?_,?_,?_,?_,?_,?_,?_,?_,?_,?_,?_,?_,?_,?_,trivial⟩,eg ?_ (Hj ?_ (by decide +kernel) (eg ?_ (Hl) (gT (by decide +kernel))) (gT (by decide +kernel))) (gT (by decide +kernel)),eg ?_ (qX (yW (tE (by decide +kernel) (by decide +kernel) rfl rfl ?_ (kD (by decide +kernel))))) (gT (by decide +kernel)),eg ?_ (qX (A9 (by decide +kernel) (by decide +kernel) rfl rfl (uE ?_ (yW (tE (by decide +kernel) (by decide +kernel) rfl rfl ?_ (kD (by decide +kernel)))) (kD (by decide +kernel))))) (gT (by decide +kernel)),eg ?_ (qX (A9 (by decide +kernel) (by decide +kernel) rfl rfl (uE ?_ (yW (tE (by decide +kernel) (by decide +kernel) rfl rfl ?_ (kD (by decide +kernel)))) (kD (by decide +kernel))))) (gT (by decide +kernel)),eg ?_ (uD (by decide +kernel)) (eg ?_ (uD (by decide +kernel)) (eg ?_ (uD (by decide +kernel)) (eg ?_ (Hq ?_ ?_ ?_ (eg ?_ (Hi (by decide +kernel) (tE (by decide +kernel) (by decide +kernel) rfl rfl ?_ (kD (by decide +kernel)))) (gT (by decide +kernel)))) (gT (by decide +kernel))))),La (CZ (by show prog.length<=1000;decide) rfl rfl rfl rfl rfl rfl (by decide +kernel) (by decide +kernel) (by decide +kernel) (by decide +kernel) (by decide +kernel) (by decide +kernel) rfl rfl ?_)⟩;all_goals try dsimp only
 all_goals repeat (first
  | ((with_reducible show JE _ _ _ _ _ _ (.v _) _);exact jv (by decide +kernel))
  | ((with_reducible show JA _ _ _ _ _ _ (.cons _ _) _);refine GC ?_ ?_)
  | ((with_reducible show JA _ _ _ _ _ _ .nil _);refine JH)
  | ((with_reducible show ku _ _ _ _ _ _ (.cons _ _) _);refine Ct ?_ ?_)
  | ((with_reducible show JE _ _ _ _ _ _ (.c (.int _)) _);refine JB)
  | ((with_reducible show ku _ _ _ _ _ _ .nil _);refine GJ)
  | ((with_reducible show JE _ _ _ _ _ _ (.c (.str _)) _);refine JF)
  | ((with_reducible show JE _ _ _ _ _ _ (.bin .add _ _) _);refine mJ (λX g=>Kn) ?_ ?_)
  | ((with_reducible show JE _ _ _ _ _ _ (.tup _) _);refine JJ ?_)
  | ((with_reducible show JE _ _ _ _ _ _ (.cl _ _) _);refine Tj (by decide +kernel) rfl rfl ?_)
  | ((with_reducible show JS _ _ _ _ _ _ (.ret _) _);refine J5 ?_)
  | ((with_reducible show JS _ _ _ _ _ _ (.iff _ _ _) _);refine J7 ?_ ?_ ?_)
  | ((with_reducible show JE _ _ _ _ _ _ (.lst _) _);refine JK ?_)
  | ((with_reducible show JE _ _ _ _ _ _ (.ix _ _) _);refine NI (λX g=>NU) ?_ ?_)
  | ((with_reducible show JE _ _ _ _ _ _ (.bi .len _) _);refine NL (x:="len") (id:="len") (λX g=>KD) ?_ (hb:=Pc) (hv:=by decide +kernel))
  | ((with_reducible show rW _ _ _ _ _ _ (_ :: _) _);refine Ti (by decide +kernel) ?_)
  | ((with_reducible show JI _ _ _ _ _ _ (.seq _) _ _);refine JZ ?_)
  | ((with_reducible show JO _ _ _ _ _ _ (.yes _) _);refine JR ?_)
  | ((with_reducible show JG _ _ _ _ _ _ (.one _) _);exact Th (by decide +kernel))
  | ((with_reducible show JT _ _ _ _ _ _ (.cmp .eq _ _) _);refine kq (λX g=>EW g) ?_ ?_ (iQ _))
  | ((with_reducible show JE _ _ _ _ _ _ (.bin .mul _ _) _);refine mJ (λX g=>KA) ?_ ?_)
  | ((with_reducible show JC _ _ _ _ _ _ .no _);refine NO)
  | ((with_reducible show JE _ _ _ _ _ _ (.comp _ _ _ _) _);refine NW (by decide +kernel) (by decide +kernel) ?_ ?_ ?_ ?_)
  | ((with_reducible show JS _ _ _ _ _ _ (.for _ _ _) _);refine J8 ?_ ?_ ?_)
  | ((with_reducible show JE _ _ _ _ _ _ (.sl _ _ _) _);refine NK (λX g=>Kz) ?_ ?_ ?_)
  | ((with_reducible show JG _ _ _ _ _ _ (.many _) _);refine GI ?_)
  | ((with_reducible show rW _ _ _ _ _ _ [] _);refine GH)
  | ((with_reducible show JT _ _ _ _ _ _ (.cmp .ne _ _) _);refine kq (λX g=>NR g) ?_ ?_ (iQ _))
  | ((with_reducible show JS _ _ _ _ _ _ (.exp _) _);refine J4 ?_)
  | ((with_reducible show JI _ _ _ _ _ _ (.fU (.cons _ .nil)) _ _);refine GG ?_ (hb:=Iz))
  | ((with_reducible show JE _ _ _ _ _ _ (.c .aG) _);refine JD)
  | ((with_reducible show JE _ _ _ _ _ _ (.bin .mod _ _) _);refine mJ (λX g=>Kp) ?_ ?_)
  | ((with_reducible show JE _ _ _ _ _ _ (.fV _ _ _) _);refine JL ?_ ?_ ?_)
  | ((with_reducible show JE _ _ _ _ _ _ (.c (.bl _)) _);refine NG)
  | ((with_reducible show JE _ _ _ _ _ _ (.me .append _ (.cons _ _)) _);refine tu Wj PySem.F.slot_list_append PySem.F.type_list_append (λX g=>AG) rfl ?_ ?_)
  | ((with_reducible show JE _ _ _ _ _ _ (.me .extend _ (.cons _ _)) _);refine tu Wj PySem.F.slot_list_extend PySem.F.type_list_extend (λX g=>AH) rfl ?_ ?_)
  | ((with_reducible show JE _ _ _ _ _ _ (.bin .fdiv _ _) _);refine mJ (λX g=>GW) ?_ ?_)
  | ((with_reducible show JE _ _ _ _ _ _ (.me .join _ (.cons _ _)) _);refine tu PySem.F.plainAttrs_str PySem.F.slot_str_join PySem.F.type_str_join (λX g=>G2) rfl ?_ ?_)
  | ((with_reducible show JS _ _ _ _ _ _ (.set _ (.comp _ _ _ _)) _);refine NY (by decide +kernel) (by decide +kernel) (by decide +kernel) ?_ ?_ ?_ ?_)
  | ((with_reducible show JE _ _ _ _ _ _ (.bin .sub _ _) _);refine mJ (λX g=>Ko) ?_ ?_)
  | ((with_reducible show JE _ _ _ _ _ _ (.cmp .eq _ _) _);refine Am (λX g=>EW g) ?_ ?_ (iQ _))
  | ((with_reducible show JC _ _ _ _ _ _ (.yes _) _);refine J9 ?_)
  | ((with_reducible show JE _ _ _ _ _ _ (.me .count _ (.cons _ _)) _);refine tu Wj W3 Ye (λX g=>CD g) rfl ?_ ?_)
  | ((with_reducible show JT _ _ _ _ _ _ (.cmp .lt _ _) _);refine kq (λX g=>NS) ?_ ?_ (iQ _))
  | ((with_reducible show JT _ _ _ _ _ _ (.cmp .gt _ _) _);refine kq (λX g=>EX) ?_ ?_ (iQ _))
  | ((with_reducible show JO _ _ _ _ _ _ .no _);refine NJ)
  | ((with_reducible show JT _ _ _ _ _ _ (.an _ _) _);refine Rn ?_ ?_)
  | ((with_reducible show JW _ _ _ _ _ _ (.an _ _) (.BoolOp _ (_ :: _ :: _) _));refine EG ?_ ?_)
  | ((with_reducible show JW _ _ _ _ _ _ _ (.BoolOp .And [_] _));refine JM ?_)
  | ((with_reducible show JT _ _ _ _ _ _ (.nt _) _);refine NH ?_)
  | ((with_reducible show JS _ _ _ _ _ _ (.eO _) _);refine KG)
  | ((with_reducible show JS _ _ _ _ _ _ .cnt _);refine J6)
  | ((with_reducible show JT _ _ _ _ _ _ (.cmp .jX _ _) _);refine kq (λX g=>GU) ?_ ?_ (iQ _))
  | ((with_reducible show JE _ _ _ _ _ _ (.bi .jM _) _);refine CP ?_ (h1:=El) (hb:=Pd))
  | ((with_reducible show JE _ _ _ _ _ _ (.cmp .gt _ _) _);refine Am (λX g=>EX) ?_ ?_ (iQ _))
  | ((with_reducible show JT _ _ _ _ _ _ (.cmp .isin _ _) _);refine kq (λX g=>NT g) ?_ ?_ (by with_unfolding_all rfl))
  | ((with_reducible show JS _ _ _ _ _ _ (.iH _ _) _);refine GK ?_ ?_)
  | ((with_reducible show JS _ _ _ _ _ _ (.set _ _) _);refine Rm ?_ ?_;decide +kernel)
  | ((with_reducible show JT _ _ _ _ _ _ _ _);refine JP ?_))
end
def rJ{α:Type _}{l:List α}(h:l.length=1):∃a,l=[a]:=by
 rcases l with _|⟨a,_|⟨b,l⟩⟩<;>simp at h ⊢
def j8{α:Type _}{l:List α}(h:l.length=2):∃a b,l=[a,b]:=by
 rcases l with _|⟨a,l⟩
 .simp at h
 .obtain⟨b,rfl⟩:=rJ (l:=l) (by simpa using h);exact⟨a,b,rfl⟩
def pJ{α:Type _}{l:List α}(h:l.length=3):∃a b c,l=[a,b,c]:=by
 rcases l with _|⟨a,l⟩
 .simp at h
 .obtain⟨b,c,rfl⟩:=j8 (l:=l) (by simpa using h);exact⟨a,b,c,rfl⟩
def Sg{α:Type _}{l:List α}(h:l.length=4):∃a b c d,l=[a,b,c,d]:=by
 rcases l with _|⟨a,l⟩
 .simp at h
 .obtain⟨b,c,d,rfl⟩:=pJ (l:=l) (by simpa using h);exact⟨a,b,c,d,rfl⟩
structure Fg(K:PySem.W.Frag)(x:Str)(i:Nat)(p:Addr)(d:FuncData):Prop where
 a:PySem.W.nsIn K mainGlobals x=some (some (.ref p))
 f:mC K x x (top i) p d
def Fg.t{K:PySem.W.Frag}{h:Heap}{mg:Str->Option Value}{x:Str}{i:Nat}{p:Addr}{d:FuncData}{ps:List Str}(F:Fg K x i p d)(X:K.In h)(G:h.Ns mainGlobals mg)(b:Binds K d ps []):mg x=some (.ref p)/\PySem.W.keepIn K (.ref p)=true/\Binds K d ps []:=⟨WJ X G F.a,F.f.kp,b⟩
def all_mk {l:PySem.W.OpenLaw}{w:World}{K:PySem.W.Frag}{h:Heap}{mg:Str->Option Value}{fa p0 p1 p2 p3 p4 p5 p6 p7 p8 p9 E6 E7 E8 E9 Fb Fc Fd Fe Ff A4:Addr}{d0 d1 d2 d3 d4 d5 d6 d7 d8 d9 Qq Qs Qt Qu Qv Qw Qx Qy Qz MV:FuncData}(X:K.In h) (G:h.Ns mainGlobals mg) (Uu:mg "law" = some (.ref fa))
  (F0:Fg K "size" 1 p0 d0)
  (F1:Fg K "fits" 6 p1 d1)
  (F2:Fg K "done" 7 p2 d2)
  (F3:Fg K "owners" 9 p3 d3)
  (F4:Fg K "shares" 10 p4 d4)
  (F5:Fg K "lost" 11 p5 d5)
  (F6:Fg K "traced" 12 p6 d6)
  (F7:Fg K "traced_once" 13 p7 d7)
  (F8:Fg K "counted" 14 p8 d8)
  (F9:Fg K "_law_cell" 16 p9 d9)
  (MW:Fg K "_law_drawn" 17 E6 Qq)
  (MX:Fg K "_law_text" 18 E7 Qs)
  (MY:Fg K "_law_change" 19 E8 Qt)
  (MZ:Fg K "_law_made" 20 E9 Qu)
  (M4:Fg K "_law_small" 21 Fb Qv)
  (M5:Fg K "_law_rows" 22 Fc Qw)
  (M6:Fg K "_law_marks" 23 Fd Qx)
  (M7:Fg K "_law_often" 24 Fe Qy)
  (M8:Fg K "_law_told" 26 Ff Qz)
  (BZ:Fg K "law" 27 A4 MV)
  {pr Wc C0:Addr} {dr:FuncData} (FR:Fg K "_law_refused" 25 pr dr) (xw:PySem.W.nsIn K mainGlobals "WayError" = some (some (.ref Wc)))
  (X0:K9 K "NoFit" C0 Wc)
  (z0:PySem.W.nsIn K mainGlobals "ValueError" = some none)
  (z1:PySem.W.nsIn K mainGlobals "isinstance" = some none)
  (z2:PySem.W.nsIn K mainGlobals "len" = some none)
  (z3:PySem.W.nsIn K mainGlobals "range" = some none)
  (z4:PySem.W.nsIn K mainGlobals "set" = some none)
  (z5:PySem.W.nsIn K mainGlobals "sorted" = some none)
  {t0:Tok} (q0:PySem.W.nsIn K mainGlobals "__name__" = some (some (.str "law_pastways_k43_owners" t0)))
  : ∃fd:FuncData,(∀(s:Shared) (v:Value),BindsTo s fd ⟨[v],[]⟩ [("_law_script",v)])/\∀base:Heap,K.In base->base.Ns mainGlobals mg->fK l.prog w K mg base jd 60 fa fd ["_law_script"] (ko K prog 100000 60 19):=by
 have e:=Uu.symm.trans (WJ X G BZ.a);have e2:A4=fa:=by injection e with e;injection e with e;exact e.symm
 subst e2
 let aa:Nat->Addr:=λk=>[p0,p1,p2,p3,p4,p5,p6,p7,p8,p9,E6,E7,E8,E9,Fb,Fc,Fd,Fe,Ff,A4].getD k p0
 let dd:Nat->FuncData:=λk=>[d0,d1,d2,d3,d4,d5,d6,d7,d8,d9,Qq,Qs,Qt,Qu,Qv,Qw,Qx,Qy,Qz,MV].getD k d0
 have T:Top l.prog w K mg (tb aa dd):=by
  refine⟨λf i hi=>(show ∀i∈(tb aa dd).fi,mg i.name=some (.ref i.addr)/\PySem.W.keepIn K (.ref i.addr)=true/\Binds K i.fd i.ps []from ?_) i (VD hi),?_,?_,?_⟩
  .refine List.forall_mem_cons.mpr ⟨F0.t X G (F0.f.binds λ_ _ _ _ _ _ us hl=>by obtain⟨_,rfl⟩:=rJ hl;rfl),?_⟩;refine List.forall_mem_cons.mpr ⟨F1.t X G (F1.f.binds λ_ _ _ _ _ _ us hl=>by obtain⟨_,_,rfl⟩:=j8 hl;rfl),?_⟩;refine List.forall_mem_cons.mpr ⟨F2.t X G (F2.f.binds λ_ _ _ _ _ _ us hl=>by obtain⟨_,_,rfl⟩:=j8 hl;rfl),?_⟩;refine List.forall_mem_cons.mpr ⟨F3.t X G (F3.f.binds λ_ _ _ _ _ _ us hl=>by obtain⟨_,_,rfl⟩:=j8 hl;rfl),?_⟩;refine List.forall_mem_cons.mpr ⟨F4.t X G (F4.f.binds λ_ _ _ _ _ _ us hl=>by obtain⟨_,_,rfl⟩:=j8 hl;rfl),?_⟩;refine List.forall_mem_cons.mpr ⟨F5.t X G (F5.f.binds λ_ _ _ _ _ _ us hl=>by obtain⟨_,_,rfl⟩:=j8 hl;rfl),?_⟩;refine List.forall_mem_cons.mpr ⟨F6.t X G (F6.f.binds λ_ _ _ _ _ _ us hl=>by obtain⟨_,_,rfl⟩:=j8 hl;rfl),?_⟩;refine List.forall_mem_cons.mpr ⟨F7.t X G (F7.f.binds λ_ _ _ _ _ _ us hl=>by obtain⟨_,_,_,rfl⟩:=pJ hl;rfl),?_⟩;refine List.forall_mem_cons.mpr ⟨F8.t X G (F8.f.binds λ_ _ _ _ _ _ us hl=>by obtain⟨_,rfl⟩:=rJ hl;rfl),?_⟩;refine List.forall_mem_cons.mpr ⟨F9.t X G (F9.f.binds λ_ _ _ _ _ _ us hl=>by obtain⟨_,_,rfl⟩:=j8 hl;rfl),?_⟩;refine List.forall_mem_cons.mpr ⟨MW.t X G (MW.f.binds λ_ _ _ _ _ _ us hl=>by obtain⟨_,_,_,rfl⟩:=pJ hl;rfl),?_⟩;refine List.forall_mem_cons.mpr ⟨MX.t X G (MX.f.binds λ_ _ _ _ _ _ us hl=>by obtain⟨_,_,_,rfl⟩:=pJ hl;rfl),?_⟩;refine List.forall_mem_cons.mpr ⟨MY.t X G (MY.f.binds λ_ _ _ _ _ _ us hl=>by obtain⟨_,_,_,rfl⟩:=pJ hl;rfl),?_⟩;refine List.forall_mem_cons.mpr ⟨MZ.t X G (MZ.f.binds λ_ _ _ _ _ _ us hl=>by obtain⟨_,_,rfl⟩:=j8 hl;rfl),?_⟩;refine List.forall_mem_cons.mpr ⟨M4.t X G (M4.f.binds λ_ _ _ _ _ _ us hl=>by obtain⟨_,_,_,rfl⟩:=pJ hl;rfl),?_⟩;refine List.forall_mem_cons.mpr ⟨M5.t X G (M5.f.binds λ_ _ _ _ _ _ us hl=>by obtain⟨_,_,_,_,rfl⟩:=Sg hl;rfl),?_⟩;refine List.forall_mem_cons.mpr ⟨M6.t X G (M6.f.binds λ_ _ _ _ _ _ us hl=>by obtain⟨_,_,rfl⟩:=j8 hl;rfl),?_⟩;refine List.forall_mem_cons.mpr ⟨M7.t X G (M7.f.binds λ_ _ _ _ _ _ us hl=>by obtain⟨_,rfl⟩:=rJ hl;rfl),?_⟩;refine List.forall_mem_cons.mpr ⟨M8.t X G (M8.f.binds λ_ _ _ _ _ _ us hl=>by obtain⟨_,_,_,rfl⟩:=pJ hl;rfl),?_⟩;refine List.forall_mem_cons.mpr ⟨BZ.t X G (BZ.f.binds λ_ _ _ _ _ _ us hl=>by obtain⟨_,rfl⟩:=rJ hl;rfl),?_⟩;exact λ_ h=>nomatch h
  .exact(show ∀x∈yh,mg x=none from List.forall_mem_cons.mpr ⟨VZ X G z0,List.forall_mem_cons.mpr ⟨VZ X G z1,List.forall_mem_cons.mpr ⟨VZ X G z2,List.forall_mem_cons.mpr ⟨VZ X G z3,List.forall_mem_cons.mpr ⟨VZ X G z4,List.forall_mem_cons.mpr ⟨VZ X G z5,λ_ h=>nomatch h⟩⟩⟩⟩⟩⟩)
  .exact λx d hx=>(show ∀y∈(tb aa dd).cs,∃v u,mg y.1=some u/\RelV v u/\wD K y.2 v from List.forall_mem_cons.mpr ⟨⟨.str "law_pastways_k43_owners",_,WJ X G q0,⟨_,rfl⟩,λ_ _=>⟨by decide +kernel,by decide⟩⟩,λ_ h=>nomatch h⟩) (x,d) hx
  .exact λx d hx=>(show ∀y∈(tb aa dd).dk,∃a,mg y.1=some (.ref a)/\∀h:Heap,K.In h->StrTab l.prog w h a (tabOf y.2)from λ_ h=>nomatch h) (x,d) hx
 refine⟨MV,λs v=>?_,λbase _ _=>?_⟩
 .obtain⟨oc,od,kV,doc,pm,an,cdv,ct,osl,e,_⟩:=BZ.f.ex;rw[e];exact .of_eq rfl
 let cl:Nat->Addr:=λk=>[C0].getD k C0
 have hc:∀x c,(x,c)∈cz->mg x=some (.ref (cl c))/\A6 K (cl c):=λx c hx=>(show ∀y∈cz,mg y.1=some (.ref (cl y.2))/\A6 K (cl y.2)from List.forall_mem_cons.mpr ⟨⟨WJ X G X0.ns,X0.rs⟩,λ_ h=>nomatch h⟩) (x,c) hx;have kc:∀c,c<1->(λC c=>E5 K C C0 c) (cl c) c/\PySem.W.exmOne K (.ref (cl c)) (.ref Wc)=some true:=λc h=>match c,h with
  |0,_=>⟨X0.cs,X0.em⟩
 have R:CU K mg pr dr (top 25) Wc (λC c=>E5 K C C0 c):=⟨FR.f,⟨rfl,rfl,rfl,by decide +kernel,rfl,by decide +kernel,by decide +kernel⟩,FR.f.binds λ_ _ _ _ _ _ us hl=>by obtain⟨_,rfl⟩:=rJ hl;rfl,WJ X G FR.a,WJ X G xw,λY a oe C c h1 h2 h3 h4 hp ho hd k=>A3 hp ho hd (by rw[h3];exact k) (by show Y.env.scope.names.lookup _=_;rw[h2];rfl) (by show Y.env.scope.names.lookup _=_;rw[h2];rfl) (by show Y.env.scope.names.lookup _=_;rw[h2];rfl) (by rw[h4];exact WJ X G X0.ns) (by rw[h4];exact VZ X G z1) (by rw[h4];exact VZ X G z0) (by decide) h1 (by rw[h2];rfl) (by rw[h2];rfl) rfl rfl⟩
 refine(qY (P:=l.prog) (w:=w) (G:=tb aa dd) (cl:=cl) (su:=su) (base:=base) (λn A0 A1=>⟨λf i hi=>?_,λf i hi hu=>?_⟩) 60).1 19 (FT aa dd) rfl
 .match f,hi with
  |0,hi=>obtain rfl:i0 aa dd=i:=kI hi;exact ef (i:=i0 aa dd) T A0 F0.f s0 rfl rfl (@allB.get _ _ _ 0 (f0.body,top 1,n0) (dS (cl:=cl)).1 rfl)
  |1,hi=>obtain rfl:i1 aa dd=i:=kI hi;exact ef (i:=i1 aa dd) T A0 F1.f s1 rfl rfl (@allB.get _ _ _ 1 (f1.body,top 6,n1) (dS (cl:=cl)).1 rfl)
  |2,hi=>obtain rfl:i2 aa dd=i:=kI hi;exact ef (i:=i2 aa dd) T A0 F2.f s2 rfl rfl (@allB.get _ _ _ 2 (f2.body,top 7,n2) (dS (cl:=cl)).1 rfl)
  |3,hi=>obtain rfl:i3 aa dd=i:=kI hi;exact ef (i:=i3 aa dd) T A0 F3.f s3 rfl rfl (@allB.get _ _ _ 3 (f3.body,top 9,n3) (dS (cl:=cl)).1 rfl)
  |4,hi=>obtain rfl:i4 aa dd=i:=kI hi;exact ef (i:=i4 aa dd) T A0 F4.f s4 rfl rfl (@allB.get _ _ _ 4 (f4.body,top 10,n4) (dS (cl:=cl)).1 rfl)
  |5,hi=>obtain rfl:i5 aa dd=i:=kI hi;exact ef (i:=i5 aa dd) T A0 F5.f s5 rfl rfl (@allB.get _ _ _ 5 (f5.body,top 11,n5) (dS (cl:=cl)).1 rfl)
  |6,hi=>obtain rfl:i6 aa dd=i:=kI hi;exact ef (i:=i6 aa dd) T A0 F6.f s6 rfl rfl (@allB.get _ _ _ 6 (f6.body,top 12,n6) (dS (cl:=cl)).1 rfl)
  |7,hi=>obtain rfl:i7 aa dd=i:=kI hi;exact ef (i:=i7 aa dd) T A0 F7.f s7 rfl rfl (@allB.get _ _ _ 7 (f7.body,top 13,n7) (dS (cl:=cl)).1 rfl)
  |8,hi=>obtain rfl:i8 aa dd=i:=kI hi;exact ef (i:=i8 aa dd) T A0 F8.f s8 rfl rfl (@allB.get _ _ _ 8 (f8.body,top 14,n8) (dS (cl:=cl)).1 rfl)
  |9,hi=>obtain rfl:i9 aa dd=i:=kI hi;exact ef (i:=i9 aa dd) T A0 F9.f s9 rfl rfl (@allB.get _ _ _ 9 (f9.body,top 16,n9) (dS (cl:=cl)).1 rfl)
  |10,hi=>obtain rfl:MF aa dd=i:=kI hi;exact ef (i:=MF aa dd) T A0 MW.f PF rfl rfl (@allB.get _ _ _ 10 (Ax.body,top 17,MM) (dS (cl:=cl)).1 rfl)
  |11,hi=>obtain rfl:MG aa dd=i:=kI hi;exact ef (i:=MG aa dd) T A0 MX.f EL rfl rfl (@allB.get _ _ _ 11 (Mz.body,top 18,MN) (dS (cl:=cl)).1 rfl)
  |12,hi=>obtain rfl:i12 aa dd=i:=kI hi;exact ef (i:=i12 aa dd) T A0 MY.f s12 rfl rfl (@allB.get _ _ _ 12 (MA.body,top 19,MO) (dS (cl:=cl)).1 rfl)
  |13,hi=>obtain rfl:MH aa dd=i:=kI hi;exact ef (i:=MH aa dd) T A0 MZ.f Um rfl rfl (@allB.get _ _ _ 13 (MB.body,top 20,MP) (dS (cl:=cl)).1 rfl)
  |14,hi=>obtain rfl:MI aa dd=i:=kI hi;exact ef (i:=MI aa dd) T A0 M4.f Uo rfl rfl (@allB.get _ _ _ 14 (oJ.body,top 21,MQ) (dS (cl:=cl)).1 rfl)
  |15,hi=>obtain rfl:MJ aa dd=i:=kI hi;exact ef (i:=MJ aa dd) T A0 M5.f Up rfl rfl (@allB.get _ _ _ 15 (vt.body,top 22,MR) (dS (cl:=cl)).1 rfl)
  |16,hi=>obtain rfl:MK aa dd=i:=kI hi;exact ef (i:=MK aa dd) T A0 M6.f Uq rfl rfl (@allB.get _ _ _ 16 (BW.body,top 23,MS) (dS (cl:=cl)).1 rfl)
  |17,hi=>obtain rfl:ML aa dd=i:=kI hi;exact ef (i:=ML aa dd) T A0 M7.f Ur rfl rfl (@allB.get _ _ _ 17 (BX.body,top 24,MT) (dS (cl:=cl)).1 rfl)
  |18,hi=>obtain rfl:Qo aa dd=i:=kI hi;exact CW (ix:=3) (nc:=1) T A0 A1 R kc M8.f Us rfl rfl rfl (dS (cl:=cl)).2.2.2.2.2.2 rfl rfl rfl rfl
  |19,hi=>obtain rfl:FT aa dd=i:=kI hi;exact ef (i:=FT aa dd) T A0 BZ.f Ut rfl rfl (@allB.get _ _ _ 18 (BY.body,top 27,MU) (dS (cl:=cl)).1 rfl)
  |j+20,hi=>exact nomatch (show(none:Option FI)=some i from hi)
 .match f,hi,hu with
  |2,hi,_=>obtain rfl:i2 aa dd=i:=kI hi;exact mQ (i:=i2 aa dd) T A0 A1 hz hc F2.f s2 rfl rfl (dS (cl:=cl)).2.1
  |3,hi,_=>obtain rfl:i3 aa dd=i:=kI hi;exact mQ (i:=i3 aa dd) T A0 A1 hz hc F3.f s3 rfl rfl (dS (cl:=cl)).2.2.1
  |4,hi,_=>obtain rfl:i4 aa dd=i:=kI hi;exact mQ (i:=i4 aa dd) T A0 A1 hz hc F4.f s4 rfl rfl (dS (cl:=cl)).2.2.2.1
  |5,hi,_=>obtain rfl:i5 aa dd=i:=kI hi;exact mQ (i:=i5 aa dd) T A0 A1 hz hc F5.f s5 rfl rfl (dS (cl:=cl)).2.2.2.2.1
  |6,hi,_=>obtain rfl:i6 aa dd=i:=kI hi;exact mQ (i:=i6 aa dd) T A0 A1 hz hc F6.f s6 rfl rfl (dS (cl:=cl)).2.2.2.2.2.1
  |0,_,hu=>exact absurd hu (by decide)
  |1,_,hu=>exact absurd hu (by decide)
  |7,_,hu=>exact absurd hu (by decide)
  |8,_,hu=>exact absurd hu (by decide)
  |9,_,hu=>exact absurd hu (by decide)
  |10,_,hu=>exact absurd hu (by decide)
  |11,_,hu=>exact absurd hu (by decide)
  |12,_,hu=>exact absurd hu (by decide)
  |13,_,hu=>exact absurd hu (by decide)
  |14,_,hu=>exact absurd hu (by decide)
  |15,_,hu=>exact absurd hu (by decide)
  |16,_,hu=>exact absurd hu (by decide)
  |17,_,hu=>exact absurd hu (by decide)
  |18,_,hu=>exact absurd hu (by decide)
  |19,_,hu=>exact absurd hu (by decide)
  |j+20,hi,_=>exact nomatch (show(none:Option FI)=some i from hi)
end Lw
namespace Lg
open Pv
open Lw (prog f3 f4 f5 oJ vt BW BX qA BY zN zO FQ FP zI zJ zK zL zM)
open Ev (deep big rep cut bz)
def FU(ns:List Int)(k:Int)(x:List Nat)(b:Nat)(h:x.length<=b):(chg ns k x).length<=2*b+2/\tot (chg ns k x)<=3*b+3:=by
 have h1:=m8 ns k x (x.length+1);have h2:=sO ns k x (x.length+1);simp only[chg];omega
def yi(a b:Nat):Pv.bH .add (.int (a:Int)) (.int (b:Int))=some (.int ((a+b:Nat):Int)):=by rw[aZ];congr 2
def M9{a b:Nat}(h:b<=a):Pv.bH .sub (.int (a:Int)) (.int (b:Int))=some (.int ((a - b:Nat):Int)):=by rw[uR];congr 2;omega
def yj{c o:List Pt}{t u:List Nat}(h:br c t=true)(h2:br o u=true):br (c++o) (t++u)=true/\aM (c++o) (t++u)=aM c t++aM o u:=by
 have hb:(aA (gD c)).length=t.length:=by rw[<-Mu,rE h]
 refine⟨?_,?_⟩
 .rw[ve,pA];rw[ve]at h h2;exact pB h h2
 .rw[pC,Ij,qs,hb,<-pC,<-pC];simp
def pK(u:List Nat):br [.keep u.length] u=true/\aM [.keep u.length] u=u:=by simp[br,aM]
def FY(i:Int):Ev.bE 70 i=true:=by simp[Ev.bE]
def drawn{ns:List Int}(k:Int)(m:Nat)(h:0<m):∃p:Nat,cC ns k (m:Int)=(p:Int)/\p<m:=by
 have h1:=iT ns k (many:=(m:Int)) (by omega);have h2:=iU ns k (many:=(m:Int)) (by omega);exact⟨(cC ns k (m:Int)).toNat,by omega,by omega⟩
section
variable{w n:Nat}{ns:List Int}
abbrev Mk:=Nat×Ow
noncomputable def cW(m:Mk):V:=.tup [.str [m.1],m.2.v]
noncomputable def cD(o s:List Nat):List Mk:=s.map λd=>(d,some o)
noncomputable def m0(t:List Nat):List Mk:=t.map λd=>(d,none)
noncomputable def iF(t:List Nat)(rs:List Row)(h:List Mk)(o:List Nat)(c p:List Pt)(o3 o7 x y z:Option Sl):Fr:=[some (.val (.str t)),some (.val (.lst (rs.map aT))),some (.val (.lst (h.map cW))),o3,some (.val (.str o)),some (.val (bM c)),some (.val (.int (aC p:Nat))),o7,x,y,z,none,none,none,none,none,none,none,none]
noncomputable def rF(t:List Nat)(rs p:List Row)(o3 x4 x5 x6 x7 x8 x9 gZ:Option Sl):Fr:=[some (.val (.str t)),some (.val (.lst (rs.map aT))),some (.val (.lst ((cB cD p (m0 t)).map cW))),o3,x4,x5,x6,x7,x8,x9,gZ,none,none,none,none,none,none,none,none]
def Na(h:List Mk)(b k:Nat)(hk:k<=10000):fN (.lst (h.map cW)) (some (b:Int)) (some ((b+k:Nat):Int))=some (.lst (((h.drop b).take k).map cW)):=by
 have e:cut (h.map cW) (some (b:Int)) (some ((b+k:Nat):Int))=((h.map cW).drop b).take k:=iV _ b k;show dR (cut (h.map cW) _ _)=_;rw[e,<-Wu,<-WU];exact b9 (bD (by simp;omega))
def IA{t:List Nat}{rs:List Row}{h g:List Mk}{o:List Nat}{c p l:List Pt}{q:Pt}{o3 o7 x y z:Option Sl}{Q:Fl->Fr->Prop}(hpl:p++q :: l=c)(hg:g.length+tot c<=2000)(h3:lv o3 ((g++cJ p h).map cW))(h7:lv o7 ((b6 (cD o) p h).map cW))(hx:vo x)(hy:vo y)(hz:vo z)
  (k:∀o3 o7 x y z,lv o3 ((g++cJ (p++[q]) h).map cW)->lv o7 ((b6 (cD o) (p++[q]) h).map cW)->vo x->vo y->vo z->Q .nx (iF t rs h o c (p++[q]) o3 o7 x y z)):Wp (turnF (run prog w n) w (.many [8,9]) zN q.v (iF t rs h o c p o3 o7 x y z)) Q:=by
 have e2:tot p+(q.n+tot l)=tot c:=by rw[<-hpl,gn,eF]
 have lt:=ni (pu:=cD o) (λs=>by simp[cD]) p h;have lg:=jJ p h;have la:=kJ (pu:=cD o) [q] p h;have ga:=kK [q] p h;have ba:=gq p [q];cases q with
 |put s=>
  have bq:aC (p++[.put s])=aC p:=by rw[ba];simp[aC,tot,iE]
  have mk:=b9 (x:=(cD o s).map cW) (bD (by simp[Pt.n,cD]at e2 ⊢;omega));have ad:=jF (x:=(b6 (cD o) p h).map cW) (y:=(cD o s).map cW) (by simp[cD,Pt.n]at e2 ⊢;omega);have cm:b7 (gm (run prog w n) (.tup (.cons (.v 12) (.cons (.v 4) .nil))) (.one 12) .no (iF t rs h o c p o3 o7 (some (.val (.str [112,117,116]))) (some (.val (.str s))) z)) (s.map λd=>V.str [d])=some ((cD o s).map cW):=by
   have:=er (f:=gm (run prog w n) (.tup (.cons (.v 12) (.cons (.v 4) .nil))) (.one 12) .no (iF t rs h o c p o3 o7 (some (.val (.str [112,117,116]))) (some (.val (.str s))) z)) (λd=>V.str [d]) (λd=>cW (d,some o)) s λd _=>cH rfl (bA (ak (au rfl) (ak (au rfl) az)) cg);rw[this];simp[cD]
  refine di (af:=iF t rs h o c p o3 o7 (some (.val (.str [112,117,116]))) (some (.val (.str s))) z) (gH rfl hx rfl hy) ?_;refine aj (aV (b:=true) (aK rfl (bh (au rfl) (aD rfl) gy) rfl) (λ_=>?_) λh=>absurd h (by decide));refine aj (aX (aH (DL rfl rfl h7) (dZ (cV (dz rfl) rfl) rfl cm mk) ad) rfl (vd rfl h7) (aQ (aQ ?_)));have:=k o3 (some (.val (.lst ((b6 (cD o) p h).map cW++(cD o s).map cW)))) _ _ z (by rw[ga];simpa[cJ]using h3) (by rw[la,Uy];simp only[b6,Ux];exact .val) (.val (v:=.str [112,117,116])) (.val (v:=.str s)) hz;unfold iF at this ⊢;rw[bq]at this;exact this
 |keep m=>
  have bq:aC (p++[.keep m])=aC p+m:=by rw[ba];simp[aC,tot,iE,Pt.n]
  have ad:=jF (x:=(b6 (cD o) p h).map cW) (y:=((h.drop (aC p)).take m).map cW) (by simp[Pt.n]at e2 ⊢;omega);have sl:=Na h (aC p) m (by simp[Pt.n]at e2;omega);refine di (af:=iF t rs h o c p o3 o7 (some (.val (.str [107,101,101,112]))) (some (.val (.int (m:Int)))) z) (gH rfl hx rfl hy) ?_;refine aj (aV (b:=false) (aK rfl (bh (au rfl) (aD rfl) gy) rfl) (λh=>absurd h (by decide)) λ_=>?_);refine aj (aX (aq:=iF t rs h o c p o3 o7 (some (.val (.str [107,101,101,112]))) (some (.val (.int (m:Int)))) (some (.val (.int (m:Int))))) (iN (b:=true) (aK rfl (bh (au rfl) (aD rfl) gy) rfl) (λ_=>au rfl) λh=>absurd h (by decide)) rfl (eE rfl hz) ?_);refine aj (aV (b:=true) (aK rfl (bh (au rfl) (aD rfl) gy) rfl) (λ_=>?_) λh=>absurd h (by decide));refine aj (aX (aH (DL rfl rfl h7) (m7 (au rfl) (fz (au rfl)) (fz (aH (au rfl) (au rfl) (yi (aC p) m))) sl) ad) rfl (vd rfl h7) (aQ ?_));refine aj (aX (aH (au rfl) (au rfl) (yi (aC p) m)) rfl rfl (aQ (aQ ?_)));have:=k o3 (some (.val (.lst ((b6 (cD o) p h).map cW++((h.drop (aC p)).take m).map cW)))) _ _ _ (by rw[ga];simpa[cJ]using h3) (by rw[la,Uy];simp only[b6,Ux];exact .val) (.val (v:=.str [107,101,101,112])) (.val (v:=.int (m:Int))) (.val (v:=.int (m:Int)));unfold iF at this ⊢;rw[bq]at this;exact this
 |drop s=>
  have bq:aC (p++[.drop s])=aC p+s.length:=by rw[ba];simp[aC,tot,iE,Pt.n]
  have ad:=jF (x:=(g++cJ p h).map cW) (y:=((h.drop (aC p)).take s.length).map cW) (by simp[Pt.n]at e2 ⊢;omega);have sl:=Na h (aC p) s.length (by simp[Pt.n]at e2;omega);have ls:dO .len [.str s]=some (.int (s.length:Nat)):=WA (by simp[Pt.n]at e2;omega);refine di (af:=iF t rs h o c p o3 o7 (some (.val (.str [100,114,111,112]))) (some (.val (.str s))) z) (gH rfl hx rfl hy) ?_;refine aj (aV (b:=false) (aK rfl (bh (au rfl) (aD rfl) gy) rfl) (λh=>absurd h (by decide)) λ_=>?_);refine aj (aX (aq:=iF t rs h o c p o3 o7 (some (.val (.str [100,114,111,112]))) (some (.val (.str s))) (some (.val (.int (s.length:Nat))))) (iN (b:=false) (aK rfl (bh (au rfl) (aD rfl) gy) rfl) (λh=>absurd h (by decide)) λ_=>gf (ak (au rfl) az) ls) rfl (eE rfl hz) ?_);refine aj (aV (b:=false) (aK rfl (bh (au rfl) (aD rfl) gy) rfl) (λh=>absurd h (by decide)) λ_=>?_);refine aj (aX (aH (DL rfl rfl h3) (m7 (au rfl) (fz (au rfl)) (fz (aH (au rfl) (au rfl) (yi (aC p) s.length))) sl) ad) rfl (vd rfl h3) (aQ ?_));refine aj (aX (aH (au rfl) (au rfl) (yi (aC p) s.length)) rfl rfl (aQ (aQ ?_)));have:=k (some (.val (.lst ((g++cJ p h).map cW++((h.drop (aC p)).take s.length).map cW)))) o7 _ _ _ (by rw[ga,<-VN,Uy (l₁:=g++cJ p h)];simp only[cJ,Ux];exact .val) (by rw[la];simpa[b6]using h7) (.val (v:=.str [100,114,111,112])) (.val (v:=.str s)) (.val (v:=.int (s.length:Nat)));unfold iF at this ⊢;rw[bq]at this;exact this
def Em{t:List Nat}{rs p:List Row}{r:Row}{g:List Mk}{o3 x4 x5 x6 x7 x8 x9 gZ:Option Sl}{Q:Fl->Fr->Prop}(hg:g.length+tot r.2<=2000)(h3:lv o3 (g.map cW))(h4:vo x4)(h5:vo x5)(h6:vo x6)(h7:vo x7)(h8:vo x8)(h9:vo x9)(sq:vo gZ)
  (k:∀o3 x4 x5 x6 x7 x8 x9 gZ,lv o3 ((g++cJ r.2 (cB cD p (m0 t))).map cW)->vo x4->vo x5->vo x6->vo x7->vo x8->vo x9->vo gZ->Q .nx (rF t rs (p++[r]) o3 x4 x5 x6 x7 x8 x9 gZ)):Wp (turnF (run prog w n) w (.many [4,5]) zO (aT r) (rF t rs p o3 x4 x5 x6 x7 x8 x9 gZ)) Q:=by
 have ow:=pG (pu:=cD) r p (m0 t);unfold rF at k ⊢;rw[ow]at k;generalize cB cD p (m0 t)=h at k
 refine di (af:=[some (.val (.str t)),some (.val (.lst (rs.map aT))),some (.val (.lst (h.map cW))),o3,some (.val (.str r.1)),some (.val (bM r.2)),x6,x7,x8,x9,gZ,none,none,none,none,none,none,none,none]) (gH rfl h4 rfl h5) ?_;refine aj (aX (aD rfl) rfl (eE rfl h6) ?_);refine aj (gA (l:=[]) (cR az fS) rfl (eE rfl h7) ?_);refine aj (iO (vs:=r.2.map Pt.v) (cV (dz rfl) rfl) ?_);refine fu (e:=Pt.v) (λp l fr=>p++l=r.2/\∃o3 o7 x y z,lv o3 ((g++cJ p h).map cW)/\lv o7 ((b6 (cD r.1) p h).map cW)/\vo x/\vo y/\vo z/\fr=iF t rs h r.1 r.2 p o3 o7 x y z) (λp q l fr ⟨hpl,o3,o7,x,y,z,h3,h7,hx,hy,hz,hfr⟩=>?_) (λp fr ⟨hpl,o3,o7,x,y,z,h3,h7,hx,hy,hz,hfr⟩=>?_) r.2 [] _ ⟨rfl,o3,some (.own []),x8,x9,gZ,by simpa[cJ]using h3,.own,h8,h9,sq,rfl⟩
 .subst hfr;refine IA hpl hg h3 h7 hx hy hz λo3 o7 x y z h3 h7 hx hy hz=>?_;rw[eG];exact⟨by simpa using hpl,o3,o7,x,y,z,h3,h7,hx,hy,hz,rfl⟩
 .subst hfr;rw[Ux]at hpl;subst hpl;refine aj (Mf (j:=7) rfl h7 rfl (aQ ?_));exact k o3 _ _ _ _ x y z h3 (.val (v:=.str r.1)) (.val (v:=bM r.2)) (.val (v:=.int (aC r.2:Nat))) (.val (v:=.lst ((b6 (cD r.1) r.2 h).map cW))) hx hy hz
def B3{t:List Nat}{rs:List Row}(R:jg t rs):run prog w (n+1) 16 [.val (.str t),.val (.lst (rs.map aT))]=some (.tup [.lst ((cB cD rs (m0 t)).map λm=>m.2.v),.lst ((cY cD rs (m0 t)).map λm=>m.2.v),.str ((cB cD rs (m0 t)).map (·.1))],[]):=by
 have bt:=R.tt;have mk:=b9 (x:=(m0 t).map cW) (bD (by simp[m0];omega));have cm:∀fr:Fr,fr=[some (.val (.str t)),some (.val (.lst (rs.map aT))),none,none,none,none,none,none,none,none,none,none,none,none,none,none,none,none,none]->b7 (gm (run prog w n) (.tup (.cons (.v 11) (.cons (.c (.aG)) .nil))) (.one 11) .no fr) (t.map λd=>V.str [d])=some ((m0 t).map cW):=λfr e=>by
  subst e;have:=er (f:=gm (run prog w n) (.tup (.cons (.v 11) (.cons (.c (.aG)) .nil))) (.one 11) .no [some (.val (.str t)),some (.val (.lst (rs.map aT))),none,none,none,none,none,none,none,none,none,none,none,none,none,none,none,none,none]) (λd=>V.str [d]) (λd=>cW (d,none)) t λd _=>cH rfl (bA (ak (au rfl) (ak (aD rfl) az)) cg);rw[this];simp[m0]
 have ol:=nT (pu:=cD) (λo s=>by simp[cD]) rs (m0 t) t (by simp[m0]);have gl:=nj (pu:=cD) rs (m0 t);have tb:=qt (bK rs) t;refine bN (fn:=BW) rfl rfl ?_;refine aj (aX (dZ (cV (dz rfl) rfl) rfl (cm _ rfl) mk) rfl rfl ?_);refine aj (gA (l:=[]) (cR az fS) rfl rfl ?_);refine aj (iO (vs:=rs.map aT) (cV (dz rfl) rfl) ?_);refine fu (e:=aT) (λp l fr=>p++l=rs/\∃o3 x4 x5 x6 x7 x8 x9 gZ,lv o3 ((cY cD p (m0 t)).map cW)/\vo x4/\vo x5/\vo x6/\vo x7/\vo x8/\vo x9/\vo gZ/\fr=rF t rs p o3 x4 x5 x6 x7 x8 x9 gZ) (λp r l fr ⟨hpl,o3,x4,x5,x6,x7,x8,x9,gZ,h3,h4,h5,h6,h7,h8,h9,sq,hfr⟩=>?_) (λp fr ⟨hpl,o3,x4,x5,x6,x7,x8,x9,gZ,h3,h4,h5,h6,h7,h8,h9,sq,hfr⟩=>?_) rs [] _ ⟨rfl,some (.own []),none,none,none,none,none,none,none,.own,.none,.none,.none,.none,.none,.none,.none,rfl⟩
 .subst hfr;obtain⟨q1,q2,q3,q4,q5⟩:=R.at hpl;have gp:=nj (pu:=cD) p (m0 t);refine Em (g:=cY cD p (m0 t)) (by omega) h3 h4 h5 h6 h7 h8 h9 sq λo3 x4 x5 x6 x7 x8 x9 gZ h3 h4 h5 h6 h7 h8 h9 sq=>?_;rw[eG];exact⟨by simpa using hpl,o3,x4,x5,x6,x7,x8,x9,gZ,by rw[pH];exact h3,h4,h5,h6,h7,h8,h9,sq,rfl⟩
 .subst hfr;rw[Ux]at hpl;subst hpl;have sh:fc (rF t p p o3 x4 x5 x6 x7 x8 x9 gZ)=rF t p p (some (.val (.lst ((cY cD p (m0 t)).map cW)))) x4 x5 x6 x7 x8 x9 gZ:=by
   show [_,_,_,o3.map Sl.cj,x4.map Sl.cj,x5.map Sl.cj,x6.map Sl.cj,x7.map Sl.cj,x8.map Sl.cj,x9.map Sl.cj,gZ.map Sl.cj,_,_,_,_,_,_,_,_]=_;rw[Ih h3,b5 h4,b5 h5,b5 h6,b5 h7,b5 h8,b5 h9,b5 sq];rfl
  refine aj (cK (af:=rF t p p (some (.val (.lst ((cY cD p (m0 t)).map cW)))) x4 x5 x6 x7 x8 x9 gZ) (v:=.tup [.lst ((cB cD p (m0 t)).map λm=>m.2.v),.lst ((cY cD p (m0 t)).map λm=>m.2.v),.str ((cB cD p (m0 t)).map (·.1))]) ?_ ⟨rfl,rfl⟩);rw[sh];unfold rF;clear sh h3;generalize cB cD p (m0 t)=H at *
  generalize cY cD p (m0 t)=Gn at *
  have k1:dR (H.map λm=>m.2.v)=some _:=b9 (bD (by simp;omega));have k2:dR (Gn.map λm=>m.2.v)=some _:=b9 (bD (by simp;omega));have k3:dR (H.map λm=>V.str [m.1])=some _:=b9 (bD (by simp;omega));have jn:eZ .join (.str []) [.lst (H.map λm=>V.str [m.1])]=some (.str (H.map (·.1))):=by
   show((jf _).bind strsOf).bind _=_;rw[nM,WD,jl (λm:Mk=>[m.1]),WD,cS ?_,m5,j7];have:(H.map λm:Mk=>[m.1]).map (·.length)=H.map λ_=>1:=by simp
   rw[this];have e:∀l:List Mk,(l.map λ_=>1).sum=l.length:=λl=>by induction l<;>simp_all<;>omega
   rw[e];exact bD (by simp;omega)
  refine bA (ak (dZ (cV (dz rfl) rfl) rfl (er cW (λm=>m.2.v) H λm _=>cH rfl (au rfl)) k1) (ak (dZ (cV (dz rfl) rfl) rfl (er cW (λm=>m.2.v) Gn λm _=>cH rfl (au rfl)) k2) (ak (qi rfl (aD rfl) (ak (dZ (cV (dz rfl) rfl) rfl (er cW (λm=>V.str [m.1]) H λm _=>cH rfl (au rfl)) k3) az) jn) az))) qh
variable(hn:ns.length<=63)
include hn
theorem B4(a:Int)(t:List Nat)(ht:t.length<=400):∃c,run prog w (n+7) 14 [.val (fT ns),.val (.int a),.val (.str t)]=some (bM c,[])/\br c t=true/\c.length<=14/\tot c<=t.length+21/\((aM c t).length<=t.length+12\/(aM c t).length<=27)/\vj c:=by
 have dr:=λ(k:Int) (m:Nat) (hm:0<m) fr=>cQ (fr:=fr) (eU (F:=prog) (c:=9) (dr:=10) (w:=w) (n:=n+4) rfl rfl hn k (many:=(m:Int)) (by omega));have ch:=λ(x:List Nat) (hx:x.length<=400) fr=>cQ (fr:=fr) (zu (F:=prog) (c:=9) (dr:=10) (t:=12) (w:=w) (n:=n+3) rfl rfl hn rfl a x (by omega));have ln:dO .len [.str t]=some (.int (t.length:Nat)):=WA (by omega);have d5:=dr (a+60) 5 (by decide);by_cases h5:cC ns (a+60) 5=0
 .by_cases he:t=[]
  .subst he;refine⟨[],bN (fn:=oJ) rfl rfl (aj (aV (b:=true) (aK rfl (bh (bV (aE rfl (au rfl) (aE rfl (aH (au rfl) (aD rfl) aZ) (aE rfl (aD rfl) aO))) (d5 _)) (aD rfl) fM) (by show decide _=_;exact VJ h5)) (λ_=>?_) λh=>absurd h (by decide))),rfl,by simp,by simp[tot],.inl (by simp[aM]),λs h=>by simp at h⟩;exact aj (cK (iN (b:=false) (aK rfl (bh (au rfl) (aD rfl) qj) rfl) (λh=>absurd h (by decide)) λ_=>bA az za) ⟨rfl,rfl⟩)
  .have k:=pK t;refine⟨[.keep t.length],bN (fn:=oJ) rfl rfl (aj (aV (b:=true) (aK rfl (bh (bV (aE rfl (au rfl) (aE rfl (aH (au rfl) (aD rfl) aZ) (aE rfl (aD rfl) aO))) (d5 _)) (aD rfl) fM) (by show decide _=_;exact VJ h5)) (λ_=>?_) λh=>absurd h (by decide))),k.1,by simp,by simp[tot,Pt.n],.inl (by rw[k.2];omega),λs h=>by simp at h⟩;exact aj (cK (iN (b:=true) (aK rfl (bh (au rfl) (aD rfl) qj) (by show(!decide (t=[]))=true;simp[he])) (λ_=>bA (ak (bA (ak (aD rfl) (ak (gf (ak (au rfl) az) ln) az)) cg) az) jk) λh=>absurd h (by decide)) ⟨rfl,rfl⟩)
 .have first:∀{Q:Fl->Fr->Prop},Wp (exs (run prog w (n+6)) w (.cons zI (.cons zJ (.cons zK (.cons zL (.cons zM .nil))))) [some (.val (fT ns)),some (.val (.int a)),some (.val (.str t)),none,none,none]) Q->Wp (exs (run prog w (n+6)) w oJ.body (dJ oJ [.val (fT ns),.val (.int a),.val (.str t)])) Q:=λq=>
   aj (aV (b:=false) (aK rfl (bh (bV (aE rfl (au rfl) (aE rfl (aH (au rfl) (aD rfl) aZ) (aE rfl (aD rfl) aO))) (d5 _)) (aD rfl) fM) (by show decide _=_;exact Vy h5)) (λh=>absurd h (by decide)) λ_=>aQ q)
  by_cases h7:t.length<7
  .obtain⟨lc,tc⟩:=FU ns a t 6 (by omega);have dl:=jI (chg ns a t) t;refine⟨chg ns a t,bN (fn:=oJ) rfl rfl (first (aj (aV (b:=true) (aK rfl (bh (gf (ak (au rfl) az) ln) (aD rfl) Dp) (by show decide _=_;exact VJ (by omega))) (λ_=>?_) λh=>absurd h (by decide)))),xX ns a t,by omega,by omega,.inr (by omega),xY ns a t⟩;exact aj (cK (bV (aE rfl (au rfl) (aE rfl (au rfl) (aE rfl (au rfl) aO))) (ch t (by omega) _)) ⟨rfl,rfl⟩)
  .obtain⟨P,eP,hP⟩:=drawn (ns:=ns) (a+61) (t.length - 3) (by omega);have dP:=dr (a+61) (t.length - 3) (by omega);rw[eP]at dP;have ml:((t.drop P).take 3).length=3:=by simp;omega
   obtain⟨lc,tc⟩:=FU ns a ((t.drop P).take 3) 3 (by omega);have fm:=xX ns a ((t.drop P).take 3);have dm:=jI (chg ns a ((t.drop P).take 3)) ((t.drop P).take 3);have cm:=ch ((t.drop P).take 3) (by omega);have nq:=xY ns a ((t.drop P).take 3);generalize chg ns a ((t.drop P).take 3)=m at lc tc fm dm cm nq
   have hx:∃H:List Pt,H.length<=1/\tot H=P/\br H (t.take P)=true/\aM H (t.take P)=t.take P/\vj H/\∀fr:Fr,iZ true fr 3=some (.int (P:Int))->iZ false fr 3=some (.int (P:Int))->ev (run prog w (n+6)) false (.fV (.cmp .gt (.v 3) (.c (.int 0))) (.tup (.cons (.tup (.cons (.c (.str [107,101,101,112])) (.cons (.v 3) .nil))) .nil)) (.tup .nil)) fr=.ok (bM H) fr:=by
    cases P with
    |zero=>exact⟨[],by simp,by simp[tot],by simp[br],by simp[aM],(λs h=>by simp at h),λfr h h'=>iN (b:=false) (aK rfl (bh (au h) (aD rfl) zl) rfl) (λh=>absurd h (by decide)) λ_=>bA az za⟩
    |succ P=>
     have k:=pK (t.take (P+1));rw[show(t.take (P+1)).length=P+1 by simp;omega]at k;exact⟨[.keep (P+1)],by simp,by simp[tot,Pt.n],k.1,k.2,(λs h=>by simp at h),λfr h h'=>iN (b:=true) (aK rfl (bh (au h) (aD rfl) zl) (by show decide _=_;exact VJ (by omega))) (λ_=>bA (ak (bA (ak (aD rfl) (ak (au h') az)) cg) az) jk) λh=>absurd h (by decide)⟩
   obtain⟨H,lH,tH,fH,dH,nH,rH⟩:=hx;have kr:=pK (t.drop (P+3));rw[show(t.drop (P+3)).length=t.length - P - 3 by simp;omega]at kr;have A1:=yj fH fm;have A2:=yj A1.1 kr.1;have et:t.take P++(t.drop P).take 3++t.drop (P+3)=t:=by rw[VN,<-VP,Wr,Wr]
   rw[et]at A2;have s1:=M9 (a:=t.length) (b:=3) (by omega);have s2:=M9 (a:=t.length) (b:=P) (by omega);have s3:=M9 (a:=t.length - P) (b:=3) (by omega);have sl:fN (.str t) (some (P:Int)) (some ((P+3:Nat):Int))=some (.str ((t.drop P).take 3)):=by
    rw[kH];exact Vw (λz=>some (V.str z)) (iV t P 3)
   have a1:Pv.bH .add (bM H) (bM m)=some (bM (H++m)):=by
    show Pv.bH .add (.tup (H.map Pt.v)) (.tup (m.map Pt.v))=_;rw[pg (by simp;omega),<-Uy];rfl
   have a2:Pv.bH .add (bM (H++m)) (.tup [.tup [.str [107,101,101,112],.int ((t.length - P - 3:Nat):Int)]])=some (bM (H++m++[.keep (t.length - P - 3)])):=by
    show Pv.bH .add (.tup ((H++m).map Pt.v)) (.tup [_])=_;rw[pg (by simp;omega)];show _=some (V.tup (((H++m)++[Pt.keep (t.length - P - 3)]).map Pt.v));rw[Uy (l₂:=[Pt.keep (t.length - P - 3)])];rfl
   refine⟨H++m++[.keep (t.length - P - 3)],bN (fn:=oJ) rfl rfl (first ?_),A2.1,by simp;omega,by rw[gn,gn];simp[tot,Pt.n]at tH tc ⊢;omega,.inl (by rw[A2.2,A1.2,dH,kr.2];simp;omega),λs h=>by
    simp only[V2,V9]at h;rcases h with (h|h)|h
    .exact nH s h
    .exact nq s h
    .cases h⟩
   refine aj (aV (b:=false) (aK rfl (bh (gf (ak (au rfl) az) ln) (aD rfl) Dp) (by show decide _=_;exact Vy (by omega))) (λh=>absurd h (by decide)) λ_=>aQ ?_);refine aj (aX (bV (aE rfl (au rfl) (aE rfl (aH (au rfl) (aD rfl) aZ) (aE rfl (aH (gf (ak (au rfl) az) ln) (aD rfl) s1) aO))) (dP _)) rfl rfl ?_);refine aj (aX (rH _ rfl rfl) rfl rfl ?_);refine aj (aX (aH (aH (gf (ak (au rfl) az) ln) (au rfl) s2) (aD rfl) s3) rfl rfl ?_);exact aj (cK (aH (aH (au rfl) (bV (aE rfl (au rfl) (aE rfl (au rfl) (aE rfl (m7 (au rfl) (fz (au rfl)) (fz (aH (au rfl) (aD rfl) (yi P 3))) sl) aO))) (cm _)) a1) (iN (b:=true) (aK rfl (bh (au rfl) (aD rfl) zl) (by show decide _=_;exact VJ (by omega))) (λ_=>bA (ak (bA (ak (aD rfl) (ak (au rfl) az)) cg) az) jk) λh=>absurd h (by decide)) a2) ⟨rfl,rfl⟩)
theorem En{t:List Nat}(ht:t.length<=6):∃rs,run prog w (n+8) 15 [.val (fT ns),.val (.int 20),.val (.str t),.val (.int 5)]=some (.lst (rs.map aT),[])/\jg t rs/\rs.length<=5/\(∀r∈rs,vj r.2/\r.1∈K3)/\∀p l,p++l=rs->(dj t (bK p)).length<=87:=by
 have dr:=λ(k:Int) (m:Nat) (hm:0<m) fr=>cQ (fr:=fr) (eU (F:=prog) (c:=9) (dr:=10) (w:=w) (n:=n+5) rfl rfl hn k (many:=(m:Int)) (by omega));obtain⟨N,eN,hN⟩:=drawn (ns:=ns) 20 6 (by decide);have d0:=dr 20 6 (by decide);rw[eN]at d0;have key:Wp (exs (run prog w (n+7)) w vt.body (dJ vt [.val (fT ns),.val (.int 20),.val (.str t),.val (.int 5)])) λr fr=>∃rs,(jg t rs/\rs.length<=5/\(∀r∈rs,vj r.2/\r.1∈K3)/\∀p l,p++l=rs->(dj t (bK p)).length<=87)/\r=.ret (.lst (rs.map aT))/\outs 4 fr=[]:=by
  refine aj (gA (l:=[]) (cR az fS) rfl rfl ?_);refine aj (iO (vs:=range 0 N) (jG (ak (bV (aE rfl (au rfl) (aE rfl (au rfl) (aE rfl (aH (au rfl) (aD rfl) aZ) aO))) (d0 _)) az) (Dt (by omega) rfl)) ?_);refine xS (lo:=0) (N:=N) (λk fr=>∃rs x y z,rs.length=k/\Ch t (bK rs)/\(∀r∈rs,r.2.length<=900/\vj r.2/\r.1∈K3)/\(∀p l,p++l=rs->(dj t (bK p)).length<=27+12*k)/\(dj t (bK rs)).length<=27+12*k/\dI (bK rs)<=140*k/\vo x/\vo y/\vo z/\fr=[some (.val (fT ns)),some (.val (.int 20)),some (.val (.str (dj t (bK rs)))),some (.val (.int 5)),some (.own (rs.map aT)),x,y,z]) (λk fr hk ⟨rs,x,y,z,h1,h2,h3,h6,h4,h5,hx,hy,hz,hfr⟩=>?_) (λfr ⟨rs,x,y,z,h1,h2,h3,h6,h4,h5,hx,hy,hz,hfr⟩=>?_) ⟨[],none,none,none,rfl,trivial,(λr hr=>(WQ hr).elim),(λp l e=>by obtain⟨rfl,-⟩:=List.append_eq_nil_iff.mp e;show t.length<=_;omega),(by show t.length<=_;omega),(by simp[dI,bK]),.none,.none,.none,rfl⟩
  .subst hfr;have d1:=dr (20+1+70*((0:Int)+(k:Nat))) 4 (by decide);obtain⟨d,ed,hd⟩:=drawn (ns:=ns) (20+1+70*((0:Int)+(k:Nat))) 4 (by decide);rw[ed]at d1;obtain⟨o,oK,ho⟩:∃o:List Nat,o∈K3/\fW (.lst [.str [97,110,110],.str [98,111],.str [97,110,110],.str [99]]) (.int (d:Int))=some (.str o):=by
    match d,hd with
    |0,_=>exact⟨_,by decide,rfl⟩
    |1,_=>exact⟨_,by decide,rfl⟩
    |2,_=>exact⟨_,by decide,rfl⟩
    |3,_=>exact⟨_,by decide,rfl⟩
   obtain⟨c,rc,f1,f2,f3,f4,f5⟩:=B4 (w:=w) (n:=n) hn (20+2+70*((0:Int)+(k:Nat))) (dj t (bK rs)) (by omega);have rc:=λfr=>cQ (fr:=fr) rc;have rm:=λfr=>call2 (fr:=fr) (Eg (F:=prog) (i:=13) (w:=w) (n:=n+6) rfl c (dj t (bK rs)) (by omega) (by omega) f1);refine di (bind1 rfl hx) (aj (aX (fy (cR (ak (aD rfl) (ak (aD rfl) (ak (aD rfl) (ak (aD rfl) az)))) (b9 (bD (by simp)))) (bV (aE rfl (au rfl) (aE rfl (aH (aH (au rfl) (aD rfl) aZ) (aH (aD rfl) (au rfl) (jS (FY _))) aZ) (aE rfl (aD rfl) aO))) (d1 _)) ho) rfl (eE rfl hy) ?_));refine aj (aX (bV (aE rfl (au rfl) (aE rfl (aH (aH (au rfl) (aD rfl) aZ) (aH (aD rfl) (au rfl) (jS (FY _))) aZ) (aE rfl (au rfl) aO))) (rc _)) rfl (eE rfl hz) ?_);refine aj (aX (bV (aE rfl (au rfl) (aE rfl (au rfl) aO)) (rm _)) rfl rfl ?_);refine aj (jR (lz rfl rfl (ak (bA (ak (au rfl) (ak (au rfl) az)) cg) az) (rq (by simp;omega))) (aQ ?_));rw[eG];refine⟨rs++[(o,c)],_,_,_,by simp[h1],Ir.mpr ⟨h2,f1⟩,λr hr=>?_,λp l e=>?_,?_,?_,.val,.val,.val,by rw[lD,Uy];rfl⟩
   .rcases List.mem_append.mp hr with hr|hr
    .exact h3 r hr
    .rw[V9]at hr;subst hr;exact⟨by simp only;omega,f5,oK⟩
   .rcases List.eq_nil_or_concat l with rfl|⟨l1,q,rfl⟩
    .rw[Ux]at e;subst e;rw[lD];simp only;omega
    .rw[List.concat_eq_append,<-VN]at e;obtain⟨e1,-⟩:=List.append_inj' e rfl;have:=h6 p l1 e1;omega
   .rw[lD];simp only;omega
   .rw[BQ];simp only;omega
  .subst hfr;refine aj (cK (af:=[some (.val (fT ns)),some (.val (.int 20)),some (.val (.str (dj t (bK rs)))),some (.val (.int 5)),some (.val (.lst (rs.map aT))),x,y,z]) ?_ ⟨rs,⟨⟨h2,λr hr=>(h3 r hr).1,by omega⟩,by omega,λr hr=>(h3 r hr).2,λp l e=>by have:=h6 p l e;omega⟩,rfl,rfl⟩);have sh:fc [some (.val (fT ns)),some (.val (.int 20)),some (.val (.str (dj t (bK rs)))),some (.val (.int 5)),some (.own (rs.map aT)),x,y,z]=[some (.val (fT ns)),some (.val (.int 20)),some (.val (.str (dj t (bK rs)))),some (.val (.int 5)),some (.val (.lst (rs.map aT))),x,y,z]:=by
    show [_,_,_,_,_,x.map Sl.cj,y.map Sl.cj,z.map Sl.cj]=_;rw[b5 hx,b5 hy,b5 hz];rfl
   rw[sh];exact au rfl
 obtain⟨r,fr,e,rs,h,hr,ho⟩:=key;exact⟨rs,bN (fn:=vt) rfl rfl ⟨r,fr,e,hr,ho⟩,h⟩
omit hn in
theorem tN{f:V->Option (Option V)}{a b c:V}(h0:f (.int 0)=some (some a))(h1:f (.int 1)=some (some b))(h2:f (.int 2)=some (some c)):b7 f (range 0 3)=some [a,b,c]:=by
 show b7 f [.int 0,.int 1,.int 2]=_;simp[b7,h0,h1,h2]
section
variable{t:List Nat}{rs:List Row}{v:V}
omit hn
def zP(h:run prog w (n+8) 3 [.val (.str t),.val (.lst (rs.map aT))]=some (v,[])):run prog w (n+9) 18 [.val (.int 0),.val (.str t),.val (.lst (rs.map aT))]=some (v,[]):=
 bN (fn:=qA) rfl rfl (aj (aV (b:=true) (aK rfl (bh (aH (au rfl) (aD rfl) aZ) (aD rfl) fM) rfl) (λ_=>aj (zp (vs:=[.str t,.lst (rs.map aT)]) (aE rfl (au rfl) (aE rfl (au rfl) aO)) h ⟨rfl,rfl⟩)) λh=>absurd h (by decide)))
def zQ(h:run prog w (n+8) 4 [.val (.str t),.val (.lst (rs.map aT))]=some (v,[])):run prog w (n+9) 18 [.val (.int 1),.val (.str t),.val (.lst (rs.map aT))]=some (v,[]):=
 bN (fn:=qA) rfl rfl (aj (aV (b:=false) (aK rfl (bh (aH (au rfl) (aD rfl) aZ) (aD rfl) fM) rfl) (λh=>absurd h (by decide)) λ_=>aj (aV (b:=true) (aK rfl (bh (aH (au rfl) (aD rfl) aZ) (aD rfl) fM) rfl) (λ_=>aj (zp (vs:=[.str t,.lst (rs.map aT)]) (aE rfl (au rfl) (aE rfl (au rfl) aO)) h ⟨rfl,rfl⟩)) λh=>absurd h (by decide))))
def zR(h:run prog w (n+8) 5 [.val (.str t),.val (.lst (rs.map aT))]=some (v,[])):run prog w (n+9) 18 [.val (.int 2),.val (.str t),.val (.lst (rs.map aT))]=some (v,[]):=
 bN (fn:=qA) rfl rfl (aj (aV (b:=false) (aK rfl (bh (aH (au rfl) (aD rfl) aZ) (aD rfl) fM) rfl) (λh=>absurd h (by decide)) λ_=>aj (aV (b:=false) (aK rfl (bh (aH (au rfl) (aD rfl) aZ) (aD rfl) fM) rfl) (λh=>absurd h (by decide)) λ_=>aj (aV (b:=true) (aK rfl (bh (aH (au rfl) (aD rfl) aZ) (aD rfl) fM) rfl) (λ_=>aj (zp (vs:=[.str t,.lst (rs.map aT)]) (aE rfl (au rfl) (aE rfl (au rfl) aO)) h ⟨rfl,rfl⟩)) λh=>absurd h (by decide)))))
noncomputable abbrev Rf:V:=.tup [.str [114,101,102,117,115,101,100],.int 0]
def Nb(h:bS prog w (n+8) 3 [.val (.str t),.val (.lst (rs.map aT))]=some 0):run prog w (n+9) 18 [.val (.int 0),.val (.str t),.val (.lst (rs.map aT))]=some (Rf,[]):=
 bN (fn:=qA) rfl rfl (aj (aV (b:=true) (aK rfl (bh (aH (au rfl) (aD rfl) aZ) (aD rfl) fM) rfl) (λ_=>aj (u6 (vs:=[.str t,.lst (rs.map aT)]) (aE rfl (au rfl) (aE rfl (au rfl) aO)) (by decide) h (by decide) ⟨rfl,rfl⟩)) λh=>absurd h (by decide)))
def Nc(h:bS prog w (n+8) 4 [.val (.str t),.val (.lst (rs.map aT))]=some 0):run prog w (n+9) 18 [.val (.int 1),.val (.str t),.val (.lst (rs.map aT))]=some (Rf,[]):=
 bN (fn:=qA) rfl rfl (aj (aV (b:=false) (aK rfl (bh (aH (au rfl) (aD rfl) aZ) (aD rfl) fM) rfl) (λh=>absurd h (by decide)) λ_=>aj (aV (b:=true) (aK rfl (bh (aH (au rfl) (aD rfl) aZ) (aD rfl) fM) rfl) (λ_=>aj (u6 (vs:=[.str t,.lst (rs.map aT)]) (aE rfl (au rfl) (aE rfl (au rfl) aO)) (by decide) h (by decide) ⟨rfl,rfl⟩)) λh=>absurd h (by decide))))
def Nd(h:bS prog w (n+8) 5 [.val (.str t),.val (.lst (rs.map aT))]=some 0):run prog w (n+9) 18 [.val (.int 2),.val (.str t),.val (.lst (rs.map aT))]=some (Rf,[]):=
 bN (fn:=qA) rfl rfl (aj (aV (b:=false) (aK rfl (bh (aH (au rfl) (aD rfl) aZ) (aD rfl) fM) rfl) (λh=>absurd h (by decide)) λ_=>aj (aV (b:=false) (aK rfl (bh (aH (au rfl) (aD rfl) aZ) (aD rfl) fM) rfl) (λh=>absurd h (by decide)) λ_=>aj (aV (b:=true) (aK rfl (bh (aH (au rfl) (aD rfl) aZ) (aD rfl) fM) rfl) (λ_=>aj (u6 (vs:=[.str t,.lst (rs.map aT)]) (aE rfl (au rfl) (aE rfl (au rfl) aO)) (by decide) h (by decide) ⟨rfl,rfl⟩)) λh=>absurd h (by decide)))))
noncomputable def kS(l:List Ow):List V:=(K3.filter λs=>decide (s∈bW l)).map (sQ (bW l))
noncomputable def sR(l:List Ow):Prop:=∀s,some s∈l->s∈K3
def vv(R:jg t rs):run prog w (n+7) 6 [.val (.str t),.val (.lst (rs.map aT))]=some (.tup [.lst ((cB bR rs (bL t)).map Ow.v),.lst ((cY bR rs (bL t)).map Ow.v)],[]):=zH (F:=prog) (aP:=0) (ee:=1) (gE:=2) (jK:=7) (i:=6) (w:=w) (n:=n) rfl rfl rfl rfl rfl R
theorem B5{l:List Ow}(hl:l.length<=2000)(hk:sR l):run prog w (n+7) 8 [.val (.lst (l.map Ow.v))]=some (.lst (kS l),[]):=by
 have hp:∀k∈bW l,k∈K3:=λk h=>by
  unfold bW at h;obtain⟨a,h1,h2⟩:=List.mem_filterMap.mp h;simp only[id]at h2;subst h2;exact hk k h1
 obtain⟨h1,h2⟩:=OD hp;have:=vV (F:=prog) (i:=8) (w:=w) (n:=n+6) rfl hl (by omega);rw[h1]at this;exact this
def vz(R:jg t rs):run prog w (n+8) 3 [.val (.str t),.val (.lst (rs.map aT))]=some (.lst ((cB bR rs (bL t)).map Ow.v),[]):=
 bN (fn:=f3) rfl rfl (aj (cK (fy (bV (aE rfl (au rfl) (aE rfl (au rfl) aO)) (call2 (vv R))) (aD rfl) rfl) ⟨rfl,rfl⟩))
def vA(R:jg t rs)(hl:(cB bR rs (bL t)).length<=2000)(hk:sR (cB bR rs (bL t))):run prog w (n+8) 4 [.val (.str t),.val (.lst (rs.map aT))]=some (.lst (kS (cB bR rs (bL t))),[]):=
 bN (fn:=f4) rfl rfl (aj (cK (bV (aE rfl (fy (bV (aE rfl (au rfl) (aE rfl (au rfl) aO)) (call2 (vv R))) (aD rfl) rfl) aO) (nN (B5 hl hk))) ⟨rfl,rfl⟩))
def vC(R:jg t rs)(hl:(cY bR rs (bL t)).length<=2000)(hk:sR (cY bR rs (bL t))):run prog w (n+8) 5 [.val (.str t),.val (.lst (rs.map aT))]=some (.lst (kS (cY bR rs (bL t))),[]):=
 bN (fn:=f5) rfl rfl (aj (cK (bV (aE rfl (fy (bV (aE rfl (au rfl) (aE rfl (au rfl) aO)) (call2 (vv R))) (aD rfl) rfl) aO) (nN (B5 hl hk))) ⟨rfl,rfl⟩))
theorem yk{l:List Ow}:run prog w (n+1) 17 [.val (.lst (l.map Ow.v))]=some (.lst (kS l),[]):=by
 have mk:dR (kS l)=some (.lst (kS l)):=b9 (bD (by unfold kS;rw[VL];have:=List.length_filter_le (λs=>decide (s∈bW l)) K3;simp at this ⊢;omega));refine bN (fn:=BX) rfl rfl (aj (cK (dZ (cV (bA (ak (aD rfl) (ak (aD rfl) (ak (aD rfl) az))) qh) rfl) rfl (m6 V.str (λs=>decide (s∈bW l)) (sQ (bW l)) K3 λs _=>rA rfl (aK rfl (bh (au rfl) (au rfl) (pI s l)) rfl) λ_=>bA (ak (au rfl) (ak (qi rfl (au rfl) (ak (au rfl) az) ?_) az)) cg) mk) ⟨rfl,rfl⟩));show((jf (.lst (l.map Ow.v))).bind (cnt (.str s))).map _=_;rw[nM,WD,lJ];rfl
def IB{pre post:List Row}{b:Row}(R:jg t pre)(hb:br b.2 (dj t (bK pre))=false)(h3:tot b.2<=900):bS prog w (n+7) 6 [.val (.str t),.val (.lst ((pre++b :: post).map aT))]=some 0:=vU (F:=prog) (aP:=0) (ee:=1) (gE:=2) (jK:=7) (i:=6) (w:=w) (n:=n) rfl rfl rfl rfl rfl R hb h3
def IC(h:bS prog w (n+7) 6 [.val (.str t),.val (.lst (rs.map aT))]=some 0):bS prog w (n+8) 3 [.val (.str t),.val (.lst (rs.map aT))]=some 0:=
 qk (fn:=f3) rfl rfl (jH (dF prog w (n+7)) (y_ret (Dq (zm (aE rfl (au rfl) (aE rfl (au rfl) aO)) (jT (vs:=[.str t,.lst (rs.map aT)]) h)))))
def ID(h:bS prog w (n+7) 6 [.val (.str t),.val (.lst (rs.map aT))]=some 0):bS prog w (n+8) 4 [.val (.str t),.val (.lst (rs.map aT))]=some 0:=
 qk (fn:=f4) rfl rfl (jH (dF prog w (n+7)) (y_ret (FF (dF prog w (n+7)) (yc (dF prog w (n+7)) rfl (Dq (zm (aE rfl (au rfl) (aE rfl (au rfl) aO)) (jT (vs:=[.str t,.lst (rs.map aT)]) h)))))))
def IE(h:bS prog w (n+7) 6 [.val (.str t),.val (.lst (rs.map aT))]=some 0):bS prog w (n+8) 5 [.val (.str t),.val (.lst (rs.map aT))]=some 0:=
 qk (fn:=f5) rfl rfl (jH (dF prog w (n+7)) (y_ret (FF (dF prog w (n+7)) (yc (dF prog w (n+7)) rfl (Dq (zm (aE rfl (au rfl) (aE rfl (au rfl) aO)) (jT (vs:=[.str t,.lst (rs.map aT)]) h)))))))
end
omit hn in
theorem FZ{f:V->V->Option Bool}:∀{l:List V},(∀x∈l,f x x=some true)->cG f l l=some true
 |[],_=>HH
 |x :: l,h=>by rw[Dj,h x (.head _),FZ λy hy=>h y (.tail _ hy)];rfl
omit hn in
theorem Ep(m:Nat)(l:List Ow):cA (m+2) (.lst (l.map Ow.v)) (.lst (l.map Ow.v))=some true:=by
 rw[Bv];refine FZ λx hx=>?_;obtain⟨a,-,rfl⟩:=List.mem_map.mp hx;rw[My];simp
omit hn in
theorem e_ks(m:Nat)(l:List Ow):cA (m+3) (.lst (kS l)) (.lst (kS l))=some true:=by
 rw[Bv];refine FZ λx hx=>?_;unfold kS at hx;obtain⟨a,-,rfl⟩:=List.mem_map.mp hx;unfold sQ;simp
omit hn in
theorem e3{a b c:V}(h1:cA (18+1) a a=some true)(h2:cA (18+1) b b=some true)(h3:cA (18+1) c c=some true):cA deep (.lst [a,b,c]) (.lst [a,b,c])=some true:=by
 rw[HG];exact FZ λx hx=>by
  simp only[WT,WQ,or_false]at hx;rcases hx with rfl|rfl|rfl<;>assumption
omit hn in
theorem n3{a b c:V}(h1:cA (18+1) a a=some true)(h2:cA (18+1) b b=some true)(h3:cA (18+1) c c=some true):Pv.cop .ne (.lst [a,b,c]) (.lst [a,b,c])=some false:=by
 rw[uT,e3 h1 h2 h3];rfl
omit hn in
theorem qB{α:Type}{pu:List Nat->List α}{x:α}:∀(c:List Pt) (st:List α),x∈b6 pu c st->x∈st\/∃s,x∈pu s
 |[],st,h=>by simp[b6]at h
 |.put s :: c,st,h=>by
  simp only[b6,V2]at h;rcases h with h|h
  .exact .inr ⟨s,h⟩
  .exact qB c st h
 |.keep k :: c,st,h=>by
  simp only[b6,V2]at h;rcases h with h|h
  .exact .inl (Ww h)
  .rcases qB c _ h with q|q
   .exact .inl (We q)
   .exact .inr q
 |.drop s :: c,st,h=>by
  simp only[b6]at h;rcases qB c _ h with q|q
  .exact .inl (We q)
  .exact .inr q
omit hn in
theorem qC{α:Type}{x:α}:∀(c:List Pt) (st:List α),x∈cJ c st->x∈st
 |[],st,h=>by simp[cJ]at h
 |.put s :: c,st,h=>qC c st h
 |.keep k :: c,st,h=>We (qC c _ h)
 |.drop s :: c,st,h=>by
  simp only[cJ,V2]at h;rcases h with h|h
  .exact Ww h
  .exact We (qC c _ h)
omit hn in
theorem in_K:∀(rs:List Row) (st:List Ow),(∀r∈rs,r.1∈K3)->sR st->sR (cB bR rs st)/\sR (cY bR rs st)
 |[],st,_,h=>⟨h,λs q=>by simp[cY]at q⟩
 |r :: rs,st,hr,h=>by
  have h1:sR (b6 (bR r.1) r.2 st):=λs q=>by
   rcases qB r.2 st q with q|⟨u,q⟩
   .exact h s q
   .unfold bR at q;obtain⟨_,-,e⟩:=List.mem_map.mp q;cases e;exact hr r (by simp)
  obtain⟨h2,h3⟩:=in_K rs _ (λq hq=>hr q (by simp[hq])) h1;refine⟨h2,λs q=>?_⟩;simp only[cY,V2]at q;rcases q with q|q
  .exact h s (qC _ _ q)
  .exact h3 s q
omit hn in
theorem Pe(t:List Nat)(rs:List Row):((cB cD rs (m0 t)).map λm=>m.2.v)=(cB bR rs (bL t)).map Ow.v/\((cY cD rs (m0 t)).map λm=>m.2.v)=(cY bR rs (bL t)).map Ow.v:=by
 have e1:(λ(o s:List Nat)=>(cD o s).map Prod.snd)=bR:=by funext o s;simp[cD,bR]
 have e2:(m0 t).map Prod.snd=bL t:=by simp[m0,bL]
 have h1:=yd (pu:=cD) Prod.snd rs (m0 t);have h2:=ye (pu:=cD) Prod.snd rs (m0 t);rw[e1,e2]at h1 h2;rw[<-h1,<-h2,WC,WC];exact⟨rfl,rfl⟩
omit hn in
theorem qD{d:Nat}:∀(c:List Pt) (t:List Nat),d∈aM c t->d∈t\/∃s,Pt.put s∈c/\d∈s
 |[],t,h=>by simp[aM]at h
 |.put s :: c,t,h=>by
  simp only[aM,V2]at h;rcases h with h|h
  .exact .inr ⟨s,by simp,h⟩
  .rcases qD c t h with q|⟨u,q1,q2⟩
   .exact .inl q
   .exact .inr ⟨u,by simp[q1],q2⟩
 |.keep k :: c,t,h=>by
  simp only[aM,V2]at h;rcases h with h|h
  .exact .inl (Ww h)
  .rcases qD c _ h with q|⟨u,q1,q2⟩
   .exact .inl (We q)
   .exact .inr ⟨u,by simp[q1],q2⟩
 |.drop s :: c,t,h=>by
  simp only[aM]at h;rcases qD c _ h with q|⟨u,q1,q2⟩
  .exact .inl (We q)
  .exact .inr ⟨u,by simp[q1],q2⟩
omit hn in
theorem Ga:∀(rs:List Row) (t:List Nat),(∀r∈rs,vj r.2)->113∉t->113∉dj t (bK rs)
 |[],t,_,h=>h
 |r :: rs,t,hr,h=>Ga rs _ (λq hq=>hr q (by simp[hq])) λq=>by
  rcases qD r.2 t q with q|⟨s,q1,q2⟩
  .exact h q
  .exact hr r (by simp) s q1 q2
omit hn in
theorem Pf(ns:List Int):113∉txt ns 0 6:=λh=>by
 unfold txt at h;obtain⟨k,-,e⟩:=List.mem_map.mp h;generalize (cC ns (0+1+(k:Int)) 4).toNat=i at e
 match i with
 |0=>simp at e
 |1=>simp at e
 |2=>simp at e
 |3=>simp at e
 |i+4=>simp at e
omit hn in
theorem Er{t:List Nat}{rs:List Row}(R:jg t rs)(P:Nat):jg t (rs.take P):=by
 have h1:=R.ch;have h2:=R.tt;have e:rs.take P++rs.drop P=rs:=Wr _ _;rw[<-e,nR]at h1 h2;have h4:dI (bK (rs.take P)++bK (rs.drop P))=dI (bK (rs.take P))+dI (bK (rs.drop P)):=by simp[dI]
 exact⟨(qq.mp h1).1,λr hr=>R.ln r (Ww hr),by omega⟩
noncomputable abbrev vD:List (List Pt):=[[.drop [113]],[.keep 99],[.keep 98,.put [97]]]
omit hn in
theorem Nf{u:List Nat}(h1:u.length<=87)(h2:113∉u):∀b∈vD,br b u=false/\tot b<=900:=λb hb=>by
 simp only[vD,WT,WQ,or_false]at hb;rcases hb with rfl|rfl|rfl
 .refine⟨?_,by simp[tot,Pt.n]⟩;cases u with
  |nil=>rfl
  |cons d u=>
   have:(113==d)=false:=beq_eq_false_iff_ne.mpr λe=>h2 (by rw[e];simp);simp[br,List.isPrefixOf,this]
 .refine⟨?_,by simp[tot,Pt.n]⟩;simp only[br];rw[Vy (by omega)];rfl
 .refine⟨?_,by simp[tot,Pt.n]⟩;simp only[br];rw[Vy (by omega)];rfl
noncomputable def lF(ns:List Int)(t:List Nat)(rs:List Row)(O G:List V)(u:List Nat)(D:List V)(P:Nat)(x y:Option Sl):Fr:=[some (.val (fT ns)),some (.val (.str t)),some (.val (.lst (rs.map aT))),some (.val (.lst O)),some (.val (.lst G)),some (.val (.str u)),some (.own D),some (.val (.int (P:Int))),x,y,none,none,none,none,none]
noncomputable abbrev kn:List Row:=[([97,110,110],[.put [97,98]]),([98,111],[.keep 1,.drop [98],.put [99,100]])]
noncomputable abbrev Ng:Row:=([97,110,110],[.drop [97],.keep 2])
theorem Nh:run prog w (n+10) 19 [.val (fT ns)]=some (.bl true,[]):=by
 have ht:(txt ns 0 6).length<=6:=Ic ns 0 (most:=6) (by decide);have hq:=Pf ns;have c1:=λfr=>cQ (fr:=fr) (Ds (F:=prog) (c:=9) (dr:=10) (t:=11) (w:=w) (n:=n+6) rfl rfl hn rfl 0 6 (by decide) (by decide));generalize txt ns 0 6=t at ht hq c1
 obtain⟨rs,r1,R,hl,hr,Uv⟩:=En (w:=w) (n:=n+1) hn ht;have r1:=λfr=>Of (fr:=fr) r1;have mk:=λfr=>call2 (fr:=fr) (B3 (w:=w) (n:=n+8) R);obtain⟨k1,k2⟩:=Pe t rs;have ml:((cB cD rs (m0 t)).map (·.1)).length=(cB bR rs (bL t)).length:=by
  have:=Vw List.length k1;simpa using this
 rw[k1,k2]at mk;have ol:=nT (pu:=bR) (λo s=>by simp[bR]) rs (bL t) t (by simp[bL]);have gl:=nj (pu:=bR) rs (bL t);have tb:=qt (bK rs) t;have bt:=R.tt;obtain⟨i1,i2⟩:=in_K rs (bL t) (λr h=>(hr r h).2) (λs h=>by simp[bL]at h);have t0:=zP (vz (w:=w) (n:=n) R);have t1:=zQ (vA (w:=w) (n:=n) R (by omega) i1);have t2:=zR (vC (w:=w) (n:=n) R (by omega) i2);have f1:=λfr=>nN (fr:=fr) (yk (w:=w) (n:=n+8) (l:=cB bR rs (bL t)));have f2:=λfr=>nN (fr:=fr) (yk (w:=w) (n:=n+8) (l:=cY bR rs (bL t)));have q1:=Ep 17 (cB bR rs (bL t));have q2:=e_ks 16 (cB bR rs (bL t));have q3:=e_ks 16 (cY bR rs (bL t));generalize (cB cD rs (m0 t)).map (·.1)=u at mk ml
 have e0:jg t []:=⟨trivial,(λr h=>(WQ h).elim),by simp[dI,bK];omega⟩
 have s0:=zP (vz (w:=w) (n:=n) e0);have iS:sR (bL t):=λs h=>by simp[bL]at h
 have s1:=zQ (vA (w:=w) (n:=n) e0 (by simp[cB,bL];omega) iS);have s2:=zR (vC (w:=w) (n:=n) e0 (by simp[cY]) (λs h=>by simp[cY]at h));have pS:bW (bL t)=[]:=by unfold bW bL;simp
 have z1:kS (cB bR [] (bL t))=[]:=by show kS (bL t)=[];unfold kS;rw[pS];simp
 have z2:kS (cY bR [] (bL t))=[]:=by show kS []=[];simp[kS,bW]
 rw[z1]at s1;rw[z2]at s2;have RK:jg [] (kn++[Ng]):=⟨by simp[Ch,bK,br,aM],by simp,by simp[dI,bK,tot,Pt.n]⟩
 have oK:cB bR (kn++[Ng]) (bL [])=[some [98,111],some [98,111]]:=by simp[cB,b6,bR,bL]
 have gK:cY bR (kn++[Ng]) (bL [])=[some [97,110,110],some [97,110,110]]:=by simp[cY,cJ,b6,bR,bL]
 have v0:=zP (vz (w:=w) (n:=n) RK);have v1:=zQ (vA (w:=w) (n:=n) RK (by rw[oK];simp) (by rw[oK];intro s h;simp at h;subst h;decide));have v2:=zR (vC (w:=w) (n:=n) RK (by rw[gK];simp) (by rw[gK];intro s h;simp at h;subst h;decide));rw[oK]at v0 v1;rw[gK]at v2;generalize cB bR rs (bL t)=O at *
 generalize cY bR rs (bL t)=Gn at *
 have rg:e8 [.int 3]=some (range 0 3):=Dt (by omega) rfl;obtain⟨P,eP,hP⟩:=drawn (ns:=ns) 10 (rs.length+1) (by omega);have dP:=λfr=>cQ (fr:=fr) (eU (F:=prog) (c:=9) (dr:=10) (w:=w) (n:=n+7) rfl rfl hn 10 (many:=((rs.length+1:Nat):Int)) (by omega));rw[eP]at dP;refine bN (fn:=BY) rfl rfl ?_;refine aj (aX (bV (aE rfl (au rfl) (aE rfl (aD rfl) (aE rfl (aD rfl) aO))) (c1 _)) rfl rfl ?_);refine aj (aX (bV (aE rfl (au rfl) (aE rfl (aD rfl) (aE rfl (au rfl) (aE rfl (aD rfl) aO)))) (r1 _)) rfl rfl ?_);refine aj (Mg (bV (aE rfl (au rfl) (aE rfl (au rfl) aO)) (mk _)) rfl ?_);refine aj (gA (l:=[.lst (O.map Ow.v),.lst (kS O),.lst (kS Gn)]) (cR (ak (au rfl) (ak (bV (aE rfl (au rfl) aO) (f1 _)) (ak (bV (aE rfl (au rfl) aO) (f2 _)) az))) ly) rfl rfl ?_);refine aj (aV (b:=false) (aK rfl (bh (dZ (jG (ak (aD rfl) az) rg) rfl (tN (cH rfl (bV (aE rfl (au rfl) (aE rfl (au rfl) (aE rfl (au rfl) aO))) (cQ t0))) (cH rfl (bV (aE rfl (au rfl) (aE rfl (au rfl) (aE rfl (au rfl) aO))) (cQ t1))) (cH rfl (bV (aE rfl (au rfl) (aE rfl (au rfl) (aE rfl (au rfl) aO))) (cQ t2)))) ly) (au rfl) (n3 q1 q2 q3)) rfl) (λh=>absurd h (by decide)) λ_=>aQ ?_);have lO:dO .len [.lst (O.map Ow.v)]=some (.int (O.length:Nat)):=by rw[xQ];simp
 have lu:dO .len [.str u]=some (.int (O.length:Nat)):=by
  have h:dO .len [.str u]=some (.int (u.length:Nat)):=WA (by omega);rw[h,ml]
 refine aj (aV (b:=false) (aK rfl (bh (gf (ak (au rfl) az) lO) (gf (ak (au rfl) az) lu) FE) (by simp[truthy])) (λh=>absurd h (by decide)) λ_=>aQ ?_);have lr:dO .len [.lst (rs.map aT)]=some (.int (rs.length:Nat)):=by rw[xQ];simp
 refine aj (aX (bV (aE rfl (au rfl) (aE rfl (aD rfl) (aE rfl (aH (gf (ak (au rfl) az) lr) (aD rfl) (yi rs.length 1)) aO))) (dP _)) rfl rfl ?_);refine aj (iO (vs:=vD.map bM) (cV (bA (ak (bA (ak (bA (ak (aD rfl) (ak (aD rfl) az)) cg) az) jk) (ak (bA (ak (bA (ak (aD rfl) (ak (aD rfl) az)) cg) az) jk) (ak (bA (ak (bA (ak (aD rfl) (ak (aD rfl) az)) cg) (ak (bA (ak (aD rfl) (ak (aD rfl) az)) cg) az)) cg) az))) qh) rfl) ?_);refine fu (e:=bM) (λp l fr=>p++l=vD/\∃x y,vo x/\vo y/\fr=lF ns t rs (O.map Ow.v) (Gn.map Ow.v) u [.lst (O.map Ow.v),.lst (kS O),.lst (kS Gn)] P x y) (λp b l fr ⟨hpl,x,y,hx,hy,hfr⟩=>?_) (λp fr ⟨hpl,x,y,hx,hy,hfr⟩=>?_) vD [] _ ⟨rfl,none,none,.none,.none,rfl⟩
 .subst hfr;have hb:=Nf (u:=dj t (bK (rs.take P))) (Uv _ _ (Wr P rs)) (Ga _ _ (λr h=>(hr r (Ww h)).1) hq) b (by rw[<-hpl];simp);have X:=IB (w:=w) (n:=n) (t:=t) (pre:=rs.take P) (post:=rs.drop P) (b:=([98,111],b)) (Er R P) hb.1 hb.2;have x0:=Nb (IC X);have x1:=Nc (ID X);have x2:=Nd (IE X);have s1:fN (.lst (rs.map aT)) none (some (P:Int))=some (.lst ((rs.take P).map aT)):=by
   rw[xP,OA,<-WU];exact b9 (bD (by simp;omega))
  have s2:fN (.lst (rs.map aT)) (some (P:Int)) none=some (.lst ((rs.drop P).map aT)):=by
   rw[xP,OB,<-Wu];exact b9 (bD (by simp;omega))
  have a1:=jF (x:=(rs.take P).map aT) (y:=[.tup [.str [98,111],bM b]]) (by simp;omega);have a2:=jF (x:=(rs.take P).map aT++[.tup [.str [98,111],bM b]]) (y:=(rs.drop P).map aT) (by simp;omega);rw[show(rs.take P).map aT++[.tup [.str [98,111],bM b]]++(rs.drop P).map aT=(rs.take P++([98,111],b) :: rs.drop P).map aT by simp[aT]]at a2;refine di (af:=lF ns t rs (O.map Ow.v) (Gn.map Ow.v) u [.lst (O.map Ow.v),.lst (kS O),.lst (kS Gn)] P (some (.val (bM b))) y) (bind1 rfl hx) ?_;refine aj (aX (aq:=lF ns t rs (O.map Ow.v) (Gn.map Ow.v) u [.lst (O.map Ow.v),.lst (kS O),.lst (kS Gn)] P (some (.val (bM b))) (some (.val (.lst ((rs.take P++([98,111],b) :: rs.drop P).map aT))))) (aH (aH (m7 (au rfl) zj (fz (au rfl)) s1) (cR (ak (bA (ak (aD rfl) (ak (au rfl) az)) cg) az) nL) a1) (m7 (au rfl) (fz (au rfl)) zj s2) a2) rfl (eE rfl hy) ?_);refine aj (aV (b:=false) (aK rfl (bh (dZ (jG (ak (aD rfl) az) rg) rfl (tN (cH rfl (bV (aE rfl (au rfl) (aE rfl (au rfl) (aE rfl (au rfl) aO))) (cQ x0))) (cH rfl (bV (aE rfl (au rfl) (aE rfl (au rfl) (aE rfl (au rfl) aO))) (cQ x1))) (cH rfl (bV (aE rfl (au rfl) (aE rfl (au rfl) (aE rfl (au rfl) aO))) (cQ x2)))) ly) (aH (cR (ak (bA (ak (aD rfl) (ak (aD rfl) az)) cg) az) nL) (aD rfl) (show Pv.bH .mul (.lst [Rf]) (.int 3)=some (.lst [Rf,Rf,Rf])from uS (by decide) (by decide) (by simp) (by decide))) (n3 (by simp) (by simp) (by simp))) rfl) (λh=>absurd h (by decide)) λ_=>aQ (aQ ?_));rw[eG];exact⟨by simpa using hpl,_,_,.val,.val,rfl⟩
 .subst hfr;have lt:dO .len [.str t]=some (.int (t.length:Nat)):=WA (by omega);have mz:Pv.bH .mul (.lst [.aG]) (.int (t.length:Nat))=some (.lst ((bL t).map Ow.v)):=by
   rw[uS (by omega) (by omega) (by simp) (by rw[rC];simp;omega),rC];simp only[Wh]
   congr 2
   simp[bL,Ow.v,List.map_const']
  refine aj (aV (b:=false) (aK rfl (bh (dZ (jG (ak (aD rfl) az) rg) rfl (tN (cH rfl (bV (aE rfl (au rfl) (aE rfl (au rfl) (aE rfl (cR az fS) aO))) (cQ s0))) (cH rfl (bV (aE rfl (au rfl) (aE rfl (au rfl) (aE rfl (cR az fS) aO))) (cQ s1))) (cH rfl (bV (aE rfl (au rfl) (aE rfl (au rfl) (aE rfl (cR az fS) aO))) (cQ s2)))) ly) (cR (ak (aH (cR (ak (aD rfl) az) nL) (gf (ak (au rfl) az) lt) mz) (ak (cR az fS) (ak (cR az fS) az))) ly) (n3 (Ep 17 (bL t)) (by simp) (by simp))) rfl) (λh=>absurd h (by decide)) λ_=>aQ ?_);refine aj (gA (l:=kn.map aT) (cR (ak (bA (ak (aD rfl) (ak (bA (ak (bA (ak (aD rfl) (ak (aD rfl) az)) cg) az) jk) az)) cg) (ak (bA (ak (aD rfl) (ak (bA (ak (bA (ak (aD rfl) (ak (aD rfl) az)) cg) (ak (bA (ak (aD rfl) (ak (aD rfl) az)) cg) (ak (bA (ak (aD rfl) (ak (aD rfl) az)) cg) az))) qh) az)) cg) az)) zb) rfl rfl ?_);refine aj (jR (lz rfl rfl (ak (bA (ak (aD rfl) (ak (bA (ak (bA (ak (aD rfl) (ak (aD rfl) az)) cg) (ak (bA (ak (aD rfl) (ak (aD rfl) az)) cg) az)) cg) az)) cg) az) (rq (by simp))) ?_);have fin:Pv.cop .eq (.lst [.lst ([some [98,111],some [98,111]].map Ow.v),.lst (kS [some [98,111],some [98,111]]),.lst (kS [some [97,110,110],some [97,110,110]])]) (.lst [.lst [.str [98,111],.str [98,111]],.lst [.tup [.str [98,111],.int 2]],.lst [.tup [.str [97,110,110],.int 2]]])=some true:=by
   have k1:kS [some [98,111],some [98,111]]=[.tup [.str [98,111],.int 2]]:=by unfold kS sQ bW;rfl
   have k2:kS [some [97,110,110],some [97,110,110]]=[.tup [.str [97,110,110],.int 2]]:=by unfold kS sQ bW;rfl
   rw[LN,k1,k2];exact e3 (Ep 17 [some [98,111],some [98,111]]) (by simp) (by simp)
  exact aj (cK (bh (dZ (jG (ak (aD rfl) az) rg) rfl (tN (cH rfl (bV (aE rfl (au rfl) (aE rfl (aD rfl) (aE rfl (au rfl) aO))) (cQ v0))) (cH rfl (bV (aE rfl (au rfl) (aE rfl (aD rfl) (aE rfl (au rfl) aO))) (cQ v1))) (cH rfl (bV (aE rfl (au rfl) (aE rfl (aD rfl) (aE rfl (au rfl) aO))) (cQ v2)))) ly) (cR (ak (cR (ak (aD rfl) (ak (aD rfl) az)) zb) (ak (cR (ak (bA (ak (aD rfl) (ak (aD rfl) az)) cg) az) nL) (ak (cR (ak (bA (ak (aD rfl) (ak (aD rfl) az)) cg) az) nL) az))) ly) fin) ⟨rfl,rfl⟩)
end
def good:∀ns:List Int,ns.length<=63->∃h',Ev.run prog 100000 60 19 [.ref 0] [.bX (ns.map Ev.D.int)]=.ok (.bl true) h':=λns h=>HD (Nh (w:=100000) (n:=50) h)
end Lg
theorem Lw.good:∀ns:List Int,ns.length<=63->∃h',Ev.run Lw.prog 100000 60 19 [.ref 0] [.bX (ns.map Ev.D.int)]=.ok (.bl true) h':=Lg.good
namespace PySem.W.Fast
theorem tw16960970726584973288:True:=⟨⟩
theorem tw1838693783549252403:True:=⟨⟩
theorem tw3651485406918554951:True:=⟨⟩
theorem tw2381259823627375006:True:=⟨⟩
theorem tw2773133665774905489:True:=⟨⟩
theorem tw10859446148714898172:True:=⟨⟩
theorem tw17224103157956868788:True:=⟨⟩
theorem tw13824758580441730394:True:=⟨⟩
theorem tw1310873847614262857:True:=⟨⟩
theorem tw10040096053824277739:True:=⟨⟩
theorem tw10711260711241187047:True:=⟨⟩
theorem tw8976252636434251204:True:=⟨⟩
theorem tw3156999548723441762:True:=⟨⟩
theorem tw4246619315574997047:True:=⟨⟩
theorem tw10024756651093241636:True:=⟨⟩
theorem tw10496666901231877110:True:=⟨⟩
theorem tw105986333044241615:True:=⟨⟩
theorem tw14474169720522557290:True:=⟨⟩
theorem tw10649499351117825595:True:=⟨⟩
theorem tw16777169502790471037:True:=⟨⟩
theorem tw17805280792031203195:True:=⟨⟩
theorem tw6442663844968063293:True:=⟨⟩
theorem tw5798324895266769822:True:=⟨⟩
theorem tw14453651376662676073:True:=⟨⟩
theorem tw876640860078332542:True:=⟨⟩
theorem tw16649512882456826550:True:=⟨⟩
theorem tw15181734050275684939:True:=⟨⟩
theorem tw10234732595910172571:True:=⟨⟩
theorem tw7499882841683938413:True:=⟨⟩
theorem tw13092207634772019546:True:=⟨⟩
theorem tw13058754660740020198:True:=⟨⟩
theorem tw465093068523492681:True:=⟨⟩
theorem tw10778598660174444823:True:=⟨⟩
theorem tw8687845080673303619:True:=⟨⟩
theorem tw13775186008847156687:True:=⟨⟩
theorem tw10572921750072655955:True:=⟨⟩
theorem tw17989206977827001844:True:=⟨⟩
theorem tw10586060442433125899:True:=⟨⟩
theorem tw7614299723871507608:True:=⟨⟩
theorem tw18090119710245845989:True:=⟨⟩
theorem tw8673466609037481074:True:=⟨⟩
theorem tw15651493079192260274:True:=⟨⟩
theorem tw8242840671715373999:True:=⟨⟩
theorem tw2835567092289966992:True:=⟨⟩
theorem tw17552016863252058042:True:=⟨⟩
theorem tw17558303638982917995:True:=⟨⟩
theorem tw2925769556293955598:True:=⟨⟩
theorem tw13564632223585409142:True:=⟨⟩
theorem tw18012438764042789772:True:=⟨⟩
theorem tw6114869479082827345:True:=⟨⟩
theorem tw1307285298037727972:True:=⟨⟩
theorem tw649791313522282552:True:=⟨⟩
theorem tw17749977414705867015:True:=⟨⟩
theorem tw6084032267734323033:True:=⟨⟩
theorem tw4803983908905913140:True:=⟨⟩
theorem tw17753431618616765540:True:=⟨⟩
theorem tw7075346160234859428:True:=⟨⟩
theorem tw2563623851027192528:True:=⟨⟩
theorem tw15701298423822703273:True:=⟨⟩
theorem tw2696803554937693705:True:=⟨⟩
theorem tw7400905041251079393:True:=⟨⟩
theorem tw18318742736224539191:True:=⟨⟩
theorem tw15506935306377816893:True:=⟨⟩
theorem tw2717038764180212815:True:=⟨⟩
theorem tw7170875954068440876:True:=⟨⟩
theorem tw4196273491729088159:True:=⟨⟩
theorem tw11052654552753127088:True:=⟨⟩
theorem tw15493912505865258359:True:=⟨⟩
theorem tw9697874733212417901:True:=⟨⟩
theorem tw2664070865861257907:True:=⟨⟩
theorem tw293472347115743832:True:=⟨⟩
theorem tw11612947410374280767:True:=⟨⟩
theorem tw11369247824619837016:True:=⟨⟩
theorem tw3062846911670604091:True:=⟨⟩
theorem tw17301615348730981393:True:=⟨⟩
theorem tw13417333884292117307:True:=⟨⟩
theorem tw9242622607274080276:True:=⟨⟩
theorem tw12991237433824383562:True:=⟨⟩
theorem tw17597536303584365925:True:=⟨⟩
theorem tw16274823655402070093:True:=⟨⟩
theorem tw15779834305992468503:True:=⟨⟩
theorem tw6919987288777731362:True:=⟨⟩
theorem tw15397931215863277002:True:=⟨⟩
theorem tw11110278577174672487:True:=⟨⟩
theorem tw4741641511565760477:True:=⟨⟩
theorem tw4184866418858945806:True:=⟨⟩
theorem tw4981122067931261760:True:=⟨⟩
theorem tw16928153187667910541:True:=⟨⟩
theorem tw3196722301473453471:True:=⟨⟩
theorem tw16434543775138228466:True:=⟨⟩
theorem tw14622886118793827212:True:=⟨⟩
theorem tw1683699912696371895:True:=⟨⟩
theorem tw3951413657512521727:True:=⟨⟩
theorem tw977122582870915583:True:=⟨⟩
theorem tw15966839082336567331:True:=⟨⟩
theorem tw14435483705948897903:True:=⟨⟩
theorem tw1896444414350600610:True:=⟨⟩
theorem tw15123954294964019439:True:=⟨⟩
theorem tw7013386638543115970:True:=⟨⟩
theorem tw6481094487112509030:True:=⟨⟩
theorem tw709956202098284370:True:=⟨⟩
theorem tw5056453378113628963:True:=⟨⟩
theorem tw11866012832460562459:True:=⟨⟩
theorem tw9961198775851368100:True:=⟨⟩
theorem tw5308393758668925948:True:=⟨⟩
theorem tw2195845196818178440:True:=⟨⟩
theorem tw2295325427961842516:True:=⟨⟩
theorem tw2671766320465028499:True:=⟨⟩
theorem tw1264428179920170270:True:=⟨⟩
theorem tw4174990602096936620:True:=⟨⟩
theorem tw1494419676896902466:True:=⟨⟩
theorem tw14106591691280106892:True:=⟨⟩
theorem tw6031993961484670011:True:=⟨⟩
theorem tw13252136954765895378:True:=⟨⟩
theorem tw18347797647087748207:True:=⟨⟩
theorem tw10063642290907443272:True:=⟨⟩
theorem tw16316498564109665720:True:=⟨⟩
theorem tw17205482374645452554:True:=⟨⟩
theorem tw11097321968340679722:True:=⟨⟩
theorem tw17420731175288820327:True:=⟨⟩
theorem tw1745971975621387582:True:=⟨⟩
theorem tw4021385484120725748:True:=⟨⟩
theorem tw11095044798743766193:True:=⟨⟩
theorem tw878841221168164660:True:=⟨⟩
theorem tw3036506726940710073:True:=⟨⟩
theorem tw5882486844465114224:True:=⟨⟩
theorem tw2968163545758426189:True:=⟨⟩
theorem tw2361999871873749412:True:=⟨⟩
theorem tw10297493471380420278:True:=⟨⟩
theorem tw17820675088549538759:True:=⟨⟩
theorem tw10882379761825170094:True:=⟨⟩
theorem tw4337988420048635172:True:=⟨⟩
theorem tw16232313949675852750:True:=⟨⟩
theorem tw17773049080326737265:True:=⟨⟩
theorem tw17593779642783783268:True:=⟨⟩
theorem tw16110521834476531667:True:=⟨⟩
theorem tw2914764497315167868:True:=⟨⟩
theorem tw16052218277890153368:True:=⟨⟩
theorem tw15377131592661345005:True:=⟨⟩
theorem tw14524911315723638673:True:=⟨⟩
theorem tw1046260759991624179:True:=⟨⟩
theorem tw3789480888347154078:True:=⟨⟩
theorem tw2821601438247603071:True:=⟨⟩
theorem tw15318144775218238910:True:=⟨⟩
theorem tw2199502437845264130:True:=⟨⟩
theorem tw807450793524647626:True:=⟨⟩
theorem tw9126483869160253724:True:=⟨⟩
theorem tw5594382586775372265:True:=⟨⟩
theorem tw2823030651820277457:True:=⟨⟩
theorem tw15246173918967293863:True:=⟨⟩
theorem tw14367501525533372597:True:=⟨⟩
theorem tw13146329282901293657:True:=⟨⟩
theorem tw8862378652567768947:True:=⟨⟩
theorem tw7998210143514686637:True:=⟨⟩
theorem tw4386167699599486874:True:=⟨⟩
theorem tw8308320653002854424:True:=⟨⟩
theorem tw12419503808959439283:True:=⟨⟩
theorem tw3298380842890656715:True:=⟨⟩
theorem tw7115009887083260070:True:=⟨⟩
end PySem.W.Fast
open PySem PySem.W PyProof.Rows
set_option maxRecDepth 100000 in
set_option maxHeartbeats 0 in
theorem PySem.Challenge.cw_pastways_k43_owners_holds : PySem.Challenge.rw_pastways_k43_owners.Holds := by
 w_on;o_law;k_head;(case hw=>w_witness2)
 k_fill
 refine Sm.G3 (F:=Lw.prog) (wh:=100000) (n:=60) (f:=19) (x:="_law_script") (l:=PySem.Challenge.rw_pastways_k43_owners) rfl rfl ⟨rfl,by decide,by decide⟩ (λw h Y=>PySem.W.kIn_of Y) Lw.good ?F
 case F=>
  intro w mg fa h KX G hmg
  refine' Lw.all_mk KX G hmg ⟨?a0,L2.cO ?l0 ?c0 ?k0⟩ ⟨?a1,L2.cO ?l1 ?c1 ?k1⟩ ⟨?a2,L2.cO ?l2 ?c2 ?k2⟩ ⟨?a3,L2.cO ?l3 ?c3 ?k3⟩ ⟨?a4,L2.cO ?l4 ?c4 ?k4⟩ ⟨?a5,L2.cO ?l5 ?c5 ?k5⟩ ⟨?a6,L2.cO ?l6 ?c6 ?k6⟩ ⟨?a7,L2.cO ?l7 ?c7 ?k7⟩ ⟨?a8,L2.cO ?l8 ?c8 ?k8⟩ ⟨?a9,L2.cO ?l9 ?c9 ?k9⟩ ⟨?UL,L2.cO ?UM ?UN ?UO⟩ ⟨?UP,L2.cO ?UQ ?UR ?US⟩ ⟨?UT,L2.cO ?UU ?c12 ?UW⟩ ⟨?UX,L2.cO ?UY ?UZ ?U0⟩ ⟨?U1,L2.cO ?U3 ?U4 ?U5⟩ ⟨?U6,L2.cO ?U7 ?U8 ?U9⟩ ⟨?Va,L2.cO ?Vb ?Vc ?Vd⟩ ⟨?Ve,L2.cO ?Vf ?Vg ?Vh⟩ ⟨?Vi,L2.cO ?Vj ?Vk ?Vl⟩ ⟨?Vm,L2.cO ?Vn ?Vo ?Vp⟩ ⟨?ar,L2.cO ?lr ?cr ?kr⟩ ?xw (Sm.Ho ?Vq ?Vr ?Vs ?Vt ?Vu ?Vv) ?z0 ?z1 ?z2 ?z3 ?z4 ?z5 ?q0;all_goals try first|k_is|rfl|decide +kernel | (with_unfolding_all rfl)
  all_goals kernel_rfl

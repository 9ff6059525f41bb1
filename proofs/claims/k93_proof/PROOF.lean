import PyProof.Rows.All
import Wide.All
import OpenK.AllK
import Wide.FinOn
import Lean
import PyProof.EqAt
import PyProof.EqKinds
import PyProof.TupleCall
import PyProof.DictUpdate
import PyProof.NeKinds
import PyProof.StrLawsIn
import KE.KRevSl
import PyProof.ZipIter
import PyProof.ListRange
import PyProof.Rows.SortStr
import KE.KRevIter
import KE.KDictSum
import PyProof.EnumMake
import PyProof.EnumFor
import PyProof.Draws
import KE.KIntText
import PyProof.CallStr
import PyProof.SetKind
import PySem.Challenge.RW_pastways_k93_owned_texts
set_option Elab.async false
set_option linter.all false
set_option maxRecDepth 100000
def bP:=@PySem.wpAny_bind
def b8:=@if_pos
def cz:=@Option.map_eq_some_iff
def eE:=@Nat.lt_of_lt_of_le
def eU:=@Option.bind_eq_some_iff
def gQ:=@Bool.and_eq_true
def gV:=@List.getElem?_set_ne
def lz:=@Option.some.inj
def wW:=@List.getElem?_append_left
def wX:=@List.map_cons
def zo:=@PySem.Heap.lt_size
def AQ:=@PySem.Heap.get?_push_of_some
def EZ:=@PySem.wpAny_pure
def Nb:=@List.size_toArray
def Qq:=@Nat.le_refl
def Qs:=@List.getElem?_set_self
def RY:=@List.getElem?_eq_getElem
def SA:=@if_neg
def Uc:=@Nat.le_trans
def Uo:=@PySem.wpAny_mono
def Up:=@decide_eq_false
def Vd:=@congrArg
def Ve:=@List.length_append
def Vf:=@List.mem_append_right
def Vg:=@List.length_cons
def Vh:=@List.mem_cons_of_mem
def Vi:=@Bool.false_eq_true
def Vj:=@if_true
def Vk:=@Nat.ne_of_lt
def Vl:=@PySem.Heap.get?_push_size
def Vm:=@List.length_map
def Vn:=@List.replicate_succ
def Vo:=@List.filterMap_cons
def Vp:=@PySem.W.mg_of
def Vq:=@List.getElem?_map
def Vr:=@List.mem_of_getElem?
def Vs:=@PySem.W.mg_none_of
def Vt:=@PySem.W.kia_one
def Vu:=@List.flatten_cons
def Vv:=@List.mem_cons_self
def Vw:=@Bool.false_ne_true
def Vx:=@Nat.lt_irrefl
def Vy:=@PySem.AutoSeq1.wpAny_loadPart'
def Vz:=@List.length_take
def VA:=@PySem.wpAny_truthy_bool
def VB:=@List.length_singleton
def VC:=@decide_eq_true_eq
def VD:=@Bool.not_eq_true'
def VE:=@List.append_nil
def VF:=@Bool.or_eq_true
def VG:=@if_false
def VH:=@List.getElem?_eq_none
def VI:=@PyProof.Rows.slot_tuple_getitem
def VJ:=@List.map_map
def VL:=@Bool.eq_iff_iff
def VM:=@List.lookup_cons
def VN:=@List.length_drop
def VO:=@List.cons_append
def VP:=@PySem.call_meets
def VQ:=@Nat.zero_le
def VR:=@List.take_of_length_le
def VS:=@List.length_nil
def VT:=@List.forIn_cons
def VU:=@List.find?_cons
def VW:=@List.mem_cons
def VX:=@List.getElem?_append_right
def VY:=@PySem.Calls.Name_function_global
def VZ:=@PySem.wpAny_newObj_type
def V0:=@of_decide_eq_true
def V1:=@List.all_eq_true
def V2:=@PySem.mem_of_lookup
def V3:=@Option.bind_eq_bind
def V4:=@List.take_succ_cons
def V5:=@PySem.F.plainAttrs_list
def V6:=@List.nil_append
def V7:=@PySem.wpAny_Call_Name_kw
def V8:=@PyProof.Rows.split_le
def V9:=@PySem.sizeLine_eq
def Wa:=@List.dropLast_eq_take
def Wb:=@PyProof.Rows.callWith_type1
def Wd:=@Ne.symm
def We:=@PySem.wpAny_field
def Wf:=@PySem.wpAny_passesOwn
def Wg:=@List.cons.injEq
def Wh:=@List.drop_eq_getElem_cons
def Wi:=@Eq.trans
def Wj:=@List.map_nil
def Wk:=@Int.emod_lt_of_pos
def Wl:=@PySem.F.args_tuple_mul_2
def Wm:=@PySem.F.args_tuple_add_2
def Wn:=@PySem.typeIs_str
def Wo:=@decide_eq_true
def Wq:=@List.drop_zero
def Wr:=@PySem.F.entry_tuple_mul
def Ws:=@PySem.F.entry_tuple_add
def Wt:=@PySem.Calls.loadGlobal_global
def Wu:=@PySem.wpAny_Call_method_late
def Wv:=@PySem.W.cellsFrom_some
def Ww:=@PySem.F.slot_tuple_mul
def Wx:=@PySem.F.slot_tuple_add
def Wy:=@PySem.Heap.get?_update_other
def Wz:=@PySem.wpAny_holding
def WA:=@PySem.wpAny_execs_cons
def WB:=@Nat.lt_succ_self
def WC:=@List.any_eq_true
def WD:=@PySem.F.slot_str_split
def WE:=@PySem.codeAny_mono
def WG:=@Nat.succ_mul
def WH:=@List.of_mem_zip
def WI:=@List.nodup_cons
def WJ:=@Int.emod_nonneg
def WK:=@List.getElem?_of_mem
def WL:=@List.extract_toArray
def WM:=@Nat.sub_lt_sub_left
def WN:=@List.getElem_of_mem
def WO:=@Array.length_toList
def WQ:=@List.drop_drop
def WT:=@PyProof.Rows.vals1
def WU:=@PyProof.V.same_str
def WV:=@Nat.add_sub_cancel
def WW:=@List.contains_cons
def WX:=@PySem.F.args_str_split_2
def WY:=@PySem.Calls.spliced_cons
def WZ:=@PySem.wpAny_newFunctionEnv_cells
def W0:=@PySem.wpAny_Return_some
def W2:=@PySem.W.kitx_list
def W3:=@List.append_assoc
def W4:=@PySem.F.entry_str_split
def W5:=@PySem.Calls.spliced_nil
def W6:=@PySem.wpAny_call
def W7:=@PySem.typeIs_int
def W8:=@PySem.wpAny_binaryOp_repeat_ref
def W9:=@List.getElem?_eq_none_iff
def Xa:=@PySem.W.looks_findIn
def Xb:=@Nat.zero_add
def Xc:=@Nat.lt_or_ge
def Xd:=@PySem.wpAny_call_entry
def Xe:=@PySem.noFill_tuple_add
def Xf:=@List.drop_length
def Xg:=@PySem.AutoSeq1.idx_int
def Xh:=@PySem.wpAny_comprehension_free
def Xi:=@PySem.wpAny_callSpecial?_slot
def Xj:=@List.getElem?_replicate
def Xk:=@PyProof.Rows.split_len
def Xl:=@PySem.wpAny_execs_nil
def Xm:=@Nat.le_antisymm
def Xn:=@List.foldl_cons
def Xo:=@PySem.codeAny_compStart_list
def Xq:=@PySem.F.plainAttrs_str
def Xr:=@List.range_succ_eq_map
def Xu:=@List.drop_eq_nil_of_le
def Xv:=@PySem.Calls.callWith_builtin
def Xw:=@PySem.Heap.size_push
def Xx:=@Bool.false_and
def Xy:=@PySem.wpAny_isTrue_Compare1
def Xz:=@PySem.codeAny_call_function
def XA:=@PySem.F.slot_int_rmul
def XD:=@List.take_append_drop
def XE:=@List.singleton_append
def XF:=@List.contains_iff_mem
def XG:=@PySem.args_get
def XH:=@PySem.wpAny_Name
def XJ:=@beq_iff_eq
def XM:=@PySem.W.hideAll_none
def XN:=@Nat.pow_le_pow_right
def XO:=@List.mem_append_left
def XQ:=@List.getElem_toArray
def XS:=@PySem.seq_tuple_add
def XT:=@List.any_cons
def XU:=@PySem.W.KF.type_class
def XW:=@PySem.W.hideAll_get
def XX:=@List.getElem?_range
def XY:=@List.drop_succ_cons
def XZ:=@PySem.wpAny_typeOf
def X3:=@PySem.concat_meets
def X4:=@Nat.sub_zero
def X5:=@Nat.le_of_lt
def X6:=@PySem.W.of_hideAll
def X7:=@PySem.W.kitx_tuple
def X8:=@PySem.W.codeRec_of
def Yb:=@PySem.W.callWith_K
def Yc:=@List.zip_cons_cons
def Yd:=@List.mem_singleton
def Ye:=@PySem.W.kt_tab_in
def Yg:=@PySem.W.kitx_dict
def Yh:=@Option.some.injEq
def Yi:=@Nat.le_succ_of_le
def Yj:=@List.length_range
def Yk:=@Int.toNat_natCast
def Yl:=@beq_self_eq_true
def Ym:=@PySem.seqSlot_of
def Yn:=@Option.getD_none
def Yo:=@Nat.min_eq_right
def Yp:=@List.range'_succ
def Yq:=@List.mem_nil_iff
def Yr:=@List.getElem_map
def Ys:=@List.getElem_inj
def Yt:=@Option.map_some
def Yu:=@Nat.min_eq_left
def Yv:=@Nat.le_add_left
def Yw:=@List.range'_one
namespace L2
open PySem PySem.Spec PyProof.Rows
abbrev Key:=Sum Int Str
noncomputable def ow:Key->Value->Bool
 |.inl k,v=>Value.isInt k v
 |.inr x,v=>Value.isStrOf x v
noncomputable def QN(w:World):Key->Int
 |.inl k=>hashInt k
 |.inr x=>hashStr w x
def dh:∀{k:Key}{v:Value},ow k v=true->(∃i t,k=Sum.inl i/\v=Value.int i t)\/(∃x t,k=Sum.inr x/\v=Value.str x t)
 |.inl i,v,h=>by
  obtain⟨t,e⟩:=Value.isInt_shape (k:=i) (v:=v) h;exact .inl ⟨i,t,rfl,e⟩
 |.inr x,v,h=>by
  obtain⟨t,e⟩:=Value.isStrOf_shape (x:=x) (v:=v) h;exact .inr ⟨x,t,rfl,e⟩
def A3(i:Int)(t:Tok):ow (.inl i) (.int i t)=true:=by simp[ow,Value.isInt]
def A4(x:Str)(t:Tok):ow (.inr x) (.str x t)=true:=by simp[ow,Value.isStrOf]
def JZ(a b:Int):decide ((Sum.inl a:Key)=Sum.inl b)=(a==b):=by
 by_cases e:a=b
 .subst e;simp
 .have h:¬ (Sum.inl a:Key)=Sum.inl b:=λq=>e (Sum.inl.inj q);rw[Up h];exact(beq_eq_false_iff_ne.mpr e).symm
def J0(a b:Str):decide ((Sum.inr a:Key)=Sum.inr b)=decide (a=b):=by
 by_cases e:a=b
 .subst e;simp
 .have h:¬ (Sum.inr a:Key)=Sum.inr b:=λq=>e (Sum.inr.inj q);rw[Up h,Up e]
def J1(a:Int)(b:Str):decide ((Sum.inl a:Key)=Sum.inr b)=false:=Up (λq=>nomatch q)
def J2(a:Str)(b:Int):decide ((Sum.inr a:Key)=Sum.inl b)=false:=Up (λq=>nomatch q)
noncomputable def cT(prog:Program)(w:World):PySem.KeyKind prog w Key where
 is:=ow
 hash:=QN w
 inj:=λv a b ha hb=>by
  rcases dh ha with ⟨i,t,rfl,rfl⟩|⟨x,t,rfl,rfl⟩
  .rcases dh hb with ⟨j,u,rfl,e⟩|⟨y,u,rfl,e⟩
   .injection e with e1 _;rw[e1]
   .exact nomatch e
  .rcases dh hb with ⟨j,u,rfl,e⟩|⟨y,u,rfl,e⟩
   .exact nomatch e
   .injection e with e1 _;rw[e1]
 byValue:=λk v h=>by
  rcases dh h with ⟨i,t,rfl,rfl⟩|⟨x,t,rfl,rfl⟩<;>rfl
 pyHash:=λhv h=>by
  rcases dh hv with ⟨i,t,rfl,rfl⟩|⟨x,t,rfl,rfl⟩
  .exact wpAny_pyHash_int h
  .exact wpAny_pyHash_str h
 eqBool:=λhu hv h=>by
  rcases dh hu with ⟨i,t,rfl,rfl⟩|⟨x,t,rfl,rfl⟩
  .rcases dh hv with ⟨j,u,rfl,rfl⟩|⟨y,u,rfl,rfl⟩
   .rw[JZ]at h;exact wpAny_eqBool_int h
   .rw[J1]at h;exact SeqAt.EqAt.int_str i t y u _ _ _ _ h
  .rcases dh hv with ⟨j,u,rfl,rfl⟩|⟨y,u,rfl,rfl⟩
   .rw[J2]at h;exact SeqAt.EqAt.str_int x t j u _ _ _ _ h
   .rw[J0]at h;exact wpAny_eqBool_str h
 «strs»:=λk x t v h=>by
  rcases dh h with ⟨i,u,rfl,e⟩|⟨y,u,rfl,e⟩
  .exact nomatch e
  .injection e with e1 _
   subst e1;cases v<;>rfl
def xy(prog:Program)(w:World)(i:Int)(t:Tok):(cT prog w).is (.inl i) (.int i t)=true:=A3 i t
def xA(prog:Program)(w:World)(x:Str)(t:Tok):(cT prog w).is (.inr x) (.str x t)=true:=A4 x t
inductive V where
 |bf|bl (b:Bool)|int (i:Int)|str (x:Str)|mH (b:Array UInt8)|xX (b:UInt64)|ref (a:Addr)|ty (n:String)
 deriving DecidableEq
noncomputable def RelV:V->Value->Prop
 |.bf,u=>u=Value.none
 |.bl b,u=>u=Value.bool b
 |.int i,u=>∃t,u=Value.int i t
 |.str x,u=>∃t,u=Value.str x t
 |.mH b,u=>∃t,u=Value.bytes b t
 |.xX b,u=>∃t,u=Value.float b t
 |.ref a,u=>u=Value.ref a
 |.ty n,u=>u=Value.type n
abbrev Vals:List V->List Value->Prop:=Paired RelV
theorem Vals.length{xs:List V}{us:List Value}(r:Vals xs us):xs.length=us.length:=Paired.length r
theorem Vals.get:∀{xs:List V}{us:List Value}{i:Nat}{x:V},Vals xs us->xs[i]?=some x->∃u,us[i]?=some u/\RelV x u
 |_,_,_,_,.nil,e=>by simp at e
 |_,_,0,_,.cons r _,e=>by simp at e;subst e;exact⟨_,rfl,r⟩
 |_,_,i+1,x,.cons _ t,e=>by
  obtain⟨u,h1,h2⟩:=Vals.get (i:=i) (x:=x) t (by simpa using e);exact⟨u,by simpa using h1,h2⟩
theorem Vals.append:∀{xs ys:List V}{us ws:List Value},Vals xs us->Vals ys ws->Vals (xs++ys) (us++ws)
 |_,_,_,_,.nil,s=>s
 |_,_,_,_,.cons r t,s=>.cons r (Vals.append t s)
theorem Vals.take:∀{xs:List V}{us:List Value}(n:Nat),Vals xs us->Vals (xs.take n) (us.take n)
 |_,_,0,_=>.nil
 |_,_,_+1,.nil=>.nil
 |_,_,n+1,.cons r t=>.cons r (Vals.take n t)
theorem Vals.drop:∀{xs:List V}{us:List Value}(n:Nat),Vals xs us->Vals (xs.drop n) (us.drop n)
 |_,_,0,r=>r
 |_,_,_+1,.nil=>.nil
 |_,_,n+1,.cons _ t=>Vals.drop n t
noncomputable def lB:Option V->Option Value->Prop
 |some v,some u=>RelV v u
 |none,none=>True
 |_,_=>False
noncomputable def KV{κ:Type}:List (κ×V)->List (κ×Value)->Prop:=Paired λ(p:κ×V) (q:κ×Value)=>p.1=q.1/\RelV p.2 q.2
noncomputable def kV:Key->V
 |.inl i=>.int i
 |.inr x=>.str x
inductive HO where
 |lst (xs:List V)
 |tup (xs:List V)
 |dK (kvs:List (Key×V))|dT (kvs:List (List Key×V))
 |set (S:Int->Bool) (n:Nat)
 |ins (C dx:Addr) (fs:List (Str×V))
 |own (x:Addr)
 |xd (fs:List (Str×V))
 |met (f x:Addr)
 |eW (lo hi:Int)
 |bE (o:Obj) (u:HO)
 |sZ (ps:Array Value)
 |ext (φ:Heap->Prop)
abbrev Hp:=Addr->Option HO
noncomputable def upd(H:Hp)(a:Addr)(o:HO):Hp:=λb=>if b=a then some o else H b
def cJ{H:Hp}{a:Addr}{o:HO}:upd H a o a=some o:=by unfold upd;rw[b8 rfl]
def aV{H:Hp}{a b:Addr}{o:HO}(h:b≠a):upd H a o b=H b:=by unfold upd;rw[SA h]
def Hf{H:Hp}{a:Addr}{o u:HO}:upd (upd H a o) a u=upd H a u:=by
 funext b;unfold upd;split<;>rfl
def oz{H:Hp}{a b:Addr}{o u:HO}(h:H a=some o)(h':H b=some u)(d:o≠u):a≠b:=by
 intro e;subst e;rw[h]at h';exact d (lz h')
def bq{H:Hp}{a b:Addr}{o:HO}(h:H a=some o)(h':H b=none):a≠b:=by
 intro e;subst e;rw[h]at h';cases h'
section
variable(P:Program)(w:World)
noncomputable def b6(H:Hp)(h:Heap)(a:Addr):HO->Prop
 |.lst xs=>xs.length<=sizeLine/\∃(its:List Value) (n:Nat),Vals xs its/\h.get? a=some { cls:=.type "list",data:=.seq its.toArray n }
 |.tup xs=>xs.length<=sizeLine/\∃its:List Value,Vals xs its/\IsTup h a its.toArray
 |.dK kvs=>kvs.length<=sizeLine/\(a==sysModules)=false/\∃vs,KV kvs vs/\h.DictOf (cT P w) a vs
 |.dT kvs=>kvs.length<=sizeLine/\(a==sysModules)=false/\∃xs:List (List Key×Addr×Value),
   Paired (λ(p:List Key×V) (q:List Key×Addr×Value)=>p.1=q.1/\H q.2.1=some (.tup (p.1.map kV))/\RelV p.2 q.2.2) kvs xs/\
   ∃o es ep,h.get? a=some o/\o.ExactDict/\o.data=.dict es ep/\es.toList=xs.map (entryOfKey (tupleKind (cT P w)))/\(xs.map (·.1)).Nodup
 |.set S n=>h.SetOf (intKind P w) a S n
 |.ins C dx fs=>H dx=some (.own a)/\fs.length<=1000/\dx≠a/\h.get? a=some (PySem.W.instObj C dx)/\
   ∃mA,h.Ns1 dx mA/\(∀f,lB (fs.lookup f) (mA f))/\PySem.Within mA (fs.map (·.1))
 |.own _=>∃o,h.get? a=some o
 |.xd fs=>∃mA,h.Ns1 a mA/\∀f,lB (fs.lookup f) (mA f)
 |.eW lo hi=>∃t u v,h.get? a=some { cls:=.type "range",data:=.fields #[.int lo t,.int hi u,.int 1 v]}
 |.bE o u=>h.get? a=some o/\b6 H h a u
 |.sZ ps=>h.get? a=some { cls:=.none,data:=.fields ps }
 |.met f x=>h.get? a=some (PySem.W.methodObj (.ref f) (.ref x))
 |.ext φ=>φ h/\(∃o,h.get? a=some o)/\∀h1 h2:Heap,φ h1->(∀o,h1.get? a=some o->h2.get? a=some o)->φ h2
noncomputable def dG(H:Hp)(h:Heap):Prop:=∀a o,H a=some o->b6 P w H h a o
end
section
variable{P:Program}{w:World}{H H':Hp}{h h':Heap}{a:Addr}{o:HO}
theorem b6.lt(x:b6 P w H h a o):a<h.objs.size:=by
 cases o with
 |lst xs=>obtain⟨_,_,_,_,e⟩:=x;exact zo e
 |tup xs=>obtain⟨_,_,_,p⟩:=x;exact p.lt
 |dK kvs=>obtain⟨_,_,_,_,o,_,_,e,_⟩:=x;exact zo e
 |dT kvs=>obtain⟨_,_,_,_,o,_,_,e,_⟩:=x;exact zo e
 |set S n=>obtain⟨o,_,_,_,e,_⟩:=x;exact zo e
 |ins C dx fs=>obtain⟨_,_,_,e,_⟩:=x;exact zo e
 |own y=>obtain⟨_,e⟩:=x;exact zo e
 |xd fs=>obtain⟨_,⟨_,_,_,e,_⟩,_⟩:=x;exact zo e
 |eW lo hi=>obtain⟨_,_,_,e⟩:=x;exact zo e
 |bE ob u=>obtain⟨e,_⟩:=x;exact zo e
 |sZ ps=>exact zo (show h.get? a=some _ from x)
 |met f y=>exact zo (show h.get? a=some _ from x)
 |ext φ=>obtain⟨_,⟨_,e⟩,_⟩:=x;exact zo e
theorem Paired.J3{α β:Type}{F G:α->β->Prop}:∀{l₁:List α}{l₂:List β},Paired F l₁ l₂->(∀a b,F a b->G a b)->Paired G l₁ l₂
 |_,_,.nil,_=>.nil
 |_,_,.cons r t,f=>.cons (f _ _ r) (Paired.J3 t f)
def b6.stay(x:b6 P w H h a o)(k:∀b u,(b=a\/H b=some (.own a))->h.get? b=some u->h'.get? b=some u)
  (ho:∀b,H b=some (.own a)->H' b=some (.own a)) (ht:∀b xs,H b=some (.tup xs)->H' b=some (.tup xs)):b6 P w H' h' a o:=by
 induction o with
 |lst xs=>obtain⟨z,its,n,r,e⟩:=x;exact⟨z,its,n,r,k _ _ (.inl rfl) e⟩
 |tup xs=>obtain⟨z,its,r,ob,e,c⟩:=x;exact⟨z,its,r,ob,k _ _ (.inl rfl) e,c⟩
 |dK kvs=>obtain⟨z,y,vs,r,ob,es,ep,e,c⟩:=x;exact⟨z,y,vs,r,ob,es,ep,k _ _ (.inl rfl) e,c⟩
 |dT kvs=>
  obtain⟨z,y,xs,r,ob,es,ep,e,c⟩:=x;exact⟨z,y,xs,Paired.J3 r λp q z=>⟨z.1,ht _ _ z.2.1,z.2.2⟩,ob,es,ep,k _ _ (.inl rfl) e,c⟩
 |set S n=>obtain⟨ob,es,ep,t,e,c⟩:=x;exact⟨ob,es,ep,t,k _ _ (.inl rfl) e,c⟩
 |ins C dx fs=>
  obtain⟨d,z,ne,e,mA,⟨od,es,ep,e2,c⟩,r⟩:=x;exact⟨ho _ d,z,ne,k _ _ (.inl rfl) e,mA,⟨od,es,ep,k _ _ (.inr d) e2,c⟩,r⟩
 |own y=>obtain⟨ob,e⟩:=x;exact⟨ob,k _ _ (.inl rfl) e⟩
 |xd fs=>obtain⟨mA,⟨od,es,ep,e,c⟩,r⟩:=x;exact⟨mA,⟨od,es,ep,k _ _ (.inl rfl) e,c⟩,r⟩
 |eW lo hi=>obtain⟨t,u,v,e⟩:=x;exact⟨t,u,v,k _ _ (.inl rfl) e⟩
 |bE ob u ih=>obtain⟨e,q⟩:=x;exact⟨k _ _ (.inl rfl) e,ih q⟩
 |sZ ps=>
  have e:h.get? a=some { cls:=.none,data:=.fields ps }:=x;show h'.get? a=some { cls:=.none,data:=.fields ps };exact k a _ (.inl rfl) e
 |met f y=>
  have e:h.get? a=some (PySem.W.methodObj (.ref f) (.ref y)):=x;show h'.get? a=some (PySem.W.methodObj (.ref f) (.ref y));exact k a _ (.inl rfl) e
 |ext φ=>obtain⟨p,⟨o,e⟩,st⟩:=x;exact⟨st _ _ p λo q=>k _ _ (.inl rfl) q,⟨o,k _ _ (.inl rfl) e⟩,st⟩
theorem dG.lt(x:dG P w H h)(e:H a=some o):a<h.objs.size:=(x a o e).lt
def dG.fresh(x:dG P w H h)(e:h.objs.size<=a):H a=none:=by
 cases q:H a with
 |none=>rfl
 |some u=>exact absurd (eE (x.lt q) e) (Vx _)
def dG.kept(x:dG P w H h)(k:∀b u,h.get? b=some u->h'.get? b=some u):dG P w H h':=λa o e=>
 (x a o e).stay (λb u _ q=>k b u q) (λ_ q=>q) λ_ _ q=>q
def dG.laid(x:dG P w H h)(k:∀b u,h.get? b=some u->h'.get? b=some u)(hp:h.objs.size<=a)(new:b6 P w (upd H a o) h' a o):dG P w (upd H a o) h':=λb u e=>by
 have hn:=x.fresh hp;by_cases hb:b=a
 .subst hb;rw[cJ]at e;cases e;exact new
 .rw[aV hb]at e;exact(x b u e).stay (λc v _ q=>k c v q) (λc q=>by rw[aV (bq q hn)];exact q) λc xs q=>by rw[aV (bq q hn)];exact q
end
noncomputable def Rd(H:Hp)(a:Addr)(u:HO):Prop:=H a=some u\/∃o,H a=some (.bE o u)
def Rd.ok{P:Program}{w:World}{H:Hp}{h:Heap}{a:Addr}{u:HO}(r:Rd H a u)(x:dG P w H h):b6 P w H h a u:=by
 rcases r with r|⟨o,r⟩
 .exact x a u r
 .obtain⟨_,q⟩:=x a _ r;exact q
noncomputable def A5:Option HO->Prop
 |some (.lst _)=>True
 |some (.dK _)=>True
 |some (.dT _)=>True
 |some (.set _ _)=>True
 |some (.ins _ _ _)=>True
 |some (.ext _)=>True
 |_=>False
section
variable{P:Program}{w:World}{H:Hp}{h h':Heap}{x e:Addr}{o':HO}
def dG.write(ok:dG P w H h)(mu:A5 (H x))(he:e=x\/H e=some (.own x))(k:∀b u,b≠e->h.get? b=some u->h'.get? b=some u)(xY:∃u,h'.get? e=some u)
  (new:b6 P w (upd H x o') h' x o'):dG P w (upd H x o') h':=λb u q=>by
 have J4:∀c y,H c=some (.own y)->c≠x:=λc y r z=>by subst z;rw[r]at mu;exact mu
 have QO:∀c xs,H c=some (.tup xs)->c≠x:=λc xs r z=>by subst z;rw[r]at mu;exact mu
 by_cases hb:b=x
 .subst hb;rw[cJ]at q;cases q;exact new
 .rw[aV hb]at q;by_cases uS:b=e
  .have q':H b=some (.own x):=by
    rcases he with z|z
    .exact absurd (uS.trans z) hb
    .rw[uS];exact z
   rw[q]at q';cases q';obtain⟨v,hv⟩:=xY;exact⟨v,by rw[uS];exact hv⟩
  .refine(ok b u q).stay (λc v hc r=>k c v ?_ r) (λc r=>by rw[aV (J4 c b r)];exact r) λc xs r=>by rw[aV (QO c xs r)];exact r
   rcases hc with rfl|hc
   .exact uS
   .rintro rfl;rcases he with z|z
    .exact J4 c b hc z
    .rw[hc]at z;cases z;exact hb rfl
end
structure Un(fs ex:List Addr)(H H':Hp)(h h':Heap):Prop where
 keep:∀b o,h.get? b=some o->H b=none->b∉fs->b∉ex->h'.get? b=some o
 slot:∀b o,h.get? b=some o->H b=none->b∈fs->b∉ex->∃sl,h'.get? b=some { o with slots:=sl }
 free:∀b o,h.get? b=some o->H b=none->b∉ex->H' b=none
 there:∀b o,h.get? b=some o->b∉ex->∃o',h'.get? b=some o'
 tups:∀b xs,H b=some (.tup xs)->H' b=some (.tup xs)
 jF:∀b o u,H b=some (.bE o u)->H' b=some (.bE o u)
 kj:∀b ps,H b=some (.sZ ps)->∃more,H' b=some (.sZ (ps++more))
section
variable{fs ex:List Addr}{H H1:Hp}{h h1 h':Heap}{a x e:Addr}{o:HO}
def Un.any(u:Un fs ex H H1 h h1){b:Addr}{ob:Obj}(q:h.get? b=some ob)(n:H b=none)(hx:b∉ex):∃sl,h1.get? b=some { ob with slots:=sl }:=by
 by_cases hb:b∈fs
 .exact u.slot b ob q n hb hx
 .exact⟨ob.slots,u.keep b ob q n hb hx⟩
def Un.kept(k:∀b u,h.get? b=some u->h'.get? b=some u):Un fs ex H H h h':=
 ⟨λb ob q _ _ _=>k b ob q,λb ob q _ _ _=>⟨ob.slots,k b ob q⟩,λ_ _ _ n _=>n,λb ob q _=>⟨ob,k b ob q⟩,λ_ _ q=>q,λ_ _ _ q=>q,λ_ ps q=>⟨#[],by rw[q];simp⟩⟩
def Un.refl:Un fs ex H H h h:=Un.kept λ_ _ q=>q
def Un.laid(k:∀b u,h.get? b=some u->h'.get? b=some u)(hp:h.objs.size<=a)(hn:H a=none):Un fs ex H (upd H a o) h h' where
 keep:=λb u q _ _ _=>k b u q
 slot:=λb u q _ _ _=>⟨u.slots,k b u q⟩
 free:=λb u q n _=>by rw[aV (Vk (eE (zo q) hp))];exact n
 there:=λb u q _=>⟨u,k b u q⟩
 tups:=λb xs q=>by rw[aV (bq q hn)];exact q
 jF:=λb u xs q=>by rw[aV (bq q hn)];exact q
 kj:=λb ps q=>⟨#[],by rw[aV (bq q hn),q];simp⟩
def Un.write(mu:A5 (H x))(he:e=x\/H e=some (.own x))(k:∀b u,b≠e->h.get? b=some u->h'.get? b=some u)(xY:∃u,h'.get? e=some u):Un fs ex H (upd H x o) h h':=by
 have hx:∀b,H b=none->b≠x:=λb n z=>by subst z;rw[n]at mu;exact mu
 have hb:∀b,H b=none->b≠e:=λb n z=>by
  subst z;rcases he with r|r
  .exact hx b n r
  .rw[n]at r;cases r
 have hm:∀b u,H b=some u->¬ A5 (some u)->b≠x:=λb u q nm z=>by subst z;rw[q]at mu;exact nm mu
 refine⟨λb u q n _ _=>k b u (hb b n) q,λb u q n _ _=>⟨u.slots,k b u (hb b n) q⟩,λb u q n _=>by rw[aV (hx b n)];exact n,λb u q _=>?_,
  λb xs q=>by rw[aV (hm b _ q λz=>z)];exact q,λb u xs q=>by rw[aV (hm b _ q λz=>z)];exact q,λb ps q=>⟨#[],by rw[aV (hm b _ q λz=>z),q];simp⟩⟩
 by_cases uS:b=e
 .subst uS;exact xY
 .exact⟨u,k b u uS q⟩
end
noncomputable def Fe(h:Heap)(H:Hp):List Addr:=(List.range h.objs.size).filter λa=>(H a).isSome
noncomputable def lC(h:Heap)(H:Hp):Heap:=PySem.W.hideAll h (Fe h H)
def A6(h:Heap)(H:Hp):(lC h H).objs.size=h.objs.size:=PySem.W.hideAll_size _ _
def Dk{h:Heap}{H:Hp}{b:Addr}{o:Obj}(e:h.get? b=some o)(n:H b=none):(lC h H).get? b=some o:=
 XW _ e λhm=>by
  have q:(H b).isSome=true:=(List.mem_filter.mp hm).2;rw[n]at q;simp at q
def Hg{h:Heap}{H:Hp}{b:Addr}{o:Obj}(e:(lC h H).get? b=some o):h.get? b=some o/\H b=none:=by
 have e':h.get? b=some o:=X6 (Fe h H) e;refine⟨e',?_⟩;cases q:H b with
 |none=>rfl
 |some x=>
  have hm:b∈Fe h H:=List.mem_filter.mpr ⟨List.mem_range.mpr (zo e'),by simp[q]⟩;have z:(lC h H).get? b=none:=XM (Fe h H) hm;rw[z]at e;cases e
noncomputable def Hi(g h:Heap)(L:Addr):List (Addr×Obj):=(List.range h.objs.size).filterMap λa=>if a=L\/(g.get? a).isSome=true then none else (h.get? a).map λo=>(a,o)
noncomputable def rest(g h:Heap)(L d:Addr):List (Addr×Obj):=(Hi g h L).filter λp=>decide (p.1≠d)
structure Mod(K:PySem.W.Frag)(mg:Str->Option Value)(base:Heap):Prop where
 cO:K.In base
 glob:base.Ns mainGlobals mg
 blt:∃mb,base.Ns builtinsNs mb/\∀x:Str,x≠"__name__" ->mb x=bootBuiltins x
 nolimit:base.NoLimit
structure Cx where
 prog:Program
 w:World
 K:PySem.W.Frag
 mg:Str->Option Value
 base:Heap
 A:Around
 N:List Str
 s₀:Shared
 H₀:Hp
 env:Env
 outer:List Env
 stack:List Env
 ex:List Addr
 fn:Str->Bool
 calm:Bool
 pn:List (Addr×Obj)
 xe:Value->Shared->Prop
noncomputable def frs(l:List Env):List Addr:=l.filterMap (·.frame)
noncomputable abbrev Cx.fs(X:Cx):List Addr:=frs X.outer
noncomputable def tu(sc:Scope)(x:Str):Prop:=sc.names.lookup x=some .local\/sc.names.lookup x=some .cell\/sc.names.lookup x=some .free
noncomputable def Loc(sc:Scope)(x:Str):Prop:=sc.names.lookup x=some .local\/sc.names.lookup x=some .cell
noncomputable def Look(env:Env)(h:Heap)(m:Str->Option Value)(x:Str)(u:Value):Prop:=
 (env.kindOf x=some .local/\m x=some u)\/((env.kindOf x=some .cell\/env.kindOf x=some .free)/\∃c,env.cells.lookup x=some c/\h.IsCell c (some u))
structure Cx.Ok(X:Cx):Prop where
 mod:Mod X.K X.mg X.base
 kind:X.env.scope.kind=.function
 glob:X.env.globals=mainGlobals
 blt:X.env.builtins=builtinsNs
 above:X.s₀.heap.objs.size<=X.env.locals
 inj:∀x y c,X.env.cells.lookup x=some c->X.env.cells.lookup y=some c->x=y
 has:∀x,(X.env.kindOf x=some .cell\/X.env.kindOf x=some .free)->∃c,X.env.cells.lookup x=some c
 uT:∀x c,X.fn x=true->X.env.cells.lookup x=some c->X.s₀.heap.objs.size<=c
 hd:X.calm=true->X.A.handled=none
 frames:X.A.frames=some X.stack
 stk:X.stack=X.outer\/(X.stack=X.env :: X.outer/\X.env.frame=some X.env.locals)
 xZ:∀b∈X.ex,b≠X.env.locals/\∀x c,X.env.cells.lookup x=some c->c≠b
 bs:∀b o,X.base.get? b=some o->X.s₀.heap.get? b=some o/\X.H₀ b=none
 mJ:X.base.objs.size<=X.s₀.heap.objs.size
 pL:∀b o,X.base.get? b=some o->b∉X.ex
 mL:∀b∈X.ex,b∉X.fs
 gR:X.s₀.heap.FunFrames X.base X.outer
 o5:∀b∈X.fs,X.H₀ b=none
structure Inv(X:Cx)(pins:List (Addr×Obj))(σ:List (Option V))(H:Hp)(s:Shared):Prop where
 ok:X.Ok
 os:s.os=X.s₀.os
 bare:AllBare s.gens
 base:Un X.fs X.ex X.H₀ H X.s₀.heap s.heap
 loc:∃m,s.heap.Ns X.env.locals m/\∀(i:Nat) (x:Str) (v:V),X.N[i]?=some x->σ[i]?=some (some v)->tu X.env.scope x->∃u,RelV v u/\Look X.env s.heap m x u
 cell:∀x c,X.env.cells.lookup x=some c->∃v,s.heap.IsCell c v
 free:H X.env.locals=none
 gG:∀x c,X.env.cells.lookup x=some c->H c=none
 pin:∀p∈X.pn++pins,s.heap.get? p.1=some p.2/\H p.1=none/\p.1≠X.env.locals/\p.1∉X.fs/\∀v,p.2.data≠.cell v
 hok:dG X.prog X.w H s.heap
 len:σ.length=X.N.length
section
variable{X:Cx}{pins:List (Addr×Obj)}{σ:List (Option V)}{H H':Hp}{s:Shared}{h':Heap}
def Cx.Ok.QS(ok:X.Ok){b:Addr}{o:Obj}(e:X.base.get? b=some o):b∉X.fs:=λhb=>by
 have:=(ok.gR.mem hb).1;rw[e]at this;cases this
theorem Inv.bs(I:Inv X pins σ H s):∀b o,X.base.get? b=some o->s.heap.get? b=some o/\H b=none:=λb o e=>
 ⟨I.base.keep b o (I.ok.bs b o e).1 (I.ok.bs b o e).2 (I.ok.QS e) (I.ok.pL b o e),I.base.free b o (I.ok.bs b o e).1 (I.ok.bs b o e).2 (I.ok.pL b o e)⟩
def Inv.bk(I:Inv X pins σ H s):∀b o,X.base.get? b=some o->s.heap.get? b=some o:=λb o e=>(I.bs b o e).1
theorem Inv.mod(I:Inv X pins σ H s):Mod X.K X.mg X.base:=I.ok.mod
def Inv.dQ(I:Inv X pins σ H s):X.K.In s.heap:=I.ok.mod.cO.keeps I.bk
theorem Inv.lt(I:Inv X pins σ H s):X.env.locals<s.heap.objs.size:=let ⟨_,hn,_⟩:=I.loc;hn.lt
def Inv.sz(I:Inv X pins σ H s):X.s₀.heap.objs.size<=s.heap.objs.size:=Uc I.ok.above (X5 I.lt)
def Inv.QT(I:Inv X pins σ H s){a:Addr}(h:s.heap.objs.size<=a):a∉X.fs:=λhb=>by
 obtain⟨_,o,ho,_⟩:=I.ok.gR.mem hb;exact absurd (eE (zo ho) (Uc I.sz h)) (Vx _)
def Inv.mP(I:Inv X pins σ H s):∀x c,X.env.cells.lookup x=some c->c≠X.env.locals:=λx c e z=>by
 obtain⟨v,o,ho,hd⟩:=I.cell x c e;obtain⟨m,⟨o',es,ep,ho',hd',_⟩,_⟩:=I.loc;rw[z,ho']at ho;cases ho;rw[hd']at hd;cases hd
theorem Inv.gR(I:Inv X pins σ H s):s.heap.FunFrames X.base X.outer:=by
 have all:∀(l:List Env),(∀b∈frs l,b∈X.fs)->X.s₀.heap.FunFrames X.base l->s.heap.FunFrames X.base l:=by
  intro l;induction l with
  |nil=>intro _ _;trivial
  |cons env r ih=>
   intro hs hl;obtain⟨hk,⟨L,o,hf,hn,ho,hd⟩,hr⟩:=hl;have hL:L∈X.fs:=hs L (by unfold frs;rw[Vo,hf];exact Vv);obtain⟨sl,e⟩:=I.base.slot L o ho (I.ok.o5 L hL) hL λz=>I.ok.mL L z hL;exact⟨hk,⟨L,_,hf,hn,e,hd⟩,ih (λb hb=>hs b (by unfold frs;rw[Vo,hf];exact Vh _ hb)) hr⟩
 exact all X.outer (λ_ hb=>hb) I.ok.gR
theorem Inv.stack(I:Inv X pins σ H s):s.heap.FunFrames X.base X.stack:=by
 rcases I.ok.stk with e|⟨e,hf⟩
 .rw[e];exact I.gR
 .rw[e];obtain⟨m,hn,_⟩:=I.loc;refine .cons (by rw[I.ok.kind];decide) hf hn ?_ I.gR;exact Heap.get?_none_of_le (Uc I.ok.mJ I.ok.above)
def Inv.kK(I:Inv X pins σ H s):∀b∈frs X.stack,b∈X.env.locals :: X.fs:=λb hb=>by
 rcases I.ok.stk with e|⟨e,hf⟩
 .rw[e]at hb;exact Vh _ hb
 .rw[e]at hb;unfold frs at hb;rw[Vo,hf]at hb;exact hb
def Inv.oA(I:Inv X pins σ H s):∀b∈frs X.stack,H b=none:=λb hb=>by
 rcases List.mem_cons.mp (I.kK b hb)with e|hb
 .rw[e];exact I.free
 .obtain⟨_,o,ho,_⟩:=I.ok.gR.mem hb;exact I.base.free b o ho (I.ok.o5 b hb) λz=>I.ok.mL b z hb
def Inv.step{g':Array GenState}{t':Nat}{d':Drawn}{ch:List Addr}(I:Inv X pins σ H s)
  (hch:∀b∈ch,(b∈X.ex\/X.s₀.heap.objs.size<=b)/\b≠X.env.locals/\(∀x c,X.env.cells.lookup x=some c->c≠b)/\∀p∈X.pn++pins,p.1≠b)
  (keep:∀b o,b≠X.env.locals->b∉X.fs->b∉ch->s.heap.get? b=some o->H b=none->h'.get? b=some o)
  (slot:∀b o,b≠X.env.locals->b∈X.fs->b∉ch->s.heap.get? b=some o->H b=none->∃sl,h'.get? b=some { o with slots:=sl }) (free:∀b o,b∉ch->s.heap.get? b=some o->H b=none->H' b=none)
  (there:∀b o,b∉ch->s.heap.get? b=some o->∃o',h'.get? b=some o')
  (tups:∀b xs,H b=some (.tup xs)->H' b=some (.tup xs)) (jF:∀b o u,H b=some (.bE o u)->H' b=some (.bE o u)) (kj:∀b ps,H b=some (.sZ ps)->∃more,H' b=some (.sZ (ps++more)))
  (ns:∀m,s.heap.Ns X.env.locals m->h'.Ns X.env.locals m) (hok:dG X.prog X.w H' h') (hg:AllBare g') :
  Inv X pins σ H' { s with heap:=h',gens:=g',drawn:=d',toks:=t' }:=by
 have PJ:∀b o,X.s₀.heap.get? b=some o->b≠X.env.locals:=λb o e=>Vk (eE (zo e) I.ok.above);have Ff:∀b o,X.s₀.heap.get? b=some o->b∉X.ex->b∉ch:=λb o e hx hb=>by
  rcases(hch b hb).1 with z|z
  .exact hx z
  .exact absurd (eE (zo e) z) (Vx _)
 have cellK:∀x c,X.env.cells.lookup x=some c->∀v,s.heap.IsCell c v->h'.IsCell c v:=λx c e v ⟨o,ho,hd⟩=>by
  have A7:c∉ch:=λz=>(hch c z).2.2.1 x c e rfl;by_cases hc:c∈X.fs
  .obtain⟨sl,q⟩:=slot c o (I.mP x c e) hc A7 ho (I.gG x c e);exact⟨_,q,hd⟩
  .exact⟨o,keep c o (I.mP x c e) hc A7 ho (I.gG x c e),hd⟩
 refine⟨I.ok,I.os,hg,⟨λb o e n hb hx=>?_,λb o e n hb hx=>?_,λb o e n hx=>?_,λb o e hx=>?_,λb xs e=>tups b xs (I.base.tups b xs e),λb o xs e=>jF b o xs (I.base.jF b o xs e),λb ps e=>?_⟩,?_,λx c e=>?_,?_,λx c e=>?_,λp hp=>?_,hok,I.len⟩
 .exact keep b o (PJ b o e) hb (Ff b o e hx) (I.base.keep b o e n hb hx) (I.base.free b o e n hx)
 .obtain⟨sl,e1⟩:=I.base.slot b o e n hb hx;obtain⟨SD,e2⟩:=slot b _ (PJ b o e) hb (Ff b o e hx) e1 (I.base.free b o e n hx);exact⟨SD,e2⟩
 .obtain⟨o',e1⟩:=I.base.there b o e hx;exact free b o' (Ff b o e hx) e1 (I.base.free b o e n hx)
 .obtain⟨o',e1⟩:=I.base.there b o e hx;exact there b o' (Ff b o e hx) e1
 .obtain⟨m1,e1⟩:=I.base.kj b ps e;obtain⟨m2,e2⟩:=kj b _ e1;exact⟨m1++m2,by rw[e2,Array.append_assoc]⟩
 .obtain⟨m,hn,hl⟩:=I.loc;refine⟨m,ns m hn,λi x v e1 e2 e3=>?_⟩;obtain⟨u,r,l⟩:=hl i x v e1 e2 e3;refine⟨u,r,?_⟩;rcases l with l|⟨k,c,e,z⟩
  .exact .inl l
  .exact .inr ⟨k,c,e,cellK x c e _ z⟩
 .obtain⟨v,z⟩:=I.cell x c e;exact⟨v,cellK x c e v z⟩
 .obtain⟨m,⟨o,_,_,ho,_⟩,_⟩:=I.loc;exact free _ o (λz=>(hch _ z).2.1 rfl) ho I.free
 .obtain⟨v,o,ho,hd⟩:=I.cell x c e;exact free c o (λz=>(hch c z).2.2.1 x c e rfl) ho (I.gG x c e)
 .obtain⟨e,n,ne,nf,d⟩:=I.pin p hp;have A7:p.1∉ch:=λz=>(hch p.1 z).2.2.2 p hp rfl;exact⟨keep p.1 p.2 ne nf A7 e n,free p.1 p.2 A7 e n,ne,nf,d⟩
def Inv.un{t':Nat}(I:Inv X pins σ H s)(u:Un X.fs [] H H' s.heap h')(hok:dG X.prog X.w H' h'):Inv X pins σ H' { s with heap:=h',toks:=t' }:=by
 obtain⟨m,⟨o,es,ep,ho,r⟩,_⟩:=id I.loc;obtain⟨sl,hL⟩:=u.any ho I.free (by simp);exact I.step (g':=s.gens) (d':=s.drawn) (ch:=[]) (λ_ z=>nomatch z) (λb o _ hb _ e n=>u.keep b o e n hb (by simp)) (λb o _ hb _ e n=>u.slot b o e n hb (by simp)) (λb o _ e n=>u.free b o e n (by simp)) (λb o _ e=>u.there b o e (by simp)) u.tups u.jF u.kj (λm' hm=>by
  obtain⟨o',es',J5,ho',r'⟩:=hm;rw[ho]at ho';cases ho';exact⟨_,es',J5,hL,r'⟩) hok I.bare
def Inv.call{g':Array GenState}{t':Nat}{d':Drawn}{ch:List Addr}(I:Inv X pins σ H s)(u:Un (frs X.stack) ch H H' s.heap h')(hok:dG X.prog X.w H' h')(hg:AllBare g')
  (hch:∀b∈ch,(b∈X.ex\/X.s₀.heap.objs.size<=b)/\b≠X.env.locals/\(∀x c,X.env.cells.lookup x=some c->c≠b)/\∀p∈X.pn++pins,p.1≠b) :
  Inv X pins σ H' { s with heap:=h',gens:=g',drawn:=d',toks:=t' }:=by
 obtain⟨m,⟨o,es,ep,ho,r⟩,_⟩:=id I.loc;obtain⟨sl,hL⟩:=u.any ho I.free λz=>(hch _ z).2.1 rfl;exact I.step (ch:=ch) hch (λb o hL hb hc e n=>u.keep b o e n (λz=>(List.mem_cons.mp (I.kK b z)).elim hL hb) hc) (λb o _ _ hc e n=>u.any e n hc) (λb o hc e n=>u.free b o e n hc) (λb o hc e=>u.there b o e hc) u.tups u.jF u.kj (λm' hm=>by
  obtain⟨o',es',J5,ho',r'⟩:=hm;rw[ho]at ho';cases ho';exact⟨_,es',J5,hL,r'⟩) hok hg
def Inv.turned{t':Nat}{it:Addr}(I:Inv X pins σ H s)(k:∀b o,b≠it->s.heap.get? b=some o->h'.get? b=some o)(hn:H it=none)(hL:it≠X.env.locals)
  (h1:it∈X.ex\/X.s₀.heap.objs.size<=it) (h2:∀x c,X.env.cells.lookup x=some c->c≠it) (h3:∀p∈X.pn++pins,p.1≠it):Inv X pins σ H { s with heap:=h',toks:=t' }:=by
 have PK:∀b u,H b=some u->b≠it:=λb u e z=>by rw[z,hn]at e;cases e
 refine I.step (g':=s.gens) (d':=s.drawn) (ch:=[it]) (λb hb=>?_) (λb o _ _ hc e _=>k b o (λz=>hc (by simp[z])) e) (λb o _ _ hc e _=>⟨o.slots,k b o (λz=>hc (by simp[z])) e⟩) (λ_ _ _ _ n=>n)
  (λb o hc e=>⟨o,k b o (λz=>hc (by simp[z])) e⟩) (λ_ _ e=>e) (λ_ _ _ e=>e) (λb ps e=>⟨#[],by rw[e];simp⟩) (λm hm=>?_) (λb u e=>?_) I.bare
 .have e:b=it:=by simpa using hb
  subst e;exact⟨h1,hL,h2,h3⟩
 .obtain⟨o,es,ep,ho,r⟩:=hm;exact⟨o,es,ep,k _ o (Wd hL) ho,r⟩
 .refine(I.hok b u e).stay (λc v hc q=>k c v ?_ q) (λ_ q=>q) λ_ _ q=>q;rcases hc with z|z
  .rw[z];exact PK b u e
  .exact PK c _ z
def Inv.tok(I:Inv X pins σ H s)(t:Nat):Inv X pins σ H { s with toks:=t }:=I.un (h':=s.heap) (t':=t) Un.refl I.hok
theorem Inv.kept{t':Nat}(I:Inv X pins σ H s)(k:∀b u,s.heap.get? b=some u->h'.get? b=some u):Inv X pins σ H { s with heap:=h',toks:=t' }:=I.un (Un.kept k) (I.hok.kept k)
theorem Inv.laid{a:Addr}{o:HO}{t':Nat}(I:Inv X pins σ H s)(k:∀b u,s.heap.get? b=some u->h'.get? b=some u)(hp:s.heap.objs.size<=a)(new:b6 X.prog X.w (upd H a o) h' a o) :
  Inv X pins σ (upd H a o) { s with heap:=h',toks:=t' }:=I.un (Un.laid k hp (I.hok.fresh hp)) (I.hok.laid k hp new)
theorem Inv.write{x e:Addr}{o:HO}{t':Nat}(I:Inv X pins σ H s)(mu:A5 (H x))(he:e=x\/H e=some (.own x))(k:∀b u,b≠e->s.heap.get? b=some u->h'.get? b=some u)(xY:∃u,h'.get? e=some u)
  (new:b6 X.prog X.w (upd H x o) h' x o):Inv X pins σ (upd H x o) { s with heap:=h',toks:=t' }:=I.un (Un.write mu he k xY) (I.hok.write mu he k xY new)
def Inv.x6{Fi:List (Addr×Obj)}(I:Inv X pins σ H s)(h:∀p∈Fi,s.heap.get? p.1=some p.2/\H p.1=none/\p.1≠X.env.locals/\p.1∉X.fs/\∀v,p.2.data≠.cell v):Inv X Fi σ H s:=
 ⟨I.ok,I.os,I.bare,I.base,I.loc,I.cell,I.free,I.gG,λp hp=>(List.mem_append.mp hp).elim (λz=>I.pin p (XO _ z)) (h p),I.hok,I.len⟩
def pM{N:List Str}(hN:N.Nodup){i j:Nat}{x:Str}(a:N[i]?=some x)(b:N[j]?=some x):i=j:=by
 obtain⟨h1,e1⟩:=List.getElem?_eq_some_iff.mp a;obtain⟨h2,e2⟩:=List.getElem?_eq_some_iff.mp b;exact(Ys hN).mp (e1.trans e2.symm)
def tw{M:Model}{A:Around}{E:Value->Shared->Prop}{i:Nat}{x:Str}{v:V}{u:Value}{Q:Unit->Shared->Prop}(I:Inv X pins σ H s)(hN:X.N.Nodup)(hi:X.N[i]?=some x)(hx:Loc X.env.scope x)(r:RelV v u)
  (h:∀s',Inv X pins (σ.set i (some v)) H s'->(∃a,Heap.SameBut a s.heap s'.heap/\(a=X.env.locals\/X.env.cells.lookup x=some a))->Q () s') (hf:X.fn x=true\/X.env.scope.names.lookup x=some .local:=by first|exact .inl rfl|exact .inr rfl|assumption):wpAny M A (storeName X.env x u) Q E s:=by
 obtain⟨m,hn,hl⟩:=id I.loc;have hcls:(X.env.scope.kind==.class || (X.env.scope.kind==.module&&X.env.locals != X.env.globals))=false:=by rw[I.ok.kind];rfl
 have zJ:i<σ.length:=by rw[I.len];exact(List.getElem?_eq_some_iff.mp hi).1
 have mP:=I.mP;have tracked:∀{a:Addr} {h':Heap},(∃o,s.heap.get? a=some o/\H a=none)->Heap.SameBut a s.heap h'->dG X.prog X.w H h':=λ{a h'} ha hs b ob e=>by
  obtain⟨_,_,hfree⟩:=ha;refine(I.hok b ob e).stay (λc w' hc q=>(hs.2 c ?_).trans q) (λ_ q=>q) λ_ _ q=>q;rintro rfl;rcases hc with rfl|hc
  .rw[hfree]at e;cases e
  .rw[hfree]at hc;cases hc
 rcases hx with hk|hk
 .refine wpAny_storeName_local hk hn (λh' hn' hs=>?_) hcls;obtain⟨oL,_,_,PL,_⟩:=id hn;refine h _ ⟨I.ok,I.os,I.bare,⟨λb o e n hb hx=>?_,λb o e n hb hx=>?_,I.base.free,λb o e hx=>?_,I.base.tups,I.base.jF,I.base.kj⟩,⟨_,hn',λj y v' e1 e2 e3=>?_⟩,λy c e=>?_,I.free,I.gG,λp hp=>?_,tracked ⟨oL,PL,I.free⟩ hs,by simpa using I.len⟩ ⟨_,hs,.inl rfl⟩
  .exact(hs.2 b (Vk (eE (zo e) I.ok.above))).trans (I.base.keep b o e n hb hx)
  .obtain⟨sl,e1⟩:=I.base.slot b o e n hb hx;exact⟨sl,(hs.2 b (Vk (eE (zo e) I.ok.above))).trans e1⟩
  .obtain⟨o',e1⟩:=I.base.there b o e hx;exact⟨o',(hs.2 b (Vk (eE (zo e) I.ok.above))).trans e1⟩
  .by_cases hj:j=i
   .subst hj;rw[hi]at e1;cases e1;rw[Qs zJ]at e2;cases e2;exact⟨u,r,.inl ⟨hk,by simp⟩⟩
   .rw[gV (Wd hj)]at e2;obtain⟨u',r',q⟩:=hl j y v' e1 e2 e3;refine⟨u',r',?_⟩;rcases q with ⟨k,e⟩|⟨k,c,e,z⟩
    .refine .inl ⟨k,?_⟩;have:y≠x:=λe=>hj (pM hN e1 (e▸hi));simp[this,e]
    .exact .inr ⟨k,c,e,z.sameBut hs (mP y c e)⟩
  .obtain⟨w',z⟩:=I.cell y c e;exact⟨w',z.sameBut hs (mP y c e)⟩
  .obtain⟨e,n,ne,nf,d⟩:=I.pin p hp;exact⟨(hs.2 p.1 ne).trans e,n,ne,nf,d⟩
 .have hfn:X.fn x=true:=by
   rcases hf with z|z
   .exact z
   .rw[z]at hk;cases hk
  obtain⟨c,hc⟩:=I.ok.has x (.inl hk);obtain⟨w',z⟩:=I.cell x c hc;refine wpAny_storeName_cell I.ok.kind hk hc z (λh' hc' hs=>?_);obtain⟨oc,hoc,QU⟩:=id z;refine h { s with heap:=h' } ⟨I.ok,I.os,I.bare,⟨λb o e n hb hx=>?_,λb o e n hb hx=>?_,I.base.free,λb o e hx=>?_,I.base.tups,I.base.jF,I.base.kj⟩,⟨m,hn.sameBut hs (Wd (mP x c hc)),λj y v' e1 e2 e3=>?_⟩,λy c' e=>?_,I.free,I.gG,λp hp=>?_,tracked ⟨oc,hoc,I.gG x c hc⟩ hs,by simpa using I.len⟩ ⟨c,hs,.inr hc⟩
  .exact(hs.2 b (Vk (eE (zo e) (I.ok.uT x c hfn hc)))).trans (I.base.keep b o e n hb hx)
  .obtain⟨sl,e1⟩:=I.base.slot b o e n hb hx;exact⟨sl,(hs.2 b (Vk (eE (zo e) (I.ok.uT x c hfn hc)))).trans e1⟩
  .obtain⟨o',e1⟩:=I.base.there b o e hx;exact⟨o',(hs.2 b (Vk (eE (zo e) (I.ok.uT x c hfn hc)))).trans e1⟩
  .by_cases hj:j=i
   .subst hj;rw[hi]at e1;cases e1;rw[Qs zJ]at e2;cases e2;exact⟨u,r,.inr ⟨.inl hk,c,hc,hc'⟩⟩
   .rw[gV (Wd hj)]at e2;obtain⟨u',r',q⟩:=hl j y v' e1 e2 e3;refine⟨u',r',?_⟩;rcases q with q|⟨k,c',e,z'⟩
    .exact .inl q
    .refine .inr ⟨k,c',e,z'.sameBut hs ?_⟩;rintro rfl;exact hj (pM hN e1 (I.ok.inj _ _ _ e hc▸hi))
  .by_cases hcc:c'=c
   .subst hcc;exact⟨_,hc'⟩
   .obtain⟨w2,z2⟩:=I.cell y c' e;exact⟨w2,z2.sameBut hs hcc⟩
  .obtain⟨e,n,ne,nf,d⟩:=I.pin p hp;refine⟨(hs.2 p.1 ?_).trans e,n,ne,nf,d⟩;intro q;rw[q,hoc]at e;have q':oc=p.2:=lz e;exact d w' (by rw[<-q'];exact QU)
def pN{M:Model}{A:Around}{E:Value->Shared->Prop}{i:Nat}{x:Str}{v:V}{u:Value}{Q:Unit->Shared->Prop}(I:Inv X pins σ H s)(hN:X.N.Nodup)(hi:X.N[i]?=some x)(hx:Loc X.env.scope x)(r:RelV v u)
  (h:∀s',Inv X pins (σ.set i (some v)) H s'->Q () s') (hf:X.fn x=true\/X.env.scope.names.lookup x=some .local:=by first|exact .inl rfl|exact .inr rfl|assumption):wpAny M A (storeName X.env x u) Q E s:=
 tw I hN hi hx r (λs' I' _=>h s' I') hf
def Inv.oB{s':Shared}{ch:List Addr}(I:Inv X pins σ H s)(ho:s'.os=s.os)(u:Un (frs X.stack) ch H H' s.heap s'.heap)(hok:dG X.prog X.w H' s'.heap)(hg:AllBare s'.gens)
  (hch:∀b∈ch,(b∈X.ex\/X.s₀.heap.objs.size<=b)/\b≠X.env.locals/\(∀x c,X.env.cells.lookup x=some c->c≠b)/\∀p∈X.pn++pins,p.1≠b):Inv X pins σ H' s':=by
 obtain⟨h',g',d',t',o'⟩:=s';have e:o'=s.os:=ho;subst e;exact I.call (g':=g') (t':=t') (d':=d') u hok hg hch
end
abbrev XK:=Value->Option Addr->Hp->Prop
abbrev St:=List (Option V)
abbrev VK:=V->Hp->Prop
abbrev TE:=St->Hp->VK->Prop
abbrev TT:=St->Hp->(Bool->Hp->Prop)->Prop
abbrev TA:=St->Hp->(List V->Hp->Prop)->Prop
structure Ends where
 nx:St->Hp->Prop
 rt:VK
 bk:St->Hp->Prop:=λ_ _=>False
 ct:St->Hp->Prop:=λ_ _=>False
abbrev TS:=Ends->St->Hp->Prop
noncomputable def EP(X:Cx)(pins:List (Addr×Obj))(σ:St)(Q:VK)(u:Value)(s':Shared):Prop:=∃v H',Inv X pins σ H' s'/\RelV v u/\Q v H'
noncomputable def TP(X:Cx)(pins:List (Addr×Obj))(σ:St)(Q:Bool->Hp->Prop)(b:Bool)(s':Shared):Prop:=∃H',Inv X pins σ H' s'/\Q b H'
noncomputable def AP(X:Cx)(pins:List (Addr×Obj))(σ:St)(Q:List V->Hp->Prop)(us:List Value)(s':Shared):Prop:=∃vs H',Inv X pins σ H' s'/\Vals vs us/\Q vs H'
noncomputable def SP(X:Cx)(pins:List (Addr×Obj))(D:Ends)(f:Flow)(s':Shared):Prop:=
 match f with
 |.next=>∃σ' H',Inv X pins σ' H' s'/\D.nx σ' H'
 |.brk=>∃σ' H',Inv X pins σ' H' s'/\D.bk σ' H'
 |.cont=>∃σ' H',Inv X pins σ' H' s'/\D.ct σ' H'
 |.ret u=>∃v σ' H',Inv X pins σ' H' s'/\RelV v u/\D.rt v H'
noncomputable def PE(X:Cx)(e:Expr)(t:TE):Prop:=
 ∀(pins:List (Addr×Obj)) (s:Shared) (σ:St) (H:Hp) (Q:VK),Inv X pins σ H s->t σ H Q->wpAny (model X.prog X.w) X.A (eval e X.env) (EP X pins σ Q) X.xe s
noncomputable def PT(X:Cx)(e:Expr)(t:TT):Prop:=
 ∀(pins:List (Addr×Obj)) (s:Shared) (σ:St) (H:Hp) (Q:Bool->Hp->Prop),Inv X pins σ H s->t σ H Q->wpAny (model X.prog X.w) X.A (isTrue e X.env (eval e X.env)) (TP X pins σ Q) X.xe s
noncomputable def PW(X:Cx)(e:Expr)(t:TT):Prop:=
 ∀(whole:Sem Value) (pins:List (Addr×Obj)) (s:Shared) (σ:St) (H:Hp) (Q:Bool->Hp->Prop),Inv X pins σ H s->t σ H Q->wpAny (model X.prog X.w) X.A (isTrue e X.env whole) (TP X pins σ Q) X.xe s
def PW.pt{X:Cx}{e:Expr}{t:TT}(h:PW X e t):PT X e t:=h _
noncomputable def PA(X:Cx)(es:List Expr)(t:TA):Prop:=
 ∀(pos:Pos) (pins:List (Addr×Obj)) (s:Shared) (σ:St) (H:Hp) (Q:List V->Hp->Prop),Inv X pins σ H s->t σ H Q->wpAny (model X.prog X.w) X.A (spliced (backTo pos (starEach es X.env))) (AP X pins σ Q) X.xe s
noncomputable def PS(X:Cx)(st:Stmt)(t:TS):Prop:=
 ∀(pins:List (Addr×Obj)) (s:Shared) (σ:St) (H:Hp) (D:Ends),Inv X pins σ H s->t D σ H->wpAny (model X.prog X.w) X.A (exec st X.env) (SP X pins D) X.xe s
noncomputable def eX(X:Cx)(st:List Stmt)(t:TS):Prop:=
 ∀(pins:List (Addr×Obj)) (s:Shared) (σ:St) (H:Hp) (D:Ends),Inv X pins σ H s->t D σ H->wpAny (model X.prog X.w) X.A (execs st X.env) (SP X pins D) X.xe s
def aW{α:Type}{t:Sem α}{Q Q':α->Shared->Prop}{M:Model}{A:Around}{E:Value->Shared->Prop}{s:Shared}(h:wpAny M A t Q E s)(hQ:∀a s,Q a s->Q' a s):wpAny M A t Q' E s:=Uo h hQ λ_ _ x=>x
section
variable{X:Cx}
def bin{a b:Expr}{ta tb:TE}(ha:PE X a ta)(hb:PE X b tb){pins:List (Addr×Obj)}{s:Shared}{σ:St}{H:Hp}{R:V->V->Hp->Prop}(I:Inv X pins σ H s)(h:ta σ H λx H1=>tb σ H1 λy H2=>R x y H2)
  {α:Type} {Q:α->Shared->Prop} {f:Value->Value->Sem α}
  (hf:∀v u s2 x y H2,Inv X pins σ H2 s2->RelV x v->RelV y u->R x y H2->wpAny (model X.prog X.w) X.A (f v u) Q X.xe s2) :
  wpAny (model X.prog X.w) X.A (eval a X.env) (λv s₁=>wpAny (model X.prog X.w) X.A (eval b X.env) (λu s₂=>wpAny (model X.prog X.w) X.A (f v u) Q X.xe s₂) X.xe s₁) X.xe s:=by
 refine aW (ha pins s σ H _ I h) λv s1 ⟨x,H1,I1,r1,q1⟩=>?_;refine aW (hb pins s1 σ H1 _ I1 q1) λu s2 ⟨y,H2,I2,r2,q2⟩=>?_;exact hf v u s2 x y H2 I2 r1 r2 q2
noncomputable def J6(i:Nat):TE:=λσ H Q=>∃v,σ[i]?=some (some v)/\Q v H
noncomputable def tC(v:V):TE:=λ_ H Q=>Q v H
def qp {i:Nat}{x:Str}{pos:Pos}(hN:X.N[i]?=some x) (hv:tu X.env.scope x) (hd:(x==("__debug__" : Str))=false:=by decide) (hcd:(x==("__classdict__" : Str))=false:=by decide):PE X (.Name x pos) (J6 i):=by
 intro pins s σ H Q I h;obtain⟨v,e,h⟩:=h;obtain⟨m,hn,hl⟩:=I.loc;obtain⟨u,r,l⟩:=hl i x v hN e hv;have fin:EP X pins σ Q u s:=⟨v,H,I,r,h⟩
 rcases l with ⟨hk,hm⟩|⟨hk,c,hc,hcell⟩
 .exact XH (wpAny_loadName_local I.ok.kind hk hn hm fin) hd
 .rcases hk with hk|hk
  .exact XH (wpAny_loadName_cell I.ok.kind hk hc hcell fin) hd
  .exact XH (wpAny_loadName_free I.ok.kind hk hc hcell fin hcd) hd
def A8{i j pos}:PE X (.Constant (.int i) j pos) (tC (.int i)):=λ_ _ _ H _ I h=>wpAny_Constant_int ⟨.int i,H,I.tok _,⟨_,rfl⟩,h⟩
def NV{b j pos}:PE X (.Constant (.bool b) j pos) (tC (.bl b)):=λ_ _ _ H _ I h=>Constant_bool ⟨.bl b,H,I,rfl,h⟩
def qq{x j pos}:PE X (.Constant (.str x) j pos) (tC (.str x)):=λ_ _ _ H _ I h=>Calls.Constant_str ⟨.str x,H,I.tok _,⟨_,rfl⟩,h⟩
noncomputable def Gl(X:Cx)(x:Str):Prop:=X.env.kindOf x=some .globalImplicit
def oE{E:Value->Shared->Prop}{pins:List (Addr×Obj)}{s:Shared}{σ:St}{H:Hp}{x:Str}{u:Value}{pos:Pos}{Q:Value->Shared->Prop}(I:Inv X pins σ H s)(hg:Gl X x)(hm:X.mg x=some u)(h:Q u s)
  (hd:(x==("__debug__" : Str))=false:=by decide):wpAny (model X.prog X.w) X.A (eval (.Name x pos) X.env) Q E s:=
 VY I.ok.kind hg (Wt (by rw[I.ok.glob];exact I.mod.glob.keeps I.bk) hm h) hd
def mQ{E:Value->Shared->Prop}{pins:List (Addr×Obj)}{s:Shared}{σ:St}{H:Hp}{x:Str}{u:Value}{pos:Pos}{Q:Value->Shared->Prop}(I:Inv X pins σ H s)(hg:Gl X x)(hm:X.mg x=none)(hv:bootBuiltins x=some u)(h:Q u s)
  (hn:x≠"__name__" :=by decide) (hd:(x==("__debug__" : Str))=false:=by decide):wpAny (model X.prog X.w) X.A (eval (.Name x pos) X.env) Q E s:=by
 obtain⟨mb,h1,h2⟩:=I.mod.blt;exact VY I.ok.kind hg (Calls.loadGlobal_builtin (by rw[I.ok.glob];exact I.mod.glob.keeps I.bk) hm (by rw[I.ok.blt];exact h1.keeps I.bk) ((h2 x hn).trans hv) h) hd
def oF {x:Str}{v:V}{u:Value}{pos:Pos}(hg:Gl X x) (hm:X.mg x=some u) (r:RelV v u) (hd:(x==("__debug__" : Str))=false:=by decide):PE X (.Name x pos) (tC v):=
 λ_ _ _ H _ I h=>oE I hg hm ⟨v,H,I,r,h⟩ hd
def x8 {x:Str}{v:V}{u:Value}{pos:Pos}(hg:Gl X x) (hm:X.mg x=none) (hv:bootBuiltins x=some u) (r:RelV v u) (hn:x≠"__name__" :=by decide) (hd:(x==("__debug__" : Str))=false:=by decide):PE X (.Name x pos) (tC v):=
 λ_ _ _ H _ I h=>mQ I hg hm hv ⟨v,H,I,r,h⟩ hn hd
variable{a b:Expr}{ta tb:TE}{pos:Pos}
noncomputable def PC(X:Cx)(op:CmpOp)(a b:Expr)(t:TE):Prop:=
 ∀(pins:List (Addr×Obj)) (s:Shared) (σ:St) (H:Hp) (Q:VK),Inv X pins σ H s->t σ H Q->
  wpAny (model X.prog X.w) X.A (eval a X.env) (λv s₁=>wpAny (model X.prog X.w) X.A (eval b X.env) (λu s₂=>wpAny (model X.prog X.w) X.A (compareOp op v u) (EP X pins σ Q) X.xe s₂) X.xe s₁) X.xe s
def Dl(b:Expr){op:CmpOp}(h:op≠.In)(h2:op≠.NotIn):behindInMarks op b=false:=by
 have e1:(op==CmpOp.In)=false:=by cases op<;>first|rfl|exact absurd rfl h
 have e2:(op==CmpOp.NotIn)=false:=by cases op<;>first|rfl|exact absurd rfl h2
 cases b<;>simp[behindInMarks,e1,e2]
noncomputable def tB(t:TE):TT:=λσ H Q=>t σ H λx H1=>∃c,x=.bl c/\Q c H1
def J7{op:CmpOp}{t:TE}(h:PC X op a b t)(h1:behindInMarks op b=false:=by first|exact Dl _ (by decide) (by decide)|rfl):PT X (.Compare a [op] [b] pos) (tB t):=by
 intro pins s σ H Q I hw;refine Xy (aW (h pins s σ H _ I hw) λv s1 h1=>aW h1 λu s2 h2=>aW h2 λc s3 ⟨x,H1,I1,r1,q1⟩=>?_) h1;obtain⟨d,rfl,q⟩:=q1;cases r1;exact VA ⟨H1,I1,q⟩
def J8{e:Expr}{t:TE}(h:PE X e t)(he:∀whole,isTrue e X.env whole=(do let v <-whole;standAt e.pos;holding [v] (truthy v)):=by intro _;rfl):PT X e (tB t):=by
 intro pins s σ H Q I hw;refine isTrue_plain (aW (h pins s σ H _ I hw) λv s1 ⟨x,H1,I1,r1,q1⟩=>?_) (he _);obtain⟨d,rfl,q⟩:=q1;cases r1;exact VA ⟨H1,I1,q⟩
variable{tA PM:TT}{rest:List Expr}
noncomputable def SE(t u:TT):TT:=λσ H Q=>t σ H λc H1=>if c=true then Q true H1 else u σ H1 Q
noncomputable def QV(t:TT):TT:=λσ H Q=>t σ H λc H1=>Q (!c) H1
def A9(ha:PT X a tA):PW X (.BoolOp .Or [a] pos) tA:=by
 intro wh pins s σ H Q I h;refine isTrue_or (aW (ha pins s σ H Q I h) λc s1 e=>?_);cases c with
 |false=>exact isTrue_or_nil e
 |true=>exact e
def Fj(ha:PT X a tA)(hb:PW X (.BoolOp .Or (b :: rest) pos) PM):PW X (.BoolOp .Or (a :: b :: rest) pos) (SE tA PM):=by
 intro wh pins s σ H Q I h;refine isTrue_or (aW (ha pins s σ H _ I h) λc s1 ⟨H1,I1,q1⟩=>?_);cases c with
 |true=>exact⟨H1,I1,q1⟩
 |false=>exact hb wh pins s1 σ H1 Q I1 q1
def Ba(ha:PT X a tA):PT X (.UnaryOp .Not a pos) (QV tA):=by
 intro pins s σ H Q I h;exact isTrue_not (ha pins s σ H (λc H1=>Q (!c) H1) I h)
noncomputable def NX(ta tb:TE):TE:=λσ H Q=>ta σ H λx H1=>∃c,x=.bl c/\if c=true then tb σ H1 Q else Q (.bl false) H1
def J9{op}{t:TE}(h:PE X a t):PE X (.BoolOp op [a] pos) t:=λpins s σ H Q I hw=>BoolOp_one (h pins s σ H Q I hw)
def Ka(ha:PE X a ta)(hb:PE X (.BoolOp .And (b :: rest) pos) tb):PE X (.BoolOp .And (a :: b :: rest) pos) (NX ta tb):=by
 intro pins s σ H Q I h;refine BoolOp_and (aW (ha pins s σ H _ I h) λv s1 ⟨x,H1,I1,r1,q1⟩=>?_);obtain⟨c,rfl,q1⟩:=q1;cases r1;refine VA ?_;cases c with
 |true=>exact hb pins s1 σ H1 Q I1 q1
 |false=>exact⟨.bl false,H1,I1,rfl,q1⟩
end
noncomputable def eY(K:PySem.W.Frag)(H:Hp)(a:Addr)(xs:List V):Prop:=
 Rd H a (.lst xs)\/
  ∃(o:Obj) (its:Array Value) (n:Nat),K.lookup a=some o/\o.cls=.type "list" /\o.dict=none/\o.data=.seq its n/\its.size<=sizeLine/\Vals xs its.toList
noncomputable def dH(K:PySem.W.Frag)(H:Hp)(a:Addr)(xs:List V):Prop:=
 Rd H a (.tup xs)\/
  ∃(o:Obj) (its:Array Value) (n:Nat),K.lookup a=some o/\o.cls=.type "tuple" /\o.data=.seq its n/\its.size<=sizeLine/\Vals xs its.toList
noncomputable def QW:Value->Option V
 |.none=>some .bf
 |.bool b=>some (.bl b)
 |.int i _=>some (.int i)
 |.str x _=>some (.str x)
 |.bytes b _=>some (.mH b)
 |.float b _=>some (.xX b)
 |.ref a=>some (.ref a)
 |.type n=>some (.ty n)
 |_=>none
def RelV.abs{x:V}{u:Value}(r:RelV x u):QW u=some x:=by
 cases x with
 |bf=>cases r;rfl
 |bl _=>cases r;rfl
 |int _=>obtain⟨t,rfl⟩:=r;rfl
 |str _=>obtain⟨t,rfl⟩:=r;rfl
 |mH _=>obtain⟨t,rfl⟩:=r;rfl
 |xX _=>obtain⟨t,rfl⟩:=r;rfl
 |ref _=>cases r;rfl
 |ty _=>cases r;rfl
theorem RelV.inj{x y:V}{u:Value}(r:RelV x u)(q:RelV y u):x=y:=lz (r.abs.symm.trans q.abs)
theorem Vals.inj:∀{xs ys:List V}{us:List Value},Vals xs us->Vals ys us->xs=ys
 |_,_,_,.nil,.nil=>rfl
 |_,_,_,.cons r t,.cons r' t'=>by rw[r.inj r',Vals.inj t t']
section
variable{X:Cx}{pins:List (Addr×Obj)}{σ:St}{H:Hp}{s:Shared}{a:Addr}{xs ys:List V}
def eY.of{K:PySem.W.Frag}(h:H a=some (.lst xs)):eY K H a xs:=.inl (.inl h)
def dH.of{K:PySem.W.Frag}(h:H a=some (.tup xs)):dH K H a xs:=.inl (.inl h)
def Inv.list(I:Inv X pins σ H s)(h:eY X.K H a xs):∃its:List Value,Vals xs its/\PlainL s.heap a its.toArray/\xs.length<=sizeLine:=by
 rcases h with h|⟨o,its,n,hk,hc,hd,hs,hz,r⟩
 .obtain⟨z,its,n,r,e⟩:=h.ok I.hok;exact⟨its,r,⟨_,n,e,rfl,rfl,rfl⟩,z⟩
 .refine⟨its.toList,r,⟨o,n,I.dQ a o hk,hc,hd,by simpa using hs⟩,?_⟩;have e:=r.length;simp only[WO]at e;omega
def Inv.tuple(I:Inv X pins σ H s)(h:dH X.K H a xs):∃its:List Value,Vals xs its/\IsTup s.heap a its.toArray/\xs.length<=sizeLine:=by
 rcases h with h|⟨o,its,n,hk,hc,hs,hz,r⟩
 .obtain⟨z,its,r,p⟩:=h.ok I.hok;exact⟨its,r,p,z⟩
 .refine⟨its.toList,r,⟨o,I.dQ a o hk,hc,n,by simpa using hs⟩,?_⟩;have e:=r.length;simp only[WO]at e;omega
def Inv.Dm(I:Inv X pins σ H s)(h:eY X.K H a xs)(h':eY X.K H a ys):xs=ys:=by
 obtain⟨its,r,⟨o,n,e,_,_,d⟩,_⟩:=I.list h;obtain⟨its',r',⟨o',n',e',_,_,d'⟩,_⟩:=I.list h';rw[e]at e';cases e';rw[d]at d';injection d' with d1 _
 have:its=its':=by simpa using Vd Array.toList d1
 subst this;exact r.inj r'
def Inv.mR(I:Inv X pins σ H s)(h:dH X.K H a xs)(h':dH X.K H a ys):xs=ys:=by
 obtain⟨its,r,⟨o,e,_,n,d⟩,_⟩:=I.tuple h;obtain⟨its',r',⟨o',e',_,n',d'⟩,_⟩:=I.tuple h';rw[e]at e';cases e';rw[d]at d';injection d' with d1 _
 have:its=its':=by simpa using Vd Array.toList d1
 subst this;exact r.inj r'
end
abbrev Cx.fT(X:Cx)(E:Value->Shared->Prop):Cx:={ X with xe:=E }
abbrev Cx.cY(X:Cx):Cx:=X.fT λ_ _=>False
theorem Cx.Ok.fT{X:Cx}(ok:X.Ok)(E:Value->Shared->Prop):(X.fT E).Ok:=
 ⟨ok.mod,ok.kind,ok.glob,ok.blt,ok.above,ok.inj,ok.has,ok.uT,ok.hd,ok.frames,ok.stk,ok.xZ,ok.bs,ok.mJ,ok.pL,ok.mL,ok.gR,ok.o5⟩
def Cx.Ok.dW{X:Cx}{E:Value->Shared->Prop}(ok:(X.fT E).Ok):X.Ok:=
 ⟨ok.mod,ok.kind,ok.glob,ok.blt,ok.above,ok.inj,ok.has,ok.uT,ok.hd,ok.frames,ok.stk,ok.xZ,ok.bs,ok.mJ,ok.pL,ok.mL,ok.gR,ok.o5⟩
section
variable{X:Cx}{pins:List (Addr×Obj)}{σ:St}{H:Hp}{s:Shared}{E:Value->Shared->Prop}
theorem Inv.fT(I:Inv X pins σ H s)(E:Value->Shared->Prop):Inv (X.fT E) pins σ H s:=⟨I.ok.fT E,I.os,I.bare,I.base,I.loc,I.cell,I.free,I.gG,I.pin,I.hok,I.len⟩
theorem Inv.dW(I:Inv (X.fT E) pins σ H s):Inv X pins σ H s:=⟨I.ok.dW,I.os,I.bare,I.base,I.loc,I.cell,I.free,I.gG,I.pin,I.hok,I.len⟩
theorem SP.dW{D:Ends}{f:Flow}{s':Shared}(h:SP (X.fT E) pins D f s'):SP X pins D f s':=by
 cases f with
 |next=>obtain⟨σ',H',I,q⟩:=h;exact⟨σ',H',I.dW,q⟩
 |brk=>obtain⟨σ',H',I,q⟩:=h;exact⟨σ',H',I.dW,q⟩
 |cont=>obtain⟨σ',H',I,q⟩:=h;exact⟨σ',H',I.dW,q⟩
 |ret u=>obtain⟨v,σ',H',I,r,q⟩:=h;exact⟨v,σ',H',I.dW,r,q⟩
theorem PE.cY{e:Expr}{t:TE}(h:PE X.cY e t):PE X e t:=λpins s σ H Q I hw=>
 Uo (h pins s σ H Q (I.fT _) hw) (λ_ _ ⟨v,H',I',r,q⟩=>⟨v,H',I'.dW,r,q⟩) λ_ _ z=>False.elim z
theorem PT.cY{e:Expr}{t:TT}(h:PT X.cY e t):PT X e t:=λpins s σ H Q I hw=>
 Uo (h pins s σ H Q (I.fT _) hw) (λ_ _ ⟨H',I',q⟩=>⟨H',I'.dW,q⟩) λ_ _ z=>False.elim z
theorem eX.cY{st:List Stmt}{t:TS}(h:eX X.cY st t):eX X st t:=λpins s σ H D I hw=>
 Uo (h pins s σ H D (I.fT _) hw) (λ_ _ q=>q.dW) λ_ _ z=>False.elim z
end
section
variable{X:Cx}{st:Stmt}{rest:List Stmt}{t u:TS}{e:Expr}{te:TE}{pos:Pos}
noncomputable def NY:TS:=λD σ H=>D.nx σ H
noncomputable def QX(t u:TS):TS:=λD σ H=>t { D with nx:=u D } σ H
def x9:eX X [] NY:=λ_ _ σ H _ I h=>Xl ⟨σ,H,I,h⟩
def jG(h1:PS X st t)(h2:eX X rest u):eX X (st :: rest) (QX t u):=by
 intro pins s σ H D I h;refine WA (aW (h1 pins s σ H { D with nx:=u D } I h) λf s1 q=>?_);cases f with
 |next=>
  obtain⟨σ',H',I',q⟩:=q;exact h2 pins s1 σ' H' D I' q
 |ret v=>exact q
 |brk=>exact q
 |cont=>exact q
def yc(h1:PS X st t):eX X [st] t:=by
 intro pins s σ H D I h;refine WA (aW (h1 pins s σ H D I h) λf s1 q=>?_);cases f with
 |next=>exact Xl q
 |ret v=>exact q
 |brk=>exact q
 |cont=>exact q
def Inv.quiet{pins:List (Addr×Obj)}{σ:St}{H:Hp}{s:Shared}(I:Inv X pins σ H s):interactive X.env=false:=by simp[interactive,I.ok.kind]
noncomputable def NZ(te:TE):TS:=λD σ H=>te σ H λ_ H1=>D.nx σ H1
def Hj(he:PE X e te)(hs:swapsWith e none pos.line X.env=pure false:=by rfl):PS X (.Expr e pos) (NZ te):=by
 intro pins s σ H D I h;exact wpAny_Expr_any (aW (he pins s σ H _ I h) λv s1 ⟨x,H1,I1,r1,q1⟩=>⟨σ,H1,I1,q1⟩) I.quiet hs
noncomputable def QY(te:TE):TS:=λD σ H=>te σ H D.rt
def uU(he:PE X e te):PS X (.Return (some e) pos) (QY te):=by
 intro pins s σ H D I h;exact W0 (aW (he pins s σ H _ I h) λv s1 ⟨x,H1,I1,r1,q1⟩=>⟨x,σ,H1,I1,r1,q1⟩)
noncomputable def QZ(c:TT)(t u:TS):TS:=λD σ H=>c σ H λb H1=>if b=true then t D σ H1 else u D σ H1
def zK{c:Expr}{a b:List Stmt}{tc:TT}(hc:PT X c tc)(ha:eX X a t)(hb:eX X b u):PS X (.If c a b pos) (QZ tc t u):=by
 intro pins s σ H D I h;refine wpAny_If (aW (hc pins s σ H _ I h) λd s1 ⟨H1,I1,q1⟩=>?_);cases d with
 |true=>exact ha pins s1 σ H1 D I1 q1
 |false=>exact hb pins s1 σ H1 D I1 q1
noncomputable def Bb:TS:=λ_ _ _=>False
def Dn:PS X st Bb:=λ_ _ _ _ _ _ h=>h.elim
def Bc{sts:List Stmt}:eX X sts Bb:=λ_ _ _ _ _ _ h=>h.elim
end
abbrev TG:=V->St->Hp->(St->Hp->Prop)->Prop
abbrev tD:=List V->St->Hp->(St->Hp->Prop)->Prop
noncomputable def PG(X:Cx)(target:Expr)(t:TG):Prop:=
 ∀(pins:List (Addr×Obj)) (s:Shared) (σ:St) (H:Hp) (v:V) (u:Value) (Q:St->Hp->Prop),Inv X pins σ H s->RelV v u->t v σ H Q->
  wpAny (model X.prog X.w) X.A (assign target X.env u) (λ_ s'=>∃σ' H',Inv X pins σ' H' s'/\Q σ' H') X.xe s
noncomputable def o6(X:Cx)(ts:List Expr)(t:tD):Prop:=
 ∀(pins:List (Addr×Obj)) (s:Shared) (σ:St) (H:Hp) (vs:List V) (us:List Value) (Q:St->Hp->Prop),Inv X pins σ H s->Vals vs us->t vs σ H Q->
  wpAny (model X.prog X.w) X.A (assignInOrder ((assignEach ts X.env).map (·.2)) us) (λ_ s'=>∃σ' H',Inv X pins σ' H' s'/\Q σ' H') X.xe s
section
variable{X:Cx}{pos:Pos}
noncomputable def Fp(i:Nat):TG:=λv σ H Q=>Q (σ.set i (some v)) H
def yd{i:Nat}{x:Str}(hN:X.N.Nodup)(hi:X.N[i]?=some x)(hx:Loc X.env.scope x)(hf:X.fn x=true\/X.env.scope.names.lookup x=some .local:=by first|exact .inl rfl|exact .inr rfl|assumption):PG X (.Name x pos) (Fp i):=by
 intro pins s σ H v u Q I r h;exact wpAny_assign_Name (pN I hN hi hx r (λs' I'=>⟨_,H,I',h⟩) hf)
noncomputable def Q0:tD:=λvs σ H Q=>vs=[]/\Q σ H
noncomputable def N1(t:TG)(u:tD):tD:=λvs σ H Q=>∃v r,vs=v :: r/\t v σ H λσ' H'=>u r σ' H' Q
def Hl:o6 X [] Q0:=by
 intro pins s σ H vs us Q I r h;obtain⟨e,h⟩:=h;subst e;cases r;exact assignInOrder_nil ⟨σ,H,I,h⟩
def Dp{e:Expr}{es:List Expr}{t:TG}{u:tD}(h1:PG X e t)(h2:o6 X es u)
  (hs:(assignEach (e :: es) X.env).map (·.2)=assign e X.env :: (assignEach es X.env).map (·.2):=by rfl):o6 X (e :: es) (N1 t u):=by
 intro pins s σ H vs us Q I r h;obtain⟨v,vr,e1,h⟩:=h;subst e1;cases r with
 |cons r rr=>
  rw[hs];refine assignInOrder_cons (aW (h1 pins s σ H _ _ _ I r h) λ_ s1 ⟨σ1,H1,I1,q1⟩=>?_);exact h2 pins s1 σ1 H1 _ _ Q I1 rr q1
noncomputable def Q2(K:PySem.W.Frag)(n:Nat)(t:tD):TG:=λv σ H Q=>∃a xs,v=.ref a/\dH K H a xs/\xs.length=n/\t xs σ H Q
def Kc{es:List Expr}{k:Nat}{t:tD}{n:Nat}(hc:X.calm=true)(h:o6 X es t)
  (hn:(assignEach es X.env).length=n:=by rfl) (hst:(assignEach es X.env).findIdx? (·.1)=none:=by rfl):PG X (.Tuple es k pos) (Q2 X.K n t):=by
 intro pins s σ H v u Q I r hw;obtain⟨a,xs,e1,hq,hl,hw⟩:=hw;subst e1;cases r;obtain⟨its,rv,ht,hz⟩:=I.tuple hq;refine assign_Tuple_tuple (I.ok.hd hc) ht (by simp[hn,<-hl,rv.length]) hst λh' hx=>?_;have I1:Inv X pins σ H { s with heap:=h' }:=I.kept (t':=s.toks) λb o e=>hx b o (Vk (zo e)) e;exact h pins _ σ H xs _ Q I1 (by simpa using rv) hw
noncomputable def Q3(te:TE)(g:TG):TS:=λD σ H=>te σ H λx H1=>g x σ H1 D.nx
def uV{i:Nat}{x:Str}{e:Expr}{te:TE}{pos':Pos}(hN:X.N.Nodup)(hi:X.N[i]?=some x)(hx:Loc X.env.scope x)(he:PE X e te)(hs:swapsWith e (some (.Name x pos')) pos.line X.env=pure false:=by rfl)(hf:X.fn x=true\/X.env.scope.names.lookup x=some .local:=by first|exact .inl rfl|exact .inr rfl|assumption) :
  PS X (.Assign [.Name x pos'] e pos) (Q3 te (Fp i)):=by
 intro pins s σ H D I h;refine wpAny_Assign_Name (aW (he pins s σ H _ I h) λv s1 ⟨y,H1,I1,r1,q1⟩=>?_) hs;exact pN I1 hN hi hx r1 (λs2 I2=>⟨_,H1,I2,q1⟩) hf
end
structure It where
 go:Nat->Hp->Prop
 Fq:Nat->Hp->V->Hp->Prop
 stop:Nat->Hp->Prop
noncomputable def fq(X:Cx)(pins:List (Addr×Obj))(H:Hp)(b:Addr):Prop:=
 H b=none/\b≠X.env.locals/\b∉X.fs/\(b∈X.ex\/X.s₀.heap.objs.size<=b)/\(∀x c,X.env.cells.lookup x=some c->c≠b)/\∀p∈X.pn++pins,p.1≠b
def Inv.zL{X:Cx}{pins:List (Addr×Obj)}{σ:St}{H H':Hp}{s:Shared}{b:Addr}(I:Inv X pins σ H s)(hb:s.heap.objs.size<=b)(hn:H' b=none):fq X pins H' b:=by
 refine⟨hn,Nat.ne_of_gt (eE I.lt hb),I.QT hb,.inr (Uc I.sz hb),λx c e z=>?_,λp hp z=>?_⟩
 .obtain⟨v,q⟩:=I.cell x c e;exact absurd (eE q.lt (by rw[z];exact hb)) (Vx _)
 .exact absurd (eE (zo (I.pin p hp).1) (by rw[z];exact hb)) (Vx _)
structure Turn(P:Program)(w:World)(K:PySem.W.Frag)(tg:Expr)(J:It)(fp:List Addr)(it:Addr)(tn:Nat->Heap->Prop):Prop where
 mem:it∈fp
 obj:∀i h,tn i h->∀b∈fp,∃o,h.get? b=some o/\∀v,o.data≠.cell v
 keep:∀i h h',tn i h->(∀b∈fp,∀o,h.get? b=some o->h'.get? b=some o)->tn i h'
 item:∀(X:Cx),X.prog=P->X.w=w->X.K=K->X.calm=true->∀(i:Nat) (pins:List (Addr×Obj)) (s:Shared) (σ:St) (H:Hp) (E:Value->Shared->Prop),Inv X pins σ H s->(∀b∈fp,fq X pins H b)->tn i s.heap->J.go i H->
  wpAny (model P w) X.A (pyNext (.ref it)) (λr s1=>∃u,r=some u/\
   wpAny (model P w) X.A (letOwnedTupleGo tg (.ref it) u) (λ_ s2=>∃x H',Inv X pins σ H' s2/\RelV x u/\J.Fq i H x H'/\tn (i+1) s2.heap/\∀b∈fp,H' b=none) E s1) E s
 done:∀(X:Cx),X.prog=P->X.w=w->X.K=K->X.calm=true->∀(i:Nat) (pins:List (Addr×Obj)) (s:Shared) (σ:St) (H:Hp) (E:Value->Shared->Prop),Inv X pins σ H s->(∀b∈fp,fq X pins H b)->tn i s.heap->J.stop i H->
  wpAny (model P w) X.A (pyNext (.ref it)) (λr s1=>r=none/\Inv X pins σ H s1) E s
 self:∀(A:Around) (i:Nat) (s:Shared) (Q:Value->Shared->Prop) (E:Value->Shared->Prop),tn i s.heap->Q (.ref it) s->wpAny (model P w) A (pyIter (.ref it)) Q E s
abbrev TI:=St->Hp->(It->Hp->Prop)->Prop
noncomputable def ye(X:Cx)(pins:List (Addr×Obj))(σ:St)(tg:Expr)(R:It->Hp->Prop)(itv:Value)(s2:Shared):Prop:=
 ∃(it:Addr) (fp:List Addr) (tn:Nat->Heap->Prop) (J:It) (H':Hp),itv=.ref it/\Inv X pins σ H' s2/\Turn X.prog X.w X.K tg J fp it tn/\tn 0 s2.heap/\(∀b∈fp,fq X pins H' b)/\R J H'
noncomputable def PI(X:Cx)(tg iter:Expr)(wi:TI):Prop:=
 ∀(pins:List (Addr×Obj)) (s:Shared) (σ:St) (H:Hp) (R:It->Hp->Prop),Inv X pins σ H s->wi σ H R->
  wpAny (model X.prog X.w) X.A (eval iter X.env) (λv s1=>wpAny (model X.prog X.w) X.A (pyIter v) (ye X pins σ tg R) X.xe s1) X.xe s
def zM{M:Model}{A:Around}{E:Value->Shared->Prop}{s:Shared}{tg:Expr}{it:Addr}{u:Value}{o:Obj}{n:String}{vs:Array Value}{Q:Unit->Shared->Prop}(ho:s.heap.get? it=some o)(hc:o.cls=.type n)(hd:o.data=.fields vs)
    (hn:["enumerate","zip","dict_itemiterator","dict_reverseitemiterator","odict_iterator","itertools.zip_longest","itertools.pairwise"].contains n=false) (hQ:Q () s):wpAny M A (letOwnedTupleGo tg (.ref it) u) Q E s:=by
  unfold letOwnedTupleGo;cases tg<;>first
    |exact EZ hQ
    | (cases u<;>first
        |exact EZ hQ
        | (refine bP (wpAny_load ho ?_)
           rw[hc,hd];show wpAny M A (if (["enumerate","zip","dict_itemiterator","dict_reverseitemiterator","odict_iterator","itertools.zip_longest","itertools.pairwise"].contains n&&vs[0]?==some (rawInt _))=true then _ else _) Q E s;rw[SA (by intro h;rw[hn,Xx]at h;cases h)];exact EZ hQ))
noncomputable def PN(K:PySem.W.Frag)(a:Addr):It:=
 ⟨λi H=>∃xs x,eY K H a xs/\xs[i]?=some x,λi H x H'=>H'=H/\∀xs,eY K H a xs->xs[i]?=some x,λi H=>∃xs,eY K H a xs/\xs.length<=i⟩
noncomputable def PR(K:PySem.W.Frag)(a:Addr):It:=
 ⟨λi H=>∃xs x,dH K H a xs/\xs[i]?=some x,λi H x H'=>H'=H/\∀xs,dH K H a xs->xs[i]?=some x,λi H=>∃xs,dH K H a xs/\xs.length<=i⟩
noncomputable def Bd(lo:Int)(n:Nat):It:=⟨λi _=>i<n,λi H x H'=>H'=H/\x=.int (lo+i),λi _=>n<=i⟩
def Be{P:Program}{w:World}{K:PySem.W.Frag}{tg:Expr}(a it:Addr):Turn P w K tg (PN K a) [it] it (λi h=>h.IsListIter it a i) where
 mem:=by simp
 obj:=λi h st b hb=>by
  have e:b=it:=by simpa using hb
  subst e;obtain⟨o,e,c,d⟩:=st;exact⟨o,e,λv z=>by rw[d]at z;cases z⟩
 keep:=λi h h' st k=>st.at λo e=>k it (by simp) o e
 item:=by
  intro X hP hw hK hc i pins s σ H E I hf st hg;subst hP hw hK;obtain⟨xs,x,hq,hx⟩:=hg;obtain⟨its,rv,p,hz⟩:=I.list hq;obtain⟨u,hu,ru⟩:=rv.get hx;obtain⟨f0,f1,f2,f3,f4,f5⟩:=hf it (by simp);refine wpAny_pyNext_list_item st p.isList (x:=u) (by simpa using hu) λh' st' sb=>?_;have I1:Inv X pins σ H { s with heap:=h' }:=I.turned (t':=s.toks) (λb o hb e=>(sb.2 b hb).trans e) f0 f1 f3 f4 f5;obtain⟨o,e,c,d⟩:=id st';exact⟨u,rfl,zM (s:={ s with heap:=h' }) e c d (by decide) ⟨x,H,I1,ru,⟨rfl,λys hy=>by rw[I.Dm hy hq];exact hx⟩,st',λb hb=>(hf b hb).1⟩⟩
 done:=by
  intro X hP hw hK hc i pins s σ H E I hf st hg;subst hP hw hK;obtain⟨xs,hq,hx⟩:=hg;obtain⟨its,rv,p,hz⟩:=I.list hq;obtain⟨f0,f1,f2,f3,f4,f5⟩:=hf it (by simp);have hl:=rv.length;exact wpAny_pyNext_list_end (I.ok.hd hc) st p.isList (by simp;omega) λh' eb=>⟨rfl,I.turned (t':=s.toks) (λb o hb e=>eb b o hb e) f0 f1 f3 f4 f5⟩
 self:=λ_ _ _ _ _ st h=>wpAny_pyIter_listiter st h
def zN{P:Program}{w:World}{K:PySem.W.Frag}{tg:Expr}(a it:Addr):Turn P w K tg (PR K a) [it] it (λi h=>h.IsTupleIter it a i) where
 mem:=by simp
 obj:=λi h st b hb=>by
  have e:b=it:=by simpa using hb
  subst e;obtain⟨o,e,c,d⟩:=st;exact⟨o,e,λv z=>by rw[d]at z;cases z⟩
 keep:=λi h h' st k=>st.at λo e=>k it (by simp) o e
 item:=by
  intro X hP hw hK hc i pins s σ H E I hf st hg;subst hP hw hK;obtain⟨xs,x,hq,hx⟩:=hg;obtain⟨its,rv,p,hz⟩:=I.tuple hq;obtain⟨u,hu,ru⟩:=rv.get hx;obtain⟨f0,f1,f2,f3,f4,f5⟩:=hf it (by simp);refine wpAny_pyNext_tuple_item st (show s.heap.IsTuple a its.toArray from p) (x:=u) (by simpa using hu) λh' st' sb=>?_;have I1:Inv X pins σ H { s with heap:=h' }:=I.turned (t':=s.toks) (λb o hb e=>(sb.2 b hb).trans e) f0 f1 f3 f4 f5;obtain⟨o,e,c,d⟩:=id st';exact⟨u,rfl,zM (s:={ s with heap:=h' }) e c d (by decide) ⟨x,H,I1,ru,⟨rfl,λys hy=>by rw[I.mR hy hq];exact hx⟩,st',λb hb=>(hf b hb).1⟩⟩
 done:=by
  intro X hP hw hK hc i pins s σ H E I hf st hg;subst hP hw hK;obtain⟨xs,hq,hx⟩:=hg;obtain⟨its,rv,p,hz⟩:=I.tuple hq;obtain⟨f0,f1,f2,f3,f4,f5⟩:=hf it (by simp);have hl:=rv.length;exact wpAny_pyNext_tuple_end (I.ok.hd hc) st (show s.heap.IsTuple a its.toArray from p) (by simp;omega) λh' eb=>⟨rfl,I.turned (t':=s.toks) (λb o hb e=>eb b o hb e) f0 f1 f3 f4 f5⟩
 self:=λ_ _ _ _ _ st h=>wpAny_pyIter_tupleiter st h
def zO{P:Program}{w:World}{K:PySem.W.Frag}{tg:Expr}(it:Addr)(lo:Int)(n:Nat):Turn P w K tg (Bd lo n) [it] it (λi h=>IsRangeIter h it (lo+(i:Nat)*1) ((n:Int) - (i:Nat)) 1) where
 mem:=by simp
 obj:=λi h st b hb=>by
  have e:b=it:=by simpa using hb
  subst e;exact⟨_,st,λv z=>by
   have z':Data.fields _=Data.cell v:=z;cases z'⟩
 keep:=λi h h' st k=>k it (by simp) _ st
 item:=by
  intro X hP hw hK hc i pins s σ H E I hf st hg;subst hP hw hK;obtain⟨f0,f1,f2,f3,f4,f5⟩:=hf it (by simp);have W:=Walks.range (prog:=X.prog) (w:=X.w) (I.ok.hd hc) it lo 1 n;refine W.item i s _ _ hg st λv h' tk hv st' kk=>?_;obtain⟨t,rfl⟩:=hv;have I1:Inv X pins σ H { s with heap:=h',toks:=tk }:=I.turned (λb o hb e=>kk b o (by simpa using hb) e) f0 f1 f3 f4 f5;refine⟨_,rfl,zM (s:={ s with heap:=h',toks:=tk }) (n:="range_iterator") st' rfl rfl (by decide) ⟨.int (lo+i),H,I1,⟨t,?_⟩,⟨rfl,rfl⟩,st',λb hb=>(hf b hb).1⟩⟩;rw[Int.mul_one]
 done:=by
  intro X hP hw hK hc i pins s σ H E I hf st hg;subst hP hw hK;obtain⟨f0,f1,f2,f3,f4,f5⟩:=hf it (by simp);exact wpAny_pyNext_range_end (I.ok.hd hc) st (by have:n<=i:=hg;omega) λh' eb=>⟨rfl,I.turned (t':=s.toks) (λb o hb e=>eb b o hb e) f0 f1 f3 f4 f5⟩
 self:=λ_ _ _ _ _ st h=>wpAny_pyIter_rangeiter st h
section
variable{X:Cx}{tg:Expr}
def uW{pins:List (Addr×Obj)}{σ:St}{H:Hp}{s:Shared}{R:It->Hp->Prop}{E:Value->Shared->Prop}{lo hi:Int}{t u v:Tok}{tk:Nat}(I:Inv X pins σ H s)(h1:-(2 ^ 62)<=lo)(h2:lo<2 ^ 62)(h3:-(2 ^ 62)<=hi)(h4:hi<2 ^ 62)
  (q:R (Bd lo (hi - lo).toNat) H):wpAny (model X.prog X.w) X.A (pyIter (.ref s.heap.objs.size)) (ye X pins σ tg R) E { s with heap:=s.heap.push { cls:=.type "range",data:=.fields #[.int lo t,.int hi u,.int 1 v]},toks:=tk }:=by
 refine wpAny_pyIter_range (IsRange.new ..) (small_one h1 h2 h3 h4) ?_;have I1:Inv X pins σ H { s with heap:=s.heap.push { cls:=.type "range",data:=.fields #[.int lo t,.int hi u,.int 1 v]},toks:=tk }:=I.kept λb o e=>AQ _ e;refine⟨(s.heap.push { cls:=.type "range",data:=.fields #[.int lo t,.int hi u,.int 1 v]}).objs.size,[(s.heap.push { cls:=.type "range",data:=.fields #[.int lo t,.int hi u,.int 1 v]}).objs.size],_,_,H,rfl,
  I1.kept (t':=tk) λb o e=>AQ _ e,zO _ lo (hi - lo).toNat,?_,λb hb=>?_,q⟩
 .have e1:lo+((0:Nat):Int)*1=lo:=by simp
  have e2:(((hi - lo).toNat:Nat):Int) - ((0:Nat):Int)=Builtin.Range.rangeSize lo hi 1:=by rw[rangeSize_one];split<;>omega
  show IsRangeIter _ _ (lo+((0:Nat):Int)*1) ((((hi - lo).toNat:Nat):Int) - ((0:Nat):Int)) 1;rw[e1,e2];exact Vl _ rfl
 .have e:b=(s.heap.push { cls:=.type "range",data:=.fields #[.int lo t,.int hi u,.int 1 v]}).objs.size:=by simpa using hb
  subst e;exact I1.zL (Qq _) (I1.hok.fresh (Qq _))
noncomputable def N2(ta:TA):TI:=λσ H R=>ta σ H λvs H1=>∃j:Int,vs=[.int j]/\-(2 ^ 62)<=j/\j<2 ^ 62/\R (Bd 0 j.toNat) H1
noncomputable def N3(ta:TA):TI:=λσ H R=>ta σ H λvs H1=>∃i j:Int,vs=[.int i,.int j]/\(-(2 ^ 62)<=i/\i<2 ^ 62/\-(2 ^ 62)<=j/\j<2 ^ 62)/\R (Bd i (j - i).toNat) H1
def Bf {a:Expr}{ta:TA}{p pos:Pos}(hg:Gl X "range") (hm:X.mg "range" = none) (ha:PA X [a] ta) (hs:starEach [a] X.env=[(false,eval a X.env)]:=by rfl):PI X tg (.Call (.Name "range" p) [a] [] pos) (N2 ta):=by
 intro pins s σ H R I h;refine Call_ (mQ I hg hm boot_range (Wb (aW (ha pos pins s σ H _ I h) λus s1 ⟨vs,H1,I1,r1,q1⟩=>?_) hs rfl));obtain⟨j,e,q1,q2,q⟩:=q1;subst e;cases r1 with
 |cons r rr=>
  cases rr;obtain⟨t,rfl⟩:=r;exact call_range_1 (uW I1 (by omega) (by omega) q1 q2 (by simpa using q))
def Bg {a b:Expr}{ta:TA}{p pos:Pos}(hg:Gl X "range") (hm:X.mg "range" = none) (ha:PA X [a,b] ta) (hs:starEach [a,b] X.env=[(false,eval a X.env),(false,eval b X.env)]:=by rfl) (hs2:starEach [b] X.env=[(false,eval b X.env)]:=by rfl) :
  PI X tg (.Call (.Name "range" p) [a,b] [] pos) (N3 ta):=by
 intro pins s σ H R I h;refine Call_ (mQ I hg hm boot_range (Wb (aW (ha pos pins s σ H _ I h) λus s1 ⟨vs,H1,I1,r1,q1⟩=>?_) (by rw[hs,hs2]) (by rw[hs2];rfl)));obtain⟨i,j,e,⟨q1,q2,q3,q4⟩,q⟩:=q1;subst e;cases r1 with
 |cons r rr=>
  cases rr with
  |cons r' rr=>
   cases rr;obtain⟨t,rfl⟩:=r;obtain⟨t',rfl⟩:=r';exact call_range_2 (uW I1 q1 q2 q3 q4 q)
noncomputable def Q4(wi:TI)(g:TG)(tb:TS):TS:=λD σ H=>wi σ H λJ H1=>∃W:Nat->Nat->St->Hp->Prop,(∃m,W 0 m σ H1)/\∀i m σ H,W i m σ H->
 (J.stop i H/\D.nx σ H)\/(J.go i H/\∃N:St->Hp->Prop,(∀σ' H',N σ' H'->∃m',m'<m/\W (i+1) m' σ' H')/\∀x H',J.Fq i H x H'->g x σ H' λσ2 H2=>tb { D with nx:=N,ct:=N,bk:=D.nx } σ2 H2)
noncomputable def kL(fp:List Addr)(h:Heap):List (Addr×Obj):=fp.filterMap λb=>(h.get? b).map λo=>(b,o)
def gg{fp:List Addr}{h:Heap}{b:Addr}{o:Obj}(hb:b∈fp)(e:h.get? b=some o):(b,o)∈kL fp h:=List.mem_filterMap.mpr ⟨b,hb,by rw[e];rfl⟩
def Bh{fp:List Addr}{h:Heap}{p:Addr×Obj}(hp:p∈kL fp h):p.1∈fp/\h.get? p.1=some p.2:=by
 obtain⟨b,hb,e⟩:=List.mem_filterMap.mp hp;cases q:h.get? b with
 |none=>rw[q]at e;cases e
 |some o=>
  rw[q]at e;have e':(b,o)=p:=lz e;subst e';exact⟨hb,q⟩
def Inv.pinned{pins:List (Addr×Obj)}{σ:St}{H:Hp}{s:Shared}{fp:List Addr}(I:Inv X pins σ H s)(hf:∀b∈fp,fq X pins H b)(ho:∀b∈fp,∃o,s.heap.get? b=some o/\∀v,o.data≠.cell v):Inv X (pins++kL fp s.heap) σ H s:=
 I.x6 λp hp=>(List.mem_append.mp hp).elim (λz=>I.pin p (Vf _ z)) λz=>by
  obtain⟨hb,e⟩:=Bh z;obtain⟨f0,f1,f2,_⟩:=hf p.1 hb;obtain⟨o,e',d⟩:=ho p.1 hb;rw[e]at e';cases e';exact⟨e,f0,f1,f2,d⟩
def Inv.jH{pins pl:List (Addr×Obj)}{σ:St}{H:Hp}{s:Shared}(I:Inv X (pins++pl) σ H s):Inv X pins σ H s:=I.x6 λp hp=>I.pin p (Vf _ (XO _ hp))
def Kd{iter:Expr}{body:List Stmt}{wi:TI}{g:TG}{tb:TS}{pos:Pos}(hp:PassesOwn (model X.prog X.w) X.A X.env X.xe)(hc:X.calm=true)(hi:PI X tg iter wi)(hg:PG X tg g)(hb:eX X body tb)
  (hs:∀x,foldedSetIterable iter X.env x=pure x:=by intro _;rfl):PS X (.For tg iter body [] pos) (Q4 wi g tb):=by
 intro pins s σ H D I h;refine wpAny_For (aW (hi pins s σ H _ I h) λv s1 h1=>aW h1 λitv s2 h2=>?_) hs;obtain⟨it,fp,tn,J,H2,e,I2,T,st2,f2,W,⟨m0,w0⟩,turn⟩:=h2;subst e;have iz:∀{H':Hp},(∀b∈fp,H' b=none)->∀b∈fp,fq X pins H' b:=λhn b hb=>⟨hn b hb,(f2 b hb).2⟩
 refine codeAny_forLoop_any (λn s'=>∃i σ' H',Inv X pins σ' H' s'/\tn i s'.heap/\(∀b∈fp,H' b=none)/\W i n σ' H') ?_ m0 ⟨0,σ,H2,I2,st2,λb hb=>(f2 b hb).1,w0⟩;rintro n s3 ⟨i,σ3,H3,I3,st3,bw,w3⟩;rcases turn i n σ3 H3 w3 with ⟨stop,qn⟩|⟨go,N,hN,step⟩
 .refine Wf hp (aW (T.done X rfl rfl rfl hc i pins s3 σ3 H3 X.xe I3 (iz bw) st3 stop) λr s4 ⟨hr,I4⟩=>?_);subst hr;exact Xl ⟨σ3,H3,I4,qn⟩
 .refine Wf hp (aW (T.item X rfl rfl rfl hc i pins s3 σ3 H3 X.xe I3 (iz bw) st3 go) λr s4 ⟨u,hr,h4⟩=>?_);subst hr;refine Wf hp (aW h4 λ_ s5 ⟨x,H5,I5,r5,y5,tE,mS⟩=>?_);have SG:=I5.pinned (iz mS) (T.obj _ _ tE);refine Wf hp (aW (hg _ s5 σ3 H5 x u _ SG r5 (step x H5 y5)) λ_ s6 ⟨SH,H6,I6,q6⟩=>?_);refine Wf hp (aW (hb _ s6 SH H6 _ I6 q6) λf s7 q7=>?_);have again:∀{mT:St} {H7:Hp},Inv X (pins++kL fp s5.heap) mT H7 s7->N mT H7->∃m,m<n/\∃i σ' H',Inv X pins σ' H' s7/\tn i s7.heap/\(∀b∈fp,H' b=none)/\W i m σ' H':=λ{mT H7} I7 n7=>by
   obtain⟨m',hm,w7⟩:=hN mT H7 n7;refine⟨m',hm,i+1,mT,H7,I7.jH,T.keep _ _ _ tE λb hb o e=>(I7.pin (b,o) (Vf _ (Vf _ (gg hb e)))).1,λb hb=>?_,w7⟩;obtain⟨o,e,d⟩:=T.obj _ _ tE b hb;exact(I7.pin (b,o) (Vf _ (Vf _ (gg hb e)))).2.1
  cases f with
  |next=>obtain⟨mT,H7,I7,n7⟩:=q7;exact again I7 n7
  |cont=>obtain⟨mT,H7,I7,n7⟩:=q7;exact again I7 n7
  |brk=>obtain⟨mT,H7,I7,q7⟩:=q7;exact⟨mT,H7,I7.jH,q7⟩
  |ret v=>obtain⟨x7,mT,H7,I7,r7,q7⟩:=q7;exact⟨x7,mT,H7,I7.jH,r7,q7⟩
end
abbrev R2:=V->V->Hp->VK->Prop
noncomputable def cH(X:Cx)(f:Value->Value->Sem Value)(r:R2):Prop:=
 ∀(pins:List (Addr×Obj)) (s:Shared) (σ:St) (H:Hp) (x y:V) (v u:Value) (Q:VK),Inv X pins σ H s->RelV x v->RelV y u->r x y H Q->
  wpAny (model X.prog X.w) X.A (f v u) (EP X pins σ Q) X.xe s
noncomputable def fM(X:Cx)(f:Value)(r:List V->Hp->VK->Prop):Prop:=
 ∀(pins:List (Addr×Obj)) (s:Shared) (σ:St) (H:Hp) (xs:List V) (us:List Value) (Q:VK),Inv X pins σ H s->Vals xs us->r xs H Q->
  wpAny (model X.prog X.w) X.A (call f us) (EP X pins σ Q) X.xe s
noncomputable def Q5(X:Cx)(r:V->Hp->(Bool->Hp->Prop)->Prop):Prop:=
 ∀(pins:List (Addr×Obj)) (s:Shared) (σ:St) (H:Hp) (x:V) (v:Value) (Q:Bool->Hp->Prop),Inv X pins σ H s->RelV x v->r x H Q->
  wpAny (model X.prog X.w) X.A (truthy v) (TP X pins σ Q) X.xe s
noncomputable def Bj(r:R2)(ta tb:TE):TE:=λσ H Q=>ta σ H λx H1=>tb σ H1 λy H2=>r x y H2 Q
noncomputable def rI(C:Int->Int->Prop)(g:Int->Int->V):R2:=λx y H Q=>∃i j,x=.int i/\y=.int j/\C i j/\Q (g i j) H
noncomputable def yf(g:Int->Int->V):R2:=λx y H Q=>∃i j,x=.int i/\y=.int j/\Q (g i j) H
section
variable{X:Cx}{a b:Expr}{ta tb:TE}{pos:Pos}
def zP(ha:PE X a ta)(hb:PE X b tb){pins:List (Addr×Obj)}{s:Shared}{σ:St}{H:Hp}{R:V->V->Hp->Prop}(I:Inv X pins σ H s)
  (h:ta σ H λx H1=>tb σ H1 λy H2=>R x y H2) {Q:Value->Shared->Prop} {f:Value->Value->Sem Value}
  (hf:∀v u s2 x y H2,Inv X pins σ H2 s2->RelV x v->RelV y u->R x y H2->wpAny (model X.prog X.w) X.A (f v u) Q X.xe s2) :
  wpAny (model X.prog X.w) X.A (eval a X.env) (λv s₁=>wpAny (model X.prog X.w) X.A (eval b X.env) (λu s₂=>wpAny (model X.prog X.w) X.A (f v u) Q X.xe s₂) X.xe s₁) X.xe s:=by
 refine aW (ha pins s σ H _ I h) λv s1 ⟨x,H1,I1,r1,q1⟩=>?_;refine aW (hb pins s1 σ H1 _ I1 q1) λu s2 ⟨y,H2,I2,r2,q2⟩=>?_;exact hf v u s2 x y H2 I2 r1 r2 q2
def N4{op:Operator}{r:R2}(ho:cH X (binaryOp op) r)(ha:PE X a ta)(hb:PE X b tb):PE X (.BinOp a op b pos) (Bj r ta tb):=by
 intro pins s σ H Q I h;exact wpAny_BinOp (zP ha hb I h λv u s2 x y H2 I2 rx ry q=>ho pins s2 σ H2 x y v u Q I2 rx ry q)
def Ke{f:Value->Value->Sem Value}{C:Int->Int->Prop}{g:Int->Int->Int}
  (rule:∀(i j:Int) (t u:Tok) (s:Shared) (Q:Value->Shared->Prop) (E:Value->Shared->Prop),C i j->Q (.int (g i j) s.toks) { s with toks:=s.toks+1 }->wpAny (model X.prog X.w) X.A (f (.int i t) (.int j u)) Q E s) :
  cH X f (rI C λi j=>.int (g i j)):=by
 intro pins s σ H x y v u Q I rx ry h;obtain⟨i,j,rfl,rfl,hc,q⟩:=h;obtain⟨t,rfl⟩:=rx;obtain⟨t',rfl⟩:=ry;exact rule i j t t' s _ _ hc ⟨.int (g i j),H,I.tok _,⟨_,rfl⟩,q⟩
def Q6{f:Value->Value->Sem Value}{g:Int->Int->Int}
  (rule:∀(i j:Int) (t u:Tok) (s:Shared) (Q:Value->Shared->Prop) (E:Value->Shared->Prop),Q (.int (g i j) s.toks) { s with toks:=s.toks+1 }->wpAny (model X.prog X.w) X.A (f (.int i t) (.int j u)) Q E s) :
  cH X f (yf λi j=>.int (g i j)):=by
 intro pins s σ H x y v u Q I rx ry h;obtain⟨i,j,rfl,rfl,q⟩:=h;obtain⟨t,rfl⟩:=rx;obtain⟨t',rfl⟩:=ry;exact rule i j t t' s _ _ ⟨.int (g i j),H,I.tok _,⟨_,rfl⟩,q⟩
def Kf{f:Value->Value->Sem Value}{g:Int->Int->Bool}
  (rule:∀(i j:Int) (t u:Tok) (s:Shared) (Q:Value->Shared->Prop) (E:Value->Shared->Prop),Q (.bool (g i j)) s->wpAny (model X.prog X.w) X.A (f (.int i t) (.int j u)) Q E s) :
  cH X f (yf λi j=>.bl (g i j)):=by
 intro pins s σ H x y v u Q I rx ry h;obtain⟨i,j,rfl,rfl,q⟩:=h;obtain⟨t,rfl⟩:=rx;obtain⟨t',rfl⟩:=ry;exact rule i j t t' s _ _ ⟨.bl (g i j),H,I,rfl,q⟩
noncomputable def Q7(i j:Int):Prop:=0<j/\j<1073741824
noncomputable def Dq(i j:Int):Prop:=(-(2 ^ 64)<i/\i<2 ^ 64)\/(-(2 ^ 64)<j/\j<2 ^ 64)
def Dq.ok{i j:Int}(h:Dq i j):IntMulOk i j:=by
 rcases h with ⟨h1,h2⟩|⟨h1,h2⟩
 .exact .of_left (intBits_le_64 h1 h2)
 .exact .of_right (intBits_le_64 h1 h2)
def Kg:cH X (binaryOp .Add) (yf λi j=>.int (i+j)):=Q6 λ_ _ _ _ _ _ _ q=>add_int q
def Kh:cH X (binaryOp .Mult) (rI Dq λi j=>.int (i*j)):=Ke λ_ _ _ _ _ _ _ hc q=>mul_int q hc.ok
def Ho:cH X (binaryOp .FloorDiv) (rI Q7 λi j=>.int (i / j)):=Ke λi j _ _ _ _ _ hc q=>by
 have h1:(0:Int)<j:=hc.1;have h2:j<1073741824:=hc.2;exact floordiv_int (by omega) (by rw[Int.fdiv_eq_ediv_of_nonneg i (by omega)];exact q) (.inl (PyProof.noPylong_small (by omega)))
def Kl:cH X (binaryOp .Mod) (rI (λ_ j=>0<j) λi j=>.int (i % j)):=Ke λi j _ _ _ _ _ hc q=>by
 have h1:(0:Int)<j:=hc;exact mod_int' (by omega) (by rw[Int.fmod_eq_emod_of_nonneg i (by omega)];exact q)
end
noncomputable def Q8:V->V->Bool
 |.bf,.bf=>true|.bf,.int _=>true|.int _,.bf=>true|.bf,.bl _=>true|.bl _,.bf=>true|.bf,.str _=>true|.str _,.bf=>true
 |.int _,.int _=>true|.bl _,.bl _=>true|.str _,.str _=>true|.mH _,.mH _=>true
 |.int _,.str _=>true|.str _,.int _=>true|.bl _,.str _=>true|.str _,.bl _=>true
 |_,_=>false
noncomputable def SI:R2:=λx y H Q=>Q8 x y=true/\Q (.bl (!decide (x=y))) H
def Hq{i j:Int}:decide (V.int i=V.int j)=(i==j):=by
 rw[VL];simp
def Km{i j:Bool}:decide (V.bl i=V.bl j)=(i==j):=by
 rw[VL];simp
def Hr{i j:Str}:decide (V.str i=V.str j)=(i==j):=by
 rw[VL];simp
def Hs{i j:Array UInt8}:decide (V.mH i=V.mH j)=(i.toList==j.toList):=by
 rw[VL];cases i;cases j;simp
section
variable{X:Cx}{a b c:Expr}{ta tb tc:TE}{pos:Pos}
def dX{pins:List (Addr×Obj)}{σ:St}{H:Hp}{s:Shared}{Q:VK}{k k':Bool}(I:Inv X pins σ H s)(q:Q (.bl k) H)(e:k=k'):EP X pins σ Q (.bool k') s:=by
 subst e;exact⟨.bl k,H,I,rfl,q⟩
def N5:cH X (compareOp .NotEq) SI:=by
 intro pins s σ H x y v u Q I rx ry h;obtain⟨hs,q⟩:=h;cases x with
 |bf=>
  cases rx;cases y with
  |bf=>cases ry;exact PySem.EqNone.ne_none_none (dX I q (by simp))
  |bl j=>cases ry;exact PySem.EqNone.ne_none_bool (dX I q (by simp))
  |int j=>obtain⟨t',rfl⟩:=ry;exact PySem.EqNone.ne_none_int (dX I q (by simp))
  |str j=>obtain⟨t',rfl⟩:=ry;exact PySem.EqNone.ne_none_str (dX I q (by simp))
  |_=>exact absurd (show false=true from hs) Vw
 |bl i=>
  cases rx;cases y with
  |bf=>cases ry;exact PySem.EqNone.ne_bool_none (dX I q (by simp))
  |bl j=>cases ry;exact ne_bool (dX I q (Vd not Km))
  |str j=>obtain⟨t',rfl⟩:=ry;exact PySem.EqMixed.ne_bool_str (dX I q (by simp))
  |_=>exact absurd (show false=true from hs) Vw
 |int i=>
  obtain⟨t,rfl⟩:=rx;cases y with
  |bf=>cases ry;exact PySem.EqNone.ne_int_none (dX I q (by simp))
  |int j=>obtain⟨t',rfl⟩:=ry;exact ne_int (dX I q (Vd not Hq))
  |str j=>obtain⟨t',rfl⟩:=ry;exact PySem.EqMixed.ne_int_str (dX I q (by simp))
  |_=>exact absurd (show false=true from hs) Vw
 |str i=>
  obtain⟨t,rfl⟩:=rx;cases y with
  |bf=>cases ry;exact PySem.EqNone.ne_str_none (dX I q (by simp))
  |bl j=>cases ry;exact PySem.EqMixed.ne_str_bool (dX I q (by simp))
  |int j=>obtain⟨t',rfl⟩:=ry;exact PySem.EqMixed.ne_str_int (dX I q (by simp))
  |str j=>obtain⟨t',rfl⟩:=ry;exact ne_str (dX I q (Vd not Hr))
  |_=>exact absurd (show false=true from hs) Vw
 |mH i=>
  obtain⟨t,rfl⟩:=rx;cases y with
  |mH j=>obtain⟨t',rfl⟩:=ry;exact PySem.W.ne_bytes (dX I q (Vd not Hs))
  |_=>exact absurd (show false=true from hs) Vw
 |_=>cases y<;>exact absurd (show false=true from hs) Vw
def N6:cH X (compareOp .LtE) (yf λi j=>.bl (decide (i<=j))):=Kf λ_ _ _ _ _ _ _ q=>le_int q
def N7:cH X (compareOp .Gt) (yf λi j=>.bl (decide (j<i))):=Kf λ_ _ _ _ _ _ _ q=>gt_int q
def mU(b:Expr){op:CmpOp}(h:op≠.In:=by decide)(h2:op≠.NotIn:=by decide):behindInMarks op b=false:=by
 have e1:(op==CmpOp.In)=false:=by cases op<;>first|rfl|exact absurd rfl h
 have e2:(op==CmpOp.NotIn)=false:=by cases op<;>first|rfl|exact absurd rfl h2
 cases b<;>simp[behindInMarks,e1,e2]
def Ht{op:CmpOp}{r:R2}(ho:cH X (compareOp op) r)(ha:PE X a ta)(hb:PE X b tb)(hm:behindInMarks op b=false):PE X (.Compare a [op] [b] pos) (Bj r ta tb):=by
 intro pins s σ H Q I h;exact wpAny_Compare1 (zP ha hb I h λv u s2 x y H2 I2 rx ry q=>ho pins s2 σ H2 x y v u Q I2 rx ry q) hm
noncomputable def zQ(t:TE):TT:=λσ H Q=>t σ H λx H'=>∃k,x=.bl k/\Q k H'
def yg{op:CmpOp}{r:R2}(ho:cH X (compareOp op) r)(ha:PE X a ta)(hb:PE X b tb)(hm:behindInMarks op b=false):PT X (.Compare a [op] [b] pos) (zQ (Bj r ta tb)):=by
 intro pins s σ H Q I h;refine Xy (aW (ha pins s σ H _ I h) λv s1 ⟨x,H1,I1,r1,q1⟩=>aW (hb pins s1 σ H1 _ I1 q1) λu s2 ⟨y,H2,I2,r2,q2⟩=>
  aW (ho pins s2 σ H2 x y v u _ I2 r1 r2 q2) λc s3 ⟨z,H3,I3,r3,k,e,q3⟩=>?_) hm
 subst e;cases r3;exact VA ⟨H3,I3,q3⟩
noncomputable def uX(r r':R2)(ta tb tc:TE):TE:=λσ H Q=>ta σ H λx H1=>tb σ H1 λy H2=>r x y H2 λz H3=>∃k,z=.bl k/\
 (if k=true then tc σ H3 λw' H4=>r' y w' H4 Q else Q (.bl false) H3)
def Dr{op op':CmpOp}{r r':R2}(ho:cH X (compareOp op) r)(ho':cH X (compareOp op') r')(ha:PE X a ta)(hb:PE X b tb)(hc:PE X c tc)
  (hm:lastMarks [op,op'] [b,c]=false:=by with_unfolding_all rfl):PE X (.Compare a [op,op'] [b,c] pos) (uX r r' ta tb tc):=by
 intro pins s σ H Q I h;refine Compare_chain (aW (ha pins s σ H _ I h) λv s1 ⟨x,H1,I1,r1,q1⟩=>chain_link (aW (hb pins s1 σ H1 _ I1 q1) λu s2 ⟨y,H2,I2,r2,q2⟩=>
  aW (ho pins s2 σ H2 x y v u _ I2 r1 r2 q2) λd s3 ⟨z,H3,I3,r3,k,e,q3⟩=>?_)) hm
 subst e;cases r3;refine VA ?_;cases k with
 |false=>exact ite_ff ⟨.bl false,H3,I3,rfl,q3⟩
 |true=>exact ite_tt (chain_last (aW (hc pins s3 σ H3 _ I3 q3) λw' s4 ⟨z',H4,I4,r4,q4⟩=>ho' pins s4 σ H4 y z' u w' Q I4 r2 r4 q4))
def Ds{op op':CmpOp}{r r':R2}(ho:cH X (compareOp op) r)(ho':cH X (compareOp op') r')(ha:PE X a ta)(hb:PE X b tb)(hc:PE X c tc)
  (hm:lastMarks [op,op'] [b,c]=false:=by with_unfolding_all rfl):PT X (.Compare a [op,op'] [b,c] pos) (zQ (uX r r' ta tb tc)):=by
 intro pins s σ H Q I h;refine isTrue_chain (aW (ha pins s σ H _ I h) λv s1 ⟨x,H1,I1,r1,q1⟩=>test_link (aW (hb pins s1 σ H1 _ I1 q1) λu s2 ⟨y,H2,I2,r2,q2⟩=>
  aW (ho pins s2 σ H2 x y v u _ I2 r1 r2 q2) λd s3 ⟨z,H3,I3,r3,k,e,q3⟩=>?_)) hm
 subst e;cases r3;refine VA ?_;cases k with
 |false=>
  obtain⟨k',e',q'⟩:=q3;cases e';exact ite_ff ⟨H3,I3,q'⟩
 |true=>
  refine ite_tt (test_last (aW (hc pins s3 σ H3 _ I3 q3) λw' s4 ⟨z',H4,I4,r4,q4⟩=>aW (ho' pins s4 σ H4 y z' u w' _ I4 r2 r4 q4) λd' s5 ⟨z2,H5,I5,r5,k2,e2,q5⟩=>?_));subst e2;cases r5;exact VA ⟨H5,I5,q5⟩
noncomputable def Dt(K:PySem.W.Frag)(x:V)(H:Hp)(k:Bool):Prop:=
 match x with
 |.bf=>k=false
 |.bl b=>k=b
 |.int i=>k=(i != 0)
 |.str y=>y.length<=sizeLine/\k=((y.length:Int) != 0)
 |.mH y=>y.size<=sizeLine/\k=((y.size:Int) != 0)
 |.ref p=>(∃xs,eY K H p xs/\k = !xs.isEmpty)\/(∃xs,dH K H p xs/\k = !xs.isEmpty)\/∃kvs,H p=some (.dK kvs)/\k = !kvs.isEmpty
 |_=>False
def zR{κ:Type}{kvs:List (κ×V)}{vs:List (κ×Value)}(r:KV kvs vs):(!vs.isEmpty) = !kvs.isEmpty:=by
 cases r<;>rfl
def qt{xs:List V}{its:List Value}(r:Vals xs its):(!its.toArray.isEmpty) = !xs.isEmpty:=by
 cases r<;>simp
def kM:(sizeLine:Nat)<2 ^ 63:=by rw[V9];decide
def Kn:Q5 X (λx H Q=>∃k,Dt X.K x H k/\Q k H):=by
 intro pins s σ H x v Q I rx h;obtain⟨k,e,q⟩:=h;have hl:=kM;have hs:sizeLine=16777216:=V9;cases x with
 |bf=>
  cases rx;have e':k=false:=e;subst e';exact truthy_none ⟨H,I,q⟩
 |bl b=>
  cases rx;have e':k=b:=e;subst e';exact VA ⟨H,I,q⟩
 |int i=>
  obtain⟨t,rfl⟩:=rx;have e':k=(i != 0):=e;subst e';exact PySem.P.truthy_int ⟨H,I,q⟩
 |str y=>
  obtain⟨t,rfl⟩:=rx;obtain⟨hy,e'⟩:y.length<=sizeLine/\k=((y.length:Int) != 0):=e;subst e';exact PySem.P.truthy_str (by omega) ⟨H,I.tok _,q⟩
 |mH y=>
  obtain⟨t,rfl⟩:=rx;obtain⟨hy,e'⟩:y.size<=sizeLine/\k=((y.size:Int) != 0):=e;subst e';exact PySem.W.truthy_bytes (by omega) ⟨H,I.tok _,q⟩
 |ref p=>
  cases rx;have e':(∃xs,eY X.K H p xs/\k = !xs.isEmpty)\/(∃xs,dH X.K H p xs/\k = !xs.isEmpty)\/∃kvs,H p=some (.dK kvs)/\k = !kvs.isEmpty:=e;rcases e' with ⟨xs,hx,e'⟩|⟨xs,hx,e'⟩|⟨kvs,hx,e'⟩
  .subst e';obtain⟨its,r,pl,hz⟩:=I.list hx;have hlen:=r.length;exact wpAny_truthy_list pl.isList (by simp only[Nb];omega) ⟨H,I.tok _,by rw[qt r];exact q⟩
  .subst e';obtain⟨its,r,pl,hz⟩:=I.tuple hx;have hlen:=r.length;exact truthy_tuple pl (by simp only[Nb];omega) ⟨H,I.tok _,by rw[qt r];exact q⟩
  .subst e';obtain⟨hz,hS,vs,r,m⟩:kvs.length<=sizeLine/\(p==sysModules)=false/\∃vs,KV kvs vs/\s.heap.DictOf (cT X.prog X.w) p vs:=I.hok p _ hx;have hlen:kvs.length=vs.length:=Paired.length r;exact wpAny_truthy_dict hS m (by omega) ⟨H,I.tok _,by rw[zR r];exact q⟩
 |_=>exact(show False from e).elim
def Dv(ha:PE X a ta)(he:∀whole,isTrue a X.env whole=(do let v <-whole;standAt a.pos;holding [v] (truthy v))) :
  PT X a (λσ H Q=>ta σ H λx H'=>∃k,Dt X.K x H' k/\Q k H'):=by
 intro pins s σ H Q I h;exact isTrue_plain (aW (ha pins s σ H _ I h) λv s1 ⟨x,H1,I1,r1,q1⟩=>Kn pins s1 σ H1 x v Q I1 r1 q1) (he _)
def zS:cH X (binaryOp .Add) (λx y H Q=>∃i j,x=.str i/\y=.str j/\i.length+j.length<=sizeLine/\Q (.str (i++j)) H):=by
 intro pins s σ H x y v u Q I rx ry h;obtain⟨i,j,rfl,rfl,hz,q⟩:=h;obtain⟨t,rfl⟩:=rx;obtain⟨t',rfl⟩:=ry;exact add_str (λt' tk=>⟨.str (i++j),H,I.tok _,⟨_,rfl⟩,q⟩) hz
def WT{x:V}{us:List Value}(r:Vals [x] us):∃u,us=[u]/\RelV x u:=by
 cases r with
 |cons r1 r2=>cases r2;exact⟨_,rfl,r1⟩
def vals2{x y:V}{us:List Value}(r:Vals [x,y] us):∃u w',us=[u,w']/\RelV x u/\RelV y w':=by
 cases r with
 |cons r1 r2=>
  cases r2 with
  |cons r3 r4=>cases r4;exact⟨_,_,rfl,r1,r3⟩
end
structure Dw(h:Heap)(x dx C:Addr)(mA:Str->Option Value):Prop where
 obj:h.get? x=some (PySem.W.instObj C dx)
 ns:h.Ns1 dx mA
 ne:dx≠x
def Bk{h:Heap}{dx:Addr}{mA:Str->Option Value}(n:h.Ns1 dx mA):∃od,h.get? dx=some od/\∀name,PySem.W.lookIn name od=some (mA name):=by
 obtain⟨o,es,ep,ho,hd,hk,_,hm⟩:=n;refine⟨o,ho,λname=>?_⟩;have e:=hm name;unfold nsFind findBy at e;rw[<-Array.find?_toList]at e;unfold PySem.W.lookIn;rw[hd];dsimp only;split
 .rename_i y q;rw[q]at e;exact Vd some e
 .rename_i q;rw[q]at e;have a:es.toList.any (·.refKey)=false:=by
   rw[List.any_eq_false];intro y hy;obtain⟨z,t,hkey⟩:=hk y (Array.mem_toList_iff.mp hy);simp[DictEntry.refKey,hkey]
  have a':¬ es.toList.any (·.refKey)=true:=by rw[a];exact Vw
  rw[SA a'];exact Vd some e
def Dw.look{h:Heap}{x dx C:Addr}{mA:Str->Option Value}(I:Dw h x dx C mA):∃od,PySem.W.InstAt h x (PySem.W.instObj C dx) C (some od)/\∀name,PySem.W.lookIn name od=some (mA name):=
 let ⟨od,ho,hl⟩:=Bk I.ns
 ⟨od,⟨I.obj,rfl,rfl,ho⟩,hl⟩
def lB.some_of{v:V}{o:Option Value}(r:lB (some v) o):∃u,o=some u/\RelV v u:=by
 cases o with
 |none=>exact(show False from r).elim
 |some u=>exact⟨u,rfl,r⟩
section
variable{P:Program}{w:World}{H:Hp}{h:Heap}{a C dx:Addr}{fs:List (Str×V)}
def Hu(hok:dG P w H h)(e:H a=some (.ins C dx fs)):∃mA,Dw h a dx C mA/\(∀f,lB (fs.lookup f) (mA f))/\PySem.Within mA (fs.map (·.1))/\fs.length<=1000/\H dx=some (.own a):=by
 obtain⟨d,z,ne,ob,mA,n,r,q⟩:=(show b6 P w H h a (.ins C dx fs)from hok a _ e)
 exact⟨mA,⟨ob,n,ne⟩,r,q,z,d⟩
end
structure Ko(K:PySem.W.Frag)(C:Addr):Prop where
 pg:PySem.W.plainGet K C Str.empty=true
 hd:PySem.W.hasDictIn K C=true
 po:PySem.W.plainOver K C=true
 sa:PySem.W.findIn K (.ref C) "__setattr__" = some (some (.builtin "object.__setattr__"))
def Ko.get{K:PySem.W.Frag}{C:Addr}(c:Ko K C)(f:Str):PySem.W.plainGet K C f=true:=c.pg
section
variable{X:Cx}{pins:List (Addr×Obj)}{σ:St}{H:Hp}{s:Shared}{A:Around}{E:Value->Shared->Prop}{Q:Value->Shared->Prop}{c:Value}{b:Bool}
inductive je(K:PySem.W.Frag)(H:Hp):V->Value->Prop where
 |bf:je K H .bf (.type "NoneType")
 |bl (x:Bool):je K H (.bl x) (.type "bool")
 |int (i:Int):je K H (.int i) (.type "int")
 |str (x:Str):je K H (.str x) (.type "str")
 |xX (x:UInt64):je K H (.xX x) (.type "float")
 |lst {a:Addr} {xs:List V} (e:H a=some (.lst xs)):je K H (.ref a) (.type "list")
 |bE {a:Addr} {o:Obj} {xs:List V} (e:H a=some (.bE o (.lst xs))):je K H (.ref a) (.type "list")
 |tup {a:Addr} {xs:List V} (e:H a=some (.tup xs)):je K H (.ref a) (.type "tuple")
 |dK {a:Addr} {kvs:List (Key×V)} (e:H a=some (.dK kvs)):je K H (.ref a) (.type "dict")
 |dT {a:Addr} {kvs:List (List Key×V)} (e:H a=some (.dT kvs)):je K H (.ref a) (.type "dict")
 |ins {a C dx:Addr} {fs:List (Str×V)} (e:H a=some (.ins C dx fs)) (cl:Ko K C) (ha:PySem.W.findIn K (.ref C) "__class__" = some (some (.builtin "object.__class__")))
   (hn:PySem.W.specialIn K (.builtin "object.__class__") "__get__" = some (some (.builtin "getset_descriptor.__get__"))) (htk:PySem.W.takesIn K (.builtin "object.__class__")=some true)
   (hm:PySem.W.mroIn K C (.type "object")=some true):je K H (.ref a) (.ref C)
def iX{x:V}{u t:Value}(I:Inv X pins σ H s)(rx:RelV x u)(ty:je X.K H x t)(e:PySem.W.kitOne X.K t c=some b)(h:∀tk,Q (.bool b) { s with toks:=tk }) :
  wpAny (model X.prog X.w) A (call (.builtin "isinstance") [u,c]) Q E s:=by
 cases ty with
 |bf=>cases (show u=Value.none from rx);exact Vt PySem.W.kitx_none I.dQ True.intro e (λz=>nomatch z) h
 |bl y=>cases (show u=Value.bool y from rx);exact Vt PySem.W.kitx_bool I.dQ True.intro e (λz=>nomatch z) h
 |int i=>obtain⟨t,q⟩:=(show ∃t,u=Value.int i t from rx);cases q;exact Vt PySem.W.kitx_int I.dQ True.intro e (λz=>nomatch z) h
 |str y=>obtain⟨t,q⟩:=(show ∃t,u=Value.str y t from rx);cases q;exact Vt PySem.W.kitx_str I.dQ True.intro e (λz=>nomatch z) h
 |xX y=>obtain⟨t,q⟩:=(show ∃t,u=Value.float y t from rx);cases q;exact Vt PySem.W.kitx_float I.dQ True.intro e (λz=>nomatch z) h
 |@lst a xs ea=>
  cases (show u=Value.ref a from rx);obtain⟨_,_,n,_,h1⟩:=(show b6 X.prog X.w H s.heap a (.lst xs)from I.hok a _ ea)
  exact Vt W2 I.dQ ⟨_,h1,rfl⟩ e (λz=>nomatch z) h
 |@bE a ob xs ea=>
  cases (show u=Value.ref a from rx);obtain⟨_,_,_,n,_,h1⟩:=(show b6 X.prog X.w H s.heap a (.bE ob (.lst xs))from I.hok a _ ea)
  exact Vt W2 I.dQ ⟨_,h1,rfl⟩ e (λz=>nomatch z) h
 |@tup a xs ea=>
  cases (show u=Value.ref a from rx);obtain⟨_,_,_,p⟩:=(show b6 X.prog X.w H s.heap a (.tup xs)from I.hok a _ ea)
  obtain⟨o,h1,h2,_⟩:=p;exact Vt X7 I.dQ ⟨o,h1,h2⟩ e (λz=>nomatch z) h
 |@dK a kvs ea=>
  cases (show u=Value.ref a from rx);obtain⟨_,_,vs,_,p⟩:=(show b6 X.prog X.w H s.heap a (.dK kvs)from I.hok a _ ea)
  obtain⟨o,es,ep,h1,h2,_⟩:=p;exact Vt Yg I.dQ ⟨o,h1,h2.1⟩ e (λz=>nomatch z) h
 |@dT a kvs ea=>
  cases (show u=Value.ref a from rx);obtain⟨_,_,xs,_,o,es,ep,h1,h2,_⟩:=(show b6 X.prog X.w H s.heap a (.dT kvs)from I.hok a _ ea)
  exact Vt Yg I.dQ ⟨o,h1,h2.1⟩ e (λz=>nomatch z) h
 |@ins a C dx fs ea cl ha hn htk hm=>
  cases (show u=Value.ref a from rx);obtain⟨mA,O,_⟩:=Hu I.hok ea;obtain⟨od,J,_⟩:=O.look;exact Vt (PySem.W.kitx_own (cl.get _) cl.hd ha hn htk hm) I.dQ J e (λz=>nomatch z) h
end
structure fu(k:Nat)(A:Around):Prop where
 hd:A.handled=none
 dp:A.depth+3*k+5<recursionLimit
 un:A.units+16*k+200<cLine
theorem fu.deeper{k:Nat}{A:Around}(r:fu (k+1) A)(env:Env):fu k (A.deeper env):=
 ⟨r.hd,by have:=r.dp;show A.depth+1+3*k+5<_;omega,by have:=r.un;show A.units+3+16*k+200<_;omega⟩
theorem fu.depth{k:Nat}{A:Around}(r:fu k A):A.depth<recursionLimit:=by have:=r.dp;omega
theorem fu.units{k:Nat}{A:Around}(r:fu k A):A.units+64<cLine:=by have:=r.un;omega
noncomputable def Q9:TA:=λ_ H Q=>Q [] H
noncomputable def N8(ta:TE)(tr:TA):TA:=λσ H Q=>ta σ H λx H1=>tr σ H1 λxs H2=>Q (x :: xs) H2
section
variable{X:Cx}{e:Expr}{es:List Expr}{te:TE}{t:TA}{pos:Pos}
def kN:PA X [] Q9:=λ_ _ _ _ H Q I h=>W5 ⟨[],H,I,.nil,h⟩
def er(ha:PE X e te)(hr:PA X es t)(hs:starEach (e :: es) X.env=(false,eval e X.env) :: starEach es X.env:=by rfl):PA X (e :: es) (N8 te t):=by
 intro pos pins s σ H Q I h;rw[hs];show wpAny _ _ (spliced ((false,eval e X.env) :: backTo pos (starEach es X.env))) _ _ s;refine WY (aW (ha pins s σ H _ I h) λu s1 ⟨x,H1,I1,r1,q1⟩=>?_);exact aW (hr pos pins s1 σ H1 _ I1 q1) λus s2 ⟨xs,H2,I2,r2,q2⟩=>⟨x :: xs,H2,I2,.cons r1 r2,q2⟩
noncomputable def Ra(t:TA):TE:=λσ H Q=>t σ H λxs H1=>xs.length<=sizeLine/\∀p,H1 p=none->Q (.ref p) (upd H1 p (.tup xs))
noncomputable def Rb(t:TA):TE:=λσ H Q=>t σ H λxs H1=>xs.length<=sizeLine/\∀p,H1 p=none->Q (.ref p) (upd H1 p (.lst xs))
def uY{x1}(h:PA X es t):PE X (.Tuple es x1 pos) (Ra t):=by
 intro pins s σ H Q I hq;refine wpAny_Tuple_spliced (aW (h pos pins s σ H _ I hq) λus s1 ⟨xs,H1,I1,r,z,q⟩=>⟨by rw[<-r.length];exact z,?_⟩);have hf:H1 s1.heap.objs.size=none:=I1.hok.fresh (Qq _);refine⟨.ref s1.heap.objs.size,upd H1 s1.heap.objs.size (.tup xs),I1.laid (t':=s1.toks) (λb u e=>AQ _ e) (Qq _) ?_,rfl,q _ hf⟩;exact⟨z,us,r,⟨_,Vl _ rfl,rfl,_,rfl⟩⟩
def Bl(h:PA X es t):PE X (.List es pos) (Rb t):=by
 intro pins s σ H Q I hq;refine wpAny_List_spliced (aW (h pos pins s σ H _ I hq) λus s1 ⟨xs,H1,I1,r,z,q⟩=>⟨by rw[<-r.length];exact z,?_⟩);have hf:H1 s1.heap.objs.size=none:=I1.hok.fresh (Qq _);refine⟨.ref s1.heap.objs.size,upd H1 s1.heap.objs.size (.lst xs),I1.laid (t':=s1.toks) (λb u e=>AQ _ e) (Qq _) ?_,rfl,q _ hf⟩;exact⟨z,us,0,r,Vl _ rfl⟩
end
abbrev Sp:=List V->Hp->VK->XK->Prop
abbrev kO:=List Env->Hp->Shared->XK->Value->Shared->Prop
structure rG(P:Program)(w:World)(K:PySem.W.Frag)(mg:Str->Option Value)(base:Heap)(A:Around)(outer:List Env)(s:Shared)(H:Hp):Prop where
 frames:A.frames=some outer
 mod:Mod K mg base
 bs:∀b o,base.get? b=some o->s.heap.get? b=some o/\H b=none
 mJ:base.objs.size<=s.heap.objs.size
 gR:s.heap.FunFrames base outer
 o5:∀b∈frs outer,H b=none
 hok:dG P w H s.heap
 bare:AllBare s.gens
noncomputable def CE(outer:List Env)(P:Program)(w:World)(H:Hp)(s:Shared)(Q:VK)(u:Value)(s':Shared):Prop:=
 ∃v H',s'.os=s.os/\AllBare s'.gens/\Un (frs outer) [] H H' s.heap s'.heap/\dG P w H' s'.heap/\RelV v u/\Q v H'
noncomputable def CR(CX:kO)(outer:List Env)(P:Program)(w:World)(H:Hp)(s:Shared)(Q:VK)(E:XK)(r:Result)(s':Shared):Prop:=
 match r with
 |.ok (.ret u)=>CE outer P w H s Q u s'
 |.ok _=>False
 |.error e=>CX outer H s E e s'
structure eO(P:Program)(w:World)(K:PySem.W.Frag)(mg:Str->Option Value)(base:Heap)(CX:kO)(k:Nat)(f:Addr)(fd:FuncData)(ps:List Str)(sp:Sp):Prop where
 len:∀vs H Q E,sp vs H Q E->vs.length=ps.length
 run:∀(A:Around) (outer:List Env) (s:Shared) (H:Hp) (args:Args) (us:List Value) (vs:List V) (Q:VK) (E:XK),fu k A->rG P w K mg base A outer s H->BindsTo s fd args (ps.zip us)->Vals vs us->sp vs H Q E->
  codeAny (model P w) A (.call (.ref f) args) (CR CX outer P w H s Q E) s
section
variable{X:Cx}{pins:List (Addr×Obj)}{σ:St}{H:Hp}{s s':Shared}
def Inv.ko(I:Inv X pins σ H s):rG X.prog X.w X.K X.mg X.base X.A X.stack s H:=
 ⟨I.ok.frames,I.ok.mod,I.bs,Uc I.ok.mJ I.sz,I.stack,I.oA,I.hok,I.bare⟩
def Inv.after{Q:VK}{u:Value}(I:Inv X pins σ H s)(h:CE X.stack X.prog X.w H s Q u s'):EP X pins σ Q u s':=by
 obtain⟨v,H',os,bare,un,hok,r,q⟩:=h;obtain⟨hh,g,d,t,os'⟩:=s';obtain rfl:os'=s.os:=os;exact⟨v,H',I.call (h':=hh) (g':=g) (d':=d) (t':=t) (ch:=[]) un hok bare (λb z=>absurd z (by simp)),r,q⟩
end
noncomputable def N9(sp:Sp)(jI:List V)(E:XK)(t:TA):TE:=λσ H Q=>t σ H λvs H1=>sp (vs++jI) H1 Q E
noncomputable def Binds(K:PySem.W.Frag)(fd:FuncData)(ps:List Str)(ds:List Value):Prop:=
 ∀(s:Shared) (us:List Value),K.In s.heap->(us++ds).length=ps.length->BindsTo s fd ⟨us,[]⟩ (ps.zip (us++ds))
def Binds.all{K:PySem.W.Frag}{fd:FuncData}{ps:List Str}(h:∀us:List Value,us.length=ps.length->bindArgs fd ⟨us,[]⟩=pure (ps.zip us)):Binds K fd ps []:=λs us _ hl=>by
 rw[VE]at hl ⊢;exact .of_eq (h us hl)
noncomputable def Passes(CX:kO)(X:Cx)(E:XK):Prop:=∀(pins:List (Addr×Obj)) (σ:St) (H:Hp) (s:Shared) (e:Value) (s':Shared),Inv X pins σ H s->CX X.stack H s E e s'->X.xe e s'
section
variable{X:Cx}{CX:kO}{k:Nat}{f:Addr}{fd:FuncData}{ps:List Str}{sp:Sp}{jI:List V}{ds:List Value}{E:XK}{x:Str}{p pos:Pos}{e:Expr}{es:List Expr}{t:TA}
def Kp{pins:List (Addr×Obj)}{σ:St}{H:Hp}{s:Shared}{Q:VK}{us:List Value}{vs:List V}(F:eO X.prog X.w X.K X.mg X.base CX k f fd ps sp)(hr:fu k X.A)(hb:Binds X.K fd ps ds)(hd:Vals jI ds)(hx:Passes CX X E)
  (I:Inv X pins σ H s) (r:Vals vs us) (h:sp (vs++jI) H Q E):wpAny (model X.prog X.w) X.A (call (.ref f) us) (EP X pins σ Q) X.xe s:=by
 have r2:Vals (vs++jI) (us++ds):=r.append hd;have hl:(us++ds).length=ps.length:=by rw[<-r2.length];exact F.len _ _ _ _ h
 refine W6 (WE (F.run X.A X.stack s H ⟨us,[]⟩ (us++ds) (vs++jI) Q E hr I.ko (hb s us I.dQ hl) r2 h) λr s' hq=>?_);cases r with
 |error e=>exact hx pins σ H s e s' I hq
 |ok fl=>
  cases fl with
  |ret u=>exact I.after hq
  |next=>exact False.elim hq
  |brk=>exact False.elim hq
  |cont=>exact False.elim hq
def rH(F:eO X.prog X.w X.K X.mg X.base CX k f fd ps sp)(hr:fu k X.A)(hg:Gl X x)(hm:X.mg x=some (.ref f))(hk:PySem.W.keepIn X.K (.ref f)=true)(hb:Binds X.K fd ps ds)(hd:Vals jI ds)(hx:Passes CX X E)
  (ha:PA X (e :: es) t) (hdb:(x==("__debug__" : Str))=false:=by decide) (he:starEach (e :: es) X.env=(false,eval e X.env) :: starEach es X.env:=by rfl) (hpl:(backTo pos (starEach es X.env)).any (·.1)=false:=by rfl) :
  PE X (.Call (.Name x p) (e :: es) [] pos) (N9 sp jI E t):=by
 intro pins s σ H Q I h;refine V7 (oE I hg hm ?_ hdb);refine Yb (h₀:=X.base) I.ok.mod.cO hk (aW (ha pos pins s σ H _ I h) λus s1 ⟨vs,H1,I1,r,q⟩=>⟨I1.dQ,?_⟩) he hpl;exact Kp F hr hb hd hx I1 r q
end
structure bC(N P:List Str)(sc:Scope):Prop where
 kind:sc.kind=.function
 co:sc.isCoroutine=false
 gen:sc.isGenerator=false
 nd:N.Nodup
 pre:N.take P.length=P
 par:∀x∈P,sc.names.lookup x=some .local\/sc.names.lookup x=some .cell
 Kq:∀y∈sc.names,y.2≠.free
theorem tF{kindOf:Str->Option NameKind}{x:Str}:∀{binds:List (Str×Value)}{m:Str->Option Value},(∀v,(x,v)∉binds)->bindL kindOf binds m x=m x
 |[],_,_=>rfl
 | (n,v) :: r,m,h=>by
  unfold bindL;rw[tF λw hw=>h w (Vh _ hw)];split
  .have:x≠n:=by rintro rfl;exact h v Vv
   simp[this]
  .rfl
theorem tG{kindOf:Str->Option NameKind}{x:Str}:∀{binds:List (Str×Value)}{m:Str->Option Value},(∀v,(x,v)∉binds)->bindC kindOf binds m x=m x
 |[],_,_=>rfl
 | (n,v) :: r,m,h=>by
  unfold bindC;rw[tG λw hw=>h w (Vh _ hw)];split
  .rfl
  .have:x≠n:=by rintro rfl;exact h v Vv
   simp[this]
theorem tH{kindOf:Str->Option NameKind}{x:Str}{v:Value}:∀{P:List Str}{vs:List Value}{i:Nat}{m:Str->Option Value},P.Nodup->P[i]?=some x->vs[i]?=some v->kindOf x=some .local->
  bindL kindOf (P.zip vs) m x=some v
 |[],_,_,_,_,h,_,_=>by simp at h
 |_ :: _,[],_,_,_,_,h,_=>by simp at h
 |p :: P,w :: vs,0,m,nd,h1,h2,hk=>by
  simp at h1 h2;subst h1;subst h2;show bindL kindOf ((p,w) :: P.zip vs) m p=_;unfold bindL;rw[tF λv hv=>(List.nodup_cons.mp nd).1 (WH hv).1,b8 hk];simp
 |p :: P,w :: vs,i+1,m,nd,h1,h2,hk=>by
  show bindL kindOf ((p,w) :: P.zip vs) m x=_;unfold bindL;exact tH (i:=i) (List.nodup_cons.mp nd).2 (by simpa using h1) (by simpa using h2) hk
theorem tK{kindOf:Str->Option NameKind}{x:Str}{v:Value}:∀{P:List Str}{vs:List Value}{i:Nat}{m:Str->Option Value},P.Nodup->P[i]?=some x->vs[i]?=some v->kindOf x≠some .local->
  bindC kindOf (P.zip vs) m x=some v
 |[],_,_,_,_,h,_,_=>by simp at h
 |_ :: _,[],_,_,_,_,h,_=>by simp at h
 |p :: P,w :: vs,0,m,nd,h1,h2,hk=>by
  simp at h1 h2;subst h1;subst h2;show bindC kindOf ((p,w) :: P.zip vs) m p=_;unfold bindC;rw[tG λv hv=>(List.nodup_cons.mp nd).1 (WH hv).1,SA hk];simp
 |p :: P,w :: vs,i+1,m,nd,h1,h2,hk=>by
  show bindC kindOf ((p,w) :: P.zip vs) m x=_;unfold bindC;exact tK (i:=i) (List.nodup_cons.mp nd).2 (by simpa using h1) (by simpa using h2) hk
noncomputable def start(N:List Str)(vs:List V):St:=vs.map some++List.replicate (N.length - vs.length) none
noncomputable def jf(CX:kO)(P:Program)(w:World)(K:PySem.W.Frag)(mg:Str->Option Value)(base:Heap)(N:List Str)(qual:Str)(scope:Scope)(f:Addr)(cd:Value)(A:Around)(outer:List Env)(s:Shared)(H:Hp)(E:XK):Cx where
 prog:=P
 w:=w
 K:=K
 mg:=mg
 base:=base
 A:=A.deeper (envOfC qual scope s.heap.objs.size f cd)
 N:=N
 s₀:=s
 H₀:=H
 env:=envOfC qual scope s.heap.objs.size f cd
 outer:=outer
 stack:=envOfC qual scope s.heap.objs.size f cd :: outer
 ex:=[]
 calm:=true
 fn:=λ_=>true
 pn:=[]
 xe:=λe s'=>wpAny (model P w) (A.deeper (envOfC qual scope s.heap.objs.size f cd)) (leaving (envOfC qual scope s.heap.objs.size f cd) e) (λ_ s''=>CX outer H s E e s'') (λe' s''=>CX outer H s E e' s'') s'
def uZ{sc:Scope}{n:Nat}{x:Str}(h:sc.names.lookup x=some .cell):∃c,(cellsFrom n sc.names []).lookup x=some c:=by
 have q:=Wv sc.names n [] (.inl h);exact Option.isSome_iff_exists.mp q
def tL{CX:kO}{P:Program}{w:World}{K:PySem.W.Frag}{mg:Str->Option Value}{base:Heap}{N ps:List Str}{qual:Str}{scope:Scope}{f:Addr}{cd:Value}{A:Around}{outer:List Env}{s s1:Shared}{H:Hp}{E:XK}{us:List Value}{vs:List V}
  (S:bC N ps scope) (hd:A.handled=none) (e0:rG P w K mg base A outer s H) (hl:vs.length=ps.length) (r:Vals vs us)
  (x:InCallC s s.heap.objs.size (bindL (envOfC qual scope s.heap.objs.size f cd).kindOf (ps.zip us) λ_=>none) (cellsFrom (s.heap.objs.size+1) scope.names []) (bindC (envOfC qual scope s.heap.objs.size f cd).kindOf (ps.zip us) λ_=>none) s1) :
  Inv (jf CX P w K mg base N qual scope f cd A outer s H E) [] (start N vs) H s1:=by
 have hpl:ps.length<=N.length:=by have:=Vd List.length S.pre;rw[Vz]at this;omega
 obtain⟨h1,tk,rfl,hk⟩:=x.done;have Bm:∀b:Addr,b∉(jf CX P w K mg base N qual scope f cd A outer s H E).ex:=λb z=>absurd (show b∈([]:List Addr)from z) (by simp);refine⟨⟨e0.mod,S.kind,rfl,rfl,Qq _,λy z c h1 h2=>?_,λy hy=>?_,λy c _ h=>?_,λ_=>hd,Around.frames_deeper e0.frames,.inr ⟨rfl,rfl⟩,λb z=>absurd z (Bm b),e0.bs,e0.mJ,λb _ _=>Bm b,λb z=>absurd z (Bm b),e0.gR,e0.o5⟩,
  rfl,e0.bare,Un.kept hk,⟨_,x.toInCall.ns,λi y v h1 h2 h3=>?_⟩,λy c h=>⟨_,x.cell y c h⟩,e0.hok.fresh (Qq _),λy c h=>?_,λp hp=>absurd (show p∈([]:List (Addr×Obj))from hp) (by simp),e0.hok.kept hk,?_⟩
 .exact name_of_addr x.apart (V2 h1) (V2 h2)
 .have hy:scope.names.lookup y=some .cell\/scope.names.lookup y=some .free:=hy;rcases hy with hy|hy
  .exact uZ hy
  .exact absurd rfl (S.Kq _ (V2 hy))
 .exact X5 (x.above y c (V2 h))
 .have hi:i<vs.length:=by
   unfold start at h2;by_cases hi:i<vs.length
   .exact hi
   .rw[VX (by simpa using hi)]at h2;rw[Xj]at h2;split at h2<;>cases h2
  have ha:vs[i]?=some v:=by
   unfold start at h2;rw[wW (by simpa using hi),Vq]at h2;cases e:vs[i]? with
   |none=>rw[e]at h2;cases h2
   |some a=>rw[e]at h2;cases h2;rfl
  obtain⟨u,hu,rv⟩:=r.get ha;have hp:ps[i]?=some y:=by
   rw[<-S.pre,List.getElem?_take_of_lt (by omega)];exact h1
  have PU:ps.Nodup:=by rw[<-S.pre];exact S.nd.sublist (List.take_sublist _ _)
  refine⟨u,rv,?_⟩;rcases S.par y (Vr hp)with k|k
  .exact .inl ⟨k,tH PU hp hu k⟩
  .obtain⟨c,e⟩:=uZ (n:=s.heap.objs.size+1) k;refine .inr ⟨.inl k,c,e,?_⟩;have q:=x.cell y c e;rw[tK PU hp hu (by show scope.names.lookup y≠_;rw[k];decide)]at q;exact q
 .exact e0.hok.fresh (X5 (x.above y c (V2 h)))
 .unfold start;show _=N.length;rw[Ve,Vm,List.length_replicate];omega
def Ft{CX:kO}{P:Program}{w:World}{K:PySem.W.Frag}{mg:Str->Option Value}{base:Heap}{k:Nat}{f:Addr}{name qual:Str}{params:Arguments}{body:List Stmt}{scope:Scope}{dV kV doc pm cdv ct oc:Value}{an od:Option Addr}
  {osl:Array (Option Value)} {N ps:List Str} {sp:Sp} (lk:K.lookup f=some ⟨oc,od,.func (PySem.W.fnOf name qual params body scope dV kV doc pm an cdv ct),osl⟩) (hcd:PySem.W.codeIn K cdv qual=true) (S:bC N ps scope)
  (len:∀vs H Q E,sp vs H Q E->vs.length=ps.length)
  (hbody:∀(A:Around) (outer:List Env) (s:Shared) (H:Hp) (vs:List V) (Q:VK) (E:XK),fu k (A.deeper (envOfC qual scope s.heap.objs.size f cdv))->sp vs H Q E->
   ∃t,eX (jf CX P w K mg base N qual scope f cdv A outer s H E) body t/\t { nx:=λ_ H'=>Q .bf H',rt:=Q } (start N vs) H) :
  eO P w K mg base CX (k+1) f (PySem.W.fnOf name qual params body scope dV kV doc pm an cdv ct) ps sp:=by
 refine⟨len,λA outer s H args us vs Q E hr e0 hb r eZ=>?_⟩;have hl:=len _ _ _ _ eZ;have KX:K.In s.heap:=e0.mod.cO.keeps λb o e=>(e0.bs b o e).1;have lim:s.heap.NoLimit:=e0.mod.nolimit.keeps λb o e=>(e0.bs b o e).1;have hkind:∀y∈ps.zip us,scope.names.lookup y.1=some .local\/(scope.names.lookup y.1=some .cell/\((cellsFrom (s.heap.objs.size+1) scope.names []).lookup y.1).isSome=true):=λ⟨n,v⟩ hy=>by
  rcases S.par n (WH hy).1 with q|q
  .exact .inl q
  .exact .inr ⟨q,Wv _ _ _ (.inl q)⟩
 refine Xz hr.depth (KX _ _ lk) rfl S.co S.gen rfl (X8 KX hcd) (hb _ _ _ _ ?_);refine WZ S.kind hkind λenv he s1 x=>?_;subst he;refine⟨lim.keeps x.toInCall.keep,codeAny_func ?_⟩;obtain⟨t,ht,hq⟩:=hbody A outer s H vs Q E (hr.deeper _) eZ;have I:Inv (jf CX P w K mg base N qual scope f cdv A outer s H E) [] (start N vs) H s1:=tL S hr.hd e0 hl r x;refine Uo (ht [] s1 (start N vs) H _ I hq) (λfl s' hs=>?_) λe s' hs=>hs;have fin:∀{σ':St} {H':Hp} {v:V} {u:Value},Inv (jf CX P w K mg base N qual scope f cdv A outer s H E) [] σ' H' s'->RelV v u->Q v H'->CE outer P w H s Q u s':=
  λ{σ' H' v u} J rv q=>⟨v,H',J.os,J.bare,J.base,J.hok,rv,q⟩
 cases fl with
 |ret u=>
  obtain⟨v,σ',H',J,rv,q⟩:=hs;exact fin J rv q
 |next=>
  obtain⟨σ',H',J,q⟩:=hs;exact fin (v:=V.bf) (u:=Value.none) J rfl q
 |brk=>
  obtain⟨_,_,_,q⟩:=hs;exact False.elim q
 |cont=>
  obtain⟨_,_,_,q⟩:=hs;exact False.elim q
section
variable{X:Cx}{x:Str}{p pos:Pos}{e:Expr}{es:List Expr}{t:TA}{id T:String}{r:List V->Hp->VK->Prop}
noncomputable def Kr(r:List V->Hp->VK->Prop)(t:TA):TE:=λσ H Q=>t σ H λvs H1=>r vs H1 Q
def pO (hc:fM X (.builtin id) r) (hg:Gl X x) (hm:X.mg x=none) (hv:bootBuiltins x=some (.builtin id)) (ha:PA X (e :: es) t) (hn:x≠"__name__" :=by decide) (hdb:(x==("__debug__" : Str))=false:=by decide)
  (he:starEach (e :: es) X.env=(false,eval e X.env) :: starEach es X.env:=by rfl) (hpl:(backTo pos (starEach es X.env)).any (·.1)=false:=by rfl):PE X (.Call (.Name x p) (e :: es) [] pos) (Kr r t):=by
 intro pins s σ H Q I h;refine V7 (mQ I hg hm hv ?_ hn hdb);exact PyProof.Rows.callWith_builtin1 (aW (ha pos pins s σ H _ I h) λus s1 ⟨vs,H1,I1,r1,q1⟩=>hc pins s1 σ H1 vs us Q I1 r1 q1) he hpl
def mV (hc:fM X (.type T) r) (hg:Gl X x) (hm:X.mg x=none) (hv:bootBuiltins x=some (.type T)) (ha:PA X (e :: es) t) (hn:x≠"__name__" :=by decide) (hdb:(x==("__debug__" : Str))=false:=by decide)
  (he:starEach (e :: es) X.env=(false,eval e X.env) :: starEach es X.env:=by rfl) (hpl:(backTo pos (starEach es X.env)).any (·.1)=false:=by rfl):PE X (.Call (.Name x p) (e :: es) [] pos) (Kr r t):=by
 intro pins s σ H Q I h;refine V7 (mQ I hg hm hv ?_ hn hdb);exact Wb (aW (ha pos pins s σ H _ I h) λus s1 ⟨vs,H1,I1,r1,q1⟩=>hc pins s1 σ H1 vs us Q I1 r1 q1) he hpl
end
end L2
namespace HT
open PySem PyProof.Rows
section
variable{prog:Program}{w:World}{A:Around}{E:Value->Shared->Prop}{s:Shared}
def Hv{t b:Addr}{vs ws:List Value}{Q:Value->Shared->Prop}(ht:IsTup s.heap t vs.toArray)(hb:IsTup s.heap b ws.toArray)(hv:vs≠[])
  (h1:ws=[]->Q (.ref t) s) (h2:ws≠[]->Q (.ref s.heap.objs.size) { s with heap:=s.heap.push { cls:=.type "tuple",data:=.seq (vs++ws).toArray }})
  (hsz:vs.length+ws.length<=sizeLine):wpAny (model prog w) A (binaryOp .Add (.ref t) (.ref b)) Q E s:=by
 obtain⟨⟨cls,dd,data,sl⟩,ho,hc,n,hd⟩:=id ht;obtain⟨⟨Rc,dd2,data2,sl2⟩,ho2,hc2,n2,hd2⟩:=id hb;simp only at hc hd hc2 hd2;subst hc hd hc2 hd2;have e:vs.toArray++ws.toArray=(vs++ws).toArray:=by simp
 by_cases hw:ws=[]
 .exact X3 ⟨_,ho,rfl⟩ ⟨_,ho2,rfl⟩ Xe XS Wx Ws (Wm _ _)
   (tuple_addW1 t b vs.toArray ws.toArray n n2 dd dd2 sl sl2 (by simpa using hv) (by simp[hw])) ⟨ho,ho2,h1 hw⟩
 .refine X3 ⟨_,ho,rfl⟩ ⟨_,ho2,rfl⟩ Xe XS Wx Ws (Wm _ _)
   (tuple_addW2 t b vs.toArray ws.toArray n n2 dd dd2 sl sl2 (by simpa using hv) (by simpa using hw) (by rw[Nb,Nb];exact hsz)) ⟨ho,ho2,?_⟩
  rw[e];exact h2 hw
noncomputable def aI(n d:Nat):Option Int->Nat
 |none=>d
 |some v=>if v<0 then (v+(n:Int)).toNat else min v.toNat n
def u0(n d:Nat)(hd:d<=n)(o:Option Int):aI n d o<=n:=by
 cases o with
 |none=>exact hd
 |some v=>
  show(if v<0 then (v+(n:Int)).toNat else min v.toNat n)<=n;by_cases hv:v<0
  .rw[b8 hv];omega
  .rw[SA hv];exact Nat.min_le_right _ _
def yh(v:Int)(n d:Nat):(if v<0 then max (v+(n:Int)) 0 else min v (n:Int))=((aI n d (some v):Nat):Int):=by
 show(if v<0 then max (v+(n:Int)) 0 else min v (n:Int))=(((if v<0 then (v+(n:Int)).toNat else min v.toNat n):Nat):Int)
 by_cases hv:v<0
 .simp only[b8 hv];omega
 .simp only[SA hv];omega
def zT(lo hi:Option Int)(n:Nat):Builtin.Slice.sliceAdjust lo hi 1 (n:Int)=(((aI n 0 lo:Nat):Int),((aI n n hi:Nat):Int)):=by
 have h1:¬ ((1:Int)<0):=by omega
 unfold Builtin.Slice.sliceAdjust;simp only[h1,VG];refine Prod.ext ?_ ?_
 .cases lo with
  |none=>rfl
  |some v=>exact yh v n 0
 .cases hi with
  |none=>rfl
  |some v=>exact yh v n n
def zU(i j:Nat):Builtin.Slice.slicePlaces (i:Int) (j:Int) 1=j - i:=by
 unfold Builtin.Slice.slicePlaces;have h1:(1:Int) > 0:=by omega
 simp only[h1,Vj,Int.ediv_one];split<;>omega
def qu{v:Value}{o:Option Int}{Q:Option Int->Shared->Prop}(p:IsPart v o)(h:Q o s):wpAny (model prog w) A (Builtin.Slice.slicePartIndex v) Q E s:=by
 cases p with
 |none=>exact slicePart_none h
 |int i t=>exact slicePart_int h
def jJ{sl:Addr}{vl vu:Value}{lo hi:Option Int}{n:Nat}{Q:Int×Int×Nat->Shared->Prop}(hs:s.heap.IsSliceOf sl vl vu .none)(pl:IsPart vl lo)(pu:IsPart vu hi)
  (h:Q (((aI n 0 lo:Nat):Int),1,aI n n hi - aI n 0 lo) s):wpAny (model prog w) A (Builtin.Slice.sliceApplied (.ref sl) (pure (n:Int))) Q E s:=by
 obtain⟨os,hos,hcs,hds⟩:=id hs;unfold Builtin.Slice.sliceApplied Builtin.Slice.sliceFields;refine bP (bP (We hos hds (x:=vl) rfl (bP (We hos hds (x:=vu) rfl (bP (We hos hds (x:=.none) rfl (EZ ?_)))))));refine bP (slicePart_none ?_);show wpAny _ _ (if ((1:Int)==0)=true then _ else _) _ _ s;rw[SA (by decide)];refine bP (qu pl (bP (qu pu (bP (EZ ?_)))));show wpAny _ _ (match Builtin.Slice.sliceAdjust lo hi 1 (n:Int)with | (lo,hi)=>pure (lo,(1:Int),Builtin.Slice.slicePlaces lo hi 1)) _ _ s;rw[zT lo hi n];show wpAny _ _ (pure (((aI n 0 lo:Nat):Int),(1:Int),Builtin.Slice.slicePlaces ((aI n 0 lo:Nat):Int) ((aI n n hi:Nat):Int) 1)) _ _ s;rw[zU];exact EZ h
def Dy(xs:Array Value)(i k:Nat):((List.range k).filterMap λ(m:Nat)=>xs[((i:Int)+(m:Int)*1).toNat]?).toArray=((xs.toList.drop i).take k).toArray:=by
 have e:(λ(m:Nat)=>xs[((i:Int)+(m:Int)*1).toNat]?)=λm=>xs[i+m]?:=by
  funext m
  have:((i:Int)+(m:Int)*1).toNat=i+m:=by omega
  rw[this]
 rw[e];have:=pick_run xs i k;rw[List.filterMap_map]at this;have e2:((λx=>xs[x]?) ∘ λx=>i+x)=λm=>xs[i+m]?:=rfl;rw[e2]at this;rw[this]
def o4{t sl:Addr}{items:Array Value}{vl vu:Value}{lo hi:Option Int}{Q:Value->Shared->Prop}(ht:IsTup s.heap t items)(hs:s.heap.IsSliceOf sl vl vu .none)(pl:IsPart vl lo)(pu:IsPart vu hi)
  (hw:¬ (aI items.size 0 lo=0/\aI items.size items.size hi=items.size))
  (h:Q (.ref s.heap.objs.size) { s with heap:=s.heap.push { cls:=.type "tuple",data:=.seq ((items.toList.drop (aI items.size 0 lo)).take (aI items.size items.size hi - aI items.size 0 lo)).toArray }})
  (hsz:items.size<=sizeLine):wpAny (model prog w) A (getItem (.ref t) (.ref sl)) Q E s:=by
 have uG:sizeOk (.seq ((items.toList.drop (aI items.size 0 lo)).take (aI items.size items.size hi - aI items.size 0 lo)).toArray):=by
  show((items.toList.drop (aI items.size 0 lo)).take (aI items.size items.size hi - aI items.size 0 lo)).toArray.size<=sizeLine;rw[Nb,Vz,VN,WO];omega
 have hj:aI items.size items.size hi<=items.size:=u0 _ _ (Qq _) hi;obtain⟨os,hos,hcs,hds⟩:=id hs;have Ks:s.TypeIs (.ref sl) "slice" :=⟨os,hos,hcs⟩
 unfold getItem;try with_reducible refine Wz ?_
 first|refine bP (EZ ?_)|skip
 refine bP (wpAny_sequenceKey ht.typeIs (by decide) ?_);refine bP (Xi (name:=Str.ofString "__getitem__") ht.typeIs VI
  (Xd VI ht.typeIs entry_tuple_getitem ?_ (args_tuple_getitem _ _)))
 show wpAny _ _ (Builtin.Tuple.tupleItemsOf (.ref t) >>= _) _ _ s;refine bP (tupleItemsOf_ ht ?_);refine bP (XZ Ks ?_);rw[b8 (by decide)];refine bP (jJ hs pl pu ?_);have hno:¬ ((((aI items.size 0 lo:Nat):Int)==0&&(1:Int)==1&&(aI items.size items.size hi - aI items.size 0 lo)==items.size)=true):=by
  intro q;rw[gQ,gQ]at q;have q1:((aI items.size 0 lo:Nat):Int)=0:=eq_of_beq q.1.1;have q2:aI items.size items.size hi - aI items.size 0 lo=items.size:=eq_of_beq q.2;exact hw ⟨by omega,by omega⟩
 show wpAny _ _ (if (((aI items.size 0 lo:Nat):Int)==0&&(1:Int)==1&&(aI items.size items.size hi - aI items.size 0 lo)==items.size)=true then _ else _) _ _ s;rw[SA hno,Dy];first
  |exact bP (m:=Builtin.Tuple.tupleExact _) (VZ (EZ ⟨_,rfl,EZ h⟩) uG)
  |exact bP (m:=Builtin.Tuple.tupleExact _) (VZ (bP (EZ (EZ ⟨_,rfl,EZ h⟩))) uG)
  |exact bP (bP (m:=Builtin.Tuple.tupleExact _) (VZ (EZ (EZ ⟨_,rfl,EZ h⟩)) uG))
  |exact bP (bP (m:=Builtin.Tuple.tupleExact _) (VZ (EZ ⟨_,rfl,EZ h⟩) uG))
end
end HT
namespace L2
open PySem PySem.Spec PyProof.Rows
abbrev TO:=St->Hp->(Option Int->Hp->Prop)->Prop
noncomputable def PO(X:Cx)(e:Option Expr)(t:TO):Prop:=
 ∀(pins:List (Addr×Obj)) (s:Shared) (σ:St) (H:Hp) (Q:Option Int->Hp->Prop),Inv X pins σ H s->t σ H Q->
  wpAny (model X.prog X.w) X.A (evalPart e X.env) (λu s'=>∃o H',Inv X pins σ H' s'/\IsPart u o/\Q o H') X.xe s
noncomputable def Hw:TO:=λ_ H Q=>Q none H
noncomputable def Oa(t:TE):TO:=λσ H Q=>t σ H λx H1=>∃i,x=.int i/\Q (some i) H1
section
variable{X:Cx}{e:Expr}{te:TE}{lo hi:Option Expr}{tl th:TO}{pos p2:Pos}
def Hx:PO X none Hw:=by
 intro pins s σ H Q I h;rw[evalPart_none];exact EZ ⟨none,H,I,.none,h⟩
def Hy(h:PE X e te):PO X (some e) (Oa te):=by
 intro pins s σ H Q I hw;rw[evalPart_some];refine aW (h pins s σ H _ I hw) λu s1 ⟨x,H1,I1,r1,q1⟩=>?_;obtain⟨i,rfl,q⟩:=q1;obtain⟨t,rfl⟩:=r1;exact⟨some i,H1,I1,.int i t,q⟩
noncomputable def kP(X:Cx)(r:V->Option Int->Option Int->Hp->VK->Prop):Prop:=
 ∀(pins:List (Addr×Obj)) (s:Shared) (σ:St) (H:Hp) (x:V) (v vl vu:Value) (lo hi:Option Int) (sl:Addr) (Q:VK),Inv X pins σ H s->RelV x v->s.heap.IsSliceOf sl vl vu .none->IsPart vl lo->IsPart vu hi->r x lo hi H Q->
  ∃T id,typeLookup (.type T) "__getitem__" = pure (some (.builtin id))/\s.TypeIs v T/\wpAny (model X.prog X.w) X.A (getItem v (.ref sl)) (EP X pins σ Q) X.xe s
noncomputable def SJ(r:V->Option Int->Option Int->Hp->VK->Prop)(te:TE)(tl th:TO):TE:=λσ H Q=>te σ H λx H1=>tl σ H1 λl H2=>th σ H2 λu H3=>r x l u H3 Q
def Dz{r:V->Option Int->Option Int->Hp->VK->Prop}(hr:kP X r)(he:PE X e te)(hl:PO X lo tl)(hu:PO X hi th):PE X (.Subscript e (.Slice lo hi none p2) pos) (SJ r te tl th):=by
 intro pins s σ H Q I h;refine Subscript_ (aW (he pins s σ H _ I h) λv s1 ⟨x,H1,I1,r1,q1⟩=>?_);refine wpAny_Slice (aW (hl pins s1 σ H1 _ I1 q1) λvl s2 ⟨l,H2,I2,pl,q2⟩=>aW (hu pins s2 σ H2 _ I2 q2) λvu s3 ⟨u,H3,I3,pu,q3⟩=>?_);rw[evalPart_none];refine EZ ?_;have I4:Inv X pins σ H3 { s3 with heap:=s3.heap.push { cls:=.type "slice",data:=.fields #[vl,vu,.none]}}:=I3.kept (t':=s3.toks) λb ob q=>AQ _ q;obtain⟨T,id,hT,ht,hg⟩:=hr pins { s3 with heap:=s3.heap.push { cls:=.type "slice",data:=.fields #[vl,vu,.none]}} σ H3 x v vl vu l u s3.heap.objs.size Q I4 r1 (Heap.IsSliceOf.new ..) pl pu q3;show wpAny (model X.prog X.w) X.A (subscriptTail e (.Slice lo hi none p2) v (.ref s3.heap.objs.size)) (EP X pins σ Q) X.xe { s3 with heap:=s3.heap.push { cls:=.type "slice",data:=.fields #[vl,vu,.none]}};exact tail_any (ops:=[.ref s3.heap.objs.size,v]) ht hT hg (by with_unfolding_all rfl)
noncomputable def mW(xs:List V)(lo hi:Option Int):List V:=(xs.drop (HT.aI xs.length 0 lo)).take (HT.aI xs.length xs.length hi - HT.aI xs.length 0 lo)
def o7(xs:List V)(lo hi:Option Int):(mW xs lo hi).length<=xs.length:=by
 unfold mW;rw[Vz,VN];omega
noncomputable def Rf(K:PySem.W.Frag):V->Option Int->Option Int->Hp->VK->Prop:=λx lo hi H Q=>∃a xs,x=.ref a/\dH K H a xs/\
 ¬ (HT.aI xs.length 0 lo=0/\HT.aI xs.length xs.length hi=xs.length)/\∀p,H p=none->Q (.ref p) (upd H p (.tup (mW xs lo hi)))
def Ku:kP X (Rf X.K):=by
 intro pins s σ H x v vl vu lo hi sl Q I rx hs pl pu h;obtain⟨a,xs,rfl,hx,hw,q⟩:=h;cases rx;obtain⟨its,r,ht,hz⟩:=I.tuple hx;have hlen:its.toArray.size=xs.length:=by rw[Nb];exact r.length.symm
 refine⟨"tuple",_,PyProof.Rows.slot_tuple_getitem.lookup,ht.typeIs,?_⟩;refine HT.o4 ht hs pl pu (by rw[hlen];exact hw) ?_ (by rw[hlen];exact hz);rw[hlen];refine⟨.ref s.heap.objs.size,_,I.laid (t':=s.toks) (o:=.tup (mW xs lo hi)) (λb ob q=>AQ _ q) (Qq _) ?_,rfl,q _ (I.hok.fresh (Qq _))⟩;exact⟨Uc (o7 xs lo hi) hz,_,(r.drop (HT.aI xs.length 0 lo)).take (HT.aI xs.length xs.length hi - HT.aI xs.length 0 lo),IsTup.new _ _⟩
noncomputable def Ob(K:PySem.W.Frag):R2:=λx y H Q=>∃a b xs ys,x=.ref a/\y=.ref b/\dH K H a xs/\dH K H b ys/\xs≠[]/\xs.length+ys.length<=sizeLine/\
 (ys=[]->Q (.ref a) H)/\(ys≠[]->∀p,H p=none->Q (.ref p) (upd H p (.tup (xs++ys))))
def Vals.rJ{xs:List V}{us:List Value}(r:Vals xs us):us=[]↔xs=[]:=by
 cases r with
 |nil=>simp
 |cons _ _=>simp
def Hz:cH X (binaryOp .Add) (Ob X.K):=by
 intro pins s σ H x y v u Q I rx ry h;obtain⟨a,b,xs,ys,rfl,rfl,ha,hb,hx,hz,q1,q2⟩:=h;cases rx;cases ry;obtain⟨its,r1,p1,_⟩:=I.tuple ha;obtain⟨its2,r2,p2,_⟩:=I.tuple hb;refine HT.Hv p1 p2 (λz=>hx (r1.rJ.mp z)) (λz=>⟨.ref a,H,I,rfl,q1 (r2.rJ.mp z)⟩) (λz=>?_) (by rw[<-r1.length,<-r2.length];exact hz);refine⟨.ref s.heap.objs.size,_,I.laid (t':=s.toks) (o:=.tup (xs++ys)) (λb ob q=>AQ _ q) (Qq _) ?_,rfl,q2 (λw=>z (r2.rJ.mpr w)) _ (I.hok.fresh (Qq _))⟩;exact⟨by rw[Ve];exact hz,_,r1.append r2,IsTup.new _ _⟩
end
noncomputable def cK(n:Nat)(i:Int):Option Nat:=if 0<=i then (if i<n then some i.toNat else none)else if -(n:Int)<=i then some (i+n).toNat else none
noncomputable def bg{α:Type}(xs:List α)(i:Int):Option α:=(cK xs.length i).bind λj=>xs[j]?
def HA{n:Nat}{i:Int}{j:Nat}(h:cK n i=some j):seqIndex? i n=some j/\j<n/\-(n:Int)<=i/\i<n:=by
 unfold cK at h;by_cases h0:0<=i
 .rw[b8 h0]at h;by_cases h1:i<n
  .rw[b8 h1]at h;have e:i.toNat=j:=lz h;exact⟨by rw[seqIndex_of h0 h1,e],by omega,by omega,h1⟩
  .rw[SA h1]at h;cases h
 .rw[SA h0]at h;by_cases h1:-(n:Int)<=i
  .rw[b8 h1]at h;have e:(i+n).toNat=j:=lz h;exact⟨by rw[seqIndex_neg (by omega) h1,e],by omega,h1,by omega⟩
  .rw[SA h1]at h;cases h
def rL{α:Type}{xs:List α}{i:Int}{v:α}(h:bg xs i=some v):∃j,seqIndex? i xs.length=some j/\xs[j]?=some v/\j<xs.length/\-(xs.length:Int)<=i/\i<xs.length:=by
 unfold bg at h;cases e:cK xs.length i with
 |none=>rw[e]at h;cases h
 |some j=>
  rw[e]at h;obtain⟨h1,h2,h3,h4⟩:=HA e;exact⟨j,h1,h,h2,h3,h4⟩
def rM{α:Type}{xs:List α}{j:Nat}{v:α}(h:xs[j]?=some v):bg xs (j:Int)=some v:=by
 have hj:j<xs.length:=(List.getElem?_eq_some_iff.mp h).1;have e:cK xs.length (j:Int)=some j:=by
  unfold cK;rw[b8 (by omega),b8 (by omega)];simp
 unfold bg;rw[e];exact h
noncomputable def rN(b:Expr):Prop:=∀o i,subscripted b false o i=operate [o,i] (getItem o i)
noncomputable def yi(X:Cx)(r:R2):Prop:=
 ∀(value slice:Expr) (pins:List (Addr×Obj)) (s:Shared) (σ:St) (H:Hp) (x y:V) (v u:Value) (Q:VK),Inv X pins σ H s->RelV x v->RelV y u->r x y H Q->
  subscripted slice false v u=operate [v,u] (getItem v u)->wpAny (model X.prog X.w) X.A (subscriptTail value slice v u) (EP X pins σ Q) X.xe s
noncomputable def qv(X:Cx)(id:String)(r:V->List V->Hp->VK->Prop):Prop:=
 ∀(pins:List (Addr×Obj)) (s:Shared) (σ:St) (H:Hp) (x:V) (xs:List V) (v:Value) (us:List Value) (Q:VK),Inv X pins σ H s->RelV x v->Vals xs us->r x xs H Q->
  wpAny (model X.prog X.w) X.A (call (.builtin id) (v :: us)) (EP X pins σ Q) X.xe s
section
variable{X:Cx}{a b:Expr}{ta tb:TE}{pos:Pos}
def Oc{r:R2}(hr:yi X r)(ha:PE X a ta)(hb:PE X b tb)(hs:rN b):PE X (.Subscript a b pos) (Bj r ta tb):=by
 intro pins s σ H Q I h;exact Subscript_ (zP ha hb I h λv u s2 x y H2 I2 rx ry q=>hr a b pins s2 σ H2 x y v u Q I2 rx ry q (hs _ _))
noncomputable def Rg(K:PySem.W.Frag):R2:=λx y H Q=>∃p xs i v,x=.ref p/\y=.int i/\eY K H p xs/\bg xs i=some v/\Q v H
noncomputable def Rh(K:PySem.W.Frag):R2:=λx y H Q=>∃p xs i v,x=.ref p/\y=.int i/\dH K H p xs/\bg xs i=some v/\Q v H
noncomputable def Ri:R2:=λx y H Q=>∃z i c,x=.str z/\y=.int i/\z.length<=sizeLine/\bg z.cps.toList i=some c/\Q (.str ⟨#[c]⟩) H
def HC:yi X (Rg X.K):=by
 intro value slice pins s σ H x y v u Q I rx ry h hs;obtain⟨p,xs,i,z,rfl,rfl,hq,he,q⟩:=h;cases rx;obtain⟨t,rfl⟩:=ry;obtain⟨its,r,pl,hz⟩:=I.list hq;obtain⟨j,h1,h2,h3,h4,h5⟩:=rL he;obtain⟨w,ew,rw'⟩:=r.get h2;have hl:=r.length;have hn:=kM;have fin:EP X pins σ Q w s:=⟨z,H,I,rw',q⟩
 by_cases h0:0<=i
 .have hj:i.toNat=j:=by
   rw[seqIndex_of h0 h5]at h1;exact lz h1
  exact item_listR pl.isList h0 (by omega) (by rw[hj];simpa using ew) fin hs
 .have hj:(i+(its.toArray.size:Int)).toNat=j:=by
   rw[seqIndex_neg (by omega) h4]at h1;rw[Nb,<-hl];exact lz h1
  exact subscriptTail_builtinR (x:=w) pl.isList.typeIs slot_list_getitem.lookup
   (wpAny_getItem_list_neg (Q:=λr s'=>r=w/\EP X pins σ Q r s') pl.isList (by omega) (by rw[Nb]<;>omega) (by omega) (by rw[hj];simpa using ew) ⟨rfl,fin⟩) hs
def Kv:yi X (Rh X.K):=by
 intro value slice pins s σ H x y v u Q I rx ry h hs;obtain⟨p,xs,i,z,rfl,rfl,hq,he,q⟩:=h;cases rx;obtain⟨t,rfl⟩:=ry;obtain⟨its,r,pl,hz⟩:=I.tuple hq;obtain⟨j,h1,h2,h3,h4,h5⟩:=rL he;obtain⟨w,ew,rw'⟩:=r.get h2;have hl:=r.length;have hn:=kM;have fin:EP X pins σ Q w s:=⟨z,H,I,rw',q⟩
 exact subscriptTail_builtinR (x:=w) pl.typeIs slot_tuple_getitem.lookup
  (getItem_tuple (j:=j) (Q:=λr s'=>r=w/\EP X pins σ Q r s') pl (by omega) (by omega) (by rw[Nb,<-hl];exact h1) (by simpa using ew) ⟨rfl,fin⟩) hs
def Kw:yi X Ri:=by
 intro value slice pins s σ H x y v u Q I rx ry h hs;obtain⟨z,i,c,rfl,rfl,hz,he,q⟩:=h;obtain⟨t,rfl⟩:=rx;obtain⟨t',rfl⟩:=ry;obtain⟨j,h1,h2,h3,h4,h5⟩:=rL he;have hl:z.cps.toList.length=z.length:=by simp[Str.length]
 rw[hl]at h1 h4 h5;have hn:=kM;exact tail_any (Wn s z t) slot_str_getitem.lookup (getItem_str (c:=c) (by
  have e1:decide (i < -(2 ^ 63:Int))=false:=Up (by omega);have e2:decide (i≥2 ^ 63)=false:=Up (by omega);rw[e1,e2,Bool.or_false]) (by rw[h1];simpa using h2) ⟨.str ⟨#[c]⟩,H,I.tok _,⟨_,rfl⟩,q⟩) hs
def u6(lo hi:Option Int)(n:Nat):(sliceBounds lo hi none n).1=((HT.aI n 0 lo:Nat):Int)/\(sliceBounds lo hi none n).2.1=((HT.aI n n hi:Nat):Int)/\(sliceBounds lo hi none n).2.2=1:=by
 refine⟨?_,?_,rfl⟩
 .cases lo with
  |none=>simp[sliceBounds,HT.aI]
  |some i=>
   simp only[sliceBounds,HT.aI,Yn,show(1:Int) > 0 by decide,Vj];by_cases h:i<0
   .simp only[h,Vj]<;>omega
   .simp only[h,VG]<;>omega
 .cases hi with
  |none=>simp[sliceBounds,HT.aI]
  |some i=>
   simp only[sliceBounds,HT.aI,Yn,show(1:Int) > 0 by decide,Vj];by_cases h:i<0
   .simp only[h,Vj]<;>omega
   .simp only[h,VG]<;>omega
def uw(its:List Value)(lo hi:Option Int):slicePick its.toArray lo hi none=((its.drop (HT.aI its.length 0 lo)).take (HT.aI its.length its.length hi - HT.aI its.length 0 lo)).toArray:=by
 obtain⟨h1,h2,h3⟩:=u6 lo hi its.toArray.size;unfold slicePick;rw[h1,h2,h3];simp only[sliceRange_one,pick_run,Nb]<;>rfl
noncomputable def Rj(K:PySem.W.Frag):V->Option Int->Option Int->Hp->VK->Prop:=λx lo hi H Q=>∃a xs,x=.ref a/\eY K H a xs/\∀p,H p=none->Q (.ref p) (upd H p (.lst (mW xs lo hi)))
def HD:kP X (Rj X.K):=by
 intro pins s σ H x v vl vu lo hi sl Q I rx hs pl pu h;obtain⟨a,xs,rfl,hx,q⟩:=h;cases rx;obtain⟨its,r,ht,hz⟩:=I.list hx;have hlen:=r.length;refine⟨"list",_,slot_list_getitem.lookup,ht.isList.typeIs,?_⟩;refine wpAny_getItem_list_slice ht.isList hs pl pu .none (by simp) ?_ (by rw[Nb]<;>omega);rw[uw,<-hlen];refine⟨.ref s.heap.objs.size,_,I.laid (t':=s.toks) (o:=.lst (mW xs lo hi)) (λb ob q=>AQ _ q) (Qq _) ?_,rfl,q _ (I.hok.fresh (Qq _))⟩;exact⟨Uc (o7 xs lo hi) hz,_,0,(r.drop (HT.aI xs.length 0 lo)).take (HT.aI xs.length xs.length hi - HT.aI xs.length 0 lo),Vl _ rfl⟩
noncomputable def uH:V->Bool
 |.bf=>true
 |.bl _=>true
 |.int _=>true
 |.str _=>true
 |_=>false
def mX:fM X (.builtin "len") (λxs H Q=>∃p ys,xs=[.ref p]/\(eY X.K H p ys\/dH X.K H p ys)/\Q (.int ys.length) H):=by
 intro pins s σ H xs us Q I r h;obtain⟨p,ys,rfl,hq,q⟩:=h;obtain⟨u,rfl,rx⟩:=WT r;cases rx;have hn:=kM;rcases hq with hq|hq
 .obtain⟨its,r',pl,hz⟩:=I.list hq;have hlen:=r'.length;exact Calls.call_len_list pl.isList (by simp only[Nb]<;>omega) ⟨.int ys.length,H,I.tok _,⟨s.toks+1,by rw[Nb,hlen]⟩,q⟩
 .obtain⟨its,r',pl,hz⟩:=I.tuple hq;have hlen:=r'.length;exact len_tuple pl (by simp only[Nb]<;>omega) ⟨.int ys.length,H,I.tok _,⟨s.toks+1,by rw[Nb,hlen]⟩,q⟩
def u7:fM X (.builtin "len") (λxs H Q=>∃z,xs=[.str z]/\z.length<=sizeLine/\Q (.int z.length) H):=by
 intro pins s σ H xs us Q I r h;obtain⟨z,rfl,hz,q⟩:=h;obtain⟨u,rfl,t,rfl⟩:=WT r;have hn:=kM;exact len_str (by omega) ⟨.int z.length,H,I.tok _,⟨_,rfl⟩,q⟩
def lX:fM X (.type "tuple") (λxs H Q=>∃p ys,xs=[.ref p]/\((eY X.K H p ys/\∀l,H l=none->Q (.ref l) (upd H l (.tup ys)))\/(dH X.K H p ys/\Q (.ref p) H))):=by
 intro pins s σ H xs us Q I r h;obtain⟨p,ys,rfl,h⟩:=h;obtain⟨u,rfl,rx⟩:=WT r;cases rx;rcases h with ⟨hq,q⟩|⟨hq,q⟩
 .obtain⟨its,r',pl,hz⟩:=I.list hq;have hlen:=r'.length;refine call_tuple_list pl.isList (λh' kp=>?_) (by simp only[Nb]<;>omega);have I1:Inv X pins σ H { s with heap:=h' }:=I.kept (t':=s.toks) kp;have I2:Inv X pins σ (upd H h'.objs.size (.tup ys)) { s with heap:=h'.push { cls:=.type "tuple",data:=.seq its.toArray }}:=
   I1.laid (t':=s.toks) (λb o e=>AQ _ e) (Qq _) (show b6 X.prog X.w _ _ _ (.tup ys)from ⟨hz,its,r',IsTup.new _ _⟩)
  exact⟨.ref h'.objs.size,_,I2,rfl,q _ (I1.hok.fresh (Qq _))⟩
 .obtain⟨its,r',pl,hz⟩:=I.tuple hq;exact call_tuple_same pl ⟨.ref p,H,I,rfl,q⟩
noncomputable def Bo(K:PySem.W.Frag)(T:String)(x:V)(H:Hp):Prop:=match x with
 |.str _=>T = "str"
 |.int _=>T = "int"
 |.ref p=>(T = "list" /\∃xs,eY K H p xs)\/(T = "tuple" /\∃o,K.lookup p=some o/\o.cls=.type "tuple" /\o.dict=none)\/
   (T = "dict" /\((∃kvs,H p=some (.dK kvs))\/∃kvs,H p=some (.dT kvs)))\/(T = "set" /\∃S n,H p=some (.set S n))
 |_=>False
def Bp{pins:List (Addr×Obj)}{σ:St}{H:Hp}{s:Shared}{T:String}{x:V}{v:Value}(I:Inv X pins σ H s)(r:RelV x v)(ty:Bo X.K T x H) :
  s.TypeIs v T/\∀a,v=.ref a->∃ob,s.heap.get? a=some ob/\ob.dict=none:=by
 cases x with
 |str z=>
  obtain⟨t,rfl⟩:=r;cases (show T = "str" from ty);exact⟨Wn s z t,λ_ e=>nomatch e⟩
 |int i=>
  obtain⟨t,rfl⟩:=r;cases (show T = "int" from ty);exact⟨W7 s i t,λ_ e=>nomatch e⟩
 |ref p=>
  cases r;rcases ty with ⟨rfl,xs,hq⟩|⟨rfl,o,hk,hc,hd⟩|⟨rfl,hk⟩|⟨rfl,S,n,hk⟩
  .obtain⟨its,_,pl,_⟩:=I.list hq;refine⟨pl.isList.typeIs,λa e=>?_⟩;cases e;obtain⟨o,n,e,c,hd,_⟩:=pl;exact⟨o,e,hd⟩
  .refine⟨⟨o,I.dQ p o hk,hc⟩,λa e=>?_⟩;cases e;exact⟨o,I.dQ _ o hk,hd⟩
  .have z:∃o,s.heap.get? p=some o/\o.ExactDict:=by
    rcases hk with ⟨kvs,hk⟩|⟨kvs,hk⟩
    .obtain⟨_,_,_,_,o,_,_,e,ex,_⟩:=I.hok p _ hk;exact⟨o,e,ex⟩
    .obtain⟨_,_,_,_,o,_,_,e,ex,_⟩:=I.hok p _ hk;exact⟨o,e,ex⟩
   obtain⟨o,e,ex⟩:=z;refine⟨⟨o,e,ex.1⟩,λa e2=>?_⟩;cases e2;exact⟨o,e,ex.2.1⟩
  .obtain⟨o,_,_,_,e,ex,_⟩:=I.hok p _ hk;refine⟨⟨o,e,ex.1⟩,λa e2=>?_⟩;cases e2;exact⟨o,e,ex.2.1⟩
 |_=>exact False.elim ty
noncomputable def Rk(K:PySem.W.Frag)(T:String)(r:V->List V->Hp->VK->Prop)(to:TE):TE:=λσ H Q=>to σ H λx H1=>Bo K T x H1/\r x [] H1 Q
noncomputable def SK(K:PySem.W.Frag)(T:String)(r:V->List V->Hp->VK->Prop)(to:TE)(t:TA):TE:=λσ H Q=>to σ H λx H1=>Bo K T x H1/\t σ H1 λxs H2=>r x xs H2 Q
variable{o e:Expr}{es:List Expr}{to:TE}{t:TA}{name:Str}{apos cpos:Pos}{T id:String}{r:V->List V->Hp->VK->Prop}
def Ky (pa:PlainAttrs T) (slot:Slot T name id) (hty:typeOf (.builtin id)=pure (.type "method_descriptor")) (hm:qv X id r) (ho:PE X o to)
  (hbase:attributeBase o name X.env (eval o X.env)=eval o X.env:=by rfl) (hline:(apos.endLine==cpos.line)=true:=by rfl):PE X (.Call (.Attribute o name apos) [] [] cpos) (Rk X.K T r to):=by
 intro pins s σ H Q I h;refine wpAny_Call_method0_late hbase hline (aW (ho pins s σ H _ I h) λv s1 ⟨x,H1,I1,r1,ty,q1⟩=>?_);obtain⟨h1,h2⟩:=Bp I1 r1 ty;exact⟨T,id,pa,slot,hty,h1,h2,Xv rfl (PySem.evalArgs_none (hm pins s1 σ H1 x [] v [] Q I1 r1 .nil q1))⟩
def Fv (pa:PlainAttrs T) (slot:Slot T name id) (hty:typeOf (.builtin id)=pure (.type "method_descriptor")) (hm:qv X id r) (ho:PE X o to) (ha:PA X (e :: es) t)
  (hbase:attributeBase o name X.env (eval o X.env)=eval o X.env:=by rfl)
  (hfew:((backTo cpos (starEach (e :: es) X.env)).all (λx=>!x.1)&&(backToKw cpos (keywordEach [] X.env)).all (λx=>x.1.isSome)
   &&decide ((e :: es).length+([]:List Keyword).length+(if ([]:List Keyword).isEmpty then 0 else 1)<30))=true:=by rfl)
  (hline:(apos.endLine==cpos.line)=true:=by rfl) (hs:starEach (e :: es) X.env=(false,eval e X.env) :: starEach es X.env:=by rfl) (hplain:(backTo cpos (starEach es X.env)).any (·.1)=false:=by rfl) :
  PE X (.Call (.Attribute o name apos) (e :: es) [] cpos) (SK X.K T r to t):=by
 intro pins s σ H Q I h;refine Wu hbase hfew hline rfl (aW (ho pins s σ H _ I h) λv s1 ⟨x,H1,I1,r1,ty,q1⟩=>?_);obtain⟨h1,h2⟩:=Bp I1 r1 ty;refine⟨T,id,pa,slot,hty,h1,h2,?_⟩;have hA:=ha cpos pins s1 σ H1 _ I1 q1;rw[hs]at hA ⊢;refine Xv (by show(false || (backTo cpos (starEach es X.env)).any (·.1))=false;rw[hplain]<;>rfl) (Calls.evalArgs_plain ?_);exact aW hA λus s2 ⟨vs,H2,I2,r2,q2⟩=>hm pins s2 σ H2 x vs v us Q I2 r1 r2 q2
end
noncomputable def PV(X:Cx)(id:String)(r:V->List V->Hp->VK->Prop):Prop:=
 ∀(pins:List (Addr×Obj)) (s:Shared) (σ:St) (H:Hp) (x:V) (xs:List V) (v:Value) (us:List Value) (Q:VK),Inv X pins σ H s->RelV x v->Vals xs us->r x xs H Q->
  wpAny (model X.prog X.w) X.A (call (.builtin id) (v :: us)) (EP X pins σ Q) X.xe s
def Vals.one:∀{x:V}{us:List Value},Vals [x] us->∃u,us=[u]/\RelV x u
 |_,_,.cons r .nil=>⟨_,rfl,r⟩
def Vals.zero:∀{us:List Value},Vals [] us->us=[]
 |_,.nil=>rfl
theorem Vals.dropLast{xs:List V}{us:List Value}(h:Vals xs us):Vals xs.dropLast us.dropLast:=by
 induction h with
 |nil=>exact .nil
 |cons r t ih=>
  cases t with
  |nil=>exact .nil
  |cons q t'=>exact .cons r ih
theorem Vals.rep{xs:List V}{us:List Value}(h:Vals xs us):∀k:Nat,Vals (List.replicate k xs).flatten (List.replicate k us).flatten
 |0=>.nil
 |k+1=>by
  rw[Vn,Vn,Vu,Vu];exact Vals.append h (Vals.rep h k)
def zV{α:Type}(l:List α):l.eraseIdx (l.length - 1)=l.dropLast:=by
 induction l with
 |nil=>rfl
 |cons a r ih=>
  cases r with
  |nil=>rfl
  |cons b r=>
   have e:(a :: b :: r).length - 1=((b :: r).length - 1)+1:=by
    have h1:(a :: b :: r).length=r.length+2:=rfl;have h2:(b :: r).length=r.length+1:=rfl;omega
   rw[e,List.eraseIdx_cons_succ,ih];all_goals rfl
theorem foldl_rep(its:List Value):∀(k:Nat) (acc:List Value),
  List.foldl (λx1 x2=>x1++x2) acc.toArray (List.replicate k its.toArray)=(acc++(List.replicate k its).flatten).toArray
 |0,acc=>by simp
 |k+1,acc=>by
  have e:acc.toArray++its.toArray=(acc++its).toArray:=by simp
  have e2:(acc++its)++(List.replicate k its).flatten=acc++(List.replicate (k+1) its).flatten:=by
   rw[Vn,Vu,W3]
  rw[<-e2,<-foldl_rep its k (acc++its),<-e,Vn,Xn]
section
variable{X:Cx}{pins:List (Addr×Obj)}{σ:St}{H:Hp}{s:Shared}{l:Addr}{xs ys:List V}
def Inv.Kz{its its':List Value}{n:Nat}{f:Array Value->Array Value}{t':Nat}(I:Inv X pins σ H s)(hH:H l=some (.lst xs))
  (e:s.heap.get? l=some { cls:=.type "list",data:=.seq its.toArray n }) (hf:f its.toArray=its'.toArray) (hv:Vals ys its') (hz:ys.length<=sizeLine) :
  Inv X pins σ (upd H l (.lst ys)) { s with heap:=s.heap.update l (Obj.mapSeq f),toks:=t' }:=by
 have q:=PySem.IsL.update e f;rw[hf]at q;refine I.write (x:=l) (e:=l) (by rw[hH];exact trivial) (.inl rfl) (λb' u hb hu=>(Wy s.heap (Obj.mapSeq f) (Wd hb)).trans hu) ⟨_,q⟩ ?_;exact⟨hz,its',_,hv,q⟩
def Inv.zW{its:List Value}{t':Nat}(I:Inv X pins σ H s)(hv:Vals ys its)(hz:ys.length<=sizeLine) :
  Inv X pins σ (upd H s.heap.objs.size (.lst ys)) { s with heap:=s.heap.push { cls:=.type "list",data:=.seq its.toArray },toks:=t' }:=
 I.laid (λ_ _ q=>AQ _ q) (Qq _) ⟨hz,its,0,hv,Vl _ rfl⟩
theorem Inv.fresh(I:Inv X pins σ H s):H s.heap.objs.size=none:=I.hok.fresh (Qq _)
def Inv.pP (I:Inv X pins σ H s) (hH:H l=some (.lst xs)):xs.length<=sizeLine/\∃(its:List Value) (n:Nat),Vals xs its/\xs.length=its.length/\s.heap.get? l=some { cls:=.type "list",data:=.seq its.toArray n }:=by
 obtain⟨z,its,n,r,e⟩:=I.hok l _ hH;exact⟨z,its,n,r,r.length,e⟩
def DA{n:Nat}(h:n<=sizeLine):Builtin.List.listTooLong n=false:=by
 unfold Builtin.List.listTooLong;exact Up (by omega)
end
section
variable{X:Cx}
noncomputable def HF:V->List V->Hp->VK->Prop:=λx vs H Q=>∃l xs y,x=.ref l/\vs=[y]/\H l=some (.lst xs)/\xs.length<sizeLine/\Q .bf (upd H l (.lst (xs++[y])))
def mY:PV X "list.append" HF:=by
 intro pins s σ H x vs v us Q I rx rv h;obtain⟨l,xs,y,rfl,rfl,hH,hz,q⟩:=h;cases rx;obtain⟨u,rfl,ru⟩:=rv.one;obtain⟨z,its,n,r,hl,e⟩:=I.pP hH;refine VP F.slot_list_append ⟨_,e,rfl⟩ F.entry_list_append (F.args_list_append_2 _ _) (PySem.list_append l its.toArray n u (by rw[Nb];omega)) ⟨e,?_⟩;refine⟨.bf,_,I.Kz (its':=its++[u]) hH e (by simp) (r.append (.cons ru .nil)) ?_,rfl,q⟩;rw[Ve,VB];omega
noncomputable def Rl:V->List V->Hp->VK->Prop:=λx vs H Q=>∃l xs y,x=.ref l/\vs=[]/\H l=some (.lst xs)/\xs[xs.length - 1]?=some y/\Q y (upd H l (.lst xs.dropLast))
def KA:PV X "list.pop" Rl:=by
 intro pins s σ H x vs v us Q I rx rv h;obtain⟨l,xs,y,rfl,rfl,hH,hy,q⟩:=h;cases rx;have SM:=rv.zero;subst SM;obtain⟨z,its,n,r,hl,e⟩:=I.pP hH;obtain⟨u,hu,ru⟩:=r.get hy;have hy':its.toArray[its.toArray.size - 1]?=some u:=by
  show its.toArray[its.length - 1]?=some u;rw[<-Array.getElem?_toList,<-hl];exact hu
 refine VP F.slot_list_pop ⟨_,e,rfl⟩ F.entry_list_pop (F.args_list_pop_1 _) (MeetsSeq.list_pop_last l its.toArray n u hy' (by rw[Nb];omega)) ⟨e,?_⟩;refine⟨y,_,I.Kz (its':=its.dropLast) hH e ?_ r.dropLast ?_,ru,q⟩
 .show its.toArray.eraseIdxIfInBounds (its.toArray.size - 1)=its.dropLast.toArray;rw[Nb,List.eraseIdxIfInBounds_toArray,zV]
 .rw[List.length_dropLast];omega
noncomputable def Rm:R2:=λx y H Q=>∃l b xs zs,x=.ref l/\y=.ref b/\H l=some (.lst xs)/\H b=some (.lst zs)/\xs.length+zs.length<=sizeLine/\∀p,H p=none->Q (.ref p) (upd H p (.lst (xs++zs)))
def KD:cH X (binaryOp .Add) Rm:=by
 intro pins s σ H x y v u Q I rx ry h;obtain⟨l,b,xs,zs,rfl,rfl,hH,hB,hz,q⟩:=h;cases rx;cases ry;obtain⟨z,its,n,r,hl,e⟩:=I.pP hH;obtain⟨z2,its2,n2,r2,hl2,e2⟩:=I.pP hB;refine PySem.P.add_list e e2 ?_ (by rw[Nb,Nb];omega);have ea:its.toArray++its2.toArray=(its++its2).toArray:=by simp
 rw[ea];exact⟨.ref _,_,I.zW (t':=s.toks) (r.append r2) (by rw[Ve];omega),rfl,q _ I.fresh⟩
noncomputable def Rn:R2:=λx y H Q=>∃l k xs,x=.ref l/\y=.int k/\H l=some (.lst xs)/\-(2 ^ 63)<=k/\k<2 ^ 63/\xs.length*k.toNat<=sizeLine/\
 ∀p,H p=none->Q (.ref p) (upd H p (.lst (List.replicate k.toNat xs).flatten))
def len_rep{α:Type}(xs:List α)(k:Nat):(List.replicate k xs).flatten.length=k*xs.length:=by
 induction k with
 |zero=>simp
 |succ k ih=>rw[Vn,Vu,Ve,ih,WG,Nat.add_comm]
def KG:cH X (binaryOp .Mult) Rn:=by
 intro pins s σ H x y v u Q I rx ry h;obtain⟨l,k,xs,rfl,rfl,hH,h1,h2,hz,q⟩:=h;cases rx;obtain⟨t,rfl⟩:=ry;obtain⟨z,its,n,r,hl,e⟩:=I.pP hH;have hlen:its.toArray.size*k.toNat<=sizeLine:=by rw[Nb,<-hl];exact hz
 have hcap:¬ its.toArray.size*k.toNat > (2 ^ 63 - 1) / 8:=by
  have:(sizeLine:Nat)<=(2 ^ 63 - 1) / 8:=by decide
  omega
 have hfit:¬ (!Builtin.List.listFitsIndex k)=true:=by
  rw[fitsIndex_both h1 h2];exact Vw
 have Od:¬ Builtin.List.listTooLong (its.toArray.size*k.toNat)=true:=by
  rw[DA hlen];exact Vw
 have hnew:List.foldl (λx1 x2=>x1++x2) #[] (List.replicate (if its.toArray.isEmpty=true then 0 else k.toNat) its.toArray)=(List.replicate k.toNat its).flatten.toArray:=by
  have f0:∀m:Nat,List.foldl (λx1 x2=>x1++x2) #[] (List.replicate m its.toArray)=(List.replicate m its).flatten.toArray:=λm=>by
   have:=foldl_rep its m [];rw[V6]at this;exact this
  rw[f0];cases its with
  |nil=>simp
  |cons a r'=>rw[SA (by simp)]
 refine W8 (T:="list") (U:="int") (by decide) ⟨_,e,rfl⟩ (λs'=>W7 s' k t) noFill_list_mul F.fills_int_mul F.slot_int_rmul repeat_list F.slot_int_index.lookup
  (VP F.slot_int_rmul (W7 s k t) F.entry_int_rmul (F.args_int_rmul_2 _ _) (int___rmul___int_list k t l its.toArray n)
   ⟨e,rfl,⟨_,e,rfl⟩,VP F.slot_list_mul ⟨_,e,rfl⟩ F.entry_list_mul (F.args_list_mul_2 _ _) (AutoListH.list___mul___list_int_3 l its.toArray n k t hfit hcap Od) ⟨e,?_⟩⟩)
 rw[hnew];exact⟨.ref _,_,I.zW (t':=s.toks) (r.rep k.toNat) (by rw[len_rep,Nat.mul_comm];exact hz),rfl,q _ I.fresh⟩
end
end L2
namespace PX
open PySem PySem.W PySem.Calls PyProof.Rows
def qw{P:Params}{h:Heap}:∀(ns:List Int) (vs:List Value),WellAll P h vs (ns.map WData.int)->IntsAre vs ns:=by
 intro ns;induction ns with
 |nil=>
  intro vs w;rw[Wj]at w;cases w;exact .nil
 |cons n ns ih=>
  intro vs w;rw[wX]at w;cases w with
  |cons a b=>
   cases a;exact .cons _ _ (ih _ b)
def Bq{l:OpenLaw}{n:Nat}(hn:l.most=some n){P:Params}{h:Heap}{args:List WData}{vals:List Value}
  (hpre:l.row.toRowW.claim.pre args=true) (hwl:WellAll P h vals args) :
  ∃a vs ns,vals=[Value.ref a]/\args=[WData.list (ns.map WData.int)]/\h.get? a=some { cls:=.type "list",data:=.seq vs.toArray }/\IntsAre vs ns/\ns.length<=n:=by
 have hsh:WShape.hasAll [] args [.list .int]=true:=(pre_splitW hpre).1;have hc:l.pre.holds [] { args:=args }=true:=(pre_splitW hpre).2;obtain⟨d,r,rfl,h1,h2⟩:=hasAllW_cons hsh;obtain rfl:=hasAllW_nil h2;obtain⟨xs,rfl,h3⟩:=hasW_list h1;obtain⟨ns,rfl⟩:=items_int h3;have hlen:ns.length<=n:=by
  unfold OpenLaw.pre at hc;have h4:(WTm.not (.lt (.lit (.int (n:Int))) (.len (.arg 0)))).holds [] { args:=[.list (ns.map .int)]}=true:=by
   have h4:=(holds_andW hc).1;rw[hn]at h4;exact h4
  have h5:=condW_of h4 (w_not (w_lt w_lit (w_len_list (w_arg rfl))));rw[Vm]at h5;refine Nat.le_of_not_lt λq=>?_;have q':(n:Int)<((ns.length:Nat):Int):=by omega
  first
   | (rw[Wo q']at h5;exact absurd h5 (by decide))
   | (simp at h5;omega)
 cases hwl with
 |cons w1 w2=>
  cases w2;cases w1 with
  |list ho hall=>exact⟨_,_,ns,rfl,rfl,ho,qw ns _ hall,hlen⟩
def Br(l:OpenLaw)(args:List WData):l.row.toRowW.claim.post args (.bool true) args=true:=
 postW_of (r:=l.row.toRowW) (X:=(true==true))
  (show WShape.has [] (.bool true) .bool=true by first|rfl|decide|simp[WShape.has,WShape.arms,WShape.armsAll])
  (show(WTm.eq .res (.lit (.bool true))).value [] { args:=args,res:=some (.bool true),after:=args }=some (.bool (true==true))from w_eq_bool (w_res rfl) w_lit) rfl
def xB{l:OpenLaw}{n:Nat}{q:Program}{loose:List Str}{XP:(Str->Option Value)->Heap->Prop}{YP:World->Heap->Prop}{d:DefRec}
  (hn:l.most=some n) (hdf:d.params.defaults=[])
  (call:∀(w:World) (s₀ s₁:Shared) (mg mb:Str->Option Value) (fa:Addr) (o:Obj) (pm cd doc:Value) (a:Addr) (vs:List Value) (ns:List Int),
   Ground q loose [] XP w s₀ mg mb s₁.heap->YP w s₁.heap->
   s₁.heap.get? fa=some o->o.data=.func (docDef d.name d.params d.body d.scope pm cd doc)->s₁.heap.CodeRec cd d.name->mg d.name=some (.ref fa)->
   s₁.heap.get? a=some { cls:=.type "list",data:=.seq vs.toArray }->IntsAre vs ns->ns.length<=n->s₁.gens = #[]->
   codeAny (model l.prog w) callerA (.call (.ref fa) ⟨[.ref a],[]⟩) (λr s'=>r=.ok (.ret (.bool true))/\OldK s₁.heap s'.heap/\s'.os=s₁.os/\AllBare s'.gens) s₁) :
  WalkO q loose XP YP l.row.toRowW d [] (λf vs=>PySem.call f vs):=by
 intro w s₀ s₁ mg mb G Y fa o pm cd doc dV kV ho hd hcd hD hmg hg args vals as hpre hlay hrd hwl hlo;obtain rfl:dV=.none:=Dflts.none hD hdf;obtain rfl:kV=.none:=Dflts.noKw hD;obtain⟨a,vs,ns,rfl,rfl,hobj,hints,hlen⟩:=Bq hn hpre hwl;refine enter_call (WE (call w s₀ s₁ mg mb fa o pm cd doc a vs ns G Y ho (fd_plain hd) hcd hmg hobj hints hlen hg) λr s' hq=>?_);obtain⟨rfl,h2,h3,h4⟩:=hq;exact⟨.inl ⟨.bool true,.bool true,[],rfl,λ_=>rfl,.bool true,Br l _,λ_=>⟨List.Pairwise.nil,λ_ hm=>(nomatch hm)⟩⟩,h2,h3,h4⟩
end PX
namespace L2
open PySem PySem.Spec PyProof.Rows
theorem tM:∀{vs:List Value}{ns:List Int},IntsAre vs ns->Vals (ns.map V.int) vs
 |_,_,.nil=>.nil
 |_,_,.cons n t h=>.cons ⟨t,rfl⟩ (tM h)
noncomputable def rO(H:Hp):Prop:=∀b,H b=none\/∃o xs,H b=some (.bE o (.lst xs))
def DB{P:Program}{w:World}{K:PySem.W.Frag}{mg mb:Str->Option Value}{CX:kO}{k:Nat}{fa a:Addr}{fd:FuncData}{x:Str}{sp:Sp}{s₁:Shared}{vs:List Value}{ns:List Int}
  (KX:K.In s₁.heap) (hns:s₁.heap.Ns mainGlobals mg) (hb:s₁.heap.Ns builtinsNs mb) (u9:∀x:Str,x≠"__name__" ->mb x=bootBuiltins x) (hlim:s₁.heap.NoLimit) (hg:s₁.gens = #[])
  (ha:s₁.heap.get? a=some { cls:=.type "list",data:=.seq vs.toArray }) (hi:IntsAre vs ns) (hl:ns.length<=sizeLine) (hr:fu k callerA)
  (F:∀base:Heap,K.In base->base.Ns mainGlobals mg->eO P w K mg base CX k fa fd [x] sp) (hbind:∀(s:Shared) (u:Value),BindsTo s fd ⟨[u],[]⟩ [(x,u)])
  (eZ:∀H:Hp,rO H->eY K H a (ns.map V.int)->sp [.ref a] H (λv _=>v=.bl true) λ_ _ _=>False)
  (Bs:∀H e s',CX [] H s₁ (λ_ _ _=>False) e s'->False) :
  codeAny (model P w) callerA (.call (.ref fa) ⟨[.ref a],[]⟩) (λr s'=>r=.ok (.ret (.bool true))/\OldK s₁.heap s'.heap/\s'.os=s₁.os/\AllBare s'.gens) s₁:=by
 have rv:=tM hi;have Ro:=hi.length;have core:∀H:Hp,rO H->eY K H a (ns.map V.int)->dG P w H s₁.heap->(∀b,H b≠none->b=a)->(H a≠none->K.lookup a=none)->
   codeAny (model P w) callerA (.call (.ref fa) ⟨[.ref a],[]⟩) (λr s'=>r=.ok (.ret (.bool true))/\OldK s₁.heap s'.heap/\s'.os=s₁.os/\AllBare s'.gens) s₁:=by
  intro H hO hS hok hA hK;have yj:∀{b:Addr} {o:Obj},s₁.heap.get? b=some o->H b=none->(lC s₁.heap H).get? b=some o:=λe n=>Dk e n;have Bm:∀{b:Addr} {o:Obj} {es:Array DictEntry} {ep:Nat},s₁.heap.get? b=some o->o.data=.dict es ep->H b=none:=λ{b o es ep} e d=>by
   cases q:H b with
   |none=>rfl
   |some u=>
    have e':b=a:=hA b (by rw[q];simp);subst e';rw[ha]at e;cases e;have d':Data.seq vs.toArray _=Data.dict es ep:=d;cases d'
  have Fw:∀{b:Addr} {m:Str->Option Value},s₁.heap.Ns b m->(lC s₁.heap H).Ns b m:=λ{b m} ⟨o,es,ep,e,d,r⟩=>⟨o,es,ep,yj e (Bm e d),d,r⟩
  have PY:K.In (lC s₁.heap H):=λb o e=>yj (KX b o e) (by
   cases q:H b with
   |none=>rfl
   |some u=>
    have e':b=a:=hA b (by rw[q];simp);subst e';rw[hK (by rw[q];simp)]at e;cases e)
  have hM:Mod K mg (lC s₁.heap H):=⟨PY,Fw hns,⟨mb,Fw hb,u9⟩,let ⟨mc,h1,h2⟩:=hlim;⟨mc,Fw h1,h2⟩⟩
  have e0:rG P w K mg (lC s₁.heap H) callerA [] s₁ H:=⟨rfl,hM,λb o e=>Hg e,Nat.le_of_eq (A6 _ _),trivial,λb hb=>absurd (show b∈([]:List Addr)from hb) (by simp),hok,.of_eq hg⟩
  refine WE ((F _ PY (Fw hns)).run callerA [] s₁ H ⟨[.ref a],[]⟩ [.ref a] [.ref a] _ _ hr e0 (hbind s₁ (.ref a)) (.cons rfl .nil) (eZ H hO hS)) λr s' h=>?_;cases r with
  |error e=>exact(Bs H e s' h).elim
  |ok fl=>
   cases fl with
   |next=>exact False.elim h
   |brk=>exact False.elim h
   |cont=>exact False.elim h
   |ret u=>
    obtain⟨v,H',os,bare,un,Rp,r',q⟩:=h;have q':v=.bl true:=q;subst q';obtain rfl:u=Value.bool true:=r';refine⟨rfl,OldK.of_keep λb o e=>?_,os,bare⟩;cases q:H b with
    |none=>exact un.keep b o e q (by intro z;exact absurd (show b∈([]:List Addr)from z) (by simp)) (by simp)
    |some u=>
     rcases hO b with z|⟨ob,xs,z⟩
     .rw[q]at z;cases z
     .have z2:=un.jF b ob _ z;obtain⟨e1,_⟩:=hok b _ z;obtain⟨e2,_⟩:=Rp b _ z2;rw[e]at e1;cases e1;exact e2
 cases hk:K.lookup a with
 |some o=>
  have e:=KX a o hk;rw[ha]at e;cases e;refine core (λ_=>none) (λ_=>.inl rfl) (.inr ⟨_,vs.toArray,_,hk,rfl,rfl,rfl,by rw[Nb,Ro];exact hl,by simpa using rv⟩) (λb u z=>by have z':(none:Option HO)=some u:=z;cases z') (λb z=>absurd rfl z) λz=>absurd rfl z
 |none=>
  refine core (λb=>if b=a then some (.bE { cls:=.type "list",data:=.seq vs.toArray } (.lst (ns.map V.int)))else none) (λb=>?_) (.inl (.inr ⟨{ cls:=.type "list",data:=.seq vs.toArray },b8 rfl⟩)) (λb u z=>?_) (λb z=>?_) λ_=>hk
  .by_cases hb:b=a
   .exact .inr ⟨_,_,b8 hb⟩
   .exact .inl (SA hb)
  .by_cases hb:b=a
   .have z':=(b8 hb).symm.trans z;cases z';subst hb;exact⟨ha,by rw[Vm];exact hl,vs,_,rv,ha⟩
   .have z':=(SA hb).symm.trans z;cases z'
  .by_cases hb:b=a
   .exact hb
   .exact absurd (SA hb) z
def HG{l:PySem.W.OpenLaw}{n k:Nat}{q:Program}{loose:List Str}{XP:(Str->Option Value)->Heap->Prop}{YP:World->Heap->Prop}{d:DefRec}{K:Params->PySem.W.Frag}{CX:World->kO}{sp:World->Sp}{x:Str}
  (hn:l.most=some n) (hn2:n<=sizeLine) (hdf:d.params.defaults=[]) (hr:fu k callerA)
  (hY:∀(w:World) (h:Heap),YP w h->(K w.params).In h)
  (F:∀(w:World) (mg:Str->Option Value) (fa:Addr) (h:Heap),(K w.params).In h->h.Ns mainGlobals mg->mg d.name=some (.ref fa)->
   ∃fd:FuncData,(∀(s:Shared) (u:Value),BindsTo s fd ⟨[u],[]⟩ [(x,u)])/\
    ∀base:Heap,(K w.params).In base->base.Ns mainGlobals mg->eO l.prog w (K w.params) mg base (CX w) k fa fd [x] (sp w))
  (eZ:∀(w:World) (H:Hp) (a:Addr) (ns:List Int),ns.length<=n->rO H->eY (K w.params) H a (ns.map V.int)->sp w [.ref a] H (λv _=>v=.bl true) λ_ _ _=>False)
  (Bs:∀(w:World) (H:Hp) (s:Shared) (e:Value) (s':Shared),CX w [] H s (λ_ _ _=>False) e s'->False) :
  PySem.W.WalkO q loose XP YP l.row.toRowW d [] (λf vs=>PySem.call f vs):=by
 refine PX.xB hn hdf λw s₀ s₁ mg mb fa o pm cd doc a vs ns G Y ho hd hcd hmg hobj hints hlen hg=>?_;have KX:=hY w _ Y;obtain⟨fd,hb,hF⟩:=F w mg fa _ KX G.T.g hmg;exact DB KX G.T.g G.T.b G.T.builtins G.T.nolimit hg hobj hints (Uc hlen hn2) hr hF hb (λH hO hS=>eZ w H a ns hlen hO hS) λH e s'=>Bs w H s₁ e s'
def DC{l:PySem.W.OpenLaw}{n k:Nat}{q:Program}{loose:List Str}{XP:(Str->Option Value)->Heap->Prop}{YP:World->Heap->Prop}{d:DefRec}{K:Params->PySem.W.Frag}{CX:kO}{sp:PySem.W.Frag->Sp}{x:Str}
  (hn:l.most=some n) (hn2:n<=sizeLine) (hdf:d.params.defaults=[]) (hr:fu k callerA)
  (hY:∀(w:World) (h:Heap),YP w h->(K w.params).In h)
  (F:∀(w:World) (mg:Str->Option Value) (fa:Addr) (h:Heap),(K w.params).In h->h.Ns mainGlobals mg->mg d.name=some (.ref fa)->
   ∃fd:FuncData,(∀(s:Shared) (u:Value),BindsTo s fd ⟨[u],[]⟩ [(x,u)])/\
    ∀base:Heap,(K w.params).In base->base.Ns mainGlobals mg->eO l.prog w (K w.params) mg base CX k fa fd [x] (sp (K w.params)))
  (eZ:∀(K:PySem.W.Frag) (H:Hp) (a:Addr) (ns:List Int),ns.length<=n->rO H->eY K H a (ns.map V.int)->sp K [.ref a] H (λv _=>v=.bl true) λ_ _ _=>False)
  (Bs:∀(H:Hp) (s:Shared) (e:Value) (s':Shared),CX [] H s (λ_ _ _=>False) e s'->False) :
  PySem.W.WalkO q loose XP YP l.row.toRowW d [] (λf vs=>PySem.call f vs):=
 HG (K:=K) (CX:=λ_=>CX) (sp:=λw=>sp (K w.params)) hn hn2 hdf hr hY F (λw H a ns h1 h2 h3=>eZ (K w.params) H a ns h1 h2 h3) λ_ H s e s'=>Bs H s e s'
noncomputable def oG(s:Stmt):Arguments:=match s with
 |.FunctionDef _ a _ _ _ _ _ _ _ _=>a
 |_=>{ posonlyargs:=[],args:=[],vararg:=none,kwonlyargs:=[],kw_defaults:=[],kwarg:=none,defaults:=[]}
noncomputable def b7(s:Stmt):List Stmt:=match s with
 |.FunctionDef _ _ b _ _ _ _ _ _ _=>b
 |_=>[]
noncomputable def aA(s:Stmt):Scope:=match s with
 |.FunctionDef _ _ _ _ _ _ sc _ _ _=>sc
 |_=>{ kind:=.function,names:=[],isGenerator:=false,isCoroutine:=false }
abbrev jr:kO:=λ_ _ _ _ _ _=>False
abbrev E0:XK:=λ_ _ _=>False
def Oe{X:Cx}:Passes jr X E0:=λ_ _ _ _ _ _ _ h=>h.elim
structure mZ(K:PySem.W.Frag)(x qual:Str)(st:Stmt)(f:Addr)(fd:FuncData):Prop where
 ex:∃(oc:Value) (od:Option Addr) (kV doc pm:Value) (an:Option Addr) (cdv ct:Value) (osl:Array (Option Value)),
  fd=PySem.W.fnOf x qual (oG st) (b7 st) (aA st) .none kV doc pm an cdv ct/\K.lookup f=some ⟨oc,od,.func fd,osl⟩/\PySem.W.codeIn K cdv qual=true
 kp:PySem.W.keepIn K (.ref f)=true
section
variable{P:Program}{w:World}{K:PySem.W.Frag}{mg:Str->Option Value}{base:Heap}
def mZ.ok{x qual:Str}{st:Stmt}{f:Addr}{fd:FuncData}{N ps:List Str}{k:Nat}{sp:Sp}(F:mZ K x qual st f fd)(S:bC N ps (aA st))(len:∀vs H Q E,sp vs H Q E->vs.length=ps.length)
  (hbody:∀(cdv:Value) (A:Around) (outer:List Env) (s:Shared) (H:Hp) (vs:List V) (Q:VK) (E:XK),fu k (A.deeper (envOfC qual (aA st) s.heap.objs.size f cdv))->sp vs H Q E->
   ∃t,eX (jf jr P w K mg base N qual (aA st) f cdv A outer s H E).cY (b7 st) t/\t { nx:=λ_ H'=>Q .bf H',rt:=Q } (start N vs) H):eO P w K mg base jr (k+1) f fd ps sp:=by
 obtain⟨oc,od,kV,doc,pm,an,cdv,ct,osl,rfl,lk,hcd⟩:=F.ex;refine Ft lk hcd S len λA outer s H vs Q E hr eZ=>?_;obtain⟨t,h,q⟩:=hbody cdv A outer s H vs Q E hr eZ;exact⟨t,h.cY,q⟩
def mZ.binds{x qual:Str}{st:Stmt}{f:Addr}{fd:FuncData}{ps:List Str}(F:mZ K x qual st f fd)
  (h:∀(kV doc pm:Value) (an:Option Addr) (cdv ct:Value) (us:List Value),us.length=ps.length->bindArgs (PySem.W.fnOf x qual (oG st) (b7 st) (aA st) .none kV doc pm an cdv ct) ⟨us,[]⟩=pure (ps.zip us)):Binds K fd ps []:=by
 obtain⟨oc,od,kV,doc,pm,an,cdv,ct,osl,rfl,lk,hcd⟩:=F.ex;exact .all (h kV doc pm an cdv ct)
def cA{x qual:Str}{st:Stmt}{f:Addr}{oc:Value}{od an:Option Addr}{osl:Array (Option Value)}{kV doc pm cdv ct:Value}(l:K.lookup f=some ⟨oc,od,.func (PySem.W.fnOf x qual (oG st) (b7 st) (aA st) .none kV doc pm an cdv ct),osl⟩)
  (c:PySem.W.codeIn K cdv qual=true) (k:PySem.W.keepIn K (.ref f)=true):mZ K x qual st f (PySem.W.fnOf x qual (oG st) (b7 st) (aA st) .none kV doc pm an cdv ct):=⟨⟨oc,od,kV,doc,pm,an,cdv,ct,osl,rfl,l,c⟩,k⟩
end
def Of{A:Around}{k:Nat}(hr:fu k A):A.units+1<cLine:=Nat.lt_of_le_of_lt (Nat.add_le_add_left (by decide:1<=64) _) hr.units
section
variable{X:Cx}
def pv (i:Nat) {x:Str}{pos:Pos}(hN:X.N[i]?=some x:=by rfl) (hv:tu X.env.scope x:=by first|exact Or.inl rfl|exact Or.inr (Or.inl rfl)|exact Or.inr (Or.inr rfl)) (hd:(x==("__debug__" : Str))=false:=by decide)
  (hcd:(x==("__classdict__" : Str))=false:=by decide):PE X (.Name x pos) (J6 i):=qp hN hv hd hcd
end
section
variable{κ:Type}[DecidableEq κ]
noncomputable def jg(kvs:List (κ×V))(k:κ):Option V:=(kvs.find? λkv=>decide (kv.1=k)).map (·.2)
noncomputable def putK(kvs:List (κ×V))(k:κ)(v:V):List (κ×V):=
 if (kvs.any λkv=>decide (kv.1=k))=true then kvs.map (λkv=>if kv.1=k then (kv.1,v)else kv)else kvs++[(k,v)]
def vc{p:κ×V}{r:List (κ×V)}{k:κ}(e:p.1=k):jg (p :: r) k=some p.2:=by simp[jg,VU,e]
def vd{p:κ×V}{r:List (κ×V)}{k:κ}(e:¬ p.1=k):jg (p :: r) k=jg r k:=by simp[jg,VU,e]
def xC(kvs:List (κ×V))(k:κ)(v:V):(putK kvs k v).length<=kvs.length+1:=by
 unfold putK;split
 .rw[Vm];omega
 .rw[Ve,Vg,VS];omega
def KV.val{kvs:List (κ×V)}{vs:List (κ×Value)}(r:KV kvs vs)(k:κ):lB (jg kvs k) (valueAt vs k):=by
 unfold KV at r;induction r with
 |nil=>exact True.intro
 |@cons p q ps qs h t ih=>
  obtain⟨h1,h2⟩:=h;by_cases e:p.1=k
  .have e':q.1=k:=h1.symm.trans e;have b:valueAt (q :: qs) k=some q.2:=by simp[valueAt,VU,e']
   rw[vc e,b];exact h2
  .have e':¬ q.1=k:=λz=>e (h1.trans z);have b:valueAt (q :: qs) k=valueAt qs k:=by simp[valueAt,VU,e']
   rw[vd e,b];exact ih
theorem KV.any{kvs:List (κ×V)}{vs:List (κ×Value)}(r:KV kvs vs)(k:κ):(kvs.any λkv=>decide (kv.1=k))=vs.any λkv=>decide (kv.1=k):=by
 unfold KV at r;induction r with
 |nil=>rfl
 |cons h t ih=>rw[XT,XT,ih,h.1]
def KV.repl{kvs:List (κ×V)}{vs:List (κ×Value)}(r:KV kvs vs)(k:κ){y:V}{u:Value}(ry:RelV y u) :
  KV (kvs.map λkv=>if kv.1=k then (kv.1,y)else kv) (vs.map λkv=>if kv.1=k then (kv.1,u)else kv):=by
 unfold KV at r ⊢;induction r with
 |nil=>exact .nil
 |@cons p q ps qs h t ih=>
  rw[wX,wX];refine .cons ?_ ih;obtain⟨h1,h2⟩:=h;by_cases e:p.1=k
  .rw[b8 e,b8 (h1.symm.trans e)];exact⟨h1,ry⟩
  .rw[SA e,SA (λz=>e (h1.trans z))];exact⟨h1,h2⟩
def KV.put{kvs:List (κ×V)}{vs:List (κ×Value)}(r:KV kvs vs)(k:κ){y:V}{u:Value}(ry:RelV y u):KV (putK kvs k y) (stored vs k u):=by
 unfold putK stored;rw[r.any k];by_cases e:(vs.any λkv=>decide (kv.1=k))=true
 .rw[b8 e,b8 e];exact r.repl k ry
 .rw[SA e,SA e];exact Paired.snoc r ⟨rfl,ry⟩
end
def zX{P:Program}{w:World}{k:Key}{u:Value}(r:RelV (kV k) u):(cT P w).is k u=true:=by
 cases k with
 |inl i=>obtain⟨t,e⟩:=(show ∃t,u=Value.int i t from r);subst e;exact xy P w i t
 |inr x=>obtain⟨t,e⟩:=(show ∃t,u=Value.str x t from r);subst e;exact xA P w x t
theorem tN{P:Program}{w:World}:∀{ks:List Key}{us:List Value},Vals (ks.map kV) us->ItemsAre (cT P w) ks us
 |[],_,r=>by rw[Wj]at r;cases r;exact .nil
 |k :: ks,_,r=>by
  rw[wX]at r;cases r with
  |cons h t=>exact .cons (zX h) (tN t)
abbrev KT(H:Hp):List (List Key×V)->List (List Key×Addr×Value)->Prop:=Paired λp q=>p.1=q.1/\H q.2.1=some (.tup (p.1.map kV))/\RelV p.2 q.2.2
def KT.val{H:Hp}{kvs:List (List Key×V)}{xs:List (List Key×Addr×Value)}(r:KT H kvs xs)(k:List Key):lB (jg kvs k) ((atKey xs k).map (·.2)):=by
 induction r with
 |nil=>exact True.intro
 |@cons p q ps qs h t ih=>
  obtain⟨h1,_,h2⟩:=h;by_cases e:p.1=k
  .have e':q.1=k:=h1.symm.trans e;have b:atKey (q :: qs) k=some q.2:=by simp[atKey,VU,e']
   rw[vc e,b];exact h2
  .have e':¬ q.1=k:=λz=>e (h1.trans z);have b:atKey (q :: qs) k=atKey qs k:=by simp[atKey,VU,e']
   rw[vd e,b];exact ih
section
variable{P:Program}{w:World}{H:Hp}{h:Heap}{a:Addr}
def Fx{u:HO}(ok:dG P w H h)(e:Rd H a u):b6 P w H h a u:=e.ok ok
def zY{kvs:List (Key×V)}(ok:dG P w H h)(e:Rd H a (.dK kvs)):kvs.length<=sizeLine/\(a==sysModules)=false/\∃vs,KV kvs vs/\h.DictOf (cT P w) a vs:=
 show b6 P w H h a (.dK kvs)from Fx ok e
def Og{kvs:List (Key×V)}(ok:dG P w H h)(e:H a=some (.dK kvs)):kvs.length<=sizeLine/\(a==sysModules)=false/\∃vs,KV kvs vs/\h.DictOf (cT P w) a vs:=zY ok (.inl e)
def Bt{ks:List Key}(ok:dG P w H h)(e:H a=some (.tup (ks.map kV))):(tupleKind (cT P w)).is h ks a:=by
 obtain⟨_,its,r,o,h1,h2,n,h3⟩:=(show b6 P w H h a (.tup (ks.map kV))from ok a _ e)
 exact⟨o,its.toArray,n,h1,h2,h3,by simpa using tN r⟩
def Fy{kvs:List (List Key×V)}(ok:dG P w H h)(e:Rd H a (.dT kvs)):kvs.length<=sizeLine/\(a==sysModules)=false/\
  ∃xs,KT H kvs xs/\h.DictOfH (tupleKind (cT P w)) a xs:=by
 obtain⟨z,y,xs,r,o,es,ep,h1,h2,h3,h4,h5⟩:=(show b6 P w H h a (.dT kvs)from Fx ok e)
 refine⟨z,y,xs,r,o,es,ep,h1,h2,h3,h4,λx hx=>?_,h5⟩;have all:∀{l:List (List Key×V)} {m:List (List Key×Addr×Value)},KT H l m->∀x∈m,(tupleKind (cT P w)).is h x.1 x.2.1:=by
  intro l m q;induction q with
  |nil=>intro x hx;exact nomatch hx
  |@cons p q ps qs hq t ih=>
   intro x hx;rcases List.mem_cons.mp hx with e|hx
   .subst e;exact Bt ok (by rw[<-hq.1];exact hq.2.1)
   .exact ih x hx
 exact all r x hx
end
noncomputable def rP(H:Hp)(a:Addr)(y:V)(r:Option V):Prop:=
 (∃kvs k,Rd H a (.dK kvs)/\y=kV k/\r=jg kvs k)\/∃kvs k b,Rd H a (.dT kvs)/\y=.ref b/\H b=some (.tup (k.map kV))/\r=jg kvs k
theorem rP.k{H:Hp}{a:Addr}{kvs:List (Key×V)}{k:Key}(e:H a=some (.dK kvs)):rP H a (kV k) (jg kvs k):=.inl ⟨kvs,k,.inl e,rfl,rfl⟩
section
variable{X:Cx}{pins:List (Addr×Obj)}{σ:St}{H:Hp}{s:Shared}{a:Addr}{y v:V}{u:Value}{o:Option V}{A:Around}{E:Value->Shared->Prop}
def Inv.big(I:Inv X pins σ H s):sysModules<s.heap.objs.size:=by
 have h:mainGlobals<s.heap.objs.size:=(I.mod.glob.keeps I.bk).lt;exact Nat.lt_trans (by decide) h
def Bu{Q:Value->Shared->Prop}(hu:A.units+1<cLine)(I:Inv X pins σ H s)(g:rP H a y (some v))(ry:RelV y u)(h:∀w' s',Inv X pins σ H s'->RelV v w'->Q w' s') :
  wpAny (model X.prog X.w) A (getItem (.ref a) u) Q E s:=by
 rcases g with ⟨kvs,k,e,ey,l⟩|⟨kvs,k,b,e,ey,eb,l⟩
 .subst ey;obtain⟨z,hd,vs,rel,dd⟩:=zY I.hok e;obtain⟨w',hw,rw'⟩:=lB.some_of (v:=v) (o:=valueAt vs k) (by rw[l];exact rel.val k);exact wpAny_getItem_of (zX ry) dd.mapOf hw (h w' _ (I.tok _) rw')
 .subst ey;cases (show u=Value.ref b from ry);obtain⟨z,hd,xs,rel,dd⟩:=Fy I.hok e;obtain⟨w',hw,rw'⟩:=lB.some_of (v:=v) (o:=(atKey xs k).map (·.2)) (by rw[l];exact rel.val k);obtain⟨p,hp,hp2⟩:=Option.map_eq_some_iff.mp hw;refine wpAny_getItem_heap (tupleKind_room_in1 hu) (Bt I.hok eb) dd hp ?_;rw[hp2];exact h w' _ (I.tok _) rw'
def HH{h':Heap}{t':Nat}{ob:HO}(I:Inv X pins σ H s)(mu:A5 (H a))(hs:Heap.SameBut a s.heap h')(he:∃q,h'.get? a=some q)(new:b6 X.prog X.w (upd H a ob) h' a ob) :
  Inv X pins σ (upd H a ob) { s with heap:=h',toks:=t' }:=
 I.write (x:=a) (e:=a) mu (.inl rfl) (λb q hb z=>(hs.2 b hb).trans z) he new
def KH{P:Program}{w:World}{H':Hp}{h':Heap}{kvs:List (Key×V)}{vs:List (Key×Value)}(z:kvs.length<=sizeLine)(hd:(a==sysModules)=false)(rel:KV kvs vs)(dd:h'.DictOf (cT P w) a vs) :
  b6 P w H' h' a (.dK kvs):=⟨z,hd,vs,rel,dd⟩
end
noncomputable def DE(i:Expr):Prop:=∀ov iv,subscripted i false ov iv=operate [ov,iv] (getItem ov iv)
def HJ{prog:Program}{w:World}{A:Around}{E:Value->Shared->Prop}{s:Shared}{env:Env}{value slice:Expr}{pos:Pos}{T id:String}{Q:Value->Shared->Prop}
  (hl:typeLookup (.type T) "__getitem__" = pure (some (.builtin id))) (hs:DE slice)
  (h:wpAny (model prog w) A (eval value env) (λo s₁=>wpAny (model prog w) A (eval slice env) (λi s₂=>s₂.TypeIs o T/\wpAny (model prog w) A (getItem o i) Q E s₂) E s₁) E s) :
  wpAny (model prog w) A (eval (.Subscript value slice pos) env) Q E s:=by
 refine Subscript_ (Uo h (λo s₁ h₁=>Uo h₁ (λi s₂ h₂=>?_) λ_ _ x=>x) λ_ _ x=>x);obtain⟨hT,h₂⟩:=h₂;unfold subscriptTail;refine bP ?_;rw[getitemInPython_of_ne hT.not_modules];refine bP (wpAny_specialOf hT hl ?_);have fin:wpAny (model prog w) A (subscripted slice false o i) (λr s₃=>wpAny (model prog w) A (letTemporaryGo value o r >>= λ_=>pure r) Q E s₃) E s₂:=by
  rw[hs o i];exact wpAny_operating (Uo h₂ (λr s₃ h₃=>bP (wpAny_letTemporaryGo (EZ h₃))) λ_ _ x=>x)
 first
  |exact EZ (bP fin)
  |exact bP (EZ (bP fin))
  |exact bP fin
def xD {X:Cx}{pins:List (Addr×Obj)}{σ:St}{H:Hp}{s:Shared}{a:Addr}{y:V}{o:Option V}(I:Inv X pins σ H s) (g:rP H a y o):s.TypeIs (.ref a) "dict" :=by
 rcases g with ⟨kvs,k,e,_,_⟩|⟨kvs,k,b,e,_,_,_⟩
 .obtain⟨_,_,vs,_,dd⟩:=zY I.hok e;exact dd.typeIs
 .obtain⟨_,_,xs,_,dd⟩:=Fy I.hok e;exact dd.typeIs
noncomputable def Oh(td ty:TE):TE:=λσ H Q=>td σ H λx H1=>ty σ H1 λy H2=>∃a v,x=.ref a/\rP H2 a y (some v)/\Q v H2
section
variable{X:Cx}{o i:Expr}{pos:Pos}{td ty:TE}
def HK(hu:X.A.units+1<cLine)(ho:PE X o td)(hi:PE X i ty)(hs:DE i):PE X (.Subscript o i pos) (Oh td ty):=by
 intro pins s σ H Q I h;refine HJ PySem.F.slot_dict_getitem.lookup hs (aW (ho pins s σ H _ I h) λu s1 ⟨x,H1,I1,rx,q1⟩=>aW (hi pins s1 σ H1 _ I1 q1) λiv s2 ⟨y,H2,I2,ry,a,v,ex,g,q2⟩=>?_);subst ex;obtain rfl:u=Value.ref a:=rx;exact⟨xD I2 g,Bu hu I2 g ry λw' s3 I3 rw'=>⟨v,H2,I3,rw',q2⟩⟩
end
def DF {P:Program}{w:World}{H:Hp}(h:Heap) (hb:sysModules<h.objs.size):b6 P w H (h.push { cls:=.type "dict",data:=.dict #[]}) h.objs.size (.dK []):=
 ⟨VQ _,beq_eq_false_iff_ne.mpr (Wd (Vk hb)),[],.nil,Heap.DictOf.new h⟩
noncomputable def qx:List (TE×TE)->St->Hp->(List (V×V)->Hp->Prop)->Prop
 |[],_,H,Q=>Q [] H
 | (tk,tv) :: r,σ,H,Q=>tk σ H λx H1=>tv σ H1 λy H2=>qx r σ H2 λps H3=>Q ((x,y) :: ps) H3
abbrev VV:List (V×V)->List (Value×Value)->Prop:=Paired λp q=>RelV p.1 q.1/\RelV p.2 q.2
noncomputable def Bv(X:Cx)(pos:Pos)(keys:List (Option Expr))(values:List Expr)(j0:List (TE×TE)):Prop:=
 ∀(pins:List (Addr×Obj)) (s:Shared) (σ:St) (H:Hp) (Q:List (V×V)->Hp->Prop),Inv X pins σ H s->qx j0 σ H Q->
  wpAny (model X.prog X.w) X.A (evalPairs (pairTrees keys values X.env pos)) (λvs s'=>∃ps H',Inv X pins σ H' s'/\VV ps vs/\Q ps H') X.xe s
def HL{X:Cx}{pos:Pos}:Bv X pos [] [] []:=λpins s σ H Q I h=>pairTrees_nil_walk ⟨[],H,I,.nil,h⟩
def DG{X:Cx}{pos:Pos}{k v:Expr}{ks:List (Option Expr)}{vs:List Expr}{tk tv:TE}{j0:List (TE×TE)}(hk:PE X k tk)(hv:PE X v tv)(hr:Bv X pos ks vs j0) :
  Bv X pos (some k :: ks) (v :: vs) ((tk,tv) :: j0):=λpins s σ H Q I h=>
 pairTrees_cons_walk (aW (hk pins s σ H _ I h) λu s1 ⟨x,H1,I1,rx,q1⟩=>aW (hv pins s1 σ H1 _ I1 q1) λw2 s2 ⟨y,H2,I2,ry,q2⟩=>
  aW (hr pins s2 σ H2 _ I2 q2) λws s3 ⟨ps,H3,I3,rel,q3⟩=>⟨(x,y) :: ps,H3,I3,.cons ⟨rx,ry⟩ rel,q3⟩)
noncomputable def kQ(kvs more:List (Key×V)):List (Key×V):=more.foldl (λacc kv=>putK acc kv.1 kv.2) kvs
def KV.merge:∀{more:List (Key×V)}{rs:List (Key×Value)}{kvs:List (Key×V)}{vs:List (Key×Value)},KV more rs->KV kvs vs->KV (kQ kvs more) (merged vs rs):=by
 intro more rs kvs vs r;unfold KV at r;induction r generalizing kvs vs with
 |nil=>intro q;exact q
 |@cons p q ps qs h t ih=>
  intro r0;have e:KV (putK kvs p.1 p.2) (stored vs q.1 q.2):=by
   have:=r0.put p.1 h.2;rw[<-h.1];exact this
  exact ih e
theorem lY:∀(more kvs:List (Key×V)),(kQ kvs more).length<=kvs.length+more.length
 |[],kvs=>by show kvs.length<=kvs.length+0;omega
 |p :: r,kvs=>by
  have h1:=lY r (putK kvs p.1 p.2);have h2:=xC kvs p.1 p.2;show(kQ (putK kvs p.1 p.2) r).length<=_;rw[Vg];omega
theorem qy{P:Program}{w:World}:∀{kvs:List (Key×V)}{ws:List (Value×Value)},VV (kvs.map λkv=>(kV kv.1,kv.2)) ws->∃rs,Carries (cT P w) ws rs/\KV kvs rs
 |[],_,r=>by rw[Wj]at r;cases r;exact⟨[],True.intro,.nil⟩
 |p :: kvs,_,r=>by
  rw[wX]at r;cases r with
  |@cons a b as bs h t=>
   obtain⟨rs,c,q⟩:=qy (P:=P) (w:=w) t;obtain⟨b1,b2⟩:=b;exact⟨(p.1,b2) :: rs,⟨zX h.1,rfl,c⟩,.cons ⟨rfl,h.2⟩ q⟩
end L2
namespace Ev
inductive D where
 |bf|bl (b:Bool)|int (i:Int)|str (s:List Nat)|tup (ds:List D)|ref (n:Nat)
inductive O where
 |lst (ds:List D)|bE (ds:List D)
 |dm (kvs:List (List Nat×List Nat))
abbrev Hh:=List O
abbrev Fr:=List (Option D)
inductive R(α:Type) where
 |ok (a:α) (h:Hh)
 |bad
noncomputable def R.bind{α β:Type}(r:R α)(f:α->Hh->R β):R β:=
 match r with
 |.ok a h=>f a h
 |.bad=>.bad
@[simp] theorem aj{α β:Type}(a:α)(h:Hh)(f:α->Hh->R β):(R.ok a h).bind f=f a h:=rfl
@[simp] theorem DH{α β:Type}(f:α->Hh->R β):(R.bad:R α).bind f=.bad:=rfl
def ah{α β:Type}{r:R α}{f:α->Hh->R β}{b:β}{h:Hh}(e:r.bind f=.ok b h):∃a h1,r=.ok a h1/\f a h1=.ok b h:=by
 cases r with
 |ok a h1=>exact⟨a,h1,rfl,e⟩
 |bad=>cases e
noncomputable def R.of{α:Type}(o:Option α)(h:Hh):R α:=match o with
 |some a=>.ok a h
 |none=>.bad
@[simp] theorem cB{α:Type}(a:α)(h:Hh):R.of (some a) h=.ok a h:=rfl
@[simp] theorem of_none{α:Type}(h:Hh):R.of (none:Option α) h=.bad:=rfl
def aC{α:Type}{o:Option α}{h h':Hh}{a:α}(e:R.of o h=.ok a h'):o=some a/\h'=h:=by
 cases o with
 |none=>cases e
 |some b=>cases e;exact⟨rfl,rfl⟩
inductive aQ where
 |add|sub|mul|fdiv|mod
inductive aK where
 |eq|ne|lt|gt
 |le|ge
 |isin|di
inductive TY where
 |int|bool|str|tuple|list
inductive BI where
 |len|sum|min
 |all
 |ve
 |fK|lD
inductive ME where
 |join|append|extend|pop
 |part|idxs
inductive T where
 |one (i:Nat)|many (l:List Nat)
mutual
inductive E where
 |c (d:D)|v (i:Nat)|tup (es:Es)|lst (es:Es)
 |bin (o:aQ) (a b:E)|cmp (o:aK) (a b:E)
 |ch (o p:aK) (a b c:E)
 |nt (a:E)|neg (a:E)|an (a b:E)|orr (a b:E)|o8 (t a b:E)
 |ix (a b:E)|sl (a:E) (lo hi:Eo)
 |cl (f:Nat) (es:Es)|bi (b:BI) (es:Es)|me (m:ME) (o:E) (es:Es)
 |dY (a:E) (ts:List TY)
 |comp (elt:E) (t:T) (it:It) (cond:Eo)
 |gq (it:It)
 |eS (kvs:List (D×D)) (a:E)|fc (a:E)
 |jt (kvs:List (List Nat×List Nat))|jK (a k:E)
inductive Es where
 |nil|cons (e:E) (es:Es)
inductive Eo where
 |no|yes (e:E)
inductive It where
 |seq (e:E)|eW (es:Es)
 |ju (a b:E)
 |enum (a:E)|rev (a:E)
end
mutual
inductive S where
 |set (i:Nat) (e:E)|m5 (l:List Nat) (e:E)
 |exp (e:E)|ret (e:E)|iff (t:E) (a b:Ss)|for (t:T) (it:It) (b:Ss)|m6 (t:E) (b:Ss)
 |b9 (c:Nat)
 |tr (f k:Nat) (es:Es)
inductive Ss where
 |nil|cons (s:S) (ss:Ss)
end
inductive Fl where
 |nx|bk|ct|ret (d:D)
noncomputable def big:Nat:=16777216
noncomputable def b5(f:D->D->Option Bool):List D->List D->Option Bool
 |[],[]=>some true
 |x :: xs,y :: ys=>do
  let b <-f x y
  let c <-b5 f xs ys
  pure (b&&c)
 |_,_=>some false
noncomputable def aR(h:Hh)(n:Nat):Option (List D):=match h[n]? with
 |some (.lst ds)=>some ds
 |some (.bE ds)=>some ds
 |_=>none
noncomputable def b2i(b:Bool):Int:=if b then 1 else 0
noncomputable def jL(h:Hh)(f:D->D->Option Bool)(a b:Nat):Option Bool:=if a=b then (aR h a).map λ_=>true else match h[a]?,h[b]? with
 |some (.lst x),some (.lst y)=>b5 f x y
 |some (.bE x),some (.lst y)=>b5 f x y
 |some (.lst x),some (.bE y)=>b5 f x y
 |_,_=>none
noncomputable def gr(h:Hh):Nat->D->D->Option Bool
 |0,_,_=>none
 |_+1,.bf,.bf=>some true
 |_+1,.bl a,.bl b=>some (a==b)
 |_+1,.int a,.int b=>some (a==b)
 |_+1,.bl a,.int b=>some (b2i a==b)
 |_+1,.int a,.bl b=>some (a==b2i b)
 |_+1,.str a,.str b=>some (a==b)
 |n+1,.tup a,.tup b=>b5 (gr h n) a b
 |n+1,.ref a,.ref b=>jL h (gr h n) a b
 |_+1,.ref a,_=>(aR h a).map λ_=>false
 |_+1,_,.ref a=>(aR h a).map λ_=>false
 |_+1,_,_=>some false
noncomputable def deep:Nat:=20
noncomputable def truthy(h:Hh):D->Option Bool
 |.bf=>some false
 |.bl b=>some b
 |.int i=>some (i != 0)
 |.str s=>some (!s.isEmpty)
 |.tup ds=>some (!ds.isEmpty)
 |.ref n=>match h[n]? with
  |some (.dm kvs)=>some (!kvs.isEmpty)
  |_=>(aR h n).map λds=>!ds.isEmpty
noncomputable def alloc(ds:List D)(h:Hh):R D:=if ds.length<=big then .ok (.ref h.length) (h++[.lst ds])else .bad
noncomputable def rep{α:Type}(k:Nat)(l:List α):List α:=(List.replicate k l).flatten
noncomputable def bG(i j:Int):Bool:=(decide (-(2 ^ 64)<i)&&decide (i<2 ^ 64)) || (decide (-(2 ^ 64)<j)&&decide (j<2 ^ 64))
noncomputable def bY:aQ->D->D->Hh->R D
 |.add,.int i,.int j,h=>.ok (.int (i+j)) h
 |.add,.str a,.str b,h=>if a.length+b.length<=big then .ok (.str (a++b)) h else .bad
 |.add,.tup a,.tup b,h=>if a.length+b.length<=big then .ok (.tup (a++b)) h else .bad
 |.add,.ref a,.ref b,h=>match h[a]?,h[b]? with
  |some (.lst x),some (.lst y)=>alloc (x++y) h
  |_,_=>.bad
 |.sub,.int i,.int j,h=>.ok (.int (i - j)) h
 |.mul,.int i,.int j,h=>if bG i j then .ok (.int (i*j)) h else .bad
 |.mul,.str a,.int k,h=>if 0<=k/\k<=1000/\a.length<=1000 then .ok (.str (rep k.toNat a)) h else .bad
 |.mul,.tup a,.int k,h=>if 0<=k/\k<=1000/\a.length<=1000 then .ok (.tup (rep k.toNat a)) h else .bad
 |.mul,.ref a,.int k,h=>match h[a]? with
  |some (.lst x)=>if 0<=k/\k<=1000/\x.length<=1000 then alloc (rep k.toNat x) h else .bad
  |_=>.bad
 |.fdiv,.int i,.int j,h=>if 0<j/\j<1073741824 then .ok (.int (i / j)) h else .bad
 |.mod,.int i,.int j,h=>if 0<j then .ok (.int (i % j)) h else .bad
 |_,_,_,_=>.bad
noncomputable def mem(h:Hh)(x:D):List D->Option Bool
 |[]=>some false
 |y :: ys=>do
  let b <-gr h deep y x
  let c <-mem h x ys
  pure (b ||c)
noncomputable def isin(x y:D)(h:Hh):Option Bool:=match y with
 |.str s=>match x with
  |.str [c]=>some (s.contains c)
  |_=>none
 |.tup ds=>mem h x ds
 |.ref n=>(aR h n).bind λds=>mem h x ds
 |_=>none
noncomputable def cop(o:aK)(x y:D)(h:Hh):Option Bool:=match o,x,y with
 |.eq,x,y=>gr h deep x y
 |.ne,x,y=>(gr h deep x y).map (!·)
 |.lt,.int i,.int j=>some (decide (i<j))
 |.le,.int i,.int j=>some (decide (i<=j))
 |.gt,.int i,.int j=>some (decide (j<i))
 |.ge,.int i,.int j=>some (decide (j<=i))
 |.isin,x,y=>isin x y h
 |.di,x,y=>(isin x y h).map (!·)
 |_,_,_=>none
noncomputable def cK(n:Nat)(i:Int):Option Nat:=if 0<=i then (if i<n then some i.toNat else none)else if -(n:Int)<=i then some (i+n).toNat else none
noncomputable def bg{α:Type}(xs:List α)(i:Int):Option α:=(cK xs.length i).bind λj=>xs[j]?
noncomputable def gz(x y:D)(h:Hh):Option D:=match x,y with
 |.tup ds,.int i=>bg ds i
 |.str s,.int i=>(bg s i).map λc=>.str [c]
 |.ref n,.int i=>(aR h n).bind λds=>bg ds i
 |_,_=>none
noncomputable def aI(n d:Nat):Option Int->Nat
 |none=>d
 |some v=>if v<0 then (v+n).toNat else min v.toNat n
noncomputable def cut{α:Type}(xs:List α)(lo hi:Option Int):List α:=(xs.drop (aI xs.length 0 lo)).take (aI xs.length xs.length hi - aI xs.length 0 lo)
noncomputable def iJ(x:D)(lo hi:Option Int)(h:Hh):R D:=match x with
 |.tup ds=>.ok (.tup (cut ds lo hi)) h
 |.str s=>.ok (.str (cut s lo hi)) h
 |.ref n=>match aR h n with
  |some ds=>alloc (cut ds lo hi) h
  |none=>.bad
 |_=>.bad
noncomputable def cF(h:Hh):D->TY->Bool
 |.bl _,.bool=>true
 |.bl _,.int=>true
 |.int _,.int=>true
 |.str _,.str=>true
 |.tup _,.tuple=>true
 |.ref n,.list=>(aR h n).isSome
 |_,_=>false
noncomputable def boolsOf:List D->Option (List Bool)
 |[]=>some []
 |.bl b :: ds=>(boolsOf ds).map λr=>b :: r
 |_=>none
noncomputable def intsOf:List D->Option (List Int)
 |[]=>some []
 |.int i :: ds=>(intsOf ds).map λr=>i :: r
 |_=>none
noncomputable def strsOf:List D->Option (List (List Nat))
 |[]=>some []
 |.str s :: ds=>(strsOf ds).map λr=>s :: r
 |_=>none
noncomputable def aP(sep:List Nat):List (List Nat)->List Nat
 |[]=>[]
 |[s]=>s
 |s :: t :: r=>s++sep++aP sep (t :: r)
noncomputable def lexLe:List Nat->List Nat->Bool
 |[],_=>true
 |_ :: _,[]=>false
 |x :: xs,y :: ys=>if x=y then lexLe xs ys else decide (x<y)
noncomputable def KI(x:List Nat):List (List Nat)->List (List Nat)
 |[]=>[x]
 |y :: ys=>if lexLe x y then x :: y :: ys else y :: KI x ys
noncomputable def bZ:List (List Nat)->List (List Nat)
 |[]=>[]
 |x :: xs=>KI x (bZ xs)
noncomputable def rQ(kvs:List (List Nat×List Nat))(k:List Nat):Option (List Nat):=(kvs.find? λp=>decide (p.1=k)).map (·.2)
noncomputable def vf(x y:D)(h:Hh):Option D:=match x,y with
 |.ref n,.str k=>match h[n]? with
  |some (.dm kvs)=>(rQ kvs k).map .str
  |_=>none
 |_,_=>none
noncomputable def dw(i:Int):List Nat:=(toString i).toList.map Char.toNat
noncomputable def pQ(a:Nat):Bool:=decide (48<=a)&&decide (a<=57)
noncomputable def kq:List Nat->Option Int
 |[a]=>if pQ a then some ((a:Int) - 48)else none
 |[a,b]=>if pQ a&&pQ b then some (10*((a:Int) - 48)+((b:Int) - 48))else none
 |_=>none
noncomputable def aD(c:Nat):List Nat->List (List Nat)
 |[]=>[[]]
 |x :: s=>if x=c then [] :: aD c s else match aD c s with
  |p :: ps=>(x :: p) :: ps
  |[]=>[[x]]
noncomputable def vg(x y:D):Option (List D):=match x,y with
 |.str a,.str [c]=>if c<128 then some ((aD c a).map .str)else none
 |_,_=>none
noncomputable def dM(b:BI)(xs:List D)(h:Hh):R D:=match b,xs with
 |.len,[.str s]=>if s.length<=big then .ok (.int s.length) h else .bad
 |.len,[.tup ds]=>.ok (.int ds.length) h
 |.len,[.ref n]=>R.of ((aR h n).map λds=>.int ds.length) h
 |.all,[.ref n]=>R.of (((aR h n).bind boolsOf).map λbs=>.bl (bs.all id)) h
 |.sum,[.ref n]=>R.of (((aR h n).bind intsOf).map λis=>.int is.sum) h
 |.min,[.int i,.int j]=>.ok (.int (if j<i then j else i)) h
 |.ve,[.bl b]=>.ok (.int (if b then 1 else 0)) h
 |.fK,[.int i]=>if -1000000<i/\i<1000000 then .ok (.str (dw i)) h else .bad
 |.fK,[.str s]=>.ok (.str s) h
 |.lD,[.str s]=>R.of ((kq s).map .int) h
 |_,_=>.bad
noncomputable def findS(y:List Nat):Nat->List Nat->Option Nat
 |k,[]=>if y=[]then some k else none
 |k,x :: l=>if (x :: l).take y.length=y then some k else findS y (k+1) l
noncomputable def eH(a y:List Nat):List (List Nat):=match findS y 0 a with
 |some i=>[a.take i,y,a.drop (i+y.length)]
 |none=>[a,[],[]]
noncomputable def cI(m:ME)(o:D)(xs:List D)(h:Hh):R D:=match m,o,xs with
 |.join,.str sep,[.ref n]=>match (aR h n).bind strsOf with
  |some ss=>if (ss.map (·.length)).sum+ss.length*sep.length<=big then .ok (.str (aP sep ss)) h else .bad
  |none=>.bad
 |.part,.str a,[.str y]=>if y=[]then .bad else .ok (.tup ((eH a y).map .str)) h
 |.idxs,.str a,[.str y]=>R.of ((findS y 0 a).map λ(k:Nat)=>.int k) h
 |.append,.ref n,[x]=>match h[n]? with
  |some (.lst ds)=>if ds.length<big then .ok .bf (h.set n (.lst (ds++[x])))else .bad
  |_=>.bad
 |.extend,.ref n,[.ref m]=>match h[n]?,h[m]? with
  |some (.lst ds),some (.lst es)=>if ds.length+es.length<=big then .ok .bf (h.set n (.lst (ds++es)))else .bad
  |_,_=>.bad
 |.pop,.ref n,[]=>match h[n]? with
  |some (.lst ds)=>match ds[ds.length - 1]? with
   |some x=>.ok x (h.set n (.lst ds.dropLast))
   |none=>.bad
  |_=>.bad
 |_,_,_=>.bad
noncomputable def qz(m:ME)(x:D)(h:Hh):Bool:=match m,x with
 |.join,.str _=>true
 |.join,_=>false
 |.part,.str _=>true
 |.part,_=>false
 |.idxs,.str _=>true
 |.idxs,_=>false
 |_,.ref n=>(aR h n).isSome
 |_,_=>false
noncomputable def eL(x:D):List (D×D)->Option D
 |[]=>none
 | (k,v) :: r=>match gr [] 1 k x with
  |some true=>some v
  |some false=>eL x r
  |none=>none
abbrev Src:=List D×List (Nat×List D)
noncomputable def gj(h:Hh):D->Option Src
 |.tup ds=>some (ds,[])
 |.str s=>some (s.map λc=>.str [c],[])
 |.ref n=>(aR h n).map λds=>(ds,[(n,ds)])
 |_=>none
noncomputable def range(lo:Int)(n:Nat):List D:=(List.range n).map λ(i:Nat)=>.int (lo+i)
noncomputable def dP:List D->Option Src
 |[.int j]=>if -(2 ^ 62)<=j/\j<2 ^ 62 then some (range 0 j.toNat,[])else none
 |[.int i,.int j]=>if -(2 ^ 62)<=i/\i<2 ^ 62/\-(2 ^ 62)<=j/\j<2 ^ 62 then some (range i (j - i).toNat,[])else none
 |_=>none
noncomputable def gH:Int->List D->List D
 |_,[]=>[]
 |k,x :: xs=>.tup [.int k,x] :: gH (k+1) xs
noncomputable def zZ(a b:List D):Bool:=@decide (a=b) (Classical.propDecidable _)
def tO(a b:List D):zZ a b=true↔a=b:=@decide_eq_true_iff _ (Classical.propDecidable _)
@[simp] theorem z9(a:List D):zZ a a=true:=(tO a a).mpr rfl
noncomputable def stays(h:Hh):List (Nat×List D)->Bool
 |[]=>true
 | (n,ds) :: r=>(match aR h n with|some es=>zZ es ds|none=>false)&&stays h r
noncomputable def dz:List Nat->List D->Fr->Option Fr
 |[],[],fr=>some fr
 |i :: is,d :: ds,fr=>dz is ds (fr.set i (some d))
 |_,_,_=>none
noncomputable def aY:T->D->Fr->Option Fr
 |.one i,d,fr=>some (fr.set i (some d))
 |.many l,.tup ds,fr=>dz l ds fr
 |_,_,_=>none
noncomputable def slots:T->List Nat
 |.one i=>[i]
 |.many l=>l
noncomputable def undef(t:T)(fr:Fr):Bool:=(slots t).all λi=>(fr[i]?.join).isNone
noncomputable def KJ:D->Option (List D)
 |.tup ds=>some ds
 |_=>none
noncomputable def rR:D->Hh->R D
 |.tup ds,h=>.ok (.tup ds) h
 |.ref n,h=>match aR h n with
  |some ds=>if ds.length<=big then .ok (.tup ds) h else .bad
  |none=>.bad
 |_,_=>.bad
noncomputable def DI(h:Hh):D->Option Src
 |.ref n=>(aR h n).map λds=>(ds,[(n,ds)])
 |_=>none
noncomputable def bu(f:D->Hh->R (Option D))(ck:List (Nat×List D)):List D->Hh->R (List D)
 |[],h=>if stays h ck then .ok [] h else .bad
 |d :: ds,h=>if stays h ck then (f d h).bind λo h1=>(bu f ck ds h1).bind λr h2=>.ok (o.toList++r) h2 else .bad
noncomputable def forL(f:D->Fr->Hh->R (Fl×Fr))(ck:List (Nat×List D)):List D->Fr->Hh->R (Fl×Fr)
 |[],fr,h=>if stays h ck then .ok (.nx,fr) h else .bad
 |d :: ds,fr,h=>if stays h ck then (f d fr h).bind λp h1=>match p.1 with
   |.nx=>forL f ck ds p.2 h1
   |.ct=>forL f ck ds p.2 h1
   |.bk=>.ok (.nx,p.2) h1
   |.ret x=>.ok (.ret x,p.2) h1
  else .bad
noncomputable def eT(t:Fr->Hh->R Bool)(f:Fr->Hh->R (Fl×Fr)):Nat->Fr->Hh->R (Fl×Fr)
 |0,_,_=>.bad
 |n+1,fr,h=>(t fr h).bind λb h1=>if b then (f fr h1).bind λp h2=>match p.1 with
   |.nx=>eT t f n p.2 h2
   |.ct=>eT t f n p.2 h2
   |.bk=>.ok (.nx,p.2) h2
   |.ret x=>.ok (.ret x,p.2) h2
  else .ok (.nx,fr) h1
abbrev aB:=Nat->List D->Hh->R D
noncomputable def intOf:D->Option Int
 |.int i=>some i
 |_=>none
mutual
noncomputable def ev(P:aB):E->Fr->Hh->R D
 |.c d,_,h=>.ok d h
 |.v i,fr,h=>R.of (fr[i]?.join) h
 |.tup es,fr,h=>(bJ P es fr h).bind λds h1=>if ds.length<=big then .ok (.tup ds) h1 else .bad
 |.lst es,fr,h=>(bJ P es fr h).bind λds h1=>alloc ds h1
 |.bin o a b,fr,h=>(ev P a fr h).bind λx h1=>(ev P b fr h1).bind λy h2=>bY o x y h2
 |.cmp o a b,fr,h=>(ev P a fr h).bind λx h1=>(ev P b fr h1).bind λy h2=>R.of ((cop o x y h2).map .bl) h2
 |.ch o p a b c,fr,h=>(ev P a fr h).bind λx h1=>(ev P b fr h1).bind λy h2=>(R.of (cop o x y h2) h2).bind λk h3=>
   if k then (ev P c fr h3).bind λz h4=>R.of ((cop p y z h4).map .bl) h4 else .ok (.bl false) h3
 |.nt a,fr,h=>(ev P a fr h).bind λx h1=>match x with
   |.bl b=>.ok (.bl (!b)) h1
   |_=>.bad
 |.neg a,fr,h=>(ev P a fr h).bind λx h1=>match x with
   |.int i=>.ok (.int (-i)) h1
   |_=>.bad
 |.an a b,fr,h=>(ev P a fr h).bind λx h1=>match x with
   |.bl true=>ev P b fr h1
   |.bl false=>.ok (.bl false) h1
   |_=>.bad
 |.orr a b,fr,h=>(ev P a fr h).bind λx h1=>match x with
   |.bl true=>.ok (.bl true) h1
   |.bl false=>ev P b fr h1
   |_=>.bad
 |.o8 t a b,fr,h=>(aG P t fr h).bind λk h1=>if k then ev P a fr h1 else ev P b fr h1
 |.ix a b,fr,h=>(ev P a fr h).bind λx h1=>(ev P b fr h1).bind λy h2=>R.of (gz x y h2) h2
 |.sl a lo hi,fr,h=>(ev P a fr h).bind λx h1=>(fN P lo fr h1).bind λl h2=>(fN P hi fr h2).bind λu h3=>iJ x l u h3
 |.cl f es,fr,h=>(bJ P es fr h).bind λds h1=>P f ds h1
 |.bi b es,fr,h=>(bJ P es fr h).bind λds h1=>dM b ds h1
 |.me m o es,fr,h=>(ev P o fr h).bind λx h1=>if qz m x h1 then (bJ P es fr h1).bind λds h2=>cI m x ds h2 else .bad
 |.dY a ts,fr,h=>(ev P a fr h).bind λx h1=>.ok (.bl (ts.any (cF h1 x))) h1
 |.comp elt t it cond,fr,h=>(bQ P it fr h).bind λs h1=>if undef t fr then
   (bu (λd h2=>match aY t d fr with
    |none=>.bad
    |some ak=>(fO P cond ak h2).bind λk h3=>if k then (ev P elt ak h3).bind λx h4=>.ok (some x) h4 else .ok none h3) s.2 s.1 h1).bind λds h2=>alloc ds h2 else .bad
 |.gq it,fr,h=>(bQ P it fr h).bind λs h1=>alloc s.1 h1
 |.eS kvs a,fr,h=>(ev P a fr h).bind λx h1=>R.of (eL x kvs) h1
 |.jt kvs,_,h=>if kvs=[]then .bad else .ok (.ref h.length) (h++[.dm kvs])
 |.jK a k,fr,h=>(ev P a fr h).bind λx h1=>(ev P k fr h1).bind λy h2=>R.of (vf x y h2) h2
 |.fc a,fr,h=>(ev P a fr h).bind λx h1=>rR x h1
noncomputable def bJ(P:aB):Es->Fr->Hh->R (List D)
 |.nil,_,h=>.ok [] h
 |.cons e es,fr,h=>(ev P e fr h).bind λd h1=>(bJ P es fr h1).bind λds h2=>.ok (d :: ds) h2
noncomputable def fN(P:aB):Eo->Fr->Hh->R (Option Int)
 |.no,_,h=>.ok none h
 |.yes e,fr,h=>(ev P e fr h).bind λd h1=>R.of ((intOf d).map some) h1
noncomputable def fO(P:aB):Eo->Fr->Hh->R Bool
 |.no,_,h=>.ok true h
 |.yes e,fr,h=>aG P e fr h
noncomputable def aG(P:aB):E->Fr->Hh->R Bool
 |.an a b,fr,h=>(aG P a fr h).bind λk h1=>if k then aG P b fr h1 else .ok false h1
 |.orr a b,fr,h=>(aG P a fr h).bind λk h1=>if k then .ok true h1 else aG P b fr h1
 |.nt a,fr,h=>(aG P a fr h).bind λk h1=>.ok (!k) h1
 |e,fr,h=>(ev P e fr h).bind λx h1=>R.of (truthy h1 x) h1
noncomputable def bQ(P:aB):It->Fr->Hh->R Src
 |.seq e,fr,h=>(ev P e fr h).bind λx h1=>R.of (gj h1 x) h1
 |.eW es,fr,h=>(bJ P es fr h).bind λds h1=>R.of (dP ds) h1
 |.ju a b,fr,h=>(ev P a fr h).bind λx h1=>(ev P b fr h1).bind λy h2=>R.of ((vg x y).map λl=>(l,[])) h2
 |.enum a,fr,h=>(ev P a fr h).bind λx h1=>R.of ((DI h1 x).map λs=>(gH 0 s.1,s.2)) h1
 |.rev a,fr,h=>(ev P a fr h).bind λx h1=>R.of ((KJ x).map λds=>(ds.reverse,[])) h1
end
noncomputable def xo:Nat:=1000
noncomputable def DJ(k:Nat):D->Option D
 |.int c=>if 0<=c/\c<k then some (.tup [.str [114,101,102,117,115,101,100],.int c])else none
 |_=>none
noncomputable def tryD(k:Nat):R D->R D->R D
 |.ok d h,_=>.ok d h
 |.bad,q=>q.bind λc h=>R.of (DJ k c) h
mutual
noncomputable def ex(P:aB)(w:Nat):S->Fr->Hh->R (Fl×Fr)
 |.set i e,fr,h=>(ev P e fr h).bind λx h1=>.ok (.nx,fr.set i (some x)) h1
 |.m5 l e,fr,h=>(ev P e fr h).bind λx h1=>match aY (.many l) x fr with
   |some ak=>.ok (.nx,ak) h1
   |none=>.bad
 |.exp e,fr,h=>(ev P e fr h).bind λ_ h1=>.ok (.nx,fr) h1
 |.ret e,fr,h=>(ev P e fr h).bind λx h1=>.ok (.ret x,fr) h1
 |.iff t a b,fr,h=>(aG P t fr h).bind λk h1=>if k then exs P w a fr h1 else exs P w b fr h1
 |.for t it b,fr,h=>(bQ P it fr h).bind λs h1=>forL (λd ak h2=>match aY t d ak with
   |some bw=>exs P w b bw h2
   |none=>.bad) s.2 s.1 fr h1
 |.m6 t b,fr,h=>eT (λak h2=>aG P t ak h2) (λak h2=>exs P w b ak h2) w fr h
 |.b9 _,_,_=>.bad
 |.tr f k es,fr,h=>(bJ P es fr h).bind λds h1=>(tryD k (P f ds h1) (P (f+xo) ds h1)).bind λx h2=>.ok (.ret x,fr) h2
noncomputable def exs(P:aB)(w:Nat):Ss->Fr->Hh->R (Fl×Fr)
 |.nil,fr,h=>.ok (.nx,fr) h
 |.cons s ss,fr,h=>(ex P w s fr h).bind λp h1=>match p.1 with
   |.nx=>exs P w ss p.2 h1
   |_=>.ok p h1
end
structure Fn where
 np:Nat
 ns:Nat
 body:Ss
noncomputable def cZ(fn:Fn)(ds:List D):Fr:=ds.map some++List.replicate (fn.ns - fn.np) none
noncomputable def endOf(r:R (Fl×Fr)):R D:=r.bind λp h=>match p.1 with
 |.ret d=>.ok d h
 |.nx=>.ok .bf h
 |_=>.bad
abbrev XR:=Option (Nat×Hh)
abbrev bS:=Nat->List D->Hh->XR
noncomputable def dB(f:D->Hh->R (Option D))(g:D->Hh->XR)(ck:List (Nat×List D)):List D->Hh->XR
 |[],_=>none
 |d :: ds,h=>if stays h ck then match f d h with
   |.ok _ h1=>dB f g ck ds h1
   |.bad=>g d h
  else none
noncomputable def oH(P:aB)(elt:E)(t:T)(cond:Eo)(fr:Fr):D->Hh->R (Option D):=λd h2=>match aY t d fr with
 |none=>.bad
 |some ak=>(fO P cond ak h2).bind λk h3=>if k then (ev P elt ak h3).bind λx h4=>.ok (some x) h4 else .ok none h3
mutual
noncomputable def xe(P:aB)(X:bS):E->Fr->Hh->XR
 |.cl f es,fr,h=>match bJ P es fr h with
  |.ok ds h1=>X f ds h1
  |.bad=>xa P X es fr h
 |.ix a _,fr,h=>xe P X a fr h
 |.me m o es,fr,h=>match ev P o fr h with
  |.ok x h1=>if qz m x h1 then xa P X es fr h1 else none
  |.bad=>none
 |.tup es,fr,h=>xa P X es fr h
 |.fc a,fr,h=>xe P X a fr h
 |.comp elt t it cond,fr,h=>match bQ P it fr h with
  |.ok s h1=>if undef t fr=true/\s.1.length<=big then dB (oH P elt t cond fr) (λd h2=>match aY t d fr with
   |some ak=>(match fO P cond ak h2 with
    |.ok true h3=>xe P X elt ak h3
    |_=>none)
   |none=>none) s.2 s.1 h1 else none
  |.bad=>xi P X it fr h
 |_,_,_=>none
noncomputable def xi(P:aB)(X:bS):It->Fr->Hh->XR
 |.seq e,fr,h=>xe P X e fr h
 |_,_,_=>none
noncomputable def xa(P:aB)(X:bS):Es->Fr->Hh->XR
 |.nil,_,_=>none
 |.cons e es,fr,h=>match ev P e fr h with
  |.ok _ h1=>xa P X es fr h1
  |.bad=>xe P X e fr h
end
noncomputable def fy(f:D->Fr->Hh->R (Fl×Fr))(g:D->Fr->Hh->XR)(ck:List (Nat×List D)):List D->Fr->Hh->XR
 |[],_,_=>none
 |d :: ds,fr,h=>if stays h ck then match f d fr h with
   |.ok (.nx,af) h1=>fy f g ck ds af h1
   |.ok (.ct,af) h1=>fy f g ck ds af h1
   |.ok _ _=>none
   |.bad=>g d fr h
  else none
noncomputable def fU(t:Fr->Hh->R Bool)(f:Fr->Hh->R (Fl×Fr))(g:Fr->Hh->XR):Nat->Fr->Hh->XR
 |0,_,_=>none
 |n+1,fr,h=>match t fr h with
  |.ok true h1=>match f fr h1 with
   |.ok (.nx,af) h2=>fU t f g n af h2
   |.ok (.ct,af) h2=>fU t f g n af h2
   |.ok _ _=>none
   |.bad=>g fr h1
  |_=>none
mutual
noncomputable def xs(P:aB)(X:bS)(w:Nat):S->Fr->Hh->XR
 |.b9 c,_,h=>some (c,h)
 |.set _ e,fr,h=>xe P X e fr h
 |.exp e,fr,h=>xe P X e fr h
 |.ret e,fr,h=>xe P X e fr h
 |.iff t a b,fr,h=>match aG P t fr h with
  |.ok k h1=>if k then xss P X w a fr h1 else xss P X w b fr h1
  |.bad=>xe P X t fr h
 |.for t it b,fr,h=>match bQ P it fr h with
  |.ok s h1=>fy (λd ak h2=>match aY t d ak with|some bw=>exs P w b bw h2|none=>.bad) (λd ak h2=>match aY t d ak with|some bw=>xss P X w b bw h2|none=>none) s.2 s.1 fr h1
  |.bad=>none
 |.m6 t b,fr,h=>fU (λak h2=>aG P t ak h2) (λak h2=>exs P w b ak h2) (λak h2=>xss P X w b ak h2) w fr h
 |_,_,_=>none
noncomputable def xss(P:aB)(X:bS)(w:Nat):Ss->Fr->Hh->XR
 |.nil,_,_=>none
 |.cons s ss,fr,h=>match ex P w s fr h with
  |.ok (.nx,af) h1=>xss P X w ss af h1
  |.ok _ _=>none
  |.bad=>xs P X w s fr h
end
noncomputable def lZ(X:bS)(f:Nat)(ds:List D)(h:Hh):R D:=if xo<=f then (match X (f - xo) ds h with
  |some (c,h')=>.ok (.int c) h'
  |none=>.bad)else .bad
noncomputable def runs(F:List Fn)(w:Nat):Nat->aB×bS
 |0=>(λ_ _ _=>.bad,λ_ _ _=>none)
 |n+1=>
  let X:bS:=λf ds h=>match F[f]? with
   |some fn=>if ds.length=fn.np then xss (runs F w n).1 (runs F w n).2 w fn.body (cZ fn ds) h else none
   |none=>none
  (λf ds h=>match F[f]? with
   |some fn=>if ds.length=fn.np then endOf (exs (runs F w n).1 w fn.body (cZ fn ds) h)else .bad
   |none=>lZ X f ds h,X)
noncomputable def run(F:List Fn)(w n:Nat):aB:=(runs F w n).1
noncomputable def bH(F:List Fn)(w n:Nat):bS:=(runs F w n).2
def fP(F:List Fn)(w n f:Nat)(ds:List D)(h:Hh):run F w (n+1) f ds h=match F[f]? with
  |some fn=>if ds.length=fn.np then endOf (exs (run F w n) w fn.body (cZ fn ds) h)else .bad
  |none=>lZ (bH F w (n+1)) f ds h:=rfl
def iA(F:List Fn)(w n f:Nat)(ds:List D)(h:Hh):bH F w (n+1) f ds h=match F[f]? with
  |some fn=>if ds.length=fn.np then xss (run F w n) (bH F w n) w fn.body (cZ fn ds) h else none
  |none=>none:=rfl
mutual
noncomputable def iK(rz:List Nat):E->Bool
 |.cl f es=>!rz.contains f&&tP rz es
 |.ix a _=>iK rz a
 |.me _ _ es=>tP rz es
 |.tup es=>tP rz es
 |.fc a=>iK rz a
 |.comp elt _ it _=>iK rz elt&&Fz rz it
 |_=>true
noncomputable def Fz(rz:List Nat):It->Bool
 |.seq e=>iK rz e
 |_=>true
noncomputable def tP(rz:List Nat):Es->Bool
 |.nil=>true
 |.cons e es=>iK rz e&&tP rz es
end
mutual
noncomputable def o9(rz:List Nat):S->Bool
 |.b9 _=>false
 |.set _ e=>iK rz e
 |.exp e=>iK rz e
 |.ret e=>iK rz e
 |.iff t a b=>iK rz t&&(ku rz a&&ku rz b)
 |.for _ _ b=>ku rz b
 |.m6 _ b=>ku rz b
 |_=>true
noncomputable def ku(rz:List Nat):Ss->Bool
 |.nil=>true
 |.cons s ss=>o9 rz s&&ku rz ss
end
theorem tQ{f:D->Hh->R (Option D)}{g:D->Hh->XR}{ck:List (Nat×List D)}(hg:∀d h,g d h=none):∀(ds:List D) (h:Hh),dB f g ck ds h=none
 |[],_=>rfl
 |d :: ds,h=>by
  simp only[dB];split
  .split
   .exact tQ hg ds _
   .exact hg _ _
  .rfl
section
variable{P:aB}{X:bS}{w:Nat}{rz:List Nat}(hz:∀f,rz.contains f=false->∀ds h,X f ds h=none)
include hz
mutual
theorem jM:∀(e:E) {fr:Fr}{h:Hh},iK rz e=true->xe P X e fr h=none
 |.cl f es,fr,h,z=>by
  simp only[iK,gQ,VD]at z;simp only[xe];split
  .exact hz f z.1 _ _
  .exact rS es z.2
 |.ix a b,fr,h,z=>by
  simp only[iK]at z;simp only[xe];exact jM a z
 |.me m o es,fr,h,z=>by
  simp only[iK]at z;simp only[xe];split
  .split
   .exact rS es z
   .rfl
  .rfl
 |.tup es,fr,h,z=>by
  simp only[iK]at z;simp only[xe];exact rS es z
 |.fc a,fr,h,z=>by
  simp only[iK]at z;simp only[xe];exact jM a z
 |.comp elt t it cond,fr,h,z=>by
  simp only[iK,gQ]at z;simp only[xe];split
  .split
   .refine tQ (λd h2=>?_) _ _;split
    .split
     .exact jM elt z.1
     .rfl
    .rfl
   .rfl
  .exact KL it z.2
 |.c _,_,_,_=>rfl|.v _,_,_,_=>rfl|.lst _,_,_,_=>rfl
 |.bin _ _ _,_,_,_=>rfl|.cmp _ _ _,_,_,_=>rfl
 |.ch _ _ _ _ _,_,_,_=>rfl
 |.nt _,_,_,_=>rfl|.neg _,_,_,_=>rfl|.an _ _,_,_,_=>rfl|.orr _ _,_,_,_=>rfl|.o8 _ _ _,_,_,_=>rfl
 |.sl _ _ _,_,_,_=>rfl
 |.bi _ _,_,_,_=>rfl
 |.dY _ _,_,_,_=>rfl
 |.gq _,_,_,_=>rfl
 |.eS _ _,_,_,_=>rfl
 |.jt _,_,_,_=>rfl|.jK _ _,_,_,_=>rfl
theorem KL:∀(it:It) {fr:Fr}{h:Hh},Fz rz it=true->xi P X it fr h=none
 |.seq e,fr,h,z=>by
  simp only[Fz]at z;simp only[xi];exact jM e z
 |.eW _,_,_,_=>rfl|.enum _,_,_,_=>rfl|.rev _,_,_,_=>rfl
 |.ju _ _,_,_,_=>rfl
theorem rS:∀(es:Es) {fr:Fr}{h:Hh},tP rz es=true->xa P X es fr h=none
 |.nil,_,_,_=>rfl
 |.cons e es,fr,h,z=>by
  simp only[tP,gQ]at z;simp only[xa];split
  .exact rS es z.2
  .exact jM e z.1
end
omit hz in
theorem m7{f:D->Fr->Hh->R (Fl×Fr)}{g:D->Fr->Hh->XR}{ck:List (Nat×List D)}(hg:∀d fr h,g d fr h=none):∀(ds:List D) (fr:Fr) (h:Hh),fy f g ck ds fr h=none
 |[],_,_=>rfl
 |d :: ds,fr,h=>by
  simp only[fy];split
  .split
   .exact m7 hg ds _ _
   .exact m7 hg ds _ _
   .rfl
   .exact hg _ _ _
  .rfl
omit hz in
theorem m8{t:Fr->Hh->R Bool}{f:Fr->Hh->R (Fl×Fr)}{g:Fr->Hh->XR}(hg:∀fr h,g fr h=none):∀(n:Nat) (fr:Fr) (h:Hh),fU t f g n fr h=none
 |0,_,_=>rfl
 |n+1,fr,h=>by
  simp only[fU];split
  .split
   .exact m8 hg n _ _
   .exact m8 hg n _ _
   .rfl
   .exact hg _ _
  .rfl
mutual
theorem KN:∀(s:S) {fr:Fr}{h:Hh},o9 rz s=true->xs P X w s fr h=none
 |.b9 c,_,_,z=>by simp[o9]at z
 |.set i e,fr,h,z=>by simp only[o9]at z;simp only[xs];exact jM hz e z
 |.exp e,fr,h,z=>by simp only[o9]at z;simp only[xs];exact jM hz e z
 |.ret e,fr,h,z=>by simp only[o9]at z;simp only[xs];exact jM hz e z
 |.iff t a b,fr,h,z=>by
  simp only[o9,gQ]at z;simp only[xs];split
  .split
   .exact lE a z.2.1
   .exact lE b z.2.2
  .exact jM hz t z.1
 |.for t it b,fr,h,z=>by
  simp only[o9]at z;simp only[xs];split
  .refine m7 (λd fr h=>?_) _ _ _;split
   .exact lE b z
   .rfl
  .rfl
 |.m6 t b,fr,h,z=>by
  simp only[o9]at z;simp only[xs];exact m8 (λfr h=>lE b z) _ _ _
 |.m5 _ _,_,_,_=>rfl
 |.tr _ _ _,_,_,_=>rfl
theorem lE:∀(s:Ss) {fr:Fr}{h:Hh},ku rz s=true->xss P X w s fr h=none
 |.nil,_,_,_=>rfl
 |.cons s ss,fr,h,z=>by
  simp only[ku,gQ]at z;simp only[xss];split
  .exact lE ss z.2
  .rfl
  .exact KN s z.1
end
end
noncomputable def pe(rz:List Nat):Nat->List Fn->Bool
 |_,[]=>true
 |k,fn :: r=>(rz.contains k ||ku rz fn.body)&&pe rz (k+1) r
theorem pe.get{rz:List Nat}:∀{F:List Fn}{k f:Nat}{fn:Fn},pe rz k F=true->F[f]?=some fn->rz.contains (k+f)=false->ku rz fn.body=true
 |_ :: r,k,0,fn,z,e,n=>by
  simp only[pe,gQ,VF]at z;cases e;rcases z.1 with z|z
  .rw[Nat.add_zero,z]at n;cases n
  .exact z
 |_ :: r,k,f+1,fn,z,e,n=>by
  simp only[pe,gQ]at z;exact pe.get (F:=r) (k:=k+1) (f:=f) z.2 (by simpa using e) (by rw[show k+1+f=k+(f+1)by omega];exact n)
theorem yk{F:List Fn}{rz:List Nat}(hF:pe rz 0 F=true)(w:Nat):∀(n f:Nat),rz.contains f=false->∀ds h,bH F w n f ds h=none
 |0,_,_,_,_=>rfl
 |n+1,f,k,ds,h=>by
  rw[iA];cases y:F[f]? with
  |none=>rfl
  |some fn=>
   simp only;split
   .exact lE (yk hF w n) _ (pe.get hF y (by rw[Xb];exact k))
   .rfl
theorem jN{f:D->Hh->R (Option D)}{g:D->Hh->XR}{ck:List (Nat×List D)}(hg:∀d h r,g d h=some r->f d h=.bad):∀(ds:List D) {h:Hh}{r:Nat×Hh},dB f g ck ds h=some r->bu f ck ds h=.bad
 |[],_,_,z=>nomatch z
 |d :: ds,h,r,z=>by
  simp only[dB]at z;split at z
  .rename_i hs;simp only[bu,b8 hs];cases y:f d h with
   |ok o h1=>rw[y]at z;simp only[aj];rw[jN hg ds z];rfl
   |bad=>rfl
  .cases z
section
variable{P:aB}{X:bS}{w:Nat}(hX:∀f ds h r,X f ds h=some r->P f ds h=.bad)
include hX
mutual
theorem bU:∀(e:E) {fr:Fr}{h:Hh}{r:Nat×Hh},xe P X e fr h=some r->ev P e fr h=.bad/\aG P e fr h=.bad
 |.cl f es,fr,h,r,z=>by
  simp only[xe]at z;have q:ev P (.cl f es) fr h=.bad:=by
   rw[ev];cases y:bJ P es fr h with
   |ok ds h1=>rw[y]at z;exact hX _ _ _ _ z
   |bad=>rfl
  exact⟨q,by rw[aG,q];rfl;all_goals (intros;contradiction)⟩
 |.ix a b,fr,h,r,z=>by
  simp only[xe]at z;have q:ev P (.ix a b) fr h=.bad:=by rw[ev,(bU a z).1];rfl
  exact⟨q,by rw[aG,q];rfl;all_goals (intros;contradiction)⟩
 |.me m o es,fr,h,r,z=>by
  simp only[xe]at z;have q:ev P (.me m o es) fr h=.bad:=by
   rw[ev];cases y:ev P o fr h with
   |ok x h1=>
    rw[y]at z;simp only at z;split at z
    .rename_i k;simp only[aj,b8 k];rw[qA es z];rfl
    .cases z
   |bad=>rfl
  exact⟨q,by rw[aG,q];rfl;all_goals (intros;contradiction)⟩
 |.tup es,fr,h,r,z=>by
  simp only[xe]at z;have q:ev P (.tup es) fr h=.bad:=by rw[ev,qA es z];rfl
  exact⟨q,by rw[aG,q];rfl;all_goals (intros;contradiction)⟩
 |.fc a,fr,h,r,z=>by
  simp only[xe]at z;have q:ev P (.fc a) fr h=.bad:=by rw[ev,(bU a z).1];rfl
  exact⟨q,by rw[aG,q];rfl;all_goals (intros;contradiction)⟩
 |.comp elt t it cond,fr,h,r,z=>by
  simp only[xe]at z;have q:ev P (.comp elt t it cond) fr h=.bad:=by
   rw[ev];cases y:bQ P it fr h with
   |ok s h1=>
    rw[y]at z;simp only at z;split at z
    .rename_i hu;simp only[aj,b8 hu.1];have:=jN (f:=oH P elt t cond fr) (λd h2 r2 e=>by
      split at e
      .rename_i ak eb;split at e
       .rename_i h3 ec;unfold oH;rw[eb];simp only[ec,aj,Vj];rw[(bU elt e).1];rfl
       .cases e
      .cases e) s.1 z
     refine Wi (Vd (λq:R (List D)=>q.bind λds h2=>alloc ds h2) this) rfl
    .cases z
   |bad=>rfl
  exact⟨q,by rw[aG,q];rfl;all_goals (intros;contradiction)⟩
 |.c _,_,_,_,z=>nomatch z|.v _,_,_,_,z=>nomatch z|.lst _,_,_,_,z=>nomatch z
 |.bin _ _ _,_,_,_,z=>nomatch z|.cmp _ _ _,_,_,_,z=>nomatch z
 |.ch _ _ _ _ _,_,_,_,z=>nomatch z
 |.nt _,_,_,_,z=>nomatch z|.neg _,_,_,_,z=>nomatch z|.an _ _,_,_,_,z=>nomatch z|.orr _ _,_,_,_,z=>nomatch z|.o8 _ _ _,_,_,_,z=>nomatch z
 |.sl _ _ _,_,_,_,z=>nomatch z
 |.bi _ _,_,_,_,z=>nomatch z
 |.dY _ _,_,_,_,z=>nomatch z
 |.gq _,_,_,_,z=>nomatch z
 |.eS _ _,_,_,_,z=>nomatch z
 |.jt _,_,_,_,z=>nomatch z|.jK _ _,_,_,_,z=>nomatch z
theorem qA:∀(es:Es) {fr:Fr}{h:Hh}{r:Nat×Hh},xa P X es fr h=some r->bJ P es fr h=.bad
 |.nil,_,_,_,z=>nomatch z
 |.cons e es,fr,h,r,z=>by
  simp only[xa]at z;rw[bJ];cases y:ev P e fr h with
  |ok d h1=>rw[y]at z;simp only[aj];rw[qA es z];rfl
  |bad=>rfl
end
def KO:∀(it:It) {fr:Fr}{h:Hh}{r:Nat×Hh},xi P X it fr h=some r->bQ P it fr h=.bad
 |.seq e,fr,h,r,z=>by
  simp only[xi]at z;rw[bQ,(bU hX e z).1];rfl
 |.eW _,_,_,_,z=>nomatch z|.enum _,_,_,_,z=>nomatch z|.rev _,_,_,_,z=>nomatch z
 |.ju _ _,_,_,_,z=>nomatch z
omit hX in
theorem gS{f:D->Fr->Hh->R (Fl×Fr)}{g:D->Fr->Hh->XR}{ck:List (Nat×List D)}(hg:∀d fr h r,g d fr h=some r->f d fr h=.bad):∀(ds:List D) {fr:Fr}{h:Hh}{r:Nat×Hh},fy f g ck ds fr h=some r->forL f ck ds fr h=.bad
 |[],_,_,_,z=>nomatch z
 |d :: ds,fr,h,r,z=>by
  simp only[fy]at z;split at z
  case isFalse=>cases z
  rename_i k;simp only[forL,b8 k];split at z
  .rename_i e;rw[e];exact gS hg ds z
  .rename_i e;rw[e];exact gS hg ds z
  .cases z
  .rw[hg _ _ _ _ z];rfl
omit hX in
theorem gT{t:Fr->Hh->R Bool}{f:Fr->Hh->R (Fl×Fr)}{g:Fr->Hh->XR}(hg:∀fr h r,g fr h=some r->f fr h=.bad):∀(n:Nat) {fr:Fr}{h:Hh}{r:Nat×Hh},fU t f g n fr h=some r->eT t f n fr h=.bad
 |0,_,_,_,z=>nomatch z
 |n+1,fr,h,r,z=>by
  simp only[fU]at z;split at z
  case h_2=>cases z
  rename_i e0;simp only[eT,e0,aj,Vj];split at z
  .rename_i e;rw[e];exact gT hg n z
  .rename_i e;rw[e];exact gT hg n z
  .cases z
  .rw[hg _ _ _ z];rfl
mutual
theorem m9:∀(s:S) {fr:Fr}{h:Hh}{r:Nat×Hh},xs P X w s fr h=some r->ex P w s fr h=.bad
 |.b9 c,_,_,_,_=>by rw[ex]
 |.set i e,fr,h,r,z=>by rw[ex,(bU hX e z).1];rfl
 |.exp e,fr,h,r,z=>by rw[ex,(bU hX e z).1];rfl
 |.ret e,fr,h,r,z=>by rw[ex,(bU hX e z).1];rfl
 |.iff t a b,fr,h,r,z=>by
  simp only[xs]at z;rw[ex];cases y:aG P t fr h with
  |bad=>rfl
  |ok k h1=>
   rw[y]at z;simp only at z;simp only[aj];cases k with
   |true=>exact cU a z
   |false=>exact cU b z
 |.for t it b,fr,h,r,z=>by
  simp only[xs]at z;rw[ex];cases y:bQ P it fr h with
  |bad=>rfl
  |ok s h1=>
   rw[y]at z;simp only at z;simp only[aj];refine gS (λd fr h r q=>?_) _ z;cases k:aY t d fr with
   |none=>rw[k]at q
   |some bw=>rw[k]at q;exact cU b q
 |.m6 t b,fr,h,r,z=>by
  simp only[xs]at z;rw[ex];exact gT (λfr h r q=>cU b q) _ z
 |.m5 _ _,_,_,_,z=>nomatch z
 |.tr _ _ _,_,_,_,z=>nomatch z
theorem cU:∀(s:Ss) {fr:Fr}{h:Hh}{r:Nat×Hh},xss P X w s fr h=some r->exs P w s fr h=.bad
 |.nil,_,_,_,z=>nomatch z
 |.cons s ss,fr,h,r,z=>by
  simp only[xss]at z;rw[exs];split at z
  .rename_i e;rw[e];exact cU ss z
  .cases z
  .rw[m9 s z];rfl
end
end
theorem pR(F:List Fn)(w:Nat):∀(n f:Nat) (ds:List D) (h:Hh) (r:Nat×Hh),bH F w n f ds h=some r->run F w n f ds h=.bad
 |0,_,_,_,_,_=>rfl
 |n+1,f,ds,h,r,z=>by
  rw[iA]at z;rw[fP];cases y:F[f]? with
  |none=>rw[y]at z;cases z
  |some fn=>
   rw[y]at z;simp only at z ⊢;split at z
   .rename_i k;rw[b8 k,cU (pR F w n) _ z];rfl
   .cases z
end Ev
namespace Sm
open PySem PySem.Spec PyProof.Rows L2
noncomputable def au(l:List Nat):Str:=⟨l.toArray⟩
def aO(l:List Nat):(au l).length=l.length:=by simp[au,Str.length]
def jA{a b:List Nat}(h:au a=au b):a=b:=by
 have h1:a.toArray=b.toArray:=Vd Str.cps h;simpa using Vd Array.toList h1
def jO:Ev.big=sizeLine:=by rw[V9];rfl
section
variable(K:PySem.W.Frag)
mutual
noncomputable def RV(H:Hp)(r:List Addr):Ev.D->V->Prop
 |.bf,v=>v=.bf
 |.bl b,v=>v=.bl b
 |.int i,v=>v=.int i
 |.str s,v=>v=.str (au s)/\s.length<=sizeLine
 |.ref n,v=>∃a,v=.ref a/\r[n]?=some a
 |.tup ds,v=>∃a vs,v=.ref a/\dH K H a vs/\aF H r ds vs
noncomputable def aF(H:Hp)(r:List Addr):List Ev.D->List V->Prop
 |[],vs=>vs=[]
 |d :: ds,vs=>∃v w,vs=v :: w/\RV H r d v/\aF H r ds w
end
noncomputable def Aa(H:Hp)(a:Addr)(vs:List V):Prop:=(∃o,H a=some (.bE o (.lst vs)))\/
 ∃(o:Obj) (its:Array Value) (n:Nat),K.lookup a=some o/\o.cls=.type "list" /\o.dict=none/\o.data=.seq its n/\its.size<=sizeLine/\Vals vs its.toList
noncomputable def kB(kvs:List (List Nat×List Nat)):List (Key×V):=kvs.map λp=>(Sum.inr (au p.1),V.str (au p.2))
noncomputable def RO(H:Hp)(r:List Addr):Ev.O->Addr->Prop
 |.lst ds,a=>∃vs,H a=some (.lst vs)/\aF K H r ds vs
 |.bE ds,a=>∃vs,Aa K H a vs/\aF K H r ds vs
 |.dm kvs,a=>H a=some (.dK (kB kvs))/\kvs≠[]/\∀p∈kvs,p.2.length<=sizeLine
structure HR(H:Hp)(r:List Addr)(h:Ev.Hh):Prop where
 len:r.length=h.length
 ob:∀(n:Nat) o,h[n]?=some o->∃a,r[n]?=some a/\RO K H r o a
 inj:∀(n m:Nat) a x y,r[n]?=some a->r[m]?=some a->h[n]?=some (.lst x)->h[m]?=some (.lst y)->n=m
structure Fm(r r':List Addr)(H H':Hp):Prop where
 pre:∀(n:Nat) a,r[n]?=some a->r'[n]?=some a
 new:∀a∈r',a∈r\/H a=none
 keep:∀a o,H a=some o->a∉r->H' a=some o
 tups:∀a vs,dH K H a vs->dH K H' a vs
end
section
variable{K:PySem.W.Frag}{H H1 H2:Hp}{r r1 r2:List Addr}{h:Ev.Hh}
def Fm.refl:Fm K r r H H:=⟨λ_ _ e=>e,λ_ e=>.inl e,λ_ _ e _=>e,λ_ _ e=>e⟩
def Fm.trans(a:Fm K r r1 H H1)(b:Fm K r1 r2 H1 H2):Fm K r r2 H H2 where
 pre:=λn x e=>b.pre n x (a.pre n x e)
 new:=λx e=>by
  rcases b.new x e with q|q
  .exact a.new x q
  .by_cases z:x∈r
   .exact .inl z
   .refine .inr ?_;cases w:H x with
    |none=>rfl
    |some o=>rw[a.keep x o w z]at q;cases q
 keep:=λx o e n=>by
  refine b.keep x o (a.keep x o e n) λz=>?_;rcases a.new x z with q|q
  .exact n q
  .rw[e]at q;cases q
 tups:=λx vs e=>b.tups x vs (a.tups x vs e)
mutual
theorem RV.grow(f:∀(n:Nat) a,r[n]?=some a->r1[n]?=some a)(g:∀a vs,dH K H a vs->dH K H1 a vs):∀{d:Ev.D}{v:V},RV K H r d v->RV K H1 r1 d v
 |.bf,_,e=>e
 |.bl _,_,e=>e
 |.int _,_,e=>e
 |.str _,_,e=>e
 |.ref n,_,⟨a,e,z⟩=>⟨a,e,f n a z⟩
 |.tup ds,_,⟨a,vs,e,z,q⟩=>⟨a,vs,e,g a vs z,aF.grow f g q⟩
theorem aF.grow(f:∀(n:Nat) a,r[n]?=some a->r1[n]?=some a)(g:∀a vs,dH K H a vs->dH K H1 a vs):∀{ds:List Ev.D}{vs:List V},aF K H r ds vs->aF K H1 r1 ds vs
 |[],_,e=>e
 |_ :: _,_,⟨v,w,e,z,q⟩=>⟨v,w,e,RV.grow f g z,aF.grow f g q⟩
end
def RV.mono(f:Fm K r r1 H H1){d:Ev.D}{v:V}(q:RV K H r d v):RV K H1 r1 d v:=q.grow f.pre f.tups
def aF.mono(f:Fm K r r1 H H1){ds:List Ev.D}{vs:List V}(q:aF K H r ds vs):aF K H1 r1 ds vs:=q.grow f.pre f.tups
def aF.nil:aF K H r [] []:=by simp[aF]
def aF.cons{d:Ev.D}{v:V}{ds:List Ev.D}{vs:List V}(a:RV K H r d v)(b:aF K H r ds vs):aF K H r (d :: ds) (v :: vs):=by
 simp only[aF];exact⟨v,vs,rfl,a,b⟩
theorem aF.length:∀{ds:List Ev.D}{vs:List V},aF K H r ds vs->vs.length=ds.length
 |[],_,e=>by simp only[aF]at e;subst e;rfl
 |_ :: _,_,e=>by
  simp only[aF]at e;obtain⟨v,w,rfl,_,q⟩:=e;simp[aF.length q]
theorem aF.get:∀{ds:List Ev.D}{vs:List V}{i:Nat}{d:Ev.D},aF K H r ds vs->ds[i]?=some d->∃v,vs[i]?=some v/\RV K H r d v
 |[],_,_,_,_,e=>by simp at e
 |_ :: _,_,0,_,h,e=>by
  simp only[aF]at h;obtain⟨v,w,rfl,z,q⟩:=h;simp at e;subst e;exact⟨v,by simp,z⟩
 |_ :: _,_,i+1,_,h,e=>by
  simp only[aF]at h;obtain⟨v,w,rfl,z,q⟩:=h;obtain⟨u,a,b⟩:=aF.get (i:=i) q (by simpa using e);exact⟨u,by simpa using a,b⟩
theorem aF.append:∀{ds es:List Ev.D}{vs ws:List V},aF K H r ds vs->aF K H r es ws->aF K H r (ds++es) (vs++ws)
 |[],_,_,_,a,b=>by simp only[aF]at a;subst a;simpa using b
 |_ :: _,_,_,_,a,b=>by
  simp only[aF]at a;obtain⟨v,w,rfl,z,q⟩:=a;simp only[VO];exact .cons z (aF.append q b)
theorem aF.take:∀{ds:List Ev.D}{vs:List V}(n:Nat),aF K H r ds vs->aF K H r (ds.take n) (vs.take n)
 |_,_,0,_=>by simp[aF]
 |[],_,_+1,a=>by simp only[aF]at a;subst a;simp[aF]
 |_ :: _,_,n+1,a=>by
  simp only[aF]at a;obtain⟨v,w,rfl,z,q⟩:=a;simp only[V4];exact .cons z (aF.take n q)
theorem aF.drop:∀{ds:List Ev.D}{vs:List V}(n:Nat),aF K H r ds vs->aF K H r (ds.drop n) (vs.drop n)
 |_,_,0,a=>by simpa using a
 |[],_,_+1,a=>by simp only[aF]at a;subst a;simp[aF]
 |_ :: _,_,n+1,a=>by
  simp only[aF]at a;obtain⟨v,w,rfl,z,q⟩:=a;simp only[XY];exact aF.drop n q
theorem aF.rep{ds:List Ev.D}{vs:List V}(a:aF K H r ds vs):∀k:Nat,aF K H r (Ev.rep k ds) (Ev.rep k vs)
 |0=>by simp[Ev.rep,aF]
 |k+1=>by
  have h:=aF.rep a k;simp only[Ev.rep,Vn,Vu]at h ⊢;exact a.append h
def Fm.laid{p:Addr}{o:HO}(hp:H p=none):Fm K r (r++[p]) H (upd H p o) where
 pre:=λn a e=>by rw[wW (List.getElem?_eq_some_iff.mp e).1];exact e
 new:=λa e=>by
  rcases List.mem_append.mp e with q|q
  .exact .inl q
  .rw[Yd]at q;subst q;exact .inr hp
 keep:=λa ob e _=>by rw[aV (bq e hp)];exact e
 tups:=λa vs e=>by
  rcases e with (e|⟨ob,e⟩)|e
  .exact .inl (.inl (by rw[aV (bq e hp)];exact e))
  .exact .inl (.inr ⟨ob,by rw[aV (bq e hp)];exact e⟩)
  .exact .inr e
def Fm.tup{p:Addr}{o:HO}(hp:H p=none):Fm K r r H (upd H p o) where
 pre:=λn a e=>e
 new:=λa e=>.inl e
 keep:=λa ob e _=>by rw[aV (bq e hp)];exact e
 tups:=(Fm.laid (r:=r) hp).tups
theorem RO.mono{o:Ev.O}{a:Addr}(f:Fm K r r1 H H1)(q:RO K H r o a)(hl:∀ds vs,o=.lst ds->H a=some (.lst vs)->H1 a=some (.lst vs))(hf:∀ob vs,H a=some (.bE ob vs)->H1 a=some (.bE ob vs))
  (hs:∀kvs,o=.dm kvs->H a=some (.dK (kB kvs))->kvs≠[]->H1 a=some (.dK (kB kvs)))
  : RO K H1 r1 o a:=by
 cases o with
 |lst ds=>
  obtain⟨vs,e,z⟩:=q;exact⟨vs,hl ds vs rfl e,z.mono f⟩
 |bE ds=>
  obtain⟨vs,e,z⟩:=q;refine⟨vs,?_,z.mono f⟩;rcases e with ⟨ob,e⟩|e
  .exact .inl ⟨ob,hf _ _ e⟩
  .exact .inr e
 |dm kvs=>exact⟨hs kvs rfl q.1 q.2.1,q.2⟩
theorem HR.tup{p:Addr}{o:HO}(hr:HR K H r h)(hp:H p=none):HR K (upd H p o) r h where
 len:=hr.len
 ob:=λn ob e=>by
  obtain⟨a,e1,q⟩:=hr.ob n ob e;exact⟨a,e1,q.mono (Fm.tup hp) (λ_ vs _ z=>by rw[aV (bq z hp)];exact z) (λ_ _ z=>by rw[aV (bq z hp)];exact z)
   (λ_ _ z _=>by rw[aV (bq z hp)];exact z)
   ⟩
 inj:=hr.inj
theorem HR.lst{p:Addr}{ds:List Ev.D}{vs:List V}(hr:HR K H r h)(hp:H p=none)(q:aF K H r ds vs):HR K (upd H p (.lst vs)) (r++[p]) (h++[.lst ds]) where
 len:=by simp[hr.len]
 ob:=λn ob e=>by
  by_cases hn:n<h.length
  .rw[wW hn]at e;obtain⟨a,e1,z⟩:=hr.ob n ob e;exact⟨a,(Fm.laid (K:=K) (o:=.lst vs) hp).pre n a e1,z.mono (Fm.laid hp) (λ_ vs _ z=>by rw[aV (bq z hp)];exact z) (λ_ _ z=>by rw[aV (bq z hp)];exact z)
   (λ_ _ z _=>by rw[aV (bq z hp)];exact z)
    ⟩
  .have e2:=(List.getElem?_eq_some_iff.mp e).1;simp only[Ve,VB]at e2;have e3:n=h.length:=by omega
   subst e3;simp at e;subst e;exact⟨p,by rw[<-hr.len];simp,vs,cJ,q.mono (Fm.laid hp)⟩
 inj:=λn m a x y e1 e2 e3 e4=>by
  have out:∀(k:Nat) z,(h++[Ev.O.lst ds])[k]?=some (.lst z)->(r++[p])[k]?=some a->(k<h.length/\r[k]?=some a/\h[k]?=some (.lst z)/\a≠p)\/(k=h.length/\a=p):=λk z q1 q2=>by
   by_cases hk:k<h.length
   .rw[wW hk]at q1;rw[wW (by rw[hr.len];exact hk)]at q2;obtain⟨b,e5,vs',e6,_⟩:=hr.ob k _ q1;rw[q2]at e5;cases e5;exact .inl ⟨hk,q2,q1,bq e6 hp⟩
   .have e5:=(List.getElem?_eq_some_iff.mp q1).1;simp only[Ve,VB]at e5;have e6:k=r.length:=by rw[hr.len];omega
    subst e6;simp at q2;exact .inr ⟨hr.len,q2.symm⟩
  rcases out n x e3 e1 with ⟨h1,h2,h3,h4⟩|⟨h1,h2⟩
  .rcases out m y e4 e2 with ⟨k1,k2,k3,k4⟩|⟨k1,k2⟩
   .exact hr.inj n m a x y h2 k2 h3 k3
   .exact absurd k2 h4
  .rcases out m y e4 e2 with ⟨k1,k2,k3,k4⟩|⟨k1,k2⟩
   .exact absurd h2 k4
   .rw[h1,k1]
theorem HR.dm{n:Nat}{kvs:List (List Nat×List Nat)}(hr:HR K H r h)(e:h[n]?=some (.dm kvs)):∃a,r[n]?=some a/\H a=some (.dK (kB kvs))/\kvs≠[]/\∀p∈kvs,p.2.length<=sizeLine:=by
 obtain⟨a,e1,e2,e3⟩:=hr.ob n _ e;exact⟨a,e1,e2,e3⟩
def HR.read{n:Nat}{ds:List Ev.D}(hr:HR K H r h)(e:Ev.aR h n=some ds):∃a vs,r[n]?=some a/\eY K H a vs/\aF K H r ds vs:=by
 unfold Ev.aR at e;split at e
 .rename_i z;cases e;obtain⟨a,e1,vs,e2,e3⟩:=hr.ob n _ z;exact⟨a,vs,e1,.inl (.inl e2),e3⟩
 .rename_i z;cases e;obtain⟨a,e1,vs,e2,e3⟩:=hr.ob n _ z;refine⟨a,vs,e1,?_,e3⟩;rcases e2 with ⟨ob,e2⟩|e2
  .exact .inl (.inr ⟨ob,e2⟩)
  .exact .inr e2
 .cases e
def Fm.write{a:Addr}{vs ws:List V}(ha:H a=some (.lst vs))(hm:a∈r):Fm K r r H (upd H a (.lst ws)) where
 pre:=λn b e=>e
 new:=λb e=>.inl e
 keep:=λb ob e n=>by rw[aV (λz=>n (by rw[z];exact hm))];exact e
 tups:=λb us e=>by
  rcases e with (e|⟨ob,e⟩)|e
  .exact .inl (.inl (by rw[aV (oz e ha (by intro z;cases z))];exact e))
  .exact .inl (.inr ⟨ob,by rw[aV (oz e ha (by intro z;cases z))];exact e⟩)
  .exact .inr e
theorem HR.write{n:Nat}{a:Addr}{ds es:List Ev.D}{vs ws:List V}(hr:HR K H r h)(hn:h[n]?=some (.lst ds))(KP:r[n]?=some a)(ha:H a=some (.lst vs))(q:aF K H r es ws) :
  HR K (upd H a (.lst ws)) r (h.set n (.lst es)) where
 len:=by simp[hr.len]
 ob:=λm ob e=>by
  have f:=Fm.write (K:=K) (ws:=ws) ha (Vr KP);by_cases hm:m=n
  .subst hm;rw[Qs (List.getElem?_eq_some_iff.mp hn).1]at e;cases e;exact⟨a,KP,ws,cJ,q.mono f⟩
  .rw[gV (λz=>hm z.symm)]at e;obtain⟨b,e1,z⟩:=hr.ob m ob e;refine⟨b,e1,z.mono f (λSN us z3 z2=>?_) (λUq us z2=>by rw[aV (oz z2 ha (by intro z;cases z))];exact z2)
    (λ_ _ z2 _=>by rw[aV (oz z2 ha (by intro z;cases z))];exact z2)
    ⟩
   by_cases hb:b=a
   .subst hb;subst z3;exact absurd (hr.inj m n b SN ds e1 KP e hn) hm
   .rw[aV hb];exact z2
 inj:=λk m b x y e1 e2 e3 e4=>by
  have back:∀(j:Nat) z,(h.set n (Ev.O.lst es))[j]?=some (.lst z)->∃z',h[j]?=some (.lst z'):=λj z w=>by
   by_cases hj:j=n
   .subst hj;exact⟨ds,hn⟩
   .rw[gV (λz=>hj z.symm)]at w;exact⟨z,w⟩
  obtain⟨x',e5⟩:=back k x e3;obtain⟨y',e6⟩:=back m y e4;exact hr.inj k m b x' y' e1 e2 e5 e6
def fz{p:Addr}{vs ws:List V}(hp:H p=some (.lst vs)):∀a us,dH K H a us->dH K (upd H p (.lst ws)) a us:=λb us e=>by
 rcases e with (e|⟨ob,e⟩)|e
 .exact .inl (.inl (by rw[aV (oz e hp (by intro z;cases z))];exact e))
 .exact .inl (.inr ⟨ob,by rw[aV (oz e hp (by intro z;cases z))];exact e⟩)
 .exact .inr e
def HR.other{p:Addr}{vs ws:List V}(hr:HR K H r h)(hp:H p=some (.lst vs))(hn:p∉r):HR K (upd H p (.lst ws)) r h where
 len:=hr.len
 ob:=λn ob e=>by
  obtain⟨a,e1,q⟩:=hr.ob n ob e;have ha:a≠p:=λz=>hn (by rw[<-z];exact Vr e1);refine⟨a,e1,?_⟩;cases ob with
  |lst ds=>
   obtain⟨us,e2,e3⟩:=q;exact⟨us,by rw[aV ha];exact e2,e3.grow (λ_ _ z=>z) (fz hp)⟩
  |bE ds=>
   obtain⟨us,e2,e3⟩:=q;refine⟨us,?_,e3.grow (λ_ _ z=>z) (fz hp)⟩;rcases e2 with ⟨o,e2⟩|e2
   .exact .inl ⟨o,by rw[aV ha];exact e2⟩
   .exact .inr e2
  |dm kvs=>exact⟨by rw[aV ha];exact q.1,q.2⟩
 inj:=hr.inj
def Fm.other{p:Addr}{vs ws:List V}(f:Fm K r r1 H H1)(h0:H p=none)(hp:H1 p=some (.lst vs)):Fm K r r1 H (upd H1 p (.lst ws)) where
 pre:=f.pre
 new:=f.new
 keep:=λa o e n=>by rw[aV (bq e h0)];exact f.keep a o e n
 tups:=λa us e=>fz hp a us (f.tups a us e)
def Fm.di{p:Addr}{o:HO}(f:Fm K r r1 H H1)(hp:H p=some o)(hn:p∉r):p∉r1/\H1 p=some o:=by
 refine⟨λz=>?_,f.keep p o hp hn⟩;rcases f.new p z with q|q
 .exact hn q
 .rw[hp]at q;cases q
def HR.known{p:Addr}{ds:List Ev.D}{vs:List V}(hr:HR K H r h)(hp:H p=some (.lst vs))(hn:p∉r)(q:aF K H r ds vs):HR K H (r++[p]) (h++[.lst ds]):=by
 have pre:∀(n:Nat) a,r[n]?=some a->(r++[p])[n]?=some a:=λn a e=>by rw[wW (List.getElem?_eq_some_iff.mp e).1];exact e
 refine⟨by simp[hr.len],λn ob e=>?_,λn m a x y e1 e2 e3 e4=>?_
  ⟩
 .by_cases hk:n<h.length
  .rw[wW hk]at e;obtain⟨a,e1,z⟩:=hr.ob n ob e;refine⟨a,pre n a e1,?_⟩;cases ob with
   |lst ds=>obtain⟨us,e2,e3⟩:=z;exact⟨us,e2,e3.grow pre λ_ _ z=>z⟩
   |bE ds=>obtain⟨us,e2,e3⟩:=z;exact⟨us,e2,e3.grow pre λ_ _ z=>z⟩
   |dm kvs=>exact z
  .have e2:=(List.getElem?_eq_some_iff.mp e).1;simp only[Ve,VB]at e2;have e3:n=h.length:=by omega
   subst e3;simp at e;subst e;exact⟨p,by rw[<-hr.len];simp,vs,hp,q.grow pre λ_ _ z=>z⟩
 .have out:∀(k:Nat) z,(h++[Ev.O.lst ds])[k]?=some (.lst z)->(r++[p])[k]?=some a->(k<h.length/\r[k]?=some a/\h[k]?=some (.lst z)/\a≠p)\/(k=h.length/\a=p):=λk z q1 q2=>by
   by_cases hk:k<h.length
   .rw[wW hk]at q1;rw[wW (by rw[hr.len];exact hk)]at q2;exact .inl ⟨hk,q2,q1,λz=>hn (by rw[<-z];exact Vr q2)⟩
   .have e5:=(List.getElem?_eq_some_iff.mp q1).1;simp only[Ve,VB]at e5;have e6:k=r.length:=by rw[hr.len];omega
    subst e6;simp at q2;exact .inr ⟨hr.len,q2.symm⟩
  rcases out n x e3 e1 with ⟨h1,h2,h3,h4⟩|⟨h1,h2⟩
  .rcases out m y e4 e2 with ⟨k1,k2,k3,k4⟩|⟨k1,k2⟩
   .exact hr.inj n m a x y h2 k2 h3 k3
   .exact absurd k2 h4
  .rcases out m y e4 e2 with ⟨k1,k2,k3,k4⟩|⟨k1,k2⟩
   .exact absurd h2 k4
   .rw[h1,k1]
def Fm.known{p:Addr}(f:Fm K r r1 H H1)(h0:H p=none):Fm K r (r1++[p]) H H1 where
 pre:=λn a e=>by
  have e':=f.pre n a e;rw[wW (List.getElem?_eq_some_iff.mp e').1];exact e'
 new:=λa e=>by
  rcases List.mem_append.mp e with q|q
  .exact f.new a q
  .rw[Yd]at q;subst q;exact .inr h0
 keep:=f.keep
 tups:=f.tups
end
end Sm
namespace Sm
open PySem PySem.Spec PyProof.Rows L2
open Ev (D O Hh Fr R aB E Es Eo It T S Ss Fl Src aQ aK TY BI ME)
section
variable(K:PySem.W.Frag)
noncomputable def Res(r:List Addr)(H:Hp)(h':Hh)(d:D)(Q:VK):Prop:=∀v H' r',RV K H' r' d v->HR K H' r' h'->Fm K r r' H H'->Q v H'
structure SR(m:List Nat)(H:Hp)(r:List Addr)(fr:Fr)(s:L2.St):Prop where
 len:s.length=m.length
 sl:∀(j i:Nat) d,m[j]?=some i->fr[i]?=some (some d)->∃v,s[j]?=some (some v)/\RV K H r d v
inductive tJ(m:List Nat)(P:aB)(e:E)(s:L2.St)(H:Hp)(Q:VK):Prop
 |mk (r:List Addr) (fr:Fr) (h:Hh) (d:D) (h':Hh) (c0:SR K m H r fr s) (c1:HR K H r h) (c2:Ev.ev P e fr h=.ok d h') (c3:Res K r H h' d Q):tJ m P e s H Q
inductive FA(m:List Nat)(P:aB)(e:E)(s:L2.St)(H:Hp)(Q:Bool->Hp->Prop):Prop
 |mk (r:List Addr) (fr:Fr) (h:Hh) (k:Bool) (h':Hh) (c0:SR K m H r fr s) (c1:HR K H r h) (c2:Ev.aG P e fr h=.ok k h') (c3:∀H' r',HR K H' r' h'->Fm K r r' H H'->Q k H'):FA m P e s H Q
inductive KQ(m:List Nat)(P:aB)(es:Es)(s:L2.St)(H:Hp)(Q:List V->Hp->Prop):Prop
 |mk (r:List Addr) (fr:Fr) (h:Hh) (ds:List D) (h':Hh) (c0:SR K m H r fr s) (c1:HR K H r h) (c2:Ev.bJ P es fr h=.ok ds h') (c3:∀vs H' r',aF K H' r' ds vs->HR K H' r' h'->Fm K r r' H H'->Q vs H'):KQ m P es s H Q
inductive PZ(m:List Nat)(P:aB)(e:Eo)(s:L2.St)(H:Hp)(Q:Option Int->Hp->Prop):Prop
 |mk (r:List Addr) (fr:Fr) (h:Hh) (o:Option Int) (h':Hh) (c0:SR K m H r fr s) (c1:HR K H r h) (c2:Ev.fN P e fr h=.ok o h') (c3:∀H' r',HR K H' r' h'->Fm K r r' H H'->Q o H'):PZ m P e s H Q
inductive fQ(f:D->D->Hh->R D)(x:V)(y:V)(H:Hp)(Q:VK):Prop
 |mk (r:List Addr) (h:Hh) (a:D) (b:D) (d:D) (h':Hh) (c0:HR K H r h) (c1:RV K H r a x) (c2:RV K H r b y) (c3:f a b h=.ok d h') (c4:Res K r H h' d Q):fQ f x y H Q
inductive tR(f:List D->Hh->R D)(xs:List V)(H:Hp)(Q:VK):Prop
 |mk (r:List Addr) (h:Hh) (as:List D) (d:D) (h':Hh) (c0:HR K H r h) (c1:aF K H r as xs) (c2:f as h=.ok d h') (c3:Res K r H h' d Q):tR f xs H Q
inductive tS(f:D->List D->Hh->R D)(x:V)(xs:List V)(H:Hp)(Q:VK):Prop
 |mk (r:List Addr) (h:Hh) (a:D) (as:List D) (d:D) (h':Hh) (c0:HR K H r h) (c1:RV K H r a x) (c2:aF K H r as xs) (c3:f a as h=.ok d h') (c4:Res K r H h' d Q):tS f x xs H Q
inductive KR  (x:V) (lo:Option Int) (hi:Option Int) (H:Hp) (Q:VK):Prop
 |mk (r:List Addr) (h:Hh) (a:D) (d:D) (h':Hh) (c0:HR K H r h) (c1:RV K H r a x) (c2:Ev.iJ a lo hi h=.ok d h') (c3:Res K r H h' d Q):KR x lo hi H Q
end
section
variable{K:PySem.W.Frag}{m:List Nat}{H H':Hp}{r r':List Addr}{fr:Fr}{s:L2.St}{h h':Hh}{d:D}{Q:VK}
theorem SR.mono(a:SR K m H r fr s)(f:Fm K r r' H H'):SR K m H' r' fr s:=⟨a.len,λj i d e1 e2=>by
 obtain⟨v,q,z⟩:=a.sl j i d e1 e2;exact⟨v,q,z.mono f⟩⟩
def Res.here{v:V}(q:Res K r H h d Q)(a:RV K H r d v)(b:HR K H r h):Q v H:=q v H r a b .refl
def Res.later(q:Res K r H h' d Q)(f:Fm K r r' H H'):Res K r' H' h' d Q:=λv H2 r2 a b g=>q v H2 r2 a b (f.trans g)
theorem Res.lst{ds:List D}{vs:List V}(q:Res K r H h' d Q)(e:Ev.alloc ds h=.ok d h')(a:aF K H r ds vs)(b:HR K H r h):vs.length<=sizeLine/\∀p,H p=none->Q (.ref p) (upd H p (.lst vs)):=by
 unfold Ev.alloc at e;split at e
 .rename_i z;cases e;refine⟨by rw[a.length,<-jO];exact z,λp hp=>?_⟩;exact q _ _ (r++[p]) ⟨p,rfl,by rw[<-b.len];simp⟩ (b.lst hp a) (.laid hp)
 .cases e
theorem Res.tup{ds:List D}{vs:List V}(q:Res K r H h (.tup ds) Q)(a:aF K H r ds vs)(b:HR K H r h){p:Addr}(hp:H p=none):Q (.ref p) (upd H p (.tup vs)):=
 q _ _ r ⟨p,vs,rfl,.of cJ,a.mono (.tup hp)⟩ (b.tup hp) (.tup hp)
end
def PE.of{X:Cx}{e:Expr}{t t':TE}(h:PE X e t)(w:∀s H Q,t' s H Q->t s H Q):PE X e t':=λpins s σ H Q I q=>h pins s σ H Q I (w _ _ _ q)
def PT.of{X:Cx}{e:Expr}{t t':TT}(h:PT X e t)(w:∀s H Q,t' s H Q->t s H Q):PT X e t':=λpins s σ H Q I q=>h pins s σ H Q I (w _ _ _ q)
def PW.of{X:Cx}{e:Expr}{t t':TT}(h:PW X e t)(w:∀s H Q,t' s H Q->t s H Q):PW X e t':=λwh pins s σ H Q I q=>h wh pins s σ H Q I (w _ _ _ q)
def PA.of{X:Cx}{es:List Expr}{t t':TA}(h:PA X es t)(w:∀s H Q,t' s H Q->t s H Q):PA X es t':=λpos pins s σ H Q I q=>h pos pins s σ H Q I (w _ _ _ q)
def PO.of{X:Cx}{e:Option Expr}{t t':TO}(h:PO X e t)(w:∀s H Q,t' s H Q->t s H Q):PO X e t':=λpins s σ H Q I q=>h pins s σ H Q I (w _ _ _ q)
structure FI where
 name:Str
 addr:Addr
 fd:FuncData
 ps:List Str
noncomputable def mh(K:PySem.W.Frag)(F:List Ev.Fn)(w n f:Nat):Sp:=λvs H Q _=>∃r h ds d h',aF K H r ds vs/\HR K H r h/\Ev.run F w n f ds h=.ok d h'/\Res K r H h' d Q
noncomputable def yl(K:PySem.W.Frag)(d:D)(v:V):Prop:=∀H r,RV K H r d v
def yl.rv{K:PySem.W.Frag}{H:Hp}{r:List Addr}{d:D}{v:V}(h:yl K d v):RV K H r d v:=h H r
structure Tb where
 F:List Ev.Fn
 w:Nat
 fi:List FI
 bl:List Str
 cs:List (Str×D)
 dk:List (Str×List (D×D))
noncomputable def tabOf:List (D×D)->List (PyData×PyData)
 | (.str k,.str v) :: r=>(.str (au k),.str (au v)) :: tabOf r
 |_=>[]
structure Good(G:Tb)(n:Nat)(sc:Scope)(N:List Str)(df:Bool)(X:Cx):Prop where
 nm:X.N=N
 sc:X.env.scope=sc
 calm:X.calm=true
 own:df=true->∀x,X.fn x=true
 room:fu n X.A
 xe:X.xe=λ_ _=>False
 fn:∀(f:Nat) i,G.fi[f]?=some i->X.mg i.name=some (.ref i.addr)/\PySem.W.keepIn X.K (.ref i.addr)=true/\Binds X.K i.fd i.ps []/\eO X.prog X.w X.K X.mg X.base jr n i.addr i.fd i.ps (mh X.K G.F G.w n f)
 bl:∀x∈G.bl,X.mg x=none
 cs:∀x d,(x,d)∈G.cs->∃v u,X.mg x=some u/\RelV v u/\yl X.K d v
 dk:∀x kvs,(x,kvs)∈G.dk->∃a,X.mg x=some (.ref a)/\∀h:Heap,X.K.In h->StrTab X.prog X.w h a (tabOf kvs)
section
variable(G:Tb)(n:Nat)(sc:Scope)(N:List Str)(df:Bool)(m:List Nat)
noncomputable def JE(e:E)(x:Expr):Prop:=∀X,Good G n sc N df X->PE X x (tJ X.K m (Ev.run G.F G.w n) e)
noncomputable def JT(e:E)(x:Expr):Prop:=∀X,Good G n sc N df X->PT X x (FA X.K m (Ev.run G.F G.w n) e)
noncomputable def JW(e:E)(x:Expr):Prop:=∀X,Good G n sc N df X->PW X x (FA X.K m (Ev.run G.F G.w n) e)
noncomputable def JA(es:Es)(xs:List Expr):Prop:=∀X,Good G n sc N df X->PA X xs (KQ X.K m (Ev.run G.F G.w n) es)
noncomputable def JO(e:Eo)(x:Option Expr):Prop:=∀X,Good G n sc N df X->PO X x (PZ X.K m (Ev.run G.F G.w n) e)
end
section
variable{G:Tb}{n:Nat}{sc:Scope}{N:List Str}{df:Bool}{m:List Nat}{a b c:E}{xa xb:Expr}{pos:Pos}
def Good.vis{X:Cx}(g:Good G n sc N df X){x:Str}(h:sc.names.lookup x=some .local\/sc.names.lookup x=some .cell\/sc.names.lookup x=some .free):tu X.env.scope x:=by
 rw[g.sc];exact h
def Good.gl{X:Cx}(g:Good G n sc N df X){x:Str}(h:sc.names.lookup x=some .globalImplicit):Gl X x:=by
 unfold Gl Env.kindOf;rw[g.sc];exact h
def Rq(j i:Nat){x:Str}(hj:m[j]?=some i:=by rfl)(hN:N[j]?=some x:=by rfl)
  (hv:sc.names.lookup x=some .local\/sc.names.lookup x=some .cell\/sc.names.lookup x=some .free:=by first|exact Or.inl rfl|exact Or.inr (Or.inl rfl)|exact Or.inr (Or.inr rfl))
  (hd:(x==("__debug__" : Str))=false:=by decide) (hcd:(x==("__classdict__" : Str))=false:=by decide):JE G n sc N df m (.v i) (.Name x pos):=by
 intro X g;refine PE.of (qp (i:=j) (by rw[g.nm];exact hN) (g.vis hv) hd hcd) λs H Q q=>?_;obtain⟨r,fr,h,d,h',sr,hr,e,q⟩:=q;simp only[Ev.ev]at e;obtain⟨e2,e3⟩:=Ev.aC e;subst e3;obtain⟨v,q1,q2⟩:=sr.sl j i d hj (by
  cases z:fr[i]? with
  |none=>rw[z]at e2;cases e2
  |some o=>
   rw[z]at e2;have e':o=some d:=e2;rw[e'])
 exact⟨v,q1,q.here q2 hr⟩
def uI{K:PySem.W.Frag}{P:aB}{d:D}{v:V}(hc:yl K d v):∀s H Q,tJ K m P (.c d) s H Q->tC v s H Q:=λs H Q q=>by
 obtain⟨r,fr,h,d',h',sr,hr,e,q⟩:=q;simp only[Ev.ev]at e;cases e;exact q.here hc.rv hr
def KS{i:Int}{j}:JE G n sc N df m (.c (.int i)) (.Constant (.int i) j pos):=λX g=>PE.of A8 (uI λ_ _=>rfl)
def Oi{k:Bool}{j}:JE G n sc N df m (.c (.bl k)) (.Constant (.bool k) j pos):=λX g=>PE.of NV (uI λ_ _=>rfl)
def KU{l:List Nat}{x:Str}{j}(hx:x=au l:=by decide +kernel)(hl:l.length<=sizeLine:=by decide):JE G n sc N df m (.c (.str l)) (.Constant (.str x) j pos):=
 λX g=>PE.of qq (uI λ_ _=>by subst hx;exact⟨rfl,hl⟩)
def iO {x:Str}{d:D}(hm:(x,d)∈G.cs) (hg:sc.names.lookup x=some .globalImplicit:=by rfl) (hd:(x==("__debug__" : Str))=false:=by decide):JE G n sc N df m (.c d) (.Name x pos):=λX g=>by
 obtain⟨v,u,h1,h2,h3⟩:=g.cs x d hm;exact PE.of (oF (g.gl hg) h1 h2 hd) (uI h3)
def KW:JA G n sc N df m .nil []:=λX g=>PA.of kN λs H Q q=>by
 obtain⟨r,fr,h,ds,h',sr,hr,e,q⟩:=q;simp only[Ev.bJ]at e;cases e;exact q [] H r .nil hr .refl
def HM{es:Es}{xs:List Expr}(ha:JE G n sc N df m a xa)(hs:JA G n sc N df m es xs)(hst:∀env:Env,starEach (xa :: xs) env=(false,eval xa env) :: starEach xs env:=by intro _;rfl):JA G n sc N df m (.cons a es) (xa :: xs):=
 λX g=>PA.of (er (ha X g) (hs X g) (hst _)) λs H Q q=>by
  obtain⟨r,fr,h,ds,h',sr,hr,e,q⟩:=q;simp only[Ev.bJ]at e;obtain⟨d,h1,e1,e⟩:=Ev.ah e;obtain⟨ds',h2,e2,e⟩:=Ev.ah e;cases e;refine⟨r,fr,h,d,h1,sr,hr,e1,λv H1 r1 v1 hr1 f1=>?_⟩;refine⟨r1,fr,h1,ds',_,sr.mono f1,hr1,e2,λvs H2 r2 v2 hr2 f2=>?_⟩;exact q _ H2 r2 (.cons (v1.mono f2) v2) hr2 (f1.trans f2)
def KY{es:Es}{xs:List Expr}{k}(hs:JA G n sc N df m es xs):JE G n sc N df m (.tup es) (.Tuple xs k pos):=λX g=>PE.of (uY (hs X g)) λs H Q q=>by
 obtain⟨r,fr,h,d,h',sr,hr,e,q⟩:=q;simp only[Ev.ev]at e;obtain⟨ds,h1,e1,e⟩:=Ev.ah e;split at e
 .rename_i z;cases e;refine⟨r,fr,h,ds,_,sr,hr,e1,λvs H1 r1 v1 hr1 f1=>⟨by rw[v1.length,<-jO];exact z,λp hp=>?_⟩⟩;exact(q.later f1).tup v1 hr1 hp
 .cases e
def KZ{es:Es}{xs:List Expr}(hs:JA G n sc N df m es xs):JE G n sc N df m (.lst es) (.List xs pos):=λX g=>PE.of (Bl (hs X g)) λs H Q q=>by
 obtain⟨r,fr,h,d,h',sr,hr,e,q⟩:=q;simp only[Ev.ev]at e;obtain⟨ds,h1,e1,e⟩:=Ev.ah e;refine⟨r,fr,h,ds,h1,sr,hr,e1,λvs H1 r1 v1 hr1 f1=>?_⟩;exact(q.later f1).lst e v1 hr1
def qB{K:PySem.W.Frag}{P:aB}{f:D->D->Hh->R D}{e':E}(he:∀fr h,Ev.ev P e' fr h=(Ev.ev P a fr h).bind λx h1=>(Ev.ev P b fr h1).bind λy h2=>f x y h2) :
  ∀s H Q,tJ K m P e' s H Q->Bj (fQ K f) (tJ K m P a) (tJ K m P b) s H Q:=λs H Q q=>by
 obtain⟨r,fr,h,d,h',sr,hr,e,q⟩:=q;rw[he]at e;obtain⟨x,h1,e1,e⟩:=Ev.ah e;obtain⟨y,h2,e2,e⟩:=Ev.ah e;refine⟨r,fr,h,x,h1,sr,hr,e1,λv H1 r1 v1 hr1 f1=>?_⟩;refine⟨r1,fr,h1,y,h2,sr.mono f1,hr1,e2,λu H2 r2 v2 hr2 f2=>?_⟩;exact⟨r2,h2,x,y,d,h',hr2,v1.mono f2,v2,e,q.later (f1.trans f2)⟩
def qC{o:aQ}{op:Operator}(ho:∀X,Good G n sc N df X->cH X (binaryOp op) (fQ X.K (Ev.bY o)))(ha:JE G n sc N df m a xa)(hb:JE G n sc N df m b xb):JE G n sc N df m (.bin o a b) (.BinOp xa op xb pos):=
 λX g=>PE.of (N4 (ho X g) (ha X g) (hb X g)) (qB λfr h=>by simp only[Ev.ev])
noncomputable def dZ(o:aK):D->D->Hh->R D:=λx y h=>R.of ((Ev.cop o x y h).map .bl) h
def Bw{o:aK}{op:CmpOp}(ho:∀X,Good G n sc N df X->cH X (compareOp op) (fQ X.K (dZ o)))(ha:JE G n sc N df m a xa)(hb:JE G n sc N df m b xb)(hm:behindInMarks op xb=false):JE G n sc N df m (.cmp o a b) (.Compare xa [op] [xb] pos):=
 λX g=>PE.of (Ht (ho X g) (ha X g) (hb X g) hm) (qB λfr h=>by simp only[Ev.ev,dZ])
def iP{o:aK}{x y d:D}{h h':Hh}(e:dZ o x y h=.ok d h'):∃k,Ev.cop o x y h=some k/\d=.bl k/\h'=h:=by
 unfold dZ at e;obtain⟨e1,rfl⟩:=Ev.aC e;cases z:Ev.cop o x y h' with
 |none=>rw[z]at e1;cases e1
 |some k=>rw[z]at e1;cases e1;exact⟨k,rfl,rfl,rfl⟩
def qD{o:aK}{op:CmpOp}(ho:∀X,Good G n sc N df X->cH X (compareOp op) (fQ X.K (dZ o)))(ha:JE G n sc N df m a xa)(hb:JE G n sc N df m b xb)(hm:behindInMarks op xb=false):JT G n sc N df m (.cmp o a b) (.Compare xa [op] [xb] pos):=
 λX g=>PT.of (yg (ho X g) (ha X g) (hb X g) hm) λs H Q q=>by
  obtain⟨r,fr,h,k,h',sr,hr,e,q⟩:=q;simp only[Ev.aG]at e;obtain⟨d,h1,e1,e⟩:=Ev.ah e;have e0:=e1;simp only[Ev.ev]at e0;obtain⟨x,h2,_,e0⟩:=Ev.ah e0;obtain⟨y,h3,_,e0⟩:=Ev.ah e0;obtain⟨k',e2,e3,e4⟩:=iP (o:=o) (show dZ o x y h3=_ from e0);subst e3;simp only[Ev.truthy]at e;cases e;refine qB (e':=.cmp o a b) (f:=dZ o) (λfr h=>by simp only[Ev.ev,dZ]) s H _ ⟨r,fr,h,.bl k,_,sr,hr,e1,λv H1 r1 v1 hr1 f1=>?_⟩;exact⟨k,v1,q H1 r1 hr1 f1⟩
def FD{K:PySem.W.Frag}{P:aB}{o p:aK}:∀s H Q,tJ K m P (.ch o p a b c) s H Q->uX (fQ K (dZ o)) (fQ K (dZ p)) (tJ K m P a) (tJ K m P b) (tJ K m P c) s H Q:=λs H Q q=>by
 obtain⟨r,fr,h,d,h',sr,hr,e,q⟩:=q;simp only[Ev.ev]at e;obtain⟨x,h1,e1,e⟩:=Ev.ah e;obtain⟨y,h2,e2,e⟩:=Ev.ah e;obtain⟨k,h3,e3,e⟩:=Ev.ah e;obtain⟨e3,e4⟩:=Ev.aC e3;subst e4;refine⟨r,fr,h,x,h1,sr,hr,e1,λv H1 r1 v1 hr1 f1=>?_⟩;refine⟨r1,fr,h1,y,h3,sr.mono f1,hr1,e2,λu H2 r2 v2 hr2 f2=>?_⟩;refine⟨r2,h3,x,y,.bl k,h3,hr2,v1.mono f2,v2,by simp[dZ,e3],λw H3 r3 v3 j3 f3=>?_⟩;refine⟨k,v3,?_⟩;cases k with
 |false=>
  simp only[Vi,VG]at e;cases e;exact(q.later ((f1.trans f2).trans f3)).here rfl j3
 |true=>
  simp only[Vj]at e;obtain⟨z,h4,e5,e⟩:=Ev.ah e;refine⟨r3,fr,h3,z,h4,((sr.mono f1).mono f2).mono f3,j3,e5,λt H4 r4 v4 ym f4=>?_⟩;exact⟨r4,h4,y,z,d,h',ym,(v2.mono f3).mono f4,v4,e,q.later (((f1.trans f2).trans f3).trans f4)⟩
end
section
variable{G:Tb}{n:Nat}{sc:Scope}{N:List Str}{df:Bool}{m:List Nat}{a b c:E}{xa xb xc:Expr}{pos:Pos}
def Oj{o p:aK}{op op':CmpOp}(ho:∀X,Good G n sc N df X->cH X (compareOp op) (fQ X.K (dZ o)))(hp:∀X,Good G n sc N df X->cH X (compareOp op') (fQ X.K (dZ p)))
  (ha:JE G n sc N df m a xa) (hb:JE G n sc N df m b xb) (hc:JE G n sc N df m c xc) (hm:lastMarks [op,op'] [xb,xc]=false:=by with_unfolding_all rfl):JE G n sc N df m (.ch o p a b c) (.Compare xa [op,op'] [xb,xc] pos):=
 λX g=>PE.of (Dr (ho X g) (hp X g) (ha X g) (hb X g) (hc X g) hm) FD
def Ol{K:PySem.W.Frag}{P:aB}{e':E}{t:TE}(h:∀s H Q,tJ K m P e' s H Q->t s H Q)(hb:∀fr h d h',Ev.ev P e' fr h=.ok d h'->∃k,d=.bl k)
  (ht:∀fr h,Ev.aG P e' fr h=(Ev.ev P e' fr h).bind λx h1=>R.of (Ev.truthy h1 x) h1):∀s H Q,FA K m P e' s H Q->zQ t s H Q:=λs H Q q=>by
 obtain⟨r,fr,h1,k,h',sr,hr,e,q⟩:=q;rw[ht]at e;obtain⟨d,h2,e1,e⟩:=Ev.ah e;obtain⟨k',e2⟩:=hb _ _ _ _ e1;subst e2;simp only[Ev.truthy]at e;cases e;exact h s H _ ⟨r,fr,h1,.bl k,_,sr,hr,e1,λv H1 r1 v1 hr1 f1=>⟨k,v1,q H1 r1 hr1 f1⟩⟩
def Om{P:aB}{o p:aK}(fr:Fr)(h:Hh)(d:D)(h':Hh)(e:Ev.ev P (.ch o p a b c) fr h=.ok d h'):∃k,d=.bl k:=by
 simp only[Ev.ev]at e;obtain⟨x,h1,e1,e⟩:=Ev.ah e;obtain⟨y,h2,e2,e⟩:=Ev.ah e;obtain⟨k,h3,e3,e⟩:=Ev.ah e;split at e
 .obtain⟨z,h4,e5,e⟩:=Ev.ah e;obtain⟨k',_,e6,_⟩:=iP (o:=p) (show dZ p y z h4=_ from e);exact⟨k',e6⟩
 .cases e;exact⟨false,rfl⟩
def Oo{o p:aK}{op op':CmpOp}(ho:∀X,Good G n sc N df X->cH X (compareOp op) (fQ X.K (dZ o)))(hp:∀X,Good G n sc N df X->cH X (compareOp op') (fQ X.K (dZ p)))
  (ha:JE G n sc N df m a xa) (hb:JE G n sc N df m b xb) (hc:JE G n sc N df m c xc) (hm:lastMarks [op,op'] [xb,xc]=false:=by with_unfolding_all rfl):JT G n sc N df m (.ch o p a b c) (.Compare xa [op,op'] [xb,xc] pos):=
 λX g=>PT.of (Ds (ho X g) (hp X g) (ha X g) (hb X g) (hc X g) hm) (Ol FD Om λfr h=>by simp only[Ev.aG])
def K0{op}(ha:JE G n sc N df m a xa):JE G n sc N df m a (.BoolOp op [xa] pos):=λX g=>J9 (ha X g)
def Oq{rest:List Expr}(ha:JE G n sc N df m a xa)(hb:JE G n sc N df m b (.BoolOp .And (xb :: rest) pos)):JE G n sc N df m (.an a b) (.BoolOp .And (xa :: xb :: rest) pos):=λX g=>PE.of (Ka (ha X g) (hb X g)) λs H Q q=>by
 obtain⟨r,fr,h,d,h',sr,hr,e,q⟩:=q;simp only[Ev.ev]at e;obtain⟨x,h1,e1,e⟩:=Ev.ah e;refine⟨r,fr,h,x,h1,sr,hr,e1,λv H1 r1 v1 hr1 f1=>?_⟩;split at e
 .exact⟨true,v1,r1,fr,h1,d,h',sr.mono f1,hr1,e,q.later f1⟩
 .cases e;exact⟨false,v1,(q.later f1).here rfl hr1⟩
 .cases e
def Rt(h:JW G n sc N df m a xa):JT G n sc N df m a xa:=λX g=>(h X g).pt
def HN(ha:JT G n sc N df m a xa):JW G n sc N df m a (.BoolOp .Or [xa] pos):=λX g=>A9 (ha X g)
def Bx{rest:List Expr}(ha:JT G n sc N df m a xa)(hb:JW G n sc N df m b (.BoolOp .Or (xb :: rest) pos)):JW G n sc N df m (.orr a b) (.BoolOp .Or (xa :: xb :: rest) pos):=λX g=>PW.of (Fj (ha X g) (hb X g)) λs H Q q=>by
 obtain⟨r,fr,h,k,h',sr,hr,e,q⟩:=q;simp only[Ev.aG]at e;obtain⟨k1,h1,e1,e⟩:=Ev.ah e;refine⟨r,fr,h,k1,h1,sr,hr,e1,λH1 r1 hr1 f1=>?_⟩;cases k1 with
 |false=>exact⟨r1,fr,h1,k,h',sr.mono f1,hr1,e,λH2 r2 hr2 f2=>q H2 r2 hr2 (f1.trans f2)⟩
 |true=>
  have e':R.ok true h1=R.ok k h':=e;cases e';exact q H1 r1 hr1 f1
def Ot(ha:JT G n sc N df m a xa):JT G n sc N df m (.nt a) (.UnaryOp .Not xa pos):=λX g=>PT.of (Ba (ha X g)) λs H Q q=>by
 obtain⟨r,fr,h,k,h',sr,hr,e,q⟩:=q;simp only[Ev.aG]at e;obtain⟨k1,h1,e1,e⟩:=Ev.ah e;cases e;exact⟨r,fr,h,k1,_,sr,hr,e1,λH1 r1 hr1 f1=>q H1 r1 hr1 f1⟩
def K1{K:PySem.W.Frag}{H:Hp}{r:List Addr}{h:Hh}{d:D}{v:V}{k:Bool}(hr:HR K H r h)(v1:RV K H r d v)(e:Ev.truthy h d=some k):Dt K v H k:=by
 cases d with
 |bf=>simp only[RV]at v1;subst v1;cases e;rfl
 |bl x=>simp only[RV]at v1;subst v1;cases e;rfl
 |int x=>simp only[RV]at v1;subst v1;cases e;rfl
 |str x=>
  simp only[RV]at v1;obtain⟨rfl,z⟩:=v1;cases e;refine⟨by rw[aO];exact z,?_⟩;rw[aO];cases x with
  |nil=>rfl
  |cons c l=>simp;omega
 |tup ds=>
  simp only[RV]at v1;obtain⟨p,vs,rfl,z,q⟩:=v1;cases e;refine .inr (.inl ⟨vs,z,?_⟩);have hl:=q.length;cases ds<;>cases vs<;>simp_all
 |ref i=>
  simp only[RV]at v1;obtain⟨p,rfl,z⟩:=v1;by_cases hss:∃kvs,h[i]?=some (.dm kvs)
  .obtain⟨kvs,e1⟩:=hss;simp only[Ev.truthy,e1]at e;obtain⟨p',z1,z2,_⟩:=hr.dm e1;rw[z]at z1;cases z1;refine .inr (.inr ⟨_,z2,?_⟩);cases e;cases kvs<;>rfl
  have et:Ev.truthy h (.ref i)=(Ev.aR h i).map λds=>!ds.isEmpty:=by
   first
    |rfl
    | (simp only[Ev.truthy];split<;>first|rfl | (rename_i kvs z;first|exact(By ⟨kvs,z⟩).elim|exact(hss ⟨kvs,z⟩).elim))
  rw[et]at e;simp only[cz]at e;obtain⟨ds,e1,rfl⟩:=e;obtain⟨p',vs,e2,q1,q2⟩:=hr.read e1;rw[z]at e2;cases e2;refine .inl ⟨vs,q1,?_⟩;have hl:=q2.length;cases ds<;>cases vs<;>simp_all
def K2(ha:JE G n sc N df m a xa)(he:∀(P:aB) fr h,Ev.aG P a fr h=(Ev.ev P a fr h).bind λx h1=>R.of (Ev.truthy h1 x) h1:=by intros;simp only[Ev.aG])
  (hx:∀(env:Env) whole,isTrue xa env whole=(do let v <-whole;standAt xa.pos;holding [v] (truthy v)):=by intro _ _;rfl):JT G n sc N df m a xa:=λX g=>PT.of (Dv (ha X g) (hx _)) λs H Q q=>by
 obtain⟨r,fr,h,k,h',sr,hr,e,q⟩:=q;rw[he]at e;obtain⟨d,h1,e1,e⟩:=Ev.ah e;obtain⟨e,rfl⟩:=Ev.aC e;refine⟨r,fr,h,d,_,sr,hr,e1,λv H1 r1 v1 hr1 f1=>⟨k,K1 hr1 v1 e,q H1 r1 hr1 f1⟩⟩
noncomputable def K3:D->D->Hh->R D:=λx y h=>R.of (Ev.gz x y h) h
def Ou(ho:∀X,Good G n sc N df X->yi X (fQ X.K K3))(ha:JE G n sc N df m a xa)(hb:JE G n sc N df m b xb)(hs:rN xb:=by intro _ _;rfl):JE G n sc N df m (.ix a b) (.Subscript xa xb pos):=
 λX g=>PE.of (Oc (ho X g) (ha X g) (hb X g) hs) (qB λfr h=>by simp only[Ev.ev,K3])
def Ov:JO G n sc N df m .no none:=λX g=>PO.of Hx λs H Q q=>by
 obtain⟨r,fr,h,o,h',sr,hr,e,q⟩:=q;simp only[Ev.fN]at e;cases e;exact q H r hr .refl
def K4(ha:JE G n sc N df m a xa):JO G n sc N df m (.yes a) (some xa):=λX g=>PO.of (Hy (ha X g)) λs H Q q=>by
 obtain⟨r,fr,h,o,h',sr,hr,e,q⟩:=q;simp only[Ev.fN]at e;obtain⟨d,h1,e1,e⟩:=Ev.ah e;obtain⟨e,rfl⟩:=Ev.aC e;cases d with
 |int i=>
  cases e;exact⟨r,fr,h,.int i,_,sr,hr,e1,λv H1 r1 v1 hr1 f1=>⟨i,v1,q H1 r1 hr1 f1⟩⟩
 |_=>cases e
def Ow{lo hi:Eo}{xl xh:Option Expr}{p2}(ho:∀X,Good G n sc N df X->kP X (KR X.K))(ha:JE G n sc N df m a xa)(hl:JO G n sc N df m lo xl)(hu:JO G n sc N df m hi xh):JE G n sc N df m (.sl a lo hi) (.Subscript xa (.Slice xl xh none p2) pos):=
 λX g=>PE.of (Dz (ho X g) (ha X g) (hl X g) (hu X g)) λs H Q q=>by
  obtain⟨r,fr,h,d,h',sr,hr,e,q⟩:=q;simp only[Ev.ev]at e;obtain⟨x,h1,e1,e⟩:=Ev.ah e;obtain⟨l,h2,e2,e⟩:=Ev.ah e;obtain⟨u,h3,e3,e⟩:=Ev.ah e;refine⟨r,fr,h,x,h1,sr,hr,e1,λv H1 r1 v1 hr1 f1=>?_⟩;refine⟨r1,fr,h1,l,h2,sr.mono f1,hr1,e2,λH2 r2 hr2 f2=>?_⟩;refine⟨r2,fr,h2,u,h3,(sr.mono f1).mono f2,hr2,e3,λH3 r3 j3 f3=>?_⟩;exact⟨r3,h3,x,d,h',j3,(v1.mono f2).mono f3,e,q.later ((f1.trans f2).trans f3)⟩
def yo{K:PySem.W.Frag}{P:aB}{es:Es}{f:List D->Hh->R D}{e':E}(he:∀fr h,Ev.ev P e' fr h=(Ev.bJ P es fr h).bind f) :
  ∀s H Q,tJ K m P e' s H Q->Kr (tR K f) (KQ K m P es) s H Q:=λs H Q q=>by
 obtain⟨r,fr,h,d,h',sr,hr,e,q⟩:=q;rw[he]at e;obtain⟨ds,h1,e1,e⟩:=Ev.ah e;exact⟨r,fr,h,ds,h1,sr,hr,e1,λvs H1 r1 v1 hr1 f1=>⟨r1,h1,ds,d,h',hr1,v1,e,q.later f1⟩⟩
def FE{k:BI}{es:Es}{x:Str}{id:String}{e0:Expr}{xs:List Expr}{p:Pos}(hc:∀X,Good G n sc N df X->fM X (.builtin id) (tR X.K (Ev.dM k)))(hs:JA G n sc N df m es (e0 :: xs))(hb:x∈G.bl:=by decide +kernel)
  (hg:sc.names.lookup x=some .globalImplicit:=by rfl) (hv:bootBuiltins x=some (.builtin id)) (hn:x≠"__name__" :=by decide) (hd:(x==("__debug__" : Str))=false:=by decide)
  (hst:∀env:Env,starEach (e0 :: xs) env=(false,eval e0 env) :: starEach xs env:=by intro _;rfl) (hpl:∀env:Env,(backTo pos (starEach xs env)).any (·.1)=false:=by intro _;rfl) :
  JE G n sc N df m (.bi k es) (.Call (.Name x p) (e0 :: xs) [] pos):=
 λX g=>PE.of (pO (hc X g) (g.gl hg) (g.bl x hb) hv (hs X g) hn hd (hst _) (hpl _)) (yo λfr h=>by simp only[Ev.ev])
def FF{k:BI}{es:Es}{x:Str}{id:String}{e0:Expr}{xs:List Expr}{p:Pos}(hc:∀X,Good G n sc N df X->fM X (.type id) (tR X.K (Ev.dM k)))(hs:JA G n sc N df m es (e0 :: xs))(hb:x∈G.bl:=by decide +kernel)
  (hg:sc.names.lookup x=some .globalImplicit:=by rfl) (hv:bootBuiltins x=some (.type id)) (hn:x≠"__name__" :=by decide) (hd:(x==("__debug__" : Str))=false:=by decide)
  (hst:∀env:Env,starEach (e0 :: xs) env=(false,eval e0 env) :: starEach xs env:=by intro _;rfl) (hpl:∀env:Env,(backTo pos (starEach xs env)).any (·.1)=false:=by intro _;rfl) :
  JE G n sc N df m (.bi k es) (.Call (.Name x p) (e0 :: xs) [] pos):=
 λX g=>PE.of (mV (hc X g) (g.gl hg) (g.bl x hb) hv (hs X g) hn hd (hst _) (hpl _)) (yo λfr h=>by simp only[Ev.ev])
def Ox{f:Nat}{i:FI}{es:Es}{e0:Expr}{xs:List Expr}{p:Pos}(hf:G.fi[f]?=some i)(hs:JA G n sc N df m es (e0 :: xs))
  (hg:sc.names.lookup i.name=some .globalImplicit:=by rfl) (hd:(i.name==("__debug__" : Str))=false:=by decide)
  (hst:∀env:Env,starEach (e0 :: xs) env=(false,eval e0 env) :: starEach xs env:=by intro _;rfl) (hpl:∀env:Env,(backTo pos (starEach xs env)).any (·.1)=false:=by intro _;rfl) :
  JE G n sc N df m (.cl f es) (.Call (.Name i.name p) (e0 :: xs) [] pos):=λX g=>by
 obtain⟨h1,h2,h3,h4⟩:=g.fn f i hf;refine PE.of (rH h4 g.room (g.gl hg) h1 h2 h3 .nil Oe (hs X g) hd (hst _) (hpl _)) λs H Q q=>?_;obtain⟨r,fr,h,d,h',sr,hr,e,q⟩:=q;simp only[Ev.ev]at e;obtain⟨ds,h5,e1,e⟩:=Ev.ah e;refine⟨r,fr,h,ds,h5,sr,hr,e1,λvs H1 r1 v1 hr1 f1=>?_⟩;exact⟨r1,h5,ds,d,h',by rw[VE];exact v1,hr1,e,q.later f1⟩
noncomputable def DK:ME->String
 |.join=>"str"
 |.part=>"str"
 |.idxs=>"str"
 |_=>"list"
def BA{K:PySem.W.Frag}{H:Hp}{r:List Addr}{h:Hh}{k:ME}{d:D}{v:V}{ty:String}(hr:HR K H r h)(v1:RV K H r d v)(e:Ev.qz k d h=true)(ht:ty=DK k):Bo K ty v H:=by
 subst ht;have lst:∀i,d=.ref i->(Ev.aR h i).isSome=true->Bo K "list" v H:=λi ed es=>by
  subst ed;obtain⟨ds,e1⟩:=Option.isSome_iff_exists.mp es;obtain⟨p,vs,e2,q1,q2⟩:=hr.read e1;simp only[RV]at v1;obtain⟨p',rfl,e3⟩:=v1;rw[e2]at e3;cases e3;exact .inl ⟨rfl,vs,q1⟩
 cases k with
 |join=>
  cases d with
  |str l=>simp only[RV]at v1;obtain⟨rfl,_⟩:=v1;rfl
  |_=>cases e
 |part=>
  cases d with
  |str l=>simp only[RV]at v1;obtain⟨rfl,_⟩:=v1;rfl
  |_=>cases e
 |idxs=>
  cases d with
  |str l=>simp only[RV]at v1;obtain⟨rfl,_⟩:=v1;rfl
  |_=>cases e
 |append=>cases d with|ref i=>exact lst i rfl e|_=>cases e
 |extend=>cases d with|ref i=>exact lst i rfl e|_=>cases e
 |pop=>cases d with|ref i=>exact lst i rfl e|_=>cases e
def Ab {k:ME}{es:Es}{e0:Expr}{xs:List Expr}{name:Str}{apos:Pos}{ty id:String}(pa:PlainAttrs ty) (slot:Slot ty name id) (hty:typeOf (.builtin id)=pure (.type "method_descriptor"))
  (hm:∀X,Good G n sc N df X->qv X id (tS X.K (Ev.cI k))) (ht:ty=DK k) (ha:JE G n sc N df m a xa) (hs:JA G n sc N df m es (e0 :: xs))
  (hbase:∀env:Env,attributeBase xa name env (eval xa env)=eval xa env:=by intro _;rfl)
  (hfew:∀env:Env,((backTo pos (starEach (e0 :: xs) env)).all (λx=>!x.1)&&(backToKw pos (keywordEach [] env)).all (λx=>x.1.isSome)
   &&decide ((e0 :: xs).length+([]:List Keyword).length+(if ([]:List Keyword).isEmpty then 0 else 1)<30))=true:=by intro _;rfl)
  (hline:(apos.endLine==pos.line)=true:=by rfl) (hst:∀env:Env,starEach (e0 :: xs) env=(false,eval e0 env) :: starEach xs env:=by intro _;rfl) (hpl:∀env:Env,(backTo pos (starEach xs env)).any (·.1)=false:=by intro _;rfl) :
  JE G n sc N df m (.me k a es) (.Call (.Attribute xa name apos) (e0 :: xs) [] pos):=λX g=>
 PE.of (Fv pa slot hty (hm X g) (ha X g) (hs X g) (hbase _) (hfew _) hline (hst _) (hpl _)) λs H Q q=>by
  obtain⟨r,fr,h,d,h',sr,hr,e,q⟩:=q;simp only[Ev.ev]at e;obtain⟨x,h1,e1,e⟩:=Ev.ah e;split at e
  .rename_i hk;obtain⟨ds,h2,e2,e⟩:=Ev.ah e;refine⟨r,fr,h,x,h1,sr,hr,e1,λv H1 r1 v1 hr1 f1=>⟨BA hr1 v1 hk ht,?_⟩⟩;refine⟨r1,fr,h1,ds,h2,sr.mono f1,hr1,e2,λvs H2 r2 v2 hr2 f2=>?_⟩;exact⟨r2,h2,x,ds,d,h',hr2,v1.mono f2,v2,e,q.later (f1.trans f2)⟩
  .cases e
def K5 {k:ME}{name:Str}{apos:Pos}{ty id:String}(pa:PlainAttrs ty) (slot:Slot ty name id) (hty:typeOf (.builtin id)=pure (.type "method_descriptor"))
  (hm:∀X,Good G n sc N df X->qv X id (tS X.K (Ev.cI k))) (ht:ty=DK k) (ha:JE G n sc N df m a xa)
  (hbase:∀env:Env,attributeBase xa name env (eval xa env)=eval xa env:=by intro _;rfl) (hline:(apos.endLine==pos.line)=true:=by rfl) :
  JE G n sc N df m (.me k a .nil) (.Call (.Attribute xa name apos) [] [] pos):=λX g=>
 PE.of (Ky pa slot hty (hm X g) (ha X g) (hbase _) hline) λs H Q q=>by
  obtain⟨r,fr,h,d,h',sr,hr,e,q⟩:=q;simp only[Ev.ev]at e;obtain⟨x,h1,e1,e⟩:=Ev.ah e;split at e
  .rename_i hk;simp only[Ev.bJ,Ev.aj]at e;refine⟨r,fr,h,x,h1,sr,hr,e1,λv H1 r1 v1 hr1 f1=>⟨BA hr1 v1 hk ht,?_⟩⟩;exact⟨r1,h1,x,[],d,h',hr1,v1,.nil,e,q.later f1⟩
  .cases e
end
end Sm
namespace Sm
open PySem PySem.Spec PyProof.Rows L2
open Ev (D O Hh Fr R aB E Es Eo T S Ss Fl Src aQ aK TY BI ME)
noncomputable def ng(K:PySem.W.Frag)(r0:List Addr)(H0:Hp)(s:Src)(J:L2.It):Prop:=∀(i:Nat) H1 r1 h1,HR K H1 r1 h1->Fm K r0 r1 H0 H1->Ev.stays h1 s.2=true->
 (∀d,s.1[i]?=some d->J.go i H1/\∀x H2,J.Fq i H1 x H2->∃r2,RV K H2 r2 d x/\HR K H2 r2 h1/\Fm K r1 r2 H1 H2)/\(s.1.length<=i->J.stop i H1)
inductive P0(K:PySem.W.Frag)(m:List Nat)(P:aB)(it:Ev.It)(s:L2.St)(H:Hp)(Rr:L2.It->Hp->Prop):Prop
 |mk (r:List Addr) (fr:Fr) (h:Hh) (src:Src) (h':Hh) (c0:SR K m H r fr s) (c1:HR K H r h) (c2:Ev.bQ P it fr h=.ok src h') (c3:∀J H' r',HR K H' r' h'->Fm K r r' H H'->ng K r' H' src J->Rr J H'):P0 K m P it s H Rr
noncomputable def JI(G:Tb)(n:Nat)(sc:Scope)(N:List Str)(df:Bool)(m:List Nat)(it:Ev.It)(tg x:Expr):Prop:=∀X,Good G n sc N df X->PI X tg x (P0 X.K m (Ev.run G.F G.w n) it)
noncomputable def FG(z:Str):L2.It:=⟨λi _=>i<z.length,λi H x H'=>H'=H/\∃c,z.cps[i]?=some c/\x=.str ⟨#[c]⟩,λi _=>z.length<=i⟩
def K6{M:Model}{A:Around}{E:Value->Shared->Prop}{s:Shared}{tg:Expr}{it:Value}{x:Str}{t:Tok}{Q:Unit->Shared->Prop}(hQ:Q () s):wpAny M A (letOwnedTupleGo tg it (.str x t)) Q E s:=by
 unfold letOwnedTupleGo;cases tg<;>first
  |exact EZ hQ
  | (cases it<;>exact EZ hQ)
def vh {P:Program}{w:World}{K:PySem.W.Frag}{tg:Expr}(z:Str) (t:Tok) (it:Addr) (ty:String) (hty:ty = "str_ascii_iterator" \/ty = "str_iterator") :
  Turn P w K tg (FG z) [it] it (λi h=>h.IsStrIter it ty z t i) where
 mem:=by simp
 obj:=λi h st b hb=>by
  have e:b=it:=by simpa using hb
  subst e;obtain⟨o,e,c,d⟩:=st;exact⟨o,e,λv z=>by rw[d]at z;cases z⟩
 keep:=λi h h' st k=>by
  obtain⟨o,e,c,d⟩:=st;exact⟨o,k it (by simp) o e,c,d⟩
 item:=by
  intro X hP hw hK hc i pins s σ H E I hf st hg;subst hP hw hK;obtain⟨f0,f1,f2,f3,f4,f5⟩:=hf it (by simp);have W:Walks X.prog X.w X.A it [it] [it] z.cps.size (SignAt z) (λi h=>h.IsStrIter it ty z t i):=by
   rcases hty with e|e
   .subst e;exact Walks.strAscii (I.ok.hd hc) it z t
   .subst e;exact Walks.strWide (I.ok.hd hc) it z t
  refine W.item i s _ _ hg st λv h' tk hv st' kk=>?_;obtain⟨c,u,hc',rfl⟩:=hv;have I1:Inv X pins σ H { s with heap:=h',toks:=tk }:=I.turned (λb o hb e=>kk b o (by simpa using hb) e) f0 f1 f3 f4 f5;exact⟨_,rfl,K6 ⟨.str ⟨#[c]⟩,H,I1,⟨u,rfl⟩,⟨rfl,c,hc',rfl⟩,st',λb hb=>(hf b hb).1⟩⟩
 done:=by
  intro X hP hw hK hc i pins s σ H E I hf st hg;subst hP hw hK;obtain⟨f0,f1,f2,f3,f4,f5⟩:=hf it (by simp);rcases hty with e|e
  .subst e;exact wpAny_pyNext_ascii_end (I.ok.hd hc) st (by simpa[Str.length,FG]using hg) λh' eb=>⟨rfl,I.turned (t':=s.toks) (λb o hb e=>eb b o hb e) f0 f1 f3 f4 f5⟩
  .subst e;exact wpAny_pyNext_wide_end (I.ok.hd hc) st (by simpa[Str.length,FG]using hg) λh' eb=>⟨rfl,I.turned (t':=s.toks) (λb o hb e=>eb b o hb e) f0 f1 f3 f4 f5⟩
 self:=λ_ _ _ _ _ st h=>by
  rcases hty with e|e
  .subst e;exact wpAny_pyIter_striter_ascii st h
  .subst e;exact wpAny_pyIter_striter_wide st h
noncomputable def FH(K:PySem.W.Frag)(x:V)(H:Hp)(Rr:L2.It->Hp->Prop):Prop:=
 (∃a xs,x=.ref a/\eY K H a xs/\Rr (PN K a) H)\/(∃a xs,x=.ref a/\dH K H a xs/\Rr (PR K a) H)\/∃z,x=.str z/\Rr (FG z) H
def K7{X:Cx}{tg l:Expr}{tl:TE}{wi:TI}(hl:PE X l tl)(hw:∀s H Rr,wi s H Rr->tl s H λx H1=>FH X.K x H1 Rr):PI X tg l wi:=by
 intro pins s σ H Rr I h;refine aW (hl pins s σ H _ I (hw _ _ _ h)) λv s1 ⟨x,H1,I1,r1,q1⟩=>?_;have fp:∀(o:Obj) b,b∈[s1.heap.objs.size]->fq X pins H1 b:=λo b hb=>by
  have e:b=s1.heap.objs.size:=by simpa using hb
  subst e;exact I1.zL (Qq _) (I1.hok.fresh (Qq _))
 rcases q1 with ⟨a,xs,rfl,hq,q⟩|⟨a,xs,rfl,hq,q⟩|⟨z,rfl,q⟩
 .cases r1;obtain⟨its,rv,p,hz⟩:=I1.list hq;refine wpAny_pyIter_list p.isList ?_;exact⟨s1.heap.objs.size,[s1.heap.objs.size],_,_,H1,rfl,I1.kept (t':=s1.toks) λb o e=>AQ _ e,Be a _,⟨_,Vl _ rfl,rfl,rfl⟩,fp default,q⟩
 .cases r1;obtain⟨its,rv,p,hz⟩:=I1.tuple hq;refine wpAny_pyIter_tuple (show s1.heap.IsTuple a its.toArray from p) ?_;exact⟨s1.heap.objs.size,[s1.heap.objs.size],_,_,H1,rfl,I1.kept (t':=s1.toks) λb o e=>AQ _ e,zN a _,⟨_,Vl _ rfl,rfl,rfl⟩,fp default,q⟩
 .obtain⟨t,rfl⟩:=r1;cases ha:z.cps.all (· < 128)
  .refine wpAny_pyIter_wide ha ?_;exact⟨s1.heap.objs.size,[s1.heap.objs.size],_,_,H1,rfl,I1.kept (t':=s1.toks) λb o e=>AQ _ e,vh z t _ _ (.inr rfl),⟨_,Vl _ rfl,rfl,rfl⟩,fp default,q⟩
  .refine wpAny_pyIter_ascii ha ?_;exact⟨s1.heap.objs.size,[s1.heap.objs.size],_,_,H1,rfl,I1.kept (t':=s1.toks) λb o e=>AQ _ e,vh z t _ _ (.inl rfl),⟨_,Vl _ rfl,rfl,rfl⟩,fp default,q⟩
def BB{h:Hh}{n:Nat}{ds:List D}(e:Ev.stays h [(n,ds)]=true):Ev.aR h n=some ds:=by
 simp only[Ev.stays,Bool.and_true]at e;split at e
 .rename_i es q;rw[q,(Ev.tO _ _).mp e]
 .cases e
def HQ{K:PySem.W.Frag}{H:Hp}{r:List Addr}{h:Hh}{d:D}{v:V}{src:Src}{Rr:L2.It->Hp->Prop}(hr:HR K H r h)(v1:RV K H r d v)(e:Ev.gj h d=some src)(q:∀J,ng K r H src J->Rr J H):FH K v H Rr:=by
 cases d with
 |tup ds=>
  simp only[RV]at v1;obtain⟨a,vs,rfl,z,w⟩:=v1;cases e;refine .inr (.inl ⟨a,vs,rfl,z,q _ λi H1 r1 h1 hr1 f1 st=>⟨λd' e'=>?_,λhl=>?_⟩⟩)
  .obtain⟨u,e1,e2⟩:=w.get e';refine⟨⟨vs,u,f1.tups _ _ z,e1⟩,λx H2 y=>?_⟩;obtain⟨rfl,y⟩:=y;have:=y vs (f1.tups _ _ z);rw[e1]at this;cases this;exact⟨r1,e2.mono f1,hr1,.refl⟩
  .exact⟨vs,f1.tups _ _ z,by rw[w.length];exact hl⟩
 |str l=>
  simp only[RV]at v1;obtain⟨rfl,z⟩:=v1;cases e;refine .inr (.inr ⟨_,rfl,q _ λi H1 r1 h1 hr1 f1 st=>⟨λd' e'=>?_,λhl=>?_⟩⟩)
  .rw[Vq]at e';cases e2:l[i]? with
   |none=>rw[e2]at e';cases e'
   |some c=>
    rw[e2]at e';cases e';refine⟨by show i<(au l).length;rw[aO];exact(List.getElem?_eq_some_iff.mp e2).1,λx H2 y=>?_⟩;obtain⟨rfl,c',y1,rfl⟩:=y;have e3:(au l).cps[i]?=some c:=by simp[au,e2]
    rw[e3]at y1;cases y1;exact⟨r1,⟨rfl,by show 1<=sizeLine;decide⟩,hr1,.refl⟩
  .show(au l).length<=i;rw[aO];simpa using hl
 |ref k=>
  simp only[RV]at v1;obtain⟨a,rfl,z⟩:=v1;simp only[Ev.gj,cz]at e;obtain⟨ds,e1,rfl⟩:=e;obtain⟨a',vs,e2,e3,e4⟩:=hr.read e1;rw[z]at e2;cases e2;refine .inl ⟨a,vs,rfl,e3,q _ λi H1 r1 h1 hr1 f1 st=>?_⟩;obtain⟨a',us,e5,e6,e7⟩:=hr1.read (BB st);rw[f1.pre _ _ z]at e5;cases e5;refine⟨λd' e'=>?_,λhl=>⟨us,e6,by rw[e7.length];exact hl⟩⟩;obtain⟨u,g1,g2⟩:=e7.get e';refine⟨⟨us,u,e6,g1⟩,λx H2 y=>?_⟩;obtain⟨rfl,y⟩:=y;have:=y us e6;rw[g1]at this;cases this;exact⟨r1,g2,hr1,.refl⟩
 |_=>cases e
section
variable{G:Tb}{n:Nat}{sc:Scope}{N:List Str}{df:Bool}{m:List Nat}{a b:E}{xa xb tg:Expr}{pos:Pos}
def K8(ha:JE G n sc N df m a xa):JI G n sc N df m (.seq a) tg xa:=λX g=>K7 (ha X g) λs H Rr q=>by
 obtain⟨r,fr,h,src,h',sr,hr,e,q⟩:=q;simp only[Ev.bQ]at e;obtain⟨d,h1,e1,e⟩:=Ev.ah e;obtain⟨e,rfl⟩:=Ev.aC e;refine⟨r,fr,h,d,_,sr,hr,e1,λv H1 r1 v1 hr1 f1=>?_⟩;exact HQ hr1 v1 e λJ hJ=>q J H1 r1 hr1 f1 hJ
def PI.of{X:Cx}{tg l:Expr}{t t':TI}(h:PI X tg l t)(w:∀s H Q,t' s H Q->t s H Q):PI X tg l t':=λpins s σ H Q I q=>h pins s σ H Q I (w _ _ _ q)
def BC{K:PySem.W.Frag}{r:List Addr}{H:Hp}(lo:Int)(k:Nat):ng K r H (Ev.range lo k,[]) (Bd lo k):=λi H1 r1 h1 hr1 f1 st=>by
 refine⟨λd e=>?_,λhl=>?_⟩
 .simp only[Ev.range,Vq]at e;cases e2:(List.range k)[i]? with
  |none=>rw[e2]at e;cases e
  |some j=>
   rw[e2]at e;cases e;have hi:i<k:=by simpa using (List.getElem?_eq_some_iff.mp e2).1
   have hj:j=i:=by
    rw[XX hi]at e2;exact(lz e2).symm
   subst hj;refine⟨hi,λx H2 y=>?_⟩;obtain⟨rfl,rfl⟩:=y;exact⟨r1,rfl,hr1,.refl⟩
 .have:(Ev.range lo k).length=k:=by simp[Ev.range]
  show k<=i;have hl':(Ev.range lo k).length<=i:=hl;omega
def HS {e1:E}{p:Pos}(hs:JA G n sc N df m (.cons e1 .nil) [xa]) (hg:sc.names.lookup ("range" : Str)=some .globalImplicit:=by rfl) (hb:("range" : Str)∈G.bl:=by decide +kernel)
  (hst:∀env:Env,starEach [xa] env=[(false,eval xa env)]:=by intro _;rfl):JI G n sc N df m (.eW (.cons e1 .nil)) tg (.Call (.Name "range" p) [xa] [] pos):=λX g=>
 PI.of (Bf (g.gl hg) (g.bl _ hb) (hs X g) (hst _)) λs H Rr q=>by
  obtain⟨r,fr,h,src,h',sr,hr,e,q⟩:=q;simp only[Ev.bQ]at e;obtain⟨ds,h1,e1,e⟩:=Ev.ah e;obtain⟨e,rfl⟩:=Ev.aC e;refine⟨r,fr,h,ds,_,sr,hr,e1,λvs H1 r1 v1 hr1 f1=>?_⟩;unfold Ev.dP at e;split at e
  .rename_i j;split at e
   .rename_i hj;cases e;simp only[aF,RV]at v1;obtain⟨v,w,rfl,rfl,rfl⟩:=v1;exact⟨_,rfl,hj.1,hj.2,q _ H1 r1 hr1 f1 (BC 0 _)⟩
   .cases e
  .exfalso;simp only[Ev.bJ]at e1;obtain⟨d,_,_,e1⟩:=Ev.ah e1;simp only[Ev.aj]at e1;cases e1
  .cases e
def HU {e1 e2:E}{p:Pos}(hs:JA G n sc N df m (.cons e1 (.cons e2 .nil)) [xa,xb]) (hg:sc.names.lookup ("range" : Str)=some .globalImplicit:=by rfl) (hb:("range" : Str)∈G.bl:=by decide +kernel)
  (hst:∀env:Env,starEach [xa,xb] env=[(false,eval xa env),(false,eval xb env)]:=by intro _;rfl) (Ac:∀env:Env,starEach [xb] env=[(false,eval xb env)]:=by intro _;rfl) :
  JI G n sc N df m (.eW (.cons e1 (.cons e2 .nil))) tg (.Call (.Name "range" p) [xa,xb] [] pos):=λX g=>
 PI.of (Bg (g.gl hg) (g.bl _ hb) (hs X g) (hst _) (Ac _)) λs H Rr q=>by
  obtain⟨r,fr,h,src,h',sr,hr,e,q⟩:=q;simp only[Ev.bQ]at e;obtain⟨ds,h1,e1,e⟩:=Ev.ah e;obtain⟨e,rfl⟩:=Ev.aC e;refine⟨r,fr,h,ds,_,sr,hr,e1,λvs H1 r1 v1 hr1 f1=>?_⟩;unfold Ev.dP at e;split at e
  .exfalso;simp only[Ev.bJ]at e1;obtain⟨d,_,_,e1⟩:=Ev.ah e1;obtain⟨d2,_,e2,e1⟩:=Ev.ah e1;obtain⟨d3,_,e3,e2⟩:=Ev.ah e2;simp only[Ev.aj]at e2;cases e2;cases e1
  .rename_i i j;split at e
   .rename_i hj;cases e;simp only[aF,RV]at v1;obtain⟨v,w,rfl,rfl,v',w',rfl,rfl,rfl⟩:=v1;exact⟨_,_,rfl,hj,q _ H1 r1 hr1 f1 (BC _ _)⟩
   .cases e
  .cases e
inductive gJ(K:PySem.W.Frag)(m:List Nat)(t:T)(v:V)(s:L2.St)(H:Hp)(Q:L2.St->Hp->Prop):Prop
 |mk (r:List Addr) (fr:Fr) (h:Hh) (d:D) (ai:Fr) (c0:SR K m H r fr s) (c1:HR K H r h) (c2:RV K H r d v) (c3:Ev.aY t d fr=some ai) (c4:∀s',SR K m H r ai s'->Q s' H):gJ K m t v s H Q
noncomputable def JG(G:Tb)(n:Nat)(sc:Scope)(N:List Str)(df:Bool)(m:List Nat)(t:T)(x:Expr):Prop:=∀X,Good G n sc N df X->PG X x (gJ X.K m t)
def PG.of{X:Cx}{e:Expr}{t t':TG}(h:PG X e t)(w:∀v s H Q,t' v s H Q->t v s H Q):PG X e t':=λpins s σ H v u Q I r q=>h pins s σ H v u Q I r (w _ _ _ _ q)
theorem SR.set{K:PySem.W.Frag}{m:List Nat}{H:Hp}{r:List Addr}{fr:Fr}{s:L2.St}(sr:SR K m H r fr s)(hm:m.Nodup){j i:Nat}(hj:m[j]?=some i){d:D}{v:V}(v1:RV K H r d v):SR K m H r (fr.set i (some d)) (s.set j (some v)):=by
 refine⟨by simp[sr.len],λj' i' d' e1 e2=>?_⟩;by_cases hi:i'=i
 .subst hi;have:j'=j:=BD hm e1 hj;subst this;have hlt:i'<fr.length:=by
   have:=(List.getElem?_eq_some_iff.mp e2).1;simpa using this
  rw[Qs hlt]at e2;cases e2;refine⟨v,Qs ?_,v1⟩;rw[sr.len];exact(List.getElem?_eq_some_iff.mp hj).1
 .rw[gV (λz=>hi z.symm)]at e2;obtain⟨u,q1,q2⟩:=sr.sl j' i' d' e1 e2;refine⟨u,?_,q2⟩;rw[gV]
  .exact q1
  .intro z;subst z;rw[hj]at e1;cases e1;exact hi rfl
where
 BD {l:List Nat} (hl:l.Nodup) {i j:Nat} {x:Nat} (a:l[i]?=some x) (b:l[j]?=some x):i=j:=by
  have ha:=(List.getElem?_eq_some_iff.mp a)
  have hb:=(List.getElem?_eq_some_iff.mp b)
  obtain⟨h1,e1⟩:=ha;obtain⟨h2,e2⟩:=hb;exact(Ys hl).mp (e1.trans e2.symm)
def Good.loc{X:Cx}(g:Good G n sc N df X){x:Str}(h:sc.names.lookup x=some .local\/(df=true/\sc.names.lookup x=some .cell)):Loc X.env.scope x/\(X.fn x=true\/X.env.scope.names.lookup x=some .local):=by
 rw[show Loc X.env.scope x↔Loc sc x by rw[g.sc],g.sc];rcases h with h|⟨h1,h⟩
 .exact⟨.inl h,.inr h⟩
 .exact⟨.inr h,.inl (g.own h1 x)⟩
def K9(j i:Nat){x:Str}(hm:m.Nodup)(hN:N.Nodup)(hj:m[j]?=some i:=by rfl)(BE:N[j]?=some x:=by rfl)
  (hl:sc.names.lookup x=some .local\/(df=true/\sc.names.lookup x=some .cell):=by first|exact Or.inl rfl|exact Or.inr ⟨rfl,rfl⟩):JG G n sc N df m (.one i) (.Name x pos):=λX g=>by
 obtain⟨h1,h2⟩:=g.loc hl;refine PG.of (yd (i:=j) (by rw[g.nm];exact hN) (by rw[g.nm];exact BE) h1 h2) λv s H Q q=>?_;obtain⟨r,fr,h,d,ai,sr,hr,v1,e,q⟩:=q;cases e;exact q _ (sr.set hm hj v1)
inductive P1(K:PySem.W.Frag)(m:List Nat)(l:List Nat)(vs:List V)(s:L2.St)(H:Hp)(Q:L2.St->Hp->Prop):Prop
 |mk (r:List Addr) (fr:Fr) (h:Hh) (ds:List D) (ai:Fr) (c0:SR K m H r fr s) (c1:HR K H r h) (c2:aF K H r ds vs) (c3:Ev.dz l ds fr=some ai) (c4:∀s',SR K m H r ai s'->Q s' H):P1 K m l vs s H Q
noncomputable def tT(G:Tb)(n:Nat)(sc:Scope)(N:List Str)(df:Bool)(m:List Nat)(l:List Nat)(xs:List Expr):Prop:=∀X,Good G n sc N df X->o6 X xs (P1 X.K m l)
def o6.of{X:Cx}{e:List Expr}{t t':tD}(h:o6 X e t)(w:∀v s H Q,t' v s H Q->t v s H Q):o6 X e t':=λpins s σ H v u Q I r q=>h pins s σ H v u Q I r (w _ _ _ _ q)
def HV:tT G n sc N df m [] []:=λX g=>o6.of Hl λvs s H Q q=>by
 obtain⟨r,fr,h,ds,ai,sr,hr,v1,e,q⟩:=q;cases ds with
 |nil=>simp only[aF]at v1;subst v1;cases e;exact⟨rfl,q _ sr⟩
 |cons _ _=>cases e
def DL(j i:Nat){x:Str}{l:List Nat}{xs:List Expr}(hm:m.Nodup)(hN:N.Nodup)(hs:tT G n sc N df m l xs)(hj:m[j]?=some i:=by rfl)(BE:N[j]?=some x:=by rfl)
  (hl:sc.names.lookup x=some .local\/(df=true/\sc.names.lookup x=some .cell):=by first|exact Or.inl rfl|exact Or.inr ⟨rfl,rfl⟩)
  (hst:∀env:Env,(assignEach (.Name x pos :: xs) env).map (·.2)=assign (.Name x pos) env :: (assignEach xs env).map (·.2):=by intro _;rfl):tT G n sc N df m (i :: l) (.Name x pos :: xs):=λX g=>by
 obtain⟨h1,h2⟩:=g.loc hl;refine o6.of (Dp (yd (i:=j) (by rw[g.nm];exact hN) (by rw[g.nm];exact BE) h1 h2) (hs X g) (hst _)) λvs s H Q q=>?_;obtain⟨r,fr,h,ds,ai,sr,hr,v1,e,q⟩:=q;cases ds with
 |nil=>cases e
 |cons d ds=>
  simp only[aF]at v1;obtain⟨v,w,rfl,v2,v3⟩:=v1;exact⟨v,w,rfl,r,_,h,ds,ai,sr.set hm hj v2,hr,v3,e,q⟩
def HW{l:List Nat}{xs:List Expr}{k:Nat}(hs:tT G n sc N df m l xs)(hn:∀env:Env,(assignEach xs env).length=l.length:=by intro _;rfl)(hst:∀env:Env,(assignEach xs env).findIdx? (·.1)=none:=by intro _;rfl) :
  JG G n sc N df m (.many l) (.Tuple xs k pos):=λX g=>PG.of (Kc (n:=l.length) g.calm (hs X g) (hn _) (hst _)) λv s H Q q=>by
 obtain⟨r,fr,h,d,ai,sr,hr,v1,e,q⟩:=q;cases d with
 |tup ds=>
  simp only[RV]at v1;obtain⟨p,vs,rfl,z,w⟩:=v1;have hlen:∀(l:List Nat) (ds:List D) fr ai,Ev.dz l ds fr=some ai->ds.length=l.length:=by
   intro l;induction l with
   |nil=>intro ds fr ai e;cases ds with|nil=>rfl|cons _ _=>cases e
   |cons i l ih=>intro ds fr ai e;cases ds with|nil=>cases e|cons d ds=>simp[ih ds _ _ e]
  exact⟨p,vs,rfl,z,by rw[w.length];exact hlen _ _ _ _ e,r,fr,h,ds,ai,sr,hr,w,e,q⟩
 |_=>cases e
end
noncomputable def Fin(K:PySem.W.Frag)(m:List Nat)(r:List Addr)(H:Hp)(h':Hh)(fl:Fl)(ai:Fr)(Q:Ends):Prop:=match fl with
 |.nx=>∀s' H' r',SR K m H' r' ai s'->HR K H' r' h'->Fm K r r' H H'->Q.nx s' H'
 |.bk=>∀s' H' r',SR K m H' r' ai s'->HR K H' r' h'->Fm K r r' H H'->Q.bk s' H'
 |.ct=>∀s' H' r',SR K m H' r' ai s'->HR K H' r' h'->Fm K r r' H H'->Q.ct s' H'
 |.ret d=>Res K r H h' d Q.rt
theorem Fin.later{K:PySem.W.Frag}{m:List Nat}{r r':List Addr}{H H':Hp}{h':Hh}{fl:Fl}{ai:Fr}{Q:Ends}(q:Fin K m r H h' fl ai Q)(f:Fm K r r' H H'):Fin K m r' H' h' fl ai Q:=by
 cases fl with
 |nx=>exact λs2 H2 r2 a b g=>q s2 H2 r2 a b (f.trans g)
 |bk=>exact λs2 H2 r2 a b g=>q s2 H2 r2 a b (f.trans g)
 |ct=>exact λs2 H2 r2 a b g=>q s2 H2 r2 a b (f.trans g)
 |ret d=>exact Res.later q f
inductive P4(K:PySem.W.Frag)(m:List Nat)(P:aB)(w:Nat)(st:S)(Q:Ends)(s:L2.St)(H:Hp):Prop
 |mk (r:List Addr) (fr:Fr) (h:Hh) (fl:Fl) (ai:Fr) (h':Hh) (c0:SR K m H r fr s) (c1:HR K H r h) (c2:Ev.ex P w st fr h=.ok (fl,ai) h') (c3:Fin K m r H h' fl ai Q):P4 K m P w st Q s H
inductive vj(K:PySem.W.Frag)(m:List Nat)(P:aB)(w:Nat)(ss:Ss)(Q:Ends)(s:L2.St)(H:Hp):Prop
 |mk (r:List Addr) (fr:Fr) (h:Hh) (fl:Fl) (ai:Fr) (h':Hh) (c0:SR K m H r fr s) (c1:HR K H r h) (c2:Ev.exs P w ss fr h=.ok (fl,ai) h') (c3:Fin K m r H h' fl ai Q):vj K m P w ss Q s H
def PS.of{X:Cx}{st:Stmt}{t t':TS}(h:PS X st t)(w:∀Q s H,t' Q s H->t Q s H):PS X st t':=λpins s σ H Q I q=>h pins s σ H Q I (w _ _ _ q)
def eX.of{X:Cx}{st:List Stmt}{t t':TS}(h:eX X st t)(w:∀Q s H,t' Q s H->t Q s H):eX X st t':=λpins s σ H Q I q=>h pins s σ H Q I (w _ _ _ q)
section
variable(G:Tb)(n:Nat)(sc:Scope)(N:List Str)(df:Bool)(m:List Nat)
noncomputable def JS(st:S)(x:Stmt):Prop:=∀X,Good G n sc N df X->PS X x (P4 X.K m (Ev.run G.F G.w n) G.w st)
noncomputable def nh(ss:Ss)(xs:List Stmt):Prop:=∀X,Good G n sc N df X->eX X xs (vj X.K m (Ev.run G.F G.w n) G.w ss)
end
section
variable{G:Tb}{n:Nat}{sc:Scope}{N:List Str}{df:Bool}{m:List Nat}{a:E}{xa tg:Expr}{pos:Pos}
def yp:nh G n sc N df m .nil []:=λX g=>eX.of x9 λQ s H q=>by
 obtain⟨r,fr,h,fl,ai,h',sr,hr,e,q⟩:=q;simp only[Ev.exs]at e;cases e;exact q s H r sr hr .refl
def vm{st:S}{ss:Ss}{x:Stmt}{xs:List Stmt}(h1:JS G n sc N df m st x)(h2:nh G n sc N df m ss xs):nh G n sc N df m (.cons st ss) (x :: xs):=λX g=>eX.of (jG (h1 X g) (h2 X g)) λQ s H q=>by
 obtain⟨r,fr,h,fl,ai,h',sr,hr,e,q⟩:=q;simp only[Ev.exs]at e;obtain⟨⟨gA,af⟩,h1,e1,e⟩:=Ev.ah e;refine⟨r,fr,h,gA,af,h1,sr,hr,e1,?_⟩;cases gA with
 |nx=>exact λs1 H1 r1 La hr1 f1=>⟨r1,af,h1,fl,ai,h',La,hr1,e,q.later f1⟩
 |bk=>cases e;exact q
 |ct=>cases e;exact q
 |ret d=>cases e;exact q
def Lb(j i:Nat){x:Str}{pos':Pos}(hm:m.Nodup)(hN:N.Nodup)(ha:JE G n sc N df m a xa)(hs:∀env:Env,swapsWith xa (some (.Name x pos')) pos.line env=pure false:=by intro _;rfl)(hj:m[j]?=some i:=by rfl)(BE:N[j]?=some x:=by rfl)
  (hl:sc.names.lookup x=some .local\/(df=true/\sc.names.lookup x=some .cell):=by first|exact Or.inl rfl|exact Or.inr ⟨rfl,rfl⟩):JS G n sc N df m (.set i a) (.Assign [.Name x pos'] xa pos):=λX g=>by
 obtain⟨h1,h2⟩:=g.loc hl;refine PS.of (uV (i:=j) (by rw[g.nm];exact hN) (by rw[g.nm];exact BE) h1 (ha X g) (hs _) h2) λQ s H q=>?_;obtain⟨r,fr,h,fl,ai,h',sr,hr,e,q⟩:=q;simp only[Ev.ex]at e;obtain⟨d,h1,e1,e⟩:=Ev.ah e;cases e;exact⟨r,fr,h,d,_,sr,hr,e1,λv H1 r1 v1 hr1 f1=>q _ H1 r1 ((sr.mono f1).set hm hj v1) hr1 f1⟩
def Lc(ha:JE G n sc N df m a xa)(hs:∀env:Env,swapsWith xa none pos.line env=pure false:=by intro _;rfl):JS G n sc N df m (.exp a) (.Expr xa pos):=λX g=>PS.of (Hj (ha X g) (hs _)) λQ s H q=>by
 obtain⟨r,fr,h,fl,ai,h',sr,hr,e,q⟩:=q;simp only[Ev.ex]at e;obtain⟨d,h1,e1,e⟩:=Ev.ah e;cases e;exact⟨r,fr,h,d,_,sr,hr,e1,λv H1 r1 v1 hr1 f1=>q s H1 r1 (sr.mono f1) hr1 f1⟩
def BF(ha:JE G n sc N df m a xa):JS G n sc N df m (.ret a) (.Return (some xa) pos):=λX g=>PS.of (uU (ha X g)) λQ s H q=>by
 obtain⟨r,fr,h,fl,ai,h',sr,hr,e,q⟩:=q;simp only[Ev.ex]at e;obtain⟨d,h1,e1,e⟩:=Ev.ah e;cases e;exact⟨r,fr,h,d,_,sr,hr,e1,q⟩
def Ld{ta tb:Ss}{ya yb:List Stmt}(hc:JT G n sc N df m a xa)(h1:nh G n sc N df m ta ya)(h2:nh G n sc N df m tb yb):JS G n sc N df m (.iff a ta tb) (.If xa ya yb pos):=λX g=>PS.of (zK (hc X g) (h1 X g) (h2 X g)) λQ s H q=>by
 obtain⟨r,fr,h,fl,ai,h',sr,hr,e,q⟩:=q;simp only[Ev.ex]at e;obtain⟨k,h3,e1,e⟩:=Ev.ah e;refine⟨r,fr,h,k,h3,sr,hr,e1,λH1 r1 hr1 f1=>?_⟩;cases k with
 |true=>exact⟨r1,fr,h3,fl,ai,h',sr.mono f1,hr1,e,q.later f1⟩
 |false=>exact⟨r1,fr,h3,fl,ai,h',sr.mono f1,hr1,e,q.later f1⟩
def Good.pass{X:Cx}(g:Good G n sc N df X):PassesOwn (model X.prog X.w) X.A X.env X.xe:=by
 rw[g.xe];exact PassesOwn.never
noncomputable def FN(K:PySem.W.Frag)(m:List Nat)(gA:Fl)(fV:Fr)(h4:Hh)(r1:List Addr)(H1:Hp)(s5:L2.St)(H5:Hp):Prop:=(gA=.nx\/gA=.ct)/\∃r5,SR K m H5 r5 fV s5/\HR K H5 r5 h4/\Fm K r1 r5 H1 H5
section
variable{K:PySem.W.Frag}{r r1 r2:List Addr}{H H1 H2:Hp}{h4 h':Hh}{fl gA:Fl}{fV ai:Fr}{Q:Ends}
noncomputable def DM(L:R (Fl×Fr))(p:Fl×Fr)(h1:Hh):R (Fl×Fr):=match p.1 with
 |.nx=>L
 |.ct=>L
 |.bk=>.ok (.nx,p.2) h1
 |.ret x=>.ok (.ret x,p.2) h1
def HY{L:R (Fl×Fr)}(e:DM L (gA,fV) h4=.ok (fl,ai) h')(z:gA=.nx\/gA=.ct):L=.ok (fl,ai) h':=by rcases z with rfl|rfl<;>exact e
def DN{L:R (Fl×Fr)}(e:DM L (gA,fV) h4=.ok (fl,ai) h')(q:Fin K m r H h' fl ai Q)(f:Fm K r r1 H H1)(f2:Fm K r1 r2 H1 H2):Fin K m r2 H2 h4 gA fV { Q with nx:=FN K m gA fV h4 r1 H1,ct:=FN K m gA fV h4 r1 H1,bk:=Q.nx }:=by
 cases gA with
 |nx=>exact λs6 H6 r6 BG BH f6=>⟨.inl rfl,r6,BG,BH,f2.trans f6⟩
 |ct=>exact λs6 H6 r6 BG BH f6=>⟨.inr rfl,r6,BG,BH,f2.trans f6⟩
 |bk=>
  cases e;exact λs6 H6 r6 BG BH f6=>q s6 H6 r6 BG BH ((f.trans f2).trans f6)
 |ret d=>
  cases e;exact Res.later q (f.trans f2)
noncomputable def vn(P:aB)(w:Nat)(t:T)(tb:Ss):D->Fr->Hh->R (Fl×Fr):=λd ak h2=>match Ev.aY t d ak with
 |some bw=>Ev.exs P w tb bw h2
 |none=>.bad
def vp(P:aB)(w:Nat)(t:T)(it:Ev.It)(tb:Ss)(fr:Fr)(h:Hh):Ev.ex P w (.for t it tb) fr h=(Ev.bQ P it fr h).bind λs h1=>Ev.forL (vn P w t tb) s.2 s.1 fr h1:=by simp only[Ev.ex];rfl
def tU(f:D->Fr->Hh->R (Fl×Fr))(ck:List (Nat×List D))(d:D)(ds:List D)(fr:Fr)(h:Hh):Ev.forL f ck (d :: ds) fr h=if Ev.stays h ck then (f d fr h).bind λp h1=>DM (Ev.forL f ck ds p.2 h1) p h1 else .bad:=rfl
noncomputable def FW(K:PySem.W.Frag)(m:List Nat)(f:D->Fr->Hh->R (Fl×Fr))(src:Src)(r1:List Addr)(H1:Hp)(o:Fl×Fr)(h':Hh)(i k:Nat)(s3:L2.St)(H3:Hp):Prop:=
 k=src.1.length - i/\i<=src.1.length/\∃r3 bw h3,SR K m H3 r3 bw s3/\HR K H3 r3 h3/\Fm K r1 r3 H1 H3/\Ev.forL f src.2 (src.1.drop i) bw h3=.ok o h'
def DO{P:aB}{w:Nat}{t:T}{tb:Ss}{src:Src}{J:L2.It}{i k:Nat}{s3:L2.St}{H3:Hp}(hJ:ng K r1 H1 src J)(q:Fin K m r H h' fl ai Q)(f1:Fm K r r1 H H1)(hW:FW K m (vn P w t tb) src r1 H1 (fl,ai) h' i k s3 H3) :
  (J.stop i H3/\Q.nx s3 H3)\/(J.go i H3/\∃N:L2.St->Hp->Prop,(∀σ' H',N σ' H'->∃m',m'<k/\FW K m (vn P w t tb) src r1 H1 (fl,ai) h' (i+1) m' σ' H')/\∀x H',J.Fq i H3 x H'->gJ K m t x s3 H' λσ2 H2=>vj K m P w tb { Q with nx:=N,ct:=N,bk:=Q.nx } σ2 H2):=by
 obtain⟨rfl,hle,r3,bw,h3,yr,j3,f3,e3⟩:=hW;rcases Xc i src.1.length with hlt|hge
 .rw[Wh hlt,tU]at e3;split at e3
  .rename_i hst;obtain⟨g1,g2⟩:=(hJ i H3 r3 h3 j3 f3 hst).1 src.1[i] (RY hlt);obtain⟨⟨gA,fV⟩,h4,e4,e3⟩:=Ev.ah e3;unfold vn at e4;split at e4
   .rename_i mS e5;exact .inr ⟨g1,FN K m gA fV h4 r1 H1,λs5 H5 ⟨hfl,r5,tV,pq,f5⟩=>⟨_,WM hlt (WB i),rfl,hlt,r5,fV,h4,tV,pq,f5,HY e3 hfl⟩,λx H4 y=>
     let ⟨r4,v4,ym,f4⟩:=g2 x H4 y
     ⟨r4,bw,h3,_,mS,yr.mono f4,ym,v4,e5,λs5 tV=>⟨r4,mS,h3,gA,fV,h4,tV,ym,e4,DN e3 q f1 (f3.trans f4)⟩⟩⟩
   .cases e4
  .cases e3
 .have hi:i=src.1.length:=Xm hle hge;subst hi;rw[Xf]at e3;unfold Ev.forL at e3;split at e3
  .rename_i hst;cases e3;exact .inl ⟨(hJ _ H3 r3 _ j3 f3 hst).2 (Qq _),q s3 H3 r3 yr j3 (f1.trans f3)⟩
  .cases e3
end
def Le{t:T}{it:Ev.It}{tb:Ss}{yb:List Stmt}(hi:JI G n sc N df m it tg xa)(hg:JG G n sc N df m t tg)(h1:nh G n sc N df m tb yb)(hs:∀(env:Env) x,foldedSetIterable xa env x=pure x:=by intro _ _;rfl) :
  JS G n sc N df m (.for t it tb) (.For tg xa yb [] pos):=λX g=>PS.of (Kd g.pass g.calm (hi X g) (hg X g) (h1 X g) (hs _)) λQ s H q=>by
 obtain⟨r,fr,h,fl,ai,h',sr,hr,e,q⟩:=q;rw[vp]at e;obtain⟨src,h2,e1,e⟩:=Ev.ah e;exact⟨r,fr,h,src,h2,sr,hr,e1,λJ H1 r1 hr1 f1 hJ=>⟨FW X.K m (vn (Ev.run G.F G.w n) G.w t tb) src r1 H1 (fl,ai) h',⟨src.1.length,rfl,VQ _,r1,fr,h2,sr.mono f1,hr1,.refl,by rw[Wq];exact e⟩,λi k s3 H3 hW=>DO hJ q f1 hW⟩⟩
end
def getElem?_range'{k j i:Nat}(h:(List.range k)[j]?=some i):i=j:=by
 obtain⟨h1,h2⟩:=List.getElem?_eq_some_iff.mp h;simpa using h2.symm
def pS{K:PySem.W.Frag}{H:Hp}{r:List Addr}{ds:List D}{vs:List V}{N:List Str}{fn:Ev.Fn}(v1:aF K H r ds vs)(hN:vs.length<=N.length):SR K (List.range N.length) H r (Ev.cZ fn ds) (L2.start N vs):=by
 refine⟨by unfold L2.start;simp;omega,λj i d e1 e2=>?_⟩;have e3:=getElem?_range' e1;subst e3;unfold Ev.cZ at e2;by_cases hj:i<ds.length
 .rw[wW (by simpa using hj),Vq]at e2;cases e4:ds[i]? with
  |none=>rw[e4]at e2;cases e2
  |some d'=>
   rw[e4]at e2;cases e2;obtain⟨v,q1,q2⟩:=v1.get e4;refine⟨v,?_,q2⟩;unfold L2.start;rw[wW (by have:=v1.length;simpa using (by omega:i<vs.length)),Vq,q1];rfl
 .rw[VX (by simpa using Nat.not_lt.mp hj),Xj]at e2;split at e2<;>cases e2
section
variable{P:Program}{w:World}{K:PySem.W.Frag}{mg:Str->Option Value}{base:Heap}{G:Tb}
noncomputable def oJ(P:Program)(w:World)(K:PySem.W.Frag)(mg:Str->Option Value)(base:Heap)(G:Tb)(n:Nat):Prop:=∀(f:Nat) i,G.fi[f]?=some i->eO P w K mg base jr n i.addr i.fd i.ps (mh K G.F G.w n f)
structure Top(P:Program)(w:World)(K:PySem.W.Frag)(mg:Str->Option Value)(G:Tb):Prop where
 fn:∀(f:Nat) i,G.fi[f]?=some i->mg i.name=some (.ref i.addr)/\PySem.W.keepIn K (.ref i.addr)=true/\Binds K i.fd i.ps []
 bl:∀x∈G.bl,mg x=none
 cs:∀x d,(x,d)∈G.cs->∃v u,mg x=some u/\RelV v u/\yl K d v
 dk:∀x kvs,(x,kvs)∈G.dk->∃a,mg x=some (.ref a)/\∀h:Heap,K.In h->StrTab P w h a (tabOf kvs)
def HZ{f:Addr}{fd:FuncData}{ps:List Str}{k:Nat}:eO P w K mg base jr 0 f fd ps (mh K G.F G.w 0 k):=by
 have no:∀vs H Q E,¬ mh K G.F G.w 0 k vs H Q E:=λvs H Q E h=>by
  obtain⟨r,h,ds,d,h',_,_,e,_⟩:=h;cases e
 exact⟨λvs H Q E h=>absurd h (no vs H Q E),λA outer s H args us vs Q E _ _ _ _ h=>absurd h (no vs H Q E)⟩
def ef{x qual:Str}{st:Stmt}{i:FI}{N:List Str}{n f:Nat}{fn:Ev.Fn}(T:Top P w K mg G)(A0:oJ P w K mg base G n)(F:mZ K x qual st i.addr i.fd)(S:bC N i.ps (aA st))(hf:G.F[f]?=some fn)(hp:i.ps.length=fn.np)
  (hb:nh G n (aA st) N true (List.range N.length) fn.body (b7 st)):eO P w K mg base jr (n+1) i.addr i.fd i.ps (mh K G.F G.w (n+1) f):=by
 have hlen:∀vs H Q E,mh K G.F G.w (n+1) f vs H Q E->vs.length=i.ps.length:=λvs H Q E h=>by
  obtain⟨r,h,ds,d,h',v1,_,e,_⟩:=h;simp only[Ev.fP,hf]at e;split at e
  .rename_i z;rw[v1.length,z,hp]
  .cases e
 refine F.ok S hlen λcdv A outer s H vs Q E hr eZ=>?_;have hl:=hlen vs H Q E eZ;have hN:vs.length<=N.length:=by
  have:=Vd List.length S.pre;rw[Vz]at this;omega
 have g:Good G n (aA st) N true (jf jr P w K mg base N qual (aA st) i.addr cdv A outer s H E).cY:=
  ⟨rfl,rfl,rfl,λ_ _=>rfl,hr,rfl,λf i hi=>⟨(T.fn f i hi).1,(T.fn f i hi).2.1,(T.fn f i hi).2.2,A0 f i hi⟩,T.bl,T.cs,T.dk⟩
 refine⟨_,hb _ g,?_⟩;obtain⟨r,h,ds,d,h',v1,hr1,e,q⟩:=eZ;simp only[Ev.fP,hf]at e;split at e
 .unfold Ev.endOf at e;obtain⟨⟨fl,ai⟩,h2,e1,e⟩:=Ev.ah e;refine⟨r,Ev.cZ fn ds,h,fl,ai,h2,pS v1 hN,hr1,e1,?_⟩;cases fl with
  |nx=>
   cases e;exact λs' H' r' _ hr' f'=>q _ H' r' rfl hr' f'
  |ret d'=>
   cases e;exact q
  |bk=>cases e
  |ct=>cases e
 .cases e
end
end Sm
namespace Sm
open PySem PySem.Spec PyProof.Rows L2 PySem.SeqAt
open Ev (D O Hh Fr R aB E Es Eo T S Ss Fl Src aQ aK TY BI ME)
end Sm
namespace L2
open PySem PySem.Spec PyProof.Rows
end L2
namespace Sm
open PySem PySem.Spec PyProof.Rows L2 PySem.SeqAt
open Ev (D O Hh Fr R aB E Es Eo T S Ss Fl Src aQ aK TY BI ME)
end Sm
namespace Sm
open PySem PySem.Spec PyProof.Rows L2
open Ev (D O Hh Fr R aB E Es Eo T S Ss Fl Src aQ aK TY BI ME)
theorem rT(env:Env):∀(names:List (Str×NameKind)) (acc:List (Str×Addr)),(∀x,(x,NameKind.free)∈names->∃c,env.cells.lookup x=some c)->(∀x c,acc.lookup x=some c->env.cells.lookup x=some c)->
  ∃cl,(forIn names acc (λ(x:Str×NameKind) cs=>if (x.2==NameKind.free)=true then (do let c <-cellOf env x.1;pure (ForInStep.yield ((x.1,c) :: cs)))else pure (ForInStep.yield cs)):Sem (List (Str×Addr)))=pure cl/\
   (∀x c,cl.lookup x=some c->env.cells.lookup x=some c)/\(∀x,(x,NameKind.free)∈names->(cl.lookup x).isSome=true)/\(∀x,(acc.lookup x).isSome=true->(cl.lookup x).isSome=true)
 |[],acc,_,h2=>⟨acc,rfl,h2,(λx h=>by simp at h),λ_ h=>h⟩
 | (y,k) :: r,acc,h1,h2=>by
  by_cases hk:k=.free
  .subst hk;obtain⟨c,hc⟩:=h1 y (Vv ..);have h2':∀x c',((y,c) :: acc).lookup x=some c'->env.cells.lookup x=some c':=λx c' e=>by
    rw[VM]at e;split at e
    .rename_i hx;have hx':x=y:=by simpa using hx
     cases e;rw[hx'];exact hc
    .exact h2 x c' e
   obtain⟨cl,e1,e2,e3,e4⟩:=rT env r ((y,c) :: acc) (λx hx=>h1 x (Vh _ hx)) h2';refine⟨cl,?_,e2,λx hx=>?_,λx hx=>e4 x ?_⟩
   .rw[VT];simp only[Yl,Vj];unfold cellOf;rw[hc];exact e1
   .rcases List.mem_cons.mp hx with z|z
    .cases z;exact e4 y (by simp[VM])
    .exact e3 x z
   .rw[VM];split
    .rfl
    .exact hx
  .have hk':(k==NameKind.free)=false:=by simpa using hk
   obtain⟨cl,e1,e2,e3,e4⟩:=rT env r acc (λx hx=>h1 x (Vh _ hx)) h2;refine⟨cl,?_,e2,λx hx=>?_,e4⟩
   .rw[VT];simp only[hk',Vi,VG];exact e1
   .rcases List.mem_cons.mp hx with z|z
    .cases z;exact absurd rfl hk
    .exact e3 x z
def Ia{scope:Scope}{env:Env}(h:∀x,(x,NameKind.free)∈scope.names->∃c,env.cells.lookup x=some c) :
  ∃cl,closureFor scope env=pure cl/\(∀x c,cl.lookup x=some c->env.cells.lookup x=some c)/\∀x,(x,NameKind.free)∈scope.names->∃c,cl.lookup x=some c:=by
 obtain⟨cl,e1,e2,e3,_⟩:=rT env scope.names [] h (λx c e=>by simp at e);refine⟨cl,?_,e2,λx hx=>Option.isSome_iff_exists.mp (e3 x hx)⟩;unfold closureFor;show(forIn scope.names [] _ >>= λcs=>pure cs:Sem (List (Str×Addr)))=pure cl;have e:(forIn scope.names [] (λ(x:Str×NameKind) cs=>if (x.2==NameKind.free)=true then (do let c <-cellOf env x.1;pure (ForInStep.yield ((x.1,c) :: cs)))else pure (ForInStep.yield cs)):Sem (List (Str×Addr)))=pure cl:=e1;exact Vd (λt:Sem (List (Str×Addr))=>t >>= λcs=>pure cs) e
noncomputable def cV(sc scope:Scope):Scope:={ scope with names:=scope.names.map λ(n,k)=>if (k==.free&&sc.kind==.function&&sc.names.lookup n==some .cell)then (n,.cell)else (n,k)}
def rU{env:Env}{sc scope:Scope}(h:env.scope=sc):relabel scope env=cV sc scope:=by
 subst h;rfl
theorem tW{sc:Scope}:∀{names:List (Str×NameKind)}{x:Str},(∀y∈names,y.2≠.cell)->
  ((names.map λ(n,k)=>if (k==NameKind.free&&sc.kind==.function&&sc.names.lookup n==some .cell)then (n,NameKind.cell)else (n,k)).lookup x=some .cell\/
   (names.map λ(n,k)=>if (k==NameKind.free&&sc.kind==.function&&sc.names.lookup n==some .cell)then (n,NameKind.cell)else (n,k)).lookup x=some .free)->(x,NameKind.free)∈names
 |[],_,_,h=>by rcases h with h|h<;>simp at h
 | (n,k) :: r,x,hc,h=>by
  have ih:=@tW sc r x λy hy=>hc y (Vh _ hy);simp only[wX]at h;have nk:∀(k':NameKind),(if (k==NameKind.free&&sc.kind==.function&&sc.names.lookup n==some .cell)then (n,NameKind.cell)else (n,k))=(n,k')->k'=.cell\/k'=.free->k=.free:=λk' e hk'=>by
   split at e
   .rename_i z;simp only[gQ,XJ]at z;exact z.1.1
   .cases e;rcases hk' with z|z
    .exact absurd z (hc (n,_) (Vv ..))
    .exact z
  generalize hg:(if (k==NameKind.free&&sc.kind==.function&&sc.names.lookup n==some .cell)then (n,NameKind.cell)else (n,k))=p at h nk
  have hp:p.1=n:=by rw[<-hg];split<;>rfl
  obtain⟨p1,p2⟩:=p;simp only at hp;subst hp;simp only[VM]at h;cases hx:(x==p1)with
  |true=>
   have hx':x=p1:=by simpa using hx
   rw[hx]at h;have:=nk p2 rfl (by rcases h with h|h<;>simp at h<;>simp[h]);subst this;rw[hx'];exact Vv ..
  |false=>
   rw[hx]at h;exact Vh _ (ih h)
section
variable{prog:Program}{w:World}{A:Around}{R':Result->Shared->Prop}{s:Shared}
abbrev b9:Value->Shared->Prop:=λ_ _=>False
noncomputable def rV(ifs:List Expr)(env:Env):Sem Bool:=forIn ifs true λc r=>if r=true then do let ok <-isTrue c env (eval c env);pure (ForInStep.yield ok)else pure (ForInStep.yield r)
def vq{elt target iter:Expr}{ifs:List Expr}{scope:Scope}{pos:Pos}{it acc:Value}{env:Env}(I:Nat->Shared->Prop)
  (turn:∀n s,I n s->wpAny (model prog w) A (pyNext it) (λr s₁=>match r with
   |none=>R' (.ok .next) s₁
   |some v=>wpAny (model prog w) A (letOwnedTupleGo target it v) (λ_ s₂=>wpAny (model prog w) A (assign target env v) (λ_ s₃=>
     wpAny (model prog w) A (rV ifs env) (λok s₄=>
      if ok=true then wpAny (model prog w) A (eval elt env) (λx s₅=>
       wpAny (model prog w) A (call (.builtin "list.append") [acc,x]) (λ_ s₆=>∃m,m<n/\I m s₆) b9 s₅) b9 s₄
      else ∃m,m<n/\I m s₄) b9 s₃) b9 s₂) b9 s₁) b9 s)
  (n:Nat) (h:I n s):codeAny (model prog w) A (.compLoop (.ListComp elt [⟨target,iter,ifs,0⟩] scope pos) 0 it acc env) R' s:=by
 refine codeAny_loop rfl I (λn s hI=>?_) n h;show wpAny _ A ((compTurn (.ListComp elt [⟨target,iter,ifs,0⟩] scope pos) 0 it acc env).onRaise (λx=>do noteFrame x env;theTreesLotGoes x)) _ _ s;refine wpAny_noted ?_;rw[compTurn_list];refine bP (wpAny_standAt (bP (Uo (turn n s hI) (λr s₁ h₁=>?_) λ_ _ h'=>h'.elim)));cases r with
 |none=>exact EZ h₁
 |some v=>
  refine bP (Uo h₁ (λ_ s₂ h₂=>?_) λ_ _ h'=>h'.elim);refine bP (Uo h₂ (λ_ s₃ h₃=>bP (Uo h₃ (λok s₄ h₄=>?_) λ_ _ h'=>h'.elim)) λ_ _ h'=>h'.elim);cases ok with
  |false=>exact EZ ⟨rfl,h₄⟩
  |true=>
   exact bP (bP (Uo h₄ (λx s₅ h₅=>bP (Uo h₅ (λ_ s₆ h₆=>EZ (EZ ⟨rfl,h₆⟩)) λ_ _ h'=>h'.elim)) λ_ _ h'=>h'.elim))
end
inductive P5(K:PySem.W.Frag)(m:List Nat)(P:aB)(e:Eo)(s:L2.St)(H:Hp)(Q:Bool->Hp->Prop):Prop
 |mk (r:List Addr) (fr:Fr) (h:Hh) (k:Bool) (h':Hh) (c0:SR K m H r fr s) (c1:HR K H r h) (c2:Ev.fO P e fr h=.ok k h') (c3:∀H' r',HR K H' r' h'->Fm K r r' H H'->Q k H'):P5 K m P e s H Q
noncomputable def JC(G:Tb)(n:Nat)(sc:Scope)(N:List Str)(df:Bool)(m:List Nat)(e:Eo)(ifs:List Expr):Prop:=∀X,Good G n sc N df X->∀(pins:List (Addr×Obj)) (s:Shared) (σ:L2.St) (H:Hp) (Q:Bool->Hp->Prop),Inv X pins σ H s->
 P5 X.K m (Ev.run G.F G.w n) e σ H Q->wpAny (model X.prog X.w) X.A (rV ifs X.env) (TP X pins σ Q) X.xe s
section
variable{G:Tb}{n:Nat}{sc:Scope}{N:List Str}{df:Bool}{m:List Nat}
def Oz:JC G n sc N df m .no []:=λX g pins s σ H Q I q=>by
 obtain⟨r,fr,h,k,h',sr,hr,e,q⟩:=q;simp only[Ev.fO]at e;cases e;exact EZ ⟨H,I,q H r hr .refl⟩
end
noncomputable def j4(X:Cx)(N':List Str)(scope:Scope)(cl:List (Str×Addr))(C:Addr)(s3:Shared)(H3:Hp)(fp:List Addr):Cx:=
 { X with N:=N',s₀:=s3,H₀:=H3,env:=compEnvC scope cl C X.env,outer:=X.stack,stack:=X.stack,ex:=fp,fn:=λ_=>false,pn:=[],xe:=λ_ _=>False }
noncomputable def namesOk(sc:Scope)(N:List Str)(m:List Nat)(scope:Scope)(t:T)(N':List Str)(m':List Nat):Prop:=m'.length=N'.length/\
 ∀(j:Nat) x i,N'[j]?=some x->m'[j]?=some i->i∈Ev.slots t\/((x,NameKind.free)∈scope.names/\∃jo:Nat,N[jo]?=some x/\m[jo]?=some i)
noncomputable def qF(sc:Scope)(N:List Str)(m:List Nat)(scope:Scope)(t:T)(N':List Str)(m':List Nat):Bool:=m'.length==N'.length&&
 (List.range N'.length).all λj=>match N'[j]?,m'[j]? with
  |some x,some i=>(Ev.slots t).contains i || (scope.names.contains (x,NameKind.free)&&(List.range N.length).any λjo=>N[jo]?==some x&&m[jo]?==some i)
  |_,_=>true
def namesOk.of{sc:Scope}{N:List Str}{m:List Nat}{scope:Scope}{t:T}{N':List Str}{m':List Nat}(h:qF sc N m scope t N' m'=true):namesOk sc N m scope t N' m':=by
 unfold qF at h;rw[gQ]at h;refine⟨by simpa using h.1,λj x i e1 e2=>?_⟩;have hj:j<N'.length:=(List.getElem?_eq_some_iff.mp e1).1;have q:=List.all_eq_true.mp h.2 j (List.mem_range.mpr hj);rw[e1,e2]at q;simp only[VF,gQ,WC]at q;rcases q with q|⟨q1,jo,_,q2⟩
 .exact .inl (by simpa using q)
 .exact .inr ⟨by simpa using q1,jo,by simpa using q2.1,by simpa using q2.2⟩
def xE{t:T}{d:D}{fr ak:Fr}(e:Ev.aY t d fr=some ak){i:Nat}(hi:i∉Ev.slots t):ak[i]?=fr[i]?:=by
 have go:∀(l:List Nat) (ds:List D) (fr ak:Fr),Ev.dz l ds fr=some ak->i∉l->ak[i]?=fr[i]?:=by
  intro l;induction l with
  |nil=>
   intro ds fr ak e _;cases ds with
   |nil=>cases e;rfl
   |cons _ _=>cases e
  |cons j l ih=>
   intro ds fr ak e hj;cases ds with
   |nil=>cases e
   |cons d ds=>
    rw[ih ds _ _ e λz=>hj (Vh _ z),gV];intro z;exact hj (by rw[z];exact Vv ..)
 cases t with
 |one j=>
  cases e;rw[gV];intro z;exact hi (by simp[Ev.slots,z])
 |many l=>
  cases d with
  |tup ds=>exact go l ds fr ak e hi
  |_=>cases e
def SR.unbind{K:PySem.W.Frag}{m:List Nat}{H:Hp}{r:List Addr}{t:T}{d:D}{fr ak:Fr}{s:L2.St}(sr:SR K m H r ak s)(e:Ev.aY t d fr=some ak)(hu:Ev.undef t fr=true):SR K m H r fr s:=by
 refine⟨sr.len,λj i d' e1 e2=>sr.sl j i d' e1 ?_⟩;rw[xE e]
 .exact e2
 .intro hi;have q:=List.all_eq_true.mp hu i hi;rw[e2]at q;cases q
structure jP(sc scope:Scope):Prop where
 kind:scope.kind=.function
 vt:∀y∈scope.names,y.2≠.cell
 free:∀x,(x,NameKind.free)∈scope.names->(sc.names.lookup x=some .cell\/sc.names.lookup x=some .free)/\scope.names.lookup x=some .free
 loc:∀y∈scope.names,y.2=.local->scope.names.lookup y.1=some .local
noncomputable def FJ(sc scope:Scope):Bool:=scope.kind==.function&&scope.names.all λy=>y.2 != .cell&&(y.2 != .free || ((sc.names.lookup y.1==some .cell ||sc.names.lookup y.1==some .free)&&scope.names.lookup y.1==some .free))&&(y.2 != .local ||scope.names.lookup y.1==some .local)
def jP.of{sc scope:Scope}(h:FJ sc scope=true):jP sc scope:=by
 unfold FJ at h;rw[gQ]at h;have q:∀y∈scope.names,y.2≠.cell/\(y.2=.free->(sc.names.lookup y.1=some .cell\/sc.names.lookup y.1=some .free)/\scope.names.lookup y.1=some .free)/\(y.2=.local->scope.names.lookup y.1=some .local):=λy hy=>by
  have z:=List.all_eq_true.mp h.2 y hy;simp only[gQ,VF,bne_iff_ne,XJ,ne_eq]at z;refine⟨z.1.1,λe=>?_,λe=>?_⟩
  .rcases z.1.2 with w|w
   .exact absurd e w
   .exact w
  .rcases z.2 with w|w
   .exact absurd e w
   .exact w
 exact⟨by simpa using h.1,λy hy=>(q y hy).1,λx hx=>(q _ hx).2.1 rfl,λy hy=>(q y hy).2.2⟩
theorem tY{sc:Scope}:∀{names:List (Str×NameKind)}{x:Str},names.lookup x=some .free->
  ((names.map λ(n,k)=>if (k==NameKind.free&&sc.kind==.function&&sc.names.lookup n==some .cell)then (n,NameKind.cell)else (n,k)).lookup x=some .cell\/
   (names.map λ(n,k)=>if (k==NameKind.free&&sc.kind==.function&&sc.names.lookup n==some .cell)then (n,NameKind.cell)else (n,k)).lookup x=some .free)
 |[],_,h=>by simp at h
 | (n,k) :: r,x,h=>by
  have ih:=@tY sc r x;simp only[wX];simp only[VM]at h;by_cases hc:(k==NameKind.free&&sc.kind==.function&&sc.names.lookup n==some .cell)=true
  .rw[b8 hc];simp only[VM];cases hx:(x==n)with
   |true=>exact .inl rfl
   |false=>rw[hx]at h;exact ih h
  .rw[SA hc];simp only[VM];cases hx:(x==n)with
   |true=>rw[hx]at h;exact .inr h
   |false=>rw[hx]at h;exact ih h
section
variable{G:Tb}{n:Nat}{sc scope:Scope}{N N':List Str}{df:Bool}{m m':List Nat}{t:T}{X:Cx}
def Good.comp(g:Good G n sc N df X){cl:List (Str×Addr)}{C:Addr}{s3:Shared}{H3:Hp}{fp:List Addr}:Good G n (cV sc scope) N' false (j4 X N' scope cl C s3 H3 fp):=
 ⟨rfl,rU g.sc,g.calm,(λh=>by cases h),g.room,rfl,g.fn,g.bl,g.cs,g.dk⟩
def Ib{pins:List (Addr×Obj)}{σ:L2.St}{H3:Hp}{s3:Shared}(g:Good G n sc N df X)(I:Inv X pins σ H3 s3)(hs:jP sc scope){cl:List (Str×Addr)}(gw:∀x c,cl.lookup x=some c->X.env.cells.lookup x=some c)
  (jh:∀x,(x,NameKind.free)∈scope.names->∃c,cl.lookup x=some c) {fp:List Addr} (hfp:∀b∈fp,fq X pins H3 b) (hfl:∀b∈fp,b<s3.heap.objs.size):(j4 X N' scope cl s3.heap.objs.size s3 H3 fp).Ok where
 mod:=I.ok.mod
 kind:=hs.kind
 glob:=I.ok.glob
 blt:=I.ok.blt
 above:=Qq _
 inj:=λx y c h1 h2=>I.ok.inj x y c (gw x c h1) (gw y c h2)
 has:=λx h=>by
  have h':(cV sc scope).names.lookup x=some .cell\/(cV sc scope).names.lookup x=some .free:=by
   rw[<-rU (scope:=scope) g.sc];exact h
  exact jh x (tW hs.vt h')
 uT:=λx c h=>by cases h
 hd:=I.ok.hd
 frames:=I.ok.frames
 stk:=.inl rfl
 xZ:=λb hb=>⟨Vk (hfl b hb),λx c e=>(hfp b hb).2.2.2.2.1 x c (gw x c e)⟩
 bs:=I.bs
 mJ:=Uc I.ok.mJ I.sz
 pL:=λb o e hb=>by
  rcases(hfp b hb).2.2.2.1 with z|z
  .exact I.ok.pL b o e z
  .have:=zo (I.ok.bs b o e).1;exact absurd (eE this z) (Vx _)
 mL:=λb hb z=>by
  rcases List.mem_cons.mp (I.kK b z)with q|q
  .exact(hfp b hb).2.1 q
  .exact(hfp b hb).2.2.1 q
 gR:=I.stack
 o5:=I.oA
open Classical in
noncomputable def sig(scope:Scope)(N N':List Str)(m':List Nat)(K:PySem.W.Frag)(H:Hp)(r:List Addr)(fr:Fr)(σ:L2.St):L2.St:=
 (List.range N'.length).map λj=>if h:∃v,∃x i,N'[j]?=some x/\m'[j]?=some i/\(x,NameKind.free)∈scope.names/\(∃jo:Nat,N[jo]?=some x/\σ[jo]?=some (some v))/\∀d,fr[i]?=some (some d)->RV K H r d v then some h.choose else none
def Lf{K:PySem.W.Frag}{H:Hp}{r:List Addr}{fr:Fr}{σ:L2.St}{j:Nat}{v:V}(h:(sig scope N N' m' K H r fr σ)[j]?=some (some v)) :
  ∃x i,N'[j]?=some x/\m'[j]?=some i/\(x,NameKind.free)∈scope.names/\(∃jo:Nat,N[jo]?=some x/\σ[jo]?=some (some v))/\∀d,fr[i]?=some (some d)->RV K H r d v:=by
 unfold sig at h;rw[Vq]at h;cases e:(List.range N'.length)[j]? with
 |none=>rw[e]at h;cases h
 |some j'=>
  have:=getElem?_range' e;subst this;rw[e]at h;simp only[Yt,Yh]at h;split at h
  .rename_i hh;cases h;exact hh.choose_spec
  .cases h
def BJ{K:PySem.W.Frag}{H:Hp}{r:List Addr}{fr:Fr}{σ:L2.St}(sr:SR K m H r fr σ)(hn:namesOk sc N m scope t N' m')(hu:Ev.undef t fr=true):SR K m' H r fr (sig scope N N' m' K H r fr σ):=by
 refine⟨by unfold sig;simp[hn.1],λj i d e1 e2=>?_⟩;have hj:j<N'.length:=by rw[<-hn.1];exact(List.getElem?_eq_some_iff.mp e1).1
 have hx:N'[j]?=some N'[j]:=RY hj;rcases hn.2 j _ i hx e1 with hi|⟨h1,jo,h2,h3⟩
 .exfalso;have q:=List.all_eq_true.mp hu i hi;rw[e2]at q;cases q
 .obtain⟨v,h4,h5⟩:=sr.sl jo i d h3 e2;have ex:∃v,∃x i,N'[j]?=some x/\m'[j]?=some i/\(x,NameKind.free)∈scope.names/\(∃jo:Nat,N[jo]?=some x/\σ[jo]?=some (some v))/\∀d,fr[i]?=some (some d)->RV K H r d v:=
   ⟨v,N'[j],i,hx,e1,h1,⟨jo,h2,h4⟩,λd' e'=>by rw[e2]at e';cases e';exact h5⟩
  refine⟨ex.choose,?_,?_⟩
  .unfold sig;rw[Vq,XX hj];simp only[Yt];rw[dif_pos ex]
  .obtain⟨x',i',q1,q2,q3,q4,q5⟩:=ex.choose_spec;rw[e1]at q2;cases q2;exact q5 d e2
def vv{pins:List (Addr×Obj)}{σ:L2.St}{H3:Hp}{s3:Shared}(g:Good G n sc N df X)(I:Inv X pins σ H3 s3)(hs:jP sc scope){cl:List (Str×Addr)}(gw:∀x c,cl.lookup x=some c->X.env.cells.lookup x=some c)
  (jh:∀x,(x,NameKind.free)∈scope.names->∃c,cl.lookup x=some c) {fp:List Addr} (hfp:∀b∈fp,fq X pins H3 b) (hfl:∀b∈fp,b<s3.heap.objs.size) {h1:Heap} {tk:Nat} {mm:Str->Option Value}
  (hns:h1.Ns s3.heap.objs.size mm) (hk:∀b o,s3.heap.get? b=some o->h1.get? b=some o) {r:List Addr} {fr:Fr} :
  Inv (j4 X N' scope cl s3.heap.objs.size s3 H3 fp) [] (sig scope N N' m' X.K H3 r fr σ) H3 { s3 with heap:=h1,toks:=tk }:=by
 refine⟨Ib g I hs gw jh hfp hfl,rfl,I.bare,Un.kept hk,⟨mm,hns,λj x v e1 e2 e3=>?_⟩,λx c e=>?_,I.hok.fresh (Qq _),λx c e=>I.gG x c (gw x c e),(λp hp=>by simp[j4]at hp),I.hok.kept hk,(by unfold sig;simp[j4])⟩
 .obtain⟨x',i,q1,q2,q3,⟨jo,q4,q5⟩,_⟩:=Lf e2;have yt:N'[j]?=some x:=e1;rw[yt]at q1;cases q1;obtain⟨f1,f2⟩:=hs.free x q3;obtain⟨mO,Ur,SO⟩:=I.loc;obtain⟨u,ru,lk⟩:=SO jo x v (by rw[g.nm];exact q4) q5 (by rw[g.sc];rcases f1 with z|z<;>simp[tu,z]);refine⟨u,ru,?_⟩;have hkd:X.env.kindOf x=some .cell\/X.env.kindOf x=some .free:=by unfold Env.kindOf;rw[g.sc];exact f1
  rcases lk with ⟨z,_⟩|⟨_,c,hc,hcell⟩
  .rcases hkd with w|w <;> (rw[z]at w;cases w)
  .obtain⟨c',hc'⟩:=jh x q3;have:c'=c:=by
    have:=gw x c' hc';rw[hc]at this;cases this;rfl
   subst this;refine .inr ⟨?_,c',hc',?_⟩
   .show(relabel scope X.env).names.lookup x=some .cell\/(relabel scope X.env).names.lookup x=some .free;rw[rU (scope:=scope) g.sc];exact tY f2
   .obtain⟨o,ho,hd⟩:=hcell;exact⟨o,hk _ _ ho,hd⟩
 .obtain⟨v,o,ho,hd⟩:=I.cell x c (gw x c e);exact⟨v,o,hk _ _ ho,hd⟩
end
section
variable{G:Tb}{n:Nat}{sc scope:Scope}{N N':List Str}{df:Bool}{m m':List Nat}{elt:E}{t:T}{it:Ev.It}{cond:Eo}{xe xi tg:Expr}{ifs:List Expr}{pos:Pos}{X:Cx}
noncomputable def lG(P:aB)(elt:E)(t:T)(cond:Eo)(fr:Fr):D->Hh->R (Option D):=λd h2=>match Ev.aY t d fr with
 |none=>.bad
 |some ak=>(Ev.fO P cond ak h2).bind λk h3=>if k then (Ev.ev P elt ak h3).bind λx h4=>.ok (some x) h4 else .ok none h3
def rW(P:aB)(elt:E)(t:T)(it:Ev.It)(cond:Eo)(fr:Fr)(h:Hh):Ev.ev P (.comp elt t it cond) fr h=(Ev.bQ P it fr h).bind λs h1=>if Ev.undef t fr then
  (Ev.bu (lG P elt t cond fr) s.2 s.1 h1).bind λds h2=>Ev.alloc ds h2 else .bad:=by
 simp only[Ev.ev];rfl
noncomputable def CI(Y:Cx)(m':List Nat)(f:D->Hh->R (Option D))(fr:Fr)(src:Src)(fp:List Addr)(tn:Nat->Heap->Prop)(r2:List Addr)(H2:Hp)(Dd:Addr)(ds:List D)(h2:Hh)(k:Nat)(s:Shared):Prop:=
 ∃i iY Hc rc hc dn vs rest,Inv Y [] iY Hc s/\tn i s.heap/\(∀b∈fp,Hc b=none)/\k=src.1.length - i/\i<=src.1.length/\
  SR Y.K m' Hc rc fr iY/\HR Y.K Hc rc hc/\Fm Y.K r2 rc H2 Hc/\Hc Dd=some (.lst vs)/\Dd∉rc/\aF Y.K Hc rc dn vs/\Ev.bu f src.2 (src.1.drop i) hc=.ok rest h2/\dn++rest=ds
section
variable{Y:Cx}{sc':Scope}{J:L2.It}{fp:List Addr}{ita:Addr}{tn:Nat->Heap->Prop}{fr:Fr}{src:Src}{r2:List Addr}{H2:Hp}{Dd:Addr}{ds:List D}{h2:Hh}
def kC(gC:Good G n sc' N' false Y){α:Type}{tt:Sem α}{Q:α->Shared->Prop}{s:Shared}(hw:wpAny (model Y.prog Y.w) Y.A tt Q Y.xe s):wpAny (model Y.prog Y.w) Y.A tt Q b9 s:=by rw[gC.xe]at hw;exact hw
def yu{i:Nat}{eg:L2.St}{H9:Hp}{r9:List Addr}{h9:Hh}{dn:List D}{vs:List V}{rest':List D}{s9:Shared}{p:List (Addr×Obj)}{f:D->Hh->R (Option D)}(hlt:i<src.1.length)(I9:Inv Y ([]++p) eg H9 s9)(bk:tn (i+1) s9.heap/\∀b∈fp,H9 b=none)(q:SR Y.K m' H9 r9 fr eg)(gD:HR Y.K H9 r9 h9)(fm:Fm Y.K r2 r9 H2 H9)(lH:H9 Dd=some (.lst vs))(lI:Dd∉r9)(rv:aF Y.K H9 r9 dn vs)(e7:Ev.bu f src.2 (src.1.drop (i+1)) h9=.ok rest' h2)(ed:dn++rest'=ds) :
  ∃k,k<src.1.length - i/\CI Y m' f fr src fp tn r2 H2 Dd ds h2 k s9:=
 ⟨src.1.length - (i+1),WM hlt (WB i),i+1,eg,H9,r9,h9,dn,vs,rest',I9.jH,bk.1,bk.2,rfl,hlt,q,gD,fm,lH,lI,rv,e7,ed⟩
def Lh{i:Nat}{eg:L2.St}{H9:Hp}{r9:List Addr}{h9:Hh}{dn:List D}{vs:List V}{xd:D}{v10:V}{qG:Value}{rest':List D}{s9:Shared}{p:List (Addr×Obj)}{f:D->Hh->R (Option D)}(hlt:i<src.1.length)(fR:H2 Dd=none)(hsz:ds.length<=sizeLine)(gC:Good G n sc' N' false Y)(I9:Inv Y ([]++p) eg H9 s9)(pT:RelV v10 qG)(bk:∀{σ':L2.St}{H':Hp}{s':Shared},Inv Y ([]++p) σ' H' s'->tn (i+1) s'.heap/\∀b∈fp,H' b=none)(q:SR Y.K m' H9 r9 fr eg)(gD:HR Y.K H9 r9 h9)(fm:Fm Y.K r2 r9 H2 H9)(iL:H9 Dd=some (.lst vs))(mj:Dd∉r9)(rv:aF Y.K H9 r9 dn vs)(pU:RV Y.K H9 r9 xd v10)(e7:Ev.bu f src.2 (src.1.drop (i+1)) h9=.ok rest' h2)(ed:dn++xd :: rest'=ds) :
  wpAny (model Y.prog Y.w) Y.A (call (.builtin "list.append") [.ref Dd,qG]) (λ_ tZ=>∃k,k<src.1.length - i/\CI Y m' f fr src fp tn r2 H2 Dd ds h2 k tZ) b9 s9:=by
 have hlen:vs.length<sizeLine:=by
  have h1:=rv.length;have h2:=Vd List.length ed;simp at h2;omega
 refine aW (kC gC (mY _ s9 eg H9 (.ref Dd) [v10] (.ref Dd) [qG] (λ_ BK=>BK=upd H9 Dd (.lst (vs++[v10]))) I9 rfl (.cons pT .nil) ⟨Dd,vs,v10,rfl,rfl,iL,hlen,rfl⟩)) λ_ tZ ⟨_,BK,BL,_,DP⟩=>?_;subst DP;refine yu (dn:=dn++[xd]) (vs:=vs++[v10]) hlt BL (bk BL) ?_ (gD.other iL mj) (fm.other fR iL) cJ mj ?_ e7 ?_
 .exact⟨q.len,λj i' d' a1 a2=>by
   obtain⟨w,b1,b2⟩:=q.sl j i' d' a1 a2;exact⟨w,b1,b2.grow (λ_ _ z=>z) (fz iL)⟩⟩
 .exact(rv.append (.cons pU .nil)).grow (λ_ _ z=>z) (fz iL)
 .rw[<-ed];simp
def BN(gC:Good G n sc' N' false Y)(hg:JG G n sc' N' false m' t tg)(hc:JC G n sc' N' false m' cond ifs)(he:JE G n sc' N' false m' elt xe)(Tn:Turn Y.prog Y.w Y.K tg J fp ita tn)(iz:∀{Hc:Hp},(∀b∈fp,Hc b=none)->∀b∈fp,fq Y [] Hc b)
  (hu:Ev.undef t fr=true) (hJ:ng Y.K r2 H2 src J) (fR:H2 Dd=none) (hsz:ds.length<=sizeLine) {R':Result->Shared->Prop}
  (DQ:∀s6 iY Hc rc vs,Inv Y [] iY Hc s6->HR Y.K Hc rc h2->Fm Y.K r2 rc H2 Hc->Hc Dd=some (.lst vs)->Dd∉rc->aF Y.K Hc rc ds vs->R' (.ok .next) s6) {k:Nat} {s:Shared}
  (h:CI Y m' (lG (Ev.run G.F G.w n) elt t cond fr) fr src fp tn r2 H2 Dd ds h2 k s):codeAny (model Y.prog Y.w) Y.A (.compLoop (.ListComp xe [⟨tg,xi,ifs,0⟩] scope pos) 0 (.ref ita) (.ref Dd) Y.env) R' s:=by
 refine vq (CI Y m' (lG (Ev.run G.F G.w n) elt t cond fr) fr src fp tn r2 H2 Dd ds h2) ?_ k h;rintro k s5 ⟨i,iY,Hc,rc,hc',dn,vs,rest,I5,tE,mS,rfl,hle,tV,pq,mz,iL,mj,t8,e5,FL⟩;rcases Xc i src.1.length with hlt|hge
 .rw[Wh hlt]at e5;simp only[Ev.bu]at e5;split at e5
  .rename_i hst;obtain⟨hgo,_⟩:=hJ i Hc rc hc' pq mz hst;obtain⟨g1,g2⟩:=hgo src.1[i] (RY hlt);obtain⟨o,h6,e6,e5⟩:=Ev.ah e5;obtain⟨rest',h7,e7,e5⟩:=Ev.ah e5;cases e5;refine aW (Tn.item Y rfl rfl rfl gC.calm i [] s5 iY Hc b9 I5 (iz mS) tE g1) λrr s6 ⟨u,Li,h8⟩=>?_;subst Li;refine aW h8 λ_ s7 ⟨x,H7,I7,rx,y7,vz,Lj⟩=>?_;obtain⟨r7,v7,vA,jQ⟩:=g2 x H7 y7;obtain⟨DR,DS⟩:=jQ.di iL mj;unfold lG at e6;split at e6
   .cases e6
   .rename_i ak eb;obtain⟨kk,h9,e9,e6⟩:=Ev.ah e6;have FO:=I7.pinned (iz Lj) (Tn.obj _ _ vz);refine aW (kC gC (hg _ gC _ s7 iY H7 x u (λeg H8=>H8=H7/\SR Y.K m' H7 r7 ak eg) FO rx ⟨r7,fr,hc',_,ak,tV.mono jQ,vA,v7,eb,λs' q=>⟨rfl,q⟩⟩)) λ_ s8 ⟨eg,H8,I8,BO,mC⟩=>?_;subst BO;refine aW (kC gC (hc _ gC _ s8 eg _ (λb H9=>b=kk/\∃r9,HR Y.K H9 r9 h9/\Fm Y.K r7 r9 _ H9) I8 ⟨r7,ak,hc',kk,h9,mC,vA,e9,λH9 r9 gD f9=>⟨rfl,r9,gD,f9⟩⟩)) λbb s9 ⟨H9,I9,u9,r9,gD,g7⟩=>?_;subst u9;obtain⟨lI,lH⟩:=g7.di DS DR;have back:∀{σ':L2.St} {H':Hp} {s':Shared},Inv Y ([]++kL fp s7.heap) σ' H' s'->tn (i+1) s'.heap/\∀b∈fp,H' b=none:=λ{σ' H' s'} I'=>
     ⟨Tn.keep _ _ _ vz λb hb o e=>(I'.pin (b,o) (Vf _ (Vf _ (gg hb e)))).1,λb hb=>
      let ⟨o,e,_⟩:=Tn.obj _ _ vz b hb
      (I'.pin (b,o) (Vf _ (Vf _ (gg hb e)))).2.1⟩
    cases bb with
    |false=>
     simp only[Vi,VG]at e6 ⊢;cases e6;exact yu hlt I9 (back I9) ((mC.mono g7).unbind eb hu) gD ((mz.trans jQ).trans g7) lH lI ((t8.mono jQ).mono g7) e7 FL
    |true=>
     simp only[Vj]at e6 ⊢;obtain⟨xd,mD,BP,e6⟩:=Ev.ah e6;cases e6;refine aW (kC gC (he _ gC _ s9 eg H9 (λv ni=>∃kR,RV Y.K ni kR xd v/\HR Y.K ni kR _/\Fm Y.K r9 kR H9 ni) I9 ⟨r9,ak,h9,xd,_,mC.mono g7,gD,BP,λv ni kR v10 pV t9=>⟨kR,v10,pV,t9⟩⟩)) λqG FP ⟨v10,ni,Lk,pT,kR,pU,pV,lJ⟩=>?_;obtain⟨Ad,Ae⟩:=lJ.di lH lI;exact Lh hlt fR hsz gC Lk pT back (((mC.mono g7).mono lJ).unbind eb hu) pV (((mz.trans jQ).trans g7).trans lJ) Ae Ad (((t8.mono jQ).mono g7).mono lJ) pU e7 FL
  .cases e5
 .have hi':i=src.1.length:=Xm hle hge;subst hi';rw[Xf]at e5;simp only[Ev.bu]at e5;split at e5
  .rename_i hst;cases e5;refine aW (Tn.done Y rfl rfl rfl gC.calm _ [] s5 iY Hc b9 I5 (iz mS) tE ((hJ _ Hc rc _ pq mz hst).2 (Qq _))) λrr s6 ⟨hrr,I6⟩=>?_;subst hrr;rw[VE]at FL;subst FL;exact DQ s6 iY Hc rc vs I6 pq mz iL mj t8
  .cases e5
end
def BQ(g:Good G n sc N df X)(hi:JI G n sc N df m it tg xi)(hg:JG G n (cV sc scope) N' false m' t tg)(hc:JC G n (cV sc scope) N' false m' cond ifs)(he:JE G n (cV sc scope) N' false m' elt xe)
  (hn:namesOk sc N m scope t N' m') (hs:jP sc scope) {cl:List (Str×Addr)} (gw:∀x c,cl.lookup x=some c->X.env.cells.lookup x=some c) (jh:∀x,(x,NameKind.free)∈scope.names->∃c,cl.lookup x=some c)
  {pins:List (Addr×Obj)} {σ:L2.St} {H:Hp} {s:Shared} (I:Inv X pins σ H s) {r:List Addr} {fr:Fr} {h:Hh} {d:D} {h':Hh} (sr:SR X.K m H r fr σ) (hr:HR X.K H r h)
  (e:Ev.ev (Ev.run G.F G.w n) (.comp elt t it cond) fr h=.ok d h') (post:Value->Addr->Result->Shared->Prop)
  (hpost:∀Dd C s' H' r',Inv X pins σ H' s'->(∃mm,s'.heap.Ns C mm)->fq X pins H' C->RV X.K H' r' d (.ref Dd)->HR X.K H' r' h'->Fm X.K r r' H H'->post (.ref Dd) C (.ok .next) s') {E:Value->Shared->Prop} (hE:X.xe=λ_ _=>False) :
  wpAny (model X.prog X.w) X.A (eval xi X.env) (λx s₁=>wpAny (model X.prog X.w) X.A (pyIter x) (λitv s₂=>wpAny (model X.prog X.w) X.A (newList []) (λacc s₃=>
   wpAny (model X.prog X.w) X.A (newFunctionEnv scope X.env.globals cl [] X.env.qual none .none (some X.env)) (λcenv s₄=>
    codeAny (model X.prog X.w) X.A (.compStart (.ListComp xe [⟨tg,xi,ifs,0⟩] scope pos) 0 itv acc { cenv with scope:=relabel scope X.env }) (post acc cenv.locals) s₄) E s₃) E s₂) E s₁) E s:=by
 rw[rW]at e;obtain⟨src,h1,e1,e⟩:=Ev.ah e;split at e
 .rename_i hu;obtain⟨ds,h2,e2,e⟩:=Ev.ah e;have cY:∀{α:Type} {tt:Sem α} {Q:α->Shared->Prop} {s:Shared},wpAny (model X.prog X.w) X.A tt Q X.xe s->wpAny (model X.prog X.w) X.A tt Q E s:=λ{α tt Q s} hw=>Uo hw (λ_ _ q=>q) λ_ _ q=>by rw[hE]at q;exact q.elim
  refine aW (cY (hi X g pins s σ H (λJ H2=>∃r2,HR X.K H2 r2 h1/\Fm X.K r r2 H H2/\ng X.K r2 H2 src J) I ⟨r,fr,h,src,h1,sr,hr,e1,λJ H2 r2 hr2 f2 hJ=>⟨r2,hr2,f2,hJ⟩⟩)) λv s1 q1=>?_;refine aW (cY q1) λitv s2 q2=>?_;obtain⟨ita,fp,tn,J,H2,rfl,I2,Tn,st2,f2,r2,hr2,vC,hJ⟩:=q2;refine VZ ?_;generalize qH:s2.heap.objs.size=Dd
  have fR:H2 Dd=none:=by rw[<-qH];exact I2.fresh
  have I3:Inv X pins σ (upd H2 Dd (.lst [])) { s2 with heap:=s2.heap.push { cls:=.type "list",data:=.seq ([]:List Value).toArray }}:=by
   have:=I2.zW (ys:=[]) (its:=[]) (t':=s2.toks) .nil (VQ _);rw[qH]at this;exact this
  have vD:∀b∈fp,b<s2.heap.objs.size:=λb hb=>by
   obtain⟨o,e,_⟩:=Tn.obj 0 _ st2 b hb;exact zo e
  generalize vE:({ s2 with heap:=s2.heap.push { cls:=.type "list",data:=.seq ([]:List Value).toArray }}:Shared)=s3 at I3
  have DT:s3.heap.objs.size=s2.heap.objs.size+1:=by rw[<-vE];exact Xw ..
  have k3:∀b o,s2.heap.get? b=some o->s3.heap.get? b=some o:=λb o e=>by rw[<-vE];exact AQ _ e
  have vF:∀b∈fp,b<s3.heap.objs.size:=λb hb=>eE (vD b hb) (by rw[DT];exact Nat.le_succ _);have iQ:∀b∈fp,fq X pins (upd H2 Dd (.lst [])) b:=λb hb=>⟨by rw[aV (λz=>absurd (vD b hb) (by rw[z,qH];exact Vx _))];exact(f2 b hb).1,(f2 b hb).2⟩
  refine wpAny_newFunctionEnv (hs.vt) (λy hy=>by simp at hy) (λvG DU DV=>?_) hs.kind;have k4:∀b o,s3.heap.get? b=some o->vG.get? b=some o:=λb o e=>DV.extBut b o (Vk (zo e)) (AQ _ e);have gC:Good G n (cV sc scope) N' false (j4 X N' scope cl s3.heap.objs.size s3 (upd H2 Dd (.lst [])) fp):=g.comp;have I4:Inv (j4 X N' scope cl s3.heap.objs.size s3 (upd H2 Dd (.lst [])) fp) [] (sig scope N N' m' X.K (upd H2 Dd (.lst [])) r2 fr σ) (upd H2 Dd (.lst [])) { s3 with heap:=vG,toks:=s3.toks+0 }:=
   vv g I3 hs gw jh iQ vF DU k4
  have yr:SR X.K m' (upd H2 Dd (.lst [])) r2 fr (sig scope N N' m' X.K (upd H2 Dd (.lst [])) r2 fr σ):=BJ (((sr.mono vC).mono (Fm.tup fR))) hn hu;have j3:HR X.K (upd H2 Dd (.lst [])) r2 h1:=hr2.tup fR;have FQ:Dd∉r2:=λhm=>by
   obtain⟨k,hk⟩:=WK hm;have hlt:k<h1.length:=by rw[<-hr2.len];exact(List.getElem?_eq_some_iff.mp hk).1
   obtain⟨a,e3,e4⟩:=hr2.ob k _ (RY hlt);rw[hk]at e3;cases e3;cases eo:h1[k]with
   |lst dd=>rw[eo]at e4;obtain⟨us,e5,_⟩:=e4;rw[fR]at e5;cases e5
   |bE dd=>
    rw[eo]at e4;obtain⟨us,e5,_⟩:=e4;rcases e5 with ⟨ob,e5⟩|⟨ob,_,_,e5,_⟩
    .rw[fR]at e5;cases e5
    .have:=zo (I2.dQ _ _ e5);rw[qH]at this;exact absurd this (Vx _)
   |dm kvs=>rw[eo]at e4;have e5:=e4.1;rw[fR]at e5;cases e5
  have SQ:H Dd=none:=by
   cases z:H Dd with
   |none=>rfl
   |some o=>
    have hnr:Dd∉r:=λhm=>by
     obtain⟨k,hk⟩:=WK hm;exact FQ (Vr (vC.pre _ _ hk))
    have:=vC.keep _ _ z hnr;rw[fR]at this;cases this
  have iz:∀{Hc:Hp},(∀b∈fp,Hc b=none)->∀b∈fp,fq (j4 X N' scope cl s3.heap.objs.size s3 (upd H2 Dd (.lst [])) fp) [] Hc b:=λ{Hc} hz b hb=>by
   refine⟨hz b hb,Vk (vF b hb),(I4.ok).mL b hb,.inl hb,λx c e=>((I4.ok).xZ b hb).2 x c e,λp hp=>?_⟩;simp[j4]at hp
  have hsz:ds.length<=sizeLine:=by
   unfold Ev.alloc at e;split at e
   .rename_i z;rw[<-jO];exact z
   .cases e
  have fin:codeAny (model X.prog X.w) X.A (.compLoop (.ListComp xe [⟨tg,xi,ifs,0⟩] scope pos) 0 (.ref ita) (.ref Dd) (compEnvC scope cl s3.heap.objs.size X.env)) (post (.ref Dd) s3.heap.objs.size) { s3 with heap:=vG,toks:=s3.toks+0 }:=by
   refine BN gC hg hc he Tn iz hu hJ fR hsz (λs6 iY Hc rc vs I6 pq mz iL mj t8=>?_) ⟨0,_,_,r2,h1,[],[],ds,I4,Tn.keep _ _ _ st2 λb hb o eo=>k4 b o (k3 b o eo),λb hb=>(iQ b hb).1,rfl,VQ _,yr,j3,Fm.tup fR,cJ,FQ,.nil,by rw[Wq];exact e2,rfl⟩;unfold Ev.alloc at e;split at e
   .cases e;obtain⟨Ll,DW,_⟩:=I6.loc;refine hpost Dd _ s6 Hc (rc++[Dd]) ?_ ⟨Ll,DW⟩ ?_ ⟨Dd,rfl,?_⟩ (pq.known iL mj t8) ((vC.trans mz).known ?_)
    .exact I3.oB (ch:=fp) (I6.os) I6.base I6.hok I6.bare λb hb=>⟨(iQ b hb).2.2.2.1,(iQ b hb).2.1,(iQ b hb).2.2.2.2.1,(iQ b hb).2.2.2.2.2⟩
    .exact I3.zL (Qq _) I6.free
    .rw[<-pq.len];simp
    .exact SQ
   .cases e
  subst vE;exact Xo fin (Tn.self _ 0 _ _ _ (Tn.keep _ _ _ st2 λb hb o eo=>k4 b o (k3 b o eo)) fin)
 .cases e
end
section
variable{G:Tb}{n:Nat}{sc scope:Scope}{N N':List Str}{df:Bool}{m m':List Nat}{elt:E}{t:T}{it:Ev.It}{cond:Eo}{xe xi tg:Expr}{ifs:List Expr}{pos:Pos}
theorem Good.cells{X:Cx}{pins:List (Addr×Obj)}{σ:L2.St}{H:Hp}{s:Shared}(g:Good G n sc N df X)(I:Inv X pins σ H s)(hs:jP sc scope) :
  ∃cl,closureFor scope X.env=pure cl/\(∀x c,cl.lookup x=some c->X.env.cells.lookup x=some c)/\∀x,(x,NameKind.free)∈scope.names->∃c,cl.lookup x=some c:=
 Ia λx hx=>I.ok.has x (by unfold Env.kindOf;rw[g.sc];exact(hs.free x hx).1)
def BR{X:Cx}{pins:List (Addr×Obj)}{σ:L2.St}{H:Hp}{s:Shared}(I:Inv X pins σ H s){C:Addr}(fp:fq X pins H C){h':Heap}(hs:Heap.SameBut C s.heap h'):Inv X pins σ H { s with heap:=h' }:=
 I.turned (t':=s.toks) (λb o hb e=>hs.extBut b o hb e) fp.1 fp.2.1 fp.2.2.2.1 fp.2.2.2.2.1 fp.2.2.2.2.2
def Ic(hi:JI G n sc N df m it tg xi)(hg:JG G n (cV sc scope) N' false m' t tg)(hc:JC G n (cV sc scope) N' false m' cond ifs)(he:JE G n (cV sc scope) N' false m' elt xe)
  (hn:namesOk sc N m scope t N' m') (hs:jP sc scope) (hf:∀(env:Env) x,foldedSetIterable xi env x=pure x:=by intro _ _;rfl):JE G n sc N df m (.comp elt t it cond) (.ListComp xe [⟨tg,xi,ifs,0⟩] scope pos):=λX g pins s σ H Q I q=>by
 obtain⟨r,fr,h,d,h',sr,hr,e,q⟩:=q;obtain⟨cl,hcl,gw,jh⟩:=g.cells I hs;rw[eval_ListComp];refine Xh (use:=none) (Q:=EP X pins σ Q) rfl (hf _) hcl hs.kind hs.loc ?_;refine BQ g hi hg hc he hn hs gw jh I sr hr e (λacc C=>compPost (model X.prog X.w) X.A X.xe none (EP X pins σ Q) acc C) (λDd C s' H' r' I' hC fp rv hr' SS=>?_) g.xe;obtain⟨mm,hC⟩:=hC;exact⟨mm,hC,λh'' SV=>⟨.ref Dd,H',BR I' fp SV,rfl,q _ H' r' rv hr' SS⟩⟩
end
end Sm
namespace Sm
open PySem PySem.Spec PyProof.Rows L2 PySem.SeqAt
open Ev (D O Hh Fr R aB E Es Eo T S Ss Fl Src aQ aK TY BI ME)
structure vH(A:Around)(s:Shared)(u w:Value)(k:Bool):Prop where
 eq:EqAt A s u w k
 rc:RcAt A s u w k
 ne:RcNeAt A s u w (!k)
theorem rX{f:D->D->Option Bool}:∀{x y:List D},x.length≠y.length->∀{k},Ev.b5 f x y=some k->k=false
 |[],[],h,_,_=>absurd rfl h
 |[],_ :: _,_,_,e=>by cases e;rfl
 |_ :: _,[],_,_,e=>by cases e;rfl
 |a :: x,b :: y,h,k,e=>by
  simp only[Ev.b5,V3,eU]at e;obtain⟨p,_,q,e2,e3⟩:=e;have:=rX (x:=x) (y:=y) (by simpa using h) e2;subst this;cases e3;simp
theorem yv{f:D->D->Option Bool}:∀{x y:List D}{k},Ev.b5 f x y=some k->x.length=y.length->∃e:Nat->Bool,(∀(j:Nat) a b,x[j]?=some a->y[j]?=some b->f a b=some (e j))/\(List.range x.length).all e=k
 |[],[],_,h,_=>⟨λ_=>true,(λj a b h1=>by simp at h1),by cases h;simp⟩
 |[],_ :: _,_,_,h=>by simp at h
 |_ :: _,[],_,_,h=>by simp at h
 |a :: x,b :: y,k,h,hl=>by
  simp only[Ev.b5,V3,eU]at h;obtain⟨p,e1,q,e2,e3⟩:=h;cases e3;obtain⟨e,h1,h2⟩:=yv e2 (by simpa using hl);refine⟨λj=>match j with|0=>p|j+1=>e j,λj a' b' g1 g2=>?_,?_⟩
  .cases j with
   |zero=>simp at g1 g2;subst g1 g2;exact e1
   |succ j=>exact h1 j a' b' (by simpa using g1) (by simpa using g2)
  .rw[Vg,Xr,List.all_cons,List.all_map,<-h2];rfl
theorem yw{f:D->D->Option Bool}:∀{x y:List D}{k},Ev.b5 f x y=some k->∃e:Nat->Bool,∀(j:Nat) a b,x[j]?=some a->y[j]?=some b->f a b=some (e j)
 |[],_,_,_=>⟨λ_=>true,λj a b h1=>by simp at h1⟩
 |_ :: _,[],_,_=>⟨λ_=>true,λj a b _ h1=>by simp at h1⟩
 |a :: x,b :: y,k,h=>by
  simp only[Ev.b5,V3,eU]at h;obtain⟨p,e1,q,e2,e3⟩:=h;obtain⟨e,h1⟩:=yw e2;refine⟨λj=>match j with|0=>p|j+1=>e j,λj a' b' g1 g2=>?_⟩;cases j with
  |zero=>simp at g1 g2;subst g1 g2;exact e1
  |succ j=>exact h1 j a' b' (by simpa using g1) (by simpa using g2)
section
variable{X:Cx}{pins:List (Addr×Obj)}{σ:L2.St}{H:Hp}{s:Shared}{r:List Addr}{h:Hh}
def oM(I:Inv X pins σ H s){a b:Addr}{vs ws:List V}(h1:Aa X.K H a vs)(h2:H b=some (.lst ws)):a≠b:=by
 rintro rfl;rcases h1 with ⟨o,h1⟩|⟨o,_,_,h1,_⟩
 .rw[h2]at h1;cases h1
 .have:=(I.bs a o (I.ok.mod.cO a o h1)).2;rw[h2]at this;cases this
def ua{x y:List D}{vs ws:List V}{us zs:List Value}{f:D->D->Option Bool}{A:Around}{k:Bool}(v1:aF X.K H r x vs)(v2:aF X.K H r y ws)(p1:Vals vs us)(p2:Vals ws zs)
  (ih:∀a b va vb u w k,RV X.K H r a va->RV X.K H r b vb->RelV va u->RelV vb w->f a b=some k->vH A s u w k) (hl:x.length=y.length) (e:Ev.b5 f x y=some k) :
  ∃e':Nat->Bool,(∀j (h1:j<us.toArray.size) (h2:j<zs.toArray.size),EqAt A s us.toArray[j] zs.toArray[j] (e' j))/\(List.range us.toArray.size).all e'=k/\us.length=zs.length:=by
 obtain⟨e',h1,h2⟩:=yv e hl;have l1:=v1.length;have l2:=v2.length;have l3:=p1.length;have l4:=p2.length;refine⟨e',λj g1 g2=>?_,?_,by omega⟩
 .have SW:j<us.length:=by simpa using g1
  have SX:j<zs.length:=by simpa using g2
  have ha:x[j]?=some x[j]:=RY (by omega);have hb:y[j]?=some y[j]:=RY (by omega);obtain⟨va,a1,a2⟩:=v1.get ha;obtain⟨vb,b1,b2⟩:=v2.get hb;obtain⟨u,a3,a4⟩:=p1.get a1;obtain⟨w,b3,b4⟩:=p2.get b1;have eu:us.toArray[j]=u:=by
   have:=(List.getElem?_eq_some_iff.mp a3).2;simpa using this
  have ew:zs.toArray[j]=w:=by
   have:=(List.getElem?_eq_some_iff.mp b3).2;simpa using this
  rw[eu,ew];exact(ih _ _ _ _ _ _ _ a2 b2 a4 b4 (h1 j _ _ ha hb)).eq
 .rw[<-h2];have:us.toArray.size=x.length:=by simp;omega
  rw[this]
noncomputable def bV(K:PySem.W.Frag)(H:Hp)(r:List Addr):D->V->Prop
 |.bf,v=>v=.bf
 |.bl b,v=>v=.bl b
 |.int i,v=>v=.int i
 |.str l,v=>v=.str (au l)
 |.ref n,v=>∃a,v=.ref a/\r[n]?=some a
 |.tup ds,v=>∃a vs,v=.ref a/\dH K H a vs/\aF K H r ds vs
def RV.shape{d:D}{v:V}(h:RV X.K H r d v):bV X.K H r d v:=by
 cases d<;>simp only[RV]at h<;>simp only[bV]<;>first|exact h|exact h.1
def Ie{a b:List Nat}:(au a==au b)=(a==b):=by
 by_cases e:a=b
 .subst e;simp
 .have e1:(au a==au b)=false:=beq_eq_false_iff_ne.mpr λz=>e (jA z);have e2:(a==b)=false:=beq_eq_false_iff_ne.mpr e;rw[e1,e2]
def pW{n:Nat}{A:Around}{x y:List D}{a b:Addr}{vs ws:List V}{k:Bool}(I:Inv X pins σ H s)(hu:A.units<cLine)(q1:eY X.K H a vs)(q2:eY X.K H b ws)(v1:aF X.K H r x vs)(v2:aF X.K H r y ws)(hab:a≠b)
  (ih:∀a b va vb u w k,RV X.K H r a va->RV X.K H r b vb->RelV va u->RelV vb w->Ev.gr h n a b=some k->vH A.in1 s u w k) (e:Ev.b5 (Ev.gr h n) x y=some k):vH A s (.ref a) (.ref b) k:=by
 obtain⟨us,p1,pA,_⟩:=I.list q1;obtain⟨zs,p2,pB,_⟩:=I.list q2;by_cases hl:x.length=y.length
 .obtain⟨e',h1,h2,h3⟩:=ua v1 v2 p1 p2 ih hl e;have hs:us.toArray.size=zs.toArray.size:=by simpa using h3
  have rc:=RcAt.lists pA.isList pB.isList hs hu h1;have ne:=RcNeAt.lists pA.isList pB.isList hs hu h1;rw[h2]at rc ne;exact⟨.of_refs hab rc,rc,ne⟩
 .have hk:=rX hl e;subst hk;have hs:(us.toArray.size != zs.toArray.size)=true:=by
   have l1:=v1.length;have l2:=v2.length;have l3:=p1.length;have l4:=p2.length;simp only[Nb,bne_iff_ne,ne_eq];omega
  exact⟨.of_refs hab (.lists_lengths pA.isList pB.isList hs hu),.lists_lengths pA.isList pB.isList hs hu,.lists_lengths pA.isList pB.isList hs hu⟩
def vI(I:Inv X pins σ H s)(hr:HR X.K H r h){n:Nat}{a:Addr}{ds:List D}(e:Ev.aR h n=some ds)(ha:r[n]?=some a):∃us:List Value,PlainL s.heap a us.toArray:=by
 obtain⟨a',vs,e1,e2,e3⟩:=hr.read e;rw[ha]at e1;cases e1;obtain⟨us,_,pl,_⟩:=I.list e2;exact⟨us,pl⟩
def BS(I:Inv X pins σ H s)(hr:HR X.K H r h):∀(n:Nat) (a b:D) (v:V) (k:Bool),RV X.K H r a v->RV X.K H r b v->Ev.gr h n a b=some k->k=true:=by
 intro n;induction n with
 |zero=>intro a b v k _ _ e;cases e
 |succ n ih=>
  have items:∀(x y:List D) (vs:List V) (k:Bool),aF X.K H r x vs->aF X.K H r y vs->Ev.b5 (Ev.gr h n) x y=some k->k=true:=by
   intro x;induction x with
   |nil=>
    intro y vs k h1 h2 e;simp only[aF]at h1;subst h1;cases y with
    |nil=>cases e;rfl
    |cons _ _=>simp only[aF]at h2;obtain⟨_,_,h2,_⟩:=h2;cases h2
   |cons d x SY=>
    intro y vs k h1 h2 e;simp only[aF]at h1;obtain⟨v,w,rfl,h3,h4⟩:=h1;cases y with
    |nil=>simp only[aF]at h2;cases h2
    |cons d' y=>
     simp only[aF]at h2;obtain⟨v',w',e2,h5,h6⟩:=h2;cases e2;simp only[Ev.b5,V3,eU]at e;obtain⟨p,e1,q,e2,e3⟩:=e;cases e3;rw[ih d d' v p h3 h5 e1,SY y w q h4 h6 e2];rfl
  have lt:∀(a:Addr) (vs:List V) (i:Nat) (ds:List D),dH X.K H a vs->r[i]?=some a->Ev.aR h i=some ds->False:=λa vs i ds h1 h2 h3=>by
   obtain⟨us,pl⟩:=vI I hr h3 h2;obtain⟨zs,_,pt,_⟩:=I.tuple h1;exact ne_of_list_tuple pl.isList pt rfl
  intro a b v k h1 h2 e;have s1:=h1.shape;have s2:=h2.shape;clear h1 h2;cases a with
  |bf=>simp only[bV]at s1;cases b with
   |bf=>cases e;rfl
   |ref m=>obtain⟨p,z,_⟩:=s2;rw[s1]at z;cases z
   |tup y=>obtain⟨p,_,z,_⟩:=s2;rw[s1]at z;cases z
   |_=>simp only[bV]at s2;rw[s1]at s2;cases s2
  |bl x=>simp only[bV]at s1;cases b with
   |bl y=>simp only[bV]at s2;rw[s1]at s2;cases s2;cases e;simp
   |ref m=>obtain⟨p,z,_⟩:=s2;rw[s1]at z;cases z
   |tup y=>obtain⟨p,_,z,_⟩:=s2;rw[s1]at z;cases z
   |_=>simp only[bV]at s2;rw[s1]at s2;cases s2
  |int x=>simp only[bV]at s1;cases b with
   |int y=>simp only[bV]at s2;rw[s1]at s2;cases s2;cases e;simp
   |ref m=>obtain⟨p,z,_⟩:=s2;rw[s1]at z;cases z
   |tup y=>obtain⟨p,_,z,_⟩:=s2;rw[s1]at z;cases z
   |_=>simp only[bV]at s2;rw[s1]at s2;cases s2
  |str x=>simp only[bV]at s1;cases b with
   |str y=>
    simp only[bV]at s2;rw[s1]at s2;have:x=y:=jA (by injection s2);subst this;cases e;simp
   |ref m=>obtain⟨p,z,_⟩:=s2;rw[s1]at z;cases z
   |tup y=>obtain⟨p,_,z,_⟩:=s2;rw[s1]at z;cases z
   |_=>simp only[bV]at s2;rw[s1]at s2;cases s2
  |tup x=>
   obtain⟨p,vs,rfl,z,w⟩:=s1;cases b with
   |tup y=>
    obtain⟨p',vs',z',z2,w2⟩:=s2;cases z';rw[I.mR z2 z]at w2;exact items x y vs k w w2 e
   |ref m=>
    obtain⟨p',z',z2⟩:=s2;cases z';obtain⟨ds,e1,_⟩:=Option.map_eq_some_iff.mp e;exact(lt _ _ _ _ z z2 e1).elim
   |_=>cases s2
  |ref i=>
   obtain⟨p,rfl,z⟩:=s1;cases b with
   |ref m=>
    obtain⟨p',z',z2⟩:=s2;cases z';replace e:Ev.jL h (Ev.gr h n) i m=some k:=e;unfold Ev.jL at e;split at e
    .simp only[cz]at e;obtain⟨_,_,e⟩:=e;exact e.symm
    .rename_i hne;split at e
     .rename_i x y g1 g2;exact absurd (hr.inj _ _ _ _ _ z z2 g1 g2) hne
     .rename_i x y g1 g2;obtain⟨p1,q1,FT,q2,_⟩:=hr.ob _ _ g1;obtain⟨p2,q3,FU,q4,_⟩:=hr.ob _ _ g2;rw[z]at q1;cases q1;rw[z2]at q3;cases q3;exact absurd rfl (oM I q2 q4)
     .rename_i x y g1 g2;obtain⟨p1,q1,FT,q2,_⟩:=hr.ob _ _ g1;obtain⟨p2,q3,FU,q4,_⟩:=hr.ob _ _ g2;rw[z]at q1;cases q1;rw[z2]at q3;cases q3;exact absurd rfl (oM I q4 q2)
     .cases e
   |tup y=>
    obtain⟨p',vs',z',z2,w2⟩:=s2;cases z';obtain⟨ds,e1,_⟩:=Option.map_eq_some_iff.mp e;exact(lt _ _ _ _ z2 z e1).elim
   |_=>cases s2
def Ig{n:Nat}{A:Around}{x y:List D}{a b:Addr}{vs ws:List V}{k:Bool}(I:Inv X pins σ H s)(hr:HR X.K H r h)(hu:A.units<cLine)(q1:dH X.K H a vs)(q2:dH X.K H b ws)(v1:aF X.K H r x vs)(v2:aF X.K H r y ws)
  (ih:∀a b va vb u w k,RV X.K H r a va->RV X.K H r b vb->RelV va u->RelV vb w->Ev.gr h n a b=some k->vH A.in1 s u w k) (e:Ev.b5 (Ev.gr h n) x y=some k):vH A s (.ref a) (.ref b) k:=by
 obtain⟨us,p1,pA,_⟩:=I.tuple q1;obtain⟨zs,p2,pB,_⟩:=I.tuple q2;have l1:=v1.length;have l2:=v2.length;have l3:=p1.length;have l4:=p2.length;have both:RcAt A s (.ref a) (.ref b) k/\RcNeAt A s (.ref a) (.ref b) (!k):=by
  by_cases hl:x.length=y.length
  .obtain⟨e',h1,h2,h3⟩:=ua v1 v2 p1 p2 ih hl e;have rc:=RcAt.tuples pA pB hu h1;have ne:=RcNeAt.tuples pA pB hu h1;have hs:us.toArray.size=zs.toArray.size:=by simpa using h3
   have hb:((List.range (min us.toArray.size zs.toArray.size)).all e'&&us.toArray.size==zs.toArray.size)=k:=by
    rw[<-hs,Nat.min_self,h2];simp
   rw[hb]at rc ne;exact⟨rc,ne⟩
  .have hk:=rX hl e;subst hk;have hcl:∃e':Nat->Bool,∀j (h1:j<us.toArray.size) (h2:j<zs.toArray.size),EqAt A.in1 s us.toArray[j] zs.toArray[j] (e' j):=by
    obtain⟨e',h1⟩:=yw e;refine⟨e',λj g1 g2=>?_⟩;have SW:j<us.length:=by simpa using g1
    have SX:j<zs.length:=by simpa using g2
    have ha:x[j]?=some x[j]:=RY (by omega);have hb:y[j]?=some y[j]:=RY (by omega);obtain⟨va,a1,a2⟩:=v1.get ha;obtain⟨vb,b1,b2⟩:=v2.get hb;obtain⟨u,a3,a4⟩:=p1.get a1;obtain⟨w,b3,b4⟩:=p2.get b1;have eu:us.toArray[j]=u:=by
     have:=(List.getElem?_eq_some_iff.mp a3).2;simpa using this
    have ew:zs.toArray[j]=w:=by
     have:=(List.getElem?_eq_some_iff.mp b3).2;simpa using this
    rw[eu,ew];exact(ih _ _ _ _ _ _ _ a2 b2 a4 b4 (h1 j _ _ ha hb)).eq
   obtain⟨e',h1⟩:=hcl;have rc:=RcAt.tuples pA pB hu h1;have ne:=RcNeAt.tuples pA pB hu h1;have hs:(us.toArray.size==zs.toArray.size)=false:=by
    simp only[Nb,beq_eq_false_iff_ne,ne_eq];omega
   rw[hs,Bool.and_false]at rc ne;exact⟨rc,ne⟩
 by_cases hab:a=b
 .subst hab;rw[I.mR q2 q1]at v2;have hk:k=true:=BS I hr (n+1) (.tup x) (.tup y) (.ref a) k ⟨a,vs,rfl,q1,v1⟩ ⟨a,vs,rfl,q1,v2⟩ e;subst hk;exact⟨.same _,both.1,both.2⟩
 .exact⟨.of_refs hab both.1,both.1,both.2⟩
end
section
variable{X:Cx}{pins:List (Addr×Obj)}{σ:L2.St}{H:Hp}{s:Shared}{r:List Addr}{h:Hh}
def Af(I:Inv X pins σ H s)(hr:HR X.K H r h):∀(n:Nat) (A:Around) (a b:D) (va vb:V) (u w:Value) (k:Bool),A.units+n<cLine->RV X.K H r a va->RV X.K H r b vb->RelV va u->RelV vb w->Ev.gr h n a b=some k->vH A s u w k:=by
 intro n;induction n with
 |zero=>intro A a b va vb u w k _ _ _ _ _ e;cases e
 |succ n ih=>
  intro A a b va vb u w k hu h1 h2 r1 r2 e;have bL:A.units<cLine:=by omega
  have ih':∀a b va vb u w k,RV X.K H r a va->RV X.K H r b vb->RelV va u->RelV vb w->Ev.gr h n a b=some k->vH A.in1 s u w k:=λa b va vb u w k=>ih A.in1 a b va vb u w k (by show A.units+1+n<cLine;omega);have s1:=h1.shape;have s2:=h2.shape;have lst:∀{i:Nat} {v:V} {u:Value} {ds:List D},bV X.K H r (.ref i) v->RelV v u->Ev.aR h i=some ds->∃p us,u=.ref p/\PlainL s.heap p (List.toArray us):=λ{i v u ds} hv ru el=>by
   obtain⟨p,rfl,z⟩:=hv;cases ru;obtain⟨us,pl⟩:=vI I hr el z;exact⟨p,us,rfl,pl⟩
  have tup:∀{ds:List D} {v:V} {u:Value},bV X.K H r (.tup ds) v->RelV v u->∃p us,u=.ref p/\s.heap.IsTuple p (List.toArray us):=λ{ds v u} hv ru=>by
   obtain⟨p,vs,rfl,z,_⟩:=hv;cases ru;obtain⟨us,_,pt,_⟩:=I.tuple z;exact⟨p,us,rfl,pt⟩
  cases a with
  |bf=>
   simp only[bV]at s1;subst s1;cases r1;cases b with
   |bf=>simp only[bV]at s2;subst s2;cases r2;cases e;exact⟨.same _,.none_none,.none_none⟩
   |bl y=>simp only[bV]at s2;subst s2;cases r2;cases e;exact⟨.none_bool _,.none_bool _,.none_bool _⟩
   |int y=>simp only[bV]at s2;subst s2;obtain⟨t,rfl⟩:=r2;cases e;exact⟨.none_int _ _,.none_int _ _,.none_int _ _⟩
   |str y=>simp only[bV]at s2;subst s2;obtain⟨t,rfl⟩:=r2;cases e;exact⟨.none_str _ _,.none_str _ _,.none_str _ _⟩
   |tup y=>obtain⟨p,us,rfl,pt⟩:=tup s2 r2;cases e;exact⟨.none_tuple pt bL,.none_tuple pt bL,.none_tuple pt bL⟩
   |ref m=>
    obtain⟨ds,e1,rfl⟩:=Option.map_eq_some_iff.mp e;obtain⟨p,us,rfl,pl⟩:=lst s2 r2 e1;exact⟨.none_list pl.isList bL,.none_list pl.isList bL,.none_list pl.isList bL⟩
  |bl x=>
   simp only[bV]at s1;subst s1;cases r1;cases b with
   |bf=>simp only[bV]at s2;subst s2;cases r2;cases e;exact⟨.bool_none _,.bool_none _,.bool_none _⟩
   |bl y=>simp only[bV]at s2;subst s2;cases r2;cases e;exact⟨.bool_bool _ _,.bool_bool _ _,.bool_bool _ _⟩
   |int y=>simp only[bV]at s2;subst s2;obtain⟨t,rfl⟩:=r2;cases e;exact⟨.bool_int _ _ _,.bool_int _ _ _,.bool_int _ _ _⟩
   |str y=>simp only[bV]at s2;subst s2;obtain⟨t,rfl⟩:=r2;cases e;exact⟨.bool_str _ _ _,.bool_str _ _ _,.bool_str _ _ _⟩
   |tup y=>obtain⟨p,us,rfl,pt⟩:=tup s2 r2;cases e;exact⟨.bool_tuple _ pt bL,.bool_tuple _ pt bL,.bool_tuple _ pt bL⟩
   |ref m=>
    obtain⟨ds,e1,rfl⟩:=Option.map_eq_some_iff.mp e;obtain⟨p,us,rfl,pl⟩:=lst s2 r2 e1;exact⟨.bool_list _ pl.isList bL,.bool_list _ pl.isList bL,.bool_list _ pl.isList bL⟩
  |int x=>
   simp only[bV]at s1;subst s1;obtain⟨t0,rfl⟩:=r1;cases b with
   |bf=>simp only[bV]at s2;subst s2;cases r2;cases e;exact⟨.int_none _ _,.int_none _ _,.int_none _ _⟩
   |bl y=>simp only[bV]at s2;subst s2;cases r2;cases e;exact⟨.int_bool _ _ _,.int_bool _ _ _,.int_bool _ _ _⟩
   |int y=>simp only[bV]at s2;subst s2;obtain⟨t,rfl⟩:=r2;cases e;exact⟨.int_int _ _ _ _,.int_int _ _ _ _,.int_int _ _ _ _⟩
   |str y=>simp only[bV]at s2;subst s2;obtain⟨t,rfl⟩:=r2;cases e;exact⟨.int_str _ _ _ _,.int_str _ _ _ _,.int_str _ _ _ _⟩
   |tup y=>obtain⟨p,us,rfl,pt⟩:=tup s2 r2;cases e;exact⟨.int_tuple _ _ pt bL,.int_tuple _ _ pt bL,.int_tuple _ _ pt bL⟩
   |ref m=>
    obtain⟨ds,e1,rfl⟩:=Option.map_eq_some_iff.mp e;obtain⟨p,us,rfl,pl⟩:=lst s2 r2 e1;exact⟨.int_list _ _ pl.isList bL,.int_list _ _ pl.isList bL,.int_list _ _ pl.isList bL⟩
  |str x=>
   simp only[bV]at s1;subst s1;obtain⟨t0,rfl⟩:=r1;cases b with
   |bf=>simp only[bV]at s2;subst s2;cases r2;cases e;exact⟨.str_none _ _,.str_none _ _,.str_none _ _⟩
   |bl y=>simp only[bV]at s2;subst s2;cases r2;cases e;exact⟨.str_bool _ _ _,.str_bool _ _ _,.str_bool _ _ _⟩
   |int y=>simp only[bV]at s2;subst s2;obtain⟨t,rfl⟩:=r2;cases e;exact⟨.str_int _ _ _ _,.str_int _ _ _ _,.str_int _ _ _ _⟩
   |str y=>
    simp only[bV]at s2;subst s2;obtain⟨t,rfl⟩:=r2;cases e;rw[<-Ie];exact⟨.str_str _ _ _ _,.str_str _ _ _ _,.str_str _ _ _ _⟩
   |tup y=>obtain⟨p,us,rfl,pt⟩:=tup s2 r2;cases e;exact⟨.str_tuple _ _ pt bL,.str_tuple _ _ pt bL,.str_tuple _ _ pt bL⟩
   |ref m=>
    obtain⟨ds,e1,rfl⟩:=Option.map_eq_some_iff.mp e;obtain⟨p,us,rfl,pl⟩:=lst s2 r2 e1;exact⟨.str_list _ _ pl.isList bL,.str_list _ _ pl.isList bL,.str_list _ _ pl.isList bL⟩
  |tup x=>
   cases b with
   |tup y=>
    obtain⟨p,vs,rfl,z,w1⟩:=s1;obtain⟨p',vs',rfl,z',w2⟩:=s2;cases r1;cases r2;exact Ig I hr bL z z' w1 w2 ih' e
   |bf=>obtain⟨p,us,rfl,pt⟩:=tup s1 r1;simp only[bV]at s2;subst s2;cases r2;cases e;exact⟨.tuple_none pt bL,.tuple_none pt bL,.tuple_none pt bL⟩
   |bl y=>obtain⟨p,us,rfl,pt⟩:=tup s1 r1;simp only[bV]at s2;subst s2;cases r2;cases e;exact⟨.tuple_bool _ pt bL,.tuple_bool _ pt bL,.tuple_bool _ pt bL⟩
   |int y=>obtain⟨p,us,rfl,pt⟩:=tup s1 r1;simp only[bV]at s2;subst s2;obtain⟨t,rfl⟩:=r2;cases e;exact⟨.tuple_int _ _ pt bL,.tuple_int _ _ pt bL,.tuple_int _ _ pt bL⟩
   |str y=>obtain⟨p,us,rfl,pt⟩:=tup s1 r1;simp only[bV]at s2;subst s2;obtain⟨t,rfl⟩:=r2;cases e;exact⟨.tuple_str _ _ pt bL,.tuple_str _ _ pt bL,.tuple_str _ _ pt bL⟩
   |ref m=>
    obtain⟨p,us,rfl,pt⟩:=tup s1 r1;obtain⟨ds,e1,rfl⟩:=Option.map_eq_some_iff.mp e;obtain⟨p',us',rfl,pl⟩:=lst s2 r2 e1;exact⟨.tuple_list pt pl.isList bL,.tuple_list pt pl.isList bL,.tuple_list pt pl.isList bL⟩
  |ref i=>
   cases b with
   |ref m=>
    replace e:Ev.jL h (Ev.gr h n) i m=some k:=e;unfold Ev.jL at e;split at e
    .rename_i S5;subst S5;simp only[cz]at e;obtain⟨ds,e1,rfl⟩:=e;obtain⟨p,us,rfl,pl⟩:=lst s1 r1 e1;obtain⟨p0,rfl,z⟩:=s1;obtain⟨p1,rfl,z'⟩:=s2;rw[z]at z';cases z';cases r1;cases r2;have q:(List.range (List.toArray us).size).all (λ_=>true)=true:=by simp
     have rc:=RcAt.lists (A:=A) (e:=λ_=>true) pl.isList pl.isList rfl bL λj _ _=>EqAt.same _;have ne:=RcNeAt.lists (A:=A) (e:=λ_=>true) pl.isList pl.isList rfl bL λj _ _=>EqAt.same _;rw[q]at rc ne;exact⟨.same _,rc,ne⟩
    .rename_i hne;obtain⟨p0,rfl,z⟩:=s1;obtain⟨p1,rfl,z'⟩:=s2;cases r1;cases r2;split at e
     .rename_i x y g1 g2;obtain⟨q0,q1,FT,q2,q3⟩:=hr.ob _ _ g1;obtain⟨q4,q5,FU,q6,q7⟩:=hr.ob _ _ g2;rw[z]at q1;cases q1;rw[z']at q5;cases q5;exact pW I bL (.of q2) (.of q6) q3 q7 (λw=>hne (hr.inj _ _ _ _ _ z (by rw[w];exact z') g1 g2)) ih' e
     .rename_i x y g1 g2;obtain⟨q0,q1,FT,q2,q3⟩:=hr.ob _ _ g1;obtain⟨q4,q5,FU,q6,q7⟩:=hr.ob _ _ g2;rw[z]at q1;cases q1;rw[z']at q5;cases q5;exact pW I bL (FY q2) (.of q6) q3 q7 (oM I q2 q6) ih' e
     .rename_i x y g1 g2;obtain⟨q0,q1,FT,q2,q3⟩:=hr.ob _ _ g1;obtain⟨q4,q5,FU,q6,q7⟩:=hr.ob _ _ g2;rw[z]at q1;cases q1;rw[z']at q5;cases q5;exact pW I bL (.of q2) (FY q6) q3 q7 (oM I q6 q2).symm ih' e
     .cases e
   |bf=>obtain⟨ds,e1,rfl⟩:=Option.map_eq_some_iff.mp e;obtain⟨p,us,rfl,pl⟩:=lst s1 r1 e1;simp only[bV]at s2;subst s2;cases r2;exact⟨.list_none pl.isList bL,.list_none pl.isList bL,.list_none pl.isList bL⟩
   |bl y=>obtain⟨ds,e1,rfl⟩:=Option.map_eq_some_iff.mp e;obtain⟨p,us,rfl,pl⟩:=lst s1 r1 e1;simp only[bV]at s2;subst s2;cases r2;exact⟨.list_bool _ pl.isList bL,.list_bool _ pl.isList bL,.list_bool _ pl.isList bL⟩
   |int y=>obtain⟨ds,e1,rfl⟩:=Option.map_eq_some_iff.mp e;obtain⟨p,us,rfl,pl⟩:=lst s1 r1 e1;simp only[bV]at s2;subst s2;obtain⟨t,rfl⟩:=r2;exact⟨.list_int _ _ pl.isList bL,.list_int _ _ pl.isList bL,.list_int _ _ pl.isList bL⟩
   |str y=>obtain⟨ds,e1,rfl⟩:=Option.map_eq_some_iff.mp e;obtain⟨p,us,rfl,pl⟩:=lst s1 r1 e1;simp only[bV]at s2;subst s2;obtain⟨t,rfl⟩:=r2;exact⟨.list_str _ _ pl.isList bL,.list_str _ _ pl.isList bL,.list_str _ _ pl.isList bL⟩
   |tup y=>
    obtain⟨ds,e1,rfl⟩:=Option.map_eq_some_iff.mp e;obtain⟨p,us,rfl,pl⟩:=lst s1 r1 e1;obtain⟨p',us',rfl,pt⟩:=tup s2 r2;exact⟨.list_tuple pl.isList pt bL,.list_tuple pl.isList pt bL,.list_tuple pl.isList pt bL⟩
where
 FY {K:PySem.W.Frag} {H:Hp} {a:Addr} {vs:List V} (q:Aa K H a vs):eY K H a vs:=by
  rcases q with ⟨ob,e2⟩|e2
  .exact .inl (.inr ⟨ob,e2⟩)
  .exact .inr e2
end
theorem Good.units{G:Tb}{n:Nat}{sc:Scope}{N:List Str}{df:Bool}{X:Cx}(g:Good G n sc N df X):X.A.units+1+Ev.deep<cLine:=by
 have:=g.room.un;have:Ev.deep=20:=rfl;omega
section
variable{G:Tb}{n:Nat}{sc:Scope}{N:List Str}{df:Bool}{X:Cx}
def oN{pins:List (Addr×Obj)}{σ:L2.St}{H:Hp}{s:Shared}{Q:VK}{r:List Addr}{h:Hh}{k:Bool}(I:Inv X pins σ H s)(hr:HR X.K H r h)(q:Res X.K r H h (.bl k) Q):EP X pins σ Q (.bool k) s:=
 ⟨.bl k,H,I,rfl,q.here rfl hr⟩
def FZ(g:Good G n sc N df X):cH X (compareOp .Eq) (fQ X.K (dZ .eq)):=by
 intro pins s σ H x y v u Q I rx ry q;obtain⟨r,h,a,b,d,h',hr,v1,v2,e,q⟩:=q;obtain⟨k,e1,rfl,rfl⟩:=iP e;have:=g.units;exact(Af I hr Ev.deep X.A a b x y v u k (by omega) v1 v2 rx ry e1).rc _ _ _ _ (oN I hr q)
def OA(g:Good G n sc N df X):cH X (compareOp .NotEq) (fQ X.K (dZ .ne)):=by
 intro pins s σ H x y v u Q I rx ry q;obtain⟨r,h,a,b,d,h',hr,v1,v2,e,q⟩:=q;obtain⟨k,e1,rfl,rfl⟩:=iP e;have:=g.units
 delta Ev.cop at e1;dsimp only at e1;simp only[cz]at e1
 obtain⟨k',e2,rfl⟩:=e1;exact(Af I hr Ev.deep X.A a b x y v u k' (by omega) v1 v2 rx ry e2).ne _ _ _ _ (oN I hr q)
def BU{op:CmpOp}{o:aK}{p:Int->Int->Bool}(ho:cH X (compareOp op) (yf λi j=>.bl (p i j)))(hc:∀a b h k,Ev.cop o a b h=some k->∃i j,a=.int i/\b=.int j/\k=p i j):cH X (compareOp op) (fQ X.K (dZ o)):=by
 intro pins s σ H x y v u Q I rx ry q;obtain⟨r,h,a,b,d,h',hr,v1,v2,e,q⟩:=q;obtain⟨k,e1,rfl,rfl⟩:=iP e;obtain⟨i,j,rfl,rfl,rfl⟩:=hc _ _ _ _ e1;exact ho pins s σ H x y v u Q I rx ry ⟨i,j,v1,v2,q.here rfl hr⟩
def uJ:cH X (compareOp .LtE) (fQ X.K (dZ .le)):=BU N6 λa b h k e=>by
 cases a<;>cases b <;> (delta Ev.cop at e;dsimp only at e)<;>first | (cases e;exact⟨_,_,rfl,rfl,rfl⟩)|cases e
def OB:cH X (compareOp .Gt) (fQ X.K (dZ .gt)):=BU N7 λa b h k e=>by
 cases a<;>cases b <;> (delta Ev.cop at e;dsimp only at e)<;>first | (cases e;exact⟨_,_,rfl,rfl,rfl⟩)|cases e
end
theorem yx{h:Hh}{x:D}:∀{ys:List D}{k:Bool},Ev.mem h x ys=some k->∃e:Nat->Bool,(∀(j:Nat) y,ys[j]?=some y->Ev.gr h Ev.deep y x=some (e j))/\(List.range ys.length).any e=k
 |[],_,e=>⟨λ_=>true,(λj y h=>by simp at h),by cases e;simp⟩
 |y :: ys,k,e=>by
  simp only[Ev.mem,V3,eU]at e;obtain⟨p,e1,q,e2,e3⟩:=e;cases e3;obtain⟨e,h1,h2⟩:=yx e2;refine⟨λj=>match j with|0=>p|j+1=>e j,λj y' g=>?_,?_⟩
  .cases j with
   |zero=>simp at g;subst g;exact e1
   |succ j=>exact h1 j y' (by simpa using g)
  .rw[Vg,Xr,XT,List.any_map,<-h2];rfl
section
variable{X:Cx}{pins:List (Addr×Obj)}{σ:L2.St}{H:Hp}{s:Shared}{r:List Addr}{h:Hh}
open Classical in
def yy(I:Inv X pins σ H s)(hr:HR X.K H r h){A:Around}(hu:A.units+1+Ev.deep<cLine){x:D}{vx:V}{ux:Value}(v1:RV X.K H r x vx)(rx:RelV vx ux){ys:List D}{vs:List V}{us:List Value}(v2:aF X.K H r ys vs)(p2:Vals vs us){k:Bool}(e:Ev.mem h x ys=some k) :
  ∃f:Value->Bool,(∀y,y∈us.toArray->EqAt A.in1 s y ux (f y))/\us.toArray.any f=k:=by
 obtain⟨e',h1,h2⟩:=yx e;have l1:=v2.length;have l2:=p2.length;have at':∀(j:Nat) (hj:j<us.length),EqAt A.in1 s us[j] ux (e' j):=λj hj=>by
  have ha:ys[j]?=some ys[j]:=RY (by omega);obtain⟨va,a1,a2⟩:=v2.get ha;obtain⟨u,a3,a4⟩:=p2.get a1;have eu:us[j]=u:=(List.getElem?_eq_some_iff.mp a3).2;rw[eu];exact(Af I hr Ev.deep A.in1 _ _ _ _ _ _ _ (by show A.units+1+Ev.deep<cLine;exact hu) a2 v1 a4 rx (h1 j _ ha)).eq
 refine⟨λy=>decide (∃j,∃hj:j<us.length,us[j]=y/\e' j=true),λy hy=>?_,?_⟩
 .by_cases hx:∃j,∃hj:j<us.length,us[j]=y/\e' j=true
  .obtain⟨j,hj,rfl,ej⟩:=hx;have q:=at' j hj;rw[ej]at q;have:decide (∃j',∃hj':j'<us.length,us[j']=us[j]/\e' j'=true)=true:=Wo ⟨j,hj,rfl,ej⟩;show EqAt A.in1 s us[j] ux (decide (∃j',∃hj':j'<us.length,us[j']=us[j]/\e' j'=true));rw[this];exact q
  .show EqAt A.in1 s y ux (decide (∃j',∃hj':j'<us.length,us[j']=y/\e' j'=true));rw[Up hx];have hy':y∈us:=by simpa using hy
   obtain⟨j,hj,rfl⟩:=WN hy';have q:=at' j hj;have:e' j=false:=by
    cases z:e' j with
    |false=>rfl
    |true=>exact absurd ⟨j,hj,rfl,z⟩ hx
   rw[this]at q;exact q
 .rw[<-h2,VL,Array.any_eq_true',WC];constructor
  .rintro⟨y,hy,hd⟩;obtain⟨j,hj,_,ej⟩:=V0 hd;exact⟨j,List.mem_range.mpr (by omega),ej⟩
  .rintro⟨j,hj,ej⟩;have hj':j<us.length:=by have:=List.mem_range.mp hj;omega
   exact⟨us[j],by simp,Wo ⟨j,hj',rfl,ej⟩⟩
end
section
variable{G:Tb}{n:Nat}{sc:Scope}{N:List Str}{df:Bool}{X:Cx}
def in_of(g:Good G n sc N df X){pins:List (Addr×Obj)}{σ:L2.St}{H:Hp}{s:Shared}{r:List Addr}{h:Hh}(I:Inv X pins σ H s)(hr:HR X.K H r h){a b:D}{x y:V}{v u:Value}{k:Bool}(v1:RV X.K H r a x)(v2:RV X.K H r b y)(rx:RelV x v)(ry:RelV y u)(e:Ev.isin a b h=some k) :
  (∀Q:Value->Shared->Prop,∀E:Value->Shared->Prop,Q (.bool k) s->wpAny (model X.prog X.w) X.A (compareOp .In v u) Q E s)/\(∀Q:Value->Shared->Prop,∀E:Value->Shared->Prop,Q (.bool (!k)) s->wpAny (model X.prog X.w) X.A (compareOp .NotIn v u) Q E s):=by
 have hu:=g.units;cases b with
 |str l=>
  cases a with
  |str c=>
   have s1:=v1.shape;have s2:=v2.shape;simp only[bV]at s1 s2;subst s1 s2;obtain⟨t,rfl⟩:=rx;obtain⟨t',rfl⟩:=ry
   match c,e with
   |[c],e=>
    cases e;have q:(!(Builtin.Str.occurrences (au l) (au [c]) 0 (au l).length 1).isEmpty)=l.contains c:=by
     have:=PySem.StrLaws.found_one (au l) c;rw[show(au [c])=⟨#[c]⟩from rfl,this,VL];have e1:l.contains c=true↔c∈l:=by simp
     rw[e1];exact⟨λz=>by simpa[au]using V0 z,λz=>Wo (by simpa[au]using z)⟩
    refine⟨λQ E hq=>in_str (by rw[q];exact hq),λQ E hq=>notIn_str (by rw[q];exact hq)⟩
   |[],e=>cases e
   |_ :: _ :: _,e=>cases e
  |_=>cases e
 |tup ys=>
  obtain⟨p,vs,rfl,z,w⟩:=v2.shape;cases ry;obtain⟨us,pv,pt,_⟩:=I.tuple z;obtain⟨f,f1,f2⟩:=yy I hr hu v1 rx w pv e;refine⟨λQ E hq=>in_tupleAt f pt f1 (by rw[f2];exact hq),λQ E hq=>notIn_tupleAt f pt f1 (by rw[f2];exact hq)⟩
 |ref i=>
  simp only[Ev.isin,eU]at e;obtain⟨ds,e1,e2⟩:=e;obtain⟨p,rfl,z⟩:=v2.shape;cases ry;obtain⟨p',vs,z',q1,w⟩:=hr.read e1;rw[z]at z';cases z';obtain⟨us,pv,pl,_⟩:=I.list q1;obtain⟨f,f1,f2⟩:=yy I hr hu v1 rx w pv e2;refine⟨λQ E hq=>in_listAt f pl.isList f1 (by rw[f2];exact hq),λQ E hq=>notIn_listAt f pl.isList f1 (by rw[f2];exact hq)⟩
 |_=>cases e
def OC(g:Good G n sc N df X):cH X (compareOp .In) (fQ X.K (dZ .isin)):=by
 intro pins s σ H x y v u Q I rx ry q;obtain⟨r,h,a,b,d,h',hr,v1,v2,e,q⟩:=q;obtain⟨k,e1,rfl,rfl⟩:=iP e;exact(in_of g I hr v1 v2 rx ry (show Ev.isin a b h'=some k by cases a<;>cases b<;>exact e1)).1 _ _ (oN I hr q)
def DX(g:Good G n sc N df X):cH X (compareOp .NotIn) (fQ X.K (dZ .di)):=by
 intro pins s σ H x y v u Q I rx ry q;obtain⟨r,h,a,b,d,h',hr,v1,v2,e,q⟩:=q;obtain⟨k,e1,rfl,rfl⟩:=iP e;have e2:(Ev.isin a b h').map (!·)=some k:=by cases a<;>cases b<;>exact e1
 simp only[cz]at e2;obtain⟨k',e3,rfl⟩:=e2;exact(in_of g I hr v1 v2 rx ry e3).2 _ _ (oN I hr q)
def rY(a b:List Nat):au a++au b=au (a++b):=by
 show Str.append (au a) (au b)=_;simp[Str.append,au]
def Ih{pins:List (Addr×Obj)}{σ:L2.St}{H:Hp}{s:Shared}{Q:Value->Shared->Prop}{E:Value->Shared->Prop}(I:Inv X pins σ H s){a b:Addr}{ys:List V}(h1:dH X.K H a [])(h2:dH X.K H b ys)(q:Q (.ref b) s):wpAny (model X.prog X.w) X.A (binaryOp .Add (.ref a) (.ref b)) Q E s:=by
 obtain⟨us,p1,S6,_⟩:=I.tuple h1;obtain⟨zs,p2,S7,_⟩:=I.tuple h2;cases p1;obtain⟨⟨cls,dd,data,sl⟩,ho,hc,n,hd⟩:=id S6;obtain⟨⟨Rc,dd2,data2,sl2⟩,ho2,hc2,n2,hd2⟩:=id S7;simp only at hc hd hc2 hd2;subst hc hd hc2 hd2;exact X3 ⟨_,ho,rfl⟩ ⟨_,ho2,rfl⟩ Xe XS Wx Ws (Wm _ _)
  (tuple_addW0 a b _ _ n n2 dd dd2 sl sl2 (by simp)) ⟨ho,ho2,q⟩
def Lm:cH X (binaryOp .Add) (fQ X.K (Ev.bY .add)):=by
 intro pins s σ H x y v u Q I rx ry q;obtain⟨r,h,a,b,d,h',hr,v1,v2,e,q⟩:=q;have s1:=v1.shape;have s2:=v2.shape;cases a with
 |int i=>cases b with
  |int j=>cases e;exact Kg pins s σ H x y v u Q I rx ry ⟨i,j,s1,s2,q.here rfl hr⟩
  |_=>cases e
 |str i=>cases b with
  |str j=>
   delta Ev.bY at e;dsimp only at e
   split at e
   .rename_i hz;cases e;rw[jO]at hz;refine zS pins s σ H x y v u Q I rx ry ⟨au i,au j,s1,s2,by rw[aO,aO];exact hz,?_⟩;rw[rY];exact q.here ⟨rfl,by rw[Ve];exact hz⟩ hr
   .cases e
  |_=>cases e
 |tup i=>cases b with
  |tup j=>
   delta Ev.bY at e;dsimp only at e
   split at e
   .rename_i hz;cases e;rw[jO]at hz;obtain⟨pa,vs,rfl,z1,w1⟩:=s1;obtain⟨pb,ws,rfl,z2,w2⟩:=s2;have l1:=w1.length;have l2:=w2.length;cases vs with
    |nil=>
     cases rx;cases ry;refine Ih I z1 z2 ⟨.ref pb,H,I,rfl,q.here ?_ hr⟩;have:i=[]:=by cases i with|nil=>rfl|cons _ _=>simp at l1
     subst this;exact⟨pb,ws,rfl,z2,by simpa using w2⟩
    |cons v0 vs=>
     refine Hz pins s σ H _ _ v u Q I rx ry ⟨pa,pb,v0 :: vs,ws,rfl,rfl,z1,z2,by simp,by rw[l1,l2];exact hz,λhw=>?_,λhw p hp=>?_⟩
     .subst hw;have:j=[]:=by cases j with|nil=>rfl|cons _ _=>simp at l2
      subst this;exact q.here ⟨pa,v0 :: vs,rfl,z1,by simpa using w1⟩ hr
     .exact q.tup (w1.append w2) hr hp
   .cases e
  |_=>cases e
 |ref i=>cases b with
  |ref j=>
   delta Ev.bY at e;dsimp only at e
   split at e
   .rename_i ds es e1 e2;obtain⟨pa,rfl,z1⟩:=s1;obtain⟨pb,rfl,z2⟩:=s2;cases rx;cases ry;obtain⟨p1,g1,vs,g2,g3⟩:=hr.ob _ _ e1;obtain⟨p2,k1,ws,k2,k3⟩:=hr.ob _ _ e2;rw[z1]at g1;cases g1;rw[z2]at k1;cases k1;obtain⟨hz,q2⟩:=q.lst e (g3.append k3) hr;exact KD pins s σ H (.ref pa) (.ref pb) _ _ Q I rfl rfl ⟨_,_,vs,ws,rfl,rfl,g2,k2,by rw[Ve]at hz;exact hz,q2⟩
   .cases e
  |_=>cases e
 |_=>cases b<;>cases e
def Ii:cH X (binaryOp .FloorDiv) (fQ X.K (Ev.bY .fdiv)):=by
 intro pins s σ H x y v u Q I rx ry q;obtain⟨r,h,a,b,d,h',hr,v1,v2,e,q⟩:=q;cases a with
 |int i=>cases b with
  |int j=>
   delta Ev.bY at e;dsimp only at e
   split at e
   .rename_i hz;cases e;exact Ho pins s σ H x y v u Q I rx ry ⟨i,j,v1,v2,hz,q.here rfl hr⟩
   .cases e
  |_=>cases e
 |_=>cases b<;>cases e
def Ln:cH X (binaryOp .Mod) (fQ X.K (Ev.bY .mod)):=by
 intro pins s σ H x y v u Q I rx ry q;obtain⟨r,h,a,b,d,h',hr,v1,v2,e,q⟩:=q;cases a with
 |int i=>cases b with
  |int j=>
   delta Ev.bY at e;dsimp only at e
   split at e
   .rename_i hz;cases e;exact Kl pins s σ H x y v u Q I rx ry ⟨i,j,v1,v2,hz,q.here rfl hr⟩
   .cases e
  |_=>cases e
 |_=>cases b<;>cases e
end
section
variable{X:Cx}
def Lo(n:Nat)(i:Int):Ev.cK n i=L2.cK n i:=rfl
def Lp{α:Type}(xs:List α)(i:Int):Ev.bg xs i=L2.bg xs i:=rfl
theorem aF.bg{K:PySem.W.Frag}{H:Hp}{r:List Addr}{ds:List D}{vs:List V}{i:Int}{d:D}(w:aF K H r ds vs)(e:Ev.bg ds i=some d):∃v,L2.bg vs i=some v/\RV K H r d v:=by
 unfold Ev.bg at e;obtain⟨j,e1,e2⟩:=Option.bind_eq_some_iff.mp e;obtain⟨v,e3,e4⟩:=w.get e2;exact⟨v,by unfold L2.bg;rw[w.length,<-Lo,e1];exact e3,e4⟩
def OD:yi X (fQ X.K K3):=by
 intro value slice pins s σ H x y v u Q I rx ry q hs;obtain⟨r,h,a,b,d,h',hr,v1,v2,e,q⟩:=q;obtain⟨e,rfl⟩:=Ev.aC e;cases b with
 |int i=>
  have s2:=v2.shape;cases a with
  |tup ds=>
   obtain⟨p,vs,rfl,z,w⟩:=v1.shape;obtain⟨v',g1,g2⟩:=w.bg e;exact Kv value slice pins s σ H _ y v u Q I rx ry ⟨p,vs,i,v',rfl,s2,z,g1,q.here g2 hr⟩ hs
  |str l=>
   simp only[RV]at v1;obtain⟨rfl,hl⟩:=v1;simp only[Ev.gz,cz]at e;obtain⟨c,e1,rfl⟩:=e;exact Kw value slice pins s σ H _ y v u Q I rx ry ⟨au l,i,c,rfl,s2,by rw[aO];exact hl,by simpa[au,Lp]using e1,q.here ⟨rfl,by show 1<=sizeLine;decide⟩ hr⟩ hs
  |ref m=>
   simp only[Ev.gz,eU]at e;obtain⟨ds,e1,e2⟩:=e;obtain⟨p,rfl,z⟩:=v1.shape;obtain⟨p',vs,z',q1,w⟩:=hr.read e1;rw[z]at z';cases z';obtain⟨v',g1,g2⟩:=w.bg e2;exact HC value slice pins s σ H _ y v u Q I rx ry ⟨p,vs,i,v',rfl,s2,q1,g1,q.here g2 hr⟩ hs
  |_=>cases e
 |_=>cases a<;>cases e
theorem aF.cut{K:PySem.W.Frag}{H:Hp}{r:List Addr}{ds:List D}{vs:List V}(w:aF K H r ds vs)(lo hi:Option Int):aF K H r (Ev.cut ds lo hi) (mW vs lo hi):=by
 unfold Ev.cut mW;rw[w.length];exact(w.drop _).take _
def uc{α:Type}(xs:List α)(lo hi:Option Int)(h:Ev.aI xs.length 0 lo=0/\Ev.aI xs.length xs.length hi=xs.length):Ev.cut xs lo hi=xs:=by
 unfold Ev.cut;rw[h.1,h.2];simp
def Ij{α:Type}(xs:List α)(lo hi:Option Int):(Ev.cut xs lo hi).length<=xs.length:=by
 unfold Ev.cut;rw[Vz,VN];omega
def uy{prog:Program}{w:World}{A:Around}{E:Value->Shared->Prop}{s:Shared}{t sl:Addr}{items:Array Value}{vl vu:Value}{lo hi:Option Int}{Q:Value->Shared->Prop}(ht:IsTup s.heap t items)(hs:s.heap.IsSliceOf sl vl vu .none)(pl:IsPart vl lo)(pu:IsPart vu hi)
  (hw:HT.aI items.size 0 lo=0/\HT.aI items.size items.size hi=items.size) (h:Q (.ref t) s):wpAny (model prog w) A (getItem (.ref t) (.ref sl)) Q E s:=by
 obtain⟨os,hos,hcs,hds⟩:=id hs;have Ks:s.TypeIs (.ref sl) "slice" :=⟨os,hos,hcs⟩
 unfold getItem;try with_reducible refine Wz ?_
 first|refine bP (EZ ?_)|skip
 refine bP (wpAny_sequenceKey ht.typeIs (by decide) ?_);refine bP (Xi (name:=Str.ofString "__getitem__") ht.typeIs VI
  (Xd VI ht.typeIs entry_tuple_getitem ?_ (args_tuple_getitem _ _)))
 show wpAny _ _ (Builtin.Tuple.tupleItemsOf (.ref t) >>= _) _ _ s;refine bP (tupleItemsOf_ ht ?_);refine bP (XZ Ks ?_);rw[b8 (by decide)];refine bP (HT.jJ hs pl pu ?_);have hyes:(((HT.aI items.size 0 lo:Nat):Int)==0&&(1:Int)==1&&(HT.aI items.size items.size hi - HT.aI items.size 0 lo)==items.size)=true:=by
  rw[hw.1,hw.2];simp
 show wpAny _ _ (if (((HT.aI items.size 0 lo:Nat):Int)==0&&(1:Int)==1&&(HT.aI items.size items.size hi - HT.aI items.size 0 lo)==items.size)=true then _ else _) _ _ s;rw[b8 hyes];refine bP (m:=Builtin.Tuple.tupleIsExact (.ref t)) (bP (XZ ht.typeIs (EZ ?_)));show wpAny _ _ (if ((Value.type "tuple" ==Value.type "tuple")=true)then _ else _) _ _ s;rw[b8 (by decide)];exact bP (wpAny_rule (bP (EZ (EZ ⟨_,rfl,EZ h⟩))))
def BV(lo hi:Option Int)(n:Nat):Builtin.Str.strSliceIndices lo hi 1 n=(List.range (Ev.aI n n hi - Ev.aI n 0 lo)).map (λk=>Ev.aI n 0 lo+k):=by
 have Lq:∀o:Option Int,((match o with|none=>(0:Int)|some i=>max 0 (min (if i<0 then i+(n:Int)else i) (n:Int))))=((Ev.aI n 0 o:Nat):Int):=λo=>by
  cases o with
  |none=>rfl
  |some i=>simp only[Ev.aI];split<;>omega
 have Lr:∀o:Option Int,((match o with|none=>(n:Int)|some i=>max 0 (min (if i<0 then i+(n:Int)else i) (n:Int))))=((Ev.aI n n o:Nat):Int):=λo=>by
  cases o with
  |none=>rfl
  |some i=>simp only[Ev.aI];split<;>omega
 have e:Builtin.Str.strSliceIndices lo hi 1 n=sliceRange (match lo with|none=>(0:Int)|some i=>max 0 (min (if i<0 then i+(n:Int)else i) (n:Int))) (match hi with|none=>(n:Int)|some i=>max 0 (min (if i<0 then i+(n:Int)else i) (n:Int))) 1:=by
  unfold Builtin.Str.strSliceIndices;cases lo<;>cases hi<;>simp
 rw[e,Lq,Lr,sliceRange_one]
def Ls(l:List Nat)(lo hi:Option Int):((Builtin.Str.strSliceIndices lo hi 1 (au l).length).filterMap ((au l).cps[·]?)).toArray=(Ev.cut l lo hi).toArray:=by
 rw[aO,BV,pick_run];simp[au,Ev.cut]
def Lu:kP X (KR X.K):=by
 intro pins s σ H x v vl vu lo hi sl Q I rx hs pl pu q;obtain⟨r,h,a,d,h',hr,v1,e,q⟩:=q;cases a with
 |tup ds=>
  cases e;obtain⟨p,vs,rfl,z,w⟩:=v1.shape;by_cases hw:HT.aI vs.length 0 lo=0/\HT.aI vs.length vs.length hi=vs.length
  .cases rx;obtain⟨us,pv,pt,hz⟩:=I.tuple z;have hl:=pv.length;have S8:Ev.aI ds.length 0 lo=0/\Ev.aI ds.length ds.length hi=ds.length:=by rw[<-w.length];exact hw
   refine⟨"tuple",_,PyProof.Rows.slot_tuple_getitem.lookup,pt.typeIs,?_⟩;refine uy pt hs pl pu (by rw[Nb,<-hl];exact hw) ⟨.ref p,H,I,rfl,q.here ?_ hr⟩;rw[uc ds lo hi S8];exact⟨p,vs,rfl,z,w⟩
  .exact Ku pins s σ H _ v vl vu lo hi sl Q I rx hs pl pu ⟨p,vs,rfl,z,hw,λp' hp=>q.tup (w.cut lo hi) hr hp⟩
 |str l=>
  simp only[RV]at v1;obtain⟨rfl,hl⟩:=v1;obtain⟨t,rfl⟩:=rx;cases e;refine⟨"str",_,PySem.F.slot_str_getitem.lookup,Wn s _ t,?_⟩;have part:∀{v:Value} {o:Option Int},IsPart v o->∃p:Option (Int×Tok),v=partValue p/\p.map (·.1)=o:=λ{v o} hp=>by
   cases hp with
   |none=>exact⟨none,rfl,rfl⟩
   |int i t=>exact⟨some (i,t),rfl,rfl⟩
  obtain⟨l1,e1,e2⟩:=part pl;obtain⟨u1,e3,e4⟩:=part pu;subst e1 e3;obtain⟨os,hos,hcs,hds⟩:=hs;refine wpAny_getItem_str_slice (l:=l1) (u:=u1) (st:=none) ⟨os,hos,hcs,hds⟩ rfl ?_;have Ga:((slicePicked (au l) l1 u1 none).filterMap ((au l).cps[·]?)).toArray=(Ev.cut l lo hi).toArray:=by
   show((Builtin.Str.strSliceIndices (l1.map (·.1)) (u1.map (·.1)) 1 (au l).length).filterMap ((au l).cps[·]?)).toArray=_;rw[e2,e4];exact Ls l lo hi
  have hcl:=Ij l lo hi;unfold sliceMade;refine post_val_or_made (λ_=>?_) λt' k=>?_
  .rw[Ga];show(Ev.cut l lo hi).toArray.size<=sizeLine;simp only[Nb];omega
  .have hres:(if (((none:Option (Int×Tok)).map (·.1)).getD 1==1&&(slicePicked (au l) l1 u1 none).length==(au l).length)=true then au l else (⟨((slicePicked (au l) l1 u1 none).filterMap ((au l).cps[·]?)).toArray⟩:Str))=au (Ev.cut l lo hi):=by
    split
    .rename_i hc;rw[gQ]at hc;have hlen:(slicePicked (au l) l1 u1 none).length=(au l).length:=eq_of_beq hc.2;have hlen2:(slicePicked (au l) l1 u1 none).length=Ev.aI l.length l.length hi - Ev.aI l.length 0 lo:=by
      show(Builtin.Str.strSliceIndices (l1.map (·.1)) (u1.map (·.1)) 1 (au l).length).length=_;rw[e2,e4,BV,aO];simp
     rw[aO]at hlen;have hb:Ev.aI l.length l.length hi<=l.length:=HT.u0 _ _ (Qq _) hi;have ha:Ev.aI l.length 0 lo<=l.length:=HT.u0 _ _ (VQ _) lo;rw[uc l lo hi ⟨by omega,by omega⟩]
    .rw[Ga];rfl
   rw[hres];exact⟨.str (au (Ev.cut l lo hi)),H,I.tok _,⟨_,rfl⟩,q.here ⟨rfl,by omega⟩ hr⟩
 |ref m=>
  simp only[Ev.iJ]at e;split at e
  .rename_i ds e1;obtain⟨p,rfl,z⟩:=v1.shape;obtain⟨p',vs,z',q1,w⟩:=hr.read e1;rw[z]at z';cases z';obtain⟨hz,q2⟩:=q.lst e (w.cut lo hi) hr;exact HD pins s σ H _ v vl vu lo hi sl Q I rx hs pl pu ⟨p,vs,rfl,q1,q2⟩
  .cases e
 |_=>cases e
theorem vJ:∀(k:Nat) (l:List Nat) (acc:List Nat),(List.replicate k l.toArray).foldl (·++·) acc.toArray=(acc++Ev.rep k l).toArray
 |0,l,acc=>by simp[Ev.rep]
 |k+1,l,acc=>by
  rw[Vn,Xn];have:acc.toArray++l.toArray=(acc++l).toArray:=by simp
  rw[this,vJ k l (acc++l)];simp[Ev.rep,Vn]
def oO{α:Type}(k:Nat)(l:List α):(Ev.rep k l).length=k*l.length:=by
 unfold Ev.rep;exact len_rep l k
def Ik{l:List Nat}{k:Int}(h:0<=k):Txt.mul (au l) k=au (Ev.rep k.toNat l):=by
 unfold Txt.mul;by_cases h1:k<1
 .have:k=0:=by omega
  subst this;rw[b8 (by decide)];rfl
 .rw[SA h1];split
  .rename_i hc;rw[VF]at hc;rcases hc with hc|hc
   .have:k=1:=by simpa using hc
    subst this;simp[Ev.rep]
   .rw[aO]at hc;have:l=[]:=by cases l with|nil=>rfl|cons _ _=>simp at hc
    subst this;simp[Ev.rep,au]
  .show(⟨(List.replicate k.toNat (au l).cps).foldl (·++·) #[]⟩:Str)=_;have:=vJ k.toNat l [];simp only[V6]at this;exact Vd Str.mk this
def j5{a b:Nat}(h1:a<=1000)(h2:b<=1000):a*b<=sizeLine:=Uc (Nat.mul_le_mul h1 h2) (by decide)
def Il{pins:List (Addr×Obj)}{σ:L2.St}{H:Hp}{s:Shared}{Q:VK}(I:Inv X pins σ H s){l:List Nat}{k:Int}{t u:Tok}(hk:0<=k/\k<=1000/\l.length<=1000)(q:Q (.str (au (Ev.rep k.toNat l))) H) :
  wpAny (model X.prog X.w) X.A (binaryOp .Mult (.str (au l) t) (.int k u)) (EP X pins σ Q) X.xe s:=by
 have hok:MulOk (au l) k:=mulOk_of 1000 1000 (by rw[aO];exact hk.2.2) (by exact hk.2.1) (by omega) (by decide) (by decide);refine SB.mul hok λt' k'=>?_;rw[Ik hk.1];exact⟨.str _,H,I.tok _,⟨_,rfl⟩,q⟩
def pX:fillsNumberSlot (.type "tuple") "mul" = pure false:=
 PySem.fillsNumberSlot_seq (id:="tuple.__mul__") (r:=some (.builtin "tuple.__rmul__")) PySem.F.slot_tuple_mul.lookup (by decide +kernel) PySem.F.slot_tuple_rmul.lookup (by decide +kernel)
def vK:seqRepeat? (.type "tuple")=pure (some (.builtin "tuple.__mul__")):=by
 unfold seqRepeat?;rw[Ym (T:="tuple") (name:="__mul__") (id:="tuple.__mul__") PySem.F.slot_tuple_mul.lookup (by decide +kernel),Ym (T:="tuple") (name:="__rmul__") (id:="tuple.__rmul__") PySem.F.slot_tuple_rmul.lookup (by decide +kernel)];rfl
def Ag(a:Int)(t:Tok)(l:Addr)(items:Array Value)(n:Nat)(dd:Option Addr)(sl:Array (Option Value)) :
  Meets (Builtin.«int.__rmul__» ⟨[.int a t,.ref l],[]⟩) (λ_ R s=>s.heap.get? l=some { cls:=.type "tuple",dict:=dd,data:=.seq items n,slots:=sl }/\R (.ok (.ret Value.notImplemented)) s):=
 .of_wp λprog w A R s h=>by obtain⟨hp,g,d,tk,os⟩:=s;obtain⟨hl,h⟩:=h;wp_walk;exact⟨_,rfl,h⟩
def Ah(l:Addr)(items:Array Value)(n:Nat)(dd:Option Addr)(sl:Array (Option Value))(k:Int)(u:Tok)(h1:¬ (decide (k < -2 ^ 63) ||decide (k≥2 ^ 63))=true)(h3:(items.isEmpty ||k==1)=true) :
  Meets (Builtin.«tuple.__mul__» ⟨[.ref l,.int k u],[]⟩) (λ_ R s=>s.heap.get? l=some { cls:=.type "tuple",dict:=dd,data:=.seq items n,slots:=sl }/\R (.ok (.ret (.ref l))) s):=
 .of_wp λprog w A R s h=>by obtain⟨hp,g,d,tk,os⟩:=s;obtain⟨hl,h⟩:=h;have f1:=Xg;wp_walk using Vy hl;rw[SA h1];wp_walk using Vy hl;exact⟨_,rfl,h⟩
def Ai(l:Addr)(items:Array Value)(n:Nat)(dd:Option Addr)(sl:Array (Option Value))(k:Int)(u:Tok)(h1:¬ (decide (k < -2 ^ 63) ||decide (k≥2 ^ 63))=true)(h3:¬ (items.isEmpty ||k==1)=true)(h4:(decide (k<=0) ||items.isEmpty)=true) :
  Meets (Builtin.«tuple.__mul__» ⟨[.ref l,.int k u],[]⟩) (λ_ R s=>s.heap.get? l=some { cls:=.type "tuple",dict:=dd,data:=.seq items n,slots:=sl }/\R (.ok (.ret (Value.ref s.heap.objs.size))) { s with heap:=s.heap.push { cls:=Value.type "tuple",data:=Data.seq #[]},toks:=s.toks }):=
 .of_wp λprog w A R s h=>by obtain⟨hp,g,d,tk,os⟩:=s;obtain⟨hl,h⟩:=h;have f1:=Xg;wp_walk using Vy hl;rw[SA h1];wp_walk using Vy hl;exact⟨_,rfl,h⟩
def Aj(l:Addr)(items:Array Value)(n:Nat)(dd:Option Addr)(sl:Array (Option Value))(k:Int)(u:Tok)(h1:¬ (decide (k < -2 ^ 63) ||decide (k≥2 ^ 63))=true)(h3:¬ (items.isEmpty ||k==1)=true)(h4:¬ (decide (k<=0) ||items.isEmpty)=true)
  (h5:¬ (items.size*k > (2 ^ 63 - 1) / 8)) (h6:¬ Builtin.Tuple.tupleTooMany (items.size*k)=true) (hsz:(List.foldl (λx1 x2=>x1++x2) #[] (List.replicate k.toNat items)).size<=sizeLine) :
  Meets (Builtin.«tuple.__mul__» ⟨[.ref l,.int k u],[]⟩) (λ_ R s=>s.heap.get? l=some { cls:=.type "tuple",dict:=dd,data:=.seq items n,slots:=sl }/\R (.ok (.ret (Value.ref s.heap.objs.size))) { s with heap:=s.heap.push { cls:=Value.type "tuple",data:=Data.seq (List.foldl (λx1 x2=>x1++x2) #[] (List.replicate k.toNat items))},toks:=s.toks }):=
 .of_wp λprog w A R s h=>by obtain⟨hp,g,d,tk,os⟩:=s;obtain⟨hl,h⟩:=h;have f1:=Xg;wp_walk using Vy hl;rw[SA h1];wp_walk using Vy hl;rw[SA h5];wp_walk using Vy hl;exact⟨_,rfl,h⟩
theorem ud:∀(k:Nat) (l acc:List Value),(List.replicate k l.toArray).foldl (·++·) acc.toArray=(acc++Ev.rep k l).toArray
 |0,l,acc=>by simp[Ev.rep]
 |k+1,l,acc=>by
  rw[Vn,Xn];have:acc.toArray++l.toArray=(acc++l).toArray:=by simp
  rw[this,ud k l (acc++l)];simp[Ev.rep,Vn]
def Im{pins:List (Addr×Obj)}{σ:L2.St}{H:Hp}{s:Shared}{Q:VK}(I:Inv X pins σ H s){p:Addr}{vs:List V}{k:Int}{u:Tok}(hk:0<=k/\k<=1000/\vs.length<=1000)(hp:dH X.K H p vs)
  (q1:Ev.rep k.toNat vs=vs->Q (.ref p) H) (q2:∀p',H p'=none->Q (.ref p') (upd H p' (.tup (Ev.rep k.toNat vs)))) :
  wpAny (model X.prog X.w) X.A (binaryOp .Mult (.ref p) (.int k u)) (EP X pins σ Q) X.xe s:=by
 obtain⟨us,pv,pt,hz⟩:=I.tuple hp;obtain⟨⟨cls,dd,data,sl⟩,ho,hc,n,hd⟩:=id pt;simp only at hc hd;subst hc hd;have hl:=pv.length;have h1:¬ (decide (k < -2 ^ 63) ||decide (k≥2 ^ 63))=true:=by simp;omega
 refine W8 (T:="tuple") (U:="int") (by decide) ⟨_,ho,rfl⟩ (λs'=>W7 s' k u) pX PySem.F.fills_int_mul XA vK PySem.F.slot_int_index.lookup
  (VP XA (W7 s k u) PySem.F.entry_int_rmul (PySem.F.args_int_rmul_2 _ _) (Ag k u p us.toArray n dd sl) ⟨ho,rfl,⟨_,ho,rfl⟩,?_⟩)
 have hrep:∀m:Nat,(Ev.rep m us).length=m*us.length:=λm=>oO m us;by_cases h3:(us.toArray.isEmpty ||k==1)=true
 .refine VP Ww ⟨_,ho,rfl⟩ Wr (Wl _ _) (Ah p us.toArray n dd sl k u h1 h3) ⟨ho,?_⟩;refine⟨.ref p,H,I,rfl,q1 ?_⟩;rw[VF]at h3;rcases h3 with h3|h3
  .have:us=[]:=by simpa using h3
   subst this;cases pv;simp[Ev.rep]
  .have:k=1:=by simpa using h3
   subst this;simp[Ev.rep]
 .have laid:∀m:Nat,m=k.toNat->EP X pins σ Q (.ref s.heap.objs.size) { s with heap:=s.heap.push { cls:=.type "tuple",data:=.seq (Ev.rep m us).toArray }}:=λm hm=>by
   subst hm;refine⟨.ref s.heap.objs.size,_,I.laid (t':=s.toks) (o:=.tup (Ev.rep k.toNat vs)) (λb ob q=>AQ _ q) (Qq _) ?_,rfl,q2 _ (I.hok.fresh (Qq _))⟩;exact⟨by rw[oO];exact j5 (by omega) hk.2.2,_,pv.rep k.toNat,IsTup.new _ _⟩
  by_cases h4:(decide (k<=0) ||us.toArray.isEmpty)=true
  .refine VP Ww ⟨_,ho,rfl⟩ Wr (Wl _ _) (Ai p us.toArray n dd sl k u h1 h3 h4) ⟨ho,?_⟩;have hk0:k=0:=by
    rw[VF]at h4 h3;rcases h4 with h4|h4
    .have:k<=0:=V0 h4;omega
    .exact absurd (.inl h4) h3
   have:=laid 0 (by rw[hk0];rfl);exact this
  .have hm:us.toArray.size*k.toNat<=1000000:=by
    rw[Nb];exact Nat.mul_le_mul (by omega:us.length<=1000) (by omega:k.toNat<=1000)
   have hm':(us.toArray.size:Int)*k<=1000000:=by
    have e:(us.toArray.size:Int)*k=((us.toArray.size*k.toNat:Nat):Int):=by
     rw[Int.natCast_mul,Int.toNat_of_nonneg hk.1]
    rw[e];omega
   have hf:List.foldl (λx1 x2=>x1++x2) #[] (List.replicate k.toNat us.toArray)=(Ev.rep k.toNat us).toArray:=by
    have:=ud k.toNat us [];simpa using this
   refine VP Ww ⟨_,ho,rfl⟩ Wr (Wl _ _) (Aj p us.toArray n dd sl k u h1 h3 h4 (by omega) ?_ ?_) ⟨ho,?_⟩
   .unfold Builtin.Tuple.tupleTooMany;simp only[VC];have:(sizeLine:Int)=16777216:=by rw[V9];rfl
    omega
   .rw[hf];simp only[Nb];rw[oO];exact j5 (by omega) (by omega)
   .rw[hf];exact laid _ rfl
def Lv:cH X (binaryOp .Mult) (fQ X.K (Ev.bY .mul)):=by
 intro pins s σ H x y v u Q I rx ry q;obtain⟨r,h,a,b,d,h',hr,v1,v2,e,q⟩:=q;cases b with
 |int k=>
  have s2:=v2.shape;simp only[bV]at s2;subst s2;cases a with
  |int i=>
   delta Ev.bY at e;dsimp only at e
   split at e
   .rename_i hz;cases e;refine Kh pins s σ H x _ v u Q I rx ry ⟨i,k,v1,rfl,?_,q.here rfl hr⟩;unfold Ev.bG at hz;simp only[VF,gQ,VC]at hz;exact hz
   .cases e
  |str l=>
   delta Ev.bY at e;dsimp only at e
   split at e
   .rename_i hz;cases e;simp only[RV]at v1;obtain⟨rfl,hl⟩:=v1;obtain⟨t,rfl⟩:=rx;obtain⟨t',rfl⟩:=ry;exact Il I hz (q.here ⟨rfl,by rw[oO];exact j5 (by omega) hz.2.2⟩ hr)
   .cases e
  |tup ds=>
   delta Ev.bY at e;dsimp only at e
   split at e
   .rename_i hz;cases e;obtain⟨p,vs,rfl,z,w⟩:=v1.shape;cases rx;obtain⟨t',rfl⟩:=ry;refine Im I ⟨hz.1,hz.2.1,by rw[w.length];exact hz.2.2⟩ z (λS9=>q.here ⟨p,vs,rfl,z,?_⟩ hr) λp' hp=>q.tup (w.rep k.toNat) hr hp;have:=w.rep k.toNat;rw[S9]at this;exact this
   .cases e
  |ref i=>
   delta Ev.bY at e;dsimp only at e
   split at e
   .rename_i ds e1;split at e
    .rename_i hz;obtain⟨p,rfl,z⟩:=v1.shape;obtain⟨p',g1,vs,g2,g3⟩:=hr.ob _ _ e1;rw[z]at g1;cases g1;obtain⟨hz2,q2⟩:=q.lst e (g3.rep k.toNat) hr;exact KG pins s σ H (.ref p) _ v u Q I rx ry ⟨p,k,vs,rfl,rfl,g2,by omega,by omega,j5 (by rw[g3.length];exact hz.2.2) (by omega),q2⟩
    .cases e
   .cases e
  |_=>cases e
 |_=>cases a<;>cases e
end
section
variable{X:Cx}
theorem vL{K:PySem.W.Frag}{H:Hp}{r:List Addr}:∀{ds:List D}{bs:List Bool}{vs:List V}{us:List Value},Ev.boolsOf ds=some bs->aF K H r ds vs->Vals vs us->us=bs.map Value.bool
 |[],bs,vs,us,e,w,p=>by
  cases e;simp only[aF]at w;subst w;cases p;rfl
 |d :: ds,bs,vs,us,e,w,p=>by
  cases d with
  |bl b=>
   simp only[Ev.boolsOf,cz]at e;obtain⟨bs',e1,rfl⟩:=e;simp only[aF,RV]at w;obtain⟨v,w',rfl,rfl,w2⟩:=w;cases p with
   |cons p1 p2=>
    cases p1;rw[vL e1 w2 p2];rfl
  |_=>cases e
theorem yz{K:PySem.W.Frag}{H:Hp}{r:List Addr}:∀{ds:List D}{ss:List (List Nat)}{vs:List V}{us:List Value},Ev.strsOf ds=some ss->aF K H r ds vs->Vals vs us->StrsAre us (ss.map au)/\∀l∈ss,l.length<=sizeLine
 |[],bs,vs,us,e,w,p=>by
  cases e;simp only[aF]at w;subst w;cases p;exact⟨.nil,λl h=>nomatch h⟩
 |d :: ds,bs,vs,us,e,w,p=>by
  cases d with
  |str b=>
   simp only[Ev.strsOf,cz]at e;obtain⟨bs',e1,rfl⟩:=e;simp only[aF,RV]at w;obtain⟨v,w',rfl,⟨rfl,hb⟩,w2⟩:=w;cases p with
   |cons p1 p2=>
    obtain⟨t,rfl⟩:=p1;obtain⟨g1,g2⟩:=yz e1 w2 p2;refine⟨.cons _ _ g1,λl hl=>?_⟩;rcases List.mem_cons.mp hl with z|z
    .subst z;exact hb
    .exact g2 l z
  |_=>cases e
def ue{A:Around}{pins:List (Addr×Obj)}{σ:L2.St}{H:Hp}{s:Shared}(I:Inv X pins σ H s){p:Addr}{us:List Value}(pl:PlainL s.heap p us.toArray){Q:Value->Shared->Prop}{E:Value->Shared->Prop}
  (h:∀s₂:Shared,s₂={ s with heap:=s.heap.push { cls:=.type "list_iterator",data:=.fields #[.ref p,.int 0 0]}}->(s₂.heap.IsListIter s.heap.objs.size p 0/\s₂.heap.IsList p us.toArray)->p≠s.heap.objs.size->(∀b∈[s.heap.objs.size,p],b<s₂.heap.objs.size)->Q (.ref s.heap.objs.size) s₂) :
  wpAny (model X.prog X.w) A (pyIter (.ref p)) Q E s:=by
 have hlt:p<s.heap.objs.size:=by obtain⟨_,e,_⟩:=pl.isList;exact zo e
 refine wpAny_pyIter_list pl.isList (h _ rfl ⟨⟨_,Vl _ rfl,rfl,rfl⟩,pl.isList.push _⟩ (Vk hlt) λb hb=>?_);show b<(s.heap.push _).objs.size;rw[Xw];rcases List.mem_cons.mp hb with z|z
 .rw[z];exact WB _
 .rw[List.mem_singleton.mp z];exact Nat.lt_succ_of_lt hlt
def all_range{bs:List Bool}:(List.range bs.length).all (λi=>bs[i]?.getD true)=bs.all id:=by
 rw[VL,V1,V1];constructor
 .intro h b hb;obtain⟨i,hi,rfl⟩:=WN hb;simpa[hi]using h i (List.mem_range.mpr hi)
 .intro h i hi;have hi':=List.mem_range.mp hi;simpa[hi']using h bs[i] (by simp)
def any_range{bs:List Bool}:(List.range bs.length).any (λi=>bs[i]?.getD true)=bs.any id:=by
 rw[VL,WC,WC];constructor
 .rintro⟨i,hi,h⟩;have hi':=List.mem_range.mp hi;exact⟨bs[i],by simp,by simpa[hi']using h⟩
 .rintro⟨b,hb,h⟩;obtain⟨i,hi,rfl⟩:=WN hb;exact⟨i,List.mem_range.mpr hi,by simpa[hi]using h⟩
def uf {s s₂:Shared}{I p:Addr}{h':Heap}(e:s₂.heap=s.heap.push { cls:=.type "list_iterator",data:=.fields #[.ref p,.int 0 0]}) (hI:I=s.heap.objs.size) (hk:∀b o,b∉[I]->s₂.heap.get? b=some o->h'.get? b=some o) :
  ∀b o,s.heap.get? b=some o->h'.get? b=some o:=λb o q=>hk b o (by simp;rw[hI];exact Vk (zo q)) (by rw[e];exact AQ _ q)
variable{G:Tb}{n:Nat}{sc:Scope}{N:List Str}{df:Bool}
def DY(g:Good G n sc N df X){pins:List (Addr×Obj)}{σ:L2.St}{H:Hp}{s:Shared}(I:Inv X pins σ H s){p:Addr}{bs:List Bool}(pl:PlainL s.heap p (bs.map Value.bool).toArray){Q:VK} :
  (Q (.bl (bs.all id)) H->wpAny (model X.prog X.w) X.A (call (.builtin "all") [.ref p]) (EP X pins σ Q) X.xe s)/\(Q (.bl (bs.any id)) H->wpAny (model X.prog X.w) X.A (call (.builtin "any") [.ref p]) (EP X pins σ Q) X.xe s):=by
 have hh:=I.ok.hd g.calm;have tr:TruthOf X.prog X.w X.A.in1 (λi v=>(bs.map Value.bool).toArray[i]?=some v) (λi=>bs[i]?.getD true):=λi v s' Q' E' hP hQ=>by
  simp only[List.getElem?_toArray,Vq,cz]at hP;obtain⟨b,hb,rfl⟩:=hP;have P6:Q' (bs[i]?.getD true) s':=hQ;rw[hb]at P6;exact VA P6
 have hsz:(bs.map Value.bool).toArray.size=bs.length:=by simp
 constructor
 .intro q;refine call_all_walk (ue I pl λs₂ e st hne hfp=>?_);subst e;refine⟨_,_,_,_,_,_,_,rfl,Walks.list (A:=X.A.in1) hh _ p hne (bs.map Value.bool).toArray,st,tr,λh' tk hk=>?_⟩;rw[hsz,all_range];exact⟨.bl _,H,I.kept (uf rfl rfl hk),rfl,q⟩
 .intro q;refine call_any_walk (ue I pl λs₂ e st hne hfp=>?_);subst e;refine⟨_,_,_,_,_,_,_,rfl,Walks.list (A:=X.A.in1) hh _ p hne (bs.map Value.bool).toArray,st,tr,λh' tk hk=>?_⟩;rw[hsz,any_range];exact⟨.bl _,H,I.kept (uf rfl rfl hk),rfl,q⟩
def Lx (g:Good G n sc N df X):fM X (.builtin "all") (tR X.K (Ev.dM .all)):=by
 intro pins s σ H xs us Q I r q;obtain⟨rr,h,as,d,h',hr,v1,e,q⟩:=q
 match as,e with
 |[.ref m],e=>
  obtain⟨e,rfl⟩:=Ev.aC e;simp only[cz,eU]at e;obtain⟨bs,⟨ds,e1,e2⟩,rfl⟩:=e;simp only[aF,RV]at v1;obtain⟨v,w,rfl,⟨p,rfl,z⟩,rfl⟩:=v1;obtain⟨u,rfl,ru⟩:=WT r;cases ru;obtain⟨p',vs,z',q1,w⟩:=hr.read e1;rw[z]at z';cases z';obtain⟨zs,pv,pl,_⟩:=I.list q1;have:=vL e2 w pv;subst this;exact(DY g I pl).1 (q.here rfl hr)
def Ly:fM X (.builtin "len") (tR X.K (Ev.dM .len)):=by
 intro pins s σ H xs us Q I r q;obtain⟨rr,h,as,d,h',hr,v1,e,q⟩:=q
 match as,e with
 |[.str l],e=>
  delta Ev.dM at e;dsimp only at e
  split at e
  .cases e;simp only[aF,RV]at v1;obtain⟨v,w,rfl,⟨rfl,hl⟩,rfl⟩:=v1;refine u7 pins s σ H _ us Q I r ⟨_,rfl,by rw[aO];exact hl,?_⟩;rw[aO];exact q.here rfl hr
  .cases e
 |[.tup ds],e=>
  cases e;simp only[aF,RV]at v1;obtain⟨v,w,rfl,⟨p,vs,rfl,z,w'⟩,rfl⟩:=v1;refine mX pins s σ H _ us Q I r ⟨p,vs,rfl,.inr z,?_⟩;rw[w'.length];exact q.here rfl hr
 |[.ref m],e=>
  obtain⟨e,rfl⟩:=Ev.aC e;simp only[cz]at e;obtain⟨ds,e1,rfl⟩:=e;simp only[aF,RV]at v1;obtain⟨v,w,rfl,⟨p,rfl,z⟩,rfl⟩:=v1;obtain⟨p',vs,z',q1,w⟩:=hr.read e1;rw[z]at z';cases z';refine mX pins s σ H _ us Q I r ⟨p,vs,rfl,.inl q1,?_⟩;rw[w.length];exact q.here rfl hr
def BW:qv X "list.append" (tS X.K (Ev.cI .append)):=by
 intro pins s σ H x xs v us Q I rx rs q;obtain⟨r,h,a,as,d,h',hr,v1,v2,e,q⟩:=q;cases a with
 |ref m=>
  match as,e with
  |[b],e=>
   delta Ev.cI at e;dsimp only at e
   split at e
   .rename_i ds e1;split at e
    .rename_i hz;cases e;rw[jO]at hz;obtain⟨p,rfl,z⟩:=v1.shape;simp only[aF]at v2;obtain⟨y,w,rfl,v3,rfl⟩:=v2;obtain⟨p',g1,vs,g2,g3⟩:=hr.ob _ _ e1;rw[z]at g1;cases g1;refine mY pins s σ H _ _ v us Q I rx rs ⟨p,vs,y,rfl,rfl,g2,by rw[g3.length];exact hz,?_⟩;have f:=Fm.write (K:=X.K) (ws:=vs++[y]) g2 (Vr z);exact q _ _ r rfl (hr.write e1 z g2 (g3.append (.cons v3 .nil))) f
    .cases e
   .cases e
  |[],e=>cases e
  |_ :: _ :: _,e=>cases e
 |_=>cases e
def Lz:qv X "list.pop" (tS X.K (Ev.cI .pop)):=by
 intro pins s σ H x xs v us Q I rx rs q;obtain⟨r,h,a,as,d,h',hr,v1,v2,e,q⟩:=q;cases a with
 |ref m=>
  match as,e with
  |[],e=>
   delta Ev.cI at e;dsimp only at e
   split at e
   .rename_i ds e1;split at e
    .rename_i y e2;cases e;obtain⟨p,rfl,z⟩:=v1.shape;simp only[aF]at v2;subst v2;obtain⟨p',g1,vs,g2,g3⟩:=hr.ob _ _ e1;rw[z]at g1;cases g1;obtain⟨vy,g4,g5⟩:=g3.get e2;refine KA pins s σ H _ _ v us Q I rx rs ⟨p,vs,vy,rfl,rfl,g2,by rw[g3.length];exact g4,?_⟩;have f:=Fm.write (K:=X.K) (ws:=vs.dropLast) g2 (Vr z);have hd:aF X.K H r ds.dropLast vs.dropLast:=by
      rw[Wa,Wa,g3.length];exact g3.take _
     exact q _ _ r (g5.mono f) (hr.write e1 z g2 hd) f
    .cases e
   .cases e
  |_ :: _,e=>cases e
 |_=>cases e
theorem pY(sep:List Nat):∀ss:List (List Nat),Str.join (au sep) (ss.map au)=au (Ev.aP sep ss)
 |[]=>rfl
 |[s]=>rfl
 |s :: t :: r=>by
  have ih:=pY sep (t :: r);show au s++au sep++Str.join (au sep) ((t :: r).map au)=_;rw[ih,rY,rY];rfl
def join_eq(sep:List Nat)(ss:List (List Nat)):Txt.join (au sep) (ss.map au)=au (Ev.aP sep ss):=by
 rw[<-pY];exact PySem.StrLaws.glued_eq_join _ _
def Io:qv X "str.join" (tS X.K (Ev.cI .join)):=by
 intro pins s σ H x xs v us Q I rx rs q;obtain⟨r,h,a,as,d,h',hr,v1,v2,e,q⟩:=q;cases a with
 |str sep=>
  match as,e with
  |[.ref k],e=>
   delta Ev.cI at e;dsimp only at e
   split at e
   .rename_i ss e1;split at e
    .rename_i hz;cases e;simp only[eU]at e1;obtain⟨ds,e1,e2⟩:=e1;simp only[RV]at v1;obtain⟨rfl,hl⟩:=v1;obtain⟨t,rfl⟩:=rx;simp only[aF,RV]at v2;obtain⟨y,w,rfl,⟨p2,rfl,z2⟩,rfl⟩:=v2;obtain⟨u,rfl,ru⟩:=WT rs;cases ru;obtain⟨p',vs,z',q1,w⟩:=hr.read e1;rw[z2]at z';cases z';obtain⟨zs,pv,pl,_⟩:=I.list q1;obtain⟨g1,g2⟩:=yz e2 w pv;have hlen:((ss.map au).map (·.length)).sum+(ss.map au).length*(au sep).length<=16777216:=by
      rw[VJ,Vm,aO];have:(λx:Str=>x.length) ∘ au=λl:List Nat=>l.length:=funext λl=>aO l;rw[this];exact hz
     refine join_list pl.isList g1 hlen λt' k'=>?_;rw[join_eq];refine⟨.str _,H,I.tok _,⟨_,rfl⟩,q.here ⟨rfl,?_⟩ hr⟩;have hj:=PySem.StrLaws.join_length_le (au sep) (ss.map au);rw[pY,aO]at hj;have:sizeLine=16777216:=V9;omega
    .cases e
   .cases e
 |_=>cases e
end
section
variable{X:Cx}{G:Tb}{n:Nat}{sc:Scope}{N:List Str}{df:Bool}{m:List Nat}{a b:E}{xa:Expr}{pos:Pos}
noncomputable def nj:TY->String
 |.int=>"int" |.bool=>"bool" |.str=>"str" |.tuple=>"tuple" |.list=>"list"
def Ru (K:PySem.W.Frag) (t:TY):PySem.W.kitOne K (.type "NoneType") (.type (nj t))=some false/\PySem.W.kitOne K (.type "bool") (.type (nj t))=some (Ev.cF [] (.bl true) t)/\PySem.W.kitOne K (.type "int") (.type (nj t))=some (Ev.cF [] (.int 0) t)/\
  PySem.W.kitOne K (.type "str") (.type (nj t))=some (Ev.cF [] (.str []) t)/\PySem.W.kitOne K (.type "tuple") (.type (nj t))=some (Ev.cF [] (.tup []) t)/\PySem.W.kitOne K (.type "list") (.type (nj t))=some (match t with|.list=>true|_=>false):=by
 cases t<;>refine⟨?_,?_,?_,?_,?_,?_⟩<;>kernel_rfl
noncomputable def LD(h:Hh)(i:Nat):Prop:=(Ev.aR h i).isSome=true
 \/False
 \/(∃kvs,h[i]?=some (O.dm kvs))
def Rw (K:PySem.W.Frag) (t:TY):PySem.W.kitOne K (.type "dict") (.type (nj t))=some false:=by cases t<;>kernel_rfl
def Ip{pins:List (Addr×Obj)}{σ:L2.St}{H:Hp}{s:Shared}{r:List Addr}{h:Hh}(I:Inv X pins σ H s)(hr:HR X.K H r h){d:D}{x:V}{u:Value}(v1:RV X.K H r d x)(rx:RelV x u)(hd:∀i,d=.ref i->LD h i)(t:TY){Q:Value->Shared->Prop}{E:Value->Shared->Prop}(q:∀tk,Q (.bool (Ev.cF h d t)) { s with toks:=tk }) :
  wpAny (model X.prog X.w) X.A (call (.builtin "isinstance") [u,.type (nj t)]) Q E s:=by
 obtain⟨k0,k1,k2,k3,k4,k5⟩:=Ru X.K t;have s1:=v1.shape;cases d with
 |bf=>simp only[bV]at s1;subst s1;exact iX I rx .bf k0 (by simpa[Ev.cF]using q)
 |bl b=>simp only[bV]at s1;subst s1;exact iX I rx (.bl _) k1 (by cases t<;>simpa[Ev.cF]using q)
 |int b=>simp only[bV]at s1;subst s1;exact iX I rx (.int _) k2 (by cases t<;>simpa[Ev.cF]using q)
 |str b=>simp only[bV]at s1;subst s1;exact iX I rx (.str _) k3 (by cases t<;>simpa[Ev.cF]using q)
 |tup ds=>
  obtain⟨p,vs,rfl,z,w⟩:=s1;cases rx;obtain⟨us,_,pt,_⟩:=I.tuple z;obtain⟨o,h1,h2,_⟩:=pt;exact Vt X7 I.dQ ⟨o,h1,h2⟩ k4 (λz=>nomatch z) (by cases t<;>simpa[Ev.cF]using q)
 |ref i=>
  obtain⟨p,rfl,z⟩:=s1;cases rx;rcases hd i rfl with hd|hd
  case inr=>
   rcases hd with hd|hd
   case inr=>
    obtain⟨kvs,e1⟩:=hd;obtain⟨p',z1,z2,_⟩:=hr.dm e1;rw[z]at z1;cases z1;have e2:Ev.aR h i=none:=by unfold Ev.aR;rw[e1]
    exact iX I (show RelV (.ref p) (.ref p)from rfl) (.dK z2) (Rw X.K t) (by cases t<;>simpa[Ev.cF,e2]using q)
   exact hd.elim
  obtain⟨ds,e1⟩:=Option.isSome_iff_exists.mp hd;obtain⟨us,pl⟩:=vI I hr e1 z;obtain⟨o,h1,h2,_⟩:=pl.isList;exact Vt W2 I.dQ ⟨o,h1,h2⟩ k5 (λz=>nomatch z) (by cases t<;>simpa[Ev.cF,e1]using q)
def qI {t:TY}{T:Str}{p q:Pos}(ha:JE G n sc N df m a xa) (hT:bootBuiltins T=some (.type (nj t))) (h1:("isinstance" : Str)∈G.bl:=by decide +kernel) (h2:T∈G.bl:=by decide +kernel)
  (BX:sc.names.lookup ("isinstance" : Str)=some .globalImplicit:=by rfl) (Tc:sc.names.lookup T=some .globalImplicit:=by rfl) (hn:T≠"__name__" :=by decide) (hd:(T==("__debug__" : Str))=false:=by decide)
  (hst:∀env:Env,starEach [xa,.Name T q] env=(false,eval xa env) :: starEach [.Name T q] env:=by intro _;rfl):JE G n sc N df m (.dY a [t]) (.Call (.Name "isinstance" p) [xa,.Name T q] [] pos):=λX g=>by
 have hty:PE X (.Name T q) (tC (.ty (nj t))):=x8 (g.gl Tc) (g.bl T h2) hT rfl hn hd;have hc:fM X (.builtin "isinstance") (λxs H Q=>∃r h d x,HR X.K H r h/\RV X.K H r d x/\xs=[x,.ty (nj t)]/\(∀i,d=.ref i->LD h i)/\Q (.bl (Ev.cF h d t)) H):=by
  intro pins s σ H xs us Q I rv q;obtain⟨r,h,d,x,hr,v1,rfl,hd,q⟩:=q;obtain⟨u,w,rfl,r1,r2⟩:=vals2 rv;cases r2;exact Ip I hr v1 r1 hd t λtk=>⟨.bl _,H,I.tok _,rfl,q⟩
 refine PE.of (pO hc (g.gl BX) (g.bl _ h1) (by decide +kernel) (er (ha X g) (er hty kN) (hst _)) (by decide) (by decide) (hst _) rfl) λs H Q q=>?_;obtain⟨r,fr,h,d,h',sr,hr,e,q⟩:=q;simp only[Ev.ev]at e;obtain⟨x,h3,e1,e⟩:=Ev.ah e;cases e;refine⟨r,fr,h,x,_,sr,hr,e1,λv H1 r1 v1 hr1 f1=>?_⟩;refine⟨r1,_,x,v,hr1,v1,rfl,λi hi=>?_,?_⟩
 .subst hi;simp only[RV]at v1;obtain⟨p,_,z⟩:=v1;have hlt:i<h'.length:=by rw[<-hr1.len];exact(List.getElem?_eq_some_iff.mp z).1
  unfold LD Ev.aR;rw[RY hlt];cases h'[i]with
  |lst ds=>exact .inl rfl
  |bE ds=>exact .inl rfl
  |dm kvs=>exact .inr (.inr ⟨kvs,rfl⟩)
 .have:=(q.later f1).here (v:=.bl (Ev.cF h' x t)) (by simp[RV]) hr1;exact this
end
section
variable{G:Tb}{n:Nat}{sc:Scope}{N:List Str}{df:Bool}{m:List Nat}{a c:E}{xa:Expr}{pos:Pos}
def DZ (g:Good G n sc N df X):fM X (.type "tuple") (λxs H Q=>∃r h d x d' h',HR X.K H r h/\RV X.K H r d x/\xs=[x]/\Ev.rR d h=.ok d' h'/\Res X.K r H h' d' Q):=by
 intro pins s σ H xs us Q I rv q;obtain⟨r,h,d,x,d',h',hr,v1,rfl,e,q⟩:=q;cases d with
 |tup ds=>
  cases e;have v2:=v1;obtain⟨p,vs,rfl,z,w⟩:=v1.shape;exact lX pins s σ H _ us Q I rv ⟨p,vs,rfl,.inr ⟨z,q.here v2 hr⟩⟩
 |ref i=>
  simp only[Ev.rR]at e;split at e
  .rename_i ds e1;split at e
   .cases e;obtain⟨p,rfl,z⟩:=v1.shape;obtain⟨p',vs,z',q1,w⟩:=hr.read e1;rw[z]at z';cases z';exact lX pins s σ H _ us Q I rv ⟨p,vs,rfl,.inl ⟨q1,λl hl=>q.tup w hr hl⟩⟩
   .cases e
  .cases e
 |_=>cases e
def LA {p:Pos}(ha:JE G n sc N df m a xa) (h1:("tuple" : Str)∈G.bl:=by decide +kernel) (BX:sc.names.lookup ("tuple" : Str)=some .globalImplicit:=by rfl)
  (hst:∀env:Env,starEach [xa] env=[(false,eval xa env)]:=by intro _;rfl):JE G n sc N df m (.fc a) (.Call (.Name "tuple" p) [xa] [] pos):=λX g=>by
 refine PE.of (mV (DZ g) (g.gl BX) (g.bl _ h1) (by decide +kernel) (er (ha X g) kN (hst _)) (by decide) (by decide) (hst _) rfl) λs H Q q=>?_;obtain⟨r,fr,h,d,h',sr,hr,e,q⟩:=q;simp only[Ev.ev]at e;obtain⟨x,h3,e1,e⟩:=Ev.ah e;refine⟨r,fr,h,x,_,sr,hr,e1,λv H1 r1 v1 hr1 f1=>?_⟩;exact⟨r1,h3,x,v,d,h',hr1,v1,rfl,e,q.later f1⟩
def LC{c:Nat}{st:Stmt}:JS G n sc N df m (.b9 c) st:=λX g=>PS.of Dn λQ s H q=>by
 obtain⟨r,fr,h,fl,ai,h',sr,hr,e,q⟩:=q;simp only[Ev.ex]at e;cases e
end
noncomputable def rZ:List (D×D)->Bool
 |[]=>true
 | (.str k,.str v) :: r=>decide (v.length<=1000)&&rZ r
 |_=>false
theorem vM{s:List Nat}{r:D}:∀{kvs:List (D×D)},rZ kvs=true->Ev.eL (.str s) kvs=some r->∃t,r=.str t/\t.length<=1000/\PySem.Spec.lookup (.str (au s)) (tabOf kvs)=some (.str (au t))
 |[],_,e=>by simp[Ev.eL]at e
 | (k,v) :: l,ha,e=>by
  cases k<;>cases v<;>simp only[rZ,Vi,gQ,VC]at ha
  rename_i k v;simp only[Ev.eL]at e;rw[show Ev.gr [] 1 (.str k) (.str s)=some (k==s)from rfl]at e;simp only[tabOf,PySem.Spec.lookup];by_cases h:k=s
  .subst h;simp at e;subst e;refine⟨v,rfl,ha.1,?_⟩;have:PySem.Spec.same (.str (au k)) (.str (au k))=true:=by rw[WU];simp
   rw[this];rfl
  .have hb:(k==s)=false:=by simpa using h
   rw[hb]at e;simp only at e;obtain⟨t,h1,h2,h3⟩:=vM ha.2 e;refine⟨t,h1,h2,?_⟩;have:PySem.Spec.same (.str (au k)) (.str (au s))=false:=by
    rw[WU];simp;exact λz=>h (jA z)
   rw[this];exact h3
theorem vN{y r:D}:∀{kvs:List (D×D)},rZ kvs=true->Ev.eL y kvs=some r->∃s,y=.str s
 |[],_,e=>by simp[Ev.eL]at e
 | (k,v) :: l,ha,e=>by
  cases k<;>cases v<;>simp only[rZ,Vi,gQ,VC]at ha
  cases y with
  |str s=>exact⟨s,rfl⟩
  |ref a=>cases e
  |_=>first|exact vN ha.2 e|cases e
section
variable{G:Tb}{n:Nat}{sc:Scope}{N:List Str}{df:Bool}{m:List Nat}{a:E}{xa:Expr}{pos:Pos}
def yC {x:Str}{kvs:List (D×D)}{p:Pos}(hm:(x,kvs)∈G.dk) (ha:JE G n sc N df m a xa) (hk:rZ kvs=true:=by decide) (hg:sc.names.lookup x=some .globalImplicit:=by rfl) (hd:(x==("__debug__" : Str))=false:=by decide) (hs:rN xa:=by intro _ _;rfl) :
  JE G n sc N df m (.eS kvs a) (.Subscript (.Name x p) xa pos):=λX g=>by
 intro pins s σ H Q I q;obtain⟨r,fr,h,d,h',sr,hr,e,q⟩:=q;simp only[Ev.ev]at e;replace e:=Ev.ah e;obtain⟨y,h1,e1,e⟩:=e;replace e:=Ev.aC e;obtain⟨e,y0⟩:=e;subst y0;obtain⟨ad,hmg,htab⟩:=g.dk x kvs hm;refine Subscript_ (zP (oF (v:=.ref ad) (g.gl hg) hmg rfl hd) (ha X g) I (R:=λx' y' H2=>x'=.ref ad/\∃r1,RV X.K H2 r1 y y'/\HR X.K H2 r1 h'/\Fm X.K r r1 H H2) ?_ λv u s2 x' y' H2 I2 rx ry z=>?_)
 .refine⟨r,fr,h,y,h',sr,hr,e1,λv H1 r1 v1 hr1 f1=>⟨rfl,r1,v1,hr1,f1⟩⟩
 .obtain⟨rfl,r1,v1,hr1,f1⟩:=z;obtain rfl:v=Value.ref ad:=rx;have hy:∃sx,y=.str sx:=vN hk e;obtain⟨sx,rfl⟩:=hy;obtain⟨t,rfl,ht,hl⟩:=vM hk e;simp only[RV]at v1;obtain⟨rfl,_⟩:=v1;obtain⟨tk,rfl⟩:=ry;refine item_strTab (htab s2.heap I2.dQ) hl (λv hv=>?_) (hs _ _);obtain⟨t2,rfl⟩:=PyProof.V.Flat.str_inv hv;exact⟨.str (au t),H2,I2.tok _,⟨t2,rfl⟩,q _ H2 r1 ⟨rfl,Uc ht (by rw[V9];decide)⟩ hr1 f1⟩
end
end Sm
namespace Rv
open PySem PyProof.Rows
end Rv
namespace Sm
open PySem PySem.Spec PyProof.Rows L2 PySem.SeqAt
open Ev (D O Hh Fr R aB E Es Eo T S Ss Fl Src aQ aK TY BI ME)
theorem aF.ofInts{K:PySem.W.Frag}{H:Hp}{r:List Addr}:∀ns:List Int,aF K H r (ns.map D.int) (ns.map V.int)
 |[]=>.nil
 |_ :: l=>.cons rfl (aF.ofInts l)
def LF{K:PySem.W.Frag}{H:Hp}{a:Addr}{vs:List V}(hO:rO H)(hS:eY K H a vs):Aa K H a vs:=by
 rcases hS with h|h
 .rcases h with h|⟨o,h⟩
  .rcases hO a with q|⟨o,xs,q⟩
   .rw[q]at h;cases h
   .rw[q]at h;cases h
  .exact .inl ⟨o,h⟩
 .exact .inr h
def OE{K:PySem.W.Frag}{F:List Ev.Fn}{w n f:Nat}{H:Hp}{a:Addr}{ns:List Int}(hO:rO H)(hS:eY K H a (ns.map V.int)){h':Hh}(e:Ev.run F w n f [.ref 0] [.bE (ns.map D.int)]=.ok (.bl true) h') :
  mh K F w n f [.ref a] H (λv _=>v=.bl true) λ_ _ _=>False:=by
 refine⟨[a],[.bE (ns.map D.int)],[.ref 0],.bl true,h',.cons (show RV K H [a] (.ref 0) (.ref a)from ⟨a,rfl,rfl⟩) .nil,⟨rfl,λk o hk=>?_,λk l b x y _ _ hk _=>?_
  ⟩,e,λv H' r' v1 _ _=>v1⟩
 .cases k with
  |zero=>
   simp at hk;subst hk;exact⟨a,rfl,_,LF hO hS,aF.ofInts ns⟩
  |succ k=>simp at hk
 .cases k with
  |zero=>simp at hk
  |succ k=>simp at hk
def Iq{F:List Ev.Fn}{wh n f:Nat}{l:PySem.W.OpenLaw}{q:Program}{loose:List Str}{XP:(Str->Option Value)->Heap->Prop}{YP:World->Heap->Prop}{d:DefRec}{K:Params->PySem.W.Frag}{x:Str}(hn:l.most=some 63)(hdf:d.params.defaults=[])(hr:fu n callerA)
  (hY:∀(w:World) (h:Heap),YP w h->(K w.params).In h) (good:∀ns:List Int,ns.length<=63->∃h',Ev.run F wh n f [.ref 0] [.bE (ns.map D.int)]=.ok (.bl true) h')
  (Fo:∀(w:World) (mg:Str->Option Value) (fa:Addr) (h:Heap),(K w.params).In h->h.Ns mainGlobals mg->mg d.name=some (.ref fa)->
   ∃fd:FuncData,(∀(s:Shared) (u:Value),BindsTo s fd ⟨[u],[]⟩ [(x,u)])/\∀base:Heap,(K w.params).In base->base.Ns mainGlobals mg->eO l.prog w (K w.params) mg base jr n fa fd [x] (mh (K w.params) F wh n f)) :
  PySem.W.WalkO q loose XP YP l.row.toRowW d [] (λf vs=>PySem.call f vs):=
 L2.DC (n:=63) (k:=n) (x:=x) (CX:=jr) (sp:=λK=>mh K F wh n f) hn (by decide) hdf hr hY Fo (λK H a ns hl hO hS=>by
  obtain⟨h',e⟩:=good ns hl;exact OE hO hS e) λ_ _ _ _ z=>z
end Sm
namespace Sm
open PySem PySem.Spec PyProof.Rows L2
open Ev (D O Hh Fr R aB E Es Eo It T S Ss Fl Src aQ aK TY BI ME)
section
variable{G:Tb}{n:Nat}{sc:Scope}{N:List Str}{df:Bool}{m:List Nat}{a b:E}{xa xb:Expr}{pos:Pos}
noncomputable def hasB(N:List Str)(m:List Nat)(x:Str)(i:Nat):Bool:=(List.range N.length).any λj=>m[j]?==some i&&N[j]?==some x
def hasB.of{x:Str}{i:Nat}(h:hasB N m x i=true):∃j:Nat,m[j]?=some i/\N[j]?=some x:=by
 obtain⟨j,_,q⟩:=List.any_eq_true.mp h;rw[gQ]at q;exact⟨j,by simpa using q.1,by simpa using q.2⟩
noncomputable def vB (sc:Scope) (N:List Str) (m:List Nat) (x:Str) (i:Nat):Bool:=hasB N m x i&&(sc.names.lookup x==some .local ||sc.names.lookup x==some .cell ||sc.names.lookup x==some .free)&&!(x==("__debug__" : Str))&&!(x==("__classdict__" : Str))
def jv{x:Str}{i:Nat}(h:vB sc N m x i=true):JE G n sc N df m (.v i) (.Name x pos):=by
 unfold vB at h;simp only[gQ,VD,VF]at h;obtain⟨⟨⟨h1,h2⟩,h3⟩,h4⟩:=h;obtain⟨j,e1,e2⟩:=hasB.of h1;exact Rq j i e1 e2 (by rcases h2 with (h2|h2)|h2;exact .inl (by simpa using h2);exact .inr (.inl (by simpa using h2));exact .inr (.inr (by simpa using h2))) h3 h4
noncomputable def gB(sc:Scope)(N:List Str)(df:Bool)(m:List Nat)(x:Str)(i:Nat):Bool:=hasB N m x i&&(sc.names.lookup x==some .local || (df&&sc.names.lookup x==some .cell))&&decide m.Nodup&&decide N.Nodup
theorem gB.of{x:Str}{i:Nat}(h:gB sc N df m x i=true):∃j:Nat,m[j]?=some i/\N[j]?=some x/\(sc.names.lookup x=some .local\/(df=true/\sc.names.lookup x=some .cell))/\m.Nodup/\N.Nodup:=by
 unfold gB at h;simp only[gQ,VF]at h;obtain⟨⟨⟨h1,h2⟩,h3⟩,h4⟩:=h;obtain⟨j,e1,e2⟩:=hasB.of h1;exact⟨j,e1,e2,by rcases h2 with h2|⟨h2,h5⟩;exact .inl (by simpa using h2);exact .inr ⟨h2,by simpa using h5⟩,V0 h3,V0 h4⟩
def Td{x:Str}{i:Nat}(h:gB sc N df m x i=true):JG G n sc N df m (.one i) (.Name x pos):=by
 obtain⟨j,e1,e2,e3,e4,e5⟩:=gB.of h;exact K9 j i e4 e5 e1 e2 e3
def Te{x:Str}{i:Nat}{l:List Nat}{xs:List Expr}(h:gB sc N df m x i=true)(hs:tT G n sc N df m l xs):tT G n sc N df m (i :: l) (.Name x pos :: xs):=by
 obtain⟨j,e1,e2,e3,e4,e5⟩:=gB.of h;exact DL j i e4 e5 hs e1 e2 e3
def Rx{i:Nat}{x:Str}{pos':Pos}(h:gB sc N df m x i=true)(ha:JE G n sc N df m a xa)(hs:∀env:Env,swapsWith xa (some (.Name x pos')) pos.line env=pure false:=by intro _;rfl):JS G n sc N df m (.set i a) (.Assign [.Name x pos'] xa pos):=by
 obtain⟨j,e1,e2,e3,e4,e5⟩:=gB.of h;exact Lb j i e4 e5 ha hs e1 e2 e3
noncomputable def nq (sc:Scope) (x:Str):Bool:=sc.names.lookup x==some .globalImplicit&&!(x==("__debug__" : Str))
def P7{f:Nat}{i:FI}{es:Es}{x:Str}{e0:Expr}{xs:List Expr}{p:Pos}(h:nq sc x=true)(hf:G.fi[f]?=some i)(hx:i.name=x)(hs:JA G n sc N df m es (e0 :: xs))
  (hst:∀env:Env,starEach (e0 :: xs) env=(false,eval e0 env) :: starEach xs env:=by intro _;rfl) (hpl:∀env:Env,(backTo pos (starEach xs env)).any (·.1)=false:=by intro _;rfl) :
  JE G n sc N df m (.cl f es) (.Call (.Name x p) (e0 :: xs) [] pos):=by
 subst hx;unfold nq at h;simp only[gQ,VD]at h;exact Ox hf hs (by simpa using h.1) h.2 hst hpl
noncomputable def Tf:Expr->List Str
 |.Name x _=>[x]
 |.Tuple xs _ _=>xs.filterMap λy=>match y with|.Name x _=>some x|_=>none
 |_=>[]
noncomputable def P8(N:List Str)(m:List Nat)(scope:Scope):List (Str×Nat):=(N.zip m).filter λp=>scope.names.contains (p.1,NameKind.free)
noncomputable def cN(N:List Str)(m:List Nat)(scope:Scope)(tg:Expr):List Str:=Tf tg++(P8 N m scope).map (·.1)
noncomputable def cM(N:List Str)(m:List Nat)(scope:Scope)(t:T):List Nat:=Ev.slots t++(P8 N m scope).map (·.2)
def OF{elt:E}{t:T}{it:Ev.It}{cond:Eo}{tg xi xe:Expr}{ifs:List Expr}{scope:Scope}(hn:qF sc N m scope t (cN N m scope tg) (cM N m scope t)=true)(hs:FJ sc scope=true)
  (hi:JI G n sc N df m it tg xi) (hg:JG G n (cV sc scope) (cN N m scope tg) false (cM N m scope t) t tg) (hc:JC G n (cV sc scope) (cN N m scope tg) false (cM N m scope t) cond ifs)
  (he:JE G n (cV sc scope) (cN N m scope tg) false (cM N m scope t) elt xe) (hf:∀(env:Env) x,foldedSetIterable xi env x=pure x:=by intro _ _;rfl):JE G n sc N df m (.comp elt t it cond) (.ListComp xe [⟨tg,xi,ifs,0⟩] scope pos):=
 Ic hi hg hc he (namesOk.of hn) (jP.of hs) hf
def Ry{rest:List Expr}(ha:JT G n sc N df m a xa)(hb:JW G n sc N df m b (.BoolOp .Or (xb :: rest) pos)):JT G n sc N df m (.orr a b) (.BoolOp .Or (xa :: xb :: rest) pos):=Rt (Bx ha hb)
noncomputable def allB(G:Tb)(n:Nat):List (Ss×Stmt×List Str)->Prop
 |[]=>True
 |p :: r=>nh G n (aA p.2.1) p.2.2 true (List.range p.2.2.length) p.1 (b7 p.2.1)/\allB G n r
theorem allB.get:∀{l:List (Ss×Stmt×List Str)}{k:Nat}{p:Ss×Stmt×List Str},allB G n l->l[k]?=some p->nh G n (aA p.2.1) p.2.2 true (List.range p.2.2.length) p.1 (b7 p.2.1)
 |[],_,_,_,e=>nomatch e
 |_ :: _,0,_,h,e=>by cases e;exact h.1
 |_ :: r,k+1,p,h,e=>allB.get (l:=r) (k:=k) h.2 (by simpa using e)
end
end Sm
namespace Sm
open PySem PySem.Spec PyProof.Rows L2 PySem.SeqAt
open Ev (D O Hh Fr R aB E Es Eo T S Ss Fl Src aQ aK TY BI ME)
def yD(i:Int):Str.ofString (toString i)=au (Ev.dw i):=by
 rw[Str.ofString_eq_byList];rfl
def ug{i:Int}(h:-1000000<i/\i<1000000):i.natAbs.log2<1920:=by
 refine Nat.lt_of_not_le λz=>?_;have h0:i.natAbs≠0:=λe=>by rw[e]at z;exact absurd z (by decide)
 have h1:2 ^ 1920<=i.natAbs:=Uc (XN (by decide) z) (Nat.log2_self_le h0);have h2:2 ^ 20<=(2:Nat) ^ 1920:=XN (by decide) (by decide);have h3:i.natAbs<2 ^ 20:=by omega
 exact absurd (Uc h2 h1) (Nat.not_le.mpr h3)
def Ir {X:Cx}:fM X (.type "str") (tR X.K (Ev.dM .fK)):=by
 intro pins s σ H xs us Q I r q;obtain⟨rr,h,as,d,h',hr,v1,e,q⟩:=q
 match as,e with
 |[.int i],e=>
  delta Ev.dM at e;dsimp only at e
  split at e
  .rename_i k;cases e;simp only[aF,RV]at v1;obtain⟨v,w,rfl,rfl,rfl⟩:=v1;obtain⟨u,rfl,r1⟩:=WT r;obtain⟨t,rfl⟩:=r1;refine PySem.P.str_of_int (ug k) ⟨.str (au (Ev.dw i)),H,I.tok _,⟨_,Vd (λz=>Value.str z _) (yD i)⟩,q.here ⟨rfl,?_⟩ hr⟩;have:=int_text_fits (ug k);rw[yD,aO]at this;exact this
  .cases e
 |[.str l],e=>
  cases e;simp only[aF,RV]at v1;obtain⟨v,w,rfl,⟨rfl,hl⟩,rfl⟩:=v1;obtain⟨u,rfl,r1⟩:=WT r;obtain⟨t,rfl⟩:=r1;exact PySem.P.str_of_str ⟨.str (au l),H,I,⟨_,rfl⟩,q.here ⟨rfl,hl⟩ hr⟩
def yE:((List.range 10).all λa=>intText? (au [a+48])==some (a:Int))=true/\((List.range 10).all λa=>(List.range 10).all λb=>intText? (au [a+48,b+48])==some (10*(a:Int)+b))=true:=by
 constructor<;>decide +kernel
def vO{a:Nat}(h:Ev.pQ a=true):∃k,k∈List.range 10/\a=k+48:=by
 simp only[Ev.pQ,gQ,VC]at h;exact⟨a - 48,by simp;omega,by omega⟩
def LG{l:List Nat}{i:Int}(e:Ev.kq l=some i):intText? (au l)=some i/\l.length<=640:=by
 match l,e with
 |[a],e=>
  simp only[Ev.kq]at e;split at e
  .rename_i h;obtain⟨k,k1,rfl⟩:=vO h;have:=List.all_eq_true.mp yE.1 k k1;cases e;exact⟨by rw[beq_iff_eq.mp this];congr 1;omega,by simp⟩
  .cases e
 |[a,b],e=>
  simp only[Ev.kq,gQ]at e;split at e
  .rename_i h;obtain⟨k,k1,rfl⟩:=vO h.1;obtain⟨j,j1,rfl⟩:=vO h.2;have:=List.all_eq_true.mp (List.all_eq_true.mp yE.2 k k1) j j1;cases e;exact⟨by rw[beq_iff_eq.mp this];congr 1;omega,by simp⟩
  .cases e
def Iu {X:Cx}:fM X (.type "int") (tR X.K (Ev.dM .lD)):=by
 intro pins s σ H xs us Q I r q;obtain⟨rr,h,as,d,h',hr,v1,e,q⟩:=q
 match as,e with
 |[.str l],e=>
  delta Ev.dM at e;dsimp only at e
  obtain⟨e2,y0⟩:=Ev.aC e;subst y0;obtain⟨i,e3,rfl⟩:=Option.map_eq_some_iff.mp e2;obtain⟨n1,n2⟩:=LG e3;simp only[aF,RV]at v1;obtain⟨v,w,rfl,⟨rfl,hl⟩,rfl⟩:=v1;obtain⟨u,rfl,r1⟩:=WT r;obtain⟨t,rfl⟩:=r1;exact PySem.W.KIN.call_text n1 (by rw[aO];exact n2) ⟨.int i,H,I.tok _,⟨_,rfl⟩,q.here rfl hr⟩
noncomputable def iR(c:Nat):Nat->List Nat->List Nat
 |_,[]=>[]
 |k,x :: l=>if x=c then k :: iR c (k+1) l else iR c (k+1) l
def sub_one(a:List Nat)(c i:Nat):Builtin.Str.subAt (au a) (au [c]) i=decide ((a.drop i).take 1=[c]):=by
 unfold Builtin.Str.subAt;have e:(au a).cps.extract i (i+(au [c]).length)=((a.drop i).take 1).toArray:=by
  rw[aO];show a.toArray.extract _ _=_;rw[WL]
  congr 1
  rw[List.extract_eq_drop_take]
  congr 1;simp
 rw[e];show(((a.drop i).take 1).toArray==[c].toArray)=_;by_cases q:(a.drop i).take 1=[c]
 .simp[q]
 .rw[Up q];exact beq_eq_false_iff_ne.mpr λz=>q (by simpa using z)
theorem vP(a:List Nat)(c:Nat):∀(l:List Nat) (k:Nat) (acc:Array Nat) (free:Nat),a.drop k=l->k+l.length=a.length->acc.size<=k->free<=k->
  (forIn (List.range' k (l.length+1)) (acc,free) (StrLaws.occBody (au a) (au [c]) a.length (a.length+1))).run.fst.toList=acc.toList++iR c k l
 |[],k,acc,free,hd,hk,hs,hf=>by
  simp only[VS,Xb,Yw,VT,List.forIn_nil];unfold StrLaws.occBody;rw[SA (λz=>by have:=z.1.2;rw[aO]at this;simp at this hk;omega)];simp[iR]
 |x :: l,k,acc,free,hd,hk,hs,hf=>by
  rw[Vg]at hk;rw[Vg,Yp,VT];have hd2:a.drop (k+1)=l:=by rw[<-WQ,hd];rfl
  unfold StrLaws.occBody;have hsub:Builtin.Str.subAt (au a) (au [c]) k=decide (x=c):=by rw[sub_one,hd];simp
  by_cases hx:x=c
  .rw[b8 ⟨⟨⟨by simp;omega,by simpa using hf⟩,by rw[aO];simp;omega⟩,by rw[hsub];simpa using hx⟩];have ih:=vP a c l (k+1) (acc.push k) (k+(au [c]).length) hd2 (by omega) (by simp;omega) (by rw[aO];simp);unfold StrLaws.occBody at ih;simp only[iR,b8 hx];refine Wi ?_ (ih.trans (by simp));rfl
  .rw[SA (λz=>by have:=z.2;rw[hsub]at this;exact hx (by simpa using this))];have ih:=vP a c l (k+1) acc free hd2 (by omega) (by omega) (by omega);unfold StrLaws.occBody at ih;simp only[iR,SA hx];exact Wi rfl ih
def r8(a:List Nat)(c:Nat):Builtin.Str.occurrences (au a) (au [c]) 0 (au a).length ((au a).length+1)=iR c 0 a:=by
 rw[StrLaws.occ_eq,aO];have:=vP a c a 0 #[] 0 rfl (by simp) (by simp) (by simp);simpa using this
def jR(a:List Nat)(i j:Nat):Builtin.Str.strSub (au a) i j=au ((a.drop i).take (j - i)):=by
 unfold Builtin.Str.strSub;show(⟨a.toArray.extract i j⟩:Str)=_;rw[WL,List.extract_eq_drop_take];rfl
theorem pZ(a:List Nat)(c:Nat):∀(l cur:List Nat) (s k:Nat),a.drop s=cur++l->k=s+cur.length->k+l.length=a.length->
  ((s :: (iR c k l).map (· + 1)).zip (iR c k l++[a.length])).map (λp=>Builtin.Str.strSub (au a) p.1 p.2)=((cur++(Ev.aD c l).headD []) :: (Ev.aD c l).tail).map au
 |[],cur,s,k,hd,hk,hl=>by
  have e:(a.drop s).take (a.length - s)=cur:=by rw[hd,VE,VR (by simp at hl;omega)]
  simp[iR,Ev.aD,jR,e]
 |x :: l,cur,s,k,hd,hk,hl=>by
  rw[Vg]at hl;have hd2:a.drop (k+1)=l:=by
   have h1:a.drop (s+(cur.length+1))=l:=by
    rw[<-WQ,hd,show cur++x :: l=(cur++[x])++l by simp,List.drop_left' (by simp)]
   rw[<-h1,hk];rfl
  by_cases hx:x=c
  .have ih:=pZ a c l [] (k+1) (k+1) hd2 (by simp) (by omega);simp only[iR,b8 hx,wX,VO,Yc];rw[jR,hd,show k - s=cur.length by omega,List.take_left' rfl];refine(Vd _ ih).trans ?_;simp only[Ev.aD,b8 hx,List.headD_cons,VE,List.tail_cons,V6,wX]
   congr 1
   cases h:Ev.aD c l with
   |nil=>exact absurd h (by cases l<;>simp only[Ev.aD] <;> (try split) <;> (try split)<;>simp)
   |cons p ps=>simp
  .have ih:=pZ a c l (cur++[x]) s (k+1) (by rw[hd];simp) (by simp;omega) (by omega);simp only[iR,SA hx];rw[ih];simp only[Ev.aD,SA hx];cases h:Ev.aD c l with
   |nil=>exact absurd h (by cases l<;>simp only[Ev.aD] <;> (try split) <;> (try split)<;>simp)
   |cons p ps=>simp
def vQ(c:Nat)(l:List Nat):∃p ps,Ev.aD c l=p :: ps:=by
 cases h:Ev.aD c l with
 |nil=>exact absurd h (by cases l<;>simp only[Ev.aD] <;> (try split) <;> (try split)<;>simp)
 |cons p ps=>exact⟨p,ps,rfl⟩
def qa(a:List Nat)(c:Nat):Builtin.Str.partsBetween (au a) (iR c 0 a) (au [c]).length=(Ev.aD c a).map au:=by
 have:=pZ a c a [] 0 0 (by simp) (by simp) (by simp);obtain⟨p,ps,e⟩:=vQ c a;rw[e]at this ⊢;unfold Builtin.Str.partsBetween;rw[aO,aO];exact this.trans (by simp)
theorem Xk(c:Nat):∀(a:List Nat),∀p∈Ev.aD c a,p.length<=a.length
 |[],p,h=>by simp[Ev.aD]at h;simp[h]
 |x :: a,p,h=>by
  simp only[Ev.aD]at h;split at h
  .rcases List.mem_cons.mp h with rfl|h
   .simp
   .exact Uc (Xk c a p h) (by simp)
  .split at h
   .rename_i q ps e;rcases List.mem_cons.mp h with rfl|h
    .have:=Xk c a q (by rw[e];simp);simp;omega
    .exact Uc (Xk c a p (by rw[e];simp[h])) (by simp)
   .simp at h;simp[h]
noncomputable def D3(a:D)(as:List D)(h:Hh):R D:=match as with
 |[b]=>(R.of (Ev.vg a b) h).bind λl h1=>Ev.alloc l h1
 |_=>.bad
theorem yF:∀(l:List (List Nat)) (k:Nat),Vals (l.map λp=>V.str (au p)) (strsFrom k (l.map au))
 |[],_=>.nil
 |_ :: l,k=>.cons ⟨_,rfl⟩ (yF l (k+1))
theorem aF.D4{K:PySem.W.Frag}{H:Hp}{r:List Addr}:∀{ss:List (List Nat)},(∀l∈ss,l.length<=sizeLine)->aF K H r (ss.map D.str) (ss.map λl=>V.str (au l))
 |[],_=>.nil
 |l :: ss,h=>.cons ⟨rfl,h l (by simp)⟩ (aF.D4 λx hx=>h x (by simp[hx]))
def yG{x y:D}{l:List D}(e:Ev.vg x y=some l):∃a c,x=.str a/\y=.str [c]/\c<128/\l=(Ev.aD c a).map .str:=by
 unfold Ev.vg at e;split at e
 .split at e
  .rename_i hc;cases e;exact⟨_,_,rfl,rfl,hc,rfl⟩
  .cases e
 .cases e
def D5 {X:Cx}:qv X "str.split" (tS X.K D3):=by
 intro pins s σ H x xs v us Q I rx rs q;obtain⟨r,h,a,as,d,h',hr,v1,v2,e,q⟩:=q
 match as,e with
 |[b],e=>
  simp only[D3]at e;obtain⟨l,h1,e1,e9⟩:=Ev.ah e;obtain⟨e2,y0⟩:=Ev.aC e1;subst y0;obtain⟨a,c,rfl,rfl,hc,rfl⟩:=yG e2;simp only[RV]at v1;obtain⟨rfl,hl⟩:=v1;obtain⟨t,rfl⟩:=rx;simp only[aF,RV]at v2;obtain⟨y,w,rfl,⟨rfl,hl2⟩,rfl⟩:=v2;obtain⟨u,rfl,ru⟩:=WT rs;obtain⟨t2,rfl⟩:=ru;obtain⟨hz2,q2⟩:=q.lst e9 (aF.D4 λp hp=>Uc (Xk c a p hp) hl) hr;have fin:∀(its:List Value) (k:Nat),Vals ((Ev.aD c a).map λp=>V.str (au p)) its->EP X pins σ Q (.ref s.heap.objs.size) { s with toks:=k,heap:=s.heap.push { cls:=.type "list",data:=.seq its.toArray }}:=λits k hv=>
   ⟨.ref s.heap.objs.size,_,I.laid (t':=k) (o:=.lst ((Ev.aD c a).map λp=>V.str (au p))) (λb ob q=>AQ _ q) (Qq _) ⟨hz2,its,_,hv,Vl _ rfl⟩,rfl,q2 _ (I.hok.fresh (Qq _))⟩
  have hy:((au [c]).length==0)=false:=by rw[aO];rfl
  have one:Ev.aD c a=[a]->Vals ((Ev.aD c a).map λp=>V.str (au p)) [Value.str (au a) t]:=λz=>by rw[z];exact .cons ⟨_,rfl⟩ .nil
  cases c1:(decide ((au a).length<(au [c]).length) ||decide (Builtin.Str.strKind (au a)<Builtin.Str.strKind (au [c])))
  .cases c2:(Builtin.Str.occurrences (au a) (au [c]) 0 (au a).length ((au a).length+1)).isEmpty
   .refine VP WD (Wn _ _ _) W4 (WX _ _) (meets_str_split_sep _ _ _ _ c1 hy c2 (by rw[aO];exact hl) ?_) ?_
    .rw[r8,qa,Vm];simpa using hz2
    .have hv:=yF (Ev.aD c a) s.toks;rw[r8,qa];exact fin _ _ hv
   .refine VP WD (Wn _ _ _) W4 (WX _ _) (meets_str_split_not_found _ _ _ _ c1 hy c2) (fin _ s.toks (one ?_));rw[r8]at c2;have e2:=qa a c;rw[List.isEmpty_iff.mp c2]at e2;unfold Builtin.Str.partsBetween at e2;simp only[Wj,V6,Yc,List.zip_nil_left,wX,jR,aO,Wq,X4,List.take_length]at e2;obtain⟨p,ps,e3⟩:=vQ c a;rw[e3]at e2 ⊢;simp only[wX,Wg]at e2;obtain⟨e4,e5⟩:=e2;rw[<-jA e4,List.map_eq_nil_iff.mp e5.symm]
  .refine VP WD (Wn _ _ _) W4 (WX _ _) (meets_str_split_cannot_occur _ _ _ _ c1) (fin _ s.toks (one ?_));have k1:Builtin.Str.strKind (au [c])=1:=by unfold Builtin.Str.strKind;rw[b8 (by simp[au];omega)]
   have k2:1<=Builtin.Str.strKind (au a):=by unfold Builtin.Str.strKind;split <;> (try split)<;>decide
   rw[k1,Up (p:=Builtin.Str.strKind (au a)<1) (by omega),Bool.or_false,aO,aO]at c1;have:a=[]:=by simpa using c1
   rw[this];rfl
section
variable{G:Tb}{n:Nat}{sc:Scope}{N:List Str}{df:Bool}{m:List Nat}{a b c:E}{xa xb:Expr}{pos:Pos}
def D6{apos:Pos}(ha:JE G n sc N df m a xa)(hs:JA G n sc N df m (.cons b .nil) [xb])
  (hbase:∀env:Env,attributeBase xa "split" env (eval xa env)=eval xa env:=by intro _;rfl)
  (hfew:∀env:Env,((backTo pos (starEach [xb] env)).all (λx=>!x.1)&&(backToKw pos (keywordEach [] env)).all (λx=>x.1.isSome)
   &&decide ([xb].length+([]:List Keyword).length+(if ([]:List Keyword).isEmpty then 0 else 1)<30))=true:=by intro _;rfl)
  (hline:(apos.endLine==pos.line)=true:=by rfl) (hst:∀env:Env,starEach [xb] env=(false,eval xb env) :: starEach [] env:=by intro _;rfl) (hpl:∀env:Env,(backTo pos (starEach [] env)).any (·.1)=false:=by intro _;rfl) :
  JE G n sc N df m (.gq (.ju a b)) (.Call (.Attribute xa "split" apos) [xb] [] pos):=λX g=>
 PE.of (Fv (T:="str") (id:="str.split") F.plainAttrs_str WD F.type_str_split D5 (ha X g) (hs X g) (hbase _) (hfew _) hline (hst _) (hpl _)) λs H Q q=>by
  obtain⟨r,fr,h,d,h',sr,hr,e,q⟩:=q;simp only[Ev.ev,Ev.bQ]at e;obtain⟨sx,h3,e1,e9⟩:=Ev.ah e;obtain⟨x,h1,e2,e5⟩:=Ev.ah e1;obtain⟨y,h2,e3,e6⟩:=Ev.ah e5;obtain⟨e7,y0⟩:=Ev.aC e6;subst y0;obtain⟨l,e4,rfl⟩:=Option.map_eq_some_iff.mp e7;obtain⟨t,_,rfl,_⟩:=yG e4;refine⟨r,fr,h,.str t,h1,sr,hr,e2,λv H1 r1 v1 hr1 f1=>⟨?_,?_⟩⟩
  .simp only[RV]at v1;obtain⟨rfl,_⟩:=v1;rfl
  .refine⟨r1,fr,h1,[y],h3,sr.mono f1,hr1,by simp only[Ev.bJ,e3,Ev.aj],λvs H2 r2 v2 hr2 f2=>?_⟩;exact⟨r2,h3,.str t,[y],d,h',hr2,v1.mono f2,v2,by simp only[D3,e4];exact e9,q.later (f1.trans f2)⟩
noncomputable def Us:D->Option Nat
 |.str [c]=>some c
 |_=>none
end
section
variable{a c:E}{pos:Pos}
noncomputable def LH(K:PySem.W.Frag)(j0:List (TE×TE)):TE:=λσ H Q=>∀p,H p=none->K.lookup p=none->qx j0 σ (upd H p (.dK [])) λps H2=>H2 p=some (.dK [])/\∃kvs:List (Key×V),ps=kvs.map (λkv=>(kV kv.1,kv.2))/\kvs.length<=15/\Q (.ref p) (upd H2 p (.dK (kQ [] kvs)))
def D7{X:Cx}{keys:List (Option Expr)}{values:List Expr}{j0:List (TE×TE)}(h:Bv X pos keys values j0)(hall:keys.all (·.isSome)=true)(hl:keys.length=values.length)(h0:keys≠[])
  (P9:keys.length<=15):PE X (.Dict keys values pos) (LH X.K j0):=by
 intro pins s σ H Q I q;have hn:=I.hok.fresh (Qq s.heap.objs.size);have hk:X.K.lookup s.heap.objs.size=none:=by
  cases z:X.K.lookup s.heap.objs.size with
  |none=>rfl
  |some o=>exact absurd (zo (I.dQ _ _ z)) (Vx _)
 have I1:=I.laid (a:=s.heap.objs.size) (o:=.dK []) (h':=s.heap.push { cls:=.type "dict",data:=.dict #[]}) (t':=s.toks) (λ_ _ q=>AQ _ q) (Qq _) (DF s.heap I.big);refine wpAny_Dict_walk (knd:=cT X.prog X.w) hall hl h0 P9 (aW (h pins _ σ _ _ I1 (q _ hn hk)) λws s2 ⟨ps,H2,I2,rel,e,kvs,ep,lk,q2⟩=>?_);subst ep;obtain⟨rs,c,rk⟩:=qy (P:=X.prog) (w:=X.w) rel;obtain⟨z,hd,Ut,r0,dd⟩:=Og I2.hok e;cases r0;refine⟨rs,c,dd,λh' Qa hs=>⟨.ref s.heap.objs.size,_,?_,rfl,q2⟩⟩;have hz:(kQ [] kvs).length<=sizeLine:=by
  have h1:=lY kvs [];rw[VS]at h1;rw[V9];omega
 have he:∃q,h'.get? s.heap.objs.size=some q:=let ⟨q,_,_,hq,_⟩:=Qa;⟨q,hq⟩;exact HH I2 (by rw[e];exact True.intro) hs he (KH hz hd (rk.merge .nil) Qa)
inductive JP:List (D×D)->List (Option Expr)->List Expr->Prop
 |nil:JP [] [] []
 |cons {k v:List Nat} {x y:Str} {i j} {p q:Pos} {kvs:List (D×D)} {ks:List (Option Expr)} {vs:List Expr} (h:JP kvs ks vs) (hx:x=au k:=by decide +kernel) (hy:y=au v:=by decide +kernel):JP ((.str k,.str v) :: kvs) (some (.Constant (.str x) i p) :: ks) (.Constant (.str y) j q :: vs)
noncomputable def qJ:List (D×D)->List (Key×V)
 | (.str k,.str v) :: r=>(Sum.inr (au k),V.str (au v)) :: qJ r
 |_=>[]
def LI{X:Cx}{kvs:List (D×D)}{ks:List (Option Expr)}{vs:List Expr}(h:JP kvs ks vs):∃j0,Bv X pos ks vs j0/\(∀σ H Q,Q ((qJ kvs).map λkv=>(kV kv.1,kv.2)) H->qx j0 σ H Q)/\ks.all (·.isSome)=true/\ks.length=vs.length/\ks.length=kvs.length/\(qJ kvs).length=kvs.length:=by
 induction h with
 |nil=>exact⟨[],HL,λ_ _ _ h=>h,rfl,rfl,rfl,rfl⟩
 |cons _ hx hy ih=>
  obtain⟨j0,h1,h2,h3,h4,h5,h6⟩:=ih;subst hx;subst hy;exact⟨_,DG qq qq h1,λσ H Q h=>h2 σ H _ h,by simp[h3],by simp[h4],by simp[h5],by simp[qJ,h6]⟩
end
def HR.jt{K:PySem.W.Frag}{H:Hp}{r:List Addr}{h:Hh}{p:Addr}{kvs:List (List Nat×List Nat)}(hr:HR K H r h)(hp:H p=none)(h0:kvs≠[])(hl:∀q∈kvs,q.2.length<=sizeLine):HR K (upd H p (.dK (kB kvs))) (r++[p]) (h++[.dm kvs]) where
 len:=by simp[hr.len]
 ob:=λn ob e=>by
  by_cases hn:n<h.length
  .rw[wW hn]at e;obtain⟨a,e1,z⟩:=hr.ob n ob e;exact⟨a,(Fm.laid (K:=K) (o:=.dK (kB kvs)) hp).pre n a e1,z.mono (Fm.laid hp) (λ_ vs _ z=>by rw[aV (bq z hp)];exact z) (λ_ _ z=>by rw[aV (bq z hp)];exact z)
    (λ_ _ z _=>by rw[aV (bq z hp)];exact z)⟩
  .have e2:=(List.getElem?_eq_some_iff.mp e).1;simp only[Ve,VB]at e2;have e3:n=h.length:=by omega
   subst e3;simp at e;subst e;exact⟨p,by rw[<-hr.len];simp,cJ,h0,hl⟩
 inj:=λn m a x y e1 e2 e3 e4=>by
  have out:∀(k:Nat) z,(h++[O.dm kvs])[k]?=some (.lst z)->(r++[p])[k]?=some a->r[k]?=some a/\h[k]?=some (.lst z):=λk z q1 q2=>by
   by_cases hk:k<h.length
   .rw[wW hk]at q1;rw[wW (by rw[hr.len];exact hk)]at q2;exact⟨q2,q1⟩
   .have e5:=(List.getElem?_eq_some_iff.mp q1).1;simp only[Ve,VB]at e5;have e6:k=h.length:=by omega
    subst e6;simp at q1
  exact hr.inj n m a x y (out n x e3 e1).1 (out m y e4 e2).1 (out n x e3 e1).2 (out m y e4 e2).2
abbrev yH(kvs:List (List Nat×List Nat)):List (D×D):=kvs.map λp=>(.str p.1,.str p.2)
theorem BY:∀kvs:List (List Nat×List Nat),qJ (yH kvs)=kB kvs
 |[]=>rfl
 |p :: kvs=>by simp only[yH,wX,qJ,kB];exact Vd _ (BY kvs)
def LJ(kvs:List (List Nat×List Nat))(k:List Nat):jg (kB kvs) (Sum.inr (au k):Key)=(Ev.rQ kvs k).map λs=>V.str (au s):=by
 unfold jg Ev.rQ kB;induction kvs with
 |nil=>rfl
 |cons p kvs ih=>
  simp only[wX,VU];by_cases h:p.1=k
  .simp[h]
  .rw[Up h,Up (λz=>h (jA (Sum.inr.inj z)))];exact ih
section
variable{G:Tb}{n:Nat}{sc:Scope}{N:List Str}{df:Bool}{m:List Nat}{a b:E}{xa xb:Expr}{pos:Pos}
def LK{kvs:List (List Nat×List Nat)}{keys:List (Option Expr)}{vals:List Expr}(hj:JP (yH kvs) keys vals)(h0:keys≠[]:=by exact λh=>nomatch h)(P9:kvs.length<=15:=by decide)(hl:(kvs.all λp=>decide (p.2.length<=1000))=true:=by decide)
  (Tg:kQ [] (qJ (yH kvs))=qJ (yH kvs):=by decide +kernel):JE G n sc N df m (.jt kvs) (.Dict keys vals pos):=λX g=>by
 obtain⟨j0,p1,p2,p3,p4,p5,p6⟩:=LI (X:=X) (pos:=pos) hj;rw[Vm]at p5;refine PE.of (D7 p1 p3 p4 h0 (by omega)) λs H Q q=>?_;obtain⟨r,fr,h,d,h',sr,hr,e,q⟩:=q;simp only[Ev.ev]at e;split at e
 .cases e
 .rename_i hne;cases e;intro p hp hpk;refine p2 _ _ _ ⟨cJ,qJ (yH kvs),rfl,by rw[p6,Vm];omega,?_⟩;rw[Hf,Tg,BY];exact q _ _ (r++[p]) ⟨p,rfl,by rw[<-hr.len];simp⟩ (hr.jt hp hne λz hz=>Uc (by simpa using List.all_eq_true.mp hl z hz) (by rw[V9];decide)) (Fm.laid hp)
def Iv{h:Hh}{x y d:D}(e:Ev.vf x y h=some d):∃n kvs k s,x=.ref n/\h[n]?=some (.dm kvs)/\y=.str k/\Ev.rQ kvs k=some s/\d=.str s:=by
 unfold Ev.vf at e;split at e
 .split at e
  .rename_i z;obtain⟨s,e1,rfl⟩:=Option.map_eq_some_iff.mp e;exact⟨_,_,_,s,rfl,z,rfl,e1,rfl⟩
  .cases e
 .cases e
def LL(ha:JE G n sc N df m a xa)(hb:JE G n sc N df m b xb)(hs:DE xb:=by intro _ _;rfl):JE G n sc N df m (.jK a b) (.Subscript xa xb pos):=λX g=>PE.of (HK (Of g.room) (ha X g) (hb X g) hs) λs H Q q=>by
 obtain⟨r,fr,h,d,h',sr,hr,e,q⟩:=q;simp only[Ev.ev]at e;obtain⟨x,h1,e1,e9⟩:=Ev.ah e;obtain⟨y,h2,e2,e8⟩:=Ev.ah e9;obtain⟨e7,y0⟩:=Ev.aC e8;subst y0;refine⟨r,fr,h,x,h1,sr,hr,e1,λv H1 r1 v1 hr1 f1=>?_⟩;refine⟨r1,fr,h1,y,_,sr.mono f1,hr1,e2,λu H2 r2 v2 hr2 f2=>?_⟩;obtain⟨i,kvs,k,w,rfl,z,rfl,ew,rfl⟩:=Iv e7;obtain⟨p,z1,z2,_,z3⟩:=hr2.dm z;obtain⟨p',rfl,z4⟩:=v1.mono f2;rw[z1]at z4;cases z4;simp only[RV]at v2;obtain⟨rfl,_⟩:=v2;have hw:∃q0∈kvs,q0.2=w:=by
  unfold Ev.rQ at ew;obtain⟨q0,e3,rfl⟩:=Option.map_eq_some_iff.mp ew;exact⟨q0,List.mem_of_find?_eq_some e3,rfl⟩
 obtain⟨q0,Th,rfl⟩:=hw;refine⟨p,.str (au q0.2),rfl,?_,q _ H2 r2 ⟨rfl,z3 q0 Th⟩ hr2 (f1.trans f2)⟩;have:=rP.k (k:=Sum.inr (au k)) z2;rw[LJ,ew]at this;exact this
end
section
variable{G:Tb}{n:Nat}{sc:Scope}{N:List Str}{df:Bool}{m:List Nat}{a b c:E}{xa:Expr}{pos:Pos}
noncomputable def Ak:List (D×D)->Option (List (List Nat))
 |[]=>some []
 | (.str k,.str _) :: r=>(Ak r).map λl=>k :: l
 |_=>none
theorem vR{t:List Nat}:∀{kvs:List (D×D)}{ks:List (List Nat)},Ak kvs=some ks->(PySem.Spec.lookup (.str (au t)) (tabOf kvs)).isSome=ks.contains t
 |[],ks,e=>by cases e;rfl
 | (.str k,.str v) :: l,ks,e=>by
  simp only[Ak]at e;obtain⟨l',e3,rfl⟩:=Option.map_eq_some_iff.mp e;simp only[tabOf,PySem.Spec.lookup];rw[WU,WW];by_cases h:k=t
  .subst h;simp
  .have h2:¬ au k=au t:=λz=>h (by simpa using jA z);rw[Up h2,show(t==k)=false from by simp;exact λz=>h z.symm];exact vR e3
theorem yI{h:Hh}{t:List Nat}:∀(ks:List (List Nat)),Ev.mem h (.str t) (ks.map D.str)=some (ks.contains t)
 |[]=>rfl
 |k :: ks=>by
  have e:Ev.gr h Ev.deep (.str k) (.str t)=some (decide (k=t)):=by
   show some (k==t)=_;by_cases q:k=t<;>simp[q]
  simp only[wX,Ev.mem,e,yI ks,WW];by_cases q:k=t
  .subst q;simp
  .have:(t==k)=false:=by simp;exact λz=>q z.symm
   simp[q,this]
def LM {x:Str}{kvs:List (D×D)}{ks:List (List Nat)}{p:Pos}(hm:(x,kvs)∈G.dk) (ha:JE G n sc N df m a xa) (hk:Ak kvs=some ks:=by decide +kernel) (hg:sc.names.lookup x=some .globalImplicit:=by rfl) (hd:(x==("__debug__" : Str))=false:=by decide) :
    JT G n sc N df m (.cmp .di (.bin .add a (.c (.str []))) (.c (.tup (ks.map D.str)))) (.Compare xa [.NotIn] [.Name x p] pos):=λX g=>by
  obtain⟨ad,hmg,htab⟩:=g.dk x kvs hm;have pc:PC X .NotIn xa (.Name x p) (λσ H Q=>tJ X.K m (Ev.run G.F G.w n) a σ H λy H1=>∃t,y=.str (au t)/\Q (.bl (!ks.contains t)) H1):=by
    intro pins s σ H Q I h;refine aW (ha X g pins s σ H _ I h) λiv s1 ⟨y,H1,I1,ry,t,ey,q1⟩=>aW (oF (v:=.ref ad) (pos:=p) (g.gl hg) hmg rfl hd pins s1 σ H1 (λv H2=>v=.ref ad/\Q (.bl (!ks.contains t)) H2) I1 ⟨rfl,q1⟩) λu s2 ⟨z,H2,I2,rz,ez,q2⟩=>?_;subst ey;subst ez;obtain rfl:u=Value.ref ad:=rz;obtain⟨tk,rfl⟩:=ry;refine notin_strTab (htab s2.heap I2.dQ) ?_;rw[vR hk];exact⟨.bl _,H2,I2.tok _,rfl,q2⟩
  refine PT.of (J7 pc) λs H Q q=>?_;obtain⟨r,fr,h,k,h',sr,hr,e,q⟩:=q;simp only[Ev.aG,Ev.ev]at e;obtain⟨d,h1,e1,e9⟩:=Ev.ah e;obtain⟨y,h2,e2,e3⟩:=Ev.ah e1;simp only[Ev.aj]at e3;obtain⟨e4,y0⟩:=Ev.aC e3;obtain⟨e5,y1⟩:=Ev.aC e9;subst y0;subst y1;obtain⟨b,e6,rfl⟩:=Option.map_eq_some_iff.mp e4;simp only[Ev.truthy,Yh]at e5;subst e5;have e7:(Ev.isin y (.tup (ks.map D.str)) h').map (!·)=some b:=e6;obtain⟨b',e8,rfl⟩:=Option.map_eq_some_iff.mp e7;have e8:Ev.mem h' y (ks.map D.str)=some b':=e8;obtain⟨x0,h3,BP,yJ⟩:=Ev.ah e2;simp only[Ev.aj]at yJ;have hy:∃t,x0=.str t/\y=.str t/\h'=h3:=by
    cases x0<;>simp only[Ev.bY]at yJ
    all_goals first
      |cases yJ
      | (split at yJ
         . cases yJ;exact⟨_,rfl,by simp,rfl⟩
         . cases yJ)
  obtain⟨t,rfl,rfl,rfl⟩:=hy;rw[yI]at e8;cases e8;refine⟨r,fr,h,.str t,_,sr,hr,BP,λv H1 r1 v1 hr1 f1=>?_⟩;simp only[RV]at v1;exact⟨t,v1.1,_,rfl,q _ _ hr1 f1⟩
end
end Sm
namespace Sm
open PySem PySem.Spec PyProof.Rows L2
open Ev (D O Hh Fr R aB E Es Eo It T S Ss Fl Src aQ aK TY BI ME)
def BZ(a y:List Nat)(i:Nat):Builtin.Str.subAt (au a) (au y) i=decide ((a.drop i).take y.length=y):=by
 unfold Builtin.Str.subAt;have e:(au a).cps.extract i (i+(au y).length)=((a.drop i).take y.length).toArray:=by
  rw[aO];show a.toArray.extract _ _=_;rw[WL]
  congr 1
  rw[List.extract_eq_drop_take]
  congr 1;simp
 rw[e];show(((a.drop i).take y.length).toArray==y.toArray)=_;by_cases q:(a.drop i).take y.length=y
 .rw[q];simp
 .rw[Up q];exact beq_eq_false_iff_ne.mpr λz=>q (by simpa using z)
theorem vS(x y:Str)(hi:Nat):∀(l:List Nat) (acc:Array Nat) (free:Nat),1<=acc.size->(forIn l (acc,free) (StrLaws.occBody x y hi 1)).run.fst=acc
 |[],acc,free,_=>rfl
 |i :: l,acc,free,h=>by
  rw[VT];have ih:=vS x y hi l acc free h;unfold StrLaws.occBody at ih ⊢;rw[SA (λz=>by have:=z.1.1.1;simp at this;rw[this]at h;simp at h)];exact Wi rfl ih
theorem yK(a y:List Nat):∀(l:List Nat) (k:Nat) (free:Nat),a.drop k=l->k+l.length=a.length->free<=k->
  (forIn (List.range' k (l.length+1)) ((#[]:Array Nat),free) (StrLaws.occBody (au a) (au y) a.length 1)).run.fst.toList=(Ev.findS y k l).toList
 |[],k,free,hd,hk,hf=>by
  simp only[VS,Xb,Yw,VT,List.forIn_nil];unfold StrLaws.occBody;by_cases hy:y=[]
  .subst hy;rw[b8 ⟨⟨⟨by simp,by simpa using hf⟩,by rw[aO];simp at hk ⊢;omega⟩,by rw[BZ];simp⟩];simp[Ev.findS]
  .have:0<y.length:=List.length_pos_iff.mpr hy;rw[SA (λz=>by have:=z.1.2;rw[aO]at this;simp at this hk;omega)];simp[Ev.findS,hy]
 |x :: l,k,free,hd,hk,hf=>by
  rw[Vg]at hk;rw[Vg,Yp,VT];have hd2:a.drop (k+1)=l:=by rw[<-WQ,hd];rfl
  have hsub:Builtin.Str.subAt (au a) (au y) k=decide ((x :: l).take y.length=y):=by rw[BZ,hd]
  by_cases hx:(x :: l).take y.length=y
  .have hlen:y.length<=l.length+1:=by have:=Vd List.length hx;simp at this;omega
   have full:=vS (au a) (au y) a.length (List.range' (k+1) (l.length+1)) ((#[]:Array Nat).push k) (k+(au y).length) (by simp);unfold StrLaws.occBody at full ⊢;rw[b8 ⟨⟨⟨by simp,by simpa using hf⟩,by rw[aO];first|omega | (simp;omega)⟩,by rw[hsub];simpa using hx⟩];simp only[Ev.findS,b8 hx];refine Wi (Vd Array.toList (Wi rfl full)) ?_;simp
  .have ih:=yK a y l (k+1) free hd2 (by omega) (by omega);unfold StrLaws.occBody at ih ⊢;rw[SA (λz=>by have:=z.2;rw[hsub]at this;exact hx (by simpa using this))];simp only[Ev.findS,SA hx];exact Wi rfl ih
def Rz(a y:List Nat):Builtin.Str.occurrences (au a) (au y) 0 (au a).length 1=(Ev.findS y 0 a).toList:=by
 rw[StrLaws.occ_eq,aO];have:=yK a y a 0 0 rfl (by simp) (by simp);simpa using this
def Iw {X:Cx}:qv X "str.partition" (tS X.K (Ev.cI .part)):=by
 intro pins s σ H x xs v us Q I rx rs q;obtain⟨r,h,a,as,d,h',hr,v1,v2,e,q⟩:=q;cases a with
 |str a=>
  match as,e with
  |[.str b],e=>
   delta Ev.cI at e;dsimp only at e
   split at e
   .cases e
   rename_i hb;cases e;simp only[RV]at v1;obtain⟨rfl,hl⟩:=v1;obtain⟨t,rfl⟩:=rx;simp only[aF,RV]at v2;obtain⟨y,w,rfl,⟨rfl,hl2⟩,rfl⟩:=v2;obtain⟨u,rfl,ru⟩:=WT rs;obtain⟨t2,rfl⟩:=ru;have ho:=Rz a b;have hy:((au b).length==0)=false:=by rw[aO];cases b with|nil=>exact absurd rfl hb|cons _ _=>rfl
   refine Xd F.slot_str_partition (Wn _ _ _) F.entry_str_partition ?_ (F.args_str_partition_2 _ _);show wpAny _ _ (if ((au b).length==0)=true then _ else _) _ _ s;rw[hy,SA Vw];have hlen:∀p∈Ev.eH a b,p.length<=sizeLine:=λp hp=>by
    unfold Ev.eH at hp;split at hp
    .simp only[VW,Yq,or_false]at hp;rcases hp with rfl|rfl|rfl
     .rw[Vz];omega
     .exact hl2
     .rw[VN];omega
    .simp only[VW,Yq,or_false]at hp;rcases hp with rfl|rfl|rfl
     .exact hl
     .exact VQ _
     .exact VQ _
   have fin:∀(its:List Value) (k:Nat),Vals ((Ev.eH a b).map λp=>V.str (au p)) its->EP X pins σ Q (.ref s.heap.objs.size) { s with toks:=k,heap:=s.heap.push { cls:=.type "tuple",data:=.seq its.toArray }}:=λits k hv=>
    ⟨.ref s.heap.objs.size,_,I.laid (t':=k) (o:=.tup ((Ev.eH a b).map λp=>V.str (au p))) (λb ob q=>AQ _ q) (Qq _) ⟨by rw[Vm];unfold Ev.eH;split <;> (show 3<=sizeLine;decide),its,hv,⟨_,Vl _ rfl,rfl,_,rfl⟩⟩,rfl,q.tup (aF.D4 hlen) hr (I.hok.fresh (Qq _))⟩
   show wpAny _ _ (match Builtin.Str.occurrences (au a) (au b) 0 (au a).length 1 with|i :: _=>_|[]=>_) _ _ s;rw[ho];cases hf:Ev.findS b 0 a with
   |none=>
    have ep:Ev.eH a b=[a,[],[]]:=by unfold Ev.eH;rw[hf]
    rw[ep]at fin;show wpAny _ _ (do rule "str.partition.not-found";let empty <-mkStr Str.empty;ret (<-newTuple [.str (au a) t,empty,empty])) _ _ s;refine bP (wpAny_rule (bP (wpAny_mkStr (bP (wpAny_newTuple (EZ ⟨_,rfl,fin _ _ (.cons ⟨_,rfl⟩ (.cons ⟨_,rfl⟩ (.cons ⟨_,rfl⟩ .nil)))⟩) (by show 3<=sizeLine;decide))) (by show 0<=sizeLine;decide))))
   |some i=>
    have ep:Ev.eH a b=[a.take i,b,a.drop (i+b.length)]:=by unfold Ev.eH;rw[hf]
    rw[ep]at fin hlen;have e1:Builtin.Str.strSub (au a) 0 i=au (a.take i):=by rw[jR];simp
    have e2:Builtin.Str.strSub (au a) (i+(au b).length) (au a).length=au (a.drop (i+b.length)):=by rw[jR,aO,aO,VR (by rw[VN];omega)]
    show wpAny _ _ (do ret (<-newTuple [<-mkStr (Builtin.Str.strSub (au a) 0 i),.str (au b) t2,<-mkStr (Builtin.Str.strSub (au a) (i+(au b).length) (au a).length)])) _ _ s;rw[e1,e2];refine bP (wpAny_mkStr (bP (wpAny_mkStr (bP (wpAny_newTuple (EZ ⟨_,rfl,fin _ _ (.cons ⟨_,rfl⟩ (.cons ⟨_,rfl⟩ (.cons ⟨_,rfl⟩ .nil)))⟩) (by show 3<=sizeLine;decide))) (by rw[aO];exact hlen _ (by simp)))) (by rw[aO];exact hlen _ (by simp)))
 |_=>cases e
end Sm
namespace Sm
open PySem PySem.Spec PyProof.Rows
end Sm
namespace Sm
open PySem PySem.Spec PyProof.Rows L2
end Sm
namespace Sm
open PySem PySem.Spec PyProof.Rows L2 PySem.SeqAt
open Ev (D O Hh Fr R aB E Es Eo T S Ss Fl Src aQ aK TY BI ME)
end Sm
namespace Sm
open PySem PySem.Spec PyProof.Rows L2 PySem.W
noncomputable def XI(h:Heap)(x C:Addr):Prop:=∃ox:Obj,h.get? x=some ox/\ox.cls=.ref C/\∃vs,ox.data=.fields vs
structure XC(K:PySem.W.Frag)(C:Addr):Prop where
 ob:∃nm q N bs bm hdct sn sub ab col dd k0 k1 k2 k3 k5 newId,K.lookup C=some (excClassObj nm q C N bs bm hdct sn sub ab col dd k0 k1 k2 k3 k5 newId)/\∀h:Heap,K.In h->OwnTailQ h [.type "ValueError",.type "Exception",.type "BaseException",.type "object"] bm
 ga:findIn K (.ref C) "__getattribute__" = some (some (.builtin "BaseException.__getattribute__"))
 gh:findIn K (.ref C) "__getattr__" = some none
 cl:findIn K (.ref C) "__class__" = some (some (.builtin "object.__class__"))
 so:subIn K (.ref C) (.type "object")=some true
 me:kitCls K (.ref C) (.ref C)=some true
section
variable{prog:Program}{w:World}{A:Around}{E:Value->Shared->Prop}{s:Shared}{K:PySem.W.Frag}{x C:Addr}
def oQ{M:Model}{h:Heap}(i:XI h x C):Looks M h (typeOf (.ref x)) (.ref C):=λA Q E s k q=>by
 obtain⟨ox,h1,h2,_⟩:=i;exact wpAny_typeOf_ref (k _ _ h1) (by rw[h2];exact q)
def LN {R:Result->Shared->Prop}{tp:Value}(cO:K.In s.heap) (i:XI s.heap x C) (so:subIn K (.ref C) (.type "object")=some true) (h:R (.ok (.ret (.ref C))) s) :
  codeAny (model prog w) A (.call (.builtin "getset_descriptor.__get__") ⟨[.builtin "object.__class__",.ref x,tp],[]⟩) R s:=by
 refine codeAny_call_builtin (by decide +kernel) KF.entry_gs (KF.slot_gs.check _ _ _ _ _ _ _ _ XU (KF.args_gs _ _ _) ?_);unfold Builtin.«getset_descriptor.__get__» Builtin.Getset_descriptor.descrGet;rw[dga_obj];show wpAny _ _ (do Builtin.Getset_descriptor.descrCheckInstance (.builtin "object.__class__") (.ref x);again _) _ _ _;refine bP ?_;unfold Builtin.Getset_descriptor.descrCheckInstance;have e1:Builtin.Getset_descriptor.descrNameAndClass (.builtin "object.__class__")=pure (("__class__" : Str),Value.type "object"):=by kernel_rfl
 rw[e1];show wpAny _ _ (do let b <-isInstance (.ref x) (.type "object");_) _ _ _;refine bP ?_;unfold isInstance;refine bP (oQ i _ _ _ _ (λ_ _ e=>e) ?_);refine looks_subIn cO so _ _ _ _ (λ_ _ e=>e) ?_;refine EZ ?_;refine EZ ⟨by kernel_rfl,?_⟩;refine codeAny_builtin KF.entry_class ?_;show wpAny _ _ (do let t <-shownTypeOf (.ref x);ret t) _ _ _;refine bP ?_;unfold shownTypeOf;refine bP (oQ i _ _ _ _ (λ_ _ e=>e) ?_);refine EZ ?_;exact EZ h
def Iz {M:Model}{h:Heap}(cO:K.In h) (cl:findIn K (.ref C) "__class__" = some (some (.builtin "object.__class__"))):Looks M h (Builtin.ObjectAttr.find (.ref x) (.ref C) "__class__") (.bind (.builtin "getset_descriptor.__get__") (.builtin "object.__class__")):=λA Q E s k q=>by
 unfold Builtin.ObjectAttr.find;refine bP (Xa cO cl _ _ _ _ k ?_);refine bP ?_;show wpAny _ _ (specialOf _ _) _ _ _;unfold specialOf;rw[XU];show wpAny _ _ (typeLookup (.type "getset_descriptor") _) _ _ _;refine Xa cO (K:=K) (t:=.type "getset_descriptor") (r:=some (.builtin "getset_descriptor.__get__")) (by kernel_rfl) _ _ _ _ k ?_;refine bP ?_;show wpAny _ _ (do let b <-Builtin.ObjectAttr.takesStores _;_) _ _ _;refine bP ?_;unfold Builtin.ObjectAttr.takesStores;refine bP ?_;unfold specialOf;rw[XU];show wpAny _ _ (typeLookup (.type "getset_descriptor") _) _ _ _;refine Xa cO (K:=K) (t:=.type "getset_descriptor") (r:=some (.builtin "getset_descriptor.__set__")) (by kernel_rfl) _ _ _ _ k ?_;refine EZ ?_;refine EZ ?_;exact bP (wpAny_rule (EZ q))
def D8 {Q:Option Value->Shared->Prop}(c:XC K C) (cO:K.In s.heap) (i:XI s.heap x C) (h:Q (some (.ref C)) { s with toks:=s.toks+1 }):wpAny (model prog w) A (getAttr? (.ref x) "__class__") Q E s:=by
 obtain⟨⟨nm,q,N,bs,bm,hdct,sn,sub,ab,col,dd,k0,k1,k2,k3,k5,newId,lk,ht⟩,ga,gh,cl,so,me⟩:=c;obtain⟨ox,i1,i2,_⟩:=id i;unfold getAttr?;refine bP (wpAny_mkText ?_);unfold getAttrBy?;refine bP (wpAny_attempt ?_);unfold getAttrBy;refine Wz (bP (oQ i _ _ _ _ (λ_ _ e=>e) ?_));refine bP (Xa cO ga _ _ _ _ (λ_ _ e=>e) ?_);show wpAny _ _ (getAttrByItsOwn _ _ _ _ _ _) _ _ _;unfold getAttrByItsOwn;refine bP (looks_hook cO (mc:=.ref C) (r:=none) gh _ _ _ _ (λ_ _ e=>e) ?_);refine bP (wpAny_attempt (Wz ?_));show wpAny _ _ (boundAndCalled _ _ _) _ _ _;unfold boundAndCalled;rw[PySem.F.attrBase_ValueError.ga.bind];show wpAny _ _ (call (.builtin "BaseException.__getattribute__") [.ref x,.str "__class__" s.toks]) _ _ _;refine W6 (codeAny_call_builtin (by decide +kernel) PySem.F.entry_bexc_ga (wpAny_check_ga_own PySem.F.attrBase_ValueError (cO _ _ lk) (ht _ cO) i1 i2 ?_));unfold Builtin.«object.__getattribute__»;have e1:slotArgs "__getattribute__" 1 ⟨[.ref x,.str "__class__" s.toks],[]⟩=pure (Value.ref x,[Value.str "__class__" s.toks]):=rfl;rw[e1];show wpAny _ _ (do let tp <-typeOf (.ref x);_) _ _ _;refine bP (oQ i _ _ _ _ (λ_ _ e=>e) ?_);refine bP (Iz cO cl _ _ _ _ (λ_ _ e=>e) ?_);show wpAny _ _ (do let r <-holding _ (call _ _);ret r) _ _ _;refine bP (Wz (W6 (LN cO i so ?_)));refine EZ ?_;refine EZ ?_;exact EZ h
def LO(c:XC K C):KitX K (.ref x) (.ref C) (λh=>XI h x C):=by
 refine⟨λM h cO i=>oQ i,λM h cO _=>(kit_cls cO c.me).2.1,λh tp dd its n sl cO e=>?_,λ{prog w A E Q s} cO i hq=>D8 c cO i hq⟩;by_cases z:C=tp
 .subst z;obtain⟨nm,q,N,bs,bm,hdct,sn,sub,ab,col,dd,k0,k1,k2,k3,k5,newId,lk,ht⟩:=c.ob;have:=cO _ _ lk;rw[e]at this;have z:=Vd Obj.cls (lz this);injection z with z
  exact absurd z (by decide)
 .simpa using z
def LP(c:XC K C){D:Value}{b:Bool}(cO:K.In s.heap)(i:XI s.heap x C)(e:kitOne K (.ref C) D=some b){Q:Value->Shared->Prop}(h:∀tk,Q (.bool b) { s with toks:=tk }) :
  wpAny (model prog w) A (call (.builtin "isinstance") [.ref x,D]) Q E s:=kia_one (LO c) cO i e (λz=>nomatch z) h
end
noncomputable def B3(l:List Env)(H':Hp)(h g B:Heap):Prop:=∀b o,g.get? b=some o->((H' b).isSome=true\/(h.get? b).isSome=true)->b∉frs l->B.get? b=some o
structure gu(P:Program)(w:World)(l:List Env)(H:Hp)(s:Shared)(a C:Addr)(H':Hp)(s':Shared):Prop where
 os:s'.os=s.os
 bare:AllBare s'.gens
 un:Un (frs l) [] H H' s.heap s'.heap
 hok:dG P w H' s'.heap
 fl:∃B a0,Heap.FlyingW B l a (.ref C) a0 s'.heap/\B3 l H' s.heap s'.heap B
noncomputable def pC(P:Program)(w:World):kO:=λouter H s E e s'=>∃a C H',e=.ref a/\gu P w outer H s a C H' s'/\E (.ref C) none H'
def B4{P:Program}{w:World}{H:Hp}{h:Heap}{a:Addr}{o:HO}(x:b6 P w H h a o):∃ob,h.get? a=some ob:=by
 cases o with
 |lst xs=>obtain⟨_,_,_,_,e⟩:=x;exact⟨_,e⟩
 |tup xs=>obtain⟨_,_,_,ob,e,_⟩:=x;exact⟨_,e⟩
 |dK kvs=>obtain⟨_,_,_,_,o,_,_,e,_⟩:=x;exact⟨_,e⟩
 |dT kvs=>obtain⟨_,_,_,_,o,_,_,e,_⟩:=x;exact⟨_,e⟩
 |set S n=>obtain⟨o,_,_,_,e,_⟩:=x;exact⟨_,e⟩
 |ins C dx fs=>obtain⟨_,_,_,e,_⟩:=x;exact⟨_,e⟩
 |own y=>obtain⟨_,e⟩:=x;exact⟨_,e⟩
 |xd fs=>obtain⟨_,⟨_,_,_,e,_⟩,_⟩:=x;exact⟨_,e⟩
 |eW lo hi=>obtain⟨_,_,_,e⟩:=x;exact⟨_,e⟩
 |bE ob u=>obtain⟨e,_⟩:=x;exact⟨_,e⟩
 |sZ ps=>exact⟨_,(show h.get? a=some _ from x)⟩
 |met f y=>exact⟨_,(show h.get? a=some _ from x)⟩
 |ext φ=>obtain⟨_,e,_⟩:=x;exact e
def jS{P:Program}{w:World}{l:List Env}{H H':Hp}{h g g2 B:Heap}(u:Un (frs l) [] H H' h g)(hok:dG P w H' g)(jT:B3 l H' h g B)(st:Heap.StaysIn B g2)(up:∀b∈frs l,∀o,g.get? b=some o->∃sl,g2.get? b=some { o with slots:=sl })(hb:∀b∈frs l,H' b=none) :
  Un (frs l) [] H H' h g2/\dG P w H' g2/\B3 l H' h g2 B:=by
 have same:∀b o,g.get? b=some o->((H' b).isSome=true\/(h.get? b).isSome=true)->b∉frs l->g2.get? b=some o:=λb o e z n=>st b o (jT b o e z n);refine⟨⟨λb o e n hf hx=>same b o (u.keep b o e n hf hx) (.inr (by rw[e];rfl)) hf,λb o e n hf hx=>?_,u.free,λb o e hx=>?_,u.tups,u.jF,u.kj⟩,λa o e=>?_,λb o e z n=>?_⟩
 .obtain⟨sl,e1⟩:=u.slot b o e n hf hx;obtain⟨sl2,e2⟩:=up b hf _ e1;exact⟨sl2,e2⟩
 .obtain⟨o',e1⟩:=u.there b o e hx;by_cases hf:b∈frs l
  .obtain⟨sl,e2⟩:=up b hf _ e1;exact⟨_,e2⟩
  .exact⟨o',same b o' e1 (.inr (by rw[e];rfl)) hf⟩
 .refine(hok a o e).stay (λb v z q=>?_) (λ_ q=>q) λ_ _ q=>q;have tr:(H' b).isSome=true:=by
   rcases z with z|z
   .rw[z,e];rfl
   .rw[z];rfl
  exact same b v q (.inl tr) λhf=>by rw[hb b hf]at tr;cases tr
 .have ex:∃o',g.get? b=some o':=by
   rcases z with z|z
   .obtain⟨x,e1⟩:=Option.isSome_iff_exists.mp z;exact B4 (hok b x e1)
   .obtain⟨x,e1⟩:=Option.isSome_iff_exists.mp z;exact u.there b x e1 (by simp)
  obtain⟨o',e1⟩:=ex;have e2:=same b o' e1 z n;rw[e]at e2;cases e2;exact jT b o e1 z n
section
variable{X:Cx}{pins:List (Addr×Obj)}{σ:L2.St}{H H':Hp}{s s':Shared}{a C:Addr}
def lK(I:Inv X pins σ H s)(u:Un (frs X.stack) [] H H' s.heap s'.heap):∀b∈frs X.stack,H' b=none:=λb hb=>by
 obtain⟨_,o,ho,_⟩:=I.stack.mem hb;exact u.free b o ho (I.oA b hb) (by simp)
def uh(hx:X.ex=[])(hs:X.stack=X.env :: X.outer)(I:Inv X pins σ H s){g2:Heap}{B:Heap}{a0:Value}(os:s'.os=s.os)(bare:AllBare s'.gens)(u:Un (frs X.stack) [] H H' s.heap s'.heap)(hok:dG X.prog X.w H' s'.heap)(jT:B3 X.stack H' s.heap s'.heap B)
  (ff:∀b∈frs X.stack,∃o,s'.heap.get? b=some o/\∀vs,o.data≠.fields vs) (fl:Heap.FlyingW B X.outer a (.ref C) a0 g2) (up:Heap.UpToSlots s'.heap g2):gu X.prog X.w X.outer X.H₀ X.s₀ a C H' { s' with heap:=g2 }:=by
 obtain⟨u2,nu,qb⟩:=jS u hok jT fl.1 (λb hb o e=>by
  obtain⟨o',e1,e2⟩:=ff b hb;rw[e]at e1;cases e1;exact up b o e e2) (lK I u)
 have I2:Inv X pins σ H' { s' with heap:=g2 }:=I.oB (s':={ s' with heap:=g2 }) (ch:=[]) os u2 nu bare (λb z=>absurd z (by simp));refine⟨os.trans I.os,bare,by have:=I2.base;rw[hx]at this;exact this,nu,B,a0,fl,λb o e z n=>?_⟩;have hne:b≠X.env.locals:=λy=>by
  rcases z with z|z
  .rw[y,I2.free]at z;cases z
  .obtain⟨x,e1⟩:=Option.isSome_iff_exists.mp z;rw[y]at e1;exact absurd (zo e1) (Nat.not_lt.mpr I.ok.above)
 refine qb b o e (z.imp id λz=>?_) λhb=>?_
 .obtain⟨x,e1⟩:=Option.isSome_iff_exists.mp z;obtain⟨x',e2⟩:=I.base.there b x e1 (by rw[hx];simp);rw[e2];rfl
 .rcases List.mem_cons.mp (I.kK b hb)with y|y
  .exact hne y
  .exact n y
theorem lM:∀{l:List Env}{h base B:Heap},Heap.FunFrames h base l->(∀b∈frs l,B.get? b=none)->Heap.FunFrames h B l
 |[],_,_,_,_,_=>trivial
 |env :: r,h,base,B,hl,n=>by
  obtain⟨hk,⟨L,o,hf,hn,ho,hd⟩,hr⟩:=hl;exact⟨hk,⟨L,o,hf,n L (by unfold frs;rw[Vo,hf];exact Vv),ho,hd⟩,lM hr λb hb=>n b (by unfold frs;rw[Vo,hf];exact Vh _ hb)⟩
def D9{Q:Unit->Shared->Prop}{E:Value->Shared->Prop}(hx:X.ex=[])(hs:X.stack=X.env :: X.outer)(hf:X.env.frame=some X.env.locals)(I:Inv X pins σ H s)(f:gu X.prog X.w X.stack H s a C H' s')(q:∀s'',gu X.prog X.w X.outer X.H₀ X.s₀ a C H' s''->Q () s'') :
  wpAny (model X.prog X.w) X.A (leaving X.env (.ref a)) Q E s':=by
 obtain⟨os,bare,un,hok,B,a0,fl,jT⟩:=f;have ff:∀b∈frs X.stack,∃o,s'.heap.get? b=some o/\∀vs,o.data≠.fields vs:=λb hb=>(fl.2.2.1.mem hb).2;rw[hs]at fl;exact wpAny_leaves_onW (by rw[I.ok.frames,hs]) hf fl λh' vU up=>q _ (uh hx hs I os bare un hok jT ff vU up)
def Am{Q:Unit->Shared->Prop}{E:Value->Shared->Prop}{h1:Heap}{args:List Value}(hx:X.ex=[])(hs:X.stack=X.env :: X.outer)(hf:X.env.frame=some X.env.locals)(I:Inv X pins σ H s)(m:Heap.MadeExcOf s.heap h1 a (.ref C) args)(q:∀s'',gu X.prog X.w X.outer X.H₀ X.s₀ a C H s''->Q () s'') :
  wpAny (model X.prog X.w) X.A (leaving X.env (.ref a)) Q E { s with heap:=h1 }:=by
 have cut:∀b∈frs X.stack,(hideAll s.heap (frs X.stack)).get? b=none:=λb hb=>hideAll_none _ hb;have LQ:=lM (B:=hideAll s.heap (frs X.stack)) I.stack cut;have ff:∀b∈frs X.stack,∃o,s.heap.get? b=some o/\∀vs,o.data≠.fields vs:=λb hb=>(LQ.mem hb).2;refine wpAny_leaves_madeW (base:=hideAll s.heap (frs X.stack)) (h:=s.heap) (by rw[I.ok.frames,hs]) hf (λb o e=>of_hideAll _ e) (by rw[hs]at LQ ⊢;exact LQ) m λh' t vU _ _ up=>q _ ?_;have:=uh (s':=s) hx hs I (g2:=h') rfl I.bare Un.refl I.hok (B:=hideAll s.heap (frs X.stack)) (λb o e _ n=>hideAll_get _ e n) ff vU λb o e hd=>up b o (m.keeps b o e) hd;exact this
def gu.inv(f:gu X.prog X.w X.stack H s a C H' s')(I:Inv X pins σ H s):Inv X pins σ H' s':=I.oB (ch:=[]) f.os f.un f.hok f.bare (λb z=>absurd z (by simp))
def gu.xi{P:Program}{w:World}{l:List Env}(f:gu P w l H s a C H' s'):XI s'.heap a C:=by
 obtain⟨B,a0,fl,_⟩:=f.fl;obtain⟨oe,vs,T,oT,ts,h1,h2,h3,_⟩:=fl.2.2.2;exact⟨oe,h1,h2.1,vs,h3⟩
def gu.new{P:Program}{w:World}{l:List Env}(f:gu P w l H s a C H' s'):a∉frs l/\H' a=none:=by
 obtain⟨oe,h1,h2,vs,h3⟩:=f.xi;obtain⟨B,a0,fl,jT⟩:=f.fl;have n1:a∉frs l:=λhb=>by
  obtain⟨_,o,e1,e2⟩:=fl.2.2.1.mem hb;rw[h1]at e1;cases e1;exact e2 vs h3
 refine⟨n1,?_⟩;cases z:H' a with
 |none=>rfl
 |some x=>
  have:=jT a oe h1 (.inl (by rw[z];rfl)) n1;rw[fl.2.1]at this;cases this
def gu.on{A:Around}{M:Model}{P:Program}{w:World}{l:List Env}{Q:Unit->Shared->Prop}{E:Value->Shared->Prop}(f:gu P w l H s a C H' s')(hb:∀b∈frs l,H' b=none)(q:∀s'',gu P w l H s a C H' s''->Q () s''):wpAny M A (setFlight (.ref a) none) Q E s':=by
 obtain⟨os,bare,un,hok,B,a0,fl,jT⟩:=f;refine lands_againW fl λh2 B5 up=>q _ ?_;obtain⟨u2,nu,qb⟩:=jS un hok jT B5.1 (λb hb o e=>by
  obtain⟨_,o',e1,e2⟩:=fl.2.2.1.mem hb;rw[e]at e1;cases e1;exact up b o e e2) hb
 exact⟨os,bare,u2,nu,B,a0,B5,qb⟩
def An(I:Inv X pins σ H s)(f:gu X.prog X.w X.stack H s a C H' s')(hs:X.stack=X.env :: X.outer)(hf:X.env.frame=some X.env.locals){Q:Unit->Shared->Prop}{E:Value->Shared->Prop}
  (q:∀s'',gu X.prog X.w X.stack H s a C H' s''->Q () s''):wpAny (model X.prog X.w) X.A (noteFrame (.ref a) X.env) (λ_ s₂=>wpAny (model X.prog X.w) X.A (setFlight (.ref a) none) Q E s₂) E s':=by
 obtain⟨os,bare,un,hok,B,a0,fl,jT⟩:=f;have ff:∀b∈frs X.stack,∃o,s'.heap.get? b=some o/\∀vs,o.data≠.fields vs:=λb hb=>(fl.2.2.1.mem hb).2;have fr:=lK I un;rw[hs]at fl;refine wpAny_looks_onW (by rw[I.ok.frames,hs]) hf fl λh1 hl1 up1=>wpAny_landsW hl1 λh2 B5 Ti=>q _ ?_;obtain⟨u2,nu,qb⟩:=jS un hok jT B5.1 (λb hb o e=>by
  obtain⟨o',e1,e2⟩:=ff b hb;rw[e]at e1;cases e1;obtain⟨sl,e3⟩:=up1 b o e e2;obtain⟨sl2,e4⟩:=Ti b _ e3 e2;exact⟨sl2,e4⟩) fr
 exact⟨os,bare,u2,nu,B,a0,by rw[hs];exact B5,qb⟩
end
section
variable{X:Cx}
def LR{e:Expr}{t t':TE}(h:PE X e t)(w:∀s H Q,t' s H Q->t s H Q):PE X e t':=λpins s σ H Q I q=>h pins s σ H Q I (w _ _ _ q)
def IA{a:Addr}{oe:Obj}{C:Addr}{D:V}{Du:Value}{b:Bool}{ed:Expr}{xe:Str}{p p1 pos:Pos}(hp:(a,oe)∈X.pn)(ho:oe.cls=.ref C)(hd:∃vs,oe.data=.fields vs)(c:XC X.K C)(hD:PE X ed (tC D))(rD:∀u,RelV D u->u=Du)(k:kitOne X.K (.ref C) Du=some b)
  (hN:X.N[0]?=some xe) (hv:tu X.env.scope xe) (hg:Gl X "isinstance") (hm:X.mg "isinstance" = none) (hst:∀env:Env,starEach [.Name xe p1,ed] env=(false,eval (.Name xe p1) env) :: starEach [ed] env) (Ac:∀env:Env,starEach [ed] env=(false,eval ed env) :: starEach [] env)
  (Tj:(xe==("__debug__" : Str))=false) (To:(xe==("__classdict__" : Str))=false) :
  PE X (.Call (.Name "isinstance" p) [.Name xe p1,ed] [] pos) (λσ H Q=>σ[0]?=some (some (.ref a))/\Q (.bl b) H):=by
 have hc:fM X (.builtin "isinstance") (λxs H Q=>xs=[.ref a,D]/\Q (.bl b) H):=by
  intro pins s σ H xs us Q I rv q;obtain⟨rfl,q⟩:=q;cases rv with
  |cons r1 rv=>
   cases rv with
   |cons r2 rv=>
    cases rv;cases r1;obtain rfl:=rD _ r2;obtain⟨h1,_⟩:=I.pin (a,oe) (List.mem_append.mpr (.inl hp));exact LP c I.dQ ⟨oe,h1,ho,hd⟩ k λtk=>⟨.bl b,H,I.tok _,rfl,q⟩
 refine LR (pO hc hg hm (by decide +kernel) (er (qp hN hv Tj To) (er hD kN (Ac _)) (hst _)) (by decide) (by decide) (hst _) (by rw[Ac];rfl)) λs H Q q=>?_;exact⟨_,q.1,rfl,q.2⟩
theorem sd:∀{bs:List Bool}{its:List Value},Vals (bs.map V.bl) its->its=bs.map Value.bool
 |[],_,h=>by cases h;rfl
 |b :: bs,_,h=>by
  cases h with
  |cons r h=>cases r;rw[sd h];rfl
noncomputable def Gb:Value->Bool
 |.bool b=>b
 |_=>false
def vV(bs:List Bool):∀y∈(bs.map Value.bool).toArray,MeetsSeq.EqGives y (.bool true) (Gb y):=λy hy=>by
 rw[List.mem_toArray,List.mem_map]at hy;obtain⟨b,_,rfl⟩:=hy;intro prog w A E s Q q;refine SeqAt.EqAt.bool_bool b true prog w E Q ?_;cases b<;>exact q
section
variable{o:Expr}{to:TE}{j:Nat}{ap pos p1:Pos}
def IB (ho:PE X o to) (hbase:attributeBase o "count" X.env (eval o X.env)=eval o X.env:=by rfl) (hline:(ap.endLine==pos.line)=true:=by rfl):PE X (.Call (.Attribute o "count" ap) [.Constant (.bool true) j p1] [] pos) (λσ H Q=>to σ H λx H1=>∃(l:Addr) (bs:List Bool),x=.ref l/\H1 l=some (.lst (bs.map V.bl))/\Q (.int (bs.countP id)) H1):=by
 intro pins s σ H Q I h;refine Wu hbase rfl hline rfl (aW (ho pins s σ H _ I h) λv s1 ⟨x,H1,I1,r1,l,bs,ex,hl,q⟩=>?_);subst ex;cases r1;obtain⟨z,its,n,r,hn,e⟩:=I1.pP hl;obtain rfl:=sd r;refine⟨"list","list.count",V5,PySem.F.slot_list_count,PySem.F.type_list_count,⟨_,e,rfl⟩,λa ha=>by cases ha;exact⟨_,e,rfl⟩,?_⟩;show wpAny _ _ (callWith pos (.builtin "list.count") [.ref l] [(false,eval (.Constant (.bool true) j p1) X.env)] []) _ _ _;refine PySem.P.count_list (Constant_bool ⟨_,n,Gb,e,vV bs,?_⟩);refine⟨.int (bs.countP id),H1,I1.tok _,⟨s1.toks,?_⟩,q⟩;have:List.countP Gb (bs.map Value.bool)=bs.countP id:=by rw[List.countP_map];rfl
 rw[List.toList_toArray,this]
def IC (ho:PE X o to) (hbase:attributeBase o "index" X.env (eval o X.env)=eval o X.env:=by rfl) (hline:(ap.endLine==pos.line)=true:=by rfl):PE X (.Call (.Attribute o "index" ap) [.Constant (.bool true) j p1] [] pos) (λσ H Q=>to σ H λx H1=>∃(l:Addr) (bs:List Bool) (k:Nat),x=.ref l/\H1 l=some (.lst (bs.map V.bl))/\(bs[k]?=some true/\(∀m,m<k->bs[m]?=some false)/\k<1000)/\Q (.int k) H1):=by
 intro pins s σ H Q I h;refine Wu hbase rfl hline rfl (aW (ho pins s σ H _ I h) λv s1 ⟨x,H1,I1,r1,l,bs,k,ex,hl,⟨hk1,hk2,Uu⟩,q⟩=>?_);subst ex;cases r1;obtain⟨z,its,n,r,hn,e⟩:=I1.pP hl;obtain rfl:=sd r;refine⟨"list","list.index",V5,PySem.F.slot_list_index,PySem.F.type_list_index,⟨_,e,rfl⟩,λa ha=>by cases ha;exact⟨_,e,rfl⟩,?_⟩;show wpAny _ _ (callWith pos (.builtin "list.index") [.ref l] [(false,eval (.Constant (.bool true) j p1) X.env)] []) _ _ _;have hlt:=(List.getElem?_eq_some_iff.mp hk1).1;refine PySem.P.index_list (Constant_bool ⟨_,n,Gb,k,by simpa using hlt,e,vV bs,by omega,?_,λm hm h2=>?_,?_⟩)
 .simp only[XQ,Yr];show bs[k]=true;exact(List.getElem?_eq_some_iff.mp hk1).2
 .simp only[XQ,Yr];show bs[m]'(by simpa using hm)=false;exact(List.getElem?_eq_some_iff.mp (hk2 m h2)).2
 .exact⟨.int k,H1,I1.tok _,⟨_,rfl⟩,q⟩
end
def ID{st:List Stmt}{t t':TS}(h:eX X st t)(w:∀D σ H,t' D σ H->t D σ H):eX X st t':=λpins s σ H D I q=>h pins s σ H D I (w _ _ _ q)
structure Gd(K:PySem.W.Frag)(C D0:Addr)(c:Nat):Prop where
 xc:XC K C
 k0:kitOne K (.ref C) (.ref D0)=some true
 kv:kitOne K (.ref C) (.type "ValueError")=some true
 c0:c=0
set_option maxHeartbeats 1000000 in
def B6{a:Addr}{oe:Obj}{C D0:Addr}{c:Nat}{x0:Str}{tb:List Stmt}{p0 p1 p2 p3 p4 p5 p6 p7 p8 p9 Ge Gf Gg Gh Gi Gj Gk Gm B7 Tp Qc Qd Tq Tt Tu Tv Tw:Pos}
  (hp:(a,oe)∈X.pn) (ho:oe.cls=.ref C) (hd:∃vs,oe.data=.fields vs) (k:Gd X.K C D0 c) (g0:Gl X x0) (gi:Gl X "isinstance") (gv:Gl X "ValueError") (m0:X.mg x0=some (.ref D0)) (mi:X.mg "isinstance" = none) (mv:X.mg "ValueError" = none) (Tz:(x0==("__debug__" : Str))=false)
  (hN:X.N=(["_law_e","_law_flags"]:List Str)) (h0:X.env.scope.names.lookup ("_law_e" : Str)=some .local) (h1:X.env.scope.names.lookup ("_law_flags" : Str)=some .local)
  (hl1:(p7.endLine==p8.line)=true) (hl2:(Qc.endLine==Qd.line)=true) :
  eX X [.Assign [.Name "_law_flags" p0] (.List [.Call (.Name "isinstance" p1) [.Name "_law_e" p2,.Name x0 p3] [] p4] p5) p6,
   .If (.BoolOp .Or [.Compare (.Call (.Attribute (.Name "_law_flags" p9) "count" p7) [.Constant (.bool true) 0 Ge] [] p8) [.NotEq] [.Constant (.int 1) 0 Gf] Gg,.UnaryOp .Not (.Call (.Name "isinstance" Gh) [.Name "_law_e" Gi,.Name "ValueError" Gj] [] Gk) Gm] B7) tb [] Tp,
   .Return (some (.Tuple [.Constant (.str "refused") 0 Tq,.Call (.Attribute (.Name "_law_flags" Tt) "index" Qc) [.Constant (.bool true) 0 Tu] [] Qd] 0 Tv)) Tw] (λD σ H=>σ=[some (.ref a),none]/\∀p H',(∀b o,H b=some o->H' b=some o)->H' p=some (.tup [.str "refused",.int c])->D.rt (.ref p) H'):=by
 have v0:tu X.env.scope ("_law_e" : Str):=.inl h0;have v1:tu X.env.scope ("_law_flags" : Str):=.inl h1;have n0:X.N[0]?=some ("_law_e" : Str):=by rw[hN];rfl
 have n1:X.N[1]?=some ("_law_flags" : Str):=by rw[hN];rfl
 have nd:X.N.Nodup:=by rw[hN];decide
 have dY:∀{ed:Expr} {D:V} {Du:Value} {b:Bool} {q0 q1 q2:Pos},PE X ed (tC D)->(∀u,RelV D u->u=Du)->kitOne X.K (.ref C) Du=some b->(∀env:Env,starEach [.Name "_law_e" q1,ed] env=(false,eval (.Name "_law_e" q1) env) :: starEach [ed] env)->(∀env:Env,starEach [ed] env=(false,eval ed env) :: starEach [] env)->
   PE X (.Call (.Name "isinstance" q0) [.Name "_law_e" q1,ed] [] q2) (λσ H Q=>σ[0]?=some (some (.ref a))/\Q (.bl b) H):=λh1 h2 h3 h4 h5=>IA hp ho hd k.xc h1 h2 h3 n0 v0 gi mi h4 h5 (by decide) (by decide)
 have i0:=λ{q0 q1 q2 q3:Pos}=>dY (q0:=q0) (q1:=q1) (q2:=q2) (oF (pos:=q3) g0 m0 (v:=.ref D0) rfl Tz) (λu r=>r) k.k0 (λ_=>rfl) (λ_=>rfl);have iv:=λ{q0 q1 q2 q3:Pos}=>dY (q0:=q0) (q1:=q1) (q2:=q2) (x8 (pos:=q3) gv mv (by decide +kernel) (v:=.ty "ValueError") rfl) (λu r=>r) k.kv (λ_=>rfl) (λ_=>rfl);have Qe:=λ{q:Pos}=>qp (X:=X) (pos:=q) n1 v1;refine ID (jG (uV (i:=1) (pos':=p0) nd n1 (.inl h1) (Bl (er i0 kN)) rfl (.inr h1))
  (jG (zK (PW.pt (Fj (yg N5 (IB Qe rfl hl1) A8 (mU _)) (A9 (Ba (J8 iv))))) Bc x9) (yc (uU (uY (er qq (er (IC Qe rfl hl2) kN))))))) λD σ H q=>?_
 obtain⟨rfl,q⟩:=q;obtain rfl:=k.c0;refine⟨rfl,by show 1<=sizeLine;decide,λl hl=>?_⟩;have keep:∀{H1:Hp} {q:Addr} {x:HO},(∀b o,H b=some o->H1 b=some o)->H1 q=none->∀b o,H b=some o->upd H1 q x b=some o:=λk1 k2 b o e=>by rw[aV (bq (k1 b o e) k2)];exact k1 b o e
 have k1:=keep (x:=.lst [V.bl true]) (λ_ _ e=>e) hl;refine⟨_,rfl,l,[true],rfl,cJ,?_⟩;refine⟨rfl,_,rfl,?_⟩;dsimp only;rw[SA (by decide)];refine⟨rfl,_,rfl,?_⟩;dsimp only;rw[SA (by decide)];refine⟨_,rfl,l,[true],0,rfl,cJ,⟨rfl,λm h=>absurd h (Nat.not_lt_zero _),by decide⟩,?_⟩;exact⟨by show 2<=sizeLine;decide,λt ht=>q t _ (keep k1 ht) cJ⟩
end
section
variable{P:Program}{w:World}{K:PySem.W.Frag}{mg:Str->Option Value}{base:Heap}
noncomputable def Gn(P:Program)(w:World)(K:PySem.W.Frag)(mg:Str->Option Value)(base:Heap)(N:List Str)(qual:Str)(scope:Scope)(f:Addr)(cd:Value)(A:Around)(outer:List Env)(s:Shared)(H:Hp)(a:Addr)(oe:Obj):Cx:=
 { jf jr P w K mg base N qual scope f cd A outer s H E0 with calm:=false,pn:=[(a,oe)],xe:=λ_ _=>False }
def Ea{x qual:Str}{st:Stmt}{f:Addr}{fd:FuncData}{N ps:List Str}{A:Around}{outer:List Env}{s:Shared}{H:Hp}{args:Args}{us:List Value}{vs:List V}{Q:VK}{a:Addr}{oe:Obj}(F:mZ K x qual st f fd)(S:bC N ps (aA st))(dp:A.depth<recursionLimit)
  (e0:rG P w K mg base A outer s H) (hb:BindsTo s fd args (ps.zip us)) (r:Vals vs us) (hl:vs.length=ps.length) (p1:s.heap.get? a=some oe) (p2:H a=none) (p3:a∉frs outer) (p4:∀v,oe.data≠.cell v)
  (hbody:∀(cdv:Value) (X:Cx),X=Gn P w K mg base N qual (aA st) f cdv A outer s H a oe->∃t,eX X (b7 st) t/\t { nx:=λ_ H'=>Q .bf H',rt:=Q } (start N vs) H) :
  codeAny (model P w) A (.call (.ref f) args) (CR jr outer P w H s Q E0) s:=by
 obtain⟨oc,od,kV,doc,pm,an,cdv,ct,osl,rfl,lk,hcd⟩:=F.ex;have KX:K.In s.heap:=e0.mod.cO.keeps λb o e=>(e0.bs b o e).1;have lim:s.heap.NoLimit:=e0.mod.nolimit.keeps λb o e=>(e0.bs b o e).1;have hkind:∀y∈ps.zip us,(aA st).names.lookup y.1=some .local\/((aA st).names.lookup y.1=some .cell/\((cellsFrom (s.heap.objs.size+1) (aA st).names []).lookup y.1).isSome=true):=λ⟨n,v⟩ hy=>by
  rcases S.par n (WH hy).1 with q|q
  .exact .inl q
  .exact .inr ⟨q,Wv _ _ _ (.inl q)⟩
 refine Xz dp (KX _ _ lk) rfl S.co S.gen rfl (X8 KX hcd) (hb _ _ _ _ ?_);refine WZ S.kind hkind λenv he s1 y=>?_;subst he;refine⟨lim.keeps y.toInCall.keep,codeAny_func ?_⟩;obtain⟨t,ht,hq⟩:=hbody cdv _ rfl;have I0:Inv (jf jr P w K mg base N qual (aA st) f cdv { A with handled:=none } outer s H E0) [] (start N vs) H s1:=tL S rfl ⟨e0.frames,e0.mod,e0.bs,e0.mJ,e0.gR,e0.o5,e0.hok,e0.bare⟩ hl r y;have ok:=I0.ok;have I:Inv (Gn P w K mg base N qual (aA st) f cdv A outer s H a oe) [] (start N vs) H s1:=
  ⟨⟨ok.mod,ok.kind,ok.glob,ok.blt,ok.above,ok.inj,ok.has,ok.uT,(λh=>nomatch h),Around.frames_deeper e0.frames,ok.stk,ok.xZ,ok.bs,ok.mJ,ok.pL,ok.mL,ok.gR,ok.o5⟩,I0.os,I0.bare,I0.base,I0.loc,I0.cell,I0.free,I0.gG,
   λp hp=>by
    obtain rfl:p=(a,oe):=by simpa[Gn]using hp
    exact⟨y.toInCall.keep _ _ p1,p2,λz=>by
     have:=zo p1;rw[show a=s.heap.objs.size from z]at this;exact absurd this (Vx _),p3,p4⟩,I0.hok,I0.len⟩
 refine Uo (ht [] s1 (start N vs) H _ I hq) (λfl s' hs=>?_) λe s' hs=>hs.elim;have fin:∀{σ':L2.St} {H':Hp} {v:V} {u:Value},Inv (Gn P w K mg base N qual (aA st) f cdv A outer s H a oe) [] σ' H' s'->RelV v u->Q v H'->CE outer P w H s Q u s':=
  λ{σ' H' v u} J rv q=>⟨v,H',J.os,J.bare,J.base,J.hok,rv,q⟩
 cases fl with
 |ret u=>
  obtain⟨v,σ',H',J,rv,q⟩:=hs;exact fin J rv q
 |next=>
  obtain⟨σ',H',J,q⟩:=hs;exact fin (v:=V.bf) (u:=Value.none) J rfl q
 |brk=>
  obtain⟨_,_,_,q⟩:=hs;exact False.elim q
 |cont=>
  obtain⟨_,_,_,q⟩:=hs;exact False.elim q
end
section
variable{X:Cx}{pins:List (Addr×Obj)}{σ:L2.St}{H H':Hp}{s s':Shared}{a C:Addr}
def B8{M:Model}{A:Around}{E:Value->Shared->Prop}{i:Nat}{x:Str}{v:V}{Q:Unit->Shared->Prop}(I:Inv X pins σ H s)(hN:X.N.Nodup)(hi:X.N[i]?=some x)(hk:X.env.scope.names.lookup x=some .local)(hv:σ[i]?=some (some v))
  (h:∀s',Inv X pins (σ.set i none) H s'->Q () s'):wpAny M A (unbindName X.env x) Q E s:=by
 obtain⟨m,hn,hl⟩:=id I.loc;have hcls:(X.env.scope.kind==.class || (X.env.scope.kind==.module&&X.env.locals != X.env.globals))=false:=by rw[I.ok.kind];rfl
 have mP:=I.mP;obtain⟨u,r,q⟩:=hl i x v hi hv (.inl hk);have hm:m x=some u:=by
  rcases q with ⟨_,e⟩|⟨k,_⟩
  .exact e
  .rcases k with k|k
   .rw[show X.env.kindOf x=X.env.scope.names.lookup x from rfl,hk]at k;cases k
   .rw[show X.env.kindOf x=X.env.scope.names.lookup x from rfl,hk]at k;cases k
 refine wpAny_unbindName_local hk hn hm hcls λh' u' hn' hs=>?_;obtain⟨oL,_,_,PL,_⟩:=id hn;have tracked:dG X.prog X.w H h':=λb ob e=>by
  refine(I.hok b ob e).stay (λc w' hc q=>(hs.2 c ?_).trans q) (λ_ q=>q) λ_ _ q=>q;rintro rfl;rcases hc with rfl|hc
  .rw[I.free]at e;cases e
  .rw[I.free]at hc;cases hc
 refine h _ ⟨I.ok,I.os,I.bare,⟨λb o e n hb hx=>?_,λb o e n hb hx=>?_,I.base.free,λb o e hx=>?_,I.base.tups,I.base.jF,I.base.kj⟩,⟨_,hn',λj y v' e1 e2 e3=>?_⟩,λy c e=>?_,I.free,I.gG,λp hp=>?_,tracked,by simpa using I.len⟩
 .exact(hs.2 b (Vk (eE (zo e) I.ok.above))).trans (I.base.keep b o e n hb hx)
 .obtain⟨sl,e1⟩:=I.base.slot b o e n hb hx;exact⟨sl,(hs.2 b (Vk (eE (zo e) I.ok.above))).trans e1⟩
 .obtain⟨o',e1⟩:=I.base.there b o e hx;exact⟨o',(hs.2 b (Vk (eE (zo e) I.ok.above))).trans e1⟩
 .have zJ:i<σ.length:=by rw[I.len];exact(List.getElem?_eq_some_iff.mp hi).1
  by_cases hj:j=i
  .subst hj;rw[Qs zJ]at e2;cases e2
  .rw[gV (Wd hj)]at e2;obtain⟨u',r',q⟩:=hl j y v' e1 e2 e3;refine⟨u',r',?_⟩;rcases q with ⟨k,e⟩|⟨k,c,e,z⟩
   .refine .inl ⟨k,?_⟩;have:y≠x:=λe=>hj (pM hN e1 (e▸hi));simp[this,e]
   .exact .inr ⟨k,c,e,z.sameBut hs (mP y c e)⟩
 .obtain⟨w',z⟩:=I.cell y c e;exact⟨w',z.sameBut hs (mP y c e)⟩
 .obtain⟨e,n,ne,nf,d⟩:=I.pin p hp;exact⟨(hs.2 p.1 ne).trans e,n,ne,nf,d⟩
structure Eb(K:PySem.W.Frag)(mg:Str->Option Value)(rf:Addr)(rd:FuncData)(um:Stmt)(Wc:Addr)(KC:Addr->Nat->Prop):Prop where
 fn:mZ K "_law_refused" "_law_refused" um rf rd
 sc:bC ["_law_e","_law_flags"] ["_law_e"] (aA um)
 bd:Binds K rd ["_law_e"] []
 mr:mg "_law_refused" = some (.ref rf)
 mw:mg "WayError" = some (.ref Wc)
 body:∀(Y:Cx) (a:Addr) (oe:Obj) (C:Addr) (c:Nat),Y.N=(["_law_e","_law_flags"]:List Str)->Y.env.scope=aA um->Y.K=K->Y.mg=mg->(a,oe)∈Y.pn->oe.cls=.ref C->(∃vs,oe.data=.fields vs)->KC C c->
  eX Y (b7 um) (λD σ H=>σ=[some (.ref a),none]/\∀p H',(∀b o,H b=some o->H' b=some o)->H' p=some (.tup [.str "refused",.int c])->D.rt (.ref p) H')
def LS{rf:Addr}{rd:FuncData}{um:Stmt}{Wc:Addr}{KC:Addr->Nat->Prop}{c i:Nat}{D:Ends}{p1 p2 p3 p4 p5 p6:Pos}{E:Value->Shared->Prop}(R:Eb X.K X.mg rf rd um Wc KC)(k:KC C c)(kw:exmOne X.K (.ref C) (.ref Wc)=some true)
  (hs:X.stack=X.env :: X.outer) (hf:X.env.frame=some X.env.locals) (dp:X.A.depth<recursionLimit) (hN:X.N.Nodup) (hi:X.N[i]?=some ("_law_e" : Str)) (hk:X.env.scope.names.lookup ("_law_e" : Str)=some .local) (g1:Gl X "_law_refused") (g2:Gl X "WayError")
  (I1:Inv X pins σ H s) (f:gu X.prog X.w X.stack H s a C H' s') (q:∀p kT,(∀b o,H' b=some o->kT b=some o)->kT p=some (.tup [.str "refused",.int c])->D.rt (.ref p) kT) :
  wpAny (model X.prog X.w) X.A (noteFrame (.ref a) X.env) (λ_ s₂=>wpAny (model X.prog X.w) X.A (setFlight (.ref a) none) (λ_ s₃=>wpAny (model X.prog X.w) X.A (handleBy (.ref a) X.env [.ExceptHandler (some (.Name "WayError" p1)) (some "_law_e") [.Return (some (.Call (.Name "_law_refused" p2) [.Name "_law_e" p3] [] p4)) p5] p6]) (SP X pins D) E s₃) E s₂) E s':=by
 refine An I1 f hs hf λs2 f2=>?_;have I2:=f2.inv I1;have TF:=f2.un;refine wpAny_handleBy_cons (codeAny_handlers_test ?_) (λz=>nomatch z);refine VY I2.ok.kind g2 (Wt (by rw[I2.ok.glob];exact I2.mod.glob.keeps I2.bk) R.mw ?_) (by decide);refine exm_one I2.dQ (oQ f2.xi) kw _ _ _ _ (λ_ _ e=>e) ?_;show codeAny _ _ (Code.handlers (.ref a) [.ExceptHandler none (some "_law_e") _ p6] X.env) _ s2;refine codeAny_handlers_suite_as ?_;refine f2.on (lK I1 TF) λs3 f3=>?_;have I3:=f3.inv I1;obtain⟨nf,na⟩:=f3.new;obtain⟨oe,x1,x2,vs,x3⟩:=f3.xi;refine tw I3 hN hi (.inl hk) (v:=.ref a) rfl (λs4 I4 ⟨b,TH,hb⟩=>?_) (.inr hk);have hab:a≠b:=λz=>by
  subst z;rcases hb with z|z
  .obtain⟨m,⟨o,es,ep,e1,e2,_⟩,_⟩:=I3.loc;rw[<-z,x1]at e1;cases e1;rw[x3]at e2;cases e2
  .obtain⟨v,o,e1,e2⟩:=I3.cell _ _ z;rw[x1]at e1;cases e1;rw[x3]at e2;cases e2
 have x4:s4.heap.get? a=some oe:=(TH.2 a hab).trans x1;have hσ:(σ.set i (some (V.ref a)))[i]?=some (some (.ref a)):=Qs (by rw[I3.len];exact(List.getElem?_eq_some_iff.mp hi).1);refine WA (W0 (V7 ?_));refine VY I4.ok.kind g1 (Wt (by rw[I4.ok.glob];exact I4.mod.glob.keeps I4.bk) R.mr ?_) (by decide);refine callWith_K (h₀:=X.base) I4.ok.mod.cO R.fn.kp ?_ rfl rfl;show wpAny _ _ (spliced ((false,eval (.Name "_law_e" p3) X.env) :: [])) _ _ _;refine WY ?_;obtain⟨m,hn,hl⟩:=I4.loc;obtain⟨u,r,l⟩:=hl i _ _ hi hσ (.inl hk);cases r;have hm:m "_law_e" = some (.ref a):=by
  rcases l with ⟨_,e⟩|⟨z,_⟩
  .exact e
  .rcases z with z|z<;>rw[show X.env.kindOf "_law_e" = X.env.scope.names.lookup ("_law_e" : Str)from rfl,hk]at z<;>cases z
 refine XH (wpAny_loadName_local I4.ok.kind hk hn hm ?_) (by decide);refine W5 ⟨I4.dQ,?_⟩;have e0:rG X.prog X.w X.K X.mg X.base (X.A.mark (some (.ref a))) X.stack s4 H':=⟨I4.ko.frames,I4.ko.mod,I4.ko.bs,I4.ko.mJ,I4.ko.gR,I4.ko.o5,I4.ko.hok,I4.ko.bare⟩
 refine W6 (WE (Ea (args:=⟨[.ref a],[]⟩) (us:=[.ref a]) (vs:=[.ref a]) (Q:=λv kT=>∃p,v=.ref p/\(∀b o,H' b=some o->kT b=some o)/\kT p=some (.tup [.str "refused",.int c])) R.fn R.sc dp e0 (R.bd s4 [.ref a] I4.dQ rfl) (.cons rfl .nil) rfl x4 na nf (λv=>by rw[x3];exact λz=>nomatch z) λcdv Y hY=>⟨_,R.body Y a oe C c (by rw[hY];rfl) (by rw[hY];rfl) (by rw[hY];rfl) (by rw[hY];rfl) (by rw[hY];exact List.mem_singleton.mpr rfl) x2 ⟨vs,x3⟩ k,rfl,λp kT k1 k2=>⟨p,rfl,k1,k2⟩⟩) λres s5 hq=>?_);cases res with
 |error e=>exact hq.elim
 |ok fl=>
  cases fl with
  |next=>exact hq.elim
  |brk=>exact hq.elim
  |cont=>exact hq.elim
  |ret u5=>
   obtain⟨v,H5,TJ,OG,TL,RA,r5,p,rfl,k1,k2⟩:=hq;have I5:Inv X pins _ H5 s5:=I4.oB (ch:=[]) TJ TL RA OG (λb z=>absurd z (by simp));show wpAny _ _ (do bindName X.env "_law_e" .none;unbindBehindTheSuite X.env "_law_e" p6) _ _ s5;refine bP (wpAny_bindName (pN I5 hN hi (.inl hk) (v:=.bf) rfl (λs6 I6=>?_) (.inr hk)));refine wpAny_onRaise (B8 I6 hN hi hk (v:=.bf) (Qs (by simpa using (List.getElem?_eq_some_iff.mp hσ).1)) λs7 I7=>?_);exact⟨.ref p,_,H5,I7,r5,q p H5 k1 k2⟩
end
end Sm
namespace Sm
open PySem PySem.Spec PyProof.Rows L2
open Ev (D O Hh Fr R aB E Es Eo It T S Ss Fl Src aQ aK TY BI ME)
section
variable{M:Model}{A:Around}{E:Value->Shared->Prop}{s:Shared}
def B9{base:Heap}{env:Env}{outer:List Env}{L e:Addr}{cls a0 y:Value}{Q:Unit->Shared->Prop}(hfr:A.frames=some (env :: outer))(hf:env.frame=some L)(kb:base.StaysIn s.heap)(hen:base.get? e=none)(hl:s.heap.FunFrames base (env :: outer))(ht:s.heap.TracedAtW base e cls a0 y)
  (hQ:∀h',Heap.FlyingW base outer e cls a0 h'->s.heap.UpToSlots h'->Q () { s with heap:=h' }):wpAny M A (leaving env (.ref e)) Q E s:=by
 by_cases hy:y=rawInt L
 .subst hy;unfold leaving;refine bP (wpAny_noteFrame_againW hf ht ?_);exact wpAny_landsW ⟨kb,hen,hl,ht⟩ λh' fl up=>hQ h' ⟨fl.1,fl.2.1,fl.2.2.1.2.2,fl.2.2.2⟩ up
 .obtain⟨oe,vs,T,oT,ts,he,⟨hc,h0⟩,hd,h1,yL,yN,hT,nv,h3⟩:=ht;subst hc;unfold leaving noteFrame;simp only[hf];refine bP (bP (We he hd h1 ?_));rw[b8 (by simp)];refine bP (We hT nv h3 ?_);rw[SA (by simpa using hy)];refine bP (wpAny_setField hT nv (Array.getElem?_eq_some_iff.mp h3).1 ?_);have ot:∀b,b≠T->(s.heap.update T (Obj.mapFields (·.setIfInBounds 3 Value.none))).get? b=s.heap.get? b:=λb hb=>Wy _ _ (Wd hb);have nr:∀b o,s.heap.get? b=some o->(∀vs,o.data≠.fields vs)->b≠T:=λb o hb hnf q=>by
   rw[q,hT]at hb;cases hb;exact hnf ts nv
  refine wpAny_newEntryW hfr (hl.of_keeps λb o hb hnf=>⟨o,(ot b (nr b o hb hnf)).trans hb,rfl⟩) hf ((ot e (Wd yN)).trans he) (λb o vW=>(ot b λq=>by rw[q,yL]at vW;cases vW).trans (kb b o vW)) hen hd (Array.getElem?_eq_some_iff.mp h1).1 h0 λh' hL=>?_;obtain⟨k1,⟨_,_,k2⟩,k3,k4⟩:=hL;exact hQ h' ⟨k1,hen,k2,k3⟩ λb o hb hnf=>k4 b o ((ot b (nr b o hb hnf)).trans hb) hnf
def Ec{base:Heap}{l:List Env}{e:Addr}{cls a0 f:Value}{what:String}{cenv:Env}{E':Value->Shared->Prop}(kb:base.StaysIn s.heap)(hl:s.heap.FunFrames base l)(ht:s.heap.TracedAtW base e cls a0 f)
  (hQ:∀h' y,base.StaysIn h'->h'.FunFrames base l->h'.TracedAtW base e cls a0 y->s.heap.UpToSlots h'->E' (.ref e) { s with heap:=h' }):wpAny M A (PySem.passOn what (.ref e) cenv:Sem Value) (λ_ _=>False) E' s:=by
 obtain⟨oe,vs,T,oT,ts,he,hc,hd,h1,yL,yN,hT,nv,h3⟩:=ht;have z3:3<ts.size:=(Array.getElem?_eq_some_iff.mp h3).1;unfold PySem.passOn;refine bP (We he hd h1 ?_);rw[SA (by simp)];unfold setFlight;refine bP (bP (We he hd h1 ?_));rw[b8 (by simp)];generalize (cenv.frame.elim Value.none λf=>rawInt f)=y
 have ot:∀b,b≠T->(s.heap.update T (Obj.mapFields (·.setIfInBounds 3 y))).get? b=s.heap.get? b:=λb hb=>Wy _ _ (Wd hb);have nr:∀b o,s.heap.get? b=some o->(∀vs,o.data≠.fields vs)->b≠T:=λb o hb hnf q=>by
  rw[q,hT]at hb;cases hb;exact hnf ts nv
 refine wpAny_setField hT nv z3 (wpAny_throw (hQ _ y (λb o vW=>(ot b λq=>by rw[q,yL]at vW;cases vW).trans (kb b o vW)) (hl.of_keeps λb o hb hnf=>⟨o,(ot b (nr b o hb hnf)).trans hb,rfl⟩) ?_ λb o hb hnf=>⟨o.slots,(ot b (nr b o hb hnf)).trans hb⟩));exact⟨oe,vs,T,_,_,(ot e (Wd yN)).trans he,hc,hd,h1,yL,yN,Heap.get?_update_self _ hT (Obj.isFreed_of_fields (Obj.data_mapFields nv _)),Obj.data_mapFields nv _,by simp[z3]⟩
end
section
variable{X:Cx}{pins:List (Addr×Obj)}{σ:L2.St}{H H':Hp}{s s':Shared}{a C K:Addr}
def Ca{M:Model}{A:Around}{E:Value->Shared->Prop}{Q:Unit->Shared->Prop}{e:Value}{env env':Env}(h:env'.frame=env.frame)(w:wpAny M A (noteFrame e env) Q E s):wpAny M A (noteFrame e env') Q E s:=by
 unfold noteFrame PySem.frameOf at w ⊢;rw[h];exact w
def Cb{Ex:XK}{E:Value->Shared->Prop}{E1:Value->Shared->Prop}{sf:Env}(hx:X.ex=[])(hs:X.stack=X.env :: X.outer)(hf:X.env.frame=some X.env.locals)(hC:sf.frame=X.env.frame)(I:Inv X pins σ H s)(f:gu X.prog X.w X.stack H s a C H' s')(q:Ex (.ref C) none H')
  (fp:fq X pins H' K) (hK:∃m,s.heap.Ns K m) (LU:H K=none) :
  wpAny (model X.prog X.w) X.A (noteFrame (.ref a) sf) (λ_ s2=>(∃m,s2.heap.Ns K m)/\∀h'',Heap.SameBut K s2.heap h''->∀cenv:Env,cenv.locals=K->wpAny (model X.prog X.w) X.A (PySem.passOn "comprehension.variables-let-go" (.ref a) cenv:Sem Value) (λ_ _=>False)
   (λe s3=>wpAny (model X.prog X.w) X.A (leaving X.env e) (λ_ s4=>pC X.prog X.w X.outer X.H₀ X.s₀ Ex e s4) E1 s3) { s2 with heap:=h'' }) E s':=by
 obtain⟨os,bare,un,hok,B,a0,fl,jT⟩:=f;have ff:∀b∈frs X.stack,∃o,s'.heap.get? b=some o/\∀vs,o.data≠.fields vs:=λb hb=>(fl.2.2.1.mem hb).2;have Gp:K∉frs X.stack:=λz=>by
  rcases List.mem_cons.mp (I.kK K z)with y|y
  .exact fp.2.1 y
  .exact fp.2.2.1 y
 obtain⟨mK,oK,eK,LV,gK,rK⟩:=hK;have TM:s'.heap.get? K=some oK:=un.keep K oK gK LU Gp (by simp);have bK:B.get? K=some oK:=jT K oK TM (.inr (by rw[gK];rfl)) Gp;refine Ca hC ?_;have gA:=fl;rw[hs]at gA;refine wpAny_looks_onW (by rw[I.ok.frames,hs]) hf gA λh2 hd up=>?_;obtain⟨u2,nu,qb⟩:=jS un hok jT hd.1 (λb hb o e=>by
  obtain⟨o',e1,e2⟩:=ff b hb;rw[e]at e1;cases e1;exact up b o e e2) (lK I un)
 have I2:Inv X pins σ H' { s' with heap:=h2 }:=I.oB (s':={ s' with heap:=h2 }) (ch:=[]) os u2 nu bare (λb z=>absurd z (by simp));refine⟨⟨mK,oK,eK,LV,hd.1 K oK bK,rK⟩,λh'' sb cenv hc=>?_⟩;have I3:Inv X pins σ H' { s' with heap:=h'' }:=BR I2 fp sb;have hb1:∀b o,(PySem.W.hideAll B [K]).get? b=some o->b≠K/\B.get? b=some o:=λb o e=>by
  refine⟨λz=>?_,X6 _ e⟩;rw[z,XM [K] (by simp)]at e;cases e
 have st3:Heap.StaysIn (PySem.W.hideAll B [K]) h'':=λb o e=>by
  obtain⟨n1,e1⟩:=hb1 b o e;exact(sb.2 b n1).trans (hd.1 b o e1)
 have nb:∀b,B.get? b=none->(PySem.W.hideAll B [K]).get? b=none:=λb e=>by
  cases z:(PySem.W.hideAll B [K]).get? b with
  |none=>rfl
  |some o=>rw[(hb1 b o z).2]at e;cases e
 have Qf:Heap.FunFrames h'' (PySem.W.hideAll B [K]) X.stack:=by
  have k1:=lM (B:=PySem.W.hideAll B [K]) (by rw[hs];exact hd.2.2.1:Heap.FunFrames h2 B X.stack) λb hb=>nb b ((by rw[hs];exact hd.2.2.1:Heap.FunFrames h2 B X.stack).mem hb).1;have gen:∀{l:List Env},(∀b∈frs l,b≠K)->Heap.FunFrames h2 (PySem.W.hideAll B [K]) l->Heap.FunFrames h'' (PySem.W.hideAll B [K]) l:=λ{l}=>by
   induction l with
   |nil=>intro _ _;trivial
   |cons env r ih=>
    intro hn ⟨hk,⟨L,o,hf,hnb,ho,By⟩,hr⟩;refine⟨hk,⟨L,o,hf,hnb,(sb.2 L (hn L (by unfold frs;rw[Vo,hf];exact Vv))).trans ho,By⟩,ih (λb hb=>hn b (by unfold frs;rw[Vo,hf];exact Vh _ hb)) hr⟩
  exact gen (λb hb z=>Gp (z▸hb)) k1
 have TN:Heap.TracedAtW h'' (PySem.W.hideAll B [K]) a (.ref C) a0 (rawInt X.env.locals):=by
  obtain⟨oe,vs,T,oT,ts,he,hcc,By,h1,yL,yN,hT,nv,h3⟩:=hd.2.2.2;have Qg:h2.get? K=some oK:=hd.1 K oK bK;have nf:∀vs,oK.data≠.fields vs:=λvs z=>by rw[rK.1]at z;cases z
  have na:a≠K:=λz=>by rw[z,Qg]at he;cases he;exact nf _ By
  have nT:T≠K:=λz=>by rw[z,Qg]at hT;cases hT;exact nf _ nv
  exact⟨oe,vs,T,oT,ts,(sb.2 a na).trans he,hcc,By,h1,nb T yL,yN,(sb.2 T nT).trans hT,nv,h3⟩
 refine Ec (s:={ s' with heap:=h'' }) st3 Qf TN λh3 y k1 k2 k3 TQ=>?_;rw[hs]at k2;refine B9 (s:={ s' with heap:=h3 }) (by rw[I.ok.frames,hs]) hf k1 (nb a hd.2.1) k2 k3 λh4 Qh TR=>?_;have RB:B3 X.outer H' X.s₀.heap h'' (PySem.W.hideAll B [K]):=λb o e z n=>by
  have nK:b≠K:=λy=>by
   rcases z with z|z
   .rw[y,fp.1]at z;cases z
   .obtain⟨x,e1⟩:=Option.isSome_iff_exists.mp z;rw[y]at e1;rcases fp.2.2.2.1 with y|y
    .rw[hx]at y;cases y
    .exact absurd (zo e1) (Nat.not_lt.mpr y)
  have nL:b≠X.env.locals:=λy=>by
   rcases z with z|z
   .rw[y,I3.free]at z;cases z
   .obtain⟨x,e1⟩:=Option.isSome_iff_exists.mp z;rw[y]at e1;exact absurd (zo e1) (Nat.not_lt.mpr I.ok.above)
  have e2:h2.get? b=some o:=(sb.2 b nK).symm.trans e;have:=qb b o e2 (z.imp id λz=>by
   obtain⟨x,e1⟩:=Option.isSome_iff_exists.mp z;obtain⟨x',e2⟩:=I.base.there b x e1 (by rw[hx];simp);rw[e2];rfl) λhb=>by
   rcases List.mem_cons.mp (I.kK b hb)with y|y
   .exact nL y
   .exact n y
  rw[XW _ this (by simpa using nK)]
 have hb0:∀b∈frs X.outer,b∈frs X.stack:=λb hb=>by
  rw[hs];unfold frs;rw[Vo,hf];exact Vh _ hb
 obtain⟨u4,RC,RD⟩:=jS (l:=X.outer) (g:=h'') (by have:=I3.base;rw[hx]at this;exact this) I3.hok RB Qh.1 (λb hb o e=>by
  obtain⟨o',e1,e2⟩:=(Qf.mem (hb0 b hb)).2;rw[e]at e1;cases e1;obtain⟨sl,e3⟩:=TQ b o e e2;obtain⟨sl2,e4⟩:=TR b _ e3 e2;exact⟨sl2,e4⟩) (λb hb=>I3.oA b (hb0 b hb))
 exact⟨a,C,H',rfl,⟨I3.os,bare,u4,RC,PySem.W.hideAll B [K],a0,Qh,RD⟩,q⟩
end
abbrev Gq:List Value:=[.type "ValueError",.type "Exception",.type "BaseException",.type "object"]
noncomputable def Cc (K:PySem.W.Frag) (C:Addr):Prop:=∃nm q N bs bm hdct sn sub ab col dd k0 k1 k2 k3 k5,K.lookup C=some (excClassObj nm q C N bs bm hdct sn sub ab col dd k0 k1 k2 k3 k5 "ValueError.__new__")/\bm.contains (.type "BaseException")=true/\∀h:Heap,K.In h->∃mN,h.Ns N mN/\mN "__init__" = none/\OwnTail h Gq bm
noncomputable def vX(K:PySem.W.Frag)(cl:Nat->Addr)(F:List Ev.Fn)(w n f:Nat):Sp:=λvs H Q E=>∃r h ds c h',aF K H r ds vs/\HR K H r h/\Ev.bH F w n f ds h=some (c,h')/\∀H' r',HR K H' r' h'->Fm K r r' H H'->E (.ref (cl c)) none H'
inductive tX(K:PySem.W.Frag)(cl:Nat->Addr)(m:List Nat)(E:XK)(f:Fr->Hh->Ev.XR)(s:L2.St)(H:Hp):Prop
 |mk (r:List Addr) (fr:Fr) (h:Hh) (c:Nat) (h':Hh) (sr:SR K m H r fr s) (hr:HR K H r h) (e:f fr h=some (c,h')) (q:∀H' r',HR K H' r' h'->Fm K r r' H H'->E (.ref (cl c)) none H'):tX K cl m E f s H
structure GX(G:Tb)(cl:Nat->Addr)(bD:List (Str×Nat))(rz su:List Nat)(n:Nat)(sc:Scope)(N:List Str)(df:Bool)(E:XK)(X:Cx):Prop where
 g:Good G n sc N df X.cY
 own:PassesOwn (model X.prog X.w) X.A X.env X.xe
 ps:Passes (pC X.prog X.w) X E
 md:∀(pins:List (Addr×Obj)) (σ:L2.St) (H:Hp) (s:Shared) (h1:Heap) (e C:Addr) (args:List Value),Inv X pins σ H s->Heap.MadeExcOf s.heap h1 e (.ref C) args->E (.ref C) none H->X.xe (.ref e) { s with heap:=h1 }
 fn:∀(f:Nat) i,G.fi[f]?=some i->su.contains f=true->eO X.prog X.w X.K X.mg X.base (pC X.prog X.w) n i.addr i.fd i.ps (vX X.K cl G.F G.w n f)
 nz:∀f,rz.contains f=false->∀ds h,Ev.bH G.F G.w n f ds h=none
 cs:∀x c,(x,c)∈bD->X.mg x=some (.ref (cl c))/\Cc X.K (cl c)
 cm:∀(pins:List (Addr×Obj)) (σ:L2.St) (H:Hp) (s:Shared) (a C K:Addr) (H':Hp) (s':Shared) (sf:Env),sf.frame=X.env.frame->Inv X pins σ H s->gu X.prog X.w X.stack H s a C H' s'->E (.ref C) none H'->fq X pins H' K->(∃m,s.heap.Ns K m)->H K=none->
  wpAny (model X.prog X.w) X.A (noteFrame (.ref a) sf) (λ_ s2=>(∃m,s2.heap.Ns K m)/\∀h'',Heap.SameBut K s2.heap h''->∀cenv:Env,cenv.locals=K->wpAny (model X.prog X.w) X.A (PySem.passOn "comprehension.variables-let-go" (.ref a) cenv:Sem Value) (λ_ _=>False) X.xe { s2 with heap:=h'' }) (λ_ _=>False) s'
theorem PA.cY{X:Cx}{es:List Expr}{t:TA}(h:PA X.cY es t):PA X es t:=λpos pins s σ H Q I hw=>
 Uo (h pos pins s σ H Q (I.fT _) hw) (λ_ _ ⟨vs,H',I',r,q⟩=>⟨vs,H',I'.dW,r,q⟩) λ_ _ z=>False.elim z
theorem PS.cY{X:Cx}{st:Stmt}{t:TS}(h:PS X.cY st t):PS X st t:=λpins s σ H D I hw=>
 Uo (h pins s σ H D (I.fT _) hw) (λ_ _ q=>q.dW) λ_ _ z=>False.elim z
section
variable(G:Tb)(cl:Nat->Addr)(bD:List (Str×Nat))(rz su:List Nat)(n:Nat)(sc:Scope)(N:List Str)(df:Bool)(m:List Nat)
noncomputable def ny(e:E)(x:Expr):Prop:=∀X Ex,GX G cl bD rz su n sc N df Ex X->PE X x (λs H _=>tX X.K cl m Ex (Ev.xe (Ev.run G.F G.w n) (Ev.bH G.F G.w n) e) s H)
noncomputable def Cd(es:Es)(xs:List Expr):Prop:=∀X Ex,GX G cl bD rz su n sc N df Ex X->PA X xs (λs H _=>tX X.K cl m Ex (Ev.xa (Ev.run G.F G.w n) (Ev.bH G.F G.w n) es) s H)
noncomputable def yO(st:S)(x:Stmt):Prop:=∀X Ex,GX G cl bD rz su n sc N df Ex X->PS X x (λ_ s H=>tX X.K cl m Ex (Ev.xs (Ev.run G.F G.w n) (Ev.bH G.F G.w n) G.w st) s H)
noncomputable def ji(ss:Ss)(xs:List Stmt):Prop:=∀X Ex,GX G cl bD rz su n sc N df Ex X->eX X xs (λ_ s H=>tX X.K cl m Ex (Ev.xss (Ev.run G.F G.w n) (Ev.bH G.F G.w n) G.w ss) s H)
end
section
variable{G:Tb}{cl:Nat->Addr}{bD:List (Str×Nat)}{rz su:List Nat}{n:Nat}{sc:Scope}{N:List Str}{df:Bool}{m:List Nat}{a b:E}{xa:Expr}{pos:Pos}
def Gr{e:E}{x:Expr}(h:Ev.iK rz e=true):ny G cl bD rz su n sc N df m e x:=λX Ex g pins s σ H Q I q=>by
 obtain⟨r,fr,h1,c,h',sr,hr,e,q⟩:=q;rw[Ev.jM g.nz _ h]at e;cases e
def nA{es:Es}{xs:List Expr}(h:Ev.tP rz es=true):Cd G cl bD rz su n sc N df m es xs:=λX Ex g pos pins s σ H Q I q=>by
 obtain⟨r,fr,h1,c,h',sr,hr,e,q⟩:=q;rw[Ev.rS g.nz _ h]at e;cases e
def qK{s:S}{x:Stmt}(h:Ev.o9 rz s=true):yO G cl bD rz su n sc N df m s x:=λX Ex g pins s σ H Q I q=>by
 obtain⟨r,fr,h1,c,h',sr,hr,e,q⟩:=q;rw[Ev.KN g.nz _ h]at e;cases e
def cj{s:Ss}{xs:List Stmt}(h:Ev.ku rz s=true):ji G cl bD rz su n sc N df m s xs:=λX Ex g pins s σ H Q I q=>by
 obtain⟨r,fr,h1,c,h',sr,hr,e,q⟩:=q;rw[Ev.lE g.nz _ h]at e;cases e
def Ao{f:Nat}{i:FI}{es:Es}{x:Str}{e0:Expr}{xs:List Expr}{p:Pos}(h:nq sc x=true)(hu:su.contains f=true)(hf:G.fi[f]?=some i)(hx:i.name=x)(hs:JA G n sc N df m es (e0 :: xs))(ks:Cd G cl bD rz su n sc N df m es (e0 :: xs))
  (hst:∀env:Env,starEach (e0 :: xs) env=(false,eval e0 env) :: starEach xs env:=by intro _;rfl) (hpl:∀env:Env,(backTo pos (starEach xs env)).any (·.1)=false:=by intro _;rfl) :
  ny G cl bD rz su n sc N df m (.cl f es) (.Call (.Name x p) (e0 :: xs) [] pos):=λX Ex g pins s σ H Q I q=>by
 subst hx;unfold nq at h;simp only[gQ,VD]at h;obtain⟨h1,h2,h3,_⟩:=g.g.fn f i hf;have hg:Gl X i.name:=g.g.gl (by simpa using h.1);obtain⟨r,fr,hh,c,h',sr,hr,e,q⟩:=q;simp only[Ev.xe]at e;split at e
 .rename_i ds hd ey;refine rH (g.fn f i hf hu) g.g.room hg h1 h2 h3 .nil g.ps (PA.cY (hs X.cY g.g)) h.2 (hst _) (hpl _) pins s σ H Q I ⟨r,fr,hh,ds,hd,sr,hr,ey,λvs H1 r1 v1 hr1 f1=>?_⟩;exact⟨r1,hd,ds,c,h',by rw[VE];exact v1,hr1,e,λH' r' y1 y2=>q H' r' y1 (f1.trans y2)⟩
 .exact rH (g.fn f i hf hu) g.g.room hg h1 h2 h3 .nil g.ps (ks X Ex g) h.2 (hst _) (hpl _) pins s σ H Q I ⟨r,fr,hh,c,h',sr,hr,e,q⟩
def lN{es:Es}{xs:List Expr}(ha:JE G n sc N df m a xa)(ka:ny G cl bD rz su n sc N df m a xa)(ks:Cd G cl bD rz su n sc N df m es xs)(hst:∀env:Env,starEach (xa :: xs) env=(false,eval xa env) :: starEach xs env:=by intro _;rfl):Cd G cl bD rz su n sc N df m (.cons a es) (xa :: xs):=λX Ex g pos pins s σ H Q I q=>by
 obtain⟨r,fr,hh,c,h',sr,hr,e,q⟩:=q;simp only[Ev.xa]at e;split at e
 .rename_i d hd ey;exact er (PE.cY (ha X.cY g.g)) (ks X Ex g) (hst _) pos pins s σ H Q I ⟨r,fr,hh,d,hd,sr,hr,ey,λv H1 r1 v1 hr1 f1=>⟨r1,fr,hd,c,h',sr.mono f1,hr1,e,λH' r' y1 y2=>q H' r' y1 (f1.trans y2)⟩⟩
 .exact er (ka X Ex g) (t:=λ_ _ _=>False) (λ_ _ _ _ _ _ _ z=>z.elim) (hst _) pos pins s σ H Q I ⟨r,fr,hh,c,h',sr,hr,e,q⟩
def sj(ka:ny G cl bD rz su n sc N df m a xa):yO G cl bD rz su n sc N df m (.ret a) (.Return (some xa) pos):=λX Ex g pins s σ H Q I q=>by
 obtain⟨r,fr,hh,c,h',sr,hr,e,q⟩:=q;simp only[Ev.xs]at e;exact uU (ka X Ex g) pins s σ H Q I ⟨r,fr,hh,c,h',sr,hr,e,q⟩
def IE{i:Nat}{x:Str}{pos':Pos}(h:gB sc N df m x i=true)(ka:ny G cl bD rz su n sc N df m a xa)(hs:∀env:Env,swapsWith xa (some (.Name x pos')) pos.line env=pure false:=by intro _;rfl):yO G cl bD rz su n sc N df m (.set i a) (.Assign [.Name x pos'] xa pos):=λX Ex g pins s σ H Q I q=>by
 obtain⟨r,fr,hh,c,h',sr,hr,e,q⟩:=q;simp only[Ev.xs]at e;obtain⟨j,e1,e2,e3,e4,e5⟩:=gB.of h;obtain⟨h1,h2⟩:=g.g.loc e3;exact uV (X:=X) (i:=j) (by rw[show X.N=N from g.g.nm];exact e5) (by rw[show X.N=N from g.g.nm];exact e2) h1 (ka X Ex g) (hs _) h2 pins s σ H Q I ⟨r,fr,hh,c,h',sr,hr,e,q⟩
def jB{ta tb:Ss}{ya yb:List Stmt}(hc:JT G n sc N df m a xa)(kc:Ev.iK rz a=true)(h1:ji G cl bD rz su n sc N df m ta ya)(h2:ji G cl bD rz su n sc N df m tb yb):yO G cl bD rz su n sc N df m (.iff a ta tb) (.If xa ya yb pos):=λX Ex g pins s σ H Q I q=>by
 obtain⟨r,fr,hh,c,h',sr,hr,e,q⟩:=q;simp only[Ev.xs]at e;split at e
 .rename_i k h3 ey;refine zK (PT.cY (hc X.cY g.g)) (h1 X Ex g) (h2 X Ex g) pins s σ H Q I ⟨r,fr,hh,k,h3,sr,hr,ey,λH1 r1 hr1 f1=>?_⟩;cases k with
  |true=>exact⟨r1,fr,h3,c,h',sr.mono f1,hr1,by simpa using e,λH' r' y1 y2=>q H' r' y1 (f1.trans y2)⟩
  |false=>exact⟨r1,fr,h3,c,h',sr.mono f1,hr1,by simpa using e,λH' r' y1 y2=>q H' r' y1 (f1.trans y2)⟩
 .rw[Ev.jM g.nz _ kc]at e;cases e
def bM{st:S}{ss:Ss}{x:Stmt}{xs:List Stmt}(h1:JS G n sc N df m st x)(k1:yO G cl bD rz su n sc N df m st x)(ks:ji G cl bD rz su n sc N df m ss xs):ji G cl bD rz su n sc N df m (.cons st ss) (x :: xs):=λX Ex g pins s σ H Q I q=>by
 obtain⟨r,fr,hh,c,h',sr,hr,e,q⟩:=q;simp only[Ev.xss]at e;split at e
 .rename_i af h3 ey;exact jG (PS.cY (h1 X.cY g.g)) (ks X Ex g) pins s σ H Q I ⟨r,fr,hh,.nx,af,h3,sr,hr,ey,λs1 H1 r1 La hr1 f1=>⟨r1,af,h3,c,h',La,hr1,e,λH' r' y1 y2=>q H' r' y1 (f1.trans y2)⟩⟩
 .cases e
 .exact jG (k1 X Ex g) (ks X Ex g) pins s σ H Q I ⟨r,fr,hh,c,h',sr,hr,e,q⟩
def kU{c:Nat}{x t:Str}{np cp p1 pos:Pos}{j:Nat}(hx:(x,c)∈bD:=by decide +kernel)(h:nq sc x=true:=by decide +kernel):yO G cl bD rz su n sc N df m (.b9 c) (.Raise (some (.Call (.Name x np) [.Constant (.str t) j p1] [] cp)) none pos):=λX Ex g pins s σ H Q I q=>by
 obtain⟨r,fr,hh,c',h',sr,hr,e,q⟩:=q;simp only[Ev.xs]at e;cases e;unfold nq at h;simp only[gQ,VD]at h;have hg:Gl X x:=g.g.gl (by simpa using h.1);obtain⟨hm,nm,qn,Nn,bs,bm,hdct,sn,sub,ab,col,dd,k0,k1,k2,k3,k5,lk,hb,hN⟩:=g.cs x _ hx;have qE:=q H r hr .refl;obtain⟨mN,n1,n2,n3⟩:=hN s.heap I.dQ;refine wpAny_Raise_call_subT (nm:=nm) (q:=qn) (N:=Nn) (bs:=bs) (hdct:=hdct) (sn:=sn) (sub:=sub) (ab:=ab) (col:=col) (dd:=dd) (k0:=k0) (k1:=k1) (k2:=k2) (k3:=k3) (k5:=k5) PySem.F.excBase_ValueError hb g.g.room.hd rfl n2 (oE I hg hm ⟨rfl,?_⟩ h.2);refine Calls.evalArgs_plain ?_;show wpAny _ _ (spliced ((false,eval (.Constant (.str t) j p1) X.env) :: [])) _ _ _;refine WY (Calls.Constant_str (W5 ⟨rfl,by show 1<=sizeLine;decide,I.dQ _ _ lk,n1,n3,λh1 e mk=>?_⟩));exact g.md pins σ H { s with toks:=s.toks+1 } h1 e _ _ (I.tok _) mk qE
section
variable{P:Program}{w:World}{K:PySem.W.Frag}{mg:Str->Option Value}{base:Heap}
noncomputable def vY(P:Program)(w:World)(K:PySem.W.Frag)(mg:Str->Option Value)(base:Heap)(G:Tb)(cl:Nat->Addr)(su:List Nat)(n:Nat):Prop:=∀(f:Nat) i,G.fi[f]?=some i->su.contains f=true->eO P w K mg base (pC P w) n i.addr i.fd i.ps (vX K cl G.F G.w n f)
def LW{f:Addr}{fd:FuncData}{ps:List Str}{k:Nat}(z:∀ds h,Ev.bH G.F G.w n k ds h=none):eO P w K mg base (pC P w) n f fd ps (vX K cl G.F G.w n k):=by
 have no:∀vs H Q E,¬ vX K cl G.F G.w n k vs H Q E:=λvs H Q E h=>by
  obtain⟨r,h,ds,c,h',_,_,e,_⟩:=h;rw[z]at e;cases e
 exact⟨λvs H Q E h=>absurd h (no vs H Q E),λA outer s H args us vs Q E _ _ _ _ h=>absurd h (no vs H Q E)⟩
def kW{x qual:Str}{st:Stmt}{i:FI}{N:List Str}{f:Nat}{fn:Ev.Fn}(T:Top P w K mg G)(A0:oJ P w K mg base G n)(A1:vY P w K mg base G cl su n)(hz:Ev.pe rz 0 G.F=true)(hc:∀x c,(x,c)∈bD->mg x=some (.ref (cl c))/\Cc K (cl c))
  (F:mZ K x qual st i.addr i.fd) (S:bC N i.ps (aA st)) (hf:G.F[f]?=some fn) (hp:i.ps.length=fn.np)
  (hb:ji G cl bD rz su n (aA st) N true (List.range N.length) fn.body (b7 st)):eO P w K mg base (pC P w) (n+1) i.addr i.fd i.ps (vX K cl G.F G.w (n+1) f):=by
 have hlen:∀vs H Q E,vX K cl G.F G.w (n+1) f vs H Q E->vs.length=i.ps.length:=λvs H Q E h=>by
  obtain⟨r,h,ds,c,h',v1,_,e,_⟩:=h;simp only[Ev.iA,hf]at e;split at e
  .rename_i z;rw[v1.length,z,hp]
  .cases e
 obtain⟨oc,od,kV,doc,pm,an,cdv,ct,osl,e0,lk,hcd⟩:=F.ex;rw[e0]at lk ⊢;refine Ft lk hcd S hlen λA outer s H vs Q Ex hr eZ=>?_;have hl:=hlen vs H Q Ex eZ;have hN:vs.length<=N.length:=by
  have:=Vd List.length S.pre;rw[Vz]at this;omega
 have g:Good G n (aA st) N true (jf (pC P w) P w K mg base N qual (aA st) i.addr cdv A outer s H Ex).cY:=
  ⟨rfl,rfl,rfl,λ_ _=>rfl,hr,rfl,λf i hi=>⟨(T.fn f i hi).1,(T.fn f i hi).2.1,(T.fn f i hi).2.2,A0 f i hi⟩,T.bl,T.cs,T.dk⟩
 have gx:GX G cl bD rz su n (aA st) N true Ex (jf (pC P w) P w K mg base N qual (aA st) i.addr cdv A outer s H Ex):=
  ⟨g,PassesOwn.leaving,λpins σ H1 s1 e s' I ⟨a,C,H',h1,fl,q⟩=>by
    subst h1;exact D9 rfl rfl rfl I fl λs'' vU=>⟨a,C,H',rfl,vU,q⟩,
   λpins σ H1 s1 h1 e C args I mk q=>Am rfl rfl rfl I mk λs'' vU=>⟨e,C,H1,rfl,vU,q⟩,A1,Ev.yk hz G.w n,hc
   ,λpins σ H1 s1 a C K H' s' sf hC I fl q fp hK LU=>Cb rfl rfl rfl hC I fl q fp hK LU
   ⟩
 refine⟨_,hb _ Ex gx,?_⟩;obtain⟨r,h,ds,c,h',v1,hr1,e,q⟩:=eZ;simp only[Ev.iA,hf]at e;split at e
 .exact⟨r,Ev.cZ fn ds,h,c,h',pS v1 hN,hr1,e,q⟩
 .cases e
def Ce{X:Cx}{k:Nat}{f:Addr}{fd:FuncData}{ps:List Str}{sp:Sp}{x:Str}{p pos:Pos}{e:Expr}{es:List Expr}{t:TA}{pins:List (Addr×Obj)}{σ:L2.St}{H:Hp}{s:Shared}{Ex:XK}{Q:Value->Shared->Prop}{E':Value->Shared->Prop}
  (F:eO X.prog X.w X.K X.mg X.base (pC X.prog X.w) k f fd ps sp) (hr:fu k X.A) (hg:Gl X x) (hm:X.mg x=some (.ref f)) (hk:PySem.W.keepIn X.K (.ref f)=true) (hb:Binds X.K fd ps []) (hd:(x==("__debug__" : Str))=false) (ha:PA X (e :: es) t) (TU:X.xe=λ_ _=>False)
  (hst:starEach (e :: es) X.env=(false,eval e X.env) :: starEach es X.env) (hpl:(backTo pos (starEach es X.env)).any (·.1)=false)
  (I:Inv X pins σ H s) (h:t σ H λvs H1=>sp vs H1 (λ_ _=>False) Ex) (q:∀H1 s1 a C H' s',Inv X pins σ H1 s1->gu X.prog X.w X.stack H1 s1 a C H' s'->Ex (.ref C) none H'->E' (.ref a) s') :
  wpAny (model X.prog X.w) X.A (eval (.Call (.Name x p) (e :: es) [] pos) X.env) Q E' s:=by
 refine V7 (oE I hg hm ?_ hd);refine Yb (h₀:=X.base) I.ok.mod.cO hk (Uo (ha pos pins s σ H _ I h) (λus s1 ⟨vs,H1,I1,r,q1⟩=>⟨I1.dQ,?_⟩) (λ_ _ z=>by rw[TU]at z;exact z.elim)) hst hpl;have hl:us.length=ps.length:=by rw[<-r.length];exact F.len _ _ _ _ q1
 have hb1:=hb s1 us I1.dQ (by rw[VE];exact hl);rw[VE]at hb1;refine W6 (WE (F.run X.A X.stack s1 H1 ⟨us,[]⟩ us vs _ Ex hr I1.ko hb1 r q1) λres s' hq=>?_);cases res with
 |error e=>
  obtain⟨a,C,H',rfl,fl,e1⟩:=hq;exact q H1 s1 a C H' s' I1 fl e1
 |ok fl=>
  cases fl with
  |ret u=>obtain⟨v,H',_,_,_,_,_,z⟩:=hq;exact z.elim
  |next=>exact hq.elim
  |brk=>exact hq.elim
  |cont=>exact hq.elim
def IF{H H':Hp}{r:List Addr}{h:Hh}(k:∀b o,H b=some o->H' b=some o):Fm K r r H H'/\(HR K H r h->HR K H' r h):=by
 have f:Fm K r r H H':=⟨λ_ _ e=>e,λ_ e=>.inl e,λa o e _=>k a o e,λa vs e=>by
  rcases e with (e|⟨ob,e⟩)|e
  .exact .inl (.inl (k _ _ e))
  .exact .inl (.inr ⟨ob,k _ _ e⟩)
  .exact .inr e⟩
 refine⟨f,λhr=>⟨hr.len,λn o e=>?_,hr.inj
  ⟩⟩
 obtain⟨a,e1,q⟩:=hr.ob n o e;exact⟨a,e1,q.mono f (λ_ _ _ z=>k _ _ z) (λ_ _ z=>k _ _ z)
  (λ_ _ z _=>k _ _ z)
  ⟩
def LX{F:List Ev.Fn}{w n f:Nat}{ds:List D}{h h':Hh}{d:D}(hF:F.length<=1000)(e:Ev.run F w n (f+Ev.xo) ds h=.ok d h'):∃c:Nat,d=.int c/\Ev.bH F w n f ds h=some (c,h'):=by
 cases n with
 |zero=>cases e
 |succ n=>
  rw[Ev.fP,VH (by show F.length<=f+1000;omega)]at e;simp only[Ev.lZ]at e;rw[b8 (Yv _ _),WV]at e;split at e
  .rename_i c h2 z;cases e;exact⟨c,rfl,z⟩
  .cases e
def IG{x qual:Str}{st:Stmt}{i j:FI}{N:List Str}{ft f:Nat}{fn:Ev.Fn}{es:Es}{e0:Expr}{xs:List Expr}{p cp p0 p1 p2 p3 p4 p5 p6 p7:Pos}{rf Wc:Addr}{KC:Addr->Nat->Prop}{nc:Nat}{rd:FuncData}{um:Stmt}{ix:Nat}(T:Top P w K mg G)(A0:oJ P w K mg base G n)(A1:vY P w K mg base G cl su n)(hG:G.F.length<=1000)
  (R:Eb K mg rf rd um Wc KC) (kc:∀c,c<nc->KC (cl c) c/\PySem.W.exmOne K (.ref (cl c)) (.ref Wc)=some true)
  (F:mZ K x qual st i.addr i.fd) (S:bC N i.ps (aA st)) (Qi:G.F[ft]?=some fn) (hp:i.ps.length=fn.np) (hbody:fn.body=.cons (.tr f nc es) .nil) (hj:G.fi[f]?=some j) (TV:su.contains f=true)
  (hst:b7 st=[.Try [.Return (some (.Call (.Name j.name p) (e0 :: xs) [] cp)) p0] [.ExceptHandler (some (.Name "WayError" p1)) (some "_law_e") [.Return (some (.Call (.Name "_law_refused" p2) [.Name "_law_e" p3] [] p4)) p5] p6] [] [] p7])
  (hs:JA G n (aA st) N true (List.range N.length) es (e0 :: xs)) (hcl:nq (aA st) j.name=true) (h1:N[ix]?=some ("_law_e" : Str)) (h2:(aA st).names.lookup ("_law_e" : Str)=some .local) (h3:(aA st).names.lookup ("_law_refused" : Str)=some .globalImplicit) (h4:(aA st).names.lookup ("WayError" : Str)=some .globalImplicit)
  (se:∀env:Env,starEach (e0 :: xs) env=(false,eval e0 env) :: starEach xs env:=by intro _;rfl) (sp:∀env:Env,(backTo cp (starEach xs env)).any (·.1)=false:=by intro _;rfl) :
  eO P w K mg base jr (n+1) i.addr i.fd i.ps (mh K G.F G.w (n+1) ft):=by
 have hlen:∀vs H Q E,mh K G.F G.w (n+1) ft vs H Q E->vs.length=i.ps.length:=λvs H Q E h=>by
  obtain⟨r,h,ds,d,h',v1,_,e,_⟩:=h;simp only[Ev.fP,Qi]at e;split at e
  .rename_i z;rw[v1.length,z,hp]
  .cases e
 refine F.ok S hlen λcdv A outer s H vs Q Ex hr eZ=>?_;have hl:=hlen vs H Q Ex eZ;have hN:vs.length<=N.length:=by
  have:=Vd List.length S.pre;rw[Vz]at this;omega
 generalize hX:(jf jr P w K mg base N qual (aA st) i.addr cdv A outer s H Ex).cY=X
 have g:Good G n (aA st) N true X:=by
  rw[<-hX];exact⟨rfl,rfl,rfl,λ_ _=>rfl,hr,rfl,λf i hi=>⟨(T.fn f i hi).1,(T.fn f i hi).2.1,(T.fn f i hi).2.2,A0 f i hi⟩,T.bl,T.cs,T.dk⟩
 have TX:X.stack=X.env :: X.outer:=by rw[<-hX];rfl
 have xf:X.env.frame=some X.env.locals:=by rw[<-hX];rfl
 have xK:X.K=K:=by rw[<-hX];rfl
 have xm:X.mg=mg:=by rw[<-hX];rfl
 have F1:eO X.prog X.w X.K X.mg X.base (pC X.prog X.w) n j.addr j.fd j.ps (vX X.K cl G.F G.w n f):=by rw[<-hX];exact A1 f j hj TV
 refine⟨vj X.K (List.range N.length) (Ev.run G.F G.w n) G.w fn.body,?_,?_⟩
 .rw[hst,hbody];refine eX.of (yc (t:=vj X.K (List.range N.length) (Ev.run G.F G.w n) G.w (.cons (.tr f nc es) .nil)) λpins s1 σ1 H1 D I q=>?_) λQ s H q=>q;obtain⟨r,fr,h,fl,ai,h',sr,hr',e,q⟩:=q;simp only[Ev.exs,Ev.ex]at e;obtain⟨⟨gA,af⟩,h2',e2,e⟩:=Ev.ah e;obtain⟨ds,h3',e3,e2⟩:=Ev.ah e2;obtain⟨y,Uv,e4,e2⟩:=Ev.ah e2;cases e2;cases e;refine wpAny_Try_except ?_;cases ey:Ev.run G.F G.w n f ds h3' with
  |ok d hd=>
   rw[ey]at e4;obtain⟨rfl,rfl⟩:d=y/\hd=h':=by simpa[Ev.tryD]using e4
   have st1:=vm (BF (pos:=p0) (P7 (pos:=cp) (p:=p) hcl hj rfl hs se sp)) (yp (G:=G) (n:=n) (sc:=aA st) (N:=N) (df:=true) (m:=List.range N.length)) X g pins s1 σ1 H1 { nx:=λ_ _=>False,rt:=D.rt } I ⟨r,fr,h,.ret d,fr,_,sr,hr',by simp only[Ev.exs,Ev.ex,Ev.ev,e3,Ev.aj,ey],q⟩;refine Uo st1 (λf s2 hq=>?_) (λ_ _ z=>by rw[g.xe]at z;exact z.elim);cases f with
   |ret u=>exact hq
   |next=>obtain⟨_,_,_,z⟩:=hq;exact z.elim
   |brk=>obtain⟨_,_,_,z⟩:=hq;exact z.elim
   |cont=>obtain⟨_,_,_,z⟩:=hq;exact z.elim
  |bad=>
   rw[ey]at e4;simp only[Ev.tryD]at e4;obtain⟨dc,Uw,e5,e4⟩:=Ev.ah e4;obtain⟨c,rfl,ex⟩:=LX hG e5;obtain⟨e6,e7⟩:=Ev.aC e4;subst e7;simp only[Ev.DJ]at e6;split at e6
   case isFalse=>cases e6
   rename_i hc4;cases e6;have c4:c<nc:=by omega
   obtain⟨g1,g2,g3,_⟩:=g.fn f j hj;unfold nq at hcl;simp only[gQ,VD]at hcl;refine WA (W0 ?_);refine Ce (Ex:=λv _ H'=>v=.ref (cl c)/\∃r',HR X.K H' r' h'/\Fm X.K r r' H1 H') F1 g.room (g.gl (by simpa using hcl.1)) g1 g2 g3 hcl.2 (hs X g) g.xe (se _) (sp _) I ⟨r,fr,h,ds,h3',sr,hr',e3,λvs H2 r2 v2 hr2 f2=>⟨r2,h3',ds,c,h',v2,hr2,ex,λH' r' y1 y2=>⟨rfl,r',y1,f2.trans y2⟩⟩⟩ λH2 s2 a C H' s' I2 fl ⟨hC,r',j3,f3⟩=>?_;cases hC;obtain⟨k1,k2⟩:=kc c c4;refine LS (i:=ix) (c:=c) (by rw[xK,xm];exact R) k1 (by rw[xK];exact k2) TX xf g.room.depth (by rw[g.nm];exact S.nd) (by rw[g.nm];exact h1) (by rw[g.sc];exact h2) (g.gl h3) (g.gl h4) I2 fl λp kT m1 m2=>?_;obtain⟨f4,ym⟩:=IF (K:=X.K) (r:=r') (h:=h') m1;refine q _ kT r' ⟨p,[.str "refused",.int c],rfl,.of m2,⟨_,_,rfl,⟨by decide +kernel,by decide⟩,⟨_,_,rfl,rfl,rfl⟩⟩⟩ (ym j3) (f3.trans f4)
 .obtain⟨r,h,ds,d,h',v1,hr1,e,q⟩:=eZ;simp only[Ev.fP,Qi]at e;split at e
  .unfold Ev.endOf at e;obtain⟨⟨fl,ai⟩,h2,e1,e⟩:=Ev.ah e;refine⟨r,Ev.cZ fn ds,h,fl,ai,h2,by rw[xK];exact pS v1 hN,by rw[xK];exact hr1,e1,?_⟩;rw[xK];cases fl with
   |nx=>
    cases e;exact λs' H' r' _ hr' f'=>q _ H' r' rfl hr' f'
   |ret d'=>
    cases e;exact q
   |bk=>cases e
   |ct=>cases e
  .cases e
theorem sq{base:Heap}(st:∀n,oJ P w K mg base G n->vY P w K mg base G cl su n->oJ P w K mg base G (n+1)/\vY P w K mg base G cl su (n+1)):∀n,oJ P w K mg base G n/\vY P w K mg base G cl su n
 |0=>⟨λf i _=>HZ,λf i _ _=>LW λ_ _=>rfl⟩
 |n+1=>st n (sq st n).1 (sq st n).2
end
end
end Sm
namespace Sm
open PySem PySem.Spec PyProof.Rows L2 PySem.W
noncomputable def vZ(K:PySem.W.Frag)(N:Addr):Bool:=nsOkIn K N&&quietNames.all λn=>nsIn K N n==some none
noncomputable def LY(K:PySem.W.Frag)(C Wc:Addr):Bool:=
 findIn K (.ref C) "__getattribute__" ==some (some (.builtin "BaseException.__getattribute__"))&&findIn K (.ref C) "__getattr__" ==some none&&findIn K (.ref C) "__class__" ==some (some (.builtin "object.__class__"))
 &&subIn K (.ref C) (.type "object")==some true&&kitCls K (.ref C) (.ref C)==some true
 &&kitOne K (.ref C) (.ref C)==some true&&kitOne K (.ref C) (.type "ValueError")==some true&&exmOne K (.ref C) (.ref Wc)==some true
structure LZ(K:PySem.W.Frag)(x:Str)(C Wc:Addr):Prop where
 ns:nsIn K mainGlobals x=some (some (.ref C))
 rs:Cc K C
 cs:Gd K C C 0
 em:exmOne K (.ref C) (.ref Wc)=some true
def vZ.ns{K:PySem.W.Frag}{N:Addr}{h:Heap}(q:vZ K N=true)(cO:K.In h):∃m,h.Ns N m/\∀n∈quietNames,m n=none:=by
 unfold vZ at q;rw[gQ]at q;have hn:=Heap.Ns.of_isNs (isNs_of_in cO q.1);exact⟨_,hn,λn hn'=>nsMap_none_of_in cO q.1 (beq_iff_eq.mp (List.all_eq_true.mp q.2 n hn'))⟩
def II{K:PySem.W.Frag}{x:Str}{C Wc N:Addr}{nm q:Str}{bs:List Value}{hdct:Bool}{sn:List Str}{sub:List Value}{ab:Bool}{col:Option Bool}{dd TZ:Option Addr}{k0 k1 k2 k3 k5:Option Value}{c0:Value}{cd:ClassData}{sl:Array (Option Value)}
  (a:nsIn K mainGlobals x=some (some (.ref C))) (l:K.lookup C=some (excClassObj nm q C N bs (.ref Wc :: Gq) hdct sn sub ab col dd k0 k1 k2 k3 k5 "ValueError.__new__")) (lw:K.lookup Wc=some ⟨c0,TZ,.cls cd,sl⟩) (n:vZ K N=true) (nw:vZ K cd.ns=true) (f:LY K C Wc=true):LZ K x C Wc:=by
 unfold LY at f;simp only[gQ,XJ]at f;obtain⟨⟨⟨⟨⟨⟨⟨f1,f2⟩,f3⟩,f4⟩,f5⟩,f6⟩,f7⟩,f8⟩:=f;have tq:∀h:Heap,K.In h->OwnTailQ h Gq (.ref Wc :: Gq):=λh cO=>by
  obtain⟨m,h1,h2⟩:=vZ.ns nw cO;exact .own (cO _ _ lw) h1 h2 .base
 refine⟨a,⟨_,_,_,_,_,_,_,_,_,_,_,_,_,_,_,_,l,rfl,λh cO=>?_⟩,⟨⟨⟨_,_,_,_,_,_,_,_,_,_,_,_,_,_,_,_,_,l,tq⟩,f1,f2,f3,f4,f5⟩,f6,f7,rfl⟩,f8⟩;obtain⟨m,h1,h2⟩:=vZ.ns n cO;exact⟨m,h1,h2 _ (by simp[quietNames]),(tq h cO).tail⟩
end Sm
namespace Sm
open PySem PySem.Spec PyProof.Rows L2
open Ev (D O Hh Fr R aB E Es Eo It T S Ss Fl Src aQ aK TY BI ME)
theorem ye.dW{X:Cx}{pins:List (Addr×Obj)}{σ:L2.St}{tg:Expr}{R:L2.It->Hp->Prop}{itv:Value}{s:Shared}(h:ye X.cY pins σ tg R itv s):ye X pins σ tg R itv s:=by
 obtain⟨it,J,fp,tn,H',e,I,x⟩:=h;exact⟨it,J,fp,tn,H',e,I.dW,x⟩
theorem PI.cY{X:Cx}{tg iter:Expr}{wi:TI}(h:PI X.cY tg iter wi):PI X tg iter wi:=λpins s σ H Rr I hw=>
 Uo (h pins s σ H Rr (I.fT _) hw) (λv s1 q=>Uo q (λ_ _ y=>ye.dW y) λ_ _ z=>False.elim z) λ_ _ z=>False.elim z
section
variable(cl:Nat->Addr)(nc:Nat)
noncomputable def HX (X:Cx) (pins:List (Addr×Obj)) (σ:L2.St) (R:VK) (E':Value->Shared->Prop):Prop:=∀(H2:Hp) (s2:Shared) (a:Addr) (c:Nat) (H':Hp) (s':Shared),Inv X pins σ H2 s2->gu X.prog X.w X.stack H2 s2 a (cl c) H' s'->c<nc->(∀p kT,(∀b o,H' b=some o->kT b=some o)->kT p=some (.tup [.str "refused",.int c])->R (.ref p) kT)->E' (.ref a) s'
end
section
variable{G:Tb}{cl:Nat->Addr}{bD:List (Str×Nat)}{rz su:List Nat}{n:Nat}{sc:Scope}{N:List Str}{df:Bool}{m:List Nat}{a:E}{xa:Expr}{pos:Pos}
def Cf{es:Es}{xs:List Expr}{k}(ks:Cd G cl bD rz su n sc N df m es xs):ny G cl bD rz su n sc N df m (.tup es) (.Tuple xs k pos):=λX Ex g pins s σ H Q I q=>by
 obtain⟨r,fr,hh,c,h',sr,hr,e,q⟩:=q;simp only[Ev.xe]at e;exact uY (ks X Ex g) pins s σ H Q I ⟨r,fr,hh,c,h',sr,hr,e,q⟩
def L0 {p:Pos}(ka:ny G cl bD rz su n sc N df m a xa) (h1:("tuple" : Str)∈G.bl:=by decide +kernel) (BX:sc.names.lookup ("tuple" : Str)=some .globalImplicit:=by rfl)
  (hst:∀env:Env,starEach [xa] env=[(false,eval xa env)]:=by intro _;rfl):ny G cl bD rz su n sc N df m (.fc a) (.Call (.Name "tuple" p) [xa] [] pos):=λX Ex g pins s σ H Q I q=>by
 obtain⟨r,fr,hh,c,h',sr,hr,e,q⟩:=q;simp only[Ev.xe]at e;exact mV (X:=X) (T:="tuple") (r:=λ_ _ _=>False) (λ_ _ _ _ _ _ _ _ _ z=>z.elim) (g.g.gl BX) (g.g.bl _ h1) (by decide +kernel) (er (ka X Ex g) (t:=λ_ _ _=>False) (λ_ _ _ _ _ _ _ z=>z.elim) (hst _)) (by decide) (by decide) (hst _) rfl pins s σ H Q I ⟨r,fr,hh,c,h',sr,hr,e,q⟩
end
section
variable{prog:Program}{w:World}{A:Around}{s:Shared}{R':Result->Shared->Prop}
def uz{elt target iter:Expr}{ifs:List Expr}{scope:Scope}{pos:Pos}{it acc:Value}{env:Env}(I:Nat->Shared->Prop)
  (turn:∀n s,I n s->wpAny (model prog w) A (pyNext it) (λr s₁=>match r with
   |none=>R' (.ok .next) s₁
   |some v=>wpAny (model prog w) A (letOwnedTupleGo target it v) (λ_ s₂=>wpAny (model prog w) A (assign target env v) (λ_ s₃=>
     wpAny (model prog w) A (rV ifs env) (λok s₄=>
      if ok=true then wpAny (model prog w) A (eval elt env) (λx s₅=>
       wpAny (model prog w) A (call (.builtin "list.append") [acc,x]) (λ_ s₆=>∃m,m<n/\I m s₆) b9 s₅) (notedBy (model prog w) A env λe s'=>R' (.error e) s') s₄
      else ∃m,m<n/\I m s₄) b9 s₃) b9 s₂) b9 s₁) b9 s)
  (n:Nat) (h:I n s):codeAny (model prog w) A (.compLoop (.ListComp elt [⟨target,iter,ifs,0⟩] scope pos) 0 it acc env) R' s:=by
 refine codeAny_loop rfl I (λn s hI=>?_) n h;show wpAny _ A ((compTurn (.ListComp elt [⟨target,iter,ifs,0⟩] scope pos) 0 it acc env).onRaise (λx=>do noteFrame x env;theTreesLotGoes x)) _ _ s;refine wpAny_noted ?_;rw[compTurn_list];refine bP (wpAny_standAt (bP (Uo (turn n s hI) (λr s₁ h₁=>?_) λ_ _ z=>z.elim)));cases r with
 |none=>exact EZ h₁
 |some v=>
  refine bP (Uo h₁ (λ_ s₂ h₂=>?_) λ_ _ z=>z.elim);refine bP (Uo h₂ (λ_ s₃ h₃=>bP (Uo h₃ (λok s₄ h₄=>?_) λ_ _ z=>z.elim)) λ_ _ z=>z.elim);cases ok with
  |false=>exact EZ ⟨rfl,h₄⟩
  |true=>
   exact bP (bP (Uo h₄ (λx s₅ h₅=>bP (Uo h₅ (λ_ s₆ h₆=>EZ (EZ ⟨rfl,h₆⟩)) λ_ _ z=>z.elim)) λ_ _ z=>z))
end
section
variable{G:Tb}{cl:Nat->Addr}{bD:List (Str×Nat)}{rz su:List Nat}{n:Nat}{sc:Scope}{N N':List Str}{df:Bool}{m m':List Nat}{elt:E}{it:Ev.It}{xe xi:Expr}{pos:Pos}
noncomputable def Gs(G:Tb)(cl:Nat->Addr)(bD:List (Str×Nat))(rz su:List Nat)(n:Nat)(sc:Scope)(N:List Str)(df:Bool)(m:List Nat)(it:Ev.It)(xi:Expr):Prop:=∀X Ex,GX G cl bD rz su n sc N df Ex X->∀(pins:List (Addr×Obj)) (s:Shared) (σ:L2.St) (H:Hp),Inv X pins σ H s->
 tX X.K cl m Ex (Ev.xi (Ev.run G.F G.w n) (Ev.bH G.F G.w n) it) σ H->wpAny (model X.prog X.w) X.A (eval xi X.env) (λ_ _=>False) X.xe s
def L1(h:Ev.Fz rz it=true):Gs G cl bD rz su n sc N df m it xi:=λX Ex g pins s σ H I q=>by
 obtain⟨r,fr,h1,c,h',sr,hr,e,q⟩:=q;rw[Ev.KL g.nz _ h]at e;cases e
def IJ{a:E}{xa:Expr}(ka:ny G cl bD rz su n sc N df m a xa):Gs G cl bD rz su n sc N df m (.seq a) xa:=λX Ex g pins s σ H I q=>by
 obtain⟨r,fr,h1,c,h',sr,hr,e,q⟩:=q;simp only[Ev.xi]at e;exact Uo (ka X Ex g pins s σ H (λ_ _=>False) I ⟨r,fr,h1,c,h',sr,hr,e,q⟩) (λ_ _ ⟨_,_,_,_,z⟩=>z) λ_ _ z=>z
noncomputable def Ed(Y:Cx)(r:List Addr)(H:Hp)(C:Addr)(h':Hh):Value->Shared->Prop:=λe s'=>∃a H1 s1 H' σ1 p1 r',e=.ref a/\Inv Y p1 σ1 H1 s1/\gu Y.prog Y.w Y.stack H1 s1 a C H' s'/\HR Y.K H' r' h'/\Fm Y.K r r' H H'
noncomputable def Gu(G:Tb)(cl:Nat->Addr)(bD:List (Str×Nat))(rz su:List Nat)(n:Nat)(sc sc':Scope)(N N':List Str)(df:Bool)(m':List Nat)(elt:E)(xe:Expr):Prop:=∀X Ex,GX G cl bD rz su n sc N df Ex X->∀Y:Cx,Good G n sc' N' false Y->Y.prog=X.prog->Y.w=X.w->Y.K=X.K->Y.mg=X.mg->Y.base=X.base->
 ∀(pins:List (Addr×Obj)) (s:Shared) (σ:L2.St) (H:Hp) (r:List Addr) (fr:Fr) (h:Hh) (c:Nat) (h':Hh),Inv Y pins σ H s->SR Y.K m' H r fr σ->HR Y.K H r h->Ev.xe (Ev.run G.F G.w n) (Ev.bH G.F G.w n) elt fr h=some (c,h')->
  wpAny (model Y.prog Y.w) Y.A (eval xe Y.env) (λ_ _=>False) (Ed Y r H (cl c) h') s
def Cg{sc':Scope}{f:Nat}{i:FI}{es:Es}{x:Str}{e0:Expr}{xs:List Expr}{p:Pos}(h:nq sc' x=true)(hu:su.contains f=true)(hf:G.fi[f]?=some i)(hx:i.name=x)(hs:JA G n sc' N' false m' es (e0 :: xs))(hz:Ev.tP rz es=true)
  (hst:∀env:Env,starEach (e0 :: xs) env=(false,eval e0 env) :: starEach xs env:=by intro _;rfl) (hpl:∀env:Env,(backTo pos (starEach xs env)).any (·.1)=false:=by intro _;rfl) :
  Gu G cl bD rz su n sc sc' N N' df m' (.cl f es) (.Call (.Name x p) (e0 :: xs) [] pos):=λX Ex g Y gY y1 y2 y3 y4 y5 pins s σ H r fr hh c h' I sr hr e=>by
 subst hx;unfold nq at h;simp only[gQ,VD]at h;obtain⟨h1,h2,h3,_⟩:=gY.fn f i hf;have hg:Gl Y i.name:=gY.gl (by simpa using h.1);have F:=g.fn f i hf hu;rw[<-y1,<-y2,<-y3,<-y4,<-y5]at F;simp only[Ev.xe]at e;split at e
 .rename_i ds hd ey;refine Ce (Ex:=λC _ H'=>C=.ref (cl c)/\∃r',HR Y.K H' r' h'/\Fm Y.K r r' H H') F gY.room hg h1 h2 h3 h.2 (hs Y gY) gY.xe (hst _) (hpl _) I ⟨r,fr,hh,ds,hd,sr,hr,ey,λvs H1 r1 v1 hr1 f1=>?_⟩ λH1 s1 a C H' s' I1 fl q=>?_
  .exact⟨r1,hd,ds,c,h',v1,hr1,e,λH' r' z1 z2=>⟨rfl,r',z1,f1.trans z2⟩⟩
  .obtain⟨q1,r',q2,q3⟩:=q;cases q1;exact⟨a,H1,s1,H',σ,pins,r',rfl,I1,fl,q2,q3⟩
 .rw[Ev.rS g.nz _ hz]at e;cases e
end
section
variable{G:Tb}{cl:Nat->Addr}{bD:List (Str×Nat)}{rz su:List Nat}{n:Nat}{sc scope:Scope}{N N':List Str}{df:Bool}{m m':List Nat}{elt:E}{t:T}{it:Ev.It}{cond:Eo}{xe xi tg:Expr}{ifs:List Expr}{pos:Pos}{X:Cx}
noncomputable def v5(P:aB)(Xp:Ev.bS)(elt:E)(t:T)(cond:Eo)(fr:Fr):D->Hh->Ev.XR:=λd h2=>match Ev.aY t d fr with
 |some ak=>(match Ev.fO P cond ak h2 with
  |.ok true h3=>Ev.xe P Xp elt ak h3
  |_=>none)
 |none=>none
def IK(P:aB)(Xp:Ev.bS)(elt:E)(t:T)(it:Ev.It)(cond:Eo)(fr:Fr)(h:Hh):Ev.xe P Xp (.comp elt t it cond) fr h=match Ev.bQ P it fr h with
  |.ok s h1=>if Ev.undef t fr=true/\s.1.length<=Ev.big then Ev.dB (lG P elt t cond fr) (v5 P Xp elt t cond fr) s.2 s.1 h1 else none
  |.bad=>Ev.xi P Xp it fr h:=by
 simp only[Ev.xe];rfl
noncomputable def Gv(Y:Cx)(m':List Nat)(f:D->Hh->R (Option D))(g:D->Hh->Ev.XR)(fr:Fr)(src:Src)(fp:List Addr)(tn:Nat->Heap->Prop)(r2:List Addr)(H2:Hp)(Dd:Addr)(c:Nat)(hX:Hh)(k:Nat)(s:Shared):Prop:=
 ∃i iY Hc rc hc dn vs,Inv Y [] iY Hc s/\tn i s.heap/\(∀b∈fp,Hc b=none)/\k=src.1.length - i/\i<=src.1.length/\
  SR Y.K m' Hc rc fr iY/\HR Y.K Hc rc hc/\Fm Y.K r2 rc H2 Hc/\Hc Dd=some (.lst vs)/\Dd∉rc/\aF Y.K Hc rc dn vs/\dn.length<=i/\Ev.dB f g src.2 (src.1.drop i) hc=some (c,hX)
section
variable{Y:Cx}{sc':Scope}{J:L2.It}{fp:List Addr}{ita:Addr}{tn:Nat->Heap->Prop}{fr:Fr}{src:Src}{r2:List Addr}{H2:Hp}{Dd:Addr}{c:Nat}{hX:Hh}
def v8{i:Nat}{eg:L2.St}{H9:Hp}{r9:List Addr}{h9:Hh}{dn:List D}{vs:List V}{s9:Shared}{p:List (Addr×Obj)}{f:D->Hh->R (Option D)}{g:D->Hh->Ev.XR}(hlt:i<src.1.length)(I9:Inv Y ([]++p) eg H9 s9)(bk:tn (i+1) s9.heap/\∀b∈fp,H9 b=none)(q:SR Y.K m' H9 r9 fr eg)(gD:HR Y.K H9 r9 h9)(fm:Fm Y.K r2 r9 H2 H9)(lH:H9 Dd=some (.lst vs))(lI:Dd∉r9)(rv:aF Y.K H9 r9 dn vs)(hl:dn.length<=i+1)(e7:Ev.dB f g src.2 (src.1.drop (i+1)) h9=some (c,hX)) :
  ∃k,k<src.1.length - i/\Gv Y m' f g fr src fp tn r2 H2 Dd c hX k s9:=
 ⟨src.1.length - (i+1),WM hlt (WB i),i+1,eg,H9,r9,h9,dn,vs,I9.jH,bk.1,bk.2,rfl,hlt,q,gD,fm,lH,lI,rv,hl,e7⟩
def IL{i:Nat}{eg:L2.St}{H9:Hp}{r9:List Addr}{h9:Hh}{dn:List D}{vs:List V}{xd:D}{v10:V}{qG:Value}{s9:Shared}{p:List (Addr×Obj)}{f:D->Hh->R (Option D)}{g:D->Hh->Ev.XR}(hlt:i<src.1.length)(hbig:src.1.length<=Ev.big)(fR:H2 Dd=none)(gC:Good G n sc' N' false Y)(I9:Inv Y ([]++p) eg H9 s9)(pT:RelV v10 qG)(bk:∀{σ':L2.St}{H':Hp}{s':Shared},Inv Y ([]++p) σ' H' s'->tn (i+1) s'.heap/\∀b∈fp,H' b=none)(q:SR Y.K m' H9 r9 fr eg)(gD:HR Y.K H9 r9 h9)(fm:Fm Y.K r2 r9 H2 H9)(iL:H9 Dd=some (.lst vs))(mj:Dd∉r9)(rv:aF Y.K H9 r9 dn vs)(pU:RV Y.K H9 r9 xd v10)(hl:dn.length<=i)(e7:Ev.dB f g src.2 (src.1.drop (i+1)) h9=some (c,hX)) :
  wpAny (model Y.prog Y.w) Y.A (call (.builtin "list.append") [.ref Dd,qG]) (λ_ tZ=>∃k,k<src.1.length - i/\Gv Y m' f g fr src fp tn r2 H2 Dd c hX k tZ) b9 s9:=by
 have hlen:vs.length<sizeLine:=by
  have h1:=rv.length;rw[<-jO];omega
 refine aW (kC gC (mY _ s9 eg H9 (.ref Dd) [v10] (.ref Dd) [qG] (λ_ BK=>BK=upd H9 Dd (.lst (vs++[v10]))) I9 rfl (.cons pT .nil) ⟨Dd,vs,v10,rfl,rfl,iL,hlen,rfl⟩)) λ_ tZ ⟨_,BK,BL,_,DP⟩=>?_;subst DP;refine v8 (dn:=dn++[xd]) (vs:=vs++[v10]) hlt BL (bk BL) ?_ (gD.other iL mj) (fm.other fR iL) cJ mj ?_ (by simp;omega) e7
 .exact⟨q.len,λj i' d' a1 a2=>by
   obtain⟨w,b1,b2⟩:=q.sl j i' d' a1 a2;exact⟨w,b1,b2.grow (λ_ _ z=>z) (fz iL)⟩⟩
 .exact(rv.append (.cons pU .nil)).grow (λ_ _ z=>z) (fz iL)
def Aq(gC:Good G n sc' N' false Y)(hg:JG G n sc' N' false m' t tg)(hc:JC G n sc' N' false m' cond ifs)(he:JE G n sc' N' false m' elt xe)
  (kx:∀(pins:List (Addr×Obj)) (s:Shared) (σ:L2.St) (H:Hp) (r:List Addr) (fr:Fr) (h:Hh) (c:Nat) (h':Hh),Inv Y pins σ H s->SR Y.K m' H r fr σ->HR Y.K H r h->Ev.xe (Ev.run G.F G.w n) (Ev.bH G.F G.w n) elt fr h=some (c,h')->wpAny (model Y.prog Y.w) Y.A (eval xe Y.env) (λ_ _=>False) (Ed Y r H (cl c) h') s)
  (Tn:Turn Y.prog Y.w Y.K tg J fp ita tn) (iz:∀{Hc:Hp},(∀b∈fp,Hc b=none)->∀b∈fp,fq Y [] Hc b)
  (hu:Ev.undef t fr=true) (hJ:ng Y.K r2 H2 src J) (fR:H2 Dd=none) (hbig:src.1.length<=Ev.big) {R':Result->Shared->Prop}
  (DQ:∀e s',Ed Y r2 H2 (cl c) hX e s'->notedBy (model Y.prog Y.w) Y.A Y.env (λe s'=>R' (.error e) s') e s') {k:Nat} {s:Shared}
  (h:Gv Y m' (lG (Ev.run G.F G.w n) elt t cond fr) (v5 (Ev.run G.F G.w n) (Ev.bH G.F G.w n) elt t cond fr) fr src fp tn r2 H2 Dd c hX k s):codeAny (model Y.prog Y.w) Y.A (.compLoop (.ListComp xe [⟨tg,xi,ifs,0⟩] scope pos) 0 (.ref ita) (.ref Dd) Y.env) R' s:=by
 refine uz (Gv Y m' (lG (Ev.run G.F G.w n) elt t cond fr) (v5 (Ev.run G.F G.w n) (Ev.bH G.F G.w n) elt t cond fr) fr src fp tn r2 H2 Dd c hX) ?_ k h;rintro k s5 ⟨i,iY,Hc,rc,hc',dn,vs,I5,tE,mS,rfl,hle,tV,pq,mz,iL,mj,t8,Qj,e5⟩;have hlt:i<src.1.length:=by
  rcases Xc i src.1.length with z|z
  .exact z
  .have:i=src.1.length:=Xm hle z;rw[this,Xf]at e5;cases e5
 rw[Wh hlt]at e5;simp only[Ev.dB]at e5;split at e5
 case isFalse=>cases e5
 rename_i hst;obtain⟨hgo,_⟩:=hJ i Hc rc hc' pq mz hst;obtain⟨g1,g2⟩:=hgo src.1[i] (RY hlt);refine aW (Tn.item Y rfl rfl rfl gC.calm i [] s5 iY Hc b9 I5 (iz mS) tE g1) λrr s6 ⟨u,Li,h8⟩=>?_;subst Li;refine aW h8 λ_ s7 ⟨x,H7,I7,rx,y7,vz,Lj⟩=>?_;obtain⟨r7,v7,vA,jQ⟩:=g2 x H7 y7;obtain⟨DR,DS⟩:=jQ.di iL mj;have FO:=I7.pinned (iz Lj) (Tn.obj _ _ vz);have back:∀{σ':L2.St} {H':Hp} {s':Shared},Inv Y ([]++kL fp s7.heap) σ' H' s'->tn (i+1) s'.heap/\∀b∈fp,H' b=none:=λ{σ' H' s'} I'=>
  ⟨Tn.keep _ _ _ vz λb hb o e=>(I'.pin (b,o) (Vf _ (Vf _ (gg hb e)))).1,λb hb=>
   let ⟨o,e,_⟩:=Tn.obj _ _ vz b hb
   (I'.pin (b,o) (Vf _ (Vf _ (gg hb e)))).2.1⟩
 split at e5
 .rename_i o h6 e6;unfold lG at e6;split at e6
  .cases e6
  .rename_i ak eb;obtain⟨kk,h9,e9,e6⟩:=Ev.ah e6;refine aW (kC gC (hg _ gC _ s7 iY H7 x u (λeg H8=>H8=H7/\SR Y.K m' H7 r7 ak eg) FO rx ⟨r7,fr,hc',_,ak,tV.mono jQ,vA,v7,eb,λs' q=>⟨rfl,q⟩⟩)) λ_ s8 ⟨eg,H8,I8,BO,mC⟩=>?_;subst BO;refine aW (kC gC (hc _ gC _ s8 eg _ (λb H9=>b=kk/\∃r9,HR Y.K H9 r9 h9/\Fm Y.K r7 r9 _ H9) I8 ⟨r7,ak,hc',kk,h9,mC,vA,e9,λH9 r9 gD f9=>⟨rfl,r9,gD,f9⟩⟩)) λbb s9 ⟨H9,I9,u9,r9,gD,g7⟩=>?_;subst u9;obtain⟨lI,lH⟩:=g7.di DS DR;cases bb with
   |false=>
    simp only[Vi,VG]at e6 ⊢;cases e6;exact v8 hlt I9 (back I9) ((mC.mono g7).unbind eb hu) gD ((mz.trans jQ).trans g7) lH lI ((t8.mono jQ).mono g7) (Yi Qj) e5
   |true=>
    simp only[Vj]at e6 ⊢;obtain⟨xd,mD,BP,e6⟩:=Ev.ah e6;cases e6;refine Uo (aW (kC gC (he _ gC _ s9 eg H9 (λv ni=>∃kR,RV Y.K ni kR xd v/\HR Y.K ni kR _/\Fm Y.K r9 kR H9 ni) I9 ⟨r9,ak,h9,xd,_,mC.mono g7,gD,BP,λv ni kR v10 pV t9=>⟨kR,v10,pV,t9⟩⟩)) λqG FP ⟨v10,ni,Lk,pT,kR,pU,pV,lJ⟩=>?_) (λ_ _ q=>q) λ_ _ z=>z.elim;obtain⟨Ad,Ae⟩:=lJ.di lH lI;exact IL hlt hbig fR gC Lk pT back (((mC.mono g7).mono lJ).unbind eb hu) pV (((mz.trans jQ).trans g7).trans lJ) Ae Ad (((t8.mono jQ).mono g7).mono lJ) pU Qj e5
 .unfold v5 at e5;split at e5
  case h_2=>cases e5
  rename_i ak eb;split at e5
  case h_2=>cases e5
  rename_i h9 e9;refine aW (kC gC (hg _ gC _ s7 iY H7 x u (λeg H8=>H8=H7/\SR Y.K m' H7 r7 ak eg) FO rx ⟨r7,fr,hc',_,ak,tV.mono jQ,vA,v7,eb,λs' q=>⟨rfl,q⟩⟩)) λ_ s8 ⟨eg,H8,I8,BO,mC⟩=>?_;subst BO;refine aW (kC gC (hc _ gC _ s8 eg _ (λb H9=>b=true/\∃r9,HR Y.K H9 r9 h9/\Fm Y.K r7 r9 _ H9) I8 ⟨r7,ak,hc',true,h9,mC,vA,e9,λH9 r9 gD f9=>⟨rfl,r9,gD,f9⟩⟩)) λbb s9 ⟨H9,I9,u9,r9,gD,g7⟩=>?_;subst u9;simp only[Vj];refine Uo (kx _ s9 eg H9 r9 ak h9 c hX I9 (mC.mono g7) gD e5) (λ_ _ z=>z.elim) λe s' q=>DQ e s' ?_;obtain⟨a,H1,s1,H',σ1,p1,r',q1,q2,q3,q4,q5⟩:=q;exact⟨a,H1,s1,H',σ1,p1,r',q1,q2,q3,q4,((mz.trans jQ).trans g7).trans q5⟩
end
def Ar{Ex:XK}(gX:GX G cl bD rz su n sc N df Ex X)(hi:JI G n sc N df m it tg xi)(hg:JG G n (cV sc scope) N' false m' t tg)(hc:JC G n (cV sc scope) N' false m' cond ifs)(he:JE G n (cV sc scope) N' false m' elt xe)
  (kb:Gu G cl bD rz su n sc (cV sc scope) N N' df m' elt xe)
  (hn:namesOk sc N m scope t N' m') (hs:jP sc scope) {cls:List (Str×Addr)} (gw:∀x c,cls.lookup x=some c->X.env.cells.lookup x=some c) (jh:∀x,(x,NameKind.free)∈scope.names->∃c,cls.lookup x=some c)
  {pins:List (Addr×Obj)} {σ:L2.St} {H:Hp} {s:Shared} (I:Inv X pins σ H s) {r:List Addr} {fr:Fr} {h:Hh} {c:Nat} {hX:Hh} {src:Src} {h1:Hh} (sr:SR X.K m H r fr σ) (hr:HR X.K H r h)
  (e1:Ev.bQ (Ev.run G.F G.w n) it fr h=.ok src h1) (hu:Ev.undef t fr=true) (hbig:src.1.length<=Ev.big) (e2:Ev.dB (lG (Ev.run G.F G.w n) elt t cond fr) (v5 (Ev.run G.F G.w n) (Ev.bH G.F G.w n) elt t cond fr) src.2 src.1 h1=some (c,hX))
  (q:∀H' r',HR X.K H' r' hX->Fm X.K r r' H H'->Ex (.ref (cl c)) none H') {Qv:Value->Shared->Prop} :
  wpAny (model X.prog X.w) X.A (eval xi X.env) (λx s₁=>wpAny (model X.prog X.w) X.A (pyIter x) (λitv s₂=>wpAny (model X.prog X.w) X.A (newList []) (λacc s₃=>
   wpAny (model X.prog X.w) X.A (newFunctionEnv scope X.env.globals cls [] X.env.qual none .none (some X.env)) (λcenv s₄=>
    codeAny (model X.prog X.w) X.A (.compStart (.ListComp xe [⟨tg,xi,ifs,0⟩] scope pos) 0 itv acc { cenv with scope:=relabel scope X.env }) (compPost (model X.prog X.w) X.A X.xe none Qv acc cenv.locals) s₄) X.xe s₃) X.xe s₂) X.xe s₁) X.xe s:=by
 have g:=gX.g;refine aW (PI.cY (hi X.cY g) pins s σ H (λJ H2=>∃r2,HR X.K H2 r2 h1/\Fm X.K r r2 H H2/\ng X.K r2 H2 src J) I ⟨r,fr,h,src,h1,sr,hr,e1,λJ H2 r2 hr2 f2 hJ=>⟨r2,hr2,f2,hJ⟩⟩) λv s1 q1=>?_;refine aW q1 λitv s2 q2=>?_;obtain⟨ita,fp,tn,J,H2,rfl,I2,Tn,st2,f2,r2,hr2,vC,hJ⟩:=q2;refine VZ ?_;generalize qH:s2.heap.objs.size=Dd
 have fR:H2 Dd=none:=by rw[<-qH];exact I2.fresh
 have I3:Inv X pins σ (upd H2 Dd (.lst [])) { s2 with heap:=s2.heap.push { cls:=.type "list",data:=.seq ([]:List Value).toArray }}:=by
  have:=I2.zW (ys:=[]) (its:=[]) (t':=s2.toks) .nil (VQ _);rw[qH]at this;exact this
 have vD:∀b∈fp,b<s2.heap.objs.size:=λb hb=>by
  obtain⟨o,e,_⟩:=Tn.obj 0 _ st2 b hb;exact zo e
 generalize vE:({ s2 with heap:=s2.heap.push { cls:=.type "list",data:=.seq ([]:List Value).toArray }}:Shared)=s3 at I3
 have DT:s3.heap.objs.size=s2.heap.objs.size+1:=by rw[<-vE];exact Xw ..
 have k3:∀b o,s2.heap.get? b=some o->s3.heap.get? b=some o:=λb o e=>by rw[<-vE];exact AQ _ e
 have vF:∀b∈fp,b<s3.heap.objs.size:=λb hb=>eE (vD b hb) (by rw[DT];exact Nat.le_succ _);have iQ:∀b∈fp,fq X pins (upd H2 Dd (.lst [])) b:=λb hb=>⟨by rw[aV (λz=>absurd (vD b hb) (by rw[z,qH];exact Vx _))];exact(f2 b hb).1,(f2 b hb).2⟩
 refine wpAny_newFunctionEnv (hs.vt) (λy hy=>by simp at hy) (λvG DU DV=>?_) hs.kind;have k4:∀b o,s3.heap.get? b=some o->vG.get? b=some o:=λb o e=>DV.extBut b o (Vk (zo e)) (AQ _ e);have gC:Good G n (cV sc scope) N' false (j4 X.cY N' scope cls s3.heap.objs.size s3 (upd H2 Dd (.lst [])) fp):=g.comp;have I4:Inv (j4 X.cY N' scope cls s3.heap.objs.size s3 (upd H2 Dd (.lst [])) fp) [] (sig scope N N' m' X.K (upd H2 Dd (.lst [])) r2 fr σ) (upd H2 Dd (.lst [])) { s3 with heap:=vG,toks:=s3.toks+0 }:=
  vv g (I3.fT _) hs gw jh iQ vF DU k4
 have yr:SR X.K m' (upd H2 Dd (.lst [])) r2 fr (sig scope N N' m' X.K (upd H2 Dd (.lst [])) r2 fr σ):=BJ (((sr.mono vC).mono (Fm.tup fR))) hn hu;have j3:HR X.K (upd H2 Dd (.lst [])) r2 h1:=hr2.tup fR;have FQ:Dd∉r2:=λhm=>by
  obtain⟨k,hk⟩:=WK hm;have hlt:k<h1.length:=by rw[<-hr2.len];exact(List.getElem?_eq_some_iff.mp hk).1
  obtain⟨a,e3,e4⟩:=hr2.ob k _ (RY hlt);rw[hk]at e3;cases e3;cases eo:h1[k]with
  |lst dd=>rw[eo]at e4;obtain⟨us,e5,_⟩:=e4;rw[fR]at e5;cases e5
  |bE dd=>
   rw[eo]at e4;obtain⟨us,e5,_⟩:=e4;rcases e5 with ⟨ob,e5⟩|⟨ob,_,_,e5,_⟩
   .rw[fR]at e5;cases e5
   .have:=zo (I2.dQ _ _ e5);rw[qH]at this;exact absurd this (Vx _)
  |dm kvs=>rw[eo]at e4;have e5:=e4.1;rw[fR]at e5;cases e5
 have iz:∀{Hc:Hp},(∀b∈fp,Hc b=none)->∀b∈fp,fq (j4 X.cY N' scope cls s3.heap.objs.size s3 (upd H2 Dd (.lst [])) fp) [] Hc b:=λ{Hc} hz b hb=>by
  refine⟨hz b hb,Vk (vF b hb),(I4.ok).mL b hb,.inl hb,λx c e=>((I4.ok).xZ b hb).2 x c e,λp hp=>?_⟩;simp[j4]at hp
 have fin:codeAny (model X.prog X.w) X.A (.compLoop (.ListComp xe [⟨tg,xi,ifs,0⟩] scope pos) 0 (.ref ita) (.ref Dd) (compEnvC scope cls s3.heap.objs.size X.env)) (compPost (model X.prog X.w) X.A X.xe none Qv (.ref Dd) s3.heap.objs.size) { s3 with heap:=vG,toks:=s3.toks+0 }:=by
  refine Aq (Y:=j4 X.cY N' scope cls s3.heap.objs.size s3 (upd H2 Dd (.lst [])) fp) gC hg hc he (λpins s σ H r fr h c h'=>kb X Ex gX _ gC rfl rfl rfl rfl rfl pins s σ H r fr h c h') Tn iz hu hJ fR hbig (c:=c) (hX:=hX) (λe s' z=>?_) ⟨0,_,_,r2,h1,[],[],I4,Tn.keep _ _ _ st2 λb hb o eo=>k4 b o (k3 b o eo),λb hb=>(iQ b hb).1,rfl,VQ _,yr,j3,Fm.tup fR,cJ,FQ,.nil,VQ _,by rw[Wq];exact e2⟩;obtain⟨a,H1,s1,H',σ1,p1,r',rfl,I1,fl,z4,z5⟩:=z;have IX:Inv X pins σ H1 s1:=I3.oB (ch:=fp) (I1.os) I1.base I1.hok I1.bare λb hb=>⟨(iQ b hb).2.2.2.1,(iQ b hb).2.1,(iQ b hb).2.2.2.2.1,(iQ b hb).2.2.2.2.2⟩
  obtain⟨Ll,DW,_⟩:=I1.loc;have Qk:H1 s3.heap.objs.size=none:=I1.free;have Gp:s3.heap.objs.size∉frs X.stack:=λz=>by
   obtain⟨_,o,eo,_⟩:=I3.stack.mem z;exact absurd (zo eo) (Vx _)
  obtain⟨oK,eK,LV,gK,rK⟩:=DW;have T3:H' s3.heap.objs.size=none:=fl.un.free _ oK gK Qk (by simp);refine Uo (gX.cm pins σ H1 s1 a (cl c) s3.heap.objs.size H' s' (compEnvC scope cls s3.heap.objs.size X.env) rfl IX fl (q H' r' z4 (vC.trans z5)) (I3.zL (Qq _) T3) ⟨Ll,oK,eK,LV,gK,rK⟩ Qk) (λ_ s2 y=>(let ⟨⟨mq,yq⟩,zq⟩:=y;⟨mq,yq,zq⟩:compPost (model X.prog X.w) X.A X.xe none Qv (.ref Dd) s3.heap.objs.size (.error (.ref a)) s2)) λ_ _ y=>y.elim
 subst vE;exact Xo fin (Tn.self _ 0 _ _ _ (Tn.keep _ _ _ st2 λb hb o eo=>k4 b o (k3 b o eo)) fin)
def IM(hi:JI G n sc N df m it tg xi)(ki:Gs G cl bD rz su n sc N df m it xi)(hg:JG G n (cV sc scope) N' false m' t tg)(hc:JC G n (cV sc scope) N' false m' cond ifs)(he:JE G n (cV sc scope) N' false m' elt xe)
  (kb:Gu G cl bD rz su n sc (cV sc scope) N N' df m' elt xe) (hn:namesOk sc N m scope t N' m') (hs:jP sc scope) (hf:∀(env:Env) x,foldedSetIterable xi env x=pure x:=by intro _ _;rfl) :
  ny G cl bD rz su n sc N df m (.comp elt t it cond) (.ListComp xe [⟨tg,xi,ifs,0⟩] scope pos):=λX Ex g pins s σ H Q I q=>by
 obtain⟨r,fr,h,c,h',sr,hr,e,q⟩:=q;obtain⟨cls,hcl,gw,jh⟩:=g.g.cells (I.fT _) hs;rw[eval_ListComp];refine Xh (use:=none) (Q:=EP X pins σ Q) rfl (hf _) hcl hs.kind hs.loc ?_;rw[IK]at e;split at e
 .rename_i src h1 e1;split at e
  case isFalse=>cases e
  rename_i hu;exact Ar g hi hg hc he kb hn hs gw jh I sr hr e1 hu.1 hu.2 e q
 .exact Uo (ki X Ex g pins s σ H I ⟨r,fr,h,c,h',sr,hr,e,q⟩) (λ_ _ z=>z.elim) λ_ _ z=>z
def Ci(hn:qF sc N m scope t (cN N m scope tg) (cM N m scope t)=true)(hs:FJ sc scope=true)(hi:JI G n sc N df m it tg xi)(ki:Gs G cl bD rz su n sc N df m it xi)(hg:JG G n (cV sc scope) (cN N m scope tg) false (cM N m scope t) t tg)(hc:JC G n (cV sc scope) (cN N m scope tg) false (cM N m scope t) cond ifs)
  (he:JE G n (cV sc scope) (cN N m scope tg) false (cM N m scope t) elt xe) (kb:Gu G cl bD rz su n sc (cV sc scope) N (cN N m scope tg) df (cM N m scope t) elt xe) (hf:∀(env:Env) x,foldedSetIterable xi env x=pure x:=by intro _ _;rfl):ny G cl bD rz su n sc N df m (.comp elt t it cond) (.ListComp xe [⟨tg,xi,ifs,0⟩] scope pos):=
 IM hi ki hg hc he kb (namesOk.of hn) (jP.of hs) hf
end
end Sm
namespace Pv
open Ev (D aQ aK TY BI ME T E Es Eo It S Ss Fn big deep b2i rep bG cK bg aI cut aP bZ slots)
def nd{α:Type _}{a b:α}(h:a=b):a=b:=h
inductive V where
 |bf|bl (b:Bool)|int (i:Int)|str (s:List Nat)|tup (l:List V)|lst (l:List V)|bE (l:List V)
 |dm (kvs:List (List Nat×List Nat))
inductive Sl where
 |val (v:V)|own (l:List V)|bor (l:List V)|ro (l:List V)
abbrev Fr:=List (Option Sl)
inductive R(α:Type) where
 |ok (a:α) (fr:Fr)
 |bad
noncomputable def R.bind{α β:Type}(r:R α)(f:α->Fr->R β):R β:=
 match r with
 |.ok a h=>f a h
 |.bad=>.bad
@[simp] theorem aj{α β:Type}(a:α)(h:Fr)(f:α->Fr->R β):(R.ok a h).bind f=f a h:=nd rfl
@[simp] theorem DH{α β:Type}(f:α->Fr->R β):(R.bad:R α).bind f=.bad:=nd rfl
def ah{α β:Type}{r:R α}{f:α->Fr->R β}{b:β}{h:Fr}(e:r.bind f=.ok b h):∃a h1,r=.ok a h1/\f a h1=.ok b h:=by
 cases r with
 |ok a h1=>exact⟨a,h1,rfl,e⟩
 |bad=>cases e
noncomputable def R.of{α:Type}(o:Option α)(h:Fr):R α:=match o with
 |some a=>.ok a h
 |none=>.bad
@[simp] theorem cB{α:Type}(a:α)(h:Fr):R.of (some a) h=.ok a h:=nd rfl
@[simp] theorem of_none{α:Type}(h:Fr):R.of (none:Option α) h=.bad:=nd rfl
def aC{α:Type}{o:Option α}{h h':Fr}{a:α}(e:R.of o h=.ok a h'):o=some a/\h'=h:=by
 cases o with
 |none=>cases e
 |some b=>cases e;exact⟨rfl,rfl⟩
inductive Fl where
 |nx|bk|ct|ret (v:V)
mutual
noncomputable def ofD:D->Option V
 |.bf=>some .bf
 |.bl b=>some (.bl b)
 |.int i=>some (.int i)
 |.str s=>some (.str s)
 |.tup ds=>(v9 ds).map .tup
 |.ref _=>none
noncomputable def v9:List D->Option (List V)
 |[]=>some []
 |d :: ds=>(ofD d).bind λv=>(v9 ds).map λvs=>v :: vs
end
noncomputable def b5(f:V->V->Option Bool):List V->List V->Option Bool
 |[],[]=>some true
 |x :: xs,y :: ys=>(f x y).bind λb=>(b5 f xs ys).bind λc=>some (b&&c)
 |_,_=>some false
noncomputable def dR:Nat->V->V->Option Bool
 |0,_,_=>none
 |_+1,.bf,.bf=>some true
 |_+1,.bl a,.bl b=>some (a==b)
 |_+1,.int a,.int b=>some (a==b)
 |_+1,.bl a,.int b=>some (b2i a==b)
 |_+1,.int a,.bl b=>some (a==b2i b)
 |_+1,.str a,.str b=>some (a==b)
 |n+1,.tup a,.tup b=>b5 (dR n) a b
 |n+1,.lst a,.lst b=>b5 (dR n) a b
 |n+1,.bE a,.lst b=>b5 (dR n) a b
 |n+1,.lst a,.bE b=>b5 (dR n) a b
 |_+1,.bE _,.bE _=>none
 |_+1,.dm _,_=>none
 |_+1,_,.dm _=>none
 |_+1,_,_=>some false
noncomputable def truthy:V->Bool
 |.bf=>false
 |.bl b=>b
 |.int i=>i != 0
 |.str s=>!s.isEmpty
 |.tup ds=>!ds.isEmpty
 |.lst ds=>!ds.isEmpty
 |.bE ds=>!ds.isEmpty
 |.dm kvs=>!kvs.isEmpty
noncomputable def fF(l:List V):Option V:=if l.length<=big then some (.lst l)else none
noncomputable def g8(l:List V):Option V:=if l.length<=big then some (.tup l)else none
noncomputable def bY:aQ->V->V->Option V
 |.add,.int i,.int j=>some (.int (i+j))
 |.add,.str a,.str b=>if a.length+b.length<=big then some (.str (a++b))else none
 |.add,.tup a,.tup b=>if a.length+b.length<=big then some (.tup (a++b))else none
 |.add,.lst a,.lst b=>fF (a++b)
 |.sub,.int i,.int j=>some (.int (i - j))
 |.mul,.int i,.int j=>if bG i j then some (.int (i*j))else none
 |.mul,.str a,.int k=>if 0<=k/\k<=1000/\a.length<=1000 then some (.str (rep k.toNat a))else none
 |.mul,.tup a,.int k=>if 0<=k/\k<=1000/\a.length<=1000 then some (.tup (rep k.toNat a))else none
 |.mul,.lst a,.int k=>if 0<=k/\k<=1000/\a.length<=1000 then fF (rep k.toNat a)else none
 |.fdiv,.int i,.int j=>if 0<j/\j<1073741824 then some (.int (i / j))else none
 |.mod,.int i,.int j=>if 0<j then some (.int (i % j))else none
 |_,_,_=>none
noncomputable def mem(x:V):List V->Option Bool
 |[]=>some false
 |y :: ys=>(dR deep y x).bind λb=>(mem x ys).bind λc=>some (b ||c)
noncomputable def isin(x y:V):Option Bool:=match y with
 |.str s=>match x with
  |.str [c]=>some (s.contains c)
  |_=>none
 |.tup ds=>mem x ds
 |.lst ds=>mem x ds
 |.bE ds=>mem x ds
 |_=>none
noncomputable def cop(o:aK)(x y:V):Option Bool:=match o,x,y with
 |.eq,x,y=>dR deep x y
 |.ne,x,y=>(dR deep x y).map (!·)
 |.lt,.int i,.int j=>some (decide (i<j))
 |.le,.int i,.int j=>some (decide (i<=j))
 |.gt,.int i,.int j=>some (decide (j<i))
 |.ge,.int i,.int j=>some (decide (j<=i))
 |.isin,x,y=>isin x y
 |.di,x,y=>(isin x y).map (!·)
 |_,_,_=>none
noncomputable def As:V->V->Option V
 |.dm kvs,.str k=>(Ev.rQ kvs k).map .str
 |_,_=>none
noncomputable def gz(x y:V):Option V:=match x,y with
 |.tup ds,.int i=>bg ds i
 |.str s,.int i=>(bg s i).map λc=>.str [c]
 |.lst ds,.int i=>bg ds i
 |.bE ds,.int i=>bg ds i
 |_,_=>none
noncomputable def iJ(x:V)(lo hi:Option Int):Option V:=match x with
 |.tup ds=>some (.tup (cut ds lo hi))
 |.str s=>some (.str (cut s lo hi))
 |.lst ds=>fF (cut ds lo hi)
 |.bE ds=>fF (cut ds lo hi)
 |_=>none
noncomputable def toT:V->Option V
 |.tup l=>some (.tup l)
 |.lst l=>g8 l
 |.bE l=>g8 l
 |_=>none
noncomputable def cF:V->TY->Bool
 |.bl _,.bool=>true
 |.bl _,.int=>true
 |.int _,.int=>true
 |.str _,.str=>true
 |.tup _,.tuple=>true
 |.lst _,.list=>true
 |.bE _,.list=>true
 |_,_=>false
noncomputable def boolsOf:List V->Option (List Bool)
 |[]=>some []
 |.bl b :: ds=>(boolsOf ds).map λr=>b :: r
 |_=>none
noncomputable def intsOf:List V->Option (List Int)
 |[]=>some []
 |.int i :: ds=>(intsOf ds).map λr=>i :: r
 |_=>none
noncomputable def strsOf:List V->Option (List (List Nat))
 |[]=>some []
 |.str s :: ds=>(strsOf ds).map λr=>s :: r
 |_=>none
noncomputable def pD:V->Option (List V)
 |.lst l=>some l
 |.bE l=>some l
 |_=>none
noncomputable def dM(b:BI)(xs:List V):Option V:=match b,xs with
 |.len,[.str s]=>if s.length<=big then some (.int s.length)else none
 |.len,[.tup ds]=>some (.int ds.length)
 |.len,[x]=>(pD x).map λds=>.int ds.length
 |.all,[x]=>((pD x).bind boolsOf).map λbs=>.bl (bs.all id)
 |.sum,[x]=>((pD x).bind intsOf).map λis=>.int is.sum
 |.min,[.int i,.int j]=>some (.int (if j<i then j else i))
 |.ve,[.bl b]=>some (.int (if b then 1 else 0))
 |.fK,[.int i]=>if -1000000<i/\i<1000000 then some (.str (Ev.dw i))else none
 |.fK,[.str s]=>some (.str s)
 |.lD,[.str s]=>(Ev.kq s).map .int
 |_,_=>none
noncomputable def cI(m:ME)(o:V)(xs:List V):Option V:=match m,o,xs with
 |.join,.str sep,[x]=>((pD x).bind strsOf).bind λss=>if (ss.map (·.length)).sum+ss.length*sep.length<=big then some (.str (aP sep ss))else none
 |.part,.str a,[.str y]=>if y=[]then none else some (.tup ((Ev.eH a y).map .str))
 |.idxs,.str a,[.str y]=>(Ev.findS y 0 a).map λ(k:Nat)=>.int k
 |_,_,_=>none
noncomputable def nB(m:ME)(l:List V)(xs:List V):Option (V×List V):=match m,xs with
 |.append,[x]=>if l.length<big then some (.bf,l++[x])else none
 |.extend,[.lst es]=>if l.length+es.length<=big then some (.bf,l++es)else none
 |.pop,[]=>match l[l.length - 1]? with
  |some x=>some (x,l.dropLast)
  |none=>none
 |_,_=>none
noncomputable def yP:ME->Bool
 |.extend=>true
 |_=>false
noncomputable def iB:ME->Bool
 |.append=>true
 |.extend=>true
 |.pop=>true
 |_=>false
noncomputable def uH:V->Bool
 |.bf=>true
 |.bl _=>true
 |.int _=>true
 |.str _=>true
 |_=>false
noncomputable def Au(x:V):List (D×D)->Option V
 |[]=>none
 | (k,v) :: r=>match (ofD k).bind λk'=>dR 1 k' x with
  |some true=>ofD v
  |some false=>Au x r
  |none=>none
noncomputable def eL(x:V)(kvs:List (D×D)):Option V:=if uH x then Au x kvs else none
noncomputable def gj:V->Option (List V)
 |.tup ds=>some ds
 |.str s=>some (s.map λc=>.str [c])
 |.lst ds=>some ds
 |.bE ds=>some ds
 |_=>none
noncomputable def L3:V->Option (List V)
 |.tup ds=>some ds
 |_=>none
noncomputable def range(lo:Int)(n:Nat):List V:=(List.range n).map λ(i:Nat)=>.int (lo+i)
noncomputable def dP:List V->Option (List V)
 |[.int j]=>if -(2 ^ 62)<=j/\j<2 ^ 62 then some (range 0 j.toNat)else none
 |[.int i,.int j]=>if -(2 ^ 62)<=i/\i<2 ^ 62/\-(2 ^ 62)<=j/\j<2 ^ 62 then some (range i (j - i).toNat)else none
 |_=>none
noncomputable def qc(x y:V):Option (List V):=match x,y with
 |.str a,.str [c]=>if c<128 then some ((Ev.aD c a).map .str)else none
 |_,_=>none
noncomputable def gH:Int->List V->List V
 |_,[]=>[]
 |k,x :: xs=>.tup [.int k,x] :: gH (k+1) xs
noncomputable def put(fr:Fr)(i:Nat)(s:Sl):Option Fr:=match fr[i]? with
 |some (some (.bor _))=>none
 |some (some (.ro _))=>none
 |_=>some (fr.set i (some s))
noncomputable def dz:List Nat->List V->Fr->Option Fr
 |[],[],fr=>some fr
 |i :: is,d :: ds,fr=>(put fr i (.val d)).bind (dz is ds)
 |_,_,_=>none
noncomputable def aY:T->V->Fr->Option Fr
 |.one i,d,fr=>put fr i (.val d)
 |.many l,.tup ds,fr=>dz l ds fr
 |_,_,_=>none
noncomputable def undef(t:T)(fr:Fr):Bool:=(slots t).all λi=>(fr[i]?.join).isNone
noncomputable def Sl.read:Sl->Sl
 |.own l=>.ro l
 |.bor l=>.ro l
 |s=>s
noncomputable def j6(fr:Fr):Fr:=fr.map (Option.map Sl.read)
noncomputable def Sl.gU:Sl->Sl
 |.own l=>.val (.lst l)
 |s=>s
noncomputable def jw(fr:Fr):Fr:=fr.map (Option.map Sl.gU)
noncomputable def Sl.walk:Sl->Sl
 |.own l=>.val (.lst l)
 |.bor l=>.ro l
 |s=>s
noncomputable def qL(is:List Nat)(fr:Fr):Fr:=is.foldl (λfr i=>match fr[i]? with
 |some (some s)=>fr.set i (some s.walk)
 |_=>fr) fr
noncomputable def Sl.out:Sl->Option (List V)
 |.bor l=>some l
 |.ro l=>some l
 |_=>none
noncomputable def Sl.lend:Sl->Option Sl
 |.own l=>some (.bor l)
 |.bor l=>some (.bor l)
 |.ro l=>some (.ro l)
 |.val _=>none
noncomputable def lent(fr:Fr)(i:Nat):Option Sl:=match fr[i]? with
 |some (some s)=>s.lend
 |_=>none
noncomputable def Sl.with:Sl->List V->Sl
 |.own _,l=>.own l
 |.bor _,l=>.bor l
 |s,_=>s
noncomputable def back:List Nat->List (List V)->Fr->Option Fr
 |[],[],fr=>some fr
 |i :: is,l :: ls,fr=>match fr[i]? with
  |some (some s)=>back is ls (fr.set i (some (s.with l)))
  |_=>none
 |_,_,_=>none
noncomputable def bu(f:V->Option (Option V)):List V->Option (List V)
 |[]=>some []
 |d :: ds=>(f d).bind λo=>(bu f ds).bind λr=>some (o.toList++r)
noncomputable def forL(f:V->Fr->R Fl):List V->Fr->R Fl
 |[],fr=>.ok .nx fr
 |d :: ds,fr=>(f d fr).bind λp af=>match p with
   |.nx=>forL f ds af
   |.ct=>forL f ds af
   |.bk=>.ok .nx af
   |.ret x=>.ok (.ret x) af
noncomputable def eT(t:Fr->R Bool)(f:Fr->R Fl):Nat->Fr->R Fl
 |0,_=>.bad
 |n+1,fr=>(t fr).bind λb af=>if b then (f af).bind λp ak=>match p with
   |.nx=>eT t f n ak
   |.ct=>eT t f n ak
   |.bk=>.ok .nx ak
   |.ret x=>.ok (.ret x) ak
  else .ok .nx af
noncomputable def jI:Es->List Nat
 |.nil=>[]
 |.cons (.v i) es=>i :: jI es
 |.cons _ es=>jI es
noncomputable def Ql(m:ME):E->List Nat
 |.v i=>if iB m then [i]else []
 |_=>[]
mutual
noncomputable def bh:E->List Nat
 |.c _=>[]|.v _=>[]|.tup es=>eF es|.lst es=>eF es
 |.bin _ a b=>bh a++bh b|.cmp _ a b=>bh a++bh b
 |.ch _ _ a b c=>bh a++(bh b++bh c)
 |.nt a=>bh a|.neg a=>bh a|.an a b=>bh a++bh b|.orr a b=>bh a++bh b|.o8 t a b=>bh t++(bh a++bh b)
 |.ix a b=>bh a++bh b|.sl a lo hi=>bh a++(kD lo++kD hi)
 |.cl _ es=>eF es++jI es|.bi _ es=>eF es|.me m o es=>bh o++(eF es++Ql m o)
 |.dY a _=>bh a
 |.comp _ _ it _=>Ef it
 |.gq it=>Ef it
 |.eS _ a=>bh a
 |.jt _=>[]|.jK a k=>bh a++bh k
 |.fc a=>bh a
noncomputable def eF:Es->List Nat
 |.nil=>[]
 |.cons e es=>bh e++eF es
noncomputable def kD:Eo->List Nat
 |.no=>[]
 |.yes e=>bh e
noncomputable def Ef:It->List Nat
 |.seq e=>bh e|.eW es=>eF es
 |.ju a b=>bh a++bh b
 |.enum a=>bh a|.rev a=>bh a
end
noncomputable def kf(a:E)(l:List Nat):Bool:=match a with
 |.v i=>!l.contains i
 |_=>l.isEmpty
noncomputable def itv:It->List Nat
 |.seq (.v i)=>[i]
 |.enum (.v i)=>[i]
 |.rev (.v i)=>[i]
 |_=>[]
abbrev aB:=Nat->List Sl->Option (V×List (List V))
noncomputable def intOf:V->Option Int
 |.int i=>some i
 |_=>none
noncomputable def nC(k:Bool)(fr:Fr)(i:Nat):Option V:=match fr[i]? with
 |some (some (.val v))=>some v
 |some (some (.own l))=>if k then some (.lst l)else none
 |some (some (.bor l))=>if k then some (.lst l)else none
 |some (some (.ro l))=>if k then some (.lst l)else none
 |_=>none
noncomputable def Av(k:Bool)(fr:Fr)(i:Nat):Option V:=match fr[i]? with
 |some (some (.ro l))=>some (.lst l)
 |_=>nC k fr i
noncomputable def src(k:Bool)(fr:Fr)(e:E)(r:R V):R V:=match e with
 |.v i=>R.of (Av k fr i) fr
 |_=>r
noncomputable def fG(fr:Fr):E->Option Nat
 |.v i=>if (lent fr i).isSome then some i else none
 |_=>none
noncomputable def args(fr:Fr):List (Nat ⊕ V)->Option (List Sl)
 |[]=>some []
 |.inl i :: r=>(lent fr i).bind λs=>(args fr r).map λl=>s :: l
 |.inr v :: r=>(args fr r).map λl=>.val v :: l
noncomputable def bB:List (Nat ⊕ V)->List Nat
 |[]=>[]
 |.inl i :: r=>i :: bB r
 |.inr _ :: r=>bB r
noncomputable def dI(P:aB)(f:Nat)(as:List (Nat ⊕ V))(fr:Fr):R V:=
 if (bB as).Nodup then match args fr as with
  |some sl=>match P f sl with
   |some (v,outs)=>R.of ((back (bB as) outs fr).map λaf=>(v,af)) fr |>.bind λp _=>.ok p.1 p.2
   |none=>.bad
  |none=>.bad
 else .bad
mutual
noncomputable def ev(P:aB):Bool->E->Fr->R V
 |_,.c d,fr=>R.of (ofD d) fr
 |k,.v i,fr=>R.of (nC k fr i) fr
 |_,.tup es,fr=>(bJ P false es fr).bind λds af=>R.of (g8 ds) af
 |_,.lst es,fr=>(bJ P false es fr).bind λds af=>R.of (fF ds) af
 |_,.bin o a b,fr=>(ev P (kf a (bh b)) a fr).bind λx af=>(ev P true b af).bind λy ak=>R.of (bY o x y) ak
 |_,.cmp o a b,fr=>(ev P (kf a (bh b)) a fr).bind λx af=>(ev P true b af).bind λy ak=>R.of ((cop o x y).map .bl) ak
 |_,.jt kvs,fr=>if kvs=[]then .bad else .ok (.dm kvs) fr
 |_,.jK a b,fr=>(ev P (kf a (bh b)) a fr).bind λx af=>(ev P true b af).bind λy ak=>R.of (As x y) ak
 |_,.ch o p a b c,fr=>(ev P (kf a (bh b)) a fr).bind λx af=>(ev P (kf b (bh c)) b af).bind λy ak=>(R.of (cop o x y) ak).bind λk bw=>
   if k then (ev P true c bw).bind λz fV=>R.of ((cop p y z).map .bl) fV else .ok (.bl false) bw
 |_,.nt a,fr=>(ev P true a fr).bind λx af=>match x with
   |.bl b=>.ok (.bl (!b)) af
   |_=>.bad
 |_,.neg a,fr=>(ev P true a fr).bind λx af=>match x with
   |.int i=>.ok (.int (-i)) af
   |_=>.bad
 |k,.an a b,fr=>(ev P true a fr).bind λx af=>match x with
   |.bl true=>ev P k b af
   |.bl false=>.ok (.bl false) af
   |_=>.bad
 |k,.orr a b,fr=>(ev P true a fr).bind λx af=>match x with
   |.bl true=>.ok (.bl true) af
   |.bl false=>ev P k b af
   |_=>.bad
 |k,.o8 t a b,fr=>(aG P t fr).bind λc af=>if c then ev P k a af else ev P k b af
 |_,.ix a b,fr=>(ev P (kf a (bh b)) a fr).bind λx af=>(ev P true b af).bind λy ak=>R.of (gz x y) ak
 |_,.sl a lo hi,fr=>(ev P (kf a (kD lo++kD hi)) a fr).bind λx af=>(fN P lo af).bind λl ak=>(fN P hi ak).bind λu bw=>R.of (iJ x l u) bw
 |_,.cl f es,fr=>(dS P es fr).bind λas af=>dI P f as af
 |_,.bi b es,fr=>(bJ P true es fr).bind λds af=>R.of (dM b ds) af
 |_,.me m o es,fr=>if iB m then match fG fr o with
   |some i=>(bJ P (yP m) es fr).bind λds af=>match af[i]? with
    |some (some (.own l))=>match nB m l ds with
     |some (v,l')=>.ok v (af.set i (some (.own l')))
     |none=>.bad
    |some (some (.bor l))=>match nB m l ds with
     |some (v,l')=>.ok v (af.set i (some (.bor l')))
     |none=>.bad
    |_=>.bad
   |none=>.bad
  else (ev P (kf o (eF es)) o fr).bind λx af=>(bJ P true es af).bind λds ak=>R.of (cI m x ds) ak
 |_,.dY a ts,fr=>(ev P true a fr).bind λx af=>.ok (.bl (ts.any (cF x))) af
 |_,.comp elt t it cond,fr=>(bQ P true it fr).bind λs af=>if undef t af then
   R.of ((bu (λd=>match aY t d (j6 af)with
    |none=>none
    |some ak=>match fO P cond ak with
     |.ok c _=>if c then (match ev P false elt ak with|.ok x _=>some (some x)|.bad=>none)else some none
     |.bad=>none) s).bind fF) af else .bad
 |_,.gq it,fr=>(bQ P true it fr).bind λs af=>R.of (fF s) af
 |_,.eS kvs a,fr=>(ev P true a fr).bind λx af=>R.of (eL x kvs) af
 |_,.fc a,fr=>(ev P true a fr).bind λx af=>R.of (toT x) af
termination_by _ e=>(sizeOf e,0)
noncomputable def bJ(P:aB):Bool->Es->Fr->R (List V)
 |_,.nil,fr=>.ok [] fr
 |k,.cons e es,fr=>(ev P (k&&kf e (eF es)) e fr).bind λd af=>(bJ P k es af).bind λds ak=>.ok (d :: ds) ak
termination_by _ e=>(sizeOf e,0)
noncomputable def dS(P:aB):Es->Fr->R (List (Nat ⊕ V))
 |.nil,fr=>.ok [] fr
 |.cons e es,fr=>match fG fr e with
   |some i=>(dS P es fr).bind λr af=>.ok (.inl i :: r) af
   |none=>(ev P false e fr).bind λd af=>(dS P es af).bind λr ak=>.ok (.inr d :: r) ak
termination_by e=>(sizeOf e,0)
noncomputable def fN(P:aB):Eo->Fr->R (Option Int)
 |.no,fr=>.ok none fr
 |.yes e,fr=>(ev P true e fr).bind λd af=>R.of ((intOf d).map some) af
termination_by e=>(sizeOf e,0)
noncomputable def fO(P:aB):Eo->Fr->R Bool
 |.no,fr=>.ok true fr
 |.yes e,fr=>aG P e fr
termination_by e=>(sizeOf e,0)
noncomputable def aG(P:aB):E->Fr->R Bool
 |.an a b,fr=>(aG P a fr).bind λk af=>if k then aG P b af else .ok false af
 |.orr a b,fr=>(aG P a fr).bind λk af=>if k then .ok true af else aG P b af
 |.nt a,fr=>(aG P a fr).bind λk af=>.ok (!k) af
 |e,fr=>(ev P true e fr).bind λx af=>.ok (truthy x) af
termination_by e=>(sizeOf e,1)
noncomputable def bQ(P:aB):Bool->It->Fr->R (List V)
 |k,.seq e,fr=>(src k fr e (ev P k e fr)).bind λx af=>R.of (gj x) af
 |_,.eW es,fr=>(bJ P true es fr).bind λds af=>R.of (dP ds) af
 |_,.ju a b,fr=>(ev P (kf a (bh b)) a fr).bind λx af=>(ev P true b af).bind λy ak=>R.of (qc x y) ak
 |k,.enum a,fr=>(src k fr a (ev P k a fr)).bind λx af=>R.of ((pD x).map λs=>gH 0 s) af
 |_,.rev a,fr=>(ev P true a fr).bind λx af=>R.of ((L3 x).map λs=>s.reverse) af
termination_by _ e=>(sizeOf e,0)
end
noncomputable def isNew:E->Bool
 |.lst _=>true
 |.gq _=>true
 |_=>false
noncomputable def Aw(k:Nat):V->Option V
 |.int c=>if 0<=c/\c<k then some (.tup [.str [114,101,102,117,115,101,100],.int c])else none
 |_=>none
mutual
noncomputable def ex(P:aB)(w:Nat):S->Fr->R Fl
 |.set i e,fr=>(ev P false e fr).bind λx af=>if isNew e then (match x with
   |.lst l=>(R.of (put af i (.own l)) af).bind λak _=>.ok .nx ak
   |_=>.bad)
  else (R.of (put af i (.val x)) af).bind λak _=>.ok .nx ak
 |.m5 l e,fr=>(ev P false e fr).bind λx af=>(R.of (aY (.many l) x af) af).bind λak _=>.ok .nx ak
 |.exp e,fr=>(ev P true e fr).bind λ_ af=>.ok .nx af
 |.ret e,fr=>(ev P false e (jw fr)).bind λx af=>.ok (.ret x) af
 |.iff t a b,fr=>(aG P t fr).bind λk af=>if k then exs P w a af else exs P w b af
 |.for t it b,fr=>(bQ P false it (qL (itv it) fr)).bind λs af=>forL (λd ak=>match aY t d ak with
   |some bw=>exs P w b bw
   |none=>.bad) s af
 |.m6 t b,fr=>eT (λak=>aG P t ak) (λak=>exs P w b ak) w fr
 |.b9 _,_=>.bad
 |.tr f k es,fr=>(dS P es fr).bind λas af=>if (bB as).isEmpty then (match dI P f as af with
   |.ok v ak=>.ok (.ret v) ak
   |.bad=>(dI P (f+Ev.xo) as af).bind λc ak=>R.of ((Aw k c).map .ret) ak)
  else .bad
noncomputable def exs(P:aB)(w:Nat):Ss->Fr->R Fl
 |.nil,fr=>.ok .nx fr
 |.cons s ss,fr=>(ex P w s fr).bind λp af=>match p with
   |.nx=>exs P w ss af
   |p=>.ok p af
end
noncomputable def cZ(fn:Fn)(ds:List Sl):Fr:=ds.map some++List.replicate (fn.ns - fn.np) none
noncomputable def outs(np:Nat)(fr:Fr):List (List V):=(fr.take np).filterMap λo=>o.bind Sl.out
noncomputable def Cj(_:Fn)(_:List Sl):Option (V×List (List V)):=none
abbrev bS:=Nat->List Sl->Option Nat
noncomputable def dB(f:V->Option (Option V))(g:V->Option Nat):List V->Option Nat
 |[]=>none
 |d :: ds=>match f d with
  |some _=>dB f g ds
  |none=>g d
noncomputable def lO(P:aB)(elt:E)(t:T)(cond:Eo)(af:Fr):V->Option (Option V):=λd=>match aY t d (j6 af)with
 |none=>none
 |some ak=>match fO P cond ak with
  |.ok c _=>if c then (match ev P false elt ak with|.ok x _=>some (some x)|.bad=>none)else some none
  |.bad=>none
noncomputable def oR(X:bS)(f:Nat)(as:List (Nat ⊕ V))(fr:Fr):Option Nat:=if (bB as).Nodup then (args fr as).bind (X f)else none
mutual
noncomputable def xe(P:aB)(X:bS):E->Fr->Option Nat
 |.cl f es,fr=>match dS P es fr with
  |.ok as af=>oR X f as af
  |.bad=>wc P X es fr
 |.ix a _,fr=>xe P X a fr
 |.me m o es,fr=>if iB m then match fG fr o with
   |some _=>kX P X (yP m) es fr
   |none=>none
  else none
 |.tup es,fr=>kX P X false es fr
 |.fc a,fr=>xe P X a fr
 |.comp elt t it cond,fr=>match bQ P true it fr with
  |.ok s af=>if undef t af=true/\s.length<=big then dB (lO P elt t cond af) (λd=>match aY t d (j6 af)with
   |some ak=>(match fO P cond ak with
    |.ok true _=>xe P X elt ak
    |_=>none)
   |none=>none) s else none
  |.bad=>xi P X it fr
 |_,_=>none
noncomputable def xi(P:aB)(X:bS):It->Fr->Option Nat
 |.seq e,fr=>xe P X e fr
 |_,_=>none
noncomputable def wc(P:aB)(X:bS):Es->Fr->Option Nat
 |.nil,_=>none
 |.cons e es,fr=>match fG fr e with
  |some _=>wc P X es fr
  |none=>match ev P false e fr with
   |.ok _ af=>wc P X es af
   |.bad=>xe P X e fr
noncomputable def kX(P:aB)(X:bS)(k:Bool):Es->Fr->Option Nat
 |.nil,_=>none
 |.cons e es,fr=>match ev P (k&&kf e (eF es)) e fr with
  |.ok _ af=>kX P X k es af
  |.bad=>xe P X e fr
end
noncomputable def fy(f:V->Fr->R Fl)(g:V->Fr->Option Nat):List V->Fr->Option Nat
 |[],_=>none
 |d :: ds,fr=>match f d fr with
   |.ok .nx af=>fy f g ds af
   |.ok .ct af=>fy f g ds af
   |.ok _ _=>none
   |.bad=>g d fr
noncomputable def fU(t:Fr->R Bool)(f:Fr->R Fl)(g:Fr->Option Nat):Nat->Fr->Option Nat
 |0,_=>none
 |n+1,fr=>match t fr with
  |.ok true af=>match f af with
   |.ok .nx ak=>fU t f g n ak
   |.ok .ct ak=>fU t f g n ak
   |.ok _ _=>none
   |.bad=>g af
  |_=>none
mutual
noncomputable def xs(P:aB)(X:bS)(w:Nat):S->Fr->Option Nat
 |.b9 c,_=>some c
 |.set _ e,fr=>xe P X e fr
 |.exp e,fr=>xe P X e fr
 |.ret e,fr=>xe P X e (jw fr)
 |.iff t a b,fr=>match aG P t fr with
  |.ok k af=>if k then xss P X w a af else xss P X w b af
  |.bad=>xe P X t fr
 |.for t it b,fr=>match bQ P false it (qL (itv it) fr)with
  |.ok s af=>fy (λd ak=>match aY t d ak with|some bw=>exs P w b bw|none=>.bad) (λd ak=>match aY t d ak with|some bw=>xss P X w b bw|none=>none) s af
  |.bad=>none
 |.m6 t b,fr=>fU (λak=>aG P t ak) (λak=>exs P w b ak) (λak=>xss P X w b ak) w fr
 |_,_=>none
noncomputable def xss(P:aB)(X:bS)(w:Nat):Ss->Fr->Option Nat
 |.nil,_=>none
 |.cons s ss,fr=>match ex P w s fr with
  |.ok .nx af=>xss P X w ss af
  |.ok _ _=>none
  |.bad=>xs P X w s fr
end
noncomputable def Sl.fG:Sl->Bool
 |.val _=>true
 |_=>false
noncomputable def lZ(X:bS)(f:Nat)(ds:List Sl):Option (V×List (List V)):=if Ev.xo<=f/\ds.all Sl.fG=true then (X (f - Ev.xo) ds).map λ(c:Nat)=>((.int (c:Int),[]):V×List (List V))else none
noncomputable def runs(F:List Fn)(w:Nat):Nat->aB×bS
 |0=>(λ_ _=>none,λ_ _=>none)
 |n+1=>
  let X:bS:=λf ds=>match F[f]? with
   |some fn=>if ds.length=fn.np then xss (runs F w n).1 (runs F w n).2 w fn.body (cZ fn ds)else none
   |none=>none
  (λf ds=>match F[f]? with
   |some fn=>if ds.length=fn.np then match exs ((runs F w n).1) w fn.body (cZ fn ds)with
     |.ok (.ret v) fr=>some (v,outs fn.np fr)
     |.ok .nx fr=>some (.bf,outs fn.np fr)
     |_=>Cj fn ds
    else none
   |none=>lZ X f ds,X)
noncomputable def run(F:List Fn)(w n:Nat):aB:=(runs F w n).1
noncomputable def bH(F:List Fn)(w n:Nat):bS:=(runs F w n).2
def fP(F:List Fn)(w n f:Nat)(ds:List Sl):run F w (n+1) f ds=match F[f]? with
   |some fn=>if ds.length=fn.np then match exs (run F w n) w fn.body (cZ fn ds)with
     |.ok (.ret v) fr=>some (v,outs fn.np fr)
     |.ok .nx fr=>some (.bf,outs fn.np fr)
     |_=>Cj fn ds
    else none
   |none=>lZ (bH F w (n+1)) f ds:=nd rfl
def iA(F:List Fn)(w n f:Nat)(ds:List Sl):bH F w (n+1) f ds=match F[f]? with
   |some fn=>if ds.length=fn.np then xss (run F w n) (bH F w n) w fn.body (cZ fn ds)else none
   |none=>none:=nd rfl
end Pv
namespace Pv
open Ev (D O Hh aQ aK TY BI ME T E Es Eo It S Ss Fn big deep b2i rep bG cK bg aI cut aP bZ slots aR)
section
variable(h:Hh)(S:Nat->Prop)
mutual
noncomputable def Rep:V->D->Prop
 |.bf,d=>d=.bf
 |.bl b,d=>d=.bl b
 |.int i,d=>d=.int i
 |.str s,d=>d=.str s
 |.tup l,d=>∃ds,d=.tup ds/\aq l ds
 |.lst l,d=>∃n ds,d=.ref n/\S n/\h[n]?=some (.lst ds)/\aq l ds
 |.bE l,d=>∃n ds,d=.ref n/\S n/\h[n]?=some (.bE ds)/\aq l ds
 |.dm kvs,d=>∃n,d=.ref n/\S n/\h[n]?=some (.dm kvs)
noncomputable def aq:List V->List D->Prop
 |[],ds=>ds=[]
 |v :: vs,ds=>∃d es,ds=d :: es/\Rep v d/\aq vs es
end
noncomputable def aS:V->D->Prop
 |.lst l,d=>∃n ds,d=.ref n/\h[n]?=some (.lst ds)/\aq h S l ds
 |v,d=>Rep h S v d
noncomputable def fS:List V->List D->Prop
 |[],ds=>ds=[]
 |v :: vs,ds=>∃d es,ds=d :: es/\aS h S v d/\fS vs es
end
abbrev U:Nat->Prop:=λ_=>True
section
variable{h h':Hh}{S S':Nat->Prop}
mutual
theorem Rep.mono(f:∀m,S m->h'[m]?=h[m]?)(g:∀m,S m->S' m):∀{v:V}{d:D},Rep h S v d->Rep h' S' v d
 |.bf,_,q=>q
 |.bl _,_,q=>q
 |.int _,_,q=>q
 |.str _,_,q=>q
 |.tup l,_,⟨ds,a,b⟩=>⟨ds,a,aq.mono f g b⟩
 |.lst l,_,⟨n,ds,a,b,c,e⟩=>⟨n,ds,a,g n b,by rw[f n b];exact c,aq.mono f g e⟩
 |.bE l,_,⟨n,ds,a,b,c,e⟩=>⟨n,ds,a,g n b,by rw[f n b];exact c,aq.mono f g e⟩
 |.dm kvs,_,⟨n,a,b,c⟩=>⟨n,a,g n b,by rw[f n b];exact c⟩
theorem aq.mono(f:∀m,S m->h'[m]?=h[m]?)(g:∀m,S m->S' m):∀{v:List V}{d:List D},aq h S v d->aq h' S' v d
 |[],_,q=>q
 |_ :: _,_,⟨d,es,a,b,c⟩=>⟨d,es,a,Rep.mono f g b,aq.mono f g c⟩
end
def aq.nil:aq h S [] []:=by simp[aq]
def aq.cons{v:V}{d:D}{vs:List V}{ds:List D}(a:Rep h S v d)(b:aq h S vs ds):aq h S (v :: vs) (d :: ds):=by simp only[aq];exact⟨d,ds,rfl,a,b⟩
def Rep.top{v:V}{d:D}(q:Rep h S v d):aS h S v d:=by
 cases v<;>first|exact q | (obtain⟨n,ds,a,b,c,e⟩:=q;exact⟨n,ds,a,c,e⟩)
def aS.u{v:V}{d:D}(q:aS h S v d):Rep h U v d:=by
 cases v with
 |lst l=>obtain⟨n,ds,a,b,c⟩:=q;exact⟨n,ds,a,trivial,b,c.mono (λ_ _=>rfl) λ_ _=>trivial⟩
 |_=>exact Rep.mono (S:=S) (λ_ _=>rfl) (λ_ _=>trivial) q
def aq.u{v:List V}{d:List D}(q:aq h S v d):aq h U v d:=q.mono (λ_ _=>rfl) λ_ _=>trivial
theorem aS.mono{v:V}{d:D}(f:∀m,m<h.length->h'[m]?=h[m]?)(k:∀m,S m->m<h.length)(g:∀m,S m->S' m)(q:aS h S v d):aS h' S' v d:=by
 cases v with
 |lst l=>
  obtain⟨n,ds,a,b,c⟩:=q;exact⟨n,ds,a,by rw[f n (List.getElem?_eq_some_iff.mp b).1];exact b,c.mono (λm z=>f m (k m z)) g⟩
 |_=>exact Rep.mono (λm z=>f m (k m z)) g q
theorem aq.length:∀{v:List V}{d:List D},aq h S v d->v.length=d.length
 |[],_,q=>by simp only[aq]at q;subst q;rfl
 |_ :: _,_,q=>by simp only[aq]at q;obtain⟨d,es,rfl,_,c⟩:=q;simp[c.length]
theorem aq.get:∀{v:List V}{d:List D}{i:Nat}{x:V},aq h S v d->v[i]?=some x->∃y,d[i]?=some y/\Rep h S x y
 |[],_,_,_,_,e=>by simp at e
 |_ :: _,_,0,_,q,e=>by
  simp only[aq]at q;obtain⟨d,es,rfl,b,_⟩:=q;simp at e;subst e;exact⟨d,by simp,b⟩
 |_ :: _,_,i+1,_,q,e=>by
  simp only[aq]at q;obtain⟨d,es,rfl,_,c⟩:=q;obtain⟨y,a,b⟩:=c.get (i:=i) (by simpa using e);exact⟨y,by simpa using a,b⟩
theorem aq.append:∀{v w:List V}{d e:List D},aq h S v d->aq h S w e->aq h S (v++w) (d++e)
 |[],_,_,_,a,b=>by simp only[aq]at a;subst a;simpa using b
 |_ :: _,_,_,_,a,b=>by
  simp only[aq]at a;obtain⟨d,es,rfl,x,y⟩:=a;exact .cons x (y.append b)
theorem aq.take:∀{v:List V}{d:List D}(n:Nat),aq h S v d->aq h S (v.take n) (d.take n)
 |_,_,0,_=>by simp[aq]
 |[],_,_+1,a=>by simp only[aq]at a;subst a;simp[aq]
 |_ :: _,_,n+1,a=>by
  simp only[aq]at a;obtain⟨d,es,rfl,x,y⟩:=a;simp only[V4];exact .cons x (y.take n)
theorem aq.drop:∀{v:List V}{d:List D}(n:Nat),aq h S v d->aq h S (v.drop n) (d.drop n)
 |_,_,0,a=>by simpa using a
 |[],_,_+1,a=>by simp only[aq]at a;subst a;simp[aq]
 |_ :: _,_,n+1,a=>by
  simp only[aq]at a;obtain⟨d,es,rfl,x,y⟩:=a;simp only[XY];exact y.drop n
theorem aq.dropLast:∀{v:List V}{d:List D},aq h S v d->aq h S v.dropLast d.dropLast:=λ{v d} a=>by
 rw[Wa,Wa,a.length];exact a.take _
theorem aq.reverse:∀{v:List V}{d:List D},aq h S v d->aq h S v.reverse d.reverse
 |[],_,a=>by simp only[aq]at a;subst a;simp[aq]
 |_ :: _,_,a=>by
  simp only[aq]at a;obtain⟨d,es,rfl,x,y⟩:=a;simp only[List.reverse_cons];exact y.reverse.append (.cons x .nil)
theorem aq.rep{v:List V}{d:List D}(a:aq h S v d):∀k:Nat,aq h S (Ev.rep k v) (Ev.rep k d)
 |0=>by simp[Ev.rep,aq]
 |k+1=>by
  have z:=aq.rep a k;simp only[Ev.rep,Vn,Vu]at z ⊢;exact a.append z
theorem aq.cut{v:List V}{d:List D}(a:aq h S v d)(lo hi:Option Int):aq h S (Ev.cut v lo hi) (Ev.cut d lo hi):=by
 unfold Ev.cut;rw[a.length];exact(a.drop _).take _
theorem aq.map{α:Type}{f:α->V}{g:α->D}(q:∀a,Rep h S (f a) (g a)):∀l:List α,aq h S (l.map f) (l.map g)
 |[]=>.nil
 |_ :: l=>.cons (q _) (aq.map q l)
mutual
theorem Rep.uniq:∀{v w:V}{d:D},Rep h U v d->Rep h U w d->v=w
 |.bf,w,_,a,b=>by simp only[Rep]at a;subst a;cases w<;>simp[Rep]at b<;>rfl
 |.bl _,w,_,a,b=>by simp only[Rep]at a;subst a;cases w<;>simp[Rep]at b<;>rw[b]
 |.int _,w,_,a,b=>by simp only[Rep]at a;subst a;cases w<;>simp[Rep]at b<;>rw[b]
 |.str _,w,_,a,b=>by simp only[Rep]at a;subst a;cases w<;>simp[Rep]at b<;>rw[b]
 |.tup l,w,_,a,b=>by
  simp only[Rep]at a;obtain⟨ds,rfl,a⟩:=a;cases w<;>simp[Rep]at b
  rw[aq.uniq a b]
 |.lst l,w,_,a,b=>by
  simp only[Rep]at a;obtain⟨n,ds,rfl,_,a1,a⟩:=a;cases w<;>simp[Rep]at b
  .obtain⟨ds',b1,b⟩:=b;rw[a1]at b1;cases b1;rw[aq.uniq a b]
  .obtain⟨ds',b1,b⟩:=b;rw[a1]at b1;cases b1
  .rw[a1]at b;cases b
 |.bE l,w,_,a,b=>by
  simp only[Rep]at a;obtain⟨n,ds,rfl,_,a1,a⟩:=a;cases w<;>simp[Rep]at b
  .obtain⟨ds',b1,b⟩:=b;rw[a1]at b1;cases b1
  .obtain⟨ds',b1,b⟩:=b;rw[a1]at b1;cases b1;rw[aq.uniq a b]
  .rw[a1]at b;cases b
 |.dm kvs,w,_,a,b=>by
  simp only[Rep]at a;obtain⟨n,rfl,_,a1⟩:=a;cases w<;>simp[Rep]at b
  .obtain⟨ds',b1,b⟩:=b;rw[a1]at b1;cases b1
  .obtain⟨ds',b1,b⟩:=b;rw[a1]at b1;cases b1
  .rw[a1]at b;cases b;rfl
theorem aq.uniq:∀{v w:List V}{d:List D},aq h U v d->aq h U w d->v=w
 |[],w,_,a,b=>by simp only[aq]at a;subst a;cases w<;>simp[aq]at b;rfl
 |x :: xs,w,_,a,b=>by
  simp only[aq]at a;obtain⟨d,es,rfl,a1,a2⟩:=a;cases w<;>simp only[aq]at b
  .cases b
  obtain⟨d',es',e,b1,b2⟩:=b;cases e;rw[Rep.uniq a1 b1,aq.uniq a2 b2]
end
theorem we{n:Nat}(f:∀v b,dR n v v=some b->b=true):∀l b,b5 (dR n) l l=some b->b=true
 |[],b,e=>by simp[b5]at e;exact e
 |x :: xs,b,e=>by
  simp only[b5,eU]at e;obtain⟨c,e1,c2,e2,e⟩:=e;rw[f x c e1,we f xs c2 e2]at e;simpa using e.symm
theorem wg:∀n v b,dR n v v=some b->b=true
 |0,_,_,e=>by cases e
 |n+1,v,b,e=>by
  cases v<;>first|exact we (wg n) _ _ e | (cases e<;>first|rfl|exact Yl _)
theorem wj{n:Nat}(f:∀{v w:V}{d e:D}{b},dR n v w=some b->Rep h U v d->Rep h U w e->Ev.gr h n d e=some b):∀{l m:List V}{ds es:List D}{b},b5 (dR n) l m=some b->aq h U l ds->aq h U m es->Ev.b5 (Ev.gr h n) ds es=some b
 |[],[],_,_,b,e,p,q=>by simp only[aq]at p q;subst p q;simpa[b5,Ev.b5]using e
 |[],_ :: _,_,_,b,e,p,q=>by simp only[aq]at p q;subst p;obtain⟨_,_,rfl,_⟩:=q;simpa[b5,Ev.b5]using e
 |_ :: _,[],_,_,b,e,p,q=>by simp only[aq]at p q;subst q;obtain⟨_,_,rfl,_⟩:=p;simpa[b5,Ev.b5]using e
 |x :: xs,y :: ys,_,_,b,e,p,q=>by
  simp only[aq]at p q;obtain⟨d,ds,rfl,p1,p2⟩:=p;obtain⟨d',ds',rfl,q1,q2⟩:=q;simp only[b5,eU]at e;obtain⟨c,e1,c2,e2,e⟩:=e;simp[Ev.b5,f e1 p1 q1,wj f e2 p2 q2];simpa using e
def gW{n:Nat}{ds:List D}(q:h[n]?=some (.lst ds)):aR h n=some ds:=by simp[aR,q]
def iC{n:Nat}{ds:List D}(q:h[n]?=some (.bE ds)):aR h n=some ds:=by simp[aR,q]
theorem jU:∀(n:Nat) {v w:V}{d e:D}{b},dR n v w=some b->Rep h U v d->Rep h U w e->Ev.gr h n d e=some b
  |0,_,_,_,_,_,e,_,_=>by cases e
  |n+1,v,w,d,e,b,x,p,q=>by
    by_cases hr:∃m,d=.ref m/\e=.ref m
    . obtain⟨m,rfl,rfl⟩:=hr;have hvw:=p.uniq q;subst hvw;have hb:=wg _ _ _ x;subst hb;cases v<;>simp[Rep]at p
      . obtain⟨ds,p1,p2⟩:=p;show Ev.jL _ _ _ _=_;rw[Ev.jL,b8 rfl,gW p1];rfl
      . obtain⟨ds,p1,p2⟩:=p;show Ev.jL _ _ _ _=_;rw[Ev.jL,b8 rfl,iC p1];rfl
      . cases x
    . cases v<;>cases w<;>simp only[Rep]at p q <;>
      first
      | (subst p;subst q;exact x)
      | (obtain⟨ds,rfl,p⟩:=p;subst q;exact x)
      | (obtain⟨ds,rfl,q⟩:=q;subst p;exact x)
      | (obtain⟨ds,rfl,p⟩:=p;obtain⟨es,rfl,q⟩:=q;exact wj (λa b c=>jU n a b c) x p q)
      | (cases x;done)
      | (obtain⟨m,ds,rfl,_,p1,p⟩:=p;obtain⟨k,es,rfl,_,q1,q⟩:=q
         have hne:m≠k:=λz=>hr ⟨m,rfl,by rw[z]⟩;show Ev.jL _ _ _ _=_;rw[Ev.jL,SA hne,p1,q1];exact wj (λa b c=>jU n a b c) x p q)
      | (cases x;obtain⟨m,ds,rfl,_,p1,p⟩:=p;subst q;exact Vd (Option.map λ_=>false) (gW p1))
      | (cases x;obtain⟨m,ds,rfl,_,p1,p⟩:=p;subst q;exact Vd (Option.map λ_=>false) (iC p1))
      | (cases x;obtain⟨m,ds,rfl,_,p1,p⟩:=p;obtain⟨es,rfl,q⟩:=q;exact Vd (Option.map λ_=>false) (gW p1))
      | (cases x;obtain⟨m,ds,rfl,_,p1,p⟩:=p;obtain⟨es,rfl,q⟩:=q;exact Vd (Option.map λ_=>false) (iC p1))
      | (cases x;obtain⟨m,ds,rfl,_,q1,q⟩:=q;subst p;exact Vd (Option.map λ_=>false) (gW q1))
      | (cases x;obtain⟨m,ds,rfl,_,q1,q⟩:=q;subst p;exact Vd (Option.map λ_=>false) (iC q1))
      | (cases x;obtain⟨m,ds,rfl,_,q1,q⟩:=q;obtain⟨es,rfl,p⟩:=p;exact Vd (Option.map λ_=>false) (gW q1))
      | (cases x;obtain⟨m,ds,rfl,_,q1,q⟩:=q;obtain⟨es,rfl,p⟩:=p;exact Vd (Option.map λ_=>false) (iC q1))
end
structure Al(h:Hh)(S:Nat->Prop)(h':Hh)(S':Nat->Prop):Prop where
 len:h.length<=h'.length
 keep:∀m,m<h.length->h'[m]?=h[m]?
 sub:∀m,S m->S' m
 new:∀m,S' m->S m\/(h.length<=m/\m<h'.length)
section
variable{h h':Hh}{S S':Nat->Prop}
def Al.refl:Al h S h S:=⟨Qq _,λ_ _=>rfl,λ_ q=>q,λ_ q=>.inl q⟩
def Al.snoc(o:O):Al h S (h++[o]) (λm=>S m\/m=h.length) where
 len:=by simp
 keep:=λm q=>by rw[wW q]
 sub:=λ_ q=>.inl q
 new:=λm q=>by
  rcases q with q|q
  .exact .inl q
  .subst q;exact .inr ⟨Qq _,by simp⟩
def jV{l:List V}{v:V}{ds:List D}(w:∀m,S m->m<h.length)(e:fF l=some v)(q:aq h S l ds):∃r h' S',Ev.alloc ds h=.ok r h'/\Rep h' S' v r/\Al h S h' S':=by
 unfold fF at e;split at e
 .rename_i z;cases e;refine⟨.ref h.length,h++[.lst ds],λm=>S m\/m=h.length,by unfold Ev.alloc;rw[b8 (by rw[<-q.length];exact z)],?_,Al.snoc _⟩;simp only[Rep];refine⟨h.length,ds,rfl,.inr rfl,by simp,q.mono (λm z=>?_) λ_ z=>.inl z⟩;rw[wW (w m z)]
 .cases e
def nD{v:V}{l:List V}{d:D}(e:pD v=some l)(q:aS h S v d):∃n ds,d=.ref n/\aR h n=some ds/\aq h S l ds:=by
 cases v<;>simp[pD]at e
 .subst e;simp only[aS]at q;obtain⟨n,ds,rfl,a,b⟩:=q;exact⟨n,ds,rfl,gW a,b⟩
 .subst e;simp only[aS,Rep]at q;obtain⟨n,ds,rfl,_,a,b⟩:=q;exact⟨n,ds,rfl,iC a,b⟩
mutual
theorem nE:∀{d:D}{v:V},ofD d=some v->Rep h S v d
 |.bf,_,e=>by simp[ofD]at e;subst e;simp[Rep]
 |.bl _,_,e=>by simp[ofD]at e;subst e;simp[Rep]
 |.int _,_,e=>by simp[ofD]at e;subst e;simp[Rep]
 |.str _,_,e=>by simp[ofD]at e;subst e;simp[Rep]
 |.ref _,_,e=>by simp[ofD]at e
 |.tup ds,_,e=>by
  simp[ofD]at e;obtain⟨vs,e,rfl⟩:=e;exact⟨ds,rfl,yQ e⟩
theorem yQ:∀{d:List D}{v:List V},v9 d=some v->aq h S v d
 |[],_,e=>by simp[v9]at e;subst e;exact .nil
 |d :: ds,_,e=>by
  simp only[v9,eU,cz]at e;obtain⟨v,e1,vs,e2,rfl⟩:=e;exact .cons (nE e1) (yQ e2)
end
def aq.emp{l:List V}{ds:List D}(q:aq h S l ds):ds.isEmpty=l.isEmpty:=by
 have:=q.length;cases l<;>cases ds<;>simp at this ⊢
def Ck{v:V}{d:D}(q:aS h S v d):Ev.truthy h d=some (truthy v):=by
 cases v<;>simp only[aS,Rep]at q
 .subst q;rfl
 .subst q;rfl
 .subst q;rfl
 .subst q;rfl
 .obtain⟨ds,rfl,q⟩:=q;simp only[Ev.truthy,truthy,q.emp]
 .obtain⟨n,ds,rfl,a,q⟩:=q;simp only[Ev.truthy,truthy,gW a,Option.map,q.emp];first|done|rw[a]
 .obtain⟨n,ds,rfl,_,a,q⟩:=q;simp only[Ev.truthy,truthy,iC a,Option.map,q.emp];first|done|rw[a]
 .obtain⟨n,rfl,_,a⟩:=q;simp only[Ev.truthy,truthy];rw[a]
def nn{α:Type}{v:α}{p:Prop}(z:none=some v):p:=Option.noConfusion rfl (heq_of_eq z)
def L4{o:aQ}{x y v:V}{d e:D}(w:∀m,S m->m<h.length)(z:bY o x y=some v)(p:aS h S x d)(q:aS h S y e):∃r h' S',Ev.bY o d e h=.ok r h'/\Rep h' S' v r/\Al h S h' S':=by
 cases o<;>cases x<;>first|exact nn z | (cases y<;>first|exact nn z|skip)
 all_goals (delta bY at z;dsimp only at z;simp only[aS,Rep]at p q)
 .subst p q;cases z;exact⟨_,_,S,rfl,rfl,.refl⟩
 .subst p q;split at z
  .rename_i k;cases z;exact⟨_,_,S,by delta Ev.bY;dsimp only;rw[b8 k],rfl,.refl⟩
  .cases z
 .obtain⟨ds,rfl,p⟩:=p;obtain⟨es,rfl,q⟩:=q;split at z
  .rename_i k;cases z;exact⟨_,_,S,by delta Ev.bY;dsimp only;rw[b8 (by rw[<-p.length,<-q.length];exact k)],⟨_,rfl,p.append q⟩,.refl⟩
  .cases z
 .obtain⟨n,ds,rfl,a,p⟩:=p;obtain⟨m,es,rfl,b,q⟩:=q
  delta Ev.bY;dsimp only;simp only[a,b]
  exact jV w z (p.append q)
 .subst p q;cases z;exact⟨_,_,S,rfl,rfl,.refl⟩
 .subst p q;split at z
  .rename_i k;cases z;exact⟨_,_,S,by delta Ev.bY;dsimp only;rw[b8 k],rfl,.refl⟩
  .cases z
 .subst p q;split at z
  .rename_i k;cases z;exact⟨_,_,S,by delta Ev.bY;dsimp only;rw[b8 k],rfl,.refl⟩
  .cases z
 .obtain⟨ds,rfl,p⟩:=p;subst q;split at z
  .rename_i k;cases z;exact⟨_,_,S,by delta Ev.bY;dsimp only;rw[b8 (by rw[<-p.length];exact k)],⟨_,rfl,p.rep _⟩,.refl⟩
  .cases z
 .obtain⟨n,ds,rfl,a,p⟩:=p;subst q;split at z
  .rename_i k
   delta Ev.bY;dsimp only;simp only[a]
   rw[b8 (by rw[<-p.length];exact k)];exact jV w z (p.rep _)
  .cases z
 .subst p q;split at z
  .rename_i k;cases z;exact⟨_,_,S,by delta Ev.bY;dsimp only;rw[b8 k],rfl,.refl⟩
  .cases z
 .subst p q;split at z
  .rename_i k;cases z;exact⟨_,_,S,by delta Ev.bY;dsimp only;rw[b8 k],rfl,.refl⟩
  .cases z
theorem qM{x:V}{d:D}(p:Rep h U x d):∀{l:List V}{ds:List D}{b},mem x l=some b->aq h U l ds->Ev.mem h d ds=some b
 |[],_,b,e,q=>by simp only[aq]at q;subst q;simpa[mem,Ev.mem]using e
 |y :: ys,_,b,e,q=>by
  simp only[aq]at q;obtain⟨d',ds,rfl,q1,q2⟩:=q;simp only[mem,eU]at e;obtain⟨c,e1,c2,e2,e⟩:=e;simp[Ev.mem,jU deep e1 q1 p,qM p e2 q2];simpa using e
def yR{x y:V}{d e:D}{b:Bool}(z:isin x y=some b)(p:Rep h U x d)(q:Rep h U y e):Ev.isin d e h=some b:=by
 cases y<;>simp only[isin,reduceCtorEq]at z<;>simp only[Rep]at q
 .subst q;split at z
  .simp only[Rep]at p;subst p;simpa[Ev.isin]using z
  .cases z
 .obtain⟨ds,rfl,q⟩:=q;simpa[Ev.isin]using qM p z q
 .obtain⟨n,ds,rfl,_,a,q⟩:=q;simpa[Ev.isin,gW a]using qM p z q
 .obtain⟨n,ds,rfl,_,a,q⟩:=q;simpa[Ev.isin,iC a]using qM p z q
def wk{o:aK}{x y:V}{d e:D}{b:Bool}(z:cop o x y=some b)(p:Rep h U x d)(q:Rep h U y e):Ev.cop o d e h=some b:=by
 cases o
 case eq=>delta cop at z;dsimp only at z;delta Ev.cop;dsimp only;exact jU deep z p q
 case ne=>
  delta cop at z;dsimp only at z;simp only[cz]at z;obtain⟨c,z,rfl⟩:=z
  delta Ev.cop;dsimp only;simp only[jU deep z p q];rfl
 case isin=>delta cop at z;dsimp only at z;delta Ev.cop;dsimp only;exact yR z p q
 case di=>
  delta cop at z;dsimp only at z;simp only[cz]at z;obtain⟨c,z,rfl⟩:=z
  delta Ev.cop;dsimp only;simp only[yR z p q];rfl
 all_goals (
  cases x<;>first|exact nn z | (cases y<;>first|exact nn z|skip)
  simp only[Rep]at p q;subst p q;exact z)
def Ax{l:List V}{ds:List D}{i:Int}{v:V}(e:bg l i=some v)(q:aq h S l ds):∃d,bg ds i=some d/\Rep h S v d:=by
 unfold bg at e ⊢;rw[q.length]at e;cases z:cK ds.length i with
 |none=>rw[z]at e;cases e
 |some j=>rw[z]at e;exact q.get e
def L5{x y v:V}{d e:D}(z:gz x y=some v)(p:aS h S x d)(q:aS h S y e):∃r,Ev.gz d e h=some r/\Rep h S v r:=by
 cases x<;>cases y<;>simp only[gz,reduceCtorEq]at z<;>simp only[aS,Rep]at p q
 .subst p q;simp only[cz]at z;obtain⟨c,z,rfl⟩:=z;exact⟨.str [c],by simp[Ev.gz,z],rfl⟩
 .obtain⟨ds,rfl,p⟩:=p;subst q;simpa[Ev.gz]using Ax z p
 .obtain⟨n,ds,rfl,a,p⟩:=p;subst q;simpa[Ev.gz,gW a]using Ax z p
 .obtain⟨n,ds,rfl,_,a,p⟩:=p;subst q;simpa[Ev.gz,iC a]using Ax z p
def L6{x v:V}{d:D}{lo hi:Option Int}(w:∀m,S m->m<h.length)(z:iJ x lo hi=some v)(p:aS h S x d):∃r h' S',Ev.iJ d lo hi h=.ok r h'/\Rep h' S' v r/\Al h S h' S':=by
 cases x<;>simp only[iJ,reduceCtorEq]at z<;>simp only[aS,Rep]at p
 .subst p;cases z;exact⟨_,_,S,rfl,rfl,.refl⟩
 .obtain⟨ds,rfl,p⟩:=p;cases z;exact⟨_,_,S,rfl,⟨_,rfl,p.cut _ _⟩,.refl⟩
 .obtain⟨n,ds,rfl,a,p⟩:=p;simp only[Ev.iJ,gW a];exact jV w z (p.cut _ _)
 .obtain⟨n,ds,rfl,_,a,p⟩:=p;simp only[Ev.iJ,iC a];exact jV w z (p.cut _ _)
def L7{x v:V}{d:D}(z:toT x=some v)(p:aS h S x d):∃r,Ev.rR d h=.ok r h/\Rep h S v r:=by
 cases x<;>simp only[toT,reduceCtorEq]at z<;>simp only[aS,Rep]at p
 .obtain⟨ds,rfl,p⟩:=p;cases z;exact⟨_,rfl,⟨_,rfl,p⟩⟩
 .obtain⟨n,ds,rfl,a,p⟩:=p;unfold g8 at z;split at z
  .rename_i k;cases z;refine⟨.tup ds,?_,⟨_,rfl,p⟩⟩;simp only[Ev.rR,gW a];rw[b8 (by rw[<-p.length];exact k)]
  .cases z
 .obtain⟨n,ds,rfl,_,a,p⟩:=p;unfold g8 at z;split at z
  .rename_i k;cases z;refine⟨.tup ds,?_,⟨_,rfl,p⟩⟩;simp only[Ev.rR,iC a];rw[b8 (by rw[<-p.length];exact k)]
  .cases z
def IP{x:V}{l:List V}{d:D}(z:pD x=some l)(p:aS h S x d):∃s,Ev.DI h d=some s/\aq h S l s.1/\(∀q∈s.2,d=.ref q.1/\aR h q.1=some q.2):=by
 obtain⟨n,ds,rfl,a,q⟩:=nD z p;exact⟨(ds,[(n,ds)]),by simp[Ev.DI,a],q,by simp[a]⟩
def IQ{x:V}{d:D}(p:aS h S x d)(t:TY):Ev.cF h d t=cF x t:=by
 cases x<;>simp only[aS,Rep]at p
 .subst p;cases t<;>rfl
 .subst p;cases t<;>rfl
 .subst p;cases t<;>rfl
 .subst p;cases t<;>rfl
 .obtain⟨_,rfl,_⟩:=p;cases t<;>rfl
 .obtain⟨n,ds,rfl,a,p⟩:=p;cases t<;>simp[Ev.cF,cF,gW a]
 .obtain⟨n,ds,rfl,_,a,p⟩:=p;cases t<;>simp[Ev.cF,cF,iC a]
 .obtain⟨n,rfl,_,a⟩:=p;cases t<;>simp[Ev.cF,cF,Ev.aR,a]
theorem wm:∀{l:List V}{ds:List D}{bs},boolsOf l=some bs->aq h S l ds->Ev.boolsOf ds=some bs
 |[],_,_,e,q=>by simp only[aq]at q;subst q;exact e
 |x :: xs,_,bs,e,q=>by
  cases x<;>simp only[boolsOf,reduceCtorEq,cz]at e
  obtain⟨r,e,rfl⟩:=e;simp only[aq,Rep]at q;obtain⟨_,ds,rfl,rfl,q⟩:=q;simp[Ev.boolsOf,wm e q]
theorem yS:∀{l:List V}{ds:List D}{bs},intsOf l=some bs->aq h S l ds->Ev.intsOf ds=some bs
 |[],_,_,e,q=>by simp only[aq]at q;subst q;exact e
 |x :: xs,_,bs,e,q=>by
  cases x<;>simp only[intsOf,reduceCtorEq,cz]at e
  obtain⟨r,e,rfl⟩:=e;simp only[aq,Rep]at q;obtain⟨_,ds,rfl,rfl,q⟩:=q;simp[Ev.intsOf,yS e q]
theorem yT:∀{l:List V}{ds:List D}{bs},strsOf l=some bs->aq h S l ds->Ev.strsOf ds=some bs
 |[],_,_,e,q=>by simp only[aq]at q;subst q;exact e
 |x :: xs,_,bs,e,q=>by
  cases x<;>simp only[strsOf,reduceCtorEq,cz]at e
  obtain⟨r,e,rfl⟩:=e;simp only[aq,Rep]at q;obtain⟨_,ds,rfl,rfl,q⟩:=q;simp[Ev.strsOf,yT e q]
def fS.one{v:V}{ds:List D}(q:fS h S [v] ds):∃d,ds=[d]/\aS h S v d:=by
 simp only[fS]at q;obtain⟨d,es,rfl,a,rfl⟩:=q;exact⟨d,rfl,a⟩
def L8{b:BI}{xs:List V}{v:V}{ds:List D}(w:∀m,S m->m<h.length)(z:dM b xs=some v)(p:fS h S xs ds):∃r h' S',Ev.dM b ds h=.ok r h'/\Rep h' S' v r/\Al h S h' S':=by
 delta dM at z
 rcases xs with _|⟨x,_|⟨y,_|⟨u,xs⟩⟩⟩
 .cases b<;>exact nn z
 .obtain⟨d,rfl,p1⟩:=p.one;cases b
  case len=>
   cases x
   case str s=>
    dsimp only at z;simp only[aS,Rep]at p1;subst p1;split at z
    .rename_i k;cases z;exact⟨_,_,S,by delta Ev.dM;dsimp only;rw[b8 k],rfl,.refl⟩
    .cases z
   case tup l=>
    dsimp only at z;simp only[aS,Rep]at p1;obtain⟨es,rfl,p2⟩:=p1;cases z;exact⟨_,_,S,rfl,by simp[Rep,p2.length],.refl⟩
   all_goals
    dsimp only at z;simp only[cz]at z;obtain⟨l,z,rfl⟩:=z;obtain⟨n,es,rfl,a,q⟩:=nD z p1;exact⟨.int es.length,h,S,by delta Ev.dM;dsimp only;simp[a],by simp[Rep,q.length],.refl⟩
  case all=>
   dsimp only at z;simp only[cz,eU]at z;obtain⟨bs,⟨l,z,z2⟩,rfl⟩:=z;obtain⟨n,es,rfl,a,q⟩:=nD z p1;exact⟨_,_,S,by delta Ev.dM;dsimp only;simp only[a,Option.bind,wm z2 q];rfl,rfl,.refl⟩
  case sum=>
   dsimp only at z;simp only[cz,eU]at z;obtain⟨bs,⟨l,z,z2⟩,rfl⟩:=z;obtain⟨n,es,rfl,a,q⟩:=nD z p1;exact⟨_,_,S,by delta Ev.dM;dsimp only;simp only[a,Option.bind,yS z2 q];rfl,rfl,.refl⟩
  case min=>cases x<;>exact nn z
  case ve=>
   cases x
   case bl i=>
    dsimp only at z;simp only[aS,Rep]at p1;subst p1;cases z;exact⟨_,_,S,rfl,rfl,.refl⟩
   all_goals exact nn z
  case fK=>
   cases x
   case int i=>
    dsimp only at z;simp only[aS,Rep]at p1;subst p1;split at z
    .rename_i k;cases z;exact⟨_,_,S,by delta Ev.dM;dsimp only;rw[b8 k],rfl,.refl⟩
    .cases z
   case str s=>
    dsimp only at z;simp only[aS,Rep]at p1;subst p1;cases z;exact⟨_,_,S,rfl,rfl,.refl⟩
   all_goals exact nn z
  case lD=>
   cases x
   case str s=>
    dsimp only at z;simp only[aS,Rep]at p1;subst p1;obtain⟨i,e,rfl⟩:=Option.map_eq_some_iff.mp z;exact⟨.int i,_,S,by delta Ev.dM;dsimp only;rw[e];rfl,rfl,.refl⟩
   all_goals exact nn z
 .cases b
  case min=>
   cases x
   case int i=>
    cases y
    case int j=>
     dsimp only at z;simp only[fS,aS,Rep]at p;obtain⟨_,_,rfl,rfl,_,_,rfl,rfl,rfl⟩:=p;cases z;exact⟨_,_,S,rfl,rfl,.refl⟩
    all_goals exact nn z
   all_goals exact nn z
  case len=>cases x<;>exact nn z
  case ve=>cases x<;>exact nn z
  case fK=>cases x<;>exact nn z
  case lD=>cases x<;>exact nn z
  all_goals exact nn z
 .cases b
  case min=>cases x <;> (try cases y)<;>exact nn z
  case len=>cases x<;>exact nn z
  case ve=>cases x<;>exact nn z
  case fK=>cases x<;>exact nn z
  case lD=>cases x<;>exact nn z
  all_goals exact nn z
def Ma{m:ME}{o:V}{xs:List V}{v:V}{d:D}{ds:List D}(z:cI m o xs=some v)(hm:iB m=false)(po:aS h S o d)(p:fS h S xs ds):Ev.qz m d h=true/\∃r,Ev.cI m d ds h=.ok r h/\Rep h S v r:=by
 unfold cI at z;split at z
 .obtain⟨d,rfl,p1⟩:=p.one;simp only[aS,Rep]at po;subst po;simp only[eU]at z;obtain⟨ss,⟨l,z,z2⟩,z3⟩:=z;obtain⟨n,es,rfl,a,q⟩:=nD z p1;split at z3
  .rename_i k;cases z3;refine⟨rfl,_,?_,rfl⟩
   delta Ev.cI;dsimp only;simp only[a,Option.bind,yT z2 q]
   rw[b8 k]
  .cases z3
 .obtain⟨d',rfl,p1⟩:=p.one;simp only[aS,Rep]at po p1;subst po p1;split at z
  .cases z
  .rename_i hy;cases z;exact⟨rfl,_,by delta Ev.cI;dsimp only;rw[SA hy],⟨_,rfl,aq.map (f:=V.str) (g:=D.str) (λs=>by simp[Rep]) _⟩⟩
 .obtain⟨d',rfl,p1⟩:=p.one;simp only[aS,Rep]at po p1;subst po p1;obtain⟨k,z2,rfl⟩:=Option.map_eq_some_iff.mp z;exact⟨rfl,_,by delta Ev.cI;dsimp only;rw[z2];rfl,rfl⟩
 .cases z
def IS{x:V}{d:D}(f:uH x=true)(p:Rep h U x d):Rep [] U x d:=by
 cases x<;>simp only[uH,Vi]at f<;>exact p
def Eg{x:V}{d:D}(p:Rep h U x d):∀{kvs:List (D×D)}{v:V},eL x kvs=some v->∃r,Ev.eL d kvs=some r/\Rep h S v r:=by
 intro kvs v z;unfold eL at z;split at z
 .rename_i f;have p':=IS f p;induction kvs with
  |nil=>cases z
  |cons kv r ih=>
   obtain⟨k,u⟩:=kv;simp only[Au]at z;simp only[Ev.eL];split at z
   .rename_i y;simp only[eU]at y;obtain⟨k',y1,y2⟩:=y;rw[jU 1 y2 (nE y1) p'];exact⟨u,rfl,nE z⟩
   .rename_i y;simp only[eU]at y;obtain⟨k',y1,y2⟩:=y;rw[jU 1 y2 (nE y1) p'];exact ih z
   .cases z
 .cases z
def Eh{x:V}{l:List V}{d:D}(z:gj x=some l)(p:aS h S x d):∃s,Ev.gj h d=some s/\aq h S l s.1/\(∀q∈s.2,d=.ref q.1/\aR h q.1=some q.2):=by
 cases x<;>simp only[gj,reduceCtorEq]at z<;>simp only[aS,Rep]at p
 .subst p;cases z;exact⟨_,rfl,aq.map (f:=λc=>V.str [c]) (g:=λc=>D.str [c]) (λ_=>by simp[Rep]) _,by simp⟩
 .obtain⟨ds,rfl,p⟩:=p;cases z;exact⟨_,rfl,p,by simp⟩
 .obtain⟨n,ds,rfl,a,p⟩:=p;cases z;exact⟨(ds,[(n,ds)]),by simp[Ev.gj,gW a],p,by simp[gW a]⟩
 .obtain⟨n,ds,rfl,_,a,p⟩:=p;cases z;exact⟨(ds,[(n,ds)]),by simp[Ev.gj,iC a],p,by simp[iC a]⟩
def wo(lo:Int)(n:Nat):aq h S (range lo n) (Ev.range lo n):=aq.map (f:=λ(i:Nat)=>V.int (lo+i)) (g:=λ(i:Nat)=>D.int (lo+i)) (λ_=>by simp[Rep]) _
def Mb{xs l:List V}{ds:List D}(z:dP xs=some l)(p:fS h S xs ds):∃s,Ev.dP ds=some (s,[])/\aq h S l s:=by
 unfold dP at z;split at z
 .obtain⟨d,rfl,p1⟩:=p.one;simp only[aS,Rep]at p1;subst p1;split at z
  .rename_i k;cases z;exact⟨_,by simp only[Ev.dP];rw[b8 k],wo _ _⟩
  .cases z
 .simp only[fS,aS,Rep]at p;obtain⟨_,_,rfl,rfl,_,_,rfl,rfl,rfl⟩:=p;split at z
  .rename_i k;cases z;exact⟨_,by simp only[Ev.dP];rw[b8 k],wo _ _⟩
  .cases z
 .cases z
theorem yU:∀{a:List V}{ds:List D}(k:Int),aq h S a ds->aq h S (gH k a) (Ev.gH k ds)
 |[],_,_,p=>by simp only[aq]at p;subst p;simp[gH,Ev.gH,aq]
 |x :: xs,_,k,p=>by
  simp only[aq]at p;obtain⟨d,ds,rfl,p1,p2⟩:=p;simp only[gH,Ev.gH];exact .cons ⟨_,rfl,.cons rfl (.cons p1 .nil)⟩ (yU _ p2)
end
noncomputable def kP(M B:Nat->Prop)(h:Hh)(S:Nat->Prop):Option Sl->Option D->Prop
 |none,p=>p=none
 |some (.val v),p=>∃d,p=some d/\Rep h S v d
 |some (.own l),p=>∃m ds,p=some (.ref m)/\(M m/\¬ B m)/\h[m]?=some (.lst ds)/\aq h S l ds
 |some (.bor l),p=>∃m ds,p=some (.ref m)/\(M m/\B m)/\h[m]?=some (.lst ds)/\aq h S l ds
 |some (.ro l),p=>∃m ds,p=some (.ref m)/\¬ M m/\h[m]?=some (.lst ds)/\aq h S l ds
noncomputable def g9:Option Sl->Bool
 |some (.own _)=>true
 |some (.bor _)=>true
 |_=>false
noncomputable def yV:Option Sl->Bool
 |some (.bor _)=>true
 |some (.ro _)=>true
 |_=>false
noncomputable def locked(fr:Fr)(i:Nat):Bool:=match fr[i]? with
 |some o=>yV o
 |none=>false
structure aU(M B:Nat->Prop)(h:Hh)(S:Nat->Prop)(fr:Fr)(ai:Ev.Fr):Prop where
 wS:∀m,S m->m<h.length/\¬ M m/\¬ B m
 wM:∀m,M m->m<h.length
 wB:∀m,B m->m<h.length
 len:fr.length=ai.length
 sl:∀(i:Nat) o p,fr[i]?=some o->ai[i]?=some p->kP M B h S o p
 inj:∀(i j:Nat) o o' m,fr[i]?=some o->fr[j]?=some o'->g9 o=true->g9 o'=true->ai[i]?=some (some (.ref m))->ai[j]?=some (some (.ref m))->i=j
structure Tk(X:Nat->Prop)(h:Hh)(S:Nat->Prop)(h':Hh)(S':Nat->Prop):Prop where
 len:h.length<=h'.length
 keep:∀m,m<h.length->¬ X m->h'[m]?=h[m]?
 sub:∀m,S m->S' m
 new:∀m,S' m->S m\/(h.length<=m/\m<h'.length)
noncomputable def Xs(M:Nat->Prop)(ai:Ev.Fr)(l:List Nat):Nat->Prop:=λm=>M m/\∃i∈l,ai[i]?=some (some (.ref m))
structure Out(M B:Nat->Prop)(c:List Nat)(h:Hh)(S:Nat->Prop)(fr:Fr)(ai:Ev.Fr)(h':Hh)(S':Nat->Prop)(af:Fr):Prop where
 f:aU M B h' S' af ai
 tr:Tk (Xs M ai c) h S h' S'
 lk:∀i,locked af i=locked fr i
section
variable{M B:Nat->Prop}{h h' h1 h2:Hh}{S S' S1 S2:Nat->Prop}{fr af ak:Fr}{ai:Ev.Fr}{c c1 c2:List Nat}{v:V}{d:D}{X X1 X2:Nat->Prop}
def aU.get(f:aU M B h S fr ai){i:Nat}{o:Option Sl}(e:fr[i]?=some o):∃p,ai[i]?=some p/\kP M B h S o p:=by
 have h1:=(List.getElem?_eq_some_iff.mp e).1;rw[f.len]at h1;exact⟨ai[i],RY h1,f.sl i o _ e (RY h1)⟩
def aU.w(f:aU M B h S fr ai):∀m,S m->m<h.length:=λm q=>(f.wS m q).1
def Al.tr(a:Al h S h' S'):Tk X h S h' S':=⟨a.len,λm q _=>a.keep m q,a.sub,a.new⟩
def Tk.al(t:Tk X h S h' S')(z:∀m,¬ X m):Al h S h' S':=⟨t.len,λm q=>t.keep m q (z m),t.sub,t.new⟩
def Tk.weak(t:Tk X h S h' S')(q:∀m,X m->X1 m):Tk X1 h S h' S':=⟨t.len,λm k z=>t.keep m k λy=>z (q m y),t.sub,t.new⟩
def Tk.trans(a:Tk X1 h S h1 S1)(b:Tk X2 h1 S1 h2 S2):Tk (λm=>X1 m\/X2 m) h S h2 S2 where
 len:=Uc a.len b.len
 keep:=λm q z=>by rw[b.keep m (eE q a.len) (λy=>z (.inr y)),a.keep m q (λy=>z (.inl y))]
 sub:=λm q=>b.sub m (a.sub m q)
 new:=λm q=>by
  rcases b.new m q with q|⟨q1,q2⟩
  .rcases a.new m q with q|⟨q1,q2⟩
   .exact .inl q
   .exact .inr ⟨q1,eE q2 b.len⟩
  .exact .inr ⟨Uc a.len q1,q2⟩
theorem Al.trans(a:Al h S h1 S1)(b:Al h1 S1 h2 S2):Al h S h2 S2:=((a.tr (X:=λ_=>False)).trans (b.tr (X:=λ_=>False))).al λm z=>by simp at z
def Tk.refl:Tk X h S h S:=⟨Qq _,λ_ _ _=>rfl,λ_ q=>q,λ_ q=>.inl q⟩
def Xs.app{l1 l2:List Nat}{m:Nat}:Xs M ai (l1++l2) m↔Xs M ai l1 m\/Xs M ai l2 m:=by
 unfold Xs;constructor
 .rintro⟨a,i,hi,e⟩;rcases List.mem_append.mp hi with hi|hi
  .exact .inl ⟨a,i,hi,e⟩
  .exact .inr ⟨a,i,hi,e⟩
 .rintro(⟨a,i,hi,e⟩|⟨a,i,hi,e⟩)
  .exact⟨a,i,List.mem_append.mpr (.inl hi),e⟩
  .exact⟨a,i,List.mem_append.mpr (.inr hi),e⟩
def Xs.nil{m:Nat}:¬ Xs M ai [] m:=by rintro⟨_,i,hi,_⟩;simp at hi
def Xs.mono{l1 l2:List Nat}(q:∀i∈l1,i∈l2){m:Nat}:Xs M ai l1 m->Xs M ai l2 m:=λ⟨a,i,hi,e⟩=>⟨a,i,q i hi,e⟩
def Rep.tr(q:Rep h S v d)(f:aU M B h S fr ai)(t:Tk (Xs M ai c) h S h' S'):Rep h' S' v d:=q.mono (λm z=>t.keep m (f.wS m z).1 (λy=>(f.wS m z).2.1 y.1)) t.sub
def aq.tr{l:List V}{ds:List D}(q:aq h S l ds)(f:aU M B h S fr ai)(t:Tk (Xs M ai c) h S h' S'):aq h' S' l ds:=q.mono (λm z=>t.keep m (f.wS m z).1 (λy=>(f.wS m z).2.1 y.1)) t.sub
def aS.tr(q:aS h S v d)(f:aU M B h S fr ai)(t:Tk X h S h' S')(z:∀m,¬ X m):aS h' S' v d:=q.mono (λm k=>t.keep m k (z m)) f.w t.sub
def kP.al{o:Option Sl}{p:Option D}(q:kP M B h S o p)(w:∀m,S m->m<h.length)(a:Al h S h' S'):kP M B h' S' o p:=by
 have k:∀m,S m->h'[m]?=h[m]?:=λm z=>a.keep m (w m z);have g:∀(m:Nat) (ds:List D),h[m]?=some (O.lst ds)->h'[m]?=some (O.lst ds):=λm ds z=>by rw[a.keep m (List.getElem?_eq_some_iff.mp z).1];exact z
 rcases o with _|s
 .exact q
 .cases s with
  |val v=>obtain⟨d,e,q⟩:=q;exact⟨d,e,q.mono k a.sub⟩
  |own l=>obtain⟨m,ds,e,z,y,q⟩:=q;exact⟨m,ds,e,z,g m ds y,q.mono k a.sub⟩
  |bor l=>obtain⟨m,ds,e,z,y,q⟩:=q;exact⟨m,ds,e,z,g m ds y,q.mono k a.sub⟩
  |ro l=>obtain⟨m,ds,e,z,y,q⟩:=q;exact⟨m,ds,e,z,g m ds y,q.mono k a.sub⟩
theorem aU.al(f:aU M B h S fr ai)(a:Al h S h' S'):aU M B h' S' fr ai where
 wS:=λm q=>by
  rcases a.new m q with q|⟨q1,q2⟩
  .exact⟨eE (f.wS m q).1 a.len,(f.wS m q).2⟩
  .exact⟨q2,λz=>by have:=f.wM m z;omega,λz=>by have:=f.wB m z;omega⟩
 wM:=λm q=>eE (f.wM m q) a.len
 wB:=λm q=>eE (f.wB m q) a.len
 len:=f.len
 sl:=λi o p e1 e2=>(f.sl i o p e1 e2).al f.w a
 inj:=f.inj
theorem Out.refl(f:aU M B h S fr ai):Out M B c h S fr ai h S fr:=⟨f,.refl,λ_=>rfl⟩
theorem Out.trans(a:Out M B c1 h S fr ai h1 S1 af)(b:Out M B c2 h1 S1 af ai h2 S2 ak):Out M B (c1++c2) h S fr ai h2 S2 ak:=⟨b.f,(a.tr.trans b.tr).weak λm z=>Xs.app.mpr z,λi=>(b.lk i).trans (a.lk i)⟩
theorem Out.al(a:Out M B c h S fr ai h1 S1 af)(b:Al h1 S1 h2 S2):Out M B c h S fr ai h2 S2 af:=⟨a.f.al b,(a.tr.trans (b.tr (X:=λ_=>False))).weak (λm z=>by rcases z with z|z;exact z;exact z.elim),a.lk⟩
theorem Out.weak(a:Out M B c h S fr ai h1 S1 af)(q:∀i∈c,i∈c1):Out M B c1 h S fr ai h1 S1 af:=⟨a.f,a.tr.weak λm z=>Xs.mono q z,a.lk⟩
noncomputable def fW(k:Bool)(h:Hh)(S:Nat->Prop)(v:V)(d:D):Prop:=if k=true then aS h S v d else Rep h S v d
def fW.of{k:Bool}(q:Rep h S v d):fW k h S v d:=by unfold fW;split;exact q.top;exact q
def fW.t{k:Bool}(q:fW k h S v d):aS h S v d:=by unfold fW at q;split at q;exact q;exact q.top
def fW.n(q:fW false h S v d):Rep h S v d:=by simpa[fW]using q
def aU.slot(f:aU M B h S fr ai){i m:Nat}(e:ai[i]?=some (some (.ref m)))(hm:M m):∃o,fr[i]?=some o/\g9 o=true:=by
 have hl:i<fr.length:=by rw[f.len];exact(List.getElem?_eq_some_iff.mp e).1
 refine⟨fr[i],RY hl,?_⟩;have s:=f.sl i _ _ (RY hl) e
 revert s
 generalize fr[i]=o
 intro s;rcases o with _|s'
 .cases s
 .cases s' with
  |own l=>rfl
  |bor l=>rfl
  |ro l=>obtain⟨m',ds,e,y,_⟩:=s;cases e;exact absurd hm y
  |val v=>
   obtain⟨d,e,q⟩:=s;cases e;exfalso;cases v<;>simp only[Rep,reduceCtorEq]at q
   .obtain⟨_,e,_⟩:=q;cases e
   .obtain⟨n,ds,e,sn,_⟩:=q;cases e;exact(f.wS _ sn).2.1 hm
   .obtain⟨n,ds,e,sn,_⟩:=q;cases e;exact(f.wS _ sn).2.1 hm
   .obtain⟨n,e,sn,_⟩:=q;cases e;exact(f.wS _ sn).2.1 hm
theorem fW.tr{k:Bool}{a:E}(q:fW k h S v d)(f:aU M B h S fr ai)(t:Tk (Xs M ai c) h S h' S')(hk:k=true->kf a c=true)(ha:∀i,a=.v i->ai[i]?.join=some d):fW k h' S' v d:=by
 unfold fW at q ⊢;split at q
 .rename_i e;rw[b8 e];have hk:=hk e;have gen:c=[]->aS h' S' v d:=λz=>q.tr f t λm y=>by subst z;exact Xs.nil y
  by_cases hv:∃i,a=.v i
  .obtain⟨i0,rfl⟩:=hv;simp only[kf,VD,List.contains_eq_mem,decide_eq_false_iff_not]at hk;cases v
   case lst l=>
    simp only[aS]at q ⊢;obtain⟨n,ds,rfl,b1,b2⟩:=q;refine⟨n,ds,rfl,?_,b2.tr f t⟩;rw[t.keep n (List.getElem?_eq_some_iff.mp b1).1 ?_]
    .exact b1
    .rintro⟨mn,j,hj,ej⟩;have e2:ai[i0]?=some (some (D.ref n)):=by
      have:=ha i0 rfl;cases z:ai[i0]? with
      |none=>rw[z]at this;cases this
      |some p=>rw[z]at this;simp at this;rw[this]
     obtain⟨o1,y1,y2⟩:=f.slot e2 mn;obtain⟨o2,y3,y4⟩:=f.slot ej mn;have:=f.inj i0 j o1 o2 n y1 y3 y2 y4 e2 ej;subst this;exact hk hj
   all_goals exact Rep.tr (show Rep h S _ d from q) f t
  .have:kf a c=c.isEmpty:=by
    cases a<;>first|rfl|exact absurd ⟨_,rfl⟩ hv
   rw[this,List.isEmpty_iff]at hk;exact gen hk
 .rename_i e;rw[SA e];exact q.tr f t
def IT{k:Bool}{i:Nat}(e:nC k fr i=some v)(f:aU M B h S fr ai):∃d,ai[i]?.join=some d/\fW k h S v d:=by
  unfold nC at e;split at e
  . rename_i z;obtain⟨p,e1,q⟩:=f.get z;obtain⟨d,rfl,q⟩:=q;cases e;exact⟨d,by rw[e1];rfl,.of q⟩
  all_goals first
    | (rename_i z
       obtain⟨p,e1,q⟩:=f.get z;obtain⟨m,ds,rfl,_,y,q⟩:=q;split at e
       . rename_i hk;cases e;exact⟨.ref m,by rw[e1];rfl,by unfold fW;rw[b8 hk];exact⟨m,ds,rfl,y,q⟩⟩
       . cases e)
    |cases e
def ig{i:Nat}{s:Sl}(e:lent fr i=some s)(f:aU M B h S fr ai):∃m ds l o,fr[i]?=some o/\ai[i]?=some (some (.ref m))/\h[m]?=some (.lst ds)/\aq h S l ds/\((s=.bor l/\M m/\g9 o=true)\/(s=.ro l/\¬ M m/\o=some (.ro l))):=by
 unfold lent at e;split at e
 .rename_i s' z;obtain⟨p,e1,q⟩:=f.get z;cases s' with
  |val v=>simp[Sl.lend]at e
  |own l=>
   simp[Sl.lend]at e;subst e;obtain⟨m,ds,rfl,y,y1,q⟩:=q;exact⟨m,ds,l,_,z,e1,y1,q,.inl ⟨rfl,y.1,rfl⟩⟩
  |bor l=>
   simp[Sl.lend]at e;subst e;obtain⟨m,ds,rfl,y,y1,q⟩:=q;exact⟨m,ds,l,_,z,e1,y1,q,.inl ⟨rfl,y.1,rfl⟩⟩
  |ro l=>
   simp[Sl.lend]at e;subst e;obtain⟨m,ds,rfl,y,y1,q⟩:=q;exact⟨m,ds,l,_,z,e1,y1,q,.inr ⟨rfl,y,rfl⟩⟩
 .cases e
noncomputable def uo(h:Hh)(S:Nat->Prop)(ai:Ev.Fr):List (Nat ⊕ V)->List D->Prop
 |[],ds=>ds=[]
 |.inl i :: r,ds=>∃d es,ds=d :: es/\ai[i]?=some (some d)/\uo h S ai r es
 |.inr v :: r,ds=>∃d es,ds=d :: es/\Rep h S v d/\uo h S ai r es
noncomputable def kE(h:Hh)(S:Nat->Prop):List Sl->List D->List (List V)->Prop
 |[],_,os=>os=[]
 |.val _ :: sl,ds,os=>∃d es,ds=d :: es/\kE h S sl es os
 |.own _ :: _,_,_=>False
 |_ :: sl,ds,os=>∃d es l r m cs,ds=d :: es/\os=l :: r/\d=.ref m/\h[m]?=some (.lst cs)/\aq h S l cs/\kE h S sl es r
noncomputable def oS(P:aB)(P':Ev.aB):Prop:=∀f sl v os,P f sl=some (v,os)->∀(h:Hh) (S B:Nat->Prop) (ds:List D),aU B B h S (sl.map some) (ds.map some)->
 ∃d h' S',P' f ds h=.ok d h'/\Rep h' S' v d/\Tk B h S h' S'/\kE h' S' sl ds os
theorem XG(f:aU M B h S fr ai):∀{as:List (Nat ⊕ V)}{sl:List Sl}{ds:List D},args fr as=some sl->uo h S ai as ds->sl.length=ds.length/\∀(a:Nat) s d,sl[a]?=some s->ds[a]?=some d->
  (∃i,as[a]?=some (.inl i)/\lent fr i=some s/\ai[i]?=some (some d))\/(∃v,s=.val v/\Rep h S v d)
 |[],sl,ds,e,q=>by
  simp[args]at e;simp only[uo]at q;subst e q;simp
 |.inl i :: r,sl,ds,e,q=>by
  simp only[args,eU,cz]at e;obtain⟨s,e1,l,e2,rfl⟩:=e;obtain⟨d,es,rfl,q1,q⟩:=q;obtain⟨h1,h2⟩:=XG f e2 q;refine⟨by simp[h1],λa s' d' z1 z2=>?_⟩;cases a with
  |zero=>simp at z1 z2;subst z1 z2;exact .inl ⟨i,by simp,e1,q1⟩
  |succ a=>exact(h2 a s' d' (by simpa using z1) (by simpa using z2)).imp (λ⟨i,k,z⟩=>⟨i,by simpa using k,z⟩) id
 |.inr v :: r,sl,ds,e,q=>by
  simp only[args,cz]at e;obtain⟨l,e2,rfl⟩:=e;obtain⟨d,es,rfl,q1,q⟩:=q;obtain⟨h1,h2⟩:=XG f e2 q;refine⟨by simp[h1],λa s' d' z1 z2=>?_⟩;cases a with
  |zero=>simp at z1 z2;subst z1 z2;exact .inr ⟨v,rfl,q1⟩
  |succ a=>exact(h2 a s' d' (by simpa using z1) (by simpa using z2)).imp (λ⟨i,k,z⟩=>⟨i,by simpa using k,z⟩) id
theorem ir:∀{as:List (Nat ⊕ V)}{a i:Nat},as[a]?=some (.inl i)->i∈bB as
 |[],_,_,e=>by simp at e
 |.inl j :: r,0,i,e=>by simp at e;subst e;simp[bB]
 |.inr j :: r,0,i,e=>by simp at e
 |.inl j :: r,a+1,i,e=>by have:=ir (as:=r) (a:=a) (i:=i) (by simpa using e);simp[bB,this]
 |.inr j :: r,a+1,i,e=>by have:=ir (as:=r) (a:=a) (i:=i) (by simpa using e);simp[bB,this]
theorem nF:∀{as:List (Nat ⊕ V)}{a b i:Nat},(bB as).Nodup->as[a]?=some (.inl i)->as[b]?=some (.inl i)->a=b
 |[],_,_,_,_,e,_=>by simp at e
 |x :: r,0,0,_,_,_,_=>rfl
 |.inr j :: r,0,b+1,i,n,e,_=>by simp at e
 |.inl j :: r,0,b+1,i,n,e,e2=>by
  simp at e;subst e;simp only[bB,WI]at n;exact absurd (ir (as:=r) (a:=b) (by simpa using e2)) n.1
 |.inr j :: r,a+1,0,i,n,_,e=>by simp at e
 |.inl j :: r,a+1,0,i,n,e2,e=>by
  simp at e;subst e;simp only[bB,WI]at n;exact absurd (ir (as:=r) (a:=a) (by simpa using e2)) n.1
 |.inl j :: r,a+1,b+1,i,n,e1,e2=>by
  simp only[bB,WI]at n;have:=nF (as:=r) (a:=a) (b:=b) (i:=i) n.2 (by simpa using e1) (by simpa using e2);omega
 |.inr j :: r,a+1,b+1,i,n,e1,e2=>by
  simp only[bB]at n;have:=nF (as:=r) (a:=a) (b:=b) (i:=i) n (by simpa using e1) (by simpa using e2);omega
def Ei{s:Sl}{l:List V}:g9 (some (s.with l))=g9 (some s):=by cases s<;>rfl
def yW{s:Sl}{l:List V}:yV (some (s.with l))=yV (some s):=by cases s<;>rfl
theorem wu:∀{is:List Nat}{ls:List (List V)}{fr af:Fr},back is ls fr=some af->is.Nodup->af.length=fr.length/\(∀i,i∉is->af[i]?=fr[i]?)/\∀i∈is,∃(k:Nat) (s:Sl) (l:List V),is[k]?=some i/\ls[k]?=some l/\fr[i]?=some (some s)/\af[i]?=some (some (s.with l))
 |[],[],fr,af,e,_=>by simp[back]at e;subst e;simp
 |[],_ :: _,_,_,e,_=>by simp[back]at e
 |_ :: _,[],_,_,e,_=>by simp[back]at e
 |i :: is,l :: ls,fr,af,e,n=>by
  simp only[back]at e;simp only[WI]at n;split at e
  .rename_i s z;obtain⟨h1,h2,h3⟩:=wu e n.2;refine⟨by simpa using h1,λj hj=>?_,λj hj=>?_⟩
   .simp at hj;rw[h2 j hj.2,gV (λq=>hj.1 q.symm)]
   .rcases List.mem_cons.mp hj with rfl|hj
    .exact⟨0,s,l,by simp,by simp,z,by rw[h2 j n.1,Qs (List.getElem?_eq_some_iff.mp z).1]⟩
    .obtain⟨k,s',l',a,b,c,d⟩:=h3 j hj;have hne:i≠j:=λq=>n.1 (q▸hj);rw[gV hne]at c;exact⟨k+1,s',l',by simpa using a,by simpa using b,c,d⟩
  .cases e
theorem nG(f:aU M B h S fr ai):∀{as:List (Nat ⊕ V)}{sl:List Sl}{ds:List D}{os:List (List V)},args fr as=some sl->uo h S ai as ds->kE h' S' sl ds os->
  ∀(k i:Nat) l,(bB as)[k]?=some i->os[k]?=some l->∃m cs,ai[i]?=some (some (.ref m))/\h'[m]?=some (.lst cs)/\aq h' S' l cs
 |[],sl,ds,os,e,q,o=>by simp[bB]
 |.inl i :: r,sl,ds,os,e,q,o=>by
  simp only[args,eU,cz]at e;obtain⟨s,e1,l,e2,rfl⟩:=e;obtain⟨d,es,rfl,q1,q⟩:=q;obtain⟨m,cs,l0,o0,_,z2,z3,z4,z5⟩:=ig e1 f;have key:∃l1 r1 cs,os=l1 :: r1/\h'[m]?=some (.lst cs)/\aq h' S' l1 cs/\kE h' S' l es r1:=by
   rw[q1]at z2;cases z2;rcases z5 with ⟨rfl,_⟩|⟨rfl,_⟩
   .obtain⟨d',es',l1,r1,m1,Cm,a1,a2,a3,a4,a5,a6⟩:=o;cases a1;cases a3;exact⟨l1,r1,Cm,a2,a4,a5,a6⟩
   .obtain⟨d',es',l1,r1,m1,Cm,a1,a2,a3,a4,a5,a6⟩:=o;cases a1;cases a3;exact⟨l1,r1,Cm,a2,a4,a5,a6⟩
  obtain⟨l1,r1,Cm,rfl,a4,a5,a6⟩:=key;intro k j l' y1 y2;cases k with
  |zero=>simp[bB]at y1 y2;subst y1 y2;exact⟨m,Cm,z2,a4,a5⟩
  |succ k=>exact nG f e2 q a6 k j l' (by simpa[bB]using y1) (by simpa using y2)
 |.inr v :: r,sl,ds,os,e,q,o=>by
  simp only[args,cz]at e;obtain⟨l,e2,rfl⟩:=e;obtain⟨d,es,rfl,q1,q⟩:=q;obtain⟨d',es',a1,a2⟩:=o;cases a1;intro k j l' y1 y2;exact nG f e2 q a2 k j l' (by simpa[bB]using y1) y2
theorem lP:∀{as:List (Nat ⊕ V)}{sl:List Sl}{i:Nat},args fr as=some sl->i∈bB as->∃s,lent fr i=some s
 |[],_,_,_,q=>by simp[bB]at q
 |.inl j :: r,_,i,z,q=>by
  simp only[args,eU,cz]at z;obtain⟨s,e1,l,e2,rfl⟩:=z;simp[bB]at q;rcases q with rfl|q
  .exact⟨s,e1⟩
  .exact lP e2 q
 |.inr u :: r,_,i,z,q=>by
  simp only[args,cz]at z;obtain⟨l,e2,rfl⟩:=z;exact lP e2 (by simpa[bB]using q)
noncomputable def LB(fr:Fr)(ai:Ev.Fr)(as:List (Nat ⊕ V)):Nat->Prop:=λm=>∃(i:Nat) (o:Option Sl),i∈bB as/\fr[i]?=some o/\g9 o=true/\ai[i]?=some (some (.ref m))
theorem LB.m(f:aU M B h S fr ai){as:List (Nat ⊕ V)}:∀m,LB fr ai as m->M m:=λm ⟨i,o,_,a,b,c⟩=>by
  have s:=f.sl i o _ a c;rcases o with _|s'
  .cases b
  .cases s' with
   |val v=>cases b
   |ro l=>cases b
   |own l=>obtain⟨m',ds',e,y,_⟩:=s;cases e;exact y.1
   |bor l=>obtain⟨m',ds',e,y,_⟩:=s;cases e;exact y.1
def yX(f:aU M B h S fr ai){as:List (Nat ⊕ V)}{sl:List Sl}{ds:List D}(nd:(bB as).Nodup)(z:args fr as=some sl)(q:uo h S ai as ds):aU (LB fr ai as) (LB fr ai as) h S (sl.map some) (ds.map some):=by
 have pF:=LB.m f (as:=as);obtain⟨hl,hg⟩:=XG f z q;refine⟨λm y=>⟨(f.wS m y).1,λz=>(f.wS m y).2.1 (pF m z),λz=>(f.wS m y).2.1 (pF m z)⟩,λm y=>f.wM m (pF m y),λm y=>f.wM m (pF m y),by simp[hl],λa o p y1 y2=>?_,λa b o o' m y1 y2 y3 y4 y5 y6=>?_⟩
 .simp at y1 y2;obtain⟨s,y1,rfl⟩:=y1;obtain⟨d,y2,rfl⟩:=y2;rcases hg a s d y1 y2 with ⟨i,k1,k2,k3⟩|⟨u,rfl,k⟩
  .obtain⟨m,cs,l0,o0,w1,w2,w3,w4,w5⟩:=ig k2 f;rw[k3]at w2;cases w2;rcases w5 with ⟨rfl,w6,w7⟩|⟨rfl,w6,w7⟩
   .exact⟨m,cs,rfl,⟨⟨i,o0,ir k1,w1,w7,k3⟩,⟨i,o0,ir k1,w1,w7,k3⟩⟩,w3,w4⟩
   .exact⟨m,cs,rfl,λz=>w6 (pF m z),w3,w4⟩
  .exact⟨d,rfl,k⟩
 .simp at y1 y2 y5 y6;obtain⟨s,y1,rfl⟩:=y1;obtain⟨s',y2,rfl⟩:=y2;rcases hg a s _ y1 y5 with ⟨i,k1,k2,k3⟩|⟨u,rfl,k⟩
  .rcases hg b s' _ y2 y6 with ⟨j,k4,k5,k6⟩|⟨u,rfl,k⟩
   .obtain⟨m1,_,l1,o1,w1,w2,_,_,w5⟩:=ig k2 f;obtain⟨m2,_,l2,o2,x1,x2,_,_,x5⟩:=ig k5 f;have i1:g9 o1=true:=by rcases w5 with ⟨_,_,w7⟩|⟨rfl,_,_⟩;exact w7;cases y3
    have i2:g9 o2=true:=by rcases x5 with ⟨_,_,w7⟩|⟨rfl,_,_⟩;exact w7;cases y4
    have:=f.inj i j o1 o2 m w1 x1 i1 i2 k3 k6;subst this;exact nF nd k1 k4
   .cases y4
  .cases y3
def qd{P:aB}{P':Ev.aB}(HP:oS P P'){g:Nat}{as:List (Nat ⊕ V)}{ds:List D}(e:dI P g as fr=.ok v af)(f:aU M B h S fr ai)(q:uo h S ai as ds) :
  ∃d h' S',P' g ds h=.ok d h'/\Rep h' S' v d/\Out M B (bB as) h S fr ai h' S' af:=by
 unfold dI at e;split at e
 case isFalse=>cases e
 rename_i nd;cases z:args fr as with
 |none=>rw[z]at e;cases e
 |some sl=>
 rw[z]at e;simp only at e;cases z2:P g sl with
 |none=>rw[z2]at e;cases e
 |some vo=>
 obtain⟨v',os⟩:=vo;rw[z2]at e;simp only at e;cases z3:back (bB as) os fr with
 |none=>rw[z3]at e;cases e
 |some ak=>
 rw[z3]at e;simp at e;obtain⟨rfl,rfl⟩:=e;obtain⟨hl,hg⟩:=XG f z q
 let B0:Nat->Prop:=LB fr ai as
 have pF:∀m,B0 m->M m:=LB.m f;have F0:aU B0 B0 h S (sl.map some) (ds.map some):=yX f nd z q;obtain⟨d,h',S',c1,c2,c3,c4⟩:=HP g sl v' os z2 h S B0 ds F0;obtain⟨b1,b2,b3⟩:=wu z3 nd;have hL:=nG f z q c4;have qN:∀m,S m->h'[m]?=h[m]?:=λm y=>c3.keep m (f.wS m y).1 (λz=>(f.wS m y).2.1 (pF m z));refine⟨d,h',S',c1,c2,⟨?_,?_,?_⟩⟩
 .refine⟨λm y=>?_,λm y=>eE (f.wM m y) c3.len,λm y=>eE (f.wB m y) c3.len,by rw[b1,f.len],λi o p y1 y2=>?_,λi j o o' m y1 y2 y3 y4 y5 y6=>?_⟩
  .rcases c3.new m y with y|⟨y1,y2⟩
   .exact⟨eE (f.wS m y).1 c3.len,(f.wS m y).2⟩
   .exact⟨y2,λz=>by have:=f.wM m z;omega,λz=>by have:=f.wB m z;omega⟩
  .by_cases hi:i∈bB as
   .obtain⟨k,s,l,w1,w2,w3,w4⟩:=b3 i hi;rw[w4]at y1;cases y1;obtain⟨m,cs,x1,x2,x3⟩:=hL k i l w1 w2;rw[x1]at y2;cases y2;have old:=f.sl i _ _ w3 x1;cases s with
    |val u=>
     exfalso;have:∃s,lent fr i=some s:=lP z hi;obtain⟨s,hs⟩:=this;simp[lent,w3,Sl.lend]at hs
    |own u=>obtain⟨m',ds',e,y,_⟩:=old;cases e;exact⟨m,cs,rfl,y,x2,x3⟩
    |bor u=>obtain⟨m',ds',e,y,_⟩:=old;cases e;exact⟨m,cs,rfl,y,x2,x3⟩
    |ro u=>
     obtain⟨m',ds',e,y,y1,y2⟩:=old;cases e;refine⟨m,ds',rfl,y,?_,y2.mono qN c3.sub⟩;rw[c3.keep m (List.getElem?_eq_some_iff.mp y1).1 (λz=>y (pF m z))];exact y1
   .rw[b2 i hi]at y1;have old:=f.sl i o p y1 y2;rcases o with _|s
    .exact old
    .cases s with
     |val u=>obtain⟨d,e,q⟩:=old;exact⟨d,e,q.mono qN c3.sub⟩
     |own u=>
      obtain⟨m,ds',rfl,w1,w2,w3⟩:=old;refine⟨m,ds',rfl,w1,?_,w3.mono qN c3.sub⟩;rw[c3.keep m (f.wM m w1.1) (λ⟨j,o2,x1,x2,x3,x4⟩=>hi (f.inj i j _ o2 m y1 x2 rfl x3 y2 x4▸x1))];exact w2
     |bor u=>
      obtain⟨m,ds',rfl,w1,w2,w3⟩:=old;refine⟨m,ds',rfl,w1,?_,w3.mono qN c3.sub⟩;rw[c3.keep m (f.wM m w1.1) (λ⟨j,o2,x1,x2,x3,x4⟩=>hi (f.inj i j _ o2 m y1 x2 rfl x3 y2 x4▸x1))];exact w2
     |ro u=>
      obtain⟨m,ds',rfl,w1,w2,w3⟩:=old;refine⟨m,ds',rfl,w1,?_,w3.mono qN c3.sub⟩;rw[c3.keep m (List.getElem?_eq_some_iff.mp w2).1 (λz=>w1 (pF m z))];exact w2
  .have kind:∀(i:Nat) o,ak[i]?=some o->g9 o=true->∃o0,fr[i]?=some o0/\g9 o0=true:=λi o w1 w2=>by
    by_cases hi:i∈bB as
    .obtain⟨k,s,l,x1,x2,x3,x4⟩:=b3 i hi;rw[x4]at w1;cases w1;exact⟨_,x3,by rw[Ei]at w2;exact w2⟩
    .rw[b2 i hi]at w1;exact⟨o,w1,w2⟩
   obtain⟨oi,k1,k2⟩:=kind i o y1 y3;obtain⟨oj,k3,k4⟩:=kind j o' y2 y4;exact f.inj i j oi oj m k1 k3 k2 k4 y5 y6
 .exact c3.weak λm z=>⟨pF m z,by obtain⟨i,o,a1,a2,a3,a4⟩:=z;exact⟨i,a1,a4⟩⟩
 .intro i;unfold locked;by_cases hi:i∈bB as
  .obtain⟨k,s,l,x1,x2,x3,x4⟩:=b3 i hi;rw[x3,x4];exact yW
  .rw[b2 i hi]
end
end Pv
namespace Pv
open Ev (D O Hh)
end Pv
namespace Pv
open Ev (D O Hh aQ aK TY BI ME T E Es Eo It S Ss Fn big deep b2i rep bG cK bg aI cut aP bZ slots aR)
section
variable{M B:Nat->Prop}{h h' h1 h2:Hh}{S S' S1 S2:Nat->Prop}{fr af ak:Fr}{ai:Ev.Fr}{c:List Nat}{v:V}{d:D}
def kY{n m:Nat}{o:O}(q:n≠m):(h.set n o)[m]?=h[m]?:=gV q
def aU.mM(f:aU M B h S fr ai){i n:Nat}{o:Option Sl}(e:fr[i]?=some o)(hM:g9 o=true)(e':ai[i]?=some (some (.ref n))):M n:=by
 have s:=f.sl i o _ e e';rcases o with _|s'
 .cases hM
 .cases s' with
  |val v=>cases hM
  |ro l=>cases hM
  |own l=>obtain⟨m',ds',e,y,_⟩:=s;cases e;exact y.1
  |bor l=>obtain⟨m',ds',e,y,_⟩:=s;cases e;exact y.1
def aU.write(f:aU M B h S fr ai){i n:Nat}{s:Sl}{l':List V}{ds':List D}(e:fr[i]?=some (some s))(hM:g9 (some s)=true)(e':ai[i]?=some (some (.ref n)))(q:aq h S l' ds') :
  aU M B (h.set n (.lst ds')) S (fr.set i (some (s.with l'))) ai:=by
 have mn:=f.mM e hM e';have kp:∀m,S m->(h.set n (.lst ds'))[m]?=h[m]?:=λm z=>kY λy=>(f.wS m z).2.1 (y▸mn);have il:=(List.getElem?_eq_some_iff.mp e).1;refine⟨λm y=>by simpa using f.wS m y,λm y=>by simpa using f.wM m y,λm y=>by simpa using f.wB m y,by simp[f.len],λj o p y1 y2=>?_,λj k o o' m y1 y2 y3 y4 y5 y6=>?_⟩
 .by_cases hj:i=j
  .subst hj;rw[Qs il]at y1;cases y1;rw[e']at y2;cases y2;have old:=f.sl i _ _ e e';have hn:(h.set n (.lst ds'))[n]?=some (.lst ds'):=Qs (f.wM n mn);cases s with
   |val v=>cases hM
   |ro l=>cases hM
   |own l=>obtain⟨m',_,e,y,_⟩:=old;cases e;exact⟨n,ds',rfl,y,hn,q.mono kp λ_ z=>z⟩
   |bor l=>obtain⟨m',_,e,y,_⟩:=old;cases e;exact⟨n,ds',rfl,y,hn,q.mono kp λ_ z=>z⟩
  .rw[gV hj]at y1;have old:=f.sl j o p y1 y2;rcases o with _|s'
   .exact old
   .cases s' with
    |val u=>obtain⟨d,e,q⟩:=old;exact⟨d,e,q.mono kp λ_ z=>z⟩
    |own u=>
     obtain⟨m,es,rfl,w1,w2,w3⟩:=old;refine⟨m,es,rfl,w1,?_,w3.mono kp λ_ z=>z⟩;rw[kY λ(z:n=m)=>hj (f.inj i j _ _ n e y1 hM rfl e' (by rw[z];exact y2))];exact w2
    |bor u=>
     obtain⟨m,es,rfl,w1,w2,w3⟩:=old;refine⟨m,es,rfl,w1,?_,w3.mono kp λ_ z=>z⟩;rw[kY λ(z:n=m)=>hj (f.inj i j _ _ n e y1 hM rfl e' (by rw[z];exact y2))];exact w2
    |ro u=>
     obtain⟨m,es,rfl,w1,w2,w3⟩:=old;refine⟨m,es,rfl,w1,?_,w3.mono kp λ_ z=>z⟩;rw[kY λ(z:n=m)=>w1 (z▸mn)];exact w2
 .have kind:∀(j:Nat) o,(fr.set i (some (s.with l')))[j]?=some o->g9 o=true->∃o0,fr[j]?=some o0/\g9 o0=true:=λj o w1 w2=>by
   by_cases hj:i=j
   .subst hj;exact⟨_,e,hM⟩
   .rw[gV hj]at w1;exact⟨o,w1,w2⟩
  obtain⟨oi,k1,k2⟩:=kind j o y1 y3;obtain⟨oj,k3,k4⟩:=kind k o' y2 y4;exact f.inj j k oi oj m k1 k3 k2 k4 y5 y6
def Mc{m:ME}{l l':List V}{xs:List V}{n:Nat}{ds es:List D}(z:nB m l xs=some (v,l'))(e:h[n]?=some (.lst ds))(q:aq h S l ds)(p:fS h S xs es)(p':yP m=false->aq h S xs es)(hS:∀k,S k->k≠n) :
  ∃r ds',Ev.cI m (.ref n) es h=.ok r (h.set n (.lst ds'))/\Rep h S v r/\aq h S l' ds':=by
 unfold nB at z;split at z
 .have p':=p' rfl;split at z
  .rename_i k;cases z;simp only[aq]at p';obtain⟨d,_,rfl,p1,rfl⟩:=p';refine⟨_,_,?_,rfl,q.append (.cons p1 .nil)⟩
   delta Ev.cI;dsimp only;simp only[e]
   rw[b8 (by rw[<-q.length];exact k)]
  .cases z
 .split at z
  .rename_i k;cases z;obtain⟨d,rfl,p1⟩:=p.one;simp only[aS]at p1;obtain⟨n2,cs,rfl,e2,p1⟩:=p1;refine⟨_,_,?_,rfl,q.append p1⟩
   delta Ev.cI;dsimp only;simp only[e,e2]
   rw[b8 (by rw[<-q.length,<-p1.length];exact k)]
  .cases z
 .simp only[fS]at p;subst p;split at z
  .rename_i x y;cases z;obtain⟨d,k1,k2⟩:=q.get y;refine⟨d,_,?_,k2,q.dropLast⟩
   delta Ev.cI;dsimp only;simp only[e]
   rw[<-q.length,k1]
  .cases z
 .cases z
theorem aU.set(f:aU M B h S fr ai){i:Nat}(e:put fr i (.val v)=some af)(q:Rep h S v d):aU M B h S af (ai.set i (some d))/\(∀j,locked af j=locked fr j)/\∀j,locked fr j=true->(ai.set i (some d))[j]?=ai[j]?:=by
 have hx:af=fr.set i (some (.val v))/\locked fr i=false:=by
  unfold put at e;unfold locked;split at e
  .cases e
  .cases e
  .rename_i k1 k2;cases e;refine⟨rfl,?_⟩;cases z:fr[i]? with
   |none=>rfl
   |some o=>
    rcases o with _|s
    .rfl
    .cases s with
     |bor l=>exact absurd z (k1 l)
     |ro l=>exact absurd z (k2 l)
     |_=>rfl
 obtain⟨rfl,hk⟩:=hx;have lk:∀j,locked (fr.set i (some (.val v))) j=locked fr j:=λj=>by
  by_cases hj:i=j
  .subst hj;rw[hk];unfold locked;by_cases hl:i<fr.length
   .rw[Qs hl];rfl
   .rw[VH (by simpa using hl)]
  .unfold locked;rw[gV hj]
 refine⟨⟨f.wS,f.wM,f.wB,by simp[f.len],λj o p y1 y2=>?_,λj k o o' m y1 y2 y3 y4 y5 y6=>?_⟩,lk,λj hj=>?_⟩
 .by_cases hj:i=j
  .subst hj;have hl:i<fr.length:=by have:=(List.getElem?_eq_some_iff.mp y1).1;simpa using this
   rw[Qs hl]at y1;rw[Qs (by rw[<-f.len];exact hl)]at y2;cases y1;cases y2;exact⟨d,rfl,q⟩
  .rw[gV hj]at y1 y2;exact f.sl j o p y1 y2
 .have hn:∀(j:Nat) o,(fr.set i (some (.val v)))[j]?=some o->g9 o=true->i≠j:=λj o w1 w2 w3=>by
   subst w3;have hl:i<fr.length:=by have:=(List.getElem?_eq_some_iff.mp w1).1;simpa using this
   rw[Qs hl]at w1;cases w1;cases w2
  have n1:=hn j o y1 y3;have n2:=hn k o' y2 y4;rw[gV n1]at y1 y5;rw[gV n2]at y2 y6;exact f.inj j k o o' m y1 y2 y3 y4 y5 y6
 .have:i≠j:=λz=>by subst z;rw[hk]at hj;cases hj
  rw[gV this]
theorem aU.dz:∀{is:List Nat}{vs:List V}{ds:List D}{fr af:Fr}{ai:Ev.Fr},aU M B h S fr ai->dz is vs fr=some af->aq h S vs ds->∃aZ,Ev.dz is ds ai=some aZ/\aU M B h S af aZ/\(∀j,locked af j=locked fr j)/\∀j,locked fr j=true->aZ[j]?=ai[j]?
 |[],[],ds,fr,af,ai,f,e,q=>by
  simp[Pv.dz]at e;simp only[aq]at q;subst e q;exact⟨ai,rfl,f,λ_=>rfl,λ_ _=>rfl⟩
 |[],_ :: _,_,_,_,_,_,e,_=>by simp[Pv.dz]at e
 |_ :: _,[],_,_,_,_,_,e,_=>by simp[Pv.dz]at e
 |i :: is,v :: vs,ds,fr,af,ai,f,e,q=>by
  simp only[Pv.dz,eU]at e;obtain⟨ak,e1,e2⟩:=e;simp only[aq]at q;obtain⟨d,es,rfl,q1,q2⟩:=q;obtain⟨f2,l2,r2⟩:=f.set e1 q1;obtain⟨aZ,a,f3,l3,r3⟩:=f2.dz e2 q2;exact⟨aZ,a,f3,λj=>(l3 j).trans (l2 j),λj hj=>(r3 j (by rw[l2 j];exact hj)).trans (r2 j hj)⟩
theorem aU.aY(f:aU M B h S fr ai){t:T}(e:aY t v fr=some af)(q:Rep h S v d):∃aZ,Ev.aY t d ai=some aZ/\aU M B h S af aZ/\(∀j,locked af j=locked fr j)/\∀j,locked fr j=true->aZ[j]?=ai[j]?:=by
 cases t with
 |one i=>exact⟨_,rfl,f.set e q⟩
 |many l=>
  cases v<;>simp only[Pv.aY,reduceCtorEq]at e
  simp only[Rep]at q;obtain⟨ds,rfl,q⟩:=q;exact f.dz e q
theorem aU.undef(f:aU M B h S fr ai){t:T}(e:undef t fr=true):Ev.undef t ai=true:=by
 unfold Pv.undef at e;unfold Ev.undef;rw[V1]at e ⊢;intro i hi;have:=e i hi;cases z:fr[i]? with
 |none=>
  have:ai[i]?=none:=by
   rw[W9]at z ⊢;rw[<-f.len];exact z
  rw[this];rfl
 |some o=>
  obtain⟨p,e1,q⟩:=f.get z;rw[z]at this;rcases o with _|s
  .simp only[kP]at q;subst q;rw[e1];rfl
  .simp at this
def yY{i:Nat}{o:Option Sl}(e:(j6 fr)[i]?=some o):∃o0,fr[i]?=some o0/\o=o0.map Sl.read:=by
 unfold j6 at e;rw[Vq]at e;cases z:fr[i]? with
 |none=>rw[z]at e;cases e
 |some o0=>rw[z]at e;cases e;exact⟨o0,rfl,rfl⟩
theorem aU.ro(f:aU M B h S fr ai):aU (λ_=>False) B h S (j6 fr) ai:=by
 refine⟨λm y=>⟨(f.wS m y).1,id,(f.wS m y).2.2⟩,λm y=>y.elim,f.wB,by simp[j6,f.len],λi o p y1 y2=>?_,λi j o o' m y1 y2 y3 y4 y5 y6=>?_⟩
 .obtain⟨o0,z,rfl⟩:=yY y1;have q:=f.sl i o0 p z y2;rcases o0 with _|s
  .exact q
  .cases s with
   |val v=>exact q
   |own l=>obtain⟨m,ds,a,b,c,d⟩:=q;exact⟨m,ds,a,id,c,d⟩
   |bor l=>obtain⟨m,ds,a,b,c,d⟩:=q;exact⟨m,ds,a,id,c,d⟩
   |ro l=>obtain⟨m,ds,a,b,c,d⟩:=q;exact⟨m,ds,a,id,c,d⟩
 .obtain⟨o0,z,rfl⟩:=yY y1;rcases o0 with _|s
  .cases y3
  .cases s<;>cases y3
theorem gZ:∀{ck:List (Nat×List D)},(∀q∈ck,aR h q.1=some q.2)->Ev.stays h ck=true
 |[],_=>rfl
 | (n,ds) :: r,q=>by
  simp only[Ev.stays,gQ];refine⟨?_,gZ λx hx=>q x (Vh _ hx)⟩;rw[q (n,ds) (Vv ..)];exact Ev.z9 _
def iS{n:Nat}{ds:List D}(q:aR h n=some ds)(k:h'[n]?=h[n]?):aR h' n=some ds:=by
 unfold aR at q ⊢;rw[k];exact q
def jW{n:Nat}{ds:List D}(q:aR h n=some ds):n<h.length:=by
 unfold aR at q;cases z:h[n]? with
 |none=>rw[z]at q;cases q
 |some o=>exact(List.getElem?_eq_some_iff.mp z).1
noncomputable def Ay(h:Hh)(S:Nat->Prop):Option V->Option D->Prop
 |none,o=>o=none
 |some v,o=>∃d,o=some d/\Rep h S v d
theorem yZ{f:V->Option (Option V)}{f':D->Hh->Ev.R (Option D)}{ck:List (Nat×List D)}{h0:Hh}{S0:Nat->Prop}(w0:∀m,S0 m->m<h0.length)(st:∀q∈ck,aR h0 q.1=some q.2)
  (turn:∀v o d h S,Al h0 S0 h S->f v=some o->Rep h S v d->∃o' h' S',f' d h=.ok o' h'/\Ay h' S' o o'/\Al h S h' S') :
  ∀{vs:List V} {ds:List D} {rs:List V} {h:Hh} {S:Nat->Prop},Al h0 S0 h S->bu f vs=some rs->aq h S vs ds->∃rs' h' S',Ev.bu f' ck ds h=.ok rs' h'/\aq h' S' rs rs'/\Al h S h' S'
 |[],ds,rs,h,S,a,e,q=>by
  simp[bu]at e;simp only[aq]at q;subst e q;refine⟨[],h,S,?_,.nil,.refl⟩;simp only[Ev.bu];rw[b8 (gZ λx hx=>iS (st x hx) (a.keep _ (jW (st x hx))))]
 |v :: vs,ds,rs,h,S,a,e,q=>by
  simp only[bu,eU]at e;obtain⟨o,e1,r,e2,e3⟩:=e;cases e3;simp only[aq]at q;obtain⟨d,es,rfl,q1,q2⟩:=q;have w:∀m,S m->m<h.length:=λm z=>by
   rcases a.new m z with z|z
   .exact eE (w0 m z) a.len
   .exact z.2
  obtain⟨o',h1,S1,t1,t2,t3⟩:=turn v o d h S a e1 q1;obtain⟨rs',h2,S2,u1,u2,u3⟩:=yZ w0 st turn (a.trans t3) e2 (q2.mono (λm z=>t3.keep m (w m z)) t3.sub);have w1:∀m,S1 m->m<h1.length:=λm z=>by
   rcases t3.new m z with z|z
   .exact eE (w m z) t3.len
   .exact z.2
  refine⟨o'.toList++rs',h2,S2,?_,?_,t3.trans u3⟩
  .simp only[Ev.bu];rw[b8 (gZ λx hx=>iS (st x hx) (a.keep _ (jW (st x hx)))),t1,Ev.aj,u1,Ev.aj]
  .cases o with
   |none=>simp only[Ay]at t2;subst t2;simpa using u2
   |some v'=>
    simp only[Ay]at t2;obtain⟨d',rfl,t2⟩:=t2;exact .cons (t2.mono (λm z=>u3.keep m (w1 m z)) u3.sub) u2
end
noncomputable def jx(k:Bool)(h:Hh)(S:Nat->Prop)(v:List V)(d:List D):Prop:=if k=true then fS h S v d else aq h S v d
inductive Me(P':Ev.aB)(e:E)(k:Bool)(v:V)(M B:Nat->Prop)(h:Hh)(S:Nat->Prop)(fr:Fr)(ai:Ev.Fr)(af:Fr):Prop
 |mk (d:D) (h':Hh) (S':Nat->Prop) (c0:Ev.ev P' e ai h=.ok d h') (c1:fW k h' S' v d) (c2:Out M B (bh e) h S fr ai h' S' af):Me P' e k v M B h S fr ai af
inductive Mf(P':Ev.aB)(e:E)(b:Bool)(M B:Nat->Prop)(h:Hh)(S:Nat->Prop)(fr:Fr)(ai:Ev.Fr)(af:Fr):Prop
 |mk (h':Hh) (S':Nat->Prop) (c0:Ev.aG P' e ai h=.ok b h') (c1:Out M B (bh e) h S fr ai h' S' af):Mf P' e b M B h S fr ai af
inductive Mg(P':Ev.aB)(e:Es)(k:Bool)(v:List V)(M B:Nat->Prop)(h:Hh)(S:Nat->Prop)(fr:Fr)(ai:Ev.Fr)(af:Fr):Prop
 |mk (d:List D) (h':Hh) (S':Nat->Prop) (c0:Ev.bJ P' e ai h=.ok d h') (c1:jx k h' S' v d) (c2:Out M B (eF e) h S fr ai h' S' af):Mg P' e k v M B h S fr ai af
inductive Mh(P':Ev.aB)(e:Es)(v:List (Nat ⊕ V))(M B:Nat->Prop)(h:Hh)(S:Nat->Prop)(fr:Fr)(ai:Ev.Fr)(af:Fr):Prop
 |mk (d:List D) (h':Hh) (S':Nat->Prop) (c0:Ev.bJ P' e ai h=.ok d h') (c1:uo h' S' ai v d) (c2:Out M B (eF e) h S fr ai h' S' af):Mh P' e v M B h S fr ai af
inductive Mi(P':Ev.aB)(e:Eo)(v:Option Int)(M B:Nat->Prop)(h:Hh)(S:Nat->Prop)(fr:Fr)(ai:Ev.Fr)(af:Fr):Prop
 |mk (h':Hh) (S':Nat->Prop) (c0:Ev.fN P' e ai h=.ok v h') (c1:Out M B (kD e) h S fr ai h' S' af):Mi P' e v M B h S fr ai af
inductive Mj(P':Ev.aB)(e:Eo)(v:Bool)(M B:Nat->Prop)(h:Hh)(S:Nat->Prop)(fr:Fr)(ai:Ev.Fr)(af:Fr):Prop
 |mk (h':Hh) (S':Nat->Prop) (c0:Ev.fO P' e ai h=.ok v h') (c1:Out M B (kD e) h S fr ai h' S' af):Mj P' e v M B h S fr ai af
inductive Mk(P':Ev.aB)(e:It)(k:Bool)(v:List V)(M B:Nat->Prop)(h:Hh)(S:Nat->Prop)(fr:Fr)(ai:Ev.Fr)(af:Fr):Prop
 |mk (s:Ev.Src) (h':Hh) (S':Nat->Prop) (c0:Ev.bQ P' e ai h=.ok s h') (c1:aq h' S' v s.1) (c2:∀q∈s.2,aR h' q.1=some q.2/\(k=false->¬ M q.1)) (c3:Out M B (Ef e) h S fr ai h' S' af):Mk P' e k v M B h S fr ai af
section
variable(P:aB)(P':Ev.aB)
noncomputable def aX(e:E):Prop:=∀{k:Bool} {fr:Fr} {v:V} {af:Fr} {M B:Nat->Prop} {h:Hh} {S:Nat->Prop} {ai:Ev.Fr},ev P k e fr=.ok v af->aU M B h S fr ai->Me P' e k v M B h S fr ai af
noncomputable def gI(e:E):Prop:=∀{fr:Fr} {b:Bool} {af:Fr} {M B:Nat->Prop} {h:Hh} {S:Nat->Prop} {ai:Ev.Fr},aG P e fr=.ok b af->aU M B h S fr ai->Mf P' e b M B h S fr ai af
noncomputable def jy(e:Es):Prop:=∀{k:Bool} {fr:Fr} {v:List V} {af:Fr} {M B:Nat->Prop} {h:Hh} {S:Nat->Prop} {ai:Ev.Fr},bJ P k e fr=.ok v af->aU M B h S fr ai->Mg P' e k v M B h S fr ai af
noncomputable def qO(e:Es):Prop:=∀{fr:Fr} {v:List (Nat ⊕ V)} {af:Fr} {M B:Nat->Prop} {h:Hh} {S:Nat->Prop} {ai:Ev.Fr},dS P e fr=.ok v af->aU M B h S fr ai->Mh P' e v M B h S fr ai af
noncomputable def qP(e:Eo):Prop:=∀{fr:Fr} {v:Option Int} {af:Fr} {M B:Nat->Prop} {h:Hh} {S:Nat->Prop} {ai:Ev.Fr},fN P e fr=.ok v af->aU M B h S fr ai->Mi P' e v M B h S fr ai af
noncomputable def uK(e:Eo):Prop:=∀{fr:Fr} {v:Bool} {af:Fr} {M B:Nat->Prop} {h:Hh} {S:Nat->Prop} {ai:Ev.Fr},fO P e fr=.ok v af->aU M B h S fr ai->Mj P' e v M B h S fr ai af
noncomputable def j7(e:It):Prop:=∀{k:Bool} {fr:Fr} {v:List V} {af:Fr} {M B:Nat->Prop} {h:Hh} {S:Nat->Prop} {ai:Ev.Fr},bQ P k e fr=.ok v af->aU M B h S fr ai->Mk P' e k v M B h S fr ai af
end
section
variable{P:aB}{P':Ev.aB}{a b e tt:E}{es:Es}{lo hi:Eo}{it:It}
def Ml{d:D}:aX P P' (.c d):=λz f=>by
 simp only[ev]at z;replace z:=aC z;obtain⟨z,y0⟩:=z;subst y0;exact⟨d,_,_,by simp only[Ev.ev],.of (nE z),.refl f⟩
def Mm{i:Nat}:aX P P' (.v i):=λz f=>by
 simp only[ev]at z;replace z:=aC z;obtain⟨z,y0⟩:=z;subst y0;obtain⟨d,e1,q⟩:=IT z f;exact⟨d,_,_,by simp only[Ev.ev,e1,Ev.cB],q,.refl f⟩
def jx.n{h:Hh}{S:Nat->Prop}{v:List V}{d:List D}(q:jx false h S v d):aq h S v d:=by simpa[jx]using q
theorem aq.tl{h:Hh}{S:Nat->Prop}:∀{v:List V}{d:List D},aq h S v d->fS h S v d
 |[],_,q=>q
 |_ :: _,_,⟨d,es,a,b,q⟩=>⟨d,es,a,b.top,q.tl⟩
def jx.t{k:Bool}{h:Hh}{S:Nat->Prop}{v:List V}{d:List D}(q:jx k h S v d):fS h S v d:=by
 unfold jx at q;split at q
 .exact q
 .exact q.tl
def Cn(is:jy P P' es):aX P P' (.tup es):=λz f=>by
 simp only[ev]at z;obtain⟨ds,ak,z1,z2⟩:=ah z;replace z2:=aC z2;obtain⟨z2,y0⟩:=z2;subst y0;obtain⟨ds',h',S',e1,q,o⟩:=is z1 f;unfold g8 at z2;split at z2
 .rename_i hk;cases z2;refine⟨.tup ds',h',S',?_,.of ⟨ds',rfl,q.n⟩,o⟩;simp only[Ev.ev,e1,Ev.aj];rw[b8 (by rw[<-q.n.length];exact hk)]
 .cases z2
def Co(is:jy P P' es):aX P P' (.lst es):=λz f=>by
 simp only[ev]at z;obtain⟨ds,ak,z1,z2⟩:=ah z;replace z2:=aC z2;obtain⟨z2,y0⟩:=z2;subst y0;obtain⟨ds',h',S',e1,q,o⟩:=is z1 f;obtain⟨r,h2,S2,a1,a2,a3⟩:=jV o.f.w z2 q.n;exact⟨r,h2,S2,by simp only[Ev.ev,e1,Ev.aj,a1],.of a2,o.al a3⟩
def oU{a:E}{ai:Ev.Fr}{h h1:Hh}{d:D}(e:Ev.ev P' a ai h=.ok d h1):∀i,a=.v i->ai[i]?.join=some d:=λi hi=>by
 subst hi;simp only[Ev.ev]at e;exact(Ev.aC e).1
def two(ia:aX P P' a)(ib:aX P P' b){α:Type}{X:V->V->Fr->R α}{u:α}{fr bE:Fr}{M B:Nat->Prop}{h:Hh}{S:Nat->Prop}{ai:Ev.Fr}
  (z:((ev P (kf a (bh b)) a fr).bind λx af=>(ev P true b af).bind λy ak=>X x y ak)=.ok u bE) (f:aU M B h S fr ai) :
  ∃x y d e h2 S2 ak,(∀{β:Type} (g:D->D->Hh->Ev.R β),((Ev.ev P' a ai h).bind λx h1=>(Ev.ev P' b ai h1).bind λy h2=>g x y h2)=g d e h2)/\X x y ak=.ok u bE/\aS h2 S2 x d/\aS h2 S2 y e/\Out M B (bh a++bh b) h S fr ai h2 S2 ak:=by
 replace z:=ah z;obtain⟨x,af,z1,z⟩:=z;replace z:=ah z;obtain⟨y,ak,z2,z⟩:=z;obtain⟨d,h1,S1,e1,q1,o1⟩:=ia z1 f;obtain⟨e,h2,S2,e2,q2,o2⟩:=ib z2 o1.f;exact⟨x,y,d,e,h2,S2,ak,λg=>by rw[e1,Ev.aj,e2,Ev.aj],z,(q1.tr o1.f o2.tr id (oU e1)).t,q2.t,o1.trans o2⟩
def Cp{o:aQ}(ia:aX P P' a)(ib:aX P P' b):aX P P' (.bin o a b):=λz f=>by
 simp only[ev]at z;replace z:=two ia ib z f;obtain⟨x,y,d,e,h2,S2,ak,k,z,q1,q2,ou⟩:=z;replace z:=aC z;obtain⟨z,y0⟩:=z;subst y0;obtain⟨r,h3,S3,a1,a2,a3⟩:=L4 ou.f.w z q1 q2;exact⟨r,h3,S3,by simp only[Ev.ev];rw[k];exact a1,.of a2,ou.al a3⟩
def Cq{o:aK}(ia:aX P P' a)(ib:aX P P' b):aX P P' (.cmp o a b):=λz f=>by
 simp only[ev]at z;replace z:=two ia ib z f;obtain⟨x,y,d,e,h2,S2,ak,k,z,q1,q2,ou⟩:=z;replace z:=aC z;obtain⟨z,y0⟩:=z;subst y0;simp only[cz]at z;obtain⟨b,z,rfl⟩:=z;exact⟨.bl b,h2,S2,by simp only[Ev.ev];rw[k,wk z q1.u q2.u];rfl,.of rfl,ou⟩
def Gw(ia:aX P P' a)(ib:aX P P' b):aX P P' (.ix a b):=λz f=>by
 simp only[ev]at z;replace z:=two ia ib z f;obtain⟨x,y,d,e,h2,S2,ak,k,z,q1,q2,ou⟩:=z;replace z:=aC z;obtain⟨z,y0⟩:=z;subst y0;obtain⟨r,a1,a2⟩:=L5 z q1 q2;exact⟨r,h2,S2,by simp only[Ev.ev];rw[k,a1];rfl,.of a2,ou⟩
def IU{x y v:V}{d e:D}{h:Hh}{S:Nat->Prop}(z:As x y=some v)(p:aS h S x d)(q:aS h S y e):∃r,Ev.vf d e h=some r/\Rep h S v r:=by
 unfold As at z;split at z
 .simp only[aS,Rep]at p q;obtain⟨n,rfl,_,p⟩:=p;subst q;obtain⟨s,e1,rfl⟩:=Option.map_eq_some_iff.mp z;exact⟨.str s,by simp[Ev.vf,p,e1],rfl⟩
 .cases z
def Cr(ia:aX P P' a)(ib:aX P P' b):aX P P' (.jK a b):=λz f=>by
 simp only[ev]at z;replace z:=two ia ib z f;obtain⟨x,y,d,e,h2,S2,ak,k,z,q1,q2,ou⟩:=z;replace z:=aC z;obtain⟨z,y0⟩:=z;subst y0;obtain⟨r,a1,a2⟩:=IU z q1 q2;exact⟨r,h2,S2,by simp only[Ev.ev];rw[k,a1];rfl,.of a2,ou⟩
def Cs{kvs:List (List Nat×List Nat)}:aX P P' (.jt kvs):=λ{k fr v af M B h S ai} z f=>by
 simp only[ev]at z;split at z
 .cases z
 .rename_i hk;cases z;exact⟨.ref h.length,h++[.dm kvs],λm=>S m\/m=h.length,by simp only[Ev.ev];rw[SA hk],.of ⟨h.length,rfl,.inr rfl,by simp⟩,(Out.refl f).al (Al.snoc _)⟩
def Gx{o p:aK}{c:E}(ia:aX P P' a)(ib:aX P P' b)(ic:aX P P' c):aX P P' (.ch o p a b c):=λz f=>by
 simp only[ev]at z;replace z:=ah z;obtain⟨x,af,z1,z⟩:=z;replace z:=ah z;obtain⟨y,ak,z2,z⟩:=z;replace z:=ah z;obtain⟨k,bw,z3,z⟩:=z;replace z3:=aC z3;obtain⟨z3,y0⟩:=z3;subst y0;obtain⟨d,h1,S1,e1,q1,o1⟩:=ia z1 f;obtain⟨e,h2,S2,e2,q2,o2⟩:=ib z2 o1.f;have y9:=(q1.tr o1.f o2.tr id (oU e1)).t;have c1:=wk z3 y9.u q2.t.u;cases k with
 |false=>
  simp only[Vi,VG]at z;cases z;refine⟨.bl false,h2,S2,by simp only[Ev.ev,e1,Ev.aj,e2,c1,Ev.cB];rfl,.of rfl,?_⟩;exact(o1.trans o2).weak (by simp only[bh];intro i hi;simp at hi ⊢;rcases hi with hi|hi<;>simp[hi])
 |true=>
  simp only[Vj]at z;replace z:=ah z;obtain⟨y2,fV,z4,z⟩:=z;replace z:=aC z;obtain⟨z,y0⟩:=z;subst y0;obtain⟨g,h3,S3,e3,q3,o3⟩:=ic z4 o2.f;simp only[cz]at z;obtain⟨b',z,rfl⟩:=z;have c2:=wk z (q2.tr o2.f o3.tr id (oU e2)).t.u q3.t.u;exact⟨.bl b',h3,S3,by simp only[Ev.ev,e1,Ev.aj,e2,c1,Ev.cB,Vj,e3,c2];rfl,.of rfl,o1.trans (o2.trans o3)⟩
def OH(ia:aX P P' a):aX P P' (.nt a):=λz f=>by
 simp only[ev]at z;replace z:=ah z;obtain⟨x,af,z1,z⟩:=z;obtain⟨d,h1,S1,e1,q1,o1⟩:=ia z1 f;cases x<;>simp only[reduceCtorEq]at z
 cases z;have q:=q1.t;simp only[aS,Rep]at q;subst q;exact⟨_,h1,S1,by simp only[Ev.ev,e1,Ev.aj],.of rfl,o1⟩
def Ct(ia:aX P P' a):aX P P' (.neg a):=λz f=>by
 simp only[ev]at z;replace z:=ah z;obtain⟨x,af,z1,z⟩:=z;obtain⟨d,h1,S1,e1,q1,o1⟩:=ia z1 f;cases x<;>simp only[reduceCtorEq]at z
 cases z;have q:=q1.t;simp only[aS,Rep]at q;subst q;exact⟨_,h1,S1,by simp only[Ev.ev,e1,Ev.aj],.of rfl,o1⟩
def OI(ia:aX P P' a)(ib:aX P P' b):aX P P' (.an a b):=λz f=>by
 simp only[ev]at z;replace z:=ah z;obtain⟨x,af,z1,z⟩:=z;obtain⟨d,h1,S1,e1,q1,o1⟩:=ia z1 f;cases x<;>try (cases z;done)
 rename_i k;have q:=q1.t;simp only[aS,Rep]at q;subst q;cases k with
 |true=>
  try simp only at z
  obtain⟨d,h2,S2,e2,q2,o2⟩:=ib z o1.f;exact⟨d,h2,S2,by simp only[Ev.ev,e1,Ev.aj,e2],q2,o1.trans o2⟩
 |false=>
  try simp only at z
  cases z;exact⟨_,h1,S1,by simp only[Ev.ev,e1,Ev.aj],.of rfl,o1.weak (by simp only[bh];intro i hi;simp[hi])⟩
def Mn(ia:aX P P' a)(ib:aX P P' b):aX P P' (.orr a b):=λz f=>by
 simp only[ev]at z;replace z:=ah z;obtain⟨x,af,z1,z⟩:=z;obtain⟨d,h1,S1,e1,q1,o1⟩:=ia z1 f;cases x<;>try (cases z;done)
 rename_i k;have q:=q1.t;simp only[aS,Rep]at q;subst q;cases k with
 |false=>
  try simp only at z
  obtain⟨d,h2,S2,e2,q2,o2⟩:=ib z o1.f;exact⟨d,h2,S2,by simp only[Ev.ev,e1,Ev.aj,e2],q2,o1.trans o2⟩
 |true=>
  try simp only at z
  cases z;exact⟨_,h1,S1,by simp only[Ev.ev,e1,Ev.aj],.of rfl,o1.weak (by simp only[bh];intro i hi;simp[hi])⟩
def Cu(it:gI P P' tt)(ia:aX P P' a)(ib:aX P P' b):aX P P' (.o8 tt a b):=λz f=>by
 simp only[ev]at z;replace z:=ah z;obtain⟨k,af,z1,z⟩:=z;obtain⟨h1,S1,e1,o1⟩:=it z1 f;cases k with
 |true=>
  simp only[Vj]at z;obtain⟨d,h2,S2,e2,q2,o2⟩:=ia z o1.f;exact⟨d,h2,S2,by simp only[Ev.ev,e1,Ev.aj,Vj,e2],q2,(o1.trans o2).weak (by simp only[bh];intro i hi;simp at hi ⊢;rcases hi with hi|hi<;>simp[hi])⟩
 |false=>
  simp only[Vi,VG]at z;obtain⟨d,h2,S2,e2,q2,o2⟩:=ib z o1.f;exact⟨d,h2,S2,by simp only[Ev.ev,e1,Ev.aj];rw[SA (by decide)];exact e2,q2,(o1.trans o2).weak (by simp only[bh];intro i hi;simp at hi ⊢;rcases hi with hi|hi<;>simp[hi])⟩
def Gy(ia:aX P P' a)(il:qP P P' lo)(ih:qP P P' hi):aX P P' (.sl a lo hi):=λz f=>by
 simp only[ev]at z;replace z:=ah z;obtain⟨x,af,z1,z⟩:=z;replace z:=ah z;obtain⟨l,ak,z2,z⟩:=z;replace z:=ah z;obtain⟨u,bw,z3,z⟩:=z;replace z:=aC z;obtain⟨z,y0⟩:=z;subst y0;obtain⟨d,h1,S1,e1,q1,o1⟩:=ia z1 f;obtain⟨h2,S2,e2,o2⟩:=il z2 o1.f;obtain⟨h3,S3,e3,o3⟩:=ih z3 o2.f;have q:=(q1.tr o1.f (o2.trans o3).tr id (oU e1)).t;obtain⟨r,h4,S4,a1,a2,a3⟩:=L6 o3.f.w z q;exact⟨r,h4,S4,by simp only[Ev.ev,e1,Ev.aj,e2,e3,a1],.of a2,(o1.trans (o2.trans o3)).al a3⟩
theorem nH:∀{es:Es}{fr af:Fr}{as:List (Nat ⊕ V)},dS P es fr=.ok as af->∀i∈bB as,i∈jI es
 |.nil,_,_,_,z=>by simp only[dS]at z;cases z;simp[bB]
 |.cons e es,fr,af,as,z=>by
  simp only[dS]at z;cases y:fG fr e with
  |some i=>
   rw[y]at z;simp only at z;replace z:=ah z;obtain⟨xs,bw,z2,z⟩:=z;cases z;have hy:e=.v i:=by
    cases e<;>simp only[fG,reduceCtorEq]at y
    split at y
    .cases y;rfl
    .cases y
   subst hy;intro j hj;simp only[bB,VW]at hj;simp only[jI,VW];exact hj.imp id λhj=>nH z2 j hj
  |none=>
   rw[y]at z;simp only at z;replace z:=ah z;obtain⟨x,ak,z1,z⟩:=z;replace z:=ah z;obtain⟨xs,bw,z2,z⟩:=z;cases z;intro j hj;simp only[bB]at hj;have:=nH z2 j hj;cases e<;>simp only[jI]<;>first|exact this|exact Vh _ this
def Gz(HP:oS P P'){g:Nat}(is:qO P P' es):aX P P' (.cl g es):=λz f=>by
 simp only[ev]at z;replace z:=ah z;obtain⟨as,af,z1,z⟩:=z;obtain⟨ds,h1,S1,e1,q1,o1⟩:=is z1 f;obtain⟨d,h2,S2,e2,q2,o2⟩:=qd HP z o1.f q1;exact⟨d,h2,S2,by simp only[Ev.ev,e1,Ev.aj,e2],.of q2,(o1.trans o2).weak (by
  simp only[bh];intro i hi;rcases List.mem_append.mp hi with hi|hi
  .exact List.mem_append.mpr (.inl hi)
  .exact List.mem_append.mpr (.inr (nH z1 i hi)))⟩
def GA{g:BI}(is:jy P P' es):aX P P' (.bi g es):=λz f=>by
 simp only[ev]at z;replace z:=ah z;obtain⟨as,af,z1,z⟩:=z;replace z:=aC z;obtain⟨z,y0⟩:=z;subst y0;obtain⟨ds,h1,S1,e1,q1,o1⟩:=is z1 f;obtain⟨r,h4,S4,a1,a2,a3⟩:=L8 o1.f.w z q1.t;exact⟨r,h4,S4,by simp only[Ev.ev,e1,Ev.aj,a1],.of a2,o1.al a3⟩
def Cv{ts:List TY}(ia:aX P P' a):aX P P' (.dY a ts):=λz f=>by
 simp only[ev]at z;replace z:=ah z;obtain⟨x,af,z1,z⟩:=z;cases z;obtain⟨d,h1,S1,e1,q1,o1⟩:=ia z1 f;have:Ev.cF h1 d=cF x:=funext λt=>IQ q1.t t;refine⟨.bl (ts.any (Ev.cF h1 d)),h1,S1,by simp only[Ev.ev,e1,Ev.aj],.of ?_,o1⟩;rw[this];rfl
def za{kvs:List (D×D)}(ia:aX P P' a):aX P P' (.eS kvs a):=λz f=>by
 simp only[ev]at z;replace z:=ah z;obtain⟨x,af,z1,z⟩:=z;replace z:=aC z;obtain⟨z,y0⟩:=z;subst y0;obtain⟨d,h1,S1,e1,q1,o1⟩:=ia z1 f;obtain⟨r,a1,a2⟩:=Eg (S:=S1) q1.t.u z;exact⟨r,h1,S1,by simp only[Ev.ev,e1,Ev.aj,a1,Ev.cB],.of a2,o1⟩
def Cw(ia:aX P P' a):aX P P' (.fc a):=λz f=>by
 simp only[ev]at z;replace z:=ah z;obtain⟨x,af,z1,z⟩:=z;replace z:=aC z;obtain⟨z,y0⟩:=z;subst y0;obtain⟨d,h1,S1,e1,q1,o1⟩:=ia z1 f;obtain⟨r,a1,a2⟩:=L7 z q1.t;exact⟨r,h1,S1,by simp only[Ev.ev,e1,Ev.aj,a1],.of a2,o1⟩
def GB{m:ME}{o:E}(io:aX P P' o)(is:jy P P' es):aX P P' (.me m o es):=λ{k fr v af M B h S ai} z f=>by
 simp only[ev]at z;by_cases hm:iB m=true
 .rw[b8 hm]at z;cases y:fG fr o with
  |none=>rw[y]at z;cases z
  |some i=>
  rw[y]at z;try simp only at z
  replace z:=ah z;obtain⟨as,ak,z1,z⟩:=z;have hy:o=.v i/\∃s,lent fr i=some s:=by
   cases o<;>simp only[fG,reduceCtorEq]at y
   rename_i j;split at y
   .rename_i hs;cases y;exact⟨rfl,Option.isSome_iff_exists.mp hs⟩
   .cases y
  obtain⟨rfl,s,hs⟩:=hy;obtain⟨n,cs,_,_,_,w2,w3,_,_⟩:=ig hs f;obtain⟨ds,h1,S1,e1,q1,o1⟩:=is z1 f;have hr:Ev.qz m (.ref n) h=true:=by cases m<;>simp[iB]at hm<;>simp[Ev.qz,gW w3]
  have hap:yP m=false->aq h1 S1 as ds:=λhh=>by rw[hh]at q1;exact q1.n
  have fin:∀s l l',ak[i]?=some (some s)->g9 (some s)=true->(∃m' cs',ai[i]?=some (some (.ref m'))/\h1[m']?=some (.lst cs')/\aq h1 S1 l cs')->nB m l as=some (v,l')->af=ak.set i (some (s.with l'))->
    Me P' (.me m (.v i) es) k v M B h S fr ai af:=by
   intro s l l' k1 k2 ⟨m',cs',k3,k4,k5⟩ k6 k7;rw[w2]at k3;cases k3;have mn:=o1.f.mM k1 k2 w2;obtain⟨r,ds',a1,a2,a3⟩:=Mc k6 k4 k5 q1.t hap λk z y=>(o1.f.wS k z).2.1 (y▸mn);have fw:=o1.f.write (l':=l') k1 k2 w2 a3;subst k7;refine⟨r,_,S1,?_,.of (a2.mono (λm z=>kY λy=>(o1.f.wS m z).2.1 (y▸mn)) λ_ z=>z),fw,?_,λj=>?_⟩
   .simp only[Ev.ev,w2,Option.join,Ev.cB,Ev.aj,hr,Vj,e1];simp only[Option.bind,id,Ev.cB,Ev.aj,hr,Vj,e1];exact a1
   .refine⟨by simpa using o1.tr.len,λm y1 y2=>?_,o1.tr.sub,λm y=>by simpa using o1.tr.new m y⟩;have y3:¬ Xs M ai (eF es) m:=λz=>y2 (Xs.mono (by simp only[bh];intro i hi;simp[hi]) z);have y4:m≠n:=λz=>y2 ⟨z▸mn,i,by simp[bh,Ql,hm],by rw[z];exact w2⟩;rw[kY (λ(z:n=m)=>y4 z.symm)];exact o1.tr.keep m y1 y3
   .rw[<-o1.lk j];unfold locked;by_cases hj:i=j
    .subst hj;rw[Qs (List.getElem?_eq_some_iff.mp k1).1,k1];exact yW
    .rw[gV hj]
  split at z
  .rename_i l k1;have old:=o1.f.get k1;obtain⟨p,k2,m',cs',rfl,_,k4,k5⟩:=old;split at z
   .rename_i v' l' k6;cases z;exact fin _ l l' k1 rfl ⟨m',cs',k2,k4,k5⟩ k6 rfl
   .cases z
  .rename_i l k1;have old:=o1.f.get k1;obtain⟨p,k2,m',cs',rfl,_,k4,k5⟩:=old;split at z
   .rename_i v' l' k6;cases z;exact fin _ l l' k1 rfl ⟨m',cs',k2,k4,k5⟩ k6 rfl
   .cases z
  .cases z
 .rw[SA hm]at z;replace z:=ah z;obtain⟨x,ak,z1,z⟩:=z;replace z:=ah z;obtain⟨as,bw,z2,z⟩:=z;replace z:=aC z;obtain⟨z,y0⟩:=z;subst y0;obtain⟨d,h1,S1,e1,q1,o1⟩:=io z1 f;obtain⟨ds,h2,S2,e2,q2,o2⟩:=is z2 o1.f;have hm':iB m=false:=by simpa using hm
  have y9:=(q1.tr o1.f o2.tr id (oU e1)).t;obtain⟨a1,r,a2,a3⟩:=Ma z hm' y9 q2.t;have hr:Ev.qz m d h1=true:=by
   unfold cI at z;split at z
   .have:=q1.t;simp only[aS,Rep]at this;subst this;rfl
   .have:=q1.t;simp only[aS,Rep]at this;subst this;rfl
   .have:=q1.t;simp only[aS,Rep]at this;subst this;rfl
   .cases z
  exact⟨r,h2,S2,by simp only[Ev.ev,e1,Ev.aj,hr,Vj,e2,a2],.of a3,(o1.trans o2).weak (by simp only[bh];intro i hi;simp at hi ⊢;rcases hi with hi|hi<;>simp[hi])⟩
def wz{elt:E}{t:T}{cond:Eo}(ii:j7 P P' it)(ic:uK P P' cond)(ie:aX P P' elt):aX P P' (.comp elt t it cond):=λz f=>by
 simp only[ev]at z;replace z:=ah z;obtain⟨vs,ak,z1,z⟩:=z;split at z
 case isFalse=>cases z
 rename_i hu;replace z:=aC z;obtain⟨z,y0⟩:=z;subst y0;simp only[eU]at z;obtain⟨rs,z2,z3⟩:=z;obtain⟨s,h1,S1,e1,q1,q2,o1⟩:=ii z1 f;have GC:=o1.f.ro;obtain⟨rs',h2,S2,c1,c2,c3⟩:=yZ (f':=λd h2=>match Ev.aY t d _ with
    |none=>.bad
    |some ak=>(Ev.fO P' cond ak h2).bind λk h3=>if k then (Ev.ev P' elt ak h3).bind λx h4=>.ok (some x) h4 else .ok none h3) (ck:=s.2) o1.f.w (λq hq=>(q2 q hq).1) (λv o d h S al y q=>by
  split at y
  .cases y
  .rename_i bw y1;obtain⟨fX,b1,b2,_,_⟩:=(GC.al al).aY y1 q;rw[b1];split at y
   .rename_i c fV y2;obtain⟨h3,S3,c1,oc⟩:=ic y2 b2;have mE:Al h S h3 S3:=oc.tr.al λm z=>z.1;split at y
    .rename_i hc;subst hc;split at y
     .rename_i x mS y3;cases y;obtain⟨d',h4,S4,d1,d2,od⟩:=ie y3 (b2.al mE);refine⟨some d',h4,S4,?_,⟨d',rfl,d2.n⟩,mE.trans (od.tr.al λm z=>z.1)⟩;simp only[c1,Ev.aj,Vj,d1]
     .cases y
    .rename_i hc;cases y;refine⟨none,h3,S3,?_,rfl,mE⟩;simp only[c1,Ev.aj];rw[SA hc]
   .cases y) Al.refl z2 q1
 obtain⟨r,h4,S4,a1,a2,a3⟩:=jV (o1.f.al c3).w z3 c2;refine⟨r,h4,S4,?_,.of a2,(o1.al c3).al a3⟩;simp only[Ev.ev,e1,Ev.aj];rw[b8 (o1.f.undef hu)];refine Wi (Vd (λq:Ev.R (List D)=>q.bind λds h2=>Ev.alloc ds h2) c1) ?_;simp only[Ev.aj,a1]
def Cy(ii:j7 P P' it):aX P P' (.gq it):=λz f=>by
 simp only[ev]at z;replace z:=ah z;obtain⟨vs,ak,z1,z⟩:=z;replace z:=aC z;obtain⟨z,y0⟩:=z;subst y0;obtain⟨s,h1,S1,e1,q1,q2,o1⟩:=ii z1 f;obtain⟨r,h4,S4,a1,a2,a3⟩:=jV o1.f.w z q1;exact⟨r,h4,S4,by simp only[Ev.ev,e1,Ev.aj,a1],.of a2,o1.al a3⟩
def Mp:jy P P' .nil:=λ{k fr v af M B h S ai} z f=>by
 simp only[bJ]at z;cases z;refine⟨[],_,_,by simp only[Ev.bJ],?_,.refl f⟩;unfold jx;split<;>rfl
def IV(ie:aX P P' e)(is:jy P P' es):jy P P' (.cons e es):=λ{k fr v af M B h S ai} z f=>by
 simp only[bJ]at z;replace z:=ah z;obtain⟨x,ak,z1,z⟩:=z;replace z:=ah z;obtain⟨xs,bw,z2,z⟩:=z;cases z;obtain⟨d,h1,S1,e1,q1,o1⟩:=ie z1 f;obtain⟨ds,h2,S2,e2,q2,o2⟩:=is z2 o1.f;have y9:=q1.tr (a:=e) o1.f o2.tr (by intro z;simp at z;exact z.2) (oU e1);refine⟨d :: ds,h2,S2,by simp only[Ev.bJ,e1,Ev.aj,e2],?_,o1.trans o2⟩;unfold jx at q2 ⊢;cases k with
 |true=>simp only[Vj]at q2 ⊢;exact⟨d,ds,rfl,y9.t,q2⟩
 |false=>
  simp only[Vi,VG]at q2 ⊢;exact .cons (by simpa[fW]using y9) q2
def IW:qO P P' .nil:=λz f=>by
 simp only[dS]at z;cases z;exact⟨[],_,_,by simp only[Ev.bJ],rfl,.refl f⟩
def Ej(ie:aX P P' e)(is:qO P P' es):qO P P' (.cons e es):=λ{fr v af M B h S ai} z f=>by
 simp only[dS]at z;cases y:fG fr e with
 |some i=>
  rw[y]at z;try simp only at z
  replace z:=ah z;obtain⟨xs,bw,z2,z⟩:=z;cases z;have hy:e=.v i/\∃s,lent fr i=some s:=by
   cases e<;>simp only[fG,reduceCtorEq]at y
   rename_i j;split at y
   .rename_i hs;cases y;exact⟨rfl,Option.isSome_iff_exists.mp hs⟩
   .cases y
  obtain⟨rfl,s,hs⟩:=hy;obtain⟨n,cs,_,_,_,w2,w3,_,_⟩:=ig hs f;obtain⟨ds,h2,S2,e2,q2,o2⟩:=is z2 f;refine⟨.ref n :: ds,h2,S2,?_,⟨_,_,rfl,w2,q2⟩,o2.weak (by simp only[eF,bh];intro i hi;simpa using hi)⟩;simp only[Ev.bJ,Ev.ev,w2,Option.join,Option.bind,id,Ev.cB,Ev.aj,e2]
 |none=>
  rw[y]at z;try simp only at z
  replace z:=ah z;obtain⟨x,ak,z1,z⟩:=z;replace z:=ah z;obtain⟨xs,bw,z2,z⟩:=z;cases z;obtain⟨d,h1,S1,e1,q1,o1⟩:=ie z1 f;obtain⟨ds,h2,S2,e2,q2,o2⟩:=is z2 o1.f;exact⟨d :: ds,h2,S2,by simp only[Ev.bJ,e1,Ev.aj,e2],⟨_,_,rfl,q1.n.tr o1.f o2.tr,q2⟩,o1.trans o2⟩
def OJ:qP P P' .no:=λz f=>by
 simp only[fN]at z;cases z;exact⟨_,_,by simp only[Ev.fN],.refl f⟩
def Mq(ie:aX P P' e):qP P P' (.yes e):=λz f=>by
 simp only[fN]at z;replace z:=ah z;obtain⟨x,ak,z1,z⟩:=z;replace z:=aC z;obtain⟨z,y0⟩:=z;subst y0;obtain⟨d,h1,S1,e1,q1,o1⟩:=ie z1 f;cases x<;>simp[intOf]at z
 subst z;have q:=q1.t;simp only[aS,Rep]at q;subst q;exact⟨h1,S1,by simp only[Ev.fN,e1,Ev.aj];rfl,o1⟩
def Mr:uK P P' .no:=λz f=>by
 simp only[fO]at z;cases z;exact⟨_,_,by simp only[Ev.fO],.refl f⟩
def IY(ie:gI P P' e):uK P P' (.yes e):=λz f=>by
 simp only[fO]at z;obtain⟨h1,S1,e1,o1⟩:=ie z f;exact⟨h1,S1,by simp only[Ev.fO,e1],o1⟩
def RE(ia:gI P P' a)(ib:gI P P' b):gI P P' (.an a b):=λz f=>by
 simp only[aG]at z;replace z:=ah z;obtain⟨k,af,z1,z⟩:=z;obtain⟨h1,S1,e1,o1⟩:=ia z1 f;cases k with
 |true=>
  simp only[Vj]at z;obtain⟨h2,S2,e2,o2⟩:=ib z o1.f;exact⟨h2,S2,by simp only[Ev.aG,e1,Ev.aj,Vj,e2],o1.trans o2⟩
 |false=>
  simp only[Vi,VG]at z;cases z;exact⟨h1,S1,by simp only[Ev.aG,e1,Ev.aj];rfl,o1.weak (by simp only[bh];intro i hi;simp[hi])⟩
def OL(ia:gI P P' a)(ib:gI P P' b):gI P P' (.orr a b):=λz f=>by
 simp only[aG]at z;replace z:=ah z;obtain⟨k,af,z1,z⟩:=z;obtain⟨h1,S1,e1,o1⟩:=ia z1 f;cases k with
 |false=>
  simp only[Vi,VG]at z;obtain⟨h2,S2,e2,o2⟩:=ib z o1.f;exact⟨h2,S2,by simp only[Ev.aG,e1,Ev.aj];rw[SA (by decide)];exact e2,o1.trans o2⟩
 |true=>
  simp only[Vj]at z;cases z;exact⟨h1,S1,by simp only[Ev.aG,e1,Ev.aj];rfl,o1.weak (by simp only[bh];intro i hi;simp[hi])⟩
def RG(ia:gI P P' a):gI P P' (.nt a):=λz f=>by
 simp only[aG]at z;replace z:=ah z;obtain⟨k,af,z1,z⟩:=z;obtain⟨h1,S1,e1,o1⟩:=ia z1 f;cases z;exact⟨h1,S1,by simp only[Ev.aG,e1,Ev.aj],o1⟩
def dj(ie:aX P P' e)(h1:∀fr,aG P e fr=(ev P true e fr).bind λx af=>.ok (truthy x) af)(h2:∀fr h,Ev.aG P' e fr h=(Ev.ev P' e fr h).bind λx h1=>Ev.R.of (Ev.truthy h1 x) h1):gI P P' e:=λz f=>by
 rw[h1]at z;replace z:=ah z;obtain⟨x,af,z1,z⟩:=z;cases z;obtain⟨d,h1,S1,e1,q1,o1⟩:=ie z1 f;exact⟨h1,S1,by rw[h2,e1,Ev.aj,Ck q1.t];rfl,o1⟩
def Cz(ie:aX P P' e){k:Bool}{fr:Fr}{v:V}{af:Fr}{M B:Nat->Prop}{h:Hh}{S:Nat->Prop}{ai:Ev.Fr}(z:src k fr e (ev P k e fr)=.ok v af)(f:aU M B h S fr ai) :
  ∃d h' S',Ev.ev P' e ai h=.ok d h'/\aS h' S' v d/\(k=false->∀n,d=.ref n->¬ M n)/\Out M B (bh e) h S fr ai h' S' af:=by
 have gen:ev P k e fr=.ok v af->∃d h' S',Ev.ev P' e ai h=.ok d h'/\aS h' S' v d/\(k=false->∀n,d=.ref n->¬ M n)/\Out M B (bh e) h S fr ai h' S' af:=λz=>by
  obtain⟨d,h1,S1,e1,q1,o1⟩:=ie z f;refine⟨d,h1,S1,e1,q1.t,λhk n hd=>?_,o1⟩;subst hk;have q:=q1.n;cases v<;>simp only[Rep]at q
  .cases q.symm.trans hd
  .cases q.symm.trans hd
  .cases q.symm.trans hd
  .cases q.symm.trans hd
  .obtain⟨_,q,_⟩:=q;cases q.symm.trans hd
  .obtain⟨m,ds,q,sm,_⟩:=q;cases q.symm.trans hd;exact(o1.f.wS _ sm).2.1
  .obtain⟨m,ds,q,sm,_⟩:=q;cases q.symm.trans hd;exact(o1.f.wS _ sm).2.1
  .obtain⟨m,q,sm,_⟩:=q;cases q.symm.trans hd;exact(o1.f.wS _ sm).2.1
 cases e
 case v i=>
  simp only[src]at z;replace z:=aC z;obtain⟨z,y0⟩:=z;subst y0;unfold Av at z;split at z
  .rename_i l y;cases z;obtain⟨p,e1,m,ds,rfl,y1,y2,y3⟩:=f.get y;exact⟨.ref m,h,S,by simp only[Ev.ev,e1,Option.join,Option.bind,id,Ev.cB],⟨m,ds,rfl,y2,y3⟩,λ_ n hn=>by cases hn;exact y1,.refl f⟩
  .exact gen (by simp only[ev,z,cB])
 all_goals exact gen z
def Ms(ie:aX P P' e):j7 P P' (.seq e):=λz f=>by
 simp only[bQ]at z;replace z:=ah z;obtain⟨x,af,z1,z⟩:=z;replace z:=aC z;obtain⟨z,y0⟩:=z;subst y0;obtain⟨d,h1,S1,e1,q1,q2,o1⟩:=Cz ie z1 f;obtain⟨s,a1,a2,a3⟩:=Eh z q1;exact⟨s,h1,S1,by simp only[Ev.bQ,e1,Ev.aj,a1,Ev.cB],a2,λq hq=>⟨(a3 q hq).2,λhk=>q2 hk _ (a3 q hq).1⟩,o1⟩
def IZ(is:jy P P' es):j7 P P' (.eW es):=λz f=>by
 simp only[bQ]at z;replace z:=ah z;obtain⟨x,af,z1,z⟩:=z;replace z:=aC z;obtain⟨z,y0⟩:=z;subst y0;obtain⟨d,h1,S1,e1,q1,o1⟩:=is z1 f;obtain⟨s,a1,a2⟩:=Mb z q1.t;exact⟨(s,[]),h1,S1,by simp only[Ev.bQ,e1,Ev.aj,a1,Ev.cB],a2,λq hq=>by simp at hq,o1⟩
def Ek(ie:aX P P' e):j7 P P' (.enum e):=λz f=>by
 simp only[bQ]at z;replace z:=ah z;obtain⟨x,af,z1,z⟩:=z;replace z:=aC z;obtain⟨z,y0⟩:=z;subst y0;obtain⟨d,h1,S1,e1,q1,q2,o1⟩:=Cz ie z1 f;simp only[cz]at z;obtain⟨l,z,rfl⟩:=z;obtain⟨s,a1,a2,a3⟩:=IP z q1;exact⟨(Ev.gH 0 s.1,s.2),h1,S1,by simp only[Ev.bQ,e1,Ev.aj,a1,Option.map,Ev.cB],yU 0 a2,λq hq=>⟨(a3 q hq).2,λhk=>q2 hk _ (a3 q hq).1⟩,o1⟩
def Ja(ie:aX P P' e):j7 P P' (.rev e):=λz f=>by
 simp only[bQ]at z;replace z:=ah z;obtain⟨x,af,z1,z⟩:=z;replace z:=aC z;obtain⟨z,y0⟩:=z;subst y0;obtain⟨d,h1,S1,e1,q1,o1⟩:=ie z1 f;simp only[cz]at z;obtain⟨l,z,rfl⟩:=z;cases x<;>simp only[L3,reduceCtorEq]at z
 cases z;have k1:=q1.t;simp only[aS,Rep]at k1;obtain⟨ds,y1,k2⟩:=k1;subst y1;exact⟨(ds.reverse,[]),h1,S1,by simp only[Ev.bQ,e1,Ev.aj,Ev.KJ,Option.map,Ev.cB],k2.reverse,λq hq=>by simp at hq,o1⟩
def Jb(ia:aX P P' a)(ib:aX P P' b):j7 P P' (.ju a b):=λz f=>by
 simp only[bQ]at z;replace z:=two ia ib z f;obtain⟨x,y,d,e,h2,S2,ak,k,z,q1,q2,ou⟩:=z;replace z:=aC z;obtain⟨z,y0⟩:=z;subst y0;unfold qc at z;split at z
 .rename_i a c;simp only[aS,Rep]at q1 q2;subst q1;subst q2;split at z
  case isFalse=>cases z
  rename_i hc;cases z;exact⟨((Ev.aD c a).map .str,[]),h2,S2,by simp only[Ev.bQ];rw[k];simp[Ev.vg,hc],aq.map (f:=V.str) (g:=D.str) (λs=>by simp[Rep]) _,λq hq=>by simp at hq,ou⟩
 .cases z
end
section
variable{P:aB}{P':Ev.aB}(HP:oS P P')
include HP
mutual
theorem aN:∀e:E,aX P P' e
 |.c _=>Ml
 |.v _=>Mm
 |.tup es=>Cn (fY es)
 |.lst es=>Co (fY es)
 |.bin _ a b=>Cp (aN a) (aN b)
 |.cmp _ a b=>Cq (aN a) (aN b)
 |.ch _ _ a b c=>Gx (aN a) (aN b) (aN c)
 |.nt a=>OH (aN a)
 |.neg a=>Ct (aN a)
 |.an a b=>OI (aN a) (aN b)
 |.orr a b=>Mn (aN a) (aN b)
 |.o8 t a b=>Cu (fH t) (aN a) (aN b)
 |.ix a b=>Gw (aN a) (aN b)
 |.sl a lo hi=>Gy (aN a) (qQ lo) (qQ hi)
 |.jt _=>Cs
 |.jK a b=>Cr (aN a) (aN b)
 |.cl _ es=>Gz HP (nI es)
 |.bi _ es=>GA (fY es)
 |.me _ o es=>GB (aN o) (fY es)
 |.dY a _=>Cv (aN a)
 |.comp elt _ it cond=>wz (iZ it) (qR cond) (aN elt)
 |.gq it=>Cy (iZ it)
 |.eS _ a=>za (aN a)
 |.fc a=>Cw (aN a)
theorem fH:∀e:E,gI P P' e
 |.an a b=>RE (fH a) (fH b)
 |.orr a b=>OL (fH a) (fH b)
 |.nt a=>RG (fH a)
 |.c x=>dj Ml (λ_=>by simp only[aG]) (λ_ _=>by simp only[Ev.aG])
 |.v x=>dj Mm (λ_=>by simp only[aG]) (λ_ _=>by simp only[Ev.aG])
 |.tup es=>dj (Cn (fY es)) (λ_=>by simp only[aG]) (λ_ _=>by simp only[Ev.aG])
 |.lst es=>dj (Co (fY es)) (λ_=>by simp only[aG]) (λ_ _=>by simp only[Ev.aG])
 |.bin _ a b=>dj (Cp (aN a) (aN b)) (λ_=>by simp only[aG]) (λ_ _=>by simp only[Ev.aG])
 |.cmp _ a b=>dj (Cq (aN a) (aN b)) (λ_=>by simp only[aG]) (λ_ _=>by simp only[Ev.aG])
 |.ch _ _ a b c=>dj (Gx (aN a) (aN b) (aN c)) (λ_=>by simp only[aG]) (λ_ _=>by simp only[Ev.aG])
 |.neg a=>dj (Ct (aN a)) (λ_=>by simp only[aG]) (λ_ _=>by simp only[Ev.aG])
 |.o8 t a b=>dj (Cu (fH t) (aN a) (aN b)) (λ_=>by simp only[aG]) (λ_ _=>by simp only[Ev.aG])
 |.ix a b=>dj (Gw (aN a) (aN b)) (λ_=>by simp only[aG]) (λ_ _=>by simp only[Ev.aG])
 |.sl a lo hi=>dj (Gy (aN a) (qQ lo) (qQ hi)) (λ_=>by simp only[aG]) (λ_ _=>by simp only[Ev.aG])
 |.jt _=>dj Cs (λ_=>by simp only[aG]) (λ_ _=>by simp only[Ev.aG])
 |.jK a b=>dj (Cr (aN a) (aN b)) (λ_=>by simp only[aG]) (λ_ _=>by simp only[Ev.aG])
 |.cl _ es=>dj (Gz HP (nI es)) (λ_=>by simp only[aG]) (λ_ _=>by simp only[Ev.aG])
 |.bi _ es=>dj (GA (fY es)) (λ_=>by simp only[aG]) (λ_ _=>by simp only[Ev.aG])
 |.me _ o es=>dj (GB (aN o) (fY es)) (λ_=>by simp only[aG]) (λ_ _=>by simp only[Ev.aG])
 |.dY a _=>dj (Cv (aN a)) (λ_=>by simp only[aG]) (λ_ _=>by simp only[Ev.aG])
 |.comp elt _ it cond=>dj (wz (iZ it) (qR cond) (aN elt)) (λ_=>by simp only[aG]) (λ_ _=>by simp only[Ev.aG])
 |.gq it=>dj (Cy (iZ it)) (λ_=>by simp only[aG]) (λ_ _=>by simp only[Ev.aG])
 |.eS _ a=>dj (za (aN a)) (λ_=>by simp only[aG]) (λ_ _=>by simp only[Ev.aG])
 |.fc a=>dj (Cw (aN a)) (λ_=>by simp only[aG]) (λ_ _=>by simp only[Ev.aG])
theorem fY:∀e:Es,jy P P' e
 |.nil=>Mp
 |.cons e es=>IV (aN e) (fY es)
theorem nI:∀e:Es,qO P P' e
 |.nil=>IW
 |.cons e es=>Ej (aN e) (nI es)
theorem qQ:∀e:Eo,qP P P' e
 |.no=>OJ
 |.yes e=>Mq (aN e)
theorem qR:∀e:Eo,uK P P' e
 |.no=>Mr
 |.yes e=>IY (fH e)
theorem iZ:∀e:It,j7 P P' e
 |.seq e=>Ms (aN e)
 |.eW es=>IZ (fY es)
 |.enum a=>Ek (aN a)
 |.rev a=>Ja (aN a)
 |.ju a b=>Jb (aN a) (aN b)
end
end
structure Tr(M B:Nat->Prop)(h:Hh)(S:Nat->Prop)(M':Nat->Prop)(h':Hh)(S':Nat->Prop):Prop where
 len:h.length<=h'.length
 keep:∀m,m<h.length->¬ M m->h'[m]?=h[m]?
 sub:∀m,S m->S' m
 new:∀m,S' m->S m\/(h.length<=m/\m<h'.length)\/(M m/\¬ B m)
 sy:∀m,M' m->M m\/h.length<=m
structure cP(M B:Nat->Prop)(h:Hh)(S:Nat->Prop)(fr:Fr)(ai:Ev.Fr)(M':Nat->Prop)(h':Hh)(S':Nat->Prop)(af:Fr)(aZ:Ev.Fr):Prop where
 f:aU M' B h' S' af aZ
 tr:Tr M B h S M' h' S'
 lk:∀i,locked af i=locked fr i
 rf:∀i,locked fr i=true->aZ[i]?=ai[i]?
noncomputable def fh(h:Hh)(S:Nat->Prop):Fl->Ev.Fl->Prop
 |.nx,g=>g=.nx
 |.bk,g=>g=.bk
 |.ct,g=>g=.ct
 |.ret v,g=>∃d,g=.ret d/\Rep h S v d
section
variable{M B M' M1 M2:Nat->Prop}{h h1 h2:Hh}{S S' S1 S2:Nat->Prop}{fr af ak:Fr}{ai aZ jj:Ev.Fr}{c:List Nat}{v:V}{d:D}
def cP.refl(f:aU M B h S fr ai):cP M B h S fr ai M h S fr ai:=⟨f,⟨Qq _,λ_ _ _=>rfl,λ_ q=>q,λ_ q=>.inl q,λ_ q=>.inl q⟩,λ_=>rfl,λ_ _=>rfl⟩
def Out.s(o:Out M B c h S fr ai h1 S1 af):cP M B h S fr ai M h1 S1 af ai:=⟨o.f,⟨o.tr.len,λm y1 y2=>o.tr.keep m y1 (λz=>y2 z.1),o.tr.sub,λm q=>(o.tr.new m q).imp id .inl,λ_ q=>.inl q⟩,o.lk,λ_ _=>rfl⟩
theorem cP.trans(f0:aU M B h S fr ai)(a:cP M B h S fr ai M1 h1 S1 af aZ)(b:cP M1 B h1 S1 af aZ M2 h2 S2 ak jj):cP M B h S fr ai M2 h2 S2 ak jj where
 f:=b.f
 tr:=⟨Uc a.tr.len b.tr.len,λm y1 y2=>by
   rw[b.tr.keep m (eE y1 a.tr.len) (λz=>by
    rcases a.tr.sy m z with z|z
    .exact y2 z
    .omega),a.tr.keep m y1 y2],λm q=>b.tr.sub m (a.tr.sub m q),λm q=>by
   rcases b.tr.new m q with q|q|q
   .rcases a.tr.new m q with q|q|q
    .exact .inl q
    .exact .inr (.inl ⟨q.1,eE q.2 b.tr.len⟩)
    .exact .inr (.inr q)
   .exact .inr (.inl ⟨Uc a.tr.len q.1,q.2⟩)
   .rcases a.tr.sy m q.1 with z|z
    .exact .inr (.inr ⟨z,q.2⟩)
    .exact .inr (.inl ⟨z,eE (a.f.wM m q.1) b.tr.len⟩),λm q=>by
   rcases b.tr.sy m q with q|q
   .exact a.tr.sy m q
   .exact .inr (Uc a.tr.len q)⟩
 lk:=λi=>(b.lk i).trans (a.lk i)
 rf:=λi q=>(b.rf i (by rw[a.lk i];exact q)).trans (a.rf i q)
def aU.kind(f:aU M B h S fr ai)(g:Option Sl->Option Sl->Prop)(hl:af.length=fr.length)(hg:∀(i:Nat) o,af[i]?=some o->∃o0,fr[i]?=some o0/\(o=o0\/(∃l,o0=some (.own l)/\o=some (.val (.lst l)))\/(∃l,o0=some (.bor l)/\o=some (.ro l)))) :
  ∃M' S',cP M B h S fr ai M' h S' af ai:=by
 let X:Nat->Prop:=λm=>∃(i:Nat) (l:List V),fr[i]?=some (some (Sl.own l))/\af[i]?=some (some (Sl.val (V.lst l)))/\ai[i]?=some (some (D.ref m))
 let Y:Nat->Prop:=λm=>∃(i:Nat) (l:List V),fr[i]?=some (some (Sl.bor l))/\af[i]?=some (some (Sl.ro l))/\ai[i]?=some (some (D.ref m))
 have xM:∀m,X m->M m/\¬ B m:=λm ⟨i,l,a,_,b⟩=>by
  obtain⟨m',ds,e,q,_⟩:=f.sl i _ _ a b;cases e;exact q
 have yM:∀m,Y m->M m/\B m:=λm ⟨i,l,a,_,b⟩=>by
  obtain⟨m',ds,e,q,_⟩:=f.sl i _ _ a b;cases e;exact q
 have mono:∀{l:List V} {ds:List D},aq h S l ds->aq h (λm=>S m\/X m) l ds:=λq=>q.mono (λ_ _=>rfl) λ_ z=>.inl z;refine⟨λm=>M m/\¬ X m/\¬ Y m,λm=>S m\/X m,⟨⟨λm q=>?_,λm q=>f.wM m q.1,f.wB,by rw[hl,f.len],λi o p e1 e2=>?_,λi j o o' m y1 y2 y3 y4 y5 y6=>?_⟩,⟨Qq _,λ_ _ _=>rfl,λ_ q=>.inl q,λm q=>?_,λm q=>.inl q.1⟩,λi=>?_,λ_ _=>rfl⟩⟩
 .rcases q with q|q
  .exact⟨(f.wS m q).1,λz=>(f.wS m q).2.1 z.1,(f.wS m q).2.2⟩
  .exact⟨f.wM m (xM m q).1,λz=>z.2.1 q,(xM m q).2⟩
 .obtain⟨o0,e0,k⟩:=hg i o e1;have old:=f.sl i o0 p e0 e2;rcases k with rfl|⟨l,rfl,rfl⟩|⟨l,rfl,rfl⟩
  .rcases o with _|s
   .exact old
   .cases s with
    |val v=>obtain⟨d,e,q⟩:=old;exact⟨d,e,q.mono (λ_ _=>rfl) λ_ z=>.inl z⟩
    |own l=>
     obtain⟨m,ds,rfl,z,y,q⟩:=old;refine⟨m,ds,rfl,⟨⟨z.1,λ⟨j,l',a1,a2,a3⟩=>?_,λ⟨j,l',a1,a2,a3⟩=>?_⟩,z.2⟩,y,mono q⟩
     .have:=f.inj i j _ _ m e0 a1 rfl rfl e2 a3;subst this;rw[e1]at a2;cases a2
     .have:=f.inj i j _ _ m e0 a1 rfl rfl e2 a3;subst this;rw[e1]at a2;cases a2
    |bor l=>
     obtain⟨m,ds,rfl,z,y,q⟩:=old;refine⟨m,ds,rfl,⟨⟨z.1,λ⟨j,l',a1,a2,a3⟩=>?_,λ⟨j,l',a1,a2,a3⟩=>?_⟩,z.2⟩,y,mono q⟩
     .have:=f.inj i j _ _ m e0 a1 rfl rfl e2 a3;subst this;rw[e1]at a2;cases a2
     .have:=f.inj i j _ _ m e0 a1 rfl rfl e2 a3;subst this;rw[e1]at a2;cases a2
    |ro l=>obtain⟨m,ds,rfl,z,y,q⟩:=old;exact⟨m,ds,rfl,λw=>z w.1,y,mono q⟩
  .obtain⟨m,ds,rfl,z,y,q⟩:=old;exact⟨.ref m,rfl,m,ds,rfl,.inr ⟨i,l,e0,e1,e2⟩,y,mono q⟩
  .obtain⟨m,ds,rfl,z,y,q⟩:=old;exact⟨m,ds,rfl,λw=>w.2.2 ⟨i,l,e0,e1,e2⟩,y,mono q⟩
 .have kd:∀(i:Nat) o,af[i]?=some o->g9 o=true->∃o0,fr[i]?=some o0/\g9 o0=true:=λi o w1 w2=>by
   obtain⟨o0,e0,k⟩:=hg i o w1;rcases k with rfl|⟨l,rfl,rfl⟩|⟨l,rfl,rfl⟩
   .exact⟨o,e0,w2⟩
   .cases w2
   .cases w2
  obtain⟨oi,k1,k2⟩:=kd i o y1 y3;obtain⟨oj,k3,k4⟩:=kd j o' y2 y4;exact f.inj i j oi oj m k1 k3 k2 k4 y5 y6
 .rcases q with q|q
  .exact .inl q
  .exact .inr (.inr (xM m q))
 .unfold locked;cases z:af[i]? with
  |none=>
   have:fr[i]?=none:=by rw[W9]at z ⊢;omega
   rw[this]
  |some o=>
   obtain⟨o0,e0,k⟩:=hg i o z;rw[e0];rcases k with rfl|⟨l,rfl,rfl⟩|⟨l,rfl,rfl⟩<;>rfl
def aU.gU(f:aU M B h S fr ai):∃M' S',cP M B h S fr ai M' h S' (jw fr) ai:=by
 refine f.kind (λ_ _=>True) (by simp[jw]) λi o e=>?_;unfold jw at e;rw[Vq]at e;cases z:fr[i]? with
 |none=>rw[z]at e;cases e
 |some o0=>
  rw[z]at e;cases e;refine⟨o0,rfl,?_⟩;rcases o0 with _|s
  .exact .inl rfl
  .cases s with
   |own l=>exact .inr (.inl ⟨l,rfl,rfl⟩)
   |_=>exact .inl rfl
theorem aU.walk:∀(is:List Nat) {M:Nat->Prop}{S:Nat->Prop}{fr:Fr},aU M B h S fr ai->∃M' S',cP M B h S fr ai M' h S' (qL is fr) ai
 |[],_,_,_,f=>⟨_,_,.refl f⟩
 |i :: is,M,S,fr,f=>by
  have one:∃M1 S1,cP M B h S fr ai M1 h S1 (match fr[i]? with|some (some s)=>fr.set i (some s.walk)|_=>fr) ai:=by
   split
   .rename_i s z;have hl:=(List.getElem?_eq_some_iff.mp z).1;refine f.kind (λ_ _=>True) (by simp) λj o e=>?_;by_cases hj:i=j
    .subst hj;rw[Qs hl]at e;cases e;refine⟨_,z,?_⟩;cases s with
     |own l=>exact .inr (.inl ⟨l,rfl,rfl⟩)
     |bor l=>exact .inr (.inr ⟨l,rfl,rfl⟩)
     |_=>exact .inl rfl
    .rw[gV hj]at e;exact⟨o,e,.inl rfl⟩
   .exact⟨M,S,.refl f⟩
  obtain⟨M1,S1,o1⟩:=one;obtain⟨M2,S2,o2⟩:=aU.walk is o1.f;exact⟨M2,S2,o1.trans f o2⟩
theorem aU.own(f:aU M B h S fr ai){i:Nat}{l:List V}{ds:List D}(e:put fr i (.own l)=some af)(q:aq h S l ds):cP M B h S fr ai (λm=>M m\/m=h.length) (h++[.lst ds]) S af (ai.set i (some (.ref h.length))):=by
 have hx:af=fr.set i (some (.own l))/\locked fr i=false:=by
  unfold put at e;unfold locked;split at e
  .cases e
  .cases e
  .rename_i k1 k2;cases e;refine⟨rfl,?_⟩;cases z:fr[i]? with
   |none=>rfl
   |some o=>
    rcases o with _|s
    .rfl
    .cases s with
     |bor l=>exact absurd z (k1 l)
     |ro l=>exact absurd z (k2 l)
     |_=>rfl
 obtain⟨rfl,hk⟩:=hx;have kp:∀m,m<h.length->(h++[O.lst ds])[m]?=h[m]?:=λm z=>by rw[wW z]
 have kS:∀m,S m->(h++[O.lst ds])[m]?=h[m]?:=λm z=>kp m (f.w m z);refine⟨⟨λm y=>⟨by have:=(f.wS m y).1;simp;omega,λz=>?_,(f.wS m y).2.2⟩,λm y=>?_,λm y=>by have:=f.wB m y;simp;omega,by simp[f.len],λj o p y1 y2=>?_,λj k o o' m y1 y2 y3 y4 y5 y6=>?_⟩,⟨by simp,λm y _=>kp m y,λ_ z=>z,λ_ z=>.inl z,λm z=>z.imp id (λz=>by omega)⟩,λj=>?_,λj hj=>?_⟩
 .rcases z with z|z
  .exact(f.wS m y).2.1 z
  .have:=(f.wS m y).1;omega
 .rcases y with y|y
  .have:=f.wM m y;simp;omega
  .subst y;simp
 .by_cases hj:i=j
  .subst hj;have hl:i<fr.length:=by have:=(List.getElem?_eq_some_iff.mp y1).1;simpa using this
   rw[Qs hl]at y1;rw[Qs (by rw[<-f.len];exact hl)]at y2;cases y1;cases y2;exact⟨h.length,ds,rfl,⟨.inr rfl,λz=>by have:=f.wB _ z;omega⟩,by simp,q.mono kS λ_ z=>z⟩
  .rw[gV hj]at y1 y2;have old:=f.sl j o p y1 y2;rcases o with _|s
   .exact old
   .cases s with
    |val v=>obtain⟨d,e,q⟩:=old;exact⟨d,e,q.mono kS λ_ z=>z⟩
    |own l=>obtain⟨m,es,rfl,z,y,q⟩:=old;exact⟨m,es,rfl,⟨.inl z.1,z.2⟩,by rw[kp m (f.wM m z.1)];exact y,q.mono kS λ_ z=>z⟩
    |bor l=>obtain⟨m,es,rfl,z,y,q⟩:=old;exact⟨m,es,rfl,⟨.inl z.1,z.2⟩,by rw[kp m (f.wM m z.1)];exact y,q.mono kS λ_ z=>z⟩
    |ro l=>
     obtain⟨m,es,rfl,z,y,q⟩:=old;have hm:=(List.getElem?_eq_some_iff.mp y).1;exact⟨m,es,rfl,λw=>by rcases w with w|w;exact z w;omega,by rw[kp m hm];exact y,q.mono kS λ_ z=>z⟩
 .have low:∀(j:Nat) o,i≠j->fr[j]?=some o->g9 o=true->ai[j]?=some (some (.ref m))->m<h.length:=λj o _ w1 w2 w3=>f.wM m (f.mM w1 w2 w3);have new:∀(j:Nat),j<fr.length->i=j->(ai.set i (some (.ref h.length)))[j]?=some (some (.ref m))->m=h.length:=λj hl hj w=>by
   subst hj;rw[Qs (by rw[<-f.len];exact hl)]at w;cases w;rfl
  have lj:j<fr.length:=by have:=(List.getElem?_eq_some_iff.mp y1).1;simpa using this
  have lk:k<fr.length:=by have:=(List.getElem?_eq_some_iff.mp y2).1;simpa using this
  by_cases hj:i=j
  .by_cases hk2:i=k
   .rw[<-hj,<-hk2]
   .have a:=new j lj hj y5;rw[gV hk2]at y2 y6;have b:=low k o' hk2 y2 y4 y6;omega
  .by_cases hk2:i=k
   .have a:=new k lk hk2 y6;rw[gV hj]at y1 y5;have b:=low j o hj y1 y3 y5;omega
   .rw[gV hj]at y1 y5;rw[gV hk2]at y2 y6;exact f.inj j k o o' m y1 y2 y3 y4 y5 y6
 .by_cases hj:i=j
  .subst hj;rw[hk];unfold locked;by_cases hl:i<fr.length
   .rw[Qs hl];rfl
   .rw[VH (by simpa using hl)]
  .unfold locked;rw[gV hj]
 .have:i≠j:=λz=>by subst z;rw[hk]at hj;cases hj
  rw[gV this]
end
inductive Qm(P':Ev.aB)(w:Nat)(s:S)(g:Fl)(M B:Nat->Prop)(h:Hh)(S:Nat->Prop)(fr:Fr)(ai:Ev.Fr)(af:Fr):Prop
 |mk (g':Ev.Fl) (aZ:Ev.Fr) (M':Nat->Prop) (h':Hh) (S':Nat->Prop) (c0:Ev.ex P' w s ai h=.ok (g',aZ) h') (c1:fh h' S' g g') (c2:cP M B h S fr ai M' h' S' af aZ):Qm P' w s g M B h S fr ai af
inductive Mt(P':Ev.aB)(w:Nat)(s:Ss)(g:Fl)(M B:Nat->Prop)(h:Hh)(S:Nat->Prop)(fr:Fr)(ai:Ev.Fr)(af:Fr):Prop
 |mk (g':Ev.Fl) (aZ:Ev.Fr) (M':Nat->Prop) (h':Hh) (S':Nat->Prop) (c0:Ev.exs P' w s ai h=.ok (g',aZ) h') (c1:fh h' S' g g') (c2:cP M B h S fr ai M' h' S' af aZ):Mt P' w s g M B h S fr ai af
section
variable(P:aB)(P':Ev.aB)(w:Nat)
noncomputable def nJ(s:S):Prop:=∀{fr:Fr} {g:Fl} {af:Fr} {M B:Nat->Prop} {h:Hh} {S:Nat->Prop} {ai:Ev.Fr},ex P w s fr=.ok g af->aU M B h S fr ai->Qm P' w s g M B h S fr ai af
noncomputable def qS(s:Ss):Prop:=∀{fr:Fr} {g:Fl} {af:Fr} {M B:Nat->Prop} {h:Hh} {S:Nat->Prop} {ai:Ev.Fr},exs P w s fr=.ok g af->aU M B h S fr ai->Mt P' w s g M B h S fr ai af
end
section
variable{P:aB}{P':Ev.aB}{w:Nat}(HP:oS P P')
include HP
def Jc{i:Nat}{e:E}:nJ P P' w (.set i e):=λ{fr g af M B h S ai} z f=>by
 simp only[ex]at z;replace z:=ah z;obtain⟨x,ak,z1,z⟩:=z;by_cases hn:isNew e=true
 .rw[b8 hn]at z;have key:∃l ds h1 S1,x=.lst l/\aq h1 S1 l ds/\Ev.ev P' e ai h=.ok (.ref h1.length) (h1++[.lst ds])/\Out M B (bh e) h S fr ai h1 S1 ak:=by
   cases e <;> (try simp only[isNew,Vi]at hn)
   case lst es=>
    simp only[ev]at z1;replace z1:=ah z1;obtain⟨l,bw,z2,z1⟩:=z1;replace z1:=aC z1;obtain⟨z1,y0⟩:=z1;subst y0;unfold fF at z1;split at z1
    case isFalse=>cases z1
    rename_i hk;cases z1;obtain⟨ds,h1,S1,e1,q1,o1⟩:=fY HP es z2 f;refine⟨l,ds,h1,S1,rfl,q1.n,?_,o1⟩;simp only[Ev.ev,e1,Ev.aj,Ev.alloc];rw[b8 (by rw[<-q1.n.length];exact hk)]
   case gq it=>
    simp only[ev]at z1;replace z1:=ah z1;obtain⟨l,bw,z2,z1⟩:=z1;replace z1:=aC z1;obtain⟨z1,y0⟩:=z1;subst y0;unfold fF at z1;split at z1
    case isFalse=>cases z1
    rename_i hk;cases z1;obtain⟨s,h1,S1,e1,q1,q2,o1⟩:=iZ HP it z2 f;refine⟨l,s.1,h1,S1,rfl,q1,?_,o1⟩;simp only[Ev.ev,e1,Ev.aj,Ev.alloc];rw[b8 (by rw[<-q1.length];exact hk)]
  obtain⟨l,ds,h1,S1,rfl,q1,e1,o1⟩:=key;simp only at z;replace z:=ah z;obtain⟨bw,fV,z2,z⟩:=z;replace z2:=aC z2;obtain⟨z2,y0⟩:=z2;subst y0;cases z;have o2:=o1.f.own z2 q1;exact⟨.nx,_,_,_,_,by simp only[Ev.ex,e1,Ev.aj],rfl,o1.s.trans f o2⟩
 .rw[SA hn]at z;replace z:=ah z;obtain⟨bw,fV,z2,z⟩:=z;replace z2:=aC z2;obtain⟨z2,y0⟩:=z2;subst y0;cases z;obtain⟨d,h1,S1,e1,q1,o1⟩:=aN HP e z1 f;obtain⟨f2,l2,r2⟩:=o1.f.set z2 q1.n;refine⟨.nx,_,_,_,_,by simp only[Ev.ex,e1,Ev.aj],rfl,o1.s.trans f ⟨f2,(cP.refl f2).tr,l2,r2⟩⟩
def Jd{l:List Nat}{e:E}:nJ P P' w (.m5 l e):=λ{fr g af M B h S ai} z f=>by
 simp only[ex]at z;replace z:=ah z;obtain⟨x,ak,z1,z⟩:=z;replace z:=ah z;obtain⟨bw,fV,z2,z⟩:=z;replace z2:=aC z2;obtain⟨z2,y0⟩:=z2;subst y0;cases z;obtain⟨d,h1,S1,e1,q1,o1⟩:=aN HP e z1 f;obtain⟨fX,b1,f2,l2,r2⟩:=o1.f.aY z2 q1.n;exact⟨.nx,_,_,_,_,by simp only[Ev.ex,e1,Ev.aj,b1],rfl,o1.s.trans f ⟨f2,(cP.refl f2).tr,l2,r2⟩⟩
def Mu{e:E}:nJ P P' w (.exp e):=λ{fr g af M B h S ai} z f=>by
 simp only[ex]at z;replace z:=ah z;obtain⟨x,ak,z1,z⟩:=z;cases z;obtain⟨d,h1,S1,e1,q1,o1⟩:=aN HP e z1 f;exact⟨.nx,_,_,_,_,by simp only[Ev.ex,e1,Ev.aj],rfl,o1.s⟩
def Mv{e:E}:nJ P P' w (.ret e):=λ{fr g af M B h S ai} z f=>by
 simp only[ex]at z;replace z:=ah z;obtain⟨x,ak,z1,z⟩:=z;cases z;obtain⟨M1,S1,o1⟩:=f.gU;obtain⟨d,h2,S2,e1,q1,o2⟩:=aN HP e z1 o1.f;exact⟨.ret d,_,_,_,_,by simp only[Ev.ex,e1,Ev.aj],⟨d,rfl,q1.n⟩,o1.trans f o2.s⟩
omit HP in
theorem sA{F:V->Fr->R Fl}{F':D->Ev.Fr->Hh->Ev.R (Ev.Fl×Ev.Fr)}{ck:List (Nat×List D)}{B:Nat->Prop}{M0:Nat->Prop}{h0:Hh}{S0:Nat->Prop}{cZ:Fr}{El:Ev.Fr}(f0:aU M0 B h0 S0 cZ El)(st:∀q∈ck,aR h0 q.1=some q.2/\¬ M0 q.1)
  (turn:∀v d fr g af M h S ai,F v fr=.ok g af->aU M B h S fr ai->Rep h S v d->∃g' aZ M' h' S',F' d ai h=.ok (g',aZ) h'/\fh h' S' g g'/\cP M B h S fr ai M' h' S' af aZ) :
  ∀{vs:List V} {ds:List D} {fr:Fr} {g:Fl} {af:Fr} {M:Nat->Prop} {h:Hh} {S:Nat->Prop} {ai:Ev.Fr},forL F vs fr=.ok g af->cP M0 B h0 S0 cZ El M h S fr ai->aq h S vs ds->
  ∃g' aZ M' h' S',Ev.forL F' ck ds ai h=.ok (g',aZ) h'/\fh h' S' g g'/\cP M0 B h0 S0 cZ El M' h' S' af aZ
 |[],ds,fr,g,af,M,h,S,ai,e,o,q=>by
  simp only[forL]at e;simp only[aq]at q;subst q;cases e;refine⟨.nx,ai,M,h,S,?_,rfl,o⟩;simp only[Ev.forL];rw[b8 (gZ λx hx=>iS (st x hx).1 (o.tr.keep _ (jW (st x hx).1) (st x hx).2))]
 |v :: vs,ds,fr,g,af,M,h,S,ai,e,o,q=>by
  simp only[forL]at e;replace e:=ah e;obtain⟨p,ak,e1,e⟩:=e;simp only[aq]at q;obtain⟨d,es,rfl,q1,q2⟩:=q;obtain⟨g',jj,M2,h2,S2,t1,t2,t3⟩:=turn v d fr p ak M h S ai e1 o.f q1;have o2:=o.trans f0 t3;have GD:Ev.stays h ck=true:=gZ λx hx=>iS (st x hx).1 (o.tr.keep _ (jW (st x hx).1) (st x hx).2);have Qn:aq h2 S2 vs es:=q2.mono (λm z=>t3.tr.keep m (o.f.wS m z).1 (o.f.wS m z).2.1) t3.tr.sub;cases p with
  |nx=>
   simp only[fh]at t2;subst t2;simp only at e;obtain⟨qT,fX,M3,h3,S3,u1,u2,u3⟩:=sA f0 st turn e o2 Qn;refine⟨qT,fX,M3,h3,S3,?_,u2,u3⟩;simp only[Ev.forL];rw[b8 GD,t1,Ev.aj];exact u1
  |ct=>
   simp only[fh]at t2;subst t2;simp only at e;obtain⟨qT,fX,M3,h3,S3,u1,u2,u3⟩:=sA f0 st turn e o2 Qn;refine⟨qT,fX,M3,h3,S3,?_,u2,u3⟩;simp only[Ev.forL];rw[b8 GD,t1,Ev.aj];exact u1
  |bk=>
   simp only[fh]at t2;subst t2;simp only at e;cases e;refine⟨.nx,jj,M2,h2,S2,?_,rfl,o2⟩;simp only[Ev.forL];rw[b8 GD,t1,Ev.aj]
  |ret x=>
   simp only[fh]at t2;obtain⟨d2,rfl,t2⟩:=t2;simp only at e;cases e;refine⟨.ret d2,jj,M2,h2,S2,?_,⟨d2,rfl,t2⟩,o2⟩;simp only[Ev.forL];rw[b8 GD,t1,Ev.aj]
def Mw{t:T}{it:It}{b:Ss}(ib:qS P P' w b):nJ P P' w (.for t it b):=λ{fr g af M B h S ai} z f=>by
 simp only[ex]at z;replace z:=ah z;obtain⟨vs,ak,z1,z⟩:=z;obtain⟨M1,S1,o1⟩:=f.walk (itv it);obtain⟨s,h2,S2,e1,q1,q2,o2⟩:=iZ HP it z1 o1.f;have o3:=o1.trans f o2.s;obtain⟨g',aZ,M',h',S',u1,u2,u3⟩:=sA (F':=λd ak h2=>match Ev.aY t d ak with
   |some bw=>Ev.exs P' w b bw h2
   |none=>.bad) (ck:=s.2) o2.f (λq hq=>⟨(q2 q hq).1,(q2 q hq).2 rfl⟩) (λv d fr g af M h S ai y f q=>by
  split at y
  .rename_i bw y1;obtain⟨fX,b1,b2,b3,b4⟩:=f.aY y1 q;rw[b1];obtain⟨g',aZ,M',h',S',c1,c2,c3⟩:=ib y b2;exact⟨g',aZ,M',h',S',c1,c2,(⟨b2,(cP.refl b2).tr,b3,b4⟩:cP M _ h S fr ai M h S bw fX).trans f c3⟩
  .cases y) z (cP.refl o2.f) q1
 refine⟨g',aZ,M',h',S',?_,u2,o3.trans f u3⟩;simp only[Ev.ex,e1,Ev.aj];exact u1
theorem wA{t:E}{b:Ss}(ib:qS P P' w b):∀(n:Nat) {fr:Fr}{g:Fl}{af:Fr}{M B:Nat->Prop}{h:Hh}{S:Nat->Prop}{ai:Ev.Fr},eT (λak=>aG P t ak) (λak=>exs P w b ak) n fr=.ok g af->aU M B h S fr ai->
  ∃g' aZ M' h' S',Ev.eT (λak h2=>Ev.aG P' t ak h2) (λak h2=>Ev.exs P' w b ak h2) n ai h=.ok (g',aZ) h'/\fh h' S' g g'/\cP M B h S fr ai M' h' S' af aZ
 |0,_,_,_,_,_,_,_,_,z,_=>by simp only[eT]at z;cases z
 |n+1,fr,g,af,M,B,h,S,ai,z,f=>by
  simp only[eT]at z;replace z:=ah z;obtain⟨k,ak,z1,z⟩:=z;obtain⟨h1,S1,e1,o1⟩:=fH HP t z1 f;cases k with
  |false=>
   simp only[Vi,VG]at z;cases z;refine⟨.nx,ai,M,h1,S1,?_,rfl,o1.s⟩;simp only[Ev.eT,e1,Ev.aj];rw[SA (by decide)]
  |true=>
   simp only[Vj]at z;replace z:=ah z;obtain⟨p,bw,z2,z⟩:=z;obtain⟨g',fX,M2,h2,S2,t1,t2,t3⟩:=ib z2 o1.f;have o2:=o1.s.trans f t3;cases p with
   |nx=>
    simp only[fh]at t2;subst t2;simp only at z;obtain⟨qT,Em,M3,h3,S3,u1,u2,u3⟩:=wA ib n z t3.f;refine⟨qT,Em,M3,h3,S3,?_,u2,o2.trans f u3⟩;simp only[Ev.eT,e1,Ev.aj,Vj,t1];exact u1
   |ct=>
    simp only[fh]at t2;subst t2;simp only at z;obtain⟨qT,Em,M3,h3,S3,u1,u2,u3⟩:=wA ib n z t3.f;refine⟨qT,Em,M3,h3,S3,?_,u2,o2.trans f u3⟩;simp only[Ev.eT,e1,Ev.aj,Vj,t1];exact u1
   |bk=>
    simp only[fh]at t2;subst t2;simp only at z;cases z;refine⟨.nx,fX,M2,h2,S2,?_,rfl,o2⟩;simp only[Ev.eT,e1,Ev.aj,Vj,t1]
   |ret x=>
    simp only[fh]at t2;obtain⟨d2,rfl,t2⟩:=t2;simp only at z;cases z;refine⟨.ret d2,fX,M2,h2,S2,?_,⟨d2,rfl,t2⟩,o2⟩;simp only[Ev.eT,e1,Ev.aj,Vj,t1]
def Mx{t:E}{a b:Ss}(ia:qS P P' w a)(ib:qS P P' w b):nJ P P' w (.iff t a b):=λ{fr g af M B h S ai} z f=>by
 simp only[ex]at z;replace z:=ah z;obtain⟨k,ak,z1,z⟩:=z;obtain⟨h1,S1,e1,o1⟩:=fH HP t z1 f;cases k with
 |true=>
  simp only[Vj]at z;obtain⟨g',aZ,M',h',S',c1,c2,c3⟩:=ia z o1.f;exact⟨g',aZ,M',h',S',by simp only[Ev.ex,e1,Ev.aj,Vj,c1],c2,o1.s.trans f c3⟩
 |false=>
  simp only[Vi,VG]at z;obtain⟨g',aZ,M',h',S',c1,c2,c3⟩:=ib z o1.f;exact⟨g',aZ,M',h',S',by simp only[Ev.ex,e1,Ev.aj];rw[SA (by decide)];exact c1,c2,o1.s.trans f c3⟩
noncomputable def wC(P':Ev.aB):Prop:=∀f ds h d h',P' (f+Ev.xo) ds h=.ok d h'->P' f ds h=.bad
def OM(HE:wC P'){g kk:Nat}{es:Es}:nJ P P' w (.tr g kk es):=λ{fr _ af M B h S ai} z f=>by
 simp only[ex]at z;replace z:=ah z;obtain⟨as,ak,z1,z⟩:=z;obtain⟨ds,h1,S1,e1,q1,o1⟩:=nI HP es z1 f;split at z
 case isFalse=>cases z
 split at z
 .rename_i v bw y;cases z;obtain⟨d,h2,S2,e2,q2,o2⟩:=qd HP y o1.f q1;exact⟨.ret d,ai,M,h2,S2,by simp only[Ev.ex,e1,Ev.aj,e2,Ev.tryD],⟨d,rfl,q2⟩,(o1.trans o2).s⟩
 .replace z:=ah z;obtain⟨c,bw,z2,z⟩:=z;replace z:=aC z;obtain⟨z,rfl⟩:=z;obtain⟨d,h2,S2,e2,q2,o2⟩:=qd HP z2 o1.f q1;have e3:=HE _ _ _ _ _ e2;cases c with
  |int c=>
   simp only[Rep]at q2;subst q2;simp only[Aw]at z;split at z
   case isFalse=>cases z
   rename_i hc;cases z;refine⟨.ret (.tup [.str [114,101,102,117,115,101,100],.int c]),ai,M,h2,S2,by simp only[Ev.ex,e1,Ev.aj,e2,e3,Ev.tryD,Ev.DJ,b8 hc,Ev.cB],⟨_,rfl,?_⟩,(o1.trans o2).s⟩;simp[Rep,aq]
  |_=>cases z
mutual
theorem GF(HE:wC P'):∀s:S,nJ P P' w s
 |.set _ _=>Jc HP
 |.m5 _ _=>Jd HP
 |.exp _=>Mu HP
 |.ret _=>Mv HP
 |.iff _ a b=>Mx HP (iD HE a) (iD HE b)
 |.for _ _ b=>Mw HP (iD HE b)
 |.tr _ _ _=>OM HP HE
 |.m6 _ b=>λz f=>by
  simp only[ex]at z;obtain⟨g',aZ,M',h',S',c1,c2,c3⟩:=wA HP (iD HE b) w z f;exact⟨g',aZ,M',h',S',by simp only[Ev.ex];exact c1,c2,c3⟩
 |.b9 _=>λz _=>by simp only[ex]at z;cases z
theorem iD(HE:wC P'):∀s:Ss,qS P P' w s
 |.nil=>λz f=>by simp only[exs]at z;cases z;exact⟨.nx,_,_,_,_,by simp only[Ev.exs],rfl,.refl f⟩
 |.cons s ss=>λz f=>by
  simp only[exs]at z;replace z:=ah z;obtain⟨p,ak,z1,z⟩:=z;obtain⟨g',jj,M2,h2,S2,t1,t2,t3⟩:=GF HE s z1 f;cases p with
  |nx=>
   simp only[fh]at t2;subst t2;simp only at z;obtain⟨qT,fX,M3,h3,S3,u1,u2,u3⟩:=iD HE ss z t3.f;exact⟨qT,fX,M3,h3,S3,by simp only[Ev.exs,t1,Ev.aj,u1],u2,t3.trans f u3⟩
  |ct=>
   simp only[fh]at t2;subst t2;simp only at z;cases z;exact⟨.ct,jj,M2,h2,S2,by simp only[Ev.exs,t1,Ev.aj],rfl,t3⟩
  |bk=>
   simp only[fh]at t2;subst t2;simp only at z;cases z;exact⟨.bk,jj,M2,h2,S2,by simp only[Ev.exs,t1,Ev.aj],rfl,t3⟩
  |ret x=>
   simp only[fh]at t2;obtain⟨d2,rfl,t2⟩:=t2;simp only at z;cases z;exact⟨.ret d2,jj,M2,h2,S2,by simp only[Ev.exs,t1,Ev.aj],⟨d2,rfl,t2⟩,t3⟩
end
end
structure fZ(M:Nat->Prop)(h h':Hh):Prop where
 len:h.length<=h'.length
 keep:∀m,m<h.length->¬ M m->h'[m]?=h[m]?
inductive jk(c:Nat)(M:Nat->Prop)(h:Hh)(r:Ev.XR):Prop
 |mk (h':Hh) (e:r=some (c,h')) (k:fZ M h h'):jk c M h r
noncomputable def qU(X:bS)(X':Ev.bS):Prop:=∀f sl c,X f sl=some c->∀(h:Hh) (S B:Nat->Prop) (ds:List D),aU B B h S (sl.map some) (ds.map some)->jk c B h (X' f ds h)
def fZ.after{M M1 B:Nat->Prop}{h h1 h2:Hh}{S S1:Nat->Prop}{fr af:Fr}{ai aZ:Ev.Fr}(o:cP M B h S fr ai M1 h1 S1 af aZ)(r:fZ M1 h1 h2):fZ M h h2:=⟨Uc o.tr.len r.len,λm y1 y2=>by
 rw[r.keep m (eE y1 o.tr.len) (λz=>by
  rcases o.tr.sy m z with z|z
  .exact y2 z
  .omega),o.tr.keep m y1 y2]⟩
theorem zb{f:V->Option (Option V)}{g:V->Option Nat}{f':D->Hh->Ev.R (Option D)}{g':D->Hh->Ev.XR}{ck:List (Nat×List D)}{h0:Hh}{S0:Nat->Prop}(w0:∀m,S0 m->m<h0.length)(st:∀q∈ck,aR h0 q.1=some q.2)
  (turn:∀v o d h S,Al h0 S0 h S->f v=some o->Rep h S v d->∃o' h' S',f' d h=.ok o' h'/\Ay h' S' o o'/\Al h S h' S')
  (hb:∀d h r,g' d h=some r->f' d h=.bad)
  (rs:∀v c d h S,Al h0 S0 h S->g v=some c->Rep h S v d->∃h',g' d h=some (c,h')/\h.length<=h'.length/\∀m,m<h.length->h'[m]?=h[m]?) :
  ∀{vs:List V} {ds:List D} {c:Nat} {h:Hh} {S:Nat->Prop},Al h0 S0 h S->dB f g vs=some c->aq h S vs ds->∃h',Ev.dB f' g' ck ds h=some (c,h')/\h.length<=h'.length/\∀m,m<h.length->h'[m]?=h[m]?
 |[],ds,c,h,S,a,e,q=>nomatch e
 |v :: vs,ds,c,h,S,a,e,q=>by
  simp only[dB]at e;simp only[aq]at q;obtain⟨d,es,rfl,q1,q2⟩:=q;have w:∀m,S m->m<h.length:=λm z=>by
   rcases a.new m z with z|z
   .exact eE (w0 m z) a.len
   .exact z.2
  have hs:Ev.stays h ck=true:=gZ λx hx=>iS (st x hx) (a.keep _ (jW (st x hx)));split at e
  .rename_i o e1;obtain⟨o',h1,S1,t1,t2,t3⟩:=turn v o d h S a e1 q1;obtain⟨h2,u1,u2,u3⟩:=zb w0 st turn hb rs (a.trans t3) e (q2.mono (λm z=>t3.keep m (w m z)) t3.sub);refine⟨h2,?_,Uc t3.len u2,λm hm=>by rw[u3 m (eE hm t3.len),t3.keep m hm]⟩;simp only[Ev.dB];rw[b8 hs,t1];exact u1
  .obtain⟨h2,u1,u2,u3⟩:=rs v c d h S a e q1;refine⟨h2,?_,u2,u3⟩;simp only[Ev.dB];rw[b8 hs,hb _ _ _ u1];exact u1
section
variable{P:aB}{P':Ev.aB}{X:bS}{X':Ev.bS}{w:Nat}(HP:oS P P')(HE:wC P')(HX:qU X X')(HB:∀f ds h r,X' f ds h=some r->P' f ds h=.bad)
include HP HX HB
mutual
theorem iV:∀(e:E) {fr:Fr}{c:Nat}{M B:Nat->Prop}{h:Hh}{S:Nat->Prop}{ai:Ev.Fr},xe P X e fr=some c->aU M B h S fr ai->jk c M h (Ev.xe P' X' e ai h)
 |.cl g es,fr,c,M,B,h,S,ai,z,f=>by
  simp only[xe]at z;simp only[Ev.xe];split at z
  .rename_i as af y;obtain⟨ds,h1,S1,e1,q1,o1⟩:=nI HP es y f;rw[e1];unfold oR at z;split at z
   case isFalse=>cases z
   rename_i nd;rw[eU]at z;obtain⟨sl,z1,z2⟩:=z;obtain⟨h2,e2,k⟩:=HX _ _ _ z2 h1 S1 _ ds (yX o1.f nd z1 q1);exact⟨h2,e2,fZ.after o1.s ⟨k.len,λm y1 y2=>k.keep m y1 λz=>y2 (LB.m o1.f m z)⟩⟩
  .obtain⟨h2,e2,k⟩:=wD es z f;rw[Ev.qA HB es e2];exact⟨h2,e2,k⟩
 |.ix a b,fr,c,M,B,h,S,ai,z,f=>by
  simp only[xe]at z;simp only[Ev.xe];exact iV a z f
 |.me m o es,fr,c,M,B,h,S,ai,z,f=>by
  simp only[xe]at z;split at z
  case isFalse=>cases z
  rename_i hm;split at z
  case h_2=>cases z
  rename_i i hi;cases o with
  |v j=>
   simp only[fG]at hi;split at hi
   case isFalse=>cases hi
   rename_i hl;cases hi;obtain⟨s,hs⟩:=Option.isSome_iff_exists.mp hl;obtain⟨n,ds,l,o,k1,k2,k3,k4,k5⟩:=ig hs f;simp only[Ev.xe,Ev.ev,k2];have e0:Ev.qz m (.ref n) h=true:=by
    have:aR h n=some ds:=by unfold aR;rw[k3]
    cases m<;>first | (simp[Ev.qz,this];done)|cases hm
   simp only[Option.join,Option.bind,id,Ev.cB];rw[b8 e0];exact wF es z f
  |_=>cases hi
 |.tup es,fr,c,M,B,h,S,ai,z,f=>by
  simp only[xe]at z;simp only[Ev.xe];exact wF es z f
 |.fc a,fr,c,M,B,h,S,ai,z,f=>by
  simp only[xe]at z;simp only[Ev.xe];exact iV a z f
 |.comp elt t it cond,fr,c,M,B,h,S,ai,z,f=>by
  simp only[xe]at z;simp only[Ev.xe];split at z
  .rename_i vs af y;split at z
   case isFalse=>cases z
   rename_i hu;obtain⟨s,h1,S1,e1,q1,q2,o1⟩:=iZ HP it y f;rw[e1];dsimp only;rw[b8 ⟨o1.f.undef hu.1,by rw[<-q1.length];exact hu.2⟩];have GC:=o1.f.ro;obtain⟨h2,e2,k1,k2⟩:=zb (f':=Ev.oH P' elt t cond ai) (g':=λd h2=>match Ev.aY t d ai with
    |some ak=>(match Ev.fO P' cond ak h2 with
     |.ok true h3=>Ev.xe P' X' elt ak h3
     |_=>none)
    |none=>none) (ck:=s.2) o1.f.w (λq hq=>(q2 q hq).1) (λv o d h S al y q=>by
    unfold lO at y;unfold Ev.oH;split at y
    .cases y
    .rename_i bw y1;obtain⟨fX,b1,b2,_,_⟩:=(GC.al al).aY y1 q;rw[b1];split at y
     .rename_i c fV y2;obtain⟨h3,S3,c1,oc⟩:=qR HP cond y2 b2;have mE:Al h S h3 S3:=oc.tr.al λm z=>z.1;split at y
      .rename_i hc;subst hc;split at y
       .rename_i x mS y3;cases y;obtain⟨d',h4,S4,d1,d2,od⟩:=aN HP elt y3 (b2.al mE);refine⟨some d',h4,S4,?_,⟨d',rfl,d2.n⟩,mE.trans (od.tr.al λm z=>z.1)⟩;simp only[c1,Ev.aj,Vj,d1]
       .cases y
      .rename_i hc;cases y;refine⟨none,h3,S3,?_,rfl,mE⟩;simp only[c1,Ev.aj];rw[SA hc]
     .cases y) (λd h2 r2 e=>by
    split at e
    .rename_i ak eb;split at e
     .rename_i h3 ec;unfold Ev.oH;rw[eb];simp only[ec,Ev.aj,Vj];rw[(Ev.bU HB elt e).1];rfl
     .cases e
    .cases e) (λv c d h S al y q=>by
    split at y
    .rename_i bw y1;obtain⟨fX,b1,b2,_,_⟩:=(GC.al al).aY y1 q;rw[b1];split at y
     .rename_i fV y2;obtain⟨h3,S3,c1,oc⟩:=qR HP cond y2 b2;have mE:Al h S h3 S3:=oc.tr.al λm z=>z.1;obtain⟨h4,e4,k4⟩:=iV elt y (b2.al mE);refine⟨h4,?_,Uc mE.len k4.len,λm hm=>?_⟩
      .simp only[c1];exact e4
      .rw[k4.keep m (eE hm mE.len) (λz=>z),mE.keep m hm]
     .cases y
    .cases y) Al.refl z q1
   exact⟨h2,e2,fZ.after o1.s ⟨k1,λm a b=>k2 m a⟩⟩
  .obtain⟨h2,e2,k⟩:=ON it z f;rw[Ev.KO HB it e2];exact⟨h2,e2,k⟩
 |.c _,_,_,_,_,_,_,_,z,_=>nomatch z|.v _,_,_,_,_,_,_,_,z,_=>nomatch z|.lst _,_,_,_,_,_,_,_,z,_=>nomatch z
 |.bin _ _ _,_,_,_,_,_,_,_,z,_=>nomatch z|.cmp _ _ _,_,_,_,_,_,_,_,z,_=>nomatch z
 |.ch _ _ _ _ _,_,_,_,_,_,_,_,z,_=>nomatch z
 |.nt _,_,_,_,_,_,_,_,z,_=>nomatch z|.neg _,_,_,_,_,_,_,_,z,_=>nomatch z|.an _ _,_,_,_,_,_,_,_,z,_=>nomatch z|.orr _ _,_,_,_,_,_,_,_,z,_=>nomatch z|.o8 _ _ _,_,_,_,_,_,_,_,z,_=>nomatch z
 |.sl _ _ _,_,_,_,_,_,_,_,z,_=>nomatch z
 |.bi _ _,_,_,_,_,_,_,_,z,_=>nomatch z
 |.dY _ _,_,_,_,_,_,_,_,z,_=>nomatch z
 |.gq _,_,_,_,_,_,_,_,z,_=>nomatch z
 |.eS _ _,_,_,_,_,_,_,_,z,_=>nomatch z
 |.jt _,_,_,_,_,_,_,_,z,_=>nomatch z|.jK _ _,_,_,_,_,_,_,_,z,_=>nomatch z
theorem wD:∀(es:Es) {fr:Fr}{c:Nat}{M B:Nat->Prop}{h:Hh}{S:Nat->Prop}{ai:Ev.Fr},wc P X es fr=some c->aU M B h S fr ai->jk c M h (Ev.xa P' X' es ai h)
 |.nil,_,_,_,_,_,_,_,z,_=>nomatch z
 |.cons e es,fr,c,M,B,h,S,ai,z,f=>by
  simp only[wc]at z;simp only[Ev.xa];split at z
  .rename_i i hi;cases e with
   |v j=>
    simp only[fG]at hi;split at hi
    case isFalse=>cases hi
    rename_i hl;cases hi;obtain⟨s,hs⟩:=Option.isSome_iff_exists.mp hl;obtain⟨n,ds,l,o,k1,k2,k3,k4,k5⟩:=ig hs f;simp only[Ev.ev,k2,Option.join,Option.bind,id,Ev.cB];exact wD es z f
   |_=>cases hi
  .split at z
   .rename_i y;obtain⟨d,h1,S1,e1,q1,o1⟩:=aN HP e y f;rw[e1];obtain⟨h2,e2,k⟩:=wD es z o1.f;exact⟨h2,e2,fZ.after o1.s k⟩
   .obtain⟨h2,e2,k⟩:=iV e z f;rw[(Ev.bU HB e e2).1];exact⟨h2,e2,k⟩
theorem ON:∀(it:It) {fr:Fr}{c:Nat}{M B:Nat->Prop}{h:Hh}{S:Nat->Prop}{ai:Ev.Fr},xi P X it fr=some c->aU M B h S fr ai->jk c M h (Ev.xi P' X' it ai h)
 |.seq e,fr,c,M,B,h,S,ai,z,f=>by
  simp only[xi]at z;simp only[Ev.xi];exact iV e z f
 |.eW _,_,_,_,_,_,_,_,z,_=>nomatch z|.enum _,_,_,_,_,_,_,_,z,_=>nomatch z|.rev _,_,_,_,_,_,_,_,z,_=>nomatch z
 |.ju _ _,_,_,_,_,_,_,_,z,_=>nomatch z
theorem wF:∀(es:Es) {k:Bool}{fr:Fr}{c:Nat}{M B:Nat->Prop}{h:Hh}{S:Nat->Prop}{ai:Ev.Fr},kX P X k es fr=some c->aU M B h S fr ai->jk c M h (Ev.xa P' X' es ai h)
 |.nil,_,_,_,_,_,_,_,_,z,_=>nomatch z
 |.cons e es,k,fr,c,M,B,h,S,ai,z,f=>by
  simp only[kX]at z;simp only[Ev.xa];split at z
  .rename_i y;obtain⟨d,h1,S1,e1,q1,o1⟩:=aN HP e y f;rw[e1];obtain⟨h2,e2,k⟩:=wF es z o1.f;exact⟨h2,e2,fZ.after o1.s k⟩
  .obtain⟨h2,e2,k⟩:=iV e z f;rw[(Ev.bU HB e e2).1];exact⟨h2,e2,k⟩
end
omit HP HX HB in
theorem zc{f:V->Fr->R Fl}{g:V->Fr->Option Nat}{f':D->Ev.Fr->Hh->Ev.R (Ev.Fl×Ev.Fr)}{g':D->Ev.Fr->Hh->Ev.XR}{ck:List (Nat×List D)}{B:Nat->Prop}
  (hf:∀{v d fr fl af M h S ai},f v fr=.ok fl af->aU M B h S fr ai->Rep h S v d->∃gl aZ M' h' S',f' d ai h=.ok (gl,aZ) h'/\fh h' S' fl gl/\cP M B h S fr ai M' h' S' af aZ)
  (hg:∀{v d fr c M h S ai},g v fr=some c->aU M B h S fr ai->Rep h S v d->jk c M h (g' d ai h)) (hb:∀d fr h r,g' d fr h=some r->f' d fr h=.bad) :
  ∀(vs:List V) {ds:List D} {fr:Fr} {c:Nat} {M:Nat->Prop} {h:Hh} {S:Nat->Prop} {ai:Ev.Fr},fy f g vs fr=some c->aU M B h S fr ai->aq h S vs ds->(∀q∈ck,aR h q.1=some q.2/\¬ M q.1)->jk c M h (Ev.fy f' g' ck ds ai h)
 |[],_,_,_,_,_,_,_,z,_,_,_=>nomatch z
 |v :: vs,ds,fr,c,M,h,S,ai,z,f0,q,st=>by
  simp only[aq]at q;obtain⟨d,es,rfl,q1,q2⟩:=q;simp only[fy]at z;simp only[Ev.fy];rw[b8 (gZ λq hq=>(st q hq).1)];have go:∀{af:Fr} {aZ:Ev.Fr} {M1:Nat->Prop} {h1:Hh} {S1:Nat->Prop},fy f g vs af=some c->cP M B h S fr ai M1 h1 S1 af aZ->jk c M h (Ev.fy f' g' ck es aZ h1):=λ{af aZ M1 h1 S1} z1 o=>by
   obtain⟨h2,e2,k⟩:=zc hf hg hb vs z1 o.f (q2.mono (λm y=>o.tr.keep m (f0.wS m y).1 (f0.wS m y).2.1) o.tr.sub) (λq hq=>⟨iS (st q hq).1 (o.tr.keep _ (jW (st q hq).1) (st q hq).2),λy=>by
    rcases o.tr.sy _ y with y|y
    .exact(st q hq).2 y
    .have:=jW (st q hq).1;omega⟩)
   exact⟨h2,e2,fZ.after o k⟩
  split at z
  .rename_i y;obtain⟨gl,aZ,M1,h1,S1,t1,t2,t3⟩:=hf y f0 q1;simp only[fh]at t2;subst t2;rw[t1];exact go z t3
  .rename_i y;obtain⟨gl,aZ,M1,h1,S1,t1,t2,t3⟩:=hf y f0 q1;simp only[fh]at t2;subst t2;rw[t1];exact go z t3
  .cases z
  .obtain⟨h2,e2,k⟩:=hg z f0 q1;rw[hb _ _ _ _ e2];exact⟨h2,e2,k⟩
include HE
mutual
theorem OO:∀(s:S) {fr:Fr}{c:Nat}{M B:Nat->Prop}{h:Hh}{S:Nat->Prop}{ai:Ev.Fr},xs P X w s fr=some c->aU M B h S fr ai->jk c M h (Ev.xs P' X' w s ai h)
 |.b9 c,fr,_,M,B,h,S,ai,z,f=>by
  simp only[xs]at z;cases z;exact⟨h,rfl,Qq _,λ_ _ _=>rfl⟩
 |.set i e,fr,c,M,B,h,S,ai,z,f=>by
  simp only[xs]at z;simp only[Ev.xs];exact iV HP HX HB e z f
 |.exp e,fr,c,M,B,h,S,ai,z,f=>by
  simp only[xs]at z;simp only[Ev.xs];exact iV HP HX HB e z f
 |.ret e,fr,c,M,B,h,S,ai,z,f=>by
  simp only[xs]at z;simp only[Ev.xs];obtain⟨M1,S1,o⟩:=f.gU;obtain⟨h2,e2,k⟩:=iV HP HX HB e z o.f;exact⟨h2,e2,fZ.after o k⟩
 |.iff t a b,fr,c,M,B,h,S,ai,z,f=>by
  simp only[xs]at z;simp only[Ev.xs];split at z
  .rename_i k af y;obtain⟨h1,S1,e1,o1⟩:=fH HP t y f;rw[e1];cases k with
   |true=>
    obtain⟨h2,e2,k⟩:=kZ a (by simpa using z) o1.f;exact⟨h2,by simpa using e2,fZ.after o1.s k⟩
   |false=>
    obtain⟨h2,e2,k⟩:=kZ b (by simpa using z) o1.f;exact⟨h2,by simpa using e2,fZ.after o1.s k⟩
  .obtain⟨h2,e2,k⟩:=iV HP HX HB t z f;rw[(Ev.bU HB t e2).2];exact⟨h2,e2,k⟩
 |.for t it b,fr,c,M,B,h,S,ai,z,f=>by
  simp only[xs]at z;simp only[Ev.xs];split at z
  case h_2=>cases z
  rename_i vs af y;obtain⟨M0,S0,o0⟩:=f.walk (itv it);obtain⟨s,h1,S1,e1,q1,q2,o1⟩:=iZ HP it y o0.f;rw[e1];have o2:=o0.trans f o1.s;obtain⟨h2,e2,k⟩:=zc (B:=B) (ck:=s.2) (f':=λd ak h2=>match Ev.aY t d ak with|some bw=>Ev.exs P' w b bw h2|none=>.bad) (g':=λd ak h2=>match Ev.aY t d ak with|some bw=>Ev.xss P' X' w b bw h2|none=>none)
   (λ{v d fr fl af M h S ai} y1 f1 r1=>by
    split at y1
    .rename_i bw e3;obtain⟨fX,b1,b2,b3,b4⟩:=f1.aY e3 r1;rw[b1];obtain⟨g',aZ,M',h',S',c1,c2,c3⟩:=iD HP HE b y1 b2;exact⟨g',aZ,M',h',S',c1,c2,(⟨b2,(cP.refl b2).tr,b3,b4⟩:cP M _ h S fr ai M h S bw fX).trans f1 c3⟩
    .cases y1)
   (λ{v d fr c M h S ai} y1 f1 r1=>by
    split at y1
    .rename_i bw e3;obtain⟨fX,b1,b2,b3,b4⟩:=f1.aY e3 r1;rw[b1];exact kZ b y1 b2
    .cases y1)
   (λd fr h r y1=>by
    split at y1
    .rename_i e3;exact Ev.cU HB b y1
    .cases y1) vs z o2.f q1 (λq hq=>⟨(q2 q hq).1,(q2 q hq).2 rfl⟩)
  exact⟨h2,e2,fZ.after o2 k⟩
 |.m6 t b,fr,c,M,B,h,S,ai,z,f=>by
  simp only[xs]at z;simp only[Ev.xs];have go:∀(n:Nat) {fr:Fr} {M:Nat->Prop} {h:Hh} {S:Nat->Prop} {ai:Ev.Fr},fU (λak=>aG P t ak) (λak=>exs P w b ak) (λak=>xss P X w b ak) n fr=some c->aU M B h S fr ai->jk c M h (Ev.fU (λak h2=>Ev.aG P' t ak h2) (λak h2=>Ev.exs P' w b ak h2) (λak h2=>Ev.xss P' X' w b ak h2) n ai h):=λn=>by
   induction n with
   |zero=>intro _ _ _ _ _ z _;cases z
   |succ n ih=>
    intro fr M h S ai z f;simp only[fU]at z;simp only[Ev.fU];split at z
    case h_2=>cases z
    rename_i af y;obtain⟨h1,S1,e1,o1⟩:=fH HP t y f;rw[e1];simp only;split at z
    .rename_i y2;obtain⟨gl,jj,M2,h2,S2,t1,t2,t3⟩:=iD HP HE b y2 o1.f;simp only[fh]at t2;subst t2;rw[t1];obtain⟨h3,e3,k⟩:=ih z t3.f;exact⟨h3,e3,fZ.after (o1.s.trans f t3) k⟩
    .rename_i y2;obtain⟨gl,jj,M2,h2,S2,t1,t2,t3⟩:=iD HP HE b y2 o1.f;simp only[fh]at t2;subst t2;rw[t1];obtain⟨h3,e3,k⟩:=ih z t3.f;exact⟨h3,e3,fZ.after (o1.s.trans f t3) k⟩
    .cases z
    .obtain⟨h3,e3,k⟩:=kZ b z o1.f;rw[Ev.cU HB b e3];exact⟨h3,e3,fZ.after o1.s k⟩
  exact go w z f
 |.m5 _ _,_,_,_,_,_,_,_,z,_=>nomatch z
 |.tr _ _ _,_,_,_,_,_,_,_,z,_=>nomatch z
theorem kZ:∀(s:Ss) {fr:Fr}{c:Nat}{M B:Nat->Prop}{h:Hh}{S:Nat->Prop}{ai:Ev.Fr},xss P X w s fr=some c->aU M B h S fr ai->jk c M h (Ev.xss P' X' w s ai h)
 |.nil,_,_,_,_,_,_,_,z,_=>nomatch z
 |.cons s ss,fr,c,M,B,h,S,ai,z,f=>by
  simp only[xss]at z;simp only[Ev.xss];split at z
  .rename_i y;obtain⟨gl,jj,M2,h2,S2,t1,t2,t3⟩:=GF HP HE s y f;simp only[fh]at t2;subst t2;rw[t1];obtain⟨h3,e3,k⟩:=kZ ss z t3.f;exact⟨h3,e3,fZ.after t3 k⟩
  .cases z
  .obtain⟨h3,e3,k⟩:=OO s z f;rw[Ev.m9 HB s e3];exact⟨h3,e3,k⟩
end
end
theorem sC{h:Hh}{S:Nat->Prop}{B:Nat->Prop}{h0:Hh}{S0:Nat->Prop}:∀{sl:List Sl}{ds:List D}{cs:Fr},sl.length=ds.length->
  (∀(a:Nat) s d,sl[a]?=some s->ds[a]?=some d->kP B B h0 S0 (some s) (some d)/\locked cs a=yV (some s)/\(yV (some s)=true->∃m es l s',d=.ref m/\h[m]?=some (.lst es)/\aq h S l es/\cs[a]?=some (some s')/\s'.out=some l))->kE h S sl ds ((cs.take sl.length).filterMap λo=>o.bind Sl.out)
 |[],ds,cs,_,_=>by simp[kE]
 |s :: sl,[],cs,hl,_=>by simp at hl
 |s :: sl,d :: ds,[],hl,q=>by
  have ih:=sC (h:=h) (S:=S) (sl:=sl) (ds:=ds) (cs:=[]) (by simpa using hl) λa s' d' e1 e2=>by
   obtain⟨w1,w2,w3⟩:=q (a+1) s' d' (by simpa using e1) (by simpa using e2);exact⟨w1,by simpa[locked]using w2,λz=>by obtain⟨_,_,_,_,_,_,_,y,_⟩:=w3 z;simp at y⟩
  obtain⟨w1,w2,w3⟩:=q 0 s d (by simp) (by simp);cases s with
  |val v=>simp at ih ⊢;exact⟨d,ds,rfl,ih⟩
  |own l=>exact absurd w1 (by rintro⟨m,es,e,q,_⟩;exact q.2 q.1)
  |bor l=>obtain⟨_,_,_,_,_,_,_,y,_⟩:=w3 rfl;simp at y
  |ro l=>obtain⟨_,_,_,_,_,_,_,y,_⟩:=w3 rfl;simp at y
 |s :: sl,d :: ds,o :: cs,hl,q=>by
  have ih:=sC (h:=h) (S:=S) (sl:=sl) (ds:=ds) (cs:=cs) (by simpa using hl) λa s' d' e1 e2=>by
   obtain⟨w1,w2,w3⟩:=q (a+1) s' d' (by simpa using e1) (by simpa using e2);exact⟨w1,by simpa[locked]using w2,λz=>by simpa using w3 z⟩
  obtain⟨w1,w2,w3⟩:=q 0 s d (by simp) (by simp);cases s with
  |val v=>
   have:o.bind Sl.out=none:=by
    simp[locked]at w2;rcases o with _|s
    .rfl
    .cases s<;>first|rfl|cases w2
   simp only[Vg,V4,Vo,this];exact⟨d,ds,rfl,ih⟩
  |own l=>exact absurd w1 (by rintro⟨m,es,e,q,_⟩;exact q.2 q.1)
  |bor l=>
   obtain⟨m,es,l',s',a1,a2,a3,a4,a5⟩:=w3 rfl;simp at a4;subst a4;simp only[Vg,V4,Vo,Option.bind,a5];exact⟨d,ds,l',_,m,es,rfl,rfl,a1,a2,a3,ih⟩
  |ro l=>
   obtain⟨m,es,l',s',a1,a2,a3,a4,a5⟩:=w3 rfl;simp at a4;subst a4;simp only[Vg,V4,Vo,Option.bind,a5];exact⟨d,ds,l',_,m,es,rfl,rfl,a1,a2,a3,ih⟩
def CA{fn:Fn}{sl:List Sl}{ds:List D}{B:Nat->Prop}{h:Hh}{S:Nat->Prop}(F0:aU B B h S (sl.map some) (ds.map some))(hlen:sl.length=ds.length):aU B B h S (cZ fn sl) (Ev.cZ fn ds):=by
 unfold cZ Ev.cZ;have sp:∀(i:Nat) o,(sl.map some++List.replicate (fn.ns - fn.np) none)[i]?=some o->(sl.map some)[i]?=some o\/(sl.length<=i/\o=none):=λi o y=>by
  by_cases hi:i<sl.length
  .rw[wW (by simpa using hi)]at y;exact .inl y
  .rw[VX (by simpa using hi)]at y;have:=Vr y;exact .inr ⟨by omega,(List.mem_replicate.mp this).2⟩
 have lo:∀(i:Nat) p,i<sl.length->(ds.map some++List.replicate (fn.ns - fn.np) none)[i]?=some p->(ds.map some)[i]?=some p:=λi p hi y=>by
  rw[wW (by simpa[<-hlen]using hi)]at y;exact y
 refine⟨F0.wS,F0.wM,F0.wB,by simp[hlen],λi o p y1 y2=>?_,λi j o o' m y1 y2 y3 y4 y5 y6=>?_⟩
 .rcases sp i o y1 with y1|⟨hi,rfl⟩
  .have hi:i<sl.length:=by have:=(List.getElem?_eq_some_iff.mp y1).1;simpa using this
   exact F0.sl i o p y1 (lo i p hi y2)
  .rw[VX (by simpa[<-hlen]using hi)]at y2;have:=Vr y2;exact(List.mem_replicate.mp this).2
 .rcases sp i o y1 with y1|⟨hi,rfl⟩
  .rcases sp j o' y2 with y2|⟨hj,rfl⟩
   .have hi:i<sl.length:=by have:=(List.getElem?_eq_some_iff.mp y1).1;simpa using this
    have hj:j<sl.length:=by have:=(List.getElem?_eq_some_iff.mp y2).1;simpa using this
    exact F0.inj i j o o' m y1 y2 y3 y4 (lo i _ hi y5) (lo j _ hj y6)
   .cases y4
  .cases y3
def Je{F:List Fn}(hF:F.length<=Ev.xo)(w n:Nat):wC (Ev.run F w n):=λf ds h d h' e=>by
 cases n with
 |zero=>cases e
 |succ n=>
  rw[Ev.fP,VH (by omega)]at e;simp only[Ev.lZ]at e;rw[b8 (by omega),WV]at e;split at e
  .rename_i z;exact Ev.pR F w _ _ _ _ _ z
  .cases e
def My{X:bS}{X':Ev.bS}(HX:qU X X'){f:Nat}{sl:List Sl}{v:V}{os:List (List V)}(e:lZ X f sl=some (v,os)){h:Hh}{S B:Nat->Prop}{ds:List D}(F0:aU B B h S (sl.map some) (ds.map some)) :
  ∃d h' S',Ev.lZ X' f ds h=.ok d h'/\Rep h' S' v d/\Tk B h S h' S'/\kE h' S' sl ds os:=by
 unfold lZ at e;split at e
 case isFalse=>cases e
 rename_i hk;rw[cz]at e;obtain⟨c,e1,e2⟩:=e;cases e2;obtain⟨h',e3,k⟩:=HX _ _ _ e1 h S B ds F0;refine⟨.int c,h',S,by simp only[Ev.lZ];rw[b8 hk.1,e3],by simp[Rep],⟨k.len,k.keep,λ_ q=>q,λ_ q=>.inl q⟩,?_⟩;have hlen:sl.length=ds.length:=by have:=F0.len;simpa using this
 have:∀{sl:List Sl} {ds:List D},sl.length=ds.length->sl.all Sl.fG=true->kE h' S sl ds []:=λ{sl}=>by
  induction sl with
  |nil=>intro ds _ _;rfl
  |cons s sl ih=>
   intro ds hl ha;cases ds with
   |nil=>simp at hl
   |cons d ds=>
    simp only[List.all_cons,gQ]at ha;cases s with
    |val v=>exact⟨d,ds,rfl,ih (by simpa using hl) ha.2⟩
    |_=>cases ha.1
 exact this hlen hk.2
theorem zd{F:List Fn}(hF:F.length<=Ev.xo)(w:Nat):∀n,oS (run F w n) (Ev.run F w n)/\qU (bH F w n) (Ev.bH F w n)
 |0=>⟨λf sl v os e=>(nomatch e),λf sl c e=>(nomatch e)⟩
 |n+1=>by
  obtain⟨HP,HX⟩:=zd hF w n;have HE:=Je hF w n;have hx:qU (bH F w (n+1)) (Ev.bH F w (n+1)):=λf sl c e h S B ds F0=>by
   rw[iA]at e;rw[Ev.iA];cases z:F[f]? with
   |none=>rw[z]at e;cases e
   |some fn=>
    rw[z]at e;simp only at e ⊢;split at e
    case isFalse=>cases e
    rename_i hl;have hlen:sl.length=ds.length:=by have:=F0.len;simpa using this
    rw[b8 (by omega)];exact kZ HP HE HX (Ev.pR F w n) fn.body e (CA F0 hlen)
  refine⟨λf sl v os e h S B ds F0=>?_,hx⟩;rw[fP]at e;cases z:F[f]? with
  |none=>
   rw[z]at e;rw[Ev.fP,z];exact My hx e F0
  |some fn=>
  rw[z]at e;simp only at e;split at e
  case isFalse=>cases e
  rename_i hl;have hlen:sl.length=ds.length:=by have:=F0.len;simpa using this
  have f1:aU B B h S (cZ fn sl) (Ev.cZ fn ds):=CA F0 hlen;have fin:∀{g:Fl} {af:Fr},exs (run F w n) w fn.body (cZ fn sl)=.ok g af->∃g' aZ M' h' S',Ev.exs (Ev.run F w n) w fn.body (Ev.cZ fn ds) h=.ok (g',aZ) h'/\fh h' S' g g'/\Tk B h S h' S'/\kE h' S' sl ds (outs fn.np af):=λ{g af} y=>by
   obtain⟨g',aZ,M',h',S',c1,c2,c3⟩:=iD HP HE fn.body y f1;refine⟨g',aZ,M',h',S',c1,c2,⟨c3.tr.len,λm y1 y2=>c3.tr.keep m y1 y2,c3.tr.sub,λm q=>?_⟩,?_⟩
   .rcases c3.tr.new m q with q|q|q
    .exact .inl q
    .exact .inr q
    .exact absurd q.1 q.2
   .unfold outs;rw[<-hl];refine sC (B:=B) (h0:=h) (S0:=S) hlen λa s d e1 e2=>?_;have ha:a<sl.length:=(List.getElem?_eq_some_iff.mp e1).1;have h0:(cZ fn sl)[a]?=some (some s):=by unfold cZ;rw[wW (by simpa using ha)];simp[e1]
    have hlk:locked af a=yV (some s):=by rw[c3.lk a];unfold locked;rw[h0]
    refine⟨F0.sl a _ _ (by simp[e1]) (by simp[e2]),hlk,λhk=>?_⟩;have hr:=c3.rf a (by unfold locked;rw[h0];exact hk);have hd:(Ev.cZ fn ds)[a]?=some (some d):=by unfold Ev.cZ;rw[wW (by simpa[<-hlen]using ha)];simp[e2]
    rw[hd]at hr;cases y2:af[a]? with
    |none=>unfold locked at hlk;rw[y2]at hlk;rw[<-hlk]at hk;cases hk
    |some o=>
     have sr:=c3.f.sl a _ _ y2 hr;unfold locked at hlk;rw[y2,hk]at hlk;rcases o with _|s'
     .cases hlk
     .cases s' with
      |val v=>cases hlk
      |own l=>cases hlk
      |bor l=>obtain⟨m,es,e,_,k1,k2⟩:=sr;cases e;exact⟨m,es,l,_,rfl,k1,k2,rfl,rfl⟩
      |ro l=>obtain⟨m,es,e,_,k1,k2⟩:=sr;cases e;exact⟨m,es,l,_,rfl,k1,k2,rfl,rfl⟩
  simp only[Ev.fP,z];have hl':ds.length=fn.np:=by omega
  rw[b8 hl'];split at e
  .rename_i v' af y;cases e;obtain⟨g',aZ,M',h',S',c1,c2,c3,c4⟩:=fin y;simp only[fh]at c2;obtain⟨d,rfl,c2⟩:=c2;exact⟨d,h',S',by simp only[Ev.endOf,c1,Ev.aj],c2,c3,c4⟩
  .rename_i af y;cases e;obtain⟨g',aZ,M',h',S',c1,c2,c3,c4⟩:=fin y;simp only[fh]at c2;subst c2;exact⟨.bf,h',S',by simp only[Ev.endOf,c1,Ev.aj],rfl,c3,c4⟩
  .cases e
end Pv
namespace Pv
open Ev (D O Hh Fn)
def Jf{F:List Fn}{w n f:Nat}{ns:List Int}(e:run F w n f [.val (.bE (ns.map V.int))]=some (.bl true,[]))(hF:F.length<=1000:=by decide):∃h',Ev.run F w n f [.ref 0] [.bE (ns.map D.int)]=.ok (.bl true) h':=by
 have F0:aU (λ_=>False) (λ_=>False) [O.bE (ns.map D.int)] (λm=>m=0) ([Sl.val (.bE (ns.map V.int))].map some) ([D.ref 0].map some):=by
  refine⟨λm q=>⟨by subst q;simp,id,id⟩,λm q=>q.elim,λm q=>q.elim,rfl,λi o p y1 y2=>?_,λi j o o' m y1 y2 y3 y4 y5 y6=>?_⟩
  .cases i with
   |zero=>
    simp at y1 y2;subst y1 y2;refine⟨.ref 0,rfl,?_⟩;simp only[Rep];exact⟨0,_,rfl,rfl,rfl,aq.map (f:=V.int) (g:=D.int) (λ_=>by simp[Rep]) ns⟩
   |succ i=>simp at y1
  .cases i with
   |zero=>simp at y1;subst y1;cases y3
   |succ i=>simp at y1
 obtain⟨d,h',S',a,b,_,_⟩:=(zd hF w n).1 f _ _ _ e _ _ _ _ F0;simp only[Rep]at b;subst b;exact⟨h',a⟩
end Pv
namespace Pv
open Ev (D aQ aK TY BI ME T E Es Eo It S Ss Fn big deep b2i rep bG cK bg aI cut aP bZ slots)
def aT{n:Nat}(h:n<=100000):n<=big:=Uc h (by decide)
section
variable{i j:Int}{a b:List Nat}{x y:List V}{d e:V}{m n:Nat}{l:Bool}
def bF(h:x.length<=big):fF x=some (.lst x):=by simp[fF,h]
def qV(h:x.length<=big):g8 x=some (.tup x):=by simp[g8,h]
@[simp] theorem qW:fF []=some (.lst []):=bF (aT (by simp))
@[simp] theorem Az:g8 []=some (.tup []):=qV (aT (by simp))
@[simp] theorem GG{a}:fF [a]=some (.lst [a]):=bF (aT (by simp))
@[simp] theorem OP{a}:g8 [a]=some (.tup [a]):=qV (aT (by simp))
@[simp] theorem OQ{a b}:fF [a,b]=some (.lst [a,b]):=bF (aT (by simp))
@[simp] theorem gk{a b}:g8 [a,b]=some (.tup [a,b]):=qV (aT (by simp))
@[simp] theorem AA{a b c}:fF [a,b,c]=some (.lst [a,b,c]):=bF (aT (by simp))
@[simp] theorem OR{a b c}:g8 [a,b,c]=some (.tup [a,b,c]):=qV (aT (by simp))
@[simp] theorem bz:bY .add (.int i) (.int j)=some (.int (i+j)):=nd rfl
def bI(h:a.length+b.length<=100000):bY .add (.str a) (.str b)=some (.str (a++b)):=by delta bY;dsimp only;simp[aT h]
def En(h:x.length+y.length<=100000):bY .add (.lst x) (.lst y)=some (.lst (x++y)):=by delta bY;dsimp only;simp[bF (aT (show(x++y).length<=100000 by simpa using h))]
@[simp] theorem Ep:bY .sub (.int i) (.int j)=some (.int (i - j)):=nd rfl
@[simp] theorem Er:bY .mul (.int i) (.int j)=if bG i j then some (.int (i*j))else none:=nd rfl
@[simp] theorem Et:bY .fdiv (.int i) (.int j)=if 0<j/\j<1073741824 then some (.int (i / j))else none:=nd rfl
@[simp] theorem Jg:bY .mod (.int i) (.int j)=if 0<j then some (.int (i % j))else none:=nd rfl
@[simp] theorem wG:cop .ne d e=(dR deep d e).map (!·):=nd rfl
@[simp] theorem uq:cop .di d e=(isin d e).map (!·):=nd rfl
@[simp] theorem Eu:isin d (.tup x)=mem d x:=nd rfl
@[simp] theorem Ew:isin d (.lst x)=mem d x:=nd rfl
@[simp] theorem wH{c:Nat}:isin (.str [c]) (.str b)=some (b.contains c):=nd rfl
@[simp] theorem mem_cons:mem d (e :: x)=(dR deep e d).bind λb=>(mem d x).bind λc=>some (b ||c):=nd rfl
@[simp] theorem Mz:dR (n+1) (.int i) (.int j)=some (decide (i=j)):=by show some (i==j)=_;by_cases h:i=j<;>simp[h]
@[simp] theorem MA:dR (n+1) (.str a) (.str b)=some (decide (a=b)):=by show some (a==b)=_;by_cases h:a=b<;>simp[h]
@[simp] theorem T4:dR (n+1) (.str a) (.int i)=some false:=nd rfl
@[simp] theorem T5:dR (n+1) (.int i) (.str a)=some false:=nd rfl
@[simp] theorem CB:dR (n+1) (.tup x) (.tup y)=b5 (dR n) x y:=nd rfl
@[simp] theorem ze:dR deep (.int i) (.int j)=some (decide (i=j)):=Mz
@[simp] theorem sD:dR deep (.str a) (.str b)=some (decide (a=b)):=MA
@[simp] theorem zf:dR deep (.lst x) (.lst y)=b5 (dR (18+1)) x y:=nd rfl
@[simp] theorem Sy{f:V->V->Option Bool}:b5 f [] []=some true:=nd rfl
@[simp] theorem T6{f:V->V->Option Bool}:b5 f [] (d :: x)=some false:=nd rfl
@[simp] theorem T7{f:V->V->Option Bool}:b5 f (d :: x) []=some false:=nd rfl
@[simp] theorem RH{f:V->V->Option Bool}:b5 f (d :: x) (e :: y)=(f d e).bind λb=>(b5 f x y).bind λc=>some (b&&c):=nd rfl
theorem oV{α:Type}[DecidableEq α]{f:V->V->Option Bool}{g:α->V}(h:∀a b,f (g a) (g b)=some (decide (a=b))):∀l m:List α,b5 f (l.map g) (m.map g)=some (decide (l=m))
 |[],[]=>by simp
 |[],_ :: _=>by simp
 |_ :: _,[]=>by simp
 |a :: l,b :: m=>by simp[h,oV h l m]
@[simp] theorem Jh:gz (.str a) (.int i)=(bg a i).map λc=>.str [c]:=nd rfl
@[simp] theorem Ji:gz (.lst x) (.int i)=bg x i:=nd rfl
@[simp] theorem lg{lo hi:Option Int}:iJ (.str a) lo hi=some (.str (cut a lo hi)):=nd rfl
def len_str(h:a.length<=100000):dM .len [.str a]=some (.int a.length):=by delta dM;dsimp only;simp[aT h]
@[simp] theorem sE:dM .len [.tup x]=some (.int x.length):=nd rfl
@[simp] theorem zg:dM .len [.bE x]=some (.int x.length):=nd rfl
@[simp] theorem Jj:dM .all [.lst x]=(boolsOf x).map λbs=>.bl (bs.all id):=nd rfl
def RI(h0:0<=j)(h1:j<=100000):dP [.int j]=some (range 0 j.toNat):=by
 simp only[dP];rw[b8 ⟨by omega,by omega⟩]
def RJ(h0:-100000<=i)(h1:i<=100000)(h2:-100000<=j)(h3:j<=100000):dP [.int i,.int j]=some (range i (j - i).toNat):=by
 simp only[dP];rw[b8 ⟨by omega,by omega,by omega,by omega⟩]
def xF{α:Type}(g:α->Bool)(l:List α):boolsOf (l.map λx=>.bl (g x))=some (l.map g):=by induction l<;>simp[boolsOf, *]
def lQ{α:Type}(g:α->List Nat)(l:List α):strsOf (l.map λx=>.str (g x))=some (l.map g):=by induction l<;>simp[strsOf, *]
theorem ur:∀l:List (List Nat),aP [] l=l.flatten
 |[]=>rfl
 |[s]=>by simp[aP]
 |s :: t :: r=>by simp[aP,ur (t :: r)]
def uL{l:List (List Nat)}(h:l.flatten.length<=100000):cI .join (.str []) [.lst (l.map V.str)]=some (.str l.flatten):=by
 have hs:=lQ (λx=>x) l;have:(l.map (·.length)).sum<=big:=aT (by rw[<-List.length_flatten];exact h);simp only[List.map_id']at hs;have hs':strsOf (l.map V.str)=some l:=by simpa using lQ (λx=>x) l
 delta cI;dsimp only;simp[pD,hs',ur,this]
end
def eB{α:Type}{f:V->Option (Option V)}(e:α->V)(g:α->V)(l:List α)(h:∀a∈l,f (e a)=some (some (g a))):bu f (l.map e)=some (l.map g):=by
 induction l with
 |nil=>rfl
 |cons a l ih=>simp only[wX,bu,h a (by simp),ih λu hu=>h u (by simp[hu]),Option.bind];rfl
noncomputable def Wp{α:Type}(r:R α)(Q:α->Fr->Prop):Prop:=∃a h,r=.ok a h/\Q a h
section
variable{α β:Type}{Q Q':α->Fr->Prop}
@[simp] theorem AB(a:α)(h:Fr):Wp (.ok a h) Q=Q a h:=propext ⟨λ⟨_,_,e,q⟩=>by cases e;exact q,λq=>⟨_,_,rfl,q⟩⟩
@[simp] theorem T8:Wp (.bad:R α) Q=False:=propext ⟨λq=>(by obtain⟨_,_,e,_⟩:=q;cases e),False.elim⟩
@[simp] theorem wp_bind(r:R β)(f:β->Fr->R α):Wp (r.bind f) Q=Wp r λa h=>Wp (f a h) Q:=by cases r<;>simp
def Wp.mono{r:R α}(h:Wp r Q)(f:∀a h,Q a h->Q' a h):Wp r Q':=by
 obtain⟨a,h',e,q⟩:=h;exact⟨a,h',e,f a h' q⟩
end
noncomputable def fl(I Q:Fr->Prop)(X:V->Fr->Prop):Fl->Fr->Prop
 |.nx,fr=>I fr
 |.ct,fr=>I fr
 |.bk,fr=>Q fr
 |.ret v,fr=>X v fr
section
variable{I J:Fr->Prop}{X:V->Fr->Prop}{fr:Fr}
@[simp] theorem AD:fl I J X .nx fr=I fr:=nd rfl
end
theorem lq{α:Type}{e:α->V}{f:V->Fr->R Fl}{Q:Fl->Fr->Prop}(I:List α->List α->Fr->Prop)(turn:∀p a l fr,I p (a :: l) fr->Wp (f (e a) fr) (fl (I (p++[a]) l) (Q .nx) λv=>Q (.ret v)))(fin:∀p fr,I p [] fr->Q .nx fr):∀(l p:List α) (fr:Fr),I p l fr->Wp (forL f (l.map e) fr) Q
 |[],p,fr,i=>by simp only[Wj,forL,AB];exact fin p fr i
 |a :: l,p,fr,i=>by
  simp only[wX,forL,wp_bind];refine(turn p a l fr i).mono λg h2 q=>?_;cases g with
  |nx=>exact lq I turn fin l _ h2 q
  |ct=>exact lq I turn fin l _ h2 q
  |bk=>exact(AB _ _).mpr q
  |ret x=>exact(AB _ _).mpr q
noncomputable def fin(fn:Fn)(ds:List Sl):R Fl->Option (V×List (List V))
 |.ok (.ret v) fr=>some (v,outs fn.np fr)
 |.ok .nx fr=>some (.bf,outs fn.np fr)
 |_=>Cj fn ds
def run_eq{F:List Fn}{w n f:Nat}{ds:List Sl}{fn:Fn}(hf:F[f]?=some fn)(hl:ds.length=fn.np):run F w (n+1) f ds=fin fn ds (exs (run F w n) w fn.body (cZ fn ds)):=by
 simp only[fP,hf,hl,Vj];cases exs (run F w n) w fn.body (cZ fn ds)with
 |bad=>rfl
 |ok g fr=>cases g<;>rfl
def bW{F:List Fn}{w n f:Nat}{ds:List Sl}{fn:Fn}{v:V}{os:List (List V)}(hf:F[f]?=some fn)(hl:ds.length=fn.np)(q:Wp (exs (run F w n) w fn.body (cZ fn ds)) λg fr=>g=.ret v/\outs fn.np fr=os):run F w (n+1) f ds=some (v,os):=by
 rw[run_eq hf hl];obtain⟨g,fr,e,rfl,rfl⟩:=q;rw[e];rfl
section
variable{P:aB}{w:Nat}{fr:Fr}{k:Bool}{a b c:E}{es:Es}{ss sa sb:Ss}{st:S}{lo hi:Eo}{it:It}
@[simp] theorem RK{d:D}:ev P k (.c d) fr=R.of (ofD d) fr:=by rw[ev]
@[simp] theorem RL{i:Nat}:ev P k (.v i) fr=R.of (nC k fr i) fr:=by rw[ev]
@[simp] theorem MB:ev P k (.tup es) fr=(bJ P false es fr).bind λds af=>R.of (g8 ds) af:=by rw[ev]
@[simp] theorem MC:ev P k (.lst es) fr=(bJ P false es fr).bind λds af=>R.of (fF ds) af:=by rw[ev]
@[simp] theorem MD{o:aQ}:ev P k (.bin o a b) fr=(ev P (kf a (bh b)) a fr).bind λx af=>(ev P true b af).bind λy ak=>R.of (bY o x y) ak:=by rw[ev]
@[simp] theorem MF{o:aK}:ev P k (.cmp o a b) fr=(ev P (kf a (bh b)) a fr).bind λx af=>(ev P true b af).bind λy ak=>R.of ((cop o x y).map .bl) ak:=by rw[ev]
@[simp] theorem OS{o p:aK}:ev P k (.ch o p a b c) fr=(ev P (kf a (bh b)) a fr).bind λx af=>(ev P (kf b (bh c)) b af).bind λy ak=>(R.of (cop o x y) ak).bind λk bw=>
   if k then (ev P true c bw).bind λz fV=>R.of ((cop p y z).map .bl) fV else .ok (.bl false) bw:=by rw[ev]
noncomputable def T9:V->Fr->R V:=λx h1=>match x with
 |.bl b=>.ok (.bl (!b)) h1
 |_=>.bad
@[simp] theorem OT:ev P k (.nt a) fr=(ev P true a fr).bind T9:=by rw[ev];rfl
noncomputable def RM:V->Fr->R V:=λx h1=>match x with
 |.int i=>.ok (.int (-i)) h1
 |_=>.bad
@[simp] theorem MG:ev P k (.neg a) fr=(ev P true a fr).bind RM:=by rw[ev];rfl
noncomputable def Qo(r:Fr->R V):V->Fr->R V:=λx h1=>match x with
 |.bl true=>r h1
 |.bl false=>.ok (.bl false) h1
 |_=>.bad
@[simp] theorem CC{k:Bool}{r:Fr->R V}:Qo r (.bl k) fr=if k then r fr else .ok (.bl false) fr:=by cases k<;>rfl
@[simp] theorem GH:ev P k (.an a b) fr=(ev P true a fr).bind (Qo λh1=>ev P k b h1):=by rw[ev];rfl
@[simp] theorem OU:ev P k (.ix a b) fr=(ev P (kf a (bh b)) a fr).bind λx af=>(ev P true b af).bind λy ak=>R.of (gz x y) ak:=by rw[ev]
@[simp] theorem OV:ev P k (.sl a lo hi) fr=(ev P (kf a (kD lo++kD hi)) a fr).bind λx af=>(fN P lo af).bind λl ak=>(fN P hi ak).bind λu bw=>R.of (iJ x l u) bw:=by rw[ev]
@[simp] theorem OW{f:Nat}:ev P k (.cl f es) fr=(dS P es fr).bind λas af=>dI P f as af:=by rw[ev]
@[simp] theorem OX{g:BI}:ev P k (.bi g es) fr=(bJ P true es fr).bind λds af=>R.of (dM g ds) af:=by rw[ev]
noncomputable def Ey(m:ME)(i:Nat):List V->Fr->R V:=λds af=>match af[i]? with
 |some (some (.own l))=>match nB m l ds with
  |some (v,l')=>.ok v (af.set i (some (.own l')))
  |none=>.bad
 |some (some (.bor l))=>match nB m l ds with
  |some (v,l')=>.ok v (af.set i (some (.bor l')))
  |none=>.bad
 |_=>.bad
def MH{m:ME}{i:Nat}(hm:iB m=true):ev P k (.me m (.v i) es) fr=if (lent fr i).isSome then (bJ P (yP m) es fr).bind (Ey m i)else .bad:=by
 rw[ev,b8 hm];unfold fG;cases z:(lent fr i).isSome<;>simp[z]<;>rfl
def MI{m:ME}(hm:iB m=false):ev P k (.me m a es) fr=(ev P (kf a (eF es)) a fr).bind λx af=>(bJ P true es af).bind λds ak=>R.of (cI m x ds) ak:=by rw[ev,hm];rfl
@[simp] theorem MJ{ts:List TY}:ev P k (.dY a ts) fr=(ev P true a fr).bind λx af=>.ok (.bl (ts.any (cF x))) af:=by rw[ev]
noncomputable def cQ(P:aB)(elt:E)(t:T)(cond:Eo)(fr:Fr):V->Option (Option V):=λd=>match aY t d (j6 fr)with
 |none=>none
 |some ak=>match fO P cond ak with
  |.ok c _=>if c then (match ev P false elt ak with|.ok x _=>some (some x)|.bad=>none)else some none
  |.bad=>none
@[simp] theorem rW{elt:E}{t:T}{cond:Eo}:ev P k (.comp elt t it cond) fr=(bQ P true it fr).bind λs af=>if undef t af then R.of ((bu (cQ P elt t cond af) s).bind fF) af else .bad:=by rw[ev];rfl
@[simp] theorem MK:ev P k (.gq it) fr=(bQ P true it fr).bind λs af=>R.of (fF s) af:=by rw[ev]
@[simp] theorem Jk{kvs:List (D×D)}:ev P k (.eS kvs a) fr=(ev P true a fr).bind λx af=>R.of (eL x kvs) af:=by rw[ev]
@[simp] theorem ML:ev P k (.fc a) fr=(ev P true a fr).bind λx af=>R.of (toT x) af:=by rw[ev]
@[simp] theorem Jl:bJ P k .nil fr=.ok [] fr:=by rw[bJ]
@[simp] theorem Ez:bJ P k (.cons a es) fr=(ev P (k&&kf a (eF es)) a fr).bind λd af=>(bJ P k es af).bind λds ak=>.ok (d :: ds) ak:=by rw[bJ]
@[simp] theorem Jm:dS P .nil fr=.ok [] fr:=by rw[dS]
noncomputable def AE(P:aB)(a:E)(es:Es)(fr:Fr):Option Nat->R (List (Nat ⊕ V))
 |some i=>(dS P es fr).bind λr af=>.ok (.inl i :: r) af
 |none=>(ev P false a fr).bind λd af=>(dS P es af).bind λr ak=>.ok (.inr d :: r) ak
@[simp] theorem AF{i:Nat}:AE P a es fr (some i)=(dS P es fr).bind λr af=>.ok (.inl i :: r) af:=nd rfl
@[simp] theorem AG:AE P a es fr none=(ev P false a fr).bind λd af=>(dS P es af).bind λr ak=>.ok (.inr d :: r) ak:=nd rfl
@[simp] theorem wI:dS P (.cons a es) fr=AE P a es fr (fG fr a):=by rw[dS];cases fG fr a<;>rfl
@[simp] theorem MM:fN P .no fr=.ok none fr:=by rw[fN]
@[simp] theorem Jo:fN P (.yes a) fr=(ev P true a fr).bind λd af=>R.of ((intOf d).map some) af:=by rw[fN]
@[simp] theorem wJ:fO P .no fr=.ok true fr:=by rw[fO]
@[simp] theorem zh:aG P (.orr a b) fr=(aG P a fr).bind λk af=>if k then .ok true af else aG P b af:=by rw[aG]
@[simp] theorem MN:aG P (.nt a) fr=(aG P a fr).bind λk af=>.ok (!k) af:=by rw[aG]
noncomputable def MO:V->Fr->R Bool:=λx af=>.ok (truthy x) af
@[simp] theorem Jp{x:V}:MO x fr=.ok (truthy x) fr:=nd rfl
@[simp] theorem zj:bQ P k (.seq a) fr=(src k fr a (ev P k a fr)).bind λx af=>R.of (gj x) af:=by rw[bQ]
@[simp] theorem Jq:bQ P k (.eW es) fr=(bJ P true es fr).bind λds af=>R.of (dP ds) af:=by rw[bQ]
@[simp] theorem Jr:bQ P k (.ju a b) fr=(ev P (kf a (bh b)) a fr).bind λx af=>(ev P true b af).bind λy ak=>R.of (qc x y) ak:=by rw[bQ]
noncomputable def MP(i:Nat)(af:Fr):V->R Fl
 |.lst l=>(R.of (put af i (.own l)) af).bind λak _=>.ok .nx ak
 |_=>.bad
@[simp] theorem EA{i:Nat}{l:List V}:MP i fr (.lst l)=(R.of (put fr i (.own l)) fr).bind λak _=>.ok .nx ak:=nd rfl
@[simp] theorem CD{i:Nat}:ex P w (.set i a) fr=(ev P false a fr).bind λx af=>if isNew a then MP i af x else (R.of (put af i (.val x)) af).bind λak _=>.ok .nx ak:=by
 rw[ex];rfl
@[simp] theorem MQ:ex P w (.exp a) fr=(ev P true a fr).bind λ_ af=>.ok .nx af:=by rw[ex]
@[simp] theorem MR:ex P w (.ret a) fr=(ev P false a (jw fr)).bind λx af=>.ok (.ret x) af:=by rw[ex]
@[simp] theorem MS:ex P w (.iff a sa sb) fr=(aG P a fr).bind λk af=>if k then exs P w sa af else exs P w sb af:=by rw[ex]
noncomputable def turnF(P:aB)(w:Nat)(t:T)(b:Ss):V->Fr->R Fl:=λd ak=>match aY t d ak with
 |some bw=>exs P w b bw
 |none=>.bad
@[simp] theorem vp{t:T}:ex P w (.for t it ss) fr=(bQ P false it (qL (itv it) fr)).bind λs af=>forL (turnF P w t ss) s af:=by rw[ex];rfl
@[simp] theorem Js:exs P w .nil fr=.ok .nx fr:=by rw[exs]
noncomputable def OY(P:aB)(w:Nat)(ss:Ss):Fl->Fr->R Fl:=λp h1=>match p with
 |.nx=>exs P w ss h1
 |p=>.ok p h1
@[simp] theorem EB:exs P w (.cons st ss) fr=(ex P w st fr).bind (OY P w ss):=by rw[exs];rfl
end
def ja{P:aB}{f:Nat}{vs:List V}{fr:Fr}{v:V}(h:P f (vs.map .val)=some (v,[])):dI P f (vs.map .inr) fr=.ok v fr:=by
 have h1:∀vs:List V,bB (vs.map .inr)=[]:=λvs=>by induction vs<;>simp[bB, *]
 have h2:∀vs:List V,args fr (vs.map .inr)=some (vs.map .val):=λvs=>by induction vs<;>simp[args, *]
 simp[dI,h1,h2,h,back]
section
variable{P:aB}{f:Nat}{fr:Fr}{a b c v:V}
def cg(h:P f [.val a]=some (v,[])):dI P f [.inr a] fr=.ok v fr:=ja (vs:=[a]) h
def call2(h:P f [.val a,.val b]=some (v,[])):dI P f [.inr a,.inr b] fr=.ok v fr:=ja (vs:=[a,b]) h
def OZ(h:P f [.val a,.val b,.val c]=some (v,[])):dI P f [.inr a,.inr b,.inr c] fr=.ok v fr:=ja (vs:=[a,b,c]) h
end
section
variable{fr:Fr}{i:Nat}{k:Bool}{s:Sl}{v:V}{l:List V}
noncomputable def Ux(k:Bool):Option (Option Sl)->Option V
 |some (some (.val v))=>some v
 |some (some (.own l))=>if k then some (.lst l)else none
 |some (some (.bor l))=>if k then some (.lst l)else none
 |some (some (.ro l))=>if k then some (.lst l)else none
 |_=>none
@[simp] theorem O0{r:R V}:src k fr (.v i) r=R.of (Av k fr i) fr:=nd rfl
noncomputable def MT:Option (Option Sl)->Option Sl
 |some (some s)=>s.lend
 |_=>none
@[simp] theorem Jt:lent fr i=MT fr[i]?:=by unfold lent MT;split<;>simp_all
@[simp] theorem Sz:MT (some (some (.own l)))=some (.bor l):=nd rfl
noncomputable def MU(fr:Fr)(i:Nat)(s:Sl):Option (Option Sl)->Option Fr
 |some (some (.bor _))=>none
 |some (some (.ro _))=>none
 |_=>some (fr.set i (some s))
@[simp] theorem MV:put fr i s=MU fr i s fr[i]?:=by unfold put MU;split<;>simp_all
noncomputable def wK(m:ME)(i:Nat)(ds:List V)(fr:Fr):Option (Option Sl)->R V
 |some (some (.own l))=>match nB m l ds with
  |some (v,l')=>.ok v (fr.set i (some (.own l')))
  |none=>.bad
 |some (some (.bor l))=>match nB m l ds with
  |some (v,l')=>.ok v (fr.set i (some (.bor l')))
  |none=>.bad
 |_=>.bad
@[simp] theorem Ju{m:ME}{ds:List V}:Ey m i ds fr=wK m i ds fr fr[i]?:=by unfold Ey wK;split<;>simp_all<;>rfl
def Jv{d:V}(h:l.length<100000):wK .append i [d] fr (some (some (.own l)))=.ok .bf (fr.set i (some (.own (l++[d])))):=by
 simp[wK,nB,eE h (show 100000<=big by decide)]
def zk:wK .pop i [] fr (some (some (.own (l++[v]))))=.ok v (fr.set i (some (.own l))):=by
 simp[wK,nB]
end
noncomputable def vo(o:Option Sl):Prop:=o=none\/∃y,o=some (.val y)
theorem vo.none:vo none:=.inl rfl
theorem vo.val{v:V}:vo (some (.val v)):=.inr ⟨v,rfl⟩
def MW{fr:Fr}{i:Nat}{s:Sl}{b:Option Sl}(h:vo b):MU fr i s (some b)=some (fr.set i (some s)):=by rcases h with rfl|⟨y,rfl⟩<;>rfl
def fJ{b:Option Sl}(h:vo b):b.map Sl.gU=b:=by rcases h with rfl|⟨y,rfl⟩<;>rfl
noncomputable def O1(f:V->Fr->R Fl)(ds:List V):Fl->Fr->R Fl:=λp af=>match p with
 |.nx=>forL f ds af
 |.ct=>forL f ds af
 |.bk=>.ok .nx af
 |.ret x=>.ok (.ret x) af
section
variable{f:V->Fr->R Fl}{ds:List V}{d:V}{fr:Fr}
@[simp] theorem tU:forL f (d :: ds) fr=(f d fr).bind (O1 f ds):=nd rfl
end
section
variable{a:E}
@[simp] theorem Ua:kf a []=true:=by cases a<;>simp[kf]
@[simp] theorem RN:eF .nil=[]:=by rw[eF]
end
def CF{α:Type}{l:List α}{i:Int}(h0:0<=i):bg l i=l[i.toNat]?:=by
 unfold bg cK;rw[b8 h0];split
 .rfl
 .rw[VH (by omega)];rfl
@[simp] theorem rM{α:Type}{l:List α}{n:Nat}:bg l (n:Int)=l[n]?:=by rw[CF (by omega)];simp
noncomputable def uM:Fn:=⟨2,2,(.cons (.iff (.cmp .eq (.v 0) (.lst .nil)) (.cons (.ret (.bin .mul (.c (.int 7)) (.v 1))) .nil) .nil) (.cons (.ret (.bin .add (.ix (.v 0) (.bin .mod (.v 1) (.bi .len (.cons (.v 0) .nil)))) (.bin .mul (.c (.int 6553)) (.bin .fdiv (.v 1) (.bi .len (.cons (.v 0) .nil)))))) .nil))⟩
noncomputable def wL(c:Nat):Fn:=⟨3,4,(.cons (.set 3 (.bin .mod (.bin .add (.bin .mul (.bin .mod (.cl c (.cons (.v 0) (.cons (.v 1) .nil))) (.c (.int 2147483563))) (.c (.int 69069))) (.bin .mul (.c (.int 104723)) (.bin .add (.v 1) (.c (.int 1))))) (.c (.int 2147483563)))) (.cons (.set 3 (.bin .mod (.bin .add (.bin .mul (.v 3) (.v 3)) (.bin .fdiv (.v 3) (.c (.int 3)))) (.c (.int 2147483399)))) (.cons (.ret (.bin .mod (.bin .fdiv (.bin .mod (.bin .add (.bin .mul (.v 3) (.v 3)) (.bin .fdiv (.v 3) (.c (.int 7)))) (.c (.int 2147483647))) (.c (.int 11))) (.v 2))) .nil)))⟩
noncomputable def uN(ns:List Int)(k:Int):Int:=if ns=[]then 7*k else (ns[(k % ns.length).toNat]?.getD 0)+6553*(k / ns.length)
noncomputable def CG(ns:List Int)(k many:Int):Int:=
 let c:=(uN ns k % 2147483563*69069+104723*(k+1)) % 2147483563
 let c:=(c*c+c / 3) % 2147483399
 (c*c+c / 7) % 2147483647 / 11 % many
def MX(ns:List Int)(k:Int){many:Int}(h:0<many):0<=CG ns k many:=WJ _ (by omega)
def MY(ns:List Int)(k:Int){many:Int}(h:0<many):CG ns k many<many:=Wk _ h
noncomputable def lu(ns:List Int):V:=.bE (ns.map V.int)
def Jw(ns:List Int):b5 (dR (18+1)) (ns.map V.int) []=some (decide (ns=[])):=by cases ns<;>simp
section
variable{P:aB}{w:Nat}{fr af ak bw:Fr}{k b:Bool}{a e c:E}{es:Es}{ss sa sb:Ss}{st:S}{lo hi:Eo}{it:It}{v x y z:V}{vs:List V}{i:Nat}{l:List V}{Q:Fl->Fr->Prop}
def av{d:D}(h:ofD d=some v):ev P k (.c d) fr=.ok v fr:=by rw[RK,h];rfl
def ay(h:nC k fr i=some v):ev P k (.v i) fr=.ok v fr:=by rw[RL,h];rfl
def fB(h:bJ P false es fr=.ok vs af)(h2:g8 vs=some v):ev P k (.tup es) fr=.ok v af:=by rw[MB,h,aj,h2];rfl
def gM(h:bJ P false es fr=.ok vs af)(h2:fF vs=some v):ev P k (.lst es) fr=.ok v af:=by rw[MC,h,aj,h2];rfl
def aH{o:aQ}(h:ev P (kf a (bh e)) a fr=.ok x af)(h2:ev P true e af=.ok y ak)(h3:bY o x y=some v):ev P k (.bin o a e) fr=.ok v ak:=by rw[MD,h,aj,h2,aj,h3];rfl
def br{o:aK}(h:ev P (kf a (bh e)) a fr=.ok x af)(h2:ev P true e af=.ok y ak)(h3:cop o x y=some b):ev P k (.cmp o a e) fr=.ok (.bl b) ak:=by rw[MF,h,aj,h2,aj,h3];rfl
def RP(h:ev P true a fr=.ok (.bl b) af):ev P k (.nt a) fr=.ok (.bl (!b)) af:=by rw[OT,h];rfl
def O2{j:Int}(h:ev P true a fr=.ok (.int j) af):ev P k (.neg a) fr=.ok (.int (-j)) af:=by rw[MG,h];rfl
def RQ(h:ev P true a fr=.ok (.bl b) af)(h2:b=true->ev P k e af=.ok v ak)(h3:b=false->.bl false=v/\af=ak):ev P k (.an a e) fr=.ok v ak:=by
 rw[GH,h,aj,CC];cases b with
 |true=>exact h2 rfl
 |false=>obtain⟨rfl,rfl⟩:=h3 rfl;rfl
def uO(h:ev P true a fr=.ok (.bl true) af)(h2:ev P k e af=.ok v ak):ev P k (.an a e) fr=.ok v ak:=by rw[GH,h,aj,CC];exact h2
def cW(h:ev P (kf a (bh e)) a fr=.ok x af)(h2:ev P true e af=.ok y ak)(h3:gz x y=some v):ev P k (.ix a e) fr=.ok v ak:=by rw[OU,h,aj,h2,aj,h3];rfl
def O3{kvs:List (List Nat×List Nat)}(h:kvs≠[]):ev P k (.jt kvs) fr=.ok (.dm kvs) fr:=by rw[ev,SA h]
def AH(h:ev P (kf a (bh e)) a fr=.ok x af)(h2:ev P true e af=.ok y ak)(h3:As x y=some v):ev P k (.jK a e) fr=.ok v ak:=by rw[ev,h,aj,h2,aj,h3];rfl
def gy{p q:Option Int}(h:ev P (kf a (kD lo++kD hi)) a fr=.ok x af)(h2:fN P lo af=.ok p ak)(h3:fN P hi ak=.ok q bw)(h4:iJ x p q=some v):ev P k (.sl a lo hi) fr=.ok v bw:=by rw[OV,h,aj,h2,aj,h3,aj,h4];rfl
def bN{f:Nat}{as:List (Nat ⊕ V)}(h:dS P es fr=.ok as af)(h2:dI P f as af=.ok v ak):ev P k (.cl f es) fr=.ok v ak:=by rw[OW,h,aj];exact h2
def fC{g:BI}(h:bJ P true es fr=.ok vs af)(h2:dM g vs=some v):ev P k (.bi g es) fr=.ok v af:=by rw[OX,h,aj,h2];rfl
def uP{m:ME}(hm:iB m=true)(hl:(lent fr i).isSome=true)(h:bJ P (yP m) es fr=.ok vs af)(h2:wK m i vs af af[i]?=.ok v ak):ev P k (.me m (.v i) es) fr=.ok v ak:=by
 rw[MH hm,b8 hl,h,aj,Ju];exact h2
def gO{m:ME}(hm:iB m=false)(h:ev P (kf a (eF es)) a fr=.ok x af)(h2:bJ P true es af=.ok vs ak)(h3:cI m x vs=some v):ev P k (.me m a es) fr=.ok v ak:=by rw[MI hm,h,aj,h2,aj,h3];rfl
def j8{ts:List TY}(h:ev P true a fr=.ok x af)(h2:ts.any (cF x)=b):ev P k (.dY a ts) fr=.ok (.bl b) af:=by rw[MJ,h,aj,h2]
def dD{t:T}{cond:Eo}(h:bQ P true it fr=.ok vs af)(hu:undef t af=true)(h2:bu (cQ P a t cond af) vs=some l)(h3:fF l=some v):ev P k (.comp a t it cond) fr=.ok v af:=by
 rw[rW,h,aj,b8 hu,h2];show R.of (fF l) af=_;rw[h3];rfl
def oW(h:bQ P true it fr=.ok vs af)(h2:fF vs=some v):ev P k (.gq it) fr=.ok v af:=by rw[MK,h,aj,h2];rfl
def jb{kvs:List (D×D)}(h:ev P true a fr=.ok x af)(h2:eL x kvs=some v):ev P k (.eS kvs a) fr=.ok v af:=by rw[Jk,h,aj,h2];rfl
def uQ(h:ev P true a fr=.ok x af)(h2:toT x=some v):ev P k (.fc a) fr=.ok v af:=by rw[ML,h,aj,h2];rfl
def aE:bJ P k .nil fr=.ok [] fr:=Jl
def ao(h:ev P (k&&kf a (eF es)) a fr=.ok v af)(h2:bJ P k es af=.ok vs ak):bJ P k (.cons a es) fr=.ok (v :: vs) ak:=by rw[Ez,h,aj,h2];rfl
def aL:dS P .nil fr=.ok [] fr:=Jm
def aJ{as:List (Nat ⊕ V)}(hi:fG fr a=none)(h:ev P false a fr=.ok v af)(h2:dS P es af=.ok as ak):dS P (.cons a es) fr=.ok (.inr v :: as) ak:=by rw[wI,hi,AG,h,aj,h2];rfl
def MZ{as:List (Nat ⊕ V)}(hi:fG fr a=some i)(h2:dS P es fr=.ok as ak):dS P (.cons a es) fr=.ok (.inl i :: as) ak:=by rw[wI,hi,AF,h2];rfl
def eN:fN P .no fr=.ok none fr:=MM
def dN{j:Int}(h:ev P true a fr=.ok (.int j) af):fN P (.yes a) fr=.ok (some j) af:=by rw[Jo,h];rfl
def M4(h:aG P a fr=.ok true af):aG P (.orr a e) fr=.ok true af:=by rw[zh,h];rfl
def gE{b2:Bool}(h:aG P a fr=.ok false af)(h2:aG P e af=.ok b2 ak):aG P (.orr a e) fr=.ok b2 ak:=by rw[zh,h];exact h2
def gP(h:aG P a fr=.ok b af):aG P (.nt a) fr=.ok (!b) af:=by rw[MN,h];rfl
noncomputable def plainT:E->Bool
 |.an _ _=>false
 |.orr _ _=>false
 |.nt _=>false
 |_=>true
def aM(hp:plainT a=true)(h:ev P true a fr=.ok x af)(h2:truthy x=b):aG P a fr=.ok b af:=by
 have:aG P a fr=(ev P true a fr).bind MO:=by
  cases a<;>first | (cases hp;done) | (rw[aG];rfl;all_goals (intros;contradiction))
 rw[this,h,aj,Jp,h2]
def ee(h:src k fr a (ev P k a fr)=.ok x af)(h2:gj x=some vs):bQ P k (.seq a) fr=.ok vs af:=by rw[zj,h,aj,h2];rfl
def gm(h:Av k fr i=some v){r:R V}:src k fr (.v i) r=.ok v fr:=by rw[O0,h];rfl
def jX(h:bJ P true es fr=.ok vs af)(h2:dP vs=some l):bQ P k (.eW es) fr=.ok l af:=by rw[Jq,h,aj,h2];rfl
def nM{y:V}(h:ev P (kf a (bh e)) a fr=.ok x af)(h2:ev P true e af=.ok y ak)(h3:qc x y=some l):bQ P k (.ju a e) fr=.ok l ak:=by rw[Jr,h,aj,h2,aj,h3];rfl
def cy(h:ev P false a fr=.ok v af)(hn:isNew a=false)(hp:put af i (.val v)=some ak)(q:Q .nx ak):Wp (ex P w (.set i a) fr) Q:=by
 rw[CD,h,aj,hn,hp];exact⟨_,_,rfl,q⟩
def qX(h:ev P false a fr=.ok (.lst l) af)(hn:isNew a=true)(hp:put af i (.own l)=some ak)(q:Q .nx ak):Wp (ex P w (.set i a) fr) Q:=by
 rw[CD,h,aj,hn,b8 rfl,EA,hp];exact⟨_,_,rfl,q⟩
def O4(h:ev P true a fr=.ok v af)(q:Q .nx af):Wp (ex P w (.exp a) fr) Q:=by rw[MQ,h];exact⟨_,_,rfl,q⟩
def bX(h:ev P false a (jw fr)=.ok v af)(q:Q (.ret v) af):Wp (ex P w (.ret a) fr) Q:=by rw[MR,h];exact⟨_,_,rfl,q⟩
def bR(h:aG P a fr=.ok b af)(h2:b=true->Wp (exs P w sa af) Q)(h3:b=false->Wp (exs P w sb af) Q):Wp (ex P w (.iff a sa sb) fr) Q:=by
 rw[MS,h,aj];cases b with
 |true=>exact h2 rfl
 |false=>exact h3 rfl
def bT(q:Q .nx fr):Wp (exs P w .nil fr) Q:=by rw[Js];exact⟨_,_,rfl,q⟩
noncomputable def nx(P:aB)(w:Nat)(ss:Ss)(Q:Fl->Fr->Prop):Fl->Fr->Prop
 |.nx,fr=>Wp (exs P w ss fr) Q
 |g,fr=>Q g fr
def az(q:Wp (ex P w st fr) (nx P w ss Q)):Wp (exs P w (.cons st ss) fr) Q:=by
 rw[EB,wp_bind];refine q.mono λg af z=>?_;cases g with
 |nx=>exact z
 |bk=>exact⟨_,_,rfl,z⟩
 |ct=>exact⟨_,_,rfl,z⟩
 |ret v=>exact⟨_,_,rfl,z⟩
def AI{t:T}(h:bQ P false it (qL (itv it) fr)=.ok vs af)(q:Wp (forL (turnF P w t ss) vs af) Q):Wp (ex P w (.for t it ss) fr) Q:=by rw[vp,h,aj];exact q
def wN{t:T}{d:V}(hb:aY t d fr=some af)(q:Wp (exs P w ss af) Q):Wp (turnF P w t ss d fr) Q:=by unfold turnF;rw[hb];exact q
def cC{t:T}{d:V}(hb:aY t d (j6 fr)=some af)(h:ev P false a af=.ok v ak):cQ P a t .no fr d=some (some v):=by
 unfold cQ;rw[hb];dsimp only;rw[wJ];dsimp only;rw[h];rfl
def fL{p q:List Nat}:cop .eq (.str p) (.str q)=some (decide (p=q)):=sD
def qY{p q:List Nat}:cop .ne (.str p) (.str q)=some (!decide (p=q)):=by rw[wG,sD];rfl
def RS{p q:Int}:cop .eq (.int p) (.int q)=some (decide (p=q)):=ze
def GI{p q:Int}:cop .ne (.int p) (.int q)=some (!decide (p=q)):=by rw[wG,ze];rfl
def RT{p q:Int}:cop .lt (.int p) (.int q)=some (decide (p<q)):=rfl
def wO{p q:Int}:cop .le (.int p) (.int q)=some (decide (p<=q)):=rfl
def EC{p q:Int}:cop .gt (.int p) (.int q)=some (decide (q<p)):=rfl
def iE{p q:Int}(h:bG p q=true):bY .mul (.int p) (.int q)=some (.int (p*q)):=by rw[Er,b8 h]
def oX{p q:Int}(h:0<q):bY .mod (.int p) (.int q)=some (.int (p % q)):=by rw[Jg,b8 h]
def uR{p q:Int}(h:0<q)(h2:q<1073741824):bY .fdiv (.int p) (.int q)=some (.int (p / q)):=by rw[Et,b8 ⟨h,h2⟩]
end
def iF{fr:Fr}{i:Nat}{s:Sl}{o:Option Sl}(e:fr[i]?=some o)(h:vo o):put fr i s=some (fr.set i (some s)):=by rw[MV,e,MW h]
def bind1{fr:Fr}{i:Nat}{v:V}{a:Option Sl}(ea:fr[i]?=some a)(ha:vo a):aY (.one i) v fr=some (fr.set i (some (.val v))):=iF ea ha
end Pv
namespace Pv
open Ev (D O Hh aQ aK TY BI ME T E Es Eo It S Ss Fn)
theorem jN{f:V->Option (Option V)}{g:V->Option Nat}(hg:∀d c,g d=some c->f d=none):∀(ds:List V) {c:Nat},dB f g ds=some c->bu f ds=none
 |[],_,z=>nomatch z
 |d :: ds,c,z=>by
  simp only[dB]at z;simp only[bu];cases y:f d with
  |some o=>rw[y]at z;show Option.bind (some o) _=none;simp only[Option.bind];rw[jN hg ds z]
  |none=>rfl
section
variable{P:aB}{X:bS}{w:Nat}(hX:∀f sl c,X f sl=some c->P f sl=none)
include hX
mutual
theorem bU:∀(e:E) {fr:Fr}{c:Nat},xe P X e fr=some c->(∀k,ev P k e fr=.bad)/\aG P e fr=.bad
 |.cl f es,fr,c,z=>by
  simp only[xe]at z;have q:∀k,ev P k (.cl f es) fr=.bad:=λk=>by
   rw[ev];cases y:dS P es fr with
   |ok as af=>
    rw[y]at z;simp only at z;simp only[aj];unfold oR at z;unfold dI;split at z
    case isFalse=>cases z
    rename_i nd;rw[b8 nd];rw[eU]at z;obtain⟨sl,z1,z2⟩:=z;rw[z1];simp only;rw[hX _ _ _ z2]
   |bad=>rfl
  exact⟨q,by rw[aG,q];rfl;all_goals (intros;contradiction)⟩
 |.ix a b,fr,c,z=>by
  simp only[xe]at z;have q:∀k,ev P k (.ix a b) fr=.bad:=λk=>by rw[ev,(bU a z).1];rfl
  exact⟨q,by rw[aG,q];rfl;all_goals (intros;contradiction)⟩
 |.me m o es,fr,c,z=>by
  simp only[xe]at z;split at z
  case isFalse=>cases z
  rename_i hm;split at z
  case h_2=>cases z
  rename_i i hi;have q:∀k,ev P k (.me m o es) fr=.bad:=λk=>by
   rw[ev,b8 hm,hi];simp only;rw[sF es z];rfl
  exact⟨q,by rw[aG,q];rfl;all_goals (intros;contradiction)⟩
 |.tup es,fr,c,z=>by
  simp only[xe]at z;have q:∀k,ev P k (.tup es) fr=.bad:=λk=>by rw[ev,sF es z];rfl
  exact⟨q,by rw[aG,q];rfl;all_goals (intros;contradiction)⟩
 |.fc a,fr,c,z=>by
  simp only[xe]at z;have q:∀k,ev P k (.fc a) fr=.bad:=λk=>by rw[ev,(bU a z).1];rfl
  exact⟨q,by rw[aG,q];rfl;all_goals (intros;contradiction)⟩
 |.comp elt t it cond,fr,c,z=>by
  simp only[xe]at z;have q:∀k,ev P k (.comp elt t it cond) fr=.bad:=λk=>by
   rw[ev];cases y:bQ P true it fr with
   |ok s af=>
    rw[y]at z;simp only at z;split at z
    .rename_i hu;simp only[aj,b8 hu.1];have:=jN (f:=lO P elt t cond af) (λd c2 e=>by
      split at e
      .rename_i ak eb;split at e
       .rename_i bw ec;unfold lO;rw[eb];simp only[ec,Vj];rw[(bU elt e).1]
       .cases e
      .cases e) s z
     refine Wi (Vd (λq:Option (List V)=>R.of (q.bind fF) af) this) rfl
    .cases z
   |bad=>rfl
  exact⟨q,by rw[aG,q];rfl;all_goals (intros;contradiction)⟩
 |.c _,_,_,z=>nomatch z|.v _,_,_,z=>nomatch z|.lst _,_,_,z=>nomatch z
 |.bin _ _ _,_,_,z=>nomatch z|.cmp _ _ _,_,_,z=>nomatch z
 |.ch _ _ _ _ _,_,_,z=>nomatch z
 |.nt _,_,_,z=>nomatch z|.neg _,_,_,z=>nomatch z|.an _ _,_,_,z=>nomatch z|.orr _ _,_,_,z=>nomatch z|.o8 _ _ _,_,_,z=>nomatch z
 |.sl _ _ _,_,_,z=>nomatch z
 |.bi _ _,_,_,z=>nomatch z
 |.dY _ _,_,_,z=>nomatch z
 |.gq _,_,_,z=>nomatch z
 |.eS _ _,_,_,z=>nomatch z
 |.jt _,_,_,z=>nomatch z|.jK _ _,_,_,z=>nomatch z
theorem zl:∀(es:Es) {fr:Fr}{c:Nat},wc P X es fr=some c->dS P es fr=.bad
 |.nil,_,_,z=>nomatch z
 |.cons e es,fr,c,z=>by
  simp only[wc]at z;rw[dS];split at z
  .rw[zl es z];rfl
  .split at z
   .rename_i y2;rw[y2];simp only[aj];rw[zl es z];rfl
   .rw[(bU e z).1];rfl
theorem sF:∀(es:Es) {k:Bool}{fr:Fr}{c:Nat},kX P X k es fr=some c->bJ P k es fr=.bad
 |.nil,_,_,_,z=>nomatch z
 |.cons e es,k,fr,c,z=>by
  simp only[kX]at z;rw[bJ];split at z
  .rename_i y2;rw[y2];simp only[aj];rw[sF es z];rfl
  .rw[(bU e z).1];rfl
end
omit hX in
theorem gS{f:V->Fr->R Fl}{g:V->Fr->Option Nat}(hg:∀d fr c,g d fr=some c->f d fr=.bad):∀(vs:List V) {fr:Fr}{c:Nat},fy f g vs fr=some c->forL f vs fr=.bad
 |[],_,_,z=>nomatch z
 |d :: ds,fr,c,z=>by
  simp only[fy]at z;simp only[forL];split at z
  .rename_i e;rw[e];exact gS hg ds z
  .rename_i e;rw[e];exact gS hg ds z
  .cases z
  .rw[hg _ _ _ z];rfl
omit hX in
theorem gT{t:Fr->R Bool}{f:Fr->R Fl}{g:Fr->Option Nat}(hg:∀fr c,g fr=some c->f fr=.bad):∀(n:Nat) {fr:Fr}{c:Nat},fU t f g n fr=some c->eT t f n fr=.bad
 |0,_,_,z=>nomatch z
 |n+1,fr,c,z=>by
  simp only[fU]at z;split at z
  case h_2=>cases z
  rename_i e0;simp only[eT,e0,aj,Vj];split at z
  .rename_i e;rw[e];exact gT hg n z
  .rename_i e;rw[e];exact gT hg n z
  .cases z
  .rw[hg _ _ z];rfl
mutual
theorem m9:∀(s:S) {fr:Fr}{c:Nat},xs P X w s fr=some c->ex P w s fr=.bad
 |.b9 c,_,_,_=>by rw[ex]
 |.set i e,fr,c,z=>by rw[ex,(bU hX e z).1];rfl
 |.exp e,fr,c,z=>by rw[ex,(bU hX e z).1];rfl
 |.ret e,fr,c,z=>by rw[ex,(bU hX e z).1];rfl
 |.iff t a b,fr,c,z=>by
  simp only[xs]at z;rw[ex];cases y:aG P t fr with
  |bad=>rfl
  |ok k h1=>
   rw[y]at z;simp only at z;simp only[aj];cases k with
   |true=>exact cU a z
   |false=>exact cU b z
 |.for t it b,fr,c,z=>by
  simp only[xs]at z;rw[ex];split at z
  case h_2=>cases z
  rename_i y;rw[y];simp only[aj];refine gS (λd fr c q=>?_) _ z;cases k:aY t d fr with
  |none=>rfl
  |some bw=>rw[k]at q;exact cU b q
 |.m6 t b,fr,c,z=>by
  simp only[xs]at z;rw[ex];exact gT (λfr c q=>cU b q) _ z
 |.m5 _ _,_,_,z=>nomatch z
 |.tr _ _ _,_,_,z=>nomatch z
theorem cU:∀(s:Ss) {fr:Fr}{c:Nat},xss P X w s fr=some c->exs P w s fr=.bad
 |.nil,_,_,z=>nomatch z
 |.cons s ss,fr,c,z=>by
  simp only[xss]at z;rw[exs];split at z
  .rename_i e;rw[e];exact cU ss z
  .cases z
  .rw[m9 s z];rfl
end
end
def O5{P:aB}{X:bS}{w:Nat}{fn:Fn}{ds:List Sl}{fr:Fr}{c:Nat}(z:xss P X w fn.body fr=some c):Cj fn ds=none:=by
 unfold Cj;rfl
theorem nN(F:List Fn)(w:Nat):∀(n f:Nat) (sl:List Sl) (c:Nat),bH F w n f sl=some c->run F w n f sl=none
 |0,_,_,_,_=>rfl
 |n+1,f,ds,c,z=>by
  rw[iA]at z;rw[fP];cases y:F[f]? with
  |none=>rw[y]at z;cases z
  |some fn=>
   rw[y]at z;simp only at z ⊢;split at z
   .rename_i k;rw[b8 k,cU (nN F w n) _ z];exact O5 z
   .cases z
section
variable{F:List Fn}{P:aB}{X:bS}{w n f c:Nat}{fr af ak:Fr}{s:S}{ss sa sb:Ss}{e t:E}{b:Bool}{es:Es}{v:V}
def cR(hX:∀f sl c,X f sl=some c->P f sl=none)(h:xs P X w s fr=some c):xss P X w (.cons s ss) fr=some c:=by
 simp only[xss,m9 hX s h];exact h
def jc(h:Wp (ex P w s fr) λg af=>g=.nx/\xss P X w ss af=some c):xss P X w (.cons s ss) fr=some c:=by
 obtain⟨g,af,e,rfl,q⟩:=h;simp only[xss,e];exact q
def lR(h:aG P t fr=.ok b af)(h2:(if b then xss P X w sa af else xss P X w sb af)=some c):xs P X w (.iff t sa sb) fr=some c:=by
 simp only[xs,h];exact h2
def oY:xs P X w (.b9 c) fr=some c:=rfl
def O6{i:Nat}(h:xe P X e fr=some c):xs P X w (.set i e) fr=some c:=h
def y_ret(h:xe P X e (jw fr)=some c):xs P X w (.ret e) fr=some c:=h
def GJ{es:Es}(h:kX P X false es fr=some c):xe P X (.tup es) fr=some c:=by simp only[xe];exact h
def O7(h:xe P X a fr=some c):xe P X (.fc a) fr=some c:=by simp only[xe];exact h
def Jx{elt:E}{t:T}{it:It}{cond:Eo}(h:bQ P true it fr=.bad)(q:xi P X it fr=some c):xe P X (.comp elt t it cond) fr=some c:=by simp only[xe,h];exact q
def CH{elt:E}{t:T}{it:It}{cond:Eo}{vs:List V}{af:Fr}(h:bQ P true it fr=.ok vs af)(hu:undef t af=true)(hl:vs.length<=Ev.big)(q:dB (lO P elt t cond af) (λd=>match aY t d (j6 af)with
   |some ak=>(match fO P cond ak with
    |.ok true _=>xe P X elt ak
    |_=>none)
   |none=>none) vs=some c):xe P X (.comp elt t it cond) fr=some c:=by simp only[xe,h,b8 (And.intro hu hl)];exact q
theorem sG{α:Type}{f:V->Option (Option V)}{g:V->Option Nat}(e:α->V){v:α}{r:List α}(hv:f (e v)=none)(hg:g (e v)=some c):∀(l:List α),(∀a∈l,∃b,f (e a)=some b)->dB f g ((l++v :: r).map e)=some c
 |[],_=>by simp only[V6,wX,dB,hv];exact hg
 |a :: l,h=>by
  obtain⟨b,hb⟩:=h a (by simp);simp only[VO,wX,dB,hb];exact sG e hv hg l λx hx=>h x (by simp[hx])
def wQ{as:List (Nat ⊕ V)}(h:dS P es fr=.ok as af)(h2:oR X f as af=some c):xe P X (.cl f es) fr=some c:=by simp only[xe,h];exact h2
def oZ{fn:Fn}{ds:List Sl}(hf:F[f]?=some fn)(hl:ds.length=fn.np)(h:xss (run F w n) (bH F w n) w fn.body (cZ fn ds)=some c):bH F w (n+1) f ds=some c:=by
 rw[iA,hf];simp only;rw[b8 hl];exact h
theorem jC:∀vs:List V,bB (vs.map .inr)=[]/\args fr (vs.map .inr)=some (vs.map Sl.val)
 |[]=>⟨rfl,rfl⟩
 |v :: vs=>⟨(jC vs).1,by rw[wX,args,(jC vs).2];rfl⟩
def jd{vs:List V}(h:X f (vs.map .val)=some c):oR X f (vs.map .inr) fr=some c:=by
 have h1:=jC (fr:=fr);unfold oR;rw[(h1 vs).1,(h1 vs).2];exact h
def AJ{vs:List V}(h:P f (vs.map .val)=none):dI P f (vs.map .inr) fr=.bad:=by
 have h1:=jC (fr:=fr);unfold dI;rw[(h1 vs).1,(h1 vs).2];simp only[h];rfl
def O8{ds:List Sl}(hF:F.length<=1000)(ha:ds.all Sl.fG=true)(h:bH F w n f ds=some c):run F w n (f+1000) ds=some (.int (c:Int),[]):=by
 cases n with
 |zero=>cases h
 |succ n=>
  rw[fP,VH (by omega)];simp only[lZ];rw[b8 ⟨Yv _ _,ha⟩,show f+1000 - Ev.xo=f from WV ..];rw[h];rfl
def O9{Q:Fl->Fr->Prop}{vs:List V}{kk:Nat}(h:dS P es fr=.ok (vs.map .inr) af)(h2:P f (vs.map .val)=some (v,[]))(q:Q (.ret v) af):Wp (ex P w (.tr f kk es) fr) Q:=by
 have hl:=λvs=>(jC (fr:=fr) vs).1;have:=ja (P:=P) (f:=f) (fr:=af) h2;simp only[ex,h,aj,hl,this];exact⟨_,_,rfl,q⟩
def M5{Q:Fl->Fr->Prop}{vs:List V}{kk:Nat}(h:dS (run F w n) es fr=.ok (vs.map .inr) af)(hF:F.length<=1000)(h2:bH F w n f (vs.map .val)=some c)(hc:c<kk)(q:Q (.ret (.tup [.str [114,101,102,117,115,101,100],.int (c:Int)])) af):Wp (ex (run F w n) w (.tr f kk es) fr) Q:=by
 have hl:=λvs=>(jC (fr:=fr) vs).1;have ha:(vs.map Sl.val).all Sl.fG=true:=by simp[Sl.fG]
 have h3:=AJ (P:=run F w n) (f:=f) (fr:=af) (nN F w n f _ c h2);have h4:=ja (P:=run F w n) (f:=f+1000) (fr:=af) (O8 hF ha h2);have h5:Aw kk (.int (c:Int))=some (.tup [.str [114,101,102,117,115,101,100],.int (c:Int)]):=by simp only[Aw];rw[b8 (by omega)]
 simp only[ex,h,aj,hl,h3];show Wp ((dI (run F w n) (f+1000) (vs.map .inr) af).bind _) Q;rw[h4,aj,h5];exact⟨_,_,rfl,q⟩
end
end Pv
local macro_rules|`(tactic|array_get_dec)=>`(tactic|first
 |exact Pv.aE|exact Pv.aL|exact Pv.eN
 | (apply Pv.ay;rfl) | (apply Pv.av;rfl)|apply Pv.aH|apply Pv.br|apply Pv.fB|apply Pv.gM|apply Pv.cW|apply Pv.gy|apply Pv.bN|apply Pv.fC
 |apply Pv.RP|apply Pv.O2|apply Pv.uQ|apply Pv.oW  | (apply Pv.uP rfl rfl) | (apply Pv.gO rfl)|apply Pv.jb
 |apply Pv.ao | (apply Pv.aJ rfl) | (apply Pv.MZ rfl)|apply Pv.dN|apply Pv.gP|apply Pv.aM rfl
 |exact Pv.Az|exact Pv.OP|exact Pv.gk|exact Pv.OR|exact Pv.qW|exact Pv.GG|exact Pv.OQ
 | (with_reducible assumption)|exact Pv.bz|exact Pv.Ep|exact Pv.fL|exact Pv.qY|exact Pv.RS|exact Pv.GI|exact Pv.RT|exact Pv.wO|exact Pv.EC
 | (show Pv.truthy _=_;rfl) | (show Pv.gz _ _=some _;rfl) | (show Pv.toT _=some _;rfl) | (show Pv.eL _ _=some _;rfl) | (show Pv.gj _=some _;rfl)|assumption)
namespace Pv
open Ev (D aQ aK TY BI ME T E Es Eo It S Ss Fn big deep b2i rep bG cK bg aI cut aP bZ slots)
def M6(a b:Int):bG (a % 2147483563) b=true:=by have h1:=WJ a (b:=2147483563) (by decide);have h2:=Wk a (b:=2147483563) (by decide);simp[bG];omega
def RU(a b:Int):bG (a % 2147483399) b=true:=by have h1:=WJ a (b:=2147483399) (by decide);have h2:=Wk a (b:=2147483399) (by decide);simp[bG];omega
def M7{l:List V}{j:Int}{v:V}(h:bg l j=some v):gz (.bE l) (.int j)=some v:=h
def M8{l m:List V}:cop .eq (.bE l) (.lst m)=b5 (dR (18+1)) l m:=rfl
def ED{F:List Fn}{w n c:Nat}(hc:F[c]?=some uM){ns:List Int}(hn:ns.length<=63)(k:Int):run F w (n+1) c [.val (lu ns),.val (.int k)]=some (.int (uN ns k),[]):=by
 refine bW hc rfl (az (bR (b:=decide (ns=[])) (aM rfl (br (ay rfl) (gM aE qW) (M8.trans (Jw ns))) rfl) (λh=>?_) λh=>bT ?_))
 .have h0:=V0 h;exact az (bX (aH (av rfl) (ay rfl) (iE rfl)) ⟨by rw[uN,b8 h0],rfl⟩)
 .have h0:=of_decide_eq_false h;have hlen:0<ns.length:=List.length_pos_iff.mpr h0;have Qp:(0:Int)<(ns.map V.int).length:=by rw[Vm];exact Int.natCast_pos.mpr hlen
  have h30:((ns.map V.int).length:Int)<1073741824:=by rw[Vm];omega
  have hm0:=WJ k (b:=(ns.length:Int)) (by omega);have hlt:(k % (ns.length:Int)).toNat<ns.length:=by have:=Wk k (b:=(ns.length:Int)) (by omega);omega
  have hx:bg (ns.map V.int) (k % ((ns.map V.int).length:Int))=some (.int (ns[(k % (ns.length:Int)).toNat]?.getD 0)):=by
   rw[Vm,CF hm0,Vq,RY hlt];rfl
  refine az (bX (aH (cW (ay rfl) (aH (ay rfl) (fC (ao (ay rfl) aE) zg) (oX Qp)) (M7 hx)) (aH (av rfl) (aH (ay rfl) (fC (ao (ay rfl) aE) zg) (uR Qp h30)) (iE rfl)) bz) ⟨?_,rfl⟩);rw[uN,SA h0,Vm]
def CJ{F:List Fn}{w n c dr:Nat}(hc:F[c]?=some uM)(hd:F[dr]?=some (wL c)){ns:List Int}(hn:ns.length<=63)(k:Int){many:Int}(hm:0<many):run F w (n+2) dr [.val (lu ns),.val (.int k),.val (.int many)]=some (.int (CG ns k many),[]):=by
 refine bW hd rfl (az (cy (aH (aH (aH (aH (bN (aJ rfl (ay rfl) (aJ rfl (ay rfl) aL)) (call2 (ED hc hn k))) (av rfl) (oX (by decide))) (av rfl) (iE (M6 _ _))) (aH (av rfl) (aH (ay rfl) (av rfl) bz) (iE rfl)) bz) (av rfl) (oX (by decide))) rfl rfl ?_));refine az (cy (aH (aH (aH (ay rfl) (ay rfl) (iE (M6 _ _))) (aH (ay rfl) (av rfl) (uR (by decide) (by decide))) bz) (av rfl) (oX (by decide))) rfl rfl ?_);exact az (bX (aH (aH (aH (aH (aH (ay rfl) (ay rfl) (iE (RU _ _))) (aH (ay rfl) (av rfl) (uR (by decide) (by decide))) bz) (av rfl) (oX (by decide))) (av rfl) (uR (by decide) (by decide))) (ay rfl) (oX hm)) ⟨rfl,rfl⟩)
inductive Pt where
 |keep (n:Nat)|put (s:List Nat)|drop (s:List Nat)
deriving DecidableEq
noncomputable def GK:List Nat:=[107,101,101,112]
noncomputable def M9:List Nat:=[112,117,116]
noncomputable def GL:List Nat:=[100,114,111,112]
noncomputable def Pt.v:Pt->V
 |.keep n=>.tup [.str GK,.int n]
 |.put s=>.tup [.str M9,.str s]
 |.drop s=>.tup [.str GL,.str s]
noncomputable def iM(c:List Pt):V:=.tup (c.map Pt.v)
def Na(n:Nat)(a b:Pt):dR (n+2) a.v b.v=some (decide (a=b)):=by
 cases a<;>cases b<;>simp[Pt.v,GK,M9,GL]
 all_goals omega
def CK(lo:Int)(n:Nat):range lo n=(List.range n).map λ(i:Nat)=>V.int (lo+i):=rfl
def RW{j:Int}{n:Nat}(h:n<=100000)(e:j=n):dP [.int j]=some (range 0 n):=by
 subst e;rw[RI (by omega) (by omega)];rfl
noncomputable def EE:S:=.iff (.cmp .eq (.ix (.v 0) (.c (.int 0))) (.c (.str [107,101,101,112]))) (.cons (.ret (.ix (.v 0) (.c (.int 1)))) .nil) .nil
noncomputable def EF:S:=.ret (.bi .len (.cons (.ix (.v 0) (.c (.int 1))) .nil))
noncomputable def ly:Fn:=⟨1,1,(.cons EE (.cons EF .nil))⟩
noncomputable def AK(cS:Nat):S:=.ret (.bi .sum (.cons (.comp (.cl cS (.cons (.v 1) .nil)) (.one 1) (.seq (.v 0)) (.yes (.cmp .ne (.ix (.v 1) (.c (.int 0))) (.c (.str [112,117,116]))))) .nil))
noncomputable def wR(cS:Nat):Fn:=⟨1,2,(.cons (AK cS) .nil)⟩
noncomputable def CL(cS:Nat):S:=.ret (.bi .sum (.cons (.comp (.cl cS (.cons (.v 1) .nil)) (.one 1) (.seq (.v 0)) (.yes (.cmp .ne (.ix (.v 1) (.c (.int 0))) (.c (.str [100,114,111,112]))))) .nil))
noncomputable def zm(cS:Nat):Fn:=⟨1,2,(.cons (CL cS) .nil)⟩
noncomputable def EG:S:=.set 1 (.lst .nil)
noncomputable def EH:S:=.set 2 (.c (.int 0))
noncomputable def EI:S:=.set 3 (.c (.str []))
noncomputable def EJ:S:=.set 4 (.c (.str []))
noncomputable def EK(fj:Nat):Ss:=(.cons (.iff (.cmp .eq (.v 5) (.c (.str [100,114,111,112]))) (.cons (.set 3 (.bin .add (.v 3) (.v 6))) .nil) (.cons (.iff (.cmp .eq (.v 5) (.c (.str [112,117,116]))) (.cons (.set 4 (.bin .add (.v 4) (.v 6))) .nil) (.cons (.iff (.cmp .gt (.v 6) (.c (.int 0))) (.cons (.iff (.orr (.cmp .ne (.v 3) (.c (.str []))) (.cmp .ne (.v 4) (.c (.str [])))) (.cons (.exp (.me .extend (.v 1) (.cons (.cl fj (.cons (.v 2) (.cons (.v 3) (.cons (.v 4) .nil)))) .nil))) (.cons (.set 2 (.c (.int 0))) (.cons (.set 3 (.c (.str []))) (.cons (.set 4 (.c (.str []))) .nil)))) .nil) (.cons (.set 2 (.bin .add (.v 2) (.v 6))) .nil)) .nil) .nil)) .nil)) .nil)
noncomputable def EL(fj:Nat):S:=.for (.many [5,6]) (.seq (.v 0)) (EK fj)
noncomputable def EM(fj:Nat):S:=.exp (.me .extend (.v 1) (.cons (.cl fj (.cons (.v 2) (.cons (.v 3) (.cons (.v 4) .nil)))) .nil))
noncomputable def EN:S:=.ret (.fc (.v 1))
noncomputable def wU(fj:Nat):Fn:=⟨1,7,(.cons EG (.cons EH (.cons EI (.cons EJ (.cons (EL fj) (.cons (EM fj) (.cons EN .nil)))))))⟩
noncomputable def xG:S:=.set 3 (.lst .nil)
noncomputable def xH:S:=.iff (.cmp .gt (.v 0) (.c (.int 0))) (.cons (.exp (.me .append (.v 3) (.cons (.tup (.cons (.c (.str [107,101,101,112])) (.cons (.v 0) .nil))) .nil))) .nil) .nil
noncomputable def xJ:S:=.iff (.cmp .ne (.v 1) (.c (.str []))) (.cons (.exp (.me .append (.v 3) (.cons (.tup (.cons (.c (.str [100,114,111,112])) (.cons (.v 1) .nil))) .nil))) .nil) .nil
noncomputable def xN:S:=.iff (.cmp .ne (.v 2) (.c (.str []))) (.cons (.exp (.me .append (.v 3) (.cons (.tup (.cons (.c (.str [112,117,116])) (.cons (.v 2) .nil))) .nil))) .nil) .nil
noncomputable def xO:S:=.ret (.v 3)
noncomputable def nO:Fn:=⟨3,4,(.cons xG (.cons xH (.cons xJ (.cons xN (.cons xO .nil)))))⟩
noncomputable def Pt.n:Pt->Nat
 |.keep n=>n
 |.put s=>s.length
 |.drop s=>s.length
noncomputable def tot(c:List Pt):Nat:=(c.map Pt.n).sum
def EO(p:Pt)(c:List Pt):tot (p :: c)=p.n+tot c:=by simp[tot]
section
variable{n:Nat}
def RX{c:List Pt}{p:Pt}(h:p∈c):p.n<=tot c:=by
 induction c with
 |nil=>simp at h
 |cons q c ih=>
  rw[EO];rcases List.mem_cons.mp h with rfl|h
  .omega
  .have:=ih h;omega
end
noncomputable def Pt.asks:Pt->List (List Nat)
 |.keep n=>List.replicate n []
 |.drop s=>s.map λc=>[c]
 |.put _=>[]
noncomputable def asks(c:List Pt):List (List Nat):=c.flatMap Pt.asks
noncomputable def wV:List Pt->List Nat->Bool
 |[],t=>t.isEmpty
 |.keep n :: c,t=>decide (n<=t.length)&&wV c (t.drop n)
 |.drop s :: c,t=>s.isPrefixOf t&&wV c (t.drop s.length)
 |.put _ :: c,t=>wV c t
noncomputable def qZ:List Pt->List Nat->List Nat
 |[],_=>[]
 |.keep n :: c,t=>t.take n++qZ c (t.drop n)
 |.drop s :: c,t=>qZ c (t.drop s.length)
 |.put s :: c,t=>s++qZ c t
noncomputable def xP(dF:Nat):S:=.ret (.cl dF (.cons (.tup (.cons (.tup (.cons (.c (.str [107,101,101,112])) (.cons (.v 0) .nil))) .nil)) .nil))
noncomputable def nP(dF:Nat):Fn:=⟨1,1,(.cons (xP dF) .nil)⟩
end Pv
namespace Pv
open Ev (rep)
end Pv
namespace Pv
end Pv
namespace Pv
open Ev (D aQ aK TY BI ME T E Es Eo It S Ss Fn big deep b2i rep bG cK bg aI cut aP bZ slots)
noncomputable def ER(sH:Nat)(qe:Nat):S:=.iff (.cmp .ne (.cl sH (.cons (.v 0) .nil)) (.cl qe (.cons (.v 1) .nil))) (.cons (.b9 0) .nil) .nil
noncomputable def ES(dF:Nat):S:=.set 2 (.gq (.rev (.cl dF (.cons (.v 0) .nil))))
noncomputable def ET(dF:Nat):S:=.set 3 (.gq (.rev (.cl dF (.cons (.v 1) .nil))))
noncomputable def EU:S:=.set 4 (.lst .nil)
noncomputable def EV(cS:Nat)(q8:Nat)(jD:Nat):Ss:=(.cons (.iff (.an (.v 2) (.cmp .eq (.ix (.ix (.v 2) (.neg (.c (.int 1)))) (.c (.int 0))) (.c (.str [100,114,111,112])))) (.cons (.exp (.me .append (.v 4) (.cons (.me .pop (.v 2) .nil) .nil))) .nil) (.cons (.iff (.an (.v 3) (.cmp .eq (.ix (.ix (.v 3) (.neg (.c (.int 1)))) (.c (.int 0))) (.c (.str [112,117,116])))) (.cons (.exp (.me .append (.v 4) (.cons (.me .pop (.v 3) .nil) .nil))) .nil) (.cons (.set 5 (.bi .min (.cons (.cl cS (.cons (.ix (.v 2) (.neg (.c (.int 1)))) .nil)) (.cons (.cl cS (.cons (.ix (.v 3) (.neg (.c (.int 1)))) .nil)) .nil)))) (.cons (.exp (.me .extend (.v 4) (.cons (.cl q8 (.cons (.cl jD (.cons (.v 2) (.cons (.v 5) .nil))) (.cons (.cl jD (.cons (.v 3) (.cons (.v 5) .nil))) .nil))) .nil))) .nil))) .nil)) .nil)
noncomputable def EW(cS:Nat)(q8:Nat)(jD:Nat):S:=.m6 (.orr (.v 2) (.v 3)) (EV cS q8 jD)
noncomputable def EX(dF:Nat):S:=.ret (.cl dF (.cons (.fc (.v 4)) .nil))
noncomputable def CM(sH:Nat)(qe:Nat)(dF:Nat)(cS:Nat)(q8:Nat)(jD:Nat):Fn:=⟨2,6,(.cons (ER sH qe) (.cons (ES dF) (.cons (ET dF) (.cons EU (.cons (EW cS q8 jD) (.cons (EX dF) .nil))))))⟩
noncomputable def Jy:S:=.iff (.cmp .eq (.ix (.v 1) (.c (.int 0))) (.c (.str [107,101,101,112]))) (.cons (.ret (.lst (.cons (.v 0) .nil))) .nil) .nil
noncomputable def Jz:S:=.iff (.cmp .eq (.ix (.v 0) (.c (.int 0))) (.c (.str [107,101,101,112]))) (.cons (.ret (.lst (.cons (.v 1) .nil))) .nil) .nil
noncomputable def JB:S:=.iff (.cmp .ne (.ix (.v 0) (.c (.int 1))) (.ix (.v 1) (.c (.int 1)))) (.cons (.b9 0) .nil) .nil
noncomputable def JD:S:=.ret (.lst .nil)
noncomputable def q9:Fn:=⟨2,2,(.cons Jy (.cons Jz (.cons JB (.cons JD .nil))))⟩
noncomputable def CN(qf:Nat):S:=.set 2 (.cl qf (.cons (.me .pop (.v 0) .nil) (.cons (.v 1) .nil)))
noncomputable def CO(cS:Nat):S:=.iff (.cmp .gt (.cl cS (.cons (.ix (.v 2) (.c (.int 1))) .nil)) (.c (.int 0))) (.cons (.exp (.me .append (.v 0) (.cons (.ix (.v 2) (.c (.int 1))) .nil))) .nil) .nil
noncomputable def CP:S:=.ret (.ix (.v 2) (.c (.int 0)))
noncomputable def jE(qf:Nat)(cS:Nat):Fn:=⟨2,3,(.cons (CN qf) (.cons (CO cS) (.cons CP .nil)))⟩
noncomputable def AL:S:=.set 2 (.ix (.v 0) (.c (.int 0)))
noncomputable def AM:S:=.iff (.cmp .eq (.v 2) (.c (.str [107,101,101,112]))) (.cons (.ret (.tup (.cons (.tup (.cons (.v 2) (.cons (.v 1) .nil))) (.cons (.tup (.cons (.v 2) (.cons (.bin .sub (.ix (.v 0) (.c (.int 1))) (.v 1)) .nil))) .nil)))) .nil) .nil
noncomputable def AN:S:=.ret (.tup (.cons (.tup (.cons (.v 2) (.cons (.sl (.ix (.v 0) (.c (.int 1))) .no (.yes (.v 1))) .nil))) (.cons (.tup (.cons (.v 2) (.cons (.sl (.ix (.v 0) (.c (.int 1))) (.yes (.v 1)) .no) .nil))) .nil)))
noncomputable def iT:Fn:=⟨2,3,(.cons AL (.cons AM (.cons AN .nil)))⟩
def GN{α:Type}(l:List α)(m:Nat):cut l none (some (m:Int))=l.take m:=by
 have h1:¬ (m:Int)<0:=by omega
 simp only[cut,aI,h1,VG,Yk,Wq,X4];by_cases h:m<=l.length
 .rw[Yu h]
 .rw[Yo (by omega),VR (Qq _),VR (by omega)]
def GO{α:Type}(l:List α)(m:Nat):cut l (some (m:Int)) none=l.drop m:=by
 have h1:¬ (m:Int)<0:=by omega
 simp only[cut,aI,h1,VG,Yk];by_cases h:m<=l.length
 .rw[Yu h,VR (by simp)]
 .rw[Yo (by omega),Xu (Qq _),Xu (by omega)];simp
end Pv
namespace Pv
open Ev (deep big rep cut bg)
end Pv
namespace Pv
open Ev (D aQ aK TY BI ME T E Es Eo It S Ss Fn big deep rep cut bg)
noncomputable def AO(dF:Nat):S:=.ret (.cl dF (.cons (.bin .add (.v 0) (.v 1)) .nil))
noncomputable def EY(dF:Nat):Fn:=⟨2,2,(.cons (AO dF) .nil)⟩
noncomputable def CQ(lS:Nat)(j9:Nat):S:=.ret (.cl lS (.cons (.cl lS (.cons (.cl j9 (.cons (.v 0) .nil)) (.cons (.v 1) .nil))) (.cons (.cl j9 (.cons (.v 2) .nil)) .nil)))
noncomputable def JF(lS:Nat)(j9:Nat):Fn:=⟨3,3,(.cons (CQ lS j9) .nil)⟩
abbrev Row:=List Nat×List Pt
noncomputable def cG(r:Row):V:=.tup [.str r.1,iM r.2]
noncomputable def uA:S:=.ret (.an (.cmp .gt (.bi .len (.cons (.v 0) .nil)) (.c (.int 0))) (.cmp .eq (.ix (.ix (.v 0) (.neg (.c (.int 1)))) (.c (.int 0))) (.c (.str [112,117,116]))))
noncomputable def xQ:Fn:=⟨1,1,(.cons uA .nil)⟩
section
variable{F:List Fn}{bA bO cu Nc:Nat}
def Pa{P:aB}{g j:Nat}{fr:Fr}{v:V}{l l':List V}(e:fr[j]?=some (some (.own l)))(h:P g [.bor l]=some (v,[l'])):dI P g [.inl j] fr=.ok v (fr.set j (some (.own l'))):=by
 have e1:lent fr j=some (.bor l):=by rw[Jt,e];rfl
 simp[dI,bB,args,e1,h,back,e,Sl.with]
variable(hs:F[bA]?=some ly)(hp:F[bO]?=some iT)(ht:F[cu]?=some (jE bO bA))(Ub:F[Nc]?=some xQ)
include hs hp ht Ub
end
end Pv
namespace Pv
end Pv
namespace Pv
open Ev (D aQ aK TY BI ME T E Es Eo It S Ss Fn big deep rep cut bg)
noncomputable def kp(g:Nat->Bool):Nat->List (List Nat)->List Nat
 |_,[]=>[]
 |i,y :: a=>if decide (y=[])&&g i then i :: kp g (i+1) a else kp g (i+1) a
section
noncomputable def ou(c:List Pt)(x:List Nat):Option (List Nat):=if wV c x=true then some (qZ c x)else none
end
end Pv
namespace Pv
open Ev (D aQ aK TY BI ME T E Es Eo It S Ss Fn big deep b2i rep bG cK bg aI cut aP bZ slots)
noncomputable def mk(x:List Nat)(l:List Pt)(k:Nat)(f:List Nat):Option (List Nat):=if k<=x.length/\wV l (x.drop k)=true then some (f++qZ l (x.drop k))else none
end Pv
namespace Pv
open Ev (D aQ aK TY BI ME T E Es Eo It S Ss Fn)
end Pv
namespace Pv
open Ev (D aQ aK TY BI ME T E Es Eo It S Ss Fn big deep b2i rep bG cK bg aI cut aP bZ slots)
end Pv
namespace Pv
end Pv
namespace Pv
open Ev (D aQ aK TY BI ME T E Es Eo It S Ss Fn big deep b2i rep bG cK bg aI cut aP bZ slots)
end Pv
namespace Pv
open Ev (D aQ aK TY BI ME T E Es Eo It S Ss Fn)
noncomputable def bare(A:List (List Nat)):List Nat:=(List.range A.length).filter λj=>decide (A.getD j [0]=[])
end Pv
namespace Pv
open Ev (D aQ aK TY BI ME T E Es Eo It S Ss Fn big deep b2i rep bG cK bg aI cut aP bZ slots)
noncomputable def uB:S:=.iff (.orr (.nt (.dY (.v 0) [.tuple])) (.cmp .gt (.bi .len (.cons (.v 0) .nil)) (.c (.int 12)))) (.cons (.ret (.c (.bl false))) .nil) .nil
noncomputable def uC(nQ:Nat):S:=.ret (.bi .all (.cons (.comp (.cl nQ (.cons (.v 1) .nil)) (.one 1) (.seq (.v 0)) .no) .nil))
noncomputable def gF(nQ:Nat):Fn:=⟨1,2,(.cons uB (.cons (uC nQ) .nil))⟩
noncomputable def xR:S:=.iff (.orr (.nt (.dY (.v 0) [.tuple])) (.cmp .ne (.bi .len (.cons (.v 0) .nil)) (.c (.int 2)))) (.cons (.ret (.c (.bl false))) .nil) .nil
noncomputable def pG(nR:Nat):S:=.iff (.cmp .eq (.ix (.v 0) (.c (.int 0))) (.c (.str [107,101,101,112]))) (.cons (.ret (.cl nR (.cons (.ix (.v 0) (.c (.int 1))) .nil))) .nil) .nil
noncomputable def pH(nU:Nat):S:=.ret (.an (.cmp .isin (.ix (.v 0) (.c (.int 0))) (.tup (.cons (.c (.str [112,117,116])) (.cons (.c (.str [100,114,111,112])) .nil)))) (.cl nU (.cons (.ix (.v 0) (.c (.int 1))) .nil)))
noncomputable def fk(nR:Nat)(nU:Nat):Fn:=⟨1,1,(.cons xR (.cons (pG nR) (.cons (pH nU) .nil)))⟩
noncomputable def xS:S:=.iff (.orr (.dY (.v 0) [.bool]) (.nt (.dY (.v 0) [.int]))) (.cons (.ret (.c (.bl false))) .nil) .nil
noncomputable def xT:S:=.ret (.ch .le .le (.c (.int 1)) (.v 0) (.c (.int 99)))
noncomputable def iu:Fn:=⟨1,1,(.cons xS (.cons xT .nil))⟩
noncomputable def xU:S:=.iff (.orr (.nt (.dY (.v 0) [.str])) (.nt (.ch .le .le (.c (.int 1)) (.bi .len (.cons (.v 0) .nil)) (.c (.int 8))))) (.cons (.ret (.c (.bl false))) .nil) .nil
noncomputable def xV:S:=.ret (.bi .all (.cons (.comp (.cmp .isin (.v 1) (.c (.str [97,98,99,100,101,102,103,104,105,106,107,108,109,110,111,112,113,114,115,116,117,118,119,120,121,122,32]))) (.one 1) (.seq (.v 0)) .no) .nil))
noncomputable def iw:Fn:=⟨1,2,(.cons xU (.cons xV .nil))⟩
noncomputable def ri:S:=.ret (.me .join (.c (.str [47])) (.cons (.comp (.bin .add (.eS [(.str [107,101,101,112],.str [61]),(.str [112,117,116],.str [43]),(.str [100,114,111,112],.str [45])] (.v 1)) (.bi .fK (.cons (.v 2) .nil))) (.many [1,2]) (.seq (.v 0)) .no) .nil))
noncomputable def mF:Fn:=⟨1,3,(.cons ri .nil)⟩
def Nd{P:aB}{k:Bool}{fr af ak:Fr}{o p:aK}{a b c:E}{x y z:V}{b1 b2:Bool}(h1:ev P (kf a (bh b)) a fr=.ok x af)(h2:ev P (kf b (bh c)) b af=.ok y ak)(h3:cop o x y=some b1)(h4:b1=true->ev P true c ak=.ok z ak/\cop p y z=some b2)(h5:b1=false->b2=false):ev P k (.ch o p a b c) fr=.ok (.bl b2) ak:=by
 rw[OS,h1,aj,h2,aj,h3];show(R.ok b1 ak).bind _=_;rw[aj];cases b1 with
 |false=>rw[h5 rfl];rfl
 |true=>obtain⟨e1,e2⟩:=h4 rfl;rw[b8 rfl,e1,aj,e2];rfl
noncomputable def wY(n:Nat):List Nat:=(Nat.toDigits 10 n).map Char.toNat
def E2(n:Nat):Ev.dw (n:Int)=wY n:=by
 show((toString (n:Int)).toList).map Char.toNat=_;rw[show toString (n:Int)=String.ofList (Nat.toDigits 10 n)from rfl,String.toList_ofList];rfl
def JH:((List.range 100).all λn=>decide (1<=(wY n).length)&&decide ((wY n).length<=2)&&(wY n).all Ev.pQ&&(Ev.kq (wY n)==some (n:Int)))=true:=by decide +kernel
structure Dg(n:Nat):Prop where
 lo:1<=(Ev.dw (n:Int)).length
 hi:(Ev.dw (n:Int)).length<=2
 sg:∀x∈Ev.dw (n:Int),48<=x/\x<=57
 nm:Ev.kq (Ev.dw (n:Int))=some (n:Int)
def dg{n:Nat}(h:n<=99):Dg n:=by
 have:=List.all_eq_true.mp JH n (by simp;omega);rw[<-E2]at this;simp only[gQ,VC,XJ,V1,Ev.pQ]at this;exact⟨this.1.1.1,this.1.1.2,this.1.2,this.2⟩
theorem wZ{c:Nat}:∀{s:List Nat},c∉s->Ev.aD c s=[s]
 |[],_=>rfl
 |x :: s,h=>by
  simp only[VW,not_or]at h;simp only[Ev.aD,SA (show ¬ x=c from λz=>h.1 z.symm),wZ h.2]
theorem nV{c:Nat}{r:List Nat}:∀{s:List Nat},c∉s->Ev.aD c (s++c :: r)=s :: Ev.aD c r
 |[],_=>by simp[Ev.aD]
 |x :: s,h=>by
  simp only[VW,not_or]at h;simp only[VO,Ev.aD,SA (show ¬ x=c from λz=>h.1 z.symm),nV h.2]
theorem rj{c:Nat}:∀{ps:List (List Nat)},ps≠[]->(∀p∈ps,c∉p)->Ev.aD c (aP [c] ps)=ps
 |[],h,_=>absurd rfl h
 |[s],_,h=>by simp only[aP];exact wZ (h s (by simp))
 |s :: t :: r,_,h=>by
  simp only[aP];rw[W3,XE,nV (h s (by simp)),rj (by simp) λp hp=>h p (by simp[hp])]
theorem kF{c:Nat}:∀{ps:List (List Nat)},(∀p∈ps,c∉p)->Ev.aD c (ps.map λp=>p++[c]).flatten=ps++[[]]
 |[],_=>rfl
 |s :: r,h=>by
  simp only[wX,Vu];rw[W3,XE,nV (h s (by simp)),kF λp hp=>h p (by simp[hp])];rfl
noncomputable def sgn:List Nat:=[97,98,99,100,101,102,103,104,105,106,107,108,109,110,111,112,113,114,115,116,117,118,119,120,121,122,32]
noncomputable def WS(s:List Nat):Prop:=1<=s.length/\s.length<=8/\∀x∈s,sgn.contains x=true
noncomputable def WP:Pt->Prop
 |.keep n=>1<=n/\n<=99
 |.put s=>WS s
 |.drop s=>WS s
structure Wide(c:List Pt):Prop where
 len:c.length<=12
 pt:∀p∈c,WP p
noncomputable def Pt.t:Pt->List Nat
 |.keep n=>61 :: Ev.dw n
 |.put s=>43 :: s
 |.drop s=>45 :: s
noncomputable def ct(c:List Pt):List Nat:=aP [47] (c.map Pt.t)
def CS{x:Nat}(h:sgn.contains x=true):x≠47/\x≠10:=by
 constructor <;> (intro e;subst e;revert h;decide)
def nW{p:Pt}(h:WP p):1<=p.t.length/\p.t.length<=9/\∀x∈p.t,x≠47/\x≠10:=by
 cases p with
 |keep n=>
  have d:=dg h.2;have d1:=d.hi;refine⟨by simp[Pt.t],by simp[Pt.t];omega,λx hx=>?_⟩;rcases List.mem_cons.mp hx with rfl|hx
  .decide
  .have:=d.sg x hx;omega
 |put s=>
  obtain⟨h1,h2,h3⟩:=h;refine⟨by simp[Pt.t],by simp[Pt.t];omega,λx hx=>?_⟩;rcases List.mem_cons.mp hx with rfl|hx
  .decide
  .exact CS (h3 x hx)
 |drop s=>
  obtain⟨h1,h2,h3⟩:=h;refine⟨by simp[Pt.t],by simp[Pt.t];omega,λx hx=>?_⟩;rcases List.mem_cons.mp hx with rfl|hx
  .decide
  .exact CS (h3 x hx)
theorem w9{x:Nat}{s:List Nat}:∀{l:List (List Nat)},x∈aP s l->x∈s\/∃p∈l,x∈p
 |[],h=>by simp[aP]at h
 |[p],h=>.inr ⟨p,by simp,h⟩
 |p :: q :: r,h=>by
  simp only[aP,List.mem_append]at h;rcases h with (h|h)|h
  .exact .inr ⟨p,by simp,h⟩
  .exact .inl h
  .rcases w9 h with h|⟨t,h1,h2⟩
   .exact .inl h
   .exact .inr ⟨t,by simp[h1],h2⟩
theorem join_le{s:List Nat}{b:Nat}:∀{l:List (List Nat)},(∀p∈l,p.length<=b)->(aP s l).length<=l.length*(b+s.length)
 |[],_=>by simp[aP]
 |[p],h=>by have:=h p (by simp);simp[aP];omega
 |p :: q :: r,h=>by
  have h1:=h p (by simp);have h2:=join_le (s:=s) (l:=q :: r) λx hx=>h x (by simp[hx]);simp only[aP,Ve];rw[Vg,WG];omega
def Pb{c:List Pt}(h:Wide c):10∉ct c:=λz=>by
 rcases w9 z with z|⟨p,h1,h2⟩
 .simp at z
 .obtain⟨q,h3,rfl⟩:=List.mem_map.mp h1;exact((nW (h.pt q h3)).2.2 10 h2).2 rfl
def rm{c:List Pt}(h:Wide c):(ct c).length<=120:=by
 have h1:(ct c).length<=(c.map Pt.t).length*(9+[47].length):=join_le λp hp=>by
  obtain⟨q,h3,rfl⟩:=List.mem_map.mp hp;exact(nW (h.pt q h3)).2.1
 have h2:=h.len;simp at h1;omega
def E3{c:List Pt}(h:Wide c)(h0:c≠[]):Ev.aD 47 (ct c)=c.map Pt.t:=rj (by simpa using h0) λp hp z=>by
 obtain⟨q,h3,rfl⟩:=List.mem_map.mp hp;exact((nW (h.pt q h3)).2.2 47 z).1 rfl
def Nf{c:List Pt}(h:Wide c):ct c=[]↔c=[]:=by
 constructor
 .intro e;cases c with
  |nil=>rfl
  |cons p c=>
   have h1:=(nW (h.pt p (by simp))).1;cases c with
   |nil=>simp only[ct,wX,Wj,aP]at e;rw[e]at h1;cases h1
   |cons q c=>
    have:=Vd List.length e;simp[ct,aP]at this
 .rintro rfl;rfl
def GP{s:List Nat}{l:List (List Nat)}{b:Nat}(hb:∀p∈l,p.length<=b)(h:l.length*(b+s.length)<=100000):cI .join (.str s) [.lst (l.map V.str)]=some (.str (aP s l)):=by
 have hs':strsOf (l.map V.str)=some l:=by simpa using lQ (λx=>x) l
 have h1:∀{l:List (List Nat)},(∀p∈l,p.length<=b)->(l.map (·.length)).sum<=l.length*b:=λ{l}=>by
  induction l with
  |nil=>simp
  |cons p l ih=>
   intro h;have h2:=ih λq hq=>h q (by simp[hq]);have h3:=h p (by simp);simp only[wX,List.sum_cons,Vg,WG];omega
 have h2:(l.map (·.length)).sum+l.length*s.length<=big:=aT (by have:=h1 hb;rw[Nat.mul_add]at h;omega)
 delta cI;dsimp only;simp only[pD,hs',Option.bind];rw[b8 h2]
theorem qg(t:List Nat):∀l:List (List Nat),mem (.str t) (l.map V.str)=some (l.contains t)
 |[]=>rfl
 |x :: l=>by
  rw[wX,mem_cons,qg t l,sD];show some (decide (x=t) ||l.contains t)=_;rw[WW]
  congr 2
  by_cases h:x=t
  .simp[h]
  .rw[Up h];simp;exact λz=>h z.symm
section
variable{F:List Fn}{w n i:Nat}
def xg{k:Nat}(h:k<=99):dM .fK [.int (k:Int)]=some (.str (Ev.dw k)):=by
 delta dM;dsimp only;rw[b8 (by omega)]
def kg(h:F[i]?=some mF){c:List Pt}(hc:Wide c):run F w (n+1) i [.val (iM c)]=some (.str (ct c),[]):=by
 have hl:=hc.len;have rq:bu (cQ (run F w n) (.bin .add (.eS [(.str [107,101,101,112],.str [61]),(.str [112,117,116],.str [43]),(.str [100,114,111,112],.str [45])] (.v 1)) (.bi .fK (.cons (.v 2) .nil))) (.many [1,2]) .no [some (.val (iM c)),none,none]) (c.map Pt.v)=some (c.map λp=>.str p.t):=
  eB _ _ _ λp h'=>by
   have hp:=hc.pt p h';have ht:=(nW hp).2.1;cases p with
   |keep k=>exact cC rfl (aH (jb (ay rfl) rfl) (fC (ao (ay rfl) aE) (xg hp.2)) (bI (by simp[Pt.t]at ht ⊢;omega)))
   |put s=>exact cC rfl (aH (jb (ay rfl) rfl) (fC (ao (ay rfl) aE) rfl) (bI (by simp[Pt.t]at ht ⊢;omega)))
   |drop s=>exact cC rfl (aH (jb (ay rfl) rfl) (fC (ao (ay rfl) aE) rfl) (bI (by simp[Pt.t]at ht ⊢;omega)))
 have hj:cI .join (.str [47]) [.lst (c.map λp=>V.str p.t)]=some (.str (ct c)):=by
  have:=GP (s:=[47]) (l:=c.map Pt.t) (b:=9) (λp hp=>by
   obtain⟨q,h3,rfl⟩:=List.mem_map.mp hp;exact(nW (hc.pt q h3)).2.1) (by simp;omega)
  rwa [VJ]at this
 exact bW h rfl (az (bX (gO rfl (av rfl) (ao (dD (ee (gm rfl) rfl) rfl rq (bF (aT (by simp;omega)))) aE) hj) ⟨rfl,rfl⟩))
noncomputable def rt(rows:List (List Pt)):List Nat:=(rows.map λc=>ct c++[10]).flatten
end
noncomputable def xW:S:=.ret (.an (.ch .le .le (.c (.int 1)) (.bi .len (.cons (.v 0) .nil)) (.c (.int 6))) (.bi .all (.cons (.comp (.cmp .isin (.v 1) (.c (.str [97,98,99,100,101,102,103,104,105,106,107,108,109,110,111,112,113,114,115,116,117,118,119,120,121,122]))) (.one 1) (.seq (.v 0)) .no) .nil)))
noncomputable def uu:Fn:=⟨1,2,(.cons xW .nil)⟩
noncomputable def sI(jl:Nat):S:=.ret (.me .join (.c (.str [])) (.cons (.comp (.bin .add (.bin .add (.bin .add (.v 1) (.c (.str [58,32]))) (.cl jl (.cons (.v 2) .nil))) (.c (.str [10]))) (.many [1,2]) (.seq (.v 0)) .no) .nil))
noncomputable def xj(jl:Nat):Fn:=⟨1,3,(.cons (sI jl) .nil)⟩
noncomputable def sJ(lT:Nat)(kG:Nat):S:=.ret (.comp (.cl kG (.cons (.v 1) .nil)) (.one 1) (.seq (.cl lT (.cons (.v 0) .nil))) .no)
noncomputable def nX(lT:Nat)(kG:Nat):Fn:=⟨1,2,(.cons (sJ lT kG) .nil)⟩
noncomputable def zp(s:List Nat):Bool:=(decide (1<=s.length)&&decide (s.length<=8))&&s.all λx=>sgn.contains x
noncomputable def CT:Pt->Bool
 |.keep n=>decide (1<=n)&&decide (n<=99)
 |.put s=>zp s
 |.drop s=>zp s
noncomputable def mG(c:List Pt):Bool:=decide (c.length<=12)&&c.all CT
def CU(p:Pt):CT p=true↔WP p:=by
 cases p<;>simp[CT,WP,zp,WS,and_assoc]
def CV(c:List Pt):mG c=true↔Wide c:=by
 unfold mG;rw[gQ,VC,V1];constructor
 .rintro⟨h1,h2⟩;exact⟨h1,λp hp=>(CU p).mp (h2 p hp)⟩
 .rintro⟨h1,h2⟩;exact⟨h1,λp hp=>(CU p).mpr (h2 p hp)⟩
def sL{α:Type}(f:α->Bool)(l:List α):dM .all [.lst (l.map λc=>.bl (f c))]=some (.bl (l.all f)):=by
 rw[Jj,xF f l];show some (V.bl _)=_;simp[List.all_map,Function.comp_def]
section
variable{F:List Fn}{w n i:Nat}
def xq(h:F[i]?=some iu)(k:Nat):run F w (n+1) i [.val (.int k)]=some (.bl (decide (1<=k)&&decide (k<=99)),[]):=by
 refine bW h rfl (az (bR (b:=false) (gE (aM rfl (j8 (ay rfl) rfl) rfl) (gP (b:=true) (aM rfl (j8 (ay rfl) rfl) rfl))) (λh=>absurd h (by decide)) λ_=>bT ?_));refine az (bX (Nd (b1:=decide (1<=k)) (b2:=decide (1<=k)&&decide (k<=99)) (z:=.int 99) (av rfl) (ay rfl) ?_ (λh=>⟨av rfl,?_⟩) λh=>?_) ⟨rfl,rfl⟩)
 .rw[wO];congr 1;exact decide_eq_decide.mpr (by omega)
 .rw[wO,h,Bool.true_and];congr 1;exact decide_eq_decide.mpr (by omega)
 .rw[h,Xx]
def CW{P:aB}{fr:Fr}{s:List Nat}{a:E}{m:Nat}{k:Bool}(h:ev P true a fr=.ok (.str s) fr)(hs:s.length<=100000)(ht:bh a=[]) :
  ev P k (.ch .le .le (.c (.int 1)) (.bi .len (.cons a .nil)) (.c (.int (m:Nat)))) fr=.ok (.bl (decide (1<=s.length)&&decide (s.length<=m))) fr:=by
 refine Nd (b1:=decide (1<=s.length)) (z:=.int (m:Nat)) (av rfl) (fC (ao ?_ aE) (len_str hs)) ?_ (λh=>⟨av rfl,?_⟩) λh=>?_
 .simpa using h
 .rw[wO];congr 1;exact decide_eq_decide.mpr (by omega)
 .rw[wO,h,Bool.true_and];congr 1;exact decide_eq_decide.mpr (by omega)
 .rw[h,Xx]
def nY(h:F[i]?=some iw)(s:List Nat)(hs:s.length<=10000):run F w (n+1) i [.val (.str s)]=some (.bl (zp s),[]):=by
 have hl:=CW (P:=run F w n) (fr:=[some (.val (.str s)),none]) (s:=s) (a:=.v 0) (m:=8) (k:=true) (ay rfl) (by omega) rfl;refine bW h rfl (az (bR (b:=!(decide (1<=s.length)&&decide (s.length<=8))) (gE (gP (b:=true) (aM rfl (j8 (ay rfl) rfl) rfl)) (gP (aM rfl hl rfl))) (λh=>?_) λh=>bT ?_))
 .refine az (bX (av rfl) ⟨?_,rfl⟩);have:(decide (1<=s.length)&&decide (s.length<=8))=false:=by cases z:(decide (1<=s.length)&&decide (s.length<=8))with|false=>rfl|true=>rw[z]at h;cases h
  unfold zp;rw[this];rfl
 .have h2:(decide (1<=s.length)&&decide (s.length<=8))=true:=by simpa using h
  have hc:bu (cQ (run F w n) (.cmp .isin (.v 1) (.c (.str sgn))) (.one 1) .no [some (.val (.str s)),none]) (s.map λc=>.str [c])=some (s.map λc=>.bl (sgn.contains c)):=
   eB _ _ _ λc _=>cC rfl (br (ay rfl) (av rfl) wH)
  refine az (bX (fC (ao (dD (ee (gm rfl) rfl) rfl hc (bF (aT (by simp;omega)))) aE) (sL _ _)) ⟨?_,rfl⟩);unfold zp;rw[h2];rfl
def xr{cD cE:Nat}(hk:F[cD]?=some iu)(hs:F[cE]?=some iw)(h:F[i]?=some (fk cD cE))(p:Pt)(hp:p.n<=10000):run F w (n+2) i [.val p.v]=some (.bl (CT p),[]):=by
 refine bW h rfl ?_;have st:∀a b v,Wp (exs (run F w (n+1)) w (.cons (pG cD) (.cons (pH cE) .nil)) [some (.val (.tup [a,b]))]) (λg fr=>g=.ret v/\outs 1 fr=[])->Wp (exs (run F w (n+1)) w (fk cD cE).body (cZ (fk cD cE) [.val (.tup [a,b])])) λg fr=>g=.ret v/\outs (fk cD cE).np fr=[]:=λa b v q=>
  az (bR (b:=false) (gE (gP (b:=true) (aM rfl (j8 (ay rfl) rfl) rfl)) (aM rfl (br (fC (ao (ay rfl) aE) sE) (av rfl) GI) rfl)) (λh=>absurd h (by decide)) λ_=>bT q)
 cases p with
 |keep k=>
  exact st _ _ _ (az (bR (b:=true) (aM rfl (br (cW (ay rfl) (av rfl) rfl) (av rfl) fL) rfl) (λ_=>az (bX (bN (aJ rfl (cW (ay rfl) (av rfl) rfl) aL) (cg (xq hk k))) ⟨rfl,rfl⟩)) λh=>absurd h (by decide)))
 |put s=>
  exact st _ _ _ (az (bR (b:=false) (aM rfl (br (cW (ay rfl) (av rfl) rfl) (av rfl) fL) rfl) (λh=>absurd h (by decide)) λ_=>bT (az (bX (uO (br (cW (ay rfl) (av rfl) rfl) (fB (ao (av rfl) (ao (av rfl) aE)) gk) rfl) (bN (aJ rfl (cW (ay rfl) (av rfl) rfl) aL) (cg (nY hs s hp)))) ⟨rfl,rfl⟩))))
 |drop s=>
  exact st _ _ _ (az (bR (b:=false) (aM rfl (br (cW (ay rfl) (av rfl) rfl) (av rfl) fL) rfl) (λh=>absurd h (by decide)) λ_=>bT (az (bX (uO (br (cW (ay rfl) (av rfl) rfl) (fB (ao (av rfl) (ao (av rfl) aE)) gk) rfl) (bN (aJ rfl (cW (ay rfl) (av rfl) rfl) aL) (cg (nY hs s hp)))) ⟨rfl,rfl⟩))))
def sM{cD cE dO:Nat}(hk:F[cD]?=some iu)(hs:F[cE]?=some iw)(hp:F[dO]?=some (fk cD cE))(h:F[i]?=some (gF dO))(c:List Pt)(hl:c.length<=10000)(ht:tot c<=10000):run F w (n+3) i [.val (iM c)]=some (.bl (mG c),[]):=by
 have rq:bu (cQ (run F w (n+2)) (.cl dO (.cons (.v 1) .nil)) (.one 1) .no [some (.val (iM c)),none]) (c.map Pt.v)=some (c.map λp=>.bl (CT p)):=
  eB _ _ _ λp h'=>cC rfl (bN (aJ rfl (ay rfl) aL) (cg (xr hk hs hp p (Uc (RX h') ht))))
 refine bW h rfl (az (bR (b:=!decide (c.length<=12)) (gE (gP (b:=true) (aM rfl (j8 (ay rfl) rfl) rfl)) (aM rfl (br (fC (ao (ay rfl) aE) sE) (av rfl) EC) ?_)) (λh=>?_) λh=>bT ?_))
 .show decide _=_;rw[<-decide_not];exact decide_eq_decide.mpr (by simp;omega)
 .have h2:decide (c.length<=12)=false:=by simpa using h
  refine az (bX (av rfl) ⟨?_,rfl⟩);unfold mG;rw[h2];rfl
 .have h2:decide (c.length<=12)=true:=by simpa using h
  refine az (bX (fC (ao (dD (ee (gm rfl) rfl) rfl rq (bF (aT (by simp;omega)))) aE) (sL _ _)) ⟨?_,rfl⟩);unfold mG;rw[h2];rfl
noncomputable def pI:List Nat:=[97,98,99,100,101,102,103,104,105,106,107,108,109,110,111,112,113,114,115,116,117,118,119,120,121,122]
structure NW(o:List Nat):Prop where
 pos:1<=o.length
 le:o.length<=6
 al:∀x∈o,pI.contains x=true
structure WR(r:Row):Prop where
 nm:NW r.1
 wd:Wide r.2
noncomputable def ol(r:Row):List Nat:=r.1++(58 :: 32 :: ct r.2)
noncomputable def ot(rows:List Row):List Nat:=(rows.map λr=>ol r++[10]).flatten
def CY{x:Nat}(h:pI.contains x=true):x≠58/\x≠10:=by
 constructor <;> (intro e;subst e;revert h;decide)
def Pc{r:Row}(h:WR r):10∉ol r:=λz=>by
 unfold ol at z;rcases List.mem_append.mp z with z|z
 .exact(CY (h.nm.al _ z)).2 rfl
 .simp only[VW]at z;rcases z with z|z|z
  .exact absurd z (by decide)
  .exact absurd z (by decide)
  .exact Pb h.wd z
def Ng{r:Row}(h:WR r):(ol r).length<=128:=by
 have h1:=rm h.wd;have h2:=h.nm.le;simp[ol];omega
theorem zu{r:List Nat}:∀(o:List Nat) (k:Nat),(∀x∈o,x≠58)->Ev.findS [58,32] k (o++58 :: 32 :: r)=some (k+o.length)
 |[],k,_=>by simp[Ev.findS]
 |x :: o,k,h=>by
  have hx:=h x (by simp);have ih:=zu (r:=r) o (k+1) λy hy=>h y (by simp[hy]);rw[VO,Ev.findS,SA (λz=>by simp at z;exact hx z.1),ih];simp;omega
theorem lA:∀{rows:List Row},(∀r∈rows,WR r)->(ot rows).length<=rows.length*129
 |[],_=>by simp[ot]
 |r :: rows,h=>by
  have h1:=Ng (h r (by simp));have h2:=lA (rows:=rows) λx hx=>h x (by simp[hx]);simp only[ot,wX,Vu,Ve,Vg,VS]at h2 ⊢;rw[WG];omega
def sN{AR:Nat}(ht:F[AR]?=some mF)(h:F[i]?=some (xj AR)){rows:List Row}(hr:∀r∈rows,WR r)(hl:rows.length<=100):run F w (n+2) i [.val (.lst (rows.map cG))]=some (.str (ot rows),[]):=by
 have rq:bu (cQ (run F w (n+1)) (.bin .add (.bin .add (.bin .add (.v 1) (.c (.str [58,32]))) (.cl AR (.cons (.v 2) .nil))) (.c (.str [10]))) (.many [1,2]) .no [some (.val (.lst (rows.map cG))),none,none]) (rows.map cG)=some (rows.map λr=>.str (ol r++[10])):=
  eB _ _ _ λr h'=>by
   have h1:=rm (hr r h').wd;have h2:=(hr r h').nm.le;refine cC rfl (aH (aH (aH (ay rfl) (av rfl) (bI (by simp;omega))) (bN (aJ rfl (ay rfl) aL) (cg (kg ht (hr r h').wd))) (bI (by simp;omega))) (av rfl) ((bI (by simp;omega)).trans ?_));simp[ol]
 have hj:cI .join (.str []) [.lst (rows.map λr=>V.str (ol r++[10]))]=some (.str (ot rows)):=by
  have h1:=lA hr;have:=uL (l:=rows.map λr=>ol r++[10]) (by unfold ot at h1;omega)
  rwa [VJ]at this
 exact bW h rfl (az (bX (gO rfl (av rfl) (ao (dD (ee (gm rfl) rfl) rfl rq (bF (aT (by simp;omega)))) aE) hj) ⟨rfl,rfl⟩))
def E4{rows:List Row}(hr:∀r∈rows,WR r):Ev.aD 10 (ot rows)=rows.map ol++[[]]:=by
 have:=kF (c:=10) (ps:=rows.map ol) λp hp=>by
  obtain⟨c,h1,rfl⟩:=List.mem_map.mp hp;exact Pc (hr c h1)
 rw[VJ]at this;exact this
end
end Pv
namespace Pv
open Ev (D aQ aK TY BI ME T E Es Eo It S Ss Fn deep big rep aP cut bg)
noncomputable def qh(kx:Nat):S:=.iff (.cmp .eq (.v 0) (.c (.str []))) (.cons (.ret (.tup .nil)) .nil) .nil
noncomputable def qi(kx:Nat)(kH:Nat):S:=.set 1 (.fc (.comp (.cl kH (.cons (.v 2) .nil)) (.one 2) (.seq (.gq (.ju (.v 0) (.c (.str [47]))))) .no))
noncomputable def qj(kx:Nat)(kI:Nat):S:=.iff (.nt (.cl kI (.cons (.v 1) .nil))) (.cons (.b9 kx) .nil) .nil
noncomputable def qk(kx:Nat):S:=.ret (.v 1)
noncomputable def gn(kx:Nat)(kH:Nat)(kI:Nat):Fn:=⟨1,3,(.cons (qh kx) (.cons ((qi kx) kH) (.cons ((qj kx) kI) (.cons (qk kx) .nil))))⟩
noncomputable def sO(kx:Nat):S:=.iff (.cmp .di (.bin .add (.sl (.v 0) .no (.yes (.c (.int 1)))) (.c (.str []))) (.c (.tup [.str [61],.str [43],.str [45]]))) (.cons (.b9 kx) .nil) .nil
noncomputable def sP(kx:Nat):S:=.set 1 (.eS [(.str [61],.str [107,101,101,112]),(.str [43],.str [112,117,116]),(.str [45],.str [100,114,111,112])] (.sl (.v 0) .no (.yes (.c (.int 1)))))
noncomputable def sQ(kx:Nat)(jm:Nat):S:=.iff (.cmp .eq (.v 1) (.c (.str [107,101,101,112]))) (.cons (.ret (.tup (.cons (.v 1) (.cons (.cl jm (.cons (.sl (.v 0) (.yes (.c (.int 1))) .no) .nil)) .nil)))) .nil) .nil
noncomputable def sR(kx:Nat):S:=.ret (.tup (.cons (.v 1) (.cons (.sl (.v 0) (.yes (.c (.int 1))) .no) .nil)))
noncomputable def eV(kx:Nat)(jm:Nat):Fn:=⟨1,2,(.cons (sO kx) (.cons (sP kx) (.cons ((sQ kx) jm) (.cons (sR kx) .nil))))⟩
noncomputable def ql(kx:Nat):S:=.iff (.cmp .di (.v 0) (.comp (.bi .fK (.cons (.v 1) .nil)) (.one 1) (.eW (.cons (.c (.int 1)) (.cons (.bin .add (.c (.int 99)) (.c (.int 1))) .nil))) .no)) (.cons (.b9 kx) .nil) .nil
noncomputable def qm(kx:Nat):S:=.ret (.bi .lD (.cons (.v 0) .nil))
noncomputable def dU(kx:Nat):Fn:=⟨1,2,(.cons (ql kx) (.cons (qm kx) .nil))⟩
noncomputable def uD(kx:Nat):S:=.set 1 (.gq (.ju (.v 0) (.c (.str [10]))))
noncomputable def uE(kx:Nat):S:=.iff (.cmp .ne (.me .pop (.v 1) .nil) (.c (.str []))) (.cons (.b9 kx) .nil) .nil
noncomputable def uF(kx:Nat):S:=.ret (.v 1)
noncomputable def iW(kx:Nat):Fn:=⟨1,2,(.cons (uD kx) (.cons (uE kx) (.cons (uF kx) .nil)))⟩
noncomputable def sS(kx:Nat):S:=.set 1 (.me .part (.v 0) (.cons (.c (.str [58,32])) .nil))
noncomputable def sU(kx:Nat)(nZ:Nat):S:=.iff (.orr (.cmp .eq (.ix (.v 1) (.c (.int 1))) (.c (.str []))) (.nt (.cl nZ (.cons (.ix (.v 1) (.c (.int 0))) .nil)))) (.cons (.b9 kx) .nil) .nil
noncomputable def sV(kx:Nat)(jn:Nat):S:=.ret (.tup (.cons (.ix (.v 1) (.c (.int 0))) (.cons (.cl jn (.cons (.ix (.v 1) (.c (.int 2))) .nil)) .nil)))
noncomputable def gb(kx:Nat)(nZ:Nat)(jn:Nat):Fn:=⟨1,2,(.cons (sS kx) (.cons ((sU kx) nZ) (.cons ((sV kx) jn) .nil)))⟩
open Classical in
noncomputable def iN(t:List Nat):Option Nat:=if h:∃k,1<=k/\k<=99/\t=Ev.dw (k:Nat)then some h.choose else none
def jY{t:List Nat}{k:Nat}(h:iN t=some k):1<=k/\k<=99/\t=Ev.dw k:=by
 unfold iN at h;split at h
 .rename_i q;cases h;exact q.choose_spec
 .cases h
def E5{j k:Nat}(hj:j<=99)(hk:k<=99)(e:Ev.dw (j:Nat)=Ev.dw (k:Nat)):j=k:=by
 have h1:=(dg hj).nm;have h2:=(dg hk).nm;rw[e,h2]at h1;have:=lz h1;omega
def CZ{k:Nat}(h1:1<=k)(h2:k<=99):iN (Ev.dw k)=some k:=by
 have q:∃k',1<=k'/\k'<=99/\Ev.dw (k:Nat)=Ev.dw (k':Nat):=⟨k,h1,h2,rfl⟩
 unfold iN;rw[dif_pos q];have:=q.choose_spec;rw[<-E5 h2 this.2.1 this.2.2]
def E6{t:List Nat}(h:iN t=none):∀k,1<=k->k<=99->t≠Ev.dw (k:Nat):=λk h1 h2 e=>by
 rw[e,CZ h1 h2]at h;cases h
noncomputable def iy:List Nat->Option Pt
 |61 :: r=>(iN r).map .keep
 |43 :: r=>some (.put r)
 |45 :: r=>some (.drop r)
 |_=>none
def GQ{t:List Nat}{p:Pt}(h:iy t=some p):p.t=t:=by
 unfold iy at h;split at h
 .obtain⟨k,e,rfl⟩:=Option.map_eq_some_iff.mp h;rw[Pt.t,(jY e).2.2]
 .cases h;rfl
 .cases h;rfl
 .cases h
def Nh{p:Pt}(h:WP p):iy p.t=some p:=by
 cases p with
 |keep k=>show(iN (Ev.dw k)).map _=_;rw[CZ h.1 h.2];rfl
 |put s=>rfl
 |drop s=>rfl
def Pd{t:List Nat}{p:Pt}(h:iy t=some p):p.n<=99+t.length:=by
 have e:=GQ h;cases p with
 |keep k=>
  unfold iy at h;split at h
  .obtain⟨k',e',z⟩:=Option.map_eq_some_iff.mp h;cases z;have:=(jY e').2.1;simp only[Pt.n];omega
  all_goals cases h
 |put s=>rw[<-e];simp[Pt.n,Pt.t];omega
 |drop s=>rw[<-e];simp[Pt.n,Pt.t];omega
noncomputable def cL{α β:Type}(f:α->Option β):List α->Option (List β)
 |[]=>some []
 |x :: l=>(f x).bind λp=>(cL f l).map λr=>p :: r
theorem iG{α β:Type}{f:α->Option β}:∀{l:List α}{c:List β},cL f l=some c->l.map f=c.map some
 |[],c,h=>by cases h;rfl
 |x :: l,c,h=>by
  simp only[cL]at h;obtain⟨p,e1,h⟩:=Option.bind_eq_some_iff.mp h;obtain⟨r,e2,rfl⟩:=Option.map_eq_some_iff.mp h;rw[wX,wX,e1,iG e2]
theorem lU{α β:Type}{f:α->Option β}:∀{l:List α},cL f l=none->∃l1 v l2,l=l1++v :: l2/\(∀a∈l1,∃p,f a=some p)/\f v=none
 |[],h=>by cases h
 |x :: l,h=>by
  cases e1:f x with
  |none=>exact⟨[],x,l,rfl,by simp,e1⟩
  |some p=>
   have e2:cL f l=none:=by
    cases z:cL f l with
    |none=>rfl
    |some r=>simp only[cL,e1,z]at h;cases h
   obtain⟨l1,v,l2,q1,q2,q3⟩:=lU e2;exact⟨x :: l1,v,l2,by rw[q1];rfl,λa ha=>by
    rcases List.mem_cons.mp ha with rfl|ha
    .exact⟨p,e1⟩
    .exact q2 a ha,q3⟩
theorem qo{α β:Type}{f:α->Option β}{g:β->α}:∀{c:List β},(∀p∈c,f (g p)=some p)->cL f (c.map g)=some c
 |[],_=>rfl
 |p :: c,h=>by
  simp only[wX,cL,h p (by simp),qo (c:=c) λq hq=>h q (by simp[hq]),Option.bind,Option.map]
theorem join_split{c:Nat}:∀s:List Nat,aP [c] (Ev.aD c s)=s/\Ev.aD c s≠[]
 |[]=>⟨rfl,by simp[Ev.aD]⟩
 |x :: s=>by
  obtain⟨h1,h2⟩:=join_split (c:=c) s;unfold Ev.aD;by_cases e:x=c
  .rw[b8 e];refine⟨?_,by simp⟩;cases hs:Ev.aD c s with
   |nil=>exact absurd hs h2
   |cons p ps=>rw[hs]at h1;simp only[aP];rw[h1,e];rfl
  .rw[SA e];cases hs:Ev.aD c s with
   |nil=>exact absurd hs h2
   |cons p ps=>
    rw[hs]at h1;refine⟨?_,by simp⟩;cases ps with
    |nil=>simp only[aP]at h1 ⊢;rw[h1]
    |cons q qs=>simp only[aP]at h1 ⊢;rw[<-h1];simp
theorem V8{c:Nat}:∀s:List Nat,(∀p∈Ev.aD c s,p.length<=s.length)/\(Ev.aD c s).length<=s.length+1
 |[]=>by simp[Ev.aD]
 |x :: s=>by
  obtain⟨h1,h2⟩:=V8 (c:=c) s;unfold Ev.aD;split
  .refine⟨λp hp=>?_,by simp;omega⟩;rcases List.mem_cons.mp hp with rfl|hp
   .simp
   .have:=h1 p hp;simp;omega
  .cases hs:Ev.aD c s with
   |nil=>simp
   |cons q qs=>
    rw[hs]at h1 h2;refine⟨λp hp=>?_,by simpa using Yi h2⟩;rcases List.mem_cons.mp hp with rfl|hp
    .have:=h1 q (by simp);simp;omega
    .have:=h1 p (by simp[hp]);simp;omega
noncomputable def jZ(t:List Nat):Option (List Pt):=if t=[]then some []else (cL iy (Ev.aD 47 t)).bind λc=>if mG c=true then some c else none
def Pe{l:List (List Nat)}{c:List Pt}(h:l.map iy=c.map some):c.map Pt.t=l:=by
 induction l generalizing c with
 |nil=>cases c with|nil=>rfl|cons p c=>simp at h
 |cons x l ih=>
  cases c with
  |nil=>simp at h
  |cons p c=>
   simp only[wX,Wg]at h;rw[wX,GQ h.1,ih h.2]
def E7{t:List Nat}{c:List Pt}(h:jZ t=some c):Wide c/\ct c=t:=by
 unfold jZ at h;split at h
 .rename_i e;cases h;exact⟨⟨by simp,by simp⟩,by rw[e];rfl⟩
 .obtain⟨c',e1,e2⟩:=Option.bind_eq_some_iff.mp h;split at e2
  .rename_i hw;cases e2;refine⟨(CV _).mp hw,?_⟩;rw[ct,Pe (iG e1)];exact(join_split t).1
  .cases e2
def Ni{c:List Pt}(h:Wide c):jZ (ct c)=some c:=by
 unfold jZ;by_cases h0:c=[]
 .subst h0;rfl
 .rw[SA λz=>h0 ((Nf h).mp z),E3 h h0,qo λp hp=>Nh (h.pt p hp)];show(if mG c=true then some c else none)=_;rw[b8 ((CV c).mpr h)]
noncomputable def kh(o:List Nat):Bool:=(decide (1<=o.length)&&decide (o.length<=6))&&o.all λx=>pI.contains x
def C1(o:List Nat):kh o=true↔NW o:=by
 unfold kh;simp only[gQ,VC,V1];exact⟨λ⟨⟨a,b⟩,c⟩=>⟨a,b,c⟩,λh=>⟨⟨h.pos,h.le⟩,h.al⟩⟩
theorem find_some{y:List Nat}:∀(l:List Nat) (k i:Nat),y≠[]->Ev.findS y k l=some i->k<=i/\(l.drop (i - k)).take y.length=y
 |[],k,i,hy,h=>by
  unfold Ev.findS at h;rw[SA hy]at h;cases h
 |x :: l,k,i,hy,h=>by
  unfold Ev.findS at h;split at h
  .rename_i e;cases h;simpa using e
  .obtain⟨a,b⟩:=find_some l (k+1) i hy h;refine⟨by omega,?_⟩;rw[show i - k=(i - (k+1))+1 by omega];simpa using b
noncomputable def gc(t:List Nat):Option Row:=match Ev.findS [58,32] 0 t with
 |some i=>if kh (t.take i)=true then (jZ (t.drop (i+2))).map λc=>(t.take i,c)else none
 |none=>none
def E8{t:List Nat}{r:Row}(h:gc t=some r):WR r/\ol r=t:=by
 unfold gc at h;split at h
 .rename_i i e;split at h
  .rename_i hn;obtain⟨c,e1,rfl⟩:=Option.map_eq_some_iff.mp h;obtain⟨h1,h2⟩:=E7 e1;refine⟨⟨(C1 _).mp hn,h1⟩,?_⟩;show t.take i++(58 :: 32 :: ct c)=t;obtain⟨_,h3⟩:=find_some t 0 i (by simp) e;rw[h2];have h4:t.drop i=[58,32]++t.drop (i+2):=by
    have:=(XD 2 (t.drop i)).symm;rw[WQ]at this;rw[X4]at h3;rw[show(t.drop i).take 2=[58,32]from h3]at this;exact this
   calc t.take i++(58 :: 32 :: t.drop (i+2))=t.take i++t.drop i:=by rw[h4];rfl
    _=t:=XD i t
  .cases h
 .cases h
def Nj{r:Row}(h:WR r):gc (ol r)=some r:=by
 have e:Ev.findS [58,32] 0 (ol r)=some r.1.length:=by
  have:=zu (r:=ct r.2) r.1 0 λx hx=>(CY (h.nm.al x hx)).1;rw[Xb]at this;exact this
 unfold gc;rw[e];have h1:(ol r).take r.1.length=r.1:=by unfold ol;simp
 have h2:(ol r).drop (r.1.length+2)=ct r.2:=by unfold ol;simp
 show(if kh ((ol r).take r.1.length)=true then _ else _)=_;rw[h1,h2,b8 ((C1 _).mpr h.nm),Ni h.wd];rfl
theorem rA:∀(ls:List (List Nat)),aP [10] (ls++[[]])=(ls.map λp=>p++[10]).flatten
 |[]=>rfl
 |l :: ls=>by
  have ih:=rA ls;cases hs:ls++[[]]with
  |nil=>simp at hs
  |cons q qs=>
   rw[hs]at ih;rw[VO,hs,wX,Vu,<-ih];simp only[aP]
noncomputable def sW(t:List Nat):Option (List (List Nat)):=if (Ev.aD 10 t).getLast?=some []then some (Ev.aD 10 t).dropLast else none
def iH(t:List Nat):∃ls l,Ev.aD 10 t=ls++[l]:=by
 have:=(join_split (c:=10) t).2;exact⟨(Ev.aD 10 t).dropLast,(Ev.aD 10 t).getLast this,(List.dropLast_concat_getLast this).symm⟩
def gp{t:List Nat}{ls:List (List Nat)}{l:List Nat}(e:Ev.aD 10 t=ls++[l]):sW t=if l=[]then some ls else none:=by
 unfold sW;rw[e];simp
noncomputable def eG(t:List Nat):Option (List Row):=(sW t).bind λls=>cL gc ls
def Nk{l:List (List Nat)}{c:List Row}(h:l.map gc=c.map some):c.map ol=l/\∀r∈c,WR r:=by
 induction l generalizing c with
 |nil=>cases c with|nil=>exact⟨rfl,by simp⟩|cons p c=>simp at h
 |cons x l ih=>
  cases c with
  |nil=>simp at h
  |cons p c=>
   simp only[wX,Wg]at h;obtain⟨a,b⟩:=E8 h.1;obtain⟨a2,b2⟩:=ih h.2;exact⟨by rw[wX,b,a2],λr hr=>by
    rcases List.mem_cons.mp hr with rfl|hr
    .exact a
    .exact b2 r hr⟩
def E9{t:List Nat}{rows:List Row}(h:eG t=some rows):(∀r∈rows,WR r)/\ot rows=t:=by
 unfold eG at h;obtain⟨ls,e1,e2⟩:=Option.bind_eq_some_iff.mp h;obtain⟨ls',l,e3⟩:=iH t;rw[gp e3]at e1;split at e1
 .rename_i e4;cases e1;subst e4;obtain⟨a,b⟩:=Nk (iG e2);refine⟨b,?_⟩;have h5:=(join_split (c:=10) t).1;rw[e3,rA,<-a,VJ]at h5;exact h5
 .cases e1
def rB{rows:List Row}(h:∀r∈rows,WR r):eG (ot rows)=some rows:=by
 unfold eG;rw[gp (E4 h),b8 rfl];exact qo λr hr=>Nj (h r hr)
section
variable{F:List Fn}{w n i kx:Nat}
def cX{F:List Fn}{w n:Nat}:∀f sl c,bH F w n f sl=some c->run F w n f sl=none:=nN F w n
def zv{t:List Nat}:bu (cQ (run F w n) (.bi .fK (.cons (.v 1) .nil)) (.one 1) .no [some (.val (.str t)),none]) ((List.range 99).map λ(j:Nat)=>V.int (1+j))=some (((List.range 99).map λ(j:Nat)=>Ev.dw ((1+j:Nat):Int)).map V.str):=by
 rw[VJ];refine eB _ _ _ λj hj=>cC rfl (fC (ao (ay rfl) aE) ?_);have:=List.mem_range.mp hj;rw[show(1:Int)+(j:Int)=((1+j:Nat):Int)by simp];exact xg (by omega)
def zw(t:List Nat):cop .di (.str t) (.lst (((List.range 99).map λ(j:Nat)=>Ev.dw ((1+j:Nat):Int)).map V.str))=some (iN t).isNone:=by
 rw[uq,Ew,qg];show some (!_)=_
 congr 1
 cases hr:iN t with
 |some k=>
  obtain⟨h1,h2,h3⟩:=jY hr;rw[show((List.range 99).map λ(j:Nat)=>Ev.dw ((1+j:Nat):Int)).contains t=true from ?_];rfl;rw[XF];exact List.mem_map.mpr ⟨k - 1,by simp;omega,by rw[h3];congr 1;omega⟩
 |none=>
  rw[show((List.range 99).map λ(j:Nat)=>Ev.dw ((1+j:Nat):Int)).contains t=false from ?_];rfl;cases hc:((List.range 99).map λ(j:Nat)=>Ev.dw ((1+j:Nat):Int)).contains t with
  |false=>rfl
  |true=>
   rw[XF]at hc;obtain⟨j,hj,e⟩:=List.mem_map.mp hc;have:=List.mem_range.mp hj;exact absurd e.symm (E6 hr (1+j) (by omega) (by omega))
def zx:dP [.int 1,.int (99+1)]=some ((List.range 99).map λ(j:Nat)=>V.int (1+j)):=RJ (by decide) (by decide) (by decide) (by decide)
def Nl(h:F[i]?=some (dU kx)){t:List Nat}{k:Nat}(hk:iN t=some k):run F w (n+1) i [.val (.str t)]=some (.int k,[]):=by
 obtain⟨h1,h2,h3⟩:=jY hk;have hin:=zw t;rw[hk]at hin;refine bW h rfl (az (bR (b:=false) (aM rfl (br (ay rfl) (dD (jX (ao (av rfl) (ao (aH (av rfl) (av rfl) bz) aE)) zx) rfl zv (bF (aT (by simp)))) hin) rfl) (λh=>absurd h (by decide)) λ_=>bT ?_));exact az (bX (fC (ao (ay rfl) aE) (by delta dM;dsimp only;rw[h3,(dg h2).nm];rfl)) ⟨rfl,rfl⟩)
def JJ(h:F[i]?=some (dU kx)){t:List Nat}(hk:iN t=none):bH F w (n+1) i [.val (.str t)]=some kx:=by
 have hin:=zw t;rw[hk]at hin;refine oZ h rfl (cR cX (lR (b:=true) (aM rfl (br (ay rfl) (dD (jX (ao (av rfl) (ao (aH (av rfl) (av rfl) bz) aE)) zx) rfl zv (bF (aT (by simp)))) hin) rfl) ?_));rw[b8 rfl];exact cR cX oY
def zy{P:aB}{X:bS}{k:Bool}{e:E}{es:Es}{fr af:Fr}{v:V}{c:Nat}(h:ev P (k&&kf e (eF es)) e fr=.ok v af)(q:kX P X k es af=some c):kX P X k (.cons e es) fr=some c:=by
 simp only[kX,h];exact q
def zz{P:aB}{X:bS}{k:Bool}{e:E}{es:Es}{fr:Fr}{c:Nat}(hX:∀f sl c,X f sl=some c->P f sl=none)(q:xe P X e fr=some c):kX P X k (.cons e es) fr=some c:=by
 simp only[kX,(bU hX e q).1];exact q
def zA{P:aB}{a:E}{t:T}{fr af:Fr}{d:V}(hb:aY t d (j6 fr)=some af)(h:ev P false a af=.bad):lO P a t .no fr d=none:=by
 unfold lO;rw[hb];simp only[wJ,h];rfl
def zB{P:aB}{X:bS}{a:E}{t:T}{fr af:Fr}{d:V}{c:Nat}(hb:aY t d (j6 fr)=some af)(h:xe P X a af=some c):(match aY t d (j6 fr)with
   |some ak=>(match fO P .no ak with
    |.ok true _=>xe P X a ak
    |_=>none)
   |none=>none)=some c:=by
 rw[hb];simp only[wJ];exact h
def rC(x:Nat)(r:List Nat):iJ (.str (x :: r)) none (some 1)=some (.str [x]):=by rw[lg];exact Vd (λz=>some (V.str z)) (GN (x :: r) 1)
def sl2(x:Nat)(r:List Nat):iJ (.str (x :: r)) (some 1) none=some (.str r):=by rw[lg];exact Vd (λz=>some (V.str z)) (GO (x :: r) 1)
def C2{fD:Nat}(hn:F[fD]?=some (dU kx))(h:F[i]?=some (eV kx fD)){t:List Nat}{p:Pt}(hp:iy t=some p):run F w (n+2) i [.val (.str t)]=some (p.v,[]):=by
 refine bW h rfl ?_;unfold iy at hp;split at hp
 .rename_i r;obtain⟨k,e,rfl⟩:=Option.map_eq_some_iff.mp hp;refine az (bR (b:=false) (aM rfl (br (aH (gy (ay rfl) eN (dN (av rfl)) (rC _ _)) (av rfl) (bI (by simp))) (av rfl) rfl) rfl) (λh=>absurd h (by decide)) λ_=>bT ?_);refine az (cy (jb (gy (ay rfl) eN (dN (av rfl)) (rC _ _)) rfl) rfl rfl ?_);exact az (bR (b:=true) (aM rfl (br (ay rfl) (av rfl) fL) rfl) (λ_=>az (bX (fB (ao (ay rfl) (ao (bN (aJ rfl (gy (ay rfl) (dN (av rfl)) eN (sl2 _ _)) aL) (cg (Nl hn e))) aE)) gk) ⟨rfl,rfl⟩)) λh=>absurd h (by decide))
 .cases hp;refine az (bR (b:=false) (aM rfl (br (aH (gy (ay rfl) eN (dN (av rfl)) (rC _ _)) (av rfl) (bI (by simp))) (av rfl) rfl) rfl) (λh=>absurd h (by decide)) λ_=>bT ?_);refine az (cy (jb (gy (ay rfl) eN (dN (av rfl)) (rC _ _)) rfl) rfl rfl ?_);exact az (bR (b:=false) (aM rfl (br (ay rfl) (av rfl) fL) rfl) (λh=>absurd h (by decide)) λ_=>bT (az (bX (fB (ao (ay rfl) (ao (gy (ay rfl) (dN (av rfl)) eN (sl2 _ _)) aE)) gk) ⟨rfl,rfl⟩)))
 .cases hp;refine az (bR (b:=false) (aM rfl (br (aH (gy (ay rfl) eN (dN (av rfl)) (rC _ _)) (av rfl) (bI (by simp))) (av rfl) rfl) rfl) (λh=>absurd h (by decide)) λ_=>bT ?_);refine az (cy (jb (gy (ay rfl) eN (dN (av rfl)) (rC _ _)) rfl) rfl rfl ?_);exact az (bR (b:=false) (aM rfl (br (ay rfl) (av rfl) fL) rfl) (λh=>absurd h (by decide)) λ_=>bT (az (bX (fB (ao (ay rfl) (ao (gy (ay rfl) (dN (av rfl)) eN (sl2 _ _)) aE)) gk) ⟨rfl,rfl⟩)))
 .cases hp
def JK{fD:Nat}(hn:F[fD]?=some (dU kx))(h:F[i]?=some (eV kx fD)){t:List Nat}(hp:iy t=none):bH F w (n+2) i [.val (.str t)]=some kx:=by
 refine oZ h rfl ?_;have go:∀u:List Nat,iJ (.str t) none (some 1)=some (.str u)->u.length<=1->[[61],[43],[45]].contains u=false->xss (run F w (n+1)) (bH F w (n+1)) w (eV kx fD).body (cZ (eV kx fD) [.val (.str t)])=some kx:=λu e1 e2 e3=>by
  have hin:cop .di (.str (u++[])) (.tup [.str [61],.str [43],.str [45]])=some true:=by
   rw[uq,Eu,show([V.str [61],V.str [43],V.str [45]]:List V)=[[61],[43],[45]].map V.str from rfl,qg,VE,e3];rfl
  refine cR cX (lR (b:=true) (aM rfl (br (aH (gy (ay rfl) eN (dN (av rfl)) e1) (av rfl) (bI (by simp;omega))) (av rfl) hin) rfl) ?_);rw[b8 rfl];exact cR cX oY
 cases t with
 |nil=>exact go [] (by rw[lg];rfl) (by simp) rfl
 |cons x r=>
  by_cases e1:x=61
  .subst e1;have e:iN r=none:=by
    cases z:iN r with
    |none=>rfl
    |some k=>
     have hp:(iN r).map Pt.keep=none:=hp;rw[z]at hp;cases hp
   refine jc (bR (b:=false) (aM rfl (br (aH (gy (ay rfl) eN (dN (av rfl)) (rC _ _)) (av rfl) (bI (by simp))) (av rfl) rfl) rfl) (λh=>absurd h (by decide)) λ_=>bT ⟨rfl,?_⟩);refine jc (cy (jb (gy (ay rfl) eN (dN (av rfl)) (rC _ _)) rfl) rfl rfl ⟨rfl,?_⟩);refine cR cX (lR (b:=true) (aM rfl (br (ay rfl) (av rfl) fL) rfl) ?_);rw[b8 rfl];exact cR cX (y_ret (GJ (zy (ay rfl) (zz cX (wQ (aJ rfl (gy (ay rfl) (dN (av rfl)) eN (sl2 _ _)) aL) (jd (vs:=[.str r]) (JJ hn e)))))))
  .by_cases e2:x=43
   .subst e2;cases hp
   .by_cases e3:x=45
    .subst e3;cases hp
    .refine go [x] (rC x r) (by simp) ?_;simp;omega
def rE{dO:Nat}(h:F[i]?=some (gF dO))(c:List Pt)(hl:12<c.length):run F w (n+1) i [.val (iM c)]=some (.bl false,[]):=
 bW h rfl (az (bR (b:=true) (gE (gP (b:=true) (aM rfl (j8 (ay rfl) rfl) rfl)) (aM rfl (br (fC (ao (ay rfl) aE) sE) (av rfl) EC) (by show decide _=true;exact Wo (by simp;omega)))) (λ_=>az (bX (av rfl) ⟨rfl,rfl⟩)) λh=>absurd h (by decide)))
def zC{cD cE dO:Nat}(hk:F[cD]?=some iu)(hs:F[cE]?=some iw)(hp:F[dO]?=some (fk cD cE))(h:F[i]?=some (gF dO))(c:List Pt)(hc:∀p∈c,p.n<=800):run F w (n+3) i [.val (iM c)]=some (.bl (mG c),[]):=by
 rcases Xc 12 c.length with z|z
 .rw[rE (n:=n+2) h c z];unfold mG;rw[Up (by omega)];rfl
 .refine sM hk hs hp h c (by omega) ?_;have:∀l:List Pt,(∀p∈l,p.n<=800)->tot l<=l.length*800:=λl=>by
   induction l with
   |nil=>intro _;simp[tot]
   |cons p l ih=>
    intro q;have h1:=q p (by simp);have h2:=ih λx hx=>q x (by simp[hx]);simp only[tot,wX,List.sum_cons,Vg]at h2 ⊢;rw[WG];omega
  have:=this c hc;omega
def oh{t:List Nat}{c:Nat}(h:c<128):qc (.str t) (.str [c])=some ((Ev.aD c t).map V.str):=by
 show(if c<128 then some ((Ev.aD c t).map V.str)else none)=_;rw[b8 h]
section
variable{cD cE dO jz fD g6:Nat}(hk:F[cD]?=some iu)(hs:F[cE]?=some iw)(hp:F[dO]?=some (fk cD cE))(hi:F[jz]?=some (gF dO))(hn:F[fD]?=some (dU kx))(hr:F[g6]?=some (eV kx fD))
include hk hs hp hi hn hr
theorem uv(h:F[i]?=some (gn kx g6 jz)){t:List Nat}{c:List Pt}(ht:t.length<=700)(h0:t≠[])(e:cL iy (Ev.aD 47 t)=some c) :
  (∀p∈c,p.n<=800)/\c.length<=701/\bu (cQ (run F w (n+3)) (.cl g6 (.cons (.v 2) .nil)) (.one 2) .no [some (.val (.str t)),none,none]) ((Ev.aD 47 t).map V.str)=some (c.map Pt.v):=by
 have h1:=iG e;obtain⟨l1,l2⟩:=V8 (c:=47) t;have hlen:c.length=(Ev.aD 47 t).length:=by have:=Vd List.length h1;simpa using this.symm
 have key:∀(l:List (List Nat)) (c:List Pt),(∀p∈l,p.length<=700)->l.map iy=c.map some->(∀p∈c,p.n<=800)/\bu (cQ (run F w (n+3)) (.cl g6 (.cons (.v 2) .nil)) (.one 2) .no [some (.val (.str t)),none,none]) (l.map V.str)=some (c.map Pt.v):=by
  intro l;induction l with
  |nil=>intro c _ q;cases c with|nil=>exact⟨by simp,rfl⟩|cons p c=>simp at q
  |cons x l ih=>
   intro c hl q;cases c with
   |nil=>simp at q
   |cons p c=>
    simp only[wX,Wg]at q;obtain⟨a1,a2⟩:=ih c (λy hy=>hl y (by simp[hy])) q.2;have b1:=Pd q.1;have b2:=hl x (by simp);refine⟨λy hy=>?_,?_⟩
    .rcases List.mem_cons.mp hy with rfl|hy
     .omega
     .exact a1 y hy
    .have b3:cQ (run F w (n+3)) (.cl g6 (.cons (.v 2) .nil)) (.one 2) .no [some (.val (.str t)),none,none] (.str x)=some (some p.v):=cC rfl (bN (aJ rfl (ay rfl) aL) (cg (C2 (n:=n+1) hn hr q.1)));simp only[wX,bu,b3,a2,Option.bind];rfl
 obtain⟨a1,a2⟩:=key _ _ (λp hp=>Uc (l1 p hp) ht) h1;exact⟨a1,by omega,a2⟩
theorem Nm(h:F[i]?=some (gn kx g6 jz)){t:List Nat}(ht:t.length<=700){c:List Pt}(hc:jZ t=some c):run F w (n+4) i [.val (.str t)]=some (iM c,[]):=by
 refine bW h rfl ?_;unfold jZ at hc;split at hc
 .rename_i e;subst e;cases hc;exact az (bR (b:=true) (aM rfl (br (ay rfl) (av rfl) fL) rfl) (λ_=>az (bX (fB aE Az) ⟨rfl,rfl⟩)) λh=>absurd h (by decide))
 .rename_i h0;obtain⟨c',e1,e2⟩:=Option.bind_eq_some_iff.mp hc;split at e2
  case isFalse=>cases e2
  rename_i hw;cases e2;obtain⟨q1,q2,q3⟩:=uv (w:=w) (n:=n) hk hs hp hi hn hr h ht h0 e1;obtain⟨l1,l2⟩:=V8 (c:=47) t;have hic:=zC (w:=w) (n:=n) hk hs hp hi c q1;rw[hw]at hic;refine az (bR (b:=false) (aM rfl (br (ay rfl) (av rfl) fL) (Up h0)) (λh=>absurd h (by decide)) λ_=>bT ?_);refine az (cy (v:=iM c) (uQ (dD (ee (oW (nM (ay rfl) (av rfl) (oh (by decide))) (bF (aT (by simp;omega)))) rfl) rfl q3 (bF (aT (by simp;omega)))) (by show g8 (c.map Pt.v)=_;unfold g8;rw[b8 (aT (by simp;omega))];rfl)) rfl rfl ?_);refine az (bR (b:=false) (gP (b:=true) (aM rfl (bN (aJ rfl (ay rfl) aL) (cg hic)) rfl)) (λh=>absurd h (by decide)) λ_=>bT ?_);exact az (bX (ay rfl) ⟨rfl,rfl⟩)
omit hk hs hp hi in
theorem bx{t v:List Nat}(z3:iy v=none):xe (run F w (n+3)) (bH F w (n+3)) (.cl g6 (.cons (.v 2) .nil)) [some (.val (.str t)),none,some (.val (.str v))]=some kx:=
 wQ (aJ rfl (ay rfl) aL) (jd (vs:=[.str v]) (JK (n:=n+1) hn hr z3))
theorem JL(h:F[i]?=some (gn kx g6 jz)){t:List Nat}(ht:t.length<=700)(hc:jZ t=none):bH F w (n+4) i [.val (.str t)]=some kx:=by
 refine oZ h rfl ?_;unfold jZ at hc;split at hc
 .cases hc
 .rename_i h0;obtain⟨l1,l2⟩:=V8 (c:=47) t;refine jc (bR (b:=false) (aM rfl (br (ay rfl) (av rfl) fL) (Up h0)) (λh=>absurd h (by decide)) λ_=>bT ⟨rfl,?_⟩);cases e1:cL iy (Ev.aD 47 t)with
  |none=>
   obtain⟨p1,v,p2,z1,z2,z3⟩:=lU e1;refine cR cX (O6 (O7 (CH (ee (oW (nM (ay rfl) (av rfl) (oh (by decide))) (bF (aT (by simp;omega)))) rfl) rfl (by rw[Vm];exact aT (by omega)) ?_)));rw[z1];refine sG V.str ?_ ?_ p1 λa ha=>?_
   .refine zA (af:=[some (.val (.str t)),none,some (.val (.str v))]) rfl ?_;exact(bU cX _ (bx (n:=n) hn hr z3)).1 _
   .exact zB (P:=run F w (n+3)) (X:=bH F w (n+3)) (a:=.cl g6 (.cons (.v 2) .nil)) (t:=.one 2) (fr:=[some (.val (.str t)),none,none]) (d:=.str v) (af:=[some (.val (.str t)),none,some (.val (.str v))]) rfl (bx (n:=n) hn hr z3)
   .obtain⟨p,hp⟩:=z2 a ha;exact⟨some p.v,cC (P:=run F w (n+3)) (t:=.one 2) (a:=.cl g6 (.cons (.v 2) .nil)) (fr:=[some (.val (.str t)),none,none]) rfl (bN (aJ rfl (ay rfl) aL) (cg (C2 (n:=n+1) hn hr hp)))⟩
  |some c=>
   rw[e1]at hc;have hw:mG c=false:=by
    cases z:mG c with
    |false=>rfl
    |true=>
     have hc:(if mG c=true then some c else none)=none:=hc;rw[z,b8 rfl]at hc;cases hc
   obtain⟨q1,q2,q3⟩:=uv (w:=w) (n:=n) hk hs hp hi hn hr h ht h0 e1;have hic:=zC (w:=w) (n:=n) hk hs hp hi c q1;rw[hw]at hic;refine jc (cy (v:=iM c) (uQ (dD (ee (oW (nM (ay rfl) (av rfl) (oh (by decide))) (bF (aT (by simp;omega)))) rfl) rfl q3 (bF (aT (by simp;omega)))) (by show g8 (c.map Pt.v)=_;unfold g8;rw[b8 (aT (by simp;omega))];rfl)) rfl rfl ⟨rfl,?_⟩);refine cR cX (lR (b:=true) (gP (b:=false) (aM rfl (bN (aJ rfl (ay rfl) aL) (cg hic)) rfl)) ?_);rw[b8 rfl];exact cR cX oY
end
def zD(h:F[i]?=some uu)(o:List Nat)(ho:o.length<=1000):run F w (n+1) i [.val (.str o)]=some (.bl (kh o),[]):=by
 have hl:=CW (P:=run F w n) (fr:=[some (.val (.str o)),none]) (s:=o) (a:=.v 0) (m:=6) (k:=true) (ay rfl) (by omega) rfl;have hc:bu (cQ (run F w n) (.cmp .isin (.v 1) (.c (.str pI))) (.one 1) .no [some (.val (.str o)),none]) (o.map λc=>.str [c])=some (o.map λc=>.bl (pI.contains c)):=
  eB _ _ _ λc _=>cC rfl (br (ay rfl) (av rfl) wH)
 refine bW h rfl (az (bX (v:=.bl (kh o)) (af:=[some (.val (.str o)),none]) (RQ hl (λq=>?_) λq=>?_) ⟨rfl,rfl⟩))
 .refine(fC (ao (dD (ee (gm rfl) rfl) rfl hc (bF (aT (by simp;omega)))) aE) (sL _ _)).trans ?_;unfold kh;rw[q];rfl
 .exact⟨by unfold kh;rw[q];rfl,rfl⟩
def sX(t:List Nat):cI .part (.str t) [.str [58,32]]=some (.tup ((Ev.eH t [58,32]).map .str)):=by
 show(if ([58,32]:List Nat)=[]then none else some (V.tup ((Ev.eH t [58,32]).map .str)))=_;rw[SA (by decide)]
section
variable{cD cE dO jz fD g6 om kJ lV jq:Nat}(hk:F[cD]?=some iu)(hs:F[cE]?=some iw)(hp:F[dO]?=some (fk cD cE))(hi:F[jz]?=some (gF dO))(hn:F[fD]?=some (dU kx))(hr:F[g6]?=some (eV kx fD))(pJ:F[om]?=some (gn kx g6 jz))(hnm:F[kJ]?=some uu)
include hk hs hp hi hn hr pJ hnm
theorem C3(h:F[i]?=some (gb kx kJ om)){t:List Nat}(ht:t.length<=700){r:Row}(hL:gc t=some r):run F w (n+5) i [.val (.str t)]=some (cG r,[]):=by
 unfold gc at hL;split at hL
 case h_2=>cases hL
 rename_i j e;split at hL
 case isFalse=>cases hL
 rename_i hnb;obtain⟨c,e1,rfl⟩:=Option.map_eq_some_iff.mp hL;have C4:cI .part (.str t) [.str [58,32]]=some (.tup [.str (t.take j),.str [58,32],.str (t.drop (j+2))]):=by
  rw[sX];unfold Ev.eH;rw[e];rfl
 have hb:=zD (F:=F) (w:=w) (n:=n+3) (i:=kJ) hnm (t.take j) (by rw[Vz];omega);rw[hnb]at hb;refine bW h rfl ?_;refine az (cy (gO rfl (ay rfl) (ao (av rfl) aE) C4) rfl rfl ?_);refine az (bR (b:=false) (gE (aM rfl (br (cW (ay rfl) (av rfl) rfl) (av rfl) fL) rfl) (gP (b:=true) (aM rfl (bN (aJ rfl (cW (ay rfl) (av rfl) rfl) aL) (cg hb)) rfl))) (λh=>absurd h (by decide)) λ_=>bT ?_);exact az (bX (fB (ao (cW (ay rfl) (av rfl) rfl) (ao (bN (aJ rfl (cW (ay rfl) (av rfl) rfl) aL) (cg (Nm hk hs hp hi hn hr pJ (by rw[VN];omega) e1))) aE)) gk) ⟨rfl,rfl⟩)
theorem JM(h:F[i]?=some (gb kx kJ om)){t:List Nat}(ht:t.length<=700)(hL:gc t=none):bH F w (n+5) i [.val (.str t)]=some kx:=by
 unfold gc at hL;refine oZ h rfl ?_;split at hL
 .rename_i j e;have C4:cI .part (.str t) [.str [58,32]]=some (.tup [.str (t.take j),.str [58,32],.str (t.drop (j+2))]):=by
   rw[sX];unfold Ev.eH;rw[e];rfl
  have hb:=zD (F:=F) (w:=w) (n:=n+3) (i:=kJ) hnm (t.take j) (by rw[Vz];omega);refine jc (cy (gO rfl (ay rfl) (ao (av rfl) aE) C4) rfl rfl ⟨rfl,?_⟩);split at hL
  .rename_i hnb;rw[hnb]at hb;have e1:jZ (t.drop (j+2))=none:=by
    cases z:jZ (t.drop (j+2))with
    |none=>rfl
    |some c=>rw[z]at hL;cases hL
   refine jc (bR (b:=false) (gE (aM rfl (br (cW (ay rfl) (av rfl) rfl) (av rfl) fL) rfl) (gP (b:=true) (aM rfl (bN (aJ rfl (cW (ay rfl) (av rfl) rfl) aL) (cg hb)) rfl))) (λh=>absurd h (by decide)) λ_=>bT ⟨rfl,?_⟩);exact cR cX (y_ret (GJ (zy (cW (ay rfl) (av rfl) rfl) (zz cX (wQ (aJ rfl (cW (ay rfl) (av rfl) rfl) aL) (jd (vs:=[.str (t.drop (j+2))]) (JL hk hs hp hi hn hr pJ (by rw[VN];omega) e1)))))))
  .rename_i hnb;rw[Bool.eq_false_iff.mpr hnb]at hb;refine cR cX (lR (b:=true) (gE (aM rfl (br (cW (ay rfl) (av rfl) rfl) (av rfl) fL) rfl) (gP (b:=false) (aM rfl (bN (aJ rfl (cW (ay rfl) (av rfl) rfl) aL) (cg hb)) rfl))) ?_);rw[b8 rfl];exact cR cX oY
 .rename_i e;have C4:cI .part (.str t) [.str [58,32]]=some (.tup [.str t,.str [],.str []]):=by
   rw[sX];unfold Ev.eH;rw[e];rfl
  refine jc (cy (gO rfl (ay rfl) (ao (av rfl) aE) C4) rfl rfl ⟨rfl,?_⟩);refine cR cX (lR (b:=true) (M4 (aM rfl (br (cW (ay rfl) (av rfl) rfl) (av rfl) fL) rfl)) ?_);rw[b8 rfl];exact cR cX oY
omit hk hs hp hi hn hr pJ hnm in
theorem C5(h:F[i]?=some (iW kx)){t:List Nat}(ht:t.length<=700){ls:List (List Nat)}(hL:sW t=some ls):run F w (n+1) i [.val (.str t)]=some (.lst (ls.map V.str),[]):=by
 obtain⟨ls',l,e⟩:=iH t;rw[gp e]at hL;split at hL
 case isFalse=>cases hL
 rename_i e0;subst e0;cases hL;have hl:=(V8 (c:=10) t).2;rw[e]at hl;simp at hl;have eZ:qc (.str t) (.str [10])=some ((ls.map V.str)++[.str []]):=by rw[oh (by decide),e];simp
 refine bW h rfl ?_;refine az (qX (oW (nM (ay rfl) (av rfl) eZ) (bF (aT (by simp;omega)))) rfl rfl ?_);refine az (bR (b:=false) (aM rfl (br (uP rfl rfl aE zk) (av rfl) qY) rfl) (λh=>absurd h (by decide)) λ_=>bT ?_);exact az (bX (ay rfl) ⟨rfl,rfl⟩)
omit hk hs hp hi hn hr pJ hnm in
theorem JN(h:F[i]?=some (iW kx)){t:List Nat}(ht:t.length<=700)(hL:sW t=none):bH F w (n+1) i [.val (.str t)]=some kx:=by
 obtain⟨ls',l,e⟩:=iH t;rw[gp e]at hL;split at hL
 .cases hL
 .rename_i e0;have hl:=(V8 (c:=10) t).2;rw[e]at hl;simp at hl;have eZ:qc (.str t) (.str [10])=some ((ls'.map V.str)++[.str l]):=by rw[oh (by decide),e];simp
  refine oZ h rfl ?_;refine jc (qX (oW (nM (ay rfl) (av rfl) eZ) (bF (aT (by simp;omega)))) rfl rfl ⟨rfl,?_⟩);refine cR cX (lR (b:=true) (aM rfl (br (uP rfl rfl aE zk) (av rfl) qY) (by show(!decide (l=[]))=true;rw[Up e0];rfl)) ?_);rw[b8 rfl];exact cR cX oY
def bl{t v:List Nat}(hrl:F[jq]?=some (gb kx kJ om))(hv:v.length<=700)(z3:gc v=none):xe (run F w (n+5)) (bH F w (n+5)) (.cl jq (.cons (.v 1) .nil)) [some (.val (.str t)),some (.val (.str v))]=some kx:=
 wQ (aJ rfl (ay rfl) aL) (jd (vs:=[.str v]) (JM hk hs hp hi hn hr pJ hnm hrl hv z3))
theorem Np(hlo:F[lV]?=some (iW kx))(hrl:F[jq]?=some (gb kx kJ om))(h:F[i]?=some (nX lV jq)){t:List Nat}(ht:t.length<=700){rows:List Row}(hO:eG t=some rows):run F w (n+6) i [.val (.str t)]=some (.lst (rows.map cG),[]):=by
 unfold eG at hO;obtain⟨ls,e1,e2⟩:=Option.bind_eq_some_iff.mp hO;have h1:=iG e2;have hsz:=(V8 (c:=10) t).1;obtain⟨ls',l,e⟩:=iH t;have hls:∀p∈ls,p.length<=700:=by
  rw[gp e]at e1;split at e1
  .cases e1;intro p hp;rw[e]at hsz;have:=hsz p (by simp[hp]);omega
  .cases e1
 have hlen:ls.length<=701:=by
  have:=(V8 (c:=10) t).2;rw[gp e]at e1;split at e1
  .cases e1;rw[e]at this;simp at this;omega
  .cases e1
 have hlr:rows.length=ls.length:=by have:=Vd List.length h1;simpa using this.symm
 have key:∀(l:List (List Nat)) (c:List Row),(∀p∈l,p.length<=700)->l.map gc=c.map some->bu (cQ (run F w (n+5)) (.cl jq (.cons (.v 1) .nil)) (.one 1) .no [some (.val (.str t)),none]) (l.map V.str)=some (c.map cG):=by
  intro l;induction l with
  |nil=>intro c _ q;cases c with|nil=>rfl|cons p c=>simp at q
  |cons x l ih=>
   intro c hl q;cases c with
   |nil=>simp at q
   |cons p c=>
    simp only[wX,Wg]at q;have a2:=ih c (λy hy=>hl y (by simp[hy])) q.2;have b3:cQ (run F w (n+5)) (.cl jq (.cons (.v 1) .nil)) (.one 1) .no [some (.val (.str t)),none] (.str x)=some (some (cG p)):=cC rfl (bN (aJ rfl (ay rfl) aL) (cg (C3 hk hs hp hi hn hr pJ hnm hrl (hl x (by simp)) q.1)));simp only[wX,bu,b3,a2,Option.bind];rfl
 exact bW h rfl (az (bX (dD (ee (bN (aJ rfl (ay rfl) aL) (cg (C5 (n:=n+4) hlo ht e1))) rfl) rfl (key ls rows hls h1) (bF (aT (by simp;omega)))) ⟨rfl,rfl⟩))
theorem JQ(hlo:F[lV]?=some (iW kx))(hrl:F[jq]?=some (gb kx kJ om))(h:F[i]?=some (nX lV jq)){t:List Nat}(ht:t.length<=700)(hO:eG t=none):bH F w (n+6) i [.val (.str t)]=some kx:=by
 unfold eG at hO;refine oZ h rfl ?_;cases e1:sW t with
 |none=>
  have q:xe (run F w (n+5)) (bH F w (n+5)) (.cl lV (.cons (.v 0) .nil)) [some (.val (.str t)),none]=some kx:=wQ (aJ rfl (ay rfl) aL) (jd (vs:=[.str t]) (JN (n:=n+4) hlo ht e1));refine cR cX (y_ret (Jx ?_ ?_))
  .show bQ _ _ (.seq _) [some (.val (.str t)),none]=.bad;rw[zj];show(src true _ (.cl lV (.cons (.v 0) .nil)) (ev (run F w (n+5)) true (.cl lV (.cons (.v 0) .nil)) [some (.val (.str t)),none])).bind _=_;rw[(bU cX _ q).1];rfl
  .show xi _ _ (.seq _) [some (.val (.str t)),none]=_;simp only[xi];exact q
 |some ls=>
  rw[e1]at hO;have hO:cL gc ls=none:=hO;have hsz:=(V8 (c:=10) t).1;have hsz2:=(V8 (c:=10) t).2;obtain⟨ls',l,e⟩:=iH t;have hls:(∀p∈ls,p.length<=700)/\ls.length<=701:=by
   have yt:=e1;rw[gp e]at yt;split at yt
   .cases yt;rw[e]at hsz hsz2;exact⟨λp hp=>by have:=hsz p (by simp[hp]);omega,by simp at hsz2;omega⟩
   .cases yt
  obtain⟨p1,v,p2,z1,z2,z3⟩:=lU hO;refine cR cX (y_ret (CH (ee (bN (aJ rfl (ay rfl) aL) (cg (C5 (n:=n+4) hlo ht e1))) rfl) rfl (by rw[Vm];exact aT (by omega)) ?_));subst z1;have hv:=hls.1 v (by simp);refine sG V.str ?_ ?_ p1 λa ha=>?_
  .refine zA (af:=[some (.val (.str t)),some (.val (.str v))]) rfl ?_;exact(bU cX _ (bl (n:=n) hk hs hp hi hn hr pJ hnm hrl hv z3)).1 _
  .exact zB (P:=run F w (n+5)) (X:=bH F w (n+5)) (a:=.cl jq (.cons (.v 1) .nil)) (t:=.one 1) (fr:=[some (.val (.str t)),none]) (d:=.str v) (af:=[some (.val (.str t)),some (.val (.str v))]) rfl (bl (n:=n) hk hs hp hi hn hr pJ hnm hrl hv z3)
  .obtain⟨p,hpp⟩:=z2 a ha;exact⟨some (cG p),cC (P:=run F w (n+5)) (t:=.one 1) (a:=.cl jq (.cons (.v 1) .nil)) (fr:=[some (.val (.str t)),none]) rfl (bN (aJ rfl (ay rfl) aL) (cg (C3 hk hs hp hi hn hr pJ hnm hrl (hls.1 a (by simp[ha])) hpp)))⟩
end
end
end Pv
namespace Pv
open Ev (D aQ aK TY BI ME T E Es Eo It S Ss Fn big deep b2i rep bG cK bg aI cut aP bZ slots)
end Pv
namespace Pv
open Ev (deep big rep cut bg)
open Ev (D aQ aK TY BI ME T E Es Eo It S Ss Fn)
noncomputable def nk(c:List Pt):Nat:=(asks c).countP (λa=>decide (a=[]))
end Pv
namespace Pv
open Ev (D aQ aK TY BI ME T E Es Eo It S Ss Fn big deep b2i rep bG cK bg aI cut aP bZ slots)
noncomputable def dl:List Nat->List Nat->Nat
 |[],b=>b.length
 |_ :: a,[]=>a.length+1
 |x :: a,y :: b=>if x=y then dl a b else 1+min (dl a (y :: b)) (dl (x :: a) b)
termination_by a b=>a.length+b.length
noncomputable def cp:List Nat->List Nat->Nat
 |x :: a,y :: b=>if x=y then cp a b+1 else 0
 |_,_=>0
noncomputable def Ud(A new:List Nat)(j:Nat):V:=.int (dl A (new.take j).reverse:Nat)
noncomputable def RZ(A new:List Nat):List V:=(List.range (new.length+1)).map (Ud A new)
noncomputable def Ue(old new:List Nat)(i:Nat):V:=.lst (RZ (old.take i).reverse new)
noncomputable def Uy(old new:List Nat):List V:=(List.range (old.length+1)).map (Ue old new)
end Pv
namespace Lw
@[reducible] noncomputable def R0:Ev.S:=.iff (.orr (.nt (.dY (.v 0) [.tuple])) (.cmp .gt (.bi .len (.cons (.v 0) .nil)) (.c (.int 12)))) (.cons (.ret (.c (.bl false))) .nil) .nil
@[reducible] noncomputable def R1:Ev.S:=.ret (.bi .all (.cons (.comp (.cl 1 (.cons (.v 1) .nil)) (.one 1) (.seq (.v 0)) .no) .nil))
@[reducible] noncomputable def f0:Ev.Fn:=⟨1,2,(.cons R0 (.cons R1 .nil))⟩
@[reducible] noncomputable def R3:Ev.S:=.iff (.orr (.nt (.dY (.v 0) [.tuple])) (.cmp .ne (.bi .len (.cons (.v 0) .nil)) (.c (.int 2)))) (.cons (.ret (.c (.bl false))) .nil) .nil
@[reducible] noncomputable def R4:Ev.S:=.iff (.cmp .eq (.ix (.v 0) (.c (.int 0))) (.c (.str [107,101,101,112]))) (.cons (.ret (.cl 2 (.cons (.ix (.v 0) (.c (.int 1))) .nil))) .nil) .nil
@[reducible] noncomputable def R5:Ev.S:=.ret (.an (.cmp .isin (.ix (.v 0) (.c (.int 0))) (.tup (.cons (.c (.str [112,117,116])) (.cons (.c (.str [100,114,111,112])) .nil)))) (.cl 3 (.cons (.ix (.v 0) (.c (.int 1))) .nil)))
@[reducible] noncomputable def f1:Ev.Fn:=⟨1,1,(.cons R3 (.cons R4 (.cons R5 .nil)))⟩
@[reducible] noncomputable def R6:Ev.S:=.iff (.orr (.dY (.v 0) [.bool]) (.nt (.dY (.v 0) [.int]))) (.cons (.ret (.c (.bl false))) .nil) .nil
@[reducible] noncomputable def R7:Ev.S:=.ret (.ch .le .le (.c (.int 1)) (.v 0) (.c (.int 99)))
@[reducible] noncomputable def f2:Ev.Fn:=⟨1,1,(.cons R6 (.cons R7 .nil))⟩
@[reducible] noncomputable def R8:Ev.S:=.iff (.orr (.nt (.dY (.v 0) [.str])) (.nt (.ch .le .le (.c (.int 1)) (.bi .len (.cons (.v 0) .nil)) (.c (.int 8))))) (.cons (.ret (.c (.bl false))) .nil) .nil
@[reducible] noncomputable def R9:Ev.S:=.ret (.bi .all (.cons (.comp (.cmp .isin (.v 1) (.c (.str [97,98,99,100,101,102,103,104,105,106,107,108,109,110,111,112,113,114,115,116,117,118,119,120,121,122,32]))) (.one 1) (.seq (.v 0)) .no) .nil))
@[reducible] noncomputable def f3:Ev.Fn:=⟨1,2,(.cons R8 (.cons R9 .nil))⟩
@[reducible] noncomputable def Sa:Ev.S:=.ret (.me .join (.c (.str [47])) (.cons (.comp (.bin .add (.eS [(.str [107,101,101,112],.str [61]),(.str [112,117,116],.str [43]),(.str [100,114,111,112],.str [45])] (.v 1)) (.bi .fK (.cons (.v 2) .nil))) (.many [1,2]) (.seq (.v 0)) .no) .nil))
@[reducible] noncomputable def f4:Ev.Fn:=⟨1,3,(.cons Sa .nil)⟩
@[reducible] noncomputable def Sb:Ev.S:=.iff (.cmp .eq (.v 0) (.c (.str []))) (.cons (.ret (.tup .nil)) .nil) .nil
@[reducible] noncomputable def Sd:Ev.S:=.set 1 (.fc (.comp (.cl 6 (.cons (.v 2) .nil)) (.one 2) (.seq (.gq (.ju (.v 0) (.c (.str [47]))))) .no))
@[reducible] noncomputable def Se:Ev.S:=.iff (.nt (.cl 0 (.cons (.v 1) .nil))) (.cons (.b9 0) .nil) .nil
@[reducible] noncomputable def Sf:Ev.S:=.ret (.v 1)
@[reducible] noncomputable def f5:Ev.Fn:=⟨1,3,(.cons Sb (.cons Sd (.cons Se (.cons Sf .nil))))⟩
@[reducible] noncomputable def Sg:Ev.S:=.iff (.cmp .di (.bin .add (.sl (.v 0) .no (.yes (.c (.int 1)))) (.c (.str []))) (.c (.tup [.str [61],.str [43],.str [45]]))) (.cons (.b9 0) .nil) .nil
@[reducible] noncomputable def Sh:Ev.S:=.set 1 (.eS [(.str [61],.str [107,101,101,112]),(.str [43],.str [112,117,116]),(.str [45],.str [100,114,111,112])] (.sl (.v 0) .no (.yes (.c (.int 1)))))
@[reducible] noncomputable def Si:Ev.S:=.iff (.cmp .eq (.v 1) (.c (.str [107,101,101,112]))) (.cons (.ret (.tup (.cons (.v 1) (.cons (.cl 7 (.cons (.sl (.v 0) (.yes (.c (.int 1))) .no) .nil)) .nil)))) .nil) .nil
@[reducible] noncomputable def Sj:Ev.S:=.ret (.tup (.cons (.v 1) (.cons (.sl (.v 0) (.yes (.c (.int 1))) .no) .nil)))
@[reducible] noncomputable def f6:Ev.Fn:=⟨1,2,(.cons Sg (.cons Sh (.cons Si (.cons Sj .nil))))⟩
@[reducible] noncomputable def Sk:Ev.S:=.iff (.cmp .di (.v 0) (.comp (.bi .fK (.cons (.v 1) .nil)) (.one 1) (.eW (.cons (.c (.int 1)) (.cons (.bin .add (.c (.int 99)) (.c (.int 1))) .nil))) .no)) (.cons (.b9 0) .nil) .nil
@[reducible] noncomputable def Sn:Ev.S:=.ret (.bi .lD (.cons (.v 0) .nil))
@[reducible] noncomputable def f7:Ev.Fn:=⟨1,2,(.cons Sk (.cons Sn .nil))⟩
@[reducible] noncomputable def So:Ev.S:=.set 1 (.gq (.ju (.v 0) (.c (.str [10]))))
@[reducible] noncomputable def Sq:Ev.S:=.iff (.cmp .ne (.me .pop (.v 1) .nil) (.c (.str []))) (.cons (.b9 0) .nil) .nil
@[reducible] noncomputable def Su:Ev.S:=.ret (.v 1)
@[reducible] noncomputable def f8:Ev.Fn:=⟨1,2,(.cons So (.cons Sq (.cons Su .nil)))⟩
@[reducible] noncomputable def Sv:Ev.S:=.ret (.me .join (.c (.str [])) (.cons (.comp (.bin .add (.bin .add (.bin .add (.v 1) (.c (.str [58,32]))) (.cl 4 (.cons (.v 2) .nil))) (.c (.str [10]))) (.many [1,2]) (.seq (.v 0)) .no) .nil))
@[reducible] noncomputable def f9:Ev.Fn:=⟨1,3,(.cons Sv .nil)⟩
@[reducible] noncomputable def Pf:Ev.S:=.ret (.comp (.cl 11 (.cons (.v 1) .nil)) (.one 1) (.seq (.cl 8 (.cons (.v 0) .nil))) .no)
@[reducible] noncomputable def t9:Ev.Fn:=⟨1,2,(.cons Pf .nil)⟩
@[reducible] noncomputable def Pg:Ev.S:=.set 1 (.me .part (.v 0) (.cons (.c (.str [58,32])) .nil))
@[reducible] noncomputable def Ph:Ev.S:=.iff (.orr (.cmp .eq (.ix (.v 1) (.c (.int 1))) (.c (.str []))) (.nt (.cl 12 (.cons (.ix (.v 1) (.c (.int 0))) .nil)))) (.cons (.b9 0) .nil) .nil
@[reducible] noncomputable def Pj:Ev.S:=.ret (.tup (.cons (.ix (.v 1) (.c (.int 0))) (.cons (.cl 5 (.cons (.ix (.v 1) (.c (.int 2))) .nil)) .nil)))
@[reducible] noncomputable def GR:Ev.Fn:=⟨1,2,(.cons Pg (.cons Ph (.cons Pj .nil)))⟩
@[reducible] noncomputable def Pk:Ev.S:=.ret (.an (.ch .le .le (.c (.int 1)) (.bi .len (.cons (.v 0) .nil)) (.c (.int 6))) (.bi .all (.cons (.comp (.cmp .isin (.v 1) (.c (.str [97,98,99,100,101,102,103,104,105,106,107,108,109,110,111,112,113,114,115,116,117,118,119,120,121,122]))) (.one 1) (.seq (.v 0)) .no) .nil)))
@[reducible] noncomputable def Nq:Ev.Fn:=⟨1,2,(.cons Pk .nil)⟩
@[reducible] noncomputable def Pn:Ev.S:=.iff (.cmp .eq (.v 0) (.lst .nil)) (.cons (.ret (.bin .mul (.c (.int 7)) (.v 1))) .nil) .nil
@[reducible] noncomputable def Po:Ev.S:=.ret (.bin .add (.ix (.v 0) (.bin .mod (.v 1) (.bi .len (.cons (.v 0) .nil)))) (.bin .mul (.c (.int 6553)) (.bin .fdiv (.v 1) (.bi .len (.cons (.v 0) .nil)))))
@[reducible] noncomputable def Nr:Ev.Fn:=⟨2,2,(.cons Pn (.cons Po .nil))⟩
@[reducible] noncomputable def Pp:Ev.S:=.set 3 (.bin .mod (.bin .add (.bin .mul (.bin .mod (.cl 13 (.cons (.v 0) (.cons (.v 1) .nil))) (.c (.int 2147483563))) (.c (.int 69069))) (.bin .mul (.c (.int 104723)) (.bin .add (.v 1) (.c (.int 1))))) (.c (.int 2147483563)))
@[reducible] noncomputable def Pq:Ev.S:=.set 3 (.bin .mod (.bin .add (.bin .mul (.v 3) (.v 3)) (.bin .fdiv (.v 3) (.c (.int 3)))) (.c (.int 2147483399)))
@[reducible] noncomputable def Pr:Ev.S:=.ret (.bin .mod (.bin .fdiv (.bin .mod (.bin .add (.bin .mul (.v 3) (.v 3)) (.bin .fdiv (.v 3) (.c (.int 7)))) (.c (.int 2147483647))) (.c (.int 11))) (.v 2))
@[reducible] noncomputable def Nt:Ev.Fn:=⟨3,4,(.cons Pp (.cons Pq (.cons Pr .nil)))⟩
@[reducible] noncomputable def Pu:Ev.S:=.tr 10 1 (.cons (.v 0) .nil)
@[reducible] noncomputable def GS:Ev.Fn:=⟨1,2,(.cons Pu .nil)⟩
@[reducible] noncomputable def Pw:Ev.S:=.set 2 (.jt [([107,101,101,112],[61]),([112,117,116],[43]),([100,114,111,112],[45])])
@[reducible] noncomputable def Px:Ev.S:=.ret (.bin .add (.bin .add (.bin .add (.v 0) (.c (.str [58,32]))) (.me .join (.c (.str [47])) (.cons (.comp (.bin .add (.jK (.v 2) (.v 3)) (.bi .fK (.cons (.v 4) .nil))) (.many [3,4]) (.seq (.v 1)) .no) .nil))) (.c (.str [10])))
@[reducible] noncomputable def C6:Ev.Fn:=⟨2,5,(.cons Pw (.cons Px .nil))⟩
@[reducible] noncomputable def Py:Ev.S:=.set 2 (.ix (.lst (.cons (.c (.str [107,101,101,112])) (.cons (.c (.str [112,117,116])) (.cons (.c (.str [100,114,111,112])) .nil)))) (.cl 14 (.cons (.v 0) (.cons (.v 1) (.cons (.c (.int 3)) .nil)))))
@[reducible] noncomputable def GU:Ev.S:=.iff (.cmp .eq (.v 2) (.c (.str [107,101,101,112]))) (.cons (.ret (.tup (.cons (.v 2) (.cons (.bin .add (.c (.int 1)) (.cl 14 (.cons (.v 0) (.cons (.bin .add (.v 1) (.c (.int 1))) (.cons (.c (.int 99)) .nil))))) .nil)))) .nil) .nil
@[reducible] noncomputable def GV:Ev.S:=.set 3 (.bin .add (.c (.int 1)) (.cl 14 (.cons (.v 0) (.cons (.bin .add (.v 1) (.c (.int 1))) (.cons (.c (.int 8)) .nil)))))
@[reducible] noncomputable def GW:Ev.S:=.ret (.tup (.cons (.v 2) (.cons (.me .join (.c (.str [])) (.cons (.comp (.ix (.c (.str [97,98,32,122])) (.cl 14 (.cons (.v 0) (.cons (.bin .add (.bin .add (.v 1) (.c (.int 2))) (.v 4)) (.cons (.c (.int 4)) .nil))))) (.one 4) (.eW (.cons (.v 3) .nil)) .no) .nil)) .nil)))
@[reducible] noncomputable def xu:Ev.Fn:=⟨2,5,(.cons Py (.cons GU (.cons GV (.cons GW .nil))))⟩
@[reducible] noncomputable def Pz:Ev.S:=.set 1 (.lst .nil)
@[reducible] noncomputable def AS:Ev.Ss:=(.cons (.set 3 (.bin .add (.c (.int 1)) (.bin .mul (.c (.int 60)) (.v 2)))) (.cons (.set 4 (.me .join (.c (.str [])) (.cons (.comp (.ix (.c (.str [97,98,122])) (.cl 14 (.cons (.v 0) (.cons (.bin .add (.v 3) (.v 13)) (.cons (.c (.int 3)) .nil))))) (.one 13) (.eW (.cons (.bin .add (.c (.int 1)) (.cl 14 (.cons (.v 0) (.cons (.bin .add (.v 3) (.c (.int 7))) (.cons (.c (.int 6)) .nil))))) .nil)) .no) .nil))) (.cons (.set 5 (.cl 14 (.cons (.v 0) (.cons (.bin .add (.v 3) (.c (.int 9))) (.cons (.c (.int 5)) .nil))))) (.cons (.exp (.me .append (.v 1) (.cons (.tup (.cons (.v 4) (.cons (.fc (.comp (.cl 17 (.cons (.v 0) (.cons (.bin .add (.bin .add (.v 3) (.c (.int 8))) (.bin .mul (.c (.int 12)) (.v 14))) .nil))) (.one 14) (.eW (.cons (.v 5) .nil)) .no)) .nil))) .nil))) .nil))))
@[reducible] noncomputable def PB:Ev.S:=.for (.one 2) (.eW (.cons (.cl 14 (.cons (.v 0) (.cons (.c (.int 0)) (.cons (.c (.int 6)) .nil)))) .nil)) AS
@[reducible] noncomputable def GY:Ev.S:=.set 6 (.me .join (.c (.str [])) (.cons (.comp (.cl 16 (.cons (.v 15) (.cons (.v 16) .nil))) (.many [15,16]) (.seq (.v 1)) .no) .nil))
@[reducible] noncomputable def GZ:Ev.S:=.iff (.orr (.cmp .ne (.cl 9 (.cons (.v 1) .nil)) (.v 6)) (.cmp .ne (.cl 15 (.cons (.v 6) .nil)) (.v 1))) (.cons (.ret (.c (.bl false))) .nil) .nil
@[reducible] noncomputable def AU:Ev.Ss:=(.cons (.set 7 (.cl 14 (.cons (.v 0) (.cons (.bin .add (.c (.int 400)) (.bin .mul (.c (.int 4)) (.v 2))) (.cons (.bin .add (.bi .len (.cons (.v 6) .nil)) (.c (.int 1))) .nil))))) (.cons (.set 8 (.ix (.lst (.cons (.c (.str [97])) (.cons (.c (.str [90])) (.cons (.c (.str [48])) (.cons (.c (.str [58])) (.cons (.c (.str [32])) (.cons (.c (.str [47])) (.cons (.c (.str [61])) (.cons (.c (.str [10])) (.cons (.c (.str [])) (.cons (.c (.str [58,32])) .nil))))))))))) (.cl 14 (.cons (.v 0) (.cons (.bin .add (.c (.int 401)) (.bin .mul (.c (.int 4)) (.v 2))) (.cons (.c (.int 10)) .nil)))))) (.cons (.set 9 (.bin .add (.bin .add (.sl (.v 6) .no (.yes (.v 7))) (.v 8)) (.sl (.v 6) (.yes (.bin .add (.v 7) (.cl 14 (.cons (.v 0) (.cons (.bin .add (.c (.int 402)) (.bin .mul (.c (.int 4)) (.v 2))) (.cons (.c (.int 2)) .nil)))))) .no))) (.cons (.set 10 (.cl 15 (.cons (.v 9) .nil))) (.cons (.iff (.dY (.v 10) [.tuple]) (.cons (.iff (.orr (.cmp .ne (.v 10) (.tup (.cons (.c (.str [114,101,102,117,115,101,100])) (.cons (.c (.int 0)) .nil)))) (.cmp .eq (.v 9) (.v 6))) (.cons (.ret (.c (.bl false))) .nil) .nil) .nil) (.cons (.iff (.cmp .ne (.me .join (.c (.str [])) (.cons (.comp (.cl 16 (.cons (.v 17) (.cons (.v 18) .nil))) (.many [17,18]) (.seq (.v 10)) .no) .nil)) (.v 9)) (.cons (.ret (.c (.bl false))) .nil) .nil) .nil)) .nil)))))
@[reducible] noncomputable def G0:Ev.S:=.for (.one 2) (.eW (.cons (.c (.int 6)) .nil)) AU
@[reducible] noncomputable def AV:Ev.S:=.set 11 (.lst (.cons (.c (.str [97,58,32,61,49])) (.cons (.c (.str [97,58,61,49,10])) (.cons (.c (.str [65,58,32,61,49,10])) (.cons (.c (.str [97,98,99,100,101,102,103,58,32,61,49,10])) (.cons (.c (.str [58,32,61,49,10])) (.cons (.c (.str [97,58,32,61,48,49,10])) .nil)))))))
@[reducible] noncomputable def G1:Ev.Ss:=(.cons (.iff (.cmp .ne (.cl 15 (.cons (.v 12) .nil)) (.tup (.cons (.c (.str [114,101,102,117,115,101,100])) (.cons (.c (.int 0)) .nil)))) (.cons (.ret (.c (.bl false))) .nil) .nil) .nil)
@[reducible] noncomputable def AW:Ev.S:=.for (.one 12) (.seq (.bin .add (.v 11) (.lst (.cons (.c (.str [97,58,32,61,49,47,10])) (.cons (.c (.str [97,58,32,61,49,32,10])) (.cons (.c (.str [10])) (.cons (.c (.str [97,10])) .nil))))))) G1
@[reducible] noncomputable def AX:Ev.S:=.ret (.an (.cmp .eq (.cl 15 (.cons (.c (.str [])) .nil)) (.lst .nil)) (.an (.cmp .eq (.cl 15 (.cons (.c (.str [97,58,32,10])) .nil)) (.lst (.cons (.tup (.cons (.c (.str [97])) (.cons (.tup .nil) .nil))) .nil))) (.cmp .eq (.cl 9 (.cons (.lst .nil) .nil)) (.c (.str [])))))
@[reducible] noncomputable def C7:Ev.Fn:=⟨1,19,(.cons Pz (.cons PB (.cons GY (.cons GZ (.cons G0 (.cons AV (.cons AW (.cons AX .nil))))))))⟩
noncomputable def prog:List Ev.Fn:=[f0,f1,f2,f3,f4,f5,f6,f7,f8,f9,t9,GR,Nq,Nr,Nt,GS,C6,xu,C7]
end Lw
namespace Lw
open PySem PySem.Spec PyProof.Rows L2 Sm
open Ev (D O Hh Fr R aB E Es Eo T S Ss Fl Src aQ aK TY BI ME)
noncomputable def top(i:Nat):Stmt:=PySem.Challenge.pw_pastways_k93_owned_texts.main.body.getD i (.Pass ⟨0,0,0,0⟩)
abbrev i0 (a:Nat->Addr) (d:Nat->FuncData):FI:=⟨"is_change",a 0,d 0,["thing"]⟩
abbrev i1 (a:Nat->Addr) (d:Nat->FuncData):FI:=⟨"is_part",a 1,d 1,["thing"]⟩
abbrev i2 (a:Nat->Addr) (d:Nat->FuncData):FI:=⟨"is_kept",a 2,d 2,["thing"]⟩
abbrev i3 (a:Nat->Addr) (d:Nat->FuncData):FI:=⟨"is_some",a 3,d 3,["thing"]⟩
abbrev i4 (a:Nat->Addr) (d:Nat->FuncData):FI:=⟨"change_text",a 4,d 4,["change"]⟩
abbrev i5 (a:Nat->Addr) (d:Nat->FuncData):FI:=⟨"read_change",a 5,d 5,["text"]⟩
abbrev i6 (a:Nat->Addr) (d:Nat->FuncData):FI:=⟨"read_part",a 6,d 6,["text"]⟩
abbrev i7 (a:Nat->Addr) (d:Nat->FuncData):FI:=⟨"read_number",a 7,d 7,["text"]⟩
abbrev i8 (a:Nat->Addr) (d:Nat->FuncData):FI:=⟨"lines_of",a 8,d 8,["text"]⟩
abbrev i9 (a:Nat->Addr) (d:Nat->FuncData):FI:=⟨"owned_text",a 9,d 9,["rows"]⟩
abbrev zE (a:Nat->Addr) (d:Nat->FuncData):FI:=⟨"read_owned",a 10,d 10,["text"]⟩
abbrev C8 (a:Nat->Addr) (d:Nat->FuncData):FI:=⟨"read_line",a 11,d 11,["line"]⟩
abbrev i12 (a:Nat->Addr) (d:Nat->FuncData):FI:=⟨"is_name",a 12,d 12,["text"]⟩
abbrev Nu (a:Nat->Addr) (d:Nat->FuncData):FI:=⟨"_law_cell",a 13,d 13,["_law_script","_law_k"]⟩
abbrev Nv (a:Nat->Addr) (d:Nat->FuncData):FI:=⟨"_law_drawn",a 14,d 14,["_law_script","_law_k","_law_many"]⟩
abbrev Qt (a:Nat->Addr) (d:Nat->FuncData):FI:=⟨"_law_told",a 15,d 15,["_law_text"]⟩
abbrev Nx (a:Nat->Addr) (d:Nat->FuncData):FI:=⟨"_law_line",a 16,d 16,["_law_own","_law_change"]⟩
abbrev Ny (a:Nat->Addr) (d:Nat->FuncData):FI:=⟨"_law_part",a 17,d 17,["_law_script","_law_at"]⟩
abbrev G2 (a:Nat->Addr) (d:Nat->FuncData):FI:=⟨"law",a 18,d 18,["_law_script"]⟩
noncomputable def pK:List Str:=["ValueError","all","bool","int","isinstance","len","range","str","tuple"]
def PD:("all" : Str)∈pK:=by decide +kernel
def Nz:("bool" : Str)∈pK:=by decide +kernel
def G3:("int" : Str)∈pK:=by decide +kernel
def iI:("isinstance" : Str)∈pK:=by decide +kernel
def PF:("len" : Str)∈pK:=by decide +kernel
def zF:("range" : Str)∈pK:=by decide +kernel
def G4:("str" : Str)∈pK:=by decide +kernel
def sY:("tuple" : Str)∈pK:=by decide +kernel
noncomputable def tb (a:Nat->Addr) (d:Nat->FuncData):Tb:=⟨prog,100000,[i0 a d,i1 a d,i2 a d,i3 a d,i4 a d,i5 a d,i6 a d,i7 a d,i8 a d,i9 a d,zE a d,C8 a d,i12 a d,Nu a d,Nv a d,Qt a d,Nx a d,Ny a d,G2 a d],pK,[("__name__",.str [108,97,119,95,112,97,115,116,119,97,121,115,95,107,57,51,95,111,119,110,101,100,95,116,101,120,116,115]),("SIGNS",.str [97,98,99,100,101,102,103,104,105,106,107,108,109,110,111,112,113,114,115,116,117,118,119,120,121,122,32]),("MOST_KEPT",.int 99),("MOST_SIGNS",.int 8),("MOST_PARTS",.int 12),("LETTERS",.str [97,98,99,100,101,102,103,104,105,106,107,108,109,110,111,112,113,114,115,116,117,118,119,120,121,122]),("MOST_LETTERS",.int 6),("BETWEEN",.str [58,32])],[("MARKS",[(.str [107,101,101,112],.str [61]),(.str [112,117,116],.str [43]),(.str [100,114,111,112],.str [45])]),("WORDS",[(.str [61],.str [107,101,101,112]),(.str [43],.str [112,117,116]),(.str [45],.str [100,114,111,112])])]⟩
section
variable{a:Nat->Addr}{d:Nat->FuncData}{n:Nat}
abbrev n0:List Str:=["thing"]
def s0:bC n0 ["thing"] (aA (top 8)):=⟨rfl,rfl,rfl,by decide +kernel,rfl,by decide +kernel,by decide +kernel⟩
abbrev n1:List Str:=["thing"]
def s1:bC n1 ["thing"] (aA (top 9)):=⟨rfl,rfl,rfl,by decide +kernel,rfl,by decide +kernel,by decide +kernel⟩
abbrev n2:List Str:=["thing"]
def s2:bC n2 ["thing"] (aA (top 10)):=⟨rfl,rfl,rfl,by decide +kernel,rfl,by decide +kernel,by decide +kernel⟩
abbrev n3:List Str:=["thing"]
def s3:bC n3 ["thing"] (aA (top 11)):=⟨rfl,rfl,rfl,by decide +kernel,rfl,by decide +kernel,by decide +kernel⟩
abbrev n4:List Str:=["change"]
def s4:bC n4 ["change"] (aA (top 15)):=⟨rfl,rfl,rfl,by decide +kernel,rfl,by decide +kernel,by decide +kernel⟩
abbrev n5:List Str:=["text","change"]
def s5:bC n5 ["text"] (aA (top 16)):=⟨rfl,rfl,rfl,by decide +kernel,rfl,by decide +kernel,by decide +kernel⟩
abbrev n6:List Str:=["text","word"]
def s6:bC n6 ["text"] (aA (top 17)):=⟨rfl,rfl,rfl,by decide +kernel,rfl,by decide +kernel,by decide +kernel⟩
abbrev n7:List Str:=["text"]
def s7:bC n7 ["text"] (aA (top 18)):=⟨rfl,rfl,rfl,by decide +kernel,rfl,by decide +kernel,by decide +kernel⟩
abbrev n8:List Str:=["text","lines"]
def s8:bC n8 ["text"] (aA (top 19)):=⟨rfl,rfl,rfl,by decide +kernel,rfl,by decide +kernel,by decide +kernel⟩
abbrev n9:List Str:=["rows"]
def s9:bC n9 ["rows"] (aA (top 24)):=⟨rfl,rfl,rfl,by decide +kernel,rfl,by decide +kernel,by decide +kernel⟩
abbrev C9:List Str:=["text"]
def FP:bC C9 ["text"] (aA (top 25)):=⟨rfl,rfl,rfl,by decide +kernel,rfl,by decide +kernel,by decide +kernel⟩
abbrev Dc:List Str:=["line","pieces"]
def tZ:bC Dc ["line"] (aA (top 26)):=⟨rfl,rfl,rfl,by decide +kernel,rfl,by decide +kernel,by decide +kernel⟩
abbrev NB:List Str:=["text"]
def s12:bC NB ["text"] (aA (top 27)):=⟨rfl,rfl,rfl,by decide +kernel,rfl,by decide +kernel,by decide +kernel⟩
abbrev NC:List Str:=["_law_script","_law_k"]
def Ug:bC NC ["_law_script","_law_k"] (aA (top 29)):=⟨rfl,rfl,rfl,by decide +kernel,rfl,by decide +kernel,by decide +kernel⟩
abbrev ND:List Str:=["_law_script","_law_k","_law_many","_law_cell_here"]
def Uh:bC ND ["_law_script","_law_k","_law_many"] (aA (top 30)):=⟨rfl,rfl,rfl,by decide +kernel,rfl,by decide +kernel,by decide +kernel⟩
abbrev NF:List Str:=["_law_text","_law_e"]
def Ui:bC NF ["_law_text"] (aA (top 32)):=⟨rfl,rfl,rfl,by decide +kernel,rfl,by decide +kernel,by decide +kernel⟩
abbrev NG:List Str:=["_law_own","_law_change","_law_heads"]
def Uj:bC NG ["_law_own","_law_change"] (aA (top 33)):=⟨rfl,rfl,rfl,by decide +kernel,rfl,by decide +kernel,by decide +kernel⟩
abbrev NH:List Str:=["_law_script","_law_at","_law_word","_law_many"]
def Uk:bC NH ["_law_script","_law_at"] (aA (top 34)):=⟨rfl,rfl,rfl,by decide +kernel,rfl,by decide +kernel,by decide +kernel⟩
abbrev NI:List Str:=["_law_script","_law_rows","_law_k","_law_here","_law_own","_law_many","_law_text","_law_place","_law_sign","_law_spoilt","_law_told_here","_law_odd","_law_bad"]
def Ul:bC NI ["_law_script"] (aA (top 35)):=⟨rfl,rfl,rfl,by decide +kernel,rfl,by decide +kernel,by decide +kernel⟩
noncomputable def bD:List (Str×Nat):=[("NoText",0)]
noncomputable def rz:List Nat:=[5,6,7,8,10,11]
noncomputable def su:List Nat:=[5,6,7,8,10,11]
def hz:Ev.pe rz 0 prog=true:=by decide +kernel
noncomputable def Sw(s:Stmt):List Expr:=match b7 s with
 |[.Try [.Return (some (.Call _ xs _ _)) _] _ _ _ _]=>xs
 |_=>[]
set_option maxHeartbeats 0 in
def dJ{cl:Nat->Addr}:allB (tb a d) n [(f0.body,top 8,n0),(f1.body,top 9,n1),(f2.body,top 10,n2),(f3.body,top 11,n3),(f4.body,top 15,n4),(f5.body,top 16,n5),(f6.body,top 17,n6),(f7.body,top 18,n7),(f8.body,top 19,n8),(f9.body,top 24,n9),(t9.body,top 25,C9),(GR.body,top 26,Dc),(Nq.body,top 27,NB),(Nr.body,top 29,NC),(Nt.body,top 30,ND),(C6.body,top 33,NG),(xu.body,top 34,NH),(C7.body,top 35,NI)]/\ji (tb a d) cl bD rz su n (aA (top 16)) n5 true (List.range n5.length) f5.body (b7 (top 16))/\ji (tb a d) cl bD rz su n (aA (top 17)) n6 true (List.range n6.length) f6.body (b7 (top 17))/\ji (tb a d) cl bD rz su n (aA (top 18)) n7 true (List.range n7.length) f7.body (b7 (top 18))/\ji (tb a d) cl bD rz su n (aA (top 19)) n8 true (List.range n8.length) f8.body (b7 (top 19))/\ji (tb a d) cl bD rz su n (aA (top 25)) C9 true (List.range C9.length) t9.body (b7 (top 25))/\ji (tb a d) cl bD rz su n (aA (top 26)) Dc true (List.range Dc.length) GR.body (b7 (top 26))/\JA (tb a d) n (aA (top 32)) NF true (List.range NF.length) (.cons (.v 0) .nil) (Sw (top 32)):=by
 refine⟨⟨?_,?_,?_,?_,?_,?_,?_,?_,?_,?_,?_,?_,?_,?_,?_,?_,?_,?_,trivial⟩,bM ?_ (qK (by decide +kernel)) (bM ?_ (IE (by decide +kernel) (L0 (Ci (by decide +kernel) (by decide +kernel) ?_ (L1 (by decide +kernel)) ?_ ?_ ?_ (Cg (by decide +kernel) (by decide +kernel) rfl rfl ?_ (by decide +kernel))) (h1:=sY))) (bM ?_ (jB ?_ (by decide +kernel) (bM ?_ (kU) (cj (by decide +kernel))) (cj (by decide +kernel))) (cj (by decide +kernel)))),bM ?_ (jB ?_ (by decide +kernel) (bM ?_ (kU) (cj (by decide +kernel))) (cj (by decide +kernel))) (bM ?_ (qK (by decide +kernel)) (bM ?_ (jB ?_ (by decide +kernel) (bM ?_ (sj (Cf (lN ?_ (Gr (by decide +kernel)) (lN ?_ (Ao (by decide +kernel) (by decide +kernel) rfl rfl ?_ (nA (by decide +kernel))) (nA (by decide +kernel)))))) (cj (by decide +kernel))) (cj (by decide +kernel))) (cj (by decide +kernel)))),bM ?_ (jB ?_ (by decide +kernel) (bM ?_ (kU) (cj (by decide +kernel))) (cj (by decide +kernel))) (cj (by decide +kernel)),bM ?_ (qK (by decide +kernel)) (bM ?_ (jB ?_ (by decide +kernel) (bM ?_ (kU) (cj (by decide +kernel))) (cj (by decide +kernel))) (cj (by decide +kernel))),bM ?_ (sj (Ci (by decide +kernel) (by decide +kernel) ?_ (IJ (Ao (by decide +kernel) (by decide +kernel) rfl rfl ?_ (nA (by decide +kernel)))) ?_ ?_ ?_ (Cg (by decide +kernel) (by decide +kernel) rfl rfl ?_ (by decide +kernel)))) (cj (by decide +kernel)),bM ?_ (qK (by decide +kernel)) (bM ?_ (jB ?_ (by decide +kernel) (bM ?_ (kU) (cj (by decide +kernel))) (cj (by decide +kernel))) (bM ?_ (sj (Cf (lN ?_ (Gr (by decide +kernel)) (lN ?_ (Ao (by decide +kernel) (by decide +kernel) rfl rfl ?_ (nA (by decide +kernel))) (nA (by decide +kernel)))))) (cj (by decide +kernel)))),?_⟩;all_goals try dsimp only
 all_goals repeat (first
  | ((with_reducible show JE _ _ _ _ _ _ _ (.BoolOp _ [_] _));refine K0 ?_)
  | ((with_reducible show JE _ _ _ _ _ _ (.c _) (.Name _ _));refine iO (x:="MOST_KEPT") (.tail _ (.tail _ (.head _))))
  | ((with_reducible show JE _ _ _ _ _ _ (.c _) (.Name _ _));refine iO (x:="BETWEEN") (.tail _ (.tail _ (.tail _ (.tail _ (.tail _ (.tail _ (.tail _ (.head _)))))))))
  | ((with_reducible show JE _ _ _ _ _ _ (.c _) (.Name _ _));refine iO (x:="MOST_PARTS") (.tail _ (.tail _ (.tail _ (.tail _ (.head _))))))
  | ((with_reducible show JE _ _ _ _ _ _ (.c _) (.Name _ _));refine iO (x:="MOST_SIGNS") (.tail _ (.tail _ (.tail _ (.head _)))))
  | ((with_reducible show JE _ _ _ _ _ _ (.c _) (.Name _ _));refine iO (x:="SIGNS") (.tail _ (.head _)))
  | ((with_reducible show JT _ _ _ _ _ _ (.cmp .di _ _) _);refine LM (x:="WORDS") (ks:=[[61],[43],[45]]) (.tail _ (.head _)) ?_)
  | ((with_reducible show JE _ _ _ _ _ _ (.c _) (.Name _ _));refine iO (x:="MOST_LETTERS") (.tail _ (.tail _ (.tail _ (.tail _ (.tail _ (.tail _ (.head _))))))))
  | ((with_reducible show JE _ _ _ _ _ _ (.c _) (.Name _ _));refine iO (x:="LETTERS") (.tail _ (.tail _ (.tail _ (.tail _ (.tail _ (.head _)))))))
  | ((with_reducible show JA _ _ _ _ _ _ (.cons _ _) _);refine HM ?_ ?_)
  | ((with_reducible show JE _ _ _ _ _ _ (.v _) _);exact jv (by decide +kernel))
  | ((with_reducible show JA _ _ _ _ _ _ .nil _);refine KW)
  | ((with_reducible show nh _ _ _ _ _ _ (.cons _ _) _);refine vm ?_ ?_)
  | ((with_reducible show JE _ _ _ _ _ _ (.c (.int _)) _);refine KS)
  | ((with_reducible show nh _ _ _ _ _ _ .nil _);refine yp)
  | ((with_reducible show JE _ _ _ _ _ _ (.c (.str _)) _);refine KU)
  | ((with_reducible show JE _ _ _ _ _ _ (.bin .add _ _) _);refine qC (λX g=>Lm) ?_ ?_)
  | ((with_reducible show JE _ _ _ _ _ _ (.cl _ _) _);refine P7 (by decide +kernel) rfl rfl ?_)
  | ((with_reducible show JS _ _ _ _ _ _ (.ret _) _);refine BF ?_)
  | ((with_reducible show JS _ _ _ _ _ _ (.iff _ _ _) _);refine Ld ?_ ?_ ?_)
  | ((with_reducible show JE _ _ _ _ _ _ (.comp _ _ _ _) _);refine OF (by decide +kernel) (by decide +kernel) ?_ ?_ ?_ ?_)
  | ((with_reducible show JC _ _ _ _ _ _ .no _);refine Oz)
  | ((with_reducible show JE _ _ _ _ _ _ (.ix _ _) _);refine Ou (λX g=>OD) ?_ ?_)
  | ((with_reducible show JG _ _ _ _ _ _ (.one _) _);exact Td (by decide +kernel))
  | ((with_reducible show JE _ _ _ _ _ _ (.tup _) _);refine KY ?_)
  | ((with_reducible show JI _ _ _ _ _ _ (.seq _) _ _);refine K8 ?_)
  | ((with_reducible show JE _ _ _ _ _ _ (.bin .mul _ _) _);refine qC (λX g=>Lv) ?_ ?_)
  | ((with_reducible show tT _ _ _ _ _ _ (_ :: _) _);refine Te (by decide +kernel) ?_)
  | ((with_reducible show JE _ _ _ _ _ _ (.lst _) _);refine KZ ?_)
  | ((with_reducible show JE _ _ _ _ _ _ (.c (.bl _)) _);refine Oi)
  | ((with_reducible show JT _ _ _ _ _ _ (.orr _ _) _);refine Ry ?_ ?_)
  | ((with_reducible show JW _ _ _ _ _ _ (.orr _ _) (.BoolOp _ (_ :: _ :: _) _));refine Bx ?_ ?_)
  | ((with_reducible show JT _ _ _ _ _ _ (.nt _) _);refine Ot ?_)
  | ((with_reducible show JW _ _ _ _ _ _ _ (.BoolOp .Or [_] _));refine HN ?_)
  | ((with_reducible show JE _ _ _ _ _ _ (.bi .len _) _);refine FE (x:="len") (id:="len") (λX g=>Ly) ?_ (hb:=PF) (hv:=by decide +kernel))
  | ((with_reducible show JT _ _ _ _ _ _ (.cmp .ne _ _) _);refine qD (λX g=>OA g) ?_ ?_ (mU _))
  | ((with_reducible show JT _ _ _ _ _ _ (.cmp .eq _ _) _);refine qD (λX g=>FZ g) ?_ ?_ (mU _))
  | ((with_reducible show JE _ _ _ _ _ _ (.me .join _ (.cons _ _)) _);refine Ab Xq PySem.F.slot_str_join PySem.F.type_str_join (λX g=>Io) rfl ?_ ?_)
  | ((with_reducible show JE _ _ _ _ _ _ (.sl _ _ _) _);refine Ow (λX g=>Lu) ?_ ?_ ?_)
  | ((with_reducible show JO _ _ _ _ _ _ .no _);refine Ov)
  | ((with_reducible show JO _ _ _ _ _ _ (.yes _) _);refine K4 ?_)
  | ((with_reducible show JE _ _ _ _ _ _ (.bin .mod _ _) _);refine qC (λX g=>Ln) ?_ ?_)
  | ((with_reducible show JG _ _ _ _ _ _ (.many _) _);refine HW ?_)
  | ((with_reducible show tT _ _ _ _ _ _ [] _);refine HV)
  | ((with_reducible show JS _ _ _ _ _ _ (.b9 _) _);refine LC)
  | ((with_reducible show JI _ _ _ _ _ _ (.eW (.cons _ .nil)) _ _);refine HS ?_ (hb:=zF))
  | ((with_reducible show JE _ _ _ _ _ _ (.an _ _) (.BoolOp _ (_ :: _ :: _) _));refine Oq ?_ ?_)
  | ((with_reducible show JE _ _ _ _ _ _ (.bin .fdiv _ _) _);refine qC (λX g=>Ii) ?_ ?_)
  | ((with_reducible show JE _ _ _ _ _ _ (.dY _ [.tuple]) _);refine qI (t:=.tuple) (T:="tuple") ?_ (by decide +kernel) (h1:=iI) (h2:=sY))
  | ((with_reducible show JE _ _ _ _ _ _ (.bi .all _) _);refine FE (x:="all") (id:="all") (λX g=>Lx g) ?_ (hb:=PD) (hv:=by decide +kernel))
  | ((with_reducible show JE _ _ _ _ _ _ (.cmp .isin _ _) _);refine Bw (λX g=>OC g) ?_ ?_ (by with_unfolding_all rfl))
  | ((with_reducible show JE _ _ _ _ _ _ (.bi .fK _) _);refine FF (x:="str") (id:="str") (λX g=>Ir) ?_ (hb:=G4) (hv:=by decide +kernel))
  | ((with_reducible show JS _ _ _ _ _ _ (.for _ _ _) _);refine Le ?_ ?_ ?_)
  | ((with_reducible show JE _ _ _ _ _ _ (.cmp .eq _ _) _);refine Bw (λX g=>FZ g) ?_ ?_ (mU _))
  | ((with_reducible show JE _ _ _ _ _ _ (.ch _ _ _ _ _) _);refine Oj (λX g=>uJ) (λX g=>uJ) ?_ ?_ ?_)
  | ((with_reducible show JE _ _ _ _ _ _ (.fc _) _);refine LA ?_ (h1:=sY))
  | ((with_reducible show JE _ _ _ _ _ _ (.gq (.ju _ _)) _);refine D6 ?_ ?_)
  | ((with_reducible show JT _ _ _ _ _ _ (.cmp .gt _ _) _);refine qD (λX g=>OB) ?_ ?_ (mU _))
  | ((with_reducible show JE _ _ _ _ _ _ (.dY _ [.bool]) _);refine qI (t:=.bool) (T:="bool") ?_ (by decide +kernel) (h1:=iI) (h2:=Nz))
  | ((with_reducible show JE _ _ _ _ _ _ (.dY _ [.int]) _);refine qI (t:=.int) (T:="int") ?_ (by decide +kernel) (h1:=iI) (h2:=G3))
  | ((with_reducible show JE _ _ _ _ _ _ (.dY _ [.str]) _);refine qI (t:=.str) (T:="str") ?_ (by decide +kernel) (h1:=iI) (h2:=G4))
  | ((with_reducible show JT _ _ _ _ _ _ (.ch _ _ _ _ _) _);refine Oo (λX g=>uJ) (λX g=>uJ) ?_ ?_ ?_)
  | ((with_reducible show JE _ _ _ _ _ _ (.eS _ _) _);refine yC (x:="MARKS") (.head _) ?_)
  | ((with_reducible show JE _ _ _ _ _ _ (.eS _ _) _);refine yC (x:="WORDS") (.tail _ (.head _)) ?_)
  | ((with_reducible show JT _ _ _ _ _ _ (.cmp .di _ _) _);refine qD (λX g=>DX g) ?_ ?_ (by with_unfolding_all rfl))
  | ((with_reducible show JI _ _ _ _ _ _ (.eW (.cons _ (.cons _ .nil))) _ _);refine HU ?_ (hb:=zF))
  | ((with_reducible show JE _ _ _ _ _ _ (.bi .lD _) _);refine FF (x:="int") (id:="int") (λX g=>Iu) ?_ (hb:=G3) (hv:=by decide +kernel))
  | ((with_reducible show JE _ _ _ _ _ _ (.me .pop _ .nil) _);refine K5 V5 PySem.F.slot_list_pop PySem.F.type_list_pop (λX g=>Lz) rfl ?_)
  | ((with_reducible show JE _ _ _ _ _ _ (.me .part _ (.cons _ _)) _);refine Ab Xq PySem.F.slot_str_partition PySem.F.type_str_partition (λX g=>Iw) rfl ?_ ?_)
  | ((with_reducible show JE _ _ _ _ _ _ (.jt _) _);exact LK (.cons (.cons (.cons .nil))))
  | ((with_reducible show JE _ _ _ _ _ _ (.jK _ _) _);refine LL ?_ ?_)
  | ((with_reducible show JS _ _ _ _ _ _ (.exp _) _);refine Lc ?_)
  | ((with_reducible show JE _ _ _ _ _ _ (.me .append _ (.cons _ _)) _);refine Ab V5 PySem.F.slot_list_append PySem.F.type_list_append (λX g=>BW) rfl ?_ ?_)
  | ((with_reducible show JS _ _ _ _ _ _ (.set _ _) _);refine Rx ?_ ?_;decide +kernel)
  | ((with_reducible show JT _ _ _ _ _ _ _ _);refine K2 ?_))
end
def gf{α:Type _}{l:List α}(h:l.length=1):∃a,l=[a]:=by
 rcases l with _|⟨a,_|⟨b,l⟩⟩<;>simp at h ⊢
def AY{α:Type _}{l:List α}(h:l.length=2):∃a b,l=[a,b]:=by
 rcases l with _|⟨a,l⟩
 .simp at h
 .obtain⟨b,rfl⟩:=gf (l:=l) (by simpa using h);exact⟨a,b,rfl⟩
def Sx{α:Type _}{l:List α}(h:l.length=3):∃a b c,l=[a,b,c]:=by
 rcases l with _|⟨a,l⟩
 .simp at h
 .obtain⟨b,c,rfl⟩:=AY (l:=l) (by simpa using h);exact⟨a,b,c,rfl⟩
structure Fg(K:PySem.W.Frag)(x:Str)(i:Nat)(p:Addr)(d:FuncData):Prop where
 a:PySem.W.nsIn K mainGlobals x=some (some (.ref p))
 f:mZ K x x (top i) p d
def Fg.t{K:PySem.W.Frag}{h:Heap}{mg:Str->Option Value}{x:Str}{i:Nat}{p:Addr}{d:FuncData}{ps:List Str}(F:Fg K x i p d)(X:K.In h)(G:h.Ns mainGlobals mg)(b:Binds K d ps []):mg x=some (.ref p)/\PySem.W.keepIn K (.ref p)=true/\Binds K d ps []:=⟨Vp X G F.a,F.f.kp,b⟩
def all_mk {l:PySem.W.OpenLaw}{w:World}{K:PySem.W.Frag}{h:Heap}{mg:Str->Option Value}{fa p0 p1 p2 p3 p4 p5 p6 p7 p8 p9 Ge Gf Gg Gh Gi Gj Gk Gm B7:Addr}{d0 d1 d2 d3 d4 d5 d6 d7 d8 d9 Qu Qw Qx Qy Qz QA QB QC NJ:FuncData}(X:K.In h) (G:h.Ns mainGlobals mg) (Um:mg "law" = some (.ref fa))
  (F0:Fg K "is_change" 8 p0 d0)
  (F1:Fg K "is_part" 9 p1 d1)
  (F2:Fg K "is_kept" 10 p2 d2)
  (F3:Fg K "is_some" 11 p3 d3)
  (F4:Fg K "change_text" 15 p4 d4)
  (F5:Fg K "read_change" 16 p5 d5)
  (F6:Fg K "read_part" 17 p6 d6)
  (F7:Fg K "read_number" 18 p7 d7)
  (F8:Fg K "lines_of" 19 p8 d8)
  (F9:Fg K "owned_text" 24 p9 d9)
  (G5:Fg K "read_owned" 25 Ge Qu)
  (G6:Fg K "read_line" 26 Gf Qw)
  (NK:Fg K "is_name" 27 Gg Qx)
  (NL:Fg K "_law_cell" 29 Gh Qy)
  (NN:Fg K "_law_drawn" 30 Gi Qz)
  (NO:Fg K "_law_told" 32 Gj QA)
  (NP:Fg K "_law_line" 33 Gk QB)
  (NQ:Fg K "_law_part" 34 Gm QC)
  (De:Fg K "law" 35 B7 NJ)
  {pr Wc C0:Addr} {dr:FuncData} (FR:Fg K "_law_refused" 31 pr dr) (xw:PySem.W.nsIn K mainGlobals "WayError" = some (some (.ref Wc)))
  (X0:LZ K "NoText" C0 Wc)
  (z0:PySem.W.nsIn K mainGlobals "ValueError" = some none)
  (z1:PySem.W.nsIn K mainGlobals "all" = some none)
  (z2:PySem.W.nsIn K mainGlobals "bool" = some none)
  (z3:PySem.W.nsIn K mainGlobals "int" = some none)
  (z4:PySem.W.nsIn K mainGlobals "isinstance" = some none)
  (z5:PySem.W.nsIn K mainGlobals "len" = some none)
  (z6:PySem.W.nsIn K mainGlobals "range" = some none)
  (z7:PySem.W.nsIn K mainGlobals "str" = some none)
  (z8:PySem.W.nsIn K mainGlobals "tuple" = some none)
  {t0:Tok} (q0:PySem.W.nsIn K mainGlobals "__name__" = some (some (.str "law_pastways_k93_owned_texts" t0)))
  {t1:Tok} (q1:PySem.W.nsIn K mainGlobals "SIGNS" = some (some (.str "abcdefghijklmnopqrstuvwxyz " t1)))
  {t2:Tok} (q2:PySem.W.nsIn K mainGlobals "MOST_KEPT" = some (some (.int 99 t2)))
  {t3:Tok} (q3:PySem.W.nsIn K mainGlobals "MOST_SIGNS" = some (some (.int 8 t3)))
  {t4:Tok} (q4:PySem.W.nsIn K mainGlobals "MOST_PARTS" = some (some (.int 12 t4)))
  {t5:Tok} (q5:PySem.W.nsIn K mainGlobals "LETTERS" = some (some (.str "abcdefghijklmnopqrstuvwxyz" t5)))
  {t6:Tok} (q6:PySem.W.nsIn K mainGlobals "MOST_LETTERS" = some (some (.int 6 t6)))
  {t7:Tok} (q7:PySem.W.nsIn K mainGlobals "BETWEEN" = some (some (.str ": " t7)))
  {G7:Addr} (QD:PySem.W.nsIn K mainGlobals "MARKS" = some (some (.ref G7))) (QE:PyProof.Rows.KTD.tabLook PyProof.Rows.KTD.flatLooks (λb=>K.lookup b) G7 [(au [107,101,101,112],PyData.str (au [61])),(au [112,117,116],PyData.str (au [43])),(au [100,114,111,112],PyData.str (au [45]))]=true) (QF:PyProof.Rows.KTD.hashesOf (λb=>K.lookup b) G7=([(au [107,101,101,112],PyData.str (au [61])),(au [112,117,116],PyData.str (au [43])),(au [100,114,111,112],PyData.str (au [45]))]:List (Str×PyData)).map λp=>(PySem.strKind l.prog w).hash p.1)
  {G8:Addr} (QG:PySem.W.nsIn K mainGlobals "WORDS" = some (some (.ref G8))) (QH:PyProof.Rows.KTD.tabLook PyProof.Rows.KTD.flatLooks (λb=>K.lookup b) G8 [(au [61],PyData.str (au [107,101,101,112])),(au [43],PyData.str (au [112,117,116])),(au [45],PyData.str (au [100,114,111,112]))]=true) (QI:PyProof.Rows.KTD.hashesOf (λb=>K.lookup b) G8=([(au [61],PyData.str (au [107,101,101,112])),(au [43],PyData.str (au [112,117,116])),(au [45],PyData.str (au [100,114,111,112]))]:List (Str×PyData)).map λp=>(PySem.strKind l.prog w).hash p.1)
  : ∃fd:FuncData,(∀(s:Shared) (v:Value),BindsTo s fd ⟨[v],[]⟩ [("_law_script",v)])/\∀base:Heap,K.In base->base.Ns mainGlobals mg->eO l.prog w K mg base jr 60 fa fd ["_law_script"] (mh K prog 100000 60 18):=by
 have e:=Um.symm.trans (Vp X G De.a);have e2:B7=fa:=by injection e with e;injection e with e;exact e.symm
 subst e2
 let aa:Nat->Addr:=λk=>[p0,p1,p2,p3,p4,p5,p6,p7,p8,p9,Ge,Gf,Gg,Gh,Gi,Gj,Gk,Gm,B7].getD k p0
 let dd:Nat->FuncData:=λk=>[d0,d1,d2,d3,d4,d5,d6,d7,d8,d9,Qu,Qw,Qx,Qy,Qz,QA,QB,QC,NJ].getD k d0
 have T:Top l.prog w K mg (tb aa dd):=by
  refine⟨λf i hi=>(show ∀i∈(tb aa dd).fi,mg i.name=some (.ref i.addr)/\PySem.W.keepIn K (.ref i.addr)=true/\Binds K i.fd i.ps []from ?_) i (Vr hi),?_,?_,?_⟩
  .refine List.forall_mem_cons.mpr ⟨F0.t X G (F0.f.binds λ_ _ _ _ _ _ us hl=>by obtain⟨_,rfl⟩:=gf hl;rfl),?_⟩;refine List.forall_mem_cons.mpr ⟨F1.t X G (F1.f.binds λ_ _ _ _ _ _ us hl=>by obtain⟨_,rfl⟩:=gf hl;rfl),?_⟩;refine List.forall_mem_cons.mpr ⟨F2.t X G (F2.f.binds λ_ _ _ _ _ _ us hl=>by obtain⟨_,rfl⟩:=gf hl;rfl),?_⟩;refine List.forall_mem_cons.mpr ⟨F3.t X G (F3.f.binds λ_ _ _ _ _ _ us hl=>by obtain⟨_,rfl⟩:=gf hl;rfl),?_⟩;refine List.forall_mem_cons.mpr ⟨F4.t X G (F4.f.binds λ_ _ _ _ _ _ us hl=>by obtain⟨_,rfl⟩:=gf hl;rfl),?_⟩;refine List.forall_mem_cons.mpr ⟨F5.t X G (F5.f.binds λ_ _ _ _ _ _ us hl=>by obtain⟨_,rfl⟩:=gf hl;rfl),?_⟩;refine List.forall_mem_cons.mpr ⟨F6.t X G (F6.f.binds λ_ _ _ _ _ _ us hl=>by obtain⟨_,rfl⟩:=gf hl;rfl),?_⟩;refine List.forall_mem_cons.mpr ⟨F7.t X G (F7.f.binds λ_ _ _ _ _ _ us hl=>by obtain⟨_,rfl⟩:=gf hl;rfl),?_⟩;refine List.forall_mem_cons.mpr ⟨F8.t X G (F8.f.binds λ_ _ _ _ _ _ us hl=>by obtain⟨_,rfl⟩:=gf hl;rfl),?_⟩;refine List.forall_mem_cons.mpr ⟨F9.t X G (F9.f.binds λ_ _ _ _ _ _ us hl=>by obtain⟨_,rfl⟩:=gf hl;rfl),?_⟩;refine List.forall_mem_cons.mpr ⟨G5.t X G (G5.f.binds λ_ _ _ _ _ _ us hl=>by obtain⟨_,rfl⟩:=gf hl;rfl),?_⟩;refine List.forall_mem_cons.mpr ⟨G6.t X G (G6.f.binds λ_ _ _ _ _ _ us hl=>by obtain⟨_,rfl⟩:=gf hl;rfl),?_⟩;refine List.forall_mem_cons.mpr ⟨NK.t X G (NK.f.binds λ_ _ _ _ _ _ us hl=>by obtain⟨_,rfl⟩:=gf hl;rfl),?_⟩;refine List.forall_mem_cons.mpr ⟨NL.t X G (NL.f.binds λ_ _ _ _ _ _ us hl=>by obtain⟨_,_,rfl⟩:=AY hl;rfl),?_⟩;refine List.forall_mem_cons.mpr ⟨NN.t X G (NN.f.binds λ_ _ _ _ _ _ us hl=>by obtain⟨_,_,_,rfl⟩:=Sx hl;rfl),?_⟩;refine List.forall_mem_cons.mpr ⟨NO.t X G (NO.f.binds λ_ _ _ _ _ _ us hl=>by obtain⟨_,rfl⟩:=gf hl;rfl),?_⟩;refine List.forall_mem_cons.mpr ⟨NP.t X G (NP.f.binds λ_ _ _ _ _ _ us hl=>by obtain⟨_,_,rfl⟩:=AY hl;rfl),?_⟩;refine List.forall_mem_cons.mpr ⟨NQ.t X G (NQ.f.binds λ_ _ _ _ _ _ us hl=>by obtain⟨_,_,rfl⟩:=AY hl;rfl),?_⟩;refine List.forall_mem_cons.mpr ⟨De.t X G (De.f.binds λ_ _ _ _ _ _ us hl=>by obtain⟨_,rfl⟩:=gf hl;rfl),?_⟩;exact λ_ h=>nomatch h
  .exact(show ∀x∈pK,mg x=none from List.forall_mem_cons.mpr ⟨Vs X G z0,List.forall_mem_cons.mpr ⟨Vs X G z1,List.forall_mem_cons.mpr ⟨Vs X G z2,List.forall_mem_cons.mpr ⟨Vs X G z3,List.forall_mem_cons.mpr ⟨Vs X G z4,List.forall_mem_cons.mpr ⟨Vs X G z5,List.forall_mem_cons.mpr ⟨Vs X G z6,List.forall_mem_cons.mpr ⟨Vs X G z7,List.forall_mem_cons.mpr ⟨Vs X G z8,λ_ h=>nomatch h⟩⟩⟩⟩⟩⟩⟩⟩⟩)
  .exact λx d hx=>(show ∀y∈(tb aa dd).cs,∃v u,mg y.1=some u/\RelV v u/\yl K y.2 v from List.forall_mem_cons.mpr ⟨⟨.str "law_pastways_k93_owned_texts",_,Vp X G q0,⟨_,rfl⟩,λ_ _=>⟨by decide +kernel,by decide⟩⟩,List.forall_mem_cons.mpr ⟨⟨.str "abcdefghijklmnopqrstuvwxyz ",_,Vp X G q1,⟨_,rfl⟩,λ_ _=>⟨by decide +kernel,by decide⟩⟩,List.forall_mem_cons.mpr ⟨⟨.int 99,_,Vp X G q2,⟨_,rfl⟩,λ_ _=>rfl⟩,List.forall_mem_cons.mpr ⟨⟨.int 8,_,Vp X G q3,⟨_,rfl⟩,λ_ _=>rfl⟩,List.forall_mem_cons.mpr ⟨⟨.int 12,_,Vp X G q4,⟨_,rfl⟩,λ_ _=>rfl⟩,List.forall_mem_cons.mpr ⟨⟨.str "abcdefghijklmnopqrstuvwxyz",_,Vp X G q5,⟨_,rfl⟩,λ_ _=>⟨by decide +kernel,by decide⟩⟩,List.forall_mem_cons.mpr ⟨⟨.int 6,_,Vp X G q6,⟨_,rfl⟩,λ_ _=>rfl⟩,List.forall_mem_cons.mpr ⟨⟨.str ": ",_,Vp X G q7,⟨_,rfl⟩,λ_ _=>⟨by decide +kernel,by decide⟩⟩,λ_ h=>nomatch h⟩⟩⟩⟩⟩⟩⟩⟩) (x,d) hx
  .exact λx d hx=>(show ∀y∈(tb aa dd).dk,∃a,mg y.1=some (.ref a)/\∀h:Heap,K.In h->StrTab l.prog w h a (tabOf y.2)from List.forall_mem_cons.mpr ⟨⟨G7,Vp X G QD,λh hK=>Ye l.prog w hK QE (by decide +kernel) QF⟩,List.forall_mem_cons.mpr ⟨⟨G8,Vp X G QG,λh hK=>Ye l.prog w hK QH (by decide +kernel) QI⟩,λ_ h=>nomatch h⟩⟩) (x,d) hx
 refine⟨NJ,λs v=>?_,λbase _ _=>?_⟩
 .obtain⟨oc,od,kV,doc,pm,an,cdv,ct,osl,e,_⟩:=De.f.ex;rw[e];exact .of_eq rfl
 let cl:Nat->Addr:=λk=>[C0].getD k C0
 have hc:∀x c,(x,c)∈bD->mg x=some (.ref (cl c))/\Cc K (cl c):=λx c hx=>(show ∀y∈bD,mg y.1=some (.ref (cl y.2))/\Cc K (cl y.2)from List.forall_mem_cons.mpr ⟨⟨Vp X G X0.ns,X0.rs⟩,λ_ h=>nomatch h⟩) (x,c) hx;have kc:∀c,c<1->(λC c=>Gd K C C0 c) (cl c) c/\PySem.W.exmOne K (.ref (cl c)) (.ref Wc)=some true:=λc h=>match c,h with
  |0,_=>⟨X0.cs,X0.em⟩
 have R:Eb K mg pr dr (top 31) Wc (λC c=>Gd K C C0 c):=⟨FR.f,⟨rfl,rfl,rfl,by decide +kernel,rfl,by decide +kernel,by decide +kernel⟩,FR.f.binds λ_ _ _ _ _ _ us hl=>by obtain⟨_,rfl⟩:=gf hl;rfl,Vp X G FR.a,Vp X G xw,λY a oe C c h1 h2 h3 h4 hp ho hd k=>B6 hp ho hd (by rw[h3];exact k) (by show Y.env.scope.names.lookup _=_;rw[h2];rfl) (by show Y.env.scope.names.lookup _=_;rw[h2];rfl) (by show Y.env.scope.names.lookup _=_;rw[h2];rfl) (by rw[h4];exact Vp X G X0.ns) (by rw[h4];exact Vs X G z4) (by rw[h4];exact Vs X G z0) (by decide) h1 (by rw[h2];rfl) (by rw[h2];rfl) rfl rfl⟩
 refine(sq (P:=l.prog) (w:=w) (G:=tb aa dd) (cl:=cl) (su:=su) (base:=base) (λn A0 A1=>⟨λf i hi=>?_,λf i hi hu=>?_⟩) 60).1 18 (G2 aa dd) rfl
 .match f,hi with
  |0,hi=>obtain rfl:i0 aa dd=i:=lz hi;exact ef (i:=i0 aa dd) T A0 F0.f s0 rfl rfl (@allB.get _ _ _ 0 (f0.body,top 8,n0) (dJ (cl:=cl)).1 rfl)
  |1,hi=>obtain rfl:i1 aa dd=i:=lz hi;exact ef (i:=i1 aa dd) T A0 F1.f s1 rfl rfl (@allB.get _ _ _ 1 (f1.body,top 9,n1) (dJ (cl:=cl)).1 rfl)
  |2,hi=>obtain rfl:i2 aa dd=i:=lz hi;exact ef (i:=i2 aa dd) T A0 F2.f s2 rfl rfl (@allB.get _ _ _ 2 (f2.body,top 10,n2) (dJ (cl:=cl)).1 rfl)
  |3,hi=>obtain rfl:i3 aa dd=i:=lz hi;exact ef (i:=i3 aa dd) T A0 F3.f s3 rfl rfl (@allB.get _ _ _ 3 (f3.body,top 11,n3) (dJ (cl:=cl)).1 rfl)
  |4,hi=>obtain rfl:i4 aa dd=i:=lz hi;exact ef (i:=i4 aa dd) T A0 F4.f s4 rfl rfl (@allB.get _ _ _ 4 (f4.body,top 15,n4) (dJ (cl:=cl)).1 rfl)
  |5,hi=>obtain rfl:i5 aa dd=i:=lz hi;exact ef (i:=i5 aa dd) T A0 F5.f s5 rfl rfl (@allB.get _ _ _ 5 (f5.body,top 16,n5) (dJ (cl:=cl)).1 rfl)
  |6,hi=>obtain rfl:i6 aa dd=i:=lz hi;exact ef (i:=i6 aa dd) T A0 F6.f s6 rfl rfl (@allB.get _ _ _ 6 (f6.body,top 17,n6) (dJ (cl:=cl)).1 rfl)
  |7,hi=>obtain rfl:i7 aa dd=i:=lz hi;exact ef (i:=i7 aa dd) T A0 F7.f s7 rfl rfl (@allB.get _ _ _ 7 (f7.body,top 18,n7) (dJ (cl:=cl)).1 rfl)
  |8,hi=>obtain rfl:i8 aa dd=i:=lz hi;exact ef (i:=i8 aa dd) T A0 F8.f s8 rfl rfl (@allB.get _ _ _ 8 (f8.body,top 19,n8) (dJ (cl:=cl)).1 rfl)
  |9,hi=>obtain rfl:i9 aa dd=i:=lz hi;exact ef (i:=i9 aa dd) T A0 F9.f s9 rfl rfl (@allB.get _ _ _ 9 (f9.body,top 24,n9) (dJ (cl:=cl)).1 rfl)
  |10,hi=>obtain rfl:zE aa dd=i:=lz hi;exact ef (i:=zE aa dd) T A0 G5.f FP rfl rfl (@allB.get _ _ _ 10 (t9.body,top 25,C9) (dJ (cl:=cl)).1 rfl)
  |11,hi=>obtain rfl:C8 aa dd=i:=lz hi;exact ef (i:=C8 aa dd) T A0 G6.f tZ rfl rfl (@allB.get _ _ _ 11 (GR.body,top 26,Dc) (dJ (cl:=cl)).1 rfl)
  |12,hi=>obtain rfl:i12 aa dd=i:=lz hi;exact ef (i:=i12 aa dd) T A0 NK.f s12 rfl rfl (@allB.get _ _ _ 12 (Nq.body,top 27,NB) (dJ (cl:=cl)).1 rfl)
  |13,hi=>obtain rfl:Nu aa dd=i:=lz hi;exact ef (i:=Nu aa dd) T A0 NL.f Ug rfl rfl (@allB.get _ _ _ 13 (Nr.body,top 29,NC) (dJ (cl:=cl)).1 rfl)
  |14,hi=>obtain rfl:Nv aa dd=i:=lz hi;exact ef (i:=Nv aa dd) T A0 NN.f Uh rfl rfl (@allB.get _ _ _ 14 (Nt.body,top 30,ND) (dJ (cl:=cl)).1 rfl)
  |15,hi=>obtain rfl:Qt aa dd=i:=lz hi;exact IG (ix:=1) (j:=zE aa dd) T A0 A1 (by show prog.length<=1000;decide) R kc NO.f Ui rfl rfl rfl rfl (by decide +kernel) rfl (dJ (cl:=cl)).2.2.2.2.2.2.2 (show nq (aA (top 32)) "read_owned" = true by decide +kernel) rfl rfl rfl rfl
  |16,hi=>obtain rfl:Nx aa dd=i:=lz hi;exact ef (i:=Nx aa dd) T A0 NP.f Uj rfl rfl (@allB.get _ _ _ 15 (C6.body,top 33,NG) (dJ (cl:=cl)).1 rfl)
  |17,hi=>obtain rfl:Ny aa dd=i:=lz hi;exact ef (i:=Ny aa dd) T A0 NQ.f Uk rfl rfl (@allB.get _ _ _ 16 (xu.body,top 34,NH) (dJ (cl:=cl)).1 rfl)
  |18,hi=>obtain rfl:G2 aa dd=i:=lz hi;exact ef (i:=G2 aa dd) T A0 De.f Ul rfl rfl (@allB.get _ _ _ 17 (C7.body,top 35,NI) (dJ (cl:=cl)).1 rfl)
  |j+19,hi=>exact nomatch (show(none:Option FI)=some i from hi)
 .match f,hi,hu with
  |5,hi,_=>obtain rfl:i5 aa dd=i:=lz hi;exact kW (i:=i5 aa dd) T A0 A1 hz hc F5.f s5 rfl rfl (dJ (cl:=cl)).2.1
  |6,hi,_=>obtain rfl:i6 aa dd=i:=lz hi;exact kW (i:=i6 aa dd) T A0 A1 hz hc F6.f s6 rfl rfl (dJ (cl:=cl)).2.2.1
  |7,hi,_=>obtain rfl:i7 aa dd=i:=lz hi;exact kW (i:=i7 aa dd) T A0 A1 hz hc F7.f s7 rfl rfl (dJ (cl:=cl)).2.2.2.1
  |8,hi,_=>obtain rfl:i8 aa dd=i:=lz hi;exact kW (i:=i8 aa dd) T A0 A1 hz hc F8.f s8 rfl rfl (dJ (cl:=cl)).2.2.2.2.1
  |10,hi,_=>obtain rfl:zE aa dd=i:=lz hi;exact kW (i:=zE aa dd) T A0 A1 hz hc G5.f FP rfl rfl (dJ (cl:=cl)).2.2.2.2.2.1
  |11,hi,_=>obtain rfl:C8 aa dd=i:=lz hi;exact kW (i:=C8 aa dd) T A0 A1 hz hc G6.f tZ rfl rfl (dJ (cl:=cl)).2.2.2.2.2.2.1
  |0,_,hu=>exact absurd hu (by decide)
  |1,_,hu=>exact absurd hu (by decide)
  |2,_,hu=>exact absurd hu (by decide)
  |3,_,hu=>exact absurd hu (by decide)
  |4,_,hu=>exact absurd hu (by decide)
  |9,_,hu=>exact absurd hu (by decide)
  |12,_,hu=>exact absurd hu (by decide)
  |13,_,hu=>exact absurd hu (by decide)
  |14,_,hu=>exact absurd hu (by decide)
  |15,_,hu=>exact absurd hu (by decide)
  |16,_,hu=>exact absurd hu (by decide)
  |17,_,hu=>exact absurd hu (by decide)
  |18,_,hu=>exact absurd hu (by decide)
  |j+19,hi,_=>exact nomatch (show(none:Option FI)=some i from hi)
end Lw
namespace Lg
open Pv
open Lw (prog GS C6 xu C7 AS AU G1 GY GZ G0 AV AW AX)
open Ev (deep big rep cut bg aP)
def drawn{ns:List Int}(k:Int)(m:Nat)(h:0<m):∃p:Nat,CG ns k (m:Int)=(p:Int)/\p<m:=by
 have h1:=MX ns k (many:=(m:Int)) (by omega);have h2:=MY ns k (many:=(m:Int)) (by omega);exact⟨(CG ns k (m:Int)).toNat,by omega,by omega⟩
theorem lW{α β:Type}{f:V->Option (Option V)}{e:α->V}{g:β->V}{P:β->Prop}:∀{l:List α},(∀a∈l,∃b,P b/\f (e a)=some (some (g b)))->∃bs:List β,bs.length=l.length/\(∀b∈bs,P b)/\bu f (l.map e)=some (bs.map g)
 |[],_=>⟨[],rfl,(λ_ h=>nomatch h),rfl⟩
 |a :: l,h=>by
  obtain⟨b,h1,h2⟩:=h a (by simp);obtain⟨bs,h3,h4,h5⟩:=lW (l:=l) λx hx=>h x (by simp[hx]);refine⟨b :: bs,by simp[h3],λx hx=>?_,?_⟩
  .rcases List.mem_cons.mp hx with rfl|hx
   .exact h1
   .exact h4 x hx
  .simp only[wX,bu,h2,h5,Option.bind];rfl
theorem AZ:∀bs:List Nat,(bs.map λb=>[b]).flatten=bs
 |[]=>rfl
 |b :: bs=>by rw[wX,Vu,AZ bs];rfl
def join_one(bs:List Nat)(h:bs.length<=1000):cI .join (.str []) [.lst (bs.map λb=>V.str [b])]=some (.str bs):=by
 have:=uL (l:=bs.map λb=>[b]) (by rw[AZ];omega);rw[VJ,AZ]at this;exact this
def Df(j:Int){n:Nat}(h:n<=1000)(e:j=n):dP [.int j]=some ((List.range n).map λ(i:Nat)=>V.int (i:Int)):=by
 rw[RW (n:=n) (by omega) e,CK];simp
section
variable{w n:Nat}{ns:List Int}(hn:ns.length<=63)
include hn
theorem dr(k:Int)(m:Nat)(hm:0<m):∃p:Nat,p<m/\∀fr,dI (run prog w (n+2)) 14 [.inr (lu ns),.inr (.int k),.inr (.int (m:Int))] fr=.ok (.int (p:Int)) fr:=by
 obtain⟨p,e,h⟩:=drawn (ns:=ns) k m hm;refine⟨p,h,λfr=>?_⟩;have:=OZ (fr:=fr) (CJ (F:=prog) (c:=13) (dr:=14) (w:=w) (n:=n) rfl rfl hn k (many:=(m:Int)) (by omega));rw[e]at this;exact this
theorem G9(s:List Nat)(P:Nat->Prop)(hP:∀(j:Nat) x,s[j]?=some x->P x)(m:Nat)(hs:s.length=m)(hm:0<m)(k:Int):∃(b p:Nat),P b/\p<m/\(∀fr,dI (run prog w (n+2)) 14 [.inr (lu ns),.inr (.int k),.inr (.int (m:Int))] fr=.ok (.int (p:Int)) fr)/\gz (.str s) (.int (p:Int))=some (.str [b]):=by
 obtain⟨p,hp,e⟩:=dr (w:=w) (n:=n) hn k m hm;have h1:s[p]?=some (s[p]'(by omega)):=RY _;exact⟨_,p,hP p _ h1,hp,e,by rw[Jh,rM,h1];rfl⟩
theorem Fb(at_:Int):∃p,WP p/\run prog w (n+3) 17 [.val (lu ns),.val (.int at_)]=some (p.v,[]):=by
 obtain⟨a,ha,d0⟩:=dr (w:=w) (n:=n) hn at_ 3 (by decide);obtain⟨b,hb,d1⟩:=dr (w:=w) (n:=n) hn (at_+1) 99 (by decide);obtain⟨c,hc,d2⟩:=dr (w:=w) (n:=n) hn (at_+1) 8 (by decide);have cm:∀wd:V,∃bs:List Nat,bs.length=1+c/\(∀x∈bs,sgn.contains x=true)/\bu (cQ (run prog w (n+2)) (.ix (.c (.str [97,98,32,122])) (.cl 14 (.cons (.v 0) (.cons (.bin .add (.bin .add (.v 1) (.c (.int 2))) (.v 4)) (.cons (.c (.int 4)) .nil))))) (.one 4) .no [some (.val (lu ns)),some (.val (.int at_)),some (.val wd),some (.val (.int ((1+c:Nat):Int))),none]) ((List.range (1+c)).map λ(i:Nat)=>V.int (i:Int))=some (bs.map λb=>V.str [b]):=λwd=>by
  obtain⟨bs,h1,h2,h3⟩:=lW (f:=cQ (run prog w (n+2)) (.ix (.c (.str [97,98,32,122])) (.cl 14 (.cons (.v 0) (.cons (.bin .add (.bin .add (.v 1) (.c (.int 2))) (.v 4)) (.cons (.c (.int 4)) .nil))))) (.one 4) .no [some (.val (lu ns)),some (.val (.int at_)),some (.val wd),some (.val (.int ((1+c:Nat):Int))),none]) (e:=λ(i:Nat)=>V.int (i:Int)) (g:=λb=>V.str [b]) (P:=λx=>sgn.contains x=true) (l:=List.range (1+c)) λj _=>by
   obtain⟨x,p,q1,q2,q3,q4⟩:=G9 (w:=w) (n:=n) hn [97,98,32,122] (λx=>sgn.contains x=true) (λj x e=>by
    match j,e with
    |0,e=>cases e;rfl
    |1,e=>cases e;rfl
    |2,e=>cases e;rfl
    |3,e=>cases e;rfl
    |j+4,e=>simp at e) 4 rfl (by decide) (at_+2+(j:Int))
   exact⟨x,q1,cC rfl (cW (av rfl) (bN (aJ rfl (ay rfl) (aJ rfl (aH (aH (ay rfl) (av rfl) bz) (ay rfl) bz) (aJ rfl (av rfl) aL))) (q3 _)) q4)⟩
  exact⟨bs,by simpa using h1,h2,h3⟩
 have ad:∀m:Nat,Pv.bY .add (.int 1) (.int (m:Int))=some (.int ((1+m:Nat):Int)):=λm=>by rw[bz];congr 2
 have tail:∀(wd:List Nat) (mk:List Nat->Pt),(∀s,(mk s).v=.tup [.str wd,.str s])->(∀s,WS s->WP (mk s))->wd≠[107,101,101,112]->∃p,WP p/\Wp (exs (run prog w (n+2)) w (.cons Lw.GU (.cons Lw.GV (.cons Lw.GW .nil))) [some (.val (lu ns)),some (.val (.int at_)),some (.val (.str wd)),none,none]) λg fr=>g=.ret p.v/\outs 2 fr=[]:=by
  intro wd mk hv hw hne;obtain⟨bs,h1,h2,h3⟩:=cm (.str wd);refine⟨mk bs,hw bs ⟨by omega,by omega,h2⟩,?_⟩;refine az (bR (b:=false) (aM rfl (br (ay rfl) (av rfl) fL) (Up hne)) (λh=>absurd h (by decide)) λ_=>bT ?_);refine az (cy (ak:=[some (.val (lu ns)),some (.val (.int at_)),some (.val (.str wd)),some (.val (.int ((1+c:Nat):Int))),none]) (aH (av rfl) (bN (aJ rfl (ay rfl) (aJ rfl (aH (ay rfl) (av rfl) bz) (aJ rfl (av rfl) aL))) (d2 _)) (ad c)) rfl rfl ?_);refine az (bX (fB (ao (ay rfl) (ao (gO rfl (av rfl) (ao (dD (jX (ao (ay rfl) aE) (Df _ (n:=1+c) (by omega) rfl)) rfl h3 (bF (aT (by simp;omega)))) aE) (join_one bs (by omega))) aE)) gk) ⟨?_,rfl⟩);rw[hv]
 match a,ha,d0 with
 |0,_,d0=>
  refine⟨.keep (1+b),⟨by omega,by omega⟩,bW (fn:=xu) rfl rfl ?_⟩;refine az (cy (cW (gM (ao (av rfl) (ao (av rfl) (ao (av rfl) aE))) AA) (bN (aJ rfl (ay rfl) (aJ rfl (ay rfl) (aJ rfl (av rfl) aL))) (d0 _)) rfl) rfl rfl ?_);exact az (bR (b:=true) (aM rfl (br (ay rfl) (av rfl) fL) rfl) (λ_=>az (bX (fB (ao (ay rfl) (ao (aH (av rfl) (bN (aJ rfl (ay rfl) (aJ rfl (aH (ay rfl) (av rfl) bz) (aJ rfl (av rfl) aL))) (d1 _)) (ad b)) aE)) gk) ⟨rfl,rfl⟩)) λh=>absurd h (by decide))
 |1,_,d0=>
  obtain⟨p,hp,q⟩:=tail [112,117,116] .put (λs=>rfl) (λs h=>h) (by decide);refine⟨p,hp,bW (fn:=xu) rfl rfl ?_⟩;exact az (cy (cW (gM (ao (av rfl) (ao (av rfl) (ao (av rfl) aE))) AA) (bN (aJ rfl (ay rfl) (aJ rfl (ay rfl) (aJ rfl (av rfl) aL))) (d0 _)) rfl) rfl rfl q)
 |2,_,d0=>
  obtain⟨p,hp,q⟩:=tail [100,114,111,112] .drop (λs=>rfl) (λs h=>h) (by decide);refine⟨p,hp,bW (fn:=xu) rfl rfl ?_⟩;exact az (cy (cW (gM (ao (av rfl) (ao (av rfl) (ao (av rfl) aE))) AA) (bN (aJ rfl (ay rfl) (aJ rfl (ay rfl) (aJ rfl (av rfl) aL))) (d0 _)) rfl) rfl rfl q)
 |a+3,ha,_=>omega
omit hn in
theorem Fc{r:Row}(hr:WR r):run prog w (n+1) 16 [.val (.str r.1),.val (iM r.2)]=some (.str (ol r++[10]),[]):=by
 have hc:=hr.wd;have hl:=hc.len;have h1:=rm hc;have h2:=hr.nm.le;have rq:bu (cQ (run prog w n) (.bin .add (.jK (.v 2) (.v 3)) (.bi .fK (.cons (.v 4) .nil))) (.many [3,4]) .no [some (.val (.str r.1)),some (.val (iM r.2)),some (.val (.dm [([107,101,101,112],[61]),([112,117,116],[43]),([100,114,111,112],[45])])),none,none]) (r.2.map Pt.v)=some (r.2.map λp=>.str p.t):=
  eB _ _ _ λp h'=>by
   have hp:=hc.pt p h';have ht:=(nW hp).2.1;cases p with
   |keep k=>exact cC rfl (aH (AH (ay rfl) (ay rfl) rfl) (fC (ao (ay rfl) aE) (xg hp.2)) (bI (by simp[Pt.t]at ht ⊢;omega)))
   |put s=>exact cC rfl (aH (AH (ay rfl) (ay rfl) rfl) (fC (ao (ay rfl) aE) rfl) (bI (by simp[Pt.t]at ht ⊢;omega)))
   |drop s=>exact cC rfl (aH (AH (ay rfl) (ay rfl) rfl) (fC (ao (ay rfl) aE) rfl) (bI (by simp[Pt.t]at ht ⊢;omega)))
 have hj:cI .join (.str [47]) [.lst (r.2.map λp=>V.str p.t)]=some (.str (ct r.2)):=by
  have:=GP (s:=[47]) (l:=r.2.map Pt.t) (b:=9) (λp hp=>by
   obtain⟨q,h3,rfl⟩:=List.mem_map.mp hp;exact(nW (hc.pt q h3)).2.1) (by simp;omega)
  rwa [VJ]at this
 refine bW (fn:=C6) rfl rfl ?_;refine az (cy (ak:=[some (.val (.str r.1)),some (.val (iM r.2)),some (.val (.dm [([107,101,101,112],[61]),([112,117,116],[43]),([100,114,111,112],[45])])),none,none]) (O3 (by simp)) rfl rfl ?_);refine az (bX (aH (aH (aH (ay rfl) (av rfl) (bI (by simp;omega))) (gO rfl (av rfl) (ao (dD (ee (gm rfl) rfl) rfl rq (bF (aT (by simp;omega)))) aE) hj) (bI (by simp;omega))) (av rfl) ((bI (by simp;omega)).trans ?_)) ⟨rfl,rfl⟩);simp[ol]
noncomputable def A2:V:=.tup [.str [114,101,102,117,115,101,100],.int 0]
omit hn in
theorem rF{t:List Nat}(ht:t.length<=700){rows:List Row}(h:eG t=some rows):run prog w (n+7) 15 [.val (.str t)]=some (.lst (rows.map cG),[]):=
 bW (fn:=GS) rfl rfl (az (O9 (vs:=[.str t]) (aJ rfl (ay rfl) aL) (Np (F:=prog) (cD:=2) (cE:=3) (dO:=1) (jz:=0) (fD:=7) (g6:=6) (om:=5) (kJ:=12) (lV:=8) (jq:=11) (i:=10) (kx:=0) (w:=w) (n:=n) rfl rfl rfl rfl rfl rfl rfl rfl rfl rfl rfl ht h) ⟨rfl,rfl⟩))
omit hn in
theorem Dh{t:List Nat}(ht:t.length<=700)(h:eG t=none):run prog w (n+7) 15 [.val (.str t)]=some (A2,[]):=
 bW (fn:=GS) rfl rfl (az (M5 (vs:=[.str t]) (aJ rfl (ay rfl) aL) (by decide) (JQ (F:=prog) (cD:=2) (cE:=3) (dO:=1) (jz:=0) (fD:=7) (g6:=6) (om:=5) (kJ:=12) (lV:=8) (jq:=11) (i:=10) (kx:=0) (w:=w) (n:=n) rfl rfl rfl rfl rfl rfl rfl rfl rfl rfl rfl ht h) (by decide) ⟨rfl,rfl⟩))
omit hn in
theorem JR{rows:List Row}(hr:∀r∈rows,WR r)(hl:rows.length<=100):run prog w (n+2) 9 [.bor (rows.map cG)]=some (.str (ot rows),[rows.map cG]):=by
 have rq:bu (cQ (run prog w (n+1)) (.bin .add (.bin .add (.bin .add (.v 1) (.c (.str [58,32]))) (.cl 4 (.cons (.v 2) .nil))) (.c (.str [10]))) (.many [1,2]) .no [some (.bor (rows.map cG)),none,none]) (rows.map cG)=some (rows.map λr=>.str (ol r++[10])):=
  eB _ _ _ λr h'=>by
   have h1:=rm (hr r h').wd;have h2:=(hr r h').nm.le;refine cC rfl (aH (aH (aH (ay rfl) (av rfl) (bI (by simp;omega))) (bN (aJ rfl (ay rfl) aL) (cg (kg (F:=prog) (i:=4) rfl (hr r h').wd))) (bI (by simp;omega))) (av rfl) ((bI (by simp;omega)).trans ?_));simp[ol]
 have hj:cI .join (.str []) [.lst (rows.map λr=>V.str (ol r++[10]))]=some (.str (ot rows)):=by
  have h1:=lA hr;have:=uL (l:=rows.map λr=>ol r++[10]) (by unfold ot at h1;omega)
  rwa [VJ]at this
 exact bW (fn:=Lw.f9) rfl rfl (az (bX (gO rfl (av rfl) (ao (dD (ee (gm rfl) rfl) rfl rq (bF (aT (by simp;omega)))) aE) hj) ⟨rfl,rfl⟩))
noncomputable def lF(ns:List Int)(rows:List Row)(a2 a3 a4 a5 a6 a7 a8 a9 ek QJ oq:Option Sl):Fr:=[some (.val (lu ns)),some (.own (rows.map cG)),a2,a3,a4,a5,a6,a7,a8,a9,ek,QJ,oq,none,none,none,none,none,none]
theorem NR{rows:List Row}(hl:rows.length<=10){a2 a3 a4 a5:Option Sl}(h2:vo a2)(h3:vo a3)(h4:vo a4)(h5:vo a5)(k:Nat){Q:Fl->Fr->Prop}(q:∀r a2 a3 a4 a5,WR r->vo a2->vo a3->vo a4->vo a5->Q .nx (lF ns (rows++[r]) a2 a3 a4 a5 none none none none none none none)) :
  Wp (turnF (run prog w (n+8)) w (.one 2) AS (.int (k:Int)) (lF ns rows a2 a3 a4 a5 none none none none none none none)) Q:=by
 obtain⟨m1,hm1,d1⟩:=dr (w:=w) (n:=n+6) hn (1+60*(k:Int)+7) 6 (by decide);obtain⟨m2,hm2,d2⟩:=dr (w:=w) (n:=n+6) hn (1+60*(k:Int)+9) 5 (by decide);refine wN (af:=lF ns rows (some (.val (.int (k:Int)))) a3 a4 a5 none none none none none none none) (bind1 rfl h2) ?_;refine az (cy (ak:=lF ns rows (some (.val (.int (k:Int)))) (some (.val (.int (1+60*(k:Int))))) a4 a5 none none none none none none none) (aH (av rfl) (aH (av rfl) (ay rfl) (iE rfl)) bz) rfl (iF rfl h3) ?_);obtain⟨bs,b1,b2,b3⟩:=lW (f:=cQ (run prog w (n+8)) (.ix (.c (.str [97,98,122])) (.cl 14 (.cons (.v 0) (.cons (.bin .add (.v 3) (.v 13)) (.cons (.c (.int 3)) .nil))))) (.one 13) .no (lF ns rows (some (.val (.int (k:Int)))) (some (.val (.int (1+60*(k:Int))))) a4 a5 none none none none none none none)) (e:=λ(i:Nat)=>V.int (i:Int)) (g:=λb=>V.str [b]) (P:=λx=>pI.contains x=true) (l:=List.range (1+m1)) λj _=>by
  obtain⟨x,p,q1,q2,q3,q4⟩:=G9 (w:=w) (n:=n+6) hn [97,98,122] (λx=>pI.contains x=true) (λj x e=>by
   match j,e with
   |0,e=>cases e;rfl
   |1,e=>cases e;rfl
   |2,e=>cases e;rfl
   |j+3,e=>simp at e) 3 rfl (by decide) (1+60*(k:Int)+(j:Int))
  exact⟨x,q1,cC rfl (cW (av rfl) (bN (aJ rfl (ay rfl) (aJ rfl (aH (ay rfl) (ay rfl) bz) (aJ rfl (av rfl) aL))) (q3 _)) q4)⟩
 rw[Yj]at b1;have ad:Pv.bY .add (.int 1) (.int (m1:Int))=some (.int ((1+m1:Nat):Int)):=by rw[bz];congr 2
 refine az (cy (ak:=lF ns rows (some (.val (.int (k:Int)))) (some (.val (.int (1+60*(k:Int))))) (some (.val (.str bs))) a5 none none none none none none none) (gO rfl (av rfl) (ao (dD (jX (ao (aH (av rfl) (bN (aJ rfl (ay rfl) (aJ rfl (aH (ay rfl) (av rfl) bz) (aJ rfl (av rfl) aL))) (d1 _)) ad) aE) (Df _ (n:=1+m1) (by omega) rfl)) rfl b3 (bF (aT (by simp;omega)))) aE) (join_one bs (by omega))) rfl (iF rfl h4) ?_);refine az (cy (ak:=lF ns rows (some (.val (.int (k:Int)))) (some (.val (.int (1+60*(k:Int))))) (some (.val (.str bs))) (some (.val (.int (m2:Int)))) none none none none none none none) (bN (aJ rfl (ay rfl) (aJ rfl (aH (ay rfl) (av rfl) bz) (aJ rfl (av rfl) aL))) (d2 _)) rfl (iF rfl h5) ?_);obtain⟨c,c1,c2,c3⟩:=lW (f:=cQ (run prog w (n+8)) (.cl 17 (.cons (.v 0) (.cons (.bin .add (.bin .add (.v 3) (.c (.int 8))) (.bin .mul (.c (.int 12)) (.v 14))) .nil))) (.one 14) .no (lF ns rows (some (.val (.int (k:Int)))) (some (.val (.int (1+60*(k:Int))))) (some (.val (.str bs))) (some (.val (.int (m2:Int)))) none none none none none none none)) (e:=λ(i:Nat)=>V.int (i:Int)) (g:=Pt.v) (P:=WP) (l:=List.range m2) λj _=>by
  obtain⟨p,hp,e⟩:=Fb (w:=w) (n:=n+5) hn (1+60*(k:Int)+8+12*(j:Int));exact⟨p,hp,cC rfl (bN (aJ rfl (ay rfl) (aJ rfl (aH (aH (ay rfl) (av rfl) bz) (aH (av rfl) (ay rfl) (iE rfl)) bz) aL)) (call2 e))⟩
 rw[Yj]at c1;refine az (O4 (v:=.bf) (af:=lF ns (rows++[(bs,c)]) (some (.val (.int (k:Int)))) (some (.val (.int (1+60*(k:Int))))) (some (.val (.str bs))) (some (.val (.int (m2:Int)))) none none none none none none none) (uP rfl rfl (ao (fB (ao (ay rfl) (ao (uQ (dD (jX (ao (ay rfl) aE) (Df _ (n:=m2) (by omega) rfl)) rfl c3 (bF (aT (by simp;omega)))) (show g8 (c.map Pt.v)=some (iM c)by unfold g8;rw[b8 (aT (by simp;omega))];rfl)) aE)) gk) aE) ((Jv (by simp;omega)).trans (by simp[lF,cG]))) (bT ?_));exact q (bs,c) _ _ _ _ ⟨⟨show 1<=bs.length by omega,show bs.length<=6 by omega,b2⟩,⟨show c.length<=12 by omega,c2⟩⟩ .val .val .val .val
omit hn in
theorem JU(k:Nat)(a b:List Pt):dR (k+3) (iM a) (iM b)=some (decide (a=b)):=by
 unfold iM;rw[CB];exact oV (λa b=>Na k a b) a b
omit hn in
theorem zG(k:Nat)(a b:Row):dR (k+4) (cG a) (cG b)=some (decide (a=b)):=by
 obtain⟨o,c⟩:=a;obtain⟨p,d⟩:=b;unfold cG;rw[CB];simp[b5,JU]
omit hn in
theorem JV(rows:List Row):Pv.cop .ne (.lst (rows.map cG)) (.lst (rows.map cG))=some false:=by
 rw[wG,zf,oV (λa b=>zG 15 a b)];simp
omit hn in
theorem JX(a b:List Row):Pv.cop .eq (.lst (a.map cG)) (.lst (b.map cG))=some (decide (a=b)):=by
 show dR deep _ _=_;rw[zf,oV (λa b=>zG 15 a b)]
omit hn in
theorem Di:Pv.cop .ne A2 A2=some false:=rfl
omit hn in
theorem zH{rows:List Row}(hr:∀r∈rows,WR r)(hl:rows.length<=700):cI .join (.str []) [.lst (rows.map λr=>V.str (ol r++[10]))]=some (.str (ot rows)):=by
 have h1:=lA hr;have:=uL (l:=rows.map λr=>ol r++[10]) (by unfold ot at h1;omega)
 rwa [VJ]at this
omit hn in
theorem zI{rows:List Row}(hr:∀r∈rows,WR r){fr:Fr}{i j:Nat}(hb:∀r:Row,∃af,aY (.many [i,j]) (cG r) (j6 fr)=some af/\nC false af i=some (.str r.1)/\nC false af j=some (iM r.2)/\fG af (.v i)=none/\fG af (.v j)=none):bu (cQ (run prog w (n+8)) (.cl 16 (.cons (.v i) (.cons (.v j) .nil))) (.many [i,j]) .no fr) (rows.map cG)=some (rows.map λr=>V.str (ol r++[10])):=
 eB _ _ _ λr h'=>by
  obtain⟨af,e1,e2,e3,e4,e5⟩:=hb r;exact cC e1 (bN (aJ e4 (ay e2) (aJ e5 (ay e3) aL)) (call2 (Fc (w:=w) (n:=n+7) (hr r h'))))
noncomputable def QK:List (List Nat):=[[97],[90],[48],[58],[32],[47],[61],[10],[],[58,32]]
theorem NS{rows:List Row}(hr:∀r∈rows,WR r)(hl:rows.length<=5){a2 a3 a4 a5 a7 a8 a9 ek:Option Sl}(h2:vo a2)(h3:vo a3)(h4:vo a4)(h5:vo a5)(h7:vo a7)(h8:vo a8)(h9:vo a9)(mD:vo ek)(k:Nat){Q:Fl->Fr->Prop}(q:∀a2 a7 a8 a9 ek,vo a2->vo a7->vo a8->vo a9->vo ek->Q .nx (lF ns rows a2 a3 a4 a5 (some (.val (.str (ot rows)))) a7 a8 a9 ek none none)) :
  Wp (turnF (run prog w (n+8)) w (.one 2) AU (.int (k:Int)) (lF ns rows a2 a3 a4 a5 (some (.val (.str (ot rows)))) a7 a8 a9 ek none none)) Q:=by
 have lo:=lA hr;have ll:(ot rows).length<=645:=by omega
 obtain⟨p,hp,d1⟩:=dr (w:=w) (n:=n+6) hn (400+4*(k:Int)) ((ot rows).length+1) (by omega);obtain⟨s,hs,d2⟩:=dr (w:=w) (n:=n+6) hn (401+4*(k:Int)) 10 (by decide);obtain⟨d,hd,d3⟩:=dr (w:=w) (n:=n+6) hn (402+4*(k:Int)) 2 (by decide);have lt:dM .len [.str (ot rows)]=some (.int ((ot rows).length:Nat)):=len_str (by omega);have ad:Pv.bY .add (.int ((ot rows).length:Nat)) (.int 1)=some (.int (((ot rows).length+1:Nat):Int)):=by rw[bz];congr 2
 obtain⟨sg,e1,e2⟩:∃sg:List Nat,QK[s]?=some sg/\sg.length<=2:=by
  match s,hs with
  |0,_=>exact⟨_,rfl,by decide⟩
  |1,_=>exact⟨_,rfl,by decide⟩
  |2,_=>exact⟨_,rfl,by decide⟩
  |3,_=>exact⟨_,rfl,by decide⟩
  |4,_=>exact⟨_,rfl,by decide⟩
  |5,_=>exact⟨_,rfl,by decide⟩
  |6,_=>exact⟨_,rfl,by decide⟩
  |7,_=>exact⟨_,rfl,by decide⟩
  |8,_=>exact⟨_,rfl,by decide⟩
  |9,_=>exact⟨_,rfl,by decide⟩
  |s+10,hs=>omega
 have ix:gz (.lst (QK.map V.str)) (.int (s:Int))=some (.str sg):=by rw[Ji,rM,Vq,e1];rfl
 have s1:iJ (.str (ot rows)) none (some (p:Int))=some (.str ((ot rows).take p)):=by rw[lg,GN]
 have s2:iJ (.str (ot rows)) (some ((p:Int)+(d:Int))) none=some (.str ((ot rows).drop (p+d))):=by rw[lg,show((p:Int)+(d:Int))=((p+d:Nat):Int)by omega,GO]
 refine wN (af:=lF ns rows (some (.val (.int (k:Int)))) a3 a4 a5 (some (.val (.str (ot rows)))) a7 a8 a9 ek none none) (bind1 rfl h2) ?_;refine az (cy (ak:=lF ns rows (some (.val (.int (k:Int)))) a3 a4 a5 (some (.val (.str (ot rows)))) (some (.val (.int (p:Int)))) a8 a9 ek none none) (bN (aJ rfl (ay rfl) (aJ rfl (aH (av rfl) (aH (av rfl) (ay rfl) (iE rfl)) bz) (aJ rfl (aH (fC (ao (ay rfl) aE) lt) (av rfl) ad) aL))) (d1 _)) rfl (iF rfl h7) ?_);refine az (cy (ak:=lF ns rows (some (.val (.int (k:Int)))) a3 a4 a5 (some (.val (.str (ot rows)))) (some (.val (.int (p:Int)))) (some (.val (.str sg))) a9 ek none none) (cW (gM (ao (av rfl) (ao (av rfl) (ao (av rfl) (ao (av rfl) (ao (av rfl) (ao (av rfl) (ao (av rfl) (ao (av rfl) (ao (av rfl) (ao (av rfl) aE)))))))))) (bF (aT (by decide)))) (bN (aJ rfl (ay rfl) (aJ rfl (aH (av rfl) (aH (av rfl) (ay rfl) (iE rfl)) bz) (aJ rfl (av rfl) aL))) (d2 _)) ix) rfl (iF rfl h8) ?_);generalize eZ:(ot rows).take p++sg++(ot rows).drop (p+d)=sp
 have QL:sp.length<=700:=by rw[<-eZ];simp;omega
 refine az (cy (ak:=lF ns rows (some (.val (.int (k:Int)))) a3 a4 a5 (some (.val (.str (ot rows)))) (some (.val (.int (p:Int)))) (some (.val (.str sg))) (some (.val (.str sp))) ek none none) (aH (aH (gy (ay rfl) eN (dN (ay rfl)) s1) (ay rfl) (bI (by simp;omega))) (gy (ay rfl) (dN (aH (ay rfl) (bN (aJ rfl (ay rfl) (aJ rfl (aH (av rfl) (aH (av rfl) (ay rfl) (iE rfl)) bz) (aJ rfl (av rfl) aL))) (d3 _)) bz)) eN s2) ((bI (by simp;omega)).trans (by rw[eZ]))) rfl (iF rfl h9) ?_);cases ho:eG sp with
 |none=>
  have t1:=λfr=>cg (fr:=fr) (Dh (w:=w) (n:=n+1) QL ho);have ne:sp≠ot rows:=λz=>by rw[z,rB hr]at ho;cases ho
  refine az (cy (ak:=lF ns rows (some (.val (.int (k:Int)))) a3 a4 a5 (some (.val (.str (ot rows)))) (some (.val (.int (p:Int)))) (some (.val (.str sg))) (some (.val (.str sp))) (some (.val A2)) none none) (bN (aJ rfl (ay rfl) aL) (t1 _)) rfl (iF rfl mD) ?_);refine az (bR (b:=true) (aM rfl (j8 (ay rfl) rfl) rfl) (λ_=>?_) λh=>absurd h (by decide));refine az (bR (b:=false) (gE (aM rfl (br (ay rfl) (fB (ao (av rfl) (ao (av rfl) aE)) gk) Di) rfl) (aM rfl (br (ay rfl) (ay rfl) fL) (Up ne))) (λh=>absurd h (by decide)) λ_=>bT (bT (bT ?_)));exact q _ _ _ _ _ .val .val .val .val .val
 |some rs=>
  have t1:=λfr=>cg (fr:=fr) (rF (w:=w) (n:=n+1) QL ho);obtain⟨hw,he⟩:=E9 ho;have lr:rs.length<=700:=by
   have:∀l:List Row,l.length<=(ot l).length:=λl=>by
    induction l with
    |nil=>simp
    |cons r l ih=>simp only[ot,wX,Vu,Ve,Vg,VS]at ih ⊢;omega
   have:=this rs;rw[he]at this;omega
  refine az (cy (ak:=lF ns rows (some (.val (.int (k:Int)))) a3 a4 a5 (some (.val (.str (ot rows)))) (some (.val (.int (p:Int)))) (some (.val (.str sg))) (some (.val (.str sp))) (some (.val (.lst (rs.map cG)))) none none) (bN (aJ rfl (ay rfl) aL) (t1 _)) rfl (iF rfl mD) ?_);refine az (bR (b:=false) (aM rfl (j8 (ay rfl) rfl) rfl) (λh=>absurd h (by decide)) λ_=>?_);have cm:=zI (w:=w) (n:=n) hw (fr:=lF ns rows (some (.val (.int (k:Int)))) a3 a4 a5 (some (.val (.str (ot rows)))) (some (.val (.int (p:Int)))) (some (.val (.str sg))) (some (.val (.str sp))) (some (.val (.lst (rs.map cG)))) none none) (i:=17) (j:=18) λr=>⟨_,rfl,rfl,rfl,rfl,rfl⟩
  have nS:Pv.cop .ne (.str (ot rs)) (.str sp)=some false:=by rw[qY,he];simp
  refine az (bR (b:=false) (aM rfl (br (gO rfl (av rfl) (ao (dD (ee (gm rfl) rfl) rfl cm (bF (aT (by simp;omega)))) aE) (zH hw lr)) (ay rfl) nS) rfl) (λh=>absurd h (by decide)) λ_=>bT (bT (bT ?_)));exact q _ _ _ _ _ .val .val .val .val .val
omit hn in
theorem Dj{t:List Nat}(h:∀k:Nat,1<=k->k<=99->Ev.kq t=some (k:Int)->t≠Ev.dw (k:Nat)):iN t=none:=by
 cases z:iN t with
 |none=>rfl
 |some k=>
  obtain⟨h1,h2,h3⟩:=jY z;exact absurd h3 (h k h1 h2 (by rw[h3];exact(dg h2).nm))
omit hn in
theorem fE{l:List Nat}(h:10∉l)(hl:gc l=none):eG (l++[10])=none:=by
 have e:Ev.aD 10 (l++[10])=[l]++[[]]:=by
  have:=kF (c:=10) (ps:=[l]) (by simpa using h);simpa using this
 unfold eG;rw[gp e,b8 rfl];show cL gc [l]=none;simp only[cL,hl];rfl
noncomputable def iU:List (List Nat):=[[97,58,32,61,49],[97,58,61,49,10],[65,58,32,61,49,10],[97,98,99,100,101,102,103,58,32,61,49,10],[58,32,61,49,10],[97,58,32,61,48,49,10]]
noncomputable def xx:List (List Nat):=[[97,58,32,61,49,47,10],[97,58,32,61,49,32,10],[10],[97,10]]
omit hn in
theorem JY:∀t∈iU++xx,eG t=none/\t.length<=700:=by
 have n1:iN [48,49]=none:=Dj λk h1 h2 e z=>by
  have:(k:Int)=1:=by
   have e2:Ev.kq [48,49]=some 1:=by decide +kernel
   rw[e2]at e;exact(lz e).symm
  have:k=1:=by omega
  subst this;exact absurd z (by decide +kernel)
 have n2:iN [49,32]=none:=Dj λk h1 h2 e z=>by
  have e2:Ev.kq [49,32]=none:=by decide +kernel
  rw[e2]at e;cases e
 have r:∀o c,kh o=true->jZ c=none->Ev.findS [58,32] 0 (o++58 :: 32 :: c)=some o.length->gc (o++58 :: 32 :: c)=none:=λo c h1 h2 h3=>by
  unfold gc;rw[h3];dsimp only;rw[show(o++58 :: 32 :: c).take o.length=o by simp,show(o++58 :: 32 :: c).drop (o.length+2)=c by simp,b8 h1,h2];rfl
 have k1:eG [97,58,32,61,49]=none:=by
  unfold eG;rw[gp (t:=[97,58,32,61,49]) (ls:=[]) (l:=[97,58,32,61,49]) (by decide),SA (by simp)];rfl
 have k2:eG [97,58,61,49,10]=none:=fE (l:=[97,58,61,49]) (by decide) (by unfold gc;rw[show Ev.findS [58,32] 0 [97,58,61,49]=none by decide]);have k3:eG [65,58,32,61,49,10]=none:=fE (l:=[65,58,32,61,49]) (by decide) (by
  unfold gc;rw[show Ev.findS [58,32] 0 [65,58,32,61,49]=some 1 by decide];dsimp only;rw[SA (by simp[kh,pI])])
 have k4:eG [97,98,99,100,101,102,103,58,32,61,49,10]=none:=fE (l:=[97,98,99,100,101,102,103,58,32,61,49]) (by decide) (by
  unfold gc;rw[show Ev.findS [58,32] 0 [97,98,99,100,101,102,103,58,32,61,49]=some 7 by decide];dsimp only;rw[SA (by simp[kh,pI])])
 have k5:eG [58,32,61,49,10]=none:=fE (l:=[58,32,61,49]) (by decide) (by
  unfold gc;rw[show Ev.findS [58,32] 0 [58,32,61,49]=some 0 by decide];dsimp only;rw[SA (by simp[kh])])
 have NT:kh [97]=true:=by simp[kh,pI]
 have k6:eG [97,58,32,61,48,49,10]=none:=fE (l:=[97,58,32,61,48,49]) (by decide) (r [97] [61,48,49] NT (by
  unfold jZ;rw[SA (by simp),show Ev.aD 47 [61,48,49]=[[61,48,49]]by decide];simp only[cL,iy,n1];rfl) (by decide))
 have k7:eG [97,58,32,61,49,47,10]=none:=fE (l:=[97,58,32,61,49,47]) (by decide) (r [97] [61,49,47] NT (by
  unfold jZ;rw[SA (by simp),show Ev.aD 47 [61,49,47]=[[61,49],[]]by decide];have:cL iy [[]]=none:=by simp only[cL,iy];rfl
  cases z:iy [61,49]with
  |none=>simp only[cL,z];rfl
  |some p=>rw[cL,z];show((cL iy [[]]).map λr=>p :: r).bind _=none;rw[this];rfl) (by decide))
 have k8:eG [97,58,32,61,49,32,10]=none:=fE (l:=[97,58,32,61,49,32]) (by decide) (r [97] [61,49,32] NT (by
  unfold jZ;rw[SA (by simp),show Ev.aD 47 [61,49,32]=[[61,49,32]]by decide];simp only[cL,iy,n2];rfl) (by decide))
 have k9:eG [10]=none:=fE (l:=[]) (by decide) (by unfold gc;rw[show Ev.findS [58,32] 0 []=none by decide]);have QM:eG [97,10]=none:=fE (l:=[97]) (by decide) (by unfold gc;rw[show Ev.findS [58,32] 0 [97]=none by decide]);intro t ht;simp only[iU,xx,VO,V6,VW,List.not_mem_nil,or_false]at ht;rcases ht with rfl|rfl|rfl|rfl|rfl|rfl|rfl|rfl|rfl|rfl
 .exact⟨k1,by decide⟩
 .exact⟨k2,by decide⟩
 .exact⟨k3,by decide⟩
 .exact⟨k4,by decide⟩
 .exact⟨k5,by decide⟩
 .exact⟨k6,by decide⟩
 .exact⟨k7,by decide⟩
 .exact⟨k8,by decide⟩
 .exact⟨k9,by decide⟩
 .exact⟨QM,by decide⟩
noncomputable def s5:Ev.Ss:=.cons AV (.cons AW (.cons AX .nil))
omit hn in
theorem Fd{rows:List Row}(hr:∀r∈rows,WR r){a2 a3 a4 a5 a6 a7 a8 a9 ek:Option Sl}(h2:vo a2)(h3:vo a3)(h4:vo a4)(h5:vo a5)(h6:vo a6)(h7:vo a7)(h8:vo a8)(h9:vo a9)(mD:vo ek) :
  Wp (exs (run prog w (n+8)) w s5 (lF ns rows a2 a3 a4 a5 a6 a7 a8 a9 ek none none)) λg fr=>g=.ret (.bl true)/\outs 1 fr=[]:=by
 refine az (qX (l:=iU.map V.str) (ak:=lF ns rows a2 a3 a4 a5 a6 a7 a8 a9 ek (some (.own (iU.map V.str))) none) (gM (ao (av rfl) (ao (av rfl) (ao (av rfl) (ao (av rfl) (ao (av rfl) (ao (av rfl) aE)))))) (bF (aT (by decide)))) rfl rfl ?_);refine az (AI (vs:=(iU++xx).map V.str) (af:=lF ns rows a2 a3 a4 a5 a6 a7 a8 a9 ek (some (.own (iU.map V.str))) none) (ee (aH (ay rfl) (gM (ao (av rfl) (ao (av rfl) (ao (av rfl) (ao (av rfl) aE)))) (bF (aT (by decide)))) (show Pv.bY .add (.lst (iU.map V.str)) (.lst (xx.map V.str))=some (.lst ((iU++xx).map V.str))from (En (by decide)).trans (by rw[List.map_append]))) rfl) ?_);refine lq (e:=V.str) (λp l fr=>(∀t∈l,eG t=none/\t.length<=700)/\∃oq,vo oq/\fr=lF ns rows a2 a3 a4 a5 a6 a7 a8 a9 ek (some (.own (iU.map V.str))) oq) (λp t l fr ⟨hq,oq,h12,hfr⟩=>?_) (λp fr ⟨hq,oq,h12,hfr⟩=>?_) _ [] _ ⟨JY,none,.none,rfl⟩
 .subst hfr;obtain⟨t1,t2⟩:=hq t (by simp);have tx:=λfr=>cg (fr:=fr) (Dh (w:=w) (n:=n+1) t2 t1);refine wN (af:=lF ns rows a2 a3 a4 a5 a6 a7 a8 a9 ek (some (.own (iU.map V.str))) (some (.val (.str t)))) (bind1 rfl h12) ?_;refine az (bR (b:=false) (aM rfl (br (bN (aJ rfl (ay rfl) aL) (tx _)) (fB (ao (av rfl) (ao (av rfl) aE)) gk) Di) rfl) (λh=>absurd h (by decide)) λ_=>bT (bT ?_));rw[AD];exact⟨λr hr=>hq r (by simp[hr]),_,.val,rfl⟩
 .subst hfr;have w1:∀r∈([([97],[])]:List Row),WR r:=λr hr=>by
   rw[List.mem_singleton.mp hr];exact⟨⟨by decide,by decide,λx hx=>by simp at hx;subst hx;rfl⟩,⟨by simp,by simp⟩⟩
  have e0:eG []=some []:=rB (rows:=[]) (by simp);have e1:eG [97,58,32,10]=some [([97],[])]:=rB w1;have t0:=λfr=>cg (fr:=fr) (rF (w:=w) (n:=n+1) (t:=[]) (by simp) e0);have t1:=λfr=>cg (fr:=fr) (rF (w:=w) (n:=n+1) (t:=[97,58,32,10]) (by simp) e1);have o0:=λfr=>cg (fr:=fr) (sN (F:=prog) (AR:=4) (i:=9) (w:=w) (n:=n+6) rfl rfl (rows:=[]) (by simp) (by simp));refine az (bX (v:=.bl true) (af:=[some (.val (lu ns)),some (.val (.lst (rows.map cG))),a2,a3,a4,a5,a6,a7,a8,a9,ek,some (.val (.lst (iU.map V.str))),oq,none,none,none,none,none,none]) ?_ ⟨rfl,rfl⟩);rw[show jw (lF ns rows a2 a3 a4 a5 a6 a7 a8 a9 ek (some (.own (iU.map V.str))) oq)=[some (.val (lu ns)),some (.val (.lst (rows.map cG))),a2,a3,a4,a5,a6,a7,a8,a9,ek,some (.val (.lst (iU.map V.str))),oq,none,none,none,none,none,none]by
   show [_,_,a2.map Sl.gU,a3.map Sl.gU,a4.map Sl.gU,a5.map Sl.gU,a6.map Sl.gU,a7.map Sl.gU,a8.map Sl.gU,a9.map Sl.gU,ek.map Sl.gU,_,oq.map Sl.gU,_,_,_,_,_,_]=_;rw[fJ h2,fJ h3,fJ h4,fJ h5,fJ h6,fJ h7,fJ h8,fJ h9,fJ mD,fJ h12];rfl]
  have q0:Pv.cop .eq (.lst (([]:List Row).map cG)) (.lst [])=some true:=rfl;have q1:Pv.cop .eq (.lst (([([97],[])]:List Row).map cG)) (.lst [.tup [.str [97],.tup []]])=some true:=JX [([97],[])] [([97],[])];exact uO (br (bN (aJ rfl (av rfl) aL) (t0 _)) (gM aE qW) q0) (uO (br (bN (aJ rfl (av rfl) aL) (t1 _)) (gM (ao (fB (ao (av rfl) (ao (fB aE Az) aE)) gk) aE) GG) q1) (br (bN (aJ rfl (gM aE qW) aL) (o0 _)) (av rfl) rfl))
theorem NU:run prog w (n+9) 18 [.val (lu ns)]=some (.bl true,[]):=by
 obtain⟨m,hm,d0⟩:=dr (w:=w) (n:=n+6) hn 0 6 (by decide);refine bW (fn:=C7) rfl rfl ?_;refine az (qX (l:=[]) (gM aE qW) rfl rfl ?_);refine az (AI (vs:=(List.range m).map λ(i:Nat)=>V.int (i:Int)) (af:=lF ns [] none none none none none none none none none none none) (jX (ao (bN (aJ rfl (ay rfl) (aJ rfl (av rfl) (aJ rfl (av rfl) aL))) (d0 _)) aE) (Df _ (n:=m) (by omega) rfl)) ?_);refine lq (e:=λ(i:Nat)=>V.int (i:Int)) (λp l fr=>p.length+l.length=m/\∃rows a2 a3 a4 a5,rows.length=p.length/\(∀r∈rows,WR r)/\vo a2/\vo a3/\vo a4/\vo a5/\fr=lF ns rows a2 a3 a4 a5 none none none none none none none) (λp k l fr ⟨hpl,rows,a2,a3,a4,a5,hl,hr,h2,h3,h4,h5,hfr⟩=>?_) (λp fr ⟨hpl,rows,a2,a3,a4,a5,hl,hr,h2,h3,h4,h5,hfr⟩=>?_) _ [] _ ⟨by simp,[],none,none,none,none,rfl,by simp,.none,.none,.none,.none,rfl⟩
 .subst hfr;rw[Vg]at hpl;refine NR hn (by omega) h2 h3 h4 h5 k λr a2 a3 a4 a5 hw h2 h3 h4 h5=>?_;rw[AD];exact⟨by simp;omega,rows++[r],a2,a3,a4,a5,by simp[hl],λx hx=>by
   rcases List.mem_append.mp hx with hx|hx
   .exact hr x hx
   .rw[List.mem_singleton.mp hx];exact hw,h2,h3,h4,h5,rfl⟩
 .subst hfr;rw[VS]at hpl;have hlr:rows.length<=5:=by omega
  have lo:=lA hr;have cm:=zI (w:=w) (n:=n) hr (fr:=lF ns rows a2 a3 a4 a5 none none none none none none none) (i:=15) (j:=16) λr=>⟨_,rfl,rfl,rfl,rfl,rfl⟩
  refine az (cy (ak:=lF ns rows a2 a3 a4 a5 (some (.val (.str (ot rows)))) none none none none none none) (gO rfl (av rfl) (ao (dD (ee (gm rfl) rfl) rfl cm (bF (aT (by simp;omega)))) aE) (zH hr (by omega))) rfl rfl ?_);have ob:=Pa (P:=run prog w (n+8)) (g:=9) (j:=1) (fr:=lF ns rows a2 a3 a4 a5 (some (.val (.str (ot rows)))) none none none none none none) rfl (JR (w:=w) (n:=n+6) hr (by omega));have t1:=λfr=>cg (fr:=fr) (rF (w:=w) (n:=n+1) (t:=ot rows) (by omega) (rB hr));have nS:Pv.cop .ne (.str (ot rows)) (.str (ot rows))=some false:=by rw[qY];simp
  refine az (bR (b:=false) (af:=lF ns rows a2 a3 a4 a5 (some (.val (.str (ot rows)))) none none none none none none) (gE (aM rfl (br (bN (MZ rfl aL) ob) (ay rfl) nS) rfl) (aM rfl (br (bN (aJ rfl (ay rfl) aL) (t1 _)) (ay rfl) (JV rows)) rfl)) (λh=>absurd h (by decide)) λ_=>bT ?_);refine az (AI (vs:=(List.range 6).map λ(i:Nat)=>V.int (i:Int)) (af:=lF ns rows a2 a3 a4 a5 (some (.val (.str (ot rows)))) none none none none none none) (jX (ao (av rfl) aE) (Df 6 (n:=6) (by omega) rfl)) ?_);refine lq (e:=λ(i:Nat)=>V.int (i:Int)) (λp l fr=>∃a2 a7 a8 a9 ek,vo a2/\vo a7/\vo a8/\vo a9/\vo ek/\fr=lF ns rows a2 a3 a4 a5 (some (.val (.str (ot rows)))) a7 a8 a9 ek none none) (λp k l fr ⟨a2,a7,a8,a9,ek,h2,h7,h8,h9,mD,hfr⟩=>?_) (λp fr ⟨a2,a7,a8,a9,ek,h2,h7,h8,h9,mD,hfr⟩=>?_) _ [] _ ⟨a2,none,none,none,none,h2,.none,.none,.none,.none,rfl⟩
  .subst hfr;refine NS hn hr hlr h2 h3 h4 h5 h7 h8 h9 mD k λa2 a7 a8 a9 ek h2 h7 h8 h9 mD=>?_;rw[AD];exact⟨a2,a7,a8,a9,ek,h2,h7,h8,h9,mD,rfl⟩
  .subst hfr;exact Fd hr h2 h3 h4 h5 .val h7 h8 h9 mD
end
def good:∀ns:List Int,ns.length<=63->∃h',Ev.run prog 100000 60 18 [.ref 0] [.bE (ns.map Ev.D.int)]=.ok (.bl true) h':=λns h=>Jf (NU (w:=100000) (n:=51) h)
end Lg
theorem Lw.good:∀ns:List Int,ns.length<=63->∃h',Ev.run Lw.prog 100000 60 18 [.ref 0] [.bE (ns.map Ev.D.int)]=.ok (.bl true) h':=Lg.good
namespace PySem.W.Fast
theorem tw7626693755588098412:True:=⟨⟩
theorem tw11810481674843537128:True:=⟨⟩
theorem tw8086265550225138202:True:=⟨⟩
theorem tw5012650951485389114:True:=⟨⟩
theorem tw4367347800517551962:True:=⟨⟩
theorem tw9304565113305746505:True:=⟨⟩
theorem tw10826357278941868941:True:=⟨⟩
theorem tw7362911016447120487:True:=⟨⟩
theorem tw1858785722906666447:True:=⟨⟩
theorem tw13276427349307226027:True:=⟨⟩
theorem tw8388152768927847518:True:=⟨⟩
theorem tw8471524279750675286:True:=⟨⟩
theorem tw3548843331302704957:True:=⟨⟩
theorem tw16168839743594100904:True:=⟨⟩
theorem tw7254719578833482820:True:=⟨⟩
theorem tw1858053969461771891:True:=⟨⟩
theorem tw2117182915001375680:True:=⟨⟩
theorem tw9508432140762115271:True:=⟨⟩
theorem tw12400575022732296562:True:=⟨⟩
theorem tw2164138195658132263:True:=⟨⟩
theorem tw15382831318760570757:True:=⟨⟩
theorem tw11324831560692406461:True:=⟨⟩
theorem tw2048161966885693441:True:=⟨⟩
theorem tw6175910784711182081:True:=⟨⟩
theorem tw2414389625362268779:True:=⟨⟩
theorem tw1754704742059168588:True:=⟨⟩
theorem tw15020501056976837894:True:=⟨⟩
theorem tw13713307451209275785:True:=⟨⟩
theorem tw6072444808591381485:True:=⟨⟩
theorem tw7875467653537495491:True:=⟨⟩
theorem tw8976120571364791458:True:=⟨⟩
theorem tw3198911157257979023:True:=⟨⟩
theorem tw7980617745472904038:True:=⟨⟩
theorem tw2515066365915875051:True:=⟨⟩
theorem tw14921221745747159975:True:=⟨⟩
theorem tw16261967832640178998:True:=⟨⟩
theorem tw16054805173525842425:True:=⟨⟩
theorem tw10493107923712691923:True:=⟨⟩
theorem tw11690077607110893130:True:=⟨⟩
theorem tw15575893916767745642:True:=⟨⟩
theorem tw7483114207864955246:True:=⟨⟩
theorem tw1396159902077852530:True:=⟨⟩
theorem tw6093183754228628936:True:=⟨⟩
theorem tw211130415357878734:True:=⟨⟩
theorem tw593692269438405687:True:=⟨⟩
theorem tw4280032593749413897:True:=⟨⟩
theorem tw16920519924101059050:True:=⟨⟩
theorem tw1233677703325150033:True:=⟨⟩
theorem tw9049504370149980071:True:=⟨⟩
theorem tw11165884192835081673:True:=⟨⟩
theorem tw2451549636727018903:True:=⟨⟩
theorem tw14360115659765103509:True:=⟨⟩
theorem tw7018605166517217708:True:=⟨⟩
theorem tw6933221750263934653:True:=⟨⟩
theorem tw17600135511153151445:True:=⟨⟩
theorem tw2109822107148903669:True:=⟨⟩
theorem tw13808078264847271153:True:=⟨⟩
theorem tw16568434721266296966:True:=⟨⟩
theorem tw5185856410486874722:True:=⟨⟩
theorem tw1326384195444971567:True:=⟨⟩
theorem tw16988490300707208657:True:=⟨⟩
theorem tw3596530497945921737:True:=⟨⟩
theorem tw17617081481272941875:True:=⟨⟩
theorem tw11405976487568846681:True:=⟨⟩
theorem tw12301302264337906758:True:=⟨⟩
theorem tw3180562163952488162:True:=⟨⟩
theorem tw5123344629183029723:True:=⟨⟩
theorem tw18329137437378080497:True:=⟨⟩
theorem tw7879996008975759139:True:=⟨⟩
theorem tw6628588413942236024:True:=⟨⟩
theorem tw18368585400350056829:True:=⟨⟩
theorem tw3476256394872371980:True:=⟨⟩
theorem tw4888824051769870149:True:=⟨⟩
theorem tw15139827379236208138:True:=⟨⟩
theorem tw6931415215000784247:True:=⟨⟩
theorem tw18290445772554179849:True:=⟨⟩
theorem tw11024651689806772856:True:=⟨⟩
theorem tw17093987724773251298:True:=⟨⟩
theorem tw802307150619158009:True:=⟨⟩
theorem tw12540175642237576973:True:=⟨⟩
theorem tw3018082165227001431:True:=⟨⟩
theorem tw6404217573683242365:True:=⟨⟩
theorem tw16958086237537123047:True:=⟨⟩
theorem tw7545832670188687738:True:=⟨⟩
theorem tw9548489581648387652:True:=⟨⟩
theorem tw5855629846755297049:True:=⟨⟩
theorem tw8452078866140574563:True:=⟨⟩
theorem tw8748558174020264477:True:=⟨⟩
theorem tw5035860781409887617:True:=⟨⟩
theorem tw7836592510975316674:True:=⟨⟩
theorem tw272736574781309341:True:=⟨⟩
theorem tw11547216102074464812:True:=⟨⟩
theorem tw3663654794934505142:True:=⟨⟩
theorem tw11729356343944733449:True:=⟨⟩
theorem tw11204584555348200681:True:=⟨⟩
theorem tw17035631222147937370:True:=⟨⟩
theorem tw10521086388510446975:True:=⟨⟩
theorem tw7631306344066120312:True:=⟨⟩
theorem tw14370843273333237335:True:=⟨⟩
theorem tw5648984814581702118:True:=⟨⟩
theorem tw2887974592414772052:True:=⟨⟩
theorem tw17384912647108236884:True:=⟨⟩
theorem tw17645680610608964942:True:=⟨⟩
theorem tw10322016900777848748:True:=⟨⟩
theorem tw7765874738182688790:True:=⟨⟩
theorem tw2595282528178016524:True:=⟨⟩
theorem tw496833055308320298:True:=⟨⟩
theorem tw10254754592050432730:True:=⟨⟩
theorem tw3382584542630213874:True:=⟨⟩
theorem tw7290159235457868056:True:=⟨⟩
theorem tw9500307968282184622:True:=⟨⟩
theorem tw7893439100331450047:True:=⟨⟩
theorem tw15317812905290004277:True:=⟨⟩
theorem tw12701261521228742151:True:=⟨⟩
theorem tw15797371304370905187:True:=⟨⟩
theorem tw12245757919695145712:True:=⟨⟩
theorem tw6255887318803534620:True:=⟨⟩
theorem tw5195723035250944695:True:=⟨⟩
theorem tw14347948032901989497:True:=⟨⟩
theorem tw13108588591461484571:True:=⟨⟩
theorem tw2532387279147033226:True:=⟨⟩
theorem tw15576267223374304903:True:=⟨⟩
theorem tw9855217397198964402:True:=⟨⟩
theorem tw5761059489526262167:True:=⟨⟩
theorem tw14306808641301454052:True:=⟨⟩
theorem tw7635931723674965310:True:=⟨⟩
theorem tw12763523517589281302:True:=⟨⟩
theorem tw8768554395863998572:True:=⟨⟩
theorem tw16121869444781198217:True:=⟨⟩
theorem tw6359447812128085347:True:=⟨⟩
theorem tw13959780324837181034:True:=⟨⟩
theorem tw10421878317533707935:True:=⟨⟩
theorem tw7320276786011967108:True:=⟨⟩
theorem tw17981707021441640272:True:=⟨⟩
theorem tw11321050907593592207:True:=⟨⟩
theorem tw8475849250092553859:True:=⟨⟩
theorem tw14444259978143349023:True:=⟨⟩
theorem tw10439569319499052273:True:=⟨⟩
theorem tw14092914478434556122:True:=⟨⟩
theorem tw15525411397791594597:True:=⟨⟩
theorem tw2062696850298677975:True:=⟨⟩
theorem tw6426976030557976224:True:=⟨⟩
theorem tw1731938304698863999:True:=⟨⟩
theorem tw3635659131214498328:True:=⟨⟩
theorem tw10316093328614225081:True:=⟨⟩
theorem tw10834683022734728181:True:=⟨⟩
theorem tw13649340348321035854:True:=⟨⟩
end PySem.W.Fast
open PySem PySem.W PyProof.Rows
set_option maxRecDepth 100000 in
set_option maxHeartbeats 0 in
theorem PySem.Challenge.cw_pastways_k93_owned_texts_holds : PySem.Challenge.rw_pastways_k93_owned_texts.Holds := by
 w_on;o_law;k_head;(case hw=>w_witness2)
 k_fill
 refine Sm.Iq (F:=Lw.prog) (wh:=100000) (n:=60) (f:=18) (x:="_law_script") (l:=PySem.Challenge.rw_pastways_k93_owned_texts) rfl rfl ⟨rfl,by decide,by decide⟩ (λw h Y=>PySem.W.kIn_of Y) Lw.good ?F
 case F=>
  intro w mg fa h KX G hmg
  refine' Lw.all_mk KX G hmg ⟨?a0,L2.cA ?l0 ?c0 ?k0⟩ ⟨?a1,L2.cA ?l1 ?c1 ?k1⟩ ⟨?a2,L2.cA ?l2 ?c2 ?k2⟩ ⟨?a3,L2.cA ?l3 ?c3 ?k3⟩ ⟨?a4,L2.cA ?l4 ?c4 ?k4⟩ ⟨?a5,L2.cA ?l5 ?c5 ?k5⟩ ⟨?a6,L2.cA ?l6 ?c6 ?k6⟩ ⟨?a7,L2.cA ?l7 ?c7 ?k7⟩ ⟨?a8,L2.cA ?l8 ?c8 ?k8⟩ ⟨?a9,L2.cA ?l9 ?c9 ?k9⟩ ⟨?ek,L2.cA ?Uz ?UA ?QM⟩ ⟨?QJ,L2.cA ?UB ?UC ?UD⟩ ⟨?oq,L2.cA ?UE ?c12 ?UG⟩ ⟨?UH,L2.cA ?UI ?UJ ?UK⟩ ⟨?UL,L2.cA ?UM ?UN ?UO⟩ ⟨?UP,L2.cA ?UQ ?UR ?US⟩ ⟨?UT,L2.cA ?UU ?UW ?UX⟩ ⟨?UY,L2.cA ?UZ ?U0 ?U1⟩ ⟨?U3,L2.cA ?U4 ?U5 ?U6⟩ ⟨?ar,L2.cA ?lr ?cr ?kr⟩ ?xw (Sm.II ?U7 ?U8 ?U9 ?Va ?Vb ?Vc) ?z0 ?z1 ?z2 ?z3 ?z4 ?z5 ?z6 ?z7 ?z8 ?q0 ?q1 ?q2 ?q3 ?q4 ?q5 ?q6 ?q7 ?QD ?QE ?QF ?QG ?QH ?QI;all_goals try first|k_is|rfl|decide +kernel | (with_unfolding_all rfl)
  all_goals kernel_rfl

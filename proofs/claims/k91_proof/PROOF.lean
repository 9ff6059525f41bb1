import PyProof.Rows.All
import Wide.All
import OpenK.AllK
import Wide.FinOn
import Lean
import PyProof.EqAt
import PyProof.EqKinds
import PyProof.TupleCall
import PyProof.NeKinds
import PyProof.StrLawsIn
import KE.KRevSl
import PyProof.ZipIter
import PyProof.ListRange
import PyProof.Rows.SortStr
import KE.KRevIter
import PyProof.EnumMake
import PyProof.EnumFor
import KE.KIntText
import PyProof.CallStr
import PySem.Challenge.RW_pastways_k91_whole_read
set_option bootstrap.genMatcherCode false
set_option compiler.extract_closed false
set_option maxHeartbeats 4000000
noncomputable section
set_option Elab.async false
set_option linter.all false
set_option maxRecDepth 100000
def b8:=@PySem.wpAny_bind
def cG:=@if_pos
def cR:=@Option.map_eq_some_iff
def dS:=@Nat.lt_of_lt_of_le
def eS:=@PySem.wpAny_pure
def fW:=@Bool.and_eq_true
def fX:=@Option.bind_eq_some_iff
def gV:=@List.getElem?_set_ne
def iR:=@PySem.Heap.get?_push_of_some
def lI:=@List.size_toArray
def pV:=@Option.some.inj
def qT:=@Nat.le_refl
def rT:=@PySem.Heap.lt_size
def tP:=@List.getElem?_eq_getElem
def tQ:=@List.getElem?_set_self
def wc:=@List.getElem?_append_left
def we:=@List.map_cons
def Cd:=@if_neg
def DX:=@decide_eq_false
def E9:=@PySem.wpAny_mono
def HJ:=@List.length_append
def HK:=@Nat.le_trans
def L7:=@List.length_map
def L8:=@List.mem_append_right
def Mb:=@Bool.false_eq_true
def Mi:=@List.mem_cons_of_mem
def MZ:=@List.length_cons
def Om:=@List.filterMap_cons
def Pc:=@congrArg
def QO:=@if_true
def QS:=@PySem.Heap.get?_push_size
def QT:=@Nat.ne_of_lt
def Q5:=@List.replicate_succ
def Q6:=@List.mem_of_getElem?
def Sa:=@PySem.W.mg_none_of
def Sb:=@PySem.W.kia_one
def SD:=@decide_eq_true_eq
def SE:=@List.getElem?_map
def T4:=@Bool.not_eq_true'
def T5:=@PyProof.Rows.slot_tuple_getitem
def T6:=@PySem.W.mg_of
def T7:=@List.mem_cons_self
def T8:=@PySem.wpAny_newObj_type
def T9:=@List.length_singleton
def Ua:=@PySem.AutoSeq1.wpAny_loadPart'
def Ub:=@Bool.or_eq_true
def Uc:=@List.length_take
def Ud:=@Nat.lt_irrefl
def Ue:=@PySem.wpAny_truthy_bool
def Ug:=@List.append_nil
def Uh:=@if_false
def Ui:=@decide_eq_true
def Uj:=@of_decide_eq_true
def Uk:=@List.flatten_cons
def Ul:=@List.take_of_length_le
def Um:=@List.getElem?_eq_none
def Uo:=@List.reverse_cons
def Up:=@List.lookup_cons
def Uq:=@List.length_drop
def Ur:=@PySem.call_meets
def Us:=@PySem.wpAny_field
def Ut:=@List.find?_cons
def Uu:=@List.getElem?_append_right
def Uv:=@PyProof.Rows.split_le
def Uw:=@List.all_eq_true
def Ux:=@PySem.mem_of_lookup
def Uy:=@Option.bind_eq_bind
def Uz:=@List.take_succ_cons
def UA:=@List.length_nil
def UB:=@Bool.eq_iff_iff
def UC:=@List.contains_cons
def UD:=@PySem.sizeLine_eq
def UE:=@Nat.zero_le
def UG:=@List.drop_eq_nil_of_le
def UH:=@List.dropLast_eq_take
def UI:=@PyProof.Rows.callWith_type1
def UJ:=@List.cons_append
def UK:=@List.getElem?_of_mem
def UL:=@PySem.wpAny_holding
def UM:=@PySem.Calls.Name_function_global
def UN:=@Ne.symm
def UO:=@Array.length_toList
def UP:=@PySem.wpAny_passesOwn
def UQ:=@List.nil_append
def UR:=@List.drop_eq_getElem_cons
def US:=@List.map_nil
def UT:=@PySem.wpAny_Call_Name_kw
def UU:=@Int.emod_lt_of_pos
def UW:=@PySem.wpAny_comprehension_free
def UX:=@PySem.F.args_tuple_mul_2
def UY:=@PySem.F.args_tuple_add_2
def UZ:=@beq_iff_eq
def U0:=@List.drop_zero
def U1:=@PySem.wpAny_callSpecial?_slot
def U3:=@decide_eq_false_iff_not
def U4:=@PySem.F.entry_tuple_mul
def U5:=@PySem.F.entry_tuple_add
def U6:=@PySem.F.slot_tuple_mul
def U7:=@PySem.F.slot_tuple_add
def U8:=@PySem.Heap.get?_update_other
def U9:=@List.mem_cons
def Va:=@PySem.wpAny_execs_cons
def Vb:=@Nat.lt_succ_self
def Vc:=@List.isEmpty_iff
def Vd:=@List.any_eq_true
def Ve:=@PySem.F.slot_str_split
def Vf:=@List.contains_iff_mem
def Vg:=@PySem.typeIs_str
def Vh:=@Nat.succ_mul
def Vi:=@List.map_map
def Vj:=@Nat.min_eq_left
def Vk:=@List.nodup_cons
def Vl:=@List.map_append
def Vm:=@List.forIn_cons
def Vn:=@Int.emod_nonneg
def Vo:=@PyProof.Rows.entry_tuple_getitem
def Vp:=@Nat.sub_lt_sub_left
def Vq:=@List.getElem_of_mem
def Vr:=@Bool.false_and
def Vs:=@PyProof.Rows.vals1
def Vt:=@of_decide_eq_false
def Vu:=@PyProof.Rows.args_tuple_getitem
def Vv:=@PyProof.V.same_str
def Vw:=@Nat.add_sub_cancel
def Vx:=@PySem.F.args_str_split_2
def Vy:=@Bool.false_ne_true
def Vz:=@List.any_cons
def VA:=@Bool.or_false
def VB:=@PySem.wpAny_sequenceKey
def VC:=@PySem.W.kitx_list
def VD:=@Int.toNat_natCast
def VE:=@PySem.F.entry_str_split
def VF:=@PySem.typeIs_int
def VG:=@PyProof.Rows.Subscript_
def VH:=@PySem.wpAny_binaryOp_repeat_ref
def VI:=@List.getElem?_eq_none_iff
def VJ:=@PySem.wpAny_typeOf
def VL:=@PySem.W.looks_findIn
def VM:=@PySem.codeAny_mono
def VN:=@Nat.lt_or_ge
def VO:=@PySem.wpAny_call_entry
def VP:=@PySem.noFill_tuple_add
def VQ:=@Nat.min_eq_right
def VR:=@List.drop_length
def VS:=@PySem.AutoSeq1.idx_int
def VT:=@PySem.wpAny_getItem_list_slice
def VU:=@PySem.F.plainAttrs_list
def VW:=@List.getElem?_replicate
def VX:=@PySem.Calls.loadGlobal_global
def VY:=@PyProof.Rows.split_len
def VZ:=@PySem.wpAny_execs_nil
def V0:=@Nat.le_antisymm
def V1:=@List.of_mem_zip
def V2:=@List.foldl_cons
def V3:=@List.cons.injEq
def V4:=@PySem.codeAny_compStart_list
def V5:=@PySem.W.cellsFrom_some
def V6:=@List.range_succ_eq_map
def V7:=@List.filter_eq_nil_iff
def V8:=@PySem.Calls.callWith_builtin
def V9:=@List.tail_cons
def Wa:=@PySem.Heap.size_push
def Wb:=@PySem.wpAny_isTrue_Compare1
def Wd:=@PySem.F.slot_int_rmul
def We:=@List.length_filter_le
def Wf:=@PySem.args_get
def Wg:=@Eq.trans
def Wh:=@PySem.wpAny_call
def Wi:=@PySem.W.hideAll_none
def Wj:=@Nat.pow_le_pow_right
def Wk:=@List.mem_append_left
def Wl:=@List.getElem?_modify
def Wm:=@List.extract_toArray
def Wn:=@PySem.wpAny_standAt
def Wo:=@PySem.seq_tuple_add
def Wq:=@PySem.evalPart_none
def Wr:=@PySem.W.KF.type_class
def Ws:=@Bool.true_and
def Wt:=@PySem.W.hideAll_get
def Wu:=@List.getElem?_range
def Wv:=@List.drop_succ_cons
def Ww:=@PySem.concat_meets
def Wx:=@Nat.le_of_lt
def Wy:=@PySem.W.of_hideAll
def Wz:=@PySem.W.kitx_tuple
def WA:=@PySem.W.callWith_K
def WB:=@List.zip_cons_cons
def WC:=@List.mem_singleton
def WD:=@List.filterMap_map
def WE:=@PySem.W.kt_tab_in
def WG:=@PySem.W.kitx_dict
def WH:=@Option.some.injEq
def WI:=@Nat.le_succ_of_le
def WJ:=@List.length_range
def WK:=@List.contains_nil
def WL:=@List.append_assoc
def WM:=@beq_self_eq_true
def WN:=@PySem.seqSlot_of
def WO:=@Option.getD_none
def WQ:=@List.getElem_inj
def WR:=@Option.map_some
def WT:=@Nat.le_add_left
namespace L2
open PySem PySem.Spec PyProof.Rows
abbrev Key:=Sum Int Str
noncomputable def nF:Key->Value->Bool
 |.inl k,v=>Value.isInt k v
 |.inr x,v=>Value.isStrOf x v
noncomputable def PD(w:World):Key->Int
 |.inl k=>hashInt k
 |.inr x=>hashStr w x
def cW:∀{k:Key}{v:Value},nF k v=true->(∃i t,k=Sum.inl i/\v=Value.int i t)\/(∃x t,k=Sum.inr x/\v=Value.str x t)
 |.inl i,v,h=>by
  obtain⟨t,e⟩:=Value.isInt_shape (k:=i) (v:=v) h;exact .inl ⟨i,t,rfl,e⟩
 |.inr x,v,h=>by
  obtain⟨t,e⟩:=Value.isStrOf_shape (x:=x) (v:=v) h;exact .inr ⟨x,t,rfl,e⟩
def Ak(i:Int)(t:Tok):nF (.inl i) (.int i t)=true:=by simp[nF,Value.isInt]
def Am(x:Str)(t:Tok):nF (.inr x) (.str x t)=true:=by simp[nF,Value.isStrOf]
def Ie(a b:Int):decide ((Sum.inl a:Key)=Sum.inl b)=(a==b):=by
 by_cases e:a=b
 .subst e;simp
 .have h:¬ (Sum.inl a:Key)=Sum.inl b:=λq=>e (Sum.inl.inj q);rw[DX h];exact(beq_eq_false_iff_ne.mpr e).symm
def Ig(a b:Str):decide ((Sum.inr a:Key)=Sum.inr b)=decide (a=b):=by
 by_cases e:a=b
 .subst e;simp
 .have h:¬ (Sum.inr a:Key)=Sum.inr b:=λq=>e (Sum.inr.inj q);rw[DX h,DX e]
def Ih(a:Int)(b:Str):decide ((Sum.inl a:Key)=Sum.inr b)=false:=DX (λq=>nomatch q)
def Ii(a:Str)(b:Int):decide ((Sum.inr a:Key)=Sum.inl b)=false:=DX (λq=>nomatch q)
def cJ(prog:Program)(w:World):PySem.KeyKind prog w Key where
 is:=nF
 hash:=PD w
 inj:=λv a b ha hb=>by
  rcases cW ha with ⟨i,t,rfl,rfl⟩|⟨x,t,rfl,rfl⟩
  .rcases cW hb with ⟨j,u,rfl,e⟩|⟨y,u,rfl,e⟩
   .injection e with e1 _;rw[e1]
   .exact nomatch e
  .rcases cW hb with ⟨j,u,rfl,e⟩|⟨y,u,rfl,e⟩
   .exact nomatch e
   .injection e with e1 _;rw[e1]
 byValue:=λk v h=>by
  rcases cW h with ⟨i,t,rfl,rfl⟩|⟨x,t,rfl,rfl⟩<;>rfl
 pyHash:=λhv h=>by
  rcases cW hv with ⟨i,t,rfl,rfl⟩|⟨x,t,rfl,rfl⟩
  .exact wpAny_pyHash_int h
  .exact wpAny_pyHash_str h
 eqBool:=λhu hv h=>by
  rcases cW hu with ⟨i,t,rfl,rfl⟩|⟨x,t,rfl,rfl⟩
  .rcases cW hv with ⟨j,u,rfl,rfl⟩|⟨y,u,rfl,rfl⟩
   .rw[Ie]at h;exact wpAny_eqBool_int h
   .rw[Ih]at h;exact SeqAt.EqAt.int_str i t y u _ _ _ _ h
  .rcases cW hv with ⟨j,u,rfl,rfl⟩|⟨y,u,rfl,rfl⟩
   .rw[Ii]at h;exact SeqAt.EqAt.str_int x t j u _ _ _ _ h
   .rw[Ig]at h;exact wpAny_eqBool_str h
 «strs»:=λk x t v h=>by
  rcases cW h with ⟨i,u,rfl,e⟩|⟨y,u,rfl,e⟩
  .exact nomatch e
  .injection e with e1 _
   subst e1;cases v<;>rfl
def wH(prog:Program)(w:World)(i:Int)(t:Tok):(cJ prog w).is (.inl i) (.int i t)=true:=Ak i t
def wI(prog:Program)(w:World)(x:Str)(t:Tok):(cJ prog w).is (.inr x) (.str x t)=true:=Am x t
inductive V where
 |aO|bl (b:Bool)|int (i:Int)|str (x:Str)|An (b:Array UInt8)|wV (b:UInt64)|ref (a:Addr)|ty (n:String)
 deriving DecidableEq
def RelV:V->Value->Prop
 |.aO,u=>u=Value.none
 |.bl b,u=>u=Value.bool b
 |.int i,u=>∃t,u=Value.int i t
 |.str x,u=>∃t,u=Value.str x t
 |.An b,u=>∃t,u=Value.bytes b t
 |.wV b,u=>∃t,u=Value.float b t
 |.ref a,u=>u=Value.ref a
 |.ty n,u=>u=Value.type n
abbrev Vals:List V->List Value->Prop:=Paired RelV
theorem Vals.length{xs:List V}{us:List Value}(r:Vals xs us):xs.length=us.length:=Paired.length r
theorem Vals.get:∀{xs:List V}{us:List Value}{i:Nat}{x:V},Vals xs us->xs[i]?=some x->∃u,us[i]?=some u/\RelV x u
 |_,_,_,_,.nil,e=>by simp at e
 |_,_,0,_,.cons r _,e=>by simp at e;subst e;exact⟨_,rfl,r⟩
 |_,_,i+1,x,.cons _ t,e=>by
  obtain⟨u,h1,h2⟩:=Vals.get (i:=i) (x:=x) t (by simpa using e);exact⟨u,by simpa using h1,h2⟩
theorem Vals.append:∀{xs ys:List V}{us ws:List Value},Vals xs us->Vals ys ws->Vals (xs++ys) (us++ws)
 |_,_,_,_,.nil,s=>s
 |_,_,_,_,.cons r t,s=>.cons r (Vals.append t s)
theorem Vals.take:∀{xs:List V}{us:List Value}(n:Nat),Vals xs us->Vals (xs.take n) (us.take n)
 |_,_,0,_=>.nil
 |_,_,_+1,.nil=>.nil
 |_,_,n+1,.cons r t=>.cons r (Vals.take n t)
theorem Vals.drop:∀{xs:List V}{us:List Value}(n:Nat),Vals xs us->Vals (xs.drop n) (us.drop n)
 |_,_,0,r=>r
 |_,_,_+1,.nil=>.nil
 |_,_,n+1,.cons _ t=>Vals.drop n t
def kU:Option V->Option Value->Prop
 |some v,some u=>RelV v u
 |none,none=>True
 |_,_=>False
def KV{κ:Type}:List (κ×V)->List (κ×Value)->Prop:=Paired λ(p:κ×V) (q:κ×Value)=>p.1=q.1/\RelV p.2 q.2
noncomputable def kV:Key->V
 |.inl i=>.int i
 |.inr x=>.str x
inductive HO where
 |lst (xs:List V)
 |tup (xs:List V)
 |dK (kvs:List (Key×V))|dT (kvs:List (List Key×V))
 |set (S:Int->Bool) (n:Nat)
 |ins (C dx:Addr) (fs:List (Str×V))
 |own (x:Addr)
 |xd (fs:List (Str×V))
 |met (f x:Addr)
 |fz (lo hi:Int)
 |bB (o:Obj) (u:HO)
 |rY (ps:Array Value)
 |ext (φ:Heap->Prop)
abbrev Hp:=Addr->Option HO
noncomputable def upd(H:Hp)(a:Addr)(o:HO):Hp:=λb=>if b=a then some o else H b
def cB{H:Hp}{a:Addr}{o:HO}:upd H a o a=some o:=by unfold upd;rw[cG rfl]
def bq{H:Hp}{a b:Addr}{o:HO}(h:b≠a):upd H a o b=H b:=by unfold upd;rw[Cd h]
def Fv{H:Hp}{a:Addr}{o u:HO}:upd (upd H a o) a u=upd H a u:=by
 funext b;unfold upd;split<;>rfl
def qa{H:Hp}{a b:Addr}{o u:HO}(h:H a=some o)(h':H b=some u)(d:o≠u):a≠b:=by
 intro e;subst e;rw[h]at h';exact d (pV h')
def bN{H:Hp}{a b:Addr}{o:HO}(h:H a=some o)(h':H b=none):a≠b:=by
 intro e;subst e;rw[h]at h';cases h'
section
variable(P:Program)(w:World)
def b5(H:Hp)(h:Heap)(a:Addr):HO->Prop
 |.lst xs=>xs.length<=sizeLine/\∃(its:List Value) (n:Nat),Vals xs its/\h.get? a=some { cls:=.type "list",data:=.seq its.toArray n }
 |.tup xs=>xs.length<=sizeLine/\∃its:List Value,Vals xs its/\IsTup h a its.toArray
 |.dK kvs=>kvs.length<=sizeLine/\(a==sysModules)=false/\∃vs,KV kvs vs/\h.DictOf (cJ P w) a vs
 |.dT kvs=>kvs.length<=sizeLine/\(a==sysModules)=false/\∃xs:List (List Key×Addr×Value),
   Paired (λ(p:List Key×V) (q:List Key×Addr×Value)=>p.1=q.1/\H q.2.1=some (.tup (p.1.map kV))/\RelV p.2 q.2.2) kvs xs/\
   ∃o es ep,h.get? a=some o/\o.ExactDict/\o.data=.dict es ep/\es.toList=xs.map (entryOfKey (tupleKind (cJ P w)))/\(xs.map (·.1)).Nodup
 |.set S n=>h.SetOf (intKind P w) a S n
 |.ins C dx fs=>H dx=some (.own a)/\fs.length<=1000/\dx≠a/\h.get? a=some (PySem.W.instObj C dx)/\
   ∃mA,h.Ns1 dx mA/\(∀f,kU (fs.lookup f) (mA f))/\PySem.Within mA (fs.map (·.1))
 |.own _=>∃o,h.get? a=some o
 |.xd fs=>∃mA,h.Ns1 a mA/\∀f,kU (fs.lookup f) (mA f)
 |.fz lo hi=>∃t u v,h.get? a=some { cls:=.type "range",data:=.fields #[.int lo t,.int hi u,.int 1 v]}
 |.bB o u=>h.get? a=some o/\b5 H h a u
 |.rY ps=>h.get? a=some { cls:=.none,data:=.fields ps }
 |.met f x=>h.get? a=some (PySem.W.methodObj (.ref f) (.ref x))
 |.ext φ=>φ h/\(∃o,h.get? a=some o)/\∀h1 h2:Heap,φ h1->(∀o,h1.get? a=some o->h2.get? a=some o)->φ h2
def dw(H:Hp)(h:Heap):Prop:=∀a o,H a=some o->b5 P w H h a o
end
section
variable{P:Program}{w:World}{H H':Hp}{h h':Heap}{a:Addr}{o:HO}
theorem b5.lt(x:b5 P w H h a o):a<h.objs.size:=by
 cases o with
 |lst xs=>obtain⟨_,_,_,_,e⟩:=x;exact rT e
 |tup xs=>obtain⟨_,_,_,p⟩:=x;exact p.lt
 |dK kvs=>obtain⟨_,_,_,_,o,_,_,e,_⟩:=x;exact rT e
 |dT kvs=>obtain⟨_,_,_,_,o,_,_,e,_⟩:=x;exact rT e
 |set S n=>obtain⟨o,_,_,_,e,_⟩:=x;exact rT e
 |ins C dx fs=>obtain⟨_,_,_,e,_⟩:=x;exact rT e
 |own y=>obtain⟨_,e⟩:=x;exact rT e
 |xd fs=>obtain⟨_,⟨_,_,_,e,_⟩,_⟩:=x;exact rT e
 |fz lo hi=>obtain⟨_,_,_,e⟩:=x;exact rT e
 |bB ob u=>obtain⟨e,_⟩:=x;exact rT e
 |rY ps=>exact rT (show h.get? a=some _ from x)
 |met f y=>exact rT (show h.get? a=some _ from x)
 |ext φ=>obtain⟨_,⟨_,e⟩,_⟩:=x;exact rT e
theorem Paired.Ij{α β:Type}{F G:α->β->Prop}:∀{l₁:List α}{l₂:List β},Paired F l₁ l₂->(∀a b,F a b->G a b)->Paired G l₁ l₂
 |_,_,.nil,_=>.nil
 |_,_,.cons r t,f=>.cons (f _ _ r) (Paired.Ij t f)
def b5.stay(x:b5 P w H h a o)(k:∀b u,(b=a\/H b=some (.own a))->h.get? b=some u->h'.get? b=some u)
  (ho:∀b,H b=some (.own a)->H' b=some (.own a)) (ht:∀b xs,H b=some (.tup xs)->H' b=some (.tup xs)):b5 P w H' h' a o:=by
 induction o with
 |lst xs=>obtain⟨z,its,n,r,e⟩:=x;exact⟨z,its,n,r,k _ _ (.inl rfl) e⟩
 |tup xs=>obtain⟨z,its,r,ob,e,c⟩:=x;exact⟨z,its,r,ob,k _ _ (.inl rfl) e,c⟩
 |dK kvs=>obtain⟨z,y,vs,r,ob,es,ep,e,c⟩:=x;exact⟨z,y,vs,r,ob,es,ep,k _ _ (.inl rfl) e,c⟩
 |dT kvs=>
  obtain⟨z,y,xs,r,ob,es,ep,e,c⟩:=x;exact⟨z,y,xs,Paired.Ij r λp q z=>⟨z.1,ht _ _ z.2.1,z.2.2⟩,ob,es,ep,k _ _ (.inl rfl) e,c⟩
 |set S n=>obtain⟨ob,es,ep,t,e,c⟩:=x;exact⟨ob,es,ep,t,k _ _ (.inl rfl) e,c⟩
 |ins C dx fs=>
  obtain⟨d,z,ne,e,mA,⟨od,es,ep,e2,c⟩,r⟩:=x;exact⟨ho _ d,z,ne,k _ _ (.inl rfl) e,mA,⟨od,es,ep,k _ _ (.inr d) e2,c⟩,r⟩
 |own y=>obtain⟨ob,e⟩:=x;exact⟨ob,k _ _ (.inl rfl) e⟩
 |xd fs=>obtain⟨mA,⟨od,es,ep,e,c⟩,r⟩:=x;exact⟨mA,⟨od,es,ep,k _ _ (.inl rfl) e,c⟩,r⟩
 |fz lo hi=>obtain⟨t,u,v,e⟩:=x;exact⟨t,u,v,k _ _ (.inl rfl) e⟩
 |bB ob u ih=>obtain⟨e,q⟩:=x;exact⟨k _ _ (.inl rfl) e,ih q⟩
 |rY ps=>
  have e:h.get? a=some { cls:=.none,data:=.fields ps }:=x;show h'.get? a=some { cls:=.none,data:=.fields ps };exact k a _ (.inl rfl) e
 |met f y=>
  have e:h.get? a=some (PySem.W.methodObj (.ref f) (.ref y)):=x;show h'.get? a=some (PySem.W.methodObj (.ref f) (.ref y));exact k a _ (.inl rfl) e
 |ext φ=>obtain⟨p,⟨o,e⟩,st⟩:=x;exact⟨st _ _ p λo q=>k _ _ (.inl rfl) q,⟨o,k _ _ (.inl rfl) e⟩,st⟩
theorem dw.lt(x:dw P w H h)(e:H a=some o):a<h.objs.size:=(x a o e).lt
def dw.fresh(x:dw P w H h)(e:h.objs.size<=a):H a=none:=by
 cases q:H a with
 |none=>rfl
 |some u=>exact absurd (dS (x.lt q) e) (Ud _)
def dw.kept(x:dw P w H h)(k:∀b u,h.get? b=some u->h'.get? b=some u):dw P w H h':=λa o e=>
 (x a o e).stay (λb u _ q=>k b u q) (λ_ q=>q) λ_ _ q=>q
def dw.laid(x:dw P w H h)(k:∀b u,h.get? b=some u->h'.get? b=some u)(hp:h.objs.size<=a)(new:b5 P w (upd H a o) h' a o):dw P w (upd H a o) h':=λb u e=>by
 have hn:=x.fresh hp;by_cases hb:b=a
 .subst hb;rw[cB]at e;cases e;exact new
 .rw[bq hb]at e;exact(x b u e).stay (λc v _ q=>k c v q) (λc q=>by rw[bq (bN q hn)];exact q) λc xs q=>by rw[bq (bN q hn)];exact q
end
def Rd(H:Hp)(a:Addr)(u:HO):Prop:=H a=some u\/∃o,H a=some (.bB o u)
def Rd.ok{P:Program}{w:World}{H:Hp}{h:Heap}{a:Addr}{u:HO}(r:Rd H a u)(x:dw P w H h):b5 P w H h a u:=by
 rcases r with r|⟨o,r⟩
 .exact x a u r
 .obtain⟨_,q⟩:=x a _ r;exact q
def Ao:Option HO->Prop
 |some (.lst _)=>True
 |some (.dK _)=>True
 |some (.dT _)=>True
 |some (.set _ _)=>True
 |some (.ins _ _ _)=>True
 |some (.ext _)=>True
 |_=>False
section
variable{P:Program}{w:World}{H:Hp}{h h':Heap}{x e:Addr}{o':HO}
def dw.write(ok:dw P w H h)(mu:Ao (H x))(he:e=x\/H e=some (.own x))(k:∀b u,b≠e->h.get? b=some u->h'.get? b=some u)(wW:∃u,h'.get? e=some u)
  (new:b5 P w (upd H x o') h' x o'):dw P w (upd H x o') h':=λb u q=>by
 have Ik:∀c y,H c=some (.own y)->c≠x:=λc y r z=>by subst z;rw[r]at mu;exact mu
 have PF:∀c xs,H c=some (.tup xs)->c≠x:=λc xs r z=>by subst z;rw[r]at mu;exact mu
 by_cases hb:b=x
 .subst hb;rw[cB]at q;cases q;exact new
 .rw[bq hb]at q;by_cases uu:b=e
  .have q':H b=some (.own x):=by
    rcases he with z|z
    .exact absurd (uu.trans z) hb
    .rw[uu];exact z
   rw[q]at q';cases q';obtain⟨v,hv⟩:=wW;exact⟨v,by rw[uu];exact hv⟩
  .refine(ok b u q).stay (λc v hc r=>k c v ?_ r) (λc r=>by rw[bq (Ik c b r)];exact r) λc xs r=>by rw[bq (PF c xs r)];exact r
   rcases hc with rfl|hc
   .exact uu
   .rintro rfl;rcases he with z|z
    .exact Ik c b hc z
    .rw[hc]at z;cases z;exact hb rfl
end
structure Un(fs ex:List Addr)(H H':Hp)(h h':Heap):Prop where
 keep:∀b o,h.get? b=some o->H b=none->b∉fs->b∉ex->h'.get? b=some o
 slot:∀b o,h.get? b=some o->H b=none->b∈fs->b∉ex->∃sl,h'.get? b=some { o with slots:=sl }
 free:∀b o,h.get? b=some o->H b=none->b∉ex->H' b=none
 there:∀b o,h.get? b=some o->b∉ex->∃o',h'.get? b=some o'
 tups:∀b xs,H b=some (.tup xs)->H' b=some (.tup xs)
 jy:∀b o u,H b=some (.bB o u)->H' b=some (.bB o u)
 kg:∀b ps,H b=some (.rY ps)->∃more,H' b=some (.rY (ps++more))
section
variable{fs ex:List Addr}{H H1:Hp}{h h1 h':Heap}{a x e:Addr}{o:HO}
def Un.any(u:Un fs ex H H1 h h1){b:Addr}{ob:Obj}(q:h.get? b=some ob)(n:H b=none)(hx:b∉ex):∃sl,h1.get? b=some { ob with slots:=sl }:=by
 by_cases hb:b∈fs
 .exact u.slot b ob q n hb hx
 .exact⟨ob.slots,u.keep b ob q n hb hx⟩
def Un.kept(k:∀b u,h.get? b=some u->h'.get? b=some u):Un fs ex H H h h':=
 ⟨λb ob q _ _ _=>k b ob q,λb ob q _ _ _=>⟨ob.slots,k b ob q⟩,λ_ _ _ n _=>n,λb ob q _=>⟨ob,k b ob q⟩,λ_ _ q=>q,λ_ _ _ q=>q,λ_ ps q=>⟨#[],by rw[q];simp⟩⟩
def Un.refl:Un fs ex H H h h:=Un.kept λ_ _ q=>q
def Un.laid(k:∀b u,h.get? b=some u->h'.get? b=some u)(hp:h.objs.size<=a)(hn:H a=none):Un fs ex H (upd H a o) h h' where
 keep:=λb u q _ _ _=>k b u q
 slot:=λb u q _ _ _=>⟨u.slots,k b u q⟩
 free:=λb u q n _=>by rw[bq (QT (dS (rT q) hp))];exact n
 there:=λb u q _=>⟨u,k b u q⟩
 tups:=λb xs q=>by rw[bq (bN q hn)];exact q
 jy:=λb u xs q=>by rw[bq (bN q hn)];exact q
 kg:=λb ps q=>⟨#[],by rw[bq (bN q hn),q];simp⟩
def Un.write(mu:Ao (H x))(he:e=x\/H e=some (.own x))(k:∀b u,b≠e->h.get? b=some u->h'.get? b=some u)(wW:∃u,h'.get? e=some u):Un fs ex H (upd H x o) h h':=by
 have hx:∀b,H b=none->b≠x:=λb n z=>by subst z;rw[n]at mu;exact mu
 have hb:∀b,H b=none->b≠e:=λb n z=>by
  subst z;rcases he with r|r
  .exact hx b n r
  .rw[n]at r;cases r
 have hm:∀b u,H b=some u->¬ Ao (some u)->b≠x:=λb u q nm z=>by subst z;rw[q]at mu;exact nm mu
 refine⟨λb u q n _ _=>k b u (hb b n) q,λb u q n _ _=>⟨u.slots,k b u (hb b n) q⟩,λb u q n _=>by rw[bq (hx b n)];exact n,λb u q _=>?_,
  λb xs q=>by rw[bq (hm b _ q λz=>z)];exact q,λb u xs q=>by rw[bq (hm b _ q λz=>z)];exact q,λb ps q=>⟨#[],by rw[bq (hm b _ q λz=>z),q];simp⟩⟩
 by_cases uu:b=e
 .subst uu;exact wW
 .exact⟨u,k b u uu q⟩
end
noncomputable def D9(h:Heap)(H:Hp):List Addr:=(List.range h.objs.size).filter λa=>(H a).isSome
def kW(h:Heap)(H:Hp):Heap:=PySem.W.hideAll h (D9 h H)
def Aq(h:Heap)(H:Hp):(kW h H).objs.size=h.objs.size:=PySem.W.hideAll_size _ _
def CA{h:Heap}{H:Hp}{b:Addr}{o:Obj}(e:h.get? b=some o)(n:H b=none):(kW h H).get? b=some o:=
 Wt _ e λhm=>by
  have q:(H b).isSome=true:=(List.mem_filter.mp hm).2;rw[n]at q;simp at q
def Fw{h:Heap}{H:Hp}{b:Addr}{o:Obj}(e:(kW h H).get? b=some o):h.get? b=some o/\H b=none:=by
 have e':h.get? b=some o:=Wy (D9 h H) e;refine⟨e',?_⟩;cases q:H b with
 |none=>rfl
 |some x=>
  have hm:b∈D9 h H:=List.mem_filter.mpr ⟨List.mem_range.mpr (rT e'),by simp[q]⟩;have z:(kW h H).get? b=none:=Wi (D9 h H) hm;rw[z]at e;cases e
noncomputable def Fx(g h:Heap)(L:Addr):List (Addr×Obj):=(List.range h.objs.size).filterMap λa=>if a=L\/(g.get? a).isSome=true then none else (h.get? a).map λo=>(a,o)
def rest(g h:Heap)(L d:Addr):List (Addr×Obj):=(Fx g h L).filter λp=>decide (p.1≠d)
structure Mod(K:PySem.W.Frag)(mg:Str->Option Value)(base:Heap):Prop where
 cS:K.In base
 glob:base.Ns mainGlobals mg
 blt:∃mb,base.Ns builtinsNs mb/\∀x:Str,x≠"__name__" ->mb x=bootBuiltins x
 nolimit:base.NoLimit
structure Cx where
 prog:Program
 w:World
 K:PySem.W.Frag
 mg:Str->Option Value
 base:Heap
 A:Around
 N:List Str
 s₀:Shared
 H₀:Hp
 env:Env
 outer:List Env
 stack:List Env
 ex:List Addr
 fn:Str->Bool
 calm:Bool
 pn:List (Addr×Obj)
 xe:Value->Shared->Prop
noncomputable def frs(l:List Env):List Addr:=l.filterMap (·.frame)
abbrev Cx.fs(X:Cx):List Addr:=frs X.outer
def rZ(sc:Scope)(x:Str):Prop:=sc.names.lookup x=some .local\/sc.names.lookup x=some .cell\/sc.names.lookup x=some .free
def Loc(sc:Scope)(x:Str):Prop:=sc.names.lookup x=some .local\/sc.names.lookup x=some .cell
def Look(env:Env)(h:Heap)(m:Str->Option Value)(x:Str)(u:Value):Prop:=
 (env.kindOf x=some .local/\m x=some u)\/((env.kindOf x=some .cell\/env.kindOf x=some .free)/\∃c,env.cells.lookup x=some c/\h.IsCell c (some u))
structure Cx.Ok(X:Cx):Prop where
 mod:Mod X.K X.mg X.base
 kind:X.env.scope.kind=.function
 glob:X.env.globals=mainGlobals
 blt:X.env.builtins=builtinsNs
 above:X.s₀.heap.objs.size<=X.env.locals
 inj:∀x y c,X.env.cells.lookup x=some c->X.env.cells.lookup y=some c->x=y
 has:∀x,(X.env.kindOf x=some .cell\/X.env.kindOf x=some .free)->∃c,X.env.cells.lookup x=some c
 uv:∀x c,X.fn x=true->X.env.cells.lookup x=some c->X.s₀.heap.objs.size<=c
 hd:X.calm=true->X.A.handled=none
 frames:X.A.frames=some X.stack
 stk:X.stack=X.outer\/(X.stack=X.env :: X.outer/\X.env.frame=some X.env.locals)
 wX:∀b∈X.ex,b≠X.env.locals/\∀x c,X.env.cells.lookup x=some c->c≠b
 bs:∀b o,X.base.get? b=some o->X.s₀.heap.get? b=some o/\X.H₀ b=none
 qb:X.base.objs.size<=X.s₀.heap.objs.size
 o6:∀b o,X.base.get? b=some o->b∉X.ex
 lZ:∀b∈X.ex,b∉X.fs
 iL:X.s₀.heap.FunFrames X.base X.outer
 r8:∀b∈X.fs,X.H₀ b=none
structure Inv(X:Cx)(pins:List (Addr×Obj))(σ:List (Option V))(H:Hp)(s:Shared):Prop where
 ok:X.Ok
 os:s.os=X.s₀.os
 bare:AllBare s.gens
 base:Un X.fs X.ex X.H₀ H X.s₀.heap s.heap
 loc:∃m,s.heap.Ns X.env.locals m/\∀(i:Nat) (x:Str) (v:V),X.N[i]?=some x->σ[i]?=some (some v)->rZ X.env.scope x->∃u,RelV v u/\Look X.env s.heap m x u
 cell:∀x c,X.env.cells.lookup x=some c->∃v,s.heap.IsCell c v
 free:H X.env.locals=none
 fY:∀x c,X.env.cells.lookup x=some c->H c=none
 pin:∀p∈X.pn++pins,s.heap.get? p.1=some p.2/\H p.1=none/\p.1≠X.env.locals/\p.1∉X.fs/\∀v,p.2.data≠.cell v
 hok:dw X.prog X.w H s.heap
 len:σ.length=X.N.length
section
variable{X:Cx}{pins:List (Addr×Obj)}{σ:List (Option V)}{H H':Hp}{s:Shared}{h':Heap}
def Cx.Ok.PJ(ok:X.Ok){b:Addr}{o:Obj}(e:X.base.get? b=some o):b∉X.fs:=λhb=>by
 have:=(ok.iL.mem hb).1;rw[e]at this;cases this
theorem Inv.bs(I:Inv X pins σ H s):∀b o,X.base.get? b=some o->s.heap.get? b=some o/\H b=none:=λb o e=>
 ⟨I.base.keep b o (I.ok.bs b o e).1 (I.ok.bs b o e).2 (I.ok.PJ e) (I.ok.o6 b o e),I.base.free b o (I.ok.bs b o e).1 (I.ok.bs b o e).2 (I.ok.o6 b o e)⟩
def Inv.bk(I:Inv X pins σ H s):∀b o,X.base.get? b=some o->s.heap.get? b=some o:=λb o e=>(I.bs b o e).1
theorem Inv.mod(I:Inv X pins σ H s):Mod X.K X.mg X.base:=I.ok.mod
def Inv.dY(I:Inv X pins σ H s):X.K.In s.heap:=I.ok.mod.cS.keeps I.bk
theorem Inv.lt(I:Inv X pins σ H s):X.env.locals<s.heap.objs.size:=let ⟨_,hn,_⟩:=I.loc;hn.lt
def Inv.sz(I:Inv X pins σ H s):X.s₀.heap.objs.size<=s.heap.objs.size:=HK I.ok.above (Wx I.lt)
def Inv.PK(I:Inv X pins σ H s){a:Addr}(h:s.heap.objs.size<=a):a∉X.fs:=λhb=>by
 obtain⟨_,o,ho,_⟩:=I.ok.iL.mem hb;exact absurd (dS (rT ho) (HK I.sz h)) (Ud _)
def Inv.mh(I:Inv X pins σ H s):∀x c,X.env.cells.lookup x=some c->c≠X.env.locals:=λx c e z=>by
 obtain⟨v,o,ho,hd⟩:=I.cell x c e;obtain⟨m,⟨o',es,ep,ho',hd',_⟩,_⟩:=I.loc;rw[z,ho']at ho;cases ho;rw[hd']at hd;cases hd
theorem Inv.iL(I:Inv X pins σ H s):s.heap.FunFrames X.base X.outer:=by
 have all:∀(l:List Env),(∀b∈frs l,b∈X.fs)->X.s₀.heap.FunFrames X.base l->s.heap.FunFrames X.base l:=by
  intro l;induction l with
  |nil=>intro _ _;trivial
  |cons env r ih=>
   intro hs hl;obtain⟨hk,⟨L,o,hf,hn,ho,hd⟩,hr⟩:=hl;have hL:L∈X.fs:=hs L (by unfold frs;rw[Om,hf];exact T7);obtain⟨sl,e⟩:=I.base.slot L o ho (I.ok.r8 L hL) hL λz=>I.ok.lZ L z hL;exact⟨hk,⟨L,_,hf,hn,e,hd⟩,ih (λb hb=>hs b (by unfold frs;rw[Om,hf];exact Mi _ hb)) hr⟩
 exact all X.outer (λ_ hb=>hb) I.ok.iL
theorem Inv.stack(I:Inv X pins σ H s):s.heap.FunFrames X.base X.stack:=by
 rcases I.ok.stk with e|⟨e,hf⟩
 .rw[e];exact I.iL
 .rw[e];obtain⟨m,hn,_⟩:=I.loc;refine .cons (by rw[I.ok.kind];decide) hf hn ?_ I.iL;exact Heap.get?_none_of_le (HK I.ok.qb I.ok.above)
def Inv.ku(I:Inv X pins σ H s):∀b∈frs X.stack,b∈X.env.locals :: X.fs:=λb hb=>by
 rcases I.ok.stk with e|⟨e,hf⟩
 .rw[e]at hb;exact Mi _ hb
 .rw[e]at hb;unfold frs at hb;rw[Om,hf]at hb;exact hb
def Inv.nG(I:Inv X pins σ H s):∀b∈frs X.stack,H b=none:=λb hb=>by
 rcases List.mem_cons.mp (I.ku b hb)with e|hb
 .rw[e];exact I.free
 .obtain⟨_,o,ho,_⟩:=I.ok.iL.mem hb;exact I.base.free b o ho (I.ok.r8 b hb) λz=>I.ok.lZ b z hb
def Inv.step{g':Array GenState}{t':Nat}{d':Drawn}{ch:List Addr}(I:Inv X pins σ H s)
  (hch:∀b∈ch,(b∈X.ex\/X.s₀.heap.objs.size<=b)/\b≠X.env.locals/\(∀x c,X.env.cells.lookup x=some c->c≠b)/\∀p∈X.pn++pins,p.1≠b)
  (keep:∀b o,b≠X.env.locals->b∉X.fs->b∉ch->s.heap.get? b=some o->H b=none->h'.get? b=some o)
  (slot:∀b o,b≠X.env.locals->b∈X.fs->b∉ch->s.heap.get? b=some o->H b=none->∃sl,h'.get? b=some { o with slots:=sl }) (free:∀b o,b∉ch->s.heap.get? b=some o->H b=none->H' b=none)
  (there:∀b o,b∉ch->s.heap.get? b=some o->∃o',h'.get? b=some o')
  (tups:∀b xs,H b=some (.tup xs)->H' b=some (.tup xs)) (jy:∀b o u,H b=some (.bB o u)->H' b=some (.bB o u)) (kg:∀b ps,H b=some (.rY ps)->∃more,H' b=some (.rY (ps++more)))
  (ns:∀m,s.heap.Ns X.env.locals m->h'.Ns X.env.locals m) (hok:dw X.prog X.w H' h') (hg:AllBare g') :
  Inv X pins σ H' { s with heap:=h',gens:=g',drawn:=d',toks:=t' }:=by
 have OD:∀b o,X.s₀.heap.get? b=some o->b≠X.env.locals:=λb o e=>QT (dS (rT e) I.ok.above);have Ea:∀b o,X.s₀.heap.get? b=some o->b∉X.ex->b∉ch:=λb o e hx hb=>by
  rcases(hch b hb).1 with z|z
  .exact hx z
  .exact absurd (dS (rT e) z) (Ud _)
 have cellK:∀x c,X.env.cells.lookup x=some c->∀v,s.heap.IsCell c v->h'.IsCell c v:=λx c e v ⟨o,ho,hd⟩=>by
  have Ar:c∉ch:=λz=>(hch c z).2.2.1 x c e rfl;by_cases hc:c∈X.fs
  .obtain⟨sl,q⟩:=slot c o (I.mh x c e) hc Ar ho (I.fY x c e);exact⟨_,q,hd⟩
  .exact⟨o,keep c o (I.mh x c e) hc Ar ho (I.fY x c e),hd⟩
 refine⟨I.ok,I.os,hg,⟨λb o e n hb hx=>?_,λb o e n hb hx=>?_,λb o e n hx=>?_,λb o e hx=>?_,λb xs e=>tups b xs (I.base.tups b xs e),λb o xs e=>jy b o xs (I.base.jy b o xs e),λb ps e=>?_⟩,?_,λx c e=>?_,?_,λx c e=>?_,λp hp=>?_,hok,I.len⟩
 .exact keep b o (OD b o e) hb (Ea b o e hx) (I.base.keep b o e n hb hx) (I.base.free b o e n hx)
 .obtain⟨sl,e1⟩:=I.base.slot b o e n hb hx;obtain⟨Q7,e2⟩:=slot b _ (OD b o e) hb (Ea b o e hx) e1 (I.base.free b o e n hx);exact⟨Q7,e2⟩
 .obtain⟨o',e1⟩:=I.base.there b o e hx;exact free b o' (Ea b o e hx) e1 (I.base.free b o e n hx)
 .obtain⟨o',e1⟩:=I.base.there b o e hx;exact there b o' (Ea b o e hx) e1
 .obtain⟨m1,e1⟩:=I.base.kg b ps e;obtain⟨m2,e2⟩:=kg b _ e1;exact⟨m1++m2,by rw[e2,Array.append_assoc]⟩
 .obtain⟨m,hn,hl⟩:=I.loc;refine⟨m,ns m hn,λi x v e1 e2 e3=>?_⟩;obtain⟨u,r,l⟩:=hl i x v e1 e2 e3;refine⟨u,r,?_⟩;rcases l with l|⟨k,c,e,z⟩
  .exact .inl l
  .exact .inr ⟨k,c,e,cellK x c e _ z⟩
 .obtain⟨v,z⟩:=I.cell x c e;exact⟨v,cellK x c e v z⟩
 .obtain⟨m,⟨o,_,_,ho,_⟩,_⟩:=I.loc;exact free _ o (λz=>(hch _ z).2.1 rfl) ho I.free
 .obtain⟨v,o,ho,hd⟩:=I.cell x c e;exact free c o (λz=>(hch c z).2.2.1 x c e rfl) ho (I.fY x c e)
 .obtain⟨e,n,ne,nf,d⟩:=I.pin p hp;have Ar:p.1∉ch:=λz=>(hch p.1 z).2.2.2 p hp rfl;exact⟨keep p.1 p.2 ne nf Ar e n,free p.1 p.2 Ar e n,ne,nf,d⟩
def Inv.un{t':Nat}(I:Inv X pins σ H s)(u:Un X.fs [] H H' s.heap h')(hok:dw X.prog X.w H' h'):Inv X pins σ H' { s with heap:=h',toks:=t' }:=by
 obtain⟨m,⟨o,es,ep,ho,r⟩,_⟩:=id I.loc;obtain⟨sl,hL⟩:=u.any ho I.free (by simp);exact I.step (g':=s.gens) (d':=s.drawn) (ch:=[]) (λ_ z=>nomatch z) (λb o _ hb _ e n=>u.keep b o e n hb (by simp)) (λb o _ hb _ e n=>u.slot b o e n hb (by simp)) (λb o _ e n=>u.free b o e n (by simp)) (λb o _ e=>u.there b o e (by simp)) u.tups u.jy u.kg (λm' hm=>by
  obtain⟨o',es',Il,ho',r'⟩:=hm;rw[ho]at ho';cases ho';exact⟨_,es',Il,hL,r'⟩) hok I.bare
def Inv.call{g':Array GenState}{t':Nat}{d':Drawn}{ch:List Addr}(I:Inv X pins σ H s)(u:Un (frs X.stack) ch H H' s.heap h')(hok:dw X.prog X.w H' h')(hg:AllBare g')
  (hch:∀b∈ch,(b∈X.ex\/X.s₀.heap.objs.size<=b)/\b≠X.env.locals/\(∀x c,X.env.cells.lookup x=some c->c≠b)/\∀p∈X.pn++pins,p.1≠b) :
  Inv X pins σ H' { s with heap:=h',gens:=g',drawn:=d',toks:=t' }:=by
 obtain⟨m,⟨o,es,ep,ho,r⟩,_⟩:=id I.loc;obtain⟨sl,hL⟩:=u.any ho I.free λz=>(hch _ z).2.1 rfl;exact I.step (ch:=ch) hch (λb o hL hb hc e n=>u.keep b o e n (λz=>(List.mem_cons.mp (I.ku b z)).elim hL hb) hc) (λb o _ _ hc e n=>u.any e n hc) (λb o hc e n=>u.free b o e n hc) (λb o hc e=>u.there b o e hc) u.tups u.jy u.kg (λm' hm=>by
  obtain⟨o',es',Il,ho',r'⟩:=hm;rw[ho]at ho';cases ho';exact⟨_,es',Il,hL,r'⟩) hok hg
def Inv.turned{t':Nat}{it:Addr}(I:Inv X pins σ H s)(k:∀b o,b≠it->s.heap.get? b=some o->h'.get? b=some o)(hn:H it=none)(hL:it≠X.env.locals)
  (h1:it∈X.ex\/X.s₀.heap.objs.size<=it) (h2:∀x c,X.env.cells.lookup x=some c->c≠it) (h3:∀p∈X.pn++pins,p.1≠it):Inv X pins σ H { s with heap:=h',toks:=t' }:=by
 have OE:∀b u,H b=some u->b≠it:=λb u e z=>by rw[z,hn]at e;cases e
 refine I.step (g':=s.gens) (d':=s.drawn) (ch:=[it]) (λb hb=>?_) (λb o _ _ hc e _=>k b o (λz=>hc (by simp[z])) e) (λb o _ _ hc e _=>⟨o.slots,k b o (λz=>hc (by simp[z])) e⟩) (λ_ _ _ _ n=>n)
  (λb o hc e=>⟨o,k b o (λz=>hc (by simp[z])) e⟩) (λ_ _ e=>e) (λ_ _ _ e=>e) (λb ps e=>⟨#[],by rw[e];simp⟩) (λm hm=>?_) (λb u e=>?_) I.bare
 .have e:b=it:=by simpa using hb
  subst e;exact⟨h1,hL,h2,h3⟩
 .obtain⟨o,es,ep,ho,r⟩:=hm;exact⟨o,es,ep,k _ o (UN hL) ho,r⟩
 .refine(I.hok b u e).stay (λc v hc q=>k c v ?_ q) (λ_ q=>q) λ_ _ q=>q;rcases hc with z|z
  .rw[z];exact OE b u e
  .exact OE c _ z
def Inv.tok(I:Inv X pins σ H s)(t:Nat):Inv X pins σ H { s with toks:=t }:=I.un (h':=s.heap) (t':=t) Un.refl I.hok
theorem Inv.kept{t':Nat}(I:Inv X pins σ H s)(k:∀b u,s.heap.get? b=some u->h'.get? b=some u):Inv X pins σ H { s with heap:=h',toks:=t' }:=I.un (Un.kept k) (I.hok.kept k)
theorem Inv.laid{a:Addr}{o:HO}{t':Nat}(I:Inv X pins σ H s)(k:∀b u,s.heap.get? b=some u->h'.get? b=some u)(hp:s.heap.objs.size<=a)(new:b5 X.prog X.w (upd H a o) h' a o) :
  Inv X pins σ (upd H a o) { s with heap:=h',toks:=t' }:=I.un (Un.laid k hp (I.hok.fresh hp)) (I.hok.laid k hp new)
theorem Inv.write{x e:Addr}{o:HO}{t':Nat}(I:Inv X pins σ H s)(mu:Ao (H x))(he:e=x\/H e=some (.own x))(k:∀b u,b≠e->s.heap.get? b=some u->h'.get? b=some u)(wW:∃u,h'.get? e=some u)
  (new:b5 X.prog X.w (upd H x o) h' x o):Inv X pins σ (upd H x o) { s with heap:=h',toks:=t' }:=I.un (Un.write mu he k wW) (I.hok.write mu he k wW new)
def Inv.wY{Eb:List (Addr×Obj)}(I:Inv X pins σ H s)(h:∀p∈Eb,s.heap.get? p.1=some p.2/\H p.1=none/\p.1≠X.env.locals/\p.1∉X.fs/\∀v,p.2.data≠.cell v):Inv X Eb σ H s:=
 ⟨I.ok,I.os,I.bare,I.base,I.loc,I.cell,I.free,I.fY,λp hp=>(List.mem_append.mp hp).elim (λz=>I.pin p (Wk _ z)) (h p),I.hok,I.len⟩
def o7{N:List Str}(hN:N.Nodup){i j:Nat}{x:Str}(a:N[i]?=some x)(b:N[j]?=some x):i=j:=by
 obtain⟨h1,e1⟩:=List.getElem?_eq_some_iff.mp a;obtain⟨h2,e2⟩:=List.getElem?_eq_some_iff.mp b;exact(WQ hN).mp (e1.trans e2.symm)
def mj{M:Model}{A:Around}{E:Value->Shared->Prop}{i:Nat}{x:Str}{v:V}{u:Value}{Q:Unit->Shared->Prop}(I:Inv X pins σ H s)(hN:X.N.Nodup)(hi:X.N[i]?=some x)(hx:Loc X.env.scope x)(r:RelV v u)
  (h:∀s',Inv X pins (σ.set i (some v)) H s'->(∃a,Heap.SameBut a s.heap s'.heap/\(a=X.env.locals\/X.env.cells.lookup x=some a))->Q () s') (hf:X.fn x=true\/X.env.scope.names.lookup x=some .local:=by first|exact .inl rfl|exact .inr rfl|assumption):wpAny M A (storeName X.env x u) Q E s:=by
 obtain⟨m,hn,hl⟩:=id I.loc;have hcls:(X.env.scope.kind==.class || (X.env.scope.kind==.module&&X.env.locals != X.env.globals))=false:=by rw[I.ok.kind];rfl
 have yZ:i<σ.length:=by rw[I.len];exact(List.getElem?_eq_some_iff.mp hi).1
 have mh:=I.mh;have tracked:∀{a:Addr} {h':Heap},(∃o,s.heap.get? a=some o/\H a=none)->Heap.SameBut a s.heap h'->dw X.prog X.w H h':=λ{a h'} ha hs b ob e=>by
  obtain⟨_,_,hfree⟩:=ha;refine(I.hok b ob e).stay (λc w' hc q=>(hs.2 c ?_).trans q) (λ_ q=>q) λ_ _ q=>q;rintro rfl;rcases hc with rfl|hc
  .rw[hfree]at e;cases e
  .rw[hfree]at hc;cases hc
 rcases hx with hk|hk
 .refine wpAny_storeName_local hk hn (λh' hn' hs=>?_) hcls;obtain⟨oL,_,_,OF,_⟩:=id hn;refine h _ ⟨I.ok,I.os,I.bare,⟨λb o e n hb hx=>?_,λb o e n hb hx=>?_,I.base.free,λb o e hx=>?_,I.base.tups,I.base.jy,I.base.kg⟩,⟨_,hn',λj y v' e1 e2 e3=>?_⟩,λy c e=>?_,I.free,I.fY,λp hp=>?_,tracked ⟨oL,OF,I.free⟩ hs,by simpa using I.len⟩ ⟨_,hs,.inl rfl⟩
  .exact(hs.2 b (QT (dS (rT e) I.ok.above))).trans (I.base.keep b o e n hb hx)
  .obtain⟨sl,e1⟩:=I.base.slot b o e n hb hx;exact⟨sl,(hs.2 b (QT (dS (rT e) I.ok.above))).trans e1⟩
  .obtain⟨o',e1⟩:=I.base.there b o e hx;exact⟨o',(hs.2 b (QT (dS (rT e) I.ok.above))).trans e1⟩
  .by_cases hj:j=i
   .subst hj;rw[hi]at e1;cases e1;rw[tQ yZ]at e2;cases e2;exact⟨u,r,.inl ⟨hk,by simp⟩⟩
   .rw[gV (UN hj)]at e2;obtain⟨u',r',q⟩:=hl j y v' e1 e2 e3;refine⟨u',r',?_⟩;rcases q with ⟨k,e⟩|⟨k,c,e,z⟩
    .refine .inl ⟨k,?_⟩;have:y≠x:=λe=>hj (o7 hN e1 (e▸hi));simp[this,e]
    .exact .inr ⟨k,c,e,z.sameBut hs (mh y c e)⟩
  .obtain⟨w',z⟩:=I.cell y c e;exact⟨w',z.sameBut hs (mh y c e)⟩
  .obtain⟨e,n,ne,nf,d⟩:=I.pin p hp;exact⟨(hs.2 p.1 ne).trans e,n,ne,nf,d⟩
 .have hfn:X.fn x=true:=by
   rcases hf with z|z
   .exact z
   .rw[z]at hk;cases hk
  obtain⟨c,hc⟩:=I.ok.has x (.inl hk);obtain⟨w',z⟩:=I.cell x c hc;refine wpAny_storeName_cell I.ok.kind hk hc z (λh' hc' hs=>?_);obtain⟨oc,hoc,PL⟩:=id z;refine h { s with heap:=h' } ⟨I.ok,I.os,I.bare,⟨λb o e n hb hx=>?_,λb o e n hb hx=>?_,I.base.free,λb o e hx=>?_,I.base.tups,I.base.jy,I.base.kg⟩,⟨m,hn.sameBut hs (UN (mh x c hc)),λj y v' e1 e2 e3=>?_⟩,λy c' e=>?_,I.free,I.fY,λp hp=>?_,tracked ⟨oc,hoc,I.fY x c hc⟩ hs,by simpa using I.len⟩ ⟨c,hs,.inr hc⟩
  .exact(hs.2 b (QT (dS (rT e) (I.ok.uv x c hfn hc)))).trans (I.base.keep b o e n hb hx)
  .obtain⟨sl,e1⟩:=I.base.slot b o e n hb hx;exact⟨sl,(hs.2 b (QT (dS (rT e) (I.ok.uv x c hfn hc)))).trans e1⟩
  .obtain⟨o',e1⟩:=I.base.there b o e hx;exact⟨o',(hs.2 b (QT (dS (rT e) (I.ok.uv x c hfn hc)))).trans e1⟩
  .by_cases hj:j=i
   .subst hj;rw[hi]at e1;cases e1;rw[tQ yZ]at e2;cases e2;exact⟨u,r,.inr ⟨.inl hk,c,hc,hc'⟩⟩
   .rw[gV (UN hj)]at e2;obtain⟨u',r',q⟩:=hl j y v' e1 e2 e3;refine⟨u',r',?_⟩;rcases q with q|⟨k,c',e,z'⟩
    .exact .inl q
    .refine .inr ⟨k,c',e,z'.sameBut hs ?_⟩;rintro rfl;exact hj (o7 hN e1 (I.ok.inj _ _ _ e hc▸hi))
  .by_cases hcc:c'=c
   .subst hcc;exact⟨_,hc'⟩
   .obtain⟨w2,z2⟩:=I.cell y c' e;exact⟨w2,z2.sameBut hs hcc⟩
  .obtain⟨e,n,ne,nf,d⟩:=I.pin p hp;refine⟨(hs.2 p.1 ?_).trans e,n,ne,nf,d⟩;intro q;rw[q,hoc]at e;have q':oc=p.2:=pV e;exact d w' (by rw[<-q'];exact PL)
def o8{M:Model}{A:Around}{E:Value->Shared->Prop}{i:Nat}{x:Str}{v:V}{u:Value}{Q:Unit->Shared->Prop}(I:Inv X pins σ H s)(hN:X.N.Nodup)(hi:X.N[i]?=some x)(hx:Loc X.env.scope x)(r:RelV v u)
  (h:∀s',Inv X pins (σ.set i (some v)) H s'->Q () s') (hf:X.fn x=true\/X.env.scope.names.lookup x=some .local:=by first|exact .inl rfl|exact .inr rfl|assumption):wpAny M A (storeName X.env x u) Q E s:=
 mj I hN hi hx r (λs' I' _=>h s' I') hf
def Inv.qc{s':Shared}{ch:List Addr}(I:Inv X pins σ H s)(ho:s'.os=s.os)(u:Un (frs X.stack) ch H H' s.heap s'.heap)(hok:dw X.prog X.w H' s'.heap)(hg:AllBare s'.gens)
  (hch:∀b∈ch,(b∈X.ex\/X.s₀.heap.objs.size<=b)/\b≠X.env.locals/\(∀x c,X.env.cells.lookup x=some c->c≠b)/\∀p∈X.pn++pins,p.1≠b):Inv X pins σ H' s':=by
 obtain⟨h',g',d',t',o'⟩:=s';have e:o'=s.os:=ho;subst e;exact I.call (g':=g') (t':=t') (d':=d') u hok hg hch
end
abbrev XK:=Value->Option Addr->Hp->Prop
abbrev St:=List (Option V)
abbrev VK:=V->Hp->Prop
abbrev TE:=St->Hp->VK->Prop
abbrev TT:=St->Hp->(Bool->Hp->Prop)->Prop
abbrev TA:=St->Hp->(List V->Hp->Prop)->Prop
structure Ends where
 nx:St->Hp->Prop
 rt:VK
 bk:St->Hp->Prop:=λ_ _=>False
 ct:St->Hp->Prop:=λ_ _=>False
abbrev TS:=Ends->St->Hp->Prop
def EP(X:Cx)(pins:List (Addr×Obj))(σ:St)(Q:VK)(u:Value)(s':Shared):Prop:=∃v H',Inv X pins σ H' s'/\RelV v u/\Q v H'
def TP(X:Cx)(pins:List (Addr×Obj))(σ:St)(Q:Bool->Hp->Prop)(b:Bool)(s':Shared):Prop:=∃H',Inv X pins σ H' s'/\Q b H'
def AP(X:Cx)(pins:List (Addr×Obj))(σ:St)(Q:List V->Hp->Prop)(us:List Value)(s':Shared):Prop:=∃vs H',Inv X pins σ H' s'/\Vals vs us/\Q vs H'
def SP(X:Cx)(pins:List (Addr×Obj))(D:Ends)(f:Flow)(s':Shared):Prop:=
 match f with
 |.next=>∃σ' H',Inv X pins σ' H' s'/\D.nx σ' H'
 |.brk=>∃σ' H',Inv X pins σ' H' s'/\D.bk σ' H'
 |.cont=>∃σ' H',Inv X pins σ' H' s'/\D.ct σ' H'
 |.ret u=>∃v σ' H',Inv X pins σ' H' s'/\RelV v u/\D.rt v H'
def PE(X:Cx)(e:Expr)(t:TE):Prop:=
 ∀(pins:List (Addr×Obj)) (s:Shared) (σ:St) (H:Hp) (Q:VK),Inv X pins σ H s->t σ H Q->wpAny (model X.prog X.w) X.A (eval e X.env) (EP X pins σ Q) X.xe s
def PT(X:Cx)(e:Expr)(t:TT):Prop:=
 ∀(pins:List (Addr×Obj)) (s:Shared) (σ:St) (H:Hp) (Q:Bool->Hp->Prop),Inv X pins σ H s->t σ H Q->wpAny (model X.prog X.w) X.A (isTrue e X.env (eval e X.env)) (TP X pins σ Q) X.xe s
def PW(X:Cx)(e:Expr)(t:TT):Prop:=
 ∀(whole:Sem Value) (pins:List (Addr×Obj)) (s:Shared) (σ:St) (H:Hp) (Q:Bool->Hp->Prop),Inv X pins σ H s->t σ H Q->wpAny (model X.prog X.w) X.A (isTrue e X.env whole) (TP X pins σ Q) X.xe s
def PW.pt{X:Cx}{e:Expr}{t:TT}(h:PW X e t):PT X e t:=h _
def PA(X:Cx)(es:List Expr)(t:TA):Prop:=
 ∀(pos:Pos) (pins:List (Addr×Obj)) (s:Shared) (σ:St) (H:Hp) (Q:List V->Hp->Prop),Inv X pins σ H s->t σ H Q->wpAny (model X.prog X.w) X.A (spliced (backTo pos (starEach es X.env))) (AP X pins σ Q) X.xe s
def PS(X:Cx)(st:Stmt)(t:TS):Prop:=
 ∀(pins:List (Addr×Obj)) (s:Shared) (σ:St) (H:Hp) (D:Ends),Inv X pins σ H s->t D σ H->wpAny (model X.prog X.w) X.A (exec st X.env) (SP X pins D) X.xe s
def gj(X:Cx)(st:List Stmt)(t:TS):Prop:=
 ∀(pins:List (Addr×Obj)) (s:Shared) (σ:St) (H:Hp) (D:Ends),Inv X pins σ H s->t D σ H->wpAny (model X.prog X.w) X.A (execs st X.env) (SP X pins D) X.xe s
def aQ{α:Type}{t:Sem α}{Q Q':α->Shared->Prop}{M:Model}{A:Around}{E:Value->Shared->Prop}{s:Shared}(h:wpAny M A t Q E s)(hQ:∀a s,Q a s->Q' a s):wpAny M A t Q' E s:=E9 h hQ λ_ _ x=>x
section
variable{X:Cx}
def bin{a b:Expr}{ta tb:TE}(ha:PE X a ta)(hb:PE X b tb){pins:List (Addr×Obj)}{s:Shared}{σ:St}{H:Hp}{R:V->V->Hp->Prop}(I:Inv X pins σ H s)(h:ta σ H λx H1=>tb σ H1 λy H2=>R x y H2)
  {α:Type} {Q:α->Shared->Prop} {f:Value->Value->Sem α}
  (hf:∀v u s2 x y H2,Inv X pins σ H2 s2->RelV x v->RelV y u->R x y H2->wpAny (model X.prog X.w) X.A (f v u) Q X.xe s2) :
  wpAny (model X.prog X.w) X.A (eval a X.env) (λv s₁=>wpAny (model X.prog X.w) X.A (eval b X.env) (λu s₂=>wpAny (model X.prog X.w) X.A (f v u) Q X.xe s₂) X.xe s₁) X.xe s:=by
 refine aQ (ha pins s σ H _ I h) λv s1 ⟨x,H1,I1,r1,q1⟩=>?_;refine aQ (hb pins s1 σ H1 _ I1 q1) λu s2 ⟨y,H2,I2,r2,q2⟩=>?_;exact hf v u s2 x y H2 I2 r1 r2 q2
noncomputable def Im(i:Nat):TE:=λσ H Q=>∃v,σ[i]?=some (some v)/\Q v H
noncomputable def tC(v:V):TE:=λ_ H Q=>Q v H
def qd {i:Nat}{x:Str}{pos:Pos}(hN:X.N[i]?=some x) (hv:rZ X.env.scope x) (hd:(x==("__debug__" : Str))=false:=by decide) (hcd:(x==("__classdict__" : Str))=false:=by decide):PE X (.Name x pos) (Im i):=by
 intro pins s σ H Q I h;obtain⟨v,e,h⟩:=h;obtain⟨m,hn,hl⟩:=I.loc;obtain⟨u,r,l⟩:=hl i x v hN e hv;have fin:EP X pins σ Q u s:=⟨v,H,I,r,h⟩
 rcases l with ⟨hk,hm⟩|⟨hk,c,hc,hcell⟩
 .exact wpAny_Name (wpAny_loadName_local I.ok.kind hk hn hm fin) hd
 .rcases hk with hk|hk
  .exact wpAny_Name (wpAny_loadName_cell I.ok.kind hk hc hcell fin) hd
  .exact wpAny_Name (wpAny_loadName_free I.ok.kind hk hc hcell fin hcd) hd
def Io{i j pos}:PE X (.Constant (.int i) j pos) (tC (.int i)):=λ_ _ _ H _ I h=>wpAny_Constant_int ⟨.int i,H,I.tok _,⟨_,rfl⟩,h⟩
def t7{b j pos}:PE X (.Constant (.bool b) j pos) (tC (.bl b)):=λ_ _ _ H _ I h=>Constant_bool ⟨.bl b,H,I,rfl,h⟩
def As{j pos}:PE X (.Constant .none j pos) (tC .aO):=λ_ _ _ H _ I h=>Constant_none ⟨.aO,H,I,rfl,h⟩
def uw{x j pos}:PE X (.Constant (.str x) j pos) (tC (.str x)):=λ_ _ _ H _ I h=>Calls.Constant_str ⟨.str x,H,I.tok _,⟨_,rfl⟩,h⟩
def Gl(X:Cx)(x:Str):Prop:=X.env.kindOf x=some .globalImplicit
def nH{E:Value->Shared->Prop}{pins:List (Addr×Obj)}{s:Shared}{σ:St}{H:Hp}{x:Str}{u:Value}{pos:Pos}{Q:Value->Shared->Prop}(I:Inv X pins σ H s)(hg:Gl X x)(hm:X.mg x=some u)(h:Q u s)
  (hd:(x==("__debug__" : Str))=false:=by decide):wpAny (model X.prog X.w) X.A (eval (.Name x pos) X.env) Q E s:=
 UM I.ok.kind hg (VX (by rw[I.ok.glob];exact I.mod.glob.keeps I.bk) hm h) hd
def mz{E:Value->Shared->Prop}{pins:List (Addr×Obj)}{s:Shared}{σ:St}{H:Hp}{x:Str}{u:Value}{pos:Pos}{Q:Value->Shared->Prop}(I:Inv X pins σ H s)(hg:Gl X x)(hm:X.mg x=none)(hv:bootBuiltins x=some u)(h:Q u s)
  (hn:x≠"__name__" :=by decide) (hd:(x==("__debug__" : Str))=false:=by decide):wpAny (model X.prog X.w) X.A (eval (.Name x pos) X.env) Q E s:=by
 obtain⟨mb,h1,h2⟩:=I.mod.blt;exact UM I.ok.kind hg (Calls.loadGlobal_builtin (by rw[I.ok.glob];exact I.mod.glob.keeps I.bk) hm (by rw[I.ok.blt];exact h1.keeps I.bk) ((h2 x hn).trans hv) h) hd
def jr {x:Str}{v:V}{u:Value}{pos:Pos}(hg:Gl X x) (hm:X.mg x=some u) (r:RelV v u) (hd:(x==("__debug__" : Str))=false:=by decide):PE X (.Name x pos) (tC v):=
 λ_ _ _ H _ I h=>nH I hg hm ⟨v,H,I,r,h⟩ hd
def wZ {x:Str}{v:V}{u:Value}{pos:Pos}(hg:Gl X x) (hm:X.mg x=none) (hv:bootBuiltins x=some u) (r:RelV v u) (hn:x≠"__name__" :=by decide) (hd:(x==("__debug__" : Str))=false:=by decide):PE X (.Name x pos) (tC v):=
 λ_ _ _ H _ I h=>mz I hg hm hv ⟨v,H,I,r,h⟩ hn hd
variable{a b:Expr}{ta tb:TE}{pos:Pos}
def PC(X:Cx)(op:CmpOp)(a b:Expr)(t:TE):Prop:=
 ∀(pins:List (Addr×Obj)) (s:Shared) (σ:St) (H:Hp) (Q:VK),Inv X pins σ H s->t σ H Q->
  wpAny (model X.prog X.w) X.A (eval a X.env) (λv s₁=>wpAny (model X.prog X.w) X.A (eval b X.env) (λu s₂=>wpAny (model X.prog X.w) X.A (compareOp op v u) (EP X pins σ Q) X.xe s₂) X.xe s₁) X.xe s
def CB(b:Expr){op:CmpOp}(h:op≠.In)(h2:op≠.NotIn):behindInMarks op b=false:=by
 have e1:(op==CmpOp.In)=false:=by cases op<;>first|rfl|exact absurd rfl h
 have e2:(op==CmpOp.NotIn)=false:=by cases op<;>first|rfl|exact absurd rfl h2
 cases b<;>simp[behindInMarks,e1,e2]
noncomputable def tB(t:TE):TT:=λσ H Q=>t σ H λx H1=>∃c,x=.bl c/\Q c H1
def Ip{op:CmpOp}{t:TE}(h:PC X op a b t)(h1:behindInMarks op b=false:=by first|exact CB _ (by decide) (by decide)|rfl):PT X (.Compare a [op] [b] pos) (tB t):=by
 intro pins s σ H Q I hw;refine Wb (aQ (h pins s σ H _ I hw) λv s1 h1=>aQ h1 λu s2 h2=>aQ h2 λc s3 ⟨x,H1,I1,r1,q1⟩=>?_) h1;obtain⟨d,rfl,q⟩:=q1;cases r1;exact Ue ⟨H1,I1,q⟩
def Iq{e:Expr}{t:TE}(h:PE X e t)(he:∀whole,isTrue e X.env whole=(do let v <-whole;standAt e.pos;holding [v] (truthy v)):=by intro _;rfl):PT X e (tB t):=by
 intro pins s σ H Q I hw;refine isTrue_plain (aQ (h pins s σ H _ I hw) λv s1 ⟨x,H1,I1,r1,q1⟩=>?_) (he _);obtain⟨d,rfl,q⟩:=q1;cases r1;exact Ue ⟨H1,I1,q⟩
variable{tA Ec:TT}{rest:List Expr}
noncomputable def PM(t u:TT):TT:=λσ H Q=>t σ H λc H1=>if c=true then u σ H1 Q else Q false H1
noncomputable def Q8(t u:TT):TT:=λσ H Q=>t σ H λc H1=>if c=true then Q true H1 else u σ H1 Q
noncomputable def PN(t:TT):TT:=λσ H Q=>t σ H λc H1=>Q (!c) H1
def w9(ha:PT X a tA):PW X (.BoolOp .And [a] pos) tA:=by
 intro wh pins s σ H Q I h;refine isTrue_and (aQ (ha pins s σ H Q I h) λc s1 e=>?_);cases c with
 |true=>exact isTrue_and_nil e
 |false=>exact e
def Ir(ha:PT X a tA):PW X (.BoolOp .Or [a] pos) tA:=by
 intro wh pins s σ H Q I h;refine isTrue_or (aQ (ha pins s σ H Q I h) λc s1 e=>?_);cases c with
 |false=>exact isTrue_or_nil e
 |true=>exact e
def Au(ha:PT X a tA)(hb:PW X (.BoolOp .And (b :: rest) pos) Ec):PW X (.BoolOp .And (a :: b :: rest) pos) (PM tA Ec):=by
 intro wh pins s σ H Q I h;refine isTrue_and (aQ (ha pins s σ H _ I h) λc s1 ⟨H1,I1,q1⟩=>?_);cases c with
 |true=>exact hb wh pins s1 σ H1 Q I1 q1
 |false=>exact⟨H1,I1,q1⟩
def M4(ha:PT X a tA)(hb:PW X (.BoolOp .Or (b :: rest) pos) Ec):PW X (.BoolOp .Or (a :: b :: rest) pos) (Q8 tA Ec):=by
 intro wh pins s σ H Q I h;refine isTrue_or (aQ (ha pins s σ H _ I h) λc s1 ⟨H1,I1,q1⟩=>?_);cases c with
 |true=>exact⟨H1,I1,q1⟩
 |false=>exact hb wh pins s1 σ H1 Q I1 q1
def Iu(ha:PT X a tA):PT X (.UnaryOp .Not a pos) (PN tA):=by
 intro pins s σ H Q I h;exact isTrue_not (ha pins s σ H (λc H1=>Q (!c) H1) I h)
noncomputable def M5(ta tb:TE):TE:=λσ H Q=>ta σ H λx H1=>∃c,x=.bl c/\if c=true then tb σ H1 Q else Q (.bl false) H1
def Iv{op}{t:TE}(h:PE X a t):PE X (.BoolOp op [a] pos) t:=λpins s σ H Q I hw=>BoolOp_one (h pins s σ H Q I hw)
def Iw(ha:PE X a ta)(hb:PE X (.BoolOp .And (b :: rest) pos) tb):PE X (.BoolOp .And (a :: b :: rest) pos) (M5 ta tb):=by
 intro pins s σ H Q I h;refine BoolOp_and (aQ (ha pins s σ H _ I h) λv s1 ⟨x,H1,I1,r1,q1⟩=>?_);obtain⟨c,rfl,q1⟩:=q1;cases r1;refine Ue ?_;cases c with
 |true=>exact hb pins s1 σ H1 Q I1 q1
 |false=>exact⟨.bl false,H1,I1,rfl,q1⟩
noncomputable def Q9(t:TT)(ta tb:TE):TE:=λσ H Q=>t σ H λc H1=>if c=true then ta σ H1 Q else tb σ H1 Q
def CC{c:Expr}(hc:PT X c tA)(ha:PE X a ta)(hb:PE X b tb):PE X (.IfExp c a b pos) (Q9 tA ta tb):=by
 intro pins s σ H Q I h;refine wpAny_IfExp (aQ (hc pins s σ H _ I h) λd s1 ⟨H1,I1,q1⟩=>?_);cases d with
 |true=>exact ha pins s1 σ H1 Q I1 q1
 |false=>exact hb pins s1 σ H1 Q I1 q1
end
def eU(K:PySem.W.Frag)(H:Hp)(a:Addr)(xs:List V):Prop:=
 Rd H a (.lst xs)\/
  ∃(o:Obj) (its:Array Value) (n:Nat),K.lookup a=some o/\o.cls=.type "list" /\o.dict=none/\o.data=.seq its n/\its.size<=sizeLine/\Vals xs its.toList
def dz(K:PySem.W.Frag)(H:Hp)(a:Addr)(xs:List V):Prop:=
 Rd H a (.tup xs)\/
  ∃(o:Obj) (its:Array Value) (n:Nat),K.lookup a=some o/\o.cls=.type "tuple" /\o.data=.seq its n/\its.size<=sizeLine/\Vals xs its.toList
noncomputable def PR:Value->Option V
 |.none=>some .aO
 |.bool b=>some (.bl b)
 |.int i _=>some (.int i)
 |.str x _=>some (.str x)
 |.bytes b _=>some (.An b)
 |.float b _=>some (.wV b)
 |.ref a=>some (.ref a)
 |.type n=>some (.ty n)
 |_=>none
def RelV.abs{x:V}{u:Value}(r:RelV x u):PR u=some x:=by
 cases x with
 |aO=>cases r;rfl
 |bl _=>cases r;rfl
 |int _=>obtain⟨t,rfl⟩:=r;rfl
 |str _=>obtain⟨t,rfl⟩:=r;rfl
 |An _=>obtain⟨t,rfl⟩:=r;rfl
 |wV _=>obtain⟨t,rfl⟩:=r;rfl
 |ref _=>cases r;rfl
 |ty _=>cases r;rfl
theorem RelV.inj{x y:V}{u:Value}(r:RelV x u)(q:RelV y u):x=y:=pV (r.abs.symm.trans q.abs)
theorem Vals.inj:∀{xs ys:List V}{us:List Value},Vals xs us->Vals ys us->xs=ys
 |_,_,_,.nil,.nil=>rfl
 |_,_,_,.cons r t,.cons r' t'=>by rw[r.inj r',Vals.inj t t']
section
variable{X:Cx}{pins:List (Addr×Obj)}{σ:St}{H:Hp}{s:Shared}{a:Addr}{xs ys:List V}
def eU.of{K:PySem.W.Frag}(h:H a=some (.lst xs)):eU K H a xs:=.inl (.inl h)
def dz.of{K:PySem.W.Frag}(h:H a=some (.tup xs)):dz K H a xs:=.inl (.inl h)
def Inv.list(I:Inv X pins σ H s)(h:eU X.K H a xs):∃its:List Value,Vals xs its/\PlainL s.heap a its.toArray/\xs.length<=sizeLine:=by
 rcases h with h|⟨o,its,n,hk,hc,hd,hs,hz,r⟩
 .obtain⟨z,its,n,r,e⟩:=h.ok I.hok;exact⟨its,r,⟨_,n,e,rfl,rfl,rfl⟩,z⟩
 .refine⟨its.toList,r,⟨o,n,I.dY a o hk,hc,hd,by simpa using hs⟩,?_⟩;have e:=r.length;simp only[UO]at e;omega
def Inv.tuple(I:Inv X pins σ H s)(h:dz X.K H a xs):∃its:List Value,Vals xs its/\IsTup s.heap a its.toArray/\xs.length<=sizeLine:=by
 rcases h with h|⟨o,its,n,hk,hc,hs,hz,r⟩
 .obtain⟨z,its,r,p⟩:=h.ok I.hok;exact⟨its,r,p,z⟩
 .refine⟨its.toList,r,⟨o,I.dY a o hk,hc,n,by simpa using hs⟩,?_⟩;have e:=r.length;simp only[UO]at e;omega
def Inv.CD(I:Inv X pins σ H s)(h:eU X.K H a xs)(h':eU X.K H a ys):xs=ys:=by
 obtain⟨its,r,⟨o,n,e,_,_,d⟩,_⟩:=I.list h;obtain⟨its',r',⟨o',n',e',_,_,d'⟩,_⟩:=I.list h';rw[e]at e';cases e';rw[d]at d';injection d' with d1 _
 have:its=its':=by simpa using Pc Array.toList d1
 subst this;exact r.inj r'
def Inv.mC(I:Inv X pins σ H s)(h:dz X.K H a xs)(h':dz X.K H a ys):xs=ys:=by
 obtain⟨its,r,⟨o,e,_,n,d⟩,_⟩:=I.tuple h;obtain⟨its',r',⟨o',e',_,n',d'⟩,_⟩:=I.tuple h';rw[e]at e';cases e';rw[d]at d';injection d' with d1 _
 have:its=its':=by simpa using Pc Array.toList d1
 subst this;exact r.inj r'
end
abbrev Cx.fM(X:Cx)(E:Value->Shared->Prop):Cx:={ X with xe:=E }
abbrev Cx.cT(X:Cx):Cx:=X.fM λ_ _=>False
theorem Cx.Ok.fM{X:Cx}(ok:X.Ok)(E:Value->Shared->Prop):(X.fM E).Ok:=
 ⟨ok.mod,ok.kind,ok.glob,ok.blt,ok.above,ok.inj,ok.has,ok.uv,ok.hd,ok.frames,ok.stk,ok.wX,ok.bs,ok.qb,ok.o6,ok.lZ,ok.iL,ok.r8⟩
def Cx.Ok.dP{X:Cx}{E:Value->Shared->Prop}(ok:(X.fM E).Ok):X.Ok:=
 ⟨ok.mod,ok.kind,ok.glob,ok.blt,ok.above,ok.inj,ok.has,ok.uv,ok.hd,ok.frames,ok.stk,ok.wX,ok.bs,ok.qb,ok.o6,ok.lZ,ok.iL,ok.r8⟩
section
variable{X:Cx}{pins:List (Addr×Obj)}{σ:St}{H:Hp}{s:Shared}{E:Value->Shared->Prop}
theorem Inv.fM(I:Inv X pins σ H s)(E:Value->Shared->Prop):Inv (X.fM E) pins σ H s:=⟨I.ok.fM E,I.os,I.bare,I.base,I.loc,I.cell,I.free,I.fY,I.pin,I.hok,I.len⟩
theorem Inv.dP(I:Inv (X.fM E) pins σ H s):Inv X pins σ H s:=⟨I.ok.dP,I.os,I.bare,I.base,I.loc,I.cell,I.free,I.fY,I.pin,I.hok,I.len⟩
theorem SP.dP{D:Ends}{f:Flow}{s':Shared}(h:SP (X.fM E) pins D f s'):SP X pins D f s':=by
 cases f with
 |next=>obtain⟨σ',H',I,q⟩:=h;exact⟨σ',H',I.dP,q⟩
 |brk=>obtain⟨σ',H',I,q⟩:=h;exact⟨σ',H',I.dP,q⟩
 |cont=>obtain⟨σ',H',I,q⟩:=h;exact⟨σ',H',I.dP,q⟩
 |ret u=>obtain⟨v,σ',H',I,r,q⟩:=h;exact⟨v,σ',H',I.dP,r,q⟩
theorem PE.cT{e:Expr}{t:TE}(h:PE X.cT e t):PE X e t:=λpins s σ H Q I hw=>
 E9 (h pins s σ H Q (I.fM _) hw) (λ_ _ ⟨v,H',I',r,q⟩=>⟨v,H',I'.dP,r,q⟩) λ_ _ z=>False.elim z
theorem PT.cT{e:Expr}{t:TT}(h:PT X.cT e t):PT X e t:=λpins s σ H Q I hw=>
 E9 (h pins s σ H Q (I.fM _) hw) (λ_ _ ⟨H',I',q⟩=>⟨H',I'.dP,q⟩) λ_ _ z=>False.elim z
theorem gj.cT{st:List Stmt}{t:TS}(h:gj X.cT st t):gj X st t:=λpins s σ H D I hw=>
 E9 (h pins s σ H D (I.fM _) hw) (λ_ _ q=>q.dP) λ_ _ z=>False.elim z
end
section
variable{X:Cx}{st:Stmt}{rest:List Stmt}{t u:TS}{e:Expr}{te:TE}{pos:Pos}
noncomputable def M6:TS:=λD σ H=>D.nx σ H
noncomputable def PU(t u:TS):TS:=λD σ H=>t { D with nx:=u D } σ H
def xg:gj X [] M6:=λ_ _ σ H _ I h=>VZ ⟨σ,H,I,h⟩
def kX(h1:PS X st t)(h2:gj X rest u):gj X (st :: rest) (PU t u):=by
 intro pins s σ H D I h;refine Va (aQ (h1 pins s σ H { D with nx:=u D } I h) λf s1 q=>?_);cases f with
 |next=>
  obtain⟨σ',H',I',q⟩:=q;exact h2 pins s1 σ' H' D I' q
 |ret v=>exact q
 |brk=>exact q
 |cont=>exact q
def xj(h1:PS X st t):gj X [st] t:=by
 intro pins s σ H D I h;refine Va (aQ (h1 pins s σ H D I h) λf s1 q=>?_);cases f with
 |next=>exact VZ q
 |ret v=>exact q
 |brk=>exact q
 |cont=>exact q
def Inv.quiet{pins:List (Addr×Obj)}{σ:St}{H:Hp}{s:Shared}(I:Inv X pins σ H s):interactive X.env=false:=by simp[interactive,I.ok.kind]
noncomputable def M7(te:TE):TS:=λD σ H=>te σ H λ_ H1=>D.nx σ H1
def Fy(he:PE X e te)(hs:swapsWith e none pos.line X.env=pure false:=by rfl):PS X (.Expr e pos) (M7 te):=by
 intro pins s σ H D I h;exact wpAny_Expr_any (aQ (he pins s σ H _ I h) λv s1 ⟨x,H1,I1,r1,q1⟩=>⟨σ,H1,I1,q1⟩) I.quiet hs
noncomputable def PV(te:TE):TS:=λD σ H=>te σ H D.rt
def uy(he:PE X e te):PS X (.Return (some e) pos) (PV te):=by
 intro pins s σ H D I h;exact wpAny_Return_some (aQ (he pins s σ H _ I h) λv s1 ⟨x,H1,I1,r1,q1⟩=>⟨x,σ,H1,I1,r1,q1⟩)
noncomputable def PX(c:TT)(t u:TS):TS:=λD σ H=>c σ H λb H1=>if b=true then t D σ H1 else u D σ H1
def y9{c:Expr}{a b:List Stmt}{tc:TT}(hc:PT X c tc)(ha:gj X a t)(hb:gj X b u):PS X (.If c a b pos) (PX tc t u):=by
 intro pins s σ H D I h;refine wpAny_If (aQ (hc pins s σ H _ I h) λd s1 ⟨H1,I1,q1⟩=>?_);cases d with
 |true=>exact ha pins s1 σ H1 D I1 q1
 |false=>exact hb pins s1 σ H1 D I1 q1
noncomputable def Iz:TS:=λ_ _ _=>False
def CF:PS X st Iz:=λ_ _ _ _ _ _ h=>h.elim
end
abbrev TG:=V->St->Hp->(St->Hp->Prop)->Prop
abbrev sd:=List V->St->Hp->(St->Hp->Prop)->Prop
def PG(X:Cx)(target:Expr)(t:TG):Prop:=
 ∀(pins:List (Addr×Obj)) (s:Shared) (σ:St) (H:Hp) (v:V) (u:Value) (Q:St->Hp->Prop),Inv X pins σ H s->RelV v u->t v σ H Q->
  wpAny (model X.prog X.w) X.A (assign target X.env u) (λ_ s'=>∃σ' H',Inv X pins σ' H' s'/\Q σ' H') X.xe s
def oA(X:Cx)(ts:List Expr)(t:sd):Prop:=
 ∀(pins:List (Addr×Obj)) (s:Shared) (σ:St) (H:Hp) (vs:List V) (us:List Value) (Q:St->Hp->Prop),Inv X pins σ H s->Vals vs us->t vs σ H Q->
  wpAny (model X.prog X.w) X.A (assignInOrder ((assignEach ts X.env).map (·.2)) us) (λ_ s'=>∃σ' H',Inv X pins σ' H' s'/\Q σ' H') X.xe s
section
variable{X:Cx}{pos:Pos}
noncomputable def Ed(i:Nat):TG:=λv σ H Q=>Q (σ.set i (some v)) H
def xq{i:Nat}{x:Str}(hN:X.N.Nodup)(hi:X.N[i]?=some x)(hx:Loc X.env.scope x)(hf:X.fn x=true\/X.env.scope.names.lookup x=some .local:=by first|exact .inl rfl|exact .inr rfl|assumption):PG X (.Name x pos) (Ed i):=by
 intro pins s σ H v u Q I r h;exact wpAny_assign_Name (o8 I hN hi hx r (λs' I'=>⟨_,H,I',h⟩) hf)
noncomputable def PY:sd:=λvs σ H Q=>vs=[]/\Q σ H
noncomputable def M8(t:TG)(u:sd):sd:=λvs σ H Q=>∃v r,vs=v :: r/\t v σ H λσ' H'=>u r σ' H' Q
def Fz:oA X [] PY:=by
 intro pins s σ H vs us Q I r h;obtain⟨e,h⟩:=h;subst e;cases r;exact assignInOrder_nil ⟨σ,H,I,h⟩
def CG{e:Expr}{es:List Expr}{t:TG}{u:sd}(h1:PG X e t)(h2:oA X es u)
  (hs:(assignEach (e :: es) X.env).map (·.2)=assign e X.env :: (assignEach es X.env).map (·.2):=by rfl):oA X (e :: es) (M8 t u):=by
 intro pins s σ H vs us Q I r h;obtain⟨v,vr,e1,h⟩:=h;subst e1;cases r with
 |cons r rr=>
  rw[hs];refine assignInOrder_cons (aQ (h1 pins s σ H _ _ _ I r h) λ_ s1 ⟨σ1,H1,I1,q1⟩=>?_);exact h2 pins s1 σ1 H1 _ _ Q I1 rr q1
noncomputable def PZ(K:PySem.W.Frag)(n:Nat)(t:sd):TG:=λv σ H Q=>∃a xs,v=.ref a/\dz K H a xs/\xs.length=n/\t xs σ H Q
def IA{es:List Expr}{k:Nat}{t:sd}{n:Nat}(hc:X.calm=true)(h:oA X es t)
  (hn:(assignEach es X.env).length=n:=by rfl) (hst:(assignEach es X.env).findIdx? (·.1)=none:=by rfl):PG X (.Tuple es k pos) (PZ X.K n t):=by
 intro pins s σ H v u Q I r hw;obtain⟨a,xs,e1,hq,hl,hw⟩:=hw;subst e1;cases r;obtain⟨its,rv,ht,hz⟩:=I.tuple hq;refine assign_Tuple_tuple (I.ok.hd hc) ht (by simp[hn,<-hl,rv.length]) hst λh' hx=>?_;have I1:Inv X pins σ H { s with heap:=h' }:=I.kept (t':=s.toks) λb o e=>hx b o (QT (rT e)) e;exact h pins _ σ H xs _ Q I1 (by simpa using rv) hw
noncomputable def P0(te:TE)(g:TG):TS:=λD σ H=>te σ H λx H1=>g x σ H1 D.nx
def qe{i:Nat}{x:Str}{e:Expr}{te:TE}{pos':Pos}(hN:X.N.Nodup)(hi:X.N[i]?=some x)(hx:Loc X.env.scope x)(he:PE X e te)(hs:swapsWith e (some (.Name x pos')) pos.line X.env=pure false:=by rfl)(hf:X.fn x=true\/X.env.scope.names.lookup x=some .local:=by first|exact .inl rfl|exact .inr rfl|assumption) :
  PS X (.Assign [.Name x pos'] e pos) (P0 te (Ed i)):=by
 intro pins s σ H D I h;refine wpAny_Assign_Name (aQ (he pins s σ H _ I h) λv s1 ⟨y,H1,I1,r1,q1⟩=>?_) hs;exact o8 I1 hN hi hx r1 (λs2 I2=>⟨_,H1,I2,q1⟩) hf
end
structure It where
 go:Nat->Hp->Prop
 Ef:Nat->Hp->V->Hp->Prop
 stop:Nat->Hp->Prop
def eX(X:Cx)(pins:List (Addr×Obj))(H:Hp)(b:Addr):Prop:=
 H b=none/\b≠X.env.locals/\b∉X.fs/\(b∈X.ex\/X.s₀.heap.objs.size<=b)/\(∀x c,X.env.cells.lookup x=some c->c≠b)/\∀p∈X.pn++pins,p.1≠b
def Inv.za{X:Cx}{pins:List (Addr×Obj)}{σ:St}{H H':Hp}{s:Shared}{b:Addr}(I:Inv X pins σ H s)(hb:s.heap.objs.size<=b)(hn:H' b=none):eX X pins H' b:=by
 refine⟨hn,Nat.ne_of_gt (dS I.lt hb),I.PK hb,.inr (HK I.sz hb),λx c e z=>?_,λp hp z=>?_⟩
 .obtain⟨v,q⟩:=I.cell x c e;exact absurd (dS q.lt (by rw[z];exact hb)) (Ud _)
 .exact absurd (dS (rT (I.pin p hp).1) (by rw[z];exact hb)) (Ud _)
structure Turn(P:Program)(w:World)(K:PySem.W.Frag)(tg:Expr)(J:It)(fp:List Addr)(it:Addr)(tn:Nat->Heap->Prop):Prop where
 mem:it∈fp
 obj:∀i h,tn i h->∀b∈fp,∃o,h.get? b=some o/\∀v,o.data≠.cell v
 keep:∀i h h',tn i h->(∀b∈fp,∀o,h.get? b=some o->h'.get? b=some o)->tn i h'
 item:∀(X:Cx),X.prog=P->X.w=w->X.K=K->X.calm=true->∀(i:Nat) (pins:List (Addr×Obj)) (s:Shared) (σ:St) (H:Hp) (E:Value->Shared->Prop),Inv X pins σ H s->(∀b∈fp,eX X pins H b)->tn i s.heap->J.go i H->
  wpAny (model P w) X.A (pyNext (.ref it)) (λr s1=>∃u,r=some u/\
   wpAny (model P w) X.A (letOwnedTupleGo tg (.ref it) u) (λ_ s2=>∃x H',Inv X pins σ H' s2/\RelV x u/\J.Ef i H x H'/\tn (i+1) s2.heap/\∀b∈fp,H' b=none) E s1) E s
 done:∀(X:Cx),X.prog=P->X.w=w->X.K=K->X.calm=true->∀(i:Nat) (pins:List (Addr×Obj)) (s:Shared) (σ:St) (H:Hp) (E:Value->Shared->Prop),Inv X pins σ H s->(∀b∈fp,eX X pins H b)->tn i s.heap->J.stop i H->
  wpAny (model P w) X.A (pyNext (.ref it)) (λr s1=>r=none/\Inv X pins σ H s1) E s
 self:∀(A:Around) (i:Nat) (s:Shared) (Q:Value->Shared->Prop) (E:Value->Shared->Prop),tn i s.heap->Q (.ref it) s->wpAny (model P w) A (pyIter (.ref it)) Q E s
abbrev TI:=St->Hp->(It->Hp->Prop)->Prop
def xr(X:Cx)(pins:List (Addr×Obj))(σ:St)(tg:Expr)(R:It->Hp->Prop)(itv:Value)(s2:Shared):Prop:=
 ∃(it:Addr) (fp:List Addr) (tn:Nat->Heap->Prop) (J:It) (H':Hp),itv=.ref it/\Inv X pins σ H' s2/\Turn X.prog X.w X.K tg J fp it tn/\tn 0 s2.heap/\(∀b∈fp,eX X pins H' b)/\R J H'
def PI(X:Cx)(tg iter:Expr)(wi:TI):Prop:=
 ∀(pins:List (Addr×Obj)) (s:Shared) (σ:St) (H:Hp) (R:It->Hp->Prop),Inv X pins σ H s->wi σ H R->
  wpAny (model X.prog X.w) X.A (eval iter X.env) (λv s1=>wpAny (model X.prog X.w) X.A (pyIter v) (xr X pins σ tg R) X.xe s1) X.xe s
def zb{M:Model}{A:Around}{E:Value->Shared->Prop}{s:Shared}{tg:Expr}{it:Addr}{u:Value}{o:Obj}{n:String}{vs:Array Value}{Q:Unit->Shared->Prop}(ho:s.heap.get? it=some o)(hc:o.cls=.type n)(hd:o.data=.fields vs)
    (hn:["enumerate","zip","dict_itemiterator","dict_reverseitemiterator","odict_iterator","itertools.zip_longest","itertools.pairwise"].contains n=false) (hQ:Q () s):wpAny M A (letOwnedTupleGo tg (.ref it) u) Q E s:=by
  unfold letOwnedTupleGo;cases tg<;>first
    |exact eS hQ
    | (cases u<;>first
        |exact eS hQ
        | (refine b8 (wpAny_load ho ?_)
           rw[hc,hd];show wpAny M A (if (["enumerate","zip","dict_itemiterator","dict_reverseitemiterator","odict_iterator","itertools.zip_longest","itertools.pairwise"].contains n&&vs[0]?==some (rawInt _))=true then _ else _) Q E s;rw[Cd (by intro h;rw[hn,Vr]at h;cases h)];exact eS hQ))
noncomputable def OG(K:PySem.W.Frag)(a:Addr):It:=
 ⟨λi H=>∃xs x,eU K H a xs/\xs[i]?=some x,λi H x H'=>H'=H/\∀xs,eU K H a xs->xs[i]?=some x,λi H=>∃xs,eU K H a xs/\xs.length<=i⟩
noncomputable def OH(K:PySem.W.Frag)(a:Addr):It:=
 ⟨λi H=>∃xs x,dz K H a xs/\xs[i]?=some x,λi H x H'=>H'=H/\∀xs,dz K H a xs->xs[i]?=some x,λi H=>∃xs,dz K H a xs/\xs.length<=i⟩
noncomputable def Av(lo:Int)(n:Nat):It:=⟨λi _=>i<n,λi H x H'=>H'=H/\x=.int (lo+i),λi _=>n<=i⟩
def Aw{P:Program}{w:World}{K:PySem.W.Frag}{tg:Expr}(a it:Addr):Turn P w K tg (OG K a) [it] it (λi h=>h.IsListIter it a i) where
 mem:=by simp
 obj:=λi h st b hb=>by
  have e:b=it:=by simpa using hb
  subst e;obtain⟨o,e,c,d⟩:=st;exact⟨o,e,λv z=>by rw[d]at z;cases z⟩
 keep:=λi h h' st k=>st.at λo e=>k it (by simp) o e
 item:=by
  intro X hP hw hK hc i pins s σ H E I hf st hg;subst hP hw hK;obtain⟨xs,x,hq,hx⟩:=hg;obtain⟨its,rv,p,hz⟩:=I.list hq;obtain⟨u,hu,ru⟩:=rv.get hx;obtain⟨f0,f1,f2,f3,f4,f5⟩:=hf it (by simp);refine wpAny_pyNext_list_item st p.isList (x:=u) (by simpa using hu) λh' st' sb=>?_;have I1:Inv X pins σ H { s with heap:=h' }:=I.turned (t':=s.toks) (λb o hb e=>(sb.2 b hb).trans e) f0 f1 f3 f4 f5;obtain⟨o,e,c,d⟩:=id st';exact⟨u,rfl,zb (s:={ s with heap:=h' }) e c d (by decide) ⟨x,H,I1,ru,⟨rfl,λys hy=>by rw[I.CD hy hq];exact hx⟩,st',λb hb=>(hf b hb).1⟩⟩
 done:=by
  intro X hP hw hK hc i pins s σ H E I hf st hg;subst hP hw hK;obtain⟨xs,hq,hx⟩:=hg;obtain⟨its,rv,p,hz⟩:=I.list hq;obtain⟨f0,f1,f2,f3,f4,f5⟩:=hf it (by simp);have hl:=rv.length;exact wpAny_pyNext_list_end (I.ok.hd hc) st p.isList (by simp;omega) λh' eb=>⟨rfl,I.turned (t':=s.toks) (λb o hb e=>eb b o hb e) f0 f1 f3 f4 f5⟩
 self:=λ_ _ _ _ _ st h=>wpAny_pyIter_listiter st h
def zc{P:Program}{w:World}{K:PySem.W.Frag}{tg:Expr}(a it:Addr):Turn P w K tg (OH K a) [it] it (λi h=>h.IsTupleIter it a i) where
 mem:=by simp
 obj:=λi h st b hb=>by
  have e:b=it:=by simpa using hb
  subst e;obtain⟨o,e,c,d⟩:=st;exact⟨o,e,λv z=>by rw[d]at z;cases z⟩
 keep:=λi h h' st k=>st.at λo e=>k it (by simp) o e
 item:=by
  intro X hP hw hK hc i pins s σ H E I hf st hg;subst hP hw hK;obtain⟨xs,x,hq,hx⟩:=hg;obtain⟨its,rv,p,hz⟩:=I.tuple hq;obtain⟨u,hu,ru⟩:=rv.get hx;obtain⟨f0,f1,f2,f3,f4,f5⟩:=hf it (by simp);refine wpAny_pyNext_tuple_item st (show s.heap.IsTuple a its.toArray from p) (x:=u) (by simpa using hu) λh' st' sb=>?_;have I1:Inv X pins σ H { s with heap:=h' }:=I.turned (t':=s.toks) (λb o hb e=>(sb.2 b hb).trans e) f0 f1 f3 f4 f5;obtain⟨o,e,c,d⟩:=id st';exact⟨u,rfl,zb (s:={ s with heap:=h' }) e c d (by decide) ⟨x,H,I1,ru,⟨rfl,λys hy=>by rw[I.mC hy hq];exact hx⟩,st',λb hb=>(hf b hb).1⟩⟩
 done:=by
  intro X hP hw hK hc i pins s σ H E I hf st hg;subst hP hw hK;obtain⟨xs,hq,hx⟩:=hg;obtain⟨its,rv,p,hz⟩:=I.tuple hq;obtain⟨f0,f1,f2,f3,f4,f5⟩:=hf it (by simp);have hl:=rv.length;exact wpAny_pyNext_tuple_end (I.ok.hd hc) st (show s.heap.IsTuple a its.toArray from p) (by simp;omega) λh' eb=>⟨rfl,I.turned (t':=s.toks) (λb o hb e=>eb b o hb e) f0 f1 f3 f4 f5⟩
 self:=λ_ _ _ _ _ st h=>wpAny_pyIter_tupleiter st h
def zd{P:Program}{w:World}{K:PySem.W.Frag}{tg:Expr}(it:Addr)(lo:Int)(n:Nat):Turn P w K tg (Av lo n) [it] it (λi h=>IsRangeIter h it (lo+(i:Nat)*1) ((n:Int) - (i:Nat)) 1) where
 mem:=by simp
 obj:=λi h st b hb=>by
  have e:b=it:=by simpa using hb
  subst e;exact⟨_,st,λv z=>by
   have z':Data.fields _=Data.cell v:=z;cases z'⟩
 keep:=λi h h' st k=>k it (by simp) _ st
 item:=by
  intro X hP hw hK hc i pins s σ H E I hf st hg;subst hP hw hK;obtain⟨f0,f1,f2,f3,f4,f5⟩:=hf it (by simp);have W:=Walks.range (prog:=X.prog) (w:=X.w) (I.ok.hd hc) it lo 1 n;refine W.item i s _ _ hg st λv h' tk hv st' kk=>?_;obtain⟨t,rfl⟩:=hv;have I1:Inv X pins σ H { s with heap:=h',toks:=tk }:=I.turned (λb o hb e=>kk b o (by simpa using hb) e) f0 f1 f3 f4 f5;refine⟨_,rfl,zb (s:={ s with heap:=h',toks:=tk }) (n:="range_iterator") st' rfl rfl (by decide) ⟨.int (lo+i),H,I1,⟨t,?_⟩,⟨rfl,rfl⟩,st',λb hb=>(hf b hb).1⟩⟩;rw[Int.mul_one]
 done:=by
  intro X hP hw hK hc i pins s σ H E I hf st hg;subst hP hw hK;obtain⟨f0,f1,f2,f3,f4,f5⟩:=hf it (by simp);exact wpAny_pyNext_range_end (I.ok.hd hc) st (by have:n<=i:=hg;omega) λh' eb=>⟨rfl,I.turned (t':=s.toks) (λb o hb e=>eb b o hb e) f0 f1 f3 f4 f5⟩
 self:=λ_ _ _ _ _ st h=>wpAny_pyIter_rangeiter st h
section
variable{X:Cx}{tg:Expr}
def uz{pins:List (Addr×Obj)}{σ:St}{H:Hp}{s:Shared}{R:It->Hp->Prop}{E:Value->Shared->Prop}{lo hi:Int}{t u v:Tok}{tk:Nat}(I:Inv X pins σ H s)(h1:-(2 ^ 62)<=lo)(h2:lo<2 ^ 62)(h3:-(2 ^ 62)<=hi)(h4:hi<2 ^ 62)
  (q:R (Av lo (hi - lo).toNat) H):wpAny (model X.prog X.w) X.A (pyIter (.ref s.heap.objs.size)) (xr X pins σ tg R) E { s with heap:=s.heap.push { cls:=.type "range",data:=.fields #[.int lo t,.int hi u,.int 1 v]},toks:=tk }:=by
 refine wpAny_pyIter_range (IsRange.new ..) (small_one h1 h2 h3 h4) ?_;have I1:Inv X pins σ H { s with heap:=s.heap.push { cls:=.type "range",data:=.fields #[.int lo t,.int hi u,.int 1 v]},toks:=tk }:=I.kept λb o e=>iR _ e;refine⟨(s.heap.push { cls:=.type "range",data:=.fields #[.int lo t,.int hi u,.int 1 v]}).objs.size,[(s.heap.push { cls:=.type "range",data:=.fields #[.int lo t,.int hi u,.int 1 v]}).objs.size],_,_,H,rfl,
  I1.kept (t':=tk) λb o e=>iR _ e,zd _ lo (hi - lo).toNat,?_,λb hb=>?_,q⟩
 .have e1:lo+((0:Nat):Int)*1=lo:=by simp
  have e2:(((hi - lo).toNat:Nat):Int) - ((0:Nat):Int)=Builtin.Range.rangeSize lo hi 1:=by rw[rangeSize_one];split<;>omega
  show IsRangeIter _ _ (lo+((0:Nat):Int)*1) ((((hi - lo).toNat:Nat):Int) - ((0:Nat):Int)) 1;rw[e1,e2];exact QS _ rfl
 .have e:b=(s.heap.push { cls:=.type "range",data:=.fields #[.int lo t,.int hi u,.int 1 v]}).objs.size:=by simpa using hb
  subst e;exact I1.za (qT _) (I1.hok.fresh (qT _))
def M9(ta:TA):TI:=λσ H R=>ta σ H λvs H1=>∃j:Int,vs=[.int j]/\-(2 ^ 62)<=j/\j<2 ^ 62/\R (Av 0 j.toNat) H1
def Na(ta:TA):TI:=λσ H R=>ta σ H λvs H1=>∃i j:Int,vs=[.int i,.int j]/\(-(2 ^ 62)<=i/\i<2 ^ 62/\-(2 ^ 62)<=j/\j<2 ^ 62)/\R (Av i (j - i).toNat) H1
def Ax {a:Expr}{ta:TA}{p pos:Pos}(hg:Gl X "range") (hm:X.mg "range" = none) (ha:PA X [a] ta) (hs:starEach [a] X.env=[(false,eval a X.env)]:=by rfl):PI X tg (.Call (.Name "range" p) [a] [] pos) (M9 ta):=by
 intro pins s σ H R I h;refine Call_ (mz I hg hm boot_range (UI (aQ (ha pos pins s σ H _ I h) λus s1 ⟨vs,H1,I1,r1,q1⟩=>?_) hs rfl));obtain⟨j,e,q1,q2,q⟩:=q1;subst e;cases r1 with
 |cons r rr=>
  cases rr;obtain⟨t,rfl⟩:=r;exact call_range_1 (uz I1 (by omega) (by omega) q1 q2 (by simpa using q))
def Ay {a b:Expr}{ta:TA}{p pos:Pos}(hg:Gl X "range") (hm:X.mg "range" = none) (ha:PA X [a,b] ta) (hs:starEach [a,b] X.env=[(false,eval a X.env),(false,eval b X.env)]:=by rfl) (hs2:starEach [b] X.env=[(false,eval b X.env)]:=by rfl) :
  PI X tg (.Call (.Name "range" p) [a,b] [] pos) (Na ta):=by
 intro pins s σ H R I h;refine Call_ (mz I hg hm boot_range (UI (aQ (ha pos pins s σ H _ I h) λus s1 ⟨vs,H1,I1,r1,q1⟩=>?_) (by rw[hs,hs2]) (by rw[hs2];rfl)));obtain⟨i,j,e,⟨q1,q2,q3,q4⟩,q⟩:=q1;subst e;cases r1 with
 |cons r rr=>
  cases rr with
  |cons r' rr=>
   cases rr;obtain⟨t,rfl⟩:=r;obtain⟨t',rfl⟩:=r';exact call_range_2 (uz I1 q1 q2 q3 q4 q)
noncomputable def P1(wi:TI)(g:TG)(tb:TS):TS:=λD σ H=>wi σ H λJ H1=>∃W:Nat->Nat->St->Hp->Prop,(∃m,W 0 m σ H1)/\∀i m σ H,W i m σ H->
 (J.stop i H/\D.nx σ H)\/(J.go i H/\∃N:St->Hp->Prop,(∀σ' H',N σ' H'->∃m',m'<m/\W (i+1) m' σ' H')/\∀x H',J.Ef i H x H'->g x σ H' λσ2 H2=>tb { D with nx:=N,ct:=N,bk:=D.nx } σ2 H2)
noncomputable def kB(fp:List Addr)(h:Heap):List (Addr×Obj):=fp.filterMap λb=>(h.get? b).map λo=>(b,o)
def fZ{fp:List Addr}{h:Heap}{b:Addr}{o:Obj}(hb:b∈fp)(e:h.get? b=some o):(b,o)∈kB fp h:=List.mem_filterMap.mpr ⟨b,hb,by rw[e];rfl⟩
def Az{fp:List Addr}{h:Heap}{p:Addr×Obj}(hp:p∈kB fp h):p.1∈fp/\h.get? p.1=some p.2:=by
 obtain⟨b,hb,e⟩:=List.mem_filterMap.mp hp;cases q:h.get? b with
 |none=>rw[q]at e;cases e
 |some o=>
  rw[q]at e;have e':(b,o)=p:=pV e;subst e';exact⟨hb,q⟩
def Inv.pinned{pins:List (Addr×Obj)}{σ:St}{H:Hp}{s:Shared}{fp:List Addr}(I:Inv X pins σ H s)(hf:∀b∈fp,eX X pins H b)(ho:∀b∈fp,∃o,s.heap.get? b=some o/\∀v,o.data≠.cell v):Inv X (pins++kB fp s.heap) σ H s:=
 I.wY λp hp=>(List.mem_append.mp hp).elim (λz=>I.pin p (L8 _ z)) λz=>by
  obtain⟨hb,e⟩:=Az z;obtain⟨f0,f1,f2,_⟩:=hf p.1 hb;obtain⟨o,e',d⟩:=ho p.1 hb;rw[e]at e';cases e';exact⟨e,f0,f1,f2,d⟩
def Inv.jz{pins pl:List (Addr×Obj)}{σ:St}{H:Hp}{s:Shared}(I:Inv X (pins++pl) σ H s):Inv X pins σ H s:=I.wY λp hp=>I.pin p (L8 _ (Wk _ hp))
def IB{iter:Expr}{body:List Stmt}{wi:TI}{g:TG}{tb:TS}{pos:Pos}(hp:PassesOwn (model X.prog X.w) X.A X.env X.xe)(hc:X.calm=true)(hi:PI X tg iter wi)(hg:PG X tg g)(hb:gj X body tb)
  (hs:∀x,foldedSetIterable iter X.env x=pure x:=by intro _;rfl):PS X (.For tg iter body [] pos) (P1 wi g tb):=by
 intro pins s σ H D I h;refine wpAny_For (aQ (hi pins s σ H _ I h) λv s1 h1=>aQ h1 λitv s2 h2=>?_) hs;obtain⟨it,fp,tn,J,H2,e,I2,T,st2,f2,W,⟨m0,w0⟩,turn⟩:=h2;subst e;have gZ:∀{H':Hp},(∀b∈fp,H' b=none)->∀b∈fp,eX X pins H' b:=λhn b hb=>⟨hn b hb,(f2 b hb).2⟩
 refine codeAny_forLoop_any (λn s'=>∃i σ' H',Inv X pins σ' H' s'/\tn i s'.heap/\(∀b∈fp,H' b=none)/\W i n σ' H') ?_ m0 ⟨0,σ,H2,I2,st2,λb hb=>(f2 b hb).1,w0⟩;rintro n s3 ⟨i,σ3,H3,I3,st3,bz,w3⟩;rcases turn i n σ3 H3 w3 with ⟨stop,qn⟩|⟨go,N,hN,step⟩
 .refine UP hp (aQ (T.done X rfl rfl rfl hc i pins s3 σ3 H3 X.xe I3 (gZ bz) st3 stop) λr s4 ⟨hr,I4⟩=>?_);subst hr;exact VZ ⟨σ3,H3,I4,qn⟩
 .refine UP hp (aQ (T.item X rfl rfl rfl hc i pins s3 σ3 H3 X.xe I3 (gZ bz) st3 go) λr s4 ⟨u,hr,h4⟩=>?_);subst hr;refine UP hp (aQ h4 λ_ s5 ⟨x,H5,I5,r5,y5,sf,mD⟩=>?_);have IC:=I5.pinned (gZ mD) (T.obj _ _ sf);refine UP hp (aQ (hg _ s5 σ3 H5 x u _ IC r5 (step x H5 y5)) λ_ s6 ⟨Ra,H6,I6,q6⟩=>?_);refine UP hp (aQ (hb _ s6 Ra H6 _ I6 q6) λf s7 q7=>?_);have again:∀{mE:St} {H7:Hp},Inv X (pins++kB fp s5.heap) mE H7 s7->N mE H7->∃m,m<n/\∃i σ' H',Inv X pins σ' H' s7/\tn i s7.heap/\(∀b∈fp,H' b=none)/\W i m σ' H':=λ{mE H7} I7 n7=>by
   obtain⟨m',hm,w7⟩:=hN mE H7 n7;refine⟨m',hm,i+1,mE,H7,I7.jz,T.keep _ _ _ sf λb hb o e=>(I7.pin (b,o) (L8 _ (L8 _ (fZ hb e)))).1,λb hb=>?_,w7⟩;obtain⟨o,e,d⟩:=T.obj _ _ sf b hb;exact(I7.pin (b,o) (L8 _ (L8 _ (fZ hb e)))).2.1
  cases f with
  |next=>obtain⟨mE,H7,I7,n7⟩:=q7;exact again I7 n7
  |cont=>obtain⟨mE,H7,I7,n7⟩:=q7;exact again I7 n7
  |brk=>obtain⟨mE,H7,I7,q7⟩:=q7;exact⟨mE,H7,I7.jz,q7⟩
  |ret v=>obtain⟨x7,mE,H7,I7,r7,q7⟩:=q7;exact⟨x7,mE,H7,I7.jz,r7,q7⟩
end
abbrev R2:=V->V->Hp->VK->Prop
def cz(X:Cx)(f:Value->Value->Sem Value)(r:R2):Prop:=
 ∀(pins:List (Addr×Obj)) (s:Shared) (σ:St) (H:Hp) (x y:V) (v u:Value) (Q:VK),Inv X pins σ H s->RelV x v->RelV y u->r x y H Q->
  wpAny (model X.prog X.w) X.A (f v u) (EP X pins σ Q) X.xe s
def ID(X:Cx)(f:Value->Sem Value)(r:V->Hp->VK->Prop):Prop:=
 ∀(pins:List (Addr×Obj)) (s:Shared) (σ:St) (H:Hp) (x:V) (v:Value) (Q:VK),Inv X pins σ H s->RelV x v->r x H Q->
  wpAny (model X.prog X.w) X.A (f v) (EP X pins σ Q) X.xe s
def eY(X:Cx)(f:Value)(r:List V->Hp->VK->Prop):Prop:=
 ∀(pins:List (Addr×Obj)) (s:Shared) (σ:St) (H:Hp) (xs:List V) (us:List Value) (Q:VK),Inv X pins σ H s->Vals xs us->r xs H Q->
  wpAny (model X.prog X.w) X.A (call f us) (EP X pins σ Q) X.xe s
def P4(X:Cx)(r:V->Hp->(Bool->Hp->Prop)->Prop):Prop:=
 ∀(pins:List (Addr×Obj)) (s:Shared) (σ:St) (H:Hp) (x:V) (v:Value) (Q:Bool->Hp->Prop),Inv X pins σ H s->RelV x v->r x H Q->
  wpAny (model X.prog X.w) X.A (truthy v) (TP X pins σ Q) X.xe s
noncomputable def AA(r:R2)(ta tb:TE):TE:=λσ H Q=>ta σ H λx H1=>tb σ H1 λy H2=>r x y H2 Q
noncomputable def Rb(r:V->Hp->VK->Prop)(ta:TE):TE:=λσ H Q=>ta σ H λx H1=>r x H1 Q
noncomputable def rI(C:Int->Int->Prop)(g:Int->Int->V):R2:=λx y H Q=>∃i j,x=.int i/\y=.int j/\C i j/\Q (g i j) H
noncomputable def xu(g:Int->Int->V):R2:=λx y H Q=>∃i j,x=.int i/\y=.int j/\Q (g i j) H
def rU(g:Int->V):V->Hp->VK->Prop:=λx H Q=>∃i,x=.int i/\Q (g i) H
section
variable{X:Cx}{a b:Expr}{ta tb:TE}{pos:Pos}
def ze(ha:PE X a ta)(hb:PE X b tb){pins:List (Addr×Obj)}{s:Shared}{σ:St}{H:Hp}{R:V->V->Hp->Prop}(I:Inv X pins σ H s)
  (h:ta σ H λx H1=>tb σ H1 λy H2=>R x y H2) {Q:Value->Shared->Prop} {f:Value->Value->Sem Value}
  (hf:∀v u s2 x y H2,Inv X pins σ H2 s2->RelV x v->RelV y u->R x y H2->wpAny (model X.prog X.w) X.A (f v u) Q X.xe s2) :
  wpAny (model X.prog X.w) X.A (eval a X.env) (λv s₁=>wpAny (model X.prog X.w) X.A (eval b X.env) (λu s₂=>wpAny (model X.prog X.w) X.A (f v u) Q X.xe s₂) X.xe s₁) X.xe s:=by
 refine aQ (ha pins s σ H _ I h) λv s1 ⟨x,H1,I1,r1,q1⟩=>?_;refine aQ (hb pins s1 σ H1 _ I1 q1) λu s2 ⟨y,H2,I2,r2,q2⟩=>?_;exact hf v u s2 x y H2 I2 r1 r2 q2
def Nb{op:Operator}{r:R2}(ho:cz X (binaryOp op) r)(ha:PE X a ta)(hb:PE X b tb):PE X (.BinOp a op b pos) (AA r ta tb):=by
 intro pins s σ H Q I h;exact wpAny_BinOp (ze ha hb I h λv u s2 x y H2 I2 rx ry q=>ho pins s2 σ H2 x y v u Q I2 rx ry q)
def Nc{op:UnaryOp}{r:V->Hp->VK->Prop}(ho:ID X (unaryOp op) r)(ha:PE X a ta):PE X (.UnaryOp op a pos) (Rb r ta):=by
 intro pins s σ H Q I h;exact UnaryOp_ (aQ (ha pins s σ H _ I h) λv s1 ⟨x,H1,I1,r1,q1⟩=>ho pins s1 σ H1 x v Q I1 r1 q1)
def IE{f:Value->Value->Sem Value}{C:Int->Int->Prop}{g:Int->Int->Int}
  (rule:∀(i j:Int) (t u:Tok) (s:Shared) (Q:Value->Shared->Prop) (E:Value->Shared->Prop),C i j->Q (.int (g i j) s.toks) { s with toks:=s.toks+1 }->wpAny (model X.prog X.w) X.A (f (.int i t) (.int j u)) Q E s) :
  cz X f (rI C λi j=>.int (g i j)):=by
 intro pins s σ H x y v u Q I rx ry h;obtain⟨i,j,rfl,rfl,hc,q⟩:=h;obtain⟨t,rfl⟩:=rx;obtain⟨t',rfl⟩:=ry;exact rule i j t t' s _ _ hc ⟨.int (g i j),H,I.tok _,⟨_,rfl⟩,q⟩
def P5{f:Value->Value->Sem Value}{g:Int->Int->Int}
  (rule:∀(i j:Int) (t u:Tok) (s:Shared) (Q:Value->Shared->Prop) (E:Value->Shared->Prop),Q (.int (g i j) s.toks) { s with toks:=s.toks+1 }->wpAny (model X.prog X.w) X.A (f (.int i t) (.int j u)) Q E s) :
  cz X f (xu λi j=>.int (g i j)):=by
 intro pins s σ H x y v u Q I rx ry h;obtain⟨i,j,rfl,rfl,q⟩:=h;obtain⟨t,rfl⟩:=rx;obtain⟨t',rfl⟩:=ry;exact rule i j t t' s _ _ ⟨.int (g i j),H,I.tok _,⟨_,rfl⟩,q⟩
def IF{f:Value->Value->Sem Value}{g:Int->Int->Bool}
  (rule:∀(i j:Int) (t u:Tok) (s:Shared) (Q:Value->Shared->Prop) (E:Value->Shared->Prop),Q (.bool (g i j)) s->wpAny (model X.prog X.w) X.A (f (.int i t) (.int j u)) Q E s) :
  cz X f (xu λi j=>.bl (g i j)):=by
 intro pins s σ H x y v u Q I rx ry h;obtain⟨i,j,rfl,rfl,q⟩:=h;obtain⟨t,rfl⟩:=rx;obtain⟨t',rfl⟩:=ry;exact rule i j t t' s _ _ ⟨.bl (g i j),H,I,rfl,q⟩
def P6(i j:Int):Prop:=0<j/\j<1073741824
def CH(i j:Int):Prop:=(-(2 ^ 64)<i/\i<2 ^ 64)\/(-(2 ^ 64)<j/\j<2 ^ 64)
def CH.ok{i j:Int}(h:CH i j):IntMulOk i j:=by
 rcases h with ⟨h1,h2⟩|⟨h1,h2⟩
 .exact .of_left (intBits_le_64 h1 h2)
 .exact .of_right (intBits_le_64 h1 h2)
def IG:cz X (binaryOp .Add) (xu λi j=>.int (i+j)):=P5 λ_ _ _ _ _ _ _ q=>add_int q
def II:cz X (binaryOp .Mult) (rI CH λi j=>.int (i*j)):=IE λ_ _ _ _ _ _ _ hc q=>mul_int q hc.ok
def FA:cz X (binaryOp .FloorDiv) (rI P6 λi j=>.int (i / j)):=IE λi j _ _ _ _ _ hc q=>by
 have h1:(0:Int)<j:=hc.1;have h2:j<1073741824:=hc.2;exact floordiv_int (by omega) (by rw[Int.fdiv_eq_ediv_of_nonneg i (by omega)];exact q) (.inl (PyProof.noPylong_small (by omega)))
def IJ:cz X (binaryOp .Mod) (rI (λ_ j=>0<j) λi j=>.int (i % j)):=IE λi j _ _ _ _ _ hc q=>by
 have h1:(0:Int)<j:=hc;exact mod_int' (by omega) (by rw[Int.fmod_eq_emod_of_nonneg i (by omega)];exact q)
def Rc{f:Value->Sem Value}{g:Int->Int}
  (rule:∀(i:Int) (t:Tok) (s:Shared) (Q:Value->Shared->Prop) (E:Value->Shared->Prop),Q (.int (g i) s.toks) { s with toks:=s.toks+1 }->wpAny (model X.prog X.w) X.A (f (.int i t)) Q E s) :
  ID X f (rU λi=>.int (g i)):=by
 intro pins s σ H x v Q I rx h;obtain⟨i,rfl,q⟩:=h;obtain⟨t,rfl⟩:=rx;exact rule i t s _ _ ⟨.int (g i),H,I.tok _,⟨_,rfl⟩,q⟩
def IK:ID X (unaryOp .USub) (rU λi=>.int (-i)):=Rc λ_ _ _ _ _ q=>neg_int q
end
section
variable{X:Cx}{a b c:Expr}{ta tb tc:TE}{pos:Pos}
def Nd:cz X (compareOp .LtE) (xu λi j=>.bl (decide (i<=j))):=IF λ_ _ _ _ _ _ _ q=>le_int q
def Nf:cz X (compareOp .Gt) (xu λi j=>.bl (decide (j<i))):=IF λ_ _ _ _ _ _ _ q=>gt_int q
def jA(b:Expr){op:CmpOp}(h:op≠.In:=by decide)(h2:op≠.NotIn:=by decide):behindInMarks op b=false:=by
 have e1:(op==CmpOp.In)=false:=by cases op<;>first|rfl|exact absurd rfl h
 have e2:(op==CmpOp.NotIn)=false:=by cases op<;>first|rfl|exact absurd rfl h2
 cases b<;>simp[behindInMarks,e1,e2]
def FD{op:CmpOp}{r:R2}(ho:cz X (compareOp op) r)(ha:PE X a ta)(hb:PE X b tb)(hm:behindInMarks op b=false):PE X (.Compare a [op] [b] pos) (AA r ta tb):=by
 intro pins s σ H Q I h;exact wpAny_Compare1 (ze ha hb I h λv u s2 x y H2 I2 rx ry q=>ho pins s2 σ H2 x y v u Q I2 rx ry q) hm
noncomputable def zf(t:TE):TT:=λσ H Q=>t σ H λx H'=>∃k,x=.bl k/\Q k H'
def xx{op:CmpOp}{r:R2}(ho:cz X (compareOp op) r)(ha:PE X a ta)(hb:PE X b tb)(hm:behindInMarks op b=false):PT X (.Compare a [op] [b] pos) (zf (AA r ta tb)):=by
 intro pins s σ H Q I h;refine Wb (aQ (ha pins s σ H _ I h) λv s1 ⟨x,H1,I1,r1,q1⟩=>aQ (hb pins s1 σ H1 _ I1 q1) λu s2 ⟨y,H2,I2,r2,q2⟩=>
  aQ (ho pins s2 σ H2 x y v u _ I2 r1 r2 q2) λc s3 ⟨z,H3,I3,r3,k,e,q3⟩=>?_) hm
 subst e;cases r3;exact Ue ⟨H3,I3,q3⟩
noncomputable def uA(r r':R2)(ta tb tc:TE):TE:=λσ H Q=>ta σ H λx H1=>tb σ H1 λy H2=>r x y H2 λz H3=>∃k,z=.bl k/\
 (if k=true then tc σ H3 λw' H4=>r' y w' H4 Q else Q (.bl false) H3)
def CJ{op op':CmpOp}{r r':R2}(ho:cz X (compareOp op) r)(ho':cz X (compareOp op') r')(ha:PE X a ta)(hb:PE X b tb)(hc:PE X c tc)
  (hm:lastMarks [op,op'] [b,c]=false:=by with_unfolding_all rfl):PE X (.Compare a [op,op'] [b,c] pos) (uA r r' ta tb tc):=by
 intro pins s σ H Q I h;refine Compare_chain (aQ (ha pins s σ H _ I h) λv s1 ⟨x,H1,I1,r1,q1⟩=>chain_link (aQ (hb pins s1 σ H1 _ I1 q1) λu s2 ⟨y,H2,I2,r2,q2⟩=>
  aQ (ho pins s2 σ H2 x y v u _ I2 r1 r2 q2) λd s3 ⟨z,H3,I3,r3,k,e,q3⟩=>?_)) hm
 subst e;cases r3;refine Ue ?_;cases k with
 |false=>exact ite_ff ⟨.bl false,H3,I3,rfl,q3⟩
 |true=>exact ite_tt (chain_last (aQ (hc pins s3 σ H3 _ I3 q3) λw' s4 ⟨z',H4,I4,r4,q4⟩=>ho' pins s4 σ H4 y z' u w' Q I4 r2 r4 q4))
def CK{op op':CmpOp}{r r':R2}(ho:cz X (compareOp op) r)(ho':cz X (compareOp op') r')(ha:PE X a ta)(hb:PE X b tb)(hc:PE X c tc)
  (hm:lastMarks [op,op'] [b,c]=false:=by with_unfolding_all rfl):PT X (.Compare a [op,op'] [b,c] pos) (zf (uA r r' ta tb tc)):=by
 intro pins s σ H Q I h;refine isTrue_chain (aQ (ha pins s σ H _ I h) λv s1 ⟨x,H1,I1,r1,q1⟩=>test_link (aQ (hb pins s1 σ H1 _ I1 q1) λu s2 ⟨y,H2,I2,r2,q2⟩=>
  aQ (ho pins s2 σ H2 x y v u _ I2 r1 r2 q2) λd s3 ⟨z,H3,I3,r3,k,e,q3⟩=>?_)) hm
 subst e;cases r3;refine Ue ?_;cases k with
 |false=>
  obtain⟨k',e',q'⟩:=q3;cases e';exact ite_ff ⟨H3,I3,q'⟩
 |true=>
  refine ite_tt (test_last (aQ (hc pins s3 σ H3 _ I3 q3) λw' s4 ⟨z',H4,I4,r4,q4⟩=>aQ (ho' pins s4 σ H4 y z' u w' _ I4 r2 r4 q4) λd' s5 ⟨z2,H5,I5,r5,k2,e2,q5⟩=>?_));subst e2;cases r5;exact Ue ⟨H5,I5,q5⟩
def CL(K:PySem.W.Frag)(x:V)(H:Hp)(k:Bool):Prop:=
 match x with
 |.aO=>k=false
 |.bl b=>k=b
 |.int i=>k=(i != 0)
 |.str y=>y.length<=sizeLine/\k=((y.length:Int) != 0)
 |.An y=>y.size<=sizeLine/\k=((y.size:Int) != 0)
 |.ref p=>(∃xs,eU K H p xs/\k = !xs.isEmpty)\/(∃xs,dz K H p xs/\k = !xs.isEmpty)\/∃kvs,H p=some (.dK kvs)/\k = !kvs.isEmpty
 |_=>False
def zg{κ:Type}{kvs:List (κ×V)}{vs:List (κ×Value)}(r:KV kvs vs):(!vs.isEmpty) = !kvs.isEmpty:=by
 cases r<;>rfl
def qf{xs:List V}{its:List Value}(r:Vals xs its):(!its.toArray.isEmpty) = !xs.isEmpty:=by
 cases r<;>simp
def kC:(sizeLine:Nat)<2 ^ 63:=by rw[UD];decide
def IL:P4 X (λx H Q=>∃k,CL X.K x H k/\Q k H):=by
 intro pins s σ H x v Q I rx h;obtain⟨k,e,q⟩:=h;have hl:=kC;have hs:sizeLine=16777216:=UD;cases x with
 |aO=>
  cases rx;have e':k=false:=e;subst e';exact truthy_none ⟨H,I,q⟩
 |bl b=>
  cases rx;have e':k=b:=e;subst e';exact Ue ⟨H,I,q⟩
 |int i=>
  obtain⟨t,rfl⟩:=rx;have e':k=(i != 0):=e;subst e';exact PySem.P.truthy_int ⟨H,I,q⟩
 |str y=>
  obtain⟨t,rfl⟩:=rx;obtain⟨hy,e'⟩:y.length<=sizeLine/\k=((y.length:Int) != 0):=e;subst e';exact PySem.P.truthy_str (by omega) ⟨H,I.tok _,q⟩
 |An y=>
  obtain⟨t,rfl⟩:=rx;obtain⟨hy,e'⟩:y.size<=sizeLine/\k=((y.size:Int) != 0):=e;subst e';exact PySem.W.truthy_bytes (by omega) ⟨H,I.tok _,q⟩
 |ref p=>
  cases rx;have e':(∃xs,eU X.K H p xs/\k = !xs.isEmpty)\/(∃xs,dz X.K H p xs/\k = !xs.isEmpty)\/∃kvs,H p=some (.dK kvs)/\k = !kvs.isEmpty:=e;rcases e' with ⟨xs,hx,e'⟩|⟨xs,hx,e'⟩|⟨kvs,hx,e'⟩
  .subst e';obtain⟨its,r,pl,hz⟩:=I.list hx;have hlen:=r.length;exact wpAny_truthy_list pl.isList (by simp only[lI];omega) ⟨H,I.tok _,by rw[qf r];exact q⟩
  .subst e';obtain⟨its,r,pl,hz⟩:=I.tuple hx;have hlen:=r.length;exact truthy_tuple pl (by simp only[lI];omega) ⟨H,I.tok _,by rw[qf r];exact q⟩
  .subst e';obtain⟨hz,hS,vs,r,m⟩:kvs.length<=sizeLine/\(p==sysModules)=false/\∃vs,KV kvs vs/\s.heap.DictOf (cJ X.prog X.w) p vs:=I.hok p _ hx;have hlen:kvs.length=vs.length:=Paired.length r;exact wpAny_truthy_dict hS m (by omega) ⟨H,I.tok _,by rw[zg r];exact q⟩
 |_=>exact(show False from e).elim
def CM(ha:PE X a ta)(he:∀whole,isTrue a X.env whole=(do let v <-whole;standAt a.pos;holding [v] (truthy v))) :
  PT X a (λσ H Q=>ta σ H λx H'=>∃k,CL X.K x H' k/\Q k H'):=by
 intro pins s σ H Q I h;exact isTrue_plain (aQ (ha pins s σ H _ I h) λv s1 ⟨x,H1,I1,r1,q1⟩=>IL pins s1 σ H1 x v Q I1 r1 q1) (he _)
def zh:cz X (binaryOp .Add) (λx y H Q=>∃i j,x=.str i/\y=.str j/\i.length+j.length<=sizeLine/\Q (.str (i++j)) H):=by
 intro pins s σ H x y v u Q I rx ry h;obtain⟨i,j,rfl,rfl,hz,q⟩:=h;obtain⟨t,rfl⟩:=rx;obtain⟨t',rfl⟩:=ry;exact add_str (λt' tk=>⟨.str (i++j),H,I.tok _,⟨_,rfl⟩,q⟩) hz
def Vs{x:V}{us:List Value}(r:Vals [x] us):∃u,us=[u]/\RelV x u:=by
 cases r with
 |cons r1 r2=>cases r2;exact⟨_,rfl,r1⟩
def vals2{x y:V}{us:List Value}(r:Vals [x,y] us):∃u w',us=[u,w']/\RelV x u/\RelV y w':=by
 cases r with
 |cons r1 r2=>
  cases r2 with
  |cons r3 r4=>cases r4;exact⟨_,_,rfl,r1,r3⟩
end
structure CN(h:Heap)(x dx C:Addr)(mA:Str->Option Value):Prop where
 obj:h.get? x=some (PySem.W.instObj C dx)
 ns:h.Ns1 dx mA
 ne:dx≠x
def AB{h:Heap}{dx:Addr}{mA:Str->Option Value}(n:h.Ns1 dx mA):∃od,h.get? dx=some od/\∀name,PySem.W.lookIn name od=some (mA name):=by
 obtain⟨o,es,ep,ho,hd,hk,_,hm⟩:=n;refine⟨o,ho,λname=>?_⟩;have e:=hm name;unfold nsFind findBy at e;rw[<-Array.find?_toList]at e;unfold PySem.W.lookIn;rw[hd];dsimp only;split
 .rename_i y q;rw[q]at e;exact Pc some e
 .rename_i q;rw[q]at e;have a:es.toList.any (·.refKey)=false:=by
   rw[List.any_eq_false];intro y hy;obtain⟨z,t,hkey⟩:=hk y (Array.mem_toList_iff.mp hy);simp[DictEntry.refKey,hkey]
  have a':¬ es.toList.any (·.refKey)=true:=by rw[a];exact Vy
  rw[Cd a'];exact Pc some e
def CN.look{h:Heap}{x dx C:Addr}{mA:Str->Option Value}(I:CN h x dx C mA):∃od,PySem.W.InstAt h x (PySem.W.instObj C dx) C (some od)/\∀name,PySem.W.lookIn name od=some (mA name):=
 let ⟨od,ho,hl⟩:=AB I.ns
 ⟨od,⟨I.obj,rfl,rfl,ho⟩,hl⟩
def kU.some_of{v:V}{o:Option Value}(r:kU (some v) o):∃u,o=some u/\RelV v u:=by
 cases o with
 |none=>exact(show False from r).elim
 |some u=>exact⟨u,rfl,r⟩
section
variable{P:Program}{w:World}{H:Hp}{h:Heap}{a C dx:Addr}{fs:List (Str×V)}
def FE(hok:dw P w H h)(e:H a=some (.ins C dx fs)):∃mA,CN h a dx C mA/\(∀f,kU (fs.lookup f) (mA f))/\PySem.Within mA (fs.map (·.1))/\fs.length<=1000/\H dx=some (.own a):=by
 obtain⟨d,z,ne,ob,mA,n,r,q⟩:=(show b5 P w H h a (.ins C dx fs)from hok a _ e)
 exact⟨mA,⟨ob,n,ne⟩,r,q,z,d⟩
end
structure IM(K:PySem.W.Frag)(C:Addr):Prop where
 pg:PySem.W.plainGet K C Str.empty=true
 hd:PySem.W.hasDictIn K C=true
 po:PySem.W.plainOver K C=true
 sa:PySem.W.findIn K (.ref C) "__setattr__" = some (some (.builtin "object.__setattr__"))
def IM.get{K:PySem.W.Frag}{C:Addr}(c:IM K C)(f:Str):PySem.W.plainGet K C f=true:=c.pg
section
variable{X:Cx}{pins:List (Addr×Obj)}{σ:St}{H:Hp}{s:Shared}{A:Around}{E:Value->Shared->Prop}{Q:Value->Shared->Prop}{c:Value}{b:Bool}
inductive jb(K:PySem.W.Frag)(H:Hp):V->Value->Prop where
 |aO:jb K H .aO (.type "NoneType")
 |bl (x:Bool):jb K H (.bl x) (.type "bool")
 |int (i:Int):jb K H (.int i) (.type "int")
 |str (x:Str):jb K H (.str x) (.type "str")
 |wV (x:UInt64):jb K H (.wV x) (.type "float")
 |lst {a:Addr} {xs:List V} (e:H a=some (.lst xs)):jb K H (.ref a) (.type "list")
 |bB {a:Addr} {o:Obj} {xs:List V} (e:H a=some (.bB o (.lst xs))):jb K H (.ref a) (.type "list")
 |tup {a:Addr} {xs:List V} (e:H a=some (.tup xs)):jb K H (.ref a) (.type "tuple")
 |dK {a:Addr} {kvs:List (Key×V)} (e:H a=some (.dK kvs)):jb K H (.ref a) (.type "dict")
 |dT {a:Addr} {kvs:List (List Key×V)} (e:H a=some (.dT kvs)):jb K H (.ref a) (.type "dict")
 |ins {a C dx:Addr} {fs:List (Str×V)} (e:H a=some (.ins C dx fs)) (cl:IM K C) (ha:PySem.W.findIn K (.ref C) "__class__" = some (some (.builtin "object.__class__")))
   (hn:PySem.W.specialIn K (.builtin "object.__class__") "__get__" = some (some (.builtin "getset_descriptor.__get__"))) (htk:PySem.W.takesIn K (.builtin "object.__class__")=some true)
   (hm:PySem.W.mroIn K C (.type "object")=some true):jb K H (.ref a) (.ref C)
def jS{x:V}{u t:Value}(I:Inv X pins σ H s)(rx:RelV x u)(ty:jb X.K H x t)(e:PySem.W.kitOne X.K t c=some b)(h:∀tk,Q (.bool b) { s with toks:=tk }) :
  wpAny (model X.prog X.w) A (call (.builtin "isinstance") [u,c]) Q E s:=by
 cases ty with
 |aO=>cases (show u=Value.none from rx);exact Sb PySem.W.kitx_none I.dY True.intro e (λz=>nomatch z) h
 |bl y=>cases (show u=Value.bool y from rx);exact Sb PySem.W.kitx_bool I.dY True.intro e (λz=>nomatch z) h
 |int i=>obtain⟨t,q⟩:=(show ∃t,u=Value.int i t from rx);cases q;exact Sb PySem.W.kitx_int I.dY True.intro e (λz=>nomatch z) h
 |str y=>obtain⟨t,q⟩:=(show ∃t,u=Value.str y t from rx);cases q;exact Sb PySem.W.kitx_str I.dY True.intro e (λz=>nomatch z) h
 |wV y=>obtain⟨t,q⟩:=(show ∃t,u=Value.float y t from rx);cases q;exact Sb PySem.W.kitx_float I.dY True.intro e (λz=>nomatch z) h
 |@lst a xs ea=>
  cases (show u=Value.ref a from rx);obtain⟨_,_,n,_,h1⟩:=(show b5 X.prog X.w H s.heap a (.lst xs)from I.hok a _ ea)
  exact Sb VC I.dY ⟨_,h1,rfl⟩ e (λz=>nomatch z) h
 |@bB a ob xs ea=>
  cases (show u=Value.ref a from rx);obtain⟨_,_,_,n,_,h1⟩:=(show b5 X.prog X.w H s.heap a (.bB ob (.lst xs))from I.hok a _ ea)
  exact Sb VC I.dY ⟨_,h1,rfl⟩ e (λz=>nomatch z) h
 |@tup a xs ea=>
  cases (show u=Value.ref a from rx);obtain⟨_,_,_,p⟩:=(show b5 X.prog X.w H s.heap a (.tup xs)from I.hok a _ ea)
  obtain⟨o,h1,h2,_⟩:=p;exact Sb Wz I.dY ⟨o,h1,h2⟩ e (λz=>nomatch z) h
 |@dK a kvs ea=>
  cases (show u=Value.ref a from rx);obtain⟨_,_,vs,_,p⟩:=(show b5 X.prog X.w H s.heap a (.dK kvs)from I.hok a _ ea)
  obtain⟨o,es,ep,h1,h2,_⟩:=p;exact Sb WG I.dY ⟨o,h1,h2.1⟩ e (λz=>nomatch z) h
 |@dT a kvs ea=>
  cases (show u=Value.ref a from rx);obtain⟨_,_,xs,_,o,es,ep,h1,h2,_⟩:=(show b5 X.prog X.w H s.heap a (.dT kvs)from I.hok a _ ea)
  exact Sb WG I.dY ⟨o,h1,h2.1⟩ e (λz=>nomatch z) h
 |@ins a C dx fs ea cl ha hn htk hm=>
  cases (show u=Value.ref a from rx);obtain⟨mA,O,_⟩:=FE I.hok ea;obtain⟨od,J,_⟩:=O.look;exact Sb (PySem.W.kitx_own (cl.get _) cl.hd ha hn htk hm) I.dY J e (λz=>nomatch z) h
end
structure eZ(k:Nat)(A:Around):Prop where
 hd:A.handled=none
 dp:A.depth+3*k+5<recursionLimit
 un:A.units+16*k+200<cLine
theorem eZ.deeper{k:Nat}{A:Around}(r:eZ (k+1) A)(env:Env):eZ k (A.deeper env):=
 ⟨r.hd,by have:=r.dp;show A.depth+1+3*k+5<_;omega,by have:=r.un;show A.units+3+16*k+200<_;omega⟩
theorem eZ.depth{k:Nat}{A:Around}(r:eZ k A):A.depth<recursionLimit:=by have:=r.dp;omega
theorem eZ.units{k:Nat}{A:Around}(r:eZ k A):A.units+64<cLine:=by have:=r.un;omega
noncomputable def P7:TA:=λ_ H Q=>Q [] H
noncomputable def Ng(ta:TE)(tr:TA):TA:=λσ H Q=>ta σ H λx H1=>tr σ H1 λxs H2=>Q (x :: xs) H2
section
variable{X:Cx}{e:Expr}{es:List Expr}{te:TE}{t:TA}{pos:Pos}
def kD:PA X [] P7:=λ_ _ _ _ H Q I h=>Calls.spliced_nil ⟨[],H,I,.nil,h⟩
def cK(ha:PE X e te)(hr:PA X es t)(hs:starEach (e :: es) X.env=(false,eval e X.env) :: starEach es X.env:=by rfl):PA X (e :: es) (Ng te t):=by
 intro pos pins s σ H Q I h;rw[hs];show wpAny _ _ (spliced ((false,eval e X.env) :: backTo pos (starEach es X.env))) _ _ s;refine Calls.spliced_cons (aQ (ha pins s σ H _ I h) λu s1 ⟨x,H1,I1,r1,q1⟩=>?_);exact aQ (hr pos pins s1 σ H1 _ I1 q1) λus s2 ⟨xs,H2,I2,r2,q2⟩=>⟨x :: xs,H2,I2,.cons r1 r2,q2⟩
def P8(t:TA):TE:=λσ H Q=>t σ H λxs H1=>xs.length<=sizeLine/\∀p,H1 p=none->Q (.ref p) (upd H1 p (.tup xs))
def P9(t:TA):TE:=λσ H Q=>t σ H λxs H1=>xs.length<=sizeLine/\∀p,H1 p=none->Q (.ref p) (upd H1 p (.lst xs))
def AD{x1}(h:PA X es t):PE X (.Tuple es x1 pos) (P8 t):=by
 intro pins s σ H Q I hq;refine wpAny_Tuple_spliced (aQ (h pos pins s σ H _ I hq) λus s1 ⟨xs,H1,I1,r,z,q⟩=>⟨by rw[<-r.length];exact z,?_⟩);have hf:H1 s1.heap.objs.size=none:=I1.hok.fresh (qT _);refine⟨.ref s1.heap.objs.size,upd H1 s1.heap.objs.size (.tup xs),I1.laid (t':=s1.toks) (λb u e=>iR _ e) (qT _) ?_,rfl,q _ hf⟩;exact⟨z,us,r,⟨_,QS _ rfl,rfl,_,rfl⟩⟩
def uB(h:PA X es t):PE X (.List es pos) (P9 t):=by
 intro pins s σ H Q I hq;refine wpAny_List_spliced (aQ (h pos pins s σ H _ I hq) λus s1 ⟨xs,H1,I1,r,z,q⟩=>⟨by rw[<-r.length];exact z,?_⟩);have hf:H1 s1.heap.objs.size=none:=I1.hok.fresh (qT _);refine⟨.ref s1.heap.objs.size,upd H1 s1.heap.objs.size (.lst xs),I1.laid (t':=s1.toks) (λb u e=>iR _ e) (qT _) ?_,rfl,q _ hf⟩;exact⟨z,us,0,r,QS _ rfl⟩
end
abbrev Sp:=List V->Hp->VK->XK->Prop
abbrev kE:=List Env->Hp->Shared->XK->Value->Shared->Prop
structure zj(P:Program)(w:World)(K:PySem.W.Frag)(mg:Str->Option Value)(base:Heap)(A:Around)(outer:List Env)(s:Shared)(H:Hp):Prop where
 frames:A.frames=some outer
 mod:Mod K mg base
 bs:∀b o,base.get? b=some o->s.heap.get? b=some o/\H b=none
 qb:base.objs.size<=s.heap.objs.size
 iL:s.heap.FunFrames base outer
 r8:∀b∈frs outer,H b=none
 hok:dw P w H s.heap
 bare:AllBare s.gens
def CE(outer:List Env)(P:Program)(w:World)(H:Hp)(s:Shared)(Q:VK)(u:Value)(s':Shared):Prop:=
 ∃v H',s'.os=s.os/\AllBare s'.gens/\Un (frs outer) [] H H' s.heap s'.heap/\dw P w H' s'.heap/\RelV v u/\Q v H'
def CR(CX:kE)(outer:List Env)(P:Program)(w:World)(H:Hp)(s:Shared)(Q:VK)(E:XK)(r:Result)(s':Shared):Prop:=
 match r with
 |.ok (.ret u)=>CE outer P w H s Q u s'
 |.ok _=>False
 |.error e=>CX outer H s E e s'
structure fc(P:Program)(w:World)(K:PySem.W.Frag)(mg:Str->Option Value)(base:Heap)(CX:kE)(k:Nat)(f:Addr)(fd:FuncData)(ps:List Str)(sp:Sp):Prop where
 len:∀vs H Q E,sp vs H Q E->vs.length=ps.length
 run:∀(A:Around) (outer:List Env) (s:Shared) (H:Hp) (args:Args) (us:List Value) (vs:List V) (Q:VK) (E:XK),eZ k A->zj P w K mg base A outer s H->BindsTo s fd args (ps.zip us)->Vals vs us->sp vs H Q E->
  codeAny (model P w) A (.call (.ref f) args) (CR CX outer P w H s Q E) s
section
variable{X:Cx}{pins:List (Addr×Obj)}{σ:St}{H:Hp}{s s':Shared}
def Inv.IP(I:Inv X pins σ H s):zj X.prog X.w X.K X.mg X.base X.A X.stack s H:=
 ⟨I.ok.frames,I.ok.mod,I.bs,HK I.ok.qb I.sz,I.stack,I.nG,I.hok,I.bare⟩
def Inv.after{Q:VK}{u:Value}(I:Inv X pins σ H s)(h:CE X.stack X.prog X.w H s Q u s'):EP X pins σ Q u s':=by
 obtain⟨v,H',os,bare,un,hok,r,q⟩:=h;obtain⟨hh,g,d,t,os'⟩:=s';obtain rfl:os'=s.os:=os;exact⟨v,H',I.call (h':=hh) (g':=g) (d':=d) (t':=t) (ch:=[]) un hok bare (λb z=>absurd z (by simp)),r,q⟩
end
noncomputable def Nh(sp:Sp)(jB:List V)(E:XK)(t:TA):TE:=λσ H Q=>t σ H λvs H1=>sp (vs++jB) H1 Q E
def Binds(K:PySem.W.Frag)(fd:FuncData)(ps:List Str)(ds:List Value):Prop:=
 ∀(s:Shared) (us:List Value),K.In s.heap->(us++ds).length=ps.length->BindsTo s fd ⟨us,[]⟩ (ps.zip (us++ds))
def Binds.all{K:PySem.W.Frag}{fd:FuncData}{ps:List Str}(h:∀us:List Value,us.length=ps.length->bindArgs fd ⟨us,[]⟩=pure (ps.zip us)):Binds K fd ps []:=λs us _ hl=>by
 rw[Ug]at hl ⊢;exact .of_eq (h us hl)
def Passes(CX:kE)(X:Cx)(E:XK):Prop:=∀(pins:List (Addr×Obj)) (σ:St) (H:Hp) (s:Shared) (e:Value) (s':Shared),Inv X pins σ H s->CX X.stack H s E e s'->X.xe e s'
section
variable{X:Cx}{CX:kE}{k:Nat}{f:Addr}{fd:FuncData}{ps:List Str}{sp:Sp}{jB:List V}{ds:List Value}{E:XK}{x:Str}{p pos:Pos}{e:Expr}{es:List Expr}{t:TA}
def IQ{pins:List (Addr×Obj)}{σ:St}{H:Hp}{s:Shared}{Q:VK}{us:List Value}{vs:List V}(F:fc X.prog X.w X.K X.mg X.base CX k f fd ps sp)(hr:eZ k X.A)(hb:Binds X.K fd ps ds)(hd:Vals jB ds)(hx:Passes CX X E)
  (I:Inv X pins σ H s) (r:Vals vs us) (h:sp (vs++jB) H Q E):wpAny (model X.prog X.w) X.A (call (.ref f) us) (EP X pins σ Q) X.xe s:=by
 have r2:Vals (vs++jB) (us++ds):=r.append hd;have hl:(us++ds).length=ps.length:=by rw[<-r2.length];exact F.len _ _ _ _ h
 refine Wh (VM (F.run X.A X.stack s H ⟨us,[]⟩ (us++ds) (vs++jB) Q E hr I.IP (hb s us I.dY hl) r2 h) λr s' hq=>?_);cases r with
 |error e=>exact hx pins σ H s e s' I hq
 |ok fl=>
  cases fl with
  |ret u=>exact I.after hq
  |next=>exact False.elim hq
  |brk=>exact False.elim hq
  |cont=>exact False.elim hq
def qW(F:fc X.prog X.w X.K X.mg X.base CX k f fd ps sp)(hr:eZ k X.A)(hg:Gl X x)(hm:X.mg x=some (.ref f))(hk:PySem.W.keepIn X.K (.ref f)=true)(hb:Binds X.K fd ps ds)(hd:Vals jB ds)(hx:Passes CX X E)
  (ha:PA X (e :: es) t) (hdb:(x==("__debug__" : Str))=false:=by decide) (he:starEach (e :: es) X.env=(false,eval e X.env) :: starEach es X.env:=by rfl) (hpl:(backTo pos (starEach es X.env)).any (·.1)=false:=by rfl) :
  PE X (.Call (.Name x p) (e :: es) [] pos) (Nh sp jB E t):=by
 intro pins s σ H Q I h;refine UT (nH I hg hm ?_ hdb);refine WA (h₀:=X.base) I.ok.mod.cS hk (aQ (ha pos pins s σ H _ I h) λus s1 ⟨vs,H1,I1,r,q⟩=>⟨I1.dY,?_⟩) he hpl;exact IQ F hr hb hd hx I1 r q
end
structure bJ(N P:List Str)(sc:Scope):Prop where
 kind:sc.kind=.function
 co:sc.isCoroutine=false
 gen:sc.isGenerator=false
 nd:N.Nodup
 pre:N.take P.length=P
 par:∀x∈P,sc.names.lookup x=some .local\/sc.names.lookup x=some .cell
 IS:∀y∈sc.names,y.2≠.free
theorem sj{kindOf:Str->Option NameKind}{x:Str}:∀{binds:List (Str×Value)}{m:Str->Option Value},(∀v,(x,v)∉binds)->bindL kindOf binds m x=m x
 |[],_,_=>rfl
 | (n,v) :: r,m,h=>by
  unfold bindL;rw[sj λw hw=>h w (Mi _ hw)];split
  .have:x≠n:=by rintro rfl;exact h v T7
   simp[this]
  .rfl
theorem sq{kindOf:Str->Option NameKind}{x:Str}:∀{binds:List (Str×Value)}{m:Str->Option Value},(∀v,(x,v)∉binds)->bindC kindOf binds m x=m x
 |[],_,_=>rfl
 | (n,v) :: r,m,h=>by
  unfold bindC;rw[sq λw hw=>h w (Mi _ hw)];split
  .rfl
  .have:x≠n:=by rintro rfl;exact h v T7
   simp[this]
theorem sy{kindOf:Str->Option NameKind}{x:Str}{v:Value}:∀{P:List Str}{vs:List Value}{i:Nat}{m:Str->Option Value},P.Nodup->P[i]?=some x->vs[i]?=some v->kindOf x=some .local->
  bindL kindOf (P.zip vs) m x=some v
 |[],_,_,_,_,h,_,_=>by simp at h
 |_ :: _,[],_,_,_,_,h,_=>by simp at h
 |p :: P,w :: vs,0,m,nd,h1,h2,hk=>by
  simp at h1 h2;subst h1;subst h2;show bindL kindOf ((p,w) :: P.zip vs) m p=_;unfold bindL;rw[sj λv hv=>(List.nodup_cons.mp nd).1 (V1 hv).1,cG hk];simp
 |p :: P,w :: vs,i+1,m,nd,h1,h2,hk=>by
  show bindL kindOf ((p,w) :: P.zip vs) m x=_;unfold bindL;exact sy (i:=i) (List.nodup_cons.mp nd).2 (by simpa using h1) (by simpa using h2) hk
theorem sA{kindOf:Str->Option NameKind}{x:Str}{v:Value}:∀{P:List Str}{vs:List Value}{i:Nat}{m:Str->Option Value},P.Nodup->P[i]?=some x->vs[i]?=some v->kindOf x≠some .local->
  bindC kindOf (P.zip vs) m x=some v
 |[],_,_,_,_,h,_,_=>by simp at h
 |_ :: _,[],_,_,_,_,h,_=>by simp at h
 |p :: P,w :: vs,0,m,nd,h1,h2,hk=>by
  simp at h1 h2;subst h1;subst h2;show bindC kindOf ((p,w) :: P.zip vs) m p=_;unfold bindC;rw[sq λv hv=>(List.nodup_cons.mp nd).1 (V1 hv).1,Cd hk];simp
 |p :: P,w :: vs,i+1,m,nd,h1,h2,hk=>by
  show bindC kindOf ((p,w) :: P.zip vs) m x=_;unfold bindC;exact sA (i:=i) (List.nodup_cons.mp nd).2 (by simpa using h1) (by simpa using h2) hk
noncomputable def start(N:List Str)(vs:List V):St:=vs.map some++List.replicate (N.length - vs.length) none
noncomputable def kh(CX:kE)(P:Program)(w:World)(K:PySem.W.Frag)(mg:Str->Option Value)(base:Heap)(N:List Str)(qual:Str)(scope:Scope)(f:Addr)(cd:Value)(A:Around)(outer:List Env)(s:Shared)(H:Hp)(E:XK):Cx where
 prog:=P
 w:=w
 K:=K
 mg:=mg
 base:=base
 A:=A.deeper (envOfC qual scope s.heap.objs.size f cd)
 N:=N
 s₀:=s
 H₀:=H
 env:=envOfC qual scope s.heap.objs.size f cd
 outer:=outer
 stack:=envOfC qual scope s.heap.objs.size f cd :: outer
 ex:=[]
 calm:=true
 fn:=λ_=>true
 pn:=[]
 xe:=λe s'=>wpAny (model P w) (A.deeper (envOfC qual scope s.heap.objs.size f cd)) (leaving (envOfC qual scope s.heap.objs.size f cd) e) (λ_ s''=>CX outer H s E e s'') (λe' s''=>CX outer H s E e' s'') s'
def uC{sc:Scope}{n:Nat}{x:Str}(h:sc.names.lookup x=some .cell):∃c,(cellsFrom n sc.names []).lookup x=some c:=by
 have q:=V5 sc.names n [] (.inl h);exact Option.isSome_iff_exists.mp q
def AE{CX:kE}{P:Program}{w:World}{K:PySem.W.Frag}{mg:Str->Option Value}{base:Heap}{N ps:List Str}{qual:Str}{scope:Scope}{f:Addr}{cd:Value}{A:Around}{outer:List Env}{s s1:Shared}{H:Hp}{E:XK}{us:List Value}{vs:List V}
  (S:bJ N ps scope) (hd:A.handled=none) (e0:zj P w K mg base A outer s H) (hl:vs.length=ps.length) (r:Vals vs us)
  (x:InCallC s s.heap.objs.size (bindL (envOfC qual scope s.heap.objs.size f cd).kindOf (ps.zip us) λ_=>none) (cellsFrom (s.heap.objs.size+1) scope.names []) (bindC (envOfC qual scope s.heap.objs.size f cd).kindOf (ps.zip us) λ_=>none) s1) :
  Inv (kh CX P w K mg base N qual scope f cd A outer s H E) [] (start N vs) H s1:=by
 have hpl:ps.length<=N.length:=by have:=Pc List.length S.pre;rw[Uc]at this;omega
 obtain⟨h1,tk,rfl,hk⟩:=x.done;have AF:∀b:Addr,b∉(kh CX P w K mg base N qual scope f cd A outer s H E).ex:=λb z=>absurd (show b∈([]:List Addr)from z) (by simp);refine⟨⟨e0.mod,S.kind,rfl,rfl,qT _,λy z c h1 h2=>?_,λy hy=>?_,λy c _ h=>?_,λ_=>hd,Around.frames_deeper e0.frames,.inr ⟨rfl,rfl⟩,λb z=>absurd z (AF b),e0.bs,e0.qb,λb _ _=>AF b,λb z=>absurd z (AF b),e0.iL,e0.r8⟩,
  rfl,e0.bare,Un.kept hk,⟨_,x.toInCall.ns,λi y v h1 h2 h3=>?_⟩,λy c h=>⟨_,x.cell y c h⟩,e0.hok.fresh (qT _),λy c h=>?_,λp hp=>absurd (show p∈([]:List (Addr×Obj))from hp) (by simp),e0.hok.kept hk,?_⟩
 .exact name_of_addr x.apart (Ux h1) (Ux h2)
 .have hy:scope.names.lookup y=some .cell\/scope.names.lookup y=some .free:=hy;rcases hy with hy|hy
  .exact uC hy
  .exact absurd rfl (S.IS _ (Ux hy))
 .exact Wx (x.above y c (Ux h))
 .have hi:i<vs.length:=by
   unfold start at h2;by_cases hi:i<vs.length
   .exact hi
   .rw[Uu (by simpa using hi)]at h2;rw[VW]at h2;split at h2<;>cases h2
  have ha:vs[i]?=some v:=by
   unfold start at h2;rw[wc (by simpa using hi),SE]at h2;cases e:vs[i]? with
   |none=>rw[e]at h2;cases h2
   |some a=>rw[e]at h2;cases h2;rfl
  obtain⟨u,hu,rv⟩:=r.get ha;have hp:ps[i]?=some y:=by
   rw[<-S.pre,List.getElem?_take_of_lt (by omega)];exact h1
  have OI:ps.Nodup:=by rw[<-S.pre];exact S.nd.sublist (List.take_sublist _ _)
  refine⟨u,rv,?_⟩;rcases S.par y (Q6 hp)with k|k
  .exact .inl ⟨k,sy OI hp hu k⟩
  .obtain⟨c,e⟩:=uC (n:=s.heap.objs.size+1) k;refine .inr ⟨.inl k,c,e,?_⟩;have q:=x.cell y c e;rw[sA OI hp hu (by show scope.names.lookup y≠_;rw[k];decide)]at q;exact q
 .exact e0.hok.fresh (Wx (x.above y c (Ux h)))
 .unfold start;show _=N.length;rw[HJ,L7,List.length_replicate];omega
def Eg{CX:kE}{P:Program}{w:World}{K:PySem.W.Frag}{mg:Str->Option Value}{base:Heap}{k:Nat}{f:Addr}{name qual:Str}{params:Arguments}{body:List Stmt}{scope:Scope}{dV kV doc pm cdv ct oc:Value}{an od:Option Addr}
  {osl:Array (Option Value)} {N ps:List Str} {sp:Sp} (lk:K.lookup f=some ⟨oc,od,.func (PySem.W.fnOf name qual params body scope dV kV doc pm an cdv ct),osl⟩) (hcd:PySem.W.codeIn K cdv qual=true) (S:bJ N ps scope)
  (len:∀vs H Q E,sp vs H Q E->vs.length=ps.length)
  (hbody:∀(A:Around) (outer:List Env) (s:Shared) (H:Hp) (vs:List V) (Q:VK) (E:XK),eZ k (A.deeper (envOfC qual scope s.heap.objs.size f cdv))->sp vs H Q E->
   ∃t,gj (kh CX P w K mg base N qual scope f cdv A outer s H E) body t/\t { nx:=λ_ H'=>Q .aO H',rt:=Q } (start N vs) H) :
  fc P w K mg base CX (k+1) f (PySem.W.fnOf name qual params body scope dV kV doc pm an cdv ct) ps sp:=by
 refine⟨len,λA outer s H args us vs Q E hr e0 hb r dQ=>?_⟩;have hl:=len _ _ _ _ dQ;have KX:K.In s.heap:=e0.mod.cS.keeps λb o e=>(e0.bs b o e).1;have lim:s.heap.NoLimit:=e0.mod.nolimit.keeps λb o e=>(e0.bs b o e).1;have hkind:∀y∈ps.zip us,scope.names.lookup y.1=some .local\/(scope.names.lookup y.1=some .cell/\((cellsFrom (s.heap.objs.size+1) scope.names []).lookup y.1).isSome=true):=λ⟨n,v⟩ hy=>by
  rcases S.par n (V1 hy).1 with q|q
  .exact .inl q
  .exact .inr ⟨q,V5 _ _ _ (.inl q)⟩
 refine codeAny_call_function hr.depth (KX _ _ lk) rfl S.co S.gen rfl (PySem.W.codeRec_of KX hcd) (hb _ _ _ _ ?_);refine wpAny_newFunctionEnv_cells S.kind hkind λenv he s1 x=>?_;subst he;refine⟨lim.keeps x.toInCall.keep,codeAny_func ?_⟩;obtain⟨t,ht,hq⟩:=hbody A outer s H vs Q E (hr.deeper _) dQ;have I:Inv (kh CX P w K mg base N qual scope f cdv A outer s H E) [] (start N vs) H s1:=AE S hr.hd e0 hl r x;refine E9 (ht [] s1 (start N vs) H _ I hq) (λfl s' hs=>?_) λe s' hs=>hs;have fin:∀{σ':St} {H':Hp} {v:V} {u:Value},Inv (kh CX P w K mg base N qual scope f cdv A outer s H E) [] σ' H' s'->RelV v u->Q v H'->CE outer P w H s Q u s':=
  λ{σ' H' v u} J rv q=>⟨v,H',J.os,J.bare,J.base,J.hok,rv,q⟩
 cases fl with
 |ret u=>
  obtain⟨v,σ',H',J,rv,q⟩:=hs;exact fin J rv q
 |next=>
  obtain⟨σ',H',J,q⟩:=hs;exact fin (v:=V.aO) (u:=Value.none) J rfl q
 |brk=>
  obtain⟨_,_,_,q⟩:=hs;exact False.elim q
 |cont=>
  obtain⟨_,_,_,q⟩:=hs;exact False.elim q
section
variable{X:Cx}{x:Str}{p pos:Pos}{e:Expr}{es:List Expr}{t:TA}{id T:String}{r:List V->Hp->VK->Prop}
noncomputable def IT(r:List V->Hp->VK->Prop)(t:TA):TE:=λσ H Q=>t σ H λvs H1=>r vs H1 Q
def o9 (hc:eY X (.builtin id) r) (hg:Gl X x) (hm:X.mg x=none) (hv:bootBuiltins x=some (.builtin id)) (ha:PA X (e :: es) t) (hn:x≠"__name__" :=by decide) (hdb:(x==("__debug__" : Str))=false:=by decide)
  (he:starEach (e :: es) X.env=(false,eval e X.env) :: starEach es X.env:=by rfl) (hpl:(backTo pos (starEach es X.env)).any (·.1)=false:=by rfl):PE X (.Call (.Name x p) (e :: es) [] pos) (IT r t):=by
 intro pins s σ H Q I h;refine UT (mz I hg hm hv ?_ hn hdb);exact PyProof.Rows.callWith_builtin1 (aQ (ha pos pins s σ H _ I h) λus s1 ⟨vs,H1,I1,r1,q1⟩=>hc pins s1 σ H1 vs us Q I1 r1 q1) he hpl
def mF (hc:eY X (.type T) r) (hg:Gl X x) (hm:X.mg x=none) (hv:bootBuiltins x=some (.type T)) (ha:PA X (e :: es) t) (hn:x≠"__name__" :=by decide) (hdb:(x==("__debug__" : Str))=false:=by decide)
  (he:starEach (e :: es) X.env=(false,eval e X.env) :: starEach es X.env:=by rfl) (hpl:(backTo pos (starEach es X.env)).any (·.1)=false:=by rfl):PE X (.Call (.Name x p) (e :: es) [] pos) (IT r t):=by
 intro pins s σ H Q I h;refine UT (mz I hg hm hv ?_ hn hdb);exact UI (aQ (ha pos pins s σ H _ I h) λus s1 ⟨vs,H1,I1,r1,q1⟩=>hc pins s1 σ H1 vs us Q I1 r1 q1) he hpl
end
end L2
namespace HT
open PySem PyProof.Rows
section
variable{prog:Program}{w:World}{A:Around}{E:Value->Shared->Prop}{s:Shared}
def FF{t b:Addr}{vs ws:List Value}{Q:Value->Shared->Prop}(ht:IsTup s.heap t vs.toArray)(hb:IsTup s.heap b ws.toArray)(hv:vs≠[])
  (h1:ws=[]->Q (.ref t) s) (h2:ws≠[]->Q (.ref s.heap.objs.size) { s with heap:=s.heap.push { cls:=.type "tuple",data:=.seq (vs++ws).toArray }})
  (hsz:vs.length+ws.length<=sizeLine):wpAny (model prog w) A (binaryOp .Add (.ref t) (.ref b)) Q E s:=by
 obtain⟨⟨cls,dd,data,sl⟩,ho,hc,n,hd⟩:=id ht;obtain⟨⟨Qa,dd2,data2,sl2⟩,ho2,hc2,n2,hd2⟩:=id hb;simp only at hc hd hc2 hd2;subst hc hd hc2 hd2;have e:vs.toArray++ws.toArray=(vs++ws).toArray:=by simp
 by_cases hw:ws=[]
 .exact Ww ⟨_,ho,rfl⟩ ⟨_,ho2,rfl⟩ VP Wo U7 U5 (UY _ _)
   (tuple_addW1 t b vs.toArray ws.toArray n n2 dd dd2 sl sl2 (by simpa using hv) (by simp[hw])) ⟨ho,ho2,h1 hw⟩
 .refine Ww ⟨_,ho,rfl⟩ ⟨_,ho2,rfl⟩ VP Wo U7 U5 (UY _ _)
   (tuple_addW2 t b vs.toArray ws.toArray n n2 dd dd2 sl sl2 (by simpa using hv) (by simpa using hw) (by rw[lI,lI];exact hsz)) ⟨ho,ho2,?_⟩
  rw[e];exact h2 hw
noncomputable def aJ(n d:Nat):Option Int->Nat
 |none=>d
 |some v=>if v<0 then (v+(n:Int)).toNat else min v.toNat n
def uD(n d:Nat)(hd:d<=n)(o:Option Int):aJ n d o<=n:=by
 cases o with
 |none=>exact hd
 |some v=>
  show(if v<0 then (v+(n:Int)).toNat else min v.toNat n)<=n;by_cases hv:v<0
  .rw[cG hv];omega
  .rw[Cd hv];exact Nat.min_le_right _ _
def xy(v:Int)(n d:Nat):(if v<0 then max (v+(n:Int)) 0 else min v (n:Int))=((aJ n d (some v):Nat):Int):=by
 show(if v<0 then max (v+(n:Int)) 0 else min v (n:Int))=(((if v<0 then (v+(n:Int)).toNat else min v.toNat n):Nat):Int)
 by_cases hv:v<0
 .simp only[cG hv];omega
 .simp only[Cd hv];omega
def zk(lo hi:Option Int)(n:Nat):Builtin.Slice.sliceAdjust lo hi 1 (n:Int)=(((aJ n 0 lo:Nat):Int),((aJ n n hi:Nat):Int)):=by
 have h1:¬ ((1:Int)<0):=by omega
 unfold Builtin.Slice.sliceAdjust;simp only[h1,Uh];refine Prod.ext ?_ ?_
 .cases lo with
  |none=>rfl
  |some v=>exact xy v n 0
 .cases hi with
  |none=>rfl
  |some v=>exact xy v n n
def zl(i j:Nat):Builtin.Slice.slicePlaces (i:Int) (j:Int) 1=j - i:=by
 unfold Builtin.Slice.slicePlaces;have h1:(1:Int) > 0:=by omega
 simp only[h1,QO,Int.ediv_one];split<;>omega
def ig{v:Value}{o:Option Int}{Q:Option Int->Shared->Prop}(p:IsPart v o)(h:Q o s):wpAny (model prog w) A (Builtin.Slice.slicePartIndex v) Q E s:=by
 cases p with
 |none=>exact slicePart_none h
 |int i t=>exact slicePart_int h
def jC{sl:Addr}{vl vu:Value}{lo hi:Option Int}{n:Nat}{Q:Int×Int×Nat->Shared->Prop}(hs:s.heap.IsSliceOf sl vl vu .none)(pl:IsPart vl lo)(pu:IsPart vu hi)
  (h:Q (((aJ n 0 lo:Nat):Int),1,aJ n n hi - aJ n 0 lo) s):wpAny (model prog w) A (Builtin.Slice.sliceApplied (.ref sl) (pure (n:Int))) Q E s:=by
 obtain⟨os,hos,hcs,hds⟩:=id hs;unfold Builtin.Slice.sliceApplied Builtin.Slice.sliceFields;refine b8 (b8 (Us hos hds (x:=vl) rfl (b8 (Us hos hds (x:=vu) rfl (b8 (Us hos hds (x:=.none) rfl (eS ?_)))))));refine b8 (slicePart_none ?_);show wpAny _ _ (if ((1:Int)==0)=true then _ else _) _ _ s;rw[Cd (by decide)];refine b8 (ig pl (b8 (ig pu (b8 (eS ?_)))));show wpAny _ _ (match Builtin.Slice.sliceAdjust lo hi 1 (n:Int)with | (lo,hi)=>pure (lo,(1:Int),Builtin.Slice.slicePlaces lo hi 1)) _ _ s;rw[zk lo hi n];show wpAny _ _ (pure (((aJ n 0 lo:Nat):Int),(1:Int),Builtin.Slice.slicePlaces ((aJ n 0 lo:Nat):Int) ((aJ n n hi:Nat):Int) 1)) _ _ s;rw[zl];exact eS h
def CO(xs:Array Value)(i k:Nat):((List.range k).filterMap λ(m:Nat)=>xs[((i:Int)+(m:Int)*1).toNat]?).toArray=((xs.toList.drop i).take k).toArray:=by
 have e:(λ(m:Nat)=>xs[((i:Int)+(m:Int)*1).toNat]?)=λm=>xs[i+m]?:=by
  funext m
  have:((i:Int)+(m:Int)*1).toNat=i+m:=by omega
  rw[this]
 rw[e];have:=pick_run xs i k;rw[WD]at this;have e2:((λx=>xs[x]?) ∘ λx=>i+x)=λm=>xs[i+m]?:=rfl;rw[e2]at this;rw[this]
def oz{t sl:Addr}{items:Array Value}{vl vu:Value}{lo hi:Option Int}{Q:Value->Shared->Prop}(ht:IsTup s.heap t items)(hs:s.heap.IsSliceOf sl vl vu .none)(pl:IsPart vl lo)(pu:IsPart vu hi)
  (hw:¬ (aJ items.size 0 lo=0/\aJ items.size items.size hi=items.size))
  (h:Q (.ref s.heap.objs.size) { s with heap:=s.heap.push { cls:=.type "tuple",data:=.seq ((items.toList.drop (aJ items.size 0 lo)).take (aJ items.size items.size hi - aJ items.size 0 lo)).toArray }})
  (hsz:items.size<=sizeLine):wpAny (model prog w) A (getItem (.ref t) (.ref sl)) Q E s:=by
 have jg:sizeOk (.seq ((items.toList.drop (aJ items.size 0 lo)).take (aJ items.size items.size hi - aJ items.size 0 lo)).toArray):=by
  show((items.toList.drop (aJ items.size 0 lo)).take (aJ items.size items.size hi - aJ items.size 0 lo)).toArray.size<=sizeLine;rw[lI,Uc,Uq,UO];omega
 have hj:aJ items.size items.size hi<=items.size:=uD _ _ (qT _) hi;obtain⟨os,hos,hcs,hds⟩:=id hs;have AG:s.TypeIs (.ref sl) "slice" :=⟨os,hos,hcs⟩
 unfold getItem;try with_reducible refine UL ?_
 first|refine b8 (eS ?_)|skip
 refine b8 (VB ht.typeIs (by decide) ?_);refine b8 (U1 (name:=Str.ofString "__getitem__") ht.typeIs T5
  (VO T5 ht.typeIs Vo ?_ (Vu _ _)))
 show wpAny _ _ (Builtin.Tuple.tupleItemsOf (.ref t) >>= _) _ _ s;refine b8 (tupleItemsOf_ ht ?_);refine b8 (VJ AG ?_);rw[cG (by decide)];refine b8 (jC hs pl pu ?_);have hno:¬ ((((aJ items.size 0 lo:Nat):Int)==0&&(1:Int)==1&&(aJ items.size items.size hi - aJ items.size 0 lo)==items.size)=true):=by
  intro q;rw[fW,fW]at q;have q1:((aJ items.size 0 lo:Nat):Int)=0:=eq_of_beq q.1.1;have q2:aJ items.size items.size hi - aJ items.size 0 lo=items.size:=eq_of_beq q.2;exact hw ⟨by omega,by omega⟩
 show wpAny _ _ (if (((aJ items.size 0 lo:Nat):Int)==0&&(1:Int)==1&&(aJ items.size items.size hi - aJ items.size 0 lo)==items.size)=true then _ else _) _ _ s;rw[Cd hno,CO];first
  |exact b8 (m:=Builtin.Tuple.tupleExact _) (T8 (eS ⟨_,rfl,eS h⟩) jg)
  |exact b8 (m:=Builtin.Tuple.tupleExact _) (T8 (b8 (eS (eS ⟨_,rfl,eS h⟩))) jg)
  |exact b8 (b8 (m:=Builtin.Tuple.tupleExact _) (T8 (eS (eS ⟨_,rfl,eS h⟩)) jg))
  |exact b8 (b8 (m:=Builtin.Tuple.tupleExact _) (T8 (eS ⟨_,rfl,eS h⟩) jg))
end
end HT
namespace L2
open PySem PySem.Spec PyProof.Rows
abbrev TO:=St->Hp->(Option Int->Hp->Prop)->Prop
def PO(X:Cx)(e:Option Expr)(t:TO):Prop:=
 ∀(pins:List (Addr×Obj)) (s:Shared) (σ:St) (H:Hp) (Q:Option Int->Hp->Prop),Inv X pins σ H s->t σ H Q->
  wpAny (model X.prog X.w) X.A (evalPart e X.env) (λu s'=>∃o H',Inv X pins σ H' s'/\IsPart u o/\Q o H') X.xe s
noncomputable def FG:TO:=λ_ H Q=>Q none H
noncomputable def Ni(t:TE):TO:=λσ H Q=>t σ H λx H1=>∃i,x=.int i/\Q (some i) H1
section
variable{X:Cx}{e:Expr}{te:TE}{lo hi:Option Expr}{tl th:TO}{pos p2:Pos}
def FH:PO X none FG:=by
 intro pins s σ H Q I h;rw[Wq];exact eS ⟨none,H,I,.none,h⟩
def xA(h:PE X e te):PO X (some e) (Ni te):=by
 intro pins s σ H Q I hw;rw[evalPart_some];refine aQ (h pins s σ H _ I hw) λu s1 ⟨x,H1,I1,r1,q1⟩=>?_;obtain⟨i,rfl,q⟩:=q1;obtain⟨t,rfl⟩:=r1;exact⟨some i,H1,I1,.int i t,q⟩
def kF(X:Cx)(r:V->Option Int->Option Int->Hp->VK->Prop):Prop:=
 ∀(pins:List (Addr×Obj)) (s:Shared) (σ:St) (H:Hp) (x:V) (v vl vu:Value) (lo hi:Option Int) (sl:Addr) (Q:VK),Inv X pins σ H s->RelV x v->s.heap.IsSliceOf sl vl vu .none->IsPart vl lo->IsPart vu hi->r x lo hi H Q->
  ∃T id,typeLookup (.type T) "__getitem__" = pure (some (.builtin id))/\s.TypeIs v T/\wpAny (model X.prog X.w) X.A (getItem v (.ref sl)) (EP X pins σ Q) X.xe s
noncomputable def Rf(r:V->Option Int->Option Int->Hp->VK->Prop)(te:TE)(tl th:TO):TE:=λσ H Q=>te σ H λx H1=>tl σ H1 λl H2=>th σ H2 λu H3=>r x l u H3 Q
def CP{r:V->Option Int->Option Int->Hp->VK->Prop}(hr:kF X r)(he:PE X e te)(hl:PO X lo tl)(hu:PO X hi th):PE X (.Subscript e (.Slice lo hi none p2) pos) (Rf r te tl th):=by
 intro pins s σ H Q I h;refine VG (aQ (he pins s σ H _ I h) λv s1 ⟨x,H1,I1,r1,q1⟩=>?_);refine wpAny_Slice (aQ (hl pins s1 σ H1 _ I1 q1) λvl s2 ⟨l,H2,I2,pl,q2⟩=>aQ (hu pins s2 σ H2 _ I2 q2) λvu s3 ⟨u,H3,I3,pu,q3⟩=>?_);rw[Wq];refine eS ?_;have I4:Inv X pins σ H3 { s3 with heap:=s3.heap.push { cls:=.type "slice",data:=.fields #[vl,vu,.none]}}:=I3.kept (t':=s3.toks) λb ob q=>iR _ q;obtain⟨T,id,hT,ht,hg⟩:=hr pins { s3 with heap:=s3.heap.push { cls:=.type "slice",data:=.fields #[vl,vu,.none]}} σ H3 x v vl vu l u s3.heap.objs.size Q I4 r1 (Heap.IsSliceOf.new ..) pl pu q3;show wpAny (model X.prog X.w) X.A (subscriptTail e (.Slice lo hi none p2) v (.ref s3.heap.objs.size)) (EP X pins σ Q) X.xe { s3 with heap:=s3.heap.push { cls:=.type "slice",data:=.fields #[vl,vu,.none]}};exact tail_any (ops:=[.ref s3.heap.objs.size,v]) ht hT hg (by with_unfolding_all rfl)
def mG(xs:List V)(lo hi:Option Int):List V:=(xs.drop (HT.aJ xs.length 0 lo)).take (HT.aJ xs.length xs.length hi - HT.aJ xs.length 0 lo)
def oB(xs:List V)(lo hi:Option Int):(mG xs lo hi).length<=xs.length:=by
 unfold mG;rw[Uc,Uq];omega
def Qc(K:PySem.W.Frag):V->Option Int->Option Int->Hp->VK->Prop:=λx lo hi H Q=>∃a xs,x=.ref a/\dz K H a xs/\
 ¬ (HT.aJ xs.length 0 lo=0/\HT.aJ xs.length xs.length hi=xs.length)/\∀p,H p=none->Q (.ref p) (upd H p (.tup (mG xs lo hi)))
def IU:kF X (Qc X.K):=by
 intro pins s σ H x v vl vu lo hi sl Q I rx hs pl pu h;obtain⟨a,xs,rfl,hx,hw,q⟩:=h;cases rx;obtain⟨its,r,ht,hz⟩:=I.tuple hx;have hlen:its.toArray.size=xs.length:=by rw[lI];exact r.length.symm
 refine⟨"tuple",_,PyProof.Rows.slot_tuple_getitem.lookup,ht.typeIs,?_⟩;refine HT.oz ht hs pl pu (by rw[hlen];exact hw) ?_ (by rw[hlen];exact hz);rw[hlen];refine⟨.ref s.heap.objs.size,_,I.laid (t':=s.toks) (o:=.tup (mG xs lo hi)) (λb ob q=>iR _ q) (qT _) ?_,rfl,q _ (I.hok.fresh (qT _))⟩;exact⟨HK (oB xs lo hi) hz,_,(r.drop (HT.aJ xs.length 0 lo)).take (HT.aJ xs.length xs.length hi - HT.aJ xs.length 0 lo),IsTup.new _ _⟩
def Nj(K:PySem.W.Frag):R2:=λx y H Q=>∃a b xs ys,x=.ref a/\y=.ref b/\dz K H a xs/\dz K H b ys/\xs≠[]/\xs.length+ys.length<=sizeLine/\
 (ys=[]->Q (.ref a) H)/\(ys≠[]->∀p,H p=none->Q (.ref p) (upd H p (.tup (xs++ys))))
def Vals.qX{xs:List V}{us:List Value}(r:Vals xs us):us=[]↔xs=[]:=by
 cases r with
 |nil=>simp
 |cons _ _=>simp
def FJ:cz X (binaryOp .Add) (Nj X.K):=by
 intro pins s σ H x y v u Q I rx ry h;obtain⟨a,b,xs,ys,rfl,rfl,ha,hb,hx,hz,q1,q2⟩:=h;cases rx;cases ry;obtain⟨its,r1,p1,_⟩:=I.tuple ha;obtain⟨its2,r2,p2,_⟩:=I.tuple hb;refine HT.FF p1 p2 (λz=>hx (r1.qX.mp z)) (λz=>⟨.ref a,H,I,rfl,q1 (r2.qX.mp z)⟩) (λz=>?_) (by rw[<-r1.length,<-r2.length];exact hz);refine⟨.ref s.heap.objs.size,_,I.laid (t':=s.toks) (o:=.tup (xs++ys)) (λb ob q=>iR _ q) (qT _) ?_,rfl,q2 (λw=>z (r2.qX.mpr w)) _ (I.hok.fresh (qT _))⟩;exact⟨by rw[HJ];exact hz,_,r1.append r2,IsTup.new _ _⟩
end
noncomputable def dH(n:Nat)(i:Int):Option Nat:=if 0<=i then (if i<n then some i.toNat else none)else if -(n:Int)<=i then some (i+n).toNat else none
def bC{α:Type}(xs:List α)(i:Int):Option α:=(dH xs.length i).bind λj=>xs[j]?
def FL{n:Nat}{i:Int}{j:Nat}(h:dH n i=some j):seqIndex? i n=some j/\j<n/\-(n:Int)<=i/\i<n:=by
 unfold dH at h;by_cases h0:0<=i
 .rw[cG h0]at h;by_cases h1:i<n
  .rw[cG h1]at h;have e:i.toNat=j:=pV h;exact⟨by rw[seqIndex_of h0 h1,e],by omega,by omega,h1⟩
  .rw[Cd h1]at h;cases h
 .rw[Cd h0]at h;by_cases h1:-(n:Int)<=i
  .rw[cG h1]at h;have e:(i+n).toNat=j:=pV h;exact⟨by rw[seqIndex_neg (by omega) h1,e],by omega,h1,by omega⟩
  .rw[Cd h1]at h;cases h
def qY{α:Type}{xs:List α}{i:Int}{v:α}(h:bC xs i=some v):∃j,seqIndex? i xs.length=some j/\xs[j]?=some v/\j<xs.length/\-(xs.length:Int)<=i/\i<xs.length:=by
 unfold bC at h;cases e:dH xs.length i with
 |none=>rw[e]at h;cases h
 |some j=>
  rw[e]at h;obtain⟨h1,h2,h3,h4⟩:=FL e;exact⟨j,h1,h,h2,h3,h4⟩
def xB{α:Type}{xs:List α}{j:Nat}{v:α}(h:xs[j]?=some v):bC xs (j:Int)=some v:=by
 have hj:j<xs.length:=(List.getElem?_eq_some_iff.mp h).1;have e:dH xs.length (j:Int)=some j:=by
  unfold dH;rw[cG (by omega),cG (by omega)];simp
 unfold bC;rw[e];exact h
def qZ(b:Expr):Prop:=∀o i,subscripted b false o i=operate [o,i] (getItem o i)
def xC(X:Cx)(r:R2):Prop:=
 ∀(value slice:Expr) (pins:List (Addr×Obj)) (s:Shared) (σ:St) (H:Hp) (x y:V) (v u:Value) (Q:VK),Inv X pins σ H s->RelV x v->RelV y u->r x y H Q->
  subscripted slice false v u=operate [v,u] (getItem v u)->wpAny (model X.prog X.w) X.A (subscriptTail value slice v u) (EP X pins σ Q) X.xe s
def sC(X:Cx)(id:String)(r:V->List V->Hp->VK->Prop):Prop:=
 ∀(pins:List (Addr×Obj)) (s:Shared) (σ:St) (H:Hp) (x:V) (xs:List V) (v:Value) (us:List Value) (Q:VK),Inv X pins σ H s->RelV x v->Vals xs us->r x xs H Q->
  wpAny (model X.prog X.w) X.A (call (.builtin id) (v :: us)) (EP X pins σ Q) X.xe s
section
variable{X:Cx}{a b:Expr}{ta tb:TE}{pos:Pos}
def Nk{r:R2}(hr:xC X r)(ha:PE X a ta)(hb:PE X b tb)(hs:qZ b):PE X (.Subscript a b pos) (AA r ta tb):=by
 intro pins s σ H Q I h;exact VG (ze ha hb I h λv u s2 x y H2 I2 rx ry q=>hr a b pins s2 σ H2 x y v u Q I2 rx ry q (hs _ _))
def Qd(K:PySem.W.Frag):R2:=λx y H Q=>∃p xs i v,x=.ref p/\y=.int i/\eU K H p xs/\bC xs i=some v/\Q v H
def Qe(K:PySem.W.Frag):R2:=λx y H Q=>∃p xs i v,x=.ref p/\y=.int i/\dz K H p xs/\bC xs i=some v/\Q v H
def Qg:R2:=λx y H Q=>∃z i c,x=.str z/\y=.int i/\z.length<=sizeLine/\bC z.cps.toList i=some c/\Q (.str ⟨#[c]⟩) H
def FO:xC X (Qd X.K):=by
 intro value slice pins s σ H x y v u Q I rx ry h hs;obtain⟨p,xs,i,z,rfl,rfl,hq,he,q⟩:=h;cases rx;obtain⟨t,rfl⟩:=ry;obtain⟨its,r,pl,hz⟩:=I.list hq;obtain⟨j,h1,h2,h3,h4,h5⟩:=qY he;obtain⟨w,ew,rw'⟩:=r.get h2;have hl:=r.length;have hn:=kC;have fin:EP X pins σ Q w s:=⟨z,H,I,rw',q⟩
 by_cases h0:0<=i
 .have hj:i.toNat=j:=by
   rw[seqIndex_of h0 h5]at h1;exact pV h1
  exact item_listR pl.isList h0 (by omega) (by rw[hj];simpa using ew) fin hs
 .have hj:(i+(its.toArray.size:Int)).toNat=j:=by
   rw[seqIndex_neg (by omega) h4]at h1;rw[lI,<-hl];exact pV h1
  exact subscriptTail_builtinR (x:=w) pl.isList.typeIs slot_list_getitem.lookup
   (wpAny_getItem_list_neg (Q:=λr s'=>r=w/\EP X pins σ Q r s') pl.isList (by omega) (by rw[lI]<;>omega) (by omega) (by rw[hj];simpa using ew) ⟨rfl,fin⟩) hs
def IV:xC X (Qe X.K):=by
 intro value slice pins s σ H x y v u Q I rx ry h hs;obtain⟨p,xs,i,z,rfl,rfl,hq,he,q⟩:=h;cases rx;obtain⟨t,rfl⟩:=ry;obtain⟨its,r,pl,hz⟩:=I.tuple hq;obtain⟨j,h1,h2,h3,h4,h5⟩:=qY he;obtain⟨w,ew,rw'⟩:=r.get h2;have hl:=r.length;have hn:=kC;have fin:EP X pins σ Q w s:=⟨z,H,I,rw',q⟩
 exact subscriptTail_builtinR (x:=w) pl.typeIs slot_tuple_getitem.lookup
  (getItem_tuple (j:=j) (Q:=λr s'=>r=w/\EP X pins σ Q r s') pl (by omega) (by omega) (by rw[lI,<-hl];exact h1) (by simpa using ew) ⟨rfl,fin⟩) hs
def IW:xC X Qg:=by
 intro value slice pins s σ H x y v u Q I rx ry h hs;obtain⟨z,i,c,rfl,rfl,hz,he,q⟩:=h;obtain⟨t,rfl⟩:=rx;obtain⟨t',rfl⟩:=ry;obtain⟨j,h1,h2,h3,h4,h5⟩:=qY he;have hl:z.cps.toList.length=z.length:=by simp[Str.length]
 rw[hl]at h1 h4 h5;have hn:=kC;exact tail_any (Vg s z t) slot_str_getitem.lookup (getItem_str (c:=c) (by
  have e1:decide (i < -(2 ^ 63:Int))=false:=DX (by omega);have e2:decide (i≥2 ^ 63)=false:=DX (by omega);rw[e1,e2,VA]) (by rw[h1];simpa using h2) ⟨.str ⟨#[c]⟩,H,I.tok _,⟨_,rfl⟩,q⟩) hs
def uE(lo hi:Option Int)(n:Nat):(sliceBounds lo hi none n).1=((HT.aJ n 0 lo:Nat):Int)/\(sliceBounds lo hi none n).2.1=((HT.aJ n n hi:Nat):Int)/\(sliceBounds lo hi none n).2.2=1:=by
 refine⟨?_,?_,rfl⟩
 .cases lo with
  |none=>simp[sliceBounds,HT.aJ]
  |some i=>
   simp only[sliceBounds,HT.aJ,WO,show(1:Int) > 0 by decide,QO];by_cases h:i<0
   .simp only[h,QO]<;>omega
   .simp only[h,Uh]<;>omega
 .cases hi with
  |none=>simp[sliceBounds,HT.aJ]
  |some i=>
   simp only[sliceBounds,HT.aJ,WO,show(1:Int) > 0 by decide,QO];by_cases h:i<0
   .simp only[h,QO]<;>omega
   .simp only[h,Uh]<;>omega
def tU(its:List Value)(lo hi:Option Int):slicePick its.toArray lo hi none=((its.drop (HT.aJ its.length 0 lo)).take (HT.aJ its.length its.length hi - HT.aJ its.length 0 lo)).toArray:=by
 obtain⟨h1,h2,h3⟩:=uE lo hi its.toArray.size;unfold slicePick;rw[h1,h2,h3];simp only[sliceRange_one,pick_run,lI]<;>rfl
def Qh(K:PySem.W.Frag):V->Option Int->Option Int->Hp->VK->Prop:=λx lo hi H Q=>∃a xs,x=.ref a/\eU K H a xs/\∀p,H p=none->Q (.ref p) (upd H p (.lst (mG xs lo hi)))
def FP:kF X (Qh X.K):=by
 intro pins s σ H x v vl vu lo hi sl Q I rx hs pl pu h;obtain⟨a,xs,rfl,hx,q⟩:=h;cases rx;obtain⟨its,r,ht,hz⟩:=I.list hx;have hlen:=r.length;refine⟨"list",_,slot_list_getitem.lookup,ht.isList.typeIs,?_⟩;refine VT ht.isList hs pl pu .none (by simp) ?_ (by rw[lI]<;>omega);rw[tU,<-hlen];refine⟨.ref s.heap.objs.size,_,I.laid (t':=s.toks) (o:=.lst (mG xs lo hi)) (λb ob q=>iR _ q) (qT _) ?_,rfl,q _ (I.hok.fresh (qT _))⟩;exact⟨HK (oB xs lo hi) hz,_,0,(r.drop (HT.aJ xs.length 0 lo)).take (HT.aJ xs.length xs.length hi - HT.aJ xs.length 0 lo),QS _ rfl⟩
noncomputable def t8:V->Bool
 |.aO=>true
 |.bl _=>true
 |.int _=>true
 |.str _=>true
 |_=>false
def mH:eY X (.builtin "len") (λxs H Q=>∃p ys,xs=[.ref p]/\(eU X.K H p ys\/dz X.K H p ys)/\Q (.int ys.length) H):=by
 intro pins s σ H xs us Q I r h;obtain⟨p,ys,rfl,hq,q⟩:=h;obtain⟨u,rfl,rx⟩:=Vs r;cases rx;have hn:=kC;rcases hq with hq|hq
 .obtain⟨its,r',pl,hz⟩:=I.list hq;have hlen:=r'.length;exact Calls.call_len_list pl.isList (by simp only[lI]<;>omega) ⟨.int ys.length,H,I.tok _,⟨s.toks+1,by rw[lI,hlen]⟩,q⟩
 .obtain⟨its,r',pl,hz⟩:=I.tuple hq;have hlen:=r'.length;exact len_tuple pl (by simp only[lI]<;>omega) ⟨.int ys.length,H,I.tok _,⟨s.toks+1,by rw[lI,hlen]⟩,q⟩
def uF:eY X (.builtin "len") (λxs H Q=>∃z,xs=[.str z]/\z.length<=sizeLine/\Q (.int z.length) H):=by
 intro pins s σ H xs us Q I r h;obtain⟨z,rfl,hz,q⟩:=h;obtain⟨u,rfl,t,rfl⟩:=Vs r;have hn:=kC;exact len_str (by omega) ⟨.int z.length,H,I.tok _,⟨_,rfl⟩,q⟩
def lO:eY X (.type "tuple") (λxs H Q=>∃p ys,xs=[.ref p]/\((eU X.K H p ys/\∀l,H l=none->Q (.ref l) (upd H l (.tup ys)))\/(dz X.K H p ys/\Q (.ref p) H))):=by
 intro pins s σ H xs us Q I r h;obtain⟨p,ys,rfl,h⟩:=h;obtain⟨u,rfl,rx⟩:=Vs r;cases rx;rcases h with ⟨hq,q⟩|⟨hq,q⟩
 .obtain⟨its,r',pl,hz⟩:=I.list hq;have hlen:=r'.length;refine call_tuple_list pl.isList (λh' kp=>?_) (by simp only[lI]<;>omega);have I1:Inv X pins σ H { s with heap:=h' }:=I.kept (t':=s.toks) kp;have I2:Inv X pins σ (upd H h'.objs.size (.tup ys)) { s with heap:=h'.push { cls:=.type "tuple",data:=.seq its.toArray }}:=
   I1.laid (t':=s.toks) (λb o e=>iR _ e) (qT _) (show b5 X.prog X.w _ _ _ (.tup ys)from ⟨hz,its,r',IsTup.new _ _⟩)
  exact⟨.ref h'.objs.size,_,I2,rfl,q _ (I1.hok.fresh (qT _))⟩
 .obtain⟨its,r',pl,hz⟩:=I.tuple hq;exact call_tuple_same pl ⟨.ref p,H,I,rfl,q⟩
def AH(K:PySem.W.Frag)(T:String)(x:V)(H:Hp):Prop:=match x with
 |.str _=>T = "str"
 |.int _=>T = "int"
 |.ref p=>(T = "list" /\∃xs,eU K H p xs)\/(T = "tuple" /\∃o,K.lookup p=some o/\o.cls=.type "tuple" /\o.dict=none)\/
   (T = "dict" /\((∃kvs,H p=some (.dK kvs))\/∃kvs,H p=some (.dT kvs)))\/(T = "set" /\∃S n,H p=some (.set S n))
 |_=>False
def AI{pins:List (Addr×Obj)}{σ:St}{H:Hp}{s:Shared}{T:String}{x:V}{v:Value}(I:Inv X pins σ H s)(r:RelV x v)(ty:AH X.K T x H) :
  s.TypeIs v T/\∀a,v=.ref a->∃ob,s.heap.get? a=some ob/\ob.dict=none:=by
 cases x with
 |str z=>
  obtain⟨t,rfl⟩:=r;cases (show T = "str" from ty);exact⟨Vg s z t,λ_ e=>nomatch e⟩
 |int i=>
  obtain⟨t,rfl⟩:=r;cases (show T = "int" from ty);exact⟨VF s i t,λ_ e=>nomatch e⟩
 |ref p=>
  cases r;rcases ty with ⟨rfl,xs,hq⟩|⟨rfl,o,hk,hc,hd⟩|⟨rfl,hk⟩|⟨rfl,S,n,hk⟩
  .obtain⟨its,_,pl,_⟩:=I.list hq;refine⟨pl.isList.typeIs,λa e=>?_⟩;cases e;obtain⟨o,n,e,c,hd,_⟩:=pl;exact⟨o,e,hd⟩
  .refine⟨⟨o,I.dY p o hk,hc⟩,λa e=>?_⟩;cases e;exact⟨o,I.dY _ o hk,hd⟩
  .have z:∃o,s.heap.get? p=some o/\o.ExactDict:=by
    rcases hk with ⟨kvs,hk⟩|⟨kvs,hk⟩
    .obtain⟨_,_,_,_,o,_,_,e,ex,_⟩:=I.hok p _ hk;exact⟨o,e,ex⟩
    .obtain⟨_,_,_,_,o,_,_,e,ex,_⟩:=I.hok p _ hk;exact⟨o,e,ex⟩
   obtain⟨o,e,ex⟩:=z;refine⟨⟨o,e,ex.1⟩,λa e2=>?_⟩;cases e2;exact⟨o,e,ex.2.1⟩
  .obtain⟨o,_,_,_,e,ex,_⟩:=I.hok p _ hk;refine⟨⟨o,e,ex.1⟩,λa e2=>?_⟩;cases e2;exact⟨o,e,ex.2.1⟩
 |_=>exact False.elim ty
noncomputable def Qi(K:PySem.W.Frag)(T:String)(r:V->List V->Hp->VK->Prop)(to:TE):TE:=λσ H Q=>to σ H λx H1=>AH K T x H1/\r x [] H1 Q
noncomputable def Rg(K:PySem.W.Frag)(T:String)(r:V->List V->Hp->VK->Prop)(to:TE)(t:TA):TE:=λσ H Q=>to σ H λx H1=>AH K T x H1/\t σ H1 λxs H2=>r x xs H2 Q
variable{o e:Expr}{es:List Expr}{to:TE}{t:TA}{name:Str}{apos cpos:Pos}{T id:String}{r:V->List V->Hp->VK->Prop}
def IY (pa:PlainAttrs T) (slot:Slot T name id) (hty:typeOf (.builtin id)=pure (.type "method_descriptor")) (hm:sC X id r) (ho:PE X o to)
  (hbase:attributeBase o name X.env (eval o X.env)=eval o X.env:=by rfl) (hline:(apos.endLine==cpos.line)=true:=by rfl):PE X (.Call (.Attribute o name apos) [] [] cpos) (Qi X.K T r to):=by
 intro pins s σ H Q I h;refine wpAny_Call_method0_late hbase hline (aQ (ho pins s σ H _ I h) λv s1 ⟨x,H1,I1,r1,ty,q1⟩=>?_);obtain⟨h1,h2⟩:=AI I1 r1 ty;exact⟨T,id,pa,slot,hty,h1,h2,V8 rfl (PySem.evalArgs_none (hm pins s1 σ H1 x [] v [] Q I1 r1 .nil q1))⟩
def Eh (pa:PlainAttrs T) (slot:Slot T name id) (hty:typeOf (.builtin id)=pure (.type "method_descriptor")) (hm:sC X id r) (ho:PE X o to) (ha:PA X (e :: es) t)
  (hbase:attributeBase o name X.env (eval o X.env)=eval o X.env:=by rfl)
  (hfew:((backTo cpos (starEach (e :: es) X.env)).all (λx=>!x.1)&&(backToKw cpos (keywordEach [] X.env)).all (λx=>x.1.isSome)
   &&decide ((e :: es).length+([]:List Keyword).length+(if ([]:List Keyword).isEmpty then 0 else 1)<30))=true:=by rfl)
  (hline:(apos.endLine==cpos.line)=true:=by rfl) (hs:starEach (e :: es) X.env=(false,eval e X.env) :: starEach es X.env:=by rfl) (hplain:(backTo cpos (starEach es X.env)).any (·.1)=false:=by rfl) :
  PE X (.Call (.Attribute o name apos) (e :: es) [] cpos) (Rg X.K T r to t):=by
 intro pins s σ H Q I h;refine wpAny_Call_method_late hbase hfew hline rfl (aQ (ho pins s σ H _ I h) λv s1 ⟨x,H1,I1,r1,ty,q1⟩=>?_);obtain⟨h1,h2⟩:=AI I1 r1 ty;refine⟨T,id,pa,slot,hty,h1,h2,?_⟩;have hA:=ha cpos pins s1 σ H1 _ I1 q1;rw[hs]at hA ⊢;refine V8 (by show(false || (backTo cpos (starEach es X.env)).any (·.1))=false;rw[hplain]<;>rfl) (Calls.evalArgs_plain ?_);exact aQ hA λus s2 ⟨vs,H2,I2,r2,q2⟩=>hm pins s2 σ H2 x vs v us Q I2 r1 r2 q2
end
def OJ(X:Cx)(id:String)(r:V->List V->Hp->VK->Prop):Prop:=
 ∀(pins:List (Addr×Obj)) (s:Shared) (σ:St) (H:Hp) (x:V) (xs:List V) (v:Value) (us:List Value) (Q:VK),Inv X pins σ H s->RelV x v->Vals xs us->r x xs H Q->
  wpAny (model X.prog X.w) X.A (call (.builtin id) (v :: us)) (EP X pins σ Q) X.xe s
def Vals.one:∀{x:V}{us:List Value},Vals [x] us->∃u,us=[u]/\RelV x u
 |_,_,.cons r .nil=>⟨_,rfl,r⟩
def Vals.zero:∀{us:List Value},Vals [] us->us=[]
 |_,.nil=>rfl
theorem Vals.dropLast{xs:List V}{us:List Value}(h:Vals xs us):Vals xs.dropLast us.dropLast:=by
 induction h with
 |nil=>exact .nil
 |cons r t ih=>
  cases t with
  |nil=>exact .nil
  |cons q t'=>exact .cons r ih
theorem Vals.reverse{xs:List V}{us:List Value}(h:Vals xs us):Vals xs.reverse us.reverse:=by
 induction h with
 |nil=>exact .nil
 |cons r t ih=>rw[Uo,Uo];exact Vals.append ih (.cons r .nil)
theorem Vals.rep{xs:List V}{us:List Value}(h:Vals xs us):∀k:Nat,Vals (List.replicate k xs).flatten (List.replicate k us).flatten
 |0=>.nil
 |k+1=>by
  rw[Q5,Q5,Uk,Uk];exact Vals.append h (Vals.rep h k)
def zm{α:Type}(l:List α):l.eraseIdx (l.length - 1)=l.dropLast:=by
 induction l with
 |nil=>rfl
 |cons a r ih=>
  cases r with
  |nil=>rfl
  |cons b r=>
   have e:(a :: b :: r).length - 1=((b :: r).length - 1)+1:=by
    have h1:(a :: b :: r).length=r.length+2:=rfl;have h2:(b :: r).length=r.length+1:=rfl;omega
   rw[e,List.eraseIdx_cons_succ,ih];all_goals rfl
theorem foldl_rep(its:List Value):∀(k:Nat) (acc:List Value),
  List.foldl (λx1 x2=>x1++x2) acc.toArray (List.replicate k its.toArray)=(acc++(List.replicate k its).flatten).toArray
 |0,acc=>by simp
 |k+1,acc=>by
  have e:acc.toArray++its.toArray=(acc++its).toArray:=by simp
  have e2:(acc++its)++(List.replicate k its).flatten=acc++(List.replicate (k+1) its).flatten:=by
   rw[Q5,Uk,WL]
  rw[<-e2,<-foldl_rep its k (acc++its),<-e,Q5,V2]
section
variable{X:Cx}{pins:List (Addr×Obj)}{σ:St}{H:Hp}{s:Shared}{l:Addr}{xs ys:List V}
def Inv.IZ{its its':List Value}{n:Nat}{f:Array Value->Array Value}{t':Nat}(I:Inv X pins σ H s)(hH:H l=some (.lst xs))
  (e:s.heap.get? l=some { cls:=.type "list",data:=.seq its.toArray n }) (hf:f its.toArray=its'.toArray) (hv:Vals ys its') (hz:ys.length<=sizeLine) :
  Inv X pins σ (upd H l (.lst ys)) { s with heap:=s.heap.update l (Obj.mapSeq f),toks:=t' }:=by
 have q:=PySem.IsL.update e f;rw[hf]at q;refine I.write (x:=l) (e:=l) (by rw[hH];exact trivial) (.inl rfl) (λb' u hb hu=>(U8 s.heap (Obj.mapSeq f) (UN hb)).trans hu) ⟨_,q⟩ ?_;exact⟨hz,its',_,hv,q⟩
def Inv.zo{its:List Value}{t':Nat}(I:Inv X pins σ H s)(hv:Vals ys its)(hz:ys.length<=sizeLine) :
  Inv X pins σ (upd H s.heap.objs.size (.lst ys)) { s with heap:=s.heap.push { cls:=.type "list",data:=.seq its.toArray },toks:=t' }:=
 I.laid (λ_ _ q=>iR _ q) (qT _) ⟨hz,its,0,hv,QS _ rfl⟩
theorem Inv.fresh(I:Inv X pins σ H s):H s.heap.objs.size=none:=I.hok.fresh (qT _)
def Inv.uG (I:Inv X pins σ H s) (hH:H l=some (.lst xs)):xs.length<=sizeLine/\∃(its:List Value) (n:Nat),Vals xs its/\xs.length=its.length/\s.heap.get? l=some { cls:=.type "list",data:=.seq its.toArray n }:=by
 obtain⟨z,its,n,r,e⟩:=I.hok l _ hH;exact⟨z,its,n,r,r.length,e⟩
def CQ{n:Nat}(h:n<=sizeLine):Builtin.List.listTooLong n=false:=by
 unfold Builtin.List.listTooLong;exact DX (by omega)
end
section
variable{X:Cx}
def FQ:V->List V->Hp->VK->Prop:=λx vs H Q=>∃l xs y,x=.ref l/\vs=[y]/\H l=some (.lst xs)/\xs.length<sizeLine/\Q .aO (upd H l (.lst (xs++[y])))
def mJ:OJ X "list.append" FQ:=by
 intro pins s σ H x vs v us Q I rx rv h;obtain⟨l,xs,y,rfl,rfl,hH,hz,q⟩:=h;cases rx;obtain⟨u,rfl,ru⟩:=rv.one;obtain⟨z,its,n,r,hl,e⟩:=I.uG hH;refine Ur F.slot_list_append ⟨_,e,rfl⟩ F.entry_list_append (F.args_list_append_2 _ _) (PySem.list_append l its.toArray n u (by rw[lI];omega)) ⟨e,?_⟩;refine⟨.aO,_,I.IZ (its':=its++[u]) hH e (by simp) (r.append (.cons ru .nil)) ?_,rfl,q⟩;rw[HJ,T9];omega
def Qj:V->List V->Hp->VK->Prop:=λx vs H Q=>∃l xs y,x=.ref l/\vs=[]/\H l=some (.lst xs)/\xs[xs.length - 1]?=some y/\Q y (upd H l (.lst xs.dropLast))
def I0:OJ X "list.pop" Qj:=by
 intro pins s σ H x vs v us Q I rx rv h;obtain⟨l,xs,y,rfl,rfl,hH,hy,q⟩:=h;cases rx;have Rh:=rv.zero;subst Rh;obtain⟨z,its,n,r,hl,e⟩:=I.uG hH;obtain⟨u,hu,ru⟩:=r.get hy;have hy':its.toArray[its.toArray.size - 1]?=some u:=by
  show its.toArray[its.length - 1]?=some u;rw[<-Array.getElem?_toList,<-hl];exact hu
 refine Ur F.slot_list_pop ⟨_,e,rfl⟩ F.entry_list_pop (F.args_list_pop_1 _) (MeetsSeq.list_pop_last l its.toArray n u hy' (by rw[lI];omega)) ⟨e,?_⟩;refine⟨y,_,I.IZ (its':=its.dropLast) hH e ?_ r.dropLast ?_,ru,q⟩
 .show its.toArray.eraseIdxIfInBounds (its.toArray.size - 1)=its.dropLast.toArray;rw[lI,List.eraseIdxIfInBounds_toArray,zm]
 .rw[List.length_dropLast];omega
def Qk:R2:=λx y H Q=>∃l b xs zs,x=.ref l/\y=.ref b/\H l=some (.lst xs)/\H b=some (.lst zs)/\xs.length+zs.length<=sizeLine/\∀p,H p=none->Q (.ref p) (upd H p (.lst (xs++zs)))
def Ja:cz X (binaryOp .Add) Qk:=by
 intro pins s σ H x y v u Q I rx ry h;obtain⟨l,b,xs,zs,rfl,rfl,hH,hB,hz,q⟩:=h;cases rx;cases ry;obtain⟨z,its,n,r,hl,e⟩:=I.uG hH;obtain⟨z2,its2,n2,r2,hl2,e2⟩:=I.uG hB;refine PySem.P.add_list e e2 ?_ (by rw[lI,lI];omega);have ea:its.toArray++its2.toArray=(its++its2).toArray:=by simp
 rw[ea];exact⟨.ref _,_,I.zo (t':=s.toks) (r.append r2) (by rw[HJ];omega),rfl,q _ I.fresh⟩
def Ql:R2:=λx y H Q=>∃l k xs,x=.ref l/\y=.int k/\H l=some (.lst xs)/\-(2 ^ 63)<=k/\k<2 ^ 63/\xs.length*k.toNat<=sizeLine/\
 ∀p,H p=none->Q (.ref p) (upd H p (.lst (List.replicate k.toNat xs).flatten))
def len_rep{α:Type}(xs:List α)(k:Nat):(List.replicate k xs).flatten.length=k*xs.length:=by
 induction k with
 |zero=>simp
 |succ k ih=>rw[Q5,Uk,HJ,ih,Vh,Nat.add_comm]
def Jb:cz X (binaryOp .Mult) Ql:=by
 intro pins s σ H x y v u Q I rx ry h;obtain⟨l,k,xs,rfl,rfl,hH,h1,h2,hz,q⟩:=h;cases rx;obtain⟨t,rfl⟩:=ry;obtain⟨z,its,n,r,hl,e⟩:=I.uG hH;have hlen:its.toArray.size*k.toNat<=sizeLine:=by rw[lI,<-hl];exact hz
 have hcap:¬ its.toArray.size*k.toNat > (2 ^ 63 - 1) / 8:=by
  have:(sizeLine:Nat)<=(2 ^ 63 - 1) / 8:=by decide
  omega
 have hfit:¬ (!Builtin.List.listFitsIndex k)=true:=by
  rw[fitsIndex_both h1 h2];exact Vy
 have Nl:¬ Builtin.List.listTooLong (its.toArray.size*k.toNat)=true:=by
  rw[CQ hlen];exact Vy
 have hnew:List.foldl (λx1 x2=>x1++x2) #[] (List.replicate (if its.toArray.isEmpty=true then 0 else k.toNat) its.toArray)=(List.replicate k.toNat its).flatten.toArray:=by
  have f0:∀m:Nat,List.foldl (λx1 x2=>x1++x2) #[] (List.replicate m its.toArray)=(List.replicate m its).flatten.toArray:=λm=>by
   have:=foldl_rep its m [];rw[UQ]at this;exact this
  rw[f0];cases its with
  |nil=>simp
  |cons a r'=>rw[Cd (by simp)]
 refine VH (T:="list") (U:="int") (by decide) ⟨_,e,rfl⟩ (λs'=>VF s' k t) noFill_list_mul F.fills_int_mul F.slot_int_rmul repeat_list F.slot_int_index.lookup
  (Ur F.slot_int_rmul (VF s k t) F.entry_int_rmul (F.args_int_rmul_2 _ _) (int___rmul___int_list k t l its.toArray n)
   ⟨e,rfl,⟨_,e,rfl⟩,Ur F.slot_list_mul ⟨_,e,rfl⟩ F.entry_list_mul (F.args_list_mul_2 _ _) (AutoListH.list___mul___list_int_3 l its.toArray n k t hfit hcap Nl) ⟨e,?_⟩⟩)
 rw[hnew];exact⟨.ref _,_,I.zo (t':=s.toks) (r.rep k.toNat) (by rw[len_rep,Nat.mul_comm];exact hz),rfl,q _ I.fresh⟩
end
end L2
namespace OL
open PySem PySem.W PySem.Calls PyProof.Rows
def qg{P:Params}{h:Heap}:∀(ns:List Int) (vs:List Value),WellAll P h vs (ns.map WData.int)->IntsAre vs ns:=by
 intro ns;induction ns with
 |nil=>
  intro vs w;rw[US]at w;cases w;exact .nil
 |cons n ns ih=>
  intro vs w;rw[we]at w;cases w with
  |cons a b=>
   cases a;exact .cons _ _ (ih _ b)
def AJ{l:OpenLaw}{n:Nat}(hn:l.most=some n){P:Params}{h:Heap}{args:List WData}{vals:List Value}
  (hpre:l.row.toRowW.claim.pre args=true) (hwl:WellAll P h vals args) :
  ∃a vs ns,vals=[Value.ref a]/\args=[WData.list (ns.map WData.int)]/\h.get? a=some { cls:=.type "list",data:=.seq vs.toArray }/\IntsAre vs ns/\ns.length<=n:=by
 have hsh:WShape.hasAll [] args [.list .int]=true:=(pre_splitW hpre).1;have hc:l.pre.holds [] { args:=args }=true:=(pre_splitW hpre).2;obtain⟨d,r,rfl,h1,h2⟩:=hasAllW_cons hsh;obtain rfl:=hasAllW_nil h2;obtain⟨xs,rfl,h3⟩:=hasW_list h1;obtain⟨ns,rfl⟩:=items_int h3;have hlen:ns.length<=n:=by
  unfold OpenLaw.pre at hc;have h4:(WTm.not (.lt (.lit (.int (n:Int))) (.len (.arg 0)))).holds [] { args:=[.list (ns.map .int)]}=true:=by
   have h4:=(holds_andW hc).1;rw[hn]at h4;exact h4
  have h5:=condW_of h4 (w_not (w_lt w_lit (w_len_list (w_arg rfl))));rw[L7]at h5;refine Nat.le_of_not_lt λq=>?_;have q':(n:Int)<((ns.length:Nat):Int):=by omega
  first
   | (rw[Ui q']at h5;exact absurd h5 (by decide))
   | (simp at h5;omega)
 cases hwl with
 |cons w1 w2=>
  cases w2;cases w1 with
  |list ho hall=>exact⟨_,_,ns,rfl,rfl,ho,qg ns _ hall,hlen⟩
def AK(l:OpenLaw)(args:List WData):l.row.toRowW.claim.post args (.bool true) args=true:=
 postW_of (r:=l.row.toRowW) (X:=(true==true))
  (show WShape.has [] (.bool true) .bool=true by first|rfl|decide|simp[WShape.has,WShape.arms,WShape.armsAll])
  (show(WTm.eq .res (.lit (.bool true))).value [] { args:=args,res:=some (.bool true),after:=args }=some (.bool (true==true))from w_eq_bool (w_res rfl) w_lit) rfl
def wJ{l:OpenLaw}{n:Nat}{q:Program}{loose:List Str}{XP:(Str->Option Value)->Heap->Prop}{YP:World->Heap->Prop}{d:DefRec}
  (hn:l.most=some n) (hdf:d.params.defaults=[])
  (call:∀(w:World) (s₀ s₁:Shared) (mg mb:Str->Option Value) (fa:Addr) (o:Obj) (pm cd doc:Value) (a:Addr) (vs:List Value) (ns:List Int),
   Ground q loose [] XP w s₀ mg mb s₁.heap->YP w s₁.heap->
   s₁.heap.get? fa=some o->o.data=.func (docDef d.name d.params d.body d.scope pm cd doc)->s₁.heap.CodeRec cd d.name->mg d.name=some (.ref fa)->
   s₁.heap.get? a=some { cls:=.type "list",data:=.seq vs.toArray }->IntsAre vs ns->ns.length<=n->s₁.gens = #[]->
   codeAny (model l.prog w) callerA (.call (.ref fa) ⟨[.ref a],[]⟩) (λr s'=>r=.ok (.ret (.bool true))/\OldK s₁.heap s'.heap/\s'.os=s₁.os/\AllBare s'.gens) s₁) :
  WalkO q loose XP YP l.row.toRowW d [] (λf vs=>PySem.call f vs):=by
 intro w s₀ s₁ mg mb G Y fa o pm cd doc dV kV ho hd hcd hD hmg hg args vals as hpre hlay hrd hwl hlo;obtain rfl:dV=.none:=Dflts.none hD hdf;obtain rfl:kV=.none:=Dflts.noKw hD;obtain⟨a,vs,ns,rfl,rfl,hobj,hints,hlen⟩:=AJ hn hpre hwl;refine enter_call (VM (call w s₀ s₁ mg mb fa o pm cd doc a vs ns G Y ho (fd_plain hd) hcd hmg hobj hints hlen hg) λr s' hq=>?_);obtain⟨rfl,h2,h3,h4⟩:=hq;exact⟨.inl ⟨.bool true,.bool true,[],rfl,λ_=>rfl,.bool true,AK l _,λ_=>⟨List.Pairwise.nil,λ_ hm=>(nomatch hm)⟩⟩,h2,h3,h4⟩
end OL
namespace L2
open PySem PySem.Spec PyProof.Rows
theorem sD:∀{vs:List Value}{ns:List Int},IntsAre vs ns->Vals (ns.map V.int) vs
 |_,_,.nil=>.nil
 |_,_,.cons n t h=>.cons ⟨t,rfl⟩ (sD h)
def q8(H:Hp):Prop:=∀b,H b=none\/∃o xs,H b=some (.bB o (.lst xs))
def CS{P:Program}{w:World}{K:PySem.W.Frag}{mg mb:Str->Option Value}{CX:kE}{k:Nat}{fa a:Addr}{fd:FuncData}{x:Str}{sp:Sp}{s₁:Shared}{vs:List Value}{ns:List Int}
  (KX:K.In s₁.heap) (hns:s₁.heap.Ns mainGlobals mg) (hb:s₁.heap.Ns builtinsNs mb) (uH:∀x:Str,x≠"__name__" ->mb x=bootBuiltins x) (hlim:s₁.heap.NoLimit) (hg:s₁.gens = #[])
  (ha:s₁.heap.get? a=some { cls:=.type "list",data:=.seq vs.toArray }) (hi:IntsAre vs ns) (hl:ns.length<=sizeLine) (hr:eZ k callerA)
  (F:∀base:Heap,K.In base->base.Ns mainGlobals mg->fc P w K mg base CX k fa fd [x] sp) (hbind:∀(s:Shared) (u:Value),BindsTo s fd ⟨[u],[]⟩ [(x,u)])
  (dQ:∀H:Hp,q8 H->eU K H a (ns.map V.int)->sp [.ref a] H (λv _=>v=.bl true) λ_ _ _=>False)
  (AL:∀H e s',CX [] H s₁ (λ_ _ _=>False) e s'->False) :
  codeAny (model P w) callerA (.call (.ref fa) ⟨[.ref a],[]⟩) (λr s'=>r=.ok (.ret (.bool true))/\OldK s₁.heap s'.heap/\s'.os=s₁.os/\AllBare s'.gens) s₁:=by
 have rv:=sD hi;have Qm:=hi.length;have core:∀H:Hp,q8 H->eU K H a (ns.map V.int)->dw P w H s₁.heap->(∀b,H b≠none->b=a)->(H a≠none->K.lookup a=none)->
   codeAny (model P w) callerA (.call (.ref fa) ⟨[.ref a],[]⟩) (λr s'=>r=.ok (.ret (.bool true))/\OldK s₁.heap s'.heap/\s'.os=s₁.os/\AllBare s'.gens) s₁:=by
  intro H hO hS hok hA hK;have xD:∀{b:Addr} {o:Obj},s₁.heap.get? b=some o->H b=none->(kW s₁.heap H).get? b=some o:=λe n=>CA e n;have AF:∀{b:Addr} {o:Obj} {es:Array DictEntry} {ep:Nat},s₁.heap.get? b=some o->o.data=.dict es ep->H b=none:=λ{b o es ep} e d=>by
   cases q:H b with
   |none=>rfl
   |some u=>
    have e':b=a:=hA b (by rw[q];simp);subst e';rw[ha]at e;cases e;have d':Data.seq vs.toArray _=Data.dict es ep:=d;cases d'
  have Ei:∀{b:Addr} {m:Str->Option Value},s₁.heap.Ns b m->(kW s₁.heap H).Ns b m:=λ{b m} ⟨o,es,ep,e,d,r⟩=>⟨o,es,ep,xD e (AF e d),d,r⟩
  have OM:K.In (kW s₁.heap H):=λb o e=>xD (KX b o e) (by
   cases q:H b with
   |none=>rfl
   |some u=>
    have e':b=a:=hA b (by rw[q];simp);subst e';rw[hK (by rw[q];simp)]at e;cases e)
  have hM:Mod K mg (kW s₁.heap H):=⟨OM,Ei hns,⟨mb,Ei hb,uH⟩,let ⟨mc,h1,h2⟩:=hlim;⟨mc,Ei h1,h2⟩⟩
  have e0:zj P w K mg (kW s₁.heap H) callerA [] s₁ H:=⟨rfl,hM,λb o e=>Fw e,Nat.le_of_eq (Aq _ _),trivial,λb hb=>absurd (show b∈([]:List Addr)from hb) (by simp),hok,.of_eq hg⟩
  refine VM ((F _ OM (Ei hns)).run callerA [] s₁ H ⟨[.ref a],[]⟩ [.ref a] [.ref a] _ _ hr e0 (hbind s₁ (.ref a)) (.cons rfl .nil) (dQ H hO hS)) λr s' h=>?_;cases r with
  |error e=>exact(AL H e s' h).elim
  |ok fl=>
   cases fl with
   |next=>exact False.elim h
   |brk=>exact False.elim h
   |cont=>exact False.elim h
   |ret u=>
    obtain⟨v,H',os,bare,un,Qn,r',q⟩:=h;have q':v=.bl true:=q;subst q';obtain rfl:u=Value.bool true:=r';refine⟨rfl,OldK.of_keep λb o e=>?_,os,bare⟩;cases q:H b with
    |none=>exact un.keep b o e q (by intro z;exact absurd (show b∈([]:List Addr)from z) (by simp)) (by simp)
    |some u=>
     rcases hO b with z|⟨ob,xs,z⟩
     .rw[q]at z;cases z
     .have z2:=un.jy b ob _ z;obtain⟨e1,_⟩:=hok b _ z;obtain⟨e2,_⟩:=Qn b _ z2;rw[e]at e1;cases e1;exact e2
 cases hk:K.lookup a with
 |some o=>
  have e:=KX a o hk;rw[ha]at e;cases e;refine core (λ_=>none) (λ_=>.inl rfl) (.inr ⟨_,vs.toArray,_,hk,rfl,rfl,rfl,by rw[lI,Qm];exact hl,by simpa using rv⟩) (λb u z=>by have z':(none:Option HO)=some u:=z;cases z') (λb z=>absurd rfl z) λz=>absurd rfl z
 |none=>
  refine core (λb=>if b=a then some (.bB { cls:=.type "list",data:=.seq vs.toArray } (.lst (ns.map V.int)))else none) (λb=>?_) (.inl (.inr ⟨{ cls:=.type "list",data:=.seq vs.toArray },cG rfl⟩)) (λb u z=>?_) (λb z=>?_) λ_=>hk
  .by_cases hb:b=a
   .exact .inr ⟨_,_,cG hb⟩
   .exact .inl (Cd hb)
  .by_cases hb:b=a
   .have z':=(cG hb).symm.trans z;cases z';subst hb;exact⟨ha,by rw[L7];exact hl,vs,_,rv,ha⟩
   .have z':=(Cd hb).symm.trans z;cases z'
  .by_cases hb:b=a
   .exact hb
   .exact absurd (Cd hb) z
def FT{l:PySem.W.OpenLaw}{n k:Nat}{q:Program}{loose:List Str}{XP:(Str->Option Value)->Heap->Prop}{YP:World->Heap->Prop}{d:DefRec}{K:Params->PySem.W.Frag}{CX:World->kE}{sp:World->Sp}{x:Str}
  (hn:l.most=some n) (hn2:n<=sizeLine) (hdf:d.params.defaults=[]) (hr:eZ k callerA)
  (hY:∀(w:World) (h:Heap),YP w h->(K w.params).In h)
  (F:∀(w:World) (mg:Str->Option Value) (fa:Addr) (h:Heap),(K w.params).In h->h.Ns mainGlobals mg->mg d.name=some (.ref fa)->
   ∃fd:FuncData,(∀(s:Shared) (u:Value),BindsTo s fd ⟨[u],[]⟩ [(x,u)])/\
    ∀base:Heap,(K w.params).In base->base.Ns mainGlobals mg->fc l.prog w (K w.params) mg base (CX w) k fa fd [x] (sp w))
  (dQ:∀(w:World) (H:Hp) (a:Addr) (ns:List Int),ns.length<=n->q8 H->eU (K w.params) H a (ns.map V.int)->sp w [.ref a] H (λv _=>v=.bl true) λ_ _ _=>False)
  (AL:∀(w:World) (H:Hp) (s:Shared) (e:Value) (s':Shared),CX w [] H s (λ_ _ _=>False) e s'->False) :
  PySem.W.WalkO q loose XP YP l.row.toRowW d [] (λf vs=>PySem.call f vs):=by
 refine OL.wJ hn hdf λw s₀ s₁ mg mb fa o pm cd doc a vs ns G Y ho hd hcd hmg hobj hints hlen hg=>?_;have KX:=hY w _ Y;obtain⟨fd,hb,hF⟩:=F w mg fa _ KX G.T.g hmg;exact CS KX G.T.g G.T.b G.T.builtins G.T.nolimit hg hobj hints (HK hlen hn2) hr hF hb (λH hO hS=>dQ w H a ns hlen hO hS) λH e s'=>AL w H s₁ e s'
def CT{l:PySem.W.OpenLaw}{n k:Nat}{q:Program}{loose:List Str}{XP:(Str->Option Value)->Heap->Prop}{YP:World->Heap->Prop}{d:DefRec}{K:Params->PySem.W.Frag}{CX:kE}{sp:PySem.W.Frag->Sp}{x:Str}
  (hn:l.most=some n) (hn2:n<=sizeLine) (hdf:d.params.defaults=[]) (hr:eZ k callerA)
  (hY:∀(w:World) (h:Heap),YP w h->(K w.params).In h)
  (F:∀(w:World) (mg:Str->Option Value) (fa:Addr) (h:Heap),(K w.params).In h->h.Ns mainGlobals mg->mg d.name=some (.ref fa)->
   ∃fd:FuncData,(∀(s:Shared) (u:Value),BindsTo s fd ⟨[u],[]⟩ [(x,u)])/\
    ∀base:Heap,(K w.params).In base->base.Ns mainGlobals mg->fc l.prog w (K w.params) mg base CX k fa fd [x] (sp (K w.params)))
  (dQ:∀(K:PySem.W.Frag) (H:Hp) (a:Addr) (ns:List Int),ns.length<=n->q8 H->eU K H a (ns.map V.int)->sp K [.ref a] H (λv _=>v=.bl true) λ_ _ _=>False)
  (AL:∀(H:Hp) (s:Shared) (e:Value) (s':Shared),CX [] H s (λ_ _ _=>False) e s'->False) :
  PySem.W.WalkO q loose XP YP l.row.toRowW d [] (λf vs=>PySem.call f vs):=
 FT (K:=K) (CX:=λ_=>CX) (sp:=λw=>sp (K w.params)) hn hn2 hdf hr hY F (λw H a ns h1 h2 h3=>dQ (K w.params) H a ns h1 h2 h3) λ_ H s e s'=>AL H s e s'
noncomputable def nI(s:Stmt):Arguments:=match s with
 |.FunctionDef _ a _ _ _ _ _ _ _ _=>a
 |_=>{ posonlyargs:=[],args:=[],vararg:=none,kwonlyargs:=[],kw_defaults:=[],kwarg:=none,defaults:=[]}
noncomputable def cF(s:Stmt):List Stmt:=match s with
 |.FunctionDef _ _ b _ _ _ _ _ _ _=>b
 |_=>[]
noncomputable def aF(s:Stmt):Scope:=match s with
 |.FunctionDef _ _ _ _ _ _ sc _ _ _=>sc
 |_=>{ kind:=.function,names:=[],isGenerator:=false,isCoroutine:=false }
abbrev kG:kE:=λ_ _ _ _ _ _=>False
abbrev E0:XK:=λ_ _ _=>False
def Nm{X:Cx}:Passes kG X E0:=λ_ _ _ _ _ _ _ h=>h.elim
structure qh(K:PySem.W.Frag)(x qual:Str)(st:Stmt)(f:Addr)(fd:FuncData):Prop where
 ex:∃(oc:Value) (od:Option Addr) (kV doc pm:Value) (an:Option Addr) (cdv ct:Value) (osl:Array (Option Value)),
  fd=PySem.W.fnOf x qual (nI st) (cF st) (aF st) .none kV doc pm an cdv ct/\K.lookup f=some ⟨oc,od,.func fd,osl⟩/\PySem.W.codeIn K cdv qual=true
 kp:PySem.W.keepIn K (.ref f)=true
section
variable{P:Program}{w:World}{K:PySem.W.Frag}{mg:Str->Option Value}{base:Heap}
def qh.ok{x qual:Str}{st:Stmt}{f:Addr}{fd:FuncData}{N ps:List Str}{k:Nat}{sp:Sp}(F:qh K x qual st f fd)(S:bJ N ps (aF st))(len:∀vs H Q E,sp vs H Q E->vs.length=ps.length)
  (hbody:∀(cdv:Value) (A:Around) (outer:List Env) (s:Shared) (H:Hp) (vs:List V) (Q:VK) (E:XK),eZ k (A.deeper (envOfC qual (aF st) s.heap.objs.size f cdv))->sp vs H Q E->
   ∃t,gj (kh kG P w K mg base N qual (aF st) f cdv A outer s H E).cT (cF st) t/\t { nx:=λ_ H'=>Q .aO H',rt:=Q } (start N vs) H):fc P w K mg base kG (k+1) f fd ps sp:=by
 obtain⟨oc,od,kV,doc,pm,an,cdv,ct,osl,rfl,lk,hcd⟩:=F.ex;refine Eg lk hcd S len λA outer s H vs Q E hr dQ=>?_;obtain⟨t,h,q⟩:=hbody cdv A outer s H vs Q E hr dQ;exact⟨t,h.cT,q⟩
def qh.binds{x qual:Str}{st:Stmt}{f:Addr}{fd:FuncData}{ps:List Str}(F:qh K x qual st f fd)
  (h:∀(kV doc pm:Value) (an:Option Addr) (cdv ct:Value) (us:List Value),us.length=ps.length->bindArgs (PySem.W.fnOf x qual (nI st) (cF st) (aF st) .none kV doc pm an cdv ct) ⟨us,[]⟩=pure (ps.zip us)):Binds K fd ps []:=by
 obtain⟨oc,od,kV,doc,pm,an,cdv,ct,osl,rfl,lk,hcd⟩:=F.ex;exact .all (h kV doc pm an cdv ct)
def cH{x qual:Str}{st:Stmt}{f:Addr}{oc:Value}{od an:Option Addr}{osl:Array (Option Value)}{kV doc pm cdv ct:Value}(l:K.lookup f=some ⟨oc,od,.func (PySem.W.fnOf x qual (nI st) (cF st) (aF st) .none kV doc pm an cdv ct),osl⟩)
  (c:PySem.W.codeIn K cdv qual=true) (k:PySem.W.keepIn K (.ref f)=true):qh K x qual st f (PySem.W.fnOf x qual (nI st) (cF st) (aF st) .none kV doc pm an cdv ct):=⟨⟨oc,od,kV,doc,pm,an,cdv,ct,osl,rfl,l,c⟩,k⟩
end
def Np{A:Around}{k:Nat}(hr:eZ k A):A.units+1<cLine:=Nat.lt_of_le_of_lt (Nat.add_le_add_left (by decide:1<=64) _) hr.units
section
variable{X:Cx}
def pv (i:Nat) {x:Str}{pos:Pos}(hN:X.N[i]?=some x:=by rfl) (hv:rZ X.env.scope x:=by first|exact Or.inl rfl|exact Or.inr (Or.inl rfl)|exact Or.inr (Or.inr rfl)) (hd:(x==("__debug__" : Str))=false:=by decide)
  (hcd:(x==("__classdict__" : Str))=false:=by decide):PE X (.Name x pos) (Im i):=qd hN hv hd hcd
end
section
variable{κ:Type}[DecidableEq κ]
noncomputable def jD(kvs:List (κ×V))(k:κ):Option V:=(kvs.find? λkv=>decide (kv.1=k)).map (·.2)
noncomputable def putK(kvs:List (κ×V))(k:κ)(v:V):List (κ×V):=
 if (kvs.any λkv=>decide (kv.1=k))=true then kvs.map (λkv=>if kv.1=k then (kv.1,v)else kv)else kvs++[(k,v)]
def pe{p:κ×V}{r:List (κ×V)}{k:κ}(e:p.1=k):jD (p :: r) k=some p.2:=by simp[jD,Ut,e]
def uI{p:κ×V}{r:List (κ×V)}{k:κ}(e:¬ p.1=k):jD (p :: r) k=jD r k:=by simp[jD,Ut,e]
def wK(kvs:List (κ×V))(k:κ)(v:V):(putK kvs k v).length<=kvs.length+1:=by
 unfold putK;split
 .rw[L7];omega
 .rw[HJ,MZ,UA];omega
def KV.val{kvs:List (κ×V)}{vs:List (κ×Value)}(r:KV kvs vs)(k:κ):kU (jD kvs k) (valueAt vs k):=by
 unfold KV at r;induction r with
 |nil=>exact True.intro
 |@cons p q ps qs h t ih=>
  obtain⟨h1,h2⟩:=h;by_cases e:p.1=k
  .have e':q.1=k:=h1.symm.trans e;have b:valueAt (q :: qs) k=some q.2:=by simp[valueAt,Ut,e']
   rw[pe e,b];exact h2
  .have e':¬ q.1=k:=λz=>e (h1.trans z);have b:valueAt (q :: qs) k=valueAt qs k:=by simp[valueAt,Ut,e']
   rw[uI e,b];exact ih
theorem KV.any{kvs:List (κ×V)}{vs:List (κ×Value)}(r:KV kvs vs)(k:κ):(kvs.any λkv=>decide (kv.1=k))=vs.any λkv=>decide (kv.1=k):=by
 unfold KV at r;induction r with
 |nil=>rfl
 |cons h t ih=>rw[Vz,Vz,ih,h.1]
def KV.repl{kvs:List (κ×V)}{vs:List (κ×Value)}(r:KV kvs vs)(k:κ){y:V}{u:Value}(ry:RelV y u) :
  KV (kvs.map λkv=>if kv.1=k then (kv.1,y)else kv) (vs.map λkv=>if kv.1=k then (kv.1,u)else kv):=by
 unfold KV at r ⊢;induction r with
 |nil=>exact .nil
 |@cons p q ps qs h t ih=>
  rw[we,we];refine .cons ?_ ih;obtain⟨h1,h2⟩:=h;by_cases e:p.1=k
  .rw[cG e,cG (h1.symm.trans e)];exact⟨h1,ry⟩
  .rw[Cd e,Cd (λz=>e (h1.trans z))];exact⟨h1,h2⟩
def KV.put{kvs:List (κ×V)}{vs:List (κ×Value)}(r:KV kvs vs)(k:κ){y:V}{u:Value}(ry:RelV y u):KV (putK kvs k y) (stored vs k u):=by
 unfold putK stored;rw[r.any k];by_cases e:(vs.any λkv=>decide (kv.1=k))=true
 .rw[cG e,cG e];exact r.repl k ry
 .rw[Cd e,Cd e];exact Paired.snoc r ⟨rfl,ry⟩
end
def zp{P:Program}{w:World}{k:Key}{u:Value}(r:RelV (kV k) u):(cJ P w).is k u=true:=by
 cases k with
 |inl i=>obtain⟨t,e⟩:=(show ∃t,u=Value.int i t from r);subst e;exact wH P w i t
 |inr x=>obtain⟨t,e⟩:=(show ∃t,u=Value.str x t from r);subst e;exact wI P w x t
theorem sE{P:Program}{w:World}:∀{ks:List Key}{us:List Value},Vals (ks.map kV) us->ItemsAre (cJ P w) ks us
 |[],_,r=>by rw[US]at r;cases r;exact .nil
 |k :: ks,_,r=>by
  rw[we]at r;cases r with
  |cons h t=>exact .cons (zp h) (sE t)
abbrev KT(H:Hp):List (List Key×V)->List (List Key×Addr×Value)->Prop:=Paired λp q=>p.1=q.1/\H q.2.1=some (.tup (p.1.map kV))/\RelV p.2 q.2.2
def KT.val{H:Hp}{kvs:List (List Key×V)}{xs:List (List Key×Addr×Value)}(r:KT H kvs xs)(k:List Key):kU (jD kvs k) ((atKey xs k).map (·.2)):=by
 induction r with
 |nil=>exact True.intro
 |@cons p q ps qs h t ih=>
  obtain⟨h1,_,h2⟩:=h;by_cases e:p.1=k
  .have e':q.1=k:=h1.symm.trans e;have b:atKey (q :: qs) k=some q.2:=by simp[atKey,Ut,e']
   rw[pe e,b];exact h2
  .have e':¬ q.1=k:=λz=>e (h1.trans z);have b:atKey (q :: qs) k=atKey qs k:=by simp[atKey,Ut,e']
   rw[uI e,b];exact ih
section
variable{P:Program}{w:World}{H:Hp}{h:Heap}{a:Addr}
def Ej{u:HO}(ok:dw P w H h)(e:Rd H a u):b5 P w H h a u:=e.ok ok
def zu{kvs:List (Key×V)}(ok:dw P w H h)(e:Rd H a (.dK kvs)):kvs.length<=sizeLine/\(a==sysModules)=false/\∃vs,KV kvs vs/\h.DictOf (cJ P w) a vs:=
 show b5 P w H h a (.dK kvs)from Ej ok e
def Nq{kvs:List (Key×V)}(ok:dw P w H h)(e:H a=some (.dK kvs)):kvs.length<=sizeLine/\(a==sysModules)=false/\∃vs,KV kvs vs/\h.DictOf (cJ P w) a vs:=zu ok (.inl e)
def AM{ks:List Key}(ok:dw P w H h)(e:H a=some (.tup (ks.map kV))):(tupleKind (cJ P w)).is h ks a:=by
 obtain⟨_,its,r,o,h1,h2,n,h3⟩:=(show b5 P w H h a (.tup (ks.map kV))from ok a _ e)
 exact⟨o,its.toArray,n,h1,h2,h3,by simpa using sE r⟩
def Ek{kvs:List (List Key×V)}(ok:dw P w H h)(e:Rd H a (.dT kvs)):kvs.length<=sizeLine/\(a==sysModules)=false/\
  ∃xs,KT H kvs xs/\h.DictOfH (tupleKind (cJ P w)) a xs:=by
 obtain⟨z,y,xs,r,o,es,ep,h1,h2,h3,h4,h5⟩:=(show b5 P w H h a (.dT kvs)from Ej ok e)
 refine⟨z,y,xs,r,o,es,ep,h1,h2,h3,h4,λx hx=>?_,h5⟩;have all:∀{l:List (List Key×V)} {m:List (List Key×Addr×Value)},KT H l m->∀x∈m,(tupleKind (cJ P w)).is h x.1 x.2.1:=by
  intro l m q;induction q with
  |nil=>intro x hx;exact nomatch hx
  |@cons p q ps qs hq t ih=>
   intro x hx;rcases List.mem_cons.mp hx with e|hx
   .subst e;exact AM ok (by rw[<-hq.1];exact hq.2.1)
   .exact ih x hx
 exact all r x hx
end
def CU(H:Hp)(a:Addr)(y:V)(r:Option V):Prop:=
 (∃kvs k,Rd H a (.dK kvs)/\y=kV k/\r=jD kvs k)\/∃kvs k b,Rd H a (.dT kvs)/\y=.ref b/\H b=some (.tup (k.map kV))/\r=jD kvs k
section
variable{X:Cx}{pins:List (Addr×Obj)}{σ:St}{H:Hp}{s:Shared}{a:Addr}{y v:V}{u:Value}{o:Option V}{A:Around}{E:Value->Shared->Prop}
def Inv.big(I:Inv X pins σ H s):sysModules<s.heap.objs.size:=by
 have h:mainGlobals<s.heap.objs.size:=(I.mod.glob.keeps I.bk).lt;exact Nat.lt_trans (by decide) h
def AN{Q:Value->Shared->Prop}(hu:A.units+1<cLine)(I:Inv X pins σ H s)(g:CU H a y (some v))(ry:RelV y u)(h:∀w' s',Inv X pins σ H s'->RelV v w'->Q w' s') :
  wpAny (model X.prog X.w) A (getItem (.ref a) u) Q E s:=by
 rcases g with ⟨kvs,k,e,ey,l⟩|⟨kvs,k,b,e,ey,eb,l⟩
 .subst ey;obtain⟨z,hd,vs,rel,dd⟩:=zu I.hok e;obtain⟨w',hw,rw'⟩:=kU.some_of (v:=v) (o:=valueAt vs k) (by rw[l];exact rel.val k);exact wpAny_getItem_of (zp ry) dd.mapOf hw (h w' _ (I.tok _) rw')
 .subst ey;cases (show u=Value.ref b from ry);obtain⟨z,hd,xs,rel,dd⟩:=Ek I.hok e;obtain⟨w',hw,rw'⟩:=kU.some_of (v:=v) (o:=(atKey xs k).map (·.2)) (by rw[l];exact rel.val k);obtain⟨p,hp,hp2⟩:=Option.map_eq_some_iff.mp hw;refine wpAny_getItem_heap (tupleKind_room_in1 hu) (AM I.hok eb) dd hp ?_;rw[hp2];exact h w' _ (I.tok _) rw'
def FU{h':Heap}{t':Nat}{ob:HO}(I:Inv X pins σ H s)(mu:Ao (H a))(hs:Heap.SameBut a s.heap h')(he:∃q,h'.get? a=some q)(new:b5 X.prog X.w (upd H a ob) h' a ob) :
  Inv X pins σ (upd H a ob) { s with heap:=h',toks:=t' }:=
 I.write (x:=a) (e:=a) mu (.inl rfl) (λb q hb z=>(hs.2 b hb).trans z) he new
def Jc{P:Program}{w:World}{H':Hp}{h':Heap}{kvs:List (Key×V)}{vs:List (Key×Value)}(z:kvs.length<=sizeLine)(hd:(a==sysModules)=false)(rel:KV kvs vs)(dd:h'.DictOf (cJ P w) a vs) :
  b5 P w H' h' a (.dK kvs):=⟨z,hd,vs,rel,dd⟩
end
def CV(i:Expr):Prop:=∀ov iv,subscripted i false ov iv=operate [ov,iv] (getItem ov iv)
def FY{prog:Program}{w:World}{A:Around}{E:Value->Shared->Prop}{s:Shared}{env:Env}{value slice:Expr}{pos:Pos}{T id:String}{Q:Value->Shared->Prop}
  (hl:typeLookup (.type T) "__getitem__" = pure (some (.builtin id))) (hs:CV slice)
  (h:wpAny (model prog w) A (eval value env) (λo s₁=>wpAny (model prog w) A (eval slice env) (λi s₂=>s₂.TypeIs o T/\wpAny (model prog w) A (getItem o i) Q E s₂) E s₁) E s) :
  wpAny (model prog w) A (eval (.Subscript value slice pos) env) Q E s:=by
 refine VG (E9 h (λo s₁ h₁=>E9 h₁ (λi s₂ h₂=>?_) λ_ _ x=>x) λ_ _ x=>x);obtain⟨hT,h₂⟩:=h₂;unfold subscriptTail;refine b8 ?_;rw[getitemInPython_of_ne hT.not_modules];refine b8 (wpAny_specialOf hT hl ?_);have fin:wpAny (model prog w) A (subscripted slice false o i) (λr s₃=>wpAny (model prog w) A (letTemporaryGo value o r >>= λ_=>pure r) Q E s₃) E s₂:=by
  rw[hs o i];exact wpAny_operating (E9 h₂ (λr s₃ h₃=>b8 (wpAny_letTemporaryGo (eS h₃))) λ_ _ x=>x)
 first
  |exact eS (b8 fin)
  |exact b8 (eS (b8 fin))
  |exact b8 fin
def wL {X:Cx}{pins:List (Addr×Obj)}{σ:St}{H:Hp}{s:Shared}{a:Addr}{y:V}{o:Option V}(I:Inv X pins σ H s) (g:CU H a y o):s.TypeIs (.ref a) "dict" :=by
 rcases g with ⟨kvs,k,e,_,_⟩|⟨kvs,k,b,e,_,_,_⟩
 .obtain⟨_,_,vs,_,dd⟩:=zu I.hok e;exact dd.typeIs
 .obtain⟨_,_,xs,_,dd⟩:=Ek I.hok e;exact dd.typeIs
noncomputable def Nr(td ty:TE):TE:=λσ H Q=>td σ H λx H1=>ty σ H1 λy H2=>∃a v,x=.ref a/\CU H2 a y (some v)/\Q v H2
section
variable{X:Cx}{o i:Expr}{pos:Pos}{td ty:TE}
def FZ(hu:X.A.units+1<cLine)(ho:PE X o td)(hi:PE X i ty)(hs:CV i):PE X (.Subscript o i pos) (Nr td ty):=by
 intro pins s σ H Q I h;refine FY PySem.F.slot_dict_getitem.lookup hs (aQ (ho pins s σ H _ I h) λu s1 ⟨x,H1,I1,rx,q1⟩=>aQ (hi pins s1 σ H1 _ I1 q1) λiv s2 ⟨y,H2,I2,ry,a,v,ex,g,q2⟩=>?_);subst ex;obtain rfl:u=Value.ref a:=rx;exact⟨wL I2 g,AN hu I2 g ry λw' s3 I3 rw'=>⟨v,H2,I3,rw',q2⟩⟩
end
def CW {P:Program}{w:World}{H:Hp}(h:Heap) (hb:sysModules<h.objs.size):b5 P w H (h.push { cls:=.type "dict",data:=.dict #[]}) h.objs.size (.dK []):=
 ⟨UE _,beq_eq_false_iff_ne.mpr (UN (QT hb)),[],.nil,Heap.DictOf.new h⟩
def qi:List (TE×TE)->St->Hp->(List (V×V)->Hp->Prop)->Prop
 |[],_,H,Q=>Q [] H
 | (tk,tv) :: r,σ,H,Q=>tk σ H λx H1=>tv σ H1 λy H2=>qi r σ H2 λps H3=>Q ((x,y) :: ps) H3
abbrev VV:List (V×V)->List (Value×Value)->Prop:=Paired λp q=>RelV p.1 q.1/\RelV p.2 q.2
def AO(X:Cx)(pos:Pos)(keys:List (Option Expr))(values:List Expr)(jT:List (TE×TE)):Prop:=
 ∀(pins:List (Addr×Obj)) (s:Shared) (σ:St) (H:Hp) (Q:List (V×V)->Hp->Prop),Inv X pins σ H s->qi jT σ H Q->
  wpAny (model X.prog X.w) X.A (evalPairs (pairTrees keys values X.env pos)) (λvs s'=>∃ps H',Inv X pins σ H' s'/\VV ps vs/\Q ps H') X.xe s
def Ga{X:Cx}{pos:Pos}:AO X pos [] [] []:=λpins s σ H Q I h=>pairTrees_nil_walk ⟨[],H,I,.nil,h⟩
def CY{X:Cx}{pos:Pos}{k v:Expr}{ks:List (Option Expr)}{vs:List Expr}{tk tv:TE}{jT:List (TE×TE)}(hk:PE X k tk)(hv:PE X v tv)(hr:AO X pos ks vs jT) :
  AO X pos (some k :: ks) (v :: vs) ((tk,tv) :: jT):=λpins s σ H Q I h=>
 pairTrees_cons_walk (aQ (hk pins s σ H _ I h) λu s1 ⟨x,H1,I1,rx,q1⟩=>aQ (hv pins s1 σ H1 _ I1 q1) λw2 s2 ⟨y,H2,I2,ry,q2⟩=>
  aQ (hr pins s2 σ H2 _ I2 q2) λws s3 ⟨ps,H3,I3,rel,q3⟩=>⟨(x,y) :: ps,H3,I3,.cons ⟨rx,ry⟩ rel,q3⟩)
def kH(kvs more:List (Key×V)):List (Key×V):=more.foldl (λacc kv=>putK acc kv.1 kv.2) kvs
def KV.merge:∀{more:List (Key×V)}{rs:List (Key×Value)}{kvs:List (Key×V)}{vs:List (Key×Value)},KV more rs->KV kvs vs->KV (kH kvs more) (merged vs rs):=by
 intro more rs kvs vs r;unfold KV at r;induction r generalizing kvs vs with
 |nil=>intro q;exact q
 |@cons p q ps qs h t ih=>
  intro r0;have e:KV (putK kvs p.1 p.2) (stored vs q.1 q.2):=by
   have:=r0.put p.1 h.2;rw[<-h.1];exact this
  exact ih e
theorem lP:∀(more kvs:List (Key×V)),(kH kvs more).length<=kvs.length+more.length
 |[],kvs=>by show kvs.length<=kvs.length+0;omega
 |p :: r,kvs=>by
  have h1:=lP r (putK kvs p.1 p.2);have h2:=wK kvs p.1 p.2;show(kH (putK kvs p.1 p.2) r).length<=_;rw[MZ];omega
theorem qj{P:Program}{w:World}:∀{kvs:List (Key×V)}{ws:List (Value×Value)},VV (kvs.map λkv=>(kV kv.1,kv.2)) ws->∃rs,Carries (cJ P w) ws rs/\KV kvs rs
 |[],_,r=>by rw[US]at r;cases r;exact⟨[],True.intro,.nil⟩
 |p :: kvs,_,r=>by
  rw[we]at r;cases r with
  |@cons a b as bs h t=>
   obtain⟨rs,c,q⟩:=qj (P:=P) (w:=w) t;obtain⟨b1,b2⟩:=b;exact⟨(p.1,b2) :: rs,⟨zp h.1,rfl,c⟩,.cons ⟨rfl,h.2⟩ q⟩
end L2
namespace Ev
inductive D where
 |aO|bl (b:Bool)|int (i:Int)|str (s:List Nat)|tup (ds:List D)|ref (n:Nat)
inductive O where
 |lst (ds:List D)|bB (ds:List D)
abbrev Hh:=List O
abbrev Fr:=List (Option D)
inductive R(α:Type) where
 |ok (a:α) (h:Hh)
 |bad
noncomputable def R.bind{α β:Type}(r:R α)(f:α->Hh->R β):R β:=
 match r with
 |.ok a h=>f a h
 |.bad=>.bad
@[simp] theorem aj{α β:Type}(a:α)(h:Hh)(f:α->Hh->R β):(R.ok a h).bind f=f a h:=rfl
@[simp] theorem CZ{α β:Type}(f:α->Hh->R β):(R.bad:R α).bind f=.bad:=rfl
def ah{α β:Type}{r:R α}{f:α->Hh->R β}{b:β}{h:Hh}(e:r.bind f=.ok b h):∃a h1,r=.ok a h1/\f a h1=.ok b h:=by
 cases r with
 |ok a h1=>exact⟨a,h1,rfl,e⟩
 |bad=>cases e
noncomputable def R.of{α:Type}(o:Option α)(h:Hh):R α:=match o with
 |some a=>.ok a h
 |none=>.bad
@[simp] theorem cg{α:Type}(a:α)(h:Hh):R.of (some a) h=.ok a h:=rfl
@[simp] theorem of_none{α:Type}(h:Hh):R.of (none:Option α) h=.bad:=rfl
def aD{α:Type}{o:Option α}{h h':Hh}{a:α}(e:R.of o h=.ok a h'):o=some a/\h'=h:=by
 cases o with
 |none=>cases e
 |some b=>cases e;exact⟨rfl,rfl⟩
inductive bu where
 |add|sub|mul|fdiv|mod
inductive aV where
 |eq|ne|lt|gt
 |le|ge
 |isin|cC
inductive TY where
 |int|bool|str|tuple|list
inductive BI where
 |len|sum|min
 |all
 |kY
 |gn|jE
inductive ME where
 |join|append|extend|pop
inductive T where
 |one (i:Nat)|many (l:List Nat)
mutual
inductive E where
 |c (d:D)|v (i:Nat)|tup (es:Es)|lst (es:Es)
 |bin (o:bu) (a b:E)|cmp (o:aV) (a b:E)
 |ch (o p:aV) (a b c:E)
 |nt (a:E)|neg (a:E)|an (a b:E)|orr (a b:E)|iH (t a b:E)
 |ix (a b:E)|sl (a:E) (lo hi:Eo)
 |rv (a:E)
 |fh (a b:E)
 |cl (f:Nat) (es:Es)|bi (b:BI) (es:Es)|me (m:ME) (o:E) (es:Es)
 |dM (a:E) (ts:List TY)
 |comp (elt:E) (t:T) (it:It) (cond:Eo)
 |fN (it:It)
 |dJ (kvs:List (D×D)) (a:E)
 |fO (a:E)
inductive Es where
 |nil|cons (e:E) (es:Es)
inductive Eo where
 |no|yes (e:E)
inductive It where
 |seq (e:E)|fz (es:Es)
 |ir (a b:E)
 |rev (a:E)
end
mutual
inductive S where
 |set (i:Nat) (e:E)
 |exp (e:E)|ret (e:E)|iff (t:E) (a b:Ss)|for (t:T) (it:It) (b:Ss)|oE (t:E) (b:Ss)
 |cA (c:Nat)
 |tr (f k:Nat) (es:Es)
inductive Ss where
 |nil|cons (s:S) (ss:Ss)
end
inductive Fl where
 |nx|bk|ct|ret (d:D)
noncomputable def big:Nat:=16777216
noncomputable def bZ(f:D->D->Option Bool):List D->List D->Option Bool
 |[],[]=>some true
 |x :: xs,y :: ys=>do
  let b <-f x y
  let c <-bZ f xs ys
  pure (b&&c)
 |_,_=>some false
noncomputable def aP(h:Hh)(n:Nat):Option (List D):=match h[n]? with
 |some (.lst ds)=>some ds
 |some (.bB ds)=>some ds
 |_=>none
noncomputable def b2i(b:Bool):Int:=if b then 1 else 0
def jF(h:Hh)(f:D->D->Option Bool)(a b:Nat):Option Bool:=if a=b then (aP h a).map λ_=>true else match h[a]?,h[b]? with
 |some (.lst x),some (.lst y)=>bZ f x y
 |some (.bB x),some (.lst y)=>bZ f x y
 |some (.lst x),some (.bB y)=>bZ f x y
 |_,_=>none
def fP(h:Hh):Nat->D->D->Option Bool
 |0,_,_=>none
 |_+1,.aO,.aO=>some true
 |_+1,.bl a,.bl b=>some (a==b)
 |_+1,.int a,.int b=>some (a==b)
 |_+1,.bl a,.int b=>some (b2i a==b)
 |_+1,.int a,.bl b=>some (a==b2i b)
 |_+1,.str a,.str b=>some (a==b)
 |n+1,.tup a,.tup b=>bZ (fP h n) a b
 |n+1,.ref a,.ref b=>jF h (fP h n) a b
 |_+1,.ref a,_=>(aP h a).map λ_=>false
 |_+1,_,.ref a=>(aP h a).map λ_=>false
 |_+1,_,_=>some false
noncomputable def deep:Nat:=20
def truthy(h:Hh):D->Option Bool
 |.aO=>some false
 |.bl b=>some b
 |.int i=>some (i != 0)
 |.str s=>some (!s.isEmpty)
 |.tup ds=>some (!ds.isEmpty)
 |.ref n=>match h[n]? with
  |_=>(aP h n).map λds=>!ds.isEmpty
def alloc(ds:List D)(h:Hh):R D:=if ds.length<=big then .ok (.ref h.length) (h++[.lst ds])else .bad
noncomputable def rep{α:Type}(k:Nat)(l:List α):List α:=(List.replicate k l).flatten
noncomputable def bS(i j:Int):Bool:=(decide (-(2 ^ 64)<i)&&decide (i<2 ^ 64)) || (decide (-(2 ^ 64)<j)&&decide (j<2 ^ 64))
def bG:bu->D->D->Hh->R D
 |.add,.int i,.int j,h=>.ok (.int (i+j)) h
 |.add,.str a,.str b,h=>if a.length+b.length<=big then .ok (.str (a++b)) h else .bad
 |.add,.tup a,.tup b,h=>if a.length+b.length<=big then .ok (.tup (a++b)) h else .bad
 |.add,.ref a,.ref b,h=>match h[a]?,h[b]? with
  |some (.lst x),some (.lst y)=>alloc (x++y) h
  |_,_=>.bad
 |.sub,.int i,.int j,h=>.ok (.int (i - j)) h
 |.mul,.int i,.int j,h=>if bS i j then .ok (.int (i*j)) h else .bad
 |.mul,.str a,.int k,h=>if 0<=k/\k<=1000/\a.length<=1000 then .ok (.str (rep k.toNat a)) h else .bad
 |.mul,.tup a,.int k,h=>if 0<=k/\k<=1000/\a.length<=1000 then .ok (.tup (rep k.toNat a)) h else .bad
 |.mul,.ref a,.int k,h=>match h[a]? with
  |some (.lst x)=>if 0<=k/\k<=1000/\x.length<=1000 then alloc (rep k.toNat x) h else .bad
  |_=>.bad
 |.fdiv,.int i,.int j,h=>if 0<j/\j<1073741824 then .ok (.int (i / j)) h else .bad
 |.mod,.int i,.int j,h=>if 0<j then .ok (.int (i % j)) h else .bad
 |_,_,_,_=>.bad
def mem(h:Hh)(x:D):List D->Option Bool
 |[]=>some false
 |y :: ys=>do
  let b <-fP h deep y x
  let c <-mem h x ys
  pure (b ||c)
def isin(x y:D)(h:Hh):Option Bool:=match y with
 |.str s=>match x with
  |.str [c]=>some (s.contains c)
  |_=>none
 |.tup ds=>mem h x ds
 |.ref n=>(aP h n).bind λds=>mem h x ds
 |_=>none
noncomputable def lexLe:List Nat->List Nat->Bool
 |[],_=>true
 |_ :: _,[]=>false
 |x :: xs,y :: ys=>if x=y then lexLe xs ys else decide (x<y)
def cop(o:aV)(x y:D)(h:Hh):Option Bool:=match o,x,y with
 |.eq,x,y=>fP h deep x y
 |.ne,x,y=>(fP h deep x y).map (!·)
 |.lt,.int i,.int j=>some (decide (i<j))
 |.le,.int i,.int j=>some (decide (i<=j))
 |.le,.str a,.str b=>some (lexLe a b)
 |.gt,.int i,.int j=>some (decide (j<i))
 |.ge,.int i,.int j=>some (decide (j<=i))
 |.isin,x,y=>isin x y h
 |.cC,x,y=>(isin x y h).map (!·)
 |_,_,_=>none
noncomputable def dH(n:Nat)(i:Int):Option Nat:=if 0<=i then (if i<n then some i.toNat else none)else if -(n:Int)<=i then some (i+n).toNat else none
def bC{α:Type}(xs:List α)(i:Int):Option α:=(dH xs.length i).bind λj=>xs[j]?
def fB(x y:D)(h:Hh):Option D:=match x,y with
 |.tup ds,.int i=>bC ds i
 |.str s,.int i=>(bC s i).map λc=>.str [c]
 |.ref n,.int i=>(aP h n).bind λds=>bC ds i
 |_,_=>none
noncomputable def aJ(n d:Nat):Option Int->Nat
 |none=>d
 |some v=>if v<0 then (v+n).toNat else min v.toNat n
def cut{α:Type}(xs:List α)(lo hi:Option Int):List α:=(xs.drop (aJ xs.length 0 lo)).take (aJ xs.length xs.length hi - aJ xs.length 0 lo)
def eH(x:D)(lo hi:Option Int)(h:Hh):R D:=match x with
 |.tup ds=>.ok (.tup (cut ds lo hi)) h
 |.str s=>.ok (.str (cut s lo hi)) h
 |.ref n=>match aP h n with
  |some ds=>alloc (cut ds lo hi) h
  |none=>.bad
 |_=>.bad
def lQ(x:D)(h:Hh):R D:=match x with
 |.tup ds=>.ok (.tup ds.reverse) h
 |.ref n=>match aP h n with
  |some ds=>alloc ds.reverse h
  |none=>.bad
 |_=>.bad
def cL(h:Hh):D->TY->Bool
 |.bl _,.bool=>true
 |.bl _,.int=>true
 |.int _,.int=>true
 |.str _,.str=>true
 |.tup _,.tuple=>true
 |.ref n,.list=>(aP h n).isSome
 |_,_=>false
noncomputable def boolsOf:List D->Option (List Bool)
 |[]=>some []
 |.bl b :: ds=>(boolsOf ds).map λr=>b :: r
 |_=>none
noncomputable def intsOf:List D->Option (List Int)
 |[]=>some []
 |.int i :: ds=>(intsOf ds).map λr=>i :: r
 |_=>none
noncomputable def strsOf:List D->Option (List (List Nat))
 |[]=>some []
 |.str s :: ds=>(strsOf ds).map λr=>s :: r
 |_=>none
noncomputable def aM(sep:List Nat):List (List Nat)->List Nat
 |[]=>[]
 |[s]=>s
 |s :: t :: r=>s++sep++aM sep (t :: r)
def Jd(x:List Nat):List (List Nat)->List (List Nat)
 |[]=>[x]
 |y :: ys=>if lexLe x y then x :: y :: ys else y :: Jd x ys
def cY:List (List Nat)->List (List Nat)
 |[]=>[]
 |x :: xs=>Jd x (cY xs)
noncomputable def cO(i:Int):List Nat:=(toString i).toList.map Char.toNat
noncomputable def pq(a:Nat):Bool:=decide (48<=a)&&decide (a<=57)
def mL:List Nat->Option Int
 |[a]=>if pq a then some ((a:Int) - 48)else none
 |[a,b]=>if pq a&&pq b then some (10*((a:Int) - 48)+((b:Int) - 48))else none
 |_=>none
noncomputable def ay(c:Nat):List Nat->List (List Nat)
 |[]=>[[]]
 |x :: s=>if x=c then [] :: ay c s else match ay c s with
  |p :: ps=>(x :: p) :: ps
  |[]=>[[x]]
def uJ(x y:D):Option (List D):=match x,y with
 |.str a,.str [c]=>if c<128 then some ((ay c a).map .str)else none
 |_,_=>none
def cU(b:BI)(xs:List D)(h:Hh):R D:=match b,xs with
 |.len,[.str s]=>if s.length<=big then .ok (.int s.length) h else .bad
 |.len,[.tup ds]=>.ok (.int ds.length) h
 |.len,[.ref n]=>R.of ((aP h n).map λds=>.int ds.length) h
 |.all,[.ref n]=>R.of (((aP h n).bind boolsOf).map λbs=>.bl (bs.all id)) h
 |.sum,[.ref n]=>R.of (((aP h n).bind intsOf).map λis=>.int is.sum) h
 |.min,[.int i,.int j]=>.ok (.int (if j<i then j else i)) h
 |.kY,[.bl b]=>.ok (.int (if b then 1 else 0)) h
 |.gn,[.int i]=>if -1000000<i/\i<1000000 then .ok (.str (cO i)) h else .bad
 |.gn,[.str s]=>.ok (.str s) h
 |.jE,[.str s]=>R.of ((mL s).map .int) h
 |_,_=>.bad
def dZ(m:ME)(o:D)(xs:List D)(h:Hh):R D:=match m,o,xs with
 |.join,.str sep,[.ref n]=>match (aP h n).bind strsOf with
  |some ss=>if (ss.map (·.length)).sum+ss.length*sep.length<=big then .ok (.str (aM sep ss)) h else .bad
  |none=>.bad
 |.append,.ref n,[x]=>match h[n]? with
  |some (.lst ds)=>if ds.length<big then .ok .aO (h.set n (.lst (ds++[x])))else .bad
  |_=>.bad
 |.extend,.ref n,[.ref m]=>match h[n]?,h[m]? with
  |some (.lst ds),some (.lst es)=>if ds.length+es.length<=big then .ok .aO (h.set n (.lst (ds++es)))else .bad
  |_,_=>.bad
 |.pop,.ref n,[]=>match h[n]? with
  |some (.lst ds)=>match ds[ds.length - 1]? with
   |some x=>.ok x (h.set n (.lst ds.dropLast))
   |none=>.bad
  |_=>.bad
 |_,_,_=>.bad
def qk(m:ME)(x:D)(h:Hh):Bool:=match m,x with
 |.join,.str _=>true
 |.join,_=>false
 |_,.ref n=>(aP h n).isSome
 |_,_=>false
def dB(x:D):List (D×D)->Option D
 |[]=>none
 | (k,v) :: r=>match fP [] 1 k x with
  |some true=>some v
  |some false=>dB x r
  |none=>none
abbrev Src:=List D×List (Nat×List D)
def gb(h:Hh):D->Option Src
 |.tup ds=>some (ds,[])
 |.str s=>some (s.map λc=>.str [c],[])
 |.ref n=>(aP h n).map λds=>(ds,[(n,ds)])
 |_=>none
noncomputable def range(lo:Int)(n:Nat):List D:=(List.range n).map λ(i:Nat)=>.int (lo+i)
def dX:List D->Option Src
 |[.int j]=>if -(2 ^ 62)<=j/\j<2 ^ 62 then some (range 0 j.toNat,[])else none
 |[.int i,.int j]=>if -(2 ^ 62)<=i/\i<2 ^ 62/\-(2 ^ 62)<=j/\j<2 ^ 62 then some (range i (j - i).toNat,[])else none
 |_=>none
noncomputable def jh:Int->List D->List D
 |_,[]=>[]
 |k,x :: xs=>.tup [.int k,x] :: jh (k+1) xs
noncomputable def zv(a b:List D):Bool:=@decide (a=b) (Classical.propDecidable _)
def sF(a b:List D):zv a b=true↔a=b:=@decide_eq_true_iff _ (Classical.propDecidable _)
@[simp] theorem zw(a:List D):zv a a=true:=(sF a a).mpr rfl
def stays(h:Hh):List (Nat×List D)->Bool
 |[]=>true
 | (n,ds) :: r=>(match aP h n with|some es=>zv es ds|none=>false)&&stays h r
noncomputable def dj:List Nat->List D->Fr->Option Fr
 |[],[],fr=>some fr
 |i :: is,d :: ds,fr=>dj is ds (fr.set i (some d))
 |_,_,_=>none
def aY:T->D->Fr->Option Fr
 |.one i,d,fr=>some (fr.set i (some d))
 |.many l,.tup ds,fr=>dj l ds fr
 |_,_,_=>none
noncomputable def slots:T->List Nat
 |.one i=>[i]
 |.many l=>l
def undef(t:T)(fr:Fr):Bool:=(slots t).all λi=>(fr[i]?.join).isNone
noncomputable def Je:D->Option (List D)
 |.tup ds=>some ds
 |_=>none
def q9:D->Hh->R D
 |.tup ds,h=>.ok (.tup ds) h
 |.ref n,h=>match aP h n with
  |some ds=>if ds.length<=big then .ok (.tup ds) h else .bad
  |none=>.bad
 |_,_=>.bad
def Jf(h:Hh):D->Option Src
 |.ref n=>(aP h n).map λds=>(ds,[(n,ds)])
 |_=>none
def bw(f:D->Hh->R (Option D))(ck:List (Nat×List D)):List D->Hh->R (List D)
 |[],h=>if stays h ck then .ok [] h else .bad
 |d :: ds,h=>if stays h ck then (f d h).bind λo h1=>(bw f ck ds h1).bind λr h2=>.ok (o.toList++r) h2 else .bad
def forL(f:D->Fr->Hh->R (Fl×Fr))(ck:List (Nat×List D)):List D->Fr->Hh->R (Fl×Fr)
 |[],fr,h=>if stays h ck then .ok (.nx,fr) h else .bad
 |d :: ds,fr,h=>if stays h ck then (f d fr h).bind λp h1=>match p.1 with
   |.nx=>forL f ck ds p.2 h1
   |.ct=>forL f ck ds p.2 h1
   |.bk=>.ok (.nx,p.2) h1
   |.ret x=>.ok (.ret x,p.2) h1
  else .bad
def eL(t:Fr->Hh->R Bool)(f:Fr->Hh->R (Fl×Fr)):Nat->Fr->Hh->R (Fl×Fr)
 |0,_,_=>.bad
 |n+1,fr,h=>(t fr h).bind λb h1=>if b then (f fr h1).bind λp h2=>match p.1 with
   |.nx=>eL t f n p.2 h2
   |.ct=>eL t f n p.2 h2
   |.bk=>.ok (.nx,p.2) h2
   |.ret x=>.ok (.ret x,p.2) h2
  else .ok (.nx,fr) h1
abbrev aB:=Nat->List D->Hh->R D
noncomputable def intOf:D->Option Int
 |.int i=>some i
 |_=>none
def C3(x y:D)(h:Hh):R D:=match x,y with
 |.ref a,.ref b=>bG .add (.ref a) (.ref b) h
 |_,_=>.bad
mutual
def ev(P:aB):E->Fr->Hh->R D
 |.c d,_,h=>.ok d h
 |.v i,fr,h=>R.of (fr[i]?.join) h
 |.tup es,fr,h=>(bH P es fr h).bind λds h1=>if ds.length<=big then .ok (.tup ds) h1 else .bad
 |.lst es,fr,h=>(bH P es fr h).bind λds h1=>alloc ds h1
 |.bin o a b,fr,h=>(ev P a fr h).bind λx h1=>(ev P b fr h1).bind λy h2=>bG o x y h2
 |.cmp o a b,fr,h=>(ev P a fr h).bind λx h1=>(ev P b fr h1).bind λy h2=>R.of ((cop o x y h2).map .bl) h2
 |.ch o p a b c,fr,h=>(ev P a fr h).bind λx h1=>(ev P b fr h1).bind λy h2=>(R.of (cop o x y h2) h2).bind λk h3=>
   if k then (ev P c fr h3).bind λz h4=>R.of ((cop p y z h4).map .bl) h4 else .ok (.bl false) h3
 |.nt a,fr,h=>(ev P a fr h).bind λx h1=>match x with
   |.bl b=>.ok (.bl (!b)) h1
   |_=>.bad
 |.neg a,fr,h=>(ev P a fr h).bind λx h1=>match x with
   |.int i=>.ok (.int (-i)) h1
   |_=>.bad
 |.an a b,fr,h=>(ev P a fr h).bind λx h1=>match x with
   |.bl true=>ev P b fr h1
   |.bl false=>.ok (.bl false) h1
   |_=>.bad
 |.orr a b,fr,h=>(ev P a fr h).bind λx h1=>match x with
   |.bl true=>.ok (.bl true) h1
   |.bl false=>ev P b fr h1
   |_=>.bad
 |.iH t a b,fr,h=>(aC P t fr h).bind λk h1=>if k then ev P a fr h1 else ev P b fr h1
 |.ix a b,fr,h=>(ev P a fr h).bind λx h1=>(ev P b fr h1).bind λy h2=>R.of (fB x y h2) h2
 |.sl a lo hi,fr,h=>(ev P a fr h).bind λx h1=>(fF P lo fr h1).bind λl h2=>(fF P hi fr h2).bind λu h3=>eH x l u h3
 |.rv a,fr,h=>(ev P a fr h).bind λx h1=>lQ x h1
 |.fh a b,fr,h=>(ev P a fr h).bind λx h1=>(ev P b fr h1).bind λy h2=>C3 x y h2
 |.cl f es,fr,h=>(bH P es fr h).bind λds h1=>P f ds h1
 |.bi b es,fr,h=>(bH P es fr h).bind λds h1=>cU b ds h1
 |.me m o es,fr,h=>(ev P o fr h).bind λx h1=>if qk m x h1 then (bH P es fr h1).bind λds h2=>dZ m x ds h2 else .bad
 |.dM a ts,fr,h=>(ev P a fr h).bind λx h1=>.ok (.bl (ts.any (cL h1 x))) h1
 |.comp elt t it cond,fr,h=>(bQ P it fr h).bind λs h1=>if undef t fr then
   (bw (λd h2=>match aY t d fr with
    |none=>.bad
    |some ak=>(eN P cond ak h2).bind λk h3=>if k then (ev P elt ak h3).bind λx h4=>.ok (some x) h4 else .ok none h3) s.2 s.1 h1).bind λds h2=>alloc ds h2 else .bad
 |.fN it,fr,h=>(bQ P it fr h).bind λs h1=>alloc s.1 h1
 |.dJ kvs a,fr,h=>(ev P a fr h).bind λx h1=>R.of (dB x kvs) h1
 |.fO a,fr,h=>(ev P a fr h).bind λx h1=>q9 x h1
def bH(P:aB):Es->Fr->Hh->R (List D)
 |.nil,_,h=>.ok [] h
 |.cons e es,fr,h=>(ev P e fr h).bind λd h1=>(bH P es fr h1).bind λds h2=>.ok (d :: ds) h2
def fF(P:aB):Eo->Fr->Hh->R (Option Int)
 |.no,_,h=>.ok none h
 |.yes e,fr,h=>(ev P e fr h).bind λd h1=>R.of ((intOf d).map some) h1
def eN(P:aB):Eo->Fr->Hh->R Bool
 |.no,_,h=>.ok true h
 |.yes e,fr,h=>aC P e fr h
def aC(P:aB):E->Fr->Hh->R Bool
 |.an a b,fr,h=>(aC P a fr h).bind λk h1=>if k then aC P b fr h1 else .ok false h1
 |.orr a b,fr,h=>(aC P a fr h).bind λk h1=>if k then .ok true h1 else aC P b fr h1
 |.nt a,fr,h=>(aC P a fr h).bind λk h1=>.ok (!k) h1
 |e,fr,h=>(ev P e fr h).bind λx h1=>R.of (truthy h1 x) h1
def bQ(P:aB):It->Fr->Hh->R Src
 |.seq e,fr,h=>(ev P e fr h).bind λx h1=>R.of (gb h1 x) h1
 |.fz es,fr,h=>(bH P es fr h).bind λds h1=>R.of (dX ds) h1
 |.ir a b,fr,h=>(ev P a fr h).bind λx h1=>(ev P b fr h1).bind λy h2=>R.of ((uJ x y).map λl=>(l,[])) h2
 |.rev a,fr,h=>(ev P a fr h).bind λx h1=>R.of ((Je x).map λds=>(ds.reverse,[])) h1
end
noncomputable def xo:Nat:=1000
noncomputable def zx(k:Nat):D->Option D
 |.int c=>if k=1001 then (if c=0 then some .aO else none)else if 0<=c/\c<k then some (.tup [.str [114,101,102,117,115,101,100],.int c])else none
 |_=>none
def tryD(k:Nat):R D->R D->R D
 |.ok d h,_=>.ok d h
 |.bad,q=>q.bind λc h=>R.of (zx k c) h
mutual
def ex(P:aB)(w:Nat):S->Fr->Hh->R (Fl×Fr)
 |.set i e,fr,h=>(ev P e fr h).bind λx h1=>.ok (.nx,fr.set i (some x)) h1
 |.exp e,fr,h=>(ev P e fr h).bind λ_ h1=>.ok (.nx,fr) h1
 |.ret e,fr,h=>(ev P e fr h).bind λx h1=>.ok (.ret x,fr) h1
 |.iff t a b,fr,h=>(aC P t fr h).bind λk h1=>if k then exs P w a fr h1 else exs P w b fr h1
 |.for t it b,fr,h=>(bQ P it fr h).bind λs h1=>forL (λd ak h2=>match aY t d ak with
   |some bz=>exs P w b bz h2
   |none=>.bad) s.2 s.1 fr h1
 |.oE t b,fr,h=>eL (λak h2=>aC P t ak h2) (λak h2=>exs P w b ak h2) w fr h
 |.cA _,_,_=>.bad
 |.tr f k es,fr,h=>(bH P es fr h).bind λds h1=>(tryD k (P f ds h1) (P (f+xo) ds h1)).bind λx h2=>.ok (.ret x,fr) h2
def exs(P:aB)(w:Nat):Ss->Fr->Hh->R (Fl×Fr)
 |.nil,fr,h=>.ok (.nx,fr) h
 |.cons s ss,fr,h=>(ex P w s fr h).bind λp h1=>match p.1 with
   |.nx=>exs P w ss p.2 h1
   |_=>.ok p h1
end
structure Fn where
 np:Nat
 ns:Nat
 body:Ss
noncomputable def cI(fn:Fn)(ds:List D):Fr:=ds.map some++List.replicate (fn.ns - fn.np) none
def endOf(r:R (Fl×Fr)):R D:=r.bind λp h=>match p.1 with
 |.ret d=>.ok d h
 |.nx=>.ok .aO h
 |_=>.bad
abbrev XR:=Option (Nat×Hh)
abbrev bR:=Nat->List D->Hh->XR
def dm(f:D->Hh->R (Option D))(g:D->Hh->XR)(ck:List (Nat×List D)):List D->Hh->XR
 |[],_=>none
 |d :: ds,h=>if stays h ck then match f d h with
   |.ok _ h1=>dm f g ck ds h1
   |.bad=>g d h
  else none
def nJ(P:aB)(elt:E)(t:T)(cond:Eo)(fr:Fr):D->Hh->R (Option D):=λd h2=>match aY t d fr with
 |none=>.bad
 |some ak=>(eN P cond ak h2).bind λk h3=>if k then (ev P elt ak h3).bind λx h4=>.ok (some x) h4 else .ok none h3
mutual
def xe(P:aB)(X:bR):E->Fr->Hh->XR
 |.cl f es,fr,h=>match bH P es fr h with
  |.ok ds h1=>X f ds h1
  |.bad=>xa P X es fr h
 |.ix a _,fr,h=>xe P X a fr h
 |.me m o es,fr,h=>match ev P o fr h with
  |.ok x h1=>if qk m x h1 then xa P X es fr h1 else none
  |.bad=>none
 |.tup es,fr,h=>xa P X es fr h
 |.fO a,fr,h=>xe P X a fr h
 |.comp elt t it cond,fr,h=>match bQ P it fr h with
  |.ok s h1=>if undef t fr=true/\s.1.length<=big then dm (nJ P elt t cond fr) (λd h2=>match aY t d fr with
   |some ak=>(match eN P cond ak h2 with
    |.ok true h3=>xe P X elt ak h3
    |_=>none)
   |none=>none) s.2 s.1 h1 else none
  |.bad=>xi P X it fr h
 |_,_,_=>none
def xi(P:aB)(X:bR):It->Fr->Hh->XR
 |.seq e,fr,h=>xe P X e fr h
 |_,_,_=>none
def xa(P:aB)(X:bR):Es->Fr->Hh->XR
 |.nil,_,_=>none
 |.cons e es,fr,h=>match ev P e fr h with
  |.ok _ h1=>xa P X es fr h1
  |.bad=>xe P X e fr h
end
def fj(f:D->Fr->Hh->R (Fl×Fr))(g:D->Fr->Hh->XR)(ck:List (Nat×List D)):List D->Fr->Hh->XR
 |[],_,_=>none
 |d :: ds,fr,h=>if stays h ck then match f d fr h with
   |.ok (.nx,af) h1=>fj f g ck ds af h1
   |.ok (.ct,af) h1=>fj f g ck ds af h1
   |.ok _ _=>none
   |.bad=>g d fr h
  else none
noncomputable def fQ(t:Fr->Hh->R Bool)(f:Fr->Hh->R (Fl×Fr))(g:Fr->Hh->XR):Nat->Fr->Hh->XR
 |0,_,_=>none
 |n+1,fr,h=>match t fr h with
  |.ok true h1=>match f fr h1 with
   |.ok (.nx,af) h2=>fQ t f g n af h2
   |.ok (.ct,af) h2=>fQ t f g n af h2
   |.ok _ _=>none
   |.bad=>g fr h1
  |_=>none
mutual
def xs(P:aB)(X:bR)(w:Nat):S->Fr->Hh->XR
 |.cA c,_,h=>some (c,h)
 |.set _ e,fr,h=>xe P X e fr h
 |.exp e,fr,h=>xe P X e fr h
 |.ret e,fr,h=>xe P X e fr h
 |.iff t a b,fr,h=>match aC P t fr h with
  |.ok k h1=>if k then xss P X w a fr h1 else xss P X w b fr h1
  |.bad=>xe P X t fr h
 |.for t it b,fr,h=>match bQ P it fr h with
  |.ok s h1=>fj (λd ak h2=>match aY t d ak with|some bz=>exs P w b bz h2|none=>.bad) (λd ak h2=>match aY t d ak with|some bz=>xss P X w b bz h2|none=>none) s.2 s.1 fr h1
  |.bad=>none
 |.oE t b,fr,h=>fQ (λak h2=>aC P t ak h2) (λak h2=>exs P w b ak h2) (λak h2=>xss P X w b ak h2) w fr h
 |_,_,_=>none
def xss(P:aB)(X:bR)(w:Nat):Ss->Fr->Hh->XR
 |.nil,_,_=>none
 |.cons s ss,fr,h=>match ex P w s fr h with
  |.ok (.nx,af) h1=>xss P X w ss af h1
  |.ok _ _=>none
  |.bad=>xs P X w s fr h
end
def lR(X:bR)(f:Nat)(ds:List D)(h:Hh):R D:=if xo<=f then (match X (f - xo) ds h with
  |some (c,h')=>.ok (.int c) h'
  |none=>.bad)else .bad
def runs(F:List Fn)(w:Nat):Nat->aB×bR
 |0=>(λ_ _ _=>.bad,λ_ _ _=>none)
 |n+1=>
  let X:bR:=λf ds h=>match F[f]? with
   |some fn=>if ds.length=fn.np then xss (runs F w n).1 (runs F w n).2 w fn.body (cI fn ds) h else none
   |none=>none
  (λf ds h=>match F[f]? with
   |some fn=>if ds.length=fn.np then endOf (exs (runs F w n).1 w fn.body (cI fn ds) h)else .bad
   |none=>lR X f ds h,X)
def run(F:List Fn)(w n:Nat):aB:=(runs F w n).1
def bF(F:List Fn)(w n:Nat):bR:=(runs F w n).2
def fG(F:List Fn)(w n f:Nat)(ds:List D)(h:Hh):run F w (n+1) f ds h=match F[f]? with
  |some fn=>if ds.length=fn.np then endOf (exs (run F w n) w fn.body (cI fn ds) h)else .bad
  |none=>lR (bF F w (n+1)) f ds h:=rfl
def iu(F:List Fn)(w n f:Nat)(ds:List D)(h:Hh):bF F w (n+1) f ds h=match F[f]? with
  |some fn=>if ds.length=fn.np then xss (run F w n) (bF F w n) w fn.body (cI fn ds) h else none
  |none=>none:=rfl
mutual
def iI(rz:List Nat):E->Bool
 |.cl f es=>!rz.contains f&&sG rz es
 |.ix a _=>iI rz a
 |.me _ _ es=>sG rz es
 |.tup es=>sG rz es
 |.fO a=>iI rz a
 |.comp elt _ it _=>iI rz elt&&El rz it
 |_=>true
def El(rz:List Nat):It->Bool
 |.seq e=>iI rz e
 |_=>true
def sG(rz:List Nat):Es->Bool
 |.nil=>true
 |.cons e es=>iI rz e&&sG rz es
end
mutual
def oF(rz:List Nat):S->Bool
 |.cA _=>false
 |.set _ e=>iI rz e
 |.exp e=>iI rz e
 |.ret e=>iI rz e
 |.iff t a b=>iI rz t&&(kj rz a&&kj rz b)
 |.for _ _ b=>kj rz b
 |.oE _ b=>kj rz b
 |_=>true
def kj(rz:List Nat):Ss->Bool
 |.nil=>true
 |.cons s ss=>oF rz s&&kj rz ss
end
theorem sH{f:D->Hh->R (Option D)}{g:D->Hh->XR}{ck:List (Nat×List D)}(hg:∀d h,g d h=none):∀(ds:List D) (h:Hh),dm f g ck ds h=none
 |[],_=>rfl
 |d :: ds,h=>by
  simp only[dm];split
  .split
   .exact sH hg ds _
   .exact hg _ _
  .rfl
section
variable{P:aB}{X:bR}{w:Nat}{rz:List Nat}(hz:∀f,rz.contains f=false->∀ds h,X f ds h=none)
include hz
mutual
theorem jG:∀(e:E) {fr:Fr}{h:Hh},iI rz e=true->xe P X e fr h=none
 |.cl f es,fr,h,z=>by
  simp only[iI,fW,T4]at z;simp only[xe];split
  .exact hz f z.1 _ _
  .exact ri es z.2
 |.ix a b,fr,h,z=>by
  simp only[iI]at z;simp only[xe];exact jG a z
 |.me m o es,fr,h,z=>by
  simp only[iI]at z;simp only[xe];split
  .split
   .exact ri es z
   .rfl
  .rfl
 |.tup es,fr,h,z=>by
  simp only[iI]at z;simp only[xe];exact ri es z
 |.fO a,fr,h,z=>by
  simp only[iI]at z;simp only[xe];exact jG a z
 |.comp elt t it cond,fr,h,z=>by
  simp only[iI,fW]at z;simp only[xe];split
  .split
   .refine sH (λd h2=>?_) _ _;split
    .split
     .exact jG elt z.1
     .rfl
    .rfl
   .rfl
  .exact Jg it z.2
 |.c _,_,_,_=>rfl|.v _,_,_,_=>rfl|.lst _,_,_,_=>rfl
 |.bin _ _ _,_,_,_=>rfl|.cmp _ _ _,_,_,_=>rfl
 |.ch _ _ _ _ _,_,_,_=>rfl
 |.nt _,_,_,_=>rfl|.neg _,_,_,_=>rfl|.an _ _,_,_,_=>rfl|.orr _ _,_,_,_=>rfl|.iH _ _ _,_,_,_=>rfl
 |.sl _ _ _,_,_,_=>rfl
 |.rv _,_,_,_=>rfl
 |.fh _ _,_,_,_=>rfl
 |.bi _ _,_,_,_=>rfl
 |.dM _ _,_,_,_=>rfl
 |.fN _,_,_,_=>rfl
 |.dJ _ _,_,_,_=>rfl
theorem Jg:∀(it:It) {fr:Fr}{h:Hh},El rz it=true->xi P X it fr h=none
 |.seq e,fr,h,z=>by
  simp only[El]at z;simp only[xi];exact jG e z
 |.fz _,_,_,_=>rfl|.rev _,_,_,_=>rfl
 |.ir _ _,_,_,_=>rfl
theorem ri:∀(es:Es) {fr:Fr}{h:Hh},sG rz es=true->xa P X es fr h=none
 |.nil,_,_,_=>rfl
 |.cons e es,fr,h,z=>by
  simp only[sG,fW]at z;simp only[xa];split
  .exact ri es z.2
  .exact jG e z.1
end
omit hz in
theorem mP{f:D->Fr->Hh->R (Fl×Fr)}{g:D->Fr->Hh->XR}{ck:List (Nat×List D)}(hg:∀d fr h,g d fr h=none):∀(ds:List D) (fr:Fr) (h:Hh),fj f g ck ds fr h=none
 |[],_,_=>rfl
 |d :: ds,fr,h=>by
  simp only[fj];split
  .split
   .exact mP hg ds _ _
   .exact mP hg ds _ _
   .rfl
   .exact hg _ _ _
  .rfl
omit hz in
theorem mQ{t:Fr->Hh->R Bool}{f:Fr->Hh->R (Fl×Fr)}{g:Fr->Hh->XR}(hg:∀fr h,g fr h=none):∀(n:Nat) (fr:Fr) (h:Hh),fQ t f g n fr h=none
 |0,_,_=>rfl
 |n+1,fr,h=>by
  simp only[fQ];split
  .split
   .exact mQ hg n _ _
   .exact mQ hg n _ _
   .rfl
   .exact hg _ _
  .rfl
mutual
theorem Jh:∀(s:S) {fr:Fr}{h:Hh},oF rz s=true->xs P X w s fr h=none
 |.cA c,_,_,z=>by simp[oF]at z
 |.set i e,fr,h,z=>by simp only[oF]at z;simp only[xs];exact jG hz e z
 |.exp e,fr,h,z=>by simp only[oF]at z;simp only[xs];exact jG hz e z
 |.ret e,fr,h,z=>by simp only[oF]at z;simp only[xs];exact jG hz e z
 |.iff t a b,fr,h,z=>by
  simp only[oF,fW]at z;simp only[xs];split
  .split
   .exact kZ a z.2.1
   .exact kZ b z.2.2
  .exact jG hz t z.1
 |.for t it b,fr,h,z=>by
  simp only[oF]at z;simp only[xs];split
  .refine mP (λd fr h=>?_) _ _ _;split
   .exact kZ b z
   .rfl
  .rfl
 |.oE t b,fr,h,z=>by
  simp only[oF]at z;simp only[xs];exact mQ (λfr h=>kZ b z) _ _ _
 |.tr _ _ _,_,_,_=>rfl
theorem kZ:∀(s:Ss) {fr:Fr}{h:Hh},kj rz s=true->xss P X w s fr h=none
 |.nil,_,_,_=>rfl
 |.cons s ss,fr,h,z=>by
  simp only[kj,fW]at z;simp only[xss];split
  .exact kZ ss z.2
  .rfl
  .exact Jh s z.1
end
end
def oG(rz:List Nat):Nat->List Fn->Bool
 |_,[]=>true
 |k,fn :: r=>(rz.contains k ||kj rz fn.body)&&oG rz (k+1) r
theorem oG.get{rz:List Nat}:∀{F:List Fn}{k f:Nat}{fn:Fn},oG rz k F=true->F[f]?=some fn->rz.contains (k+f)=false->kj rz fn.body=true
 |_ :: r,k,0,fn,z,e,n=>by
  simp only[oG,fW,Ub]at z;cases e;rcases z.1 with z|z
  .rw[Nat.add_zero,z]at n;cases n
  .exact z
 |_ :: r,k,f+1,fn,z,e,n=>by
  simp only[oG,fW]at z;exact oG.get (F:=r) (k:=k+1) (f:=f) z.2 (by simpa using e) (by rw[show k+1+f=k+(f+1)by omega];exact n)
theorem xE{F:List Fn}{rz:List Nat}(hF:oG rz 0 F=true)(w:Nat):∀(n f:Nat),rz.contains f=false->∀ds h,bF F w n f ds h=none
 |0,_,_,_,_=>rfl
 |n+1,f,k,ds,h=>by
  rw[iu];cases y:F[f]? with
  |none=>rfl
  |some fn=>
   simp only;split
   .exact kZ (xE hF w n) _ (oG.get hF y (by rw[Nat.zero_add];exact k))
   .rfl
theorem jH{f:D->Hh->R (Option D)}{g:D->Hh->XR}{ck:List (Nat×List D)}(hg:∀d h r,g d h=some r->f d h=.bad):∀(ds:List D) {h:Hh}{r:Nat×Hh},dm f g ck ds h=some r->bw f ck ds h=.bad
 |[],_,_,z=>nomatch z
 |d :: ds,h,r,z=>by
  simp only[dm]at z;split at z
  .rename_i hs;simp only[bw,cG hs];cases y:f d h with
   |ok o h1=>rw[y]at z;simp only[aj];rw[jH hg ds z];rfl
   |bad=>rfl
  .cases z
section
variable{P:aB}{X:bR}{w:Nat}(hX:∀f ds h r,X f ds h=some r->P f ds h=.bad)
include hX
mutual
theorem bT:∀(e:E) {fr:Fr}{h:Hh}{r:Nat×Hh},xe P X e fr h=some r->ev P e fr h=.bad/\aC P e fr h=.bad
 |.cl f es,fr,h,r,z=>by
  simp only[xe]at z;have q:ev P (.cl f es) fr h=.bad:=by
   rw[ev];cases y:bH P es fr h with
   |ok ds h1=>rw[y]at z;exact hX _ _ _ _ z
   |bad=>rfl
  exact⟨q,by rw[aC,q];rfl;all_goals (intros;contradiction)⟩
 |.ix a b,fr,h,r,z=>by
  simp only[xe]at z;have q:ev P (.ix a b) fr h=.bad:=by rw[ev,(bT a z).1];rfl
  exact⟨q,by rw[aC,q];rfl;all_goals (intros;contradiction)⟩
 |.me m o es,fr,h,r,z=>by
  simp only[xe]at z;have q:ev P (.me m o es) fr h=.bad:=by
   rw[ev];cases y:ev P o fr h with
   |ok x h1=>
    rw[y]at z;simp only at z;split at z
    .rename_i k;simp only[aj,cG k];rw[ql es z];rfl
    .cases z
   |bad=>rfl
  exact⟨q,by rw[aC,q];rfl;all_goals (intros;contradiction)⟩
 |.tup es,fr,h,r,z=>by
  simp only[xe]at z;have q:ev P (.tup es) fr h=.bad:=by rw[ev,ql es z];rfl
  exact⟨q,by rw[aC,q];rfl;all_goals (intros;contradiction)⟩
 |.fO a,fr,h,r,z=>by
  simp only[xe]at z;have q:ev P (.fO a) fr h=.bad:=by rw[ev,(bT a z).1];rfl
  exact⟨q,by rw[aC,q];rfl;all_goals (intros;contradiction)⟩
 |.comp elt t it cond,fr,h,r,z=>by
  simp only[xe]at z;have q:ev P (.comp elt t it cond) fr h=.bad:=by
   rw[ev];cases y:bQ P it fr h with
   |ok s h1=>
    rw[y]at z;simp only at z;split at z
    .rename_i hu;simp only[aj,cG hu.1];have:=jH (f:=nJ P elt t cond fr) (λd h2 r2 e=>by
      split at e
      .rename_i ak eb;split at e
       .rename_i h3 ec;unfold nJ;rw[eb];simp only[ec,aj,QO];rw[(bT elt e).1];rfl
       .cases e
      .cases e) s.1 z
     refine Wg (Pc (λq:R (List D)=>q.bind λds h2=>alloc ds h2) this) rfl
    .cases z
   |bad=>rfl
  exact⟨q,by rw[aC,q];rfl;all_goals (intros;contradiction)⟩
 |.c _,_,_,_,z=>nomatch z|.v _,_,_,_,z=>nomatch z|.lst _,_,_,_,z=>nomatch z
 |.bin _ _ _,_,_,_,z=>nomatch z|.cmp _ _ _,_,_,_,z=>nomatch z
 |.ch _ _ _ _ _,_,_,_,z=>nomatch z
 |.nt _,_,_,_,z=>nomatch z|.neg _,_,_,_,z=>nomatch z|.an _ _,_,_,_,z=>nomatch z|.orr _ _,_,_,_,z=>nomatch z|.iH _ _ _,_,_,_,z=>nomatch z
 |.sl _ _ _,_,_,_,z=>nomatch z
 |.rv _,_,_,_,z=>nomatch z
 |.fh _ _,_,_,_,z=>nomatch z
 |.bi _ _,_,_,_,z=>nomatch z
 |.dM _ _,_,_,_,z=>nomatch z
 |.fN _,_,_,_,z=>nomatch z
 |.dJ _ _,_,_,_,z=>nomatch z
theorem ql:∀(es:Es) {fr:Fr}{h:Hh}{r:Nat×Hh},xa P X es fr h=some r->bH P es fr h=.bad
 |.nil,_,_,_,z=>nomatch z
 |.cons e es,fr,h,r,z=>by
  simp only[xa]at z;rw[bH];cases y:ev P e fr h with
  |ok d h1=>rw[y]at z;simp only[aj];rw[ql es z];rfl
  |bad=>rfl
end
def Ji:∀(it:It) {fr:Fr}{h:Hh}{r:Nat×Hh},xi P X it fr h=some r->bQ P it fr h=.bad
 |.seq e,fr,h,r,z=>by
  simp only[xi]at z;rw[bQ,(bT hX e z).1];rfl
 |.fz _,_,_,_,z=>nomatch z|.rev _,_,_,_,z=>nomatch z
 |.ir _ _,_,_,_,z=>nomatch z
omit hX in
theorem gA{f:D->Fr->Hh->R (Fl×Fr)}{g:D->Fr->Hh->XR}{ck:List (Nat×List D)}(hg:∀d fr h r,g d fr h=some r->f d fr h=.bad):∀(ds:List D) {fr:Fr}{h:Hh}{r:Nat×Hh},fj f g ck ds fr h=some r->forL f ck ds fr h=.bad
 |[],_,_,_,z=>nomatch z
 |d :: ds,fr,h,r,z=>by
  simp only[fj]at z;split at z
  case isFalse=>cases z
  rename_i k;simp only[forL,cG k];split at z
  .rename_i e;rw[e];exact gA hg ds z
  .rename_i e;rw[e];exact gA hg ds z
  .cases z
  .rw[hg _ _ _ _ z];rfl
omit hX in
theorem gD{t:Fr->Hh->R Bool}{f:Fr->Hh->R (Fl×Fr)}{g:Fr->Hh->XR}(hg:∀fr h r,g fr h=some r->f fr h=.bad):∀(n:Nat) {fr:Fr}{h:Hh}{r:Nat×Hh},fQ t f g n fr h=some r->eL t f n fr h=.bad
 |0,_,_,_,z=>nomatch z
 |n+1,fr,h,r,z=>by
  simp only[fQ]at z;split at z
  case h_2=>cases z
  rename_i e0;simp only[eL,e0,aj,QO];split at z
  .rename_i e;rw[e];exact gD hg n z
  .rename_i e;rw[e];exact gD hg n z
  .cases z
  .rw[hg _ _ _ z];rfl
mutual
theorem mR:∀(s:S) {fr:Fr}{h:Hh}{r:Nat×Hh},xs P X w s fr h=some r->ex P w s fr h=.bad
 |.cA c,_,_,_,_=>by rw[ex]
 |.set i e,fr,h,r,z=>by rw[ex,(bT hX e z).1];rfl
 |.exp e,fr,h,r,z=>by rw[ex,(bT hX e z).1];rfl
 |.ret e,fr,h,r,z=>by rw[ex,(bT hX e z).1];rfl
 |.iff t a b,fr,h,r,z=>by
  simp only[xs]at z;rw[ex];cases y:aC P t fr h with
  |bad=>rfl
  |ok k h1=>
   rw[y]at z;simp only at z;simp only[aj];cases k with
   |true=>exact cP a z
   |false=>exact cP b z
 |.for t it b,fr,h,r,z=>by
  simp only[xs]at z;rw[ex];cases y:bQ P it fr h with
  |bad=>rfl
  |ok s h1=>
   rw[y]at z;simp only at z;simp only[aj];refine gA (λd fr h r q=>?_) _ z;cases k:aY t d fr with
   |none=>rw[k]at q
   |some bz=>rw[k]at q;exact cP b q
 |.oE t b,fr,h,r,z=>by
  simp only[xs]at z;rw[ex];exact gD (λfr h r q=>cP b q) _ z
 |.tr _ _ _,_,_,_,z=>nomatch z
theorem cP:∀(s:Ss) {fr:Fr}{h:Hh}{r:Nat×Hh},xss P X w s fr h=some r->exs P w s fr h=.bad
 |.nil,_,_,_,z=>nomatch z
 |.cons s ss,fr,h,r,z=>by
  simp only[xss]at z;rw[exs];split at z
  .rename_i e;rw[e];exact cP ss z
  .cases z
  .rw[mR s z];rfl
end
end
theorem pA(F:List Fn)(w:Nat):∀(n f:Nat) (ds:List D) (h:Hh) (r:Nat×Hh),bF F w n f ds h=some r->run F w n f ds h=.bad
 |0,_,_,_,_,_=>rfl
 |n+1,f,ds,h,r,z=>by
  rw[iu]at z;rw[fG];cases y:F[f]? with
  |none=>rw[y]at z;cases z
  |some fn=>
   rw[y]at z;simp only at z ⊢;split at z
   .rename_i k;rw[cG k,cP (pA F w n) _ z];rfl
   .cases z
end Ev
namespace Sm
open PySem PySem.Spec PyProof.Rows L2
noncomputable def aA(l:List Nat):Str:=⟨l.toArray⟩
def bh(l:List Nat):(aA l).length=l.length:=by simp[aA,Str.length]
def jt{a b:List Nat}(h:aA a=aA b):a=b:=by
 have h1:a.toArray=b.toArray:=Pc Str.cps h;simpa using Pc Array.toList h1
def jI:Ev.big=sizeLine:=by rw[UD];rfl
section
variable(K:PySem.W.Frag)
mutual
def RV(H:Hp)(r:List Addr):Ev.D->V->Prop
 |.aO,v=>v=.aO
 |.bl b,v=>v=.bl b
 |.int i,v=>v=.int i
 |.str s,v=>v=.str (aA s)/\s.length<=sizeLine
 |.ref n,v=>∃a,v=.ref a/\r[n]?=some a
 |.tup ds,v=>∃a vs,v=.ref a/\dz K H a vs/\aE H r ds vs
def aE(H:Hp)(r:List Addr):List Ev.D->List V->Prop
 |[],vs=>vs=[]
 |d :: ds,vs=>∃v w,vs=v :: w/\RV H r d v/\aE H r ds w
end
def zy(H:Hp)(a:Addr)(vs:List V):Prop:=(∃o,H a=some (.bB o (.lst vs)))\/
 ∃(o:Obj) (its:Array Value) (n:Nat),K.lookup a=some o/\o.cls=.type "list" /\o.dict=none/\o.data=.seq its n/\its.size<=sizeLine/\Vals vs its.toList
def RO(H:Hp)(r:List Addr):Ev.O->Addr->Prop
 |.lst ds,a=>∃vs,H a=some (.lst vs)/\aE K H r ds vs
 |.bB ds,a=>∃vs,zy K H a vs/\aE K H r ds vs
structure HR(H:Hp)(r:List Addr)(h:Ev.Hh):Prop where
 len:r.length=h.length
 ob:∀(n:Nat) o,h[n]?=some o->∃a,r[n]?=some a/\RO K H r o a
 inj:∀(n m:Nat) a x y,r[n]?=some a->r[m]?=some a->h[n]?=some (.lst x)->h[m]?=some (.lst y)->n=m
structure Fm(r r':List Addr)(H H':Hp):Prop where
 pre:∀(n:Nat) a,r[n]?=some a->r'[n]?=some a
 new:∀a∈r',a∈r\/H a=none
 keep:∀a o,H a=some o->a∉r->H' a=some o
 tups:∀a vs,dz K H a vs->dz K H' a vs
end
section
variable{K:PySem.W.Frag}{H H1 H2:Hp}{r r1 r2:List Addr}{h:Ev.Hh}
def Fm.refl:Fm K r r H H:=⟨λ_ _ e=>e,λ_ e=>.inl e,λ_ _ e _=>e,λ_ _ e=>e
 ⟩
def Fm.trans(a:Fm K r r1 H H1)(b:Fm K r1 r2 H1 H2):Fm K r r2 H H2 where
 pre:=λn x e=>b.pre n x (a.pre n x e)
 new:=λx e=>by
  rcases b.new x e with q|q
  .exact a.new x q
  .by_cases z:x∈r
   .exact .inl z
   .refine .inr ?_;cases w:H x with
    |none=>rfl
    |some o=>rw[a.keep x o w z]at q;cases q
 keep:=λx o e n=>by
  refine b.keep x o (a.keep x o e n) λz=>?_;rcases a.new x z with q|q
  .exact n q
  .rw[e]at q;cases q
 tups:=λx vs e=>b.tups x vs (a.tups x vs e)
mutual
theorem RV.grow(f:∀(n:Nat) a,r[n]?=some a->r1[n]?=some a)(g:∀a vs,dz K H a vs->dz K H1 a vs):∀{d:Ev.D}{v:V},RV K H r d v->RV K H1 r1 d v
 |.aO,_,e=>e
 |.bl _,_,e=>e
 |.int _,_,e=>e
 |.str _,_,e=>e
 |.ref n,_,⟨a,e,z⟩=>⟨a,e,f n a z⟩
 |.tup ds,_,⟨a,vs,e,z,q⟩=>⟨a,vs,e,g a vs z,aE.grow f g q⟩
theorem aE.grow(f:∀(n:Nat) a,r[n]?=some a->r1[n]?=some a)(g:∀a vs,dz K H a vs->dz K H1 a vs):∀{ds:List Ev.D}{vs:List V},aE K H r ds vs->aE K H1 r1 ds vs
 |[],_,e=>e
 |_ :: _,_,⟨v,w,e,z,q⟩=>⟨v,w,e,RV.grow f g z,aE.grow f g q⟩
end
def RV.mono(f:Fm K r r1 H H1){d:Ev.D}{v:V}(q:RV K H r d v):RV K H1 r1 d v:=q.grow f.pre f.tups
def aE.mono(f:Fm K r r1 H H1){ds:List Ev.D}{vs:List V}(q:aE K H r ds vs):aE K H1 r1 ds vs:=q.grow f.pre f.tups
def aE.nil:aE K H r [] []:=by simp[aE]
def aE.cons{d:Ev.D}{v:V}{ds:List Ev.D}{vs:List V}(a:RV K H r d v)(b:aE K H r ds vs):aE K H r (d :: ds) (v :: vs):=by
 simp only[aE];exact⟨v,vs,rfl,a,b⟩
theorem aE.length:∀{ds:List Ev.D}{vs:List V},aE K H r ds vs->vs.length=ds.length
 |[],_,e=>by simp only[aE]at e;subst e;rfl
 |_ :: _,_,e=>by
  simp only[aE]at e;obtain⟨v,w,rfl,_,q⟩:=e;simp[aE.length q]
theorem aE.get:∀{ds:List Ev.D}{vs:List V}{i:Nat}{d:Ev.D},aE K H r ds vs->ds[i]?=some d->∃v,vs[i]?=some v/\RV K H r d v
 |[],_,_,_,_,e=>by simp at e
 |_ :: _,_,0,_,h,e=>by
  simp only[aE]at h;obtain⟨v,w,rfl,z,q⟩:=h;simp at e;subst e;exact⟨v,by simp,z⟩
 |_ :: _,_,i+1,_,h,e=>by
  simp only[aE]at h;obtain⟨v,w,rfl,z,q⟩:=h;obtain⟨u,a,b⟩:=aE.get (i:=i) q (by simpa using e);exact⟨u,by simpa using a,b⟩
theorem aE.append:∀{ds es:List Ev.D}{vs ws:List V},aE K H r ds vs->aE K H r es ws->aE K H r (ds++es) (vs++ws)
 |[],_,_,_,a,b=>by simp only[aE]at a;subst a;simpa using b
 |_ :: _,_,_,_,a,b=>by
  simp only[aE]at a;obtain⟨v,w,rfl,z,q⟩:=a;simp only[UJ];exact .cons z (aE.append q b)
theorem aE.take:∀{ds:List Ev.D}{vs:List V}(n:Nat),aE K H r ds vs->aE K H r (ds.take n) (vs.take n)
 |_,_,0,_=>by simp[aE]
 |[],_,_+1,a=>by simp only[aE]at a;subst a;simp[aE]
 |_ :: _,_,n+1,a=>by
  simp only[aE]at a;obtain⟨v,w,rfl,z,q⟩:=a;simp only[Uz];exact .cons z (aE.take n q)
theorem aE.drop:∀{ds:List Ev.D}{vs:List V}(n:Nat),aE K H r ds vs->aE K H r (ds.drop n) (vs.drop n)
 |_,_,0,a=>by simpa using a
 |[],_,_+1,a=>by simp only[aE]at a;subst a;simp[aE]
 |_ :: _,_,n+1,a=>by
  simp only[aE]at a;obtain⟨v,w,rfl,z,q⟩:=a;simp only[Wv];exact aE.drop n q
theorem aE.reverse:∀{ds:List Ev.D}{vs:List V},aE K H r ds vs->aE K H r ds.reverse vs.reverse
 |[],_,a=>by simp only[aE]at a;subst a;simp[aE]
 |_ :: _,_,a=>by
  simp only[aE]at a;obtain⟨v,w,rfl,z,q⟩:=a;simp only[Uo];exact(aE.reverse q).append (.cons z .nil)
theorem aE.rep{ds:List Ev.D}{vs:List V}(a:aE K H r ds vs):∀k:Nat,aE K H r (Ev.rep k ds) (Ev.rep k vs)
 |0=>by simp[Ev.rep,aE]
 |k+1=>by
  have h:=aE.rep a k;simp only[Ev.rep,Q5,Uk]at h ⊢;exact a.append h
def Fm.laid{p:Addr}{o:HO}(hp:H p=none):Fm K r (r++[p]) H (upd H p o) where
 pre:=λn a e=>by rw[wc (List.getElem?_eq_some_iff.mp e).1];exact e
 new:=λa e=>by
  rcases List.mem_append.mp e with q|q
  .exact .inl q
  .rw[WC]at q;subst q;exact .inr hp
 keep:=λa ob e _=>by rw[bq (bN e hp)];exact e
 tups:=λa vs e=>by
  rcases e with (e|⟨ob,e⟩)|e
  .exact .inl (.inl (by rw[bq (bN e hp)];exact e))
  .exact .inl (.inr ⟨ob,by rw[bq (bN e hp)];exact e⟩)
  .exact .inr e
def Fm.tup{p:Addr}{o:HO}(hp:H p=none):Fm K r r H (upd H p o) where
 pre:=λn a e=>e
 new:=λa e=>.inl e
 keep:=λa ob e _=>by rw[bq (bN e hp)];exact e
 tups:=(Fm.laid (r:=r) hp).tups
theorem RO.mono{o:Ev.O}{a:Addr}(f:Fm K r r1 H H1)(q:RO K H r o a)(hl:∀ds vs,o=.lst ds->H a=some (.lst vs)->H1 a=some (.lst vs))(hf:∀ob vs,H a=some (.bB ob vs)->H1 a=some (.bB ob vs))
  : RO K H1 r1 o a:=by
 cases o with
 |lst ds=>
  obtain⟨vs,e,z⟩:=q;exact⟨vs,hl ds vs rfl e,z.mono f⟩
 |bB ds=>
  obtain⟨vs,e,z⟩:=q;refine⟨vs,?_,z.mono f⟩;rcases e with ⟨ob,e⟩|e
  .exact .inl ⟨ob,hf _ _ e⟩
  .exact .inr e
theorem HR.tup{p:Addr}{o:HO}(hr:HR K H r h)(hp:H p=none):HR K (upd H p o) r h where
 len:=hr.len
 ob:=λn ob e=>by
  obtain⟨a,e1,q⟩:=hr.ob n ob e;exact⟨a,e1,q.mono (Fm.tup hp) (λ_ vs _ z=>by rw[bq (bN z hp)];exact z) (λ_ _ z=>by rw[bq (bN z hp)];exact z)
   ⟩
 inj:=hr.inj
theorem HR.lst{p:Addr}{ds:List Ev.D}{vs:List V}(hr:HR K H r h)(hp:H p=none)(q:aE K H r ds vs):HR K (upd H p (.lst vs)) (r++[p]) (h++[.lst ds]) where
 len:=by simp[hr.len]
 ob:=λn ob e=>by
  by_cases hn:n<h.length
  .rw[wc hn]at e;obtain⟨a,e1,z⟩:=hr.ob n ob e;exact⟨a,(Fm.laid (K:=K) (o:=.lst vs) hp).pre n a e1,z.mono (Fm.laid hp) (λ_ vs _ z=>by rw[bq (bN z hp)];exact z) (λ_ _ z=>by rw[bq (bN z hp)];exact z)
    ⟩
  .have e2:=(List.getElem?_eq_some_iff.mp e).1;simp only[HJ,T9]at e2;have e3:n=h.length:=by omega
   subst e3;simp at e;subst e;exact⟨p,by rw[<-hr.len];simp,vs,cB,q.mono (Fm.laid hp)⟩
 inj:=λn m a x y e1 e2 e3 e4=>by
  have out:∀(k:Nat) z,(h++[Ev.O.lst ds])[k]?=some (.lst z)->(r++[p])[k]?=some a->(k<h.length/\r[k]?=some a/\h[k]?=some (.lst z)/\a≠p)\/(k=h.length/\a=p):=λk z q1 q2=>by
   by_cases hk:k<h.length
   .rw[wc hk]at q1;rw[wc (by rw[hr.len];exact hk)]at q2;obtain⟨b,e5,vs',e6,_⟩:=hr.ob k _ q1;rw[q2]at e5;cases e5;exact .inl ⟨hk,q2,q1,bN e6 hp⟩
   .have e5:=(List.getElem?_eq_some_iff.mp q1).1;simp only[HJ,T9]at e5;have e6:k=r.length:=by rw[hr.len];omega
    subst e6;simp at q2;exact .inr ⟨hr.len,q2.symm⟩
  rcases out n x e3 e1 with ⟨h1,h2,h3,h4⟩|⟨h1,h2⟩
  .rcases out m y e4 e2 with ⟨k1,k2,k3,k4⟩|⟨k1,k2⟩
   .exact hr.inj n m a x y h2 k2 h3 k3
   .exact absurd k2 h4
  .rcases out m y e4 e2 with ⟨k1,k2,k3,k4⟩|⟨k1,k2⟩
   .exact absurd h2 k4
   .rw[h1,k1]
def HR.read{n:Nat}{ds:List Ev.D}(hr:HR K H r h)(e:Ev.aP h n=some ds):∃a vs,r[n]?=some a/\eU K H a vs/\aE K H r ds vs:=by
 unfold Ev.aP at e;split at e
 .rename_i z;cases e;obtain⟨a,e1,vs,e2,e3⟩:=hr.ob n _ z;exact⟨a,vs,e1,.inl (.inl e2),e3⟩
 .rename_i z;cases e;obtain⟨a,e1,vs,e2,e3⟩:=hr.ob n _ z;refine⟨a,vs,e1,?_,e3⟩;rcases e2 with ⟨ob,e2⟩|e2
  .exact .inl (.inr ⟨ob,e2⟩)
  .exact .inr e2
 .cases e
def Fm.write{a:Addr}{vs ws:List V}(ha:H a=some (.lst vs))(hm:a∈r):Fm K r r H (upd H a (.lst ws)) where
 pre:=λn b e=>e
 new:=λb e=>.inl e
 keep:=λb ob e n=>by rw[bq (λz=>n (by rw[z];exact hm))];exact e
 tups:=λb us e=>by
  rcases e with (e|⟨ob,e⟩)|e
  .exact .inl (.inl (by rw[bq (qa e ha (by intro z;cases z))];exact e))
  .exact .inl (.inr ⟨ob,by rw[bq (qa e ha (by intro z;cases z))];exact e⟩)
  .exact .inr e
theorem HR.write{n:Nat}{a:Addr}{ds es:List Ev.D}{vs ws:List V}(hr:HR K H r h)(hn:h[n]?=some (.lst ds))(Jj:r[n]?=some a)(ha:H a=some (.lst vs))(q:aE K H r es ws) :
  HR K (upd H a (.lst ws)) r (h.set n (.lst es)) where
 len:=by simp[hr.len]
 ob:=λm ob e=>by
  have f:=Fm.write (K:=K) (ws:=ws) ha (Q6 Jj);by_cases hm:m=n
  .subst hm;rw[tQ (List.getElem?_eq_some_iff.mp hn).1]at e;cases e;exact⟨a,Jj,ws,cB,q.mono f⟩
  .rw[gV (λz=>hm z.symm)]at e;obtain⟨b,e1,z⟩:=hr.ob m ob e;refine⟨b,e1,z.mono f (λRi us z3 z2=>?_) (λSG us z2=>by rw[bq (qa z2 ha (by intro z;cases z))];exact z2)
    ⟩
   by_cases hb:b=a
   .subst hb;subst z3;exact absurd (hr.inj m n b Ri ds e1 Jj e hn) hm
   .rw[bq hb];exact z2
 inj:=λk m b x y e1 e2 e3 e4=>by
  have back:∀(j:Nat) z,(h.set n (Ev.O.lst es))[j]?=some (.lst z)->∃z',h[j]?=some (.lst z'):=λj z w=>by
   by_cases hj:j=n
   .subst hj;exact⟨ds,hn⟩
   .rw[gV (λz=>hj z.symm)]at w;exact⟨z,w⟩
  obtain⟨x',e5⟩:=back k x e3;obtain⟨y',e6⟩:=back m y e4;exact hr.inj k m b x' y' e1 e2 e5 e6
def fk{p:Addr}{vs ws:List V}(hp:H p=some (.lst vs)):∀a us,dz K H a us->dz K (upd H p (.lst ws)) a us:=λb us e=>by
 rcases e with (e|⟨ob,e⟩)|e
 .exact .inl (.inl (by rw[bq (qa e hp (by intro z;cases z))];exact e))
 .exact .inl (.inr ⟨ob,by rw[bq (qa e hp (by intro z;cases z))];exact e⟩)
 .exact .inr e
def HR.other{p:Addr}{vs ws:List V}(hr:HR K H r h)(hp:H p=some (.lst vs))(hn:p∉r):HR K (upd H p (.lst ws)) r h where
 len:=hr.len
 ob:=λn ob e=>by
  obtain⟨a,e1,q⟩:=hr.ob n ob e;have ha:a≠p:=λz=>hn (by rw[<-z];exact Q6 e1);refine⟨a,e1,?_⟩;cases ob with
  |lst ds=>
   obtain⟨us,e2,e3⟩:=q;exact⟨us,by rw[bq ha];exact e2,e3.grow (λ_ _ z=>z) (fk hp)⟩
  |bB ds=>
   obtain⟨us,e2,e3⟩:=q;refine⟨us,?_,e3.grow (λ_ _ z=>z) (fk hp)⟩;rcases e2 with ⟨o,e2⟩|e2
   .exact .inl ⟨o,by rw[bq ha];exact e2⟩
   .exact .inr e2
 inj:=hr.inj
def Fm.other{p:Addr}{vs ws:List V}(f:Fm K r r1 H H1)(h0:H p=none)(hp:H1 p=some (.lst vs)):Fm K r r1 H (upd H1 p (.lst ws)) where
 pre:=f.pre
 new:=f.new
 keep:=λa o e n=>by rw[bq (bN e h0)];exact f.keep a o e n
 tups:=λa us e=>fk hp a us (f.tups a us e)
def Fm.cC{p:Addr}{o:HO}(f:Fm K r r1 H H1)(hp:H p=some o)(hn:p∉r):p∉r1/\H1 p=some o:=by
 refine⟨λz=>?_,f.keep p o hp hn⟩;rcases f.new p z with q|q
 .exact hn q
 .rw[hp]at q;cases q
def HR.known{p:Addr}{ds:List Ev.D}{vs:List V}(hr:HR K H r h)(hp:H p=some (.lst vs))(hn:p∉r)(q:aE K H r ds vs):HR K H (r++[p]) (h++[.lst ds]):=by
 have pre:∀(n:Nat) a,r[n]?=some a->(r++[p])[n]?=some a:=λn a e=>by rw[wc (List.getElem?_eq_some_iff.mp e).1];exact e
 refine⟨by simp[hr.len],λn ob e=>?_,λn m a x y e1 e2 e3 e4=>?_
  ⟩
 .by_cases hk:n<h.length
  .rw[wc hk]at e;obtain⟨a,e1,z⟩:=hr.ob n ob e;refine⟨a,pre n a e1,?_⟩;cases ob with
   |lst ds=>obtain⟨us,e2,e3⟩:=z;exact⟨us,e2,e3.grow pre λ_ _ z=>z⟩
   |bB ds=>obtain⟨us,e2,e3⟩:=z;exact⟨us,e2,e3.grow pre λ_ _ z=>z⟩
  .have e2:=(List.getElem?_eq_some_iff.mp e).1;simp only[HJ,T9]at e2;have e3:n=h.length:=by omega
   subst e3;simp at e;subst e;exact⟨p,by rw[<-hr.len];simp,vs,hp,q.grow pre λ_ _ z=>z⟩
 .have out:∀(k:Nat) z,(h++[Ev.O.lst ds])[k]?=some (.lst z)->(r++[p])[k]?=some a->(k<h.length/\r[k]?=some a/\h[k]?=some (.lst z)/\a≠p)\/(k=h.length/\a=p):=λk z q1 q2=>by
   by_cases hk:k<h.length
   .rw[wc hk]at q1;rw[wc (by rw[hr.len];exact hk)]at q2;exact .inl ⟨hk,q2,q1,λz=>hn (by rw[<-z];exact Q6 q2)⟩
   .have e5:=(List.getElem?_eq_some_iff.mp q1).1;simp only[HJ,T9]at e5;have e6:k=r.length:=by rw[hr.len];omega
    subst e6;simp at q2;exact .inr ⟨hr.len,q2.symm⟩
  rcases out n x e3 e1 with ⟨h1,h2,h3,h4⟩|⟨h1,h2⟩
  .rcases out m y e4 e2 with ⟨k1,k2,k3,k4⟩|⟨k1,k2⟩
   .exact hr.inj n m a x y h2 k2 h3 k3
   .exact absurd k2 h4
  .rcases out m y e4 e2 with ⟨k1,k2,k3,k4⟩|⟨k1,k2⟩
   .exact absurd h2 k4
   .rw[h1,k1]
def Fm.known{p:Addr}(f:Fm K r r1 H H1)(h0:H p=none):Fm K r (r1++[p]) H H1 where
 pre:=λn a e=>by
  have e':=f.pre n a e;rw[wc (List.getElem?_eq_some_iff.mp e').1];exact e'
 new:=λa e=>by
  rcases List.mem_append.mp e with q|q
  .exact f.new a q
  .rw[WC]at q;subst q;exact .inr h0
 keep:=f.keep
 tups:=f.tups
end
end Sm
namespace Sm
open PySem PySem.Spec PyProof.Rows L2
open Ev (D O Hh Fr R aB E Es Eo It T S Ss Fl Src bu aV TY BI ME)
section
variable(K:PySem.W.Frag)
def Res(r:List Addr)(H:Hp)(h':Hh)(d:D)(Q:VK):Prop:=∀v H' r',RV K H' r' d v->HR K H' r' h'->Fm K r r' H H'->Q v H'
structure SR(m:List Nat)(H:Hp)(r:List Addr)(fr:Fr)(s:L2.St):Prop where
 len:s.length=m.length
 sl:∀(j i:Nat) d,m[j]?=some i->fr[i]?=some (some d)->∃v,s[j]?=some (some v)/\RV K H r d v
inductive tJ(m:List Nat)(P:aB)(e:E)(s:L2.St)(H:Hp)(Q:VK):Prop
 |mk (r:List Addr) (fr:Fr) (h:Hh) (d:D) (h':Hh) (c0:SR K m H r fr s) (c1:HR K H r h) (c2:Ev.ev P e fr h=.ok d h') (c3:Res K r H h' d Q):tJ m P e s H Q
inductive AQ(m:List Nat)(P:aB)(e:E)(s:L2.St)(H:Hp)(Q:Bool->Hp->Prop):Prop
 |mk (r:List Addr) (fr:Fr) (h:Hh) (k:Bool) (h':Hh) (c0:SR K m H r fr s) (c1:HR K H r h) (c2:Ev.aC P e fr h=.ok k h') (c3:∀H' r',HR K H' r' h'->Fm K r r' H H'->Q k H'):AQ m P e s H Q
inductive Jk(m:List Nat)(P:aB)(es:Es)(s:L2.St)(H:Hp)(Q:List V->Hp->Prop):Prop
 |mk (r:List Addr) (fr:Fr) (h:Hh) (ds:List D) (h':Hh) (c0:SR K m H r fr s) (c1:HR K H r h) (c2:Ev.bH P es fr h=.ok ds h') (c3:∀vs H' r',aE K H' r' ds vs->HR K H' r' h'->Fm K r r' H H'->Q vs H'):Jk m P es s H Q
inductive ON(m:List Nat)(P:aB)(e:Eo)(s:L2.St)(H:Hp)(Q:Option Int->Hp->Prop):Prop
 |mk (r:List Addr) (fr:Fr) (h:Hh) (o:Option Int) (h':Hh) (c0:SR K m H r fr s) (c1:HR K H r h) (c2:Ev.fF P e fr h=.ok o h') (c3:∀H' r',HR K H' r' h'->Fm K r r' H H'->Q o H'):ON m P e s H Q
inductive fH(f:D->D->Hh->R D)(x:V)(y:V)(H:Hp)(Q:VK):Prop
 |mk (r:List Addr) (h:Hh) (a:D) (b:D) (d:D) (h':Hh) (c0:HR K H r h) (c1:RV K H r a x) (c2:RV K H r b y) (c3:f a b h=.ok d h') (c4:Res K r H h' d Q):fH f x y H Q
inductive qm(f:List D->Hh->R D)(xs:List V)(H:Hp)(Q:VK):Prop
 |mk (r:List Addr) (h:Hh) (as:List D) (d:D) (h':Hh) (c0:HR K H r h) (c1:aE K H r as xs) (c2:f as h=.ok d h') (c3:Res K r H h' d Q):qm f xs H Q
inductive uK(f:D->List D->Hh->R D)(x:V)(xs:List V)(H:Hp)(Q:VK):Prop
 |mk (r:List Addr) (h:Hh) (a:D) (as:List D) (d:D) (h':Hh) (c0:HR K H r h) (c1:RV K H r a x) (c2:aE K H r as xs) (c3:f a as h=.ok d h') (c4:Res K r H h' d Q):uK f x xs H Q
inductive Jl  (x:V) (lo:Option Int) (hi:Option Int) (H:Hp) (Q:VK):Prop
 |mk (r:List Addr) (h:Hh) (a:D) (d:D) (h':Hh) (c0:HR K H r h) (c1:RV K H r a x) (c2:Ev.eH a lo hi h=.ok d h') (c3:Res K r H h' d Q):Jl x lo hi H Q
end
section
variable{K:PySem.W.Frag}{m:List Nat}{H H':Hp}{r r':List Addr}{fr:Fr}{s:L2.St}{h h':Hh}{d:D}{Q:VK}
theorem SR.mono(a:SR K m H r fr s)(f:Fm K r r' H H'):SR K m H' r' fr s:=⟨a.len,λj i d e1 e2=>by
 obtain⟨v,q,z⟩:=a.sl j i d e1 e2;exact⟨v,q,z.mono f⟩⟩
def Res.here{v:V}(q:Res K r H h d Q)(a:RV K H r d v)(b:HR K H r h):Q v H:=q v H r a b .refl
def Res.later(q:Res K r H h' d Q)(f:Fm K r r' H H'):Res K r' H' h' d Q:=λv H2 r2 a b g=>q v H2 r2 a b (f.trans g)
theorem Res.lst{ds:List D}{vs:List V}(q:Res K r H h' d Q)(e:Ev.alloc ds h=.ok d h')(a:aE K H r ds vs)(b:HR K H r h):vs.length<=sizeLine/\∀p,H p=none->Q (.ref p) (upd H p (.lst vs)):=by
 unfold Ev.alloc at e;split at e
 .rename_i z;cases e;refine⟨by rw[a.length,<-jI];exact z,λp hp=>?_⟩;exact q _ _ (r++[p]) ⟨p,rfl,by rw[<-b.len];simp⟩ (b.lst hp a) (.laid hp)
 .cases e
theorem Res.tup{ds:List D}{vs:List V}(q:Res K r H h (.tup ds) Q)(a:aE K H r ds vs)(b:HR K H r h){p:Addr}(hp:H p=none):Q (.ref p) (upd H p (.tup vs)):=
 q _ _ r ⟨p,vs,rfl,.of cB,a.mono (.tup hp)⟩ (b.tup hp) (.tup hp)
end
def PE.of{X:Cx}{e:Expr}{t t':TE}(h:PE X e t)(w:∀s H Q,t' s H Q->t s H Q):PE X e t':=λpins s σ H Q I q=>h pins s σ H Q I (w _ _ _ q)
def PT.of{X:Cx}{e:Expr}{t t':TT}(h:PT X e t)(w:∀s H Q,t' s H Q->t s H Q):PT X e t':=λpins s σ H Q I q=>h pins s σ H Q I (w _ _ _ q)
def PW.of{X:Cx}{e:Expr}{t t':TT}(h:PW X e t)(w:∀s H Q,t' s H Q->t s H Q):PW X e t':=λwh pins s σ H Q I q=>h wh pins s σ H Q I (w _ _ _ q)
def PA.of{X:Cx}{es:List Expr}{t t':TA}(h:PA X es t)(w:∀s H Q,t' s H Q->t s H Q):PA X es t':=λpos pins s σ H Q I q=>h pos pins s σ H Q I (w _ _ _ q)
def PO.of{X:Cx}{e:Option Expr}{t t':TO}(h:PO X e t)(w:∀s H Q,t' s H Q->t s H Q):PO X e t':=λpins s σ H Q I q=>h pins s σ H Q I (w _ _ _ q)
structure FI where
 name:Str
 addr:Addr
 fd:FuncData
 ps:List Str
def lS(K:PySem.W.Frag)(F:List Ev.Fn)(w n f:Nat):Sp:=λvs H Q _=>∃r h ds d h',aE K H r ds vs/\HR K H r h/\Ev.run F w n f ds h=.ok d h'/\Res K r H h' d Q
def xF(K:PySem.W.Frag)(d:D)(v:V):Prop:=∀H r,RV K H r d v
def xF.rv{K:PySem.W.Frag}{H:Hp}{r:List Addr}{d:D}{v:V}(h:xF K d v):RV K H r d v:=h H r
structure Tb where
 F:List Ev.Fn
 w:Nat
 fi:List FI
 bl:List Str
 cs:List (Str×D)
 dk:List (Str×List (D×D))
def tabOf:List (D×D)->List (PyData×PyData)
 | (.str k,.str v) :: r=>(.str (aA k),.str (aA v)) :: tabOf r
 |_=>[]
structure Good(G:Tb)(n:Nat)(sc:Scope)(N:List Str)(df:Bool)(X:Cx):Prop where
 nm:X.N=N
 sc:X.env.scope=sc
 calm:X.calm=true
 own:df=true->∀x,X.fn x=true
 room:eZ n X.A
 xe:X.xe=λ_ _=>False
 fn:∀(f:Nat) i,G.fi[f]?=some i->X.mg i.name=some (.ref i.addr)/\PySem.W.keepIn X.K (.ref i.addr)=true/\Binds X.K i.fd i.ps []/\fc X.prog X.w X.K X.mg X.base kG n i.addr i.fd i.ps (lS X.K G.F G.w n f)
 bl:∀x∈G.bl,X.mg x=none
 cs:∀x d,(x,d)∈G.cs->∃v u,X.mg x=some u/\RelV v u/\xF X.K d v
 dk:∀x kvs,(x,kvs)∈G.dk->∃a,X.mg x=some (.ref a)/\∀h:Heap,X.K.In h->StrTab X.prog X.w h a (tabOf kvs)
section
variable(G:Tb)(n:Nat)(sc:Scope)(N:List Str)(df:Bool)(m:List Nat)
def JE(e:E)(x:Expr):Prop:=∀X,Good G n sc N df X->PE X x (tJ X.K m (Ev.run G.F G.w n) e)
def JT(e:E)(x:Expr):Prop:=∀X,Good G n sc N df X->PT X x (AQ X.K m (Ev.run G.F G.w n) e)
def JW(e:E)(x:Expr):Prop:=∀X,Good G n sc N df X->PW X x (AQ X.K m (Ev.run G.F G.w n) e)
def JA(es:Es)(xs:List Expr):Prop:=∀X,Good G n sc N df X->PA X xs (Jk X.K m (Ev.run G.F G.w n) es)
def JO(e:Eo)(x:Option Expr):Prop:=∀X,Good G n sc N df X->PO X x (ON X.K m (Ev.run G.F G.w n) e)
end
section
variable{G:Tb}{n:Nat}{sc:Scope}{N:List Str}{df:Bool}{m:List Nat}{a b c:E}{xa xb:Expr}{pos:Pos}
def Good.vis{X:Cx}(g:Good G n sc N df X){x:Str}(h:sc.names.lookup x=some .local\/sc.names.lookup x=some .cell\/sc.names.lookup x=some .free):rZ X.env.scope x:=by
 rw[g.sc];exact h
def Good.gl{X:Cx}(g:Good G n sc N df X){x:Str}(h:sc.names.lookup x=some .globalImplicit):Gl X x:=by
 unfold Gl Env.kindOf;rw[g.sc];exact h
def Qo(j i:Nat){x:Str}(hj:m[j]?=some i:=by rfl)(hN:N[j]?=some x:=by rfl)
  (hv:sc.names.lookup x=some .local\/sc.names.lookup x=some .cell\/sc.names.lookup x=some .free:=by first|exact Or.inl rfl|exact Or.inr (Or.inl rfl)|exact Or.inr (Or.inr rfl))
  (hd:(x==("__debug__" : Str))=false:=by decide) (hcd:(x==("__classdict__" : Str))=false:=by decide):JE G n sc N df m (.v i) (.Name x pos):=by
 intro X g;refine PE.of (qd (i:=j) (by rw[g.nm];exact hN) (g.vis hv) hd hcd) λs H Q q=>?_;obtain⟨r,fr,h,d,h',sr,hr,e,q⟩:=q;simp only[Ev.ev]at e;obtain⟨e2,e3⟩:=Ev.aD e;subst e3;obtain⟨v,q1,q2⟩:=sr.sl j i d hj (by
  cases z:fr[i]? with
  |none=>rw[z]at e2;cases e2
  |some o=>
   rw[z]at e2;have e':o=some d:=e2;rw[e'])
 exact⟨v,q1,q.here q2 hr⟩
def qo{K:PySem.W.Frag}{P:aB}{d:D}{v:V}(hc:xF K d v):∀s H Q,tJ K m P (.c d) s H Q->tC v s H Q:=λs H Q q=>by
 obtain⟨r,fr,h,d',h',sr,hr,e,q⟩:=q;simp only[Ev.ev]at e;cases e;exact q.here hc.rv hr
def AR{i:Int}{j}:JE G n sc N df m (.c (.int i)) (.Constant (.int i) j pos):=λX g=>PE.of Io (qo λ_ _=>rfl)
def Nt{k:Bool}{j}:JE G n sc N df m (.c (.bl k)) (.Constant (.bool k) j pos):=λX g=>PE.of t7 (qo λ_ _=>rfl)
def Jm{j}:JE G n sc N df m (.c .aO) (.Constant .none j pos):=λX g=>PE.of As (qo λ_ _=>rfl)
def Jo{l:List Nat}{x:Str}{j}(hx:x=aA l:=by decide +kernel)(hl:l.length<=sizeLine:=by decide):JE G n sc N df m (.c (.str l)) (.Constant (.str x) j pos):=
 λX g=>PE.of uw (qo λ_ _=>by subst hx;exact⟨rfl,hl⟩)
def nM {x:Str}{d:D}(hm:(x,d)∈G.cs) (hg:sc.names.lookup x=some .globalImplicit:=by rfl) (hd:(x==("__debug__" : Str))=false:=by decide):JE G n sc N df m (.c d) (.Name x pos):=λX g=>by
 obtain⟨v,u,h1,h2,h3⟩:=g.cs x d hm;exact PE.of (jr (g.gl hg) h1 h2 hd) (qo h3)
def Jp:JA G n sc N df m .nil []:=λX g=>PA.of kD λs H Q q=>by
 obtain⟨r,fr,h,ds,h',sr,hr,e,q⟩:=q;simp only[Ev.bH]at e;cases e;exact q [] H r .nil hr .refl
def Gb{es:Es}{xs:List Expr}(ha:JE G n sc N df m a xa)(hs:JA G n sc N df m es xs)(hst:∀env:Env,starEach (xa :: xs) env=(false,eval xa env) :: starEach xs env:=by intro _;rfl):JA G n sc N df m (.cons a es) (xa :: xs):=
 λX g=>PA.of (cK (ha X g) (hs X g) (hst _)) λs H Q q=>by
  obtain⟨r,fr,h,ds,h',sr,hr,e,q⟩:=q;simp only[Ev.bH]at e;obtain⟨d,h1,e1,e⟩:=Ev.ah e;obtain⟨ds',h2,e2,e⟩:=Ev.ah e;cases e;refine⟨r,fr,h,d,h1,sr,hr,e1,λv H1 r1 v1 hr1 f1=>?_⟩;refine⟨r1,fr,h1,ds',_,sr.mono f1,hr1,e2,λvs H2 r2 v2 hr2 f2=>?_⟩;exact q _ H2 r2 (.cons (v1.mono f2) v2) hr2 (f1.trans f2)
def Jq{es:Es}{xs:List Expr}{k}(hs:JA G n sc N df m es xs):JE G n sc N df m (.tup es) (.Tuple xs k pos):=λX g=>PE.of (AD (hs X g)) λs H Q q=>by
 obtain⟨r,fr,h,d,h',sr,hr,e,q⟩:=q;simp only[Ev.ev]at e;obtain⟨ds,h1,e1,e⟩:=Ev.ah e;split at e
 .rename_i z;cases e;refine⟨r,fr,h,ds,_,sr,hr,e1,λvs H1 r1 v1 hr1 f1=>⟨by rw[v1.length,<-jI];exact z,λp hp=>?_⟩⟩;exact(q.later f1).tup v1 hr1 hp
 .cases e
def Jr{es:Es}{xs:List Expr}(hs:JA G n sc N df m es xs):JE G n sc N df m (.lst es) (.List xs pos):=λX g=>PE.of (uB (hs X g)) λs H Q q=>by
 obtain⟨r,fr,h,d,h',sr,hr,e,q⟩:=q;simp only[Ev.ev]at e;obtain⟨ds,h1,e1,e⟩:=Ev.ah e;refine⟨r,fr,h,ds,h1,sr,hr,e1,λvs H1 r1 v1 hr1 f1=>?_⟩;exact(q.later f1).lst e v1 hr1
def qp{K:PySem.W.Frag}{P:aB}{f:D->D->Hh->R D}{e':E}(he:∀fr h,Ev.ev P e' fr h=(Ev.ev P a fr h).bind λx h1=>(Ev.ev P b fr h1).bind λy h2=>f x y h2) :
  ∀s H Q,tJ K m P e' s H Q->AA (fH K f) (tJ K m P a) (tJ K m P b) s H Q:=λs H Q q=>by
 obtain⟨r,fr,h,d,h',sr,hr,e,q⟩:=q;rw[he]at e;obtain⟨x,h1,e1,e⟩:=Ev.ah e;obtain⟨y,h2,e2,e⟩:=Ev.ah e;refine⟨r,fr,h,x,h1,sr,hr,e1,λv H1 r1 v1 hr1 f1=>?_⟩;refine⟨r1,fr,h1,y,h2,sr.mono f1,hr1,e2,λu H2 r2 v2 hr2 f2=>?_⟩;exact⟨r2,h2,x,y,d,h',hr2,v1.mono f2,v2,e,q.later (f1.trans f2)⟩
def qq{o:bu}{op:Operator}(ho:∀X,Good G n sc N df X->cz X (binaryOp op) (fH X.K (Ev.bG o)))(ha:JE G n sc N df m a xa)(hb:JE G n sc N df m b xb):JE G n sc N df m (.bin o a b) (.BinOp xa op xb pos):=
 λX g=>PE.of (Nb (ho X g) (ha X g) (hb X g)) (qp λfr h=>by simp only[Ev.ev])
def dR(o:aV):D->D->Hh->R D:=λx y h=>R.of ((Ev.cop o x y h).map .bl) h
def uL{o:aV}{op:CmpOp}(ho:∀X,Good G n sc N df X->cz X (compareOp op) (fH X.K (dR o)))(ha:JE G n sc N df m a xa)(hb:JE G n sc N df m b xb)(hm:behindInMarks op xb=false):JE G n sc N df m (.cmp o a b) (.Compare xa [op] [xb] pos):=
 λX g=>PE.of (FD (ho X g) (ha X g) (hb X g) hm) (qp λfr h=>by simp only[Ev.ev,dR])
def gM{o:aV}{x y d:D}{h h':Hh}(e:dR o x y h=.ok d h'):∃k,Ev.cop o x y h=some k/\d=.bl k/\h'=h:=by
 unfold dR at e;obtain⟨e1,rfl⟩:=Ev.aD e;cases z:Ev.cop o x y h' with
 |none=>rw[z]at e1;cases e1
 |some k=>rw[z]at e1;cases e1;exact⟨k,rfl,rfl,rfl⟩
def kI{o:aV}{op:CmpOp}(ho:∀X,Good G n sc N df X->cz X (compareOp op) (fH X.K (dR o)))(ha:JE G n sc N df m a xa)(hb:JE G n sc N df m b xb)(hm:behindInMarks op xb=false):JT G n sc N df m (.cmp o a b) (.Compare xa [op] [xb] pos):=
 λX g=>PT.of (xx (ho X g) (ha X g) (hb X g) hm) λs H Q q=>by
  obtain⟨r,fr,h,k,h',sr,hr,e,q⟩:=q;simp only[Ev.aC]at e;obtain⟨d,h1,e1,e⟩:=Ev.ah e;have e0:=e1;simp only[Ev.ev]at e0;obtain⟨x,h2,_,e0⟩:=Ev.ah e0;obtain⟨y,h3,_,e0⟩:=Ev.ah e0;obtain⟨k',e2,e3,e4⟩:=gM (o:=o) (show dR o x y h3=_ from e0);subst e3;simp only[Ev.truthy]at e;cases e;refine qp (e':=.cmp o a b) (f:=dR o) (λfr h=>by simp only[Ev.ev,dR]) s H _ ⟨r,fr,h,.bl k,_,sr,hr,e1,λv H1 r1 v1 hr1 f1=>?_⟩;exact⟨k,v1,q H1 r1 hr1 f1⟩
def Em{K:PySem.W.Frag}{P:aB}{o p:aV}:∀s H Q,tJ K m P (.ch o p a b c) s H Q->uA (fH K (dR o)) (fH K (dR p)) (tJ K m P a) (tJ K m P b) (tJ K m P c) s H Q:=λs H Q q=>by
 obtain⟨r,fr,h,d,h',sr,hr,e,q⟩:=q;simp only[Ev.ev]at e;obtain⟨x,h1,e1,e⟩:=Ev.ah e;obtain⟨y,h2,e2,e⟩:=Ev.ah e;obtain⟨k,h3,e3,e⟩:=Ev.ah e;obtain⟨e3,e4⟩:=Ev.aD e3;subst e4;refine⟨r,fr,h,x,h1,sr,hr,e1,λv H1 r1 v1 hr1 f1=>?_⟩;refine⟨r1,fr,h1,y,h3,sr.mono f1,hr1,e2,λu H2 r2 v2 hr2 f2=>?_⟩;refine⟨r2,h3,x,y,.bl k,h3,hr2,v1.mono f2,v2,by simp[dR,e3],λw H3 r3 v3 jU f3=>?_⟩;refine⟨k,v3,?_⟩;cases k with
 |false=>
  simp only[Mb,Uh]at e;cases e;exact(q.later ((f1.trans f2).trans f3)).here rfl jU
 |true=>
  simp only[QO]at e;obtain⟨z,h4,e5,e⟩:=Ev.ah e;refine⟨r3,fr,h3,z,h4,((sr.mono f1).mono f2).mono f3,jU,e5,λt H4 r4 v4 xG f4=>?_⟩;exact⟨r4,h4,y,z,d,h',xG,(v2.mono f3).mono f4,v4,e,q.later (((f1.trans f2).trans f3).trans f4)⟩
end
section
variable{G:Tb}{n:Nat}{sc:Scope}{N:List Str}{df:Bool}{m:List Nat}{a b c:E}{xa xb xc:Expr}{pos:Pos}
def Nu{o p:aV}{op op':CmpOp}(ho:∀X,Good G n sc N df X->cz X (compareOp op) (fH X.K (dR o)))(hp:∀X,Good G n sc N df X->cz X (compareOp op') (fH X.K (dR p)))
  (ha:JE G n sc N df m a xa) (hb:JE G n sc N df m b xb) (hc:JE G n sc N df m c xc) (hm:lastMarks [op,op'] [xb,xc]=false:=by with_unfolding_all rfl):JE G n sc N df m (.ch o p a b c) (.Compare xa [op,op'] [xb,xc] pos):=
 λX g=>PE.of (CJ (ho X g) (hp X g) (ha X g) (hb X g) (hc X g) hm) Em
def Nv{K:PySem.W.Frag}{P:aB}{e':E}{t:TE}(h:∀s H Q,tJ K m P e' s H Q->t s H Q)(hb:∀fr h d h',Ev.ev P e' fr h=.ok d h'->∃k,d=.bl k)
  (ht:∀fr h,Ev.aC P e' fr h=(Ev.ev P e' fr h).bind λx h1=>R.of (Ev.truthy h1 x) h1):∀s H Q,AQ K m P e' s H Q->zf t s H Q:=λs H Q q=>by
 obtain⟨r,fr,h1,k,h',sr,hr,e,q⟩:=q;rw[ht]at e;obtain⟨d,h2,e1,e⟩:=Ev.ah e;obtain⟨k',e2⟩:=hb _ _ _ _ e1;subst e2;simp only[Ev.truthy]at e;cases e;exact h s H _ ⟨r,fr,h1,.bl k,_,sr,hr,e1,λv H1 r1 v1 hr1 f1=>⟨k,v1,q H1 r1 hr1 f1⟩⟩
def Nx{P:aB}{o p:aV}(fr:Fr)(h:Hh)(d:D)(h':Hh)(e:Ev.ev P (.ch o p a b c) fr h=.ok d h'):∃k,d=.bl k:=by
 simp only[Ev.ev]at e;obtain⟨x,h1,e1,e⟩:=Ev.ah e;obtain⟨y,h2,e2,e⟩:=Ev.ah e;obtain⟨k,h3,e3,e⟩:=Ev.ah e;split at e
 .obtain⟨z,h4,e5,e⟩:=Ev.ah e;obtain⟨k',_,e6,_⟩:=gM (o:=p) (show dR p y z h4=_ from e);exact⟨k',e6⟩
 .cases e;exact⟨false,rfl⟩
def Ny{o p:aV}{op op':CmpOp}(ho:∀X,Good G n sc N df X->cz X (compareOp op) (fH X.K (dR o)))(hp:∀X,Good G n sc N df X->cz X (compareOp op') (fH X.K (dR p)))
  (ha:JE G n sc N df m a xa) (hb:JE G n sc N df m b xb) (hc:JE G n sc N df m c xc) (hm:lastMarks [op,op'] [xb,xc]=false:=by with_unfolding_all rfl):JT G n sc N df m (.ch o p a b c) (.Compare xa [op,op'] [xb,xc] pos):=
 λX g=>PT.of (CK (ho X g) (hp X g) (ha X g) (hb X g) (hc X g) hm) (Nv Em Nx λfr h=>by simp only[Ev.aC])
def AS(ha:JE G n sc N df m a xa):JE G n sc N df m (.neg a) (.UnaryOp .USub xa pos):=λX g=>PE.of (Nc IK (ha X g)) λs H Q q=>by
 obtain⟨r,fr,h,d,h',sr,hr,e,q⟩:=q;simp only[Ev.ev]at e;obtain⟨x,h1,e1,e⟩:=Ev.ah e;split at e
 .cases e;exact⟨r,fr,h,_,_,sr,hr,e1,λv H1 r1 v1 hr1 f1=>⟨_,v1,(q.later f1).here rfl hr1⟩⟩
 .cases e
def Js{op}(ha:JE G n sc N df m a xa):JE G n sc N df m a (.BoolOp op [xa] pos):=λX g=>Iv (ha X g)
def Nz{rest:List Expr}(ha:JE G n sc N df m a xa)(hb:JE G n sc N df m b (.BoolOp .And (xb :: rest) pos)):JE G n sc N df m (.an a b) (.BoolOp .And (xa :: xb :: rest) pos):=λX g=>PE.of (Iw (ha X g) (hb X g)) λs H Q q=>by
 obtain⟨r,fr,h,d,h',sr,hr,e,q⟩:=q;simp only[Ev.ev]at e;obtain⟨x,h1,e1,e⟩:=Ev.ah e;refine⟨r,fr,h,x,h1,sr,hr,e1,λv H1 r1 v1 hr1 f1=>?_⟩;split at e
 .exact⟨true,v1,r1,fr,h1,d,h',sr.mono f1,hr1,e,q.later f1⟩
 .cases e;exact⟨false,v1,(q.later f1).here rfl hr1⟩
 .cases e
def Jt(ha:JT G n sc N df m a xa)(hb:JE G n sc N df m b xb)(hc:JE G n sc N df m c xc):JE G n sc N df m (.iH a b c) (.IfExp xa xb xc pos):=λX g=>PE.of (CC (ha X g) (hb X g) (hc X g)) λs H Q q=>by
 obtain⟨r,fr,h,d,h',sr,hr,e,q⟩:=q;simp only[Ev.ev]at e;obtain⟨k,h1,e1,e⟩:=Ev.ah e;refine⟨r,fr,h,k,h1,sr,hr,e1,λH1 r1 hr1 f1=>?_⟩;cases k with
 |true=>exact⟨r1,fr,h1,d,h',sr.mono f1,hr1,e,q.later f1⟩
 |false=>exact⟨r1,fr,h1,d,h',sr.mono f1,hr1,e,q.later f1⟩
def Ju(h:JW G n sc N df m a xa):JT G n sc N df m a xa:=λX g=>(h X g).pt
def Jv(ha:JT G n sc N df m a xa):JW G n sc N df m a (.BoolOp .And [xa] pos):=λX g=>w9 (ha X g)
def Gd(ha:JT G n sc N df m a xa):JW G n sc N df m a (.BoolOp .Or [xa] pos):=λX g=>Ir (ha X g)
def En{rest:List Expr}(ha:JT G n sc N df m a xa)(hb:JW G n sc N df m b (.BoolOp .And (xb :: rest) pos)):JW G n sc N df m (.an a b) (.BoolOp .And (xa :: xb :: rest) pos):=λX g=>PW.of (Au (ha X g) (hb X g)) λs H Q q=>by
 obtain⟨r,fr,h,k,h',sr,hr,e,q⟩:=q;simp only[Ev.aC]at e;obtain⟨k1,h1,e1,e⟩:=Ev.ah e;refine⟨r,fr,h,k1,h1,sr,hr,e1,λH1 r1 hr1 f1=>?_⟩;cases k1 with
 |true=>exact⟨r1,fr,h1,k,h',sr.mono f1,hr1,e,λH2 r2 hr2 f2=>q H2 r2 hr2 (f1.trans f2)⟩
 |false=>
  have e':R.ok false h1=R.ok k h':=e;cases e';exact q H1 r1 hr1 f1
def AU{rest:List Expr}(ha:JT G n sc N df m a xa)(hb:JW G n sc N df m b (.BoolOp .Or (xb :: rest) pos)):JW G n sc N df m (.orr a b) (.BoolOp .Or (xa :: xb :: rest) pos):=λX g=>PW.of (M4 (ha X g) (hb X g)) λs H Q q=>by
 obtain⟨r,fr,h,k,h',sr,hr,e,q⟩:=q;simp only[Ev.aC]at e;obtain⟨k1,h1,e1,e⟩:=Ev.ah e;refine⟨r,fr,h,k1,h1,sr,hr,e1,λH1 r1 hr1 f1=>?_⟩;cases k1 with
 |false=>exact⟨r1,fr,h1,k,h',sr.mono f1,hr1,e,λH2 r2 hr2 f2=>q H2 r2 hr2 (f1.trans f2)⟩
 |true=>
  have e':R.ok true h1=R.ok k h':=e;cases e';exact q H1 r1 hr1 f1
def NB(ha:JT G n sc N df m a xa):JT G n sc N df m (.nt a) (.UnaryOp .Not xa pos):=λX g=>PT.of (Iu (ha X g)) λs H Q q=>by
 obtain⟨r,fr,h,k,h',sr,hr,e,q⟩:=q;simp only[Ev.aC]at e;obtain⟨k1,h1,e1,e⟩:=Ev.ah e;cases e;exact⟨r,fr,h,k1,_,sr,hr,e1,λH1 r1 hr1 f1=>q H1 r1 hr1 f1⟩
def Jw{K:PySem.W.Frag}{H:Hp}{r:List Addr}{h:Hh}{d:D}{v:V}{k:Bool}(hr:HR K H r h)(v1:RV K H r d v)(e:Ev.truthy h d=some k):CL K v H k:=by
 cases d with
 |aO=>simp only[RV]at v1;subst v1;cases e;rfl
 |bl x=>simp only[RV]at v1;subst v1;cases e;rfl
 |int x=>simp only[RV]at v1;subst v1;cases e;rfl
 |str x=>
  simp only[RV]at v1;obtain⟨rfl,z⟩:=v1;cases e;refine⟨by rw[bh];exact z,?_⟩;rw[bh];cases x with
  |nil=>rfl
  |cons c l=>simp;omega
 |tup ds=>
  simp only[RV]at v1;obtain⟨p,vs,rfl,z,q⟩:=v1;cases e;refine .inr (.inl ⟨vs,z,?_⟩);have hl:=q.length;cases ds<;>cases vs<;>simp_all
 |ref i=>
  simp only[RV]at v1;obtain⟨p,rfl,z⟩:=v1;have et:Ev.truthy h (.ref i)=(Ev.aP h i).map λds=>!ds.isEmpty:=by
   first
    |rfl
    | (simp only[Ev.truthy];split<;>first|rfl | (rename_i kvs z;first|exact(AV ⟨kvs,z⟩).elim|exact(hss ⟨kvs,z⟩).elim))
  rw[et]at e;simp only[cR]at e;obtain⟨ds,e1,rfl⟩:=e;obtain⟨p',vs,e2,q1,q2⟩:=hr.read e1;rw[z]at e2;cases e2;refine .inl ⟨vs,q1,?_⟩;have hl:=q2.length;cases ds<;>cases vs<;>simp_all
def Jx(ha:JE G n sc N df m a xa)(he:∀(P:aB) fr h,Ev.aC P a fr h=(Ev.ev P a fr h).bind λx h1=>R.of (Ev.truthy h1 x) h1:=by intros;simp only[Ev.aC])
  (hx:∀(env:Env) whole,isTrue xa env whole=(do let v <-whole;standAt xa.pos;holding [v] (truthy v)):=by intro _ _;rfl):JT G n sc N df m a xa:=λX g=>PT.of (CM (ha X g) (hx _)) λs H Q q=>by
 obtain⟨r,fr,h,k,h',sr,hr,e,q⟩:=q;rw[he]at e;obtain⟨d,h1,e1,e⟩:=Ev.ah e;obtain⟨e,rfl⟩:=Ev.aD e;refine⟨r,fr,h,d,_,sr,hr,e1,λv H1 r1 v1 hr1 f1=>⟨k,Jw hr1 v1 e,q H1 r1 hr1 f1⟩⟩
def Jy:D->D->Hh->R D:=λx y h=>R.of (Ev.fB x y h) h
def NC(ho:∀X,Good G n sc N df X->xC X (fH X.K Jy))(ha:JE G n sc N df m a xa)(hb:JE G n sc N df m b xb)(hs:qZ xb:=by intro _ _;rfl):JE G n sc N df m (.ix a b) (.Subscript xa xb pos):=
 λX g=>PE.of (Nk (ho X g) (ha X g) (hb X g) hs) (qp λfr h=>by simp only[Ev.ev,Jy])
def ND:JO G n sc N df m .no none:=λX g=>PO.of FH λs H Q q=>by
 obtain⟨r,fr,h,o,h',sr,hr,e,q⟩:=q;simp only[Ev.fF]at e;cases e;exact q H r hr .refl
def Jz(ha:JE G n sc N df m a xa):JO G n sc N df m (.yes a) (some xa):=λX g=>PO.of (xA (ha X g)) λs H Q q=>by
 obtain⟨r,fr,h,o,h',sr,hr,e,q⟩:=q;simp only[Ev.fF]at e;obtain⟨d,h1,e1,e⟩:=Ev.ah e;obtain⟨e,rfl⟩:=Ev.aD e;cases d with
 |int i=>
  cases e;exact⟨r,fr,h,.int i,_,sr,hr,e1,λv H1 r1 v1 hr1 f1=>⟨i,v1,q H1 r1 hr1 f1⟩⟩
 |_=>cases e
def NF{lo hi:Eo}{xl xh:Option Expr}{p2}(ho:∀X,Good G n sc N df X->kF X (Jl X.K))(ha:JE G n sc N df m a xa)(hl:JO G n sc N df m lo xl)(hu:JO G n sc N df m hi xh):JE G n sc N df m (.sl a lo hi) (.Subscript xa (.Slice xl xh none p2) pos):=
 λX g=>PE.of (CP (ho X g) (ha X g) (hl X g) (hu X g)) λs H Q q=>by
  obtain⟨r,fr,h,d,h',sr,hr,e,q⟩:=q;simp only[Ev.ev]at e;obtain⟨x,h1,e1,e⟩:=Ev.ah e;obtain⟨l,h2,e2,e⟩:=Ev.ah e;obtain⟨u,h3,e3,e⟩:=Ev.ah e;refine⟨r,fr,h,x,h1,sr,hr,e1,λv H1 r1 v1 hr1 f1=>?_⟩;refine⟨r1,fr,h1,l,h2,sr.mono f1,hr1,e2,λH2 r2 hr2 f2=>?_⟩;refine⟨r2,fr,h2,u,h3,(sr.mono f1).mono f2,hr2,e3,λH3 r3 jU f3=>?_⟩;exact⟨r3,h3,x,d,h',jU,(v1.mono f2).mono f3,e,q.later ((f1.trans f2).trans f3)⟩
def xH{K:PySem.W.Frag}{P:aB}{es:Es}{f:List D->Hh->R D}{e':E}(he:∀fr h,Ev.ev P e' fr h=(Ev.bH P es fr h).bind f) :
  ∀s H Q,tJ K m P e' s H Q->IT (qm K f) (Jk K m P es) s H Q:=λs H Q q=>by
 obtain⟨r,fr,h,d,h',sr,hr,e,q⟩:=q;rw[he]at e;obtain⟨ds,h1,e1,e⟩:=Ev.ah e;exact⟨r,fr,h,ds,h1,sr,hr,e1,λvs H1 r1 v1 hr1 f1=>⟨r1,h1,ds,d,h',hr1,v1,e,q.later f1⟩⟩
def Ep{k:BI}{es:Es}{x:Str}{id:String}{e0:Expr}{xs:List Expr}{p:Pos}(hc:∀X,Good G n sc N df X->eY X (.builtin id) (qm X.K (Ev.cU k)))(hs:JA G n sc N df m es (e0 :: xs))(hb:x∈G.bl:=by decide +kernel)
  (hg:sc.names.lookup x=some .globalImplicit:=by rfl) (hv:bootBuiltins x=some (.builtin id)) (hn:x≠"__name__" :=by decide) (hd:(x==("__debug__" : Str))=false:=by decide)
  (hst:∀env:Env,starEach (e0 :: xs) env=(false,eval e0 env) :: starEach xs env:=by intro _;rfl) (hpl:∀env:Env,(backTo pos (starEach xs env)).any (·.1)=false:=by intro _;rfl) :
  JE G n sc N df m (.bi k es) (.Call (.Name x p) (e0 :: xs) [] pos):=
 λX g=>PE.of (o9 (hc X g) (g.gl hg) (g.bl x hb) hv (hs X g) hn hd (hst _) (hpl _)) (xH λfr h=>by simp only[Ev.ev])
def zA{k:BI}{es:Es}{x:Str}{id:String}{e0:Expr}{xs:List Expr}{p:Pos}(hc:∀X,Good G n sc N df X->eY X (.type id) (qm X.K (Ev.cU k)))(hs:JA G n sc N df m es (e0 :: xs))(hb:x∈G.bl:=by decide +kernel)
  (hg:sc.names.lookup x=some .globalImplicit:=by rfl) (hv:bootBuiltins x=some (.type id)) (hn:x≠"__name__" :=by decide) (hd:(x==("__debug__" : Str))=false:=by decide)
  (hst:∀env:Env,starEach (e0 :: xs) env=(false,eval e0 env) :: starEach xs env:=by intro _;rfl) (hpl:∀env:Env,(backTo pos (starEach xs env)).any (·.1)=false:=by intro _;rfl) :
  JE G n sc N df m (.bi k es) (.Call (.Name x p) (e0 :: xs) [] pos):=
 λX g=>PE.of (mF (hc X g) (g.gl hg) (g.bl x hb) hv (hs X g) hn hd (hst _) (hpl _)) (xH λfr h=>by simp only[Ev.ev])
def NG{f:Nat}{i:FI}{es:Es}{e0:Expr}{xs:List Expr}{p:Pos}(hf:G.fi[f]?=some i)(hs:JA G n sc N df m es (e0 :: xs))
  (hg:sc.names.lookup i.name=some .globalImplicit:=by rfl) (hd:(i.name==("__debug__" : Str))=false:=by decide)
  (hst:∀env:Env,starEach (e0 :: xs) env=(false,eval e0 env) :: starEach xs env:=by intro _;rfl) (hpl:∀env:Env,(backTo pos (starEach xs env)).any (·.1)=false:=by intro _;rfl) :
  JE G n sc N df m (.cl f es) (.Call (.Name i.name p) (e0 :: xs) [] pos):=λX g=>by
 obtain⟨h1,h2,h3,h4⟩:=g.fn f i hf;refine PE.of (qW h4 g.room (g.gl hg) h1 h2 h3 .nil Nm (hs X g) hd (hst _) (hpl _)) λs H Q q=>?_;obtain⟨r,fr,h,d,h',sr,hr,e,q⟩:=q;simp only[Ev.ev]at e;obtain⟨ds,h5,e1,e⟩:=Ev.ah e;refine⟨r,fr,h,ds,h5,sr,hr,e1,λvs H1 r1 v1 hr1 f1=>?_⟩;exact⟨r1,h5,ds,d,h',by rw[Ug];exact v1,hr1,e,q.later f1⟩
noncomputable def C4:ME->String
 |.join=>"str"
 |_=>"list"
def AW{K:PySem.W.Frag}{H:Hp}{r:List Addr}{h:Hh}{k:ME}{d:D}{v:V}{ty:String}(hr:HR K H r h)(v1:RV K H r d v)(e:Ev.qk k d h=true)(ht:ty=C4 k):AH K ty v H:=by
 subst ht;have lst:∀i,d=.ref i->(Ev.aP h i).isSome=true->AH K "list" v H:=λi ed es=>by
  subst ed;obtain⟨ds,e1⟩:=Option.isSome_iff_exists.mp es;obtain⟨p,vs,e2,q1,q2⟩:=hr.read e1;simp only[RV]at v1;obtain⟨p',rfl,e3⟩:=v1;rw[e2]at e3;cases e3;exact .inl ⟨rfl,vs,q1⟩
 cases k with
 |join=>
  cases d with
  |str l=>simp only[RV]at v1;obtain⟨rfl,_⟩:=v1;rfl
  |_=>cases e
 |append=>cases d with|ref i=>exact lst i rfl e|_=>cases e
 |extend=>cases d with|ref i=>exact lst i rfl e|_=>cases e
 |pop=>cases d with|ref i=>exact lst i rfl e|_=>cases e
def Er {k:ME}{es:Es}{e0:Expr}{xs:List Expr}{name:Str}{apos:Pos}{ty id:String}(pa:PlainAttrs ty) (slot:Slot ty name id) (hty:typeOf (.builtin id)=pure (.type "method_descriptor"))
  (hm:∀X,Good G n sc N df X->sC X id (uK X.K (Ev.dZ k))) (ht:ty=C4 k) (ha:JE G n sc N df m a xa) (hs:JA G n sc N df m es (e0 :: xs))
  (hbase:∀env:Env,attributeBase xa name env (eval xa env)=eval xa env:=by intro _;rfl)
  (hfew:∀env:Env,((backTo pos (starEach (e0 :: xs) env)).all (λx=>!x.1)&&(backToKw pos (keywordEach [] env)).all (λx=>x.1.isSome)
   &&decide ((e0 :: xs).length+([]:List Keyword).length+(if ([]:List Keyword).isEmpty then 0 else 1)<30))=true:=by intro _;rfl)
  (hline:(apos.endLine==pos.line)=true:=by rfl) (hst:∀env:Env,starEach (e0 :: xs) env=(false,eval e0 env) :: starEach xs env:=by intro _;rfl) (hpl:∀env:Env,(backTo pos (starEach xs env)).any (·.1)=false:=by intro _;rfl) :
  JE G n sc N df m (.me k a es) (.Call (.Attribute xa name apos) (e0 :: xs) [] pos):=λX g=>
 PE.of (Eh pa slot hty (hm X g) (ha X g) (hs X g) (hbase _) (hfew _) hline (hst _) (hpl _)) λs H Q q=>by
  obtain⟨r,fr,h,d,h',sr,hr,e,q⟩:=q;simp only[Ev.ev]at e;obtain⟨x,h1,e1,e⟩:=Ev.ah e;split at e
  .rename_i hk;obtain⟨ds,h2,e2,e⟩:=Ev.ah e;refine⟨r,fr,h,x,h1,sr,hr,e1,λv H1 r1 v1 hr1 f1=>⟨AW hr1 v1 hk ht,?_⟩⟩;refine⟨r1,fr,h1,ds,h2,sr.mono f1,hr1,e2,λvs H2 r2 v2 hr2 f2=>?_⟩;exact⟨r2,h2,x,ds,d,h',hr2,v1.mono f2,v2,e,q.later (f1.trans f2)⟩
  .cases e
def JB {k:ME}{name:Str}{apos:Pos}{ty id:String}(pa:PlainAttrs ty) (slot:Slot ty name id) (hty:typeOf (.builtin id)=pure (.type "method_descriptor"))
  (hm:∀X,Good G n sc N df X->sC X id (uK X.K (Ev.dZ k))) (ht:ty=C4 k) (ha:JE G n sc N df m a xa)
  (hbase:∀env:Env,attributeBase xa name env (eval xa env)=eval xa env:=by intro _;rfl) (hline:(apos.endLine==pos.line)=true:=by rfl) :
  JE G n sc N df m (.me k a .nil) (.Call (.Attribute xa name apos) [] [] pos):=λX g=>
 PE.of (IY pa slot hty (hm X g) (ha X g) (hbase _) hline) λs H Q q=>by
  obtain⟨r,fr,h,d,h',sr,hr,e,q⟩:=q;simp only[Ev.ev]at e;obtain⟨x,h1,e1,e⟩:=Ev.ah e;split at e
  .rename_i hk;simp only[Ev.bH,Ev.aj]at e;refine⟨r,fr,h,x,h1,sr,hr,e1,λv H1 r1 v1 hr1 f1=>⟨AW hr1 v1 hk ht,?_⟩⟩;exact⟨r1,h1,x,[],d,h',hr1,v1,.nil,e,q.later f1⟩
  .cases e
end
end Sm
namespace Sm
open PySem PySem.Spec PyProof.Rows L2
open Ev (D O Hh Fr R aB E Es Eo T S Ss Fl Src bu aV TY BI ME)
def mS(K:PySem.W.Frag)(r0:List Addr)(H0:Hp)(s:Src)(J:L2.It):Prop:=∀(i:Nat) H1 r1 h1,HR K H1 r1 h1->Fm K r0 r1 H0 H1->Ev.stays h1 s.2=true->
 (∀d,s.1[i]?=some d->J.go i H1/\∀x H2,J.Ef i H1 x H2->∃r2,RV K H2 r2 d x/\HR K H2 r2 h1/\Fm K r1 r2 H1 H2)/\(s.1.length<=i->J.stop i H1)
inductive OO(K:PySem.W.Frag)(m:List Nat)(P:aB)(it:Ev.It)(s:L2.St)(H:Hp)(Rr:L2.It->Hp->Prop):Prop
 |mk (r:List Addr) (fr:Fr) (h:Hh) (src:Src) (h':Hh) (c0:SR K m H r fr s) (c1:HR K H r h) (c2:Ev.bQ P it fr h=.ok src h') (c3:∀J H' r',HR K H' r' h'->Fm K r r' H H'->mS K r' H' src J->Rr J H'):OO K m P it s H Rr
def JI(G:Tb)(n:Nat)(sc:Scope)(N:List Str)(df:Bool)(m:List Nat)(it:Ev.It)(tg x:Expr):Prop:=∀X,Good G n sc N df X->PI X tg x (OO X.K m (Ev.run G.F G.w n) it)
noncomputable def Et(z:Str):L2.It:=⟨λi _=>i<z.length,λi H x H'=>H'=H/\∃c,z.cps[i]?=some c/\x=.str ⟨#[c]⟩,λi _=>z.length<=i⟩
def JD{M:Model}{A:Around}{E:Value->Shared->Prop}{s:Shared}{tg:Expr}{it:Value}{x:Str}{t:Tok}{Q:Unit->Shared->Prop}(hQ:Q () s):wpAny M A (letOwnedTupleGo tg it (.str x t)) Q E s:=by
 unfold letOwnedTupleGo;cases tg<;>first
  |exact eS hQ
  | (cases it<;>exact eS hQ)
def uM {P:Program}{w:World}{K:PySem.W.Frag}{tg:Expr}(z:Str) (t:Tok) (it:Addr) (ty:String) (hty:ty = "str_ascii_iterator" \/ty = "str_iterator") :
  Turn P w K tg (Et z) [it] it (λi h=>h.IsStrIter it ty z t i) where
 mem:=by simp
 obj:=λi h st b hb=>by
  have e:b=it:=by simpa using hb
  subst e;obtain⟨o,e,c,d⟩:=st;exact⟨o,e,λv z=>by rw[d]at z;cases z⟩
 keep:=λi h h' st k=>by
  obtain⟨o,e,c,d⟩:=st;exact⟨o,k it (by simp) o e,c,d⟩
 item:=by
  intro X hP hw hK hc i pins s σ H E I hf st hg;subst hP hw hK;obtain⟨f0,f1,f2,f3,f4,f5⟩:=hf it (by simp);have W:Walks X.prog X.w X.A it [it] [it] z.cps.size (SignAt z) (λi h=>h.IsStrIter it ty z t i):=by
   rcases hty with e|e
   .subst e;exact Walks.strAscii (I.ok.hd hc) it z t
   .subst e;exact Walks.strWide (I.ok.hd hc) it z t
  refine W.item i s _ _ hg st λv h' tk hv st' kk=>?_;obtain⟨c,u,hc',rfl⟩:=hv;have I1:Inv X pins σ H { s with heap:=h',toks:=tk }:=I.turned (λb o hb e=>kk b o (by simpa using hb) e) f0 f1 f3 f4 f5;exact⟨_,rfl,JD ⟨.str ⟨#[c]⟩,H,I1,⟨u,rfl⟩,⟨rfl,c,hc',rfl⟩,st',λb hb=>(hf b hb).1⟩⟩
 done:=by
  intro X hP hw hK hc i pins s σ H E I hf st hg;subst hP hw hK;obtain⟨f0,f1,f2,f3,f4,f5⟩:=hf it (by simp);rcases hty with e|e
  .subst e;exact wpAny_pyNext_ascii_end (I.ok.hd hc) st (by simpa[Str.length,Et]using hg) λh' eb=>⟨rfl,I.turned (t':=s.toks) (λb o hb e=>eb b o hb e) f0 f1 f3 f4 f5⟩
  .subst e;exact wpAny_pyNext_wide_end (I.ok.hd hc) st (by simpa[Str.length,Et]using hg) λh' eb=>⟨rfl,I.turned (t':=s.toks) (λb o hb e=>eb b o hb e) f0 f1 f3 f4 f5⟩
 self:=λ_ _ _ _ _ st h=>by
  rcases hty with e|e
  .subst e;exact wpAny_pyIter_striter_ascii st h
  .subst e;exact wpAny_pyIter_striter_wide st h
def Eu(K:PySem.W.Frag)(x:V)(H:Hp)(Rr:L2.It->Hp->Prop):Prop:=
 (∃a xs,x=.ref a/\eU K H a xs/\Rr (OG K a) H)\/(∃a xs,x=.ref a/\dz K H a xs/\Rr (OH K a) H)\/∃z,x=.str z/\Rr (Et z) H
def JF{X:Cx}{tg l:Expr}{tl:TE}{wi:TI}(hl:PE X l tl)(hw:∀s H Rr,wi s H Rr->tl s H λx H1=>Eu X.K x H1 Rr):PI X tg l wi:=by
 intro pins s σ H Rr I h;refine aQ (hl pins s σ H _ I (hw _ _ _ h)) λv s1 ⟨x,H1,I1,r1,q1⟩=>?_;have fp:∀(o:Obj) b,b∈[s1.heap.objs.size]->eX X pins H1 b:=λo b hb=>by
  have e:b=s1.heap.objs.size:=by simpa using hb
  subst e;exact I1.za (qT _) (I1.hok.fresh (qT _))
 rcases q1 with ⟨a,xs,rfl,hq,q⟩|⟨a,xs,rfl,hq,q⟩|⟨z,rfl,q⟩
 .cases r1;obtain⟨its,rv,p,hz⟩:=I1.list hq;refine wpAny_pyIter_list p.isList ?_;exact⟨s1.heap.objs.size,[s1.heap.objs.size],_,_,H1,rfl,I1.kept (t':=s1.toks) λb o e=>iR _ e,Aw a _,⟨_,QS _ rfl,rfl,rfl⟩,fp default,q⟩
 .cases r1;obtain⟨its,rv,p,hz⟩:=I1.tuple hq;refine wpAny_pyIter_tuple (show s1.heap.IsTuple a its.toArray from p) ?_;exact⟨s1.heap.objs.size,[s1.heap.objs.size],_,_,H1,rfl,I1.kept (t':=s1.toks) λb o e=>iR _ e,zc a _,⟨_,QS _ rfl,rfl,rfl⟩,fp default,q⟩
 .obtain⟨t,rfl⟩:=r1;cases ha:z.cps.all (· < 128)
  .refine wpAny_pyIter_wide ha ?_;exact⟨s1.heap.objs.size,[s1.heap.objs.size],_,_,H1,rfl,I1.kept (t':=s1.toks) λb o e=>iR _ e,uM z t _ _ (.inr rfl),⟨_,QS _ rfl,rfl,rfl⟩,fp default,q⟩
  .refine wpAny_pyIter_ascii ha ?_;exact⟨s1.heap.objs.size,[s1.heap.objs.size],_,_,H1,rfl,I1.kept (t':=s1.toks) λb o e=>iR _ e,uM z t _ _ (.inl rfl),⟨_,QS _ rfl,rfl,rfl⟩,fp default,q⟩
def AX{h:Hh}{n:Nat}{ds:List D}(e:Ev.stays h [(n,ds)]=true):Ev.aP h n=some ds:=by
 simp only[Ev.stays,Bool.and_true]at e;split at e
 .rename_i es q;rw[q,(Ev.sF _ _).mp e]
 .cases e
def Ge{K:PySem.W.Frag}{H:Hp}{r:List Addr}{h:Hh}{d:D}{v:V}{src:Src}{Rr:L2.It->Hp->Prop}(hr:HR K H r h)(v1:RV K H r d v)(e:Ev.gb h d=some src)(q:∀J,mS K r H src J->Rr J H):Eu K v H Rr:=by
 cases d with
 |tup ds=>
  simp only[RV]at v1;obtain⟨a,vs,rfl,z,w⟩:=v1;cases e;refine .inr (.inl ⟨a,vs,rfl,z,q _ λi H1 r1 h1 hr1 f1 st=>⟨λd' e'=>?_,λhl=>?_⟩⟩)
  .obtain⟨u,e1,e2⟩:=w.get e';refine⟨⟨vs,u,f1.tups _ _ z,e1⟩,λx H2 y=>?_⟩;obtain⟨rfl,y⟩:=y;have:=y vs (f1.tups _ _ z);rw[e1]at this;cases this;exact⟨r1,e2.mono f1,hr1,.refl⟩
  .exact⟨vs,f1.tups _ _ z,by rw[w.length];exact hl⟩
 |str l=>
  simp only[RV]at v1;obtain⟨rfl,z⟩:=v1;cases e;refine .inr (.inr ⟨_,rfl,q _ λi H1 r1 h1 hr1 f1 st=>⟨λd' e'=>?_,λhl=>?_⟩⟩)
  .rw[SE]at e';cases e2:l[i]? with
   |none=>rw[e2]at e';cases e'
   |some c=>
    rw[e2]at e';cases e';refine⟨by show i<(aA l).length;rw[bh];exact(List.getElem?_eq_some_iff.mp e2).1,λx H2 y=>?_⟩;obtain⟨rfl,c',y1,rfl⟩:=y;have e3:(aA l).cps[i]?=some c:=by simp[aA,e2]
    rw[e3]at y1;cases y1;exact⟨r1,⟨rfl,by show 1<=sizeLine;decide⟩,hr1,.refl⟩
  .show(aA l).length<=i;rw[bh];simpa using hl
 |ref k=>
  simp only[RV]at v1;obtain⟨a,rfl,z⟩:=v1;simp only[Ev.gb,cR]at e;obtain⟨ds,e1,rfl⟩:=e;obtain⟨a',vs,e2,e3,e4⟩:=hr.read e1;rw[z]at e2;cases e2;refine .inl ⟨a,vs,rfl,e3,q _ λi H1 r1 h1 hr1 f1 st=>?_⟩;obtain⟨a',us,e5,e6,e7⟩:=hr1.read (AX st);rw[f1.pre _ _ z]at e5;cases e5;refine⟨λd' e'=>?_,λhl=>⟨us,e6,by rw[e7.length];exact hl⟩⟩;obtain⟨u,g1,g2⟩:=e7.get e';refine⟨⟨us,u,e6,g1⟩,λx H2 y=>?_⟩;obtain⟨rfl,y⟩:=y;have:=y us e6;rw[g1]at this;cases this;exact⟨r1,g2,hr1,.refl⟩
 |_=>cases e
section
variable{G:Tb}{n:Nat}{sc:Scope}{N:List Str}{df:Bool}{m:List Nat}{a b:E}{xa xb tg:Expr}{pos:Pos}
def JH(ha:JE G n sc N df m a xa):JI G n sc N df m (.seq a) tg xa:=λX g=>JF (ha X g) λs H Rr q=>by
 obtain⟨r,fr,h,src,h',sr,hr,e,q⟩:=q;simp only[Ev.bQ]at e;obtain⟨d,h1,e1,e⟩:=Ev.ah e;obtain⟨e,rfl⟩:=Ev.aD e;refine⟨r,fr,h,d,_,sr,hr,e1,λv H1 r1 v1 hr1 f1=>?_⟩;exact Ge hr1 v1 e λJ hJ=>q J H1 r1 hr1 f1 hJ
def PI.of{X:Cx}{tg l:Expr}{t t':TI}(h:PI X tg l t)(w:∀s H Q,t' s H Q->t s H Q):PI X tg l t':=λpins s σ H Q I q=>h pins s σ H Q I (w _ _ _ q)
def AY{K:PySem.W.Frag}{r:List Addr}{H:Hp}(lo:Int)(k:Nat):mS K r H (Ev.range lo k,[]) (Av lo k):=λi H1 r1 h1 hr1 f1 st=>by
 refine⟨λd e=>?_,λhl=>?_⟩
 .simp only[Ev.range,SE]at e;cases e2:(List.range k)[i]? with
  |none=>rw[e2]at e;cases e
  |some j=>
   rw[e2]at e;cases e;have hi:i<k:=by simpa using (List.getElem?_eq_some_iff.mp e2).1
   have hj:j=i:=by
    rw[Wu hi]at e2;exact(pV e2).symm
   subst hj;refine⟨hi,λx H2 y=>?_⟩;obtain⟨rfl,rfl⟩:=y;exact⟨r1,rfl,hr1,.refl⟩
 .have:(Ev.range lo k).length=k:=by simp[Ev.range]
  show k<=i;have hl':(Ev.range lo k).length<=i:=hl;omega
def Gf {e1:E}{p:Pos}(hs:JA G n sc N df m (.cons e1 .nil) [xa]) (hg:sc.names.lookup ("range" : Str)=some .globalImplicit:=by rfl) (hb:("range" : Str)∈G.bl:=by decide +kernel)
  (hst:∀env:Env,starEach [xa] env=[(false,eval xa env)]:=by intro _;rfl):JI G n sc N df m (.fz (.cons e1 .nil)) tg (.Call (.Name "range" p) [xa] [] pos):=λX g=>
 PI.of (Ax (g.gl hg) (g.bl _ hb) (hs X g) (hst _)) λs H Rr q=>by
  obtain⟨r,fr,h,src,h',sr,hr,e,q⟩:=q;simp only[Ev.bQ]at e;obtain⟨ds,h1,e1,e⟩:=Ev.ah e;obtain⟨e,rfl⟩:=Ev.aD e;refine⟨r,fr,h,ds,_,sr,hr,e1,λvs H1 r1 v1 hr1 f1=>?_⟩;unfold Ev.dX at e;split at e
  .rename_i j;split at e
   .rename_i hj;cases e;simp only[aE,RV]at v1;obtain⟨v,w,rfl,rfl,rfl⟩:=v1;exact⟨_,rfl,hj.1,hj.2,q _ H1 r1 hr1 f1 (AY 0 _)⟩
   .cases e
  .exfalso;simp only[Ev.bH]at e1;obtain⟨d,_,_,e1⟩:=Ev.ah e1;simp only[Ev.aj]at e1;cases e1
  .cases e
def Gg {e1 e2:E}{p:Pos}(hs:JA G n sc N df m (.cons e1 (.cons e2 .nil)) [xa,xb]) (hg:sc.names.lookup ("range" : Str)=some .globalImplicit:=by rfl) (hb:("range" : Str)∈G.bl:=by decide +kernel)
  (hst:∀env:Env,starEach [xa,xb] env=[(false,eval xa env),(false,eval xb env)]:=by intro _;rfl) (zB:∀env:Env,starEach [xb] env=[(false,eval xb env)]:=by intro _;rfl) :
  JI G n sc N df m (.fz (.cons e1 (.cons e2 .nil))) tg (.Call (.Name "range" p) [xa,xb] [] pos):=λX g=>
 PI.of (Ay (g.gl hg) (g.bl _ hb) (hs X g) (hst _) (zB _)) λs H Rr q=>by
  obtain⟨r,fr,h,src,h',sr,hr,e,q⟩:=q;simp only[Ev.bQ]at e;obtain⟨ds,h1,e1,e⟩:=Ev.ah e;obtain⟨e,rfl⟩:=Ev.aD e;refine⟨r,fr,h,ds,_,sr,hr,e1,λvs H1 r1 v1 hr1 f1=>?_⟩;unfold Ev.dX at e;split at e
  .exfalso;simp only[Ev.bH]at e1;obtain⟨d,_,_,e1⟩:=Ev.ah e1;obtain⟨d2,_,e2,e1⟩:=Ev.ah e1;obtain⟨d3,_,e3,e2⟩:=Ev.ah e2;simp only[Ev.aj]at e2;cases e2;cases e1
  .rename_i i j;split at e
   .rename_i hj;cases e;simp only[aE,RV]at v1;obtain⟨v,w,rfl,rfl,v',w',rfl,rfl,rfl⟩:=v1;exact⟨_,_,rfl,hj,q _ H1 r1 hr1 f1 (AY _ _)⟩
   .cases e
  .cases e
inductive gJ(K:PySem.W.Frag)(m:List Nat)(t:T)(v:V)(s:L2.St)(H:Hp)(Q:L2.St->Hp->Prop):Prop
 |mk (r:List Addr) (fr:Fr) (h:Hh) (d:D) (ai:Fr) (c0:SR K m H r fr s) (c1:HR K H r h) (c2:RV K H r d v) (c3:Ev.aY t d fr=some ai) (c4:∀s',SR K m H r ai s'->Q s' H):gJ K m t v s H Q
def JG(G:Tb)(n:Nat)(sc:Scope)(N:List Str)(df:Bool)(m:List Nat)(t:T)(x:Expr):Prop:=∀X,Good G n sc N df X->PG X x (gJ X.K m t)
def PG.of{X:Cx}{e:Expr}{t t':TG}(h:PG X e t)(w:∀v s H Q,t' v s H Q->t v s H Q):PG X e t':=λpins s σ H v u Q I r q=>h pins s σ H v u Q I r (w _ _ _ _ q)
theorem SR.set{K:PySem.W.Frag}{m:List Nat}{H:Hp}{r:List Addr}{fr:Fr}{s:L2.St}(sr:SR K m H r fr s)(hm:m.Nodup){j i:Nat}(hj:m[j]?=some i){d:D}{v:V}(v1:RV K H r d v):SR K m H r (fr.set i (some d)) (s.set j (some v)):=by
 refine⟨by simp[sr.len],λj' i' d' e1 e2=>?_⟩;by_cases hi:i'=i
 .subst hi;have:j'=j:=AZ hm e1 hj;subst this;have hlt:i'<fr.length:=by
   have:=(List.getElem?_eq_some_iff.mp e2).1;simpa using this
  rw[tQ hlt]at e2;cases e2;refine⟨v,tQ ?_,v1⟩;rw[sr.len];exact(List.getElem?_eq_some_iff.mp hj).1
 .rw[gV (λz=>hi z.symm)]at e2;obtain⟨u,q1,q2⟩:=sr.sl j' i' d' e1 e2;refine⟨u,?_,q2⟩;rw[gV]
  .exact q1
  .intro z;subst z;rw[hj]at e1;cases e1;exact hi rfl
where
 AZ {l:List Nat} (hl:l.Nodup) {i j:Nat} {x:Nat} (a:l[i]?=some x) (b:l[j]?=some x):i=j:=by
  have ha:=(List.getElem?_eq_some_iff.mp a)
  have hb:=(List.getElem?_eq_some_iff.mp b)
  obtain⟨h1,e1⟩:=ha;obtain⟨h2,e2⟩:=hb;exact(WQ hl).mp (e1.trans e2.symm)
def Good.loc{X:Cx}(g:Good G n sc N df X){x:Str}(h:sc.names.lookup x=some .local\/(df=true/\sc.names.lookup x=some .cell)):Loc X.env.scope x/\(X.fn x=true\/X.env.scope.names.lookup x=some .local):=by
 rw[show Loc X.env.scope x↔Loc sc x by rw[g.sc],g.sc];rcases h with h|⟨h1,h⟩
 .exact⟨.inl h,.inr h⟩
 .exact⟨.inr h,.inl (g.own h1 x)⟩
def JJ(j i:Nat){x:Str}(hm:m.Nodup)(hN:N.Nodup)(hj:m[j]?=some i:=by rfl)(sI:N[j]?=some x:=by rfl)
  (hl:sc.names.lookup x=some .local\/(df=true/\sc.names.lookup x=some .cell):=by first|exact Or.inl rfl|exact Or.inr ⟨rfl,rfl⟩):JG G n sc N df m (.one i) (.Name x pos):=λX g=>by
 obtain⟨h1,h2⟩:=g.loc hl;refine PG.of (xq (i:=j) (by rw[g.nm];exact hN) (by rw[g.nm];exact sI) h1 h2) λv s H Q q=>?_;obtain⟨r,fr,h,d,ai,sr,hr,v1,e,q⟩:=q;cases e;exact q _ (sr.set hm hj v1)
inductive OP(K:PySem.W.Frag)(m:List Nat)(l:List Nat)(vs:List V)(s:L2.St)(H:Hp)(Q:L2.St->Hp->Prop):Prop
 |mk (r:List Addr) (fr:Fr) (h:Hh) (ds:List D) (ai:Fr) (c0:SR K m H r fr s) (c1:HR K H r h) (c2:aE K H r ds vs) (c3:Ev.dj l ds fr=some ai) (c4:∀s',SR K m H r ai s'->Q s' H):OP K m l vs s H Q
def sJ(G:Tb)(n:Nat)(sc:Scope)(N:List Str)(df:Bool)(m:List Nat)(l:List Nat)(xs:List Expr):Prop:=∀X,Good G n sc N df X->oA X xs (OP X.K m l)
def oA.of{X:Cx}{e:List Expr}{t t':sd}(h:oA X e t)(w:∀v s H Q,t' v s H Q->t v s H Q):oA X e t':=λpins s σ H v u Q I r q=>h pins s σ H v u Q I r (w _ _ _ _ q)
def Gh:sJ G n sc N df m [] []:=λX g=>oA.of Fz λvs s H Q q=>by
 obtain⟨r,fr,h,ds,ai,sr,hr,v1,e,q⟩:=q;cases ds with
 |nil=>simp only[aE]at v1;subst v1;cases e;exact⟨rfl,q _ sr⟩
 |cons _ _=>cases e
def C5(j i:Nat){x:Str}{l:List Nat}{xs:List Expr}(hm:m.Nodup)(hN:N.Nodup)(hs:sJ G n sc N df m l xs)(hj:m[j]?=some i:=by rfl)(sI:N[j]?=some x:=by rfl)
  (hl:sc.names.lookup x=some .local\/(df=true/\sc.names.lookup x=some .cell):=by first|exact Or.inl rfl|exact Or.inr ⟨rfl,rfl⟩)
  (hst:∀env:Env,(assignEach (.Name x pos :: xs) env).map (·.2)=assign (.Name x pos) env :: (assignEach xs env).map (·.2):=by intro _;rfl):sJ G n sc N df m (i :: l) (.Name x pos :: xs):=λX g=>by
 obtain⟨h1,h2⟩:=g.loc hl;refine oA.of (CG (xq (i:=j) (by rw[g.nm];exact hN) (by rw[g.nm];exact sI) h1 h2) (hs X g) (hst _)) λvs s H Q q=>?_;obtain⟨r,fr,h,ds,ai,sr,hr,v1,e,q⟩:=q;cases ds with
 |nil=>cases e
 |cons d ds=>
  simp only[aE]at v1;obtain⟨v,w,rfl,v2,v3⟩:=v1;exact⟨v,w,rfl,r,_,h,ds,ai,sr.set hm hj v2,hr,v3,e,q⟩
def Gi{l:List Nat}{xs:List Expr}{k:Nat}(hs:sJ G n sc N df m l xs)(hn:∀env:Env,(assignEach xs env).length=l.length:=by intro _;rfl)(hst:∀env:Env,(assignEach xs env).findIdx? (·.1)=none:=by intro _;rfl) :
  JG G n sc N df m (.many l) (.Tuple xs k pos):=λX g=>PG.of (IA (n:=l.length) g.calm (hs X g) (hn _) (hst _)) λv s H Q q=>by
 obtain⟨r,fr,h,d,ai,sr,hr,v1,e,q⟩:=q;cases d with
 |tup ds=>
  simp only[RV]at v1;obtain⟨p,vs,rfl,z,w⟩:=v1;have hlen:∀(l:List Nat) (ds:List D) fr ai,Ev.dj l ds fr=some ai->ds.length=l.length:=by
   intro l;induction l with
   |nil=>intro ds fr ai e;cases ds with|nil=>rfl|cons _ _=>cases e
   |cons i l ih=>intro ds fr ai e;cases ds with|nil=>cases e|cons d ds=>simp[ih ds _ _ e]
  exact⟨p,vs,rfl,z,by rw[w.length];exact hlen _ _ _ _ e,r,fr,h,ds,ai,sr,hr,w,e,q⟩
 |_=>cases e
end
def Fin(K:PySem.W.Frag)(m:List Nat)(r:List Addr)(H:Hp)(h':Hh)(fl:Fl)(ai:Fr)(Q:Ends):Prop:=match fl with
 |.nx=>∀s' H' r',SR K m H' r' ai s'->HR K H' r' h'->Fm K r r' H H'->Q.nx s' H'
 |.bk=>∀s' H' r',SR K m H' r' ai s'->HR K H' r' h'->Fm K r r' H H'->Q.bk s' H'
 |.ct=>∀s' H' r',SR K m H' r' ai s'->HR K H' r' h'->Fm K r r' H H'->Q.ct s' H'
 |.ret d=>Res K r H h' d Q.rt
theorem Fin.later{K:PySem.W.Frag}{m:List Nat}{r r':List Addr}{H H':Hp}{h':Hh}{fl:Fl}{ai:Fr}{Q:Ends}(q:Fin K m r H h' fl ai Q)(f:Fm K r r' H H'):Fin K m r' H' h' fl ai Q:=by
 cases fl with
 |nx=>exact λs2 H2 r2 a b g=>q s2 H2 r2 a b (f.trans g)
 |bk=>exact λs2 H2 r2 a b g=>q s2 H2 r2 a b (f.trans g)
 |ct=>exact λs2 H2 r2 a b g=>q s2 H2 r2 a b (f.trans g)
 |ret d=>exact Res.later q f
inductive OQ(K:PySem.W.Frag)(m:List Nat)(P:aB)(w:Nat)(st:S)(Q:Ends)(s:L2.St)(H:Hp):Prop
 |mk (r:List Addr) (fr:Fr) (h:Hh) (fl:Fl) (ai:Fr) (h':Hh) (c0:SR K m H r fr s) (c1:HR K H r h) (c2:Ev.ex P w st fr h=.ok (fl,ai) h') (c3:Fin K m r H h' fl ai Q):OQ K m P w st Q s H
inductive pB(K:PySem.W.Frag)(m:List Nat)(P:aB)(w:Nat)(ss:Ss)(Q:Ends)(s:L2.St)(H:Hp):Prop
 |mk (r:List Addr) (fr:Fr) (h:Hh) (fl:Fl) (ai:Fr) (h':Hh) (c0:SR K m H r fr s) (c1:HR K H r h) (c2:Ev.exs P w ss fr h=.ok (fl,ai) h') (c3:Fin K m r H h' fl ai Q):pB K m P w ss Q s H
def PS.of{X:Cx}{st:Stmt}{t t':TS}(h:PS X st t)(w:∀Q s H,t' Q s H->t Q s H):PS X st t':=λpins s σ H Q I q=>h pins s σ H Q I (w _ _ _ q)
def gj.of{X:Cx}{st:List Stmt}{t t':TS}(h:gj X st t)(w:∀Q s H,t' Q s H->t Q s H):gj X st t':=λpins s σ H Q I q=>h pins s σ H Q I (w _ _ _ q)
section
variable(G:Tb)(n:Nat)(sc:Scope)(N:List Str)(df:Bool)(m:List Nat)
def JS(st:S)(x:Stmt):Prop:=∀X,Good G n sc N df X->PS X x (OQ X.K m (Ev.run G.F G.w n) G.w st)
def mT(ss:Ss)(xs:List Stmt):Prop:=∀X,Good G n sc N df X->gj X xs (pB X.K m (Ev.run G.F G.w n) G.w ss)
end
section
variable{G:Tb}{n:Nat}{sc:Scope}{N:List Str}{df:Bool}{m:List Nat}{a:E}{xa tg:Expr}{pos:Pos}
def Gj:mT G n sc N df m .nil []:=λX g=>gj.of xg λQ s H q=>by
 obtain⟨r,fr,h,fl,ai,h',sr,hr,e,q⟩:=q;simp only[Ev.exs]at e;cases e;exact q s H r sr hr .refl
def C6{st:S}{ss:Ss}{x:Stmt}{xs:List Stmt}(h1:JS G n sc N df m st x)(h2:mT G n sc N df m ss xs):mT G n sc N df m (.cons st ss) (x :: xs):=λX g=>gj.of (kX (h1 X g) (h2 X g)) λQ s H q=>by
 obtain⟨r,fr,h,fl,ai,h',sr,hr,e,q⟩:=q;simp only[Ev.exs]at e;obtain⟨⟨fJ,af⟩,h1,e1,e⟩:=Ev.ah e;refine⟨r,fr,h,fJ,af,h1,sr,hr,e1,?_⟩;cases fJ with
 |nx=>exact λs1 H1 r1 JK hr1 f1=>⟨r1,af,h1,fl,ai,h',JK,hr1,e,q.later f1⟩
 |bk=>cases e;exact q
 |ct=>cases e;exact q
 |ret d=>cases e;exact q
def JL(j i:Nat){x:Str}{pos':Pos}(hm:m.Nodup)(hN:N.Nodup)(ha:JE G n sc N df m a xa)(hs:∀env:Env,swapsWith xa (some (.Name x pos')) pos.line env=pure false:=by intro _;rfl)(hj:m[j]?=some i:=by rfl)(sI:N[j]?=some x:=by rfl)
  (hl:sc.names.lookup x=some .local\/(df=true/\sc.names.lookup x=some .cell):=by first|exact Or.inl rfl|exact Or.inr ⟨rfl,rfl⟩):JS G n sc N df m (.set i a) (.Assign [.Name x pos'] xa pos):=λX g=>by
 obtain⟨h1,h2⟩:=g.loc hl;refine PS.of (qe (i:=j) (by rw[g.nm];exact hN) (by rw[g.nm];exact sI) h1 (ha X g) (hs _) h2) λQ s H q=>?_;obtain⟨r,fr,h,fl,ai,h',sr,hr,e,q⟩:=q;simp only[Ev.ex]at e;obtain⟨d,h1,e1,e⟩:=Ev.ah e;cases e;exact⟨r,fr,h,d,_,sr,hr,e1,λv H1 r1 v1 hr1 f1=>q _ H1 r1 ((sr.mono f1).set hm hj v1) hr1 f1⟩
def JM(ha:JE G n sc N df m a xa)(hs:∀env:Env,swapsWith xa none pos.line env=pure false:=by intro _;rfl):JS G n sc N df m (.exp a) (.Expr xa pos):=λX g=>PS.of (Fy (ha X g) (hs _)) λQ s H q=>by
 obtain⟨r,fr,h,fl,ai,h',sr,hr,e,q⟩:=q;simp only[Ev.ex]at e;obtain⟨d,h1,e1,e⟩:=Ev.ah e;cases e;exact⟨r,fr,h,d,_,sr,hr,e1,λv H1 r1 v1 hr1 f1=>q s H1 r1 (sr.mono f1) hr1 f1⟩
def JN(ha:JE G n sc N df m a xa):JS G n sc N df m (.ret a) (.Return (some xa) pos):=λX g=>PS.of (uy (ha X g)) λQ s H q=>by
 obtain⟨r,fr,h,fl,ai,h',sr,hr,e,q⟩:=q;simp only[Ev.ex]at e;obtain⟨d,h1,e1,e⟩:=Ev.ah e;cases e;exact⟨r,fr,h,d,_,sr,hr,e1,q⟩
def JQ{ta tb:Ss}{ya yb:List Stmt}(hc:JT G n sc N df m a xa)(h1:mT G n sc N df m ta ya)(h2:mT G n sc N df m tb yb):JS G n sc N df m (.iff a ta tb) (.If xa ya yb pos):=λX g=>PS.of (y9 (hc X g) (h1 X g) (h2 X g)) λQ s H q=>by
 obtain⟨r,fr,h,fl,ai,h',sr,hr,e,q⟩:=q;simp only[Ev.ex]at e;obtain⟨k,h3,e1,e⟩:=Ev.ah e;refine⟨r,fr,h,k,h3,sr,hr,e1,λH1 r1 hr1 f1=>?_⟩;cases k with
 |true=>exact⟨r1,fr,h3,fl,ai,h',sr.mono f1,hr1,e,q.later f1⟩
 |false=>exact⟨r1,fr,h3,fl,ai,h',sr.mono f1,hr1,e,q.later f1⟩
def Good.pass{X:Cx}(g:Good G n sc N df X):PassesOwn (model X.prog X.w) X.A X.env X.xe:=by
 rw[g.xe];exact PassesOwn.never
def FN(K:PySem.W.Frag)(m:List Nat)(fJ:Fl)(gk:Fr)(h4:Hh)(r1:List Addr)(H1:Hp)(s5:L2.St)(H5:Hp):Prop:=(fJ=.nx\/fJ=.ct)/\∃r5,SR K m H5 r5 gk s5/\HR K H5 r5 h4/\Fm K r1 r5 H1 H5
section
variable{K:PySem.W.Frag}{r r1 r2:List Addr}{H H1 H2:Hp}{h4 h':Hh}{fl fJ:Fl}{gk ai:Fr}{Q:Ends}
noncomputable def C7(L:R (Fl×Fr))(p:Fl×Fr)(h1:Hh):R (Fl×Fr):=match p.1 with
 |.nx=>L
 |.ct=>L
 |.bk=>.ok (.nx,p.2) h1
 |.ret x=>.ok (.ret x,p.2) h1
def Gk{L:R (Fl×Fr)}(e:C7 L (fJ,gk) h4=.ok (fl,ai) h')(z:fJ=.nx\/fJ=.ct):L=.ok (fl,ai) h':=by rcases z with rfl|rfl<;>exact e
def C8{L:R (Fl×Fr)}(e:C7 L (fJ,gk) h4=.ok (fl,ai) h')(q:Fin K m r H h' fl ai Q)(f:Fm K r r1 H H1)(f2:Fm K r1 r2 H1 H2):Fin K m r2 H2 h4 fJ gk { Q with nx:=FN K m fJ gk h4 r1 H1,ct:=FN K m fJ gk h4 r1 H1,bk:=Q.nx }:=by
 cases fJ with
 |nx=>exact λs6 H6 r6 A2 A3 f6=>⟨.inl rfl,r6,A2,A3,f2.trans f6⟩
 |ct=>exact λs6 H6 r6 A2 A3 f6=>⟨.inr rfl,r6,A2,A3,f2.trans f6⟩
 |bk=>
  cases e;exact λs6 H6 r6 A2 A3 f6=>q s6 H6 r6 A2 A3 ((f.trans f2).trans f6)
 |ret d=>
  cases e;exact Res.later q (f.trans f2)
def uN(P:aB)(w:Nat)(t:T)(tb:Ss):D->Fr->Hh->R (Fl×Fr):=λd ak h2=>match Ev.aY t d ak with
 |some bz=>Ev.exs P w tb bz h2
 |none=>.bad
def uO(P:aB)(w:Nat)(t:T)(it:Ev.It)(tb:Ss)(fr:Fr)(h:Hh):Ev.ex P w (.for t it tb) fr h=(Ev.bQ P it fr h).bind λs h1=>Ev.forL (uN P w t tb) s.2 s.1 fr h1:=by simp only[Ev.ex];rfl
def sL(f:D->Fr->Hh->R (Fl×Fr))(ck:List (Nat×List D))(d:D)(ds:List D)(fr:Fr)(h:Hh):Ev.forL f ck (d :: ds) fr h=if Ev.stays h ck then (f d fr h).bind λp h1=>C7 (Ev.forL f ck ds p.2 h1) p h1 else .bad:=rfl
def FW(K:PySem.W.Frag)(m:List Nat)(f:D->Fr->Hh->R (Fl×Fr))(src:Src)(r1:List Addr)(H1:Hp)(o:Fl×Fr)(h':Hh)(i k:Nat)(s3:L2.St)(H3:Hp):Prop:=
 k=src.1.length - i/\i<=src.1.length/\∃r3 bz h3,SR K m H3 r3 bz s3/\HR K H3 r3 h3/\Fm K r1 r3 H1 H3/\Ev.forL f src.2 (src.1.drop i) bz h3=.ok o h'
def C9{P:aB}{w:Nat}{t:T}{tb:Ss}{src:Src}{J:L2.It}{i k:Nat}{s3:L2.St}{H3:Hp}(hJ:mS K r1 H1 src J)(q:Fin K m r H h' fl ai Q)(f1:Fm K r r1 H H1)(hW:FW K m (uN P w t tb) src r1 H1 (fl,ai) h' i k s3 H3) :
  (J.stop i H3/\Q.nx s3 H3)\/(J.go i H3/\∃N:L2.St->Hp->Prop,(∀σ' H',N σ' H'->∃m',m'<k/\FW K m (uN P w t tb) src r1 H1 (fl,ai) h' (i+1) m' σ' H')/\∀x H',J.Ef i H3 x H'->gJ K m t x s3 H' λσ2 H2=>pB K m P w tb { Q with nx:=N,ct:=N,bk:=Q.nx } σ2 H2):=by
 obtain⟨rfl,hle,r3,bz,h3,xJ,jU,f3,e3⟩:=hW;rcases VN i src.1.length with hlt|hge
 .rw[UR hlt,sL]at e3;split at e3
  .rename_i hst;obtain⟨g1,g2⟩:=(hJ i H3 r3 h3 jU f3 hst).1 src.1[i] (tP hlt);obtain⟨⟨fJ,gk⟩,h4,e4,e3⟩:=Ev.ah e3;unfold uN at e4;split at e4
   .rename_i mD e5;exact .inr ⟨g1,FN K m fJ gk h4 r1 H1,λs5 H5 ⟨hfl,r5,sM,oH,f5⟩=>⟨_,Vp hlt (Vb i),rfl,hlt,r5,gk,h4,sM,oH,f5,Gk e3 hfl⟩,λx H4 y=>
     let ⟨r4,v4,xG,f4⟩:=g2 x H4 y
     ⟨r4,bz,h3,_,mD,xJ.mono f4,xG,v4,e5,λs5 sM=>⟨r4,mD,h3,fJ,gk,h4,sM,xG,e4,C8 e3 q f1 (f3.trans f4)⟩⟩⟩
   .cases e4
  .cases e3
 .have hi:i=src.1.length:=V0 hle hge;subst hi;rw[VR]at e3;unfold Ev.forL at e3;split at e3
  .rename_i hst;cases e3;exact .inl ⟨(hJ _ H3 r3 _ jU f3 hst).2 (qT _),q s3 H3 r3 xJ jU (f1.trans f3)⟩
  .cases e3
end
def JR{t:T}{it:Ev.It}{tb:Ss}{yb:List Stmt}(hi:JI G n sc N df m it tg xa)(hg:JG G n sc N df m t tg)(h1:mT G n sc N df m tb yb)(hs:∀(env:Env) x,foldedSetIterable xa env x=pure x:=by intro _ _;rfl) :
  JS G n sc N df m (.for t it tb) (.For tg xa yb [] pos):=λX g=>PS.of (IB g.pass g.calm (hi X g) (hg X g) (h1 X g) (hs _)) λQ s H q=>by
 obtain⟨r,fr,h,fl,ai,h',sr,hr,e,q⟩:=q;rw[uO]at e;obtain⟨src,h2,e1,e⟩:=Ev.ah e;exact⟨r,fr,h,src,h2,sr,hr,e1,λJ H1 r1 hr1 f1 hJ=>⟨FW X.K m (uN (Ev.run G.F G.w n) G.w t tb) src r1 H1 (fl,ai) h',⟨src.1.length,rfl,UE _,r1,fr,h2,sr.mono f1,hr1,.refl,by rw[U0];exact e⟩,λi k s3 H3 hW=>C9 hJ q f1 hW⟩⟩
end
def getElem?_range'{k j i:Nat}(h:(List.range k)[j]?=some i):i=j:=by
 obtain⟨h1,h2⟩:=List.getElem?_eq_some_iff.mp h;simpa using h2.symm
def pC{K:PySem.W.Frag}{H:Hp}{r:List Addr}{ds:List D}{vs:List V}{N:List Str}{fn:Ev.Fn}(v1:aE K H r ds vs)(hN:vs.length<=N.length):SR K (List.range N.length) H r (Ev.cI fn ds) (L2.start N vs):=by
 refine⟨by unfold L2.start;simp;omega,λj i d e1 e2=>?_⟩;have e3:=getElem?_range' e1;subst e3;unfold Ev.cI at e2;by_cases hj:i<ds.length
 .rw[wc (by simpa using hj),SE]at e2;cases e4:ds[i]? with
  |none=>rw[e4]at e2;cases e2
  |some d'=>
   rw[e4]at e2;cases e2;obtain⟨v,q1,q2⟩:=v1.get e4;refine⟨v,?_,q2⟩;unfold L2.start;rw[wc (by have:=v1.length;simpa using (by omega:i<vs.length)),SE,q1];rfl
 .rw[Uu (by simpa using Nat.not_lt.mp hj),VW]at e2;split at e2<;>cases e2
section
variable{P:Program}{w:World}{K:PySem.W.Frag}{mg:Str->Option Value}{base:Heap}{G:Tb}
def nN(P:Program)(w:World)(K:PySem.W.Frag)(mg:Str->Option Value)(base:Heap)(G:Tb)(n:Nat):Prop:=∀(f:Nat) i,
 G.fi[f]?=some i
 ->fc P w K mg base kG n i.addr i.fd i.ps (lS K G.F G.w n f)
structure Top(P:Program)(w:World)(K:PySem.W.Frag)(mg:Str->Option Value)(G:Tb):Prop where
 fn:∀(f:Nat) i,G.fi[f]?=some i->mg i.name=some (.ref i.addr)/\PySem.W.keepIn K (.ref i.addr)=true/\Binds K i.fd i.ps []
 bl:∀x∈G.bl,mg x=none
 cs:∀x d,(x,d)∈G.cs->∃v u,mg x=some u/\RelV v u/\xF K d v
 dk:∀x kvs,(x,kvs)∈G.dk->∃a,mg x=some (.ref a)/\∀h:Heap,K.In h->StrTab P w h a (tabOf kvs)
def Gm{f:Addr}{fd:FuncData}{ps:List Str}{k:Nat}:fc P w K mg base kG 0 f fd ps (lS K G.F G.w 0 k):=by
 have no:∀vs H Q E,¬ lS K G.F G.w 0 k vs H Q E:=λvs H Q E h=>by
  obtain⟨r,h,ds,d,h',_,_,e,_⟩:=h;cases e
 exact⟨λvs H Q E h=>absurd h (no vs H Q E),λA outer s H args us vs Q E _ _ _ _ h=>absurd h (no vs H Q E)⟩
def ef{x qual:Str}{st:Stmt}{i:FI}{N:List Str}{n f:Nat}{fn:Ev.Fn}(T:Top P w K mg G)(A0:nN P w K mg base G n)(F:qh K x qual st i.addr i.fd)(S:bJ N i.ps (aF st))(hf:G.F[f]?=some fn)(hp:i.ps.length=fn.np)
  (hb:mT G n (aF st) N true (List.range N.length) fn.body (cF st)):fc P w K mg base kG (n+1) i.addr i.fd i.ps (lS K G.F G.w (n+1) f):=by
 have hlen:∀vs H Q E,lS K G.F G.w (n+1) f vs H Q E->vs.length=i.ps.length:=λvs H Q E h=>by
  obtain⟨r,h,ds,d,h',v1,_,e,_⟩:=h;simp only[Ev.fG,hf]at e;split at e
  .rename_i z;rw[v1.length,z,hp]
  .cases e
 refine F.ok S hlen λcdv A outer s H vs Q E hr dQ=>?_;have hl:=hlen vs H Q E dQ;have hN:vs.length<=N.length:=by
  have:=Pc List.length S.pre;rw[Uc]at this;omega
 have g:Good G n (aF st) N true (kh kG P w K mg base N qual (aF st) i.addr cdv A outer s H E).cT:=
  ⟨rfl,rfl,rfl,λ_ _=>rfl,hr,rfl,λf i hi=>⟨(T.fn f i hi).1,(T.fn f i hi).2.1,(T.fn f i hi).2.2,A0 f i
   hi
   ⟩,T.bl,T.cs,T.dk
   ⟩
 refine⟨_,hb _ g,?_⟩;obtain⟨r,h,ds,d,h',v1,hr1,e,q⟩:=dQ;simp only[Ev.fG,hf]at e;split at e
 .unfold Ev.endOf at e;obtain⟨⟨fl,ai⟩,h2,e1,e⟩:=Ev.ah e;refine⟨r,Ev.cI fn ds,h,fl,ai,h2,pC v1 hN,hr1,e1,?_⟩;cases fl with
  |nx=>
   cases e;exact λs' H' r' _ hr' f'=>q _ H' r' rfl hr' f'
  |ret d'=>
   cases e;exact q
  |bk=>cases e
  |ct=>cases e
 .cases e
end
end Sm
namespace Sm
open PySem PySem.Spec PyProof.Rows L2 PySem.SeqAt
open Ev (D O Hh Fr R aB E Es Eo T S Ss Fl Src bu aV TY BI ME)
end Sm
namespace Sm
open PySem PySem.Spec PyProof.Rows L2
open Ev (D O Hh Fr R aB E Es Eo T S Ss Fl Src bu aV TY BI ME)
theorem rj(env:Env):∀(names:List (Str×NameKind)) (acc:List (Str×Addr)),(∀x,(x,NameKind.free)∈names->∃c,env.cells.lookup x=some c)->(∀x c,acc.lookup x=some c->env.cells.lookup x=some c)->
  ∃cl,(forIn names acc (λ(x:Str×NameKind) cs=>if (x.2==NameKind.free)=true then (do let c <-cellOf env x.1;pure (ForInStep.yield ((x.1,c) :: cs)))else pure (ForInStep.yield cs)):Sem (List (Str×Addr)))=pure cl/\
   (∀x c,cl.lookup x=some c->env.cells.lookup x=some c)/\(∀x,(x,NameKind.free)∈names->(cl.lookup x).isSome=true)/\(∀x,(acc.lookup x).isSome=true->(cl.lookup x).isSome=true)
 |[],acc,_,h2=>⟨acc,rfl,h2,(λx h=>by simp at h),λ_ h=>h⟩
 | (y,k) :: r,acc,h1,h2=>by
  by_cases hk:k=.free
  .subst hk;obtain⟨c,hc⟩:=h1 y (T7 ..);have h2':∀x c',((y,c) :: acc).lookup x=some c'->env.cells.lookup x=some c':=λx c' e=>by
    rw[Up]at e;split at e
    .rename_i hx;have hx':x=y:=by simpa using hx
     cases e;rw[hx'];exact hc
    .exact h2 x c' e
   obtain⟨cl,e1,e2,e3,e4⟩:=rj env r ((y,c) :: acc) (λx hx=>h1 x (Mi _ hx)) h2';refine⟨cl,?_,e2,λx hx=>?_,λx hx=>e4 x ?_⟩
   .rw[Vm];simp only[WM,QO];unfold cellOf;rw[hc];exact e1
   .rcases List.mem_cons.mp hx with z|z
    .cases z;exact e4 y (by simp[Up])
    .exact e3 x z
   .rw[Up];split
    .rfl
    .exact hx
  .have hk':(k==NameKind.free)=false:=by simpa using hk
   obtain⟨cl,e1,e2,e3,e4⟩:=rj env r acc (λx hx=>h1 x (Mi _ hx)) h2;refine⟨cl,?_,e2,λx hx=>?_,e4⟩
   .rw[Vm];simp only[hk',Mb,Uh];exact e1
   .rcases List.mem_cons.mp hx with z|z
    .cases z;exact absurd rfl hk
    .exact e3 x z
def Gn{scope:Scope}{env:Env}(h:∀x,(x,NameKind.free)∈scope.names->∃c,env.cells.lookup x=some c) :
  ∃cl,closureFor scope env=pure cl/\(∀x c,cl.lookup x=some c->env.cells.lookup x=some c)/\∀x,(x,NameKind.free)∈scope.names->∃c,cl.lookup x=some c:=by
 obtain⟨cl,e1,e2,e3,_⟩:=rj env scope.names [] h (λx c e=>by simp at e);refine⟨cl,?_,e2,λx hx=>Option.isSome_iff_exists.mp (e3 x hx)⟩;unfold closureFor;show(forIn scope.names [] _ >>= λcs=>pure cs:Sem (List (Str×Addr)))=pure cl;have e:(forIn scope.names [] (λ(x:Str×NameKind) cs=>if (x.2==NameKind.free)=true then (do let c <-cellOf env x.1;pure (ForInStep.yield ((x.1,c) :: cs)))else pure (ForInStep.yield cs)):Sem (List (Str×Addr)))=pure cl:=e1;exact Pc (λt:Sem (List (Str×Addr))=>t >>= λcs=>pure cs) e
noncomputable def b7(sc scope:Scope):Scope:={ scope with names:=scope.names.map λ(n,k)=>if (k==.free&&sc.kind==.function&&sc.names.lookup n==some .cell)then (n,.cell)else (n,k)}
def rm{env:Env}{sc scope:Scope}(h:env.scope=sc):relabel scope env=b7 sc scope:=by
 subst h;rfl
theorem sN{sc:Scope}:∀{names:List (Str×NameKind)}{x:Str},(∀y∈names,y.2≠.cell)->
  ((names.map λ(n,k)=>if (k==NameKind.free&&sc.kind==.function&&sc.names.lookup n==some .cell)then (n,NameKind.cell)else (n,k)).lookup x=some .cell\/
   (names.map λ(n,k)=>if (k==NameKind.free&&sc.kind==.function&&sc.names.lookup n==some .cell)then (n,NameKind.cell)else (n,k)).lookup x=some .free)->(x,NameKind.free)∈names
 |[],_,_,h=>by rcases h with h|h<;>simp at h
 | (n,k) :: r,x,hc,h=>by
  have ih:=@sN sc r x λy hy=>hc y (Mi _ hy);simp only[we]at h;have nk:∀(k':NameKind),(if (k==NameKind.free&&sc.kind==.function&&sc.names.lookup n==some .cell)then (n,NameKind.cell)else (n,k))=(n,k')->k'=.cell\/k'=.free->k=.free:=λk' e hk'=>by
   split at e
   .rename_i z;simp only[fW,UZ]at z;exact z.1.1
   .cases e;rcases hk' with z|z
    .exact absurd z (hc (n,_) (T7 ..))
    .exact z
  generalize hg:(if (k==NameKind.free&&sc.kind==.function&&sc.names.lookup n==some .cell)then (n,NameKind.cell)else (n,k))=p at h nk
  have hp:p.1=n:=by rw[<-hg];split<;>rfl
  obtain⟨p1,p2⟩:=p;simp only at hp;subst hp;simp only[Up]at h;cases hx:(x==p1)with
  |true=>
   have hx':x=p1:=by simpa using hx
   rw[hx]at h;have:=nk p2 rfl (by rcases h with h|h<;>simp at h<;>simp[h]);subst this;rw[hx'];exact T7 ..
  |false=>
   rw[hx]at h;exact Mi _ (ih h)
section
variable{prog:Program}{w:World}{A:Around}{R':Result->Shared->Prop}{s:Shared}
abbrev cA:Value->Shared->Prop:=λ_ _=>False
noncomputable def rq(ifs:List Expr)(env:Env):Sem Bool:=forIn ifs true λc r=>if r=true then do let ok <-isTrue c env (eval c env);pure (ForInStep.yield ok)else pure (ForInStep.yield r)
def uP{elt target iter:Expr}{ifs:List Expr}{scope:Scope}{pos:Pos}{it acc:Value}{env:Env}(I:Nat->Shared->Prop)
  (turn:∀n s,I n s->wpAny (model prog w) A (pyNext it) (λr s₁=>match r with
   |none=>R' (.ok .next) s₁
   |some v=>wpAny (model prog w) A (letOwnedTupleGo target it v) (λ_ s₂=>wpAny (model prog w) A (assign target env v) (λ_ s₃=>
     wpAny (model prog w) A (rq ifs env) (λok s₄=>
      if ok=true then wpAny (model prog w) A (eval elt env) (λx s₅=>
       wpAny (model prog w) A (call (.builtin "list.append") [acc,x]) (λ_ s₆=>∃m,m<n/\I m s₆) cA s₅) cA s₄
      else ∃m,m<n/\I m s₄) cA s₃) cA s₂) cA s₁) cA s)
  (n:Nat) (h:I n s):codeAny (model prog w) A (.compLoop (.ListComp elt [⟨target,iter,ifs,0⟩] scope pos) 0 it acc env) R' s:=by
 refine codeAny_loop rfl I (λn s hI=>?_) n h;show wpAny _ A ((compTurn (.ListComp elt [⟨target,iter,ifs,0⟩] scope pos) 0 it acc env).onRaise (λx=>do noteFrame x env;theTreesLotGoes x)) _ _ s;refine wpAny_noted ?_;rw[compTurn_list];refine b8 (Wn (b8 (E9 (turn n s hI) (λr s₁ h₁=>?_) λ_ _ h'=>h'.elim)));cases r with
 |none=>exact eS h₁
 |some v=>
  refine b8 (E9 h₁ (λ_ s₂ h₂=>?_) λ_ _ h'=>h'.elim);refine b8 (E9 h₂ (λ_ s₃ h₃=>b8 (E9 h₃ (λok s₄ h₄=>?_) λ_ _ h'=>h'.elim)) λ_ _ h'=>h'.elim);cases ok with
  |false=>exact eS ⟨rfl,h₄⟩
  |true=>
   exact b8 (b8 (E9 h₄ (λx s₅ h₅=>b8 (E9 h₅ (λ_ s₆ h₆=>eS (eS ⟨rfl,h₆⟩)) λ_ _ h'=>h'.elim)) λ_ _ h'=>h'.elim))
end
inductive OR(K:PySem.W.Frag)(m:List Nat)(P:aB)(e:Eo)(s:L2.St)(H:Hp)(Q:Bool->Hp->Prop):Prop
 |mk (r:List Addr) (fr:Fr) (h:Hh) (k:Bool) (h':Hh) (c0:SR K m H r fr s) (c1:HR K H r h) (c2:Ev.eN P e fr h=.ok k h') (c3:∀H' r',HR K H' r' h'->Fm K r r' H H'->Q k H'):OR K m P e s H Q
def JC(G:Tb)(n:Nat)(sc:Scope)(N:List Str)(df:Bool)(m:List Nat)(e:Eo)(ifs:List Expr):Prop:=∀X,Good G n sc N df X->∀(pins:List (Addr×Obj)) (s:Shared) (σ:L2.St) (H:Hp) (Q:Bool->Hp->Prop),Inv X pins σ H s->
 OR X.K m (Ev.run G.F G.w n) e σ H Q->wpAny (model X.prog X.w) X.A (rq ifs X.env) (TP X pins σ Q) X.xe s
section
variable{G:Tb}{n:Nat}{sc:Scope}{N:List Str}{df:Bool}{m:List Nat}{a:E}{xa:Expr}
def NH:JC G n sc N df m .no []:=λX g pins s σ H Q I q=>by
 obtain⟨r,fr,h,k,h',sr,hr,e,q⟩:=q;simp only[Ev.eN]at e;cases e;exact eS ⟨H,I,q H r hr .refl⟩
def JU(hc:JT G n sc N df m a xa):JC G n sc N df m (.yes a) [xa]:=λX g pins s σ H Q I q=>by
 obtain⟨r,fr,h,k,h',sr,hr,e,q⟩:=q;simp only[Ev.eN]at e;exact wpAny_tests_one (hc X g pins s σ H Q I ⟨r,fr,h,k,h',sr,hr,e,q⟩)
end
def jV(X:Cx)(N':List Str)(scope:Scope)(cl:List (Str×Addr))(C:Addr)(s3:Shared)(H3:Hp)(fp:List Addr):Cx:=
 { X with N:=N',s₀:=s3,H₀:=H3,env:=compEnvC scope cl C X.env,outer:=X.stack,stack:=X.stack,ex:=fp,fn:=λ_=>false,pn:=[],xe:=λ_ _=>False }
def namesOk(sc:Scope)(N:List Str)(m:List Nat)(scope:Scope)(t:T)(N':List Str)(m':List Nat):Prop:=m'.length=N'.length/\
 ∀(j:Nat) x i,N'[j]?=some x->m'[j]?=some i->i∈Ev.slots t\/((x,NameKind.free)∈scope.names/\∃jo:Nat,N[jo]?=some x/\m[jo]?=some i)
def mU(sc:Scope)(N:List Str)(m:List Nat)(scope:Scope)(t:T)(N':List Str)(m':List Nat):Bool:=m'.length==N'.length&&
 (List.range N'.length).all λj=>match N'[j]?,m'[j]? with
  |some x,some i=>(Ev.slots t).contains i || (scope.names.contains (x,NameKind.free)&&(List.range N.length).any λjo=>N[jo]?==some x&&m[jo]?==some i)
  |_,_=>true
def namesOk.of{sc:Scope}{N:List Str}{m:List Nat}{scope:Scope}{t:T}{N':List Str}{m':List Nat}(h:mU sc N m scope t N' m'=true):namesOk sc N m scope t N' m':=by
 unfold mU at h;rw[fW]at h;refine⟨by simpa using h.1,λj x i e1 e2=>?_⟩;have hj:j<N'.length:=(List.getElem?_eq_some_iff.mp e1).1;have q:=List.all_eq_true.mp h.2 j (List.mem_range.mpr hj);rw[e1,e2]at q;simp only[Ub,fW,Vd]at q;rcases q with q|⟨q1,jo,_,q2⟩
 .exact .inl (by simpa using q)
 .exact .inr ⟨by simpa using q1,jo,by simpa using q2.1,by simpa using q2.2⟩
def wN{t:T}{d:D}{fr ak:Fr}(e:Ev.aY t d fr=some ak){i:Nat}(hi:i∉Ev.slots t):ak[i]?=fr[i]?:=by
 have go:∀(l:List Nat) (ds:List D) (fr ak:Fr),Ev.dj l ds fr=some ak->i∉l->ak[i]?=fr[i]?:=by
  intro l;induction l with
  |nil=>
   intro ds fr ak e _;cases ds with
   |nil=>cases e;rfl
   |cons _ _=>cases e
  |cons j l ih=>
   intro ds fr ak e hj;cases ds with
   |nil=>cases e
   |cons d ds=>
    rw[ih ds _ _ e λz=>hj (Mi _ z),gV];intro z;exact hj (by rw[z];exact T7 ..)
 cases t with
 |one j=>
  cases e;rw[gV];intro z;exact hi (by simp[Ev.slots,z])
 |many l=>
  cases d with
  |tup ds=>exact go l ds fr ak e hi
  |_=>cases e
def SR.unbind{K:PySem.W.Frag}{m:List Nat}{H:Hp}{r:List Addr}{t:T}{d:D}{fr ak:Fr}{s:L2.St}(sr:SR K m H r ak s)(e:Ev.aY t d fr=some ak)(hu:Ev.undef t fr=true):SR K m H r fr s:=by
 refine⟨sr.len,λj i d' e1 e2=>sr.sl j i d' e1 ?_⟩;rw[wN e]
 .exact e2
 .intro hi;have q:=List.all_eq_true.mp hu i hi;rw[e2]at q;cases q
structure iM(sc scope:Scope):Prop where
 kind:scope.kind=.function
 uQ:∀y∈scope.names,y.2≠.cell
 free:∀x,(x,NameKind.free)∈scope.names->(sc.names.lookup x=some .cell\/sc.names.lookup x=some .free)/\scope.names.lookup x=some .free
 loc:∀y∈scope.names,y.2=.local->scope.names.lookup y.1=some .local
noncomputable def A4(sc scope:Scope):Bool:=scope.kind==.function&&scope.names.all λy=>y.2 != .cell&&(y.2 != .free || ((sc.names.lookup y.1==some .cell ||sc.names.lookup y.1==some .free)&&scope.names.lookup y.1==some .free))&&(y.2 != .local ||scope.names.lookup y.1==some .local)
def iM.of{sc scope:Scope}(h:A4 sc scope=true):iM sc scope:=by
 unfold A4 at h;rw[fW]at h;have q:∀y∈scope.names,y.2≠.cell/\(y.2=.free->(sc.names.lookup y.1=some .cell\/sc.names.lookup y.1=some .free)/\scope.names.lookup y.1=some .free)/\(y.2=.local->scope.names.lookup y.1=some .local):=λy hy=>by
  have z:=List.all_eq_true.mp h.2 y hy;simp only[fW,Ub,bne_iff_ne,UZ,ne_eq]at z;refine⟨z.1.1,λe=>?_,λe=>?_⟩
  .rcases z.1.2 with w|w
   .exact absurd e w
   .exact w
  .rcases z.2 with w|w
   .exact absurd e w
   .exact w
 exact⟨by simpa using h.1,λy hy=>(q y hy).1,λx hx=>(q _ hx).2.1 rfl,λy hy=>(q y hy).2.2⟩
theorem sO{sc:Scope}:∀{names:List (Str×NameKind)}{x:Str},names.lookup x=some .free->
  ((names.map λ(n,k)=>if (k==NameKind.free&&sc.kind==.function&&sc.names.lookup n==some .cell)then (n,NameKind.cell)else (n,k)).lookup x=some .cell\/
   (names.map λ(n,k)=>if (k==NameKind.free&&sc.kind==.function&&sc.names.lookup n==some .cell)then (n,NameKind.cell)else (n,k)).lookup x=some .free)
 |[],_,h=>by simp at h
 | (n,k) :: r,x,h=>by
  have ih:=@sO sc r x;simp only[we];simp only[Up]at h;by_cases hc:(k==NameKind.free&&sc.kind==.function&&sc.names.lookup n==some .cell)=true
  .rw[cG hc];simp only[Up];cases hx:(x==n)with
   |true=>exact .inl rfl
   |false=>rw[hx]at h;exact ih h
  .rw[Cd hc];simp only[Up];cases hx:(x==n)with
   |true=>rw[hx]at h;exact .inr h
   |false=>rw[hx]at h;exact ih h
section
variable{G:Tb}{n:Nat}{sc scope:Scope}{N N':List Str}{df:Bool}{m m':List Nat}{t:T}{X:Cx}
def Good.comp(g:Good G n sc N df X){cl:List (Str×Addr)}{C:Addr}{s3:Shared}{H3:Hp}{fp:List Addr}:Good G n (b7 sc scope) N' false (jV X N' scope cl C s3 H3 fp):=
 ⟨rfl,rm g.sc,g.calm,(λh=>by cases h),g.room,rfl,g.fn,g.bl,g.cs,g.dk
 ⟩
def Gp{pins:List (Addr×Obj)}{σ:L2.St}{H3:Hp}{s3:Shared}(g:Good G n sc N df X)(I:Inv X pins σ H3 s3)(hs:iM sc scope){cl:List (Str×Addr)}(fE:∀x c,cl.lookup x=some c->X.env.cells.lookup x=some c)
  (iw:∀x,(x,NameKind.free)∈scope.names->∃c,cl.lookup x=some c) {fp:List Addr} (hfp:∀b∈fp,eX X pins H3 b) (hfl:∀b∈fp,b<s3.heap.objs.size):(jV X N' scope cl s3.heap.objs.size s3 H3 fp).Ok where
 mod:=I.ok.mod
 kind:=hs.kind
 glob:=I.ok.glob
 blt:=I.ok.blt
 above:=qT _
 inj:=λx y c h1 h2=>I.ok.inj x y c (fE x c h1) (fE y c h2)
 has:=λx h=>by
  have h':(b7 sc scope).names.lookup x=some .cell\/(b7 sc scope).names.lookup x=some .free:=by
   rw[<-rm (scope:=scope) g.sc];exact h
  exact iw x (sN hs.uQ h')
 uv:=λx c h=>by cases h
 hd:=I.ok.hd
 frames:=I.ok.frames
 stk:=.inl rfl
 wX:=λb hb=>⟨QT (hfl b hb),λx c e=>(hfp b hb).2.2.2.2.1 x c (fE x c e)⟩
 bs:=I.bs
 qb:=HK I.ok.qb I.sz
 o6:=λb o e hb=>by
  rcases(hfp b hb).2.2.2.1 with z|z
  .exact I.ok.o6 b o e z
  .have:=rT (I.ok.bs b o e).1;exact absurd (dS this z) (Ud _)
 lZ:=λb hb z=>by
  rcases List.mem_cons.mp (I.ku b z)with q|q
  .exact(hfp b hb).2.1 q
  .exact(hfp b hb).2.2.1 q
 iL:=I.stack
 r8:=I.nG
open Classical in
def sig(scope:Scope)(N N':List Str)(m':List Nat)(K:PySem.W.Frag)(H:Hp)(r:List Addr)(fr:Fr)(σ:L2.St):L2.St:=
 (List.range N'.length).map λj=>if h:∃v,∃x i,N'[j]?=some x/\m'[j]?=some i/\(x,NameKind.free)∈scope.names/\(∃jo:Nat,N[jo]?=some x/\σ[jo]?=some (some v))/\∀d,fr[i]?=some (some d)->RV K H r d v then some h.choose else none
def JV{K:PySem.W.Frag}{H:Hp}{r:List Addr}{fr:Fr}{σ:L2.St}{j:Nat}{v:V}(h:(sig scope N N' m' K H r fr σ)[j]?=some (some v)) :
  ∃x i,N'[j]?=some x/\m'[j]?=some i/\(x,NameKind.free)∈scope.names/\(∃jo:Nat,N[jo]?=some x/\σ[jo]?=some (some v))/\∀d,fr[i]?=some (some d)->RV K H r d v:=by
 unfold sig at h;rw[SE]at h;cases e:(List.range N'.length)[j]? with
 |none=>rw[e]at h;cases h
 |some j'=>
  have:=getElem?_range' e;subst this;rw[e]at h;simp only[WR,WH]at h;split at h
  .rename_i hh;cases h;exact hh.choose_spec
  .cases h
def A5{K:PySem.W.Frag}{H:Hp}{r:List Addr}{fr:Fr}{σ:L2.St}(sr:SR K m H r fr σ)(hn:namesOk sc N m scope t N' m')(hu:Ev.undef t fr=true):SR K m' H r fr (sig scope N N' m' K H r fr σ):=by
 refine⟨by unfold sig;simp[hn.1],λj i d e1 e2=>?_⟩;have hj:j<N'.length:=by rw[<-hn.1];exact(List.getElem?_eq_some_iff.mp e1).1
 have hx:N'[j]?=some N'[j]:=tP hj;rcases hn.2 j _ i hx e1 with hi|⟨h1,jo,h2,h3⟩
 .exfalso;have q:=List.all_eq_true.mp hu i hi;rw[e2]at q;cases q
 .obtain⟨v,h4,h5⟩:=sr.sl jo i d h3 e2;have ex:∃v,∃x i,N'[j]?=some x/\m'[j]?=some i/\(x,NameKind.free)∈scope.names/\(∃jo:Nat,N[jo]?=some x/\σ[jo]?=some (some v))/\∀d,fr[i]?=some (some d)->RV K H r d v:=
   ⟨v,N'[j],i,hx,e1,h1,⟨jo,h2,h4⟩,λd' e'=>by rw[e2]at e';cases e';exact h5⟩
  refine⟨ex.choose,?_,?_⟩
  .unfold sig;rw[SE,Wu hj];simp only[WR];rw[dif_pos ex]
  .obtain⟨x',i',q1,q2,q3,q4,q5⟩:=ex.choose_spec;rw[e1]at q2;cases q2;exact q5 d e2
def uR{pins:List (Addr×Obj)}{σ:L2.St}{H3:Hp}{s3:Shared}(g:Good G n sc N df X)(I:Inv X pins σ H3 s3)(hs:iM sc scope){cl:List (Str×Addr)}(fE:∀x c,cl.lookup x=some c->X.env.cells.lookup x=some c)
  (iw:∀x,(x,NameKind.free)∈scope.names->∃c,cl.lookup x=some c) {fp:List Addr} (hfp:∀b∈fp,eX X pins H3 b) (hfl:∀b∈fp,b<s3.heap.objs.size) {h1:Heap} {tk:Nat} {mm:Str->Option Value}
  (hns:h1.Ns s3.heap.objs.size mm) (hk:∀b o,s3.heap.get? b=some o->h1.get? b=some o) {r:List Addr} {fr:Fr} :
  Inv (jV X N' scope cl s3.heap.objs.size s3 H3 fp) [] (sig scope N N' m' X.K H3 r fr σ) H3 { s3 with heap:=h1,toks:=tk }:=by
 refine⟨Gp g I hs fE iw hfp hfl,rfl,I.bare,Un.kept hk,⟨mm,hns,λj x v e1 e2 e3=>?_⟩,λx c e=>?_,I.hok.fresh (qT _),λx c e=>I.fY x c (fE x c e),(λp hp=>by simp[jV]at hp),I.hok.kept hk,(by unfold sig;simp[jV])⟩
 .obtain⟨x',i,q1,q2,q3,⟨jo,q4,q5⟩,_⟩:=JV e2;have Rj:N'[j]?=some x:=e1;rw[Rj]at q1;cases q1;obtain⟨f1,f2⟩:=hs.free x q3;obtain⟨mO,SH,Rk⟩:=I.loc;obtain⟨u,ru,lk⟩:=Rk jo x v (by rw[g.nm];exact q4) q5 (by rw[g.sc];rcases f1 with z|z<;>simp[rZ,z]);refine⟨u,ru,?_⟩;have hkd:X.env.kindOf x=some .cell\/X.env.kindOf x=some .free:=by unfold Env.kindOf;rw[g.sc];exact f1
  rcases lk with ⟨z,_⟩|⟨_,c,hc,hcell⟩
  .rcases hkd with w|w <;> (rw[z]at w;cases w)
  .obtain⟨c',hc'⟩:=iw x q3;have:c'=c:=by
    have:=fE x c' hc';rw[hc]at this;cases this;rfl
   subst this;refine .inr ⟨?_,c',hc',?_⟩
   .show(relabel scope X.env).names.lookup x=some .cell\/(relabel scope X.env).names.lookup x=some .free;rw[rm (scope:=scope) g.sc];exact sO f2
   .obtain⟨o,ho,hd⟩:=hcell;exact⟨o,hk _ _ ho,hd⟩
 .obtain⟨v,o,ho,hd⟩:=I.cell x c (fE x c e);exact⟨v,o,hk _ _ ho,hd⟩
end
section
variable{G:Tb}{n:Nat}{sc scope:Scope}{N N':List Str}{df:Bool}{m m':List Nat}{elt:E}{t:T}{it:Ev.It}{cond:Eo}{xe xi tg:Expr}{ifs:List Expr}{pos:Pos}{X:Cx}
def lg(P:aB)(elt:E)(t:T)(cond:Eo)(fr:Fr):D->Hh->R (Option D):=λd h2=>match Ev.aY t d fr with
 |none=>.bad
 |some ak=>(Ev.eN P cond ak h2).bind λk h3=>if k then (Ev.ev P elt ak h3).bind λx h4=>.ok (some x) h4 else .ok none h3
def rA(P:aB)(elt:E)(t:T)(it:Ev.It)(cond:Eo)(fr:Fr)(h:Hh):Ev.ev P (.comp elt t it cond) fr h=(Ev.bQ P it fr h).bind λs h1=>if Ev.undef t fr then
  (Ev.bw (lg P elt t cond fr) s.2 s.1 h1).bind λds h2=>Ev.alloc ds h2 else .bad:=by
 simp only[Ev.ev];rfl
def CI(Y:Cx)(m':List Nat)(f:D->Hh->R (Option D))(fr:Fr)(src:Src)(fp:List Addr)(tn:Nat->Heap->Prop)(r2:List Addr)(H2:Hp)(Dd:Addr)(ds:List D)(h2:Hh)(k:Nat)(s:Shared):Prop:=
 ∃i iV Hc rc hc dn vs rest,Inv Y [] iV Hc s/\tn i s.heap/\(∀b∈fp,Hc b=none)/\k=src.1.length - i/\i<=src.1.length/\
  SR Y.K m' Hc rc fr iV/\HR Y.K Hc rc hc/\Fm Y.K r2 rc H2 Hc/\Hc Dd=some (.lst vs)/\Dd∉rc/\aE Y.K Hc rc dn vs/\Ev.bw f src.2 (src.1.drop i) hc=.ok rest h2/\dn++rest=ds
section
variable{Y:Cx}{sc':Scope}{J:L2.It}{fp:List Addr}{ita:Addr}{tn:Nat->Heap->Prop}{fr:Fr}{src:Src}{r2:List Addr}{H2:Hp}{Dd:Addr}{ds:List D}{h2:Hh}
def ko(gC:Good G n sc' N' false Y){α:Type}{tt:Sem α}{Q:α->Shared->Prop}{s:Shared}(hw:wpAny (model Y.prog Y.w) Y.A tt Q Y.xe s):wpAny (model Y.prog Y.w) Y.A tt Q cA s:=by rw[gC.xe]at hw;exact hw
def xN{i:Nat}{ee:L2.St}{H9:Hp}{r9:List Addr}{h9:Hh}{dn:List D}{vs:List V}{rest':List D}{s9:Shared}{p:List (Addr×Obj)}{f:D->Hh->R (Option D)}(hlt:i<src.1.length)(I9:Inv Y ([]++p) ee H9 s9)(bk:tn (i+1) s9.heap/\∀b∈fp,H9 b=none)(q:SR Y.K m' H9 r9 fr ee)(gu:HR Y.K H9 r9 h9)(fm:Fm Y.K r2 r9 H2 H9)(lq:H9 Dd=some (.lst vs))(lu:Dd∉r9)(rv:aE Y.K H9 r9 dn vs)(e7:Ev.bw f src.2 (src.1.drop (i+1)) h9=.ok rest' h2)(ed:dn++rest'=ds) :
  ∃k,k<src.1.length - i/\CI Y m' f fr src fp tn r2 H2 Dd ds h2 k s9:=
 ⟨src.1.length - (i+1),Vp hlt (Vb i),i+1,ee,H9,r9,h9,dn,vs,rest',I9.jz,bk.1,bk.2,rfl,hlt,q,gu,fm,lq,lu,rv,e7,ed⟩
def JX{i:Nat}{ee:L2.St}{H9:Hp}{r9:List Addr}{h9:Hh}{dn:List D}{vs:List V}{xd:D}{v10:V}{qt:Value}{rest':List D}{s9:Shared}{p:List (Addr×Obj)}{f:D->Hh->R (Option D)}(hlt:i<src.1.length)(gm:H2 Dd=none)(hsz:ds.length<=sizeLine)(gC:Good G n sc' N' false Y)(I9:Inv Y ([]++p) ee H9 s9)(pD:RelV v10 qt)(bk:∀{σ':L2.St}{H':Hp}{s':Shared},Inv Y ([]++p) σ' H' s'->tn (i+1) s'.heap/\∀b∈fp,H' b=none)(q:SR Y.K m' H9 r9 fr ee)(gu:HR Y.K H9 r9 h9)(fm:Fm Y.K r2 r9 H2 H9)(iJ:H9 Dd=some (.lst vs))(lT:Dd∉r9)(rv:aE Y.K H9 r9 dn vs)(pF:RV Y.K H9 r9 xd v10)(e7:Ev.bw f src.2 (src.1.drop (i+1)) h9=.ok rest' h2)(ed:dn++xd :: rest'=ds) :
  wpAny (model Y.prog Y.w) Y.A (call (.builtin "list.append") [.ref Dd,qt]) (λ_ uS=>∃k,k<src.1.length - i/\CI Y m' f fr src fp tn r2 H2 Dd ds h2 k uS) cA s9:=by
 have hlen:vs.length<sizeLine:=by
  have h1:=rv.length;have h2:=Pc List.length ed;simp at h2;omega
 refine aQ (ko gC (mJ _ s9 ee H9 (.ref Dd) [v10] (.ref Dd) [qt] (λ_ A6=>A6=upd H9 Dd (.lst (vs++[v10]))) I9 rfl (.cons pD .nil) ⟨Dd,vs,v10,rfl,rfl,iJ,hlen,rfl⟩)) λ_ uS ⟨_,A6,A7,_,Dc⟩=>?_;subst Dc;refine xN (dn:=dn++[xd]) (vs:=vs++[v10]) hlt A7 (bk A7) ?_ (gu.other iJ lT) (fm.other gm iJ) cB lT ?_ e7 ?_
 .exact⟨q.len,λj i' d' a1 a2=>by
   obtain⟨w,b1,b2⟩:=q.sl j i' d' a1 a2;exact⟨w,b1,b2.grow (λ_ _ z=>z) (fk iJ)⟩⟩
 .exact(rv.append (.cons pF .nil)).grow (λ_ _ z=>z) (fk iJ)
 .rw[<-ed];simp
def A8(gC:Good G n sc' N' false Y)(hg:JG G n sc' N' false m' t tg)(hc:JC G n sc' N' false m' cond ifs)(he:JE G n sc' N' false m' elt xe)(Tn:Turn Y.prog Y.w Y.K tg J fp ita tn)(gZ:∀{Hc:Hp},(∀b∈fp,Hc b=none)->∀b∈fp,eX Y [] Hc b)
  (hu:Ev.undef t fr=true) (hJ:mS Y.K r2 H2 src J) (gm:H2 Dd=none) (hsz:ds.length<=sizeLine) {R':Result->Shared->Prop}
  (De:∀s6 iV Hc rc vs,Inv Y [] iV Hc s6->HR Y.K Hc rc h2->Fm Y.K r2 rc H2 Hc->Hc Dd=some (.lst vs)->Dd∉rc->aE Y.K Hc rc ds vs->R' (.ok .next) s6) {k:Nat} {s:Shared}
  (h:CI Y m' (lg (Ev.run G.F G.w n) elt t cond fr) fr src fp tn r2 H2 Dd ds h2 k s):codeAny (model Y.prog Y.w) Y.A (.compLoop (.ListComp xe [⟨tg,xi,ifs,0⟩] scope pos) 0 (.ref ita) (.ref Dd) Y.env) R' s:=by
 refine uP (CI Y m' (lg (Ev.run G.F G.w n) elt t cond fr) fr src fp tn r2 H2 Dd ds h2) ?_ k h;rintro k s5 ⟨i,iV,Hc,rc,hc',dn,vs,rest,I5,sf,mD,rfl,hle,sM,oH,lU,iJ,lT,sP,e5,Ew⟩;rcases VN i src.1.length with hlt|hge
 .rw[UR hlt]at e5;simp only[Ev.bw]at e5;split at e5
  .rename_i hst;obtain⟨hgo,_⟩:=hJ i Hc rc hc' oH lU hst;obtain⟨g1,g2⟩:=hgo src.1[i] (tP hlt);obtain⟨o,h6,e6,e5⟩:=Ev.ah e5;obtain⟨rest',h7,e7,e5⟩:=Ev.ah e5;cases e5;refine aQ (Tn.item Y rfl rfl rfl gC.calm i [] s5 iV Hc cA I5 (gZ mD) sf g1) λrr s6 ⟨u,JY,h8⟩=>?_;subst JY;refine aQ h8 λ_ s7 ⟨x,H7,I7,rx,y7,uT,JZ⟩=>?_;obtain⟨r7,v7,uU,jJ⟩:=g2 x H7 y7;obtain⟨Df,Dh⟩:=jJ.cC iJ lT;unfold lg at e6;split at e6
   .cases e6
   .rename_i ak eb;obtain⟨kk,h9,e9,e6⟩:=Ev.ah e6;have Ey:=I7.pinned (gZ JZ) (Tn.obj _ _ uT);refine aQ (ko gC (hg _ gC _ s7 iV H7 x u (λee H8=>H8=H7/\SR Y.K m' H7 r7 ak ee) Ey rx ⟨r7,fr,hc',_,ak,sM.mono jJ,uU,v7,eb,λs' q=>⟨rfl,q⟩⟩)) λ_ s8 ⟨ee,H8,I8,A9,lV⟩=>?_;subst A9;refine aQ (ko gC (hc _ gC _ s8 ee _ (λb H9=>b=kk/\∃r9,HR Y.K H9 r9 h9/\Fm Y.K r7 r9 _ H9) I8 ⟨r7,ak,hc',kk,h9,lV,uU,e9,λH9 r9 gu f9=>⟨rfl,r9,gu,f9⟩⟩)) λbb s9 ⟨H9,I9,uH,r9,gu,gO⟩=>?_;subst uH;obtain⟨lu,lq⟩:=gO.cC Dh Df;have back:∀{σ':L2.St} {H':Hp} {s':Shared},Inv Y ([]++kB fp s7.heap) σ' H' s'->tn (i+1) s'.heap/\∀b∈fp,H' b=none:=λ{σ' H' s'} I'=>
     ⟨Tn.keep _ _ _ uT λb hb o e=>(I'.pin (b,o) (L8 _ (L8 _ (fZ hb e)))).1,λb hb=>
      let ⟨o,e,_⟩:=Tn.obj _ _ uT b hb
      (I'.pin (b,o) (L8 _ (L8 _ (fZ hb e)))).2.1⟩
    cases bb with
    |false=>
     simp only[Mb,Uh]at e6 ⊢;cases e6;exact xN hlt I9 (back I9) ((lV.mono gO).unbind eb hu) gu ((lU.trans jJ).trans gO) lq lu ((sP.mono jJ).mono gO) e7 Ew
    |true=>
     simp only[QO]at e6 ⊢;obtain⟨xd,J0,Ba,e6⟩:=Ev.ah e6;cases e6;refine aQ (ko gC (he _ gC _ s9 ee H9 (λv mV=>∃kJ,RV Y.K mV kJ xd v/\HR Y.K mV kJ _/\Fm Y.K r9 kJ H9 mV) I9 ⟨r9,ak,h9,xd,_,lV.mono gO,gu,Ba,λv mV kJ v10 pG sQ=>⟨kJ,v10,pG,sQ⟩⟩)) λqt Ez ⟨v10,mV,J1,pD,kJ,pF,pG,ly⟩=>?_;obtain⟨zC,zD⟩:=ly.cC lq lu;exact JX hlt gm hsz gC J1 pD back (((lV.mono gO).mono ly).unbind eb hu) pG (((lU.trans jJ).trans gO).trans ly) zD zC (((sP.mono jJ).mono gO).mono ly) pF e7 Ew
  .cases e5
 .have hi':i=src.1.length:=V0 hle hge;subst hi';rw[VR]at e5;simp only[Ev.bw]at e5;split at e5
  .rename_i hst;cases e5;refine aQ (Tn.done Y rfl rfl rfl gC.calm _ [] s5 iV Hc cA I5 (gZ mD) sf ((hJ _ Hc rc _ oH lU hst).2 (qT _))) λrr s6 ⟨hrr,I6⟩=>?_;subst hrr;rw[Ug]at Ew;subst Ew;exact De s6 iV Hc rc vs I6 oH lU iJ lT sP
  .cases e5
end
def sR(g:Good G n sc N df X)(hi:JI G n sc N df m it tg xi)(hg:JG G n (b7 sc scope) N' false m' t tg)(hc:JC G n (b7 sc scope) N' false m' cond ifs)(he:JE G n (b7 sc scope) N' false m' elt xe)
  (hn:namesOk sc N m scope t N' m') (hs:iM sc scope) {cl:List (Str×Addr)} (fE:∀x c,cl.lookup x=some c->X.env.cells.lookup x=some c) (iw:∀x,(x,NameKind.free)∈scope.names->∃c,cl.lookup x=some c)
  {pins:List (Addr×Obj)} {σ:L2.St} {H:Hp} {s:Shared} (I:Inv X pins σ H s) {r:List Addr} {fr:Fr} {h:Hh} {d:D} {h':Hh} (sr:SR X.K m H r fr σ) (hr:HR X.K H r h)
  (e:Ev.ev (Ev.run G.F G.w n) (.comp elt t it cond) fr h=.ok d h') (post:Value->Addr->Result->Shared->Prop)
  (hpost:∀Dd C s' H' r',Inv X pins σ H' s'->(∃mm,s'.heap.Ns C mm)->eX X pins H' C->RV X.K H' r' d (.ref Dd)->HR X.K H' r' h'->Fm X.K r r' H H'->post (.ref Dd) C (.ok .next) s') {E:Value->Shared->Prop} (hE:X.xe=λ_ _=>False) :
  wpAny (model X.prog X.w) X.A (eval xi X.env) (λx s₁=>wpAny (model X.prog X.w) X.A (pyIter x) (λitv s₂=>wpAny (model X.prog X.w) X.A (newList []) (λacc s₃=>
   wpAny (model X.prog X.w) X.A (newFunctionEnv scope X.env.globals cl [] X.env.qual none .none (some X.env)) (λcenv s₄=>
    codeAny (model X.prog X.w) X.A (.compStart (.ListComp xe [⟨tg,xi,ifs,0⟩] scope pos) 0 itv acc { cenv with scope:=relabel scope X.env }) (post acc cenv.locals) s₄) E s₃) E s₂) E s₁) E s:=by
 rw[rA]at e;obtain⟨src,h1,e1,e⟩:=Ev.ah e;split at e
 .rename_i hu;obtain⟨ds,h2,e2,e⟩:=Ev.ah e;have cT:∀{α:Type} {tt:Sem α} {Q:α->Shared->Prop} {s:Shared},wpAny (model X.prog X.w) X.A tt Q X.xe s->wpAny (model X.prog X.w) X.A tt Q E s:=λ{α tt Q s} hw=>E9 hw (λ_ _ q=>q) λ_ _ q=>by rw[hE]at q;exact q.elim
  refine aQ (cT (hi X g pins s σ H (λJ H2=>∃r2,HR X.K H2 r2 h1/\Fm X.K r r2 H H2/\mS X.K r2 H2 src J) I ⟨r,fr,h,src,h1,sr,hr,e1,λJ H2 r2 hr2 f2 hJ=>⟨r2,hr2,f2,hJ⟩⟩)) λv s1 q1=>?_;refine aQ (cT q1) λitv s2 q2=>?_;obtain⟨ita,fp,tn,J,H2,rfl,I2,Tn,st2,f2,r2,hr2,uV,hJ⟩:=q2;refine T8 ?_;generalize qu:s2.heap.objs.size=Dd
  have gm:H2 Dd=none:=by rw[<-qu];exact I2.fresh
  have I3:Inv X pins σ (upd H2 Dd (.lst [])) { s2 with heap:=s2.heap.push { cls:=.type "list",data:=.seq ([]:List Value).toArray }}:=by
   have:=I2.zo (ys:=[]) (its:=[]) (t':=s2.toks) .nil (UE _);rw[qu]at this;exact this
  have uW:∀b∈fp,b<s2.heap.objs.size:=λb hb=>by
   obtain⟨o,e,_⟩:=Tn.obj 0 _ st2 b hb;exact rT e
  generalize uX:({ s2 with heap:=s2.heap.push { cls:=.type "list",data:=.seq ([]:List Value).toArray }}:Shared)=s3 at I3
  have Di:s3.heap.objs.size=s2.heap.objs.size+1:=by rw[<-uX];exact Wa ..
  have k3:∀b o,s2.heap.get? b=some o->s3.heap.get? b=some o:=λb o e=>by rw[<-uX];exact iR _ e
  have uY:∀b∈fp,b<s3.heap.objs.size:=λb hb=>dS (uW b hb) (by rw[Di];exact Nat.le_succ _);have iN:∀b∈fp,eX X pins (upd H2 Dd (.lst [])) b:=λb hb=>⟨by rw[bq (λz=>absurd (uW b hb) (by rw[z,qu];exact Ud _))];exact(f2 b hb).1,(f2 b hb).2⟩
  refine wpAny_newFunctionEnv (hs.uQ) (λy hy=>by simp at hy) (λuZ Dj Dk=>?_) hs.kind;have k4:∀b o,s3.heap.get? b=some o->uZ.get? b=some o:=λb o e=>Dk.extBut b o (QT (rT e)) (iR _ e);have gC:Good G n (b7 sc scope) N' false (jV X N' scope cl s3.heap.objs.size s3 (upd H2 Dd (.lst [])) fp):=g.comp;have I4:Inv (jV X N' scope cl s3.heap.objs.size s3 (upd H2 Dd (.lst [])) fp) [] (sig scope N N' m' X.K (upd H2 Dd (.lst [])) r2 fr σ) (upd H2 Dd (.lst [])) { s3 with heap:=uZ,toks:=s3.toks+0 }:=
   uR g I3 hs fE iw iN uY Dj k4
  have xJ:SR X.K m' (upd H2 Dd (.lst [])) r2 fr (sig scope N N' m' X.K (upd H2 Dd (.lst [])) r2 fr σ):=A5 (((sr.mono uV).mono (Fm.tup gm))) hn hu;have jU:HR X.K (upd H2 Dd (.lst [])) r2 h1:=hr2.tup gm;have EA:Dd∉r2:=λhm=>by
   obtain⟨k,hk⟩:=UK hm;have hlt:k<h1.length:=by rw[<-hr2.len];exact(List.getElem?_eq_some_iff.mp hk).1
   obtain⟨a,e3,e4⟩:=hr2.ob k _ (tP hlt);rw[hk]at e3;cases e3;cases eo:h1[k]with
   |lst dd=>rw[eo]at e4;obtain⟨us,e5,_⟩:=e4;rw[gm]at e5;cases e5
   |bB dd=>
    rw[eo]at e4;obtain⟨us,e5,_⟩:=e4;rcases e5 with ⟨ob,e5⟩|⟨ob,_,_,e5,_⟩
    .rw[gm]at e5;cases e5
    .have:=rT (I2.dY _ _ e5);rw[qu]at this;exact absurd this (Ud _)
  have Rl:H Dd=none:=by
   cases z:H Dd with
   |none=>rfl
   |some o=>
    have hnr:Dd∉r:=λhm=>by
     obtain⟨k,hk⟩:=UK hm;exact EA (Q6 (uV.pre _ _ hk))
    have:=uV.keep _ _ z hnr;rw[gm]at this;cases this
  have gZ:∀{Hc:Hp},(∀b∈fp,Hc b=none)->∀b∈fp,eX (jV X N' scope cl s3.heap.objs.size s3 (upd H2 Dd (.lst [])) fp) [] Hc b:=λ{Hc} hz b hb=>by
   refine⟨hz b hb,QT (uY b hb),(I4.ok).lZ b hb,.inl hb,λx c e=>((I4.ok).wX b hb).2 x c e,λp hp=>?_⟩;simp[jV]at hp
  have hsz:ds.length<=sizeLine:=by
   unfold Ev.alloc at e;split at e
   .rename_i z;rw[<-jI];exact z
   .cases e
  have fin:codeAny (model X.prog X.w) X.A (.compLoop (.ListComp xe [⟨tg,xi,ifs,0⟩] scope pos) 0 (.ref ita) (.ref Dd) (compEnvC scope cl s3.heap.objs.size X.env)) (post (.ref Dd) s3.heap.objs.size) { s3 with heap:=uZ,toks:=s3.toks+0 }:=by
   refine A8 gC hg hc he Tn gZ hu hJ gm hsz (λs6 iV Hc rc vs I6 oH lU iJ lT sP=>?_) ⟨0,_,_,r2,h1,[],[],ds,I4,Tn.keep _ _ _ st2 λb hb o eo=>k4 b o (k3 b o eo),λb hb=>(iN b hb).1,rfl,UE _,xJ,jU,Fm.tup gm,cB,EA,.nil,by rw[U0];exact e2,rfl⟩;unfold Ev.alloc at e;split at e
   .cases e;obtain⟨J2,Dl,_⟩:=I6.loc;refine hpost Dd _ s6 Hc (rc++[Dd]) ?_ ⟨J2,Dl⟩ ?_ ⟨Dd,rfl,?_⟩ (oH.known iJ lT sP) ((uV.trans lU).known ?_)
    .exact I3.qc (ch:=fp) (I6.os) I6.base I6.hok I6.bare λb hb=>⟨(iN b hb).2.2.2.1,(iN b hb).2.1,(iN b hb).2.2.2.2.1,(iN b hb).2.2.2.2.2⟩
    .exact I3.za (qT _) I6.free
    .rw[<-oH.len];simp
    .exact Rl
   .cases e
  subst uX;exact V4 fin (Tn.self _ 0 _ _ _ (Tn.keep _ _ _ st2 λb hb o eo=>k4 b o (k3 b o eo)) fin)
 .cases e
end
section
variable{G:Tb}{n:Nat}{sc scope:Scope}{N N':List Str}{df:Bool}{m m':List Nat}{elt:E}{t:T}{it:Ev.It}{cond:Eo}{xe xi tg:Expr}{ifs:List Expr}{pos:Pos}
theorem Good.cells{X:Cx}{pins:List (Addr×Obj)}{σ:L2.St}{H:Hp}{s:Shared}(g:Good G n sc N df X)(I:Inv X pins σ H s)(hs:iM sc scope) :
  ∃cl,closureFor scope X.env=pure cl/\(∀x c,cl.lookup x=some c->X.env.cells.lookup x=some c)/\∀x,(x,NameKind.free)∈scope.names->∃c,cl.lookup x=some c:=
 Gn λx hx=>I.ok.has x (by unfold Env.kindOf;rw[g.sc];exact(hs.free x hx).1)
def u0{X:Cx}{pins:List (Addr×Obj)}{σ:L2.St}{H:Hp}{s:Shared}(I:Inv X pins σ H s){C:Addr}(fp:eX X pins H C){h':Heap}(hs:Heap.SameBut C s.heap h'):Inv X pins σ H { s with heap:=h' }:=
 I.turned (t':=s.toks) (λb o hb e=>hs.extBut b o hb e) fp.1 fp.2.1 fp.2.2.2.1 fp.2.2.2.2.1 fp.2.2.2.2.2
def xO(hi:JI G n sc N df m it tg xi)(hg:JG G n (b7 sc scope) N' false m' t tg)(hc:JC G n (b7 sc scope) N' false m' cond ifs)(he:JE G n (b7 sc scope) N' false m' elt xe)
  (hn:namesOk sc N m scope t N' m') (hs:iM sc scope) (hf:∀(env:Env) x,foldedSetIterable xi env x=pure x:=by intro _ _;rfl):JE G n sc N df m (.comp elt t it cond) (.ListComp xe [⟨tg,xi,ifs,0⟩] scope pos):=λX g pins s σ H Q I q=>by
 obtain⟨r,fr,h,d,h',sr,hr,e,q⟩:=q;obtain⟨cl,hcl,fE,iw⟩:=g.cells I hs;rw[eval_ListComp];refine UW (use:=none) (Q:=EP X pins σ Q) rfl (hf _) hcl hs.kind hs.loc ?_;refine sR g hi hg hc he hn hs fE iw I sr hr e (λacc C=>compPost (model X.prog X.w) X.A X.xe none (EP X pins σ Q) acc C) (λDd C s' H' r' I' hC fp rv hr' EB=>?_) g.xe;obtain⟨mm,hC⟩:=hC;exact⟨mm,hC,λh'' Bb=>⟨.ref Dd,H',u0 I' fp Bb,rfl,q _ H' r' rv hr' EB⟩⟩
def Gq(j i:Nat){x:Str}{pos' cpos:Pos}(hm:m.Nodup)(hN:N.Nodup)(hi:JI G n sc N df m it tg xi)(hg:JG G n (b7 sc scope) N' false m' t tg)(hc:JC G n (b7 sc scope) N' false m' cond ifs)(he:JE G n (b7 sc scope) N' false m' elt xe)
  (hn:namesOk sc N m scope t N' m') (hs:iM sc scope) (hj:m[j]?=some i:=by rfl) (sI:N[j]?=some x:=by rfl)
  (hl:sc.names.lookup x=some .local\/(df=true/\sc.names.lookup x=some .cell):=by first|exact Or.inl rfl|exact Or.inr ⟨rfl,rfl⟩) (hf:∀(env:Env) x,foldedSetIterable xi env x=pure x:=by intro _ _;rfl) :
  JS G n sc N df m (.set i (.comp elt t it cond)) (.Assign [.Name x pos'] (.ListComp xe [⟨tg,xi,ifs,0⟩] scope cpos) pos):=λX g=>by
 obtain⟨h1,h2⟩:=g.loc hl;have hsw:swapsWith (.ListComp xe [⟨tg,xi,ifs,0⟩] scope cpos) (some (.Name x pos')) pos.line X.env=pure (X.env.blockKind==.function&&X.env.kindOf x==some .local&&pos'.line==(Expr.ListComp xe [⟨tg,xi,ifs,0⟩] scope cpos).pos.line&&!(scope.names.any λ(n,k)=>n==x&&(k==.local ||k==.cell))):=rfl;generalize hb:(X.env.blockKind==.function&&X.env.kindOf x==some .local&&pos'.line==(Expr.ListComp xe [⟨tg,xi,ifs,0⟩] scope cpos).pos.line&&!(scope.names.any λ(n,k)=>n==x&&(k==.local ||k==.cell)))=b at hsw
 cases b with
 |false=>
  refine PS.of (qe (i:=j) (by rw[g.nm];exact hN) (by rw[g.nm];exact sI) h1 (xO hi hg hc he hn hs hf X g) hsw h2) λQ s H q=>?_;obtain⟨r,fr,h,fl,ai,h',sr,hr,e,q⟩:=q;simp only[Ev.ex]at e;obtain⟨d,h1,e1,e⟩:=Ev.ah e;cases e;exact⟨r,fr,h,d,_,sr,hr,e1,λv H1 r1 v1 hr1 f1=>q _ H1 r1 ((sr.mono f1).set hm hj v1) hr1 f1⟩
 |true=>
  have SI:X.env.kindOf x=some .local:=by
   simp only[fW,UZ]at hb;exact hb.1.1.2
  intro pins s σ H Q I q;obtain⟨r,fr,h,fl,ai,h',sr,hr,e,q⟩:=q;simp only[Ev.ex]at e;obtain⟨d,h3,e1,e⟩:=Ev.ah e;cases e;obtain⟨cl,hcl,fE,iw⟩:=g.cells I hs;rw[exec_Assign_Name_used _ _ _ _ hsw];refine b8 (Wn (b8 ?_));show wpAny _ X.A (do let _ <-comprehension (.ListComp xe [⟨tg,xi,ifs,0⟩] scope cpos) scope X.env _ (newList []) false (eval xi X.env) (some (assign (.Name x pos') X.env))) _ _ s;refine b8 (E9 (UW (use:=some (assign (.Name x pos') X.env)) (Q:=λ_ s'=>SP X pins Q .next s') rfl (hf _) hcl hs.kind hs.loc ?_) (λ_ s' hq=>eS (eS hq)) λ_ _ e=>e);refine sR g hi hg hc he hn hs fE iw I sr hr e1 (λacc C=>compPost (model X.prog X.w) X.A X.xe (some (assign (.Name x pos') X.env)) (λ_ s'=>SP X pins Q .next s') acc C) (λDd C s' H' r' I' hC fp rv hr' EB=>?_) g.xe;obtain⟨mm,hC⟩:=hC;show wpAny _ X.A (assign (.Name x pos') X.env (.ref Dd)) _ _ s';refine wpAny_assign_Name (mj (v:=.ref Dd) I' (by rw[g.nm];exact hN) (i:=j) (by rw[g.nm];exact sI) h1 rfl (λs'' Rm Bb=>?_) h2);obtain⟨a,Bb,ha⟩:=Bb;have Rn:C≠a:=by
   rcases ha with z|z
   .rw[z];exact fp.2.1
   .exact λw=>fp.2.2.2.2.1 x a z w.symm
  refine⟨mm,hC.sameBut Bb Rn,λh'' Qp=>?_⟩;exact⟨_,H',u0 Rm ⟨fp.1,fp.2⟩ Qp,q _ H' r' ((sr.mono EB).set hm hj rv) hr' EB⟩
end
end Sm
namespace Sm
open PySem PySem.Spec PyProof.Rows L2 PySem.SeqAt
open Ev (D O Hh Fr R aB E Es Eo T S Ss Fl Src bu aV TY BI ME)
structure u6(A:Around)(s:Shared)(u w:Value)(k:Bool):Prop where
 eq:EqAt A s u w k
 rc:RcAt A s u w k
 ne:RcNeAt A s u w (!k)
theorem rB{f:D->D->Option Bool}:∀{x y:List D},x.length≠y.length->∀{k},Ev.bZ f x y=some k->k=false
 |[],[],h,_,_=>absurd rfl h
 |[],_ :: _,_,_,e=>by cases e;rfl
 |_ :: _,[],_,_,e=>by cases e;rfl
 |a :: x,b :: y,h,k,e=>by
  simp only[Ev.bZ,Uy,fX]at e;obtain⟨p,_,q,e2,e3⟩:=e;have:=rB (x:=x) (y:=y) (by simpa using h) e2;subst this;cases e3;simp
theorem xP{f:D->D->Option Bool}:∀{x y:List D}{k},Ev.bZ f x y=some k->x.length=y.length->∃e:Nat->Bool,(∀(j:Nat) a b,x[j]?=some a->y[j]?=some b->f a b=some (e j))/\(List.range x.length).all e=k
 |[],[],_,h,_=>⟨λ_=>true,(λj a b h1=>by simp at h1),by cases h;simp⟩
 |[],_ :: _,_,_,h=>by simp at h
 |_ :: _,[],_,_,h=>by simp at h
 |a :: x,b :: y,k,h,hl=>by
  simp only[Ev.bZ,Uy,fX]at h;obtain⟨p,e1,q,e2,e3⟩:=h;cases e3;obtain⟨e,h1,h2⟩:=xP e2 (by simpa using hl);refine⟨λj=>match j with|0=>p|j+1=>e j,λj a' b' g1 g2=>?_,?_⟩
  .cases j with
   |zero=>simp at g1 g2;subst g1 g2;exact e1
   |succ j=>exact h1 j a' b' (by simpa using g1) (by simpa using g2)
  .rw[MZ,V6,List.all_cons,List.all_map,<-h2];rfl
theorem xQ{f:D->D->Option Bool}:∀{x y:List D}{k},Ev.bZ f x y=some k->∃e:Nat->Bool,∀(j:Nat) a b,x[j]?=some a->y[j]?=some b->f a b=some (e j)
 |[],_,_,_=>⟨λ_=>true,λj a b h1=>by simp at h1⟩
 |_ :: _,[],_,_=>⟨λ_=>true,λj a b _ h1=>by simp at h1⟩
 |a :: x,b :: y,k,h=>by
  simp only[Ev.bZ,Uy,fX]at h;obtain⟨p,e1,q,e2,e3⟩:=h;obtain⟨e,h1⟩:=xQ e2;refine⟨λj=>match j with|0=>p|j+1=>e j,λj a' b' g1 g2=>?_⟩;cases j with
  |zero=>simp at g1 g2;subst g1 g2;exact e1
  |succ j=>exact h1 j a' b' (by simpa using g1) (by simpa using g2)
section
variable{X:Cx}{pins:List (Addr×Obj)}{σ:L2.St}{H:Hp}{s:Shared}{r:List Addr}{h:Hh}
def nO(I:Inv X pins σ H s){a b:Addr}{vs ws:List V}(h1:zy X.K H a vs)(h2:H b=some (.lst ws)):a≠b:=by
 rintro rfl;rcases h1 with ⟨o,h1⟩|⟨o,_,_,h1,_⟩
 .rw[h2]at h1;cases h1
 .have:=(I.bs a o (I.ok.mod.cS a o h1)).2;rw[h2]at this;cases this
def sS{x y:List D}{vs ws:List V}{us zs:List Value}{f:D->D->Option Bool}{A:Around}{k:Bool}(v1:aE X.K H r x vs)(v2:aE X.K H r y ws)(p1:Vals vs us)(p2:Vals ws zs)
  (ih:∀a b va vb u w k,RV X.K H r a va->RV X.K H r b vb->RelV va u->RelV vb w->f a b=some k->u6 A s u w k) (hl:x.length=y.length) (e:Ev.bZ f x y=some k) :
  ∃e':Nat->Bool,(∀j (h1:j<us.toArray.size) (h2:j<zs.toArray.size),EqAt A s us.toArray[j] zs.toArray[j] (e' j))/\(List.range us.toArray.size).all e'=k/\us.length=zs.length:=by
 obtain⟨e',h1,h2⟩:=xP e hl;have l1:=v1.length;have l2:=v2.length;have l3:=p1.length;have l4:=p2.length;refine⟨e',λj g1 g2=>?_,?_,by omega⟩
 .have Ro:j<us.length:=by simpa using g1
  have Rp:j<zs.length:=by simpa using g2
  have ha:x[j]?=some x[j]:=tP (by omega);have hb:y[j]?=some y[j]:=tP (by omega);obtain⟨va,a1,a2⟩:=v1.get ha;obtain⟨vb,b1,b2⟩:=v2.get hb;obtain⟨u,a3,a4⟩:=p1.get a1;obtain⟨w,b3,b4⟩:=p2.get b1;have eu:us.toArray[j]=u:=by
   have:=(List.getElem?_eq_some_iff.mp a3).2;simpa using this
  have ew:zs.toArray[j]=w:=by
   have:=(List.getElem?_eq_some_iff.mp b3).2;simpa using this
  rw[eu,ew];exact(ih _ _ _ _ _ _ _ a2 b2 a4 b4 (h1 j _ _ ha hb)).eq
 .rw[<-h2];have:us.toArray.size=x.length:=by simp;omega
  rw[this]
def bU(K:PySem.W.Frag)(H:Hp)(r:List Addr):D->V->Prop
 |.aO,v=>v=.aO
 |.bl b,v=>v=.bl b
 |.int i,v=>v=.int i
 |.str l,v=>v=.str (aA l)
 |.ref n,v=>∃a,v=.ref a/\r[n]?=some a
 |.tup ds,v=>∃a vs,v=.ref a/\dz K H a vs/\aE K H r ds vs
def RV.shape{d:D}{v:V}(h:RV X.K H r d v):bU X.K H r d v:=by
 cases d<;>simp only[RV]at h<;>simp only[bU]<;>first|exact h|exact h.1
def Gr{a b:List Nat}:(aA a==aA b)=(a==b):=by
 by_cases e:a=b
 .subst e;simp
 .have e1:(aA a==aA b)=false:=beq_eq_false_iff_ne.mpr λz=>e (jt z);have e2:(a==b)=false:=beq_eq_false_iff_ne.mpr e;rw[e1,e2]
def pH{n:Nat}{A:Around}{x y:List D}{a b:Addr}{vs ws:List V}{k:Bool}(I:Inv X pins σ H s)(hu:A.units<cLine)(q1:eU X.K H a vs)(q2:eU X.K H b ws)(v1:aE X.K H r x vs)(v2:aE X.K H r y ws)(hab:a≠b)
  (ih:∀a b va vb u w k,RV X.K H r a va->RV X.K H r b vb->RelV va u->RelV vb w->Ev.fP h n a b=some k->u6 A.in1 s u w k) (e:Ev.bZ (Ev.fP h n) x y=some k):u6 A s (.ref a) (.ref b) k:=by
 obtain⟨us,p1,oJ,_⟩:=I.list q1;obtain⟨zs,p2,oM,_⟩:=I.list q2;by_cases hl:x.length=y.length
 .obtain⟨e',h1,h2,h3⟩:=sS v1 v2 p1 p2 ih hl e;have hs:us.toArray.size=zs.toArray.size:=by simpa using h3
  have rc:=RcAt.lists oJ.isList oM.isList hs hu h1;have ne:=RcNeAt.lists oJ.isList oM.isList hs hu h1;rw[h2]at rc ne;exact⟨.of_refs hab rc,rc,ne⟩
 .have hk:=rB hl e;subst hk;have hs:(us.toArray.size != zs.toArray.size)=true:=by
   have l1:=v1.length;have l2:=v2.length;have l3:=p1.length;have l4:=p2.length;simp only[lI,bne_iff_ne,ne_eq];omega
  exact⟨.of_refs hab (.lists_lengths oJ.isList oM.isList hs hu),.lists_lengths oJ.isList oM.isList hs hu,.lists_lengths oJ.isList oM.isList hs hu⟩
def u7(I:Inv X pins σ H s)(hr:HR X.K H r h){n:Nat}{a:Addr}{ds:List D}(e:Ev.aP h n=some ds)(ha:r[n]?=some a):∃us:List Value,PlainL s.heap a us.toArray:=by
 obtain⟨a',vs,e1,e2,e3⟩:=hr.read e;rw[ha]at e1;cases e1;obtain⟨us,_,pl,_⟩:=I.list e2;exact⟨us,pl⟩
def Bc(I:Inv X pins σ H s)(hr:HR X.K H r h):∀(n:Nat) (a b:D) (v:V) (k:Bool),RV X.K H r a v->RV X.K H r b v->Ev.fP h n a b=some k->k=true:=by
 intro n;induction n with
 |zero=>intro a b v k _ _ e;cases e
 |succ n ih=>
  have items:∀(x y:List D) (vs:List V) (k:Bool),aE X.K H r x vs->aE X.K H r y vs->Ev.bZ (Ev.fP h n) x y=some k->k=true:=by
   intro x;induction x with
   |nil=>
    intro y vs k h1 h2 e;simp only[aE]at h1;subst h1;cases y with
    |nil=>cases e;rfl
    |cons _ _=>simp only[aE]at h2;obtain⟨_,_,h2,_⟩:=h2;cases h2
   |cons d x Rq=>
    intro y vs k h1 h2 e;simp only[aE]at h1;obtain⟨v,w,rfl,h3,h4⟩:=h1;cases y with
    |nil=>simp only[aE]at h2;cases h2
    |cons d' y=>
     simp only[aE]at h2;obtain⟨v',w',e2,h5,h6⟩:=h2;cases e2;simp only[Ev.bZ,Uy,fX]at e;obtain⟨p,e1,q,e2,e3⟩:=e;cases e3;rw[ih d d' v p h3 h5 e1,Rq y w q h4 h6 e2];rfl
  have lt:∀(a:Addr) (vs:List V) (i:Nat) (ds:List D),dz X.K H a vs->r[i]?=some a->Ev.aP h i=some ds->False:=λa vs i ds h1 h2 h3=>by
   obtain⟨us,pl⟩:=u7 I hr h3 h2;obtain⟨zs,_,pt,_⟩:=I.tuple h1;exact ne_of_list_tuple pl.isList pt rfl
  intro a b v k h1 h2 e;have s1:=h1.shape;have s2:=h2.shape;clear h1 h2;cases a with
  |aO=>simp only[bU]at s1;cases b with
   |aO=>cases e;rfl
   |ref m=>obtain⟨p,z,_⟩:=s2;rw[s1]at z;cases z
   |tup y=>obtain⟨p,_,z,_⟩:=s2;rw[s1]at z;cases z
   |_=>simp only[bU]at s2;rw[s1]at s2;cases s2
  |bl x=>simp only[bU]at s1;cases b with
   |bl y=>simp only[bU]at s2;rw[s1]at s2;cases s2;cases e;simp
   |ref m=>obtain⟨p,z,_⟩:=s2;rw[s1]at z;cases z
   |tup y=>obtain⟨p,_,z,_⟩:=s2;rw[s1]at z;cases z
   |_=>simp only[bU]at s2;rw[s1]at s2;cases s2
  |int x=>simp only[bU]at s1;cases b with
   |int y=>simp only[bU]at s2;rw[s1]at s2;cases s2;cases e;simp
   |ref m=>obtain⟨p,z,_⟩:=s2;rw[s1]at z;cases z
   |tup y=>obtain⟨p,_,z,_⟩:=s2;rw[s1]at z;cases z
   |_=>simp only[bU]at s2;rw[s1]at s2;cases s2
  |str x=>simp only[bU]at s1;cases b with
   |str y=>
    simp only[bU]at s2;rw[s1]at s2;have:x=y:=jt (by injection s2);subst this;cases e;simp
   |ref m=>obtain⟨p,z,_⟩:=s2;rw[s1]at z;cases z
   |tup y=>obtain⟨p,_,z,_⟩:=s2;rw[s1]at z;cases z
   |_=>simp only[bU]at s2;rw[s1]at s2;cases s2
  |tup x=>
   obtain⟨p,vs,rfl,z,w⟩:=s1;cases b with
   |tup y=>
    obtain⟨p',vs',z',z2,w2⟩:=s2;cases z';rw[I.mC z2 z]at w2;exact items x y vs k w w2 e
   |ref m=>
    obtain⟨p',z',z2⟩:=s2;cases z';obtain⟨ds,e1,_⟩:=Option.map_eq_some_iff.mp e;exact(lt _ _ _ _ z z2 e1).elim
   |_=>cases s2
  |ref i=>
   obtain⟨p,rfl,z⟩:=s1;cases b with
   |ref m=>
    obtain⟨p',z',z2⟩:=s2;cases z';replace e:Ev.jF h (Ev.fP h n) i m=some k:=e;unfold Ev.jF at e;split at e
    .simp only[cR]at e;obtain⟨_,_,e⟩:=e;exact e.symm
    .rename_i hne;split at e
     .rename_i x y g1 g2;exact absurd (hr.inj _ _ _ _ _ z z2 g1 g2) hne
     .rename_i x y g1 g2;obtain⟨p1,q1,EC,q2,_⟩:=hr.ob _ _ g1;obtain⟨p2,q3,ED,q4,_⟩:=hr.ob _ _ g2;rw[z]at q1;cases q1;rw[z2]at q3;cases q3;exact absurd rfl (nO I q2 q4)
     .rename_i x y g1 g2;obtain⟨p1,q1,EC,q2,_⟩:=hr.ob _ _ g1;obtain⟨p2,q3,ED,q4,_⟩:=hr.ob _ _ g2;rw[z]at q1;cases q1;rw[z2]at q3;cases q3;exact absurd rfl (nO I q4 q2)
     .cases e
   |tup y=>
    obtain⟨p',vs',z',z2,w2⟩:=s2;cases z';obtain⟨ds,e1,_⟩:=Option.map_eq_some_iff.mp e;exact(lt _ _ _ _ z2 z e1).elim
   |_=>cases s2
def Gs{n:Nat}{A:Around}{x y:List D}{a b:Addr}{vs ws:List V}{k:Bool}(I:Inv X pins σ H s)(hr:HR X.K H r h)(hu:A.units<cLine)(q1:dz X.K H a vs)(q2:dz X.K H b ws)(v1:aE X.K H r x vs)(v2:aE X.K H r y ws)
  (ih:∀a b va vb u w k,RV X.K H r a va->RV X.K H r b vb->RelV va u->RelV vb w->Ev.fP h n a b=some k->u6 A.in1 s u w k) (e:Ev.bZ (Ev.fP h n) x y=some k):u6 A s (.ref a) (.ref b) k:=by
 obtain⟨us,p1,oJ,_⟩:=I.tuple q1;obtain⟨zs,p2,oM,_⟩:=I.tuple q2;have l1:=v1.length;have l2:=v2.length;have l3:=p1.length;have l4:=p2.length;have both:RcAt A s (.ref a) (.ref b) k/\RcNeAt A s (.ref a) (.ref b) (!k):=by
  by_cases hl:x.length=y.length
  .obtain⟨e',h1,h2,h3⟩:=sS v1 v2 p1 p2 ih hl e;have rc:=RcAt.tuples oJ oM hu h1;have ne:=RcNeAt.tuples oJ oM hu h1;have hs:us.toArray.size=zs.toArray.size:=by simpa using h3
   have hb:((List.range (min us.toArray.size zs.toArray.size)).all e'&&us.toArray.size==zs.toArray.size)=k:=by
    rw[<-hs,Nat.min_self,h2];simp
   rw[hb]at rc ne;exact⟨rc,ne⟩
  .have hk:=rB hl e;subst hk;have hcl:∃e':Nat->Bool,∀j (h1:j<us.toArray.size) (h2:j<zs.toArray.size),EqAt A.in1 s us.toArray[j] zs.toArray[j] (e' j):=by
    obtain⟨e',h1⟩:=xQ e;refine⟨e',λj g1 g2=>?_⟩;have Ro:j<us.length:=by simpa using g1
    have Rp:j<zs.length:=by simpa using g2
    have ha:x[j]?=some x[j]:=tP (by omega);have hb:y[j]?=some y[j]:=tP (by omega);obtain⟨va,a1,a2⟩:=v1.get ha;obtain⟨vb,b1,b2⟩:=v2.get hb;obtain⟨u,a3,a4⟩:=p1.get a1;obtain⟨w,b3,b4⟩:=p2.get b1;have eu:us.toArray[j]=u:=by
     have:=(List.getElem?_eq_some_iff.mp a3).2;simpa using this
    have ew:zs.toArray[j]=w:=by
     have:=(List.getElem?_eq_some_iff.mp b3).2;simpa using this
    rw[eu,ew];exact(ih _ _ _ _ _ _ _ a2 b2 a4 b4 (h1 j _ _ ha hb)).eq
   obtain⟨e',h1⟩:=hcl;have rc:=RcAt.tuples oJ oM hu h1;have ne:=RcNeAt.tuples oJ oM hu h1;have hs:(us.toArray.size==zs.toArray.size)=false:=by
    simp only[lI,beq_eq_false_iff_ne,ne_eq];omega
   rw[hs,Bool.and_false]at rc ne;exact⟨rc,ne⟩
 by_cases hab:a=b
 .subst hab;rw[I.mC q2 q1]at v2;have hk:k=true:=Bc I hr (n+1) (.tup x) (.tup y) (.ref a) k ⟨a,vs,rfl,q1,v1⟩ ⟨a,vs,rfl,q1,v2⟩ e;subst hk;exact⟨.same _,both.1,both.2⟩
 .exact⟨.of_refs hab both.1,both.1,both.2⟩
end
section
variable{X:Cx}{pins:List (Addr×Obj)}{σ:L2.St}{H:Hp}{s:Shared}{r:List Addr}{h:Hh}
def t9(I:Inv X pins σ H s)(hr:HR X.K H r h):∀(n:Nat) (A:Around) (a b:D) (va vb:V) (u w:Value) (k:Bool),A.units+n<cLine->RV X.K H r a va->RV X.K H r b vb->RelV va u->RelV vb w->Ev.fP h n a b=some k->u6 A s u w k:=by
 intro n;induction n with
 |zero=>intro A a b va vb u w k _ _ _ _ _ e;cases e
 |succ n ih=>
  intro A a b va vb u w k hu h1 h2 r1 r2 e;have bI:A.units<cLine:=by omega
  have ih':∀a b va vb u w k,RV X.K H r a va->RV X.K H r b vb->RelV va u->RelV vb w->Ev.fP h n a b=some k->u6 A.in1 s u w k:=λa b va vb u w k=>ih A.in1 a b va vb u w k (by show A.units+1+n<cLine;omega);have s1:=h1.shape;have s2:=h2.shape;have lst:∀{i:Nat} {v:V} {u:Value} {ds:List D},bU X.K H r (.ref i) v->RelV v u->Ev.aP h i=some ds->∃p us,u=.ref p/\PlainL s.heap p (List.toArray us):=λ{i v u ds} hv ru el=>by
   obtain⟨p,rfl,z⟩:=hv;cases ru;obtain⟨us,pl⟩:=u7 I hr el z;exact⟨p,us,rfl,pl⟩
  have tup:∀{ds:List D} {v:V} {u:Value},bU X.K H r (.tup ds) v->RelV v u->∃p us,u=.ref p/\s.heap.IsTuple p (List.toArray us):=λ{ds v u} hv ru=>by
   obtain⟨p,vs,rfl,z,_⟩:=hv;cases ru;obtain⟨us,_,pt,_⟩:=I.tuple z;exact⟨p,us,rfl,pt⟩
  cases a with
  |aO=>
   simp only[bU]at s1;subst s1;cases r1;cases b with
   |aO=>simp only[bU]at s2;subst s2;cases r2;cases e;exact⟨.same _,.none_none,.none_none⟩
   |bl y=>simp only[bU]at s2;subst s2;cases r2;cases e;exact⟨.none_bool _,.none_bool _,.none_bool _⟩
   |int y=>simp only[bU]at s2;subst s2;obtain⟨t,rfl⟩:=r2;cases e;exact⟨.none_int _ _,.none_int _ _,.none_int _ _⟩
   |str y=>simp only[bU]at s2;subst s2;obtain⟨t,rfl⟩:=r2;cases e;exact⟨.none_str _ _,.none_str _ _,.none_str _ _⟩
   |tup y=>obtain⟨p,us,rfl,pt⟩:=tup s2 r2;cases e;exact⟨.none_tuple pt bI,.none_tuple pt bI,.none_tuple pt bI⟩
   |ref m=>
    obtain⟨ds,e1,rfl⟩:=Option.map_eq_some_iff.mp e;obtain⟨p,us,rfl,pl⟩:=lst s2 r2 e1;exact⟨.none_list pl.isList bI,.none_list pl.isList bI,.none_list pl.isList bI⟩
  |bl x=>
   simp only[bU]at s1;subst s1;cases r1;cases b with
   |aO=>simp only[bU]at s2;subst s2;cases r2;cases e;exact⟨.bool_none _,.bool_none _,.bool_none _⟩
   |bl y=>simp only[bU]at s2;subst s2;cases r2;cases e;exact⟨.bool_bool _ _,.bool_bool _ _,.bool_bool _ _⟩
   |int y=>simp only[bU]at s2;subst s2;obtain⟨t,rfl⟩:=r2;cases e;exact⟨.bool_int _ _ _,.bool_int _ _ _,.bool_int _ _ _⟩
   |str y=>simp only[bU]at s2;subst s2;obtain⟨t,rfl⟩:=r2;cases e;exact⟨.bool_str _ _ _,.bool_str _ _ _,.bool_str _ _ _⟩
   |tup y=>obtain⟨p,us,rfl,pt⟩:=tup s2 r2;cases e;exact⟨.bool_tuple _ pt bI,.bool_tuple _ pt bI,.bool_tuple _ pt bI⟩
   |ref m=>
    obtain⟨ds,e1,rfl⟩:=Option.map_eq_some_iff.mp e;obtain⟨p,us,rfl,pl⟩:=lst s2 r2 e1;exact⟨.bool_list _ pl.isList bI,.bool_list _ pl.isList bI,.bool_list _ pl.isList bI⟩
  |int x=>
   simp only[bU]at s1;subst s1;obtain⟨t0,rfl⟩:=r1;cases b with
   |aO=>simp only[bU]at s2;subst s2;cases r2;cases e;exact⟨.int_none _ _,.int_none _ _,.int_none _ _⟩
   |bl y=>simp only[bU]at s2;subst s2;cases r2;cases e;exact⟨.int_bool _ _ _,.int_bool _ _ _,.int_bool _ _ _⟩
   |int y=>simp only[bU]at s2;subst s2;obtain⟨t,rfl⟩:=r2;cases e;exact⟨.int_int _ _ _ _,.int_int _ _ _ _,.int_int _ _ _ _⟩
   |str y=>simp only[bU]at s2;subst s2;obtain⟨t,rfl⟩:=r2;cases e;exact⟨.int_str _ _ _ _,.int_str _ _ _ _,.int_str _ _ _ _⟩
   |tup y=>obtain⟨p,us,rfl,pt⟩:=tup s2 r2;cases e;exact⟨.int_tuple _ _ pt bI,.int_tuple _ _ pt bI,.int_tuple _ _ pt bI⟩
   |ref m=>
    obtain⟨ds,e1,rfl⟩:=Option.map_eq_some_iff.mp e;obtain⟨p,us,rfl,pl⟩:=lst s2 r2 e1;exact⟨.int_list _ _ pl.isList bI,.int_list _ _ pl.isList bI,.int_list _ _ pl.isList bI⟩
  |str x=>
   simp only[bU]at s1;subst s1;obtain⟨t0,rfl⟩:=r1;cases b with
   |aO=>simp only[bU]at s2;subst s2;cases r2;cases e;exact⟨.str_none _ _,.str_none _ _,.str_none _ _⟩
   |bl y=>simp only[bU]at s2;subst s2;cases r2;cases e;exact⟨.str_bool _ _ _,.str_bool _ _ _,.str_bool _ _ _⟩
   |int y=>simp only[bU]at s2;subst s2;obtain⟨t,rfl⟩:=r2;cases e;exact⟨.str_int _ _ _ _,.str_int _ _ _ _,.str_int _ _ _ _⟩
   |str y=>
    simp only[bU]at s2;subst s2;obtain⟨t,rfl⟩:=r2;cases e;rw[<-Gr];exact⟨.str_str _ _ _ _,.str_str _ _ _ _,.str_str _ _ _ _⟩
   |tup y=>obtain⟨p,us,rfl,pt⟩:=tup s2 r2;cases e;exact⟨.str_tuple _ _ pt bI,.str_tuple _ _ pt bI,.str_tuple _ _ pt bI⟩
   |ref m=>
    obtain⟨ds,e1,rfl⟩:=Option.map_eq_some_iff.mp e;obtain⟨p,us,rfl,pl⟩:=lst s2 r2 e1;exact⟨.str_list _ _ pl.isList bI,.str_list _ _ pl.isList bI,.str_list _ _ pl.isList bI⟩
  |tup x=>
   cases b with
   |tup y=>
    obtain⟨p,vs,rfl,z,w1⟩:=s1;obtain⟨p',vs',rfl,z',w2⟩:=s2;cases r1;cases r2;exact Gs I hr bI z z' w1 w2 ih' e
   |aO=>obtain⟨p,us,rfl,pt⟩:=tup s1 r1;simp only[bU]at s2;subst s2;cases r2;cases e;exact⟨.tuple_none pt bI,.tuple_none pt bI,.tuple_none pt bI⟩
   |bl y=>obtain⟨p,us,rfl,pt⟩:=tup s1 r1;simp only[bU]at s2;subst s2;cases r2;cases e;exact⟨.tuple_bool _ pt bI,.tuple_bool _ pt bI,.tuple_bool _ pt bI⟩
   |int y=>obtain⟨p,us,rfl,pt⟩:=tup s1 r1;simp only[bU]at s2;subst s2;obtain⟨t,rfl⟩:=r2;cases e;exact⟨.tuple_int _ _ pt bI,.tuple_int _ _ pt bI,.tuple_int _ _ pt bI⟩
   |str y=>obtain⟨p,us,rfl,pt⟩:=tup s1 r1;simp only[bU]at s2;subst s2;obtain⟨t,rfl⟩:=r2;cases e;exact⟨.tuple_str _ _ pt bI,.tuple_str _ _ pt bI,.tuple_str _ _ pt bI⟩
   |ref m=>
    obtain⟨p,us,rfl,pt⟩:=tup s1 r1;obtain⟨ds,e1,rfl⟩:=Option.map_eq_some_iff.mp e;obtain⟨p',us',rfl,pl⟩:=lst s2 r2 e1;exact⟨.tuple_list pt pl.isList bI,.tuple_list pt pl.isList bI,.tuple_list pt pl.isList bI⟩
  |ref i=>
   cases b with
   |ref m=>
    replace e:Ev.jF h (Ev.fP h n) i m=some k:=e;unfold Ev.jF at e;split at e
    .rename_i Rt;subst Rt;simp only[cR]at e;obtain⟨ds,e1,rfl⟩:=e;obtain⟨p,us,rfl,pl⟩:=lst s1 r1 e1;obtain⟨p0,rfl,z⟩:=s1;obtain⟨p1,rfl,z'⟩:=s2;rw[z]at z';cases z';cases r1;cases r2;have q:(List.range (List.toArray us).size).all (λ_=>true)=true:=by simp
     have rc:=RcAt.lists (A:=A) (e:=λ_=>true) pl.isList pl.isList rfl bI λj _ _=>EqAt.same _;have ne:=RcNeAt.lists (A:=A) (e:=λ_=>true) pl.isList pl.isList rfl bI λj _ _=>EqAt.same _;rw[q]at rc ne;exact⟨.same _,rc,ne⟩
    .rename_i hne;obtain⟨p0,rfl,z⟩:=s1;obtain⟨p1,rfl,z'⟩:=s2;cases r1;cases r2;split at e
     .rename_i x y g1 g2;obtain⟨q0,q1,EC,q2,q3⟩:=hr.ob _ _ g1;obtain⟨q4,q5,ED,q6,q7⟩:=hr.ob _ _ g2;rw[z]at q1;cases q1;rw[z']at q5;cases q5;exact pH I bI (.of q2) (.of q6) q3 q7 (λw=>hne (hr.inj _ _ _ _ _ z (by rw[w];exact z') g1 g2)) ih' e
     .rename_i x y g1 g2;obtain⟨q0,q1,EC,q2,q3⟩:=hr.ob _ _ g1;obtain⟨q4,q5,ED,q6,q7⟩:=hr.ob _ _ g2;rw[z]at q1;cases q1;rw[z']at q5;cases q5;exact pH I bI (EE q2) (.of q6) q3 q7 (nO I q2 q6) ih' e
     .rename_i x y g1 g2;obtain⟨q0,q1,EC,q2,q3⟩:=hr.ob _ _ g1;obtain⟨q4,q5,ED,q6,q7⟩:=hr.ob _ _ g2;rw[z]at q1;cases q1;rw[z']at q5;cases q5;exact pH I bI (.of q2) (EE q6) q3 q7 (nO I q6 q2).symm ih' e
     .cases e
   |aO=>obtain⟨ds,e1,rfl⟩:=Option.map_eq_some_iff.mp e;obtain⟨p,us,rfl,pl⟩:=lst s1 r1 e1;simp only[bU]at s2;subst s2;cases r2;exact⟨.list_none pl.isList bI,.list_none pl.isList bI,.list_none pl.isList bI⟩
   |bl y=>obtain⟨ds,e1,rfl⟩:=Option.map_eq_some_iff.mp e;obtain⟨p,us,rfl,pl⟩:=lst s1 r1 e1;simp only[bU]at s2;subst s2;cases r2;exact⟨.list_bool _ pl.isList bI,.list_bool _ pl.isList bI,.list_bool _ pl.isList bI⟩
   |int y=>obtain⟨ds,e1,rfl⟩:=Option.map_eq_some_iff.mp e;obtain⟨p,us,rfl,pl⟩:=lst s1 r1 e1;simp only[bU]at s2;subst s2;obtain⟨t,rfl⟩:=r2;exact⟨.list_int _ _ pl.isList bI,.list_int _ _ pl.isList bI,.list_int _ _ pl.isList bI⟩
   |str y=>obtain⟨ds,e1,rfl⟩:=Option.map_eq_some_iff.mp e;obtain⟨p,us,rfl,pl⟩:=lst s1 r1 e1;simp only[bU]at s2;subst s2;obtain⟨t,rfl⟩:=r2;exact⟨.list_str _ _ pl.isList bI,.list_str _ _ pl.isList bI,.list_str _ _ pl.isList bI⟩
   |tup y=>
    obtain⟨ds,e1,rfl⟩:=Option.map_eq_some_iff.mp e;obtain⟨p,us,rfl,pl⟩:=lst s1 r1 e1;obtain⟨p',us',rfl,pt⟩:=tup s2 r2;exact⟨.list_tuple pl.isList pt bI,.list_tuple pl.isList pt bI,.list_tuple pl.isList pt bI⟩
where
 EE {K:PySem.W.Frag} {H:Hp} {a:Addr} {vs:List V} (q:zy K H a vs):eU K H a vs:=by
  rcases q with ⟨ob,e2⟩|e2
  .exact .inl (.inr ⟨ob,e2⟩)
  .exact .inr e2
end
theorem Good.units{G:Tb}{n:Nat}{sc:Scope}{N:List Str}{df:Bool}{X:Cx}(g:Good G n sc N df X):X.A.units+1+Ev.deep<cLine:=by
 have:=g.room.un;have:Ev.deep=20:=rfl;omega
section
variable{G:Tb}{n:Nat}{sc:Scope}{N:List Str}{df:Bool}{X:Cx}
def nP{pins:List (Addr×Obj)}{σ:L2.St}{H:Hp}{s:Shared}{Q:VK}{r:List Addr}{h:Hh}{k:Bool}(I:Inv X pins σ H s)(hr:HR X.K H r h)(q:Res X.K r H h (.bl k) Q):EP X pins σ Q (.bool k) s:=
 ⟨.bl k,H,I,rfl,q.here rfl hr⟩
def EF(g:Good G n sc N df X):cz X (compareOp .Eq) (fH X.K (dR .eq)):=by
 intro pins s σ H x y v u Q I rx ry q;obtain⟨r,h,a,b,d,h',hr,v1,v2,e,q⟩:=q;obtain⟨k,e1,rfl,rfl⟩:=gM e;have:=g.units;exact(t9 I hr Ev.deep X.A a b x y v u k (by omega) v1 v2 rx ry e1).rc _ _ _ _ (nP I hr q)
def EG(g:Good G n sc N df X):cz X (compareOp .NotEq) (fH X.K (dR .ne)):=by
 intro pins s σ H x y v u Q I rx ry q;obtain⟨r,h,a,b,d,h',hr,v1,v2,e,q⟩:=q;obtain⟨k,e1,rfl,rfl⟩:=gM e;have:=g.units
 delta Ev.cop at e1;dsimp only at e1;simp only[cR]at e1
 obtain⟨k',e2,rfl⟩:=e1;exact(t9 I hr Ev.deep X.A a b x y v u k' (by omega) v1 v2 rx ry e2).ne _ _ _ _ (nP I hr q)
def J3{op:CmpOp}{o:aV}{p:Int->Int->Bool}(ho:cz X (compareOp op) (xu λi j=>.bl (p i j)))(hc:∀a b h k,Ev.cop o a b h=some k->∃i j,a=.int i/\b=.int j/\k=p i j):cz X (compareOp op) (fH X.K (dR o)):=by
 intro pins s σ H x y v u Q I rx ry q;obtain⟨r,h,a,b,d,h',hr,v1,v2,e,q⟩:=q;obtain⟨k,e1,rfl,rfl⟩:=gM e;obtain⟨i,j,rfl,rfl,rfl⟩:=hc _ _ _ _ e1;exact ho pins s σ H x y v u Q I rx ry ⟨i,j,v1,v2,q.here rfl hr⟩
theorem sU:∀a b:List Nat,Ev.lexLe a b = !decide (b<a)
 |[],b=>by simp[Ev.lexLe]
 |x :: xs,[]=>by simp[Ev.lexLe]
 |x :: xs,y :: ys=>by
  simp only[Ev.lexLe,sU xs ys,List.cons_lt_cons_iff];by_cases e:x=y
  .subst e;simp
  .have e2:¬ y=x:=λz=>e z.symm;by_cases h:x<y
   .have:¬ y<x:=by omega
    simp[e,e2,h,this]
   .have:y<x:=by omega
    simp[e,e2,h,this]
def qv:cz X (compareOp .LtE) (fH X.K (dR .le)):=by
 intro pins s σ H x y v u Q I rx ry q;obtain⟨r,h,a,b,d,h',hr,v1,v2,e,q⟩:=q;obtain⟨k,e1,rfl,rfl⟩:=gM e;cases a<;>cases b <;> (delta Ev.cop at e1;dsimp only at e1)<;>first|cases e1|skip
 .exact Nd pins s σ H x y v u Q I rx ry ⟨_,_,v1,v2,q.here rfl hr⟩
 .obtain⟨rfl,_⟩:=v1;obtain⟨rfl,_⟩:=v2;obtain⟨t,rfl⟩:=rx;obtain⟨t',rfl⟩:=ry;refine PySem.P.le_str ?_;rw[sU]at q;exact⟨.bl _,H,I,rfl,q.here rfl hr⟩
def NI:cz X (compareOp .Gt) (fH X.K (dR .gt)):=J3 Nf λa b h k e=>by
 cases a<;>cases b <;> (delta Ev.cop at e;dsimp only at e)<;>first | (cases e;exact⟨_,_,rfl,rfl,rfl⟩)|cases e
end
theorem xR{h:Hh}{x:D}:∀{ys:List D}{k:Bool},Ev.mem h x ys=some k->∃e:Nat->Bool,(∀(j:Nat) y,ys[j]?=some y->Ev.fP h Ev.deep y x=some (e j))/\(List.range ys.length).any e=k
 |[],_,e=>⟨λ_=>true,(λj y h=>by simp at h),by cases e;simp⟩
 |y :: ys,k,e=>by
  simp only[Ev.mem,Uy,fX]at e;obtain⟨p,e1,q,e2,e3⟩:=e;cases e3;obtain⟨e,h1,h2⟩:=xR e2;refine⟨λj=>match j with|0=>p|j+1=>e j,λj y' g=>?_,?_⟩
  .cases j with
   |zero=>simp at g;subst g;exact e1
   |succ j=>exact h1 j y' (by simpa using g)
  .rw[MZ,V6,Vz,List.any_map,<-h2];rfl
section
variable{X:Cx}{pins:List (Addr×Obj)}{σ:L2.St}{H:Hp}{s:Shared}{r:List Addr}{h:Hh}
open Classical in
def xS(I:Inv X pins σ H s)(hr:HR X.K H r h){A:Around}(hu:A.units+1+Ev.deep<cLine){x:D}{vx:V}{ux:Value}(v1:RV X.K H r x vx)(rx:RelV vx ux){ys:List D}{vs:List V}{us:List Value}(v2:aE X.K H r ys vs)(p2:Vals vs us){k:Bool}(e:Ev.mem h x ys=some k) :
  ∃f:Value->Bool,(∀y,y∈us.toArray->EqAt A.in1 s y ux (f y))/\us.toArray.any f=k:=by
 obtain⟨e',h1,h2⟩:=xR e;have l1:=v2.length;have l2:=p2.length;have at':∀(j:Nat) (hj:j<us.length),EqAt A.in1 s us[j] ux (e' j):=λj hj=>by
  have ha:ys[j]?=some ys[j]:=tP (by omega);obtain⟨va,a1,a2⟩:=v2.get ha;obtain⟨u,a3,a4⟩:=p2.get a1;have eu:us[j]=u:=(List.getElem?_eq_some_iff.mp a3).2;rw[eu];exact(t9 I hr Ev.deep A.in1 _ _ _ _ _ _ _ (by show A.units+1+Ev.deep<cLine;exact hu) a2 v1 a4 rx (h1 j _ ha)).eq
 refine⟨λy=>decide (∃j,∃hj:j<us.length,us[j]=y/\e' j=true),λy hy=>?_,?_⟩
 .by_cases hx:∃j,∃hj:j<us.length,us[j]=y/\e' j=true
  .obtain⟨j,hj,rfl,ej⟩:=hx;have q:=at' j hj;rw[ej]at q;have:decide (∃j',∃hj':j'<us.length,us[j']=us[j]/\e' j'=true)=true:=Ui ⟨j,hj,rfl,ej⟩;show EqAt A.in1 s us[j] ux (decide (∃j',∃hj':j'<us.length,us[j']=us[j]/\e' j'=true));rw[this];exact q
  .show EqAt A.in1 s y ux (decide (∃j',∃hj':j'<us.length,us[j']=y/\e' j'=true));rw[DX hx];have hy':y∈us:=by simpa using hy
   obtain⟨j,hj,rfl⟩:=Vq hy';have q:=at' j hj;have:e' j=false:=by
    cases z:e' j with
    |false=>rfl
    |true=>exact absurd ⟨j,hj,rfl,z⟩ hx
   rw[this]at q;exact q
 .rw[<-h2,UB,Array.any_eq_true',Vd];constructor
  .rintro⟨y,hy,hd⟩;obtain⟨j,hj,_,ej⟩:=Uj hd;exact⟨j,List.mem_range.mpr (by omega),ej⟩
  .rintro⟨j,hj,ej⟩;have hj':j<us.length:=by have:=List.mem_range.mp hj;omega
   exact⟨us[j],by simp,Ui ⟨j,hj',rfl,ej⟩⟩
end
section
variable{G:Tb}{n:Nat}{sc:Scope}{N:List Str}{df:Bool}{X:Cx}
def in_of(g:Good G n sc N df X){pins:List (Addr×Obj)}{σ:L2.St}{H:Hp}{s:Shared}{r:List Addr}{h:Hh}(I:Inv X pins σ H s)(hr:HR X.K H r h){a b:D}{x y:V}{v u:Value}{k:Bool}(v1:RV X.K H r a x)(v2:RV X.K H r b y)(rx:RelV x v)(ry:RelV y u)(e:Ev.isin a b h=some k) :
  (∀Q:Value->Shared->Prop,∀E:Value->Shared->Prop,Q (.bool k) s->wpAny (model X.prog X.w) X.A (compareOp .In v u) Q E s)/\(∀Q:Value->Shared->Prop,∀E:Value->Shared->Prop,Q (.bool (!k)) s->wpAny (model X.prog X.w) X.A (compareOp .NotIn v u) Q E s):=by
 have hu:=g.units;cases b with
 |str l=>
  cases a with
  |str c=>
   have s1:=v1.shape;have s2:=v2.shape;simp only[bU]at s1 s2;subst s1 s2;obtain⟨t,rfl⟩:=rx;obtain⟨t',rfl⟩:=ry
   match c,e with
   |[c],e=>
    cases e;have q:(!(Builtin.Str.occurrences (aA l) (aA [c]) 0 (aA l).length 1).isEmpty)=l.contains c:=by
     have:=PySem.StrLaws.found_one (aA l) c;rw[show(aA [c])=⟨#[c]⟩from rfl,this,UB];have e1:l.contains c=true↔c∈l:=by simp
     rw[e1];exact⟨λz=>by simpa[aA]using Uj z,λz=>Ui (by simpa[aA]using z)⟩
    refine⟨λQ E hq=>in_str (by rw[q];exact hq),λQ E hq=>notIn_str (by rw[q];exact hq)⟩
   |[],e=>cases e
   |_ :: _ :: _,e=>cases e
  |_=>cases e
 |tup ys=>
  obtain⟨p,vs,rfl,z,w⟩:=v2.shape;cases ry;obtain⟨us,pv,pt,_⟩:=I.tuple z;obtain⟨f,f1,f2⟩:=xS I hr hu v1 rx w pv e;refine⟨λQ E hq=>in_tupleAt f pt f1 (by rw[f2];exact hq),λQ E hq=>notIn_tupleAt f pt f1 (by rw[f2];exact hq)⟩
 |ref i=>
  simp only[Ev.isin,fX]at e;obtain⟨ds,e1,e2⟩:=e;obtain⟨p,rfl,z⟩:=v2.shape;cases ry;obtain⟨p',vs,z',q1,w⟩:=hr.read e1;rw[z]at z';cases z';obtain⟨us,pv,pl,_⟩:=I.list q1;obtain⟨f,f1,f2⟩:=xS I hr hu v1 rx w pv e2;refine⟨λQ E hq=>in_listAt f pl.isList f1 (by rw[f2];exact hq),λQ E hq=>notIn_listAt f pl.isList f1 (by rw[f2];exact hq)⟩
 |_=>cases e
def EH(g:Good G n sc N df X):cz X (compareOp .In) (fH X.K (dR .isin)):=by
 intro pins s σ H x y v u Q I rx ry q;obtain⟨r,h,a,b,d,h',hr,v1,v2,e,q⟩:=q;obtain⟨k,e1,rfl,rfl⟩:=gM e;exact(in_of g I hr v1 v2 rx ry (show Ev.isin a b h'=some k by cases a<;>cases b<;>exact e1)).1 _ _ (nP I hr q)
def Dm(g:Good G n sc N df X):cz X (compareOp .NotIn) (fH X.K (dR .cC)):=by
 intro pins s σ H x y v u Q I rx ry q;obtain⟨r,h,a,b,d,h',hr,v1,v2,e,q⟩:=q;obtain⟨k,e1,rfl,rfl⟩:=gM e;have e2:(Ev.isin a b h').map (!·)=some k:=by cases a<;>cases b<;>exact e1
 simp only[cR]at e2;obtain⟨k',e3,rfl⟩:=e2;exact(in_of g I hr v1 v2 rx ry e3).2 _ _ (nP I hr q)
def rC(a b:List Nat):aA a++aA b=aA (a++b):=by
 show Str.append (aA a) (aA b)=_;simp[Str.append,aA]
def Gu{pins:List (Addr×Obj)}{σ:L2.St}{H:Hp}{s:Shared}{Q:Value->Shared->Prop}{E:Value->Shared->Prop}(I:Inv X pins σ H s){a b:Addr}{ys:List V}(h1:dz X.K H a [])(h2:dz X.K H b ys)(q:Q (.ref b) s):wpAny (model X.prog X.w) X.A (binaryOp .Add (.ref a) (.ref b)) Q E s:=by
 obtain⟨us,p1,Ru,_⟩:=I.tuple h1;obtain⟨zs,p2,Rw,_⟩:=I.tuple h2;cases p1;obtain⟨⟨cls,dd,data,sl⟩,ho,hc,n,hd⟩:=id Ru;obtain⟨⟨Qa,dd2,data2,sl2⟩,ho2,hc2,n2,hd2⟩:=id Rw;simp only at hc hd hc2 hd2;subst hc hd hc2 hd2;exact Ww ⟨_,ho,rfl⟩ ⟨_,ho2,rfl⟩ VP Wo U7 U5 (UY _ _)
  (tuple_addW0 a b _ _ n n2 dd dd2 sl sl2 (by simp)) ⟨ho,ho2,q⟩
def J4:cz X (binaryOp .Add) (fH X.K (Ev.bG .add)):=by
 intro pins s σ H x y v u Q I rx ry q;obtain⟨r,h,a,b,d,h',hr,v1,v2,e,q⟩:=q;have s1:=v1.shape;have s2:=v2.shape;cases a with
 |int i=>cases b with
  |int j=>cases e;exact IG pins s σ H x y v u Q I rx ry ⟨i,j,s1,s2,q.here rfl hr⟩
  |_=>cases e
 |str i=>cases b with
  |str j=>
   delta Ev.bG at e;dsimp only at e
   split at e
   .rename_i hz;cases e;rw[jI]at hz;refine zh pins s σ H x y v u Q I rx ry ⟨aA i,aA j,s1,s2,by rw[bh,bh];exact hz,?_⟩;rw[rC];exact q.here ⟨rfl,by rw[HJ];exact hz⟩ hr
   .cases e
  |_=>cases e
 |tup i=>cases b with
  |tup j=>
   delta Ev.bG at e;dsimp only at e
   split at e
   .rename_i hz;cases e;rw[jI]at hz;obtain⟨pa,vs,rfl,z1,w1⟩:=s1;obtain⟨pb,ws,rfl,z2,w2⟩:=s2;have l1:=w1.length;have l2:=w2.length;cases vs with
    |nil=>
     cases rx;cases ry;refine Gu I z1 z2 ⟨.ref pb,H,I,rfl,q.here ?_ hr⟩;have:i=[]:=by cases i with|nil=>rfl|cons _ _=>simp at l1
     subst this;exact⟨pb,ws,rfl,z2,by simpa using w2⟩
    |cons v0 vs=>
     refine FJ pins s σ H _ _ v u Q I rx ry ⟨pa,pb,v0 :: vs,ws,rfl,rfl,z1,z2,by simp,by rw[l1,l2];exact hz,λhw=>?_,λhw p hp=>?_⟩
     .subst hw;have:j=[]:=by cases j with|nil=>rfl|cons _ _=>simp at l2
      subst this;exact q.here ⟨pa,v0 :: vs,rfl,z1,by simpa using w1⟩ hr
     .exact q.tup (w1.append w2) hr hp
   .cases e
  |_=>cases e
 |ref i=>cases b with
  |ref j=>
   delta Ev.bG at e;dsimp only at e
   split at e
   .rename_i ds es e1 e2;obtain⟨pa,rfl,z1⟩:=s1;obtain⟨pb,rfl,z2⟩:=s2;cases rx;cases ry;obtain⟨p1,g1,vs,g2,g3⟩:=hr.ob _ _ e1;obtain⟨p2,k1,ws,k2,k3⟩:=hr.ob _ _ e2;rw[z1]at g1;cases g1;rw[z2]at k1;cases k1;obtain⟨hz,q2⟩:=q.lst e (g3.append k3) hr;exact Ja pins s σ H (.ref pa) (.ref pb) _ _ Q I rfl rfl ⟨_,_,vs,ws,rfl,rfl,g2,k2,by rw[HJ]at hz;exact hz,q2⟩
   .cases e
  |_=>cases e
 |_=>cases b<;>cases e
def Gv:cz X (binaryOp .FloorDiv) (fH X.K (Ev.bG .fdiv)):=by
 intro pins s σ H x y v u Q I rx ry q;obtain⟨r,h,a,b,d,h',hr,v1,v2,e,q⟩:=q;cases a with
 |int i=>cases b with
  |int j=>
   delta Ev.bG at e;dsimp only at e
   split at e
   .rename_i hz;cases e;exact FA pins s σ H x y v u Q I rx ry ⟨i,j,v1,v2,hz,q.here rfl hr⟩
   .cases e
  |_=>cases e
 |_=>cases b<;>cases e
def J5:cz X (binaryOp .Mod) (fH X.K (Ev.bG .mod)):=by
 intro pins s σ H x y v u Q I rx ry q;obtain⟨r,h,a,b,d,h',hr,v1,v2,e,q⟩:=q;cases a with
 |int i=>cases b with
  |int j=>
   delta Ev.bG at e;dsimp only at e
   split at e
   .rename_i hz;cases e;exact IJ pins s σ H x y v u Q I rx ry ⟨i,j,v1,v2,hz,q.here rfl hr⟩
   .cases e
  |_=>cases e
 |_=>cases b<;>cases e
end
section
variable{X:Cx}
def J6(n:Nat)(i:Int):Ev.dH n i=L2.dH n i:=rfl
def J7{α:Type}(xs:List α)(i:Int):Ev.bC xs i=L2.bC xs i:=rfl
theorem aE.bC{K:PySem.W.Frag}{H:Hp}{r:List Addr}{ds:List D}{vs:List V}{i:Int}{d:D}(w:aE K H r ds vs)(e:Ev.bC ds i=some d):∃v,L2.bC vs i=some v/\RV K H r d v:=by
 unfold Ev.bC at e;obtain⟨j,e1,e2⟩:=Option.bind_eq_some_iff.mp e;obtain⟨v,e3,e4⟩:=w.get e2;exact⟨v,by unfold L2.bC;rw[w.length,<-J6,e1];exact e3,e4⟩
def NJ:xC X (fH X.K Jy):=by
 intro value slice pins s σ H x y v u Q I rx ry q hs;obtain⟨r,h,a,b,d,h',hr,v1,v2,e,q⟩:=q;obtain⟨e,rfl⟩:=Ev.aD e;cases b with
 |int i=>
  have s2:=v2.shape;cases a with
  |tup ds=>
   obtain⟨p,vs,rfl,z,w⟩:=v1.shape;obtain⟨v',g1,g2⟩:=w.bC e;exact IV value slice pins s σ H _ y v u Q I rx ry ⟨p,vs,i,v',rfl,s2,z,g1,q.here g2 hr⟩ hs
  |str l=>
   simp only[RV]at v1;obtain⟨rfl,hl⟩:=v1;simp only[Ev.fB,cR]at e;obtain⟨c,e1,rfl⟩:=e;exact IW value slice pins s σ H _ y v u Q I rx ry ⟨aA l,i,c,rfl,s2,by rw[bh];exact hl,by simpa[aA,J7]using e1,q.here ⟨rfl,by show 1<=sizeLine;decide⟩ hr⟩ hs
  |ref m=>
   simp only[Ev.fB,fX]at e;obtain⟨ds,e1,e2⟩:=e;obtain⟨p,rfl,z⟩:=v1.shape;obtain⟨p',vs,z',q1,w⟩:=hr.read e1;rw[z]at z';cases z';obtain⟨v',g1,g2⟩:=w.bC e2;exact FO value slice pins s σ H _ y v u Q I rx ry ⟨p,vs,i,v',rfl,s2,q1,g1,q.here g2 hr⟩ hs
  |_=>cases e
 |_=>cases a<;>cases e
theorem aE.cut{K:PySem.W.Frag}{H:Hp}{r:List Addr}{ds:List D}{vs:List V}(w:aE K H r ds vs)(lo hi:Option Int):aE K H r (Ev.cut ds lo hi) (mG vs lo hi):=by
 unfold Ev.cut mG;rw[w.length];exact(w.drop _).take _
def sV{α:Type}(xs:List α)(lo hi:Option Int)(h:Ev.aJ xs.length 0 lo=0/\Ev.aJ xs.length xs.length hi=xs.length):Ev.cut xs lo hi=xs:=by
 unfold Ev.cut;rw[h.1,h.2];simp
def Gw{α:Type}(xs:List α)(lo hi:Option Int):(Ev.cut xs lo hi).length<=xs.length:=by
 unfold Ev.cut;rw[Uc,Uq];omega
def tV{prog:Program}{w:World}{A:Around}{E:Value->Shared->Prop}{s:Shared}{t sl:Addr}{items:Array Value}{vl vu:Value}{lo hi:Option Int}{Q:Value->Shared->Prop}(ht:IsTup s.heap t items)(hs:s.heap.IsSliceOf sl vl vu .none)(pl:IsPart vl lo)(pu:IsPart vu hi)
  (hw:HT.aJ items.size 0 lo=0/\HT.aJ items.size items.size hi=items.size) (h:Q (.ref t) s):wpAny (model prog w) A (getItem (.ref t) (.ref sl)) Q E s:=by
 obtain⟨os,hos,hcs,hds⟩:=id hs;have AG:s.TypeIs (.ref sl) "slice" :=⟨os,hos,hcs⟩
 unfold getItem;try with_reducible refine UL ?_
 first|refine b8 (eS ?_)|skip
 refine b8 (VB ht.typeIs (by decide) ?_);refine b8 (U1 (name:=Str.ofString "__getitem__") ht.typeIs T5
  (VO T5 ht.typeIs Vo ?_ (Vu _ _)))
 show wpAny _ _ (Builtin.Tuple.tupleItemsOf (.ref t) >>= _) _ _ s;refine b8 (tupleItemsOf_ ht ?_);refine b8 (VJ AG ?_);rw[cG (by decide)];refine b8 (HT.jC hs pl pu ?_);have hyes:(((HT.aJ items.size 0 lo:Nat):Int)==0&&(1:Int)==1&&(HT.aJ items.size items.size hi - HT.aJ items.size 0 lo)==items.size)=true:=by
  rw[hw.1,hw.2];simp
 show wpAny _ _ (if (((HT.aJ items.size 0 lo:Nat):Int)==0&&(1:Int)==1&&(HT.aJ items.size items.size hi - HT.aJ items.size 0 lo)==items.size)=true then _ else _) _ _ s;rw[cG hyes];refine b8 (m:=Builtin.Tuple.tupleIsExact (.ref t)) (b8 (VJ ht.typeIs (eS ?_)));show wpAny _ _ (if ((Value.type "tuple" ==Value.type "tuple")=true)then _ else _) _ _ s;rw[cG (by decide)];exact b8 (wpAny_rule (b8 (eS (eS ⟨_,rfl,eS h⟩))))
def Bd(lo hi:Option Int)(n:Nat):Builtin.Str.strSliceIndices lo hi 1 n=(List.range (Ev.aJ n n hi - Ev.aJ n 0 lo)).map (λk=>Ev.aJ n 0 lo+k):=by
 have J8:∀o:Option Int,((match o with|none=>(0:Int)|some i=>max 0 (min (if i<0 then i+(n:Int)else i) (n:Int))))=((Ev.aJ n 0 o:Nat):Int):=λo=>by
  cases o with
  |none=>rfl
  |some i=>simp only[Ev.aJ];split<;>omega
 have J9:∀o:Option Int,((match o with|none=>(n:Int)|some i=>max 0 (min (if i<0 then i+(n:Int)else i) (n:Int))))=((Ev.aJ n n o:Nat):Int):=λo=>by
  cases o with
  |none=>rfl
  |some i=>simp only[Ev.aJ];split<;>omega
 have e:Builtin.Str.strSliceIndices lo hi 1 n=sliceRange (match lo with|none=>(0:Int)|some i=>max 0 (min (if i<0 then i+(n:Int)else i) (n:Int))) (match hi with|none=>(n:Int)|some i=>max 0 (min (if i<0 then i+(n:Int)else i) (n:Int))) 1:=by
  unfold Builtin.Str.strSliceIndices;cases lo<;>cases hi<;>simp
 rw[e,J8,J9,sliceRange_one]
def Ka(l:List Nat)(lo hi:Option Int):((Builtin.Str.strSliceIndices lo hi 1 (aA l).length).filterMap ((aA l).cps[·]?)).toArray=(Ev.cut l lo hi).toArray:=by
 rw[bh,Bd,pick_run];simp[aA,Ev.cut]
def Kc:kF X (Jl X.K):=by
 intro pins s σ H x v vl vu lo hi sl Q I rx hs pl pu q;obtain⟨r,h,a,d,h',hr,v1,e,q⟩:=q;cases a with
 |tup ds=>
  cases e;obtain⟨p,vs,rfl,z,w⟩:=v1.shape;by_cases hw:HT.aJ vs.length 0 lo=0/\HT.aJ vs.length vs.length hi=vs.length
  .cases rx;obtain⟨us,pv,pt,hz⟩:=I.tuple z;have hl:=pv.length;have Rx:Ev.aJ ds.length 0 lo=0/\Ev.aJ ds.length ds.length hi=ds.length:=by rw[<-w.length];exact hw
   refine⟨"tuple",_,PyProof.Rows.slot_tuple_getitem.lookup,pt.typeIs,?_⟩;refine tV pt hs pl pu (by rw[lI,<-hl];exact hw) ⟨.ref p,H,I,rfl,q.here ?_ hr⟩;rw[sV ds lo hi Rx];exact⟨p,vs,rfl,z,w⟩
  .exact IU pins s σ H _ v vl vu lo hi sl Q I rx hs pl pu ⟨p,vs,rfl,z,hw,λp' hp=>q.tup (w.cut lo hi) hr hp⟩
 |str l=>
  simp only[RV]at v1;obtain⟨rfl,hl⟩:=v1;obtain⟨t,rfl⟩:=rx;cases e;refine⟨"str",_,PySem.F.slot_str_getitem.lookup,Vg s _ t,?_⟩;have part:∀{v:Value} {o:Option Int},IsPart v o->∃p:Option (Int×Tok),v=partValue p/\p.map (·.1)=o:=λ{v o} hp=>by
   cases hp with
   |none=>exact⟨none,rfl,rfl⟩
   |int i t=>exact⟨some (i,t),rfl,rfl⟩
  obtain⟨l1,e1,e2⟩:=part pl;obtain⟨u1,e3,e4⟩:=part pu;subst e1 e3;obtain⟨os,hos,hcs,hds⟩:=hs;refine wpAny_getItem_str_slice (l:=l1) (u:=u1) (st:=none) ⟨os,hos,hcs,hds⟩ rfl ?_;have EI:((slicePicked (aA l) l1 u1 none).filterMap ((aA l).cps[·]?)).toArray=(Ev.cut l lo hi).toArray:=by
   show((Builtin.Str.strSliceIndices (l1.map (·.1)) (u1.map (·.1)) 1 (aA l).length).filterMap ((aA l).cps[·]?)).toArray=_;rw[e2,e4];exact Ka l lo hi
  have hcl:=Gw l lo hi;unfold sliceMade;refine post_val_or_made (λ_=>?_) λt' k=>?_
  .rw[EI];show(Ev.cut l lo hi).toArray.size<=sizeLine;simp only[lI];omega
  .have hres:(if (((none:Option (Int×Tok)).map (·.1)).getD 1==1&&(slicePicked (aA l) l1 u1 none).length==(aA l).length)=true then aA l else (⟨((slicePicked (aA l) l1 u1 none).filterMap ((aA l).cps[·]?)).toArray⟩:Str))=aA (Ev.cut l lo hi):=by
    split
    .rename_i hc;rw[fW]at hc;have hlen:(slicePicked (aA l) l1 u1 none).length=(aA l).length:=eq_of_beq hc.2;have hlen2:(slicePicked (aA l) l1 u1 none).length=Ev.aJ l.length l.length hi - Ev.aJ l.length 0 lo:=by
      show(Builtin.Str.strSliceIndices (l1.map (·.1)) (u1.map (·.1)) 1 (aA l).length).length=_;rw[e2,e4,Bd,bh];simp
     rw[bh]at hlen;have hb:Ev.aJ l.length l.length hi<=l.length:=HT.uD _ _ (qT _) hi;have ha:Ev.aJ l.length 0 lo<=l.length:=HT.uD _ _ (UE _) lo;rw[sV l lo hi ⟨by omega,by omega⟩]
    .rw[EI];rfl
   rw[hres];exact⟨.str (aA (Ev.cut l lo hi)),H,I.tok _,⟨_,rfl⟩,q.here ⟨rfl,by omega⟩ hr⟩
 |ref m=>
  simp only[Ev.eH]at e;split at e
  .rename_i ds e1;obtain⟨p,rfl,z⟩:=v1.shape;obtain⟨p',vs,z',q1,w⟩:=hr.read e1;rw[z]at z';cases z';obtain⟨hz,q2⟩:=q.lst e (w.cut lo hi) hr;exact FP pins s σ H _ v vl vu lo hi sl Q I rx hs pl pu ⟨p,vs,rfl,q1,q2⟩
  .cases e
 |_=>cases e
theorem u9:∀(k:Nat) (l:List Nat) (acc:List Nat),(List.replicate k l.toArray).foldl (·++·) acc.toArray=(acc++Ev.rep k l).toArray
 |0,l,acc=>by simp[Ev.rep]
 |k+1,l,acc=>by
  rw[Q5,V2];have:acc.toArray++l.toArray=(acc++l).toArray:=by simp
  rw[this,u9 k l (acc++l)];simp[Ev.rep,Q5]
def nQ{α:Type}(k:Nat)(l:List α):(Ev.rep k l).length=k*l.length:=by
 unfold Ev.rep;exact len_rep l k
def Gx{l:List Nat}{k:Int}(h:0<=k):Txt.mul (aA l) k=aA (Ev.rep k.toNat l):=by
 unfold Txt.mul;by_cases h1:k<1
 .have:k=0:=by omega
  subst this;rw[cG (by decide)];rfl
 .rw[Cd h1];split
  .rename_i hc;rw[Ub]at hc;rcases hc with hc|hc
   .have:k=1:=by simpa using hc
    subst this;simp[Ev.rep]
   .rw[bh]at hc;have:l=[]:=by cases l with|nil=>rfl|cons _ _=>simp at hc
    subst this;simp[Ev.rep,aA]
  .show(⟨(List.replicate k.toNat (aA l).cps).foldl (·++·) #[]⟩:Str)=_;have:=u9 k.toNat l [];simp only[UQ]at this;exact Pc Str.mk this
def jW{a b:Nat}(h1:a<=1000)(h2:b<=1000):a*b<=sizeLine:=HK (Nat.mul_le_mul h1 h2) (by decide)
def Gy{pins:List (Addr×Obj)}{σ:L2.St}{H:Hp}{s:Shared}{Q:VK}(I:Inv X pins σ H s){l:List Nat}{k:Int}{t u:Tok}(hk:0<=k/\k<=1000/\l.length<=1000)(q:Q (.str (aA (Ev.rep k.toNat l))) H) :
  wpAny (model X.prog X.w) X.A (binaryOp .Mult (.str (aA l) t) (.int k u)) (EP X pins σ Q) X.xe s:=by
 have hok:MulOk (aA l) k:=mulOk_of 1000 1000 (by rw[bh];exact hk.2.2) (by exact hk.2.1) (by omega) (by decide) (by decide);refine SB.mul hok λt' k'=>?_;rw[Gx hk.1];exact⟨.str _,H,I.tok _,⟨_,rfl⟩,q⟩
def pI:fillsNumberSlot (.type "tuple") "mul" = pure false:=
 PySem.fillsNumberSlot_seq (id:="tuple.__mul__") (r:=some (.builtin "tuple.__rmul__")) PySem.F.slot_tuple_mul.lookup (by decide +kernel) PySem.F.slot_tuple_rmul.lookup (by decide +kernel)
def vc:seqRepeat? (.type "tuple")=pure (some (.builtin "tuple.__mul__")):=by
 unfold seqRepeat?;rw[WN (T:="tuple") (name:="__mul__") (id:="tuple.__mul__") PySem.F.slot_tuple_mul.lookup (by decide +kernel),WN (T:="tuple") (name:="__rmul__") (id:="tuple.__rmul__") PySem.F.slot_tuple_rmul.lookup (by decide +kernel)];rfl
def zE(a:Int)(t:Tok)(l:Addr)(items:Array Value)(n:Nat)(dd:Option Addr)(sl:Array (Option Value)) :
  Meets (Builtin.«int.__rmul__» ⟨[.int a t,.ref l],[]⟩) (λ_ R s=>s.heap.get? l=some { cls:=.type "tuple",dict:=dd,data:=.seq items n,slots:=sl }/\R (.ok (.ret Value.notImplemented)) s):=
 .of_wp λprog w A R s h=>by obtain⟨hp,g,d,tk,os⟩:=s;obtain⟨hl,h⟩:=h;wp_walk;exact⟨_,rfl,h⟩
def zF(l:Addr)(items:Array Value)(n:Nat)(dd:Option Addr)(sl:Array (Option Value))(k:Int)(u:Tok)(h1:¬ (decide (k < -2 ^ 63) ||decide (k≥2 ^ 63))=true)(h3:(items.isEmpty ||k==1)=true) :
  Meets (Builtin.«tuple.__mul__» ⟨[.ref l,.int k u],[]⟩) (λ_ R s=>s.heap.get? l=some { cls:=.type "tuple",dict:=dd,data:=.seq items n,slots:=sl }/\R (.ok (.ret (.ref l))) s):=
 .of_wp λprog w A R s h=>by obtain⟨hp,g,d,tk,os⟩:=s;obtain⟨hl,h⟩:=h;have f1:=VS;wp_walk using Ua hl;rw[Cd h1];wp_walk using Ua hl;exact⟨_,rfl,h⟩
def zG(l:Addr)(items:Array Value)(n:Nat)(dd:Option Addr)(sl:Array (Option Value))(k:Int)(u:Tok)(h1:¬ (decide (k < -2 ^ 63) ||decide (k≥2 ^ 63))=true)(h3:¬ (items.isEmpty ||k==1)=true)(h4:(decide (k<=0) ||items.isEmpty)=true) :
  Meets (Builtin.«tuple.__mul__» ⟨[.ref l,.int k u],[]⟩) (λ_ R s=>s.heap.get? l=some { cls:=.type "tuple",dict:=dd,data:=.seq items n,slots:=sl }/\R (.ok (.ret (Value.ref s.heap.objs.size))) { s with heap:=s.heap.push { cls:=Value.type "tuple",data:=Data.seq #[]},toks:=s.toks }):=
 .of_wp λprog w A R s h=>by obtain⟨hp,g,d,tk,os⟩:=s;obtain⟨hl,h⟩:=h;have f1:=VS;wp_walk using Ua hl;rw[Cd h1];wp_walk using Ua hl;exact⟨_,rfl,h⟩
def zH(l:Addr)(items:Array Value)(n:Nat)(dd:Option Addr)(sl:Array (Option Value))(k:Int)(u:Tok)(h1:¬ (decide (k < -2 ^ 63) ||decide (k≥2 ^ 63))=true)(h3:¬ (items.isEmpty ||k==1)=true)(h4:¬ (decide (k<=0) ||items.isEmpty)=true)
  (h5:¬ (items.size*k > (2 ^ 63 - 1) / 8)) (h6:¬ Builtin.Tuple.tupleTooMany (items.size*k)=true) (hsz:(List.foldl (λx1 x2=>x1++x2) #[] (List.replicate k.toNat items)).size<=sizeLine) :
  Meets (Builtin.«tuple.__mul__» ⟨[.ref l,.int k u],[]⟩) (λ_ R s=>s.heap.get? l=some { cls:=.type "tuple",dict:=dd,data:=.seq items n,slots:=sl }/\R (.ok (.ret (Value.ref s.heap.objs.size))) { s with heap:=s.heap.push { cls:=Value.type "tuple",data:=Data.seq (List.foldl (λx1 x2=>x1++x2) #[] (List.replicate k.toNat items))},toks:=s.toks }):=
 .of_wp λprog w A R s h=>by obtain⟨hp,g,d,tk,os⟩:=s;obtain⟨hl,h⟩:=h;have f1:=VS;wp_walk using Ua hl;rw[Cd h1];wp_walk using Ua hl;rw[Cd h5];wp_walk using Ua hl;exact⟨_,rfl,h⟩
theorem sW:∀(k:Nat) (l acc:List Value),(List.replicate k l.toArray).foldl (·++·) acc.toArray=(acc++Ev.rep k l).toArray
 |0,l,acc=>by simp[Ev.rep]
 |k+1,l,acc=>by
  rw[Q5,V2];have:acc.toArray++l.toArray=(acc++l).toArray:=by simp
  rw[this,sW k l (acc++l)];simp[Ev.rep,Q5]
def Gz{pins:List (Addr×Obj)}{σ:L2.St}{H:Hp}{s:Shared}{Q:VK}(I:Inv X pins σ H s){p:Addr}{vs:List V}{k:Int}{u:Tok}(hk:0<=k/\k<=1000/\vs.length<=1000)(hp:dz X.K H p vs)
  (q1:Ev.rep k.toNat vs=vs->Q (.ref p) H) (q2:∀p',H p'=none->Q (.ref p') (upd H p' (.tup (Ev.rep k.toNat vs)))) :
  wpAny (model X.prog X.w) X.A (binaryOp .Mult (.ref p) (.int k u)) (EP X pins σ Q) X.xe s:=by
 obtain⟨us,pv,pt,hz⟩:=I.tuple hp;obtain⟨⟨cls,dd,data,sl⟩,ho,hc,n,hd⟩:=id pt;simp only at hc hd;subst hc hd;have hl:=pv.length;have h1:¬ (decide (k < -2 ^ 63) ||decide (k≥2 ^ 63))=true:=by simp;omega
 refine VH (T:="tuple") (U:="int") (by decide) ⟨_,ho,rfl⟩ (λs'=>VF s' k u) pI PySem.F.fills_int_mul Wd vc PySem.F.slot_int_index.lookup
  (Ur Wd (VF s k u) PySem.F.entry_int_rmul (PySem.F.args_int_rmul_2 _ _) (zE k u p us.toArray n dd sl) ⟨ho,rfl,⟨_,ho,rfl⟩,?_⟩)
 have hrep:∀m:Nat,(Ev.rep m us).length=m*us.length:=λm=>nQ m us;by_cases h3:(us.toArray.isEmpty ||k==1)=true
 .refine Ur U6 ⟨_,ho,rfl⟩ U4 (UX _ _) (zF p us.toArray n dd sl k u h1 h3) ⟨ho,?_⟩;refine⟨.ref p,H,I,rfl,q1 ?_⟩;rw[Ub]at h3;rcases h3 with h3|h3
  .have:us=[]:=by simpa using h3
   subst this;cases pv;simp[Ev.rep]
  .have:k=1:=by simpa using h3
   subst this;simp[Ev.rep]
 .have laid:∀m:Nat,m=k.toNat->EP X pins σ Q (.ref s.heap.objs.size) { s with heap:=s.heap.push { cls:=.type "tuple",data:=.seq (Ev.rep m us).toArray }}:=λm hm=>by
   subst hm;refine⟨.ref s.heap.objs.size,_,I.laid (t':=s.toks) (o:=.tup (Ev.rep k.toNat vs)) (λb ob q=>iR _ q) (qT _) ?_,rfl,q2 _ (I.hok.fresh (qT _))⟩;exact⟨by rw[nQ];exact jW (by omega) hk.2.2,_,pv.rep k.toNat,IsTup.new _ _⟩
  by_cases h4:(decide (k<=0) ||us.toArray.isEmpty)=true
  .refine Ur U6 ⟨_,ho,rfl⟩ U4 (UX _ _) (zG p us.toArray n dd sl k u h1 h3 h4) ⟨ho,?_⟩;have hk0:k=0:=by
    rw[Ub]at h4 h3;rcases h4 with h4|h4
    .have:k<=0:=Uj h4;omega
    .exact absurd (.inl h4) h3
   have:=laid 0 (by rw[hk0];rfl);exact this
  .have hm:us.toArray.size*k.toNat<=1000000:=by
    rw[lI];exact Nat.mul_le_mul (by omega:us.length<=1000) (by omega:k.toNat<=1000)
   have hm':(us.toArray.size:Int)*k<=1000000:=by
    have e:(us.toArray.size:Int)*k=((us.toArray.size*k.toNat:Nat):Int):=by
     rw[Int.natCast_mul,Int.toNat_of_nonneg hk.1]
    rw[e];omega
   have hf:List.foldl (λx1 x2=>x1++x2) #[] (List.replicate k.toNat us.toArray)=(Ev.rep k.toNat us).toArray:=by
    have:=sW k.toNat us [];simpa using this
   refine Ur U6 ⟨_,ho,rfl⟩ U4 (UX _ _) (zH p us.toArray n dd sl k u h1 h3 h4 (by omega) ?_ ?_) ⟨ho,?_⟩
   .unfold Builtin.Tuple.tupleTooMany;simp only[SD];have:(sizeLine:Int)=16777216:=by rw[UD];rfl
    omega
   .rw[hf];simp only[lI];rw[nQ];exact jW (by omega) (by omega)
   .rw[hf];exact laid _ rfl
def Kd:cz X (binaryOp .Mult) (fH X.K (Ev.bG .mul)):=by
 intro pins s σ H x y v u Q I rx ry q;obtain⟨r,h,a,b,d,h',hr,v1,v2,e,q⟩:=q;cases b with
 |int k=>
  have s2:=v2.shape;simp only[bU]at s2;subst s2;cases a with
  |int i=>
   delta Ev.bG at e;dsimp only at e
   split at e
   .rename_i hz;cases e;refine II pins s σ H x _ v u Q I rx ry ⟨i,k,v1,rfl,?_,q.here rfl hr⟩;unfold Ev.bS at hz;simp only[Ub,fW,SD]at hz;exact hz
   .cases e
  |str l=>
   delta Ev.bG at e;dsimp only at e
   split at e
   .rename_i hz;cases e;simp only[RV]at v1;obtain⟨rfl,hl⟩:=v1;obtain⟨t,rfl⟩:=rx;obtain⟨t',rfl⟩:=ry;exact Gy I hz (q.here ⟨rfl,by rw[nQ];exact jW (by omega) hz.2.2⟩ hr)
   .cases e
  |tup ds=>
   delta Ev.bG at e;dsimp only at e
   split at e
   .rename_i hz;cases e;obtain⟨p,vs,rfl,z,w⟩:=v1.shape;cases rx;obtain⟨t',rfl⟩:=ry;refine Gz I ⟨hz.1,hz.2.1,by rw[w.length];exact hz.2.2⟩ z (λRy=>q.here ⟨p,vs,rfl,z,?_⟩ hr) λp' hp=>q.tup (w.rep k.toNat) hr hp;have:=w.rep k.toNat;rw[Ry]at this;exact this
   .cases e
  |ref i=>
   delta Ev.bG at e;dsimp only at e
   split at e
   .rename_i ds e1;split at e
    .rename_i hz;obtain⟨p,rfl,z⟩:=v1.shape;obtain⟨p',g1,vs,g2,g3⟩:=hr.ob _ _ e1;rw[z]at g1;cases g1;obtain⟨hz2,q2⟩:=q.lst e (g3.rep k.toNat) hr;exact Jb pins s σ H (.ref p) _ v u Q I rx ry ⟨p,k,vs,rfl,rfl,g2,by omega,by omega,jW (by rw[g3.length];exact hz.2.2) (by omega),q2⟩
    .cases e
   .cases e
  |_=>cases e
 |_=>cases a<;>cases e
end
section
variable{X:Cx}
theorem vd{K:PySem.W.Frag}{H:Hp}{r:List Addr}:∀{ds:List D}{bs:List Bool}{vs:List V}{us:List Value},Ev.boolsOf ds=some bs->aE K H r ds vs->Vals vs us->us=bs.map Value.bool
 |[],bs,vs,us,e,w,p=>by
  cases e;simp only[aE]at w;subst w;cases p;rfl
 |d :: ds,bs,vs,us,e,w,p=>by
  cases d with
  |bl b=>
   simp only[Ev.boolsOf,cR]at e;obtain⟨bs',e1,rfl⟩:=e;simp only[aE,RV]at w;obtain⟨v,w',rfl,rfl,w2⟩:=w;cases p with
   |cons p1 p2=>
    cases p1;rw[vd e1 w2 p2];rfl
  |_=>cases e
theorem xT{K:PySem.W.Frag}{H:Hp}{r:List Addr}:∀{ds:List D}{ss:List (List Nat)}{vs:List V}{us:List Value},Ev.strsOf ds=some ss->aE K H r ds vs->Vals vs us->StrsAre us (ss.map aA)/\∀l∈ss,l.length<=sizeLine
 |[],bs,vs,us,e,w,p=>by
  cases e;simp only[aE]at w;subst w;cases p;exact⟨.nil,λl h=>nomatch h⟩
 |d :: ds,bs,vs,us,e,w,p=>by
  cases d with
  |str b=>
   simp only[Ev.strsOf,cR]at e;obtain⟨bs',e1,rfl⟩:=e;simp only[aE,RV]at w;obtain⟨v,w',rfl,⟨rfl,hb⟩,w2⟩:=w;cases p with
   |cons p1 p2=>
    obtain⟨t,rfl⟩:=p1;obtain⟨g1,g2⟩:=xT e1 w2 p2;refine⟨.cons _ _ g1,λl hl=>?_⟩;rcases List.mem_cons.mp hl with z|z
    .subst z;exact hb
    .exact g2 l z
  |_=>cases e
def sX{A:Around}{pins:List (Addr×Obj)}{σ:L2.St}{H:Hp}{s:Shared}(I:Inv X pins σ H s){p:Addr}{us:List Value}(pl:PlainL s.heap p us.toArray){Q:Value->Shared->Prop}{E:Value->Shared->Prop}
  (h:∀s₂:Shared,s₂={ s with heap:=s.heap.push { cls:=.type "list_iterator",data:=.fields #[.ref p,.int 0 0]}}->(s₂.heap.IsListIter s.heap.objs.size p 0/\s₂.heap.IsList p us.toArray)->p≠s.heap.objs.size->(∀b∈[s.heap.objs.size,p],b<s₂.heap.objs.size)->Q (.ref s.heap.objs.size) s₂) :
  wpAny (model X.prog X.w) A (pyIter (.ref p)) Q E s:=by
 have hlt:p<s.heap.objs.size:=by obtain⟨_,e,_⟩:=pl.isList;exact rT e
 refine wpAny_pyIter_list pl.isList (h _ rfl ⟨⟨_,QS _ rfl,rfl,rfl⟩,pl.isList.push _⟩ (QT hlt) λb hb=>?_);show b<(s.heap.push _).objs.size;rw[Wa];rcases List.mem_cons.mp hb with z|z
 .rw[z];exact Vb _
 .rw[List.mem_singleton.mp z];exact Nat.lt_succ_of_lt hlt
def all_range{bs:List Bool}:(List.range bs.length).all (λi=>bs[i]?.getD true)=bs.all id:=by
 rw[UB,Uw,Uw];constructor
 .intro h b hb;obtain⟨i,hi,rfl⟩:=Vq hb;simpa[hi]using h i (List.mem_range.mpr hi)
 .intro h i hi;have hi':=List.mem_range.mp hi;simpa[hi']using h bs[i] (by simp)
def any_range{bs:List Bool}:(List.range bs.length).any (λi=>bs[i]?.getD true)=bs.any id:=by
 rw[UB,Vd,Vd];constructor
 .rintro⟨i,hi,h⟩;have hi':=List.mem_range.mp hi;exact⟨bs[i],by simp,by simpa[hi']using h⟩
 .rintro⟨b,hb,h⟩;obtain⟨i,hi,rfl⟩:=Vq hb;exact⟨i,List.mem_range.mpr hi,by simpa[hi]using h⟩
def sY {s s₂:Shared}{I p:Addr}{h':Heap}(e:s₂.heap=s.heap.push { cls:=.type "list_iterator",data:=.fields #[.ref p,.int 0 0]}) (hI:I=s.heap.objs.size) (hk:∀b o,b∉[I]->s₂.heap.get? b=some o->h'.get? b=some o) :
  ∀b o,s.heap.get? b=some o->h'.get? b=some o:=λb o q=>hk b o (by simp;rw[hI];exact QT (rT q)) (by rw[e];exact iR _ q)
variable{G:Tb}{n:Nat}{sc:Scope}{N:List Str}{df:Bool}
def Dn(g:Good G n sc N df X){pins:List (Addr×Obj)}{σ:L2.St}{H:Hp}{s:Shared}(I:Inv X pins σ H s){p:Addr}{bs:List Bool}(pl:PlainL s.heap p (bs.map Value.bool).toArray){Q:VK} :
  (Q (.bl (bs.all id)) H->wpAny (model X.prog X.w) X.A (call (.builtin "all") [.ref p]) (EP X pins σ Q) X.xe s)/\(Q (.bl (bs.any id)) H->wpAny (model X.prog X.w) X.A (call (.builtin "any") [.ref p]) (EP X pins σ Q) X.xe s):=by
 have hh:=I.ok.hd g.calm;have tr:TruthOf X.prog X.w X.A.in1 (λi v=>(bs.map Value.bool).toArray[i]?=some v) (λi=>bs[i]?.getD true):=λi v s' Q' E' hP hQ=>by
  simp only[List.getElem?_toArray,SE,cR]at hP;obtain⟨b,hb,rfl⟩:=hP;have OS:Q' (bs[i]?.getD true) s':=hQ;rw[hb]at OS;exact Ue OS
 have hsz:(bs.map Value.bool).toArray.size=bs.length:=by simp
 constructor
 .intro q;refine call_all_walk (sX I pl λs₂ e st hne hfp=>?_);subst e;refine⟨_,_,_,_,_,_,_,rfl,Walks.list (A:=X.A.in1) hh _ p hne (bs.map Value.bool).toArray,st,tr,λh' tk hk=>?_⟩;rw[hsz,all_range];exact⟨.bl _,H,I.kept (sY rfl rfl hk),rfl,q⟩
 .intro q;refine call_any_walk (sX I pl λs₂ e st hne hfp=>?_);subst e;refine⟨_,_,_,_,_,_,_,rfl,Walks.list (A:=X.A.in1) hh _ p hne (bs.map Value.bool).toArray,st,tr,λh' tk hk=>?_⟩;rw[hsz,any_range];exact⟨.bl _,H,I.kept (sY rfl rfl hk),rfl,q⟩
def Ke (g:Good G n sc N df X):eY X (.builtin "all") (qm X.K (Ev.cU .all)):=by
 intro pins s σ H xs us Q I r q;obtain⟨rr,h,as,d,h',hr,v1,e,q⟩:=q
 match as,e with
 |[.ref m],e=>
  obtain⟨e,rfl⟩:=Ev.aD e;simp only[cR,fX]at e;obtain⟨bs,⟨ds,e1,e2⟩,rfl⟩:=e;simp only[aE,RV]at v1;obtain⟨v,w,rfl,⟨p,rfl,z⟩,rfl⟩:=v1;obtain⟨u,rfl,ru⟩:=Vs r;cases ru;obtain⟨p',vs,z',q1,w⟩:=hr.read e1;rw[z]at z';cases z';obtain⟨zs,pv,pl,_⟩:=I.list q1;have:=vd e2 w pv;subst this;exact(Dn g I pl).1 (q.here rfl hr)
def Kf:eY X (.builtin "len") (qm X.K (Ev.cU .len)):=by
 intro pins s σ H xs us Q I r q;obtain⟨rr,h,as,d,h',hr,v1,e,q⟩:=q
 match as,e with
 |[.str l],e=>
  delta Ev.cU at e;dsimp only at e
  split at e
  .cases e;simp only[aE,RV]at v1;obtain⟨v,w,rfl,⟨rfl,hl⟩,rfl⟩:=v1;refine uF pins s σ H _ us Q I r ⟨_,rfl,by rw[bh];exact hl,?_⟩;rw[bh];exact q.here rfl hr
  .cases e
 |[.tup ds],e=>
  cases e;simp only[aE,RV]at v1;obtain⟨v,w,rfl,⟨p,vs,rfl,z,w'⟩,rfl⟩:=v1;refine mH pins s σ H _ us Q I r ⟨p,vs,rfl,.inr z,?_⟩;rw[w'.length];exact q.here rfl hr
 |[.ref m],e=>
  obtain⟨e,rfl⟩:=Ev.aD e;simp only[cR]at e;obtain⟨ds,e1,rfl⟩:=e;simp only[aE,RV]at v1;obtain⟨v,w,rfl,⟨p,rfl,z⟩,rfl⟩:=v1;obtain⟨p',vs,z',q1,w⟩:=hr.read e1;rw[z]at z';cases z';refine mH pins s σ H _ us Q I r ⟨p,vs,rfl,.inl q1,?_⟩;rw[w.length];exact q.here rfl hr
def GA:eY X (.type "int") (qm X.K (Ev.cU .kY)):=by
 intro pins s σ H xs us Q I r q;obtain⟨rr,h,as,d,h',hr,v1,e,q⟩:=q
 match as,e with
 |[.bl b],e=>
  cases e;simp only[aE,RV]at v1;obtain⟨v,w,rfl,rfl,rfl⟩:=v1;obtain⟨u,rfl,r1⟩:=Vs r;cases (show u=Value.bool b from r1);exact call_int_bool ⟨.int (if b then 1 else 0),H,I.tok _,⟨_,rfl⟩,q.here rfl hr⟩
def Be:sC X "list.append" (uK X.K (Ev.dZ .append)):=by
 intro pins s σ H x xs v us Q I rx rs q;obtain⟨r,h,a,as,d,h',hr,v1,v2,e,q⟩:=q;cases a with
 |ref m=>
  match as,e with
  |[b],e=>
   delta Ev.dZ at e;dsimp only at e
   split at e
   .rename_i ds e1;split at e
    .rename_i hz;cases e;rw[jI]at hz;obtain⟨p,rfl,z⟩:=v1.shape;simp only[aE]at v2;obtain⟨y,w,rfl,v3,rfl⟩:=v2;obtain⟨p',g1,vs,g2,g3⟩:=hr.ob _ _ e1;rw[z]at g1;cases g1;refine mJ pins s σ H _ _ v us Q I rx rs ⟨p,vs,y,rfl,rfl,g2,by rw[g3.length];exact hz,?_⟩;have f:=Fm.write (K:=X.K) (ws:=vs++[y]) g2 (Q6 z);exact q _ _ r rfl (hr.write e1 z g2 (g3.append (.cons v3 .nil))) f
    .cases e
   .cases e
  |[],e=>cases e
  |_ :: _ :: _,e=>cases e
 |_=>cases e
def Kg:sC X "list.pop" (uK X.K (Ev.dZ .pop)):=by
 intro pins s σ H x xs v us Q I rx rs q;obtain⟨r,h,a,as,d,h',hr,v1,v2,e,q⟩:=q;cases a with
 |ref m=>
  match as,e with
  |[],e=>
   delta Ev.dZ at e;dsimp only at e
   split at e
   .rename_i ds e1;split at e
    .rename_i y e2;cases e;obtain⟨p,rfl,z⟩:=v1.shape;simp only[aE]at v2;subst v2;obtain⟨p',g1,vs,g2,g3⟩:=hr.ob _ _ e1;rw[z]at g1;cases g1;obtain⟨vy,g4,g5⟩:=g3.get e2;refine I0 pins s σ H _ _ v us Q I rx rs ⟨p,vs,vy,rfl,rfl,g2,by rw[g3.length];exact g4,?_⟩;have f:=Fm.write (K:=X.K) (ws:=vs.dropLast) g2 (Q6 z);have hd:aE X.K H r ds.dropLast vs.dropLast:=by
      rw[UH,UH,g3.length];exact g3.take _
     exact q _ _ r (g5.mono f) (hr.write e1 z g2 hd) f
    .cases e
   .cases e
  |_ :: _,e=>cases e
 |_=>cases e
theorem pJ(sep:List Nat):∀ss:List (List Nat),Str.join (aA sep) (ss.map aA)=aA (Ev.aM sep ss)
 |[]=>rfl
 |[s]=>rfl
 |s :: t :: r=>by
  have ih:=pJ sep (t :: r);show aA s++aA sep++Str.join (aA sep) ((t :: r).map aA)=_;rw[ih,rC,rC];rfl
def join_eq(sep:List Nat)(ss:List (List Nat)):Txt.join (aA sep) (ss.map aA)=aA (Ev.aM sep ss):=by
 rw[<-pJ];exact PySem.StrLaws.glued_eq_join _ _
def GB:sC X "str.join" (uK X.K (Ev.dZ .join)):=by
 intro pins s σ H x xs v us Q I rx rs q;obtain⟨r,h,a,as,d,h',hr,v1,v2,e,q⟩:=q;cases a with
 |str sep=>
  match as,e with
  |[.ref k],e=>
   delta Ev.dZ at e;dsimp only at e
   split at e
   .rename_i ss e1;split at e
    .rename_i hz;cases e;simp only[fX]at e1;obtain⟨ds,e1,e2⟩:=e1;simp only[RV]at v1;obtain⟨rfl,hl⟩:=v1;obtain⟨t,rfl⟩:=rx;simp only[aE,RV]at v2;obtain⟨y,w,rfl,⟨p2,rfl,z2⟩,rfl⟩:=v2;obtain⟨u,rfl,ru⟩:=Vs rs;cases ru;obtain⟨p',vs,z',q1,w⟩:=hr.read e1;rw[z2]at z';cases z';obtain⟨zs,pv,pl,_⟩:=I.list q1;obtain⟨g1,g2⟩:=xT e2 w pv;have hlen:((ss.map aA).map (·.length)).sum+(ss.map aA).length*(aA sep).length<=16777216:=by
      rw[Vi,L7,bh];have:(λx:Str=>x.length) ∘ aA=λl:List Nat=>l.length:=funext λl=>bh l;rw[this];exact hz
     refine join_list pl.isList g1 hlen λt' k'=>?_;rw[join_eq];refine⟨.str _,H,I.tok _,⟨_,rfl⟩,q.here ⟨rfl,?_⟩ hr⟩;have hj:=PySem.StrLaws.join_length_le (aA sep) (ss.map aA);rw[pJ,bh]at hj;have:sizeLine=16777216:=UD;omega
    .cases e
   .cases e
 |_=>cases e
end
section
variable{X:Cx}{G:Tb}{n:Nat}{sc:Scope}{N:List Str}{df:Bool}{m:List Nat}{a b:E}{xa:Expr}{pos:Pos}
noncomputable def oN:TY->String
 |.int=>"int" |.bool=>"bool" |.str=>"str" |.tuple=>"tuple" |.list=>"list"
def Qq (K:PySem.W.Frag) (t:TY):PySem.W.kitOne K (.type "NoneType") (.type (oN t))=some false/\PySem.W.kitOne K (.type "bool") (.type (oN t))=some (Ev.cL [] (.bl true) t)/\PySem.W.kitOne K (.type "int") (.type (oN t))=some (Ev.cL [] (.int 0) t)/\
  PySem.W.kitOne K (.type "str") (.type (oN t))=some (Ev.cL [] (.str []) t)/\PySem.W.kitOne K (.type "tuple") (.type (oN t))=some (Ev.cL [] (.tup []) t)/\PySem.W.kitOne K (.type "list") (.type (oN t))=some (match t with|.list=>true|_=>false):=by
 cases t<;>refine⟨?_,?_,?_,?_,?_,?_⟩<;>kernel_rfl
def LD(h:Hh)(i:Nat):Prop:=(Ev.aP h i).isSome=true
 \/False
def GC{pins:List (Addr×Obj)}{σ:L2.St}{H:Hp}{s:Shared}{r:List Addr}{h:Hh}(I:Inv X pins σ H s)(hr:HR X.K H r h){d:D}{x:V}{u:Value}(v1:RV X.K H r d x)(rx:RelV x u)(hd:∀i,d=.ref i->LD h i)(t:TY){Q:Value->Shared->Prop}{E:Value->Shared->Prop}(q:∀tk,Q (.bool (Ev.cL h d t)) { s with toks:=tk }) :
  wpAny (model X.prog X.w) X.A (call (.builtin "isinstance") [u,.type (oN t)]) Q E s:=by
 obtain⟨k0,k1,k2,k3,k4,k5⟩:=Qq X.K t;have s1:=v1.shape;cases d with
 |aO=>simp only[bU]at s1;subst s1;exact jS I rx .aO k0 (by simpa[Ev.cL]using q)
 |bl b=>simp only[bU]at s1;subst s1;exact jS I rx (.bl _) k1 (by cases t<;>simpa[Ev.cL]using q)
 |int b=>simp only[bU]at s1;subst s1;exact jS I rx (.int _) k2 (by cases t<;>simpa[Ev.cL]using q)
 |str b=>simp only[bU]at s1;subst s1;exact jS I rx (.str _) k3 (by cases t<;>simpa[Ev.cL]using q)
 |tup ds=>
  obtain⟨p,vs,rfl,z,w⟩:=s1;cases rx;obtain⟨us,_,pt,_⟩:=I.tuple z;obtain⟨o,h1,h2,_⟩:=pt;exact Sb Wz I.dY ⟨o,h1,h2⟩ k4 (λz=>nomatch z) (by cases t<;>simpa[Ev.cL]using q)
 |ref i=>
  obtain⟨p,rfl,z⟩:=s1;cases rx;rcases hd i rfl with hd|hd
  case inr=>
   exact hd.elim
  obtain⟨ds,e1⟩:=Option.isSome_iff_exists.mp hd;obtain⟨us,pl⟩:=u7 I hr e1 z;obtain⟨o,h1,h2,_⟩:=pl.isList;exact Sb VC I.dY ⟨o,h1,h2⟩ k5 (λz=>nomatch z) (by cases t<;>simpa[Ev.cL,e1]using q)
def qw {t:TY}{T:Str}{p q:Pos}(ha:JE G n sc N df m a xa) (hT:bootBuiltins T=some (.type (oN t))) (h1:("isinstance" : Str)∈G.bl:=by decide +kernel) (h2:T∈G.bl:=by decide +kernel)
  (Bf:sc.names.lookup ("isinstance" : Str)=some .globalImplicit:=by rfl) (Rz:sc.names.lookup T=some .globalImplicit:=by rfl) (hn:T≠"__name__" :=by decide) (hd:(T==("__debug__" : Str))=false:=by decide)
  (hst:∀env:Env,starEach [xa,.Name T q] env=(false,eval xa env) :: starEach [.Name T q] env:=by intro _;rfl):JE G n sc N df m (.dM a [t]) (.Call (.Name "isinstance" p) [xa,.Name T q] [] pos):=λX g=>by
 have hty:PE X (.Name T q) (tC (.ty (oN t))):=wZ (g.gl Rz) (g.bl T h2) hT rfl hn hd;have hc:eY X (.builtin "isinstance") (λxs H Q=>∃r h d x,HR X.K H r h/\RV X.K H r d x/\xs=[x,.ty (oN t)]/\(∀i,d=.ref i->LD h i)/\Q (.bl (Ev.cL h d t)) H):=by
  intro pins s σ H xs us Q I rv q;obtain⟨r,h,d,x,hr,v1,rfl,hd,q⟩:=q;obtain⟨u,w,rfl,r1,r2⟩:=vals2 rv;cases r2;exact GC I hr v1 r1 hd t λtk=>⟨.bl _,H,I.tok _,rfl,q⟩
 refine PE.of (o9 hc (g.gl Bf) (g.bl _ h1) (by decide +kernel) (cK (ha X g) (cK hty kD) (hst _)) (by decide) (by decide) (hst _) rfl) λs H Q q=>?_;obtain⟨r,fr,h,d,h',sr,hr,e,q⟩:=q;simp only[Ev.ev]at e;obtain⟨x,h3,e1,e⟩:=Ev.ah e;cases e;refine⟨r,fr,h,x,_,sr,hr,e1,λv H1 r1 v1 hr1 f1=>?_⟩;refine⟨r1,_,x,v,hr1,v1,rfl,λi hi=>?_,?_⟩
 .subst hi;simp only[RV]at v1;obtain⟨p,_,z⟩:=v1;have hlt:i<h'.length:=by rw[<-hr1.len];exact(List.getElem?_eq_some_iff.mp z).1
  unfold LD Ev.aP;rw[tP hlt];cases h'[i]with
  |lst ds=>(try intro _);exact .inl rfl
  |bB ds=>(try intro _);exact .inl rfl
 .have:=(q.later f1).here (v:=.bl (Ev.cL h' x t)) (by simp[RV]) hr1;exact this
end
section
variable{X:Cx}{G:Tb}{n:Nat}{sc:Scope}{N:List Str}{df:Bool}{m:List Nat}{a b c:E}{xa:Expr}{pos:Pos}
def Bg(n:Nat):Builtin.Slice.sliceAdjust none none (-1) (n:Int)=((n:Int) - 1,-1):=by
 unfold Builtin.Slice.sliceAdjust;simp
def Bh(n:Nat):Builtin.Slice.slicePlaces ((n:Int) - 1) (-1) (-1)=n:=by
 unfold Builtin.Slice.slicePlaces;have h1:¬ ((-1:Int) > 0):=by omega
 simp only[h1,Uh];have h2:(- -1:Int)=1:=by omega
 rw[h2];simp only[Int.ediv_one];split<;>omega
def qx{prog:Program}{w:World}{A:Around}{E:Value->Shared->Prop}{s:Shared}{sl:Addr}{vk:Value}{n:Nat}{Q:Int×Int×Nat->Shared->Prop}(hs:s.heap.IsSliceOf sl .none .none vk)(pk:IsPart vk (some (-1)))
  (h:Q ((n:Int) - 1,-1,n) s):wpAny (model prog w) A (Builtin.Slice.sliceApplied (.ref sl) (pure (n:Int))) Q E s:=by
 obtain⟨os,hos,hcs,hds⟩:=id hs;unfold Builtin.Slice.sliceApplied Builtin.Slice.sliceFields;refine b8 (b8 (Us hos hds (x:=.none) rfl (b8 (Us hos hds (x:=.none) rfl (b8 (Us hos hds (x:=vk) rfl (eS ?_)))))));refine b8 (HT.ig pk ?_);show wpAny _ _ (if ((-1:Int)==0)=true then _ else _) _ _ s;rw[Cd (by decide)];refine b8 (HT.ig .none (b8 (HT.ig .none (b8 (eS ?_)))));show wpAny _ _ (match Builtin.Slice.sliceAdjust none none (-1) (n:Int)with | (lo,hi)=>pure (lo,(-1:Int),Builtin.Slice.slicePlaces lo hi (-1))) _ _ s;rw[Bg n];show wpAny _ _ (pure ((n:Int) - 1,(-1:Int),Builtin.Slice.slicePlaces ((n:Int) - 1) (-1) (-1))) _ _ s;rw[Bh];exact eS h
def GD(xs:Array Value):((List.range xs.size).filterMap λ(m:Nat)=>xs[((xs.size:Int) - 1+(m:Int)*(-1)).toNat]?).toArray=xs.toList.reverse.toArray:=by
 have e:(List.range xs.size).filterMap (λ(m:Nat)=>xs[((xs.size:Int) - 1+(m:Int)*(-1)).toNat]?)=((List.range xs.size).map (λk=>xs.size - 1 - k)).filterMap (xs[·]?):=by
  rw[WD];have go:∀l:List Nat,(∀k∈l,k<xs.size)->l.filterMap (λ(m:Nat)=>xs[((xs.size:Int) - 1+(m:Int)*(-1)).toNat]?)=l.filterMap ((xs[·]?) ∘ λk=>xs.size - 1 - k):=by
   intro l hl;induction l with
   |nil=>rfl
   |cons k l ih=>
    have hk:=hl k (by simp);have e2:((xs.size:Int) - 1+(k:Int)*(-1)).toNat=xs.size - 1 - k:=by omega
    rw[Om,Om,e2,ih λk' h'=>hl k' (by simp[h'])];rfl
  exact go _ λk hk=>List.mem_range.mp hk
 rw[e,PySem.W.krv_range,List.filterMap_reverse,PySem.W.krv_all]
def zI{prog:Program}{w:World}{A:Around}{E:Value->Shared->Prop}{s:Shared}{t sl:Addr}{items:Array Value}{vk:Value}{Q:Value->Shared->Prop}(ht:IsTup s.heap t items)(hs:s.heap.IsSliceOf sl .none .none vk)(pk:IsPart vk (some (-1)))
  (h:Q (.ref s.heap.objs.size) { s with heap:=s.heap.push { cls:=.type "tuple",data:=.seq items.toList.reverse.toArray }})
  (hsz:items.size<=sizeLine):wpAny (model prog w) A (getItem (.ref t) (.ref sl)) Q E s:=by
 have jg:sizeOk (.seq items.toList.reverse.toArray):=by
  show items.toList.reverse.toArray.size<=sizeLine;rw[lI,List.length_reverse,UO];exact hsz
 obtain⟨os,hos,hcs,hds⟩:=id hs;have AG:s.TypeIs (.ref sl) "slice" :=⟨os,hos,hcs⟩
 unfold getItem;try with_reducible refine UL ?_
 first|refine b8 (eS ?_)|skip
 refine b8 (VB ht.typeIs (by decide) ?_);refine b8 (U1 (name:=Str.ofString "__getitem__") ht.typeIs T5
  (VO T5 ht.typeIs Vo ?_ (Vu _ _)))
 show wpAny _ _ (Builtin.Tuple.tupleItemsOf (.ref t) >>= _) _ _ s;refine b8 (tupleItemsOf_ ht ?_);refine b8 (VJ AG ?_);rw[cG (by decide)];refine b8 (qx hs pk ?_);have hno:¬ (((items.size:Int) - 1==0&&(-1:Int)==1&&items.size==items.size)=true):=by simp
 show wpAny _ _ (if ((items.size:Int) - 1==0&&(-1:Int)==1&&items.size==items.size)=true then _ else _) _ _ s;rw[Cd hno,GD];first
  |exact b8 (m:=Builtin.Tuple.tupleExact _) (T8 (eS ⟨_,rfl,eS h⟩) jg)
  |exact b8 (m:=Builtin.Tuple.tupleExact _) (T8 (b8 (eS (eS ⟨_,rfl,eS h⟩))) jg)
  |exact b8 (b8 (m:=Builtin.Tuple.tupleExact _) (T8 (eS (eS ⟨_,rfl,eS h⟩)) jg))
  |exact b8 (b8 (m:=Builtin.Tuple.tupleExact _) (T8 (eS ⟨_,rfl,eS h⟩) jg))
theorem Vals.reverse{vs:List V}{us:List Value}(w:Vals vs us):Vals vs.reverse us.reverse:=by
 induction w with
 |nil=>exact .nil
 |cons a _ ih=>rw[Uo,Uo];exact ih.append (.cons a .nil)
def NK{p1 p2 p3:Pos}{j}(ha:JE G n sc N df m a xa):JE G n sc N df m (.rv a) (.Subscript xa (.Slice none none (some (.UnaryOp .USub (.Constant (.int 1) j p1) p2)) p3) pos):=λX g=>by
 intro pins s σ H Q I q;obtain⟨r,fr,h,d,h',sr,hr,e,q⟩:=q;simp only[Ev.ev]at e;obtain⟨x,h1,e1,e⟩:=Ev.ah e;refine VG (aQ (ha X g pins s σ H _ I ⟨r,fr,h,x,h1,sr,hr,e1,λv H1 r1 v1 hr1 f1=>(show(λ(v:V) (H1:Hp)=>∃r1,RV X.K H1 r1 x v/\HR X.K H1 r1 h1/\Fm X.K r r1 H H1) v H1 from ⟨r1,v1,hr1,f1⟩)⟩) λv s1 ⟨x1,H1,I1,rx,r1,v1,hr1,f1⟩=>?_);refine wpAny_Slice ?_;rw[Wq];refine eS (eS ?_);have hm1:PE X (.UnaryOp .USub (.Constant (.int 1) j p1) p2) (tJ X.K m (Ev.run G.F G.w n) (.neg (.c (.int 1)))):=AS AR X g;refine aQ (xA hm1 pins s1 σ H1 (λo H2=>o=some (-1)/\∃r2,RV X.K H2 r2 x x1/\HR X.K H2 r2 h1/\Fm X.K r r2 H H2) I1 ⟨r1,fr,h1,.int (-1),h1,sr.mono f1,hr1,by simp[Ev.ev],λv' H2 r2 v2 hr2 f2=>⟨-1,v2,rfl,r2,v1.mono f2,hr2,f1.trans f2⟩⟩) λvk s2 ⟨o,H2,I2,pk,q2⟩=>?_;obtain⟨rfl,r2,v2,hr2,f2⟩:=q2;have I4:Inv X pins σ H2 { s2 with heap:=s2.heap.push { cls:=.type "slice",data:=.fields #[.none,.none,vk]}}:=I2.kept (t':=s2.toks) λb ob q=>iR _ q;have hS:({ s2 with heap:=s2.heap.push { cls:=.type "slice",data:=.fields #[.none,.none,vk]}}:Shared).heap.IsSliceOf s2.heap.objs.size .none .none vk:=Heap.IsSliceOf.new s2.heap .none .none vk;have key:∃T id,typeLookup (.type T) "__getitem__" = pure (some (.builtin id))/\({ s2 with heap:=s2.heap.push { cls:=.type "slice",data:=.fields #[.none,.none,vk]}}:Shared).TypeIs v T/\wpAny (model X.prog X.w) X.A (getItem v (.ref s2.heap.objs.size)) (EP X pins σ Q) X.xe { s2 with heap:=s2.heap.push { cls:=.type "slice",data:=.fields #[.none,.none,vk]}}:=by
  revert I4 hS
  generalize ({ s2 with heap:=s2.heap.push { cls:=.type "slice",data:=.fields #[.none,.none,vk]}}:Shared)=s3
  intro I4 hS;cases x with
  |tup ds=>
   cases e;obtain⟨p,vs,rfl,z,w⟩:=v2.shape;cases rx;obtain⟨us,pv,pt,hz⟩:=I4.tuple z;refine⟨"tuple",_,PyProof.Rows.slot_tuple_getitem.lookup,pt.typeIs,?_⟩;refine zI pt hS pk ?_ (by rw[lI,<-pv.length];exact hz);refine⟨.ref s3.heap.objs.size,_,I4.laid (t':=s3.toks) (o:=.tup vs.reverse) (λb ob q=>iR _ q) (qT _) ?_,rfl,(q.later f2).tup w.reverse hr2 (I4.hok.fresh (qT _))⟩;exact⟨by simpa using hz,_,Vals.reverse pv,⟨_,QS _ rfl,rfl,0,rfl⟩⟩
  |ref i=>
   simp only[Ev.lQ]at e;split at e
   .rename_i ds e2;obtain⟨p,rfl,z⟩:=v2.shape;obtain⟨p',vs,z',q1,w⟩:=hr2.read e2;rw[z]at z';cases z';cases rx;obtain⟨us,pv,pt,hz⟩:=I4.list q1;obtain⟨hz2,q2⟩:=(q.later f2).lst e w.reverse hr2;refine⟨"list",_,slot_list_getitem.lookup,pt.isList.typeIs,?_⟩;refine VT pt.isList hS .none .none pk (by simp) ?_ (by rw[lI,<-pv.length];exact hz);rw[PySem.W.krv_pick];refine⟨.ref s3.heap.objs.size,_,I4.laid (t':=s3.toks) (o:=.lst vs.reverse) (λb ob q=>iR _ q) (qT _) ?_,rfl,q2 _ (I4.hok.fresh (qT _))⟩;exact⟨by simpa using hz,_,0,Vals.reverse pv,QS _ rfl⟩
   .cases e
  |_=>cases e
 obtain⟨T,id,hT,ht,hg⟩:=key;exact tail_any (ops:=[v,.ref s2.heap.objs.size]) ht hT hg (by with_unfolding_all rfl)
end
section
variable{G:Tb}{n:Nat}{sc:Scope}{N:List Str}{df:Bool}{m:List Nat}{a c:E}{xa:Expr}{pos:Pos}
def Dp (g:Good G n sc N df X):eY X (.type "tuple") (λxs H Q=>∃r h d x d' h',HR X.K H r h/\RV X.K H r d x/\xs=[x]/\Ev.q9 d h=.ok d' h'/\Res X.K r H h' d' Q):=by
 intro pins s σ H xs us Q I rv q;obtain⟨r,h,d,x,d',h',hr,v1,rfl,e,q⟩:=q;cases d with
 |tup ds=>
  cases e;have v2:=v1;obtain⟨p,vs,rfl,z,w⟩:=v1.shape;exact lO pins s σ H _ us Q I rv ⟨p,vs,rfl,.inr ⟨z,q.here v2 hr⟩⟩
 |ref i=>
  simp only[Ev.q9]at e;split at e
  .rename_i ds e1;split at e
   .cases e;obtain⟨p,rfl,z⟩:=v1.shape;obtain⟨p',vs,z',q1,w⟩:=hr.read e1;rw[z]at z';cases z';exact lO pins s σ H _ us Q I rv ⟨p,vs,rfl,.inl ⟨q1,λl hl=>q.tup w hr hl⟩⟩
   .cases e
  .cases e
 |_=>cases e
def Kh {p:Pos}(ha:JE G n sc N df m a xa) (h1:("tuple" : Str)∈G.bl:=by decide +kernel) (Bf:sc.names.lookup ("tuple" : Str)=some .globalImplicit:=by rfl)
  (hst:∀env:Env,starEach [xa] env=[(false,eval xa env)]:=by intro _;rfl):JE G n sc N df m (.fO a) (.Call (.Name "tuple" p) [xa] [] pos):=λX g=>by
 refine PE.of (mF (Dp g) (g.gl Bf) (g.bl _ h1) (by decide +kernel) (cK (ha X g) kD (hst _)) (by decide) (by decide) (hst _) rfl) λs H Q q=>?_;obtain⟨r,fr,h,d,h',sr,hr,e,q⟩:=q;simp only[Ev.ev]at e;obtain⟨x,h3,e1,e⟩:=Ev.ah e;refine⟨r,fr,h,x,_,sr,hr,e1,λv H1 r1 v1 hr1 f1=>?_⟩;exact⟨r1,h3,x,v,d,h',hr1,v1,rfl,e,q.later f1⟩
def Kl{c:Nat}{st:Stmt}:JS G n sc N df m (.cA c) st:=λX g=>PS.of CF λQ s H q=>by
 obtain⟨r,fr,h,fl,ai,h',sr,hr,e,q⟩:=q;simp only[Ev.ex]at e;cases e
end
noncomputable def lz:List (D×D)->Bool
 |[]=>true
 | (.str k,.str v) :: r=>decide (v.length<=1000)&&lz r
 |_=>false
theorem ve{s:List Nat}{r:D}:∀{kvs:List (D×D)},lz kvs=true->Ev.dB (.str s) kvs=some r->∃t,r=.str t/\t.length<=1000/\PySem.Spec.lookup (.str (aA s)) (tabOf kvs)=some (.str (aA t))
 |[],_,e=>by simp[Ev.dB]at e
 | (k,v) :: l,ha,e=>by
  cases k<;>cases v<;>simp only[lz,Mb,fW,SD]at ha
  rename_i k v;simp only[Ev.dB]at e;rw[show Ev.fP [] 1 (.str k) (.str s)=some (k==s)from rfl]at e;simp only[tabOf,PySem.Spec.lookup];by_cases h:k=s
  .subst h;simp at e;subst e;refine⟨v,rfl,ha.1,?_⟩;have:PySem.Spec.same (.str (aA k)) (.str (aA k))=true:=by rw[Vv];simp
   rw[this];rfl
  .have hb:(k==s)=false:=by simpa using h
   rw[hb]at e;simp only at e;obtain⟨t,h1,h2,h3⟩:=ve ha.2 e;refine⟨t,h1,h2,?_⟩;have:PySem.Spec.same (.str (aA k)) (.str (aA s))=false:=by
    rw[Vv];simp;exact λz=>h (jt z)
   rw[this];exact h3
theorem pK{y r:D}:∀{kvs:List (D×D)},lz kvs=true->Ev.dB y kvs=some r->∃s,y=.str s
 |[],_,e=>by simp[Ev.dB]at e
 | (k,v) :: l,ha,e=>by
  cases k<;>cases v<;>simp only[lz,Mb,fW,SD]at ha
  cases y with
  |str s=>exact⟨s,rfl⟩
  |ref a=>cases e
  |_=>first|exact pK ha.2 e|cases e
section
variable{G:Tb}{n:Nat}{sc:Scope}{N:List Str}{df:Bool}{m:List Nat}{a:E}{xa:Expr}{pos:Pos}
def xU {x:Str}{kvs:List (D×D)}{p:Pos}(hm:(x,kvs)∈G.dk) (ha:JE G n sc N df m a xa) (hk:lz kvs=true:=by decide) (hg:sc.names.lookup x=some .globalImplicit:=by rfl) (hd:(x==("__debug__" : Str))=false:=by decide) (hs:qZ xa:=by intro _ _;rfl) :
  JE G n sc N df m (.dJ kvs a) (.Subscript (.Name x p) xa pos):=λX g=>by
 intro pins s σ H Q I q;obtain⟨r,fr,h,d,h',sr,hr,e,q⟩:=q;simp only[Ev.ev]at e;replace e:=Ev.ah e;obtain⟨y,h1,e1,e⟩:=e;replace e:=Ev.aD e;obtain⟨e,y0⟩:=e;subst y0;obtain⟨ad,hmg,htab⟩:=g.dk x kvs hm;refine VG (ze (jr (v:=.ref ad) (g.gl hg) hmg rfl hd) (ha X g) I (R:=λx' y' H2=>x'=.ref ad/\∃r1,RV X.K H2 r1 y y'/\HR X.K H2 r1 h'/\Fm X.K r r1 H H2) ?_ λv u s2 x' y' H2 I2 rx ry z=>?_)
 .refine⟨r,fr,h,y,h',sr,hr,e1,λv H1 r1 v1 hr1 f1=>⟨rfl,r1,v1,hr1,f1⟩⟩
 .obtain⟨rfl,r1,v1,hr1,f1⟩:=z;obtain rfl:v=Value.ref ad:=rx;have hy:∃sx,y=.str sx:=pK hk e;obtain⟨sx,rfl⟩:=hy;obtain⟨t,rfl,ht,hl⟩:=ve hk e;simp only[RV]at v1;obtain⟨rfl,_⟩:=v1;obtain⟨tk,rfl⟩:=ry;refine item_strTab (htab s2.heap I2.dY) hl (λv hv=>?_) (hs _ _);obtain⟨t2,rfl⟩:=PyProof.V.Flat.str_inv hv;exact⟨.str (aA t),H2,I2.tok _,⟨t2,rfl⟩,q _ H2 r1 ⟨rfl,HK ht (by rw[UD];decide)⟩ hr1 f1⟩
end
end Sm
namespace Rv
open PySem PyProof.Rows
end Rv
namespace Sm
open PySem PySem.Spec PyProof.Rows L2 PySem.SeqAt
open Ev (D O Hh Fr R aB E Es Eo T S Ss Fl Src bu aV TY BI ME)
theorem aE.ofInts{K:PySem.W.Frag}{H:Hp}{r:List Addr}:∀ns:List Int,aE K H r (ns.map D.int) (ns.map V.int)
 |[]=>.nil
 |_ :: l=>.cons rfl (aE.ofInts l)
def Km{K:PySem.W.Frag}{H:Hp}{a:Addr}{vs:List V}(hO:q8 H)(hS:eU K H a vs):zy K H a vs:=by
 rcases hS with h|h
 .rcases h with h|⟨o,h⟩
  .rcases hO a with q|⟨o,xs,q⟩
   .rw[q]at h;cases h
   .rw[q]at h;cases h
  .exact .inl ⟨o,h⟩
 .exact .inr h
def NL{K:PySem.W.Frag}{F:List Ev.Fn}{w n f:Nat}{H:Hp}{a:Addr}{ns:List Int}(hO:q8 H)(hS:eU K H a (ns.map V.int)){h':Hh}(e:Ev.run F w n f [.ref 0] [.bB (ns.map D.int)]=.ok (.bl true) h') :
  lS K F w n f [.ref a] H (λv _=>v=.bl true) λ_ _ _=>False:=by
 refine⟨[a],[.bB (ns.map D.int)],[.ref 0],.bl true,h',.cons (show RV K H [a] (.ref 0) (.ref a)from ⟨a,rfl,rfl⟩) .nil,⟨rfl,λk o hk=>?_,λk l b x y _ _ hk _=>?_
  ⟩,e,λv H' r' v1 _ _=>v1⟩
 .cases k with
  |zero=>
   simp at hk;subst hk;exact⟨a,rfl,_,Km hO hS,aE.ofInts ns⟩
  |succ k=>simp at hk
 .cases k with
  |zero=>simp at hk
  |succ k=>simp at hk
def GF{F:List Ev.Fn}{wh n f:Nat}{l:PySem.W.OpenLaw}{q:Program}{loose:List Str}{XP:(Str->Option Value)->Heap->Prop}{YP:World->Heap->Prop}{d:DefRec}{K:Params->PySem.W.Frag}{x:Str}(hn:l.most=some 63)(hdf:d.params.defaults=[])(hr:eZ n callerA)
  (hY:∀(w:World) (h:Heap),YP w h->(K w.params).In h) (good:∀ns:List Int,ns.length<=63->∃h',Ev.run F wh n f [.ref 0] [.bB (ns.map D.int)]=.ok (.bl true) h')
  (Fo:∀(w:World) (mg:Str->Option Value) (fa:Addr) (h:Heap),(K w.params).In h->h.Ns mainGlobals mg->mg d.name=some (.ref fa)->
   ∃fd:FuncData,(∀(s:Shared) (u:Value),BindsTo s fd ⟨[u],[]⟩ [(x,u)])/\∀base:Heap,(K w.params).In base->base.Ns mainGlobals mg->fc l.prog w (K w.params) mg base kG n fa fd [x] (lS (K w.params) F wh n f)) :
  PySem.W.WalkO q loose XP YP l.row.toRowW d [] (λf vs=>PySem.call f vs):=
 L2.CT (n:=63) (k:=n) (x:=x) (CX:=kG) (sp:=λK=>lS K F wh n f) hn (by decide) hdf hr hY Fo (λK H a ns hl hO hS=>by
  obtain⟨h',e⟩:=good ns hl;exact NL hO hS e) λ_ _ _ _ z=>z
end Sm
namespace Sm
open PySem PySem.Spec PyProof.Rows L2
open Ev (D O Hh Fr R aB E Es Eo It T S Ss Fl Src bu aV TY BI ME)
section
variable{G:Tb}{n:Nat}{sc:Scope}{N:List Str}{df:Bool}{m:List Nat}{a b:E}{xa xb:Expr}{pos:Pos}
def hasB(N:List Str)(m:List Nat)(x:Str)(i:Nat):Bool:=(List.range N.length).any λj=>m[j]?==some i&&N[j]?==some x
def hasB.of{x:Str}{i:Nat}(h:hasB N m x i=true):∃j:Nat,m[j]?=some i/\N[j]?=some x:=by
 obtain⟨j,_,q⟩:=List.any_eq_true.mp h;rw[fW]at q;exact⟨j,by simpa using q.1,by simpa using q.2⟩
def vB (sc:Scope) (N:List Str) (m:List Nat) (x:Str) (i:Nat):Bool:=hasB N m x i&&(sc.names.lookup x==some .local ||sc.names.lookup x==some .cell ||sc.names.lookup x==some .free)&&!(x==("__debug__" : Str))&&!(x==("__classdict__" : Str))
def jv{x:Str}{i:Nat}(h:vB sc N m x i=true):JE G n sc N df m (.v i) (.Name x pos):=by
 unfold vB at h;simp only[fW,T4,Ub]at h;obtain⟨⟨⟨h1,h2⟩,h3⟩,h4⟩:=h;obtain⟨j,e1,e2⟩:=hasB.of h1;exact Qo j i e1 e2 (by rcases h2 with (h2|h2)|h2;exact .inl (by simpa using h2);exact .inr (.inl (by simpa using h2));exact .inr (.inr (by simpa using h2))) h3 h4
def gB(sc:Scope)(N:List Str)(df:Bool)(m:List Nat)(x:Str)(i:Nat):Bool:=hasB N m x i&&(sc.names.lookup x==some .local || (df&&sc.names.lookup x==some .cell))&&decide m.Nodup&&decide N.Nodup
theorem gB.of{x:Str}{i:Nat}(h:gB sc N df m x i=true):∃j:Nat,m[j]?=some i/\N[j]?=some x/\(sc.names.lookup x=some .local\/(df=true/\sc.names.lookup x=some .cell))/\m.Nodup/\N.Nodup:=by
 unfold gB at h;simp only[fW,Ub]at h;obtain⟨⟨⟨h1,h2⟩,h3⟩,h4⟩:=h;obtain⟨j,e1,e2⟩:=hasB.of h1;exact⟨j,e1,e2,by rcases h2 with h2|⟨h2,h5⟩;exact .inl (by simpa using h2);exact .inr ⟨h2,by simpa using h5⟩,Uj h3,Uj h4⟩
def RA{x:Str}{i:Nat}(h:gB sc N df m x i=true):JG G n sc N df m (.one i) (.Name x pos):=by
 obtain⟨j,e1,e2,e3,e4,e5⟩:=gB.of h;exact JJ j i e4 e5 e1 e2 e3
def RB{x:Str}{i:Nat}{l:List Nat}{xs:List Expr}(h:gB sc N df m x i=true)(hs:sJ G n sc N df m l xs):sJ G n sc N df m (i :: l) (.Name x pos :: xs):=by
 obtain⟨j,e1,e2,e3,e4,e5⟩:=gB.of h;exact C5 j i e4 e5 hs e1 e2 e3
def Qs{i:Nat}{x:Str}{pos':Pos}(h:gB sc N df m x i=true)(ha:JE G n sc N df m a xa)(hs:∀env:Env,swapsWith xa (some (.Name x pos')) pos.line env=pure false:=by intro _;rfl):JS G n sc N df m (.set i a) (.Assign [.Name x pos'] xa pos):=by
 obtain⟨j,e1,e2,e3,e4,e5⟩:=gB.of h;exact JL j i e4 e5 ha hs e1 e2 e3
noncomputable def oQ (sc:Scope) (x:Str):Bool:=sc.names.lookup x==some .globalImplicit&&!(x==("__debug__" : Str))
def OT{f:Nat}{i:FI}{es:Es}{x:Str}{e0:Expr}{xs:List Expr}{p:Pos}(h:oQ sc x=true)(hf:G.fi[f]?=some i)(hx:i.name=x)(hs:JA G n sc N df m es (e0 :: xs))
  (hst:∀env:Env,starEach (e0 :: xs) env=(false,eval e0 env) :: starEach xs env:=by intro _;rfl) (hpl:∀env:Env,(backTo pos (starEach xs env)).any (·.1)=false:=by intro _;rfl) :
  JE G n sc N df m (.cl f es) (.Call (.Name x p) (e0 :: xs) [] pos):=by
 subst hx;unfold oQ at h;simp only[fW,T4]at h;exact NG hf hs (by simpa using h.1) h.2 hst hpl
def RC:Expr->List Str
 |.Name x _=>[x]
 |.Tuple xs _ _=>xs.filterMap λy=>match y with|.Name x _=>some x|_=>none
 |_=>[]
noncomputable def OU(N:List Str)(m:List Nat)(scope:Scope):List (Str×Nat):=(N.zip m).filter λp=>scope.names.contains (p.1,NameKind.free)
def cN(N:List Str)(m:List Nat)(scope:Scope)(tg:Expr):List Str:=RC tg++(OU N m scope).map (·.1)
def cM(N:List Str)(m:List Nat)(scope:Scope)(t:T):List Nat:=Ev.slots t++(OU N m scope).map (·.2)
def NN{elt:E}{t:T}{it:Ev.It}{cond:Eo}{tg xi xe:Expr}{ifs:List Expr}{scope:Scope}(hn:mU sc N m scope t (cN N m scope tg) (cM N m scope t)=true)(hs:A4 sc scope=true)
  (hi:JI G n sc N df m it tg xi) (hg:JG G n (b7 sc scope) (cN N m scope tg) false (cM N m scope t) t tg) (hc:JC G n (b7 sc scope) (cN N m scope tg) false (cM N m scope t) cond ifs)
  (he:JE G n (b7 sc scope) (cN N m scope tg) false (cM N m scope t) elt xe) (hf:∀(env:Env) x,foldedSetIterable xi env x=pure x:=by intro _ _;rfl):JE G n sc N df m (.comp elt t it cond) (.ListComp xe [⟨tg,xi,ifs,0⟩] scope pos):=
 xO hi hg hc he (namesOk.of hn) (iM.of hs) hf
def NO{i:Nat}{x:Str}{pos' cpos:Pos}{elt:E}{t:T}{it:Ev.It}{cond:Eo}{tg xi xe:Expr}{ifs:List Expr}{scope:Scope}(h:gB sc N df m x i=true)(hn:mU sc N m scope t (cN N m scope tg) (cM N m scope t)=true)(hs:A4 sc scope=true)
  (hi:JI G n sc N df m it tg xi) (hg:JG G n (b7 sc scope) (cN N m scope tg) false (cM N m scope t) t tg) (hc:JC G n (b7 sc scope) (cN N m scope tg) false (cM N m scope t) cond ifs)
  (he:JE G n (b7 sc scope) (cN N m scope tg) false (cM N m scope t) elt xe) (hf:∀(env:Env) x,foldedSetIterable xi env x=pure x:=by intro _ _;rfl) :
  JS G n sc N df m (.set i (.comp elt t it cond)) (.Assign [.Name x pos'] (.ListComp xe [⟨tg,xi,ifs,0⟩] scope cpos) pos):=by
 obtain⟨j,e1,e2,e3,e4,e5⟩:=gB.of h;exact Gq j i e4 e5 hi hg hc he (namesOk.of hn) (iM.of hs) e1 e2 e3 hf
def Qt{rest:List Expr}(ha:JT G n sc N df m a xa)(hb:JW G n sc N df m b (.BoolOp .And (xb :: rest) pos)):JT G n sc N df m (.an a b) (.BoolOp .And (xa :: xb :: rest) pos):=Ju (En ha hb)
def Qu{rest:List Expr}(ha:JT G n sc N df m a xa)(hb:JW G n sc N df m b (.BoolOp .Or (xb :: rest) pos)):JT G n sc N df m (.orr a b) (.BoolOp .Or (xa :: xb :: rest) pos):=Ju (AU ha hb)
def allB(G:Tb)(n:Nat):List (Ss×Stmt×List Str)->Prop
 |[]=>True
 |p :: r=>mT G n (aF p.2.1) p.2.2 true (List.range p.2.2.length) p.1 (cF p.2.1)/\allB G n r
theorem allB.get:∀{l:List (Ss×Stmt×List Str)}{k:Nat}{p:Ss×Stmt×List Str},allB G n l->l[k]?=some p->mT G n (aF p.2.1) p.2.2 true (List.range p.2.2.length) p.1 (cF p.2.1)
 |[],_,_,_,e=>nomatch e
 |_ :: _,0,_,h,e=>by cases e;exact h.1
 |_ :: r,k+1,p,h,e=>allB.get (l:=r) (k:=k) h.2 (by simpa using e)
end
end Sm
namespace Sm
open PySem PySem.Spec PyProof.Rows L2 PySem.SeqAt
open Ev (D O Hh Fr R aB E Es Eo T S Ss Fl Src bu aV TY BI ME)
def xV(i:Int):Str.ofString (toString i)=aA (Ev.cO i):=by
 rw[Str.ofString_eq_byList];rfl
def sZ{i:Int}(h:-1000000<i/\i<1000000):i.natAbs.log2<1920:=by
 refine Nat.lt_of_not_le λz=>?_;have h0:i.natAbs≠0:=λe=>by rw[e]at z;exact absurd z (by decide)
 have h1:2 ^ 1920<=i.natAbs:=HK (Wj (by decide) z) (Nat.log2_self_le h0);have h2:2 ^ 20<=(2:Nat) ^ 1920:=Wj (by decide) (by decide);have h3:i.natAbs<2 ^ 20:=by omega
 exact absurd (HK h2 h1) (Nat.not_le.mpr h3)
def GG {X:Cx}:eY X (.type "str") (qm X.K (Ev.cU .gn)):=by
 intro pins s σ H xs us Q I r q;obtain⟨rr,h,as,d,h',hr,v1,e,q⟩:=q
 match as,e with
 |[.int i],e=>
  delta Ev.cU at e;dsimp only at e
  split at e
  .rename_i k;cases e;simp only[aE,RV]at v1;obtain⟨v,w,rfl,rfl,rfl⟩:=v1;obtain⟨u,rfl,r1⟩:=Vs r;obtain⟨t,rfl⟩:=r1;refine PySem.P.str_of_int (sZ k) ⟨.str (aA (Ev.cO i)),H,I.tok _,⟨_,Pc (λz=>Value.str z _) (xV i)⟩,q.here ⟨rfl,?_⟩ hr⟩;have:=int_text_fits (sZ k);rw[xV,bh]at this;exact this
  .cases e
 |[.str l],e=>
  cases e;simp only[aE,RV]at v1;obtain⟨v,w,rfl,⟨rfl,hl⟩,rfl⟩:=v1;obtain⟨u,rfl,r1⟩:=Vs r;obtain⟨t,rfl⟩:=r1;exact PySem.P.str_of_str ⟨.str (aA l),H,I,⟨_,rfl⟩,q.here ⟨rfl,hl⟩ hr⟩
def xW:((List.range 10).all λa=>intText? (aA [a+48])==some (a:Int))=true/\((List.range 10).all λa=>(List.range 10).all λb=>intText? (aA [a+48,b+48])==some (10*(a:Int)+b))=true:=by
 constructor<;>decide +kernel
def vf{a:Nat}(h:Ev.pq a=true):∃k,k∈List.range 10/\a=k+48:=by
 simp only[Ev.pq,fW,SD]at h;exact⟨a - 48,by simp;omega,by omega⟩
def Kn{l:List Nat}{i:Int}(e:Ev.mL l=some i):intText? (aA l)=some i/\l.length<=640:=by
 match l,e with
 |[a],e=>
  simp only[Ev.mL]at e;split at e
  .rename_i h;obtain⟨k,k1,rfl⟩:=vf h;have:=List.all_eq_true.mp xW.1 k k1;cases e;exact⟨by rw[beq_iff_eq.mp this];congr 1;omega,by simp⟩
  .cases e
 |[a,b],e=>
  simp only[Ev.mL,fW]at e;split at e
  .rename_i h;obtain⟨k,k1,rfl⟩:=vf h.1;obtain⟨j,j1,rfl⟩:=vf h.2;have:=List.all_eq_true.mp (List.all_eq_true.mp xW.2 k k1) j j1;cases e;exact⟨by rw[beq_iff_eq.mp this];congr 1;omega,by simp⟩
  .cases e
def GH {X:Cx}:eY X (.type "int") (qm X.K (Ev.cU .jE)):=by
 intro pins s σ H xs us Q I r q;obtain⟨rr,h,as,d,h',hr,v1,e,q⟩:=q
 match as,e with
 |[.str l],e=>
  delta Ev.cU at e;dsimp only at e
  obtain⟨e2,y0⟩:=Ev.aD e;subst y0;obtain⟨i,e3,rfl⟩:=Option.map_eq_some_iff.mp e2;obtain⟨n1,n2⟩:=Kn e3;simp only[aE,RV]at v1;obtain⟨v,w,rfl,⟨rfl,hl⟩,rfl⟩:=v1;obtain⟨u,rfl,r1⟩:=Vs r;obtain⟨t,rfl⟩:=r1;exact PySem.W.KIN.call_text n1 (by rw[bh];exact n2) ⟨.int i,H,I.tok _,⟨_,rfl⟩,q.here rfl hr⟩
noncomputable def iO(c:Nat):Nat->List Nat->List Nat
 |_,[]=>[]
 |k,x :: l=>if x=c then k :: iO c (k+1) l else iO c (k+1) l
def sub_one(a:List Nat)(c i:Nat):Builtin.Str.subAt (aA a) (aA [c]) i=decide ((a.drop i).take 1=[c]):=by
 unfold Builtin.Str.subAt;have e:(aA a).cps.extract i (i+(aA [c]).length)=((a.drop i).take 1).toArray:=by
  rw[bh];show a.toArray.extract _ _=_;rw[Wm]
  congr 1
  rw[List.extract_eq_drop_take]
  congr 1;simp
 rw[e];show(((a.drop i).take 1).toArray==[c].toArray)=_;by_cases q:(a.drop i).take 1=[c]
 .simp[q]
 .rw[DX q];exact beq_eq_false_iff_ne.mpr λz=>q (by simpa using z)
theorem vg(a:List Nat)(c:Nat):∀(l:List Nat) (k:Nat) (acc:Array Nat) (free:Nat),a.drop k=l->k+l.length=a.length->acc.size<=k->free<=k->
  (forIn (List.range' k (l.length+1)) (acc,free) (StrLaws.occBody (aA a) (aA [c]) a.length (a.length+1))).run.fst.toList=acc.toList++iO c k l
 |[],k,acc,free,hd,hk,hs,hf=>by
  simp only[UA,Nat.zero_add,List.range'_one,Vm,List.forIn_nil];unfold StrLaws.occBody;rw[Cd (λz=>by have:=z.1.2;rw[bh]at this;simp at this hk;omega)];simp[iO]
 |x :: l,k,acc,free,hd,hk,hs,hf=>by
  rw[MZ]at hk;rw[MZ,List.range'_succ,Vm];have hd2:a.drop (k+1)=l:=by rw[<-List.drop_drop,hd];rfl
  unfold StrLaws.occBody;have hsub:Builtin.Str.subAt (aA a) (aA [c]) k=decide (x=c):=by rw[sub_one,hd];simp
  by_cases hx:x=c
  .rw[cG ⟨⟨⟨by simp;omega,by simpa using hf⟩,by rw[bh];simp;omega⟩,by rw[hsub];simpa using hx⟩];have ih:=vg a c l (k+1) (acc.push k) (k+(aA [c]).length) hd2 (by omega) (by simp;omega) (by rw[bh];simp);unfold StrLaws.occBody at ih;simp only[iO,cG hx];refine Wg ?_ (ih.trans (by simp));rfl
  .rw[Cd (λz=>by have:=z.2;rw[hsub]at this;exact hx (by simpa using this))];have ih:=vg a c l (k+1) acc free hd2 (by omega) (by omega) (by omega);unfold StrLaws.occBody at ih;simp only[iO,Cd hx];exact Wg rfl ih
def rE(a:List Nat)(c:Nat):Builtin.Str.occurrences (aA a) (aA [c]) 0 (aA a).length ((aA a).length+1)=iO c 0 a:=by
 rw[StrLaws.occ_eq,bh];have:=vg a c a 0 #[] 0 rfl (by simp) (by simp) (by simp);simpa using this
def pL(a:List Nat)(i j:Nat):Builtin.Str.strSub (aA a) i j=aA ((a.drop i).take (j - i)):=by
 unfold Builtin.Str.strSub;show(⟨a.toArray.extract i j⟩:Str)=_;rw[Wm,List.extract_eq_drop_take];rfl
theorem pM(a:List Nat)(c:Nat):∀(l cur:List Nat) (s k:Nat),a.drop s=cur++l->k=s+cur.length->k+l.length=a.length->
  ((s :: (iO c k l).map (· + 1)).zip (iO c k l++[a.length])).map (λp=>Builtin.Str.strSub (aA a) p.1 p.2)=((cur++(Ev.ay c l).headD []) :: (Ev.ay c l).tail).map aA
 |[],cur,s,k,hd,hk,hl=>by
  have e:(a.drop s).take (a.length - s)=cur:=by rw[hd,Ug,Ul (by simp at hl;omega)]
  simp[iO,Ev.ay,pL,e]
 |x :: l,cur,s,k,hd,hk,hl=>by
  rw[MZ]at hl;have hd2:a.drop (k+1)=l:=by
   have h1:a.drop (s+(cur.length+1))=l:=by
    rw[<-List.drop_drop,hd,show cur++x :: l=(cur++[x])++l by simp,List.drop_left' (by simp)]
   rw[<-h1,hk];rfl
  by_cases hx:x=c
  .have ih:=pM a c l [] (k+1) (k+1) hd2 (by simp) (by omega);simp only[iO,cG hx,we,UJ,WB];rw[pL,hd,show k - s=cur.length by omega,List.take_left' rfl];refine(Pc _ ih).trans ?_;simp only[Ev.ay,cG hx,List.headD_cons,Ug,V9,UQ,we]
   congr 1
   cases h:Ev.ay c l with
   |nil=>exact absurd h (by cases l<;>simp only[Ev.ay] <;> (try split) <;> (try split)<;>simp)
   |cons p ps=>simp
  .have ih:=pM a c l (cur++[x]) s (k+1) (by rw[hd];simp) (by simp;omega) (by omega);simp only[iO,Cd hx];rw[ih];simp only[Ev.ay,Cd hx];cases h:Ev.ay c l with
   |nil=>exact absurd h (by cases l<;>simp only[Ev.ay] <;> (try split) <;> (try split)<;>simp)
   |cons p ps=>simp
def vh(c:Nat)(l:List Nat):∃p ps,Ev.ay c l=p :: ps:=by
 cases h:Ev.ay c l with
 |nil=>exact absurd h (by cases l<;>simp only[Ev.ay] <;> (try split) <;> (try split)<;>simp)
 |cons p ps=>exact⟨p,ps,rfl⟩
def pN(a:List Nat)(c:Nat):Builtin.Str.partsBetween (aA a) (iO c 0 a) (aA [c]).length=(Ev.ay c a).map aA:=by
 have:=pM a c a [] 0 0 (by simp) (by simp) (by simp);obtain⟨p,ps,e⟩:=vh c a;rw[e]at this ⊢;unfold Builtin.Str.partsBetween;rw[bh,bh];exact this.trans (by simp)
theorem VY(c:Nat):∀(a:List Nat),∀p∈Ev.ay c a,p.length<=a.length
 |[],p,h=>by simp[Ev.ay]at h;simp[h]
 |x :: a,p,h=>by
  simp only[Ev.ay]at h;split at h
  .rcases List.mem_cons.mp h with rfl|h
   .simp
   .exact HK (VY c a p h) (by simp)
  .split at h
   .rename_i q ps e;rcases List.mem_cons.mp h with rfl|h
    .have:=VY c a q (by rw[e];simp);simp;omega
    .exact HK (VY c a p (by rw[e];simp[h])) (by simp)
   .simp at h;simp[h]
def Dq(a:D)(as:List D)(h:Hh):R D:=match as with
 |[b]=>(R.of (Ev.uJ a b) h).bind λl h1=>Ev.alloc l h1
 |_=>.bad
theorem xX:∀(l:List (List Nat)) (k:Nat),Vals (l.map λp=>V.str (aA p)) (strsFrom k (l.map aA))
 |[],_=>.nil
 |_ :: l,k=>.cons ⟨_,rfl⟩ (xX l (k+1))
theorem aE.Ko{K:PySem.W.Frag}{H:Hp}{r:List Addr}:∀{ss:List (List Nat)},(∀l∈ss,l.length<=sizeLine)->aE K H r (ss.map D.str) (ss.map λl=>V.str (aA l))
 |[],_=>.nil
 |l :: ss,h=>.cons ⟨rfl,h l (by simp)⟩ (aE.Ko λx hx=>h x (by simp[hx]))
def xY{x y:D}{l:List D}(e:Ev.uJ x y=some l):∃a c,x=.str a/\y=.str [c]/\c<128/\l=(Ev.ay c a).map .str:=by
 unfold Ev.uJ at e;split at e
 .split at e
  .rename_i hc;cases e;exact⟨_,_,rfl,rfl,hc,rfl⟩
  .cases e
 .cases e
def Dr {X:Cx}:sC X "str.split" (uK X.K Dq):=by
 intro pins s σ H x xs v us Q I rx rs q;obtain⟨r,h,a,as,d,h',hr,v1,v2,e,q⟩:=q
 match as,e with
 |[b],e=>
  simp only[Dq]at e;obtain⟨l,h1,e1,e9⟩:=Ev.ah e;obtain⟨e2,y0⟩:=Ev.aD e1;subst y0;obtain⟨a,c,rfl,rfl,hc,rfl⟩:=xY e2;simp only[RV]at v1;obtain⟨rfl,hl⟩:=v1;obtain⟨t,rfl⟩:=rx;simp only[aE,RV]at v2;obtain⟨y,w,rfl,⟨rfl,hl2⟩,rfl⟩:=v2;obtain⟨u,rfl,ru⟩:=Vs rs;obtain⟨t2,rfl⟩:=ru;obtain⟨hz2,q2⟩:=q.lst e9 (aE.Ko λp hp=>HK (VY c a p hp) hl) hr;have fin:∀(its:List Value) (k:Nat),Vals ((Ev.ay c a).map λp=>V.str (aA p)) its->EP X pins σ Q (.ref s.heap.objs.size) { s with toks:=k,heap:=s.heap.push { cls:=.type "list",data:=.seq its.toArray }}:=λits k hv=>
   ⟨.ref s.heap.objs.size,_,I.laid (t':=k) (o:=.lst ((Ev.ay c a).map λp=>V.str (aA p))) (λb ob q=>iR _ q) (qT _) ⟨hz2,its,_,hv,QS _ rfl⟩,rfl,q2 _ (I.hok.fresh (qT _))⟩
  have hy:((aA [c]).length==0)=false:=by rw[bh];rfl
  have one:Ev.ay c a=[a]->Vals ((Ev.ay c a).map λp=>V.str (aA p)) [Value.str (aA a) t]:=λz=>by rw[z];exact .cons ⟨_,rfl⟩ .nil
  cases c1:(decide ((aA a).length<(aA [c]).length) ||decide (Builtin.Str.strKind (aA a)<Builtin.Str.strKind (aA [c])))
  .cases c2:(Builtin.Str.occurrences (aA a) (aA [c]) 0 (aA a).length ((aA a).length+1)).isEmpty
   .refine Ur Ve (Vg _ _ _) VE (Vx _ _) (meets_str_split_sep _ _ _ _ c1 hy c2 (by rw[bh];exact hl) ?_) ?_
    .rw[rE,pN,L7];simpa using hz2
    .have hv:=xX (Ev.ay c a) s.toks;rw[rE,pN];exact fin _ _ hv
   .refine Ur Ve (Vg _ _ _) VE (Vx _ _) (meets_str_split_not_found _ _ _ _ c1 hy c2) (fin _ s.toks (one ?_));rw[rE]at c2;have e2:=pN a c;rw[List.isEmpty_iff.mp c2]at e2;unfold Builtin.Str.partsBetween at e2;simp only[US,UQ,WB,List.zip_nil_left,we,pL,bh,U0,Nat.sub_zero,List.take_length]at e2;obtain⟨p,ps,e3⟩:=vh c a;rw[e3]at e2 ⊢;simp only[we,V3]at e2;obtain⟨e4,e5⟩:=e2;rw[<-jt e4,List.map_eq_nil_iff.mp e5.symm]
  .refine Ur Ve (Vg _ _ _) VE (Vx _ _) (meets_str_split_cannot_occur _ _ _ _ c1) (fin _ s.toks (one ?_));have k1:Builtin.Str.strKind (aA [c])=1:=by unfold Builtin.Str.strKind;rw[cG (by simp[aA];omega)]
   have k2:1<=Builtin.Str.strKind (aA a):=by unfold Builtin.Str.strKind;split <;> (try split)<;>decide
   rw[k1,DX (p:=Builtin.Str.strKind (aA a)<1) (by omega),VA,bh,bh]at c1;have:a=[]:=by simpa using c1
   rw[this];rfl
section
variable{G:Tb}{n:Nat}{sc:Scope}{N:List Str}{df:Bool}{m:List Nat}{a b c:E}{xa xb:Expr}{pos:Pos}
def Ds{apos:Pos}(ha:JE G n sc N df m a xa)(hs:JA G n sc N df m (.cons b .nil) [xb])
  (hbase:∀env:Env,attributeBase xa "split" env (eval xa env)=eval xa env:=by intro _;rfl)
  (hfew:∀env:Env,((backTo pos (starEach [xb] env)).all (λx=>!x.1)&&(backToKw pos (keywordEach [] env)).all (λx=>x.1.isSome)
   &&decide ([xb].length+([]:List Keyword).length+(if ([]:List Keyword).isEmpty then 0 else 1)<30))=true:=by intro _;rfl)
  (hline:(apos.endLine==pos.line)=true:=by rfl) (hst:∀env:Env,starEach [xb] env=(false,eval xb env) :: starEach [] env:=by intro _;rfl) (hpl:∀env:Env,(backTo pos (starEach [] env)).any (·.1)=false:=by intro _;rfl) :
  JE G n sc N df m (.fN (.ir a b)) (.Call (.Attribute xa "split" apos) [xb] [] pos):=λX g=>
 PE.of (Eh (T:="str") (id:="str.split") F.plainAttrs_str Ve F.type_str_split Dr (ha X g) (hs X g) (hbase _) (hfew _) hline (hst _) (hpl _)) λs H Q q=>by
  obtain⟨r,fr,h,d,h',sr,hr,e,q⟩:=q;simp only[Ev.ev,Ev.bQ]at e;obtain⟨sx,h3,e1,e9⟩:=Ev.ah e;obtain⟨x,h1,e2,e5⟩:=Ev.ah e1;obtain⟨y,h2,e3,e6⟩:=Ev.ah e5;obtain⟨e7,y0⟩:=Ev.aD e6;subst y0;obtain⟨l,e4,rfl⟩:=Option.map_eq_some_iff.mp e7;obtain⟨t,_,rfl,_⟩:=xY e4;refine⟨r,fr,h,.str t,h1,sr,hr,e2,λv H1 r1 v1 hr1 f1=>⟨?_,?_⟩⟩
  .simp only[RV]at v1;obtain⟨rfl,_⟩:=v1;rfl
  .refine⟨r1,fr,h1,[y],h3,sr.mono f1,hr1,by simp only[Ev.bH,e3,Ev.aj],λvs H2 r2 v2 hr2 f2=>?_⟩;exact⟨r2,h3,.str t,[y],d,h',hr2,v1.mono f2,v2,by simp only[Dq,e4];exact e9,q.later (f1.trans f2)⟩
noncomputable def SJ:D->Option Nat
 |.str [c]=>some c
 |_=>none
end
section
variable{G:Tb}{n:Nat}{sc:Scope}{N:List Str}{df:Bool}{m:List Nat}{a b c:E}{xa:Expr}{pos:Pos}
def Kp(K:PySem.W.Frag)(jT:List (TE×TE)):TE:=λσ H Q=>∀p,H p=none->K.lookup p=none->qi jT σ (upd H p (.dK [])) λps H2=>H2 p=some (.dK [])/\∃kvs:List (Key×V),ps=kvs.map (λkv=>(kV kv.1,kv.2))/\kvs.length<=15/\Q (.ref p) (upd H2 p (.dK (kH [] kvs)))
def Dt{X:Cx}{keys:List (Option Expr)}{values:List Expr}{jT:List (TE×TE)}(h:AO X pos keys values jT)(hall:keys.all (·.isSome)=true)(hl:keys.length=values.length)(h0:keys≠[])
  (OV:keys.length<=15):PE X (.Dict keys values pos) (Kp X.K jT):=by
 intro pins s σ H Q I q;have hn:=I.hok.fresh (qT s.heap.objs.size);have hk:X.K.lookup s.heap.objs.size=none:=by
  cases z:X.K.lookup s.heap.objs.size with
  |none=>rfl
  |some o=>exact absurd (rT (I.dY _ _ z)) (Ud _)
 have I1:=I.laid (a:=s.heap.objs.size) (o:=.dK []) (h':=s.heap.push { cls:=.type "dict",data:=.dict #[]}) (t':=s.toks) (λ_ _ q=>iR _ q) (qT _) (CW s.heap I.big);refine wpAny_Dict_walk (knd:=cJ X.prog X.w) hall hl h0 OV (aQ (h pins _ σ _ _ I1 (q _ hn hk)) λws s2 ⟨ps,H2,I2,rel,e,kvs,ep,lk,q2⟩=>?_);subst ep;obtain⟨rs,c,rk⟩:=qj (P:=X.prog) (w:=X.w) rel;obtain⟨z,hd,SK,r0,dd⟩:=Nq I2.hok e;cases r0;refine⟨rs,c,dd,λh' OW hs=>⟨.ref s.heap.objs.size,_,?_,rfl,q2⟩⟩;have hz:(kH [] kvs).length<=sizeLine:=by
  have h1:=lP kvs [];rw[UA]at h1;rw[UD];omega
 have he:∃q,h'.get? s.heap.objs.size=some q:=let ⟨q,_,_,hq,_⟩:=OW;⟨q,hq⟩;exact FU I2 (by rw[e];exact True.intro) hs he (Jc hz hd (rk.merge .nil) OW)
inductive JP:List (D×D)->List (Option Expr)->List Expr->Prop
 |nil:JP [] [] []
 |cons {k v:List Nat} {x y:Str} {i j} {p q:Pos} {kvs:List (D×D)} {ks:List (Option Expr)} {vs:List Expr} (h:JP kvs ks vs) (hx:x=aA k:=by decide +kernel) (hy:y=aA v:=by decide +kernel):JP ((.str k,.str v) :: kvs) (some (.Constant (.str x) i p) :: ks) (.Constant (.str y) j q :: vs)
def oS:List (D×D)->List (Key×V)
 | (.str k,.str v) :: r=>(Sum.inr (aA k),V.str (aA v)) :: oS r
 |_=>[]
def Kq{X:Cx}{kvs:List (D×D)}{ks:List (Option Expr)}{vs:List Expr}(h:JP kvs ks vs):∃jT,AO X pos ks vs jT/\(∀σ H Q,Q ((oS kvs).map λkv=>(kV kv.1,kv.2)) H->qi jT σ H Q)/\ks.all (·.isSome)=true/\ks.length=vs.length/\ks.length=kvs.length/\(oS kvs).length=kvs.length:=by
 induction h with
 |nil=>exact⟨[],Ga,λ_ _ _ h=>h,rfl,rfl,rfl,rfl⟩
 |cons _ hx hy ih=>
  obtain⟨jT,h1,h2,h3,h4,h5,h6⟩:=ih;subst hx;subst hy;exact⟨_,CY uw uw h1,λσ H Q h=>h2 σ H _ h,by simp[h3],by simp[h4],by simp[h5],by simp[oS,h6]⟩
theorem vj{s:List Nat}{r:D}:∀{kvs:List (D×D)},lz kvs=true->Ev.dB (.str s) kvs=some r->∃t,r=.str t/\t.length<=1000/\jD (oS kvs) (Sum.inr (aA s):Key)=some (.str (aA t))
 |[],_,e=>by simp[Ev.dB]at e
 | (k,v) :: l,ha,e=>by
  cases k<;>cases v<;>simp only[lz,Mb,fW,SD]at ha
  rename_i k v;simp only[Ev.dB]at e;rw[show Ev.fP [] 1 (.str k) (.str s)=some (k==s)from rfl]at e;by_cases h:k=s
  .subst h;simp at e;subst e;exact⟨v,rfl,ha.1,pe rfl⟩
  .rw[show(k==s)=false by simpa using h]at e;obtain⟨t,h1,h2,h3⟩:=vj ha.2 e;refine⟨t,h1,h2,?_⟩;rw[<-h3];have hne:¬ (Sum.inr (aA k):Key)=Sum.inr (aA s):=λz=>h (jt (Sum.inr.inj z));simp only[oS,jD,Ut];rw[DX hne]
def GI{kvs:List (D×D)}{keys:List (Option Expr)}{vals:List Expr}{dp:Pos}(hj:JP kvs keys vals)(ha:JE G n sc N df m a xa)(hk:lz kvs=true:=by decide)(h0:keys≠[]:=by exact λh=>nomatch h)(OV:kvs.length<=15:=by decide)
  (RD:kH [] (oS kvs)=oS kvs:=by decide +kernel) (hs:CV xa:=by intro _ _;rfl):JE G n sc N df m (.dJ kvs a) (.Subscript (.Dict keys vals dp) xa pos):=λX g=>by
 obtain⟨jT,p1,p2,p3,p4,p5,p6⟩:=Kq (X:=X) (pos:=dp) hj;refine PE.of (FZ (Np g.room) (Dt p1 p3 p4 h0 (by omega)) (ha X g) hs) λs H Q q=>?_;obtain⟨r,fr,h,d,h',sr,hr,e,q⟩:=q;simp only[Ev.ev]at e;obtain⟨y,h1,e1,e2⟩:=Ev.ah e;obtain⟨e3,y0⟩:=Ev.aD e2;subst y0;obtain⟨sx,rfl⟩:=pK hk e3;obtain⟨t,rfl,ht,hl⟩:=vj hk e3;intro p hp hpk;have RE:p∉r:=λz=>by
  obtain⟨i,hi⟩:=UK z;have hlt:i<h.length:=by rw[<-hr.len];exact(List.getElem?_eq_some_iff.mp hi).1
  obtain⟨b,b1,b2⟩:=hr.ob i _ (tP hlt);rw[hi]at b1;cases b1;cases eo:h[i]with
  |lst dd=>rw[eo]at b2;obtain⟨_,c,_⟩:=b2;rw[hp]at c;cases c
  |bB dd=>
   rw[eo]at b2;obtain⟨_,c,_⟩:=b2;rcases c with ⟨_,c⟩|⟨_,_,_,c,_⟩
   .rw[hp]at c;cases c
   .rw[hpk]at c;cases c
 refine p2 _ _ _ ⟨cB,oS kvs,rfl,by omega,?_⟩;rw[Fv,RD];refine⟨r,fr,h,.str sx,_,sr.mono (Fm.tup hp),hr.tup hp,e1,λv H2 r2 v2 hr2 f2=>?_⟩;simp only[RV]at v2;obtain⟨rfl,_⟩:=v2;exact⟨p,.str (aA t),rfl,.inl ⟨oS kvs,Sum.inr (aA sx),.inl (f2.keep p _ cB RE),rfl,hl.symm⟩,q _ H2 r2 ⟨rfl,HK ht (by rw[UD];decide)⟩ hr2 ((Fm.tup hp).trans f2)⟩
end
section
variable{G:Tb}{n:Nat}{sc:Scope}{N:List Str}{df:Bool}{m:List Nat}{a b c:E}{xa:Expr}{pos:Pos}
noncomputable def zJ:List (D×D)->Option (List (List Nat))
 |[]=>some []
 | (.str k,.str _) :: r=>(zJ r).map λl=>k :: l
 |_=>none
theorem vm{t:List Nat}:∀{kvs:List (D×D)}{ks:List (List Nat)},zJ kvs=some ks->(PySem.Spec.lookup (.str (aA t)) (tabOf kvs)).isSome=ks.contains t
 |[],ks,e=>by cases e;rfl
 | (.str k,.str v) :: l,ks,e=>by
  simp only[zJ]at e;obtain⟨l',e3,rfl⟩:=Option.map_eq_some_iff.mp e;simp only[tabOf,PySem.Spec.lookup];rw[Vv,UC];by_cases h:k=t
  .subst h;simp
  .have h2:¬ aA k=aA t:=λz=>h (by simpa using jt z);rw[DX h2,show(t==k)=false from by simp;exact λz=>h z.symm];exact vm e3
theorem xZ{h:Hh}{t:List Nat}:∀(ks:List (List Nat)),Ev.mem h (.str t) (ks.map D.str)=some (ks.contains t)
 |[]=>rfl
 |k :: ks=>by
  have e:Ev.fP h Ev.deep (.str k) (.str t)=some (decide (k=t)):=by
   show some (k==t)=_;by_cases q:k=t<;>simp[q]
  simp only[we,Ev.mem,e,xZ ks,UC];by_cases q:k=t
  .subst q;simp
  .have:(t==k)=false:=by simp;exact λz=>q z.symm
   simp[q,this]
def Kr {x:Str}{kvs:List (D×D)}{ks:List (List Nat)}{p:Pos}(hm:(x,kvs)∈G.dk) (ha:JE G n sc N df m a xa) (hk:zJ kvs=some ks:=by decide +kernel) (hg:sc.names.lookup x=some .globalImplicit:=by rfl) (hd:(x==("__debug__" : Str))=false:=by decide) :
    JT G n sc N df m (.cmp .cC (.bin .add a (.c (.str []))) (.c (.tup (ks.map D.str)))) (.Compare xa [.NotIn] [.Name x p] pos):=λX g=>by
  obtain⟨ad,hmg,htab⟩:=g.dk x kvs hm;have pc:PC X .NotIn xa (.Name x p) (λσ H Q=>tJ X.K m (Ev.run G.F G.w n) a σ H λy H1=>∃t,y=.str (aA t)/\Q (.bl (!ks.contains t)) H1):=by
    intro pins s σ H Q I h;refine aQ (ha X g pins s σ H _ I h) λiv s1 ⟨y,H1,I1,ry,t,ey,q1⟩=>aQ (jr (v:=.ref ad) (pos:=p) (g.gl hg) hmg rfl hd pins s1 σ H1 (λv H2=>v=.ref ad/\Q (.bl (!ks.contains t)) H2) I1 ⟨rfl,q1⟩) λu s2 ⟨z,H2,I2,rz,ez,q2⟩=>?_;subst ey;subst ez;obtain rfl:u=Value.ref ad:=rz;obtain⟨tk,rfl⟩:=ry;refine notin_strTab (htab s2.heap I2.dY) ?_;rw[vm hk];exact⟨.bl _,H2,I2.tok _,rfl,q2⟩
  refine PT.of (Ip pc) λs H Q q=>?_;obtain⟨r,fr,h,k,h',sr,hr,e,q⟩:=q;simp only[Ev.aC,Ev.ev]at e;obtain⟨d,h1,e1,e9⟩:=Ev.ah e;obtain⟨y,h2,e2,e3⟩:=Ev.ah e1;simp only[Ev.aj]at e3;obtain⟨e4,y0⟩:=Ev.aD e3;obtain⟨e5,y1⟩:=Ev.aD e9;subst y0;subst y1;obtain⟨b,e6,rfl⟩:=Option.map_eq_some_iff.mp e4;simp only[Ev.truthy,WH]at e5;subst e5;have e7:(Ev.isin y (.tup (ks.map D.str)) h').map (!·)=some b:=e6;obtain⟨b',e8,rfl⟩:=Option.map_eq_some_iff.mp e7;have e8:Ev.mem h' y (ks.map D.str)=some b':=e8;obtain⟨x0,h3,Ba,x6⟩:=Ev.ah e2;simp only[Ev.aj]at x6;have hy:∃t,x0=.str t/\y=.str t/\h'=h3:=by
    cases x0<;>simp only[Ev.bG]at x6
    all_goals first
      |cases x6
      | (split at x6
         . cases x6;exact⟨_,rfl,by simp,rfl⟩
         . cases x6)
  obtain⟨t,rfl,rfl,rfl⟩:=hy;rw[xZ]at e8;cases e8;refine⟨r,fr,h,.str t,_,sr,hr,Ba,λv H1 r1 v1 hr1 f1=>?_⟩;simp only[RV]at v1;exact⟨t,v1.1,_,rfl,q _ _ hr1 f1⟩
end
end Sm
namespace Sm
open PySem PySem.Spec PyProof.Rows L2
open Ev (D O Hh Fr R aB E Es Eo It T S Ss Fl Src bu aV TY BI ME)
variable{G:Tb}{n:Nat}{sc:Scope}{N:List Str}{df:Bool}{m:List Nat}{a b:E}{x:Expr}
def Dv{P:aB}{fr:Fr}{h h':Hh}{d:D}(e:Ev.ev P (.fh a b) fr h=.ok d h'):Ev.ev P (.bin .add a b) fr h=.ok d h':=by
 simp only[Ev.ev]at e ⊢;obtain⟨x,h1,e1,e⟩:=Ev.ah e;obtain⟨y,h2,e2,e⟩:=Ev.ah e;rw[e1,Ev.aj,e2,Ev.aj];unfold Ev.C3 at e;split at e
 .exact e
 .cases e
def GJ(h:JE G n sc N df m (.bin .add a b) x):JE G n sc N df m (.fh a b) x:=λX g=>PE.of (h X g) λs H Q q=>by
 obtain⟨r,fr,h,d,h',sr,hr,e,q⟩:=q;exact⟨r,fr,h,d,h',sr,hr,Dv e,q⟩
end Sm
namespace Sm
open PySem PySem.Spec PyProof.Rows L2 PySem.W
def XI(h:Heap)(x C:Addr):Prop:=∃ox:Obj,h.get? x=some ox/\ox.cls=.ref C/\∃vs,ox.data=.fields vs
structure XC(K:PySem.W.Frag)(C:Addr):Prop where
 ob:∃nm q N bs bm hdct sn sub ab col dd k0 k1 k2 k3 k5 newId,K.lookup C=some (excClassObj nm q C N bs bm hdct sn sub ab col dd k0 k1 k2 k3 k5 newId)/\∀h:Heap,K.In h->OwnTailQ h [.type "ValueError",.type "Exception",.type "BaseException",.type "object"] bm
 ga:findIn K (.ref C) "__getattribute__" = some (some (.builtin "BaseException.__getattribute__"))
 gh:findIn K (.ref C) "__getattr__" = some none
 cl:findIn K (.ref C) "__class__" = some (some (.builtin "object.__class__"))
 so:subIn K (.ref C) (.type "object")=some true
 me:kitCls K (.ref C) (.ref C)=some true
section
variable{prog:Program}{w:World}{A:Around}{E:Value->Shared->Prop}{s:Shared}{K:PySem.W.Frag}{x C:Addr}
def nR{M:Model}{h:Heap}(i:XI h x C):Looks M h (typeOf (.ref x)) (.ref C):=λA Q E s k q=>by
 obtain⟨ox,h1,h2,_⟩:=i;exact wpAny_typeOf_ref (k _ _ h1) (by rw[h2];exact q)
def Ks {R:Result->Shared->Prop}{tp:Value}(cS:K.In s.heap) (i:XI s.heap x C) (so:subIn K (.ref C) (.type "object")=some true) (h:R (.ok (.ret (.ref C))) s) :
  codeAny (model prog w) A (.call (.builtin "getset_descriptor.__get__") ⟨[.builtin "object.__class__",.ref x,tp],[]⟩) R s:=by
 refine codeAny_call_builtin (by decide +kernel) KF.entry_gs (KF.slot_gs.check _ _ _ _ _ _ _ _ Wr (KF.args_gs _ _ _) ?_);unfold Builtin.«getset_descriptor.__get__» Builtin.Getset_descriptor.descrGet;rw[dga_obj];show wpAny _ _ (do Builtin.Getset_descriptor.descrCheckInstance (.builtin "object.__class__") (.ref x);again _) _ _ _;refine b8 ?_;unfold Builtin.Getset_descriptor.descrCheckInstance;have e1:Builtin.Getset_descriptor.descrNameAndClass (.builtin "object.__class__")=pure (("__class__" : Str),Value.type "object"):=by kernel_rfl
 rw[e1];show wpAny _ _ (do let b <-isInstance (.ref x) (.type "object");_) _ _ _;refine b8 ?_;unfold isInstance;refine b8 (nR i _ _ _ _ (λ_ _ e=>e) ?_);refine looks_subIn cS so _ _ _ _ (λ_ _ e=>e) ?_;refine eS ?_;refine eS ⟨by kernel_rfl,?_⟩;refine codeAny_builtin KF.entry_class ?_;show wpAny _ _ (do let t <-shownTypeOf (.ref x);ret t) _ _ _;refine b8 ?_;unfold shownTypeOf;refine b8 (nR i _ _ _ _ (λ_ _ e=>e) ?_);refine eS ?_;exact eS h
def GK {M:Model}{h:Heap}(cS:K.In h) (cl:findIn K (.ref C) "__class__" = some (some (.builtin "object.__class__"))):Looks M h (Builtin.ObjectAttr.find (.ref x) (.ref C) "__class__") (.bind (.builtin "getset_descriptor.__get__") (.builtin "object.__class__")):=λA Q E s k q=>by
 unfold Builtin.ObjectAttr.find;refine b8 (VL cS cl _ _ _ _ k ?_);refine b8 ?_;show wpAny _ _ (specialOf _ _) _ _ _;unfold specialOf;rw[Wr];show wpAny _ _ (typeLookup (.type "getset_descriptor") _) _ _ _;refine VL cS (K:=K) (t:=.type "getset_descriptor") (r:=some (.builtin "getset_descriptor.__get__")) (by kernel_rfl) _ _ _ _ k ?_;refine b8 ?_;show wpAny _ _ (do let b <-Builtin.ObjectAttr.takesStores _;_) _ _ _;refine b8 ?_;unfold Builtin.ObjectAttr.takesStores;refine b8 ?_;unfold specialOf;rw[Wr];show wpAny _ _ (typeLookup (.type "getset_descriptor") _) _ _ _;refine VL cS (K:=K) (t:=.type "getset_descriptor") (r:=some (.builtin "getset_descriptor.__set__")) (by kernel_rfl) _ _ _ _ k ?_;refine eS ?_;refine eS ?_;exact b8 (wpAny_rule (eS q))
def Dw {Q:Option Value->Shared->Prop}(c:XC K C) (cS:K.In s.heap) (i:XI s.heap x C) (h:Q (some (.ref C)) { s with toks:=s.toks+1 }):wpAny (model prog w) A (getAttr? (.ref x) "__class__") Q E s:=by
 obtain⟨⟨nm,q,N,bs,bm,hdct,sn,sub,ab,col,dd,k0,k1,k2,k3,k5,newId,lk,ht⟩,ga,gh,cl,so,me⟩:=c;obtain⟨ox,i1,i2,_⟩:=id i;unfold getAttr?;refine b8 (wpAny_mkText ?_);unfold getAttrBy?;refine b8 (wpAny_attempt ?_);unfold getAttrBy;refine UL (b8 (nR i _ _ _ _ (λ_ _ e=>e) ?_));refine b8 (VL cS ga _ _ _ _ (λ_ _ e=>e) ?_);show wpAny _ _ (getAttrByItsOwn _ _ _ _ _ _) _ _ _;unfold getAttrByItsOwn;refine b8 (looks_hook cS (mc:=.ref C) (r:=none) gh _ _ _ _ (λ_ _ e=>e) ?_);refine b8 (wpAny_attempt (UL ?_));show wpAny _ _ (boundAndCalled _ _ _) _ _ _;unfold boundAndCalled;rw[PySem.F.attrBase_ValueError.ga.bind];show wpAny _ _ (call (.builtin "BaseException.__getattribute__") [.ref x,.str "__class__" s.toks]) _ _ _;refine Wh (codeAny_call_builtin (by decide +kernel) PySem.F.entry_bexc_ga (wpAny_check_ga_own PySem.F.attrBase_ValueError (cS _ _ lk) (ht _ cS) i1 i2 ?_));unfold Builtin.«object.__getattribute__»;have e1:slotArgs "__getattribute__" 1 ⟨[.ref x,.str "__class__" s.toks],[]⟩=pure (Value.ref x,[Value.str "__class__" s.toks]):=rfl;rw[e1];show wpAny _ _ (do let tp <-typeOf (.ref x);_) _ _ _;refine b8 (nR i _ _ _ _ (λ_ _ e=>e) ?_);refine b8 (GK cS cl _ _ _ _ (λ_ _ e=>e) ?_);show wpAny _ _ (do let r <-holding _ (call _ _);ret r) _ _ _;refine b8 (UL (Wh (Ks cS i so ?_)));refine eS ?_;refine eS ?_;exact eS h
def Ku(c:XC K C):KitX K (.ref x) (.ref C) (λh=>XI h x C):=by
 refine⟨λM h cS i=>nR i,λM h cS _=>(kit_cls cS c.me).2.1,λh tp dd its n sl cS e=>?_,λ{prog w A E Q s} cS i hq=>Dw c cS i hq⟩;by_cases z:C=tp
 .subst z;obtain⟨nm,q,N,bs,bm,hdct,sn,sub,ab,col,dd,k0,k1,k2,k3,k5,newId,lk,ht⟩:=c.ob;have:=cS _ _ lk;rw[e]at this;have z:=Pc Obj.cls (pV this);injection z with z
  exact absurd z (by decide)
 .simpa using z
def Kv(c:XC K C){D:Value}{b:Bool}(cS:K.In s.heap)(i:XI s.heap x C)(e:kitOne K (.ref C) D=some b){Q:Value->Shared->Prop}(h:∀tk,Q (.bool b) { s with toks:=tk }) :
  wpAny (model prog w) A (call (.builtin "isinstance") [.ref x,D]) Q E s:=kia_one (Ku c) cS i e (λz=>nomatch z) h
end
def Bj(l:List Env)(H':Hp)(h g B:Heap):Prop:=∀b o,g.get? b=some o->((H' b).isSome=true\/(h.get? b).isSome=true)->b∉frs l->B.get? b=some o
structure fR(P:Program)(w:World)(l:List Env)(H:Hp)(s:Shared)(a C:Addr)(H':Hp)(s':Shared):Prop where
 os:s'.os=s.os
 bare:AllBare s'.gens
 un:Un (frs l) [] H H' s.heap s'.heap
 hok:dw P w H' s'.heap
 fl:∃B a0,Heap.FlyingW B l a (.ref C) a0 s'.heap/\Bj l H' s.heap s'.heap B
noncomputable def qy(P:Program)(w:World):kE:=λouter H s E e s'=>∃a C H',e=.ref a/\fR P w outer H s a C H' s'/\E (.ref C) none H'
def Bk{P:Program}{w:World}{H:Hp}{h:Heap}{a:Addr}{o:HO}(x:b5 P w H h a o):∃ob,h.get? a=some ob:=by
 cases o with
 |lst xs=>obtain⟨_,_,_,_,e⟩:=x;exact⟨_,e⟩
 |tup xs=>obtain⟨_,_,_,ob,e,_⟩:=x;exact⟨_,e⟩
 |dK kvs=>obtain⟨_,_,_,_,o,_,_,e,_⟩:=x;exact⟨_,e⟩
 |dT kvs=>obtain⟨_,_,_,_,o,_,_,e,_⟩:=x;exact⟨_,e⟩
 |set S n=>obtain⟨o,_,_,_,e,_⟩:=x;exact⟨_,e⟩
 |ins C dx fs=>obtain⟨_,_,_,e,_⟩:=x;exact⟨_,e⟩
 |own y=>obtain⟨_,e⟩:=x;exact⟨_,e⟩
 |xd fs=>obtain⟨_,⟨_,_,_,e,_⟩,_⟩:=x;exact⟨_,e⟩
 |fz lo hi=>obtain⟨_,_,_,e⟩:=x;exact⟨_,e⟩
 |bB ob u=>obtain⟨e,_⟩:=x;exact⟨_,e⟩
 |rY ps=>exact⟨_,(show h.get? a=some _ from x)⟩
 |met f y=>exact⟨_,(show h.get? a=some _ from x)⟩
 |ext φ=>obtain⟨_,e,_⟩:=x;exact e
def jK{P:Program}{w:World}{l:List Env}{H H':Hp}{h g g2 B:Heap}(u:Un (frs l) [] H H' h g)(hok:dw P w H' g)(jL:Bj l H' h g B)(st:Heap.StaysIn B g2)(up:∀b∈frs l,∀o,g.get? b=some o->∃sl,g2.get? b=some { o with slots:=sl })(hb:∀b∈frs l,H' b=none) :
  Un (frs l) [] H H' h g2/\dw P w H' g2/\Bj l H' h g2 B:=by
 have same:∀b o,g.get? b=some o->((H' b).isSome=true\/(h.get? b).isSome=true)->b∉frs l->g2.get? b=some o:=λb o e z n=>st b o (jL b o e z n);refine⟨⟨λb o e n hf hx=>same b o (u.keep b o e n hf hx) (.inr (by rw[e];rfl)) hf,λb o e n hf hx=>?_,u.free,λb o e hx=>?_,u.tups,u.jy,u.kg⟩,λa o e=>?_,λb o e z n=>?_⟩
 .obtain⟨sl,e1⟩:=u.slot b o e n hf hx;obtain⟨sl2,e2⟩:=up b hf _ e1;exact⟨sl2,e2⟩
 .obtain⟨o',e1⟩:=u.there b o e hx;by_cases hf:b∈frs l
  .obtain⟨sl,e2⟩:=up b hf _ e1;exact⟨_,e2⟩
  .exact⟨o',same b o' e1 (.inr (by rw[e];rfl)) hf⟩
 .refine(hok a o e).stay (λb v z q=>?_) (λ_ q=>q) λ_ _ q=>q;have tr:(H' b).isSome=true:=by
   rcases z with z|z
   .rw[z,e];rfl
   .rw[z];rfl
  exact same b v q (.inl tr) λhf=>by rw[hb b hf]at tr;cases tr
 .have ex:∃o',g.get? b=some o':=by
   rcases z with z|z
   .obtain⟨x,e1⟩:=Option.isSome_iff_exists.mp z;exact Bk (hok b x e1)
   .obtain⟨x,e1⟩:=Option.isSome_iff_exists.mp z;exact u.there b x e1 (by simp)
  obtain⟨o',e1⟩:=ex;have e2:=same b o' e1 z n;rw[e]at e2;cases e2;exact jL b o e1 z n
section
variable{X:Cx}{pins:List (Addr×Obj)}{σ:L2.St}{H H':Hp}{s s':Shared}{a C:Addr}
def lA(I:Inv X pins σ H s)(u:Un (frs X.stack) [] H H' s.heap s'.heap):∀b∈frs X.stack,H' b=none:=λb hb=>by
 obtain⟨_,o,ho,_⟩:=I.stack.mem hb;exact u.free b o ho (I.nG b hb) (by simp)
def tu(hx:X.ex=[])(hs:X.stack=X.env :: X.outer)(I:Inv X pins σ H s){g2:Heap}{B:Heap}{a0:Value}(os:s'.os=s.os)(bare:AllBare s'.gens)(u:Un (frs X.stack) [] H H' s.heap s'.heap)(hok:dw X.prog X.w H' s'.heap)(jL:Bj X.stack H' s.heap s'.heap B)
  (ff:∀b∈frs X.stack,∃o,s'.heap.get? b=some o/\∀vs,o.data≠.fields vs) (fl:Heap.FlyingW B X.outer a (.ref C) a0 g2) (up:Heap.UpToSlots s'.heap g2):fR X.prog X.w X.outer X.H₀ X.s₀ a C H' { s' with heap:=g2 }:=by
 obtain⟨u2,mW,pO⟩:=jK u hok jL fl.1 (λb hb o e=>by
  obtain⟨o',e1,e2⟩:=ff b hb;rw[e]at e1;cases e1;exact up b o e e2) (lA I u)
 have I2:Inv X pins σ H' { s' with heap:=g2 }:=I.qc (s':={ s' with heap:=g2 }) (ch:=[]) os u2 mW bare (λb z=>absurd z (by simp));refine⟨os.trans I.os,bare,by have:=I2.base;rw[hx]at this;exact this,mW,B,a0,fl,λb o e z n=>?_⟩;have hne:b≠X.env.locals:=λy=>by
  rcases z with z|z
  .rw[y,I2.free]at z;cases z
  .obtain⟨x,e1⟩:=Option.isSome_iff_exists.mp z;rw[y]at e1;exact absurd (rT e1) (Nat.not_lt.mpr I.ok.above)
 refine pO b o e (z.imp id λz=>?_) λhb=>?_
 .obtain⟨x,e1⟩:=Option.isSome_iff_exists.mp z;obtain⟨x',e2⟩:=I.base.there b x e1 (by rw[hx];simp);rw[e2];rfl
 .rcases List.mem_cons.mp (I.ku b hb)with y|y
  .exact hne y
  .exact n y
theorem lB:∀{l:List Env}{h base B:Heap},Heap.FunFrames h base l->(∀b∈frs l,B.get? b=none)->Heap.FunFrames h B l
 |[],_,_,_,_,_=>trivial
 |env :: r,h,base,B,hl,n=>by
  obtain⟨hk,⟨L,o,hf,hn,ho,hd⟩,hr⟩:=hl;exact⟨hk,⟨L,o,hf,n L (by unfold frs;rw[Om,hf];exact T7),ho,hd⟩,lB hr λb hb=>n b (by unfold frs;rw[Om,hf];exact Mi _ hb)⟩
def Dy{Q:Unit->Shared->Prop}{E:Value->Shared->Prop}(hx:X.ex=[])(hs:X.stack=X.env :: X.outer)(hf:X.env.frame=some X.env.locals)(I:Inv X pins σ H s)(f:fR X.prog X.w X.stack H s a C H' s')(q:∀s'',fR X.prog X.w X.outer X.H₀ X.s₀ a C H' s''->Q () s'') :
  wpAny (model X.prog X.w) X.A (leaving X.env (.ref a)) Q E s':=by
 obtain⟨os,bare,un,hok,B,a0,fl,jL⟩:=f;have ff:∀b∈frs X.stack,∃o,s'.heap.get? b=some o/\∀vs,o.data≠.fields vs:=λb hb=>(fl.2.2.1.mem hb).2;rw[hs]at fl;exact wpAny_leaves_onW (by rw[I.ok.frames,hs]) hf fl λh' vn up=>q _ (tu hx hs I os bare un hok jL ff vn up)
def zK{Q:Unit->Shared->Prop}{E:Value->Shared->Prop}{h1:Heap}{args:List Value}(hx:X.ex=[])(hs:X.stack=X.env :: X.outer)(hf:X.env.frame=some X.env.locals)(I:Inv X pins σ H s)(m:Heap.MadeExcOf s.heap h1 a (.ref C) args)(q:∀s'',fR X.prog X.w X.outer X.H₀ X.s₀ a C H s''->Q () s'') :
  wpAny (model X.prog X.w) X.A (leaving X.env (.ref a)) Q E { s with heap:=h1 }:=by
 have cut:∀b∈frs X.stack,(hideAll s.heap (frs X.stack)).get? b=none:=λb hb=>hideAll_none _ hb;have Kw:=lB (B:=hideAll s.heap (frs X.stack)) I.stack cut;have ff:∀b∈frs X.stack,∃o,s.heap.get? b=some o/\∀vs,o.data≠.fields vs:=λb hb=>(Kw.mem hb).2;refine wpAny_leaves_madeW (base:=hideAll s.heap (frs X.stack)) (h:=s.heap) (by rw[I.ok.frames,hs]) hf (λb o e=>of_hideAll _ e) (by rw[hs]at Kw ⊢;exact Kw) m λh' t vn _ _ up=>q _ ?_;have:=tu (s':=s) hx hs I (g2:=h') rfl I.bare Un.refl I.hok (B:=hideAll s.heap (frs X.stack)) (λb o e _ n=>hideAll_get _ e n) ff vn λb o e hd=>up b o (m.keeps b o e) hd;exact this
def fR.inv(f:fR X.prog X.w X.stack H s a C H' s')(I:Inv X pins σ H s):Inv X pins σ H' s':=I.qc (ch:=[]) f.os f.un f.hok f.bare (λb z=>absurd z (by simp))
def fR.xi{P:Program}{w:World}{l:List Env}(f:fR P w l H s a C H' s'):XI s'.heap a C:=by
 obtain⟨B,a0,fl,_⟩:=f.fl;obtain⟨oe,vs,T,oT,ts,h1,h2,h3,_⟩:=fl.2.2.2;exact⟨oe,h1,h2.1,vs,h3⟩
def fR.new{P:Program}{w:World}{l:List Env}(f:fR P w l H s a C H' s'):a∉frs l/\H' a=none:=by
 obtain⟨oe,h1,h2,vs,h3⟩:=f.xi;obtain⟨B,a0,fl,jL⟩:=f.fl;have n1:a∉frs l:=λhb=>by
  obtain⟨_,o,e1,e2⟩:=fl.2.2.1.mem hb;rw[h1]at e1;cases e1;exact e2 vs h3
 refine⟨n1,?_⟩;cases z:H' a with
 |none=>rfl
 |some x=>
  have:=jL a oe h1 (.inl (by rw[z];rfl)) n1;rw[fl.2.1]at this;cases this
def fR.on{A:Around}{M:Model}{P:Program}{w:World}{l:List Env}{Q:Unit->Shared->Prop}{E:Value->Shared->Prop}(f:fR P w l H s a C H' s')(hb:∀b∈frs l,H' b=none)(q:∀s'',fR P w l H s a C H' s''->Q () s''):wpAny M A (setFlight (.ref a) none) Q E s':=by
 obtain⟨os,bare,un,hok,B,a0,fl,jL⟩:=f;refine lands_againW fl λh2 Bl up=>q _ ?_;obtain⟨u2,mW,pO⟩:=jK un hok jL Bl.1 (λb hb o e=>by
  obtain⟨_,o',e1,e2⟩:=fl.2.2.1.mem hb;rw[e]at e1;cases e1;exact up b o e e2) hb
 exact⟨os,bare,u2,mW,B,a0,Bl,pO⟩
def zL(I:Inv X pins σ H s)(f:fR X.prog X.w X.stack H s a C H' s')(hs:X.stack=X.env :: X.outer)(hf:X.env.frame=some X.env.locals){Q:Unit->Shared->Prop}{E:Value->Shared->Prop}
  (q:∀s'',fR X.prog X.w X.stack H s a C H' s''->Q () s''):wpAny (model X.prog X.w) X.A (noteFrame (.ref a) X.env) (λ_ s₂=>wpAny (model X.prog X.w) X.A (setFlight (.ref a) none) Q E s₂) E s':=by
 obtain⟨os,bare,un,hok,B,a0,fl,jL⟩:=f;have ff:∀b∈frs X.stack,∃o,s'.heap.get? b=some o/\∀vs,o.data≠.fields vs:=λb hb=>(fl.2.2.1.mem hb).2;have fr:=lA I un;rw[hs]at fl;refine wpAny_looks_onW (by rw[I.ok.frames,hs]) hf fl λh1 hl1 up1=>wpAny_landsW hl1 λh2 Bl RG=>q _ ?_;obtain⟨u2,mW,pO⟩:=jK un hok jL Bl.1 (λb hb o e=>by
  obtain⟨o',e1,e2⟩:=ff b hb;rw[e]at e1;cases e1;obtain⟨sl,e3⟩:=up1 b o e e2;obtain⟨sl2,e4⟩:=RG b _ e3 e2;exact⟨sl2,e4⟩) fr
 exact⟨os,bare,u2,mW,B,a0,by rw[hs];exact Bl,pO⟩
end
section
variable{X:Cx}
def Ky{e:Expr}{t t':TE}(h:PE X e t)(w:∀s H Q,t' s H Q->t s H Q):PE X e t':=λpins s σ H Q I q=>h pins s σ H Q I (w _ _ _ q)
def GL{st:List Stmt}{t t':TS}(h:gj X st t)(w:∀D σ H,t' D σ H->t D σ H):gj X st t':=λpins s σ H D I q=>h pins s σ H D I (w _ _ _ q)
structure RH(K:PySem.W.Frag)(C D0:Addr)(c:Nat):Prop where
 xc:XC K C
 k0:kitOne K (.ref C) (.ref D0)=some true
 kv:kitOne K (.ref C) (.type "ValueError")=some true
 c0:c=0
end
section
variable{X:Cx}{pins:List (Addr×Obj)}{σ:L2.St}{H:Hp}{s s':Shared}
def Bm{M:Model}{A:Around}{E:Value->Shared->Prop}{i:Nat}{x:Str}{v:V}{Q:Unit->Shared->Prop}(I:Inv X pins σ H s)(hN:X.N.Nodup)(hi:X.N[i]?=some x)(hk:X.env.scope.names.lookup x=some .local)(hv:σ[i]?=some (some v))
  (h:∀s',Inv X pins (σ.set i none) H s'->Q () s'):wpAny M A (unbindName X.env x) Q E s:=by
 obtain⟨m,hn,hl⟩:=id I.loc;have hcls:(X.env.scope.kind==.class || (X.env.scope.kind==.module&&X.env.locals != X.env.globals))=false:=by rw[I.ok.kind];rfl
 have mh:=I.mh;obtain⟨u,r,q⟩:=hl i x v hi hv (.inl hk);have hm:m x=some u:=by
  rcases q with ⟨_,e⟩|⟨k,_⟩
  .exact e
  .rcases k with k|k
   .rw[show X.env.kindOf x=X.env.scope.names.lookup x from rfl,hk]at k;cases k
   .rw[show X.env.kindOf x=X.env.scope.names.lookup x from rfl,hk]at k;cases k
 refine wpAny_unbindName_local hk hn hm hcls λh' u' hn' hs=>?_;obtain⟨oL,_,_,OF,_⟩:=id hn;have tracked:dw X.prog X.w H h':=λb ob e=>by
  refine(I.hok b ob e).stay (λc w' hc q=>(hs.2 c ?_).trans q) (λ_ q=>q) λ_ _ q=>q;rintro rfl;rcases hc with rfl|hc
  .rw[I.free]at e;cases e
  .rw[I.free]at hc;cases hc
 refine h _ ⟨I.ok,I.os,I.bare,⟨λb o e n hb hx=>?_,λb o e n hb hx=>?_,I.base.free,λb o e hx=>?_,I.base.tups,I.base.jy,I.base.kg⟩,⟨_,hn',λj y v' e1 e2 e3=>?_⟩,λy c e=>?_,I.free,I.fY,λp hp=>?_,tracked,by simpa using I.len⟩
 .exact(hs.2 b (QT (dS (rT e) I.ok.above))).trans (I.base.keep b o e n hb hx)
 .obtain⟨sl,e1⟩:=I.base.slot b o e n hb hx;exact⟨sl,(hs.2 b (QT (dS (rT e) I.ok.above))).trans e1⟩
 .obtain⟨o',e1⟩:=I.base.there b o e hx;exact⟨o',(hs.2 b (QT (dS (rT e) I.ok.above))).trans e1⟩
 .have yZ:i<σ.length:=by rw[I.len];exact(List.getElem?_eq_some_iff.mp hi).1
  by_cases hj:j=i
  .subst hj;rw[tQ yZ]at e2;cases e2
  .rw[gV (UN hj)]at e2;obtain⟨u',r',q⟩:=hl j y v' e1 e2 e3;refine⟨u',r',?_⟩;rcases q with ⟨k,e⟩|⟨k,c,e,z⟩
   .refine .inl ⟨k,?_⟩;have:y≠x:=λe=>hj (o7 hN e1 (e▸hi));simp[this,e]
   .exact .inr ⟨k,c,e,z.sameBut hs (mh y c e)⟩
 .obtain⟨w',z⟩:=I.cell y c e;exact⟨w',z.sameBut hs (mh y c e)⟩
 .obtain⟨e,n,ne,nf,d⟩:=I.pin p hp;exact⟨(hs.2 p.1 ne).trans e,n,ne,nf,d⟩
end
end Sm
namespace Sm
open PySem PySem.Spec PyProof.Rows L2
open Ev (D O Hh Fr R aB E Es Eo It T S Ss Fl Src bu aV TY BI ME)
section
variable{M:Model}{A:Around}{E:Value->Shared->Prop}{s:Shared}
def Bo{base:Heap}{env:Env}{outer:List Env}{L e:Addr}{cls a0 y:Value}{Q:Unit->Shared->Prop}(hfr:A.frames=some (env :: outer))(hf:env.frame=some L)(kb:base.StaysIn s.heap)(hen:base.get? e=none)(hl:s.heap.FunFrames base (env :: outer))(ht:s.heap.TracedAtW base e cls a0 y)
  (hQ:∀h',Heap.FlyingW base outer e cls a0 h'->s.heap.UpToSlots h'->Q () { s with heap:=h' }):wpAny M A (leaving env (.ref e)) Q E s:=by
 by_cases hy:y=rawInt L
 .subst hy;unfold leaving;refine b8 (wpAny_noteFrame_againW hf ht ?_);exact wpAny_landsW ⟨kb,hen,hl,ht⟩ λh' fl up=>hQ h' ⟨fl.1,fl.2.1,fl.2.2.1.2.2,fl.2.2.2⟩ up
 .obtain⟨oe,vs,T,oT,ts,he,⟨hc,h0⟩,hd,h1,x8,x9,hT,mX,h3⟩:=ht;subst hc;unfold leaving noteFrame;simp only[hf];refine b8 (b8 (Us he hd h1 ?_));rw[cG (by simp)];refine b8 (Us hT mX h3 ?_);rw[Cd (by simpa using hy)];refine b8 (wpAny_setField hT mX (Array.getElem?_eq_some_iff.mp h3).1 ?_);have ot:∀b,b≠T->(s.heap.update T (Obj.mapFields (·.setIfInBounds 3 Value.none))).get? b=s.heap.get? b:=λb hb=>U8 _ _ (UN hb);have nr:∀b o,s.heap.get? b=some o->(∀vs,o.data≠.fields vs)->b≠T:=λb o hb hnf q=>by
   rw[q,hT]at hb;cases hb;exact hnf ts mX
  refine wpAny_newEntryW hfr (hl.of_keeps λb o hb hnf=>⟨o,(ot b (nr b o hb hnf)).trans hb,rfl⟩) hf ((ot e (UN x9)).trans he) (λb o vp=>(ot b λq=>by rw[q,x8]at vp;cases vp).trans (kb b o vp)) hen hd (Array.getElem?_eq_some_iff.mp h1).1 h0 λh' hL=>?_;obtain⟨k1,⟨_,_,k2⟩,k3,k4⟩:=hL;exact hQ h' ⟨k1,hen,k2,k3⟩ λb o hb hnf=>k4 b o ((ot b (nr b o hb hnf)).trans hb) hnf
def Dz{base:Heap}{l:List Env}{e:Addr}{cls a0 f:Value}{what:String}{cenv:Env}{E':Value->Shared->Prop}(kb:base.StaysIn s.heap)(hl:s.heap.FunFrames base l)(ht:s.heap.TracedAtW base e cls a0 f)
  (hQ:∀h' y,base.StaysIn h'->h'.FunFrames base l->h'.TracedAtW base e cls a0 y->s.heap.UpToSlots h'->E' (.ref e) { s with heap:=h' }):wpAny M A (PySem.passOn what (.ref e) cenv:Sem Value) (λ_ _=>False) E' s:=by
 obtain⟨oe,vs,T,oT,ts,he,hc,hd,h1,x8,x9,hT,mX,h3⟩:=ht;have z3:3<ts.size:=(Array.getElem?_eq_some_iff.mp h3).1;unfold PySem.passOn;refine b8 (Us he hd h1 ?_);rw[Cd (by simp)];unfold setFlight;refine b8 (b8 (Us he hd h1 ?_));rw[cG (by simp)];generalize (cenv.frame.elim Value.none λf=>rawInt f)=y
 have ot:∀b,b≠T->(s.heap.update T (Obj.mapFields (·.setIfInBounds 3 y))).get? b=s.heap.get? b:=λb hb=>U8 _ _ (UN hb);have nr:∀b o,s.heap.get? b=some o->(∀vs,o.data≠.fields vs)->b≠T:=λb o hb hnf q=>by
  rw[q,hT]at hb;cases hb;exact hnf ts mX
 refine wpAny_setField hT mX z3 (wpAny_throw (hQ _ y (λb o vp=>(ot b λq=>by rw[q,x8]at vp;cases vp).trans (kb b o vp)) (hl.of_keeps λb o hb hnf=>⟨o,(ot b (nr b o hb hnf)).trans hb,rfl⟩) ?_ λb o hb hnf=>⟨o.slots,(ot b (nr b o hb hnf)).trans hb⟩));exact⟨oe,vs,T,_,_,(ot e (UN x9)).trans he,hc,hd,h1,x8,x9,Heap.get?_update_self _ hT (Obj.isFreed_of_fields (Obj.data_mapFields mX _)),Obj.data_mapFields mX _,by simp[z3]⟩
end
section
variable{X:Cx}{pins:List (Addr×Obj)}{σ:L2.St}{H H':Hp}{s s':Shared}{a C K:Addr}
def Bp{M:Model}{A:Around}{E:Value->Shared->Prop}{Q:Unit->Shared->Prop}{e:Value}{env env':Env}(h:env'.frame=env.frame)(w:wpAny M A (noteFrame e env) Q E s):wpAny M A (noteFrame e env') Q E s:=by
 unfold noteFrame PySem.frameOf at w ⊢;rw[h];exact w
def Bq{Ex:XK}{E:Value->Shared->Prop}{E1:Value->Shared->Prop}{rF:Env}(hx:X.ex=[])(hs:X.stack=X.env :: X.outer)(hf:X.env.frame=some X.env.locals)(hC:rF.frame=X.env.frame)(I:Inv X pins σ H s)(f:fR X.prog X.w X.stack H s a C H' s')(q:Ex (.ref C) none H')
  (fp:eX X pins H' K) (hK:∃m,s.heap.Ns K m) (Kz:H K=none) :
  wpAny (model X.prog X.w) X.A (noteFrame (.ref a) rF) (λ_ s2=>(∃m,s2.heap.Ns K m)/\∀h'',Heap.SameBut K s2.heap h''->∀cenv:Env,cenv.locals=K->wpAny (model X.prog X.w) X.A (PySem.passOn "comprehension.variables-let-go" (.ref a) cenv:Sem Value) (λ_ _=>False)
   (λe s3=>wpAny (model X.prog X.w) X.A (leaving X.env e) (λ_ s4=>qy X.prog X.w X.outer X.H₀ X.s₀ Ex e s4) E1 s3) { s2 with heap:=h'' }) E s':=by
 obtain⟨os,bare,un,hok,B,a0,fl,jL⟩:=f;have ff:∀b∈frs X.stack,∃o,s'.heap.get? b=some o/\∀vs,o.data≠.fields vs:=λb hb=>(fl.2.2.1.mem hb).2;have EJ:K∉frs X.stack:=λz=>by
  rcases List.mem_cons.mp (I.ku K z)with y|y
  .exact fp.2.1 y
  .exact fp.2.2.1 y
 obtain⟨mK,oK,eK,KA,gK,rK⟩:=hK;have RI:s'.heap.get? K=some oK:=un.keep K oK gK Kz EJ (by simp);have bK:B.get? K=some oK:=jL K oK RI (.inr (by rw[gK];rfl)) EJ;refine Bp hC ?_;have fJ:=fl;rw[hs]at fJ;refine wpAny_looks_onW (by rw[I.ok.frames,hs]) hf fJ λh2 hd up=>?_;obtain⟨u2,mW,pO⟩:=jK un hok jL hd.1 (λb hb o e=>by
  obtain⟨o',e1,e2⟩:=ff b hb;rw[e]at e1;cases e1;exact up b o e e2) (lA I un)
 have I2:Inv X pins σ H' { s' with heap:=h2 }:=I.qc (s':={ s' with heap:=h2 }) (ch:=[]) os u2 mW bare (λb z=>absurd z (by simp));refine⟨⟨mK,oK,eK,KA,hd.1 K oK bK,rK⟩,λh'' sb cenv hc=>?_⟩;have I3:Inv X pins σ H' { s' with heap:=h'' }:=u0 I2 fp sb;have hb1:∀b o,(PySem.W.hideAll B [K]).get? b=some o->b≠K/\B.get? b=some o:=λb o e=>by
  refine⟨λz=>?_,Wy _ e⟩;rw[z,Wi [K] (by simp)]at e;cases e
 have st3:Heap.StaysIn (PySem.W.hideAll B [K]) h'':=λb o e=>by
  obtain⟨n1,e1⟩:=hb1 b o e;exact(sb.2 b n1).trans (hd.1 b o e1)
 have nb:∀b,B.get? b=none->(PySem.W.hideAll B [K]).get? b=none:=λb e=>by
  cases z:(PySem.W.hideAll B [K]).get? b with
  |none=>rfl
  |some o=>rw[(hb1 b o z).2]at e;cases e
 have OX:Heap.FunFrames h'' (PySem.W.hideAll B [K]) X.stack:=by
  have k1:=lB (B:=PySem.W.hideAll B [K]) (by rw[hs];exact hd.2.2.1:Heap.FunFrames h2 B X.stack) λb hb=>nb b ((by rw[hs];exact hd.2.2.1:Heap.FunFrames h2 B X.stack).mem hb).1;have gen:∀{l:List Env},(∀b∈frs l,b≠K)->Heap.FunFrames h2 (PySem.W.hideAll B [K]) l->Heap.FunFrames h'' (PySem.W.hideAll B [K]) l:=λ{l}=>by
   induction l with
   |nil=>intro _ _;trivial
   |cons env r ih=>
    intro hn ⟨hk,⟨L,o,hf,hnb,ho,AV⟩,hr⟩;refine⟨hk,⟨L,o,hf,hnb,(sb.2 L (hn L (by unfold frs;rw[Om,hf];exact T7))).trans ho,AV⟩,ih (λb hb=>hn b (by unfold frs;rw[Om,hf];exact Mi _ hb)) hr⟩
  exact gen (λb hb z=>EJ (z▸hb)) k1
 have RJ:Heap.TracedAtW h'' (PySem.W.hideAll B [K]) a (.ref C) a0 (rawInt X.env.locals):=by
  obtain⟨oe,vs,T,oT,ts,he,hcc,AV,h1,x8,x9,hT,mX,h3⟩:=hd.2.2.2;have OY:h2.get? K=some oK:=hd.1 K oK bK;have nf:∀vs,oK.data≠.fields vs:=λvs z=>by rw[rK.1]at z;cases z
  have na:a≠K:=λz=>by rw[z,OY]at he;cases he;exact nf _ AV
  have nT:T≠K:=λz=>by rw[z,OY]at hT;cases hT;exact nf _ mX
  exact⟨oe,vs,T,oT,ts,(sb.2 a na).trans he,hcc,AV,h1,nb T x8,x9,(sb.2 T nT).trans hT,mX,h3⟩
 refine Dz (s:={ s' with heap:=h'' }) st3 OX RJ λh3 y k1 k2 k3 RK=>?_;rw[hs]at k2;refine Bo (s:={ s' with heap:=h3 }) (by rw[I.ok.frames,hs]) hf k1 (nb a hd.2.1) k2 k3 λh4 OZ RL=>?_;have Qw:Bj X.outer H' X.s₀.heap h'' (PySem.W.hideAll B [K]):=λb o e z n=>by
  have nK:b≠K:=λy=>by
   rcases z with z|z
   .rw[y,fp.1]at z;cases z
   .obtain⟨x,e1⟩:=Option.isSome_iff_exists.mp z;rw[y]at e1;rcases fp.2.2.2.1 with y|y
    .rw[hx]at y;cases y
    .exact absurd (rT e1) (Nat.not_lt.mpr y)
  have nL:b≠X.env.locals:=λy=>by
   rcases z with z|z
   .rw[y,I3.free]at z;cases z
   .obtain⟨x,e1⟩:=Option.isSome_iff_exists.mp z;rw[y]at e1;exact absurd (rT e1) (Nat.not_lt.mpr I.ok.above)
  have e2:h2.get? b=some o:=(sb.2 b nK).symm.trans e;have:=pO b o e2 (z.imp id λz=>by
   obtain⟨x,e1⟩:=Option.isSome_iff_exists.mp z;obtain⟨x',e2⟩:=I.base.there b x e1 (by rw[hx];simp);rw[e2];rfl) λhb=>by
   rcases List.mem_cons.mp (I.ku b hb)with y|y
   .exact nL y
   .exact n y
  rw[Wt _ this (by simpa using nK)]
 have hb0:∀b∈frs X.outer,b∈frs X.stack:=λb hb=>by
  rw[hs];unfold frs;rw[Om,hf];exact Mi _ hb
 obtain⟨u4,Qx,Qy⟩:=jK (l:=X.outer) (g:=h'') (by have:=I3.base;rw[hx]at this;exact this) I3.hok Qw OZ.1 (λb hb o e=>by
  obtain⟨o',e1,e2⟩:=(OX.mem (hb0 b hb)).2;rw[e]at e1;cases e1;obtain⟨sl,e3⟩:=RK b o e e2;obtain⟨sl2,e4⟩:=RL b _ e3 e2;exact⟨sl2,e4⟩) (λb hb=>I3.nG b (hb0 b hb))
 exact⟨a,C,H',rfl,⟨I3.os,bare,u4,Qx,PySem.W.hideAll B [K],a0,OZ,Qy⟩,q⟩
end
abbrev EK:List Value:=[.type "ValueError",.type "Exception",.type "BaseException",.type "object"]
def Br (K:PySem.W.Frag) (C:Addr):Prop:=∃nm q N bs bm hdct sn sub ab col dd k0 k1 k2 k3 k5,K.lookup C=some (excClassObj nm q C N bs bm hdct sn sub ab col dd k0 k1 k2 k3 k5 "ValueError.__new__")/\bm.contains (.type "BaseException")=true/\∀h:Heap,K.In h->∃mN,h.Ns N mN/\mN "__init__" = none/\OwnTail h EK bm
def yc(K:PySem.W.Frag)(cl:Nat->Addr)(F:List Ev.Fn)(w n f:Nat):Sp:=λvs H Q E=>∃r h ds c h',aE K H r ds vs/\HR K H r h/\Ev.bF F w n f ds h=some (c,h')/\∀H' r',HR K H' r' h'->Fm K r r' H H'->E (.ref (cl c)) none H'
inductive tX(K:PySem.W.Frag)(cl:Nat->Addr)(m:List Nat)(E:XK)(f:Fr->Hh->Ev.XR)(s:L2.St)(H:Hp):Prop
 |mk (r:List Addr) (fr:Fr) (h:Hh) (c:Nat) (h':Hh) (sr:SR K m H r fr s) (hr:HR K H r h) (e:f fr h=some (c,h')) (q:∀H' r',HR K H' r' h'->Fm K r r' H H'->E (.ref (cl c)) none H'):tX K cl m E f s H
structure GX(G:Tb)(cl:Nat->Addr)(bE:List (Str×Nat))(rz su:List Nat)(n:Nat)(sc:Scope)(N:List Str)(df:Bool)(E:XK)(X:Cx):Prop where
 g:Good G n sc N df X.cT
 own:PassesOwn (model X.prog X.w) X.A X.env X.xe
 ps:Passes (qy X.prog X.w) X E
 md:∀(pins:List (Addr×Obj)) (σ:L2.St) (H:Hp) (s:Shared) (h1:Heap) (e C:Addr) (args:List Value),Inv X pins σ H s->Heap.MadeExcOf s.heap h1 e (.ref C) args->E (.ref C) none H->X.xe (.ref e) { s with heap:=h1 }
 fn:∀(f:Nat) i,G.fi[f]?=some i->su.contains f=true->fc X.prog X.w X.K X.mg X.base (qy X.prog X.w) n i.addr i.fd i.ps (yc X.K cl G.F G.w n f)
 nz:∀f,rz.contains f=false->∀ds h,Ev.bF G.F G.w n f ds h=none
 cs:∀x c,(x,c)∈bE->X.mg x=some (.ref (cl c))/\Br X.K (cl c)
 cm:∀(pins:List (Addr×Obj)) (σ:L2.St) (H:Hp) (s:Shared) (a C K:Addr) (H':Hp) (s':Shared) (rF:Env),rF.frame=X.env.frame->Inv X pins σ H s->fR X.prog X.w X.stack H s a C H' s'->E (.ref C) none H'->eX X pins H' K->(∃m,s.heap.Ns K m)->H K=none->
  wpAny (model X.prog X.w) X.A (noteFrame (.ref a) rF) (λ_ s2=>(∃m,s2.heap.Ns K m)/\∀h'',Heap.SameBut K s2.heap h''->∀cenv:Env,cenv.locals=K->wpAny (model X.prog X.w) X.A (PySem.passOn "comprehension.variables-let-go" (.ref a) cenv:Sem Value) (λ_ _=>False) X.xe { s2 with heap:=h'' }) (λ_ _=>False) s'
theorem PA.cT{X:Cx}{es:List Expr}{t:TA}(h:PA X.cT es t):PA X es t:=λpos pins s σ H Q I hw=>
 E9 (h pos pins s σ H Q (I.fM _) hw) (λ_ _ ⟨vs,H',I',r,q⟩=>⟨vs,H',I'.dP,r,q⟩) λ_ _ z=>False.elim z
theorem PS.cT{X:Cx}{st:Stmt}{t:TS}(h:PS X.cT st t):PS X st t:=λpins s σ H D I hw=>
 E9 (h pins s σ H D (I.fM _) hw) (λ_ _ q=>q.dP) λ_ _ z=>False.elim z
section
variable(G:Tb)(cl:Nat->Addr)(bE:List (Str×Nat))(rz su:List Nat)(n:Nat)(sc:Scope)(N:List Str)(df:Bool)(m:List Nat)
def mY(e:E)(x:Expr):Prop:=∀X Ex,GX G cl bE rz su n sc N df Ex X->PE X x (λs H _=>tX X.K cl m Ex (Ev.xe (Ev.run G.F G.w n) (Ev.bF G.F G.w n) e) s H)
def Bs(es:Es)(xs:List Expr):Prop:=∀X Ex,GX G cl bE rz su n sc N df Ex X->PA X xs (λs H _=>tX X.K cl m Ex (Ev.xa (Ev.run G.F G.w n) (Ev.bF G.F G.w n) es) s H)
def yd(st:S)(x:Stmt):Prop:=∀X Ex,GX G cl bE rz su n sc N df Ex X->PS X x (λ_ s H=>tX X.K cl m Ex (Ev.xs (Ev.run G.F G.w n) (Ev.bF G.F G.w n) G.w st) s H)
def jM(ss:Ss)(xs:List Stmt):Prop:=∀X Ex,GX G cl bE rz su n sc N df Ex X->gj X xs (λ_ s H=>tX X.K cl m Ex (Ev.xss (Ev.run G.F G.w n) (Ev.bF G.F G.w n) G.w ss) s H)
end
section
variable{G:Tb}{cl:Nat->Addr}{bE:List (Str×Nat)}{rz su:List Nat}{n:Nat}{sc:Scope}{N:List Str}{df:Bool}{m:List Nat}{a b:E}{xa:Expr}{pos:Pos}
def NP{e:E}{x:Expr}(h:Ev.iI rz e=true):mY G cl bE rz su n sc N df m e x:=λX Ex g pins s σ H Q I q=>by
 obtain⟨r,fr,h1,c,h',sr,hr,e,q⟩:=q;rw[Ev.jG g.nz _ h]at e;cases e
def vq{es:Es}{xs:List Expr}(h:Ev.sG rz es=true):Bs G cl bE rz su n sc N df m es xs:=λX Ex g pos pins s σ H Q I q=>by
 obtain⟨r,fr,h1,c,h',sr,hr,e,q⟩:=q;rw[Ev.ri g.nz _ h]at e;cases e
def vt{s:S}{x:Stmt}(h:Ev.oF rz s=true):yd G cl bE rz su n sc N df m s x:=λX Ex g pins s σ H Q I q=>by
 obtain⟨r,fr,h1,c,h',sr,hr,e,q⟩:=q;rw[Ev.Jh g.nz _ h]at e;cases e
def cQ{s:Ss}{xs:List Stmt}(h:Ev.kj rz s=true):jM G cl bE rz su n sc N df m s xs:=λX Ex g pins s σ H Q I q=>by
 obtain⟨r,fr,h1,c,h',sr,hr,e,q⟩:=q;rw[Ev.kZ g.nz _ h]at e;cases e
def EL{f:Nat}{i:FI}{es:Es}{x:Str}{e0:Expr}{xs:List Expr}{p:Pos}(h:oQ sc x=true)(hu:su.contains f=true)(hf:G.fi[f]?=some i)(hx:i.name=x)(hs:JA G n sc N df m es (e0 :: xs))(ks:Bs G cl bE rz su n sc N df m es (e0 :: xs))
  (hst:∀env:Env,starEach (e0 :: xs) env=(false,eval e0 env) :: starEach xs env:=by intro _;rfl) (hpl:∀env:Env,(backTo pos (starEach xs env)).any (·.1)=false:=by intro _;rfl) :
  mY G cl bE rz su n sc N df m (.cl f es) (.Call (.Name x p) (e0 :: xs) [] pos):=λX Ex g pins s σ H Q I q=>by
 subst hx;unfold oQ at h;simp only[fW,T4]at h;obtain⟨h1,h2,h3,_⟩:=g.g.fn f i hf;have hg:Gl X i.name:=g.g.gl (by simpa using h.1);obtain⟨r,fr,hh,c,h',sr,hr,e,q⟩:=q;simp only[Ev.xe]at e;split at e
 .rename_i ds hd ey;refine qW (g.fn f i hf hu) g.g.room hg h1 h2 h3 .nil g.ps (PA.cT (hs X.cT g.g)) h.2 (hst _) (hpl _) pins s σ H Q I ⟨r,fr,hh,ds,hd,sr,hr,ey,λvs H1 r1 v1 hr1 f1=>?_⟩;exact⟨r1,hd,ds,c,h',by rw[Ug];exact v1,hr1,e,λH' r' y1 y2=>q H' r' y1 (f1.trans y2)⟩
 .exact qW (g.fn f i hf hu) g.g.room hg h1 h2 h3 .nil g.ps (ks X Ex g) h.2 (hst _) (hpl _) pins s σ H Q I ⟨r,fr,hh,c,h',sr,hr,e,q⟩
def vv{es:Es}{xs:List Expr}(ha:JE G n sc N df m a xa)(ka:mY G cl bE rz su n sc N df m a xa)(ks:Bs G cl bE rz su n sc N df m es xs)(hst:∀env:Env,starEach (xa :: xs) env=(false,eval xa env) :: starEach xs env:=by intro _;rfl):Bs G cl bE rz su n sc N df m (.cons a es) (xa :: xs):=λX Ex g pos pins s σ H Q I q=>by
 obtain⟨r,fr,hh,c,h',sr,hr,e,q⟩:=q;simp only[Ev.xa]at e;split at e
 .rename_i d hd ey;exact cK (PE.cT (ha X.cT g.g)) (ks X Ex g) (hst _) pos pins s σ H Q I ⟨r,fr,hh,d,hd,sr,hr,ey,λv H1 r1 v1 hr1 f1=>⟨r1,fr,hd,c,h',sr.mono f1,hr1,e,λH' r' y1 y2=>q H' r' y1 (f1.trans y2)⟩⟩
 .exact cK (ka X Ex g) (t:=λ_ _ _=>False) (λ_ _ _ _ _ _ _ z=>z.elim) (hst _) pos pins s σ H Q I ⟨r,fr,hh,c,h',sr,hr,e,q⟩
def ye(ka:mY G cl bE rz su n sc N df m a xa):yd G cl bE rz su n sc N df m (.ret a) (.Return (some xa) pos):=λX Ex g pins s σ H Q I q=>by
 obtain⟨r,fr,hh,c,h',sr,hr,e,q⟩:=q;simp only[Ev.xs]at e;exact uy (ka X Ex g) pins s σ H Q I ⟨r,fr,hh,c,h',sr,hr,e,q⟩
def GN{i:Nat}{x:Str}{pos':Pos}(h:gB sc N df m x i=true)(ka:mY G cl bE rz su n sc N df m a xa)(hs:∀env:Env,swapsWith xa (some (.Name x pos')) pos.line env=pure false:=by intro _;rfl):yd G cl bE rz su n sc N df m (.set i a) (.Assign [.Name x pos'] xa pos):=λX Ex g pins s σ H Q I q=>by
 obtain⟨r,fr,hh,c,h',sr,hr,e,q⟩:=q;simp only[Ev.xs]at e;obtain⟨j,e1,e2,e3,e4,e5⟩:=gB.of h;obtain⟨h1,h2⟩:=g.g.loc e3;exact qe (X:=X) (i:=j) (by rw[show X.N=N from g.g.nm];exact e5) (by rw[show X.N=N from g.g.nm];exact e2) h1 (ka X Ex g) (hs _) h2 pins s σ H Q I ⟨r,fr,hh,c,h',sr,hr,e,q⟩
def kK{ta tb:Ss}{ya yb:List Stmt}(hc:JT G n sc N df m a xa)(kc:Ev.iI rz a=true)(h1:jM G cl bE rz su n sc N df m ta ya)(h2:jM G cl bE rz su n sc N df m tb yb):yd G cl bE rz su n sc N df m (.iff a ta tb) (.If xa ya yb pos):=λX Ex g pins s σ H Q I q=>by
 obtain⟨r,fr,hh,c,h',sr,hr,e,q⟩:=q;simp only[Ev.xs]at e;split at e
 .rename_i k h3 ey;refine y9 (PT.cT (hc X.cT g.g)) (h1 X Ex g) (h2 X Ex g) pins s σ H Q I ⟨r,fr,hh,k,h3,sr,hr,ey,λH1 r1 hr1 f1=>?_⟩;cases k with
  |true=>exact⟨r1,fr,h3,c,h',sr.mono f1,hr1,by simpa using e,λH' r' y1 y2=>q H' r' y1 (f1.trans y2)⟩
  |false=>exact⟨r1,fr,h3,c,h',sr.mono f1,hr1,by simpa using e,λH' r' y1 y2=>q H' r' y1 (f1.trans y2)⟩
 .rw[Ev.jG g.nz _ kc]at e;cases e
def bX{st:S}{ss:Ss}{x:Stmt}{xs:List Stmt}(h1:JS G n sc N df m st x)(k1:yd G cl bE rz su n sc N df m st x)(ks:jM G cl bE rz su n sc N df m ss xs):jM G cl bE rz su n sc N df m (.cons st ss) (x :: xs):=λX Ex g pins s σ H Q I q=>by
 obtain⟨r,fr,hh,c,h',sr,hr,e,q⟩:=q;simp only[Ev.xss]at e;split at e
 .rename_i af h3 ey;exact kX (PS.cT (h1 X.cT g.g)) (ks X Ex g) pins s σ H Q I ⟨r,fr,hh,.nx,af,h3,sr,hr,ey,λs1 H1 r1 JK hr1 f1=>⟨r1,af,h3,c,h',JK,hr1,e,λH' r' y1 y2=>q H' r' y1 (f1.trans y2)⟩⟩
 .cases e
 .exact kX (k1 X Ex g) (ks X Ex g) pins s σ H Q I ⟨r,fr,hh,c,h',sr,hr,e,q⟩
def nS{c:Nat}{x t:Str}{np cp p1 pos:Pos}{j:Nat}(hx:(x,c)∈bE:=by decide +kernel)(h:oQ sc x=true:=by decide +kernel):yd G cl bE rz su n sc N df m (.cA c) (.Raise (some (.Call (.Name x np) [.Constant (.str t) j p1] [] cp)) none pos):=λX Ex g pins s σ H Q I q=>by
 obtain⟨r,fr,hh,c',h',sr,hr,e,q⟩:=q;simp only[Ev.xs]at e;cases e;unfold oQ at h;simp only[fW,T4]at h;have hg:Gl X x:=g.g.gl (by simpa using h.1);obtain⟨hm,nm,qn,Nn,bs,bm,hdct,sn,sub,ab,col,dd,k0,k1,k2,k3,k5,lk,hb,hN⟩:=g.cs x _ hx;have qE:=q H r hr .refl;obtain⟨mN,n1,n2,n3⟩:=hN s.heap I.dY;refine wpAny_Raise_call_subT (nm:=nm) (q:=qn) (N:=Nn) (bs:=bs) (hdct:=hdct) (sn:=sn) (sub:=sub) (ab:=ab) (col:=col) (dd:=dd) (k0:=k0) (k1:=k1) (k2:=k2) (k3:=k3) (k5:=k5) PySem.F.excBase_ValueError hb g.g.room.hd rfl n2 (nH I hg hm ⟨rfl,?_⟩ h.2);refine Calls.evalArgs_plain ?_;show wpAny _ _ (spliced ((false,eval (.Constant (.str t) j p1) X.env) :: [])) _ _ _;refine Calls.spliced_cons (Calls.Constant_str (Calls.spliced_nil ⟨rfl,by show 1<=sizeLine;decide,I.dY _ _ lk,n1,n3,λh1 e mk=>?_⟩));exact g.md pins σ H { s with toks:=s.toks+1 } h1 e _ _ (I.tok _) mk qE
section
variable{P:Program}{w:World}{K:PySem.W.Frag}{mg:Str->Option Value}{base:Heap}
def pP(P:Program)(w:World)(K:PySem.W.Frag)(mg:Str->Option Value)(base:Heap)(G:Tb)(cl:Nat->Addr)(su:List Nat)(n:Nat):Prop:=∀(f:Nat) i,G.fi[f]?=some i->su.contains f=true->fc P w K mg base (qy P w) n i.addr i.fd i.ps (yc K cl G.F G.w n f)
def KC{f:Addr}{fd:FuncData}{ps:List Str}{k:Nat}(z:∀ds h,Ev.bF G.F G.w n k ds h=none):fc P w K mg base (qy P w) n f fd ps (yc K cl G.F G.w n k):=by
 have no:∀vs H Q E,¬ yc K cl G.F G.w n k vs H Q E:=λvs H Q E h=>by
  obtain⟨r,h,ds,c,h',_,_,e,_⟩:=h;rw[z]at e;cases e
 exact⟨λvs H Q E h=>absurd h (no vs H Q E),λA outer s H args us vs Q E _ _ _ _ h=>absurd h (no vs H Q E)⟩
def mZ{x qual:Str}{st:Stmt}{i:FI}{N:List Str}{f:Nat}{fn:Ev.Fn}(T:Top P w K mg G)(A0:nN P w K mg base G n)(A1:pP P w K mg base G cl su n)(hz:Ev.oG rz 0 G.F=true)(hc:∀x c,(x,c)∈bE->mg x=some (.ref (cl c))/\Br K (cl c))
  (F:qh K x qual st i.addr i.fd) (S:bJ N i.ps (aF st)) (hf:G.F[f]?=some fn) (hp:i.ps.length=fn.np)
  (hb:jM G cl bE rz su n (aF st) N true (List.range N.length) fn.body (cF st)):fc P w K mg base (qy P w) (n+1) i.addr i.fd i.ps (yc K cl G.F G.w (n+1) f):=by
 have hlen:∀vs H Q E,yc K cl G.F G.w (n+1) f vs H Q E->vs.length=i.ps.length:=λvs H Q E h=>by
  obtain⟨r,h,ds,c,h',v1,_,e,_⟩:=h;simp only[Ev.iu,hf]at e;split at e
  .rename_i z;rw[v1.length,z,hp]
  .cases e
 obtain⟨oc,od,kV,doc,pm,an,cdv,ct,osl,e0,lk,hcd⟩:=F.ex;rw[e0]at lk ⊢;refine Eg lk hcd S hlen λA outer s H vs Q Ex hr dQ=>?_;have hl:=hlen vs H Q Ex dQ;have hN:vs.length<=N.length:=by
  have:=Pc List.length S.pre;rw[Uc]at this;omega
 have g:Good G n (aF st) N true (kh (qy P w) P w K mg base N qual (aF st) i.addr cdv A outer s H Ex).cT:=
  ⟨rfl,rfl,rfl,λ_ _=>rfl,hr,rfl,λf i hi=>⟨(T.fn f i hi).1,(T.fn f i hi).2.1,(T.fn f i hi).2.2,A0 f i
   hi
   ⟩,T.bl,T.cs,T.dk
   ⟩
 have gx:GX G cl bE rz su n (aF st) N true Ex (kh (qy P w) P w K mg base N qual (aF st) i.addr cdv A outer s H Ex):=
  ⟨g,PassesOwn.leaving,λpins σ H1 s1 e s' I ⟨a,C,H',h1,fl,q⟩=>by
    subst h1;exact Dy rfl rfl rfl I fl λs'' vn=>⟨a,C,H',rfl,vn,q⟩,
   λpins σ H1 s1 h1 e C args I mk q=>zK rfl rfl rfl I mk λs'' vn=>⟨e,C,H1,rfl,vn,q⟩,A1,Ev.xE hz G.w n,hc
   ,λpins σ H1 s1 a C K H' s' rF hC I fl q fp hK Kz=>Bq rfl rfl rfl hC I fl q fp hK Kz
   ⟩
 refine⟨_,hb _ Ex gx,?_⟩;obtain⟨r,h,ds,c,h',v1,hr1,e,q⟩:=dQ;simp only[Ev.iu,hf]at e;split at e
 .exact⟨r,Ev.cI fn ds,h,c,h',pC v1 hN,hr1,e,q⟩
 .cases e
def Bt{X:Cx}{k:Nat}{f:Addr}{fd:FuncData}{ps:List Str}{sp:Sp}{x:Str}{p pos:Pos}{e:Expr}{es:List Expr}{t:TA}{pins:List (Addr×Obj)}{σ:L2.St}{H:Hp}{s:Shared}{Ex:XK}{Q:Value->Shared->Prop}{E':Value->Shared->Prop}
  (F:fc X.prog X.w X.K X.mg X.base (qy X.prog X.w) k f fd ps sp) (hr:eZ k X.A) (hg:Gl X x) (hm:X.mg x=some (.ref f)) (hk:PySem.W.keepIn X.K (.ref f)=true) (hb:Binds X.K fd ps []) (hd:(x==("__debug__" : Str))=false) (ha:PA X (e :: es) t) (KD:X.xe=λ_ _=>False)
  (hst:starEach (e :: es) X.env=(false,eval e X.env) :: starEach es X.env) (hpl:(backTo pos (starEach es X.env)).any (·.1)=false)
  (I:Inv X pins σ H s) (h:t σ H λvs H1=>sp vs H1 (λ_ _=>False) Ex) (q:∀H1 s1 a C H' s',Inv X pins σ H1 s1->fR X.prog X.w X.stack H1 s1 a C H' s'->Ex (.ref C) none H'->E' (.ref a) s') :
  wpAny (model X.prog X.w) X.A (eval (.Call (.Name x p) (e :: es) [] pos) X.env) Q E' s:=by
 refine UT (nH I hg hm ?_ hd);refine WA (h₀:=X.base) I.ok.mod.cS hk (E9 (ha pos pins s σ H _ I h) (λus s1 ⟨vs,H1,I1,r,q1⟩=>⟨I1.dY,?_⟩) (λ_ _ z=>by rw[KD]at z;exact z.elim)) hst hpl;have hl:us.length=ps.length:=by rw[<-r.length];exact F.len _ _ _ _ q1
 have hb1:=hb s1 us I1.dY (by rw[Ug];exact hl);rw[Ug]at hb1;refine Wh (VM (F.run X.A X.stack s1 H1 ⟨us,[]⟩ us vs _ Ex hr I1.IP hb1 r q1) λres s' hq=>?_);cases res with
 |error e=>
  obtain⟨a,C,H',rfl,fl,e1⟩:=hq;exact q H1 s1 a C H' s' I1 fl e1
 |ok fl=>
  cases fl with
  |ret u=>obtain⟨v,H',_,_,_,_,_,z⟩:=hq;exact z.elim
  |next=>exact hq.elim
  |brk=>exact hq.elim
  |cont=>exact hq.elim
def GO{H H':Hp}{r:List Addr}{h:Hh}(k:∀b o,H b=some o->H' b=some o):Fm K r r H H'/\(HR K H r h->HR K H' r h):=by
 have f:Fm K r r H H':=⟨λ_ _ e=>e,λ_ e=>.inl e,λa o e _=>k a o e,λa vs e=>by
  rcases e with (e|⟨ob,e⟩)|e
  .exact .inl (.inl (k _ _ e))
  .exact .inl (.inr ⟨ob,k _ _ e⟩)
  .exact .inr e
  ⟩
 refine⟨f,λhr=>⟨hr.len,λn o e=>?_,hr.inj
  ⟩⟩
 obtain⟨a,e1,q⟩:=hr.ob n o e;exact⟨a,e1,q.mono f (λ_ _ _ z=>k _ _ z) (λ_ _ z=>k _ _ z)
  ⟩
def KG{F:List Ev.Fn}{w n f:Nat}{ds:List D}{h h':Hh}{d:D}(hF:F.length<=1000)(e:Ev.run F w n (f+Ev.xo) ds h=.ok d h'):∃c:Nat,d=.int c/\Ev.bF F w n f ds h=some (c,h'):=by
 cases n with
 |zero=>cases e
 |succ n=>
  rw[Ev.fG,Um (by show F.length<=f+1000;omega)]at e;simp only[Ev.lR]at e;rw[cG (WT _ _),Vw]at e;split at e
  .rename_i c h2 z;cases e;exact⟨c,rfl,z⟩
  .cases e
theorem rG{base:Heap}(st:∀n,nN P w K mg base G n->pP P w K mg base G cl su n->nN P w K mg base G (n+1)/\pP P w K mg base G cl su (n+1)):∀n,nN P w K mg base G n/\pP P w K mg base G cl su n
 |0=>⟨λf i _=>Gm,λf i _ _=>KC λ_ _=>rfl⟩
 |n+1=>st n (rG st n).1 (rG st n).2
end
end
end Sm
namespace Sm
open PySem PySem.Spec PyProof.Rows L2 PySem.W
noncomputable def vz(K:PySem.W.Frag)(N:Addr):Bool:=nsOkIn K N&&quietNames.all λn=>nsIn K N n==some none
noncomputable def KH(K:PySem.W.Frag)(C Wc:Addr):Bool:=
 findIn K (.ref C) "__getattribute__" ==some (some (.builtin "BaseException.__getattribute__"))&&findIn K (.ref C) "__getattr__" ==some none&&findIn K (.ref C) "__class__" ==some (some (.builtin "object.__class__"))
 &&subIn K (.ref C) (.type "object")==some true&&kitCls K (.ref C) (.ref C)==some true
 &&kitOne K (.ref C) (.ref C)==some true&&kitOne K (.ref C) (.type "ValueError")==some true&&exmOne K (.ref C) (.ref Wc)==some true
structure KI(K:PySem.W.Frag)(x:Str)(C Wc:Addr):Prop where
 ns:nsIn K mainGlobals x=some (some (.ref C))
 rs:Br K C
 cs:RH K C C 0
 em:exmOne K (.ref C) (.ref Wc)=some true
def vz.ns{K:PySem.W.Frag}{N:Addr}{h:Heap}(q:vz K N=true)(cS:K.In h):∃m,h.Ns N m/\∀n∈quietNames,m n=none:=by
 unfold vz at q;rw[fW]at q;have hn:=Heap.Ns.of_isNs (isNs_of_in cS q.1);exact⟨_,hn,λn hn'=>nsMap_none_of_in cS q.1 (beq_iff_eq.mp (List.all_eq_true.mp q.2 n hn'))⟩
def GP{K:PySem.W.Frag}{x:Str}{C Wc N:Addr}{nm q:Str}{bs:List Value}{hdct:Bool}{sn:List Str}{sub:List Value}{ab:Bool}{col:Option Bool}{dd RM:Option Addr}{k0 k1 k2 k3 k5:Option Value}{c0:Value}{cd:ClassData}{sl:Array (Option Value)}
  (a:nsIn K mainGlobals x=some (some (.ref C))) (l:K.lookup C=some (excClassObj nm q C N bs (.ref Wc :: EK) hdct sn sub ab col dd k0 k1 k2 k3 k5 "ValueError.__new__")) (lw:K.lookup Wc=some ⟨c0,RM,.cls cd,sl⟩) (n:vz K N=true) (nw:vz K cd.ns=true) (f:KH K C Wc=true):KI K x C Wc:=by
 unfold KH at f;simp only[fW,UZ]at f;obtain⟨⟨⟨⟨⟨⟨⟨f1,f2⟩,f3⟩,f4⟩,f5⟩,f6⟩,f7⟩,f8⟩:=f;have tq:∀h:Heap,K.In h->OwnTailQ h EK (.ref Wc :: EK):=λh cS=>by
  obtain⟨m,h1,h2⟩:=vz.ns nw cS;exact .own (cS _ _ lw) h1 h2 .base
 refine⟨a,⟨_,_,_,_,_,_,_,_,_,_,_,_,_,_,_,_,l,rfl,λh cS=>?_⟩,⟨⟨⟨_,_,_,_,_,_,_,_,_,_,_,_,_,_,_,_,_,l,tq⟩,f1,f2,f3,f4,f5⟩,f6,f7,rfl⟩,f8⟩;obtain⟨m,h1,h2⟩:=vz.ns n cS;exact⟨m,h1,h2 _ (by simp[quietNames]),(tq h cS).tail⟩
end Sm
namespace Sm
open PySem PySem.Spec PyProof.Rows L2
open Ev (D O Hh Fr R aB E Es Eo It T S Ss Fl Src bu aV TY BI ME)
theorem xr.dP{X:Cx}{pins:List (Addr×Obj)}{σ:L2.St}{tg:Expr}{R:L2.It->Hp->Prop}{itv:Value}{s:Shared}(h:xr X.cT pins σ tg R itv s):xr X pins σ tg R itv s:=by
 obtain⟨it,J,fp,tn,H',e,I,x⟩:=h;exact⟨it,J,fp,tn,H',e,I.dP,x⟩
theorem PI.cT{X:Cx}{tg iter:Expr}{wi:TI}(h:PI X.cT tg iter wi):PI X tg iter wi:=λpins s σ H Rr I hw=>
 E9 (h pins s σ H Rr (I.fM _) hw) (λv s1 q=>E9 q (λ_ _ y=>xr.dP y) λ_ _ z=>False.elim z) λ_ _ z=>False.elim z
section
variable(cl:Nat->Addr)(nc:Nat)
def HX (X:Cx) (pins:List (Addr×Obj)) (σ:L2.St) (R:VK) (E':Value->Shared->Prop):Prop:=∀(H2:Hp) (s2:Shared) (a:Addr) (c:Nat) (H':Hp) (s':Shared),Inv X pins σ H2 s2->fR X.prog X.w X.stack H2 s2 a (cl c) H' s'->c<nc->(∀p jN,(∀b o,H' b=some o->jN b=some o)->jN p=some (.tup [.str "refused",.int c])->R (.ref p) jN)->E' (.ref a) s'
end
section
variable{a:E}{ta tb:Ss}
def KJ{K:PySem.W.Frag}{m:List Nat}{P:aB}{w:Nat}{D:Ends}{σ:L2.St}{H:Hp}(q:pB K m P w (.cons (.iff a ta tb) .nil) D σ H):AQ K m P a σ H λk H1=>pB K m P w (if k then ta else tb) D σ H1:=by
 obtain⟨r,fr,h,fl,ai,h',sr,hr,e,q⟩:=q;simp only[Ev.exs,Ev.ex]at e;obtain⟨⟨fJ,af⟩,h2,e2,e⟩:=Ev.ah e;obtain⟨k,h3,e1,e2⟩:=Ev.ah e2;have e':Ev.exs P w (if k then ta else tb) fr h3=.ok (fl,ai) h':=by
  have:(.ok (fJ,af) h2:R (Fl×Fr))=.ok (fl,ai) h':=by cases fJ<;>exact e
  rw[<-this];cases k<;>simpa using e2
 exact⟨r,fr,h,k,h3,sr,hr,e1,λH1 r1 hr1 f1=>⟨r1,fr,h3,fl,ai,h',sr.mono f1,hr1,e',q.later f1⟩⟩
end
end Sm
namespace Sm
open PySem PySem.Spec PyProof.Rows L2 PySem.W
open Ev (D O Hh Fr R aB E Es Eo It T S Ss Fl Src bu aV TY BI ME)
section
variable{X:Cx}{pins:List (Addr×Obj)}{σ:L2.St}{H H':Hp}{s s':Shared}{a C:Addr}{oe:Obj}
noncomputable def han(X:Cx)(a:Addr)(oe:Obj):Cx:={ X with A:=X.A.mark (some (.ref a)),calm:=false,pn:=(a,oe) :: X.pn }
theorem Inv.han(I:Inv X pins σ H s)(x:s.heap.get? a=some oe)(n:H a=none)(ne:a≠X.env.locals)(nf:a∉X.fs)(d:∀v,oe.data≠.cell v):Inv (han X a oe) pins σ H s:=
 ⟨⟨I.ok.mod,I.ok.kind,I.ok.glob,I.ok.blt,I.ok.above,I.ok.inj,I.ok.has,I.ok.uv,(λz=>nomatch z),I.ok.frames,I.ok.stk,I.ok.wX,I.ok.bs,I.ok.qb,I.ok.o6,I.ok.lZ,I.ok.iL,I.ok.r8⟩,I.os,I.bare,I.base,I.loc,I.cell,I.free,I.fY,λp hp=>by
  rcases List.mem_cons.mp (show p∈(a,oe) :: (X.pn++pins)from hp)with rfl|hp
  .exact⟨x,n,ne,nf,d⟩
  .exact I.pin p hp,I.hok,I.len⟩
def Inv.NQ(ok:X.Ok)(I:Inv (Sm.han X a oe) pins σ H s):Inv X pins σ H s:=
 ⟨ok,I.os,I.bare,I.base,I.loc,I.cell,I.free,I.fY,λp hp=>I.pin p (.tail _ hp),I.hok,I.len⟩
def GQ{i:Nat}{D:V}{Du:Value}{b:Bool}{ed:Expr}{xe:Str}{p p1 pos:Pos}(hp:(a,oe)∈X.pn)(ho:oe.cls=.ref C)(hd:∃vs,oe.data=.fields vs)(c:XC X.K C)(hD:PE X ed (tC D))(rD:∀u,RelV D u->u=Du)(k:kitOne X.K (.ref C) Du=some b)
  (hN:X.N[i]?=some xe) (hv:rZ X.env.scope xe) (hg:Gl X "isinstance") (hm:X.mg "isinstance" = none) (hst:∀env:Env,starEach [.Name xe p1,ed] env=(false,eval (.Name xe p1) env) :: starEach [ed] env) (zB:∀env:Env,starEach [ed] env=(false,eval ed env) :: starEach [] env)
  (RN:(xe==("__debug__" : Str))=false) (RP:(xe==("__classdict__" : Str))=false) :
  PE X (.Call (.Name "isinstance" p) [.Name xe p1,ed] [] pos) (λσ H Q=>σ[i]?=some (some (.ref a))/\Q (.bl b) H):=by
 have hc:eY X (.builtin "isinstance") (λxs H Q=>xs=[.ref a,D]/\Q (.bl b) H):=by
  intro pins s σ H xs us Q I rv q;obtain⟨rfl,q⟩:=q;cases rv with
  |cons r1 rv=>
   cases rv with
   |cons r2 rv=>
    cases rv;cases r1;obtain rfl:=rD _ r2;obtain⟨h1,_⟩:=I.pin (a,oe) (List.mem_append.mpr (.inl hp));exact Kv c I.dY ⟨oe,h1,ho,hd⟩ k λtk=>⟨.bl b,H,I.tok _,rfl,q⟩
 refine Ky (o9 hc hg hm (by decide +kernel) (cK (qd hN hv RN RP) (cK hD kD (zB _)) (hst _)) (by decide) (by decide) (hst _) (by rw[zB];rfl)) λs H Q q=>?_;exact⟨_,q.1,rfl,q.2⟩
def KL(hu:X.A.units+1+Ev.deep<cLine):cz X (compareOp .Eq) (λx y H Q=>∃l m,x=.ref l/\y=.ref m/\l≠m/\H l=some (.lst [.bl true,.bl false,.bl false])/\H m=some (.lst [.bl true,.bl false,.bl false])/\Q (.bl true) H):=by
 intro pins s σ H x y v u Q I rx ry q;obtain⟨l,m,rfl,rfl,ne,hl,hm,q⟩:=q;have h0:HR X.K H [] []:=⟨rfl,λn o e=>(nomatch (show none=some o from e)),λn m a x y e=>(nomatch (show none=some a from e))
  ⟩
 have rv:∀r,aE X.K H r [.bl true,.bl false,.bl false] [.bl true,.bl false,.bl false]:=λr=>⟨_,_,rfl,rfl,⟨_,_,rfl,rfl,⟨_,_,rfl,rfl,rfl⟩⟩⟩
 have h2:=(h0.known hl (λz=>nomatch z) (rv _)).known hm (λz=>ne.symm (by simpa using z)) (rv _);exact(t9 I h2 Ev.deep X.A (.ref 0) (.ref 1) (.ref l) (.ref m) v u true (by omega) ⟨l,rfl,rfl⟩ ⟨m,rfl,rfl⟩ rx ry (by decide)).rc _ _ _ _ ⟨.bl true,H,I,rfl,q⟩
structure O0(K:PySem.W.Frag)(C D0 D1 D2:Addr):Prop where
 xc:XC K C
 k0:kitOne K (.ref C) (.ref D0)=some true
 k1:kitOne K (.ref C) (.ref D1)=some false
 k2:kitOne K (.ref C) (.ref D2)=some false
 kv:kitOne K (.ref C) (.type "ValueError")=some true
set_option maxHeartbeats 1000000 in
def Qz{i j:Nat}{D0 D1 D2:Addr}{x0 x1 x2:Str}{p0 p1 p2 p3 p4 p5 p6 p7 p8 p9 tw tD tE tF tG tH tK qz Bu Bv Bw Bx By BA BB BC BD BE BF:Pos}
  (hp:(a,oe)∈X.pn) (ho:oe.cls=.ref C) (hd:∃vs,oe.data=.fields vs) (hu:X.A.units+1+Ev.deep<cLine) (k:O0 X.K C D0 D1 D2) (g0:Gl X x0) (g1:Gl X x1) (g2:Gl X x2) (gi:Gl X "isinstance") (gv:Gl X "ValueError") (m0:X.mg x0=some (.ref D0)) (m1:X.mg x1=some (.ref D1)) (m2:X.mg x2=some (.ref D2)) (mi:X.mg "isinstance" = none) (mv:X.mg "ValueError" = none)
  (d0:(x0==("__debug__" : Str))=false) (d1:(x1==("__debug__" : Str))=false) (d2:(x2==("__debug__" : Str))=false)
  (nd:X.N.Nodup) (n0:X.N[i]?=some ("e" : Str)) (n1:X.N[j]?=some ("_law_flags" : Str)) (h0:X.env.scope.names.lookup ("e" : Str)=some .local) (h1:X.env.scope.names.lookup ("_law_flags" : Str)=some .local) :
  gj X [.Assign [.Name "_law_flags" p0] (.List [.Call (.Name "isinstance" p1) [.Name "e" p2,.Name x0 p3] [] p4,.Call (.Name "isinstance" p5) [.Name "e" p6,.Name x1 p7] [] p8,.Call (.Name "isinstance" p9) [.Name "e" tw,.Name x2 tD] [] tE] tF) tG,
   .If (.BoolOp .And [.Call (.Name "isinstance" tH) [.Name "e" tK,.Name "ValueError" qz] [] Bu,.Compare (.Name "_law_flags" Bv) [.Eq] [.List [.Constant (.bool true) 0 Bw,.Constant (.bool false) 0 Bx,.Constant (.bool false) 0 By] BA] BB] BC) [.Return (some (.Constant .none 0 BD)) BE] [] BF]
   (λD σ H=>(σ.length=X.N.length/\σ[i]?=some (some (.ref a)))/\∀H',(∀b o,H b=some o->H' b=some o)->D.rt .aO H'):=by
 have v0:rZ X.env.scope ("e" : Str):=.inl h0;have v1:rZ X.env.scope ("_law_flags" : Str):=.inl h1;have dM:∀{ed:Expr} {D:V} {Du:Value} {b:Bool} {q0 q1 q2:Pos},PE X ed (tC D)->(∀u,RelV D u->u=Du)->kitOne X.K (.ref C) Du=some b->(∀env:Env,starEach [.Name "e" q1,ed] env=(false,eval (.Name "e" q1) env) :: starEach [ed] env)->(∀env:Env,starEach [ed] env=(false,eval ed env) :: starEach [] env)->
   PE X (.Call (.Name "isinstance" q0) [.Name "e" q1,ed] [] q2) (λσ H Q=>σ[i]?=some (some (.ref a))/\Q (.bl b) H):=λh1 h2 h3 h4 h5=>GQ hp ho hd k.xc h1 h2 h3 n0 v0 gi mi h4 h5 (by decide) (by decide)
 have i0:=λ{q0 q1 q2 q3:Pos}=>dM (q0:=q0) (q1:=q1) (q2:=q2) (jr (pos:=q3) g0 m0 (v:=.ref D0) rfl d0) (λu r=>r) k.k0 (λ_=>rfl) (λ_=>rfl);have i1:=λ{q0 q1 q2 q3:Pos}=>dM (q0:=q0) (q1:=q1) (q2:=q2) (jr (pos:=q3) g1 m1 (v:=.ref D1) rfl d1) (λu r=>r) k.k1 (λ_=>rfl) (λ_=>rfl);have i2:=λ{q0 q1 q2 q3:Pos}=>dM (q0:=q0) (q1:=q1) (q2:=q2) (jr (pos:=q3) g2 m2 (v:=.ref D2) rfl d2) (λu r=>r) k.k2 (λ_=>rfl) (λ_=>rfl);have iv:=λ{q0 q1 q2 q3:Pos}=>dM (q0:=q0) (q1:=q1) (q2:=q2) (wZ (pos:=q3) gv mv (by decide +kernel) (v:=.ty "ValueError") rfl) (λu r=>r) k.kv (λ_=>rfl) (λ_=>rfl);have ne:i≠j:=λz=>by subst z;rw[n0]at n1;exact absurd n1 (by decide)
 refine GL (kX (qe (i:=j) (pos':=p0) nd n1 (.inl h1) (uB (cK i0 (cK i1 (cK i2 kD)))) rfl (.inr h1))
  (xj (y9 (PW.pt (Au (Iq iv) (w9 (xx (KL hu) (qd n1 v1) (uB (cK t7 (cK t7 (cK t7 kD)))) (jA _))))) (xj (uy As)) xg))) λD σ H q=>?_
 obtain⟨⟨q1,q2⟩,q⟩:=q;refine⟨q2,q2,q2,by show 3<=sizeLine;decide,λl hl=>?_⟩;have e1:(σ.set j (some (V.ref l)))[i]?=some (some (.ref a)):=by rw[gV ne.symm];exact q2
 have e2:(σ.set j (some (V.ref l)))[j]?=some (some (.ref l)):=tQ (by rw[q1];exact(List.getElem?_eq_some_iff.mp n1).1);have keep:∀{H1:Hp} {q:Addr} {x:HO},(∀b o,H b=some o->H1 b=some o)->H1 q=none->∀b o,H b=some o->upd H1 q x b=some o:=λk1 k2 b o e=>by rw[bq (bN (k1 b o e) k2)];exact k1 b o e
 refine⟨e1,_,rfl,?_⟩;dsimp only;rw[cG rfl];refine⟨_,e2,by show 3<=sizeLine;decide,λl2 hl2=>?_⟩;have ne2:l≠l2:=λz=>by rw[<-z,cB]at hl2;cases hl2
 refine⟨l,l2,rfl,rfl,ne2,by rw[bq ne2];exact cB,cB,?_⟩;exact⟨_,rfl,q _ (keep (keep (λ_ _ e=>e) hl) hl2)⟩
structure DA(K:PySem.W.Frag)(mg:Str->Option Value)(Wc C D0 D1 D2:Addr)(x0 x1 x2:Str):Prop where
 mw:mg "WayError" = some (.ref Wc)
 k:O0 K C D0 D1 D2
 m0:mg x0=some (.ref D0)
 m1:mg x1=some (.ref D1)
 m2:mg x2=some (.ref D2)
 mi:mg "isinstance" = none
 mv:mg "ValueError" = none
 d0:(x0==("__debug__" : Str))=false
 d1:(x1==("__debug__" : Str))=false
 d2:(x2==("__debug__" : Str))=false
structure O1(sc:Scope)(N:List Str)(i j:Nat)(x0 x1 x2:Str):Prop where
 n0:N[i]?=some ("e" : Str)
 n1:N[j]?=some ("_law_flags" : Str)
 h0:sc.names.lookup ("e" : Str)=some .local
 h1:sc.names.lookup ("_law_flags" : Str)=some .local
 g0:sc.names.lookup x0=some .globalImplicit
 g1:sc.names.lookup x1=some .globalImplicit
 g2:sc.names.lookup x2=some .globalImplicit
 gi:sc.names.lookup ("isinstance" : Str)=some .globalImplicit
 gv:sc.names.lookup ("ValueError" : Str)=some .globalImplicit
 gw:sc.names.lookup ("WayError" : Str)=some .globalImplicit
set_option maxHeartbeats 1000000 in
def GR{Wc D0 D1 D2:Addr}{x0 x1 x2:Str}{i j:Nat}{D:Ends}{Qf:Flow->Shared->Prop}{E:Value->Shared->Prop}{pw p0 p1 p2 p3 p4 p5 p6 p7 p8 p9 tw tD tE tF tG tH tK qz Bu Bv Bw Bx By BA BB BC BD BE BF BG:Pos}(R:DA X.K X.mg Wc C D0 D1 D2 x0 x1 x2)(kw:exmOne X.K (.ref C) (.ref Wc)=some true)
  (hs:X.stack=X.env :: X.outer) (hf:X.env.frame=some X.env.locals) (hu:X.A.units+1+Ev.deep<cLine) (hN:X.N.Nodup) (S:O1 X.env.scope X.N i j x0 x1 x2) (KD:X.xe=λ_ _=>False)
  (I1:Inv X pins σ H s) (f:fR X.prog X.w X.stack H s a C H' s') (q:∀jN,(∀b o,H' b=some o->jN b=some o)->D.rt .aO jN) (hQ:∀u s7,SP X pins D (.ret u) s7->Qf (.ret u) s7) :
  wpAny (model X.prog X.w) X.A (noteFrame (.ref a) X.env) (λ_ s₂=>wpAny (model X.prog X.w) X.A (setFlight (.ref a) none) (λ_ s₃=>wpAny (model X.prog X.w) X.A (handleBy (.ref a) X.env [.ExceptHandler (some (.Name "WayError" pw)) (some "e") [.Assign [.Name "_law_flags" p0] (.List [.Call (.Name "isinstance" p1) [.Name "e" p2,.Name x0 p3] [] p4,.Call (.Name "isinstance" p5) [.Name "e" p6,.Name x1 p7] [] p8,.Call (.Name "isinstance" p9) [.Name "e" tw,.Name x2 tD] [] tE] tF) tG,
   .If (.BoolOp .And [.Call (.Name "isinstance" tH) [.Name "e" tK,.Name "ValueError" qz] [] Bu,.Compare (.Name "_law_flags" Bv) [.Eq] [.List [.Constant (.bool true) 0 Bw,.Constant (.bool false) 0 Bx,.Constant (.bool false) 0 By] BA] BB] BC) [.Return (some (.Constant .none 0 BD)) BE] [] BF] BG]) Qf E s₃) E s₂) E s':=by
 have hi:=S.n0;have hk:=S.h0;refine zL I1 f hs hf λs2 f2=>?_;have I2:=f2.inv I1;have RQ:=f2.un;refine wpAny_handleBy_cons (codeAny_handlers_test ?_) (λz=>nomatch z);refine UM I2.ok.kind S.gw (VX (by rw[I2.ok.glob];exact I2.mod.glob.keeps I2.bk) R.mw ?_) (by decide);refine exm_one I2.dY (nR f2.xi) kw _ _ _ _ (λ_ _ e=>e) ?_;show codeAny _ _ (Code.handlers (.ref a) [.ExceptHandler none (some "e") _ BG] X.env) _ s2;refine codeAny_handlers_suite_as ?_;refine f2.on (lA I1 RQ) λs3 f3=>?_;have I3:=f3.inv I1;obtain⟨nf,na⟩:=f3.new;obtain⟨oe,KN,RS,vs,x3⟩:=f3.xi;refine mj I3 hN hi (.inl hk) (v:=.ref a) rfl (λs4 I4 ⟨b,RT,hb⟩=>?_) (.inr hk);have hab:a≠b:=λz=>by
  subst z;rcases hb with z|z
  .obtain⟨m,⟨o,es,ep,e1,e2,_⟩,_⟩:=I3.loc;rw[<-z,KN]at e1;cases e1;rw[x3]at e2;cases e2
  .obtain⟨v,o,e1,e2⟩:=I3.cell _ _ z;rw[KN]at e1;cases e1;rw[x3]at e2;cases e2
 have x4:s4.heap.get? a=some oe:=(RT.2 a hab).trans KN;have RU:a≠X.env.locals:=λz=>by
  obtain⟨m,⟨o,es,ep,e1,e2,_⟩,_⟩:=I4.loc;rw[<-z,x4]at e1;cases e1;rw[x3]at e2;cases e2
 have RW:a∉X.fs:=λz=>nf (by rw[hs];unfold frs;rw[Om,hf];exact .tail _ z);have RX:=Sm.Inv.han (a:=a) (oe:=oe) I4 x4 na RU RW (λv=>by rw[x3];exact λz=>nomatch z);have hσ:(σ.set i (some (V.ref a)))[i]?=some (some (.ref a)):=tQ (by rw[I3.len];exact(List.getElem?_eq_some_iff.mp hi).1);refine E9 (Qz (X:=Sm.han X a oe) (C:=C) (.head _) RS ⟨vs,x3⟩ hu R.k S.g0 S.g1 S.g2 S.gi S.gv R.m0 R.m1 R.m2 R.mi R.mv R.d0 R.d1 R.d2 hN S.n0 S.n1 S.h0 S.h1 pins s4 _ H' { nx:=λ_ _=>False,rt:=λv jN=>v=.aO/\D.rt .aO jN } RX ⟨⟨I4.len,hσ⟩,λjN m=>⟨rfl,q jN m⟩⟩) (λfl s5 hq=>?_) (λ_ _ z=>by rw[show(Sm.han X a oe).xe=X.xe from rfl,KD]at z;exact z.elim);cases fl with
 |next=>obtain⟨_,_,_,z⟩:=hq;exact z.elim
 |brk=>obtain⟨_,_,_,z⟩:=hq;exact z.elim
 |cont=>obtain⟨_,_,_,z⟩:=hq;exact z.elim
 |ret u5=>
  obtain⟨v,SM,H5,IC,r5,rfl,q5⟩:=hq;have I5:=Sm.Inv.NQ I4.ok IC;cases r5;show wpAny _ _ (do bindName X.env "e" .none;unbindBehindTheSuite X.env "e" BG) _ _ s5;refine b8 (wpAny_bindName (o8 I5 hN hi (.inl hk) (v:=.aO) rfl (λs6 I6=>?_) (.inr hk)));refine wpAny_onRaise (Bm I6 hN hi hk (v:=.aO) (tQ (by rw[I5.len];exact(List.getElem?_eq_some_iff.mp hi).1)) λs7 I7=>?_);exact hQ _ _ ⟨.aO,_,H5,I7,rfl,q5⟩
end
section
variable{G:Tb}{cl:Nat->Addr}{su:List Nat}{n:Nat}{sc:Scope}{N:List Str}{a:E}{xa xb xc:Expr}{pos:Pos}{ta tb:Ss}
def RY(cl:Nat->Addr)(X:Cx)(pins:List (Addr×Obj))(σ:L2.St)(R:VK)(E':Value->Shared->Prop):Prop:=∀(H2:Hp) (s2:Shared) (a:Addr) (H':Hp) (s':Shared),Inv X pins σ H2 s2->fR X.prog X.w X.stack H2 s2 a (cl 0) H' s'->(∀jN,(∀b o,H' b=some o->jN b=some o)->R .aO jN)->E' (.ref a) s'
def yf(G:Tb)(cl:Nat->Addr)(su:List Nat)(n:Nat)(sc:Scope)(N:List Str)(ss:Ss)(x:Expr):Prop:=∀X,Good G n sc N true X->pP X.prog X.w X.K X.mg X.base G cl su n->∀(pins:List (Addr×Obj)) (s:Shared) (σ:L2.St) (H:Hp) (D:Ends) (E':Value->Shared->Prop),Inv X pins σ H s->pB X.K (List.range N.length) (Ev.run G.F G.w n) G.w ss D σ H->RY cl X pins σ D.rt E'->wpAny (model X.prog X.w) X.A (eval x X.env) (EP X pins σ D.rt) E' s
def vA{f:Nat}{j:FI}{es:Es}{x:Str}{e0:Expr}{xs:List Expr}{p cp:Pos}(hG:G.F.length<=1000)(hj:G.fi[f]?=some j)(hx:j.name=x)(RZ:su.contains f=true)(hs:JA G n sc N true (List.range N.length) es (e0 :: xs))(hcl:oQ sc x=true)
  (se:∀env:Env,starEach (e0 :: xs) env=(false,eval e0 env) :: starEach xs env:=by intro _;rfl) (sp:∀env:Env,(backTo cp (starEach xs env)).any (·.1)=false:=by intro _;rfl) :
  yf G cl su n sc N (.cons (.tr f 1001 es) .nil) (.Call (.Name x p) (e0 :: xs) [] cp):=λX g A1 pins s1 σ1 H1 D E' I q hx'=>by
 subst hx;obtain⟨r,fr,h,fl,ai,h',sr,hr',e,q⟩:=q;simp only[Ev.exs,Ev.ex]at e;obtain⟨⟨fJ,af⟩,h2',e2,e⟩:=Ev.ah e;obtain⟨ds,h3',e3,e2⟩:=Ev.ah e2;obtain⟨y,SN,e4,e2⟩:=Ev.ah e2;cases e2;cases e;cases ey:Ev.run G.F G.w n f ds h3' with
 |ok d hd=>
  rw[ey]at e4;obtain⟨rfl,rfl⟩:d=y/\hd=h':=by simpa[Ev.tryD]using e4
  exact E9 (OT (pos:=cp) (p:=p) hcl hj rfl hs se sp X g pins s1 σ1 H1 D.rt I ⟨r,fr,h,d,_,sr,hr',by simp only[Ev.ev,e3,Ev.aj,ey],q⟩) (λ_ _ z=>z) (λ_ _ z=>by rw[g.xe]at z;exact z.elim)
 |bad=>
  rw[ey]at e4;simp only[Ev.tryD]at e4;obtain⟨dc,SO,e5,e4⟩:=Ev.ah e4;obtain⟨c,rfl,ex⟩:=KG hG e5;obtain⟨e6,e7⟩:=Ev.aD e4;subst e7;simp only[Ev.zx]at e6;rw[cG trivial]at e6;split at e6
  case isFalse=>cases e6
  rename_i hc4;cases e6;obtain rfl:c=0:=by omega
  obtain⟨g1,g2,g3,_⟩:=g.fn f j hj;unfold oQ at hcl;simp only[fW,T4]at hcl;refine Bt (Ex:=λv _ H'=>v=.ref (cl 0)/\∃r',HR X.K H' r' h'/\Fm X.K r r' H1 H') (A1 f j hj RZ) g.room (g.gl (by simpa using hcl.1)) g1 g2 g3 hcl.2 (hs X g) g.xe (se _) (sp _) I ⟨r,fr,h,ds,h3',sr,hr',e3,λvs H2 r2 v2 hr2 f2=>⟨r2,h3',ds,0,h',v2,hr2,ex,λH' r' y1 y2=>⟨rfl,r',y1,f2.trans y2⟩⟩⟩ λH2 s2 a C H' s' I2 fl ⟨hC,r',jU,f3⟩=>?_;cases hC;refine hx' H2 s2 a H' s' I2 fl λjN m1=>?_;obtain⟨f4,xG⟩:=GO (K:=X.K) (r:=r') (h:=h') m1;exact q _ jN r' rfl (xG jU) (f3.trans f4)
def GS(hc:JT G n sc N true (List.range N.length) a xa)(h1:yf G cl su n sc N ta xb)(h2:yf G cl su n sc N tb xc):yf G cl su n sc N (.cons (.iff a ta tb) .nil) (.IfExp xa xb xc pos):=λX g A1 pins s σ H D E' I q hx=>by
 refine wpAny_IfExp (E9 (hc X g pins s σ H _ I (KJ q)) (λd s1 ⟨H1,I1,q1⟩=>?_) λ_ _ z=>by rw[g.xe]at z;exact z.elim);cases d with
 |true=>exact h1 X g A1 pins s1 σ H1 D E' I1 q1 hx
 |false=>exact h2 X g A1 pins s1 σ H1 D E' I1 q1 hx
end
section
variable{G:Tb}{cl:Nat->Addr}{su:List Nat}{n:Nat}{P:Program}{w:World}{K:PySem.W.Frag}{mg:Str->Option Value}{base:Heap}
set_option maxHeartbeats 1000000 in
def DB{x qual:Str}{st:Stmt}{i:FI}{N:List Str}{ft:Nat}{fn:Ev.Fn}{xb:Expr}{rest:List Stmt}{Wc D0 D1 D2:Addr}{x0 x1 x2:Str}{ix jx:Nat}{pr pt pw p0 p1 p2 p3 p4 p5 p6 p7 p8 p9 tw tD tE tF tG tH tK qz Bu Bv Bw Bx By BA BB BC BD BE BF BG:Pos}(T:Top P w K mg G)(A0:nN P w K mg base G n)(A1:pP P w K mg base G cl su n)
  (R:DA K mg Wc (cl 0) D0 D1 D2 x0 x1 x2) (kw:PySem.W.exmOne K (.ref (cl 0)) (.ref Wc)=some true)
  (F:qh K x qual st i.addr i.fd) (S:bJ N i.ps (aF st)) (O2:G.F[ft]?=some fn) (hp:i.ps.length=fn.np)
  (hst:cF st=.Try [.Return (some xb) pr] [.ExceptHandler (some (.Name "WayError" pw)) (some "e") [.Assign [.Name "_law_flags" p0] (.List [.Call (.Name "isinstance" p1) [.Name "e" p2,.Name x0 p3] [] p4,.Call (.Name "isinstance" p5) [.Name "e" p6,.Name x1 p7] [] p8,.Call (.Name "isinstance" p9) [.Name "e" tw,.Name x2 tD] [] tE] tF) tG,
   .If (.BoolOp .And [.Call (.Name "isinstance" tH) [.Name "e" tK,.Name "ValueError" qz] [] Bu,.Compare (.Name "_law_flags" Bv) [.Eq] [.List [.Constant (.bool true) 0 Bw,.Constant (.bool false) 0 Bx,.Constant (.bool false) 0 By] BA] BB] BC) [.Return (some (.Constant .none 0 BD)) BE] [] BF] BG] [] [] pt :: rest)
  (hb:yf G cl su n (aF st) N fn.body xb) (sn:O1 (aF st) N ix jx x0 x1 x2) :
  fc P w K mg base kG (n+1) i.addr i.fd i.ps (lS K G.F G.w (n+1) ft):=by
 have hlen:∀vs H Q E,lS K G.F G.w (n+1) ft vs H Q E->vs.length=i.ps.length:=λvs H Q E h=>by
  obtain⟨r,h,ds,d,h',v1,_,e,_⟩:=h;simp only[Ev.fG,O2]at e;split at e
  .rename_i z;rw[v1.length,z,hp]
  .cases e
 refine F.ok S hlen λcdv A outer s H vs Q Ex hr dQ=>?_;have hl:=hlen vs H Q Ex dQ;have hN:vs.length<=N.length:=by
  have:=Pc List.length S.pre;rw[Uc]at this;omega
 generalize hX:(kh kG P w K mg base N qual (aF st) i.addr cdv A outer s H Ex).cT=X
 have g:Good G n (aF st) N true X:=by
  rw[<-hX];exact⟨rfl,rfl,rfl,λ_ _=>rfl,hr,rfl,λf i hi=>⟨(T.fn f i hi).1,(T.fn f i hi).2.1,(T.fn f i hi).2.2,A0 f i
   hi
   ⟩,T.bl,T.cs,T.dk
   ⟩
 have R0:X.stack=X.env :: X.outer:=by rw[<-hX];rfl
 have xf:X.env.frame=some X.env.locals:=by rw[<-hX];rfl
 have xK:X.K=K:=by rw[<-hX];rfl
 have xm:X.mg=mg:=by rw[<-hX];rfl
 have F1:pP X.prog X.w X.K X.mg X.base G cl su n:=by rw[<-hX];exact A1
 refine⟨pB X.K (List.range N.length) (Ev.run G.F G.w n) G.w fn.body,?_,?_⟩
 .rw[hst];intro pins s1 σ1 H1 D I q;refine Va (wpAny_Try_except (Va (wpAny_Return_some (E9 (hb X g F1 pins s1 σ1 H1 D _ I q λH2 s2 a H' s' I2 fl q2=>?_) (λu s2 ⟨v,H',z1,z2,z3⟩=>?_) λ_ _ z=>z))))
  .exact GR (i:=ix) (j:=jx) (D:=D) (by rw[xK,xm];exact R) (by rw[xK];exact kw) R0 xf g.units (by rw[g.nm];exact S.nd) (by rw[g.nm,g.sc];exact sn) g.xe I2 fl q2 (λu s7 z=>z)
  .exact⟨v,σ1,H',z1,z2,z3⟩
 .obtain⟨r,h,ds,d,h',v1,hr1,e,q⟩:=dQ;simp only[Ev.fG,O2]at e;split at e
  .unfold Ev.endOf at e;obtain⟨⟨fl,ai⟩,h2,e1,e⟩:=Ev.ah e;refine⟨r,Ev.cI fn ds,h,fl,ai,h2,by rw[xK];exact pC v1 hN,by rw[xK];exact hr1,e1,?_⟩;rw[xK];cases fl with
   |nx=>
    cases e;exact λs' H' r' _ hr' f'=>q _ H' r' rfl hr' f'
   |ret d'=>
    cases e;exact q
   |bk=>cases e
   |ct=>cases e
  .cases e
end
end Sm
namespace Sm
open PySem PySem.Spec PyProof.Rows L2
open Ev (D O Hh Fr R aB E Es Eo It T S Ss Fl Src bu aV TY BI ME)
section
variable{G:Tb}{cl:Nat->Addr}{bE:List (Str×Nat)}{rz su:List Nat}{n:Nat}{sc:Scope}{N:List Str}{df:Bool}{m:List Nat}{a:E}{xa:Expr}{pos:Pos}
def KO{es:Es}{xs:List Expr}{k}(ks:Bs G cl bE rz su n sc N df m es xs):mY G cl bE rz su n sc N df m (.tup es) (.Tuple xs k pos):=λX Ex g pins s σ H Q I q=>by
 obtain⟨r,fr,hh,c,h',sr,hr,e,q⟩:=q;simp only[Ev.xe]at e;exact AD (ks X Ex g) pins s σ H Q I ⟨r,fr,hh,c,h',sr,hr,e,q⟩
def KP {p:Pos}(ka:mY G cl bE rz su n sc N df m a xa) (h1:("tuple" : Str)∈G.bl:=by decide +kernel) (Bf:sc.names.lookup ("tuple" : Str)=some .globalImplicit:=by rfl)
  (hst:∀env:Env,starEach [xa] env=[(false,eval xa env)]:=by intro _;rfl):mY G cl bE rz su n sc N df m (.fO a) (.Call (.Name "tuple" p) [xa] [] pos):=λX Ex g pins s σ H Q I q=>by
 obtain⟨r,fr,hh,c,h',sr,hr,e,q⟩:=q;simp only[Ev.xe]at e;exact mF (X:=X) (T:="tuple") (r:=λ_ _ _=>False) (λ_ _ _ _ _ _ _ _ _ z=>z.elim) (g.g.gl Bf) (g.g.bl _ h1) (by decide +kernel) (cK (ka X Ex g) (t:=λ_ _ _=>False) (λ_ _ _ _ _ _ _ z=>z.elim) (hst _)) (by decide) (by decide) (hst _) rfl pins s σ H Q I ⟨r,fr,hh,c,h',sr,hr,e,q⟩
end
section
variable{prog:Program}{w:World}{A:Around}{s:Shared}{R':Result->Shared->Prop}
def tW{elt target iter:Expr}{ifs:List Expr}{scope:Scope}{pos:Pos}{it acc:Value}{env:Env}(I:Nat->Shared->Prop)
  (turn:∀n s,I n s->wpAny (model prog w) A (pyNext it) (λr s₁=>match r with
   |none=>R' (.ok .next) s₁
   |some v=>wpAny (model prog w) A (letOwnedTupleGo target it v) (λ_ s₂=>wpAny (model prog w) A (assign target env v) (λ_ s₃=>
     wpAny (model prog w) A (rq ifs env) (λok s₄=>
      if ok=true then wpAny (model prog w) A (eval elt env) (λx s₅=>
       wpAny (model prog w) A (call (.builtin "list.append") [acc,x]) (λ_ s₆=>∃m,m<n/\I m s₆) cA s₅) (notedBy (model prog w) A env λe s'=>R' (.error e) s') s₄
      else ∃m,m<n/\I m s₄) cA s₃) cA s₂) cA s₁) cA s)
  (n:Nat) (h:I n s):codeAny (model prog w) A (.compLoop (.ListComp elt [⟨target,iter,ifs,0⟩] scope pos) 0 it acc env) R' s:=by
 refine codeAny_loop rfl I (λn s hI=>?_) n h;show wpAny _ A ((compTurn (.ListComp elt [⟨target,iter,ifs,0⟩] scope pos) 0 it acc env).onRaise (λx=>do noteFrame x env;theTreesLotGoes x)) _ _ s;refine wpAny_noted ?_;rw[compTurn_list];refine b8 (Wn (b8 (E9 (turn n s hI) (λr s₁ h₁=>?_) λ_ _ z=>z.elim)));cases r with
 |none=>exact eS h₁
 |some v=>
  refine b8 (E9 h₁ (λ_ s₂ h₂=>?_) λ_ _ z=>z.elim);refine b8 (E9 h₂ (λ_ s₃ h₃=>b8 (E9 h₃ (λok s₄ h₄=>?_) λ_ _ z=>z.elim)) λ_ _ z=>z.elim);cases ok with
  |false=>exact eS ⟨rfl,h₄⟩
  |true=>
   exact b8 (b8 (E9 h₄ (λx s₅ h₅=>b8 (E9 h₅ (λ_ s₆ h₆=>eS (eS ⟨rfl,h₆⟩)) λ_ _ z=>z.elim)) λ_ _ z=>z))
end
section
variable{G:Tb}{cl:Nat->Addr}{bE:List (Str×Nat)}{rz su:List Nat}{n:Nat}{sc:Scope}{N N':List Str}{df:Bool}{m m':List Nat}{elt:E}{it:Ev.It}{xe xi:Expr}{pos:Pos}
def EM(G:Tb)(cl:Nat->Addr)(bE:List (Str×Nat))(rz su:List Nat)(n:Nat)(sc:Scope)(N:List Str)(df:Bool)(m:List Nat)(it:Ev.It)(xi:Expr):Prop:=∀X Ex,GX G cl bE rz su n sc N df Ex X->∀(pins:List (Addr×Obj)) (s:Shared) (σ:L2.St) (H:Hp),Inv X pins σ H s->
 tX X.K cl m Ex (Ev.xi (Ev.run G.F G.w n) (Ev.bF G.F G.w n) it) σ H->wpAny (model X.prog X.w) X.A (eval xi X.env) (λ_ _=>False) X.xe s
def KQ(h:Ev.El rz it=true):EM G cl bE rz su n sc N df m it xi:=λX Ex g pins s σ H I q=>by
 obtain⟨r,fr,h1,c,h',sr,hr,e,q⟩:=q;rw[Ev.Jg g.nz _ h]at e;cases e
def GU{a:E}{xa:Expr}(ka:mY G cl bE rz su n sc N df m a xa):EM G cl bE rz su n sc N df m (.seq a) xa:=λX Ex g pins s σ H I q=>by
 obtain⟨r,fr,h1,c,h',sr,hr,e,q⟩:=q;simp only[Ev.xi]at e;exact E9 (ka X Ex g pins s σ H (λ_ _=>False) I ⟨r,fr,h1,c,h',sr,hr,e,q⟩) (λ_ _ ⟨_,_,_,_,z⟩=>z) λ_ _ z=>z
def DC(Y:Cx)(r:List Addr)(H:Hp)(C:Addr)(h':Hh):Value->Shared->Prop:=λe s'=>∃a H1 s1 H' σ1 p1 r',e=.ref a/\Inv Y p1 σ1 H1 s1/\fR Y.prog Y.w Y.stack H1 s1 a C H' s'/\HR Y.K H' r' h'/\Fm Y.K r r' H H'
def EN(G:Tb)(cl:Nat->Addr)(bE:List (Str×Nat))(rz su:List Nat)(n:Nat)(sc sc':Scope)(N N':List Str)(df:Bool)(m':List Nat)(elt:E)(xe:Expr):Prop:=∀X Ex,GX G cl bE rz su n sc N df Ex X->∀Y:Cx,Good G n sc' N' false Y->Y.prog=X.prog->Y.w=X.w->Y.K=X.K->Y.mg=X.mg->Y.base=X.base->
 ∀(pins:List (Addr×Obj)) (s:Shared) (σ:L2.St) (H:Hp) (r:List Addr) (fr:Fr) (h:Hh) (c:Nat) (h':Hh),Inv Y pins σ H s->SR Y.K m' H r fr σ->HR Y.K H r h->Ev.xe (Ev.run G.F G.w n) (Ev.bF G.F G.w n) elt fr h=some (c,h')->
  wpAny (model Y.prog Y.w) Y.A (eval xe Y.env) (λ_ _=>False) (DC Y r H (cl c) h') s
def BH{sc':Scope}{f:Nat}{i:FI}{es:Es}{x:Str}{e0:Expr}{xs:List Expr}{p:Pos}(h:oQ sc' x=true)(hu:su.contains f=true)(hf:G.fi[f]?=some i)(hx:i.name=x)(hs:JA G n sc' N' false m' es (e0 :: xs))(hz:Ev.sG rz es=true)
  (hst:∀env:Env,starEach (e0 :: xs) env=(false,eval e0 env) :: starEach xs env:=by intro _;rfl) (hpl:∀env:Env,(backTo pos (starEach xs env)).any (·.1)=false:=by intro _;rfl) :
  EN G cl bE rz su n sc sc' N N' df m' (.cl f es) (.Call (.Name x p) (e0 :: xs) [] pos):=λX Ex g Y gY y1 y2 y3 y4 y5 pins s σ H r fr hh c h' I sr hr e=>by
 subst hx;unfold oQ at h;simp only[fW,T4]at h;obtain⟨h1,h2,h3,_⟩:=gY.fn f i hf;have hg:Gl Y i.name:=gY.gl (by simpa using h.1);have F:=g.fn f i hf hu;rw[<-y1,<-y2,<-y3,<-y4,<-y5]at F;simp only[Ev.xe]at e;split at e
 .rename_i ds hd ey;refine Bt (Ex:=λC _ H'=>C=.ref (cl c)/\∃r',HR Y.K H' r' h'/\Fm Y.K r r' H H') F gY.room hg h1 h2 h3 h.2 (hs Y gY) gY.xe (hst _) (hpl _) I ⟨r,fr,hh,ds,hd,sr,hr,ey,λvs H1 r1 v1 hr1 f1=>?_⟩ λH1 s1 a C H' s' I1 fl q=>?_
  .exact⟨r1,hd,ds,c,h',v1,hr1,e,λH' r' z1 z2=>⟨rfl,r',z1,f1.trans z2⟩⟩
  .obtain⟨q1,r',q2,q3⟩:=q;cases q1;exact⟨a,H1,s1,H',σ,pins,r',rfl,I1,fl,q2,q3⟩
 .rw[Ev.ri g.nz _ hz]at e;cases e
end
section
variable{G:Tb}{cl:Nat->Addr}{bE:List (Str×Nat)}{rz su:List Nat}{n:Nat}{sc scope:Scope}{N N':List Str}{df:Bool}{m m':List Nat}{elt:E}{t:T}{it:Ev.It}{cond:Eo}{xe xi tg:Expr}{ifs:List Expr}{pos:Pos}{X:Cx}
def vC(P:aB)(Xp:Ev.bR)(elt:E)(t:T)(cond:Eo)(fr:Fr):D->Hh->Ev.XR:=λd h2=>match Ev.aY t d fr with
 |some ak=>(match Ev.eN P cond ak h2 with
  |.ok true h3=>Ev.xe P Xp elt ak h3
  |_=>none)
 |none=>none
def GV(P:aB)(Xp:Ev.bR)(elt:E)(t:T)(it:Ev.It)(cond:Eo)(fr:Fr)(h:Hh):Ev.xe P Xp (.comp elt t it cond) fr h=match Ev.bQ P it fr h with
  |.ok s h1=>if Ev.undef t fr=true/\s.1.length<=Ev.big then Ev.dm (lg P elt t cond fr) (vC P Xp elt t cond fr) s.2 s.1 h1 else none
  |.bad=>Ev.xi P Xp it fr h:=by
 simp only[Ev.xe];rfl
def EO(Y:Cx)(m':List Nat)(f:D->Hh->R (Option D))(g:D->Hh->Ev.XR)(fr:Fr)(src:Src)(fp:List Addr)(tn:Nat->Heap->Prop)(r2:List Addr)(H2:Hp)(Dd:Addr)(c:Nat)(hX:Hh)(k:Nat)(s:Shared):Prop:=
 ∃i iV Hc rc hc dn vs,Inv Y [] iV Hc s/\tn i s.heap/\(∀b∈fp,Hc b=none)/\k=src.1.length - i/\i<=src.1.length/\
  SR Y.K m' Hc rc fr iV/\HR Y.K Hc rc hc/\Fm Y.K r2 rc H2 Hc/\Hc Dd=some (.lst vs)/\Dd∉rc/\aE Y.K Hc rc dn vs/\dn.length<=i/\Ev.dm f g src.2 (src.1.drop i) hc=some (c,hX)
section
variable{Y:Cx}{sc':Scope}{J:L2.It}{fp:List Addr}{ita:Addr}{tn:Nat->Heap->Prop}{fr:Fr}{src:Src}{r2:List Addr}{H2:Hp}{Dd:Addr}{c:Nat}{hX:Hh}
def vD{i:Nat}{ee:L2.St}{H9:Hp}{r9:List Addr}{h9:Hh}{dn:List D}{vs:List V}{s9:Shared}{p:List (Addr×Obj)}{f:D->Hh->R (Option D)}{g:D->Hh->Ev.XR}(hlt:i<src.1.length)(I9:Inv Y ([]++p) ee H9 s9)(bk:tn (i+1) s9.heap/\∀b∈fp,H9 b=none)(q:SR Y.K m' H9 r9 fr ee)(gu:HR Y.K H9 r9 h9)(fm:Fm Y.K r2 r9 H2 H9)(lq:H9 Dd=some (.lst vs))(lu:Dd∉r9)(rv:aE Y.K H9 r9 dn vs)(hl:dn.length<=i+1)(e7:Ev.dm f g src.2 (src.1.drop (i+1)) h9=some (c,hX)) :
  ∃k,k<src.1.length - i/\EO Y m' f g fr src fp tn r2 H2 Dd c hX k s9:=
 ⟨src.1.length - (i+1),Vp hlt (Vb i),i+1,ee,H9,r9,h9,dn,vs,I9.jz,bk.1,bk.2,rfl,hlt,q,gu,fm,lq,lu,rv,hl,e7⟩
def GW{i:Nat}{ee:L2.St}{H9:Hp}{r9:List Addr}{h9:Hh}{dn:List D}{vs:List V}{xd:D}{v10:V}{qt:Value}{s9:Shared}{p:List (Addr×Obj)}{f:D->Hh->R (Option D)}{g:D->Hh->Ev.XR}(hlt:i<src.1.length)(hbig:src.1.length<=Ev.big)(gm:H2 Dd=none)(gC:Good G n sc' N' false Y)(I9:Inv Y ([]++p) ee H9 s9)(pD:RelV v10 qt)(bk:∀{σ':L2.St}{H':Hp}{s':Shared},Inv Y ([]++p) σ' H' s'->tn (i+1) s'.heap/\∀b∈fp,H' b=none)(q:SR Y.K m' H9 r9 fr ee)(gu:HR Y.K H9 r9 h9)(fm:Fm Y.K r2 r9 H2 H9)(iJ:H9 Dd=some (.lst vs))(lT:Dd∉r9)(rv:aE Y.K H9 r9 dn vs)(pF:RV Y.K H9 r9 xd v10)(hl:dn.length<=i)(e7:Ev.dm f g src.2 (src.1.drop (i+1)) h9=some (c,hX)) :
  wpAny (model Y.prog Y.w) Y.A (call (.builtin "list.append") [.ref Dd,qt]) (λ_ uS=>∃k,k<src.1.length - i/\EO Y m' f g fr src fp tn r2 H2 Dd c hX k uS) cA s9:=by
 have hlen:vs.length<sizeLine:=by
  have h1:=rv.length;rw[<-jI];omega
 refine aQ (ko gC (mJ _ s9 ee H9 (.ref Dd) [v10] (.ref Dd) [qt] (λ_ A6=>A6=upd H9 Dd (.lst (vs++[v10]))) I9 rfl (.cons pD .nil) ⟨Dd,vs,v10,rfl,rfl,iJ,hlen,rfl⟩)) λ_ uS ⟨_,A6,A7,_,Dc⟩=>?_;subst Dc;refine vD (dn:=dn++[xd]) (vs:=vs++[v10]) hlt A7 (bk A7) ?_ (gu.other iJ lT) (fm.other gm iJ) cB lT ?_ (by simp;omega) e7
 .exact⟨q.len,λj i' d' a1 a2=>by
   obtain⟨w,b1,b2⟩:=q.sl j i' d' a1 a2;exact⟨w,b1,b2.grow (λ_ _ z=>z) (fk iJ)⟩⟩
 .exact(rv.append (.cons pF .nil)).grow (λ_ _ z=>z) (fk iJ)
def zM(gC:Good G n sc' N' false Y)(hg:JG G n sc' N' false m' t tg)(hc:JC G n sc' N' false m' cond ifs)(he:JE G n sc' N' false m' elt xe)
  (kx:∀(pins:List (Addr×Obj)) (s:Shared) (σ:L2.St) (H:Hp) (r:List Addr) (fr:Fr) (h:Hh) (c:Nat) (h':Hh),Inv Y pins σ H s->SR Y.K m' H r fr σ->HR Y.K H r h->Ev.xe (Ev.run G.F G.w n) (Ev.bF G.F G.w n) elt fr h=some (c,h')->wpAny (model Y.prog Y.w) Y.A (eval xe Y.env) (λ_ _=>False) (DC Y r H (cl c) h') s)
  (Tn:Turn Y.prog Y.w Y.K tg J fp ita tn) (gZ:∀{Hc:Hp},(∀b∈fp,Hc b=none)->∀b∈fp,eX Y [] Hc b)
  (hu:Ev.undef t fr=true) (hJ:mS Y.K r2 H2 src J) (gm:H2 Dd=none) (hbig:src.1.length<=Ev.big) {R':Result->Shared->Prop}
  (De:∀e s',DC Y r2 H2 (cl c) hX e s'->notedBy (model Y.prog Y.w) Y.A Y.env (λe s'=>R' (.error e) s') e s') {k:Nat} {s:Shared}
  (h:EO Y m' (lg (Ev.run G.F G.w n) elt t cond fr) (vC (Ev.run G.F G.w n) (Ev.bF G.F G.w n) elt t cond fr) fr src fp tn r2 H2 Dd c hX k s):codeAny (model Y.prog Y.w) Y.A (.compLoop (.ListComp xe [⟨tg,xi,ifs,0⟩] scope pos) 0 (.ref ita) (.ref Dd) Y.env) R' s:=by
 refine tW (EO Y m' (lg (Ev.run G.F G.w n) elt t cond fr) (vC (Ev.run G.F G.w n) (Ev.bF G.F G.w n) elt t cond fr) fr src fp tn r2 H2 Dd c hX) ?_ k h;rintro k s5 ⟨i,iV,Hc,rc,hc',dn,vs,I5,sf,mD,rfl,hle,sM,oH,lU,iJ,lT,sP,O3,e5⟩;have hlt:i<src.1.length:=by
  rcases VN i src.1.length with z|z
  .exact z
  .have:i=src.1.length:=V0 hle z;rw[this,VR]at e5;cases e5
 rw[UR hlt]at e5;simp only[Ev.dm]at e5;split at e5
 case isFalse=>cases e5
 rename_i hst;obtain⟨hgo,_⟩:=hJ i Hc rc hc' oH lU hst;obtain⟨g1,g2⟩:=hgo src.1[i] (tP hlt);refine aQ (Tn.item Y rfl rfl rfl gC.calm i [] s5 iV Hc cA I5 (gZ mD) sf g1) λrr s6 ⟨u,JY,h8⟩=>?_;subst JY;refine aQ h8 λ_ s7 ⟨x,H7,I7,rx,y7,uT,JZ⟩=>?_;obtain⟨r7,v7,uU,jJ⟩:=g2 x H7 y7;obtain⟨Df,Dh⟩:=jJ.cC iJ lT;have Ey:=I7.pinned (gZ JZ) (Tn.obj _ _ uT);have back:∀{σ':L2.St} {H':Hp} {s':Shared},Inv Y ([]++kB fp s7.heap) σ' H' s'->tn (i+1) s'.heap/\∀b∈fp,H' b=none:=λ{σ' H' s'} I'=>
  ⟨Tn.keep _ _ _ uT λb hb o e=>(I'.pin (b,o) (L8 _ (L8 _ (fZ hb e)))).1,λb hb=>
   let ⟨o,e,_⟩:=Tn.obj _ _ uT b hb
   (I'.pin (b,o) (L8 _ (L8 _ (fZ hb e)))).2.1⟩
 split at e5
 .rename_i o h6 e6;unfold lg at e6;split at e6
  .cases e6
  .rename_i ak eb;obtain⟨kk,h9,e9,e6⟩:=Ev.ah e6;refine aQ (ko gC (hg _ gC _ s7 iV H7 x u (λee H8=>H8=H7/\SR Y.K m' H7 r7 ak ee) Ey rx ⟨r7,fr,hc',_,ak,sM.mono jJ,uU,v7,eb,λs' q=>⟨rfl,q⟩⟩)) λ_ s8 ⟨ee,H8,I8,A9,lV⟩=>?_;subst A9;refine aQ (ko gC (hc _ gC _ s8 ee _ (λb H9=>b=kk/\∃r9,HR Y.K H9 r9 h9/\Fm Y.K r7 r9 _ H9) I8 ⟨r7,ak,hc',kk,h9,lV,uU,e9,λH9 r9 gu f9=>⟨rfl,r9,gu,f9⟩⟩)) λbb s9 ⟨H9,I9,uH,r9,gu,gO⟩=>?_;subst uH;obtain⟨lu,lq⟩:=gO.cC Dh Df;cases bb with
   |false=>
    simp only[Mb,Uh]at e6 ⊢;cases e6;exact vD hlt I9 (back I9) ((lV.mono gO).unbind eb hu) gu ((lU.trans jJ).trans gO) lq lu ((sP.mono jJ).mono gO) (WI O3) e5
   |true=>
    simp only[QO]at e6 ⊢;obtain⟨xd,J0,Ba,e6⟩:=Ev.ah e6;cases e6;refine E9 (aQ (ko gC (he _ gC _ s9 ee H9 (λv mV=>∃kJ,RV Y.K mV kJ xd v/\HR Y.K mV kJ _/\Fm Y.K r9 kJ H9 mV) I9 ⟨r9,ak,h9,xd,_,lV.mono gO,gu,Ba,λv mV kJ v10 pG sQ=>⟨kJ,v10,pG,sQ⟩⟩)) λqt Ez ⟨v10,mV,J1,pD,kJ,pF,pG,ly⟩=>?_) (λ_ _ q=>q) λ_ _ z=>z.elim;obtain⟨zC,zD⟩:=ly.cC lq lu;exact GW hlt hbig gm gC J1 pD back (((lV.mono gO).mono ly).unbind eb hu) pG (((lU.trans jJ).trans gO).trans ly) zD zC (((sP.mono jJ).mono gO).mono ly) pF O3 e5
 .unfold vC at e5;split at e5
  case h_2=>cases e5
  rename_i ak eb;split at e5
  case h_2=>cases e5
  rename_i h9 e9;refine aQ (ko gC (hg _ gC _ s7 iV H7 x u (λee H8=>H8=H7/\SR Y.K m' H7 r7 ak ee) Ey rx ⟨r7,fr,hc',_,ak,sM.mono jJ,uU,v7,eb,λs' q=>⟨rfl,q⟩⟩)) λ_ s8 ⟨ee,H8,I8,A9,lV⟩=>?_;subst A9;refine aQ (ko gC (hc _ gC _ s8 ee _ (λb H9=>b=true/\∃r9,HR Y.K H9 r9 h9/\Fm Y.K r7 r9 _ H9) I8 ⟨r7,ak,hc',true,h9,lV,uU,e9,λH9 r9 gu f9=>⟨rfl,r9,gu,f9⟩⟩)) λbb s9 ⟨H9,I9,uH,r9,gu,gO⟩=>?_;subst uH;simp only[QO];refine E9 (kx _ s9 ee H9 r9 ak h9 c hX I9 (lV.mono gO) gu e5) (λ_ _ z=>z.elim) λe s' q=>De e s' ?_;obtain⟨a,H1,s1,H',σ1,p1,r',q1,q2,q3,q4,q5⟩:=q;exact⟨a,H1,s1,H',σ1,p1,r',q1,q2,q3,q4,((lU.trans jJ).trans gO).trans q5⟩
end
def zN{Ex:XK}(gX:GX G cl bE rz su n sc N df Ex X)(hi:JI G n sc N df m it tg xi)(hg:JG G n (b7 sc scope) N' false m' t tg)(hc:JC G n (b7 sc scope) N' false m' cond ifs)(he:JE G n (b7 sc scope) N' false m' elt xe)
  (kb:EN G cl bE rz su n sc (b7 sc scope) N N' df m' elt xe)
  (hn:namesOk sc N m scope t N' m') (hs:iM sc scope) {cls:List (Str×Addr)} (fE:∀x c,cls.lookup x=some c->X.env.cells.lookup x=some c) (iw:∀x,(x,NameKind.free)∈scope.names->∃c,cls.lookup x=some c)
  {pins:List (Addr×Obj)} {σ:L2.St} {H:Hp} {s:Shared} (I:Inv X pins σ H s) {r:List Addr} {fr:Fr} {h:Hh} {c:Nat} {hX:Hh} {src:Src} {h1:Hh} (sr:SR X.K m H r fr σ) (hr:HR X.K H r h)
  (e1:Ev.bQ (Ev.run G.F G.w n) it fr h=.ok src h1) (hu:Ev.undef t fr=true) (hbig:src.1.length<=Ev.big) (e2:Ev.dm (lg (Ev.run G.F G.w n) elt t cond fr) (vC (Ev.run G.F G.w n) (Ev.bF G.F G.w n) elt t cond fr) src.2 src.1 h1=some (c,hX))
  (q:∀H' r',HR X.K H' r' hX->Fm X.K r r' H H'->Ex (.ref (cl c)) none H') {Qv:Value->Shared->Prop} :
  wpAny (model X.prog X.w) X.A (eval xi X.env) (λx s₁=>wpAny (model X.prog X.w) X.A (pyIter x) (λitv s₂=>wpAny (model X.prog X.w) X.A (newList []) (λacc s₃=>
   wpAny (model X.prog X.w) X.A (newFunctionEnv scope X.env.globals cls [] X.env.qual none .none (some X.env)) (λcenv s₄=>
    codeAny (model X.prog X.w) X.A (.compStart (.ListComp xe [⟨tg,xi,ifs,0⟩] scope pos) 0 itv acc { cenv with scope:=relabel scope X.env }) (compPost (model X.prog X.w) X.A X.xe none Qv acc cenv.locals) s₄) X.xe s₃) X.xe s₂) X.xe s₁) X.xe s:=by
 have g:=gX.g;refine aQ (PI.cT (hi X.cT g) pins s σ H (λJ H2=>∃r2,HR X.K H2 r2 h1/\Fm X.K r r2 H H2/\mS X.K r2 H2 src J) I ⟨r,fr,h,src,h1,sr,hr,e1,λJ H2 r2 hr2 f2 hJ=>⟨r2,hr2,f2,hJ⟩⟩) λv s1 q1=>?_;refine aQ q1 λitv s2 q2=>?_;obtain⟨ita,fp,tn,J,H2,rfl,I2,Tn,st2,f2,r2,hr2,uV,hJ⟩:=q2;refine T8 ?_;generalize qu:s2.heap.objs.size=Dd
 have gm:H2 Dd=none:=by rw[<-qu];exact I2.fresh
 have I3:Inv X pins σ (upd H2 Dd (.lst [])) { s2 with heap:=s2.heap.push { cls:=.type "list",data:=.seq ([]:List Value).toArray }}:=by
  have:=I2.zo (ys:=[]) (its:=[]) (t':=s2.toks) .nil (UE _);rw[qu]at this;exact this
 have uW:∀b∈fp,b<s2.heap.objs.size:=λb hb=>by
  obtain⟨o,e,_⟩:=Tn.obj 0 _ st2 b hb;exact rT e
 generalize uX:({ s2 with heap:=s2.heap.push { cls:=.type "list",data:=.seq ([]:List Value).toArray }}:Shared)=s3 at I3
 have Di:s3.heap.objs.size=s2.heap.objs.size+1:=by rw[<-uX];exact Wa ..
 have k3:∀b o,s2.heap.get? b=some o->s3.heap.get? b=some o:=λb o e=>by rw[<-uX];exact iR _ e
 have uY:∀b∈fp,b<s3.heap.objs.size:=λb hb=>dS (uW b hb) (by rw[Di];exact Nat.le_succ _);have iN:∀b∈fp,eX X pins (upd H2 Dd (.lst [])) b:=λb hb=>⟨by rw[bq (λz=>absurd (uW b hb) (by rw[z,qu];exact Ud _))];exact(f2 b hb).1,(f2 b hb).2⟩
 refine wpAny_newFunctionEnv (hs.uQ) (λy hy=>by simp at hy) (λuZ Dj Dk=>?_) hs.kind;have k4:∀b o,s3.heap.get? b=some o->uZ.get? b=some o:=λb o e=>Dk.extBut b o (QT (rT e)) (iR _ e);have gC:Good G n (b7 sc scope) N' false (jV X.cT N' scope cls s3.heap.objs.size s3 (upd H2 Dd (.lst [])) fp):=g.comp;have I4:Inv (jV X.cT N' scope cls s3.heap.objs.size s3 (upd H2 Dd (.lst [])) fp) [] (sig scope N N' m' X.K (upd H2 Dd (.lst [])) r2 fr σ) (upd H2 Dd (.lst [])) { s3 with heap:=uZ,toks:=s3.toks+0 }:=
  uR g (I3.fM _) hs fE iw iN uY Dj k4
 have xJ:SR X.K m' (upd H2 Dd (.lst [])) r2 fr (sig scope N N' m' X.K (upd H2 Dd (.lst [])) r2 fr σ):=A5 (((sr.mono uV).mono (Fm.tup gm))) hn hu;have jU:HR X.K (upd H2 Dd (.lst [])) r2 h1:=hr2.tup gm;have EA:Dd∉r2:=λhm=>by
  obtain⟨k,hk⟩:=UK hm;have hlt:k<h1.length:=by rw[<-hr2.len];exact(List.getElem?_eq_some_iff.mp hk).1
  obtain⟨a,e3,e4⟩:=hr2.ob k _ (tP hlt);rw[hk]at e3;cases e3;cases eo:h1[k]with
  |lst dd=>rw[eo]at e4;obtain⟨us,e5,_⟩:=e4;rw[gm]at e5;cases e5
  |bB dd=>
   rw[eo]at e4;obtain⟨us,e5,_⟩:=e4;rcases e5 with ⟨ob,e5⟩|⟨ob,_,_,e5,_⟩
   .rw[gm]at e5;cases e5
   .have:=rT (I2.dY _ _ e5);rw[qu]at this;exact absurd this (Ud _)
 have gZ:∀{Hc:Hp},(∀b∈fp,Hc b=none)->∀b∈fp,eX (jV X.cT N' scope cls s3.heap.objs.size s3 (upd H2 Dd (.lst [])) fp) [] Hc b:=λ{Hc} hz b hb=>by
  refine⟨hz b hb,QT (uY b hb),(I4.ok).lZ b hb,.inl hb,λx c e=>((I4.ok).wX b hb).2 x c e,λp hp=>?_⟩;simp[jV]at hp
 have fin:codeAny (model X.prog X.w) X.A (.compLoop (.ListComp xe [⟨tg,xi,ifs,0⟩] scope pos) 0 (.ref ita) (.ref Dd) (compEnvC scope cls s3.heap.objs.size X.env)) (compPost (model X.prog X.w) X.A X.xe none Qv (.ref Dd) s3.heap.objs.size) { s3 with heap:=uZ,toks:=s3.toks+0 }:=by
  refine zM (Y:=jV X.cT N' scope cls s3.heap.objs.size s3 (upd H2 Dd (.lst [])) fp) gC hg hc he (λpins s σ H r fr h c h'=>kb X Ex gX _ gC rfl rfl rfl rfl rfl pins s σ H r fr h c h') Tn gZ hu hJ gm hbig (c:=c) (hX:=hX) (λe s' z=>?_) ⟨0,_,_,r2,h1,[],[],I4,Tn.keep _ _ _ st2 λb hb o eo=>k4 b o (k3 b o eo),λb hb=>(iN b hb).1,rfl,UE _,xJ,jU,Fm.tup gm,cB,EA,.nil,UE _,by rw[U0];exact e2⟩;obtain⟨a,H1,s1,H',σ1,p1,r',rfl,I1,fl,z4,z5⟩:=z;have IX:Inv X pins σ H1 s1:=I3.qc (ch:=fp) (I1.os) I1.base I1.hok I1.bare λb hb=>⟨(iN b hb).2.2.2.1,(iN b hb).2.1,(iN b hb).2.2.2.2.1,(iN b hb).2.2.2.2.2⟩
  obtain⟨J2,Dl,_⟩:=I1.loc;have O4:H1 s3.heap.objs.size=none:=I1.free;have EJ:s3.heap.objs.size∉frs X.stack:=λz=>by
   obtain⟨_,o,eo,_⟩:=I3.stack.mem z;exact absurd (rT eo) (Ud _)
  obtain⟨oK,eK,KA,gK,rK⟩:=Dl;have R1:H' s3.heap.objs.size=none:=fl.un.free _ oK gK O4 (by simp);refine E9 (gX.cm pins σ H1 s1 a (cl c) s3.heap.objs.size H' s' (compEnvC scope cls s3.heap.objs.size X.env) rfl IX fl (q H' r' z4 (uV.trans z5)) (I3.za (qT _) R1) ⟨J2,oK,eK,KA,gK,rK⟩ O4) (λ_ s2 y=>(let ⟨⟨mq,yq⟩,zq⟩:=y;⟨mq,yq,zq⟩:compPost (model X.prog X.w) X.A X.xe none Qv (.ref Dd) s3.heap.objs.size (.error (.ref a)) s2)) λ_ _ y=>y.elim
 subst uX;exact V4 fin (Tn.self _ 0 _ _ _ (Tn.keep _ _ _ st2 λb hb o eo=>k4 b o (k3 b o eo)) fin)
def GY(hi:JI G n sc N df m it tg xi)(ki:EM G cl bE rz su n sc N df m it xi)(hg:JG G n (b7 sc scope) N' false m' t tg)(hc:JC G n (b7 sc scope) N' false m' cond ifs)(he:JE G n (b7 sc scope) N' false m' elt xe)
  (kb:EN G cl bE rz su n sc (b7 sc scope) N N' df m' elt xe) (hn:namesOk sc N m scope t N' m') (hs:iM sc scope) (hf:∀(env:Env) x,foldedSetIterable xi env x=pure x:=by intro _ _;rfl) :
  mY G cl bE rz su n sc N df m (.comp elt t it cond) (.ListComp xe [⟨tg,xi,ifs,0⟩] scope pos):=λX Ex g pins s σ H Q I q=>by
 obtain⟨r,fr,h,c,h',sr,hr,e,q⟩:=q;obtain⟨cls,hcl,fE,iw⟩:=g.g.cells (I.fM _) hs;rw[eval_ListComp];refine UW (use:=none) (Q:=EP X pins σ Q) rfl (hf _) hcl hs.kind hs.loc ?_;rw[GV]at e;split at e
 .rename_i src h1 e1;split at e
  case isFalse=>cases e
  rename_i hu;exact zN g hi hg hc he kb hn hs fE iw I sr hr e1 hu.1 hu.2 e q
 .exact E9 (ki X Ex g pins s σ H I ⟨r,fr,h,c,h',sr,hr,e,q⟩) (λ_ _ z=>z.elim) λ_ _ z=>z
def BJ(hn:mU sc N m scope t (cN N m scope tg) (cM N m scope t)=true)(hs:A4 sc scope=true)(hi:JI G n sc N df m it tg xi)(ki:EM G cl bE rz su n sc N df m it xi)(hg:JG G n (b7 sc scope) (cN N m scope tg) false (cM N m scope t) t tg)(hc:JC G n (b7 sc scope) (cN N m scope tg) false (cM N m scope t) cond ifs)
  (he:JE G n (b7 sc scope) (cN N m scope tg) false (cM N m scope t) elt xe) (kb:EN G cl bE rz su n sc (b7 sc scope) N (cN N m scope tg) df (cM N m scope t) elt xe) (hf:∀(env:Env) x,foldedSetIterable xi env x=pure x:=by intro _ _;rfl):mY G cl bE rz su n sc N df m (.comp elt t it cond) (.ListComp xe [⟨tg,xi,ifs,0⟩] scope pos):=
 GY hi ki hg hc he kb (namesOk.of hn) (iM.of hs) hf
end
end Sm
namespace Pv
open Ev (D bu aV TY BI ME T E Es Eo It S Ss Fn big deep b2i rep bS dH bC aJ cut aM cY slots)
def nd{α:Type _}{a b:α}(h:a=b):a=b:=h
inductive V where
 |aO|bl (b:Bool)|int (i:Int)|str (s:List Nat)|tup (l:List V)|lst (l:List V)|bB (l:List V)
inductive Sl where
 |val (v:V)|own (l:List V)|bor (l:List V)|ro (l:List V)
abbrev Fr:=List (Option Sl)
inductive R(α:Type) where
 |ok (a:α) (fr:Fr)
 |bad
noncomputable def R.bind{α β:Type}(r:R α)(f:α->Fr->R β):R β:=
 match r with
 |.ok a h=>f a h
 |.bad=>.bad
@[simp] theorem aj{α β:Type}(a:α)(h:Fr)(f:α->Fr->R β):(R.ok a h).bind f=f a h:=nd rfl
@[simp] theorem CZ{α β:Type}(f:α->Fr->R β):(R.bad:R α).bind f=.bad:=nd rfl
def ah{α β:Type}{r:R α}{f:α->Fr->R β}{b:β}{h:Fr}(e:r.bind f=.ok b h):∃a h1,r=.ok a h1/\f a h1=.ok b h:=by
 cases r with
 |ok a h1=>exact⟨a,h1,rfl,e⟩
 |bad=>cases e
noncomputable def R.of{α:Type}(o:Option α)(h:Fr):R α:=match o with
 |some a=>.ok a h
 |none=>.bad
@[simp] theorem cg{α:Type}(a:α)(h:Fr):R.of (some a) h=.ok a h:=nd rfl
@[simp] theorem of_none{α:Type}(h:Fr):R.of (none:Option α) h=.bad:=nd rfl
def aD{α:Type}{o:Option α}{h h':Fr}{a:α}(e:R.of o h=.ok a h'):o=some a/\h'=h:=by
 cases o with
 |none=>cases e
 |some b=>cases e;exact⟨rfl,rfl⟩
inductive Fl where
 |nx|bk|ct|ret (v:V)
mutual
def ofD:D->Option V
 |.aO=>some .aO
 |.bl b=>some (.bl b)
 |.int i=>some (.int i)
 |.str s=>some (.str s)
 |.tup ds=>(vE ds).map .tup
 |.ref _=>none
def vE:List D->Option (List V)
 |[]=>some []
 |d :: ds=>(ofD d).bind λv=>(vE ds).map λvs=>v :: vs
end
def bZ(f:V->V->Option Bool):List V->List V->Option Bool
 |[],[]=>some true
 |x :: xs,y :: ys=>(f x y).bind λb=>(bZ f xs ys).bind λc=>some (b&&c)
 |_,_=>some false
def dD:Nat->V->V->Option Bool
 |0,_,_=>none
 |_+1,.aO,.aO=>some true
 |_+1,.bl a,.bl b=>some (a==b)
 |_+1,.int a,.int b=>some (a==b)
 |_+1,.bl a,.int b=>some (b2i a==b)
 |_+1,.int a,.bl b=>some (a==b2i b)
 |_+1,.str a,.str b=>some (a==b)
 |n+1,.tup a,.tup b=>bZ (dD n) a b
 |n+1,.lst a,.lst b=>bZ (dD n) a b
 |n+1,.bB a,.lst b=>bZ (dD n) a b
 |n+1,.lst a,.bB b=>bZ (dD n) a b
 |_+1,.bB _,.bB _=>none
 |_+1,_,_=>some false
noncomputable def truthy:V->Bool
 |.aO=>false
 |.bl b=>b
 |.int i=>i != 0
 |.str s=>!s.isEmpty
 |.tup ds=>!ds.isEmpty
 |.lst ds=>!ds.isEmpty
 |.bB ds=>!ds.isEmpty
def cV(l:List V):Option V:=if l.length<=big then some (.lst l)else none
def iK(l:List V):Option V:=if l.length<=big then some (.tup l)else none
def bG:bu->V->V->Option V
 |.add,.int i,.int j=>some (.int (i+j))
 |.add,.str a,.str b=>if a.length+b.length<=big then some (.str (a++b))else none
 |.add,.tup a,.tup b=>if a.length+b.length<=big then some (.tup (a++b))else none
 |.add,.lst a,.lst b=>cV (a++b)
 |.sub,.int i,.int j=>some (.int (i - j))
 |.mul,.int i,.int j=>if bS i j then some (.int (i*j))else none
 |.mul,.str a,.int k=>if 0<=k/\k<=1000/\a.length<=1000 then some (.str (rep k.toNat a))else none
 |.mul,.tup a,.int k=>if 0<=k/\k<=1000/\a.length<=1000 then some (.tup (rep k.toNat a))else none
 |.mul,.lst a,.int k=>if 0<=k/\k<=1000/\a.length<=1000 then cV (rep k.toNat a)else none
 |.fdiv,.int i,.int j=>if 0<j/\j<1073741824 then some (.int (i / j))else none
 |.mod,.int i,.int j=>if 0<j then some (.int (i % j))else none
 |_,_,_=>none
def mem(x:V):List V->Option Bool
 |[]=>some false
 |y :: ys=>(dD deep y x).bind λb=>(mem x ys).bind λc=>some (b ||c)
def isin(x y:V):Option Bool:=match y with
 |.str s=>match x with
  |.str [c]=>some (s.contains c)
  |_=>none
 |.tup ds=>mem x ds
 |.lst ds=>mem x ds
 |.bB ds=>mem x ds
 |_=>none
def cop(o:aV)(x y:V):Option Bool:=match o,x,y with
 |.eq,x,y=>dD deep x y
 |.ne,x,y=>(dD deep x y).map (!·)
 |.lt,.int i,.int j=>some (decide (i<j))
 |.le,.int i,.int j=>some (decide (i<=j))
 |.le,.str a,.str b=>some (Ev.lexLe a b)
 |.gt,.int i,.int j=>some (decide (j<i))
 |.ge,.int i,.int j=>some (decide (j<=i))
 |.isin,x,y=>isin x y
 |.cC,x,y=>(isin x y).map (!·)
 |_,_,_=>none
def fB(x y:V):Option V:=match x,y with
 |.tup ds,.int i=>bC ds i
 |.str s,.int i=>(bC s i).map λc=>.str [c]
 |.lst ds,.int i=>bC ds i
 |.bB ds,.int i=>bC ds i
 |_,_=>none
def eH(x:V)(lo hi:Option Int):Option V:=match x with
 |.tup ds=>some (.tup (cut ds lo hi))
 |.str s=>some (.str (cut s lo hi))
 |.lst ds=>cV (cut ds lo hi)
 |.bB ds=>cV (cut ds lo hi)
 |_=>none
def toT:V->Option V
 |.tup l=>some (.tup l)
 |.lst l=>iK l
 |.bB l=>iK l
 |_=>none
def lQ:V->Option V
 |.tup ds=>some (.tup ds.reverse)
 |.lst ds=>cV ds.reverse
 |.bB ds=>cV ds.reverse
 |_=>none
noncomputable def cL:V->TY->Bool
 |.bl _,.bool=>true
 |.bl _,.int=>true
 |.int _,.int=>true
 |.str _,.str=>true
 |.tup _,.tuple=>true
 |.lst _,.list=>true
 |.bB _,.list=>true
 |_,_=>false
noncomputable def boolsOf:List V->Option (List Bool)
 |[]=>some []
 |.bl b :: ds=>(boolsOf ds).map λr=>b :: r
 |_=>none
noncomputable def intsOf:List V->Option (List Int)
 |[]=>some []
 |.int i :: ds=>(intsOf ds).map λr=>i :: r
 |_=>none
noncomputable def strsOf:List V->Option (List (List Nat))
 |[]=>some []
 |.str s :: ds=>(strsOf ds).map λr=>s :: r
 |_=>none
noncomputable def oU:V->Option (List V)
 |.lst l=>some l
 |.bB l=>some l
 |_=>none
def cU(b:BI)(xs:List V):Option V:=match b,xs with
 |.len,[.str s]=>if s.length<=big then some (.int s.length)else none
 |.len,[.tup ds]=>some (.int ds.length)
 |.len,[x]=>(oU x).map λds=>.int ds.length
 |.all,[x]=>((oU x).bind boolsOf).map λbs=>.bl (bs.all id)
 |.sum,[x]=>((oU x).bind intsOf).map λis=>.int is.sum
 |.min,[.int i,.int j]=>some (.int (if j<i then j else i))
 |.kY,[.bl b]=>some (.int (if b then 1 else 0))
 |.gn,[.int i]=>if -1000000<i/\i<1000000 then some (.str (Ev.cO i))else none
 |.gn,[.str s]=>some (.str s)
 |.jE,[.str s]=>(Ev.mL s).map .int
 |_,_=>none
def dZ(m:ME)(o:V)(xs:List V):Option V:=match m,o,xs with
 |.join,.str sep,[x]=>((oU x).bind strsOf).bind λss=>if (ss.map (·.length)).sum+ss.length*sep.length<=big then some (.str (aM sep ss))else none
 |_,_,_=>none
def m5(m:ME)(l:List V)(xs:List V):Option (V×List V):=match m,xs with
 |.append,[x]=>if l.length<big then some (.aO,l++[x])else none
 |.extend,[.lst es]=>if l.length+es.length<=big then some (.aO,l++es)else none
 |.pop,[]=>match l[l.length - 1]? with
  |some x=>some (x,l.dropLast)
  |none=>none
 |_,_=>none
noncomputable def yg:ME->Bool
 |.extend=>true
 |_=>false
noncomputable def iy:ME->Bool
 |.append=>true
 |.extend=>true
 |.pop=>true
 |_=>false
noncomputable def t8:V->Bool
 |.aO=>true
 |.bl _=>true
 |.int _=>true
 |.str _=>true
 |_=>false
def zO(x:V):List (D×D)->Option V
 |[]=>none
 | (k,v) :: r=>match (ofD k).bind λk'=>dD 1 k' x with
  |some true=>ofD v
  |some false=>zO x r
  |none=>none
def dB(x:V)(kvs:List (D×D)):Option V:=if t8 x then zO x kvs else none
noncomputable def gb:V->Option (List V)
 |.tup ds=>some ds
 |.str s=>some (s.map λc=>.str [c])
 |.lst ds=>some ds
 |.bB ds=>some ds
 |_=>none
noncomputable def KR:V->Option (List V)
 |.tup ds=>some ds
 |_=>none
noncomputable def range(lo:Int)(n:Nat):List V:=(List.range n).map λ(i:Nat)=>.int (lo+i)
def dX:List V->Option (List V)
 |[.int j]=>if -(2 ^ 62)<=j/\j<2 ^ 62 then some (range 0 j.toNat)else none
 |[.int i,.int j]=>if -(2 ^ 62)<=i/\i<2 ^ 62/\-(2 ^ 62)<=j/\j<2 ^ 62 then some (range i (j - i).toNat)else none
 |_=>none
def pQ(x y:V):Option (List V):=match x,y with
 |.str a,.str [c]=>if c<128 then some ((Ev.ay c a).map .str)else none
 |_,_=>none
def jh:Int->List V->List V
 |_,[]=>[]
 |k,x :: xs=>.tup [.int k,x] :: jh (k+1) xs
noncomputable def put(fr:Fr)(i:Nat)(s:Sl):Option Fr:=match fr[i]? with
 |some (some (.bor _))=>none
 |some (some (.ro _))=>none
 |_=>some (fr.set i (some s))
def dj:List Nat->List V->Fr->Option Fr
 |[],[],fr=>some fr
 |i :: is,d :: ds,fr=>(put fr i (.val d)).bind (dj is ds)
 |_,_,_=>none
def aY:T->V->Fr->Option Fr
 |.one i,d,fr=>put fr i (.val d)
 |.many l,.tup ds,fr=>dj l ds fr
 |_,_,_=>none
def undef(t:T)(fr:Fr):Bool:=(slots t).all λi=>(fr[i]?.join).isNone
noncomputable def Sl.read:Sl->Sl
 |.own l=>.ro l
 |.bor l=>.ro l
 |s=>s
def jX(fr:Fr):Fr:=fr.map (Option.map Sl.read)
noncomputable def Sl.gp:Sl->Sl
 |.own l=>.val (.lst l)
 |s=>s
def iT(fr:Fr):Fr:=fr.map (Option.map Sl.gp)
def m6(e:E)(fr:Fr):Fr:=match e with
 |.v j=>fr.modify j (Option.map Sl.gp)
 |_=>fr
noncomputable def Sl.walk:Sl->Sl
 |.own l=>.val (.lst l)
 |.bor l=>.ro l
 |s=>s
def qA(is:List Nat)(fr:Fr):Fr:=is.foldl (λfr i=>match fr[i]? with
 |some (some s)=>fr.set i (some s.walk)
 |_=>fr) fr
noncomputable def Sl.out:Sl->Option (List V)
 |.bor l=>some l
 |.ro l=>some l
 |_=>none
noncomputable def Sl.lend:Sl->Option Sl
 |.own l=>some (.bor l)
 |.bor l=>some (.bor l)
 |.ro l=>some (.ro l)
 |.val _=>none
def lent(fr:Fr)(i:Nat):Option Sl:=match fr[i]? with
 |some (some s)=>s.lend
 |_=>none
noncomputable def Sl.with:Sl->List V->Sl
 |.own _,l=>.own l
 |.bor _,l=>.bor l
 |s,_=>s
def back:List Nat->List (List V)->Fr->Option Fr
 |[],[],fr=>some fr
 |i :: is,l :: ls,fr=>match fr[i]? with
  |some (some s)=>back is ls (fr.set i (some (s.with l)))
  |_=>none
 |_,_,_=>none
def bw(f:V->Option (Option V)):List V->Option (List V)
 |[]=>some []
 |d :: ds=>(f d).bind λo=>(bw f ds).bind λr=>some (o.toList++r)
def forL(f:V->Fr->R Fl):List V->Fr->R Fl
 |[],fr=>.ok .nx fr
 |d :: ds,fr=>(f d fr).bind λp af=>match p with
   |.nx=>forL f ds af
   |.ct=>forL f ds af
   |.bk=>.ok .nx af
   |.ret x=>.ok (.ret x) af
def eL(t:Fr->R Bool)(f:Fr->R Fl):Nat->Fr->R Fl
 |0,_=>.bad
 |n+1,fr=>(t fr).bind λb af=>if b then (f af).bind λp ak=>match p with
   |.nx=>eL t f n ak
   |.ct=>eL t f n ak
   |.bk=>.ok .nx ak
   |.ret x=>.ok (.ret x) ak
  else .ok .nx af
noncomputable def jB:Es->List Nat
 |.nil=>[]
 |.cons (.v i) es=>i :: jB es
 |.cons _ es=>jB es
def O5(m:ME):E->List Nat
 |.v i=>if iy m then [i]else []
 |_=>[]
mutual
def bf:E->List Nat
 |.c _=>[]|.v _=>[]|.tup es=>eF es|.lst es=>eF es
 |.bin _ a b=>bf a++bf b|.cmp _ a b=>bf a++bf b
 |.ch _ _ a b c=>bf a++(bf b++bf c)
 |.nt a=>bf a|.neg a=>bf a|.an a b=>bf a++bf b|.orr a b=>bf a++bf b|.iH t a b=>bf t++(bf a++bf b)
 |.ix a b=>bf a++bf b|.sl a lo hi=>bf a++(kq lo++kq hi)
 |.rv a=>bf a
 |.fh a b=>bf a++bf b
 |.cl _ es=>eF es++jB es|.bi _ es=>eF es|.me m o es=>bf o++(eF es++O5 m o)
 |.dM a _=>bf a
 |.comp _ _ it _=>DE it
 |.fN it=>DE it
 |.dJ _ a=>bf a
 |.fO a=>bf a
def eF:Es->List Nat
 |.nil=>[]
 |.cons e es=>bf e++eF es
def kq:Eo->List Nat
 |.no=>[]
 |.yes e=>bf e
def DE:It->List Nat
 |.seq e=>bf e|.fz es=>eF es
 |.ir a b=>bf a++bf b
 |.rev a=>bf a
end
def kf(a:E)(l:List Nat):Bool:=match a with
 |.v i=>!l.contains i
 |_=>l.isEmpty
noncomputable def itv:It->List Nat
 |.seq (.v i)=>[i]
 |.rev (.v i)=>[i]
 |_=>[]
abbrev aB:=Nat->List Sl->Option (V×List (List V))
noncomputable def intOf:V->Option Int
 |.int i=>some i
 |_=>none
def lC(k:Bool)(fr:Fr)(i:Nat):Option V:=match fr[i]? with
 |some (some (.val v))=>some v
 |some (some (.own l))=>if k then some (.lst l)else none
 |some (some (.bor l))=>if k then some (.lst l)else none
 |some (some (.ro l))=>if k then some (.lst l)else none
 |_=>none
def zP(k:Bool)(fr:Fr)(i:Nat):Option V:=match fr[i]? with
 |some (some (.ro l))=>some (.lst l)
 |_=>lC k fr i
def src(k:Bool)(fr:Fr)(e:E)(r:R V):R V:=match e with
 |.v i=>R.of (zP k fr i) fr
 |_=>r
def fS(fr:Fr):E->Option Nat
 |.v i=>if (lent fr i).isSome then some i else none
 |_=>none
def args(fr:Fr):List (Nat ⊕ V)->Option (List Sl)
 |[]=>some []
 |.inl i :: r=>(lent fr i).bind λs=>(args fr r).map λl=>s :: l
 |.inr v :: r=>(args fr r).map λl=>.val v :: l
noncomputable def bD:List (Nat ⊕ V)->List Nat
 |[]=>[]
 |.inl i :: r=>i :: bD r
 |.inr _ :: r=>bD r
def eg(P:aB)(f:Nat)(as:List (Nat ⊕ V))(fr:Fr):R V:=
 if (bD as).Nodup then match args fr as with
  |some sl=>match P f sl with
   |some (v,outs)=>R.of ((back (bD as) outs fr).map λaf=>(v,af)) fr |>.bind λp _=>.ok p.1 p.2
   |none=>.bad
  |none=>.bad
 else .bad
def zQ(x y:V):Option V:=match x,y with
 |.lst a,.lst b=>cV (a++b)
 |_,_=>none
mutual
def ev(P:aB):Bool->E->Fr->R V
 |_,.c d,fr=>R.of (ofD d) fr
 |k,.v i,fr=>R.of (lC k fr i) fr
 |_,.tup es,fr=>(bH P false es fr).bind λds af=>R.of (iK ds) af
 |_,.lst es,fr=>(bH P false es fr).bind λds af=>R.of (cV ds) af
 |_,.bin o a b,fr=>(ev P (kf a (bf b)) a fr).bind λx af=>(ev P true b af).bind λy ak=>R.of (bG o x y) ak
 |_,.cmp o a b,fr=>(ev P (kf a (bf b)) a fr).bind λx af=>(ev P true b af).bind λy ak=>R.of ((cop o x y).map .bl) ak
 |_,.ch o p a b c,fr=>(ev P (kf a (bf b)) a fr).bind λx af=>(ev P (kf b (bf c)) b af).bind λy ak=>(R.of (cop o x y) ak).bind λk bz=>
   if k then (ev P true c bz).bind λz gk=>R.of ((cop p y z).map .bl) gk else .ok (.bl false) bz
 |_,.nt a,fr=>(ev P true a fr).bind λx af=>match x with
   |.bl b=>.ok (.bl (!b)) af
   |_=>.bad
 |_,.neg a,fr=>(ev P true a fr).bind λx af=>match x with
   |.int i=>.ok (.int (-i)) af
   |_=>.bad
 |k,.an a b,fr=>(ev P true a fr).bind λx af=>match x with
   |.bl true=>ev P k b af
   |.bl false=>.ok (.bl false) af
   |_=>.bad
 |k,.orr a b,fr=>(ev P true a fr).bind λx af=>match x with
   |.bl true=>.ok (.bl true) af
   |.bl false=>ev P k b af
   |_=>.bad
 |k,.iH t a b,fr=>(aC P t fr).bind λc af=>if c then ev P k a af else ev P k b af
 |_,.ix a b,fr=>(ev P (kf a (bf b)) a fr).bind λx af=>(ev P true b af).bind λy ak=>R.of (fB x y) ak
 |_,.sl a lo hi,fr=>(ev P (kf a (kq lo++kq hi)) a fr).bind λx af=>(fF P lo af).bind λl ak=>(fF P hi ak).bind λu bz=>R.of (eH x l u) bz
 |_,.rv a,fr=>(ev P true a fr).bind λx af=>R.of (lQ x) af
 |_,.fh a b,fr=>(ev P (kf a (bf b)) a fr).bind λx af=>(ev P true b af).bind λy ak=>R.of (zQ x y) ak
 |_,.cl f es,fr=>(dN P es fr).bind λas af=>eg P f as af
 |_,.bi b es,fr=>(bH P true es fr).bind λds af=>R.of (cU b ds) af
 |_,.me m o es,fr=>if iy m then match fS fr o with
   |some i=>(bH P (yg m) es fr).bind λds af=>match af[i]? with
    |some (some (.own l))=>match m5 m l ds with
     |some (v,l')=>.ok v (af.set i (some (.own l')))
     |none=>.bad
    |some (some (.bor l))=>match m5 m l ds with
     |some (v,l')=>.ok v (af.set i (some (.bor l')))
     |none=>.bad
    |_=>.bad
   |none=>.bad
  else (ev P (kf o (eF es)) o fr).bind λx af=>(bH P true es af).bind λds ak=>R.of (dZ m x ds) ak
 |_,.dM a ts,fr=>(ev P true a fr).bind λx af=>.ok (.bl (ts.any (cL x))) af
 |_,.comp elt t it cond,fr=>(bQ P true it fr).bind λs af=>if undef t af then
   R.of ((bw (λd=>match aY t d (jX af)with
    |none=>none
    |some ak=>match eN P cond ak with
     |.ok c _=>if c then (match ev P false elt ak with|.ok x _=>some (some x)|.bad=>none)else some none
     |.bad=>none) s).bind cV) af else .bad
 |_,.fN it,fr=>(bQ P true it fr).bind λs af=>R.of (cV s) af
 |_,.dJ kvs a,fr=>(ev P true a fr).bind λx af=>R.of (dB x kvs) af
 |_,.fO a,fr=>(ev P true a fr).bind λx af=>R.of (toT x) af
termination_by _ e=>(sizeOf e,0)
def bH(P:aB):Bool->Es->Fr->R (List V)
 |_,.nil,fr=>.ok [] fr
 |k,.cons e es,fr=>(ev P (k&&kf e (eF es)) e fr).bind λd af=>(bH P k es af).bind λds ak=>.ok (d :: ds) ak
termination_by _ e=>(sizeOf e,0)
def dN(P:aB):Es->Fr->R (List (Nat ⊕ V))
 |.nil,fr=>.ok [] fr
 |.cons e es,fr=>match fS fr e with
   |some i=>(dN P es fr).bind λr af=>.ok (.inl i :: r) af
   |none=>(ev P false e fr).bind λd af=>(dN P es af).bind λr ak=>.ok (.inr d :: r) ak
termination_by e=>(sizeOf e,0)
def fF(P:aB):Eo->Fr->R (Option Int)
 |.no,fr=>.ok none fr
 |.yes e,fr=>(ev P true e fr).bind λd af=>R.of ((intOf d).map some) af
termination_by e=>(sizeOf e,0)
def eN(P:aB):Eo->Fr->R Bool
 |.no,fr=>.ok true fr
 |.yes e,fr=>aC P e fr
termination_by e=>(sizeOf e,0)
def aC(P:aB):E->Fr->R Bool
 |.an a b,fr=>(aC P a fr).bind λk af=>if k then aC P b af else .ok false af
 |.orr a b,fr=>(aC P a fr).bind λk af=>if k then .ok true af else aC P b af
 |.nt a,fr=>(aC P a fr).bind λk af=>.ok (!k) af
 |e,fr=>(ev P true e fr).bind λx af=>.ok (truthy x) af
termination_by e=>(sizeOf e,1)
def bQ(P:aB):Bool->It->Fr->R (List V)
 |k,.seq e,fr=>(src k fr e (ev P k e fr)).bind λx af=>R.of (gb x) af
 |_,.fz es,fr=>(bH P true es fr).bind λds af=>R.of (dX ds) af
 |_,.ir a b,fr=>(ev P (kf a (bf b)) a fr).bind λx af=>(ev P true b af).bind λy ak=>R.of (pQ x y) ak
 |_,.rev a,fr=>(ev P true a fr).bind λx af=>R.of ((KR x).map λs=>s.reverse) af
termination_by _ e=>(sizeOf e,0)
end
noncomputable def isNew:E->Bool
 |.lst _=>true
 |.fN _=>true
 |.fh _ _=>true
 |_=>false
noncomputable def zR(k:Nat):V->Option V
 |.int c=>if k=1001 then (if c=0 then some .aO else none)else if 0<=c/\c<k then some (.tup [.str [114,101,102,117,115,101,100],.int c])else none
 |_=>none
mutual
def ex(P:aB)(w:Nat):S->Fr->R Fl
 |.set i e,fr=>(ev P false e (m6 e fr)).bind λx af=>if isNew e then (match x with
   |.lst l=>(R.of (put af i (.own l)) af).bind λak _=>.ok .nx ak
   |_=>.bad)
  else (R.of (put af i (.val x)) af).bind λak _=>.ok .nx ak
 |.exp e,fr=>(ev P true e fr).bind λ_ af=>.ok .nx af
 |.ret e,fr=>(ev P false e (iT fr)).bind λx af=>.ok (.ret x) af
 |.iff t a b,fr=>(aC P t fr).bind λk af=>if k then exs P w a af else exs P w b af
 |.for t it b,fr=>(bQ P false it (qA (itv it) fr)).bind λs af=>forL (λd ak=>match aY t d ak with
   |some bz=>exs P w b bz
   |none=>.bad) s af
 |.oE t b,fr=>eL (λak=>aC P t ak) (λak=>exs P w b ak) w fr
 |.cA _,_=>.bad
 |.tr f k es,fr=>(dN P es fr).bind λas af=>if (bD as).isEmpty then (match eg P f as af with
   |.ok v ak=>.ok (.ret v) ak
   |.bad=>(eg P (f+Ev.xo) as af).bind λc ak=>R.of ((zR k c).map .ret) ak)
  else .bad
def exs(P:aB)(w:Nat):Ss->Fr->R Fl
 |.nil,fr=>.ok .nx fr
 |.cons s ss,fr=>(ex P w s fr).bind λp af=>match p with
   |.nx=>exs P w ss af
   |p=>.ok p af
end
noncomputable def cI(fn:Fn)(ds:List Sl):Fr:=ds.map some++List.replicate (fn.ns - fn.np) none
def outs(np:Nat)(fr:Fr):List (List V):=(fr.take np).filterMap λo=>o.bind Sl.out
noncomputable def BK(_:Fn)(_:List Sl):Option (V×List (List V)):=none
abbrev bR:=Nat->List Sl->Option Nat
def dm(f:V->Option (Option V))(g:V->Option Nat):List V->Option Nat
 |[]=>none
 |d :: ds=>match f d with
  |some _=>dm f g ds
  |none=>g d
def lD(P:aB)(elt:E)(t:T)(cond:Eo)(af:Fr):V->Option (Option V):=λd=>match aY t d (jX af)with
 |none=>none
 |some ak=>match eN P cond ak with
  |.ok c _=>if c then (match ev P false elt ak with|.ok x _=>some (some x)|.bad=>none)else some none
  |.bad=>none
def nU(X:bR)(f:Nat)(as:List (Nat ⊕ V))(fr:Fr):Option Nat:=if (bD as).Nodup then (args fr as).bind (X f)else none
mutual
def xe(P:aB)(X:bR):E->Fr->Option Nat
 |.cl f es,fr=>match dN P es fr with
  |.ok as af=>nU X f as af
  |.bad=>vF P X es fr
 |.ix a _,fr=>xe P X a fr
 |.me m o es,fr=>if iy m then match fS fr o with
   |some _=>kL P X (yg m) es fr
   |none=>none
  else none
 |.tup es,fr=>kL P X false es fr
 |.fO a,fr=>xe P X a fr
 |.comp elt t it cond,fr=>match bQ P true it fr with
  |.ok s af=>if undef t af=true/\s.length<=big then dm (lD P elt t cond af) (λd=>match aY t d (jX af)with
   |some ak=>(match eN P cond ak with
    |.ok true _=>xe P X elt ak
    |_=>none)
   |none=>none) s else none
  |.bad=>xi P X it fr
 |_,_=>none
def xi(P:aB)(X:bR):It->Fr->Option Nat
 |.seq e,fr=>xe P X e fr
 |_,_=>none
def vF(P:aB)(X:bR):Es->Fr->Option Nat
 |.nil,_=>none
 |.cons e es,fr=>match fS fr e with
  |some _=>vF P X es fr
  |none=>match ev P false e fr with
   |.ok _ af=>vF P X es af
   |.bad=>xe P X e fr
def kL(P:aB)(X:bR)(k:Bool):Es->Fr->Option Nat
 |.nil,_=>none
 |.cons e es,fr=>match ev P (k&&kf e (eF es)) e fr with
  |.ok _ af=>kL P X k es af
  |.bad=>xe P X e fr
end
def fj(f:V->Fr->R Fl)(g:V->Fr->Option Nat):List V->Fr->Option Nat
 |[],_=>none
 |d :: ds,fr=>match f d fr with
   |.ok .nx af=>fj f g ds af
   |.ok .ct af=>fj f g ds af
   |.ok _ _=>none
   |.bad=>g d fr
def fQ(t:Fr->R Bool)(f:Fr->R Fl)(g:Fr->Option Nat):Nat->Fr->Option Nat
 |0,_=>none
 |n+1,fr=>match t fr with
  |.ok true af=>match f af with
   |.ok .nx ak=>fQ t f g n ak
   |.ok .ct ak=>fQ t f g n ak
   |.ok _ _=>none
   |.bad=>g af
  |_=>none
mutual
def xs(P:aB)(X:bR)(w:Nat):S->Fr->Option Nat
 |.cA c,_=>some c
 |.set _ e,fr=>xe P X e fr
 |.exp e,fr=>xe P X e fr
 |.ret e,fr=>xe P X e (iT fr)
 |.iff t a b,fr=>match aC P t fr with
  |.ok k af=>if k then xss P X w a af else xss P X w b af
  |.bad=>xe P X t fr
 |.for t it b,fr=>match bQ P false it (qA (itv it) fr)with
  |.ok s af=>fj (λd ak=>match aY t d ak with|some bz=>exs P w b bz|none=>.bad) (λd ak=>match aY t d ak with|some bz=>xss P X w b bz|none=>none) s af
  |.bad=>none
 |.oE t b,fr=>fQ (λak=>aC P t ak) (λak=>exs P w b ak) (λak=>xss P X w b ak) w fr
 |_,_=>none
def xss(P:aB)(X:bR)(w:Nat):Ss->Fr->Option Nat
 |.nil,_=>none
 |.cons s ss,fr=>match ex P w s fr with
  |.ok .nx af=>xss P X w ss af
  |.ok _ _=>none
  |.bad=>xs P X w s fr
end
noncomputable def Sl.fS:Sl->Bool
 |.val _=>true
 |_=>false
def lR(X:bR)(f:Nat)(ds:List Sl):Option (V×List (List V)):=if Ev.xo<=f/\ds.all Sl.fS=true then (X (f - Ev.xo) ds).map λ(c:Nat)=>((.int (c:Int),[]):V×List (List V))else none
def runs(F:List Fn)(w:Nat):Nat->aB×bR
 |0=>(λ_ _=>none,λ_ _=>none)
 |n+1=>
  let X:bR:=λf ds=>match F[f]? with
   |some fn=>if ds.length=fn.np then xss (runs F w n).1 (runs F w n).2 w fn.body (cI fn ds)else none
   |none=>none
  (λf ds=>match F[f]? with
   |some fn=>if ds.length=fn.np then match exs ((runs F w n).1) w fn.body (cI fn ds)with
     |.ok (.ret v) fr=>some (v,outs fn.np fr)
     |.ok .nx fr=>some (.aO,outs fn.np fr)
     |_=>BK fn ds
    else none
   |none=>lR X f ds,X)
def run(F:List Fn)(w n:Nat):aB:=(runs F w n).1
def bF(F:List Fn)(w n:Nat):bR:=(runs F w n).2
def fG(F:List Fn)(w n f:Nat)(ds:List Sl):run F w (n+1) f ds=match F[f]? with
   |some fn=>if ds.length=fn.np then match exs (run F w n) w fn.body (cI fn ds)with
     |.ok (.ret v) fr=>some (v,outs fn.np fr)
     |.ok .nx fr=>some (.aO,outs fn.np fr)
     |_=>BK fn ds
    else none
   |none=>lR (bF F w (n+1)) f ds:=nd rfl
def iu(F:List Fn)(w n f:Nat)(ds:List Sl):bF F w (n+1) f ds=match F[f]? with
   |some fn=>if ds.length=fn.np then xss (run F w n) (bF F w n) w fn.body (cI fn ds)else none
   |none=>none:=nd rfl
end Pv
namespace Pv
open Ev (D O Hh bu aV TY BI ME T E Es Eo It S Ss Fn big deep b2i rep bS dH bC aJ cut aM cY slots aP)
section
variable(h:Hh)(S:Nat->Prop)
mutual
def Rep:V->D->Prop
 |.aO,d=>d=.aO
 |.bl b,d=>d=.bl b
 |.int i,d=>d=.int i
 |.str s,d=>d=.str s
 |.tup l,d=>∃ds,d=.tup ds/\ao l ds
 |.lst l,d=>∃n ds,d=.ref n/\S n/\h[n]?=some (.lst ds)/\ao l ds
 |.bB l,d=>∃n ds,d=.ref n/\S n/\h[n]?=some (.bB ds)/\ao l ds
def ao:List V->List D->Prop
 |[],ds=>ds=[]
 |v :: vs,ds=>∃d es,ds=d :: es/\Rep v d/\ao vs es
end
def aR:V->D->Prop
 |.lst l,d=>∃n ds,d=.ref n/\h[n]?=some (.lst ds)/\ao h S l ds
 |v,d=>Rep h S v d
def fK:List V->List D->Prop
 |[],ds=>ds=[]
 |v :: vs,ds=>∃d es,ds=d :: es/\aR h S v d/\fK vs es
end
abbrev U:Nat->Prop:=λ_=>True
section
variable{h h':Hh}{S S':Nat->Prop}
mutual
theorem Rep.mono(f:∀m,S m->h'[m]?=h[m]?)(g:∀m,S m->S' m):∀{v:V}{d:D},Rep h S v d->Rep h' S' v d
 |.aO,_,q=>q
 |.bl _,_,q=>q
 |.int _,_,q=>q
 |.str _,_,q=>q
 |.tup l,_,⟨ds,a,b⟩=>⟨ds,a,ao.mono f g b⟩
 |.lst l,_,⟨n,ds,a,b,c,e⟩=>⟨n,ds,a,g n b,by rw[f n b];exact c,ao.mono f g e⟩
 |.bB l,_,⟨n,ds,a,b,c,e⟩=>⟨n,ds,a,g n b,by rw[f n b];exact c,ao.mono f g e⟩
theorem ao.mono(f:∀m,S m->h'[m]?=h[m]?)(g:∀m,S m->S' m):∀{v:List V}{d:List D},ao h S v d->ao h' S' v d
 |[],_,q=>q
 |_ :: _,_,⟨d,es,a,b,c⟩=>⟨d,es,a,Rep.mono f g b,ao.mono f g c⟩
end
def ao.nil:ao h S [] []:=by simp[ao]
def ao.cons{v:V}{d:D}{vs:List V}{ds:List D}(a:Rep h S v d)(b:ao h S vs ds):ao h S (v :: vs) (d :: ds):=by simp only[ao];exact⟨d,ds,rfl,a,b⟩
def Rep.top{v:V}{d:D}(q:Rep h S v d):aR h S v d:=by
 cases v<;>first|exact q | (obtain⟨n,ds,a,b,c,e⟩:=q;exact⟨n,ds,a,c,e⟩)
def aR.u{v:V}{d:D}(q:aR h S v d):Rep h U v d:=by
 cases v with
 |lst l=>obtain⟨n,ds,a,b,c⟩:=q;exact⟨n,ds,a,trivial,b,c.mono (λ_ _=>rfl) λ_ _=>trivial⟩
 |_=>exact Rep.mono (S:=S) (λ_ _=>rfl) (λ_ _=>trivial) q
def ao.u{v:List V}{d:List D}(q:ao h S v d):ao h U v d:=q.mono (λ_ _=>rfl) λ_ _=>trivial
theorem aR.mono{v:V}{d:D}(f:∀m,m<h.length->h'[m]?=h[m]?)(k:∀m,S m->m<h.length)(g:∀m,S m->S' m)(q:aR h S v d):aR h' S' v d:=by
 cases v with
 |lst l=>
  obtain⟨n,ds,a,b,c⟩:=q;exact⟨n,ds,a,by rw[f n (List.getElem?_eq_some_iff.mp b).1];exact b,c.mono (λm z=>f m (k m z)) g⟩
 |_=>exact Rep.mono (λm z=>f m (k m z)) g q
theorem ao.length:∀{v:List V}{d:List D},ao h S v d->v.length=d.length
 |[],_,q=>by simp only[ao]at q;subst q;rfl
 |_ :: _,_,q=>by simp only[ao]at q;obtain⟨d,es,rfl,_,c⟩:=q;simp[c.length]
theorem ao.get:∀{v:List V}{d:List D}{i:Nat}{x:V},ao h S v d->v[i]?=some x->∃y,d[i]?=some y/\Rep h S x y
 |[],_,_,_,_,e=>by simp at e
 |_ :: _,_,0,_,q,e=>by
  simp only[ao]at q;obtain⟨d,es,rfl,b,_⟩:=q;simp at e;subst e;exact⟨d,by simp,b⟩
 |_ :: _,_,i+1,_,q,e=>by
  simp only[ao]at q;obtain⟨d,es,rfl,_,c⟩:=q;obtain⟨y,a,b⟩:=c.get (i:=i) (by simpa using e);exact⟨y,by simpa using a,b⟩
theorem ao.append:∀{v w:List V}{d e:List D},ao h S v d->ao h S w e->ao h S (v++w) (d++e)
 |[],_,_,_,a,b=>by simp only[ao]at a;subst a;simpa using b
 |_ :: _,_,_,_,a,b=>by
  simp only[ao]at a;obtain⟨d,es,rfl,x,y⟩:=a;exact .cons x (y.append b)
theorem ao.take:∀{v:List V}{d:List D}(n:Nat),ao h S v d->ao h S (v.take n) (d.take n)
 |_,_,0,_=>by simp[ao]
 |[],_,_+1,a=>by simp only[ao]at a;subst a;simp[ao]
 |_ :: _,_,n+1,a=>by
  simp only[ao]at a;obtain⟨d,es,rfl,x,y⟩:=a;simp only[Uz];exact .cons x (y.take n)
theorem ao.drop:∀{v:List V}{d:List D}(n:Nat),ao h S v d->ao h S (v.drop n) (d.drop n)
 |_,_,0,a=>by simpa using a
 |[],_,_+1,a=>by simp only[ao]at a;subst a;simp[ao]
 |_ :: _,_,n+1,a=>by
  simp only[ao]at a;obtain⟨d,es,rfl,x,y⟩:=a;simp only[Wv];exact y.drop n
theorem ao.set:∀{v:List V}{d:List D}(j:Nat) {x:V}{y:D},ao h S v d->Rep h S x y->ao h S (v.set j x) (d.set j y)
 |[],_,_,_,_,a,_=>by simp only[ao]at a;subst a;simp[ao]
 |_ :: _,_,0,_,_,a,b=>by
  simp only[ao]at a;obtain⟨d,es,rfl,x,y⟩:=a;exact .cons b y
 |_ :: _,_,j+1,_,_,a,b=>by
  simp only[ao]at a;obtain⟨d,es,rfl,x,y⟩:=a;exact .cons x (y.set j b)
theorem ao.dropLast:∀{v:List V}{d:List D},ao h S v d->ao h S v.dropLast d.dropLast:=λ{v d} a=>by
 rw[UH,UH,a.length];exact a.take _
theorem ao.reverse:∀{v:List V}{d:List D},ao h S v d->ao h S v.reverse d.reverse
 |[],_,a=>by simp only[ao]at a;subst a;simp[ao]
 |_ :: _,_,a=>by
  simp only[ao]at a;obtain⟨d,es,rfl,x,y⟩:=a;simp only[Uo];exact y.reverse.append (.cons x .nil)
theorem ao.rep{v:List V}{d:List D}(a:ao h S v d):∀k:Nat,ao h S (Ev.rep k v) (Ev.rep k d)
 |0=>by simp[Ev.rep,ao]
 |k+1=>by
  have z:=ao.rep a k;simp only[Ev.rep,Q5,Uk]at z ⊢;exact a.append z
theorem ao.cut{v:List V}{d:List D}(a:ao h S v d)(lo hi:Option Int):ao h S (Ev.cut v lo hi) (Ev.cut d lo hi):=by
 unfold Ev.cut;rw[a.length];exact(a.drop _).take _
theorem ao.map{α:Type}{f:α->V}{g:α->D}(q:∀a,Rep h S (f a) (g a)):∀l:List α,ao h S (l.map f) (l.map g)
 |[]=>.nil
 |_ :: l=>.cons (q _) (ao.map q l)
mutual
theorem Rep.uniq:∀{v w:V}{d:D},Rep h U v d->Rep h U w d->v=w
 |.aO,w,_,a,b=>by simp only[Rep]at a;subst a;cases w<;>simp[Rep]at b<;>rfl
 |.bl _,w,_,a,b=>by simp only[Rep]at a;subst a;cases w<;>simp[Rep]at b<;>rw[b]
 |.int _,w,_,a,b=>by simp only[Rep]at a;subst a;cases w<;>simp[Rep]at b<;>rw[b]
 |.str _,w,_,a,b=>by simp only[Rep]at a;subst a;cases w<;>simp[Rep]at b<;>rw[b]
 |.tup l,w,_,a,b=>by
  simp only[Rep]at a;obtain⟨ds,rfl,a⟩:=a;cases w<;>simp[Rep]at b
  rw[ao.uniq a b]
 |.lst l,w,_,a,b=>by
  simp only[Rep]at a;obtain⟨n,ds,rfl,_,a1,a⟩:=a;cases w<;>simp[Rep]at b
  .obtain⟨ds',b1,b⟩:=b;rw[a1]at b1;cases b1;rw[ao.uniq a b]
  .obtain⟨ds',b1,b⟩:=b;rw[a1]at b1;cases b1
 |.bB l,w,_,a,b=>by
  simp only[Rep]at a;obtain⟨n,ds,rfl,_,a1,a⟩:=a;cases w<;>simp[Rep]at b
  .obtain⟨ds',b1,b⟩:=b;rw[a1]at b1;cases b1
  .obtain⟨ds',b1,b⟩:=b;rw[a1]at b1;cases b1;rw[ao.uniq a b]
theorem ao.uniq:∀{v w:List V}{d:List D},ao h U v d->ao h U w d->v=w
 |[],w,_,a,b=>by simp only[ao]at a;subst a;cases w<;>simp[ao]at b;rfl
 |x :: xs,w,_,a,b=>by
  simp only[ao]at a;obtain⟨d,es,rfl,a1,a2⟩:=a;cases w<;>simp only[ao]at b
  .cases b
  obtain⟨d',es',e,b1,b2⟩:=b;cases e;rw[Rep.uniq a1 b1,ao.uniq a2 b2]
end
theorem vG{n:Nat}(f:∀v b,dD n v v=some b->b=true):∀l b,bZ (dD n) l l=some b->b=true
 |[],b,e=>by simp[bZ]at e;exact e
 |x :: xs,b,e=>by
  simp only[bZ,fX]at e;obtain⟨c,e1,c2,e2,e⟩:=e;rw[f x c e1,vG f xs c2 e2]at e;simpa using e.symm
theorem vH:∀n v b,dD n v v=some b->b=true
 |0,_,_,e=>by cases e
 |n+1,v,b,e=>by
  cases v<;>first|exact vG (vH n) _ _ e | (cases e<;>first|rfl|exact WM _)
theorem vI{n:Nat}(f:∀{v w:V}{d e:D}{b},dD n v w=some b->Rep h U v d->Rep h U w e->Ev.fP h n d e=some b):∀{l m:List V}{ds es:List D}{b},bZ (dD n) l m=some b->ao h U l ds->ao h U m es->Ev.bZ (Ev.fP h n) ds es=some b
 |[],[],_,_,b,e,p,q=>by simp only[ao]at p q;subst p q;simpa[bZ,Ev.bZ]using e
 |[],_ :: _,_,_,b,e,p,q=>by simp only[ao]at p q;subst p;obtain⟨_,_,rfl,_⟩:=q;simpa[bZ,Ev.bZ]using e
 |_ :: _,[],_,_,b,e,p,q=>by simp only[ao]at p q;subst q;obtain⟨_,_,rfl,_⟩:=p;simpa[bZ,Ev.bZ]using e
 |x :: xs,y :: ys,_,_,b,e,p,q=>by
  simp only[ao]at p q;obtain⟨d,ds,rfl,p1,p2⟩:=p;obtain⟨d',ds',rfl,q1,q2⟩:=q;simp only[bZ,fX]at e;obtain⟨c,e1,c2,e2,e⟩:=e;simp[Ev.bZ,f e1 p1 q1,vI f e2 p2 q2];simpa using e
def gq{n:Nat}{ds:List D}(q:h[n]?=some (.lst ds)):aP h n=some ds:=by simp[aP,q]
def gE{n:Nat}{ds:List D}(q:h[n]?=some (.bB ds)):aP h n=some ds:=by simp[aP,q]
theorem jO:∀(n:Nat) {v w:V}{d e:D}{b},dD n v w=some b->Rep h U v d->Rep h U w e->Ev.fP h n d e=some b
  |0,_,_,_,_,_,e,_,_=>by cases e
  |n+1,v,w,d,e,b,x,p,q=>by
    by_cases hr:∃m,d=.ref m/\e=.ref m
    . obtain⟨m,rfl,rfl⟩:=hr;have hvw:=p.uniq q;subst hvw;have hb:=vH _ _ _ x;subst hb;cases v<;>simp[Rep]at p
      . obtain⟨ds,p1,p2⟩:=p;show Ev.jF _ _ _ _=_;rw[Ev.jF,cG rfl,gq p1];rfl
      . obtain⟨ds,p1,p2⟩:=p;show Ev.jF _ _ _ _=_;rw[Ev.jF,cG rfl,gE p1];rfl
    . cases v<;>cases w<;>simp only[Rep]at p q <;>
      first
      | (subst p;subst q;exact x)
      | (obtain⟨ds,rfl,p⟩:=p;subst q;exact x)
      | (obtain⟨ds,rfl,q⟩:=q;subst p;exact x)
      | (obtain⟨ds,rfl,p⟩:=p;obtain⟨es,rfl,q⟩:=q;exact vI (λa b c=>jO n a b c) x p q)
      | (cases x;done)
      | (obtain⟨m,ds,rfl,_,p1,p⟩:=p;obtain⟨k,es,rfl,_,q1,q⟩:=q
         have hne:m≠k:=λz=>hr ⟨m,rfl,by rw[z]⟩;show Ev.jF _ _ _ _=_;rw[Ev.jF,Cd hne,p1,q1];exact vI (λa b c=>jO n a b c) x p q)
      | (cases x;obtain⟨m,ds,rfl,_,p1,p⟩:=p;subst q;exact Pc (Option.map λ_=>false) (gq p1))
      | (cases x;obtain⟨m,ds,rfl,_,p1,p⟩:=p;subst q;exact Pc (Option.map λ_=>false) (gE p1))
      | (cases x;obtain⟨m,ds,rfl,_,p1,p⟩:=p;obtain⟨es,rfl,q⟩:=q;exact Pc (Option.map λ_=>false) (gq p1))
      | (cases x;obtain⟨m,ds,rfl,_,p1,p⟩:=p;obtain⟨es,rfl,q⟩:=q;exact Pc (Option.map λ_=>false) (gE p1))
      | (cases x;obtain⟨m,ds,rfl,_,q1,q⟩:=q;subst p;exact Pc (Option.map λ_=>false) (gq q1))
      | (cases x;obtain⟨m,ds,rfl,_,q1,q⟩:=q;subst p;exact Pc (Option.map λ_=>false) (gE q1))
      | (cases x;obtain⟨m,ds,rfl,_,q1,q⟩:=q;obtain⟨es,rfl,p⟩:=p;exact Pc (Option.map λ_=>false) (gq q1))
      | (cases x;obtain⟨m,ds,rfl,_,q1,q⟩:=q;obtain⟨es,rfl,p⟩:=p;exact Pc (Option.map λ_=>false) (gE q1))
end
structure Al(h:Hh)(S:Nat->Prop)(h':Hh)(S':Nat->Prop):Prop where
 len:h.length<=h'.length
 keep:∀m,m<h.length->h'[m]?=h[m]?
 sub:∀m,S m->S' m
 new:∀m,S' m->S m\/(h.length<=m/\m<h'.length)
section
variable{h h':Hh}{S S':Nat->Prop}
def Al.refl:Al h S h S:=⟨qT _,λ_ _=>rfl,λ_ q=>q,λ_ q=>.inl q⟩
def Al.snoc(o:O):Al h S (h++[o]) (λm=>S m\/m=h.length) where
 len:=by simp
 keep:=λm q=>by rw[wc q]
 sub:=λ_ q=>.inl q
 new:=λm q=>by
  rcases q with q|q
  .exact .inl q
  .subst q;exact .inr ⟨qT _,by simp⟩
def iz{l:List V}{v:V}{ds:List D}(w:∀m,S m->m<h.length)(e:cV l=some v)(q:ao h S l ds):∃r h' S',Ev.alloc ds h=.ok r h'/\Rep h' S' v r/\Al h S h' S':=by
 unfold cV at e;split at e
 .rename_i z;cases e;refine⟨.ref h.length,h++[.lst ds],λm=>S m\/m=h.length,by unfold Ev.alloc;rw[cG (by rw[<-q.length];exact z)],?_,Al.snoc _⟩;simp only[Rep];refine⟨h.length,ds,rfl,.inr rfl,by simp,q.mono (λm z=>?_) λ_ z=>.inl z⟩;rw[wc (w m z)]
 .cases e
def m7{v:V}{l:List V}{d:D}(e:oU v=some l)(q:aR h S v d):∃n ds,d=.ref n/\aP h n=some ds/\ao h S l ds:=by
 cases v<;>simp[oU]at e
 .subst e;simp only[aR]at q;obtain⟨n,ds,rfl,a,b⟩:=q;exact⟨n,ds,rfl,gq a,b⟩
 .subst e;simp only[aR,Rep]at q;obtain⟨n,ds,rfl,_,a,b⟩:=q;exact⟨n,ds,rfl,gE a,b⟩
mutual
theorem m8:∀{d:D}{v:V},ofD d=some v->Rep h S v d
 |.aO,_,e=>by simp[ofD]at e;subst e;simp[Rep]
 |.bl _,_,e=>by simp[ofD]at e;subst e;simp[Rep]
 |.int _,_,e=>by simp[ofD]at e;subst e;simp[Rep]
 |.str _,_,e=>by simp[ofD]at e;subst e;simp[Rep]
 |.ref _,_,e=>by simp[ofD]at e
 |.tup ds,_,e=>by
  simp[ofD]at e;obtain⟨vs,e,rfl⟩:=e;exact⟨ds,rfl,yh e⟩
theorem yh:∀{d:List D}{v:List V},vE d=some v->ao h S v d
 |[],_,e=>by simp[vE]at e;subst e;exact .nil
 |d :: ds,_,e=>by
  simp only[vE,fX,cR]at e;obtain⟨v,e1,vs,e2,rfl⟩:=e;exact .cons (m8 e1) (yh e2)
end
def ao.emp{l:List V}{ds:List D}(q:ao h S l ds):ds.isEmpty=l.isEmpty:=by
 have:=q.length;cases l<;>cases ds<;>simp at this ⊢
def BL{v:V}{d:D}(q:aR h S v d):Ev.truthy h d=some (truthy v):=by
 cases v<;>simp only[aR,Rep]at q
 .subst q;rfl
 .subst q;rfl
 .subst q;rfl
 .subst q;rfl
 .obtain⟨ds,rfl,q⟩:=q;simp only[Ev.truthy,truthy,q.emp]
 .obtain⟨n,ds,rfl,a,q⟩:=q;simp only[Ev.truthy,truthy,gq a,Option.map,q.emp];first|done|rw[a]
 .obtain⟨n,ds,rfl,_,a,q⟩:=q;simp only[Ev.truthy,truthy,gE a,Option.map,q.emp];first|done|rw[a]
def nn{α:Type}{v:α}{p:Prop}(z:none=some v):p:=Option.noConfusion rfl (heq_of_eq z)
def BN{o:bu}{x y v:V}{d e:D}(w:∀m,S m->m<h.length)(z:bG o x y=some v)(p:aR h S x d)(q:aR h S y e):∃r h' S',Ev.bG o d e h=.ok r h'/\Rep h' S' v r/\Al h S h' S':=by
 cases o<;>cases x<;>first|exact nn z | (cases y<;>first|exact nn z|skip)
 all_goals (delta bG at z;dsimp only at z;simp only[aR,Rep]at p q)
 .subst p q;cases z;exact⟨_,_,S,rfl,rfl,.refl⟩
 .subst p q;split at z
  .rename_i k;cases z;exact⟨_,_,S,by delta Ev.bG;dsimp only;rw[cG k],rfl,.refl⟩
  .cases z
 .obtain⟨ds,rfl,p⟩:=p;obtain⟨es,rfl,q⟩:=q;split at z
  .rename_i k;cases z;exact⟨_,_,S,by delta Ev.bG;dsimp only;rw[cG (by rw[<-p.length,<-q.length];exact k)],⟨_,rfl,p.append q⟩,.refl⟩
  .cases z
 .obtain⟨n,ds,rfl,a,p⟩:=p;obtain⟨m,es,rfl,b,q⟩:=q
  delta Ev.bG;dsimp only;simp only[a,b]
  exact iz w z (p.append q)
 .subst p q;cases z;exact⟨_,_,S,rfl,rfl,.refl⟩
 .subst p q;split at z
  .rename_i k;cases z;exact⟨_,_,S,by delta Ev.bG;dsimp only;rw[cG k],rfl,.refl⟩
  .cases z
 .subst p q;split at z
  .rename_i k;cases z;exact⟨_,_,S,by delta Ev.bG;dsimp only;rw[cG k],rfl,.refl⟩
  .cases z
 .obtain⟨ds,rfl,p⟩:=p;subst q;split at z
  .rename_i k;cases z;exact⟨_,_,S,by delta Ev.bG;dsimp only;rw[cG (by rw[<-p.length];exact k)],⟨_,rfl,p.rep _⟩,.refl⟩
  .cases z
 .obtain⟨n,ds,rfl,a,p⟩:=p;subst q;split at z
  .rename_i k
   delta Ev.bG;dsimp only;simp only[a]
   rw[cG (by rw[<-p.length];exact k)];exact iz w z (p.rep _)
  .cases z
 .subst p q;split at z
  .rename_i k;cases z;exact⟨_,_,S,by delta Ev.bG;dsimp only;rw[cG k],rfl,.refl⟩
  .cases z
 .subst p q;split at z
  .rename_i k;cases z;exact⟨_,_,S,by delta Ev.bG;dsimp only;rw[cG k],rfl,.refl⟩
  .cases z
theorem qB{x:V}{d:D}(p:Rep h U x d):∀{l:List V}{ds:List D}{b},mem x l=some b->ao h U l ds->Ev.mem h d ds=some b
 |[],_,b,e,q=>by simp only[ao]at q;subst q;simpa[mem,Ev.mem]using e
 |y :: ys,_,b,e,q=>by
  simp only[ao]at q;obtain⟨d',ds,rfl,q1,q2⟩:=q;simp only[mem,fX]at e;obtain⟨c,e1,c2,e2,e⟩:=e;simp[Ev.mem,jO deep e1 q1 p,qB p e2 q2];simpa using e
def yi{x y:V}{d e:D}{b:Bool}(z:isin x y=some b)(p:Rep h U x d)(q:Rep h U y e):Ev.isin d e h=some b:=by
 cases y<;>simp only[isin,reduceCtorEq]at z<;>simp only[Rep]at q
 .subst q;split at z
  .simp only[Rep]at p;subst p;simpa[Ev.isin]using z
  .cases z
 .obtain⟨ds,rfl,q⟩:=q;simpa[Ev.isin]using qB p z q
 .obtain⟨n,ds,rfl,_,a,q⟩:=q;simpa[Ev.isin,gq a]using qB p z q
 .obtain⟨n,ds,rfl,_,a,q⟩:=q;simpa[Ev.isin,gE a]using qB p z q
def vJ{o:aV}{x y:V}{d e:D}{b:Bool}(z:cop o x y=some b)(p:Rep h U x d)(q:Rep h U y e):Ev.cop o d e h=some b:=by
 cases o
 case eq=>delta cop at z;dsimp only at z;delta Ev.cop;dsimp only;exact jO deep z p q
 case ne=>
  delta cop at z;dsimp only at z;simp only[cR]at z;obtain⟨c,z,rfl⟩:=z
  delta Ev.cop;dsimp only;simp only[jO deep z p q];rfl
 case isin=>delta cop at z;dsimp only at z;delta Ev.cop;dsimp only;exact yi z p q
 case cC=>
  delta cop at z;dsimp only at z;simp only[cR]at z;obtain⟨c,z,rfl⟩:=z
  delta Ev.cop;dsimp only;simp only[yi z p q];rfl
 all_goals (
  cases x<;>first|exact nn z | (cases y<;>first|exact nn z|skip)
  all_goals (simp only[Rep]at p q;subst p q;exact z))
def zS{l:List V}{ds:List D}{i:Int}{v:V}(e:bC l i=some v)(q:ao h S l ds):∃d,bC ds i=some d/\Rep h S v d:=by
 unfold bC at e ⊢;rw[q.length]at e;cases z:dH ds.length i with
 |none=>rw[z]at e;cases e
 |some j=>rw[z]at e;exact q.get e
def KS{x y v:V}{d e:D}(z:fB x y=some v)(p:aR h S x d)(q:aR h S y e):∃r,Ev.fB d e h=some r/\Rep h S v r:=by
 cases x<;>cases y<;>simp only[fB,reduceCtorEq]at z<;>simp only[aR,Rep]at p q
 .subst p q;simp only[cR]at z;obtain⟨c,z,rfl⟩:=z;exact⟨.str [c],by simp[Ev.fB,z],rfl⟩
 .obtain⟨ds,rfl,p⟩:=p;subst q;simpa[Ev.fB]using zS z p
 .obtain⟨n,ds,rfl,a,p⟩:=p;subst q;simpa[Ev.fB,gq a]using zS z p
 .obtain⟨n,ds,rfl,_,a,p⟩:=p;subst q;simpa[Ev.fB,gE a]using zS z p
def KU{x v:V}{d:D}{lo hi:Option Int}(w:∀m,S m->m<h.length)(z:eH x lo hi=some v)(p:aR h S x d):∃r h' S',Ev.eH d lo hi h=.ok r h'/\Rep h' S' v r/\Al h S h' S':=by
 cases x<;>simp only[eH,reduceCtorEq]at z<;>simp only[aR,Rep]at p
 .subst p;cases z;exact⟨_,_,S,rfl,rfl,.refl⟩
 .obtain⟨ds,rfl,p⟩:=p;cases z;exact⟨_,_,S,rfl,⟨_,rfl,p.cut _ _⟩,.refl⟩
 .obtain⟨n,ds,rfl,a,p⟩:=p;simp only[Ev.eH,gq a];exact iz w z (p.cut _ _)
 .obtain⟨n,ds,rfl,_,a,p⟩:=p;simp only[Ev.eH,gE a];exact iz w z (p.cut _ _)
def KW{x v:V}{d:D}(w:∀m,S m->m<h.length)(z:lQ x=some v)(p:aR h S x d):∃r h' S',Ev.lQ d h=.ok r h'/\Rep h' S' v r/\Al h S h' S':=by
 cases x<;>simp only[lQ,reduceCtorEq]at z<;>simp only[aR,Rep]at p
 .obtain⟨ds,rfl,p⟩:=p;cases z;exact⟨_,_,S,rfl,⟨_,rfl,p.reverse⟩,.refl⟩
 .obtain⟨n,ds,rfl,a,p⟩:=p;simp only[Ev.lQ,gq a];exact iz w z p.reverse
 .obtain⟨n,ds,rfl,_,a,p⟩:=p;simp only[Ev.lQ,gE a];exact iz w z p.reverse
def KY{x v:V}{d:D}(z:toT x=some v)(p:aR h S x d):∃r,Ev.q9 d h=.ok r h/\Rep h S v r:=by
 cases x<;>simp only[toT,reduceCtorEq]at z<;>simp only[aR,Rep]at p
 .obtain⟨ds,rfl,p⟩:=p;cases z;exact⟨_,rfl,⟨_,rfl,p⟩⟩
 .obtain⟨n,ds,rfl,a,p⟩:=p;unfold iK at z;split at z
  .rename_i k;cases z;refine⟨.tup ds,?_,⟨_,rfl,p⟩⟩;simp only[Ev.q9,gq a];rw[cG (by rw[<-p.length];exact k)]
  .cases z
 .obtain⟨n,ds,rfl,_,a,p⟩:=p;unfold iK at z;split at z
  .rename_i k;cases z;refine⟨.tup ds,?_,⟨_,rfl,p⟩⟩;simp only[Ev.q9,gE a];rw[cG (by rw[<-p.length];exact k)]
  .cases z
def Q2{x:V}{l:List V}{d:D}(z:oU x=some l)(p:aR h S x d):∃s,Ev.Jf h d=some s/\ao h S l s.1/\(∀q∈s.2,d=.ref q.1/\aP h q.1=some q.2):=by
 obtain⟨n,ds,rfl,a,q⟩:=m7 z p;exact⟨(ds,[(n,ds)]),by simp[Ev.Jf,a],q,by simp[a]⟩
def GZ{x:V}{d:D}(p:aR h S x d)(t:TY):Ev.cL h d t=cL x t:=by
 cases x<;>simp only[aR,Rep]at p
 .subst p;cases t<;>rfl
 .subst p;cases t<;>rfl
 .subst p;cases t<;>rfl
 .subst p;cases t<;>rfl
 .obtain⟨_,rfl,_⟩:=p;cases t<;>rfl
 .obtain⟨n,ds,rfl,a,p⟩:=p;cases t<;>simp[Ev.cL,cL,gq a]
 .obtain⟨n,ds,rfl,_,a,p⟩:=p;cases t<;>simp[Ev.cL,cL,gE a]
theorem vK:∀{l:List V}{ds:List D}{bs},boolsOf l=some bs->ao h S l ds->Ev.boolsOf ds=some bs
 |[],_,_,e,q=>by simp only[ao]at q;subst q;exact e
 |x :: xs,_,bs,e,q=>by
  cases x<;>simp only[boolsOf,reduceCtorEq,cR]at e
  obtain⟨r,e,rfl⟩:=e;simp only[ao,Rep]at q;obtain⟨_,ds,rfl,rfl,q⟩:=q;simp[Ev.boolsOf,vK e q]
theorem yj:∀{l:List V}{ds:List D}{bs},intsOf l=some bs->ao h S l ds->Ev.intsOf ds=some bs
 |[],_,_,e,q=>by simp only[ao]at q;subst q;exact e
 |x :: xs,_,bs,e,q=>by
  cases x<;>simp only[intsOf,reduceCtorEq,cR]at e
  obtain⟨r,e,rfl⟩:=e;simp only[ao,Rep]at q;obtain⟨_,ds,rfl,rfl,q⟩:=q;simp[Ev.intsOf,yj e q]
theorem yk:∀{l:List V}{ds:List D}{bs},strsOf l=some bs->ao h S l ds->Ev.strsOf ds=some bs
 |[],_,_,e,q=>by simp only[ao]at q;subst q;exact e
 |x :: xs,_,bs,e,q=>by
  cases x<;>simp only[strsOf,reduceCtorEq,cR]at e
  obtain⟨r,e,rfl⟩:=e;simp only[ao,Rep]at q;obtain⟨_,ds,rfl,rfl,q⟩:=q;simp[Ev.strsOf,yk e q]
def fK.one{v:V}{ds:List D}(q:fK h S [v] ds):∃d,ds=[d]/\aR h S v d:=by
 simp only[fK]at q;obtain⟨d,es,rfl,a,rfl⟩:=q;exact⟨d,rfl,a⟩
def KZ{b:BI}{xs:List V}{v:V}{ds:List D}(w:∀m,S m->m<h.length)(z:cU b xs=some v)(p:fK h S xs ds):∃r h' S',Ev.cU b ds h=.ok r h'/\Rep h' S' v r/\Al h S h' S':=by
 delta cU at z
 rcases xs with _|⟨x,_|⟨y,_|⟨u,xs⟩⟩⟩
 .cases b<;>exact nn z
 .obtain⟨d,rfl,p1⟩:=p.one;cases b
  case len=>
   cases x
   case str s=>
    dsimp only at z;simp only[aR,Rep]at p1;subst p1;split at z
    .rename_i k;cases z;exact⟨_,_,S,by delta Ev.cU;dsimp only;rw[cG k],rfl,.refl⟩
    .cases z
   case tup l=>
    dsimp only at z;simp only[aR,Rep]at p1;obtain⟨es,rfl,p2⟩:=p1;cases z;exact⟨_,_,S,rfl,by simp[Rep,p2.length],.refl⟩
   all_goals
    dsimp only at z;simp only[cR]at z;obtain⟨l,z,rfl⟩:=z;obtain⟨n,es,rfl,a,q⟩:=m7 z p1;exact⟨.int es.length,h,S,by delta Ev.cU;dsimp only;simp[a],by simp[Rep,q.length],.refl⟩
  case all=>
   dsimp only at z;simp only[cR,fX]at z;obtain⟨bs,⟨l,z,z2⟩,rfl⟩:=z;obtain⟨n,es,rfl,a,q⟩:=m7 z p1;exact⟨_,_,S,by delta Ev.cU;dsimp only;simp only[a,Option.bind,vK z2 q];rfl,rfl,.refl⟩
  case sum=>
   dsimp only at z;simp only[cR,fX]at z;obtain⟨bs,⟨l,z,z2⟩,rfl⟩:=z;obtain⟨n,es,rfl,a,q⟩:=m7 z p1;exact⟨_,_,S,by delta Ev.cU;dsimp only;simp only[a,Option.bind,yj z2 q];rfl,rfl,.refl⟩
  case min=>cases x<;>exact nn z
  case kY=>
   cases x
   case bl i=>
    dsimp only at z;simp only[aR,Rep]at p1;subst p1;cases z;exact⟨_,_,S,rfl,rfl,.refl⟩
   all_goals exact nn z
  case gn=>
   cases x
   case int i=>
    dsimp only at z;simp only[aR,Rep]at p1;subst p1;split at z
    .rename_i k;cases z;exact⟨_,_,S,by delta Ev.cU;dsimp only;rw[cG k],rfl,.refl⟩
    .cases z
   case str s=>
    dsimp only at z;simp only[aR,Rep]at p1;subst p1;cases z;exact⟨_,_,S,rfl,rfl,.refl⟩
   all_goals exact nn z
  case jE=>
   cases x
   case str s=>
    dsimp only at z;simp only[aR,Rep]at p1;subst p1;obtain⟨i,e,rfl⟩:=Option.map_eq_some_iff.mp z;exact⟨.int i,_,S,by delta Ev.cU;dsimp only;rw[e];rfl,rfl,.refl⟩
   all_goals exact nn z
 .cases b
  case min=>
   cases x
   case int i=>
    cases y
    case int j=>
     dsimp only at z;simp only[fK,aR,Rep]at p;obtain⟨_,_,rfl,rfl,_,_,rfl,rfl,rfl⟩:=p;cases z;exact⟨_,_,S,rfl,rfl,.refl⟩
    all_goals exact nn z
   all_goals exact nn z
  case len=>cases x<;>exact nn z
  case kY=>cases x<;>exact nn z
  case gn=>cases x<;>exact nn z
  case jE=>cases x<;>exact nn z
  all_goals exact nn z
 .cases b
  case min=>cases x <;> (try cases y)<;>exact nn z
  case len=>cases x<;>exact nn z
  case kY=>cases x<;>exact nn z
  case gn=>cases x<;>exact nn z
  case jE=>cases x<;>exact nn z
  all_goals exact nn z
def K0{m:ME}{o:V}{xs:List V}{v:V}{d:D}{ds:List D}(z:dZ m o xs=some v)(hm:iy m=false)(po:aR h S o d)(p:fK h S xs ds):Ev.qk m d h=true/\∃r,Ev.dZ m d ds h=.ok r h/\Rep h S v r:=by
 unfold dZ at z;split at z
 .obtain⟨d,rfl,p1⟩:=p.one;simp only[aR,Rep]at po;subst po;simp only[fX]at z;obtain⟨ss,⟨l,z,z2⟩,z3⟩:=z;obtain⟨n,es,rfl,a,q⟩:=m7 z p1;split at z3
  .rename_i k;cases z3;refine⟨rfl,_,?_,rfl⟩
   delta Ev.dZ;dsimp only;simp only[a,Option.bind,yk z2 q]
   rw[cG k]
  .cases z3
 .cases z
def G0{x:V}{d:D}(f:t8 x=true)(p:Rep h U x d):Rep [] U x d:=by
 cases x<;>simp only[t8,Mb]at f<;>exact p
def DF{x:V}{d:D}(p:Rep h U x d):∀{kvs:List (D×D)}{v:V},dB x kvs=some v->∃r,Ev.dB d kvs=some r/\Rep h S v r:=by
 intro kvs v z;unfold dB at z;split at z
 .rename_i f;have p':=G0 f p;induction kvs with
  |nil=>cases z
  |cons kv r ih=>
   obtain⟨k,u⟩:=kv;simp only[zO]at z;simp only[Ev.dB];split at z
   .rename_i y;simp only[fX]at y;obtain⟨k',y1,y2⟩:=y;rw[jO 1 y2 (m8 y1) p'];exact⟨u,rfl,m8 z⟩
   .rename_i y;simp only[fX]at y;obtain⟨k',y1,y2⟩:=y;rw[jO 1 y2 (m8 y1) p'];exact ih z
   .cases z
 .cases z
def DG{x:V}{l:List V}{d:D}(z:gb x=some l)(p:aR h S x d):∃s,Ev.gb h d=some s/\ao h S l s.1/\(∀q∈s.2,d=.ref q.1/\aP h q.1=some q.2):=by
 cases x<;>simp only[gb,reduceCtorEq]at z<;>simp only[aR,Rep]at p
 .subst p;cases z;exact⟨_,rfl,ao.map (f:=λc=>V.str [c]) (g:=λc=>D.str [c]) (λ_=>by simp[Rep]) _,by simp⟩
 .obtain⟨ds,rfl,p⟩:=p;cases z;exact⟨_,rfl,p,by simp⟩
 .obtain⟨n,ds,rfl,a,p⟩:=p;cases z;exact⟨(ds,[(n,ds)]),by simp[Ev.gb,gq a],p,by simp[gq a]⟩
 .obtain⟨n,ds,rfl,_,a,p⟩:=p;cases z;exact⟨(ds,[(n,ds)]),by simp[Ev.gb,gE a],p,by simp[gE a]⟩
def vL(lo:Int)(n:Nat):ao h S (range lo n) (Ev.range lo n):=ao.map (f:=λ(i:Nat)=>V.int (lo+i)) (g:=λ(i:Nat)=>D.int (lo+i)) (λ_=>by simp[Rep]) _
def K1{xs l:List V}{ds:List D}(z:dX xs=some l)(p:fK h S xs ds):∃s,Ev.dX ds=some (s,[])/\ao h S l s:=by
 unfold dX at z;split at z
 .obtain⟨d,rfl,p1⟩:=p.one;simp only[aR,Rep]at p1;subst p1;split at z
  .rename_i k;cases z;exact⟨_,by simp only[Ev.dX];rw[cG k],vL _ _⟩
  .cases z
 .simp only[fK,aR,Rep]at p;obtain⟨_,_,rfl,rfl,_,_,rfl,rfl,rfl⟩:=p;split at z
  .rename_i k;cases z;exact⟨_,by simp only[Ev.dX];rw[cG k],vL _ _⟩
  .cases z
 .cases z
theorem G1:∀{a:List V}{ds:List D}(k:Int),ao h S a ds->ao h S (jh k a) (Ev.jh k ds)
 |[],_,_,p=>by simp only[ao]at p;subst p;simp[jh,Ev.jh,ao]
 |x :: xs,_,k,p=>by
  simp only[ao]at p;obtain⟨d,ds,rfl,p1,p2⟩:=p;simp only[jh,Ev.jh];exact .cons ⟨_,rfl,.cons rfl (.cons p1 .nil)⟩ (G1 _ p2)
end
def kF(M B:Nat->Prop)(h:Hh)(S:Nat->Prop):Option Sl->Option D->Prop
 |none,p=>p=none
 |some (.val v),p=>∃d,p=some d/\Rep h S v d
 |some (.own l),p=>∃m ds,p=some (.ref m)/\(M m/\¬ B m)/\h[m]?=some (.lst ds)/\ao h S l ds
 |some (.bor l),p=>∃m ds,p=some (.ref m)/\(M m/\B m)/\h[m]?=some (.lst ds)/\ao h S l ds
 |some (.ro l),p=>∃m ds,p=some (.ref m)/\¬ M m/\h[m]?=some (.lst ds)/\ao h S l ds
noncomputable def oO:Sl->List D->O
 |_,ds=>.lst ds
noncomputable def gP:Option Sl->Bool
 |some (.own _)=>true
 |some (.bor _)=>true
 |_=>false
noncomputable def yl:Option Sl->Bool
 |some (.bor _)=>true
 |some (.ro _)=>true
 |_=>false
def locked(fr:Fr)(i:Nat):Bool:=match fr[i]? with
 |some o=>yl o
 |none=>false
structure aN(M B:Nat->Prop)(h:Hh)(S:Nat->Prop)(fr:Fr)(ai:Ev.Fr):Prop where
 wS:∀m,S m->m<h.length/\¬ M m/\¬ B m
 wM:∀m,M m->m<h.length
 wB:∀m,B m->m<h.length
 len:fr.length=ai.length
 sl:∀(i:Nat) o p,fr[i]?=some o->ai[i]?=some p->kF M B h S o p
 inj:∀(i j:Nat) o o' m,fr[i]?=some o->fr[j]?=some o'->gP o=true->gP o'=true->ai[i]?=some (some (.ref m))->ai[j]?=some (some (.ref m))->i=j
structure Tk(X:Nat->Prop)(h:Hh)(S:Nat->Prop)(h':Hh)(S':Nat->Prop):Prop where
 len:h.length<=h'.length
 keep:∀m,m<h.length->¬ X m->h'[m]?=h[m]?
 sub:∀m,S m->S' m
 new:∀m,S' m->S m\/(h.length<=m/\m<h'.length)
def Xs(M:Nat->Prop)(ai:Ev.Fr)(l:List Nat):Nat->Prop:=λm=>M m/\∃i∈l,ai[i]?=some (some (.ref m))
structure Out(M B:Nat->Prop)(c:List Nat)(h:Hh)(S:Nat->Prop)(fr:Fr)(ai:Ev.Fr)(h':Hh)(S':Nat->Prop)(af:Fr):Prop where
 f:aN M B h' S' af ai
 tr:Tk (Xs M ai c) h S h' S'
 lk:∀i,locked af i=locked fr i
section
variable{M B:Nat->Prop}{h h' h1 h2:Hh}{S S' S1 S2:Nat->Prop}{fr af ak:Fr}{ai:Ev.Fr}{c c1 c2:List Nat}{v:V}{d:D}{X X1 X2:Nat->Prop}
def aN.get(f:aN M B h S fr ai){i:Nat}{o:Option Sl}(e:fr[i]?=some o):∃p,ai[i]?=some p/\kF M B h S o p:=by
 have h1:=(List.getElem?_eq_some_iff.mp e).1;rw[f.len]at h1;exact⟨ai[i],tP h1,f.sl i o _ e (tP h1)⟩
def aN.w(f:aN M B h S fr ai):∀m,S m->m<h.length:=λm q=>(f.wS m q).1
def Al.tr(a:Al h S h' S'):Tk X h S h' S':=⟨a.len,λm q _=>a.keep m q,a.sub,a.new
 ⟩
def Tk.al(t:Tk X h S h' S')(z:∀m,¬ X m):Al h S h' S':=⟨t.len,λm q=>t.keep m q (z m),t.sub,t.new⟩
def Tk.weak(t:Tk X h S h' S')(q:∀m,X m->X1 m):Tk X1 h S h' S':=⟨t.len,λm k z=>t.keep m k λy=>z (q m y),t.sub,t.new
 ⟩
def Tk.trans(a:Tk X1 h S h1 S1)(b:Tk X2 h1 S1 h2 S2):Tk (λm=>X1 m\/X2 m) h S h2 S2 where
 len:=HK a.len b.len
 keep:=λm q z=>by rw[b.keep m (dS q a.len) (λy=>z (.inr y)),a.keep m q (λy=>z (.inl y))]
 sub:=λm q=>b.sub m (a.sub m q)
 new:=λm q=>by
  rcases b.new m q with q|⟨q1,q2⟩
  .rcases a.new m q with q|⟨q1,q2⟩
   .exact .inl q
   .exact .inr ⟨q1,dS q2 b.len⟩
  .exact .inr ⟨HK a.len q1,q2⟩
theorem Al.trans(a:Al h S h1 S1)(b:Al h1 S1 h2 S2):Al h S h2 S2:=((a.tr (X:=λ_=>False)).trans (b.tr (X:=λ_=>False))).al λm z=>by simp at z
def Tk.refl:Tk X h S h S:=⟨qT _,λ_ _ _=>rfl,λ_ q=>q,λ_ q=>.inl q
 ⟩
def Xs.app{l1 l2:List Nat}{m:Nat}:Xs M ai (l1++l2) m↔Xs M ai l1 m\/Xs M ai l2 m:=by
 unfold Xs;constructor
 .rintro⟨a,i,hi,e⟩;rcases List.mem_append.mp hi with hi|hi
  .exact .inl ⟨a,i,hi,e⟩
  .exact .inr ⟨a,i,hi,e⟩
 .rintro(⟨a,i,hi,e⟩|⟨a,i,hi,e⟩)
  .exact⟨a,i,List.mem_append.mpr (.inl hi),e⟩
  .exact⟨a,i,List.mem_append.mpr (.inr hi),e⟩
def Xs.nil{m:Nat}:¬ Xs M ai [] m:=by rintro⟨_,i,hi,_⟩;simp at hi
def Xs.mono{l1 l2:List Nat}(q:∀i∈l1,i∈l2){m:Nat}:Xs M ai l1 m->Xs M ai l2 m:=λ⟨a,i,hi,e⟩=>⟨a,i,q i hi,e⟩
def Rep.tr(q:Rep h S v d)(f:aN M B h S fr ai)(t:Tk (Xs M ai c) h S h' S'):Rep h' S' v d:=q.mono (λm z=>t.keep m (f.wS m z).1 (λy=>(f.wS m z).2.1 y.1)) t.sub
def ao.tr{l:List V}{ds:List D}(q:ao h S l ds)(f:aN M B h S fr ai)(t:Tk (Xs M ai c) h S h' S'):ao h' S' l ds:=q.mono (λm z=>t.keep m (f.wS m z).1 (λy=>(f.wS m z).2.1 y.1)) t.sub
def aR.tr(q:aR h S v d)(f:aN M B h S fr ai)(t:Tk X h S h' S')(z:∀m,¬ X m):aR h' S' v d:=q.mono (λm k=>t.keep m k (z m)) f.w t.sub
def kF.al{o:Option Sl}{p:Option D}(q:kF M B h S o p)(w:∀m,S m->m<h.length)(a:Al h S h' S'):kF M B h' S' o p:=by
 have k:∀m,S m->h'[m]?=h[m]?:=λm z=>a.keep m (w m z);have g:∀(m:Nat) (ds:O),h[m]?=some ds->h'[m]?=some ds:=λm ds z=>by rw[a.keep m (List.getElem?_eq_some_iff.mp z).1];exact z
 rcases o with _|s
 .exact q
 .cases s with
  |val v=>obtain⟨d,e,q⟩:=q;exact⟨d,e,q.mono k a.sub⟩
  |own l=>obtain⟨m,ds,e,z,y,q⟩:=q;exact⟨m,ds,e,z,g m _ y,q.mono k a.sub⟩
  |bor l=>obtain⟨m,ds,e,z,y,q⟩:=q;exact⟨m,ds,e,z,g m _ y,q.mono k a.sub⟩
  |ro l=>obtain⟨m,ds,e,z,y,q⟩:=q;exact⟨m,ds,e,z,g m _ y,q.mono k a.sub⟩
theorem aN.al(f:aN M B h S fr ai)(a:Al h S h' S'):aN M B h' S' fr ai where
 wS:=λm q=>by
  rcases a.new m q with q|⟨q1,q2⟩
  .exact⟨dS (f.wS m q).1 a.len,(f.wS m q).2⟩
  .exact⟨q2,λz=>by have:=f.wM m z;omega,λz=>by have:=f.wB m z;omega⟩
 wM:=λm q=>dS (f.wM m q) a.len
 wB:=λm q=>dS (f.wB m q) a.len
 len:=f.len
 sl:=λi o p e1 e2=>(f.sl i o p e1 e2).al f.w a
 inj:=f.inj
theorem Out.refl(f:aN M B h S fr ai):Out M B c h S fr ai h S fr:=⟨f,.refl,λ_=>rfl⟩
theorem Out.trans(a:Out M B c1 h S fr ai h1 S1 af)(b:Out M B c2 h1 S1 af ai h2 S2 ak):Out M B (c1++c2) h S fr ai h2 S2 ak:=⟨b.f,(a.tr.trans b.tr).weak λm z=>Xs.app.mpr z,λi=>(b.lk i).trans (a.lk i)⟩
theorem Out.al(a:Out M B c h S fr ai h1 S1 af)(b:Al h1 S1 h2 S2):Out M B c h S fr ai h2 S2 af:=⟨a.f.al b,(a.tr.trans (b.tr (X:=λ_=>False))).weak (λm z=>by rcases z with z|z;exact z;exact z.elim),a.lk⟩
theorem Out.weak(a:Out M B c h S fr ai h1 S1 af)(q:∀i∈c,i∈c1):Out M B c1 h S fr ai h1 S1 af:=⟨a.f,a.tr.weak λm z=>Xs.mono q z,a.lk⟩
def fT(k:Bool)(h:Hh)(S:Nat->Prop)(v:V)(d:D):Prop:=if k=true then aR h S v d else Rep h S v d
def fT.of{k:Bool}(q:Rep h S v d):fT k h S v d:=by unfold fT;split;exact q.top;exact q
def fT.t{k:Bool}(q:fT k h S v d):aR h S v d:=by unfold fT at q;split at q;exact q;exact q.top
def fT.n(q:fT false h S v d):Rep h S v d:=by simpa[fT]using q
def aN.slot(f:aN M B h S fr ai){i m:Nat}(e:ai[i]?=some (some (.ref m)))(hm:M m):∃o,fr[i]?=some o/\gP o=true:=by
 have hl:i<fr.length:=by rw[f.len];exact(List.getElem?_eq_some_iff.mp e).1
 refine⟨fr[i],tP hl,?_⟩;have s:=f.sl i _ _ (tP hl) e
 revert s
 generalize fr[i]=o
 intro s;rcases o with _|s'
 .cases s
 .cases s' with
  |own l=>rfl
  |bor l=>rfl
  |ro l=>obtain⟨m',ds,e,y,_⟩:=s;cases e;exact absurd hm y
  |val v=>
   obtain⟨d,e,q⟩:=s;cases e;exfalso;cases v<;>simp only[Rep,reduceCtorEq]at q
   .obtain⟨_,e,_⟩:=q;cases e
   .obtain⟨n,ds,e,sn,_⟩:=q;cases e;exact(f.wS _ sn).2.1 hm
   .obtain⟨n,ds,e,sn,_⟩:=q;cases e;exact(f.wS _ sn).2.1 hm
theorem fT.tr{k:Bool}{a:E}(q:fT k h S v d)(f:aN M B h S fr ai)(t:Tk (Xs M ai c) h S h' S')(hk:k=true->kf a c=true)(ha:∀i,a=.v i->ai[i]?.join=some d):fT k h' S' v d:=by
 unfold fT at q ⊢;split at q
 .rename_i e;rw[cG e];have hk:=hk e;have gen:c=[]->aR h' S' v d:=λz=>q.tr f t λm y=>by subst z;exact Xs.nil y
  by_cases hv:∃i,a=.v i
  .obtain⟨i0,rfl⟩:=hv;simp only[kf,T4,List.contains_eq_mem,U3]at hk;cases v
   case lst l=>
    simp only[aR]at q ⊢;obtain⟨n,ds,rfl,b1,b2⟩:=q;refine⟨n,ds,rfl,?_,b2.tr f t⟩;rw[t.keep n (List.getElem?_eq_some_iff.mp b1).1 ?_]
    .exact b1
    .rintro⟨mn,j,hj,ej⟩;have e2:ai[i0]?=some (some (D.ref n)):=by
      have:=ha i0 rfl;cases z:ai[i0]? with
      |none=>rw[z]at this;cases this
      |some p=>rw[z]at this;simp at this;rw[this]
     obtain⟨o1,y1,y2⟩:=f.slot e2 mn;obtain⟨o2,y3,y4⟩:=f.slot ej mn;have:=f.inj i0 j o1 o2 n y1 y3 y2 y4 e2 ej;subst this;exact hk hj
   all_goals exact Rep.tr (show Rep h S _ d from q) f t
  .have:kf a c=c.isEmpty:=by
    cases a<;>first|rfl|exact absurd ⟨_,rfl⟩ hv
   rw[this,Vc]at hk;exact gen hk
 .rename_i e;rw[Cd e];exact q.tr f t
def G2{k:Bool}{i:Nat}(e:lC k fr i=some v)(f:aN M B h S fr ai):∃d,ai[i]?.join=some d/\fT k h S v d:=by
  unfold lC at e;split at e
  . rename_i z;obtain⟨p,e1,q⟩:=f.get z;obtain⟨d,rfl,q⟩:=q;cases e;exact⟨d,by rw[e1];rfl,.of q⟩
  all_goals first
    | (rename_i z
       obtain⟨p,e1,q⟩:=f.get z;obtain⟨m,ds,rfl,_,y,q⟩:=q;split at e
       . rename_i hk;cases e;exact⟨.ref m,by rw[e1];rfl,by unfold fT;rw[cG hk];exact⟨m,ds,rfl,y,q⟩⟩
       . cases e)
    |cases e
def O6:Sl->List V->Prop
 |.bor l,l'=>l=l'
 |_,_=>False
def O7:Sl->List V->Prop
 |.ro l,l'=>l=l'
 |_,_=>False
def gQ{i:Nat}{s:Sl}(e:lent fr i=some s)(f:aN M B h S fr ai):∃m ds l o,fr[i]?=some o/\ai[i]?=some (some (.ref m))/\h[m]?=some (oO s ds)/\ao h S l ds/\((O6 s l/\M m/\gP o=true)\/(O7 s l/\¬ M m/\o=some s)):=by
 unfold lent at e;split at e
 .rename_i s' z;obtain⟨p,e1,q⟩:=f.get z;cases s' with
  |val v=>simp[Sl.lend]at e
  |own l=>
   simp[Sl.lend]at e;subst e;obtain⟨m,ds,rfl,y,y1,q⟩:=q;exact⟨m,ds,l,_,z,e1,y1,q,.inl ⟨rfl,y.1,rfl⟩⟩
  |bor l=>
   simp[Sl.lend]at e;subst e;obtain⟨m,ds,rfl,y,y1,q⟩:=q;exact⟨m,ds,l,_,z,e1,y1,q,.inl ⟨rfl,y.1,rfl⟩⟩
  |ro l=>
   simp[Sl.lend]at e;subst e;obtain⟨m,ds,rfl,y,y1,q⟩:=q;exact⟨m,ds,l,_,z,e1,y1,q,.inr ⟨rfl,y,rfl⟩⟩
 .cases e
def tL(h:Hh)(S:Nat->Prop)(ai:Ev.Fr):List (Nat ⊕ V)->List D->Prop
 |[],ds=>ds=[]
 |.inl i :: r,ds=>∃d es,ds=d :: es/\ai[i]?=some (some d)/\tL h S ai r es
 |.inr v :: r,ds=>∃d es,ds=d :: es/\Rep h S v d/\tL h S ai r es
def kr(h:Hh)(S:Nat->Prop):List Sl->List D->List (List V)->Prop
 |[],_,os=>os=[]
 |.val _ :: sl,ds,os=>∃d es,ds=d :: es/\kr h S sl es os
 |.own _ :: _,_,_=>False
 |s :: sl,ds,os=>∃d es l r m cs,ds=d :: es/\os=l :: r/\d=.ref m/\h[m]?=some (oO s cs)/\ao h S l cs/\kr h S sl es r
def nV(P:aB)(P':Ev.aB):Prop:=∀f sl v os,P f sl=some (v,os)->∀(h:Hh) (S B:Nat->Prop) (ds:List D),aN B B h S (sl.map some) (ds.map some)->
 ∃d h' S',P' f ds h=.ok d h'/\Rep h' S' v d/\Tk B h S h' S'/\kr h' S' sl ds os
theorem Wf(f:aN M B h S fr ai):∀{as:List (Nat ⊕ V)}{sl:List Sl}{ds:List D},args fr as=some sl->tL h S ai as ds->sl.length=ds.length/\∀(a:Nat) s d,sl[a]?=some s->ds[a]?=some d->
  (∃i,as[a]?=some (.inl i)/\lent fr i=some s/\ai[i]?=some (some d))\/(∃v,s=.val v/\Rep h S v d)
 |[],sl,ds,e,q=>by
  simp[args]at e;simp only[tL]at q;subst e q;simp
 |.inl i :: r,sl,ds,e,q=>by
  simp only[args,fX,cR]at e;obtain⟨s,e1,l,e2,rfl⟩:=e;obtain⟨d,es,rfl,q1,q⟩:=q;obtain⟨h1,h2⟩:=Wf f e2 q;refine⟨by simp[h1],λa s' d' z1 z2=>?_⟩;cases a with
  |zero=>simp at z1 z2;subst z1 z2;exact .inl ⟨i,by simp,e1,q1⟩
  |succ a=>exact(h2 a s' d' (by simpa using z1) (by simpa using z2)).imp (λ⟨i,k,z⟩=>⟨i,by simpa using k,z⟩) id
 |.inr v :: r,sl,ds,e,q=>by
  simp only[args,cR]at e;obtain⟨l,e2,rfl⟩:=e;obtain⟨d,es,rfl,q1,q⟩:=q;obtain⟨h1,h2⟩:=Wf f e2 q;refine⟨by simp[h1],λa s' d' z1 z2=>?_⟩;cases a with
  |zero=>simp at z1 z2;subst z1 z2;exact .inr ⟨v,rfl,q1⟩
  |succ a=>exact(h2 a s' d' (by simpa using z1) (by simpa using z2)).imp (λ⟨i,k,z⟩=>⟨i,by simpa using k,z⟩) id
theorem gR:∀{as:List (Nat ⊕ V)}{a i:Nat},as[a]?=some (.inl i)->i∈bD as
 |[],_,_,e=>by simp at e
 |.inl j :: r,0,i,e=>by simp at e;subst e;simp[bD]
 |.inr j :: r,0,i,e=>by simp at e
 |.inl j :: r,a+1,i,e=>by have:=gR (as:=r) (a:=a) (i:=i) (by simpa using e);simp[bD,this]
 |.inr j :: r,a+1,i,e=>by have:=gR (as:=r) (a:=a) (i:=i) (by simpa using e);simp[bD,this]
theorem m9:∀{as:List (Nat ⊕ V)}{a b i:Nat},(bD as).Nodup->as[a]?=some (.inl i)->as[b]?=some (.inl i)->a=b
 |[],_,_,_,_,e,_=>by simp at e
 |x :: r,0,0,_,_,_,_=>rfl
 |.inr j :: r,0,b+1,i,n,e,_=>by simp at e
 |.inl j :: r,0,b+1,i,n,e,e2=>by
  simp at e;subst e;simp only[bD,Vk]at n;exact absurd (gR (as:=r) (a:=b) (by simpa using e2)) n.1
 |.inr j :: r,a+1,0,i,n,_,e=>by simp at e
 |.inl j :: r,a+1,0,i,n,e2,e=>by
  simp at e;subst e;simp only[bD,Vk]at n;exact absurd (gR (as:=r) (a:=a) (by simpa using e2)) n.1
 |.inl j :: r,a+1,b+1,i,n,e1,e2=>by
  simp only[bD,Vk]at n;have:=m9 (as:=r) (a:=a) (b:=b) (i:=i) n.2 (by simpa using e1) (by simpa using e2);omega
 |.inr j :: r,a+1,b+1,i,n,e1,e2=>by
  simp only[bD]at n;have:=m9 (as:=r) (a:=a) (b:=b) (i:=i) n (by simpa using e1) (by simpa using e2);omega
def DH{s:Sl}{l:List V}:gP (some (s.with l))=gP (some s):=by cases s<;>rfl
def ym{s:Sl}{l:List V}:yl (some (s.with l))=yl (some s):=by cases s<;>rfl
theorem vM:∀{is:List Nat}{ls:List (List V)}{fr af:Fr},back is ls fr=some af->is.Nodup->af.length=fr.length/\(∀i,i∉is->af[i]?=fr[i]?)/\∀i∈is,∃(k:Nat) (s:Sl) (l:List V),is[k]?=some i/\ls[k]?=some l/\fr[i]?=some (some s)/\af[i]?=some (some (s.with l))
 |[],[],fr,af,e,_=>by simp[back]at e;subst e;simp
 |[],_ :: _,_,_,e,_=>by simp[back]at e
 |_ :: _,[],_,_,e,_=>by simp[back]at e
 |i :: is,l :: ls,fr,af,e,n=>by
  simp only[back]at e;simp only[Vk]at n;split at e
  .rename_i s z;obtain⟨h1,h2,h3⟩:=vM e n.2;refine⟨by simpa using h1,λj hj=>?_,λj hj=>?_⟩
   .simp at hj;rw[h2 j hj.2,gV (λq=>hj.1 q.symm)]
   .rcases List.mem_cons.mp hj with rfl|hj
    .exact⟨0,s,l,by simp,by simp,z,by rw[h2 j n.1,tQ (List.getElem?_eq_some_iff.mp z).1]⟩
    .obtain⟨k,s',l',a,b,c,d⟩:=h3 j hj;have hne:i≠j:=λq=>n.1 (q▸hj);rw[gV hne]at c;exact⟨k+1,s',l',by simpa using a,by simpa using b,c,d⟩
  .cases e
theorem ng(f:aN M B h S fr ai):∀{as:List (Nat ⊕ V)}{sl:List Sl}{ds:List D}{os:List (List V)},args fr as=some sl->tL h S ai as ds->kr h' S' sl ds os->
    ∀(k i:Nat) l,(bD as)[k]?=some i->os[k]?=some l->∃m cs s,lent fr i=some s/\ai[i]?=some (some (.ref m))/\h'[m]?=some (oO s cs)/\ao h' S' l cs
  |[],sl,ds,os,e,q,o=>by simp[bD]
  |.inl i :: r,sl,ds,os,e,q,o=>by
    simp only[args,fX,cR]at e;obtain⟨s,e1,l,e2,rfl⟩:=e;obtain⟨d,es,rfl,q1,q⟩:=q;obtain⟨m,cs,l0,o0,_,z2,z3,z4,z5⟩:=gQ e1 f;have key:∃l1 r1 cs,os=l1 :: r1/\h'[m]?=some (oO s cs)/\ao h' S' l1 cs/\kr h' S' l es r1:=by
      rw[q1]at z2;cases z2;cases s<;>first
        | (obtain⟨d',es',l1,r1,m1,K2,a1,a2,a3,a4,a5,a6⟩:=o
           cases a1;cases a3;exact⟨l1,r1,K2,a2,a4,a5,a6⟩)
        | (rcases z5 with z5|z5<;>exact z5.1.elim)
    obtain⟨l1,r1,K2,rfl,a4,a5,a6⟩:=key;intro k j l' y1 y2;cases k with
    |zero=>simp[bD]at y1 y2;subst y1 y2;exact⟨m,K2,s,e1,z2,a4,a5⟩
    |succ k=>exact ng f e2 q a6 k j l' (by simpa[bD]using y1) (by simpa using y2)
  |.inr v :: r,sl,ds,os,e,q,o=>by
    simp only[args,cR]at e;obtain⟨l,e2,rfl⟩:=e;obtain⟨d,es,rfl,q1,q⟩:=q;obtain⟨d',es',a1,a2⟩:=o;cases a1;intro k j l' y1 y2;exact ng f e2 q a2 k j l' (by simpa[bD]using y1) y2
theorem lE:∀{as:List (Nat ⊕ V)}{sl:List Sl}{i:Nat},args fr as=some sl->i∈bD as->∃s,lent fr i=some s
 |[],_,_,_,q=>by simp[bD]at q
 |.inl j :: r,_,i,z,q=>by
  simp only[args,fX,cR]at z;obtain⟨s,e1,l,e2,rfl⟩:=z;simp[bD]at q;rcases q with rfl|q
  .exact⟨s,e1⟩
  .exact lE e2 q
 |.inr u :: r,_,i,z,q=>by
  simp only[args,cR]at z;obtain⟨l,e2,rfl⟩:=z;exact lE e2 (by simpa[bD]using q)
def LB(fr:Fr)(ai:Ev.Fr)(as:List (Nat ⊕ V)):Nat->Prop:=λm=>∃(i:Nat) (o:Option Sl),i∈bD as/\fr[i]?=some o/\gP o=true/\ai[i]?=some (some (.ref m))
theorem LB.m(f:aN M B h S fr ai){as:List (Nat ⊕ V)}:∀m,LB fr ai as m->M m:=λm ⟨i,o,_,a,b,c⟩=>by
  have s:=f.sl i o _ a c;rcases o with _|s'
  .cases b
  .cases s' with
   |val v=>cases b
   |ro l=>cases b
   |own l=>obtain⟨m',ds',e,y,_⟩:=s;cases e;exact y.1
   |bor l=>obtain⟨m',ds',e,y,_⟩:=s;cases e;exact y.1
def yo(f:aN M B h S fr ai){as:List (Nat ⊕ V)}{sl:List Sl}{ds:List D}(nd:(bD as).Nodup)(z:args fr as=some sl)(q:tL h S ai as ds):aN (LB fr ai as) (LB fr ai as) h S (sl.map some) (ds.map some):=by
 have oV:=LB.m f (as:=as);obtain⟨hl,hg⟩:=Wf f z q;refine⟨λm y=>⟨(f.wS m y).1,λz=>(f.wS m y).2.1 (oV m z),λz=>(f.wS m y).2.1 (oV m z)⟩,λm y=>f.wM m (oV m y),λm y=>f.wM m (oV m y),by simp[hl],λa o p y1 y2=>?_,λa b o o' m y1 y2 y3 y4 y5 y6=>?_⟩
 .simp at y1 y2;obtain⟨s,y1,rfl⟩:=y1;obtain⟨d,y2,rfl⟩:=y2;rcases hg a s d y1 y2 with ⟨i,k1,k2,k3⟩|⟨u,rfl,k⟩
  .obtain⟨m,cs,l0,o0,w1,w2,w3,w4,w5⟩:=gQ k2 f;rw[k3]at w2;cases w2;rcases w5 with ⟨w5,w6,w7⟩|⟨w5,w6,w7⟩
   .cases s<;>first
     | (simp only[O6]at w5;subst w5;exact⟨m,cs,rfl,⟨⟨i,o0,gR k1,w1,w7,k3⟩,⟨i,o0,gR k1,w1,w7,k3⟩⟩,w3,w4⟩)
     |exact w5.elim
   .cases s<;>first
     | (simp only[O7]at w5;subst w5;exact⟨m,cs,rfl,λz=>w6 (oV m z),w3,w4⟩)
     |exact w5.elim
  .exact⟨d,rfl,k⟩
 .simp at y1 y2 y5 y6;obtain⟨s,y1,rfl⟩:=y1;obtain⟨s',y2,rfl⟩:=y2;rcases hg a s _ y1 y5 with ⟨i,k1,k2,k3⟩|⟨u,rfl,k⟩
  .rcases hg b s' _ y2 y6 with ⟨j,k4,k5,k6⟩|⟨u,rfl,k⟩
   .obtain⟨m1,_,l1,o1,w1,w2,_,_,w5⟩:=gQ k2 f;obtain⟨m2,_,l2,o2,x1,x2,_,_,x5⟩:=gQ k5 f;have i1:gP o1=true:=by rcases w5 with ⟨_,_,w7⟩|⟨w5,_,rfl⟩;exact w7;exact y3
    have i2:gP o2=true:=by rcases x5 with ⟨_,_,w7⟩|⟨x5,_,rfl⟩;exact w7;exact y4
    have:=f.inj i j o1 o2 m w1 x1 i1 i2 k3 k6;subst this;exact m9 nd k1 k4
   .cases y4
  .cases y3
def pR{P:aB}{P':Ev.aB}(HP:nV P P'){g:Nat}{as:List (Nat ⊕ V)}{ds:List D}(e:eg P g as fr=.ok v af)(f:aN M B h S fr ai)(q:tL h S ai as ds) :
  ∃d h' S',P' g ds h=.ok d h'/\Rep h' S' v d/\Out M B (bD as) h S fr ai h' S' af:=by
 unfold eg at e;split at e
 case isFalse=>cases e
 rename_i nd;cases z:args fr as with
 |none=>rw[z]at e;cases e
 |some sl=>
 rw[z]at e;simp only at e;cases z2:P g sl with
 |none=>rw[z2]at e;cases e
 |some vo=>
 obtain⟨v',os⟩:=vo;rw[z2]at e;simp only at e;cases z3:back (bD as) os fr with
 |none=>rw[z3]at e;cases e
 |some ak=>
 rw[z3]at e;simp at e;obtain⟨rfl,rfl⟩:=e;obtain⟨hl,hg⟩:=Wf f z q
 let B0:Nat->Prop:=LB fr ai as
 have oV:∀m,B0 m->M m:=LB.m f;have F0:aN B0 B0 h S (sl.map some) (ds.map some):=yo f nd z q;obtain⟨d,h',S',c1,c2,c3,c4⟩:=HP g sl v' os z2 h S B0 ds F0;obtain⟨b1,b2,b3⟩:=vM z3 nd;have hL:=ng f z q c4;have qC:∀m,S m->h'[m]?=h[m]?:=λm y=>c3.keep m (f.wS m y).1 (λz=>(f.wS m y).2.1 (oV m z));refine⟨d,h',S',c1,c2,⟨?_,?_,?_⟩⟩
 .refine⟨λm y=>?_,λm y=>dS (f.wM m y) c3.len,λm y=>dS (f.wB m y) c3.len,by rw[b1,f.len],λi o p y1 y2=>?_,λi j o o' m y1 y2 y3 y4 y5 y6=>?_⟩
  .rcases c3.new m y with y|⟨y1,y2⟩
   .exact⟨dS (f.wS m y).1 c3.len,(f.wS m y).2⟩
   .exact⟨y2,λz=>by have:=f.wM m z;omega,λz=>by have:=f.wB m z;omega⟩
  .by_cases hi:i∈bD as
   .obtain⟨k,s,l,w1,w2,w3,w4⟩:=b3 i hi;rw[w4]at y1;cases y1;obtain⟨m,cs,s',x0,x1,x2,x3⟩:=hL k i l w1 w2;rw[x1]at y2;cases y2;simp only[lent,w3]at x0;have old:=f.sl i _ _ w3 x1;cases s with
    |val u=>
     exfalso;have:∃s,lent fr i=some s:=lE z hi;obtain⟨s,hs⟩:=this;simp[lent,w3,Sl.lend]at hs
    |own u=>cases x0;obtain⟨m',ds',e,y,_⟩:=old;cases e;exact⟨m,cs,rfl,y,x2,x3⟩
    |bor u=>cases x0;obtain⟨m',ds',e,y,_⟩:=old;cases e;exact⟨m,cs,rfl,y,x2,x3⟩
    |ro u=>
     obtain⟨m',ds',e,y,y1,y2⟩:=old;cases e;refine⟨m,ds',rfl,y,?_,y2.mono qC c3.sub⟩;rw[c3.keep m (List.getElem?_eq_some_iff.mp y1).1 (λz=>y (oV m z))];exact y1
   .rw[b2 i hi]at y1;have old:=f.sl i o p y1 y2;rcases o with _|s
    .exact old
    .cases s with
     |val u=>obtain⟨d,e,q⟩:=old;exact⟨d,e,q.mono qC c3.sub⟩
     |own u=>
      obtain⟨m,ds',rfl,w1,w2,w3⟩:=old;refine⟨m,ds',rfl,w1,?_,w3.mono qC c3.sub⟩;rw[c3.keep m (f.wM m w1.1) (λ⟨j,o2,x1,x2,x3,x4⟩=>hi (f.inj i j _ o2 m y1 x2 rfl x3 y2 x4▸x1))];exact w2
     |bor u=>
      obtain⟨m,ds',rfl,w1,w2,w3⟩:=old;refine⟨m,ds',rfl,w1,?_,w3.mono qC c3.sub⟩;rw[c3.keep m (f.wM m w1.1) (λ⟨j,o2,x1,x2,x3,x4⟩=>hi (f.inj i j _ o2 m y1 x2 rfl x3 y2 x4▸x1))];exact w2
     |ro u=>
      obtain⟨m,ds',rfl,w1,w2,w3⟩:=old;refine⟨m,ds',rfl,w1,?_,w3.mono qC c3.sub⟩;rw[c3.keep m (List.getElem?_eq_some_iff.mp w2).1 (λz=>w1 (oV m z))];exact w2
  .have kind:∀(i:Nat) o,ak[i]?=some o->gP o=true->∃o0,fr[i]?=some o0/\gP o0=true:=λi o w1 w2=>by
    by_cases hi:i∈bD as
    .obtain⟨k,s,l,x1,x2,x3,x4⟩:=b3 i hi;rw[x4]at w1;cases w1;exact⟨_,x3,by rw[DH]at w2;exact w2⟩
    .rw[b2 i hi]at w1;exact⟨o,w1,w2⟩
   obtain⟨oi,k1,k2⟩:=kind i o y1 y3;obtain⟨oj,k3,k4⟩:=kind j o' y2 y4;exact f.inj i j oi oj m k1 k3 k2 k4 y5 y6
 .exact c3.weak λm z=>⟨oV m z,by obtain⟨i,o,a1,a2,a3,a4⟩:=z;exact⟨i,a1,a4⟩⟩
 .intro i;unfold locked;by_cases hi:i∈bD as
  .obtain⟨k,s,l,x1,x2,x3,x4⟩:=b3 i hi;rw[x3,x4];exact ym
  .rw[b2 i hi]
end
end Pv
namespace Pv
open Ev (D O Hh)
end Pv
namespace Pv
open Ev (D O Hh bu aV TY BI ME T E Es Eo It S Ss Fn big deep b2i rep bS dH bC aJ cut aM cY slots aP)
section
variable{M B:Nat->Prop}{h h' h1 h2:Hh}{S S' S1 S2:Nat->Prop}{fr af ak:Fr}{ai:Ev.Fr}{c:List Nat}{v:V}{d:D}
def kM{n m:Nat}{o:O}(q:n≠m):(h.set n o)[m]?=h[m]?:=gV q
def aN.mM(f:aN M B h S fr ai){i n:Nat}{o:Option Sl}(e:fr[i]?=some o)(hM:gP o=true)(e':ai[i]?=some (some (.ref n))):M n:=by
 have s:=f.sl i o _ e e';rcases o with _|s'
 .cases hM
 .cases s' with
  |val v=>cases hM
  |ro l=>cases hM
  |own l=>obtain⟨m',ds',e,y,_⟩:=s;cases e;exact y.1
  |bor l=>obtain⟨m',ds',e,y,_⟩:=s;cases e;exact y.1
def aN.write(f:aN M B h S fr ai){i n:Nat}{s:Sl}{l':List V}{ds':List D}(e:fr[i]?=some (some s))(hM:gP (some s)=true)(e':ai[i]?=some (some (.ref n)))(q:ao h S l' ds') :
  aN M B (h.set n (oO s ds')) S (fr.set i (some (s.with l'))) ai:=by
 have mn:=f.mM e hM e';have kp:∀m,S m->(h.set n (oO s ds'))[m]?=h[m]?:=λm z=>kM λy=>(f.wS m z).2.1 (y▸mn);have il:=(List.getElem?_eq_some_iff.mp e).1;refine⟨λm y=>by simpa using f.wS m y,λm y=>by simpa using f.wM m y,λm y=>by simpa using f.wB m y,by simp[f.len],λj o p y1 y2=>?_,λj k o o' m y1 y2 y3 y4 y5 y6=>?_⟩
 .by_cases hj:i=j
  .subst hj;rw[tQ il]at y1;cases y1;rw[e']at y2;cases y2;have old:=f.sl i _ _ e e';have hn:(h.set n (oO s ds'))[n]?=some (oO s ds'):=tQ (f.wM n mn);cases s with
   |val v=>cases hM
   |ro l=>cases hM
   |own l=>obtain⟨m',_,e,y,_⟩:=old;cases e;exact⟨n,ds',rfl,y,hn,q.mono kp λ_ z=>z⟩
   |bor l=>obtain⟨m',_,e,y,_⟩:=old;cases e;exact⟨n,ds',rfl,y,hn,q.mono kp λ_ z=>z⟩
  .rw[gV hj]at y1;have old:=f.sl j o p y1 y2;rcases o with _|s'
   .exact old
   .cases s' with
    |val u=>obtain⟨d,e,q⟩:=old;exact⟨d,e,q.mono kp λ_ z=>z⟩
    |own u=>
     obtain⟨m,es,rfl,w1,w2,w3⟩:=old;refine⟨m,es,rfl,w1,?_,w3.mono kp λ_ z=>z⟩;rw[kM λ(z:n=m)=>hj (f.inj i j _ _ n e y1 hM rfl e' (by rw[z];exact y2))];exact w2
    |bor u=>
     obtain⟨m,es,rfl,w1,w2,w3⟩:=old;refine⟨m,es,rfl,w1,?_,w3.mono kp λ_ z=>z⟩;rw[kM λ(z:n=m)=>hj (f.inj i j _ _ n e y1 hM rfl e' (by rw[z];exact y2))];exact w2
    |ro u=>
     obtain⟨m,es,rfl,w1,w2,w3⟩:=old;refine⟨m,es,rfl,w1,?_,w3.mono kp λ_ z=>z⟩;rw[kM λ(z:n=m)=>w1 (z▸mn)];exact w2
 .have kind:∀(j:Nat) o,(fr.set i (some (s.with l')))[j]?=some o->gP o=true->∃o0,fr[j]?=some o0/\gP o0=true:=λj o w1 w2=>by
   by_cases hj:i=j
   .subst hj;exact⟨_,e,hM⟩
   .rw[gV hj]at w1;exact⟨o,w1,w2⟩
  obtain⟨oi,k1,k2⟩:=kind j o y1 y3;obtain⟨oj,k3,k4⟩:=kind k o' y2 y4;exact f.inj j k oi oj m k1 k3 k2 k4 y5 y6
def K3{m:ME}{l l':List V}{xs:List V}{n:Nat}{ds es:List D}(z:m5 m l xs=some (v,l'))(e:h[n]?=some (.lst ds))(q:ao h S l ds)(p:fK h S xs es)(p':yg m=false->ao h S xs es)(hS:∀k,S k->k≠n) :
  ∃r ds',Ev.dZ m (.ref n) es h=.ok r (h.set n (.lst ds'))/\Rep h S v r/\ao h S l' ds':=by
 unfold m5 at z;split at z
 .have p':=p' rfl;split at z
  .rename_i k;cases z;simp only[ao]at p';obtain⟨d,_,rfl,p1,rfl⟩:=p';refine⟨_,_,?_,rfl,q.append (.cons p1 .nil)⟩
   delta Ev.dZ;dsimp only;simp only[e]
   rw[cG (by rw[<-q.length];exact k)]
  .cases z
 .split at z
  .rename_i k;cases z;obtain⟨d,rfl,p1⟩:=p.one;simp only[aR]at p1;obtain⟨n2,cs,rfl,e2,p1⟩:=p1;refine⟨_,_,?_,rfl,q.append p1⟩
   delta Ev.dZ;dsimp only;simp only[e,e2]
   rw[cG (by rw[<-q.length,<-p1.length];exact k)]
  .cases z
 .simp only[fK]at p;subst p;split at z
  .rename_i x y;cases z;obtain⟨d,k1,k2⟩:=q.get y;refine⟨d,_,?_,k2,q.dropLast⟩
   delta Ev.dZ;dsimp only;simp only[e]
   rw[<-q.length,k1]
  .cases z
 .cases z
theorem aN.set(f:aN M B h S fr ai){i:Nat}(e:put fr i (.val v)=some af)(q:Rep h S v d):aN M B h S af (ai.set i (some d))/\(∀j,locked af j=locked fr j)/\∀j,locked fr j=true->(ai.set i (some d))[j]?=ai[j]?:=by
 have hx:af=fr.set i (some (.val v))/\locked fr i=false:=by
  unfold put at e;unfold locked;split at e
  .cases e
  .cases e
  .rename_i k1 k2;cases e;refine⟨rfl,?_⟩;cases z:fr[i]? with
   |none=>rfl
   |some o=>
    rcases o with _|s
    .rfl
    .cases s with
     |bor l=>exact absurd z (k1 l)
     |ro l=>exact absurd z (k2 l)
     |_=>rfl
 obtain⟨rfl,hk⟩:=hx;have lk:∀j,locked (fr.set i (some (.val v))) j=locked fr j:=λj=>by
  by_cases hj:i=j
  .subst hj;rw[hk];unfold locked;by_cases hl:i<fr.length
   .rw[tQ hl];rfl
   .rw[Um (by simpa using hl)]
  .unfold locked;rw[gV hj]
 refine⟨⟨f.wS,f.wM,f.wB,by simp[f.len],λj o p y1 y2=>?_,λj k o o' m y1 y2 y3 y4 y5 y6=>?_⟩,lk,λj hj=>?_⟩
 .by_cases hj:i=j
  .subst hj;have hl:i<fr.length:=by have:=(List.getElem?_eq_some_iff.mp y1).1;simpa using this
   rw[tQ hl]at y1;rw[tQ (by rw[<-f.len];exact hl)]at y2;cases y1;cases y2;exact⟨d,rfl,q⟩
  .rw[gV hj]at y1 y2;exact f.sl j o p y1 y2
 .have hn:∀(j:Nat) o,(fr.set i (some (.val v)))[j]?=some o->gP o=true->i≠j:=λj o w1 w2 w3=>by
   subst w3;have hl:i<fr.length:=by have:=(List.getElem?_eq_some_iff.mp w1).1;simpa using this
   rw[tQ hl]at w1;cases w1;cases w2
  have n1:=hn j o y1 y3;have n2:=hn k o' y2 y4;rw[gV n1]at y1 y5;rw[gV n2]at y2 y6;exact f.inj j k o o' m y1 y2 y3 y4 y5 y6
 .have:i≠j:=λz=>by subst z;rw[hk]at hj;cases hj
  rw[gV this]
theorem aN.dj:∀{is:List Nat}{vs:List V}{ds:List D}{fr af:Fr}{ai:Ev.Fr},aN M B h S fr ai->dj is vs fr=some af->ao h S vs ds->∃aX,Ev.dj is ds ai=some aX/\aN M B h S af aX/\(∀j,locked af j=locked fr j)/\∀j,locked fr j=true->aX[j]?=ai[j]?
 |[],[],ds,fr,af,ai,f,e,q=>by
  simp[Pv.dj]at e;simp only[ao]at q;subst e q;exact⟨ai,rfl,f,λ_=>rfl,λ_ _=>rfl⟩
 |[],_ :: _,_,_,_,_,_,e,_=>by simp[Pv.dj]at e
 |_ :: _,[],_,_,_,_,_,e,_=>by simp[Pv.dj]at e
 |i :: is,v :: vs,ds,fr,af,ai,f,e,q=>by
  simp only[Pv.dj,fX]at e;obtain⟨ak,e1,e2⟩:=e;simp only[ao]at q;obtain⟨d,es,rfl,q1,q2⟩:=q;obtain⟨f2,l2,r2⟩:=f.set e1 q1;obtain⟨aX,a,f3,l3,r3⟩:=f2.dj e2 q2;exact⟨aX,a,f3,λj=>(l3 j).trans (l2 j),λj hj=>(r3 j (by rw[l2 j];exact hj)).trans (r2 j hj)⟩
theorem aN.aY(f:aN M B h S fr ai){t:T}(e:aY t v fr=some af)(q:Rep h S v d):∃aX,Ev.aY t d ai=some aX/\aN M B h S af aX/\(∀j,locked af j=locked fr j)/\∀j,locked fr j=true->aX[j]?=ai[j]?:=by
 cases t with
 |one i=>exact⟨_,rfl,f.set e q⟩
 |many l=>
  cases v<;>simp only[Pv.aY,reduceCtorEq]at e
  simp only[Rep]at q;obtain⟨ds,rfl,q⟩:=q;exact f.dj e q
theorem aN.undef(f:aN M B h S fr ai){t:T}(e:undef t fr=true):Ev.undef t ai=true:=by
 unfold Pv.undef at e;unfold Ev.undef;rw[Uw]at e ⊢;intro i hi;have:=e i hi;cases z:fr[i]? with
 |none=>
  have:ai[i]?=none:=by
   rw[VI]at z ⊢;rw[<-f.len];exact z
  rw[this];rfl
 |some o=>
  obtain⟨p,e1,q⟩:=f.get z;rw[z]at this;rcases o with _|s
  .simp only[kF]at q;subst q;rw[e1];rfl
  .simp at this
def yp{i:Nat}{o:Option Sl}(e:(jX fr)[i]?=some o):∃o0,fr[i]?=some o0/\o=o0.map Sl.read:=by
 unfold jX at e;rw[SE]at e;cases z:fr[i]? with
 |none=>rw[z]at e;cases e
 |some o0=>rw[z]at e;cases e;exact⟨o0,rfl,rfl⟩
theorem aN.ro(f:aN M B h S fr ai):aN (λ_=>False) B h S (jX fr) ai:=by
 refine⟨λm y=>⟨(f.wS m y).1,id,(f.wS m y).2.2⟩,λm y=>y.elim,f.wB,by simp[jX,f.len],λi o p y1 y2=>?_,λi j o o' m y1 y2 y3 y4 y5 y6=>?_⟩
 .obtain⟨o0,z,rfl⟩:=yp y1;have q:=f.sl i o0 p z y2;rcases o0 with _|s
  .exact q
  .cases s with
   |val v=>exact q
   |own l=>obtain⟨m,ds,a,b,c,d⟩:=q;exact⟨m,ds,a,id,c,d⟩
   |bor l=>obtain⟨m,ds,a,b,c,d⟩:=q;exact⟨m,ds,a,id,c,d⟩
   |ro l=>obtain⟨m,ds,a,b,c,d⟩:=q;exact⟨m,ds,a,id,c,d⟩
 .obtain⟨o0,z,rfl⟩:=yp y1;rcases o0 with _|s
  .cases y3
  .cases s<;>cases y3
theorem gF:∀{ck:List (Nat×List D)},(∀q∈ck,aP h q.1=some q.2)->Ev.stays h ck=true
 |[],_=>rfl
 | (n,ds) :: r,q=>by
  simp only[Ev.stays,fW];refine⟨?_,gF λx hx=>q x (Mi _ hx)⟩;rw[q (n,ds) (T7 ..)];exact Ev.zw _
def iP{n:Nat}{ds:List D}(q:aP h n=some ds)(k:h'[n]?=h[n]?):aP h' n=some ds:=by
 unfold aP at q ⊢;rw[k];exact q
def jP{n:Nat}{ds:List D}(q:aP h n=some ds):n<h.length:=by
 unfold aP at q;cases z:h[n]? with
 |none=>rw[z]at q;cases q
 |some o=>exact(List.getElem?_eq_some_iff.mp z).1
def zT(h:Hh)(S:Nat->Prop):Option V->Option D->Prop
 |none,o=>o=none
 |some v,o=>∃d,o=some d/\Rep h S v d
theorem yr{f:V->Option (Option V)}{f':D->Hh->Ev.R (Option D)}{ck:List (Nat×List D)}{h0:Hh}{S0:Nat->Prop}(w0:∀m,S0 m->m<h0.length)(st:∀q∈ck,aP h0 q.1=some q.2)
  (turn:∀v o d h S,Al h0 S0 h S->f v=some o->Rep h S v d->∃o' h' S',f' d h=.ok o' h'/\zT h' S' o o'/\Al h S h' S') :
  ∀{vs:List V} {ds:List D} {rs:List V} {h:Hh} {S:Nat->Prop},Al h0 S0 h S->bw f vs=some rs->ao h S vs ds->∃rs' h' S',Ev.bw f' ck ds h=.ok rs' h'/\ao h' S' rs rs'/\Al h S h' S'
 |[],ds,rs,h,S,a,e,q=>by
  simp[bw]at e;simp only[ao]at q;subst e q;refine⟨[],h,S,?_,.nil,.refl⟩;simp only[Ev.bw];rw[cG (gF λx hx=>iP (st x hx) (a.keep _ (jP (st x hx))))]
 |v :: vs,ds,rs,h,S,a,e,q=>by
  simp only[bw,fX]at e;obtain⟨o,e1,r,e2,e3⟩:=e;cases e3;simp only[ao]at q;obtain⟨d,es,rfl,q1,q2⟩:=q;have w:∀m,S m->m<h.length:=λm z=>by
   rcases a.new m z with z|z
   .exact dS (w0 m z) a.len
   .exact z.2
  obtain⟨o',h1,S1,t1,t2,t3⟩:=turn v o d h S a e1 q1;obtain⟨rs',h2,S2,u1,u2,u3⟩:=yr w0 st turn (a.trans t3) e2 (q2.mono (λm z=>t3.keep m (w m z)) t3.sub);have w1:∀m,S1 m->m<h1.length:=λm z=>by
   rcases t3.new m z with z|z
   .exact dS (w m z) t3.len
   .exact z.2
  refine⟨o'.toList++rs',h2,S2,?_,?_,t3.trans u3⟩
  .simp only[Ev.bw];rw[cG (gF λx hx=>iP (st x hx) (a.keep _ (jP (st x hx)))),t1,Ev.aj,u1,Ev.aj]
  .cases o with
   |none=>simp only[zT]at t2;subst t2;simpa using u2
   |some v'=>
    simp only[zT]at t2;obtain⟨d',rfl,t2⟩:=t2;exact .cons (t2.mono (λm z=>u3.keep m (w1 m z)) u3.sub) u2
end
def ji(k:Bool)(h:Hh)(S:Nat->Prop)(v:List V)(d:List D):Prop:=if k=true then fK h S v d else ao h S v d
inductive K4(P':Ev.aB)(e:E)(k:Bool)(v:V)(M B:Nat->Prop)(h:Hh)(S:Nat->Prop)(fr:Fr)(ai:Ev.Fr)(af:Fr):Prop
 |mk (d:D) (h':Hh) (S':Nat->Prop) (c0:Ev.ev P' e ai h=.ok d h') (c1:fT k h' S' v d) (c2:Out M B (bf e) h S fr ai h' S' af):K4 P' e k v M B h S fr ai af
inductive K5(P':Ev.aB)(e:E)(b:Bool)(M B:Nat->Prop)(h:Hh)(S:Nat->Prop)(fr:Fr)(ai:Ev.Fr)(af:Fr):Prop
 |mk (h':Hh) (S':Nat->Prop) (c0:Ev.aC P' e ai h=.ok b h') (c1:Out M B (bf e) h S fr ai h' S' af):K5 P' e b M B h S fr ai af
inductive K6(P':Ev.aB)(e:Es)(k:Bool)(v:List V)(M B:Nat->Prop)(h:Hh)(S:Nat->Prop)(fr:Fr)(ai:Ev.Fr)(af:Fr):Prop
 |mk (d:List D) (h':Hh) (S':Nat->Prop) (c0:Ev.bH P' e ai h=.ok d h') (c1:ji k h' S' v d) (c2:Out M B (eF e) h S fr ai h' S' af):K6 P' e k v M B h S fr ai af
inductive K7(P':Ev.aB)(e:Es)(v:List (Nat ⊕ V))(M B:Nat->Prop)(h:Hh)(S:Nat->Prop)(fr:Fr)(ai:Ev.Fr)(af:Fr):Prop
 |mk (d:List D) (h':Hh) (S':Nat->Prop) (c0:Ev.bH P' e ai h=.ok d h') (c1:tL h' S' ai v d) (c2:Out M B (eF e) h S fr ai h' S' af):K7 P' e v M B h S fr ai af
inductive K8(P':Ev.aB)(e:Eo)(v:Option Int)(M B:Nat->Prop)(h:Hh)(S:Nat->Prop)(fr:Fr)(ai:Ev.Fr)(af:Fr):Prop
 |mk (h':Hh) (S':Nat->Prop) (c0:Ev.fF P' e ai h=.ok v h') (c1:Out M B (kq e) h S fr ai h' S' af):K8 P' e v M B h S fr ai af
inductive K9(P':Ev.aB)(e:Eo)(v:Bool)(M B:Nat->Prop)(h:Hh)(S:Nat->Prop)(fr:Fr)(ai:Ev.Fr)(af:Fr):Prop
 |mk (h':Hh) (S':Nat->Prop) (c0:Ev.eN P' e ai h=.ok v h') (c1:Out M B (kq e) h S fr ai h' S' af):K9 P' e v M B h S fr ai af
inductive La(P':Ev.aB)(e:It)(k:Bool)(v:List V)(M B:Nat->Prop)(h:Hh)(S:Nat->Prop)(fr:Fr)(ai:Ev.Fr)(af:Fr):Prop
 |mk (s:Ev.Src) (h':Hh) (S':Nat->Prop) (c0:Ev.bQ P' e ai h=.ok s h') (c1:ao h' S' v s.1) (c2:∀q∈s.2,aP h' q.1=some q.2/\(k=false->¬ M q.1)) (c3:Out M B (DE e) h S fr ai h' S' af):La P' e k v M B h S fr ai af
section
variable(P:aB)(P':Ev.aB)
def aW(e:E):Prop:=∀{k:Bool} {fr:Fr} {v:V} {af:Fr} {M B:Nat->Prop} {h:Hh} {S:Nat->Prop} {ai:Ev.Fr},ev P k e fr=.ok v af->aN M B h S fr ai->K4 P' e k v M B h S fr ai af
def gz(e:E):Prop:=∀{fr:Fr} {b:Bool} {af:Fr} {M B:Nat->Prop} {h:Hh} {S:Nat->Prop} {ai:Ev.Fr},aC P e fr=.ok b af->aN M B h S fr ai->K5 P' e b M B h S fr ai af
def jj(e:Es):Prop:=∀{k:Bool} {fr:Fr} {v:List V} {af:Fr} {M B:Nat->Prop} {h:Hh} {S:Nat->Prop} {ai:Ev.Fr},bH P k e fr=.ok v af->aN M B h S fr ai->K6 P' e k v M B h S fr ai af
def qD(e:Es):Prop:=∀{fr:Fr} {v:List (Nat ⊕ V)} {af:Fr} {M B:Nat->Prop} {h:Hh} {S:Nat->Prop} {ai:Ev.Fr},dN P e fr=.ok v af->aN M B h S fr ai->K7 P' e v M B h S fr ai af
def qF(e:Eo):Prop:=∀{fr:Fr} {v:Option Int} {af:Fr} {M B:Nat->Prop} {h:Hh} {S:Nat->Prop} {ai:Ev.Fr},fF P e fr=.ok v af->aN M B h S fr ai->K8 P' e v M B h S fr ai af
def ua(e:Eo):Prop:=∀{fr:Fr} {v:Bool} {af:Fr} {M B:Nat->Prop} {h:Hh} {S:Nat->Prop} {ai:Ev.Fr},eN P e fr=.ok v af->aN M B h S fr ai->K9 P' e v M B h S fr ai af
def lG(e:It):Prop:=∀{k:Bool} {fr:Fr} {v:List V} {af:Fr} {M B:Nat->Prop} {h:Hh} {S:Nat->Prop} {ai:Ev.Fr},bQ P k e fr=.ok v af->aN M B h S fr ai->La P' e k v M B h S fr ai af
end
section
variable{P:aB}{P':Ev.aB}{a b e tt:E}{es:Es}{lo hi:Eo}{it:It}
def Lb{d:D}:aW P P' (.c d):=λz f=>by
 simp only[ev]at z;replace z:=aD z;obtain⟨z,y0⟩:=z;subst y0;exact⟨d,_,_,by simp only[Ev.ev],.of (m8 z),.refl f⟩
def Lc{i:Nat}:aW P P' (.v i):=λz f=>by
 simp only[ev]at z;replace z:=aD z;obtain⟨z,y0⟩:=z;subst y0;obtain⟨d,e1,q⟩:=G2 z f;exact⟨d,_,_,by simp only[Ev.ev,e1,Ev.cg],q,.refl f⟩
def ji.n{h:Hh}{S:Nat->Prop}{v:List V}{d:List D}(q:ji false h S v d):ao h S v d:=by simpa[ji]using q
theorem ao.tl{h:Hh}{S:Nat->Prop}:∀{v:List V}{d:List D},ao h S v d->fK h S v d
 |[],_,q=>q
 |_ :: _,_,⟨d,es,a,b,q⟩=>⟨d,es,a,b.top,q.tl⟩
def ji.t{k:Bool}{h:Hh}{S:Nat->Prop}{v:List V}{d:List D}(q:ji k h S v d):fK h S v d:=by
 unfold ji at q;split at q
 .exact q
 .exact q.tl
def BO(is:jj P P' es):aW P P' (.tup es):=λz f=>by
 simp only[ev]at z;obtain⟨ds,ak,z1,z2⟩:=ah z;replace z2:=aD z2;obtain⟨z2,y0⟩:=z2;subst y0;obtain⟨ds',h',S',e1,q,o⟩:=is z1 f;unfold iK at z2;split at z2
 .rename_i hk;cases z2;refine⟨.tup ds',h',S',?_,.of ⟨ds',rfl,q.n⟩,o⟩;simp only[Ev.ev,e1,Ev.aj];rw[cG (by rw[<-q.n.length];exact hk)]
 .cases z2
def BP(is:jj P P' es):aW P P' (.lst es):=λz f=>by
 simp only[ev]at z;obtain⟨ds,ak,z1,z2⟩:=ah z;replace z2:=aD z2;obtain⟨z2,y0⟩:=z2;subst y0;obtain⟨ds',h',S',e1,q,o⟩:=is z1 f;obtain⟨r,h2,S2,a1,a2,a3⟩:=iz o.f.w z2 q.n;exact⟨r,h2,S2,by simp only[Ev.ev,e1,Ev.aj,a1],.of a2,o.al a3⟩
def nW{a:E}{ai:Ev.Fr}{h h1:Hh}{d:D}(e:Ev.ev P' a ai h=.ok d h1):∀i,a=.v i->ai[i]?.join=some d:=λi hi=>by
 subst hi;simp only[Ev.ev]at e;exact(Ev.aD e).1
def two(ia:aW P P' a)(ib:aW P P' b){α:Type}{X:V->V->Fr->R α}{u:α}{fr bB:Fr}{M B:Nat->Prop}{h:Hh}{S:Nat->Prop}{ai:Ev.Fr}
  (z:((ev P (kf a (bf b)) a fr).bind λx af=>(ev P true b af).bind λy ak=>X x y ak)=.ok u bB) (f:aN M B h S fr ai) :
  ∃x y d e h2 S2 ak,(∀{β:Type} (g:D->D->Hh->Ev.R β),((Ev.ev P' a ai h).bind λx h1=>(Ev.ev P' b ai h1).bind λy h2=>g x y h2)=g d e h2)/\X x y ak=.ok u bB/\aR h2 S2 x d/\aR h2 S2 y e/\Out M B (bf a++bf b) h S fr ai h2 S2 ak:=by
 replace z:=ah z;obtain⟨x,af,z1,z⟩:=z;replace z:=ah z;obtain⟨y,ak,z2,z⟩:=z;obtain⟨d,h1,S1,e1,q1,o1⟩:=ia z1 f;obtain⟨e,h2,S2,e2,q2,o2⟩:=ib z2 o1.f;exact⟨x,y,d,e,h2,S2,ak,λg=>by rw[e1,Ev.aj,e2,Ev.aj],z,(q1.tr o1.f o2.tr id (nW e1)).t,q2.t,o1.trans o2⟩
def BQ{o:bu}(ia:aW P P' a)(ib:aW P P' b):aW P P' (.bin o a b):=λz f=>by
 simp only[ev]at z;replace z:=two ia ib z f;obtain⟨x,y,d,e,h2,S2,ak,k,z,q1,q2,ou⟩:=z;replace z:=aD z;obtain⟨z,y0⟩:=z;subst y0;obtain⟨r,h3,S3,a1,a2,a3⟩:=BN ou.f.w z q1 q2;exact⟨r,h3,S3,by simp only[Ev.ev];rw[k];exact a1,.of a2,ou.al a3⟩
def yt{h:Hh}{S:Nat->Prop}{x y v:V}{d e:D}(z:zQ x y=some v)(p:aR h S x d)(q:aR h S y e):∃la lb n ds m es,x=.lst la/\y=.lst lb/\cV (la++lb)=some v/\d=.ref n/\e=.ref m/\h[n]?=some (.lst ds)/\h[m]?=some (.lst es)/\ao h S la ds/\ao h S lb es:=by
 cases x<;>first|exact nn z | (cases y<;>first|exact nn z|skip)
 delta zQ at z;dsimp only at z;simp only[aR,Rep]at p q
 obtain⟨n,ds,rfl,a,p⟩:=p;obtain⟨m,es,rfl,b,q⟩:=q;exact⟨_,_,n,ds,m,es,rfl,rfl,z,rfl,rfl,a,b,p,q⟩
def yu(ia:aW P P' a)(ib:aW P P' b):aW P P' (.fh a b):=λz f=>by
 simp only[ev]at z;replace z:=two ia ib z f;obtain⟨x,y,d,e,h2,S2,ak,k,z,q1,q2,ou⟩:=z;replace z:=aD z;obtain⟨z,y0⟩:=z;subst y0;obtain⟨la,lb,n,ds,m,es,rfl,rfl,zz,rfl,rfl,_⟩:=yt z q1 q2;obtain⟨r,h3,S3,a1,a2,a3⟩:=BN (o:=.add) (x:=.lst la) (y:=.lst lb) ou.f.w zz q1 q2;exact⟨r,h3,S3,by simp only[Ev.ev];rw[k];exact a1,.of a2,ou.al a3⟩
def BR{o:aV}(ia:aW P P' a)(ib:aW P P' b):aW P P' (.cmp o a b):=λz f=>by
 simp only[ev]at z;replace z:=two ia ib z f;obtain⟨x,y,d,e,h2,S2,ak,k,z,q1,q2,ou⟩:=z;replace z:=aD z;obtain⟨z,y0⟩:=z;subst y0;simp only[cR]at z;obtain⟨b,z,rfl⟩:=z;exact⟨.bl b,h2,S2,by simp only[Ev.ev];rw[k,vJ z q1.u q2.u];rfl,.of rfl,ou⟩
def ER(ia:aW P P' a)(ib:aW P P' b):aW P P' (.ix a b):=λz f=>by
 simp only[ev]at z;replace z:=two ia ib z f;obtain⟨x,y,d,e,h2,S2,ak,k,z,q1,q2,ou⟩:=z;replace z:=aD z;obtain⟨z,y0⟩:=z;subst y0;obtain⟨r,a1,a2⟩:=KS z q1 q2;exact⟨r,h2,S2,by simp only[Ev.ev];rw[k,a1];rfl,.of a2,ou⟩
def ES{o p:aV}{c:E}(ia:aW P P' a)(ib:aW P P' b)(ic:aW P P' c):aW P P' (.ch o p a b c):=λz f=>by
 simp only[ev]at z;replace z:=ah z;obtain⟨x,af,z1,z⟩:=z;replace z:=ah z;obtain⟨y,ak,z2,z⟩:=z;replace z:=ah z;obtain⟨k,bz,z3,z⟩:=z;replace z3:=aD z3;obtain⟨z3,y0⟩:=z3;subst y0;obtain⟨d,h1,S1,e1,q1,o1⟩:=ia z1 f;obtain⟨e,h2,S2,e2,q2,o2⟩:=ib z2 o1.f;have yv:=(q1.tr o1.f o2.tr id (nW e1)).t;have c1:=vJ z3 yv.u q2.t.u;cases k with
 |false=>
  simp only[Mb,Uh]at z;cases z;refine⟨.bl false,h2,S2,by simp only[Ev.ev,e1,Ev.aj,e2,c1,Ev.cg];rfl,.of rfl,?_⟩;exact(o1.trans o2).weak (by simp only[bf];intro i hi;simp at hi ⊢;rcases hi with hi|hi<;>simp[hi])
 |true=>
  simp only[QO]at z;replace z:=ah z;obtain⟨y2,gk,z4,z⟩:=z;replace z:=aD z;obtain⟨z,y0⟩:=z;subst y0;obtain⟨g,h3,S3,e3,q3,o3⟩:=ic z4 o2.f;simp only[cR]at z;obtain⟨b',z,rfl⟩:=z;have c2:=vJ z (q2.tr o2.f o3.tr id (nW e2)).t.u q3.t.u;exact⟨.bl b',h3,S3,by simp only[Ev.ev,e1,Ev.aj,e2,c1,Ev.cg,QO,e3,c2];rfl,.of rfl,o1.trans (o2.trans o3)⟩
def NR(ia:aW P P' a):aW P P' (.nt a):=λz f=>by
 simp only[ev]at z;replace z:=ah z;obtain⟨x,af,z1,z⟩:=z;obtain⟨d,h1,S1,e1,q1,o1⟩:=ia z1 f;cases x<;>simp only[reduceCtorEq]at z
 cases z;have q:=q1.t;simp only[aR,Rep]at q;subst q;exact⟨_,h1,S1,by simp only[Ev.ev,e1,Ev.aj],.of rfl,o1⟩
def BS(ia:aW P P' a):aW P P' (.neg a):=λz f=>by
 simp only[ev]at z;replace z:=ah z;obtain⟨x,af,z1,z⟩:=z;obtain⟨d,h1,S1,e1,q1,o1⟩:=ia z1 f;cases x<;>simp only[reduceCtorEq]at z
 cases z;have q:=q1.t;simp only[aR,Rep]at q;subst q;exact⟨_,h1,S1,by simp only[Ev.ev,e1,Ev.aj],.of rfl,o1⟩
def NS(ia:aW P P' a)(ib:aW P P' b):aW P P' (.an a b):=λz f=>by
 simp only[ev]at z;replace z:=ah z;obtain⟨x,af,z1,z⟩:=z;obtain⟨d,h1,S1,e1,q1,o1⟩:=ia z1 f;cases x<;>try (cases z;done)
 rename_i k;have q:=q1.t;simp only[aR,Rep]at q;subst q;cases k with
 |true=>
  try simp only at z
  obtain⟨d,h2,S2,e2,q2,o2⟩:=ib z o1.f;exact⟨d,h2,S2,by simp only[Ev.ev,e1,Ev.aj,e2],q2,o1.trans o2⟩
 |false=>
  try simp only at z
  cases z;exact⟨_,h1,S1,by simp only[Ev.ev,e1,Ev.aj],.of rfl,o1.weak (by simp only[bf];intro i hi;simp[hi])⟩
def Ld(ia:aW P P' a)(ib:aW P P' b):aW P P' (.orr a b):=λz f=>by
 simp only[ev]at z;replace z:=ah z;obtain⟨x,af,z1,z⟩:=z;obtain⟨d,h1,S1,e1,q1,o1⟩:=ia z1 f;cases x<;>try (cases z;done)
 rename_i k;have q:=q1.t;simp only[aR,Rep]at q;subst q;cases k with
 |false=>
  try simp only at z
  obtain⟨d,h2,S2,e2,q2,o2⟩:=ib z o1.f;exact⟨d,h2,S2,by simp only[Ev.ev,e1,Ev.aj,e2],q2,o1.trans o2⟩
 |true=>
  try simp only at z
  cases z;exact⟨_,h1,S1,by simp only[Ev.ev,e1,Ev.aj],.of rfl,o1.weak (by simp only[bf];intro i hi;simp[hi])⟩
def BU(it:gz P P' tt)(ia:aW P P' a)(ib:aW P P' b):aW P P' (.iH tt a b):=λz f=>by
 simp only[ev]at z;replace z:=ah z;obtain⟨k,af,z1,z⟩:=z;obtain⟨h1,S1,e1,o1⟩:=it z1 f;cases k with
 |true=>
  simp only[QO]at z;obtain⟨d,h2,S2,e2,q2,o2⟩:=ia z o1.f;exact⟨d,h2,S2,by simp only[Ev.ev,e1,Ev.aj,QO,e2],q2,(o1.trans o2).weak (by simp only[bf];intro i hi;simp at hi ⊢;rcases hi with hi|hi<;>simp[hi])⟩
 |false=>
  simp only[Mb,Uh]at z;obtain⟨d,h2,S2,e2,q2,o2⟩:=ib z o1.f;exact⟨d,h2,S2,by simp only[Ev.ev,e1,Ev.aj];rw[Cd (by decide)];exact e2,q2,(o1.trans o2).weak (by simp only[bf];intro i hi;simp at hi ⊢;rcases hi with hi|hi<;>simp[hi])⟩
def ET(ia:aW P P' a)(il:qF P P' lo)(ih:qF P P' hi):aW P P' (.sl a lo hi):=λz f=>by
 simp only[ev]at z;replace z:=ah z;obtain⟨x,af,z1,z⟩:=z;replace z:=ah z;obtain⟨l,ak,z2,z⟩:=z;replace z:=ah z;obtain⟨u,bz,z3,z⟩:=z;replace z:=aD z;obtain⟨z,y0⟩:=z;subst y0;obtain⟨d,h1,S1,e1,q1,o1⟩:=ia z1 f;obtain⟨h2,S2,e2,o2⟩:=il z2 o1.f;obtain⟨h3,S3,e3,o3⟩:=ih z3 o2.f;have q:=(q1.tr o1.f (o2.trans o3).tr id (nW e1)).t;obtain⟨r,h4,S4,a1,a2,a3⟩:=KU o3.f.w z q;exact⟨r,h4,S4,by simp only[Ev.ev,e1,Ev.aj,e2,e3,a1],.of a2,(o1.trans (o2.trans o3)).al a3⟩
def EU(ia:aW P P' a):aW P P' (.rv a):=λz f=>by
 simp only[ev]at z;replace z:=ah z;obtain⟨x,af,z1,z⟩:=z;replace z:=aD z;obtain⟨z,y0⟩:=z;subst y0;obtain⟨d,h1,S1,e1,q1,o1⟩:=ia z1 f;obtain⟨r,h4,S4,a1,a2,a3⟩:=KW o1.f.w z q1.t;exact⟨r,h4,S4,by simp only[Ev.ev,e1,Ev.aj,a1],.of a2,o1.al a3⟩
theorem nh:∀{es:Es}{fr af:Fr}{as:List (Nat ⊕ V)},dN P es fr=.ok as af->∀i∈bD as,i∈jB es
 |.nil,_,_,_,z=>by simp only[dN]at z;cases z;simp[bD]
 |.cons e es,fr,af,as,z=>by
  simp only[dN]at z;cases y:fS fr e with
  |some i=>
   rw[y]at z;simp only at z;replace z:=ah z;obtain⟨xs,bz,z2,z⟩:=z;cases z;have hy:e=.v i:=by
    cases e<;>simp only[fS,reduceCtorEq]at y
    split at y
    .cases y;rfl
    .cases y
   subst hy;intro j hj;simp only[bD,U9]at hj;simp only[jB,U9];exact hj.imp id λhj=>nh z2 j hj
  |none=>
   rw[y]at z;simp only at z;replace z:=ah z;obtain⟨x,ak,z1,z⟩:=z;replace z:=ah z;obtain⟨xs,bz,z2,z⟩:=z;cases z;intro j hj;simp only[bD]at hj;have:=nh z2 j hj;cases e<;>simp only[jB]<;>first|exact this|exact Mi _ this
def EV(HP:nV P P'){g:Nat}(is:qD P P' es):aW P P' (.cl g es):=λz f=>by
 simp only[ev]at z;replace z:=ah z;obtain⟨as,af,z1,z⟩:=z;obtain⟨ds,h1,S1,e1,q1,o1⟩:=is z1 f;obtain⟨d,h2,S2,e2,q2,o2⟩:=pR HP z o1.f q1;exact⟨d,h2,S2,by simp only[Ev.ev,e1,Ev.aj,e2],.of q2,(o1.trans o2).weak (by
  simp only[bf];intro i hi;rcases List.mem_append.mp hi with hi|hi
  .exact List.mem_append.mpr (.inl hi)
  .exact List.mem_append.mpr (.inr (nh z1 i hi)))⟩
def EW{g:BI}(is:jj P P' es):aW P P' (.bi g es):=λz f=>by
 simp only[ev]at z;replace z:=ah z;obtain⟨as,af,z1,z⟩:=z;replace z:=aD z;obtain⟨z,y0⟩:=z;subst y0;obtain⟨ds,h1,S1,e1,q1,o1⟩:=is z1 f;obtain⟨r,h4,S4,a1,a2,a3⟩:=KZ o1.f.w z q1.t;exact⟨r,h4,S4,by simp only[Ev.ev,e1,Ev.aj,a1],.of a2,o1.al a3⟩
def BV{ts:List TY}(ia:aW P P' a):aW P P' (.dM a ts):=λz f=>by
 simp only[ev]at z;replace z:=ah z;obtain⟨x,af,z1,z⟩:=z;cases z;obtain⟨d,h1,S1,e1,q1,o1⟩:=ia z1 f;have:Ev.cL h1 d=cL x:=funext λt=>GZ q1.t t;refine⟨.bl (ts.any (Ev.cL h1 d)),h1,S1,by simp only[Ev.ev,e1,Ev.aj],.of ?_,o1⟩;rw[this];rfl
def yw{kvs:List (D×D)}(ia:aW P P' a):aW P P' (.dJ kvs a):=λz f=>by
 simp only[ev]at z;replace z:=ah z;obtain⟨x,af,z1,z⟩:=z;replace z:=aD z;obtain⟨z,y0⟩:=z;subst y0;obtain⟨d,h1,S1,e1,q1,o1⟩:=ia z1 f;obtain⟨r,a1,a2⟩:=DF (S:=S1) q1.t.u z;exact⟨r,h1,S1,by simp only[Ev.ev,e1,Ev.aj,a1,Ev.cg],.of a2,o1⟩
def BW(ia:aW P P' a):aW P P' (.fO a):=λz f=>by
 simp only[ev]at z;replace z:=ah z;obtain⟨x,af,z1,z⟩:=z;replace z:=aD z;obtain⟨z,y0⟩:=z;subst y0;obtain⟨d,h1,S1,e1,q1,o1⟩:=ia z1 f;obtain⟨r,a1,a2⟩:=KY z q1.t;exact⟨r,h1,S1,by simp only[Ev.ev,e1,Ev.aj,a1],.of a2,o1⟩
def EX{m:ME}{o:E}(io:aW P P' o)(is:jj P P' es):aW P P' (.me m o es):=λ{k fr v af M B h S ai} z f=>by
 simp only[ev]at z;by_cases hm:iy m=true
 .rw[cG hm]at z;cases y:fS fr o with
  |none=>rw[y]at z;cases z
  |some i=>
  rw[y]at z;try simp only at z
  replace z:=ah z;obtain⟨as,ak,z1,z⟩:=z;have hy:o=.v i/\∃s,lent fr i=some s:=by
   cases o<;>simp only[fS,reduceCtorEq]at y
   rename_i j;split at y
   .rename_i hs;cases y;exact⟨rfl,Option.isSome_iff_exists.mp hs⟩
   .cases y
  obtain⟨rfl,s,hs⟩:=hy;obtain⟨n,cs,_,_,_,w2,w3,_,_⟩:=gQ hs f;obtain⟨ds,h1,S1,e1,q1,o1⟩:=is z1 f;have hr:Ev.qk m (.ref n) h=true:=by cases m<;>simp[iy]at hm<;>simp[Ev.qk,gq w3]
  have hap:yg m=false->ao h1 S1 as ds:=λhh=>by rw[hh]at q1;exact q1.n
  have fin:∀s l l',ak[i]?=some (some s)->gP (some s)=true->(∀ds,oO s ds=.lst ds)->(∃m' cs',ai[i]?=some (some (.ref m'))/\h1[m']?=some (.lst cs')/\ao h1 S1 l cs')->m5 m l as=some (v,l')->af=ak.set i (some (s.with l'))->
    K4 P' (.me m (.v i) es) k v M B h S fr ai af:=by
   intro s l l' k1 k2 k0 ⟨m',cs',k3,k4,k5⟩ k6 k7;rw[w2]at k3;cases k3;have mn:=o1.f.mM k1 k2 w2;obtain⟨r,ds',a1,a2,a3⟩:=K3 k6 k4 k5 q1.t hap λk z y=>(o1.f.wS k z).2.1 (y▸mn);have fw:=o1.f.write (l':=l') k1 k2 w2 a3;subst k7;refine⟨r,_,S1,?_,.of (a2.mono (λm z=>kM λy=>(o1.f.wS m z).2.1 (y▸mn)) λ_ z=>z),fw,?_,λj=>?_⟩
   .simp only[Ev.ev,w2,Option.join,Ev.cg,Ev.aj,hr,QO,e1];simp only[Option.bind,id,Ev.cg,Ev.aj,hr,QO,e1];rw[k0];exact a1
   .refine⟨by simpa using o1.tr.len,λm y1 y2=>?_,o1.tr.sub,λm y=>by simpa using o1.tr.new m y
     ⟩
    have y3:¬ Xs M ai (eF es) m:=λz=>y2 (Xs.mono (by simp only[bf];intro i hi;simp[hi]) z);have y4:m≠n:=λz=>y2 ⟨z▸mn,i,by simp[bf,O5,hm],by rw[z];exact w2⟩;rw[kM (λ(z:n=m)=>y4 z.symm)];exact o1.tr.keep m y1 y3
   .rw[<-o1.lk j];unfold locked;by_cases hj:i=j
    .subst hj;rw[tQ (List.getElem?_eq_some_iff.mp k1).1,k1];exact ym
    .rw[gV hj]
  split at z
  .rename_i l k1;have old:=o1.f.get k1;obtain⟨p,k2,m',cs',rfl,_,k4,k5⟩:=old;split at z
   .rename_i v' l' k6;cases z;exact fin _ l l' k1 rfl (λ_=>rfl) ⟨m',cs',k2,k4,k5⟩ k6 rfl
   .cases z
  .rename_i l k1;have old:=o1.f.get k1;obtain⟨p,k2,m',cs',rfl,_,k4,k5⟩:=old;split at z
   .rename_i v' l' k6;cases z;exact fin _ l l' k1 rfl (λ_=>rfl) ⟨m',cs',k2,k4,k5⟩ k6 rfl
   .cases z
  .cases z
 .rw[Cd hm]at z;replace z:=ah z;obtain⟨x,ak,z1,z⟩:=z;replace z:=ah z;obtain⟨as,bz,z2,z⟩:=z;replace z:=aD z;obtain⟨z,y0⟩:=z;subst y0;obtain⟨d,h1,S1,e1,q1,o1⟩:=io z1 f;obtain⟨ds,h2,S2,e2,q2,o2⟩:=is z2 o1.f;have hm':iy m=false:=by simpa using hm
  have yv:=(q1.tr o1.f o2.tr id (nW e1)).t;obtain⟨a1,r,a2,a3⟩:=K0 z hm' yv q2.t;have hr:Ev.qk m d h1=true:=by
   unfold dZ at z;split at z
   .have:=q1.t;simp only[aR,Rep]at this;subst this;rfl
   .cases z
  exact⟨r,h2,S2,by simp only[Ev.ev,e1,Ev.aj,hr,QO,e2,a2],.of a3,(o1.trans o2).weak (by simp only[bf];intro i hi;simp at hi ⊢;rcases hi with hi|hi<;>simp[hi])⟩
def vN{elt:E}{t:T}{cond:Eo}(ii:lG P P' it)(ic:ua P P' cond)(ie:aW P P' elt):aW P P' (.comp elt t it cond):=λz f=>by
 simp only[ev]at z;replace z:=ah z;obtain⟨vs,ak,z1,z⟩:=z;split at z
 case isFalse=>cases z
 rename_i hu;replace z:=aD z;obtain⟨z,y0⟩:=z;subst y0;simp only[fX]at z;obtain⟨rs,z2,z3⟩:=z;obtain⟨s,h1,S1,e1,q1,q2,o1⟩:=ii z1 f;have EY:=o1.f.ro;obtain⟨rs',h2,S2,c1,c2,c3⟩:=yr (f':=λd h2=>match Ev.aY t d _ with
    |none=>.bad
    |some ak=>(Ev.eN P' cond ak h2).bind λk h3=>if k then (Ev.ev P' elt ak h3).bind λx h4=>.ok (some x) h4 else .ok none h3) (ck:=s.2) o1.f.w (λq hq=>(q2 q hq).1) (λv o d h S al y q=>by
  split at y
  .cases y
  .rename_i bz y1;obtain⟨gr,b1,b2,_,_⟩:=(EY.al al).aY y1 q;rw[b1];split at y
   .rename_i c gk y2;obtain⟨h3,S3,c1,oc⟩:=ic y2 b2;have lW:Al h S h3 S3:=oc.tr.al λm z=>z.1;split at y
    .rename_i hc;subst hc;split at y
     .rename_i x mD y3;cases y;obtain⟨d',h4,S4,d1,d2,od⟩:=ie y3 (b2.al lW);refine⟨some d',h4,S4,?_,⟨d',rfl,d2.n⟩,lW.trans (od.tr.al λm z=>z.1)⟩;simp only[c1,Ev.aj,QO,d1]
     .cases y
    .rename_i hc;cases y;refine⟨none,h3,S3,?_,rfl,lW⟩;simp only[c1,Ev.aj];rw[Cd hc]
   .cases y) Al.refl z2 q1
 obtain⟨r,h4,S4,a1,a2,a3⟩:=iz (o1.f.al c3).w z3 c2;refine⟨r,h4,S4,?_,.of a2,(o1.al c3).al a3⟩;simp only[Ev.ev,e1,Ev.aj];rw[cG (o1.f.undef hu)];refine Wg (Pc (λq:Ev.R (List D)=>q.bind λds h2=>Ev.alloc ds h2) c1) ?_;simp only[Ev.aj,a1]
def BX(ii:lG P P' it):aW P P' (.fN it):=λz f=>by
 simp only[ev]at z;replace z:=ah z;obtain⟨vs,ak,z1,z⟩:=z;replace z:=aD z;obtain⟨z,y0⟩:=z;subst y0;obtain⟨s,h1,S1,e1,q1,q2,o1⟩:=ii z1 f;obtain⟨r,h4,S4,a1,a2,a3⟩:=iz o1.f.w z q1;exact⟨r,h4,S4,by simp only[Ev.ev,e1,Ev.aj,a1],.of a2,o1.al a3⟩
def Le:jj P P' .nil:=λ{k fr v af M B h S ai} z f=>by
 simp only[bH]at z;cases z;refine⟨[],_,_,by simp only[Ev.bH],?_,.refl f⟩;unfold ji;split<;>rfl
def G3(ie:aW P P' e)(is:jj P P' es):jj P P' (.cons e es):=λ{k fr v af M B h S ai} z f=>by
 simp only[bH]at z;replace z:=ah z;obtain⟨x,ak,z1,z⟩:=z;replace z:=ah z;obtain⟨xs,bz,z2,z⟩:=z;cases z;obtain⟨d,h1,S1,e1,q1,o1⟩:=ie z1 f;obtain⟨ds,h2,S2,e2,q2,o2⟩:=is z2 o1.f;have yv:=q1.tr (a:=e) o1.f o2.tr (by intro z;simp at z;exact z.2) (nW e1);refine⟨d :: ds,h2,S2,by simp only[Ev.bH,e1,Ev.aj,e2],?_,o1.trans o2⟩;unfold ji at q2 ⊢;cases k with
 |true=>simp only[QO]at q2 ⊢;exact⟨d,ds,rfl,yv.t,q2⟩
 |false=>
  simp only[Mb,Uh]at q2 ⊢;exact .cons (by simpa[fT]using yv) q2
def G4:qD P P' .nil:=λz f=>by
 simp only[dN]at z;cases z;exact⟨[],_,_,by simp only[Ev.bH],rfl,.refl f⟩
def DI(ie:aW P P' e)(is:qD P P' es):qD P P' (.cons e es):=λ{fr v af M B h S ai} z f=>by
 simp only[dN]at z;cases y:fS fr e with
 |some i=>
  rw[y]at z;try simp only at z
  replace z:=ah z;obtain⟨xs,bz,z2,z⟩:=z;cases z;have hy:e=.v i/\∃s,lent fr i=some s:=by
   cases e<;>simp only[fS,reduceCtorEq]at y
   rename_i j;split at y
   .rename_i hs;cases y;exact⟨rfl,Option.isSome_iff_exists.mp hs⟩
   .cases y
  obtain⟨rfl,s,hs⟩:=hy;obtain⟨n,cs,_,_,_,w2,w3,_,_⟩:=gQ hs f;obtain⟨ds,h2,S2,e2,q2,o2⟩:=is z2 f;refine⟨.ref n :: ds,h2,S2,?_,⟨_,_,rfl,w2,q2⟩,o2.weak (by simp only[eF,bf];intro i hi;simpa using hi)⟩;simp only[Ev.bH,Ev.ev,w2,Option.join,Option.bind,id,Ev.cg,Ev.aj,e2]
 |none=>
  rw[y]at z;try simp only at z
  replace z:=ah z;obtain⟨x,ak,z1,z⟩:=z;replace z:=ah z;obtain⟨xs,bz,z2,z⟩:=z;cases z;obtain⟨d,h1,S1,e1,q1,o1⟩:=ie z1 f;obtain⟨ds,h2,S2,e2,q2,o2⟩:=is z2 o1.f;exact⟨d :: ds,h2,S2,by simp only[Ev.bH,e1,Ev.aj,e2],⟨_,_,rfl,q1.n.tr o1.f o2.tr,q2⟩,o1.trans o2⟩
def NT:qF P P' .no:=λz f=>by
 simp only[fF]at z;cases z;exact⟨_,_,by simp only[Ev.fF],.refl f⟩
def Lf(ie:aW P P' e):qF P P' (.yes e):=λz f=>by
 simp only[fF]at z;replace z:=ah z;obtain⟨x,ak,z1,z⟩:=z;replace z:=aD z;obtain⟨z,y0⟩:=z;subst y0;obtain⟨d,h1,S1,e1,q1,o1⟩:=ie z1 f;cases x<;>simp[intOf]at z
 subst z;have q:=q1.t;simp only[aR,Rep]at q;subst q;exact⟨h1,S1,by simp only[Ev.fF,e1,Ev.aj];rfl,o1⟩
def Lh:ua P P' .no:=λz f=>by
 simp only[eN]at z;cases z;exact⟨_,_,by simp only[Ev.eN],.refl f⟩
def G5(ie:gz P P' e):ua P P' (.yes e):=λz f=>by
 simp only[eN]at z;obtain⟨h1,S1,e1,o1⟩:=ie z f;exact⟨h1,S1,by simp only[Ev.eN,e1],o1⟩
def QA(ia:gz P P' a)(ib:gz P P' b):gz P P' (.an a b):=λz f=>by
 simp only[aC]at z;replace z:=ah z;obtain⟨k,af,z1,z⟩:=z;obtain⟨h1,S1,e1,o1⟩:=ia z1 f;cases k with
 |true=>
  simp only[QO]at z;obtain⟨h2,S2,e2,o2⟩:=ib z o1.f;exact⟨h2,S2,by simp only[Ev.aC,e1,Ev.aj,QO,e2],o1.trans o2⟩
 |false=>
  simp only[Mb,Uh]at z;cases z;exact⟨h1,S1,by simp only[Ev.aC,e1,Ev.aj];rfl,o1.weak (by simp only[bf];intro i hi;simp[hi])⟩
def NU(ia:gz P P' a)(ib:gz P P' b):gz P P' (.orr a b):=λz f=>by
 simp only[aC]at z;replace z:=ah z;obtain⟨k,af,z1,z⟩:=z;obtain⟨h1,S1,e1,o1⟩:=ia z1 f;cases k with
 |false=>
  simp only[Mb,Uh]at z;obtain⟨h2,S2,e2,o2⟩:=ib z o1.f;exact⟨h2,S2,by simp only[Ev.aC,e1,Ev.aj];rw[Cd (by decide)];exact e2,o1.trans o2⟩
 |true=>
  simp only[QO]at z;cases z;exact⟨h1,S1,by simp only[Ev.aC,e1,Ev.aj];rfl,o1.weak (by simp only[bf];intro i hi;simp[hi])⟩
def QB(ia:gz P P' a):gz P P' (.nt a):=λz f=>by
 simp only[aC]at z;replace z:=ah z;obtain⟨k,af,z1,z⟩:=z;obtain⟨h1,S1,e1,o1⟩:=ia z1 f;cases z;exact⟨h1,S1,by simp only[Ev.aC,e1,Ev.aj],o1⟩
def cZ(ie:aW P P' e)(h1:∀fr,aC P e fr=(ev P true e fr).bind λx af=>.ok (truthy x) af)(h2:∀fr h,Ev.aC P' e fr h=(Ev.ev P' e fr h).bind λx h1=>Ev.R.of (Ev.truthy h1 x) h1):gz P P' e:=λz f=>by
 rw[h1]at z;replace z:=ah z;obtain⟨x,af,z1,z⟩:=z;cases z;obtain⟨d,h1,S1,e1,q1,o1⟩:=ie z1 f;exact⟨h1,S1,by rw[h2,e1,Ev.aj,BL q1.t];rfl,o1⟩
def Li(ie:aW P P' e){k:Bool}{fr:Fr}{v:V}{af:Fr}{M B:Nat->Prop}{h:Hh}{S:Nat->Prop}{ai:Ev.Fr}(z:src k fr e (ev P k e fr)=.ok v af)(f:aN M B h S fr ai) :
  ∃d h' S',Ev.ev P' e ai h=.ok d h'/\aR h' S' v d/\(k=false->∀n,d=.ref n->¬ M n)/\Out M B (bf e) h S fr ai h' S' af:=by
 have gen:ev P k e fr=.ok v af->∃d h' S',Ev.ev P' e ai h=.ok d h'/\aR h' S' v d/\(k=false->∀n,d=.ref n->¬ M n)/\Out M B (bf e) h S fr ai h' S' af:=λz=>by
  obtain⟨d,h1,S1,e1,q1,o1⟩:=ie z f;refine⟨d,h1,S1,e1,q1.t,λhk n hd=>?_,o1⟩;subst hk;have q:=q1.n;cases v<;>simp only[Rep]at q
  .cases q.symm.trans hd
  .cases q.symm.trans hd
  .cases q.symm.trans hd
  .cases q.symm.trans hd
  .obtain⟨_,q,_⟩:=q;cases q.symm.trans hd
  .obtain⟨m,ds,q,sm,_⟩:=q;cases q.symm.trans hd;exact(o1.f.wS _ sm).2.1
  .obtain⟨m,ds,q,sm,_⟩:=q;cases q.symm.trans hd;exact(o1.f.wS _ sm).2.1
 cases e
 case v i=>
  simp only[src]at z;replace z:=aD z;obtain⟨z,y0⟩:=z;subst y0;unfold zP at z;split at z
  .rename_i l y;cases z;obtain⟨p,e1,m,ds,rfl,y1,y2,y3⟩:=f.get y;exact⟨.ref m,h,S,by simp only[Ev.ev,e1,Option.join,Option.bind,id,Ev.cg],⟨m,ds,rfl,y2,y3⟩,λ_ n hn=>by cases hn;exact y1,.refl f⟩
  .exact gen (by simp only[ev,z,cg])
 all_goals exact gen z
def Lj(ie:aW P P' e):lG P P' (.seq e):=λz f=>by
 simp only[bQ]at z;replace z:=ah z;obtain⟨x,af,z1,z⟩:=z;replace z:=aD z;obtain⟨z,y0⟩:=z;subst y0;obtain⟨d,h1,S1,e1,q1,q2,o1⟩:=Li ie z1 f;obtain⟨s,a1,a2,a3⟩:=DG z q1;exact⟨s,h1,S1,by simp only[Ev.bQ,e1,Ev.aj,a1,Ev.cg],a2,λq hq=>⟨(a3 q hq).2,λhk=>q2 hk _ (a3 q hq).1⟩,o1⟩
def G6(is:jj P P' es):lG P P' (.fz es):=λz f=>by
 simp only[bQ]at z;replace z:=ah z;obtain⟨x,af,z1,z⟩:=z;replace z:=aD z;obtain⟨z,y0⟩:=z;subst y0;obtain⟨d,h1,S1,e1,q1,o1⟩:=is z1 f;obtain⟨s,a1,a2⟩:=K1 z q1.t;exact⟨(s,[]),h1,S1,by simp only[Ev.bQ,e1,Ev.aj,a1,Ev.cg],a2,λq hq=>by simp at hq,o1⟩
def G7(ie:aW P P' e):lG P P' (.rev e):=λz f=>by
 simp only[bQ]at z;replace z:=ah z;obtain⟨x,af,z1,z⟩:=z;replace z:=aD z;obtain⟨z,y0⟩:=z;subst y0;obtain⟨d,h1,S1,e1,q1,o1⟩:=ie z1 f;simp only[cR]at z;obtain⟨l,z,rfl⟩:=z;cases x<;>simp only[KR,reduceCtorEq]at z
 cases z;have k1:=q1.t;simp only[aR,Rep]at k1;obtain⟨ds,y1,k2⟩:=k1;subst y1;exact⟨(ds.reverse,[]),h1,S1,by simp only[Ev.bQ,e1,Ev.aj,Ev.Je,Option.map,Ev.cg],k2.reverse,λq hq=>by simp at hq,o1⟩
def G8(ia:aW P P' a)(ib:aW P P' b):lG P P' (.ir a b):=λz f=>by
 simp only[bQ]at z;replace z:=two ia ib z f;obtain⟨x,y,d,e,h2,S2,ak,k,z,q1,q2,ou⟩:=z;replace z:=aD z;obtain⟨z,y0⟩:=z;subst y0;unfold pQ at z;split at z
 .rename_i a c;simp only[aR,Rep]at q1 q2;subst q1;subst q2;split at z
  case isFalse=>cases z
  rename_i hc;cases z;exact⟨((Ev.ay c a).map .str,[]),h2,S2,by simp only[Ev.bQ];rw[k];simp[Ev.uJ,hc],ao.map (f:=V.str) (g:=D.str) (λs=>by simp[Rep]) _,λq hq=>by simp at hq,ou⟩
 .cases z
end
section
variable{P:aB}{P':Ev.aB}(HP:nV P P')
include HP
mutual
theorem aL:∀e:E,aW P P' e
 |.c _=>Lb
 |.v _=>Lc
 |.tup es=>BO (fU es)
 |.lst es=>BP (fU es)
 |.bin _ a b=>BQ (aL a) (aL b)
 |.cmp _ a b=>BR (aL a) (aL b)
 |.ch _ _ a b c=>ES (aL a) (aL b) (aL c)
 |.nt a=>NR (aL a)
 |.neg a=>BS (aL a)
 |.an a b=>NS (aL a) (aL b)
 |.orr a b=>Ld (aL a) (aL b)
 |.iH t a b=>BU (fC t) (aL a) (aL b)
 |.ix a b=>ER (aL a) (aL b)
 |.sl a lo hi=>ET (aL a) (qG lo) (qG hi)
 |.rv a=>EU (aL a)
 |.fh a b=>yu (aL a) (aL b)
 |.cl _ es=>EV HP (ni es)
 |.bi _ es=>EW (fU es)
 |.me _ o es=>EX (aL o) (fU es)
 |.dM a _=>BV (aL a)
 |.comp elt _ it cond=>vN (iW it) (qH cond) (aL elt)
 |.fN it=>BX (iW it)
 |.dJ _ a=>yw (aL a)
 |.fO a=>BW (aL a)
theorem fC:∀e:E,gz P P' e
 |.an a b=>QA (fC a) (fC b)
 |.orr a b=>NU (fC a) (fC b)
 |.nt a=>QB (fC a)
 |.c x=>cZ Lb (λ_=>by simp only[aC]) (λ_ _=>by simp only[Ev.aC])
 |.v x=>cZ Lc (λ_=>by simp only[aC]) (λ_ _=>by simp only[Ev.aC])
 |.tup es=>cZ (BO (fU es)) (λ_=>by simp only[aC]) (λ_ _=>by simp only[Ev.aC])
 |.lst es=>cZ (BP (fU es)) (λ_=>by simp only[aC]) (λ_ _=>by simp only[Ev.aC])
 |.bin _ a b=>cZ (BQ (aL a) (aL b)) (λ_=>by simp only[aC]) (λ_ _=>by simp only[Ev.aC])
 |.cmp _ a b=>cZ (BR (aL a) (aL b)) (λ_=>by simp only[aC]) (λ_ _=>by simp only[Ev.aC])
 |.ch _ _ a b c=>cZ (ES (aL a) (aL b) (aL c)) (λ_=>by simp only[aC]) (λ_ _=>by simp only[Ev.aC])
 |.neg a=>cZ (BS (aL a)) (λ_=>by simp only[aC]) (λ_ _=>by simp only[Ev.aC])
 |.iH t a b=>cZ (BU (fC t) (aL a) (aL b)) (λ_=>by simp only[aC]) (λ_ _=>by simp only[Ev.aC])
 |.ix a b=>cZ (ER (aL a) (aL b)) (λ_=>by simp only[aC]) (λ_ _=>by simp only[Ev.aC])
 |.sl a lo hi=>cZ (ET (aL a) (qG lo) (qG hi)) (λ_=>by simp only[aC]) (λ_ _=>by simp only[Ev.aC])
 |.rv a=>cZ (EU (aL a)) (λ_=>by simp only[aC]) (λ_ _=>by simp only[Ev.aC])
 |.fh a b=>cZ (yu (aL a) (aL b)) (λ_=>by simp only[aC]) (λ_ _=>by simp only[Ev.aC])
 |.cl _ es=>cZ (EV HP (ni es)) (λ_=>by simp only[aC]) (λ_ _=>by simp only[Ev.aC])
 |.bi _ es=>cZ (EW (fU es)) (λ_=>by simp only[aC]) (λ_ _=>by simp only[Ev.aC])
 |.me _ o es=>cZ (EX (aL o) (fU es)) (λ_=>by simp only[aC]) (λ_ _=>by simp only[Ev.aC])
 |.dM a _=>cZ (BV (aL a)) (λ_=>by simp only[aC]) (λ_ _=>by simp only[Ev.aC])
 |.comp elt _ it cond=>cZ (vN (iW it) (qH cond) (aL elt)) (λ_=>by simp only[aC]) (λ_ _=>by simp only[Ev.aC])
 |.fN it=>cZ (BX (iW it)) (λ_=>by simp only[aC]) (λ_ _=>by simp only[Ev.aC])
 |.dJ _ a=>cZ (yw (aL a)) (λ_=>by simp only[aC]) (λ_ _=>by simp only[Ev.aC])
 |.fO a=>cZ (BW (aL a)) (λ_=>by simp only[aC]) (λ_ _=>by simp only[Ev.aC])
theorem fU:∀e:Es,jj P P' e
 |.nil=>Le
 |.cons e es=>G3 (aL e) (fU es)
theorem ni:∀e:Es,qD P P' e
 |.nil=>G4
 |.cons e es=>DI (aL e) (ni es)
theorem qG:∀e:Eo,qF P P' e
 |.no=>NT
 |.yes e=>Lf (aL e)
theorem qH:∀e:Eo,ua P P' e
 |.no=>Lh
 |.yes e=>G5 (fC e)
theorem iW:∀e:It,lG P P' e
 |.seq e=>Lj (aL e)
 |.fz es=>G6 (fU es)
 |.rev a=>G7 (aL a)
 |.ir a b=>G8 (aL a) (aL b)
end
end
structure Tr(M B:Nat->Prop)(h:Hh)(S:Nat->Prop)(M':Nat->Prop)(h':Hh)(S':Nat->Prop):Prop where
 len:h.length<=h'.length
 keep:∀m,m<h.length->¬ M m->h'[m]?=h[m]?
 sub:∀m,S m->S' m
 new:∀m,S' m->S m\/(h.length<=m/\m<h'.length)\/(M m/\¬ B m)
 rH:∀m,M' m->M m\/h.length<=m
structure cD(M B:Nat->Prop)(h:Hh)(S:Nat->Prop)(fr:Fr)(ai:Ev.Fr)(M':Nat->Prop)(h':Hh)(S':Nat->Prop)(af:Fr)(aX:Ev.Fr):Prop where
 f:aN M' B h' S' af aX
 tr:Tr M B h S M' h' S'
 lk:∀i,locked af i=locked fr i
 rf:∀i,locked fr i=true->aX[i]?=ai[i]?
def eV(h:Hh)(S:Nat->Prop):Fl->Ev.Fl->Prop
 |.nx,g=>g=.nx
 |.bk,g=>g=.bk
 |.ct,g=>g=.ct
 |.ret v,g=>∃d,g=.ret d/\Rep h S v d
section
variable{M B M' M1 M2:Nat->Prop}{h h1 h2:Hh}{S S' S1 S2:Nat->Prop}{fr af ak:Fr}{ai aX jc:Ev.Fr}{c:List Nat}{v:V}{d:D}
def cD.refl(f:aN M B h S fr ai):cD M B h S fr ai M h S fr ai:=⟨f,⟨qT _,λ_ _ _=>rfl,λ_ q=>q,λ_ q=>.inl q,λ_ q=>.inl q
 ⟩,λ_=>rfl,λ_ _=>rfl⟩
def Out.s(o:Out M B c h S fr ai h1 S1 af):cD M B h S fr ai M h1 S1 af ai:=⟨o.f,⟨o.tr.len,λm y1 y2=>o.tr.keep m y1 (λz=>y2 z.1),o.tr.sub,λm q=>(o.tr.new m q).imp id .inl,λ_ q=>.inl q
 ⟩,o.lk,λ_ _=>rfl⟩
theorem cD.trans(f0:aN M B h S fr ai)(a:cD M B h S fr ai M1 h1 S1 af aX)(b:cD M1 B h1 S1 af aX M2 h2 S2 ak jc):cD M B h S fr ai M2 h2 S2 ak jc where
 f:=b.f
 tr:=⟨HK a.tr.len b.tr.len,λm y1 y2=>by
   rw[b.tr.keep m (dS y1 a.tr.len) (λz=>by
    rcases a.tr.rH m z with z|z
    .exact y2 z
    .omega),a.tr.keep m y1 y2],λm q=>b.tr.sub m (a.tr.sub m q),λm q=>by
   rcases b.tr.new m q with q|q|q
   .rcases a.tr.new m q with q|q|q
    .exact .inl q
    .exact .inr (.inl ⟨q.1,dS q.2 b.tr.len⟩)
    .exact .inr (.inr q)
   .exact .inr (.inl ⟨HK a.tr.len q.1,q.2⟩)
   .rcases a.tr.rH m q.1 with z|z
    .exact .inr (.inr ⟨z,q.2⟩)
    .exact .inr (.inl ⟨z,dS (a.f.wM m q.1) b.tr.len⟩),λm q=>by
   rcases b.tr.rH m q with q|q
   .exact a.tr.rH m q
   .exact .inr (HK a.tr.len q)
  ⟩
 lk:=λi=>(b.lk i).trans (a.lk i)
 rf:=λi q=>(b.rf i (by rw[a.lk i];exact q)).trans (a.rf i q)
def aN.kind(f:aN M B h S fr ai)(g:Option Sl->Option Sl->Prop)(hl:af.length=fr.length)(hg:∀(i:Nat) o,af[i]?=some o->∃o0,fr[i]?=some o0/\(o=o0\/(∃l,o0=some (.own l)/\o=some (.val (.lst l)))\/(∃l,o0=some (.bor l)/\o=some (.ro l)))) :
  ∃M' S',cD M B h S fr ai M' h S' af ai:=by
 let X:Nat->Prop:=λm=>∃(i:Nat) (l:List V),fr[i]?=some (some (Sl.own l))/\af[i]?=some (some (Sl.val (V.lst l)))/\ai[i]?=some (some (D.ref m))
 let Y:Nat->Prop:=λm=>∃(i:Nat) (l:List V),fr[i]?=some (some (Sl.bor l))/\af[i]?=some (some (Sl.ro l))/\ai[i]?=some (some (D.ref m))
 have xM:∀m,X m->M m/\¬ B m:=λm ⟨i,l,a,_,b⟩=>by
  obtain⟨m',ds,e,q,_⟩:=f.sl i _ _ a b;cases e;exact q
 have yM:∀m,Y m->M m/\B m:=λm ⟨i,l,a,_,b⟩=>by
  obtain⟨m',ds,e,q,_⟩:=f.sl i _ _ a b;cases e;exact q
 have mono:∀{l:List V} {ds:List D},ao h S l ds->ao h (λm=>S m\/X m) l ds:=λq=>q.mono (λ_ _=>rfl) λ_ z=>.inl z;refine⟨λm=>M m/\¬ X m/\¬ Y m,λm=>S m\/X m,⟨⟨λm q=>?_,λm q=>f.wM m q.1,f.wB,by rw[hl,f.len],λi o p e1 e2=>?_,λi j o o' m y1 y2 y3 y4 y5 y6=>?_⟩,⟨qT _,λ_ _ _=>rfl,λ_ q=>.inl q,λm q=>?_,λm q=>.inl q.1
  ⟩,λi=>?_,λ_ _=>rfl⟩⟩
 .rcases q with q|q
  .exact⟨(f.wS m q).1,λz=>(f.wS m q).2.1 z.1,(f.wS m q).2.2⟩
  .exact⟨f.wM m (xM m q).1,λz=>z.2.1 q,(xM m q).2⟩
 .obtain⟨o0,e0,k⟩:=hg i o e1;have old:=f.sl i o0 p e0 e2;rcases k with rfl|⟨l,rfl,rfl⟩|⟨l,rfl,rfl⟩
  .rcases o with _|s
   .exact old
   .cases s with
    |val v=>obtain⟨d,e,q⟩:=old;exact⟨d,e,q.mono (λ_ _=>rfl) λ_ z=>.inl z⟩
    |own l=>
     obtain⟨m,ds,rfl,z,y,q⟩:=old;refine⟨m,ds,rfl,⟨⟨z.1,λ⟨j,l',a1,a2,a3⟩=>?_,λ⟨j,l',a1,a2,a3⟩=>?_⟩,z.2⟩,y,mono q⟩
     .have:=f.inj i j _ _ m e0 a1 rfl rfl e2 a3;subst this;rw[e1]at a2;cases a2
     .have:=f.inj i j _ _ m e0 a1 rfl rfl e2 a3;subst this;rw[e1]at a2;cases a2
    |bor l=>
     obtain⟨m,ds,rfl,z,y,q⟩:=old;refine⟨m,ds,rfl,⟨⟨z.1,λ⟨j,l',a1,a2,a3⟩=>?_,λ⟨j,l',a1,a2,a3⟩=>?_⟩,z.2⟩,y,mono q⟩
     .have:=f.inj i j _ _ m e0 a1 rfl rfl e2 a3;subst this;rw[e1]at a2;cases a2
     .have:=f.inj i j _ _ m e0 a1 rfl rfl e2 a3;subst this;rw[e1]at a2;cases a2
    |ro l=>obtain⟨m,ds,rfl,z,y,q⟩:=old;exact⟨m,ds,rfl,λw=>z w.1,y,mono q⟩
  .obtain⟨m,ds,rfl,z,y,q⟩:=old;exact⟨.ref m,rfl,m,ds,rfl,.inr ⟨i,l,e0,e1,e2⟩,y,mono q⟩
  .obtain⟨m,ds,rfl,z,y,q⟩:=old;exact⟨m,ds,rfl,λw=>w.2.2 ⟨i,l,e0,e1,e2⟩,y,mono q⟩
 .have kd:∀(i:Nat) o,af[i]?=some o->gP o=true->∃o0,fr[i]?=some o0/\gP o0=true:=λi o w1 w2=>by
   obtain⟨o0,e0,k⟩:=hg i o w1;rcases k with rfl|⟨l,rfl,rfl⟩|⟨l,rfl,rfl⟩
   .exact⟨o,e0,w2⟩
   .cases w2
   .cases w2
  obtain⟨oi,k1,k2⟩:=kd i o y1 y3;obtain⟨oj,k3,k4⟩:=kd j o' y2 y4;exact f.inj i j oi oj m k1 k3 k2 k4 y5 y6
 .rcases q with q|q
  .exact .inl q
  .exact .inr (.inr (xM m q))
 .unfold locked;cases z:af[i]? with
  |none=>
   have:fr[i]?=none:=by rw[VI]at z ⊢;omega
   rw[this]
  |some o=>
   obtain⟨o0,e0,k⟩:=hg i o z;rw[e0];rcases k with rfl|⟨l,rfl,rfl⟩|⟨l,rfl,rfl⟩<;>rfl
def aN.gp(f:aN M B h S fr ai):∃M' S',cD M B h S fr ai M' h S' (iT fr) ai:=by
 refine f.kind (λ_ _=>True) (by simp[iT]) λi o e=>?_;unfold iT at e;rw[SE]at e;cases z:fr[i]? with
 |none=>rw[z]at e;cases e
 |some o0=>
  rw[z]at e;cases e;refine⟨o0,rfl,?_⟩;rcases o0 with _|s
  .exact .inl rfl
  .cases s with
   |own l=>exact .inr (.inl ⟨l,rfl,rfl⟩)
   |_=>exact .inl rfl
def aN.pre(e:E)(f:aN M B h S fr ai):∃M' S',cD M B h S fr ai M' h S' (m6 e fr) ai:=by
 cases e with
 |v j=>
  refine f.kind (λ_ _=>True) (by simp[m6]) λi o e=>?_;simp only[m6]at e;rw[Wl]at e;cases z:fr[i]? with
  |none=>rw[z]at e;simp at e
  |some o0=>
   rw[z]at e;replace e:(if j=i then Option.map Sl.gp o0 else o0)=o:=pV e;by_cases hj:j=i
   .rw[cG hj]at e;subst e;refine⟨o0,rfl,?_⟩;rcases o0 with _|s
    .exact .inl rfl
    .cases s with
     |own l=>exact .inr (.inl ⟨l,rfl,rfl⟩)
     |_=>exact .inl rfl
   .rw[Cd hj]at e;subst e;exact⟨o0,rfl,.inl rfl⟩
 |_=>exact⟨_,_,.refl f⟩
theorem aN.walk:∀(is:List Nat) {M:Nat->Prop}{S:Nat->Prop}{fr:Fr},aN M B h S fr ai->∃M' S',cD M B h S fr ai M' h S' (qA is fr) ai
 |[],_,_,_,f=>⟨_,_,.refl f⟩
 |i :: is,M,S,fr,f=>by
  have one:∃M1 S1,cD M B h S fr ai M1 h S1 (match fr[i]? with|some (some s)=>fr.set i (some s.walk)|_=>fr) ai:=by
   split
   .rename_i s z;have hl:=(List.getElem?_eq_some_iff.mp z).1;refine f.kind (λ_ _=>True) (by simp) λj o e=>?_;by_cases hj:i=j
    .subst hj;rw[tQ hl]at e;cases e;refine⟨_,z,?_⟩;cases s with
     |own l=>exact .inr (.inl ⟨l,rfl,rfl⟩)
     |bor l=>exact .inr (.inr ⟨l,rfl,rfl⟩)
     |_=>exact .inl rfl
    .rw[gV hj]at e;exact⟨o,e,.inl rfl⟩
   .exact⟨M,S,.refl f⟩
  obtain⟨M1,S1,o1⟩:=one;obtain⟨M2,S2,o2⟩:=aN.walk is o1.f;exact⟨M2,S2,o1.trans f o2⟩
def O8:Sl->List V->Prop
 |.own l,l'=>l=l'
 |_,_=>False
def aN.QC(f:aN M B h S fr ai){i:Nat}{s:Sl}{l:List V}{ds:List D}{rest:List O}(hs:O8 s l)(e:put fr i s=some af)(q:ao h S l ds):cD M B h S fr ai (λm=>M m\/m=h.length) (h++oO s ds :: rest) S af (ai.set i (some (.ref h.length))):=by
 have hx:af=fr.set i (some s)/\locked fr i=false:=by
  unfold put at e;unfold locked;split at e
  .cases e
  .cases e
  .rename_i k1 k2;cases e;refine⟨rfl,?_⟩;cases z:fr[i]? with
   |none=>rfl
   |some o=>
    rcases o with _|s
    .rfl
    .cases s with
     |bor l=>exact absurd z (k1 l)
     |ro l=>exact absurd z (k2 l)
     |_=>rfl
 obtain⟨rfl,hk⟩:=hx;have kp:∀m,m<h.length->(h++oO s ds :: rest)[m]?=h[m]?:=λm z=>by rw[wc z]
 have kS:∀m,S m->(h++oO s ds :: rest)[m]?=h[m]?:=λm z=>kp m (f.w m z);refine⟨⟨λm y=>⟨by have:=(f.wS m y).1;simp;omega,λz=>?_,(f.wS m y).2.2⟩,λm y=>?_,λm y=>by have:=f.wB m y;simp;omega,by simp[f.len],λj o p y1 y2=>?_,λj k o o' m y1 y2 y3 y4 y5 y6=>?_⟩,⟨by simp,λm y _=>kp m y,λ_ z=>z,λ_ z=>.inl z,λm z=>z.imp id (λz=>by omega)
   ⟩,λj=>?_,λj hj=>?_⟩
 .rcases z with z|z
  .exact(f.wS m y).2.1 z
  .have:=(f.wS m y).1;omega
 .rcases y with y|y
  .have:=f.wM m y;simp;omega
  .subst y;simp
 .by_cases hj:i=j
  .subst hj;have hl:i<fr.length:=by have:=(List.getElem?_eq_some_iff.mp y1).1;simpa using this
   rw[tQ hl]at y1;rw[tQ (by rw[<-f.len];exact hl)]at y2;cases y1;cases y2;cases s<;>first
    |exact hs.elim
    | (simp only[O8]at hs;subst hs;exact⟨h.length,ds,rfl,⟨.inr rfl,λz=>by have:=f.wB _ z;omega⟩,by simp[oO],q.mono kS λ_ z=>z⟩)
  .rw[gV hj]at y1 y2;have old:=f.sl j o p y1 y2;rcases o with _|s
   .exact old
   .cases s with
    |val v=>obtain⟨d,e,q⟩:=old;exact⟨d,e,q.mono kS λ_ z=>z⟩
    |own l=>obtain⟨m,es,rfl,z,y,q⟩:=old;exact⟨m,es,rfl,⟨.inl z.1,z.2⟩,by rw[kp m (f.wM m z.1)];exact y,q.mono kS λ_ z=>z⟩
    |bor l=>obtain⟨m,es,rfl,z,y,q⟩:=old;exact⟨m,es,rfl,⟨.inl z.1,z.2⟩,by rw[kp m (f.wM m z.1)];exact y,q.mono kS λ_ z=>z⟩
    |ro l=>
     obtain⟨m,es,rfl,z,y,q⟩:=old;have hm:=(List.getElem?_eq_some_iff.mp y).1;exact⟨m,es,rfl,λw=>by rcases w with w|w;exact z w;omega,by rw[kp m hm];exact y,q.mono kS λ_ z=>z⟩
 .have low:∀(j:Nat) o,i≠j->fr[j]?=some o->gP o=true->ai[j]?=some (some (.ref m))->m<h.length:=λj o _ w1 w2 w3=>f.wM m (f.mM w1 w2 w3);have new:∀(j:Nat),j<fr.length->i=j->(ai.set i (some (.ref h.length)))[j]?=some (some (.ref m))->m=h.length:=λj hl hj w=>by
   subst hj;rw[tQ (by rw[<-f.len];exact hl)]at w;cases w;rfl
  have lj:j<fr.length:=by have:=(List.getElem?_eq_some_iff.mp y1).1;simpa using this
  have lk:k<fr.length:=by have:=(List.getElem?_eq_some_iff.mp y2).1;simpa using this
  by_cases hj:i=j
  .by_cases hk2:i=k
   .rw[<-hj,<-hk2]
   .have a:=new j lj hj y5;rw[gV hk2]at y2 y6;have b:=low k o' hk2 y2 y4 y6;omega
  .by_cases hk2:i=k
   .have a:=new k lk hk2 y6;rw[gV hj]at y1 y5;have b:=low j o hj y1 y3 y5;omega
   .rw[gV hj]at y1 y5;rw[gV hk2]at y2 y6;exact f.inj j k o o' m y1 y2 y3 y4 y5 y6
 .by_cases hj:i=j
  .subst hj;rw[hk];unfold locked;by_cases hl:i<fr.length
   .rw[tQ hl];cases s<;>first|rfl|exact hs.elim
   .rw[Um (by simpa using hl)]
  .unfold locked;rw[gV hj]
 .have:i≠j:=λz=>by subst z;rw[hk]at hj;cases hj
  rw[gV this]
theorem aN.own(f:aN M B h S fr ai){i:Nat}{l:List V}{ds:List D}(e:put fr i (.own l)=some af)(q:ao h S l ds):cD M B h S fr ai (λm=>M m\/m=h.length) (h++[.lst ds]) S af (ai.set i (some (.ref h.length))):=f.QC (s:=.own l) (rest:=[]) rfl e q
end
inductive Lk(P':Ev.aB)(w:Nat)(s:S)(g:Fl)(M B:Nat->Prop)(h:Hh)(S:Nat->Prop)(fr:Fr)(ai:Ev.Fr)(af:Fr):Prop
 |mk (g':Ev.Fl) (aX:Ev.Fr) (M':Nat->Prop) (h':Hh) (S':Nat->Prop) (c0:Ev.ex P' w s ai h=.ok (g',aX) h') (c1:eV h' S' g g') (c2:cD M B h S fr ai M' h' S' af aX):Lk P' w s g M B h S fr ai af
inductive Ll(P':Ev.aB)(w:Nat)(s:Ss)(g:Fl)(M B:Nat->Prop)(h:Hh)(S:Nat->Prop)(fr:Fr)(ai:Ev.Fr)(af:Fr):Prop
 |mk (g':Ev.Fl) (aX:Ev.Fr) (M':Nat->Prop) (h':Hh) (S':Nat->Prop) (c0:Ev.exs P' w s ai h=.ok (g',aX) h') (c1:eV h' S' g g') (c2:cD M B h S fr ai M' h' S' af aX):Ll P' w s g M B h S fr ai af
section
variable(P:aB)(P':Ev.aB)(w:Nat)
def pS(s:S):Prop:=∀{fr:Fr} {g:Fl} {af:Fr} {M B:Nat->Prop} {h:Hh} {S:Nat->Prop} {ai:Ev.Fr},ex P w s fr=.ok g af->aN M B h S fr ai->Lk P' w s g M B h S fr ai af
def qI(s:Ss):Prop:=∀{fr:Fr} {g:Fl} {af:Fr} {M B:Nat->Prop} {h:Hh} {S:Nat->Prop} {ai:Ev.Fr},exs P w s fr=.ok g af->aN M B h S fr ai->Ll P' w s g M B h S fr ai af
end
section
variable{P:aB}{P':Ev.aB}{w:Nat}(HP:nV P P')
include HP
def DJ{i:Nat}{e:E}{fr:Fr}{g:Fl}{af:Fr}{M B:Nat->Prop}{h:Hh}{S:Nat->Prop}{ai:Ev.Fr}(z:((ev P false e fr).bind λx af=>if isNew e then (match x with
   |.lst l=>(R.of (put af i (.own l)) af).bind λak _=>.ok .nx ak
   |_=>.bad)
  else (R.of (put af i (.val x)) af).bind λak _=>.ok .nx ak)=.ok g af) (f:aN M B h S fr ai):Lk P' w (.set i e) g M B h S fr ai af:=by
 replace z:=ah z;obtain⟨x,ak,z1,z⟩:=z;by_cases hn:isNew e=true
 .rw[cG hn]at z;have key:∃l ds h1 S1,x=.lst l/\ao h1 S1 l ds/\Ev.ev P' e ai h=.ok (.ref h1.length) (h1++[.lst ds])/\Out M B (bf e) h S fr ai h1 S1 ak:=by
   cases e <;> (try simp only[isNew,Mb]at hn)
   case lst es=>
    simp only[ev]at z1;replace z1:=ah z1;obtain⟨l,bz,z2,z1⟩:=z1;replace z1:=aD z1;obtain⟨z1,y0⟩:=z1;subst y0;unfold cV at z1;split at z1
    case isFalse=>cases z1
    rename_i hk;cases z1;obtain⟨ds,h1,S1,e1,q1,o1⟩:=fU HP es z2 f;refine⟨l,ds,h1,S1,rfl,q1.n,?_,o1⟩;simp only[Ev.ev,e1,Ev.aj,Ev.alloc];rw[cG (by rw[<-q1.n.length];exact hk)]
   case fN it=>
    simp only[ev]at z1;replace z1:=ah z1;obtain⟨l,bz,z2,z1⟩:=z1;replace z1:=aD z1;obtain⟨z1,y0⟩:=z1;subst y0;unfold cV at z1;split at z1
    case isFalse=>cases z1
    rename_i hk;cases z1;obtain⟨s,h1,S1,e1,q1,q2,o1⟩:=iW HP it z2 f;refine⟨l,s.1,h1,S1,rfl,q1,?_,o1⟩;simp only[Ev.ev,e1,Ev.aj,Ev.alloc];rw[cG (by rw[<-q1.length];exact hk)]
   case fh a b=>
    simp only[ev]at z1;replace z1:=two (aL HP a) (aL HP b) z1 f;obtain⟨x,y,d,e,h2,S2,bz,k,z1,q1,q2,ou⟩:=z1;replace z1:=aD z1;obtain⟨z1,y0⟩:=z1;subst y0;obtain⟨la,lb,n,ds,m,es,rfl,rfl,zz,rfl,rfl,a1,a2,p,q⟩:=yt z1 q1 q2;unfold cV at zz;split at zz
    case isFalse=>cases zz
    rename_i hk;cases zz;refine⟨la++lb,ds++es,h2,S2,rfl,p.append q,?_,ou⟩;simp only[Ev.ev];rw[k];simp only[Ev.C3,Ev.bG,a1,a2,Ev.alloc];rw[cG (by rw[HJ,<-p.length,<-q.length,<-HJ];exact hk)]
  obtain⟨l,ds,h1,S1,rfl,q1,e1,o1⟩:=key;simp only at z;replace z:=ah z;obtain⟨bz,gk,z2,z⟩:=z;replace z2:=aD z2;obtain⟨z2,y0⟩:=z2;subst y0;cases z;have o2:=o1.f.own z2 q1;exact⟨.nx,_,_,_,_,by simp only[Ev.ex,e1,Ev.aj],rfl,o1.s.trans f o2⟩
 .rw[Cd hn]at z;replace z:=ah z;obtain⟨bz,gk,z2,z⟩:=z;replace z2:=aD z2;obtain⟨z2,y0⟩:=z2;subst y0;cases z;obtain⟨d,h1,S1,e1,q1,o1⟩:=aL HP e z1 f;obtain⟨f2,l2,r2⟩:=o1.f.set z2 q1.n;refine⟨.nx,_,_,_,_,by simp only[Ev.ex,e1,Ev.aj],rfl,o1.s.trans f ⟨f2,(cD.refl f2).tr,l2,r2⟩⟩
def G9{i:Nat}{e:E}:pS P P' w (.set i e):=λ{fr g af M B h S ai} z f=>by
 simp only[ex]at z;obtain⟨M0,S0,o0⟩:=f.pre e;obtain⟨g',y1,y2,y3,y4,y5,y6,o⟩:=DJ HP z o0.f;exact⟨g',y1,y2,y3,y4,y5,y6,o0.trans f o⟩
def Lm{e:E}:pS P P' w (.exp e):=λ{fr g af M B h S ai} z f=>by
 simp only[ex]at z;replace z:=ah z;obtain⟨x,ak,z1,z⟩:=z;cases z;obtain⟨d,h1,S1,e1,q1,o1⟩:=aL HP e z1 f;exact⟨.nx,_,_,_,_,by simp only[Ev.ex,e1,Ev.aj],rfl,o1.s⟩
def Ln{e:E}:pS P P' w (.ret e):=λ{fr g af M B h S ai} z f=>by
 simp only[ex]at z;replace z:=ah z;obtain⟨x,ak,z1,z⟩:=z;cases z;obtain⟨M1,S1,o1⟩:=f.gp;obtain⟨d,h2,S2,e1,q1,o2⟩:=aL HP e z1 o1.f;exact⟨.ret d,_,_,_,_,by simp only[Ev.ex,e1,Ev.aj],⟨d,rfl,q1.n⟩,o1.trans f o2.s⟩
omit HP in
theorem rJ{F:V->Fr->R Fl}{F':D->Ev.Fr->Hh->Ev.R (Ev.Fl×Ev.Fr)}{ck:List (Nat×List D)}{B:Nat->Prop}{M0:Nat->Prop}{h0:Hh}{S0:Nat->Prop}{cI:Fr}{DK:Ev.Fr}(f0:aN M0 B h0 S0 cI DK)(st:∀q∈ck,aP h0 q.1=some q.2/\¬ M0 q.1)
  (turn:∀v d fr g af M h S ai,F v fr=.ok g af->aN M B h S fr ai->Rep h S v d->∃g' aX M' h' S',F' d ai h=.ok (g',aX) h'/\eV h' S' g g'/\cD M B h S fr ai M' h' S' af aX) :
  ∀{vs:List V} {ds:List D} {fr:Fr} {g:Fl} {af:Fr} {M:Nat->Prop} {h:Hh} {S:Nat->Prop} {ai:Ev.Fr},forL F vs fr=.ok g af->cD M0 B h0 S0 cI DK M h S fr ai->ao h S vs ds->
  ∃g' aX M' h' S',Ev.forL F' ck ds ai h=.ok (g',aX) h'/\eV h' S' g g'/\cD M0 B h0 S0 cI DK M' h' S' af aX
 |[],ds,fr,g,af,M,h,S,ai,e,o,q=>by
  simp only[forL]at e;simp only[ao]at q;subst q;cases e;refine⟨.nx,ai,M,h,S,?_,rfl,o⟩;simp only[Ev.forL];rw[cG (gF λx hx=>iP (st x hx).1 (o.tr.keep _ (jP (st x hx).1) (st x hx).2))]
 |v :: vs,ds,fr,g,af,M,h,S,ai,e,o,q=>by
  simp only[forL]at e;replace e:=ah e;obtain⟨p,ak,e1,e⟩:=e;simp only[ao]at q;obtain⟨d,es,rfl,q1,q2⟩:=q;obtain⟨g',jc,M2,h2,S2,t1,t2,t3⟩:=turn v d fr p ak M h S ai e1 o.f q1;have o2:=o.trans f0 t3;have EZ:Ev.stays h ck=true:=gF λx hx=>iP (st x hx).1 (o.tr.keep _ (jP (st x hx).1) (st x hx).2);have O9:ao h2 S2 vs es:=q2.mono (λm z=>t3.tr.keep m (o.f.wS m z).1 (o.f.wS m z).2.1) t3.tr.sub;cases p with
  |nx=>
   simp only[eV]at t2;subst t2;simp only at e;obtain⟨qJ,gr,M3,h3,S3,u1,u2,u3⟩:=rJ f0 st turn e o2 O9;refine⟨qJ,gr,M3,h3,S3,?_,u2,u3⟩;simp only[Ev.forL];rw[cG EZ,t1,Ev.aj];exact u1
  |ct=>
   simp only[eV]at t2;subst t2;simp only at e;obtain⟨qJ,gr,M3,h3,S3,u1,u2,u3⟩:=rJ f0 st turn e o2 O9;refine⟨qJ,gr,M3,h3,S3,?_,u2,u3⟩;simp only[Ev.forL];rw[cG EZ,t1,Ev.aj];exact u1
  |bk=>
   simp only[eV]at t2;subst t2;simp only at e;cases e;refine⟨.nx,jc,M2,h2,S2,?_,rfl,o2⟩;simp only[Ev.forL];rw[cG EZ,t1,Ev.aj]
  |ret x=>
   simp only[eV]at t2;obtain⟨d2,rfl,t2⟩:=t2;simp only at e;cases e;refine⟨.ret d2,jc,M2,h2,S2,?_,⟨d2,rfl,t2⟩,o2⟩;simp only[Ev.forL];rw[cG EZ,t1,Ev.aj]
def Lo{t:T}{it:It}{b:Ss}(ib:qI P P' w b):pS P P' w (.for t it b):=λ{fr g af M B h S ai} z f=>by
 simp only[ex]at z;replace z:=ah z;obtain⟨vs,ak,z1,z⟩:=z;obtain⟨M1,S1,o1⟩:=f.walk (itv it);obtain⟨s,h2,S2,e1,q1,q2,o2⟩:=iW HP it z1 o1.f;have o3:=o1.trans f o2.s;obtain⟨g',aX,M',h',S',u1,u2,u3⟩:=rJ (F':=λd ak h2=>match Ev.aY t d ak with
   |some bz=>Ev.exs P' w b bz h2
   |none=>.bad) (ck:=s.2) o2.f (λq hq=>⟨(q2 q hq).1,(q2 q hq).2 rfl⟩) (λv d fr g af M h S ai y f q=>by
  split at y
  .rename_i bz y1;obtain⟨gr,b1,b2,b3,b4⟩:=f.aY y1 q;rw[b1];obtain⟨g',aX,M',h',S',c1,c2,c3⟩:=ib y b2;exact⟨g',aX,M',h',S',c1,c2,(⟨b2,(cD.refl b2).tr,b3,b4⟩:cD M _ h S fr ai M h S bz gr).trans f c3⟩
  .cases y) z (cD.refl o2.f) q1
 refine⟨g',aX,M',h',S',?_,u2,o3.trans f u3⟩;simp only[Ev.ex,e1,Ev.aj];exact u1
theorem vO{t:E}{b:Ss}(ib:qI P P' w b):∀(n:Nat) {fr:Fr}{g:Fl}{af:Fr}{M B:Nat->Prop}{h:Hh}{S:Nat->Prop}{ai:Ev.Fr},eL (λak=>aC P t ak) (λak=>exs P w b ak) n fr=.ok g af->aN M B h S fr ai->
  ∃g' aX M' h' S',Ev.eL (λak h2=>Ev.aC P' t ak h2) (λak h2=>Ev.exs P' w b ak h2) n ai h=.ok (g',aX) h'/\eV h' S' g g'/\cD M B h S fr ai M' h' S' af aX
 |0,_,_,_,_,_,_,_,_,z,_=>by simp only[eL]at z;cases z
 |n+1,fr,g,af,M,B,h,S,ai,z,f=>by
  simp only[eL]at z;replace z:=ah z;obtain⟨k,ak,z1,z⟩:=z;obtain⟨h1,S1,e1,o1⟩:=fC HP t z1 f;cases k with
  |false=>
   simp only[Mb,Uh]at z;cases z;refine⟨.nx,ai,M,h1,S1,?_,rfl,o1.s⟩;simp only[Ev.eL,e1,Ev.aj];rw[Cd (by decide)]
  |true=>
   simp only[QO]at z;replace z:=ah z;obtain⟨p,bz,z2,z⟩:=z;obtain⟨g',gr,M2,h2,S2,t1,t2,t3⟩:=ib z2 o1.f;have o2:=o1.s.trans f t3;cases p with
   |nx=>
    simp only[eV]at t2;subst t2;simp only at z;obtain⟨qJ,DL,M3,h3,S3,u1,u2,u3⟩:=vO ib n z t3.f;refine⟨qJ,DL,M3,h3,S3,?_,u2,o2.trans f u3⟩;simp only[Ev.eL,e1,Ev.aj,QO,t1];exact u1
   |ct=>
    simp only[eV]at t2;subst t2;simp only at z;obtain⟨qJ,DL,M3,h3,S3,u1,u2,u3⟩:=vO ib n z t3.f;refine⟨qJ,DL,M3,h3,S3,?_,u2,o2.trans f u3⟩;simp only[Ev.eL,e1,Ev.aj,QO,t1];exact u1
   |bk=>
    simp only[eV]at t2;subst t2;simp only at z;cases z;refine⟨.nx,gr,M2,h2,S2,?_,rfl,o2⟩;simp only[Ev.eL,e1,Ev.aj,QO,t1]
   |ret x=>
    simp only[eV]at t2;obtain⟨d2,rfl,t2⟩:=t2;simp only at z;cases z;refine⟨.ret d2,gr,M2,h2,S2,?_,⟨d2,rfl,t2⟩,o2⟩;simp only[Ev.eL,e1,Ev.aj,QO,t1]
def Lp{t:E}{a b:Ss}(ia:qI P P' w a)(ib:qI P P' w b):pS P P' w (.iff t a b):=λ{fr g af M B h S ai} z f=>by
 simp only[ex]at z;replace z:=ah z;obtain⟨k,ak,z1,z⟩:=z;obtain⟨h1,S1,e1,o1⟩:=fC HP t z1 f;cases k with
 |true=>
  simp only[QO]at z;obtain⟨g',aX,M',h',S',c1,c2,c3⟩:=ia z o1.f;exact⟨g',aX,M',h',S',by simp only[Ev.ex,e1,Ev.aj,QO,c1],c2,o1.s.trans f c3⟩
 |false=>
  simp only[Mb,Uh]at z;obtain⟨g',aX,M',h',S',c1,c2,c3⟩:=ib z o1.f;exact⟨g',aX,M',h',S',by simp only[Ev.ex,e1,Ev.aj];rw[Cd (by decide)];exact c1,c2,o1.s.trans f c3⟩
def vP(P':Ev.aB):Prop:=∀f ds h d h',P' (f+Ev.xo) ds h=.ok d h'->P' f ds h=.bad
def NV(HE:vP P'){g kk:Nat}{es:Es}:pS P P' w (.tr g kk es):=λ{fr _ af M B h S ai} z f=>by
 simp only[ex]at z;replace z:=ah z;obtain⟨as,ak,z1,z⟩:=z;obtain⟨ds,h1,S1,e1,q1,o1⟩:=ni HP es z1 f;split at z
 case isFalse=>cases z
 split at z
 .rename_i v bz y;cases z;obtain⟨d,h2,S2,e2,q2,o2⟩:=pR HP y o1.f q1;exact⟨.ret d,ai,M,h2,S2,by simp only[Ev.ex,e1,Ev.aj,e2,Ev.tryD],⟨d,rfl,q2⟩,(o1.trans o2).s⟩
 .replace z:=ah z;obtain⟨c,bz,z2,z⟩:=z;replace z:=aD z;obtain⟨z,rfl⟩:=z;obtain⟨d,h2,S2,e2,q2,o2⟩:=pR HP z2 o1.f q1;have e3:=HE _ _ _ _ _ e2;cases c with
  |int c=>
   simp only[Rep]at q2;subst q2;simp only[zR]at z;split at z
   .rename_i hk;split at z
    case isFalse=>cases z
    rename_i hc;cases z;refine⟨.ret .aO,ai,M,h2,S2,by simp only[Ev.ex,e1,Ev.aj,e2,e3,Ev.tryD,Ev.zx,cG hk,cG hc,Ev.cg],⟨_,rfl,?_⟩,(o1.trans o2).s⟩;simp[Rep]
   rename_i hk;split at z
   case isFalse=>cases z
   rename_i hc;cases z;refine⟨.ret (.tup [.str [114,101,102,117,115,101,100],.int c]),ai,M,h2,S2,by simp only[Ev.ex,e1,Ev.aj,e2,e3,Ev.tryD,Ev.zx,Cd hk,cG hc,Ev.cg],⟨_,rfl,?_⟩,(o1.trans o2).s⟩;simp[Rep,ao]
  |_=>cases z
mutual
theorem E2(HE:vP P'):∀s:S,pS P P' w s
 |.set _ _=>G9 HP
 |.exp _=>Lm HP
 |.ret _=>Ln HP
 |.iff _ a b=>Lp HP (iA HE a) (iA HE b)
 |.for _ _ b=>Lo HP (iA HE b)
 |.tr _ _ _=>NV HP HE
 |.oE _ b=>λz f=>by
  simp only[ex]at z;obtain⟨g',aX,M',h',S',c1,c2,c3⟩:=vO HP (iA HE b) w z f;exact⟨g',aX,M',h',S',by simp only[Ev.ex];exact c1,c2,c3⟩
 |.cA _=>λz _=>by simp only[ex]at z;cases z
theorem iA(HE:vP P'):∀s:Ss,qI P P' w s
 |.nil=>λz f=>by simp only[exs]at z;cases z;exact⟨.nx,_,_,_,_,by simp only[Ev.exs],rfl,.refl f⟩
 |.cons s ss=>λz f=>by
  simp only[exs]at z;replace z:=ah z;obtain⟨p,ak,z1,z⟩:=z;obtain⟨g',jc,M2,h2,S2,t1,t2,t3⟩:=E2 HE s z1 f;cases p with
  |nx=>
   simp only[eV]at t2;subst t2;simp only at z;obtain⟨qJ,gr,M3,h3,S3,u1,u2,u3⟩:=iA HE ss z t3.f;exact⟨qJ,gr,M3,h3,S3,by simp only[Ev.exs,t1,Ev.aj,u1],u2,t3.trans f u3⟩
  |ct=>
   simp only[eV]at t2;subst t2;simp only at z;cases z;exact⟨.ct,jc,M2,h2,S2,by simp only[Ev.exs,t1,Ev.aj],rfl,t3⟩
  |bk=>
   simp only[eV]at t2;subst t2;simp only at z;cases z;exact⟨.bk,jc,M2,h2,S2,by simp only[Ev.exs,t1,Ev.aj],rfl,t3⟩
  |ret x=>
   simp only[eV]at t2;obtain⟨d2,rfl,t2⟩:=t2;simp only at z;cases z;exact⟨.ret d2,jc,M2,h2,S2,by simp only[Ev.exs,t1,Ev.aj],⟨d2,rfl,t2⟩,t3⟩
end
end
structure fV(M:Nat->Prop)(h h':Hh):Prop where
 len:h.length<=h'.length
 keep:∀m,m<h.length->¬ M m->h'[m]?=h[m]?
inductive jd(c:Nat)(M:Nat->Prop)(h:Hh)(r:Ev.XR):Prop
 |mk (h':Hh) (e:r=some (c,h')) (k:fV M h h'):jd c M h r
def qK(X:bR)(X':Ev.bR):Prop:=∀f sl c,X f sl=some c->∀(h:Hh) (S B:Nat->Prop) (ds:List D),aN B B h S (sl.map some) (ds.map some)->jd c B h (X' f ds h)
def fV.after{M M1 B:Nat->Prop}{h h1 h2:Hh}{S S1:Nat->Prop}{fr af:Fr}{ai aX:Ev.Fr}(o:cD M B h S fr ai M1 h1 S1 af aX)(r:fV M1 h1 h2):fV M h h2:=⟨HK o.tr.len r.len,λm y1 y2=>by
 rw[r.keep m (dS y1 o.tr.len) (λz=>by
  rcases o.tr.rH m z with z|z
  .exact y2 z
  .omega),o.tr.keep m y1 y2]
 ⟩
theorem yx{f:V->Option (Option V)}{g:V->Option Nat}{f':D->Hh->Ev.R (Option D)}{g':D->Hh->Ev.XR}{ck:List (Nat×List D)}{h0:Hh}{S0:Nat->Prop}(w0:∀m,S0 m->m<h0.length)(st:∀q∈ck,aP h0 q.1=some q.2)
  (turn:∀v o d h S,Al h0 S0 h S->f v=some o->Rep h S v d->∃o' h' S',f' d h=.ok o' h'/\zT h' S' o o'/\Al h S h' S')
  (hb:∀d h r,g' d h=some r->f' d h=.bad)
  (rs:∀v c d h S,Al h0 S0 h S->g v=some c->Rep h S v d->∃h',g' d h=some (c,h')/\h.length<=h'.length/\∀m,m<h.length->h'[m]?=h[m]?) :
  ∀{vs:List V} {ds:List D} {c:Nat} {h:Hh} {S:Nat->Prop},Al h0 S0 h S->dm f g vs=some c->ao h S vs ds->∃h',Ev.dm f' g' ck ds h=some (c,h')/\h.length<=h'.length/\∀m,m<h.length->h'[m]?=h[m]?
 |[],ds,c,h,S,a,e,q=>nomatch e
 |v :: vs,ds,c,h,S,a,e,q=>by
  simp only[dm]at e;simp only[ao]at q;obtain⟨d,es,rfl,q1,q2⟩:=q;have w:∀m,S m->m<h.length:=λm z=>by
   rcases a.new m z with z|z
   .exact dS (w0 m z) a.len
   .exact z.2
  have hs:Ev.stays h ck=true:=gF λx hx=>iP (st x hx) (a.keep _ (jP (st x hx)));split at e
  .rename_i o e1;obtain⟨o',h1,S1,t1,t2,t3⟩:=turn v o d h S a e1 q1;obtain⟨h2,u1,u2,u3⟩:=yx w0 st turn hb rs (a.trans t3) e (q2.mono (λm z=>t3.keep m (w m z)) t3.sub);refine⟨h2,?_,HK t3.len u2,λm hm=>by rw[u3 m (dS hm t3.len),t3.keep m hm]⟩;simp only[Ev.dm];rw[cG hs,t1];exact u1
  .obtain⟨h2,u1,u2,u3⟩:=rs v c d h S a e q1;refine⟨h2,?_,u2,u3⟩;simp only[Ev.dm];rw[cG hs,hb _ _ _ u1];exact u1
section
variable{P:aB}{P':Ev.aB}{X:bR}{X':Ev.bR}{w:Nat}(HP:nV P P')(HE:vP P')(HX:qK X X')(HB:∀f ds h r,X' f ds h=some r->P' f ds h=.bad)
include HP HX HB
mutual
theorem iU:∀(e:E) {fr:Fr}{c:Nat}{M B:Nat->Prop}{h:Hh}{S:Nat->Prop}{ai:Ev.Fr},xe P X e fr=some c->aN M B h S fr ai->jd c M h (Ev.xe P' X' e ai h)
 |.cl g es,fr,c,M,B,h,S,ai,z,f=>by
  simp only[xe]at z;simp only[Ev.xe];split at z
  .rename_i as af y;obtain⟨ds,h1,S1,e1,q1,o1⟩:=ni HP es y f;rw[e1];unfold nU at z;split at z
   case isFalse=>cases z
   rename_i nd;rw[fX]at z;obtain⟨sl,z1,z2⟩:=z;obtain⟨h2,e2,k⟩:=HX _ _ _ z2 h1 S1 _ ds (yo o1.f nd z1 q1);exact⟨h2,e2,fV.after o1.s ⟨k.len,λm y1 y2=>k.keep m y1 λz=>y2 (LB.m o1.f m z)
    ⟩⟩
  .obtain⟨h2,e2,k⟩:=vQ es z f;rw[Ev.ql HB es e2];exact⟨h2,e2,k⟩
 |.ix a b,fr,c,M,B,h,S,ai,z,f=>by
  simp only[xe]at z;simp only[Ev.xe];exact iU a z f
 |.me m o es,fr,c,M,B,h,S,ai,z,f=>by
  simp only[xe]at z;split at z
  case isFalse=>cases z
  rename_i hm;split at z
  case h_2=>cases z
  rename_i i hi;cases o with
  |v j=>
   simp only[fS]at hi;split at hi
   case isFalse=>cases hi
   rename_i hl;cases hi;obtain⟨s,hs⟩:=Option.isSome_iff_exists.mp hl;obtain⟨n,ds,l,o,k1,k2,k3,k4,k5⟩:=gQ hs f;replace k3:h[n]?=some (.lst ds):=k3;simp only[Ev.xe,Ev.ev,k2];have e0:Ev.qk m (.ref n) h=true:=by
    have:aP h n=some ds:=by unfold aP;rw[k3]
    cases m<;>first | (simp[Ev.qk,this];done)|cases hm
   simp only[Option.join,Option.bind,id,Ev.cg];rw[cG e0];exact vR es z f
  |_=>cases hi
 |.tup es,fr,c,M,B,h,S,ai,z,f=>by
  simp only[xe]at z;simp only[Ev.xe];exact vR es z f
 |.fO a,fr,c,M,B,h,S,ai,z,f=>by
  simp only[xe]at z;simp only[Ev.xe];exact iU a z f
 |.comp elt t it cond,fr,c,M,B,h,S,ai,z,f=>by
  simp only[xe]at z;simp only[Ev.xe];split at z
  .rename_i vs af y;split at z
   case isFalse=>cases z
   rename_i hu;obtain⟨s,h1,S1,e1,q1,q2,o1⟩:=iW HP it y f;rw[e1];dsimp only;rw[cG ⟨o1.f.undef hu.1,by rw[<-q1.length];exact hu.2⟩];have EY:=o1.f.ro;obtain⟨h2,e2,k1,k2⟩:=yx (f':=Ev.nJ P' elt t cond ai) (g':=λd h2=>match Ev.aY t d ai with
    |some ak=>(match Ev.eN P' cond ak h2 with
     |.ok true h3=>Ev.xe P' X' elt ak h3
     |_=>none)
    |none=>none) (ck:=s.2) o1.f.w (λq hq=>(q2 q hq).1) (λv o d h S al y q=>by
    unfold lD at y;unfold Ev.nJ;split at y
    .cases y
    .rename_i bz y1;obtain⟨gr,b1,b2,_,_⟩:=(EY.al al).aY y1 q;rw[b1];split at y
     .rename_i c gk y2;obtain⟨h3,S3,c1,oc⟩:=qH HP cond y2 b2;have lW:Al h S h3 S3:=oc.tr.al λm z=>z.1;split at y
      .rename_i hc;subst hc;split at y
       .rename_i x mD y3;cases y;obtain⟨d',h4,S4,d1,d2,od⟩:=aL HP elt y3 (b2.al lW);refine⟨some d',h4,S4,?_,⟨d',rfl,d2.n⟩,lW.trans (od.tr.al λm z=>z.1)⟩;simp only[c1,Ev.aj,QO,d1]
       .cases y
      .rename_i hc;cases y;refine⟨none,h3,S3,?_,rfl,lW⟩;simp only[c1,Ev.aj];rw[Cd hc]
     .cases y) (λd h2 r2 e=>by
    split at e
    .rename_i ak eb;split at e
     .rename_i h3 ec;unfold Ev.nJ;rw[eb];simp only[ec,Ev.aj,QO];rw[(Ev.bT HB elt e).1];rfl
     .cases e
    .cases e) (λv c d h S al y q=>by
    split at y
    .rename_i bz y1;obtain⟨gr,b1,b2,_,_⟩:=(EY.al al).aY y1 q;rw[b1];split at y
     .rename_i gk y2;obtain⟨h3,S3,c1,oc⟩:=qH HP cond y2 b2;have lW:Al h S h3 S3:=oc.tr.al λm z=>z.1;obtain⟨h4,e4,k4⟩:=iU elt y (b2.al lW);refine⟨h4,?_,HK lW.len k4.len,λm hm=>?_⟩
      .simp only[c1];exact e4
      .rw[k4.keep m (dS hm lW.len) (λz=>z),lW.keep m hm]
     .cases y
    .cases y) Al.refl z q1
   exact⟨h2,e2,fV.after o1.s ⟨k1,λm a b=>k2 m a
    ⟩⟩
  .obtain⟨h2,e2,k⟩:=NW it z f;rw[Ev.Ji HB it e2];exact⟨h2,e2,k⟩
 |.c _,_,_,_,_,_,_,_,z,_=>nomatch z|.v _,_,_,_,_,_,_,_,z,_=>nomatch z|.lst _,_,_,_,_,_,_,_,z,_=>nomatch z
 |.bin _ _ _,_,_,_,_,_,_,_,z,_=>nomatch z|.cmp _ _ _,_,_,_,_,_,_,_,z,_=>nomatch z
 |.ch _ _ _ _ _,_,_,_,_,_,_,_,z,_=>nomatch z
 |.nt _,_,_,_,_,_,_,_,z,_=>nomatch z|.neg _,_,_,_,_,_,_,_,z,_=>nomatch z|.an _ _,_,_,_,_,_,_,_,z,_=>nomatch z|.orr _ _,_,_,_,_,_,_,_,z,_=>nomatch z|.iH _ _ _,_,_,_,_,_,_,_,z,_=>nomatch z
 |.sl _ _ _,_,_,_,_,_,_,_,z,_=>nomatch z
 |.rv _,_,_,_,_,_,_,_,z,_=>nomatch z
 |.fh _ _,_,_,_,_,_,_,_,z,_=>nomatch z
 |.bi _ _,_,_,_,_,_,_,_,z,_=>nomatch z
 |.dM _ _,_,_,_,_,_,_,_,z,_=>nomatch z
 |.fN _,_,_,_,_,_,_,_,z,_=>nomatch z
 |.dJ _ _,_,_,_,_,_,_,_,z,_=>nomatch z
theorem vQ:∀(es:Es) {fr:Fr}{c:Nat}{M B:Nat->Prop}{h:Hh}{S:Nat->Prop}{ai:Ev.Fr},vF P X es fr=some c->aN M B h S fr ai->jd c M h (Ev.xa P' X' es ai h)
 |.nil,_,_,_,_,_,_,_,z,_=>nomatch z
 |.cons e es,fr,c,M,B,h,S,ai,z,f=>by
  simp only[vF]at z;simp only[Ev.xa];split at z
  .rename_i i hi;cases e with
   |v j=>
    simp only[fS]at hi;split at hi
    case isFalse=>cases hi
    rename_i hl;cases hi;obtain⟨s,hs⟩:=Option.isSome_iff_exists.mp hl;obtain⟨n,ds,l,o,k1,k2,k3,k4,k5⟩:=gQ hs f;simp only[Ev.ev,k2,Option.join,Option.bind,id,Ev.cg];exact vQ es z f
   |_=>cases hi
  .split at z
   .rename_i y;obtain⟨d,h1,S1,e1,q1,o1⟩:=aL HP e y f;rw[e1];obtain⟨h2,e2,k⟩:=vQ es z o1.f;exact⟨h2,e2,fV.after o1.s k⟩
   .obtain⟨h2,e2,k⟩:=iU e z f;rw[(Ev.bT HB e e2).1];exact⟨h2,e2,k⟩
theorem NW:∀(it:It) {fr:Fr}{c:Nat}{M B:Nat->Prop}{h:Hh}{S:Nat->Prop}{ai:Ev.Fr},xi P X it fr=some c->aN M B h S fr ai->jd c M h (Ev.xi P' X' it ai h)
 |.seq e,fr,c,M,B,h,S,ai,z,f=>by
  simp only[xi]at z;simp only[Ev.xi];exact iU e z f
 |.fz _,_,_,_,_,_,_,_,z,_=>nomatch z|.rev _,_,_,_,_,_,_,_,z,_=>nomatch z
 |.ir _ _,_,_,_,_,_,_,_,z,_=>nomatch z
theorem vR:∀(es:Es) {k:Bool}{fr:Fr}{c:Nat}{M B:Nat->Prop}{h:Hh}{S:Nat->Prop}{ai:Ev.Fr},kL P X k es fr=some c->aN M B h S fr ai->jd c M h (Ev.xa P' X' es ai h)
 |.nil,_,_,_,_,_,_,_,_,z,_=>nomatch z
 |.cons e es,k,fr,c,M,B,h,S,ai,z,f=>by
  simp only[kL]at z;simp only[Ev.xa];split at z
  .rename_i y;obtain⟨d,h1,S1,e1,q1,o1⟩:=aL HP e y f;rw[e1];obtain⟨h2,e2,k⟩:=vR es z o1.f;exact⟨h2,e2,fV.after o1.s k⟩
  .obtain⟨h2,e2,k⟩:=iU e z f;rw[(Ev.bT HB e e2).1];exact⟨h2,e2,k⟩
end
omit HP HX HB in
theorem yy{f:V->Fr->R Fl}{g:V->Fr->Option Nat}{f':D->Ev.Fr->Hh->Ev.R (Ev.Fl×Ev.Fr)}{g':D->Ev.Fr->Hh->Ev.XR}{ck:List (Nat×List D)}{B:Nat->Prop}
  (hf:∀{v d fr fl af M h S ai},f v fr=.ok fl af->aN M B h S fr ai->Rep h S v d->∃gl aX M' h' S',f' d ai h=.ok (gl,aX) h'/\eV h' S' fl gl/\cD M B h S fr ai M' h' S' af aX)
  (hg:∀{v d fr c M h S ai},g v fr=some c->aN M B h S fr ai->Rep h S v d->jd c M h (g' d ai h)) (hb:∀d fr h r,g' d fr h=some r->f' d fr h=.bad) :
  ∀(vs:List V) {ds:List D} {fr:Fr} {c:Nat} {M:Nat->Prop} {h:Hh} {S:Nat->Prop} {ai:Ev.Fr},fj f g vs fr=some c->aN M B h S fr ai->ao h S vs ds->(∀q∈ck,aP h q.1=some q.2/\¬ M q.1)->jd c M h (Ev.fj f' g' ck ds ai h)
 |[],_,_,_,_,_,_,_,z,_,_,_=>nomatch z
 |v :: vs,ds,fr,c,M,h,S,ai,z,f0,q,st=>by
  simp only[ao]at q;obtain⟨d,es,rfl,q1,q2⟩:=q;simp only[fj]at z;simp only[Ev.fj];rw[cG (gF λq hq=>(st q hq).1)];have go:∀{af:Fr} {aX:Ev.Fr} {M1:Nat->Prop} {h1:Hh} {S1:Nat->Prop},fj f g vs af=some c->cD M B h S fr ai M1 h1 S1 af aX->jd c M h (Ev.fj f' g' ck es aX h1):=λ{af aX M1 h1 S1} z1 o=>by
   obtain⟨h2,e2,k⟩:=yy hf hg hb vs z1 o.f (q2.mono (λm y=>o.tr.keep m (f0.wS m y).1 (f0.wS m y).2.1) o.tr.sub) (λq hq=>⟨iP (st q hq).1 (o.tr.keep _ (jP (st q hq).1) (st q hq).2),λy=>by
    rcases o.tr.rH _ y with y|y
    .exact(st q hq).2 y
    .have:=jP (st q hq).1;omega⟩)
   exact⟨h2,e2,fV.after o k⟩
  split at z
  .rename_i y;obtain⟨gl,aX,M1,h1,S1,t1,t2,t3⟩:=hf y f0 q1;simp only[eV]at t2;subst t2;rw[t1];exact go z t3
  .rename_i y;obtain⟨gl,aX,M1,h1,S1,t1,t2,t3⟩:=hf y f0 q1;simp only[eV]at t2;subst t2;rw[t1];exact go z t3
  .cases z
  .obtain⟨h2,e2,k⟩:=hg z f0 q1;rw[hb _ _ _ _ e2];exact⟨h2,e2,k⟩
include HE
mutual
theorem NX:∀(s:S) {fr:Fr}{c:Nat}{M B:Nat->Prop}{h:Hh}{S:Nat->Prop}{ai:Ev.Fr},xs P X w s fr=some c->aN M B h S fr ai->jd c M h (Ev.xs P' X' w s ai h)
 |.cA c,fr,_,M,B,h,S,ai,z,f=>by
  simp only[xs]at z;cases z;exact⟨h,rfl,qT _,λ_ _ _=>rfl
   ⟩
 |.set i e,fr,c,M,B,h,S,ai,z,f=>by
  simp only[xs]at z;simp only[Ev.xs];exact iU HP HX HB e z f
 |.exp e,fr,c,M,B,h,S,ai,z,f=>by
  simp only[xs]at z;simp only[Ev.xs];exact iU HP HX HB e z f
 |.ret e,fr,c,M,B,h,S,ai,z,f=>by
  simp only[xs]at z;simp only[Ev.xs];obtain⟨M1,S1,o⟩:=f.gp;obtain⟨h2,e2,k⟩:=iU HP HX HB e z o.f;exact⟨h2,e2,fV.after o k⟩
 |.iff t a b,fr,c,M,B,h,S,ai,z,f=>by
  simp only[xs]at z;simp only[Ev.xs];split at z
  .rename_i k af y;obtain⟨h1,S1,e1,o1⟩:=fC HP t y f;rw[e1];cases k with
   |true=>
    obtain⟨h2,e2,k⟩:=kN a (by simpa using z) o1.f;exact⟨h2,by simpa using e2,fV.after o1.s k⟩
   |false=>
    obtain⟨h2,e2,k⟩:=kN b (by simpa using z) o1.f;exact⟨h2,by simpa using e2,fV.after o1.s k⟩
  .obtain⟨h2,e2,k⟩:=iU HP HX HB t z f;rw[(Ev.bT HB t e2).2];exact⟨h2,e2,k⟩
 |.for t it b,fr,c,M,B,h,S,ai,z,f=>by
  simp only[xs]at z;simp only[Ev.xs];split at z
  case h_2=>cases z
  rename_i vs af y;obtain⟨M0,S0,o0⟩:=f.walk (itv it);obtain⟨s,h1,S1,e1,q1,q2,o1⟩:=iW HP it y o0.f;rw[e1];have o2:=o0.trans f o1.s;obtain⟨h2,e2,k⟩:=yy (B:=B) (ck:=s.2) (f':=λd ak h2=>match Ev.aY t d ak with|some bz=>Ev.exs P' w b bz h2|none=>.bad) (g':=λd ak h2=>match Ev.aY t d ak with|some bz=>Ev.xss P' X' w b bz h2|none=>none)
   (λ{v d fr fl af M h S ai} y1 f1 r1=>by
    split at y1
    .rename_i bz e3;obtain⟨gr,b1,b2,b3,b4⟩:=f1.aY e3 r1;rw[b1];obtain⟨g',aX,M',h',S',c1,c2,c3⟩:=iA HP HE b y1 b2;exact⟨g',aX,M',h',S',c1,c2,(⟨b2,(cD.refl b2).tr,b3,b4⟩:cD M _ h S fr ai M h S bz gr).trans f1 c3⟩
    .cases y1)
   (λ{v d fr c M h S ai} y1 f1 r1=>by
    split at y1
    .rename_i bz e3;obtain⟨gr,b1,b2,b3,b4⟩:=f1.aY e3 r1;rw[b1];exact kN b y1 b2
    .cases y1)
   (λd fr h r y1=>by
    split at y1
    .rename_i e3;exact Ev.cP HB b y1
    .cases y1) vs z o2.f q1 (λq hq=>⟨(q2 q hq).1,(q2 q hq).2 rfl⟩)
  exact⟨h2,e2,fV.after o2 k⟩
 |.oE t b,fr,c,M,B,h,S,ai,z,f=>by
  simp only[xs]at z;simp only[Ev.xs];have go:∀(n:Nat) {fr:Fr} {M:Nat->Prop} {h:Hh} {S:Nat->Prop} {ai:Ev.Fr},fQ (λak=>aC P t ak) (λak=>exs P w b ak) (λak=>xss P X w b ak) n fr=some c->aN M B h S fr ai->jd c M h (Ev.fQ (λak h2=>Ev.aC P' t ak h2) (λak h2=>Ev.exs P' w b ak h2) (λak h2=>Ev.xss P' X' w b ak h2) n ai h):=λn=>by
   induction n with
   |zero=>intro _ _ _ _ _ z _;cases z
   |succ n ih=>
    intro fr M h S ai z f;simp only[fQ]at z;simp only[Ev.fQ];split at z
    case h_2=>cases z
    rename_i af y;obtain⟨h1,S1,e1,o1⟩:=fC HP t y f;rw[e1];simp only;split at z
    .rename_i y2;obtain⟨gl,jc,M2,h2,S2,t1,t2,t3⟩:=iA HP HE b y2 o1.f;simp only[eV]at t2;subst t2;rw[t1];obtain⟨h3,e3,k⟩:=ih z t3.f;exact⟨h3,e3,fV.after (o1.s.trans f t3) k⟩
    .rename_i y2;obtain⟨gl,jc,M2,h2,S2,t1,t2,t3⟩:=iA HP HE b y2 o1.f;simp only[eV]at t2;subst t2;rw[t1];obtain⟨h3,e3,k⟩:=ih z t3.f;exact⟨h3,e3,fV.after (o1.s.trans f t3) k⟩
    .cases z
    .obtain⟨h3,e3,k⟩:=kN b z o1.f;rw[Ev.cP HB b e3];exact⟨h3,e3,fV.after o1.s k⟩
  exact go w z f
 |.tr _ _ _,_,_,_,_,_,_,_,z,_=>nomatch z
theorem kN:∀(s:Ss) {fr:Fr}{c:Nat}{M B:Nat->Prop}{h:Hh}{S:Nat->Prop}{ai:Ev.Fr},xss P X w s fr=some c->aN M B h S fr ai->jd c M h (Ev.xss P' X' w s ai h)
 |.nil,_,_,_,_,_,_,_,z,_=>nomatch z
 |.cons s ss,fr,c,M,B,h,S,ai,z,f=>by
  simp only[xss]at z;simp only[Ev.xss];split at z
  .rename_i y;obtain⟨gl,jc,M2,h2,S2,t1,t2,t3⟩:=E2 HP HE s y f;simp only[eV]at t2;subst t2;rw[t1];obtain⟨h3,e3,k⟩:=kN ss z t3.f;exact⟨h3,e3,fV.after t3 k⟩
  .cases z
  .obtain⟨h3,e3,k⟩:=NX s z f;rw[Ev.mR HB s e3];exact⟨h3,e3,k⟩
end
end
def yz{s s':Sl}{m:Nat}{es:List D}{h':Hh}(k1:h'[m]?=some (oO s' es)):h'[m]?=some (oO s es):=k1
theorem rL{h:Hh}{S:Nat->Prop}{B:Nat->Prop}{h0:Hh}{S0:Nat->Prop}:∀{sl:List Sl}{ds:List D}{cs:Fr},sl.length=ds.length->
  (∀(a:Nat) s d,sl[a]?=some s->ds[a]?=some d->kF B B h0 S0 (some s) (some d)/\locked cs a=yl (some s)/\(yl (some s)=true->∃m es l s',d=.ref m/\h[m]?=some (oO s es)/\ao h S l es/\cs[a]?=some (some s')/\s'.out=some l))->kr h S sl ds ((cs.take sl.length).filterMap λo=>o.bind Sl.out)
 |[],ds,cs,_,_=>by simp[kr]
 |s :: sl,[],cs,hl,_=>by simp at hl
 |s :: sl,d :: ds,[],hl,q=>by
  have ih:=rL (h:=h) (S:=S) (sl:=sl) (ds:=ds) (cs:=[]) (by simpa using hl) λa s' d' e1 e2=>by
   obtain⟨w1,w2,w3⟩:=q (a+1) s' d' (by simpa using e1) (by simpa using e2);exact⟨w1,by simpa[locked]using w2,λz=>by obtain⟨_,_,_,_,_,_,_,y,_⟩:=w3 z;simp at y⟩
  obtain⟨w1,w2,w3⟩:=q 0 s d (by simp) (by simp);cases s with
  |val v=>simp at ih ⊢;exact⟨d,ds,rfl,ih⟩
  |own l=>exact absurd w1 (by rintro⟨m,es,e,q,_⟩;exact q.2 q.1)
  |bor l=>obtain⟨_,_,_,_,_,_,_,y,_⟩:=w3 rfl;simp at y
  |ro l=>obtain⟨_,_,_,_,_,_,_,y,_⟩:=w3 rfl;simp at y
 |s :: sl,d :: ds,o :: cs,hl,q=>by
  have ih:=rL (h:=h) (S:=S) (sl:=sl) (ds:=ds) (cs:=cs) (by simpa using hl) λa s' d' e1 e2=>by
   obtain⟨w1,w2,w3⟩:=q (a+1) s' d' (by simpa using e1) (by simpa using e2);exact⟨w1,by simpa[locked]using w2,λz=>by simpa using w3 z⟩
  obtain⟨w1,w2,w3⟩:=q 0 s d (by simp) (by simp);cases s with
  |val v=>
   have:o.bind Sl.out=none:=by
    simp[locked]at w2;rcases o with _|s
    .rfl
    .cases s<;>first|rfl|cases w2
   simp only[MZ,Uz,Om,this];exact⟨d,ds,rfl,ih⟩
  |own l=>exact absurd w1 (by rintro⟨m,es,e,q,_⟩;exact q.2 q.1)
  |bor l=>
   obtain⟨m,es,l',s',a1,a2,a3,a4,a5⟩:=w3 rfl;simp at a4;subst a4;simp only[MZ,Uz,Om,Option.bind,a5];exact⟨d,ds,l',_,m,es,rfl,rfl,a1,a2,a3,ih⟩
  |ro l=>
   obtain⟨m,es,l',s',a1,a2,a3,a4,a5⟩:=w3 rfl;simp at a4;subst a4;simp only[MZ,Uz,Om,Option.bind,a5];exact⟨d,ds,l',_,m,es,rfl,rfl,a1,a2,a3,ih⟩
def BY{fn:Fn}{sl:List Sl}{ds:List D}{B:Nat->Prop}{h:Hh}{S:Nat->Prop}(F0:aN B B h S (sl.map some) (ds.map some))(hlen:sl.length=ds.length):aN B B h S (cI fn sl) (Ev.cI fn ds):=by
 unfold cI Ev.cI;have sp:∀(i:Nat) o,(sl.map some++List.replicate (fn.ns - fn.np) none)[i]?=some o->(sl.map some)[i]?=some o\/(sl.length<=i/\o=none):=λi o y=>by
  by_cases hi:i<sl.length
  .rw[wc (by simpa using hi)]at y;exact .inl y
  .rw[Uu (by simpa using hi)]at y;have:=Q6 y;exact .inr ⟨by omega,(List.mem_replicate.mp this).2⟩
 have lo:∀(i:Nat) p,i<sl.length->(ds.map some++List.replicate (fn.ns - fn.np) none)[i]?=some p->(ds.map some)[i]?=some p:=λi p hi y=>by
  rw[wc (by simpa[<-hlen]using hi)]at y;exact y
 refine⟨F0.wS,F0.wM,F0.wB,by simp[hlen],λi o p y1 y2=>?_,λi j o o' m y1 y2 y3 y4 y5 y6=>?_⟩
 .rcases sp i o y1 with y1|⟨hi,rfl⟩
  .have hi:i<sl.length:=by have:=(List.getElem?_eq_some_iff.mp y1).1;simpa using this
   exact F0.sl i o p y1 (lo i p hi y2)
  .rw[Uu (by simpa[<-hlen]using hi)]at y2;have:=Q6 y2;exact(List.mem_replicate.mp this).2
 .rcases sp i o y1 with y1|⟨hi,rfl⟩
  .rcases sp j o' y2 with y2|⟨hj,rfl⟩
   .have hi:i<sl.length:=by have:=(List.getElem?_eq_some_iff.mp y1).1;simpa using this
    have hj:j<sl.length:=by have:=(List.getElem?_eq_some_iff.mp y2).1;simpa using this
    exact F0.inj i j o o' m y1 y2 y3 y4 (lo i _ hi y5) (lo j _ hj y6)
   .cases y4
  .cases y3
def Hf{F:List Fn}(hF:F.length<=Ev.xo)(w n:Nat):vP (Ev.run F w n):=λf ds h d h' e=>by
 cases n with
 |zero=>cases e
 |succ n=>
  rw[Ev.fG,Um (by omega)]at e;simp only[Ev.lR]at e;rw[cG (by omega),Vw]at e;split at e
  .rename_i z;exact Ev.pA F w _ _ _ _ _ z
  .cases e
def Lq{X:bR}{X':Ev.bR}(HX:qK X X'){f:Nat}{sl:List Sl}{v:V}{os:List (List V)}(e:lR X f sl=some (v,os)){h:Hh}{S B:Nat->Prop}{ds:List D}(F0:aN B B h S (sl.map some) (ds.map some)) :
  ∃d h' S',Ev.lR X' f ds h=.ok d h'/\Rep h' S' v d/\Tk B h S h' S'/\kr h' S' sl ds os:=by
 unfold lR at e;split at e
 case isFalse=>cases e
 rename_i hk;rw[cR]at e;obtain⟨c,e1,e2⟩:=e;cases e2;obtain⟨h',e3,k⟩:=HX _ _ _ e1 h S B ds F0;refine⟨.int c,h',S,by simp only[Ev.lR];rw[cG hk.1,e3],by simp[Rep],⟨k.len,k.keep,λ_ q=>q,λ_ q=>.inl q
  ⟩,?_⟩
 have hlen:sl.length=ds.length:=by have:=F0.len;simpa using this
 have:∀{sl:List Sl} {ds:List D},sl.length=ds.length->sl.all Sl.fS=true->kr h' S sl ds []:=λ{sl}=>by
  induction sl with
  |nil=>intro ds _ _;rfl
  |cons s sl ih=>
   intro ds hl ha;cases ds with
   |nil=>simp at hl
   |cons d ds=>
    simp only[List.all_cons,fW]at ha;cases s with
    |val v=>exact⟨d,ds,rfl,ih (by simpa using hl) ha.2⟩
    |_=>cases ha.1
 exact this hlen hk.2
theorem yC{F:List Fn}(hF:F.length<=Ev.xo)(w:Nat):∀n,nV (run F w n) (Ev.run F w n)/\qK (bF F w n) (Ev.bF F w n)
 |0=>⟨λf sl v os e=>(nomatch e),λf sl c e=>(nomatch e)⟩
 |n+1=>by
  obtain⟨HP,HX⟩:=yC hF w n;have HE:=Hf hF w n;have hx:qK (bF F w (n+1)) (Ev.bF F w (n+1)):=λf sl c e h S B ds F0=>by
   rw[iu]at e;rw[Ev.iu];cases z:F[f]? with
   |none=>rw[z]at e;cases e
   |some fn=>
    rw[z]at e;simp only at e ⊢;split at e
    case isFalse=>cases e
    rename_i hl;have hlen:sl.length=ds.length:=by have:=F0.len;simpa using this
    rw[cG (by omega)];exact kN HP HE HX (Ev.pA F w n) fn.body e (BY F0 hlen)
  refine⟨λf sl v os e h S B ds F0=>?_,hx⟩;rw[fG]at e;cases z:F[f]? with
  |none=>
   rw[z]at e;rw[Ev.fG,z];exact Lq hx e F0
  |some fn=>
  rw[z]at e;simp only at e;split at e
  case isFalse=>cases e
  rename_i hl;have hlen:sl.length=ds.length:=by have:=F0.len;simpa using this
  have f1:aN B B h S (cI fn sl) (Ev.cI fn ds):=BY F0 hlen;have fin:∀{g:Fl} {af:Fr},exs (run F w n) w fn.body (cI fn sl)=.ok g af->∃g' aX M' h' S',Ev.exs (Ev.run F w n) w fn.body (Ev.cI fn ds) h=.ok (g',aX) h'/\eV h' S' g g'/\Tk B h S h' S'/\kr h' S' sl ds (outs fn.np af):=λ{g af} y=>by
   obtain⟨g',aX,M',h',S',c1,c2,c3⟩:=iA HP HE fn.body y f1;refine⟨g',aX,M',h',S',c1,c2,⟨c3.tr.len,λm y1 y2=>c3.tr.keep m y1 y2,c3.tr.sub,λm q=>?_
    ⟩,?_⟩
   .rcases c3.tr.new m q with q|q|q
    .exact .inl q
    .exact .inr q
    .exact absurd q.1 q.2
   .unfold outs;rw[<-hl];refine rL (B:=B) (h0:=h) (S0:=S) hlen λa s d e1 e2=>?_;have ha:a<sl.length:=(List.getElem?_eq_some_iff.mp e1).1;have h0:(cI fn sl)[a]?=some (some s):=by unfold cI;rw[wc (by simpa using ha)];simp[e1]
    have hlk:locked af a=yl (some s):=by rw[c3.lk a];unfold locked;rw[h0]
    refine⟨F0.sl a _ _ (by simp[e1]) (by simp[e2]),hlk,λhk=>?_⟩;have hr:=c3.rf a (by unfold locked;rw[h0];exact hk);have hd:(Ev.cI fn ds)[a]?=some (some d):=by unfold Ev.cI;rw[wc (by simpa[<-hlen]using ha)];simp[e2]
    rw[hd]at hr;cases y2:af[a]? with
    |none=>unfold locked at hlk;rw[y2]at hlk;rw[<-hlk]at hk;cases hk
    |some o=>
     have sr:=c3.f.sl a _ _ y2 hr;have s0:=F0.sl a (some s) (some d) (by simp[e1]) (by simp[e2]);unfold locked at hlk;rw[y2,hk]at hlk;rcases o with _|s'
     .cases hlk
     .cases s' with
      |val v=>cases hlk
      |own l=>cases hlk
      |bor l=>obtain⟨m,es,e,_,k1,k2⟩:=sr;cases e;exact⟨m,es,l,_,rfl,yz (s':=.bor l)
        k1,k2,rfl,rfl⟩
      |ro l=>obtain⟨m,es,e,_,k1,k2⟩:=sr;cases e;exact⟨m,es,l,_,rfl,yz (s':=.ro l)
        k1,k2,rfl,rfl⟩
  simp only[Ev.fG,z];have hl':ds.length=fn.np:=by omega
  rw[cG hl'];split at e
  .rename_i v' af y;cases e;obtain⟨g',aX,M',h',S',c1,c2,c3,c4⟩:=fin y;simp only[eV]at c2;obtain⟨d,rfl,c2⟩:=c2;exact⟨d,h',S',by simp only[Ev.endOf,c1,Ev.aj],c2,c3,c4⟩
  .rename_i af y;cases e;obtain⟨g',aX,M',h',S',c1,c2,c3,c4⟩:=fin y;simp only[eV]at c2;subst c2;exact⟨.aO,h',S',by simp only[Ev.endOf,c1,Ev.aj],rfl,c3,c4⟩
  .cases e
end Pv
namespace Pv
open Ev (D O Hh Fn)
def Hg{F:List Fn}{w n f:Nat}{ns:List Int}(e:run F w n f [.val (.bB (ns.map V.int))]=some (.bl true,[]))(hF:F.length<=1000:=by decide):∃h',Ev.run F w n f [.ref 0] [.bB (ns.map D.int)]=.ok (.bl true) h':=by
 have F0:aN (λ_=>False) (λ_=>False) [O.bB (ns.map D.int)] (λm=>m=0) ([Sl.val (.bB (ns.map V.int))].map some) ([D.ref 0].map some):=by
  refine⟨λm q=>⟨by subst q;simp,id,id⟩,λm q=>q.elim,λm q=>q.elim,rfl,λi o p y1 y2=>?_,λi j o o' m y1 y2 y3 y4 y5 y6=>?_⟩
  .cases i with
   |zero=>
    simp at y1 y2;subst y1 y2;refine⟨.ref 0,rfl,?_⟩;simp only[Rep];exact⟨0,_,rfl,rfl,rfl,ao.map (f:=V.int) (g:=D.int) (λ_=>by simp[Rep]) ns⟩
   |succ i=>simp at y1
  .cases i with
   |zero=>simp at y1;subst y1;cases y3
   |succ i=>simp at y1
 obtain⟨d,h',S',a,b,_,_⟩:=(yC hF w n).1 f _ _ _ e _ _ _ _ F0;simp only[Rep]at b;subst b;exact⟨h',a⟩
end Pv
namespace Pv
open Ev (D bu aV TY BI ME T E Es Eo It S Ss Fn big deep b2i rep bS dH bC aJ cut aM cY slots)
def aK{n:Nat}(h:n<=100000):n<=big:=HK h (by decide)
section
variable{i j:Int}{a b:List Nat}{x y:List V}{d e:V}{m n:Nat}{l:Bool}
def bg(h:x.length<=big):cV x=some (.lst x):=by simp[cV,h]
def qL(h:x.length<=big):iK x=some (.tup x):=by simp[iK,h]
@[simp] theorem uc:cV []=some (.lst []):=bg (aK (by simp))
@[simp] theorem ud:iK []=some (.tup []):=qL (aK (by simp))
@[simp] theorem E3{a}:cV [a]=some (.lst [a]):=bg (aK (by simp))
@[simp] theorem nX{a}:iK [a]=some (.tup [a]):=qL (aK (by simp))
@[simp] theorem NY{a b}:cV [a,b]=some (.lst [a,b]):=bg (aK (by simp))
@[simp] theorem gc{a b}:iK [a,b]=some (.tup [a,b]):=qL (aK (by simp))
@[simp] theorem NZ{a b c}:cV [a,b,c]=some (.lst [a,b,c]):=bg (aK (by simp))
@[simp] theorem N1{a b c}:iK [a,b,c]=some (.tup [a,b,c]):=qL (aK (by simp))
@[simp] theorem aZ:bG .add (.int i) (.int j)=some (.int (i+j)):=nd rfl
def eG(h:a.length+b.length<=100000):bG .add (.str a) (.str b)=some (.str (a++b)):=by delta bG;dsimp only;simp[aK h]
def vS(h:x.length+y.length<=100000):bG .add (.tup x) (.tup y)=some (.tup (x++y)):=by delta bG;dsimp only;simp[aK h]
def DM(h:x.length+y.length<=100000):bG .add (.lst x) (.lst y)=some (.lst (x++y)):=by delta bG;dsimp only;simp[bg (aK (show(x++y).length<=100000 by simpa using h))]
@[simp] theorem DN:bG .sub (.int i) (.int j)=some (.int (i - j)):=nd rfl
@[simp] theorem DO:bG .mul (.int i) (.int j)=if bS i j then some (.int (i*j))else none:=nd rfl
def pT(h0:0<=j)(h1:j<=1000)(h2:x.length<=1000)(h3:(rep j.toNat x).length<=100000):bG .mul (.lst x) (.int j)=some (.lst (rep j.toNat x)):=by delta bG;dsimp only;simp[h0,h1,h2,bg (aK h3)]
@[simp] theorem DP:bG .fdiv (.int i) (.int j)=if 0<j/\j<1073741824 then some (.int (i / j))else none:=nd rfl
@[simp] theorem Hi:bG .mod (.int i) (.int j)=if 0<j then some (.int (i % j))else none:=nd rfl
@[simp] theorem nj:cop .ne d e=(dD deep d e).map (!·):=nd rfl
@[simp] theorem tM:cop .cC d e=(isin d e).map (!·):=nd rfl
@[simp] theorem pU:isin d (.tup x)=mem d x:=nd rfl
@[simp] theorem vU:isin d (.lst x)=mem d x:=nd rfl
@[simp] theorem vV{c:Nat}:isin (.str [c]) (.str b)=some (b.contains c):=nd rfl
@[simp] theorem Hj:mem d []=some false:=nd rfl
@[simp] theorem mem_cons:mem d (e :: x)=(dD deep e d).bind λb=>(mem d x).bind λc=>some (b ||c):=nd rfl
@[simp] theorem Lr:dD (n+1) (.int i) (.int j)=some (decide (i=j)):=by show some (i==j)=_;by_cases h:i=j<;>simp[h]
@[simp] theorem vW:dD (n+1) (.str a) (.str b)=some (decide (a=b)):=by show some (a==b)=_;by_cases h:a=b<;>simp[h]
@[simp] theorem R3:dD (n+1) (.str a) (.int i)=some false:=nd rfl
@[simp] theorem R4:dD (n+1) (.int i) (.str a)=some false:=nd rfl
@[simp] theorem Ls:dD (n+1) (.tup x) (.tup y)=bZ (dD n) x y:=nd rfl
@[simp] theorem yD:dD deep (.int i) (.int j)=some (decide (i=j)):=Lr
@[simp] theorem rM:dD deep (.str a) (.str b)=some (decide (a=b)):=vW
@[simp] theorem Hl:dD deep (.tup x) (.tup y)=bZ (dD (18+1)) x y:=nd rfl
@[simp] theorem Ho:dD deep (.lst x) (.lst y)=bZ (dD (18+1)) x y:=nd rfl
@[simp] theorem Q3{f:V->V->Option Bool}:bZ f [] []=some true:=nd rfl
@[simp] theorem R5{f:V->V->Option Bool}:bZ f [] (d :: x)=some false:=nd rfl
@[simp] theorem R6{f:V->V->Option Bool}:bZ f (d :: x) []=some false:=nd rfl
@[simp] theorem QD{f:V->V->Option Bool}:bZ f (d :: x) (e :: y)=(f d e).bind λb=>(bZ f x y).bind λc=>some (b&&c):=nd rfl
theorem nY{α:Type}[DecidableEq α]{f:V->V->Option Bool}{g:α->V}(h:∀a b,f (g a) (g b)=some (decide (a=b))):∀l m:List α,bZ f (l.map g) (m.map g)=some (decide (l=m))
 |[],[]=>by simp
 |[],_ :: _=>by simp
 |_ :: _,[]=>by simp
 |a :: l,b :: m=>by simp[h,nY h l m]
@[simp] theorem rN:fB (.str a) (.int i)=(bC a i).map λc=>.str [c]:=nd rfl
@[simp] theorem rO:fB (.lst x) (.int i)=bC x i:=nd rfl
@[simp] theorem rP{lo hi:Option Int}:eH (.str a) lo hi=some (.str (cut a lo hi)):=nd rfl
def len_str(h:a.length<=100000):cU .len [.str a]=some (.int a.length):=by delta cU;dsimp only;simp[aK h]
@[simp] theorem nZ:cU .len [.tup x]=some (.int x.length):=nd rfl
@[simp] theorem Hq:cU .len [.lst x]=some (.int x.length):=nd rfl
@[simp] theorem yE:cU .len [.bB x]=some (.int x.length):=nd rfl
@[simp] theorem Hr:cU .all [.lst x]=(boolsOf x).map λbs=>.bl (bs.all id):=nd rfl
@[simp] theorem Lu{b:Bool}:cU .kY [.bl b]=some (.int (if b then 1 else 0)):=nd rfl
def QE(h0:0<=j)(h1:j<=100000):dX [.int j]=some (range 0 j.toNat):=by
 simp only[dX];rw[cG ⟨by omega,by omega⟩]
def QF(h0:-100000<=i)(h1:i<=100000)(h2:-100000<=j)(h3:j<=100000):dX [.int i,.int j]=some (range i (j - i).toNat):=by
 simp only[dX];rw[cG ⟨by omega,by omega,by omega,by omega⟩]
def wO{α:Type}(g:α->Bool)(l:List α):boolsOf (l.map λx=>.bl (g x))=some (l.map g):=by induction l<;>simp[boolsOf, *]
def jk{α:Type}(g:α->List Nat)(l:List α):strsOf (l.map λx=>.str (g x))=some (l.map g):=by induction l<;>simp[strsOf, *]
theorem tN:∀l:List (List Nat),aM [] l=l.flatten
 |[]=>rfl
 |[s]=>by simp[aM]
 |s :: t :: r=>by simp[aM,tN (t :: r)]
def E4{l:List (List Nat)}(h:l.flatten.length<=100000):dZ .join (.str []) [.lst (l.map V.str)]=some (.str l.flatten):=by
 have hs:=jk (λx=>x) l;have:(l.map (·.length)).sum<=big:=aK (by rw[<-List.length_flatten];exact h);simp only[List.map_id']at hs;have hs':strsOf (l.map V.str)=some l:=by simpa using jk (λx=>x) l
 delta dZ;dsimp only;simp[oU,hs',tN,this]
end
def gS{α:Type}{f:V->Option (Option V)}(e:α->V)(g:α->V)(l:List α)(h:∀a∈l,f (e a)=some (some (g a))):bw f (l.map e)=some (l.map g):=by
 induction l with
 |nil=>rfl
 |cons a l ih=>simp only[we,bw,h a (by simp),ih λu hu=>h u (by simp[hu]),Option.bind];rfl
def nq{α:Type}{f:V->Option (Option V)}(e:α->V)(p:α->Bool)(g:α->V)(l:List α)(h:∀a∈l,f (e a)=some (if p a then some (g a)else none)):bw f (l.map e)=some ((l.filter p).map g):=by
 induction l with
 |nil=>rfl
 |cons a l ih=>
  simp only[we,bw,h a (by simp),ih λu hu=>h u (by simp[hu]),Option.bind];cases z:p a<;>simp[z]
def Wp{α:Type}(r:R α)(Q:α->Fr->Prop):Prop:=∃a h,r=.ok a h/\Q a h
section
variable{α β:Type}{Q Q':α->Fr->Prop}
@[simp] theorem zU(a:α)(h:Fr):Wp (.ok a h) Q=Q a h:=propext ⟨λ⟨_,_,e,q⟩=>by cases e;exact q,λq=>⟨_,_,rfl,q⟩⟩
@[simp] theorem R7:Wp (.bad:R α) Q=False:=propext ⟨λq=>(by obtain⟨_,_,e,_⟩:=q;cases e),False.elim⟩
@[simp] theorem wp_bind(r:R β)(f:β->Fr->R α):Wp (r.bind f) Q=Wp r λa h=>Wp (f a h) Q:=by cases r<;>simp
def Wp.mono{r:R α}(h:Wp r Q)(f:∀a h,Q a h->Q' a h):Wp r Q':=by
 obtain⟨a,h',e,q⟩:=h;exact⟨a,h',e,f a h' q⟩
end
def fl(I Q:Fr->Prop)(X:V->Fr->Prop):Fl->Fr->Prop
 |.nx,fr=>I fr
 |.ct,fr=>I fr
 |.bk,fr=>Q fr
 |.ret v,fr=>X v fr
section
variable{I J:Fr->Prop}{X:V->Fr->Prop}{fr:Fr}{v:V}
@[simp] theorem ue:fl I J X .nx fr=I fr:=nd rfl
@[simp] theorem Lv:fl I J X (.ret v) fr=X v fr:=nd rfl
end
theorem ju{α:Type}{e:α->V}{f:V->Fr->R Fl}{Q:Fl->Fr->Prop}(I:List α->List α->Fr->Prop)(turn:∀p a l fr,I p (a :: l) fr->Wp (f (e a) fr) (fl (I (p++[a]) l) (Q .nx) λv=>Q (.ret v)))(fin:∀p fr,I p [] fr->Q .nx fr):∀(l p:List α) (fr:Fr),I p l fr->Wp (forL f (l.map e) fr) Q
 |[],p,fr,i=>by simp only[US,forL,zU];exact fin p fr i
 |a :: l,p,fr,i=>by
  simp only[we,forL,wp_bind];refine(turn p a l fr i).mono λg h2 q=>?_;cases g with
  |nx=>exact ju I turn fin l _ h2 q
  |ct=>exact ju I turn fin l _ h2 q
  |bk=>exact(zU _ _).mpr q
  |ret x=>exact(zU _ _).mpr q
def fin(fn:Fn)(ds:List Sl):R Fl->Option (V×List (List V))
 |.ok (.ret v) fr=>some (v,outs fn.np fr)
 |.ok .nx fr=>some (.aO,outs fn.np fr)
 |_=>BK fn ds
def run_eq{F:List Fn}{w n f:Nat}{ds:List Sl}{fn:Fn}(hf:F[f]?=some fn)(hl:ds.length=fn.np):run F w (n+1) f ds=fin fn ds (exs (run F w n) w fn.body (cI fn ds)):=by
 simp only[fG,hf,hl,QO];cases exs (run F w n) w fn.body (cI fn ds)with
 |bad=>rfl
 |ok g fr=>cases g<;>rfl
def cj{F:List Fn}{w n f:Nat}{ds:List Sl}{fn:Fn}{v:V}{os:List (List V)}(hf:F[f]?=some fn)(hl:ds.length=fn.np)(q:Wp (exs (run F w n) w fn.body (cI fn ds)) λg fr=>g=.ret v/\outs fn.np fr=os):run F w (n+1) f ds=some (v,os):=by
 rw[run_eq hf hl];obtain⟨g,fr,e,rfl,rfl⟩:=q;rw[e];rfl
section
variable{P:aB}{w:Nat}{fr:Fr}{k:Bool}{a b c:E}{es:Es}{ss sa sb:Ss}{st:S}{lo hi:Eo}{it:It}
@[simp] theorem QG{d:D}:ev P k (.c d) fr=R.of (ofD d) fr:=by rw[ev]
@[simp] theorem Lx{i:Nat}:ev P k (.v i) fr=R.of (lC k fr i) fr:=by rw[ev]
@[simp] theorem Ly:ev P k (.tup es) fr=(bH P false es fr).bind λds af=>R.of (iK ds) af:=by rw[ev]
@[simp] theorem Lz:ev P k (.lst es) fr=(bH P false es fr).bind λds af=>R.of (cV ds) af:=by rw[ev]
@[simp] theorem LA{o:bu}:ev P k (.bin o a b) fr=(ev P (kf a (bf b)) a fr).bind λx af=>(ev P true b af).bind λy ak=>R.of (bG o x y) ak:=by rw[ev]
@[simp] theorem LC{o:aV}:ev P k (.cmp o a b) fr=(ev P (kf a (bf b)) a fr).bind λx af=>(ev P true b af).bind λy ak=>R.of ((cop o x y).map .bl) ak:=by rw[ev]
@[simp] theorem N2{o p:aV}:ev P k (.ch o p a b c) fr=(ev P (kf a (bf b)) a fr).bind λx af=>(ev P (kf b (bf c)) b af).bind λy ak=>(R.of (cop o x y) ak).bind λk bz=>
   if k then (ev P true c bz).bind λz gk=>R.of ((cop p y z).map .bl) gk else .ok (.bl false) bz:=by rw[ev]
def R8:V->Fr->R V:=λx h1=>match x with
 |.bl b=>.ok (.bl (!b)) h1
 |_=>.bad
@[simp] theorem N3:ev P k (.nt a) fr=(ev P true a fr).bind R8:=by rw[ev];rfl
def QH:V->Fr->R V:=λx h1=>match x with
 |.int i=>.ok (.int (-i)) h1
 |_=>.bad
@[simp] theorem LF:ev P k (.neg a) fr=(ev P true a fr).bind QH:=by rw[ev];rfl
def Pa(r:Fr->R V):V->Fr->R V:=λx h1=>match x with
 |.bl true=>r h1
 |.bl false=>.ok (.bl false) h1
 |_=>.bad
@[simp] theorem BZ{k:Bool}{r:Fr->R V}:Pa r (.bl k) fr=if k then r fr else .ok (.bl false) fr:=by cases k<;>rfl
@[simp] theorem E5:ev P k (.an a b) fr=(ev P true a fr).bind (Pa λh1=>ev P k b h1):=by rw[ev];rfl
@[simp] theorem LG:ev P k (.iH a b c) fr=(aC P a fr).bind λt af=>if t then ev P k b af else ev P k c af:=by rw[ev]
@[simp] theorem N4:ev P k (.ix a b) fr=(ev P (kf a (bf b)) a fr).bind λx af=>(ev P true b af).bind λy ak=>R.of (fB x y) ak:=by rw[ev]
@[simp] theorem N5:ev P k (.sl a lo hi) fr=(ev P (kf a (kq lo++kq hi)) a fr).bind λx af=>(fF P lo af).bind λl ak=>(fF P hi ak).bind λu bz=>R.of (eH x l u) bz:=by rw[ev]
def Hs:ev P k (.fh a b) fr=(ev P (kf a (bf b)) a fr).bind λx af=>(ev P true b af).bind λy ak=>R.of (zQ x y) ak:=by rw[ev]
@[simp] theorem N6:ev P k (.rv a) fr=(ev P true a fr).bind λx af=>R.of (lQ x) af:=by rw[ev]
@[simp] theorem N7{f:Nat}:ev P k (.cl f es) fr=(dN P es fr).bind λas af=>eg P f as af:=by rw[ev]
@[simp] theorem N8{g:BI}:ev P k (.bi g es) fr=(bH P true es fr).bind λds af=>R.of (cU g ds) af:=by rw[ev]
def DQ(m:ME)(i:Nat):List V->Fr->R V:=λds af=>match af[i]? with
 |some (some (.own l))=>match m5 m l ds with
  |some (v,l')=>.ok v (af.set i (some (.own l')))
  |none=>.bad
 |some (some (.bor l))=>match m5 m l ds with
  |some (v,l')=>.ok v (af.set i (some (.bor l')))
  |none=>.bad
 |_=>.bad
def LH{m:ME}{i:Nat}(hm:iy m=true):ev P k (.me m (.v i) es) fr=if (lent fr i).isSome then (bH P (yg m) es fr).bind (DQ m i)else .bad:=by
 rw[ev,cG hm];unfold fS;cases z:(lent fr i).isSome<;>simp[z]<;>rfl
def LI{m:ME}(hm:iy m=false):ev P k (.me m a es) fr=(ev P (kf a (eF es)) a fr).bind λx af=>(bH P true es af).bind λds ak=>R.of (dZ m x ds) ak:=by rw[ev,hm];rfl
@[simp] theorem LJ{ts:List TY}:ev P k (.dM a ts) fr=(ev P true a fr).bind λx af=>.ok (.bl (ts.any (cL x))) af:=by rw[ev]
def dh(P:aB)(elt:E)(t:T)(cond:Eo)(fr:Fr):V->Option (Option V):=λd=>match aY t d (jX fr)with
 |none=>none
 |some ak=>match eN P cond ak with
  |.ok c _=>if c then (match ev P false elt ak with|.ok x _=>some (some x)|.bad=>none)else some none
  |.bad=>none
@[simp] theorem rA{elt:E}{t:T}{cond:Eo}:ev P k (.comp elt t it cond) fr=(bQ P true it fr).bind λs af=>if undef t af then R.of ((bw (dh P elt t cond af) s).bind cV) af else .bad:=by rw[ev];rfl
@[simp] theorem LK:ev P k (.fN it) fr=(bQ P true it fr).bind λs af=>R.of (cV s) af:=by rw[ev]
@[simp] theorem Ht{kvs:List (D×D)}:ev P k (.dJ kvs a) fr=(ev P true a fr).bind λx af=>R.of (dB x kvs) af:=by rw[ev]
@[simp] theorem LL:ev P k (.fO a) fr=(ev P true a fr).bind λx af=>R.of (toT x) af:=by rw[ev]
@[simp] theorem Hu:bH P k .nil fr=.ok [] fr:=by rw[bH]
@[simp] theorem DR:bH P k (.cons a es) fr=(ev P (k&&kf a (eF es)) a fr).bind λd af=>(bH P k es af).bind λds ak=>.ok (d :: ds) ak:=by rw[bH]
@[simp] theorem Hv:dN P .nil fr=.ok [] fr:=by rw[dN]
def zV(P:aB)(a:E)(es:Es)(fr:Fr):Option Nat->R (List (Nat ⊕ V))
 |some i=>(dN P es fr).bind λr af=>.ok (.inl i :: r) af
 |none=>(ev P false a fr).bind λd af=>(dN P es af).bind λr ak=>.ok (.inr d :: r) ak
@[simp] theorem zW{i:Nat}:zV P a es fr (some i)=(dN P es fr).bind λr af=>.ok (.inl i :: r) af:=nd rfl
@[simp] theorem zX:zV P a es fr none=(ev P false a fr).bind λd af=>(dN P es af).bind λr ak=>.ok (.inr d :: r) ak:=nd rfl
@[simp] theorem vX:dN P (.cons a es) fr=zV P a es fr (fS fr a):=by rw[dN];cases fS fr a<;>rfl
@[simp] theorem LM:fF P .no fr=.ok none fr:=by rw[fF]
@[simp] theorem Hw:fF P (.yes a) fr=(ev P true a fr).bind λd af=>R.of ((intOf d).map some) af:=by rw[fF]
@[simp] theorem vY:eN P .no fr=.ok true fr:=by rw[eN]
@[simp] theorem Hx:eN P (.yes a) fr=aC P a fr:=by rw[eN]
@[simp] theorem B3:aC P (.an a b) fr=(aC P a fr).bind λk af=>if k then aC P b af else .ok false af:=by rw[aC]
@[simp] theorem yF:aC P (.orr a b) fr=(aC P a fr).bind λk af=>if k then .ok true af else aC P b af:=by rw[aC]
@[simp] theorem LN:aC P (.nt a) fr=(aC P a fr).bind λk af=>.ok (!k) af:=by rw[aC]
def LO:V->Fr->R Bool:=λx af=>.ok (truthy x) af
@[simp] theorem Hy{x:V}:LO x fr=.ok (truthy x) fr:=nd rfl
@[simp] theorem yG:bQ P k (.seq a) fr=(src k fr a (ev P k a fr)).bind λx af=>R.of (gb x) af:=by rw[bQ]
@[simp] theorem Hz:bQ P k (.fz es) fr=(bH P true es fr).bind λds af=>R.of (dX ds) af:=by rw[bQ]
@[simp] theorem HA:bQ P k (.ir a b) fr=(ev P (kf a (bf b)) a fr).bind λx af=>(ev P true b af).bind λy ak=>R.of (pQ x y) ak:=by rw[bQ]
def LP(i:Nat)(af:Fr):V->R Fl
 |.lst l=>(R.of (put af i (.own l)) af).bind λak _=>.ok .nx ak
 |_=>.bad
@[simp] theorem DS{i:Nat}{l:List V}:LP i fr (.lst l)=(R.of (put fr i (.own l)) fr).bind λak _=>.ok .nx ak:=nd rfl
@[simp] theorem Q4(h:∀j,a≠.v j):m6 a fr=fr:=by
 cases a<;>first|rfl|exact absurd rfl (h _)
@[simp] theorem B4{i:Nat}:ex P w (.set i a) fr=(ev P false a (m6 a fr)).bind λx af=>if isNew a then LP i af x else (R.of (put af i (.val x)) af).bind λak _=>.ok .nx ak:=by
 rw[ex];rfl
@[simp] theorem LQ:ex P w (.exp a) fr=(ev P true a fr).bind λ_ af=>.ok .nx af:=by rw[ex]
@[simp] theorem LR:ex P w (.ret a) fr=(ev P false a (iT fr)).bind λx af=>.ok (.ret x) af:=by rw[ex]
@[simp] theorem LS:ex P w (.iff a sa sb) fr=(aC P a fr).bind λk af=>if k then exs P w sa af else exs P w sb af:=by rw[ex]
def turnF(P:aB)(w:Nat)(t:T)(b:Ss):V->Fr->R Fl:=λd ak=>match aY t d ak with
 |some bz=>exs P w b bz
 |none=>.bad
@[simp] theorem uO{t:T}:ex P w (.for t it ss) fr=(bQ P false it (qA (itv it) fr)).bind λs af=>forL (turnF P w t ss) s af:=by rw[ex];rfl
@[simp] theorem HC:exs P w .nil fr=.ok .nx fr:=by rw[exs]
def N9(P:aB)(w:Nat)(ss:Ss):Fl->Fr->R Fl:=λp h1=>match p with
 |.nx=>exs P w ss h1
 |p=>.ok p h1
@[simp] theorem DT:exs P w (.cons st ss) fr=(ex P w st fr).bind (N9 P w ss):=by rw[exs];rfl
end
def iX{P:aB}{f:Nat}{vs:List V}{fr:Fr}{v:V}(h:P f (vs.map .val)=some (v,[])):eg P f (vs.map .inr) fr=.ok v fr:=by
 have h1:∀vs:List V,bD (vs.map .inr)=[]:=λvs=>by induction vs<;>simp[bD, *]
 have h2:∀vs:List V,args fr (vs.map .inr)=some (vs.map .val):=λvs=>by induction vs<;>simp[args, *]
 simp[eg,h1,h2,h,back]
section
variable{P:aB}{f:Nat}{fr:Fr}{a b c v:V}
def dG(h:P f [.val a]=some (v,[])):eg P f [.inr a] fr=.ok v fr:=iX (vs:=[a]) h
def call2(h:P f [.val a,.val b]=some (v,[])):eg P f [.inr a,.inr b] fr=.ok v fr:=iX (vs:=[a,b]) h
def Oa(h:P f [.val a,.val b,.val c]=some (v,[])):eg P f [.inr a,.inr b,.inr c] fr=.ok v fr:=iX (vs:=[a,b,c]) h
end
section
variable{fr:Fr}{i:Nat}{k:Bool}{s:Sl}{v:V}{l:List V}
noncomputable def SQ(k:Bool):Option (Option Sl)->Option V
 |some (some (.val v))=>some v
 |some (some (.own l))=>if k then some (.lst l)else none
 |some (some (.bor l))=>if k then some (.lst l)else none
 |some (some (.ro l))=>if k then some (.lst l)else none
 |_=>none
@[simp] theorem Ob{r:R V}:src k fr (.v i) r=R.of (zP k fr i) fr:=nd rfl
noncomputable def LU(fr:Fr)(i:Nat)(s:Sl):Option (Option Sl)->Option Fr
 |some (some (.bor _))=>none
 |some (some (.ro _))=>none
 |_=>some (fr.set i (some s))
@[simp] theorem LV:put fr i s=LU fr i s fr[i]?:=by unfold put LU;split<;>simp_all
def vZ(m:ME)(i:Nat)(ds:List V)(fr:Fr):Option (Option Sl)->R V
 |some (some (.own l))=>match m5 m l ds with
  |some (v,l')=>.ok v (fr.set i (some (.own l')))
  |none=>.bad
 |some (some (.bor l))=>match m5 m l ds with
  |some (v,l')=>.ok v (fr.set i (some (.bor l')))
  |none=>.bad
 |_=>.bad
@[simp] theorem HD{m:ME}{ds:List V}:DQ m i ds fr=vZ m i ds fr fr[i]?:=by unfold DQ vZ;split<;>simp_all<;>rfl
def HF{d:V}(h:l.length<100000):vZ .append i [d] fr (some (some (.own l)))=.ok .aO (fr.set i (some (.own (l++[d])))):=by
 simp[vZ,m5,dS h (show 100000<=big by decide)]
def yH:vZ .pop i [] fr (some (some (.own (l++[v]))))=.ok v (fr.set i (some (.own l))):=by
 simp[vZ,m5]
end
def vo(o:Option Sl):Prop:=o=none\/∃y,o=some (.val y)
theorem vo.none:vo none:=.inl rfl
theorem vo.val{v:V}:vo (some (.val v)):=.inr ⟨v,rfl⟩
def LW{fr:Fr}{i:Nat}{s:Sl}{b:Option Sl}(h:vo b):LU fr i s (some b)=some (fr.set i (some s)):=by rcases h with rfl|⟨y,rfl⟩<;>rfl
def kO{b:Option Sl}(h:vo b):b.map Sl.gp=b:=by rcases h with rfl|⟨y,rfl⟩<;>rfl
def Oc(f:V->Fr->R Fl)(ds:List V):Fl->Fr->R Fl:=λp af=>match p with
 |.nx=>forL f ds af
 |.ct=>forL f ds af
 |.bk=>.ok .nx af
 |.ret x=>.ok (.ret x) af
section
variable{f:V->Fr->R Fl}{ds:List V}{d:V}{fr:Fr}
@[simp] theorem sL:forL f (d :: ds) fr=(f d fr).bind (Oc f ds):=nd rfl
end
section
variable{a:E}
@[simp] theorem R9:kf a []=true:=by cases a<;>simp[kf]
@[simp] theorem QI:eF .nil=[]:=by rw[eF]
end
def qM{α:Type}{l:List α}{i:Int}(h0:0<=i):bC l i=l[i.toNat]?:=by
 unfold bC dH;rw[cG h0];split
 .rfl
 .rw[Um (by omega)];rfl
@[simp] theorem Od{α:Type}{l:List α}:bC l (0:Int)=l[0]?:=by rw[qM (by omega)];rfl
@[simp] theorem xB{α:Type}{l:List α}{n:Nat}:bC l (n:Int)=l[n]?:=by rw[qM (by omega)];simp
def B5{α:Type}{l:List α}:bC l (-1:Int)=l.getLast?:=by
 unfold bC dH;cases l with
 |nil=>rfl
 |cons a l=>
  have h1:¬ (0:Int)<=-1:=by omega
  have h2:-(((a :: l).length:Nat):Int)<=-1:=by simp;omega
  rw[Cd h1,cG h2,List.getLast?_eq_getElem?];simp only[Option.bind]
  congr 1
  simp;omega
noncomputable def uf:Fn:=⟨2,2,(.cons (.iff (.cmp .eq (.v 0) (.lst .nil)) (.cons (.ret (.bin .mul (.c (.int 7)) (.v 1))) .nil) .nil) (.cons (.ret (.bin .add (.ix (.v 0) (.bin .mod (.v 1) (.bi .len (.cons (.v 0) .nil)))) (.bin .mul (.c (.int 6553)) (.bin .fdiv (.v 1) (.bi .len (.cons (.v 0) .nil)))))) .nil))⟩
noncomputable def v5(c:Nat):Fn:=⟨3,4,(.cons (.set 3 (.bin .mod (.bin .add (.bin .mul (.bin .mod (.cl c (.cons (.v 0) (.cons (.v 1) .nil))) (.c (.int 2147483563))) (.c (.int 69069))) (.bin .mul (.c (.int 104723)) (.bin .add (.v 1) (.c (.int 1))))) (.c (.int 2147483563)))) (.cons (.set 3 (.bin .mod (.bin .add (.bin .mul (.v 3) (.v 3)) (.bin .fdiv (.v 3) (.c (.int 3)))) (.c (.int 2147483399)))) (.cons (.ret (.bin .mod (.bin .fdiv (.bin .mod (.bin .add (.bin .mul (.v 3) (.v 3)) (.bin .fdiv (.v 3) (.c (.int 7)))) (.c (.int 2147483647))) (.c (.int 11))) (.v 2))) .nil)))⟩
noncomputable def ug(ns:List Int)(k:Int):Int:=if ns=[]then 7*k else (ns[(k % ns.length).toNat]?.getD 0)+6553*(k / ns.length)
def B6(ns:List Int)(k many:Int):Int:=
 let c:=(ug ns k % 2147483563*69069+104723*(k+1)) % 2147483563
 let c:=(c*c+c / 3) % 2147483399
 (c*c+c / 7) % 2147483647 / 11 % many
def LX(ns:List Int)(k:Int){many:Int}(h:0<many):0<=B6 ns k many:=Vn _ (by omega)
def LY(ns:List Int)(k:Int){many:Int}(h:0<many):B6 ns k many<many:=UU _ h
noncomputable def qN(ns:List Int):V:=.bB (ns.map V.int)
def HG(ns:List Int):bZ (dD (18+1)) (ns.map V.int) []=some (decide (ns=[])):=by cases ns<;>simp
section
variable{P:aB}{w:Nat}{fr af ak bz:Fr}{k b:Bool}{a e c:E}{es:Es}{ss sa sb:Ss}{st:S}{lo hi:Eo}{it:It}{v x y z:V}{vs:List V}{i:Nat}{l:List V}{Q:Fl->Fr->Prop}
def az{d:D}(h:ofD d=some v):ev P k (.c d) fr=.ok v fr:=by rw[QG,h];rfl
def aq(h:lC k fr i=some v):ev P k (.v i) fr=.ok v fr:=by rw[Lx,h];rfl
def di(h:bH P false es fr=.ok vs af)(h2:iK vs=some v):ev P k (.tup es) fr=.ok v af:=by rw[Ly,h,aj,h2];rfl
def jl(h:bH P false es fr=.ok vs af)(h2:cV vs=some v):ev P k (.lst es) fr=.ok v af:=by rw[Lz,h,aj,h2];rfl
def aH{o:bu}(h:ev P (kf a (bf e)) a fr=.ok x af)(h2:ev P true e af=.ok y ak)(h3:bG o x y=some v):ev P k (.bin o a e) fr=.ok v ak:=by rw[LA,h,aj,h2,aj,h3];rfl
def aS{o:aV}(h:ev P (kf a (bf e)) a fr=.ok x af)(h2:ev P true e af=.ok y ak)(h3:cop o x y=some b):ev P k (.cmp o a e) fr=.ok (.bl b) ak:=by rw[LC,h,aj,h2,aj,h3];rfl
def QJ(h:ev P true a fr=.ok (.bl b) af):ev P k (.nt a) fr=.ok (.bl (!b)) af:=by rw[N3,h];rfl
def qO{j:Int}(h:ev P true a fr=.ok (.int j) af):ev P k (.neg a) fr=.ok (.int (-j)) af:=by rw[LF,h];rfl
def SA(h:ev P true a fr=.ok (.bl b) af)(h2:b=true->ev P k e af=.ok v ak)(h3:b=false->.bl false=v/\af=ak):ev P k (.an a e) fr=.ok v ak:=by
 rw[E5,h,aj,BZ];cases b with
 |true=>exact h2 rfl
 |false=>obtain⟨rfl,rfl⟩:=h3 rfl;rfl
def E6(h:ev P true a fr=.ok (.bl true) af)(h2:ev P k e af=.ok v ak):ev P k (.an a e) fr=.ok v ak:=by rw[E5,h,aj,BZ];exact h2
def oh(h:aC P a fr=.ok b af)(h2:b=true->ev P k e af=.ok v ak)(h3:b=false->ev P k c af=.ok v ak):ev P k (.iH a e c) fr=.ok v ak:=by
 rw[LG,h,aj];cases b with
 |true=>exact h2 rfl
 |false=>exact h3 rfl
def fq(h:ev P (kf a (bf e)) a fr=.ok x af)(h2:ev P true e af=.ok y ak)(h3:fB x y=some v):ev P k (.ix a e) fr=.ok v ak:=by rw[N4,h,aj,h2,aj,h3];rfl
def bY{p q:Option Int}(h:ev P (kf a (kq lo++kq hi)) a fr=.ok x af)(h2:fF P lo af=.ok p ak)(h3:fF P hi ak=.ok q bz)(h4:eH x p q=some v):ev P k (.sl a lo hi) fr=.ok v bz:=by rw[N5,h,aj,h2,aj,h3,aj,h4];rfl
def B7{b:E}{l m:List V}(h:ev P (kf a (bf b)) a fr=.ok (.lst l) af)(h2:ev P true b af=.ok (.lst m) ak)(h3:(l++m).length<=Ev.big):ev P k (.fh a b) fr=.ok (.lst (l++m)) ak:=by rw[Hs,h,aj,h2,aj];show R.of (cV (l++m)) ak=_;rw[bg h3];rfl
def LZ(h:ev P true a fr=.ok x af)(h2:lQ x=some v):ev P k (.rv a) fr=.ok v af:=by rw[N6,h,aj,h2];rfl
def b6{f:Nat}{as:List (Nat ⊕ V)}(h:dN P es fr=.ok as af)(h2:eg P f as af=.ok v ak):ev P k (.cl f es) fr=.ok v ak:=by rw[N7,h,aj];exact h2
def fu{g:BI}(h:bH P true es fr=.ok vs af)(h2:cU g vs=some v):ev P k (.bi g es) fr=.ok v af:=by rw[N8,h,aj,h2];rfl
def uh{m:ME}(hm:iy m=true)(hl:(lent fr i).isSome=true)(h:bH P (yg m) es fr=.ok vs af)(h2:vZ m i vs af af[i]?=.ok v ak):ev P k (.me m (.v i) es) fr=.ok v ak:=by
 rw[LH hm,cG hl,h,aj,HD];exact h2
def jY{m:ME}(hm:iy m=false)(h:ev P (kf a (eF es)) a fr=.ok x af)(h2:bH P true es af=.ok vs ak)(h3:dZ m x vs=some v):ev P k (.me m a es) fr=.ok v ak:=by rw[LI hm,h,aj,h2,aj,h3];rfl
def om{ts:List TY}(h:ev P true a fr=.ok x af)(h2:ts.any (cL x)=b):ev P k (.dM a ts) fr=.ok (.bl b) af:=by rw[LJ,h,aj,h2]
def ek{t:T}{cond:Eo}(h:bQ P true it fr=.ok vs af)(hu:undef t af=true)(h2:bw (dh P a t cond af) vs=some l)(h3:cV l=some v):ev P k (.comp a t it cond) fr=.ok v af:=by
 rw[rA,h,aj,cG hu,h2];show R.of (cV l) af=_;rw[h3];rfl
def jm(h:bQ P true it fr=.ok vs af)(h2:cV vs=some v):ev P k (.fN it) fr=.ok v af:=by rw[LK,h,aj,h2];rfl
def iB{kvs:List (D×D)}(h:ev P true a fr=.ok x af)(h2:dB x kvs=some v):ev P k (.dJ kvs a) fr=.ok v af:=by rw[Ht,h,aj,h2];rfl
def zY(h:ev P true a fr=.ok x af)(h2:toT x=some v):ev P k (.fO a) fr=.ok v af:=by rw[LL,h,aj,h2];rfl
def aG:bH P k .nil fr=.ok [] fr:=Hu
def av(h:ev P (k&&kf a (eF es)) a fr=.ok v af)(h2:bH P k es af=.ok vs ak):bH P k (.cons a es) fr=.ok (v :: vs) ak:=by rw[DR,h,aj,h2];rfl
def aU:dN P .nil fr=.ok [] fr:=Hv
def aT{as:List (Nat ⊕ V)}(hi:fS fr a=none)(h:ev P false a fr=.ok v af)(h2:dN P es af=.ok as ak):dN P (.cons a es) fr=.ok (.inr v :: as) ak:=by rw[vX,hi,zX,h,aj,h2];rfl
def QK{as:List (Nat ⊕ V)}(hi:fS fr a=some i)(h2:dN P es fr=.ok as ak):dN P (.cons a es) fr=.ok (.inl i :: as) ak:=by rw[vX,hi,zW,h2];rfl
def bL:fF P .no fr=.ok none fr:=LM
def br{j:Int}(h:ev P true a fr=.ok (.int j) af):fF P (.yes a) fr=.ok (some j) af:=by rw[Hw,h];rfl
def L0(h:aC P a fr=.ok false af):aC P (.an a e) fr=.ok false af:=by rw[B3,h];rfl
def L1{b2:Bool}(h:aC P a fr=.ok true af)(h2:aC P e af=.ok b2 ak):aC P (.an a e) fr=.ok b2 ak:=by rw[B3,h];exact h2
def nu(h:aC P a fr=.ok true af):aC P (.orr a e) fr=.ok true af:=by rw[yF,h];rfl
def fD{b2:Bool}(h:aC P a fr=.ok false af)(h2:aC P e af=.ok b2 ak):aC P (.orr a e) fr=.ok b2 ak:=by rw[yF,h];exact h2
def fL(h:aC P a fr=.ok b af):aC P (.nt a) fr=.ok (!b) af:=by rw[LN,h];rfl
noncomputable def plainT:E->Bool
 |.an _ _=>false
 |.orr _ _=>false
 |.nt _=>false
 |_=>true
def aI(hp:plainT a=true)(h:ev P true a fr=.ok x af)(h2:truthy x=b):aC P a fr=.ok b af:=by
 have:aC P a fr=(ev P true a fr).bind LO:=by
  cases a<;>first | (cases hp;done) | (rw[aC];rfl;all_goals (intros;contradiction))
 rw[this,h,aj,Hy,h2]
def er(h:src k fr a (ev P k a fr)=.ok x af)(h2:gb x=some vs):bQ P k (.seq a) fr=.ok vs af:=by rw[yG,h,aj,h2];rfl
def iQ(h:zP k fr i=some v){r:R V}:src k fr (.v i) r=.ok v fr:=by rw[Ob,h];rfl
def kP(h:bH P true es fr=.ok vs af)(h2:dX vs=some l):bQ P k (.fz es) fr=.ok l af:=by rw[Hz,h,aj,h2];rfl
def iY{y:V}(h:ev P (kf a (bf e)) a fr=.ok x af)(h2:ev P true e af=.ok y ak)(h3:pQ x y=some l):bQ P k (.ir a e) fr=.ok l ak:=by rw[HA,h,aj,h2,aj,h3];rfl
def yI(h:ev P false a fr=.ok v af):m6 a fr=fr:=by
 cases a with
 |v j=>
  simp only[Lx]at h;show fr.modify j _=fr;apply List.ext_getElem?;intro i;rw[Wl];cases z:fr[i]? with
  |none=>rfl
  |some o=>
   show some (if j=i then Option.map Sl.gp o else o)=some o;by_cases hj:j=i
   .subst hj;rw[cG rfl];unfold lC at h;rw[z]at h;rcases o with _|s
    .rfl
    .cases s with
     |own l=>cases h
     |_=>rfl
   .rw[Cd hj]
 |_=>rfl
def bP(h:ev P false a fr=.ok v af)(hn:isNew a=false)(hp:put af i (.val v)=some ak)(q:Q .nx ak):Wp (ex P w (.set i a) fr) Q:=by
 rw[B4,yI h,h,aj,hn,hp];exact⟨_,_,rfl,q⟩
def jQ(h:ev P false a fr=.ok (.lst l) af)(hn:isNew a=true)(hp:put af i (.own l)=some ak)(q:Q .nx ak):Wp (ex P w (.set i a) fr) Q:=by
 rw[B4,yI h,h,aj,hn,cG rfl,DS,hp];exact⟨_,_,rfl,q⟩
def Oe(h:ev P true a fr=.ok v af)(q:Q .nx af):Wp (ex P w (.exp a) fr) Q:=by rw[LQ,h];exact⟨_,_,rfl,q⟩
def bV(h:ev P false a (iT fr)=.ok v af)(q:Q (.ret v) af):Wp (ex P w (.ret a) fr) Q:=by rw[LR,h];exact⟨_,_,rfl,q⟩
def bO(h:aC P a fr=.ok b af)(h2:b=true->Wp (exs P w sa af) Q)(h3:b=false->Wp (exs P w sb af) Q):Wp (ex P w (.iff a sa sb) fr) Q:=by
 rw[LS,h,aj];cases b with
 |true=>exact h2 rfl
 |false=>exact h3 rfl
def bM(q:Q .nx fr):Wp (exs P w .nil fr) Q:=by rw[HC];exact⟨_,_,rfl,q⟩
def nx(P:aB)(w:Nat)(ss:Ss)(Q:Fl->Fr->Prop):Fl->Fr->Prop
 |.nx,fr=>Wp (exs P w ss fr) Q
 |g,fr=>Q g fr
def au(q:Wp (ex P w st fr) (nx P w ss Q)):Wp (exs P w (.cons st ss) fr) Q:=by
 rw[DT,wp_bind];refine q.mono λg af z=>?_;cases g with
 |nx=>exact z
 |bk=>exact⟨_,_,rfl,z⟩
 |ct=>exact⟨_,_,rfl,z⟩
 |ret v=>exact⟨_,_,rfl,z⟩
def um{t:T}(h:bQ P false it (qA (itv it) fr)=.ok vs af)(q:Wp (forL (turnF P w t ss) vs af) Q):Wp (ex P w (.for t it ss) fr) Q:=by rw[uO,h,aj];exact q
def qP{t:T}{d:V}(hb:aY t d fr=some af)(q:Wp (exs P w ss af) Q):Wp (turnF P w t ss d fr) Q:=by unfold turnF;rw[hb];exact q
def eB{t:T}{d:V}(hb:aY t d (jX fr)=some af)(h:ev P false a af=.ok v ak):dh P a t .no fr d=some (some v):=by
 unfold dh;rw[hb];dsimp only;rw[vY];dsimp only;rw[h];rfl
def yJ{t:T}{d:V}(hb:aY t d (jX fr)=some af)(h:aC P c af=.ok b ak)(h2:b=true->ev P false a af=.ok v bz):dh P a t (.yes c) fr d=some (if b then some v else none):=by
 unfold dh;rw[hb];dsimp only;rw[Hx,h];dsimp only;cases b with
 |true=>rw[h2 rfl];rfl
 |false=>rfl
def gG{p q:List Nat}:cop .eq (.str p) (.str q)=some (decide (p=q)):=rM
def jZ{p q:List Nat}:cop .ne (.str p) (.str q)=some (!decide (p=q)):=by rw[nj,rM];rfl
def v8{p q:Int}:cop .eq (.int p) (.int q)=some (decide (p=q)):=yD
def E7{p q:Int}:cop .ne (.int p) (.int q)=some (!decide (p=q)):=by rw[nj,yD];rfl
def QL{p q:Int}:cop .lt (.int p) (.int q)=some (decide (p<q)):=rfl
def rQ{p q:Int}:cop .le (.int p) (.int q)=some (decide (p<=q)):=rfl
def DU{p q:Int}:cop .gt (.int p) (.int q)=some (decide (q<p)):=rfl
def j0{p q:Int}(h:bS p q=true):bG .mul (.int p) (.int q)=some (.int (p*q)):=by rw[DO,cG h]
def oq{p q:Int}(h:0<q):bG .mod (.int p) (.int q)=some (.int (p % q)):=by rw[Hi,cG h]
def uo{p q:Int}(h:0<q)(h2:q<1073741824):bG .fdiv (.int p) (.int q)=some (.int (p / q)):=by rw[DP,cG ⟨h,h2⟩]
end
def eE{fr:Fr}{i:Nat}{s:Sl}{o:Option Sl}(e:fr[i]?=some o)(h:vo o):put fr i s=some (fr.set i (some s)):=by rw[LV,e,LW h]
def bind1{fr:Fr}{i:Nat}{v:V}{a:Option Sl}(ea:fr[i]?=some a)(ha:vo a):aY (.one i) v fr=some (fr.set i (some (.val v))):=eE ea ha
end Pv
namespace Pv
open Ev (D O Hh bu aV TY BI ME T E Es Eo It S Ss Fn)
theorem jH{f:V->Option (Option V)}{g:V->Option Nat}(hg:∀d c,g d=some c->f d=none):∀(ds:List V) {c:Nat},dm f g ds=some c->bw f ds=none
 |[],_,z=>nomatch z
 |d :: ds,c,z=>by
  simp only[dm]at z;simp only[bw];cases y:f d with
  |some o=>rw[y]at z;show Option.bind (some o) _=none;simp only[Option.bind];rw[jH hg ds z]
  |none=>rfl
section
variable{P:aB}{X:bR}{w:Nat}(hX:∀f sl c,X f sl=some c->P f sl=none)
include hX
mutual
theorem bT:∀(e:E) {fr:Fr}{c:Nat},xe P X e fr=some c->(∀k,ev P k e fr=.bad)/\aC P e fr=.bad
 |.cl f es,fr,c,z=>by
  simp only[xe]at z;have q:∀k,ev P k (.cl f es) fr=.bad:=λk=>by
   rw[ev];cases y:dN P es fr with
   |ok as af=>
    rw[y]at z;simp only at z;simp only[aj];unfold nU at z;unfold eg;split at z
    case isFalse=>cases z
    rename_i nd;rw[cG nd];rw[fX]at z;obtain⟨sl,z1,z2⟩:=z;rw[z1];simp only;rw[hX _ _ _ z2]
   |bad=>rfl
  exact⟨q,by rw[aC,q];rfl;all_goals (intros;contradiction)⟩
 |.ix a b,fr,c,z=>by
  simp only[xe]at z;have q:∀k,ev P k (.ix a b) fr=.bad:=λk=>by rw[ev,(bT a z).1];rfl
  exact⟨q,by rw[aC,q];rfl;all_goals (intros;contradiction)⟩
 |.me m o es,fr,c,z=>by
  simp only[xe]at z;split at z
  case isFalse=>cases z
  rename_i hm;split at z
  case h_2=>cases z
  rename_i i hi;have q:∀k,ev P k (.me m o es) fr=.bad:=λk=>by
   rw[ev,cG hm,hi];simp only;rw[rR es z];rfl
  exact⟨q,by rw[aC,q];rfl;all_goals (intros;contradiction)⟩
 |.tup es,fr,c,z=>by
  simp only[xe]at z;have q:∀k,ev P k (.tup es) fr=.bad:=λk=>by rw[ev,rR es z];rfl
  exact⟨q,by rw[aC,q];rfl;all_goals (intros;contradiction)⟩
 |.fO a,fr,c,z=>by
  simp only[xe]at z;have q:∀k,ev P k (.fO a) fr=.bad:=λk=>by rw[ev,(bT a z).1];rfl
  exact⟨q,by rw[aC,q];rfl;all_goals (intros;contradiction)⟩
 |.comp elt t it cond,fr,c,z=>by
  simp only[xe]at z;have q:∀k,ev P k (.comp elt t it cond) fr=.bad:=λk=>by
   rw[ev];cases y:bQ P true it fr with
   |ok s af=>
    rw[y]at z;simp only at z;split at z
    .rename_i hu;simp only[aj,cG hu.1];have:=jH (f:=lD P elt t cond af) (λd c2 e=>by
      split at e
      .rename_i ak eb;split at e
       .rename_i bz ec;unfold lD;rw[eb];simp only[ec,QO];rw[(bT elt e).1]
       .cases e
      .cases e) s z
     refine Wg (Pc (λq:Option (List V)=>R.of (q.bind cV) af) this) rfl
    .cases z
   |bad=>rfl
  exact⟨q,by rw[aC,q];rfl;all_goals (intros;contradiction)⟩
 |.c _,_,_,z=>nomatch z|.v _,_,_,z=>nomatch z|.lst _,_,_,z=>nomatch z
 |.bin _ _ _,_,_,z=>nomatch z|.cmp _ _ _,_,_,z=>nomatch z
 |.ch _ _ _ _ _,_,_,z=>nomatch z
 |.nt _,_,_,z=>nomatch z|.neg _,_,_,z=>nomatch z|.an _ _,_,_,z=>nomatch z|.orr _ _,_,_,z=>nomatch z|.iH _ _ _,_,_,z=>nomatch z
 |.sl _ _ _,_,_,z=>nomatch z
 |.rv _,_,_,z=>nomatch z
 |.fh _ _,_,_,z=>nomatch z
 |.bi _ _,_,_,z=>nomatch z
 |.dM _ _,_,_,z=>nomatch z
 |.fN _,_,_,z=>nomatch z
 |.dJ _ _,_,_,z=>nomatch z
theorem yK:∀(es:Es) {fr:Fr}{c:Nat},vF P X es fr=some c->dN P es fr=.bad
 |.nil,_,_,z=>nomatch z
 |.cons e es,fr,c,z=>by
  simp only[vF]at z;rw[dN];split at z
  .rw[yK es z];rfl
  .split at z
   .rename_i y2;rw[y2];simp only[aj];rw[yK es z];rfl
   .rw[(bT e z).1];rfl
theorem rR:∀(es:Es) {k:Bool}{fr:Fr}{c:Nat},kL P X k es fr=some c->bH P k es fr=.bad
 |.nil,_,_,_,z=>nomatch z
 |.cons e es,k,fr,c,z=>by
  simp only[kL]at z;rw[bH];split at z
  .rename_i y2;rw[y2];simp only[aj];rw[rR es z];rfl
  .rw[(bT e z).1];rfl
end
omit hX in
theorem gA{f:V->Fr->R Fl}{g:V->Fr->Option Nat}(hg:∀d fr c,g d fr=some c->f d fr=.bad):∀(vs:List V) {fr:Fr}{c:Nat},fj f g vs fr=some c->forL f vs fr=.bad
 |[],_,_,z=>nomatch z
 |d :: ds,fr,c,z=>by
  simp only[fj]at z;simp only[forL];split at z
  .rename_i e;rw[e];exact gA hg ds z
  .rename_i e;rw[e];exact gA hg ds z
  .cases z
  .rw[hg _ _ _ z];rfl
omit hX in
theorem gD{t:Fr->R Bool}{f:Fr->R Fl}{g:Fr->Option Nat}(hg:∀fr c,g fr=some c->f fr=.bad):∀(n:Nat) {fr:Fr}{c:Nat},fQ t f g n fr=some c->eL t f n fr=.bad
 |0,_,_,z=>nomatch z
 |n+1,fr,c,z=>by
  simp only[fQ]at z;split at z
  case h_2=>cases z
  rename_i e0;simp only[eL,e0,aj,QO];split at z
  .rename_i e;rw[e];exact gD hg n z
  .rename_i e;rw[e];exact gD hg n z
  .cases z
  .rw[hg _ _ z];rfl
mutual
theorem mR:∀(s:S) {fr:Fr}{c:Nat},xs P X w s fr=some c->ex P w s fr=.bad
 |.cA c,_,_,_=>by rw[ex]
 |.set i e,fr,c,z=>by
  have:m6 e fr=fr:=by cases e<;>first|rfl|cases z
  rw[ex,this,(bT hX e z).1];rfl
 |.exp e,fr,c,z=>by rw[ex,(bT hX e z).1];rfl
 |.ret e,fr,c,z=>by rw[ex,(bT hX e z).1];rfl
 |.iff t a b,fr,c,z=>by
  simp only[xs]at z;rw[ex];cases y:aC P t fr with
  |bad=>rfl
  |ok k h1=>
   rw[y]at z;simp only at z;simp only[aj];cases k with
   |true=>exact cP a z
   |false=>exact cP b z
 |.for t it b,fr,c,z=>by
  simp only[xs]at z;rw[ex];split at z
  case h_2=>cases z
  rename_i y;rw[y];simp only[aj];refine gA (λd fr c q=>?_) _ z;cases k:aY t d fr with
  |none=>rfl
  |some bz=>rw[k]at q;exact cP b q
 |.oE t b,fr,c,z=>by
  simp only[xs]at z;rw[ex];exact gD (λfr c q=>cP b q) _ z
 |.tr _ _ _,_,_,z=>nomatch z
theorem cP:∀(s:Ss) {fr:Fr}{c:Nat},xss P X w s fr=some c->exs P w s fr=.bad
 |.nil,_,_,z=>nomatch z
 |.cons s ss,fr,c,z=>by
  simp only[xss]at z;rw[exs];split at z
  .rename_i e;rw[e];exact cP ss z
  .cases z
  .rw[mR s z];rfl
end
end
def Of{P:aB}{X:bR}{w:Nat}{fn:Fn}{ds:List Sl}{fr:Fr}{c:Nat}(z:xss P X w fn.body fr=some c):BK fn ds=none:=by
 unfold BK;rfl
theorem nv(F:List Fn)(w:Nat):∀(n f:Nat) (sl:List Sl) (c:Nat),bF F w n f sl=some c->run F w n f sl=none
 |0,_,_,_,_=>rfl
 |n+1,f,ds,c,z=>by
  rw[iu]at z;rw[fG];cases y:F[f]? with
  |none=>rw[y]at z;cases z
  |some fn=>
   rw[y]at z;simp only at z ⊢;split at z
   .rename_i k;rw[cG k,cP (nv F w n) _ z];exact Of z
   .cases z
section
variable{F:List Fn}{P:aB}{X:bR}{w n f c:Nat}{fr af ak:Fr}{s:S}{ss sa sb:Ss}{e t:E}{b:Bool}{es:Es}{v:V}
def eO(hX:∀f sl c,X f sl=some c->P f sl=none)(h:xs P X w s fr=some c):xss P X w (.cons s ss) fr=some c:=by
 simp only[xss,mR hX s h];exact h
def ny(h:Wp (ex P w s fr) λg af=>g=.nx/\xss P X w ss af=some c):xss P X w (.cons s ss) fr=some c:=by
 obtain⟨g,af,e,rfl,q⟩:=h;simp only[xss,e];exact q
def qQ(h:aC P t fr=.ok b af)(h2:(if b then xss P X w sa af else xss P X w sb af)=some c):xs P X w (.iff t sa sb) fr=some c:=by
 simp only[xs,h];exact h2
def uq:xs P X w (.cA c) fr=some c:=rfl
def Og{i:Nat}(h:xe P X e fr=some c):xs P X w (.set i e) fr=some c:=h
def y_ret(h:xe P X e (iT fr)=some c):xs P X w (.ret e) fr=some c:=h
def Oh{es:Es}(h:kL P X false es fr=some c):xe P X (.tup es) fr=some c:=by simp only[xe];exact h
def Oi(h:xe P X a fr=some c):xe P X (.fO a) fr=some c:=by simp only[xe];exact h
def HH{elt:E}{t:T}{it:It}{cond:Eo}(h:bQ P true it fr=.bad)(q:xi P X it fr=some c):xe P X (.comp elt t it cond) fr=some c:=by simp only[xe,h];exact q
def B8{elt:E}{t:T}{it:It}{cond:Eo}{vs:List V}{af:Fr}(h:bQ P true it fr=.ok vs af)(hu:undef t af=true)(hl:vs.length<=Ev.big)(q:dm (lD P elt t cond af) (λd=>match aY t d (jX af)with
   |some ak=>(match eN P cond ak with
    |.ok true _=>xe P X elt ak
    |_=>none)
   |none=>none) vs=some c):xe P X (.comp elt t it cond) fr=some c:=by simp only[xe,h,cG (And.intro hu hl)];exact q
theorem rS{α:Type}{f:V->Option (Option V)}{g:V->Option Nat}(e:α->V){v:α}{r:List α}(hv:f (e v)=none)(hg:g (e v)=some c):∀(l:List α),(∀a∈l,∃b,f (e a)=some b)->dm f g ((l++v :: r).map e)=some c
 |[],_=>by simp only[UQ,we,dm,hv];exact hg
 |a :: l,h=>by
  obtain⟨b,hb⟩:=h a (by simp);simp only[UJ,we,dm,hb];exact rS e hv hg l λx hx=>h x (by simp[hx])
def zZ{as:List (Nat ⊕ V)}(h:dN P es fr=.ok as af)(h2:nU X f as af=some c):xe P X (.cl f es) fr=some c:=by simp only[xe,h];exact h2
def qR{fn:Fn}{ds:List Sl}(hf:F[f]?=some fn)(hl:ds.length=fn.np)(h:xss (run F w n) (bF F w n) w fn.body (cI fn ds)=some c):bF F w (n+1) f ds=some c:=by
 rw[iu,hf];simp only;rw[cG hl];exact h
theorem jw:∀vs:List V,bD (vs.map .inr)=[]/\args fr (vs.map .inr)=some (vs.map Sl.val)
 |[]=>⟨rfl,rfl⟩
 |v :: vs=>⟨(jw vs).1,by rw[we,args,(jw vs).2];rfl⟩
def j5{vs:List V}(h:X f (vs.map .val)=some c):nU X f (vs.map .inr) fr=some c:=by
 have h1:=jw (fr:=fr);unfold nU;rw[(h1 vs).1,(h1 vs).2];exact h
def z9{vs:List V}(h:P f (vs.map .val)=none):eg P f (vs.map .inr) fr=.bad:=by
 have h1:=jw (fr:=fr);unfold eg;rw[(h1 vs).1,(h1 vs).2];simp only[h];rfl
def Oj{ds:List Sl}(hF:F.length<=1000)(ha:ds.all Sl.fS=true)(h:bF F w n f ds=some c):run F w n (f+1000) ds=some (.int (c:Int),[]):=by
 cases n with
 |zero=>cases h
 |succ n=>
  rw[fG,Um (by omega)];simp only[lR];rw[cG ⟨WT _ _,ha⟩,show f+1000 - Ev.xo=f from Vw ..];rw[h];rfl
def E8{Q:Fl->Fr->Prop}{vs:List V}{kk:Nat}(h:dN P es fr=.ok (vs.map .inr) af)(h2:P f (vs.map .val)=some (v,[]))(q:Q (.ret v) af):Wp (ex P w (.tr f kk es) fr) Q:=by
 have hl:=λvs=>(jw (fr:=fr) vs).1;have:=iX (P:=P) (f:=f) (fr:=af) h2;simp only[ex,h,aj,hl,this];exact⟨_,_,rfl,q⟩
def B9{Q:Fl->Fr->Prop}{vs:List V}(h:dN (run F w n) es fr=.ok (vs.map .inr) af)(hF:F.length<=1000)(h2:bF F w n f (vs.map .val)=some 0)(q:Q (.ret .aO) af):Wp (ex (run F w n) w (.tr f 1001 es) fr) Q:=by
 have hl:=λvs=>(jw (fr:=fr) vs).1;have ha:(vs.map Sl.val).all Sl.fS=true:=by simp[Sl.fS]
 have h3:=z9 (P:=run F w n) (f:=f) (fr:=af) (nv F w n f _ 0 h2);have h4:=iX (P:=run F w n) (f:=f+1000) (fr:=af) (Oj hF ha h2);have h5:zR 1001 (.int ((0:Nat):Int))=some .aO:=by simp[zR]
 simp only[ex,h,aj,hl,h3];show Wp ((eg (run F w n) (f+1000) (vs.map .inr) af).bind _) Q;rw[h4,aj,h5];exact⟨_,_,rfl,q⟩
end
end Pv
local macro_rules|`(tactic|array_get_dec)=>`(tactic|first
 |exact Pv.aG|exact Pv.aU|exact Pv.bL
 | (apply Pv.aq;rfl) | (apply Pv.az;rfl)|apply Pv.aH|apply Pv.aS|apply Pv.di|apply Pv.jl|apply Pv.fq|apply Pv.bY|apply Pv.b6|apply Pv.fu
 |apply Pv.QJ|apply Pv.qO|apply Pv.zY|apply Pv.jm|apply Pv.LZ | (apply Pv.uh rfl rfl) | (apply Pv.jY rfl)|apply Pv.iB
 |apply Pv.av | (apply Pv.aT rfl) | (apply Pv.QK rfl)|apply Pv.br|apply Pv.fL|apply Pv.aI rfl
 |exact Pv.ud|exact Pv.nX|exact Pv.gc|exact Pv.N1|exact Pv.uc|exact Pv.E3|exact Pv.NY
 | (with_reducible assumption)|exact Pv.aZ|exact Pv.DN|exact Pv.gG|exact Pv.jZ|exact Pv.v8|exact Pv.E7|exact Pv.QL|exact Pv.rQ|exact Pv.DU
 | (show Pv.truthy _=_;rfl) | (show Pv.fB _ _=some _;rfl) | (show Pv.toT _=some _;rfl) | (show Pv.dB _ _=some _;rfl) | (show Pv.gb _=some _;rfl)|assumption)
namespace Pv
open Ev (D bu aV TY BI ME T E Es Eo It S Ss Fn big deep b2i rep bS dH bC aJ cut aM cY slots)
def L3(a b:Int):bS (a % 2147483563) b=true:=by have h1:=Vn a (b:=2147483563) (by decide);have h2:=UU a (b:=2147483563) (by decide);simp[bS];omega
def QM(a b:Int):bS (a % 2147483399) b=true:=by have h1:=Vn a (b:=2147483399) (by decide);have h2:=UU a (b:=2147483399) (by decide);simp[bS];omega
def L4{l:List V}{j:Int}{v:V}(h:bC l j=some v):fB (.bB l) (.int j)=some v:=h
def L5{l m:List V}:cop .eq (.bB l) (.lst m)=bZ (dD (18+1)) l m:=rfl
def DV{F:List Fn}{w n c:Nat}(hc:F[c]?=some uf){ns:List Int}(hn:ns.length<=63)(k:Int):run F w (n+1) c [.val (qN ns),.val (.int k)]=some (.int (ug ns k),[]):=by
 refine cj hc rfl (au (bO (b:=decide (ns=[])) (aI rfl (aS (aq rfl) (jl aG uc) (L5.trans (HG ns))) rfl) (λh=>?_) λh=>bM ?_))
 .have h0:=Uj h;exact au (bV (aH (az rfl) (aq rfl) (j0 rfl)) ⟨by rw[ug,cG h0],rfl⟩)
 .have h0:=Vt h;have hlen:0<ns.length:=List.length_pos_iff.mpr h0;have Pb:(0:Int)<(ns.map V.int).length:=by rw[L7];exact Int.natCast_pos.mpr hlen
  have h30:((ns.map V.int).length:Int)<1073741824:=by rw[L7];omega
  have hm0:=Vn k (b:=(ns.length:Int)) (by omega);have hlt:(k % (ns.length:Int)).toNat<ns.length:=by have:=UU k (b:=(ns.length:Int)) (by omega);omega
  have hx:bC (ns.map V.int) (k % ((ns.map V.int).length:Int))=some (.int (ns[(k % (ns.length:Int)).toNat]?.getD 0)):=by
   rw[L7,qM hm0,SE,tP hlt];rfl
  refine au (bV (aH (fq (aq rfl) (aH (aq rfl) (fu (av (aq rfl) aG) yE) (oq Pb)) (L4 hx)) (aH (az rfl) (aH (aq rfl) (fu (av (aq rfl) aG) yE) (uo Pb h30)) (j0 rfl)) aZ) ⟨?_,rfl⟩);rw[ug,Cd h0,L7]
def Ca{F:List Fn}{w n c dr:Nat}(hc:F[c]?=some uf)(hd:F[dr]?=some (v5 c)){ns:List Int}(hn:ns.length<=63)(k:Int){many:Int}(hm:0<many):run F w (n+2) dr [.val (qN ns),.val (.int k),.val (.int many)]=some (.int (B6 ns k many),[]):=by
 refine cj hd rfl (au (bP (aH (aH (aH (aH (b6 (aT rfl (aq rfl) (aT rfl (aq rfl) aU)) (call2 (DV hc hn k))) (az rfl) (oq (by decide))) (az rfl) (j0 (L3 _ _))) (aH (az rfl) (aH (aq rfl) (az rfl) aZ) (j0 rfl)) aZ) (az rfl) (oq (by decide))) rfl rfl ?_));refine au (bP (aH (aH (aH (aq rfl) (aq rfl) (j0 (L3 _ _))) (aH (aq rfl) (az rfl) (uo (by decide) (by decide))) aZ) (az rfl) (oq (by decide))) rfl rfl ?_);exact au (bV (aH (aH (aH (aH (aH (aq rfl) (aq rfl) (j0 (QM _ _))) (aH (aq rfl) (az rfl) (uo (by decide) (by decide))) aZ) (az rfl) (oq (by decide))) (az rfl) (uo (by decide) (by decide))) (aq rfl) (oq hm)) ⟨rfl,rfl⟩)
inductive Pt where
 |keep (n:Nat)|put (s:List Nat)|drop (s:List Nat)
deriving DecidableEq
noncomputable def lH:List Nat:=[107,101,101,112]
noncomputable def v9:List Nat:=[112,117,116]
noncomputable def qS:List Nat:=[100,114,111,112]
def Pt.v:Pt->V
 |.keep n=>.tup [.str lH,.int n]
 |.put s=>.tup [.str v9,.str s]
 |.drop s=>.tup [.str qS,.str s]
def bW(c:List Pt):V:=.tup (c.map Pt.v)
def Cb(n:Nat)(a b:Pt):dD (n+2) a.v b.v=some (decide (a=b)):=by
 cases a<;>cases b<;>simp[Pt.v,lH,v9,qS]
 all_goals omega
def Cc(a b:List Pt):dD deep (bW a) (bW b)=some (decide (a=b)):=by
 simp only[bW,Hl];exact nY (λa b=>Cb 17 a b) a b
def getD_at{α:Type}{l:List α}{i:Int}(h0:0<=i)(h1:i<l.length)(d:α):bC l i=some (l.getD i.toNat d):=by
 have:i.toNat<l.length:=by omega
 rw[qM h0];simp[List.getD,tP this]
def oW{α β:Type}(l:List α)(f:α->β):(l.map λx=>[f x]).flatten=l.map f:=by induction l<;>simp[*]
def tO(lo:Int)(n:Nat):range lo n=(List.range n).map λ(i:Nat)=>V.int (lo+i):=rfl
def Aa{a b:List Pt}(h:a.length+b.length<=100000):bG .add (bW a) (bW b)=some (bW (a++b)):=by
 simp only[bW];rw[vS (by simpa using h)];simp
def Ab{j:Int}{n:Nat}(h:n<=100000)(e:j=n):dX [.int j]=some (range 0 n):=by
 subst e;rw[QE (by omega) (by omega)];rfl
def Pt.n:Pt->Nat
 |.keep n=>n
 |.put s=>s.length
 |.drop s=>s.length
def tot(c:List Pt):Nat:=(c.map Pt.n).sum
def DW(p:Pt)(c:List Pt):tot (p :: c)=p.n+tot c:=by simp[tot]
section
variable{n:Nat}
def QN{c:List Pt}{p:Pt}(h:p∈c):p.n<=tot c:=by
 induction c with
 |nil=>simp at h
 |cons q c ih=>
  rw[DW];rcases List.mem_cons.mp h with rfl|h
  .omega
  .have:=ih h;omega
end
def Ol{α:Type}(l:List α):cut l (some 1) none=l.tail:=by
 unfold cut aJ;cases l with
 |nil=>rfl
 |cons a l=>
  have:min (1:Int).toNat (a :: l).length=1:=by simp
  simp[this]
def L6{α:Type}(l:List α)(p k:Nat):cut l (some (p:Int)) (some ((p:Int)+k))=(l.drop p).take k:=by
 have h1:¬ (p:Int)<0:=by omega
 have h2:¬ (p:Int)+k<0:=by omega
 have h3:((p:Int)+k).toNat=p+k:=by omega
 simp only[cut,aJ,h1,h2,Uh,h3,VD];by_cases hp:p<=l.length
 .rw[Vj hp];by_cases hk:p+k<=l.length
  .rw[Vj hk];congr 1;omega
  .rw[VQ (by omega),Ul (by simp),Ul (by simp;omega)]
 .have e1:min p l.length=l.length:=by omega
  rw[e1,UG (qT _),UG (by omega)];simp
end Pv
namespace Pv
open Ev (rep)
end Pv
namespace Pv
end Pv
namespace Pv
open Ev (D bu aV TY BI ME T E Es Eo It S Ss Fn big deep b2i rep bS dH bC aJ cut aM cY slots)
def ur{α:Type}(l:List α)(m:Nat):cut l none (some (m:Int))=l.take m:=by
 have h1:¬ (m:Int)<0:=by omega
 simp only[cut,aJ,h1,Uh,VD,U0,Nat.sub_zero];by_cases h:m<=l.length
 .rw[Vj h]
 .rw[VQ (by omega),Ul (qT _),Ul (by omega)]
def Ac{α:Type}(l:List α)(m:Nat):cut l (some (m:Int)) none=l.drop m:=by
 have h1:¬ (m:Int)<0:=by omega
 simp only[cut,aJ,h1,Uh,VD];by_cases h:m<=l.length
 .rw[Vj h,Ul (by simp)]
 .rw[VQ (by omega),UG (qT _),UG (by omega)];simp
end Pv
namespace Pv
open Ev (deep big rep cut bC)
end Pv
namespace Pv
open Ev (D bu aV TY BI ME T E Es Eo It S Ss Fn big deep rep cut bC)
section
def Ma{α:Type}(m:List α)(x:α):cut (m++[x]) none (some (-1))=m:=by
 have e:Ev.aJ (m++[x]).length (m++[x]).length (some (-1))=m.length:=by
  unfold Ev.aJ;dsimp only;rw[cG (by decide)];simp;omega
 unfold Ev.cut;rw[e];simp[Ev.aJ]
end
end Pv
namespace Pv
end Pv
namespace Pv
open Ev (D bu aV TY BI ME T E Es Eo It S Ss Fn big deep b2i rep bS dH bC aJ cut aM cY slots)
def gy(Ce:Nat):Fn:=⟨1,2,(.cons (.iff (.orr (.nt (.dM (.v 0) [.tuple])) (.cmp .gt (.bi .len (.cons (.v 0) .nil)) (.c (.int 12)))) (.cons (.ret (.c (.bl false))) .nil) .nil) (.cons (.ret (.bi .all (.cons (.comp (.cl Ce (.cons (.v 1) .nil)) (.one 1) (.seq (.v 0)) .no) .nil))) .nil))⟩
def oX(nA:Nat):S:=.iff (.cmp .eq (.ix (.v 0) (.c (.int 0))) (.c (.str [107,101,101,112]))) (.cons (.ret (.cl nA (.cons (.ix (.v 0) (.c (.int 1))) .nil))) .nil) .nil
def oY(nB:Nat):S:=.ret (.an (.cmp .isin (.ix (.v 0) (.c (.int 0))) (.tup (.cons (.c (.str [112,117,116])) (.cons (.c (.str [100,114,111,112])) .nil)))) (.cl nB (.cons (.ix (.v 0) (.c (.int 1))) .nil)))
def eW(nA:Nat)(nB:Nat):Fn:=⟨1,1,(.cons (.iff (.orr (.nt (.dM (.v 0) [.tuple])) (.cmp .ne (.bi .len (.cons (.v 0) .nil)) (.c (.int 2)))) (.cons (.ret (.c (.bl false))) .nil) .nil) (.cons (oX nA) (.cons (oY nB) .nil)))⟩
def gT:Fn:=⟨1,1,(.cons (.iff (.orr (.dM (.v 0) [.bool]) (.nt (.dM (.v 0) [.int]))) (.cons (.ret (.c (.bl false))) .nil) .nil) (.cons (.ret (.ch .le .le (.c (.int 1)) (.v 0) (.c (.int 99)))) .nil))⟩
def gU:Fn:=⟨1,2,(.cons (.iff (.orr (.nt (.dM (.v 0) [.str])) (.nt (.ch .le .le (.c (.int 1)) (.bi .len (.cons (.v 0) .nil)) (.c (.int 8))))) (.cons (.ret (.c (.bl false))) .nil) .nil) (.cons (.ret (.bi .all (.cons (.comp (.cmp .isin (.v 1) (.c (.str [97,98,99,100,101,102,103,104,105,106,107,108,109,110,111,112,113,114,115,116,117,118,119,120,121,122,32]))) (.one 1) (.seq (.v 0)) .no) .nil))) .nil))⟩
def lX:Fn:=⟨1,3,(.cons (.ret (.me .join (.c (.str [47])) (.cons (.comp (.bin .add (.dJ [(.str [107,101,101,112],.str [61]),(.str [112,117,116],.str [43]),(.str [100,114,111,112],.str [45])] (.v 1)) (.bi .gn (.cons (.v 2) .nil))) (.many [1,2]) (.seq (.v 0)) .no) .nil))) .nil)⟩
def wQ(tY:Nat):Fn:=⟨1,2,(.cons (.ret (.me .join (.c (.str [])) (.cons (.comp (.bin .add (.cl tY (.cons (.v 1) .nil)) (.c (.str [10]))) (.one 1) (.seq (.v 0)) .no) .nil))) .nil)⟩
def DY{P:aB}{k:Bool}{fr af ak:Fr}{o p:aV}{a b c:E}{x y z:V}{b1 b2:Bool}(h1:ev P (kf a (bf b)) a fr=.ok x af)(h2:ev P (kf b (bf c)) b af=.ok y ak)(h3:cop o x y=some b1)(h4:b1=true->ev P true c ak=.ok z ak/\cop p y z=some b2)(h5:b1=false->b2=false):ev P k (.ch o p a b c) fr=.ok (.bl b2) ak:=by
 rw[N2,h1,aj,h2,aj,h3];show(R.ok b1 ak).bind _=_;rw[aj];cases b1 with
 |false=>rw[h5 rfl];rfl
 |true=>obtain⟨e1,e2⟩:=h4 rfl;rw[cG rfl,e1,aj,e2];rfl
def lJ(n:Nat):List Nat:=(Nat.toDigits 10 n).map Char.toNat
def jR(n:Nat):Ev.cO (n:Int)=lJ n:=by
 show((toString (n:Int)).toList).map Char.toNat=_;rw[show toString (n:Int)=String.ofList (Nat.toDigits 10 n)from rfl,String.toList_ofList];rfl
def HL:((List.range 100).all λn=>decide (1<=(lJ n).length)&&decide ((lJ n).length<=2)&&(lJ n).all Ev.pq&&(Ev.mL (lJ n)==some (n:Int)))=true:=by decide +kernel
structure Dg(n:Nat):Prop where
 lo:1<=(Ev.cO (n:Int)).length
 hi:(Ev.cO (n:Int)).length<=2
 sg:∀x∈Ev.cO (n:Int),48<=x/\x<=57
 nm:Ev.mL (Ev.cO (n:Int))=some (n:Int)
def dg{n:Nat}(h:n<=99):Dg n:=by
 have:=List.all_eq_true.mp HL n (by simp;omega);rw[<-jR]at this;simp only[fW,SD,UZ,Uw,Ev.pq]at this;exact⟨this.1.1.1,this.1.1.2,this.1.2,this.2⟩
theorem wg{c:Nat}:∀{s:List Nat},c∉s->Ev.ay c s=[s]
 |[],_=>rfl
 |x :: s,h=>by
  simp only[U9,not_or]at h;simp only[Ev.ay,Cd (show ¬ x=c from λz=>h.1 z.symm),wg h.2]
theorem tR{c:Nat}{r:List Nat}:∀{s:List Nat},c∉s->Ev.ay c (s++c :: r)=s :: Ev.ay c r
 |[],_=>by simp[Ev.ay]
 |x :: s,h=>by
  simp only[U9,not_or]at h;simp only[UJ,Ev.ay,Cd (show ¬ x=c from λz=>h.1 z.symm),tR h.2]
theorem qU{c:Nat}:∀{ps:List (List Nat)},ps≠[]->(∀p∈ps,c∉p)->Ev.ay c (aM [c] ps)=ps
 |[],h,_=>absurd rfl h
 |[s],_,h=>by simp only[aM];exact wg (h s (by simp))
 |s :: t :: r,_,h=>by
  simp only[aM];rw[WL,List.singleton_append,tR (h s (by simp)),qU (by simp) λp hp=>h p (by simp[hp])]
noncomputable def sgn:List Nat:=[97,98,99,100,101,102,103,104,105,106,107,108,109,110,111,112,113,114,115,116,117,118,119,120,121,122,32]
def WS(s:List Nat):Prop:=1<=s.length/\s.length<=8/\∀x∈s,sgn.contains x=true
def WP:Pt->Prop
 |.keep n=>1<=n/\n<=99
 |.put s=>WS s
 |.drop s=>WS s
structure Wide(c:List Pt):Prop where
 len:c.length<=12
 pt:∀p∈c,WP p
def Pt.t:Pt->List Nat
 |.keep n=>61 :: Ev.cO n
 |.put s=>43 :: s
 |.drop s=>45 :: s
def ct(c:List Pt):List Nat:=aM [47] (c.map Pt.t)
def Cf{x:Nat}(h:sgn.contains x=true):x≠47/\x≠10:=by
 constructor <;> (intro e;subst e;revert h;decide)
def rV{p:Pt}(h:WP p):1<=p.t.length/\p.t.length<=9/\∀x∈p.t,x≠47/\x≠10:=by
 cases p with
 |keep n=>
  have d:=dg h.2;have d1:=d.hi;refine⟨by simp[Pt.t],by simp[Pt.t];omega,λx hx=>?_⟩;rcases List.mem_cons.mp hx with rfl|hx
  .decide
  .have:=d.sg x hx;omega
 |put s=>
  obtain⟨h1,h2,h3⟩:=h;refine⟨by simp[Pt.t],by simp[Pt.t];omega,λx hx=>?_⟩;rcases List.mem_cons.mp hx with rfl|hx
  .decide
  .exact Cf (h3 x hx)
 |drop s=>
  obtain⟨h1,h2,h3⟩:=h;refine⟨by simp[Pt.t],by simp[Pt.t];omega,λx hx=>?_⟩;rcases List.mem_cons.mp hx with rfl|hx
  .decide
  .exact Cf (h3 x hx)
theorem join_le{s:List Nat}{b:Nat}:∀{l:List (List Nat)},(∀p∈l,p.length<=b)->(aM s l).length<=l.length*(b+s.length)
 |[],_=>by simp[aM]
 |[p],h=>by have:=h p (by simp);simp[aM];omega
 |p :: q :: r,h=>by
  have h1:=h p (by simp);have h2:=join_le (s:=s) (l:=q :: r) λx hx=>h x (by simp[hx]);simp only[aM,HJ];rw[MZ,Vh];omega
def Cg{c:List Pt}(h:Wide c):(ct c).length<=120:=by
 have h1:(ct c).length<=(c.map Pt.t).length*(9+[47].length):=join_le λp hp=>by
  obtain⟨q,h3,rfl⟩:=List.mem_map.mp hp;exact(rV (h.pt q h3)).2.1
 have h2:=h.len;simp at h1;omega
def DZ{c:List Pt}(h:Wide c)(h0:c≠[]):Ev.ay 47 (ct c)=c.map Pt.t:=qU (by simpa using h0) λp hp z=>by
 obtain⟨q,h3,rfl⟩:=List.mem_map.mp hp;exact((rV (h.pt q h3)).2.2 47 z).1 rfl
def Mc{c:List Pt}(h:Wide c):ct c=[]↔c=[]:=by
 constructor
 .intro e;cases c with
  |nil=>rfl
  |cons p c=>
   have h1:=(rV (h.pt p (by simp))).1;cases c with
   |nil=>simp only[ct,we,US,aM]at e;rw[e]at h1;cases h1
   |cons q c=>
    have:=Pc List.length e;simp[ct,aM]at this
 .rintro rfl;rfl
def Oo{s:List Nat}{l:List (List Nat)}{b:Nat}(hb:∀p∈l,p.length<=b)(h:l.length*(b+s.length)<=100000):dZ .join (.str s) [.lst (l.map V.str)]=some (.str (aM s l)):=by
 have hs':strsOf (l.map V.str)=some l:=by simpa using jk (λx=>x) l
 have h1:∀{l:List (List Nat)},(∀p∈l,p.length<=b)->(l.map (·.length)).sum<=l.length*b:=λ{l}=>by
  induction l with
  |nil=>simp
  |cons p l ih=>
   intro h;have h2:=ih λq hq=>h q (by simp[hq]);have h3:=h p (by simp);simp only[we,List.sum_cons,MZ,Vh];omega
 have h2:(l.map (·.length)).sum+l.length*s.length<=big:=aK (by have:=h1 hb;rw[Nat.mul_add]at h;omega)
 delta dZ;dsimp only;simp only[oU,hs',Option.bind];rw[cG h2]
theorem pW(t:List Nat):∀l:List (List Nat),mem (.str t) (l.map V.str)=some (l.contains t)
 |[]=>rfl
 |x :: l=>by
  rw[we,mem_cons,pW t l,rM];show some (decide (x=t) ||l.contains t)=_;rw[UC]
  congr 2
  by_cases h:x=t
  .simp[h]
  .rw[DX h];simp;exact λz=>h z.symm
section
variable{F:List Fn}{w n i:Nat}
def Ci{k:Nat}(h:k<=99):cU .gn [.int (k:Int)]=some (.str (Ev.cO k)):=by
 delta cU;dsimp only;rw[cG (by omega)]
def iC(h:F[i]?=some lX){c:List Pt}(hc:Wide c):run F w (n+1) i [.val (bW c)]=some (.str (ct c),[]):=by
 have hl:=hc.len;have nC:bw (dh (run F w n) (.bin .add (.dJ [(.str [107,101,101,112],.str [61]),(.str [112,117,116],.str [43]),(.str [100,114,111,112],.str [45])] (.v 1)) (.bi .gn (.cons (.v 2) .nil))) (.many [1,2]) .no [some (.val (bW c)),none,none]) (c.map Pt.v)=some (c.map λp=>.str p.t):=
  gS _ _ _ λp h'=>by
   have hp:=hc.pt p h';have ht:=(rV hp).2.1;cases p with
   |keep k=>exact eB rfl (aH (iB (aq rfl) rfl) (fu (av (aq rfl) aG) (Ci hp.2)) (eG (by simp[Pt.t]at ht ⊢;omega)))
   |put s=>exact eB rfl (aH (iB (aq rfl) rfl) (fu (av (aq rfl) aG) rfl) (eG (by simp[Pt.t]at ht ⊢;omega)))
   |drop s=>exact eB rfl (aH (iB (aq rfl) rfl) (fu (av (aq rfl) aG) rfl) (eG (by simp[Pt.t]at ht ⊢;omega)))
 have hj:dZ .join (.str [47]) [.lst (c.map λp=>V.str p.t)]=some (.str (ct c)):=by
  have:=Oo (s:=[47]) (l:=c.map Pt.t) (b:=9) (λp hp=>by
   obtain⟨q,h3,rfl⟩:=List.mem_map.mp hp;exact(rV (hc.pt q h3)).2.1) (by simp;omega)
  rwa [Vi]at this
 exact cj h rfl (au (bV (jY rfl (az rfl) (av (ek (er (iQ rfl) rfl) rfl nC (bg (aK (by simp;omega)))) aG) hj) ⟨rfl,rfl⟩))
def rt(rows:List (List Pt)):List Nat:=(rows.map λc=>ct c++[10]).flatten
theorem Cj:∀{rows:List (List Pt)},(∀c∈rows,Wide c)->(rt rows).length<=rows.length*121
 |[],_=>by simp[rt]
 |c :: rows,h=>by
  have h1:=Cg (h c (by simp));have h2:=Cj (rows:=rows) λx hx=>h x (by simp[hx]);simp only[rt,we,Uk,HJ,MZ,UA]at h2 ⊢;rw[Vh];omega
def tZ{Ad:Nat}{s0:Sl}{os:List (List V)}(ht:F[Ad]?=some lX)(h:F[i]?=some (wQ Ad)){rows:List (List Pt)}(hr:∀c∈rows,Wide c)(hl:rows.length<=100):run F w (n+2) i [.val (.lst (rows.map bW))]=some (.str (rt rows),[]):=by
 have nC:bw (dh (run F w (n+1)) (.bin .add (.cl Ad (.cons (.v 1) .nil)) (.c (.str [10]))) (.one 1) .no [some (.val (.lst (rows.map bW))),none]) (rows.map bW)=some (rows.map λc=>.str (ct c++[10])):=
  gS _ _ _ λc h'=>by
   have:=Cg (hr c h');exact eB rfl (aH (b6 (aT rfl (aq rfl) aU) (dG (iC ht (hr c h')))) (az rfl) (eG (by simp;omega)))
 have hj:dZ .join (.str []) [.lst (rows.map λc=>V.str (ct c++[10]))]=some (.str (rt rows)):=by
  have h1:=Cj hr;have:=E4 (l:=rows.map λc=>ct c++[10]) (by unfold rt at h1;omega)
  rwa [Vi]at this
 exact cj h rfl (au (bV (jY rfl (az rfl) (av (ek (er (iQ rfl) rfl) rfl nC (bg (aK (by simp;omega)))) aG) hj) ⟨rfl,rfl⟩))
end
def j6(s:List Nat):Bool:=(decide (1<=s.length)&&decide (s.length<=8))&&s.all λx=>sgn.contains x
def kQ:Pt->Bool
 |.keep n=>decide (1<=n)&&decide (n<=99)
 |.put s=>j6 s
 |.drop s=>j6 s
def j7(c:List Pt):Bool:=decide (c.length<=12)&&c.all kQ
def Ck(p:Pt):kQ p=true↔WP p:=by
 cases p<;>simp[kQ,WP,j6,WS,and_assoc]
def Me(c:List Pt):j7 c=true↔Wide c:=by
 unfold j7;rw[fW,SD,Uw];constructor
 .rintro⟨h1,h2⟩;exact⟨h1,λp hp=>(Ck p).mp (h2 p hp)⟩
 .rintro⟨h1,h2⟩;exact⟨h1,λp hp=>(Ck p).mpr (h2 p hp)⟩
def yL{α:Type}(f:α->Bool)(l:List α):cU .all [.lst (l.map λc=>.bl (f c))]=some (.bl (l.all f)):=by
 rw[Hr,wO f l];show some (V.bl _)=_;simp[List.all_map,Function.comp_def]
section
variable{F:List Fn}{w n i:Nat}
def wj(h:F[i]?=some gT)(k:Nat):run F w (n+1) i [.val (.int k)]=some (.bl (decide (1<=k)&&decide (k<=99)),[]):=by
 refine cj h rfl (au (bO (b:=false) (fD (aI rfl (om (aq rfl) rfl) rfl) (fL (b:=true) (aI rfl (om (aq rfl) rfl) rfl))) (λh=>absurd h (by decide)) λ_=>bM ?_));refine au (bV (DY (b1:=decide (1<=k)) (b2:=decide (1<=k)&&decide (k<=99)) (z:=.int 99) (az rfl) (aq rfl) ?_ (λh=>⟨az rfl,?_⟩) λh=>?_) ⟨rfl,rfl⟩)
 .rw[rQ];congr 1;exact decide_eq_decide.mpr (by omega)
 .rw[rQ,h,Ws];congr 1;exact decide_eq_decide.mpr (by omega)
 .rw[h,Vr]
def wk{P:aB}{fr:Fr}{s:List Nat}{a:E}{m:Nat}{k:Bool}(h:ev P true a fr=.ok (.str s) fr)(hs:s.length<=100000)(ht:bf a=[]) :
  ev P k (.ch .le .le (.c (.int 1)) (.bi .len (.cons a .nil)) (.c (.int (m:Nat)))) fr=.ok (.bl (decide (1<=s.length)&&decide (s.length<=m))) fr:=by
 refine DY (b1:=decide (1<=s.length)) (z:=.int (m:Nat)) (az rfl) (fu (av ?_ aG) (len_str hs)) ?_ (λh=>⟨az rfl,?_⟩) λh=>?_
 .simpa using h
 .rw[rQ];congr 1;exact decide_eq_decide.mpr (by omega)
 .rw[rQ,h,Ws];congr 1;exact decide_eq_decide.mpr (by omega)
 .rw[h,Vr]
def nD(h:F[i]?=some gU)(s:List Nat)(hs:s.length<=10000):run F w (n+1) i [.val (.str s)]=some (.bl (j6 s),[]):=by
 have hl:=wk (P:=run F w n) (fr:=[some (.val (.str s)),none]) (s:=s) (a:=.v 0) (m:=8) (k:=true) (aq rfl) (by omega) rfl;refine cj h rfl (au (bO (b:=!(decide (1<=s.length)&&decide (s.length<=8))) (fD (fL (b:=true) (aI rfl (om (aq rfl) rfl) rfl)) (fL (aI rfl hl rfl))) (λh=>?_) λh=>bM ?_))
 .refine au (bV (az rfl) ⟨?_,rfl⟩);have:(decide (1<=s.length)&&decide (s.length<=8))=false:=by cases z:(decide (1<=s.length)&&decide (s.length<=8))with|false=>rfl|true=>rw[z]at h;cases h
  unfold j6;rw[this];rfl
 .have h2:(decide (1<=s.length)&&decide (s.length<=8))=true:=by simpa using h
  have hc:bw (dh (run F w n) (.cmp .isin (.v 1) (.c (.str sgn))) (.one 1) .no [some (.val (.str s)),none]) (s.map λc=>.str [c])=some (s.map λc=>.bl (sgn.contains c)):=
   gS _ _ _ λc _=>eB rfl (aS (aq rfl) (az rfl) vV)
  refine au (bV (fu (av (ek (er (iQ rfl) rfl) rfl hc (bg (aK (by simp;omega)))) aG) (yL _ _)) ⟨?_,rfl⟩);unfold j6;rw[h2];rfl
def wm{cu cy:Nat}(hk:F[cu]?=some gT)(hs:F[cy]?=some gU)(h:F[i]?=some (eW cu cy))(p:Pt)(hp:p.n<=10000):run F w (n+2) i [.val p.v]=some (.bl (kQ p),[]):=by
 refine cj h rfl ?_;have st:∀a b v,Wp (exs (run F w (n+1)) w (.cons (oX cu) (.cons (oY cy) .nil)) [some (.val (.tup [a,b]))]) (λg fr=>g=.ret v/\outs 1 fr=[])->Wp (exs (run F w (n+1)) w (eW cu cy).body (cI (eW cu cy) [.val (.tup [a,b])])) λg fr=>g=.ret v/\outs (eW cu cy).np fr=[]:=λa b v q=>
  au (bO (b:=false) (fD (fL (b:=true) (aI rfl (om (aq rfl) rfl) rfl)) (aI rfl (aS (fu (av (aq rfl) aG) nZ) (az rfl) E7) rfl)) (λh=>absurd h (by decide)) λ_=>bM q)
 cases p with
 |keep k=>
  exact st _ _ _ (au (bO (b:=true) (aI rfl (aS (fq (aq rfl) (az rfl) rfl) (az rfl) gG) rfl) (λ_=>au (bV (b6 (aT rfl (fq (aq rfl) (az rfl) rfl) aU) (dG (wj hk k))) ⟨rfl,rfl⟩)) λh=>absurd h (by decide)))
 |put s=>
  exact st _ _ _ (au (bO (b:=false) (aI rfl (aS (fq (aq rfl) (az rfl) rfl) (az rfl) gG) rfl) (λh=>absurd h (by decide)) λ_=>bM (au (bV (E6 (aS (fq (aq rfl) (az rfl) rfl) (di (av (az rfl) (av (az rfl) aG)) gc) rfl) (b6 (aT rfl (fq (aq rfl) (az rfl) rfl) aU) (dG (nD hs s hp)))) ⟨rfl,rfl⟩))))
 |drop s=>
  exact st _ _ _ (au (bO (b:=false) (aI rfl (aS (fq (aq rfl) (az rfl) rfl) (az rfl) gG) rfl) (λh=>absurd h (by decide)) λ_=>bM (au (bV (E6 (aS (fq (aq rfl) (az rfl) rfl) (di (av (az rfl) (av (az rfl) aG)) gc) rfl) (b6 (aT rfl (fq (aq rfl) (az rfl) rfl) aU) (dG (nD hs s hp)))) ⟨rfl,rfl⟩))))
def rW{cu cy dI:Nat}(hk:F[cu]?=some gT)(hs:F[cy]?=some gU)(hp:F[dI]?=some (eW cu cy))(h:F[i]?=some (gy dI))(c:List Pt)(hl:c.length<=10000)(ht:tot c<=10000):run F w (n+3) i [.val (bW c)]=some (.bl (j7 c),[]):=by
 have nC:bw (dh (run F w (n+2)) (.cl dI (.cons (.v 1) .nil)) (.one 1) .no [some (.val (bW c)),none]) (c.map Pt.v)=some (c.map λp=>.bl (kQ p)):=
  gS _ _ _ λp h'=>eB rfl (b6 (aT rfl (aq rfl) aU) (dG (wm hk hs hp p (HK (QN h') ht))))
 refine cj h rfl (au (bO (b:=!decide (c.length<=12)) (fD (fL (b:=true) (aI rfl (om (aq rfl) rfl) rfl)) (aI rfl (aS (fu (av (aq rfl) aG) nZ) (az rfl) DU) ?_)) (λh=>?_) λh=>bM ?_))
 .show decide _=_;rw[<-decide_not];exact decide_eq_decide.mpr (by simp;omega)
 .have h2:decide (c.length<=12)=false:=by simpa using h
  refine au (bV (az rfl) ⟨?_,rfl⟩);unfold j7;rw[h2];rfl
 .have h2:decide (c.length<=12)=true:=by simpa using h
  refine au (bV (fu (av (ek (er (iQ rfl) rfl) rfl nC (bg (aK (by simp;omega)))) aG) (yL _ _)) ⟨?_,rfl⟩);unfold j7;rw[h2];rfl
end
end Pv
namespace Pv
open Ev (D bu aV TY BI ME T E Es Eo It S Ss Fn deep big rep aM cut bC)
def gf(kx:Nat)(wR:Nat)(wU:Nat):Fn:=⟨1,3,(.cons (.iff (.cmp .eq (.v 0) (.c (.str []))) (.cons (.ret (.tup .nil)) .nil) .nil) (.cons (.set 1 (.fO (.comp (.cl wR (.cons (.v 2) .nil)) (.one 2) (.seq (.fN (.ir (.v 0) (.c (.str [47]))))) .no))) (.cons (.iff (.nt (.cl wU (.cons (.v 1) .nil))) (.cons (.cA kx) .nil) .nil) (.cons (.ret (.v 1)) .nil))))⟩
def eT(kx:Nat)(t6:Nat):Fn:=⟨1,2,(.cons (.iff (.cmp .cC (.bin .add (.sl (.v 0) .no (.yes (.c (.int 1)))) (.c (.str []))) (.c (.tup [.str [61],.str [43],.str [45]]))) (.cons (.cA kx) .nil) .nil) (.cons (.set 1 (.dJ [(.str [61],.str [107,101,101,112]),(.str [43],.str [112,117,116]),(.str [45],.str [100,114,111,112])] (.sl (.v 0) .no (.yes (.c (.int 1)))))) (.cons (.iff (.cmp .eq (.v 1) (.c (.str [107,101,101,112]))) (.cons (.ret (.tup (.cons (.v 1) (.cons (.cl t6 (.cons (.sl (.v 0) (.yes (.c (.int 1))) .no) .nil)) .nil)))) .nil) .nil) (.cons (.ret (.tup (.cons (.v 1) (.cons (.sl (.v 0) (.yes (.c (.int 1))) .no) .nil)))) .nil))))⟩
def dO(kx:Nat):Fn:=⟨1,2,(.cons (.iff (.cmp .cC (.v 0) (.comp (.bi .gn (.cons (.v 1) .nil)) (.one 1) (.fz (.cons (.c (.int 1)) (.cons (.bin .add (.c (.int 99)) (.c (.int 1))) .nil))) .no)) (.cons (.cA kx) .nil) .nil) (.cons (.ret (.bi .jE (.cons (.v 0) .nil))) .nil))⟩
def oZ(kx:Nat):Fn:=⟨1,2,(.cons (.set 1 (.fN (.ir (.v 0) (.c (.str [10]))))) (.cons (.iff (.cmp .ne (.me .pop (.v 1) .nil) (.c (.str []))) (.cons (.cA kx) .nil) .nil) (.cons (.ret (.v 1)) .nil)))⟩
open Classical in
def gW(t:List Nat):Option Nat:=if h:∃k,1<=k/\k<=99/\t=Ev.cO (k:Nat)then some h.choose else none
def iS{t:List Nat}{k:Nat}(h:gW t=some k):1<=k/\k<=99/\t=Ev.cO k:=by
 unfold gW at h;split at h
 .rename_i q;cases h;exact q.choose_spec
 .cases h
def D3{j k:Nat}(hj:j<=99)(hk:k<=99)(e:Ev.cO (j:Nat)=Ev.cO (k:Nat)):j=k:=by
 have h1:=(dg hj).nm;have h2:=(dg hk).nm;rw[e,h2]at h1;have:=pV h1;omega
def wo{k:Nat}(h1:1<=k)(h2:k<=99):gW (Ev.cO k)=some k:=by
 have q:∃k',1<=k'/\k'<=99/\Ev.cO (k:Nat)=Ev.cO (k':Nat):=⟨k,h1,h2,rfl⟩
 unfold gW;rw[dif_pos q];have:=q.choose_spec;rw[<-D3 h2 this.2.1 this.2.2]
def wu{t:List Nat}(h:gW t=none):∀k,1<=k->k<=99->t≠Ev.cO (k:Nat):=λk h1 h2 e=>by
 rw[e,wo h1 h2]at h;cases h
def iD:List Nat->Option Pt
 |61 :: r=>(gW r).map .keep
 |43 :: r=>some (.put r)
 |45 :: r=>some (.drop r)
 |_=>none
def Oq{t:List Nat}{p:Pt}(h:iD t=some p):p.t=t:=by
 unfold iD at h;split at h
 .obtain⟨k,e,rfl⟩:=Option.map_eq_some_iff.mp h;rw[Pt.t,(iS e).2.2]
 .cases h;rfl
 .cases h;rfl
 .cases h
def Mf{p:Pt}(h:WP p):iD p.t=some p:=by
 cases p with
 |keep k=>show(gW (Ev.cO k)).map _=_;rw[wo h.1 h.2];rfl
 |put s=>rfl
 |drop s=>rfl
def Ot{t:List Nat}{p:Pt}(h:iD t=some p):p.n<=99+t.length:=by
 have e:=Oq h;cases p with
 |keep k=>
  unfold iD at h;split at h
  .obtain⟨k',e',z⟩:=Option.map_eq_some_iff.mp h;cases z;have:=(iS e').2.1;simp only[Pt.n];omega
  all_goals cases h
 |put s=>rw[<-e];simp[Pt.n,Pt.t];omega
 |drop s=>rw[<-e];simp[Pt.n,Pt.t];omega
def bA{α β:Type}(f:α->Option β):List α->Option (List β)
 |[]=>some []
 |x :: l=>(f x).bind λp=>(bA f l).map λr=>p :: r
theorem lK{α β:Type}{f:α->Option β}:∀{l:List α}{c:List β},bA f l=some c->l.map f=c.map some
 |[],c,h=>by cases h;rfl
 |x :: l,c,h=>by
  simp only[bA]at h;obtain⟨p,e1,h⟩:=Option.bind_eq_some_iff.mp h;obtain⟨r,e2,rfl⟩:=Option.map_eq_some_iff.mp h;rw[we,we,e1,lK e2]
theorem lM{α β:Type}{f:α->Option β}:∀{l:List α},bA f l=none->∃l1 v l2,l=l1++v :: l2/\(∀a∈l1,∃p,f a=some p)/\f v=none
 |[],h=>by cases h
 |x :: l,h=>by
  cases e1:f x with
  |none=>exact⟨[],x,l,rfl,by simp,e1⟩
  |some p=>
   have e2:bA f l=none:=by
    cases z:bA f l with
    |none=>rfl
    |some r=>simp only[bA,e1,z]at h;cases h
   obtain⟨l1,v,l2,q1,q2,q3⟩:=lM e2;exact⟨x :: l1,v,l2,by rw[q1];rfl,λa ha=>by
    rcases List.mem_cons.mp ha with rfl|ha
    .exact⟨p,e1⟩
    .exact q2 a ha,q3⟩
theorem wz{α β:Type}{f:α->Option β}{g:β->α}:∀{c:List β},(∀p∈c,f (g p)=some p)->bA f (c.map g)=some c
 |[],_=>rfl
 |p :: c,h=>by
  simp only[we,bA,h p (by simp),wz (c:=c) λq hq=>h q (by simp[hq]),Option.bind,Option.map]
theorem join_split{c:Nat}:∀s:List Nat,aM [c] (Ev.ay c s)=s/\Ev.ay c s≠[]
 |[]=>⟨rfl,by simp[Ev.ay]⟩
 |x :: s=>by
  obtain⟨h1,h2⟩:=join_split (c:=c) s;unfold Ev.ay;by_cases e:x=c
  .rw[cG e];refine⟨?_,by simp⟩;cases hs:Ev.ay c s with
   |nil=>exact absurd hs h2
   |cons p ps=>rw[hs]at h1;simp only[aM];rw[h1,e];rfl
  .rw[Cd e];cases hs:Ev.ay c s with
   |nil=>exact absurd hs h2
   |cons p ps=>
    rw[hs]at h1;refine⟨?_,by simp⟩;cases ps with
    |nil=>simp only[aM]at h1 ⊢;rw[h1]
    |cons q qs=>simp only[aM]at h1 ⊢;rw[<-h1];simp
theorem Uv{c:Nat}:∀s:List Nat,(∀p∈Ev.ay c s,p.length<=s.length)/\(Ev.ay c s).length<=s.length+1
 |[]=>by simp[Ev.ay]
 |x :: s=>by
  obtain⟨h1,h2⟩:=Uv (c:=c) s;unfold Ev.ay;split
  .refine⟨λp hp=>?_,by simp;omega⟩;rcases List.mem_cons.mp hp with rfl|hp
   .simp
   .have:=h1 p hp;simp;omega
  .cases hs:Ev.ay c s with
   |nil=>simp
   |cons q qs=>
    rw[hs]at h1 h2;refine⟨λp hp=>?_,by simpa using WI h2⟩;rcases List.mem_cons.mp hp with rfl|hp
    .have:=h1 q (by simp);simp;omega
    .have:=h1 p (by simp[hp]);simp;omega
def cE(t:List Nat):Option (List Pt):=if t=[]then some []else (bA iD (Ev.ay 47 t)).bind λc=>if j7 c=true then some c else none
def Cm{c:List Pt}(h:Wide c):cE (ct c)=some c:=by
 unfold cE;by_cases h0:c=[]
 .subst h0;rfl
 .rw[Cd λz=>h0 ((Mc h).mp z),DZ h h0,wz λp hp=>Mf (h.pt p hp)];show(if j7 c=true then some c else none)=_;rw[cG ((Me c).mpr h)]
def pX(t:List Nat):Option (List (List Nat)):=if (Ev.ay 10 t).getLast?=some []then some (Ev.ay 10 t).dropLast else none
def jn(t:List Nat):∃ls l,Ev.ay 10 t=ls++[l]:=by
 have:=(join_split (c:=10) t).2;exact⟨(Ev.ay 10 t).dropLast,(Ev.ay 10 t).getLast this,(List.dropLast_concat_getLast this).symm⟩
def ow{t:List Nat}{ls:List (List Nat)}{l:List Nat}(e:Ev.ay 10 t=ls++[l]):pX t=if l=[]then some ls else none:=by
 unfold pX;rw[e];simp
section
variable{F:List Fn}{w n i kx:Nat}
def cX{F:List Fn}{w n:Nat}:∀f sl c,bF F w n f sl=some c->run F w n f sl=none:=nv F w n
def yN{t:List Nat}:bw (dh (run F w n) (.bi .gn (.cons (.v 1) .nil)) (.one 1) .no [some (.val (.str t)),none]) ((List.range 99).map λ(j:Nat)=>V.int (1+j))=some (((List.range 99).map λ(j:Nat)=>Ev.cO ((1+j:Nat):Int)).map V.str):=by
 rw[Vi];refine gS _ _ _ λj hj=>eB rfl (fu (av (aq rfl) aG) ?_);have:=List.mem_range.mp hj;rw[show(1:Int)+(j:Int)=((1+j:Nat):Int)by simp];exact Ci (by omega)
def yO(t:List Nat):cop .cC (.str t) (.lst (((List.range 99).map λ(j:Nat)=>Ev.cO ((1+j:Nat):Int)).map V.str))=some (gW t).isNone:=by
 rw[tM,vU,pW];show some (!_)=_
 congr 1
 cases hr:gW t with
 |some k=>
  obtain⟨h1,h2,h3⟩:=iS hr;rw[show((List.range 99).map λ(j:Nat)=>Ev.cO ((1+j:Nat):Int)).contains t=true from ?_];rfl;rw[Vf];exact List.mem_map.mpr ⟨k - 1,by simp;omega,by rw[h3];congr 1;omega⟩
 |none=>
  rw[show((List.range 99).map λ(j:Nat)=>Ev.cO ((1+j:Nat):Int)).contains t=false from ?_];rfl;cases hc:((List.range 99).map λ(j:Nat)=>Ev.cO ((1+j:Nat):Int)).contains t with
  |false=>rfl
  |true=>
   rw[Vf]at hc;obtain⟨j,hj,e⟩:=List.mem_map.mp hc;have:=List.mem_range.mp hj;exact absurd e.symm (wu hr (1+j) (by omega) (by omega))
def yP:dX [.int 1,.int (99+1)]=some ((List.range 99).map λ(j:Nat)=>V.int (1+j)):=QF (by decide) (by decide) (by decide) (by decide)
def Mg(h:F[i]?=some (dO kx)){t:List Nat}{k:Nat}(hk:gW t=some k):run F w (n+1) i [.val (.str t)]=some (.int k,[]):=by
 obtain⟨h1,h2,h3⟩:=iS hk;have hin:=yO t;rw[hk]at hin;refine cj h rfl (au (bO (b:=false) (aI rfl (aS (aq rfl) (ek (kP (av (az rfl) (av (aH (az rfl) (az rfl) aZ) aG)) yP) rfl yN (bg (aK (by simp)))) hin) rfl) (λh=>absurd h (by decide)) λ_=>bM ?_));exact au (bV (fu (av (aq rfl) aG) (by delta cU;dsimp only;rw[h3,(dg h2).nm];rfl)) ⟨rfl,rfl⟩)
def HM(h:F[i]?=some (dO kx)){t:List Nat}(hk:gW t=none):bF F w (n+1) i [.val (.str t)]=some kx:=by
 have hin:=yO t;rw[hk]at hin;refine qR h rfl (eO cX (qQ (b:=true) (aI rfl (aS (aq rfl) (ek (kP (av (az rfl) (av (aH (az rfl) (az rfl) aZ) aG)) yP) rfl yN (bg (aK (by simp)))) hin) rfl) ?_));rw[cG rfl];exact eO cX uq
def HN{P:aB}{X:bR}{k:Bool}{e:E}{es:Es}{fr af:Fr}{v:V}{c:Nat}(h:ev P (k&&kf e (eF es)) e fr=.ok v af)(q:kL P X k es af=some c):kL P X k (.cons e es) fr=some c:=by
 simp only[kL,h];exact q
def HQ{P:aB}{X:bR}{k:Bool}{e:E}{es:Es}{fr:Fr}{c:Nat}(hX:∀f sl c,X f sl=some c->P f sl=none)(q:xe P X e fr=some c):kL P X k (.cons e es) fr=some c:=by
 simp only[kL,(bT hX e q).1];exact q
def yQ{P:aB}{a:E}{t:T}{fr af:Fr}{d:V}(hb:aY t d (jX fr)=some af)(h:ev P false a af=.bad):lD P a t .no fr d=none:=by
 unfold lD;rw[hb];simp only[vY,h];rfl
def yR{P:aB}{X:bR}{a:E}{t:T}{fr af:Fr}{d:V}{c:Nat}(hb:aY t d (jX fr)=some af)(h:xe P X a af=some c):(match aY t d (jX fr)with
   |some ak=>(match eN P .no ak with
    |.ok true _=>xe P X a ak
    |_=>none)
   |none=>none)=some c:=by
 rw[hb];simp only[vY];exact h
def j8(x:Nat)(r:List Nat):eH (.str (x :: r)) none (some 1)=some (.str [x]):=by rw[rP];exact Pc (λz=>some (V.str z)) (ur (x :: r) 1)
def sl2(x:Nat)(r:List Nat):eH (.str (x :: r)) (some 1) none=some (.str r):=by rw[rP];exact Pc (λz=>some (V.str z)) (Ac (x :: r) 1)
def Cn{fy:Nat}(hn:F[fy]?=some (dO kx))(h:F[i]?=some (eT kx fy)){t:List Nat}{p:Pt}(hp:iD t=some p):run F w (n+2) i [.val (.str t)]=some (p.v,[]):=by
 refine cj h rfl ?_;unfold iD at hp;split at hp
 .rename_i r;obtain⟨k,e,rfl⟩:=Option.map_eq_some_iff.mp hp;refine au (bO (b:=false) (aI rfl (aS (aH (bY (aq rfl) bL (br (az rfl)) (j8 _ _)) (az rfl) (eG (by simp))) (az rfl) rfl) rfl) (λh=>absurd h (by decide)) λ_=>bM ?_);refine au (bP (iB (bY (aq rfl) bL (br (az rfl)) (j8 _ _)) rfl) rfl rfl ?_);exact au (bO (b:=true) (aI rfl (aS (aq rfl) (az rfl) gG) rfl) (λ_=>au (bV (di (av (aq rfl) (av (b6 (aT rfl (bY (aq rfl) (br (az rfl)) bL (sl2 _ _)) aU) (dG (Mg hn e))) aG)) gc) ⟨rfl,rfl⟩)) λh=>absurd h (by decide))
 .cases hp;refine au (bO (b:=false) (aI rfl (aS (aH (bY (aq rfl) bL (br (az rfl)) (j8 _ _)) (az rfl) (eG (by simp))) (az rfl) rfl) rfl) (λh=>absurd h (by decide)) λ_=>bM ?_);refine au (bP (iB (bY (aq rfl) bL (br (az rfl)) (j8 _ _)) rfl) rfl rfl ?_);exact au (bO (b:=false) (aI rfl (aS (aq rfl) (az rfl) gG) rfl) (λh=>absurd h (by decide)) λ_=>bM (au (bV (di (av (aq rfl) (av (bY (aq rfl) (br (az rfl)) bL (sl2 _ _)) aG)) gc) ⟨rfl,rfl⟩)))
 .cases hp;refine au (bO (b:=false) (aI rfl (aS (aH (bY (aq rfl) bL (br (az rfl)) (j8 _ _)) (az rfl) (eG (by simp))) (az rfl) rfl) rfl) (λh=>absurd h (by decide)) λ_=>bM ?_);refine au (bP (iB (bY (aq rfl) bL (br (az rfl)) (j8 _ _)) rfl) rfl rfl ?_);exact au (bO (b:=false) (aI rfl (aS (aq rfl) (az rfl) gG) rfl) (λh=>absurd h (by decide)) λ_=>bM (au (bV (di (av (aq rfl) (av (bY (aq rfl) (br (az rfl)) bL (sl2 _ _)) aG)) gc) ⟨rfl,rfl⟩)))
 .cases hp
def HS{fy:Nat}(hn:F[fy]?=some (dO kx))(h:F[i]?=some (eT kx fy)){t:List Nat}(hp:iD t=none):bF F w (n+2) i [.val (.str t)]=some kx:=by
 refine qR h rfl ?_;have go:∀u:List Nat,eH (.str t) none (some 1)=some (.str u)->u.length<=1->[[61],[43],[45]].contains u=false->xss (run F w (n+1)) (bF F w (n+1)) w (eT kx fy).body (cI (eT kx fy) [.val (.str t)])=some kx:=λu e1 e2 e3=>by
  have hin:cop .cC (.str (u++[])) (.tup [.str [61],.str [43],.str [45]])=some true:=by
   rw[tM,pU,show([V.str [61],V.str [43],V.str [45]]:List V)=[[61],[43],[45]].map V.str from rfl,pW,Ug,e3];rfl
  refine eO cX (qQ (b:=true) (aI rfl (aS (aH (bY (aq rfl) bL (br (az rfl)) e1) (az rfl) (eG (by simp;omega))) (az rfl) hin) rfl) ?_);rw[cG rfl];exact eO cX uq
 cases t with
 |nil=>exact go [] (by rw[rP];rfl) (by simp) rfl
 |cons x r=>
  by_cases e1:x=61
  .subst e1;have e:gW r=none:=by
    cases z:gW r with
    |none=>rfl
    |some k=>
     have hp:(gW r).map Pt.keep=none:=hp;rw[z]at hp;cases hp
   refine ny (bO (b:=false) (aI rfl (aS (aH (bY (aq rfl) bL (br (az rfl)) (j8 _ _)) (az rfl) (eG (by simp))) (az rfl) rfl) rfl) (λh=>absurd h (by decide)) λ_=>bM ⟨rfl,?_⟩);refine ny (bP (iB (bY (aq rfl) bL (br (az rfl)) (j8 _ _)) rfl) rfl rfl ⟨rfl,?_⟩);refine eO cX (qQ (b:=true) (aI rfl (aS (aq rfl) (az rfl) gG) rfl) ?_);rw[cG rfl];exact eO cX (y_ret (Oh (HN (aq rfl) (HQ cX (zZ (aT rfl (bY (aq rfl) (br (az rfl)) bL (sl2 _ _)) aU) (j5 (vs:=[.str r]) (HM hn e)))))))
  .by_cases e2:x=43
   .subst e2;cases hp
   .by_cases e3:x=45
    .subst e3;cases hp
    .refine go [x] (j8 x r) (by simp) ?_;simp;omega
def qV{dI:Nat}(h:F[i]?=some (gy dI))(c:List Pt)(hl:12<c.length):run F w (n+1) i [.val (bW c)]=some (.bl false,[]):=
 cj h rfl (au (bO (b:=true) (fD (fL (b:=true) (aI rfl (om (aq rfl) rfl) rfl)) (aI rfl (aS (fu (av (aq rfl) aG) nZ) (az rfl) DU) (by show decide _=true;exact Ui (by simp;omega)))) (λ_=>au (bV (az rfl) ⟨rfl,rfl⟩)) λh=>absurd h (by decide)))
def yS{cu cy dI:Nat}(hk:F[cu]?=some gT)(hs:F[cy]?=some gU)(hp:F[dI]?=some (eW cu cy))(h:F[i]?=some (gy dI))(c:List Pt)(hc:∀p∈c,p.n<=800):run F w (n+3) i [.val (bW c)]=some (.bl (j7 c),[]):=by
 rcases VN 12 c.length with z|z
 .rw[qV (n:=n+2) h c z];unfold j7;rw[DX (by omega)];rfl
 .refine rW hk hs hp h c (by omega) ?_;have:∀l:List Pt,(∀p∈l,p.n<=800)->tot l<=l.length*800:=λl=>by
   induction l with
   |nil=>intro _;simp[tot]
   |cons p l ih=>
    intro q;have h1:=q p (by simp);have h2:=ih λx hx=>q x (by simp[hx]);simp only[tot,we,List.sum_cons,MZ]at h2 ⊢;rw[Vh];omega
  have:=this c hc;omega
def iZ{t:List Nat}{c:Nat}(h:c<128):pQ (.str t) (.str [c])=some ((Ev.ay c t).map V.str):=by
 show(if c<128 then some ((Ev.ay c t).map V.str)else none)=_;rw[cG h]
section
variable{cu cy dI jq fy gH:Nat}(hk:F[cu]?=some gT)(hs:F[cy]?=some gU)(hp:F[dI]?=some (eW cu cy))(hi:F[jq]?=some (gy dI))(hn:F[fy]?=some (dO kx))(hr:F[gH]?=some (eT kx fy))
include hk hs hp hi hn hr
theorem tS(h:F[i]?=some (gf kx gH jq)){t:List Nat}{c:List Pt}(ht:t.length<=700)(h0:t≠[])(e:bA iD (Ev.ay 47 t)=some c) :
  (∀p∈c,p.n<=800)/\c.length<=701/\bw (dh (run F w (n+3)) (.cl gH (.cons (.v 2) .nil)) (.one 2) .no [some (.val (.str t)),none,none]) ((Ev.ay 47 t).map V.str)=some (c.map Pt.v):=by
 have h1:=lK e;obtain⟨l1,l2⟩:=Uv (c:=47) t;have hlen:c.length=(Ev.ay 47 t).length:=by have:=Pc List.length h1;simpa using this.symm
 have key:∀(l:List (List Nat)) (c:List Pt),(∀p∈l,p.length<=700)->l.map iD=c.map some->(∀p∈c,p.n<=800)/\bw (dh (run F w (n+3)) (.cl gH (.cons (.v 2) .nil)) (.one 2) .no [some (.val (.str t)),none,none]) (l.map V.str)=some (c.map Pt.v):=by
  intro l;induction l with
  |nil=>intro c _ q;cases c with|nil=>exact⟨by simp,rfl⟩|cons p c=>simp at q
  |cons x l ih=>
   intro c hl q;cases c with
   |nil=>simp at q
   |cons p c=>
    simp only[we,V3]at q;obtain⟨a1,a2⟩:=ih c (λy hy=>hl y (by simp[hy])) q.2;have b1:=Ot q.1;have b2:=hl x (by simp);refine⟨λy hy=>?_,?_⟩
    .rcases List.mem_cons.mp hy with rfl|hy
     .omega
     .exact a1 y hy
    .have b3:dh (run F w (n+3)) (.cl gH (.cons (.v 2) .nil)) (.one 2) .no [some (.val (.str t)),none,none] (.str x)=some (some p.v):=eB rfl (b6 (aT rfl (aq rfl) aU) (dG (Cn (n:=n+1) hn hr q.1)));simp only[we,bw,b3,a2,Option.bind];rfl
 obtain⟨a1,a2⟩:=key _ _ (λp hp=>HK (l1 p hp) ht) h1;exact⟨a1,by omega,a2⟩
theorem Mh(h:F[i]?=some (gf kx gH jq)){t:List Nat}(ht:t.length<=700){c:List Pt}(hc:cE t=some c):run F w (n+4) i [.val (.str t)]=some (bW c,[]):=by
 refine cj h rfl ?_;unfold cE at hc;split at hc
 .rename_i e;subst e;cases hc;exact au (bO (b:=true) (aI rfl (aS (aq rfl) (az rfl) gG) rfl) (λ_=>au (bV (di aG ud) ⟨rfl,rfl⟩)) λh=>absurd h (by decide))
 .rename_i h0;obtain⟨c',e1,e2⟩:=Option.bind_eq_some_iff.mp hc;split at e2
  case isFalse=>cases e2
  rename_i hw;cases e2;obtain⟨q1,q2,q3⟩:=tS (w:=w) (n:=n) hk hs hp hi hn hr h ht h0 e1;obtain⟨l1,l2⟩:=Uv (c:=47) t;have hic:=yS (w:=w) (n:=n) hk hs hp hi c q1;rw[hw]at hic;refine au (bO (b:=false) (aI rfl (aS (aq rfl) (az rfl) gG) (DX h0)) (λh=>absurd h (by decide)) λ_=>bM ?_);refine au (bP (v:=bW c) (zY (ek (er (jm (iY (aq rfl) (az rfl) (iZ (by decide))) (bg (aK (by simp;omega)))) rfl) rfl q3 (bg (aK (by simp;omega)))) (by show iK (c.map Pt.v)=_;unfold iK;rw[cG (aK (by simp;omega))];rfl)) rfl rfl ?_);refine au (bO (b:=false) (fL (b:=true) (aI rfl (b6 (aT rfl (aq rfl) aU) (dG hic)) rfl)) (λh=>absurd h (by decide)) λ_=>bM ?_);exact au (bV (aq rfl) ⟨rfl,rfl⟩)
omit hk hs hp hi in
theorem bx{t v:List Nat}(z3:iD v=none):xe (run F w (n+3)) (bF F w (n+3)) (.cl gH (.cons (.v 2) .nil)) [some (.val (.str t)),none,some (.val (.str v))]=some kx:=
 zZ (aT rfl (aq rfl) aU) (j5 (vs:=[.str v]) (HS (n:=n+1) hn hr z3))
theorem HU(h:F[i]?=some (gf kx gH jq)){t:List Nat}(ht:t.length<=700)(hc:cE t=none):bF F w (n+4) i [.val (.str t)]=some kx:=by
 refine qR h rfl ?_;unfold cE at hc;split at hc
 .cases hc
 .rename_i h0;obtain⟨l1,l2⟩:=Uv (c:=47) t;refine ny (bO (b:=false) (aI rfl (aS (aq rfl) (az rfl) gG) (DX h0)) (λh=>absurd h (by decide)) λ_=>bM ⟨rfl,?_⟩);cases e1:bA iD (Ev.ay 47 t)with
  |none=>
   obtain⟨p1,v,p2,z1,z2,z3⟩:=lM e1;refine eO cX (Og (Oi (B8 (er (jm (iY (aq rfl) (az rfl) (iZ (by decide))) (bg (aK (by simp;omega)))) rfl) rfl (by rw[L7];exact aK (by omega)) ?_)));rw[z1];refine rS V.str ?_ ?_ p1 λa ha=>?_
   .refine yQ (af:=[some (.val (.str t)),none,some (.val (.str v))]) rfl ?_;exact(bT cX _ (bx (n:=n) hn hr z3)).1 _
   .exact yR (P:=run F w (n+3)) (X:=bF F w (n+3)) (a:=.cl gH (.cons (.v 2) .nil)) (t:=.one 2) (fr:=[some (.val (.str t)),none,none]) (d:=.str v) (af:=[some (.val (.str t)),none,some (.val (.str v))]) rfl (bx (n:=n) hn hr z3)
   .obtain⟨p,hp⟩:=z2 a ha;exact⟨some p.v,eB (P:=run F w (n+3)) (t:=.one 2) (a:=.cl gH (.cons (.v 2) .nil)) (fr:=[some (.val (.str t)),none,none]) rfl (b6 (aT rfl (aq rfl) aU) (dG (Cn (n:=n+1) hn hr hp)))⟩
  |some c=>
   rw[e1]at hc;have hw:j7 c=false:=by
    cases z:j7 c with
    |false=>rfl
    |true=>
     have hc:(if j7 c=true then some c else none)=none:=hc;rw[z,cG rfl]at hc;cases hc
   obtain⟨q1,q2,q3⟩:=tS (w:=w) (n:=n) hk hs hp hi hn hr h ht h0 e1;have hic:=yS (w:=w) (n:=n) hk hs hp hi c q1;rw[hw]at hic;refine ny (bP (v:=bW c) (zY (ek (er (jm (iY (aq rfl) (az rfl) (iZ (by decide))) (bg (aK (by simp;omega)))) rfl) rfl q3 (bg (aK (by simp;omega)))) (by show iK (c.map Pt.v)=_;unfold iK;rw[cG (aK (by simp;omega))];rfl)) rfl rfl ⟨rfl,?_⟩);refine eO cX (qQ (b:=true) (fL (b:=false) (aI rfl (b6 (aT rfl (aq rfl) aU) (dG hic)) rfl)) ?_);rw[cG rfl];exact eO cX uq
end
section
def Co(h:F[i]?=some (oZ kx)){t:List Nat}(ht:t.length<=700){ls:List (List Nat)}(hL:pX t=some ls):run F w (n+1) i [.val (.str t)]=some (.lst (ls.map V.str),[]):=by
 obtain⟨ls',l,e⟩:=jn t;rw[ow e]at hL;split at hL
 case isFalse=>cases hL
 rename_i e0;subst e0;cases hL;have hl:=(Uv (c:=10) t).2;rw[e]at hl;simp at hl;have dQ:pQ (.str t) (.str [10])=some ((ls.map V.str)++[.str []]):=by rw[iZ (by decide),e];simp
 refine cj h rfl ?_;refine au (jQ (jm (iY (aq rfl) (az rfl) dQ) (bg (aK (by simp;omega)))) rfl rfl ?_);refine au (bO (b:=false) (aI rfl (aS (uh rfl rfl aG yH) (az rfl) jZ) rfl) (λh=>absurd h (by decide)) λ_=>bM ?_);exact au (bV (aq rfl) ⟨rfl,rfl⟩)
def HV(h:F[i]?=some (oZ kx)){t:List Nat}(ht:t.length<=700)(hL:pX t=none):bF F w (n+1) i [.val (.str t)]=some kx:=by
 obtain⟨ls',l,e⟩:=jn t;rw[ow e]at hL;split at hL
 .cases hL
 .rename_i e0;have hl:=(Uv (c:=10) t).2;rw[e]at hl;simp at hl;have dQ:pQ (.str t) (.str [10])=some ((ls'.map V.str)++[.str l]):=by rw[iZ (by decide),e];simp
  refine qR h rfl ?_;refine ny (jQ (jm (iY (aq rfl) (az rfl) dQ) (bg (aK (by simp;omega)))) rfl rfl ⟨rfl,?_⟩);refine eO cX (qQ (b:=true) (aI rfl (aS (uh rfl rfl aG yH) (az rfl) jZ) (by show(!decide (l=[]))=true;rw[DX e0];rfl)) ?_);rw[cG rfl];exact eO cX uq
end
end
end Pv
namespace Lw
@[reducible] def f0:Ev.Fn:=⟨1,2,(.cons (.iff (.orr (.nt (.dM (.v 0) [.tuple])) (.cmp .gt (.bi .len (.cons (.v 0) .nil)) (.c (.int 12)))) (.cons (.ret (.c (.bl false))) .nil) .nil) (.cons (.ret (.bi .all (.cons (.comp (.cl 1 (.cons (.v 1) .nil)) (.one 1) (.seq (.v 0)) .no) .nil))) .nil))⟩
@[reducible] def f1:Ev.Fn:=⟨1,1,(.cons (.iff (.orr (.nt (.dM (.v 0) [.tuple])) (.cmp .ne (.bi .len (.cons (.v 0) .nil)) (.c (.int 2)))) (.cons (.ret (.c (.bl false))) .nil) .nil) (.cons (.iff (.cmp .eq (.ix (.v 0) (.c (.int 0))) (.c (.str [107,101,101,112]))) (.cons (.ret (.cl 2 (.cons (.ix (.v 0) (.c (.int 1))) .nil))) .nil) .nil) (.cons (.ret (.an (.cmp .isin (.ix (.v 0) (.c (.int 0))) (.tup (.cons (.c (.str [112,117,116])) (.cons (.c (.str [100,114,111,112])) .nil)))) (.cl 3 (.cons (.ix (.v 0) (.c (.int 1))) .nil)))) .nil)))⟩
@[reducible] def f2:Ev.Fn:=⟨1,1,(.cons (.iff (.orr (.dM (.v 0) [.bool]) (.nt (.dM (.v 0) [.int]))) (.cons (.ret (.c (.bl false))) .nil) .nil) (.cons (.ret (.ch .le .le (.c (.int 1)) (.v 0) (.c (.int 99)))) .nil))⟩
@[reducible] def f3:Ev.Fn:=⟨1,2,(.cons (.iff (.orr (.nt (.dM (.v 0) [.str])) (.nt (.ch .le .le (.c (.int 1)) (.bi .len (.cons (.v 0) .nil)) (.c (.int 8))))) (.cons (.ret (.c (.bl false))) .nil) .nil) (.cons (.ret (.bi .all (.cons (.comp (.cmp .isin (.v 1) (.c (.str [97,98,99,100,101,102,103,104,105,106,107,108,109,110,111,112,113,114,115,116,117,118,119,120,121,122,32]))) (.one 1) (.seq (.v 0)) .no) .nil))) .nil))⟩
@[reducible] def f4:Ev.Fn:=⟨1,3,(.cons (.ret (.me .join (.c (.str [47])) (.cons (.comp (.bin .add (.dJ [(.str [107,101,101,112],.str [61]),(.str [112,117,116],.str [43]),(.str [100,114,111,112],.str [45])] (.v 1)) (.bi .gn (.cons (.v 2) .nil))) (.many [1,2]) (.seq (.v 0)) .no) .nil))) .nil)⟩
@[reducible] def f5:Ev.Fn:=⟨1,2,(.cons (.ret (.me .join (.c (.str [])) (.cons (.comp (.bin .add (.cl 4 (.cons (.v 1) .nil)) (.c (.str [10]))) (.one 1) (.seq (.v 0)) .no) .nil))) .nil)⟩
@[reducible] def f6:Ev.Fn:=⟨1,3,(.cons (.iff (.cmp .eq (.v 0) (.c (.str []))) (.cons (.ret (.tup .nil)) .nil) .nil) (.cons (.set 1 (.fO (.comp (.cl 8 (.cons (.v 2) .nil)) (.one 2) (.seq (.fN (.ir (.v 0) (.c (.str [47]))))) .no))) (.cons (.iff (.nt (.cl 0 (.cons (.v 1) .nil))) (.cons (.cA 0) .nil) .nil) (.cons (.ret (.v 1)) .nil))))⟩
@[reducible] def f7:Ev.Fn:=⟨1,2,(.cons (.ret (.comp (.cl 6 (.cons (.v 1) .nil)) (.one 1) (.seq (.cl 10 (.cons (.v 0) .nil))) .no)) .nil)⟩
@[reducible] def f8:Ev.Fn:=⟨1,2,(.cons (.iff (.cmp .cC (.bin .add (.sl (.v 0) .no (.yes (.c (.int 1)))) (.c (.str []))) (.c (.tup [.str [61],.str [43],.str [45]]))) (.cons (.cA 0) .nil) .nil) (.cons (.set 1 (.dJ [(.str [61],.str [107,101,101,112]),(.str [43],.str [112,117,116]),(.str [45],.str [100,114,111,112])] (.sl (.v 0) .no (.yes (.c (.int 1)))))) (.cons (.iff (.cmp .eq (.v 1) (.c (.str [107,101,101,112]))) (.cons (.ret (.tup (.cons (.v 1) (.cons (.cl 9 (.cons (.sl (.v 0) (.yes (.c (.int 1))) .no) .nil)) .nil)))) .nil) .nil) (.cons (.ret (.tup (.cons (.v 1) (.cons (.sl (.v 0) (.yes (.c (.int 1))) .no) .nil)))) .nil))))⟩
@[reducible] def f9:Ev.Fn:=⟨1,2,(.cons (.iff (.cmp .cC (.v 0) (.comp (.bi .gn (.cons (.v 1) .nil)) (.one 1) (.fz (.cons (.c (.int 1)) (.cons (.bin .add (.c (.int 99)) (.c (.int 1))) .nil))) .no)) (.cons (.cA 0) .nil) .nil) (.cons (.ret (.bi .jE (.cons (.v 0) .nil))) .nil))⟩
@[reducible] def sQ:Ev.Fn:=⟨1,2,(.cons (.set 1 (.fN (.ir (.v 0) (.c (.str [10]))))) (.cons (.iff (.cmp .ne (.me .pop (.v 1) .nil) (.c (.str []))) (.cons (.cA 0) .nil) .nil) (.cons (.ret (.v 1)) .nil)))⟩
@[reducible] def Mj:Ev.Fn:=⟨2,2,(.cons (.iff (.cmp .eq (.v 0) (.lst .nil)) (.cons (.ret (.bin .mul (.c (.int 7)) (.v 1))) .nil) .nil) (.cons (.ret (.bin .add (.ix (.v 0) (.bin .mod (.v 1) (.bi .len (.cons (.v 0) .nil)))) (.bin .mul (.c (.int 6553)) (.bin .fdiv (.v 1) (.bi .len (.cons (.v 0) .nil)))))) .nil))⟩
@[reducible] def Mk:Ev.Fn:=⟨3,4,(.cons (.set 3 (.bin .mod (.bin .add (.bin .mul (.bin .mod (.cl 11 (.cons (.v 0) (.cons (.v 1) .nil))) (.c (.int 2147483563))) (.c (.int 69069))) (.bin .mul (.c (.int 104723)) (.bin .add (.v 1) (.c (.int 1))))) (.c (.int 2147483563)))) (.cons (.set 3 (.bin .mod (.bin .add (.bin .mul (.v 3) (.v 3)) (.bin .fdiv (.v 3) (.c (.int 3)))) (.c (.int 2147483399)))) (.cons (.ret (.bin .mod (.bin .fdiv (.bin .mod (.bin .add (.bin .mul (.v 3) (.v 3)) (.bin .fdiv (.v 3) (.c (.int 7)))) (.c (.int 2147483647))) (.c (.int 11))) (.v 2))) .nil)))⟩
@[reducible] def Ae:Ev.Ss:=(.cons (.set 5 (.bin .add (.bin .add (.v 1) (.c (.int 1))) (.bin .mul (.c (.int 12)) (.v 4)))) (.cons (.set 6 (.ix (.lst (.cons (.c (.str [107,101,101,112])) (.cons (.c (.str [112,117,116])) (.cons (.c (.str [100,114,111,112])) .nil)))) (.cl 12 (.cons (.v 0) (.cons (.v 5) (.cons (.c (.int 3)) .nil)))))) (.cons (.set 7 (.bin .add (.c (.int 1)) (.cl 12 (.cons (.v 0) (.cons (.bin .add (.v 5) (.c (.int 1))) (.cons (.c (.int 99)) .nil)))))) (.cons (.iff (.cmp .ne (.v 6) (.c (.str [107,101,101,112]))) (.cons (.set 8 (.bin .add (.c (.int 1)) (.cl 12 (.cons (.v 0) (.cons (.bin .add (.v 5) (.c (.int 1))) (.cons (.c (.int 8)) .nil)))))) (.cons (.set 7 (.me .join (.c (.str [])) (.cons (.comp (.ix (.v 2) (.cl 12 (.cons (.v 0) (.cons (.bin .add (.bin .add (.v 5) (.c (.int 2))) (.v 9)) (.cons (.c (.int 27)) .nil))))) (.one 9) (.fz (.cons (.v 8) .nil)) .no) .nil))) .nil)) .nil) (.cons (.set 3 (.bin .add (.v 3) (.tup (.cons (.tup (.cons (.v 6) (.cons (.v 7) .nil))) .nil)))) .nil)))))
@[reducible] def wA:Ev.Fn:=⟨2,10,(.cons (.set 2 (.c (.str [97,98,99,100,101,102,103,104,105,106,107,108,109,110,111,112,113,114,115,116,117,118,119,120,121,122,32]))) (.cons (.set 3 (.tup .nil)) (.cons (.for (.one 4) (.fz (.cons (.cl 12 (.cons (.v 0) (.cons (.v 1) (.cons (.c (.int 6)) .nil)))) .nil)) Ae) (.cons (.ret (.v 3)) .nil))))⟩
@[reducible] def Cp:Ev.Fn:=⟨2,4,(.cons (.iff (.cmp .eq (.v 0) (.c (.int 0))) (.cons (.tr 6 1001 (.cons (.v 1) .nil)) .nil) (.cons (.tr 7 1001 (.cons (.v 1) .nil)) .nil)) .nil)⟩
@[reducible] def Af:Ev.Ss:=(.cons (.set 3 (.sl (.v 2) (.yes (.c (.int 1))) .no)) (.cons (.iff (.cmp .eq (.sl (.v 2) .no (.yes (.c (.int 1)))) (.c (.str [61]))) (.cons (.set 4 (.comp (.v 5) (.one 5) (.seq (.v 3)) (.yes (.cmp .cC (.v 5) (.c (.str [48,49,50,51,52,53,54,55,56,57])))))) (.cons (.iff (.orr (.cmp .ne (.v 4) (.lst .nil)) (.orr (.nt (.ch .le .le (.c (.int 1)) (.bi .len (.cons (.v 3) .nil)) (.c (.int 2)))) (.cmp .eq (.ix (.v 3) (.c (.int 0))) (.c (.str [48]))))) (.cons (.ret (.c (.aO))) .nil) .nil) (.cons (.set 1 (.bin .add (.v 1) (.tup (.cons (.tup (.cons (.c (.str [107,101,101,112])) (.cons (.bi .jE (.cons (.v 3) .nil)) .nil))) .nil)))) .nil))) (.cons (.iff (.an (.cmp .isin (.sl (.v 2) .no (.yes (.c (.int 1)))) (.tup (.cons (.c (.str [43])) (.cons (.c (.str [45])) .nil)))) (.cmp .ne (.v 2) (.c (.str [])))) (.cons (.set 4 (.comp (.v 6) (.one 6) (.seq (.v 3)) (.yes (.nt (.orr (.ch .le .le (.c (.str [97])) (.v 6) (.c (.str [122]))) (.cmp .eq (.v 6) (.c (.str [32])))))))) (.cons (.iff (.orr (.cmp .ne (.v 4) (.lst .nil)) (.nt (.ch .le .le (.c (.int 1)) (.bi .len (.cons (.v 3) .nil)) (.c (.int 8))))) (.cons (.ret (.c (.aO))) .nil) .nil) (.cons (.set 1 (.bin .add (.v 1) (.tup (.cons (.tup (.cons (.dJ [(.str [43],.str [112,117,116]),(.str [45],.str [100,114,111,112])] (.sl (.v 2) .no (.yes (.c (.int 1))))) (.cons (.v 3) .nil))) .nil)))) .nil))) (.cons (.ret (.c (.aO))) .nil)) .nil)) .nil))
@[reducible] def Cq:Ev.Fn:=⟨1,7,(.cons (.set 1 (.tup .nil)) (.cons (.for (.one 2) (.seq (.bin .mul (.fN (.ir (.v 0) (.c (.str [47])))) (.bi .kY (.cons (.cmp .ne (.v 0) (.c (.str []))) .nil)))) Af) (.cons (.ret (.iH (.cmp .le (.bi .len (.cons (.v 1) .nil)) (.c (.int 12))) (.v 1) (.c (.aO)))) .nil)))⟩
@[reducible] def Cr:Ev.Fn:=⟨1,4,(.cons (.set 1 (.fN (.ir (.v 0) (.c (.str [10]))))) (.cons (.set 2 (.comp (.cl 15 (.cons (.v 3) .nil)) (.one 3) (.seq (.sl (.v 1) .no (.yes (.neg (.c (.int 1)))))) .no)) (.cons (.ret (.iH (.orr (.cmp .ne (.ix (.v 1) (.neg (.c (.int 1)))) (.c (.str []))) (.cmp .isin (.c (.aO)) (.v 2))) (.c (.aO)) (.v 2))) .nil)))⟩
@[reducible] def Ag:Ev.Ss:=(.cons (.iff (.orr (.cmp .ne (.cl 14 (.cons (.c (.int 0)) (.cons (.v 11) .nil))) (.cl 15 (.cons (.v 11) .nil))) (.cmp .ne (.cl 14 (.cons (.c (.int 1)) (.cons (.v 11) .nil))) (.cl 16 (.cons (.v 11) .nil)))) (.cons (.ret (.c (.bl false))) .nil) .nil) .nil)
@[reducible] def Ah:Ev.Ss:=(.cons (.set 4 (.iH (.cmp .eq (.v 3) (.c (.int 0))) (.v 2) (.cl 5 (.cons (.v 1) .nil)))) (.cons (.set 5 (.cl 12 (.cons (.v 0) (.cons (.bin .add (.c (.int 301)) (.v 3)) (.cons (.bin .add (.bi .len (.cons (.v 4) .nil)) (.c (.int 1))) .nil))))) (.cons (.set 6 (.ix (.c (.str [61,43,45,47,48,57,32,122,10,65])) (.cl 12 (.cons (.v 0) (.cons (.bin .add (.c (.int 303)) (.v 3)) (.cons (.c (.int 10)) .nil)))))) (.cons (.set 7 (.lst (.cons (.v 4) (.cons (.bin .add (.sl (.v 4) .no (.yes (.v 5))) (.sl (.v 4) (.yes (.bin .add (.v 5) (.c (.int 1)))) .no)) (.cons (.bin .add (.sl (.v 4) .no (.yes (.bin .add (.v 5) (.c (.int 1))))) (.sl (.v 4) (.yes (.v 5)) .no)) (.cons (.bin .add (.bin .add (.sl (.v 4) .no (.yes (.v 5))) (.v 6)) (.sl (.v 4) (.yes (.bin .add (.v 5) (.c (.int 1)))) .no)) .nil)))))) (.cons (.set 7 (.fh (.v 7) (.lst (.cons (.bin .add (.bin .add (.sl (.v 4) .no (.yes (.v 5))) (.v 6)) (.sl (.v 4) (.yes (.v 5)) .no)) (.cons (.me .join (.c (.str [47])) (.cons (.bin .mul (.lst (.cons (.v 2) .nil)) (.c (.int 3))) .nil)) (.cons (.c (.str [61,49,48,48])) (.cons (.c (.str [43])) (.cons (.c (.str [61,48])) (.cons (.c (.str [43,97,98,99,100,101,102,103,104,105])) .nil))))))))) (.cons (.set 8 (.fN (.ir (.v 4) (.c (.str [10]))))) (.cons (.set 9 (.cl 12 (.cons (.v 0) (.cons (.bin .add (.c (.int 305)) (.v 3)) (.cons (.bi .len (.cons (.v 8) .nil)) .nil))))) (.cons (.set 7 (.fh (.v 7) (.lst (.cons (.me .join (.c (.str [10])) (.cons (.bin .add (.sl (.v 8) .no (.yes (.v 9))) (.sl (.v 8) (.yes (.bin .add (.v 9) (.c (.int 1)))) .no)) .nil)) (.cons (.me .join (.c (.str [10])) (.cons (.bin .add (.sl (.v 8) .no (.yes (.bin .add (.v 9) (.c (.int 1))))) (.sl (.v 8) (.yes (.v 9)) .no)) .nil)) .nil))))) (.cons (.set 10 (.bin .add (.bin .add (.sl (.v 8) .no (.yes (.v 9))) (.rv (.sl (.v 8) (.yes (.v 9)) (.yes (.bin .add (.v 9) (.c (.int 2))))))) (.sl (.v 8) (.yes (.bin .add (.v 9) (.c (.int 2)))) .no))) (.cons (.exp (.me .append (.v 7) (.cons (.me .join (.c (.str [10])) (.cons (.v 10) .nil)) .nil))) (.cons (.for (.one 11) (.seq (.v 7)) Ag) .nil)))))))))))
@[reducible] def Cs:Ev.Fn:=⟨1,13,(.cons (.set 1 (.comp (.cl 13 (.cons (.v 0) (.cons (.bin .mul (.c (.int 100)) (.v 12)) .nil))) (.one 12) (.fz (.cons (.bin .add (.c (.int 1)) (.cl 12 (.cons (.v 0) (.cons (.c (.int 300)) (.cons (.c (.int 3)) .nil))))) .nil)) .no)) (.cons (.set 2 (.cl 4 (.cons (.ix (.v 1) (.c (.int 0))) .nil))) (.cons (.iff (.cmp .ne (.cmp .eq (.cl 4 (.cons (.ix (.v 1) (.neg (.c (.int 1)))) .nil)) (.v 2)) (.cmp .eq (.ix (.v 1) (.neg (.c (.int 1)))) (.ix (.v 1) (.c (.int 0))))) (.cons (.ret (.c (.bl false))) .nil) .nil) (.cons (.for (.one 3) (.fz (.cons (.c (.int 2)) .nil)) Ah) (.cons (.ret (.c (.bl true))) .nil)))))⟩
def prog:List Ev.Fn:=[f0,f1,f2,f3,f4,f5,f6,f7,f8,f9,sQ,Mj,Mk,wA,Cp,Cq,Cr,Cs]
end Lw
namespace Lw
open PySem PySem.Spec PyProof.Rows L2 Sm
open Ev (D O Hh Fr R aB E Es Eo T S Ss Fl Src bu aV TY BI ME)
noncomputable def top(i:Nat):Stmt:=PySem.Challenge.pw_pastways_k91_whole_read.main.body.getD i (.Pass ⟨0,0,0,0⟩)
abbrev i0 (a:Nat->Addr) (d:Nat->FuncData):FI:=⟨"is_change",a 0,d 0,["thing"]⟩
abbrev i1 (a:Nat->Addr) (d:Nat->FuncData):FI:=⟨"is_part",a 1,d 1,["thing"]⟩
abbrev i2 (a:Nat->Addr) (d:Nat->FuncData):FI:=⟨"is_kept",a 2,d 2,["thing"]⟩
abbrev i3 (a:Nat->Addr) (d:Nat->FuncData):FI:=⟨"is_some",a 3,d 3,["thing"]⟩
abbrev i4 (a:Nat->Addr) (d:Nat->FuncData):FI:=⟨"change_text",a 4,d 4,["change"]⟩
abbrev i5 (a:Nat->Addr) (d:Nat->FuncData):FI:=⟨"rows_text",a 5,d 5,["rows"]⟩
abbrev i6 (a:Nat->Addr) (d:Nat->FuncData):FI:=⟨"read_change",a 6,d 6,["text"]⟩
abbrev i7 (a:Nat->Addr) (d:Nat->FuncData):FI:=⟨"read_rows",a 7,d 7,["text"]⟩
abbrev i8 (a:Nat->Addr) (d:Nat->FuncData):FI:=⟨"read_part",a 8,d 8,["text"]⟩
abbrev i9 (a:Nat->Addr) (d:Nat->FuncData):FI:=⟨"read_number",a 9,d 9,["text"]⟩
abbrev Ct (a:Nat->Addr) (d:Nat->FuncData):FI:=⟨"lines_of",a 10,d 10,["text"]⟩
abbrev Ml (a:Nat->Addr) (d:Nat->FuncData):FI:=⟨"_law_cell",a 11,d 11,["_law_script","_law_k"]⟩
abbrev i12 (a:Nat->Addr) (d:Nat->FuncData):FI:=⟨"_law_drawn",a 12,d 12,["_law_script","_law_k","_law_many"]⟩
abbrev Mm (a:Nat->Addr) (d:Nat->FuncData):FI:=⟨"_law_wide",a 13,d 13,["_law_script","_law_at"]⟩
abbrev Pd (a:Nat->Addr) (d:Nat->FuncData):FI:=⟨"_law_told",a 14,d 14,["_law_way","_law_text"]⟩
abbrev Mn (a:Nat->Addr) (d:Nat->FuncData):FI:=⟨"_law_due",a 15,d 15,["_law_text"]⟩
abbrev Mp (a:Nat->Addr) (d:Nat->FuncData):FI:=⟨"_law_rows",a 16,d 16,["_law_text"]⟩
abbrev Fb (a:Nat->Addr) (d:Nat->FuncData):FI:=⟨"law",a 17,d 17,["_law_script"]⟩
def o4:List Str:=["ValueError","all","bool","int","isinstance","len","range","str","tuple"]
def Ou:("all" : Str)∈o4:=by decide +kernel
def Mq:("bool" : Str)∈o4:=by decide +kernel
def Ai:("int" : Str)∈o4:=by decide +kernel
def iE:("isinstance" : Str)∈o4:=by decide +kernel
def Ov:("len" : Str)∈o4:=by decide +kernel
def yT:("range" : Str)∈o4:=by decide +kernel
def Fc:("str" : Str)∈o4:=by decide +kernel
def rX:("tuple" : Str)∈o4:=by decide +kernel
def tb (a:Nat->Addr) (d:Nat->FuncData):Tb:=⟨prog,100000,[i0 a d,i1 a d,i2 a d,i3 a d,i4 a d,i5 a d,i6 a d,i7 a d,i8 a d,i9 a d,Ct a d,Ml a d,i12 a d,Mm a d,Pd a d,Mn a d,Mp a d,Fb a d],o4,[("__name__",.str [108,97,119,95,112,97,115,116,119,97,121,115,95,107,57,49,95,119,104,111,108,101,95,114,101,97,100]),("SIGNS",.str [97,98,99,100,101,102,103,104,105,106,107,108,109,110,111,112,113,114,115,116,117,118,119,120,121,122,32]),("MOST_KEPT",.int 99),("MOST_SIGNS",.int 8),("MOST_PARTS",.int 12)],[("MARKS",[(.str [107,101,101,112],.str [61]),(.str [112,117,116],.str [43]),(.str [100,114,111,112],.str [45])]),("WORDS",[(.str [61],.str [107,101,101,112]),(.str [43],.str [112,117,116]),(.str [45],.str [100,114,111,112])])]⟩
section
variable{a:Nat->Addr}{d:Nat->FuncData}{n:Nat}
abbrev n0:List Str:=["thing"]
def s0:bJ n0 ["thing"] (aF (top 5)):=⟨rfl,rfl,rfl,by decide +kernel,rfl,by decide +kernel,by decide +kernel⟩
abbrev n1:List Str:=["thing"]
def s1:bJ n1 ["thing"] (aF (top 6)):=⟨rfl,rfl,rfl,by decide +kernel,rfl,by decide +kernel,by decide +kernel⟩
abbrev n2:List Str:=["thing"]
def s2:bJ n2 ["thing"] (aF (top 7)):=⟨rfl,rfl,rfl,by decide +kernel,rfl,by decide +kernel,by decide +kernel⟩
abbrev n3:List Str:=["thing"]
def s3:bJ n3 ["thing"] (aF (top 8)):=⟨rfl,rfl,rfl,by decide +kernel,rfl,by decide +kernel,by decide +kernel⟩
abbrev n4:List Str:=["change"]
def s4:bJ n4 ["change"] (aF (top 17)):=⟨rfl,rfl,rfl,by decide +kernel,rfl,by decide +kernel,by decide +kernel⟩
abbrev n5:List Str:=["rows"]
def s5:bJ n5 ["rows"] (aF (top 18)):=⟨rfl,rfl,rfl,by decide +kernel,rfl,by decide +kernel,by decide +kernel⟩
abbrev n6:List Str:=["text","change"]
def s6:bJ n6 ["text"] (aF (top 19)):=⟨rfl,rfl,rfl,by decide +kernel,rfl,by decide +kernel,by decide +kernel⟩
abbrev n7:List Str:=["text"]
def s7:bJ n7 ["text"] (aF (top 20)):=⟨rfl,rfl,rfl,by decide +kernel,rfl,by decide +kernel,by decide +kernel⟩
abbrev n8:List Str:=["text","word"]
def s8:bJ n8 ["text"] (aF (top 21)):=⟨rfl,rfl,rfl,by decide +kernel,rfl,by decide +kernel,by decide +kernel⟩
abbrev n9:List Str:=["text"]
def s9:bJ n9 ["text"] (aF (top 22)):=⟨rfl,rfl,rfl,by decide +kernel,rfl,by decide +kernel,by decide +kernel⟩
abbrev Cu:List Str:=["text","lines"]
def Ez:bJ Cu ["text"] (aF (top 23)):=⟨rfl,rfl,rfl,by decide +kernel,rfl,by decide +kernel,by decide +kernel⟩
abbrev Mr:List Str:=["_law_script","_law_k"]
def uS:bJ Mr ["_law_script","_law_k"] (aF (top 25)):=⟨rfl,rfl,rfl,by decide +kernel,rfl,by decide +kernel,by decide +kernel⟩
abbrev Ms:List Str:=["_law_script","_law_k","_law_many","_law_cell_here"]
def s12:bJ Ms ["_law_script","_law_k","_law_many"] (aF (top 26)):=⟨rfl,rfl,rfl,by decide +kernel,rfl,by decide +kernel,by decide +kernel⟩
abbrev Mt:List Str:=["_law_script","_law_at","_law_signs","_law_found","_law_k","_law_here","_law_word","_law_what","_law_many"]
def Sd:bJ Mt ["_law_script","_law_at"] (aF (top 27)):=⟨rfl,rfl,rfl,by decide +kernel,rfl,by decide +kernel,by decide +kernel⟩
abbrev Pe:List Str:=["_law_way","_law_text","e","_law_flags"]
def Se:bJ Pe ["_law_way","_law_text"] (aF (top 28)):=⟨rfl,rfl,rfl,by decide +kernel,rfl,by decide +kernel,by decide +kernel⟩
abbrev Mu:List Str:=["_law_text","_law_found","_law_part","_law_what","_law_odd"]
def Sf:bJ Mu ["_law_text"] (aF (top 29)):=⟨rfl,rfl,rfl,by decide +kernel,rfl,by decide +kernel,by decide +kernel⟩
abbrev Mv:List Str:=["_law_text","_law_lines","_law_found"]
def Sg:bJ Mv ["_law_text"] (aF (top 30)):=⟨rfl,rfl,rfl,by decide +kernel,rfl,by decide +kernel,by decide +kernel⟩
abbrev Mw:List Str:=["_law_script","_law_rows_here","_law_one","_law_way","_law_text","_law_at","_law_sign","_law_texts","_law_lines","_law_to","_law_turned","_law_some"]
def Sh:bJ Mw ["_law_script"] (aF (top 31)):=⟨rfl,rfl,rfl,by decide +kernel,rfl,by decide +kernel,by decide +kernel⟩
noncomputable def bE:List (Str×Nat):=[("NoText",0)]
noncomputable def rz:List Nat:=[6,7,8,9,10]
noncomputable def su:List Nat:=[6,7,8,9,10]
def hz:Ev.oG rz 0 prog=true:=by decide +kernel
def QU(s:Stmt):Expr:=match cF s with
 |.Try [.Return (some x) _] _ _ _ _ :: _=>x
 |_=>.Constant .none 0 ⟨0,0,0,0⟩
set_option maxHeartbeats 0 in
def dU{cl:Nat->Addr}:allB (tb a d) n [(f0.body,top 5,n0),(f1.body,top 6,n1),(f2.body,top 7,n2),(f3.body,top 8,n3),(f4.body,top 17,n4),(f5.body,top 18,n5),(f6.body,top 19,n6),(f7.body,top 20,n7),(f8.body,top 21,n8),(f9.body,top 22,n9),(sQ.body,top 23,Cu),(Mj.body,top 25,Mr),(Mk.body,top 26,Ms),(wA.body,top 27,Mt),(Cq.body,top 29,Mu),(Cr.body,top 30,Mv),(Cs.body,top 31,Mw)]/\jM (tb a d) cl bE rz su n (aF (top 19)) n6 true (List.range n6.length) f6.body (cF (top 19))/\jM (tb a d) cl bE rz su n (aF (top 20)) n7 true (List.range n7.length) f7.body (cF (top 20))/\jM (tb a d) cl bE rz su n (aF (top 21)) n8 true (List.range n8.length) f8.body (cF (top 21))/\jM (tb a d) cl bE rz su n (aF (top 22)) n9 true (List.range n9.length) f9.body (cF (top 22))/\jM (tb a d) cl bE rz su n (aF (top 23)) Cu true (List.range Cu.length) sQ.body (cF (top 23))/\yf (tb a d) cl su n (aF (top 28)) Pe Cp.body (QU (top 28)):=by
 refine⟨⟨?_,?_,?_,?_,?_,?_,?_,?_,?_,?_,?_,?_,?_,?_,?_,?_,?_,trivial⟩,bX ?_ (vt (by decide +kernel)) (bX ?_ (GN (by decide +kernel) (KP (BJ (by decide +kernel) (by decide +kernel) ?_ (KQ (by decide +kernel)) ?_ ?_ ?_ (BH (by decide +kernel) (by decide +kernel) rfl rfl ?_ (by decide +kernel))) (h1:=rX))) (bX ?_ (kK ?_ (by decide +kernel) (bX ?_ (nS) (cQ (by decide +kernel))) (cQ (by decide +kernel))) (cQ (by decide +kernel)))),bX ?_ (ye (BJ (by decide +kernel) (by decide +kernel) ?_ (GU (EL (by decide +kernel) (by decide +kernel) rfl rfl ?_ (vq (by decide +kernel)))) ?_ ?_ ?_ (BH (by decide +kernel) (by decide +kernel) rfl rfl ?_ (by decide +kernel)))) (cQ (by decide +kernel)),bX ?_ (kK ?_ (by decide +kernel) (bX ?_ (nS) (cQ (by decide +kernel))) (cQ (by decide +kernel))) (bX ?_ (vt (by decide +kernel)) (bX ?_ (kK ?_ (by decide +kernel) (bX ?_ (ye (KO (vv ?_ (NP (by decide +kernel)) (vv ?_ (EL (by decide +kernel) (by decide +kernel) rfl rfl ?_ (vq (by decide +kernel))) (vq (by decide +kernel)))))) (cQ (by decide +kernel))) (cQ (by decide +kernel))) (cQ (by decide +kernel)))),bX ?_ (kK ?_ (by decide +kernel) (bX ?_ (nS) (cQ (by decide +kernel))) (cQ (by decide +kernel))) (cQ (by decide +kernel)),bX ?_ (vt (by decide +kernel)) (bX ?_ (kK ?_ (by decide +kernel) (bX ?_ (nS) (cQ (by decide +kernel))) (cQ (by decide +kernel))) (cQ (by decide +kernel))),GS ?_ (vA (by show prog.length<=1000;decide) rfl rfl (by decide +kernel) ?_ (by decide +kernel)) (vA (by show prog.length<=1000;decide) rfl rfl (by decide +kernel) ?_ (by decide +kernel))⟩;all_goals try dsimp only
 all_goals repeat (first
  | ((with_reducible show JE _ _ _ _ _ _ (.c _) (.Name _ _));refine nM (x:="MOST_KEPT") (.tail _ (.tail _ (.head _))))
  | ((with_reducible show JE _ _ _ _ _ _ (.c _) (.Name _ _));refine nM (x:="MOST_PARTS") (.tail _ (.tail _ (.tail _ (.tail _ (.head _))))))
  | ((with_reducible show JE _ _ _ _ _ _ _ (.BoolOp _ [_] _));refine Js ?_)
  | ((with_reducible show JE _ _ _ _ _ _ (.c _) (.Name _ _));refine nM (x:="MOST_SIGNS") (.tail _ (.tail _ (.tail _ (.head _)))))
  | ((with_reducible show JE _ _ _ _ _ _ (.c _) (.Name _ _));refine nM (x:="SIGNS") (.tail _ (.head _)))
  | ((with_reducible show JT _ _ _ _ _ _ (.cmp .cC _ _) _);refine Kr (x:="WORDS") (ks:=[[61],[43],[45]]) (.tail _ (.head _)) ?_)
  | ((with_reducible show JE _ _ _ _ _ _ (.v _) _);exact jv (by decide +kernel))
  | ((with_reducible show JA _ _ _ _ _ _ (.cons _ _) _);refine Gb ?_ ?_)
  | ((with_reducible show mT _ _ _ _ _ _ (.cons _ _) _);refine C6 ?_ ?_)
  | ((with_reducible show JA _ _ _ _ _ _ .nil _);refine Jp)
  | ((with_reducible show JE _ _ _ _ _ _ (.c (.int _)) _);refine AR)
  | ((with_reducible show mT _ _ _ _ _ _ .nil _);refine Gj)
  | ((with_reducible show JE _ _ _ _ _ _ (.bin .add _ _) _);refine qq (λX g=>J4) ?_ ?_)
  | ((with_reducible show JE _ _ _ _ _ _ (.c (.str _)) _);refine Jo)
  | ((with_reducible show JS _ _ _ _ _ _ (.ret _) _);refine JN ?_)
  | ((with_reducible show JE _ _ _ _ _ _ (.cl _ _) _);refine OT (by decide +kernel) rfl rfl ?_)
  | ((with_reducible show JO _ _ _ _ _ _ (.yes _) _);refine Jz ?_)
  | ((with_reducible show JE _ _ _ _ _ _ (.sl _ _ _) _);refine NF (λX g=>Kc) ?_ ?_ ?_)
  | ((with_reducible show JO _ _ _ _ _ _ .no _);refine ND)
  | ((with_reducible show JS _ _ _ _ _ _ (.iff _ _ _) _);refine JQ ?_ ?_ ?_)
  | ((with_reducible show JG _ _ _ _ _ _ (.one _) _);exact RA (by decide +kernel))
  | ((with_reducible show JE _ _ _ _ _ _ (.ix _ _) _);refine NC (λX g=>NJ) ?_ ?_)
  | ((with_reducible show JE _ _ _ _ _ _ (.tup _) _);refine Jq ?_)
  | ((with_reducible show JI _ _ _ _ _ _ (.seq _) _ _);refine JH ?_)
  | ((with_reducible show JT _ _ _ _ _ _ (.orr _ _) _);refine Qu ?_ ?_)
  | ((with_reducible show JW _ _ _ _ _ _ (.orr _ _) (.BoolOp _ (_ :: _ :: _) _));refine AU ?_ ?_)
  | ((with_reducible show JE _ _ _ _ _ _ (.bi .len _) _);refine Ep (x:="len") (id:="len") (λX g=>Kf) ?_ (hb:=Ov) (hv:=by decide +kernel))
  | ((with_reducible show JC _ _ _ _ _ _ .no _);refine NH)
  | ((with_reducible show JT _ _ _ _ _ _ (.cmp .ne _ _) _);refine kI (λX g=>EG g) ?_ ?_ (jA _))
  | ((with_reducible show JE _ _ _ _ _ _ (.bin .mul _ _) _);refine qq (λX g=>Kd) ?_ ?_)
  | ((with_reducible show JT _ _ _ _ _ _ (.nt _) _);refine NB ?_)
  | ((with_reducible show JW _ _ _ _ _ _ _ (.BoolOp .Or [_] _));refine Gd ?_)
  | ((with_reducible show JT _ _ _ _ _ _ (.cmp .eq _ _) _);refine kI (λX g=>EF g) ?_ ?_ (jA _))
  | ((with_reducible show JE _ _ _ _ _ _ (.comp _ _ _ _) _);refine NN (by decide +kernel) (by decide +kernel) ?_ ?_ ?_ ?_)
  | ((with_reducible show JE _ _ _ _ _ _ (.lst _) _);refine Jr ?_)
  | ((with_reducible show JE _ _ _ _ _ _ (.c (.bl _)) _);refine Nt)
  | ((with_reducible show JE _ _ _ _ _ _ (.me .join _ (.cons _ _)) _);refine Er PySem.F.plainAttrs_str PySem.F.slot_str_join PySem.F.type_str_join (λX g=>GB) rfl ?_ ?_)
  | ((with_reducible show JE _ _ _ _ _ _ (.bin .mod _ _) _);refine qq (λX g=>J5) ?_ ?_)
  | ((with_reducible show JE _ _ _ _ _ _ (.c .aO) _);refine Jm)
  | ((with_reducible show JE _ _ _ _ _ _ (.fN (.ir _ _)) _);refine Ds ?_ ?_)
  | ((with_reducible show JT _ _ _ _ _ _ (.ch _ _ _ _ _) _);refine Ny (λX g=>qv) (λX g=>qv) ?_ ?_ ?_)
  | ((with_reducible show JS _ _ _ _ _ _ (.cA _) _);refine Kl)
  | ((with_reducible show JE _ _ _ _ _ _ (.bin .fdiv _ _) _);refine qq (λX g=>Gv) ?_ ?_)
  | ((with_reducible show JS _ _ _ _ _ _ (.for _ _ _) _);refine JR ?_ ?_ ?_)
  | ((with_reducible show JI _ _ _ _ _ _ (.fz (.cons _ .nil)) _ _);refine Gf ?_ (hb:=yT))
  | ((with_reducible show JS _ _ _ _ _ _ (.set _ (.comp _ _ _ _)) _);refine NO (by decide +kernel) (by decide +kernel) (by decide +kernel) ?_ ?_ ?_ ?_)
  | ((with_reducible show JE _ _ _ _ _ _ (.neg _) _);refine AS ?_)
  | ((with_reducible show JE _ _ _ _ _ _ (.iH _ _ _) _);refine Jt ?_ ?_ ?_)
  | ((with_reducible show JE _ _ _ _ _ _ (.dM _ [.tuple]) _);refine qw (t:=.tuple) (T:="tuple") ?_ (by decide +kernel) (h1:=iE) (h2:=rX))
  | ((with_reducible show JE _ _ _ _ _ _ (.bi .all _) _);refine Ep (x:="all") (id:="all") (λX g=>Ke g) ?_ (hb:=Ou) (hv:=by decide +kernel))
  | ((with_reducible show JE _ _ _ _ _ _ (.cmp .isin _ _) _);refine uL (λX g=>EH g) ?_ ?_ (by with_unfolding_all rfl))
  | ((with_reducible show sJ _ _ _ _ _ _ (_ :: _) _);refine RB (by decide +kernel) ?_)
  | ((with_reducible show JE _ _ _ _ _ _ (.bi .gn _) _);refine zA (x:="str") (id:="str") (λX g=>GG) ?_ (hb:=Fc) (hv:=by decide +kernel))
  | ((with_reducible show JT _ _ _ _ _ _ (.cmp .cC _ _) _);refine kI (λX g=>Dm g) ?_ ?_ (by with_unfolding_all rfl))
  | ((with_reducible show JE _ _ _ _ _ _ (.bi .jE _) _);refine zA (x:="int") (id:="int") (λX g=>GH) ?_ (hb:=Ai) (hv:=by decide +kernel))
  | ((with_reducible show JC _ _ _ _ _ _ (.yes _) _);refine JU ?_)
  | ((with_reducible show JT _ _ _ _ _ _ (.cmp .isin _ _) _);refine kI (λX g=>EH g) ?_ ?_ (by with_unfolding_all rfl))
  | ((with_reducible show JE _ _ _ _ _ _ (.cmp .eq _ _) _);refine uL (λX g=>EF g) ?_ ?_ (jA _))
  | ((with_reducible show JE _ _ _ _ _ _ (.fh _ _) _);refine GJ ?_)
  | ((with_reducible show JT _ _ _ _ _ _ (.cmp .gt _ _) _);refine kI (λX g=>NI) ?_ ?_ (jA _))
  | ((with_reducible show JE _ _ _ _ _ _ (.an _ _) (.BoolOp _ (_ :: _ :: _) _));refine Nz ?_ ?_)
  | ((with_reducible show JE _ _ _ _ _ _ (.dM _ [.bool]) _);refine qw (t:=.bool) (T:="bool") ?_ (by decide +kernel) (h1:=iE) (h2:=Mq))
  | ((with_reducible show JE _ _ _ _ _ _ (.dM _ [.int]) _);refine qw (t:=.int) (T:="int") ?_ (by decide +kernel) (h1:=iE) (h2:=Ai))
  | ((with_reducible show JE _ _ _ _ _ _ (.ch _ _ _ _ _) _);refine Nu (λX g=>qv) (λX g=>qv) ?_ ?_ ?_)
  | ((with_reducible show JE _ _ _ _ _ _ (.dM _ [.str]) _);refine qw (t:=.str) (T:="str") ?_ (by decide +kernel) (h1:=iE) (h2:=Fc))
  | ((with_reducible show JG _ _ _ _ _ _ (.many _) _);refine Gi ?_)
  | ((with_reducible show sJ _ _ _ _ _ _ [] _);refine Gh)
  | ((with_reducible show JE _ _ _ _ _ _ (.dJ _ _) _);refine xU (x:="MARKS") (.head _) ?_)
  | ((with_reducible show JE _ _ _ _ _ _ (.fO _) _);refine Kh ?_ (h1:=rX))
  | ((with_reducible show JE _ _ _ _ _ _ (.dJ _ _) _);refine xU (x:="WORDS") (.tail _ (.head _)) ?_)
  | ((with_reducible show JI _ _ _ _ _ _ (.fz (.cons _ (.cons _ .nil))) _ _);refine Gg ?_ (hb:=yT))
  | ((with_reducible show JE _ _ _ _ _ _ (.me .pop _ .nil) _);refine JB VU PySem.F.slot_list_pop PySem.F.type_list_pop (λX g=>Kg) rfl ?_)
  | ((with_reducible show JE _ _ _ _ _ _ (.bi .kY _) _);refine zA (x:="int") (id:="int") (λX g=>GA) ?_ (hb:=Ai) (hv:=by decide +kernel))
  | ((with_reducible show JE _ _ _ _ _ _ (.cmp .ne _ _) _);refine uL (λX g=>EG g) ?_ ?_ (jA _))
  | ((with_reducible show JT _ _ _ _ _ _ (.an _ _) _);refine Qt ?_ ?_)
  | ((with_reducible show JW _ _ _ _ _ _ (.an _ _) (.BoolOp _ (_ :: _ :: _) _));refine En ?_ ?_)
  | ((with_reducible show JW _ _ _ _ _ _ _ (.BoolOp .And [_] _));refine Jv ?_)
  | ((with_reducible show JE _ _ _ _ _ _ (.dJ _ _) _);refine GI (.cons (.cons .nil)) ?_)
  | ((with_reducible show JT _ _ _ _ _ _ (.cmp .le _ _) _);refine kI (λX g=>qv) ?_ ?_ (jA _))
  | ((with_reducible show JE _ _ _ _ _ _ (.rv _) _);refine NK ?_)
  | ((with_reducible show JS _ _ _ _ _ _ (.exp _) _);refine JM ?_)
  | ((with_reducible show JE _ _ _ _ _ _ (.me .append _ (.cons _ _)) _);refine Er VU PySem.F.slot_list_append PySem.F.type_list_append (λX g=>Be) rfl ?_ ?_)
  | ((with_reducible show JS _ _ _ _ _ _ (.set _ _) _);refine Qs ?_ ?_;decide +kernel)
  | ((with_reducible show JT _ _ _ _ _ _ _ _);refine Jx ?_))
end
def gI{α:Type _}{l:List α}(h:l.length=1):∃a,l=[a]:=by
 rcases l with _|⟨a,_|⟨b,l⟩⟩<;>simp at h ⊢
def Aj{α:Type _}{l:List α}(h:l.length=2):∃a b,l=[a,b]:=by
 rcases l with _|⟨a,l⟩
 .simp at h
 .obtain⟨b,rfl⟩:=gI (l:=l) (by simpa using h);exact⟨a,b,rfl⟩
def QV{α:Type _}{l:List α}(h:l.length=3):∃a b c,l=[a,b,c]:=by
 rcases l with _|⟨a,l⟩
 .simp at h
 .obtain⟨b,c,rfl⟩:=Aj (l:=l) (by simpa using h);exact⟨a,b,c,rfl⟩
structure Fg(K:PySem.W.Frag)(x:Str)(i:Nat)(p:Addr)(d:FuncData):Prop where
 a:PySem.W.nsIn K mainGlobals x=some (some (.ref p))
 f:qh K x x (top i) p d
def Fg.t{K:PySem.W.Frag}{h:Heap}{mg:Str->Option Value}{x:Str}{i:Nat}{p:Addr}{d:FuncData}{ps:List Str}(F:Fg K x i p d)(X:K.In h)(G:h.Ns mainGlobals mg)(b:Binds K d ps []):mg x=some (.ref p)/\PySem.W.keepIn K (.ref p)=true/\Binds K d ps []:=⟨T6 X G F.a,F.f.kp,b⟩
def all_mk {l:PySem.W.OpenLaw}{w:World}{K:PySem.W.Frag}{h:Heap}{mg:Str->Option Value}{fa p0 p1 p2 p3 p4 p5 p6 p7 p8 p9 tw tD tE tF tG tH tK qz:Addr}{d0 d1 d2 d3 d4 d5 d6 d7 d8 d9 Pf Pg Ph Pj Pk Pn Po Mx:FuncData}(X:K.In h) (G:h.Ns mainGlobals mg) (Si:mg "law" = some (.ref fa))
  (F0:Fg K "is_change" 5 p0 d0)
  (F1:Fg K "is_part" 6 p1 d1)
  (F2:Fg K "is_kept" 7 p2 d2)
  (F3:Fg K "is_some" 8 p3 d3)
  (F4:Fg K "change_text" 17 p4 d4)
  (F5:Fg K "rows_text" 18 p5 d5)
  (F6:Fg K "read_change" 19 p6 d6)
  (F7:Fg K "read_rows" 20 p7 d7)
  (F8:Fg K "read_part" 21 p8 d8)
  (F9:Fg K "read_number" 22 p9 d9)
  (Fd:Fg K "lines_of" 23 tw Pf)
  (My:Fg K "_law_cell" 25 tD Pg)
  (Mz:Fg K "_law_drawn" 26 tE Ph)
  (MA:Fg K "_law_wide" 27 tF Pj)
  (MB:Fg K "_law_told" 28 tG Pk)
  (MC:Fg K "_law_due" 29 tH Pn)
  (MD:Fg K "_law_rows" 30 tK Po)
  (Cv:Fg K "law" 31 qz Mx)
  {Wc C0 C1 C2:Addr} (xw:PySem.W.nsIn K mainGlobals "WayError" = some (some (.ref Wc))) (X0:KI K "NoText" C0 Wc) (y1:PySem.W.nsIn K mainGlobals "NoFit" = some (some (.ref C1))) (y2:PySem.W.nsIn K mainGlobals "Clash" = some (some (.ref C2))) (w1:PySem.W.kitOne K (.ref C0) (.ref C1)=some false) (w2:PySem.W.kitOne K (.ref C0) (.ref C2)=some false)
  (z0:PySem.W.nsIn K mainGlobals "ValueError" = some none)
  (z1:PySem.W.nsIn K mainGlobals "all" = some none)
  (z2:PySem.W.nsIn K mainGlobals "bool" = some none)
  (z3:PySem.W.nsIn K mainGlobals "int" = some none)
  (z4:PySem.W.nsIn K mainGlobals "isinstance" = some none)
  (z5:PySem.W.nsIn K mainGlobals "len" = some none)
  (z6:PySem.W.nsIn K mainGlobals "range" = some none)
  (z7:PySem.W.nsIn K mainGlobals "str" = some none)
  (z8:PySem.W.nsIn K mainGlobals "tuple" = some none)
  {t0:Tok} (q0:PySem.W.nsIn K mainGlobals "__name__" = some (some (.str "law_pastways_k91_whole_read" t0)))
  {t1:Tok} (q1:PySem.W.nsIn K mainGlobals "SIGNS" = some (some (.str "abcdefghijklmnopqrstuvwxyz " t1)))
  {t2:Tok} (q2:PySem.W.nsIn K mainGlobals "MOST_KEPT" = some (some (.int 99 t2)))
  {t3:Tok} (q3:PySem.W.nsIn K mainGlobals "MOST_SIGNS" = some (some (.int 8 t3)))
  {t4:Tok} (q4:PySem.W.nsIn K mainGlobals "MOST_PARTS" = some (some (.int 12 t4)))
  {Fe:Addr} (Pp:PySem.W.nsIn K mainGlobals "MARKS" = some (some (.ref Fe))) (Pq:PyProof.Rows.KTD.tabLook PyProof.Rows.KTD.flatLooks (λb=>K.lookup b) Fe [(aA [107,101,101,112],PyData.str (aA [61])),(aA [112,117,116],PyData.str (aA [43])),(aA [100,114,111,112],PyData.str (aA [45]))]=true) (Pr:PyProof.Rows.KTD.hashesOf (λb=>K.lookup b) Fe=([(aA [107,101,101,112],PyData.str (aA [61])),(aA [112,117,116],PyData.str (aA [43])),(aA [100,114,111,112],PyData.str (aA [45]))]:List (Str×PyData)).map λp=>(PySem.strKind l.prog w).hash p.1)
  {Ff:Addr} (Pu:PySem.W.nsIn K mainGlobals "WORDS" = some (some (.ref Ff))) (Pw:PyProof.Rows.KTD.tabLook PyProof.Rows.KTD.flatLooks (λb=>K.lookup b) Ff [(aA [61],PyData.str (aA [107,101,101,112])),(aA [43],PyData.str (aA [112,117,116])),(aA [45],PyData.str (aA [100,114,111,112]))]=true) (Px:PyProof.Rows.KTD.hashesOf (λb=>K.lookup b) Ff=([(aA [61],PyData.str (aA [107,101,101,112])),(aA [43],PyData.str (aA [112,117,116])),(aA [45],PyData.str (aA [100,114,111,112]))]:List (Str×PyData)).map λp=>(PySem.strKind l.prog w).hash p.1)
  : ∃fd:FuncData,(∀(s:Shared) (v:Value),BindsTo s fd ⟨[v],[]⟩ [("_law_script",v)])/\∀base:Heap,K.In base->base.Ns mainGlobals mg->fc l.prog w K mg base kG 60 fa fd ["_law_script"] (lS K prog 100000 60 17):=by
 have e:=Si.symm.trans (T6 X G Cv.a);have e2:qz=fa:=by injection e with e;injection e with e;exact e.symm
 subst e2
 let aa:Nat->Addr:=λk=>[p0,p1,p2,p3,p4,p5,p6,p7,p8,p9,tw,tD,tE,tF,tG,tH,tK,qz].getD k p0
 let dd:Nat->FuncData:=λk=>[d0,d1,d2,d3,d4,d5,d6,d7,d8,d9,Pf,Pg,Ph,Pj,Pk,Pn,Po,Mx].getD k d0
 have T:Top l.prog w K mg (tb aa dd):=by
  refine⟨λf i hi=>(show ∀i∈(tb aa dd).fi,mg i.name=some (.ref i.addr)/\PySem.W.keepIn K (.ref i.addr)=true/\Binds K i.fd i.ps []from ?_) i (Q6 hi),?_,?_,?_⟩
  .refine List.forall_mem_cons.mpr ⟨F0.t X G (F0.f.binds λ_ _ _ _ _ _ us hl=>by obtain⟨_,rfl⟩:=gI hl;rfl),?_⟩;refine List.forall_mem_cons.mpr ⟨F1.t X G (F1.f.binds λ_ _ _ _ _ _ us hl=>by obtain⟨_,rfl⟩:=gI hl;rfl),?_⟩;refine List.forall_mem_cons.mpr ⟨F2.t X G (F2.f.binds λ_ _ _ _ _ _ us hl=>by obtain⟨_,rfl⟩:=gI hl;rfl),?_⟩;refine List.forall_mem_cons.mpr ⟨F3.t X G (F3.f.binds λ_ _ _ _ _ _ us hl=>by obtain⟨_,rfl⟩:=gI hl;rfl),?_⟩;refine List.forall_mem_cons.mpr ⟨F4.t X G (F4.f.binds λ_ _ _ _ _ _ us hl=>by obtain⟨_,rfl⟩:=gI hl;rfl),?_⟩;refine List.forall_mem_cons.mpr ⟨F5.t X G (F5.f.binds λ_ _ _ _ _ _ us hl=>by obtain⟨_,rfl⟩:=gI hl;rfl),?_⟩;refine List.forall_mem_cons.mpr ⟨F6.t X G (F6.f.binds λ_ _ _ _ _ _ us hl=>by obtain⟨_,rfl⟩:=gI hl;rfl),?_⟩;refine List.forall_mem_cons.mpr ⟨F7.t X G (F7.f.binds λ_ _ _ _ _ _ us hl=>by obtain⟨_,rfl⟩:=gI hl;rfl),?_⟩;refine List.forall_mem_cons.mpr ⟨F8.t X G (F8.f.binds λ_ _ _ _ _ _ us hl=>by obtain⟨_,rfl⟩:=gI hl;rfl),?_⟩;refine List.forall_mem_cons.mpr ⟨F9.t X G (F9.f.binds λ_ _ _ _ _ _ us hl=>by obtain⟨_,rfl⟩:=gI hl;rfl),?_⟩;refine List.forall_mem_cons.mpr ⟨Fd.t X G (Fd.f.binds λ_ _ _ _ _ _ us hl=>by obtain⟨_,rfl⟩:=gI hl;rfl),?_⟩;refine List.forall_mem_cons.mpr ⟨My.t X G (My.f.binds λ_ _ _ _ _ _ us hl=>by obtain⟨_,_,rfl⟩:=Aj hl;rfl),?_⟩;refine List.forall_mem_cons.mpr ⟨Mz.t X G (Mz.f.binds λ_ _ _ _ _ _ us hl=>by obtain⟨_,_,_,rfl⟩:=QV hl;rfl),?_⟩;refine List.forall_mem_cons.mpr ⟨MA.t X G (MA.f.binds λ_ _ _ _ _ _ us hl=>by obtain⟨_,_,rfl⟩:=Aj hl;rfl),?_⟩;refine List.forall_mem_cons.mpr ⟨MB.t X G (MB.f.binds λ_ _ _ _ _ _ us hl=>by obtain⟨_,_,rfl⟩:=Aj hl;rfl),?_⟩;refine List.forall_mem_cons.mpr ⟨MC.t X G (MC.f.binds λ_ _ _ _ _ _ us hl=>by obtain⟨_,rfl⟩:=gI hl;rfl),?_⟩;refine List.forall_mem_cons.mpr ⟨MD.t X G (MD.f.binds λ_ _ _ _ _ _ us hl=>by obtain⟨_,rfl⟩:=gI hl;rfl),?_⟩;refine List.forall_mem_cons.mpr ⟨Cv.t X G (Cv.f.binds λ_ _ _ _ _ _ us hl=>by obtain⟨_,rfl⟩:=gI hl;rfl),?_⟩;exact λ_ h=>nomatch h
  .exact(show ∀x∈o4,mg x=none from List.forall_mem_cons.mpr ⟨Sa X G z0,List.forall_mem_cons.mpr ⟨Sa X G z1,List.forall_mem_cons.mpr ⟨Sa X G z2,List.forall_mem_cons.mpr ⟨Sa X G z3,List.forall_mem_cons.mpr ⟨Sa X G z4,List.forall_mem_cons.mpr ⟨Sa X G z5,List.forall_mem_cons.mpr ⟨Sa X G z6,List.forall_mem_cons.mpr ⟨Sa X G z7,List.forall_mem_cons.mpr ⟨Sa X G z8,λ_ h=>nomatch h⟩⟩⟩⟩⟩⟩⟩⟩⟩)
  .exact λx d hx=>(show ∀y∈(tb aa dd).cs,∃v u,mg y.1=some u/\RelV v u/\xF K y.2 v from List.forall_mem_cons.mpr ⟨⟨.str "law_pastways_k91_whole_read",_,T6 X G q0,⟨_,rfl⟩,λ_ _=>⟨by decide +kernel,by decide⟩⟩,List.forall_mem_cons.mpr ⟨⟨.str "abcdefghijklmnopqrstuvwxyz ",_,T6 X G q1,⟨_,rfl⟩,λ_ _=>⟨by decide +kernel,by decide⟩⟩,List.forall_mem_cons.mpr ⟨⟨.int 99,_,T6 X G q2,⟨_,rfl⟩,λ_ _=>rfl⟩,List.forall_mem_cons.mpr ⟨⟨.int 8,_,T6 X G q3,⟨_,rfl⟩,λ_ _=>rfl⟩,List.forall_mem_cons.mpr ⟨⟨.int 12,_,T6 X G q4,⟨_,rfl⟩,λ_ _=>rfl⟩,λ_ h=>nomatch h⟩⟩⟩⟩⟩) (x,d) hx
  .exact λx d hx=>(show ∀y∈(tb aa dd).dk,∃a,mg y.1=some (.ref a)/\∀h:Heap,K.In h->StrTab l.prog w h a (tabOf y.2)from List.forall_mem_cons.mpr ⟨⟨Fe,T6 X G Pp,λh hK=>WE l.prog w hK Pq (by decide +kernel) Pr⟩,List.forall_mem_cons.mpr ⟨⟨Ff,T6 X G Pu,λh hK=>WE l.prog w hK Pw (by decide +kernel) Px⟩,λ_ h=>nomatch h⟩⟩) (x,d) hx
 refine⟨Mx,λs v=>?_,λbase _ _=>?_⟩
 .obtain⟨oc,od,kV,doc,pm,an,cdv,ct,osl,e,_⟩:=Cv.f.ex;rw[e];exact .of_eq rfl
 let cl:Nat->Addr:=λk=>[C0].getD k C0
 have hc:∀x c,(x,c)∈bE->mg x=some (.ref (cl c))/\Br K (cl c):=λx c hx=>(show ∀y∈bE,mg y.1=some (.ref (cl y.2))/\Br K (cl y.2)from List.forall_mem_cons.mpr ⟨⟨T6 X G X0.ns,X0.rs⟩,λ_ h=>nomatch h⟩) (x,c) hx;have R:DA K mg Wc (cl 0) C0 C1 C2 "NoText" "NoFit" "Clash" :=⟨T6 X G xw,⟨X0.cs.xc,X0.cs.k0,w1,w2,X0.cs.kv⟩,T6 X G X0.ns,T6 X G y1,T6 X G y2,Sa X G z4,Sa X G z0,by decide,by decide,by decide⟩
 refine(rG (P:=l.prog) (w:=w) (G:=tb aa dd) (cl:=cl) (su:=su) (base:=base) (λn A0 A1=>⟨λf i hi=>?_,λf i hi hu=>?_⟩) 60).1 17 (Fb aa dd) rfl
 .match f,hi with
  |0,hi=>obtain rfl:i0 aa dd=i:=pV hi;exact ef (i:=i0 aa dd) T A0 F0.f s0 rfl rfl (@allB.get _ _ _ 0 (f0.body,top 5,n0) (dU (cl:=cl)).1 rfl)
  |1,hi=>obtain rfl:i1 aa dd=i:=pV hi;exact ef (i:=i1 aa dd) T A0 F1.f s1 rfl rfl (@allB.get _ _ _ 1 (f1.body,top 6,n1) (dU (cl:=cl)).1 rfl)
  |2,hi=>obtain rfl:i2 aa dd=i:=pV hi;exact ef (i:=i2 aa dd) T A0 F2.f s2 rfl rfl (@allB.get _ _ _ 2 (f2.body,top 7,n2) (dU (cl:=cl)).1 rfl)
  |3,hi=>obtain rfl:i3 aa dd=i:=pV hi;exact ef (i:=i3 aa dd) T A0 F3.f s3 rfl rfl (@allB.get _ _ _ 3 (f3.body,top 8,n3) (dU (cl:=cl)).1 rfl)
  |4,hi=>obtain rfl:i4 aa dd=i:=pV hi;exact ef (i:=i4 aa dd) T A0 F4.f s4 rfl rfl (@allB.get _ _ _ 4 (f4.body,top 17,n4) (dU (cl:=cl)).1 rfl)
  |5,hi=>obtain rfl:i5 aa dd=i:=pV hi;exact ef (i:=i5 aa dd) T A0 F5.f s5 rfl rfl (@allB.get _ _ _ 5 (f5.body,top 18,n5) (dU (cl:=cl)).1 rfl)
  |6,hi=>obtain rfl:i6 aa dd=i:=pV hi;exact ef (i:=i6 aa dd) T A0 F6.f s6 rfl rfl (@allB.get _ _ _ 6 (f6.body,top 19,n6) (dU (cl:=cl)).1 rfl)
  |7,hi=>obtain rfl:i7 aa dd=i:=pV hi;exact ef (i:=i7 aa dd) T A0 F7.f s7 rfl rfl (@allB.get _ _ _ 7 (f7.body,top 20,n7) (dU (cl:=cl)).1 rfl)
  |8,hi=>obtain rfl:i8 aa dd=i:=pV hi;exact ef (i:=i8 aa dd) T A0 F8.f s8 rfl rfl (@allB.get _ _ _ 8 (f8.body,top 21,n8) (dU (cl:=cl)).1 rfl)
  |9,hi=>obtain rfl:i9 aa dd=i:=pV hi;exact ef (i:=i9 aa dd) T A0 F9.f s9 rfl rfl (@allB.get _ _ _ 9 (f9.body,top 22,n9) (dU (cl:=cl)).1 rfl)
  |10,hi=>obtain rfl:Ct aa dd=i:=pV hi;exact ef (i:=Ct aa dd) T A0 Fd.f Ez rfl rfl (@allB.get _ _ _ 10 (sQ.body,top 23,Cu) (dU (cl:=cl)).1 rfl)
  |11,hi=>obtain rfl:Ml aa dd=i:=pV hi;exact ef (i:=Ml aa dd) T A0 My.f uS rfl rfl (@allB.get _ _ _ 11 (Mj.body,top 25,Mr) (dU (cl:=cl)).1 rfl)
  |12,hi=>obtain rfl:i12 aa dd=i:=pV hi;exact ef (i:=i12 aa dd) T A0 Mz.f s12 rfl rfl (@allB.get _ _ _ 12 (Mk.body,top 26,Ms) (dU (cl:=cl)).1 rfl)
  |13,hi=>obtain rfl:Mm aa dd=i:=pV hi;exact ef (i:=Mm aa dd) T A0 MA.f Sd rfl rfl (@allB.get _ _ _ 13 (wA.body,top 27,Mt) (dU (cl:=cl)).1 rfl)
  |14,hi=>obtain rfl:Pd aa dd=i:=pV hi;exact DB (ix:=2) (jx:=3) T A0 A1 R X0.em MB.f Se rfl rfl rfl (dU (cl:=cl)).2.2.2.2.2.2 ⟨rfl,rfl,rfl,rfl,rfl,rfl,rfl,rfl,rfl,rfl⟩
  |15,hi=>obtain rfl:Mn aa dd=i:=pV hi;exact ef (i:=Mn aa dd) T A0 MC.f Sf rfl rfl (@allB.get _ _ _ 14 (Cq.body,top 29,Mu) (dU (cl:=cl)).1 rfl)
  |16,hi=>obtain rfl:Mp aa dd=i:=pV hi;exact ef (i:=Mp aa dd) T A0 MD.f Sg rfl rfl (@allB.get _ _ _ 15 (Cr.body,top 30,Mv) (dU (cl:=cl)).1 rfl)
  |17,hi=>obtain rfl:Fb aa dd=i:=pV hi;exact ef (i:=Fb aa dd) T A0 Cv.f Sh rfl rfl (@allB.get _ _ _ 16 (Cs.body,top 31,Mw) (dU (cl:=cl)).1 rfl)
  |j+18,hi=>exact nomatch (show(none:Option FI)=some i from hi)
 .match f,hi,hu with
  |6,hi,_=>obtain rfl:i6 aa dd=i:=pV hi;exact mZ (i:=i6 aa dd) T A0 A1 hz hc F6.f s6 rfl rfl (dU (cl:=cl)).2.1
  |7,hi,_=>obtain rfl:i7 aa dd=i:=pV hi;exact mZ (i:=i7 aa dd) T A0 A1 hz hc F7.f s7 rfl rfl (dU (cl:=cl)).2.2.1
  |8,hi,_=>obtain rfl:i8 aa dd=i:=pV hi;exact mZ (i:=i8 aa dd) T A0 A1 hz hc F8.f s8 rfl rfl (dU (cl:=cl)).2.2.2.1
  |9,hi,_=>obtain rfl:i9 aa dd=i:=pV hi;exact mZ (i:=i9 aa dd) T A0 A1 hz hc F9.f s9 rfl rfl (dU (cl:=cl)).2.2.2.2.1
  |10,hi,_=>obtain rfl:Ct aa dd=i:=pV hi;exact mZ (i:=Ct aa dd) T A0 A1 hz hc Fd.f Ez rfl rfl (dU (cl:=cl)).2.2.2.2.2.1
  |0,_,hu=>exact absurd hu (by decide)
  |1,_,hu=>exact absurd hu (by decide)
  |2,_,hu=>exact absurd hu (by decide)
  |3,_,hu=>exact absurd hu (by decide)
  |4,_,hu=>exact absurd hu (by decide)
  |5,_,hu=>exact absurd hu (by decide)
  |11,_,hu=>exact absurd hu (by decide)
  |12,_,hu=>exact absurd hu (by decide)
  |13,_,hu=>exact absurd hu (by decide)
  |14,_,hu=>exact absurd hu (by decide)
  |15,_,hu=>exact absurd hu (by decide)
  |16,_,hu=>exact absurd hu (by decide)
  |17,_,hu=>exact absurd hu (by decide)
  |j+18,hi,_=>exact nomatch (show(none:Option FI)=some i from hi)
end Lw
namespace Lg
open Pv
open Lw (prog wA Cp Cq Cr Cs Ae Af Ag Ah)
open Ev (deep big rep cut bC aM)
noncomputable def je:List Nat:=[48,49,50,51,52,53,54,55,56,57]
noncomputable def okN(r:List Nat):Bool:=((r.filter λc=>!je.contains c).isEmpty&&(decide (1<=r.length)&&decide (r.length<=2)))&&!decide (r.head?=some 48)
def Sj:∀a,a<58->49<=a->lJ (a - 48)=[a]:=by decide +kernel
def Sk:∀a,a<58->49<=a->∀b,b<58->48<=b->lJ (10*(a - 48)+(b - 48))=[a,b]:=by decide +kernel
def Sn:∀k,k<100->1<=k->((lJ k).filter λc=>!([48,49,50,51,52,53,54,55,56,57]:List Nat).contains c)=[]/\(lJ k).head?≠some 48:=by decide +kernel
def MF{x:Nat}:je.contains x=true↔48<=x/\x<=57:=by
 unfold je;simp only[UC,WK,VA,Ub,UZ];omega
def wC{r:List Nat}(h:okN r=true):∃k:Nat,1<=k/\k<=99/\r=Ev.cO (k:Nat):=by
 unfold okN at h;simp only[fW,SD,T4,U3,Vc,V7]at h;obtain⟨⟨h1,h2,h3⟩,h4⟩:=h;have al:∀x∈r,48<=x/\x<=57:=λx hx=>MF.mp (by have:=h1 x hx;simpa using this)
 match r,h2,h3,h4,al with
 |[a],_,_,h4,al=>
  have:=al a (by simp);have:a≠48:=λz=>h4 (by rw[z];rfl);exact⟨a - 48,by omega,by omega,by rw[jR,Sj a (by omega) (by omega)]⟩
 |[a,b],_,_,h4,al=>
  have:=al a (by simp);have:=al b (by simp);have:a≠48:=λz=>h4 (by rw[z];rfl);exact⟨10*(a - 48)+(b - 48),by omega,by omega,by rw[jR,Sk a (by omega) (by omega) b (by omega) (by omega)]⟩
def MG{k:Nat}(h1:1<=k)(h2:k<=99):okN (Ev.cO (k:Nat))=true:=by
 have d:=dg h2;obtain⟨a,b⟩:=Sn k (by omega) h1;unfold okN;simp only[fW,SD,T4,U3];refine⟨⟨?_,d.lo,d.hi⟩,by rw[jR];exact b⟩;rw[jR,Vc];exact a
def HW(r:List Nat):gW r=none↔okN r=false:=by
 constructor
 .intro h;cases z:okN r with
  |false=>rfl
  |true=>obtain⟨k,h1,h2,h3⟩:=wC z;exact absurd h3 (wu h k h1 h2)
 .intro h;cases z:gW r with
  |none=>rfl
  |some k=>obtain⟨h1,h2,h3⟩:=iS z;rw[h3,MG h1 h2]at h;cases h
def jf(t:List Nat):Option Pt:=(iD t).bind λp=>if kQ p=true then some p else none
def yU(t:List Nat):Option (List Pt):=if t=[]then some []else (bA jf (Ev.ay 47 t)).bind λc=>if c.length<=12 then some c else none
def HY{l:List (List Nat)}:(bA iD l).bind (λc=>if c.all kQ=true then some c else none)=bA jf l:=by
 induction l with
 |nil=>rfl
 |cons x l ih=>
  simp only[bA];rw[<-ih];cases e1:iD x with
  |none=>simp[jf,e1]
  |some p=>
   cases e2:bA iD l with
   |none=>cases e3:kQ p<;>simp[jf,e1,e3]
   |some c=>cases e3:kQ p<;>simp[jf,e1,e3]
def MH(t:List Nat):yU t=cE t:=by
 unfold yU cE;split
 .rfl
 .rw[<-HY];cases e:bA iD (Ev.ay 47 t)with
  |none=>rfl
  |some c=>
   show((if c.all kQ=true then some c else none).bind λc=>if c.length<=12 then some c else none)=if j7 c=true then some c else none
   unfold j7;by_cases h1:c.all kQ=true
   .rw[cG h1];show(if c.length<=12 then some c else none)=_;by_cases h2:c.length<=12
    .rw[cG h2,cG (by rw[h1,Ui h2];rfl)]
    .rw[Cd h2,Cd (by rw[DX h2];simp)]
   .rw[Cd h1,Cd (by simp only[fW];exact λz=>h1 z.2)];rfl
def oC:Option (List Pt)->V
 |some c=>bW c
 |none=>.aO
def o5(t:List Nat):Option (List (List Pt)):=(pX t).bind λls=>bA cE ls
def oR:Option (List (List Pt))->V
 |some cs=>.lst (cs.map bW)
 |none=>.aO
section
variable{w n:Nat}
def wD{t:List Nat}(ht:t.length<=700){c:List Pt}(h:cE t=some c):run prog w (n+4) 6 [.val (.str t)]=some (bW c,[]):=Mh (F:=prog) (cu:=2) (cy:=3) (dI:=1) (jq:=0) (fy:=9) (gH:=8) (i:=6) (kx:=0) rfl rfl rfl rfl rfl rfl rfl ht h
def yV{t:List Nat}(ht:t.length<=700)(h:cE t=none):bF prog w (n+4) 6 [.val (.str t)]=some 0:=HU (F:=prog) (cu:=2) (cy:=3) (dI:=1) (jq:=0) (fy:=9) (gH:=8) (i:=6) (kx:=0) rfl rfl rfl rfl rfl rfl rfl ht h
def yW{t:List Nat}(ht:t.length<=700){ls:List (List Nat)}(h:pX t=some ls):(∀p∈ls,p.length<=700)/\ls.length<=701:=by
 have hsz:=(Uv (c:=10) t).1;have hsz2:=(Uv (c:=10) t).2;obtain⟨ls',l,e⟩:=jn t;rw[ow e]at h;split at h
 .cases h;rw[e]at hsz hsz2;exact⟨λp hp=>by have:=hsz p (by simp[hp]);omega,by simp at hsz2;omega⟩
 .cases h
def MI{t:List Nat}(ht:t.length<=700){cs:List (List Pt)}(hO:o5 t=some cs):run prog w (n+5) 7 [.val (.str t)]=some (.lst (cs.map bW),[]):=by
 unfold o5 at hO;obtain⟨ls,e1,e2⟩:=Option.bind_eq_some_iff.mp hO;have h1:=lK e2;obtain⟨hls,hlen⟩:=yW ht e1;have hlr:cs.length=ls.length:=by have:=Pc List.length h1;simpa using this.symm
 have key:∀(l:List (List Nat)) (c:List (List Pt)),(∀p∈l,p.length<=700)->l.map cE=c.map some->bw (dh (run prog w (n+4)) (.cl 6 (.cons (.v 1) .nil)) (.one 1) .no [some (.val (.str t)),none]) (l.map V.str)=some (c.map bW):=by
  intro l;induction l with
  |nil=>intro c _ q;cases c with|nil=>rfl|cons p c=>simp at q
  |cons x l ih=>
   intro c hl q;cases c with
   |nil=>simp at q
   |cons p c=>
    simp only[we,V3]at q;have a2:=ih c (λy hy=>hl y (by simp[hy])) q.2;have b3:dh (run prog w (n+4)) (.cl 6 (.cons (.v 1) .nil)) (.one 1) .no [some (.val (.str t)),none] (.str x)=some (some (bW p)):=eB rfl (b6 (aT rfl (aq rfl) aU) (dG (wD (hl x (by simp)) q.1)));simp only[we,bw,b3,a2,Option.bind];rfl
 exact cj (fn:=Lw.f7) rfl rfl (au (bV (ek (er (b6 (aT rfl (aq rfl) aU) (dG (Co (F:=prog) (i:=10) (kx:=0) (n:=n+3) rfl ht e1))) rfl) rfl (key ls cs hls h1) (bg (aK (by simp;omega)))) ⟨rfl,rfl⟩))
def bc{t v:List Nat}(hv:v.length<=700)(z3:cE v=none):xe (run prog w (n+4)) (bF prog w (n+4)) (.cl 6 (.cons (.v 1) .nil)) [some (.val (.str t)),some (.val (.str v))]=some 0:=
 zZ (aT rfl (aq rfl) aU) (j5 (vs:=[.str v]) (yV hv z3))
def HZ{t:List Nat}(ht:t.length<=700)(hO:o5 t=none):bF prog w (n+5) 7 [.val (.str t)]=some 0:=by
 unfold o5 at hO;refine qR (fn:=Lw.f7) rfl rfl ?_;cases e1:pX t with
 |none=>
  have q:xe (run prog w (n+4)) (bF prog w (n+4)) (.cl 10 (.cons (.v 0) .nil)) [some (.val (.str t)),none]=some 0:=zZ (aT rfl (aq rfl) aU) (j5 (vs:=[.str t]) (HV (F:=prog) (i:=10) (kx:=0) (n:=n+3) rfl ht e1));refine eO cX (y_ret (HH ?_ ?_))
  .show bQ _ _ (.seq _) [some (.val (.str t)),none]=.bad;rw[yG];show(src true _ (.cl 10 (.cons (.v 0) .nil)) (ev (run prog w (n+4)) true (.cl 10 (.cons (.v 0) .nil)) [some (.val (.str t)),none])).bind _=_;rw[(bT cX _ q).1];rfl
  .show xi _ _ (.seq _) [some (.val (.str t)),none]=_;simp only[xi];exact q
 |some ls=>
  rw[e1]at hO;have hO:bA cE ls=none:=hO;have hls:=yW ht e1;obtain⟨p1,v,p2,z1,z2,z3⟩:=lM hO;refine eO cX (y_ret (B8 (er (b6 (aT rfl (aq rfl) aU) (dG (Co (F:=prog) (i:=10) (kx:=0) (n:=n+3) rfl ht e1))) rfl) rfl (by rw[L7];exact aK (by omega)) ?_));subst z1;have hv:=hls.1 v (by simp);refine rS V.str ?_ ?_ p1 λa ha=>?_
  .refine yQ (af:=[some (.val (.str t)),some (.val (.str v))]) rfl ?_;exact(bT cX _ (bc (n:=n) hv z3)).1 _
  .exact yR (P:=run prog w (n+4)) (X:=bF prog w (n+4)) (a:=.cl 6 (.cons (.v 1) .nil)) (t:=.one 1) (fr:=[some (.val (.str t)),none]) (d:=.str v) (af:=[some (.val (.str t)),some (.val (.str v))]) rfl (bc (n:=n) hv z3)
  .obtain⟨p,hpp⟩:=z2 a ha;exact⟨some (bW p),eB (P:=run prog w (n+4)) (t:=.one 1) (a:=.cl 6 (.cons (.v 1) .nil)) (fr:=[some (.val (.str t)),none]) rfl (b6 (aT rfl (aq rfl) aU) (dG (wD (hls.1 a (by simp[ha])) hpp)))⟩
def Ow{t:List Nat}(ht:t.length<=700):run prog w (n+5) 14 [.val (.int 0),.val (.str t)]=some (oC (cE t),[]):=by
 refine cj (fn:=Cp) rfl rfl (au (bO (b:=true) (aI rfl (aS (aq rfl) (az rfl) v8) rfl) (λ_=>au ?_) λh=>absurd h (by decide)));cases h:cE t with
 |some c=>exact E8 (vs:=[.str t]) (aT rfl (aq rfl) aU) (wD ht h) ⟨rfl,rfl⟩
 |none=>exact B9 (vs:=[.str t]) (aT rfl (aq rfl) aU) (by decide) (yV ht h) ⟨rfl,rfl⟩
def Ox{t:List Nat}(ht:t.length<=700):run prog w (n+6) 14 [.val (.int 1),.val (.str t)]=some (oR (o5 t),[]):=by
 refine cj (fn:=Cp) rfl rfl (au (bO (b:=false) (aI rfl (aS (aq rfl) (az rfl) v8) rfl) (λh=>absurd h (by decide)) λ_=>au ?_));cases h:o5 t with
 |some c=>exact E8 (vs:=[.str t]) (aT rfl (aq rfl) aU) (MI ht h) ⟨rfl,rfl⟩
 |none=>exact B9 (vs:=[.str t]) (aT rfl (aq rfl) aU) (by decide) (HZ ht h) ⟨rfl,rfl⟩
end
section
variable{w n:Nat}
def MJ(a c:Nat):Ev.lexLe [a] [c]=decide (a<=c):=by
 simp only[Ev.lexLe];by_cases h:a=c
 .rw[cG h,Ui (by omega)]
 .rw[Cd h];exact decide_eq_decide.mpr (by omega)
def Ia(c:Nat):sgn.contains c=((decide (97<=c)&&decide (c<=122)) ||decide (c=32)):=by
 rw[UB];unfold sgn;simp only[UC,WK,VA,Ub,UZ,fW,SD];omega
def Ib{P:aB}{fr:Fr}{c:Nat}(hv:lC true fr 6=some (.str [c]))(hv':lC (kf (.v 6) (bf (.c (.str [122])))) fr 6=some (.str [c])):aC P (.nt (.orr (.ch .le .le (.c (.str [97])) (.v 6) (.c (.str [122]))) (.cmp .eq (.v 6) (.c (.str [32]))))) fr=.ok (!sgn.contains c) fr:=by
 have h1:ev P true (.ch .le .le (.c (.str [97])) (.v 6) (.c (.str [122]))) fr=.ok (.bl (decide (97<=c)&&decide (c<=122))) fr:=by
  refine DY (b1:=decide (97<=c)) (z:=.str [122]) (az rfl) (aq hv') ?_ (λh=>⟨az rfl,?_⟩) λh=>?_
  .show some (Ev.lexLe [97] [c])=_;rw[MJ]
  .show some (Ev.lexLe [c] [122])=_;rw[MJ,h,Ws]
  .rw[h,Vr]
 rw[Ia];cases hb:(decide (97<=c)&&decide (c<=122))with
 |true=>exact fL (b:=true) (nu (aI rfl h1 hb))
 |false=>
  rw[Bool.false_or];refine fL (b:=decide (c=32)) (fD (aI rfl h1 hb) (aI rfl (aS (aq hv') (az rfl) gG) ?_));show decide ([c]=[32])=_;exact decide_eq_decide.mpr (by simp)
def dF(t:List Nat)(c:List Pt)(a2 a3 a4:Option Sl):Fr:=[some (.val (.str t)),some (.val (bW c)),a2,a3,a4,none,none]
def Fi(l:List V):Pv.cop .ne (.lst l) (.lst [])=some (!l.isEmpty):=by cases l<;>rfl
def Cw(r:List Nat):jf (61 :: r)=(gW r).map .keep:=by
 show((gW r).map Pt.keep).bind _=_;cases h:gW r with
 |none=>rfl
 |some k=>
  obtain⟨h1,h2,_⟩:=iS h;show(if kQ (.keep k)=true then some (Pt.keep k)else none)=_;rw[cG (by simp[kQ,h1,h2])];rfl
def MK(r:List Nat):jf (43 :: r)=if j6 r=true then some (.put r)else none:=rfl
def ML(r:List Nat):jf (45 :: r)=if j6 r=true then some (.drop r)else none:=rfl
def MM{x:List Nat}(h1:x.head?≠some 61)(h2:x.head?≠some 43)(h3:x.head?≠some 45):jf x=none:=by
 unfold jf iD;split
 .exact absurd rfl h1
 .exact absurd rfl h2
 .exact absurd rfl h3
 .rfl
theorem nE{α β:Type}{f:α->Option β}:∀(a b:List α),bA f (a++b)=(bA f a).bind λx=>(bA f b).map λy=>x++y
 |[],b=>by simp[bA]
 |x :: a,b=>by
  simp only[UJ,bA,nE a b];cases f x<;>simp
  cases bA f a<;>simp
  cases bA f b<;>simp
def take1(x:List Nat):cut x none (some 1)=x.take 1:=ur x 1
def j8{x:List Nat}:Pv.eH (.str x) none (some 1)=some (.str (x.take 1)):=by show some (V.str (cut x none (some 1)))=_;rw[take1]
def sl2{x:List Nat}:Pv.eH (.str x) (some 1) none=some (.str x.tail):=by show some (V.str (cut x (some 1) none))=_;rw[Ol]
def MN{α:Type}{l:List α}{p:α->Bool}{g:α->V}:((l.filter p).map g).isEmpty=(l.filter p).isEmpty:=by cases l.filter p<;>rfl
def D4{t x:List Nat}(hx:x.length<=700){c:List Pt}(hc:c.length<=800){a2 a3 a4:Option Sl}(h2:vo a2)(h3:vo a3)(h4:vo a4){Q:Fl->Fr->Prop}
  (q1:∀p a2 a3 a4,jf x=some p->vo a2->vo a3->vo a4->Q .nx (dF t (c++[p]) a2 a3 a4)) (q2:∀fr,jf x=none->outs 1 fr=[]->Q (.ret .aO) fr) :
  Wp (turnF (run prog w n) w (.one 2) Af (.str x) (dF t c a2 a3 a4)) Q:=by
 have hch:∀p:Pt,Pv.bG .add (bW c) (.tup [p.v])=some (bW (c++[p])):=λp=>by
  show Pv.bG .add (.tup (c.map Pt.v)) (.tup [p.v])=_;rw[vS (by simp;omega)];simp[bW]
 refine qP (af:=dF t c (some (.val (.str x))) a3 a4) (bind1 rfl h2) ?_;refine au (bP (ak:=dF t c (some (.val (.str x))) (some (.val (.str x.tail))) a4) (bY (aq rfl) (br (az rfl)) bL sl2) rfl (eE rfl h3) ?_);refine au (bO (b:=decide (x.take 1=[61])) (aI rfl (aS (bY (aq rfl) bL (br (az rfl)) j8) (az rfl) gG) rfl) (λh=>?_) λh=>?_)
 .have h:=Uj h;obtain⟨r,rfl⟩:∃r,x=61 :: r:=by
   cases x with
   |nil=>simp at h
   |cons a r=>simp at h;exact⟨r,by rw[h]⟩
  have hr:r.length<=700:=by simp at hx;omega
  rw[V9];have nC:bw (dh (run prog w n) (.v 5) (.one 5) (.yes (.cmp .cC (.v 5) (.c (.str [48,49,50,51,52,53,54,55,56,57])))) (dF t c (some (.val (.str (61 :: r)))) (some (.val (.str r))) a4)) (r.map λc=>.str [c])=some ((r.filter λc=>!je.contains c).map λc=>.str [c]):=
   nq _ _ _ _ λc _=>yJ (b:=!je.contains c) rfl (aI rfl (aS (aq rfl) (az rfl) (by show(Pv.isin (.str [c]) (.str je)).map (!·)=_;rw[vV];rfl)) rfl) λ_=>aq rfl
  refine au (bP (ak:=dF t c (some (.val (.str (61 :: r)))) (some (.val (.str r))) (some (.val (.lst ((r.filter λc=>!je.contains c).map λc=>.str [c]))))) (ek (er (iQ rfl) rfl) rfl nC (bg (aK (by have:=We (λc=>!je.contains c) r;rw[L7];omega)))) rfl (eE rfl h4) ?_);have hlen:=wk (P:=run prog w n) (fr:=dF t c (some (.val (.str (61 :: r)))) (some (.val (.str r))) (some (.val (.lst ((r.filter λc=>!je.contains c).map λc=>.str [c]))))) (s:=r) (a:=.v 3) (m:=2) (k:=true) (aq rfl) (by omega) rfl;have MO:aC (run prog w n) (.orr (.cmp .ne (.v 4) (.lst .nil)) (.orr (.nt (.ch .le .le (.c (.int 1)) (.bi .len (.cons (.v 3) .nil)) (.c (.int 2)))) (.cmp .eq (.ix (.v 3) (.c (.int 0))) (.c (.str [48]))))) (dF t c (some (.val (.str (61 :: r)))) (some (.val (.str r))) (some (.val (.lst ((r.filter λc=>!je.contains c).map λc=>.str [c])))))=.ok (!okN r) (dF t c (some (.val (.str (61 :: r)))) (some (.val (.str r))) (some (.val (.lst ((r.filter λc=>!je.contains c).map λc=>.str [c]))))):=by
   have e1:=(aI (b:=!(r.filter λc=>!je.contains c).isEmpty) rfl (aS (P:=run prog w n) (fr:=dF t c (some (.val (.str (61 :: r)))) (some (.val (.str r))) (some (.val (.lst ((r.filter λc=>!je.contains c).map λc=>.str [c]))))) (a:=.v 4) (e:=.lst .nil) (aq rfl) (jl aG uc) (Fi _)) (by show(!((r.filter λc=>!je.contains c).map λc=>V.str [c]).isEmpty)=_;rw[MN]))
   unfold okN;cases z1:(r.filter λc=>!je.contains c).isEmpty with
   |false=>rw[z1]at e1;exact nu e1
   |true=>
    rw[z1]at e1;refine fD e1 ?_;cases z2:(decide (1<=r.length)&&decide (r.length<=2))with
    |false=>rw[z2]at hlen;exact nu (fL (b:=false) (aI rfl hlen rfl))
    |true=>
     rw[z2]at hlen;refine fD (fL (b:=true) (aI rfl hlen rfl)) ?_;cases r with
     |nil=>simp at z2
     |cons a r=>
      refine(aI (b:=decide ([a]=[48])) rfl (aS (fq (aq rfl) (az rfl) (v:=.str [a]) (by rw[rN];simp)) (az rfl) gG) rfl).trans ?_
      congr 1
      simp
  refine au (bO MO (λh=>?_) λh=>bM ?_)
  .have h:okN r=false:=by simpa using h
   exact au (bV (az rfl) (q2 _ (by rw[Cw,(HW r).mpr h];rfl) rfl))
  .have h:okN r=true:=by simpa using h
   obtain⟨k,k1,k2,k3⟩:=wC h;have hn:gW r=some k:=by rw[k3];exact wo k1 k2
   have hi:Pv.cU .jE [.str r]=some (.int (k:Int)):=by
    show(Ev.mL r).map V.int=_;rw[k3,(dg k2).nm];rfl
   refine au (bP (ak:=dF t (c++[.keep k]) (some (.val (.str (61 :: r)))) (some (.val (.str r))) (some (.val (.lst ((r.filter λc=>!je.contains c).map λc=>.str [c]))))) (aH (aq rfl) (di (av (di (av (az rfl) (av (fu (av (aq rfl) aG) hi) aG)) gc) aG) nX) (hch (.keep k))) rfl rfl (bM (bM ?_)));exact q1 (.keep k) _ _ _ (by rw[Cw,hn];rfl) .val .val .val
 .have Py:x.take 1≠[61]:=Vt h;have hno:x.head?≠some 61:=by cases x<;>simp at Py ⊢;exact Py
  have signs:∀(m:Nat) (wd:List Nat) (mk:List Nat->Pt) (r:List Nat),x=m :: r->(m=43\/m=45)->(∀s,(mk s).v=.tup [.str wd,.str s])->jf (m :: r)=(if j6 r=true then some (mk r)else none)->Pv.dB (.str [m]) [(.str [43],.str [112,117,116]),(.str [45],.str [100,114,111,112])]=some (.str wd)->
    Wp (exs (run prog w n) w (.cons (.iff (.an (.cmp .isin (.sl (.v 2) .no (.yes (.c (.int 1)))) (.tup (.cons (.c (.str [43])) (.cons (.c (.str [45])) .nil)))) (.cmp .ne (.v 2) (.c (.str [])))) (.cons (.set 4 (.comp (.v 6) (.one 6) (.seq (.v 3)) (.yes (.nt (.orr (.ch .le .le (.c (.str [97])) (.v 6) (.c (.str [122]))) (.cmp .eq (.v 6) (.c (.str [32])))))))) (.cons (.iff (.orr (.cmp .ne (.v 4) (.lst .nil)) (.nt (.ch .le .le (.c (.int 1)) (.bi .len (.cons (.v 3) .nil)) (.c (.int 8))))) (.cons (.ret (.c (.aO))) .nil) .nil) (.cons (.set 1 (.bin .add (.v 1) (.tup (.cons (.tup (.cons (.dJ [(.str [43],.str [112,117,116]),(.str [45],.str [100,114,111,112])] (.sl (.v 2) .no (.yes (.c (.int 1))))) (.cons (.v 3) .nil))) .nil)))) .nil))) (.cons (.ret (.c (.aO))) .nil)) .nil) (dF t c (some (.val (.str x))) (some (.val (.str x.tail))) a4)) (nx (run prog w n) w .nil Q):=by
   intro m wd mk r So hm hv hd hl;subst So;have hr:r.length<=700:=by simp at hx;omega
   rw[V9];have hm':mem (.str [m]) [.str [43],.str [45]]=some true:=by rcases hm with rfl|rfl<;>rfl
   refine au (bO (b:=true) (L1 (aI (b:=true) rfl (aS (bY (aq rfl) bL (br (az rfl)) j8) (di (av (az rfl) (av (az rfl) aG)) gc) (by show Pv.isin (.str [m]) (.tup [.str [43],.str [45]])=_;rw[pU];exact hm')) rfl) (aI (b:=true) rfl (aS (aq rfl) (az rfl) jZ) rfl)) (λ_=>?_) λh=>absurd h (by decide));have nC:bw (dh (run prog w n) (.v 6) (.one 6) (.yes (.nt (.orr (.ch .le .le (.c (.str [97])) (.v 6) (.c (.str [122]))) (.cmp .eq (.v 6) (.c (.str [32])))))) (dF t c (some (.val (.str (m :: r)))) (some (.val (.str r))) a4)) (r.map λc=>.str [c])=some ((r.filter λc=>!sgn.contains c).map λc=>.str [c]):=
    nq _ _ _ _ λc _=>yJ (b:=!sgn.contains c) rfl (Ib rfl rfl) λ_=>aq rfl
   refine au (bP (ak:=dF t c (some (.val (.str (m :: r)))) (some (.val (.str r))) (some (.val (.lst ((r.filter λc=>!sgn.contains c).map λc=>.str [c]))))) (ek (er (iQ rfl) rfl) rfl nC (bg (aK (by have:=We (λc=>!sgn.contains c) r;rw[L7];omega)))) rfl (eE rfl h4) ?_);have hlen:=wk (P:=run prog w n) (fr:=dF t c (some (.val (.str (m :: r)))) (some (.val (.str r))) (some (.val (.lst ((r.filter λc=>!sgn.contains c).map λc=>.str [c]))))) (s:=r) (a:=.v 3) (m:=8) (k:=true) (aq rfl) (by omega) rfl;have hw:j6 r=((decide (1<=r.length)&&decide (r.length<=8))&&(r.filter λc=>!sgn.contains c).isEmpty):=by
    unfold j6
    congr 1
    rw[UB];simp only[Uw,Vc,V7,T4,Bool.not_eq_false]
   have MO:aC (run prog w n) (.orr (.cmp .ne (.v 4) (.lst .nil)) (.nt (.ch .le .le (.c (.int 1)) (.bi .len (.cons (.v 3) .nil)) (.c (.int 8))))) (dF t c (some (.val (.str (m :: r)))) (some (.val (.str r))) (some (.val (.lst ((r.filter λc=>!sgn.contains c).map λc=>.str [c])))))=.ok (!j6 r) (dF t c (some (.val (.str (m :: r)))) (some (.val (.str r))) (some (.val (.lst ((r.filter λc=>!sgn.contains c).map λc=>.str [c]))))):=by
    have e1:=(aI (b:=!(r.filter λc=>!sgn.contains c).isEmpty) rfl (aS (P:=run prog w n) (fr:=dF t c (some (.val (.str (m :: r)))) (some (.val (.str r))) (some (.val (.lst ((r.filter λc=>!sgn.contains c).map λc=>.str [c]))))) (a:=.v 4) (e:=.lst .nil) (aq rfl) (jl aG uc) (Fi _)) (by show(!((r.filter λc=>!sgn.contains c).map λc=>V.str [c]).isEmpty)=_;rw[MN]))
    rw[hw];cases z1:(r.filter λc=>!sgn.contains c).isEmpty with
    |false=>rw[z1]at e1;refine(nu e1).trans ?_;rw[Bool.and_false];rfl
    |true=>
     rw[z1]at e1;rw[Bool.and_true];exact fD e1 (fL (aI rfl hlen rfl))
   refine au (bO MO (λh=>?_) λh=>bM ?_)
   .have h:j6 r=false:=by simpa using h
    exact au (bV (az rfl) (q2 _ (by rw[hd,h];rfl) rfl))
   .have h:j6 r=true:=by simpa using h
    refine au (bP (ak:=dF t (c++[mk r]) (some (.val (.str (m :: r)))) (some (.val (.str r))) (some (.val (.lst ((r.filter λc=>!sgn.contains c).map λc=>.str [c]))))) (aH (aq rfl) (di (av (di (av (iB (bY (aq rfl) bL (br (az rfl)) j8) hl) (av (aq rfl) aG)) gc) aG) nX) (by rw[<-hv];exact hch (mk r))) rfl rfl (bM (bM (bM ?_))));exact q1 (mk r) _ _ _ (by rw[hd,cG h]) .val .val .val
  have hd:∀m:Nat,x.head?=some m->∃r,x=m :: r:=λm e=>by
   cases x with
   |nil=>cases e
   |cons a r=>cases e;exact⟨r,rfl⟩
  by_cases MP:x.head?=some 43
  .obtain⟨r,e⟩:=hd 43 MP;exact signs 43 [112,117,116] .put r e (.inl rfl) (λ_=>rfl) (MK r) rfl
  by_cases MQ:x.head?=some 45
  .obtain⟨r,e⟩:=hd 45 MQ;exact signs 45 [100,114,111,112] .drop r e (.inr rfl) (λ_=>rfl) (ML r) rfl
  have hm:mem (.str (x.take 1)) [.str [43],.str [45]]=some false:=by
   cases x with
   |nil=>rfl
   |cons a r=>
    have n1:¬ ([43]:List Nat)=[a]:=λz=>MP (by simp at z;rw[<-z];rfl);have n2:¬ ([45]:List Nat)=[a]:=λz=>MQ (by simp at z;rw[<-z];rfl);show mem (.str [a]) _=_;rw[mem_cons,mem_cons,Hj,show deep=19+1 from rfl,vW,vW,DX n1,DX n2];rfl
  refine au (bO (b:=false) (L0 (aI (b:=false) rfl (aS (bY (aq rfl) bL (br (az rfl)) j8) (di (av (az rfl) (av (az rfl) aG)) gc) (by show Pv.isin (.str (x.take 1)) (.tup [.str [43],.str [45]])=_;rw[pU];exact hm)) rfl)) (λh=>absurd h (by decide)) λ_=>?_);exact au (bV (az rfl) (q2 _ (MM hno MP MQ) rfl))
def rep1{α:Type}(l:List α):rep 1 l=l:=by simp[rep]
def yX{t:List Nat}(ht:t.length<=700):run prog w (n+1) 15 [.val (.str t)]=some (oC (cE t),[]):=by
 obtain⟨s1,s2⟩:=Uv (c:=47) t;have dQ:=iZ (t:=t) (c:=47) (by decide);refine cj (fn:=Cq) rfl rfl ?_;refine au (bP (ak:=dF t [] none none none) (di aG ud) rfl rfl ?_);refine au (um (vs:=(if t=[]then []else Ev.ay 47 t).map V.str) (af:=dF t [] none none none) (er (aH (jm (iY (aq rfl) (az rfl) dQ) (bg (aK (by rw[L7];omega)))) (fu (av (aS (aq rfl) (az rfl) jZ) aG) Lu) (v:=.lst ((if t=[]then []else Ev.ay 47 t).map V.str)) ?_) rfl) ?_)
 .by_cases h:t=[]
  .rw[cG h,Ui h,pT (by decide) (by decide) (by rw[L7];omega) (by simp[rep])];rfl
  .rw[Cd h,DX h,pT (by decide) (by decide) (by rw[L7];omega) (by show(rep 1 _).length<=_;rw[rep1,L7];omega)];show some (V.lst (rep 1 _))=_;rw[rep1]
 rw[<-MH];have hl:∀x∈(if t=[]then []else Ev.ay 47 t),x.length<=700:=λx hx=>by
  split at hx
  .simp at hx
  .have:=s1 x hx;omega
 have hn:(if t=[]then []else Ev.ay 47 t).length<=701:=by
  split
  .simp
  .omega
 have fin:∀c,bA jf (if t=[]then []else Ev.ay 47 t)=some c->yU t=if c.length<=12 then some c else none:=λc hc=>by
  unfold yU;split at hc
  .rename_i h;cases hc;rw[cG h];rfl
  .rename_i h;rw[Cd h,hc];rfl
 have bad:bA jf (if t=[]then []else Ev.ay 47 t)=none->yU t=none:=λhc=>by
  unfold yU;split at hc
  .cases hc
  .rename_i h;rw[Cd h,hc];rfl
 generalize (if t=[]then []else Ev.ay 47 t)=parts at hl hn fin bad
 refine ju (e:=V.str) (λp l fr=>p++l=parts/\∃c a2 a3 a4,bA jf p=some c/\c.length=p.length/\vo a2/\vo a3/\vo a4/\fr=dF t c a2 a3 a4) (λp x l fr ⟨hp,c,a2,a3,a4,hc,hcl,h2,h3,h4,hfr⟩=>?_) (λp fr ⟨hp,c,a2,a3,a4,hc,hcl,h2,h3,h4,hfr⟩=>?_) _ [] _ ⟨rfl,[],none,none,none,rfl,rfl,.none,.none,.none,rfl⟩
 .subst hfr;have hpl:=Pc List.length hp;simp at hpl;refine D4 (hl x (by rw[<-hp];simp)) (by omega) h2 h3 h4 (λy b2 b3 b4 hy v2 v3 v4=>?_) λfr hy ho=>?_
  .rw[ue];refine⟨by rw[<-hp];simp,c++[y],b2,b3,b4,?_,by simp[hcl],v2,v3,v4,rfl⟩;rw[nE,hc];simp[bA,hy]
  .rw[Lv];refine⟨?_,ho⟩;rw[bad (by rw[<-hp,nE,hc];simp[bA,hy])];rfl
 .subst hfr;rw[Ug]at hp;subst hp;rw[fin c hc];refine au (bV (v:=oC (if c.length<=12 then some c else none)) (af:=iT (dF t c a2 a3 a4)) (oh (b:=decide (c.length<=12)) (aI rfl (aS (fu (av (aq rfl) aG) nZ) (az rfl) rQ) ?_) (λh=>aq ?_) λh=>az ?_) ⟨rfl,?_⟩)
  .exact decide_eq_decide.mpr (by rw[L7];omega)
  .rw[cG (Uj h)];rfl
  .rw[Cd (Vt h)];rfl
  .show outs 1 [_,_,a2.map Sl.gp,a3.map Sl.gp,a4.map Sl.gp,_,_]=[];rfl
theorem yY:∀ls:List (List Nat),mem .aO (ls.map λx=>oC (cE x))=some (ls.any λx=>(cE x).isNone)
 |[]=>rfl
 |x :: ls=>by
  rw[we,mem_cons,yY ls];have:dD deep (oC (cE x)) .aO=some (cE x).isNone:=by cases cE x<;>rfl
  rw[this];rfl
theorem tT:∀ls:List (List Nat),if (ls.any λx=>(cE x).isNone)=true then bA cE ls=none else ∃cs,bA cE ls=some cs/\(ls.map λx=>oC (cE x))=cs.map bW
 |[]=>⟨[],rfl,rfl⟩
 |x :: ls=>by
  have ih:=tT ls;rw[Vz];cases e:cE x with
  |none=>simp[bA,e]
  |some c=>
   rw[show(some c).isNone=false from rfl,Bool.false_or];split at ih
   .rename_i h;rw[cG h];simp[bA,e,ih]
   .rename_i h;rw[Cd h];obtain⟨cs,h1,h2⟩:=ih;exact⟨c :: cs,by simp[bA,e,h1],by rw[we,e,h2];rfl⟩
def D5{t:List Nat}(ht:t.length<=700):run prog w (n+2) 16 [.val (.str t)]=some (oR (o5 t),[]):=by
 obtain⟨s1,s2⟩:=Uv (c:=10) t;have dQ:=iZ (t:=t) (c:=10) (by decide);obtain⟨ls,l,e⟩:=jn t;rw[e]at s1 s2 dQ;have s2':ls.length<=700:=by simp at s2;omega
 have hm:(ls++[l]).map V.str=ls.map V.str++[.str l]:=by simp
 rw[hm]at dQ;have nC:bw (dh (run prog w (n+1)) (.cl 15 (.cons (.v 3) .nil)) (.one 3) .no [some (.val (.str t)),some (.own (ls.map V.str++[.str l])),none,none]) (ls.map V.str)=some (ls.map λx=>oC (cE x)):=
  gS _ _ _ λx hx=>eB rfl (b6 (aT rfl (aq rfl) aU) (dG (yX (by have:=s1 x (by simp[hx]);omega))))
 refine cj (fn:=Cr) rfl rfl ?_;refine au (jQ (l:=ls.map V.str++[.str l]) (ak:=[some (.val (.str t)),some (.own (ls.map V.str++[.str l])),none,none]) (jm (iY (aq rfl) (az rfl) dQ) (bg (aK (by simp;omega)))) rfl rfl ?_);refine au (bP (ak:=[some (.val (.str t)),some (.own (ls.map V.str++[.str l])),some (.val (.lst (ls.map λx=>oC (cE x)))),none]) (ek (er (bY (aq rfl) bL (br (qO (az rfl))) (v:=.lst (ls.map V.str)) (by show cV (cut _ none (some (-1)))=_;rw[Ma];exact bg (aK (by simp;omega)))) rfl) rfl nC (bg (aK (by simp;omega)))) rfl rfl ?_);have hR:o5 t=(if l=[]then some ls else none).bind λls=>bA cE ls:=by unfold o5;rw[ow e]
 have last:Pv.fB (.lst (ls.map V.str++[.str l])) (.int (-1))=some (.str l):=by rw[rO,B5];simp
 have t1:aC (run prog w (n+1)) (.cmp .ne (.ix (.v 1) (.neg (.c (.int 1)))) (.c (.str []))) [some (.val (.str t)),some (.val (.lst (ls.map V.str++[.str l]))),some (.val (.lst (ls.map λx=>oC (cE x)))),none]=.ok (!decide (l=[])) [some (.val (.str t)),some (.val (.lst (ls.map V.str++[.str l]))),some (.val (.lst (ls.map λx=>oC (cE x)))),none]:=
  aI rfl (aS (fq (aq rfl) (qO (az rfl)) last) (az rfl) jZ) rfl
 have t2:aC (run prog w (n+1)) (.cmp .isin (.c .aO) (.v 2)) [some (.val (.str t)),some (.val (.lst (ls.map V.str++[.str l]))),some (.val (.lst (ls.map λx=>oC (cE x)))),none]=.ok (ls.any λx=>(cE x).isNone) [some (.val (.str t)),some (.val (.lst (ls.map V.str++[.str l]))),some (.val (.lst (ls.map λx=>oC (cE x)))),none]:=
  aI rfl (aS (az rfl) (aq rfl) (by show Pv.isin .aO (.lst _)=_;rw[vU,yY])) rfl
 refine au (bV (v:=oR (o5 t)) (af:=[some (.val (.str t)),some (.val (.lst (ls.map V.str++[.str l]))),some (.val (.lst (ls.map λx=>oC (cE x)))),none]) ?_ ⟨rfl,rfl⟩);show ev _ _ _ [some (.val (.str t)),some (.val (.lst (ls.map V.str++[.str l]))),some (.val (.lst (ls.map λx=>oC (cE x)))),none]=_;by_cases h0:l=[]
 .rw[hR,cG h0];show ev _ _ _ _=.ok (oR (bA cE ls)) _;rw[Ui h0]at t1;have ra:=tT ls;cases z:(ls.any λx=>(cE x).isNone)with
  |true=>
   rw[z]at t2 ra;rw[cG rfl]at ra;rw[ra];exact oh (fD t1 t2) (λ_=>az rfl) λh=>absurd h (by decide)
  |false=>
   rw[z]at t2 ra;rw[Cd (by decide)]at ra;obtain⟨cs,r1,r2⟩:=ra;rw[r1];refine oh (fD t1 t2) (λh=>absurd h (by decide)) λ_=>aq ?_;show some (V.lst _)=_;rw[r2];rfl
 .rw[hR,Cd h0];rw[DX h0]at t1;exact oh (nu t1) (λ_=>az rfl) λh=>absurd h (by decide)
end
def drawn{ns:List Int}(k:Int)(m:Nat)(h:0<m):∃p:Nat,B6 ns k (m:Int)=(p:Int)/\p<m:=by
 have h1:=LX ns k (many:=(m:Int)) (by omega);have h2:=LY ns k (many:=(m:Int)) (by omega);exact⟨(B6 ns k (m:Int)).toNat,by omega,by omega⟩
theorem pY{α β:Type}{f:V->Option (Option V)}{e:α->V}{g:β->V}{P:β->Prop}:∀{l:List α},(∀a∈l,∃b,P b/\f (e a)=some (some (g b)))->∃bs:List β,bs.length=l.length/\(∀b∈bs,P b)/\bw f (l.map e)=some (bs.map g)
 |[],_=>⟨[],rfl,(λ_ h=>nomatch h),rfl⟩
 |a :: l,h=>by
  obtain⟨b,h1,h2⟩:=h a (by simp);obtain⟨bs,h3,h4,h5⟩:=pY (l:=l) λx hx=>h x (by simp[hx]);refine⟨b :: bs,by simp[h3],λx hx=>?_,?_⟩
  .rcases List.mem_cons.mp hx with rfl|hx
   .exact h1
   .exact h4 x hx
  .simp only[we,bw,h2,h5,Option.bind];rfl
section
variable{w n:Nat}{ns:List Int}(hn:ns.length<=63)
include hn
theorem dr(k:Int)(m:Nat)(hm:0<m):∃p:Nat,p<m/\∀fr,eg (run prog w (n+2)) 12 [.inr (qN ns),.inr (.int k),.inr (.int (m:Int))] fr=.ok (.int (p:Int)) fr:=by
 obtain⟨p,e,h⟩:=drawn (ns:=ns) k m hm;refine⟨p,h,λfr=>?_⟩;have:=Oa (fr:=fr) (Ca (F:=prog) (c:=11) (dr:=12) (w:=w) (n:=n) rfl rfl hn k (many:=(m:Int)) (by omega));rw[e]at this;exact this
omit hn in
def wF(ns:List Int)(at_:Int)(c:List Pt)(a b d e f:Option Sl):Fr:=[some (.val (qN ns)),some (.val (.int at_)),some (.val (.str sgn)),some (.val (bW c)),a,b,d,e,f,none]
theorem Cy(at_:Int)(c:List Pt)(hc:c.length<=12)(k:Nat){a b d e f:Option Sl}(ha:vo a)(hb:vo b)(hd:vo d)(he:vo e)(hf:vo f){Q:Fl->Fr->Prop}
  (q:∀p a b d e f,WP p->vo a->vo b->vo d->vo e->vo f->Q .nx (wF ns at_ (c++[p]) a b d e f)):Wp (turnF (run prog w (n+2)) w (.one 4) Ae (.int (k:Int)) (wF ns at_ c a b d e f)) Q:=by
 obtain⟨x,hx,d1⟩:=dr (w:=w) (n:=n) hn (at_+1+12*(k:Int)) 3 (by decide);obtain⟨y,hy,d2⟩:=dr (w:=w) (n:=n) hn (at_+1+12*(k:Int)+1) 99 (by decide);obtain⟨z,hz,d3⟩:=dr (w:=w) (n:=n) hn (at_+1+12*(k:Int)+1) 8 (by decide);obtain⟨wd,hw1,Sq⟩:∃wd,fB (.lst [.str lH,.str v9,.str qS]) (.int (x:Int))=some (.str wd)/\(wd=lH\/wd=v9\/wd=qS):=by
  match x,hx with
  |0,_=>exact⟨_,rfl,.inl rfl⟩
  |1,_=>exact⟨_,rfl,.inr (.inl rfl)⟩
  |2,_=>exact⟨_,rfl,.inr (.inr rfl)⟩
 refine qP (af:=wF ns at_ c (some (.val (.int k))) b d e f) (bind1 rfl ha) ?_;refine au (bP (ak:=wF ns at_ c (some (.val (.int k))) (some (.val (.int (at_+1+12*(k:Int))))) d e f) (aH (aH (aq rfl) (az rfl) aZ) (aH (az rfl) (aq rfl) (j0 rfl)) aZ) rfl (eE rfl hb) ?_);refine au (bP (ak:=wF ns at_ c (some (.val (.int k))) (some (.val (.int (at_+1+12*(k:Int))))) (some (.val (.str wd))) e f) (fq (jl (av (az rfl) (av (az rfl) (av (az rfl) aG))) NZ) (b6 (aT rfl (aq rfl) (aT rfl (aq rfl) (aT rfl (az rfl) aU))) (d1 _)) hw1) rfl (eE rfl hd) ?_);have a1:Pv.bG .add (.int 1) (.int (y:Int))=some (.int ((y+1:Nat):Int)):=by rw[aZ];congr 2;omega
 have a2:Pv.bG .add (.int 1) (.int (z:Int))=some (.int ((z+1:Nat):Int)):=by rw[aZ];congr 2;omega
 refine au (bP (ak:=wF ns at_ c (some (.val (.int k))) (some (.val (.int (at_+1+12*(k:Int))))) (some (.val (.str wd))) (some (.val (.int ((y+1:Nat):Int)))) f) (aH (az rfl) (b6 (aT rfl (aq rfl) (aT rfl (aH (aq rfl) (az rfl) aZ) (aT rfl (az rfl) aU))) (d2 _)) a1) rfl (eE rfl he) ?_);by_cases hk:wd=lH
 .subst hk;refine au (bO (b:=false) (aI rfl (aS (aq rfl) (az rfl) jZ) rfl) (λh=>absurd h (by decide)) λ_=>bM ?_);refine au (bP (ak:=wF ns at_ (c++[.keep (y+1)]) (some (.val (.int k))) (some (.val (.int (at_+1+12*(k:Int))))) (some (.val (.str lH))) (some (.val (.int ((y+1:Nat):Int)))) f) (aH (aq rfl) (di (av (di (av (aq rfl) (av (aq rfl) aG)) gc) aG) nX) (Aa (a:=c) (b:=[.keep (y+1)]) (by simp;omega))) rfl rfl (bM ?_));exact q _ _ _ _ _ _ ⟨by omega,by omega⟩ .val .val .val .val hf
 .refine au (bO (b:=true) (aI rfl (aS (aq rfl) (az rfl) jZ) (by show(!decide (wd=lH))=true;rw[DX hk];rfl)) (λ_=>?_) λh=>absurd h (by decide));refine au (bP (ak:=wF ns at_ c (some (.val (.int k))) (some (.val (.int (at_+1+12*(k:Int))))) (some (.val (.str wd))) (some (.val (.int ((y+1:Nat):Int)))) (some (.val (.int ((z+1:Nat):Int))))) (aH (az rfl) (b6 (aT rfl (aq rfl) (aT rfl (aH (aq rfl) (az rfl) aZ) (aT rfl (az rfl) aU))) (d3 _)) a2) rfl (eE rfl hf) ?_);have hs:=pY (f:=dh (run prog w (n+2)) (.ix (.v 2) (.cl 12 (.cons (.v 0) (.cons (.bin .add (.bin .add (.v 5) (.c (.int 2))) (.v 9)) (.cons (.c (.int 27)) .nil))))) (.one 9) .no (wF ns at_ c (some (.val (.int k))) (some (.val (.int (at_+1+12*(k:Int))))) (some (.val (.str wd))) (some (.val (.int ((y+1:Nat):Int)))) (some (.val (.int ((z+1:Nat):Int)))))) (e:=λ(j:Nat)=>V.int (0+j)) (g:=λ(s:Nat)=>V.str [s]) (P:=λs=>sgn.contains s=true) (l:=List.range (z+1)) λj _=>by
   obtain⟨v,hv,d4⟩:=dr (w:=w) (n:=n) hn (at_+1+12*(k:Int)+2+(0+(j:Int))) 27 (by decide);obtain⟨s,hs1,hs2⟩:∃s,fB (.str sgn) (.int (v:Int))=some (.str [s])/\sgn.contains s=true:=by
    have hl:v<sgn.length:=hv;refine⟨sgn[v],?_,by rw[Vf];exact List.getElem_mem hl⟩;rw[rN,getD_at (by omega) (by show(v:Int)<27;omega) 0];simp[tP hl]
   exact⟨s,hs2,eB rfl (fq (aq rfl) (b6 (aT rfl (aq rfl) (aT rfl (aH (aH (aq rfl) (az rfl) aZ) (aq rfl) aZ) (aT rfl (az rfl) aU))) (d4 _)) hs1)⟩
  obtain⟨s,s1,s2,s3⟩:=hs;rw[WJ]at s1;have hj:=E4 (l:=s.map λx=>[x]) (by rw[oW];simp;omega);rw[oW,List.map_id',Vi]at hj;have hW:WS s:=⟨by omega,by omega,s2⟩
  refine au (bP (ak:=wF ns at_ c (some (.val (.int k))) (some (.val (.int (at_+1+12*(k:Int))))) (some (.val (.str wd))) (some (.val (.str s))) (some (.val (.int ((z+1:Nat):Int))))) (jY rfl (az rfl) (av (ek (kP (av (aq rfl) aG) (Ab (n:=z+1) (by omega) rfl)) rfl s3 (bg (aK (by simp;omega)))) aG) hj) rfl rfl (bM ?_));rcases Sq with rfl|rfl|rfl
  .exact absurd rfl hk
  .exact au (bP (ak:=wF ns at_ (c++[.put s]) (some (.val (.int k))) (some (.val (.int (at_+1+12*(k:Int))))) (some (.val (.str v9))) (some (.val (.str s))) (some (.val (.int ((z+1:Nat):Int))))) (aH (aq rfl) (di (av (di (av (aq rfl) (av (aq rfl) aG)) gc) aG) nX) (Aa (a:=c) (b:=[.put s]) (by simp;omega))) rfl rfl (bM (q (.put s) _ _ _ _ _ hW .val .val .val .val .val)))
  .exact au (bP (ak:=wF ns at_ (c++[.drop s]) (some (.val (.int k))) (some (.val (.int (at_+1+12*(k:Int))))) (some (.val (.str qS))) (some (.val (.str s))) (some (.val (.int ((z+1:Nat):Int))))) (aH (aq rfl) (di (av (di (av (aq rfl) (av (aq rfl) aG)) gc) aG) nX) (Aa (a:=c) (b:=[.drop s]) (by simp;omega))) rfl rfl (bM (q (.drop s) _ _ _ _ _ hW .val .val .val .val .val)))
theorem D6(at_:Int):∃c,(Wide c/\c.length<=5)/\run prog w (n+3) 13 [.val (qN ns),.val (.int at_)]=some (bW c,[]):=by
 obtain⟨m,hm,d0⟩:=dr (w:=w) (n:=n) hn at_ 6 (by decide);have key:Wp (exs (run prog w (n+2)) w wA.body (cI wA [.val (qN ns),.val (.int at_)])) λg fr=>∃c,(Wide c/\c.length<=5)/\g=.ret (bW c)/\outs 2 fr=[]:=by
  refine au (bP (az rfl) rfl rfl ?_);refine au (bP (di aG ud) rfl rfl ?_);refine au (um (vs:=(List.range m).map λ(j:Nat)=>V.int (j:Int)) (af:=wF ns at_ [] none none none none none) (kP (av (b6 (aT rfl (aq rfl) (aT rfl (aq rfl) (aT rfl (az rfl) aU))) (d0 _)) aG) ((Ab (n:=m) (by omega) rfl).trans (by rw[tO];simp))) ?_);refine ju (e:=λ(j:Nat)=>V.int (j:Int)) (λp l fr=>p.length+l.length=m/\∃c a b d e f,c.length=p.length/\(∀q∈c,WP q)/\vo a/\vo b/\vo d/\vo e/\vo f/\fr=wF ns at_ c a b d e f) (λp k l fr ⟨hpl,c,a,b,d,e,f,h1,h2,ha,hb,hd,he,hf,hfr⟩=>?_) (λp fr ⟨hpl,c,a,b,d,e,f,h1,h2,ha,hb,hd,he,hf,hfr⟩=>?_) _ [] _ ⟨by simp,[],none,none,none,none,none,rfl,(λ_ h=>nomatch h),.none,.none,.none,.none,.none,rfl⟩
  .subst hfr;rw[MZ]at hpl;refine Cy hn at_ c (by omega) k ha hb hd he hf λq a b d e f hq ha hb hd he hf=>?_;rw[ue];exact⟨by simp;omega,c++[q],a,b,d,e,f,by simp[h1],λx hx=>by
    rcases List.mem_append.mp hx with hx|hx
    .exact h2 x hx
    .rw[List.mem_singleton.mp hx];exact hq,ha,hb,hd,he,hf,rfl⟩
  .subst hfr;rw[UA]at hpl;refine au (bV (v:=bW c) (af:=wF ns at_ c a b d e f) ?_ ⟨c,⟨⟨by omega,h2⟩,by omega⟩,rfl,rfl⟩);have:iT (wF ns at_ c a b d e f)=wF ns at_ c a b d e f:=by
    show [_,_,_,_,a.map Sl.gp,b.map Sl.gp,d.map Sl.gp,e.map Sl.gp,f.map Sl.gp,_]=_;rw[kO ha,kO hb,kO hd,kO he,kO hf];rfl
   rw[this];exact aq rfl
 obtain⟨g,fr,e,c,hc,rfl,ho⟩:=key;exact⟨c,hc,cj (fn:=wA) rfl rfl ⟨_,_,e,rfl,ho⟩⟩
end
section
variable{w n:Nat}{ns:List Int}
noncomputable def tl(l:List (List Nat)):Nat:=(l.map List.length).sum+l.length
def iF(a b:List (List Nat)):tl (a++b)=tl a+tl b:=by simp[tl];omega
def gg(x:List Nat)(l:List (List Nat)):tl (x :: l)=x.length+1+tl l:=by simp[tl];omega
def Cz(a:List (List Nat)):tl a.reverse=tl a:=by
 induction a with
 |nil=>rfl
 |cons x a ih=>rw[Uo,iF,ih,gg,gg];simp[tl];omega
def Oz(k:Nat)(l:List (List Nat)):tl (l.take k)+tl (l.drop k)=tl l:=by rw[<-iF,List.take_append_drop]
theorem kR(c:Nat):∀l:List (List Nat),(aM [c] l).length<=tl l
 |[]=>by simp[aM]
 |[x]=>by simp[aM,tl]
 |x :: y :: l=>by
  have:=kR c (y :: l);rw[gg];simp only[aM,HJ,T9];omega
theorem pZ(c:Nat):∀x:List Nat,tl (Ev.ay c x)=x.length+1
 |[]=>rfl
 |a :: x=>by
  have ih:=pZ c x;have ne:=(join_split (c:=c) x).2;unfold Ev.ay;split
  .rw[gg,ih];simp;omega
  .cases h:Ev.ay c x with
   |nil=>exact absurd h ne
   |cons p ps=>rw[h,gg]at ih;simp only[gg,MZ];omega
def lN{c:Nat}{l:List (List Nat)}(h:tl l<=10000):dZ .join (.str [c]) [.lst (l.map V.str)]=some (.str (aM [c] l)):=by
 have hs':strsOf (l.map V.str)=some l:=by simpa using jk (λx=>x) l
 have h2:(l.map (·.length)).sum+l.length*[c].length<=big:=aK (by unfold tl at h;show(l.map List.length).sum+l.length*1<=100000;omega)
 delta dZ;dsimp only;simp only[oU,hs',Option.bind];rw[cG h2]
def Fj{x:List Nat}{p:Nat}:Pv.eH (.str x) none (some (p:Int))=some (.str (x.take p)):=by show some (V.str (cut x none (some (p:Int))))=_;rw[ur]
def QW{x:List Nat}{p:Nat}:Pv.eH (.str x) none (some ((p:Int)+1))=some (.str (x.take (p+1))):=Fj (p:=p+1)
def MR{x:List Nat}{p:Nat}:Pv.eH (.str x) (some (p:Int)) none=some (.str (x.drop p)):=by show some (V.str (cut x (some (p:Int)) none))=_;rw[Ac]
def MS{x:List Nat}{p:Nat}:Pv.eH (.str x) (some ((p:Int)+1)) none=some (.str (x.drop (p+1))):=MR (p:=p+1)
def MT{L:List (List Nat)}(hL:L.length<=1000){p:Nat}:Pv.eH (.lst (L.map V.str)) none (some (p:Int))=some (.lst ((L.take p).map V.str)):=by
 show cV (cut _ none (some (p:Int)))=_;rw[ur,<-List.map_take];exact bg (aK (by simp;omega))
def QX{L:List (List Nat)}(hL:L.length<=1000){p:Nat}:Pv.eH (.lst (L.map V.str)) none (some ((p:Int)+1))=some (.lst ((L.take (p+1)).map V.str)):=MT hL (p:=p+1)
def MU{L:List (List Nat)}(hL:L.length<=1000){p:Nat}:Pv.eH (.lst (L.map V.str)) (some (p:Int)) none=some (.lst ((L.drop p).map V.str)):=by
 show cV (cut _ (some (p:Int)) none)=_;rw[Ac,<-List.map_drop];exact bg (aK (by simp;omega))
def QY{L:List (List Nat)}(hL:L.length<=1000){p:Nat}:Pv.eH (.lst (L.map V.str)) (some ((p:Int)+1)) none=some (.lst ((L.drop (p+1)).map V.str)):=MU hL (p:=p+1)
def QZ{L:List (List Nat)}(hL:L.length<=1000){p:Nat}:Pv.eH (.lst (L.map V.str)) (some ((p:Int)+2)) none=some (.lst ((L.drop (p+2)).map V.str)):=MU hL (p:=p+2)
def Su{L:List (List Nat)}(hL:L.length<=1000){p:Nat}:Pv.eH (.lst (L.map V.str)) (some (p:Int)) (some ((p:Int)+2))=some (.lst (((L.drop p).take 2).map V.str)):=by
 show cV (cut _ (some (p:Int)) (some ((p:Int)+(2:Nat))))=_;rw[L6,<-List.map_drop,<-List.map_take];exact bg (aK (by simp;omega))
def Sv{L:List (List Nat)}(hL:L.length<=1000):Pv.lQ (.lst (L.map V.str))=some (.lst (L.reverse.map V.str)):=by
 show cV (L.map V.str).reverse=_;rw[<-List.map_reverse];exact bg (aK (by simp;omega))
def Fp{a b:List (List Nat)}(h:a.length+b.length<=10000):Pv.bG .add (.lst (a.map V.str)) (.lst (b.map V.str))=some (.lst ((a++b).map V.str)):=by
 rw[DM (by simp;omega),Vl]
def lF(ns:List Int)(rows:List (List Pt))(one:List Nat)(a3 a4 a5 a6 a7 a8 a9 dW b9:Option Sl):Fr:=[some (.val (qN ns)),some (.val (.lst (rows.map bW))),some (.val (.str one)),a3,a4,a5,a6,a7,a8,a9,dW,b9,none]
noncomputable def iG(x:List Nat)(p s:Nat):List (List Nat):=[x,x.take p++x.drop (p+1),x.take (p+1)++x.drop p,(x.take p++[s])++x.drop (p+1)]
def ja(x one:List Nat)(p s:Nat):List (List Nat):=[(x.take p++[s])++x.drop p,aM [47] [one,one,one],[61,49,48,48],[43],[61,48],[43,97,98,99,100,101,102,103,104,105]]
def lY(L:List (List Nat))(q:Nat):List (List Nat):=[aM [10] (L.take q++L.drop (q+1)),aM [10] (L.take (q+1)++L.drop q)]
noncomputable def kT(L:List (List Nat))(q:Nat):List (List Nat):=(L.take q++((L.drop q).take 2).reverse)++L.drop (q+2)
def MV(x one:List Nat)(p s q:Nat):List (List Nat):=((iG x p s++ja x one p s)++lY (Ev.ay 10 x) q)++[aM [10] (kT (Ev.ay 10 x) q)]
def j9(l:List (List Nat))(k:Nat):tl (l.take k)<=tl l/\tl (l.drop k)<=tl l:=by have:=Oz k l;omega
def MW{x one:List Nat}{p s q:Nat}(hx:x.length<=200)(ho:one.length<=100):∀t∈MV x one p s q,t.length<=700:=by
 have hs:=pZ 10 x;have a1:=j9 (Ev.ay 10 x) q;have a2:=j9 (Ev.ay 10 x) (q+1);have a3:=j9 (Ev.ay 10 x) (q+2);have a4:=j9 ((Ev.ay 10 x).drop q) 2;have j1:=kR 10 ((Ev.ay 10 x).take q++(Ev.ay 10 x).drop (q+1));have j2:=kR 10 ((Ev.ay 10 x).take (q+1)++(Ev.ay 10 x).drop q);have j3:=kR 10 (kT (Ev.ay 10 x) q);rw[iF]at j1 j2;rw[kT,iF,iF,Cz]at j3;have j4:=kR 47 [one,one,one];rw[gg,gg,gg,show tl []=0 from rfl]at j4;intro t ht;simp only[MV,iG,ja,lY,List.mem_append,U9,List.not_mem_nil,or_false]at ht;rcases ht with (((rfl|rfl|rfl|rfl) | (rfl|rfl|rfl|rfl|rfl|rfl)) | (rfl|rfl))|rfl;all_goals first
  |omega
  | (simp only[HJ,Uc,Uq,T9];omega)
  |decide
  | (unfold kT at *;omega)
def OA(o:Option (List Pt)):Pv.cop .ne (oC o) (oC o)=some false:=by
 cases o with
 |none=>rfl
 |some c=>show Pv.cop .ne (bW c) (bW c)=_;rw[nj,Cc];simp
def Ic(k:Nat)(a b:List Pt):dD (k+3) (bW a) (bW b)=some (decide (a=b)):=by
 unfold bW;rw[Ls];exact nY (λa b=>Cb k a b) a b
def OB(o:Option (List (List Pt))):Pv.cop .ne (oR o) (oR o)=some false:=by
 cases o with
 |none=>rfl
 |some cs=>
  show Pv.cop .ne (.lst (cs.map bW)) (.lst (cs.map bW))=_;rw[nj,Ho,nY (λa b=>Ic 16 a b)];simp
def D7{rows:List (List Pt)}{one:List Nat}{a3 a4 a5 a6 a8 a9 dW b9:Option Sl}(h11:vo b9){l:List (List Nat)}(hl:∀t∈l,t.length<=700){Q:Fl->Fr->Prop}(q:∀b9,vo b9->Q .nx (lF ns rows one a3 a4 a5 a6 (some (.val (.lst (l.map V.str)))) a8 a9 dW b9)) :
  Wp (forL (turnF (run prog w (n+6)) w (.one 11) Ag) (l.map V.str) (lF ns rows one a3 a4 a5 a6 (some (.val (.lst (l.map V.str)))) a8 a9 dW b9)) Q:=by
 generalize hS:some (Sl.val (.lst (l.map V.str)))=S
 rw[hS]at q;clear hS;refine ju (e:=V.str) (λp l fr=>(∀t∈l,t.length<=700)/\∃b9,vo b9/\fr=lF ns rows one a3 a4 a5 a6 S a8 a9 dW b9) (λp t l fr ⟨hl,b9,h11,hfr⟩=>?_) (λp fr ⟨hl,b9,h11,hfr⟩=>?_) _ [] _ ⟨hl,b9,h11,rfl⟩
 .subst hfr;have ht:=hl t (by simp);have t0:=λfr=>call2 (fr:=fr) (Ow (w:=w) (n:=n+1) ht);have t1:=λfr=>call2 (fr:=fr) (Ox (w:=w) (n:=n) ht);have d0:=λfr=>dG (fr:=fr) (yX (w:=w) (n:=n+5) ht);have d1:=λfr=>dG (fr:=fr) (D5 (w:=w) (n:=n+4) ht);refine qP (af:=lF ns rows one a3 a4 a5 a6 S a8 a9 dW (some (.val (.str t)))) (bind1 rfl h11) ?_;refine au (bO (b:=false) (fD (aI rfl (aS (b6 (aT rfl (az rfl) (aT rfl (aq rfl) aU)) (t0 _)) (b6 (aT rfl (aq rfl) aU) (d0 _)) (OA _)) rfl) (aI rfl (aS (b6 (aT rfl (az rfl) (aT rfl (aq rfl) aU)) (t1 _)) (b6 (aT rfl (aq rfl) aU) (d1 _)) (OB _)) rfl)) (λh=>absurd h (by decide)) λ_=>bM (bM ?_));rw[ue];exact⟨λy hy=>hl y (by simp[hy]),_,.val,rfl⟩
 .subst hfr;exact q b9 h11
inductive ov:Option Sl->Prop where
 |none:ov none
 |own (l:List V):ov (some (.own l))
def MX{fr:Fr}{i:Nat}{s:Sl}{o:Option Sl}(e:fr[i]?=some o)(h:ov o):put fr i s=some (fr.set i (some s)):=by
 unfold put;rw[e];cases h<;>rfl
def Sw(m:Nat):Pv.bG .add (.int (m:Int)) (.int 1)=some (.int ((m+1:Nat):Int)):=by rw[aZ];congr 2
def Q0{v:Nat}(h:v<10):∃s,Pv.fB (.str [61,43,45,47,48,57,32,122,10,65]) (.int (v:Int))=some (.str [s]):=by
 have hl:v<([61,43,45,47,48,57,32,122,10,65]:List Nat).length:=h;refine⟨([61,43,45,47,48,57,32,122,10,65]:List Nat)[v],?_⟩;rw[rN,xB,tP hl];rfl
variable(hn:ns.length<=63)
include hn
theorem D8{rows:List (List Pt)}{one:List Nat}(hr:∀c∈rows,Wide c)(hl:rows.length<=100)(ho:one.length<=100)(Pz:(rt rows).length<=200){a3 a4 a5 a6 a7 a8 a9 dW b9:Option Sl}(h3:vo a3)(h4:vo a4)(h5:vo a5)(h6:vo a6)(h7:vo a7)(h8:ov a8)(h9:vo a9)(J0:vo dW)(h11:vo b9)(k:Nat){Q:Fl->Fr->Prop}
  (q:∀a3 a4 a5 a6 a7 a8 a9 dW b9,vo a3->vo a4->vo a5->vo a6->vo a7->ov a8->vo a9->vo dW->vo b9->Q .nx (lF ns rows one a3 a4 a5 a6 a7 a8 a9 dW b9)) :
  Wp (turnF (run prog w (n+6)) w (.one 3) Ah (.int (k:Int)) (lF ns rows one a3 a4 a5 a6 a7 a8 a9 dW b9)) Q:=by
 obtain⟨x,hx,e4⟩:∃x,x.length<=200/\ev (run prog w (n+6)) false (.iH (.cmp .eq (.v 3) (.c (.int 0))) (.v 2) (.cl 5 (.cons (.v 1) .nil))) (lF ns rows one (some (.val (.int (k:Int)))) a4 a5 a6 a7 a8 a9 dW b9)=.ok (.str x) (lF ns rows one (some (.val (.int (k:Int)))) a4 a5 a6 a7 a8 a9 dW b9):=by
  by_cases hk:(k:Int)=0
  .exact⟨one,by omega,oh (b:=true) (aI rfl (aS (aq rfl) (az rfl) v8) (Ui hk)) (λ_=>aq rfl) λh=>absurd h (by decide)⟩
  .exact⟨rt rows,by omega,oh (b:=false) (aI rfl (aS (aq rfl) (az rfl) v8) (DX hk)) (λh=>absurd h (by decide)) λ_=>b6 (aT rfl (aq rfl) aU) (dG (tZ (F:=prog) (Ad:=4) (i:=5) (w:=w) (n:=n+4) (s0:=.val .aO) (os:=[]) rfl rfl hr hl))⟩
 obtain⟨p,hp,d1⟩:=dr (w:=w) (n:=n+4) hn (301+(k:Int)) (x.length+1) (by omega);obtain⟨v,hv,d2⟩:=dr (w:=w) (n:=n+4) hn (303+(k:Int)) 10 (by decide);obtain⟨s,hs⟩:=Q0 hv;have hL:=Uv (c:=10) x;have wG:(Ev.ay 10 x).length<=1000:=by omega
 have Sx:0<(Ev.ay 10 x).length:=List.length_pos_iff.mpr (join_split (c:=10) x).2;obtain⟨u,hu,d3⟩:=dr (w:=w) (n:=n+4) hn (305+(k:Int)) (Ev.ay 10 x).length Sx;have dQ:=iZ (t:=x) (c:=10) (by decide);have SS:=pZ 10 x;have b1:=j9 (Ev.ay 10 x) u;have b2:=j9 (Ev.ay 10 x) (u+1);have b3:=j9 (Ev.ay 10 x) (u+2);have b4:=j9 ((Ev.ay 10 x).drop u) 2;refine qP (af:=lF ns rows one (some (.val (.int (k:Int)))) a4 a5 a6 a7 a8 a9 dW b9) (bind1 rfl h3) ?_;refine au (bP (ak:=lF ns rows one (some (.val (.int (k:Int)))) (some (.val (.str x))) a5 a6 a7 a8 a9 dW b9) e4 rfl (eE rfl h4) ?_);refine au (bP (ak:=lF ns rows one (some (.val (.int (k:Int)))) (some (.val (.str x))) (some (.val (.int (p:Int)))) a6 a7 a8 a9 dW b9) (b6 (aT rfl (aq rfl) (aT rfl (aH (az rfl) (aq rfl) aZ) (aT rfl (aH (fu (av (aq rfl) aG) (len_str (by omega))) (az rfl) (Sw _)) aU))) (d1 _)) rfl (eE rfl h5) ?_);refine au (bP (ak:=lF ns rows one (some (.val (.int (k:Int)))) (some (.val (.str x))) (some (.val (.int (p:Int)))) (some (.val (.str [s]))) a7 a8 a9 dW b9) (fq (az rfl) (b6 (aT rfl (aq rfl) (aT rfl (aH (az rfl) (aq rfl) aZ) (aT rfl (az rfl) aU))) (d2 _)) hs) rfl (eE rfl h6) ?_);have c1:∀{a b:List Nat},a.length+b.length<=100000->Pv.bG .add (.str a) (.str b)=some (.str (a++b)):=λh=>eG h;have lt:(x.take p).length<=200:=by rw[Uc];omega
 have SV:(x.take (p+1)).length<=200:=by rw[Uc];omega
 have ld:(x.drop p).length<=200:=by rw[Uq];omega
 have SW:(x.drop (p+1)).length<=200:=by rw[Uq];omega
 have SX:(x.take p++[s]).length<=201:=by rw[HJ,T9];omega
 refine au (jQ (l:=(iG x p s).map V.str) (ak:=lF ns rows one (some (.val (.int (k:Int)))) (some (.val (.str x))) (some (.val (.int (p:Int)))) (some (.val (.str [s]))) (some (.own ((iG x p s).map V.str))) a8 a9 dW b9)
  (jl (av (aq rfl) (av (aH (bY (aq rfl) bL (br (aq rfl)) Fj) (bY (aq rfl) (br (aH (aq rfl) (az rfl) aZ)) bL MS) (c1 (by omega))) (av (aH (bY (aq rfl) bL (br (aH (aq rfl) (az rfl) aZ)) QW) (bY (aq rfl) (br (aq rfl)) bL MR) (c1 (by omega))) (av (aH (aH (bY (aq rfl) bL (br (aq rfl)) Fj) (aq rfl) (c1 (by simp;omega))) (bY (aq rfl) (br (aH (aq rfl) (az rfl) aZ)) bL MS) (c1 (by omega))) aG)))) (bg (aK (by simp)))) rfl (eE rfl h7) ?_)
 have j3:Pv.bG .mul (.lst [.str one]) (.int 3)=some (.lst (([one,one,one]:List (List Nat)).map V.str)):=by rw[pT (by decide) (by decide) (by simp) (by simp[rep])];rfl
 refine au (jQ (l:=(iG x p s++ja x one p s).map V.str) (ak:=lF ns rows one (some (.val (.int (k:Int)))) (some (.val (.str x))) (some (.val (.int (p:Int)))) (some (.val (.str [s]))) (some (.own ((iG x p s++ja x one p s).map V.str))) a8 a9 dW b9)
  (by
   rw[Vl];exact B7 (aq rfl) (jl (av (aH (aH (bY (aq rfl) bL (br (aq rfl)) Fj) (aq rfl) (c1 (by simp;omega))) (bY (aq rfl) (br (aq rfl)) bL MR) (c1 (by omega))) (av (jY rfl (az rfl) (av (aH (jl (av (aq rfl) aG) E3) (az rfl) j3) aG) (lN (by simp[tl];omega))) (av (az rfl) (av (az rfl) (av (az rfl) (av (az rfl) aG)))))) (bg (aK (by simp)))) (aK (by simp[iG,ja,lY]))) rfl rfl ?_)
 refine au (jQ (l:=(Ev.ay 10 x).map V.str) (ak:=lF ns rows one (some (.val (.int (k:Int)))) (some (.val (.str x))) (some (.val (.int (p:Int)))) (some (.val (.str [s]))) (some (.own ((iG x p s++ja x one p s).map V.str))) (some (.own ((Ev.ay 10 x).map V.str))) a9 dW b9) (jm (iY (aq rfl) (az rfl) dQ) (bg (aK (by simp;omega)))) rfl (MX rfl h8) ?_);generalize Sy:Ev.ay 10 x=L at *
 refine au (bP (ak:=lF ns rows one (some (.val (.int (k:Int)))) (some (.val (.str x))) (some (.val (.int (p:Int)))) (some (.val (.str [s]))) (some (.own ((iG x p s++ja x one p s).map V.str))) (some (.own (L.map V.str))) (some (.val (.int (u:Int)))) dW b9) (b6 (aT rfl (aq rfl) (aT rfl (aH (az rfl) (aq rfl) aZ) (aT rfl (fu (av (aq rfl) aG) (by rw[Hq,L7])) aU))) (d3 _)) rfl (eE rfl h9) ?_);have m1:tl (L.take u++L.drop (u+1))<=10000:=by rw[iF];omega
 have m2:tl (L.take (u+1)++L.drop u)<=10000:=by rw[iF];omega
 have m3:tl (kT L u)<=10000:=by rw[kT,iF,iF,Cz];omega
 have tk:=λk=>List.length_take_le k L;have dk:=λk=>(Uq (i:=k) (l:=L))
 refine au (jQ (l:=((iG x p s++ja x one p s)++lY L u).map V.str) (ak:=lF ns rows one (some (.val (.int (k:Int)))) (some (.val (.str x))) (some (.val (.int (p:Int)))) (some (.val (.str [s]))) (some (.own (((iG x p s++ja x one p s)++lY L u).map V.str))) (some (.own (L.map V.str))) (some (.val (.int (u:Int)))) dW b9)
  (by
   rw[Vl (l₁:=iG x p s++ja x one p s)];exact B7 (aq rfl) (jl (av (jY rfl (az rfl) (av (aH (bY (aq rfl) bL (br (aq rfl)) (MT wG)) (bY (aq rfl) (br (aH (aq rfl) (az rfl) aZ)) bL (QY wG)) (Fp (by simp;omega))) aG) (lN m1)) (av (jY rfl (az rfl) (av (aH (bY (aq rfl) bL (br (aH (aq rfl) (az rfl) aZ)) (QX wG)) (bY (aq rfl) (br (aq rfl)) bL (MU wG)) (Fp (by simp;omega))) aG) (lN m2)) aG)) (bg (aK (by simp)))) (aK (by simp[iG,ja,lY]))) rfl rfl ?_)
 refine au (bP (v:=.lst ((kT L u).map V.str)) (ak:=lF ns rows one (some (.val (.int (k:Int)))) (some (.val (.str x))) (some (.val (.int (p:Int)))) (some (.val (.str [s]))) (some (.own (((iG x p s++ja x one p s)++lY L u).map V.str))) (some (.own (L.map V.str))) (some (.val (.int (u:Int)))) (some (.val (.lst ((kT L u).map V.str)))) b9)
  (aH (aH (bY (aq rfl) bL (br (aq rfl)) (MT wG)) (LZ (bY (aq rfl) (br (aq rfl)) (br (aH (aq rfl) (az rfl) aZ)) (Su wG)) (Sv (by simp;omega))) (Fp (by simp;omega))) (bY (aq rfl) (br (aH (aq rfl) (az rfl) aZ)) bL (QZ wG)) (Fp (by simp;omega))) rfl (eE rfl J0) ?_)
 refine au (Oe (af:=lF ns rows one (some (.val (.int (k:Int)))) (some (.val (.str x))) (some (.val (.int (p:Int)))) (some (.val (.str [s]))) (some (.own ((((iG x p s++ja x one p s)++lY L u)++[aM [10] (kT L u)]).map V.str))) (some (.own (L.map V.str))) (some (.val (.int (u:Int)))) (some (.val (.lst ((kT L u).map V.str)))) b9)
  (by
   rw[Vl (l₁:=(iG x p s++ja x one p s)++lY L u)];exact uh rfl rfl (av (jY rfl (az rfl) (av (aq rfl) aG) (lN m3)) aG) (HF (by simp[iG,ja,lY]))) ?_)
 have hle:=MW (x:=x) (one:=one) (p:=p) (s:=s) (q:=u) hx ho;unfold MV at hle;rw[Sy]at hle;refine au (um (vs:=((((iG x p s++ja x one p s)++lY L u)++[aM [10] (kT L u)])).map V.str) (af:=lF ns rows one (some (.val (.int (k:Int)))) (some (.val (.str x))) (some (.val (.int (p:Int)))) (some (.val (.str [s]))) (some (.val (.lst ((((iG x p s++ja x one p s)++lY L u)++[aM [10] (kT L u)]).map V.str)))) (some (.own (L.map V.str))) (some (.val (.int (u:Int)))) (some (.val (.lst ((kT L u).map V.str)))) b9) (er (iQ rfl) rfl) ?_);exact D7 h11 hle λb9 h11=>bM (q _ _ _ _ _ _ _ _ _ .val .val .val .val .val (.own _) .val .val h11)
theorem MY:run prog w (n+7) 17 [.val (qN ns)]=some (.bl true,[]):=by
 obtain⟨m,hm,d0⟩:=dr (w:=w) (n:=n+4) hn 300 3 (by decide);have OC:=pY (f:=dh (run prog w (n+6)) (.cl 13 (.cons (.v 0) (.cons (.bin .mul (.c (.int 100)) (.v 12)) .nil))) (.one 12) .no [some (.val (qN ns)),none,none,none,none,none,none,none,none,none,none,none,none]) (e:=λ(j:Nat)=>V.int (0+j)) (g:=bW) (P:=λc=>Wide c/\c.length<=5) (l:=List.range (1+m)) λj _=>by
  obtain⟨c,hc,e⟩:=D6 (w:=w) (n:=n+3) hn (100*(0+(j:Int)));exact⟨c,hc,eB rfl (b6 (aT rfl (aq rfl) (aT rfl (aH (az rfl) (aq rfl) (j0 rfl)) aU)) (call2 e))⟩
 obtain⟨rows,h1,h2,h3⟩:=OC;rw[WJ]at h1;have ad:Pv.bG .add (.int 1) (.int (m:Int))=some (.int ((1+m:Nat):Int)):=by rw[aZ];congr 2
 have PB:∀c:List Pt,Wide c/\c.length<=5->(ct c).length<=50:=λc ⟨hw,hl⟩=>by
  have:=join_le (s:=[47]) (b:=9) (l:=c.map Pt.t) (λp hp=>by
   obtain⟨q,h3,rfl⟩:=List.mem_map.mp hp;exact(rV (hw.pt q h3)).2.1)
  simp at this;unfold ct;omega
 obtain⟨c0,rs,rfl⟩:∃c0 rs,rows=c0 :: rs:=by
  cases rows with
  |nil=>simp at h1;omega
  |cons c r=>exact⟨c,r,rfl⟩
 have hc0:=h2 c0 (by simp);obtain⟨z,hz,Sz⟩:∃z,(Wide z/\z.length<=5)/\(c0 :: rs).getLast?=some z:=by
  refine⟨(c0 :: rs).getLast (by simp),h2 _ (List.getLast_mem _),List.getLast?_eq_some_getLast (by simp)⟩
 have r0:Pv.fB (.lst ((c0 :: rs).map bW)) (.int 0)=some (bW c0):=by rw[rO,Od];rfl
 have rz:Pv.fB (.lst ((c0 :: rs).map bW)) (.int (-1))=some (bW z):=by rw[rO,B5,List.getLast?_map,Sz];rfl
 have t0:=λfr=>dG (fr:=fr) (iC (F:=prog) (i:=4) (w:=w) (n:=n+5) rfl hc0.1);have tz:=λfr=>dG (fr:=fr) (iC (F:=prog) (i:=4) (w:=w) (n:=n+5) rfl hz.1);have Pz:(rt (c0 :: rs)).length<=200:=by
  have:∀l:List (List Pt),(∀c∈l,Wide c/\c.length<=5)->(rt l).length<=51*l.length:=λl=>by
   induction l with
   |nil=>intro _;simp[rt]
   |cons c l ih=>
    intro h;have h4:=ih λx hx=>h x (by simp[hx]);have h5:=PB c (h c (by simp));simp only[rt,we,Uk,HJ,MZ,UA]at h4 ⊢;omega
  have:=this _ h2;rw[h1]at this;omega
 have same:(decide (ct z=ct c0))=decide (z=c0):=decide_eq_decide.mpr ⟨λe=>by
  have e1:=Cm hz.1;rw[e,Cm hc0.1]at e1;exact(pV e1).symm,λe=>by rw[e]⟩
 refine cj (fn:=Cs) rfl rfl ?_;refine au (bP (v:=.lst ((c0 :: rs).map bW)) (ek (kP (av (aH (az rfl) (b6 (aT rfl (aq rfl) (aT rfl (az rfl) (aT rfl (az rfl) aU))) (d0 _)) ad) aG) (Ab (n:=1+m) (by omega) rfl)) rfl h3 (bg (aK (by rw[L7,h1];omega)))) rfl rfl ?_);refine au (bP (v:=.str (ct c0)) (ak:=lF ns (c0 :: rs) (ct c0) none none none none none none none none none) (b6 (aT rfl (fq (aq rfl) (az rfl) r0) aU) (t0 _)) rfl rfl ?_);refine au (bO (b:=false) (af:=lF ns (c0 :: rs) (ct c0) none none none none none none none none none) (aI rfl (aS (aS (b6 (aT rfl (fq (aq rfl) (qO (az rfl)) rz) aU) (tz _)) (aq rfl) gG) (aS (fq (aq rfl) (qO (az rfl)) rz) (fq (aq rfl) (az rfl) r0) (Cc z c0)) (show Pv.cop .ne (.bl (decide (ct z=ct c0))) (.bl (decide (z=c0)))=some false by rw[same,nj];cases decide (z=c0)<;>rfl)) rfl) (λh=>absurd h (by decide)) λ_=>bM ?_);refine au (um (vs:=(List.range 2).map λ(i:Nat)=>V.int (i:Int)) (af:=lF ns (c0 :: rs) (ct c0) none none none none none none none none none) (kP (av (az rfl) aG) ((Ab (n:=2) (by omega) rfl).trans (by rw[tO];simp))) ?_);refine ju (e:=λ(i:Nat)=>V.int (i:Int)) (λp l fr=>∃a3 a4 a5 a6 a7 a8 a9 dW b9,vo a3/\vo a4/\vo a5/\vo a6/\vo a7/\ov a8/\vo a9/\vo dW/\vo b9/\fr=lF ns (c0 :: rs) (ct c0) a3 a4 a5 a6 a7 a8 a9 dW b9) (λp k l fr ⟨a3,a4,a5,a6,a7,a8,a9,dW,b9,g3,g4,g5,g6,g7,g8,g9,Fq,Ft,hfr⟩=>?_) (λp fr ⟨a3,a4,a5,a6,a7,a8,a9,dW,b9,g3,g4,g5,g6,g7,g8,g9,Fq,Ft,hfr⟩=>?_) _ [] _ ⟨none,none,none,none,none,none,none,none,none,.none,.none,.none,.none,.none,.none,.none,.none,.none,rfl⟩
 .subst hfr;refine D8 hn (λc hc=>(h2 c hc).1) (by omega) (by have:=PB c0 hc0;omega) Pz g3 g4 g5 g6 g7 g8 g9 Fq Ft k λa3 a4 a5 a6 a7 a8 a9 dW b9 g3 g4 g5 g6 g7 g8 g9 Fq Ft=>?_;rw[ue];exact⟨a3,a4,a5,a6,a7,a8,a9,dW,b9,g3,g4,g5,g6,g7,g8,g9,Fq,Ft,rfl⟩
 .subst hfr;exact au (bV (az rfl) ⟨rfl,rfl⟩)
end
def good:∀ns:List Int,ns.length<=63->∃h',Ev.run prog 100000 60 17 [.ref 0] [.bB (ns.map Ev.D.int)]=.ok (.bl true) h':=λns h=>Hg (MY (w:=100000) (n:=53) h)
end Lg
theorem Lw.good:∀ns:List Int,ns.length<=63->∃h',Ev.run Lw.prog 100000 60 17 [.ref 0] [.bB (ns.map Ev.D.int)]=.ok (.bl true) h':=Lg.good
inductive PySem.W.Fast:Prop|tw2928223133601471582|tw1644541733780751894|tw15638258330591796671|tw17947059495739314876|tw11102600743647544412|tw18137680752507508600|tw13759375737446620053|tw4742020198245773295|tw4940135643806381665|tw12192958472287604573|tw1694233391601703034|tw14537063132997409400|tw203672600284508912|tw14686554435763617288|tw11325383888854867061|tw13610359683672232896|tw14116239107150634562|tw5689766409705561808|tw8812574716459007911|tw3098478430824720805|tw14815423740224281725|tw17567093264443540937|tw275293983366543881|tw9340464272257324047|tw4473903112353040855|tw10637604382481615330|tw18246712946850729340|tw11892677072316373762|tw9764968134664984654|tw8011569910450169985|tw944928141747714001|tw8826626572004431595|tw14695851350380697894|tw5644469730463275867|tw915809119725459249|tw4928163496936791824|tw1210036987549271034|tw15258831717621689722|tw7894510428825552108|tw4553456073984105356|tw5027557372084275669|tw15060954967156149368|tw3964134480594285307|tw16465456622825104858|tw14795034126230925226|tw5753057284225835453|tw9728866309672051483|tw908027345127362342|tw8058511581888928587|tw6233984449435936115|tw12097790486127625927|tw11605327936877201707|tw9596838320094077255|tw4451631527284436532|tw11140885003174393101|tw17462050493160114762|tw9568010541086309244|tw5369291828055285578|tw16352506535841316452|tw7500468311003935642|tw7279999958408874018|tw8427370131379137741|tw923128414743910747|tw11936402429529992159|tw14957729062286229961|tw9147728299207200900|tw4800426337825859355|tw10321301020309864954|tw12009012072138735015|tw7373871601329740272|tw10540166850662980952|tw10376692931044212761|tw18157152171313019247|tw12764076439686467290|tw15535357031097428356|tw3330742111735075823|tw15120552348943844785|tw16719609892196950497|tw10236833669412524468|tw10486833208602466543|tw6379916132440761381|tw14462542127766558936|tw473432304799982304|tw1996489640032251428|tw14983312044458197765|tw1548258445049567745|tw2575360620635296866|tw11128894664982800246|tw14467707629068545428|tw5064046278339839585|tw4677631886714887938|tw14849662498016914312|tw10696583063789417179|tw4334395150198860179|tw17341789353843722424|tw3800615849817971816|tw11629730730821307143|tw8099748094104875085|tw6945477084529107135|tw8881978815418229375|tw79852232829840006|tw9536313099011352342|tw17405756349564025232|tw14369956727609251673|tw1172013139312535116|tw515874871913214242|tw5554254085305952494|tw3160268036366439035|tw12896701054410923724|tw4468960374630933201|tw13683047016544978353|tw10550426870511837428|tw2595463379337930365|tw2594623524785294225|tw6422178080905705213|tw7837117415497314228|tw13749819060680576374|tw6141690765028565970|tw9734243533149355695|tw10668669073890042274|tw717145035904252388|tw15966675449032318711|tw14612070887849794089|tw6483292722583717183|tw15279362039738650117|tw2123362672249339307|tw485535663982300835|tw5286182136618836029|tw5179844273400796389|tw600112487843599045|tw6149710561385734561|tw659647722782752051|tw12904863926204412145|tw4812361430840983524|tw17821062410509105417|tw14467069089955577536|tw14817970502250853164|tw18211850337573799481|tw11777709431767768887|tw11976785719351179526|tw5281345369107124593|tw8651967000229353167|tw4682389387043142869|tw11416853783466321662|tw3933128178252641697|tw1275319370355356516|tw7848648498372813625|tw1138357356871805593|tw17738292605149146404|tw16794951246738664682|tw17701087458056818246|tw18294370026906988028|tw857928001664846356|tw8787066701006297093|tw1841108090691894140|tw17413061584744557487|tw11184786812492908144|tw6005008744445285452|tw4072756378392602390|tw17867166550184430948|tw3309223167171525379|tw10627082819736402296
open PySem PySem.W PyProof.Rows
set_option maxRecDepth 100000 in
set_option maxHeartbeats 0 in
theorem PySem.Challenge.cw_pastways_k91_whole_read_holds : PySem.Challenge.rw_pastways_k91_whole_read.Holds := by
 w_on;o_law;k_head;(case hw=>w_witness2)
 k_fill
 refine Sm.GF (F:=Lw.prog) (wh:=100000) (n:=60) (f:=17) (x:="_law_script") (l:=PySem.Challenge.rw_pastways_k91_whole_read) rfl rfl ⟨rfl,by decide,by decide⟩ (λw h Y=>PySem.W.kIn_of Y) Lw.good ?F
 case F=>
  intro w mg fa h KX G hmg
  refine' Lw.all_mk KX G hmg ⟨?a0,L2.cH ?l0 ?c0 ?k0⟩ ⟨?a1,L2.cH ?l1 ?c1 ?k1⟩ ⟨?a2,L2.cH ?l2 ?c2 ?k2⟩ ⟨?a3,L2.cH ?l3 ?c3 ?k3⟩ ⟨?a4,L2.cH ?l4 ?c4 ?k4⟩ ⟨?a5,L2.cH ?l5 ?c5 ?k5⟩ ⟨?a6,L2.cH ?l6 ?c6 ?k6⟩ ⟨?a7,L2.cH ?l7 ?c7 ?k7⟩ ⟨?a8,L2.cH ?l8 ?c8 ?k8⟩ ⟨?a9,L2.cH ?l9 ?c9 ?k9⟩ ⟨?dW,L2.cH ?SY ?S5 ?S6⟩ ⟨?b9,L2.cH ?S7 ?S8 ?S9⟩ ⟨?Tc,L2.cH ?Td ?c12 ?Te⟩ ⟨?Tf,L2.cH ?Tg ?Th ?Ti⟩ ⟨?Tj,L2.cH ?To ?Tp ?Tq⟩ ⟨?Tt,L2.cH ?Tu ?Tv ?Tw⟩ ⟨?Tz,L2.cH ?TF ?TH ?TJ⟩ ⟨?TL,L2.cH ?TM ?TN ?TQ⟩ ?xw (Sm.GP ?TR ?TU ?TV ?TX ?TZ ?T3) ?y1 ?y2 ?w1 ?w2 ?z0 ?z1 ?z2 ?z3 ?z4 ?z5 ?z6 ?z7 ?z8 ?q0 ?q1 ?q2 ?q3 ?q4 ?Pp ?Pq ?Pr ?Pu ?Pw ?Px;all_goals try first|k_is|rfl|decide +kernel | (with_unfolding_all rfl)
  all_goals kernel_rfl

import PyProof.Rows.All
import Wide.All
import OpenK.AllK
import Wide.FinOn
import Lean
import PyProof.EqAt
import PyProof.EqKinds
import PyProof.TupleCall
import PyProof.DictUpdate
import PyProof.NeKinds
import PyProof.StrLawsIn
import KE.KRevSl
import PyProof.ZipIter
import PyProof.ListRange
import PyProof.Rows.SortStr
import KE.KRevIter
import KE.KDictSum
import PyProof.EnumMake
import PyProof.EnumFor
import PyProof.Draws
import KE.KIntText
import PyProof.CallStr
import PySem.Challenge.RW_pastways_k51_whole_least
set_option Elab.async false
set_option linter.all false
set_option maxRecDepth 100000
def fK:=@PySem.wpAny_bind
def gV:=@PySem.Heap.get?_push_of_some
def pe:=@PySem.wpAny_pure
def uB:=@List.size_toArray
def Dp:=@Option.map_eq_some_iff
def Et:=@Nat.le_refl
def GQ:=@if_pos
def Lf:=@Bool.and_eq_true
def MC:=@Nat.lt_of_lt_of_le
def PY:=@PySem.Heap.get?_push_size
def PZ:=@List.getElem?_set_ne
def RG:=@Option.some.inj
def RH:=@PySem.Heap.lt_size
def Sw:=@Option.bind_eq_some_iff
def Sx:=@List.getElem?_append_left
def T6:=@List.map_cons
def T7:=@List.getElem?_eq_getElem
def Us:=@if_neg
def Ut:=@List.replicate_succ
def VV:=@List.getElem?_set_self
def VW:=@List.reverse_cons
def VX:=@List.length_append
def VY:=@List.mem_cons_of_mem
def VZ:=@congrArg
def V0:=@Nat.le_trans
def V1:=@List.length_cons
def V2:=@PyProof.Rows.callWith_type1
def V3:=@List.map_append
def V4:=@Bool.false_eq_true
def V5:=@PySem.wpAny_newObj_type
def V6:=@PySem.wpAny_field
def V7:=@Nat.ne_of_lt
def V8:=@List.append_nil
def V9:=@List.mem_of_getElem?
def Wa:=@List.length_map
def Wb:=@List.mem_append_right
def Wc:=@List.length_reverse
def We:=@List.getElem?_map
def Wf:=@if_true
def Wg:=@Nat.lt_irrefl
def Wh:=@decide_eq_false
def Wi:=@List.mem_nil_iff
def Wj:=@List.append_assoc
def Wk:=@PyProof.Rows.slot_tuple_getitem
def Wm:=@List.mem_cons
def Wo:=@PySem.W.mg_none_of
def Wq:=@List.mem_cons_self
def Wr:=@PySem.builtinLookup_eq_fast
def Ws:=@PySem.AutoSeq1.wpAny_loadPart'
def Wu:=@List.foldl_cons
def Wv:=@Bool.false_ne_true
def Ww:=@PySem.wpAny_callSpecial?_slot
def Wx:=@PySem.wpAny_call_entry
def Wy:=@List.take_of_length_le
def Wz:=@of_decide_eq_true
def WA:=@List.take_succ_cons
def WB:=@List.filterMap_cons
def WC:=@PySem.wpAny_ite_split
def WD:=@PySem.wpAny_setField_rec
def WE:=@if_false
def WG:=@Bool.or_eq_true
def WH:=@Nat.zero_le
def WI:=@List.getElem?_append_right
def WJ:=@List.cons_append
def WK:=@List.getElem?_eq_none
def WL:=@PySem.typeLookup_type
def WM:=@List.range_succ
def WN:=@decide_eq_true_eq
def WO:=@PySem.wpAny_holding
def WQ:=@PyProof.Rows.len_str
def WR:=@List.lookup_cons
def WS:=@List.length_take
def WT:=@PySem.wpAny_of_eq
def WU:=@PySem.sizeLine_eq
def WV:=@List.drop_eq_nil_of_le
def WX:=@PySem.wpAny_Call_Name_kw
def WY:=@of_decide_eq_false
def WZ:=@Ne.symm
def W0:=@PySem.wpAny_specialOf
def W2:=@PySem.wpAny_passesOwn
def W3:=@List.length_singleton
def W4:=@PySem.Heap.get?_update_self
def W5:=@List.flatten_cons
def W6:=@PySem.wpAny_mono
def W7:=@PySem.wpAny_seqItems
def W8:=@PySem.isSubtype_type
def W9:=@or_false
def Xa:=@List.length_drop
def Xb:=@PySem.mem_of_lookup
def Xc:=@List.drop_succ_cons
def Xd:=@Array.length_toList
def Xe:=@PySem.call_meets
def Xf:=@List.forIn_cons
def Xg:=@PySem.Heap.get?_update_other
def Xh:=@PySem.wpAny_typeOf
def Xi:=@Nat.add_comm
def Xj:=@List.take_append_drop
def Xk:=@List.dropLast_eq_take
def Xl:=@PySem.wpAny_isInstance
def Xm:=@List.filter_cons
def Xn:=@List.reverse_reverse
def Xo:=@PySem.Around.under_plainId
def Xp:=@PySem.wpAny_attempt
def Xq:=@PySem.plainId_quiet
def Xr:=@Option.bind_eq_bind
def Xu:=@List.getElem?_range
def Xv:=@Nat.min_eq_left
def Xw:=@List.map_map
def Xx:=@PySem.Obj.data_mapFields
def Xy:=@Int.emod_lt_of_pos
def Xz:=@PySem.Calls.spliced_cons
def XA:=@PySem.F.args_tuple_mul_2
def XC:=@PySem.F.args_tuple_add_2
def XD:=@PySem.wpAny_rule
def XE:=@decide_eq_true
def XF:=@List.take_zero
def XG:=@List.drop_zero
def XH:=@PySem.Heap.size_push
def XI:=@decide_eq_false_iff_not
def XJ:=@PySem.F.plainAttrs_list
def XM:=@PySem.F.entry_tuple_mul
def XN:=@PySem.F.entry_tuple_add
def XO:=@List.foldl_append
def XQ:=@Int.toNat_natCast
def XR:=@PySem.Calls.spliced_nil
def XS:=@PySem.F.slot_tuple_mul
def XT:=@PySem.F.slot_tuple_add
def XU:=@Nat.add_assoc
def XW:=@Nat.le_add_right
def XX:=@Nat.ne_of_gt
def XY:=@PySem.codeAny_builtin
def XZ:=@List.nodup_cons
def X0:=@List.nil_append
def X3:=@Int.emod_nonneg
def X4:=@PySem.F.slot_zip_next
def X5:=@PySem.wpAny_updateSeq_pair
def X6:=@PyProof.Rows.entry_tuple_getitem
def X7:=@PySem.Heap.SameBut.update
def X8:=@PySem.F.plain_extend_loop
def Yb:=@List.forIn_nil
def Yc:=@List.drop_drop
def Yd:=@PyProof.Rows.args_tuple_getitem
def Ye:=@List.filter_append
def Yg:=@PySem.wpAny_onRaise
def Yh:=@PySem.W.mg_of
def Yi:=@PySem.Calls.Name_function_global
def Yj:=@PySem.wpAny_truthy_bool
def Yk:=@PySem.wpAny_sequenceKey
def Yl:=@Option.some.injEq
def Ym:=@Bool.not_eq_true'
def Yn:=@PySem.typeIs_int
def Yo:=@PySem.wpAny_binaryOp_repeat_ref
def Yp:=@List.getElem?_eq_none_iff
def Yq:=@List.drop_eq_getElem_cons
def Yr:=@Array.getElem?_eq_getElem
def Ys:=@Nat.add_zero
def Yt:=@PySem.noFill_tuple_add
def Yu:=@Nat.min_eq_right
def Yv:=@Nat.lt_succ_self
def Yw:=@List.zipIdx_cons
def Yx:=@List.reverse_nil
def Yy:=@List.drop_length
def Yz:=@PySem.AutoSeq1.idx_int
def YA:=@PySem.wpAny_getItem_list_slice
def YB:=@PySem.wpAny_getItem_str_slice
def YC:=@List.getElem?_replicate
def YD:=@PyProof.Rows.IsTup.new
def YE:=@PySem.wpAny_updateSeq
def YF:=@PySem.wpAny_execs_nil
def YG:=@Nat.le_antisymm
def YH:=@List.of_mem_zip
def YI:=@PySem.wpAny_letGo
def YJ:=@PySem.W.cellsFrom_some
def YK:=@List.zipWith_cons_cons
def YL:=@List.range_succ_eq_map
def YM:=@List.filterMap_reverse
def YN:=@PySem.Calls.callWith_builtin
def YO:=@PySem.wpAny_setField
def YQ:=@PySem.callType_codes
def YR:=@PySem.F.slot_int_rmul
def YS:=@PySem.Obj.isFreed_of_fields
def YT:=@List.singleton_append
def YU:=@List.length_replicate
def YV:=@PySem.args_get
def YW:=@PySem.typeIs_str
def YX:=@List.mem_append_left
def YY:=@List.getElem?_of_mem
def YZ:=@PySem.signature?_of
def Y0:=@PySem.seq_tuple_add
def Y3:=@PySem.evalPart_none
def Y4:=@Nat.sub_lt_sub_left
def Y5:=@List.reverse_append
def Y6:=@List.flatMap_append
def Y7:=@PySem.concat_meets
def Y8:=@PySem.codeAny_mono
def Y9:=@Nat.lt_or_ge
def Za:=@Nat.le_of_lt
def Zb:=@List.map_nil
def Zc:=@Int.zero_add
def Zd:=@PyProof.V.same_str
def Ze:=@List.zip_cons_cons
def Zg:=@List.mem_singleton
def Zh:=@List.filterMap_map
def Zi:=@Array.forIn_toList
def Zj:=@PySem.W.krv_range
def Zk:=@List.take_reverse
def Zl:=@List.take_add_one
def Zm:=@Function.comp_def
def Zn:=@Nat.le_succ
def Zp:=@beq_self_eq_true
def Zq:=@PySem.seqSlot_of
def Zr:=@Option.getD_none
def Zs:=@List.take_length
def Zt:=@List.getElem_inj
def Zu:=@List.all_eq_true
def Zv:=@bne_iff_ne
def Zw:=@PySem.W.krv_all
def Zx:=@Option.map_some
def Zy:=@List.zipIdx_nil
def Zz:=@List.length_nil
namespace L2
open PySem PySem.Spec PyProof.Rows
abbrev Key:=Sum Int Str
noncomputable def Dv:Key->Value->Bool
 |.inl k,v=>Value.isInt k v
 |.inr x,v=>Value.isStrOf x v
noncomputable def QD(w:World):Key->Int
 |.inl k=>hashInt k
 |.inr x=>hashStr w x
def cS:∀{k:Key}{v:Value},Dv k v=true->(∃i t,k=Sum.inl i/\v=Value.int i t)\/(∃x t,k=Sum.inr x/\v=Value.str x t)
 |.inl i,v,h=>by
  obtain⟨t,e⟩:=Value.isInt_shape (k:=i) (v:=v) h;exact .inl ⟨i,t,rfl,e⟩
 |.inr x,v,h=>by
  obtain⟨t,e⟩:=Value.isStrOf_shape (x:=x) (v:=v) h;exact .inr ⟨x,t,rfl,e⟩
def GY(a b:Int):decide ((Sum.inl a:Key)=Sum.inl b)=(a==b):=by
 by_cases e:a=b
 .subst e;simp
 .have h:¬ (Sum.inl a:Key)=Sum.inl b:=λq=>e (Sum.inl.inj q);rw[Wh h];exact(beq_eq_false_iff_ne.mpr e).symm
def GZ(a b:Str):decide ((Sum.inr a:Key)=Sum.inr b)=decide (a=b):=by
 by_cases e:a=b
 .subst e;simp
 .have h:¬ (Sum.inr a:Key)=Sum.inr b:=λq=>e (Sum.inr.inj q);rw[Wh h,Wh e]
def G0(a:Int)(b:Str):decide ((Sum.inl a:Key)=Sum.inr b)=false:=Wh (λq=>nomatch q)
def G1(a:Str)(b:Int):decide ((Sum.inr a:Key)=Sum.inl b)=false:=Wh (λq=>nomatch q)
noncomputable def pJ(prog:Program)(w:World):PySem.KeyKind prog w Key where
 is:=Dv
 hash:=QD w
 inj:=λv a b ha hb=>by
  rcases cS ha with ⟨i,t,rfl,rfl⟩|⟨x,t,rfl,rfl⟩
  .rcases cS hb with ⟨j,u,rfl,e⟩|⟨y,u,rfl,e⟩
   .injection e with e1 _;rw[e1]
   .exact nomatch e
  .rcases cS hb with ⟨j,u,rfl,e⟩|⟨y,u,rfl,e⟩
   .exact nomatch e
   .injection e with e1 _;rw[e1]
 byValue:=λk v h=>by
  rcases cS h with ⟨i,t,rfl,rfl⟩|⟨x,t,rfl,rfl⟩<;>rfl
 pyHash:=λhv h=>by
  rcases cS hv with ⟨i,t,rfl,rfl⟩|⟨x,t,rfl,rfl⟩
  .exact wpAny_pyHash_int h
  .exact wpAny_pyHash_str h
 eqBool:=λhu hv h=>by
  rcases cS hu with ⟨i,t,rfl,rfl⟩|⟨x,t,rfl,rfl⟩
  .rcases cS hv with ⟨j,u,rfl,rfl⟩|⟨y,u,rfl,rfl⟩
   .rw[GY]at h;exact wpAny_eqBool_int h
   .rw[G0]at h;exact SeqAt.EqAt.int_str i t y u _ _ _ _ h
  .rcases cS hv with ⟨j,u,rfl,rfl⟩|⟨y,u,rfl,rfl⟩
   .rw[G1]at h;exact SeqAt.EqAt.str_int x t j u _ _ _ _ h
   .rw[GZ]at h;exact wpAny_eqBool_str h
 «strs»:=λk x t v h=>by
  rcases cS h with ⟨i,u,rfl,e⟩|⟨y,u,rfl,e⟩
  .exact nomatch e
  .injection e with e1 _
   subst e1;cases v<;>rfl
inductive V where
 |bA|bl (b:Bool)|int (i:Int)|str (x:Str)|yF (b:Array UInt8)|G2 (b:UInt64)|ref (a:Addr)|ty (n:String)
 deriving DecidableEq
noncomputable def RelV:V->Value->Prop
 |.bA,u=>u=Value.none
 |.bl b,u=>u=Value.bool b
 |.int i,u=>∃t,u=Value.int i t
 |.str x,u=>∃t,u=Value.str x t
 |.yF b,u=>∃t,u=Value.bytes b t
 |.G2 b,u=>∃t,u=Value.float b t
 |.ref a,u=>u=Value.ref a
 |.ty n,u=>u=Value.type n
abbrev Vals:List V->List Value->Prop:=Paired RelV
theorem Vals.length{xs:List V}{us:List Value}(r:Vals xs us):xs.length=us.length:=Paired.length r
theorem Vals.get:∀{xs:List V}{us:List Value}{i:Nat}{x:V},Vals xs us->xs[i]?=some x->∃u,us[i]?=some u/\RelV x u
 |_,_,_,_,.nil,e=>by simp at e
 |_,_,0,_,.cons r _,e=>by simp at e;subst e;exact⟨_,rfl,r⟩
 |_,_,i+1,x,.cons _ t,e=>by
  obtain⟨u,h1,h2⟩:=Vals.get (i:=i) (x:=x) t (by simpa using e);exact⟨u,by simpa using h1,h2⟩
theorem Vals.append:∀{xs ys:List V}{us ws:List Value},Vals xs us->Vals ys ws->Vals (xs++ys) (us++ws)
 |_,_,_,_,.nil,s=>s
 |_,_,_,_,.cons r t,s=>.cons r (Vals.append t s)
theorem Vals.take:∀{xs:List V}{us:List Value}(n:Nat),Vals xs us->Vals (xs.take n) (us.take n)
 |_,_,0,_=>.nil
 |_,_,_+1,.nil=>.nil
 |_,_,n+1,.cons r t=>.cons r (Vals.take n t)
theorem Vals.drop:∀{xs:List V}{us:List Value}(n:Nat),Vals xs us->Vals (xs.drop n) (us.drop n)
 |_,_,0,r=>r
 |_,_,_+1,.nil=>.nil
 |_,_,n+1,.cons _ t=>Vals.drop n t
noncomputable def G3:Option V->Option Value->Prop
 |some v,some u=>RelV v u
 |none,none=>True
 |_,_=>False
noncomputable def KV{κ:Type}:List (κ×V)->List (κ×Value)->Prop:=Paired λ(p:κ×V) (q:κ×Value)=>p.1=q.1/\RelV p.2 q.2
noncomputable def kV:Key->V
 |.inl i=>.int i
 |.inr x=>.str x
inductive HO where
 |lst (xs:List V)
 |tup (xs:List V)
 |dK (kvs:List (Key×V))|dT (kvs:List (List Key×V))
 |set (S:Int->Bool) (n:Nat)
 |ins (C dx:Addr) (fs:List (Str×V))
 |own (x:Addr)
 |xd (fs:List (Str×V))
 |met (f x:Addr)
 |fY (lo hi:Int)
 |bO (o:Obj) (u:HO)
 |rV (ps:Array Value)
 |ext (φ:Heap->Prop)
abbrev Hp:=Addr->Option HO
noncomputable def upd(H:Hp)(a:Addr)(o:HO):Hp:=λb=>if b=a then some o else H b
def eN{H:Hp}{a:Addr}{o:HO}:upd H a o a=some o:=by unfold upd;rw[GQ rfl]
def bw{H:Hp}{a b:Addr}{o:HO}(h:b≠a):upd H a o b=H b:=by unfold upd;rw[Us h]
def nU{H:Hp}{a b:Addr}{o u:HO}(h:H a=some o)(h':H b=some u)(d:o≠u):a≠b:=by
 intro e;subst e;rw[h]at h';exact d (RG h')
def bS{H:Hp}{a b:Addr}{o:HO}(h:H a=some o)(h':H b=none):a≠b:=by
 intro e;subst e;rw[h]at h';cases h'
section
variable(P:Program)(w:World)
noncomputable def fc(H:Hp)(h:Heap)(a:Addr):HO->Prop
 |.lst xs=>xs.length<=sizeLine/\∃(its:List Value) (n:Nat),Vals xs its/\h.get? a=some { cls:=.type "list",data:=.seq its.toArray n }
 |.tup xs=>xs.length<=sizeLine/\∃its:List Value,Vals xs its/\IsTup h a its.toArray
 |.dK kvs=>kvs.length<=sizeLine/\(a==sysModules)=false/\∃vs,KV kvs vs/\h.DictOf (pJ P w) a vs
 |.dT kvs=>kvs.length<=sizeLine/\(a==sysModules)=false/\∃xs:List (List Key×Addr×Value),
   Paired (λ(p:List Key×V) (q:List Key×Addr×Value)=>p.1=q.1/\H q.2.1=some (.tup (p.1.map kV))/\RelV p.2 q.2.2) kvs xs/\
   ∃o es ep,h.get? a=some o/\o.ExactDict/\o.data=.dict es ep/\es.toList=xs.map (entryOfKey (tupleKind (pJ P w)))/\(xs.map (·.1)).Nodup
 |.set S n=>h.SetOf (intKind P w) a S n
 |.ins C dx fs=>H dx=some (.own a)/\fs.length<=1000/\dx≠a/\h.get? a=some (PySem.W.instObj C dx)/\
   ∃mA,h.Ns1 dx mA/\(∀f,G3 (fs.lookup f) (mA f))/\PySem.Within mA (fs.map (·.1))
 |.own _=>∃o,h.get? a=some o
 |.xd fs=>∃mA,h.Ns1 a mA/\∀f,G3 (fs.lookup f) (mA f)
 |.fY lo hi=>∃t u v,h.get? a=some { cls:=.type "range",data:=.fields #[.int lo t,.int hi u,.int 1 v]}
 |.bO o u=>h.get? a=some o/\fc H h a u
 |.rV ps=>h.get? a=some { cls:=.none,data:=.fields ps }
 |.met f x=>h.get? a=some (PySem.W.methodObj (.ref f) (.ref x))
 |.ext φ=>φ h/\(∃o,h.get? a=some o)/\∀h1 h2:Heap,φ h1->(∀o,h1.get? a=some o->h2.get? a=some o)->φ h2
noncomputable def fy(H:Hp)(h:Heap):Prop:=∀a o,H a=some o->fc P w H h a o
end
section
variable{P:Program}{w:World}{H H':Hp}{h h':Heap}{a:Addr}{o:HO}
theorem fc.lt(x:fc P w H h a o):a<h.objs.size:=by
 cases o with
 |lst xs=>obtain⟨_,_,_,_,e⟩:=x;exact RH e
 |tup xs=>obtain⟨_,_,_,p⟩:=x;exact p.lt
 |dK kvs=>obtain⟨_,_,_,_,o,_,_,e,_⟩:=x;exact RH e
 |dT kvs=>obtain⟨_,_,_,_,o,_,_,e,_⟩:=x;exact RH e
 |set S n=>obtain⟨o,_,_,_,e,_⟩:=x;exact RH e
 |ins C dx fs=>obtain⟨_,_,_,e,_⟩:=x;exact RH e
 |own y=>obtain⟨_,e⟩:=x;exact RH e
 |xd fs=>obtain⟨_,⟨_,_,_,e,_⟩,_⟩:=x;exact RH e
 |fY lo hi=>obtain⟨_,_,_,e⟩:=x;exact RH e
 |bO ob u=>obtain⟨e,_⟩:=x;exact RH e
 |rV ps=>exact RH (show h.get? a=some _ from x)
 |met f y=>exact RH (show h.get? a=some _ from x)
 |ext φ=>obtain⟨_,⟨_,e⟩,_⟩:=x;exact RH e
theorem Paired.G4{α β:Type}{F G:α->β->Prop}:∀{l₁:List α}{l₂:List β},Paired F l₁ l₂->(∀a b,F a b->G a b)->Paired G l₁ l₂
 |_,_,.nil,_=>.nil
 |_,_,.cons r t,f=>.cons (f _ _ r) (Paired.G4 t f)
def fc.stay(x:fc P w H h a o)(k:∀b u,(b=a\/H b=some (.own a))->h.get? b=some u->h'.get? b=some u)
  (ho:∀b,H b=some (.own a)->H' b=some (.own a)) (ht:∀b xs,H b=some (.tup xs)->H' b=some (.tup xs)):fc P w H' h' a o:=by
 induction o with
 |lst xs=>obtain⟨z,its,n,r,e⟩:=x;exact⟨z,its,n,r,k _ _ (.inl rfl) e⟩
 |tup xs=>obtain⟨z,its,r,ob,e,c⟩:=x;exact⟨z,its,r,ob,k _ _ (.inl rfl) e,c⟩
 |dK kvs=>obtain⟨z,y,vs,r,ob,es,ep,e,c⟩:=x;exact⟨z,y,vs,r,ob,es,ep,k _ _ (.inl rfl) e,c⟩
 |dT kvs=>
  obtain⟨z,y,xs,r,ob,es,ep,e,c⟩:=x;exact⟨z,y,xs,Paired.G4 r λp q z=>⟨z.1,ht _ _ z.2.1,z.2.2⟩,ob,es,ep,k _ _ (.inl rfl) e,c⟩
 |set S n=>obtain⟨ob,es,ep,t,e,c⟩:=x;exact⟨ob,es,ep,t,k _ _ (.inl rfl) e,c⟩
 |ins C dx fs=>
  obtain⟨d,z,ne,e,mA,⟨od,es,ep,e2,c⟩,r⟩:=x;exact⟨ho _ d,z,ne,k _ _ (.inl rfl) e,mA,⟨od,es,ep,k _ _ (.inr d) e2,c⟩,r⟩
 |own y=>obtain⟨ob,e⟩:=x;exact⟨ob,k _ _ (.inl rfl) e⟩
 |xd fs=>obtain⟨mA,⟨od,es,ep,e,c⟩,r⟩:=x;exact⟨mA,⟨od,es,ep,k _ _ (.inl rfl) e,c⟩,r⟩
 |fY lo hi=>obtain⟨t,u,v,e⟩:=x;exact⟨t,u,v,k _ _ (.inl rfl) e⟩
 |bO ob u ih=>obtain⟨e,q⟩:=x;exact⟨k _ _ (.inl rfl) e,ih q⟩
 |rV ps=>
  have e:h.get? a=some { cls:=.none,data:=.fields ps }:=x;show h'.get? a=some { cls:=.none,data:=.fields ps };exact k a _ (.inl rfl) e
 |met f y=>
  have e:h.get? a=some (PySem.W.methodObj (.ref f) (.ref y)):=x;show h'.get? a=some (PySem.W.methodObj (.ref f) (.ref y));exact k a _ (.inl rfl) e
 |ext φ=>obtain⟨p,⟨o,e⟩,st⟩:=x;exact⟨st _ _ p λo q=>k _ _ (.inl rfl) q,⟨o,k _ _ (.inl rfl) e⟩,st⟩
theorem fy.lt(x:fy P w H h)(e:H a=some o):a<h.objs.size:=(x a o e).lt
def fy.fresh(x:fy P w H h)(e:h.objs.size<=a):H a=none:=by
 cases q:H a with
 |none=>rfl
 |some u=>exact absurd (MC (x.lt q) e) (Wg _)
def fy.kept(x:fy P w H h)(k:∀b u,h.get? b=some u->h'.get? b=some u):fy P w H h':=λa o e=>
 (x a o e).stay (λb u _ q=>k b u q) (λ_ q=>q) λ_ _ q=>q
def fy.laid(x:fy P w H h)(k:∀b u,h.get? b=some u->h'.get? b=some u)(hp:h.objs.size<=a)(new:fc P w (upd H a o) h' a o):fy P w (upd H a o) h':=λb u e=>by
 have hn:=x.fresh hp;by_cases hb:b=a
 .subst hb;rw[eN]at e;cases e;exact new
 .rw[bw hb]at e;exact(x b u e).stay (λc v _ q=>k c v q) (λc q=>by rw[bw (bS q hn)];exact q) λc xs q=>by rw[bw (bS q hn)];exact q
end
noncomputable def Rd(H:Hp)(a:Addr)(u:HO):Prop:=H a=some u\/∃o,H a=some (.bO o u)
def Rd.ok{P:Program}{w:World}{H:Hp}{h:Heap}{a:Addr}{u:HO}(r:Rd H a u)(x:fy P w H h):fc P w H h a u:=by
 rcases r with r|⟨o,r⟩
 .exact x a u r
 .obtain⟨_,q⟩:=x a _ r;exact q
noncomputable def Dw:Option HO->Prop
 |some (.lst _)=>True
 |some (.dK _)=>True
 |some (.dT _)=>True
 |some (.set _ _)=>True
 |some (.ins _ _ _)=>True
 |some (.ext _)=>True
 |_=>False
section
variable{P:Program}{w:World}{H:Hp}{h h':Heap}{x e:Addr}{o':HO}
def fy.write(ok:fy P w H h)(mu:Dw (H x))(he:e=x\/H e=some (.own x))(k:∀b u,b≠e->h.get? b=some u->h'.get? b=some u)(uY:∃u,h'.get? e=some u)
  (new:fc P w (upd H x o') h' x o'):fy P w (upd H x o') h':=λb u q=>by
 have G5:∀c y,H c=some (.own y)->c≠x:=λc y r z=>by subst z;rw[r]at mu;exact mu
 have QE:∀c xs,H c=some (.tup xs)->c≠x:=λc xs r z=>by subst z;rw[r]at mu;exact mu
 by_cases hb:b=x
 .subst hb;rw[eN]at q;cases q;exact new
 .rw[bw hb]at q;by_cases rW:b=e
  .have q':H b=some (.own x):=by
    rcases he with z|z
    .exact absurd (rW.trans z) hb
    .rw[rW];exact z
   rw[q]at q';cases q';obtain⟨v,hv⟩:=uY;exact⟨v,by rw[rW];exact hv⟩
  .refine(ok b u q).stay (λc v hc r=>k c v ?_ r) (λc r=>by rw[bw (G5 c b r)];exact r) λc xs r=>by rw[bw (QE c xs r)];exact r
   rcases hc with rfl|hc
   .exact rW
   .rintro rfl;rcases he with z|z
    .exact G5 c b hc z
    .rw[hc]at z;cases z;exact hb rfl
end
structure Un(fs ex:List Addr)(H H':Hp)(h h':Heap):Prop where
 keep:∀b o,h.get? b=some o->H b=none->b∉fs->b∉ex->h'.get? b=some o
 slot:∀b o,h.get? b=some o->H b=none->b∈fs->b∉ex->∃sl,h'.get? b=some { o with slots:=sl }
 free:∀b o,h.get? b=some o->H b=none->b∉ex->H' b=none
 there:∀b o,h.get? b=some o->b∉ex->∃o',h'.get? b=some o'
 tups:∀b xs,H b=some (.tup xs)->H' b=some (.tup xs)
 j7:∀b o u,H b=some (.bO o u)->H' b=some (.bO o u)
 kT:∀b ps,H b=some (.rV ps)->∃more,H' b=some (.rV (ps++more))
section
variable{fs ex:List Addr}{H H1:Hp}{h h1 h':Heap}{a x e:Addr}{o:HO}
def Un.any(u:Un fs ex H H1 h h1){b:Addr}{ob:Obj}(q:h.get? b=some ob)(n:H b=none)(hx:b∉ex):∃sl,h1.get? b=some { ob with slots:=sl }:=by
 by_cases hb:b∈fs
 .exact u.slot b ob q n hb hx
 .exact⟨ob.slots,u.keep b ob q n hb hx⟩
def Un.kept(k:∀b u,h.get? b=some u->h'.get? b=some u):Un fs ex H H h h':=
 ⟨λb ob q _ _ _=>k b ob q,λb ob q _ _ _=>⟨ob.slots,k b ob q⟩,λ_ _ _ n _=>n,λb ob q _=>⟨ob,k b ob q⟩,λ_ _ q=>q,λ_ _ _ q=>q,λ_ ps q=>⟨#[],by rw[q];simp⟩⟩
def Un.refl:Un fs ex H H h h:=Un.kept λ_ _ q=>q
def Un.laid(k:∀b u,h.get? b=some u->h'.get? b=some u)(hp:h.objs.size<=a)(hn:H a=none):Un fs ex H (upd H a o) h h' where
 keep:=λb u q _ _ _=>k b u q
 slot:=λb u q _ _ _=>⟨u.slots,k b u q⟩
 free:=λb u q n _=>by rw[bw (V7 (MC (RH q) hp))];exact n
 there:=λb u q _=>⟨u,k b u q⟩
 tups:=λb xs q=>by rw[bw (bS q hn)];exact q
 j7:=λb u xs q=>by rw[bw (bS q hn)];exact q
 kT:=λb ps q=>⟨#[],by rw[bw (bS q hn),q];simp⟩
def Un.write(mu:Dw (H x))(he:e=x\/H e=some (.own x))(k:∀b u,b≠e->h.get? b=some u->h'.get? b=some u)(uY:∃u,h'.get? e=some u):Un fs ex H (upd H x o) h h':=by
 have hx:∀b,H b=none->b≠x:=λb n z=>by subst z;rw[n]at mu;exact mu
 have hb:∀b,H b=none->b≠e:=λb n z=>by
  subst z;rcases he with r|r
  .exact hx b n r
  .rw[n]at r;cases r
 have hm:∀b u,H b=some u->¬ Dw (some u)->b≠x:=λb u q nm z=>by subst z;rw[q]at mu;exact nm mu
 refine⟨λb u q n _ _=>k b u (hb b n) q,λb u q n _ _=>⟨u.slots,k b u (hb b n) q⟩,λb u q n _=>by rw[bw (hx b n)];exact n,λb u q _=>?_,
  λb xs q=>by rw[bw (hm b _ q λz=>z)];exact q,λb u xs q=>by rw[bw (hm b _ q λz=>z)];exact q,λb ps q=>⟨#[],by rw[bw (hm b _ q λz=>z),q];simp⟩⟩
 by_cases rW:b=e
 .subst rW;exact uY
 .exact⟨u,k b u rW q⟩
end
noncomputable def Dy(h:Heap)(H:Hp):List Addr:=(List.range h.objs.size).filter λa=>(H a).isSome
noncomputable def j8(h:Heap)(H:Hp):Heap:=PySem.W.hideAll h (Dy h H)
def yG(h:Heap)(H:Hp):(j8 h H).objs.size=h.objs.size:=PySem.W.hideAll_size _ _
def Bc{h:Heap}{H:Hp}{b:Addr}{o:Obj}(e:h.get? b=some o)(n:H b=none):(j8 h H).get? b=some o:=
 PySem.W.hideAll_get _ e λhm=>by
  have q:(H b).isSome=true:=(List.mem_filter.mp hm).2;rw[n]at q;simp at q
def Ey{h:Heap}{H:Hp}{b:Addr}{o:Obj}(e:(j8 h H).get? b=some o):h.get? b=some o/\H b=none:=by
 have e':h.get? b=some o:=PySem.W.of_hideAll (Dy h H) e;refine⟨e',?_⟩;cases q:H b with
 |none=>rfl
 |some x=>
  have hm:b∈Dy h H:=List.mem_filter.mpr ⟨List.mem_range.mpr (RH e'),by simp[q]⟩;have z:(j8 h H).get? b=none:=PySem.W.hideAll_none (Dy h H) hm;rw[z]at e;cases e
noncomputable def Ez(g h:Heap)(L:Addr):List (Addr×Obj):=(List.range h.objs.size).filterMap λa=>if a=L\/(g.get? a).isSome=true then none else (h.get? a).map λo=>(a,o)
noncomputable def rest(g h:Heap)(L d:Addr):List (Addr×Obj):=(Ez g h L).filter λp=>decide (p.1≠d)
structure Mod(K:PySem.W.Frag)(mg:Str->Option Value)(base:Heap):Prop where
 Dz:K.In base
 glob:base.Ns mainGlobals mg
 blt:∃mb,base.Ns builtinsNs mb/\∀x:Str,x≠"__name__" ->mb x=bootBuiltins x
 nolimit:base.NoLimit
structure Cx where
 prog:Program
 w:World
 K:PySem.W.Frag
 mg:Str->Option Value
 base:Heap
 A:Around
 N:List Str
 s₀:Shared
 H₀:Hp
 env:Env
 outer:List Env
 stack:List Env
 ex:List Addr
 fn:Str->Bool
 calm:Bool
 pn:List (Addr×Obj)
 xe:Value->Shared->Prop
noncomputable def frs(l:List Env):List Addr:=l.filterMap (·.frame)
noncomputable abbrev Cx.fs(X:Cx):List Addr:=frs X.outer
noncomputable def yH(sc:Scope)(x:Str):Prop:=sc.names.lookup x=some .local\/sc.names.lookup x=some .cell\/sc.names.lookup x=some .free
noncomputable def Loc(sc:Scope)(x:Str):Prop:=sc.names.lookup x=some .local\/sc.names.lookup x=some .cell
noncomputable def Look(env:Env)(h:Heap)(m:Str->Option Value)(x:Str)(u:Value):Prop:=
 (env.kindOf x=some .local/\m x=some u)\/((env.kindOf x=some .cell\/env.kindOf x=some .free)/\∃c,env.cells.lookup x=some c/\h.IsCell c (some u))
structure Cx.Ok(X:Cx):Prop where
 mod:Mod X.K X.mg X.base
 kind:X.env.scope.kind=.function
 glob:X.env.globals=mainGlobals
 blt:X.env.builtins=builtinsNs
 above:X.s₀.heap.objs.size<=X.env.locals
 inj:∀x y c,X.env.cells.lookup x=some c->X.env.cells.lookup y=some c->x=y
 has:∀x,(X.env.kindOf x=some .cell\/X.env.kindOf x=some .free)->∃c,X.env.cells.lookup x=some c
 uZ:∀x c,X.fn x=true->X.env.cells.lookup x=some c->X.s₀.heap.objs.size<=c
 hd:X.calm=true->X.A.handled=none
 frames:X.A.frames=some X.stack
 stk:X.stack=X.outer\/(X.stack=X.env :: X.outer/\X.env.frame=some X.env.locals)
 DA:∀b∈X.ex,b≠X.env.locals/\∀x c,X.env.cells.lookup x=some c->c≠b
 bs:∀b o,X.base.get? b=some o->X.s₀.heap.get? b=some o/\X.H₀ b=none
 qE:X.base.objs.size<=X.s₀.heap.objs.size
 pK:∀b o,X.base.get? b=some o->b∉X.ex
 pL:∀b∈X.ex,b∉X.fs
 iN:X.s₀.heap.FunFrames X.base X.outer
 rX:∀b∈X.fs,X.H₀ b=none
structure Inv(X:Cx)(pins:List (Addr×Obj))(σ:List (Option V))(H:Hp)(s:Shared):Prop where
 ok:X.Ok
 os:s.os=X.s₀.os
 bare:AllBare s.gens
 base:Un X.fs X.ex X.H₀ H X.s₀.heap s.heap
 loc:∃m,s.heap.Ns X.env.locals m/\∀(i:Nat) (x:Str) (v:V),X.N[i]?=some x->σ[i]?=some (some v)->yH X.env.scope x->∃u,RelV v u/\Look X.env s.heap m x u
 cell:∀x c,X.env.cells.lookup x=some c->∃v,s.heap.IsCell c v
 free:H X.env.locals=none
 iB:∀x c,X.env.cells.lookup x=some c->H c=none
 pin:∀p∈X.pn++pins,s.heap.get? p.1=some p.2/\H p.1=none/\p.1≠X.env.locals/\p.1∉X.fs/\∀v,p.2.data≠.cell v
 hok:fy X.prog X.w H s.heap
 len:σ.length=X.N.length
section
variable{X:Cx}{pins:List (Addr×Obj)}{σ:List (Option V)}{H H':Hp}{s:Shared}{h':Heap}
def Cx.Ok.QF(ok:X.Ok){b:Addr}{o:Obj}(e:X.base.get? b=some o):b∉X.fs:=λhb=>by
 have:=(ok.iN.mem hb).1;rw[e]at this;cases this
theorem Inv.bs(I:Inv X pins σ H s):∀b o,X.base.get? b=some o->s.heap.get? b=some o/\H b=none:=λb o e=>
 ⟨I.base.keep b o (I.ok.bs b o e).1 (I.ok.bs b o e).2 (I.ok.QF e) (I.ok.pK b o e),I.base.free b o (I.ok.bs b o e).1 (I.ok.bs b o e).2 (I.ok.pK b o e)⟩
def Inv.bk(I:Inv X pins σ H s):∀b o,X.base.get? b=some o->s.heap.get? b=some o:=λb o e=>(I.bs b o e).1
theorem Inv.mod(I:Inv X pins σ H s):Mod X.K X.mg X.base:=I.ok.mod
def Inv.qF(I:Inv X pins σ H s):X.K.In s.heap:=I.ok.mod.Dz.keeps I.bk
theorem Inv.lt(I:Inv X pins σ H s):X.env.locals<s.heap.objs.size:=let ⟨_,hn,_⟩:=I.loc;hn.lt
def Inv.sz(I:Inv X pins σ H s):X.s₀.heap.objs.size<=s.heap.objs.size:=V0 I.ok.above (Za I.lt)
def Inv.QG(I:Inv X pins σ H s){a:Addr}(h:s.heap.objs.size<=a):a∉X.fs:=λhb=>by
 obtain⟨_,o,ho,_⟩:=I.ok.iN.mem hb;exact absurd (MC (RH ho) (V0 I.sz h)) (Wg _)
def Inv.rY(I:Inv X pins σ H s):∀x c,X.env.cells.lookup x=some c->c≠X.env.locals:=λx c e z=>by
 obtain⟨v,o,ho,hd⟩:=I.cell x c e;obtain⟨m,⟨o',es,ep,ho',hd',_⟩,_⟩:=I.loc;rw[z,ho']at ho;cases ho;rw[hd']at hd;cases hd
theorem Inv.iN(I:Inv X pins σ H s):s.heap.FunFrames X.base X.outer:=by
 have all:∀(l:List Env),(∀b∈frs l,b∈X.fs)->X.s₀.heap.FunFrames X.base l->s.heap.FunFrames X.base l:=by
  intro l;induction l with
  |nil=>intro _ _;trivial
  |cons env r ih=>
   intro hs hl;obtain⟨hk,⟨L,o,hf,hn,ho,hd⟩,hr⟩:=hl;have hL:L∈X.fs:=hs L (by unfold frs;rw[WB,hf];exact Wq);obtain⟨sl,e⟩:=I.base.slot L o ho (I.ok.rX L hL) hL λz=>I.ok.pL L z hL;exact⟨hk,⟨L,_,hf,hn,e,hd⟩,ih (λb hb=>hs b (by unfold frs;rw[WB,hf];exact VY _ hb)) hr⟩
 exact all X.outer (λ_ hb=>hb) I.ok.iN
theorem Inv.stack(I:Inv X pins σ H s):s.heap.FunFrames X.base X.stack:=by
 rcases I.ok.stk with e|⟨e,hf⟩
 .rw[e];exact I.iN
 .rw[e];obtain⟨m,hn,_⟩:=I.loc;refine .cons (by rw[I.ok.kind];decide) hf hn ?_ I.iN;exact Heap.get?_none_of_le (V0 I.ok.qE I.ok.above)
def Inv.rZ(I:Inv X pins σ H s):∀b∈frs X.stack,b∈X.env.locals :: X.fs:=λb hb=>by
 rcases I.ok.stk with e|⟨e,hf⟩
 .rw[e]at hb;exact VY _ hb
 .rw[e]at hb;unfold frs at hb;rw[WB,hf]at hb;exact hb
def Inv.u5(I:Inv X pins σ H s):∀b∈frs X.stack,H b=none:=λb hb=>by
 rcases List.mem_cons.mp (I.rZ b hb)with e|hb
 .rw[e];exact I.free
 .obtain⟨_,o,ho,_⟩:=I.ok.iN.mem hb;exact I.base.free b o ho (I.ok.rX b hb) λz=>I.ok.pL b z hb
def Inv.step{g':Array GenState}{t':Nat}{d':Drawn}{ch:List Addr}(I:Inv X pins σ H s)
  (hch:∀b∈ch,(b∈X.ex\/X.s₀.heap.objs.size<=b)/\b≠X.env.locals/\(∀x c,X.env.cells.lookup x=some c->c≠b)/\∀p∈X.pn++pins,p.1≠b)
  (keep:∀b o,b≠X.env.locals->b∉X.fs->b∉ch->s.heap.get? b=some o->H b=none->h'.get? b=some o)
  (slot:∀b o,b≠X.env.locals->b∈X.fs->b∉ch->s.heap.get? b=some o->H b=none->∃sl,h'.get? b=some { o with slots:=sl }) (free:∀b o,b∉ch->s.heap.get? b=some o->H b=none->H' b=none)
  (there:∀b o,b∉ch->s.heap.get? b=some o->∃o',h'.get? b=some o')
  (tups:∀b xs,H b=some (.tup xs)->H' b=some (.tup xs)) (j7:∀b o u,H b=some (.bO o u)->H' b=some (.bO o u)) (kT:∀b ps,H b=some (.rV ps)->∃more,H' b=some (.rV (ps++more)))
  (ns:∀m,s.heap.Ns X.env.locals m->h'.Ns X.env.locals m) (hok:fy X.prog X.w H' h') (hg:AllBare g') :
  Inv X pins σ H' { s with heap:=h',gens:=g',drawn:=d',toks:=t' }:=by
 have Pc:∀b o,X.s₀.heap.get? b=some o->b≠X.env.locals:=λb o e=>V7 (MC (RH e) I.ok.above);have DB:∀b o,X.s₀.heap.get? b=some o->b∉X.ex->b∉ch:=λb o e hx hb=>by
  rcases(hch b hb).1 with z|z
  .exact hx z
  .exact absurd (MC (RH e) z) (Wg _)
 have cellK:∀x c,X.env.cells.lookup x=some c->∀v,s.heap.IsCell c v->h'.IsCell c v:=λx c e v ⟨o,ho,hd⟩=>by
  have yI:c∉ch:=λz=>(hch c z).2.2.1 x c e rfl;by_cases hc:c∈X.fs
  .obtain⟨sl,q⟩:=slot c o (I.rY x c e) hc yI ho (I.iB x c e);exact⟨_,q,hd⟩
  .exact⟨o,keep c o (I.rY x c e) hc yI ho (I.iB x c e),hd⟩
 refine⟨I.ok,I.os,hg,⟨λb o e n hb hx=>?_,λb o e n hb hx=>?_,λb o e n hx=>?_,λb o e hx=>?_,λb xs e=>tups b xs (I.base.tups b xs e),λb o xs e=>j7 b o xs (I.base.j7 b o xs e),λb ps e=>?_⟩,?_,λx c e=>?_,?_,λx c e=>?_,λp hp=>?_,hok,I.len⟩
 .exact keep b o (Pc b o e) hb (DB b o e hx) (I.base.keep b o e n hb hx) (I.base.free b o e n hx)
 .obtain⟨sl,e1⟩:=I.base.slot b o e n hb hx;obtain⟨Sy,e2⟩:=slot b _ (Pc b o e) hb (DB b o e hx) e1 (I.base.free b o e n hx);exact⟨Sy,e2⟩
 .obtain⟨o',e1⟩:=I.base.there b o e hx;exact free b o' (DB b o e hx) e1 (I.base.free b o e n hx)
 .obtain⟨o',e1⟩:=I.base.there b o e hx;exact there b o' (DB b o e hx) e1
 .obtain⟨m1,e1⟩:=I.base.kT b ps e;obtain⟨m2,e2⟩:=kT b _ e1;exact⟨m1++m2,by rw[e2,Array.append_assoc]⟩
 .obtain⟨m,hn,hl⟩:=I.loc;refine⟨m,ns m hn,λi x v e1 e2 e3=>?_⟩;obtain⟨u,r,l⟩:=hl i x v e1 e2 e3;refine⟨u,r,?_⟩;rcases l with l|⟨k,c,e,z⟩
  .exact .inl l
  .exact .inr ⟨k,c,e,cellK x c e _ z⟩
 .obtain⟨v,z⟩:=I.cell x c e;exact⟨v,cellK x c e v z⟩
 .obtain⟨m,⟨o,_,_,ho,_⟩,_⟩:=I.loc;exact free _ o (λz=>(hch _ z).2.1 rfl) ho I.free
 .obtain⟨v,o,ho,hd⟩:=I.cell x c e;exact free c o (λz=>(hch c z).2.2.1 x c e rfl) ho (I.iB x c e)
 .obtain⟨e,n,ne,nf,d⟩:=I.pin p hp;have yI:p.1∉ch:=λz=>(hch p.1 z).2.2.2 p hp rfl;exact⟨keep p.1 p.2 ne nf yI e n,free p.1 p.2 yI e n,ne,nf,d⟩
def Inv.un{t':Nat}(I:Inv X pins σ H s)(u:Un X.fs [] H H' s.heap h')(hok:fy X.prog X.w H' h'):Inv X pins σ H' { s with heap:=h',toks:=t' }:=by
 obtain⟨m,⟨o,es,ep,ho,r⟩,_⟩:=id I.loc;obtain⟨sl,hL⟩:=u.any ho I.free (by simp);exact I.step (g':=s.gens) (d':=s.drawn) (ch:=[]) (λ_ z=>nomatch z) (λb o _ hb _ e n=>u.keep b o e n hb (by simp)) (λb o _ hb _ e n=>u.slot b o e n hb (by simp)) (λb o _ e n=>u.free b o e n (by simp)) (λb o _ e=>u.there b o e (by simp)) u.tups u.j7 u.kT (λm' hm=>by
  obtain⟨o',es',G6,ho',r'⟩:=hm;rw[ho]at ho';cases ho';exact⟨_,es',G6,hL,r'⟩) hok I.bare
def Inv.call{g':Array GenState}{t':Nat}{d':Drawn}{ch:List Addr}(I:Inv X pins σ H s)(u:Un (frs X.stack) ch H H' s.heap h')(hok:fy X.prog X.w H' h')(hg:AllBare g')
  (hch:∀b∈ch,(b∈X.ex\/X.s₀.heap.objs.size<=b)/\b≠X.env.locals/\(∀x c,X.env.cells.lookup x=some c->c≠b)/\∀p∈X.pn++pins,p.1≠b) :
  Inv X pins σ H' { s with heap:=h',gens:=g',drawn:=d',toks:=t' }:=by
 obtain⟨m,⟨o,es,ep,ho,r⟩,_⟩:=id I.loc;obtain⟨sl,hL⟩:=u.any ho I.free λz=>(hch _ z).2.1 rfl;exact I.step (ch:=ch) hch (λb o hL hb hc e n=>u.keep b o e n (λz=>(List.mem_cons.mp (I.rZ b z)).elim hL hb) hc) (λb o _ _ hc e n=>u.any e n hc) (λb o hc e n=>u.free b o e n hc) (λb o hc e=>u.there b o e hc) u.tups u.j7 u.kT (λm' hm=>by
  obtain⟨o',es',G6,ho',r'⟩:=hm;rw[ho]at ho';cases ho';exact⟨_,es',G6,hL,r'⟩) hok hg
def Inv.turned{t':Nat}{it:Addr}(I:Inv X pins σ H s)(k:∀b o,b≠it->s.heap.get? b=some o->h'.get? b=some o)(hn:H it=none)(hL:it≠X.env.locals)
  (h1:it∈X.ex\/X.s₀.heap.objs.size<=it) (h2:∀x c,X.env.cells.lookup x=some c->c≠it) (h3:∀p∈X.pn++pins,p.1≠it):Inv X pins σ H { s with heap:=h',toks:=t' }:=by
 have yJ:∀b u,H b=some u->b≠it:=λb u e z=>by rw[z,hn]at e;cases e
 refine I.step (g':=s.gens) (d':=s.drawn) (ch:=[it]) (λb hb=>?_) (λb o _ _ hc e _=>k b o (λz=>hc (by simp[z])) e) (λb o _ _ hc e _=>⟨o.slots,k b o (λz=>hc (by simp[z])) e⟩) (λ_ _ _ _ n=>n)
  (λb o hc e=>⟨o,k b o (λz=>hc (by simp[z])) e⟩) (λ_ _ e=>e) (λ_ _ _ e=>e) (λb ps e=>⟨#[],by rw[e];simp⟩) (λm hm=>?_) (λb u e=>?_) I.bare
 .have e:b=it:=by simpa using hb
  subst e;exact⟨h1,hL,h2,h3⟩
 .obtain⟨o,es,ep,ho,r⟩:=hm;exact⟨o,es,ep,k _ o (WZ hL) ho,r⟩
 .refine(I.hok b u e).stay (λc v hc q=>k c v ?_ q) (λ_ q=>q) λ_ _ q=>q;rcases hc with z|z
  .rw[z];exact yJ b u e
  .exact yJ c _ z
def Inv.tok(I:Inv X pins σ H s)(t:Nat):Inv X pins σ H { s with toks:=t }:=I.un (h':=s.heap) (t':=t) Un.refl I.hok
theorem Inv.kept{t':Nat}(I:Inv X pins σ H s)(k:∀b u,s.heap.get? b=some u->h'.get? b=some u):Inv X pins σ H { s with heap:=h',toks:=t' }:=I.un (Un.kept k) (I.hok.kept k)
theorem Inv.laid{a:Addr}{o:HO}{t':Nat}(I:Inv X pins σ H s)(k:∀b u,s.heap.get? b=some u->h'.get? b=some u)(hp:s.heap.objs.size<=a)(new:fc X.prog X.w (upd H a o) h' a o) :
  Inv X pins σ (upd H a o) { s with heap:=h',toks:=t' }:=I.un (Un.laid k hp (I.hok.fresh hp)) (I.hok.laid k hp new)
theorem Inv.write{x e:Addr}{o:HO}{t':Nat}(I:Inv X pins σ H s)(mu:Dw (H x))(he:e=x\/H e=some (.own x))(k:∀b u,b≠e->s.heap.get? b=some u->h'.get? b=some u)(uY:∃u,h'.get? e=some u)
  (new:fc X.prog X.w (upd H x o) h' x o):Inv X pins σ (upd H x o) { s with heap:=h',toks:=t' }:=I.un (Un.write mu he k uY) (I.hok.write mu he k uY new)
def Inv.u6{DC:List (Addr×Obj)}(I:Inv X pins σ H s)(h:∀p∈DC,s.heap.get? p.1=some p.2/\H p.1=none/\p.1≠X.env.locals/\p.1∉X.fs/\∀v,p.2.data≠.cell v):Inv X DC σ H s:=
 ⟨I.ok,I.os,I.bare,I.base,I.loc,I.cell,I.free,I.iB,λp hp=>(List.mem_append.mp hp).elim (λz=>I.pin p (YX _ z)) (h p),I.hok,I.len⟩
def r8{N:List Str}(hN:N.Nodup){i j:Nat}{x:Str}(a:N[i]?=some x)(b:N[j]?=some x):i=j:=by
 obtain⟨h1,e1⟩:=List.getElem?_eq_some_iff.mp a;obtain⟨h2,e2⟩:=List.getElem?_eq_some_iff.mp b;exact(Zt hN).mp (e1.trans e2.symm)
def yK{M:Model}{A:Around}{E:Value->Shared->Prop}{i:Nat}{x:Str}{v:V}{u:Value}{Q:Unit->Shared->Prop}(I:Inv X pins σ H s)(hN:X.N.Nodup)(hi:X.N[i]?=some x)(hx:Loc X.env.scope x)(r:RelV v u)
  (h:∀s',Inv X pins (σ.set i (some v)) H s'->(∃a,Heap.SameBut a s.heap s'.heap/\(a=X.env.locals\/X.env.cells.lookup x=some a))->Q () s') (hf:X.fn x=true\/X.env.scope.names.lookup x=some .local:=by first|exact .inl rfl|exact .inr rfl|assumption):wpAny M A (storeName X.env x u) Q E s:=by
 obtain⟨m,hn,hl⟩:=id I.loc;have hcls:(X.env.scope.kind==.class || (X.env.scope.kind==.module&&X.env.locals != X.env.globals))=false:=by rw[I.ok.kind];rfl
 have G7:i<σ.length:=by rw[I.len];exact(List.getElem?_eq_some_iff.mp hi).1
 have rY:=I.rY;have tracked:∀{a:Addr} {h':Heap},(∃o,s.heap.get? a=some o/\H a=none)->Heap.SameBut a s.heap h'->fy X.prog X.w H h':=λ{a h'} ha hs b ob e=>by
  obtain⟨_,_,hfree⟩:=ha;refine(I.hok b ob e).stay (λc w' hc q=>(hs.2 c ?_).trans q) (λ_ q=>q) λ_ _ q=>q;rintro rfl;rcases hc with rfl|hc
  .rw[hfree]at e;cases e
  .rw[hfree]at hc;cases hc
 rcases hx with hk|hk
 .refine wpAny_storeName_local hk hn (λh' hn' hs=>?_) hcls;obtain⟨oL,_,_,Sz,_⟩:=id hn;refine h _ ⟨I.ok,I.os,I.bare,⟨λb o e n hb hx=>?_,λb o e n hb hx=>?_,I.base.free,λb o e hx=>?_,I.base.tups,I.base.j7,I.base.kT⟩,⟨_,hn',λj y v' e1 e2 e3=>?_⟩,λy c e=>?_,I.free,I.iB,λp hp=>?_,tracked ⟨oL,Sz,I.free⟩ hs,by simpa using I.len⟩ ⟨_,hs,.inl rfl⟩
  .exact(hs.2 b (V7 (MC (RH e) I.ok.above))).trans (I.base.keep b o e n hb hx)
  .obtain⟨sl,e1⟩:=I.base.slot b o e n hb hx;exact⟨sl,(hs.2 b (V7 (MC (RH e) I.ok.above))).trans e1⟩
  .obtain⟨o',e1⟩:=I.base.there b o e hx;exact⟨o',(hs.2 b (V7 (MC (RH e) I.ok.above))).trans e1⟩
  .by_cases hj:j=i
   .subst hj;rw[hi]at e1;cases e1;rw[VV G7]at e2;cases e2;exact⟨u,r,.inl ⟨hk,by simp⟩⟩
   .rw[PZ (WZ hj)]at e2;obtain⟨u',r',q⟩:=hl j y v' e1 e2 e3;refine⟨u',r',?_⟩;rcases q with ⟨k,e⟩|⟨k,c,e,z⟩
    .refine .inl ⟨k,?_⟩;have:y≠x:=λe=>hj (r8 hN e1 (e▸hi));simp[this,e]
    .exact .inr ⟨k,c,e,z.sameBut hs (rY y c e)⟩
  .obtain⟨w',z⟩:=I.cell y c e;exact⟨w',z.sameBut hs (rY y c e)⟩
  .obtain⟨e,n,ne,nf,d⟩:=I.pin p hp;exact⟨(hs.2 p.1 ne).trans e,n,ne,nf,d⟩
 .have hfn:X.fn x=true:=by
   rcases hf with z|z
   .exact z
   .rw[z]at hk;cases hk
  obtain⟨c,hc⟩:=I.ok.has x (.inl hk);obtain⟨w',z⟩:=I.cell x c hc;refine wpAny_storeName_cell I.ok.kind hk hc z (λh' hc' hs=>?_);obtain⟨oc,hoc,QH⟩:=id z;refine h { s with heap:=h' } ⟨I.ok,I.os,I.bare,⟨λb o e n hb hx=>?_,λb o e n hb hx=>?_,I.base.free,λb o e hx=>?_,I.base.tups,I.base.j7,I.base.kT⟩,⟨m,hn.sameBut hs (WZ (rY x c hc)),λj y v' e1 e2 e3=>?_⟩,λy c' e=>?_,I.free,I.iB,λp hp=>?_,tracked ⟨oc,hoc,I.iB x c hc⟩ hs,by simpa using I.len⟩ ⟨c,hs,.inr hc⟩
  .exact(hs.2 b (V7 (MC (RH e) (I.ok.uZ x c hfn hc)))).trans (I.base.keep b o e n hb hx)
  .obtain⟨sl,e1⟩:=I.base.slot b o e n hb hx;exact⟨sl,(hs.2 b (V7 (MC (RH e) (I.ok.uZ x c hfn hc)))).trans e1⟩
  .obtain⟨o',e1⟩:=I.base.there b o e hx;exact⟨o',(hs.2 b (V7 (MC (RH e) (I.ok.uZ x c hfn hc)))).trans e1⟩
  .by_cases hj:j=i
   .subst hj;rw[hi]at e1;cases e1;rw[VV G7]at e2;cases e2;exact⟨u,r,.inr ⟨.inl hk,c,hc,hc'⟩⟩
   .rw[PZ (WZ hj)]at e2;obtain⟨u',r',q⟩:=hl j y v' e1 e2 e3;refine⟨u',r',?_⟩;rcases q with q|⟨k,c',e,z'⟩
    .exact .inl q
    .refine .inr ⟨k,c',e,z'.sameBut hs ?_⟩;rintro rfl;exact hj (r8 hN e1 (I.ok.inj _ _ _ e hc▸hi))
  .by_cases hcc:c'=c
   .subst hcc;exact⟨_,hc'⟩
   .obtain⟨w2,z2⟩:=I.cell y c' e;exact⟨w2,z2.sameBut hs hcc⟩
  .obtain⟨e,n,ne,nf,d⟩:=I.pin p hp;refine⟨(hs.2 p.1 ?_).trans e,n,ne,nf,d⟩;intro q;rw[q,hoc]at e;have q':oc=p.2:=RG e;exact d w' (by rw[<-q'];exact QH)
def sd{M:Model}{A:Around}{E:Value->Shared->Prop}{i:Nat}{x:Str}{v:V}{u:Value}{Q:Unit->Shared->Prop}(I:Inv X pins σ H s)(hN:X.N.Nodup)(hi:X.N[i]?=some x)(hx:Loc X.env.scope x)(r:RelV v u)
  (h:∀s',Inv X pins (σ.set i (some v)) H s'->Q () s') (hf:X.fn x=true\/X.env.scope.names.lookup x=some .local:=by first|exact .inl rfl|exact .inr rfl|assumption):wpAny M A (storeName X.env x u) Q E s:=
 yK I hN hi hx r (λs' I' _=>h s' I') hf
def Inv.MD{s':Shared}{ch:List Addr}(I:Inv X pins σ H s)(ho:s'.os=s.os)(u:Un (frs X.stack) ch H H' s.heap s'.heap)(hok:fy X.prog X.w H' s'.heap)(hg:AllBare s'.gens)
  (hch:∀b∈ch,(b∈X.ex\/X.s₀.heap.objs.size<=b)/\b≠X.env.locals/\(∀x c,X.env.cells.lookup x=some c->c≠b)/\∀p∈X.pn++pins,p.1≠b):Inv X pins σ H' s':=by
 obtain⟨h',g',d',t',o'⟩:=s';have e:o'=s.os:=ho;subst e;exact I.call (g':=g') (t':=t') (d':=d') u hok hg hch
end
abbrev XK:=Value->Option Addr->Hp->Prop
abbrev St:=List (Option V)
abbrev VK:=V->Hp->Prop
abbrev TE:=St->Hp->VK->Prop
abbrev TT:=St->Hp->(Bool->Hp->Prop)->Prop
abbrev TA:=St->Hp->(List V->Hp->Prop)->Prop
structure Ends where
 nx:St->Hp->Prop
 rt:VK
 bk:St->Hp->Prop:=λ_ _=>False
 ct:St->Hp->Prop:=λ_ _=>False
abbrev TS:=Ends->St->Hp->Prop
noncomputable def EP(X:Cx)(pins:List (Addr×Obj))(σ:St)(Q:VK)(u:Value)(s':Shared):Prop:=∃v H',Inv X pins σ H' s'/\RelV v u/\Q v H'
noncomputable def TP(X:Cx)(pins:List (Addr×Obj))(σ:St)(Q:Bool->Hp->Prop)(b:Bool)(s':Shared):Prop:=∃H',Inv X pins σ H' s'/\Q b H'
noncomputable def AP(X:Cx)(pins:List (Addr×Obj))(σ:St)(Q:List V->Hp->Prop)(us:List Value)(s':Shared):Prop:=∃vs H',Inv X pins σ H' s'/\Vals vs us/\Q vs H'
noncomputable def SP(X:Cx)(pins:List (Addr×Obj))(D:Ends)(f:Flow)(s':Shared):Prop:=
 match f with
 |.next=>∃σ' H',Inv X pins σ' H' s'/\D.nx σ' H'
 |.brk=>∃σ' H',Inv X pins σ' H' s'/\D.bk σ' H'
 |.cont=>∃σ' H',Inv X pins σ' H' s'/\D.ct σ' H'
 |.ret u=>∃v σ' H',Inv X pins σ' H' s'/\RelV v u/\D.rt v H'
noncomputable def PE(X:Cx)(e:Expr)(t:TE):Prop:=
 ∀(pins:List (Addr×Obj)) (s:Shared) (σ:St) (H:Hp) (Q:VK),Inv X pins σ H s->t σ H Q->wpAny (model X.prog X.w) X.A (eval e X.env) (EP X pins σ Q) X.xe s
noncomputable def PT(X:Cx)(e:Expr)(t:TT):Prop:=
 ∀(pins:List (Addr×Obj)) (s:Shared) (σ:St) (H:Hp) (Q:Bool->Hp->Prop),Inv X pins σ H s->t σ H Q->wpAny (model X.prog X.w) X.A (isTrue e X.env (eval e X.env)) (TP X pins σ Q) X.xe s
noncomputable def PW(X:Cx)(e:Expr)(t:TT):Prop:=
 ∀(whole:Sem Value) (pins:List (Addr×Obj)) (s:Shared) (σ:St) (H:Hp) (Q:Bool->Hp->Prop),Inv X pins σ H s->t σ H Q->wpAny (model X.prog X.w) X.A (isTrue e X.env whole) (TP X pins σ Q) X.xe s
def PW.pt{X:Cx}{e:Expr}{t:TT}(h:PW X e t):PT X e t:=h _
noncomputable def PA(X:Cx)(es:List Expr)(t:TA):Prop:=
 ∀(pos:Pos) (pins:List (Addr×Obj)) (s:Shared) (σ:St) (H:Hp) (Q:List V->Hp->Prop),Inv X pins σ H s->t σ H Q->wpAny (model X.prog X.w) X.A (spliced (backTo pos (starEach es X.env))) (AP X pins σ Q) X.xe s
noncomputable def PS(X:Cx)(st:Stmt)(t:TS):Prop:=
 ∀(pins:List (Addr×Obj)) (s:Shared) (σ:St) (H:Hp) (D:Ends),Inv X pins σ H s->t D σ H->wpAny (model X.prog X.w) X.A (exec st X.env) (SP X pins D) X.xe s
noncomputable def gY(X:Cx)(st:List Stmt)(t:TS):Prop:=
 ∀(pins:List (Addr×Obj)) (s:Shared) (σ:St) (H:Hp) (D:Ends),Inv X pins σ H s->t D σ H->wpAny (model X.prog X.w) X.A (execs st X.env) (SP X pins D) X.xe s
def bF{α:Type}{t:Sem α}{Q Q':α->Shared->Prop}{M:Model}{A:Around}{E:Value->Shared->Prop}{s:Shared}(h:wpAny M A t Q E s)(hQ:∀a s,Q a s->Q' a s):wpAny M A t Q' E s:=W6 h hQ λ_ _ x=>x
section
variable{X:Cx}
def bin{a b:Expr}{ta tb:TE}(ha:PE X a ta)(hb:PE X b tb){pins:List (Addr×Obj)}{s:Shared}{σ:St}{H:Hp}{R:V->V->Hp->Prop}(I:Inv X pins σ H s)(h:ta σ H λx H1=>tb σ H1 λy H2=>R x y H2)
  {α:Type} {Q:α->Shared->Prop} {f:Value->Value->Sem α}
  (hf:∀v u s2 x y H2,Inv X pins σ H2 s2->RelV x v->RelV y u->R x y H2->wpAny (model X.prog X.w) X.A (f v u) Q X.xe s2) :
  wpAny (model X.prog X.w) X.A (eval a X.env) (λv s₁=>wpAny (model X.prog X.w) X.A (eval b X.env) (λu s₂=>wpAny (model X.prog X.w) X.A (f v u) Q X.xe s₂) X.xe s₁) X.xe s:=by
 refine bF (ha pins s σ H _ I h) λv s1 ⟨x,H1,I1,r1,q1⟩=>?_;refine bF (hb pins s1 σ H1 _ I1 q1) λu s2 ⟨y,H2,I2,r2,q2⟩=>?_;exact hf v u s2 x y H2 I2 r1 r2 q2
noncomputable def G8(i:Nat):TE:=λσ H Q=>∃v,σ[i]?=some (some v)/\Q v H
noncomputable def tC(v:V):TE:=λ_ H Q=>Q v H
def yL {i:Nat}{x:Str}{pos:Pos}(hN:X.N[i]?=some x) (hv:yH X.env.scope x) (hd:(x==("__debug__" : Str))=false:=by decide) (hcd:(x==("__classdict__" : Str))=false:=by decide):PE X (.Name x pos) (G8 i):=by
 intro pins s σ H Q I h;obtain⟨v,e,h⟩:=h;obtain⟨m,hn,hl⟩:=I.loc;obtain⟨u,r,l⟩:=hl i x v hN e hv;have fin:EP X pins σ Q u s:=⟨v,H,I,r,h⟩
 rcases l with ⟨hk,hm⟩|⟨hk,c,hc,hcell⟩
 .exact wpAny_Name (wpAny_loadName_local I.ok.kind hk hn hm fin) hd
 .rcases hk with hk|hk
  .exact wpAny_Name (wpAny_loadName_cell I.ok.kind hk hc hcell fin) hd
  .exact wpAny_Name (wpAny_loadName_free I.ok.kind hk hc hcell fin hcd) hd
def G9{i j pos}:PE X (.Constant (.int i) j pos) (tC (.int i)):=λ_ _ _ H _ I h=>wpAny_Constant_int ⟨.int i,H,I.tok _,⟨_,rfl⟩,h⟩
def MF{b j pos}:PE X (.Constant (.bool b) j pos) (tC (.bl b)):=λ_ _ _ H _ I h=>Constant_bool ⟨.bl b,H,I,rfl,h⟩
def Hf{x j pos}:PE X (.Constant (.str x) j pos) (tC (.str x)):=λ_ _ _ H _ I h=>Calls.Constant_str ⟨.str x,H,I.tok _,⟨_,rfl⟩,h⟩
noncomputable def Gl(X:Cx)(x:Str):Prop:=X.env.kindOf x=some .globalImplicit
def u7{E:Value->Shared->Prop}{pins:List (Addr×Obj)}{s:Shared}{σ:St}{H:Hp}{x:Str}{u:Value}{pos:Pos}{Q:Value->Shared->Prop}(I:Inv X pins σ H s)(hg:Gl X x)(hm:X.mg x=some u)(h:Q u s)
  (hd:(x==("__debug__" : Str))=false:=by decide):wpAny (model X.prog X.w) X.A (eval (.Name x pos) X.env) Q E s:=
 Yi I.ok.kind hg (Calls.loadGlobal_global (by rw[I.ok.glob];exact I.mod.glob.keeps I.bk) hm h) hd
def fz{E:Value->Shared->Prop}{pins:List (Addr×Obj)}{s:Shared}{σ:St}{H:Hp}{x:Str}{u:Value}{pos:Pos}{Q:Value->Shared->Prop}(I:Inv X pins σ H s)(hg:Gl X x)(hm:X.mg x=none)(hv:bootBuiltins x=some u)(h:Q u s)
  (hn:x≠"__name__" :=by decide) (hd:(x==("__debug__" : Str))=false:=by decide):wpAny (model X.prog X.w) X.A (eval (.Name x pos) X.env) Q E s:=by
 obtain⟨mb,h1,h2⟩:=I.mod.blt;exact Yi I.ok.kind hg (Calls.loadGlobal_builtin (by rw[I.ok.glob];exact I.mod.glob.keeps I.bk) hm (by rw[I.ok.blt];exact h1.keeps I.bk) ((h2 x hn).trans hv) h) hd
def EA {x:Str}{v:V}{u:Value}{pos:Pos}(hg:Gl X x) (hm:X.mg x=some u) (r:RelV v u) (hd:(x==("__debug__" : Str))=false:=by decide):PE X (.Name x pos) (tC v):=
 λ_ _ _ H _ I h=>u7 I hg hm ⟨v,H,I,r,h⟩ hd
variable{a b:Expr}{ta tb:TE}{pos:Pos}
variable{tA DE:TT}{rest:List Expr}
noncomputable def QI(t u:TT):TT:=λσ H Q=>t σ H λc H1=>if c=true then u σ H1 Q else Q false H1
noncomputable def SA(t u:TT):TT:=λσ H Q=>t σ H λc H1=>if c=true then Q true H1 else u σ H1 Q
noncomputable def QJ(t:TT):TT:=λσ H Q=>t σ H λc H1=>Q (!c) H1
def EB(ha:PT X a tA):PW X (.BoolOp .And [a] pos) tA:=by
 intro wh pins s σ H Q I h;refine isTrue_and (bF (ha pins s σ H Q I h) λc s1 e=>?_);cases c with
 |true=>exact isTrue_and_nil e
 |false=>exact e
def Hg(ha:PT X a tA):PW X (.BoolOp .Or [a] pos) tA:=by
 intro wh pins s σ H Q I h;refine isTrue_or (bF (ha pins s σ H Q I h) λc s1 e=>?_);cases c with
 |false=>exact isTrue_or_nil e
 |true=>exact e
def Hi(ha:PT X a tA)(hb:PW X (.BoolOp .And (b :: rest) pos) DE):PW X (.BoolOp .And (a :: b :: rest) pos) (QI tA DE):=by
 intro wh pins s σ H Q I h;refine isTrue_and (bF (ha pins s σ H _ I h) λc s1 ⟨H1,I1,q1⟩=>?_);cases c with
 |true=>exact hb wh pins s1 σ H1 Q I1 q1
 |false=>exact⟨H1,I1,q1⟩
def MG(ha:PT X a tA)(hb:PW X (.BoolOp .Or (b :: rest) pos) DE):PW X (.BoolOp .Or (a :: b :: rest) pos) (SA tA DE):=by
 intro wh pins s σ H Q I h;refine isTrue_or (bF (ha pins s σ H _ I h) λc s1 ⟨H1,I1,q1⟩=>?_);cases c with
 |true=>exact⟨H1,I1,q1⟩
 |false=>exact hb wh pins s1 σ H1 Q I1 q1
def Hj(ha:PT X a tA):PT X (.UnaryOp .Not a pos) (QJ tA):=by
 intro pins s σ H Q I h;exact isTrue_not (ha pins s σ H (λc H1=>Q (!c) H1) I h)
noncomputable def MH(ta tb:TE):TE:=λσ H Q=>ta σ H λx H1=>∃c,x=.bl c/\if c=true then tb σ H1 Q else Q (.bl false) H1
def Hl{op}{t:TE}(h:PE X a t):PE X (.BoolOp op [a] pos) t:=λpins s σ H Q I hw=>BoolOp_one (h pins s σ H Q I hw)
def Ho(ha:PE X a ta)(hb:PE X (.BoolOp .And (b :: rest) pos) tb):PE X (.BoolOp .And (a :: b :: rest) pos) (MH ta tb):=by
 intro pins s σ H Q I h;refine BoolOp_and (bF (ha pins s σ H _ I h) λv s1 ⟨x,H1,I1,r1,q1⟩=>?_);obtain⟨c,rfl,q1⟩:=q1;cases r1;refine Yj ?_;cases c with
 |true=>exact hb pins s1 σ H1 Q I1 q1
 |false=>exact⟨.bl false,H1,I1,rfl,q1⟩
noncomputable def SD(t:TT)(ta tb:TE):TE:=λσ H Q=>t σ H λc H1=>if c=true then ta σ H1 Q else tb σ H1 Q
def Bd{c:Expr}(hc:PT X c tA)(ha:PE X a ta)(hb:PE X b tb):PE X (.IfExp c a b pos) (SD tA ta tb):=by
 intro pins s σ H Q I h;refine wpAny_IfExp (bF (hc pins s σ H _ I h) λd s1 ⟨H1,I1,q1⟩=>?_);cases d with
 |true=>exact ha pins s1 σ H1 Q I1 q1
 |false=>exact hb pins s1 σ H1 Q I1 q1
end
noncomputable def eH(K:PySem.W.Frag)(H:Hp)(a:Addr)(xs:List V):Prop:=
 Rd H a (.lst xs)\/
  ∃(o:Obj) (its:Array Value) (n:Nat),K.lookup a=some o/\o.cls=.type "list" /\o.dict=none/\o.data=.seq its n/\its.size<=sizeLine/\Vals xs its.toList
noncomputable def cV(K:PySem.W.Frag)(H:Hp)(a:Addr)(xs:List V):Prop:=
 Rd H a (.tup xs)\/
  ∃(o:Obj) (its:Array Value) (n:Nat),K.lookup a=some o/\o.cls=.type "tuple" /\o.data=.seq its n/\its.size<=sizeLine/\Vals xs its.toList
noncomputable def QK:Value->Option V
 |.none=>some .bA
 |.bool b=>some (.bl b)
 |.int i _=>some (.int i)
 |.str x _=>some (.str x)
 |.bytes b _=>some (.yF b)
 |.float b _=>some (.G2 b)
 |.ref a=>some (.ref a)
 |.type n=>some (.ty n)
 |_=>none
def RelV.abs{x:V}{u:Value}(r:RelV x u):QK u=some x:=by
 cases x with
 |bA=>cases r;rfl
 |bl _=>cases r;rfl
 |int _=>obtain⟨t,rfl⟩:=r;rfl
 |str _=>obtain⟨t,rfl⟩:=r;rfl
 |yF _=>obtain⟨t,rfl⟩:=r;rfl
 |G2 _=>obtain⟨t,rfl⟩:=r;rfl
 |ref _=>cases r;rfl
 |ty _=>cases r;rfl
theorem RelV.inj{x y:V}{u:Value}(r:RelV x u)(q:RelV y u):x=y:=RG (r.abs.symm.trans q.abs)
theorem Vals.inj:∀{xs ys:List V}{us:List Value},Vals xs us->Vals ys us->xs=ys
 |_,_,_,.nil,.nil=>rfl
 |_,_,_,.cons r t,.cons r' t'=>by rw[r.inj r',Vals.inj t t']
section
variable{X:Cx}{pins:List (Addr×Obj)}{σ:St}{H:Hp}{s:Shared}{a:Addr}{xs ys:List V}
def eH.of{K:PySem.W.Frag}(h:H a=some (.lst xs)):eH K H a xs:=.inl (.inl h)
def cV.of{K:PySem.W.Frag}(h:H a=some (.tup xs)):cV K H a xs:=.inl (.inl h)
def Inv.list(I:Inv X pins σ H s)(h:eH X.K H a xs):∃its:List Value,Vals xs its/\PlainL s.heap a its.toArray/\xs.length<=sizeLine:=by
 rcases h with h|⟨o,its,n,hk,hc,hd,hs,hz,r⟩
 .obtain⟨z,its,n,r,e⟩:=h.ok I.hok;exact⟨its,r,⟨_,n,e,rfl,rfl,rfl⟩,z⟩
 .refine⟨its.toList,r,⟨o,n,I.qF a o hk,hc,hd,by simpa using hs⟩,?_⟩;have e:=r.length;simp only[Xd]at e;omega
def Inv.tuple(I:Inv X pins σ H s)(h:cV X.K H a xs):∃its:List Value,Vals xs its/\IsTup s.heap a its.toArray/\xs.length<=sizeLine:=by
 rcases h with h|⟨o,its,n,hk,hc,hs,hz,r⟩
 .obtain⟨z,its,r,p⟩:=h.ok I.hok;exact⟨its,r,p,z⟩
 .refine⟨its.toList,r,⟨o,I.qF a o hk,hc,n,by simpa using hs⟩,?_⟩;have e:=r.length;simp only[Xd]at e;omega
def Inv.Be(I:Inv X pins σ H s)(h:eH X.K H a xs)(h':eH X.K H a ys):xs=ys:=by
 obtain⟨its,r,⟨o,n,e,_,_,d⟩,_⟩:=I.list h;obtain⟨its',r',⟨o',n',e',_,_,d'⟩,_⟩:=I.list h';rw[e]at e';cases e';rw[d]at d';injection d' with d1 _
 have:its=its':=by simpa using VZ Array.toList d1
 subst this;exact r.inj r'
def Inv.kU(I:Inv X pins σ H s)(h:cV X.K H a xs)(h':cV X.K H a ys):xs=ys:=by
 obtain⟨its,r,⟨o,e,_,n,d⟩,_⟩:=I.tuple h;obtain⟨its',r',⟨o',e',_,n',d'⟩,_⟩:=I.tuple h';rw[e]at e';cases e';rw[d]at d';injection d' with d1 _
 have:its=its':=by simpa using VZ Array.toList d1
 subst this;exact r.inj r'
end
abbrev Cx.jC(X:Cx)(E:Value->Shared->Prop):Cx:={ X with xe:=E }
abbrev Cx.qG(X:Cx):Cx:=X.jC λ_ _=>False
theorem Cx.Ok.jC{X:Cx}(ok:X.Ok)(E:Value->Shared->Prop):(X.jC E).Ok:=
 ⟨ok.mod,ok.kind,ok.glob,ok.blt,ok.above,ok.inj,ok.has,ok.uZ,ok.hd,ok.frames,ok.stk,ok.DA,ok.bs,ok.qE,ok.pK,ok.pL,ok.iN,ok.rX⟩
def Cx.Ok.iH{X:Cx}{E:Value->Shared->Prop}(ok:(X.jC E).Ok):X.Ok:=
 ⟨ok.mod,ok.kind,ok.glob,ok.blt,ok.above,ok.inj,ok.has,ok.uZ,ok.hd,ok.frames,ok.stk,ok.DA,ok.bs,ok.qE,ok.pK,ok.pL,ok.iN,ok.rX⟩
section
variable{X:Cx}{pins:List (Addr×Obj)}{σ:St}{H:Hp}{s:Shared}{E:Value->Shared->Prop}
theorem Inv.jC(I:Inv X pins σ H s)(E:Value->Shared->Prop):Inv (X.jC E) pins σ H s:=⟨I.ok.jC E,I.os,I.bare,I.base,I.loc,I.cell,I.free,I.iB,I.pin,I.hok,I.len⟩
theorem Inv.iH(I:Inv (X.jC E) pins σ H s):Inv X pins σ H s:=⟨I.ok.iH,I.os,I.bare,I.base,I.loc,I.cell,I.free,I.iB,I.pin,I.hok,I.len⟩
theorem SP.iH{D:Ends}{f:Flow}{s':Shared}(h:SP (X.jC E) pins D f s'):SP X pins D f s':=by
 cases f with
 |next=>obtain⟨σ',H',I,q⟩:=h;exact⟨σ',H',I.iH,q⟩
 |brk=>obtain⟨σ',H',I,q⟩:=h;exact⟨σ',H',I.iH,q⟩
 |cont=>obtain⟨σ',H',I,q⟩:=h;exact⟨σ',H',I.iH,q⟩
 |ret u=>obtain⟨v,σ',H',I,r,q⟩:=h;exact⟨v,σ',H',I.iH,r,q⟩
theorem gY.qG{st:List Stmt}{t:TS}(h:gY X.qG st t):gY X st t:=λpins s σ H D I hw=>
 W6 (h pins s σ H D (I.jC _) hw) (λ_ _ q=>q.iH) λ_ _ z=>False.elim z
end
section
variable{X:Cx}{st:Stmt}{rest:List Stmt}{t u:TS}{e:Expr}{te:TE}{pos:Pos}
noncomputable def MI:TS:=λD σ H=>D.nx σ H
noncomputable def QL(t u:TS):TS:=λD σ H=>t { D with nx:=u D } σ H
def EC:gY X [] MI:=λ_ _ σ H _ I h=>YF ⟨σ,H,I,h⟩
def Bf(h1:PS X st t)(h2:gY X rest u):gY X (st :: rest) (QL t u):=by
 intro pins s σ H D I h;refine wpAny_execs_cons (bF (h1 pins s σ H { D with nx:=u D } I h) λf s1 q=>?_);cases f with
 |next=>
  obtain⟨σ',H',I',q⟩:=q;exact h2 pins s1 σ' H' D I' q
 |ret v=>exact q
 |brk=>exact q
 |cont=>exact q
def Inv.quiet{pins:List (Addr×Obj)}{σ:St}{H:Hp}{s:Shared}(I:Inv X pins σ H s):interactive X.env=false:=by simp[interactive,I.ok.kind]
noncomputable def MJ(te:TE):TS:=λD σ H=>te σ H λ_ H1=>D.nx σ H1
def ED(he:PE X e te)(hs:swapsWith e none pos.line X.env=pure false:=by rfl):PS X (.Expr e pos) (MJ te):=by
 intro pins s σ H D I h;exact wpAny_Expr_any (bF (he pins s σ H _ I h) λv s1 ⟨x,H1,I1,r1,q1⟩=>⟨σ,H1,I1,q1⟩) I.quiet hs
noncomputable def QM(te:TE):TS:=λD σ H=>te σ H D.rt
def Hq(he:PE X e te):PS X (.Return (some e) pos) (QM te):=by
 intro pins s σ H D I h;exact wpAny_Return_some (bF (he pins s σ H _ I h) λv s1 ⟨x,H1,I1,r1,q1⟩=>⟨x,σ,H1,I1,r1,q1⟩)
noncomputable def QN(c:TT)(t u:TS):TS:=λD σ H=>c σ H λb H1=>if b=true then t D σ H1 else u D σ H1
def MK{c:Expr}{a b:List Stmt}{tc:TT}(hc:PT X c tc)(ha:gY X a t)(hb:gY X b u):PS X (.If c a b pos) (QN tc t u):=by
 intro pins s σ H D I h;refine wpAny_If (bF (hc pins s σ H _ I h) λd s1 ⟨H1,I1,q1⟩=>?_);cases d with
 |true=>exact ha pins s1 σ H1 D I1 q1
 |false=>exact hb pins s1 σ H1 D I1 q1
noncomputable def Hr:TS:=λ_ _ _=>False
def Bg:PS X st Hr:=λ_ _ _ _ _ _ h=>h.elim
end
abbrev TG:=V->St->Hp->(St->Hp->Prop)->Prop
abbrev qH:=List V->St->Hp->(St->Hp->Prop)->Prop
noncomputable def PG(X:Cx)(target:Expr)(t:TG):Prop:=
 ∀(pins:List (Addr×Obj)) (s:Shared) (σ:St) (H:Hp) (v:V) (u:Value) (Q:St->Hp->Prop),Inv X pins σ H s->RelV v u->t v σ H Q->
  wpAny (model X.prog X.w) X.A (assign target X.env u) (λ_ s'=>∃σ' H',Inv X pins σ' H' s'/\Q σ' H') X.xe s
noncomputable def mV(X:Cx)(ts:List Expr)(t:qH):Prop:=
 ∀(pins:List (Addr×Obj)) (s:Shared) (σ:St) (H:Hp) (vs:List V) (us:List Value) (Q:St->Hp->Prop),Inv X pins σ H s->Vals vs us->t vs σ H Q->
  wpAny (model X.prog X.w) X.A (assignInOrder ((assignEach ts X.env).map (·.2)) us) (λ_ s'=>∃σ' H',Inv X pins σ' H' s'/\Q σ' H') X.xe s
section
variable{X:Cx}{pos:Pos}
noncomputable def DF(i:Nat):TG:=λv σ H Q=>Q (σ.set i (some v)) H
def u9{i:Nat}{x:Str}(hN:X.N.Nodup)(hi:X.N[i]?=some x)(hx:Loc X.env.scope x)(hf:X.fn x=true\/X.env.scope.names.lookup x=some .local:=by first|exact .inl rfl|exact .inr rfl|assumption):PG X (.Name x pos) (DF i):=by
 intro pins s σ H v u Q I r h;exact wpAny_assign_Name (sd I hN hi hx r (λs' I'=>⟨_,H,I',h⟩) hf)
noncomputable def QO:qH:=λvs σ H Q=>vs=[]/\Q σ H
noncomputable def ML(t:TG)(u:qH):qH:=λvs σ H Q=>∃v r,vs=v :: r/\t v σ H λσ' H'=>u r σ' H' Q
def EE:mV X [] QO:=by
 intro pins s σ H vs us Q I r h;obtain⟨e,h⟩:=h;subst e;cases r;exact assignInOrder_nil ⟨σ,H,I,h⟩
def Bh{e:Expr}{es:List Expr}{t:TG}{u:qH}(h1:PG X e t)(h2:mV X es u)
  (hs:(assignEach (e :: es) X.env).map (·.2)=assign e X.env :: (assignEach es X.env).map (·.2):=by rfl):mV X (e :: es) (ML t u):=by
 intro pins s σ H vs us Q I r h;obtain⟨v,vr,e1,h⟩:=h;subst e1;cases r with
 |cons r rr=>
  rw[hs];refine assignInOrder_cons (bF (h1 pins s σ H _ _ _ I r h) λ_ s1 ⟨σ1,H1,I1,q1⟩=>?_);exact h2 pins s1 σ1 H1 _ _ Q I1 rr q1
noncomputable def QS(K:PySem.W.Frag)(n:Nat)(t:qH):TG:=λv σ H Q=>∃a xs,v=.ref a/\cV K H a xs/\xs.length=n/\t xs σ H Q
def Hs{es:List Expr}{k:Nat}{t:qH}{n:Nat}(hc:X.calm=true)(h:mV X es t)
  (hn:(assignEach es X.env).length=n:=by rfl) (hst:(assignEach es X.env).findIdx? (·.1)=none:=by rfl):PG X (.Tuple es k pos) (QS X.K n t):=by
 intro pins s σ H v u Q I r hw;obtain⟨a,xs,e1,hq,hl,hw⟩:=hw;subst e1;cases r;obtain⟨its,rv,ht,hz⟩:=I.tuple hq;refine assign_Tuple_tuple (I.ok.hd hc) ht (by simp[hn,<-hl,rv.length]) hst λh' hx=>?_;have I1:Inv X pins σ H { s with heap:=h' }:=I.kept (t':=s.toks) λb o e=>hx b o (V7 (RH e)) e;exact h pins _ σ H xs _ Q I1 (by simpa using rv) hw
noncomputable def QT(te:TE)(g:TG):TS:=λD σ H=>te σ H λx H1=>g x σ H1 D.nx
def Ht{i:Nat}{x:Str}{e:Expr}{te:TE}{pos':Pos}(hN:X.N.Nodup)(hi:X.N[i]?=some x)(hx:Loc X.env.scope x)(he:PE X e te)(hs:swapsWith e (some (.Name x pos')) pos.line X.env=pure false:=by rfl)(hf:X.fn x=true\/X.env.scope.names.lookup x=some .local:=by first|exact .inl rfl|exact .inr rfl|assumption) :
  PS X (.Assign [.Name x pos'] e pos) (QT te (DF i)):=by
 intro pins s σ H D I h;refine wpAny_Assign_Name (bF (he pins s σ H _ I h) λv s1 ⟨y,H1,I1,r1,q1⟩=>?_) hs;exact sd I1 hN hi hx r1 (λs2 I2=>⟨_,H1,I2,q1⟩) hf
end
section
variable{X:Cx}{pos:Pos}
noncomputable def Hu(c:TT)(tb:TS):TS:=λD σ H=>∃W:Nat->St->Hp->Prop,(∃m,W m σ H)/\∀m σ H,W m σ H->
 c σ H λb H1=>if b=true then ∃N:St->Hp->Prop,(∀σ' H',N σ' H'->∃m',m'<m/\W m' σ' H')/\tb { D with nx:=N,ct:=N,bk:=D.nx } σ H1 else D.nx σ H1
def Bj{c:Expr}{body:List Stmt}{tc:TT}{tb:TS}(hp:PassesOwn (model X.prog X.w) X.A X.env X.xe)(hc:PT X c tc)(hb:gY X body tb):PS X (.While c body [] pos) (Hu tc tb):=by
 intro pins s σ H D I h;obtain⟨W,⟨m0,w0⟩,turn⟩:=h;refine wpAny_While (codeAny_whileLoop (λn s'=>∃σ' H',Inv X pins σ' H' s'/\W n σ' H') ?_ m0 ⟨σ,H,I,w0⟩);rintro n s1 ⟨σ1,H1,I1,w1⟩;refine W2 hp (bF (hc pins s1 σ1 H1 _ I1 (turn n σ1 H1 w1)) λb s2 ⟨H2,I2,q2⟩=>?_);cases b with
 |true=>
  obtain⟨N,hN,q2⟩:=q2;rw[GQ rfl];refine W2 hp (bF (hb pins s2 σ1 H2 _ I2 q2) λf s3 q3=>?_);cases f with
  |next=>
   obtain⟨σ3,H3,I3,n3⟩:=q3;obtain⟨m',hm,w3⟩:=hN σ3 H3 n3;exact⟨m',hm,σ3,H3,I3,w3⟩
  |cont=>
   obtain⟨σ3,H3,I3,n3⟩:=q3;obtain⟨m',hm,w3⟩:=hN σ3 H3 n3;exact⟨m',hm,σ3,H3,I3,w3⟩
  |brk=>exact q3
  |ret v=>exact q3
 |false=>
  rw[Us Wv];exact YF ⟨σ1,H2,I2,q2⟩
end
structure It where
 go:Nat->Hp->Prop
 DG:Nat->Hp->V->Hp->Prop
 stop:Nat->Hp->Prop
noncomputable def fB(X:Cx)(pins:List (Addr×Obj))(H:Hp)(b:Addr):Prop:=
 H b=none/\b≠X.env.locals/\b∉X.fs/\(b∈X.ex\/X.s₀.heap.objs.size<=b)/\(∀x c,X.env.cells.lookup x=some c->c≠b)/\∀p∈X.pn++pins,p.1≠b
def Inv.se{X:Cx}{pins:List (Addr×Obj)}{σ:St}{H H':Hp}{s:Shared}{b:Addr}(I:Inv X pins σ H s)(hb:s.heap.objs.size<=b)(hn:H' b=none):fB X pins H' b:=by
 refine⟨hn,XX (MC I.lt hb),I.QG hb,.inr (V0 I.sz hb),λx c e z=>?_,λp hp z=>?_⟩
 .obtain⟨v,q⟩:=I.cell x c e;exact absurd (MC q.lt (by rw[z];exact hb)) (Wg _)
 .exact absurd (MC (RH (I.pin p hp).1) (by rw[z];exact hb)) (Wg _)
structure Turn(P:Program)(w:World)(K:PySem.W.Frag)(tg:Expr)(J:It)(fp:List Addr)(it:Addr)(tn:Nat->Heap->Prop):Prop where
 mem:it∈fp
 obj:∀i h,tn i h->∀b∈fp,∃o,h.get? b=some o/\∀v,o.data≠.cell v
 keep:∀i h h',tn i h->(∀b∈fp,∀o,h.get? b=some o->h'.get? b=some o)->tn i h'
 item:∀(X:Cx),X.prog=P->X.w=w->X.K=K->X.calm=true->∀(i:Nat) (pins:List (Addr×Obj)) (s:Shared) (σ:St) (H:Hp) (E:Value->Shared->Prop),Inv X pins σ H s->(∀b∈fp,fB X pins H b)->tn i s.heap->J.go i H->
  wpAny (model P w) X.A (pyNext (.ref it)) (λr s1=>∃u,r=some u/\
   wpAny (model P w) X.A (letOwnedTupleGo tg (.ref it) u) (λ_ s2=>∃x H',Inv X pins σ H' s2/\RelV x u/\J.DG i H x H'/\tn (i+1) s2.heap/\∀b∈fp,H' b=none) E s1) E s
 done:∀(X:Cx),X.prog=P->X.w=w->X.K=K->X.calm=true->∀(i:Nat) (pins:List (Addr×Obj)) (s:Shared) (σ:St) (H:Hp) (E:Value->Shared->Prop),Inv X pins σ H s->(∀b∈fp,fB X pins H b)->tn i s.heap->J.stop i H->
  wpAny (model P w) X.A (pyNext (.ref it)) (λr s1=>r=none/\Inv X pins σ H s1) E s
 self:∀(A:Around) (i:Nat) (s:Shared) (Q:Value->Shared->Prop) (E:Value->Shared->Prop),tn i s.heap->Q (.ref it) s->wpAny (model P w) A (pyIter (.ref it)) Q E s
abbrev TI:=St->Hp->(It->Hp->Prop)->Prop
noncomputable def Pd(X:Cx)(pins:List (Addr×Obj))(σ:St)(tg:Expr)(R:It->Hp->Prop)(itv:Value)(s2:Shared):Prop:=
 ∃(it:Addr) (fp:List Addr) (tn:Nat->Heap->Prop) (J:It) (H':Hp),itv=.ref it/\Inv X pins σ H' s2/\Turn X.prog X.w X.K tg J fp it tn/\tn 0 s2.heap/\(∀b∈fp,fB X pins H' b)/\R J H'
noncomputable def PI(X:Cx)(tg iter:Expr)(wi:TI):Prop:=
 ∀(pins:List (Addr×Obj)) (s:Shared) (σ:St) (H:Hp) (R:It->Hp->Prop),Inv X pins σ H s->wi σ H R->
  wpAny (model X.prog X.w) X.A (eval iter X.env) (λv s1=>wpAny (model X.prog X.w) X.A (pyIter v) (Pd X pins σ tg R) X.xe s1) X.xe s
def wI{M:Model}{A:Around}{E:Value->Shared->Prop}{s:Shared}{tg:Expr}{it:Addr}{u:Value}{o:Obj}{n:String}{vs:Array Value}{Q:Unit->Shared->Prop}(ho:s.heap.get? it=some o)(hc:o.cls=.type n)(hd:o.data=.fields vs)
    (hn:["enumerate","zip","dict_itemiterator","dict_reverseitemiterator","odict_iterator","itertools.zip_longest","itertools.pairwise"].contains n=false) (hQ:Q () s):wpAny M A (letOwnedTupleGo tg (.ref it) u) Q E s:=by
  unfold letOwnedTupleGo;cases tg<;>first
    |exact pe hQ
    | (cases u<;>first
        |exact pe hQ
        | (refine fK (wpAny_load ho ?_)
           rw[hc,hd];show wpAny M A (if (["enumerate","zip","dict_itemiterator","dict_reverseitemiterator","odict_iterator","itertools.zip_longest","itertools.pairwise"].contains n&&vs[0]?==some (rawInt _))=true then _ else _) Q E s;rw[Us (by intro h;rw[hn,Bool.false_and]at h;cases h)];exact pe hQ))
noncomputable def Pe(K:PySem.W.Frag)(a:Addr):It:=
 ⟨λi H=>∃xs x,eH K H a xs/\xs[i]?=some x,λi H x H'=>H'=H/\∀xs,eH K H a xs->xs[i]?=some x,λi H=>∃xs,eH K H a xs/\xs.length<=i⟩
noncomputable def Pf(K:PySem.W.Frag)(a:Addr):It:=
 ⟨λi H=>∃xs x,cV K H a xs/\xs[i]?=some x,λi H x H'=>H'=H/\∀xs,cV K H a xs->xs[i]?=some x,λi H=>∃xs,cV K H a xs/\xs.length<=i⟩
noncomputable def DH(lo:Int)(n:Nat):It:=⟨λi _=>i<n,λi H x H'=>H'=H/\x=.int (lo+i),λi _=>n<=i⟩
def yN{P:Program}{w:World}{K:PySem.W.Frag}{tg:Expr}(a it:Addr):Turn P w K tg (Pe K a) [it] it (λi h=>h.IsListIter it a i) where
 mem:=by simp
 obj:=λi h st b hb=>by
  have e:b=it:=by simpa using hb
  subst e;obtain⟨o,e,c,d⟩:=st;exact⟨o,e,λv z=>by rw[d]at z;cases z⟩
 keep:=λi h h' st k=>st.at λo e=>k it (by simp) o e
 item:=by
  intro X hP hw hK hc i pins s σ H E I hf st hg;subst hP hw hK;obtain⟨xs,x,hq,hx⟩:=hg;obtain⟨its,rv,p,hz⟩:=I.list hq;obtain⟨u,hu,ru⟩:=rv.get hx;obtain⟨f0,f1,f2,f3,f4,f5⟩:=hf it (by simp);refine wpAny_pyNext_list_item st p.isList (x:=u) (by simpa using hu) λh' st' sb=>?_;have I1:Inv X pins σ H { s with heap:=h' }:=I.turned (t':=s.toks) (λb o hb e=>(sb.2 b hb).trans e) f0 f1 f3 f4 f5;obtain⟨o,e,c,d⟩:=id st';exact⟨u,rfl,wI (s:={ s with heap:=h' }) e c d (by decide) ⟨x,H,I1,ru,⟨rfl,λys hy=>by rw[I.Be hy hq];exact hx⟩,st',λb hb=>(hf b hb).1⟩⟩
 done:=by
  intro X hP hw hK hc i pins s σ H E I hf st hg;subst hP hw hK;obtain⟨xs,hq,hx⟩:=hg;obtain⟨its,rv,p,hz⟩:=I.list hq;obtain⟨f0,f1,f2,f3,f4,f5⟩:=hf it (by simp);have hl:=rv.length;exact wpAny_pyNext_list_end (I.ok.hd hc) st p.isList (by simp;omega) λh' eb=>⟨rfl,I.turned (t':=s.toks) (λb o hb e=>eb b o hb e) f0 f1 f3 f4 f5⟩
 self:=λ_ _ _ _ _ st h=>wpAny_pyIter_listiter st h
def wJ{P:Program}{w:World}{K:PySem.W.Frag}{tg:Expr}(a it:Addr):Turn P w K tg (Pf K a) [it] it (λi h=>h.IsTupleIter it a i) where
 mem:=by simp
 obj:=λi h st b hb=>by
  have e:b=it:=by simpa using hb
  subst e;obtain⟨o,e,c,d⟩:=st;exact⟨o,e,λv z=>by rw[d]at z;cases z⟩
 keep:=λi h h' st k=>st.at λo e=>k it (by simp) o e
 item:=by
  intro X hP hw hK hc i pins s σ H E I hf st hg;subst hP hw hK;obtain⟨xs,x,hq,hx⟩:=hg;obtain⟨its,rv,p,hz⟩:=I.tuple hq;obtain⟨u,hu,ru⟩:=rv.get hx;obtain⟨f0,f1,f2,f3,f4,f5⟩:=hf it (by simp);refine wpAny_pyNext_tuple_item st (show s.heap.IsTuple a its.toArray from p) (x:=u) (by simpa using hu) λh' st' sb=>?_;have I1:Inv X pins σ H { s with heap:=h' }:=I.turned (t':=s.toks) (λb o hb e=>(sb.2 b hb).trans e) f0 f1 f3 f4 f5;obtain⟨o,e,c,d⟩:=id st';exact⟨u,rfl,wI (s:={ s with heap:=h' }) e c d (by decide) ⟨x,H,I1,ru,⟨rfl,λys hy=>by rw[I.kU hy hq];exact hx⟩,st',λb hb=>(hf b hb).1⟩⟩
 done:=by
  intro X hP hw hK hc i pins s σ H E I hf st hg;subst hP hw hK;obtain⟨xs,hq,hx⟩:=hg;obtain⟨its,rv,p,hz⟩:=I.tuple hq;obtain⟨f0,f1,f2,f3,f4,f5⟩:=hf it (by simp);have hl:=rv.length;exact wpAny_pyNext_tuple_end (I.ok.hd hc) st (show s.heap.IsTuple a its.toArray from p) (by simp;omega) λh' eb=>⟨rfl,I.turned (t':=s.toks) (λb o hb e=>eb b o hb e) f0 f1 f3 f4 f5⟩
 self:=λ_ _ _ _ _ st h=>wpAny_pyIter_tupleiter st h
def wK{P:Program}{w:World}{K:PySem.W.Frag}{tg:Expr}(it:Addr)(lo:Int)(n:Nat):Turn P w K tg (DH lo n) [it] it (λi h=>IsRangeIter h it (lo+(i:Nat)*1) ((n:Int) - (i:Nat)) 1) where
 mem:=by simp
 obj:=λi h st b hb=>by
  have e:b=it:=by simpa using hb
  subst e;exact⟨_,st,λv z=>by
   have z':Data.fields _=Data.cell v:=z;cases z'⟩
 keep:=λi h h' st k=>k it (by simp) _ st
 item:=by
  intro X hP hw hK hc i pins s σ H E I hf st hg;subst hP hw hK;obtain⟨f0,f1,f2,f3,f4,f5⟩:=hf it (by simp);have W:=Walks.range (prog:=X.prog) (w:=X.w) (I.ok.hd hc) it lo 1 n;refine W.item i s _ _ hg st λv h' tk hv st' kk=>?_;obtain⟨t,rfl⟩:=hv;have I1:Inv X pins σ H { s with heap:=h',toks:=tk }:=I.turned (λb o hb e=>kk b o (by simpa using hb) e) f0 f1 f3 f4 f5;refine⟨_,rfl,wI (s:={ s with heap:=h',toks:=tk }) (n:="range_iterator") st' rfl rfl (by decide) ⟨.int (lo+i),H,I1,⟨t,?_⟩,⟨rfl,rfl⟩,st',λb hb=>(hf b hb).1⟩⟩;rw[Int.mul_one]
 done:=by
  intro X hP hw hK hc i pins s σ H E I hf st hg;subst hP hw hK;obtain⟨f0,f1,f2,f3,f4,f5⟩:=hf it (by simp);exact wpAny_pyNext_range_end (I.ok.hd hc) st (by have:n<=i:=hg;omega) λh' eb=>⟨rfl,I.turned (t':=s.toks) (λb o hb e=>eb b o hb e) f0 f1 f3 f4 f5⟩
 self:=λ_ _ _ _ _ st h=>wpAny_pyIter_rangeiter st h
section
variable{X:Cx}{tg:Expr}
def Bk{pins:List (Addr×Obj)}{σ:St}{H:Hp}{s:Shared}{R:It->Hp->Prop}{E:Value->Shared->Prop}{lo hi:Int}{t u v:Tok}{tk:Nat}(I:Inv X pins σ H s)(h1:-(2 ^ 62)<=lo)(h2:lo<2 ^ 62)(h3:-(2 ^ 62)<=hi)(h4:hi<2 ^ 62)
  (q:R (DH lo (hi - lo).toNat) H):wpAny (model X.prog X.w) X.A (pyIter (.ref s.heap.objs.size)) (Pd X pins σ tg R) E { s with heap:=s.heap.push { cls:=.type "range",data:=.fields #[.int lo t,.int hi u,.int 1 v]},toks:=tk }:=by
 refine wpAny_pyIter_range (IsRange.new ..) (small_one h1 h2 h3 h4) ?_;have I1:Inv X pins σ H { s with heap:=s.heap.push { cls:=.type "range",data:=.fields #[.int lo t,.int hi u,.int 1 v]},toks:=tk }:=I.kept λb o e=>gV _ e;refine⟨(s.heap.push { cls:=.type "range",data:=.fields #[.int lo t,.int hi u,.int 1 v]}).objs.size,[(s.heap.push { cls:=.type "range",data:=.fields #[.int lo t,.int hi u,.int 1 v]}).objs.size],_,_,H,rfl,
  I1.kept (t':=tk) λb o e=>gV _ e,wK _ lo (hi - lo).toNat,?_,λb hb=>?_,q⟩
 .have e1:lo+((0:Nat):Int)*1=lo:=by simp
  have e2:(((hi - lo).toNat:Nat):Int) - ((0:Nat):Int)=Builtin.Range.rangeSize lo hi 1:=by rw[rangeSize_one];split<;>omega
  show IsRangeIter _ _ (lo+((0:Nat):Int)*1) ((((hi - lo).toNat:Nat):Int) - ((0:Nat):Int)) 1;rw[e1,e2];exact PY _ rfl
 .have e:b=(s.heap.push { cls:=.type "range",data:=.fields #[.int lo t,.int hi u,.int 1 v]}).objs.size:=by simpa using hb
  subst e;exact I1.se (Et _) (I1.hok.fresh (Et _))
noncomputable def MM(ta:TA):TI:=λσ H R=>ta σ H λvs H1=>∃j:Int,vs=[.int j]/\-(2 ^ 62)<=j/\j<2 ^ 62/\R (DH 0 j.toNat) H1
def yO {a:Expr}{ta:TA}{p pos:Pos}(hg:Gl X "range") (hm:X.mg "range" = none) (ha:PA X [a] ta) (hs:starEach [a] X.env=[(false,eval a X.env)]:=by rfl):PI X tg (.Call (.Name "range" p) [a] [] pos) (MM ta):=by
 intro pins s σ H R I h;refine Call_ (fz I hg hm boot_range (V2 (bF (ha pos pins s σ H _ I h) λus s1 ⟨vs,H1,I1,r1,q1⟩=>?_) hs rfl));obtain⟨j,e,q1,q2,q⟩:=q1;subst e;cases r1 with
 |cons r rr=>
  cases rr;obtain⟨t,rfl⟩:=r;exact call_range_1 (Bk I1 (by omega) (by omega) q1 q2 (by simpa using q))
noncomputable def QU(wi:TI)(g:TG)(tb:TS):TS:=λD σ H=>wi σ H λJ H1=>∃W:Nat->Nat->St->Hp->Prop,(∃m,W 0 m σ H1)/\∀i m σ H,W i m σ H->
 (J.stop i H/\D.nx σ H)\/(J.go i H/\∃N:St->Hp->Prop,(∀σ' H',N σ' H'->∃m',m'<m/\W (i+1) m' σ' H')/\∀x H',J.DG i H x H'->g x σ H' λσ2 H2=>tb { D with nx:=N,ct:=N,bk:=D.nx } σ2 H2)
noncomputable def kW(fp:List Addr)(h:Heap):List (Addr×Obj):=fp.filterMap λb=>(h.get? b).map λo=>(b,o)
def iT{fp:List Addr}{h:Heap}{b:Addr}{o:Obj}(hb:b∈fp)(e:h.get? b=some o):(b,o)∈kW fp h:=List.mem_filterMap.mpr ⟨b,hb,by rw[e];rfl⟩
def yP{fp:List Addr}{h:Heap}{p:Addr×Obj}(hp:p∈kW fp h):p.1∈fp/\h.get? p.1=some p.2:=by
 obtain⟨b,hb,e⟩:=List.mem_filterMap.mp hp;cases q:h.get? b with
 |none=>rw[q]at e;cases e
 |some o=>
  rw[q]at e;have e':(b,o)=p:=RG e;subst e';exact⟨hb,q⟩
def Inv.pinned{pins:List (Addr×Obj)}{σ:St}{H:Hp}{s:Shared}{fp:List Addr}(I:Inv X pins σ H s)(hf:∀b∈fp,fB X pins H b)(ho:∀b∈fp,∃o,s.heap.get? b=some o/\∀v,o.data≠.cell v):Inv X (pins++kW fp s.heap) σ H s:=
 I.u6 λp hp=>(List.mem_append.mp hp).elim (λz=>I.pin p (Wb _ z)) λz=>by
  obtain⟨hb,e⟩:=yP z;obtain⟨f0,f1,f2,_⟩:=hf p.1 hb;obtain⟨o,e',d⟩:=ho p.1 hb;rw[e]at e';cases e';exact⟨e,f0,f1,f2,d⟩
def Inv.j9{pins pl:List (Addr×Obj)}{σ:St}{H:Hp}{s:Shared}(I:Inv X (pins++pl) σ H s):Inv X pins σ H s:=I.u6 λp hp=>I.pin p (Wb _ (YX _ hp))
def Hv{iter:Expr}{body:List Stmt}{wi:TI}{g:TG}{tb:TS}{pos:Pos}(hp:PassesOwn (model X.prog X.w) X.A X.env X.xe)(hc:X.calm=true)(hi:PI X tg iter wi)(hg:PG X tg g)(hb:gY X body tb)
  (hs:∀x,foldedSetIterable iter X.env x=pure x:=by intro _;rfl):PS X (.For tg iter body [] pos) (QU wi g tb):=by
 intro pins s σ H D I h;refine wpAny_For (bF (hi pins s σ H _ I h) λv s1 h1=>bF h1 λitv s2 h2=>?_) hs;obtain⟨it,fp,tn,J,H2,e,I2,T,st2,f2,W,⟨m0,w0⟩,turn⟩:=h2;subst e;have kc:∀{H':Hp},(∀b∈fp,H' b=none)->∀b∈fp,fB X pins H' b:=λhn b hb=>⟨hn b hb,(f2 b hb).2⟩
 refine codeAny_forLoop_any (λn s'=>∃i σ' H',Inv X pins σ' H' s'/\tn i s'.heap/\(∀b∈fp,H' b=none)/\W i n σ' H') ?_ m0 ⟨0,σ,H2,I2,st2,λb hb=>(f2 b hb).1,w0⟩;rintro n s3 ⟨i,σ3,H3,I3,st3,cE,w3⟩;rcases turn i n σ3 H3 w3 with ⟨stop,qn⟩|⟨go,N,hN,step⟩
 .refine W2 hp (bF (T.done X rfl rfl rfl hc i pins s3 σ3 H3 X.xe I3 (kc cE) st3 stop) λr s4 ⟨hr,I4⟩=>?_);subst hr;exact YF ⟨σ3,H3,I4,qn⟩
 .refine W2 hp (bF (T.item X rfl rfl rfl hc i pins s3 σ3 H3 X.xe I3 (kc cE) st3 go) λr s4 ⟨u,hr,h4⟩=>?_);subst hr;refine W2 hp (bF h4 λ_ s5 ⟨x,H5,I5,r5,y5,vc,qI⟩=>?_);have SE:=I5.pinned (kc qI) (T.obj _ _ vc);refine W2 hp (bF (hg _ s5 σ3 H5 x u _ SE r5 (step x H5 y5)) λ_ s6 ⟨SG,H6,I6,q6⟩=>?_);refine W2 hp (bF (hb _ s6 SG H6 _ I6 q6) λf s7 q7=>?_);have again:∀{kX:St} {H7:Hp},Inv X (pins++kW fp s5.heap) kX H7 s7->N kX H7->∃m,m<n/\∃i σ' H',Inv X pins σ' H' s7/\tn i s7.heap/\(∀b∈fp,H' b=none)/\W i m σ' H':=λ{kX H7} I7 n7=>by
   obtain⟨m',hm,w7⟩:=hN kX H7 n7;refine⟨m',hm,i+1,kX,H7,I7.j9,T.keep _ _ _ vc λb hb o e=>(I7.pin (b,o) (Wb _ (Wb _ (iT hb e)))).1,λb hb=>?_,w7⟩;obtain⟨o,e,d⟩:=T.obj _ _ vc b hb;exact(I7.pin (b,o) (Wb _ (Wb _ (iT hb e)))).2.1
  cases f with
  |next=>obtain⟨kX,H7,I7,n7⟩:=q7;exact again I7 n7
  |cont=>obtain⟨kX,H7,I7,n7⟩:=q7;exact again I7 n7
  |brk=>obtain⟨kX,H7,I7,q7⟩:=q7;exact⟨kX,H7,I7.j9,q7⟩
  |ret v=>obtain⟨x7,kX,H7,I7,r7,q7⟩:=q7;exact⟨x7,kX,H7,I7.j9,r7,q7⟩
end
abbrev R2:=V->V->Hp->VK->Prop
noncomputable def dB(X:Cx)(f:Value->Value->Sem Value)(r:R2):Prop:=
 ∀(pins:List (Addr×Obj)) (s:Shared) (σ:St) (H:Hp) (x y:V) (v u:Value) (Q:VK),Inv X pins σ H s->RelV x v->RelV y u->r x y H Q->
  wpAny (model X.prog X.w) X.A (f v u) (EP X pins σ Q) X.xe s
noncomputable def Hw(X:Cx)(f:Value->Sem Value)(r:V->Hp->VK->Prop):Prop:=
 ∀(pins:List (Addr×Obj)) (s:Shared) (σ:St) (H:Hp) (x:V) (v:Value) (Q:VK),Inv X pins σ H s->RelV x v->r x H Q->
  wpAny (model X.prog X.w) X.A (f v) (EP X pins σ Q) X.xe s
noncomputable def fN(X:Cx)(f:Value)(r:List V->Hp->VK->Prop):Prop:=
 ∀(pins:List (Addr×Obj)) (s:Shared) (σ:St) (H:Hp) (xs:List V) (us:List Value) (Q:VK),Inv X pins σ H s->Vals xs us->r xs H Q->
  wpAny (model X.prog X.w) X.A (call f us) (EP X pins σ Q) X.xe s
noncomputable def QV(X:Cx)(r:V->Hp->(Bool->Hp->Prop)->Prop):Prop:=
 ∀(pins:List (Addr×Obj)) (s:Shared) (σ:St) (H:Hp) (x:V) (v:Value) (Q:Bool->Hp->Prop),Inv X pins σ H s->RelV x v->r x H Q->
  wpAny (model X.prog X.w) X.A (truthy v) (TP X pins σ Q) X.xe s
noncomputable def yQ(r:R2)(ta tb:TE):TE:=λσ H Q=>ta σ H λx H1=>tb σ H1 λy H2=>r x y H2 Q
noncomputable def SH(r:V->Hp->VK->Prop)(ta:TE):TE:=λσ H Q=>ta σ H λx H1=>r x H1 Q
noncomputable def rI(C:Int->Int->Prop)(g:Int->Int->V):R2:=λx y H Q=>∃i j,x=.int i/\y=.int j/\C i j/\Q (g i j) H
noncomputable def sj(g:Int->Int->V):R2:=λx y H Q=>∃i j,x=.int i/\y=.int j/\Q (g i j) H
noncomputable def rU(g:Int->V):V->Hp->VK->Prop:=λx H Q=>∃i,x=.int i/\Q (g i) H
section
variable{X:Cx}{a b:Expr}{ta tb:TE}{pos:Pos}
def wL(ha:PE X a ta)(hb:PE X b tb){pins:List (Addr×Obj)}{s:Shared}{σ:St}{H:Hp}{R:V->V->Hp->Prop}(I:Inv X pins σ H s)
  (h:ta σ H λx H1=>tb σ H1 λy H2=>R x y H2) {Q:Value->Shared->Prop} {f:Value->Value->Sem Value}
  (hf:∀v u s2 x y H2,Inv X pins σ H2 s2->RelV x v->RelV y u->R x y H2->wpAny (model X.prog X.w) X.A (f v u) Q X.xe s2) :
  wpAny (model X.prog X.w) X.A (eval a X.env) (λv s₁=>wpAny (model X.prog X.w) X.A (eval b X.env) (λu s₂=>wpAny (model X.prog X.w) X.A (f v u) Q X.xe s₂) X.xe s₁) X.xe s:=by
 refine bF (ha pins s σ H _ I h) λv s1 ⟨x,H1,I1,r1,q1⟩=>?_;refine bF (hb pins s1 σ H1 _ I1 q1) λu s2 ⟨y,H2,I2,r2,q2⟩=>?_;exact hf v u s2 x y H2 I2 r1 r2 q2
def MN{op:Operator}{r:R2}(ho:dB X (binaryOp op) r)(ha:PE X a ta)(hb:PE X b tb):PE X (.BinOp a op b pos) (yQ r ta tb):=by
 intro pins s σ H Q I h;exact wpAny_BinOp (wL ha hb I h λv u s2 x y H2 I2 rx ry q=>ho pins s2 σ H2 x y v u Q I2 rx ry q)
def MO{op:UnaryOp}{r:V->Hp->VK->Prop}(ho:Hw X (unaryOp op) r)(ha:PE X a ta):PE X (.UnaryOp op a pos) (SH r ta):=by
 intro pins s σ H Q I h;exact UnaryOp_ (bF (ha pins s σ H _ I h) λv s1 ⟨x,H1,I1,r1,q1⟩=>ho pins s1 σ H1 x v Q I1 r1 q1)
def Hx{f:Value->Value->Sem Value}{C:Int->Int->Prop}{g:Int->Int->Int}
  (rule:∀(i j:Int) (t u:Tok) (s:Shared) (Q:Value->Shared->Prop) (E:Value->Shared->Prop),C i j->Q (.int (g i j) s.toks) { s with toks:=s.toks+1 }->wpAny (model X.prog X.w) X.A (f (.int i t) (.int j u)) Q E s) :
  dB X f (rI C λi j=>.int (g i j)):=by
 intro pins s σ H x y v u Q I rx ry h;obtain⟨i,j,rfl,rfl,hc,q⟩:=h;obtain⟨t,rfl⟩:=rx;obtain⟨t',rfl⟩:=ry;exact rule i j t t' s _ _ hc ⟨.int (g i j),H,I.tok _,⟨_,rfl⟩,q⟩
def Hy{f:Value->Value->Sem Value}{g:Int->Int->Int}
  (rule:∀(i j:Int) (t u:Tok) (s:Shared) (Q:Value->Shared->Prop) (E:Value->Shared->Prop),Q (.int (g i j) s.toks) { s with toks:=s.toks+1 }->wpAny (model X.prog X.w) X.A (f (.int i t) (.int j u)) Q E s) :
  dB X f (sj λi j=>.int (g i j)):=by
 intro pins s σ H x y v u Q I rx ry h;obtain⟨i,j,rfl,rfl,q⟩:=h;obtain⟨t,rfl⟩:=rx;obtain⟨t',rfl⟩:=ry;exact rule i j t t' s _ _ ⟨.int (g i j),H,I.tok _,⟨_,rfl⟩,q⟩
def Hz{f:Value->Value->Sem Value}{g:Int->Int->Bool}
  (rule:∀(i j:Int) (t u:Tok) (s:Shared) (Q:Value->Shared->Prop) (E:Value->Shared->Prop),Q (.bool (g i j)) s->wpAny (model X.prog X.w) X.A (f (.int i t) (.int j u)) Q E s) :
  dB X f (sj λi j=>.bl (g i j)):=by
 intro pins s σ H x y v u Q I rx ry h;obtain⟨i,j,rfl,rfl,q⟩:=h;obtain⟨t,rfl⟩:=rx;obtain⟨t',rfl⟩:=ry;exact rule i j t t' s _ _ ⟨.bl (g i j),H,I,rfl,q⟩
noncomputable def QW(i j:Int):Prop:=0<j/\j<1073741824
noncomputable def Bm(i j:Int):Prop:=(-(2 ^ 64)<i/\i<2 ^ 64)\/(-(2 ^ 64)<j/\j<2 ^ 64)
def Bm.ok{i j:Int}(h:Bm i j):IntMulOk i j:=by
 rcases h with ⟨h1,h2⟩|⟨h1,h2⟩
 .exact .of_left (intBits_le_64 h1 h2)
 .exact .of_right (intBits_le_64 h1 h2)
def HA:dB X (binaryOp .Add) (sj λi j=>.int (i+j)):=Hy λ_ _ _ _ _ _ _ q=>add_int q
def HB:dB X (binaryOp .Sub) (sj λi j=>.int (i - j)):=Hy λ_ _ _ _ _ _ _ q=>sub_int q
def HC:dB X (binaryOp .Mult) (rI Bm λi j=>.int (i*j)):=Hx λ_ _ _ _ _ _ _ hc q=>mul_int q hc.ok
def EF:dB X (binaryOp .FloorDiv) (rI QW λi j=>.int (i / j)):=Hx λi j _ _ _ _ _ hc q=>by
 have h1:(0:Int)<j:=hc.1;have h2:j<1073741824:=hc.2;exact floordiv_int (by omega) (by rw[Int.fdiv_eq_ediv_of_nonneg i (by omega)];exact q) (.inl (PyProof.noPylong_small (by omega)))
def HD:dB X (binaryOp .Mod) (rI (λ_ j=>0<j) λi j=>.int (i % j)):=Hx λi j _ _ _ _ _ hc q=>by
 have h1:(0:Int)<j:=hc;exact mod_int' (by omega) (by rw[Int.fmod_eq_emod_of_nonneg i (by omega)];exact q)
def SI{f:Value->Sem Value}{g:Int->Int}
  (rule:∀(i:Int) (t:Tok) (s:Shared) (Q:Value->Shared->Prop) (E:Value->Shared->Prop),Q (.int (g i) s.toks) { s with toks:=s.toks+1 }->wpAny (model X.prog X.w) X.A (f (.int i t)) Q E s) :
  Hw X f (rU λi=>.int (g i)):=by
 intro pins s σ H x v Q I rx h;obtain⟨i,rfl,q⟩:=h;obtain⟨t,rfl⟩:=rx;exact rule i t s _ _ ⟨.int (g i),H,I.tok _,⟨_,rfl⟩,q⟩
def HE:Hw X (unaryOp .USub) (rU λi=>.int (-i)):=SI λ_ _ _ _ _ q=>neg_int q
end
section
variable{X:Cx}{a b c:Expr}{ta tb:TE}{pos:Pos}
def MP:dB X (compareOp .Lt) (sj λi j=>.bl (decide (i<j))):=Hz λ_ _ _ _ _ _ _ q=>lt_int q
def MQ:dB X (compareOp .Gt) (sj λi j=>.bl (decide (j<i))):=Hz λ_ _ _ _ _ _ _ q=>gt_int q
def jH(b:Expr){op:CmpOp}(h:op≠.In:=by decide)(h2:op≠.NotIn:=by decide):behindInMarks op b=false:=by
 have e1:(op==CmpOp.In)=false:=by cases op<;>first|rfl|exact absurd rfl h
 have e2:(op==CmpOp.NotIn)=false:=by cases op<;>first|rfl|exact absurd rfl h2
 cases b<;>simp[behindInMarks,e1,e2]
def EG{op:CmpOp}{r:R2}(ho:dB X (compareOp op) r)(ha:PE X a ta)(hb:PE X b tb)(hm:behindInMarks op b=false):PE X (.Compare a [op] [b] pos) (yQ r ta tb):=by
 intro pins s σ H Q I h;exact wpAny_Compare1 (wL ha hb I h λv u s2 x y H2 I2 rx ry q=>ho pins s2 σ H2 x y v u Q I2 rx ry q) hm
noncomputable def MR(t:TE):TT:=λσ H Q=>t σ H λx H'=>∃k,x=.bl k/\Q k H'
def EH{op:CmpOp}{r:R2}(ho:dB X (compareOp op) r)(ha:PE X a ta)(hb:PE X b tb)(hm:behindInMarks op b=false):PT X (.Compare a [op] [b] pos) (MR (yQ r ta tb)):=by
 intro pins s σ H Q I h;refine wpAny_isTrue_Compare1 (bF (ha pins s σ H _ I h) λv s1 ⟨x,H1,I1,r1,q1⟩=>bF (hb pins s1 σ H1 _ I1 q1) λu s2 ⟨y,H2,I2,r2,q2⟩=>
  bF (ho pins s2 σ H2 x y v u _ I2 r1 r2 q2) λc s3 ⟨z,H3,I3,r3,k,e,q3⟩=>?_) hm
 subst e;cases r3;exact Yj ⟨H3,I3,q3⟩
noncomputable def Bo(K:PySem.W.Frag)(x:V)(H:Hp)(k:Bool):Prop:=
 match x with
 |.bA=>k=false
 |.bl b=>k=b
 |.int i=>k=(i != 0)
 |.str y=>y.length<=sizeLine/\k=((y.length:Int) != 0)
 |.yF y=>y.size<=sizeLine/\k=((y.size:Int) != 0)
 |.ref p=>(∃xs,eH K H p xs/\k = !xs.isEmpty)\/(∃xs,cV K H p xs/\k = !xs.isEmpty)\/∃kvs,H p=some (.dK kvs)/\k = !kvs.isEmpty
 |_=>False
def wN{κ:Type}{kvs:List (κ×V)}{vs:List (κ×Value)}(r:KV kvs vs):(!vs.isEmpty) = !kvs.isEmpty:=by
 cases r<;>rfl
def nV{xs:List V}{its:List Value}(r:Vals xs its):(!its.toArray.isEmpty) = !xs.isEmpty:=by
 cases r<;>simp
def jI:(sizeLine:Nat)<2 ^ 63:=by rw[WU];decide
def HF:QV X (λx H Q=>∃k,Bo X.K x H k/\Q k H):=by
 intro pins s σ H x v Q I rx h;obtain⟨k,e,q⟩:=h;have hl:=jI;have hs:sizeLine=16777216:=WU;cases x with
 |bA=>
  cases rx;have e':k=false:=e;subst e';exact truthy_none ⟨H,I,q⟩
 |bl b=>
  cases rx;have e':k=b:=e;subst e';exact Yj ⟨H,I,q⟩
 |int i=>
  obtain⟨t,rfl⟩:=rx;have e':k=(i != 0):=e;subst e';exact PySem.P.truthy_int ⟨H,I,q⟩
 |str y=>
  obtain⟨t,rfl⟩:=rx;obtain⟨hy,e'⟩:y.length<=sizeLine/\k=((y.length:Int) != 0):=e;subst e';exact PySem.P.truthy_str (by omega) ⟨H,I.tok _,q⟩
 |yF y=>
  obtain⟨t,rfl⟩:=rx;obtain⟨hy,e'⟩:y.size<=sizeLine/\k=((y.size:Int) != 0):=e;subst e';exact PySem.W.truthy_bytes (by omega) ⟨H,I.tok _,q⟩
 |ref p=>
  cases rx;have e':(∃xs,eH X.K H p xs/\k = !xs.isEmpty)\/(∃xs,cV X.K H p xs/\k = !xs.isEmpty)\/∃kvs,H p=some (.dK kvs)/\k = !kvs.isEmpty:=e;rcases e' with ⟨xs,hx,e'⟩|⟨xs,hx,e'⟩|⟨kvs,hx,e'⟩
  .subst e';obtain⟨its,r,pl,hz⟩:=I.list hx;have hlen:=r.length;exact wpAny_truthy_list pl.isList (by simp only[uB];omega) ⟨H,I.tok _,by rw[nV r];exact q⟩
  .subst e';obtain⟨its,r,pl,hz⟩:=I.tuple hx;have hlen:=r.length;exact truthy_tuple pl (by simp only[uB];omega) ⟨H,I.tok _,by rw[nV r];exact q⟩
  .subst e';obtain⟨hz,hS,vs,r,m⟩:kvs.length<=sizeLine/\(p==sysModules)=false/\∃vs,KV kvs vs/\s.heap.DictOf (pJ X.prog X.w) p vs:=I.hok p _ hx;have hlen:kvs.length=vs.length:=Paired.length r;exact wpAny_truthy_dict hS m (by omega) ⟨H,I.tok _,by rw[wN r];exact q⟩
 |_=>exact(show False from e).elim
def Bp(ha:PE X a ta)(he:∀whole,isTrue a X.env whole=(do let v <-whole;standAt a.pos;holding [v] (truthy v))) :
  PT X a (λσ H Q=>ta σ H λx H'=>∃k,Bo X.K x H' k/\Q k H'):=by
 intro pins s σ H Q I h;exact isTrue_plain (bF (ha pins s σ H _ I h) λv s1 ⟨x,H1,I1,r1,q1⟩=>HF pins s1 σ H1 x v Q I1 r1 q1) (he _)
def wO:dB X (binaryOp .Add) (λx y H Q=>∃i j,x=.str i/\y=.str j/\i.length+j.length<=sizeLine/\Q (.str (i++j)) H):=by
 intro pins s σ H x y v u Q I rx ry h;obtain⟨i,j,rfl,rfl,hz,q⟩:=h;obtain⟨t,rfl⟩:=rx;obtain⟨t',rfl⟩:=ry;exact add_str (λt' tk=>⟨.str (i++j),H,I.tok _,⟨_,rfl⟩,q⟩) hz
def vals1{x:V}{us:List Value}(r:Vals [x] us):∃u,us=[u]/\RelV x u:=by
 cases r with
 |cons r1 r2=>cases r2;exact⟨_,rfl,r1⟩
def vals2{x y:V}{us:List Value}(r:Vals [x,y] us):∃u w',us=[u,w']/\RelV x u/\RelV y w':=by
 cases r with
 |cons r1 r2=>
  cases r2 with
  |cons r3 r4=>cases r4;exact⟨_,_,rfl,r1,r3⟩
def Bq:fN X (.builtin "abs") (λxs H Q=>∃i,xs=[.int i]/\Q (.int (if i<0 then -i else i)) H):=by
 intro pins s σ H xs us Q I r h;obtain⟨i,rfl,q⟩:=h;obtain⟨u,rfl,t,rfl⟩:=vals1 r;exact call_abs_int λu tk=>⟨.int (if i<0 then -i else i),H,I.tok _,⟨_,rfl⟩,q⟩
def yR (hc:X.calm=true):fN X (.builtin "min") (λxs H Q=>∃i j,xs=[.int i,.int j]/\Q (.int (if j<i then j else i)) H):=by
 intro pins s σ H xs us Q I r h;obtain⟨i,j,rfl,q⟩:=h;obtain⟨u,w',rfl,⟨t,rfl⟩,⟨t',rfl⟩⟩:=vals2 r;refine min_two_ints (I.ok.hd hc) λh' tk k=>⟨_,H,I.kept k,?_,q⟩
 by_cases hj:j<i
 .rw[GQ hj,GQ hj];exact⟨_,rfl⟩
 .rw[Us hj,Us hj];exact⟨_,rfl⟩
end
structure gh(k:Nat)(A:Around):Prop where
 hd:A.handled=none
 dp:A.depth+3*k+5<recursionLimit
 un:A.units+16*k+200<cLine
theorem gh.deeper{k:Nat}{A:Around}(r:gh (k+1) A)(env:Env):gh k (A.deeper env):=
 ⟨r.hd,by have:=r.dp;show A.depth+1+3*k+5<_;omega,by have:=r.un;show A.units+3+16*k+200<_;omega⟩
theorem gh.depth{k:Nat}{A:Around}(r:gh k A):A.depth<recursionLimit:=by have:=r.dp;omega
noncomputable def QX:TA:=λ_ H Q=>Q [] H
noncomputable def MS(ta:TE)(tr:TA):TA:=λσ H Q=>ta σ H λx H1=>tr σ H1 λxs H2=>Q (x :: xs) H2
section
variable{X:Cx}{e:Expr}{es:List Expr}{te:TE}{t:TA}{pos:Pos}
def jJ:PA X [] QX:=λ_ _ _ _ H Q I h=>XR ⟨[],H,I,.nil,h⟩
def g9(ha:PE X e te)(hr:PA X es t)(hs:starEach (e :: es) X.env=(false,eval e X.env) :: starEach es X.env:=by rfl):PA X (e :: es) (MS te t):=by
 intro pos pins s σ H Q I h;rw[hs];show wpAny _ _ (spliced ((false,eval e X.env) :: backTo pos (starEach es X.env))) _ _ s;refine Xz (bF (ha pins s σ H _ I h) λu s1 ⟨x,H1,I1,r1,q1⟩=>?_);exact bF (hr pos pins s1 σ H1 _ I1 q1) λus s2 ⟨xs,H2,I2,r2,q2⟩=>⟨x :: xs,H2,I2,.cons r1 r2,q2⟩
noncomputable def QY(t:TA):TE:=λσ H Q=>t σ H λxs H1=>xs.length<=sizeLine/\∀p,H1 p=none->Q (.ref p) (upd H1 p (.tup xs))
noncomputable def QZ(t:TA):TE:=λσ H Q=>t σ H λxs H1=>xs.length<=sizeLine/\∀p,H1 p=none->Q (.ref p) (upd H1 p (.lst xs))
def HG{x1}(h:PA X es t):PE X (.Tuple es x1 pos) (QY t):=by
 intro pins s σ H Q I hq;refine wpAny_Tuple_spliced (bF (h pos pins s σ H _ I hq) λus s1 ⟨xs,H1,I1,r,z,q⟩=>⟨by rw[<-r.length];exact z,?_⟩);have hf:H1 s1.heap.objs.size=none:=I1.hok.fresh (Et _);refine⟨.ref s1.heap.objs.size,upd H1 s1.heap.objs.size (.tup xs),I1.laid (t':=s1.toks) (λb u e=>gV _ e) (Et _) ?_,rfl,q _ hf⟩;exact⟨z,us,r,⟨_,PY _ rfl,rfl,_,rfl⟩⟩
def HH(h:PA X es t):PE X (.List es pos) (QZ t):=by
 intro pins s σ H Q I hq;refine wpAny_List_spliced (bF (h pos pins s σ H _ I hq) λus s1 ⟨xs,H1,I1,r,z,q⟩=>⟨by rw[<-r.length];exact z,?_⟩);have hf:H1 s1.heap.objs.size=none:=I1.hok.fresh (Et _);refine⟨.ref s1.heap.objs.size,upd H1 s1.heap.objs.size (.lst xs),I1.laid (t':=s1.toks) (λb u e=>gV _ e) (Et _) ?_,rfl,q _ hf⟩;exact⟨z,us,0,r,PY _ rfl⟩
end
abbrev Sp:=List V->Hp->VK->XK->Prop
abbrev kK:=List Env->Hp->Shared->XK->Value->Shared->Prop
structure wQ(P:Program)(w:World)(K:PySem.W.Frag)(mg:Str->Option Value)(base:Heap)(A:Around)(outer:List Env)(s:Shared)(H:Hp):Prop where
 frames:A.frames=some outer
 mod:Mod K mg base
 bs:∀b o,base.get? b=some o->s.heap.get? b=some o/\H b=none
 qE:base.objs.size<=s.heap.objs.size
 iN:s.heap.FunFrames base outer
 rX:∀b∈frs outer,H b=none
 hok:fy P w H s.heap
 bare:AllBare s.gens
noncomputable def CE(outer:List Env)(P:Program)(w:World)(H:Hp)(s:Shared)(Q:VK)(u:Value)(s':Shared):Prop:=
 ∃v H',s'.os=s.os/\AllBare s'.gens/\Un (frs outer) [] H H' s.heap s'.heap/\fy P w H' s'.heap/\RelV v u/\Q v H'
noncomputable def CR(CX:kK)(outer:List Env)(P:Program)(w:World)(H:Hp)(s:Shared)(Q:VK)(E:XK)(r:Result)(s':Shared):Prop:=
 match r with
 |.ok (.ret u)=>CE outer P w H s Q u s'
 |.ok _=>False
 |.error e=>CX outer H s E e s'
structure ig(P:Program)(w:World)(K:PySem.W.Frag)(mg:Str->Option Value)(base:Heap)(CX:kK)(k:Nat)(f:Addr)(fd:FuncData)(ps:List Str)(sp:Sp):Prop where
 len:∀vs H Q E,sp vs H Q E->vs.length=ps.length
 run:∀(A:Around) (outer:List Env) (s:Shared) (H:Hp) (args:Args) (us:List Value) (vs:List V) (Q:VK) (E:XK),gh k A->wQ P w K mg base A outer s H->BindsTo s fd args (ps.zip us)->Vals vs us->sp vs H Q E->
  codeAny (model P w) A (.call (.ref f) args) (CR CX outer P w H s Q E) s
section
variable{X:Cx}{pins:List (Addr×Obj)}{σ:St}{H:Hp}{s s':Shared}
def Inv.Q0(I:Inv X pins σ H s):wQ X.prog X.w X.K X.mg X.base X.A X.stack s H:=
 ⟨I.ok.frames,I.ok.mod,I.bs,V0 I.ok.qE I.sz,I.stack,I.u5,I.hok,I.bare⟩
def Inv.after{Q:VK}{u:Value}(I:Inv X pins σ H s)(h:CE X.stack X.prog X.w H s Q u s'):EP X pins σ Q u s':=by
 obtain⟨v,H',os,bare,un,hok,r,q⟩:=h;obtain⟨hh,g,d,t,os'⟩:=s';obtain rfl:os'=s.os:=os;exact⟨v,H',I.call (h':=hh) (g':=g) (d':=d) (t':=t) (ch:=[]) un hok bare (λb z=>absurd z (by simp)),r,q⟩
end
noncomputable def MT(sp:Sp)(jg:List V)(E:XK)(t:TA):TE:=λσ H Q=>t σ H λvs H1=>sp (vs++jg) H1 Q E
noncomputable def Binds(K:PySem.W.Frag)(fd:FuncData)(ps:List Str)(ds:List Value):Prop:=
 ∀(s:Shared) (us:List Value),K.In s.heap->(us++ds).length=ps.length->BindsTo s fd ⟨us,[]⟩ (ps.zip (us++ds))
def Binds.all{K:PySem.W.Frag}{fd:FuncData}{ps:List Str}(h:∀us:List Value,us.length=ps.length->bindArgs fd ⟨us,[]⟩=pure (ps.zip us)):Binds K fd ps []:=λs us _ hl=>by
 rw[V8]at hl ⊢;exact .of_eq (h us hl)
noncomputable def Passes(CX:kK)(X:Cx)(E:XK):Prop:=∀(pins:List (Addr×Obj)) (σ:St) (H:Hp) (s:Shared) (e:Value) (s':Shared),Inv X pins σ H s->CX X.stack H s E e s'->X.xe e s'
section
variable{X:Cx}{CX:kK}{k:Nat}{f:Addr}{fd:FuncData}{ps:List Str}{sp:Sp}{jg:List V}{ds:List Value}{E:XK}{x:Str}{p pos:Pos}{e:Expr}{es:List Expr}{t:TA}
def HJ{pins:List (Addr×Obj)}{σ:St}{H:Hp}{s:Shared}{Q:VK}{us:List Value}{vs:List V}(F:ig X.prog X.w X.K X.mg X.base CX k f fd ps sp)(hr:gh k X.A)(hb:Binds X.K fd ps ds)(hd:Vals jg ds)(hx:Passes CX X E)
  (I:Inv X pins σ H s) (r:Vals vs us) (h:sp (vs++jg) H Q E):wpAny (model X.prog X.w) X.A (call (.ref f) us) (EP X pins σ Q) X.xe s:=by
 have r2:Vals (vs++jg) (us++ds):=r.append hd;have hl:(us++ds).length=ps.length:=by rw[<-r2.length];exact F.len _ _ _ _ h
 refine wpAny_call (Y8 (F.run X.A X.stack s H ⟨us,[]⟩ (us++ds) (vs++jg) Q E hr I.Q0 (hb s us I.qF hl) r2 h) λr s' hq=>?_);cases r with
 |error e=>exact hx pins σ H s e s' I hq
 |ok fl=>
  cases fl with
  |ret u=>exact I.after hq
  |next=>exact False.elim hq
  |brk=>exact False.elim hq
  |cont=>exact False.elim hq
def EI(F:ig X.prog X.w X.K X.mg X.base CX k f fd ps sp)(hr:gh k X.A)(hg:Gl X x)(hm:X.mg x=some (.ref f))(hk:PySem.W.keepIn X.K (.ref f)=true)(hb:Binds X.K fd ps ds)(hd:Vals jg ds)(hx:Passes CX X E)
  (ha:PA X (e :: es) t) (hdb:(x==("__debug__" : Str))=false:=by decide) (he:starEach (e :: es) X.env=(false,eval e X.env) :: starEach es X.env:=by rfl) (hpl:(backTo pos (starEach es X.env)).any (·.1)=false:=by rfl) :
  PE X (.Call (.Name x p) (e :: es) [] pos) (MT sp jg E t):=by
 intro pins s σ H Q I h;refine WX (u7 I hg hm ?_ hdb);refine PySem.W.callWith_K (h₀:=X.base) I.ok.mod.Dz hk (bF (ha pos pins s σ H _ I h) λus s1 ⟨vs,H1,I1,r,q⟩=>⟨I1.qF,?_⟩) he hpl;exact HJ F hr hb hd hx I1 r q
end
structure bu(N P:List Str)(sc:Scope):Prop where
 kind:sc.kind=.function
 co:sc.isCoroutine=false
 gen:sc.isGenerator=false
 nd:N.Nodup
 pre:N.take P.length=P
 par:∀x∈P,sc.names.lookup x=some .local\/sc.names.lookup x=some .cell
 HK:∀y∈sc.names,y.2≠.free
theorem qJ{kindOf:Str->Option NameKind}{x:Str}:∀{binds:List (Str×Value)}{m:Str->Option Value},(∀v,(x,v)∉binds)->bindL kindOf binds m x=m x
 |[],_,_=>rfl
 | (n,v) :: r,m,h=>by
  unfold bindL;rw[qJ λw hw=>h w (VY _ hw)];split
  .have:x≠n:=by rintro rfl;exact h v Wq
   simp[this]
  .rfl
theorem qK{kindOf:Str->Option NameKind}{x:Str}:∀{binds:List (Str×Value)}{m:Str->Option Value},(∀v,(x,v)∉binds)->bindC kindOf binds m x=m x
 |[],_,_=>rfl
 | (n,v) :: r,m,h=>by
  unfold bindC;rw[qK λw hw=>h w (VY _ hw)];split
  .rfl
  .have:x≠n:=by rintro rfl;exact h v Wq
   simp[this]
theorem qL{kindOf:Str->Option NameKind}{x:Str}{v:Value}:∀{P:List Str}{vs:List Value}{i:Nat}{m:Str->Option Value},P.Nodup->P[i]?=some x->vs[i]?=some v->kindOf x=some .local->
  bindL kindOf (P.zip vs) m x=some v
 |[],_,_,_,_,h,_,_=>by simp at h
 |_ :: _,[],_,_,_,_,h,_=>by simp at h
 |p :: P,w :: vs,0,m,nd,h1,h2,hk=>by
  simp at h1 h2;subst h1;subst h2;show bindL kindOf ((p,w) :: P.zip vs) m p=_;unfold bindL;rw[qJ λv hv=>(List.nodup_cons.mp nd).1 (YH hv).1,GQ hk];simp
 |p :: P,w :: vs,i+1,m,nd,h1,h2,hk=>by
  show bindL kindOf ((p,w) :: P.zip vs) m x=_;unfold bindL;exact qL (i:=i) (List.nodup_cons.mp nd).2 (by simpa using h1) (by simpa using h2) hk
theorem qM{kindOf:Str->Option NameKind}{x:Str}{v:Value}:∀{P:List Str}{vs:List Value}{i:Nat}{m:Str->Option Value},P.Nodup->P[i]?=some x->vs[i]?=some v->kindOf x≠some .local->
  bindC kindOf (P.zip vs) m x=some v
 |[],_,_,_,_,h,_,_=>by simp at h
 |_ :: _,[],_,_,_,_,h,_=>by simp at h
 |p :: P,w :: vs,0,m,nd,h1,h2,hk=>by
  simp at h1 h2;subst h1;subst h2;show bindC kindOf ((p,w) :: P.zip vs) m p=_;unfold bindC;rw[qK λv hv=>(List.nodup_cons.mp nd).1 (YH hv).1,Us hk];simp
 |p :: P,w :: vs,i+1,m,nd,h1,h2,hk=>by
  show bindC kindOf ((p,w) :: P.zip vs) m x=_;unfold bindC;exact qM (i:=i) (List.nodup_cons.mp nd).2 (by simpa using h1) (by simpa using h2) hk
noncomputable def start(N:List Str)(vs:List V):St:=vs.map some++List.replicate (N.length - vs.length) none
noncomputable def nj(CX:kK)(P:Program)(w:World)(K:PySem.W.Frag)(mg:Str->Option Value)(base:Heap)(N:List Str)(qual:Str)(scope:Scope)(f:Addr)(cd:Value)(A:Around)(outer:List Env)(s:Shared)(H:Hp)(E:XK):Cx where
 prog:=P
 w:=w
 K:=K
 mg:=mg
 base:=base
 A:=A.deeper (envOfC qual scope s.heap.objs.size f cd)
 N:=N
 s₀:=s
 H₀:=H
 env:=envOfC qual scope s.heap.objs.size f cd
 outer:=outer
 stack:=envOfC qual scope s.heap.objs.size f cd :: outer
 ex:=[]
 calm:=true
 fn:=λ_=>true
 pn:=[]
 xe:=λe s'=>wpAny (model P w) (A.deeper (envOfC qual scope s.heap.objs.size f cd)) (leaving (envOfC qual scope s.heap.objs.size f cd) e) (λ_ s''=>CX outer H s E e s'') (λe' s''=>CX outer H s E e' s'') s'
def sq{sc:Scope}{n:Nat}{x:Str}(h:sc.names.lookup x=some .cell):∃c,(cellsFrom n sc.names []).lookup x=some c:=by
 have q:=YJ sc.names n [] (.inl h);exact Option.isSome_iff_exists.mp q
def yS{CX:kK}{P:Program}{w:World}{K:PySem.W.Frag}{mg:Str->Option Value}{base:Heap}{N ps:List Str}{qual:Str}{scope:Scope}{f:Addr}{cd:Value}{A:Around}{outer:List Env}{s s1:Shared}{H:Hp}{E:XK}{us:List Value}{vs:List V}
  (S:bu N ps scope) (hd:A.handled=none) (e0:wQ P w K mg base A outer s H) (hl:vs.length=ps.length) (r:Vals vs us)
  (x:InCallC s s.heap.objs.size (bindL (envOfC qual scope s.heap.objs.size f cd).kindOf (ps.zip us) λ_=>none) (cellsFrom (s.heap.objs.size+1) scope.names []) (bindC (envOfC qual scope s.heap.objs.size f cd).kindOf (ps.zip us) λ_=>none) s1) :
  Inv (nj CX P w K mg base N qual scope f cd A outer s H E) [] (start N vs) H s1:=by
 have hpl:ps.length<=N.length:=by have:=VZ List.length S.pre;rw[WS]at this;omega
 obtain⟨h1,tk,rfl,hk⟩:=x.done;have yT:∀b:Addr,b∉(nj CX P w K mg base N qual scope f cd A outer s H E).ex:=λb z=>absurd (show b∈([]:List Addr)from z) (by simp);refine⟨⟨e0.mod,S.kind,rfl,rfl,Et _,λy z c h1 h2=>?_,λy hy=>?_,λy c _ h=>?_,λ_=>hd,Around.frames_deeper e0.frames,.inr ⟨rfl,rfl⟩,λb z=>absurd z (yT b),e0.bs,e0.qE,λb _ _=>yT b,λb z=>absurd z (yT b),e0.iN,e0.rX⟩,
  rfl,e0.bare,Un.kept hk,⟨_,x.toInCall.ns,λi y v h1 h2 h3=>?_⟩,λy c h=>⟨_,x.cell y c h⟩,e0.hok.fresh (Et _),λy c h=>?_,λp hp=>absurd (show p∈([]:List (Addr×Obj))from hp) (by simp),e0.hok.kept hk,?_⟩
 .exact name_of_addr x.apart (Xb h1) (Xb h2)
 .have hy:scope.names.lookup y=some .cell\/scope.names.lookup y=some .free:=hy;rcases hy with hy|hy
  .exact sq hy
  .exact absurd rfl (S.HK _ (Xb hy))
 .exact Za (x.above y c (Xb h))
 .have hi:i<vs.length:=by
   unfold start at h2;by_cases hi:i<vs.length
   .exact hi
   .rw[WI (by simpa using hi)]at h2;rw[YC]at h2;split at h2<;>cases h2
  have ha:vs[i]?=some v:=by
   unfold start at h2;rw[Sx (by simpa using hi),We]at h2;cases e:vs[i]? with
   |none=>rw[e]at h2;cases h2
   |some a=>rw[e]at h2;cases h2;rfl
  obtain⟨u,hu,rv⟩:=r.get ha;have hp:ps[i]?=some y:=by
   rw[<-S.pre,List.getElem?_take_of_lt (by omega)];exact h1
  have Pg:ps.Nodup:=by rw[<-S.pre];exact S.nd.sublist (List.take_sublist _ _)
  refine⟨u,rv,?_⟩;rcases S.par y (V9 hp)with k|k
  .exact .inl ⟨k,qL Pg hp hu k⟩
  .obtain⟨c,e⟩:=sq (n:=s.heap.objs.size+1) k;refine .inr ⟨.inl k,c,e,?_⟩;have q:=x.cell y c e;rw[qM Pg hp hu (by show scope.names.lookup y≠_;rw[k];decide)]at q;exact q
 .exact e0.hok.fresh (Za (x.above y c (Xb h)))
 .unfold start;show _=N.length;rw[VX,Wa,YU];omega
def MU{CX:kK}{P:Program}{w:World}{K:PySem.W.Frag}{mg:Str->Option Value}{base:Heap}{k:Nat}{f:Addr}{name qual:Str}{params:Arguments}{body:List Stmt}{scope:Scope}{dV kV doc pm cdv ct oc:Value}{an od:Option Addr}
  {osl:Array (Option Value)} {N ps:List Str} {sp:Sp} (lk:K.lookup f=some ⟨oc,od,.func (PySem.W.fnOf name qual params body scope dV kV doc pm an cdv ct),osl⟩) (hcd:PySem.W.codeIn K cdv qual=true) (S:bu N ps scope)
  (len:∀vs H Q E,sp vs H Q E->vs.length=ps.length)
  (hbody:∀(A:Around) (outer:List Env) (s:Shared) (H:Hp) (vs:List V) (Q:VK) (E:XK),gh k (A.deeper (envOfC qual scope s.heap.objs.size f cdv))->sp vs H Q E->
   ∃t,gY (nj CX P w K mg base N qual scope f cdv A outer s H E) body t/\t { nx:=λ_ H'=>Q .bA H',rt:=Q } (start N vs) H) :
  ig P w K mg base CX (k+1) f (PySem.W.fnOf name qual params body scope dV kV doc pm an cdv ct) ps sp:=by
 refine⟨len,λA outer s H args us vs Q E hr e0 hb r jK=>?_⟩;have hl:=len _ _ _ _ jK;have KX:K.In s.heap:=e0.mod.Dz.keeps λb o e=>(e0.bs b o e).1;have lim:s.heap.NoLimit:=e0.mod.nolimit.keeps λb o e=>(e0.bs b o e).1;have hkind:∀y∈ps.zip us,scope.names.lookup y.1=some .local\/(scope.names.lookup y.1=some .cell/\((cellsFrom (s.heap.objs.size+1) scope.names []).lookup y.1).isSome=true):=λ⟨n,v⟩ hy=>by
  rcases S.par n (YH hy).1 with q|q
  .exact .inl q
  .exact .inr ⟨q,YJ _ _ _ (.inl q)⟩
 refine codeAny_call_function hr.depth (KX _ _ lk) rfl S.co S.gen rfl (PySem.W.codeRec_of KX hcd) (hb _ _ _ _ ?_);refine wpAny_newFunctionEnv_cells S.kind hkind λenv he s1 x=>?_;subst he;refine⟨lim.keeps x.toInCall.keep,codeAny_func ?_⟩;obtain⟨t,ht,hq⟩:=hbody A outer s H vs Q E (hr.deeper _) jK;have I:Inv (nj CX P w K mg base N qual scope f cdv A outer s H E) [] (start N vs) H s1:=yS S hr.hd e0 hl r x;refine W6 (ht [] s1 (start N vs) H _ I hq) (λfl s' hs=>?_) λe s' hs=>hs;have fin:∀{σ':St} {H':Hp} {v:V} {u:Value},Inv (nj CX P w K mg base N qual scope f cdv A outer s H E) [] σ' H' s'->RelV v u->Q v H'->CE outer P w H s Q u s':=
  λ{σ' H' v u} J rv q=>⟨v,H',J.os,J.bare,J.base,J.hok,rv,q⟩
 cases fl with
 |ret u=>
  obtain⟨v,σ',H',J,rv,q⟩:=hs;exact fin J rv q
 |next=>
  obtain⟨σ',H',J,q⟩:=hs;exact fin (v:=V.bA) (u:=Value.none) J rfl q
 |brk=>
  obtain⟨_,_,_,q⟩:=hs;exact False.elim q
 |cont=>
  obtain⟨_,_,_,q⟩:=hs;exact False.elim q
section
variable{X:Cx}{x:Str}{p pos:Pos}{e:Expr}{es:List Expr}{t:TA}{id T:String}{r:List V->Hp->VK->Prop}
noncomputable def HL(r:List V->Hp->VK->Prop)(t:TA):TE:=λσ H Q=>t σ H λvs H1=>r vs H1 Q
def Br (hc:fN X (.builtin id) r) (hg:Gl X x) (hm:X.mg x=none) (hv:bootBuiltins x=some (.builtin id)) (ha:PA X (e :: es) t) (hn:x≠"__name__" :=by decide) (hdb:(x==("__debug__" : Str))=false:=by decide)
  (he:starEach (e :: es) X.env=(false,eval e X.env) :: starEach es X.env:=by rfl) (hpl:(backTo pos (starEach es X.env)).any (·.1)=false:=by rfl):PE X (.Call (.Name x p) (e :: es) [] pos) (HL r t):=by
 intro pins s σ H Q I h;refine WX (fz I hg hm hv ?_ hn hdb);exact PyProof.Rows.callWith_builtin1 (bF (ha pos pins s σ H _ I h) λus s1 ⟨vs,H1,I1,r1,q1⟩=>hc pins s1 σ H1 vs us Q I1 r1 q1) he hpl
def yU (hc:fN X (.type T) r) (hg:Gl X x) (hm:X.mg x=none) (hv:bootBuiltins x=some (.type T)) (ha:PA X (e :: es) t) (hn:x≠"__name__" :=by decide) (hdb:(x==("__debug__" : Str))=false:=by decide)
  (he:starEach (e :: es) X.env=(false,eval e X.env) :: starEach es X.env:=by rfl) (hpl:(backTo pos (starEach es X.env)).any (·.1)=false:=by rfl):PE X (.Call (.Name x p) (e :: es) [] pos) (HL r t):=by
 intro pins s σ H Q I h;refine WX (fz I hg hm hv ?_ hn hdb);exact V2 (bF (ha pos pins s σ H _ I h) λus s1 ⟨vs,H1,I1,r1,q1⟩=>hc pins s1 σ H1 vs us Q I1 r1 q1) he hpl
end
end L2
namespace HT
open PySem PyProof.Rows
section
variable{prog:Program}{w:World}{A:Around}{E:Value->Shared->Prop}{s:Shared}
def EJ{t b:Addr}{vs ws:List Value}{Q:Value->Shared->Prop}(ht:IsTup s.heap t vs.toArray)(hb:IsTup s.heap b ws.toArray)(hv:vs≠[])
  (h1:ws=[]->Q (.ref t) s) (h2:ws≠[]->Q (.ref s.heap.objs.size) { s with heap:=s.heap.push { cls:=.type "tuple",data:=.seq (vs++ws).toArray }})
  (hsz:vs.length+ws.length<=sizeLine):wpAny (model prog w) A (binaryOp .Add (.ref t) (.ref b)) Q E s:=by
 obtain⟨⟨cls,dd,data,sl⟩,ho,hc,n,hd⟩:=id ht;obtain⟨⟨Q2,dd2,data2,sl2⟩,ho2,hc2,n2,hd2⟩:=id hb;simp only at hc hd hc2 hd2;subst hc hd hc2 hd2;have e:vs.toArray++ws.toArray=(vs++ws).toArray:=by simp
 by_cases hw:ws=[]
 .exact Y7 ⟨_,ho,rfl⟩ ⟨_,ho2,rfl⟩ Yt Y0 XT XN (XC _ _)
   (tuple_addW1 t b vs.toArray ws.toArray n n2 dd dd2 sl sl2 (by simpa using hv) (by simp[hw])) ⟨ho,ho2,h1 hw⟩
 .refine Y7 ⟨_,ho,rfl⟩ ⟨_,ho2,rfl⟩ Yt Y0 XT XN (XC _ _)
   (tuple_addW2 t b vs.toArray ws.toArray n n2 dd dd2 sl sl2 (by simpa using hv) (by simpa using hw) (by rw[uB,uB];exact hsz)) ⟨ho,ho2,?_⟩
  rw[e];exact h2 hw
noncomputable def aL(n d:Nat):Option Int->Nat
 |none=>d
 |some v=>if v<0 then (v+(n:Int)).toNat else min v.toNat n
def su(n d:Nat)(hd:d<=n)(o:Option Int):aL n d o<=n:=by
 cases o with
 |none=>exact hd
 |some v=>
  show(if v<0 then (v+(n:Int)).toNat else min v.toNat n)<=n;by_cases hv:v<0
  .rw[GQ hv];omega
  .rw[Us hv];exact Nat.min_le_right _ _
def vd(v:Int)(n d:Nat):(if v<0 then max (v+(n:Int)) 0 else min v (n:Int))=((aL n d (some v):Nat):Int):=by
 show(if v<0 then max (v+(n:Int)) 0 else min v (n:Int))=(((if v<0 then (v+(n:Int)).toNat else min v.toNat n):Nat):Int)
 by_cases hv:v<0
 .simp only[GQ hv];omega
 .simp only[Us hv];omega
def wR(lo hi:Option Int)(n:Nat):Builtin.Slice.sliceAdjust lo hi 1 (n:Int)=(((aL n 0 lo:Nat):Int),((aL n n hi:Nat):Int)):=by
 have h1:¬ ((1:Int)<0):=by omega
 unfold Builtin.Slice.sliceAdjust;simp only[h1,WE];refine Prod.ext ?_ ?_
 .cases lo with
  |none=>rfl
  |some v=>exact vd v n 0
 .cases hi with
  |none=>rfl
  |some v=>exact vd v n n
def wU(i j:Nat):Builtin.Slice.slicePlaces (i:Int) (j:Int) 1=j - i:=by
 unfold Builtin.Slice.slicePlaces;have h1:(1:Int) > 0:=by omega
 simp only[h1,Wf,Int.ediv_one];split<;>omega
def gG{v:Value}{o:Option Int}{Q:Option Int->Shared->Prop}(p:IsPart v o)(h:Q o s):wpAny (model prog w) A (Builtin.Slice.slicePartIndex v) Q E s:=by
 cases p with
 |none=>exact slicePart_none h
 |int i t=>exact slicePart_int h
def jh{sl:Addr}{vl vu:Value}{lo hi:Option Int}{n:Nat}{Q:Int×Int×Nat->Shared->Prop}(hs:s.heap.IsSliceOf sl vl vu .none)(pl:IsPart vl lo)(pu:IsPart vu hi)
  (h:Q (((aL n 0 lo:Nat):Int),1,aL n n hi - aL n 0 lo) s):wpAny (model prog w) A (Builtin.Slice.sliceApplied (.ref sl) (pure (n:Int))) Q E s:=by
 obtain⟨os,hos,hcs,hds⟩:=id hs;unfold Builtin.Slice.sliceApplied Builtin.Slice.sliceFields;refine fK (fK (V6 hos hds (x:=vl) rfl (fK (V6 hos hds (x:=vu) rfl (fK (V6 hos hds (x:=.none) rfl (pe ?_)))))));refine fK (slicePart_none ?_);show wpAny _ _ (if ((1:Int)==0)=true then _ else _) _ _ s;rw[Us (by decide)];refine fK (gG pl (fK (gG pu (fK (pe ?_)))));show wpAny _ _ (match Builtin.Slice.sliceAdjust lo hi 1 (n:Int)with | (lo,hi)=>pure (lo,(1:Int),Builtin.Slice.slicePlaces lo hi 1)) _ _ s;rw[wR lo hi n];show wpAny _ _ (pure (((aL n 0 lo:Nat):Int),(1:Int),Builtin.Slice.slicePlaces ((aL n 0 lo:Nat):Int) ((aL n n hi:Nat):Int) 1)) _ _ s;rw[wU];exact pe h
def Bs(xs:Array Value)(i k:Nat):((List.range k).filterMap λ(m:Nat)=>xs[((i:Int)+(m:Int)*1).toNat]?).toArray=((xs.toList.drop i).take k).toArray:=by
 have e:(λ(m:Nat)=>xs[((i:Int)+(m:Int)*1).toNat]?)=λm=>xs[i+m]?:=by
  funext m
  have:((i:Int)+(m:Int)*1).toNat=i+m:=by omega
  rw[this]
 rw[e];have:=pick_run xs i k;rw[Zh]at this;have e2:((λx=>xs[x]?) ∘ λx=>i+x)=λm=>xs[i+m]?:=rfl;rw[e2]at this;rw[this]
def mU{t sl:Addr}{items:Array Value}{vl vu:Value}{lo hi:Option Int}{Q:Value->Shared->Prop}(ht:IsTup s.heap t items)(hs:s.heap.IsSliceOf sl vl vu .none)(pl:IsPart vl lo)(pu:IsPart vu hi)
  (hw:¬ (aL items.size 0 lo=0/\aL items.size items.size hi=items.size))
  (h:Q (.ref s.heap.objs.size) { s with heap:=s.heap.push { cls:=.type "tuple",data:=.seq ((items.toList.drop (aL items.size 0 lo)).take (aL items.size items.size hi - aL items.size 0 lo)).toArray }})
  (hsz:items.size<=sizeLine):wpAny (model prog w) A (getItem (.ref t) (.ref sl)) Q E s:=by
 have iU:sizeOk (.seq ((items.toList.drop (aL items.size 0 lo)).take (aL items.size items.size hi - aL items.size 0 lo)).toArray):=by
  show((items.toList.drop (aL items.size 0 lo)).take (aL items.size items.size hi - aL items.size 0 lo)).toArray.size<=sizeLine;rw[uB,WS,Xa,Xd];omega
 have hj:aL items.size items.size hi<=items.size:=su _ _ (Et _) hi;obtain⟨os,hos,hcs,hds⟩:=id hs;have yV:s.TypeIs (.ref sl) "slice" :=⟨os,hos,hcs⟩
 unfold getItem;try with_reducible refine WO ?_
 first|refine fK (pe ?_)|skip
 refine fK (Yk ht.typeIs (by decide) ?_);refine fK (Ww (name:=Str.ofString "__getitem__") ht.typeIs Wk
  (Wx Wk ht.typeIs X6 ?_ (Yd _ _)))
 show wpAny _ _ (Builtin.Tuple.tupleItemsOf (.ref t) >>= _) _ _ s;refine fK (tupleItemsOf_ ht ?_);refine fK (Xh yV ?_);rw[GQ (by decide)];refine fK (jh hs pl pu ?_);have hno:¬ ((((aL items.size 0 lo:Nat):Int)==0&&(1:Int)==1&&(aL items.size items.size hi - aL items.size 0 lo)==items.size)=true):=by
  intro q;rw[Lf,Lf]at q;have q1:((aL items.size 0 lo:Nat):Int)=0:=eq_of_beq q.1.1;have q2:aL items.size items.size hi - aL items.size 0 lo=items.size:=eq_of_beq q.2;exact hw ⟨by omega,by omega⟩
 show wpAny _ _ (if (((aL items.size 0 lo:Nat):Int)==0&&(1:Int)==1&&(aL items.size items.size hi - aL items.size 0 lo)==items.size)=true then _ else _) _ _ s;rw[Us hno,Bs];first
  |exact fK (m:=Builtin.Tuple.tupleExact _) (V5 (pe ⟨_,rfl,pe h⟩) iU)
  |exact fK (m:=Builtin.Tuple.tupleExact _) (V5 (fK (pe (pe ⟨_,rfl,pe h⟩))) iU)
  |exact fK (fK (m:=Builtin.Tuple.tupleExact _) (V5 (pe (pe ⟨_,rfl,pe h⟩)) iU))
  |exact fK (fK (m:=Builtin.Tuple.tupleExact _) (V5 (pe ⟨_,rfl,pe h⟩) iU))
end
end HT
namespace L2
open PySem PySem.Spec PyProof.Rows
abbrev TO:=St->Hp->(Option Int->Hp->Prop)->Prop
noncomputable def PO(X:Cx)(e:Option Expr)(t:TO):Prop:=
 ∀(pins:List (Addr×Obj)) (s:Shared) (σ:St) (H:Hp) (Q:Option Int->Hp->Prop),Inv X pins σ H s->t σ H Q->
  wpAny (model X.prog X.w) X.A (evalPart e X.env) (λu s'=>∃o H',Inv X pins σ H' s'/\IsPart u o/\Q o H') X.xe s
noncomputable def EK:TO:=λ_ H Q=>Q none H
noncomputable def MV(t:TE):TO:=λσ H Q=>t σ H λx H1=>∃i,x=.int i/\Q (some i) H1
section
variable{X:Cx}{e:Expr}{te:TE}{lo hi:Option Expr}{tl th:TO}{pos p2:Pos}
def EL:PO X none EK:=by
 intro pins s σ H Q I h;rw[Y3];exact pe ⟨none,H,I,.none,h⟩
def ve(h:PE X e te):PO X (some e) (MV te):=by
 intro pins s σ H Q I hw;rw[evalPart_some];refine bF (h pins s σ H _ I hw) λu s1 ⟨x,H1,I1,r1,q1⟩=>?_;obtain⟨i,rfl,q⟩:=q1;obtain⟨t,rfl⟩:=r1;exact⟨some i,H1,I1,.int i t,q⟩
noncomputable def jL(X:Cx)(r:V->Option Int->Option Int->Hp->VK->Prop):Prop:=
 ∀(pins:List (Addr×Obj)) (s:Shared) (σ:St) (H:Hp) (x:V) (v vl vu:Value) (lo hi:Option Int) (sl:Addr) (Q:VK),Inv X pins σ H s->RelV x v->s.heap.IsSliceOf sl vl vu .none->IsPart vl lo->IsPart vu hi->r x lo hi H Q->
  ∃T id,typeLookup (.type T) "__getitem__" = pure (some (.builtin id))/\s.TypeIs v T/\wpAny (model X.prog X.w) X.A (getItem v (.ref sl)) (EP X pins σ Q) X.xe s
noncomputable def SJ(r:V->Option Int->Option Int->Hp->VK->Prop)(te:TE)(tl th:TO):TE:=λσ H Q=>te σ H λx H1=>tl σ H1 λl H2=>th σ H2 λu H3=>r x l u H3 Q
def Bt{r:V->Option Int->Option Int->Hp->VK->Prop}(hr:jL X r)(he:PE X e te)(hl:PO X lo tl)(hu:PO X hi th):PE X (.Subscript e (.Slice lo hi none p2) pos) (SJ r te tl th):=by
 intro pins s σ H Q I h;refine Subscript_ (bF (he pins s σ H _ I h) λv s1 ⟨x,H1,I1,r1,q1⟩=>?_);refine wpAny_Slice (bF (hl pins s1 σ H1 _ I1 q1) λvl s2 ⟨l,H2,I2,pl,q2⟩=>bF (hu pins s2 σ H2 _ I2 q2) λvu s3 ⟨u,H3,I3,pu,q3⟩=>?_);rw[Y3];refine pe ?_;have I4:Inv X pins σ H3 { s3 with heap:=s3.heap.push { cls:=.type "slice",data:=.fields #[vl,vu,.none]}}:=I3.kept (t':=s3.toks) λb ob q=>gV _ q;obtain⟨T,id,hT,ht,hg⟩:=hr pins { s3 with heap:=s3.heap.push { cls:=.type "slice",data:=.fields #[vl,vu,.none]}} σ H3 x v vl vu l u s3.heap.objs.size Q I4 r1 (Heap.IsSliceOf.new ..) pl pu q3;show wpAny (model X.prog X.w) X.A (subscriptTail e (.Slice lo hi none p2) v (.ref s3.heap.objs.size)) (EP X pins σ Q) X.xe { s3 with heap:=s3.heap.push { cls:=.type "slice",data:=.fields #[vl,vu,.none]}};exact tail_any (ops:=[.ref s3.heap.objs.size,v]) ht hT hg (by with_unfolding_all rfl)
noncomputable def kY(xs:List V)(lo hi:Option Int):List V:=(xs.drop (HT.aL xs.length 0 lo)).take (HT.aL xs.length xs.length hi - HT.aL xs.length 0 lo)
def mW(xs:List V)(lo hi:Option Int):(kY xs lo hi).length<=xs.length:=by
 unfold kY;rw[WS,Xa];omega
noncomputable def Q3(K:PySem.W.Frag):V->Option Int->Option Int->Hp->VK->Prop:=λx lo hi H Q=>∃a xs,x=.ref a/\cV K H a xs/\
 ¬ (HT.aL xs.length 0 lo=0/\HT.aL xs.length xs.length hi=xs.length)/\∀p,H p=none->Q (.ref p) (upd H p (.tup (kY xs lo hi)))
def HM:jL X (Q3 X.K):=by
 intro pins s σ H x v vl vu lo hi sl Q I rx hs pl pu h;obtain⟨a,xs,rfl,hx,hw,q⟩:=h;cases rx;obtain⟨its,r,ht,hz⟩:=I.tuple hx;have hlen:its.toArray.size=xs.length:=by rw[uB];exact r.length.symm
 refine⟨"tuple",_,PyProof.Rows.slot_tuple_getitem.lookup,ht.typeIs,?_⟩;refine HT.mU ht hs pl pu (by rw[hlen];exact hw) ?_ (by rw[hlen];exact hz);rw[hlen];refine⟨.ref s.heap.objs.size,_,I.laid (t':=s.toks) (o:=.tup (kY xs lo hi)) (λb ob q=>gV _ q) (Et _) ?_,rfl,q _ (I.hok.fresh (Et _))⟩;exact⟨V0 (mW xs lo hi) hz,_,(r.drop (HT.aL xs.length 0 lo)).take (HT.aL xs.length xs.length hi - HT.aL xs.length 0 lo),YD _ _⟩
noncomputable def MW(K:PySem.W.Frag):R2:=λx y H Q=>∃a b xs ys,x=.ref a/\y=.ref b/\cV K H a xs/\cV K H b ys/\xs≠[]/\xs.length+ys.length<=sizeLine/\
 (ys=[]->Q (.ref a) H)/\(ys≠[]->∀p,H p=none->Q (.ref p) (upd H p (.tup (xs++ys))))
def Vals.pM{xs:List V}{us:List Value}(r:Vals xs us):us=[]↔xs=[]:=by
 cases r with
 |nil=>simp
 |cons _ _=>simp
def EM:dB X (binaryOp .Add) (MW X.K):=by
 intro pins s σ H x y v u Q I rx ry h;obtain⟨a,b,xs,ys,rfl,rfl,ha,hb,hx,hz,q1,q2⟩:=h;cases rx;cases ry;obtain⟨its,r1,p1,_⟩:=I.tuple ha;obtain⟨its2,r2,p2,_⟩:=I.tuple hb;refine HT.EJ p1 p2 (λz=>hx (r1.pM.mp z)) (λz=>⟨.ref a,H,I,rfl,q1 (r2.pM.mp z)⟩) (λz=>?_) (by rw[<-r1.length,<-r2.length];exact hz);refine⟨.ref s.heap.objs.size,_,I.laid (t':=s.toks) (o:=.tup (xs++ys)) (λb ob q=>gV _ q) (Et _) ?_,rfl,q2 (λw=>z (r2.pM.mpr w)) _ (I.hok.fresh (Et _))⟩;exact⟨by rw[VX];exact hz,_,r1.append r2,YD _ _⟩
end
noncomputable def cR(n:Nat)(i:Int):Option Nat:=if 0<=i then (if i<n then some i.toNat else none)else if -(n:Int)<=i then some (i+n).toNat else none
noncomputable def bx{α:Type}(xs:List α)(i:Int):Option α:=(cR xs.length i).bind λj=>xs[j]?
def EN{n:Nat}{i:Int}{j:Nat}(h:cR n i=some j):seqIndex? i n=some j/\j<n/\-(n:Int)<=i/\i<n:=by
 unfold cR at h;by_cases h0:0<=i
 .rw[GQ h0]at h;by_cases h1:i<n
  .rw[GQ h1]at h;have e:i.toNat=j:=RG h;exact⟨by rw[seqIndex_of h0 h1,e],by omega,by omega,h1⟩
  .rw[Us h1]at h;cases h
 .rw[Us h0]at h;by_cases h1:-(n:Int)<=i
  .rw[GQ h1]at h;have e:(i+n).toNat=j:=RG h;exact⟨by rw[seqIndex_neg (by omega) h1,e],by omega,h1,by omega⟩
  .rw[Us h1]at h;cases h
def pN{α:Type}{xs:List α}{i:Int}{v:α}(h:bx xs i=some v):∃j,seqIndex? i xs.length=some j/\xs[j]?=some v/\j<xs.length/\-(xs.length:Int)<=i/\i<xs.length:=by
 unfold bx at h;cases e:cR xs.length i with
 |none=>rw[e]at h;cases h
 |some j=>
  rw[e]at h;obtain⟨h1,h2,h3,h4⟩:=EN e;exact⟨j,h1,h,h2,h3,h4⟩
def jM{α:Type}{xs:List α}{j:Nat}{v:α}(h:xs[j]?=some v):bx xs (j:Int)=some v:=by
 have hj:j<xs.length:=(List.getElem?_eq_some_iff.mp h).1;have e:cR xs.length (j:Int)=some j:=by
  unfold cR;rw[GQ (by omega),GQ (by omega)];simp
 unfold bx;rw[e];exact h
noncomputable def pO(b:Expr):Prop:=∀o i,subscripted b false o i=operate [o,i] (getItem o i)
noncomputable def vf(X:Cx)(r:R2):Prop:=
 ∀(value slice:Expr) (pins:List (Addr×Obj)) (s:Shared) (σ:St) (H:Hp) (x y:V) (v u:Value) (Q:VK),Inv X pins σ H s->RelV x v->RelV y u->r x y H Q->
  subscripted slice false v u=operate [v,u] (getItem v u)->wpAny (model X.prog X.w) X.A (subscriptTail value slice v u) (EP X pins σ Q) X.xe s
noncomputable def qN(X:Cx)(id:String)(r:V->List V->Hp->VK->Prop):Prop:=
 ∀(pins:List (Addr×Obj)) (s:Shared) (σ:St) (H:Hp) (x:V) (xs:List V) (v:Value) (us:List Value) (Q:VK),Inv X pins σ H s->RelV x v->Vals xs us->r x xs H Q->
  wpAny (model X.prog X.w) X.A (call (.builtin id) (v :: us)) (EP X pins σ Q) X.xe s
section
variable{X:Cx}{a b:Expr}{ta tb:TE}{pos:Pos}
def MX{r:R2}(hr:vf X r)(ha:PE X a ta)(hb:PE X b tb)(hs:pO b):PE X (.Subscript a b pos) (yQ r ta tb):=by
 intro pins s σ H Q I h;exact Subscript_ (wL ha hb I h λv u s2 x y H2 I2 rx ry q=>hr a b pins s2 σ H2 x y v u Q I2 rx ry q (hs _ _))
noncomputable def Q4(K:PySem.W.Frag):R2:=λx y H Q=>∃p xs i v,x=.ref p/\y=.int i/\eH K H p xs/\bx xs i=some v/\Q v H
noncomputable def Q5(K:PySem.W.Frag):R2:=λx y H Q=>∃p xs i v,x=.ref p/\y=.int i/\cV K H p xs/\bx xs i=some v/\Q v H
noncomputable def Q6:R2:=λx y H Q=>∃z i c,x=.str z/\y=.int i/\z.length<=sizeLine/\bx z.cps.toList i=some c/\Q (.str ⟨#[c]⟩) H
def EO:vf X (Q4 X.K):=by
 intro value slice pins s σ H x y v u Q I rx ry h hs;obtain⟨p,xs,i,z,rfl,rfl,hq,he,q⟩:=h;cases rx;obtain⟨t,rfl⟩:=ry;obtain⟨its,r,pl,hz⟩:=I.list hq;obtain⟨j,h1,h2,h3,h4,h5⟩:=pN he;obtain⟨w,ew,rw'⟩:=r.get h2;have hl:=r.length;have hn:=jI;have fin:EP X pins σ Q w s:=⟨z,H,I,rw',q⟩
 by_cases h0:0<=i
 .have hj:i.toNat=j:=by
   rw[seqIndex_of h0 h5]at h1;exact RG h1
  exact item_listR pl.isList h0 (by omega) (by rw[hj];simpa using ew) fin hs
 .have hj:(i+(its.toArray.size:Int)).toNat=j:=by
   rw[seqIndex_neg (by omega) h4]at h1;rw[uB,<-hl];exact RG h1
  exact subscriptTail_builtinR (x:=w) pl.isList.typeIs slot_list_getitem.lookup
   (wpAny_getItem_list_neg (Q:=λr s'=>r=w/\EP X pins σ Q r s') pl.isList (by omega) (by rw[uB]<;>omega) (by omega) (by rw[hj];simpa using ew) ⟨rfl,fin⟩) hs
def HN:vf X (Q5 X.K):=by
 intro value slice pins s σ H x y v u Q I rx ry h hs;obtain⟨p,xs,i,z,rfl,rfl,hq,he,q⟩:=h;cases rx;obtain⟨t,rfl⟩:=ry;obtain⟨its,r,pl,hz⟩:=I.tuple hq;obtain⟨j,h1,h2,h3,h4,h5⟩:=pN he;obtain⟨w,ew,rw'⟩:=r.get h2;have hl:=r.length;have hn:=jI;have fin:EP X pins σ Q w s:=⟨z,H,I,rw',q⟩
 exact subscriptTail_builtinR (x:=w) pl.typeIs slot_tuple_getitem.lookup
  (getItem_tuple (j:=j) (Q:=λr s'=>r=w/\EP X pins σ Q r s') pl (by omega) (by omega) (by rw[uB,<-hl];exact h1) (by simpa using ew) ⟨rfl,fin⟩) hs
def HQ:vf X Q6:=by
 intro value slice pins s σ H x y v u Q I rx ry h hs;obtain⟨z,i,c,rfl,rfl,hz,he,q⟩:=h;obtain⟨t,rfl⟩:=rx;obtain⟨t',rfl⟩:=ry;obtain⟨j,h1,h2,h3,h4,h5⟩:=pN he;have hl:z.cps.toList.length=z.length:=by simp[Str.length]
 rw[hl]at h1 h4 h5;have hn:=jI;exact tail_any (YW s z t) slot_str_getitem.lookup (getItem_str (c:=c) (by
  have e1:decide (i < -(2 ^ 63:Int))=false:=Wh (by omega);have e2:decide (i≥2 ^ 63)=false:=Wh (by omega);rw[e1,e2,Bool.or_false]) (by rw[h1];simpa using h2) ⟨.str ⟨#[c]⟩,H,I.tok _,⟨_,rfl⟩,q⟩) hs
def sy(lo hi:Option Int)(n:Nat):(sliceBounds lo hi none n).1=((HT.aL n 0 lo:Nat):Int)/\(sliceBounds lo hi none n).2.1=((HT.aL n n hi:Nat):Int)/\(sliceBounds lo hi none n).2.2=1:=by
 refine⟨?_,?_,rfl⟩
 .cases lo with
  |none=>simp[sliceBounds,HT.aL]
  |some i=>
   simp only[sliceBounds,HT.aL,Zr,show(1:Int) > 0 by decide,Wf];by_cases h:i<0
   .simp only[h,Wf]<;>omega
   .simp only[h,WE]<;>omega
 .cases hi with
  |none=>simp[sliceBounds,HT.aL]
  |some i=>
   simp only[sliceBounds,HT.aL,Zr,show(1:Int) > 0 by decide,Wf];by_cases h:i<0
   .simp only[h,Wf]<;>omega
   .simp only[h,WE]<;>omega
def rC(its:List Value)(lo hi:Option Int):slicePick its.toArray lo hi none=((its.drop (HT.aL its.length 0 lo)).take (HT.aL its.length its.length hi - HT.aL its.length 0 lo)).toArray:=by
 obtain⟨h1,h2,h3⟩:=sy lo hi its.toArray.size;unfold slicePick;rw[h1,h2,h3];simp only[sliceRange_one,pick_run,uB]<;>rfl
noncomputable def Q7(K:PySem.W.Frag):V->Option Int->Option Int->Hp->VK->Prop:=λx lo hi H Q=>∃a xs,x=.ref a/\eH K H a xs/\∀p,H p=none->Q (.ref p) (upd H p (.lst (kY xs lo hi)))
def ER:jL X (Q7 X.K):=by
 intro pins s σ H x v vl vu lo hi sl Q I rx hs pl pu h;obtain⟨a,xs,rfl,hx,q⟩:=h;cases rx;obtain⟨its,r,ht,hz⟩:=I.list hx;have hlen:=r.length;refine⟨"list",_,slot_list_getitem.lookup,ht.isList.typeIs,?_⟩;refine YA ht.isList hs pl pu .none (by simp) ?_ (by rw[uB]<;>omega);rw[rC,<-hlen];refine⟨.ref s.heap.objs.size,_,I.laid (t':=s.toks) (o:=.lst (kY xs lo hi)) (λb ob q=>gV _ q) (Et _) ?_,rfl,q _ (I.hok.fresh (Et _))⟩;exact⟨V0 (mW xs lo hi) hz,_,0,(r.drop (HT.aL xs.length 0 lo)).take (HT.aL xs.length xs.length hi - HT.aL xs.length 0 lo),PY _ rfl⟩
noncomputable def rF:V->Bool
 |.bA=>true
 |.bl _=>true
 |.int _=>true
 |.str _=>true
 |_=>false
def kZ:fN X (.builtin "len") (λxs H Q=>∃p ys,xs=[.ref p]/\(eH X.K H p ys\/cV X.K H p ys)/\Q (.int ys.length) H):=by
 intro pins s σ H xs us Q I r h;obtain⟨p,ys,rfl,hq,q⟩:=h;obtain⟨u,rfl,rx⟩:=vals1 r;cases rx;have hn:=jI;rcases hq with hq|hq
 .obtain⟨its,r',pl,hz⟩:=I.list hq;have hlen:=r'.length;exact Calls.call_len_list pl.isList (by simp only[uB]<;>omega) ⟨.int ys.length,H,I.tok _,⟨s.toks+1,by rw[uB,hlen]⟩,q⟩
 .obtain⟨its,r',pl,hz⟩:=I.tuple hq;have hlen:=r'.length;exact len_tuple pl (by simp only[uB]<;>omega) ⟨.int ys.length,H,I.tok _,⟨s.toks+1,by rw[uB,hlen]⟩,q⟩
def sA:fN X (.builtin "len") (λxs H Q=>∃z,xs=[.str z]/\z.length<=sizeLine/\Q (.int z.length) H):=by
 intro pins s σ H xs us Q I r h;obtain⟨z,rfl,hz,q⟩:=h;obtain⟨u,rfl,t,rfl⟩:=vals1 r;have hn:=jI;exact WQ (by omega) ⟨.int z.length,H,I.tok _,⟨_,rfl⟩,q⟩
def kL:fN X (.type "tuple") (λxs H Q=>∃p ys,xs=[.ref p]/\((eH X.K H p ys/\∀l,H l=none->Q (.ref l) (upd H l (.tup ys)))\/(cV X.K H p ys/\Q (.ref p) H))):=by
 intro pins s σ H xs us Q I r h;obtain⟨p,ys,rfl,h⟩:=h;obtain⟨u,rfl,rx⟩:=vals1 r;cases rx;rcases h with ⟨hq,q⟩|⟨hq,q⟩
 .obtain⟨its,r',pl,hz⟩:=I.list hq;have hlen:=r'.length;refine call_tuple_list pl.isList (λh' kp=>?_) (by simp only[uB]<;>omega);have I1:Inv X pins σ H { s with heap:=h' }:=I.kept (t':=s.toks) kp;have I2:Inv X pins σ (upd H h'.objs.size (.tup ys)) { s with heap:=h'.push { cls:=.type "tuple",data:=.seq its.toArray }}:=
   I1.laid (t':=s.toks) (λb o e=>gV _ e) (Et _) (show fc X.prog X.w _ _ _ (.tup ys)from ⟨hz,its,r',YD _ _⟩)
  exact⟨.ref h'.objs.size,_,I2,rfl,q _ (I1.hok.fresh (Et _))⟩
 .obtain⟨its,r',pl,hz⟩:=I.tuple hq;exact call_tuple_same pl ⟨.ref p,H,I,rfl,q⟩
noncomputable def yW(K:PySem.W.Frag)(T:String)(x:V)(H:Hp):Prop:=match x with
 |.str _=>T = "str"
 |.int _=>T = "int"
 |.ref p=>(T = "list" /\∃xs,eH K H p xs)\/(T = "tuple" /\∃o,K.lookup p=some o/\o.cls=.type "tuple" /\o.dict=none)\/
   (T = "dict" /\((∃kvs,H p=some (.dK kvs))\/∃kvs,H p=some (.dT kvs)))\/(T = "set" /\∃S n,H p=some (.set S n))
 |_=>False
def yX{pins:List (Addr×Obj)}{σ:St}{H:Hp}{s:Shared}{T:String}{x:V}{v:Value}(I:Inv X pins σ H s)(r:RelV x v)(ty:yW X.K T x H) :
  s.TypeIs v T/\∀a,v=.ref a->∃ob,s.heap.get? a=some ob/\ob.dict=none:=by
 cases x with
 |str z=>
  obtain⟨t,rfl⟩:=r;cases (show T = "str" from ty);exact⟨YW s z t,λ_ e=>nomatch e⟩
 |int i=>
  obtain⟨t,rfl⟩:=r;cases (show T = "int" from ty);exact⟨Yn s i t,λ_ e=>nomatch e⟩
 |ref p=>
  cases r;rcases ty with ⟨rfl,xs,hq⟩|⟨rfl,o,hk,hc,hd⟩|⟨rfl,hk⟩|⟨rfl,S,n,hk⟩
  .obtain⟨its,_,pl,_⟩:=I.list hq;refine⟨pl.isList.typeIs,λa e=>?_⟩;cases e;obtain⟨o,n,e,c,hd,_⟩:=pl;exact⟨o,e,hd⟩
  .refine⟨⟨o,I.qF p o hk,hc⟩,λa e=>?_⟩;cases e;exact⟨o,I.qF _ o hk,hd⟩
  .have z:∃o,s.heap.get? p=some o/\o.ExactDict:=by
    rcases hk with ⟨kvs,hk⟩|⟨kvs,hk⟩
    .obtain⟨_,_,_,_,o,_,_,e,ex,_⟩:=I.hok p _ hk;exact⟨o,e,ex⟩
    .obtain⟨_,_,_,_,o,_,_,e,ex,_⟩:=I.hok p _ hk;exact⟨o,e,ex⟩
   obtain⟨o,e,ex⟩:=z;refine⟨⟨o,e,ex.1⟩,λa e2=>?_⟩;cases e2;exact⟨o,e,ex.2.1⟩
  .obtain⟨o,_,_,_,e,ex,_⟩:=I.hok p _ hk;refine⟨⟨o,e,ex.1⟩,λa e2=>?_⟩;cases e2;exact⟨o,e,ex.2.1⟩
 |_=>exact False.elim ty
noncomputable def Q8(K:PySem.W.Frag)(T:String)(r:V->List V->Hp->VK->Prop)(to:TE):TE:=λσ H Q=>to σ H λx H1=>yW K T x H1/\r x [] H1 Q
noncomputable def SK(K:PySem.W.Frag)(T:String)(r:V->List V->Hp->VK->Prop)(to:TE)(t:TA):TE:=λσ H Q=>to σ H λx H1=>yW K T x H1/\t σ H1 λxs H2=>r x xs H2 Q
variable{o e:Expr}{es:List Expr}{to:TE}{t:TA}{name:Str}{apos cpos:Pos}{T id:String}{r:V->List V->Hp->VK->Prop}
def HS (pa:PlainAttrs T) (slot:Slot T name id) (hty:typeOf (.builtin id)=pure (.type "method_descriptor")) (hm:qN X id r) (ho:PE X o to)
  (hbase:attributeBase o name X.env (eval o X.env)=eval o X.env:=by rfl) (hline:(apos.endLine==cpos.line)=true:=by rfl):PE X (.Call (.Attribute o name apos) [] [] cpos) (Q8 X.K T r to):=by
 intro pins s σ H Q I h;refine wpAny_Call_method0_late hbase hline (bF (ho pins s σ H _ I h) λv s1 ⟨x,H1,I1,r1,ty,q1⟩=>?_);obtain⟨h1,h2⟩:=yX I1 r1 ty;exact⟨T,id,pa,slot,hty,h1,h2,YN rfl (PySem.evalArgs_none (hm pins s1 σ H1 x [] v [] Q I1 r1 .nil q1))⟩
def MY (pa:PlainAttrs T) (slot:Slot T name id) (hty:typeOf (.builtin id)=pure (.type "method_descriptor")) (hm:qN X id r) (ho:PE X o to) (ha:PA X (e :: es) t)
  (hbase:attributeBase o name X.env (eval o X.env)=eval o X.env:=by rfl)
  (hfew:((backTo cpos (starEach (e :: es) X.env)).all (λx=>!x.1)&&(backToKw cpos (keywordEach [] X.env)).all (λx=>x.1.isSome)
   &&decide ((e :: es).length+([]:List Keyword).length+(if ([]:List Keyword).isEmpty then 0 else 1)<30))=true:=by rfl)
  (hline:(apos.endLine==cpos.line)=true:=by rfl) (hs:starEach (e :: es) X.env=(false,eval e X.env) :: starEach es X.env:=by rfl) (hplain:(backTo cpos (starEach es X.env)).any (·.1)=false:=by rfl) :
  PE X (.Call (.Attribute o name apos) (e :: es) [] cpos) (SK X.K T r to t):=by
 intro pins s σ H Q I h;refine wpAny_Call_method_late hbase hfew hline rfl (bF (ho pins s σ H _ I h) λv s1 ⟨x,H1,I1,r1,ty,q1⟩=>?_);obtain⟨h1,h2⟩:=yX I1 r1 ty;refine⟨T,id,pa,slot,hty,h1,h2,?_⟩;have hA:=ha cpos pins s1 σ H1 _ I1 q1;rw[hs]at hA ⊢;refine YN (by show(false || (backTo cpos (starEach es X.env)).any (·.1))=false;rw[hplain]<;>rfl) (Calls.evalArgs_plain ?_);exact bF hA λus s2 ⟨vs,H2,I2,r2,q2⟩=>hm pins s2 σ H2 x vs v us Q I2 r1 r2 q2
end
noncomputable def HU(X:Cx)(id:String)(r:V->List V->Hp->VK->Prop):Prop:=
 ∀(pins:List (Addr×Obj)) (s:Shared) (σ:St) (H:Hp) (x:V) (xs:List V) (v:Value) (us:List Value) (Q:VK),Inv X pins σ H s->RelV x v->Vals xs us->r x xs H Q->
  wpAny (model X.prog X.w) X.A (call (.builtin id) (v :: us)) (EP X pins σ Q) X.xe s
def Vals.one:∀{x:V}{us:List Value},Vals [x] us->∃u,us=[u]/\RelV x u
 |_,_,.cons r .nil=>⟨_,rfl,r⟩
def Vals.zero:∀{us:List Value},Vals [] us->us=[]
 |_,.nil=>rfl
theorem Vals.dropLast{xs:List V}{us:List Value}(h:Vals xs us):Vals xs.dropLast us.dropLast:=by
 induction h with
 |nil=>exact .nil
 |cons r t ih=>
  cases t with
  |nil=>exact .nil
  |cons q t'=>exact .cons r ih
theorem Vals.reverse{xs:List V}{us:List Value}(h:Vals xs us):Vals xs.reverse us.reverse:=by
 induction h with
 |nil=>exact .nil
 |cons r t ih=>rw[VW,VW];exact Vals.append ih (.cons r .nil)
theorem Vals.rep{xs:List V}{us:List Value}(h:Vals xs us):∀k:Nat,Vals (List.replicate k xs).flatten (List.replicate k us).flatten
 |0=>.nil
 |k+1=>by
  rw[Ut,Ut,W5,W5];exact Vals.append h (Vals.rep h k)
def wV{α:Type}(l:List α):l.eraseIdx (l.length - 1)=l.dropLast:=by
 induction l with
 |nil=>rfl
 |cons a r ih=>
  cases r with
  |nil=>rfl
  |cons b r=>
   have e:(a :: b :: r).length - 1=((b :: r).length - 1)+1:=by
    have h1:(a :: b :: r).length=r.length+2:=rfl;have h2:(b :: r).length=r.length+1:=rfl;omega
   rw[e,List.eraseIdx_cons_succ,ih];all_goals rfl
theorem foldl_rep(its:List Value):∀(k:Nat) (acc:List Value),
  List.foldl (λx1 x2=>x1++x2) acc.toArray (List.replicate k its.toArray)=(acc++(List.replicate k its).flatten).toArray
 |0,acc=>by simp
 |k+1,acc=>by
  have e:acc.toArray++its.toArray=(acc++its).toArray:=by simp
  have e2:(acc++its)++(List.replicate k its).flatten=acc++(List.replicate (k+1) its).flatten:=by
   rw[Ut,W5,Wj]
  rw[<-e2,<-foldl_rep its k (acc++its),<-e,Ut,Wu]
section
variable{X:Cx}{pins:List (Addr×Obj)}{σ:St}{H:Hp}{s:Shared}{l:Addr}{xs ys:List V}
def Inv.Bu{its its':List Value}{n:Nat}{f:Array Value->Array Value}{t':Nat}(I:Inv X pins σ H s)(hH:H l=some (.lst xs))
  (e:s.heap.get? l=some { cls:=.type "list",data:=.seq its.toArray n }) (hf:f its.toArray=its'.toArray) (hv:Vals ys its') (hz:ys.length<=sizeLine) :
  Inv X pins σ (upd H l (.lst ys)) { s with heap:=s.heap.update l (Obj.mapSeq f),toks:=t' }:=by
 have q:=PySem.IsL.update e f;rw[hf]at q;refine I.write (x:=l) (e:=l) (by rw[hH];exact trivial) (.inl rfl) (λb' u hb hu=>(Xg s.heap (Obj.mapSeq f) (WZ hb)).trans hu) ⟨_,q⟩ ?_;exact⟨hz,its',_,hv,q⟩
def Inv.Bv{its:List Value}{t':Nat}(I:Inv X pins σ H s)(hv:Vals ys its)(hz:ys.length<=sizeLine) :
  Inv X pins σ (upd H s.heap.objs.size (.lst ys)) { s with heap:=s.heap.push { cls:=.type "list",data:=.seq its.toArray },toks:=t' }:=
 I.laid (λ_ _ q=>gV _ q) (Et _) ⟨hz,its,0,hv,PY _ rfl⟩
theorem Inv.fresh(I:Inv X pins σ H s):H s.heap.objs.size=none:=I.hok.fresh (Et _)
def Inv.nq (I:Inv X pins σ H s) (hH:H l=some (.lst xs)):xs.length<=sizeLine/\∃(its:List Value) (n:Nat),Vals xs its/\xs.length=its.length/\s.heap.get? l=some { cls:=.type "list",data:=.seq its.toArray n }:=by
 obtain⟨z,its,n,r,e⟩:=I.hok l _ hH;exact⟨z,its,n,r,r.length,e⟩
def sC{n:Nat}(h:n<=sizeLine):Builtin.List.listTooLong n=false:=by
 unfold Builtin.List.listTooLong;exact Wh (by omega)
end
section
variable{X:Cx}
noncomputable def ES:V->List V->Hp->VK->Prop:=λx vs H Q=>∃l xs y,x=.ref l/\vs=[y]/\H l=some (.lst xs)/\xs.length<sizeLine/\Q .bA (upd H l (.lst (xs++[y])))
def qO:HU X "list.append" ES:=by
 intro pins s σ H x vs v us Q I rx rv h;obtain⟨l,xs,y,rfl,rfl,hH,hz,q⟩:=h;cases rx;obtain⟨u,rfl,ru⟩:=rv.one;obtain⟨z,its,n,r,hl,e⟩:=I.nq hH;refine Xe F.slot_list_append ⟨_,e,rfl⟩ F.entry_list_append (F.args_list_append_2 _ _) (PySem.list_append l its.toArray n u (by rw[uB];omega)) ⟨e,?_⟩;refine⟨.bA,_,I.Bu (its':=its++[u]) hH e (by simp) (r.append (.cons ru .nil)) ?_,rfl,q⟩;rw[VX,W3];omega
noncomputable def ET:V->List V->Hp->VK->Prop:=λx vs H Q=>∃l b xs zs,x=.ref l/\vs=[.ref b]/\H l=some (.lst xs)/\H b=some (.lst zs)/\xs.length+zs.length<=sizeLine/\Q .bA (upd H l (.lst (xs++zs)))
def yY:HU X "list.extend" ET:=by
 intro pins s σ H x vs v us Q I rx rv h;obtain⟨l,b,xs,zs,rfl,rfl,hH,hB,hz,q⟩:=h;cases rx;obtain⟨u,rfl,ru⟩:=rv.one;cases ru;obtain⟨z,its,n,r,hl,e⟩:=I.nq hH;obtain⟨z2,its2,n2,r2,hl2,e2⟩:=I.nq hB;have hsz:its.toArray.size+its2.toArray.size<=sizeLine:=by rw[uB,uB];omega
 have wW:¬ (!its.toArray.isEmpty&&Builtin.List.listTooLong (its.toArray.size+its2.toArray.size))=true:=by
  rw[sC hsz,Bool.and_false];exact Wv
 refine Xe F.slot_list_extend ⟨_,e,rfl⟩ F.entry_list_extend (F.args_list_extend_2 _ _)
  (AutoSeq1.list_extend_list_list_0 l its.toArray n b its2.toArray n2 wW (by rw[uB];omega) (by omega)) ⟨e,e2,?_⟩
 refine⟨.bA,_,I.Bu (its':=its++its2) hH e (by simp) (r.append r2) ?_,rfl,q⟩;rw[VX];omega
noncomputable def Q9:V->List V->Hp->VK->Prop:=λx vs H Q=>∃l xs y,x=.ref l/\vs=[]/\H l=some (.lst xs)/\xs[xs.length - 1]?=some y/\Q y (upd H l (.lst xs.dropLast))
def HV:HU X "list.pop" Q9:=by
 intro pins s σ H x vs v us Q I rx rv h;obtain⟨l,xs,y,rfl,rfl,hH,hy,q⟩:=h;cases rx;have SM:=rv.zero;subst SM;obtain⟨z,its,n,r,hl,e⟩:=I.nq hH;obtain⟨u,hu,ru⟩:=r.get hy;have hy':its.toArray[its.toArray.size - 1]?=some u:=by
  show its.toArray[its.length - 1]?=some u;rw[<-Array.getElem?_toList,<-hl];exact hu
 refine Xe F.slot_list_pop ⟨_,e,rfl⟩ F.entry_list_pop (F.args_list_pop_1 _) (MeetsSeq.list_pop_last l its.toArray n u hy' (by rw[uB];omega)) ⟨e,?_⟩;refine⟨y,_,I.Bu (its':=its.dropLast) hH e ?_ r.dropLast ?_,ru,q⟩
 .show its.toArray.eraseIdxIfInBounds (its.toArray.size - 1)=its.dropLast.toArray;rw[uB,List.eraseIdxIfInBounds_toArray,wV]
 .rw[List.length_dropLast];omega
noncomputable def Ra:R2:=λx y H Q=>∃l b xs zs,x=.ref l/\y=.ref b/\H l=some (.lst xs)/\H b=some (.lst zs)/\xs.length+zs.length<=sizeLine/\∀p,H p=none->Q (.ref p) (upd H p (.lst (xs++zs)))
def HW:dB X (binaryOp .Add) Ra:=by
 intro pins s σ H x y v u Q I rx ry h;obtain⟨l,b,xs,zs,rfl,rfl,hH,hB,hz,q⟩:=h;cases rx;cases ry;obtain⟨z,its,n,r,hl,e⟩:=I.nq hH;obtain⟨z2,its2,n2,r2,hl2,e2⟩:=I.nq hB;refine PySem.P.add_list e e2 ?_ (by rw[uB,uB];omega);have ea:its.toArray++its2.toArray=(its++its2).toArray:=by simp
 rw[ea];exact⟨.ref _,_,I.Bv (t':=s.toks) (r.append r2) (by rw[VX];omega),rfl,q _ I.fresh⟩
noncomputable def Rb:R2:=λx y H Q=>∃l k xs,x=.ref l/\y=.int k/\H l=some (.lst xs)/\-(2 ^ 63)<=k/\k<2 ^ 63/\xs.length*k.toNat<=sizeLine/\
 ∀p,H p=none->Q (.ref p) (upd H p (.lst (List.replicate k.toNat xs).flatten))
def len_rep{α:Type}(xs:List α)(k:Nat):(List.replicate k xs).flatten.length=k*xs.length:=by
 induction k with
 |zero=>simp
 |succ k ih=>rw[Ut,W5,VX,ih,Nat.succ_mul,Xi]
def HX:dB X (binaryOp .Mult) Rb:=by
 intro pins s σ H x y v u Q I rx ry h;obtain⟨l,k,xs,rfl,rfl,hH,h1,h2,hz,q⟩:=h;cases rx;obtain⟨t,rfl⟩:=ry;obtain⟨z,its,n,r,hl,e⟩:=I.nq hH;have hlen:its.toArray.size*k.toNat<=sizeLine:=by rw[uB,<-hl];exact hz
 have hcap:¬ its.toArray.size*k.toNat > (2 ^ 63 - 1) / 8:=by
  have:(sizeLine:Nat)<=(2 ^ 63 - 1) / 8:=by decide
  omega
 have hfit:¬ (!Builtin.List.listFitsIndex k)=true:=by
  rw[fitsIndex_both h1 h2];exact Wv
 have wW:¬ Builtin.List.listTooLong (its.toArray.size*k.toNat)=true:=by
  rw[sC hlen];exact Wv
 have hnew:List.foldl (λx1 x2=>x1++x2) #[] (List.replicate (if its.toArray.isEmpty=true then 0 else k.toNat) its.toArray)=(List.replicate k.toNat its).flatten.toArray:=by
  have f0:∀m:Nat,List.foldl (λx1 x2=>x1++x2) #[] (List.replicate m its.toArray)=(List.replicate m its).flatten.toArray:=λm=>by
   have:=foldl_rep its m [];rw[X0]at this;exact this
  rw[f0];cases its with
  |nil=>simp
  |cons a r'=>rw[Us (by simp)]
 refine Yo (T:="list") (U:="int") (by decide) ⟨_,e,rfl⟩ (λs'=>Yn s' k t) noFill_list_mul F.fills_int_mul F.slot_int_rmul repeat_list F.slot_int_index.lookup
  (Xe F.slot_int_rmul (Yn s k t) F.entry_int_rmul (F.args_int_rmul_2 _ _) (int___rmul___int_list k t l its.toArray n)
   ⟨e,rfl,⟨_,e,rfl⟩,Xe F.slot_list_mul ⟨_,e,rfl⟩ F.entry_list_mul (F.args_list_mul_2 _ _) (AutoListH.list___mul___list_int_3 l its.toArray n k t hfit hcap wW) ⟨e,?_⟩⟩)
 rw[hnew];exact⟨.ref _,_,I.Bv (t':=s.toks) (r.rep k.toNat) (by rw[len_rep,Nat.mul_comm];exact hz),rfl,q _ I.fresh⟩
end
end L2
namespace Ph
open PySem PySem.W PySem.Calls PyProof.Rows
def nW{P:Params}{h:Heap}:∀(ns:List Int) (vs:List Value),WellAll P h vs (ns.map WData.int)->IntsAre vs ns:=by
 intro ns;induction ns with
 |nil=>
  intro vs w;rw[Zb]at w;cases w;exact .nil
 |cons n ns ih=>
  intro vs w;rw[T6]at w;cases w with
  |cons a b=>
   cases a;exact .cons _ _ (ih _ b)
def yZ{l:OpenLaw}{n:Nat}(hn:l.most=some n){P:Params}{h:Heap}{args:List WData}{vals:List Value}
  (hpre:l.row.toRowW.claim.pre args=true) (hwl:WellAll P h vals args) :
  ∃a vs ns,vals=[Value.ref a]/\args=[WData.list (ns.map WData.int)]/\h.get? a=some { cls:=.type "list",data:=.seq vs.toArray }/\IntsAre vs ns/\ns.length<=n:=by
 have hsh:WShape.hasAll [] args [.list .int]=true:=(pre_splitW hpre).1;have hc:l.pre.holds [] { args:=args }=true:=(pre_splitW hpre).2;obtain⟨d,r,rfl,h1,h2⟩:=hasAllW_cons hsh;obtain rfl:=hasAllW_nil h2;obtain⟨xs,rfl,h3⟩:=hasW_list h1;obtain⟨ns,rfl⟩:=items_int h3;have hlen:ns.length<=n:=by
  unfold OpenLaw.pre at hc;have h4:(WTm.not (.lt (.lit (.int (n:Int))) (.len (.arg 0)))).holds [] { args:=[.list (ns.map .int)]}=true:=by
   have h4:=(holds_andW hc).1;rw[hn]at h4;exact h4
  have h5:=condW_of h4 (w_not (w_lt w_lit (w_len_list (w_arg rfl))));rw[Wa]at h5;refine Nat.le_of_not_lt λq=>?_;have q':(n:Int)<((ns.length:Nat):Int):=by omega
  first
   | (rw[XE q']at h5;exact absurd h5 (by decide))
   | (simp at h5;omega)
 cases hwl with
 |cons w1 w2=>
  cases w2;cases w1 with
  |list ho hall=>exact⟨_,_,ns,rfl,rfl,ho,nW ns _ hall,hlen⟩
def y9(l:OpenLaw)(args:List WData):l.row.toRowW.claim.post args (.bool true) args=true:=
 postW_of (r:=l.row.toRowW) (X:=(true==true))
  (show WShape.has [] (.bool true) .bool=true by first|rfl|decide|simp[WShape.has,WShape.arms,WShape.armsAll])
  (show(WTm.eq .res (.lit (.bool true))).value [] { args:=args,res:=some (.bool true),after:=args }=some (.bool (true==true))from w_eq_bool (w_res rfl) w_lit) rfl
def uO{l:OpenLaw}{n:Nat}{q:Program}{loose:List Str}{XP:(Str->Option Value)->Heap->Prop}{YP:World->Heap->Prop}{d:DefRec}
  (hn:l.most=some n) (hdf:d.params.defaults=[])
  (call:∀(w:World) (s₀ s₁:Shared) (mg mb:Str->Option Value) (fa:Addr) (o:Obj) (pm cd doc:Value) (a:Addr) (vs:List Value) (ns:List Int),
   Ground q loose [] XP w s₀ mg mb s₁.heap->YP w s₁.heap->
   s₁.heap.get? fa=some o->o.data=.func (docDef d.name d.params d.body d.scope pm cd doc)->s₁.heap.CodeRec cd d.name->mg d.name=some (.ref fa)->
   s₁.heap.get? a=some { cls:=.type "list",data:=.seq vs.toArray }->IntsAre vs ns->ns.length<=n->s₁.gens = #[]->
   codeAny (model l.prog w) callerA (.call (.ref fa) ⟨[.ref a],[]⟩) (λr s'=>r=.ok (.ret (.bool true))/\OldK s₁.heap s'.heap/\s'.os=s₁.os/\AllBare s'.gens) s₁) :
  WalkO q loose XP YP l.row.toRowW d [] (λf vs=>PySem.call f vs):=by
 intro w s₀ s₁ mg mb G Y fa o pm cd doc dV kV ho hd hcd hD hmg hg args vals as hpre hlay hrd hwl hlo;obtain rfl:dV=.none:=Dflts.none hD hdf;obtain rfl:kV=.none:=Dflts.noKw hD;obtain⟨a,vs,ns,rfl,rfl,hobj,hints,hlen⟩:=yZ hn hpre hwl;refine enter_call (Y8 (call w s₀ s₁ mg mb fa o pm cd doc a vs ns G Y ho (fd_plain hd) hcd hmg hobj hints hlen hg) λr s' hq=>?_);obtain⟨rfl,h2,h3,h4⟩:=hq;exact⟨.inl ⟨.bool true,.bool true,[],rfl,λ_=>rfl,.bool true,y9 l _,λ_=>⟨List.Pairwise.nil,λ_ hm=>(nomatch hm)⟩⟩,h2,h3,h4⟩
end Ph
namespace L2
open PySem PySem.Spec PyProof.Rows
theorem qP:∀{vs:List Value}{ns:List Int},IntsAre vs ns->Vals (ns.map V.int) vs
 |_,_,.nil=>.nil
 |_,_,.cons n t h=>.cons ⟨t,rfl⟩ (qP h)
noncomputable def pP(H:Hp):Prop:=∀b,H b=none\/∃o xs,H b=some (.bO o (.lst xs))
def Bw{P:Program}{w:World}{K:PySem.W.Frag}{mg mb:Str->Option Value}{CX:kK}{k:Nat}{fa a:Addr}{fd:FuncData}{x:Str}{sp:Sp}{s₁:Shared}{vs:List Value}{ns:List Int}
  (KX:K.In s₁.heap) (hns:s₁.heap.Ns mainGlobals mg) (hb:s₁.heap.Ns builtinsNs mb) (HY:∀x:Str,x≠"__name__" ->mb x=bootBuiltins x) (hlim:s₁.heap.NoLimit) (hg:s₁.gens = #[])
  (ha:s₁.heap.get? a=some { cls:=.type "list",data:=.seq vs.toArray }) (hi:IntsAre vs ns) (hl:ns.length<=sizeLine) (hr:gh k callerA)
  (F:∀base:Heap,K.In base->base.Ns mainGlobals mg->ig P w K mg base CX k fa fd [x] sp) (hbind:∀(s:Shared) (u:Value),BindsTo s fd ⟨[u],[]⟩ [(x,u)])
  (jK:∀H:Hp,pP H->eH K H a (ns.map V.int)->sp [.ref a] H (λv _=>v=.bl true) λ_ _ _=>False)
  (za:∀H e s',CX [] H s₁ (λ_ _ _=>False) e s'->False) :
  codeAny (model P w) callerA (.call (.ref fa) ⟨[.ref a],[]⟩) (λr s'=>r=.ok (.ret (.bool true))/\OldK s₁.heap s'.heap/\s'.os=s₁.os/\AllBare s'.gens) s₁:=by
 have rv:=qP hi;have Rc:=hi.length;have core:∀H:Hp,pP H->eH K H a (ns.map V.int)->fy P w H s₁.heap->(∀b,H b≠none->b=a)->(H a≠none->K.lookup a=none)->
   codeAny (model P w) callerA (.call (.ref fa) ⟨[.ref a],[]⟩) (λr s'=>r=.ok (.ret (.bool true))/\OldK s₁.heap s'.heap/\s'.os=s₁.os/\AllBare s'.gens) s₁:=by
  intro H hO hS hok hA hK;have vg:∀{b:Addr} {o:Obj},s₁.heap.get? b=some o->H b=none->(j8 s₁.heap H).get? b=some o:=λe n=>Bc e n;have yT:∀{b:Addr} {o:Obj} {es:Array DictEntry} {ep:Nat},s₁.heap.get? b=some o->o.data=.dict es ep->H b=none:=λ{b o es ep} e d=>by
   cases q:H b with
   |none=>rfl
   |some u=>
    have e':b=a:=hA b (by rw[q];simp);subst e';rw[ha]at e;cases e;have d':Data.seq vs.toArray _=Data.dict es ep:=d;cases d'
  have DI:∀{b:Addr} {m:Str->Option Value},s₁.heap.Ns b m->(j8 s₁.heap H).Ns b m:=λ{b m} ⟨o,es,ep,e,d,r⟩=>⟨o,es,ep,vg e (yT e d),d,r⟩
  have Pj:K.In (j8 s₁.heap H):=λb o e=>vg (KX b o e) (by
   cases q:H b with
   |none=>rfl
   |some u=>
    have e':b=a:=hA b (by rw[q];simp);subst e';rw[hK (by rw[q];simp)]at e;cases e)
  have hM:Mod K mg (j8 s₁.heap H):=⟨Pj,DI hns,⟨mb,DI hb,HY⟩,let ⟨mc,h1,h2⟩:=hlim;⟨mc,DI h1,h2⟩⟩
  have e0:wQ P w K mg (j8 s₁.heap H) callerA [] s₁ H:=⟨rfl,hM,λb o e=>Ey e,Nat.le_of_eq (yG _ _),trivial,λb hb=>absurd (show b∈([]:List Addr)from hb) (by simp),hok,.of_eq hg⟩
  refine Y8 ((F _ Pj (DI hns)).run callerA [] s₁ H ⟨[.ref a],[]⟩ [.ref a] [.ref a] _ _ hr e0 (hbind s₁ (.ref a)) (.cons rfl .nil) (jK H hO hS)) λr s' h=>?_;cases r with
  |error e=>exact(za H e s' h).elim
  |ok fl=>
   cases fl with
   |next=>exact False.elim h
   |brk=>exact False.elim h
   |cont=>exact False.elim h
   |ret u=>
    obtain⟨v,H',os,bare,un,Rf,r',q⟩:=h;have q':v=.bl true:=q;subst q';obtain rfl:u=Value.bool true:=r';refine⟨rfl,OldK.of_keep λb o e=>?_,os,bare⟩;cases q:H b with
    |none=>exact un.keep b o e q (by intro z;exact absurd (show b∈([]:List Addr)from z) (by simp)) (by simp)
    |some u=>
     rcases hO b with z|⟨ob,xs,z⟩
     .rw[q]at z;cases z
     .have z2:=un.j7 b ob _ z;obtain⟨e1,_⟩:=hok b _ z;obtain⟨e2,_⟩:=Rf b _ z2;rw[e]at e1;cases e1;exact e2
 cases hk:K.lookup a with
 |some o=>
  have e:=KX a o hk;rw[ha]at e;cases e;refine core (λ_=>none) (λ_=>.inl rfl) (.inr ⟨_,vs.toArray,_,hk,rfl,rfl,rfl,by rw[uB,Rc];exact hl,by simpa using rv⟩) (λb u z=>by have z':(none:Option HO)=some u:=z;cases z') (λb z=>absurd rfl z) λz=>absurd rfl z
 |none=>
  refine core (λb=>if b=a then some (.bO { cls:=.type "list",data:=.seq vs.toArray } (.lst (ns.map V.int)))else none) (λb=>?_) (.inl (.inr ⟨{ cls:=.type "list",data:=.seq vs.toArray },GQ rfl⟩)) (λb u z=>?_) (λb z=>?_) λ_=>hk
  .by_cases hb:b=a
   .exact .inr ⟨_,_,GQ hb⟩
   .exact .inl (Us hb)
  .by_cases hb:b=a
   .have z':=(GQ hb).symm.trans z;cases z';subst hb;exact⟨ha,by rw[Wa];exact hl,vs,_,rv,ha⟩
   .have z':=(Us hb).symm.trans z;cases z'
  .by_cases hb:b=a
   .exact hb
   .exact absurd (Us hb) z
def EU{l:PySem.W.OpenLaw}{n k:Nat}{q:Program}{loose:List Str}{XP:(Str->Option Value)->Heap->Prop}{YP:World->Heap->Prop}{d:DefRec}{K:Params->PySem.W.Frag}{CX:World->kK}{sp:World->Sp}{x:Str}
  (hn:l.most=some n) (hn2:n<=sizeLine) (hdf:d.params.defaults=[]) (hr:gh k callerA)
  (hY:∀(w:World) (h:Heap),YP w h->(K w.params).In h)
  (F:∀(w:World) (mg:Str->Option Value) (fa:Addr) (h:Heap),(K w.params).In h->h.Ns mainGlobals mg->mg d.name=some (.ref fa)->
   ∃fd:FuncData,(∀(s:Shared) (u:Value),BindsTo s fd ⟨[u],[]⟩ [(x,u)])/\
    ∀base:Heap,(K w.params).In base->base.Ns mainGlobals mg->ig l.prog w (K w.params) mg base (CX w) k fa fd [x] (sp w))
  (jK:∀(w:World) (H:Hp) (a:Addr) (ns:List Int),ns.length<=n->pP H->eH (K w.params) H a (ns.map V.int)->sp w [.ref a] H (λv _=>v=.bl true) λ_ _ _=>False)
  (za:∀(w:World) (H:Hp) (s:Shared) (e:Value) (s':Shared),CX w [] H s (λ_ _ _=>False) e s'->False) :
  PySem.W.WalkO q loose XP YP l.row.toRowW d [] (λf vs=>PySem.call f vs):=by
 refine Ph.uO hn hdf λw s₀ s₁ mg mb fa o pm cd doc a vs ns G Y ho hd hcd hmg hobj hints hlen hg=>?_;have KX:=hY w _ Y;obtain⟨fd,hb,hF⟩:=F w mg fa _ KX G.T.g hmg;exact Bw KX G.T.g G.T.b G.T.builtins G.T.nolimit hg hobj hints (V0 hlen hn2) hr hF hb (λH hO hS=>jK w H a ns hlen hO hS) λH e s'=>za w H s₁ e s'
def Bx{l:PySem.W.OpenLaw}{n k:Nat}{q:Program}{loose:List Str}{XP:(Str->Option Value)->Heap->Prop}{YP:World->Heap->Prop}{d:DefRec}{K:Params->PySem.W.Frag}{CX:kK}{sp:PySem.W.Frag->Sp}{x:Str}
  (hn:l.most=some n) (hn2:n<=sizeLine) (hdf:d.params.defaults=[]) (hr:gh k callerA)
  (hY:∀(w:World) (h:Heap),YP w h->(K w.params).In h)
  (F:∀(w:World) (mg:Str->Option Value) (fa:Addr) (h:Heap),(K w.params).In h->h.Ns mainGlobals mg->mg d.name=some (.ref fa)->
   ∃fd:FuncData,(∀(s:Shared) (u:Value),BindsTo s fd ⟨[u],[]⟩ [(x,u)])/\
    ∀base:Heap,(K w.params).In base->base.Ns mainGlobals mg->ig l.prog w (K w.params) mg base CX k fa fd [x] (sp (K w.params)))
  (jK:∀(K:PySem.W.Frag) (H:Hp) (a:Addr) (ns:List Int),ns.length<=n->pP H->eH K H a (ns.map V.int)->sp K [.ref a] H (λv _=>v=.bl true) λ_ _ _=>False)
  (za:∀(H:Hp) (s:Shared) (e:Value) (s':Shared),CX [] H s (λ_ _ _=>False) e s'->False) :
  PySem.W.WalkO q loose XP YP l.row.toRowW d [] (λf vs=>PySem.call f vs):=
 EU (K:=K) (CX:=λ_=>CX) (sp:=λw=>sp (K w.params)) hn hn2 hdf hr hY F (λw H a ns h1 h2 h3=>jK (K w.params) H a ns h1 h2 h3) λ_ H s e s'=>za H s e s'
noncomputable def mC(s:Stmt):Arguments:=match s with
 |.FunctionDef _ a _ _ _ _ _ _ _ _=>a
 |_=>{ posonlyargs:=[],args:=[],vararg:=none,kwonlyargs:=[],kw_defaults:=[],kwarg:=none,defaults:=[]}
noncomputable def gn(s:Stmt):List Stmt:=match s with
 |.FunctionDef _ _ b _ _ _ _ _ _ _=>b
 |_=>[]
noncomputable def aN(s:Stmt):Scope:=match s with
 |.FunctionDef _ _ _ _ _ _ sc _ _ _=>sc
 |_=>{ kind:=.function,names:=[],isGenerator:=false,isCoroutine:=false }
abbrev lg:kK:=λ_ _ _ _ _ _=>False
abbrev E0:XK:=λ_ _ _=>False
def MZ{X:Cx}:Passes lg X E0:=λ_ _ _ _ _ _ _ h=>h.elim
structure sD(K:PySem.W.Frag)(x qual:Str)(st:Stmt)(f:Addr)(fd:FuncData):Prop where
 ex:∃(oc:Value) (od:Option Addr) (kV doc pm:Value) (an:Option Addr) (cdv ct:Value) (osl:Array (Option Value)),
  fd=PySem.W.fnOf x qual (mC st) (gn st) (aN st) .none kV doc pm an cdv ct/\K.lookup f=some ⟨oc,od,.func fd,osl⟩/\PySem.W.codeIn K cdv qual=true
 kp:PySem.W.keepIn K (.ref f)=true
section
variable{P:Program}{w:World}{K:PySem.W.Frag}{mg:Str->Option Value}{base:Heap}
def sD.ok{x qual:Str}{st:Stmt}{f:Addr}{fd:FuncData}{N ps:List Str}{k:Nat}{sp:Sp}(F:sD K x qual st f fd)(S:bu N ps (aN st))(len:∀vs H Q E,sp vs H Q E->vs.length=ps.length)
  (hbody:∀(cdv:Value) (A:Around) (outer:List Env) (s:Shared) (H:Hp) (vs:List V) (Q:VK) (E:XK),gh k (A.deeper (envOfC qual (aN st) s.heap.objs.size f cdv))->sp vs H Q E->
   ∃t,gY (nj lg P w K mg base N qual (aN st) f cdv A outer s H E).qG (gn st) t/\t { nx:=λ_ H'=>Q .bA H',rt:=Q } (start N vs) H):ig P w K mg base lg (k+1) f fd ps sp:=by
 obtain⟨oc,od,kV,doc,pm,an,cdv,ct,osl,rfl,lk,hcd⟩:=F.ex;refine MU lk hcd S len λA outer s H vs Q E hr jK=>?_;obtain⟨t,h,q⟩:=hbody cdv A outer s H vs Q E hr jK;exact⟨t,h.qG,q⟩
def sD.binds{x qual:Str}{st:Stmt}{f:Addr}{fd:FuncData}{ps:List Str}(F:sD K x qual st f fd)
  (h:∀(kV doc pm:Value) (an:Option Addr) (cdv ct:Value) (us:List Value),us.length=ps.length->bindArgs (PySem.W.fnOf x qual (mC st) (gn st) (aN st) .none kV doc pm an cdv ct) ⟨us,[]⟩=pure (ps.zip us)):Binds K fd ps []:=by
 obtain⟨oc,od,kV,doc,pm,an,cdv,ct,osl,rfl,lk,hcd⟩:=F.ex;exact .all (h kV doc pm an cdv ct)
def bQ{x qual:Str}{st:Stmt}{f:Addr}{oc:Value}{od an:Option Addr}{osl:Array (Option Value)}{kV doc pm cdv ct:Value}(l:K.lookup f=some ⟨oc,od,.func (PySem.W.fnOf x qual (mC st) (gn st) (aN st) .none kV doc pm an cdv ct),osl⟩)
  (c:PySem.W.codeIn K cdv qual=true) (k:PySem.W.keepIn K (.ref f)=true):sD K x qual st f (PySem.W.fnOf x qual (mC st) (gn st) (aN st) .none kV doc pm an cdv ct):=⟨⟨oc,od,kV,doc,pm,an,cdv,ct,osl,rfl,l,c⟩,k⟩
end
section
variable{X:Cx}
def pv (i:Nat) {x:Str}{pos:Pos}(hN:X.N[i]?=some x:=by rfl) (hv:yH X.env.scope x:=by first|exact Or.inl rfl|exact Or.inr (Or.inl rfl)|exact Or.inr (Or.inr rfl)) (hd:(x==("__debug__" : Str))=false:=by decide)
  (hcd:(x==("__classdict__" : Str))=false:=by decide):PE X (.Name x pos) (G8 i):=yL hN hv hd hcd
end
end L2
namespace Ev
inductive D where
 |bA|bl (b:Bool)|int (i:Int)|str (s:List Nat)|tup (ds:List D)|ref (n:Nat)
inductive O where
 |lst (ds:List D)|bO (ds:List D)
abbrev Hh:=List O
abbrev Fr:=List (Option D)
inductive R(α:Type) where
 |ok (a:α) (h:Hh)
 |bad
noncomputable def R.bind{α β:Type}(r:R α)(f:α->Hh->R β):R β:=
 match r with
 |.ok a h=>f a h
 |.bad=>.bad
@[simp] theorem ak{α β:Type}(a:α)(h:Hh)(f:α->Hh->R β):(R.ok a h).bind f=f a h:=rfl
@[simp] theorem By{α β:Type}(f:α->Hh->R β):(R.bad:R α).bind f=.bad:=rfl
def ah{α β:Type}{r:R α}{f:α->Hh->R β}{b:β}{h:Hh}(e:r.bind f=.ok b h):∃a h1,r=.ok a h1/\f a h1=.ok b h:=by
 cases r with
 |ok a h1=>exact⟨a,h1,rfl,e⟩
 |bad=>cases e
noncomputable def R.of{α:Type}(o:Option α)(h:Hh):R α:=match o with
 |some a=>.ok a h
 |none=>.bad
@[simp] theorem cW{α:Type}(a:α)(h:Hh):R.of (some a) h=.ok a h:=rfl
@[simp] theorem of_none{α:Type}(h:Hh):R.of (none:Option α) h=.bad:=rfl
def aC{α:Type}{o:Option α}{h h':Hh}{a:α}(e:R.of o h=.ok a h'):o=some a/\h'=h:=by
 cases o with
 |none=>cases e
 |some b=>cases e;exact⟨rfl,rfl⟩
inductive br where
 |add|sub|mul|fdiv|mod
inductive aZ where
 |eq|ne|lt|gt
inductive TY where
 |int|bool|str|tuple|list
inductive BI where
 |len|sum|min
 |abs
inductive ME where
 |join|append|extend|pop
inductive T where
 |one (i:Nat)|many (l:List Nat)
mutual
inductive E where
 |c (d:D)|v (i:Nat)|tup (es:Es)|lst (es:Es)
 |bin (o:br) (a b:E)|cmp (o:aZ) (a b:E)
 |nt (a:E)|neg (a:E)|an (a b:E)|orr (a b:E)|kM (t a b:E)
 |ix (a b:E)|sl (a:E) (lo hi:Eo)
 |rv (a:E)
 |kN (a:E)
 |cl (f:Nat) (es:Es)|bi (b:BI) (es:Es)|me (m:ME) (o:E) (es:Es)
 |comp (elt:E) (t:T) (it:It) (cond:Eo)
 |gp (it:It)
 |iO (kvs:List (D×D)) (a:E)|gZ (a:E)
inductive Es where
 |nil|cons (e:E) (es:Es)
inductive Eo where
 |no|yes (e:E)
inductive It where
 |seq (e:E)|fY (es:Es)
 |zip (a b:E)
 |ji (a:E)|jj (a b:E)
 |enum (a:E)|rev (a:E)
end
mutual
inductive S where
 |set (i:Nat) (e:E)|wX (l:List Nat) (e:E)
 |exp (e:E)|ret (e:E)|iff (t:E) (a b:Ss)|for (t:T) (it:It) (b:Ss)|lu (t:E) (b:Ss)
 |fU (c:Nat)
inductive Ss where
 |nil|cons (s:S) (ss:Ss)
end
inductive Fl where
 |nx|bk|ct|ret (d:D)
noncomputable def big:Nat:=16777216
noncomputable def cg(f:D->D->Option Bool):List D->List D->Option Bool
 |[],[]=>some true
 |x :: xs,y :: ys=>do
  let b <-f x y
  let c <-cg f xs ys
  pure (b&&c)
 |_,_=>some false
noncomputable def bg(h:Hh)(n:Nat):Option (List D):=match h[n]? with
 |some (.lst ds)=>some ds
 |some (.bO ds)=>some ds
 |_=>none
noncomputable def b2i(b:Bool):Int:=if b then 1 else 0
noncomputable def jk(h:Hh)(f:D->D->Option Bool)(a b:Nat):Option Bool:=if a=b then (bg h a).map λ_=>true else match h[a]?,h[b]? with
 |some (.lst x),some (.lst y)=>cg f x y
 |some (.bO x),some (.lst y)=>cg f x y
 |some (.lst x),some (.bO y)=>cg f x y
 |_,_=>none
noncomputable def gH(h:Hh):Nat->D->D->Option Bool
 |0,_,_=>none
 |_+1,.bA,.bA=>some true
 |_+1,.bl a,.bl b=>some (a==b)
 |_+1,.int a,.int b=>some (a==b)
 |_+1,.bl a,.int b=>some (b2i a==b)
 |_+1,.int a,.bl b=>some (a==b2i b)
 |_+1,.str a,.str b=>some (a==b)
 |n+1,.tup a,.tup b=>cg (gH h n) a b
 |n+1,.ref a,.ref b=>jk h (gH h n) a b
 |_+1,.ref a,_=>(bg h a).map λ_=>false
 |_+1,_,.ref a=>(bg h a).map λ_=>false
 |_+1,_,_=>some false
noncomputable def deep:Nat:=20
noncomputable def truthy(h:Hh):D->Option Bool
 |.bA=>some false
 |.bl b=>some b
 |.int i=>some (i != 0)
 |.str s=>some (!s.isEmpty)
 |.tup ds=>some (!ds.isEmpty)
 |.ref n=>match h[n]? with
  |_=>(bg h n).map λds=>!ds.isEmpty
noncomputable def alloc(ds:List D)(h:Hh):R D:=if ds.length<=big then .ok (.ref h.length) (h++[.lst ds])else .bad
noncomputable def rep{α:Type}(k:Nat)(l:List α):List α:=(List.replicate k l).flatten
noncomputable def bM(i j:Int):Bool:=(decide (-(2 ^ 64)<i)&&decide (i<2 ^ 64)) || (decide (-(2 ^ 64)<j)&&decide (j<2 ^ 64))
noncomputable def bP:br->D->D->Hh->R D
 |.add,.int i,.int j,h=>.ok (.int (i+j)) h
 |.add,.str a,.str b,h=>if a.length+b.length<=big then .ok (.str (a++b)) h else .bad
 |.add,.tup a,.tup b,h=>if a.length+b.length<=big then .ok (.tup (a++b)) h else .bad
 |.add,.ref a,.ref b,h=>match h[a]?,h[b]? with
  |some (.lst x),some (.lst y)=>alloc (x++y) h
  |_,_=>.bad
 |.sub,.int i,.int j,h=>.ok (.int (i - j)) h
 |.mul,.int i,.int j,h=>if bM i j then .ok (.int (i*j)) h else .bad
 |.mul,.str a,.int k,h=>if 0<=k/\k<=1000/\a.length<=1000 then .ok (.str (rep k.toNat a)) h else .bad
 |.mul,.tup a,.int k,h=>if 0<=k/\k<=1000/\a.length<=1000 then .ok (.tup (rep k.toNat a)) h else .bad
 |.mul,.ref a,.int k,h=>match h[a]? with
  |some (.lst x)=>if 0<=k/\k<=1000/\x.length<=1000 then alloc (rep k.toNat x) h else .bad
  |_=>.bad
 |.fdiv,.int i,.int j,h=>if 0<j/\j<1073741824 then .ok (.int (i / j)) h else .bad
 |.mod,.int i,.int j,h=>if 0<j then .ok (.int (i % j)) h else .bad
 |_,_,_,_=>.bad
noncomputable def cop(o:aZ)(x y:D)(h:Hh):Option Bool:=match o,x,y with
 |.eq,x,y=>gH h deep x y
 |.ne,x,y=>(gH h deep x y).map (!·)
 |.lt,.int i,.int j=>some (decide (i<j))
 |.gt,.int i,.int j=>some (decide (j<i))
 |_,_,_=>none
noncomputable def cR(n:Nat)(i:Int):Option Nat:=if 0<=i then (if i<n then some i.toNat else none)else if -(n:Int)<=i then some (i+n).toNat else none
noncomputable def bx{α:Type}(xs:List α)(i:Int):Option α:=(cR xs.length i).bind λj=>xs[j]?
noncomputable def dY(x y:D)(h:Hh):Option D:=match x,y with
 |.tup ds,.int i=>bx ds i
 |.str s,.int i=>(bx s i).map λc=>.str [c]
 |.ref n,.int i=>(bg h n).bind λds=>bx ds i
 |_,_=>none
noncomputable def aL(n d:Nat):Option Int->Nat
 |none=>d
 |some v=>if v<0 then (v+n).toNat else min v.toNat n
noncomputable def cut{α:Type}(xs:List α)(lo hi:Option Int):List α:=(xs.drop (aL xs.length 0 lo)).take (aL xs.length xs.length hi - aL xs.length 0 lo)
noncomputable def fC(x:D)(lo hi:Option Int)(h:Hh):R D:=match x with
 |.tup ds=>.ok (.tup (cut ds lo hi)) h
 |.str s=>.ok (.str (cut s lo hi)) h
 |.ref n=>match bg h n with
  |some ds=>alloc (cut ds lo hi) h
  |none=>.bad
 |_=>.bad
noncomputable def kO(x:D)(h:Hh):R D:=match x with
 |.tup ds=>.ok (.tup ds.reverse) h
 |.str s=>.ok (.str s.reverse) h
 |.ref n=>match bg h n with
  |some ds=>alloc ds.reverse h
  |none=>.bad
 |_=>.bad
noncomputable def boolsOf:List D->Option (List Bool)
 |[]=>some []
 |.bl b :: ds=>(boolsOf ds).map λr=>b :: r
 |_=>none
noncomputable def intsOf:List D->Option (List Int)
 |[]=>some []
 |.int i :: ds=>(intsOf ds).map λr=>i :: r
 |_=>none
noncomputable def strsOf:List D->Option (List (List Nat))
 |[]=>some []
 |.str s :: ds=>(strsOf ds).map λr=>s :: r
 |_=>none
noncomputable def bT(sep:List Nat):List (List Nat)->List Nat
 |[]=>[]
 |[s]=>s
 |s :: t :: r=>s++sep++bT sep (t :: r)
noncomputable def lexLe:List Nat->List Nat->Bool
 |[],_=>true
 |_ :: _,[]=>false
 |x :: xs,y :: ys=>if x=y then lexLe xs ys else decide (x<y)
noncomputable def HZ(x:List Nat):List (List Nat)->List (List Nat)
 |[]=>[x]
 |y :: ys=>if lexLe x y then x :: y :: ys else y :: HZ x ys
noncomputable def cI:List (List Nat)->List (List Nat)
 |[]=>[]
 |x :: xs=>HZ x (cI xs)
noncomputable def dw(b:BI)(xs:List D)(h:Hh):R D:=match b,xs with
 |.len,[.str s]=>if s.length<=big then .ok (.int s.length) h else .bad
 |.len,[.tup ds]=>.ok (.int ds.length) h
 |.len,[.ref n]=>R.of ((bg h n).map λds=>.int ds.length) h
 |.sum,[.ref n]=>R.of (((bg h n).bind intsOf).map λis=>.int is.sum) h
 |.min,[.int i,.int j]=>.ok (.int (if j<i then j else i)) h
 |.abs,[.int i]=>.ok (.int (if i<0 then -i else i)) h
 |_,_=>.bad
noncomputable def eK(m:ME)(o:D)(xs:List D)(h:Hh):R D:=match m,o,xs with
 |.join,.str sep,[.ref n]=>match (bg h n).bind strsOf with
  |some ss=>if (ss.map (·.length)).sum+ss.length*sep.length<=big then .ok (.str (bT sep ss)) h else .bad
  |none=>.bad
 |.append,.ref n,[x]=>match h[n]? with
  |some (.lst ds)=>if ds.length<big then .ok .bA (h.set n (.lst (ds++[x])))else .bad
  |_=>.bad
 |.extend,.ref n,[.ref m]=>match h[n]?,h[m]? with
  |some (.lst ds),some (.lst es)=>if ds.length+es.length<=big then .ok .bA (h.set n (.lst (ds++es)))else .bad
  |_,_=>.bad
 |.pop,.ref n,[]=>match h[n]? with
  |some (.lst ds)=>match ds[ds.length - 1]? with
   |some x=>.ok x (h.set n (.lst ds.dropLast))
   |none=>.bad
  |_=>.bad
 |_,_,_=>.bad
noncomputable def vh(m:ME)(x:D)(h:Hh):Bool:=match m,x with
 |.join,.str _=>true
 |.join,_=>false
 |_,.ref n=>(bg h n).isSome
 |_,_=>false
noncomputable def ee(x:D):List (D×D)->Option D
 |[]=>none
 | (k,v) :: r=>match gH [] 1 k x with
  |some true=>some v
  |some false=>ee x r
  |none=>none
abbrev Src:=List D×List (Nat×List D)
noncomputable def fO(h:Hh):D->Option Src
 |.tup ds=>some (ds,[])
 |.str s=>some (s.map λc=>.str [c],[])
 |.ref n=>(bg h n).map λds=>(ds,[(n,ds)])
 |_=>none
noncomputable def range(lo:Int)(n:Nat):List D:=(List.range n).map λ(i:Nat)=>.int (lo+i)
noncomputable def ef:List D->Option Src
 |[.int j]=>if -(2 ^ 62)<=j/\j<2 ^ 62 then some (range 0 j.toNat,[])else none
 |[.int i,.int j]=>if -(2 ^ 62)<=i/\i<2 ^ 62/\-(2 ^ 62)<=j/\j<2 ^ 62 then some (range i (j - i).toNat,[])else none
 |_=>none
noncomputable def cZ(a b:List D):List D:=List.zipWith (λx y=>.tup [x,y]) a b
noncomputable def cy:Int->List D->List D
 |_,[]=>[]
 |k,x :: xs=>.tup [.int k,x] :: cy (k+1) xs
noncomputable def BA:D->Option (List D)
 |.str a=>some (cy 0 (a.map λc=>.str [c]))
 |_=>none
noncomputable def wY:D->D->Option (List D)
 |.str a,.str b=>some (cZ (a.map λc=>.str [c]) (b.map λc=>.str [c]))
 |_,_=>none
noncomputable def wZ(a b:List D):Bool:=@decide (a=b) (Classical.propDecidable _)
def qQ(a b:List D):wZ a b=true↔a=b:=@decide_eq_true_iff _ (Classical.propDecidable _)
@[simp] theorem xg(a:List D):wZ a a=true:=(qQ a a).mpr rfl
noncomputable def stays(h:Hh):List (Nat×List D)->Bool
 |[]=>true
 | (n,ds) :: r=>(match bg h n with|some es=>wZ es ds|none=>false)&&stays h r
noncomputable def cC:List Nat->List D->Fr->Option Fr
 |[],[],fr=>some fr
 |i :: is,d :: ds,fr=>cC is ds (fr.set i (some d))
 |_,_,_=>none
noncomputable def bY:T->D->Fr->Option Fr
 |.one i,d,fr=>some (fr.set i (some d))
 |.many l,.tup ds,fr=>cC l ds fr
 |_,_,_=>none
noncomputable def slots:T->List Nat
 |.one i=>[i]
 |.many l=>l
noncomputable def undef(t:T)(fr:Fr):Bool:=(slots t).all λi=>(fr[i]?.join).isNone
noncomputable def BB:D->Option (List D)
 |.tup ds=>some ds
 |_=>none
noncomputable def pQ:D->Hh->R D
 |.tup ds,h=>.ok (.tup ds) h
 |.ref n,h=>match bg h n with
  |some ds=>if ds.length<=big then .ok (.tup ds) h else .bad
  |none=>.bad
 |_,_=>.bad
noncomputable def xj:D->Hh->R D
 |.ref n,h=>match bg h n with
  |some ds=>if ds.length<=big then .ok (.tup ds.reverse) h else .bad
  |none=>.bad
 |_,_=>.bad
noncomputable def sE(h:Hh):D->Option Src
 |.ref n=>(bg h n).map λds=>(ds,[(n,ds)])
 |_=>none
noncomputable def cJ(f:D->Hh->R (Option D))(ck:List (Nat×List D)):List D->Hh->R (List D)
 |[],h=>if stays h ck then .ok [] h else .bad
 |d :: ds,h=>if stays h ck then (f d h).bind λo h1=>(cJ f ck ds h1).bind λr h2=>.ok (o.toList++r) h2 else .bad
noncomputable def forL(f:D->Fr->Hh->R (Fl×Fr))(ck:List (Nat×List D)):List D->Fr->Hh->R (Fl×Fr)
 |[],fr,h=>if stays h ck then .ok (.nx,fr) h else .bad
 |d :: ds,fr,h=>if stays h ck then (f d fr h).bind λp h1=>match p.1 with
   |.nx=>forL f ck ds p.2 h1
   |.ct=>forL f ck ds p.2 h1
   |.bk=>.ok (.nx,p.2) h1
   |.ret x=>.ok (.ret x,p.2) h1
  else .bad
noncomputable def dD(t:Fr->Hh->R Bool)(f:Fr->Hh->R (Fl×Fr)):Nat->Fr->Hh->R (Fl×Fr)
 |0,_,_=>.bad
 |n+1,fr,h=>(t fr h).bind λb h1=>if b then (f fr h1).bind λp h2=>match p.1 with
   |.nx=>dD t f n p.2 h2
   |.ct=>dD t f n p.2 h2
   |.bk=>.ok (.nx,p.2) h2
   |.ret x=>.ok (.ret x,p.2) h2
  else .ok (.nx,fr) h1
abbrev aM:=Nat->List D->Hh->R D
noncomputable def intOf:D->Option Int
 |.int i=>some i
 |_=>none
mutual
noncomputable def ev(P:aM):E->Fr->Hh->R D
 |.c d,_,h=>.ok d h
 |.v i,fr,h=>R.of (fr[i]?.join) h
 |.tup es,fr,h=>(bV P es fr h).bind λds h1=>if ds.length<=big then .ok (.tup ds) h1 else .bad
 |.lst es,fr,h=>(bV P es fr h).bind λds h1=>alloc ds h1
 |.bin o a b,fr,h=>(ev P a fr h).bind λx h1=>(ev P b fr h1).bind λy h2=>bP o x y h2
 |.cmp o a b,fr,h=>(ev P a fr h).bind λx h1=>(ev P b fr h1).bind λy h2=>R.of ((cop o x y h2).map .bl) h2
 |.nt a,fr,h=>(ev P a fr h).bind λx h1=>match x with
   |.bl b=>.ok (.bl (!b)) h1
   |_=>.bad
 |.neg a,fr,h=>(ev P a fr h).bind λx h1=>match x with
   |.int i=>.ok (.int (-i)) h1
   |_=>.bad
 |.an a b,fr,h=>(ev P a fr h).bind λx h1=>match x with
   |.bl true=>ev P b fr h1
   |.bl false=>.ok (.bl false) h1
   |_=>.bad
 |.orr a b,fr,h=>(ev P a fr h).bind λx h1=>match x with
   |.bl true=>.ok (.bl true) h1
   |.bl false=>ev P b fr h1
   |_=>.bad
 |.kM t a b,fr,h=>(aE P t fr h).bind λk h1=>if k then ev P a fr h1 else ev P b fr h1
 |.ix a b,fr,h=>(ev P a fr h).bind λx h1=>(ev P b fr h1).bind λy h2=>R.of (dY x y h2) h2
 |.sl a lo hi,fr,h=>(ev P a fr h).bind λx h1=>(ff P lo fr h1).bind λl h2=>(ff P hi fr h2).bind λu h3=>fC x l u h3
 |.rv a,fr,h=>(ev P a fr h).bind λx h1=>kO x h1
 |.kN a,fr,h=>(ev P a fr h).bind λx h1=>xj x h1
 |.cl f es,fr,h=>(bV P es fr h).bind λds h1=>P f ds h1
 |.bi b es,fr,h=>(bV P es fr h).bind λds h1=>dw b ds h1
 |.me m o es,fr,h=>(ev P o fr h).bind λx h1=>if vh m x h1 then (bV P es fr h1).bind λds h2=>eK m x ds h2 else .bad
 |.comp elt t it cond,fr,h=>(bR P it fr h).bind λs h1=>if undef t fr then
   (cJ (λd h2=>match bY t d fr with
    |none=>.bad
    |some ao=>(gI P cond ao h2).bind λk h3=>if k then (ev P elt ao h3).bind λx h4=>.ok (some x) h4 else .ok none h3) s.2 s.1 h1).bind λds h2=>alloc ds h2 else .bad
 |.gp it,fr,h=>(bR P it fr h).bind λs h1=>alloc s.1 h1
 |.iO kvs a,fr,h=>(ev P a fr h).bind λx h1=>R.of (ee x kvs) h1
 |.gZ a,fr,h=>(ev P a fr h).bind λx h1=>pQ x h1
noncomputable def bV(P:aM):Es->Fr->Hh->R (List D)
 |.nil,_,h=>.ok [] h
 |.cons e es,fr,h=>(ev P e fr h).bind λd h1=>(bV P es fr h1).bind λds h2=>.ok (d :: ds) h2
noncomputable def ff(P:aM):Eo->Fr->Hh->R (Option Int)
 |.no,_,h=>.ok none h
 |.yes e,fr,h=>(ev P e fr h).bind λd h1=>R.of ((intOf d).map some) h1
noncomputable def gI(P:aM):Eo->Fr->Hh->R Bool
 |.no,_,h=>.ok true h
 |.yes e,fr,h=>aE P e fr h
noncomputable def aE(P:aM):E->Fr->Hh->R Bool
 |.an a b,fr,h=>(aE P a fr h).bind λk h1=>if k then aE P b fr h1 else .ok false h1
 |.orr a b,fr,h=>(aE P a fr h).bind λk h1=>if k then .ok true h1 else aE P b fr h1
 |.nt a,fr,h=>(aE P a fr h).bind λk h1=>.ok (!k) h1
 |e,fr,h=>(ev P e fr h).bind λx h1=>R.of (truthy h1 x) h1
noncomputable def bR(P:aM):It->Fr->Hh->R Src
 |.seq e,fr,h=>(ev P e fr h).bind λx h1=>R.of (fO h1 x) h1
 |.fY es,fr,h=>(bV P es fr h).bind λds h1=>R.of (ef ds) h1
 |.zip a b,fr,h=>(ev P a fr h).bind λx h1=>(ev P b fr h1).bind λy h2=>R.of ((sE h2 x).bind λs=>(sE h2 y).map λt=>(cZ s.1 t.1,s.2++t.2)) h2
 |.ji a,fr,h=>(ev P a fr h).bind λx h1=>R.of ((BA x).map λl=>(l,[])) h1
 |.jj a b,fr,h=>(ev P a fr h).bind λx h1=>(ev P b fr h1).bind λy h2=>R.of ((wY x y).map λl=>(l,[])) h2
 |.enum a,fr,h=>(ev P a fr h).bind λx h1=>R.of ((sE h1 x).map λs=>(cy 0 s.1,s.2)) h1
 |.rev a,fr,h=>(ev P a fr h).bind λx h1=>R.of ((BB x).map λds=>(ds.reverse,[])) h1
end
mutual
noncomputable def ex(P:aM)(w:Nat):S->Fr->Hh->R (Fl×Fr)
 |.set i e,fr,h=>(ev P e fr h).bind λx h1=>.ok (.nx,fr.set i (some x)) h1
 |.wX l e,fr,h=>(ev P e fr h).bind λx h1=>match bY (.many l) x fr with
   |some ao=>.ok (.nx,ao) h1
   |none=>.bad
 |.exp e,fr,h=>(ev P e fr h).bind λ_ h1=>.ok (.nx,fr) h1
 |.ret e,fr,h=>(ev P e fr h).bind λx h1=>.ok (.ret x,fr) h1
 |.iff t a b,fr,h=>(aE P t fr h).bind λk h1=>if k then exs P w a fr h1 else exs P w b fr h1
 |.for t it b,fr,h=>(bR P it fr h).bind λs h1=>forL (λd ao h2=>match bY t d ao with
   |some cE=>exs P w b cE h2
   |none=>.bad) s.2 s.1 fr h1
 |.lu t b,fr,h=>dD (λao h2=>aE P t ao h2) (λao h2=>exs P w b ao h2) w fr h
 |.fU _,_,_=>.bad
noncomputable def exs(P:aM)(w:Nat):Ss->Fr->Hh->R (Fl×Fr)
 |.nil,fr,h=>.ok (.nx,fr) h
 |.cons s ss,fr,h=>(ex P w s fr h).bind λp h1=>match p.1 with
   |.nx=>exs P w ss p.2 h1
   |_=>.ok p h1
end
structure Fn where
 np:Nat
 ns:Nat
 body:Ss
noncomputable def dZ(fn:Fn)(ds:List D):Fr:=ds.map some++List.replicate (fn.ns - fn.np) none
noncomputable def endOf(r:R (Fl×Fr)):R D:=r.bind λp h=>match p.1 with
 |.ret d=>.ok d h
 |.nx=>.ok .bA h
 |_=>.bad
noncomputable def run(F:List Fn)(w:Nat):Nat->aM
 |0,_,_,_=>.bad
 |n+1,f,ds,h=>match F[f]? with
  |some fn=>if ds.length=fn.np then endOf (exs (run F w n) w fn.body (dZ fn ds) h)else .bad
  |none=>.bad
def nX(F:List Fn)(w n f:Nat)(ds:List D)(h:Hh):run F w (n+1) f ds h=match F[f]? with
  |some fn=>if ds.length=fn.np then endOf (exs (run F w n) w fn.body (dZ fn ds) h)else .bad
  |none=>.bad:=rfl
end Ev
namespace Sm
open PySem PySem.Spec PyProof.Rows L2
noncomputable def aK(l:List Nat):Str:=⟨l.toArray⟩
def cG(l:List Nat):(aK l).length=l.length:=by simp[aK,Str.length]
def pR{a b:List Nat}(h:aK a=aK b):a=b:=by
 have h1:a.toArray=b.toArray:=VZ Str.cps h;simpa using VZ Array.toList h1
def iI:Ev.big=sizeLine:=by rw[WU];rfl
section
variable(K:PySem.W.Frag)
mutual
noncomputable def RV(H:Hp)(r:List Addr):Ev.D->V->Prop
 |.bA,v=>v=.bA
 |.bl b,v=>v=.bl b
 |.int i,v=>v=.int i
 |.str s,v=>v=.str (aK s)/\s.length<=sizeLine
 |.ref n,v=>∃a,v=.ref a/\r[n]?=some a
 |.tup ds,v=>∃a vs,v=.ref a/\cV K H a vs/\az H r ds vs
noncomputable def az(H:Hp)(r:List Addr):List Ev.D->List V->Prop
 |[],vs=>vs=[]
 |d :: ds,vs=>∃v w,vs=v :: w/\RV H r d v/\az H r ds w
end
noncomputable def xm(H:Hp)(a:Addr)(vs:List V):Prop:=(∃o,H a=some (.bO o (.lst vs)))\/
 ∃(o:Obj) (its:Array Value) (n:Nat),K.lookup a=some o/\o.cls=.type "list" /\o.dict=none/\o.data=.seq its n/\its.size<=sizeLine/\Vals vs its.toList
noncomputable def RO(H:Hp)(r:List Addr):Ev.O->Addr->Prop
 |.lst ds,a=>∃vs,H a=some (.lst vs)/\az K H r ds vs
 |.bO ds,a=>∃vs,xm K H a vs/\az K H r ds vs
structure HR(H:Hp)(r:List Addr)(h:Ev.Hh):Prop where
 len:r.length=h.length
 ob:∀(n:Nat) o,h[n]?=some o->∃a,r[n]?=some a/\RO K H r o a
 inj:∀(n m:Nat) a x y,r[n]?=some a->r[m]?=some a->h[n]?=some (.lst x)->h[m]?=some (.lst y)->n=m
structure Fm(r r':List Addr)(H H':Hp):Prop where
 pre:∀(n:Nat) a,r[n]?=some a->r'[n]?=some a
 new:∀a∈r',a∈r\/H a=none
 keep:∀a o,H a=some o->a∉r->H' a=some o
 tups:∀a vs,cV K H a vs->cV K H' a vs
end
section
variable{K:PySem.W.Frag}{H H1 H2:Hp}{r r1 r2:List Addr}{h:Ev.Hh}
def Fm.refl:Fm K r r H H:=⟨λ_ _ e=>e,λ_ e=>.inl e,λ_ _ e _=>e,λ_ _ e=>e⟩
def Fm.trans(a:Fm K r r1 H H1)(b:Fm K r1 r2 H1 H2):Fm K r r2 H H2 where
 pre:=λn x e=>b.pre n x (a.pre n x e)
 new:=λx e=>by
  rcases b.new x e with q|q
  .exact a.new x q
  .by_cases z:x∈r
   .exact .inl z
   .refine .inr ?_;cases w:H x with
    |none=>rfl
    |some o=>rw[a.keep x o w z]at q;cases q
 keep:=λx o e n=>by
  refine b.keep x o (a.keep x o e n) λz=>?_;rcases a.new x z with q|q
  .exact n q
  .rw[e]at q;cases q
 tups:=λx vs e=>b.tups x vs (a.tups x vs e)
mutual
theorem RV.grow(f:∀(n:Nat) a,r[n]?=some a->r1[n]?=some a)(g:∀a vs,cV K H a vs->cV K H1 a vs):∀{d:Ev.D}{v:V},RV K H r d v->RV K H1 r1 d v
 |.bA,_,e=>e
 |.bl _,_,e=>e
 |.int _,_,e=>e
 |.str _,_,e=>e
 |.ref n,_,⟨a,e,z⟩=>⟨a,e,f n a z⟩
 |.tup ds,_,⟨a,vs,e,z,q⟩=>⟨a,vs,e,g a vs z,az.grow f g q⟩
theorem az.grow(f:∀(n:Nat) a,r[n]?=some a->r1[n]?=some a)(g:∀a vs,cV K H a vs->cV K H1 a vs):∀{ds:List Ev.D}{vs:List V},az K H r ds vs->az K H1 r1 ds vs
 |[],_,e=>e
 |_ :: _,_,⟨v,w,e,z,q⟩=>⟨v,w,e,RV.grow f g z,az.grow f g q⟩
end
def RV.mono(f:Fm K r r1 H H1){d:Ev.D}{v:V}(q:RV K H r d v):RV K H1 r1 d v:=q.grow f.pre f.tups
def az.mono(f:Fm K r r1 H H1){ds:List Ev.D}{vs:List V}(q:az K H r ds vs):az K H1 r1 ds vs:=q.grow f.pre f.tups
def az.nil:az K H r [] []:=by simp[az]
def az.cons{d:Ev.D}{v:V}{ds:List Ev.D}{vs:List V}(a:RV K H r d v)(b:az K H r ds vs):az K H r (d :: ds) (v :: vs):=by
 simp only[az];exact⟨v,vs,rfl,a,b⟩
theorem az.length:∀{ds:List Ev.D}{vs:List V},az K H r ds vs->vs.length=ds.length
 |[],_,e=>by simp only[az]at e;subst e;rfl
 |_ :: _,_,e=>by
  simp only[az]at e;obtain⟨v,w,rfl,_,q⟩:=e;simp[az.length q]
theorem az.get:∀{ds:List Ev.D}{vs:List V}{i:Nat}{d:Ev.D},az K H r ds vs->ds[i]?=some d->∃v,vs[i]?=some v/\RV K H r d v
 |[],_,_,_,_,e=>by simp at e
 |_ :: _,_,0,_,h,e=>by
  simp only[az]at h;obtain⟨v,w,rfl,z,q⟩:=h;simp at e;subst e;exact⟨v,by simp,z⟩
 |_ :: _,_,i+1,_,h,e=>by
  simp only[az]at h;obtain⟨v,w,rfl,z,q⟩:=h;obtain⟨u,a,b⟩:=az.get (i:=i) q (by simpa using e);exact⟨u,by simpa using a,b⟩
theorem az.append:∀{ds es:List Ev.D}{vs ws:List V},az K H r ds vs->az K H r es ws->az K H r (ds++es) (vs++ws)
 |[],_,_,_,a,b=>by simp only[az]at a;subst a;simpa using b
 |_ :: _,_,_,_,a,b=>by
  simp only[az]at a;obtain⟨v,w,rfl,z,q⟩:=a;simp only[WJ];exact .cons z (az.append q b)
theorem az.take:∀{ds:List Ev.D}{vs:List V}(n:Nat),az K H r ds vs->az K H r (ds.take n) (vs.take n)
 |_,_,0,_=>by simp[az]
 |[],_,_+1,a=>by simp only[az]at a;subst a;simp[az]
 |_ :: _,_,n+1,a=>by
  simp only[az]at a;obtain⟨v,w,rfl,z,q⟩:=a;simp only[WA];exact .cons z (az.take n q)
theorem az.drop:∀{ds:List Ev.D}{vs:List V}(n:Nat),az K H r ds vs->az K H r (ds.drop n) (vs.drop n)
 |_,_,0,a=>by simpa using a
 |[],_,_+1,a=>by simp only[az]at a;subst a;simp[az]
 |_ :: _,_,n+1,a=>by
  simp only[az]at a;obtain⟨v,w,rfl,z,q⟩:=a;simp only[Xc];exact az.drop n q
theorem az.reverse:∀{ds:List Ev.D}{vs:List V},az K H r ds vs->az K H r ds.reverse vs.reverse
 |[],_,a=>by simp only[az]at a;subst a;simp[az]
 |_ :: _,_,a=>by
  simp only[az]at a;obtain⟨v,w,rfl,z,q⟩:=a;simp only[VW];exact(az.reverse q).append (.cons z .nil)
theorem az.rep{ds:List Ev.D}{vs:List V}(a:az K H r ds vs):∀k:Nat,az K H r (Ev.rep k ds) (Ev.rep k vs)
 |0=>by simp[Ev.rep,az]
 |k+1=>by
  have h:=az.rep a k;simp only[Ev.rep,Ut,W5]at h ⊢;exact a.append h
def Fm.laid{p:Addr}{o:HO}(hp:H p=none):Fm K r (r++[p]) H (upd H p o) where
 pre:=λn a e=>by rw[Sx (List.getElem?_eq_some_iff.mp e).1];exact e
 new:=λa e=>by
  rcases List.mem_append.mp e with q|q
  .exact .inl q
  .rw[Zg]at q;subst q;exact .inr hp
 keep:=λa ob e _=>by rw[bw (bS e hp)];exact e
 tups:=λa vs e=>by
  rcases e with (e|⟨ob,e⟩)|e
  .exact .inl (.inl (by rw[bw (bS e hp)];exact e))
  .exact .inl (.inr ⟨ob,by rw[bw (bS e hp)];exact e⟩)
  .exact .inr e
def Fm.tup{p:Addr}{o:HO}(hp:H p=none):Fm K r r H (upd H p o) where
 pre:=λn a e=>e
 new:=λa e=>.inl e
 keep:=λa ob e _=>by rw[bw (bS e hp)];exact e
 tups:=(Fm.laid (r:=r) hp).tups
theorem RO.mono{o:Ev.O}{a:Addr}(f:Fm K r r1 H H1)(q:RO K H r o a)(hl:∀ds vs,o=.lst ds->H a=some (.lst vs)->H1 a=some (.lst vs))(hf:∀ob vs,H a=some (.bO ob vs)->H1 a=some (.bO ob vs))
  : RO K H1 r1 o a:=by
 cases o with
 |lst ds=>
  obtain⟨vs,e,z⟩:=q;exact⟨vs,hl ds vs rfl e,z.mono f⟩
 |bO ds=>
  obtain⟨vs,e,z⟩:=q;refine⟨vs,?_,z.mono f⟩;rcases e with ⟨ob,e⟩|e
  .exact .inl ⟨ob,hf _ _ e⟩
  .exact .inr e
theorem HR.tup{p:Addr}{o:HO}(hr:HR K H r h)(hp:H p=none):HR K (upd H p o) r h where
 len:=hr.len
 ob:=λn ob e=>by
  obtain⟨a,e1,q⟩:=hr.ob n ob e;exact⟨a,e1,q.mono (Fm.tup hp) (λ_ vs _ z=>by rw[bw (bS z hp)];exact z) (λ_ _ z=>by rw[bw (bS z hp)];exact z)
   ⟩
 inj:=hr.inj
theorem HR.lst{p:Addr}{ds:List Ev.D}{vs:List V}(hr:HR K H r h)(hp:H p=none)(q:az K H r ds vs):HR K (upd H p (.lst vs)) (r++[p]) (h++[.lst ds]) where
 len:=by simp[hr.len]
 ob:=λn ob e=>by
  by_cases hn:n<h.length
  .rw[Sx hn]at e;obtain⟨a,e1,z⟩:=hr.ob n ob e;exact⟨a,(Fm.laid (K:=K) (o:=.lst vs) hp).pre n a e1,z.mono (Fm.laid hp) (λ_ vs _ z=>by rw[bw (bS z hp)];exact z) (λ_ _ z=>by rw[bw (bS z hp)];exact z)
    ⟩
  .have e2:=(List.getElem?_eq_some_iff.mp e).1;simp only[VX,W3]at e2;have e3:n=h.length:=by omega
   subst e3;simp at e;subst e;exact⟨p,by rw[<-hr.len];simp,vs,eN,q.mono (Fm.laid hp)⟩
 inj:=λn m a x y e1 e2 e3 e4=>by
  have out:∀(k:Nat) z,(h++[Ev.O.lst ds])[k]?=some (.lst z)->(r++[p])[k]?=some a->(k<h.length/\r[k]?=some a/\h[k]?=some (.lst z)/\a≠p)\/(k=h.length/\a=p):=λk z q1 q2=>by
   by_cases hk:k<h.length
   .rw[Sx hk]at q1;rw[Sx (by rw[hr.len];exact hk)]at q2;obtain⟨b,e5,vs',e6,_⟩:=hr.ob k _ q1;rw[q2]at e5;cases e5;exact .inl ⟨hk,q2,q1,bS e6 hp⟩
   .have e5:=(List.getElem?_eq_some_iff.mp q1).1;simp only[VX,W3]at e5;have e6:k=r.length:=by rw[hr.len];omega
    subst e6;simp at q2;exact .inr ⟨hr.len,q2.symm⟩
  rcases out n x e3 e1 with ⟨h1,h2,h3,h4⟩|⟨h1,h2⟩
  .rcases out m y e4 e2 with ⟨k1,k2,k3,k4⟩|⟨k1,k2⟩
   .exact hr.inj n m a x y h2 k2 h3 k3
   .exact absurd k2 h4
  .rcases out m y e4 e2 with ⟨k1,k2,k3,k4⟩|⟨k1,k2⟩
   .exact absurd h2 k4
   .rw[h1,k1]
def HR.read{n:Nat}{ds:List Ev.D}(hr:HR K H r h)(e:Ev.bg h n=some ds):∃a vs,r[n]?=some a/\eH K H a vs/\az K H r ds vs:=by
 unfold Ev.bg at e;split at e
 .rename_i z;cases e;obtain⟨a,e1,vs,e2,e3⟩:=hr.ob n _ z;exact⟨a,vs,e1,.inl (.inl e2),e3⟩
 .rename_i z;cases e;obtain⟨a,e1,vs,e2,e3⟩:=hr.ob n _ z;refine⟨a,vs,e1,?_,e3⟩;rcases e2 with ⟨ob,e2⟩|e2
  .exact .inl (.inr ⟨ob,e2⟩)
  .exact .inr e2
 .cases e
def Fm.write{a:Addr}{vs ws:List V}(ha:H a=some (.lst vs))(hm:a∈r):Fm K r r H (upd H a (.lst ws)) where
 pre:=λn b e=>e
 new:=λb e=>.inl e
 keep:=λb ob e n=>by rw[bw (λz=>n (by rw[z];exact hm))];exact e
 tups:=λb us e=>by
  rcases e with (e|⟨ob,e⟩)|e
  .exact .inl (.inl (by rw[bw (nU e ha (by intro z;cases z))];exact e))
  .exact .inl (.inr ⟨ob,by rw[bw (nU e ha (by intro z;cases z))];exact e⟩)
  .exact .inr e
theorem HR.write{n:Nat}{a:Addr}{ds es:List Ev.D}{vs ws:List V}(hr:HR K H r h)(hn:h[n]?=some (.lst ds))(Ia:r[n]?=some a)(ha:H a=some (.lst vs))(q:az K H r es ws) :
  HR K (upd H a (.lst ws)) r (h.set n (.lst es)) where
 len:=by simp[hr.len]
 ob:=λm ob e=>by
  have f:=Fm.write (K:=K) (ws:=ws) ha (V9 Ia);by_cases hm:m=n
  .subst hm;rw[VV (List.getElem?_eq_some_iff.mp hn).1]at e;cases e;exact⟨a,Ia,ws,eN,q.mono f⟩
  .rw[PZ (λz=>hm z.symm)]at e;obtain⟨b,e1,z⟩:=hr.ob m ob e;refine⟨b,e1,z.mono f (λSN us z3 z2=>?_) (λUu us z2=>by rw[bw (nU z2 ha (by intro z;cases z))];exact z2)
    ⟩
   by_cases hb:b=a
   .subst hb;subst z3;exact absurd (hr.inj m n b SN ds e1 Ia e hn) hm
   .rw[bw hb];exact z2
 inj:=λk m b x y e1 e2 e3 e4=>by
  have back:∀(j:Nat) z,(h.set n (Ev.O.lst es))[j]?=some (.lst z)->∃z',h[j]?=some (.lst z'):=λj z w=>by
   by_cases hj:j=n
   .subst hj;exact⟨ds,hn⟩
   .rw[PZ (λz=>hj z.symm)]at w;exact⟨z,w⟩
  obtain⟨x',e5⟩:=back k x e3;obtain⟨y',e6⟩:=back m y e4;exact hr.inj k m b x' y' e1 e2 e5 e6
def gK{p:Addr}{vs ws:List V}(hp:H p=some (.lst vs)):∀a us,cV K H a us->cV K (upd H p (.lst ws)) a us:=λb us e=>by
 rcases e with (e|⟨ob,e⟩)|e
 .exact .inl (.inl (by rw[bw (nU e hp (by intro z;cases z))];exact e))
 .exact .inl (.inr ⟨ob,by rw[bw (nU e hp (by intro z;cases z))];exact e⟩)
 .exact .inr e
def HR.other{p:Addr}{vs ws:List V}(hr:HR K H r h)(hp:H p=some (.lst vs))(hn:p∉r):HR K (upd H p (.lst ws)) r h where
 len:=hr.len
 ob:=λn ob e=>by
  obtain⟨a,e1,q⟩:=hr.ob n ob e;have ha:a≠p:=λz=>hn (by rw[<-z];exact V9 e1);refine⟨a,e1,?_⟩;cases ob with
  |lst ds=>
   obtain⟨us,e2,e3⟩:=q;exact⟨us,by rw[bw ha];exact e2,e3.grow (λ_ _ z=>z) (gK hp)⟩
  |bO ds=>
   obtain⟨us,e2,e3⟩:=q;refine⟨us,?_,e3.grow (λ_ _ z=>z) (gK hp)⟩;rcases e2 with ⟨o,e2⟩|e2
   .exact .inl ⟨o,by rw[bw ha];exact e2⟩
   .exact .inr e2
 inj:=hr.inj
def Fm.other{p:Addr}{vs ws:List V}(f:Fm K r r1 H H1)(h0:H p=none)(hp:H1 p=some (.lst vs)):Fm K r r1 H (upd H1 p (.lst ws)) where
 pre:=f.pre
 new:=f.new
 keep:=λa o e n=>by rw[bw (bS e h0)];exact f.keep a o e n
 tups:=λa us e=>gK hp a us (f.tups a us e)
def Fm.xo{p:Addr}{o:HO}(f:Fm K r r1 H H1)(hp:H p=some o)(hn:p∉r):p∉r1/\H1 p=some o:=by
 refine⟨λz=>?_,f.keep p o hp hn⟩;rcases f.new p z with q|q
 .exact hn q
 .rw[hp]at q;cases q
def HR.known{p:Addr}{ds:List Ev.D}{vs:List V}(hr:HR K H r h)(hp:H p=some (.lst vs))(hn:p∉r)(q:az K H r ds vs):HR K H (r++[p]) (h++[.lst ds]):=by
 have pre:∀(n:Nat) a,r[n]?=some a->(r++[p])[n]?=some a:=λn a e=>by rw[Sx (List.getElem?_eq_some_iff.mp e).1];exact e
 refine⟨by simp[hr.len],λn ob e=>?_,λn m a x y e1 e2 e3 e4=>?_
  ⟩
 .by_cases hk:n<h.length
  .rw[Sx hk]at e;obtain⟨a,e1,z⟩:=hr.ob n ob e;refine⟨a,pre n a e1,?_⟩;cases ob with
   |lst ds=>obtain⟨us,e2,e3⟩:=z;exact⟨us,e2,e3.grow pre λ_ _ z=>z⟩
   |bO ds=>obtain⟨us,e2,e3⟩:=z;exact⟨us,e2,e3.grow pre λ_ _ z=>z⟩
  .have e2:=(List.getElem?_eq_some_iff.mp e).1;simp only[VX,W3]at e2;have e3:n=h.length:=by omega
   subst e3;simp at e;subst e;exact⟨p,by rw[<-hr.len];simp,vs,hp,q.grow pre λ_ _ z=>z⟩
 .have out:∀(k:Nat) z,(h++[Ev.O.lst ds])[k]?=some (.lst z)->(r++[p])[k]?=some a->(k<h.length/\r[k]?=some a/\h[k]?=some (.lst z)/\a≠p)\/(k=h.length/\a=p):=λk z q1 q2=>by
   by_cases hk:k<h.length
   .rw[Sx hk]at q1;rw[Sx (by rw[hr.len];exact hk)]at q2;exact .inl ⟨hk,q2,q1,λz=>hn (by rw[<-z];exact V9 q2)⟩
   .have e5:=(List.getElem?_eq_some_iff.mp q1).1;simp only[VX,W3]at e5;have e6:k=r.length:=by rw[hr.len];omega
    subst e6;simp at q2;exact .inr ⟨hr.len,q2.symm⟩
  rcases out n x e3 e1 with ⟨h1,h2,h3,h4⟩|⟨h1,h2⟩
  .rcases out m y e4 e2 with ⟨k1,k2,k3,k4⟩|⟨k1,k2⟩
   .exact hr.inj n m a x y h2 k2 h3 k3
   .exact absurd k2 h4
  .rcases out m y e4 e2 with ⟨k1,k2,k3,k4⟩|⟨k1,k2⟩
   .exact absurd h2 k4
   .rw[h1,k1]
def Fm.known{p:Addr}(f:Fm K r r1 H H1)(h0:H p=none):Fm K r (r1++[p]) H H1 where
 pre:=λn a e=>by
  have e':=f.pre n a e;rw[Sx (List.getElem?_eq_some_iff.mp e').1];exact e'
 new:=λa e=>by
  rcases List.mem_append.mp e with q|q
  .exact f.new a q
  .rw[Zg]at q;subst q;exact .inr h0
 keep:=f.keep
 tups:=f.tups
end
end Sm
namespace Sm
open PySem PySem.Spec PyProof.Rows L2
open Ev (D O Hh Fr R aM E Es Eo It T S Ss Fl Src br aZ TY BI ME)
section
variable(K:PySem.W.Frag)
noncomputable def Res(r:List Addr)(H:Hp)(h':Hh)(d:D)(Q:VK):Prop:=∀v H' r',RV K H' r' d v->HR K H' r' h'->Fm K r r' H H'->Q v H'
structure SR(m:List Nat)(H:Hp)(r:List Addr)(fr:Fr)(s:L2.St):Prop where
 len:s.length=m.length
 sl:∀(j i:Nat) d,m[j]?=some i->fr[i]?=some (some d)->∃v,s[j]?=some (some v)/\RV K H r d v
inductive tJ(m:List Nat)(P:aM)(e:E)(s:L2.St)(H:Hp)(Q:VK):Prop
 |mk (r:List Addr) (fr:Fr) (h:Hh) (d:D) (h':Hh) (c0:SR K m H r fr s) (c1:HR K H r h) (c2:Ev.ev P e fr h=.ok d h') (c3:Res K r H h' d Q):tJ m P e s H Q
inductive Ib(m:List Nat)(P:aM)(e:E)(s:L2.St)(H:Hp)(Q:Bool->Hp->Prop):Prop
 |mk (r:List Addr) (fr:Fr) (h:Hh) (k:Bool) (h':Hh) (c0:SR K m H r fr s) (c1:HR K H r h) (c2:Ev.aE P e fr h=.ok k h') (c3:∀H' r',HR K H' r' h'->Fm K r r' H H'->Q k H'):Ib m P e s H Q
inductive Ic(m:List Nat)(P:aM)(es:Es)(s:L2.St)(H:Hp)(Q:List V->Hp->Prop):Prop
 |mk (r:List Addr) (fr:Fr) (h:Hh) (ds:List D) (h':Hh) (c0:SR K m H r fr s) (c1:HR K H r h) (c2:Ev.bV P es fr h=.ok ds h') (c3:∀vs H' r',az K H' r' ds vs->HR K H' r' h'->Fm K r r' H H'->Q vs H'):Ic m P es s H Q
inductive Pk(m:List Nat)(P:aM)(e:Eo)(s:L2.St)(H:Hp)(Q:Option Int->Hp->Prop):Prop
 |mk (r:List Addr) (fr:Fr) (h:Hh) (o:Option Int) (h':Hh) (c0:SR K m H r fr s) (c1:HR K H r h) (c2:Ev.ff P e fr h=.ok o h') (c3:∀H' r',HR K H' r' h'->Fm K r r' H H'->Q o H'):Pk m P e s H Q
inductive iJ(f:D->D->Hh->R D)(x:V)(y:V)(H:Hp)(Q:VK):Prop
 |mk (r:List Addr) (h:Hh) (a:D) (b:D) (d:D) (h':Hh) (c0:HR K H r h) (c1:RV K H r a x) (c2:RV K H r b y) (c3:f a b h=.ok d h') (c4:Res K r H h' d Q):iJ f x y H Q
inductive sF(f:List D->Hh->R D)(xs:List V)(H:Hp)(Q:VK):Prop
 |mk (r:List Addr) (h:Hh) (as:List D) (d:D) (h':Hh) (c0:HR K H r h) (c1:az K H r as xs) (c2:f as h=.ok d h') (c3:Res K r H h' d Q):sF f xs H Q
inductive sG(f:D->List D->Hh->R D)(x:V)(xs:List V)(H:Hp)(Q:VK):Prop
 |mk (r:List Addr) (h:Hh) (a:D) (as:List D) (d:D) (h':Hh) (c0:HR K H r h) (c1:RV K H r a x) (c2:az K H r as xs) (c3:f a as h=.ok d h') (c4:Res K r H h' d Q):sG f x xs H Q
inductive Ie  (x:V) (lo:Option Int) (hi:Option Int) (H:Hp) (Q:VK):Prop
 |mk (r:List Addr) (h:Hh) (a:D) (d:D) (h':Hh) (c0:HR K H r h) (c1:RV K H r a x) (c2:Ev.fC a lo hi h=.ok d h') (c3:Res K r H h' d Q):Ie x lo hi H Q
end
section
variable{K:PySem.W.Frag}{m:List Nat}{H H':Hp}{r r':List Addr}{fr:Fr}{s:L2.St}{h h':Hh}{d:D}{Q:VK}
theorem SR.mono(a:SR K m H r fr s)(f:Fm K r r' H H'):SR K m H' r' fr s:=⟨a.len,λj i d e1 e2=>by
 obtain⟨v,q,z⟩:=a.sl j i d e1 e2;exact⟨v,q,z.mono f⟩⟩
def Res.here{v:V}(q:Res K r H h d Q)(a:RV K H r d v)(b:HR K H r h):Q v H:=q v H r a b .refl
def Res.later(q:Res K r H h' d Q)(f:Fm K r r' H H'):Res K r' H' h' d Q:=λv H2 r2 a b g=>q v H2 r2 a b (f.trans g)
theorem Res.lst{ds:List D}{vs:List V}(q:Res K r H h' d Q)(e:Ev.alloc ds h=.ok d h')(a:az K H r ds vs)(b:HR K H r h):vs.length<=sizeLine/\∀p,H p=none->Q (.ref p) (upd H p (.lst vs)):=by
 unfold Ev.alloc at e;split at e
 .rename_i z;cases e;refine⟨by rw[a.length,<-iI];exact z,λp hp=>?_⟩;exact q _ _ (r++[p]) ⟨p,rfl,by rw[<-b.len];simp⟩ (b.lst hp a) (.laid hp)
 .cases e
theorem Res.tup{ds:List D}{vs:List V}(q:Res K r H h (.tup ds) Q)(a:az K H r ds vs)(b:HR K H r h){p:Addr}(hp:H p=none):Q (.ref p) (upd H p (.tup vs)):=
 q _ _ r ⟨p,vs,rfl,.of eN,a.mono (.tup hp)⟩ (b.tup hp) (.tup hp)
end
def PE.of{X:Cx}{e:Expr}{t t':TE}(h:PE X e t)(w:∀s H Q,t' s H Q->t s H Q):PE X e t':=λpins s σ H Q I q=>h pins s σ H Q I (w _ _ _ q)
def PT.of{X:Cx}{e:Expr}{t t':TT}(h:PT X e t)(w:∀s H Q,t' s H Q->t s H Q):PT X e t':=λpins s σ H Q I q=>h pins s σ H Q I (w _ _ _ q)
def PW.of{X:Cx}{e:Expr}{t t':TT}(h:PW X e t)(w:∀s H Q,t' s H Q->t s H Q):PW X e t':=λwh pins s σ H Q I q=>h wh pins s σ H Q I (w _ _ _ q)
def PA.of{X:Cx}{es:List Expr}{t t':TA}(h:PA X es t)(w:∀s H Q,t' s H Q->t s H Q):PA X es t':=λpos pins s σ H Q I q=>h pos pins s σ H Q I (w _ _ _ q)
def PO.of{X:Cx}{e:Option Expr}{t t':TO}(h:PO X e t)(w:∀s H Q,t' s H Q->t s H Q):PO X e t':=λpins s σ H Q I q=>h pins s σ H Q I (w _ _ _ q)
structure FI where
 name:Str
 addr:Addr
 fd:FuncData
 ps:List Str
noncomputable def mX(K:PySem.W.Frag)(F:List Ev.Fn)(w n f:Nat):Sp:=λvs H Q _=>∃r h ds d h',az K H r ds vs/\HR K H r h/\Ev.run F w n f ds h=.ok d h'/\Res K r H h' d Q
noncomputable def vj(K:PySem.W.Frag)(d:D)(v:V):Prop:=∀H r,RV K H r d v
def vj.rv{K:PySem.W.Frag}{H:Hp}{r:List Addr}{d:D}{v:V}(h:vj K d v):RV K H r d v:=h H r
structure Tb where
 F:List Ev.Fn
 w:Nat
 fi:List FI
 bl:List Str
 cs:List (Str×D)
 dk:List (Str×List (D×D))
noncomputable def tabOf:List (D×D)->List (PyData×PyData)
 | (.str k,.str v) :: r=>(.str (aK k),.str (aK v)) :: tabOf r
 |_=>[]
structure Good(G:Tb)(n:Nat)(sc:Scope)(N:List Str)(df:Bool)(X:Cx):Prop where
 nm:X.N=N
 sc:X.env.scope=sc
 calm:X.calm=true
 own:df=true->∀x,X.fn x=true
 room:gh n X.A
 xe:X.xe=λ_ _=>False
 fn:∀(f:Nat) i,G.fi[f]?=some i->X.mg i.name=some (.ref i.addr)/\PySem.W.keepIn X.K (.ref i.addr)=true/\Binds X.K i.fd i.ps []/\ig X.prog X.w X.K X.mg X.base lg n i.addr i.fd i.ps (mX X.K G.F G.w n f)
 bl:∀x∈G.bl,X.mg x=none
 cs:∀x d,(x,d)∈G.cs->∃v u,X.mg x=some u/\RelV v u/\vj X.K d v
 dk:∀x kvs,(x,kvs)∈G.dk->∃a,X.mg x=some (.ref a)/\∀h:Heap,X.K.In h->StrTab X.prog X.w h a (tabOf kvs)
section
variable(G:Tb)(n:Nat)(sc:Scope)(N:List Str)(df:Bool)(m:List Nat)
noncomputable def JE(e:E)(x:Expr):Prop:=∀X,Good G n sc N df X->PE X x (tJ X.K m (Ev.run G.F G.w n) e)
noncomputable def JT(e:E)(x:Expr):Prop:=∀X,Good G n sc N df X->PT X x (Ib X.K m (Ev.run G.F G.w n) e)
noncomputable def JW(e:E)(x:Expr):Prop:=∀X,Good G n sc N df X->PW X x (Ib X.K m (Ev.run G.F G.w n) e)
noncomputable def JA(es:Es)(xs:List Expr):Prop:=∀X,Good G n sc N df X->PA X xs (Ic X.K m (Ev.run G.F G.w n) es)
noncomputable def JO(e:Eo)(x:Option Expr):Prop:=∀X,Good G n sc N df X->PO X x (Pk X.K m (Ev.run G.F G.w n) e)
end
section
variable{G:Tb}{n:Nat}{sc:Scope}{N:List Str}{df:Bool}{m:List Nat}{a b c:E}{xa xb:Expr}{pos:Pos}
def Good.vis{X:Cx}(g:Good G n sc N df X){x:Str}(h:sc.names.lookup x=some .local\/sc.names.lookup x=some .cell\/sc.names.lookup x=some .free):yH X.env.scope x:=by
 rw[g.sc];exact h
def Good.gl{X:Cx}(g:Good G n sc N df X){x:Str}(h:sc.names.lookup x=some .globalImplicit):Gl X x:=by
 unfold Gl Env.kindOf;rw[g.sc];exact h
def Rg(j i:Nat){x:Str}(hj:m[j]?=some i:=by rfl)(hN:N[j]?=some x:=by rfl)
  (hv:sc.names.lookup x=some .local\/sc.names.lookup x=some .cell\/sc.names.lookup x=some .free:=by first|exact Or.inl rfl|exact Or.inr (Or.inl rfl)|exact Or.inr (Or.inr rfl))
  (hd:(x==("__debug__" : Str))=false:=by decide) (hcd:(x==("__classdict__" : Str))=false:=by decide):JE G n sc N df m (.v i) (.Name x pos):=by
 intro X g;refine PE.of (yL (i:=j) (by rw[g.nm];exact hN) (g.vis hv) hd hcd) λs H Q q=>?_;obtain⟨r,fr,h,d,h',sr,hr,e,q⟩:=q;simp only[Ev.ev]at e;obtain⟨e2,e3⟩:=Ev.aC e;subst e3;obtain⟨v,q1,q2⟩:=sr.sl j i d hj (by
  cases z:fr[i]? with
  |none=>rw[z]at e2;cases e2
  |some o=>
   rw[z]at e2;have e':o=some d:=e2;rw[e'])
 exact⟨v,q1,q.here q2 hr⟩
def xq{K:PySem.W.Frag}{P:aM}{d:D}{v:V}(hc:vj K d v):∀s H Q,tJ K m P (.c d) s H Q->tC v s H Q:=λs H Q q=>by
 obtain⟨r,fr,h,d',h',sr,hr,e,q⟩:=q;simp only[Ev.ev]at e;cases e;exact q.here hc.rv hr
def zb{i:Int}{j}:JE G n sc N df m (.c (.int i)) (.Constant (.int i) j pos):=λX g=>PE.of G9 (xq λ_ _=>rfl)
def M4{k:Bool}{j}:JE G n sc N df m (.c (.bl k)) (.Constant (.bool k) j pos):=λX g=>PE.of MF (xq λ_ _=>rfl)
def Ig{l:List Nat}{x:Str}{j}(hx:x=aK l:=by decide +kernel)(hl:l.length<=sizeLine:=by decide):JE G n sc N df m (.c (.str l)) (.Constant (.str x) j pos):=
 λX g=>PE.of Hf (xq λ_ _=>by subst hx;exact⟨rfl,hl⟩)
def Ih:JA G n sc N df m .nil []:=λX g=>PA.of jJ λs H Q q=>by
 obtain⟨r,fr,h,ds,h',sr,hr,e,q⟩:=q;simp only[Ev.bV]at e;cases e;exact q [] H r .nil hr .refl
def EV{es:Es}{xs:List Expr}(ha:JE G n sc N df m a xa)(hs:JA G n sc N df m es xs)(hst:∀env:Env,starEach (xa :: xs) env=(false,eval xa env) :: starEach xs env:=by intro _;rfl):JA G n sc N df m (.cons a es) (xa :: xs):=
 λX g=>PA.of (g9 (ha X g) (hs X g) (hst _)) λs H Q q=>by
  obtain⟨r,fr,h,ds,h',sr,hr,e,q⟩:=q;simp only[Ev.bV]at e;obtain⟨d,h1,e1,e⟩:=Ev.ah e;obtain⟨ds',h2,e2,e⟩:=Ev.ah e;cases e;refine⟨r,fr,h,d,h1,sr,hr,e1,λv H1 r1 v1 hr1 f1=>?_⟩;refine⟨r1,fr,h1,ds',_,sr.mono f1,hr1,e2,λvs H2 r2 v2 hr2 f2=>?_⟩;exact q _ H2 r2 (.cons (v1.mono f2) v2) hr2 (f1.trans f2)
def Ii{es:Es}{xs:List Expr}{k}(hs:JA G n sc N df m es xs):JE G n sc N df m (.tup es) (.Tuple xs k pos):=λX g=>PE.of (HG (hs X g)) λs H Q q=>by
 obtain⟨r,fr,h,d,h',sr,hr,e,q⟩:=q;simp only[Ev.ev]at e;obtain⟨ds,h1,e1,e⟩:=Ev.ah e;split at e
 .rename_i z;cases e;refine⟨r,fr,h,ds,_,sr,hr,e1,λvs H1 r1 v1 hr1 f1=>⟨by rw[v1.length,<-iI];exact z,λp hp=>?_⟩⟩;exact(q.later f1).tup v1 hr1 hp
 .cases e
def Ij{es:Es}{xs:List Expr}(hs:JA G n sc N df m es xs):JE G n sc N df m (.lst es) (.List xs pos):=λX g=>PE.of (HH (hs X g)) λs H Q q=>by
 obtain⟨r,fr,h,d,h',sr,hr,e,q⟩:=q;simp only[Ev.ev]at e;obtain⟨ds,h1,e1,e⟩:=Ev.ah e;refine⟨r,fr,h,ds,h1,sr,hr,e1,λvs H1 r1 v1 hr1 f1=>?_⟩;exact(q.later f1).lst e v1 hr1
def nY{K:PySem.W.Frag}{P:aM}{f:D->D->Hh->R D}{e':E}(he:∀fr h,Ev.ev P e' fr h=(Ev.ev P a fr h).bind λx h1=>(Ev.ev P b fr h1).bind λy h2=>f x y h2) :
  ∀s H Q,tJ K m P e' s H Q->yQ (iJ K f) (tJ K m P a) (tJ K m P b) s H Q:=λs H Q q=>by
 obtain⟨r,fr,h,d,h',sr,hr,e,q⟩:=q;rw[he]at e;obtain⟨x,h1,e1,e⟩:=Ev.ah e;obtain⟨y,h2,e2,e⟩:=Ev.ah e;refine⟨r,fr,h,x,h1,sr,hr,e1,λv H1 r1 v1 hr1 f1=>?_⟩;refine⟨r1,fr,h1,y,h2,sr.mono f1,hr1,e2,λu H2 r2 v2 hr2 f2=>?_⟩;exact⟨r2,h2,x,y,d,h',hr2,v1.mono f2,v2,e,q.later (f1.trans f2)⟩
def ly{o:br}{op:Operator}(ho:∀X,Good G n sc N df X->dB X (binaryOp op) (iJ X.K (Ev.bP o)))(ha:JE G n sc N df m a xa)(hb:JE G n sc N df m b xb):JE G n sc N df m (.bin o a b) (.BinOp xa op xb pos):=
 λX g=>PE.of (MN (ho X g) (ha X g) (hb X g)) (nY λfr h=>by simp only[Ev.ev])
noncomputable def ir(o:aZ):D->D->Hh->R D:=λx y h=>R.of ((Ev.cop o x y h).map .bl) h
def zc{o:aZ}{op:CmpOp}(ho:∀X,Good G n sc N df X->dB X (compareOp op) (iJ X.K (ir o)))(ha:JE G n sc N df m a xa)(hb:JE G n sc N df m b xb)(hm:behindInMarks op xb=false):JE G n sc N df m (.cmp o a b) (.Compare xa [op] [xb] pos):=
 λX g=>PE.of (EG (ho X g) (ha X g) (hb X g) hm) (nY λfr h=>by simp only[Ev.ev,ir])
def mD{o:aZ}{x y d:D}{h h':Hh}(e:ir o x y h=.ok d h'):∃k,Ev.cop o x y h=some k/\d=.bl k/\h'=h:=by
 unfold ir at e;obtain⟨e1,rfl⟩:=Ev.aC e;cases z:Ev.cop o x y h' with
 |none=>rw[z]at e1;cases e1
 |some k=>rw[z]at e1;cases e1;exact⟨k,rfl,rfl,rfl⟩
def nZ{o:aZ}{op:CmpOp}(ho:∀X,Good G n sc N df X->dB X (compareOp op) (iJ X.K (ir o)))(ha:JE G n sc N df m a xa)(hb:JE G n sc N df m b xb)(hm:behindInMarks op xb=false):JT G n sc N df m (.cmp o a b) (.Compare xa [op] [xb] pos):=
 λX g=>PT.of (EH (ho X g) (ha X g) (hb X g) hm) λs H Q q=>by
  obtain⟨r,fr,h,k,h',sr,hr,e,q⟩:=q;simp only[Ev.aE]at e;obtain⟨d,h1,e1,e⟩:=Ev.ah e;have e0:=e1;simp only[Ev.ev]at e0;obtain⟨x,h2,_,e0⟩:=Ev.ah e0;obtain⟨y,h3,_,e0⟩:=Ev.ah e0;obtain⟨k',e2,e3,e4⟩:=mD (o:=o) (show ir o x y h3=_ from e0);subst e3;simp only[Ev.truthy]at e;cases e;refine nY (e':=.cmp o a b) (f:=ir o) (λfr h=>by simp only[Ev.ev,ir]) s H _ ⟨r,fr,h,.bl k,_,sr,hr,e1,λv H1 r1 v1 hr1 f1=>?_⟩;exact⟨k,v1,q H1 r1 hr1 f1⟩
end
section
variable{G:Tb}{n:Nat}{sc:Scope}{N:List Str}{df:Bool}{m:List Nat}{a b c:E}{xa xb xc:Expr}{pos:Pos}
def zd(ha:JE G n sc N df m a xa):JE G n sc N df m (.neg a) (.UnaryOp .USub xa pos):=λX g=>PE.of (MO HE (ha X g)) λs H Q q=>by
 obtain⟨r,fr,h,d,h',sr,hr,e,q⟩:=q;simp only[Ev.ev]at e;obtain⟨x,h1,e1,e⟩:=Ev.ah e;split at e
 .cases e;exact⟨r,fr,h,_,_,sr,hr,e1,λv H1 r1 v1 hr1 f1=>⟨_,v1,(q.later f1).here rfl hr1⟩⟩
 .cases e
def Ik{op}(ha:JE G n sc N df m a xa):JE G n sc N df m a (.BoolOp op [xa] pos):=λX g=>Hl (ha X g)
def M5{rest:List Expr}(ha:JE G n sc N df m a xa)(hb:JE G n sc N df m b (.BoolOp .And (xb :: rest) pos)):JE G n sc N df m (.an a b) (.BoolOp .And (xa :: xb :: rest) pos):=λX g=>PE.of (Ho (ha X g) (hb X g)) λs H Q q=>by
 obtain⟨r,fr,h,d,h',sr,hr,e,q⟩:=q;simp only[Ev.ev]at e;obtain⟨x,h1,e1,e⟩:=Ev.ah e;refine⟨r,fr,h,x,h1,sr,hr,e1,λv H1 r1 v1 hr1 f1=>?_⟩;split at e
 .exact⟨true,v1,r1,fr,h1,d,h',sr.mono f1,hr1,e,q.later f1⟩
 .cases e;exact⟨false,v1,(q.later f1).here rfl hr1⟩
 .cases e
def Il(ha:JT G n sc N df m a xa)(hb:JE G n sc N df m b xb)(hc:JE G n sc N df m c xc):JE G n sc N df m (.kM a b c) (.IfExp xa xb xc pos):=λX g=>PE.of (Bd (ha X g) (hb X g) (hc X g)) λs H Q q=>by
 obtain⟨r,fr,h,d,h',sr,hr,e,q⟩:=q;simp only[Ev.ev]at e;obtain⟨k,h1,e1,e⟩:=Ev.ah e;refine⟨r,fr,h,k,h1,sr,hr,e1,λH1 r1 hr1 f1=>?_⟩;cases k with
 |true=>exact⟨r1,fr,h1,d,h',sr.mono f1,hr1,e,q.later f1⟩
 |false=>exact⟨r1,fr,h1,d,h',sr.mono f1,hr1,e,q.later f1⟩
def Im(h:JW G n sc N df m a xa):JT G n sc N df m a xa:=λX g=>(h X g).pt
def Io(ha:JT G n sc N df m a xa):JW G n sc N df m a (.BoolOp .And [xa] pos):=λX g=>EB (ha X g)
def EW(ha:JT G n sc N df m a xa):JW G n sc N df m a (.BoolOp .Or [xa] pos):=λX g=>Hg (ha X g)
def DJ{rest:List Expr}(ha:JT G n sc N df m a xa)(hb:JW G n sc N df m b (.BoolOp .And (xb :: rest) pos)):JW G n sc N df m (.an a b) (.BoolOp .And (xa :: xb :: rest) pos):=λX g=>PW.of (Hi (ha X g) (hb X g)) λs H Q q=>by
 obtain⟨r,fr,h,k,h',sr,hr,e,q⟩:=q;simp only[Ev.aE]at e;obtain⟨k1,h1,e1,e⟩:=Ev.ah e;refine⟨r,fr,h,k1,h1,sr,hr,e1,λH1 r1 hr1 f1=>?_⟩;cases k1 with
 |true=>exact⟨r1,fr,h1,k,h',sr.mono f1,hr1,e,λH2 r2 hr2 f2=>q H2 r2 hr2 (f1.trans f2)⟩
 |false=>
  have e':R.ok false h1=R.ok k h':=e;cases e';exact q H1 r1 hr1 f1
def ze{rest:List Expr}(ha:JT G n sc N df m a xa)(hb:JW G n sc N df m b (.BoolOp .Or (xb :: rest) pos)):JW G n sc N df m (.orr a b) (.BoolOp .Or (xa :: xb :: rest) pos):=λX g=>PW.of (MG (ha X g) (hb X g)) λs H Q q=>by
 obtain⟨r,fr,h,k,h',sr,hr,e,q⟩:=q;simp only[Ev.aE]at e;obtain⟨k1,h1,e1,e⟩:=Ev.ah e;refine⟨r,fr,h,k1,h1,sr,hr,e1,λH1 r1 hr1 f1=>?_⟩;cases k1 with
 |false=>exact⟨r1,fr,h1,k,h',sr.mono f1,hr1,e,λH2 r2 hr2 f2=>q H2 r2 hr2 (f1.trans f2)⟩
 |true=>
  have e':R.ok true h1=R.ok k h':=e;cases e';exact q H1 r1 hr1 f1
def M6(ha:JT G n sc N df m a xa):JT G n sc N df m (.nt a) (.UnaryOp .Not xa pos):=λX g=>PT.of (Hj (ha X g)) λs H Q q=>by
 obtain⟨r,fr,h,k,h',sr,hr,e,q⟩:=q;simp only[Ev.aE]at e;obtain⟨k1,h1,e1,e⟩:=Ev.ah e;cases e;exact⟨r,fr,h,k1,_,sr,hr,e1,λH1 r1 hr1 f1=>q H1 r1 hr1 f1⟩
def Ip{K:PySem.W.Frag}{H:Hp}{r:List Addr}{h:Hh}{d:D}{v:V}{k:Bool}(hr:HR K H r h)(v1:RV K H r d v)(e:Ev.truthy h d=some k):Bo K v H k:=by
 cases d with
 |bA=>simp only[RV]at v1;subst v1;cases e;rfl
 |bl x=>simp only[RV]at v1;subst v1;cases e;rfl
 |int x=>simp only[RV]at v1;subst v1;cases e;rfl
 |str x=>
  simp only[RV]at v1;obtain⟨rfl,z⟩:=v1;cases e;refine⟨by rw[cG];exact z,?_⟩;rw[cG];cases x with
  |nil=>rfl
  |cons c l=>simp;omega
 |tup ds=>
  simp only[RV]at v1;obtain⟨p,vs,rfl,z,q⟩:=v1;cases e;refine .inr (.inl ⟨vs,z,?_⟩);have hl:=q.length;cases ds<;>cases vs<;>simp_all
 |ref i=>
  simp only[RV]at v1;obtain⟨p,rfl,z⟩:=v1;have et:Ev.truthy h (.ref i)=(Ev.bg h i).map λds=>!ds.isEmpty:=by
   first
    |rfl
    | (simp only[Ev.truthy];split<;>first|rfl | (rename_i kvs z;first|exact(Uv ⟨kvs,z⟩).elim|exact(hss ⟨kvs,z⟩).elim))
  rw[et]at e;simp only[Dp]at e;obtain⟨ds,e1,rfl⟩:=e;obtain⟨p',vs,e2,q1,q2⟩:=hr.read e1;rw[z]at e2;cases e2;refine .inl ⟨vs,q1,?_⟩;have hl:=q2.length;cases ds<;>cases vs<;>simp_all
def Iq(ha:JE G n sc N df m a xa)(he:∀(P:aM) fr h,Ev.aE P a fr h=(Ev.ev P a fr h).bind λx h1=>R.of (Ev.truthy h1 x) h1:=by intros;simp only[Ev.aE])
  (hx:∀(env:Env) whole,isTrue xa env whole=(do let v <-whole;standAt xa.pos;holding [v] (truthy v)):=by intro _ _;rfl):JT G n sc N df m a xa:=λX g=>PT.of (Bp (ha X g) (hx _)) λs H Q q=>by
 obtain⟨r,fr,h,k,h',sr,hr,e,q⟩:=q;rw[he]at e;obtain⟨d,h1,e1,e⟩:=Ev.ah e;obtain⟨e,rfl⟩:=Ev.aC e;refine⟨r,fr,h,d,_,sr,hr,e1,λv H1 r1 v1 hr1 f1=>⟨k,Ip hr1 v1 e,q H1 r1 hr1 f1⟩⟩
noncomputable def Ir:D->D->Hh->R D:=λx y h=>R.of (Ev.dY x y h) h
def M7(ho:∀X,Good G n sc N df X->vf X (iJ X.K Ir))(ha:JE G n sc N df m a xa)(hb:JE G n sc N df m b xb)(hs:pO xb:=by intro _ _;rfl):JE G n sc N df m (.ix a b) (.Subscript xa xb pos):=
 λX g=>PE.of (MX (ho X g) (ha X g) (hb X g) hs) (nY λfr h=>by simp only[Ev.ev,Ir])
def M8:JO G n sc N df m .no none:=λX g=>PO.of EL λs H Q q=>by
 obtain⟨r,fr,h,o,h',sr,hr,e,q⟩:=q;simp only[Ev.ff]at e;cases e;exact q H r hr .refl
def Iu(ha:JE G n sc N df m a xa):JO G n sc N df m (.yes a) (some xa):=λX g=>PO.of (ve (ha X g)) λs H Q q=>by
 obtain⟨r,fr,h,o,h',sr,hr,e,q⟩:=q;simp only[Ev.ff]at e;obtain⟨d,h1,e1,e⟩:=Ev.ah e;obtain⟨e,rfl⟩:=Ev.aC e;cases d with
 |int i=>
  cases e;exact⟨r,fr,h,.int i,_,sr,hr,e1,λv H1 r1 v1 hr1 f1=>⟨i,v1,q H1 r1 hr1 f1⟩⟩
 |_=>cases e
def M9{lo hi:Eo}{xl xh:Option Expr}{p2}(ho:∀X,Good G n sc N df X->jL X (Ie X.K))(ha:JE G n sc N df m a xa)(hl:JO G n sc N df m lo xl)(hu:JO G n sc N df m hi xh):JE G n sc N df m (.sl a lo hi) (.Subscript xa (.Slice xl xh none p2) pos):=
 λX g=>PE.of (Bt (ho X g) (ha X g) (hl X g) (hu X g)) λs H Q q=>by
  obtain⟨r,fr,h,d,h',sr,hr,e,q⟩:=q;simp only[Ev.ev]at e;obtain⟨x,h1,e1,e⟩:=Ev.ah e;obtain⟨l,h2,e2,e⟩:=Ev.ah e;obtain⟨u,h3,e3,e⟩:=Ev.ah e;refine⟨r,fr,h,x,h1,sr,hr,e1,λv H1 r1 v1 hr1 f1=>?_⟩;refine⟨r1,fr,h1,l,h2,sr.mono f1,hr1,e2,λH2 r2 hr2 f2=>?_⟩;refine⟨r2,fr,h2,u,h3,(sr.mono f1).mono f2,hr2,e3,λH3 r3 oh f3=>?_⟩;exact⟨r3,h3,x,d,h',oh,(v1.mono f2).mono f3,e,q.later ((f1.trans f2).trans f3)⟩
def EX{K:PySem.W.Frag}{P:aM}{es:Es}{f:List D->Hh->R D}{e':E}(he:∀fr h,Ev.ev P e' fr h=(Ev.bV P es fr h).bind f) :
  ∀s H Q,tJ K m P e' s H Q->HL (sF K f) (Ic K m P es) s H Q:=λs H Q q=>by
 obtain⟨r,fr,h,d,h',sr,hr,e,q⟩:=q;rw[he]at e;obtain⟨ds,h1,e1,e⟩:=Ev.ah e;exact⟨r,fr,h,ds,h1,sr,hr,e1,λvs H1 r1 v1 hr1 f1=>⟨r1,h1,ds,d,h',hr1,v1,e,q.later f1⟩⟩
def rG{k:BI}{es:Es}{x:Str}{id:String}{e0:Expr}{xs:List Expr}{p:Pos}(hc:∀X,Good G n sc N df X->fN X (.builtin id) (sF X.K (Ev.dw k)))(hs:JA G n sc N df m es (e0 :: xs))(hb:x∈G.bl:=by decide +kernel)
  (hg:sc.names.lookup x=some .globalImplicit:=by rfl) (hv:bootBuiltins x=some (.builtin id)) (hn:x≠"__name__" :=by decide) (hd:(x==("__debug__" : Str))=false:=by decide)
  (hst:∀env:Env,starEach (e0 :: xs) env=(false,eval e0 env) :: starEach xs env:=by intro _;rfl) (hpl:∀env:Env,(backTo pos (starEach xs env)).any (·.1)=false:=by intro _;rfl) :
  JE G n sc N df m (.bi k es) (.Call (.Name x p) (e0 :: xs) [] pos):=
 λX g=>PE.of (Br (hc X g) (g.gl hg) (g.bl x hb) hv (hs X g) hn hd (hst _) (hpl _)) (EX λfr h=>by simp only[Ev.ev])
def Na{f:Nat}{i:FI}{es:Es}{e0:Expr}{xs:List Expr}{p:Pos}(hf:G.fi[f]?=some i)(hs:JA G n sc N df m es (e0 :: xs))
  (hg:sc.names.lookup i.name=some .globalImplicit:=by rfl) (hd:(i.name==("__debug__" : Str))=false:=by decide)
  (hst:∀env:Env,starEach (e0 :: xs) env=(false,eval e0 env) :: starEach xs env:=by intro _;rfl) (hpl:∀env:Env,(backTo pos (starEach xs env)).any (·.1)=false:=by intro _;rfl) :
  JE G n sc N df m (.cl f es) (.Call (.Name i.name p) (e0 :: xs) [] pos):=λX g=>by
 obtain⟨h1,h2,h3,h4⟩:=g.fn f i hf;refine PE.of (EI h4 g.room (g.gl hg) h1 h2 h3 .nil MZ (hs X g) hd (hst _) (hpl _)) λs H Q q=>?_;obtain⟨r,fr,h,d,h',sr,hr,e,q⟩:=q;simp only[Ev.ev]at e;obtain⟨ds,h5,e1,e⟩:=Ev.ah e;refine⟨r,fr,h,ds,h5,sr,hr,e1,λvs H1 r1 v1 hr1 f1=>?_⟩;exact⟨r1,h5,ds,d,h',by rw[V8];exact v1,hr1,e,q.later f1⟩
noncomputable def BC:ME->String
 |.join=>"str"
 |_=>"list"
def zf{K:PySem.W.Frag}{H:Hp}{r:List Addr}{h:Hh}{k:ME}{d:D}{v:V}{ty:String}(hr:HR K H r h)(v1:RV K H r d v)(e:Ev.vh k d h=true)(ht:ty=BC k):yW K ty v H:=by
 subst ht;have lst:∀i,d=.ref i->(Ev.bg h i).isSome=true->yW K "list" v H:=λi ed es=>by
  subst ed;obtain⟨ds,e1⟩:=Option.isSome_iff_exists.mp es;obtain⟨p,vs,e2,q1,q2⟩:=hr.read e1;simp only[RV]at v1;obtain⟨p',rfl,e3⟩:=v1;rw[e2]at e3;cases e3;exact .inl ⟨rfl,vs,q1⟩
 cases k with
 |join=>
  cases d with
  |str l=>simp only[RV]at v1;obtain⟨rfl,_⟩:=v1;rfl
  |_=>cases e
 |append=>cases d with|ref i=>exact lst i rfl e|_=>cases e
 |extend=>cases d with|ref i=>exact lst i rfl e|_=>cases e
 |pop=>cases d with|ref i=>exact lst i rfl e|_=>cases e
def xr {k:ME}{es:Es}{e0:Expr}{xs:List Expr}{name:Str}{apos:Pos}{ty id:String}(pa:PlainAttrs ty) (slot:Slot ty name id) (hty:typeOf (.builtin id)=pure (.type "method_descriptor"))
  (hm:∀X,Good G n sc N df X->qN X id (sG X.K (Ev.eK k))) (ht:ty=BC k) (ha:JE G n sc N df m a xa) (hs:JA G n sc N df m es (e0 :: xs))
  (hbase:∀env:Env,attributeBase xa name env (eval xa env)=eval xa env:=by intro _;rfl)
  (hfew:∀env:Env,((backTo pos (starEach (e0 :: xs) env)).all (λx=>!x.1)&&(backToKw pos (keywordEach [] env)).all (λx=>x.1.isSome)
   &&decide ((e0 :: xs).length+([]:List Keyword).length+(if ([]:List Keyword).isEmpty then 0 else 1)<30))=true:=by intro _;rfl)
  (hline:(apos.endLine==pos.line)=true:=by rfl) (hst:∀env:Env,starEach (e0 :: xs) env=(false,eval e0 env) :: starEach xs env:=by intro _;rfl) (hpl:∀env:Env,(backTo pos (starEach xs env)).any (·.1)=false:=by intro _;rfl) :
  JE G n sc N df m (.me k a es) (.Call (.Attribute xa name apos) (e0 :: xs) [] pos):=λX g=>
 PE.of (MY pa slot hty (hm X g) (ha X g) (hs X g) (hbase _) (hfew _) hline (hst _) (hpl _)) λs H Q q=>by
  obtain⟨r,fr,h,d,h',sr,hr,e,q⟩:=q;simp only[Ev.ev]at e;obtain⟨x,h1,e1,e⟩:=Ev.ah e;split at e
  .rename_i hk;obtain⟨ds,h2,e2,e⟩:=Ev.ah e;refine⟨r,fr,h,x,h1,sr,hr,e1,λv H1 r1 v1 hr1 f1=>⟨zf hr1 v1 hk ht,?_⟩⟩;refine⟨r1,fr,h1,ds,h2,sr.mono f1,hr1,e2,λvs H2 r2 v2 hr2 f2=>?_⟩;exact⟨r2,h2,x,ds,d,h',hr2,v1.mono f2,v2,e,q.later (f1.trans f2)⟩
  .cases e
def Iv {k:ME}{name:Str}{apos:Pos}{ty id:String}(pa:PlainAttrs ty) (slot:Slot ty name id) (hty:typeOf (.builtin id)=pure (.type "method_descriptor"))
  (hm:∀X,Good G n sc N df X->qN X id (sG X.K (Ev.eK k))) (ht:ty=BC k) (ha:JE G n sc N df m a xa)
  (hbase:∀env:Env,attributeBase xa name env (eval xa env)=eval xa env:=by intro _;rfl) (hline:(apos.endLine==pos.line)=true:=by rfl) :
  JE G n sc N df m (.me k a .nil) (.Call (.Attribute xa name apos) [] [] pos):=λX g=>
 PE.of (HS pa slot hty (hm X g) (ha X g) (hbase _) hline) λs H Q q=>by
  obtain⟨r,fr,h,d,h',sr,hr,e,q⟩:=q;simp only[Ev.ev]at e;obtain⟨x,h1,e1,e⟩:=Ev.ah e;split at e
  .rename_i hk;simp only[Ev.bV,Ev.ak]at e;refine⟨r,fr,h,x,h1,sr,hr,e1,λv H1 r1 v1 hr1 f1=>⟨zf hr1 v1 hk ht,?_⟩⟩;exact⟨r1,h1,x,[],d,h',hr1,v1,.nil,e,q.later f1⟩
  .cases e
end
end Sm
namespace Sm
open PySem PySem.Spec PyProof.Rows L2
open Ev (D O Hh Fr R aM E Es Eo T S Ss Fl Src br aZ TY BI ME)
noncomputable def lD(K:PySem.W.Frag)(r0:List Addr)(H0:Hp)(s:Src)(J:L2.It):Prop:=∀(i:Nat) H1 r1 h1,HR K H1 r1 h1->Fm K r0 r1 H0 H1->Ev.stays h1 s.2=true->
 (∀d,s.1[i]?=some d->J.go i H1/\∀x H2,J.DG i H1 x H2->∃r2,RV K H2 r2 d x/\HR K H2 r2 h1/\Fm K r1 r2 H1 H2)/\(s.1.length<=i->J.stop i H1)
inductive Pn(K:PySem.W.Frag)(m:List Nat)(P:aM)(it:Ev.It)(s:L2.St)(H:Hp)(Rr:L2.It->Hp->Prop):Prop
 |mk (r:List Addr) (fr:Fr) (h:Hh) (src:Src) (h':Hh) (c0:SR K m H r fr s) (c1:HR K H r h) (c2:Ev.bR P it fr h=.ok src h') (c3:∀J H' r',HR K H' r' h'->Fm K r r' H H'->lD K r' H' src J->Rr J H'):Pn K m P it s H Rr
noncomputable def JI(G:Tb)(n:Nat)(sc:Scope)(N:List Str)(df:Bool)(m:List Nat)(it:Ev.It)(tg x:Expr):Prop:=∀X,Good G n sc N df X->PI X tg x (Pn X.K m (Ev.run G.F G.w n) it)
noncomputable def DK(z:Str):L2.It:=⟨λi _=>i<z.length,λi H x H'=>H'=H/\∃c,z.cps[i]?=some c/\x=.str ⟨#[c]⟩,λi _=>z.length<=i⟩
def Iw{M:Model}{A:Around}{E:Value->Shared->Prop}{s:Shared}{tg:Expr}{it:Value}{x:Str}{t:Tok}{Q:Unit->Shared->Prop}(hQ:Q () s):wpAny M A (letOwnedTupleGo tg it (.str x t)) Q E s:=by
 unfold letOwnedTupleGo;cases tg<;>first
  |exact pe hQ
  | (cases it<;>exact pe hQ)
def sH {P:Program}{w:World}{K:PySem.W.Frag}{tg:Expr}(z:Str) (t:Tok) (it:Addr) (ty:String) (hty:ty = "str_ascii_iterator" \/ty = "str_iterator") :
  Turn P w K tg (DK z) [it] it (λi h=>h.IsStrIter it ty z t i) where
 mem:=by simp
 obj:=λi h st b hb=>by
  have e:b=it:=by simpa using hb
  subst e;obtain⟨o,e,c,d⟩:=st;exact⟨o,e,λv z=>by rw[d]at z;cases z⟩
 keep:=λi h h' st k=>by
  obtain⟨o,e,c,d⟩:=st;exact⟨o,k it (by simp) o e,c,d⟩
 item:=by
  intro X hP hw hK hc i pins s σ H E I hf st hg;subst hP hw hK;obtain⟨f0,f1,f2,f3,f4,f5⟩:=hf it (by simp);have W:Walks X.prog X.w X.A it [it] [it] z.cps.size (SignAt z) (λi h=>h.IsStrIter it ty z t i):=by
   rcases hty with e|e
   .subst e;exact Walks.strAscii (I.ok.hd hc) it z t
   .subst e;exact Walks.strWide (I.ok.hd hc) it z t
  refine W.item i s _ _ hg st λv h' tk hv st' kk=>?_;obtain⟨c,u,hc',rfl⟩:=hv;have I1:Inv X pins σ H { s with heap:=h',toks:=tk }:=I.turned (λb o hb e=>kk b o (by simpa using hb) e) f0 f1 f3 f4 f5;exact⟨_,rfl,Iw ⟨.str ⟨#[c]⟩,H,I1,⟨u,rfl⟩,⟨rfl,c,hc',rfl⟩,st',λb hb=>(hf b hb).1⟩⟩
 done:=by
  intro X hP hw hK hc i pins s σ H E I hf st hg;subst hP hw hK;obtain⟨f0,f1,f2,f3,f4,f5⟩:=hf it (by simp);rcases hty with e|e
  .subst e;exact wpAny_pyNext_ascii_end (I.ok.hd hc) st (by simpa[Str.length,DK]using hg) λh' eb=>⟨rfl,I.turned (t':=s.toks) (λb o hb e=>eb b o hb e) f0 f1 f3 f4 f5⟩
  .subst e;exact wpAny_pyNext_wide_end (I.ok.hd hc) st (by simpa[Str.length,DK]using hg) λh' eb=>⟨rfl,I.turned (t':=s.toks) (λb o hb e=>eb b o hb e) f0 f1 f3 f4 f5⟩
 self:=λ_ _ _ _ _ st h=>by
  rcases hty with e|e
  .subst e;exact wpAny_pyIter_striter_ascii st h
  .subst e;exact wpAny_pyIter_striter_wide st h
noncomputable def DL(K:PySem.W.Frag)(x:V)(H:Hp)(Rr:L2.It->Hp->Prop):Prop:=
 (∃a xs,x=.ref a/\eH K H a xs/\Rr (Pe K a) H)\/(∃a xs,x=.ref a/\cV K H a xs/\Rr (Pf K a) H)\/∃z,x=.str z/\Rr (DK z) H
def Iz{X:Cx}{tg l:Expr}{tl:TE}{wi:TI}(hl:PE X l tl)(hw:∀s H Rr,wi s H Rr->tl s H λx H1=>DL X.K x H1 Rr):PI X tg l wi:=by
 intro pins s σ H Rr I h;refine bF (hl pins s σ H _ I (hw _ _ _ h)) λv s1 ⟨x,H1,I1,r1,q1⟩=>?_;have fp:∀(o:Obj) b,b∈[s1.heap.objs.size]->fB X pins H1 b:=λo b hb=>by
  have e:b=s1.heap.objs.size:=by simpa using hb
  subst e;exact I1.se (Et _) (I1.hok.fresh (Et _))
 rcases q1 with ⟨a,xs,rfl,hq,q⟩|⟨a,xs,rfl,hq,q⟩|⟨z,rfl,q⟩
 .cases r1;obtain⟨its,rv,p,hz⟩:=I1.list hq;refine wpAny_pyIter_list p.isList ?_;exact⟨s1.heap.objs.size,[s1.heap.objs.size],_,_,H1,rfl,I1.kept (t':=s1.toks) λb o e=>gV _ e,yN a _,⟨_,PY _ rfl,rfl,rfl⟩,fp default,q⟩
 .cases r1;obtain⟨its,rv,p,hz⟩:=I1.tuple hq;refine wpAny_pyIter_tuple (show s1.heap.IsTuple a its.toArray from p) ?_;exact⟨s1.heap.objs.size,[s1.heap.objs.size],_,_,H1,rfl,I1.kept (t':=s1.toks) λb o e=>gV _ e,wJ a _,⟨_,PY _ rfl,rfl,rfl⟩,fp default,q⟩
 .obtain⟨t,rfl⟩:=r1;cases ha:z.cps.all (· < 128)
  .refine wpAny_pyIter_wide ha ?_;exact⟨s1.heap.objs.size,[s1.heap.objs.size],_,_,H1,rfl,I1.kept (t':=s1.toks) λb o e=>gV _ e,sH z t _ _ (.inr rfl),⟨_,PY _ rfl,rfl,rfl⟩,fp default,q⟩
  .refine wpAny_pyIter_ascii ha ?_;exact⟨s1.heap.objs.size,[s1.heap.objs.size],_,_,H1,rfl,I1.kept (t':=s1.toks) λb o e=>gV _ e,sH z t _ _ (.inl rfl),⟨_,PY _ rfl,rfl,rfl⟩,fp default,q⟩
def zg{h:Hh}{n:Nat}{ds:List D}(e:Ev.stays h [(n,ds)]=true):Ev.bg h n=some ds:=by
 simp only[Ev.stays,Bool.and_true]at e;split at e
 .rename_i es q;rw[q,(Ev.qQ _ _).mp e]
 .cases e
def EY{K:PySem.W.Frag}{H:Hp}{r:List Addr}{h:Hh}{d:D}{v:V}{src:Src}{Rr:L2.It->Hp->Prop}(hr:HR K H r h)(v1:RV K H r d v)(e:Ev.fO h d=some src)(q:∀J,lD K r H src J->Rr J H):DL K v H Rr:=by
 cases d with
 |tup ds=>
  simp only[RV]at v1;obtain⟨a,vs,rfl,z,w⟩:=v1;cases e;refine .inr (.inl ⟨a,vs,rfl,z,q _ λi H1 r1 h1 hr1 f1 st=>⟨λd' e'=>?_,λhl=>?_⟩⟩)
  .obtain⟨u,e1,e2⟩:=w.get e';refine⟨⟨vs,u,f1.tups _ _ z,e1⟩,λx H2 y=>?_⟩;obtain⟨rfl,y⟩:=y;have:=y vs (f1.tups _ _ z);rw[e1]at this;cases this;exact⟨r1,e2.mono f1,hr1,.refl⟩
  .exact⟨vs,f1.tups _ _ z,by rw[w.length];exact hl⟩
 |str l=>
  simp only[RV]at v1;obtain⟨rfl,z⟩:=v1;cases e;refine .inr (.inr ⟨_,rfl,q _ λi H1 r1 h1 hr1 f1 st=>⟨λd' e'=>?_,λhl=>?_⟩⟩)
  .rw[We]at e';cases e2:l[i]? with
   |none=>rw[e2]at e';cases e'
   |some c=>
    rw[e2]at e';cases e';refine⟨by show i<(aK l).length;rw[cG];exact(List.getElem?_eq_some_iff.mp e2).1,λx H2 y=>?_⟩;obtain⟨rfl,c',y1,rfl⟩:=y;have e3:(aK l).cps[i]?=some c:=by simp[aK,e2]
    rw[e3]at y1;cases y1;exact⟨r1,⟨rfl,by show 1<=sizeLine;decide⟩,hr1,.refl⟩
  .show(aK l).length<=i;rw[cG];simpa using hl
 |ref k=>
  simp only[RV]at v1;obtain⟨a,rfl,z⟩:=v1;simp only[Ev.fO,Dp]at e;obtain⟨ds,e1,rfl⟩:=e;obtain⟨a',vs,e2,e3,e4⟩:=hr.read e1;rw[z]at e2;cases e2;refine .inl ⟨a,vs,rfl,e3,q _ λi H1 r1 h1 hr1 f1 st=>?_⟩;obtain⟨a',us,e5,e6,e7⟩:=hr1.read (zg st);rw[f1.pre _ _ z]at e5;cases e5;refine⟨λd' e'=>?_,λhl=>⟨us,e6,by rw[e7.length];exact hl⟩⟩;obtain⟨u,g1,g2⟩:=e7.get e';refine⟨⟨us,u,e6,g1⟩,λx H2 y=>?_⟩;obtain⟨rfl,y⟩:=y;have:=y us e6;rw[g1]at this;cases this;exact⟨r1,g2,hr1,.refl⟩
 |_=>cases e
section
variable{G:Tb}{n:Nat}{sc:Scope}{N:List Str}{df:Bool}{m:List Nat}{a b:E}{xa tg:Expr}{pos:Pos}
def IA(ha:JE G n sc N df m a xa):JI G n sc N df m (.seq a) tg xa:=λX g=>Iz (ha X g) λs H Rr q=>by
 obtain⟨r,fr,h,src,h',sr,hr,e,q⟩:=q;simp only[Ev.bR]at e;obtain⟨d,h1,e1,e⟩:=Ev.ah e;obtain⟨e,rfl⟩:=Ev.aC e;refine⟨r,fr,h,d,_,sr,hr,e1,λv H1 r1 v1 hr1 f1=>?_⟩;exact EY hr1 v1 e λJ hJ=>q J H1 r1 hr1 f1 hJ
def PI.of{X:Cx}{tg l:Expr}{t t':TI}(h:PI X tg l t)(w:∀s H Q,t' s H Q->t s H Q):PI X tg l t':=λpins s σ H Q I q=>h pins s σ H Q I (w _ _ _ q)
def IB{K:PySem.W.Frag}{r:List Addr}{H:Hp}(lo:Int)(k:Nat):lD K r H (Ev.range lo k,[]) (DH lo k):=λi H1 r1 h1 hr1 f1 st=>by
 refine⟨λd e=>?_,λhl=>?_⟩
 .simp only[Ev.range,We]at e;cases e2:(List.range k)[i]? with
  |none=>rw[e2]at e;cases e
  |some j=>
   rw[e2]at e;cases e;have hi:i<k:=by simpa using (List.getElem?_eq_some_iff.mp e2).1
   have hj:j=i:=by
    rw[Xu hi]at e2;exact(RG e2).symm
   subst hj;refine⟨hi,λx H2 y=>?_⟩;obtain⟨rfl,rfl⟩:=y;exact⟨r1,rfl,hr1,.refl⟩
 .have:(Ev.range lo k).length=k:=by simp[Ev.range]
  show k<=i;have hl':(Ev.range lo k).length<=i:=hl;omega
def EZ {e1:E}{p:Pos}(hs:JA G n sc N df m (.cons e1 .nil) [xa]) (hg:sc.names.lookup ("range" : Str)=some .globalImplicit:=by rfl) (hb:("range" : Str)∈G.bl:=by decide +kernel)
  (hst:∀env:Env,starEach [xa] env=[(false,eval xa env)]:=by intro _;rfl):JI G n sc N df m (.fY (.cons e1 .nil)) tg (.Call (.Name "range" p) [xa] [] pos):=λX g=>
 PI.of (yO (g.gl hg) (g.bl _ hb) (hs X g) (hst _)) λs H Rr q=>by
  obtain⟨r,fr,h,src,h',sr,hr,e,q⟩:=q;simp only[Ev.bR]at e;obtain⟨ds,h1,e1,e⟩:=Ev.ah e;obtain⟨e,rfl⟩:=Ev.aC e;refine⟨r,fr,h,ds,_,sr,hr,e1,λvs H1 r1 v1 hr1 f1=>?_⟩;unfold Ev.ef at e;split at e
  .rename_i j;split at e
   .rename_i hj;cases e;simp only[az,RV]at v1;obtain⟨v,w,rfl,rfl,rfl⟩:=v1;exact⟨_,rfl,hj.1,hj.2,q _ H1 r1 hr1 f1 (IB 0 _)⟩
   .cases e
  .exfalso;simp only[Ev.bV]at e1;obtain⟨d,_,_,e1⟩:=Ev.ah e1;simp only[Ev.ak]at e1;cases e1
  .cases e
inductive gJ(K:PySem.W.Frag)(m:List Nat)(t:T)(v:V)(s:L2.St)(H:Hp)(Q:L2.St->Hp->Prop):Prop
 |mk (r:List Addr) (fr:Fr) (h:Hh) (d:D) (aj:Fr) (c0:SR K m H r fr s) (c1:HR K H r h) (c2:RV K H r d v) (c3:Ev.bY t d fr=some aj) (c4:∀s',SR K m H r aj s'->Q s' H):gJ K m t v s H Q
noncomputable def JG(G:Tb)(n:Nat)(sc:Scope)(N:List Str)(df:Bool)(m:List Nat)(t:T)(x:Expr):Prop:=∀X,Good G n sc N df X->PG X x (gJ X.K m t)
def PG.of{X:Cx}{e:Expr}{t t':TG}(h:PG X e t)(w:∀v s H Q,t' v s H Q->t v s H Q):PG X e t':=λpins s σ H v u Q I r q=>h pins s σ H v u Q I r (w _ _ _ _ q)
theorem SR.set{K:PySem.W.Frag}{m:List Nat}{H:Hp}{r:List Addr}{fr:Fr}{s:L2.St}(sr:SR K m H r fr s)(hm:m.Nodup){j i:Nat}(hj:m[j]?=some i){d:D}{v:V}(v1:RV K H r d v):SR K m H r (fr.set i (some d)) (s.set j (some v)):=by
 refine⟨by simp[sr.len],λj' i' d' e1 e2=>?_⟩;by_cases hi:i'=i
 .subst hi;have:j'=j:=zh hm e1 hj;subst this;have hlt:i'<fr.length:=by
   have:=(List.getElem?_eq_some_iff.mp e2).1;simpa using this
  rw[VV hlt]at e2;cases e2;refine⟨v,VV ?_,v1⟩;rw[sr.len];exact(List.getElem?_eq_some_iff.mp hj).1
 .rw[PZ (λz=>hi z.symm)]at e2;obtain⟨u,q1,q2⟩:=sr.sl j' i' d' e1 e2;refine⟨u,?_,q2⟩;rw[PZ]
  .exact q1
  .intro z;subst z;rw[hj]at e1;cases e1;exact hi rfl
where
 zh {l:List Nat} (hl:l.Nodup) {i j:Nat} {x:Nat} (a:l[i]?=some x) (b:l[j]?=some x):i=j:=by
  have ha:=(List.getElem?_eq_some_iff.mp a)
  have hb:=(List.getElem?_eq_some_iff.mp b)
  obtain⟨h1,e1⟩:=ha;obtain⟨h2,e2⟩:=hb;exact(Zt hl).mp (e1.trans e2.symm)
def Good.loc{X:Cx}(g:Good G n sc N df X){x:Str}(h:sc.names.lookup x=some .local\/(df=true/\sc.names.lookup x=some .cell)):Loc X.env.scope x/\(X.fn x=true\/X.env.scope.names.lookup x=some .local):=by
 rw[show Loc X.env.scope x↔Loc sc x by rw[g.sc],g.sc];rcases h with h|⟨h1,h⟩
 .exact⟨.inl h,.inr h⟩
 .exact⟨.inr h,.inl (g.own h1 x)⟩
def IC(j i:Nat){x:Str}(hm:m.Nodup)(hN:N.Nodup)(hj:m[j]?=some i:=by rfl)(zj:N[j]?=some x:=by rfl)
  (hl:sc.names.lookup x=some .local\/(df=true/\sc.names.lookup x=some .cell):=by first|exact Or.inl rfl|exact Or.inr ⟨rfl,rfl⟩):JG G n sc N df m (.one i) (.Name x pos):=λX g=>by
 obtain⟨h1,h2⟩:=g.loc hl;refine PG.of (u9 (i:=j) (by rw[g.nm];exact hN) (by rw[g.nm];exact zj) h1 h2) λv s H Q q=>?_;obtain⟨r,fr,h,d,aj,sr,hr,v1,e,q⟩:=q;cases e;exact q _ (sr.set hm hj v1)
inductive Po(K:PySem.W.Frag)(m:List Nat)(l:List Nat)(vs:List V)(s:L2.St)(H:Hp)(Q:L2.St->Hp->Prop):Prop
 |mk (r:List Addr) (fr:Fr) (h:Hh) (ds:List D) (aj:Fr) (c0:SR K m H r fr s) (c1:HR K H r h) (c2:az K H r ds vs) (c3:Ev.cC l ds fr=some aj) (c4:∀s',SR K m H r aj s'->Q s' H):Po K m l vs s H Q
noncomputable def qR(G:Tb)(n:Nat)(sc:Scope)(N:List Str)(df:Bool)(m:List Nat)(l:List Nat)(xs:List Expr):Prop:=∀X,Good G n sc N df X->mV X xs (Po X.K m l)
def mV.of{X:Cx}{e:List Expr}{t t':qH}(h:mV X e t)(w:∀v s H Q,t' v s H Q->t v s H Q):mV X e t':=λpins s σ H v u Q I r q=>h pins s σ H v u Q I r (w _ _ _ _ q)
def E1:qR G n sc N df m [] []:=λX g=>mV.of EE λvs s H Q q=>by
 obtain⟨r,fr,h,ds,aj,sr,hr,v1,e,q⟩:=q;cases ds with
 |nil=>simp only[az]at v1;subst v1;cases e;exact⟨rfl,q _ sr⟩
 |cons _ _=>cases e
def BD(j i:Nat){x:Str}{l:List Nat}{xs:List Expr}(hm:m.Nodup)(hN:N.Nodup)(hs:qR G n sc N df m l xs)(hj:m[j]?=some i:=by rfl)(zj:N[j]?=some x:=by rfl)
  (hl:sc.names.lookup x=some .local\/(df=true/\sc.names.lookup x=some .cell):=by first|exact Or.inl rfl|exact Or.inr ⟨rfl,rfl⟩)
  (hst:∀env:Env,(assignEach (.Name x pos :: xs) env).map (·.2)=assign (.Name x pos) env :: (assignEach xs env).map (·.2):=by intro _;rfl):qR G n sc N df m (i :: l) (.Name x pos :: xs):=λX g=>by
 obtain⟨h1,h2⟩:=g.loc hl;refine mV.of (Bh (u9 (i:=j) (by rw[g.nm];exact hN) (by rw[g.nm];exact zj) h1 h2) (hs X g) (hst _)) λvs s H Q q=>?_;obtain⟨r,fr,h,ds,aj,sr,hr,v1,e,q⟩:=q;cases ds with
 |nil=>cases e
 |cons d ds=>
  simp only[az]at v1;obtain⟨v,w,rfl,v2,v3⟩:=v1;exact⟨v,w,rfl,r,_,h,ds,aj,sr.set hm hj v2,hr,v3,e,q⟩
def E2{l:List Nat}{xs:List Expr}{k:Nat}(hs:qR G n sc N df m l xs)(hn:∀env:Env,(assignEach xs env).length=l.length:=by intro _;rfl)(hst:∀env:Env,(assignEach xs env).findIdx? (·.1)=none:=by intro _;rfl) :
  JG G n sc N df m (.many l) (.Tuple xs k pos):=λX g=>PG.of (Hs (n:=l.length) g.calm (hs X g) (hn _) (hst _)) λv s H Q q=>by
 obtain⟨r,fr,h,d,aj,sr,hr,v1,e,q⟩:=q;cases d with
 |tup ds=>
  simp only[RV]at v1;obtain⟨p,vs,rfl,z,w⟩:=v1;have hlen:∀(l:List Nat) (ds:List D) fr aj,Ev.cC l ds fr=some aj->ds.length=l.length:=by
   intro l;induction l with
   |nil=>intro ds fr aj e;cases ds with|nil=>rfl|cons _ _=>cases e
   |cons i l ih=>intro ds fr aj e;cases ds with|nil=>cases e|cons d ds=>simp[ih ds _ _ e]
  exact⟨p,vs,rfl,z,by rw[w.length];exact hlen _ _ _ _ e,r,fr,h,ds,aj,sr,hr,w,e,q⟩
 |_=>cases e
end
noncomputable def Fin(K:PySem.W.Frag)(m:List Nat)(r:List Addr)(H:Hp)(h':Hh)(fl:Fl)(aj:Fr)(Q:Ends):Prop:=match fl with
 |.nx=>∀s' H' r',SR K m H' r' aj s'->HR K H' r' h'->Fm K r r' H H'->Q.nx s' H'
 |.bk=>∀s' H' r',SR K m H' r' aj s'->HR K H' r' h'->Fm K r r' H H'->Q.bk s' H'
 |.ct=>∀s' H' r',SR K m H' r' aj s'->HR K H' r' h'->Fm K r r' H H'->Q.ct s' H'
 |.ret d=>Res K r H h' d Q.rt
theorem Fin.later{K:PySem.W.Frag}{m:List Nat}{r r':List Addr}{H H':Hp}{h':Hh}{fl:Fl}{aj:Fr}{Q:Ends}(q:Fin K m r H h' fl aj Q)(f:Fm K r r' H H'):Fin K m r' H' h' fl aj Q:=by
 cases fl with
 |nx=>exact λs2 H2 r2 a b g=>q s2 H2 r2 a b (f.trans g)
 |bk=>exact λs2 H2 r2 a b g=>q s2 H2 r2 a b (f.trans g)
 |ct=>exact λs2 H2 r2 a b g=>q s2 H2 r2 a b (f.trans g)
 |ret d=>exact Res.later q f
inductive Pp(K:PySem.W.Frag)(m:List Nat)(P:aM)(w:Nat)(st:S)(Q:Ends)(s:L2.St)(H:Hp):Prop
 |mk (r:List Addr) (fr:Fr) (h:Hh) (fl:Fl) (aj:Fr) (h':Hh) (c0:SR K m H r fr s) (c1:HR K H r h) (c2:Ev.ex P w st fr h=.ok (fl,aj) h') (c3:Fin K m r H h' fl aj Q):Pp K m P w st Q s H
inductive BE(K:PySem.W.Frag)(m:List Nat)(P:aM)(w:Nat)(ss:Ss)(Q:Ends)(s:L2.St)(H:Hp):Prop
 |mk (r:List Addr) (fr:Fr) (h:Hh) (fl:Fl) (aj:Fr) (h':Hh) (c0:SR K m H r fr s) (c1:HR K H r h) (c2:Ev.exs P w ss fr h=.ok (fl,aj) h') (c3:Fin K m r H h' fl aj Q):BE K m P w ss Q s H
def PS.of{X:Cx}{st:Stmt}{t t':TS}(h:PS X st t)(w:∀Q s H,t' Q s H->t Q s H):PS X st t':=λpins s σ H Q I q=>h pins s σ H Q I (w _ _ _ q)
def gY.of{X:Cx}{st:List Stmt}{t t':TS}(h:gY X st t)(w:∀Q s H,t' Q s H->t Q s H):gY X st t':=λpins s σ H Q I q=>h pins s σ H Q I (w _ _ _ q)
section
variable(G:Tb)(n:Nat)(sc:Scope)(N:List Str)(df:Bool)(m:List Nat)
noncomputable def JS(st:S)(x:Stmt):Prop:=∀X,Good G n sc N df X->PS X x (Pp X.K m (Ev.run G.F G.w n) G.w st)
noncomputable def kP(ss:Ss)(xs:List Stmt):Prop:=∀X,Good G n sc N df X->gY X xs (BE X.K m (Ev.run G.F G.w n) G.w ss)
end
section
variable{G:Tb}{n:Nat}{sc:Scope}{N:List Str}{df:Bool}{m:List Nat}{a b:E}{xa tg:Expr}{pos:Pos}
def E3:kP G n sc N df m .nil []:=λX g=>gY.of EC λQ s H q=>by
 obtain⟨r,fr,h,fl,aj,h',sr,hr,e,q⟩:=q;simp only[Ev.exs]at e;cases e;exact q s H r sr hr .refl
def BF{st:S}{ss:Ss}{x:Stmt}{xs:List Stmt}(h1:JS G n sc N df m st x)(h2:kP G n sc N df m ss xs):kP G n sc N df m (.cons st ss) (x :: xs):=λX g=>gY.of (Bf (h1 X g) (h2 X g)) λQ s H q=>by
 obtain⟨r,fr,h,fl,aj,h',sr,hr,e,q⟩:=q;simp only[Ev.exs]at e;obtain⟨⟨gq,af⟩,h1,e1,e⟩:=Ev.ah e;refine⟨r,fr,h,gq,af,h1,sr,hr,e1,?_⟩;cases gq with
 |nx=>exact λs1 H1 r1 zk hr1 f1=>⟨r1,af,h1,fl,aj,h',zk,hr1,e,q.later f1⟩
 |bk=>cases e;exact q
 |ct=>cases e;exact q
 |ret d=>cases e;exact q
def ID(j i:Nat){x:Str}{pos':Pos}(hm:m.Nodup)(hN:N.Nodup)(ha:JE G n sc N df m a xa)(hs:∀env:Env,swapsWith xa (some (.Name x pos')) pos.line env=pure false:=by intro _;rfl)(hj:m[j]?=some i:=by rfl)(zj:N[j]?=some x:=by rfl)
  (hl:sc.names.lookup x=some .local\/(df=true/\sc.names.lookup x=some .cell):=by first|exact Or.inl rfl|exact Or.inr ⟨rfl,rfl⟩):JS G n sc N df m (.set i a) (.Assign [.Name x pos'] xa pos):=λX g=>by
 obtain⟨h1,h2⟩:=g.loc hl;refine PS.of (Ht (i:=j) (by rw[g.nm];exact hN) (by rw[g.nm];exact zj) h1 (ha X g) (hs _) h2) λQ s H q=>?_;obtain⟨r,fr,h,fl,aj,h',sr,hr,e,q⟩:=q;simp only[Ev.ex]at e;obtain⟨d,h1,e1,e⟩:=Ev.ah e;cases e;exact⟨r,fr,h,d,_,sr,hr,e1,λv H1 r1 v1 hr1 f1=>q _ H1 r1 ((sr.mono f1).set hm hj v1) hr1 f1⟩
def IE(ha:JE G n sc N df m a xa)(hs:∀env:Env,swapsWith xa none pos.line env=pure false:=by intro _;rfl):JS G n sc N df m (.exp a) (.Expr xa pos):=λX g=>PS.of (ED (ha X g) (hs _)) λQ s H q=>by
 obtain⟨r,fr,h,fl,aj,h',sr,hr,e,q⟩:=q;simp only[Ev.ex]at e;obtain⟨d,h1,e1,e⟩:=Ev.ah e;cases e;exact⟨r,fr,h,d,_,sr,hr,e1,λv H1 r1 v1 hr1 f1=>q s H1 r1 (sr.mono f1) hr1 f1⟩
def IF(ha:JE G n sc N df m a xa):JS G n sc N df m (.ret a) (.Return (some xa) pos):=λX g=>PS.of (Hq (ha X g)) λQ s H q=>by
 obtain⟨r,fr,h,fl,aj,h',sr,hr,e,q⟩:=q;simp only[Ev.ex]at e;obtain⟨d,h1,e1,e⟩:=Ev.ah e;cases e;exact⟨r,fr,h,d,_,sr,hr,e1,q⟩
def IG{ta tb:Ss}{ya yb:List Stmt}(hc:JT G n sc N df m a xa)(h1:kP G n sc N df m ta ya)(h2:kP G n sc N df m tb yb):JS G n sc N df m (.iff a ta tb) (.If xa ya yb pos):=λX g=>PS.of (MK (hc X g) (h1 X g) (h2 X g)) λQ s H q=>by
 obtain⟨r,fr,h,fl,aj,h',sr,hr,e,q⟩:=q;simp only[Ev.ex]at e;obtain⟨k,h3,e1,e⟩:=Ev.ah e;refine⟨r,fr,h,k,h3,sr,hr,e1,λH1 r1 hr1 f1=>?_⟩;cases k with
 |true=>exact⟨r1,fr,h3,fl,aj,h',sr.mono f1,hr1,e,q.later f1⟩
 |false=>exact⟨r1,fr,h3,fl,aj,h',sr.mono f1,hr1,e,q.later f1⟩
def Good.pass{X:Cx}(g:Good G n sc N df X):PassesOwn (model X.prog X.w) X.A X.env X.xe:=by
 rw[g.xe];exact PassesOwn.never
noncomputable def FN(K:PySem.W.Frag)(m:List Nat)(gq:Fl)(iS:Fr)(h4:Hh)(r1:List Addr)(H1:Hp)(s5:L2.St)(H5:Hp):Prop:=(gq=.nx\/gq=.ct)/\∃r5,SR K m H5 r5 iS s5/\HR K H5 r5 h4/\Fm K r1 r5 H1 H5
section
variable{K:PySem.W.Frag}{r r1 r2:List Addr}{H H1 H2:Hp}{h4 h':Hh}{fl gq:Fl}{iS aj:Fr}{Q:Ends}
noncomputable def xu(L:R (Fl×Fr))(p:Fl×Fr)(h1:Hh):R (Fl×Fr):=match p.1 with
 |.nx=>L
 |.ct=>L
 |.bk=>.ok (.nx,p.2) h1
 |.ret x=>.ok (.ret x,p.2) h1
def vm{L:R (Fl×Fr)}(e:xu L (gq,iS) h4=.ok (fl,aj) h')(z:gq=.nx\/gq=.ct):L=.ok (fl,aj) h':=by rcases z with rfl|rfl<;>exact e
def sI{L:R (Fl×Fr)}(e:xu L (gq,iS) h4=.ok (fl,aj) h')(q:Fin K m r H h' fl aj Q)(f:Fm K r r1 H H1)(f2:Fm K r1 r2 H1 H2):Fin K m r2 H2 h4 gq iS { Q with nx:=FN K m gq iS h4 r1 H1,ct:=FN K m gq iS h4 r1 H1,bk:=Q.nx }:=by
 cases gq with
 |nx=>exact λs6 H6 r6 zl zm f6=>⟨.inl rfl,r6,zl,zm,f2.trans f6⟩
 |ct=>exact λs6 H6 r6 zl zm f6=>⟨.inr rfl,r6,zl,zm,f2.trans f6⟩
 |bk=>
  cases e;exact λs6 H6 r6 zl zm f6=>q s6 H6 r6 zl zm ((f.trans f2).trans f6)
 |ret d=>
  cases e;exact Res.later q (f.trans f2)
noncomputable def sJ(P:aM)(w:Nat)(t:T)(tb:Ss):D->Fr->Hh->R (Fl×Fr):=λd ao h2=>match Ev.bY t d ao with
 |some cE=>Ev.exs P w tb cE h2
 |none=>.bad
def sL(P:aM)(w:Nat)(t:T)(it:Ev.It)(tb:Ss)(fr:Fr)(h:Hh):Ev.ex P w (.for t it tb) fr h=(Ev.bR P it fr h).bind λs h1=>Ev.forL (sJ P w t tb) s.2 s.1 fr h1:=by simp only[Ev.ex];rfl
def zo(f:D->Fr->Hh->R (Fl×Fr))(ck:List (Nat×List D))(d:D)(ds:List D)(fr:Fr)(h:Hh):Ev.forL f ck (d :: ds) fr h=if Ev.stays h ck then (f d fr h).bind λp h1=>xu (Ev.forL f ck ds p.2 h1) p h1 else .bad:=rfl
noncomputable def FW(K:PySem.W.Frag)(m:List Nat)(f:D->Fr->Hh->R (Fl×Fr))(src:Src)(r1:List Addr)(H1:Hp)(o:Fl×Fr)(h':Hh)(i k:Nat)(s3:L2.St)(H3:Hp):Prop:=
 k=src.1.length - i/\i<=src.1.length/\∃r3 cE h3,SR K m H3 r3 cE s3/\HR K H3 r3 h3/\Fm K r1 r3 H1 H3/\Ev.forL f src.2 (src.1.drop i) cE h3=.ok o h'
def BG{P:aM}{w:Nat}{t:T}{tb:Ss}{src:Src}{J:L2.It}{i k:Nat}{s3:L2.St}{H3:Hp}(hJ:lD K r1 H1 src J)(q:Fin K m r H h' fl aj Q)(f1:Fm K r r1 H H1)(hW:FW K m (sJ P w t tb) src r1 H1 (fl,aj) h' i k s3 H3) :
  (J.stop i H3/\Q.nx s3 H3)\/(J.go i H3/\∃N:L2.St->Hp->Prop,(∀σ' H',N σ' H'->∃m',m'<k/\FW K m (sJ P w t tb) src r1 H1 (fl,aj) h' (i+1) m' σ' H')/\∀x H',J.DG i H3 x H'->gJ K m t x s3 H' λσ2 H2=>BE K m P w tb { Q with nx:=N,ct:=N,bk:=Q.nx } σ2 H2):=by
 obtain⟨rfl,hle,r3,cE,h3,vn,oh,f3,e3⟩:=hW;rcases Y9 i src.1.length with hlt|hge
 .rw[Yq hlt,zo]at e3;split at e3
  .rename_i hst;obtain⟨g1,g2⟩:=(hJ i H3 r3 h3 oh f3 hst).1 src.1[i] (T7 hlt);obtain⟨⟨gq,iS⟩,h4,e4,e3⟩:=Ev.ah e3;unfold sJ at e4;split at e4
   .rename_i qI e5;exact .inr ⟨g1,FN K m gq iS h4 r1 H1,λs5 H5 ⟨hfl,r5,zp,qS,f5⟩=>⟨_,Y4 hlt (Yv i),rfl,hlt,r5,iS,h4,zp,qS,f5,vm e3 hfl⟩,λx H4 y=>
     let ⟨r4,v4,Pq,f4⟩:=g2 x H4 y
     ⟨r4,cE,h3,_,qI,vn.mono f4,Pq,v4,e5,λs5 zp=>⟨r4,qI,h3,gq,iS,h4,zp,Pq,e4,sI e3 q f1 (f3.trans f4)⟩⟩⟩
   .cases e4
  .cases e3
 .have hi:i=src.1.length:=YG hle hge;subst hi;rw[Yy]at e3;unfold Ev.forL at e3;split at e3
  .rename_i hst;cases e3;exact .inl ⟨(hJ _ H3 r3 _ oh f3 hst).2 (Et _),q s3 H3 r3 vn oh (f1.trans f3)⟩
  .cases e3
end
def zq(t:Fr->Hh->R Bool)(f:Fr->Hh->R (Fl×Fr))(n:Nat)(fr:Fr)(h:Hh):Ev.dD t f (n+1) fr h=(t fr h).bind λb h1=>if b then (f fr h1).bind λp h2=>xu (Ev.dD t f n p.2 h2) p h2 else .ok (.nx,fr) h1:=rfl
noncomputable def WW(K:PySem.W.Frag)(m:List Nat)(P:aM)(w:Nat)(a:E)(tb:Ss)(r:List Addr)(H:Hp)(o:Fl×Fr)(h':Hh)(k:Nat)(s1:L2.St)(H1:Hp):Prop:=
 ∃r1 af h1,SR K m H1 r1 af s1/\HR K H1 r1 h1/\Fm K r r1 H H1/\Ev.dD (λao h2=>Ev.aE P a ao h2) (λao h2=>Ev.exs P w tb ao h2) k af h1=.ok o h'
def II{tb:Ss}{yb:List Stmt}(hc:JT G n sc N df m a xa)(h1:kP G n sc N df m tb yb):JS G n sc N df m (.lu a tb) (.While xa yb [] pos):=λX g=>PS.of (Bj g.pass (hc X g) (h1 X g)) λQ s H q=>by
 obtain⟨r,fr,h,fl,aj,h',sr,hr,e,q⟩:=q;simp only[Ev.ex]at e;refine⟨WW X.K m (Ev.run G.F G.w n) G.w a tb r H (fl,aj) h',⟨_,r,fr,h,sr,hr,.refl,e⟩,λk s1 H1 hW=>?_⟩;obtain⟨r1,af,h1,zk,hr1,f1,e1⟩:=hW;cases k with
 |zero=>cases e1
 |succ k=>
  rw[zq]at e1;obtain⟨bb,h2,e2,e1⟩:=Ev.ah e1;refine⟨r1,af,h1,bb,h2,zk,hr1,e2,λH2 r2 hr2 f2=>?_⟩;cases bb with
  |false=>
   cases e1;exact q s1 H2 r2 (zk.mono f2) hr2 (f1.trans f2)
  |true=>
   rw[GQ rfl]at e1;obtain⟨⟨gq,ao⟩,h3,e3,e1⟩:=Ev.ah e1;exact⟨FN X.K m gq ao h3 r H,λs3 H3 ⟨hfl,r3,vn,oh,f3⟩=>⟨k,Yv k,r3,ao,h3,vn,oh,f3,vm e1 hfl⟩,r2,af,h2,gq,ao,h3,zk.mono f2,hr2,e3,sI e1 q .refl (f1.trans f2)⟩
def IJ{t:T}{it:Ev.It}{tb:Ss}{yb:List Stmt}(hi:JI G n sc N df m it tg xa)(hg:JG G n sc N df m t tg)(h1:kP G n sc N df m tb yb)(hs:∀(env:Env) x,foldedSetIterable xa env x=pure x:=by intro _ _;rfl) :
  JS G n sc N df m (.for t it tb) (.For tg xa yb [] pos):=λX g=>PS.of (Hv g.pass g.calm (hi X g) (hg X g) (h1 X g) (hs _)) λQ s H q=>by
 obtain⟨r,fr,h,fl,aj,h',sr,hr,e,q⟩:=q;rw[sL]at e;obtain⟨src,h2,e1,e⟩:=Ev.ah e;exact⟨r,fr,h,src,h2,sr,hr,e1,λJ H1 r1 hr1 f1 hJ=>⟨FW X.K m (sJ (Ev.run G.F G.w n) G.w t tb) src r1 H1 (fl,aj) h',⟨src.1.length,rfl,WH _,r1,fr,h2,sr.mono f1,hr1,.refl,by rw[XG];exact e⟩,λi k s3 H3 hW=>BG hJ q f1 hW⟩⟩
end
def getElem?_range'{k j i:Nat}(h:(List.range k)[j]?=some i):i=j:=by
 obtain⟨h1,h2⟩:=List.getElem?_eq_some_iff.mp h;simpa using h2.symm
def BH{K:PySem.W.Frag}{H:Hp}{r:List Addr}{ds:List D}{vs:List V}{N:List Str}{fn:Ev.Fn}(v1:az K H r ds vs)(hN:vs.length<=N.length):SR K (List.range N.length) H r (Ev.dZ fn ds) (L2.start N vs):=by
 refine⟨by unfold L2.start;simp;omega,λj i d e1 e2=>?_⟩;have e3:=getElem?_range' e1;subst e3;unfold Ev.dZ at e2;by_cases hj:i<ds.length
 .rw[Sx (by simpa using hj),We]at e2;cases e4:ds[i]? with
  |none=>rw[e4]at e2;cases e2
  |some d'=>
   rw[e4]at e2;cases e2;obtain⟨v,q1,q2⟩:=v1.get e4;refine⟨v,?_,q2⟩;unfold L2.start;rw[Sx (by have:=v1.length;simpa using (by omega:i<vs.length)),We,q1];rfl
 .rw[WI (by simpa using Nat.not_lt.mp hj),YC]at e2;split at e2<;>cases e2
section
variable{P:Program}{w:World}{K:PySem.W.Frag}{mg:Str->Option Value}{base:Heap}{G:Tb}
noncomputable def rH(P:Program)(w:World)(K:PySem.W.Frag)(mg:Str->Option Value)(base:Heap)(G:Tb)(n:Nat):Prop:=∀(f:Nat) i,G.fi[f]?=some i->ig P w K mg base lg n i.addr i.fd i.ps (mX K G.F G.w n f)
structure Top(P:Program)(w:World)(K:PySem.W.Frag)(mg:Str->Option Value)(G:Tb):Prop where
 fn:∀(f:Nat) i,G.fi[f]?=some i->mg i.name=some (.ref i.addr)/\PySem.W.keepIn K (.ref i.addr)=true/\Binds K i.fd i.ps []
 bl:∀x∈G.bl,mg x=none
 cs:∀x d,(x,d)∈G.cs->∃v u,mg x=some u/\RelV v u/\vj K d v
 dk:∀x kvs,(x,kvs)∈G.dk->∃a,mg x=some (.ref a)/\∀h:Heap,K.In h->StrTab P w h a (tabOf kvs)
def E4{f:Addr}{fd:FuncData}{ps:List Str}{k:Nat}:ig P w K mg base lg 0 f fd ps (mX K G.F G.w 0 k):=by
 have no:∀vs H Q E,¬ mX K G.F G.w 0 k vs H Q E:=λvs H Q E h=>by
  obtain⟨r,h,ds,d,h',_,_,e,_⟩:=h;cases e
 exact⟨λvs H Q E h=>absurd h (no vs H Q E),λA outer s H args us vs Q E _ _ _ _ h=>absurd h (no vs H Q E)⟩
def cz{x qual:Str}{st:Stmt}{i:FI}{N:List Str}{n f:Nat}{fn:Ev.Fn}(T:Top P w K mg G)(A0:rH P w K mg base G n)(F:sD K x qual st i.addr i.fd)(S:bu N i.ps (aN st))(hf:G.F[f]?=some fn)(hp:i.ps.length=fn.np)
  (hb:kP G n (aN st) N true (List.range N.length) fn.body (gn st)):ig P w K mg base lg (n+1) i.addr i.fd i.ps (mX K G.F G.w (n+1) f):=by
 have hlen:∀vs H Q E,mX K G.F G.w (n+1) f vs H Q E->vs.length=i.ps.length:=λvs H Q E h=>by
  obtain⟨r,h,ds,d,h',v1,_,e,_⟩:=h;simp only[Ev.nX,hf]at e;split at e
  .rename_i z;rw[v1.length,z,hp]
  .cases e
 refine F.ok S hlen λcdv A outer s H vs Q E hr jK=>?_;have hl:=hlen vs H Q E jK;have hN:vs.length<=N.length:=by
  have:=VZ List.length S.pre;rw[WS]at this;omega
 have g:Good G n (aN st) N true (nj lg P w K mg base N qual (aN st) i.addr cdv A outer s H E).qG:=
  ⟨rfl,rfl,rfl,λ_ _=>rfl,hr,rfl,λf i hi=>⟨(T.fn f i hi).1,(T.fn f i hi).2.1,(T.fn f i hi).2.2,A0 f i hi⟩,T.bl,T.cs,T.dk⟩
 refine⟨_,hb _ g,?_⟩;obtain⟨r,h,ds,d,h',v1,hr1,e,q⟩:=jK;simp only[Ev.nX,hf]at e;split at e
 .unfold Ev.endOf at e;obtain⟨⟨fl,aj⟩,h2,e1,e⟩:=Ev.ah e;refine⟨r,Ev.dZ fn ds,h,fl,aj,h2,BH v1 hN,hr1,e1,?_⟩;cases fl with
  |nx=>
   cases e;exact λs' H' r' _ hr' f'=>q _ H' r' rfl hr' f'
  |ret d'=>
   cases e;exact q
  |bk=>cases e
  |ct=>cases e
 .cases e
end
end Sm
namespace Sm
open PySem PySem.Spec PyProof.Rows L2 PySem.SeqAt
open Ev (D O Hh Fr R aM E Es Eo T S Ss Fl Src br aZ TY BI ME)
end Sm
namespace L2
open PySem PySem.Spec PyProof.Rows
end L2
namespace Sm
open PySem PySem.Spec PyProof.Rows L2 PySem.SeqAt
open Ev (D O Hh Fr R aM E Es Eo T S Ss Fl Src br aZ TY BI ME)
end Sm
namespace Sm
open PySem PySem.Spec PyProof.Rows L2
open Ev (D O Hh Fr R aM E Es Eo T S Ss Fl Src br aZ TY BI ME)
theorem pS(env:Env):∀(names:List (Str×NameKind)) (acc:List (Str×Addr)),(∀x,(x,NameKind.free)∈names->∃c,env.cells.lookup x=some c)->(∀x c,acc.lookup x=some c->env.cells.lookup x=some c)->
  ∃cl,(forIn names acc (λ(x:Str×NameKind) cs=>if (x.2==NameKind.free)=true then (do let c <-cellOf env x.1;pure (ForInStep.yield ((x.1,c) :: cs)))else pure (ForInStep.yield cs)):Sem (List (Str×Addr)))=pure cl/\
   (∀x c,cl.lookup x=some c->env.cells.lookup x=some c)/\(∀x,(x,NameKind.free)∈names->(cl.lookup x).isSome=true)/\(∀x,(acc.lookup x).isSome=true->(cl.lookup x).isSome=true)
 |[],acc,_,h2=>⟨acc,rfl,h2,(λx h=>by simp at h),λ_ h=>h⟩
 | (y,k) :: r,acc,h1,h2=>by
  by_cases hk:k=.free
  .subst hk;obtain⟨c,hc⟩:=h1 y (Wq ..);have h2':∀x c',((y,c) :: acc).lookup x=some c'->env.cells.lookup x=some c':=λx c' e=>by
    rw[WR]at e;split at e
    .rename_i hx;have hx':x=y:=by simpa using hx
     cases e;rw[hx'];exact hc
    .exact h2 x c' e
   obtain⟨cl,e1,e2,e3,e4⟩:=pS env r ((y,c) :: acc) (λx hx=>h1 x (VY _ hx)) h2';refine⟨cl,?_,e2,λx hx=>?_,λx hx=>e4 x ?_⟩
   .rw[Xf];simp only[Zp,Wf];unfold cellOf;rw[hc];exact e1
   .rcases List.mem_cons.mp hx with z|z
    .cases z;exact e4 y (by simp[WR])
    .exact e3 x z
   .rw[WR];split
    .rfl
    .exact hx
  .have hk':(k==NameKind.free)=false:=by simpa using hk
   obtain⟨cl,e1,e2,e3,e4⟩:=pS env r acc (λx hx=>h1 x (VY _ hx)) h2;refine⟨cl,?_,e2,λx hx=>?_,e4⟩
   .rw[Xf];simp only[hk',V4,WE];exact e1
   .rcases List.mem_cons.mp hx with z|z
    .cases z;exact absurd rfl hk
    .exact e3 x z
def E5{scope:Scope}{env:Env}(h:∀x,(x,NameKind.free)∈scope.names->∃c,env.cells.lookup x=some c) :
  ∃cl,closureFor scope env=pure cl/\(∀x c,cl.lookup x=some c->env.cells.lookup x=some c)/\∀x,(x,NameKind.free)∈scope.names->∃c,cl.lookup x=some c:=by
 obtain⟨cl,e1,e2,e3,_⟩:=pS env scope.names [] h (λx c e=>by simp at e);refine⟨cl,?_,e2,λx hx=>Option.isSome_iff_exists.mp (e3 x hx)⟩;unfold closureFor;show(forIn scope.names [] _ >>= λcs=>pure cs:Sem (List (Str×Addr)))=pure cl;have e:(forIn scope.names [] (λ(x:Str×NameKind) cs=>if (x.2==NameKind.free)=true then (do let c <-cellOf env x.1;pure (ForInStep.yield ((x.1,c) :: cs)))else pure (ForInStep.yield cs)):Sem (List (Str×Addr)))=pure cl:=e1;exact VZ (λt:Sem (List (Str×Addr))=>t >>= λcs=>pure cs) e
noncomputable def gM(sc scope:Scope):Scope:={ scope with names:=scope.names.map λ(n,k)=>if (k==.free&&sc.kind==.function&&sc.names.lookup n==some .cell)then (n,.cell)else (n,k)}
def pT{env:Env}{sc scope:Scope}(h:env.scope=sc):relabel scope env=gM sc scope:=by
 subst h;rfl
theorem qT{sc:Scope}:∀{names:List (Str×NameKind)}{x:Str},(∀y∈names,y.2≠.cell)->
  ((names.map λ(n,k)=>if (k==NameKind.free&&sc.kind==.function&&sc.names.lookup n==some .cell)then (n,NameKind.cell)else (n,k)).lookup x=some .cell\/
   (names.map λ(n,k)=>if (k==NameKind.free&&sc.kind==.function&&sc.names.lookup n==some .cell)then (n,NameKind.cell)else (n,k)).lookup x=some .free)->(x,NameKind.free)∈names
 |[],_,_,h=>by rcases h with h|h<;>simp at h
 | (n,k) :: r,x,hc,h=>by
  have ih:=@qT sc r x λy hy=>hc y (VY _ hy);simp only[T6]at h;have nk:∀(k':NameKind),(if (k==NameKind.free&&sc.kind==.function&&sc.names.lookup n==some .cell)then (n,NameKind.cell)else (n,k))=(n,k')->k'=.cell\/k'=.free->k=.free:=λk' e hk'=>by
   split at e
   .rename_i z;simp only[Lf,beq_iff_eq]at z;exact z.1.1
   .cases e;rcases hk' with z|z
    .exact absurd z (hc (n,_) (Wq ..))
    .exact z
  generalize hg:(if (k==NameKind.free&&sc.kind==.function&&sc.names.lookup n==some .cell)then (n,NameKind.cell)else (n,k))=p at h nk
  have hp:p.1=n:=by rw[<-hg];split<;>rfl
  obtain⟨p1,p2⟩:=p;simp only at hp;subst hp;simp only[WR]at h;cases hx:(x==p1)with
  |true=>
   have hx':x=p1:=by simpa using hx
   rw[hx]at h;have:=nk p2 rfl (by rcases h with h|h<;>simp at h<;>simp[h]);subst this;rw[hx'];exact Wq ..
  |false=>
   rw[hx]at h;exact VY _ (ih h)
section
variable{prog:Program}{w:World}{A:Around}{R':Result->Shared->Prop}{s:Shared}
abbrev fU:Value->Shared->Prop:=λ_ _=>False
noncomputable def vp(ifs:List Expr)(env:Env):Sem Bool:=forIn ifs true λc r=>if r=true then do let ok <-isTrue c env (eval c env);pure (ForInStep.yield ok)else pure (ForInStep.yield r)
def sM{elt target iter:Expr}{ifs:List Expr}{scope:Scope}{pos:Pos}{it acc:Value}{env:Env}(I:Nat->Shared->Prop)
  (turn:∀n s,I n s->wpAny (model prog w) A (pyNext it) (λr s₁=>match r with
   |none=>R' (.ok .next) s₁
   |some v=>wpAny (model prog w) A (letOwnedTupleGo target it v) (λ_ s₂=>wpAny (model prog w) A (assign target env v) (λ_ s₃=>
     wpAny (model prog w) A (vp ifs env) (λok s₄=>
      if ok=true then wpAny (model prog w) A (eval elt env) (λx s₅=>
       wpAny (model prog w) A (call (.builtin "list.append") [acc,x]) (λ_ s₆=>∃m,m<n/\I m s₆) fU s₅) fU s₄
      else ∃m,m<n/\I m s₄) fU s₃) fU s₂) fU s₁) fU s)
  (n:Nat) (h:I n s):codeAny (model prog w) A (.compLoop (.ListComp elt [⟨target,iter,ifs,0⟩] scope pos) 0 it acc env) R' s:=by
 refine codeAny_loop rfl I (λn s hI=>?_) n h;show wpAny _ A ((compTurn (.ListComp elt [⟨target,iter,ifs,0⟩] scope pos) 0 it acc env).onRaise (λx=>do noteFrame x env;theTreesLotGoes x)) _ _ s;refine wpAny_noted ?_;rw[compTurn_list];refine fK (wpAny_standAt (fK (W6 (turn n s hI) (λr s₁ h₁=>?_) λ_ _ h'=>h'.elim)));cases r with
 |none=>exact pe h₁
 |some v=>
  refine fK (W6 h₁ (λ_ s₂ h₂=>?_) λ_ _ h'=>h'.elim);refine fK (W6 h₂ (λ_ s₃ h₃=>fK (W6 h₃ (λok s₄ h₄=>?_) λ_ _ h'=>h'.elim)) λ_ _ h'=>h'.elim);cases ok with
  |false=>exact pe ⟨rfl,h₄⟩
  |true=>
   exact fK (fK (W6 h₄ (λx s₅ h₅=>fK (W6 h₅ (λ_ s₆ h₆=>pe (pe ⟨rfl,h₆⟩)) λ_ _ h'=>h'.elim)) λ_ _ h'=>h'.elim))
end
inductive Pr(K:PySem.W.Frag)(m:List Nat)(P:aM)(e:Eo)(s:L2.St)(H:Hp)(Q:Bool->Hp->Prop):Prop
 |mk (r:List Addr) (fr:Fr) (h:Hh) (k:Bool) (h':Hh) (c0:SR K m H r fr s) (c1:HR K H r h) (c2:Ev.gI P e fr h=.ok k h') (c3:∀H' r',HR K H' r' h'->Fm K r r' H H'->Q k H'):Pr K m P e s H Q
noncomputable def JC(G:Tb)(n:Nat)(sc:Scope)(N:List Str)(df:Bool)(m:List Nat)(e:Eo)(ifs:List Expr):Prop:=∀X,Good G n sc N df X->∀(pins:List (Addr×Obj)) (s:Shared) (σ:L2.St) (H:Hp) (Q:Bool->Hp->Prop),Inv X pins σ H s->
 Pr X.K m (Ev.run G.F G.w n) e σ H Q->wpAny (model X.prog X.w) X.A (vp ifs X.env) (TP X pins σ Q) X.xe s
section
variable{G:Tb}{n:Nat}{sc:Scope}{N:List Str}{df:Bool}{m:List Nat}{a:E}{xa:Expr}
def Nb:JC G n sc N df m .no []:=λX g pins s σ H Q I q=>by
 obtain⟨r,fr,h,k,h',sr,hr,e,q⟩:=q;simp only[Ev.gI]at e;cases e;exact pe ⟨H,I,q H r hr .refl⟩
def IK(hc:JT G n sc N df m a xa):JC G n sc N df m (.yes a) [xa]:=λX g pins s σ H Q I q=>by
 obtain⟨r,fr,h,k,h',sr,hr,e,q⟩:=q;simp only[Ev.gI]at e;exact wpAny_tests_one (hc X g pins s σ H Q I ⟨r,fr,h,k,h',sr,hr,e,q⟩)
end
noncomputable def om(X:Cx)(N':List Str)(scope:Scope)(cl:List (Str×Addr))(C:Addr)(s3:Shared)(H3:Hp)(fp:List Addr):Cx:=
 { X with N:=N',s₀:=s3,H₀:=H3,env:=compEnvC scope cl C X.env,outer:=X.stack,stack:=X.stack,ex:=fp,fn:=λ_=>false,pn:=[],xe:=λ_ _=>False }
noncomputable def namesOk(sc:Scope)(N:List Str)(m:List Nat)(scope:Scope)(t:T)(N':List Str)(m':List Nat):Prop:=m'.length=N'.length/\
 ∀(j:Nat) x i,N'[j]?=some x->m'[j]?=some i->i∈Ev.slots t\/((x,NameKind.free)∈scope.names/\∃jo:Nat,N[jo]?=some x/\m[jo]?=some i)
noncomputable def sN(sc:Scope)(N:List Str)(m:List Nat)(scope:Scope)(t:T)(N':List Str)(m':List Nat):Bool:=m'.length==N'.length&&
 (List.range N'.length).all λj=>match N'[j]?,m'[j]? with
  |some x,some i=>(Ev.slots t).contains i || (scope.names.contains (x,NameKind.free)&&(List.range N.length).any λjo=>N[jo]?==some x&&m[jo]?==some i)
  |_,_=>true
def namesOk.of{sc:Scope}{N:List Str}{m:List Nat}{scope:Scope}{t:T}{N':List Str}{m':List Nat}(h:sN sc N m scope t N' m'=true):namesOk sc N m scope t N' m':=by
 unfold sN at h;rw[Lf]at h;refine⟨by simpa using h.1,λj x i e1 e2=>?_⟩;have hj:j<N'.length:=(List.getElem?_eq_some_iff.mp e1).1;have q:=List.all_eq_true.mp h.2 j (List.mem_range.mpr hj);rw[e1,e2]at q;simp only[WG,Lf,List.any_eq_true]at q;rcases q with q|⟨q1,jo,_,q2⟩
 .exact .inl (by simpa using q)
 .exact .inr ⟨by simpa using q1,jo,by simpa using q2.1,by simpa using q2.2⟩
def uP{t:T}{d:D}{fr ao:Fr}(e:Ev.bY t d fr=some ao){i:Nat}(hi:i∉Ev.slots t):ao[i]?=fr[i]?:=by
 have go:∀(l:List Nat) (ds:List D) (fr ao:Fr),Ev.cC l ds fr=some ao->i∉l->ao[i]?=fr[i]?:=by
  intro l;induction l with
  |nil=>
   intro ds fr ao e _;cases ds with
   |nil=>cases e;rfl
   |cons _ _=>cases e
  |cons j l ih=>
   intro ds fr ao e hj;cases ds with
   |nil=>cases e
   |cons d ds=>
    rw[ih ds _ _ e λz=>hj (VY _ z),PZ];intro z;exact hj (by rw[z];exact Wq ..)
 cases t with
 |one j=>
  cases e;rw[PZ];intro z;exact hi (by simp[Ev.slots,z])
 |many l=>
  cases d with
  |tup ds=>exact go l ds fr ao e hi
  |_=>cases e
def SR.unbind{K:PySem.W.Frag}{m:List Nat}{H:Hp}{r:List Addr}{t:T}{d:D}{fr ao:Fr}{s:L2.St}(sr:SR K m H r ao s)(e:Ev.bY t d fr=some ao)(hu:Ev.undef t fr=true):SR K m H r fr s:=by
 refine⟨sr.len,λj i d' e1 e2=>sr.sl j i d' e1 ?_⟩;rw[uP e]
 .exact e2
 .intro hi;have q:=List.all_eq_true.mp hu i hi;rw[e2]at q;cases q
structure lE(sc scope:Scope):Prop where
 kind:scope.kind=.function
 zu:∀y∈scope.names,y.2≠.cell
 free:∀x,(x,NameKind.free)∈scope.names->(sc.names.lookup x=some .cell\/sc.names.lookup x=some .free)/\scope.names.lookup x=some .free
 loc:∀y∈scope.names,y.2=.local->scope.names.lookup y.1=some .local
noncomputable def IL(sc scope:Scope):Bool:=scope.kind==.function&&scope.names.all λy=>y.2 != .cell&&(y.2 != .free || ((sc.names.lookup y.1==some .cell ||sc.names.lookup y.1==some .free)&&scope.names.lookup y.1==some .free))&&(y.2 != .local ||scope.names.lookup y.1==some .local)
def lE.of{sc scope:Scope}(h:IL sc scope=true):lE sc scope:=by
 unfold IL at h;rw[Lf]at h;have q:∀y∈scope.names,y.2≠.cell/\(y.2=.free->(sc.names.lookup y.1=some .cell\/sc.names.lookup y.1=some .free)/\scope.names.lookup y.1=some .free)/\(y.2=.local->scope.names.lookup y.1=some .local):=λy hy=>by
  have z:=List.all_eq_true.mp h.2 y hy;simp only[Lf,WG,Zv,beq_iff_eq,ne_eq]at z;refine⟨z.1.1,λe=>?_,λe=>?_⟩
  .rcases z.1.2 with w|w
   .exact absurd e w
   .exact w
  .rcases z.2 with w|w
   .exact absurd e w
   .exact w
 exact⟨by simpa using h.1,λy hy=>(q y hy).1,λx hx=>(q _ hx).2.1 rfl,λy hy=>(q y hy).2.2⟩
theorem qU{sc:Scope}:∀{names:List (Str×NameKind)}{x:Str},names.lookup x=some .free->
  ((names.map λ(n,k)=>if (k==NameKind.free&&sc.kind==.function&&sc.names.lookup n==some .cell)then (n,NameKind.cell)else (n,k)).lookup x=some .cell\/
   (names.map λ(n,k)=>if (k==NameKind.free&&sc.kind==.function&&sc.names.lookup n==some .cell)then (n,NameKind.cell)else (n,k)).lookup x=some .free)
 |[],_,h=>by simp at h
 | (n,k) :: r,x,h=>by
  have ih:=@qU sc r x;simp only[T6];simp only[WR]at h;by_cases hc:(k==NameKind.free&&sc.kind==.function&&sc.names.lookup n==some .cell)=true
  .rw[GQ hc];simp only[WR];cases hx:(x==n)with
   |true=>exact .inl rfl
   |false=>rw[hx]at h;exact ih h
  .rw[Us hc];simp only[WR];cases hx:(x==n)with
   |true=>rw[hx]at h;exact .inr h
   |false=>rw[hx]at h;exact ih h
section
variable{G:Tb}{n:Nat}{sc scope:Scope}{N N':List Str}{df:Bool}{m m':List Nat}{t:T}{X:Cx}
def Good.comp(g:Good G n sc N df X){cl:List (Str×Addr)}{C:Addr}{s3:Shared}{H3:Hp}{fp:List Addr}:Good G n (gM sc scope) N' false (om X N' scope cl C s3 H3 fp):=
 ⟨rfl,pT g.sc,g.calm,(λh=>by cases h),g.room,rfl,g.fn,g.bl,g.cs,g.dk⟩
def E6{pins:List (Addr×Obj)}{σ:L2.St}{H3:Hp}{s3:Shared}(g:Good G n sc N df X)(I:Inv X pins σ H3 s3)(hs:lE sc scope){cl:List (Str×Addr)}(iP:∀x c,cl.lookup x=some c->X.env.cells.lookup x=some c)
  (lG:∀x,(x,NameKind.free)∈scope.names->∃c,cl.lookup x=some c) {fp:List Addr} (hfp:∀b∈fp,fB X pins H3 b) (hfl:∀b∈fp,b<s3.heap.objs.size):(om X N' scope cl s3.heap.objs.size s3 H3 fp).Ok where
 mod:=I.ok.mod
 kind:=hs.kind
 glob:=I.ok.glob
 blt:=I.ok.blt
 above:=Et _
 inj:=λx y c h1 h2=>I.ok.inj x y c (iP x c h1) (iP y c h2)
 has:=λx h=>by
  have h':(gM sc scope).names.lookup x=some .cell\/(gM sc scope).names.lookup x=some .free:=by
   rw[<-pT (scope:=scope) g.sc];exact h
  exact lG x (qT hs.zu h')
 uZ:=λx c h=>by cases h
 hd:=I.ok.hd
 frames:=I.ok.frames
 stk:=.inl rfl
 DA:=λb hb=>⟨V7 (hfl b hb),λx c e=>(hfp b hb).2.2.2.2.1 x c (iP x c e)⟩
 bs:=I.bs
 qE:=V0 I.ok.qE I.sz
 pK:=λb o e hb=>by
  rcases(hfp b hb).2.2.2.1 with z|z
  .exact I.ok.pK b o e z
  .have:=RH (I.ok.bs b o e).1;exact absurd (MC this z) (Wg _)
 pL:=λb hb z=>by
  rcases List.mem_cons.mp (I.rZ b z)with q|q
  .exact(hfp b hb).2.1 q
  .exact(hfp b hb).2.2.1 q
 iN:=I.stack
 rX:=I.u5
open Classical in
noncomputable def sig(scope:Scope)(N N':List Str)(m':List Nat)(K:PySem.W.Frag)(H:Hp)(r:List Addr)(fr:Fr)(σ:L2.St):L2.St:=
 (List.range N'.length).map λj=>if h:∃v,∃x i,N'[j]?=some x/\m'[j]?=some i/\(x,NameKind.free)∈scope.names/\(∃jo:Nat,N[jo]?=some x/\σ[jo]?=some (some v))/\∀d,fr[i]?=some (some d)->RV K H r d v then some h.choose else none
def IM{K:PySem.W.Frag}{H:Hp}{r:List Addr}{fr:Fr}{σ:L2.St}{j:Nat}{v:V}(h:(sig scope N N' m' K H r fr σ)[j]?=some (some v)) :
  ∃x i,N'[j]?=some x/\m'[j]?=some i/\(x,NameKind.free)∈scope.names/\(∃jo:Nat,N[jo]?=some x/\σ[jo]?=some (some v))/\∀d,fr[i]?=some (some d)->RV K H r d v:=by
 unfold sig at h;rw[We]at h;cases e:(List.range N'.length)[j]? with
 |none=>rw[e]at h;cases h
 |some j'=>
  have:=getElem?_range' e;subst this;rw[e]at h;simp only[Zx,Yl]at h;split at h
  .rename_i hh;cases h;exact hh.choose_spec
  .cases h
def IP{K:PySem.W.Frag}{H:Hp}{r:List Addr}{fr:Fr}{σ:L2.St}(sr:SR K m H r fr σ)(hn:namesOk sc N m scope t N' m')(hu:Ev.undef t fr=true):SR K m' H r fr (sig scope N N' m' K H r fr σ):=by
 refine⟨by unfold sig;simp[hn.1],λj i d e1 e2=>?_⟩;have hj:j<N'.length:=by rw[<-hn.1];exact(List.getElem?_eq_some_iff.mp e1).1
 have hx:N'[j]?=some N'[j]:=T7 hj;rcases hn.2 j _ i hx e1 with hi|⟨h1,jo,h2,h3⟩
 .exfalso;have q:=List.all_eq_true.mp hu i hi;rw[e2]at q;cases q
 .obtain⟨v,h4,h5⟩:=sr.sl jo i d h3 e2;have ex:∃v,∃x i,N'[j]?=some x/\m'[j]?=some i/\(x,NameKind.free)∈scope.names/\(∃jo:Nat,N[jo]?=some x/\σ[jo]?=some (some v))/\∀d,fr[i]?=some (some d)->RV K H r d v:=
   ⟨v,N'[j],i,hx,e1,h1,⟨jo,h2,h4⟩,λd' e'=>by rw[e2]at e';cases e';exact h5⟩
  refine⟨ex.choose,?_,?_⟩
  .unfold sig;rw[We,Xu hj];simp only[Zx];rw[dif_pos ex]
  .obtain⟨x',i',q1,q2,q3,q4,q5⟩:=ex.choose_spec;rw[e1]at q2;cases q2;exact q5 d e2
def BJ{pins:List (Addr×Obj)}{σ:L2.St}{H3:Hp}{s3:Shared}(g:Good G n sc N df X)(I:Inv X pins σ H3 s3)(hs:lE sc scope){cl:List (Str×Addr)}(iP:∀x c,cl.lookup x=some c->X.env.cells.lookup x=some c)
  (lG:∀x,(x,NameKind.free)∈scope.names->∃c,cl.lookup x=some c) {fp:List Addr} (hfp:∀b∈fp,fB X pins H3 b) (hfl:∀b∈fp,b<s3.heap.objs.size) {h1:Heap} {tk:Nat} {mm:Str->Option Value}
  (hns:h1.Ns s3.heap.objs.size mm) (hk:∀b o,s3.heap.get? b=some o->h1.get? b=some o) {r:List Addr} {fr:Fr} :
  Inv (om X N' scope cl s3.heap.objs.size s3 H3 fp) [] (sig scope N N' m' X.K H3 r fr σ) H3 { s3 with heap:=h1,toks:=tk }:=by
 refine⟨E6 g I hs iP lG hfp hfl,rfl,I.bare,Un.kept hk,⟨mm,hns,λj x v e1 e2 e3=>?_⟩,λx c e=>?_,I.hok.fresh (Et _),λx c e=>I.iB x c (iP x c e),(λp hp=>by simp[om]at hp),I.hok.kept hk,(by unfold sig;simp[om])⟩
 .obtain⟨x',i,q1,q2,q3,⟨jo,q4,q5⟩,_⟩:=IM e2;have SO:N'[j]?=some x:=e1;rw[SO]at q1;cases q1;obtain⟨f1,f2⟩:=hs.free x q3;obtain⟨mO,Uw,SQ⟩:=I.loc;obtain⟨u,ru,lk⟩:=SQ jo x v (by rw[g.nm];exact q4) q5 (by rw[g.sc];rcases f1 with z|z<;>simp[yH,z]);refine⟨u,ru,?_⟩;have hkd:X.env.kindOf x=some .cell\/X.env.kindOf x=some .free:=by unfold Env.kindOf;rw[g.sc];exact f1
  rcases lk with ⟨z,_⟩|⟨_,c,hc,hcell⟩
  .rcases hkd with w|w <;> (rw[z]at w;cases w)
  .obtain⟨c',hc'⟩:=lG x q3;have:c'=c:=by
    have:=iP x c' hc';rw[hc]at this;cases this;rfl
   subst this;refine .inr ⟨?_,c',hc',?_⟩
   .show(relabel scope X.env).names.lookup x=some .cell\/(relabel scope X.env).names.lookup x=some .free;rw[pT (scope:=scope) g.sc];exact qU f2
   .obtain⟨o,ho,hd⟩:=hcell;exact⟨o,hk _ _ ho,hd⟩
 .obtain⟨v,o,ho,hd⟩:=I.cell x c (iP x c e);exact⟨v,o,hk _ _ ho,hd⟩
end
section
variable{G:Tb}{n:Nat}{sc scope:Scope}{N N':List Str}{df:Bool}{m m':List Nat}{elt:E}{t:T}{it:Ev.It}{cond:Eo}{xe xi tg:Expr}{ifs:List Expr}{pos:Pos}{X:Cx}
noncomputable def xw(P:aM)(elt:E)(t:T)(cond:Eo)(fr:Fr):D->Hh->R (Option D):=λd h2=>match Ev.bY t d fr with
 |none=>.bad
 |some ao=>(Ev.gI P cond ao h2).bind λk h3=>if k then (Ev.ev P elt ao h3).bind λx h4=>.ok (some x) h4 else .ok none h3
def pU(P:aM)(elt:E)(t:T)(it:Ev.It)(cond:Eo)(fr:Fr)(h:Hh):Ev.ev P (.comp elt t it cond) fr h=(Ev.bR P it fr h).bind λs h1=>if Ev.undef t fr then
  (Ev.cJ (xw P elt t cond fr) s.2 s.1 h1).bind λds h2=>Ev.alloc ds h2 else .bad:=by
 simp only[Ev.ev];rfl
noncomputable def CI(Y:Cx)(m':List Nat)(f:D->Hh->R (Option D))(fr:Fr)(src:Src)(fp:List Addr)(tn:Nat->Heap->Prop)(r2:List Addr)(H2:Hp)(Dd:Addr)(ds:List D)(h2:Hh)(k:Nat)(s:Shared):Prop:=
 ∃i mY Hc rc hc dn vs rest,Inv Y [] mY Hc s/\tn i s.heap/\(∀b∈fp,Hc b=none)/\k=src.1.length - i/\i<=src.1.length/\
  SR Y.K m' Hc rc fr mY/\HR Y.K Hc rc hc/\Fm Y.K r2 rc H2 Hc/\Hc Dd=some (.lst vs)/\Dd∉rc/\az Y.K Hc rc dn vs/\Ev.cJ f src.2 (src.1.drop i) hc=.ok rest h2/\dn++rest=ds
section
variable{Y:Cx}{sc':Scope}{J:L2.It}{fp:List Addr}{ita:Addr}{tn:Nat->Heap->Prop}{fr:Fr}{src:Src}{r2:List Addr}{H2:Hp}{Dd:Addr}{ds:List D}{h2:Hh}
def xx(gC:Good G n sc' N' false Y){α:Type}{tt:Sem α}{Q:α->Shared->Prop}{s:Shared}(hw:wpAny (model Y.prog Y.w) Y.A tt Q Y.xe s):wpAny (model Y.prog Y.w) Y.A tt Q fU s:=by rw[gC.xe]at hw;exact hw
def vq{i:Nat}{kQ:L2.St}{H9:Hp}{r9:List Addr}{h9:Hh}{dn:List D}{vs:List V}{rest':List D}{s9:Shared}{p:List (Addr×Obj)}{f:D->Hh->R (Option D)}(hlt:i<src.1.length)(I9:Inv Y ([]++p) kQ H9 s9)(bk:tn (i+1) s9.heap/\∀b∈fp,H9 b=none)(q:SR Y.K m' H9 r9 fr kQ)(qV:HR Y.K H9 r9 h9)(fm:Fm Y.K r2 r9 H2 H9)(xy:H9 Dd=some (.lst vs))(xA:Dd∉r9)(rv:az Y.K H9 r9 dn vs)(e7:Ev.cJ f src.2 (src.1.drop (i+1)) h9=.ok rest' h2)(ed:dn++rest'=ds) :
  ∃k,k<src.1.length - i/\CI Y m' f fr src fp tn r2 H2 Dd ds h2 k s9:=
 ⟨src.1.length - (i+1),Y4 hlt (Yv i),i+1,kQ,H9,r9,h9,dn,vs,rest',I9.j9,bk.1,bk.2,rfl,hlt,q,qV,fm,xy,xA,rv,e7,ed⟩
def IQ{i:Nat}{kQ:L2.St}{H9:Hp}{r9:List Addr}{h9:Hh}{dn:List D}{vs:List V}{xd:D}{v10:V}{DM:Value}{rest':List D}{s9:Shared}{p:List (Addr×Obj)}{f:D->Hh->R (Option D)}(hlt:i<src.1.length)(lH:H2 Dd=none)(hsz:ds.length<=sizeLine)(gC:Good G n sc' N' false Y)(I9:Inv Y ([]++p) kQ H9 s9)(BK:RelV v10 DM)(bk:∀{σ':L2.St}{H':Hp}{s':Shared},Inv Y ([]++p) σ' H' s'->tn (i+1) s'.heap/\∀b∈fp,H' b=none)(q:SR Y.K m' H9 r9 fr kQ)(qV:HR Y.K H9 r9 h9)(fm:Fm Y.K r2 r9 H2 H9)(mZ:H9 Dd=some (.lst vs))(sO:Dd∉r9)(rv:az Y.K H9 r9 dn vs)(BL:RV Y.K H9 r9 xd v10)(e7:Ev.cJ f src.2 (src.1.drop (i+1)) h9=.ok rest' h2)(ed:dn++xd :: rest'=ds) :
  wpAny (model Y.prog Y.w) Y.A (call (.builtin "list.append") [.ref Dd,DM]) (λ_ DN=>∃k,k<src.1.length - i/\CI Y m' f fr src fp tn r2 H2 Dd ds h2 k DN) fU s9:=by
 have hlen:vs.length<sizeLine:=by
  have h1:=rv.length;have h2:=VZ List.length ed;simp at h2;omega
 refine bF (xx gC (qO _ s9 kQ H9 (.ref Dd) [v10] (.ref Dd) [DM] (λ_ Pu=>Pu=upd H9 Dd (.lst (vs++[v10]))) I9 rfl (.cons BK .nil) ⟨Dd,vs,v10,rfl,rfl,mZ,hlen,rfl⟩)) λ_ DN ⟨_,Pu,Pw,_,Rh⟩=>?_;subst Rh;refine vq (dn:=dn++[xd]) (vs:=vs++[v10]) hlt Pw (bk Pw) ?_ (qV.other mZ sO) (fm.other lH mZ) eN sO ?_ e7 ?_
 .exact⟨q.len,λj i' d' a1 a2=>by
   obtain⟨w,b1,b2⟩:=q.sl j i' d' a1 a2;exact⟨w,b1,b2.grow (λ_ _ z=>z) (gK mZ)⟩⟩
 .exact(rv.append (.cons BL .nil)).grow (λ_ _ z=>z) (gK mZ)
 .rw[<-ed];simp
def zv(gC:Good G n sc' N' false Y)(hg:JG G n sc' N' false m' t tg)(hc:JC G n sc' N' false m' cond ifs)(he:JE G n sc' N' false m' elt xe)(Tn:Turn Y.prog Y.w Y.K tg J fp ita tn)(kc:∀{Hc:Hp},(∀b∈fp,Hc b=none)->∀b∈fp,fB Y [] Hc b)
  (hu:Ev.undef t fr=true) (hJ:lD Y.K r2 H2 src J) (lH:H2 Dd=none) (hsz:ds.length<=sizeLine) {R':Result->Shared->Prop}
  (Ri:∀s6 mY Hc rc vs,Inv Y [] mY Hc s6->HR Y.K Hc rc h2->Fm Y.K r2 rc H2 Hc->Hc Dd=some (.lst vs)->Dd∉rc->az Y.K Hc rc ds vs->R' (.ok .next) s6) {k:Nat} {s:Shared}
  (h:CI Y m' (xw (Ev.run G.F G.w n) elt t cond fr) fr src fp tn r2 H2 Dd ds h2 k s):codeAny (model Y.prog Y.w) Y.A (.compLoop (.ListComp xe [⟨tg,xi,ifs,0⟩] scope pos) 0 (.ref ita) (.ref Dd) Y.env) R' s:=by
 refine sM (CI Y m' (xw (Ev.run G.F G.w n) elt t cond fr) fr src fp tn r2 H2 Dd ds h2) ?_ k h;rintro k s5 ⟨i,mY,Hc,rc,hc',dn,vs,rest,I5,vc,qI,rfl,hle,zp,qS,sP,mZ,sO,zw,e5,DO⟩;rcases Y9 i src.1.length with hlt|hge
 .rw[Yq hlt]at e5;simp only[Ev.cJ]at e5;split at e5
  .rename_i hst;obtain⟨hgo,_⟩:=hJ i Hc rc hc' qS sP hst;obtain⟨g1,g2⟩:=hgo src.1[i] (T7 hlt);obtain⟨o,h6,e6,e5⟩:=Ev.ah e5;obtain⟨rest',h7,e7,e5⟩:=Ev.ah e5;cases e5;refine bF (Tn.item Y rfl rfl rfl gC.calm i [] s5 mY Hc fU I5 (kc qI) vc g1) λrr s6 ⟨u,SS,h8⟩=>?_;subst SS;refine bF h8 λ_ s7 ⟨x,H7,I7,rx,y7,IS,SV⟩=>?_;obtain⟨r7,v7,Px,vt⟩:=g2 x H7 y7;obtain⟨Rj,Rk⟩:=vt.xo mZ sO;unfold xw at e6;split at e6
   .cases e6
   .rename_i ao eb;obtain⟨kk,h9,e9,e6⟩:=Ev.ah e6;have SW:=I7.pinned (kc SV) (Tn.obj _ _ IS);refine bF (xx gC (hg _ gC _ s7 mY H7 x u (λkQ H8=>H8=H7/\SR Y.K m' H7 r7 ao kQ) SW rx ⟨r7,fr,hc',_,ao,zp.mono vt,Px,v7,eb,λs' q=>⟨rfl,q⟩⟩)) λ_ s8 ⟨kQ,H8,I8,SX,DP⟩=>?_;subst SX;refine bF (xx gC (hc _ gC _ s8 kQ _ (λb H9=>b=kk/\∃r9,HR Y.K H9 r9 h9/\Fm Y.K r7 r9 _ H9) I8 ⟨r7,ao,hc',kk,h9,DP,Px,e9,λH9 r9 qV f9=>⟨rfl,r9,qV,f9⟩⟩)) λbb s9 ⟨H9,I9,HY,r9,qV,qW⟩=>?_;subst HY;obtain⟨xA,xy⟩:=qW.xo Rk Rj;have back:∀{σ':L2.St} {H':Hp} {s':Shared},Inv Y ([]++kW fp s7.heap) σ' H' s'->tn (i+1) s'.heap/\∀b∈fp,H' b=none:=λ{σ' H' s'} I'=>
     ⟨Tn.keep _ _ _ IS λb hb o e=>(I'.pin (b,o) (Wb _ (Wb _ (iT hb e)))).1,λb hb=>
      let ⟨o,e,_⟩:=Tn.obj _ _ IS b hb
      (I'.pin (b,o) (Wb _ (Wb _ (iT hb e)))).2.1⟩
    cases bb with
    |false=>
     simp only[V4,WE]at e6 ⊢;cases e6;exact vq hlt I9 (back I9) ((DP.mono qW).unbind eb hu) qV ((sP.trans vt).trans qW) xy xA ((zw.mono vt).mono qW) e7 DO
    |true=>
     simp only[Wf]at e6 ⊢;obtain⟨xd,Ux,SY,e6⟩:=Ev.ah e6;cases e6;refine bF (xx gC (he _ gC _ s9 kQ H9 (λv zx=>∃vv,RV Y.K zx vv xd v/\HR Y.K zx vv _/\Fm Y.K r9 vv H9 zx) I9 ⟨r9,ao,h9,xd,_,DP.mono qW,qV,SY,λv zx vv v10 BN zy=>⟨vv,v10,BN,zy⟩⟩)) λDM Py ⟨v10,zx,S5,BK,vv,BL,BN,xB⟩=>?_;obtain⟨Nc,Nd⟩:=xB.xo xy xA;exact IQ hlt lH hsz gC S5 BK back (((DP.mono qW).mono xB).unbind eb hu) BN (((sP.trans vt).trans qW).trans xB) Nd Nc (((zw.mono vt).mono qW).mono xB) BL e7 DO
  .cases e5
 .have hi':i=src.1.length:=YG hle hge;subst hi';rw[Yy]at e5;simp only[Ev.cJ]at e5;split at e5
  .rename_i hst;cases e5;refine bF (Tn.done Y rfl rfl rfl gC.calm _ [] s5 mY Hc fU I5 (kc qI) vc ((hJ _ Hc rc _ qS sP hst).2 (Et _))) λrr s6 ⟨hrr,I6⟩=>?_;subst hrr;rw[V8]at DO;subst DO;exact Ri s6 mY Hc rc vs I6 qS sP mZ sO zw
  .cases e5
end
def zz(g:Good G n sc N df X)(hi:JI G n sc N df m it tg xi)(hg:JG G n (gM sc scope) N' false m' t tg)(hc:JC G n (gM sc scope) N' false m' cond ifs)(he:JE G n (gM sc scope) N' false m' elt xe)
  (hn:namesOk sc N m scope t N' m') (hs:lE sc scope) {cl:List (Str×Addr)} (iP:∀x c,cl.lookup x=some c->X.env.cells.lookup x=some c) (lG:∀x,(x,NameKind.free)∈scope.names->∃c,cl.lookup x=some c)
  {pins:List (Addr×Obj)} {σ:L2.St} {H:Hp} {s:Shared} (I:Inv X pins σ H s) {r:List Addr} {fr:Fr} {h:Hh} {d:D} {h':Hh} (sr:SR X.K m H r fr σ) (hr:HR X.K H r h)
  (e:Ev.ev (Ev.run G.F G.w n) (.comp elt t it cond) fr h=.ok d h') (post:Value->Addr->Result->Shared->Prop)
  (hpost:∀Dd C s' H' r',Inv X pins σ H' s'->(∃mm,s'.heap.Ns C mm)->fB X pins H' C->RV X.K H' r' d (.ref Dd)->HR X.K H' r' h'->Fm X.K r r' H H'->post (.ref Dd) C (.ok .next) s') {E:Value->Shared->Prop} (hE:X.xe=λ_ _=>False) :
  wpAny (model X.prog X.w) X.A (eval xi X.env) (λx s₁=>wpAny (model X.prog X.w) X.A (pyIter x) (λitv s₂=>wpAny (model X.prog X.w) X.A (newList []) (λacc s₃=>
   wpAny (model X.prog X.w) X.A (newFunctionEnv scope X.env.globals cl [] X.env.qual none .none (some X.env)) (λcenv s₄=>
    codeAny (model X.prog X.w) X.A (.compStart (.ListComp xe [⟨tg,xi,ifs,0⟩] scope pos) 0 itv acc { cenv with scope:=relabel scope X.env }) (post acc cenv.locals) s₄) E s₃) E s₂) E s₁) E s:=by
 rw[pU]at e;obtain⟨src,h1,e1,e⟩:=Ev.ah e;split at e
 .rename_i hu;obtain⟨ds,h2,e2,e⟩:=Ev.ah e;have qG:∀{α:Type} {tt:Sem α} {Q:α->Shared->Prop} {s:Shared},wpAny (model X.prog X.w) X.A tt Q X.xe s->wpAny (model X.prog X.w) X.A tt Q E s:=λ{α tt Q s} hw=>W6 hw (λ_ _ q=>q) λ_ _ q=>by rw[hE]at q;exact q.elim
  refine bF (qG (hi X g pins s σ H (λJ H2=>∃r2,HR X.K H2 r2 h1/\Fm X.K r r2 H H2/\lD X.K r2 H2 src J) I ⟨r,fr,h,src,h1,sr,hr,e1,λJ H2 r2 hr2 f2 hJ=>⟨r2,hr2,f2,hJ⟩⟩)) λv s1 q1=>?_;refine bF (qG q1) λitv s2 q2=>?_;obtain⟨ita,fp,tn,J,H2,rfl,I2,Tn,st2,f2,r2,hr2,DQ,hJ⟩:=q2;refine V5 ?_;generalize DR:s2.heap.objs.size=Dd
  have lH:H2 Dd=none:=by rw[<-DR];exact I2.fresh
  have I3:Inv X pins σ (upd H2 Dd (.lst [])) { s2 with heap:=s2.heap.push { cls:=.type "list",data:=.seq ([]:List Value).toArray }}:=by
   have:=I2.Bv (ys:=[]) (its:=[]) (t':=s2.toks) .nil (WH _);rw[DR]at this;exact this
  have xC:∀b∈fp,b<s2.heap.objs.size:=λb hb=>by
   obtain⟨o,e,_⟩:=Tn.obj 0 _ st2 b hb;exact RH e
  generalize IT:({ s2 with heap:=s2.heap.push { cls:=.type "list",data:=.seq ([]:List Value).toArray }}:Shared)=s3 at I3
  have Rl:s3.heap.objs.size=s2.heap.objs.size+1:=by rw[<-IT];exact XH ..
  have k3:∀b o,s2.heap.get? b=some o->s3.heap.get? b=some o:=λb o e=>by rw[<-IT];exact gV _ e
  have IU:∀b∈fp,b<s3.heap.objs.size:=λb hb=>MC (xC b hb) (by rw[Rl];exact Zn _);have pV:∀b∈fp,fB X pins (upd H2 Dd (.lst [])) b:=λb hb=>⟨by rw[bw (λz=>absurd (xC b hb) (by rw[z,DR];exact Wg _))];exact(f2 b hb).1,(f2 b hb).2⟩
  refine wpAny_newFunctionEnv (hs.zu) (λy hy=>by simp at hy) (λIV Rm Rn=>?_) hs.kind;have k4:∀b o,s3.heap.get? b=some o->IV.get? b=some o:=λb o e=>Rn.extBut b o (V7 (RH e)) (gV _ e);have gC:Good G n (gM sc scope) N' false (om X N' scope cl s3.heap.objs.size s3 (upd H2 Dd (.lst [])) fp):=g.comp;have I4:Inv (om X N' scope cl s3.heap.objs.size s3 (upd H2 Dd (.lst [])) fp) [] (sig scope N N' m' X.K (upd H2 Dd (.lst [])) r2 fr σ) (upd H2 Dd (.lst [])) { s3 with heap:=IV,toks:=s3.toks+0 }:=
   BJ g I3 hs iP lG pV IU Rm k4
  have vn:SR X.K m' (upd H2 Dd (.lst [])) r2 fr (sig scope N N' m' X.K (upd H2 Dd (.lst [])) r2 fr σ):=IP (((sr.mono DQ).mono (Fm.tup lH))) hn hu;have oh:HR X.K (upd H2 Dd (.lst [])) r2 h1:=hr2.tup lH;have Pz:Dd∉r2:=λhm=>by
   obtain⟨k,hk⟩:=YY hm;have hlt:k<h1.length:=by rw[<-hr2.len];exact(List.getElem?_eq_some_iff.mp hk).1
   obtain⟨a,e3,e4⟩:=hr2.ob k _ (T7 hlt);rw[hk]at e3;cases e3;cases eo:h1[k]with
   |lst dd=>rw[eo]at e4;obtain⟨us,e5,_⟩:=e4;rw[lH]at e5;cases e5
   |bO dd=>
    rw[eo]at e4;obtain⟨us,e5,_⟩:=e4;rcases e5 with ⟨ob,e5⟩|⟨ob,_,_,e5,_⟩
    .rw[lH]at e5;cases e5
    .have:=RH (I2.qF _ _ e5);rw[DR]at this;exact absurd this (Wg _)
  have S6:H Dd=none:=by
   cases z:H Dd with
   |none=>rfl
   |some o=>
    have hnr:Dd∉r:=λhm=>by
     obtain⟨k,hk⟩:=YY hm;exact Pz (V9 (DQ.pre _ _ hk))
    have:=DQ.keep _ _ z hnr;rw[lH]at this;cases this
  have kc:∀{Hc:Hp},(∀b∈fp,Hc b=none)->∀b∈fp,fB (om X N' scope cl s3.heap.objs.size s3 (upd H2 Dd (.lst [])) fp) [] Hc b:=λ{Hc} hz b hb=>by
   refine⟨hz b hb,V7 (IU b hb),(I4.ok).pL b hb,.inl hb,λx c e=>((I4.ok).DA b hb).2 x c e,λp hp=>?_⟩;simp[om]at hp
  have hsz:ds.length<=sizeLine:=by
   unfold Ev.alloc at e;split at e
   .rename_i z;rw[<-iI];exact z
   .cases e
  have fin:codeAny (model X.prog X.w) X.A (.compLoop (.ListComp xe [⟨tg,xi,ifs,0⟩] scope pos) 0 (.ref ita) (.ref Dd) (compEnvC scope cl s3.heap.objs.size X.env)) (post (.ref Dd) s3.heap.objs.size) { s3 with heap:=IV,toks:=s3.toks+0 }:=by
   refine zv gC hg hc he Tn kc hu hJ lH hsz (λs6 mY Hc rc vs I6 qS sP mZ sO zw=>?_) ⟨0,_,_,r2,h1,[],[],ds,I4,Tn.keep _ _ _ st2 λb hb o eo=>k4 b o (k3 b o eo),λb hb=>(pV b hb).1,rfl,WH _,vn,oh,Fm.tup lH,eN,Pz,.nil,by rw[XG];exact e2,rfl⟩;unfold Ev.alloc at e;split at e
   .cases e;obtain⟨S7,Ro,_⟩:=I6.loc;refine hpost Dd _ s6 Hc (rc++[Dd]) ?_ ⟨S7,Ro⟩ ?_ ⟨Dd,rfl,?_⟩ (qS.known mZ sO zw) ((DQ.trans sP).known ?_)
    .exact I3.MD (ch:=fp) (I6.os) I6.base I6.hok I6.bare λb hb=>⟨(pV b hb).2.2.2.1,(pV b hb).2.1,(pV b hb).2.2.2.2.1,(pV b hb).2.2.2.2.2⟩
    .exact I3.se (Et _) I6.free
    .rw[<-qS.len];simp
    .exact S6
   .cases e
  subst IT;exact codeAny_compStart_list fin (Tn.self _ 0 _ _ _ (Tn.keep _ _ _ st2 λb hb o eo=>k4 b o (k3 b o eo)) fin)
 .cases e
end
section
variable{G:Tb}{n:Nat}{sc scope:Scope}{N N':List Str}{df:Bool}{m m':List Nat}{elt:E}{t:T}{it:Ev.It}{cond:Eo}{xe xi tg:Expr}{ifs:List Expr}{pos:Pos}
theorem Good.cells{X:Cx}{pins:List (Addr×Obj)}{σ:L2.St}{H:Hp}{s:Shared}(g:Good G n sc N df X)(I:Inv X pins σ H s)(hs:lE sc scope) :
  ∃cl,closureFor scope X.env=pure cl/\(∀x c,cl.lookup x=some c->X.env.cells.lookup x=some c)/\∀x,(x,NameKind.free)∈scope.names->∃c,cl.lookup x=some c:=
 E5 λx hx=>I.ok.has x (by unfold Env.kindOf;rw[g.sc];exact(hs.free x hx).1)
def IW{X:Cx}{pins:List (Addr×Obj)}{σ:L2.St}{H:Hp}{s:Shared}(I:Inv X pins σ H s){C:Addr}(fp:fB X pins H C){h':Heap}(hs:Heap.SameBut C s.heap h'):Inv X pins σ H { s with heap:=h' }:=
 I.turned (t':=s.toks) (λb o hb e=>hs.extBut b o hb e) fp.1 fp.2.1 fp.2.2.2.1 fp.2.2.2.2.1 fp.2.2.2.2.2
def E7(hi:JI G n sc N df m it tg xi)(hg:JG G n (gM sc scope) N' false m' t tg)(hc:JC G n (gM sc scope) N' false m' cond ifs)(he:JE G n (gM sc scope) N' false m' elt xe)
  (hn:namesOk sc N m scope t N' m') (hs:lE sc scope) (hf:∀(env:Env) x,foldedSetIterable xi env x=pure x:=by intro _ _;rfl):JE G n sc N df m (.comp elt t it cond) (.ListComp xe [⟨tg,xi,ifs,0⟩] scope pos):=λX g pins s σ H Q I q=>by
 obtain⟨r,fr,h,d,h',sr,hr,e,q⟩:=q;obtain⟨cl,hcl,iP,lG⟩:=g.cells I hs;rw[eval_ListComp];refine wpAny_comprehension_free (use:=none) (Q:=EP X pins σ Q) rfl (hf _) hcl hs.kind hs.loc ?_;refine zz g hi hg hc he hn hs iP lG I sr hr e (λacc C=>compPost (model X.prog X.w) X.A X.xe none (EP X pins σ Q) acc C) (λDd C s' H' r' I' hC fp rv hr' S8=>?_) g.xe;obtain⟨mm,hC⟩:=hC;exact⟨mm,hC,λh'' S9=>⟨.ref Dd,H',IW I' fp S9,rfl,q _ H' r' rv hr' S8⟩⟩
end
end Sm
namespace Sm
open PySem PySem.Spec PyProof.Rows L2 PySem.SeqAt
open Ev (D O Hh Fr R aM E Es Eo T S Ss Fl Src br aZ TY BI ME)
structure sQ(A:Around)(s:Shared)(u w:Value)(k:Bool):Prop where
 eq:EqAt A s u w k
 rc:RcAt A s u w k
 ne:RcNeAt A s u w (!k)
theorem pW{f:D->D->Option Bool}:∀{x y:List D},x.length≠y.length->∀{k},Ev.cg f x y=some k->k=false
 |[],[],h,_,_=>absurd rfl h
 |[],_ :: _,_,_,e=>by cases e;rfl
 |_ :: _,[],_,_,e=>by cases e;rfl
 |a :: x,b :: y,h,k,e=>by
  simp only[Ev.cg,Xr,Sw]at e;obtain⟨p,_,q,e2,e3⟩:=e;have:=pW (x:=x) (y:=y) (by simpa using h) e2;subst this;cases e3;simp
theorem vz{f:D->D->Option Bool}:∀{x y:List D}{k},Ev.cg f x y=some k->x.length=y.length->∃e:Nat->Bool,(∀(j:Nat) a b,x[j]?=some a->y[j]?=some b->f a b=some (e j))/\(List.range x.length).all e=k
 |[],[],_,h,_=>⟨λ_=>true,(λj a b h1=>by simp at h1),by cases h;simp⟩
 |[],_ :: _,_,_,h=>by simp at h
 |_ :: _,[],_,_,h=>by simp at h
 |a :: x,b :: y,k,h,hl=>by
  simp only[Ev.cg,Xr,Sw]at h;obtain⟨p,e1,q,e2,e3⟩:=h;cases e3;obtain⟨e,h1,h2⟩:=vz e2 (by simpa using hl);refine⟨λj=>match j with|0=>p|j+1=>e j,λj a' b' g1 g2=>?_,?_⟩
  .cases j with
   |zero=>simp at g1 g2;subst g1 g2;exact e1
   |succ j=>exact h1 j a' b' (by simpa using g1) (by simpa using g2)
  .rw[V1,YL,List.all_cons,List.all_map,<-h2];rfl
theorem vA{f:D->D->Option Bool}:∀{x y:List D}{k},Ev.cg f x y=some k->∃e:Nat->Bool,∀(j:Nat) a b,x[j]?=some a->y[j]?=some b->f a b=some (e j)
 |[],_,_,_=>⟨λ_=>true,λj a b h1=>by simp at h1⟩
 |_ :: _,[],_,_=>⟨λ_=>true,λj a b _ h1=>by simp at h1⟩
 |a :: x,b :: y,k,h=>by
  simp only[Ev.cg,Xr,Sw]at h;obtain⟨p,e1,q,e2,e3⟩:=h;obtain⟨e,h1⟩:=vA e2;refine⟨λj=>match j with|0=>p|j+1=>e j,λj a' b' g1 g2=>?_⟩;cases j with
  |zero=>simp at g1 g2;subst g1 g2;exact e1
  |succ j=>exact h1 j a' b' (by simpa using g1) (by simpa using g2)
section
variable{X:Cx}{pins:List (Addr×Obj)}{σ:L2.St}{H:Hp}{s:Shared}{r:List Addr}{h:Hh}
def mE(I:Inv X pins σ H s){a b:Addr}{vs ws:List V}(h1:xm X.K H a vs)(h2:H b=some (.lst ws)):a≠b:=by
 rintro rfl;rcases h1 with ⟨o,h1⟩|⟨o,_,_,h1,_⟩
 .rw[h2]at h1;cases h1
 .have:=(I.bs a o (I.ok.mod.Dz a o h1)).2;rw[h2]at this;cases this
def qX{x y:List D}{vs ws:List V}{us zs:List Value}{f:D->D->Option Bool}{A:Around}{k:Bool}(v1:az X.K H r x vs)(v2:az X.K H r y ws)(p1:Vals vs us)(p2:Vals ws zs)
  (ih:∀a b va vb u w k,RV X.K H r a va->RV X.K H r b vb->RelV va u->RelV vb w->f a b=some k->sQ A s u w k) (hl:x.length=y.length) (e:Ev.cg f x y=some k) :
  ∃e':Nat->Bool,(∀j (h1:j<us.toArray.size) (h2:j<zs.toArray.size),EqAt A s us.toArray[j] zs.toArray[j] (e' j))/\(List.range us.toArray.size).all e'=k/\us.length=zs.length:=by
 obtain⟨e',h1,h2⟩:=vz e hl;have l1:=v1.length;have l2:=v2.length;have l3:=p1.length;have l4:=p2.length;refine⟨e',λj g1 g2=>?_,?_,by omega⟩
 .have Tc:j<us.length:=by simpa using g1
  have Td:j<zs.length:=by simpa using g2
  have ha:x[j]?=some x[j]:=T7 (by omega);have hb:y[j]?=some y[j]:=T7 (by omega);obtain⟨va,a1,a2⟩:=v1.get ha;obtain⟨vb,b1,b2⟩:=v2.get hb;obtain⟨u,a3,a4⟩:=p1.get a1;obtain⟨w,b3,b4⟩:=p2.get b1;have eu:us.toArray[j]=u:=by
   have:=(List.getElem?_eq_some_iff.mp a3).2;simpa using this
  have ew:zs.toArray[j]=w:=by
   have:=(List.getElem?_eq_some_iff.mp b3).2;simpa using this
  rw[eu,ew];exact(ih _ _ _ _ _ _ _ a2 b2 a4 b4 (h1 j _ _ ha hb)).eq
 .rw[<-h2];have:us.toArray.size=x.length:=by simp;omega
  rw[this]
noncomputable def cB(K:PySem.W.Frag)(H:Hp)(r:List Addr):D->V->Prop
 |.bA,v=>v=.bA
 |.bl b,v=>v=.bl b
 |.int i,v=>v=.int i
 |.str l,v=>v=.str (aK l)
 |.ref n,v=>∃a,v=.ref a/\r[n]?=some a
 |.tup ds,v=>∃a vs,v=.ref a/\cV K H a vs/\az K H r ds vs
def RV.shape{d:D}{v:V}(h:RV X.K H r d v):cB X.K H r d v:=by
 cases d<;>simp only[RV]at h<;>simp only[cB]<;>first|exact h|exact h.1
def E8{a b:List Nat}:(aK a==aK b)=(a==b):=by
 by_cases e:a=b
 .subst e;simp
 .have e1:(aK a==aK b)=false:=beq_eq_false_iff_ne.mpr λz=>e (pR z);have e2:(a==b)=false:=beq_eq_false_iff_ne.mpr e;rw[e1,e2]
def nu{n:Nat}{A:Around}{x y:List D}{a b:Addr}{vs ws:List V}{k:Bool}(I:Inv X pins σ H s)(hu:A.units<cLine)(q1:eH X.K H a vs)(q2:eH X.K H b ws)(v1:az X.K H r x vs)(v2:az X.K H r y ws)(hab:a≠b)
  (ih:∀a b va vb u w k,RV X.K H r a va->RV X.K H r b vb->RelV va u->RelV vb w->Ev.gH h n a b=some k->sQ A.in1 s u w k) (e:Ev.cg (Ev.gH h n) x y=some k):sQ A s (.ref a) (.ref b) k:=by
 obtain⟨us,p1,m5,_⟩:=I.list q1;obtain⟨zs,p2,m6,_⟩:=I.list q2;by_cases hl:x.length=y.length
 .obtain⟨e',h1,h2,h3⟩:=qX v1 v2 p1 p2 ih hl e;have hs:us.toArray.size=zs.toArray.size:=by simpa using h3
  have rc:=RcAt.lists m5.isList m6.isList hs hu h1;have ne:=RcNeAt.lists m5.isList m6.isList hs hu h1;rw[h2]at rc ne;exact⟨.of_refs hab rc,rc,ne⟩
 .have hk:=pW hl e;subst hk;have hs:(us.toArray.size != zs.toArray.size)=true:=by
   have l1:=v1.length;have l2:=v2.length;have l3:=p1.length;have l4:=p2.length;simp only[uB,Zv,ne_eq];omega
  exact⟨.of_refs hab (.lists_lengths m5.isList m6.isList hs hu),.lists_lengths m5.isList m6.isList hs hu,.lists_lengths m5.isList m6.isList hs hu⟩
def zA(I:Inv X pins σ H s)(hr:HR X.K H r h){n:Nat}{a:Addr}{ds:List D}(e:Ev.bg h n=some ds)(ha:r[n]?=some a):∃us:List Value,PlainL s.heap a us.toArray:=by
 obtain⟨a',vs,e1,e2,e3⟩:=hr.read e;rw[ha]at e1;cases e1;obtain⟨us,_,pl,_⟩:=I.list e2;exact⟨us,pl⟩
def zB(I:Inv X pins σ H s)(hr:HR X.K H r h):∀(n:Nat) (a b:D) (v:V) (k:Bool),RV X.K H r a v->RV X.K H r b v->Ev.gH h n a b=some k->k=true:=by
 intro n;induction n with
 |zero=>intro a b v k _ _ e;cases e
 |succ n ih=>
  have items:∀(x y:List D) (vs:List V) (k:Bool),az X.K H r x vs->az X.K H r y vs->Ev.cg (Ev.gH h n) x y=some k->k=true:=by
   intro x;induction x with
   |nil=>
    intro y vs k h1 h2 e;simp only[az]at h1;subst h1;cases y with
    |nil=>cases e;rfl
    |cons _ _=>simp only[az]at h2;obtain⟨_,_,h2,_⟩:=h2;cases h2
   |cons d x Te=>
    intro y vs k h1 h2 e;simp only[az]at h1;obtain⟨v,w,rfl,h3,h4⟩:=h1;cases y with
    |nil=>simp only[az]at h2;cases h2
    |cons d' y=>
     simp only[az]at h2;obtain⟨v',w',e2,h5,h6⟩:=h2;cases e2;simp only[Ev.cg,Xr,Sw]at e;obtain⟨p,e1,q,e2,e3⟩:=e;cases e3;rw[ih d d' v p h3 h5 e1,Te y w q h4 h6 e2];rfl
  have lt:∀(a:Addr) (vs:List V) (i:Nat) (ds:List D),cV X.K H a vs->r[i]?=some a->Ev.bg h i=some ds->False:=λa vs i ds h1 h2 h3=>by
   obtain⟨us,pl⟩:=zA I hr h3 h2;obtain⟨zs,_,pt,_⟩:=I.tuple h1;exact ne_of_list_tuple pl.isList pt rfl
  intro a b v k h1 h2 e;have s1:=h1.shape;have s2:=h2.shape;clear h1 h2;cases a with
  |bA=>simp only[cB]at s1;cases b with
   |bA=>cases e;rfl
   |ref m=>obtain⟨p,z,_⟩:=s2;rw[s1]at z;cases z
   |tup y=>obtain⟨p,_,z,_⟩:=s2;rw[s1]at z;cases z
   |_=>simp only[cB]at s2;rw[s1]at s2;cases s2
  |bl x=>simp only[cB]at s1;cases b with
   |bl y=>simp only[cB]at s2;rw[s1]at s2;cases s2;cases e;simp
   |ref m=>obtain⟨p,z,_⟩:=s2;rw[s1]at z;cases z
   |tup y=>obtain⟨p,_,z,_⟩:=s2;rw[s1]at z;cases z
   |_=>simp only[cB]at s2;rw[s1]at s2;cases s2
  |int x=>simp only[cB]at s1;cases b with
   |int y=>simp only[cB]at s2;rw[s1]at s2;cases s2;cases e;simp
   |ref m=>obtain⟨p,z,_⟩:=s2;rw[s1]at z;cases z
   |tup y=>obtain⟨p,_,z,_⟩:=s2;rw[s1]at z;cases z
   |_=>simp only[cB]at s2;rw[s1]at s2;cases s2
  |str x=>simp only[cB]at s1;cases b with
   |str y=>
    simp only[cB]at s2;rw[s1]at s2;have:x=y:=pR (by injection s2);subst this;cases e;simp
   |ref m=>obtain⟨p,z,_⟩:=s2;rw[s1]at z;cases z
   |tup y=>obtain⟨p,_,z,_⟩:=s2;rw[s1]at z;cases z
   |_=>simp only[cB]at s2;rw[s1]at s2;cases s2
  |tup x=>
   obtain⟨p,vs,rfl,z,w⟩:=s1;cases b with
   |tup y=>
    obtain⟨p',vs',z',z2,w2⟩:=s2;cases z';rw[I.kU z2 z]at w2;exact items x y vs k w w2 e
   |ref m=>
    obtain⟨p',z',z2⟩:=s2;cases z';obtain⟨ds,e1,_⟩:=Option.map_eq_some_iff.mp e;exact(lt _ _ _ _ z z2 e1).elim
   |_=>cases s2
  |ref i=>
   obtain⟨p,rfl,z⟩:=s1;cases b with
   |ref m=>
    obtain⟨p',z',z2⟩:=s2;cases z';replace e:Ev.jk h (Ev.gH h n) i m=some k:=e;unfold Ev.jk at e;split at e
    .simp only[Dp]at e;obtain⟨_,_,e⟩:=e;exact e.symm
    .rename_i hne;split at e
     .rename_i x y g1 g2;exact absurd (hr.inj _ _ _ _ _ z z2 g1 g2) hne
     .rename_i x y g1 g2;obtain⟨p1,q1,DS,q2,_⟩:=hr.ob _ _ g1;obtain⟨p2,q3,DT,q4,_⟩:=hr.ob _ _ g2;rw[z]at q1;cases q1;rw[z2]at q3;cases q3;exact absurd rfl (mE I q2 q4)
     .rename_i x y g1 g2;obtain⟨p1,q1,DS,q2,_⟩:=hr.ob _ _ g1;obtain⟨p2,q3,DT,q4,_⟩:=hr.ob _ _ g2;rw[z]at q1;cases q1;rw[z2]at q3;cases q3;exact absurd rfl (mE I q4 q2)
     .cases e
   |tup y=>
    obtain⟨p',vs',z',z2,w2⟩:=s2;cases z';obtain⟨ds,e1,_⟩:=Option.map_eq_some_iff.mp e;exact(lt _ _ _ _ z2 z e1).elim
   |_=>cases s2
def E9{n:Nat}{A:Around}{x y:List D}{a b:Addr}{vs ws:List V}{k:Bool}(I:Inv X pins σ H s)(hr:HR X.K H r h)(hu:A.units<cLine)(q1:cV X.K H a vs)(q2:cV X.K H b ws)(v1:az X.K H r x vs)(v2:az X.K H r y ws)
  (ih:∀a b va vb u w k,RV X.K H r a va->RV X.K H r b vb->RelV va u->RelV vb w->Ev.gH h n a b=some k->sQ A.in1 s u w k) (e:Ev.cg (Ev.gH h n) x y=some k):sQ A s (.ref a) (.ref b) k:=by
 obtain⟨us,p1,m5,_⟩:=I.tuple q1;obtain⟨zs,p2,m6,_⟩:=I.tuple q2;have l1:=v1.length;have l2:=v2.length;have l3:=p1.length;have l4:=p2.length;have both:RcAt A s (.ref a) (.ref b) k/\RcNeAt A s (.ref a) (.ref b) (!k):=by
  by_cases hl:x.length=y.length
  .obtain⟨e',h1,h2,h3⟩:=qX v1 v2 p1 p2 ih hl e;have rc:=RcAt.tuples m5 m6 hu h1;have ne:=RcNeAt.tuples m5 m6 hu h1;have hs:us.toArray.size=zs.toArray.size:=by simpa using h3
   have hb:((List.range (min us.toArray.size zs.toArray.size)).all e'&&us.toArray.size==zs.toArray.size)=k:=by
    rw[<-hs,Nat.min_self,h2];simp
   rw[hb]at rc ne;exact⟨rc,ne⟩
  .have hk:=pW hl e;subst hk;have hcl:∃e':Nat->Bool,∀j (h1:j<us.toArray.size) (h2:j<zs.toArray.size),EqAt A.in1 s us.toArray[j] zs.toArray[j] (e' j):=by
    obtain⟨e',h1⟩:=vA e;refine⟨e',λj g1 g2=>?_⟩;have Tc:j<us.length:=by simpa using g1
    have Td:j<zs.length:=by simpa using g2
    have ha:x[j]?=some x[j]:=T7 (by omega);have hb:y[j]?=some y[j]:=T7 (by omega);obtain⟨va,a1,a2⟩:=v1.get ha;obtain⟨vb,b1,b2⟩:=v2.get hb;obtain⟨u,a3,a4⟩:=p1.get a1;obtain⟨w,b3,b4⟩:=p2.get b1;have eu:us.toArray[j]=u:=by
     have:=(List.getElem?_eq_some_iff.mp a3).2;simpa using this
    have ew:zs.toArray[j]=w:=by
     have:=(List.getElem?_eq_some_iff.mp b3).2;simpa using this
    rw[eu,ew];exact(ih _ _ _ _ _ _ _ a2 b2 a4 b4 (h1 j _ _ ha hb)).eq
   obtain⟨e',h1⟩:=hcl;have rc:=RcAt.tuples m5 m6 hu h1;have ne:=RcNeAt.tuples m5 m6 hu h1;have hs:(us.toArray.size==zs.toArray.size)=false:=by
    simp only[uB,beq_eq_false_iff_ne,ne_eq];omega
   rw[hs,Bool.and_false]at rc ne;exact⟨rc,ne⟩
 by_cases hab:a=b
 .subst hab;rw[I.kU q2 q1]at v2;have hk:k=true:=zB I hr (n+1) (.tup x) (.tup y) (.ref a) k ⟨a,vs,rfl,q1,v1⟩ ⟨a,vs,rfl,q1,v2⟩ e;subst hk;exact⟨.same _,both.1,both.2⟩
 .exact⟨.of_refs hab both.1,both.1,both.2⟩
end
section
variable{X:Cx}{pins:List (Addr×Obj)}{σ:L2.St}{H:Hp}{s:Shared}{r:List Addr}{h:Hh}
def DU(I:Inv X pins σ H s)(hr:HR X.K H r h):∀(n:Nat) (A:Around) (a b:D) (va vb:V) (u w:Value) (k:Bool),A.units+n<cLine->RV X.K H r a va->RV X.K H r b vb->RelV va u->RelV vb w->Ev.gH h n a b=some k->sQ A s u w k:=by
 intro n;induction n with
 |zero=>intro A a b va vb u w k _ _ _ _ _ e;cases e
 |succ n ih=>
  intro A a b va vb u w k hu h1 h2 r1 r2 e;have bI:A.units<cLine:=by omega
  have ih':∀a b va vb u w k,RV X.K H r a va->RV X.K H r b vb->RelV va u->RelV vb w->Ev.gH h n a b=some k->sQ A.in1 s u w k:=λa b va vb u w k=>ih A.in1 a b va vb u w k (by show A.units+1+n<cLine;omega);have s1:=h1.shape;have s2:=h2.shape;have lst:∀{i:Nat} {v:V} {u:Value} {ds:List D},cB X.K H r (.ref i) v->RelV v u->Ev.bg h i=some ds->∃p us,u=.ref p/\PlainL s.heap p (List.toArray us):=λ{i v u ds} hv ru el=>by
   obtain⟨p,rfl,z⟩:=hv;cases ru;obtain⟨us,pl⟩:=zA I hr el z;exact⟨p,us,rfl,pl⟩
  have tup:∀{ds:List D} {v:V} {u:Value},cB X.K H r (.tup ds) v->RelV v u->∃p us,u=.ref p/\s.heap.IsTuple p (List.toArray us):=λ{ds v u} hv ru=>by
   obtain⟨p,vs,rfl,z,_⟩:=hv;cases ru;obtain⟨us,_,pt,_⟩:=I.tuple z;exact⟨p,us,rfl,pt⟩
  cases a with
  |bA=>
   simp only[cB]at s1;subst s1;cases r1;cases b with
   |bA=>simp only[cB]at s2;subst s2;cases r2;cases e;exact⟨.same _,.none_none,.none_none⟩
   |bl y=>simp only[cB]at s2;subst s2;cases r2;cases e;exact⟨.none_bool _,.none_bool _,.none_bool _⟩
   |int y=>simp only[cB]at s2;subst s2;obtain⟨t,rfl⟩:=r2;cases e;exact⟨.none_int _ _,.none_int _ _,.none_int _ _⟩
   |str y=>simp only[cB]at s2;subst s2;obtain⟨t,rfl⟩:=r2;cases e;exact⟨.none_str _ _,.none_str _ _,.none_str _ _⟩
   |tup y=>obtain⟨p,us,rfl,pt⟩:=tup s2 r2;cases e;exact⟨.none_tuple pt bI,.none_tuple pt bI,.none_tuple pt bI⟩
   |ref m=>
    obtain⟨ds,e1,rfl⟩:=Option.map_eq_some_iff.mp e;obtain⟨p,us,rfl,pl⟩:=lst s2 r2 e1;exact⟨.none_list pl.isList bI,.none_list pl.isList bI,.none_list pl.isList bI⟩
  |bl x=>
   simp only[cB]at s1;subst s1;cases r1;cases b with
   |bA=>simp only[cB]at s2;subst s2;cases r2;cases e;exact⟨.bool_none _,.bool_none _,.bool_none _⟩
   |bl y=>simp only[cB]at s2;subst s2;cases r2;cases e;exact⟨.bool_bool _ _,.bool_bool _ _,.bool_bool _ _⟩
   |int y=>simp only[cB]at s2;subst s2;obtain⟨t,rfl⟩:=r2;cases e;exact⟨.bool_int _ _ _,.bool_int _ _ _,.bool_int _ _ _⟩
   |str y=>simp only[cB]at s2;subst s2;obtain⟨t,rfl⟩:=r2;cases e;exact⟨.bool_str _ _ _,.bool_str _ _ _,.bool_str _ _ _⟩
   |tup y=>obtain⟨p,us,rfl,pt⟩:=tup s2 r2;cases e;exact⟨.bool_tuple _ pt bI,.bool_tuple _ pt bI,.bool_tuple _ pt bI⟩
   |ref m=>
    obtain⟨ds,e1,rfl⟩:=Option.map_eq_some_iff.mp e;obtain⟨p,us,rfl,pl⟩:=lst s2 r2 e1;exact⟨.bool_list _ pl.isList bI,.bool_list _ pl.isList bI,.bool_list _ pl.isList bI⟩
  |int x=>
   simp only[cB]at s1;subst s1;obtain⟨t0,rfl⟩:=r1;cases b with
   |bA=>simp only[cB]at s2;subst s2;cases r2;cases e;exact⟨.int_none _ _,.int_none _ _,.int_none _ _⟩
   |bl y=>simp only[cB]at s2;subst s2;cases r2;cases e;exact⟨.int_bool _ _ _,.int_bool _ _ _,.int_bool _ _ _⟩
   |int y=>simp only[cB]at s2;subst s2;obtain⟨t,rfl⟩:=r2;cases e;exact⟨.int_int _ _ _ _,.int_int _ _ _ _,.int_int _ _ _ _⟩
   |str y=>simp only[cB]at s2;subst s2;obtain⟨t,rfl⟩:=r2;cases e;exact⟨.int_str _ _ _ _,.int_str _ _ _ _,.int_str _ _ _ _⟩
   |tup y=>obtain⟨p,us,rfl,pt⟩:=tup s2 r2;cases e;exact⟨.int_tuple _ _ pt bI,.int_tuple _ _ pt bI,.int_tuple _ _ pt bI⟩
   |ref m=>
    obtain⟨ds,e1,rfl⟩:=Option.map_eq_some_iff.mp e;obtain⟨p,us,rfl,pl⟩:=lst s2 r2 e1;exact⟨.int_list _ _ pl.isList bI,.int_list _ _ pl.isList bI,.int_list _ _ pl.isList bI⟩
  |str x=>
   simp only[cB]at s1;subst s1;obtain⟨t0,rfl⟩:=r1;cases b with
   |bA=>simp only[cB]at s2;subst s2;cases r2;cases e;exact⟨.str_none _ _,.str_none _ _,.str_none _ _⟩
   |bl y=>simp only[cB]at s2;subst s2;cases r2;cases e;exact⟨.str_bool _ _ _,.str_bool _ _ _,.str_bool _ _ _⟩
   |int y=>simp only[cB]at s2;subst s2;obtain⟨t,rfl⟩:=r2;cases e;exact⟨.str_int _ _ _ _,.str_int _ _ _ _,.str_int _ _ _ _⟩
   |str y=>
    simp only[cB]at s2;subst s2;obtain⟨t,rfl⟩:=r2;cases e;rw[<-E8];exact⟨.str_str _ _ _ _,.str_str _ _ _ _,.str_str _ _ _ _⟩
   |tup y=>obtain⟨p,us,rfl,pt⟩:=tup s2 r2;cases e;exact⟨.str_tuple _ _ pt bI,.str_tuple _ _ pt bI,.str_tuple _ _ pt bI⟩
   |ref m=>
    obtain⟨ds,e1,rfl⟩:=Option.map_eq_some_iff.mp e;obtain⟨p,us,rfl,pl⟩:=lst s2 r2 e1;exact⟨.str_list _ _ pl.isList bI,.str_list _ _ pl.isList bI,.str_list _ _ pl.isList bI⟩
  |tup x=>
   cases b with
   |tup y=>
    obtain⟨p,vs,rfl,z,w1⟩:=s1;obtain⟨p',vs',rfl,z',w2⟩:=s2;cases r1;cases r2;exact E9 I hr bI z z' w1 w2 ih' e
   |bA=>obtain⟨p,us,rfl,pt⟩:=tup s1 r1;simp only[cB]at s2;subst s2;cases r2;cases e;exact⟨.tuple_none pt bI,.tuple_none pt bI,.tuple_none pt bI⟩
   |bl y=>obtain⟨p,us,rfl,pt⟩:=tup s1 r1;simp only[cB]at s2;subst s2;cases r2;cases e;exact⟨.tuple_bool _ pt bI,.tuple_bool _ pt bI,.tuple_bool _ pt bI⟩
   |int y=>obtain⟨p,us,rfl,pt⟩:=tup s1 r1;simp only[cB]at s2;subst s2;obtain⟨t,rfl⟩:=r2;cases e;exact⟨.tuple_int _ _ pt bI,.tuple_int _ _ pt bI,.tuple_int _ _ pt bI⟩
   |str y=>obtain⟨p,us,rfl,pt⟩:=tup s1 r1;simp only[cB]at s2;subst s2;obtain⟨t,rfl⟩:=r2;cases e;exact⟨.tuple_str _ _ pt bI,.tuple_str _ _ pt bI,.tuple_str _ _ pt bI⟩
   |ref m=>
    obtain⟨p,us,rfl,pt⟩:=tup s1 r1;obtain⟨ds,e1,rfl⟩:=Option.map_eq_some_iff.mp e;obtain⟨p',us',rfl,pl⟩:=lst s2 r2 e1;exact⟨.tuple_list pt pl.isList bI,.tuple_list pt pl.isList bI,.tuple_list pt pl.isList bI⟩
  |ref i=>
   cases b with
   |ref m=>
    replace e:Ev.jk h (Ev.gH h n) i m=some k:=e;unfold Ev.jk at e;split at e
    .rename_i Tf;subst Tf;simp only[Dp]at e;obtain⟨ds,e1,rfl⟩:=e;obtain⟨p,us,rfl,pl⟩:=lst s1 r1 e1;obtain⟨p0,rfl,z⟩:=s1;obtain⟨p1,rfl,z'⟩:=s2;rw[z]at z';cases z';cases r1;cases r2;have q:(List.range (List.toArray us).size).all (λ_=>true)=true:=by simp
     have rc:=RcAt.lists (A:=A) (e:=λ_=>true) pl.isList pl.isList rfl bI λj _ _=>EqAt.same _;have ne:=RcNeAt.lists (A:=A) (e:=λ_=>true) pl.isList pl.isList rfl bI λj _ _=>EqAt.same _;rw[q]at rc ne;exact⟨.same _,rc,ne⟩
    .rename_i hne;obtain⟨p0,rfl,z⟩:=s1;obtain⟨p1,rfl,z'⟩:=s2;cases r1;cases r2;split at e
     .rename_i x y g1 g2;obtain⟨q0,q1,DS,q2,q3⟩:=hr.ob _ _ g1;obtain⟨q4,q5,DT,q6,q7⟩:=hr.ob _ _ g2;rw[z]at q1;cases q1;rw[z']at q5;cases q5;exact nu I bI (.of q2) (.of q6) q3 q7 (λw=>hne (hr.inj _ _ _ _ _ z (by rw[w];exact z') g1 g2)) ih' e
     .rename_i x y g1 g2;obtain⟨q0,q1,DS,q2,q3⟩:=hr.ob _ _ g1;obtain⟨q4,q5,DT,q6,q7⟩:=hr.ob _ _ g2;rw[z]at q1;cases q1;rw[z']at q5;cases q5;exact nu I bI (DV q2) (.of q6) q3 q7 (mE I q2 q6) ih' e
     .rename_i x y g1 g2;obtain⟨q0,q1,DS,q2,q3⟩:=hr.ob _ _ g1;obtain⟨q4,q5,DT,q6,q7⟩:=hr.ob _ _ g2;rw[z]at q1;cases q1;rw[z']at q5;cases q5;exact nu I bI (.of q2) (DV q6) q3 q7 (mE I q6 q2).symm ih' e
     .cases e
   |bA=>obtain⟨ds,e1,rfl⟩:=Option.map_eq_some_iff.mp e;obtain⟨p,us,rfl,pl⟩:=lst s1 r1 e1;simp only[cB]at s2;subst s2;cases r2;exact⟨.list_none pl.isList bI,.list_none pl.isList bI,.list_none pl.isList bI⟩
   |bl y=>obtain⟨ds,e1,rfl⟩:=Option.map_eq_some_iff.mp e;obtain⟨p,us,rfl,pl⟩:=lst s1 r1 e1;simp only[cB]at s2;subst s2;cases r2;exact⟨.list_bool _ pl.isList bI,.list_bool _ pl.isList bI,.list_bool _ pl.isList bI⟩
   |int y=>obtain⟨ds,e1,rfl⟩:=Option.map_eq_some_iff.mp e;obtain⟨p,us,rfl,pl⟩:=lst s1 r1 e1;simp only[cB]at s2;subst s2;obtain⟨t,rfl⟩:=r2;exact⟨.list_int _ _ pl.isList bI,.list_int _ _ pl.isList bI,.list_int _ _ pl.isList bI⟩
   |str y=>obtain⟨ds,e1,rfl⟩:=Option.map_eq_some_iff.mp e;obtain⟨p,us,rfl,pl⟩:=lst s1 r1 e1;simp only[cB]at s2;subst s2;obtain⟨t,rfl⟩:=r2;exact⟨.list_str _ _ pl.isList bI,.list_str _ _ pl.isList bI,.list_str _ _ pl.isList bI⟩
   |tup y=>
    obtain⟨ds,e1,rfl⟩:=Option.map_eq_some_iff.mp e;obtain⟨p,us,rfl,pl⟩:=lst s1 r1 e1;obtain⟨p',us',rfl,pt⟩:=tup s2 r2;exact⟨.list_tuple pl.isList pt bI,.list_tuple pl.isList pt bI,.list_tuple pl.isList pt bI⟩
where
 DV {K:PySem.W.Frag} {H:Hp} {a:Addr} {vs:List V} (q:xm K H a vs):eH K H a vs:=by
  rcases q with ⟨ob,e2⟩|e2
  .exact .inl (.inr ⟨ob,e2⟩)
  .exact .inr e2
end
theorem Good.units{G:Tb}{n:Nat}{sc:Scope}{N:List Str}{df:Bool}{X:Cx}(g:Good G n sc N df X):X.A.units+1+Ev.deep<cLine:=by
 have:=g.room.un;have:Ev.deep=20:=rfl;omega
section
variable{G:Tb}{n:Nat}{sc:Scope}{N:List Str}{df:Bool}{X:Cx}
def vC{pins:List (Addr×Obj)}{σ:L2.St}{H:Hp}{s:Shared}{Q:VK}{r:List Addr}{h:Hh}{k:Bool}(I:Inv X pins σ H s)(hr:HR X.K H r h)(q:Res X.K r H h (.bl k) Q):EP X pins σ Q (.bool k) s:=
 ⟨.bl k,H,I,rfl,q.here rfl hr⟩
def DW(g:Good G n sc N df X):dB X (compareOp .Eq) (iJ X.K (ir .eq)):=by
 intro pins s σ H x y v u Q I rx ry q;obtain⟨r,h,a,b,d,h',hr,v1,v2,e,q⟩:=q;obtain⟨k,e1,rfl,rfl⟩:=mD e;have:=g.units;exact(DU I hr Ev.deep X.A a b x y v u k (by omega) v1 v2 rx ry e1).rc _ _ _ _ (vC I hr q)
def Nf(g:Good G n sc N df X):dB X (compareOp .NotEq) (iJ X.K (ir .ne)):=by
 intro pins s σ H x y v u Q I rx ry q;obtain⟨r,h,a,b,d,h',hr,v1,v2,e,q⟩:=q;obtain⟨k,e1,rfl,rfl⟩:=mD e;have:=g.units
 delta Ev.cop at e1;dsimp only at e1;simp only[Dp]at e1
 obtain⟨k',e2,rfl⟩:=e1;exact(DU I hr Ev.deep X.A a b x y v u k' (by omega) v1 v2 rx ry e2).ne _ _ _ _ (vC I hr q)
def zC{op:CmpOp}{o:aZ}{p:Int->Int->Bool}(ho:dB X (compareOp op) (sj λi j=>.bl (p i j)))(hc:∀a b h k,Ev.cop o a b h=some k->∃i j,a=.int i/\b=.int j/\k=p i j):dB X (compareOp op) (iJ X.K (ir o)):=by
 intro pins s σ H x y v u Q I rx ry q;obtain⟨r,h,a,b,d,h',hr,v1,v2,e,q⟩:=q;obtain⟨k,e1,rfl,rfl⟩:=mD e;obtain⟨i,j,rfl,rfl,rfl⟩:=hc _ _ _ _ e1;exact ho pins s σ H x y v u Q I rx ry ⟨i,j,v1,v2,q.here rfl hr⟩
def Ng:dB X (compareOp .Lt) (iJ X.K (ir .lt)):=zC MP λa b h k e=>by
 cases a<;>cases b <;> (delta Ev.cop at e;dsimp only at e)<;>first | (cases e;exact⟨_,_,rfl,rfl,rfl⟩)|cases e
def DX:dB X (compareOp .Gt) (iJ X.K (ir .gt)):=zC MQ λa b h k e=>by
 cases a<;>cases b <;> (delta Ev.cop at e;dsimp only at e)<;>first | (cases e;exact⟨_,_,rfl,rfl,rfl⟩)|cases e
end
section
variable{n:Nat}{X:Cx}
def pX(a b:List Nat):aK a++aK b=aK (a++b):=by
 show Str.append (aK a) (aK b)=_;simp[Str.append,aK]
def Fb{pins:List (Addr×Obj)}{σ:L2.St}{H:Hp}{s:Shared}{Q:Value->Shared->Prop}{E:Value->Shared->Prop}(I:Inv X pins σ H s){a b:Addr}{ys:List V}(h1:cV X.K H a [])(h2:cV X.K H b ys)(q:Q (.ref b) s):wpAny (model X.prog X.w) X.A (binaryOp .Add (.ref a) (.ref b)) Q E s:=by
 obtain⟨us,p1,Tg,_⟩:=I.tuple h1;obtain⟨zs,p2,Ti,_⟩:=I.tuple h2;cases p1;obtain⟨⟨cls,dd,data,sl⟩,ho,hc,n,hd⟩:=id Tg;obtain⟨⟨Q2,dd2,data2,sl2⟩,ho2,hc2,n2,hd2⟩:=id Ti;simp only at hc hd hc2 hd2;subst hc hd hc2 hd2;exact Y7 ⟨_,ho,rfl⟩ ⟨_,ho2,rfl⟩ Yt Y0 XT XN (XC _ _)
  (tuple_addW0 a b _ _ n n2 dd dd2 sl sl2 (by simp)) ⟨ho,ho2,q⟩
def IX:dB X (binaryOp .Add) (iJ X.K (Ev.bP .add)):=by
 intro pins s σ H x y v u Q I rx ry q;obtain⟨r,h,a,b,d,h',hr,v1,v2,e,q⟩:=q;have s1:=v1.shape;have s2:=v2.shape;cases a with
 |int i=>cases b with
  |int j=>cases e;exact HA pins s σ H x y v u Q I rx ry ⟨i,j,s1,s2,q.here rfl hr⟩
  |_=>cases e
 |str i=>cases b with
  |str j=>
   delta Ev.bP at e;dsimp only at e
   split at e
   .rename_i hz;cases e;rw[iI]at hz;refine wO pins s σ H x y v u Q I rx ry ⟨aK i,aK j,s1,s2,by rw[cG,cG];exact hz,?_⟩;rw[pX];exact q.here ⟨rfl,by rw[VX];exact hz⟩ hr
   .cases e
  |_=>cases e
 |tup i=>cases b with
  |tup j=>
   delta Ev.bP at e;dsimp only at e
   split at e
   .rename_i hz;cases e;rw[iI]at hz;obtain⟨pa,vs,rfl,z1,w1⟩:=s1;obtain⟨pb,ws,rfl,z2,w2⟩:=s2;have l1:=w1.length;have l2:=w2.length;cases vs with
    |nil=>
     cases rx;cases ry;refine Fb I z1 z2 ⟨.ref pb,H,I,rfl,q.here ?_ hr⟩;have:i=[]:=by cases i with|nil=>rfl|cons _ _=>simp at l1
     subst this;exact⟨pb,ws,rfl,z2,by simpa using w2⟩
    |cons v0 vs=>
     refine EM pins s σ H _ _ v u Q I rx ry ⟨pa,pb,v0 :: vs,ws,rfl,rfl,z1,z2,by simp,by rw[l1,l2];exact hz,λhw=>?_,λhw p hp=>?_⟩
     .subst hw;have:j=[]:=by cases j with|nil=>rfl|cons _ _=>simp at l2
      subst this;exact q.here ⟨pa,v0 :: vs,rfl,z1,by simpa using w1⟩ hr
     .exact q.tup (w1.append w2) hr hp
   .cases e
  |_=>cases e
 |ref i=>cases b with
  |ref j=>
   delta Ev.bP at e;dsimp only at e
   split at e
   .rename_i ds es e1 e2;obtain⟨pa,rfl,z1⟩:=s1;obtain⟨pb,rfl,z2⟩:=s2;cases rx;cases ry;obtain⟨p1,g1,vs,g2,g3⟩:=hr.ob _ _ e1;obtain⟨p2,k1,ws,k2,k3⟩:=hr.ob _ _ e2;rw[z1]at g1;cases g1;rw[z2]at k1;cases k1;obtain⟨hz,q2⟩:=q.lst e (g3.append k3) hr;exact HW pins s σ H (.ref pa) (.ref pb) _ _ Q I rfl rfl ⟨_,_,vs,ws,rfl,rfl,g2,k2,by rw[VX]at hz;exact hz,q2⟩
   .cases e
  |_=>cases e
 |_=>cases b<;>cases e
def IY:dB X (binaryOp .Sub) (iJ X.K (Ev.bP .sub)):=by
 intro pins s σ H x y v u Q I rx ry q;obtain⟨r,h,a,b,d,h',hr,v1,v2,e,q⟩:=q;cases a with
 |int i=>cases b with
  |int j=>cases e;exact HB pins s σ H x y v u Q I rx ry ⟨i,j,v1,v2,q.here rfl hr⟩
  |_=>cases e
 |_=>cases b<;>cases e
def Fc:dB X (binaryOp .FloorDiv) (iJ X.K (Ev.bP .fdiv)):=by
 intro pins s σ H x y v u Q I rx ry q;obtain⟨r,h,a,b,d,h',hr,v1,v2,e,q⟩:=q;cases a with
 |int i=>cases b with
  |int j=>
   delta Ev.bP at e;dsimp only at e
   split at e
   .rename_i hz;cases e;exact EF pins s σ H x y v u Q I rx ry ⟨i,j,v1,v2,hz,q.here rfl hr⟩
   .cases e
  |_=>cases e
 |_=>cases b<;>cases e
def IZ:dB X (binaryOp .Mod) (iJ X.K (Ev.bP .mod)):=by
 intro pins s σ H x y v u Q I rx ry q;obtain⟨r,h,a,b,d,h',hr,v1,v2,e,q⟩:=q;cases a with
 |int i=>cases b with
  |int j=>
   delta Ev.bP at e;dsimp only at e
   split at e
   .rename_i hz;cases e;exact HD pins s σ H x y v u Q I rx ry ⟨i,j,v1,v2,hz,q.here rfl hr⟩
   .cases e
  |_=>cases e
 |_=>cases b<;>cases e
end
section
variable{X:Cx}
def Ja(n:Nat)(i:Int):Ev.cR n i=L2.cR n i:=rfl
def Jb{α:Type}(xs:List α)(i:Int):Ev.bx xs i=L2.bx xs i:=rfl
theorem az.bx{K:PySem.W.Frag}{H:Hp}{r:List Addr}{ds:List D}{vs:List V}{i:Int}{d:D}(w:az K H r ds vs)(e:Ev.bx ds i=some d):∃v,L2.bx vs i=some v/\RV K H r d v:=by
 unfold Ev.bx at e;obtain⟨j,e1,e2⟩:=Option.bind_eq_some_iff.mp e;obtain⟨v,e3,e4⟩:=w.get e2;exact⟨v,by unfold L2.bx;rw[w.length,<-Ja,e1];exact e3,e4⟩
def Nh:vf X (iJ X.K Ir):=by
 intro value slice pins s σ H x y v u Q I rx ry q hs;obtain⟨r,h,a,b,d,h',hr,v1,v2,e,q⟩:=q;obtain⟨e,rfl⟩:=Ev.aC e;cases b with
 |int i=>
  have s2:=v2.shape;cases a with
  |tup ds=>
   obtain⟨p,vs,rfl,z,w⟩:=v1.shape;obtain⟨v',g1,g2⟩:=w.bx e;exact HN value slice pins s σ H _ y v u Q I rx ry ⟨p,vs,i,v',rfl,s2,z,g1,q.here g2 hr⟩ hs
  |str l=>
   simp only[RV]at v1;obtain⟨rfl,hl⟩:=v1;simp only[Ev.dY,Dp]at e;obtain⟨c,e1,rfl⟩:=e;exact HQ value slice pins s σ H _ y v u Q I rx ry ⟨aK l,i,c,rfl,s2,by rw[cG];exact hl,by simpa[aK,Jb]using e1,q.here ⟨rfl,by show 1<=sizeLine;decide⟩ hr⟩ hs
  |ref m=>
   simp only[Ev.dY,Sw]at e;obtain⟨ds,e1,e2⟩:=e;obtain⟨p,rfl,z⟩:=v1.shape;obtain⟨p',vs,z',q1,w⟩:=hr.read e1;rw[z]at z';cases z';obtain⟨v',g1,g2⟩:=w.bx e2;exact EO value slice pins s σ H _ y v u Q I rx ry ⟨p,vs,i,v',rfl,s2,q1,g1,q.here g2 hr⟩ hs
  |_=>cases e
 |_=>cases a<;>cases e
theorem az.cut{K:PySem.W.Frag}{H:Hp}{r:List Addr}{ds:List D}{vs:List V}(w:az K H r ds vs)(lo hi:Option Int):az K H r (Ev.cut ds lo hi) (kY vs lo hi):=by
 unfold Ev.cut kY;rw[w.length];exact(w.drop _).take _
def qY{α:Type}(xs:List α)(lo hi:Option Int)(h:Ev.aL xs.length 0 lo=0/\Ev.aL xs.length xs.length hi=xs.length):Ev.cut xs lo hi=xs:=by
 unfold Ev.cut;rw[h.1,h.2];simp
def Fd{α:Type}(xs:List α)(lo hi:Option Int):(Ev.cut xs lo hi).length<=xs.length:=by
 unfold Ev.cut;rw[WS,Xa];omega
def rD{prog:Program}{w:World}{A:Around}{E:Value->Shared->Prop}{s:Shared}{t sl:Addr}{items:Array Value}{vl vu:Value}{lo hi:Option Int}{Q:Value->Shared->Prop}(ht:IsTup s.heap t items)(hs:s.heap.IsSliceOf sl vl vu .none)(pl:IsPart vl lo)(pu:IsPart vu hi)
  (hw:HT.aL items.size 0 lo=0/\HT.aL items.size items.size hi=items.size) (h:Q (.ref t) s):wpAny (model prog w) A (getItem (.ref t) (.ref sl)) Q E s:=by
 obtain⟨os,hos,hcs,hds⟩:=id hs;have yV:s.TypeIs (.ref sl) "slice" :=⟨os,hos,hcs⟩
 unfold getItem;try with_reducible refine WO ?_
 first|refine fK (pe ?_)|skip
 refine fK (Yk ht.typeIs (by decide) ?_);refine fK (Ww (name:=Str.ofString "__getitem__") ht.typeIs Wk
  (Wx Wk ht.typeIs X6 ?_ (Yd _ _)))
 show wpAny _ _ (Builtin.Tuple.tupleItemsOf (.ref t) >>= _) _ _ s;refine fK (tupleItemsOf_ ht ?_);refine fK (Xh yV ?_);rw[GQ (by decide)];refine fK (HT.jh hs pl pu ?_);have hyes:(((HT.aL items.size 0 lo:Nat):Int)==0&&(1:Int)==1&&(HT.aL items.size items.size hi - HT.aL items.size 0 lo)==items.size)=true:=by
  rw[hw.1,hw.2];simp
 show wpAny _ _ (if (((HT.aL items.size 0 lo:Nat):Int)==0&&(1:Int)==1&&(HT.aL items.size items.size hi - HT.aL items.size 0 lo)==items.size)=true then _ else _) _ _ s;rw[GQ hyes];refine fK (m:=Builtin.Tuple.tupleIsExact (.ref t)) (fK (Xh ht.typeIs (pe ?_)));show wpAny _ _ (if ((Value.type "tuple" ==Value.type "tuple")=true)then _ else _) _ _ s;rw[GQ (by decide)];exact fK (XD (fK (pe (pe ⟨_,rfl,pe h⟩))))
def zD(lo hi:Option Int)(n:Nat):Builtin.Str.strSliceIndices lo hi 1 n=(List.range (Ev.aL n n hi - Ev.aL n 0 lo)).map (λk=>Ev.aL n 0 lo+k):=by
 have Jc:∀o:Option Int,((match o with|none=>(0:Int)|some i=>max 0 (min (if i<0 then i+(n:Int)else i) (n:Int))))=((Ev.aL n 0 o:Nat):Int):=λo=>by
  cases o with
  |none=>rfl
  |some i=>simp only[Ev.aL];split<;>omega
 have Jd:∀o:Option Int,((match o with|none=>(n:Int)|some i=>max 0 (min (if i<0 then i+(n:Int)else i) (n:Int))))=((Ev.aL n n o:Nat):Int):=λo=>by
  cases o with
  |none=>rfl
  |some i=>simp only[Ev.aL];split<;>omega
 have e:Builtin.Str.strSliceIndices lo hi 1 n=sliceRange (match lo with|none=>(0:Int)|some i=>max 0 (min (if i<0 then i+(n:Int)else i) (n:Int))) (match hi with|none=>(n:Int)|some i=>max 0 (min (if i<0 then i+(n:Int)else i) (n:Int))) 1:=by
  unfold Builtin.Str.strSliceIndices;cases lo<;>cases hi<;>simp
 rw[e,Jc,Jd,sliceRange_one]
def Je(l:List Nat)(lo hi:Option Int):((Builtin.Str.strSliceIndices lo hi 1 (aK l).length).filterMap ((aK l).cps[·]?)).toArray=(Ev.cut l lo hi).toArray:=by
 rw[cG,zD,pick_run];simp[aK,Ev.cut]
def Jf:jL X (Ie X.K):=by
 intro pins s σ H x v vl vu lo hi sl Q I rx hs pl pu q;obtain⟨r,h,a,d,h',hr,v1,e,q⟩:=q;cases a with
 |tup ds=>
  cases e;obtain⟨p,vs,rfl,z,w⟩:=v1.shape;by_cases hw:HT.aL vs.length 0 lo=0/\HT.aL vs.length vs.length hi=vs.length
  .cases rx;obtain⟨us,pv,pt,hz⟩:=I.tuple z;have hl:=pv.length;have Tj:Ev.aL ds.length 0 lo=0/\Ev.aL ds.length ds.length hi=ds.length:=by rw[<-w.length];exact hw
   refine⟨"tuple",_,PyProof.Rows.slot_tuple_getitem.lookup,pt.typeIs,?_⟩;refine rD pt hs pl pu (by rw[uB,<-hl];exact hw) ⟨.ref p,H,I,rfl,q.here ?_ hr⟩;rw[qY ds lo hi Tj];exact⟨p,vs,rfl,z,w⟩
  .exact HM pins s σ H _ v vl vu lo hi sl Q I rx hs pl pu ⟨p,vs,rfl,z,hw,λp' hp=>q.tup (w.cut lo hi) hr hp⟩
 |str l=>
  simp only[RV]at v1;obtain⟨rfl,hl⟩:=v1;obtain⟨t,rfl⟩:=rx;cases e;refine⟨"str",_,PySem.F.slot_str_getitem.lookup,YW s _ t,?_⟩;have part:∀{v:Value} {o:Option Int},IsPart v o->∃p:Option (Int×Tok),v=partValue p/\p.map (·.1)=o:=λ{v o} hp=>by
   cases hp with
   |none=>exact⟨none,rfl,rfl⟩
   |int i t=>exact⟨some (i,t),rfl,rfl⟩
  obtain⟨l1,e1,e2⟩:=part pl;obtain⟨u1,e3,e4⟩:=part pu;subst e1 e3;obtain⟨os,hos,hcs,hds⟩:=hs;refine YB (l:=l1) (u:=u1) (st:=none) ⟨os,hos,hcs,hds⟩ rfl ?_;have oq:((slicePicked (aK l) l1 u1 none).filterMap ((aK l).cps[·]?)).toArray=(Ev.cut l lo hi).toArray:=by
   show((Builtin.Str.strSliceIndices (l1.map (·.1)) (u1.map (·.1)) 1 (aK l).length).filterMap ((aK l).cps[·]?)).toArray=_;rw[e2,e4];exact Je l lo hi
  have hcl:=Fd l lo hi;unfold sliceMade;refine post_val_or_made (λ_=>?_) λt' k=>?_
  .rw[oq];show(Ev.cut l lo hi).toArray.size<=sizeLine;simp only[uB];omega
  .have hres:(if (((none:Option (Int×Tok)).map (·.1)).getD 1==1&&(slicePicked (aK l) l1 u1 none).length==(aK l).length)=true then aK l else (⟨((slicePicked (aK l) l1 u1 none).filterMap ((aK l).cps[·]?)).toArray⟩:Str))=aK (Ev.cut l lo hi):=by
    split
    .rename_i hc;rw[Lf]at hc;have hlen:(slicePicked (aK l) l1 u1 none).length=(aK l).length:=eq_of_beq hc.2;have hlen2:(slicePicked (aK l) l1 u1 none).length=Ev.aL l.length l.length hi - Ev.aL l.length 0 lo:=by
      show(Builtin.Str.strSliceIndices (l1.map (·.1)) (u1.map (·.1)) 1 (aK l).length).length=_;rw[e2,e4,zD,cG];simp
     rw[cG]at hlen;have hb:Ev.aL l.length l.length hi<=l.length:=HT.su _ _ (Et _) hi;have ha:Ev.aL l.length 0 lo<=l.length:=HT.su _ _ (WH _) lo;rw[qY l lo hi ⟨by omega,by omega⟩]
    .rw[oq];rfl
   rw[hres];exact⟨.str (aK (Ev.cut l lo hi)),H,I.tok _,⟨_,rfl⟩,q.here ⟨rfl,by omega⟩ hr⟩
 |ref m=>
  simp only[Ev.fC]at e;split at e
  .rename_i ds e1;obtain⟨p,rfl,z⟩:=v1.shape;obtain⟨p',vs,z',q1,w⟩:=hr.read e1;rw[z]at z';cases z';obtain⟨hz,q2⟩:=q.lst e (w.cut lo hi) hr;exact ER pins s σ H _ v vl vu lo hi sl Q I rx hs pl pu ⟨p,vs,rfl,q1,q2⟩
  .cases e
 |_=>cases e
theorem sR:∀(k:Nat) (l:List Nat) (acc:List Nat),(List.replicate k l.toArray).foldl (·++·) acc.toArray=(acc++Ev.rep k l).toArray
 |0,l,acc=>by simp[Ev.rep]
 |k+1,l,acc=>by
  rw[Ut,Wu];have:acc.toArray++l.toArray=(acc++l).toArray:=by simp
  rw[this,sR k l (acc++l)];simp[Ev.rep,Ut]
def mF{α:Type}(k:Nat)(l:List α):(Ev.rep k l).length=k*l.length:=by
 unfold Ev.rep;exact len_rep l k
def Fe{l:List Nat}{k:Int}(h:0<=k):Txt.mul (aK l) k=aK (Ev.rep k.toNat l):=by
 unfold Txt.mul;by_cases h1:k<1
 .have:k=0:=by omega
  subst this;rw[GQ (by decide)];rfl
 .rw[Us h1];split
  .rename_i hc;rw[WG]at hc;rcases hc with hc|hc
   .have:k=1:=by simpa using hc
    subst this;simp[Ev.rep]
   .rw[cG]at hc;have:l=[]:=by cases l with|nil=>rfl|cons _ _=>simp at hc
    subst this;simp[Ev.rep,aK]
  .show(⟨(List.replicate k.toNat (aK l).cps).foldl (·++·) #[]⟩:Str)=_;have:=sR k.toNat l [];simp only[X0]at this;exact VZ Str.mk this
def ju{a b:Nat}(h1:a<=1000)(h2:b<=1000):a*b<=sizeLine:=V0 (Nat.mul_le_mul h1 h2) (by decide)
def Ff{pins:List (Addr×Obj)}{σ:L2.St}{H:Hp}{s:Shared}{Q:VK}(I:Inv X pins σ H s){l:List Nat}{k:Int}{t u:Tok}(hk:0<=k/\k<=1000/\l.length<=1000)(q:Q (.str (aK (Ev.rep k.toNat l))) H) :
  wpAny (model X.prog X.w) X.A (binaryOp .Mult (.str (aK l) t) (.int k u)) (EP X pins σ Q) X.xe s:=by
 have hok:MulOk (aK l) k:=mulOk_of 1000 1000 (by rw[cG];exact hk.2.2) (by exact hk.2.1) (by omega) (by decide) (by decide);refine SB.mul hok λt' k'=>?_;rw[Fe hk.1];exact⟨.str _,H,I.tok _,⟨_,rfl⟩,q⟩
def nv:fillsNumberSlot (.type "tuple") "mul" = pure false:=
 PySem.fillsNumberSlot_seq (id:="tuple.__mul__") (r:=some (.builtin "tuple.__rmul__")) PySem.F.slot_tuple_mul.lookup (by decide +kernel) PySem.F.slot_tuple_rmul.lookup (by decide +kernel)
def sS:seqRepeat? (.type "tuple")=pure (some (.builtin "tuple.__mul__")):=by
 unfold seqRepeat?;rw[Zq (T:="tuple") (name:="__mul__") (id:="tuple.__mul__") PySem.F.slot_tuple_mul.lookup (by decide +kernel),Zq (T:="tuple") (name:="__rmul__") (id:="tuple.__rmul__") PySem.F.slot_tuple_rmul.lookup (by decide +kernel)];rfl
def xD(a:Int)(t:Tok)(l:Addr)(items:Array Value)(n:Nat)(dd:Option Addr)(sl:Array (Option Value)) :
  Meets (Builtin.«int.__rmul__» ⟨[.int a t,.ref l],[]⟩) (λ_ R s=>s.heap.get? l=some { cls:=.type "tuple",dict:=dd,data:=.seq items n,slots:=sl }/\R (.ok (.ret Value.notImplemented)) s):=
 .of_wp λprog w A R s h=>by obtain⟨hp,g,d,tk,os⟩:=s;obtain⟨hl,h⟩:=h;wp_walk;exact⟨_,rfl,h⟩
def xE(l:Addr)(items:Array Value)(n:Nat)(dd:Option Addr)(sl:Array (Option Value))(k:Int)(u:Tok)(h1:¬ (decide (k < -2 ^ 63) ||decide (k≥2 ^ 63))=true)(h3:(items.isEmpty ||k==1)=true) :
  Meets (Builtin.«tuple.__mul__» ⟨[.ref l,.int k u],[]⟩) (λ_ R s=>s.heap.get? l=some { cls:=.type "tuple",dict:=dd,data:=.seq items n,slots:=sl }/\R (.ok (.ret (.ref l))) s):=
 .of_wp λprog w A R s h=>by obtain⟨hp,g,d,tk,os⟩:=s;obtain⟨hl,h⟩:=h;have f1:=Yz;wp_walk using Ws hl;rw[Us h1];wp_walk using Ws hl;exact⟨_,rfl,h⟩
def xF(l:Addr)(items:Array Value)(n:Nat)(dd:Option Addr)(sl:Array (Option Value))(k:Int)(u:Tok)(h1:¬ (decide (k < -2 ^ 63) ||decide (k≥2 ^ 63))=true)(h3:¬ (items.isEmpty ||k==1)=true)(h4:(decide (k<=0) ||items.isEmpty)=true) :
  Meets (Builtin.«tuple.__mul__» ⟨[.ref l,.int k u],[]⟩) (λ_ R s=>s.heap.get? l=some { cls:=.type "tuple",dict:=dd,data:=.seq items n,slots:=sl }/\R (.ok (.ret (Value.ref s.heap.objs.size))) { s with heap:=s.heap.push { cls:=Value.type "tuple",data:=Data.seq #[]},toks:=s.toks }):=
 .of_wp λprog w A R s h=>by obtain⟨hp,g,d,tk,os⟩:=s;obtain⟨hl,h⟩:=h;have f1:=Yz;wp_walk using Ws hl;rw[Us h1];wp_walk using Ws hl;exact⟨_,rfl,h⟩
def xG(l:Addr)(items:Array Value)(n:Nat)(dd:Option Addr)(sl:Array (Option Value))(k:Int)(u:Tok)(h1:¬ (decide (k < -2 ^ 63) ||decide (k≥2 ^ 63))=true)(h3:¬ (items.isEmpty ||k==1)=true)(h4:¬ (decide (k<=0) ||items.isEmpty)=true)
  (h5:¬ (items.size*k > (2 ^ 63 - 1) / 8)) (h6:¬ Builtin.Tuple.tupleTooMany (items.size*k)=true) (hsz:(List.foldl (λx1 x2=>x1++x2) #[] (List.replicate k.toNat items)).size<=sizeLine) :
  Meets (Builtin.«tuple.__mul__» ⟨[.ref l,.int k u],[]⟩) (λ_ R s=>s.heap.get? l=some { cls:=.type "tuple",dict:=dd,data:=.seq items n,slots:=sl }/\R (.ok (.ret (Value.ref s.heap.objs.size))) { s with heap:=s.heap.push { cls:=Value.type "tuple",data:=Data.seq (List.foldl (λx1 x2=>x1++x2) #[] (List.replicate k.toNat items))},toks:=s.toks }):=
 .of_wp λprog w A R s h=>by obtain⟨hp,g,d,tk,os⟩:=s;obtain⟨hl,h⟩:=h;have f1:=Yz;wp_walk using Ws hl;rw[Us h1];wp_walk using Ws hl;rw[Us h5];wp_walk using Ws hl;exact⟨_,rfl,h⟩
theorem qZ:∀(k:Nat) (l acc:List Value),(List.replicate k l.toArray).foldl (·++·) acc.toArray=(acc++Ev.rep k l).toArray
 |0,l,acc=>by simp[Ev.rep]
 |k+1,l,acc=>by
  rw[Ut,Wu];have:acc.toArray++l.toArray=(acc++l).toArray:=by simp
  rw[this,qZ k l (acc++l)];simp[Ev.rep,Ut]
def Fi{pins:List (Addr×Obj)}{σ:L2.St}{H:Hp}{s:Shared}{Q:VK}(I:Inv X pins σ H s){p:Addr}{vs:List V}{k:Int}{u:Tok}(hk:0<=k/\k<=1000/\vs.length<=1000)(hp:cV X.K H p vs)
  (q1:Ev.rep k.toNat vs=vs->Q (.ref p) H) (q2:∀p',H p'=none->Q (.ref p') (upd H p' (.tup (Ev.rep k.toNat vs)))) :
  wpAny (model X.prog X.w) X.A (binaryOp .Mult (.ref p) (.int k u)) (EP X pins σ Q) X.xe s:=by
 obtain⟨us,pv,pt,hz⟩:=I.tuple hp;obtain⟨⟨cls,dd,data,sl⟩,ho,hc,n,hd⟩:=id pt;simp only at hc hd;subst hc hd;have hl:=pv.length;have h1:¬ (decide (k < -2 ^ 63) ||decide (k≥2 ^ 63))=true:=by simp;omega
 refine Yo (T:="tuple") (U:="int") (by decide) ⟨_,ho,rfl⟩ (λs'=>Yn s' k u) nv PySem.F.fills_int_mul YR sS PySem.F.slot_int_index.lookup
  (Xe YR (Yn s k u) PySem.F.entry_int_rmul (PySem.F.args_int_rmul_2 _ _) (xD k u p us.toArray n dd sl) ⟨ho,rfl,⟨_,ho,rfl⟩,?_⟩)
 have hrep:∀m:Nat,(Ev.rep m us).length=m*us.length:=λm=>mF m us;by_cases h3:(us.toArray.isEmpty ||k==1)=true
 .refine Xe XS ⟨_,ho,rfl⟩ XM (XA _ _) (xE p us.toArray n dd sl k u h1 h3) ⟨ho,?_⟩;refine⟨.ref p,H,I,rfl,q1 ?_⟩;rw[WG]at h3;rcases h3 with h3|h3
  .have:us=[]:=by simpa using h3
   subst this;cases pv;simp[Ev.rep]
  .have:k=1:=by simpa using h3
   subst this;simp[Ev.rep]
 .have laid:∀m:Nat,m=k.toNat->EP X pins σ Q (.ref s.heap.objs.size) { s with heap:=s.heap.push { cls:=.type "tuple",data:=.seq (Ev.rep m us).toArray }}:=λm hm=>by
   subst hm;refine⟨.ref s.heap.objs.size,_,I.laid (t':=s.toks) (o:=.tup (Ev.rep k.toNat vs)) (λb ob q=>gV _ q) (Et _) ?_,rfl,q2 _ (I.hok.fresh (Et _))⟩;exact⟨by rw[mF];exact ju (by omega) hk.2.2,_,pv.rep k.toNat,YD _ _⟩
  by_cases h4:(decide (k<=0) ||us.toArray.isEmpty)=true
  .refine Xe XS ⟨_,ho,rfl⟩ XM (XA _ _) (xF p us.toArray n dd sl k u h1 h3 h4) ⟨ho,?_⟩;have hk0:k=0:=by
    rw[WG]at h4 h3;rcases h4 with h4|h4
    .have:k<=0:=Wz h4;omega
    .exact absurd (.inl h4) h3
   have:=laid 0 (by rw[hk0];rfl);exact this
  .have hm:us.toArray.size*k.toNat<=1000000:=by
    rw[uB];exact Nat.mul_le_mul (by omega:us.length<=1000) (by omega:k.toNat<=1000)
   have hm':(us.toArray.size:Int)*k<=1000000:=by
    have e:(us.toArray.size:Int)*k=((us.toArray.size*k.toNat:Nat):Int):=by
     rw[Int.natCast_mul,Int.toNat_of_nonneg hk.1]
    rw[e];omega
   have hf:List.foldl (λx1 x2=>x1++x2) #[] (List.replicate k.toNat us.toArray)=(Ev.rep k.toNat us).toArray:=by
    have:=qZ k.toNat us [];simpa using this
   refine Xe XS ⟨_,ho,rfl⟩ XM (XA _ _) (xG p us.toArray n dd sl k u h1 h3 h4 (by omega) ?_ ?_) ⟨ho,?_⟩
   .unfold Builtin.Tuple.tupleTooMany;simp only[WN];have:(sizeLine:Int)=16777216:=by rw[WU];rfl
    omega
   .rw[hf];simp only[uB];rw[mF];exact ju (by omega) (by omega)
   .rw[hf];exact laid _ rfl
def Jg:dB X (binaryOp .Mult) (iJ X.K (Ev.bP .mul)):=by
 intro pins s σ H x y v u Q I rx ry q;obtain⟨r,h,a,b,d,h',hr,v1,v2,e,q⟩:=q;cases b with
 |int k=>
  have s2:=v2.shape;simp only[cB]at s2;subst s2;cases a with
  |int i=>
   delta Ev.bP at e;dsimp only at e
   split at e
   .rename_i hz;cases e;refine HC pins s σ H x _ v u Q I rx ry ⟨i,k,v1,rfl,?_,q.here rfl hr⟩;unfold Ev.bM at hz;simp only[WG,Lf,WN]at hz;exact hz
   .cases e
  |str l=>
   delta Ev.bP at e;dsimp only at e
   split at e
   .rename_i hz;cases e;simp only[RV]at v1;obtain⟨rfl,hl⟩:=v1;obtain⟨t,rfl⟩:=rx;obtain⟨t',rfl⟩:=ry;exact Ff I hz (q.here ⟨rfl,by rw[mF];exact ju (by omega) hz.2.2⟩ hr)
   .cases e
  |tup ds=>
   delta Ev.bP at e;dsimp only at e
   split at e
   .rename_i hz;cases e;obtain⟨p,vs,rfl,z,w⟩:=v1.shape;cases rx;obtain⟨t',rfl⟩:=ry;refine Fi I ⟨hz.1,hz.2.1,by rw[w.length];exact hz.2.2⟩ z (λTo=>q.here ⟨p,vs,rfl,z,?_⟩ hr) λp' hp=>q.tup (w.rep k.toNat) hr hp;have:=w.rep k.toNat;rw[To]at this;exact this
   .cases e
  |ref i=>
   delta Ev.bP at e;dsimp only at e
   split at e
   .rename_i ds e1;split at e
    .rename_i hz;obtain⟨p,rfl,z⟩:=v1.shape;obtain⟨p',g1,vs,g2,g3⟩:=hr.ob _ _ e1;rw[z]at g1;cases g1;obtain⟨hz2,q2⟩:=q.lst e (g3.rep k.toNat) hr;exact HX pins s σ H (.ref p) _ v u Q I rx ry ⟨p,k,vs,rfl,rfl,g2,by omega,by omega,ju (by rw[g3.length];exact hz.2.2) (by omega),q2⟩
    .cases e
   .cases e
  |_=>cases e
 |_=>cases a<;>cases e
end
section
variable{X:Cx}
theorem vD{K:PySem.W.Frag}{H:Hp}{r:List Addr}:∀{ds:List D}{is:List Int}{vs:List V}{us:List Value},Ev.intsOf ds=some is->az K H r ds vs->Vals vs us->IntsAre us is
 |[],bs,vs,us,e,w,p=>by
  cases e;simp only[az]at w;subst w;cases p;exact .nil
 |d :: ds,bs,vs,us,e,w,p=>by
  cases d with
  |int b=>
   simp only[Ev.intsOf,Dp]at e;obtain⟨bs',e1,rfl⟩:=e;simp only[az,RV]at w;obtain⟨v,w',rfl,rfl,w2⟩:=w;cases p with
   |cons p1 p2=>
    obtain⟨t,rfl⟩:=p1;exact .cons _ _ (vD e1 w2 p2)
  |_=>cases e
theorem vE{K:PySem.W.Frag}{H:Hp}{r:List Addr}:∀{ds:List D}{ss:List (List Nat)}{vs:List V}{us:List Value},Ev.strsOf ds=some ss->az K H r ds vs->Vals vs us->StrsAre us (ss.map aK)/\∀l∈ss,l.length<=sizeLine
 |[],bs,vs,us,e,w,p=>by
  cases e;simp only[az]at w;subst w;cases p;exact⟨.nil,λl h=>nomatch h⟩
 |d :: ds,bs,vs,us,e,w,p=>by
  cases d with
  |str b=>
   simp only[Ev.strsOf,Dp]at e;obtain⟨bs',e1,rfl⟩:=e;simp only[az,RV]at w;obtain⟨v,w',rfl,⟨rfl,hb⟩,w2⟩:=w;cases p with
   |cons p1 p2=>
    obtain⟨t,rfl⟩:=p1;obtain⟨g1,g2⟩:=vE e1 w2 p2;refine⟨.cons _ _ g1,λl hl=>?_⟩;rcases List.mem_cons.mp hl with z|z
    .subst z;exact hb
    .exact g2 l z
  |_=>cases e
variable{G:Tb}{n:Nat}{sc:Scope}{N:List Str}{df:Bool}
def Jh (g:Good G n sc N df X):fN X (.builtin "sum") (sF X.K (Ev.dw .sum)):=by
 intro pins s σ H xs us Q I r q;obtain⟨rr,h,as,d,h',hr,v1,e,q⟩:=q
 match as,e with
 |[.ref m],e=>
  obtain⟨e,rfl⟩:=Ev.aC e;simp only[Dp,Sw]at e;obtain⟨is,⟨ds,e1,e2⟩,rfl⟩:=e;simp only[az,RV]at v1;obtain⟨v,w,rfl,⟨p,rfl,z⟩,rfl⟩:=v1;obtain⟨u,rfl,ru⟩:=vals1 r;cases ru;obtain⟨p',vs,z',q1,w⟩:=hr.read e1;rw[z]at z';cases z';obtain⟨zs,pv,pl,_⟩:=I.list q1;have hi:=vD e2 w pv;obtain⟨ys,hys⟩:=(hi.allInts).items;have hl:s.heap.IsList p (intItems ys):=by rw[<-hys];exact pl.isList
  refine sum_intListG (I.ok.hd g.calm) hl λh'' tk t' hk=>?_;have hsum:preSum (numAt ys) ys.size=is.sum:=by
   have h1:numsOf zs.toArray.toList=is:=by rw[show zs.toArray.toList=zs from rfl];exact hi.numsOf
   rw[hys,nums_intItems]at h1;rw[preSum_eq,Wy (by simp),h1]
  rw[hsum];exact⟨.int is.sum,H,I.kept hk,⟨_,rfl⟩,q.here rfl hr⟩
def Ji:fN X (.builtin "len") (sF X.K (Ev.dw .len)):=by
 intro pins s σ H xs us Q I r q;obtain⟨rr,h,as,d,h',hr,v1,e,q⟩:=q
 match as,e with
 |[.str l],e=>
  delta Ev.dw at e;dsimp only at e
  split at e
  .cases e;simp only[az,RV]at v1;obtain⟨v,w,rfl,⟨rfl,hl⟩,rfl⟩:=v1;refine sA pins s σ H _ us Q I r ⟨_,rfl,by rw[cG];exact hl,?_⟩;rw[cG];exact q.here rfl hr
  .cases e
 |[.tup ds],e=>
  cases e;simp only[az,RV]at v1;obtain⟨v,w,rfl,⟨p,vs,rfl,z,w'⟩,rfl⟩:=v1;refine kZ pins s σ H _ us Q I r ⟨p,vs,rfl,.inr z,?_⟩;rw[w'.length];exact q.here rfl hr
 |[.ref m],e=>
  obtain⟨e,rfl⟩:=Ev.aC e;simp only[Dp]at e;obtain⟨ds,e1,rfl⟩:=e;simp only[az,RV]at v1;obtain⟨v,w,rfl,⟨p,rfl,z⟩,rfl⟩:=v1;obtain⟨p',vs,z',q1,w⟩:=hr.read e1;rw[z]at z';cases z';refine kZ pins s σ H _ us Q I r ⟨p,vs,rfl,.inl q1,?_⟩;rw[w.length];exact q.here rfl hr
def Jj (g:Good G n sc N df X):fN X (.builtin "min") (sF X.K (Ev.dw .min)):=by
 intro pins s σ H xs us Q I r q;obtain⟨rr,h,as,d,h',hr,v1,e,q⟩:=q
 match as,e with
 |[.int i,.int j],e=>
  cases e;simp only[az,RV]at v1;obtain⟨v,w,rfl,rfl,v',w',rfl,rfl,rfl⟩:=v1;exact yR g.calm pins s σ H _ us Q I r ⟨i,j,rfl,q.here rfl hr⟩
def Jk:fN X (.builtin "abs") (sF X.K (Ev.dw .abs)):=by
 intro pins s σ H xs us Q I r q;obtain⟨rr,h,as,d,h',hr,v1,e,q⟩:=q
 match as,e with
 |[.int i],e=>
  cases e;simp only[az,RV]at v1;obtain⟨v,w,rfl,rfl,rfl⟩:=v1;exact Bq pins s σ H _ us Q I r ⟨i,rfl,q.here rfl hr⟩
def zE:qN X "list.append" (sG X.K (Ev.eK .append)):=by
 intro pins s σ H x xs v us Q I rx rs q;obtain⟨r,h,a,as,d,h',hr,v1,v2,e,q⟩:=q;cases a with
 |ref m=>
  match as,e with
  |[b],e=>
   delta Ev.eK at e;dsimp only at e
   split at e
   .rename_i ds e1;split at e
    .rename_i hz;cases e;rw[iI]at hz;obtain⟨p,rfl,z⟩:=v1.shape;simp only[az]at v2;obtain⟨y,w,rfl,v3,rfl⟩:=v2;obtain⟨p',g1,vs,g2,g3⟩:=hr.ob _ _ e1;rw[z]at g1;cases g1;refine qO pins s σ H _ _ v us Q I rx rs ⟨p,vs,y,rfl,rfl,g2,by rw[g3.length];exact hz,?_⟩;have f:=Fm.write (K:=X.K) (ws:=vs++[y]) g2 (V9 z);exact q _ _ r rfl (hr.write e1 z g2 (g3.append (.cons v3 .nil))) f
    .cases e
   .cases e
  |[],e=>cases e
  |_ :: _ :: _,e=>cases e
 |_=>cases e
def zF:qN X "list.extend" (sG X.K (Ev.eK .extend)):=by
 intro pins s σ H x xs v us Q I rx rs q;obtain⟨r,h,a,as,d,h',hr,v1,v2,e,q⟩:=q;cases a with
 |ref m=>
  match as,e with
  |[.ref k],e=>
   delta Ev.eK at e;dsimp only at e
   split at e
   .rename_i ds es e1 e2;split at e
    .rename_i hz;cases e;rw[iI]at hz;obtain⟨p,rfl,z⟩:=v1.shape;simp only[az,RV]at v2;obtain⟨y,w,rfl,⟨p2,rfl,z2⟩,rfl⟩:=v2;obtain⟨p',g1,vs,g2,g3⟩:=hr.ob _ _ e1;rw[z]at g1;cases g1;obtain⟨p'',k1,ws,k2,k3⟩:=hr.ob _ _ e2;rw[z2]at k1;cases k1;refine yY pins s σ H _ _ v us Q I rx rs ⟨p,p2,vs,ws,rfl,rfl,g2,k2,by rw[g3.length,k3.length];exact hz,?_⟩;have f:=Fm.write (K:=X.K) (ws:=vs++ws) g2 (V9 z);exact q _ _ r rfl (hr.write e1 z g2 (g3.append k3)) f
    .cases e
   .cases e
 |_=>cases e
def Jl:qN X "list.pop" (sG X.K (Ev.eK .pop)):=by
 intro pins s σ H x xs v us Q I rx rs q;obtain⟨r,h,a,as,d,h',hr,v1,v2,e,q⟩:=q;cases a with
 |ref m=>
  match as,e with
  |[],e=>
   delta Ev.eK at e;dsimp only at e
   split at e
   .rename_i ds e1;split at e
    .rename_i y e2;cases e;obtain⟨p,rfl,z⟩:=v1.shape;simp only[az]at v2;subst v2;obtain⟨p',g1,vs,g2,g3⟩:=hr.ob _ _ e1;rw[z]at g1;cases g1;obtain⟨vy,g4,g5⟩:=g3.get e2;refine HV pins s σ H _ _ v us Q I rx rs ⟨p,vs,vy,rfl,rfl,g2,by rw[g3.length];exact g4,?_⟩;have f:=Fm.write (K:=X.K) (ws:=vs.dropLast) g2 (V9 z);have hd:az X.K H r ds.dropLast vs.dropLast:=by
      rw[Xk,Xk,g3.length];exact g3.take _
     exact q _ _ r (g5.mono f) (hr.write e1 z g2 hd) f
    .cases e
   .cases e
  |_ :: _,e=>cases e
 |_=>cases e
theorem ny(sep:List Nat):∀ss:List (List Nat),Str.join (aK sep) (ss.map aK)=aK (Ev.bT sep ss)
 |[]=>rfl
 |[s]=>rfl
 |s :: t :: r=>by
  have ih:=ny sep (t :: r);show aK s++aK sep++Str.join (aK sep) ((t :: r).map aK)=_;rw[ih,pX,pX];rfl
def join_eq(sep:List Nat)(ss:List (List Nat)):Txt.join (aK sep) (ss.map aK)=aK (Ev.bT sep ss):=by
 rw[<-ny];exact PySem.StrLaws.glued_eq_join _ _
def Fj:qN X "str.join" (sG X.K (Ev.eK .join)):=by
 intro pins s σ H x xs v us Q I rx rs q;obtain⟨r,h,a,as,d,h',hr,v1,v2,e,q⟩:=q;cases a with
 |str sep=>
  match as,e with
  |[.ref k],e=>
   delta Ev.eK at e;dsimp only at e
   split at e
   .rename_i ss e1;split at e
    .rename_i hz;cases e;simp only[Sw]at e1;obtain⟨ds,e1,e2⟩:=e1;simp only[RV]at v1;obtain⟨rfl,hl⟩:=v1;obtain⟨t,rfl⟩:=rx;simp only[az,RV]at v2;obtain⟨y,w,rfl,⟨p2,rfl,z2⟩,rfl⟩:=v2;obtain⟨u,rfl,ru⟩:=vals1 rs;cases ru;obtain⟨p',vs,z',q1,w⟩:=hr.read e1;rw[z2]at z';cases z';obtain⟨zs,pv,pl,_⟩:=I.list q1;obtain⟨g1,g2⟩:=vE e2 w pv;have hlen:((ss.map aK).map (·.length)).sum+(ss.map aK).length*(aK sep).length<=16777216:=by
      rw[Xw,Wa,cG];have:(λx:Str=>x.length) ∘ aK=λl:List Nat=>l.length:=funext λl=>cG l;rw[this];exact hz
     refine join_list pl.isList g1 hlen λt' k'=>?_;rw[join_eq];refine⟨.str _,H,I.tok _,⟨_,rfl⟩,q.here ⟨rfl,?_⟩ hr⟩;have hj:=PySem.StrLaws.join_length_le (aK sep) (ss.map aK);rw[ny,cG]at hj;have:sizeLine=16777216:=WU;omega
    .cases e
   .cases e
 |_=>cases e
end
section
variable{b:E}
def xH{lo:Int}{acc:Array Value}{k:Nat}(h:ItemsOf (λi v=>∃t,v=Value.int (lo+i*1) t) acc k):Vals ((List.range k).map λi=>V.int (lo+(i:Nat))) acc.toList:=by
 obtain⟨h1,h2⟩:=h;subst h1;have go:∀(l:List Value) (b:Nat),(∀j v,l[j]?=some v->∃t,v=Value.int (lo+((b+j:Nat):Int)) t)->Vals ((List.range' b l.length).map λi=>V.int (lo+(i:Nat))) l:=by
  intro l;induction l with
  |nil=>intro b _;exact .nil
  |cons v l ih=>
   intro b hv;rw[V1,List.range'_succ];refine .cons (by obtain⟨t,e⟩:=hv 0 v (by simp);subst e;exact⟨t,by simp⟩) (ih (b+1) λj w hw=>?_);have:=hv (j+1) w (by simpa using hw);rw[show b+1+j=b+(j+1)by omega];exact this
 have:=go acc.toList 0 λj v hv=>by
  obtain⟨t,e⟩:=h2 j v (by simpa using hv);exact⟨t,by simpa using e⟩
 rw[List.range_eq_range'];simpa using this
def az.ofRange{K:PySem.W.Frag}{H:Hp}{r:List Addr}(lo:Int)(k:Nat):az K H r (Ev.range lo k) ((List.range k).map λi=>V.int (lo+(i:Nat))):=by
 unfold Ev.range;generalize List.range k=l
 induction l with
 |nil=>exact .nil
 |cons i l ih=>exact .cons rfl ih
end
section
variable{X:Cx}{G:Tb}{n:Nat}{sc:Scope}{N:List Str}{df:Bool}{m:List Nat}{a b c:E}{xa:Expr}{pos:Pos}
def zG(n:Nat):Builtin.Slice.sliceAdjust none none (-1) (n:Int)=((n:Int) - 1,-1):=by
 unfold Builtin.Slice.sliceAdjust;simp
def zH(n:Nat):Builtin.Slice.slicePlaces ((n:Int) - 1) (-1) (-1)=n:=by
 unfold Builtin.Slice.slicePlaces;have h1:¬ ((-1:Int) > 0):=by omega
 simp only[h1,WE];have h2:(- -1:Int)=1:=by omega
 rw[h2];simp only[Int.ediv_one];split<;>omega
def ow{prog:Program}{w:World}{A:Around}{E:Value->Shared->Prop}{s:Shared}{sl:Addr}{vk:Value}{n:Nat}{Q:Int×Int×Nat->Shared->Prop}(hs:s.heap.IsSliceOf sl .none .none vk)(pk:IsPart vk (some (-1)))
  (h:Q ((n:Int) - 1,-1,n) s):wpAny (model prog w) A (Builtin.Slice.sliceApplied (.ref sl) (pure (n:Int))) Q E s:=by
 obtain⟨os,hos,hcs,hds⟩:=id hs;unfold Builtin.Slice.sliceApplied Builtin.Slice.sliceFields;refine fK (fK (V6 hos hds (x:=.none) rfl (fK (V6 hos hds (x:=.none) rfl (fK (V6 hos hds (x:=vk) rfl (pe ?_)))))));refine fK (HT.gG pk ?_);show wpAny _ _ (if ((-1:Int)==0)=true then _ else _) _ _ s;rw[Us (by decide)];refine fK (HT.gG .none (fK (HT.gG .none (fK (pe ?_)))));show wpAny _ _ (match Builtin.Slice.sliceAdjust none none (-1) (n:Int)with | (lo,hi)=>pure (lo,(-1:Int),Builtin.Slice.slicePlaces lo hi (-1))) _ _ s;rw[zG n];show wpAny _ _ (pure ((n:Int) - 1,(-1:Int),Builtin.Slice.slicePlaces ((n:Int) - 1) (-1) (-1))) _ _ s;rw[zH];exact pe h
def Fp(xs:Array Value):((List.range xs.size).filterMap λ(m:Nat)=>xs[((xs.size:Int) - 1+(m:Int)*(-1)).toNat]?).toArray=xs.toList.reverse.toArray:=by
 have e:(List.range xs.size).filterMap (λ(m:Nat)=>xs[((xs.size:Int) - 1+(m:Int)*(-1)).toNat]?)=((List.range xs.size).map (λk=>xs.size - 1 - k)).filterMap (xs[·]?):=by
  rw[Zh];have go:∀l:List Nat,(∀k∈l,k<xs.size)->l.filterMap (λ(m:Nat)=>xs[((xs.size:Int) - 1+(m:Int)*(-1)).toNat]?)=l.filterMap ((xs[·]?) ∘ λk=>xs.size - 1 - k):=by
   intro l hl;induction l with
   |nil=>rfl
   |cons k l ih=>
    have hk:=hl k (by simp);have e2:((xs.size:Int) - 1+(k:Int)*(-1)).toNat=xs.size - 1 - k:=by omega
    rw[WB,WB,e2,ih λk' h'=>hl k' (by simp[h'])];rfl
  exact go _ λk hk=>List.mem_range.mp hk
 rw[e,Zj,YM,Zw]
def xJ{prog:Program}{w:World}{A:Around}{E:Value->Shared->Prop}{s:Shared}{t sl:Addr}{items:Array Value}{vk:Value}{Q:Value->Shared->Prop}(ht:IsTup s.heap t items)(hs:s.heap.IsSliceOf sl .none .none vk)(pk:IsPart vk (some (-1)))
  (h:Q (.ref s.heap.objs.size) { s with heap:=s.heap.push { cls:=.type "tuple",data:=.seq items.toList.reverse.toArray }})
  (hsz:items.size<=sizeLine):wpAny (model prog w) A (getItem (.ref t) (.ref sl)) Q E s:=by
 have iU:sizeOk (.seq items.toList.reverse.toArray):=by
  show items.toList.reverse.toArray.size<=sizeLine;rw[uB,Wc,Xd];exact hsz
 obtain⟨os,hos,hcs,hds⟩:=id hs;have yV:s.TypeIs (.ref sl) "slice" :=⟨os,hos,hcs⟩
 unfold getItem;try with_reducible refine WO ?_
 first|refine fK (pe ?_)|skip
 refine fK (Yk ht.typeIs (by decide) ?_);refine fK (Ww (name:=Str.ofString "__getitem__") ht.typeIs Wk
  (Wx Wk ht.typeIs X6 ?_ (Yd _ _)))
 show wpAny _ _ (Builtin.Tuple.tupleItemsOf (.ref t) >>= _) _ _ s;refine fK (tupleItemsOf_ ht ?_);refine fK (Xh yV ?_);rw[GQ (by decide)];refine fK (ow hs pk ?_);have hno:¬ (((items.size:Int) - 1==0&&(-1:Int)==1&&items.size==items.size)=true):=by simp
 show wpAny _ _ (if ((items.size:Int) - 1==0&&(-1:Int)==1&&items.size==items.size)=true then _ else _) _ _ s;rw[Us hno,Fp];first
  |exact fK (m:=Builtin.Tuple.tupleExact _) (V5 (pe ⟨_,rfl,pe h⟩) iU)
  |exact fK (m:=Builtin.Tuple.tupleExact _) (V5 (fK (pe (pe ⟨_,rfl,pe h⟩))) iU)
  |exact fK (fK (m:=Builtin.Tuple.tupleExact _) (V5 (pe (pe ⟨_,rfl,pe h⟩)) iU))
  |exact fK (fK (m:=Builtin.Tuple.tupleExact _) (V5 (pe ⟨_,rfl,pe h⟩) iU))
def Jm(l:List Nat):((Builtin.Str.strSliceIndices none none (-1) (aK l).length).filterMap ((aK l).cps[·]?)).toArray=l.reverse.toArray:=by
 have e:Builtin.Str.strSliceIndices none none (-1) (aK l).length=sliceRange (((aK l).length:Int) - 1) (-1) (-1):=by
  unfold Builtin.Str.strSliceIndices;simp
 rw[e,PySem.W.krv_sliceRange,Zj,YM];have:=Zw (aK l).cps;rw[show(aK l).length=(aK l).cps.size from rfl,this];rfl
theorem Vals.reverse{vs:List V}{us:List Value}(w:Vals vs us):Vals vs.reverse us.reverse:=by
 induction w with
 |nil=>exact .nil
 |cons a _ ih=>rw[VW,VW];exact ih.append (.cons a .nil)
def Ni{p1 p2 p3:Pos}{j}(ha:JE G n sc N df m a xa):JE G n sc N df m (.rv a) (.Subscript xa (.Slice none none (some (.UnaryOp .USub (.Constant (.int 1) j p1) p2)) p3) pos):=λX g=>by
 intro pins s σ H Q I q;obtain⟨r,fr,h,d,h',sr,hr,e,q⟩:=q;simp only[Ev.ev]at e;obtain⟨x,h1,e1,e⟩:=Ev.ah e;refine Subscript_ (bF (ha X g pins s σ H _ I ⟨r,fr,h,x,h1,sr,hr,e1,λv H1 r1 v1 hr1 f1=>(show(λ(v:V) (H1:Hp)=>∃r1,RV X.K H1 r1 x v/\HR X.K H1 r1 h1/\Fm X.K r r1 H H1) v H1 from ⟨r1,v1,hr1,f1⟩)⟩) λv s1 ⟨x1,H1,I1,rx,r1,v1,hr1,f1⟩=>?_);refine wpAny_Slice ?_;rw[Y3];refine pe (pe ?_);have hm1:PE X (.UnaryOp .USub (.Constant (.int 1) j p1) p2) (tJ X.K m (Ev.run G.F G.w n) (.neg (.c (.int 1)))):=zd zb X g;refine bF (ve hm1 pins s1 σ H1 (λo H2=>o=some (-1)/\∃r2,RV X.K H2 r2 x x1/\HR X.K H2 r2 h1/\Fm X.K r r2 H H2) I1 ⟨r1,fr,h1,.int (-1),h1,sr.mono f1,hr1,by simp[Ev.ev],λv' H2 r2 v2 hr2 f2=>⟨-1,v2,rfl,r2,v1.mono f2,hr2,f1.trans f2⟩⟩) λvk s2 ⟨o,H2,I2,pk,q2⟩=>?_;obtain⟨rfl,r2,v2,hr2,f2⟩:=q2;have I4:Inv X pins σ H2 { s2 with heap:=s2.heap.push { cls:=.type "slice",data:=.fields #[.none,.none,vk]}}:=I2.kept (t':=s2.toks) λb ob q=>gV _ q;have hS:({ s2 with heap:=s2.heap.push { cls:=.type "slice",data:=.fields #[.none,.none,vk]}}:Shared).heap.IsSliceOf s2.heap.objs.size .none .none vk:=Heap.IsSliceOf.new s2.heap .none .none vk;have key:∃T id,typeLookup (.type T) "__getitem__" = pure (some (.builtin id))/\({ s2 with heap:=s2.heap.push { cls:=.type "slice",data:=.fields #[.none,.none,vk]}}:Shared).TypeIs v T/\wpAny (model X.prog X.w) X.A (getItem v (.ref s2.heap.objs.size)) (EP X pins σ Q) X.xe { s2 with heap:=s2.heap.push { cls:=.type "slice",data:=.fields #[.none,.none,vk]}}:=by
  revert I4 hS
  generalize ({ s2 with heap:=s2.heap.push { cls:=.type "slice",data:=.fields #[.none,.none,vk]}}:Shared)=s3
  intro I4 hS;cases x with
  |tup ds=>
   cases e;obtain⟨p,vs,rfl,z,w⟩:=v2.shape;cases rx;obtain⟨us,pv,pt,hz⟩:=I4.tuple z;refine⟨"tuple",_,PyProof.Rows.slot_tuple_getitem.lookup,pt.typeIs,?_⟩;refine xJ pt hS pk ?_ (by rw[uB,<-pv.length];exact hz);refine⟨.ref s3.heap.objs.size,_,I4.laid (t':=s3.toks) (o:=.tup vs.reverse) (λb ob q=>gV _ q) (Et _) ?_,rfl,(q.later f2).tup w.reverse hr2 (I4.hok.fresh (Et _))⟩;exact⟨by simpa using hz,_,Vals.reverse pv,⟨_,PY _ rfl,rfl,0,rfl⟩⟩
  |str z=>
   cases e;simp only[RV]at v2;obtain⟨rfl,hl⟩:=v2;obtain⟨t,rfl⟩:=rx;refine⟨"str",_,PySem.F.slot_str_getitem.lookup,YW _ _ _,?_⟩;cases pk with
   |int _ tk=>
   obtain⟨os,hos,hcs,hds⟩:=hS;refine YB (l:=none) (u:=none) (st:=some (-1,tk)) ⟨os,hos,hcs,hds⟩ rfl ?_;have oq:((slicePicked (aK z) none none (some (-1,tk))).filterMap ((aK z).cps[·]?)).toArray=z.reverse.toArray:=Jm z;have hl2:z.reverse.length<=sizeLine:=by rw[Wc];exact hl
   unfold sliceMade;refine post_val_or_made (λ_=>?_) λt' k=>?_
   .rw[oq];show z.reverse.toArray.size<=sizeLine;simpa using hl
   .have hres:(if (((some (-1,tk):Option (Int×Tok)).map (·.1)).getD 1==1&&(slicePicked (aK z) none none (some (-1,tk))).length==(aK z).length)=true then aK z else (⟨((slicePicked (aK z) none none (some (-1,tk))).filterMap ((aK z).cps[·]?)).toArray⟩:Str))=aK z.reverse:=by
     rw[Us (by simp),oq];rfl
    rw[hres];exact⟨.str (aK z.reverse),H2,I4.tok _,⟨_,rfl⟩,(q.later f2).here ⟨rfl,hl2⟩ hr2⟩
  |ref i=>
   simp only[Ev.kO]at e;split at e
   .rename_i ds e2;obtain⟨p,rfl,z⟩:=v2.shape;obtain⟨p',vs,z',q1,w⟩:=hr2.read e2;rw[z]at z';cases z';cases rx;obtain⟨us,pv,pt,hz⟩:=I4.list q1;obtain⟨hz2,q2⟩:=(q.later f2).lst e w.reverse hr2;refine⟨"list",_,slot_list_getitem.lookup,pt.isList.typeIs,?_⟩;refine YA pt.isList hS .none .none pk (by simp) ?_ (by rw[uB,<-pv.length];exact hz);rw[PySem.W.krv_pick];refine⟨.ref s3.heap.objs.size,_,I4.laid (t':=s3.toks) (o:=.lst vs.reverse) (λb ob q=>gV _ q) (Et _) ?_,rfl,q2 _ (I4.hok.fresh (Et _))⟩;exact⟨by simpa using hz,_,0,Vals.reverse pv,PY _ rfl⟩
   .cases e
  |_=>cases e
 obtain⟨T,id,hT,ht,hg⟩:=key;exact tail_any (ops:=[v,.ref s2.heap.objs.size]) ht hT hg (by with_unfolding_all rfl)
end
section
variable{G:Tb}{n:Nat}{sc:Scope}{N:List Str}{df:Bool}{m:List Nat}{a b c:E}{xa:Expr}{pos:Pos}
def BO (g:Good G n sc N df X):fN X (.type "tuple") (λxs H Q=>∃r h d x d' h',HR X.K H r h/\RV X.K H r d x/\xs=[x]/\Ev.pQ d h=.ok d' h'/\Res X.K r H h' d' Q):=by
 intro pins s σ H xs us Q I rv q;obtain⟨r,h,d,x,d',h',hr,v1,rfl,e,q⟩:=q;cases d with
 |tup ds=>
  cases e;have v2:=v1;obtain⟨p,vs,rfl,z,w⟩:=v1.shape;exact kL pins s σ H _ us Q I rv ⟨p,vs,rfl,.inr ⟨z,q.here v2 hr⟩⟩
 |ref i=>
  simp only[Ev.pQ]at e;split at e
  .rename_i ds e1;split at e
   .cases e;obtain⟨p,rfl,z⟩:=v1.shape;obtain⟨p',vs,z',q1,w⟩:=hr.read e1;rw[z]at z';cases z';exact kL pins s σ H _ us Q I rv ⟨p,vs,rfl,.inl ⟨q1,λl hl=>q.tup w hr hl⟩⟩
   .cases e
  .cases e
 |_=>cases e
def Jo {p:Pos}(ha:JE G n sc N df m a xa) (h1:("tuple" : Str)∈G.bl:=by decide +kernel) (sU:sc.names.lookup ("tuple" : Str)=some .globalImplicit:=by rfl)
  (hst:∀env:Env,starEach [xa] env=[(false,eval xa env)]:=by intro _;rfl):JE G n sc N df m (.gZ a) (.Call (.Name "tuple" p) [xa] [] pos):=λX g=>by
 refine PE.of (yU (BO g) (g.gl sU) (g.bl _ h1) (by decide +kernel) (g9 (ha X g) jJ (hst _)) (by decide) (by decide) (hst _) rfl) λs H Q q=>?_;obtain⟨r,fr,h,d,h',sr,hr,e,q⟩:=q;simp only[Ev.ev]at e;obtain⟨x,h3,e1,e⟩:=Ev.ah e;refine⟨r,fr,h,x,_,sr,hr,e1,λv H1 r1 v1 hr1 f1=>?_⟩;exact⟨r1,h3,x,v,d,h',hr1,v1,rfl,e,q.later f1⟩
def Jp{c:Nat}{st:Stmt}:JS G n sc N df m (.fU c) st:=λX g=>PS.of Bg λQ s H q=>by
 obtain⟨r,fr,h,fl,aj,h',sr,hr,e,q⟩:=q;simp only[Ev.ex]at e;cases e
def BP{X:Cx}(g:Good G n sc N df X){pins:List (Addr×Obj)}{σ:L2.St}{H:Hp}{s:Shared}{Q:VK}{lo hi:Int}{t u v:Tok}{tk:Nat}(I:Inv X pins σ H s)(h1:-(2 ^ 62)<=lo)(h2:lo<2 ^ 62)(h3:-(2 ^ 62)<=hi)(h4:hi<2 ^ 62)
  (hl:(hi - lo).toNat<=sizeLine) (q:∀l,H l=none->Q (.ref l) (upd H l (.lst ((List.range (hi - lo).toNat).map λi=>V.int (lo+(i:Nat)))))) :
  wpAny (model X.prog X.w) X.A (call (.type "list") [.ref s.heap.objs.size]) (EP X pins σ Q) X.xe { s with heap:=s.heap.push { cls:=.type "range",data:=.fields #[.int lo t,.int hi u,.int 1 v]},toks:=tk }:=by
 have I1:Inv X pins σ H { s with heap:=s.heap.push { cls:=.type "range",data:=.fields #[.int lo t,.int hi u,.int 1 v]},toks:=tk }:=I.kept λb o e=>gV _ e;have e2:Builtin.Range.rangeSize lo hi 1=(((hi - lo).toNat:Nat):Int):=by rw[rangeSize_one];split<;>omega
 refine call_list_range (n:=(hi - lo).toNat) (I.ok.hd g.calm) (IsRange.new ..) (small_one h1 h2 h3 h4) e2 (by rw[WU]at hl;exact hl) λh' tk' acc' c' hk hS' hacc=>?_;refine⟨.ref _,_,I1.laid (t':=tk') (o:=.lst ((List.range (hi - lo).toNat).map λi=>V.int (lo+(i:Nat)))) hk (Et _) ?_,rfl,q _ (I1.hok.fresh (Et _))⟩;exact⟨by simpa using hl,acc'.toList,c',xH hacc,by simpa using hS'⟩
def BQ {e1:E}{p p2 pos2:Pos}(hs:JA G n sc N df m (.cons e1 .nil) [xa]) (h1:("list" : Str)∈G.bl:=by decide +kernel) (sU:sc.names.lookup ("list" : Str)=some .globalImplicit:=by rfl)
  (hg:sc.names.lookup ("range" : Str)=some .globalImplicit:=by rfl) (hb:("range" : Str)∈G.bl:=by decide +kernel)
  (hst:∀env:Env,starEach [xa] env=[(false,eval xa env)]:=by intro _;rfl)
  (lI:∀env:Env,starEach [Expr.Call (.Name "range" p2) [xa] [] pos2] env=[(false,eval (Expr.Call (.Name "range" p2) [xa] [] pos2) env)]:=by intro _;rfl) :
  JE G n sc N df m (.gp (.fY (.cons e1 .nil))) (.Call (.Name "list" p) [.Call (.Name "range" p2) [xa] [] pos2] [] pos):=λX g=>by
 intro pins s σ H Q I q;obtain⟨r,fr,h,d,h',sr,hr,e,q⟩:=q;simp only[Ev.ev,Ev.bR]at e;replace e:=Ev.ah e;obtain⟨src,h3,e1,e⟩:=e;replace e1:=Ev.ah e1;obtain⟨ds,h4,e2,e1⟩:=e1;replace e1:=Ev.aC e1;obtain⟨e1,y0⟩:=e1;subst y0;refine WX (fz I (g.gl sU) (g.bl _ h1) (show bootBuiltins ("list" : Str)=some (.type "list")by decide +kernel) ?_ (by decide) (by decide));refine V2 ?_ (lI _) rfl;rw[lI];show wpAny _ _ (spliced ((false,eval (Expr.Call (.Name "range" p2) [xa] [] pos2) X.env) :: backTo pos [])) _ _ s;refine Xz ?_;refine Call_ (fz I (g.gl hg) (g.bl _ hb) boot_range (V2 (bF ((hs X g) pos2 pins s σ H (λvs H1=>∃r1,az X.K H1 r1 ds vs/\HR X.K H1 r1 h3/\Fm X.K r r1 H H1) I ⟨r,fr,h,ds,h3,sr,hr,e2,λvs H1 r1 v1 hr1 f1=>⟨r1,v1,hr1,f1⟩⟩) λus s1 z=>?_) (hst _) rfl));obtain⟨vs,H1,I1,rv,r1,v1,hr1,f1⟩:=z;unfold Ev.ef at e1;split at e1
 .rename_i j;split at e1
  .rename_i hj;cases e1;simp only[az,RV]at v1;obtain⟨v,w,rfl,rfl,rfl⟩:=v1;cases rv with
   |cons ra rb=>
   cases rb;obtain⟨t,rfl⟩:=ra;refine call_range_1 ?_;refine XR ?_;have hz:(j - 0).toNat<=sizeLine:=by
    unfold Ev.alloc at e;split at e
    .rename_i z;rw[<-iI];simpa[Ev.range]using z
    .cases e
   refine BP g I1 (by decide) (by decide) hj.1 hj.2 hz λl hl=>?_;have:=((q.later f1).lst e (az.ofRange 0 j.toNat) hr1).2 l hl;simpa using this
  .cases e1
 .exfalso;simp only[Ev.bV]at e2;obtain⟨d,_,_,e2⟩:=Ev.ah e2;simp only[Ev.ak]at e2;cases e2
 .cases e1
end
def mG{X:Cx}{pins:List (Addr×Obj)}{σ:L2.St}{H:Hp}{s:Shared}{h':Heap}{t':Nat}{ch:List Addr}(I:Inv X pins σ H s)(k:∀b o,b∉ch->s.heap.get? b=some o->h'.get? b=some o)(hf:∀b∈ch,fB X pins H b):Inv X pins σ H { s with heap:=h',toks:=t' }:=by
 have yJ:∀b u,H b=some u->b∉ch:=λb u e z=>by rw[(hf b z).1]at e;cases e
 refine I.step (g':=s.gens) (d':=s.drawn) (ch:=ch) (λb hb=>?_) (λb o _ _ hc e _=>k b o hc e) (λb o _ _ hc e _=>⟨o.slots,k b o hc e⟩) (λ_ _ _ _ n=>n)
  (λb o hc e=>⟨o,k b o hc e⟩) (λ_ _ e=>e) (λ_ _ _ e=>e) (λb ps e=>⟨#[],by rw[e];simp⟩) (λm hm=>?_) (λb u e=>?_) I.bare
 .obtain⟨f0,f1,f2,f3,f4,f5⟩:=hf b hb;exact⟨f3,f1,f4,f5⟩
 .obtain⟨o,es,ep,ho,r⟩:=hm;exact⟨o,es,ep,k _ o (λz=>(hf _ z).2.1 rfl) ho,r⟩
 .refine(I.hok b u e).stay (λc v hc q=>k c v ?_ q) (λ_ q=>q) λ_ _ q=>q;rcases hc with z|z
  .rw[z];exact yJ b u e
  .exact yJ c _ z
abbrev Zo(h:Heap)(z TI TO:Addr)(f0:Value)(b:Bool):Prop:=
 h.get? z=some { cls:=.type "zip",dict:=none,data:=.fields #[f0,.bool b,.bool false,.ref TI,.ref TO],slots:=#[]}
noncomputable def Zf(f0:Value):Prop:=f0=.none\/∃T:Addr,f0=rawInt (T:Int)
section
variable{prog:Program}{w:World}{A:Around}{E:Value->Shared->Prop}{s:Shared}
def vF{z TI TO:Addr}{f0:Value}{b:Bool}{Q:Bool->Shared->Prop}(hz:Zo s.heap z TI TO f0 b)(hf:Zf f0)
  (q1:Q true s) (q2:∀h',Zo h' z TI TO f0 true->Heap.SameBut z s.heap h'->Q false { s with heap:=h' }) :
  wpAny (model prog w) A (Builtin.SmallTypes.ownedTupleIsFree (.ref z)) Q E s:=by
 unfold Builtin.SmallTypes.ownedTupleIsFree;refine fK (V6 hz rfl (x:=f0) rfl ?_);rcases hf with rfl|⟨T,rfl⟩
 .exact pe q1
 .show wpAny _ _ (loadIfAlive _ >>= _) _ _ _;refine fK (show wpAny _ _ (loadIfAlive _) _ _ _ from λ_ _ _=>(?_:wpAny _ _ (if (Option.isNone (s.heap.get? ((T:Int).toNat)))=true then _ else _) Q E s));cases s.heap.get? ((T:Int).toNat)with
  |none=>exact pe q1
  |some o=>
   simp only[Option.isNone_some,V4,WE];refine fK (V6 hz rfl (x:=.bool b) rfl ?_);cases b with
   |true=>
    rw[Us (show ¬ ((Value.bool true != Value.bool true)=true)from Wv)];exact pe (q2 _ hz (Heap.SameBut.refl _ _))
   |false=>
    rw[GQ (show(Value.bool false != Value.bool true)=true from rfl)];exact fK (WD hz (by simp) λh' a1 a2=>pe (q2 h' a1 a2))
def Nj{z TI TO T:Addr}{f0:Value}{f1:Bool}{tg:Expr}{Q:Unit->Shared->Prop}(hz:Zo s.heap z TI TO f0 f1)(hf:Zf f0)(hQ:∀h' f0,Zo h' z TI TO f0 f1->Zf f0->Heap.SameBut z s.heap h'->Q () { s with heap:=h' }) :
    wpAny (model prog w) A (letOwnedTupleGo tg (.ref z) (.ref T)) Q E s:=by
  have q0:Q () s:=hQ _ _ hz hf (Heap.SameBut.refl _ _);unfold letOwnedTupleGo;cases tg<;>first
    |exact pe q0
    | (refine fK (wpAny_load hz ?_)
       show wpAny _ _ (ite _ _ _) _ _ _;split
       . exact fK (XD (WD hz (by simp) λh' a1 a2=>hQ h' _ a1 (.inl rfl) a2))
       . exact pe q0)
end
def Fq{prog:Program}{w:World}{A:Around}{E:Value->Shared->Prop}{s:Shared}{z TI TO:Addr}{f0:Value}{f1:Bool}{Q:Value->Shared->Prop}(hz:Zo s.heap z TI TO f0 f1)(h:Q (.ref z) s):wpAny (model prog w) A (pyIter (.ref z)) Q E s:=by
 have hT:s.TypeIs (.ref z) "zip" :=⟨_,hz,rfl⟩
 refine wpAny_pyIter_slot hT F.slot_zip_iter (Wx F.slot_zip_iter hT F.entry_zip_iter ?_ (F.args_zip_iter_1 _));exact pe ⟨_,rfl,"zip",_,hT,F.slot_zip_next.lookup,h⟩
def zip_get{a b:List D}{i:Nat}{d:D}(e:(Ev.cZ a b)[i]?=some d):∃x y,a[i]?=some x/\b[i]?=some y/\d=.tup [x,y]:=by
 unfold Ev.cZ at e;rw[List.getElem?_zipWith]at e;split at e
 .rename_i x y h1 h2;cases e;exact⟨x,y,h1,h2,rfl⟩
 .cases e
noncomputable def pY:List (D×D)->Bool
 |[]=>true
 | (.str k,.str v) :: r=>decide (v.length<=1000)&&pY r
 |_=>false
theorem sV{s:List Nat}{r:D}:∀{kvs:List (D×D)},pY kvs=true->Ev.ee (.str s) kvs=some r->∃t,r=.str t/\t.length<=1000/\PySem.Spec.lookup (.str (aK s)) (tabOf kvs)=some (.str (aK t))
 |[],_,e=>by simp[Ev.ee]at e
 | (k,v) :: l,ha,e=>by
  cases k<;>cases v<;>simp only[pY,V4,Lf,WN]at ha
  rename_i k v;simp only[Ev.ee]at e;rw[show Ev.gH [] 1 (.str k) (.str s)=some (k==s)from rfl]at e;simp only[tabOf,PySem.Spec.lookup];by_cases h:k=s
  .subst h;simp at e;subst e;refine⟨v,rfl,ha.1,?_⟩;have:PySem.Spec.same (.str (aK k)) (.str (aK k))=true:=by rw[Zd];simp
   rw[this];rfl
  .have hb:(k==s)=false:=by simpa using h
   rw[hb]at e;simp only at e;obtain⟨t,h1,h2,h3⟩:=sV ha.2 e;refine⟨t,h1,h2,?_⟩;have:PySem.Spec.same (.str (aK k)) (.str (aK s))=false:=by
    rw[Zd];simp;exact λz=>h (pR z)
   rw[this];exact h3
theorem sW{y r:D}:∀{kvs:List (D×D)},pY kvs=true->Ev.ee y kvs=some r->∃s,y=.str s
 |[],_,e=>by simp[Ev.ee]at e
 | (k,v) :: l,ha,e=>by
  cases k<;>cases v<;>simp only[pY,V4,Lf,WN]at ha
  cases y with
  |str s=>exact⟨s,rfl⟩
  |ref a=>cases e
  |_=>first|exact sW ha.2 e|cases e
section
variable{G:Tb}{n:Nat}{sc:Scope}{N:List Str}{df:Bool}{m:List Nat}{a:E}{xa:Expr}{pos:Pos}
def Ft {x:Str}{kvs:List (D×D)}{p:Pos}(hm:(x,kvs)∈G.dk) (ha:JE G n sc N df m a xa) (hk:pY kvs=true:=by decide) (hg:sc.names.lookup x=some .globalImplicit:=by rfl) (hd:(x==("__debug__" : Str))=false:=by decide) (hs:pO xa:=by intro _ _;rfl) :
  JE G n sc N df m (.iO kvs a) (.Subscript (.Name x p) xa pos):=λX g=>by
 intro pins s σ H Q I q;obtain⟨r,fr,h,d,h',sr,hr,e,q⟩:=q;simp only[Ev.ev]at e;replace e:=Ev.ah e;obtain⟨y,h1,e1,e⟩:=e;replace e:=Ev.aC e;obtain⟨e,y0⟩:=e;subst y0;obtain⟨ad,hmg,htab⟩:=g.dk x kvs hm;refine Subscript_ (wL (EA (v:=.ref ad) (g.gl hg) hmg rfl hd) (ha X g) I (R:=λx' y' H2=>x'=.ref ad/\∃r1,RV X.K H2 r1 y y'/\HR X.K H2 r1 h'/\Fm X.K r r1 H H2) ?_ λv u s2 x' y' H2 I2 rx ry z=>?_)
 .refine⟨r,fr,h,y,h',sr,hr,e1,λv H1 r1 v1 hr1 f1=>⟨rfl,r1,v1,hr1,f1⟩⟩
 .obtain⟨rfl,r1,v1,hr1,f1⟩:=z;obtain rfl:v=Value.ref ad:=rx;have hy:∃sx,y=.str sx:=sW hk e;obtain⟨sx,rfl⟩:=hy;obtain⟨t,rfl,ht,hl⟩:=sV hk e;simp only[RV]at v1;obtain⟨rfl,_⟩:=v1;obtain⟨tk,rfl⟩:=ry;refine item_strTab (htab s2.heap I2.qF) hl (λv hv=>?_) (hs _ _);obtain⟨t2,rfl⟩:=PyProof.V.Flat.str_inv hv;exact⟨.str (aK t),H2,I2.tok _,⟨t2,rfl⟩,q _ H2 r1 ⟨rfl,V0 ht (by rw[WU];decide)⟩ hr1 f1⟩
end
end Sm
namespace Rv
open PySem PyProof.Rows
def lJ:Manifest.owners.lookup (String.ofList ['d','e','s','r','e','v','e','r'].reverse)=some Manifest.sig_reversed:=by kernel_rfl
def slot_next:Slot "reversed" "__next__" "reversed.__next__" :=
 .of (owner:="reversed") (n:="__next__") (by rw[WL,Wr];kernel_rfl) (by decide +kernel) (by decide +kernel) (by decide +kernel)
  (by first|exact .inl (by decide +kernel)|exact .inr (by decide +kernel)) (by rw[W8];kernel_rfl)
def entry_next:entryFor table "reversed.__next__" = some Builtin.«reversed.__next__»:=entryFor_of_tree (by kernel_rfl)
def args_next (a:Value):argsOk "reversed.__next__" ⟨[a],[]⟩:=by
 unfold argsOk;rw[YZ (id:="reversed.__next__") (n:=['_','_','t','x','e','n','_','_']) (o:=['d','e','s','r','e','v','e','r']) (by kernel_rfl) lJ];kernel_rfl
def q8:Slot "reversed" "__iter__" "reversed.__iter__" :=
 .of (owner:="reversed") (n:="__iter__") (by rw[WL,Wr];kernel_rfl) (by decide +kernel) (by decide +kernel) (by decide +kernel)
  (by first|exact .inl (by decide +kernel)|exact .inr (by decide +kernel)) (by rw[W8];kernel_rfl)
def zI (a:Value):argsOk "reversed.__iter__" ⟨[a],[]⟩:=by
 unfold argsOk;rw[YZ (id:="reversed.__iter__") (n:=['_','_','r','e','t','i','_','_']) (o:=['d','e','s','r','e','v','e','r']) (by kernel_rfl) lJ];kernel_rfl
def xK:entryFor table "reversed.__iter__" = some Builtin.«dict_keyiterator.__iter__»:=
 entryFor_alias (id':="dict_keyiterator.__iter__") (by kernel_rfl) (by first|rfl|decide +kernel | (unfold String.splitOn;simp +decide [String.splitOnAux])) (by decide +kernel) (by kernel_rfl)
def lK:Slot "reversed" "__length_hint__" "reversed.__length_hint__" :=
 .of (owner:="reversed") (n:="__length_hint__") (by rw[WL,Wr];kernel_rfl) (by decide +kernel) (by decide +kernel) (by decide +kernel)
  (by first|exact .inl (by decide +kernel)|exact .inr (by decide +kernel)) (by rw[W8];kernel_rfl)
def xN:entryFor table "reversed.__length_hint__" = some Builtin.«reversed.__length_hint__»:=entryFor_of_tree (by kernel_rfl)
def zJ (a:Value):argsOk "reversed.__length_hint__" ⟨[a],[]⟩:=by
 unfold argsOk;rw[YZ (id:="reversed.__length_hint__") (n:=['_','_','t','n','i','h','_','h','t','g','n','e','l','_','_']) (o:=['d','e','s','r','e','v','e','r']) (by kernel_rfl) lJ];kernel_rfl
def Jq:typeLookup (.type "reversed") "__len__" = pure none:=by rw[WL,Wr];kernel_rfl
def Jr:typeLookup (.type "tuple") "__reversed__" = pure none:=by rw[WL,Wr];kernel_rfl
section
variable{prog:Program}{w:World}{A:Around}{E:Value->Shared->Prop}{s:Shared}
def zK:Slot "reversed" "__init__" "object.__init__" :=
 .of (owner:="object") (n:="__init__") (by rw[WL,Wr];kernel_rfl) (by decide +kernel) (by decide +kernel) (by decide +kernel)
  (by first|exact .inl (by decide +kernel)|exact .inr (by decide +kernel)) (by rw[W8];kernel_rfl)
def called:TypeCalled "reversed" "reversed.__new__" "object.__init__" :=
 ⟨by decide +kernel,by decide +kernel,⟨_,_,F.mro_reversed⟩,F.made_reversed,by decide +kernel,F.sub_reversed_self,zK⟩
noncomputable def fX (h:Heap) (a t:Addr) (i:Int):Prop:=∃o,h.get? a=some o/\o.cls=.type "reversed" /\o.data=.fields #[.ref t,rawInt i]
def fX.typeIs {a l:Addr}{i:Int}(x:fX s.heap a l i):s.TypeIs (.ref a) "reversed" :=let ⟨o,ho,hc,_⟩:=x;⟨o,ho,hc⟩
def fX.at{h h':Heap}{a l:Addr}{i:Int}(x:fX h a l i)(e:∀o,h.get? a=some o->h'.get? a=some o):fX h' a l i:=let ⟨o,ho,r⟩:=x;⟨o,e _ ho,r⟩
noncomputable def mH (l:Addr) (i:Int):Obj:={ cls:=.type "reversed",data:=.fields #[.ref l,rawInt i]}
def mJ{h h':Heap}{t:Addr}{items:Array Value}(x:IsTup h t items)(e:∀o,h.get? t=some o->h'.get? t=some o):IsTup h' t items:=let ⟨o,ho,r⟩:=x;⟨o,e _ ho,r⟩
def BR{t:Addr}{items:Array Value}{Q₁:Value->Shared->Prop}(ht:IsTup s.heap t items)(hfit:(items.size:Int)<2 ^ 63)
  (h:Q₁ (.ref s.heap.objs.size) { s with heap:=s.heap.push (mH t ((items.size:Int) - 1)),toks:=s.toks+1+1 }) :
  codeAny (model prog w) A (.call (.builtin "reversed.__new__") ⟨[.type "reversed",.ref t],[]⟩) (wants Q₁ E) s:=by
 refine codeAny_of_tree ?_;show wpAny _ A.in1 (do checkBuiltinCall "reversed.__new__" ⟨[.type "reversed",.ref t],[]⟩;again (.builtin "reversed.__new__" ⟨[.type "reversed",.ref t],[]⟩)) _ _ s;refine fK (WT (F.newCall_reversed_1 _) (pe ⟨Xq F.plain_reversed_new _,XY F.entry_reversed_new ?_⟩));rw[Xo F.plain_reversed_new _];unfold Builtin.«reversed.__new__»;refine fK (WT (newClass_reversed _) ?_);try dsimp only
 refine fK (WT (a:=()) (by first|rfl|kernel_rfl) ?_);refine fK (WT (a:=()) (by first|rfl|kernel_rfl) ?_);try dsimp only
 refine fK (W0 ht.typeIs Jr ?_);try dsimp only
 refine fK ?_
 wp_delta
 refine fK (Xl (T:="tuple") (b:=false) ht.typeIs (by rw[W8];kernel_rfl) ?_);refine WC (λhab=>absurd hab (by decide)) (λ_=>?_);refine fK (W0 ht.typeIs slot_tuple_getitem.lookup ?_);try dsimp only
 refine WC (λ_=>?_) (λhab=>absurd (by decide) hab);refine pe ?_;refine WC (λhab=>absurd hab (by decide)) (λ_=>?_);refine fK (len_tuple ht hfit ?_);refine fK (m:=asInt? _) (pe ?_);try dsimp only
 refine fK (m:=Builtin.SmallTypes.newRecord _ _) ?_;unfold Builtin.SmallTypes.newRecord;refine V5 ?_ (by size_fits);exact pe h
def BU{t:Addr}{items:Array Value}{Q:Value->Shared->Prop}(ht:IsTup s.heap t items)(hfit:(items.size:Int)<2 ^ 63)
  (h:Q (.ref s.heap.objs.size) { s with heap:=s.heap.push (mH t ((items.size:Int) - 1)),toks:=s.toks+1+1 }):wpAny (model prog w) A (call (.type "reversed") [.ref t]) Q E s:=by
 refine YQ (Q₁:=λobj s₁=>obj=.ref s.heap.objs.size/\s₁={ s with heap:=s.heap.push (mH t ((items.size:Int) - 1)),toks:=s.toks+1+1 }) called (F.typeCall_reversed_1 _) F.entry_object_init (BR ht hfit ⟨rfl,rfl⟩) ?_;rintro obj s₁ ⟨rfl,rfl⟩;have hT:({ s with heap:=s.heap.push (mH t ((items.size:Int) - 1)),toks:=s.toks+1+1 }:Shared).TypeIs (.ref s.heap.objs.size) "reversed" :=⟨_,PY _ rfl,rfl⟩
 refine⟨hT,F.args_object_init_2 _ _,?_⟩;exact object_init_meets (self:=Value.ref s.heap.objs.size) (rest:=[Value.ref t]) called.init.lookup called.made (by decide) prog w A.in1 _ _ ⟨hT,rfl,h⟩
def next_item{it t:Addr}{i:Nat}{items:Array Value}{x:Value}{Q:Option Value->Shared->Prop}(hit:fX s.heap it t (i:Int))(ht:IsTup s.heap t items)(hx:items[i]?=some x)(hfit:(items.size:Int)<2 ^ 62)
  (hQ:∀h' tk,fX h' it t ((i:Int) - 1)->Heap.SameBut it s.heap h'->Q (some x) { s with heap:=h',toks:=tk }):wpAny (model prog w) A (pyNext (.ref it)) Q E s:=by
 obtain⟨o,ho,hc,hd⟩:=id hit;have hi:i<items.size:=(Array.getElem?_eq_some_iff.mp hx).1;unfold pyNext;refine fK (Xp (Ww (name:=Str.ofString "__next__") hit.typeIs slot_next
  (Wx slot_next hit.typeIs entry_next ?_ (args_next _))))
 unfold Builtin.«reversed.__next__»;refine fK (WT (a:=(Value.ref it,[])) rfl ?_);try dsimp only
 refine fK (V6 ho hd (x:=.ref t) rfl ?_);refine fK (V6 ho hd (x:=rawInt (i:Int)) rfl ?_);show wpAny _ _ (if (i:Int)<0 then _ else _) _ _ s;rw[Us (by omega)];try dsimp only
 refine fK (W0 ht.typeIs slot_tuple_getitem.lookup ?_);try dsimp only
 refine WC (λhab=>absurd hab (by decide)) (λ_=>?_);refine fK (wpAny_mkInt ?_);refine fK (Xp (getItem_tuple (j:=i) ht (by omega) (by omega) (by unfold seqIndex?;simp;omega) hx ?_));try dsimp only
 refine fK (V6 ho hd (x:=rawInt (i:Int)) rfl ?_);show wpAny _ _ (setField (.ref it) 1 (rawInt ((i:Int) - 1)) >>= _) _ _ _;refine fK (YO ho hd (by simp) ?_);refine pe ⟨x,rfl,pe (hQ _ _ ?_ (X7 ..))⟩;exact⟨_,W4 _ ho (YS (Xx hd _)),(Obj.cls_mapFields ..).trans hc,by
  rw[Xx hd];simp⟩
def next_end{it t:Addr}{Q:Option Value->Shared->Prop}(hh:A.handled=none)(hit:fX s.heap it t (-1))
  (hQ:∀h',Heap.ExtBut it s.heap h'->Q none { s with heap:=h' }):wpAny (model prog w) A (pyNext (.ref it)) Q E s:=by
 obtain⟨o,ho,hc,hd⟩:=id hit;unfold pyNext;refine fK (Xp (Ww (name:=Str.ofString "__next__") hit.typeIs slot_next
  (Wx slot_next hit.typeIs entry_next ?_ (args_next _))))
 unfold Builtin.«reversed.__next__»;refine fK (WT (a:=(Value.ref it,[])) rfl ?_);try dsimp only
 refine fK (V6 ho hd (x:=.ref t) rfl ?_);refine fK (V6 ho hd (x:=rawInt (-1)) rfl ?_);show wpAny _ _ (if (-1:Int)<0 then _ else _) _ _ s;rw[GQ (by decide)];refine fK (XD ?_);refine fK ?_
 wp_delta
 refine fK (YO ho hd (by simp) ?_);have ho2:=W4 (Obj.mapFields λx=>x.setIfInBounds 1 (rawInt (-1))) ho (YS (Xx hd _));refine YO ho2 (Xx hd _) (by simp) ?_;refine fK ?_;unfold Builtin.SmallTypes.stopIteration;first
 |show wpAny _ _ (newExc (.type "StopIteration") [] >>= _) _ _ _
 | (refine fK ?_;show wpAny _ _ (newExc (.type "StopIteration") [] >>= _) _ _ _)
 refine fK ?_;simp only[newExc,newTuple];refine fK (V5 ?_ (by size_fits));refine fK (m:=firstArgMember _ _) (WT (a:=Value.none) (by first|rfl | (simp only[firstArgMember];rfl)) ?_);refine V5 ?_ (by size_fits);simp only[raiseNew];refine fK (wpAny_handled ?_);first|rw[show A.in1.handled=none from hh]|rw[hh]
 refine fK (pe (wpAny_throw ?_));refine fK (Xl (T:="StopIteration") (b:=true) ⟨_,PY _ rfl,rfl⟩ isSubtype_stop ?_);exact pe (hQ _ ((((X7 ..).extBut.trans (X7 ..).extBut).push _).push _))
def sX{it t:Addr}{i:Int}{Q:Value->Shared->Prop}(hit:fX s.heap it t i)(h:Q (.ref it) s):wpAny (model prog w) A (pyIter (.ref it)) Q E s:=by
 refine wpAny_pyIter_slot hit.typeIs q8 (Wx q8 hit.typeIs xK ?_ (zI _));show wpAny _ _ (ret (.ref it)) _ _ s;exact pe ⟨_,rfl,"reversed",_,hit.typeIs,slot_next.lookup,h⟩
def BV{it t:Addr}{items:Array Value}{Q:Bool->Shared->Prop}(hit:fX s.heap it t ((items.size:Int) - 1))(ht:IsTup s.heap t items)(hfit:items.size<=sizeLine)
  (h:∀tk,Q ((items.size:Int) != 0) { s with toks:=tk }):wpAny (model prog w) A (Builtin.List.listLengthHint (.ref it)) Q E s:=by
 obtain⟨o,ho,hc,hd⟩:=id hit;unfold Builtin.List.listLengthHint;refine fK (W0 hit.typeIs Jq ?_);refine WC (λhab=>absurd hab (by decide +kernel)) (λ_=>?_);refine WC (λhab=>absurd hab (by decide)) (λ_=>?_);refine fK (W0 hit.typeIs lK.lookup ?_);generalize hid:("reversed.__length_hint__" : String)=Js
 dsimp only;rw[show splitId Js=some ("reversed","__length_hint__")from by subst hid;decide +kernel];subst hid;dsimp only;refine fK (Xl (T:="reversed") (b:=true) hit.typeIs (by rw[W8];kernel_rfl) ?_);refine WC (λhab=>absurd hab (by decide)) (λ_=>?_);refine WC (λhab=>absurd hab (by decide +kernel)) (λ_=>?_);refine fK (XD ?_);refine fK (WT (lK.bind _) ?_);refine fK (Xp (Wx lK hit.typeIs xN ?_ (zJ _)));unfold Builtin.«reversed.__length_hint__»;refine fK (WT (a:=Value.ref it) rfl ?_);refine fK (V6 ho hd (x:=.ref t) rfl ?_);refine WC (λhab=>absurd hab Wv) (λ_=>?_);have hf2:(items.size:Int)<2 ^ 63:=by rw[WU]at hfit;omega
 refine fK (len_tuple ht hf2 ?_);refine fK (m:=asInt? _) (pe ?_);refine fK (V6 ho hd (x:=rawInt ((items.size:Int) - 1)) rfl ?_);show wpAny _ _ (if (items.size:Int)<(items.size:Int) - 1+1 then _ else _) _ _ _;rw[Us (by omega)];have e1:(items.size:Int) - 1+1=(items.size:Int):=by omega
 rw[e1];unfold retInt;refine fK (wpAny_mkInt (pe ⟨_,rfl,?_⟩));generalize s.toks+1+1=tk
 show wpAny _ _ (asInt? (Value.int (items.size:Int) tk) >>= _) _ _ _;refine fK ?_;refine pe (a:=some (items.size:Int)) ?_;have Tp:Builtin.List.listFitsIndex (items.size:Int)=true:=by unfold Builtin.List.listFitsIndex;rw[XE (by omega),XE (by omega)];rfl
 show wpAny _ _ (if (!Builtin.List.listFitsIndex (items.size:Int))=true then _ else _) _ _ _;rw[Us (by rw[Tp];decide)];show wpAny _ _ (if (items.size:Int)<0 then _ else _) _ _ _;rw[Us (by omega)];have Tt:Builtin.List.listTooLong ((items.size:Int).toNat)=false:=by unfold Builtin.List.listTooLong;rw[XQ];exact Wh (by omega)
 show wpAny _ _ (if Builtin.List.listTooLong ((items.size:Int).toNat)=true then _ else _) _ _ _;rw[Us (by rw[Tt];decide)];exact pe (h _)
def _root_.PySem.Walks.Jt(hh:A.handled=none)(I t:Addr)(hne:t≠I)(items:Array Value)(hfit:(items.size:Int)<2 ^ 62) :
  Walks prog w A I [I,t] [I] items.size (λi v=>items[items.size - 1 - i]?=some v) (λi h=>i<=items.size/\fX h I t ((items.size:Int) - 1 - (i:Int))/\IsTup h t items) where
 sub:=λb hb=>by simp at hb;simp[hb]
 frame:=λ_ _ _ x hk=>⟨x.1,x.2.1.at λo e=>hk I (by simp) o e,mJ x.2.2 λo e=>hk t (by simp) o e⟩
 item:=λi s Q E hi x hQ=>by
  have e:(items.size:Int) - 1 - (i:Int)=((items.size - 1 - i:Nat):Int):=by omega
  have hit:=x.2.1;rw[e]at hit;have hx:items[items.size - 1 - i]?=some (items[items.size - 1 - i]'(by omega)):=Yr (by omega);refine next_item hit x.2.2 hx hfit λh' tk Ju hs'=>?_;have e2:((items.size - 1 - i:Nat):Int) - 1=(items.size:Int) - 1 - ((i+1:Nat):Int):=by omega
  rw[e2]at Ju;exact hQ _ h' tk hx ⟨hi,Ju,mJ x.2.2 λo eo=>(hs'.2 t hne).trans eo⟩ λb o hb eo=>hs'.extBut b o (λh=>hb (by simp[h])) eo
 done:=λs Q E x hQ=>by
  have e:(items.size:Int) - 1 - (items.size:Int) = -1:=by omega
  have hit:=x.2.1;rw[e]at hit;exact next_end hh hit λh' he'=>hQ h' s.toks λb o hb eo=>he' b o (λh=>hb (by simp[h])) eo
 self:=λ_ _ _ _ x hQ=>sX x.2.1 hQ
def xO{R:Result->Shared->Prop}{I t:Addr}{items:Array Value}(hh:A.handled=none)(hit:fX s.heap I t ((items.size:Int) - 1))(ht:IsTup s.heap t items)(hne:t≠I)(hlen:items.size<=sizeLine)
  (S:Addr) (hSI:S≠I) (hSt:S≠t) (res:Value) (c₀:Nat) (hS:s.heap.get? S=some { cls:=.type "list",data:=.seq #[] c₀ })
  (hR:∀h' tk acc' c',(∀b o,b≠S->b≠I->s.heap.get? b=some o->h'.get? b=some o)->h'.get? S=some { cls:=.type "list",dict:=none,data:=.seq acc' c',slots:=#[]}->
   ItemsOf (λi v=>items[items.size - 1 - i]?=some v) acc' items.size->R (.ok (.ret res)) { s with heap:=h',toks:=tk }) :
  wpAny (model prog w) A.in1 (Builtin.List.listExtendWith (.ref S) (.ref I) res)
   (λfin s'=>match fin with|.done f=>R (.ok f) s'|.again c'=>c'.quiet=true/\codeAny (model prog w) A c' R s') (λe s'=>R (.error e) s') s:=by
 have hf:(items.size:Int)<2 ^ 62:=by rw[WU]at hlen;omega
 have hSf:S∉[I,t]:=λhm=>by rcases List.mem_cons.mp hm with e|e;exact hSI e;exact hSt (List.mem_singleton.mp e)
 have W:=(Walks.Jt (prog:=prog) (w:=w) (A:=A.in1) hh I t hne items hf).toS;have key:∀(h:Heap) (c₁ tk:Nat),fX h I t ((items.size:Int) - 1 - ((0:Nat):Int))->IsTup h t items->(∀b o,b≠S->s.heap.get? b=some o->h.get? b=some o)->
   h.get? S=some { cls:=.type "list",data:=.seq #[] c₁ }->codeAny (model prog w) A (.builtin "list.extend.loop" ⟨[.ref S,.ref I,res],[]⟩) R { s with heap:=h,toks:=tk }:=by
  intro h c₁ tk hit ht hk xP;refine codeAny_extend_loopS W hlen S hSf res items.size 0 _ #[] c₁ rfl (WH _) ⟨WH _,hit,ht⟩ xP (ItemsOf.nil _) λs' acc' c' hm hS' hacc=>?_;rw[Moved.eq_with hm];refine hR s'.heap s'.toks acc' c' (λb o hb hb2 e=>hm.heap b o (λhmem=>?_) (hk b o hb e)) hS' hacc;rcases List.mem_cons.mp hmem with e'|hmem
  .exact hb e'
  .exact hb2 (List.mem_singleton.mp hmem)
 unfold Builtin.List.listExtendWith;refine fK (Xh (T:="reversed") hit.typeIs ?_);have h1:Builtin.List.listSameRef (.ref S) (.ref I)=false:=by simp[Builtin.List.listSameRef,hSI]
 have h2:(Value.type "reversed" ==Value.type "list")=false:=by decide
 have h3:(Value.type "reversed" ==Value.type "tuple")=false:=by decide
 simp only[h1,h2,h3,Bool.or_false,V4,WE];refine fK (sX hit ?_);refine fK (WO (BV hit ht hlen λtk=>?_));have Jv:fX s.heap I t ((items.size:Int) - 1 - ((0:Nat):Int)):=by simpa using hit
 refine WC (λ_=>?_) (λ_=>pe ⟨Xq X8 _,key _ c₀ _ Jv ht (λb o _ e=>e) hS⟩);refine fK (XD ?_);refine fK ?_;show wpAny _ _ (updateSeq S (·.push .none) >>= λ_=>updateSeq S (·.pop)) _ _ _;refine fK (YE hS rfl ?_);have rJ:=W4 (Obj.mapSeq (·.push Value.none)) hS rfl;refine YE (hz:=by seq_fits) rJ rfl ?_;have Nk:=W4 (Obj.mapSeq (·.pop)) rJ rfl;have ot:∀b o,b≠S->s.heap.get? b=some o->((s.heap.update S (Obj.mapSeq (·.push Value.none))).update S (Obj.mapSeq (·.pop))).get? b=some o:=λb o hb e=>(Xg _ _ (WZ hb)).trans ((Xg _ _ (WZ hb)).trans e);exact pe ⟨Xq X8 _,key _ _ _ (Jv.at λo e=>ot _ _ (WZ hSI) e) (mJ ht λo e=>ot _ _ (WZ hSt) e) ot Nk⟩
def BW{R:Result->Shared->Prop}{I t:Addr}{items:Array Value}(hh:A.handled=none)(hit:fX s.heap I t ((items.size:Int) - 1))(ht:IsTup s.heap t items)(hne:t≠I)(hlen:items.size<=sizeLine)
  (S:Addr) (hSI:S≠I) (hSt:S≠t) (hS:s.heap.get? S=some { cls:=.type "list",data:=.seq #[]})
  (hR:∀h' tk acc' c',(∀b o,b≠S->b≠I->s.heap.get? b=some o->h'.get? b=some o)->h'.get? S=some { cls:=.type "list",dict:=none,data:=.seq acc' c',slots:=#[]}->
   ItemsOf (λi v=>items[items.size - 1 - i]?=some v) acc' items.size->R (.ok (.ret .none)) { s with heap:=h',toks:=tk }) :
  wpAny (model prog w) A.in1 (Builtin.«list.__init__» ⟨[.ref S,.ref I],[]⟩)
   (λfin s'=>match fin with|.done f=>R (.ok f) s'|.again c'=>c'.quiet=true/\codeAny (model prog w) A c' R s') (λe s'=>R (.error e) s') s:=by
 show wpAny _ _ (do let old <-Builtin.List.listItems (.ref S);Builtin.List.listUpdate (.ref S) (λ_=>#[]);letGo old.toList.reverse;Builtin.List.listExtendWith (.ref S) (.ref I) .none) _ _ s;refine fK ?_;unfold Builtin.List.listItems;refine fK (W7 hS rfl (pe ?_));show wpAny _ _ (updateSeq S (λ_=>#[]) >>= λ_=>letGo (#[]:Array Value).toList.reverse >>= λ_=>Builtin.List.listExtendWith (.ref S) (.ref I) .none) _ _ s;refine fK (YE hS rfl ?_);have rJ:=W4 (Obj.mapSeq (λ_=>(#[]:Array Value))) hS rfl;have Jw:∀b o,b≠S->s.heap.get? b=some o->(s.heap.update S (Obj.mapSeq (λ_=>(#[]:Array Value)))).get? b=some o:=
  λb o hb e=>(Xg _ _ (WZ hb)).trans e
 refine fK (YI ?_);refine xO hh (hit.at λo e=>Jw _ _ (WZ hSI) e) (mJ ht λo e=>Jw _ _ (WZ hSt) e) hne hlen S hSI hSt .none _ rJ λh' tk acc' c' hk hS' hacc=>?_;exact hR h' tk acc' c' (λb o hb hb2 e=>hk b o hb hb2 (Jw b o hb e)) hS' hacc
def rE{Q:Value->Shared->Prop}{I t:Addr}{items:Array Value}(hh:A.handled=none)(hit:fX s.heap I t ((items.size:Int) - 1))(ht:IsTup s.heap t items)(hne:t≠I)(hlen:items.size<=sizeLine)
  (hQ:∀h' tk acc' c',(∀b o,b≠I->s.heap.get? b=some o->h'.get? b=some o)->
   h'.get? s.heap.objs.size=some { cls:=.type "list",dict:=none,data:=.seq acc' c',slots:=#[]}->ItemsOf (λi v=>items[items.size - 1 - i]?=some v) acc' items.size->Q (.ref s.heap.objs.size) { s with heap:=h',toks:=tk }) :
  wpAny (model prog w) A (call (.type "list") [.ref I]) Q E s:=by
 refine YQ (Q₁:=λobj s₁=>obj=.ref s.heap.objs.size/\s₁={ s with heap:=s.heap.push { cls:=.type "list",data:=.seq #[]}}) F.called_list (F.typeCall_list_1 _) F.entry_list_init
  (code_list_new _ ⟨rfl,rfl⟩) λobj s₁ h₁=>?_
 obtain⟨rfl,rfl⟩:=h₁;have hS:(s.heap.push { cls:=.type "list",data:=.seq #[]}).get? s.heap.objs.size=some { cls:=.type "list",data:=.seq #[]}:=PY _ rfl;have hI:I<s.heap.objs.size:=by obtain⟨o,ho,_⟩:=hit;exact RH ho
 have hT:t<s.heap.objs.size:=by obtain⟨o,ho,_⟩:=ht;exact RH ho
 refine⟨⟨_,hS,rfl⟩,F.args_list_init_2 _ _,BW (A:=A.in1) hh (hit.at λo e=>gV _ e) (mJ ht λo e=>gV _ e) hne hlen _ (XX hI) (XX hT) hS λh' tk acc' c' hk hS' hacc=>?_⟩;exact⟨rfl,hQ h' tk acc' c' (λb o hb e=>hk b o (V7 (RH e)) hb (gV _ e)) hS' hacc⟩
end
end Rv
namespace Sm
open PySem PySem.Spec PyProof.Rows L2 PySem.SeqAt
open Ev (D O Hh Fr R aM E Es Eo T S Ss Fl Src br aZ TY BI ME)
section
variable{X:Cx}{G:Tb}{n:Nat}{sc:Scope}{N:List Str}{df:Bool}{m:List Nat}{a b:E}{xa:Expr}{pos:Pos}
def sY{vs:List V}{us:List Value}(r:Vals vs us){acc:Array Value}(h:ItemsOf (λi v=>us.toArray[us.toArray.size - 1 - i]?=some v) acc us.toArray.size):Vals vs.reverse acc.toList:=by
 obtain⟨h1,h2⟩:=h;have e:acc.toList=us.reverse:=by
  apply List.ext_getElem?;intro i;by_cases hi:i<us.length
  .have ha:i<acc.size:=by rw[h1];simpa using hi
   have:=h2 i _ (Yr ha);rw[List.getElem?_reverse hi];simp only[uB,List.getElem?_toArray]at this;rw[this];simp[ha]
  .have hs:acc.size=us.length:=by rw[h1];simp
   rw[WK (by rw[Xd];omega),WK (by rw[Wc];omega)]
 rw[e];exact Vals.reverse r
def Fv {p p2 pos2:Pos}(ha:JE G n sc N df m a xa) (h1:("list" : Str)∈G.bl:=by decide +kernel) (sU:sc.names.lookup ("list" : Str)=some .globalImplicit:=by rfl)
  (hg:sc.names.lookup ("reversed" : Str)=some .globalImplicit:=by rfl) (hb:("reversed" : Str)∈G.bl:=by decide +kernel)
  (hst:∀env:Env,starEach [xa] env=[(false,eval xa env)]:=by intro _;rfl)
  (lI:∀env:Env,starEach [Expr.Call (.Name "reversed" p2) [xa] [] pos2] env=[(false,eval (Expr.Call (.Name "reversed" p2) [xa] [] pos2) env)]:=by intro _;rfl) :
  JE G n sc N df m (.gp (.rev a)) (.Call (.Name "list" p) [.Call (.Name "reversed" p2) [xa] [] pos2] [] pos):=λX g=>by
 intro pins s σ H Q I q;obtain⟨r,fr,h,d,h',sr,hr,e,q⟩:=q;rw[Ev.ev,Ev.bR]at e;replace e:=Ev.ah e;obtain⟨src,h3,e1,e⟩:=e;replace e1:=Ev.ah e1;obtain⟨x,h4,e2,e1⟩:=e1;replace e1:=Ev.aC e1;obtain⟨e1,y0⟩:=e1;subst y0;refine WX (fz I (g.gl sU) (g.bl _ h1) (show bootBuiltins ("list" : Str)=some (.type "list")by decide +kernel) ?_ (by decide) (by decide));refine V2 ?_ (lI _) rfl;rw[lI];show wpAny _ _ (spliced ((false,eval (Expr.Call (.Name "reversed" p2) [xa] [] pos2) X.env) :: backTo pos [])) _ _ s;refine Xz ?_;have sZ:PA X [xa] _:=g9 (ha X g) jJ (by rw[hst];rfl);refine Call_ (fz I (g.gl hg) (g.bl _ hb) (show bootBuiltins ("reversed" : Str)=some (.type "reversed")by decide +kernel) (V2 (bF (sZ pos2 pins s σ H (λvs H1=>∃r1 u,vs=[u]/\RV X.K H1 r1 x u/\HR X.K H1 r1 h3/\Fm X.K r r1 H H1) I ⟨r,fr,h,x,h3,sr,hr,e2,λu H1 r1 v1 hr1 f1=>⟨r1,u,rfl,v1,hr1,f1⟩⟩) λus s1 z=>?_) (hst _) rfl));obtain⟨vs,H1,I1,rv,r1,u,rfl,v1,hr1,f1⟩:=z;cases x<;>simp only[Ev.BB,Option.map,reduceCtorEq]at e1
 rename_i ds;cases e1;obtain⟨t,ws,rfl,z,w⟩:=v1.shape;cases rv with
 |cons ra rb=>
 cases rb;cases ra;obtain⟨its,pv,pt,hz⟩:=I1.tuple z;have hlen:its.toArray.size<=sizeLine:=by rw[uB,<-pv.length];exact hz
 have hf:(its.toArray.size:Int)<2 ^ 63:=by rw[WU]at hlen;omega
 refine Rv.BU pt hf ?_;refine XR ?_;have I2:Inv X pins σ H1 { s1 with heap:=s1.heap.push (Rv.mH t ((its.toArray.size:Int) - 1)),toks:=s1.toks+1+1 }:=I1.kept λb o e=>gV _ e;have hne:t≠s1.heap.objs.size:=by obtain⟨o,ho,_⟩:=pt;exact V7 (RH ho)
 refine Rv.rE (I1.ok.hd g.calm) ⟨_,PY _ rfl,rfl,rfl⟩ (Rv.mJ pt λo e=>gV _ e) hne hlen λh' tk acc' c' hk hS' hacc=>?_;obtain⟨hz2,q2⟩:=(q.later f1).lst e w.reverse hr1;have hp:s1.heap.objs.size<=(s1.heap.push (Rv.mH t ((its.toArray.size:Int) - 1))).objs.size:=by rw[size_push'];exact Zn _
 refine⟨.ref _,_,I1.laid (t':=tk) (o:=.lst ws.reverse) (λb u e=>hk b u (V7 (RH e)) (gV _ e)) hp ?_,rfl,q2 _ (I1.hok.fresh hp)⟩;exact⟨by simpa using hz,acc'.toList,c',sY pv hacc,by simpa using hS'⟩
end
end Sm
namespace Rv
open PySem PySem.Spec PyProof.Rows
section
variable{prog:Program}{w:World}{A:Around}{E:Value->Shared->Prop}{s:Shared}
def zL:typeLookup (.type "list_reverseiterator") "__len__" = pure none:=by rw[WL,Wr];kernel_rfl
def BX:typeLookup (.type "list_reverseiterator") "__length_hint__" = pure (some (.builtin "list_reverseiterator.__length_hint__")):=by rw[WL,Wr];kernel_rfl
def uQ{Q:List Value->Shared->Prop}{I:Addr}{fp wr:List Addr}{G:Array GenState->Array GenState->Prop}{n:Nat}{P:Nat->Value->Prop}{St:Nat->Shared->Prop}
  (W:WalksS prog w A.in1 I fp wr G n P St) (hT:∀i s,St i s->s.TypeIs (.ref I) "list_reverseiterator") (hst:St 0 s) (hfp:∀b∈fp,b<s.heap.objs.size) (hI:I∈fp)
  (hQ:∀s' acc,Moved wr G s s'->ItemsOf P acc n->Q acc.toList s') (hn:n<=sizeLine):wpAny (model prog w) A (collect (.ref I)) Q E s:=by
 have hSf:s.heap.objs.size∉fp:=λhm=>Wg _ (hfp _ hm);have hSI:s.heap.objs.size≠I:=λe=>hSf (e▸hI);unfold collect;refine fK (wpAny_runValue (XY F.entry_proto_collect ?_));rw[Xo F.plain_proto_collect _];show wpAny _ A.in1 (newList [] >>= λl=>again (.builtin "list.__iadd__" ⟨[l,.ref I],[]⟩)) _ _ s;refine fK (V5 ?_);refine pe ⟨Xq F.plain_list_iadd _,XY F.entry_list_iadd ?_⟩;rw[Xo F.plain_list_iadd _];have jN:=W.frame 0 s (s.heap.push { cls:=.type "list",data:=.seq ([]:List Value).toArray }) s.toks hst (Et _) λb _ o e=>gV _ e;have xP:(s.heap.push { cls:=.type "list",data:=.seq ([]:List Value).toArray }).get? s.heap.objs.size=some { cls:=.type "list",data:=.seq ([]:List Value).toArray }:=PY _ rfl;have h1:Builtin.List.listSameRef (.ref s.heap.objs.size) (.ref I)=false:=by simp[Builtin.List.listSameRef,hSI]
 show wpAny _ A.in1 (Builtin.List.listExtendWith (.ref s.heap.objs.size) (.ref I) (.ref s.heap.objs.size)) _ _ _;unfold Builtin.List.listExtendWith;refine fK (Xh (hT 0 _ jN) ?_);rw[Us (by rw[h1];decide)];refine fK (W.self 0 _ _ _ jN ?_);refine fK (WO ?_);unfold Builtin.List.listLengthHint;refine fK (W0 (hT 0 _ jN) zL ?_);show wpAny _ A.in1 (specialOf (Value.ref I) (Str.ofString "__length_hint__") >>= _) _ _ _;refine fK (W0 (hT 0 _ jN) BX ?_);generalize hid:("list_reverseiterator.__length_hint__" : String)=Js
 wp_delta
 rw[show splitId Js=some ("list_reverseiterator","__length_hint__")from by subst hid;decide +kernel];subst hid;refine fK (Xl (b:=true) (hT 0 _ jN) (by rw[W8];kernel_rfl) ?_);refine pe ?_;rw[Us (by decide)];refine pe ⟨Xq X8 _,codeAny_extend_loopS W hn _ hSf _ n 0 _ _ _ rfl (WH _) jN xP (ItemsOf.nil P) λs' acc' c' hm hS' hacc=>?_⟩;show wpAny _ A (load s.heap.objs.size >>= _) _ _ s';refine fK (wpAny_load hS' ?_);exact pe (hQ s' acc' (Moved.drop_new (o:={ cls:=.type "list",data:=.seq ([]:List Value).toArray }) (tk:=s.toks) hm (Et _)) hacc)
def pZ{Q₁:Value->Shared->Prop}{I:Addr}{fp wr:List Addr}{G:Array GenState->Array GenState->Prop}{n:Nat}{P:Nat->Value->Prop}{St:Nat->Shared->Prop}
  (W:WalksS prog w A.in1.in1 I fp wr G n P St) (hT:∀i s,St i s->s.TypeIs (.ref I) "list_reverseiterator") (hst:St 0 s) (hfp:∀b∈fp,b<s.heap.objs.size) (hI:I∈fp)
  (h:∀s' acc,Moved wr G s s'->ItemsOf P acc n->Q₁ (.ref s'.heap.objs.size) { s' with heap:=s'.heap.push { cls:=.type "tuple",data:=.seq acc }}) (hsz:n<=sizeLine) :
  codeAny (model prog w) A (.call (.builtin "tuple.__new__") ⟨[.type "tuple",.ref I],[]⟩) (wants Q₁ E) s:=by
 refine codeAny_of_tree ?_;show wpAny _ A.in1 (do checkBuiltinCall "tuple.__new__" ⟨[.type "tuple",.ref I],[]⟩;again (.builtin "tuple.__new__" ⟨[.type "tuple",.ref I],[]⟩)) _ _ s;refine fK (WT (F.newCall_tuple_1 _) (pe ⟨Xq F.plain_tuple_new _,XY F.entry_tuple_new ?_⟩));rw[Xo F.plain_tuple_new _];have hsub:=sub_tuple_self;have Ur:=init_tuple_lookup;have Uy:=madeHere_tuple;have hTI:=hT 0 s hst
 wp_walk using Xh hTI,uQ (hn:=hsz) W hT hst hfp hI
 intro s' acc hm hacc;show wpAny _ _ (Builtin.Tuple.tupleExact acc.toList.toArray >>= λv=>ret v) _ _ _;unfold Builtin.Tuple.tupleExact;refine fK (V5 ?_ (by show acc.toList.toArray.size<=sizeLine;simp only[Array.toArray_toList];rw[hacc.1];exact hsz));refine pe ?_;have e:acc.toList.toArray=acc:=by simp
 rw[e];exact h s' acc hm hacc
def qa{Q:Value->Shared->Prop}{I:Addr}{fp wr:List Addr}{G:Array GenState->Array GenState->Prop}{n:Nat}{P:Nat->Value->Prop}{St:Nat->Shared->Prop}
  (W:WalksS prog w A.in1.in1.in1 I fp wr G n P St) (hT:∀i s,St i s->s.TypeIs (.ref I) "list_reverseiterator") (hst:St 0 s) (hfp:∀b∈fp,b<s.heap.objs.size) (hI:I∈fp)
  (hQ:∀s' acc,Moved wr G s s'->ItemsOf P acc n->Q (.ref s'.heap.objs.size) { s' with heap:=s'.heap.push { cls:=.type "tuple",data:=.seq acc }}) (hsz:n<=sizeLine) :
  wpAny (model prog w) A (call (.type "tuple") [.ref I]) Q E s:=by
 refine YQ (Q₁:=λobj s₁=>s₁.TypeIs obj "tuple" /\Q obj s₁) F.called_tuple (F.typeCall_tuple_1 _) F.entry_object_init
  (pZ (hsz:=hsz) W hT hst hfp hI λs' acc hm hacc=>⟨⟨_,PY _ rfl,rfl⟩,hQ s' acc hm hacc⟩) λobj s₁ h₁=>?_
 exact⟨h₁.1,F.args_object_init_2 obj _,object_init_meets F.called_tuple.init.lookup F.called_tuple.made (by decide) prog w A.in1 _ s₁ ⟨h₁.1,rfl,h₁.2⟩⟩
def qb{Q:Value->Shared->Prop}{I l:Addr}{items:Array Value}(hh:A.handled=none)(hit:s.heap.IsRevIter I l ((items.size:Int) - 1))(hl:s.heap.IsList l items)(hne:l≠I)(hlen:items.size<=sizeLine)
  (hQ:∀(h':Heap) (tk:Nat) (acc:Array Value),(∀b o,b≠I->s.heap.get? b=some o->h'.get? b=some o)->ItemsOf (λi v=>items[items.size - 1 - i]?=some v) acc items.size->
   Q (.ref h'.objs.size) { s with heap:=h'.push { cls:=.type "tuple",data:=.seq acc },toks:=tk }):wpAny (model prog w) A (call (.type "tuple") [.ref I]) Q E s:=by
 have W:=(Walks.listRev (prog:=prog) (w:=w) (A:=A.in1.in1.in1) hh I l hne items).toS;refine qa W (λi s x=>x.2.1.typeIs) ⟨WH _,by simpa using hit,hl⟩ (λb hb=>?_) (by simp) (λs' acc hm hacc=>?_) hlen
 .rcases List.mem_cons.mp hb with rfl|hb
  .obtain⟨o,ho,_⟩:=hit;exact RH ho
  .rw[List.mem_singleton.mp hb];obtain⟨o,ho,_⟩:=hl;exact RH ho
 .rw[Moved.eq_with hm];exact hQ s'.heap s'.toks acc (λb o hb e=>hm.heap b o (λhmem=>hb (List.mem_singleton.mp hmem)) e) hacc
end
end Rv
namespace Sm
open PySem PySem.Spec PyProof.Rows L2 PySem.SeqAt
open Ev (D O Hh Fr R aM E Es Eo T S Ss Fl Src br aZ TY BI ME)
section
variable{X:Cx}{G:Tb}{n:Nat}{sc:Scope}{N:List Str}{df:Bool}{m:List Nat}{a b:E}{xa:Expr}{pos:Pos}
def Jx {p p2 pos2:Pos}(ha:JE G n sc N df m a xa) (h1:("tuple" : Str)∈G.bl:=by decide +kernel) (sU:sc.names.lookup ("tuple" : Str)=some .globalImplicit:=by rfl)
  (hg:sc.names.lookup ("reversed" : Str)=some .globalImplicit:=by rfl) (hb:("reversed" : Str)∈G.bl:=by decide +kernel)
  (hst:∀env:Env,starEach [xa] env=[(false,eval xa env)]:=by intro _;rfl)
  (lI:∀env:Env,starEach [Expr.Call (.Name "reversed" p2) [xa] [] pos2] env=[(false,eval (Expr.Call (.Name "reversed" p2) [xa] [] pos2) env)]:=by intro _;rfl) :
  JE G n sc N df m (.kN a) (.Call (.Name "tuple" p) [.Call (.Name "reversed" p2) [xa] [] pos2] [] pos):=λX g=>by
 intro pins s σ H Q I q;obtain⟨r,fr,h,d,h',sr,hr,e,q⟩:=q;rw[Ev.ev]at e;replace e:=Ev.ah e;obtain⟨x,h3,e2,e⟩:=e;refine WX (fz I (g.gl sU) (g.bl _ h1) (show bootBuiltins ("tuple" : Str)=some (.type "tuple")by decide +kernel) ?_ (by decide) (by decide));refine V2 ?_ (lI _) rfl;rw[lI];show wpAny _ _ (spliced ((false,eval (Expr.Call (.Name "reversed" p2) [xa] [] pos2) X.env) :: backTo pos [])) _ _ s;refine Xz ?_;have sZ:PA X [xa] _:=g9 (ha X g) jJ (by rw[hst];rfl);refine Call_ (fz I (g.gl hg) (g.bl _ hb) (show bootBuiltins ("reversed" : Str)=some (.type "reversed")by decide +kernel) (V2 (bF (sZ pos2 pins s σ H (λvs H1=>∃r1 u,vs=[u]/\RV X.K H1 r1 x u/\HR X.K H1 r1 h3/\Fm X.K r r1 H H1) I ⟨r,fr,h,x,h3,sr,hr,e2,λu H1 r1 v1 hr1 f1=>⟨r1,u,rfl,v1,hr1,f1⟩⟩) λus s1 z=>?_) (hst _) rfl));obtain⟨vs,H1,I1,rv,r1,u,rfl,v1,hr1,f1⟩:=z;cases x<;>simp only[Ev.xj,reduceCtorEq]at e
 rename_i i;split at e
 .rename_i ds e1;split at e
  .cases e;obtain⟨t,rfl,z⟩:=v1.shape;obtain⟨t',ws,z',q1,w⟩:=hr1.read e1;rw[z]at z';cases z';cases rv with
   |cons ra rb=>
   cases rb;cases ra;obtain⟨its,pv,pl,hz⟩:=I1.list q1;have hlen:its.toArray.size<=sizeLine:=by rw[uB,<-pv.length];exact hz
   refine call_reversed_list pl.isList ?_;refine XR ?_;have I2:Inv X pins σ H1 { s1 with heap:=s1.heap.push (revObj t ((its.toArray.size:Int) - 1))}:=I1.kept λb o e=>gV _ e;have hne:t≠s1.heap.objs.size:=by obtain⟨o,ho,_⟩:=pl.isList;exact V7 (RH ho)
   refine Rv.qb (I1.ok.hd g.calm) ⟨_,PY _ rfl,rfl,rfl⟩ (pl.isList.at λo e=>gV _ e) hne hlen λh4 tk acc hk hacc=>?_;have I3:Inv X pins σ H1 { s1 with heap:=h4 }:=I1.kept λb o e=>hk b o (V7 (RH e)) (gV _ e);have I4:Inv X pins σ (upd H1 h4.objs.size (.tup ws.reverse)) { s1 with heap:=h4.push { cls:=.type "tuple",data:=.seq acc },toks:=tk }:=
    I3.laid (t':=tk) (λb o e=>gV _ e) (Et _) (show fc X.prog X.w _ _ _ (.tup ws.reverse)from ⟨by simpa using hz,acc.toList,sY pv hacc,by simpa using YD h4 acc⟩)
   exact⟨.ref h4.objs.size,_,I4,rfl,(q.later f1).tup w.reverse hr1 (I3.hok.fresh (Et _))⟩
  .cases e
 .cases e
end
theorem tu:∀{ds:List D}{k:Int}{i:Nat}{d:D},(Ev.cy k ds)[i]?=some d->∃x,ds[i]?=some x/\d=.tup [.int (k+i),x]
 |[],_,_,_,e=>by simp[Ev.cy]at e
 |x :: ds,k,0,d,e=>by simp[Ev.cy]at e;exact⟨x,by simp,by simp[e]⟩
 |x :: ds,k,i+1,d,e=>by
  simp only[Ev.cy,List.getElem?_cons_succ]at e;obtain⟨y,h1,h2⟩:=tu e;refine⟨y,by simpa using h1,?_⟩;rw[h2];have:k+1+(i:Int)=k+((i+1:Nat):Int):=by omega
  rw[this]
theorem tw:∀(ds:List D) (k:Int),(Ev.cy k ds).length=ds.length
 |[],_=>rfl
 |_ :: ds,k=>by simp[Ev.cy,tw ds]
section
variable{prog:Program}{w:World}{A:Around}{E:Value->Shared->Prop}{s:Shared}
def Draws.one{it:Addr}{n:Nat}{P:Nat->Value->Prop}{St:Nat->Heap->Prop}(D:Draws prog w A it [it] n P St){i:Nat}{h h':Heap}(st:St i h)(k:∀o,h.get? it=some o->h'.get? it=some o):St i h':=
 D.frame _ _ _ st λb hb o e=>by rw[List.mem_singleton.mp hb]at e ⊢;exact k o e
def gr(hh:A.handled=none)(it:Addr)(x:Str)(t:Tok):Draws prog w A it [it] x.cps.size (λi v=>∃c u,x.cps[i]?=some c/\v=.str ⟨#[c]⟩ u) (λi h=>h.IsStrIter it (strIterType x) x t i):=by
 unfold strIterType;split
 .exact Draws.strAscii hh it x t
 .exact Draws.strWide hh it x t
def Fw{z TI TO i1 i2:Addr}{k n1 n2:Nat}{P1 P2:Nat->Value->Prop}{S1 S2:Nat->Heap->Prop}{a b f0:Value}{f1:Bool}{Q:Value->Shared->Prop}(D:ZipApart z TI TO i1 i2 TI TI)(D1:Draws prog w A i1 [i1] n1 P1 S1)(D2:Draws prog w A i2 [i2] n2 P2 S2)(hz:Zo s.heap z TI TO f0 f1)(hf:Zf f0)
  (hTI:IsPair s.heap TI (.ref i1) (.ref i2)) (hTO:IsPair s.heap TO a b)
  (h1:S1 k s.heap) (h2:S2 k s.heap) (hx:k<n1) (hy:k<n2)
  (hQ:∀h' f0 f1 x y tk,Zo h' z TI TO f0 f1->Zf f0->(∃a b,IsPair h' TO a b)->S1 (k+1) h'->S2 (k+1) h'->P1 k x->P2 k y->IsPair h' s.heap.objs.size x y->
   (∀c o,c≠z->c≠TO->c≠i1->c≠i2->s.heap.get? c=some o->h'.get? c=some o)->Q (.ref s.heap.objs.size) { s with heap:=h',toks:=tk }) :
  wpAny (model prog w) A (Builtin.«zip.__next__» ⟨[.ref z],[]⟩) (λfin s'=>∃v,fin=.done (.ret v)/\Q v s') E s:=by
 show wpAny _ _ (field (.ref z) 2 >>= _) _ _ _;refine fK (V6 hz rfl (x:=.bool false) rfl ?_);show wpAny _ _ (field (.ref z) 3 >>= _) _ _ _;refine fK (V6 hz rfl (x:=.ref TI) rfl ?_);refine fK (W7 hTI rfl ?_);show wpAny _ _ (Builtin.SmallTypes.ownedTupleIsFree (.ref z) >>= _) _ _ _;refine fK (vF hz hf ?_ λg hz1 hs1=>?_)
 .rw[GQ rfl];refine fK (XD ?_);refine fK (V6 hz rfl (x:=.ref TO) rfl ?_);refine fK (WD hz (by simp) λg1 z1 e1=>?_);replace z1:Zo g1 z TI TO .ellipsis f1:=z1;refine fK ?_;simp only[Yw,Zy,Xf,Yb];refine fK (fK (Yg ?_));show wpAny _ _ (Builtin.SmallTypes.nextOf (.ref i1) >>= _) _ _ _;refine fK (D1.item k _ _ _ hx (Draws.one D1 h1 λo e=>e1.extBut _ _ D.i1z e) λx g2 Jy px c2 e2=>pe ?_);replace e2:Heap.SameBut i1 g1 g2:=e2;have p2:IsPair g2 TO a b:=e2.extBut _ _ D.TOi1 (e1.extBut _ _ D.TOz hTO);refine fK (W7 p2 rfl ?_);refine fK (X5 p2 λg3 p3 e3=>?_);replace p3:IsPair g3 TO x b:=p3;replace e3:Heap.SameBut TO g2 g3:=e3;refine fK (YI (pe ?_));refine fK (fK (Yg ?_));show wpAny _ _ (Builtin.SmallTypes.nextOf (.ref i2) >>= _) _ _ _;refine fK (D2.item k _ _ _ hy (Draws.one D2 h2 λo e=>e3.extBut _ _ D.TOi2.symm (e2.extBut _ _ D.i12.symm (e1.extBut _ _ D.i2z e))) λy g4 Jz py c4 e4=>pe ?_);replace e4:Heap.SameBut i2 g3 g4:=e4;have p4:IsPair g4 TO x b:=e4.extBut _ _ D.TOi2 p3;refine fK (W7 p4 rfl ?_);refine fK (X5 p4 λg5 p5 e5=>?_);replace p5:IsPair g5 TO x y:=p5;replace e5:Heap.SameBut TO g4 g5:=e5;refine fK (YI (pe (pe ?_)));refine fK (W7 p5 rfl ?_);refine fK (wpAny_newTuple ?_);have sz:g5.objs.size=s.heap.objs.size:=by rw[e5.1,e4.1,e3.1,e2.1,e1.1]
  have z5:Zo g5 z TI TO .ellipsis f1:=e5.extBut _ _ D.TOz.symm (e4.extBut _ _ D.i2z.symm (e3.extBut _ _ D.TOz.symm (e2.extBut _ _ D.i1z.symm z1)));have k5:∀c o,c≠z->c≠TO->c≠i1->c≠i2->s.heap.get? c=some o->g5.get? c=some o:=λc o c1 c2 c3 c4 e=>e5.extBut _ _ c2 (e4.extBut _ _ c4 (e3.extBut _ _ c2 (e2.extBut _ _ c3 (e1.extBut _ _ c1 e))));have lz:z<g5.objs.size:=RH z5;show wpAny _ _ (Builtin.SmallTypes.ownedTupleHandOut (.ref z) (.ref g5.objs.size) >>= _) _ _ _;refine fK ?_;unfold Builtin.SmallTypes.ownedTupleHandOut;have z6:Zo (g5.push { cls:=.type "tuple",data:=.seq #[x,y]}) z TI TO .ellipsis f1:=gV _ z5;refine fK (WD z6 (by simp) λg7 z7 e7=>?_);replace z7:Zo g7 z TI TO (rawInt g5.objs.size) f1:=z7;refine WD z7 (by simp) λg8 z8 e8=>?_;replace z8:Zo g8 z TI TO (rawInt g5.objs.size) false:=z8;have up:∀c o,c≠z->g5.get? c=some o->g8.get? c=some o:=λc o c1 e=>e8.extBut _ _ c1 (e7.extBut _ _ c1 (gV _ e));have t8:IsPair g8 g5.objs.size x y:=e8.extBut _ _ (XX lz) (e7.extBut _ _ (XX lz) (PY _ rfl));rw[sz]at z8 t8;refine pe ⟨_,rfl,?_⟩;show Q (.ref g5.objs.size) _;rw[sz];exact hQ g8 _ _ x y Jz z8 (.inr ⟨_,rfl⟩) ⟨_,_,up _ _ D.TOz p5⟩ (Draws.one D1 c2 λo e=>up _ o D.i1z (e5.extBut _ _ D.TOi1.symm (e4.extBut _ _ D.i12 (e3.extBut _ _ D.TOi1.symm e)))) (Draws.one D2 c4 λo e=>up _ o D.i2z (e5.extBut _ _ D.TOi2.symm e)) px py t8 λc o c1 c2 c3 c4 e=>up c o c1 (k5 c o c1 c2 c3 c4 e)
 .rw[Us Wv];simp only[];refine fK ?_;rw[<-Zi];simp only[Xf,Yb];refine fK (fK (WO ?_));show wpAny _ _ (Builtin.SmallTypes.nextOf (.ref i1) >>= _) _ _ _;refine fK (D1.item k _ _ _ hx (Draws.one D1 h1 λo e=>hs1.extBut _ _ D.i1z e) λx g2 Jy px c2 e2=>pe (pe ?_));replace e2:Heap.SameBut i1 g g2:=e2;refine fK (fK (WO ?_));show wpAny _ _ (Builtin.SmallTypes.nextOf (.ref i2) >>= _) _ _ _;refine fK (D2.item k _ _ _ hy (Draws.one D2 h2 λo e=>e2.extBut _ _ D.i12.symm (hs1.extBut _ _ D.i2z e)) λy g4 Jz py c4 e4=>pe (pe (pe ?_)));replace e4:Heap.SameBut i2 g2 g4:=e4;show wpAny _ _ (newTuple [x,y] >>= _) _ _ _;refine fK (wpAny_newTuple ?_);have sz:g4.objs.size=s.heap.objs.size:=by rw[e4.1,e2.1,hs1.1]
  have k4:∀c o,c≠z->c≠i1->c≠i2->s.heap.get? c=some o->g4.get? c=some o:=λc o c1 c3 c4 e=>e4.extBut _ _ c4 (e2.extBut _ _ c3 (hs1.extBut _ _ c1 e));refine pe ⟨_,rfl,?_⟩;show Q (.ref g4.objs.size) _;rw[sz];have up:∀c o,g4.get? c=some o->(g4.push { cls:=.type "tuple",data:=.seq #[x,y]}).get? c=some o:=λc o e=>gV _ e;refine hQ _ _ _ x y Jz (up _ _ (e4.extBut _ _ D.i2z.symm (e2.extBut _ _ D.i1z.symm hz1))) hf ⟨_,_,up _ _ (k4 _ _ D.TOz D.TOi1 D.TOi2 hTO)⟩ (Draws.one D1 c2 λo e=>up _ o (e4.extBut _ _ D.i12 e)) (Draws.one D2 c4 λo e=>up _ o e) px py ?_ λc o c1 _ c3 c4 e=>up c o (k4 c o c1 c3 c4 e);rw[<-sz];exact PY _ rfl
def JB{z TI TO i1 i2:Addr}{k n1 n2:Nat}{P1 P2:Nat->Value->Prop}{S1 S2:Nat->Heap->Prop}{a b f0:Value}{f1:Bool}{Q:PySem.Fin->Shared->Prop}(D:ZipApart z TI TO i1 i2 TI TI)(D1:Draws prog w A i1 [i1] n1 P1 S1)(D2:Draws prog w A i2 [i2] n2 P2 S2)(hz:Zo s.heap z TI TO f0 f1)(hf:Zf f0)
  (hTI:IsPair s.heap TI (.ref i1) (.ref i2)) (hTO:IsPair s.heap TO a b)
  (h1:S1 k s.heap) (h2:S2 k s.heap) (hend:k=n1\/(k<n1/\k=n2))
  (hE:∀h' e tk,(∀c o,c≠z->c≠TO->c≠i1->c≠i2->s.heap.get? c=some o->h'.get? c=some o)->(∃o,h'.get? e=some o/\o.cls=.type "StopIteration")->E (.ref e) { s with heap:=h',toks:=tk }) :
  wpAny (model prog w) A (Builtin.«zip.__next__» ⟨[.ref z],[]⟩) Q E s:=by
 show wpAny _ _ (field (.ref z) 2 >>= _) _ _ _;refine fK (V6 hz rfl (x:=.bool false) rfl ?_);show wpAny _ _ (field (.ref z) 3 >>= _) _ _ _;refine fK (V6 hz rfl (x:=.ref TI) rfl ?_);refine fK (W7 hTI rfl ?_);show wpAny _ _ (Builtin.SmallTypes.ownedTupleIsFree (.ref z) >>= _) _ _ _;refine fK (vF hz hf ?_ λg hz1 hs1=>?_)
 .rw[GQ rfl];refine fK (XD ?_);refine fK (V6 hz rfl (x:=.ref TO) rfl ?_);refine fK (WD hz (by simp) λg1 z1 e1=>?_);replace z1:Zo g1 z TI TO .ellipsis f1:=z1;refine fK ?_;simp only[Yw,Zy,Xf,Yb];refine fK (fK (Yg ?_));show wpAny _ _ (Builtin.SmallTypes.nextOf (.ref i1) >>= _) _ _ _;rcases hend with rfl|⟨hx,rfl⟩
  .refine fK (D1.done _ _ _ (Draws.one D1 h1 λo e=>e1.extBut _ _ D.i1z e) λg2 e e2 he=>?_);replace e2:Heap.ExtBut i1 g1 g2:=e2;obtain⟨oe,tB,hce⟩:=he;have z2:Zo g2 z TI TO .ellipsis f1:=e2 _ _ D.i1z.symm z1;have ez:e≠z:=λx=>by subst x;rw[z2]at tB;cases tB;simp at hce
   exact WD z2 (by simp) λg3 _ e3=>hE g3 e _ (λc o c1 _ c3 _ x=>e3.extBut _ _ c1 (e2 _ _ c3 (e1.extBut _ _ c1 x))) ⟨oe,e3.extBut _ _ ez tB,hce⟩
  .refine fK (D1.item k _ _ _ hx (Draws.one D1 h1 λo e=>e1.extBut _ _ D.i1z e) λx g2 Jy px c2 e2=>pe ?_);replace e2:Heap.SameBut i1 g1 g2:=e2;have p2:IsPair g2 TO a b:=e2.extBut _ _ D.TOi1 (e1.extBut _ _ D.TOz hTO);refine fK (W7 p2 rfl ?_);refine fK (X5 p2 λg3 p3 e3=>?_);replace e3:Heap.SameBut TO g2 g3:=e3;refine fK (YI (pe ?_));refine fK (fK (Yg ?_));show wpAny _ _ (Builtin.SmallTypes.nextOf (.ref i2) >>= _) _ _ _;refine fK (D2.done _ _ _ (Draws.one D2 h2 λo e=>e3.extBut _ _ D.TOi2.symm (e2.extBut _ _ D.i12.symm (e1.extBut _ _ D.i2z e))) λg4 e e4 he=>?_);replace e4:Heap.ExtBut i2 g3 g4:=e4;obtain⟨oe,tB,hce⟩:=he;have z4:Zo g4 z TI TO .ellipsis f1:=e4 _ _ D.i2z.symm (e3.extBut _ _ D.TOz.symm (e2.extBut _ _ D.i1z.symm z1));have ez:e≠z:=λx=>by subst x;rw[z4]at tB;cases tB;simp at hce
   exact WD z4 (by simp) λg5 _ e5=>hE g5 e _ (λc o c1 c2 c3 c4 x=>e5.extBut _ _ c1 (e4 _ _ c4 (e3.extBut _ _ c2 (e2.extBut _ _ c3 (e1.extBut _ _ c1 x))))) ⟨oe,e5.extBut _ _ ez tB,hce⟩
 .rw[Us Wv];simp only[];refine fK ?_;rw[<-Zi];simp only[Xf,Yb];refine fK (fK (WO ?_));show wpAny _ _ (Builtin.SmallTypes.nextOf (.ref i1) >>= _) _ _ _;rcases hend with rfl|⟨hx,rfl⟩
  .refine fK (D1.done _ _ _ (Draws.one D1 h1 λo e=>hs1.extBut _ _ D.i1z e) λg2 e e2 he=>?_);replace e2:Heap.ExtBut i1 g g2:=e2;exact hE g2 e _ (λc o c1 _ c3 _ x=>e2 _ _ c3 (hs1.extBut _ _ c1 x)) he
  .refine fK (D1.item k _ _ _ hx (Draws.one D1 h1 λo e=>hs1.extBut _ _ D.i1z e) λx g2 Jy px c2 e2=>pe (pe ?_));replace e2:Heap.SameBut i1 g g2:=e2;refine fK (fK (WO ?_));show wpAny _ _ (Builtin.SmallTypes.nextOf (.ref i2) >>= _) _ _ _;refine fK (D2.done _ _ _ (Draws.one D2 h2 λo e=>e2.extBut _ _ D.i12.symm (hs1.extBut _ _ D.i2z e)) λg4 e e4 he=>?_);replace e4:Heap.ExtBut i2 g2 g4:=e4;exact hE g4 e _ (λc o c1 _ c3 c4 x=>e4 _ _ c4 (e2.extBut _ _ c3 (hs1.extBut _ _ c1 x))) he
end
noncomputable def JD(z:Str):L2.It:=
  ⟨λi _=>i<z.cps.size,
   λi H x H'=>∃p c,H p=none/\x=.ref p/\H'=upd H p (.tup [.int i,.str ⟨#[c]⟩])/\z.cps[i]?=some c,
   λi _=>z.cps.size<=i⟩
def xQ{P:Program}{w:World}{K:PySem.W.Frag}{elts:List Expr}{x1}{pos:Pos}{z:Str}{t:Tok}{e it:Addr}(hne:e≠it) :
  Turn P w K (.Tuple elts x1 pos) (JD z) [e,it] e (λi h=>(∃old,IsEnum h e it i old)/\h.IsStrIter it (strIterType z) z t i/\i<=z.cps.size) where
 mem:=by simp
 obj:=λi h st b hb=>by
  obtain⟨⟨old,s1⟩,s2,_⟩:=st;simp only[Wm,Wi,W9]at hb;rcases hb with rfl|rfl
  .exact⟨_,s1,λv z=>by have z':Data.fields _=Data.cell v:=z;cases z'⟩
  .obtain⟨o,e,c,d⟩:=s2;exact⟨o,e,λv z=>by rw[d]at z;cases z⟩
 keep:=λi h h' st k=>by
  obtain⟨⟨old,s1⟩,⟨o,e2,r⟩,s3⟩:=st;exact⟨⟨old,k e (by simp) _ s1⟩,⟨o,k it (by simp) o e2,r⟩,s3⟩
 item:=by
  intro X hP hw hK hc i pins s σ H E I hf st hg;subst hP hw hK;obtain⟨⟨old,s1⟩,s2,s3⟩:=st;have Dr:=gr (prog:=X.prog) (w:=X.w) (A:=X.A.in1) (I.ok.hd hc) it z t;refine wpAny_pyNext_enum_itemD Dr s1 s2 hg hne (by simpa using hne) λu h' tk hP a1 a2 a3 a4 hk=>?_;obtain⟨c,u0,hcc,rfl⟩:=hP;refine⟨_,rfl,wpAny_letOwnedTupleGo_enum (s:={ s with heap:=h',toks:=tk+1 }) a1 λh'' b1 b2=>?_⟩;have lt:∀{c o},s.heap.get? c=some o->c≠s.heap.objs.size:=λe=>V7 (RH e);have hT:H s.heap.objs.size=none:=I.hok.fresh (Et _);have I0:Inv X pins σ (upd H s.heap.objs.size (.tup [.int i,.str ⟨#[c]⟩])) { s with heap:=s.heap.push { cls:=.type "tuple",data:=.seq #[.int i tk,.str ⟨#[c]⟩ u0]},toks:=tk+1 }:=
   I.laid (λb o e=>gV _ e) (Et _) ⟨by show 2<=sizeLine;decide,[.int i tk,.str ⟨#[c]⟩ u0],.cons ⟨_,rfl⟩ (.cons ⟨_,rfl⟩ .nil),⟨_,PY _ rfl,rfl,_,rfl⟩⟩
  have ne:∀b∈[e,it],b≠s.heap.objs.size:=λb hb=>by
   simp only[Wm,Wi,W9]at hb;rcases hb with rfl|rfl
   .exact lt s1
   .obtain⟨o,e,_⟩:=s2;exact lt e
  have fp:∀b∈[e,it],fB X pins (upd H s.heap.objs.size (.tup [.int i,.str ⟨#[c]⟩])) b:=λb hb=>⟨by rw[bw (ne b hb)];exact(hf b hb).1,(hf b hb).2⟩
  have I1:Inv X pins σ (upd H s.heap.objs.size (.tup [.int i,.str ⟨#[c]⟩])) { s with heap:=h'',toks:=tk+1 }:=by
   refine mG (s:={ s with heap:=s.heap.push { cls:=.type "tuple",data:=.seq #[.int i tk,.str ⟨#[c]⟩ u0]},toks:=tk+1 }) (ch:=[e,it]) I0 (λb o hb e=>?_) fp;simp only[Wm,Wi,W9,not_or]at hb;refine b2.extBut _ _ hb.1 ?_;by_cases hT:b=s.heap.objs.size
   .subst hT;have e':(s.heap.push { cls:=.type "tuple",data:=.seq #[.int i tk,.str ⟨#[c]⟩ u0]}).get? s.heap.objs.size=some o:=e;rw[PY _ rfl]at e';cases e';exact a3
   .refine hk b o hb.1 hb.2 ?_;have e':(s.heap.push { cls:=.type "tuple",data:=.seq #[.int i tk,.str ⟨#[c]⟩ u0]}).get? b=some o:=e;rw[Heap.get?_push_ne _ _ _ hT]at e';exact e'
  refine⟨.ref s.heap.objs.size,_,I1,rfl,⟨s.heap.objs.size,c,hT,rfl,rfl,hcc⟩,?_,λb hb=>(fp b hb).1⟩;obtain⟨o,e2,r⟩:=a2;exact⟨⟨_,by simpa using b1⟩,⟨o,b2.extBut _ _ (WZ hne) e2,r⟩,hg⟩
 done:=by
  intro X hP hw hK hc i pins s σ H E I hf st hg;subst hP hw hK;obtain⟨⟨old,s1⟩,s2,s3⟩:=st;have hi:i=z.cps.size:=YG s3 hg;subst hi;have Dr:=gr (prog:=X.prog) (w:=X.w) (A:=X.A.in1) (I.ok.hd hc) it z t;refine wpAny_pyNext_enum_endD Dr s1 s2 λh' hk=>⟨rfl,?_⟩
  refine mG (ch:=[e,it]) (t':=s.toks) I (λb o hb e=>?_) hf;simp only[Wm,Wi,W9,not_or]at hb;exact hk b o hb.2 e
 self:=λ_ _ _ _ _ st h=>by obtain⟨⟨old,s1⟩,s2⟩:=st;exact wpAny_pyIter_enum s1 h
def tD{a:List Nat}{i:Nat}{x:D}(h:(a.map λc=>D.str [c])[i]?=some x):∃c,a[i]?=some c/\x=.str [c]:=by
 rw[We]at h;obtain⟨c,h1,h2⟩:=Option.map_eq_some_iff.mp h;exact⟨c,h1,h2.symm⟩
def xR{K:PySem.W.Frag}{H:Hp}{r:List Addr}{c:Nat}:RV K H r (.str [c]) (.str ⟨#[c]⟩):=⟨rfl,by show 1<=sizeLine;decide⟩
def BY{K:PySem.W.Frag}{r:List Addr}{H:Hp}{a:List Nat}:lD K r H (Ev.cy 0 (a.map λc=>.str [c]),[]) (JD (aK a)):=λi H1 r1 h1 hr1 f1 st=>by
 refine⟨λd e=>?_,λhl=>?_⟩
 .obtain⟨x,k1,rfl⟩:=tu e;obtain⟨c,k2,rfl⟩:=tD k1;have hlt:i<a.length:=(List.getElem?_eq_some_iff.mp k2).1;refine⟨by show i<a.toArray.size;simpa using hlt,λX H2 y=>?_⟩;obtain⟨p,c',hp,rfl,rfl,hu⟩:=y;have zM:a[i]?=some c':=by simpa[aK]using hu
  rw[k2]at zM;cases zM;exact⟨r1,⟨p,[.int i,.str ⟨#[c]⟩],rfl,.of eN,.cons (by simp[RV]) (.cons xR .nil)⟩,hr1.tup hp,.tup hp⟩
 .have hl':(Ev.cy 0 (a.map λc=>D.str [c])).length<=i:=hl;rw[tw,Wa]at hl';show a.toArray.size<=i;simpa using hl'
noncomputable def JF(x y:Str):L2.It:=
  ⟨λi _=>i<x.cps.size/\i<y.cps.size,
   λi H v H'=>∃p c d,H p=none/\v=.ref p/\H'=upd H p (.tup [.str ⟨#[c]⟩,.str ⟨#[d]⟩])/\x.cps[i]?=some c/\y.cps[i]?=some d,
   λi _=>x.cps.size<=i\/y.cps.size<=i⟩
def zN{P:Program}{w:World}{K:PySem.W.Frag}{tg:Expr}{x y:Str}{t1 t2:Tok}{z TI TO i1 i2:Addr}(D:ZipApart z TI TO i1 i2 TI TI) :
  Turn P w K tg (JF x y) [z,TI,TO,i1,i2] z (λi h=>(∃f0 f1,Zo h z TI TO f0 f1/\Zf f0)/\IsPair h TI (.ref i1) (.ref i2)/\(∃a b,IsPair h TO a b)/\h.IsStrIter i1 (strIterType x) x t1 i/\h.IsStrIter i2 (strIterType y) y t2 i/\i<=x.cps.size/\i<=y.cps.size) where
 mem:=by simp
 obj:=λi h st b hb=>by
  obtain⟨⟨f0,f1,s1,s6⟩,s2,⟨u,v,s3⟩,s4,s5,_⟩:=st;simp only[Wm,Wi,W9]at hb;rcases hb with rfl|rfl|rfl|rfl|rfl
  .exact⟨_,s1,λv z=>by have z':Data.fields _=Data.cell v:=z;cases z'⟩
  .exact⟨_,s2,λv z=>by have z':Data.seq _ _=Data.cell v:=z;cases z'⟩
  .exact⟨_,s3,λv z=>by have z':Data.seq _ _=Data.cell v:=z;cases z'⟩
  .obtain⟨o,e,c,d⟩:=s4;exact⟨o,e,λv z=>by rw[d]at z;cases z⟩
  .obtain⟨o,e,c,d⟩:=s5;exact⟨o,e,λv z=>by rw[d]at z;cases z⟩
 keep:=λi h h' st k=>by
  obtain⟨⟨f0,f1,s1,s6⟩,s2,⟨u,v,s3⟩,⟨o4,e4,r4⟩,⟨o5,e5,r5⟩,s7⟩:=st;exact⟨⟨_,_,k z (by simp) _ s1,s6⟩,k TI (by simp) _ s2,⟨u,v,k TO (by simp) _ s3⟩,⟨o4,k i1 (by simp) _ e4,r4⟩,⟨o5,k i2 (by simp) _ e5,r5⟩,s7⟩
 item:=by
  intro X hP hw hK hc i pins s σ H E I hf st hg;subst hP hw hK;obtain⟨⟨f0,f1,s1,s6⟩,s2,⟨u0,v0,s3⟩,s4,s5,s7⟩:=st;have hTy:s.TypeIs (.ref z) "zip" :=⟨_,s1,rfl⟩
  have D1:=gr (prog:=X.prog) (w:=X.w) (A:=X.A.in1) (I.ok.hd hc) i1 x t1;have D2:=gr (prog:=X.prog) (w:=X.w) (A:=X.A.in1) (I.ok.hd hc) i2 y t2;unfold pyNext;refine fK (Xp (Ww (name:=Str.ofString "__next__") hTy X4 (Wx X4 hTy F.entry_zip_next
   (Fw D D1 D2 s1 s6 s2 s3 s4 s5 hg.1 hg.2 λh' f0 f1 u v tk a1 a6 a2 a3 a4 hu hv a5 hk=>pe ?_) (F.args_zip_next_1 _))))
  obtain⟨c,u0,hc1,rfl⟩:=hu;obtain⟨d,v0,hc2,rfl⟩:=hv;refine⟨_,rfl,Nj (s:={ s with heap:=h',toks:=tk }) a1 a6 λh'' f0 b1 b3 b2=>?_⟩;have lt:∀{c o},s.heap.get? c=some o->c≠s.heap.objs.size:=λe=>V7 (RH e);have hT:H s.heap.objs.size=none:=I.hok.fresh (Et _);have I0:Inv X pins σ (upd H s.heap.objs.size (.tup [.str ⟨#[c]⟩,.str ⟨#[d]⟩])) { s with heap:=s.heap.push { cls:=.type "tuple",data:=.seq #[.str ⟨#[c]⟩ u0,.str ⟨#[d]⟩ v0]},toks:=tk }:=
   I.laid (λb o e=>gV _ e) (Et _) ⟨by show 2<=sizeLine;decide,[.str ⟨#[c]⟩ u0,.str ⟨#[d]⟩ v0],.cons ⟨_,rfl⟩ (.cons ⟨_,rfl⟩ .nil),⟨_,PY _ rfl,rfl,_,rfl⟩⟩
  have ne:∀b∈[z,TI,TO,i1,i2],b≠s.heap.objs.size:=λb hb=>by
   simp only[Wm,Wi,W9]at hb;rcases hb with rfl|rfl|rfl|rfl|rfl
   .exact lt s1
   .exact lt s2
   .exact lt s3
   .obtain⟨o,e,_⟩:=s4;exact lt e
   .obtain⟨o,e,_⟩:=s5;exact lt e
  have fp:∀b∈[z,TI,TO,i1,i2],fB X pins (upd H s.heap.objs.size (.tup [.str ⟨#[c]⟩,.str ⟨#[d]⟩])) b:=λb hb=>⟨by rw[bw (ne b hb)];exact(hf b hb).1,(hf b hb).2⟩
  have I1:Inv X pins σ (upd H s.heap.objs.size (.tup [.str ⟨#[c]⟩,.str ⟨#[d]⟩])) { s with heap:=h'',toks:=tk }:=by
   refine mG (s:={ s with heap:=s.heap.push { cls:=.type "tuple",data:=.seq #[.str ⟨#[c]⟩ u0,.str ⟨#[d]⟩ v0]},toks:=tk }) (ch:=[z,TI,TO,i1,i2]) I0 (λb o hb e=>?_) fp;simp only[Wm,Wi,W9,not_or]at hb;refine b2.extBut _ _ hb.1 ?_;by_cases hT:b=s.heap.objs.size
   .subst hT;have e':(s.heap.push { cls:=.type "tuple",data:=.seq #[.str ⟨#[c]⟩ u0,.str ⟨#[d]⟩ v0]}).get? s.heap.objs.size=some o:=e;rw[PY _ rfl]at e';cases e';exact a5
   .refine hk b o hb.1 hb.2.2.1 hb.2.2.2.1 hb.2.2.2.2 ?_;have e':(s.heap.push { cls:=.type "tuple",data:=.seq #[.str ⟨#[c]⟩ u0,.str ⟨#[d]⟩ v0]}).get? b=some o:=e;rw[Heap.get?_push_ne _ _ _ hT]at e';exact e'
  refine⟨.ref s.heap.objs.size,_,I1,rfl,⟨s.heap.objs.size,c,d,hT,rfl,rfl,hc1,hc2⟩,?_,λb hb=>(fp b hb).1⟩;exact⟨⟨_,_,b1,b3⟩,b2.extBut _ _ D.TIz (hk _ _ D.TIz D.TITO D.TIi1 D.TIi2 s2),a2.imp λ_ z=>z.imp λ_ z=>b2.extBut _ _ D.TOz z,Draws.one D1 a3 λo e=>b2.extBut _ _ D.i1z e,Draws.one D2 a4 λo e=>b2.extBut _ _ D.i2z e,hg.1,hg.2⟩
 done:=by
  intro X hP hw hK hc i pins s σ H E I hf st hg;subst hP hw hK;obtain⟨⟨f0,f1,s1,s6⟩,s2,⟨u0,v0,s3⟩,s4,s5,s7,s8⟩:=st;have hTy:s.TypeIs (.ref z) "zip" :=⟨_,s1,rfl⟩
  have D1:=gr (prog:=X.prog) (w:=X.w) (A:=X.A.in1) (I.ok.hd hc) i1 x t1;have D2:=gr (prog:=X.prog) (w:=X.w) (A:=X.A.in1) (I.ok.hd hc) i2 y t2;have hend:i=x.cps.size\/(i<x.cps.size/\i=y.cps.size):=by
   rcases Y9 i x.cps.size with h1|h1
   .rcases hg with h2|h2
    .omega
    .exact .inr ⟨h1,by omega⟩
   .exact .inl (by omega)
  unfold pyNext;refine fK (Xp (Ww (name:=Str.ofString "__next__") hTy X4 (Wx X4 hTy F.entry_zip_next
   (JB D D1 D2 s1 s6 s2 s3 s4 s5 hend λh' e tk hk he=>?_) (F.args_zip_next_1 _))))
  obtain⟨o,ho,hc⟩:=he;refine fK (Xl (T:="StopIteration") (b:=true) ⟨o,ho,hc⟩ isSubtype_stop (pe ⟨rfl,?_⟩));refine mG (ch:=[z,TI,TO,i1,i2]) (t':=tk) I (λb o hb e=>?_) hf;simp only[Wm,Wi,W9,not_or]at hb;exact hk b o hb.1 hb.2.2.1 hb.2.2.2.1 hb.2.2.2.2 e
 self:=λ_ _ _ _ _ st h=>by obtain⟨f0,f1,s1,_⟩:=st.1;exact Fq s1 h
def Fx{K:PySem.W.Frag}{r:List Addr}{H:Hp}{a b:List Nat}:lD K r H (Ev.cZ (a.map λc=>.str [c]) (b.map λc=>.str [c]),[]) (JF (aK a) (aK b)):=λi H1 r1 h1 hr1 f1 st=>by
 refine⟨λd e=>?_,λhl=>?_⟩
 .obtain⟨x,y,k1,k2,rfl⟩:=zip_get e;obtain⟨c,k3,rfl⟩:=tD k1;obtain⟨d,k4,rfl⟩:=tD k2;have hlt:i<a.length:=(List.getElem?_eq_some_iff.mp k3).1;have xC:i<b.length:=(List.getElem?_eq_some_iff.mp k4).1;refine⟨⟨by show i<a.toArray.size;simpa using hlt,by show i<b.toArray.size;simpa using xC⟩,λX H2 y=>?_⟩;obtain⟨p,c',d',hp,rfl,rfl,hu,hv⟩:=y;have zM:a[i]?=some c':=by simpa[aK]using hu
  have hv':b[i]?=some d':=by simpa[aK]using hv
  rw[k3]at zM;cases zM;rw[k4]at hv';cases hv';exact⟨r1,⟨p,[.str ⟨#[c]⟩,.str ⟨#[d]⟩],rfl,.of eN,.cons xR (.cons xR .nil)⟩,hr1.tup hp,.tup hp⟩
 .have hl':(Ev.cZ (a.map λc=>D.str [c]) (b.map λc=>D.str [c])).length<=i:=hl;simp only[Ev.cZ,List.length_zipWith,Wa]at hl';show a.toArray.size<=i\/b.toArray.size<=i;simp only[uB];omega
abbrev DY(h:Heap)(x:Str)(t:Tok):Heap:=h.push { cls:=.type (strIterType x),data:=.fields #[.str x t,.int 0 0]}
abbrev zs2(h:Heap)(x y:Str)(t u:Tok):Heap:=(DY h x t).push { cls:=.type (strIterType y),data:=.fields #[.str y u,.int 0 0]}
abbrev DZ (h:Heap) (x y:Str) (t u:Tok):Heap:=(zs2 h x y t u).push { cls:=.type "tuple",data:=.seq #[.ref h.objs.size,.ref (DY h x t).objs.size]}
abbrev D0 (h:Heap) (x y:Str) (t u:Tok):Heap:=(DZ h x y t u).push { cls:=.type "tuple",data:=.seq #[.none,.none]}
abbrev vG (h:Heap) (x y:Str) (t u:Tok):Heap:=(D0 h x y t u).push { cls:=.type "zip",data:=.fields #[.none,.bool false,.bool false,.ref (zs2 h x y t u).objs.size,.ref (DZ h x y t u).objs.size]}
set_option maxHeartbeats 1000000 in
def xS(x y:Str)(t u:Tok) :
  Meets (Builtin.«zip.__new__» ⟨[.type "zip",.str x t,.str y u],[]⟩) (λ_ R s=>R (.ok (.ret (.ref (D0 s.heap x y t u).objs.size))) { s with heap:=vG s.heap x y t u }):=
 .of_wp λprog w A R s h=>by
  obtain⟨hp,g,d,tk,os⟩:=s;have hsub:=sub_zip
  wp_walk using wpAny_pyIter_strU
  exact⟨_,rfl,h⟩
section
variable{prog:Program}{w:World}{A:Around}{E:Value->Shared->Prop}{s:Shared}
def zO{x y:Str}{t u:Tok}{Q:Value->Shared->Prop}
  (h:∀h',IsZip h' (s.heap.objs.size+4) (s.heap.objs.size+2) (s.heap.objs.size+3) .none->IsPair h' (s.heap.objs.size+2) (.ref s.heap.objs.size) (.ref (s.heap.objs.size+1))->
   IsPair h' (s.heap.objs.size+3) .none .none->h'.IsStrIter s.heap.objs.size (strIterType x) x t 0->h'.IsStrIter (s.heap.objs.size+1) (strIterType y) y u 0->
   (∀c o,s.heap.get? c=some o->h'.get? c=some o)->Q (.ref (s.heap.objs.size+4)) { s with heap:=h' }) :
  wpAny (model prog w) A (call (.type "zip") [.str x t,.str y u]) Q E s:=by
 refine callType_new F.called_zip (by decide) (F.typeCall_zip_2 _ _) (F.newCall_zip_2 _ _) (λobj=>F.args_object_init_3 obj _ _) F.entry_zip_new
  (xS x y t u) ?_
 have z1:(DY s.heap x t).objs.size=s.heap.objs.size+1:=XH ..;have z2:(zs2 s.heap x y t u).objs.size=s.heap.objs.size+2:=by rw[XH,z1]
 have z3:(DZ s.heap x y t u).objs.size=s.heap.objs.size+3:=by rw[XH,z2]
 have z4:(D0 s.heap x y t u).objs.size=s.heap.objs.size+4:=by rw[XH,z3]
 have g5:(vG s.heap x y t u).get? (D0 s.heap x y t u).objs.size=some _:=PY _ rfl;have g4:(vG s.heap x y t u).get? (DZ s.heap x y t u).objs.size=some _:=gV _ (PY _ rfl);have g3:(vG s.heap x y t u).get? (zs2 s.heap x y t u).objs.size=some _:=gV _ (gV _ (PY _ rfl));have g2:(vG s.heap x y t u).get? (DY s.heap x t).objs.size=some _:=gV _ (gV _ (gV _ (PY _ rfl)));have g1:(vG s.heap x y t u).get? s.heap.objs.size=some _:=gV _ (gV _ (gV _ (gV _ (PY _ rfl))));show _/\_;rw[z2,z3,z4]at g5;rw[z1,z2]at g3;rw[z3]at g4;rw[z1]at g2;rw[z4];exact⟨⟨_,g5,rfl⟩,h _ g5 g3 g4 ⟨_,g1,rfl,rfl⟩ ⟨_,g2,rfl,rfl⟩ λc o x=>
  gV _ (gV _ (gV _ (gV _ (gV _ x))))⟩
end
section
variable{G:Tb}{n:Nat}{sc:Scope}{N:List Str}{df:Bool}{m:List Nat}{a b:E}{xa xb:Expr}{pos:Pos}
def BZ {elts:List Expr}{x1}{tpos p:Pos}(ha:JE G n sc N df m a xa) (hg:sc.names.lookup ("enumerate" : Str)=some .globalImplicit:=by rfl) (zP:("enumerate" : Str)∈G.bl:=by decide +kernel)
  (hst:∀env:Env,starEach [xa] env=[(false,eval xa env)]:=by intro _;rfl) :
  JI G n sc N df m (.ji a) (.Tuple elts x1 tpos) (.Call (.Name "enumerate" p) [xa] [] pos):=λX g=>by
 intro pins s σ H Rr I q;obtain⟨r,fr,h,src,h',sr,hr,e,q⟩:=q;rw[Ev.bR]at e;replace e:=Ev.ah e;obtain⟨x,h1,e1,e⟩:=e;replace e:=Ev.aC e;obtain⟨e,y0⟩:=e;subst y0;have sZ:PA X [xa] _:=g9 (ha X g) jJ (by rw[hst];rfl);refine Call_ (fz I (g.gl hg) (g.bl _ zP) (show bootBuiltins ("enumerate" : Str)=some (.type "enumerate")by decide +kernel) (V2 (bF (sZ pos pins s σ H (λvs H1=>∃r1 u,vs=[u]/\RV X.K H1 r1 x u/\HR X.K H1 r1 h'/\Fm X.K r r1 H H1) I ⟨r,fr,h,x,h',sr,hr,e1,λu H1 r1 v1 hr1 f1=>⟨r1,u,rfl,v1,hr1,f1⟩⟩) λus s1 z=>?_) (hst _) rfl));obtain⟨vs,H1,I1,rv,r1,u,rfl,v1,hr1,f1⟩:=z;simp only[Dp]at e;obtain⟨s1',k1,rfl⟩:=e;cases x<;>simp only[Ev.BA,reduceCtorEq]at k1
 rename_i a;cases k1;simp only[RV]at v1;obtain⟨rfl,hl⟩:=v1;cases rv with
 |cons ra rb=>
 cases rb;obtain⟨t,rfl⟩:=ra;refine call_enumerate_str λhp c1 c2 c3 c4=>?_;have I2:Inv X pins σ H1 { s1 with heap:=hp,toks:=s1.toks }:=I1.kept c4;have nb:∀b∈[s1.heap.objs.size+1,s1.heap.objs.size],s1.heap.objs.size<=b:=λb hb=>by
  simp only[Wm,Wi,W9]at hb;rcases hb with rfl|rfl
  .exact Zn _
  .exact Et _
 exact wpAny_pyIter_enum c1 ⟨_,[s1.heap.objs.size+1,s1.heap.objs.size],_,_,H1,rfl,I2,xQ (Nat.succ_ne_self _),⟨⟨_,c1⟩,c2,WH _⟩,λb hb=>I1.se (nb b hb) (I1.hok.fresh (nb b hb)),q _ H1 r1 hr1 f1 BY⟩
def Fy {tg:Expr}{p:Pos}(ha:JE G n sc N df m a xa) (hb:JE G n sc N df m b xb) (hg:sc.names.lookup ("zip" : Str)=some .globalImplicit:=by rfl) (zP:("zip" : Str)∈G.bl:=by decide +kernel)
  (hst:∀env:Env,starEach [xa,xb] env=[(false,eval xa env),(false,eval xb env)]:=by intro _;rfl) (xT:∀env:Env,starEach [xb] env=[(false,eval xb env)]:=by intro _;rfl) :
  JI G n sc N df m (.jj a b) tg (.Call (.Name "zip" p) [xa,xb] [] pos):=λX g=>by
 intro pins s σ H Rr I q;obtain⟨r,fr,h,src,h',sr,hr,e,q⟩:=q;simp only[Ev.bR]at e;replace e:=Ev.ah e;obtain⟨x,h1,e1,e⟩:=e;replace e:=Ev.ah e;obtain⟨y,h2,e2,e⟩:=e;replace e:=Ev.aC e;obtain⟨e,y0⟩:=e;subst y0;have sZ:PA X [xa,xb] _:=g9 (ha X g) (g9 (hb X g) jJ (xT _)) (by rw[hst,xT]);refine Call_ (fz I (g.gl hg) (g.bl _ zP) (show bootBuiltins ("zip" : Str)=some (.type "zip")by decide +kernel) (V2 (bF (sZ pos pins s σ H (λvs H1=>∃r1 u v,vs=[u,v]/\RV X.K H1 r1 x u/\RV X.K H1 r1 y v/\HR X.K H1 r1 h'/\Fm X.K r r1 H H1) I ?_) λus s1 z=>?_) (by rw[hst,xT]) (by rw[xT];rfl)))
 .refine⟨r,fr,h,x,h1,sr,hr,e1,λu H1 r1 v1 hr1 f1=>?_⟩;refine⟨r1,fr,h1,y,h',sr.mono f1,hr1,e2,λv H2 r2 v2 hr2 f2=>?_⟩;exact⟨r2,u,v,rfl,v1.mono f2,v2,hr2,f1.trans f2⟩
 .obtain⟨vs,H1,I1,rv,r1,u,v,rfl,v1,v2,hr1,f1⟩:=z;simp only[Dp]at e;obtain⟨s1',k1,rfl⟩:=e;unfold Ev.wY at k1;split at k1
  case h_2=>cases k1
  rename_i a b;cases k1;simp only[RV]at v1 v2;obtain⟨rfl,_⟩:=v1;obtain⟨rfl,_⟩:=v2;cases rv with
  |cons ra rb=>
  cases rb with
  |cons rb rc=>
  cases rc;obtain⟨t,rfl⟩:=ra;obtain⟨t2,rfl⟩:=rb;refine zO λhp c1 c2 c3 c4 c5 c7=>?_;have I2:Inv X pins σ H1 { s1 with heap:=hp,toks:=s1.toks }:=I1.kept c7;refine wpAny_pyIter_zip c1 ⟨_,[s1.heap.objs.size+4,s1.heap.objs.size+2,s1.heap.objs.size+3,s1.heap.objs.size,s1.heap.objs.size+1],_,_,H1,rfl,I2,zN ?_,⟨⟨_,_,c1,.inl rfl⟩,c2,⟨_,_,c3⟩,c4,c5,WH _,WH _⟩,λb hb=>?_,q _ H1 r1 hr1 f1 Fx⟩
  .constructor <;> (intro z;have z2:@Eq Nat _ _:=z;omega)
  .have hb':s1.heap.objs.size<=b:=by
    simp only[Wm,Wi,W9]at hb;rcases hb with rfl|rfl|rfl|rfl|rfl
    .exact XW _ _
    .exact XW _ _
    .exact XW _ _
    .exact Et _
    .exact XW _ _
   exact I1.se hb' (I1.hok.fresh hb')
end
theorem az.ofInts{K:PySem.W.Frag}{H:Hp}{r:List Addr}:∀ns:List Int,az K H r (ns.map D.int) (ns.map V.int)
 |[]=>.nil
 |_ :: l=>.cons rfl (az.ofInts l)
def JH{K:PySem.W.Frag}{H:Hp}{a:Addr}{vs:List V}(hO:pP H)(hS:eH K H a vs):xm K H a vs:=by
 rcases hS with h|h
 .rcases h with h|⟨o,h⟩
  .rcases hO a with q|⟨o,xs,q⟩
   .rw[q]at h;cases h
   .rw[q]at h;cases h
  .exact .inl ⟨o,h⟩
 .exact .inr h
def Nl{K:PySem.W.Frag}{F:List Ev.Fn}{w n f:Nat}{H:Hp}{a:Addr}{ns:List Int}(hO:pP H)(hS:eH K H a (ns.map V.int)){h':Hh}(e:Ev.run F w n f [.ref 0] [.bO (ns.map D.int)]=.ok (.bl true) h') :
  mX K F w n f [.ref a] H (λv _=>v=.bl true) λ_ _ _=>False:=by
 refine⟨[a],[.bO (ns.map D.int)],[.ref 0],.bl true,h',.cons (show RV K H [a] (.ref 0) (.ref a)from ⟨a,rfl,rfl⟩) .nil,⟨rfl,λk o hk=>?_,λk l b x y _ _ hk _=>?_
  ⟩,e,λv H' r' v1 _ _=>v1⟩
 .cases k with
  |zero=>
   simp at hk;subst hk;exact⟨a,rfl,_,JH hO hS,az.ofInts ns⟩
  |succ k=>simp at hk
 .cases k with
  |zero=>simp at hk
  |succ k=>simp at hk
def Fz{F:List Ev.Fn}{wh n f:Nat}{l:PySem.W.OpenLaw}{q:Program}{loose:List Str}{XP:(Str->Option Value)->Heap->Prop}{YP:World->Heap->Prop}{d:DefRec}{K:Params->PySem.W.Frag}{x:Str}(hn:l.most=some 63)(hdf:d.params.defaults=[])(hr:gh n callerA)
  (hY:∀(w:World) (h:Heap),YP w h->(K w.params).In h) (good:∀ns:List Int,ns.length<=63->∃h',Ev.run F wh n f [.ref 0] [.bO (ns.map D.int)]=.ok (.bl true) h')
  (Fo:∀(w:World) (mg:Str->Option Value) (fa:Addr) (h:Heap),(K w.params).In h->h.Ns mainGlobals mg->mg d.name=some (.ref fa)->
   ∃fd:FuncData,(∀(s:Shared) (u:Value),BindsTo s fd ⟨[u],[]⟩ [(x,u)])/\∀base:Heap,(K w.params).In base->base.Ns mainGlobals mg->ig l.prog w (K w.params) mg base lg n fa fd [x] (mX (K w.params) F wh n f)) :
  PySem.W.WalkO q loose XP YP l.row.toRowW d [] (λf vs=>PySem.call f vs):=
 L2.Bx (n:=63) (k:=n) (x:=x) (CX:=lg) (sp:=λK=>mX K F wh n f) hn (by decide) hdf hr hY Fo (λK H a ns hl hO hS=>by
  obtain⟨h',e⟩:=good ns hl;exact Nl hO hS e) λ_ _ _ _ z=>z
theorem zQ{P:Program}{w:World}{K:PySem.W.Frag}{mg:Str->Option Value}{base:Heap}{G:Tb}(T:Top P w K mg G)
  (st:∀n,rH P w K mg base G n->rH P w K mg base G (n+1)):∀n,rH P w K mg base G n
 |0=>λf i _=>E4
 |n+1=>st n (zQ T st n)
end Sm
namespace Sm
open PySem PySem.Spec PyProof.Rows L2
open Ev (D O Hh Fr R aM E Es Eo It T S Ss Fl Src br aZ TY BI ME)
section
variable{G:Tb}{n:Nat}{sc:Scope}{N:List Str}{df:Bool}{m:List Nat}{a b:E}{xa xb:Expr}{pos:Pos}
noncomputable def hasB(N:List Str)(m:List Nat)(x:Str)(i:Nat):Bool:=(List.range N.length).any λj=>m[j]?==some i&&N[j]?==some x
def hasB.of{x:Str}{i:Nat}(h:hasB N m x i=true):∃j:Nat,m[j]?=some i/\N[j]?=some x:=by
 obtain⟨j,_,q⟩:=List.any_eq_true.mp h;rw[Lf]at q;exact⟨j,by simpa using q.1,by simpa using q.2⟩
noncomputable def vB (sc:Scope) (N:List Str) (m:List Nat) (x:Str) (i:Nat):Bool:=hasB N m x i&&(sc.names.lookup x==some .local ||sc.names.lookup x==some .cell ||sc.names.lookup x==some .free)&&!(x==("__debug__" : Str))&&!(x==("__classdict__" : Str))
def jv{x:Str}{i:Nat}(h:vB sc N m x i=true):JE G n sc N df m (.v i) (.Name x pos):=by
 unfold vB at h;simp only[Lf,Ym,WG]at h;obtain⟨⟨⟨h1,h2⟩,h3⟩,h4⟩:=h;obtain⟨j,e1,e2⟩:=hasB.of h1;exact Rg j i e1 e2 (by rcases h2 with (h2|h2)|h2;exact .inl (by simpa using h2);exact .inr (.inl (by simpa using h2));exact .inr (.inr (by simpa using h2))) h3 h4
noncomputable def gB(sc:Scope)(N:List Str)(df:Bool)(m:List Nat)(x:Str)(i:Nat):Bool:=hasB N m x i&&(sc.names.lookup x==some .local || (df&&sc.names.lookup x==some .cell))&&decide m.Nodup&&decide N.Nodup
theorem gB.of{x:Str}{i:Nat}(h:gB sc N df m x i=true):∃j:Nat,m[j]?=some i/\N[j]?=some x/\(sc.names.lookup x=some .local\/(df=true/\sc.names.lookup x=some .cell))/\m.Nodup/\N.Nodup:=by
 unfold gB at h;simp only[Lf,WG]at h;obtain⟨⟨⟨h1,h2⟩,h3⟩,h4⟩:=h;obtain⟨j,e1,e2⟩:=hasB.of h1;exact⟨j,e1,e2,by rcases h2 with h2|⟨h2,h5⟩;exact .inl (by simpa using h2);exact .inr ⟨h2,by simpa using h5⟩,Wz h3,Wz h4⟩
def Tu{x:Str}{i:Nat}(h:gB sc N df m x i=true):JG G n sc N df m (.one i) (.Name x pos):=by
 obtain⟨j,e1,e2,e3,e4,e5⟩:=gB.of h;exact IC j i e4 e5 e1 e2 e3
def Tv{x:Str}{i:Nat}{l:List Nat}{xs:List Expr}(h:gB sc N df m x i=true)(hs:qR G n sc N df m l xs):qR G n sc N df m (i :: l) (.Name x pos :: xs):=by
 obtain⟨j,e1,e2,e3,e4,e5⟩:=gB.of h;exact BD j i e4 e5 hs e1 e2 e3
def Rp{i:Nat}{x:Str}{pos':Pos}(h:gB sc N df m x i=true)(ha:JE G n sc N df m a xa)(hs:∀env:Env,swapsWith xa (some (.Name x pos')) pos.line env=pure false:=by intro _;rfl):JS G n sc N df m (.set i a) (.Assign [.Name x pos'] xa pos):=by
 obtain⟨j,e1,e2,e3,e4,e5⟩:=gB.of h;exact ID j i e4 e5 ha hs e1 e2 e3
noncomputable def PB (sc:Scope) (x:Str):Bool:=sc.names.lookup x==some .globalImplicit&&!(x==("__debug__" : Str))
def Tw{f:Nat}{i:FI}{es:Es}{x:Str}{e0:Expr}{xs:List Expr}{p:Pos}(h:PB sc x=true)(hf:G.fi[f]?=some i)(hx:i.name=x)(hs:JA G n sc N df m es (e0 :: xs))
  (hst:∀env:Env,starEach (e0 :: xs) env=(false,eval e0 env) :: starEach xs env:=by intro _;rfl) (hpl:∀env:Env,(backTo pos (starEach xs env)).any (·.1)=false:=by intro _;rfl) :
  JE G n sc N df m (.cl f es) (.Call (.Name x p) (e0 :: xs) [] pos):=by
 subst hx;unfold PB at h;simp only[Lf,Ym]at h;exact Na hf hs (by simpa using h.1) h.2 hst hpl
noncomputable def Tz:Expr->List Str
 |.Name x _=>[x]
 |.Tuple xs _ _=>xs.filterMap λy=>match y with|.Name x _=>some x|_=>none
 |_=>[]
noncomputable def PC(N:List Str)(m:List Nat)(scope:Scope):List (Str×Nat):=(N.zip m).filter λp=>scope.names.contains (p.1,NameKind.free)
noncomputable def cN(N:List Str)(m:List Nat)(scope:Scope)(tg:Expr):List Str:=Tz tg++(PC N m scope).map (·.1)
noncomputable def cM(N:List Str)(m:List Nat)(scope:Scope)(t:T):List Nat:=Ev.slots t++(PC N m scope).map (·.2)
def Nm{elt:E}{t:T}{it:Ev.It}{cond:Eo}{tg xi xe:Expr}{ifs:List Expr}{scope:Scope}(hn:sN sc N m scope t (cN N m scope tg) (cM N m scope t)=true)(hs:IL sc scope=true)
  (hi:JI G n sc N df m it tg xi) (hg:JG G n (gM sc scope) (cN N m scope tg) false (cM N m scope t) t tg) (hc:JC G n (gM sc scope) (cN N m scope tg) false (cM N m scope t) cond ifs)
  (he:JE G n (gM sc scope) (cN N m scope tg) false (cM N m scope t) elt xe) (hf:∀(env:Env) x,foldedSetIterable xi env x=pure x:=by intro _ _;rfl):JE G n sc N df m (.comp elt t it cond) (.ListComp xe [⟨tg,xi,ifs,0⟩] scope pos):=
 E7 hi hg hc he (namesOk.of hn) (lE.of hs) hf
def Rq{rest:List Expr}(ha:JT G n sc N df m a xa)(hb:JW G n sc N df m b (.BoolOp .And (xb :: rest) pos)):JT G n sc N df m (.an a b) (.BoolOp .And (xa :: xb :: rest) pos):=Im (DJ ha hb)
def Rt{rest:List Expr}(ha:JT G n sc N df m a xa)(hb:JW G n sc N df m b (.BoolOp .Or (xb :: rest) pos)):JT G n sc N df m (.orr a b) (.BoolOp .Or (xa :: xb :: rest) pos):=Im (ze ha hb)
noncomputable def allB(G:Tb)(n:Nat):List (Ss×Stmt×List Str)->Prop
 |[]=>True
 |p :: r=>kP G n (aN p.2.1) p.2.2 true (List.range p.2.2.length) p.1 (gn p.2.1)/\allB G n r
theorem allB.get:∀{l:List (Ss×Stmt×List Str)}{k:Nat}{p:Ss×Stmt×List Str},allB G n l->l[k]?=some p->kP G n (aN p.2.1) p.2.2 true (List.range p.2.2.length) p.1 (gn p.2.1)
 |[],_,_,_,e=>nomatch e
 |_ :: _,0,_,h,e=>by cases e;exact h.1
 |_ :: r,k+1,p,h,e=>allB.get (l:=r) (k:=k) h.2 (by simpa using e)
end
end Sm
namespace Sm
open PySem PySem.Spec PyProof.Rows L2 PySem.SeqAt
open Ev (D O Hh Fr R aM E Es Eo T S Ss Fl Src br aZ TY BI ME)
end Sm
namespace Sm
open PySem PySem.Spec PyProof.Rows L2
open Ev (D O Hh Fr R aM E Es Eo It T S Ss Fl Src br aZ TY BI ME)
end Sm
namespace Pv
open Ev (D br aZ TY BI ME T E Es Eo It S Ss Fn big deep b2i rep bM cR bx aL cut bT cI slots)
def nd{α:Type _}{a b:α}(h:a=b):a=b:=h
inductive V where
 |bA|bl (b:Bool)|int (i:Int)|str (s:List Nat)|tup (l:List V)|lst (l:List V)|bO (l:List V)
inductive Sl where
 |val (v:V)|own (l:List V)|bor (l:List V)|ro (l:List V)
abbrev Fr:=List (Option Sl)
inductive R(α:Type) where
 |ok (a:α) (fr:Fr)
 |bad
noncomputable def R.bind{α β:Type}(r:R α)(f:α->Fr->R β):R β:=
 match r with
 |.ok a h=>f a h
 |.bad=>.bad
@[simp] theorem ak{α β:Type}(a:α)(h:Fr)(f:α->Fr->R β):(R.ok a h).bind f=f a h:=nd rfl
@[simp] theorem By{α β:Type}(f:α->Fr->R β):(R.bad:R α).bind f=.bad:=nd rfl
def ah{α β:Type}{r:R α}{f:α->Fr->R β}{b:β}{h:Fr}(e:r.bind f=.ok b h):∃a h1,r=.ok a h1/\f a h1=.ok b h:=by
 cases r with
 |ok a h1=>exact⟨a,h1,rfl,e⟩
 |bad=>cases e
noncomputable def R.of{α:Type}(o:Option α)(h:Fr):R α:=match o with
 |some a=>.ok a h
 |none=>.bad
@[simp] theorem cW{α:Type}(a:α)(h:Fr):R.of (some a) h=.ok a h:=nd rfl
def aC{α:Type}{o:Option α}{h h':Fr}{a:α}(e:R.of o h=.ok a h'):o=some a/\h'=h:=by
 cases o with
 |none=>cases e
 |some b=>cases e;exact⟨rfl,rfl⟩
inductive Fl where
 |nx|bk|ct|ret (v:V)
mutual
noncomputable def ofD:D->Option V
 |.bA=>some .bA
 |.bl b=>some (.bl b)
 |.int i=>some (.int i)
 |.str s=>some (.str s)
 |.tup ds=>(tE ds).map .tup
 |.ref _=>none
noncomputable def tE:List D->Option (List V)
 |[]=>some []
 |d :: ds=>(ofD d).bind λv=>(tE ds).map λvs=>v :: vs
end
noncomputable def cg(f:V->V->Option Bool):List V->List V->Option Bool
 |[],[]=>some true
 |x :: xs,y :: ys=>(f x y).bind λb=>(cg f xs ys).bind λc=>some (b&&c)
 |_,_=>some false
noncomputable def dF:Nat->V->V->Option Bool
 |0,_,_=>none
 |_+1,.bA,.bA=>some true
 |_+1,.bl a,.bl b=>some (a==b)
 |_+1,.int a,.int b=>some (a==b)
 |_+1,.bl a,.int b=>some (b2i a==b)
 |_+1,.int a,.bl b=>some (a==b2i b)
 |_+1,.str a,.str b=>some (a==b)
 |n+1,.tup a,.tup b=>cg (dF n) a b
 |n+1,.lst a,.lst b=>cg (dF n) a b
 |n+1,.bO a,.lst b=>cg (dF n) a b
 |n+1,.lst a,.bO b=>cg (dF n) a b
 |_+1,.bO _,.bO _=>none
 |_+1,_,_=>some false
noncomputable def truthy:V->Bool
 |.bA=>false
 |.bl b=>b
 |.int i=>i != 0
 |.str s=>!s.isEmpty
 |.tup ds=>!ds.isEmpty
 |.lst ds=>!ds.isEmpty
 |.bO ds=>!ds.isEmpty
noncomputable def dP(l:List V):Option V:=if l.length<=big then some (.lst l)else none
noncomputable def fV(l:List V):Option V:=if l.length<=big then some (.tup l)else none
noncomputable def bP:br->V->V->Option V
 |.add,.int i,.int j=>some (.int (i+j))
 |.add,.str a,.str b=>if a.length+b.length<=big then some (.str (a++b))else none
 |.add,.tup a,.tup b=>if a.length+b.length<=big then some (.tup (a++b))else none
 |.add,.lst a,.lst b=>dP (a++b)
 |.sub,.int i,.int j=>some (.int (i - j))
 |.mul,.int i,.int j=>if bM i j then some (.int (i*j))else none
 |.mul,.str a,.int k=>if 0<=k/\k<=1000/\a.length<=1000 then some (.str (rep k.toNat a))else none
 |.mul,.tup a,.int k=>if 0<=k/\k<=1000/\a.length<=1000 then some (.tup (rep k.toNat a))else none
 |.mul,.lst a,.int k=>if 0<=k/\k<=1000/\a.length<=1000 then dP (rep k.toNat a)else none
 |.fdiv,.int i,.int j=>if 0<j/\j<1073741824 then some (.int (i / j))else none
 |.mod,.int i,.int j=>if 0<j then some (.int (i % j))else none
 |_,_,_=>none
noncomputable def cop(o:aZ)(x y:V):Option Bool:=match o,x,y with
 |.eq,x,y=>dF deep x y
 |.ne,x,y=>(dF deep x y).map (!·)
 |.lt,.int i,.int j=>some (decide (i<j))
 |.gt,.int i,.int j=>some (decide (j<i))
 |_,_,_=>none
noncomputable def dY(x y:V):Option V:=match x,y with
 |.tup ds,.int i=>bx ds i
 |.str s,.int i=>(bx s i).map λc=>.str [c]
 |.lst ds,.int i=>bx ds i
 |.bO ds,.int i=>bx ds i
 |_,_=>none
noncomputable def fC(x:V)(lo hi:Option Int):Option V:=match x with
 |.tup ds=>some (.tup (cut ds lo hi))
 |.str s=>some (.str (cut s lo hi))
 |.lst ds=>dP (cut ds lo hi)
 |.bO ds=>dP (cut ds lo hi)
 |_=>none
noncomputable def toT:V->Option V
 |.tup l=>some (.tup l)
 |.lst l=>fV l
 |.bO l=>fV l
 |_=>none
noncomputable def kO:V->Option V
 |.tup ds=>some (.tup ds.reverse)
 |.str s=>some (.str s.reverse)
 |.lst ds=>dP ds.reverse
 |.bO ds=>dP ds.reverse
 |_=>none
noncomputable def qc:V->Option V
 |.lst l=>fV l.reverse
 |_=>none
noncomputable def boolsOf:List V->Option (List Bool)
 |[]=>some []
 |.bl b :: ds=>(boolsOf ds).map λr=>b :: r
 |_=>none
noncomputable def intsOf:List V->Option (List Int)
 |[]=>some []
 |.int i :: ds=>(intsOf ds).map λr=>i :: r
 |_=>none
noncomputable def strsOf:List V->Option (List (List Nat))
 |[]=>some []
 |.str s :: ds=>(strsOf ds).map λr=>s :: r
 |_=>none
noncomputable def m7:V->Option (List V)
 |.lst l=>some l
 |.bO l=>some l
 |_=>none
noncomputable def dw(b:BI)(xs:List V):Option V:=match b,xs with
 |.len,[.str s]=>if s.length<=big then some (.int s.length)else none
 |.len,[.tup ds]=>some (.int ds.length)
 |.len,[x]=>(m7 x).map λds=>.int ds.length
 |.sum,[x]=>((m7 x).bind intsOf).map λis=>.int is.sum
 |.min,[.int i,.int j]=>some (.int (if j<i then j else i))
 |.abs,[.int i]=>some (.int (if i<0 then -i else i))
 |_,_=>none
noncomputable def eK(m:ME)(o:V)(xs:List V):Option V:=match m,o,xs with
 |.join,.str sep,[x]=>((m7 x).bind strsOf).bind λss=>if (ss.map (·.length)).sum+ss.length*sep.length<=big then some (.str (bT sep ss))else none
 |_,_,_=>none
noncomputable def jw(m:ME)(l:List V)(xs:List V):Option (V×List V):=match m,xs with
 |.append,[x]=>if l.length<big then some (.bA,l++[x])else none
 |.extend,[.lst es]=>if l.length+es.length<=big then some (.bA,l++es)else none
 |.pop,[]=>match l[l.length - 1]? with
  |some x=>some (x,l.dropLast)
  |none=>none
 |_,_=>none
noncomputable def zR:ME->Bool
 |.extend=>true
 |_=>false
noncomputable def iC:ME->Bool
 |.append=>true
 |.extend=>true
 |.pop=>true
 |_=>false
noncomputable def rF:V->Bool
 |.bA=>true
 |.bl _=>true
 |.int _=>true
 |.str _=>true
 |_=>false
noncomputable def xU(x:V):List (D×D)->Option V
 |[]=>none
 | (k,v) :: r=>match (ofD k).bind λk'=>dF 1 k' x with
  |some true=>ofD v
  |some false=>xU x r
  |none=>none
noncomputable def ee(x:V)(kvs:List (D×D)):Option V:=if rF x then xU x kvs else none
noncomputable def fO:V->Option (List V)
 |.tup ds=>some ds
 |.str s=>some (s.map λc=>.str [c])
 |.lst ds=>some ds
 |.bO ds=>some ds
 |_=>none
noncomputable def xV:V->Option (List V)
 |.tup ds=>some ds
 |_=>none
noncomputable def range(lo:Int)(n:Nat):List V:=(List.range n).map λ(i:Nat)=>.int (lo+i)
noncomputable def ef:List V->Option (List V)
 |[.int j]=>if -(2 ^ 62)<=j/\j<2 ^ 62 then some (range 0 j.toNat)else none
 |[.int i,.int j]=>if -(2 ^ 62)<=i/\i<2 ^ 62/\-(2 ^ 62)<=j/\j<2 ^ 62 then some (range i (j - i).toNat)else none
 |_=>none
noncomputable def cZ(a b:List V):List V:=List.zipWith (λx y=>.tup [x,y]) a b
noncomputable def cy:Int->List V->List V
 |_,[]=>[]
 |k,x :: xs=>.tup [.int k,x] :: cy (k+1) xs
noncomputable def jO(a:List Nat):List V:=a.map λc=>.str [c]
noncomputable def B3:V->Option (List V)
 |.str a=>some (cy 0 (jO a))
 |_=>none
noncomputable def xW:V->V->Option (List V)
 |.str a,.str b=>some (cZ (jO a) (jO b))
 |_,_=>none
noncomputable def put(fr:Fr)(i:Nat)(s:Sl):Option Fr:=match fr[i]? with
 |some (some (.bor _))=>none
 |some (some (.ro _))=>none
 |_=>some (fr.set i (some s))
noncomputable def cC:List Nat->List V->Fr->Option Fr
 |[],[],fr=>some fr
 |i :: is,d :: ds,fr=>(put fr i (.val d)).bind (cC is ds)
 |_,_,_=>none
noncomputable def bY:T->V->Fr->Option Fr
 |.one i,d,fr=>put fr i (.val d)
 |.many l,.tup ds,fr=>cC l ds fr
 |_,_,_=>none
noncomputable def undef(t:T)(fr:Fr):Bool:=(slots t).all λi=>(fr[i]?.join).isNone
noncomputable def Sl.read:Sl->Sl
 |.own l=>.ro l
 |.bor l=>.ro l
 |s=>s
noncomputable def q9(fr:Fr):Fr:=fr.map (Option.map Sl.read)
noncomputable def Sl.ek:Sl->Sl
 |.own l=>.val (.lst l)
 |s=>s
noncomputable def fh(fr:Fr):Fr:=fr.map (Option.map Sl.ek)
noncomputable def Sl.walk:Sl->Sl
 |.own l=>.val (.lst l)
 |.bor l=>.ro l
 |s=>s
noncomputable def rK(is:List Nat)(fr:Fr):Fr:=is.foldl (λfr i=>match fr[i]? with
 |some (some s)=>fr.set i (some s.walk)
 |_=>fr) fr
noncomputable def Sl.out:Sl->Option (List V)
 |.bor l=>some l
 |.ro l=>some l
 |_=>none
noncomputable def Sl.lend:Sl->Option Sl
 |.own l=>some (.bor l)
 |.bor l=>some (.bor l)
 |.ro l=>some (.ro l)
 |.val _=>none
noncomputable def lent(fr:Fr)(i:Nat):Option Sl:=match fr[i]? with
 |some (some s)=>s.lend
 |_=>none
noncomputable def Sl.with:Sl->List V->Sl
 |.own _,l=>.own l
 |.bor _,l=>.bor l
 |s,_=>s
noncomputable def back:List Nat->List (List V)->Fr->Option Fr
 |[],[],fr=>some fr
 |i :: is,l :: ls,fr=>match fr[i]? with
  |some (some s)=>back is ls (fr.set i (some (s.with l)))
  |_=>none
 |_,_,_=>none
noncomputable def cJ(f:V->Option (Option V)):List V->Option (List V)
 |[]=>some []
 |d :: ds=>(f d).bind λo=>(cJ f ds).bind λr=>some (o.toList++r)
noncomputable def forL(f:V->Fr->R Fl):List V->Fr->R Fl
 |[],fr=>.ok .nx fr
 |d :: ds,fr=>(f d fr).bind λp af=>match p with
   |.nx=>forL f ds af
   |.ct=>forL f ds af
   |.bk=>.ok .nx af
   |.ret x=>.ok (.ret x) af
noncomputable def dD(t:Fr->R Bool)(f:Fr->R Fl):Nat->Fr->R Fl
 |0,_=>.bad
 |n+1,fr=>(t fr).bind λb af=>if b then (f af).bind λp ao=>match p with
   |.nx=>dD t f n ao
   |.ct=>dD t f n ao
   |.bk=>.ok .nx ao
   |.ret x=>.ok (.ret x) ao
  else .ok .nx af
noncomputable def jg:Es->List Nat
 |.nil=>[]
 |.cons (.v i) es=>i :: jg es
 |.cons _ es=>jg es
noncomputable def PD(m:ME):E->List Nat
 |.v i=>if iC m then [i]else []
 |_=>[]
mutual
noncomputable def bC:E->List Nat
 |.c _=>[]|.v _=>[]|.tup es=>fD es|.lst es=>fD es
 |.bin _ a b=>bC a++bC b|.cmp _ a b=>bC a++bC b
 |.nt a=>bC a|.neg a=>bC a|.an a b=>bC a++bC b|.orr a b=>bC a++bC b|.kM t a b=>bC t++(bC a++bC b)
 |.ix a b=>bC a++bC b|.sl a lo hi=>bC a++(jD lo++jD hi)
 |.rv a=>bC a
 |.kN a=>bC a
 |.cl _ es=>fD es++jg es|.bi _ es=>fD es|.me m o es=>bC o++(fD es++PD m o)
 |.comp _ _ it _=>B4 it
 |.gp it=>B4 it
 |.iO _ a=>bC a
 |.gZ a=>bC a
noncomputable def fD:Es->List Nat
 |.nil=>[]
 |.cons e es=>bC e++fD es
noncomputable def jD:Eo->List Nat
 |.no=>[]
 |.yes e=>bC e
noncomputable def B4:It->List Nat
 |.seq e=>bC e|.fY es=>fD es
 |.zip a b=>bC a++bC b
 |.ji a=>bC a|.jj a b=>bC a++bC b
 |.enum a=>bC a|.rev a=>bC a
end
noncomputable def kf(a:E)(l:List Nat):Bool:=match a with
 |.v i=>!l.contains i
 |_=>l.isEmpty
noncomputable def itv:It->List Nat
 |.seq (.v i)=>[i]
 |.enum (.v i)=>[i]
 |.rev (.v i)=>[i]
 |.zip (.v i) (.v j)=>[i,j]
 |.zip (.v i) _=>[i]
 |.zip _ (.v j)=>[j]
 |_=>[]
abbrev aM:=Nat->List Sl->Option (V×List (List V))
noncomputable def intOf:V->Option Int
 |.int i=>some i
 |_=>none
noncomputable def nA(k:Bool)(fr:Fr)(i:Nat):Option V:=match fr[i]? with
 |some (some (.val v))=>some v
 |some (some (.own l))=>if k then some (.lst l)else none
 |some (some (.bor l))=>if k then some (.lst l)else none
 |some (some (.ro l))=>if k then some (.lst l)else none
 |_=>none
noncomputable def xX(k:Bool)(fr:Fr)(i:Nat):Option V:=match fr[i]? with
 |some (some (.ro l))=>some (.lst l)
 |_=>nA k fr i
noncomputable def src(k:Bool)(fr:Fr)(e:E)(r:R V):R V:=match e with
 |.v i=>R.of (xX k fr i) fr
 |_=>r
noncomputable def jP(fr:Fr):E->Option Nat
 |.v i=>if (lent fr i).isSome then some i else none
 |_=>none
noncomputable def args(fr:Fr):List (Nat ⊕ V)->Option (List Sl)
 |[]=>some []
 |.inl i :: r=>(lent fr i).bind λs=>(args fr r).map λl=>s :: l
 |.inr v :: r=>(args fr r).map λl=>.val v :: l
noncomputable def bH:List (Nat ⊕ V)->List Nat
 |[]=>[]
 |.inl i :: r=>i :: bH r
 |.inr _ :: r=>bH r
noncomputable def cX(P:aM)(f:Nat)(as:List (Nat ⊕ V))(fr:Fr):R V:=
 if (bH as).Nodup then match args fr as with
  |some sl=>match P f sl with
   |some (v,outs)=>R.of ((back (bH as) outs fr).map λaf=>(v,af)) fr |>.bind λp _=>.ok p.1 p.2
   |none=>.bad
  |none=>.bad
 else .bad
mutual
noncomputable def ev(P:aM):Bool->E->Fr->R V
 |_,.c d,fr=>R.of (ofD d) fr
 |k,.v i,fr=>R.of (nA k fr i) fr
 |_,.tup es,fr=>(bV P false es fr).bind λds af=>R.of (fV ds) af
 |_,.lst es,fr=>(bV P false es fr).bind λds af=>R.of (dP ds) af
 |_,.bin o a b,fr=>(ev P (kf a (bC b)) a fr).bind λx af=>(ev P true b af).bind λy ao=>R.of (bP o x y) ao
 |_,.cmp o a b,fr=>(ev P (kf a (bC b)) a fr).bind λx af=>(ev P true b af).bind λy ao=>R.of ((cop o x y).map .bl) ao
 |_,.nt a,fr=>(ev P true a fr).bind λx af=>match x with
   |.bl b=>.ok (.bl (!b)) af
   |_=>.bad
 |_,.neg a,fr=>(ev P true a fr).bind λx af=>match x with
   |.int i=>.ok (.int (-i)) af
   |_=>.bad
 |k,.an a b,fr=>(ev P true a fr).bind λx af=>match x with
   |.bl true=>ev P k b af
   |.bl false=>.ok (.bl false) af
   |_=>.bad
 |k,.orr a b,fr=>(ev P true a fr).bind λx af=>match x with
   |.bl true=>.ok (.bl true) af
   |.bl false=>ev P k b af
   |_=>.bad
 |k,.kM t a b,fr=>(aE P t fr).bind λc af=>if c then ev P k a af else ev P k b af
 |_,.ix a b,fr=>(ev P (kf a (bC b)) a fr).bind λx af=>(ev P true b af).bind λy ao=>R.of (dY x y) ao
 |_,.sl a lo hi,fr=>(ev P (kf a (jD lo++jD hi)) a fr).bind λx af=>(ff P lo af).bind λl ao=>(ff P hi ao).bind λu cE=>R.of (fC x l u) cE
 |_,.rv a,fr=>(ev P true a fr).bind λx af=>R.of (kO x) af
 |_,.kN a,fr=>(ev P true a fr).bind λx af=>R.of (qc x) af
 |_,.cl f es,fr=>(fj P es fr).bind λas af=>cX P f as af
 |_,.bi b es,fr=>(bV P true es fr).bind λds af=>R.of (dw b ds) af
 |_,.me m o es,fr=>if iC m then match jP fr o with
   |some i=>(bV P (zR m) es fr).bind λds af=>match af[i]? with
    |some (some (.own l))=>match jw m l ds with
     |some (v,l')=>.ok v (af.set i (some (.own l')))
     |none=>.bad
    |some (some (.bor l))=>match jw m l ds with
     |some (v,l')=>.ok v (af.set i (some (.bor l')))
     |none=>.bad
    |_=>.bad
   |none=>.bad
  else (ev P (kf o (fD es)) o fr).bind λx af=>(bV P true es af).bind λds ao=>R.of (eK m x ds) ao
 |_,.comp elt t it cond,fr=>(bR P true it fr).bind λs af=>if undef t af then
   R.of ((cJ (λd=>match bY t d (q9 af)with
    |none=>none
    |some ao=>match gI P cond ao with
     |.ok c _=>if c then (match ev P false elt ao with|.ok x _=>some (some x)|.bad=>none)else some none
     |.bad=>none) s).bind dP) af else .bad
 |_,.gp it,fr=>(bR P true it fr).bind λs af=>R.of (dP s) af
 |_,.iO kvs a,fr=>(ev P true a fr).bind λx af=>R.of (ee x kvs) af
 |_,.gZ a,fr=>(ev P true a fr).bind λx af=>R.of (toT x) af
termination_by _ e=>(sizeOf e,0)
noncomputable def bV(P:aM):Bool->Es->Fr->R (List V)
 |_,.nil,fr=>.ok [] fr
 |k,.cons e es,fr=>(ev P (k&&kf e (fD es)) e fr).bind λd af=>(bV P k es af).bind λds ao=>.ok (d :: ds) ao
termination_by _ e=>(sizeOf e,0)
noncomputable def fj(P:aM):Es->Fr->R (List (Nat ⊕ V))
 |.nil,fr=>.ok [] fr
 |.cons e es,fr=>match jP fr e with
   |some i=>(fj P es fr).bind λr af=>.ok (.inl i :: r) af
   |none=>(ev P false e fr).bind λd af=>(fj P es af).bind λr ao=>.ok (.inr d :: r) ao
termination_by e=>(sizeOf e,0)
noncomputable def ff(P:aM):Eo->Fr->R (Option Int)
 |.no,fr=>.ok none fr
 |.yes e,fr=>(ev P true e fr).bind λd af=>R.of ((intOf d).map some) af
termination_by e=>(sizeOf e,0)
noncomputable def gI(P:aM):Eo->Fr->R Bool
 |.no,fr=>.ok true fr
 |.yes e,fr=>aE P e fr
termination_by e=>(sizeOf e,0)
noncomputable def aE(P:aM):E->Fr->R Bool
 |.an a b,fr=>(aE P a fr).bind λk af=>if k then aE P b af else .ok false af
 |.orr a b,fr=>(aE P a fr).bind λk af=>if k then .ok true af else aE P b af
 |.nt a,fr=>(aE P a fr).bind λk af=>.ok (!k) af
 |e,fr=>(ev P true e fr).bind λx af=>.ok (truthy x) af
termination_by e=>(sizeOf e,1)
noncomputable def bR(P:aM):Bool->It->Fr->R (List V)
 |k,.seq e,fr=>(src k fr e (ev P k e fr)).bind λx af=>R.of (fO x) af
 |_,.fY es,fr=>(bV P true es fr).bind λds af=>R.of (ef ds) af
 |k,.zip a b,fr=>(src (k&&kf a (bC b)) fr a (ev P (k&&kf a (bC b)) a fr)).bind λx af=>(src k af b (ev P k b af)).bind λy ao=>R.of ((m7 x).bind λs=>(m7 y).map λt=>cZ s t) ao
 |_,.ji a,fr=>(ev P true a fr).bind λx af=>R.of (B3 x) af
 |_,.jj a b,fr=>(ev P (kf a (bC b)) a fr).bind λx af=>(ev P true b af).bind λy ao=>R.of (xW x y) ao
 |k,.enum a,fr=>(src k fr a (ev P k a fr)).bind λx af=>R.of ((m7 x).map λs=>cy 0 s) af
 |_,.rev a,fr=>(ev P true a fr).bind λx af=>R.of ((xV x).map λs=>s.reverse) af
termination_by _ e=>(sizeOf e,0)
end
noncomputable def isNew:E->Bool
 |.lst _=>true
 |.gp _=>true
 |_=>false
mutual
noncomputable def ex(P:aM)(w:Nat):S->Fr->R Fl
 |.set i e,fr=>(ev P false e fr).bind λx af=>if isNew e then (match x with
   |.lst l=>(R.of (put af i (.own l)) af).bind λao _=>.ok .nx ao
   |_=>.bad)
  else (R.of (put af i (.val x)) af).bind λao _=>.ok .nx ao
 |.wX l e,fr=>(ev P false e fr).bind λx af=>(R.of (bY (.many l) x af) af).bind λao _=>.ok .nx ao
 |.exp e,fr=>(ev P true e fr).bind λ_ af=>.ok .nx af
 |.ret e,fr=>(ev P false e (fh fr)).bind λx af=>.ok (.ret x) af
 |.iff t a b,fr=>(aE P t fr).bind λk af=>if k then exs P w a af else exs P w b af
 |.for t it b,fr=>(bR P false it (rK (itv it) fr)).bind λs af=>forL (λd ao=>match bY t d ao with
   |some cE=>exs P w b cE
   |none=>.bad) s af
 |.lu t b,fr=>dD (λao=>aE P t ao) (λao=>exs P w b ao) w fr
 |.fU _,_=>.bad
noncomputable def exs(P:aM)(w:Nat):Ss->Fr->R Fl
 |.nil,fr=>.ok .nx fr
 |.cons s ss,fr=>(ex P w s fr).bind λp af=>match p with
   |.nx=>exs P w ss af
   |p=>.ok p af
end
noncomputable def dZ(fn:Fn)(ds:List Sl):Fr:=ds.map some++List.replicate (fn.ns - fn.np) none
noncomputable def outs(np:Nat)(fr:Fr):List (List V):=(fr.take np).filterMap λo=>o.bind Sl.out
noncomputable def JJ(_:Fn)(_:List Sl):Option (V×List (List V)):=none
noncomputable def run(F:List Fn)(w:Nat):Nat->aM
 |0,_,_=>none
 |n+1,f,ds=>match F[f]? with
  |some fn=>if ds.length=fn.np then match exs (run F w n) w fn.body (dZ fn ds)with
    |.ok (.ret v) fr=>some (v,outs fn.np fr)
    |.ok .nx fr=>some (.bA,outs fn.np fr)
    |_=>JJ fn ds
   else none
  |none=>none
def nX(F:List Fn)(w n f:Nat)(ds:List Sl):run F w (n+1) f ds=match F[f]? with
  |some fn=>if ds.length=fn.np then match exs (run F w n) w fn.body (dZ fn ds)with
    |.ok (.ret v) fr=>some (v,outs fn.np fr)
    |.ok .nx fr=>some (.bA,outs fn.np fr)
    |_=>JJ fn ds
   else none
  |none=>none:=nd rfl
end Pv
namespace Pv
open Ev (D O Hh br aZ TY BI ME T E Es Eo It S Ss Fn big deep b2i rep bM cR bx aL cut bT cI slots bg)
section
variable(h:Hh)(S:Nat->Prop)
mutual
noncomputable def Rep:V->D->Prop
 |.bA,d=>d=.bA
 |.bl b,d=>d=.bl b
 |.int i,d=>d=.int i
 |.str s,d=>d=.str s
 |.tup l,d=>∃ds,d=.tup ds/\aq l ds
 |.lst l,d=>∃n ds,d=.ref n/\S n/\h[n]?=some (.lst ds)/\aq l ds
 |.bO l,d=>∃n ds,d=.ref n/\S n/\h[n]?=some (.bO ds)/\aq l ds
noncomputable def aq:List V->List D->Prop
 |[],ds=>ds=[]
 |v :: vs,ds=>∃d es,ds=d :: es/\Rep v d/\aq vs es
end
noncomputable def aW:V->D->Prop
 |.lst l,d=>∃n ds,d=.ref n/\h[n]?=some (.lst ds)/\aq h S l ds
 |v,d=>Rep h S v d
noncomputable def fk:List V->List D->Prop
 |[],ds=>ds=[]
 |v :: vs,ds=>∃d es,ds=d :: es/\aW h S v d/\fk vs es
end
abbrev U:Nat->Prop:=λ_=>True
section
variable{h h':Hh}{S S':Nat->Prop}
mutual
theorem Rep.mono(f:∀m,S m->h'[m]?=h[m]?)(g:∀m,S m->S' m):∀{v:V}{d:D},Rep h S v d->Rep h' S' v d
 |.bA,_,q=>q
 |.bl _,_,q=>q
 |.int _,_,q=>q
 |.str _,_,q=>q
 |.tup l,_,⟨ds,a,b⟩=>⟨ds,a,aq.mono f g b⟩
 |.lst l,_,⟨n,ds,a,b,c,e⟩=>⟨n,ds,a,g n b,by rw[f n b];exact c,aq.mono f g e⟩
 |.bO l,_,⟨n,ds,a,b,c,e⟩=>⟨n,ds,a,g n b,by rw[f n b];exact c,aq.mono f g e⟩
theorem aq.mono(f:∀m,S m->h'[m]?=h[m]?)(g:∀m,S m->S' m):∀{v:List V}{d:List D},aq h S v d->aq h' S' v d
 |[],_,q=>q
 |_ :: _,_,⟨d,es,a,b,c⟩=>⟨d,es,a,Rep.mono f g b,aq.mono f g c⟩
end
def aq.nil:aq h S [] []:=by simp[aq]
def aq.cons{v:V}{d:D}{vs:List V}{ds:List D}(a:Rep h S v d)(b:aq h S vs ds):aq h S (v :: vs) (d :: ds):=by simp only[aq];exact⟨d,ds,rfl,a,b⟩
def Rep.top{v:V}{d:D}(q:Rep h S v d):aW h S v d:=by
 cases v<;>first|exact q | (obtain⟨n,ds,a,b,c,e⟩:=q;exact⟨n,ds,a,c,e⟩)
def aW.u{v:V}{d:D}(q:aW h S v d):Rep h U v d:=by
 cases v with
 |lst l=>obtain⟨n,ds,a,b,c⟩:=q;exact⟨n,ds,a,trivial,b,c.mono (λ_ _=>rfl) λ_ _=>trivial⟩
 |_=>exact Rep.mono (S:=S) (λ_ _=>rfl) (λ_ _=>trivial) q
def aq.u{v:List V}{d:List D}(q:aq h S v d):aq h U v d:=q.mono (λ_ _=>rfl) λ_ _=>trivial
theorem aW.mono{v:V}{d:D}(f:∀m,m<h.length->h'[m]?=h[m]?)(k:∀m,S m->m<h.length)(g:∀m,S m->S' m)(q:aW h S v d):aW h' S' v d:=by
 cases v with
 |lst l=>
  obtain⟨n,ds,a,b,c⟩:=q;exact⟨n,ds,a,by rw[f n (List.getElem?_eq_some_iff.mp b).1];exact b,c.mono (λm z=>f m (k m z)) g⟩
 |_=>exact Rep.mono (λm z=>f m (k m z)) g q
theorem aq.length:∀{v:List V}{d:List D},aq h S v d->v.length=d.length
 |[],_,q=>by simp only[aq]at q;subst q;rfl
 |_ :: _,_,q=>by simp only[aq]at q;obtain⟨d,es,rfl,_,c⟩:=q;simp[c.length]
theorem aq.get:∀{v:List V}{d:List D}{i:Nat}{x:V},aq h S v d->v[i]?=some x->∃y,d[i]?=some y/\Rep h S x y
 |[],_,_,_,_,e=>by simp at e
 |_ :: _,_,0,_,q,e=>by
  simp only[aq]at q;obtain⟨d,es,rfl,b,_⟩:=q;simp at e;subst e;exact⟨d,by simp,b⟩
 |_ :: _,_,i+1,_,q,e=>by
  simp only[aq]at q;obtain⟨d,es,rfl,_,c⟩:=q;obtain⟨y,a,b⟩:=c.get (i:=i) (by simpa using e);exact⟨y,by simpa using a,b⟩
theorem aq.append:∀{v w:List V}{d e:List D},aq h S v d->aq h S w e->aq h S (v++w) (d++e)
 |[],_,_,_,a,b=>by simp only[aq]at a;subst a;simpa using b
 |_ :: _,_,_,_,a,b=>by
  simp only[aq]at a;obtain⟨d,es,rfl,x,y⟩:=a;exact .cons x (y.append b)
theorem aq.take:∀{v:List V}{d:List D}(n:Nat),aq h S v d->aq h S (v.take n) (d.take n)
 |_,_,0,_=>by simp[aq]
 |[],_,_+1,a=>by simp only[aq]at a;subst a;simp[aq]
 |_ :: _,_,n+1,a=>by
  simp only[aq]at a;obtain⟨d,es,rfl,x,y⟩:=a;simp only[WA];exact .cons x (y.take n)
theorem aq.drop:∀{v:List V}{d:List D}(n:Nat),aq h S v d->aq h S (v.drop n) (d.drop n)
 |_,_,0,a=>by simpa using a
 |[],_,_+1,a=>by simp only[aq]at a;subst a;simp[aq]
 |_ :: _,_,n+1,a=>by
  simp only[aq]at a;obtain⟨d,es,rfl,x,y⟩:=a;simp only[Xc];exact y.drop n
theorem aq.dropLast:∀{v:List V}{d:List D},aq h S v d->aq h S v.dropLast d.dropLast:=λ{v d} a=>by
 rw[Xk,Xk,a.length];exact a.take _
theorem aq.reverse:∀{v:List V}{d:List D},aq h S v d->aq h S v.reverse d.reverse
 |[],_,a=>by simp only[aq]at a;subst a;simp[aq]
 |_ :: _,_,a=>by
  simp only[aq]at a;obtain⟨d,es,rfl,x,y⟩:=a;simp only[VW];exact y.reverse.append (.cons x .nil)
theorem aq.rep{v:List V}{d:List D}(a:aq h S v d):∀k:Nat,aq h S (Ev.rep k v) (Ev.rep k d)
 |0=>by simp[Ev.rep,aq]
 |k+1=>by
  have z:=aq.rep a k;simp only[Ev.rep,Ut,W5]at z ⊢;exact a.append z
theorem aq.cut{v:List V}{d:List D}(a:aq h S v d)(lo hi:Option Int):aq h S (Ev.cut v lo hi) (Ev.cut d lo hi):=by
 unfold Ev.cut;rw[a.length];exact(a.drop _).take _
theorem aq.map{α:Type}{f:α->V}{g:α->D}(q:∀a,Rep h S (f a) (g a)):∀l:List α,aq h S (l.map f) (l.map g)
 |[]=>.nil
 |_ :: l=>.cons (q _) (aq.map q l)
mutual
theorem Rep.uniq:∀{v w:V}{d:D},Rep h U v d->Rep h U w d->v=w
 |.bA,w,_,a,b=>by simp only[Rep]at a;subst a;cases w<;>simp[Rep]at b<;>rfl
 |.bl _,w,_,a,b=>by simp only[Rep]at a;subst a;cases w<;>simp[Rep]at b<;>rw[b]
 |.int _,w,_,a,b=>by simp only[Rep]at a;subst a;cases w<;>simp[Rep]at b<;>rw[b]
 |.str _,w,_,a,b=>by simp only[Rep]at a;subst a;cases w<;>simp[Rep]at b<;>rw[b]
 |.tup l,w,_,a,b=>by
  simp only[Rep]at a;obtain⟨ds,rfl,a⟩:=a;cases w<;>simp[Rep]at b
  rw[aq.uniq a b]
 |.lst l,w,_,a,b=>by
  simp only[Rep]at a;obtain⟨n,ds,rfl,_,a1,a⟩:=a;cases w<;>simp[Rep]at b
  .obtain⟨ds',b1,b⟩:=b;rw[a1]at b1;cases b1;rw[aq.uniq a b]
  .obtain⟨ds',b1,b⟩:=b;rw[a1]at b1;cases b1
 |.bO l,w,_,a,b=>by
  simp only[Rep]at a;obtain⟨n,ds,rfl,_,a1,a⟩:=a;cases w<;>simp[Rep]at b
  .obtain⟨ds',b1,b⟩:=b;rw[a1]at b1;cases b1
  .obtain⟨ds',b1,b⟩:=b;rw[a1]at b1;cases b1;rw[aq.uniq a b]
theorem aq.uniq:∀{v w:List V}{d:List D},aq h U v d->aq h U w d->v=w
 |[],w,_,a,b=>by simp only[aq]at a;subst a;cases w<;>simp[aq]at b;rfl
 |x :: xs,w,_,a,b=>by
  simp only[aq]at a;obtain⟨d,es,rfl,a1,a2⟩:=a;cases w<;>simp only[aq]at b
  .cases b
  obtain⟨d',es',e,b1,b2⟩:=b;cases e;rw[Rep.uniq a1 b1,aq.uniq a2 b2]
end
theorem tF{n:Nat}(f:∀v b,dF n v v=some b->b=true):∀l b,cg (dF n) l l=some b->b=true
 |[],b,e=>by simp[cg]at e;exact e
 |x :: xs,b,e=>by
  simp only[cg,Sw]at e;obtain⟨c,e1,c2,e2,e⟩:=e;rw[f x c e1,tF f xs c2 e2]at e;simpa using e.symm
theorem tG:∀n v b,dF n v v=some b->b=true
 |0,_,_,e=>by cases e
 |n+1,v,b,e=>by
  cases v<;>first|exact tF (tG n) _ _ e | (cases e<;>first|rfl|exact Zp _)
theorem tH{n:Nat}(f:∀{v w:V}{d e:D}{b},dF n v w=some b->Rep h U v d->Rep h U w e->Ev.gH h n d e=some b):∀{l m:List V}{ds es:List D}{b},cg (dF n) l m=some b->aq h U l ds->aq h U m es->Ev.cg (Ev.gH h n) ds es=some b
 |[],[],_,_,b,e,p,q=>by simp only[aq]at p q;subst p q;simpa[cg,Ev.cg]using e
 |[],_ :: _,_,_,b,e,p,q=>by simp only[aq]at p q;subst p;obtain⟨_,_,rfl,_⟩:=q;simpa[cg,Ev.cg]using e
 |_ :: _,[],_,_,b,e,p,q=>by simp only[aq]at p q;subst q;obtain⟨_,_,rfl,_⟩:=p;simpa[cg,Ev.cg]using e
 |x :: xs,y :: ys,_,_,b,e,p,q=>by
  simp only[aq]at p q;obtain⟨d,ds,rfl,p1,p2⟩:=p;obtain⟨d',ds',rfl,q1,q2⟩:=q;simp only[cg,Sw]at e;obtain⟨c,e1,c2,e2,e⟩:=e;simp[Ev.cg,f e1 p1 q1,tH f e2 p2 q2];simpa using e
def gi{n:Nat}{ds:List D}(q:h[n]?=some (.lst ds)):bg h n=some ds:=by simp[bg,q]
def iu{n:Nat}{ds:List D}(q:h[n]?=some (.bO ds)):bg h n=some ds:=by simp[bg,q]
theorem jQ:∀(n:Nat) {v w:V}{d e:D}{b},dF n v w=some b->Rep h U v d->Rep h U w e->Ev.gH h n d e=some b
  |0,_,_,_,_,_,e,_,_=>by cases e
  |n+1,v,w,d,e,b,x,p,q=>by
    by_cases hr:∃m,d=.ref m/\e=.ref m
    . obtain⟨m,rfl,rfl⟩:=hr;have hvw:=p.uniq q;subst hvw;have hb:=tG _ _ _ x;subst hb;cases v<;>simp[Rep]at p
      . obtain⟨ds,p1,p2⟩:=p;show Ev.jk _ _ _ _=_;rw[Ev.jk,GQ rfl,gi p1];rfl
      . obtain⟨ds,p1,p2⟩:=p;show Ev.jk _ _ _ _=_;rw[Ev.jk,GQ rfl,iu p1];rfl
    . cases v<;>cases w<;>simp only[Rep]at p q <;>
      first
      | (subst p;subst q;exact x)
      | (obtain⟨ds,rfl,p⟩:=p;subst q;exact x)
      | (obtain⟨ds,rfl,q⟩:=q;subst p;exact x)
      | (obtain⟨ds,rfl,p⟩:=p;obtain⟨es,rfl,q⟩:=q;exact tH (λa b c=>jQ n a b c) x p q)
      | (cases x;done)
      | (obtain⟨m,ds,rfl,_,p1,p⟩:=p;obtain⟨k,es,rfl,_,q1,q⟩:=q
         have hne:m≠k:=λz=>hr ⟨m,rfl,by rw[z]⟩;show Ev.jk _ _ _ _=_;rw[Ev.jk,Us hne,p1,q1];exact tH (λa b c=>jQ n a b c) x p q)
      | (cases x;obtain⟨m,ds,rfl,_,p1,p⟩:=p;subst q;exact VZ (Option.map λ_=>false) (gi p1))
      | (cases x;obtain⟨m,ds,rfl,_,p1,p⟩:=p;subst q;exact VZ (Option.map λ_=>false) (iu p1))
      | (cases x;obtain⟨m,ds,rfl,_,p1,p⟩:=p;obtain⟨es,rfl,q⟩:=q;exact VZ (Option.map λ_=>false) (gi p1))
      | (cases x;obtain⟨m,ds,rfl,_,p1,p⟩:=p;obtain⟨es,rfl,q⟩:=q;exact VZ (Option.map λ_=>false) (iu p1))
      | (cases x;obtain⟨m,ds,rfl,_,q1,q⟩:=q;subst p;exact VZ (Option.map λ_=>false) (gi q1))
      | (cases x;obtain⟨m,ds,rfl,_,q1,q⟩:=q;subst p;exact VZ (Option.map λ_=>false) (iu q1))
      | (cases x;obtain⟨m,ds,rfl,_,q1,q⟩:=q;obtain⟨es,rfl,p⟩:=p;exact VZ (Option.map λ_=>false) (gi q1))
      | (cases x;obtain⟨m,ds,rfl,_,q1,q⟩:=q;obtain⟨es,rfl,p⟩:=p;exact VZ (Option.map λ_=>false) (iu q1))
end
structure Al(h:Hh)(S:Nat->Prop)(h':Hh)(S':Nat->Prop):Prop where
 len:h.length<=h'.length
 keep:∀m,m<h.length->h'[m]?=h[m]?
 sub:∀m,S m->S' m
 new:∀m,S' m->S m\/(h.length<=m/\m<h'.length)
section
variable{h h':Hh}{S S':Nat->Prop}
def Al.refl:Al h S h S:=⟨Et _,λ_ _=>rfl,λ_ q=>q,λ_ q=>.inl q⟩
def Al.snoc(o:O):Al h S (h++[o]) (λm=>S m\/m=h.length) where
 len:=by simp
 keep:=λm q=>by rw[Sx q]
 sub:=λ_ q=>.inl q
 new:=λm q=>by
  rcases q with q|q
  .exact .inl q
  .subst q;exact .inr ⟨Et _,by simp⟩
def gO{l:List V}{v:V}{ds:List D}(w:∀m,S m->m<h.length)(e:dP l=some v)(q:aq h S l ds):∃r h' S',Ev.alloc ds h=.ok r h'/\Rep h' S' v r/\Al h S h' S':=by
 unfold dP at e;split at e
 .rename_i z;cases e;refine⟨.ref h.length,h++[.lst ds],λm=>S m\/m=h.length,by unfold Ev.alloc;rw[GQ (by rw[<-q.length];exact z)],?_,Al.snoc _⟩;simp only[Rep];refine⟨h.length,ds,rfl,.inr rfl,by simp,q.mono (λm z=>?_) λ_ z=>.inl z⟩;rw[Sx (w m z)]
 .cases e
def oz{v:V}{l:List V}{d:D}(e:m7 v=some l)(q:aW h S v d):∃n ds,d=.ref n/\bg h n=some ds/\aq h S l ds:=by
 cases v<;>simp[m7]at e
 .subst e;simp only[aW]at q;obtain⟨n,ds,rfl,a,b⟩:=q;exact⟨n,ds,rfl,gi a,b⟩
 .subst e;simp only[aW,Rep]at q;obtain⟨n,ds,rfl,_,a,b⟩:=q;exact⟨n,ds,rfl,iu a,b⟩
mutual
theorem lM:∀{d:D}{v:V},ofD d=some v->Rep h S v d
 |.bA,_,e=>by simp[ofD]at e;subst e;simp[Rep]
 |.bl _,_,e=>by simp[ofD]at e;subst e;simp[Rep]
 |.int _,_,e=>by simp[ofD]at e;subst e;simp[Rep]
 |.str _,_,e=>by simp[ofD]at e;subst e;simp[Rep]
 |.ref _,_,e=>by simp[ofD]at e
 |.tup ds,_,e=>by
  simp[ofD]at e;obtain⟨vs,e,rfl⟩:=e;exact⟨ds,rfl,vH e⟩
theorem vH:∀{d:List D}{v:List V},tE d=some v->aq h S v d
 |[],_,e=>by simp[tE]at e;subst e;exact .nil
 |d :: ds,_,e=>by
  simp only[tE,Sw,Dp]at e;obtain⟨v,e1,vs,e2,rfl⟩:=e;exact .cons (lM e1) (vH e2)
end
def aq.emp{l:List V}{ds:List D}(q:aq h S l ds):ds.isEmpty=l.isEmpty:=by
 have:=q.length;cases l<;>cases ds<;>simp at this ⊢
def zS{v:V}{d:D}(q:aW h S v d):Ev.truthy h d=some (truthy v):=by
 cases v<;>simp only[aW,Rep]at q
 .subst q;rfl
 .subst q;rfl
 .subst q;rfl
 .subst q;rfl
 .obtain⟨ds,rfl,q⟩:=q;simp only[Ev.truthy,truthy,q.emp]
 .obtain⟨n,ds,rfl,a,q⟩:=q;simp only[Ev.truthy,truthy,gi a,Option.map,q.emp];first|done|rw[a]
 .obtain⟨n,ds,rfl,_,a,q⟩:=q;simp only[Ev.truthy,truthy,iu a,Option.map,q.emp];first|done|rw[a]
def nn{α:Type}{v:α}{p:Prop}(z:none=some v):p:=Option.noConfusion rfl (heq_of_eq z)
def JK{o:br}{x y v:V}{d e:D}(w:∀m,S m->m<h.length)(z:bP o x y=some v)(p:aW h S x d)(q:aW h S y e):∃r h' S',Ev.bP o d e h=.ok r h'/\Rep h' S' v r/\Al h S h' S':=by
 cases o<;>cases x<;>first|exact nn z | (cases y<;>first|exact nn z|skip)
 all_goals (delta bP at z;dsimp only at z;simp only[aW,Rep]at p q)
 .subst p q;cases z;exact⟨_,_,S,rfl,rfl,.refl⟩
 .subst p q;split at z
  .rename_i k;cases z;exact⟨_,_,S,by delta Ev.bP;dsimp only;rw[GQ k],rfl,.refl⟩
  .cases z
 .obtain⟨ds,rfl,p⟩:=p;obtain⟨es,rfl,q⟩:=q;split at z
  .rename_i k;cases z;exact⟨_,_,S,by delta Ev.bP;dsimp only;rw[GQ (by rw[<-p.length,<-q.length];exact k)],⟨_,rfl,p.append q⟩,.refl⟩
  .cases z
 .obtain⟨n,ds,rfl,a,p⟩:=p;obtain⟨m,es,rfl,b,q⟩:=q
  delta Ev.bP;dsimp only;simp only[a,b]
  exact gO w z (p.append q)
 .subst p q;cases z;exact⟨_,_,S,rfl,rfl,.refl⟩
 .subst p q;split at z
  .rename_i k;cases z;exact⟨_,_,S,by delta Ev.bP;dsimp only;rw[GQ k],rfl,.refl⟩
  .cases z
 .subst p q;split at z
  .rename_i k;cases z;exact⟨_,_,S,by delta Ev.bP;dsimp only;rw[GQ k],rfl,.refl⟩
  .cases z
 .obtain⟨ds,rfl,p⟩:=p;subst q;split at z
  .rename_i k;cases z;exact⟨_,_,S,by delta Ev.bP;dsimp only;rw[GQ (by rw[<-p.length];exact k)],⟨_,rfl,p.rep _⟩,.refl⟩
  .cases z
 .obtain⟨n,ds,rfl,a,p⟩:=p;subst q;split at z
  .rename_i k
   delta Ev.bP;dsimp only;simp only[a]
   rw[GQ (by rw[<-p.length];exact k)];exact gO w z (p.rep _)
  .cases z
 .subst p q;split at z
  .rename_i k;cases z;exact⟨_,_,S,by delta Ev.bP;dsimp only;rw[GQ k],rfl,.refl⟩
  .cases z
 .subst p q;split at z
  .rename_i k;cases z;exact⟨_,_,S,by delta Ev.bP;dsimp only;rw[GQ k],rfl,.refl⟩
  .cases z
def JL{o:aZ}{x y:V}{d e:D}{b:Bool}(z:cop o x y=some b)(p:Rep h U x d)(q:Rep h U y e):Ev.cop o d e h=some b:=by
 cases o
 case eq=>delta cop at z;dsimp only at z;delta Ev.cop;dsimp only;exact jQ deep z p q
 case ne=>
  delta cop at z;dsimp only at z;simp only[Dp]at z;obtain⟨c,z,rfl⟩:=z
  delta Ev.cop;dsimp only;simp only[jQ deep z p q];rfl
 all_goals (
  cases x<;>first|exact nn z | (cases y<;>first|exact nn z|skip)
  simp only[Rep]at p q;subst p q;exact z)
def xY{l:List V}{ds:List D}{i:Int}{v:V}(e:bx l i=some v)(q:aq h S l ds):∃d,bx ds i=some d/\Rep h S v d:=by
 unfold bx at e ⊢;rw[q.length]at e;cases z:cR ds.length i with
 |none=>rw[z]at e;cases e
 |some j=>rw[z]at e;exact q.get e
def JM{x y v:V}{d e:D}(z:dY x y=some v)(p:aW h S x d)(q:aW h S y e):∃r,Ev.dY d e h=some r/\Rep h S v r:=by
 cases x<;>cases y<;>simp only[dY,reduceCtorEq]at z<;>simp only[aW,Rep]at p q
 .subst p q;simp only[Dp]at z;obtain⟨c,z,rfl⟩:=z;exact⟨.str [c],by simp[Ev.dY,z],rfl⟩
 .obtain⟨ds,rfl,p⟩:=p;subst q;simpa[Ev.dY]using xY z p
 .obtain⟨n,ds,rfl,a,p⟩:=p;subst q;simpa[Ev.dY,gi a]using xY z p
 .obtain⟨n,ds,rfl,_,a,p⟩:=p;subst q;simpa[Ev.dY,iu a]using xY z p
def JN{x v:V}{d:D}{lo hi:Option Int}(w:∀m,S m->m<h.length)(z:fC x lo hi=some v)(p:aW h S x d):∃r h' S',Ev.fC d lo hi h=.ok r h'/\Rep h' S' v r/\Al h S h' S':=by
 cases x<;>simp only[fC,reduceCtorEq]at z<;>simp only[aW,Rep]at p
 .subst p;cases z;exact⟨_,_,S,rfl,rfl,.refl⟩
 .obtain⟨ds,rfl,p⟩:=p;cases z;exact⟨_,_,S,rfl,⟨_,rfl,p.cut _ _⟩,.refl⟩
 .obtain⟨n,ds,rfl,a,p⟩:=p;simp only[Ev.fC,gi a];exact gO w z (p.cut _ _)
 .obtain⟨n,ds,rfl,_,a,p⟩:=p;simp only[Ev.fC,iu a];exact gO w z (p.cut _ _)
def JP{x v:V}{d:D}(w:∀m,S m->m<h.length)(z:kO x=some v)(p:aW h S x d):∃r h' S',Ev.kO d h=.ok r h'/\Rep h' S' v r/\Al h S h' S':=by
 cases x<;>simp only[kO,reduceCtorEq]at z<;>simp only[aW,Rep]at p
 .subst p;cases z;exact⟨_,_,S,rfl,rfl,.refl⟩
 .obtain⟨ds,rfl,p⟩:=p;cases z;exact⟨_,_,S,rfl,⟨_,rfl,p.reverse⟩,.refl⟩
 .obtain⟨n,ds,rfl,a,p⟩:=p;simp only[Ev.kO,gi a];exact gO w z p.reverse
 .obtain⟨n,ds,rfl,_,a,p⟩:=p;simp only[Ev.kO,iu a];exact gO w z p.reverse
def FA{x v:V}{d:D}(z:qc x=some v)(p:aW h S x d):∃r,Ev.xj d h=.ok r h/\Rep h S v r:=by
 cases x<;>simp only[qc,reduceCtorEq]at z<;>simp only[aW,Rep]at p
 obtain⟨n,ds,rfl,a,p⟩:=p;unfold fV at z;split at z
 .rename_i k;cases z;refine⟨.tup ds.reverse,?_,⟨_,rfl,p.reverse⟩⟩;rw[Wc]at k;simp only[Ev.xj,gi a];rw[GQ (by rw[<-p.length];exact k)]
 .cases z
def JQ{x v:V}{d:D}(z:toT x=some v)(p:aW h S x d):∃r,Ev.pQ d h=.ok r h/\Rep h S v r:=by
 cases x<;>simp only[toT,reduceCtorEq]at z<;>simp only[aW,Rep]at p
 .obtain⟨ds,rfl,p⟩:=p;cases z;exact⟨_,rfl,⟨_,rfl,p⟩⟩
 .obtain⟨n,ds,rfl,a,p⟩:=p;unfold fV at z;split at z
  .rename_i k;cases z;refine⟨.tup ds,?_,⟨_,rfl,p⟩⟩;simp only[Ev.pQ,gi a];rw[GQ (by rw[<-p.length];exact k)]
  .cases z
 .obtain⟨n,ds,rfl,_,a,p⟩:=p;unfold fV at z;split at z
  .rename_i k;cases z;refine⟨.tup ds,?_,⟨_,rfl,p⟩⟩;simp only[Ev.pQ,iu a];rw[GQ (by rw[<-p.length];exact k)]
  .cases z
def qd{x:V}{l:List V}{d:D}(z:m7 x=some l)(p:aW h S x d):∃s,Ev.sE h d=some s/\aq h S l s.1/\(∀q∈s.2,d=.ref q.1/\bg h q.1=some q.2):=by
 obtain⟨n,ds,rfl,a,q⟩:=oz z p;exact⟨(ds,[(n,ds)]),by simp[Ev.sE,a],q,by simp[a]⟩
theorem B5:∀{l:List V}{ds:List D}{bs},boolsOf l=some bs->aq h S l ds->Ev.boolsOf ds=some bs
 |[],_,_,e,q=>by simp only[aq]at q;subst q;exact e
 |x :: xs,_,bs,e,q=>by
  cases x<;>simp only[boolsOf,reduceCtorEq,Dp]at e
  obtain⟨r,e,rfl⟩:=e;simp only[aq,Rep]at q;obtain⟨_,ds,rfl,rfl,q⟩:=q;simp[Ev.boolsOf,B5 e q]
theorem vI:∀{l:List V}{ds:List D}{bs},intsOf l=some bs->aq h S l ds->Ev.intsOf ds=some bs
 |[],_,_,e,q=>by simp only[aq]at q;subst q;exact e
 |x :: xs,_,bs,e,q=>by
  cases x<;>simp only[intsOf,reduceCtorEq,Dp]at e
  obtain⟨r,e,rfl⟩:=e;simp only[aq,Rep]at q;obtain⟨_,ds,rfl,rfl,q⟩:=q;simp[Ev.intsOf,vI e q]
theorem vJ:∀{l:List V}{ds:List D}{bs},strsOf l=some bs->aq h S l ds->Ev.strsOf ds=some bs
 |[],_,_,e,q=>by simp only[aq]at q;subst q;exact e
 |x :: xs,_,bs,e,q=>by
  cases x<;>simp only[strsOf,reduceCtorEq,Dp]at e
  obtain⟨r,e,rfl⟩:=e;simp only[aq,Rep]at q;obtain⟨_,ds,rfl,rfl,q⟩:=q;simp[Ev.strsOf,vJ e q]
def fk.one{v:V}{ds:List D}(q:fk h S [v] ds):∃d,ds=[d]/\aW h S v d:=by
 simp only[fk]at q;obtain⟨d,es,rfl,a,rfl⟩:=q;exact⟨d,rfl,a⟩
def JR{b:BI}{xs:List V}{v:V}{ds:List D}(w:∀m,S m->m<h.length)(z:dw b xs=some v)(p:fk h S xs ds):∃r h' S',Ev.dw b ds h=.ok r h'/\Rep h' S' v r/\Al h S h' S':=by
 delta dw at z
 rcases xs with _|⟨x,_|⟨y,_|⟨u,xs⟩⟩⟩
 .cases b<;>exact nn z
 .obtain⟨d,rfl,p1⟩:=p.one;cases b
  case len=>
   cases x
   case str s=>
    dsimp only at z;simp only[aW,Rep]at p1;subst p1;split at z
    .rename_i k;cases z;exact⟨_,_,S,by delta Ev.dw;dsimp only;rw[GQ k],rfl,.refl⟩
    .cases z
   case tup l=>
    dsimp only at z;simp only[aW,Rep]at p1;obtain⟨es,rfl,p2⟩:=p1;cases z;exact⟨_,_,S,rfl,by simp[Rep,p2.length],.refl⟩
   all_goals
    dsimp only at z;simp only[Dp]at z;obtain⟨l,z,rfl⟩:=z;obtain⟨n,es,rfl,a,q⟩:=oz z p1;exact⟨.int es.length,h,S,by delta Ev.dw;dsimp only;simp[a],by simp[Rep,q.length],.refl⟩
  case sum=>
   dsimp only at z;simp only[Dp,Sw]at z;obtain⟨bs,⟨l,z,z2⟩,rfl⟩:=z;obtain⟨n,es,rfl,a,q⟩:=oz z p1;exact⟨_,_,S,by delta Ev.dw;dsimp only;simp only[a,Option.bind,vI z2 q];rfl,rfl,.refl⟩
  case min=>cases x<;>exact nn z
  case abs=>
   cases x
   case int i=>
    dsimp only at z;simp only[aW,Rep]at p1;subst p1;cases z;exact⟨_,_,S,rfl,rfl,.refl⟩
   all_goals exact nn z
 .cases b
  case min=>
   cases x
   case int i=>
    cases y
    case int j=>
     dsimp only at z;simp only[fk,aW,Rep]at p;obtain⟨_,_,rfl,rfl,_,_,rfl,rfl,rfl⟩:=p;cases z;exact⟨_,_,S,rfl,rfl,.refl⟩
    all_goals exact nn z
   all_goals exact nn z
  case len=>cases x<;>exact nn z
  case abs=>cases x<;>exact nn z
  all_goals exact nn z
 .cases b
  case min=>cases x <;> (try cases y)<;>exact nn z
  case len=>cases x<;>exact nn z
  case abs=>cases x<;>exact nn z
  all_goals exact nn z
def JU{m:ME}{o:V}{xs:List V}{v:V}{d:D}{ds:List D}(z:eK m o xs=some v)(hm:iC m=false)(po:aW h S o d)(p:fk h S xs ds):Ev.vh m d h=true/\∃r,Ev.eK m d ds h=.ok r h/\Rep h S v r:=by
 unfold eK at z;split at z
 .obtain⟨d,rfl,p1⟩:=p.one;simp only[aW,Rep]at po;subst po;simp only[Sw]at z;obtain⟨ss,⟨l,z,z2⟩,z3⟩:=z;obtain⟨n,es,rfl,a,q⟩:=oz z p1;split at z3
  .rename_i k;cases z3;refine⟨rfl,_,?_,rfl⟩
   delta Ev.eK;dsimp only;simp only[a,Option.bind,vJ z2 q]
   rw[GQ k]
  .cases z3
 .cases z
def FD{x:V}{d:D}(f:rF x=true)(p:Rep h U x d):Rep [] U x d:=by
 cases x<;>simp only[rF,V4]at f<;>exact p
def B6{x:V}{d:D}(p:Rep h U x d):∀{kvs:List (D×D)}{v:V},ee x kvs=some v->∃r,Ev.ee d kvs=some r/\Rep h S v r:=by
 intro kvs v z;unfold ee at z;split at z
 .rename_i f;have p':=FD f p;induction kvs with
  |nil=>cases z
  |cons kv r ih=>
   obtain⟨k,u⟩:=kv;simp only[xU]at z;simp only[Ev.ee];split at z
   .rename_i y;simp only[Sw]at y;obtain⟨k',y1,y2⟩:=y;rw[jQ 1 y2 (lM y1) p'];exact⟨u,rfl,lM z⟩
   .rename_i y;simp only[Sw]at y;obtain⟨k',y1,y2⟩:=y;rw[jQ 1 y2 (lM y1) p'];exact ih z
   .cases z
 .cases z
def B7{x:V}{l:List V}{d:D}(z:fO x=some l)(p:aW h S x d):∃s,Ev.fO h d=some s/\aq h S l s.1/\(∀q∈s.2,d=.ref q.1/\bg h q.1=some q.2):=by
 cases x<;>simp only[fO,reduceCtorEq]at z<;>simp only[aW,Rep]at p
 .subst p;cases z;exact⟨_,rfl,aq.map (f:=λc=>V.str [c]) (g:=λc=>D.str [c]) (λ_=>by simp[Rep]) _,by simp⟩
 .obtain⟨ds,rfl,p⟩:=p;cases z;exact⟨_,rfl,p,by simp⟩
 .obtain⟨n,ds,rfl,a,p⟩:=p;cases z;exact⟨(ds,[(n,ds)]),by simp[Ev.fO,gi a],p,by simp[gi a]⟩
 .obtain⟨n,ds,rfl,_,a,p⟩:=p;cases z;exact⟨(ds,[(n,ds)]),by simp[Ev.fO,iu a],p,by simp[iu a]⟩
def tK(lo:Int)(n:Nat):aq h S (range lo n) (Ev.range lo n):=aq.map (f:=λ(i:Nat)=>V.int (lo+i)) (g:=λ(i:Nat)=>D.int (lo+i)) (λ_=>by simp[Rep]) _
def JV{xs l:List V}{ds:List D}(z:ef xs=some l)(p:fk h S xs ds):∃s,Ev.ef ds=some (s,[])/\aq h S l s:=by
 unfold ef at z;split at z
 .obtain⟨d,rfl,p1⟩:=p.one;simp only[aW,Rep]at p1;subst p1;split at z
  .rename_i k;cases z;exact⟨_,by simp only[Ev.ef];rw[GQ k],tK _ _⟩
  .cases z
 .simp only[fk,aW,Rep]at p;obtain⟨_,_,rfl,rfl,_,_,rfl,rfl,rfl⟩:=p;split at z
  .rename_i k;cases z;exact⟨_,by simp only[Ev.ef];rw[GQ k],tK _ _⟩
  .cases z
 .cases z
theorem tL:∀{a b:List V}{ds es:List D},aq h S a ds->aq h S b es->aq h S (cZ a b) (Ev.cZ ds es)
 |[],_,_,_,p,q=>by simp only[aq]at p;subst p;simp[cZ,Ev.cZ,aq]
 |_ :: _,[],_,_,p,q=>by simp only[aq]at q;subst q;simp[cZ,Ev.cZ,aq]
 |x :: xs,y :: ys,_,_,p,q=>by
  simp only[aq]at p q;obtain⟨d,ds,rfl,p1,p2⟩:=p;obtain⟨e,es,rfl,q1,q2⟩:=q;have:=tL p2 q2;simp only[cZ,Ev.cZ,YK]at this ⊢;exact .cons ⟨_,rfl,.cons p1 (.cons q1 .nil)⟩ this
theorem qe:∀{a:List V}{ds:List D}(k:Int),aq h S a ds->aq h S (cy k a) (Ev.cy k ds)
 |[],_,_,p=>by simp only[aq]at p;subst p;simp[cy,Ev.cy,aq]
 |x :: xs,_,k,p=>by
  simp only[aq]at p;obtain⟨d,ds,rfl,p1,p2⟩:=p;simp only[cy,Ev.cy];exact .cons ⟨_,rfl,.cons rfl (.cons p1 .nil)⟩ (qe _ p2)
end
noncomputable def jL(M B:Nat->Prop)(h:Hh)(S:Nat->Prop):Option Sl->Option D->Prop
 |none,p=>p=none
 |some (.val v),p=>∃d,p=some d/\Rep h S v d
 |some (.own l),p=>∃m ds,p=some (.ref m)/\(M m/\¬ B m)/\h[m]?=some (.lst ds)/\aq h S l ds
 |some (.bor l),p=>∃m ds,p=some (.ref m)/\(M m/\B m)/\h[m]?=some (.lst ds)/\aq h S l ds
 |some (.ro l),p=>∃m ds,p=some (.ref m)/\¬ M m/\h[m]?=some (.lst ds)/\aq h S l ds
noncomputable def gu:Option Sl->Bool
 |some (.own _)=>true
 |some (.bor _)=>true
 |_=>false
noncomputable def vK:Option Sl->Bool
 |some (.bor _)=>true
 |some (.ro _)=>true
 |_=>false
noncomputable def locked(fr:Fr)(i:Nat):Bool:=match fr[i]? with
 |some o=>vK o
 |none=>false
structure bh(M B:Nat->Prop)(h:Hh)(S:Nat->Prop)(fr:Fr)(aj:Ev.Fr):Prop where
 wS:∀m,S m->m<h.length/\¬ M m/\¬ B m
 wM:∀m,M m->m<h.length
 wB:∀m,B m->m<h.length
 len:fr.length=aj.length
 sl:∀(i:Nat) o p,fr[i]?=some o->aj[i]?=some p->jL M B h S o p
 inj:∀(i j:Nat) o o' m,fr[i]?=some o->fr[j]?=some o'->gu o=true->gu o'=true->aj[i]?=some (some (.ref m))->aj[j]?=some (some (.ref m))->i=j
structure Tk(X:Nat->Prop)(h:Hh)(S:Nat->Prop)(h':Hh)(S':Nat->Prop):Prop where
 len:h.length<=h'.length
 keep:∀m,m<h.length->¬ X m->h'[m]?=h[m]?
 sub:∀m,S m->S' m
 new:∀m,S' m->S m\/(h.length<=m/\m<h'.length)
noncomputable def Xs(M:Nat->Prop)(aj:Ev.Fr)(l:List Nat):Nat->Prop:=λm=>M m/\∃i∈l,aj[i]?=some (some (.ref m))
structure Out(M B:Nat->Prop)(c:List Nat)(h:Hh)(S:Nat->Prop)(fr:Fr)(aj:Ev.Fr)(h':Hh)(S':Nat->Prop)(af:Fr):Prop where
 f:bh M B h' S' af aj
 tr:Tk (Xs M aj c) h S h' S'
 lk:∀i,locked af i=locked fr i
section
variable{M B:Nat->Prop}{h h' h1 h2:Hh}{S S' S1 S2:Nat->Prop}{fr af ao:Fr}{aj:Ev.Fr}{c c1 c2:List Nat}{v:V}{d:D}{X X1 X2:Nat->Prop}
def bh.get(f:bh M B h S fr aj){i:Nat}{o:Option Sl}(e:fr[i]?=some o):∃p,aj[i]?=some p/\jL M B h S o p:=by
 have h1:=(List.getElem?_eq_some_iff.mp e).1;rw[f.len]at h1;exact⟨aj[i],T7 h1,f.sl i o _ e (T7 h1)⟩
def bh.w(f:bh M B h S fr aj):∀m,S m->m<h.length:=λm q=>(f.wS m q).1
def Al.tr(a:Al h S h' S'):Tk X h S h' S':=⟨a.len,λm q _=>a.keep m q,a.sub,a.new⟩
def Tk.al(t:Tk X h S h' S')(z:∀m,¬ X m):Al h S h' S':=⟨t.len,λm q=>t.keep m q (z m),t.sub,t.new⟩
def Tk.weak(t:Tk X h S h' S')(q:∀m,X m->X1 m):Tk X1 h S h' S':=⟨t.len,λm k z=>t.keep m k λy=>z (q m y),t.sub,t.new⟩
def Tk.trans(a:Tk X1 h S h1 S1)(b:Tk X2 h1 S1 h2 S2):Tk (λm=>X1 m\/X2 m) h S h2 S2 where
 len:=V0 a.len b.len
 keep:=λm q z=>by rw[b.keep m (MC q a.len) (λy=>z (.inr y)),a.keep m q (λy=>z (.inl y))]
 sub:=λm q=>b.sub m (a.sub m q)
 new:=λm q=>by
  rcases b.new m q with q|⟨q1,q2⟩
  .rcases a.new m q with q|⟨q1,q2⟩
   .exact .inl q
   .exact .inr ⟨q1,MC q2 b.len⟩
  .exact .inr ⟨V0 a.len q1,q2⟩
theorem Al.trans(a:Al h S h1 S1)(b:Al h1 S1 h2 S2):Al h S h2 S2:=((a.tr (X:=λ_=>False)).trans (b.tr (X:=λ_=>False))).al λm z=>by simp at z
def Tk.refl:Tk X h S h S:=⟨Et _,λ_ _ _=>rfl,λ_ q=>q,λ_ q=>.inl q⟩
def Xs.app{l1 l2:List Nat}{m:Nat}:Xs M aj (l1++l2) m↔Xs M aj l1 m\/Xs M aj l2 m:=by
 unfold Xs;constructor
 .rintro⟨a,i,hi,e⟩;rcases List.mem_append.mp hi with hi|hi
  .exact .inl ⟨a,i,hi,e⟩
  .exact .inr ⟨a,i,hi,e⟩
 .rintro(⟨a,i,hi,e⟩|⟨a,i,hi,e⟩)
  .exact⟨a,i,List.mem_append.mpr (.inl hi),e⟩
  .exact⟨a,i,List.mem_append.mpr (.inr hi),e⟩
def Xs.nil{m:Nat}:¬ Xs M aj [] m:=by rintro⟨_,i,hi,_⟩;simp at hi
def Xs.mono{l1 l2:List Nat}(q:∀i∈l1,i∈l2){m:Nat}:Xs M aj l1 m->Xs M aj l2 m:=λ⟨a,i,hi,e⟩=>⟨a,i,q i hi,e⟩
def Rep.tr(q:Rep h S v d)(f:bh M B h S fr aj)(t:Tk (Xs M aj c) h S h' S'):Rep h' S' v d:=q.mono (λm z=>t.keep m (f.wS m z).1 (λy=>(f.wS m z).2.1 y.1)) t.sub
def aq.tr{l:List V}{ds:List D}(q:aq h S l ds)(f:bh M B h S fr aj)(t:Tk (Xs M aj c) h S h' S'):aq h' S' l ds:=q.mono (λm z=>t.keep m (f.wS m z).1 (λy=>(f.wS m z).2.1 y.1)) t.sub
def aW.tr(q:aW h S v d)(f:bh M B h S fr aj)(t:Tk X h S h' S')(z:∀m,¬ X m):aW h' S' v d:=q.mono (λm k=>t.keep m k (z m)) f.w t.sub
def jL.al{o:Option Sl}{p:Option D}(q:jL M B h S o p)(w:∀m,S m->m<h.length)(a:Al h S h' S'):jL M B h' S' o p:=by
 have k:∀m,S m->h'[m]?=h[m]?:=λm z=>a.keep m (w m z);have g:∀(m:Nat) (ds:List D),h[m]?=some (O.lst ds)->h'[m]?=some (O.lst ds):=λm ds z=>by rw[a.keep m (List.getElem?_eq_some_iff.mp z).1];exact z
 rcases o with _|s
 .exact q
 .cases s with
  |val v=>obtain⟨d,e,q⟩:=q;exact⟨d,e,q.mono k a.sub⟩
  |own l=>obtain⟨m,ds,e,z,y,q⟩:=q;exact⟨m,ds,e,z,g m ds y,q.mono k a.sub⟩
  |bor l=>obtain⟨m,ds,e,z,y,q⟩:=q;exact⟨m,ds,e,z,g m ds y,q.mono k a.sub⟩
  |ro l=>obtain⟨m,ds,e,z,y,q⟩:=q;exact⟨m,ds,e,z,g m ds y,q.mono k a.sub⟩
theorem bh.al(f:bh M B h S fr aj)(a:Al h S h' S'):bh M B h' S' fr aj where
 wS:=λm q=>by
  rcases a.new m q with q|⟨q1,q2⟩
  .exact⟨MC (f.wS m q).1 a.len,(f.wS m q).2⟩
  .exact⟨q2,λz=>by have:=f.wM m z;omega,λz=>by have:=f.wB m z;omega⟩
 wM:=λm q=>MC (f.wM m q) a.len
 wB:=λm q=>MC (f.wB m q) a.len
 len:=f.len
 sl:=λi o p e1 e2=>(f.sl i o p e1 e2).al f.w a
 inj:=f.inj
theorem Out.refl(f:bh M B h S fr aj):Out M B c h S fr aj h S fr:=⟨f,.refl,λ_=>rfl⟩
theorem Out.trans(a:Out M B c1 h S fr aj h1 S1 af)(b:Out M B c2 h1 S1 af aj h2 S2 ao):Out M B (c1++c2) h S fr aj h2 S2 ao:=⟨b.f,(a.tr.trans b.tr).weak λm z=>Xs.app.mpr z,λi=>(b.lk i).trans (a.lk i)⟩
theorem Out.al(a:Out M B c h S fr aj h1 S1 af)(b:Al h1 S1 h2 S2):Out M B c h S fr aj h2 S2 af:=⟨a.f.al b,(a.tr.trans (b.tr (X:=λ_=>False))).weak (λm z=>by rcases z with z|z;exact z;exact z.elim),a.lk⟩
theorem Out.weak(a:Out M B c h S fr aj h1 S1 af)(q:∀i∈c,i∈c1):Out M B c1 h S fr aj h1 S1 af:=⟨a.f,a.tr.weak λm z=>Xs.mono q z,a.lk⟩
noncomputable def eO(k:Bool)(h:Hh)(S:Nat->Prop)(v:V)(d:D):Prop:=if k=true then aW h S v d else Rep h S v d
def eO.of{k:Bool}(q:Rep h S v d):eO k h S v d:=by unfold eO;split;exact q.top;exact q
def eO.t{k:Bool}(q:eO k h S v d):aW h S v d:=by unfold eO at q;split at q;exact q;exact q.top
def eO.n(q:eO false h S v d):Rep h S v d:=by simpa[eO]using q
def bh.slot(f:bh M B h S fr aj){i m:Nat}(e:aj[i]?=some (some (.ref m)))(hm:M m):∃o,fr[i]?=some o/\gu o=true:=by
 have hl:i<fr.length:=by rw[f.len];exact(List.getElem?_eq_some_iff.mp e).1
 refine⟨fr[i],T7 hl,?_⟩;have s:=f.sl i _ _ (T7 hl) e
 revert s
 generalize fr[i]=o
 intro s;rcases o with _|s'
 .cases s
 .cases s' with
  |own l=>rfl
  |bor l=>rfl
  |ro l=>obtain⟨m',ds,e,y,_⟩:=s;cases e;exact absurd hm y
  |val v=>
   obtain⟨d,e,q⟩:=s;cases e;exfalso;cases v<;>simp only[Rep,reduceCtorEq]at q
   .obtain⟨_,e,_⟩:=q;cases e
   .obtain⟨n,ds,e,sn,_⟩:=q;cases e;exact(f.wS _ sn).2.1 hm
   .obtain⟨n,ds,e,sn,_⟩:=q;cases e;exact(f.wS _ sn).2.1 hm
theorem eO.tr{k:Bool}{a:E}(q:eO k h S v d)(f:bh M B h S fr aj)(t:Tk (Xs M aj c) h S h' S')(hk:k=true->kf a c=true)(ha:∀i,a=.v i->aj[i]?.join=some d):eO k h' S' v d:=by
 unfold eO at q ⊢;split at q
 .rename_i e;rw[GQ e];have hk:=hk e;have gen:c=[]->aW h' S' v d:=λz=>q.tr f t λm y=>by subst z;exact Xs.nil y
  by_cases hv:∃i,a=.v i
  .obtain⟨i0,rfl⟩:=hv;simp only[kf,Ym,List.contains_eq_mem,XI]at hk;cases v
   case lst l=>
    simp only[aW]at q ⊢;obtain⟨n,ds,rfl,b1,b2⟩:=q;refine⟨n,ds,rfl,?_,b2.tr f t⟩;rw[t.keep n (List.getElem?_eq_some_iff.mp b1).1 ?_]
    .exact b1
    .rintro⟨mn,j,hj,ej⟩;have e2:aj[i0]?=some (some (D.ref n)):=by
      have:=ha i0 rfl;cases z:aj[i0]? with
      |none=>rw[z]at this;cases this
      |some p=>rw[z]at this;simp at this;rw[this]
     obtain⟨o1,y1,y2⟩:=f.slot e2 mn;obtain⟨o2,y3,y4⟩:=f.slot ej mn;have:=f.inj i0 j o1 o2 n y1 y3 y2 y4 e2 ej;subst this;exact hk hj
   all_goals exact Rep.tr (show Rep h S _ d from q) f t
  .have:kf a c=c.isEmpty:=by
    cases a<;>first|rfl|exact absurd ⟨_,rfl⟩ hv
   rw[this,List.isEmpty_iff]at hk;exact gen hk
 .rename_i e;rw[Us e];exact q.tr f t
def FE{k:Bool}{i:Nat}(e:nA k fr i=some v)(f:bh M B h S fr aj):∃d,aj[i]?.join=some d/\eO k h S v d:=by
  unfold nA at e;split at e
  . rename_i z;obtain⟨p,e1,q⟩:=f.get z;obtain⟨d,rfl,q⟩:=q;cases e;exact⟨d,by rw[e1];rfl,.of q⟩
  all_goals first
    | (rename_i z
       obtain⟨p,e1,q⟩:=f.get z;obtain⟨m,ds,rfl,_,y,q⟩:=q;split at e
       . rename_i hk;cases e;exact⟨.ref m,by rw[e1];rfl,by unfold eO;rw[GQ hk];exact⟨m,ds,rfl,y,q⟩⟩
       . cases e)
    |cases e
def jc{i:Nat}{s:Sl}(e:lent fr i=some s)(f:bh M B h S fr aj):∃m ds l o,fr[i]?=some o/\aj[i]?=some (some (.ref m))/\h[m]?=some (.lst ds)/\aq h S l ds/\((s=.bor l/\M m/\gu o=true)\/(s=.ro l/\¬ M m/\o=some (.ro l))):=by
 unfold lent at e;split at e
 .rename_i s' z;obtain⟨p,e1,q⟩:=f.get z;cases s' with
  |val v=>simp[Sl.lend]at e
  |own l=>
   simp[Sl.lend]at e;subst e;obtain⟨m,ds,rfl,y,y1,q⟩:=q;exact⟨m,ds,l,_,z,e1,y1,q,.inl ⟨rfl,y.1,rfl⟩⟩
  |bor l=>
   simp[Sl.lend]at e;subst e;obtain⟨m,ds,rfl,y,y1,q⟩:=q;exact⟨m,ds,l,_,z,e1,y1,q,.inl ⟨rfl,y.1,rfl⟩⟩
  |ro l=>
   simp[Sl.lend]at e;subst e;obtain⟨m,ds,rfl,y,y1,q⟩:=q;exact⟨m,ds,l,_,z,e1,y1,q,.inr ⟨rfl,y,rfl⟩⟩
 .cases e
noncomputable def ri(h:Hh)(S:Nat->Prop)(aj:Ev.Fr):List (Nat ⊕ V)->List D->Prop
 |[],ds=>ds=[]
 |.inl i :: r,ds=>∃d es,ds=d :: es/\aj[i]?=some (some d)/\ri h S aj r es
 |.inr v :: r,ds=>∃d es,ds=d :: es/\Rep h S v d/\ri h S aj r es
noncomputable def lN(h:Hh)(S:Nat->Prop):List Sl->List D->List (List V)->Prop
 |[],_,os=>os=[]
 |.val _ :: sl,ds,os=>∃d es,ds=d :: es/\lN h S sl es os
 |.own _ :: _,_,_=>False
 |_ :: sl,ds,os=>∃d es l r m cs,ds=d :: es/\os=l :: r/\d=.ref m/\h[m]?=some (.lst cs)/\aq h S l cs/\lN h S sl es r
noncomputable def oA(P:aM)(P':Ev.aM):Prop:=∀f sl v os,P f sl=some (v,os)->∀(h:Hh) (S B:Nat->Prop) (ds:List D),bh B B h S (sl.map some) (ds.map some)->
 ∃d h' S',P' f ds h=.ok d h'/\Rep h' S' v d/\Tk B h S h' S'/\lN h' S' sl ds os
theorem YV(f:bh M B h S fr aj):∀{as:List (Nat ⊕ V)}{sl:List Sl}{ds:List D},args fr as=some sl->ri h S aj as ds->sl.length=ds.length/\∀(a:Nat) s d,sl[a]?=some s->ds[a]?=some d->
  (∃i,as[a]?=some (.inl i)/\lent fr i=some s/\aj[i]?=some (some d))\/(∃v,s=.val v/\Rep h S v d)
 |[],sl,ds,e,q=>by
  simp[args]at e;simp only[ri]at q;subst e q;simp
 |.inl i :: r,sl,ds,e,q=>by
  simp only[args,Sw,Dp]at e;obtain⟨s,e1,l,e2,rfl⟩:=e;obtain⟨d,es,rfl,q1,q⟩:=q;obtain⟨h1,h2⟩:=YV f e2 q;refine⟨by simp[h1],λa s' d' z1 z2=>?_⟩;cases a with
  |zero=>simp at z1 z2;subst z1 z2;exact .inl ⟨i,by simp,e1,q1⟩
  |succ a=>exact(h2 a s' d' (by simpa using z1) (by simpa using z2)).imp (λ⟨i,k,z⟩=>⟨i,by simpa using k,z⟩) id
 |.inr v :: r,sl,ds,e,q=>by
  simp only[args,Dp]at e;obtain⟨l,e2,rfl⟩:=e;obtain⟨d,es,rfl,q1,q⟩:=q;obtain⟨h1,h2⟩:=YV f e2 q;refine⟨by simp[h1],λa s' d' z1 z2=>?_⟩;cases a with
  |zero=>simp at z1 z2;subst z1 z2;exact .inr ⟨v,rfl,q1⟩
  |succ a=>exact(h2 a s' d' (by simpa using z1) (by simpa using z2)).imp (λ⟨i,k,z⟩=>⟨i,by simpa using k,z⟩) id
theorem gv:∀{as:List (Nat ⊕ V)}{a i:Nat},as[a]?=some (.inl i)->i∈bH as
 |[],_,_,e=>by simp at e
 |.inl j :: r,0,i,e=>by simp at e;subst e;simp[bH]
 |.inr j :: r,0,i,e=>by simp at e
 |.inl j :: r,a+1,i,e=>by have:=gv (as:=r) (a:=a) (i:=i) (by simpa using e);simp[bH,this]
 |.inr j :: r,a+1,i,e=>by have:=gv (as:=r) (a:=a) (i:=i) (by simpa using e);simp[bH,this]
theorem lO:∀{as:List (Nat ⊕ V)}{a b i:Nat},(bH as).Nodup->as[a]?=some (.inl i)->as[b]?=some (.inl i)->a=b
 |[],_,_,_,_,e,_=>by simp at e
 |x :: r,0,0,_,_,_,_=>rfl
 |.inr j :: r,0,b+1,i,n,e,_=>by simp at e
 |.inl j :: r,0,b+1,i,n,e,e2=>by
  simp at e;subst e;simp only[bH,XZ]at n;exact absurd (gv (as:=r) (a:=b) (by simpa using e2)) n.1
 |.inr j :: r,a+1,0,i,n,_,e=>by simp at e
 |.inl j :: r,a+1,0,i,n,e2,e=>by
  simp at e;subst e;simp only[bH,XZ]at n;exact absurd (gv (as:=r) (a:=a) (by simpa using e2)) n.1
 |.inl j :: r,a+1,b+1,i,n,e1,e2=>by
  simp only[bH,XZ]at n;have:=lO (as:=r) (a:=a) (b:=b) (i:=i) n.2 (by simpa using e1) (by simpa using e2);omega
 |.inr j :: r,a+1,b+1,i,n,e1,e2=>by
  simp only[bH]at n;have:=lO (as:=r) (a:=a) (b:=b) (i:=i) n (by simpa using e1) (by simpa using e2);omega
def B8{s:Sl}{l:List V}:gu (some (s.with l))=gu (some s):=by cases s<;>rfl
def vL{s:Sl}{l:List V}:vK (some (s.with l))=vK (some s):=by cases s<;>rfl
theorem tM:∀{is:List Nat}{ls:List (List V)}{fr af:Fr},back is ls fr=some af->is.Nodup->af.length=fr.length/\(∀i,i∉is->af[i]?=fr[i]?)/\∀i∈is,∃(k:Nat) (s:Sl) (l:List V),is[k]?=some i/\ls[k]?=some l/\fr[i]?=some (some s)/\af[i]?=some (some (s.with l))
 |[],[],fr,af,e,_=>by simp[back]at e;subst e;simp
 |[],_ :: _,_,_,e,_=>by simp[back]at e
 |_ :: _,[],_,_,e,_=>by simp[back]at e
 |i :: is,l :: ls,fr,af,e,n=>by
  simp only[back]at e;simp only[XZ]at n;split at e
  .rename_i s z;obtain⟨h1,h2,h3⟩:=tM e n.2;refine⟨by simpa using h1,λj hj=>?_,λj hj=>?_⟩
   .simp at hj;rw[h2 j hj.2,PZ (λq=>hj.1 q.symm)]
   .rcases List.mem_cons.mp hj with rfl|hj
    .exact⟨0,s,l,by simp,by simp,z,by rw[h2 j n.1,VV (List.getElem?_eq_some_iff.mp z).1]⟩
    .obtain⟨k,s',l',a,b,c,d⟩:=h3 j hj;have hne:i≠j:=λq=>n.1 (q▸hj);rw[PZ hne]at c;exact⟨k+1,s',l',by simpa using a,by simpa using b,c,d⟩
  .cases e
theorem lP(f:bh M B h S fr aj):∀{as:List (Nat ⊕ V)}{sl:List Sl}{ds:List D}{os:List (List V)},args fr as=some sl->ri h S aj as ds->lN h' S' sl ds os->
  ∀(k i:Nat) l,(bH as)[k]?=some i->os[k]?=some l->∃m cs,aj[i]?=some (some (.ref m))/\h'[m]?=some (.lst cs)/\aq h' S' l cs
 |[],sl,ds,os,e,q,o=>by simp[bH]
 |.inl i :: r,sl,ds,os,e,q,o=>by
  simp only[args,Sw,Dp]at e;obtain⟨s,e1,l,e2,rfl⟩:=e;obtain⟨d,es,rfl,q1,q⟩:=q;obtain⟨m,cs,l0,o0,_,z2,z3,z4,z5⟩:=jc e1 f;have key:∃l1 r1 cs,os=l1 :: r1/\h'[m]?=some (.lst cs)/\aq h' S' l1 cs/\lN h' S' l es r1:=by
   rw[q1]at z2;cases z2;rcases z5 with ⟨rfl,_⟩|⟨rfl,_⟩
   .obtain⟨d',es',l1,r1,m1,zT,a1,a2,a3,a4,a5,a6⟩:=o;cases a1;cases a3;exact⟨l1,r1,zT,a2,a4,a5,a6⟩
   .obtain⟨d',es',l1,r1,m1,zT,a1,a2,a3,a4,a5,a6⟩:=o;cases a1;cases a3;exact⟨l1,r1,zT,a2,a4,a5,a6⟩
  obtain⟨l1,r1,zT,rfl,a4,a5,a6⟩:=key;intro k j l' y1 y2;cases k with
  |zero=>simp[bH]at y1 y2;subst y1 y2;exact⟨m,zT,z2,a4,a5⟩
  |succ k=>exact lP f e2 q a6 k j l' (by simpa[bH]using y1) (by simpa using y2)
 |.inr v :: r,sl,ds,os,e,q,o=>by
  simp only[args,Dp]at e;obtain⟨l,e2,rfl⟩:=e;obtain⟨d,es,rfl,q1,q⟩:=q;obtain⟨d',es',a1,a2⟩:=o;cases a1;intro k j l' y1 y2;exact lP f e2 q a2 k j l' (by simpa[bH]using y1) y2
theorem kg:∀{as:List (Nat ⊕ V)}{sl:List Sl}{i:Nat},args fr as=some sl->i∈bH as->∃s,lent fr i=some s
 |[],_,_,_,q=>by simp[bH]at q
 |.inl j :: r,_,i,z,q=>by
  simp only[args,Sw,Dp]at z;obtain⟨s,e1,l,e2,rfl⟩:=z;simp[bH]at q;rcases q with rfl|q
  .exact⟨s,e1⟩
  .exact kg e2 q
 |.inr u :: r,_,i,z,q=>by
  simp only[args,Dp]at z;obtain⟨l,e2,rfl⟩:=z;exact kg e2 (by simpa[bH]using q)
noncomputable def LB(fr:Fr)(aj:Ev.Fr)(as:List (Nat ⊕ V)):Nat->Prop:=λm=>∃(i:Nat) (o:Option Sl),i∈bH as/\fr[i]?=some o/\gu o=true/\aj[i]?=some (some (.ref m))
theorem LB.m(f:bh M B h S fr aj){as:List (Nat ⊕ V)}:∀m,LB fr aj as m->M m:=λm ⟨i,o,_,a,b,c⟩=>by
  have s:=f.sl i o _ a c;rcases o with _|s'
  .cases b
  .cases s' with
   |val v=>cases b
   |ro l=>cases b
   |own l=>obtain⟨m',ds',e,y,_⟩:=s;cases e;exact y.1
   |bor l=>obtain⟨m',ds',e,y,_⟩:=s;cases e;exact y.1
def FF(f:bh M B h S fr aj){as:List (Nat ⊕ V)}{sl:List Sl}{ds:List D}(nd:(bH as).Nodup)(z:args fr as=some sl)(q:ri h S aj as ds):bh (LB fr aj as) (LB fr aj as) h S (sl.map some) (ds.map some):=by
 have m8:=LB.m f (as:=as);obtain⟨hl,hg⟩:=YV f z q;refine⟨λm y=>⟨(f.wS m y).1,λz=>(f.wS m y).2.1 (m8 m z),λz=>(f.wS m y).2.1 (m8 m z)⟩,λm y=>f.wM m (m8 m y),λm y=>f.wM m (m8 m y),by simp[hl],λa o p y1 y2=>?_,λa b o o' m y1 y2 y3 y4 y5 y6=>?_⟩
 .simp at y1 y2;obtain⟨s,y1,rfl⟩:=y1;obtain⟨d,y2,rfl⟩:=y2;rcases hg a s d y1 y2 with ⟨i,k1,k2,k3⟩|⟨u,rfl,k⟩
  .obtain⟨m,cs,l0,o0,w1,w2,w3,w4,w5⟩:=jc k2 f;rw[k3]at w2;cases w2;rcases w5 with ⟨rfl,w6,w7⟩|⟨rfl,w6,w7⟩
   .exact⟨m,cs,rfl,⟨⟨i,o0,gv k1,w1,w7,k3⟩,⟨i,o0,gv k1,w1,w7,k3⟩⟩,w3,w4⟩
   .exact⟨m,cs,rfl,λz=>w6 (m8 m z),w3,w4⟩
  .exact⟨d,rfl,k⟩
 .simp at y1 y2 y5 y6;obtain⟨s,y1,rfl⟩:=y1;obtain⟨s',y2,rfl⟩:=y2;rcases hg a s _ y1 y5 with ⟨i,k1,k2,k3⟩|⟨u,rfl,k⟩
  .rcases hg b s' _ y2 y6 with ⟨j,k4,k5,k6⟩|⟨u,rfl,k⟩
   .obtain⟨m1,_,l1,o1,w1,w2,_,_,w5⟩:=jc k2 f;obtain⟨m2,_,l2,o2,x1,x2,_,_,x5⟩:=jc k5 f;have i1:gu o1=true:=by rcases w5 with ⟨_,_,w7⟩|⟨rfl,_,_⟩;exact w7;cases y3
    have i2:gu o2=true:=by rcases x5 with ⟨_,_,w7⟩|⟨rfl,_,_⟩;exact w7;cases y4
    have:=f.inj i j o1 o2 m w1 x1 i1 i2 k3 k6;subst this;exact lO nd k1 k4
   .cases y4
  .cases y3
def B9{P:aM}{P':Ev.aM}(HP:oA P P'){g:Nat}{as:List (Nat ⊕ V)}{ds:List D}(e:cX P g as fr=.ok v af)(f:bh M B h S fr aj)(q:ri h S aj as ds) :
  ∃d h' S',P' g ds h=.ok d h'/\Rep h' S' v d/\Out M B (bH as) h S fr aj h' S' af:=by
 unfold cX at e;split at e
 case isFalse=>cases e
 rename_i nd;cases z:args fr as with
 |none=>rw[z]at e;cases e
 |some sl=>
 rw[z]at e;simp only at e;cases z2:P g sl with
 |none=>rw[z2]at e;cases e
 |some vo=>
 obtain⟨v',os⟩:=vo;rw[z2]at e;simp only at e;cases z3:back (bH as) os fr with
 |none=>rw[z3]at e;cases e
 |some ao=>
 rw[z3]at e;simp at e;obtain⟨rfl,rfl⟩:=e;obtain⟨hl,hg⟩:=YV f z q
 let B0:Nat->Prop:=LB fr aj as
 have m8:∀m,B0 m->M m:=LB.m f;have F0:bh B0 B0 h S (sl.map some) (ds.map some):=FF f nd z q;obtain⟨d,h',S',c1,c2,c3,c4⟩:=HP g sl v' os z2 h S B0 ds F0;obtain⟨b1,b2,b3⟩:=tM z3 nd;have hL:=lP f z q c4;have oB:∀m,S m->h'[m]?=h[m]?:=λm y=>c3.keep m (f.wS m y).1 (λz=>(f.wS m y).2.1 (m8 m z));refine⟨d,h',S',c1,c2,⟨?_,?_,?_⟩⟩
 .refine⟨λm y=>?_,λm y=>MC (f.wM m y) c3.len,λm y=>MC (f.wB m y) c3.len,by rw[b1,f.len],λi o p y1 y2=>?_,λi j o o' m y1 y2 y3 y4 y5 y6=>?_⟩
  .rcases c3.new m y with y|⟨y1,y2⟩
   .exact⟨MC (f.wS m y).1 c3.len,(f.wS m y).2⟩
   .exact⟨y2,λz=>by have:=f.wM m z;omega,λz=>by have:=f.wB m z;omega⟩
  .by_cases hi:i∈bH as
   .obtain⟨k,s,l,w1,w2,w3,w4⟩:=b3 i hi;rw[w4]at y1;cases y1;obtain⟨m,cs,x1,x2,x3⟩:=hL k i l w1 w2;rw[x1]at y2;cases y2;have old:=f.sl i _ _ w3 x1;cases s with
    |val u=>
     exfalso;have:∃s,lent fr i=some s:=kg z hi;obtain⟨s,hs⟩:=this;simp[lent,w3,Sl.lend]at hs
    |own u=>obtain⟨m',ds',e,y,_⟩:=old;cases e;exact⟨m,cs,rfl,y,x2,x3⟩
    |bor u=>obtain⟨m',ds',e,y,_⟩:=old;cases e;exact⟨m,cs,rfl,y,x2,x3⟩
    |ro u=>
     obtain⟨m',ds',e,y,y1,y2⟩:=old;cases e;refine⟨m,ds',rfl,y,?_,y2.mono oB c3.sub⟩;rw[c3.keep m (List.getElem?_eq_some_iff.mp y1).1 (λz=>y (m8 m z))];exact y1
   .rw[b2 i hi]at y1;have old:=f.sl i o p y1 y2;rcases o with _|s
    .exact old
    .cases s with
     |val u=>obtain⟨d,e,q⟩:=old;exact⟨d,e,q.mono oB c3.sub⟩
     |own u=>
      obtain⟨m,ds',rfl,w1,w2,w3⟩:=old;refine⟨m,ds',rfl,w1,?_,w3.mono oB c3.sub⟩;rw[c3.keep m (f.wM m w1.1) (λ⟨j,o2,x1,x2,x3,x4⟩=>hi (f.inj i j _ o2 m y1 x2 rfl x3 y2 x4▸x1))];exact w2
     |bor u=>
      obtain⟨m,ds',rfl,w1,w2,w3⟩:=old;refine⟨m,ds',rfl,w1,?_,w3.mono oB c3.sub⟩;rw[c3.keep m (f.wM m w1.1) (λ⟨j,o2,x1,x2,x3,x4⟩=>hi (f.inj i j _ o2 m y1 x2 rfl x3 y2 x4▸x1))];exact w2
     |ro u=>
      obtain⟨m,ds',rfl,w1,w2,w3⟩:=old;refine⟨m,ds',rfl,w1,?_,w3.mono oB c3.sub⟩;rw[c3.keep m (List.getElem?_eq_some_iff.mp w2).1 (λz=>w1 (m8 m z))];exact w2
  .have kind:∀(i:Nat) o,ao[i]?=some o->gu o=true->∃o0,fr[i]?=some o0/\gu o0=true:=λi o w1 w2=>by
    by_cases hi:i∈bH as
    .obtain⟨k,s,l,x1,x2,x3,x4⟩:=b3 i hi;rw[x4]at w1;cases w1;exact⟨_,x3,by rw[B8]at w2;exact w2⟩
    .rw[b2 i hi]at w1;exact⟨o,w1,w2⟩
   obtain⟨oi,k1,k2⟩:=kind i o y1 y3;obtain⟨oj,k3,k4⟩:=kind j o' y2 y4;exact f.inj i j oi oj m k1 k3 k2 k4 y5 y6
 .exact c3.weak λm z=>⟨m8 m z,by obtain⟨i,o,a1,a2,a3,a4⟩:=z;exact⟨i,a1,a4⟩⟩
 .intro i;unfold locked;by_cases hi:i∈bH as
  .obtain⟨k,s,l,x1,x2,x3,x4⟩:=b3 i hi;rw[x3,x4];exact vL
  .rw[b2 i hi]
end
end Pv
namespace Pv
open Ev (D O Hh)
end Pv
namespace Pv
open Ev (D O Hh br aZ TY BI ME T E Es Eo It S Ss Fn big deep b2i rep bM cR bx aL cut bT cI slots bg)
section
variable{M B:Nat->Prop}{h h' h1 h2:Hh}{S S' S1 S2:Nat->Prop}{fr af ao:Fr}{aj:Ev.Fr}{c:List Nat}{v:V}{d:D}
def jR{n m:Nat}{o:O}(q:n≠m):(h.set n o)[m]?=h[m]?:=PZ q
def bh.mM(f:bh M B h S fr aj){i n:Nat}{o:Option Sl}(e:fr[i]?=some o)(hM:gu o=true)(e':aj[i]?=some (some (.ref n))):M n:=by
 have s:=f.sl i o _ e e';rcases o with _|s'
 .cases hM
 .cases s' with
  |val v=>cases hM
  |ro l=>cases hM
  |own l=>obtain⟨m',ds',e,y,_⟩:=s;cases e;exact y.1
  |bor l=>obtain⟨m',ds',e,y,_⟩:=s;cases e;exact y.1
def bh.write(f:bh M B h S fr aj){i n:Nat}{s:Sl}{l':List V}{ds':List D}(e:fr[i]?=some (some s))(hM:gu (some s)=true)(e':aj[i]?=some (some (.ref n)))(q:aq h S l' ds') :
  bh M B (h.set n (.lst ds')) S (fr.set i (some (s.with l'))) aj:=by
 have mn:=f.mM e hM e';have kp:∀m,S m->(h.set n (.lst ds'))[m]?=h[m]?:=λm z=>jR λy=>(f.wS m z).2.1 (y▸mn);have il:=(List.getElem?_eq_some_iff.mp e).1;refine⟨λm y=>by simpa using f.wS m y,λm y=>by simpa using f.wM m y,λm y=>by simpa using f.wB m y,by simp[f.len],λj o p y1 y2=>?_,λj k o o' m y1 y2 y3 y4 y5 y6=>?_⟩
 .by_cases hj:i=j
  .subst hj;rw[VV il]at y1;cases y1;rw[e']at y2;cases y2;have old:=f.sl i _ _ e e';have hn:(h.set n (.lst ds'))[n]?=some (.lst ds'):=VV (f.wM n mn);cases s with
   |val v=>cases hM
   |ro l=>cases hM
   |own l=>obtain⟨m',_,e,y,_⟩:=old;cases e;exact⟨n,ds',rfl,y,hn,q.mono kp λ_ z=>z⟩
   |bor l=>obtain⟨m',_,e,y,_⟩:=old;cases e;exact⟨n,ds',rfl,y,hn,q.mono kp λ_ z=>z⟩
  .rw[PZ hj]at y1;have old:=f.sl j o p y1 y2;rcases o with _|s'
   .exact old
   .cases s' with
    |val u=>obtain⟨d,e,q⟩:=old;exact⟨d,e,q.mono kp λ_ z=>z⟩
    |own u=>
     obtain⟨m,es,rfl,w1,w2,w3⟩:=old;refine⟨m,es,rfl,w1,?_,w3.mono kp λ_ z=>z⟩;rw[jR λ(z:n=m)=>hj (f.inj i j _ _ n e y1 hM rfl e' (by rw[z];exact y2))];exact w2
    |bor u=>
     obtain⟨m,es,rfl,w1,w2,w3⟩:=old;refine⟨m,es,rfl,w1,?_,w3.mono kp λ_ z=>z⟩;rw[jR λ(z:n=m)=>hj (f.inj i j _ _ n e y1 hM rfl e' (by rw[z];exact y2))];exact w2
    |ro u=>
     obtain⟨m,es,rfl,w1,w2,w3⟩:=old;refine⟨m,es,rfl,w1,?_,w3.mono kp λ_ z=>z⟩;rw[jR λ(z:n=m)=>w1 (z▸mn)];exact w2
 .have kind:∀(j:Nat) o,(fr.set i (some (s.with l')))[j]?=some o->gu o=true->∃o0,fr[j]?=some o0/\gu o0=true:=λj o w1 w2=>by
   by_cases hj:i=j
   .subst hj;exact⟨_,e,hM⟩
   .rw[PZ hj]at w1;exact⟨o,w1,w2⟩
  obtain⟨oi,k1,k2⟩:=kind j o y1 y3;obtain⟨oj,k3,k4⟩:=kind k o' y2 y4;exact f.inj j k oi oj m k1 k3 k2 k4 y5 y6
def JX{m:ME}{l l':List V}{xs:List V}{n:Nat}{ds es:List D}(z:jw m l xs=some (v,l'))(e:h[n]?=some (.lst ds))(q:aq h S l ds)(p:fk h S xs es)(p':zR m=false->aq h S xs es)(hS:∀k,S k->k≠n) :
  ∃r ds',Ev.eK m (.ref n) es h=.ok r (h.set n (.lst ds'))/\Rep h S v r/\aq h S l' ds':=by
 unfold jw at z;split at z
 .have p':=p' rfl;split at z
  .rename_i k;cases z;simp only[aq]at p';obtain⟨d,_,rfl,p1,rfl⟩:=p';refine⟨_,_,?_,rfl,q.append (.cons p1 .nil)⟩
   delta Ev.eK;dsimp only;simp only[e]
   rw[GQ (by rw[<-q.length];exact k)]
  .cases z
 .split at z
  .rename_i k;cases z;obtain⟨d,rfl,p1⟩:=p.one;simp only[aW]at p1;obtain⟨n2,cs,rfl,e2,p1⟩:=p1;refine⟨_,_,?_,rfl,q.append p1⟩
   delta Ev.eK;dsimp only;simp only[e,e2]
   rw[GQ (by rw[<-q.length,<-p1.length];exact k)]
  .cases z
 .simp only[fk]at p;subst p;split at z
  .rename_i x y;cases z;obtain⟨d,k1,k2⟩:=q.get y;refine⟨d,_,?_,k2,q.dropLast⟩
   delta Ev.eK;dsimp only;simp only[e]
   rw[<-q.length,k1]
  .cases z
 .cases z
theorem bh.set(f:bh M B h S fr aj){i:Nat}(e:put fr i (.val v)=some af)(q:Rep h S v d):bh M B h S af (aj.set i (some d))/\(∀j,locked af j=locked fr j)/\∀j,locked fr j=true->(aj.set i (some d))[j]?=aj[j]?:=by
 have hx:af=fr.set i (some (.val v))/\locked fr i=false:=by
  unfold put at e;unfold locked;split at e
  .cases e
  .cases e
  .rename_i k1 k2;cases e;refine⟨rfl,?_⟩;cases z:fr[i]? with
   |none=>rfl
   |some o=>
    rcases o with _|s
    .rfl
    .cases s with
     |bor l=>exact absurd z (k1 l)
     |ro l=>exact absurd z (k2 l)
     |_=>rfl
 obtain⟨rfl,hk⟩:=hx;have lk:∀j,locked (fr.set i (some (.val v))) j=locked fr j:=λj=>by
  by_cases hj:i=j
  .subst hj;rw[hk];unfold locked;by_cases hl:i<fr.length
   .rw[VV hl];rfl
   .rw[WK (by simpa using hl)]
  .unfold locked;rw[PZ hj]
 refine⟨⟨f.wS,f.wM,f.wB,by simp[f.len],λj o p y1 y2=>?_,λj k o o' m y1 y2 y3 y4 y5 y6=>?_⟩,lk,λj hj=>?_⟩
 .by_cases hj:i=j
  .subst hj;have hl:i<fr.length:=by have:=(List.getElem?_eq_some_iff.mp y1).1;simpa using this
   rw[VV hl]at y1;rw[VV (by rw[<-f.len];exact hl)]at y2;cases y1;cases y2;exact⟨d,rfl,q⟩
  .rw[PZ hj]at y1 y2;exact f.sl j o p y1 y2
 .have hn:∀(j:Nat) o,(fr.set i (some (.val v)))[j]?=some o->gu o=true->i≠j:=λj o w1 w2 w3=>by
   subst w3;have hl:i<fr.length:=by have:=(List.getElem?_eq_some_iff.mp w1).1;simpa using this
   rw[VV hl]at w1;cases w1;cases w2
  have n1:=hn j o y1 y3;have n2:=hn k o' y2 y4;rw[PZ n1]at y1 y5;rw[PZ n2]at y2 y6;exact f.inj j k o o' m y1 y2 y3 y4 y5 y6
 .have:i≠j:=λz=>by subst z;rw[hk]at hj;cases hj
  rw[PZ this]
theorem bh.cC:∀{is:List Nat}{vs:List V}{ds:List D}{fr af:Fr}{aj:Ev.Fr},bh M B h S fr aj->cC is vs fr=some af->aq h S vs ds->∃bG,Ev.cC is ds aj=some bG/\bh M B h S af bG/\(∀j,locked af j=locked fr j)/\∀j,locked fr j=true->bG[j]?=aj[j]?
 |[],[],ds,fr,af,aj,f,e,q=>by
  simp[Pv.cC]at e;simp only[aq]at q;subst e q;exact⟨aj,rfl,f,λ_=>rfl,λ_ _=>rfl⟩
 |[],_ :: _,_,_,_,_,_,e,_=>by simp[Pv.cC]at e
 |_ :: _,[],_,_,_,_,_,e,_=>by simp[Pv.cC]at e
 |i :: is,v :: vs,ds,fr,af,aj,f,e,q=>by
  simp only[Pv.cC,Sw]at e;obtain⟨ao,e1,e2⟩:=e;simp only[aq]at q;obtain⟨d,es,rfl,q1,q2⟩:=q;obtain⟨f2,l2,r2⟩:=f.set e1 q1;obtain⟨bG,a,f3,l3,r3⟩:=f2.cC e2 q2;exact⟨bG,a,f3,λj=>(l3 j).trans (l2 j),λj hj=>(r3 j (by rw[l2 j];exact hj)).trans (r2 j hj)⟩
theorem bh.bY(f:bh M B h S fr aj){t:T}(e:bY t v fr=some af)(q:Rep h S v d):∃bG,Ev.bY t d aj=some bG/\bh M B h S af bG/\(∀j,locked af j=locked fr j)/\∀j,locked fr j=true->bG[j]?=aj[j]?:=by
 cases t with
 |one i=>exact⟨_,rfl,f.set e q⟩
 |many l=>
  cases v<;>simp only[Pv.bY,reduceCtorEq]at e
  simp only[Rep]at q;obtain⟨ds,rfl,q⟩:=q;exact f.cC e q
theorem bh.undef(f:bh M B h S fr aj){t:T}(e:undef t fr=true):Ev.undef t aj=true:=by
 unfold Pv.undef at e;unfold Ev.undef;rw[Zu]at e ⊢;intro i hi;have:=e i hi;cases z:fr[i]? with
 |none=>
  have:aj[i]?=none:=by
   rw[Yp]at z ⊢;rw[<-f.len];exact z
  rw[this];rfl
 |some o=>
  obtain⟨p,e1,q⟩:=f.get z;rw[z]at this;rcases o with _|s
  .simp only[jL]at q;subst q;rw[e1];rfl
  .simp at this
def vM{i:Nat}{o:Option Sl}(e:(q9 fr)[i]?=some o):∃o0,fr[i]?=some o0/\o=o0.map Sl.read:=by
 unfold q9 at e;rw[We]at e;cases z:fr[i]? with
 |none=>rw[z]at e;cases e
 |some o0=>rw[z]at e;cases e;exact⟨o0,rfl,rfl⟩
theorem bh.ro(f:bh M B h S fr aj):bh (λ_=>False) B h S (q9 fr) aj:=by
 refine⟨λm y=>⟨(f.wS m y).1,id,(f.wS m y).2.2⟩,λm y=>y.elim,f.wB,by simp[q9,f.len],λi o p y1 y2=>?_,λi j o o' m y1 y2 y3 y4 y5 y6=>?_⟩
 .obtain⟨o0,z,rfl⟩:=vM y1;have q:=f.sl i o0 p z y2;rcases o0 with _|s
  .exact q
  .cases s with
   |val v=>exact q
   |own l=>obtain⟨m,ds,a,b,c,d⟩:=q;exact⟨m,ds,a,id,c,d⟩
   |bor l=>obtain⟨m,ds,a,b,c,d⟩:=q;exact⟨m,ds,a,id,c,d⟩
   |ro l=>obtain⟨m,ds,a,b,c,d⟩:=q;exact⟨m,ds,a,id,c,d⟩
 .obtain⟨o0,z,rfl⟩:=vM y1;rcases o0 with _|s
  .cases y3
  .cases s<;>cases y3
theorem jl:∀{ck:List (Nat×List D)},(∀q∈ck,bg h q.1=some q.2)->Ev.stays h ck=true
 |[],_=>rfl
 | (n,ds) :: r,q=>by
  simp only[Ev.stays,Lf];refine⟨?_,jl λx hx=>q x (VY _ hx)⟩;rw[q (n,ds) (Wq ..)];exact Ev.xg _
def kh{n:Nat}{ds:List D}(q:bg h n=some ds)(k:h'[n]?=h[n]?):bg h' n=some ds:=by
 unfold bg at q ⊢;rw[k];exact q
def oE{n:Nat}{ds:List D}(q:bg h n=some ds):n<h.length:=by
 unfold bg at q;cases z:h[n]? with
 |none=>rw[z]at q;cases q
 |some o=>exact(List.getElem?_eq_some_iff.mp z).1
noncomputable def Ca(h:Hh)(S:Nat->Prop):Option V->Option D->Prop
 |none,o=>o=none
 |some v,o=>∃d,o=some d/\Rep h S v d
theorem vN{f:V->Option (Option V)}{f':D->Hh->Ev.R (Option D)}{ck:List (Nat×List D)}{h0:Hh}{S0:Nat->Prop}(w0:∀m,S0 m->m<h0.length)(st:∀q∈ck,bg h0 q.1=some q.2)
  (turn:∀v o d h S,Al h0 S0 h S->f v=some o->Rep h S v d->∃o' h' S',f' d h=.ok o' h'/\Ca h' S' o o'/\Al h S h' S') :
  ∀{vs:List V} {ds:List D} {rs:List V} {h:Hh} {S:Nat->Prop},Al h0 S0 h S->cJ f vs=some rs->aq h S vs ds->∃rs' h' S',Ev.cJ f' ck ds h=.ok rs' h'/\aq h' S' rs rs'/\Al h S h' S'
 |[],ds,rs,h,S,a,e,q=>by
  simp[cJ]at e;simp only[aq]at q;subst e q;refine⟨[],h,S,?_,.nil,.refl⟩;simp only[Ev.cJ];rw[GQ (jl λx hx=>kh (st x hx) (a.keep _ (oE (st x hx))))]
 |v :: vs,ds,rs,h,S,a,e,q=>by
  simp only[cJ,Sw]at e;obtain⟨o,e1,r,e2,e3⟩:=e;cases e3;simp only[aq]at q;obtain⟨d,es,rfl,q1,q2⟩:=q;have w:∀m,S m->m<h.length:=λm z=>by
   rcases a.new m z with z|z
   .exact MC (w0 m z) a.len
   .exact z.2
  obtain⟨o',h1,S1,t1,t2,t3⟩:=turn v o d h S a e1 q1;obtain⟨rs',h2,S2,u1,u2,u3⟩:=vN w0 st turn (a.trans t3) e2 (q2.mono (λm z=>t3.keep m (w m z)) t3.sub);have w1:∀m,S1 m->m<h1.length:=λm z=>by
   rcases t3.new m z with z|z
   .exact MC (w m z) t3.len
   .exact z.2
  refine⟨o'.toList++rs',h2,S2,?_,?_,t3.trans u3⟩
  .simp only[Ev.cJ];rw[GQ (jl λx hx=>kh (st x hx) (a.keep _ (oE (st x hx)))),t1,Ev.ak,u1,Ev.ak]
  .cases o with
   |none=>simp only[Ca]at t2;subst t2;simpa using u2
   |some v'=>
    simp only[Ca]at t2;obtain⟨d',rfl,t2⟩:=t2;exact .cons (t2.mono (λm z=>u3.keep m (w1 m z)) u3.sub) u2
end
noncomputable def iV(k:Bool)(h:Hh)(S:Nat->Prop)(v:List V)(d:List D):Prop:=if k=true then fk h S v d else aq h S v d
inductive JY(P':Ev.aM)(e:E)(k:Bool)(v:V)(M B:Nat->Prop)(h:Hh)(S:Nat->Prop)(fr:Fr)(aj:Ev.Fr)(af:Fr):Prop
 |mk (d:D) (h':Hh) (S':Nat->Prop) (c0:Ev.ev P' e aj h=.ok d h') (c1:eO k h' S' v d) (c2:Out M B (bC e) h S fr aj h' S' af):JY P' e k v M B h S fr aj af
inductive JZ(P':Ev.aM)(e:E)(b:Bool)(M B:Nat->Prop)(h:Hh)(S:Nat->Prop)(fr:Fr)(aj:Ev.Fr)(af:Fr):Prop
 |mk (h':Hh) (S':Nat->Prop) (c0:Ev.aE P' e aj h=.ok b h') (c1:Out M B (bC e) h S fr aj h' S' af):JZ P' e b M B h S fr aj af
inductive J0(P':Ev.aM)(e:Es)(k:Bool)(v:List V)(M B:Nat->Prop)(h:Hh)(S:Nat->Prop)(fr:Fr)(aj:Ev.Fr)(af:Fr):Prop
 |mk (d:List D) (h':Hh) (S':Nat->Prop) (c0:Ev.bV P' e aj h=.ok d h') (c1:iV k h' S' v d) (c2:Out M B (fD e) h S fr aj h' S' af):J0 P' e k v M B h S fr aj af
inductive J1(P':Ev.aM)(e:Es)(v:List (Nat ⊕ V))(M B:Nat->Prop)(h:Hh)(S:Nat->Prop)(fr:Fr)(aj:Ev.Fr)(af:Fr):Prop
 |mk (d:List D) (h':Hh) (S':Nat->Prop) (c0:Ev.bV P' e aj h=.ok d h') (c1:ri h' S' aj v d) (c2:Out M B (fD e) h S fr aj h' S' af):J1 P' e v M B h S fr aj af
inductive J2(P':Ev.aM)(e:Eo)(v:Option Int)(M B:Nat->Prop)(h:Hh)(S:Nat->Prop)(fr:Fr)(aj:Ev.Fr)(af:Fr):Prop
 |mk (h':Hh) (S':Nat->Prop) (c0:Ev.ff P' e aj h=.ok v h') (c1:Out M B (jD e) h S fr aj h' S' af):J2 P' e v M B h S fr aj af
inductive J3(P':Ev.aM)(e:Eo)(v:Bool)(M B:Nat->Prop)(h:Hh)(S:Nat->Prop)(fr:Fr)(aj:Ev.Fr)(af:Fr):Prop
 |mk (h':Hh) (S':Nat->Prop) (c0:Ev.gI P' e aj h=.ok v h') (c1:Out M B (jD e) h S fr aj h' S' af):J3 P' e v M B h S fr aj af
inductive J4(P':Ev.aM)(e:It)(k:Bool)(v:List V)(M B:Nat->Prop)(h:Hh)(S:Nat->Prop)(fr:Fr)(aj:Ev.Fr)(af:Fr):Prop
 |mk (s:Ev.Src) (h':Hh) (S':Nat->Prop) (c0:Ev.bR P' e aj h=.ok s h') (c1:aq h' S' v s.1) (c2:∀q∈s.2,bg h' q.1=some q.2/\(k=false->¬ M q.1)) (c3:Out M B (B4 e) h S fr aj h' S' af):J4 P' e k v M B h S fr aj af
section
variable(P:aM)(P':Ev.aM)
noncomputable def aX(e:E):Prop:=∀{k:Bool} {fr:Fr} {v:V} {af:Fr} {M B:Nat->Prop} {h:Hh} {S:Nat->Prop} {aj:Ev.Fr},ev P k e fr=.ok v af->bh M B h S fr aj->JY P' e k v M B h S fr aj af
noncomputable def gg(e:E):Prop:=∀{fr:Fr} {b:Bool} {af:Fr} {M B:Nat->Prop} {h:Hh} {S:Nat->Prop} {aj:Ev.Fr},aE P e fr=.ok b af->bh M B h S fr aj->JZ P' e b M B h S fr aj af
noncomputable def iW(e:Es):Prop:=∀{k:Bool} {fr:Fr} {v:List V} {af:Fr} {M B:Nat->Prop} {h:Hh} {S:Nat->Prop} {aj:Ev.Fr},bV P k e fr=.ok v af->bh M B h S fr aj->J0 P' e k v M B h S fr aj af
noncomputable def oF(e:Es):Prop:=∀{fr:Fr} {v:List (Nat ⊕ V)} {af:Fr} {M B:Nat->Prop} {h:Hh} {S:Nat->Prop} {aj:Ev.Fr},fj P e fr=.ok v af->bh M B h S fr aj->J1 P' e v M B h S fr aj af
noncomputable def oG(e:Eo):Prop:=∀{fr:Fr} {v:Option Int} {af:Fr} {M B:Nat->Prop} {h:Hh} {S:Nat->Prop} {aj:Ev.Fr},ff P e fr=.ok v af->bh M B h S fr aj->J2 P' e v M B h S fr aj af
noncomputable def rL(e:Eo):Prop:=∀{fr:Fr} {v:Bool} {af:Fr} {M B:Nat->Prop} {h:Hh} {S:Nat->Prop} {aj:Ev.Fr},gI P e fr=.ok v af->bh M B h S fr aj->J3 P' e v M B h S fr aj af
noncomputable def iD(e:It):Prop:=∀{k:Bool} {fr:Fr} {v:List V} {af:Fr} {M B:Nat->Prop} {h:Hh} {S:Nat->Prop} {aj:Ev.Fr},bR P k e fr=.ok v af->bh M B h S fr aj->J4 P' e k v M B h S fr aj af
end
section
variable{P:aM}{P':Ev.aM}{a b e tt:E}{es:Es}{lo hi:Eo}{it:It}
def J5{d:D}:aX P P' (.c d):=λz f=>by
 simp only[ev]at z;replace z:=aC z;obtain⟨z,y0⟩:=z;subst y0;exact⟨d,_,_,by simp only[Ev.ev],.of (lM z),.refl f⟩
def J6{i:Nat}:aX P P' (.v i):=λz f=>by
 simp only[ev]at z;replace z:=aC z;obtain⟨z,y0⟩:=z;subst y0;obtain⟨d,e1,q⟩:=FE z f;exact⟨d,_,_,by simp only[Ev.ev,e1,Ev.cW],q,.refl f⟩
def iV.n{h:Hh}{S:Nat->Prop}{v:List V}{d:List D}(q:iV false h S v d):aq h S v d:=by simpa[iV]using q
theorem aq.tl{h:Hh}{S:Nat->Prop}:∀{v:List V}{d:List D},aq h S v d->fk h S v d
 |[],_,q=>q
 |_ :: _,_,⟨d,es,a,b,q⟩=>⟨d,es,a,b.top,q.tl⟩
def iV.t{k:Bool}{h:Hh}{S:Nat->Prop}{v:List V}{d:List D}(q:iV k h S v d):fk h S v d:=by
 unfold iV at q;split at q
 .exact q
 .exact q.tl
def zU(is:iW P P' es):aX P P' (.tup es):=λz f=>by
 simp only[ev]at z;obtain⟨ds,ao,z1,z2⟩:=ah z;replace z2:=aC z2;obtain⟨z2,y0⟩:=z2;subst y0;obtain⟨ds',h',S',e1,q,o⟩:=is z1 f;unfold fV at z2;split at z2
 .rename_i hk;cases z2;refine⟨.tup ds',h',S',?_,.of ⟨ds',rfl,q.n⟩,o⟩;simp only[Ev.ev,e1,Ev.ak];rw[GQ (by rw[<-q.n.length];exact hk)]
 .cases z2
def zV(is:iW P P' es):aX P P' (.lst es):=λz f=>by
 simp only[ev]at z;obtain⟨ds,ao,z1,z2⟩:=ah z;replace z2:=aC z2;obtain⟨z2,y0⟩:=z2;subst y0;obtain⟨ds',h',S',e1,q,o⟩:=is z1 f;obtain⟨r,h2,S2,a1,a2,a3⟩:=gO o.f.w z2 q.n;exact⟨r,h2,S2,by simp only[Ev.ev,e1,Ev.ak,a1],.of a2,o.al a3⟩
def oH{a:E}{aj:Ev.Fr}{h h1:Hh}{d:D}(e:Ev.ev P' a aj h=.ok d h1):∀i,a=.v i->aj[i]?.join=some d:=λi hi=>by
 subst hi;simp only[Ev.ev]at e;exact(Ev.aC e).1
def two(ia:aX P P' a)(ib:aX P P' b){α:Type}{X:V->V->Fr->R α}{u:α}{fr bO:Fr}{M B:Nat->Prop}{h:Hh}{S:Nat->Prop}{aj:Ev.Fr}
  (z:((ev P (kf a (bC b)) a fr).bind λx af=>(ev P true b af).bind λy ao=>X x y ao)=.ok u bO) (f:bh M B h S fr aj) :
  ∃x y d e h2 S2 ao,(∀{β:Type} (g:D->D->Hh->Ev.R β),((Ev.ev P' a aj h).bind λx h1=>(Ev.ev P' b aj h1).bind λy h2=>g x y h2)=g d e h2)/\X x y ao=.ok u bO/\aW h2 S2 x d/\aW h2 S2 y e/\Out M B (bC a++bC b) h S fr aj h2 S2 ao:=by
 replace z:=ah z;obtain⟨x,af,z1,z⟩:=z;replace z:=ah z;obtain⟨y,ao,z2,z⟩:=z;obtain⟨d,h1,S1,e1,q1,o1⟩:=ia z1 f;obtain⟨e,h2,S2,e2,q2,o2⟩:=ib z2 o1.f;exact⟨x,y,d,e,h2,S2,ao,λg=>by rw[e1,Ev.ak,e2,Ev.ak],z,(q1.tr o1.f o2.tr id (oH e1)).t,q2.t,o1.trans o2⟩
def zW{o:br}(ia:aX P P' a)(ib:aX P P' b):aX P P' (.bin o a b):=λz f=>by
 simp only[ev]at z;replace z:=two ia ib z f;obtain⟨x,y,d,e,h2,S2,ao,k,z,q1,q2,ou⟩:=z;replace z:=aC z;obtain⟨z,y0⟩:=z;subst y0;obtain⟨r,h3,S3,a1,a2,a3⟩:=JK ou.f.w z q1 q2;exact⟨r,h3,S3,by simp only[Ev.ev];rw[k];exact a1,.of a2,ou.al a3⟩
def zX{o:aZ}(ia:aX P P' a)(ib:aX P P' b):aX P P' (.cmp o a b):=λz f=>by
 simp only[ev]at z;replace z:=two ia ib z f;obtain⟨x,y,d,e,h2,S2,ao,k,z,q1,q2,ou⟩:=z;replace z:=aC z;obtain⟨z,y0⟩:=z;subst y0;simp only[Dp]at z;obtain⟨b,z,rfl⟩:=z;exact⟨.bl b,h2,S2,by simp only[Ev.ev];rw[k,JL z q1.u q2.u];rfl,.of rfl,ou⟩
def D3(ia:aX P P' a)(ib:aX P P' b):aX P P' (.ix a b):=λz f=>by
 simp only[ev]at z;replace z:=two ia ib z f;obtain⟨x,y,d,e,h2,S2,ao,k,z,q1,q2,ou⟩:=z;replace z:=aC z;obtain⟨z,y0⟩:=z;subst y0;obtain⟨r,a1,a2⟩:=JM z q1 q2;exact⟨r,h2,S2,by simp only[Ev.ev];rw[k,a1];rfl,.of a2,ou⟩
def Nn(ia:aX P P' a):aX P P' (.nt a):=λz f=>by
 simp only[ev]at z;replace z:=ah z;obtain⟨x,af,z1,z⟩:=z;obtain⟨d,h1,S1,e1,q1,o1⟩:=ia z1 f;cases x<;>simp only[reduceCtorEq]at z
 cases z;have q:=q1.t;simp only[aW,Rep]at q;subst q;exact⟨_,h1,S1,by simp only[Ev.ev,e1,Ev.ak],.of rfl,o1⟩
def zY(ia:aX P P' a):aX P P' (.neg a):=λz f=>by
 simp only[ev]at z;replace z:=ah z;obtain⟨x,af,z1,z⟩:=z;obtain⟨d,h1,S1,e1,q1,o1⟩:=ia z1 f;cases x<;>simp only[reduceCtorEq]at z
 cases z;have q:=q1.t;simp only[aW,Rep]at q;subst q;exact⟨_,h1,S1,by simp only[Ev.ev,e1,Ev.ak],.of rfl,o1⟩
def Np(ia:aX P P' a)(ib:aX P P' b):aX P P' (.an a b):=λz f=>by
 simp only[ev]at z;replace z:=ah z;obtain⟨x,af,z1,z⟩:=z;obtain⟨d,h1,S1,e1,q1,o1⟩:=ia z1 f;cases x<;>try (cases z;done)
 rename_i k;have q:=q1.t;simp only[aW,Rep]at q;subst q;cases k with
 |true=>
  try simp only at z
  obtain⟨d,h2,S2,e2,q2,o2⟩:=ib z o1.f;exact⟨d,h2,S2,by simp only[Ev.ev,e1,Ev.ak,e2],q2,o1.trans o2⟩
 |false=>
  try simp only at z
  cases z;exact⟨_,h1,S1,by simp only[Ev.ev,e1,Ev.ak],.of rfl,o1.weak (by simp only[bC];intro i hi;simp[hi])⟩
def J7(ia:aX P P' a)(ib:aX P P' b):aX P P' (.orr a b):=λz f=>by
 simp only[ev]at z;replace z:=ah z;obtain⟨x,af,z1,z⟩:=z;obtain⟨d,h1,S1,e1,q1,o1⟩:=ia z1 f;cases x<;>try (cases z;done)
 rename_i k;have q:=q1.t;simp only[aW,Rep]at q;subst q;cases k with
 |false=>
  try simp only at z
  obtain⟨d,h2,S2,e2,q2,o2⟩:=ib z o1.f;exact⟨d,h2,S2,by simp only[Ev.ev,e1,Ev.ak,e2],q2,o1.trans o2⟩
 |true=>
  try simp only at z
  cases z;exact⟨_,h1,S1,by simp only[Ev.ev,e1,Ev.ak],.of rfl,o1.weak (by simp only[bC];intro i hi;simp[hi])⟩
def zZ(it:gg P P' tt)(ia:aX P P' a)(ib:aX P P' b):aX P P' (.kM tt a b):=λz f=>by
 simp only[ev]at z;replace z:=ah z;obtain⟨k,af,z1,z⟩:=z;obtain⟨h1,S1,e1,o1⟩:=it z1 f;cases k with
 |true=>
  simp only[Wf]at z;obtain⟨d,h2,S2,e2,q2,o2⟩:=ia z o1.f;exact⟨d,h2,S2,by simp only[Ev.ev,e1,Ev.ak,Wf,e2],q2,(o1.trans o2).weak (by simp only[bC];intro i hi;simp at hi ⊢;rcases hi with hi|hi<;>simp[hi])⟩
 |false=>
  simp only[V4,WE]at z;obtain⟨d,h2,S2,e2,q2,o2⟩:=ib z o1.f;exact⟨d,h2,S2,by simp only[Ev.ev,e1,Ev.ak];rw[Us (by decide)];exact e2,q2,(o1.trans o2).weak (by simp only[bC];intro i hi;simp at hi ⊢;rcases hi with hi|hi<;>simp[hi])⟩
def D4(ia:aX P P' a)(il:oG P P' lo)(ih:oG P P' hi):aX P P' (.sl a lo hi):=λz f=>by
 simp only[ev]at z;replace z:=ah z;obtain⟨x,af,z1,z⟩:=z;replace z:=ah z;obtain⟨l,ao,z2,z⟩:=z;replace z:=ah z;obtain⟨u,cE,z3,z⟩:=z;replace z:=aC z;obtain⟨z,y0⟩:=z;subst y0;obtain⟨d,h1,S1,e1,q1,o1⟩:=ia z1 f;obtain⟨h2,S2,e2,o2⟩:=il z2 o1.f;obtain⟨h3,S3,e3,o3⟩:=ih z3 o2.f;have q:=(q1.tr o1.f (o2.trans o3).tr id (oH e1)).t;obtain⟨r,h4,S4,a1,a2,a3⟩:=JN o3.f.w z q;exact⟨r,h4,S4,by simp only[Ev.ev,e1,Ev.ak,e2,e3,a1],.of a2,(o1.trans (o2.trans o3)).al a3⟩
def D5(ia:aX P P' a):aX P P' (.rv a):=λz f=>by
 simp only[ev]at z;replace z:=ah z;obtain⟨x,af,z1,z⟩:=z;replace z:=aC z;obtain⟨z,y0⟩:=z;subst y0;obtain⟨d,h1,S1,e1,q1,o1⟩:=ia z1 f;obtain⟨r,h4,S4,a1,a2,a3⟩:=JP o1.f.w z q1.t;exact⟨r,h4,S4,by simp only[Ev.ev,e1,Ev.ak,a1],.of a2,o1.al a3⟩
theorem lQ:∀{es:Es}{fr af:Fr}{as:List (Nat ⊕ V)},fj P es fr=.ok as af->∀i∈bH as,i∈jg es
 |.nil,_,_,_,z=>by simp only[fj]at z;cases z;simp[bH]
 |.cons e es,fr,af,as,z=>by
  simp only[fj]at z;cases y:jP fr e with
  |some i=>
   rw[y]at z;simp only at z;replace z:=ah z;obtain⟨xs,cE,z2,z⟩:=z;cases z;have hy:e=.v i:=by
    cases e<;>simp only[jP,reduceCtorEq]at y
    split at y
    .cases y;rfl
    .cases y
   subst hy;intro j hj;simp only[bH,Wm]at hj;simp only[jg,Wm];exact hj.imp id λhj=>lQ z2 j hj
  |none=>
   rw[y]at z;simp only at z;replace z:=ah z;obtain⟨x,ao,z1,z⟩:=z;replace z:=ah z;obtain⟨xs,cE,z2,z⟩:=z;cases z;intro j hj;simp only[bH]at hj;have:=lQ z2 j hj;cases e<;>simp only[jg]<;>first|exact this|exact VY _ this
def D6(HP:oA P P'){g:Nat}(is:oF P P' es):aX P P' (.cl g es):=λz f=>by
 simp only[ev]at z;replace z:=ah z;obtain⟨as,af,z1,z⟩:=z;obtain⟨ds,h1,S1,e1,q1,o1⟩:=is z1 f;obtain⟨d,h2,S2,e2,q2,o2⟩:=B9 HP z o1.f q1;exact⟨d,h2,S2,by simp only[Ev.ev,e1,Ev.ak,e2],.of q2,(o1.trans o2).weak (by
  simp only[bC];intro i hi;rcases List.mem_append.mp hi with hi|hi
  .exact List.mem_append.mpr (.inl hi)
  .exact List.mem_append.mpr (.inr (lQ z1 i hi)))⟩
def D7{g:BI}(is:iW P P' es):aX P P' (.bi g es):=λz f=>by
 simp only[ev]at z;replace z:=ah z;obtain⟨as,af,z1,z⟩:=z;replace z:=aC z;obtain⟨z,y0⟩:=z;subst y0;obtain⟨ds,h1,S1,e1,q1,o1⟩:=is z1 f;obtain⟨r,h4,S4,a1,a2,a3⟩:=JR o1.f.w z q1.t;exact⟨r,h4,S4,by simp only[Ev.ev,e1,Ev.ak,a1],.of a2,o1.al a3⟩
def vO{kvs:List (D×D)}(ia:aX P P' a):aX P P' (.iO kvs a):=λz f=>by
 simp only[ev]at z;replace z:=ah z;obtain⟨x,af,z1,z⟩:=z;replace z:=aC z;obtain⟨z,y0⟩:=z;subst y0;obtain⟨d,h1,S1,e1,q1,o1⟩:=ia z1 f;obtain⟨r,a1,a2⟩:=B6 (S:=S1) q1.t.u z;exact⟨r,h1,S1,by simp only[Ev.ev,e1,Ev.ak,a1,Ev.cW],.of a2,o1⟩
def Aa(ia:aX P P' a):aX P P' (.kN a):=λz f=>by
 simp only[ev]at z;replace z:=ah z;obtain⟨x,af,z1,z⟩:=z;replace z:=aC z;obtain⟨z,y0⟩:=z;subst y0;obtain⟨d,h1,S1,e1,q1,o1⟩:=ia z1 f;obtain⟨r,a1,a2⟩:=FA z q1.t;exact⟨r,h1,S1,by simp only[Ev.ev,e1,Ev.ak,a1],.of a2,o1⟩
def Ab(ia:aX P P' a):aX P P' (.gZ a):=λz f=>by
 simp only[ev]at z;replace z:=ah z;obtain⟨x,af,z1,z⟩:=z;replace z:=aC z;obtain⟨z,y0⟩:=z;subst y0;obtain⟨d,h1,S1,e1,q1,o1⟩:=ia z1 f;obtain⟨r,a1,a2⟩:=JQ z q1.t;exact⟨r,h1,S1,by simp only[Ev.ev,e1,Ev.ak,a1],.of a2,o1⟩
def D8{m:ME}{o:E}(io:aX P P' o)(is:iW P P' es):aX P P' (.me m o es):=λ{k fr v af M B h S aj} z f=>by
 simp only[ev]at z;by_cases hm:iC m=true
 .rw[GQ hm]at z;cases y:jP fr o with
  |none=>rw[y]at z;cases z
  |some i=>
  rw[y]at z;try simp only at z
  replace z:=ah z;obtain⟨as,ao,z1,z⟩:=z;have hy:o=.v i/\∃s,lent fr i=some s:=by
   cases o<;>simp only[jP,reduceCtorEq]at y
   rename_i j;split at y
   .rename_i hs;cases y;exact⟨rfl,Option.isSome_iff_exists.mp hs⟩
   .cases y
  obtain⟨rfl,s,hs⟩:=hy;obtain⟨n,cs,_,_,_,w2,w3,_,_⟩:=jc hs f;obtain⟨ds,h1,S1,e1,q1,o1⟩:=is z1 f;have hr:Ev.vh m (.ref n) h=true:=by cases m<;>simp[iC]at hm<;>simp[Ev.vh,gi w3]
  have hap:zR m=false->aq h1 S1 as ds:=λhh=>by rw[hh]at q1;exact q1.n
  have fin:∀s l l',ao[i]?=some (some s)->gu (some s)=true->(∃m' cs',aj[i]?=some (some (.ref m'))/\h1[m']?=some (.lst cs')/\aq h1 S1 l cs')->jw m l as=some (v,l')->af=ao.set i (some (s.with l'))->
    JY P' (.me m (.v i) es) k v M B h S fr aj af:=by
   intro s l l' k1 k2 ⟨m',cs',k3,k4,k5⟩ k6 k7;rw[w2]at k3;cases k3;have mn:=o1.f.mM k1 k2 w2;obtain⟨r,ds',a1,a2,a3⟩:=JX k6 k4 k5 q1.t hap λk z y=>(o1.f.wS k z).2.1 (y▸mn);have fw:=o1.f.write (l':=l') k1 k2 w2 a3;subst k7;refine⟨r,_,S1,?_,.of (a2.mono (λm z=>jR λy=>(o1.f.wS m z).2.1 (y▸mn)) λ_ z=>z),fw,?_,λj=>?_⟩
   .simp only[Ev.ev,w2,Option.join,Ev.cW,Ev.ak,hr,Wf,e1];simp only[Option.bind,id,Ev.cW,Ev.ak,hr,Wf,e1];exact a1
   .refine⟨by simpa using o1.tr.len,λm y1 y2=>?_,o1.tr.sub,λm y=>by simpa using o1.tr.new m y⟩;have y3:¬ Xs M aj (fD es) m:=λz=>y2 (Xs.mono (by simp only[bC];intro i hi;simp[hi]) z);have y4:m≠n:=λz=>y2 ⟨z▸mn,i,by simp[bC,PD,hm],by rw[z];exact w2⟩;rw[jR (λ(z:n=m)=>y4 z.symm)];exact o1.tr.keep m y1 y3
   .rw[<-o1.lk j];unfold locked;by_cases hj:i=j
    .subst hj;rw[VV (List.getElem?_eq_some_iff.mp k1).1,k1];exact vL
    .rw[PZ hj]
  split at z
  .rename_i l k1;have old:=o1.f.get k1;obtain⟨p,k2,m',cs',rfl,_,k4,k5⟩:=old;split at z
   .rename_i v' l' k6;cases z;exact fin _ l l' k1 rfl ⟨m',cs',k2,k4,k5⟩ k6 rfl
   .cases z
  .rename_i l k1;have old:=o1.f.get k1;obtain⟨p,k2,m',cs',rfl,_,k4,k5⟩:=old;split at z
   .rename_i v' l' k6;cases z;exact fin _ l l' k1 rfl ⟨m',cs',k2,k4,k5⟩ k6 rfl
   .cases z
  .cases z
 .rw[Us hm]at z;replace z:=ah z;obtain⟨x,ao,z1,z⟩:=z;replace z:=ah z;obtain⟨as,cE,z2,z⟩:=z;replace z:=aC z;obtain⟨z,y0⟩:=z;subst y0;obtain⟨d,h1,S1,e1,q1,o1⟩:=io z1 f;obtain⟨ds,h2,S2,e2,q2,o2⟩:=is z2 o1.f;have hm':iC m=false:=by simpa using hm
  have vP:=(q1.tr o1.f o2.tr id (oH e1)).t;obtain⟨a1,r,a2,a3⟩:=JU z hm' vP q2.t;have hr:Ev.vh m d h1=true:=by
   unfold eK at z;split at z
   .have:=q1.t;simp only[aW,Rep]at this;subst this;rfl
   .cases z
  exact⟨r,h2,S2,by simp only[Ev.ev,e1,Ev.ak,hr,Wf,e2,a2],.of a3,(o1.trans o2).weak (by simp only[bC];intro i hi;simp at hi ⊢;rcases hi with hi|hi<;>simp[hi])⟩
def tN{elt:E}{t:T}{cond:Eo}(ii:iD P P' it)(ic:rL P P' cond)(ie:aX P P' elt):aX P P' (.comp elt t it cond):=λz f=>by
 simp only[ev]at z;replace z:=ah z;obtain⟨vs,ao,z1,z⟩:=z;split at z
 case isFalse=>cases z
 rename_i hu;replace z:=aC z;obtain⟨z,y0⟩:=z;subst y0;simp only[Sw]at z;obtain⟨rs,z2,z3⟩:=z;obtain⟨s,h1,S1,e1,q1,q2,o1⟩:=ii z1 f;have TF:=o1.f.ro;obtain⟨rs',h2,S2,c1,c2,c3⟩:=vN (f':=λd h2=>match Ev.bY t d _ with
    |none=>.bad
    |some ao=>(Ev.gI P' cond ao h2).bind λk h3=>if k then (Ev.ev P' elt ao h3).bind λx h4=>.ok (some x) h4 else .ok none h3) (ck:=s.2) o1.f.w (λq hq=>(q2 q hq).1) (λv o d h S al y q=>by
  split at y
  .cases y
  .rename_i cE y1;obtain⟨iQ,b1,b2,_,_⟩:=(TF.al al).bY y1 q;rw[b1];split at y
   .rename_i c iS y2;obtain⟨h3,S3,c1,oc⟩:=ic y2 b2;have J8:Al h S h3 S3:=oc.tr.al λm z=>z.1;split at y
    .rename_i hc;subst hc;split at y
     .rename_i x qI y3;cases y;obtain⟨d',h4,S4,d1,d2,od⟩:=ie y3 (b2.al J8);refine⟨some d',h4,S4,?_,⟨d',rfl,d2.n⟩,J8.trans (od.tr.al λm z=>z.1)⟩;simp only[c1,Ev.ak,Wf,d1]
     .cases y
    .rename_i hc;cases y;refine⟨none,h3,S3,?_,rfl,J8⟩;simp only[c1,Ev.ak];rw[Us hc]
   .cases y) Al.refl z2 q1
 obtain⟨r,h4,S4,a1,a2,a3⟩:=gO (o1.f.al c3).w z3 c2;refine⟨r,h4,S4,?_,.of a2,(o1.al c3).al a3⟩;simp only[Ev.ev,e1,Ev.ak];rw[GQ (o1.f.undef hu)];refine Eq.trans (VZ (λq:Ev.R (List D)=>q.bind λds h2=>Ev.alloc ds h2) c1) ?_;simp only[Ev.ak,a1]
def Ac(ii:iD P P' it):aX P P' (.gp it):=λz f=>by
 simp only[ev]at z;replace z:=ah z;obtain⟨vs,ao,z1,z⟩:=z;replace z:=aC z;obtain⟨z,y0⟩:=z;subst y0;obtain⟨s,h1,S1,e1,q1,q2,o1⟩:=ii z1 f;obtain⟨r,h4,S4,a1,a2,a3⟩:=gO o1.f.w z q1;exact⟨r,h4,S4,by simp only[Ev.ev,e1,Ev.ak,a1],.of a2,o1.al a3⟩
def J9:iW P P' .nil:=λ{k fr v af M B h S aj} z f=>by
 simp only[bV]at z;cases z;refine⟨[],_,_,by simp only[Ev.bV],?_,.refl f⟩;unfold iV;split<;>rfl
def FG(ie:aX P P' e)(is:iW P P' es):iW P P' (.cons e es):=λ{k fr v af M B h S aj} z f=>by
 simp only[bV]at z;replace z:=ah z;obtain⟨x,ao,z1,z⟩:=z;replace z:=ah z;obtain⟨xs,cE,z2,z⟩:=z;cases z;obtain⟨d,h1,S1,e1,q1,o1⟩:=ie z1 f;obtain⟨ds,h2,S2,e2,q2,o2⟩:=is z2 o1.f;have vP:=q1.tr (a:=e) o1.f o2.tr (by intro z;simp at z;exact z.2) (oH e1);refine⟨d :: ds,h2,S2,by simp only[Ev.bV,e1,Ev.ak,e2],?_,o1.trans o2⟩;unfold iV at q2 ⊢;cases k with
 |true=>simp only[Wf]at q2 ⊢;exact⟨d,ds,rfl,vP.t,q2⟩
 |false=>
  simp only[V4,WE]at q2 ⊢;exact .cons (by simpa[eO]using vP) q2
def FH:oF P P' .nil:=λz f=>by
 simp only[fj]at z;cases z;exact⟨[],_,_,by simp only[Ev.bV],rfl,.refl f⟩
def Cb(ie:aX P P' e)(is:oF P P' es):oF P P' (.cons e es):=λ{fr v af M B h S aj} z f=>by
 simp only[fj]at z;cases y:jP fr e with
 |some i=>
  rw[y]at z;try simp only at z
  replace z:=ah z;obtain⟨xs,cE,z2,z⟩:=z;cases z;have hy:e=.v i/\∃s,lent fr i=some s:=by
   cases e<;>simp only[jP,reduceCtorEq]at y
   rename_i j;split at y
   .rename_i hs;cases y;exact⟨rfl,Option.isSome_iff_exists.mp hs⟩
   .cases y
  obtain⟨rfl,s,hs⟩:=hy;obtain⟨n,cs,_,_,_,w2,w3,_,_⟩:=jc hs f;obtain⟨ds,h2,S2,e2,q2,o2⟩:=is z2 f;refine⟨.ref n :: ds,h2,S2,?_,⟨_,_,rfl,w2,q2⟩,o2.weak (by simp only[fD,bC];intro i hi;simpa using hi)⟩;simp only[Ev.bV,Ev.ev,w2,Option.join,Option.bind,id,Ev.cW,Ev.ak,e2]
 |none=>
  rw[y]at z;try simp only at z
  replace z:=ah z;obtain⟨x,ao,z1,z⟩:=z;replace z:=ah z;obtain⟨xs,cE,z2,z⟩:=z;cases z;obtain⟨d,h1,S1,e1,q1,o1⟩:=ie z1 f;obtain⟨ds,h2,S2,e2,q2,o2⟩:=is z2 o1.f;exact⟨d :: ds,h2,S2,by simp only[Ev.bV,e1,Ev.ak,e2],⟨_,_,rfl,q1.n.tr o1.f o2.tr,q2⟩,o1.trans o2⟩
def Nq:oG P P' .no:=λz f=>by
 simp only[ff]at z;cases z;exact⟨_,_,by simp only[Ev.ff],.refl f⟩
def Ka(ie:aX P P' e):oG P P' (.yes e):=λz f=>by
 simp only[ff]at z;replace z:=ah z;obtain⟨x,ao,z1,z⟩:=z;replace z:=aC z;obtain⟨z,y0⟩:=z;subst y0;obtain⟨d,h1,S1,e1,q1,o1⟩:=ie z1 f;cases x<;>simp[intOf]at z
 subst z;have q:=q1.t;simp only[aW,Rep]at q;subst q;exact⟨h1,S1,by simp only[Ev.ff,e1,Ev.ak];rfl,o1⟩
def Kc:rL P P' .no:=λz f=>by
 simp only[gI]at z;cases z;exact⟨_,_,by simp only[Ev.gI],.refl f⟩
def FJ(ie:gg P P' e):rL P P' (.yes e):=λz f=>by
 simp only[gI]at z;obtain⟨h1,S1,e1,o1⟩:=ie z f;exact⟨h1,S1,by simp only[Ev.gI,e1],o1⟩
def Ru(ia:gg P P' a)(ib:gg P P' b):gg P P' (.an a b):=λz f=>by
 simp only[aE]at z;replace z:=ah z;obtain⟨k,af,z1,z⟩:=z;obtain⟨h1,S1,e1,o1⟩:=ia z1 f;cases k with
 |true=>
  simp only[Wf]at z;obtain⟨h2,S2,e2,o2⟩:=ib z o1.f;exact⟨h2,S2,by simp only[Ev.aE,e1,Ev.ak,Wf,e2],o1.trans o2⟩
 |false=>
  simp only[V4,WE]at z;cases z;exact⟨h1,S1,by simp only[Ev.aE,e1,Ev.ak];rfl,o1.weak (by simp only[bC];intro i hi;simp[hi])⟩
def Nr(ia:gg P P' a)(ib:gg P P' b):gg P P' (.orr a b):=λz f=>by
 simp only[aE]at z;replace z:=ah z;obtain⟨k,af,z1,z⟩:=z;obtain⟨h1,S1,e1,o1⟩:=ia z1 f;cases k with
 |false=>
  simp only[V4,WE]at z;obtain⟨h2,S2,e2,o2⟩:=ib z o1.f;exact⟨h2,S2,by simp only[Ev.aE,e1,Ev.ak];rw[Us (by decide)];exact e2,o1.trans o2⟩
 |true=>
  simp only[Wf]at z;cases z;exact⟨h1,S1,by simp only[Ev.aE,e1,Ev.ak];rfl,o1.weak (by simp only[bC];intro i hi;simp[hi])⟩
def Rw(ia:gg P P' a):gg P P' (.nt a):=λz f=>by
 simp only[aE]at z;replace z:=ah z;obtain⟨k,af,z1,z⟩:=z;obtain⟨h1,S1,e1,o1⟩:=ia z1 f;cases z;exact⟨h1,S1,by simp only[Ev.aE,e1,Ev.ak],o1⟩
def di(ie:aX P P' e)(h1:∀fr,aE P e fr=(ev P true e fr).bind λx af=>.ok (truthy x) af)(h2:∀fr h,Ev.aE P' e fr h=(Ev.ev P' e fr h).bind λx h1=>Ev.R.of (Ev.truthy h1 x) h1):gg P P' e:=λz f=>by
 rw[h1]at z;replace z:=ah z;obtain⟨x,af,z1,z⟩:=z;cases z;obtain⟨d,h1,S1,e1,q1,o1⟩:=ie z1 f;exact⟨h1,S1,by rw[h2,e1,Ev.ak,zS q1.t];rfl,o1⟩
def oJ(ie:aX P P' e){k:Bool}{fr:Fr}{v:V}{af:Fr}{M B:Nat->Prop}{h:Hh}{S:Nat->Prop}{aj:Ev.Fr}(z:src k fr e (ev P k e fr)=.ok v af)(f:bh M B h S fr aj) :
  ∃d h' S',Ev.ev P' e aj h=.ok d h'/\aW h' S' v d/\(k=false->∀n,d=.ref n->¬ M n)/\Out M B (bC e) h S fr aj h' S' af:=by
 have gen:ev P k e fr=.ok v af->∃d h' S',Ev.ev P' e aj h=.ok d h'/\aW h' S' v d/\(k=false->∀n,d=.ref n->¬ M n)/\Out M B (bC e) h S fr aj h' S' af:=λz=>by
  obtain⟨d,h1,S1,e1,q1,o1⟩:=ie z f;refine⟨d,h1,S1,e1,q1.t,λhk n hd=>?_,o1⟩;subst hk;have q:=q1.n;cases v<;>simp only[Rep]at q
  .cases q.symm.trans hd
  .cases q.symm.trans hd
  .cases q.symm.trans hd
  .cases q.symm.trans hd
  .obtain⟨_,q,_⟩:=q;cases q.symm.trans hd
  .obtain⟨m,ds,q,sm,_⟩:=q;cases q.symm.trans hd;exact(o1.f.wS _ sm).2.1
  .obtain⟨m,ds,q,sm,_⟩:=q;cases q.symm.trans hd;exact(o1.f.wS _ sm).2.1
 cases e
 case v i=>
  simp only[src]at z;replace z:=aC z;obtain⟨z,y0⟩:=z;subst y0;unfold xX at z;split at z
  .rename_i l y;cases z;obtain⟨p,e1,m,ds,rfl,y1,y2,y3⟩:=f.get y;exact⟨.ref m,h,S,by simp only[Ev.ev,e1,Option.join,Option.bind,id,Ev.cW],⟨m,ds,rfl,y2,y3⟩,λ_ n hn=>by cases hn;exact y1,.refl f⟩
  .exact gen (by simp only[ev,z,cW])
 all_goals exact gen z
def Kd(ie:aX P P' e):iD P P' (.seq e):=λz f=>by
 simp only[bR]at z;replace z:=ah z;obtain⟨x,af,z1,z⟩:=z;replace z:=aC z;obtain⟨z,y0⟩:=z;subst y0;obtain⟨d,h1,S1,e1,q1,q2,o1⟩:=oJ ie z1 f;obtain⟨s,a1,a2,a3⟩:=B7 z q1;exact⟨s,h1,S1,by simp only[Ev.bR,e1,Ev.ak,a1,Ev.cW],a2,λq hq=>⟨(a3 q hq).2,λhk=>q2 hk _ (a3 q hq).1⟩,o1⟩
def FL(is:iW P P' es):iD P P' (.fY es):=λz f=>by
 simp only[bR]at z;replace z:=ah z;obtain⟨x,af,z1,z⟩:=z;replace z:=aC z;obtain⟨z,y0⟩:=z;subst y0;obtain⟨d,h1,S1,e1,q1,o1⟩:=is z1 f;obtain⟨s,a1,a2⟩:=JV z q1.t;exact⟨(s,[]),h1,S1,by simp only[Ev.bR,e1,Ev.ak,a1,Ev.cW],a2,λq hq=>by simp at hq,o1⟩
def Cc(ie:aX P P' e):iD P P' (.enum e):=λz f=>by
 simp only[bR]at z;replace z:=ah z;obtain⟨x,af,z1,z⟩:=z;replace z:=aC z;obtain⟨z,y0⟩:=z;subst y0;obtain⟨d,h1,S1,e1,q1,q2,o1⟩:=oJ ie z1 f;simp only[Dp]at z;obtain⟨l,z,rfl⟩:=z;obtain⟨s,a1,a2,a3⟩:=qd z q1;exact⟨(Ev.cy 0 s.1,s.2),h1,S1,by simp only[Ev.bR,e1,Ev.ak,a1,Option.map,Ev.cW],qe 0 a2,λq hq=>⟨(a3 q hq).2,λhk=>q2 hk _ (a3 q hq).1⟩,o1⟩
def FO(ie:aX P P' e):iD P P' (.rev e):=λz f=>by
 simp only[bR]at z;replace z:=ah z;obtain⟨x,af,z1,z⟩:=z;replace z:=aC z;obtain⟨z,y0⟩:=z;subst y0;obtain⟨d,h1,S1,e1,q1,o1⟩:=ie z1 f;simp only[Dp]at z;obtain⟨l,z,rfl⟩:=z;cases x<;>simp only[xV,reduceCtorEq]at z
 cases z;have k1:=q1.t;simp only[aW,Rep]at k1;obtain⟨ds,y1,k2⟩:=k1;subst y1;exact⟨(ds.reverse,[]),h1,S1,by simp only[Ev.bR,e1,Ev.ak,Ev.BB,Option.map,Ev.cW],k2.reverse,λq hq=>by simp at hq,o1⟩
def Cd(ie:aX P P' e):iD P P' (.ji e):=λz f=>by
 simp only[bR]at z;replace z:=ah z;obtain⟨x,af,z1,z⟩:=z;replace z:=aC z;obtain⟨z,y0⟩:=z;subst y0;obtain⟨d,h1,S1,e1,q1,o1⟩:=ie z1 f;cases x<;>simp only[B3,reduceCtorEq]at z
 rename_i a;cases z;have k1:=q1.t;simp only[aW,Rep]at k1;subst k1;exact⟨(Ev.cy 0 (a.map λc=>.str [c]),[]),h1,S1,by simp only[Ev.bR,e1,Ev.ak,Ev.BA,Option.map,Ev.cW],qe 0 (aq.map (f:=λc=>V.str [c]) (g:=λc=>D.str [c]) (λs=>by simp[Rep]) _),λq hq=>by simp at hq,o1⟩
def Ce(ia:aX P P' a)(ib:aX P P' b):iD P P' (.jj a b):=λz f=>by
 simp only[bR]at z;replace z:=two ia ib z f;obtain⟨x,y,d,e,h2,S2,ao,k,z,q1,q2,ou⟩:=z;replace z:=aC z;obtain⟨z,y0⟩:=z;subst y0;unfold xW at z;split at z
 .rename_i a b;simp only[aW,Rep]at q1 q2;subst q1;subst q2;cases z;exact⟨(Ev.cZ (a.map λc=>.str [c]) (b.map λc=>.str [c]),[]),h2,S2,by simp only[Ev.bR];rw[k];simp[Ev.wY],tL (aq.map (f:=λc=>V.str [c]) (g:=λc=>D.str [c]) (λs=>by simp[Rep]) _) (aq.map (f:=λc=>V.str [c]) (g:=λc=>D.str [c]) (λs=>by simp[Rep]) _),λq hq=>by simp at hq,ou⟩
 .cases z
def FP(ia:aX P P' a)(ib:aX P P' b):iD P P' (.zip a b):=λ{k fr v af M B h S aj} z f=>by
 simp only[bR]at z;replace z:=ah z;obtain⟨x,ao,z1,z⟩:=z;replace z:=ah z;obtain⟨y,cE,z2,z⟩:=z;replace z:=aC z;obtain⟨z,y0⟩:=z;subst y0;obtain⟨d,h1,S1,e1,q1,r1,o1⟩:=oJ ia z1 f;obtain⟨e,h2,S2,e2,q2,r2,o2⟩:=oJ ib z2 o1.f;simp only[Dp,Sw]at z;obtain⟨l,z3,m,z4,rfl⟩:=z;have vP:aW h2 S2 x d:=by
  by_cases hk:(k&&kf a (bC b))=true
  .exact(eO.tr (k:=true) (a:=a) (by unfold eO;rw[GQ rfl];exact q1) o1.f o2.tr (λ_=>by simp at hk;exact hk.2) (oH e1)).t
  .have r1:=r1 (by simpa using hk);cases x
   case lst l=>
    simp only[aW]at q1 ⊢;obtain⟨n,ds,rfl,a1,a2⟩:=q1;exact⟨n,ds,rfl,by rw[o2.tr.keep n (List.getElem?_eq_some_iff.mp a1).1 (λz=>r1 n rfl z.1)];exact a1,a2.tr o1.f o2.tr⟩
   all_goals exact Rep.tr (show Rep h1 S1 _ d from q1) o1.f o2.tr
 obtain⟨s,a1,a2,a3⟩:=qd z3 vP;obtain⟨t,b1,b2,b3⟩:=qd z4 q2;refine⟨(Ev.cZ s.1 t.1,s.2++t.2),h2,S2,by simp only[Ev.bR,e1,Ev.ak,e2,a1,b1,Option.bind,Option.map,Ev.cW],tL a2 b2,λq hq=>?_,o1.trans o2⟩;rcases List.mem_append.mp hq with hq|hq
 .exact⟨(a3 q hq).2,λhk=>r1 (by simp[hk]) _ (a3 q hq).1⟩
 .exact⟨(b3 q hq).2,λhk=>r2 hk _ (b3 q hq).1⟩
end
section
variable{P:aM}{P':Ev.aM}(HP:oA P P')
include HP
mutual
theorem aS:∀e:E,aX P P' e
 |.c _=>J5
 |.v _=>J6
 |.tup es=>zU (fE es)
 |.lst es=>zV (fE es)
 |.bin _ a b=>zW (aS a) (aS b)
 |.cmp _ a b=>zX (aS a) (aS b)
 |.nt a=>Nn (aS a)
 |.neg a=>zY (aS a)
 |.an a b=>Np (aS a) (aS b)
 |.orr a b=>J7 (aS a) (aS b)
 |.kM t a b=>zZ (fZ t) (aS a) (aS b)
 |.ix a b=>D3 (aS a) (aS b)
 |.sl a lo hi=>D4 (aS a) (oK lo) (oK hi)
 |.rv a=>D5 (aS a)
 |.kN a=>Aa (aS a)
 |.cl _ es=>D6 HP (tO es)
 |.bi _ es=>D7 (fE es)
 |.me _ o es=>D8 (aS o) (fE es)
 |.comp elt _ it cond=>tN (jS it) (Ad cond) (aS elt)
 |.gp it=>Ac (jS it)
 |.iO _ a=>vO (aS a)
 |.gZ a=>Ab (aS a)
theorem fZ:∀e:E,gg P P' e
 |.an a b=>Ru (fZ a) (fZ b)
 |.orr a b=>Nr (fZ a) (fZ b)
 |.nt a=>Rw (fZ a)
 |.c x=>di J5 (λ_=>by simp only[aE]) (λ_ _=>by simp only[Ev.aE])
 |.v x=>di J6 (λ_=>by simp only[aE]) (λ_ _=>by simp only[Ev.aE])
 |.tup es=>di (zU (fE es)) (λ_=>by simp only[aE]) (λ_ _=>by simp only[Ev.aE])
 |.lst es=>di (zV (fE es)) (λ_=>by simp only[aE]) (λ_ _=>by simp only[Ev.aE])
 |.bin _ a b=>di (zW (aS a) (aS b)) (λ_=>by simp only[aE]) (λ_ _=>by simp only[Ev.aE])
 |.cmp _ a b=>di (zX (aS a) (aS b)) (λ_=>by simp only[aE]) (λ_ _=>by simp only[Ev.aE])
 |.neg a=>di (zY (aS a)) (λ_=>by simp only[aE]) (λ_ _=>by simp only[Ev.aE])
 |.kM t a b=>di (zZ (fZ t) (aS a) (aS b)) (λ_=>by simp only[aE]) (λ_ _=>by simp only[Ev.aE])
 |.ix a b=>di (D3 (aS a) (aS b)) (λ_=>by simp only[aE]) (λ_ _=>by simp only[Ev.aE])
 |.sl a lo hi=>di (D4 (aS a) (oK lo) (oK hi)) (λ_=>by simp only[aE]) (λ_ _=>by simp only[Ev.aE])
 |.rv a=>di (D5 (aS a)) (λ_=>by simp only[aE]) (λ_ _=>by simp only[Ev.aE])
 |.kN a=>di (Aa (aS a)) (λ_=>by simp only[aE]) (λ_ _=>by simp only[Ev.aE])
 |.cl _ es=>di (D6 HP (tO es)) (λ_=>by simp only[aE]) (λ_ _=>by simp only[Ev.aE])
 |.bi _ es=>di (D7 (fE es)) (λ_=>by simp only[aE]) (λ_ _=>by simp only[Ev.aE])
 |.me _ o es=>di (D8 (aS o) (fE es)) (λ_=>by simp only[aE]) (λ_ _=>by simp only[Ev.aE])
 |.comp elt _ it cond=>di (tN (jS it) (Ad cond) (aS elt)) (λ_=>by simp only[aE]) (λ_ _=>by simp only[Ev.aE])
 |.gp it=>di (Ac (jS it)) (λ_=>by simp only[aE]) (λ_ _=>by simp only[Ev.aE])
 |.iO _ a=>di (vO (aS a)) (λ_=>by simp only[aE]) (λ_ _=>by simp only[Ev.aE])
 |.gZ a=>di (Ab (aS a)) (λ_=>by simp only[aE]) (λ_ _=>by simp only[Ev.aE])
theorem fE:∀e:Es,iW P P' e
 |.nil=>J9
 |.cons e es=>FG (aS e) (fE es)
theorem tO:∀e:Es,oF P P' e
 |.nil=>FH
 |.cons e es=>Cb (aS e) (tO es)
theorem oK:∀e:Eo,oG P P' e
 |.no=>Nq
 |.yes e=>Ka (aS e)
theorem Ad:∀e:Eo,rL P P' e
 |.no=>Kc
 |.yes e=>FJ (fZ e)
theorem jS:∀e:It,iD P P' e
 |.seq e=>Kd (aS e)
 |.fY es=>FL (fE es)
 |.zip a b=>FP (aS a) (aS b)
 |.enum a=>Cc (aS a)
 |.rev a=>FO (aS a)
 |.ji a=>Cd (aS a)
 |.jj a b=>Ce (aS a) (aS b)
end
end
structure Tr(M B:Nat->Prop)(h:Hh)(S:Nat->Prop)(M':Nat->Prop)(h':Hh)(S':Nat->Prop):Prop where
 len:h.length<=h'.length
 keep:∀m,m<h.length->¬ M m->h'[m]?=h[m]?
 sub:∀m,S m->S' m
 new:∀m,S' m->S m\/(h.length<=m/\m<h'.length)\/(M m/\¬ B m)
 xZ:∀m,M' m->M m\/h.length<=m
structure dG(M B:Nat->Prop)(h:Hh)(S:Nat->Prop)(fr:Fr)(aj:Ev.Fr)(M':Nat->Prop)(h':Hh)(S':Nat->Prop)(af:Fr)(bG:Ev.Fr):Prop where
 f:bh M' B h' S' af bG
 tr:Tr M B h S M' h' S'
 lk:∀i,locked af i=locked fr i
 rf:∀i,locked fr i=true->bG[i]?=aj[i]?
noncomputable def gw(h:Hh)(S:Nat->Prop):Fl->Ev.Fl->Prop
 |.nx,g=>g=.nx
 |.bk,g=>g=.bk
 |.ct,g=>g=.ct
 |.ret v,g=>∃d,g=.ret d/\Rep h S v d
section
variable{M B M' M1 M2:Nat->Prop}{h h1 h2:Hh}{S S' S1 S2:Nat->Prop}{fr af ao:Fr}{aj bG ki:Ev.Fr}{c:List Nat}{v:V}{d:D}
def dG.refl(f:bh M B h S fr aj):dG M B h S fr aj M h S fr aj:=⟨f,⟨Et _,λ_ _ _=>rfl,λ_ q=>q,λ_ q=>.inl q,λ_ q=>.inl q⟩,λ_=>rfl,λ_ _=>rfl⟩
def Out.s(o:Out M B c h S fr aj h1 S1 af):dG M B h S fr aj M h1 S1 af aj:=⟨o.f,⟨o.tr.len,λm y1 y2=>o.tr.keep m y1 (λz=>y2 z.1),o.tr.sub,λm q=>(o.tr.new m q).imp id .inl,λ_ q=>.inl q⟩,o.lk,λ_ _=>rfl⟩
theorem dG.trans(f0:bh M B h S fr aj)(a:dG M B h S fr aj M1 h1 S1 af bG)(b:dG M1 B h1 S1 af bG M2 h2 S2 ao ki):dG M B h S fr aj M2 h2 S2 ao ki where
 f:=b.f
 tr:=⟨V0 a.tr.len b.tr.len,λm y1 y2=>by
   rw[b.tr.keep m (MC y1 a.tr.len) (λz=>by
    rcases a.tr.xZ m z with z|z
    .exact y2 z
    .omega),a.tr.keep m y1 y2],λm q=>b.tr.sub m (a.tr.sub m q),λm q=>by
   rcases b.tr.new m q with q|q|q
   .rcases a.tr.new m q with q|q|q
    .exact .inl q
    .exact .inr (.inl ⟨q.1,MC q.2 b.tr.len⟩)
    .exact .inr (.inr q)
   .exact .inr (.inl ⟨V0 a.tr.len q.1,q.2⟩)
   .rcases a.tr.xZ m q.1 with z|z
    .exact .inr (.inr ⟨z,q.2⟩)
    .exact .inr (.inl ⟨z,MC (a.f.wM m q.1) b.tr.len⟩),λm q=>by
   rcases b.tr.xZ m q with q|q
   .exact a.tr.xZ m q
   .exact .inr (V0 a.tr.len q)⟩
 lk:=λi=>(b.lk i).trans (a.lk i)
 rf:=λi q=>(b.rf i (by rw[a.lk i];exact q)).trans (a.rf i q)
def bh.kind(f:bh M B h S fr aj)(g:Option Sl->Option Sl->Prop)(hl:af.length=fr.length)(hg:∀(i:Nat) o,af[i]?=some o->∃o0,fr[i]?=some o0/\(o=o0\/(∃l,o0=some (.own l)/\o=some (.val (.lst l)))\/(∃l,o0=some (.bor l)/\o=some (.ro l)))) :
  ∃M' S',dG M B h S fr aj M' h S' af aj:=by
 let X:Nat->Prop:=λm=>∃(i:Nat) (l:List V),fr[i]?=some (some (Sl.own l))/\af[i]?=some (some (Sl.val (V.lst l)))/\aj[i]?=some (some (D.ref m))
 let Y:Nat->Prop:=λm=>∃(i:Nat) (l:List V),fr[i]?=some (some (Sl.bor l))/\af[i]?=some (some (Sl.ro l))/\aj[i]?=some (some (D.ref m))
 have xM:∀m,X m->M m/\¬ B m:=λm ⟨i,l,a,_,b⟩=>by
  obtain⟨m',ds,e,q,_⟩:=f.sl i _ _ a b;cases e;exact q
 have yM:∀m,Y m->M m/\B m:=λm ⟨i,l,a,_,b⟩=>by
  obtain⟨m',ds,e,q,_⟩:=f.sl i _ _ a b;cases e;exact q
 have mono:∀{l:List V} {ds:List D},aq h S l ds->aq h (λm=>S m\/X m) l ds:=λq=>q.mono (λ_ _=>rfl) λ_ z=>.inl z;refine⟨λm=>M m/\¬ X m/\¬ Y m,λm=>S m\/X m,⟨⟨λm q=>?_,λm q=>f.wM m q.1,f.wB,by rw[hl,f.len],λi o p e1 e2=>?_,λi j o o' m y1 y2 y3 y4 y5 y6=>?_⟩,⟨Et _,λ_ _ _=>rfl,λ_ q=>.inl q,λm q=>?_,λm q=>.inl q.1⟩,λi=>?_,λ_ _=>rfl⟩⟩
 .rcases q with q|q
  .exact⟨(f.wS m q).1,λz=>(f.wS m q).2.1 z.1,(f.wS m q).2.2⟩
  .exact⟨f.wM m (xM m q).1,λz=>z.2.1 q,(xM m q).2⟩
 .obtain⟨o0,e0,k⟩:=hg i o e1;have old:=f.sl i o0 p e0 e2;rcases k with rfl|⟨l,rfl,rfl⟩|⟨l,rfl,rfl⟩
  .rcases o with _|s
   .exact old
   .cases s with
    |val v=>obtain⟨d,e,q⟩:=old;exact⟨d,e,q.mono (λ_ _=>rfl) λ_ z=>.inl z⟩
    |own l=>
     obtain⟨m,ds,rfl,z,y,q⟩:=old;refine⟨m,ds,rfl,⟨⟨z.1,λ⟨j,l',a1,a2,a3⟩=>?_,λ⟨j,l',a1,a2,a3⟩=>?_⟩,z.2⟩,y,mono q⟩
     .have:=f.inj i j _ _ m e0 a1 rfl rfl e2 a3;subst this;rw[e1]at a2;cases a2
     .have:=f.inj i j _ _ m e0 a1 rfl rfl e2 a3;subst this;rw[e1]at a2;cases a2
    |bor l=>
     obtain⟨m,ds,rfl,z,y,q⟩:=old;refine⟨m,ds,rfl,⟨⟨z.1,λ⟨j,l',a1,a2,a3⟩=>?_,λ⟨j,l',a1,a2,a3⟩=>?_⟩,z.2⟩,y,mono q⟩
     .have:=f.inj i j _ _ m e0 a1 rfl rfl e2 a3;subst this;rw[e1]at a2;cases a2
     .have:=f.inj i j _ _ m e0 a1 rfl rfl e2 a3;subst this;rw[e1]at a2;cases a2
    |ro l=>obtain⟨m,ds,rfl,z,y,q⟩:=old;exact⟨m,ds,rfl,λw=>z w.1,y,mono q⟩
  .obtain⟨m,ds,rfl,z,y,q⟩:=old;exact⟨.ref m,rfl,m,ds,rfl,.inr ⟨i,l,e0,e1,e2⟩,y,mono q⟩
  .obtain⟨m,ds,rfl,z,y,q⟩:=old;exact⟨m,ds,rfl,λw=>w.2.2 ⟨i,l,e0,e1,e2⟩,y,mono q⟩
 .have kd:∀(i:Nat) o,af[i]?=some o->gu o=true->∃o0,fr[i]?=some o0/\gu o0=true:=λi o w1 w2=>by
   obtain⟨o0,e0,k⟩:=hg i o w1;rcases k with rfl|⟨l,rfl,rfl⟩|⟨l,rfl,rfl⟩
   .exact⟨o,e0,w2⟩
   .cases w2
   .cases w2
  obtain⟨oi,k1,k2⟩:=kd i o y1 y3;obtain⟨oj,k3,k4⟩:=kd j o' y2 y4;exact f.inj i j oi oj m k1 k3 k2 k4 y5 y6
 .rcases q with q|q
  .exact .inl q
  .exact .inr (.inr (xM m q))
 .unfold locked;cases z:af[i]? with
  |none=>
   have:fr[i]?=none:=by rw[Yp]at z ⊢;omega
   rw[this]
  |some o=>
   obtain⟨o0,e0,k⟩:=hg i o z;rw[e0];rcases k with rfl|⟨l,rfl,rfl⟩|⟨l,rfl,rfl⟩<;>rfl
def bh.ek(f:bh M B h S fr aj):∃M' S',dG M B h S fr aj M' h S' (fh fr) aj:=by
 refine f.kind (λ_ _=>True) (by simp[fh]) λi o e=>?_;unfold fh at e;rw[We]at e;cases z:fr[i]? with
 |none=>rw[z]at e;cases e
 |some o0=>
  rw[z]at e;cases e;refine⟨o0,rfl,?_⟩;rcases o0 with _|s
  .exact .inl rfl
  .cases s with
   |own l=>exact .inr (.inl ⟨l,rfl,rfl⟩)
   |_=>exact .inl rfl
theorem bh.walk:∀(is:List Nat) {M:Nat->Prop}{S:Nat->Prop}{fr:Fr},bh M B h S fr aj->∃M' S',dG M B h S fr aj M' h S' (rK is fr) aj
 |[],_,_,_,f=>⟨_,_,.refl f⟩
 |i :: is,M,S,fr,f=>by
  have one:∃M1 S1,dG M B h S fr aj M1 h S1 (match fr[i]? with|some (some s)=>fr.set i (some s.walk)|_=>fr) aj:=by
   split
   .rename_i s z;have hl:=(List.getElem?_eq_some_iff.mp z).1;refine f.kind (λ_ _=>True) (by simp) λj o e=>?_;by_cases hj:i=j
    .subst hj;rw[VV hl]at e;cases e;refine⟨_,z,?_⟩;cases s with
     |own l=>exact .inr (.inl ⟨l,rfl,rfl⟩)
     |bor l=>exact .inr (.inr ⟨l,rfl,rfl⟩)
     |_=>exact .inl rfl
    .rw[PZ hj]at e;exact⟨o,e,.inl rfl⟩
   .exact⟨M,S,.refl f⟩
  obtain⟨M1,S1,o1⟩:=one;obtain⟨M2,S2,o2⟩:=bh.walk is o1.f;exact⟨M2,S2,o1.trans f o2⟩
theorem bh.own(f:bh M B h S fr aj){i:Nat}{l:List V}{ds:List D}(e:put fr i (.own l)=some af)(q:aq h S l ds):dG M B h S fr aj (λm=>M m\/m=h.length) (h++[.lst ds]) S af (aj.set i (some (.ref h.length))):=by
 have hx:af=fr.set i (some (.own l))/\locked fr i=false:=by
  unfold put at e;unfold locked;split at e
  .cases e
  .cases e
  .rename_i k1 k2;cases e;refine⟨rfl,?_⟩;cases z:fr[i]? with
   |none=>rfl
   |some o=>
    rcases o with _|s
    .rfl
    .cases s with
     |bor l=>exact absurd z (k1 l)
     |ro l=>exact absurd z (k2 l)
     |_=>rfl
 obtain⟨rfl,hk⟩:=hx;have kp:∀m,m<h.length->(h++[O.lst ds])[m]?=h[m]?:=λm z=>by rw[Sx z]
 have kS:∀m,S m->(h++[O.lst ds])[m]?=h[m]?:=λm z=>kp m (f.w m z);refine⟨⟨λm y=>⟨by have:=(f.wS m y).1;simp;omega,λz=>?_,(f.wS m y).2.2⟩,λm y=>?_,λm y=>by have:=f.wB m y;simp;omega,by simp[f.len],λj o p y1 y2=>?_,λj k o o' m y1 y2 y3 y4 y5 y6=>?_⟩,⟨by simp,λm y _=>kp m y,λ_ z=>z,λ_ z=>.inl z,λm z=>z.imp id (λz=>by omega)⟩,λj=>?_,λj hj=>?_⟩
 .rcases z with z|z
  .exact(f.wS m y).2.1 z
  .have:=(f.wS m y).1;omega
 .rcases y with y|y
  .have:=f.wM m y;simp;omega
  .subst y;simp
 .by_cases hj:i=j
  .subst hj;have hl:i<fr.length:=by have:=(List.getElem?_eq_some_iff.mp y1).1;simpa using this
   rw[VV hl]at y1;rw[VV (by rw[<-f.len];exact hl)]at y2;cases y1;cases y2;exact⟨h.length,ds,rfl,⟨.inr rfl,λz=>by have:=f.wB _ z;omega⟩,by simp,q.mono kS λ_ z=>z⟩
  .rw[PZ hj]at y1 y2;have old:=f.sl j o p y1 y2;rcases o with _|s
   .exact old
   .cases s with
    |val v=>obtain⟨d,e,q⟩:=old;exact⟨d,e,q.mono kS λ_ z=>z⟩
    |own l=>obtain⟨m,es,rfl,z,y,q⟩:=old;exact⟨m,es,rfl,⟨.inl z.1,z.2⟩,by rw[kp m (f.wM m z.1)];exact y,q.mono kS λ_ z=>z⟩
    |bor l=>obtain⟨m,es,rfl,z,y,q⟩:=old;exact⟨m,es,rfl,⟨.inl z.1,z.2⟩,by rw[kp m (f.wM m z.1)];exact y,q.mono kS λ_ z=>z⟩
    |ro l=>
     obtain⟨m,es,rfl,z,y,q⟩:=old;have hm:=(List.getElem?_eq_some_iff.mp y).1;exact⟨m,es,rfl,λw=>by rcases w with w|w;exact z w;omega,by rw[kp m hm];exact y,q.mono kS λ_ z=>z⟩
 .have low:∀(j:Nat) o,i≠j->fr[j]?=some o->gu o=true->aj[j]?=some (some (.ref m))->m<h.length:=λj o _ w1 w2 w3=>f.wM m (f.mM w1 w2 w3);have new:∀(j:Nat),j<fr.length->i=j->(aj.set i (some (.ref h.length)))[j]?=some (some (.ref m))->m=h.length:=λj hl hj w=>by
   subst hj;rw[VV (by rw[<-f.len];exact hl)]at w;cases w;rfl
  have lj:j<fr.length:=by have:=(List.getElem?_eq_some_iff.mp y1).1;simpa using this
  have lk:k<fr.length:=by have:=(List.getElem?_eq_some_iff.mp y2).1;simpa using this
  by_cases hj:i=j
  .by_cases hk2:i=k
   .rw[<-hj,<-hk2]
   .have a:=new j lj hj y5;rw[PZ hk2]at y2 y6;have b:=low k o' hk2 y2 y4 y6;omega
  .by_cases hk2:i=k
   .have a:=new k lk hk2 y6;rw[PZ hj]at y1 y5;have b:=low j o hj y1 y3 y5;omega
   .rw[PZ hj]at y1 y5;rw[PZ hk2]at y2 y6;exact f.inj j k o o' m y1 y2 y3 y4 y5 y6
 .by_cases hj:i=j
  .subst hj;rw[hk];unfold locked;by_cases hl:i<fr.length
   .rw[VV hl];rfl
   .rw[WK (by simpa using hl)]
  .unfold locked;rw[PZ hj]
 .have:i≠j:=λz=>by subst z;rw[hk]at hj;cases hj
  rw[PZ this]
end
inductive PF(P':Ev.aM)(w:Nat)(s:S)(g:Fl)(M B:Nat->Prop)(h:Hh)(S:Nat->Prop)(fr:Fr)(aj:Ev.Fr)(af:Fr):Prop
 |mk (g':Ev.Fl) (bG:Ev.Fr) (M':Nat->Prop) (h':Hh) (S':Nat->Prop) (c0:Ev.ex P' w s aj h=.ok (g',bG) h') (c1:gw h' S' g g') (c2:dG M B h S fr aj M' h' S' af bG):PF P' w s g M B h S fr aj af
inductive Ke(P':Ev.aM)(w:Nat)(s:Ss)(g:Fl)(M B:Nat->Prop)(h:Hh)(S:Nat->Prop)(fr:Fr)(aj:Ev.Fr)(af:Fr):Prop
 |mk (g':Ev.Fl) (bG:Ev.Fr) (M':Nat->Prop) (h':Hh) (S':Nat->Prop) (c0:Ev.exs P' w s aj h=.ok (g',bG) h') (c1:gw h' S' g g') (c2:dG M B h S fr aj M' h' S' af bG):Ke P' w s g M B h S fr aj af
section
variable(P:aM)(P':Ev.aM)(w:Nat)
noncomputable def nB(s:S):Prop:=∀{fr:Fr} {g:Fl} {af:Fr} {M B:Nat->Prop} {h:Hh} {S:Nat->Prop} {aj:Ev.Fr},ex P w s fr=.ok g af->bh M B h S fr aj->PF P' w s g M B h S fr aj af
noncomputable def oM(s:Ss):Prop:=∀{fr:Fr} {g:Fl} {af:Fr} {M B:Nat->Prop} {h:Hh} {S:Nat->Prop} {aj:Ev.Fr},exs P w s fr=.ok g af->bh M B h S fr aj->Ke P' w s g M B h S fr aj af
end
section
variable{P:aM}{P':Ev.aM}{w:Nat}(HP:oA P P')
include HP
def FQ{i:Nat}{e:E}:nB P P' w (.set i e):=λ{fr g af M B h S aj} z f=>by
 simp only[ex]at z;replace z:=ah z;obtain⟨x,ao,z1,z⟩:=z;by_cases hn:isNew e=true
 .rw[GQ hn]at z;have key:∃l ds h1 S1,x=.lst l/\aq h1 S1 l ds/\Ev.ev P' e aj h=.ok (.ref h1.length) (h1++[.lst ds])/\Out M B (bC e) h S fr aj h1 S1 ao:=by
   cases e <;> (try simp only[isNew,V4]at hn)
   case lst es=>
    simp only[ev]at z1;replace z1:=ah z1;obtain⟨l,cE,z2,z1⟩:=z1;replace z1:=aC z1;obtain⟨z1,y0⟩:=z1;subst y0;unfold dP at z1;split at z1
    case isFalse=>cases z1
    rename_i hk;cases z1;obtain⟨ds,h1,S1,e1,q1,o1⟩:=fE HP es z2 f;refine⟨l,ds,h1,S1,rfl,q1.n,?_,o1⟩;simp only[Ev.ev,e1,Ev.ak,Ev.alloc];rw[GQ (by rw[<-q1.n.length];exact hk)]
   case gp it=>
    simp only[ev]at z1;replace z1:=ah z1;obtain⟨l,cE,z2,z1⟩:=z1;replace z1:=aC z1;obtain⟨z1,y0⟩:=z1;subst y0;unfold dP at z1;split at z1
    case isFalse=>cases z1
    rename_i hk;cases z1;obtain⟨s,h1,S1,e1,q1,q2,o1⟩:=jS HP it z2 f;refine⟨l,s.1,h1,S1,rfl,q1,?_,o1⟩;simp only[Ev.ev,e1,Ev.ak,Ev.alloc];rw[GQ (by rw[<-q1.length];exact hk)]
  obtain⟨l,ds,h1,S1,rfl,q1,e1,o1⟩:=key;simp only at z;replace z:=ah z;obtain⟨cE,iS,z2,z⟩:=z;replace z2:=aC z2;obtain⟨z2,y0⟩:=z2;subst y0;cases z;have o2:=o1.f.own z2 q1;exact⟨.nx,_,_,_,_,by simp only[Ev.ex,e1,Ev.ak],rfl,o1.s.trans f o2⟩
 .rw[Us hn]at z;replace z:=ah z;obtain⟨cE,iS,z2,z⟩:=z;replace z2:=aC z2;obtain⟨z2,y0⟩:=z2;subst y0;cases z;obtain⟨d,h1,S1,e1,q1,o1⟩:=aS HP e z1 f;obtain⟨f2,l2,r2⟩:=o1.f.set z2 q1.n;refine⟨.nx,_,_,_,_,by simp only[Ev.ex,e1,Ev.ak],rfl,o1.s.trans f ⟨f2,(dG.refl f2).tr,l2,r2⟩⟩
def FT{l:List Nat}{e:E}:nB P P' w (.wX l e):=λ{fr g af M B h S aj} z f=>by
 simp only[ex]at z;replace z:=ah z;obtain⟨x,ao,z1,z⟩:=z;replace z:=ah z;obtain⟨cE,iS,z2,z⟩:=z;replace z2:=aC z2;obtain⟨z2,y0⟩:=z2;subst y0;cases z;obtain⟨d,h1,S1,e1,q1,o1⟩:=aS HP e z1 f;obtain⟨iQ,b1,f2,l2,r2⟩:=o1.f.bY z2 q1.n;exact⟨.nx,_,_,_,_,by simp only[Ev.ex,e1,Ev.ak,b1],rfl,o1.s.trans f ⟨f2,(dG.refl f2).tr,l2,r2⟩⟩
def Kf{e:E}:nB P P' w (.exp e):=λ{fr g af M B h S aj} z f=>by
 simp only[ex]at z;replace z:=ah z;obtain⟨x,ao,z1,z⟩:=z;cases z;obtain⟨d,h1,S1,e1,q1,o1⟩:=aS HP e z1 f;exact⟨.nx,_,_,_,_,by simp only[Ev.ex,e1,Ev.ak],rfl,o1.s⟩
def Kg{e:E}:nB P P' w (.ret e):=λ{fr g af M B h S aj} z f=>by
 simp only[ex]at z;replace z:=ah z;obtain⟨x,ao,z1,z⟩:=z;cases z;obtain⟨M1,S1,o1⟩:=f.ek;obtain⟨d,h2,S2,e1,q1,o2⟩:=aS HP e z1 o1.f;exact⟨.ret d,_,_,_,_,by simp only[Ev.ex,e1,Ev.ak],⟨d,rfl,q1.n⟩,o1.trans f o2.s⟩
omit HP in
theorem qf{F:V->Fr->R Fl}{F':D->Ev.Fr->Hh->Ev.R (Ev.Fl×Ev.Fr)}{ck:List (Nat×List D)}{B:Nat->Prop}{M0:Nat->Prop}{h0:Hh}{S0:Nat->Prop}{dZ:Fr}{Cf:Ev.Fr}(f0:bh M0 B h0 S0 dZ Cf)(st:∀q∈ck,bg h0 q.1=some q.2/\¬ M0 q.1)
  (turn:∀v d fr g af M h S aj,F v fr=.ok g af->bh M B h S fr aj->Rep h S v d->∃g' bG M' h' S',F' d aj h=.ok (g',bG) h'/\gw h' S' g g'/\dG M B h S fr aj M' h' S' af bG) :
  ∀{vs:List V} {ds:List D} {fr:Fr} {g:Fl} {af:Fr} {M:Nat->Prop} {h:Hh} {S:Nat->Prop} {aj:Ev.Fr},forL F vs fr=.ok g af->dG M0 B h0 S0 dZ Cf M h S fr aj->aq h S vs ds->
  ∃g' bG M' h' S',Ev.forL F' ck ds aj h=.ok (g',bG) h'/\gw h' S' g g'/\dG M0 B h0 S0 dZ Cf M' h' S' af bG
 |[],ds,fr,g,af,M,h,S,aj,e,o,q=>by
  simp only[forL]at e;simp only[aq]at q;subst q;cases e;refine⟨.nx,aj,M,h,S,?_,rfl,o⟩;simp only[Ev.forL];rw[GQ (jl λx hx=>kh (st x hx).1 (o.tr.keep _ (oE (st x hx).1) (st x hx).2))]
 |v :: vs,ds,fr,g,af,M,h,S,aj,e,o,q=>by
  simp only[forL]at e;replace e:=ah e;obtain⟨p,ao,e1,e⟩:=e;simp only[aq]at q;obtain⟨d,es,rfl,q1,q2⟩:=q;obtain⟨g',ki,M2,h2,S2,t1,t2,t3⟩:=turn v d fr p ao M h S aj e1 o.f q1;have o2:=o.trans f0 t3;have D9:Ev.stays h ck=true:=jl λx hx=>kh (st x hx).1 (o.tr.keep _ (oE (st x hx).1) (st x hx).2);have PJ:aq h2 S2 vs es:=q2.mono (λm z=>t3.tr.keep m (o.f.wS m z).1 (o.f.wS m z).2.1) t3.tr.sub;cases p with
  |nx=>
   simp only[gw]at t2;subst t2;simp only at e;obtain⟨oN,iQ,M3,h3,S3,u1,u2,u3⟩:=qf f0 st turn e o2 PJ;refine⟨oN,iQ,M3,h3,S3,?_,u2,u3⟩;simp only[Ev.forL];rw[GQ D9,t1,Ev.ak];exact u1
  |ct=>
   simp only[gw]at t2;subst t2;simp only at e;obtain⟨oN,iQ,M3,h3,S3,u1,u2,u3⟩:=qf f0 st turn e o2 PJ;refine⟨oN,iQ,M3,h3,S3,?_,u2,u3⟩;simp only[Ev.forL];rw[GQ D9,t1,Ev.ak];exact u1
  |bk=>
   simp only[gw]at t2;subst t2;simp only at e;cases e;refine⟨.nx,ki,M2,h2,S2,?_,rfl,o2⟩;simp only[Ev.forL];rw[GQ D9,t1,Ev.ak]
  |ret x=>
   simp only[gw]at t2;obtain⟨d2,rfl,t2⟩:=t2;simp only at e;cases e;refine⟨.ret d2,ki,M2,h2,S2,?_,⟨d2,rfl,t2⟩,o2⟩;simp only[Ev.forL];rw[GQ D9,t1,Ev.ak]
def Kh{t:T}{it:It}{b:Ss}(ib:oM P P' w b):nB P P' w (.for t it b):=λ{fr g af M B h S aj} z f=>by
 simp only[ex]at z;replace z:=ah z;obtain⟨vs,ao,z1,z⟩:=z;obtain⟨M1,S1,o1⟩:=f.walk (itv it);obtain⟨s,h2,S2,e1,q1,q2,o2⟩:=jS HP it z1 o1.f;have o3:=o1.trans f o2.s;obtain⟨g',bG,M',h',S',u1,u2,u3⟩:=qf (F':=λd ao h2=>match Ev.bY t d ao with
   |some cE=>Ev.exs P' w b cE h2
   |none=>.bad) (ck:=s.2) o2.f (λq hq=>⟨(q2 q hq).1,(q2 q hq).2 rfl⟩) (λv d fr g af M h S aj y f q=>by
  split at y
  .rename_i cE y1;obtain⟨iQ,b1,b2,b3,b4⟩:=f.bY y1 q;rw[b1];obtain⟨g',bG,M',h',S',c1,c2,c3⟩:=ib y b2;exact⟨g',bG,M',h',S',c1,c2,(⟨b2,(dG.refl b2).tr,b3,b4⟩:dG M _ h S fr aj M h S cE iQ).trans f c3⟩
  .cases y) z (dG.refl o2.f) q1
 refine⟨g',bG,M',h',S',?_,u2,o3.trans f u3⟩;simp only[Ev.ex,e1,Ev.ak];exact u1
theorem tP{t:E}{b:Ss}(ib:oM P P' w b):∀(n:Nat) {fr:Fr}{g:Fl}{af:Fr}{M B:Nat->Prop}{h:Hh}{S:Nat->Prop}{aj:Ev.Fr},dD (λao=>aE P t ao) (λao=>exs P w b ao) n fr=.ok g af->bh M B h S fr aj->
  ∃g' bG M' h' S',Ev.dD (λao h2=>Ev.aE P' t ao h2) (λao h2=>Ev.exs P' w b ao h2) n aj h=.ok (g',bG) h'/\gw h' S' g g'/\dG M B h S fr aj M' h' S' af bG
 |0,_,_,_,_,_,_,_,_,z,_=>by simp only[dD]at z;cases z
 |n+1,fr,g,af,M,B,h,S,aj,z,f=>by
  simp only[dD]at z;replace z:=ah z;obtain⟨k,ao,z1,z⟩:=z;obtain⟨h1,S1,e1,o1⟩:=fZ HP t z1 f;cases k with
  |false=>
   simp only[V4,WE]at z;cases z;refine⟨.nx,aj,M,h1,S1,?_,rfl,o1.s⟩;simp only[Ev.dD,e1,Ev.ak];rw[Us (by decide)]
  |true=>
   simp only[Wf]at z;replace z:=ah z;obtain⟨p,cE,z2,z⟩:=z;obtain⟨g',iQ,M2,h2,S2,t1,t2,t3⟩:=ib z2 o1.f;have o2:=o1.s.trans f t3;cases p with
   |nx=>
    simp only[gw]at t2;subst t2;simp only at z;obtain⟨oN,Cg,M3,h3,S3,u1,u2,u3⟩:=tP ib n z t3.f;refine⟨oN,Cg,M3,h3,S3,?_,u2,o2.trans f u3⟩;simp only[Ev.dD,e1,Ev.ak,Wf,t1];exact u1
   |ct=>
    simp only[gw]at t2;subst t2;simp only at z;obtain⟨oN,Cg,M3,h3,S3,u1,u2,u3⟩:=tP ib n z t3.f;refine⟨oN,Cg,M3,h3,S3,?_,u2,o2.trans f u3⟩;simp only[Ev.dD,e1,Ev.ak,Wf,t1];exact u1
   |bk=>
    simp only[gw]at t2;subst t2;simp only at z;cases z;refine⟨.nx,iQ,M2,h2,S2,?_,rfl,o2⟩;simp only[Ev.dD,e1,Ev.ak,Wf,t1]
   |ret x=>
    simp only[gw]at t2;obtain⟨d2,rfl,t2⟩:=t2;simp only at z;cases z;refine⟨.ret d2,iQ,M2,h2,S2,?_,⟨d2,rfl,t2⟩,o2⟩;simp only[Ev.dD,e1,Ev.ak,Wf,t1]
def Kl{t:E}{a b:Ss}(ia:oM P P' w a)(ib:oM P P' w b):nB P P' w (.iff t a b):=λ{fr g af M B h S aj} z f=>by
 simp only[ex]at z;replace z:=ah z;obtain⟨k,ao,z1,z⟩:=z;obtain⟨h1,S1,e1,o1⟩:=fZ HP t z1 f;cases k with
 |true=>
  simp only[Wf]at z;obtain⟨g',bG,M',h',S',c1,c2,c3⟩:=ia z o1.f;exact⟨g',bG,M',h',S',by simp only[Ev.ex,e1,Ev.ak,Wf,c1],c2,o1.s.trans f c3⟩
 |false=>
  simp only[V4,WE]at z;obtain⟨g',bG,M',h',S',c1,c2,c3⟩:=ib z o1.f;exact⟨g',bG,M',h',S',by simp only[Ev.ex,e1,Ev.ak];rw[Us (by decide)];exact c1,c2,o1.s.trans f c3⟩
mutual
theorem Nt:∀s:S,nB P P' w s
 |.set _ _=>FQ HP
 |.wX _ _=>FT HP
 |.exp _=>Kf HP
 |.ret _=>Kg HP
 |.iff _ a b=>Kl HP (jT a) (jT b)
 |.for _ _ b=>Kh HP (jT b)
 |.lu _ b=>λz f=>by
  simp only[ex]at z;obtain⟨g',bG,M',h',S',c1,c2,c3⟩:=tP HP (jT b) w z f;exact⟨g',bG,M',h',S',by simp only[Ev.ex];exact c1,c2,c3⟩
 |.fU _=>λz _=>by simp only[ex]at z;cases z
theorem jT:∀s:Ss,oM P P' w s
 |.nil=>λz f=>by simp only[exs]at z;cases z;exact⟨.nx,_,_,_,_,by simp only[Ev.exs],rfl,.refl f⟩
 |.cons s ss=>λz f=>by
  simp only[exs]at z;replace z:=ah z;obtain⟨p,ao,z1,z⟩:=z;obtain⟨g',ki,M2,h2,S2,t1,t2,t3⟩:=Nt s z1 f;cases p with
  |nx=>
   simp only[gw]at t2;subst t2;simp only at z;obtain⟨oN,iQ,M3,h3,S3,u1,u2,u3⟩:=jT ss z t3.f;exact⟨oN,iQ,M3,h3,S3,by simp only[Ev.exs,t1,Ev.ak,u1],u2,t3.trans f u3⟩
  |ct=>
   simp only[gw]at t2;subst t2;simp only at z;cases z;exact⟨.ct,ki,M2,h2,S2,by simp only[Ev.exs,t1,Ev.ak],rfl,t3⟩
  |bk=>
   simp only[gw]at t2;subst t2;simp only at z;cases z;exact⟨.bk,ki,M2,h2,S2,by simp only[Ev.exs,t1,Ev.ak],rfl,t3⟩
  |ret x=>
   simp only[gw]at t2;obtain⟨d2,rfl,t2⟩:=t2;simp only at z;cases z;exact⟨.ret d2,ki,M2,h2,S2,by simp only[Ev.exs,t1,Ev.ak],⟨d2,rfl,t2⟩,t3⟩
end
end
theorem qg{h:Hh}{S:Nat->Prop}{B:Nat->Prop}{h0:Hh}{S0:Nat->Prop}:∀{sl:List Sl}{ds:List D}{cs:Fr},sl.length=ds.length->
  (∀(a:Nat) s d,sl[a]?=some s->ds[a]?=some d->jL B B h0 S0 (some s) (some d)/\locked cs a=vK (some s)/\(vK (some s)=true->∃m es l s',d=.ref m/\h[m]?=some (.lst es)/\aq h S l es/\cs[a]?=some (some s')/\s'.out=some l))->lN h S sl ds ((cs.take sl.length).filterMap λo=>o.bind Sl.out)
 |[],ds,cs,_,_=>by simp[lN]
 |s :: sl,[],cs,hl,_=>by simp at hl
 |s :: sl,d :: ds,[],hl,q=>by
  have ih:=qg (h:=h) (S:=S) (sl:=sl) (ds:=ds) (cs:=[]) (by simpa using hl) λa s' d' e1 e2=>by
   obtain⟨w1,w2,w3⟩:=q (a+1) s' d' (by simpa using e1) (by simpa using e2);exact⟨w1,by simpa[locked]using w2,λz=>by obtain⟨_,_,_,_,_,_,_,y,_⟩:=w3 z;simp at y⟩
  obtain⟨w1,w2,w3⟩:=q 0 s d (by simp) (by simp);cases s with
  |val v=>simp at ih ⊢;exact⟨d,ds,rfl,ih⟩
  |own l=>exact absurd w1 (by rintro⟨m,es,e,q,_⟩;exact q.2 q.1)
  |bor l=>obtain⟨_,_,_,_,_,_,_,y,_⟩:=w3 rfl;simp at y
  |ro l=>obtain⟨_,_,_,_,_,_,_,y,_⟩:=w3 rfl;simp at y
 |s :: sl,d :: ds,o :: cs,hl,q=>by
  have ih:=qg (h:=h) (S:=S) (sl:=sl) (ds:=ds) (cs:=cs) (by simpa using hl) λa s' d' e1 e2=>by
   obtain⟨w1,w2,w3⟩:=q (a+1) s' d' (by simpa using e1) (by simpa using e2);exact⟨w1,by simpa[locked]using w2,λz=>by simpa using w3 z⟩
  obtain⟨w1,w2,w3⟩:=q 0 s d (by simp) (by simp);cases s with
  |val v=>
   have:o.bind Sl.out=none:=by
    simp[locked]at w2;rcases o with _|s
    .rfl
    .cases s<;>first|rfl|cases w2
   simp only[V1,WA,WB,this];exact⟨d,ds,rfl,ih⟩
  |own l=>exact absurd w1 (by rintro⟨m,es,e,q,_⟩;exact q.2 q.1)
  |bor l=>
   obtain⟨m,es,l',s',a1,a2,a3,a4,a5⟩:=w3 rfl;simp at a4;subst a4;simp only[V1,WA,WB,Option.bind,a5];exact⟨d,ds,l',_,m,es,rfl,rfl,a1,a2,a3,ih⟩
  |ro l=>
   obtain⟨m,es,l',s',a1,a2,a3,a4,a5⟩:=w3 rfl;simp at a4;subst a4;simp only[V1,WA,WB,Option.bind,a5];exact⟨d,ds,l',_,m,es,rfl,rfl,a1,a2,a3,ih⟩
def Km{fn:Fn}{sl:List Sl}{ds:List D}{B:Nat->Prop}{h:Hh}{S:Nat->Prop}(F0:bh B B h S (sl.map some) (ds.map some))(hlen:sl.length=ds.length):bh B B h S (dZ fn sl) (Ev.dZ fn ds):=by
 unfold dZ Ev.dZ;have sp:∀(i:Nat) o,(sl.map some++List.replicate (fn.ns - fn.np) none)[i]?=some o->(sl.map some)[i]?=some o\/(sl.length<=i/\o=none):=λi o y=>by
  by_cases hi:i<sl.length
  .rw[Sx (by simpa using hi)]at y;exact .inl y
  .rw[WI (by simpa using hi)]at y;have:=V9 y;exact .inr ⟨by omega,(List.mem_replicate.mp this).2⟩
 have lo:∀(i:Nat) p,i<sl.length->(ds.map some++List.replicate (fn.ns - fn.np) none)[i]?=some p->(ds.map some)[i]?=some p:=λi p hi y=>by
  rw[Sx (by simpa[<-hlen]using hi)]at y;exact y
 refine⟨F0.wS,F0.wM,F0.wB,by simp[hlen],λi o p y1 y2=>?_,λi j o o' m y1 y2 y3 y4 y5 y6=>?_⟩
 .rcases sp i o y1 with y1|⟨hi,rfl⟩
  .have hi:i<sl.length:=by have:=(List.getElem?_eq_some_iff.mp y1).1;simpa using this
   exact F0.sl i o p y1 (lo i p hi y2)
  .rw[WI (by simpa[<-hlen]using hi)]at y2;have:=V9 y2;exact(List.mem_replicate.mp this).2
 .rcases sp i o y1 with y1|⟨hi,rfl⟩
  .rcases sp j o' y2 with y2|⟨hj,rfl⟩
   .have hi:i<sl.length:=by have:=(List.getElem?_eq_some_iff.mp y1).1;simpa using this
    have hj:j<sl.length:=by have:=(List.getElem?_eq_some_iff.mp y2).1;simpa using this
    exact F0.inj i j o o' m y1 y2 y3 y4 (lo i _ hi y5) (lo j _ hj y6)
   .cases y4
  .cases y3
theorem Ae(F:List Fn)(w:Nat):∀n,oA (run F w n) (Ev.run F w n)
 |0=>λf sl v os e=>by simp[run]at e
 |n+1=>λf sl v os e h S B ds F0=>by
  have HP:=Ae F w n;simp only[run]at e;cases z:F[f]? with
  |none=>rw[z]at e;cases e
  |some fn=>
  rw[z]at e;simp only at e;split at e
  case isFalse=>cases e
  rename_i hl;have hlen:sl.length=ds.length:=by have:=F0.len;simpa using this
  have f1:bh B B h S (dZ fn sl) (Ev.dZ fn ds):=Km F0 hlen;have fin:∀{g:Fl} {af:Fr},exs (run F w n) w fn.body (dZ fn sl)=.ok g af->∃g' bG M' h' S',Ev.exs (Ev.run F w n) w fn.body (Ev.dZ fn ds) h=.ok (g',bG) h'/\gw h' S' g g'/\Tk B h S h' S'/\lN h' S' sl ds (outs fn.np af):=λ{g af} y=>by
   obtain⟨g',bG,M',h',S',c1,c2,c3⟩:=jT HP fn.body y f1;refine⟨g',bG,M',h',S',c1,c2,⟨c3.tr.len,λm y1 y2=>c3.tr.keep m y1 y2,c3.tr.sub,λm q=>?_⟩,?_⟩
   .rcases c3.tr.new m q with q|q|q
    .exact .inl q
    .exact .inr q
    .exact absurd q.1 q.2
   .unfold outs;rw[<-hl];refine qg (B:=B) (h0:=h) (S0:=S) hlen λa s d e1 e2=>?_;have ha:a<sl.length:=(List.getElem?_eq_some_iff.mp e1).1;have h0:(dZ fn sl)[a]?=some (some s):=by unfold dZ;rw[Sx (by simpa using ha)];simp[e1]
    have hlk:locked af a=vK (some s):=by rw[c3.lk a];unfold locked;rw[h0]
    refine⟨F0.sl a _ _ (by simp[e1]) (by simp[e2]),hlk,λhk=>?_⟩;have hr:=c3.rf a (by unfold locked;rw[h0];exact hk);have hd:(Ev.dZ fn ds)[a]?=some (some d):=by unfold Ev.dZ;rw[Sx (by simpa[<-hlen]using ha)];simp[e2]
    rw[hd]at hr;cases y2:af[a]? with
    |none=>unfold locked at hlk;rw[y2]at hlk;rw[<-hlk]at hk;cases hk
    |some o=>
     have sr:=c3.f.sl a _ _ y2 hr;unfold locked at hlk;rw[y2,hk]at hlk;rcases o with _|s'
     .cases hlk
     .cases s' with
      |val v=>cases hlk
      |own l=>cases hlk
      |bor l=>obtain⟨m,es,e,_,k1,k2⟩:=sr;cases e;exact⟨m,es,l,_,rfl,k1,k2,rfl,rfl⟩
      |ro l=>obtain⟨m,es,e,_,k1,k2⟩:=sr;cases e;exact⟨m,es,l,_,rfl,k1,k2,rfl,rfl⟩
  simp only[Ev.nX,z];have hl':ds.length=fn.np:=by omega
  rw[GQ hl'];split at e
  .rename_i v' af y;cases e;obtain⟨g',bG,M',h',S',c1,c2,c3,c4⟩:=fin y;simp only[gw]at c2;obtain⟨d,rfl,c2⟩:=c2;exact⟨d,h',S',by simp only[Ev.endOf,c1,Ev.ak],c2,c3,c4⟩
  .rename_i af y;cases e;obtain⟨g',bG,M',h',S',c1,c2,c3,c4⟩:=fin y;simp only[gw]at c2;subst c2;exact⟨.bA,h',S',by simp only[Ev.endOf,c1,Ev.ak],rfl,c3,c4⟩
  .cases e
end Pv
namespace Pv
open Ev (D O Hh Fn)
def FU{F:List Fn}{w n f:Nat}{ns:List Int}(e:run F w n f [.val (.bO (ns.map V.int))]=some (.bl true,[]))(hF:F.length<=1000:=by decide):∃h',Ev.run F w n f [.ref 0] [.bO (ns.map D.int)]=.ok (.bl true) h':=by
 have F0:bh (λ_=>False) (λ_=>False) [O.bO (ns.map D.int)] (λm=>m=0) ([Sl.val (.bO (ns.map V.int))].map some) ([D.ref 0].map some):=by
  refine⟨λm q=>⟨by subst q;simp,id,id⟩,λm q=>q.elim,λm q=>q.elim,rfl,λi o p y1 y2=>?_,λi j o o' m y1 y2 y3 y4 y5 y6=>?_⟩
  .cases i with
   |zero=>
    simp at y1 y2;subst y1 y2;refine⟨.ref 0,rfl,?_⟩;simp only[Rep];exact⟨0,_,rfl,rfl,rfl,aq.map (f:=V.int) (g:=D.int) (λ_=>by simp[Rep]) ns⟩
   |succ i=>simp at y1
  .cases i with
   |zero=>simp at y1;subst y1;cases y3
   |succ i=>simp at y1
 obtain⟨d,h',S',a,b,_,_⟩:=Ae F w n f _ _ _ e _ _ _ _ F0;simp only[Rep]at b;subst b;exact⟨h',a⟩
end Pv
namespace Pv
open Ev (D br aZ TY BI ME T E Es Eo It S Ss Fn big deep b2i rep bM cR bx aL cut bT cI slots)
def cj{n:Nat}(h:n<=100000):n<=big:=V0 h (by decide)
section
variable{i j:Int}{a b:List Nat}{x y:List V}{d e:V}{m n:Nat}{k l:Bool}
def gb(h:x.length<=big):dP x=some (.lst x):=by simp[dP,h]
def jm(h:x.length<=big):fV x=some (.tup x):=by simp[fV,h]
@[simp] theorem x6:dP []=some (.lst []):=gb (cj (by simp))
@[simp] theorem Nu:fV []=some (.tup []):=jm (cj (by simp))
@[simp] theorem x8{a}:dP [a]=some (.lst [a]):=gb (cj (by simp))
@[simp] theorem rM{a}:fV [a]=some (.tup [a]):=jm (cj (by simp))
@[simp] theorem Nv{a b}:dP [a,b]=some (.lst [a,b]):=gb (cj (by simp))
@[simp] theorem mK{a b}:fV [a,b]=some (.tup [a,b]):=jm (cj (by simp))
@[simp] theorem x9{a b c}:fV [a,b,c]=some (.tup [a,b,c]):=jm (cj (by simp))
@[simp] theorem cK:bP .add (.int i) (.int j)=some (.int (i+j)):=nd rfl
def iw(h:a.length+b.length<=100000):bP .add (.str a) (.str b)=some (.str (a++b)):=by delta bP;dsimp only;simp[cj h]
def Ci(h:x.length+y.length<=100000):bP .add (.tup x) (.tup y)=some (.tup (x++y)):=by delta bP;dsimp only;simp[cj h]
@[simp] theorem gj:bP .sub (.int i) (.int j)=some (.int (i - j)):=nd rfl
@[simp] theorem nD:bP .mul (.int i) (.int j)=if bM i j then some (.int (i*j))else none:=nd rfl
def Cj(h0:0<=j)(h1:j<=1000)(h2:a.length<=1000):bP .mul (.str a) (.int j)=some (.str (rep j.toNat a)):=by delta bP;dsimp only;simp[h0,h1,h2]
@[simp] theorem Ck:bP .fdiv (.int i) (.int j)=if 0<j/\j<1073741824 then some (.int (i / j))else none:=nd rfl
@[simp] theorem FY:bP .mod (.int i) (.int j)=if 0<j then some (.int (i % j))else none:=nd rfl
@[simp] theorem Kn:cop .eq d e=dF deep d e:=nd rfl
@[simp] theorem oO:cop .ne d e=(dF deep d e).map (!·):=nd rfl
@[simp] theorem Ko:dF (n+1) (.int i) (.int j)=some (decide (i=j)):=by show some (i==j)=_;by_cases h:i=j<;>simp[h]
@[simp] theorem Kp:dF (n+1) (.str a) (.str b)=some (decide (a=b)):=by show some (a==b)=_;by_cases h:a=b<;>simp[h]
@[simp] theorem Kq:dF (n+1) (.bl k) (.bl l)=some (decide (k=l)):=by cases k<;>cases l<;>rfl
@[simp] theorem TH:dF (n+1) (.str a) (.int i)=some false:=nd rfl
@[simp] theorem TJ:dF (n+1) (.int i) (.str a)=some false:=nd rfl
@[simp] theorem TL:dF (n+1) (.tup x) (.tup y)=cg (dF n) x y:=nd rfl
@[simp] theorem vQ:dF deep (.int i) (.int j)=some (decide (i=j)):=Ko
@[simp] theorem vR:dF deep (.str a) (.str b)=some (decide (a=b)):=Kp
@[simp] theorem FZ:dF deep (.bl k) (.bl l)=some (decide (k=l)):=Kq
@[simp] theorem Ga:dF deep (.tup x) (.tup y)=cg (dF (18+1)) x y:=nd rfl
@[simp] theorem Sq{f:V->V->Option Bool}:cg f [] []=some true:=nd rfl
@[simp] theorem TM{f:V->V->Option Bool}:cg f [] (d :: x)=some false:=nd rfl
@[simp] theorem TN{f:V->V->Option Bool}:cg f (d :: x) []=some false:=nd rfl
@[simp] theorem Rx{f:V->V->Option Bool}:cg f (d :: x) (e :: y)=(f d e).bind λb=>(cg f x y).bind λc=>some (b&&c):=nd rfl
theorem vS{α:Type}[DecidableEq α]{f:V->V->Option Bool}{g:α->V}(h:∀a b,f (g a) (g b)=some (decide (a=b))):∀l m:List α,cg f (l.map g) (m.map g)=some (decide (l=m))
 |[],[]=>by simp
 |[],_ :: _=>by simp
 |_ :: _,[]=>by simp
 |a :: l,b :: m=>by simp[h,vS h l m]
@[simp] theorem jU:dY (.str a) (.int i)=(bx a i).map λc=>.str [c]:=nd rfl
@[simp] theorem vU:dY (.lst x) (.int i)=bx x i:=nd rfl
@[simp] theorem eX{lo hi:Option Int}:fC (.str a) lo hi=some (.str (cut a lo hi)):=nd rfl
@[simp] theorem vV{x:List Nat}:kO (.str x)=some (.str x.reverse):=nd rfl
def WQ(h:a.length<=100000):dw .len [.str a]=some (.int a.length):=by delta dw;dsimp only;simp[cj h]
@[simp] theorem vW:dw .len [.bO x]=some (.int x.length):=nd rfl
@[simp] theorem Gb:dw .sum [.lst x]=(intsOf x).map λis=>.int is.sum:=nd rfl
@[simp] theorem Af:dw .min [.int i,.int j]=some (.int (if j<i then j else i)):=nd rfl
@[simp] theorem Nx:dw .abs [.int i]=some (.int (if i<0 then -i else i)):=nd rfl
@[simp] theorem vX:toT (.lst x)=fV x:=nd rfl
def Kr(h0:0<=j)(h1:j<=100000):ef [.int j]=some (range 0 j.toNat):=by
 simp only[ef];rw[GQ ⟨by omega,by omega⟩]
def yc{α:Type}(g:α->Int)(l:List α):intsOf (l.map λx=>.int (g x))=some (l.map g):=by induction l<;>simp[intsOf, *]
def oQ{α:Type}(g:α->List Nat)(l:List α):strsOf (l.map λx=>.str (g x))=some (l.map g):=by induction l<;>simp[strsOf, *]
theorem rj:∀l:List (List Nat),bT [] l=l.flatten
 |[]=>rfl
 |[s]=>by simp[bT]
 |s :: t :: r=>by simp[bT,rj (t :: r)]
@[simp] theorem TQ:truthy (.bl k)=k:=nd rfl
@[simp] theorem Su:truthy (.lst x) = !x.isEmpty:=nd rfl
def Ea{l:List (List Nat)}(h:l.flatten.length<=100000):eK .join (.str []) [.lst (l.map V.str)]=some (.str l.flatten):=by
 have hs:=oQ (λx=>x) l;have:(l.map (·.length)).sum<=big:=cj (by rw[<-List.length_flatten];exact h);simp only[List.map_id']at hs;have hs':strsOf (l.map V.str)=some l:=by simpa using oQ (λx=>x) l
 delta eK;dsimp only;simp[m7,hs',rj,this]
end
def rm{α:Type}{f:V->Option (Option V)}(e:α->V)(g:α->V)(l:List α)(h:∀a∈l,f (e a)=some (some (g a))):cJ f (l.map e)=some (l.map g):=by
 induction l with
 |nil=>rfl
 |cons a l ih=>simp only[T6,cJ,h a (by simp),ih λu hu=>h u (by simp[hu]),Option.bind];rfl
def tQ{α:Type}{f:V->Option (Option V)}(e:α->V)(p:α->Bool)(g:α->V)(l:List α)(h:∀a∈l,f (e a)=some (if p a then some (g a)else none)):cJ f (l.map e)=some ((l.filter p).map g):=by
 induction l with
 |nil=>rfl
 |cons a l ih=>
  simp only[T6,cJ,h a (by simp),ih λu hu=>h u (by simp[hu]),Option.bind];cases z:p a<;>simp[z]
noncomputable def Wp{α:Type}(r:R α)(Q:α->Fr->Prop):Prop:=∃a h,r=.ok a h/\Q a h
section
variable{α β:Type}{Q Q':α->Fr->Prop}
@[simp] theorem oR(a:α)(h:Fr):Wp (.ok a h) Q=Q a h:=propext ⟨λ⟨_,_,e,q⟩=>by cases e;exact q,λq=>⟨_,_,rfl,q⟩⟩
@[simp] theorem TR:Wp (.bad:R α) Q=False:=propext ⟨λq=>(by obtain⟨_,_,e,_⟩:=q;cases e),False.elim⟩
@[simp] theorem wp_bind(r:R β)(f:β->Fr->R α):Wp (r.bind f) Q=Wp r λa h=>Wp (f a h) Q:=by cases r<;>simp
def Wp.mono{r:R α}(h:Wp r Q)(f:∀a h,Q a h->Q' a h):Wp r Q':=by
 obtain⟨a,h',e,q⟩:=h;exact⟨a,h',e,f a h' q⟩
end
noncomputable def fl(I Q:Fr->Prop)(X:V->Fr->Prop):Fl->Fr->Prop
 |.nx,fr=>I fr
 |.ct,fr=>I fr
 |.bk,fr=>Q fr
 |.ret v,fr=>X v fr
section
variable{I J:Fr->Prop}{X:V->Fr->Prop}{fr:Fr}
@[simp] theorem cL:fl I J X .nx fr=I fr:=nd rfl
end
theorem er{α:Type}{e:α->V}{f:V->Fr->R Fl}{Q:Fl->Fr->Prop}(I:List α->List α->Fr->Prop)(turn:∀p a l fr,I p (a :: l) fr->Wp (f (e a) fr) (fl (I (p++[a]) l) (Q .nx) λv=>Q (.ret v)))(fin:∀p fr,I p [] fr->Q .nx fr):∀(l p:List α) (fr:Fr),I p l fr->Wp (forL f (l.map e) fr) Q
 |[],p,fr,i=>by simp only[Zb,forL,oR];exact fin p fr i
 |a :: l,p,fr,i=>by
  simp only[T6,forL,wp_bind];refine(turn p a l fr i).mono λg h2 q=>?_;cases g with
  |nx=>exact er I turn fin l _ h2 q
  |ct=>exact er I turn fin l _ h2 q
  |bk=>exact(oR _ _).mpr q
  |ret x=>exact(oR _ _).mpr q
def Gd{f:V->Fr->R Fl}{Q:Fl->Fr->Prop}{lo:Int}{N:Nat}(I:Nat->Fr->Prop)(turn:∀(k:Nat) fr,k<N->I k fr->Wp (f (.int (lo+(k:Nat))) fr) (fl (I (k+1)) (Q .nx) λv=>Q (.ret v)))(fin:∀fr,I N fr->Q .nx fr){fr:Fr}(i:I 0 fr):Wp (forL f (range lo N) fr) Q:=by
 have h:=er (e:=λ(k:Nat)=>V.int (lo+k)) (f:=f) (Q:=Q) (λp l fr=>∃k,k<=N/\p=List.range k/\p++l=List.range N/\I k fr)
  (λp a l fr ⟨k,hk,hp,hl,q⟩=>by
   subst hp;have hlen:=VZ List.length hl;simp at hlen;have ha:a=k:=by
    have:=VZ (·[k]?) hl;simp[WI]at this;rw[Xu (by omega)]at this;simpa using this
   subst ha;refine(turn a fr (by omega) q).mono λg h2 z=>?_;cases g with
   |nx=>exact⟨a+1,by omega,by simp[WM],by simpa using hl,z⟩
   |ct=>exact⟨a+1,by omega,by simp[WM],by simpa using hl,z⟩
   |bk=>exact z
   |ret x=>exact z)
  (λp fr ⟨k,hk,hp,hl,q⟩=>by
   subst hp;have hlen:=VZ List.length hl;simp at hlen;subst hlen;exact fin fr q) (List.range N) [] fr ⟨0,WH _,rfl,by simp,i⟩
 exact h
theorem oS{t:Fr->R Bool}{f:Fr->R Fl}{Q:Fl->Fr->Prop}(I:Nat->Fr->Prop)(turn:∀k fr,I k fr->Wp (t fr) λb af=>if b then Wp (f af) (fl (λao=>∃j,j<k/\I j ao) (Q .nx) λv=>Q (.ret v))else Q .nx af):∀(n k:Nat) (fr:Fr),k<n->I k fr->Wp (dD t f n fr) Q
 |0,k,fr,hk,_=>by omega
 |n+1,k,fr,hk,i=>by
  simp only[dD,wp_bind];refine(turn k fr i).mono λb af q=>?_;cases b with
  |false=>simpa using q
  |true=>
   simp only[Wf,wp_bind]at q ⊢;refine q.mono λg ao z=>?_;cases g with
   |nx=>obtain⟨j,hj,z⟩:=z;exact oS I turn n j ao (by omega) z
   |ct=>obtain⟨j,hj,z⟩:=z;exact oS I turn n j ao (by omega) z
   |bk=>exact(oR _ _).mpr z
   |ret x=>exact(oR _ _).mpr z
noncomputable def fin(fn:Fn)(ds:List Sl):R Fl->Option (V×List (List V))
 |.ok (.ret v) fr=>some (v,outs fn.np fr)
 |.ok .nx fr=>some (.bA,outs fn.np fr)
 |_=>JJ fn ds
@[simp] theorem Ge{fn:Fn}{ds:List Sl}{v:V}{fr:Fr}:fin fn ds (.ok (.ret v) fr)=some (v,outs fn.np fr):=nd rfl
def run_eq{F:List Fn}{w n f:Nat}{ds:List Sl}{fn:Fn}(hf:F[f]?=some fn)(hl:ds.length=fn.np):run F w (n+1) f ds=fin fn ds (exs (run F w n) w fn.body (dZ fn ds)):=by
 simp only[nX,hf,hl,Wf];cases exs (run F w n) w fn.body (dZ fn ds)with
 |bad=>rfl
 |ok g fr=>cases g<;>rfl
def bW{F:List Fn}{w n f:Nat}{ds:List Sl}{fn:Fn}{v:V}{os:List (List V)}(hf:F[f]?=some fn)(hl:ds.length=fn.np)(q:Wp (exs (run F w n) w fn.body (dZ fn ds)) λg fr=>g=.ret v/\outs fn.np fr=os):run F w (n+1) f ds=some (v,os):=by
 rw[run_eq hf hl];obtain⟨g,fr,e,rfl,rfl⟩:=q;rw[e];rfl
section
variable{P:aM}{w:Nat}{fr:Fr}{k:Bool}{a b c:E}{es:Es}{ss sa sb:Ss}{st:S}{lo hi:Eo}{it:It}
@[simp] theorem Ry{d:D}:ev P k (.c d) fr=R.of (ofD d) fr:=by rw[ev]
@[simp] theorem Rz{i:Nat}:ev P k (.v i) fr=R.of (nA k fr i) fr:=by rw[ev]
@[simp] theorem Ks:ev P k (.tup es) fr=(bV P false es fr).bind λds af=>R.of (fV ds) af:=by rw[ev]
@[simp] theorem Ku:ev P k (.lst es) fr=(bV P false es fr).bind λds af=>R.of (dP ds) af:=by rw[ev]
@[simp] theorem Kv{o:br}:ev P k (.bin o a b) fr=(ev P (kf a (bC b)) a fr).bind λx af=>(ev P true b af).bind λy ao=>R.of (bP o x y) ao:=by rw[ev]
@[simp] theorem Kw{o:aZ}:ev P k (.cmp o a b) fr=(ev P (kf a (bC b)) a fr).bind λx af=>(ev P true b af).bind λy ao=>R.of ((cop o x y).map .bl) ao:=by rw[ev]
noncomputable def TU:V->Fr->R V:=λx h1=>match x with
 |.bl b=>.ok (.bl (!b)) h1
 |_=>.bad
@[simp] theorem Ny:ev P k (.nt a) fr=(ev P true a fr).bind TU:=by rw[ev];rfl
noncomputable def RA:V->Fr->R V:=λx h1=>match x with
 |.int i=>.ok (.int (-i)) h1
 |_=>.bad
@[simp] theorem Ky:ev P k (.neg a) fr=(ev P true a fr).bind RA:=by rw[ev];rfl
noncomputable def PK(r:Fr->R V):V->Fr->R V:=λx h1=>match x with
 |.bl true=>r h1
 |.bl false=>.ok (.bl false) h1
 |_=>.bad
@[simp] theorem Kz{k:Bool}{r:Fr->R V}:PK r (.bl k) fr=if k then r fr else .ok (.bl false) fr:=by cases k<;>rfl
@[simp] theorem Nz:ev P k (.an a b) fr=(ev P true a fr).bind (PK λh1=>ev P k b h1):=by rw[ev];rfl
@[simp] theorem KA:ev P k (.kM a b c) fr=(aE P a fr).bind λt af=>if t then ev P k b af else ev P k c af:=by rw[ev]
@[simp] theorem NB:ev P k (.ix a b) fr=(ev P (kf a (bC b)) a fr).bind λx af=>(ev P true b af).bind λy ao=>R.of (dY x y) ao:=by rw[ev]
@[simp] theorem NC:ev P k (.sl a lo hi) fr=(ev P (kf a (jD lo++jD hi)) a fr).bind λx af=>(ff P lo af).bind λl ao=>(ff P hi ao).bind λu cE=>R.of (fC x l u) cE:=by rw[ev]
def KC:ev P k (.kN a) fr=(ev P true a fr).bind λx af=>R.of (qc x) af:=by rw[ev]
@[simp] theorem ND:ev P k (.rv a) fr=(ev P true a fr).bind λx af=>R.of (kO x) af:=by rw[ev]
@[simp] theorem NF{f:Nat}:ev P k (.cl f es) fr=(fj P es fr).bind λas af=>cX P f as af:=by rw[ev]
@[simp] theorem NG{g:BI}:ev P k (.bi g es) fr=(bV P true es fr).bind λds af=>R.of (dw g ds) af:=by rw[ev]
noncomputable def Cm(m:ME)(i:Nat):List V->Fr->R V:=λds af=>match af[i]? with
 |some (some (.own l))=>match jw m l ds with
  |some (v,l')=>.ok v (af.set i (some (.own l')))
  |none=>.bad
 |some (some (.bor l))=>match jw m l ds with
  |some (v,l')=>.ok v (af.set i (some (.bor l')))
  |none=>.bad
 |_=>.bad
def KD{m:ME}{i:Nat}(hm:iC m=true):ev P k (.me m (.v i) es) fr=if (lent fr i).isSome then (bV P (zR m) es fr).bind (Cm m i)else .bad:=by
 rw[ev,GQ hm];unfold jP;cases z:(lent fr i).isSome<;>simp[z]<;>rfl
def KG{m:ME}(hm:iC m=false):ev P k (.me m a es) fr=(ev P (kf a (fD es)) a fr).bind λx af=>(bV P true es af).bind λds ao=>R.of (eK m x ds) ao:=by rw[ev,hm];rfl
noncomputable def kj(P:aM)(elt:E)(t:T)(cond:Eo)(fr:Fr):V->Option (Option V):=λd=>match bY t d (q9 fr)with
 |none=>none
 |some ao=>match gI P cond ao with
  |.ok c _=>if c then (match ev P false elt ao with|.ok x _=>some (some x)|.bad=>none)else some none
  |.bad=>none
@[simp] theorem pU{elt:E}{t:T}{cond:Eo}:ev P k (.comp elt t it cond) fr=(bR P true it fr).bind λs af=>if undef t af then R.of ((cJ (kj P elt t cond af) s).bind dP) af else .bad:=by rw[ev];rfl
@[simp] theorem KH:ev P k (.gp it) fr=(bR P true it fr).bind λs af=>R.of (dP s) af:=by rw[ev]
@[simp] theorem Gf{kvs:List (D×D)}:ev P k (.iO kvs a) fr=(ev P true a fr).bind λx af=>R.of (ee x kvs) af:=by rw[ev]
@[simp] theorem KI:ev P k (.gZ a) fr=(ev P true a fr).bind λx af=>R.of (toT x) af:=by rw[ev]
@[simp] theorem Gg:bV P k .nil fr=.ok [] fr:=by rw[bV]
@[simp] theorem Cn:bV P k (.cons a es) fr=(ev P (k&&kf a (fD es)) a fr).bind λd af=>(bV P k es af).bind λds ao=>.ok (d :: ds) ao:=by rw[bV]
@[simp] theorem Gh:fj P .nil fr=.ok [] fr:=by rw[fj]
noncomputable def yd(P:aM)(a:E)(es:Es)(fr:Fr):Option Nat->R (List (Nat ⊕ V))
 |some i=>(fj P es fr).bind λr af=>.ok (.inl i :: r) af
 |none=>(ev P false a fr).bind λd af=>(fj P es af).bind λr ao=>.ok (.inr d :: r) ao
@[simp] theorem ye{i:Nat}:yd P a es fr (some i)=(fj P es fr).bind λr af=>.ok (.inl i :: r) af:=nd rfl
@[simp] theorem yf:yd P a es fr none=(ev P false a fr).bind λd af=>(fj P es af).bind λr ao=>.ok (.inr d :: r) ao:=nd rfl
@[simp] theorem tR:fj P (.cons a es) fr=yd P a es fr (jP fr a):=by rw[fj];cases jP fr a<;>rfl
@[simp] theorem KJ:ff P .no fr=.ok none fr:=by rw[ff]
@[simp] theorem Gi:ff P (.yes a) fr=(ev P true a fr).bind λd af=>R.of ((intOf d).map some) af:=by rw[ff]
@[simp] theorem KL:gI P .no fr=.ok true fr:=by rw[gI]
@[simp] theorem Gj:gI P (.yes a) fr=aE P a fr:=by rw[gI]
@[simp] theorem Ag:aE P (.an a b) fr=(aE P a fr).bind λk af=>if k then aE P b af else .ok false af:=by rw[aE]
@[simp] theorem vY:aE P (.orr a b) fr=(aE P a fr).bind λk af=>if k then .ok true af else aE P b af:=by rw[aE]
@[simp] theorem KN:aE P (.nt a) fr=(aE P a fr).bind λk af=>.ok (!k) af:=by rw[aE]
noncomputable def KO:V->Fr->R Bool:=λx af=>.ok (truthy x) af
@[simp] theorem Gk{x:V}:KO x fr=.ok (truthy x) fr:=nd rfl
@[simp] theorem Gm:bR P k (.seq a) fr=(src k fr a (ev P k a fr)).bind λx af=>R.of (fO x) af:=by rw[bR]
@[simp] theorem Gn:bR P k (.fY es) fr=(bV P true es fr).bind λds af=>R.of (ef ds) af:=by rw[bR]
@[simp] theorem Cp:bR P k (.ji a) fr=(ev P true a fr).bind λx af=>R.of (B3 x) af:=by rw[bR]
@[simp] theorem Cq:bR P k (.jj a b) fr=(ev P (kf a (bC b)) a fr).bind λx af=>(ev P true b af).bind λy ao=>R.of (xW x y) ao:=by rw[bR]
@[simp] theorem Gp:bR P k (.rev a) fr=(ev P true a fr).bind λx af=>R.of ((xV x).map λs=>s.reverse) af:=by rw[bR]
noncomputable def KP(i:Nat)(af:Fr):V->R Fl
 |.lst l=>(R.of (put af i (.own l)) af).bind λao _=>.ok .nx ao
 |_=>.bad
@[simp] theorem Cr{i:Nat}{l:List V}:KP i fr (.lst l)=(R.of (put fr i (.own l)) fr).bind λao _=>.ok .nx ao:=nd rfl
@[simp] theorem Ah{i:Nat}:ex P w (.set i a) fr=(ev P false a fr).bind λx af=>if isNew a then KP i af x else (R.of (put af i (.val x)) af).bind λao _=>.ok .nx ao:=by
 rw[ex];rfl
@[simp] theorem KQ:ex P w (.exp a) fr=(ev P true a fr).bind λ_ af=>.ok .nx af:=by rw[ex]
@[simp] theorem KR:ex P w (.ret a) fr=(ev P false a (fh fr)).bind λx af=>.ok (.ret x) af:=by rw[ex]
@[simp] theorem KS:ex P w (.iff a sa sb) fr=(aE P a fr).bind λk af=>if k then exs P w sa af else exs P w sb af:=by rw[ex]
noncomputable def turnF(P:aM)(w:Nat)(t:T)(b:Ss):V->Fr->R Fl:=λd ao=>match bY t d ao with
 |some cE=>exs P w b cE
 |none=>.bad
@[simp] theorem sL{t:T}:ex P w (.for t it ss) fr=(bR P false it (rK (itv it) fr)).bind λs af=>forL (turnF P w t ss) s af:=by rw[ex];rfl
@[simp] theorem KU:ex P w (.lu a ss) fr=dD (λao=>aE P a ao) (λao=>exs P w ss ao) w fr:=by rw[ex]
@[simp] theorem Gq:exs P w .nil fr=.ok .nx fr:=by rw[exs]
noncomputable def NH(P:aM)(w:Nat)(ss:Ss):Fl->Fr->R Fl:=λp h1=>match p with
 |.nx=>exs P w ss h1
 |p=>.ok p h1
@[simp] theorem Cs:exs P w (.cons st ss) fr=(ex P w st fr).bind (NH P w ss):=by rw[exs];rfl
end
def lR{P:aM}{f:Nat}{vs:List V}{fr:Fr}{v:V}(h:P f (vs.map .val)=some (v,[])):cX P f (vs.map .inr) fr=.ok v fr:=by
 have h1:∀vs:List V,bH (vs.map .inr)=[]:=λvs=>by induction vs<;>simp[bH, *]
 have h2:∀vs:List V,args fr (vs.map .inr)=some (vs.map .val):=λvs=>by induction vs<;>simp[args, *]
 simp[cX,h1,h2,h,back]
section
variable{P:aM}{f:Nat}{fr:Fr}{a b c v:V}
def dj(h:P f [.val a]=some (v,[])):cX P f [.inr a] fr=.ok v fr:=lR (vs:=[a]) h
def call2(h:P f [.val a,.val b]=some (v,[])):cX P f [.inr a,.inr b] fr=.ok v fr:=lR (vs:=[a,b]) h
def eS(h:P f [.val a,.val b,.val c]=some (v,[])):cX P f [.inr a,.inr b,.inr c] fr=.ok v fr:=lR (vs:=[a,b,c]) h
end
section
variable{fr:Fr}{i:Nat}{k:Bool}{s:Sl}{v:V}{l:List V}
noncomputable def Uz(k:Bool):Option (Option Sl)->Option V
 |some (some (.val v))=>some v
 |some (some (.own l))=>if k then some (.lst l)else none
 |some (some (.bor l))=>if k then some (.lst l)else none
 |some (some (.ro l))=>if k then some (.lst l)else none
 |_=>none
@[simp] theorem NI{r:R V}:src k fr (.v i) r=R.of (xX k fr i) fr:=nd rfl
noncomputable def KW:Option (Option Sl)->Option Sl
 |some (some s)=>s.lend
 |_=>none
@[simp] theorem Gr:lent fr i=KW fr[i]?:=by unfold lent KW;split<;>simp_all
@[simp] theorem Sv:KW (some (some (.own l)))=some (.bor l):=nd rfl
noncomputable def KY(fr:Fr)(i:Nat)(s:Sl):Option (Option Sl)->Option Fr
 |some (some (.bor _))=>none
 |some (some (.ro _))=>none
 |_=>some (fr.set i (some s))
@[simp] theorem KZ:put fr i s=KY fr i s fr[i]?:=by unfold put KY;split<;>simp_all
@[simp] theorem yg{l:List Nat}{x:List V}:bY (.many l) (.tup x) fr=cC l x fr:=nd rfl
@[simp] theorem yh:cC [] [] fr=some fr:=nd rfl
@[simp] theorem uR{l:List Nat}{x:List V}:cC (i :: l) (v :: x) fr=(put fr i (.val v)).bind (cC l x):=nd rfl
noncomputable def gx(m:ME)(i:Nat)(ds:List V)(fr:Fr):Option (Option Sl)->R V
 |some (some (.own l))=>match jw m l ds with
  |some (v,l')=>.ok v (fr.set i (some (.own l')))
  |none=>.bad
 |some (some (.bor l))=>match jw m l ds with
  |some (v,l')=>.ok v (fr.set i (some (.bor l')))
  |none=>.bad
 |_=>.bad
@[simp] theorem Gs{m:ME}{ds:List V}:Cm m i ds fr=gx m i ds fr fr[i]?:=by unfold Cm gx;split<;>simp_all<;>rfl
def fP{d:V}(h:l.length<100000):gx .append i [d] fr (some (some (.own l)))=.ok .bA (fr.set i (some (.own (l++[d])))):=by
 simp[gx,jw,MC h (show 100000<=big by decide)]
def Gu{d:V}(h:l.length<100000):gx .append i [d] fr (some (some (.bor l)))=.ok .bA (fr.set i (some (.bor (l++[d])))):=by
 simp[gx,jw,MC h (show 100000<=big by decide)]
def vZ{d:List V}(h:l.length+d.length<=100000):gx .extend i [.lst d] fr (some (some (.own l)))=.ok .bA (fr.set i (some (.own (l++d)))):=by
 simp[gx,jw,cj h]
def v5:gx .pop i [] fr (some (some (.own (l++[v]))))=.ok v (fr.set i (some (.own l))):=by
 simp[gx,jw]
def Gv:gx .pop i [] fr (some (some (.bor (l++[v]))))=.ok v (fr.set i (some (.bor l))):=by
 simp[gx,jw]
end
noncomputable def vo(o:Option Sl):Prop:=o=none\/∃y,o=some (.val y)
theorem vo.none:vo none:=.inl rfl
theorem vo.val{v:V}:vo (some (.val v)):=.inr ⟨v,rfl⟩
def K0{fr:Fr}{i:Nat}{s:Sl}{b:Option Sl}(h:vo b):KY fr i s (some b)=some (fr.set i (some s)):=by rcases h with rfl|⟨y,rfl⟩<;>rfl
def cP{b:Option Sl}(h:vo b):b.map Sl.ek=b:=by rcases h with rfl|⟨y,rfl⟩<;>rfl
def tS{α:Type}{l:List α}{i:Int}(h0:0<=i):bx l i=l[i.toNat]?:=by
 unfold bx cR;rw[GQ h0];split
 .rfl
 .rw[WK (by omega)];rfl
@[simp] theorem jM{α:Type}{l:List α}{n:Nat}:bx l (n:Int)=l[n]?:=by rw[tS (by omega)];simp
def K1{α:Type}{l:List α}:bx l (-1:Int)=l.getLast?:=by
 unfold bx cR;cases l with
 |nil=>rfl
 |cons a l=>
  have h1:¬ (0:Int)<=-1:=by omega
  have h2:-(((a :: l).length:Nat):Int)<=-1:=by simp;omega
  rw[Us h1,GQ h2,List.getLast?_eq_getElem?];simp only[Option.bind]
  congr 1
  simp;omega
noncomputable def rN:Fn:=⟨2,2,(.cons (.iff (.cmp .eq (.v 0) (.lst .nil)) (.cons (.ret (.bin .mul (.c (.int 7)) (.v 1))) .nil) .nil) (.cons (.ret (.bin .add (.ix (.v 0) (.bin .mod (.v 1) (.bi .len (.cons (.v 0) .nil)))) (.bin .mul (.c (.int 6553)) (.bin .fdiv (.v 1) (.bi .len (.cons (.v 0) .nil)))))) .nil))⟩
noncomputable def tT(c:Nat):Fn:=⟨3,4,(.cons (.set 3 (.bin .mod (.bin .add (.bin .mul (.bin .mod (.cl c (.cons (.v 0) (.cons (.v 1) .nil))) (.c (.int 2147483563))) (.c (.int 69069))) (.bin .mul (.c (.int 104723)) (.bin .add (.v 1) (.c (.int 1))))) (.c (.int 2147483563)))) (.cons (.set 3 (.bin .mod (.bin .add (.bin .mul (.v 3) (.v 3)) (.bin .fdiv (.v 3) (.c (.int 3)))) (.c (.int 2147483399)))) (.cons (.ret (.bin .mod (.bin .fdiv (.bin .mod (.bin .add (.bin .mul (.v 3) (.v 3)) (.bin .fdiv (.v 3) (.c (.int 7)))) (.c (.int 2147483647))) (.c (.int 11))) (.v 2))) .nil)))⟩
noncomputable def rO(ns:List Int)(k:Int):Int:=if ns=[]then 7*k else (ns[(k % ns.length).toNat]?.getD 0)+6553*(k / ns.length)
noncomputable def cH(ns:List Int)(k many:Int):Int:=
 let c:=(rO ns k % 2147483563*69069+104723*(k+1)) % 2147483563
 let c:=(c*c+c / 3) % 2147483399
 (c*c+c / 7) % 2147483647 / 11 % many
def jV(ns:List Int)(k:Int){many:Int}(h:0<many):0<=cH ns k many:=X3 _ (by omega)
def jW(ns:List Int)(k:Int){many:Int}(h:0<many):cH ns k many<many:=Xy _ h
noncomputable def gP(ns:List Int):V:=.bO (ns.map V.int)
def Gw(ns:List Int):cg (dF (18+1)) (ns.map V.int) []=some (decide (ns=[])):=by cases ns<;>simp
section
variable{P:aM}{w:Nat}{fr af ao cE:Fr}{k b:Bool}{a e c:E}{es:Es}{ss sa sb:Ss}{st:S}{lo hi:Eo}{it:It}{v x y z:V}{vs:List V}{i:Nat}{l:List V}{Q:Fl->Fr->Prop}
def bD{d:D}(h:ofD d=some v):ev P k (.c d) fr=.ok v fr:=by rw[Ry,h];rfl
def au(h:nA k fr i=some v):ev P k (.v i) fr=.ok v fr:=by rw[Rz,h];rfl
def gQ(h:bV P false es fr=.ok vs af)(h2:fV vs=some v):ev P k (.tup es) fr=.ok v af:=by rw[Ks,h,ak,h2];rfl
def oU(h:bV P false es fr=.ok vs af)(h2:dP vs=some v):ev P k (.lst es) fr=.ok v af:=by rw[Ku,h,ak,h2];rfl
def aV{o:br}(h:ev P (kf a (bC e)) a fr=.ok x af)(h2:ev P true e af=.ok y ao)(h3:bP o x y=some v):ev P k (.bin o a e) fr=.ok v ao:=by rw[Kv,h,ak,h2,ak,h3];rfl
def bN{o:aZ}(h:ev P (kf a (bC e)) a fr=.ok x af)(h2:ev P true e af=.ok y ao)(h3:cop o x y=some b):ev P k (.cmp o a e) fr=.ok (.bl b) ao:=by rw[Kw,h,ak,h2,ak,h3];rfl
def RB(h:ev P true a fr=.ok (.bl b) af):ev P k (.nt a) fr=.ok (.bl (!b)) af:=by rw[Ny,h];rfl
def rP{j:Int}(h:ev P true a fr=.ok (.int j) af):ev P k (.neg a) fr=.ok (.int (-j)) af:=by rw[Ky,h];rfl
def NJ(h:ev P true a fr=.ok (.bl true) af)(h2:ev P k e af=.ok v ao):ev P k (.an a e) fr=.ok v ao:=by rw[Nz,h,ak,Kz];exact h2
def Eb(h:aE P a fr=.ok b af)(h2:b=true->ev P k e af=.ok v ao)(h3:b=false->ev P k c af=.ok v ao):ev P k (.kM a e c) fr=.ok v ao:=by
 rw[KA,h,ak];cases b with
 |true=>exact h2 rfl
 |false=>exact h3 rfl
def dN(h:ev P (kf a (bC e)) a fr=.ok x af)(h2:ev P true e af=.ok y ao)(h3:dY x y=some v):ev P k (.ix a e) fr=.ok v ao:=by rw[NB,h,ak,h2,ak,h3];rfl
def tU{p q:Option Int}(h:ev P (kf a (jD lo++jD hi)) a fr=.ok x af)(h2:ff P lo af=.ok p ao)(h3:ff P hi ao=.ok q cE)(h4:fC x p q=some v):ev P k (.sl a lo hi) fr=.ok v cE:=by rw[NC,h,ak,h2,ak,h3,ak,h4];rfl
def NK(h:ev P true a fr=.ok x af)(h2:qc x=some v):ev P k (.kN a) fr=.ok v af:=by rw[KC,h,ak,h2];rfl
def Ct(h:ev P true a fr=.ok x af)(h2:kO x=some v):ev P k (.rv a) fr=.ok v af:=by rw[ND,h,ak,h2];rfl
def aY{f:Nat}{as:List (Nat ⊕ V)}(h:fj P es fr=.ok as af)(h2:cX P f as af=.ok v ao):ev P k (.cl f es) fr=.ok v ao:=by rw[NF,h,ak];exact h2
def dO{g:BI}(h:bV P true es fr=.ok vs af)(h2:dw g vs=some v):ev P k (.bi g es) fr=.ok v af:=by rw[NG,h,ak,h2];rfl
def ko{m:ME}(hm:iC m=true)(hl:(lent fr i).isSome=true)(h:bV P (zR m) es fr=.ok vs af)(h2:gx m i vs af af[i]?=.ok v ao):ev P k (.me m (.v i) es) fr=.ok v ao:=by
 rw[KD hm,GQ hl,h,ak,Gs];exact h2
def Ec{m:ME}(hm:iC m=false)(h:ev P (kf a (fD es)) a fr=.ok x af)(h2:bV P true es af=.ok vs ao)(h3:eK m x vs=some v):ev P k (.me m a es) fr=.ok v ao:=by rw[KG hm,h,ak,h2,ak,h3];rfl
def tV{t:T}{cond:Eo}(h:bR P true it fr=.ok vs af)(hu:undef t af=true)(h2:cJ (kj P a t cond af) vs=some l)(h3:dP l=some v):ev P k (.comp a t it cond) fr=.ok v af:=by
 rw[pU,h,ak,GQ hu,h2];show R.of (dP l) af=_;rw[h3];rfl
def rQ(h:bR P true it fr=.ok vs af)(h2:dP vs=some v):ev P k (.gp it) fr=.ok v af:=by rw[KH,h,ak,h2];rfl
def Ai{kvs:List (D×D)}(h:ev P true a fr=.ok x af)(h2:ee x kvs=some v):ev P k (.iO kvs a) fr=.ok v af:=by rw[Gf,h,ak,h2];rfl
def oV(h:ev P true a fr=.ok x af)(h2:toT x=some v):ev P k (.gZ a) fr=.ok v af:=by rw[KI,h,ak,h2];rfl
def aP:bV P k .nil fr=.ok [] fr:=Gg
def aB(h:ev P (k&&kf a (fD es)) a fr=.ok v af)(h2:bV P k es af=.ok vs ao):bV P k (.cons a es) fr=.ok (v :: vs) ao:=by rw[Cn,h,ak,h2];rfl
def aG:fj P .nil fr=.ok [] fr:=Gh
def ay{as:List (Nat ⊕ V)}(hi:jP fr a=none)(h:ev P false a fr=.ok v af)(h2:fj P es af=.ok as ao):fj P (.cons a es) fr=.ok (.inr v :: as) ao:=by rw[tR,hi,yf,h,ak,h2];rfl
def RC{as:List (Nat ⊕ V)}(hi:jP fr a=some i)(h2:fj P es fr=.ok as ao):fj P (.cons a es) fr=.ok (.inl i :: as) ao:=by rw[tR,hi,ye,h2];rfl
def oW:ff P .no fr=.ok none fr:=KJ
def lS{j:Int}(h:ev P true a fr=.ok (.int j) af):ff P (.yes a) fr=.ok (some j) af:=by rw[Gi,h];rfl
def jX(h:aE P a fr=.ok false af):aE P (.an a e) fr=.ok false af:=by rw[Ag,h];rfl
def dH{b2:Bool}(h:aE P a fr=.ok true af)(h2:aE P e af=.ok b2 ao):aE P (.an a e) fr=.ok b2 ao:=by rw[Ag,h];exact h2
def tW(h:aE P a fr=.ok true af):aE P (.orr a e) fr=.ok true af:=by rw[vY,h];rfl
def dI{b2:Bool}(h:aE P a fr=.ok false af)(h2:aE P e af=.ok b2 ao):aE P (.orr a e) fr=.ok b2 ao:=by rw[vY,h];exact h2
def Ed(h:aE P a fr=.ok b af):aE P (.nt a) fr=.ok (!b) af:=by rw[KN,h];rfl
noncomputable def plainT:E->Bool
 |.an _ _=>false
 |.orr _ _=>false
 |.nt _=>false
 |_=>true
def aJ(hp:plainT a=true)(h:ev P true a fr=.ok x af)(h2:truthy x=b):aE P a fr=.ok b af:=by
 have:aE P a fr=(ev P true a fr).bind KO:=by
  cases a<;>first | (cases hp;done) | (rw[aE];rfl;all_goals (intros;contradiction))
 rw[this,h,ak,Gk,h2]
def iK(h:src k fr a (ev P k a fr)=.ok x af)(h2:fO x=some vs):bR P k (.seq a) fr=.ok vs af:=by rw[Gm,h,ak,h2];rfl
def jd(h:xX k fr i=some v){r:R V}:src k fr (.v i) r=.ok v fr:=by rw[NI,h];rfl
def tX(h:bV P true es fr=.ok vs af)(h2:ef vs=some l):bR P k (.fY es) fr=.ok l af:=by rw[Gn,h,ak,h2];rfl
def Gx{l:List Nat}(h:ev P true a fr=.ok (.str l) af):bR P k (.ji a) fr=.ok (cy 0 (jO l)) af:=by rw[Cp,h,ak];rfl
def Gy{l m:List Nat}(h:ev P (kf a (bC e)) a fr=.ok (.str l) af)(h2:ev P true e af=.ok (.str m) ao):bR P k (.jj a e) fr=.ok (cZ (jO l) (jO m)) ao:=by rw[Cq,h,ak,h2,ak];rfl
def Aj(h:ev P true a fr=.ok x af)(h2:xV x=some vs):bR P k (.rev a) fr=.ok vs.reverse af:=by rw[Gp,h,ak,h2];rfl
def aU(h:ev P false a fr=.ok v af)(hn:isNew a=false)(hp:put af i (.val v)=some ao)(q:Q .nx ao):Wp (ex P w (.set i a) fr) Q:=by
 rw[Ah,h,ak,hn,hp];exact⟨_,_,rfl,q⟩
def gR(h:ev P false a fr=.ok (.lst l) af)(hn:isNew a=true)(hp:put af i (.own l)=some ao)(q:Q .nx ao):Wp (ex P w (.set i a) fr) Q:=by
 rw[Ah,h,ak,hn,GQ rfl,Cr,hp];exact⟨_,_,rfl,q⟩
def dQ(h:ev P true a fr=.ok v af)(q:Q .nx af):Wp (ex P w (.exp a) fr) Q:=by rw[KQ,h];exact⟨_,_,rfl,q⟩
def bJ(h:ev P false a (fh fr)=.ok v af)(q:Q (.ret v) af):Wp (ex P w (.ret a) fr) Q:=by rw[KR,h];exact⟨_,_,rfl,q⟩
def aH(h:aE P a fr=.ok b af)(h2:b=true->Wp (exs P w sa af) Q)(h3:b=false->Wp (exs P w sb af) Q):Wp (ex P w (.iff a sa sb) fr) Q:=by
 rw[KS,h,ak];cases b with
 |true=>exact h2 rfl
 |false=>exact h3 rfl
def av(q:Q .nx fr):Wp (exs P w .nil fr) Q:=by rw[Gq];exact⟨_,_,rfl,q⟩
noncomputable def nx(P:aM)(w:Nat)(ss:Ss)(Q:Fl->Fr->Prop):Fl->Fr->Prop
 |.nx,fr=>Wp (exs P w ss fr) Q
 |g,fr=>Q g fr
def ai(q:Wp (ex P w st fr) (nx P w ss Q)):Wp (exs P w (.cons st ss) fr) Q:=by
 rw[Cs,wp_bind];refine q.mono λg af z=>?_;cases g with
 |nx=>exact z
 |bk=>exact⟨_,_,rfl,z⟩
 |ct=>exact⟨_,_,rfl,z⟩
 |ret v=>exact⟨_,_,rfl,z⟩
def iX{t:T}(h:bR P false it (rK (itv it) fr)=.ok vs af)(q:Wp (forL (turnF P w t ss) vs af) Q):Wp (ex P w (.for t it ss) fr) Q:=by rw[sL,h,ak];exact q
def Ef(q:Wp (dD (λao=>aE P a ao) (λao=>exs P w ss ao) w fr) Q):Wp (ex P w (.lu a ss) fr) Q:=by rw[KU];exact q
def dg{t:T}{d:V}(hb:bY t d fr=some af)(q:Wp (exs P w ss af) Q):Wp (turnF P w t ss d fr) Q:=by unfold turnF;rw[hb];exact q
def Ak{t:T}{d:V}(hb:bY t d (q9 fr)=some af)(h:ev P false a af=.ok v ao):kj P a t .no fr d=some (some v):=by
 unfold kj;rw[hb];dsimp only;rw[KL];dsimp only;rw[h];rfl
def Gz{t:T}{d:V}(hb:bY t d (q9 fr)=some af)(h:aE P c af=.ok b ao)(h2:b=true->ev P false a af=.ok v cE):kj P a t (.yes c) fr d=some (if b then some v else none):=by
 unfold kj;rw[hb];dsimp only;rw[Gj,h];dsimp only;cases b with
 |true=>rw[h2 rfl];rfl
 |false=>rfl
def lT{p q:List Nat}:cop .eq (.str p) (.str q)=some (decide (p=q)):=vR
def fq{p q:List Nat}:cop .ne (.str p) (.str q)=some (!decide (p=q)):=by rw[oO,vR];rfl
def Cu{p q:Int}:cop .eq (.int p) (.int q)=some (decide (p=q)):=vQ
def mL{p q:Int}:cop .ne (.int p) (.int q)=some (!decide (p=q)):=by rw[oO,vQ];rfl
def tY{p q:Int}:cop .lt (.int p) (.int q)=some (decide (p<q)):=rfl
def qh{p q:Int}:cop .gt (.int p) (.int q)=some (decide (q<p)):=rfl
def mP{p q:Int}(h:bM p q=true):bP .mul (.int p) (.int q)=some (.int (p*q)):=by rw[nD,GQ h]
def kq{p q:Int}(h:0<q):bP .mod (.int p) (.int q)=some (.int (p % q)):=by rw[FY,GQ h]
def rR{p q:Int}(h:0<q)(h2:q<1073741824):bP .fdiv (.int p) (.int q)=some (.int (p / q)):=by rw[Ck,GQ ⟨h,h2⟩]
end
def iL{fr:Fr}{i:Nat}{s:Sl}{o:Option Sl}(e:fr[i]?=some o)(h:vo o):put fr i s=some (fr.set i (some s)):=by rw[KZ,e,K0 h]
def jx{fr:Fr}{i j:Nat}{u v:V}{a b:Option Sl}(ea:fr[i]?=some a)(ha:vo a)(eb:(fr.set i (some (.val u)))[j]?=some b)(hb:vo b):bY (.many [i,j]) (.tup [u,v]) fr=some ((fr.set i (some (.val u))).set j (some (.val v))):=by
 simp only[yg,uR,yh,iL ea ha,Option.bind,iL eb hb]
def bind1{fr:Fr}{i:Nat}{v:V}{a:Option Sl}(ea:fr[i]?=some a)(ha:vo a):bY (.one i) v fr=some (fr.set i (some (.val v))):=iL ea ha
end Pv
local macro_rules|`(tactic|array_get_dec)=>`(tactic|first
 |exact Pv.aP|exact Pv.aG|exact Pv.oW
 | (apply Pv.au;rfl) | (apply Pv.bD;rfl)|apply Pv.aV|apply Pv.bN|apply Pv.gQ|apply Pv.oU|apply Pv.dN|apply Pv.tU|apply Pv.aY|apply Pv.dO
 |apply Pv.RB|apply Pv.rP|apply Pv.oV|apply Pv.rQ|apply Pv.Ct | (apply Pv.ko rfl rfl) | (apply Pv.Ec rfl)|apply Pv.Ai
 |apply Pv.aB | (apply Pv.ay rfl) | (apply Pv.RC rfl)|apply Pv.lS|apply Pv.Ed|apply Pv.aJ rfl
 |exact Pv.Nu|exact Pv.rM|exact Pv.mK|exact Pv.x9|exact Pv.x6|exact Pv.x8|exact Pv.Nv
 | (with_reducible assumption)|exact Pv.cK|exact Pv.gj|exact Pv.lT|exact Pv.fq|exact Pv.Cu|exact Pv.mL|exact Pv.tY  | exact Pv.qh
 | (show Pv.truthy _=_;rfl) | (show Pv.dY _ _=some _;rfl) | (show Pv.toT _=some _;rfl) | (show Pv.ee _ _=some _;rfl) | (show Pv.fO _=some _;rfl)|assumption)
namespace Pv
open Ev (D br aZ TY BI ME T E Es Eo It S Ss Fn big deep b2i rep bM cR bx aL cut bT cI slots)
def K2(a b:Int):bM (a % 2147483563) b=true:=by have h1:=X3 a (b:=2147483563) (by decide);have h2:=Xy a (b:=2147483563) (by decide);simp[bM];omega
def RD(a b:Int):bM (a % 2147483399) b=true:=by have h1:=X3 a (b:=2147483399) (by decide);have h2:=Xy a (b:=2147483399) (by decide);simp[bM];omega
def K3{l:List V}{j:Int}{v:V}(h:bx l j=some v):dY (.bO l) (.int j)=some v:=h
def K4{l m:List V}:cop .eq (.bO l) (.lst m)=cg (dF (18+1)) l m:=rfl
def Cv{F:List Fn}{w n c:Nat}(hc:F[c]?=some rN){ns:List Int}(hn:ns.length<=63)(k:Int):run F w (n+1) c [.val (gP ns),.val (.int k)]=some (.int (rO ns k),[]):=by
 refine bW hc rfl (ai (aH (b:=decide (ns=[])) (aJ rfl (bN (au rfl) (oU aP x6) (K4.trans (Gw ns))) rfl) (λh=>?_) λh=>av ?_))
 .have h0:=Wz h;exact ai (bJ (aV (bD rfl) (au rfl) (mP rfl)) ⟨by rw[rO,GQ h0],rfl⟩)
 .have h0:=WY h;have hlen:0<ns.length:=List.length_pos_iff.mpr h0;have PL:(0:Int)<(ns.map V.int).length:=by rw[Wa];exact Int.natCast_pos.mpr hlen
  have h30:((ns.map V.int).length:Int)<1073741824:=by rw[Wa];omega
  have hm0:=X3 k (b:=(ns.length:Int)) (by omega);have hlt:(k % (ns.length:Int)).toNat<ns.length:=by have:=Xy k (b:=(ns.length:Int)) (by omega);omega
  have hx:bx (ns.map V.int) (k % ((ns.map V.int).length:Int))=some (.int (ns[(k % (ns.length:Int)).toNat]?.getD 0)):=by
   rw[Wa,tS hm0,We,T7 hlt];rfl
  refine ai (bJ (aV (dN (au rfl) (aV (au rfl) (dO (aB (au rfl) aP) vW) (kq PL)) (K3 hx)) (aV (bD rfl) (aV (au rfl) (dO (aB (au rfl) aP) vW) (rR PL h30)) (mP rfl)) cK) ⟨?_,rfl⟩);rw[rO,Us h0,Wa]
def gy{F:List Fn}{w n c dr:Nat}(hc:F[c]?=some rN)(hd:F[dr]?=some (tT c)){ns:List Int}(hn:ns.length<=63)(k:Int){many:Int}(hm:0<many):run F w (n+2) dr [.val (gP ns),.val (.int k),.val (.int many)]=some (.int (cH ns k many),[]):=by
 refine bW hd rfl (ai (aU (aV (aV (aV (aV (aY (ay rfl (au rfl) (ay rfl (au rfl) aG)) (call2 (Cv hc hn k))) (bD rfl) (kq (by decide))) (bD rfl) (mP (K2 _ _))) (aV (bD rfl) (aV (au rfl) (bD rfl) cK) (mP rfl)) cK) (bD rfl) (kq (by decide))) rfl rfl ?_));refine ai (aU (aV (aV (aV (au rfl) (au rfl) (mP (K2 _ _))) (aV (au rfl) (bD rfl) (rR (by decide) (by decide))) cK) (bD rfl) (kq (by decide))) rfl rfl ?_);exact ai (bJ (aV (aV (aV (aV (aV (au rfl) (au rfl) (mP (RD _ _))) (aV (au rfl) (bD rfl) (rR (by decide) (by decide))) cK) (bD rfl) (kq (by decide))) (bD rfl) (rR (by decide) (by decide))) (au rfl) (kq hm)) ⟨rfl,rfl⟩)
noncomputable def fText(dr:Nat):Fn:=⟨3,4,(.cons (.ret (.me .join (.c (.str [])) (.cons (.comp (.ix (.c (.str [97,98,99,32])) (.cl dr (.cons (.v 0) (.cons (.bin .add (.bin .add (.v 1) (.c (.int 1))) (.v 3)) (.cons (.c (.int 4)) .nil))))) (.one 3) (.fY (.cons (.cl dr (.cons (.v 0) (.cons (.v 1) (.cons (.bin .add (.v 2) (.c (.int 1))) .nil)))) .nil)) .no) .nil))) .nil)⟩
noncomputable def Eg(dr:Nat):S:=.iff (.cmp .eq (.cl dr (.cons (.v 0) (.cons (.bin .add (.v 1) (.bin .mul (.c (.int 4)) (.v 4))) (.cons (.c (.int 4)) .nil)))) (.c (.int 0))) (.cons (.set 5 (.bin .mul (.ix (.c (.str [97,98,122])) (.cl dr (.cons (.v 0) (.cons (.bin .add (.bin .add (.v 1) (.bin .mul (.c (.int 4)) (.v 4))) (.c (.int 1))) (.cons (.c (.int 3)) .nil))))) (.bin .add (.c (.int 1)) (.cl dr (.cons (.v 0) (.cons (.bin .add (.bin .add (.v 1) (.bin .mul (.c (.int 4)) (.v 4))) (.c (.int 2))) (.cons (.c (.int 2)) .nil))))))) (.cons (.set 3 (.bin .add (.v 3) (.tup (.cons (.tup (.cons (.c (.str [112,117,116])) (.cons (.v 5) .nil))) .nil)))) .nil)) .nil
noncomputable def Eh(dr:Nat):S:=.iff (.cmp .lt (.v 4) (.bi .len (.cons (.v 2) .nil))) (.cons (.set 6 (.cmp .gt (.cl dr (.cons (.v 0) (.cons (.bin .add (.bin .add (.v 1) (.bin .mul (.c (.int 4)) (.v 4))) (.c (.int 3))) (.cons (.c (.int 3)) .nil)))) (.c (.int 0)))) (.cons (.set 3 (.bin .add (.v 3) (.tup (.cons (.kM (.v 6) (.tup (.cons (.c (.str [107,101,101,112])) (.cons (.c (.int 1)) .nil))) (.tup (.cons (.c (.str [100,114,111,112])) (.cons (.ix (.v 2) (.v 4)) .nil)))) .nil)))) .nil)) .nil
noncomputable def GA(dr:Nat):Fn:=⟨3,7,(.cons (.set 3 (.tup .nil)) (.cons (.for (.one 4) (.fY (.cons (.bin .add (.bi .len (.cons (.v 2) .nil)) (.c (.int 1))) .nil)) (.cons (Eg dr) (.cons (Eh dr) .nil))) (.cons (.ret (.v 3)) .nil)))⟩
inductive Pt where
 |keep (n:Nat)|put (s:List Nat)|drop (s:List Nat)
deriving DecidableEq
noncomputable def dm:List Nat:=[107,101,101,112]
noncomputable def kr:List Nat:=[112,117,116]
noncomputable def iY:List Nat:=[100,114,111,112]
noncomputable def Pt.v:Pt->V
 |.keep n=>.tup [.str dm,.int n]
 |.put s=>.tup [.str kr,.str s]
 |.drop s=>.tup [.str iY,.str s]
noncomputable def aO(c:List Pt):V:=.tup (c.map Pt.v)
def K5(n:Nat)(a b:Pt):dF (n+2) a.v b.v=some (decide (a=b)):=by
 cases a<;>cases b<;>simp[Pt.v,dm,kr,iY]
 all_goals omega
def An(a b:List Pt):dF deep (aO a) (aO b)=some (decide (a=b)):=by
 simp only[aO,Ga];exact vS (λa b=>K5 17 a b) a b
noncomputable def txt(ns:List Int)(at_ most:Int):List Nat:=(List.range (cH ns at_ (most+1)).toNat).map λ(k:Nat)=>[97,98,99,32].getD (cH ns (at_+1+k) 4).toNat 0
def qi(ns:List Int)(at_:Int){most:Int}(h:0<=most):(txt ns at_ most).length<=most.toNat:=by
 unfold txt;have h1:=jW ns at_ (many:=most+1) (by omega);have h2:=jV ns at_ (many:=most+1) (by omega);simp;omega
def getD_at{α:Type}{l:List α}{i:Int}(h0:0<=i)(h1:i<l.length)(d:α):bx l i=some (l.getD i.toNat d):=by
 have:i.toNat<l.length:=by omega
 rw[tS h0];simp[List.getD,T7 this]
def m9{α β:Type}(l:List α)(f:α->β):(l.map λx=>[f x]).flatten=l.map f:=by induction l<;>simp[*]
def Ao(lo:Int)(n:Nat):range lo n=(List.range n).map λ(i:Nat)=>V.int (lo+i):=rfl
section
variable{F:List Fn}{w n c dr t:Nat}(hc:F[c]?=some rN)(hd:F[dr]?=some (tT c)){ns:List Int}(hn:ns.length<=63)
include hc hd hn
theorem nE(ht:F[t]?=some (fText dr))(k most:Int)(hm:0<=most)(hm2:most<=1000):run F w (n+3) t [.val (gP ns),.val (.int k),.val (.int most)]=some (.str (txt ns k most),[]):=by
 have b0:=jV ns k (many:=most+1) (by omega);have b1:=jW ns k (many:=most+1) (by omega);have d0:=λfr=>eS (fr:=fr) (gy (w:=w) (n:=n) hc hd hn k (many:=most+1) (by omega));have NL:cJ (kj (run F w (n+2)) (.ix (.c (.str [97,98,99,32])) (.cl dr (.cons (.v 0) (.cons (.bin .add (.bin .add (.v 1) (.c (.int 1))) (.v 3)) (.cons (.c (.int 4)) .nil))))) (.one 3) .no [some (.val (gP ns)),some (.val (.int k)),some (.val (.int most)),none]) (range 0 (cH ns k (most+1)).toNat)=some (((List.range (cH ns k (most+1)).toNat).map λ(j:Nat)=>[[97,98,99,32].getD (cH ns (k+1+j) 4).toNat 0]).map V.str):=by
  rw[Ao,Xw];refine rm _ _ _ λj _=>?_;have d1:=λfr=>eS (fr:=fr) (gy (w:=w) (n:=n) hc hd hn (k+1+j) (many:=4) (by decide));have ix:dY (.str [97,98,99,32]) (.int (cH ns (k+1+j) 4))=some (.str [[97,98,99,32].getD (cH ns (k+1+j) 4).toNat 0]):=by
   rw[jU,getD_at (l:=[97,98,99,32]) (jV ns (k+1+j) (many:=4) (by decide)) (jW ns (k+1+j) (many:=4) (by decide)) 0];rfl
  rw[show(0:Int)+(j:Int)=j from Zc _];exact Ak rfl (by (repeat (first|array_get_dec|exact d1 _)))
 have hj:=Ea (l:=(List.range (cH ns k (most+1)).toNat).map λ(j:Nat)=>[[97,98,99,32].getD (cH ns (k+1+j) 4).toNat 0]) (by rw[m9];simp;omega);rw[m9]at hj;have TV:dP (((List.range (cH ns k (most+1)).toNat).map λ(j:Nat)=>[[97,98,99,32].getD (cH ns (k+1+j) 4).toNat 0]).map V.str)=some (.lst _):=gb (cj (by simp;omega));have rg:=Kr b0 (show cH ns k (most+1)<=100000 by omega);refine bW ht rfl (ai (bJ (Ec rfl (bD rfl) (aB (tV (tX (by (repeat (first|array_get_dec|exact d0 _))) rg) rfl NL TV) aP) hj) ⟨rfl,rfl⟩))
end
noncomputable def iZ(ns:List Int)(at_:Int)(s:List Nat)(k:Nat):List Pt:=
 (if cH ns (at_+4*k) 4=0 then [.put (rep (1+cH ns (at_+4*k+2) 2).toNat [[97,98,122].getD (cH ns (at_+4*k+1) 3).toNat 0])]else [])++
 (match s[k]? with
 |some c=>[if 0<cH ns (at_+4*k+3) 3 then .keep 1 else .drop [c]]
 |none=>[])
noncomputable def eT(ns:List Int)(at_:Int)(s:List Nat)(k:Nat):List Pt:=(List.range k).flatMap (iZ ns at_ s)
noncomputable def chg(ns:List Int)(at_:Int)(s:List Nat):List Pt:=eT ns at_ s (s.length+1)
def Aq(ns:List Int)(at_:Int)(s:List Nat)(k:Nat):(iZ ns at_ s k).length<=2:=by
 unfold iZ;split<;>split<;>simp
def ja(ns:List Int)(at_:Int)(s:List Nat)(k:Nat):eT ns at_ s (k+1)=eT ns at_ s k++iZ ns at_ s k:=by simp[eT,WM]
theorem lU(ns:List Int)(at_:Int)(s:List Nat):∀k,(eT ns at_ s k).length<=2*k
 |0=>by simp[eT]
 |k+1=>by
  have h1:=Aq ns at_ s k;have h2:=lU ns at_ s k;rw[ja,VX];omega
def K6(i:Int):bM 4 i=true:=by simp[bM]
def yi{a b:List Pt}(h:a.length+b.length<=100000):bP .add (aO a) (aO b)=some (aO (a++b)):=by
 simp only[aO];rw[Ci (by simpa using h)];simp
def K7{j:Int}{n:Nat}(h:n<=100000)(e:j=n):ef [.int j]=some (range 0 n):=by
 subst e;rw[Kr (by omega) (by omega)];rfl
def GB{a:List Pt}{s:List Nat}(h:a.length<100000):bP .add (aO a) (.tup [.tup [.str [112,117,116],.str s]])=some (aO (a++[.put s])):=yi (a:=a) (b:=[.put s]) (by simp;omega)
def Cw{a:List Pt}{s:List Nat}(h:a.length<100000):bP .add (aO a) (.tup [.tup [.str [100,114,111,112],.str s]])=some (aO (a++[.drop s])):=yi (a:=a) (b:=[.drop s]) (by simp;omega)
def Cy{a:List Pt}(h:a.length<100000):bP .add (aO a) (.tup [.tup [.str [107,101,101,112],.int 1]])=some (aO (a++[.keep 1])):=yi (a:=a) (b:=[.keep 1]) (by simp;omega)
section
variable{F:List Fn}{w n c dr t:Nat}(hc:F[c]?=some rN)(hd:F[dr]?=some (tT c)){ns:List Int}(hn:ns.length<=63)
include hc hd hn
theorem Cz(k:Int)(x:V)(fd:List Pt)(j:Nat)(u v:Option Sl)(hu:vo u)(hfd:fd.length<=10000) :
  Wp (ex (run F w (n+2)) w (Eg dr) [some (.val (gP ns)),some (.val (.int k)),some (.val x),some (.val (aO fd)),some (.val (.int j)),u,v]) λg fr=>g=.nx/\∃b,vo b/\fr=[some (.val (gP ns)),some (.val (.int k)),some (.val x),some (.val (aO (fd++if cH ns (k+4*j) 4=0 then [.put (rep (1+cH ns (k+4*j+2) 2).toNat [[97,98,122].getD (cH ns (k+4*j+1) 3).toNat 0])]else []))),some (.val (.int j)),b,v]:=by
 have d1:=λfr=>eS (fr:=fr) (gy (w:=w) (n:=n) hc hd hn (k+4*j) (many:=4) (by decide));have m4:bP .mul (.int 4) (.int j)=some (.int (4*j)):=by rw[nD,K6];rfl
 refine aH (by (repeat (first|array_get_dec|exact d1 _))) (λh=>?_) λh=>?_
 .have h0:=Wz h;have d2:=λfr=>eS (fr:=fr) (gy (w:=w) (n:=n) hc hd hn (k+4*j+1) (many:=3) (by decide));have d3:=λfr=>eS (fr:=fr) (gy (w:=w) (n:=n) hc hd hn (k+4*j+2) (many:=2) (by decide));have c2:=jV ns (k+4*j+2) (many:=2) (by decide);have c3:=jW ns (k+4*j+2) (many:=2) (by decide);have ix:dY (.str [97,98,122]) (.int (cH ns (k+4*j+1) 3))=some (.str [[97,98,122].getD (cH ns (k+4*j+1) 3).toNat 0]):=by
   rw[jU,getD_at (l:=[97,98,122]) (jV ns (k+4*j+1) (many:=3) (by decide)) (jW ns (k+4*j+1) (many:=3) (by decide)) 0];rfl
  have ml:=Cj (j:=1+cH ns (k+4*j+2) 2) (a:=[[97,98,122].getD (cH ns (k+4*j+1) 3).toNat 0]) (by omega) (by omega) (by simp);have ad:=GB (a:=fd) (s:=rep (1+cH ns (k+4*j+2) 2).toNat [[97,98,122].getD (cH ns (k+4*j+1) 3).toNat 0]) (by omega);refine ai (aU (by (repeat (first|array_get_dec|exact d2 _|exact d3 _))) rfl (iL rfl hu) ?_);refine ai (aU (by repeat array_get_dec) rfl rfl (av ?_));rw[GQ h0];exact⟨rfl,_,.val,rfl⟩
 .have h0:=WY h;rw[Us h0,V8];exact av ⟨rfl,u,hu,rfl⟩
theorem CA(k:Int)(x:List Nat)(hx:x.length<=1000)(fd:List Pt)(j:Nat)(u v:Option Sl)(hv:vo v)(hfd:fd.length<=10000) :
  Wp (ex (run F w (n+2)) w (Eh dr) [some (.val (gP ns)),some (.val (.int k)),some (.val (.str x)),some (.val (aO fd)),some (.val (.int j)),u,v]) λg fr=>g=.nx/\∃b,vo b/\fr=[some (.val (gP ns)),some (.val (.int k)),some (.val (.str x)),some (.val (aO (fd++match x[j]? with
     |some c=>[if 0<cH ns (k+4*j+3) 3 then .keep 1 else .drop [c]]
     |none=>[]))),some (.val (.int j)),u,b]:=by
 have ln:dw .len [.str x]=some (.int (x.length:Nat)):=WQ (by omega);refine aH (by repeat array_get_dec) (λh=>?_) λh=>?_
 .have hlt:j<x.length:=by have:=Wz h;omega
  have d1:=λfr=>eS (fr:=fr) (gy (w:=w) (n:=n) hc hd hn (k+4*j+3) (many:=3) (by decide));have m4:bP .mul (.int 4) (.int j)=some (.int (4*j)):=by rw[nD,K6];rfl
  have hg:x[j]?=some x[j]:=T7 hlt;have ix:dY (.str x) (.int j)=some (.str [x[j]]):=by rw[jU,jM,hg];rfl
  rw[hg];refine ai (aU (by (repeat (first|array_get_dec|exact d1 _))) rfl (iL rfl hv) ?_);by_cases hk:0<cH ns (k+4*j+3) 3
  .have ad:=Cy (a:=fd) (by omega);have ht:truthy (.bl (decide (0<cH ns (k+4*j+3) 3)))=true:=XE hk;refine ai (aU (aV (au rfl) (gQ (aB (Eb (b:=true) (aJ rfl (au rfl) ht) (λ_=>by repeat array_get_dec) λh=>absurd h (by decide)) aP) rM) ad) rfl rfl (av ?_));refine⟨rfl,some (.val (.bl (decide (0<cH ns (k+4*j+3) 3)))),.val,?_⟩;simp only[GQ hk];rfl
  .have ad:=Cw (a:=fd) (s:=[x[j]]) (by omega);have ht:truthy (.bl (decide (0<cH ns (k+4*j+3) 3)))=false:=Wh hk;refine ai (aU (aV (au rfl) (gQ (aB (Eb (b:=false) (aJ rfl (au rfl) ht) (λh=>absurd h (by decide)) λ_=>by repeat array_get_dec) aP) rM) ad) rfl rfl (av ?_));refine⟨rfl,some (.val (.bl (decide (0<cH ns (k+4*j+3) 3)))),.val,?_⟩;simp only[Us hk];rfl
 .have hlt:¬ j<x.length:=by have:=WY h;omega
  rw[WK (by omega),V8];exact av ⟨rfl,v,hv,rfl⟩
theorem yj(ht:F[t]?=some (GA dr))(k:Int)(x:List Nat)(hx:x.length<=1000):run F w (n+3) t [.val (gP ns),.val (.int k),.val (.str x)]=some (aO (chg ns k x),[]):=by
 refine bW ht rfl ?_;have ln:dw .len [.str x]=some (.int (x.length:Nat)):=WQ (by omega);have rg:ef [.int ((x.length:Nat)+1)]=some (range 0 (x.length+1)):=K7 (by omega) (by omega);refine ai (aU (by repeat array_get_dec) rfl rfl ?_);refine ai (iX (tX (aB (aV (dO (aB (au rfl) aP) ln) (bD rfl) cK) aP) rg) ?_);refine Gd (λj fr=>∃a b c,vo a/\vo b/\vo c/\fr=[some (.val (gP ns)),some (.val (.int k)),some (.val (.str x)),some (.val (aO (eT ns k x j))),a,b,c]) (λj fr hj ⟨a,b,c',ha,hb,hc',hfr⟩=>?_) (λfr ⟨a,b,c',ha,hb,hc',hfr⟩=>?_) ⟨none,none,none,.none,.none,.none,rfl⟩
 .subst hfr;have hz:=lU ns k x j;rw[show(0:Int)+(j:Int)=j from Zc _];refine dg (bind1 rfl ha) (ai ?_);refine(Cz hc hd hn k (.str x) (eT ns k x j) j b c' hb (by omega)).mono λg fr ⟨q1,b2,hb2,q3⟩=>?_;subst q1 q3;refine ai ?_;refine(CA hc hd hn k x hx _ j b2 c' hc' (by split<;>simp<;>omega)).mono λg fr ⟨q1,b3,TX,q3⟩=>?_;subst q1 q3;refine av ?_;rw[cL];refine⟨some (.val (.int j)),b2,b3,.val,hb2,TX,?_⟩;rw[ja,iZ,Wj]
 .subst hfr;refine ai (bJ (v:=aO (chg ns k x)) (af:=[some (.val (gP ns)),some (.val (.int k)),some (.val (.str x)),some (.val (aO (eT ns k x (x.length+1)))),a,b,c']) ?_ ⟨rfl,rfl⟩);have sh:fh [some (.val (gP ns)),some (.val (.int k)),some (.val (.str x)),some (.val (aO (eT ns k x (x.length+1)))),a,b,c']=[some (.val (gP ns)),some (.val (.int k)),some (.val (.str x)),some (.val (aO (eT ns k x (x.length+1)))),a,b,c']:=by
   show _ :: _ :: _ :: _ :: a.map Sl.ek :: b.map Sl.ek :: [c'.map Sl.ek]=_;rw[cP ha,cP hb,cP hc'];rfl
  rw[sh];exact au rfl
end
noncomputable def CB:S:=.iff (.cmp .eq (.ix (.v 0) (.c (.int 0))) (.c (.str [107,101,101,112]))) (.cons (.ret (.ix (.v 0) (.c (.int 1)))) .nil) .nil
noncomputable def CC:S:=.ret (.bi .len (.cons (.ix (.v 0) (.c (.int 1))) .nil))
noncomputable def eW:Fn:=⟨1,1,(.cons CB (.cons CC .nil))⟩
noncomputable def yk(bK:Nat):S:=.ret (.bi .sum (.cons (.comp (.cl bK (.cons (.v 1) .nil)) (.one 1) (.seq (.v 0)) (.yes (.cmp .ne (.ix (.v 1) (.c (.int 0))) (.c (.str [112,117,116]))))) .nil))
noncomputable def ku(bK:Nat):Fn:=⟨1,2,(.cons (yk bK) .nil)⟩
noncomputable def Ar(bK:Nat):S:=.ret (.bi .sum (.cons (.comp (.cl bK (.cons (.v 1) .nil)) (.one 1) (.seq (.v 0)) (.yes (.cmp .ne (.ix (.v 1) (.c (.int 0))) (.c (.str [100,114,111,112]))))) .nil))
noncomputable def mQ(bK:Nat):Fn:=⟨1,2,(.cons (Ar bK) .nil)⟩
noncomputable def CD(bK:Nat):S:=.ret (.bi .sum (.cons (.comp (.cl bK (.cons (.v 1) .nil)) (.one 1) (.seq (.v 0)) (.yes (.cmp .ne (.ix (.v 1) (.c (.int 0))) (.c (.str [107,101,101,112]))))) .nil))
noncomputable def K8(bK:Nat):Fn:=⟨1,2,(.cons (CD bK) .nil)⟩
noncomputable def CF:S:=.set 1 (.lst .nil)
noncomputable def CG:S:=.set 2 (.c (.int 0))
noncomputable def CH:S:=.set 3 (.c (.str []))
noncomputable def CJ:S:=.set 4 (.c (.str []))
noncomputable def CK(bZ:Nat):Ss:=(.cons (.iff (.cmp .eq (.v 5) (.c (.str [100,114,111,112]))) (.cons (.set 3 (.bin .add (.v 3) (.v 6))) .nil) (.cons (.iff (.cmp .eq (.v 5) (.c (.str [112,117,116]))) (.cons (.set 4 (.bin .add (.v 4) (.v 6))) .nil) (.cons (.iff (.cmp .gt (.v 6) (.c (.int 0))) (.cons (.iff (.orr (.cmp .ne (.v 3) (.c (.str []))) (.cmp .ne (.v 4) (.c (.str [])))) (.cons (.exp (.me .extend (.v 1) (.cons (.cl bZ (.cons (.v 2) (.cons (.v 3) (.cons (.v 4) .nil)))) .nil))) (.cons (.set 2 (.c (.int 0))) (.cons (.set 3 (.c (.str []))) (.cons (.set 4 (.c (.str []))) .nil)))) .nil) (.cons (.set 2 (.bin .add (.v 2) (.v 6))) .nil)) .nil) .nil)) .nil)) .nil)
noncomputable def CL(bZ:Nat):S:=.for (.many [5,6]) (.seq (.v 0)) (CK bZ)
noncomputable def CM(bZ:Nat):S:=.exp (.me .extend (.v 1) (.cons (.cl bZ (.cons (.v 2) (.cons (.v 3) (.cons (.v 4) .nil)))) .nil))
noncomputable def CN:S:=.ret (.gZ (.v 1))
noncomputable def gS(bZ:Nat):Fn:=⟨1,7,(.cons CF (.cons CG (.cons CH (.cons CJ (.cons (CL bZ) (.cons (CM bZ) (.cons CN .nil)))))))⟩
noncomputable def uS:S:=.set 3 (.lst .nil)
noncomputable def uT:S:=.iff (.cmp .gt (.v 0) (.c (.int 0))) (.cons (.exp (.me .append (.v 3) (.cons (.tup (.cons (.c (.str [107,101,101,112])) (.cons (.v 0) .nil))) .nil))) .nil) .nil
noncomputable def nc:S:=.iff (.cmp .ne (.v 1) (.c (.str []))) (.cons (.exp (.me .append (.v 3) (.cons (.tup (.cons (.c (.str [100,114,111,112])) (.cons (.v 1) .nil))) .nil))) .nil) .nil
noncomputable def jE:S:=.iff (.cmp .ne (.v 2) (.c (.str []))) (.cons (.exp (.me .append (.v 3) (.cons (.tup (.cons (.c (.str [112,117,116])) (.cons (.v 2) .nil))) .nil))) .nil) .nil
noncomputable def iE:S:=.ret (.v 3)
noncomputable def dz:Fn:=⟨3,4,(.cons uS (.cons uT (.cons nc (.cons jE (.cons iE .nil)))))⟩
noncomputable def Pt.n:Pt->Nat
 |.keep n=>n
 |.put s=>s.length
 |.drop s=>s.length
noncomputable def tot(c:List Pt):Nat:=(c.map Pt.n).sum
def fQ(a b:List Pt):tot (a++b)=tot a+tot b:=by simp[tot]
def bU(p:Pt)(c:List Pt):tot (p :: c)=p.n+tot c:=by simp[tot]
noncomputable def gT:Pt->Bool
 |.put _=>true
 |_=>false
noncomputable def dh:Pt->Bool
 |.drop _=>true
 |_=>false
noncomputable def eB:Pt->Bool
 |.keep _=>true
 |_=>false
noncomputable def bf(c:List Pt):Nat:=tot (c.filter λp=>!gT p)
noncomputable def gz(c:List Pt):Nat:=tot (c.filter λp=>!dh p)
noncomputable def cst(c:List Pt):Nat:=tot (c.filter λp=>!eB p)
section
variable{F:List Fn}{w n aD i:Nat}
def jn(hs:F[i]?=some eW)(p:Pt)(hp:p.n<=100000):run F w (n+1) i [.val p.v]=some (.int p.n,[]):=by
 cases p with
 |keep k=>exact bW hs rfl (ai (aH (b:=true) (aJ rfl (bN (dN (au rfl) (bD rfl) rfl) (bD rfl) lT) rfl) (λ_=>ai (bJ (dN (au rfl) (bD rfl) rfl) ⟨rfl,rfl⟩)) nofun))
 |put s=>exact bW hs rfl (ai (aH (b:=false) (aJ rfl (bN (dN (au rfl) (bD rfl) rfl) (bD rfl) lT) rfl) nofun (λ_=>av (ai (bJ (dO (aB (dN (au rfl) (bD rfl) rfl) aP) (WQ hp)) ⟨rfl,rfl⟩)))))
 |drop s=>exact bW hs rfl (ai (aH (b:=false) (aJ rfl (bN (dN (au rfl) (bD rfl) rfl) (bD rfl) lT) rfl) nofun (λ_=>av (ai (bJ (dO (aB (dN (au rfl) (bD rfl) rfl) aP) (WQ hp)) ⟨rfl,rfl⟩)))))
def RE{c:List Pt}{p:Pt}(h:p∈c):p.n<=tot c:=by
 induction c with
 |nil=>simp at h
 |cons q c ih=>
  rw[bU];rcases List.mem_cons.mp h with rfl|h
  .omega
  .have:=ih h;omega
def NN(c:List Pt):(c.map λp=>(p.n:Int)).sum=(tot c:Int):=by
 induction c with
 |nil=>rfl
 |cons p c ih=>simp only[T6,List.sum_cons,ih,bU];omega
def qj{word:List Nat}{pr:Pt->Bool}(hs:F[aD]?=some eW)(hb:F[i]?=some ⟨1,2,.cons (.ret (.bi .sum (.cons (.comp (.cl aD (.cons (.v 1) .nil)) (.one 1) (.seq (.v 0)) (.yes (.cmp .ne (.ix (.v 1) (.c (.int 0))) (.c (.str word))))) .nil))) .nil⟩)
  (hw:∀p:Pt,∃x u,p.v=.tup [.str x,u]/\(!decide (x=word))=pr p) (c:List Pt) (h1:c.length<=10000) (h2:tot c<=100000):run F w (n+2) i [.val (aO c)]=some (.int (tot (c.filter pr)),[]):=by
 refine bW hb rfl (ai (bJ (dO (aB (tV (iK (jd rfl) rfl) rfl (tQ (e:=Pt.v) (p:=pr) (g:=λp=>.int p.n) c λp hp=>?_) (gb (cj ?_))) aP) ?_) ⟨rfl,rfl⟩))
 .obtain⟨x,u,hx,TZ⟩:=hw p;have hcall:=λfr=>dj (fr:=fr) (jn (w:=w) (n:=n) hs p (V0 (RE hp) h2));rw[hx]at hcall;rw[hx,<-TZ];exact Gz rfl (aJ rfl (bN (dN (au rfl) (bD rfl) rfl) (bD rfl) fq) rfl) λ_=>aY (ay rfl (au rfl) aG) (hcall _)
 .rw[Wa];exact V0 (List.length_filter_le _ _) (V0 h1 (by decide))
 .rw[Gb,yc (λp:Pt=>(p.n:Int))];show some (V.int _)=_;rw[NN]
def yl(hs:F[aD]?=some eW)(hb:F[i]?=some (ku aD))(c:List Pt)(h1:c.length<=10000)(h2:tot c<=100000):run F w (n+2) i [.val (aO c)]=some (.int (bf c),[]):=
 qj (pr:=λp=>!gT p) hs hb (λp=>by cases p<;>exact⟨_,_,rfl,rfl⟩) c h1 h2
def As(hs:F[aD]?=some eW)(hb:F[i]?=some (mQ aD))(c:List Pt)(h1:c.length<=10000)(h2:tot c<=100000):run F w (n+2) i [.val (aO c)]=some (.int (gz c),[]):=
 qj (pr:=λp=>!dh p) hs hb (λp=>by cases p<;>exact⟨_,_,rfl,rfl⟩) c h1 h2
def CO(hs:F[aD]?=some eW)(hb:F[i]?=some (K8 aD))(c:List Pt)(h1:c.length<=10000)(h2:tot c<=100000):run F w (n+2) i [.val (aO c)]=some (.int (cst c),[]):=
 qj (pr:=λp=>!eB p) hs hb (λp=>by cases p<;>exact⟨_,_,rfl,rfl⟩) c h1 h2
end
noncomputable def bz(k:Nat)(g w:List Nat):List Pt:=(if 0<k then [.keep k]else [])++(if g=[]then []else [.drop g])++(if w=[]then []else [.put w])
def dU(k:Nat)(g w:List Nat):(bz k g w).length<=3:=by unfold bz;split<;>split<;>split<;>simp
def iF{F:List Fn}{w n i:Nat}(hs:F[i]?=some dz)(k:Nat)(g x:List Nat):run F w (n+1) i [.val (.int k),.val (.str g),.val (.str x)]=some (.lst ((bz k g x).map Pt.v),[]):=by
 refine bW hs rfl ?_;refine ai (gR (l:=[]) (by repeat array_get_dec) rfl rfl ?_);have ap:∀(l:List V) (d:V) (fr:Fr) (i:Nat),l.length<=3->fr[i]?=some (some (.own l))->gx .append i [d] fr fr[i]?=.ok .bA (fr.set i (some (.own (l++[d])))):=λl d fr i h e=>by rw[e];exact fP (by omega)
 have fin:∀l:List V,Wp (exs (run F w n) w (.cons iE .nil) [some (.val (.int k)),some (.val (.str g)),some (.val (.str x)),some (.own l)]) λg fr=>g=.ret (.lst l)/\outs 3 fr=[]:=λl=>ai (bJ (by repeat array_get_dec) ⟨rfl,rfl⟩);have s3:∀l:List V,l.length<=2->Wp (exs (run F w n) w (.cons jE (.cons iE .nil)) [some (.val (.int k)),some (.val (.str g)),some (.val (.str x)),some (.own l)]) λg fr=>g=.ret (.lst (l++(if x=[]then []else [Pt.put x]).map Pt.v))/\outs 3 fr=[]:=λl hl=>by
  refine ai (aH (by repeat array_get_dec) (λh=>?_) λh=>?_)
  .have hx:x≠[]:=by simpa using h
   refine ai (dQ (by (repeat array_get_dec);exact ap _ _ _ _ (by omega) rfl) (av ?_));rw[Us hx];exact fin _
  .have hx:x=[]:=by simpa using h
   refine av ?_;rw[GQ hx,Zb,V8];exact fin _
 have s2:∀l:List V,l.length<=1->Wp (exs (run F w n) w (.cons nc (.cons jE (.cons iE .nil))) [some (.val (.int k)),some (.val (.str g)),some (.val (.str x)),some (.own l)]) λy fr=>y=.ret (.lst (l++((if g=[]then []else [Pt.drop g])++(if x=[]then []else [Pt.put x])).map Pt.v))/\outs 3 fr=[]:=λl hl=>by
  refine ai (aH (by repeat array_get_dec) (λh=>?_) λh=>?_)
  .have hx:g≠[]:=by simpa using h
   refine ai (dQ (by (repeat array_get_dec);exact ap _ _ _ _ (by omega) rfl) (av ?_));rw[Us hx,V3,<-Wj];exact s3 _ (by simp;omega)
  .have hx:g=[]:=by simpa using h
   refine av ?_;rw[GQ hx,X0];exact s3 _ (by omega)
 refine ai (aH (by repeat array_get_dec) (λh=>?_) λh=>?_)
 .have hx:0<k:=by have:=Wz h;omega
  refine ai (dQ (by (repeat array_get_dec);exact ap _ _ _ _ (by decide) rfl) (av ?_));unfold bz;rw[GQ hx,Wj];exact s2 _ (Et 1)
 .have hx:¬ 0<k:=by have:=WY h;omega
  refine av ?_;unfold bz;rw[Us hx];exact s2 _ (by decide)
abbrev FS:=List Pt×Nat×List Nat×List Nat
noncomputable def bB(st:FS):Pt->FS
 |.drop s=>(st.1,st.2.1,st.2.2.1++s,st.2.2.2)
 |.put s=>(st.1,st.2.1,st.2.2.1,st.2.2.2++s)
 |.keep k=>if 0<k then (if st.2.2.1=[]/\st.2.2.2=[]then (st.1,st.2.1+k,[],[])else (st.1++bz st.2.1 st.2.2.1 st.2.2.2,k,[],[]))else st
noncomputable def eE:FS:=([],0,[],[])
noncomputable def cO(st:FS):List Pt:=st.1++bz st.2.1 st.2.2.1 st.2.2.2
noncomputable def aI(c:List Pt):List Pt:=cO (c.foldl bB eE)
def GC(p:List Pt)(a:Pt):(p++[a]).foldl bB eE=bB (p.foldl bB eE) a:=by simp
def tZ(c:List Pt):∀st:FS,(c.foldl bB st).1.length<=st.1.length+3*c.length/\(c.foldl bB st).2.2.1.length<=st.2.2.1.length+tot c/\(c.foldl bB st).2.2.2.length<=st.2.2.2.length+tot c:=by
 induction c with
 |nil=>intro st;simp[tot]
 |cons p c ih=>
  intro st;have h:=ih (bB st p);have h2:(bB st p).1.length<=st.1.length+3/\(bB st p).2.2.1.length<=st.2.2.1.length+p.n/\(bB st p).2.2.2.length<=st.2.2.2.length+p.n:=by
   have:=dU st.2.1 st.2.2.1 st.2.2.2;cases p with
   |drop s=>simp[bB,Pt.n]
   |put s=>simp[bB,Pt.n]
   |keep k=>
    simp only[bB];split
    .split
     .simp
     .simp;omega
    .simp
  simp only[Wu,V1,bU];omega
def eU{F:List Fn}{w n aT i:Nat}(hs:F[aT]?=some dz)(hf:F[i]?=some (gS aT))(c:List Pt)(h1:c.length<=10000)(h2:tot c<=10000):run F w (n+2) i [.val (aO c)]=some (aO (aI c),[]):=by
 refine bW hf rfl ?_;refine ai (gR (l:=[]) (by repeat array_get_dec) rfl rfl ?_);refine ai (aU (by repeat array_get_dec) rfl rfl ?_);refine ai (aU (by repeat array_get_dec) rfl rfl ?_);refine ai (aU (by repeat array_get_dec) rfl rfl ?_);refine ai (iX (vs:=c.map Pt.v) (iK (jd rfl) rfl) ?_);have ext:∀(st:FS) (fr:Fr),st.1.length<=30010->gx .extend 1 [.lst ((bz st.2.1 st.2.2.1 st.2.2.2).map Pt.v)] fr (some (some (.own (st.1.map Pt.v))))=.ok .bA (fr.set 1 (some (.own ((cO st).map Pt.v)))):=λst fr h=>by
  have:=dU st.2.1 st.2.2.1 st.2.2.2;unfold cO;rw[V3];exact vZ (by simp;omega)
 refine er (e:=Pt.v) (λp l fr=>p++l=c/\∃a b,vo a/\vo b/\fr=[some (.val (aO c)),some (.own ((p.foldl bB eE).1.map Pt.v)),some (.val (.int (p.foldl bB eE).2.1)),some (.val (.str (p.foldl bB eE).2.2.1)),some (.val (.str (p.foldl bB eE).2.2.2)),a,b]) (λp x l fr ⟨hpl,a,b,ha,hb,hfr⟩=>?_) (λp fr ⟨hpl,a,b,ha,hb,hfr⟩=>?_) c [] _ ⟨rfl,none,none,.none,.none,rfl⟩
 .subst hfr;obtain⟨b1,b2,b3⟩:=tZ p eE;have hlen:p.length+l.length+1=c.length:=by rw[<-hpl];simp;omega
  have t6:tot p+x.n+tot l=tot c:=by rw[<-hpl,fQ,bU];omega
  rw[GC];have iy:(p++[x])++l=c:=by simpa using hpl
  generalize p.foldl bB eE=st at *
  simp[eE]at b1 b2 b3;have rs:=λfr=>eS (fr:=fr) (iF (w:=w) (n:=n) hs st.2.1 st.2.2.1 st.2.2.2);have ex:=λfr=>ext st fr (by omega);cases x with
  |drop s=>
   have hs:s.length<=tot c:=by simp only[Pt.n]at t6;omega
   have ad:=iw (a:=st.2.2.1) (b:=s) (by omega);refine dg (jx rfl ha rfl hb) (ai (aH (by repeat array_get_dec) (λ_=>?_) λh=>absurd h (by decide)));refine ai (aU (by repeat array_get_dec) rfl rfl (av (av ?_)));rw[cL];exact⟨iy,_,_,.val,.val,rfl⟩
  |put s=>
   have hs:s.length<=tot c:=by simp only[Pt.n]at t6;omega
   have ad:=iw (a:=st.2.2.2) (b:=s) (by omega);refine dg (jx rfl ha rfl hb) (ai (aH (by repeat array_get_dec) (λh=>absurd h (by decide)) λ_=>?_));refine ai (aH (by repeat array_get_dec) (λ_=>?_) λh=>absurd h (by decide));refine ai (aU (by repeat array_get_dec) rfl rfl (av (av (av ?_))));rw[cL];exact⟨iy,_,_,.val,.val,rfl⟩
  |keep k=>
   refine dg (jx rfl ha rfl hb) (ai (aH (by repeat array_get_dec) (λh=>absurd h (by decide)) λ_=>?_));refine ai (aH (by repeat array_get_dec) (λh=>absurd h (by decide)) λ_=>?_);refine ai (aH (by repeat array_get_dec) (λh=>?_) λh=>?_)
   .have hk:0<k:=by have:=Wz h;omega
    by_cases hg:st.2.2.1=[]/\st.2.2.2=[]
    .have n1:cop .ne (.str st.2.2.1) (.str [])=some false:=by rw[fq,hg.1];rfl
     have n2:cop .ne (.str st.2.2.2) (.str [])=some false:=by rw[fq,hg.2];rfl
     refine ai (aH (b:=false) (dI (aJ rfl (by repeat array_get_dec) rfl) (aJ rfl (by repeat array_get_dec) rfl)) (λh=>absurd h (by decide)) λ_=>av ?_);refine ai (aU (by repeat array_get_dec) rfl rfl (av (av (av (av ?_)))));rw[cL];refine⟨iy,some (.val (.str dm)),some (.val (.int k)),.val,.val,?_⟩;simp only[bB,GQ hk,GQ hg];rw[hg.1,hg.2];rfl
    .have tt:aE (run F w (n+1)) (.orr (.cmp .ne (.v 3) (.c (.str []))) (.cmp .ne (.v 4) (.c (.str [])))) [some (.val (aO c)),some (.own (st.1.map Pt.v)),some (.val (.int st.2.1)),some (.val (.str st.2.2.1)),some (.val (.str st.2.2.2)),some (.val (.str dm)),some (.val (.int k))]=.ok true [some (.val (aO c)),some (.own (st.1.map Pt.v)),some (.val (.int st.2.1)),some (.val (.str st.2.2.1)),some (.val (.str st.2.2.2)),some (.val (.str dm)),some (.val (.int k))]:=by
      by_cases h3:st.2.2.1=[]
      .have h4:¬ st.2.2.2=[]:=λz=>hg ⟨h3,z⟩;have n1:cop .ne (.str st.2.2.1) (.str [])=some false:=by rw[fq,h3];rfl
       have n2:cop .ne (.str st.2.2.2) (.str [])=some true:=by rw[fq,Wh h4];rfl
       exact dI (aJ rfl (by repeat array_get_dec) rfl) (aJ rfl (by repeat array_get_dec) rfl)
      .have n1:cop .ne (.str st.2.2.1) (.str [])=some true:=by rw[fq,Wh h3];rfl
       exact tW (aJ rfl (by repeat array_get_dec) rfl)
     refine ai (aH tt (λ_=>?_) λh=>absurd h (by decide));refine ai (dQ (by (repeat (first|array_get_dec|exact rs _|exact ex _))) ?_);refine ai (aU (by repeat array_get_dec) rfl rfl ?_);refine ai (aU (by repeat array_get_dec) rfl rfl ?_);refine ai (aU (by repeat array_get_dec) rfl rfl (av ?_));refine ai (aU (by repeat array_get_dec) rfl rfl (av (av (av (av ?_)))));rw[cL];refine⟨iy,some (.val (.str dm)),some (.val (.int k)),.val,.val,?_⟩;simp only[bB,GQ hk,Us hg];rw[Zc];rfl
   .have hk:¬ 0<k:=by have:=WY h;omega
    refine av (av (av (av ?_)));rw[cL];refine⟨iy,some (.val (.str dm)),some (.val (.int k)),.val,.val,?_⟩;simp only[bB,Us hk];rfl
 .subst hfr;simp at hpl;subst hpl;obtain⟨b1,b2,b3⟩:=tZ p eE;have e:aI p=cO (p.foldl bB eE):=rfl;rw[e];generalize p.foldl bB eE=st at *
  simp[eE]at b1 b2 b3;have sl:=dU st.2.1 st.2.2.1 st.2.2.2;have rs:=λfr=>eS (fr:=fr) (iF (w:=w) (n:=n) hs st.2.1 st.2.2.1 st.2.2.2);have ex:=λfr=>ext st fr (by omega);have mk:toT (.lst ((cO st).map Pt.v))=some (aO (cO st)):=by rw[vX];exact jm (cj (by simp[cO];omega))
  refine ai (dQ (by (repeat (first|array_get_dec|exact rs _|exact ex _))) ?_);exact ai (bJ (oV (au rfl) mk) ⟨rfl,rfl⟩)
inductive Tq where
 |at (i:Nat)|sg (c:Nat)
deriving DecidableEq
noncomputable def Pt.asks:Pt->List (List Nat)
 |.keep n=>List.replicate n []
 |.drop s=>s.map λc=>[c]
 |.put _=>[]
noncomputable def asks(c:List Pt):List (List Nat):=c.flatMap Pt.asks
noncomputable def Pt.told(k:Nat):Pt->List Tq
 |.keep n=>(List.range n).map λj=>.at (k+j)
 |.drop _=>[]
 |.put s=>s.map .sg
noncomputable def told(k:Nat):List Pt->List Tq
 |[]=>[]
 |p :: c=>p.told k++told (k+p.asks.length) c
def dW(a b:List Pt):asks (a++b)=asks a++asks b:=by simp[asks]
def gk(a b:List Pt):∀k,told k (a++b)=told k a++told (k+(asks a).length) b:=by
 induction a with
 |nil=>intro k;simp[told,asks]
 |cons p a ih=>
  intro k;simp only[WJ,told,ih,Wj]
  congr 3
  simp[asks];omega
noncomputable def jb(c:List Pt):List (List Nat)×List Tq:=(asks c,told 0 c)
noncomputable def Pt.word:Pt->List Nat
 |.keep _=>dm
 |.put _=>kr
 |.drop _=>iY
noncomputable def oX(a b:List Nat):Bool:=!(decide (a=b) || (decide (a=kr)&&decide (b=iY)))
noncomputable def jF:List (List Nat)->Bool
 |a :: b :: r=>oX a b&&jF (b :: r)
 |_=>true
noncomputable def K9(p:Pt):Bool:=p.n != 0
noncomputable def lV(c:List Pt):Bool:=jF (c.map Pt.word)&&c.all K9
def eF(k:Nat)(g x:List Nat):asks (bz k g x)=List.replicate k []++g.map λc=>[c]:=by
  unfold bz;by_cases hk:0<k<;>by_cases hg:g=[]<;>by_cases hx:x=[]<;>simp[hk,hg,hx,asks,Pt.asks]
  all_goals (have:k=0:=by omega
             subst this;simp)
def gU(k:Nat)(g x:List Nat)(j:Nat):told j (bz k g x)=(List.range k).map (λi=>Tq.at (j+i))++x.map Tq.sg:=by
  unfold bz;by_cases hk:0<k<;>by_cases hg:g=[]<;>by_cases hx:x=[]<;>simp[hk,hg,hx,told,Pt.told,Pt.asks]
  all_goals (have:k=0:=by omega
             subst this;simp)
def ym(st:FS)(p:Pt):asks (cO (bB st p))=asks (cO st++[p])/\∀j,told j (cO (bB st p))=told j (cO st++[p]):=by
 obtain⟨ps,k,g,x⟩:=st;have e1:∀a:List Pt,asks (a++[p])=asks a++p.asks:=λa=>by simp[asks]
 have e2:∀(a:List Pt) j,told j (a++[p])=told j a++p.told (j+(asks a).length):=λa j=>by simp[gk,told]
 rw[e1];cases p with
 |drop s=>
  refine⟨by simp[bB,cO,dW,eF,Pt.asks],λj=>?_⟩;rw[e2];simp[bB,cO,gk,gU,Pt.told]
 |put s=>
  refine⟨by simp[bB,cO,dW,eF,Pt.asks],λj=>?_⟩;rw[e2];simp[bB,cO,gk,gU,Pt.told]
 |keep m=>
  simp only[bB];split
  .split
   .rename_i h;obtain⟨rfl,rfl⟩:=h;refine⟨by simp[cO,dW,eF,Pt.asks],λj=>?_⟩;rw[e2];simp[cO,dW,gk,gU,eF,Pt.told,List.range_add,XU]
   .refine⟨by simp[cO,dW,eF,Pt.asks],λj=>?_⟩;rw[e2];simp[cO,dW,gk,gU,eF,Pt.told,XU]
  .rename_i h;have:m=0:=by omega
   subst this;refine⟨by simp[Pt.asks],λj=>?_⟩;rw[e2];simp[Pt.told]
def oY(c:List Pt):∀st:FS,asks (cO (c.foldl bB st))=asks (cO st++c)/\∀j,told j (cO (c.foldl bB st))=told j (cO st++c):=by
 induction c with
 |nil=>intro st;simp
 |cons p c ih=>
  intro st;obtain⟨h1,h2⟩:=ih (bB st p);obtain⟨h3,h4⟩:=ym st p;simp only[Wu];have e:cO st++p :: c=(cO st++[p])++c:=by simp
  refine⟨?_,λj=>?_⟩
  .rw[h1,e,dW,dW _ c,h3]
  .rw[h2 j,e,gk,gk _ c,h4 j,h3]
def fF(c:List Pt):asks (aI c)=asks c:=by
 have:=(oY c eE).1;simpa[aI,eE,cO,bz]using this
def dR(c:List Pt)(j:Nat):told j (aI c)=told j c:=by
 have:=(oY c eE).2 j;simpa[aI,eE,cO,bz]using this
def kB(c:List Pt):jb (aI c)=jb c:=by simp[jb,fF,dR]
noncomputable def kps(c:List Pt):Nat:=tot (c.filter eB)
def t7(c:List Pt):(asks c).length=bf c:=by
 induction c with
 |nil=>rfl
 |cons p c ih=>cases p<;>simp[asks,bf,tot,gT,Pt.asks,Pt.n]at ih ⊢<;>omega
def t9(c:List Pt):∀j,(told j c).length=gz c:=by
 induction c with
 |nil=>intro j;rfl
 |cons p c ih=>intro j;cases p<;>simp[told,gz,tot,dh,Pt.told,Pt.n,ih]at ih ⊢
def kC(n:Nat)(c:List Pt):bf (.keep n :: c)=n+bf c:=by simp[bf,tot,gT,Pt.n]
def mR(s:List Nat)(c:List Pt):bf (.drop s :: c)=s.length+bf c:=by simp[bf,tot,gT,Pt.n]
def kD(s:List Nat)(c:List Pt):bf (.put s :: c)=bf c:=by simp[bf,tot,gT,Pt.n]
def yo(n:Nat)(c:List Pt):gz (.keep n :: c)=n+gz c:=by simp[gz,tot,dh,Pt.n]
def yp(s:List Nat)(c:List Pt):gz (.drop s :: c)=gz c:=by simp[gz,tot,dh,Pt.n]
def yq(s:List Nat)(c:List Pt):gz (.put s :: c)=s.length+gz c:=by simp[gz,tot,dh,Pt.n]
def Ei(n:Nat)(c:List Pt):cst (.keep n :: c)=cst c:=by simp[cst,tot,eB,Pt.n]
def Ej(s:List Nat)(c:List Pt):cst (.drop s :: c)=s.length+cst c:=by simp[cst,tot,eB,Pt.n]
def Ek(s:List Nat)(c:List Pt):cst (.put s :: c)=s.length+cst c:=by simp[cst,tot,eB,Pt.n]
def El(n:Nat)(c:List Pt):kps (.keep n :: c)=n+kps c:=by simp[kps,tot,Xm,eB,Pt.n]
def Em(s:List Nat)(c:List Pt):kps (.drop s :: c)=kps c:=by simp[kps,tot,eB,Pt.n]
def En(s:List Nat)(c:List Pt):kps (.put s :: c)=kps c:=by simp[kps,tot,eB,Pt.n]
noncomputable def isAt:Tq->Bool
 |.at _=>true
 |_=>false
def Au(c:List Pt):∀j,((told j c).filter isAt).length=kps c:=by
 induction c with
 |nil=>intro j;rfl
 |cons p c ih=>
  intro j;have e1:∀(m:Nat) (f:Nat->Nat),(((List.range m).map λi=>Tq.at (f i)).filter isAt).length=m:=λm f=>by
   rw[List.filter_eq_self.mpr]
   .simp
   .intro a ha;obtain⟨i,_,rfl⟩:=List.mem_map.mp ha;rfl
  have e2:∀s:List Nat,((s.map Tq.sg).filter isAt).length=0:=λs=>by
   rw[List.filter_eq_nil_iff.mpr]
   .rfl
   .intro a ha;obtain⟨i,_,rfl⟩:=List.mem_map.mp ha;simp[isAt]
  cases p with
  |keep m=>simp only[told,Pt.told,Ye,VX,e1,ih,kps,tot,eB,Xm,Wf,T6,List.sum_cons,Pt.n]
  |put s=>simp only[told,Pt.told,Ye,VX,e2,ih,kps,eB,Xm];simp
  |drop s=>simp only[told,Pt.told,Ye,VX,ih,kps,eB,Xm];simp
def Av(c:List Pt):(cst c:Int)=bf c - kps c+gz c - kps c:=by
 induction c with
 |nil=>rfl
 |cons p c ih=>cases p<;>simp only[Ei,Ej,Ek,kC,mR,kD,yo,yp,yq,El,Em,En]<;>omega
def Aw(c:List Pt):tot c+kps c=bf c+gz c:=by
 induction c with
 |nil=>rfl
 |cons p c ih=>cases p<;>simp only[bU,Pt.n,kC,mR,kD,yo,yp,yq,El,Em,En]<;>omega
def ua(c:List Pt):bf (aI c)=bf c:=by rw[<-t7,<-t7,fF]
def uc(c:List Pt):gz (aI c)=gz c:=by rw[<-t9 _ 0,<-t9 _ 0,dR]
def ud(c:List Pt):kps (aI c)=kps c:=by rw[<-Au _ 0,<-Au _ 0,dR]
def jq(c:List Pt):cst (aI c)=cst c:=by
 have h1:=Av (aI c);have h2:=Av c;rw[ua,uc,ud]at h1;omega
def fG(c:List Pt):tot (aI c)=tot c:=by
 have h1:=Aw (aI c);have h2:=Aw c;rw[ua,uc,ud]at h1;omega
theorem wc:∀(a:List (List Nat)) (b:List (List Nat)),jF (a++b)=true↔jF a=true/\jF b=true/\∀x∈a.getLast?,∀y∈b.head?,oX x y=true
 |[],b=>by simp[jF]
 |[x],[]=>by simp[jF]
 |[x],y :: b=>by simp[jF,and_comm]
 |x :: y :: a,b=>by
  have:=wc (y :: a) b;simp only[WJ]at this ⊢;simp only[jF,Lf,this,List.getLast?_cons_cons];constructor
  .rintro⟨h1,h2,h3,h4⟩;exact⟨⟨h1,h2⟩,h3,h4⟩
  .rintro⟨⟨h1,h2⟩,h3,h4⟩;exact⟨h1,h2,h3,h4⟩
def uU(k:Nat)(g x:List Nat):lV (bz k g x)=true:=by
 unfold bz;by_cases hk:0<k<;>by_cases hg:g=[]<;>by_cases hx:x=[]<;>simp[hk,hg,hx,lV,K9,jF,oX,Pt.word,Pt.n,dm,kr,iY]
 all_goals omega
noncomputable def ue(st:FS):Prop:=lV st.1=true/\(st.1≠[]->0<st.2.1)/\∀p∈st.1.getLast?,p.word≠dm
def GD{a b:List Pt}(ha:lV a=true)(hb:lV b=true)(h:∀p∈a.getLast?,∀q∈b.head?,oX p.word q.word=true):lV (a++b)=true:=by
 simp only[lV,Lf]at ha hb ⊢;refine⟨?_,by rw[List.all_append,ha.2,hb.2];rfl⟩;rw[V3,wc];refine⟨ha.1,hb.1,λx hx y hy=>?_⟩;simp at hx hy;obtain⟨p,hp,rfl⟩:=hx;obtain⟨q,hq,rfl⟩:=hy;exact h p hp q hq
def ug{k:Nat}{g x:List Nat}(hk:0<k):(bz k g x).head?=some (.keep k):=by simp[bz,hk]
def GF{w:List Nat}(h:w≠dm)(hw:w=kr\/w=iY):oX w dm=true:=by
 rcases hw with rfl|rfl<;>decide
def GG(p:Pt):p.word=dm\/p.word=kr\/p.word=iY:=by cases p<;>simp[Pt.word]
def uh{st:FS}(h:ue st):lV (cO st)=true:=by
 refine GD h.1 (uU _ _ _) λp hp q hq=>?_;have hne:st.1≠[]:=by intro z;rw[z]at hp;simp at hp
 rw[ug (h.2.1 hne)]at hq;simp at hq;subst hq;have hw:=h.2.2 p hp;exact GF hw ((GG p).resolve_left hw)
def um{k:Nat}{g x:List Nat}(h:¬ (g=[]/\x=[])):∀p∈(bz k g x).getLast?,p.word≠dm:=by
 unfold bz;by_cases hx:x=[]
 .have hg:g≠[]:=λz=>h ⟨z,hx⟩;intro p hp;simp[hg,hx]at hp;subst hp;simp[Pt.word,iY,dm]
 .intro p hp;simp[hx]at hp;subst hp;simp[Pt.word,kr,dm]
def Ax{st:FS}(h:ue st)(p:Pt):ue (bB st p):=by
 cases p with
 |drop s=>exact h
 |put s=>exact h
 |keep k=>
  simp only[bB];split
  .rename_i hk;split
   .exact⟨h.1,λz=>by simp;omega,h.2.2⟩
   .rename_i PM;refine⟨uh h,λ_=>hk,λp hp=>?_⟩;rw[List.getLast?_append]at hp;cases z:(bz st.2.1 st.2.2.1 st.2.2.2).getLast? with
    |none=>
     exfalso;rw[List.getLast?_eq_none_iff]at z;unfold bz at z;by_cases hx:st.2.2.2=[]<;>by_cases hg:st.2.2.1=[]<;>simp[hx,hg]at z PM
    |some q=>
     rw[z]at hp;simp at hp;subst hp;exact um PM q z
  .exact h
def fH(c:List Pt):lV (aI c)=true:=by
 have:∀(c:List Pt) (st:FS),ue st->ue (c.foldl bB st):=λc=>by
  induction c with
  |nil=>exact λst h=>h
  |cons p c ih=>exact λst h=>ih _ (Ax h p)
 exact uh (this c eE ⟨rfl,λz=>absurd rfl z,λp hp=>by simp[eE]at hp⟩)
abbrev Bl:=List Nat×List Nat
abbrev BS:=List Bl×Bl
noncomputable def dM(st:BS):Pt->BS
 |.drop s=>(st.1,(st.2.1++s,st.2.2))
 |.put s=>(st.1,(st.2.1,st.2.2++s))
 |.keep 0=>st
 |.keep (n+1)=>(st.1++st.2 :: List.replicate n ([],[]),([],[]))
noncomputable def ng:BS:=([],([],[]))
noncomputable def blocks(c:List Pt):BS:=c.foldl dM ng
noncomputable def jY(st:List Pt×Nat)(b:Bl):List Pt×Nat:=if b.1=[]/\b.2=[]then (st.1,st.2+1)else (st.1++bz st.2 b.1 b.2,1)
noncomputable def pk(bs:List Bl):List Pt×Nat:=bs.foldl jY ([],0)
def CP(n:Nat):∀st:List Pt×Nat,(List.replicate n (([],[]):Bl)).foldl jY st=(st.1,st.2+n):=by
 induction n with
 |zero=>intro st;simp
 |succ n ih=>intro st;simp[Ut,jY,ih];omega
noncomputable def we(st:BS):FS:=((pk st.1).1,(pk st.1).2,st.2.1,st.2.2)
def CQ(st:BS)(p:Pt):bB (we st) p=we (dM st p):=by
 obtain⟨bs,g,x⟩:=st;cases p with
 |drop s=>rfl
 |put s=>rfl
 |keep n=>
  cases n with
  |zero=>rfl
  |succ n=>
   have e:pk (bs++(g,x) :: List.replicate n ([],[]))=((jY (pk bs) (g,x)).1,(jY (pk bs) (g,x)).2+n):=by
    simp only[pk,XO,Wu,CP]
   simp only[we,dM,e,bB,Nat.succ_pos,Wf,jY];by_cases h:g=[]/\x=[]
   .simp[h];omega
   .simp[h];omega
def CS(c:List Pt):∀st:BS,c.foldl bB (we st)=we (c.foldl dM st):=by
 induction c with
 |nil=>intro st;rfl
 |cons p c ih=>intro st;simp only[Wu,CQ,ih]
def iG(c:List Pt):aI c=cO (we (blocks c)):=by
 unfold aI blocks;rw[<-CS];rfl
noncomputable def Ay(st:List (List Nat)×List Nat):List Nat->List (List Nat)×List Nat
 |[]=>(st.1++[st.2],[])
 |c :: _=>(st.1,st.2++[c])
noncomputable def spT(st:List (List Nat)×List Nat):Tq->List (List Nat)×List Nat
 |.at _=>(st.1++[st.2],[])
 |.sg c=>(st.1,st.2++[c])
def Az(s:List Nat):∀st,(s.map λc=>[c]).foldl Ay st=(st.1,st.2++s):=by
 induction s with
 |nil=>intro st;simp
 |cons c s ih=>intro st;simp[Ay,ih]
def CT(n:Nat):∀st,(List.replicate n []).foldl Ay st=if n=0 then st else (st.1++st.2 :: List.replicate (n - 1) [],[]):=by
 induction n with
 |zero=>intro st;rfl
 |succ n ih=>
  intro st;simp only[Ut,Wu,Ay,ih];cases n with
  |zero=>simp
  |succ n=>simp[Ut]
def AA(s:List Nat):∀st,(s.map Tq.sg).foldl spT st=(st.1,st.2++s):=by
 induction s with
 |nil=>intro st;simp
 |cons c s ih=>intro st;simp[spT,ih]
def CU(n:Nat):∀(k:Nat) st,((List.range n).map λj=>Tq.at (k+j)).foldl spT st=if n=0 then st else (st.1++st.2 :: List.replicate (n - 1) [],[]):=by
 induction n with
 |zero=>intro k st;rfl
 |succ n ih=>
  intro k st;rw[WM,V3,XO,ih];cases n with
  |zero=>simp[spT]
  |succ n=>
   simp[spT];rw[<-List.replicate_succ',Ut]
def oZ(c:List Pt):∀st:BS,(asks c).foldl Ay (st.1.map Prod.fst,st.2.1)=((c.foldl dM st).1.map Prod.fst,(c.foldl dM st).2.1):=by
 induction c with
 |nil=>intro st;rfl
 |cons p c ih=>
  intro st;have e:asks (p :: c)=p.asks++asks c:=by simp[asks]
  rw[e,XO,Wu,<-ih]
  congr 1
  cases p with
  |drop s=>simp[Pt.asks,Az,dM]
  |put s=>simp[Pt.asks,dM]
  |keep n=>
   simp only[Pt.asks,CT];cases n with
   |zero=>rfl
   |succ n=>simp[dM]
def o6(c:List Pt):∀(k:Nat) (st:BS),(told k c).foldl spT (st.1.map Prod.snd,st.2.2)=((c.foldl dM st).1.map Prod.snd,(c.foldl dM st).2.2):=by
 induction c with
 |nil=>intro k st;rfl
 |cons p c ih=>
  intro k st;rw[told,XO,Wu,<-ih (k+p.asks.length)]
  congr 1
  cases p with
  |put s=>simp[Pt.told,AA,dM]
  |drop s=>simp[Pt.told,dM]
  |keep n=>
   simp only[Pt.told,CU];cases n with
   |zero=>rfl
   |succ n=>simp[dM]
theorem wg{α β:Type}:∀{a b:List (α×β)},a.map Prod.fst=b.map Prod.fst->a.map Prod.snd=b.map Prod.snd->a=b
 |[],[],_,_=>rfl
 |[],_ :: _,h,_=>by simp at h
 |_ :: _,[],h,_=>by simp at h
 | (x,y) :: a,(x',y') :: b,h1,h2=>by
  simp at h1 h2;rw[h1.1,h2.1,wg h1.2 h2.2]
def lW{a b:List Pt}(h:jb a=jb b):blocks a=blocks b:=by
 have hA:asks a=asks b:=VZ Prod.fst h;have hT:told 0 a=told 0 b:=VZ Prod.snd h;have a1:=oZ a ng;have b1:=oZ b ng;have a2:=o6 a 0 ng;have b2:=o6 b 0 ng;rw[hA,b1]at a1;rw[hT,b2]at a2;have e1:=VZ Prod.fst a1;have e2:=VZ Prod.snd a1;have e3:=VZ Prod.fst a2;have e4:=VZ Prod.snd a2;unfold blocks;exact Prod.ext (wg e1.symm e3.symm) (Prod.ext e2.symm e4.symm)
def kE(a b:List Pt):aI a=aI b↔jb a=jb b:=by
 constructor
 .intro h;rw[<-kB a,<-kB b,h]
 .intro h;rw[iG,iG,lW h]
def lX(a:List Pt):aI (aI a)=aI a:=(kE _ _).mpr (kB a)
noncomputable def Pt.sw:Pt->Pt
 |.keep n=>.keep n
 |.put s=>.drop s
 |.drop s=>.put s
noncomputable def sw(c:List Pt):List Pt:=c.map Pt.sw
def rq(c:List Pt):∀st:BS,(sw c).foldl dM (st.1.map Prod.swap,st.2.swap)=((c.foldl dM st).1.map Prod.swap,(c.foldl dM st).2.swap):=by
 induction c with
 |nil=>intro st;rfl
 |cons p c ih=>
  intro st;simp only[sw,T6,Wu]at ih ⊢;rw[<-ih]
  congr 1
  cases p with
  |put s=>rfl
  |drop s=>rfl
  |keep n=>cases n<;>simp[Pt.sw,dM]
def wj{a b:List Pt}(h:aI a=aI b):aI (sw a)=aI (sw b):=by
 have hb:=lW ((kE a b).mp h);rw[iG,iG];have a1:=rq a ng;have b1:=rq b ng;have e:blocks (sw a)=blocks (sw b):=by
  unfold blocks at hb ⊢;have z:((ng.1.map Prod.swap,ng.2.swap):BS)=ng:=rfl;rw[z]at a1 b1;rw[a1,b1,hb]
 rw[e]
noncomputable def fJ(c:List Pt):List Pt:=aI (sw c)
def AB(c:List Pt):fJ (aI c)=fJ c:=wj (lX c)
def La(c:List Pt):bf (sw c)=gz c:=by
 induction c with
 |nil=>rfl
 |cons p c ih=>cases p<;>simp only[sw,T6,Pt.sw,kC,mR,kD,yo,yp,yq]at ih ⊢<;>omega
noncomputable def bq:List Pt->List Nat->Bool
 |[],t=>t.isEmpty
 |.keep n :: c,t=>decide (n<=t.length)&&bq c (t.drop n)
 |.drop s :: c,t=>s.isPrefixOf t&&bq c (t.drop s.length)
 |.put _ :: c,t=>bq c t
noncomputable def aQ:List Pt->List Nat->List Nat
 |[],_=>[]
 |.keep n :: c,t=>t.take n++aQ c (t.drop n)
 |.drop s :: c,t=>aQ c (t.drop s.length)
 |.put s :: c,t=>s++aQ c t
noncomputable def aR:List (List Nat)->List Nat->Bool
 |[],[]=>true
 |x :: a,c :: t=>(decide (x=[]) ||decide (x=[c]))&&aR a t
 |_,_=>false
def AD(n:Nat)(a:List (List Nat)):∀t,aR (List.replicate n []++a) t=(decide (n<=t.length)&&aR a (t.drop n)):=by
 induction n with
 |zero=>intro t;simp
 |succ n ih=>
  intro t;cases t with
  |nil=>simp[Ut,aR]
  |cons c t=>simp[Ut,aR,ih]
def AE(s:List Nat)(a:List (List Nat)):∀t,aR ((s.map λc=>[c])++a) t=(s.isPrefixOf t&&aR a (t.drop s.length)):=by
 induction s with
 |nil=>intro t;simp
 |cons c s ih=>
  intro t;cases t with
  |nil=>simp[aR]
  |cons d t=>
   simp only[T6,WJ,aR,ih,List.isPrefixOf,V1,Xc];by_cases h:c=d<;>simp[h]
def gc(c:List Pt):∀t,bq c t=aR (asks c) t:=by
 induction c with
 |nil=>intro t;cases t<;>rfl
 |cons p c ih=>
  intro t;have e:asks (p :: c)=p.asks++asks c:=by simp[asks]
  rw[e];cases p with
  |keep n=>simp[bq,Pt.asks,AD,ih]
  |drop s=>simp[bq,Pt.asks,AE,ih]
  |put s=>simp[bq,Pt.asks,ih]
def kF(c:List Pt)(t:List Nat):bq (aI c) t=bq c t:=by rw[gc,gc,fF]
noncomputable def pick(t:List Nat):Tq->List Nat
 |.at i=>(t[i]?).toList
 |.sg c=>[c]
def AF(c:List Pt):∀(t:List Nat) (k:Nat),aQ c (t.drop k)=(told k c).flatMap (pick t):=by
 induction c with
 |nil=>intro t k;rfl
 |cons p c ih=>
  intro t k;rw[told,Y6,<-ih];cases p with
  |put s=>
   simp only[aQ,Pt.told,Pt.asks,Zz,Ys]
   congr 1
   induction s with
   |nil=>rfl
   |cons c s ih=>simp[pick]at ih ⊢;exact ih
  |drop s=>simp[aQ,Pt.told,Pt.asks,Xi]
  |keep n=>
   simp only[aQ,Pt.told,Pt.asks,YU,Yc]
   congr 1
   induction n generalizing k with
   |zero=>simp
   |succ n ihn=>
    rw[WM,V3,Y6,<-ihn];rw[Zl];simp[pick]
def eL(c:List Pt)(t:List Nat):aQ (aI c) t=aQ c t:=by
 have h1:=AF (aI c) t 0;have h2:=AF c t 0;rw[dR,<-h2]at h1;simpa using h1
def nF(c:List Pt):∀t,bq c t=true->bq (sw c) (aQ c t)=true/\aQ (sw c) (aQ c t)=t:=by
 induction c with
 |nil=>intro t h;simp[bq]at h;subst h;simp[sw,bq,aQ]
 |cons p c ih=>
  intro t h;cases p with
  |keep n=>
   simp only[bq,Lf,WN]at h;obtain⟨h1,h2⟩:=ih _ h.2;have hl:(t.take n).length=n:=by simp;omega
   simp only[sw,T6,Pt.sw,aQ,bq]at h1 h2 ⊢;have e1:(t.take n++aQ c (t.drop n)).drop n=aQ c (t.drop n):=by rw[List.drop_append_of_le_length (by omega),WV (by omega)];rfl
   have e2:(t.take n++aQ c (t.drop n)).take n=t.take n:=by rw[List.take_append_of_le_length (by omega),List.take_take,Nat.min_self]
   rw[e1,e2,h1,h2];simp;omega
  |drop s=>
   simp only[bq,Lf]at h;obtain⟨h1,h2⟩:=ih _ h.2;simp only[sw,T6,Pt.sw,aQ,bq]at h1 h2 ⊢;rw[h2];refine⟨h1,?_⟩;obtain⟨r,rfl⟩:=List.isPrefixOf_iff_prefix.mp h.1;simp
  |put s=>
   simp only[bq]at h;obtain⟨h1,h2⟩:=ih _ h;simp only[sw,T6,Pt.sw,aQ,bq]at h1 h2 ⊢;simp[h1,h2]
noncomputable def CV:S:=.set 2 (.c (.int 0))
noncomputable def CW(bK:Nat):Ss:=(.cons (.iff (.an (.cmp .eq (.ix (.v 3) (.c (.int 0))) (.c (.str [100,114,111,112]))) (.cmp .ne (.sl (.v 1) (.yes (.v 2)) (.yes (.bin .add (.v 2) (.cl bK (.cons (.v 3) .nil))))) (.ix (.v 3) (.c (.int 1))))) (.cons (.ret (.c (.bl false))) .nil) .nil) (.cons (.iff (.cmp .ne (.ix (.v 3) (.c (.int 0))) (.c (.str [112,117,116]))) (.cons (.set 2 (.bin .add (.v 2) (.cl bK (.cons (.v 3) .nil)))) .nil) .nil) .nil))
noncomputable def CY(bK:Nat):S:=.for (.one 3) (.seq (.v 0)) (CW bK)
noncomputable def CZ:S:=.ret (.cmp .eq (.v 2) (.bi .len (.cons (.v 1) .nil)))
noncomputable def AG(bK:Nat):Fn:=⟨2,4,(.cons CV (.cons (CY bK) (.cons CZ .nil)))⟩
noncomputable def C3(uo:Nat):S:=.iff (.nt (.cl uo (.cons (.v 0) (.cons (.v 1) .nil)))) (.cons (.fU 0) .nil) .nil
noncomputable def C4:S:=.set 2 (.lst .nil)
noncomputable def C5:S:=.set 3 (.c (.int 0))
noncomputable def C6:Ss:=(.cons (.iff (.cmp .eq (.v 4) (.c (.str [112,117,116]))) (.cons (.exp (.me .append (.v 2) (.cons (.v 5) .nil))) .nil) (.cons (.iff (.cmp .eq (.v 4) (.c (.str [100,114,111,112]))) (.cons (.set 3 (.bin .add (.v 3) (.bi .len (.cons (.v 5) .nil)))) .nil) (.cons (.exp (.me .append (.v 2) (.cons (.sl (.v 1) (.yes (.v 3)) (.yes (.bin .add (.v 3) (.v 5)))) .nil))) (.cons (.set 3 (.bin .add (.v 3) (.v 5))) .nil))) .nil)) .nil)
noncomputable def C7:S:=.for (.many [4,5]) (.seq (.v 0)) C6
noncomputable def C8:S:=.ret (.me .join (.c (.str [])) (.cons (.v 2) .nil))
noncomputable def Lb(uo:Nat):Fn:=⟨2,6,(.cons (C3 uo) (.cons C4 (.cons C5 (.cons C7 (.cons C8 .nil)))))⟩
noncomputable def yr(bX:Nat):S:=.ret (.cl bX (.cons (.gZ (.comp (.tup (.cons (.iO [(.str [107,101,101,112],.str [107,101,101,112]),(.str [112,117,116],.str [100,114,111,112]),(.str [100,114,111,112],.str [112,117,116])] (.v 1)) (.cons (.v 2) .nil))) (.many [1,2]) (.seq (.v 0)) .no)) .nil))
noncomputable def C9(bX:Nat):Fn:=⟨1,3,(.cons (yr bX) .nil)⟩
noncomputable def uV(bX:Nat):S:=.ret (.cl bX (.cons (.tup (.cons (.tup (.cons (.c (.str [107,101,101,112])) (.cons (.v 0) .nil))) .nil)) .nil))
noncomputable def jy(bX:Nat):Fn:=⟨1,1,(.cons (uV bX) .nil)⟩
def AH{α:Type}(l:List α)(p k:Nat):cut l (some (p:Int)) (some ((p:Int)+k))=(l.drop p).take k:=by
 have h1:¬ (p:Int)<0:=by omega
 have h2:¬ (p:Int)+k<0:=by omega
 have h3:((p:Int)+k).toNat=p+k:=by omega
 simp only[cut,aL,h1,h2,WE,h3,XQ];by_cases hp:p<=l.length
 .rw[Xv hp];by_cases hk:p+k<=l.length
  .rw[Xv hk];congr 1;omega
  .rw[Yu (by omega),Wy (by simp),Wy (by simp;omega)]
 .have e1:min p l.length=l.length:=by omega
  rw[e1,WV (Et _),WV (by omega)];simp
def pre_take{s t:List Nat}:s.isPrefixOf t=decide (t.take s.length=s):=by
 cases h:s.isPrefixOf t with
 |true=>
  obtain⟨r,rfl⟩:=List.isPrefixOf_iff_prefix.mp h;simp
 |false=>
  symm
  rw[XI];intro e;have:s.isPrefixOf t=true:=List.isPrefixOf_iff_prefix.mpr (by have z:=List.take_prefix s.length t;rw[e]at z;exact z);rw[h]at this;cases this
def wk(a b:List Pt):bf (a++b)=bf a+bf b:=by simp[bf,tot]
def wm{c:List Pt}:∀{t:List Nat},bq c t=true->t.length=bf c:=by
 induction c with
 |nil=>intro t h;simp[bq]at h;subst h;rfl
 |cons p c ih=>
  intro t h;cases p with
  |keep n=>simp only[bq,Lf,WN]at h;have:=ih h.2;rw[kC];simp at this;omega
  |drop s=>
   simp only[bq,Lf]at h;have h2:=ih h.2;obtain⟨r,rfl⟩:=List.isPrefixOf_iff_prefix.mp h.1;rw[mR];simp at h2 ⊢;omega
  |put s=>rw[kD];exact ih h
def uq(c:List Pt):∀t,(aQ c t).length<=t.length+tot c:=by
 induction c with
 |nil=>intro t;simp[aQ]
 |cons p c ih=>
  intro t;rw[bU];cases p with
  |keep n=>have:=ih (t.drop n);simp[aQ,Pt.n]at this ⊢;omega
  |drop s=>have:=ih (t.drop s.length);simp[aQ,Pt.n]at this ⊢;omega
  |put s=>have:=ih t;simp[aQ,Pt.n]at this ⊢;omega
section
variable{F:List Fn}{w n aD jr bL aT i:Nat}
def Dc(c:List Pt)(t:List Nat)(q:Nat)(p:Pt)(l:List Pt)(h:bq c t=(decide (q<=t.length)&&bq (p :: l) (t.drop q))) :
  (dh p=true->(∃s,p=.drop s/\(if (t.drop q).take s.length=s then bq c t=(decide (q+s.length<=t.length)&&bq l (t.drop (q+s.length)))else bq c t=false)))/\
  (dh p=false->bq c t=(decide (q+bf [p]<=t.length)&&bq l (t.drop (q+bf [p])))):=by
 cases p with
 |drop s=>
  refine⟨λ_=>⟨s,rfl,?_⟩,λz=>by simp[dh]at z⟩;simp only[bq,pre_take,Yc]at h;split
  .rename_i hs;rw[h];simp only[hs,decide_true,Bool.true_and];have hl:=VZ List.length hs;simp at hl;by_cases hq:q<=t.length
   .by_cases hq2:q+s.length<=t.length
    .simp[hq,hq2]
    .omega
   .have:¬ q+s.length<=t.length:=by omega
    simp[hq,this]
  .rename_i hs;rw[h];simp[hs]
 |keep k=>
  refine⟨λz=>by simp[dh]at z,λ_=>?_⟩;have e:bf [.keep k]=k:=by rw[kC];rfl
  rw[h,e];simp only[bq,Yc,Xa];by_cases hq:q<=t.length
  .by_cases hq2:q+k<=t.length
   .have:k<=t.length - q:=by omega
    simp[hq,hq2,this]
   .have:¬ k<=t.length - q:=by omega
    simp[hq2,this]
  .have:¬ q+k<=t.length:=by omega
   simp[hq,this]
 |put s=>
  refine⟨λz=>by simp[dh]at z,λ_=>?_⟩;have e:bf [.put s]=0:=by rw[kD];rfl
  rw[h,e];simp[bq]
def De(hs:F[aD]?=some eW)(hf:F[i]?=some (AG aD))(c:List Pt)(t:List Nat)(h1:tot c<=10000)(h2:t.length<=10000):run F w (n+2) i [.val (aO c),.val (.str t)]=some (.bl (bq c t),[]):=by
 refine bW hf rfl ?_;refine ai (aU (by repeat array_get_dec) rfl rfl ?_);refine ai (iX (vs:=c.map Pt.v) (iK (jd rfl) rfl) ?_);refine er (e:=Pt.v) (λp l fr=>p++l=c/\bq c t=(decide (bf p<=t.length)&&bq l (t.drop (bf p)))/\∃a,vo a/\fr=[some (.val (aO c)),some (.val (.str t)),some (.val (.int (bf p))),a]) (λp x l fr ⟨hpl,hfit,a,ha,hfr⟩=>?_) (λp fr ⟨hpl,hfit,a,ha,hfr⟩=>?_) c [] _ ⟨rfl,by simp[bf,tot],none,.none,rfl⟩
 .subst hfr;have t6:tot p+x.n+tot l=tot c:=by rw[<-hpl,fQ,bU];omega
  have sz:=λfr=>dj (fr:=fr) (jn (w:=w) (n:=n) hs x (by omega));obtain⟨k1,k2⟩:=Dc c t (bf p) x l hfit;have iy:(p++[x])++l=c:=by simpa using hpl
  have eb:bf (p++[x])=bf p+bf [x]:=wk p [x];have ei:((bf (p++[x]):Nat):Int)=(bf p:Int)+(bf [x]:Nat):=by rw[eb];simp
  cases x with
  |drop s=>
   obtain⟨s',e,k1⟩:=k1 rfl;cases e;have e2:bf [.drop s]=s.length:=by rw[mR];rfl
   rw[e2]at eb ei;have cu:fC (.str t) (some (bf p:Int)) (some ((bf p:Int)+((Pt.drop s).n:Nat)))=some (.str ((t.drop (bf p)).take s.length)):=by rw[eX];exact VZ (λz=>some (V.str z)) (AH t (bf p) s.length)
   by_cases hx:(t.drop (bf p)).take s.length=s
   .rw[GQ hx]at k1;have ne:cop .ne (.str ((t.drop (bf p)).take s.length)) (.str s)=some false:=by rw[fq,XE hx];rfl
    refine dg (bind1 rfl ha) (ai (aH (b:=false) (dH (b2:=false) (aJ rfl (by repeat array_get_dec) rfl) (aJ rfl (by (repeat (first|array_get_dec|exact sz _))) rfl)) (λh=>absurd h (by decide)) λ_=>av ?_));refine ai (aH (by repeat array_get_dec) (λ_=>?_) λh=>absurd h (by decide));refine ai (aU (by (repeat (first|array_get_dec|exact sz _))) rfl rfl (av (av ?_)));rw[cL];exact⟨iy,by rw[eb];exact k1,some (.val (Pt.drop s).v),.val,by rw[ei];rfl⟩
   .rw[Us hx]at k1;have ne:cop .ne (.str ((t.drop (bf p)).take s.length)) (.str s)=some true:=by rw[fq,Wh hx];rfl
    refine dg (bind1 rfl ha) (ai (aH (b:=true) (dH (b2:=true) (aJ rfl (by repeat array_get_dec) rfl) (aJ rfl (by (repeat (first|array_get_dec|exact sz _))) rfl)) (λ_=>?_) λh=>absurd h (by decide)));refine ai (bJ (by repeat array_get_dec) ?_);show nx _ _ _ _ _ _;rw[k1];exact⟨rfl,rfl⟩
  |keep k=>
   have k2:=k2 rfl;have e2:bf [.keep k]=k:=by rw[kC];rfl
   rw[e2]at k2 eb ei;refine dg (bind1 rfl ha) (ai (aH (b:=false) (jX (aJ rfl (by repeat array_get_dec) rfl)) (λh=>absurd h (by decide)) λ_=>av ?_));refine ai (aH (by repeat array_get_dec) (λ_=>?_) λh=>absurd h (by decide));refine ai (aU (by (repeat (first|array_get_dec|exact sz _))) rfl rfl (av (av ?_)));rw[cL];exact⟨iy,by rw[eb];exact k2,some (.val (Pt.keep k).v),.val,by rw[ei];rfl⟩
  |put s=>
   have k2:=k2 rfl;have e2:bf [.put s]=0:=by rw[kD];rfl
   rw[e2]at k2 eb;refine dg (bind1 rfl ha) (ai (aH (b:=false) (jX (aJ rfl (by repeat array_get_dec) rfl)) (λh=>absurd h (by decide)) λ_=>av ?_));refine ai (aH (by repeat array_get_dec) (λh=>absurd h (by decide)) λ_=>av (av ?_));rw[cL];exact⟨iy,by rw[eb];exact k2,some (.val (Pt.put s).v),.val,by rw[eb];rfl⟩
 .subst hfr;simp at hpl;subst hpl;have e:decide ((bf p:Int)=(t.length:Nat))=bq p t:=by
   rw[hfit];simp only[bq];by_cases hq:bf p=t.length
   .have:(bf p:Int)=t.length:=by omega
    simp[this,hq]
   .have:¬ (bf p:Int)=t.length:=by omega
    simp[this];intro h;omega
  have ln:dw .len [.str t]=some (.int (t.length:Nat)):=WQ (by omega);have eq:cop .eq (.int (bf p)) (.int (t.length:Nat))=some (bq p t):=by rw[Cu,e]
  have sh:fh [some (.val (aO p)),some (.val (.str t)),some (.val (.int (bf p))),a]=[some (.val (aO p)),some (.val (.str t)),some (.val (.int (bf p))),a]:=by
   show _ :: _ :: _ :: [a.map Sl.ek]=_;rw[cP ha];rfl
  refine ai (bJ (v:=.bl (bq p t)) (af:=[some (.val (aO p)),some (.val (.str t)),some (.val (.int (bf p))),a]) ?_ ⟨rfl,rfl⟩);rw[sh];repeat array_get_dec
def nG(hs:F[aD]?=some eW)(hf:F[jr]?=some (AG aD))(hd:F[i]?=some (Lb jr))(c:List Pt)(t:List Nat)(h1:tot c<=10000)(h2:t.length<=10000)(h3:c.length<=10000)(h:bq c t=true):run F w (n+3) i [.val (aO c),.val (.str t)]=some (.str (aQ c t),[]):=by
 refine bW hd rfl ?_;have ft:=λfr=>call2 (fr:=fr) (De (w:=w) (n:=n) hs hf c t h1 h2);rw[h]at ft;refine ai (aH (b:=false) (Ed (aJ (b:=true) rfl (by (repeat (first|array_get_dec|exact ft _))) rfl)) (λh=>absurd h (by decide)) λ_=>av ?_);refine ai (gR (l:=[]) (by repeat array_get_dec) rfl rfl ?_);refine ai (aU (by repeat array_get_dec) rfl rfl ?_);refine ai (iX (vs:=c.map Pt.v) (iK (jd rfl) rfl) ?_);refine er (e:=Pt.v) (λp l fr=>p++l=c/\∃ps a b,vo a/\vo b/\ps.length<=p.length/\ps.flatten++aQ l (t.drop (bf p))=aQ c t/\fr=[some (.val (aO c)),some (.val (.str t)),some (.own (ps.map V.str)),some (.val (.int (bf p))),a,b]) (λp x l fr ⟨hpl,ps,a,b,ha,hb,hl,hd,hfr⟩=>?_) (λp fr ⟨hpl,ps,a,b,ha,hb,hl,hd,hfr⟩=>?_) c [] _ ⟨rfl,[],none,none,.none,.none,by simp,by simp[bf,tot],rfl⟩
 .subst hfr;have iy:(p++[x])++l=c:=by simpa using hpl
  have eb:bf (p++[x])=bf p+bf [x]:=wk p [x];have ei:((bf (p++[x]):Nat):Int)=(bf p:Int)+(bf [x]:Nat):=by rw[eb];simp
  have t6:tot p+x.n+tot l=tot c:=by rw[<-hpl,fQ,bU];omega
  have hlen:p.length+l.length+1=c.length:=by rw[<-hpl];simp;omega
  have ap:∀(fr:Fr) (z:List Nat),gx .append 2 [.str z] fr (some (some (.own (ps.map V.str))))=.ok .bA (fr.set 2 (some (.own ((ps++[z]).map V.str)))):=λfr z=>by
   rw[V3];exact fP (by simp;omega)
  cases x with
  |put s=>
   have e2:bf [.put s]=0:=by rw[kD];rfl
   rw[e2]at eb;refine dg (jx rfl ha rfl hb) (ai (aH (by repeat array_get_dec) (λ_=>?_) λh=>absurd h (by decide)));refine ai (dQ (by (repeat (first|array_get_dec|exact ap _ _))) (av (av ?_)));rw[cL];exact⟨iy,ps++[s],some (.val (.str kr)),some (.val (.str s)),.val,.val,by simp;omega,by rw[eb];simpa[aQ]using hd,by rw[eb];rfl⟩
  |drop s=>
   have e2:bf [.drop s]=s.length:=by rw[mR];rfl
   rw[e2]at eb ei;have UA:s.length<=tot c:=by simp only[Pt.n]at t6;omega
   have ln:dw .len [.str s]=some (.int (s.length:Nat)):=WQ (by omega);refine dg (jx rfl ha rfl hb) (ai (aH (by repeat array_get_dec) (λh=>absurd h (by decide)) λ_=>?_));refine ai (aH (by repeat array_get_dec) (λ_=>?_) λh=>absurd h (by decide));refine ai (aU (by repeat array_get_dec) rfl rfl (av (av (av ?_))));rw[cL];exact⟨iy,ps,some (.val (.str iY)),some (.val (.str s)),.val,.val,by simp;omega,by rw[eb];simpa[aQ]using hd,by rw[ei];rfl⟩
  |keep k=>
   have e2:bf [.keep k]=k:=by rw[kC];rfl
   rw[e2]at eb ei;have cu:fC (.str t) (some (bf p:Int)) (some ((bf p:Int)+(k:Nat)))=some (.str ((t.drop (bf p)).take k)):=by rw[eX,AH]
   refine dg (jx rfl ha rfl hb) (ai (aH (by repeat array_get_dec) (λh=>absurd h (by decide)) λ_=>?_));refine ai (aH (by repeat array_get_dec) (λh=>absurd h (by decide)) λ_=>?_);refine ai (dQ (by (repeat (first|array_get_dec|exact ap _ _))) ?_);refine ai (aU (by repeat array_get_dec) rfl rfl (av (av (av ?_))));rw[cL];exact⟨iy,ps++[(t.drop (bf p)).take k],some (.val (.str dm)),some (.val (.int k)),.val,.val,by simp;omega,by rw[eb];simpa[aQ]using hd,by rw[ei];rfl⟩
 .subst hfr;simp at hpl;subst hpl;have hd':ps.flatten=aQ p t:=by simpa[aQ]using hd
  have dl:=uq p t;have hj:=Ea (l:=ps) (by rw[hd'];omega);rw[hd']at hj;have sh:fh [some (.val (aO p)),some (.val (.str t)),some (.own (ps.map V.str)),some (.val (.int (bf p))),a,b]=[some (.val (aO p)),some (.val (.str t)),some (.val (.lst (ps.map V.str))),some (.val (.int (bf p))),a,b]:=by
   show _ :: _ :: _ :: _ :: a.map Sl.ek :: [b.map Sl.ek]=_;rw[cP ha,cP hb];rfl
  refine ai (bJ (v:=.str (aQ p t)) (af:=[some (.val (aO p)),some (.val (.str t)),some (.val (.lst (ps.map V.str))),some (.val (.int (bf p))),a,b]) ?_ ⟨rfl,rfl⟩);rw[sh];repeat array_get_dec
def Lc(c:List Pt):tot (sw c)=tot c:=by
 induction c with
 |nil=>rfl
 |cons p c ih=>simp only[sw,T6,bU]at ih ⊢;rw[ih];cases p<;>rfl
def yt(hst:F[aT]?=some dz)(hf:F[bL]?=some (gS aT))(hu:F[i]?=some (C9 bL))(c:List Pt)(h1:c.length<=10000)(h2:tot c<=10000):run F w (n+3) i [.val (aO c)]=some (aO (fJ c),[]):=by
 have hl:(c.map λp=>p.sw.v).length<=big:=by rw[Wa];exact V0 h1 (by decide)
 have cf:=λfr=>dj (fr:=fr) (eU (w:=w) (n:=n) hst hf (sw c) (by rw[sw,Wa];exact h1) (by rw[Lc];exact h2));rw[show aO (sw c)=.tup (c.map λp=>p.sw.v)by simp only[aO,sw,Xw];rfl]at cf;exact bW hu rfl (ai (bJ (aY (ay rfl (oV (tV (iK (jd rfl) rfl) rfl (rm _ (λp=>p.sw.v) c λp _=>by
  cases p<;>exact Ak rfl (gQ (aB (Ai (au rfl) rfl) (aB (au rfl) aP)) mK)) (gb hl)) (jm hl)) aG) (cf _)) ⟨rfl,rfl⟩))
def uW(hst:F[aT]?=some dz)(hf:F[bL]?=some (gS aT))(hu:F[i]?=some (jy bL))(m:Nat)(h:m<=10000):run F w (n+3) i [.val (.int m)]=some (aO (aI [.keep m]),[]):=
 bW hu rfl (ai (bJ (aY (ay rfl (gQ (aB (gQ (aB (bD rfl) (aB (au rfl) aP)) mK) aP) rM) aG) (dj (eU hst hf [.keep m] (Nat.succ_le_of_lt (Nat.zero_lt_succ _)) h))) ⟨rfl,rfl⟩))
end
end Pv
namespace Pv
open Ev (rep)
def AI(ns:List Int)(at_:Int)(s:List Nat)(k:Nat):tot (iZ ns at_ s k)<=3:=by
 have h1:=jW ns (at_+4*k+2) (many:=2) (by decide);have h2:=jV ns (at_+4*k+2) (many:=2) (by decide);unfold iZ;rw[fQ];have a:tot (if cH ns (at_+4*k) 4=0 then [Pt.put (rep (1+cH ns (at_+4*k+2) 2).toNat [[97,98,122].getD (cH ns (at_+4*k+1) 3).toNat 0])]else [])<=2:=by
  split
  .simp[tot,Pt.n,rep];omega
  .simp[tot]
 cases s[k]? with
 |none=>simp[tot]at a ⊢;omega
 |some c=>
  have b:tot [if 0<cH ns (at_+4*k+3) 3 then Pt.keep 1 else Pt.drop [c]]<=1:=by split<;>simp[tot,Pt.n]
  simp only at b ⊢;omega
theorem rz(ns:List Int)(at_:Int)(s:List Nat):∀k,tot (eT ns at_ s k)<=3*k
 |0=>by simp[eT,tot]
 |k+1=>by
  have h1:=AI ns at_ s k;have h2:=rz ns at_ s k;rw[ja,fQ];omega
theorem ur:∀{a b:List (List Nat)}{t u:List Nat},aR a t=true->aR b u=true->aR (a++b) (t++u)=true
 |[],_,[],_,_,hb=>hb
 |x :: a,b,c :: t,u,ha,hb=>by
  simp only[aR,Lf]at ha;simp only[WJ,aR,Lf];exact⟨ha.1,ur ha.2 hb⟩
 |[],_,_ :: _,_,ha,_=>by simp[aR]at ha
 |_ :: _,_,[],_,ha,_=>by simp[aR]at ha
def GH(ns:List Int)(at_:Int)(s:List Nat)(k:Nat):aR (asks (iZ ns at_ s k)) (s[k]?).toList=true:=by
 unfold iZ;rw[dW];have a:asks (if cH ns (at_+4*k) 4=0 then [Pt.put (rep (1+cH ns (at_+4*k+2) 2).toNat [[97,98,122].getD (cH ns (at_+4*k+1) 3).toNat 0])]else [])=[]:=by
  split<;>simp[asks,Pt.asks]
 rw[a];cases s[k]? with
 |none=>simp[asks,aR]
 |some c=>simp only;split<;>simp[asks,Pt.asks,aR]
theorem AJ(ns:List Int)(at_:Int)(s:List Nat):∀k,aR (asks (eT ns at_ s k)) (s.take k)=true
 |0=>by simp[eT,asks,aR]
 |k+1=>by
  rw[ja,dW,Zl];exact ur (AJ ns at_ s k) (GH ns at_ s k)
def GI(ns:List Int)(at_:Int)(s:List Nat):bq (chg ns at_ s) s=true:=by
 have:=AJ ns at_ s (s.length+1);rw[Wy (by omega)]at this;rw[gc];exact this
end Pv
namespace Pv
inductive At where
 |k|d (c:Nat)|p (c:Nat)
noncomputable def Pt.aF:Pt->List At
 |.keep n=>List.replicate n .k
 |.drop s=>s.map .d
 |.put s=>s.map .p
noncomputable def aF(c:List Pt):List At:=c.flatMap Pt.aF
def gA(a b:List Pt):aF (a++b)=aF a++aF b:=by simp[aF]
def cF(p:Pt)(c:List Pt):aF (p :: c)=p.aF++aF c:=by simp[aF]
def uu(p:Pt):p.aF.length=p.n:=by cases p<;>simp[Pt.aF,Pt.n]
def fR(c:List Pt):(aF c).length=tot c:=by
 induction c with
 |nil=>rfl
 |cons p c ih=>rw[cF,VX,uu,ih,bU]
noncomputable def tA:Nat->List At->List Tq
 |_,[]=>[]
 |i,.k :: a=>.at i :: tA (i+1) a
 |i,.d _ :: a=>tA (i+1) a
 |i,.p c :: a=>.sg c :: tA i a
noncomputable def aA:List At->List (List Nat)
 |[]=>[]
 |.k :: a=>[] :: aA a
 |.d c :: a=>[c] :: aA a
 |.p _ :: a=>aA a
noncomputable def dA:List At->List Nat->List Nat
 |[],_=>[]
 |.k :: a,t=>t.take 1++dA a (t.drop 1)
 |.d _ :: a,t=>dA a (t.drop 1)
 |.p c :: a,t=>c :: dA a t
noncomputable def lY:At->At
 |.k=>.k
 |.d c=>.p c
 |.p c=>.d c
noncomputable def cA:List At->Nat
 |[]=>0
 |.k :: a=>cA a
 |_ :: a=>cA a+1
theorem lZ:∀a b:List At,aA (a++b)=aA a++aA b
 |[],_=>rfl
 |.k :: a,b=>by simp[aA,lZ a b]
 |.d c :: a,b=>by simp[aA,lZ a b]
 |.p c :: a,b=>by simp[aA,lZ a b]
theorem mh:∀(a b:List At) (i:Nat),tA i (a++b)=tA i a++tA (i+(aA a).length) b
 |[],_,_=>rfl
 |.k :: a,b,i=>by simp[tA,aA,mh a b,XU,Xi 1]
 |.d c :: a,b,i=>by simp[tA,aA,mh a b,XU,Xi 1]
 |.p c :: a,b,i=>by simp[tA,aA,mh a b]
theorem mj:∀a b:List At,cA (a++b)=cA a+cA b
 |[],b=>by simp[cA]
 |.k :: a,b=>by simp[cA,mj a b]
 |.d c :: a,b=>by simp[cA,mj a b];omega
 |.p c :: a,b=>by simp[cA,mj a b];omega
def Ep(p:Pt):aA p.aF=p.asks:=by
 cases p with
 |keep n=>simp only[Pt.aF,Pt.asks];induction n<;>simp_all [Ut,aA]
 |drop s=>simp only[Pt.aF,Pt.asks];induction s<;>simp_all [aA]
 |put s=>simp only[Pt.aF,Pt.asks];induction s<;>simp_all [aA]
def NO(p:Pt):∀i,tA i p.aF=p.told i:=by
 cases p with
 |keep n=>
  simp only[Pt.aF,Pt.told];induction n with
  |zero=>intro i;rfl
  |succ n ih=>intro i;simp only[Ut,tA,ih,YL,T6,Xw];simp[Zm,XU,Xi 1]
 |drop s=>intro i;simp only[Pt.aF,Pt.told];induction s generalizing i<;>simp_all [tA]
 |put s=>intro i;simp only[Pt.aF,Pt.told];induction s generalizing i<;>simp_all [tA]
def NP(p:Pt):cA p.aF=cst [p]:=by
 cases p with
 |keep n=>simp only[Pt.aF];rw[Ei];induction n<;>simp_all [Ut,cA,cst,tot]
 |drop s=>simp only[Pt.aF];rw[Ej];induction s<;>simp_all [cA,cst,tot]
 |put s=>simp only[Pt.aF];rw[Ek];induction s<;>simp_all [cA,cst,tot]
def dX(c:List Pt):asks c=aA (aF c):=by
 induction c with
 |nil=>rfl
 |cons p c ih=>rw[cF,lZ,Ep,<-ih];simp[asks]
def eV(c:List Pt):∀i,told i c=tA i (aF c):=by
 induction c with
 |nil=>intro i;rfl
 |cons p c ih=>intro i;rw[cF,mh,NO,Ep,<-ih,told]
def je(c:List Pt):cst c=cA (aF c):=by
 induction c with
 |nil=>rfl
 |cons p c ih=>
  rw[cF,mj,NP,<-ih];simp[cst,tot];cases p<;>simp[Xm,eB]
def o7(c:List Pt):aF (sw c)=(aF c).map lY:=by
 induction c with
 |nil=>rfl
 |cons p c ih=>
  have:aF (sw (p :: c))=p.sw.aF++aF (sw c):=by simp[aF,sw]
  rw[this,ih,cF,V3]
  congr 1
  cases p<;>simp[Pt.sw,Pt.aF,lY,Zm]
def gm:∀(c:List Pt) (t:List Nat),aQ c t=dA (aF c) t:=by
 have k:∀(n:Nat) (a:List At) (t:List Nat),dA (List.replicate n .k++a) t=t.take n++dA a (t.drop n):=λn=>by
  induction n with
  |zero=>intro a t;simp
  |succ n ih=>
   intro a t;simp only[Ut,WJ,dA,ih,Yc];cases t with
   |nil=>simp
   |cons c t=>simp[Xi 1]
 have d:∀(s:List Nat) (a:List At) (t:List Nat),dA (s.map .d++a) t=dA a (t.drop s.length):=λs=>by
  induction s with
  |nil=>intro a t;simp
  |cons c s ih=>intro a t;simp[dA,ih,Xi 1]
 have p:∀(s:List Nat) (a:List At) (t:List Nat),dA (s.map .p++a) t=s++dA a t:=λs=>by
  induction s with
  |nil=>intro a t;simp
  |cons c s ih=>intro a t;simp[dA,ih]
 intro c;induction c with
 |nil=>intro t;rfl
 |cons q c ih=>
  intro t;rw[cF];cases q with
  |keep n=>simp only[Pt.aF,k,aQ,ih]
  |drop s=>simp only[Pt.aF,d,aQ,ih]
  |put s=>simp only[Pt.aF,p,aQ,ih]
noncomputable def AK:List At->Bool
 |.d _ :: _=>false
 |_=>true
inductive Th:List At->List At->List At->Prop
 |nil:Th [] [] []
 |d {a b r c}:Th a b r->Th (.d c :: a) b (.d c :: r)
 |p {a b r c}:AK a=true->Th a b r->Th a (.p c :: b) (.p c :: r)
 |kk {a b r}:Th a b r->Th (.k :: a) (.k :: b) (.k :: r)
 |kd {a b r c}:Th a b r->Th (.k :: a) (.d c :: b) (.d c :: r)
 |pk {a b r c}:Th a b r->Th (.p c :: a) (.k :: b) (.p c :: r)
 |pd {a b r c}:Th a b r->Th (.p c :: a) (.d c :: b) r
noncomputable def sub(L:List Tq):Tq->Tq
 |.at j=>L.getD j (.sg 0)
 |.sg c=>.sg c
def o8{L M:List Tq}{q:Tq}{j:Nat}(h:L.length=j):sub (L++q :: M) (.at j)=q:=by
 subst h;simp[sub]
def Th.told{a b r:List At}(h:Th a b r):∀(i j:Nat) (L:List Tq),L.length=j->tA i r=(tA j b).map (sub (L++tA i a)):=by
 induction h with
 |nil=>intro i j L hL;rfl
 |d h ih=>intro i j L hL;exact ih (i+1) j L hL
 |p _ h ih=>intro i j L hL;simp only[tA,T6];rw[ih i j L hL];rfl
 |kk h ih=>
  intro i j L hL;simp only[tA,T6];rw[ih (i+1) (j+1) (L++[.at i]) (by simp[hL]),o8 hL];simp
 |kd h ih=>
  intro i j L hL;simp only[tA];rw[ih (i+1) (j+1) (L++[.at i]) (by simp[hL])];simp
 |@pk _ _ _ c h ih=>
  intro i j L hL;simp only[tA,T6];rw[ih i (j+1) (L++[.sg c]) (by simp[hL]),o8 hL];simp
 |@pd _ _ _ c h ih=>
  intro i j L hL;simp only[tA];rw[ih i (j+1) (L++[.sg c]) (by simp[hL])];simp
def Th.back{a b r:List At}(h:Th a b r):∀(i j:Nat) (L:List Tq),L.length=j->tA i (r.map lY)=(tA j (a.map lY)).map (sub (L++tA i (b.map lY))):=by
 induction h with
 |nil=>intro i j L hL;rfl
 |d h ih=>intro i j L hL;simp only[T6,lY,tA];rw[ih i j L hL];rfl
 |p _ h ih=>intro i j L hL;exact ih (i+1) j L hL
 |kk h ih=>
  intro i j L hL;simp only[T6,lY,tA];rw[ih (i+1) (j+1) (L++[.at i]) (by simp[hL]),o8 hL];simp
 |@kd _ _ _ c h ih=>
  intro i j L hL;simp only[T6,lY,tA];rw[ih i (j+1) (L++[.sg c]) (by simp[hL]),o8 hL];simp
 |pk h ih=>
  intro i j L hL;simp only[T6,lY,tA];rw[ih (i+1) (j+1) (L++[.at i]) (by simp[hL])];simp
 |@pd _ _ _ c h ih=>
  intro i j L hL;simp only[T6,lY,tA];rw[ih i (j+1) (L++[.sg c]) (by simp[hL])];simp
def Th.fit{a b r:List At}(h:Th a b r):∀t,aR (aA a) t=true->aR (aA b) (dA a t)=true->aR (aA r) t=true:=by
 induction h with
 |nil=>intro t h1 _;exact h1
 |d h ih=>
  intro t h1 h2;cases t with
  |nil=>simp[aA,aR]at h1
  |cons x t=>simp only[aA,aR,Lf]at h1 ⊢;exact⟨h1.1,ih t h1.2 h2⟩
 |p _ h ih=>intro t h1 h2;exact ih t h1 h2
 |kk h ih=>
  intro t h1 h2;cases t with
  |nil=>simp[aA,aR]at h1
  |cons x t=>simp only[aA,aR,Lf,dA,WA,XF,Xc,XG,YT]at h1 h2 ⊢;exact⟨h1.1,ih t h1.2 h2.2⟩
 |kd h ih=>
  intro t h1 h2;cases t with
  |nil=>simp[aA,aR]at h1
  |cons x t=>simp only[aA,aR,Lf,dA,WA,XF,Xc,XG,YT]at h1 h2 ⊢;exact⟨h2.1,ih t h1.2 h2.2⟩
 |pk h ih=>intro t h1 h2;simp only[aA,dA,aR,Lf]at h1 h2 ⊢;exact ih t h1 h2.2
 |pd h ih=>intro t h1 h2;simp only[aA,dA,aR,Lf]at h1 h2 ⊢;exact ih t h1 h2.2
def Th.all:∀(n:Nat) (a b:List At) (t:List Nat),a.length+b.length<=n->aR (aA a) t=true->aR (aA b) (dA a t)=true->∃r,Th a b r:=by
 intro n;induction n with
 |zero=>
  intro a b t hn _ _;obtain rfl:a=[]:=List.length_eq_zero_iff.mp (by omega);obtain rfl:b=[]:=List.length_eq_zero_iff.mp (by omega);exact⟨[],.nil⟩
 |succ n ih=>
  intro a b t hn h1 h2;cases a with
  |nil=>
   cases b with
   |nil=>exact⟨[],.nil⟩
   |cons y b=>
    cases y with
    |p c=>obtain⟨r,h⟩:=ih [] b t (by simp at hn ⊢;omega) h1 h2;exact⟨_,.p rfl h⟩
    |k=>simp[aA,dA,aR]at h2
    |d c=>simp[aA,dA,aR]at h2
  |cons x a=>
   by_cases hd:AK (x :: a)=true
   .cases b with
    |nil=>
     cases x with
     |d c=>cases hd
     |k=>cases t<;>simp[aA,dA,aR]at h1 h2
     |p c=>simp[aA,dA,aR]at h2
    |cons y b=>
     cases y with
     |p c=>obtain⟨r,h⟩:=ih (x :: a) b t (by simp at hn ⊢;omega) h1 h2;exact⟨_,.p hd h⟩
     |k=>
      cases x with
      |d c=>cases hd
      |k=>
       cases t with
       |nil=>simp[aA,aR]at h1
       |cons z t=>
        simp[aA,aR,dA]at h1 h2;obtain⟨r,h⟩:=ih a b t (by simp at hn ⊢;omega) h1 h2;exact⟨_,.kk h⟩
      |p c=>
       simp[aA,aR,dA]at h1 h2;obtain⟨r,h⟩:=ih a b t (by simp at hn ⊢;omega) h1 h2;exact⟨_,.pk h⟩
     |d c'=>
      cases x with
      |d c=>cases hd
      |k=>
       cases t with
       |nil=>simp[aA,aR]at h1
       |cons z t=>
        simp[aA,aR,dA]at h1 h2;obtain⟨r,h⟩:=ih a b t (by simp at hn ⊢;omega) h1 h2.2;exact⟨_,.kd h⟩
      |p c=>
       simp[aA,aR,dA]at h1 h2;obtain⟨rfl,h2⟩:=h2;obtain⟨r,h⟩:=ih a b t (by simp at hn ⊢;omega) h1 h2;exact⟨_,.pd h⟩
   .cases x with
    |k=>exact absurd rfl hd
    |p c=>exact absurd rfl hd
    |d c=>
     cases t with
     |nil=>simp[aA,aR]at h1
     |cons z t=>
      simp[aA,aR]at h1;obtain⟨r,h⟩:=ih a b t (by simp at hn ⊢;omega) h1.2 h2;exact⟨_,.d h⟩
def Th.done{a b r:List At}(h:Th a b r):∀t,aR (aA a) t=true->dA r t=dA b (dA a t):=by
 induction h with
 |nil=>intro t _;rfl
 |d h ih=>
  intro t h1;cases t with
  |nil=>simp[aA,aR]at h1
  |cons x t=>simp only[aA,aR,Lf]at h1;simp only[dA];exact ih t h1.2
 |p _ h ih=>intro t h1;simp only[dA];rw[ih t h1]
 |kk h ih=>
  intro t h1;cases t with
  |nil=>simp[aA,aR]at h1
  |cons x t=>simp only[aA,aR,Lf]at h1;simp[dA,ih t h1.2]
 |kd h ih=>
  intro t h1;cases t with
  |nil=>simp[aA,aR]at h1
  |cons x t=>simp only[aA,aR,Lf]at h1;simp[dA,ih t h1.2]
 |pk h ih=>intro t h1;simp[dA,ih t h1]
 |pd h ih=>intro t h1;simp[dA,ih t h1]
def Th.cost{a b r:List At}(h:Th a b r):cA r<=cA a+cA b:=by induction h<;>simp[cA]<;>omega
def Th.len{a b r:List At}(h:Th a b r):r.length<=a.length+b.length:=by induction h<;>simp<;>omega
theorem Th.ds{b r:List At}:∀{s:List Nat}{a:List At},Th (s.map .d++a) b r->∃r',r=s.map .d++r'/\Th a b r'
 |[],a,h=>⟨r,rfl,h⟩
 |c :: s,a,h=>by
  cases h with
  |d h=>obtain⟨r',rfl,h'⟩:=Th.ds h;exact⟨r',rfl,h'⟩
  |p hn h=>cases hn
theorem Th.ps{a r:List At}(hn:AK a=true):∀{s:List Nat}{b:List At},Th a (s.map .p++b) r->∃r',r=s.map .p++r'/\Th a b r'
 |[],b,h=>⟨r,rfl,h⟩
 |c :: s,b,h=>by
  cases h with
  |d h=>cases hn
  |p _ h=>obtain⟨r',rfl,h'⟩:=Th.ps hn h;exact⟨r',rfl,h'⟩
def Th.T3{a b r:List At}:∀{n:Nat},Th (List.replicate n .k++a) (List.replicate n .k++b) r->∃r',r=List.replicate n .k++r'/\Th a b r':=λ{n}=>by
 induction n generalizing r with
 |zero=>intro h;exact⟨r,rfl,h⟩
 |succ n ih=>intro h;cases h with|kk h=>obtain⟨r',rfl,h'⟩:=ih h;exact⟨r',rfl,h'⟩
def Th.T4{a b r:List At}:∀{s:List Nat},Th (List.replicate s.length .k++a) (s.map .d++b) r->∃r',r=s.map .d++r'/\Th a b r':=λ{s}=>by
 induction s generalizing r with
 |nil=>intro h;exact⟨r,rfl,h⟩
 |cons c s ih=>intro h;cases h with|kd h=>obtain⟨r',rfl,h'⟩:=ih h;exact⟨r',rfl,h'⟩
def Th.T5{a b r:List At}:∀{s:List Nat},Th (s.map .p++a) (List.replicate s.length .k++b) r->∃r',r=s.map .p++r'/\Th a b r':=λ{s}=>by
 induction s generalizing r with
 |nil=>intro h;exact⟨r,rfl,h⟩
 |cons c s ih=>intro h;cases h with|pk h=>obtain⟨r',rfl,h'⟩:=ih h;exact⟨r',rfl,h'⟩
theorem Th.PN{a b r:List At}:∀{s s':List Nat},s.length=s'.length->Th (s.map .p++a) (s'.map .d++b) r->s=s'/\Th a b r
 |[],[],_,h=>⟨rfl,h⟩
 |[],_ :: _,hl,_=>by simp at hl
 |_ :: _,[],hl,_=>by simp at hl
 |c :: s,c' :: s',hl,h=>by cases h with|pd h=>obtain⟨rfl,h'⟩:=Th.PN (by simpa using hl) h;exact⟨rfl,h'⟩
def Df{c:List Pt}{t:List Nat}(h:bq c t=true):(aQ c t).length=gz c:=by
 rw[wm (nF c t h).1,La]
end Pv
namespace Pv
open Ev (D br aZ TY BI ME T E Es Eo It S Ss Fn big deep b2i rep bM cR bx aL cut bT cI slots)
noncomputable def Dg(qk:Nat)(nH:Nat):S:=.iff (.cmp .ne (.cl qk (.cons (.v 0) .nil)) (.cl nH (.cons (.v 1) .nil))) (.cons (.fU 0) .nil) .nil
noncomputable def Dh(bX:Nat):S:=.set 2 (.gp (.rev (.cl bX (.cons (.v 0) .nil))))
noncomputable def Di(bX:Nat):S:=.set 3 (.gp (.rev (.cl bX (.cons (.v 1) .nil))))
noncomputable def Dj:S:=.set 4 (.lst .nil)
noncomputable def uv(bK:Nat)(o9:Nat)(jf:Nat):Ss:=(.cons (.iff (.an (.v 2) (.cmp .eq (.ix (.ix (.v 2) (.neg (.c (.int 1)))) (.c (.int 0))) (.c (.str [100,114,111,112])))) (.cons (.exp (.me .append (.v 4) (.cons (.me .pop (.v 2) .nil) .nil))) .nil) (.cons (.iff (.an (.v 3) (.cmp .eq (.ix (.ix (.v 3) (.neg (.c (.int 1)))) (.c (.int 0))) (.c (.str [112,117,116])))) (.cons (.exp (.me .append (.v 4) (.cons (.me .pop (.v 3) .nil) .nil))) .nil) (.cons (.set 5 (.bi .min (.cons (.cl bK (.cons (.ix (.v 2) (.neg (.c (.int 1)))) .nil)) (.cons (.cl bK (.cons (.ix (.v 3) (.neg (.c (.int 1)))) .nil)) .nil)))) (.cons (.exp (.me .extend (.v 4) (.cons (.cl o9 (.cons (.cl jf (.cons (.v 2) (.cons (.v 5) .nil))) (.cons (.cl jf (.cons (.v 3) (.cons (.v 5) .nil))) .nil))) .nil))) .nil))) .nil)) .nil)
noncomputable def Dk(bK:Nat)(o9:Nat)(jf:Nat):S:=.lu (.orr (.v 2) (.v 3)) (uv bK o9 jf)
noncomputable def Dl(bX:Nat):S:=.ret (.cl bX (.cons (.gZ (.v 4)) .nil))
noncomputable def jZ(qk:Nat)(nH:Nat)(bX:Nat)(bK:Nat)(o9:Nat)(jf:Nat):Fn:=⟨2,6,(.cons (Dg qk nH) (.cons (Dh bX) (.cons (Di bX) (.cons Dj (.cons (Dk bK o9 jf) (.cons (Dl bX) .nil))))))⟩
noncomputable def GJ:S:=.iff (.cmp .eq (.ix (.v 1) (.c (.int 0))) (.c (.str [107,101,101,112]))) (.cons (.ret (.lst (.cons (.v 0) .nil))) .nil) .nil
noncomputable def GK:S:=.iff (.cmp .eq (.ix (.v 0) (.c (.int 0))) (.c (.str [107,101,101,112]))) (.cons (.ret (.lst (.cons (.v 1) .nil))) .nil) .nil
noncomputable def GL:S:=.iff (.cmp .ne (.ix (.v 0) (.c (.int 1))) (.ix (.v 1) (.c (.int 1)))) (.cons (.fU 0) .nil) .nil
noncomputable def GN:S:=.ret (.lst .nil)
noncomputable def rS:Fn:=⟨2,2,(.cons GJ (.cons GK (.cons GL (.cons GN .nil))))⟩
noncomputable def AL(nI:Nat):S:=.set 2 (.cl nI (.cons (.me .pop (.v 0) .nil) (.cons (.v 1) .nil)))
noncomputable def AM(bK:Nat):S:=.iff (.cmp .gt (.cl bK (.cons (.ix (.v 2) (.c (.int 1))) .nil)) (.c (.int 0))) (.cons (.exp (.me .append (.v 0) (.cons (.ix (.v 2) (.c (.int 1))) .nil))) .nil) .nil
noncomputable def AN:S:=.ret (.ix (.v 2) (.c (.int 0)))
noncomputable def j0(nI:Nat)(bK:Nat):Fn:=⟨2,3,(.cons (AL nI) (.cons (AM bK) (.cons AN .nil)))⟩
noncomputable def yu:S:=.set 2 (.ix (.v 0) (.c (.int 0)))
noncomputable def yv:S:=.iff (.cmp .eq (.v 2) (.c (.str [107,101,101,112]))) (.cons (.ret (.tup (.cons (.tup (.cons (.v 2) (.cons (.v 1) .nil))) (.cons (.tup (.cons (.v 2) (.cons (.bin .sub (.ix (.v 0) (.c (.int 1))) (.v 1)) .nil))) .nil)))) .nil) .nil
noncomputable def yw:S:=.ret (.tup (.cons (.tup (.cons (.v 2) (.cons (.sl (.ix (.v 0) (.c (.int 1))) .no (.yes (.v 1))) .nil))) (.cons (.tup (.cons (.v 2) (.cons (.sl (.ix (.v 0) (.c (.int 1))) (.yes (.v 1)) .no) .nil))) .nil)))
noncomputable def iz:Fn:=⟨2,3,(.cons yu (.cons yv (.cons yw .nil)))⟩
noncomputable def Pt.tk(m:Nat):Pt->Pt
 |.keep _=>.keep m
 |.put s=>.put (s.take m)
 |.drop s=>.drop (s.take m)
noncomputable def Pt.dp(m:Nat):Pt->Pt
 |.keep k=>.keep (k - m)
 |.put s=>.put (s.drop m)
 |.drop s=>.drop (s.drop m)
def yx{α:Type}(l:List α)(m:Nat):cut l none (some (m:Int))=l.take m:=by
 have h1:¬ (m:Int)<0:=by omega
 simp only[cut,aL,h1,WE,XQ,XG,Nat.sub_zero];by_cases h:m<=l.length
 .rw[Xv h]
 .rw[Yu (by omega),Wy (Et _),Wy (by omega)]
def rT{α:Type}(l:List α)(m:Nat):cut l (some (m:Int)) none=l.drop m:=by
 have h1:¬ (m:Int)<0:=by omega
 simp only[cut,aL,h1,WE,XQ];by_cases h:m<=l.length
 .rw[Xv h,Wy (by simp)]
 .rw[Yu (by omega),WV (Et _),WV (by omega)];simp
section
variable{F:List Fn}{w n b5 aD cT bE bL aT cY b6 i:Nat}
def yy(hf:F[i]?=some iz)(p:Pt)(m:Nat)(h:m<=p.n):run F w (n+1) i [.val p.v,.val (.int m)]=some (.tup [(p.tk m).v,(p.dp m).v],[]):=by
 refine bW hf rfl ?_;cases p with
 |keep k=>
  refine ai (aU (by repeat array_get_dec) rfl rfl ?_);refine ai (aH (by repeat array_get_dec) (λ_=>?_) λh=>absurd h (by decide));refine ai (bJ (by repeat array_get_dec) ⟨?_,rfl⟩);have:(k:Int) - m=((k - m:Nat):Int):=by simp only[Pt.n]at h;omega
  exact VZ (λz=>Fl.ret (V.tup [V.tup [V.str dm,V.int m],V.tup [V.str dm,V.int z]])) this
 |put s=>
  have c1:fC (.str s) none (some (m:Int))=some (.str (s.take m)):=by rw[eX,yx]
  have c2:fC (.str s) (some (m:Int)) none=some (.str (s.drop m)):=by rw[eX,rT]
  refine ai (aU (by repeat array_get_dec) rfl rfl ?_);refine ai (aH (by repeat array_get_dec) (λh=>absurd h (by decide)) λ_=>av ?_);exact ai (bJ (by repeat array_get_dec) ⟨rfl,rfl⟩)
 |drop s=>
  have c1:fC (.str s) none (some (m:Int))=some (.str (s.take m)):=by rw[eX,yx]
  have c2:fC (.str s) (some (m:Int)) none=some (.str (s.drop m)):=by rw[eX,rT]
  refine ai (aU (by repeat array_get_dec) rfl rfl ?_);refine ai (aH (by repeat array_get_dec) (λh=>absurd h (by decide)) λ_=>av ?_);exact ai (bJ (by repeat array_get_dec) ⟨rfl,rfl⟩)
def ql(m:Nat)(p:Pt):(p.dp m).n=p.n - m:=by cases p<;>simp[Pt.dp,Pt.n]
def rA(hs:F[aD]?=some eW)(hp:F[b5]?=some iz)(hf:F[i]?=some (j0 b5 aD))(L:List V)(p:Pt)(m:Nat)(h:m<=p.n)(hn:p.n<=100000)(hL:L.length<=10000) :
  run F w (n+2) i [.bor (L++[p.v]),.val (.int m)]=some ((p.tk m).v,[L++if 0<p.n - m then [(p.dp m).v]else []]):=by
 refine bW hf rfl ?_;have c1:=λfr=>call2 (fr:=fr) (yy (F:=F) (w:=w) (n:=n) hp p m h);have c2:=λfr=>dj (fr:=fr) (jn (F:=F) (w:=w) (n:=n) hs (p.dp m) (by rw[ql];omega));have po:∀fr:Fr,gx .pop 0 [] fr (some (some (.bor (L++[p.v]))))=.ok p.v (fr.set 0 (some (.bor L))):=λfr=>Gv;have ap:∀fr:Fr,gx .append 0 [(p.dp m).v] fr (some (some (.bor L)))=.ok .bA (fr.set 0 (some (.bor (L++[(p.dp m).v])))):=λfr=>Gu (by omega);refine ai (aU (by (repeat (first|array_get_dec|exact po _|exact c1 _))) rfl rfl ?_);refine ai (aH (by (repeat (first|array_get_dec|exact c2 _))) (λh=>?_) λh=>?_)
 .have h':=Wz h;rw[ql]at h';rw[GQ (by omega)];refine ai (dQ (by (repeat (first|array_get_dec|exact ap _))) (av ?_));exact ai (bJ (by repeat array_get_dec) ⟨rfl,rfl⟩)
 .have h':=WY h;rw[ql]at h';rw[Us (by omega),V8];exact av (ai (bJ (by repeat array_get_dec) ⟨rfl,rfl⟩))
noncomputable def kG:Pt->Pt->Option (List Pt)
 |l,.keep _=>some [l]
 |.keep _,g=>some [g]
 |.put s,.drop s'=>if s=s' then some []else none
 |_,_=>none
def GO(hf:F[i]?=some rS)(p q:Pt)(r:List Pt)(h:kG p q=some r):run F w (n+1) i [.val p.v,.val q.v]=some (.lst (r.map Pt.v),[]):=by
 refine bW hf rfl ?_;cases q with
 |keep k=>
  simp only[kG,Yl]at h;subst h;refine ai (aH (by repeat array_get_dec) (λ_=>?_) λh=>absurd h (by decide));exact ai (bJ (by repeat array_get_dec) ⟨rfl,rfl⟩)
 |put s=>
  cases p<;>simp[kG]at h
  subst h;refine ai (aH (by repeat array_get_dec) (λh=>absurd h (by decide)) λ_=>av ?_);refine ai (aH (by repeat array_get_dec) (λ_=>?_) λh=>absurd h (by decide));exact ai (bJ (by repeat array_get_dec) ⟨rfl,rfl⟩)
 |drop s'=>
  cases p with
  |keep k=>
   simp only[kG,Yl]at h;subst h;refine ai (aH (by repeat array_get_dec) (λh=>absurd h (by decide)) λ_=>av ?_);refine ai (aH (by repeat array_get_dec) (λ_=>?_) λh=>absurd h (by decide));exact ai (bJ (by repeat array_get_dec) ⟨rfl,rfl⟩)
  |drop s=>simp[kG]at h
  |put s=>
   simp only[kG]at h;split at h
   .rename_i hs;subst hs;cases h;refine ai (aH (by repeat array_get_dec) (λh=>absurd h (by decide)) λ_=>av ?_);refine ai (aH (by repeat array_get_dec) (λh=>absurd h (by decide)) λ_=>av ?_);refine ai (aH (by repeat array_get_dec) (λh=>?_) λ_=>av ?_)
    .simp at h
    .exact ai (bJ (by repeat array_get_dec) ⟨rfl,rfl⟩)
   .cases h
def gD{l:List V}{v:V}:dY (.lst (l++[v])) (.int (-1))=some v:=by rw[vU,K1];simp
def jz{l:List V}{v:V}:truthy (.lst (l++[v]))=true:=by simp
def Er{P:aM}{f i:Nat}{fr:Fr}{b v:V}{l l':List V}(e:fr[i]?=some (some (.own l)))(h:P f [.bor l,.val b]=some (v,[l'])):cX P f [.inl i,.inr b] fr=.ok v (fr.set i (some (.own l'))):=by
 have e1:lent fr i=some (.bor l):=by rw[Gr,e];rfl
 simp[cX,bH,args,e1,h,back,e,Sl.with]
def gE{c:List Pt}(h:lV c=true):∀p∈c,0<p.n:=λp hp=>by
 simp only[lV,Lf,Zu]at h;have:=h.2 p hp;simp only[K9,Zv,ne_eq]at this;omega
theorem fS:∀{c:List Pt},(∀p∈c,0<p.n)->c.length<=tot c
 |[],_=>by simp[tot]
 |p :: c,h=>by
  have h1:=h p (by simp);have h2:=fS (c:=c) λq hq=>h q (by simp[hq]);rw[bU,V1];omega
def yz{p:Pt}{m:Nat}(h:m<=p.n):(p.tk m).aF++(p.dp m).aF=p.aF/\(p.tk m).n=m:=by
 cases p with
 |keep k=>simp only[Pt.n]at h;simp[Pt.tk,Pt.dp,Pt.aF,Pt.n,h]
 |put s=>simp only[Pt.n]at h;simp[Pt.tk,Pt.dp,Pt.aF,Pt.n,h,<-V3]
 |drop s=>simp only[Pt.n]at h;simp[Pt.tk,Pt.dp,Pt.aF,Pt.n,h,<-V3]
noncomputable def jA(m:Nat)(p:Pt):List Pt:=if 0<p.n - m then [p.dp m]else []
def wo{p:Pt}{m:Nat}(h:m<=p.n):p.aF=(p.tk m).aF++aF (jA m p):=by
 rw[<- (yz h).1]
 congr 1
 unfold jA;split
 .simp[aF]
 .rename_i hz;have:(p.dp m).aF.length=0:=by rw[uu,ql];omega
  rw[List.length_eq_zero_iff.mp this];rfl
def wu(m:Nat)(p:Pt):∀q∈jA m p,0<q.n:=λq hq=>by
 unfold jA at hq;split at hq
 .simp at hq;subst hq;rw[ql];omega
 .simp at hq
def GP(m:Nat)(p:Pt)(A:List Pt):((jA m p++A).map Pt.v).reverse=(A.map Pt.v).reverse++if 0<p.n - m then [(p.dp m).v]else []:=by
 unfold jA;split<;>simp
def mS(m:Nat)(p:Pt):tot (jA m p)=p.n - m:=by
 unfold jA;split
 .simp[tot,ql]
 .simp[tot];omega
def wz{m:Nat}{p:Pt}:dh (p.tk m)=dh p/\gT (p.tk m)=gT p:=by cases p<;>exact⟨rfl,rfl⟩
def Ld{A B r:List At}(p q:Pt)(hp:dh p=false)(hq:gT q=false)(hn:p.n=q.n)(h:Th (p.aF++A) (q.aF++B) r):∃m r',kG p q=some m/\m.length<=1/\r=aF m++r'/\Th A B r':=by
 cases p with
 |drop s=>cases hp
 |keep k=>
  cases q with
  |put s=>cases hq
  |keep k'=>simp only[Pt.n]at hn;subst hn;obtain⟨r',rfl,h'⟩:=Th.T3 h;exact⟨[.keep k],r',rfl,by simp,by simp[aF,Pt.aF],h'⟩
  |drop s=>simp only[Pt.n]at hn;subst hn;obtain⟨r',rfl,h'⟩:=Th.T4 h;exact⟨[.drop s],r',rfl,by simp,by simp[aF,Pt.aF],h'⟩
 |put s=>
  cases q with
  |put s'=>cases hq
  |keep k'=>simp only[Pt.n]at hn;subst hn;obtain⟨r',rfl,h'⟩:=Th.T5 h;exact⟨[.put s],r',rfl,by simp,by simp[aF,Pt.aF],h'⟩
  |drop s'=>simp only[Pt.n]at hn;obtain⟨rfl,h'⟩:=Th.PN hn h;exact⟨[],r,by simp[kG],by simp,by simp[aF],h'⟩
structure Tn(one other c:List Pt)(t:List Nat):Prop where
 UB:aI c=c
 fit:bq c t=true
 dn:aQ c t=aQ other (aQ one t)
 UC:told 0 c=(told 0 other).map (sub (told 0 one))
 UD:told 0 (sw c)=(told 0 (sw one)).map (sub (told 0 (sw other)))
 cs:cst c<=cst one+cst other
 tt:tot c<=tot one+tot other
 ln:c.length<=tot c
 th:∃ps,c=aI ps/\Th (aF (aI one)) (aF (aI other)) (aF ps)
def NQ{one other ps:List Pt}{t:List Nat}(h1:bq one t=true)(h2:bq other (aQ one t)=true)(h:Th (aF (aI one)) (aF (aI other)) (aF ps)):Tn one other (aI ps) t:=by
 have f1:aR (aA (aF (aI one))) t=true:=by rw[<-dX,fF,<-gc];exact h1
 have f2:aR (aA (aF (aI other))) (dA (aF (aI one)) t)=true:=by rw[<-dX,fF,<-gm,eL,<-gc];exact h2
 have b:=h.back 0 0 [] rfl;rw[<-o7,<-o7,<-o7,<-eV,<-eV,<-eV]at b;have sf:∀c i,told i (sw (aI c))=told i (sw c):=λc i=>by
  have:=VZ (told i) (wj (lX c));rwa [dR,dR]at this
 refine⟨lX _,?_,?_,?_,?_,?_,?_,fS (gE (fH _)),ps,rfl,h⟩
 .rw[kF,gc,dX];exact h.fit t f1 f2
 .rw[eL,gm,h.done t f1,<-gm,eL,<-gm,eL]
 .have:=h.told 0 0 [] rfl;rw[<-eV,<-eV,<-eV,dR,dR]at this;rw[dR];exact this
 .rw[sf,<-sf one,<-sf other];exact b
 .have:=h.cost;rw[<-je,<-je,<-je,jq,jq]at this;rw[jq];exact this
 .have:=h.len;rw[fR,fR,fR,fG,fG]at this;rw[fG];exact this
section
variable(hs:F[aD]?=some eW)(hp:F[b5]?=some iz)(ht:F[bE]?=some (j0 b5 aD))(hm:F[cT]?=some rS){one other:List Pt}{r:List At}{N:Nat}(hN:N<=5000)
noncomputable def eY(one other A B C:List Pt)(a:Option Sl):Fr:=[some (.val (aO one)),some (.val (aO other)),some (.own (A.map Pt.v).reverse),some (.own (B.map Pt.v).reverse),some (.own (C.map Pt.v)),a]
noncomputable def PR(one other:List Pt)(r:List At)(N k:Nat)(fr:Fr):Prop:=∃A B C r' a,Th (aF A) (aF B) r'/\aF C++r'=r/\(∀p∈A,0<p.n)/\(∀p∈B,0<p.n)/\C.length+k<=N/\k=tot A+tot B/\vo a/\fr=eY one other A B C a
include hs hp ht hm hN
noncomputable def AO(aD cT bE:Nat):Ss:=(.cons (.set 5 (.bi .min (.cons (.cl aD (.cons (.ix (.v 2) (.neg (.c (.int 1)))) .nil)) (.cons (.cl aD (.cons (.ix (.v 3) (.neg (.c (.int 1)))) .nil)) .nil)))) (.cons (.exp (.me .extend (.v 4) (.cons (.cl cT (.cons (.cl bE (.cons (.v 2) (.cons (.v 5) .nil))) (.cons (.cl bE (.cons (.v 3) (.cons (.v 5) .nil))) .nil))) .nil))) .nil))
noncomputable def uw(aD cT bE:Nat):Ss:=.cons (.iff (.an (.v 3) (.cmp .eq (.ix (.ix (.v 3) (.neg (.c (.int 1)))) (.c (.int 0))) (.c (.str [112,117,116])))) (.cons (.exp (.me .append (.v 4) (.cons (.me .pop (.v 3) .nil) .nil))) .nil) (AO aD cT bE)) .nil
noncomputable def ux(one other:List Pt)(r:List At)(N t:Nat)(g:Fl)(fr:Fr):Prop:=g=.nx/\∃j,j<t/\PR one other r N j fr
omit hs hp ht hm hN in
theorem AQ{C:List Pt}(lC:C.length<=5000)(d:Pt)(fr:Fr):gx .append 4 [d.v] fr (some (some (.own (C.map Pt.v))))=.ok .bA (fr.set 4 (some (.own ((C++[d]).map Pt.v)))):=by
 rw[V3];exact fP (by simp;omega)
omit hs hp ht hm in
theorem uy(A B C:List Pt)(s:List Nat)(r':List At)(a:Option Sl)(h:Th (aF A) (aF (.put s :: B)) r')(hn:AK (aF A)=true)(hC:aF C++r'=r)(hA:∀p∈A,0<p.n)(hB:∀p∈(.put s :: B),0<p.n)(hk:C.length+(tot A+tot (.put s :: B))<=N)(ha:vo a) :
  Wp (exs (run F w (n+2)) w (uw aD cT bE) (eY one other A (.put s :: B) C a)) (ux one other r N (tot A+tot (.put s :: B))):=by
 have lC:C.length<=5000:=by omega
 rw[cF]at h;obtain⟨r2,e2,h2⟩:=Th.ps hn h;have hs1:=hB (.put s) (by simp);unfold eY;rw[T6,VW];refine ai (aH (dH (aJ rfl (au rfl) jz) (by (repeat (first|array_get_dec|exact gD)))) (λ_=>?_) λh=>absurd h (by decide));refine ai (dQ (by (repeat (first|array_get_dec|exact v5|exact AQ lC _ _))) (av (av ?_)));refine⟨rfl,tot A+tot B,by rw[bU];omega,A,B,C++[.put s],r2,a,h2,?_,hA,λx hx=>hB x (by simp[hx]),?_,rfl,ha,rfl⟩
 .rw[<-hC,e2,gA];simp[aF,Pt.aF]
 .rw[bU]at hk;simp;omega
omit hN in
theorem Le(A B C mm:List Pt)(p q:Pt)(m:Nat)(a:Option Sl)(mn:dw .min [.int p.n,.int q.n]=some (.int m))(hm1:m<=p.n)(hm2:m<=q.n)(lp:p.n<=5000)(lq:q.n<=5000)(lA:A.length<=5000)(lB:B.length<=5000)(lC:C.length+mm.length<=10000)(e1:kG (p.tk m) (q.tk m)=some mm)(ha:vo a)(Q:Fl->Fr->Prop)
  (hQ:Q .nx (eY one other (jA m p++A) (jA m q++B) (C++mm) (some (.val (.int m))))):Wp (exs (run F w (n+2)) w (AO aD cT bE) (eY one other (p :: A) (q :: B) C a)) Q:=by
 have z1:=λfr=>dj (fr:=fr) (jn (F:=F) (w:=w) (n:=n+1) hs p (V0 lp (by decide)));have z2:=λfr=>dj (fr:=fr) (jn (F:=F) (w:=w) (n:=n+1) hs q (V0 lq (by decide)));have t1:=rA (F:=F) (w:=w) (n:=n) hs hp ht (A.map Pt.v).reverse p m hm1 (by omega) (by simp;omega);have t2:=rA (F:=F) (w:=w) (n:=n) hs hp ht (B.map Pt.v).reverse q m hm2 (by omega) (by simp;omega);rw[<-GP]at t1 t2;have cm:=λfr=>call2 (fr:=fr) (GO (F:=F) (w:=w) (n:=n+1) hm _ _ mm e1);have ex:∀fr:Fr,gx .extend 4 [.lst (mm.map Pt.v)] fr (some (some (.own (C.map Pt.v))))=.ok .bA (fr.set 4 (some (.own ((C++mm).map Pt.v)))):=λfr=>by
  rw[V3];exact vZ (by simp;omega)
 unfold eY at hQ ⊢;rw[T6,VW,T6,VW];refine ai (aU (by (repeat (first|array_get_dec|exact gD|exact z1 _|exact z2 _))) rfl (iL rfl ha) ?_);exact ai (dQ (by (repeat (first|array_get_dec|exact Er rfl t1|exact Er rfl t2|exact cm _|exact ex _))) (av hQ))
theorem Dm(A B C:List Pt)(p q:Pt)(r':List At)(a:Option Sl)(hd:dh p=false)(hq:gT q=false)(h:Th (aF (p :: A)) (aF (q :: B)) r')(hC:aF C++r'=r)(hA:∀x∈p :: A,0<x.n)(hB:∀x∈q :: B,0<x.n)(hk:C.length+(tot (p :: A)+tot (q :: B))<=N)(ha:vo a) :
  Wp (exs (run F w (n+2)) w (uw aD cT bE) (eY one other (p :: A) (q :: B) C a)) (ux one other r N (tot (p :: A)+tot (q :: B))):=by
 have hp0:=hA p (by simp);have UE:=hB q (by simp);obtain⟨m,hm1,hm2,UG⟩:∃m:Nat,m<=p.n/\m<=q.n/\(m=p.n\/m=q.n):=⟨min p.n q.n,by omega,by omega,by omega⟩
 have mn:dw .min [.int p.n,.int q.n]=some (.int m):=by
  rw[Af];split
  .congr 2;omega
  .congr 2;omega
 rw[bU,bU]at hk;have lA:=fS (c:=A) λx hx=>hA x (by simp[hx]);have lB:=fS (c:=B) λx hx=>hB x (by simp[hx]);have h3:Th ((p.tk m).aF++aF (jA m p++A)) ((q.tk m).aF++aF (jA m q++B)) r':=by
  rw[gA,gA,<-Wj,<-Wj,<-wo hm1,<-wo hm2,<-cF,<-cF];exact h
 obtain⟨mm,r2,e1,e2,e3,h4⟩:=Ld (p.tk m) (q.tk m) (by rw[wz.1];exact hd) (by rw[wz.2];exact hq) (by rw[(yz hm1).2,(yz hm2).2]) h3;have fin:ux one other r N (tot (p :: A)+tot (q :: B)) .nx (eY one other (jA m p++A) (jA m q++B) (C++mm) (some (.val (.int m)))):=by
  refine⟨rfl,_,?_,_,_,_,r2,_,h4,?_,?_,?_,?_,rfl,.val,rfl⟩
  .rw[fQ,fQ,mS,mS,bU,bU];omega
  .rw[gA,Wj,<-e3];exact hC
  .intro x hx;rcases List.mem_append.mp hx with hx|hx
   .exact wu m p x hx
   .exact hA x (VY _ hx)
  .intro x hx;rcases List.mem_append.mp hx with hx|hx
   .exact wu m q x hx
   .exact hB x (VY _ hx)
  .rw[fQ,fQ,mS,mS,VX];omega
 have st:=Le (one:=one) (other:=other) (w:=w) (n:=n) hs hp ht hm A B C mm p q m a mn hm1 hm2 (by omega) (by omega) (by omega) (by omega) (by omega) e1 ha _ (show nx (run F w (n+2)) w .nil (ux one other r N (tot (p :: A)+tot (q :: B))) .nx _ from av fin);unfold eY at st ⊢;rw[T6,VW,T6,VW]at st ⊢;cases q with
 |put s=>cases hq
 |keep k=>exact ai (aH (dH (aJ rfl (au rfl) jz) (by (repeat (first|array_get_dec|exact gD)))) (λh=>absurd h (by decide)) λ_=>st)
 |drop s=>exact ai (aH (dH (aJ rfl (au rfl) jz) (by (repeat (first|array_get_dec|exact gD)))) (λh=>absurd h (by decide)) λ_=>st)
omit hs hp ht hm hN in
theorem PU{b r:List At}{x:At}(h:Th [] (x :: b) r):∃c,x=.p c:=by cases h with|p=>exact⟨_,rfl⟩
omit hs hp ht hm hN in
theorem PV{a r:List At}{x:At}(h:Th (x :: a) [] r):∃c,x=.d c:=by cases h with|d=>exact⟨_,rfl⟩
theorem AR(A B C:List Pt)(r':List At)(a:Option Sl)(hne:A≠[]\/B≠[])(h:Th (aF A) (aF B) r')(hC:aF C++r'=r)(hA:∀p∈A,0<p.n)(hB:∀p∈B,0<p.n)(hk:C.length+(tot A+tot B)<=N)(ha:vo a) :
  Wp (exs (run F w (n+2)) w (uv aD cT bE) (eY one other A B C a)) (ux one other r N (tot A+tot B)):=by
 cases A with
 |nil=>
  cases B with
  |nil=>exact absurd hne (by simp)
  |cons q B'=>
   refine ai (aH (jX (aJ rfl (au rfl) rfl)) (λh=>absurd h (by decide)) λ_=>?_);have hq:=hB q (by simp);cases q with
   |put s=>exact(uy hN [] B' C s r' a h rfl hC hA hB hk ha).mono λg fr ⟨hg,hx⟩=>by subst hg;exact av ⟨rfl,hx⟩
   |keep k=>
    rw[cF]at h;cases k with
    |zero=>exact absurd hq (Wg 0)
    |succ k=>obtain⟨c,e⟩:=PU (x:=.k) h;cases e
   |drop s=>
    rw[cF]at h;cases s with
    |nil=>exact absurd hq (Wg 0)
    |cons c s=>obtain⟨c,e⟩:=PU (x:=.d c) h;cases e
 |cons p A'=>
  have hp0:=hA p (by simp);cases hd:dh p with
  |true=>
   cases p with
   |keep k=>cases hd
   |put s=>cases hd
   |drop s=>
    have lC:C.length<=5000:=by omega
    rw[cF]at h;obtain⟨r2,e2,h2⟩:=Th.ds h;unfold eY;rw[T6,VW];refine ai (aH (dH (aJ rfl (au rfl) jz) (by (repeat (first|array_get_dec|exact gD)))) (λ_=>?_) λh=>absurd h (by decide));refine ai (dQ (by (repeat (first|array_get_dec|exact v5|exact AQ lC _ _))) (av (av ?_)));refine⟨rfl,tot A'+tot B,by rw[bU];omega,A',B,C++[.drop s],r2,a,h2,?_,λx hx=>hA x (by simp[hx]),hB,?_,rfl,ha,rfl⟩
    .rw[<-hC,e2,gA];simp[aF,Pt.aF]
    .rw[bU]at hk;simp;omega
  |false=>
   have st:Wp (exs (run F w (n+2)) w (uw aD cT bE) (eY one other (p :: A') B C a)) (ux one other r N (tot (p :: A')+tot B)):=by
    cases B with
    |nil=>
     exfalso;rw[cF]at h;cases p with
     |drop s=>cases hd
     |keep k=>cases k with|zero=>exact absurd hp0 (Wg 0)|succ k=>obtain⟨c,e⟩:=PV (x:=.k) h;cases e
     |put s=>cases s with|nil=>exact absurd hp0 (Wg 0)|cons c s=>obtain⟨c,e⟩:=PV (x:=.p c) h;cases e
    |cons q B'=>
     cases hq:gT q with
     |true=>
      have hnd:AK (aF (p :: A'))=true:=by
       rw[cF];cases p with
       |drop s=>cases hd
       |keep k=>cases k<;>first|exact absurd hp0 (Wg 0)|rfl
       |put s=>cases s<;>first|exact absurd hp0 (Wg 0)|rfl
      cases q with
      |keep k=>cases hq
      |drop s=>cases hq
      |put s=>exact uy hN (p :: A') B' C s r' a h hnd hC hA hB hk ha
     |false=>exact Dm hs hp ht hm hN A' B' C p q r' a hd hq h hC hA hB hk ha
   replace st:=st.mono (Q':=nx (run F w (n+2)) w .nil (ux one other r N (tot (p :: A')+tot B))) λg fr ⟨hg,hx⟩=>by subst hg;exact av ⟨rfl,hx⟩
   unfold eY at st ⊢;rw[T6,VW]at st ⊢;cases p with
   |drop s=>cases hd
   |keep k=>exact ai (aH (dH (aJ rfl (au rfl) jz) (by (repeat (first|array_get_dec|exact gD)))) (λh=>absurd h (by decide)) λ_=>st)
   |put s=>exact ai (aH (dH (aJ rfl (au rfl) jz) (by (repeat (first|array_get_dec|exact gD)))) (λh=>absurd h (by decide)) λ_=>st)
omit hN in
theorem Dn(hst:F[aT]?=some dz)(hf:F[bL]?=some (gS aT))(hb:F[b6]?=some (ku aD))(ha:F[cY]?=some (mQ aD))(AS:F[i]?=some (jZ cY b6 bL aD cT bE))(hw:5000<w)
  (one other:List Pt) (t:List Nat) (h1:bq one t=true) (h2:bq other (aQ one t)=true) (b1:tot one<=2000) (b2:tot other<=2000) (l1:one.length<=2000) (l2:other.length<=2000) :
  ∃c,run F w (n+3) i [.val (aO one),.val (aO other)]=some (aO c,[])/\Tn one other c t:=by
 have f1:aR (aA (aF (aI one))) t=true:=by rw[<-dX,fF,<-gc];exact h1
 have f2:aR (aA (aF (aI other))) (dA (aF (aI one)) t)=true:=by rw[<-dX,fF,<-gm,eL,<-gc];exact h2
 obtain⟨r,hr⟩:=Th.all _ _ _ t (Et _) f1 f2;have e1:gz one=bf other:=by rw[<-Df h1,wm h2]
 have ne:cop .ne (.int (gz one)) (.int (bf other))=some false:=by rw[mL,e1];simp
 have c1:=λfr=>dj (fr:=fr) (As (F:=F) (w:=w) (n:=n) hs ha one (by omega) (by omega));have c2:=λfr=>dj (fr:=fr) (yl (F:=F) (w:=w) (n:=n) hs hb other (by omega) (by omega));have c3:=λfr=>dj (fr:=fr) (eU (F:=F) (w:=w) (n:=n) hst hf one (by omega) (by omega));have c4:=λfr=>dj (fr:=fr) (eU (F:=F) (w:=w) (n:=n) hst hf other (by omega) (by omega));have t1:=fG one;have t2:=fG other;have g1:=fS (gE (fH one));have g2:=fS (gE (fH other));have m1:dP ((aI one).map Pt.v).reverse=some (.lst ((aI one).map Pt.v).reverse):=gb (cj (by simp;omega));have m2:dP ((aI other).map Pt.v).reverse=some (.lst ((aI other).map Pt.v).reverse):=gb (cj (by simp;omega));have key:Wp (exs (run F w (n+2)) w (jZ cY b6 bL aD cT bE).body (dZ (jZ cY b6 bL aD cT bE) [.val (aO one),.val (aO other)])) λg fr=>∃ps,aF ps=r/\g=.ret (aO (aI ps))/\outs 2 fr=[]:=by
  refine ai (aH (by (repeat (first|array_get_dec|exact c1 _|exact c2 _))) (λh=>absurd h (by decide)) λ_=>av ?_);refine ai (gR (l:=((aI one).map Pt.v).reverse) (rQ (Aj (aY (ay rfl (au rfl) aG) (c3 _)) rfl) m1) rfl rfl ?_);refine ai (gR (l:=((aI other).map Pt.v).reverse) (rQ (Aj (aY (ay rfl (au rfl) aG) (c4 _)) rfl) m2) rfl rfl ?_);refine ai (gR (l:=[]) (by repeat array_get_dec) rfl rfl ?_);refine ai (Ef (oS (PR one other r (tot one+tot other)) (λk fr hI=>?_) w (tot one+tot other) _ (by omega) ⟨aI one,aI other,[],r,none,hr,rfl,gE (fH one),gE (fH other),by simp,by omega,.none,rfl⟩));obtain⟨A,B,C,r',a,hT,hC,hA,hB,hk,hkk,PX,rfl⟩:=hI;by_cases hne:A≠[]\/B≠[]
  .have ht1:aE (run F w (n+2)) (.orr (.v 2) (.v 3)) (eY one other A B C a)=.ok true (eY one other A B C a):=by
    cases A with
    |cons p A=>unfold eY;rw[T6,VW];exact tW (aJ rfl (au rfl) jz)
    |nil=>
     cases B with
     |nil=>simp at hne
     |cons q B=>unfold eY;rw[T6,VW];exact dI (aJ rfl (au rfl) rfl) (aJ rfl (au rfl) jz)
   refine⟨true,_,ht1,?_⟩;dsimp only;rw[GQ rfl];refine(AR hs hp ht hm (N:=tot one+tot other) (by omega) A B C r' a hne hT hC hA hB (by omega) PX).mono λg fr ⟨hg,hx⟩=>?_;subst hg hkk;exact hx
  .obtain⟨rfl,rfl⟩:A=[]/\B=[]:=by simpa using hne
   refine⟨false,_,dI (aJ rfl (au rfl) rfl) (aJ rfl (au rfl) rfl),?_⟩;dsimp only;rw[Us (by decide)];cases hT;rw[V8]at hC;subst hC;have lC:=hr.len;rw[fR,fR,fR]at lC;have mt:toT (.lst (C.map Pt.v))=some (aO C):=by rw[vX];exact jm (cj (by simp;omega))
   have c5:=λfr=>dj (fr:=fr) (eU (F:=F) (w:=w) (n:=n) hst hf C (by omega) (by omega));have sh:fh (eY one other [] [] C a)=[some (.val (aO one)),some (.val (aO other)),some (.val (.lst [])),some (.val (.lst [])),some (.val (.lst (C.map Pt.v))),a]:=by
    show _ :: _ :: _ :: _ :: _ :: [a.map Sl.ek]=_;rw[cP PX];rfl
   refine ai (bJ (v:=aO (aI C)) (af:=[some (.val (aO one)),some (.val (aO other)),some (.val (.lst [])),some (.val (.lst [])),some (.val (.lst (C.map Pt.v))),a]) ?_ ⟨C,rfl,rfl,rfl⟩);rw[sh];exact aY (ay rfl (oV (au rfl) mt) aG) (c5 _)
 obtain⟨g,fr,e,ps,hps,rfl,ho⟩:=key;refine⟨aI ps,?_,NQ h1 h2 (hps▸hr)⟩;rw[run_eq AS rfl,e];simp only[Ge];rw[show outs (jZ cY b6 bL aD cT bE).np fr=[]from ho]
end
end
section
def uz{c:List Pt}{t:List Nat}(h:bq c t=true):bq (fJ c) (aQ c t)=true/\aQ (fJ c) (aQ c t)=t:=by
 have:=nF c t h;simp only[fJ];rw[kF,eL];exact this
end
end Pv
namespace Pv
open Ev (deep big rep cut bx)
def uA{a b:List Pt}(h:aF a=aF b):aI a=aI b:=(kE a b).mpr (by simp only[jb,dX,eV,h])
end Pv
namespace Pv
open Ev (D br aZ TY BI ME T E Es Eo It S Ss Fn big deep rep cut bx)
end Pv
namespace Pv
end Pv
namespace Pv
open Ev (D br aZ TY BI ME T E Es Eo It S Ss Fn big deep rep cut bx)
end Pv
namespace Pv
open Ev (D br aZ TY BI ME T E Es Eo It S Ss Fn big deep b2i rep bM cR bx aL cut bT cI slots)
inductive Ma:List At->List Nat->List Nat->Prop
 |nil:Ma [] [] []
 |k {A a b c}:Ma A a b->Ma (.k :: A) (c :: a) (c :: b)
 |d {A a b c}:Ma A a b->Ma (.d c :: A) (c :: a) b
 |p {A a b c}:Ma A a b->Ma (.p c :: A) a (c :: b)
theorem pg:∀(A:List At) (t:List Nat),aR (aA A) t=true->Ma A t (dA A t)
 |[],[],_=>.nil
 |[],_ :: _,h=>by simp[aA,aR]at h
 |.k :: A,[],h=>by simp[aA,aR]at h
 |.k :: A,c :: t,h=>by
  simp only[aA,aR,Lf]at h;exact .k (pg A t h.2)
 |.d x :: A,[],h=>by simp[aA,aR]at h
 |.d x :: A,c :: t,h=>by
  simp only[aA,aR,Lf,WG,WN]at h;obtain⟨h1,h2⟩:=h;rcases h1 with h1|h1
  .cases h1
  .cases h1;exact .d (pg A t h2)
 |.p x :: A,t,h=>.p (pg A t h)
def Ma.fit{A:List At}{a b:List Nat}(h:Ma A a b):aR (aA A) a=true/\dA A a=b:=by
 induction h with
 |nil=>exact⟨rfl,rfl⟩
 |k _ ih=>exact⟨by simp[aA,aR,ih.1],by simp[dA,ih.2]⟩
 |d _ ih=>exact⟨by simp[aA,aR,ih.1],by simp[dA,ih.2]⟩
 |p _ ih=>exact⟨by simp[aA,ih.1],by simp[dA,ih.2]⟩
def Ma.app{A B:List At}{a b x y:List Nat}(h:Ma A a b)(g:Ma B x y):Ma (A++B) (a++x) (b++y):=by
 induction h with
 |nil=>exact g
 |k _ ih=>exact .k ih
 |d _ ih=>exact .d ih
 |p _ ih=>exact .p ih
def Ma.rev{A:List At}{a b:List Nat}(h:Ma A a b):Ma A.reverse a.reverse b.reverse:=by
 induction h with
 |nil=>exact .nil
 |k _ ih=>rw[VW,VW,VW];exact ih.app (.k .nil)
 |@d _ _ _ c _ ih=>rw[VW,VW];have:=ih.app (.d (c:=c) .nil);rwa [V8]at this
 |@p _ _ _ c _ ih=>rw[VW,VW];have:=ih.app (.p (c:=c) .nil);rwa [V8]at this
def AU(A:List At):cA A.reverse=cA A:=by
 induction A with
 |nil=>rfl
 |cons x A ih=>rw[VW,mj,ih];cases x<;>simp[cA]
def Ma.trans{A:List At}{a b:List Nat}(h:Ma A a b):∀{B:List At}{c:List Nat},Ma B b c->∃C,Ma C a c/\cA C<=cA A+cA B:=by
 induction h with
 |nil=>intro B c g;exact⟨B,g,by simp[cA]⟩
 |d _ ih=>intro B c g;obtain⟨C,h1,h2⟩:=ih g;exact⟨_,.d h1,by simp only[cA];omega⟩
 |@k A a b x h ih=>
  intro B c g;generalize hb:x :: b=bb at g
  induction g with
  |nil=>cases hb
  |k g _=>cases hb;obtain⟨C,h1,h2⟩:=ih g;exact⟨_,.k h1,by simp only[cA];omega⟩
  |d g _=>cases hb;obtain⟨C,h1,h2⟩:=ih g;exact⟨_,.d h1,by simp only[cA];omega⟩
  |p g ih2=>obtain⟨C,h1,h2⟩:=ih2 hb;exact⟨_,.p h1,by simp only[cA]at h2 ⊢;omega⟩
 |@p A a b x h ih=>
  intro B c g;generalize hb:x :: b=bb at g
  induction g with
  |nil=>cases hb
  |k g _=>cases hb;obtain⟨C,h1,h2⟩:=ih g;exact⟨_,.p h1,by simp only[cA];omega⟩
  |d g _=>cases hb;obtain⟨C,h1,h2⟩:=ih g;exact⟨_,h1,by simp only[cA];omega⟩
  |p g ih2=>obtain⟨C,h1,h2⟩:=ih2 hb;exact⟨_,.p h1,by simp only[cA]at h2 ⊢;omega⟩
def Ma.len{A:List At}{a b:List Nat}(h:Ma A a b):cA A<=a.length+b.length/\a.length<=b.length+cA A/\b.length<=a.length+cA A/\(cA A+a.length+b.length) % 2=0/\A.length<=a.length+b.length:=by
 induction h with
 |nil=>simp[cA]
 |k _ ih=>simp only[cA,V1];omega
 |d _ ih=>simp only[cA,V1];omega
 |p _ ih=>simp only[cA,V1];omega
def Ma.zero{A:List At}{a b:List Nat}(h:Ma A a b):cA A=0->a=b:=by
 induction h with
 |nil=>intro _;rfl
 |k _ ih=>intro z;rw[ih z]
 |d _ _=>intro z;cases z
 |p _ _=>intro z;cases z
noncomputable def dl:List Nat->List Nat->Nat
 |[],b=>b.length
 |_ :: a,[]=>a.length+1
 |x :: a,y :: b=>if x=y then dl a b else 1+min (dl a (y :: b)) (dl (x :: a) b)
termination_by a b=>a.length+b.length
noncomputable def fW:List Nat->List Nat->List At
 |[],[]=>[]
 |[],y :: b=>.p y :: fW [] b
 |x :: a,[]=>.d x :: fW a []
 |x :: a,y :: b=>if x=y then .k :: fW a b else if dl a (y :: b)<dl (x :: a) (y :: b)then .d x :: fW a (y :: b)else .p y :: fW (x :: a) b
termination_by a b=>a.length+b.length
def jt(a:List Nat):dl a []=a.length:=by cases a<;>simp[dl]
def fT(x:Nat)(a b:List Nat):dl (x :: a) (x :: b)=dl a b:=by rw[dl,GQ rfl]
def pq{x y:Nat}(h:x≠y)(a b:List Nat):dl (x :: a) (y :: b)=1+min (dl a (y :: b)) (dl (x :: a) b):=by rw[dl,Us h]
theorem eg:∀(a b:List Nat),Ma (fW a b) a b/\cA (fW a b)=dl a b
 |[],[]=>by rw[fW,dl];exact⟨.nil,rfl⟩
 |[],y :: b=>by
  have ih:=eg [] b;rw[fW];exact⟨.p ih.1,by simp only[cA,ih.2,dl,V1]⟩
 |x :: a,[]=>by
  have ih:=eg a [];rw[fW];exact⟨.d ih.1,by simp only[cA,ih.2,jt,V1]⟩
 |x :: a,y :: b=>by
  rw[fW];by_cases h:x=y
  .subst h;have ih:=eg a b;rw[GQ rfl,fT];exact⟨.k ih.1,ih.2⟩
  .rw[Us h];have e:=pq h a b;by_cases h2:dl a (y :: b)<dl (x :: a) (y :: b)
   .have ih:=eg a (y :: b);rw[GQ h2];exact⟨.d ih.1,by simp only[cA,ih.2];omega⟩
   .have ih:=eg (x :: a) b;rw[Us h2];exact⟨.p ih.1,by simp only[cA,ih.2];omega⟩
termination_by a b=>a.length+b.length
theorem gF:∀(a b:List Nat),dl a b=dl b a
 |[],b=>by rw[jt];simp[dl]
 |x :: a,[]=>by simp[dl]
 |x :: a,y :: b=>by
  by_cases h:x=y
  .subst h;rw[fT,fT];exact gF a b
  .rw[pq h,pq (WZ h),gF a (y :: b),gF (x :: a) b,Nat.min_comm]
termination_by a b=>a.length+b.length
theorem dl_step:∀(n:Nat) (a b:List Nat) (x:Nat),a.length+b.length<=n->dl (x :: a) b<=dl a b+1/\dl a b<=dl (x :: a) b+1
 |_,a,[],x,_=>by rw[jt,jt];simp only[V1];omega
 |0,a,y :: b,x,h=>by simp at h
 |n+1,a,y :: b,x,h=>by
  simp only[V1]at h;have i1:=dl_step n b a y (by omega);rw[gF (y :: b) a,gF b a]at i1;have i2:=dl_step n a b x (by omega);by_cases e:x=y
  .subst e;rw[fT];omega
  .rw[pq e];omega
def pA{A:List At}{a b:List Nat}(h:Ma A a b):dl a b<=cA A:=by
 induction h with
 |nil=>simp[dl]
 |k _ ih=>rw[fT];exact ih
 |@d A a b c _ ih=>have:=(dl_step _ a b c (Et _)).1;simp only[cA];omega
 |@p A a b c _ ih=>have:=(dl_step _ b a c (Et _)).1;rw[gF (c :: b) a,gF b a]at this;simp only[cA];omega
def pB(a b:List Nat):dl a.reverse b.reverse=dl a b:=by
 have h1:=pA (eg a b).1.rev;have h2:=pA (eg a.reverse b.reverse).1.rev;rw[AU,(eg _ _).2]at h1 h2;rw[Xn,Xn]at h2;omega
def Lh(a b c:List Nat):dl a c<=dl a b+dl b c:=by
 obtain⟨C,h1,h2⟩:=(eg a b).1.trans (eg b c).1;rw[(eg _ _).2,(eg _ _).2]at h2;exact V0 (pA h1) h2
theorem qm:∀a:List Nat,dl a a=0
 |[]=>by simp[dl]
 |x :: a=>by rw[fT];exact qm a
def GR(a b:List Nat):dl a b=0↔a=b:=by
 constructor
 .intro h;have:=eg a b;exact this.1.zero (by rw[this.2,h])
 .rintro rfl;exact qm a
def Li(a b z:List Nat):dl (a++z) (b++z)=dl a b:=by
 rw[<-pB,Y5,Y5];have:∀(z a b:List Nat),dl (z++a) (z++b)=dl a b:=λz=>by
  induction z with
  |nil=>intro a b;rfl
  |cons x z ih=>intro a b;rw[WJ,WJ,fT,ih]
 rw[this,pB]
def Lj(a b:List Nat):dl a b<=a.length+b.length/\a.length<=b.length+dl a b/\b.length<=a.length+dl a b/\(dl a b+a.length+b.length) % 2=0:=by
 have h:=(eg a b).1.len;rw[(eg a b).2]at h;exact⟨h.1,h.2.1,h.2.2.1,h.2.2.2.1⟩
theorem wA:∀a:List Nat,fW a a=List.replicate a.length .k
 |[]=>by simp[fW]
 |x :: a=>by rw[fW,GQ rfl,wA a];rfl
def AV{c:List Pt}{t:List Nat}(h:bq c t=true):dl t (aQ c t)<=cst c:=by
 rw[gc,dX]at h;rw[gm,je];exact pA (pg _ _ h)
noncomputable def nh:At->Pt
 |.k=>.keep 1
 |.d c=>.drop [c]
 |.p c=>.put [c]
def qo(A:List At):aF (A.map nh)=A:=by
 induction A with
 |nil=>rfl
 |cons x A ih=>rw[T6,cF,ih];cases x<;>rfl
def NR{c:List Pt}{a b:List Nat}(h:Ma (aF c) a b):bq c a=true/\aQ c a=b/\cst c=cA (aF c):=by
 obtain⟨h1,h2⟩:=h.fit;exact⟨by rw[gc,dX];exact h1,by rw[gm];exact h2,je c⟩
noncomputable def g6(a b:List Nat):List Pt:=(fW a.reverse b.reverse).reverse.map nh
def j3(a b:List Nat):Ma (aF (g6 a b)) a b/\cA (aF (g6 a b))=dl a b:=by
 unfold g6;rw[qo];have h:=eg a.reverse b.reverse;have h2:=h.1.rev;rw[Xn,Xn]at h2;exact⟨h2,by rw[AU,h.2,pB]⟩
noncomputable def cp:List Nat->List Nat->Nat
 |x :: a,y :: b=>if x=y then cp a b+1 else 0
 |_,_=>0
theorem j4:∀a b:List Nat,cp a b=cp b a
 |[],[]=>rfl
 |[],_ :: _=>rfl
 |_ :: _,[]=>rfl
 |x :: a,y :: b=>by
  simp only[cp];by_cases h:x=y
  .subst h;rw[GQ rfl,GQ rfl,j4]
  .rw[Us h,Us (WZ h)]
theorem j5:∀a b:List Nat,a.take (cp a b)=b.take (cp a b)/\cp a b<=a.length/\cp a b<=b.length
 |[],b=>by simp[cp]
 |_ :: _,[]=>by simp[cp]
 |x :: a,y :: b=>by
  simp only[cp];by_cases h:x=y
  .subst h;rw[GQ rfl];have:=j5 a b;simp only[WA,this.1,V1,true_and];omega
  .rw[Us h];simp
def wC(a:List Nat):cp a a=a.length:=by
 induction a with
 |nil=>rfl
 |cons x a ih=>simp only[cp,GQ,ih,V1]
noncomputable def cQ(a b:List Nat):List Nat:=a.drop (cp a b)
noncomputable def cD(a b:List Nat):Nat:=cp (cQ a b).reverse (cQ b a).reverse
noncomputable def fu(a b:List Nat):List Nat:=(cQ a b).take ((cQ a b).length - cD a b)
noncomputable def gf(a b:List Nat):List Pt:=bz (cp a b) (fu a b) (fu b a)++bz (cD a b) [] []
def mq(a b:List Nat):cD a b=cD b a:=by unfold cD;rw[j4]
def uC(k:Nat)(g x:List Nat):aF (bz k g x)=List.replicate k .k++g.map .d++x.map .p:=by
 unfold bz;rw[gA,gA]
 congr 1
 .congr 1
  .split
   .simp[aF,Pt.aF]
   .have:k=0:=by omega
    subst this;rfl
  .split
   .rename_i h;subst h;rfl
   .simp[aF,Pt.aF]
 .split
  .rename_i h;subst h;rfl
  .simp[aF,Pt.aF]
def mT(a b:List Nat):aF (gf a b)=List.replicate (cp a b) .k++(fu a b).map .d++(fu b a).map .p++List.replicate (cD a b) .k:=by
 unfold gf;rw[gA,uC,uC];simp
def Eu(z:List Nat):Ma (List.replicate z.length .k) z z:=by
 induction z with
 |nil=>exact .nil
 |cons c z ih=>exact .k ih
def NS(g:List Nat):Ma (g.map .d) g []:=by
 induction g with
 |nil=>exact .nil
 |cons c z ih=>exact .d ih
def NT(g:List Nat):Ma (g.map .p) [] g:=by
 induction g with
 |nil=>exact .nil
 |cons c z ih=>exact .p ih
def uD(a b:List Nat):Ma (aF (gf a b)) a b:=by
 rw[mT];have h1:=j5 a b;have h2:=j5 (cQ a b).reverse (cQ b a).reverse;have e2:(cQ a b).drop ((cQ a b).length - cD a b)=(cQ b a).drop ((cQ b a).length - cD a b):=by
  have:=h2.1;rw[Zk,Zk]at this;exact List.reverse_inj.mp this
 have l2:cD a b<=(cQ a b).length:=by have:=h2.2.1;rwa [Wc]at this
 have l3:((cQ a b).drop ((cQ a b).length - cD a b)).length=cD a b:=by rw[Xa];omega
 have k1:=Eu (a.take (cp a b));have k2:=Eu ((cQ a b).drop ((cQ a b).length - cD a b));rw[WS,Xv h1.2.1]at k1;rw[l3]at k2;have m:=((k1.app (NS (fu a b))).app (NT (fu b a))).app k2;have ea:a.take (cp a b)++fu a b++[]++(cQ a b).drop ((cQ a b).length - cD a b)=a:=by
  unfold fu;rw[V8,Wj,Xj];exact Xj _ _
 have eb:a.take (cp a b)++[]++fu b a++(cQ a b).drop ((cQ a b).length - cD a b)=b:=by
  rw[e2,h1.1];unfold fu;rw[V8,mq b a,Wj,Xj,j4 a b];exact Xj _ _
 rw[ea,eb]at m;exact m
def NU(g:List Nat)(i:Nat):tA i (g.map At.p)=g.map .sg:=by
 induction g with
 |nil=>rfl
 |cons c g ih=>simp[tA,ih]
def NV(g:List Nat):∀i:Nat,tA i (g.map At.d)=[]:=by
 induction g with
 |nil=>intro i;rfl
 |cons c g ih=>intro i;simp[tA,ih]
def NW(g:List Nat):aA (g.map At.p)=[]:=by
 induction g with
 |nil=>rfl
 |cons c g ih=>simp[aA,ih]
def Lk(n:Nat):(List.replicate n At.k).map lY=List.replicate n .k:=by rw[List.map_replicate];rfl
def uE(a b:List Nat):fJ (aI (gf a b))=aI (gf b a):=by
 rw[AB];refine(kE _ _).mpr ?_;have e1:aF (sw (gf a b))=List.replicate (cp a b) .k++(fu a b).map .p++(fu b a).map .d++List.replicate (cD a b) .k:=by
  rw[o7,mT];simp only[V3,Lk,Xw];rfl
 have e2:=mT b a;rw[j4 b a,mq b a]at e2;unfold jb;rw[dX,dX,eV,eV,e1,e2];simp only[lZ,mh,NW,NU,NV,V8,X0,VX,Zz,Ys,Wj]
def Dq(a:List Nat):aI (gf a a)=aI [.keep a.length]:=by
 refine uA ?_;rw[mT];have e:cQ a a=[]:=by unfold cQ;rw[wC,Yy]
 have e2:fu a a=[]:=by unfold fu;rw[e];simp
 have e3:cD a a=0:=by unfold cD;rw[e];rfl
 rw[e2,e3,wC];simp[aF,Pt.aF]
def Ds(a:List Nat):aI (g6 a a)=aI [.keep a.length]:=by
 refine uA ?_;unfold g6;rw[qo,wA];simp[aF,Pt.aF]
noncomputable def qp:S:=.set 2 (.c (.int 0))
noncomputable def qq:Ss:=(.cons (.iff (.cmp .ne (.v 3) (.v 4)) (.cons (.ret (.v 2)) .nil) .nil) (.cons (.set 2 (.bin .add (.v 2) (.c (.int 1)))) .nil))
noncomputable def qs:S:=.for (.many [3,4]) (.jj (.v 0) (.v 1)) qq
noncomputable def qt:S:=.ret (.v 2)
noncomputable def mw:Fn:=⟨2,5,(.cons qp (.cons qs (.cons qt .nil)))⟩
noncomputable def qu:S:=.set 3 (.lst (.cons (.bin .add (.ix (.v 2) (.c (.int 0))) (.c (.int 1))) .nil))
noncomputable def qv:Ss:=(.cons (.iff (.cmp .eq (.v 5) (.v 0)) (.cons (.exp (.me .append (.v 3) (.cons (.ix (.v 2) (.v 4)) .nil))) .nil) (.cons (.exp (.me .append (.v 3) (.cons (.bin .add (.c (.int 1)) (.bi .min (.cons (.ix (.v 2) (.bin .add (.v 4) (.c (.int 1)))) (.cons (.ix (.v 3) (.v 4)) .nil)))) .nil))) .nil)) .nil)
noncomputable def qw:S:=.for (.many [4,5]) (.ji (.v 1)) qv
noncomputable def qx:S:=.ret (.v 3)
noncomputable def gW:Fn:=⟨3,6,(.cons qu (.cons qw (.cons qx .nil)))⟩
noncomputable def pC:S:=.set 2 (.lst (.cons (.gp (.fY (.cons (.bin .add (.bi .len (.cons (.v 1) .nil)) (.c (.int 1))) .nil))) .nil))
noncomputable def pD(fL:Nat):Ss:=(.cons (.exp (.me .append (.v 2) (.cons (.cl fL (.cons (.v 3) (.cons (.v 1) (.cons (.ix (.v 2) (.neg (.c (.int 1)))) .nil)))) .nil))) .nil)
noncomputable def pF(fL:Nat):S:=.for (.one 3) (.seq (.v 0)) (pD fL)
noncomputable def pG:S:=.ret (.v 2)
noncomputable def iR(fL:Nat):Fn:=⟨2,4,(.cons pC (.cons (pF fL) (.cons pG .nil)))⟩
noncomputable def qy(dc:Nat):S:=.ret (.ix (.ix (.cl dc (.cons (.v 0) (.cons (.v 1) .nil))) (.neg (.c (.int 1)))) (.neg (.c (.int 1))))
noncomputable def uF(dc:Nat):Fn:=⟨2,2,(.cons (qy dc) .nil)⟩
noncomputable def nJ(dc:Nat):S:=.set 2 (.cl dc (.cons (.v 0) (.cons (.v 1) .nil)))
noncomputable def nK:S:=.set 3 (.lst .nil)
noncomputable def nL:S:=.set 4 (.bi .len (.cons (.v 0) .nil))
noncomputable def nM:S:=.set 5 (.bi .len (.cons (.v 1) .nil))
noncomputable def nN:Ss:=(.cons (.iff (.an (.cmp .gt (.v 4) (.c (.int 0))) (.an (.cmp .gt (.v 5) (.c (.int 0))) (.cmp .eq (.ix (.v 0) (.bin .sub (.v 4) (.c (.int 1)))) (.ix (.v 1) (.bin .sub (.v 5) (.c (.int 1))))))) (.cons (.exp (.me .append (.v 3) (.cons (.tup (.cons (.c (.str [107,101,101,112])) (.cons (.c (.int 1)) .nil))) .nil))) (.cons (.set 4 (.bin .sub (.v 4) (.c (.int 1)))) (.cons (.set 5 (.bin .sub (.v 5) (.c (.int 1)))) .nil))) (.cons (.iff (.an (.cmp .gt (.v 4) (.c (.int 0))) (.cmp .lt (.ix (.ix (.v 2) (.bin .sub (.v 4) (.c (.int 1)))) (.v 5)) (.ix (.ix (.v 2) (.v 4)) (.v 5)))) (.cons (.exp (.me .append (.v 3) (.cons (.tup (.cons (.c (.str [100,114,111,112])) (.cons (.ix (.v 0) (.bin .sub (.v 4) (.c (.int 1)))) .nil))) .nil))) (.cons (.set 4 (.bin .sub (.v 4) (.c (.int 1)))) .nil)) (.cons (.exp (.me .append (.v 3) (.cons (.tup (.cons (.c (.str [112,117,116])) (.cons (.ix (.v 1) (.bin .sub (.v 5) (.c (.int 1)))) .nil))) .nil))) (.cons (.set 5 (.bin .sub (.v 5) (.c (.int 1)))) .nil))) .nil)) .nil)
noncomputable def nO:S:=.lu (.orr (.cmp .gt (.v 4) (.c (.int 0))) (.cmp .gt (.v 5) (.c (.int 0)))) nN
noncomputable def nP(bX:Nat):S:=.ret (.cl bX (.cons (.kN (.v 3)) .nil))
noncomputable def qz(dc:Nat)(bX:Nat):Fn:=⟨2,6,(.cons (nJ dc) (.cons nK (.cons nL (.cons nM (.cons nO (.cons (nP bX) .nil))))))⟩
noncomputable def AW(eG:Nat):S:=.set 2 (.cl eG (.cons (.v 0) (.cons (.v 1) .nil)))
noncomputable def AX:S:=.set 3 (.sl (.v 0) (.yes (.v 2)) .no)
noncomputable def AY:S:=.set 4 (.sl (.v 1) (.yes (.v 2)) .no)
noncomputable def AZ(eG:Nat):S:=.set 5 (.cl eG (.cons (.rv (.v 3)) (.cons (.rv (.v 4)) .nil)))
noncomputable def A1(bZ:Nat):S:=.set 6 (.cl bZ (.cons (.v 2) (.cons (.sl (.v 3) .no (.yes (.bin .sub (.bi .len (.cons (.v 3) .nil)) (.v 5)))) (.cons (.sl (.v 4) .no (.yes (.bin .sub (.bi .len (.cons (.v 4) .nil)) (.v 5)))) .nil))))
noncomputable def A2(bX:Nat)(bZ:Nat):S:=.ret (.cl bX (.cons (.gZ (.bin .add (.v 6) (.cl bZ (.cons (.v 5) (.cons (.c (.str [])) (.cons (.c (.str [])) .nil)))))) .nil))
noncomputable def GS(eG:Nat)(bZ:Nat)(bX:Nat):Fn:=⟨2,7,(.cons (AW eG) (.cons AX (.cons AY (.cons (AZ eG) (.cons (A1 bZ) (.cons (A2 bX bZ) .nil))))))⟩
noncomputable def fM(A new:List Nat)(j:Nat):V:=.int (dl A (new.take j).reverse:Nat)
noncomputable def iA(A new:List Nat):List V:=(List.range (new.length+1)).map (fM A new)
noncomputable def rB(old new:List Nat)(i:Nat):V:=.lst (iA (old.take i).reverse new)
noncomputable def A3(old new:List Nat):List V:=(List.range (old.length+1)).map (rB old new)
def iM{f:Nat->V}{n j:Nat}(h:j<n):dY (.lst ((List.range n).map f)) (.int (j:Int))=some (f j):=by
 rw[vU,jM,We,Xu h];rfl
def qA{f:Nat->V}{n:Nat}:dY (.lst ((List.range (n+1)).map f)) (.int (-1))=some (f n):=by
 rw[WM,V3];exact gD
def dS{l:List Nat}{k c:Nat}(h:l[k]?=some c):(l.take (k+1)).reverse=c :: (l.take k).reverse:=by
 rw[List.take_succ,h];simp
def RI(s:Nat)(A new:List Nat):V.int ((dl A (new.take 0).reverse:Nat)+1:Int)=fM (s :: A) new 0:=by
 simp[fM,jt]
def NX{s k:Nat}{A new:List Nat}(h:new[k]?=some s):fM A new k=fM (s :: A) new (k+1):=by
 unfold fM;rw[dS h,fT]
def NY{s c k:Nat}{A new:List Nat}(h:new[k]?=some c)(hc:s≠c):V.int (1+(if ((dl (s :: A) (new.take k).reverse:Nat):Int)<((dl A (new.take (k+1)).reverse:Nat):Int)then ((dl (s :: A) (new.take k).reverse:Nat):Int)else ((dl A (new.take (k+1)).reverse:Nat):Int)))=fM (s :: A) new (k+1):=by
 unfold fM;rw[dS h,pq hc]
 congr 1
 split<;>omega
def Ll(new:List Nat):range 0 (new.length+1)=iA [] new:=by
 unfold range iA;refine List.map_congr_left λj hj=>?_;have:=List.mem_range.mp hj;unfold fM;simp only[dl,Wc,WS]
 congr 1
 omega
noncomputable def eI(q:Nat×Nat):V:=.tup [.int (q.2:Int),.str [q.1]]
def enum_zip(l:List Nat):∀k:Nat,cy (k:Int) (jO l)=(l.zipIdx k).map eI:=by
 induction l with
 |nil=>intro k;rfl
 |cons c l ih=>
  intro k;have:=ih (k+1);simp only[jO,T6,cy,Yw]at this ⊢;rw[show((k:Int)+1)=((k+1:Nat):Int)by simp,this];rfl
noncomputable def eZ(q:Nat×Nat):V:=.tup [.str [q.1],.str [q.2]]
def GU(a:List Nat):∀b:List Nat,cZ (jO a) (jO b)=(a.zip b).map eZ:=by
 induction a with
 |nil=>intro b;simp[cZ,jO]
 |cons x a ih=>
  intro b;cases b with
  |nil=>simp[cZ,jO]
  |cons y b=>
   have:=ih b;simp only[cZ,jO,T6,YK,Ze]at this ⊢;rw[this];rfl
noncomputable def pH:List (Nat×Nat)->Nat
 |[]=>0
 |q :: l=>if q.1=q.2 then pH l+1 else 0
theorem A4:∀a b:List Nat,cp a b=pH (a.zip b)
 |[],_=>by simp[cp,pH]
 |_ :: _,[]=>by simp[cp,pH]
 |x :: a,y :: b=>by simp only[cp,Ze,pH,A4 a b]
section
variable{F:List Fn}{w n i:Nat}
def j6(hd:F[i]?=some mw)(a b:List Nat)(h:a.length<=1000):run F w (n+1) i [.val (.str a),.val (.str b)]=some (.int (cp a b),[]):=by
 refine bW hd rfl ?_;refine ai (aU (bD rfl) rfl rfl ?_);refine ai (iX (vs:=(a.zip b).map eZ) (af:=[some (.val (.str a)),some (.val (.str b)),some (.val (.int (0:Nat))),none,none]) (by rw[<-GU];exact Gy (au rfl) (au rfl)) ?_);refine er (e:=eZ) (λp l fr=>cp a b=p.length+pH l/\∃u v,vo u/\vo v/\fr=[some (.val (.str a)),some (.val (.str b)),some (.val (.int (p.length:Nat))),u,v]) (λp q l fr ⟨hp,u,v,hu,hv,hfr⟩=>?_) (λp fr ⟨hp,u,v,hu,hv,hfr⟩=>?_) _ [] _ ⟨by rw[A4];simp,none,none,.none,.none,rfl⟩
 .subst hfr;refine dg (af:=[some (.val (.str a)),some (.val (.str b)),some (.val (.int (p.length:Nat))),some (.val (.str [q.1])),some (.val (.str [q.2]))]) (jx rfl hu rfl hv) ?_;refine ai (aH (b:=!decide (q.1=q.2)) (aJ rfl (bN (au rfl) (au rfl) fq) (by simp[truthy])) (λhb=>?_) λhb=>av ?_)
  .have hne:q.1≠q.2:=by simpa using hb
   refine ai (bJ (af:=[some (.val (.str a)),some (.val (.str b)),some (.val (.int (p.length:Nat))),some (.val (.str [q.1])),some (.val (.str [q.2]))]) (v:=.int (p.length:Nat)) (au rfl) ?_);simp only[pH,Us hne,Ys]at hp;rw[hp];exact⟨rfl,rfl⟩
  .have he:q.1=q.2:=by simpa using hb
   refine ai (aU (v:=.int ((p.length+1:Nat):Int)) (ao:=[some (.val (.str a)),some (.val (.str b)),some (.val (.int ((p.length+1:Nat):Int))),some (.val (.str [q.1])),some (.val (.str [q.2]))]) (aV (au rfl) (bD rfl) (cK.trans (by simp))) rfl rfl (av ?_));rw[cL];simp only[pH,GQ he]at hp;exact⟨by rw[hp];simp;omega,some (.val (.str [q.1])),some (.val (.str [q.2])),.val,.val,by simp⟩
 .subst hfr;refine ai (bJ (af:=[some (.val (.str a)),some (.val (.str b)),some (.val (.int (p.length:Nat))),u,v]) (v:=.int (p.length:Nat)) ?_ ?_)
  .rw[show fh [some (.val (.str a)),some (.val (.str b)),some (.val (.int (p.length:Nat))),u,v]=[some (.val (.str a)),some (.val (.str b)),some (.val (.int (p.length:Nat))),u,v]by
    show [_,_,_,u.map Sl.ek,v.map Sl.ek]=_;rw[cP hu,cP hv];rfl]
   exact au rfl
  .simp only[pH,Ys]at hp;rw[hp];exact⟨rfl,rfl⟩
noncomputable def ni(s:Nat)(A new:List Nat)(j:Nat)(a b:Option Sl):Fr:=[some (.val (.str [s])),some (.val (.str new)),some (.val (.lst (iA A new))),some (.own ((List.range (j+1)).map (fM (s :: A) new))),a,b]
def uG{s:Nat}{A new:List Nat}{j:Nat}{a b:Option Sl}{v:V}(h:v=fM (s :: A) new (j+1)):(ni s A new j a b).set 3 (some (.own ((List.range (j+1)).map (fM (s :: A) new)++[v])))=ni s A new (j+1) a b:=by
 rw[h];unfold ni;rw[WM (n:=j+1),V3];rfl
def qB(hd:F[i]?=some gW)(s:Nat)(A new:List Nat)(h:new.length<=1000):run F w (n+1) i [.val (.str [s]),.val (.str new),.val (.lst (iA A new))]=some (.lst (iA (s :: A) new),[]):=by
 refine bW hd rfl ?_;refine ai (gR (l:=[fM (s :: A) new 0]) (ao:=ni s A new 0 none none) (oU (aB (aV (dN (au rfl) (bD rfl) (iM (f:=fM A new) (j:=0) (by omega))) (bD rfl) (cK.trans (VZ some (RI s A new)))) aP) x8) rfl rfl ?_);refine ai (iX (vs:=(new.zipIdx 0).map eI) (af:=ni s A new 0 none none) (by rw[<-enum_zip];exact Gx (au rfl)) ?_);refine er (e:=eI) (λp l fr=>p++l=new.zipIdx 0/\∃a b,vo a/\vo b/\fr=ni s A new p.length a b) (λp q l fr ⟨hp,a,b,ha,hb,hfr⟩=>?_) (λp fr ⟨hp,a,b,ha,hb,hfr⟩=>?_) _ [] _ ⟨rfl,none,none,.none,.none,rfl⟩
 .subst hfr;obtain⟨c,k⟩:=q;have hk:(new.zipIdx 0)[p.length]?=some (c,k):=by rw[<-hp];simp
  rw[List.getElem?_zipIdx]at hk;obtain⟨c',hc,e⟩:=Option.map_eq_some_iff.mp hk;have e1:c'=c:=VZ Prod.fst e;have e2:p.length=k:=by have:=VZ Prod.snd e;simpa using this
  subst e1 e2;have hp2:(p++[(c',p.length)])++l=new.zipIdx 0:=by simpa using hp
  have hlt:p.length<new.length:=(List.getElem?_eq_some_iff.mp hc).1;refine dg (af:=ni s A new p.length (some (.val (.int (p.length:Nat)))) (some (.val (.str [c'])))) (jx rfl ha rfl hb) ?_;have T8:dY (.lst (iA A new)) (.int (p.length:Nat))=some (fM A new p.length):=iM (by omega);refine ai (aH (b:=decide (c'=s)) (aJ rfl (bN (au rfl) (au rfl) lT) (by simp[truthy])) (λhb=>?_) λhb=>?_)
  .have hb:c'=s:=by simpa using hb
   subst hb;refine ai (dQ (v:=.bA) (af:=ni c' A new (p.length+1) (some (.val (.int (p.length:Nat)))) (some (.val (.str [c'])))) (ko rfl rfl (aB (dN (au rfl) (au rfl) T8) aP) ((fP (by simp;omega)).trans (by rw[uG (NX hc)]))) (av (av ?_)));rw[cL];exact⟨hp2,some (.val (.int (p.length:Nat))),some (.val (.str [c'])),.val,.val,by simp⟩
  .have hb:s≠c':=λz=>by simp[z]at hb
   have T9:dY (.lst (iA A new)) (.int ((p.length:Int)+1))=some (fM A new (p.length+1)):=by
    have:=iM (f:=fM A new) (n:=new.length+1) (j:=p.length+1) (by omega)
    rwa [show(((p.length+1:Nat)):Int)=(p.length:Int)+1 by simp]at this
   have Ua:dY (.lst ((List.range (p.length+1)).map (fM (s :: A) new))) (.int (p.length:Nat))=some (fM (s :: A) new p.length):=iM (by omega);refine ai (dQ (v:=.bA) (af:=ni s A new (p.length+1) (some (.val (.int (p.length:Nat)))) (some (.val (.str [c'])))) (ko rfl rfl (aB (aV (bD rfl) (dO (aB (dN (au rfl) (aV (au rfl) (bD rfl) cK) T9) (aB (dN (au rfl) (au rfl) Ua) aP)) Af) cK) aP) ((fP (by simp;omega)).trans (by rw[uG (NY hc hb)]))) (av (av ?_)));rw[cL];exact⟨hp2,some (.val (.int (p.length:Nat))),some (.val (.str [c'])),.val,.val,by simp⟩
 .subst hfr;have hl:p.length=new.length:=by rw[V8]at hp;rw[hp];simp
  refine ai (bJ (af:=[some (.val (.str [s])),some (.val (.str new)),some (.val (.lst (iA A new))),some (.val (.lst (iA (s :: A) new))),a,b]) ?_ ⟨rfl,rfl⟩);rw[show fh (ni s A new p.length a b)=[some (.val (.str [s])),some (.val (.str new)),some (.val (.lst (iA A new))),some (.val (.lst (iA (s :: A) new))),a,b]by
   show [_,_,_,_,a.map Sl.ek,b.map Sl.ek]=_;rw[cP ha,cP hb,hl];rfl]
  exact au rfl
noncomputable def uH(old new:List Nat)(j:Nat)(a:Option Sl):Fr:=[some (.val (.str old)),some (.val (.str new)),some (.own ((List.range (j+1)).map (rB old new))),a]
def jB{jG:Nat}(hcw:F[jG]?=some gW)(hd:F[i]?=some (iR jG))(old new:List Nat)(h0:old.length<=1000)(h:new.length<=1000):run F w (n+2) i [.val (.str old),.val (.str new)]=some (.lst (A3 old new),[]):=by
 refine bW hd rfl ?_;have e0:V.lst (range 0 (new.length+1))=rB old new 0:=by rw[Ll];rfl
 refine ai (gR (l:=[rB old new 0]) (ao:=uH old new 0 none) (oU (aB (rQ (tX (aB (aV (dO (aB (au rfl) aP) (WQ (by omega))) (bD rfl) cK) aP) (K7 (n:=new.length+1) (by omega) (by simp))) ((gb (cj (by simp[range];omega))).trans (VZ some e0))) aP) x8) rfl rfl ?_);refine ai (iX (vs:=old.map λc=>V.str [c]) (af:=uH old new 0 none) (iK (jd rfl) rfl) ?_);refine er (e:=λc=>V.str [c]) (λp l fr=>p++l=old/\∃a,vo a/\fr=uH old new p.length a) (λp c l fr ⟨hp,a,ha,hfr⟩=>?_) (λp fr ⟨hp,a,ha,hfr⟩=>?_) _ [] _ ⟨rfl,none,.none,rfl⟩
 .subst hfr;have hc:old[p.length]?=some c:=by rw[<-hp];simp
  have hlt:p.length<old.length:=(List.getElem?_eq_some_iff.mp hc).1;refine dg (af:=uH old new p.length (some (.val (.str [c])))) (bind1 rfl ha) ?_;have e1:V.lst (iA (c :: (old.take p.length).reverse) new)=rB old new (p.length+1):=by unfold rB;rw[dS hc]
  refine ai (dQ (v:=.bA) (af:=uH old new (p.length+1) (some (.val (.str [c])))) (ko rfl rfl (aB (aY (ay rfl (au rfl) (ay rfl (au rfl) (ay rfl (dN (au rfl) (rP (bD rfl)) qA) aG))) (eS (qB (F:=F) (w:=w) (n:=n) hcw c (old.take p.length).reverse new h))) aP) ((fP (by simp;omega)).trans (by
   rw[e1];unfold uH;rw[WM (n:=p.length+1),V3];rfl))) (av ?_))
  rw[cL];exact⟨by simpa using hp,some (.val (.str [c])),.val,by simp⟩
 .subst hfr;have hl:p.length=old.length:=by rw[V8]at hp;rw[hp]
  refine ai (bJ (af:=[some (.val (.str old)),some (.val (.str new)),some (.val (.lst (A3 old new))),a]) ?_ ⟨rfl,rfl⟩);rw[show fh (uH old new p.length a)=[some (.val (.str old)),some (.val (.str new)),some (.val (.lst (A3 old new))),a]by
   show [_,_,_,a.map Sl.ek]=_;rw[cP ha,hl];rfl]
  exact au rfl
def qC{jG nQ:Nat}(hcw:F[jG]?=some gW)(hfc:F[nQ]?=some (iR jG))(hd:F[i]?=some (uF nQ))(old new:List Nat)(h0:old.length<=1000)(h:new.length<=1000):run F w (n+3) i [.val (.str old),.val (.str new)]=some (.int (dl old new),[]):=by
 have e:fM (old.take old.length).reverse new new.length=.int (dl old new:Nat):=by unfold fM;rw[Zs,Zs,pB]
 refine bW hd rfl (ai (bJ (af:=[some (.val (.str old)),some (.val (.str new))]) (dN (dN (aY (ay rfl (au rfl) (ay rfl (au rfl) aG)) (call2 (jB (F:=F) (w:=w) (n:=n) hcw hfc old new h0 h))) (rP (bD rfl)) qA) (rP (bD rfl)) (qA.trans (VZ some e))) ⟨rfl,rfl⟩))
noncomputable def hF(old new:List Nat)(ps:List At)(i j:Nat):Fr:=[some (.val (.str old)),some (.val (.str new)),some (.val (.lst (A3 old new))),some (.own (ps.map λx=>(nh x).v)),some (.val (.int (i:Nat))),some (.val (.int (j:Nat)))]
def qD{old new:List Nat}{ps:List At}{i j:Nat}{x:At}:(hF old new ps i j).set 3 (some (.own ((ps.map λx=>(nh x).v)++[(nh x).v])))=hF old new (ps++[x]) i j:=by
 unfold hF;rw[V3];rfl
section
variable{P:aM}{old new:List Nat}{ps:List At}{i j:Nat}{k:Bool}
def dJ{s:Nat}{m:Nat}(h:nA true (hF old new ps i j) s=some (.int (m:Nat))){b:Bool}(e:decide (0<m)=b):aE P (.cmp .gt (.v s) (.c (.int 0))) (hF old new ps i j)=.ok b (hF old new ps i j):=
 aJ rfl (bN (au h) (bD rfl) qh) (by rw[<-e];show decide ((0:Int)<(m:Nat))=_;simp)
def nR(m:Nat):bP .sub (.int ((m+1:Nat):Int)) (.int 1)=some (.int (m:Nat)):=gj.trans (by simp)
def uI{c:Nat}(h:old[i]?=some c):ev P k (.ix (.v 0) (.bin .sub (.v 4) (.c (.int 1)))) (hF old new ps (i+1) j)=.ok (.str [c]) (hF old new ps (i+1) j):=
 dN (au rfl) (aV (au rfl) (bD rfl) (nR i)) (by rw[jU,jM,h];rfl)
def uJ{c:Nat}(h:new[j]?=some c):ev P k (.ix (.v 1) (.bin .sub (.v 5) (.c (.int 1)))) (hF old new ps i (j+1))=.ok (.str [c]) (hF old new ps i (j+1)):=
 dN (au rfl) (aV (au rfl) (bD rfl) (nR j)) (by rw[jU,jM,h];rfl)
def uK(h1:i+1<=old.length)(h2:j<=new.length){b:Bool}(e:decide (dl (old.take i).reverse (new.take j).reverse<dl (old.take (i+1)).reverse (new.take j).reverse)=b) :
  aE P (.cmp .lt (.ix (.ix (.v 2) (.bin .sub (.v 4) (.c (.int 1)))) (.v 5)) (.ix (.ix (.v 2) (.v 4)) (.v 5))) (hF old new ps (i+1) j)=.ok b (hF old new ps (i+1) j):=
 aJ rfl (bN (dN (dN (au rfl) (aV (au rfl) (bD rfl) (nR i)) (iM (f:=rB old new) (j:=i) (by omega))) (au rfl) (iM (f:=fM (old.take i).reverse new) (j:=j) (by omega))) (dN (dN (au rfl) (au rfl) (iM (f:=rB old new) (j:=i+1) (by omega))) (au rfl) (iM (f:=fM (old.take (i+1)).reverse new) (j:=j) (by omega))) tY) (by rw[<-e];show decide (((_:Nat):Int)<((_:Nat):Int))=_;simp)
def wD{w:Nat}{Q:Fl->Fr->Prop}{x:Nat}(hx:old[i]?=some x)(hl:ps.length<100000)(q:Q .nx (hF old new (ps++[.d x]) i j)):Wp (exs P w (.cons (.exp (.me .append (.v 3) (.cons (.tup (.cons (.c (.str [100,114,111,112])) (.cons (.ix (.v 0) (.bin .sub (.v 4) (.c (.int 1)))) .nil))) .nil))) (.cons (.set 4 (.bin .sub (.v 4) (.c (.int 1)))) .nil)) (hF old new ps (i+1) j)) Q:=by
 refine ai (dQ (v:=.bA) (af:=hF old new (ps++[.d x]) (i+1) j) (ko rfl rfl (aB (gQ (aB (bD rfl) (aB (uI hx) aP)) mK) aP) ((fP (by simpa using hl)).trans (by rw[show V.tup [V.str [100,114,111,112],V.str [x]]=(nh (.d x)).v from rfl,qD]))) ?_);exact ai (aU (ao:=hF old new (ps++[.d x]) i j) (aV (au rfl) (bD rfl) (nR i)) rfl rfl (av q))
def A5{w:Nat}{Q:Fl->Fr->Prop}{y:Nat}(hy:new[j]?=some y)(hl:ps.length<100000)(q:Q .nx (hF old new (ps++[.p y]) i j)):Wp (exs P w (.cons (.exp (.me .append (.v 3) (.cons (.tup (.cons (.c (.str [112,117,116])) (.cons (.ix (.v 1) (.bin .sub (.v 5) (.c (.int 1)))) .nil))) .nil))) (.cons (.set 5 (.bin .sub (.v 5) (.c (.int 1)))) .nil)) (hF old new ps i (j+1))) Q:=by
 refine ai (dQ (v:=.bA) (af:=hF old new (ps++[.p y]) i (j+1)) (ko rfl rfl (aB (gQ (aB (bD rfl) (aB (uJ hy) aP)) mK) aP) ((fP (by simpa using hl)).trans (by rw[show V.tup [V.str [112,117,116],V.str [y]]=(nh (.p y)).v from rfl,qD]))) ?_);exact ai (aU (ao:=hF old new (ps++[.p y]) i j) (aV (au rfl) (bD rfl) (nR j)) rfl rfl (av q))
end
def nS{jG nQ mz nT:Nat}(hst:F[mz]?=some dz)(hfo:F[nT]?=some (gS mz))(hcw:F[jG]?=some gW)(hfc:F[nQ]?=some (iR jG))(hd:F[i]?=some (qz nQ nT))(hw:3000<w)(old new:List Nat)(h0:old.length<=1000)(h:new.length<=1000):run F w (n+3) i [.val (.str old),.val (.str new)]=some (aO (aI (g6 old new)),[]):=by
 refine bW hd rfl ?_;refine ai (aU (aY (ay rfl (au rfl) (ay rfl (au rfl) aG)) (call2 (jB (F:=F) (w:=w) (n:=n) hcw hfc old new h0 h))) rfl rfl ?_);refine ai (gR (l:=[]) (oU aP x6) rfl rfl ?_);refine ai (aU (dO (aB (au rfl) aP) (WQ (by omega))) rfl rfl ?_);refine ai (aU (ao:=hF old new [] old.length new.length) (dO (aB (au rfl) aP) (WQ (by omega))) rfl rfl ?_);refine ai (Ef (oS (λk fr=>∃ps i j,k=i+j/\i<=old.length/\j<=new.length/\ps.length+(i+j)<=2000/\ps++fW (old.take i).reverse (new.take j).reverse=fW old.reverse new.reverse/\fr=hF old new ps i j) (λk fr hI=>?_) w (old.length+new.length) _ (by omega) ⟨[],_,_,rfl,Et _,Et _,by simp;omega,by simp,rfl⟩));obtain⟨ps,i',j',rfl,hi,hj,hl,he,rfl⟩:=hI;cases i' with
 |zero=>
  cases j' with
  |zero=>
   refine⟨false,_,dI (dJ rfl rfl) (dJ rfl rfl),?_⟩;dsimp only;rw[Us Wv];have he:ps=fW old.reverse new.reverse:=by simpa[fW]using he
   have hch:V.tup (ps.map λx=>(nh x).v).reverse=aO (g6 old new):=by
    unfold g6 aO;rw[he,<-List.map_reverse,Xw];rfl
   have UH:(g6 old new).length<=2000:=by unfold g6;rw[Wa,Wc,<-he];omega
   have htc:tot (g6 old new)<=2000:=by rw[<-fR];unfold g6;rw[qo,Wc,<-he];omega
   refine ai (bJ (af:=[some (.val (.str old)),some (.val (.str new)),some (.val (.lst (A3 old new))),some (.val (.lst (ps.map λx=>(nh x).v))),some (.val (.int (0:Nat))),some (.val (.int (0:Nat)))]) (aY (ay rfl (NK (au rfl) ((show qc _=fV _ from rfl).trans ((show fV _=some _ from by unfold fV;rw[GQ (cj (by simp;omega))]).trans (VZ some hch)))) aG) (dj (eU (F:=F) (w:=w) (n:=n) hst hfo (g6 old new) (by omega) (by omega)))) ⟨rfl,rfl⟩)
  |succ j=>
   obtain⟨y,hy⟩:∃y,new[j]?=some y:=⟨_,T7 (by omega)⟩
   rw[dS hy,XF,Yx,fW]at he;refine⟨true,_,dI (dJ rfl rfl) (dJ rfl (by simp)),?_⟩;dsimp only;rw[GQ rfl];refine ai (aH (b:=false) (jX (dJ rfl rfl)) (λz=>absurd z (by decide)) λ_=>?_);refine ai (aH (b:=false) (jX (dJ rfl rfl)) (λz=>absurd z (by decide)) λ_=>?_);refine A5 hy (by omega) (av (av ?_));rw[cL];exact⟨0+j,by omega,ps++[.p y],0,j,rfl,by omega,by omega,by simp;omega,by simpa using he,rfl⟩
 |succ i=>
  obtain⟨x,hx⟩:∃x,old[i]?=some x:=⟨_,T7 (by omega)⟩
  refine⟨true,_,tW (dJ rfl (by simp)),?_⟩;dsimp only;rw[GQ rfl];cases j' with
  |zero=>
   rw[dS hx,XF,Yx,fW]at he;refine ai (aH (b:=false) (dH (dJ rfl (by simp)) (jX (dJ rfl rfl))) (λz=>absurd z (by decide)) λ_=>?_);refine ai (aH (b:=true) (dH (dJ rfl (by simp)) (uK hi hj (by rw[XF,Yx,jt,jt,dS hx];simp))) (λ_=>?_) λz=>absurd z (by decide));refine wD hx (by omega) (av (av ?_));rw[cL];exact⟨i+0,by omega,ps++[.d x],i,0,rfl,by omega,hj,by simp;omega,by simpa using he,rfl⟩
  |succ j=>
   obtain⟨y,hy⟩:∃y,new[j]?=some y:=⟨_,T7 (by omega)⟩
   rw[dS hx,dS hy,fW]at he;by_cases hxy:x=y
   .subst hxy;rw[GQ rfl]at he;refine ai (aH (b:=true) (dH (dJ rfl (by simp)) (dH (dJ rfl (by simp)) (aJ rfl (bN (uI hx) (uJ hy) lT) (by simp[truthy])))) (λ_=>?_) λz=>absurd z (by decide));refine ai (dQ (v:=.bA) (af:=hF old new (ps++[.k]) (i+1) (j+1)) (ko rfl rfl (aB (gQ (aB (bD rfl) (aB (bD rfl) aP)) mK) aP) ((fP (by simp;omega)).trans (by rw[show V.tup [V.str [107,101,101,112],V.int 1]=(nh .k).v from rfl,qD]))) ?_);refine ai (aU (ao:=hF old new (ps++[.k]) i (j+1)) (aV (au rfl) (bD rfl) (nR i)) rfl rfl ?_);refine ai (aU (ao:=hF old new (ps++[.k]) i j) (aV (au rfl) (bD rfl) (nR j)) rfl rfl (av (av ?_)));rw[cL];exact⟨i+j,by omega,ps++[.k],i,j,rfl,by omega,by omega,by simp;omega,by simpa using he,rfl⟩
   .rw[Us hxy]at he;refine ai (aH (b:=false) (dH (dJ rfl (by simp)) (dH (dJ rfl (by simp)) (aJ rfl (bN (uI hx) (uJ hy) lT) (by simp[truthy,hxy])))) (λz=>absurd z (by decide)) λ_=>?_);refine ai (aH (b:=decide (dl (old.take i).reverse (new.take (j+1)).reverse<dl (old.take (i+1)).reverse (new.take (j+1)).reverse)) (dH (dJ rfl (by simp)) (uK hi hj rfl)) (λz=>?_) λz=>?_)
    .have z:dl (old.take i).reverse (new.take (j+1)).reverse<dl (old.take (i+1)).reverse (new.take (j+1)).reverse:=by simpa using z
     rw[dS hx,dS hy]at z;rw[GQ z]at he;refine wD hx (by omega) (av (av ?_));rw[cL];exact⟨i+(j+1),by omega,ps++[.d x],i,j+1,rfl,by omega,hj,by simp;omega,by rw[dS hy];simpa using he,rfl⟩
    .have z:¬ dl (old.take i).reverse (new.take (j+1)).reverse<dl (old.take (i+1)).reverse (new.take (j+1)).reverse:=by simpa using z
     rw[dS hx,dS hy]at z;rw[Us z]at he;refine A5 hy (by omega) (av (av ?_));rw[cL];exact⟨i+1+j,by omega,ps++[.p y],i+1,j,rfl,hi,by omega,by simp;omega,by rw[dS hx];simpa using he,rfl⟩
def A6{l:List Nat}{m:Nat}(h:m<=l.length):cut l none (some (((l.length:Nat):Int) - (m:Nat)))=l.take (l.length - m):=by
 rw[<-yx,show((l.length:Int) - (m:Nat))=((l.length - m:Nat):Int)by omega]
def wF(a b:List Nat):(cQ a b).length<=a.length:=by unfold cQ;rw[Xa];omega
def GV(a b:List Nat):(gf a b).length<=6:=by unfold gf;have:=dU (cp a b) (fu a b) (fu b a);have:=dU (cD a b) [] [];simp;omega
def GW(a b:List Nat):tot (gf a b)<=a.length+b.length:=by rw[<-fR];exact(uD a b).len.2.2.2.2
def A7{Dt mz nT:Nat}(hst:F[mz]?=some dz)(hfo:F[nT]?=some (gS mz))(P0:F[Dt]?=some mw)(hd:F[i]?=some (GS Dt mz nT))(a b:List Nat)(ha:a.length<=1000)(hb:b.length<=1000):run F w (n+3) i [.val (.str a),.val (.str b)]=some (aO (aI (gf a b)),[]):=by
 have g1:=wF a b;have g2:=wF b a;have l1:cD a b<=(cQ a b).length:=by have:=(j5 (cQ a b).reverse (cQ b a).reverse).2.1;rwa [Wc]at this
 have l2:cD a b<=(cQ b a).length:=by have:=(j5 (cQ a b).reverse (cQ b a).reverse).2.2;rwa [Wc]at this
 have sa:fC (.str a) (some (cp a b:Int)) none=some (.str (cQ a b)):=by rw[eX,rT];rfl
 have sb:fC (.str b) (some (cp a b:Int)) none=some (.str (cQ b a)):=by rw[eX,rT,j4];rfl
 have ta:fC (.str (cQ a b)) none (some (((cQ a b).length:Int) - (cD a b:Nat)))=some (.str (fu a b)):=by rw[eX,A6 l1];rfl
 have tb:fC (.str (cQ b a)) none (some (((cQ b a).length:Int) - (cD a b:Nat)))=some (.str (fu b a)):=by rw[eX,A6 l2,mq];rfl
 have ln:=GV a b;have tt:=GW a b;have s1:=dU (cp a b) (fu a b) (fu b a);have s2:=dU (cD a b) [] [];have ad:bP .add (.lst ((bz (cp a b) (fu a b) (fu b a)).map Pt.v)) (.lst ((bz (cD a b) [] []).map Pt.v))=some (.lst ((gf a b).map Pt.v)):=by
  show dP _=_;rw[<-V3];exact gb (cj (by unfold gf at ln;simp at ln ⊢;omega))
 have tp:toT (.lst ((gf a b).map Pt.v))=some (aO (gf a b)):=by
  show fV _=_;unfold fV;rw[GQ (cj (by simp;omega))];rfl
 refine bW hd rfl ?_;refine ai (aU (aY (ay rfl (au rfl) (ay rfl (au rfl) aG)) (call2 (j6 (F:=F) (w:=w) (n:=n+1) P0 a b ha))) rfl rfl ?_);refine ai (aU (tU (au rfl) (lS (au rfl)) oW sa) rfl rfl ?_);refine ai (aU (tU (au rfl) (lS (au rfl)) oW sb) rfl rfl ?_);refine ai (aU (aY (ay rfl (Ct (au rfl) vV) (ay rfl (Ct (au rfl) vV) aG)) (call2 (j6 (F:=F) (w:=w) (n:=n+1) P0 (cQ a b).reverse (cQ b a).reverse (by rw[Wc];omega)))) rfl rfl ?_);refine ai (aU (aY (ay rfl (au rfl) (ay rfl (tU (au rfl) oW (lS (aV (dO (aB (au rfl) aP) (WQ (by omega))) (au rfl) gj)) ta) (ay rfl (tU (au rfl) oW (lS (aV (dO (aB (au rfl) aP) (WQ (by omega))) (au rfl) gj)) tb) aG))) (eS (iF (F:=F) (w:=w) (n:=n+1) hst (cp a b) (fu a b) (fu b a)))) rfl rfl ?_);exact ai (bJ (aY (ay rfl (oV (aV (au rfl) (aY (ay rfl (au rfl) (ay rfl (bD rfl) (ay rfl (bD rfl) aG))) (eS (iF (F:=F) (w:=w) (n:=n+1) hst (cD a b) [] []))) ad) tp) aG) (dj (eU (F:=F) (w:=w) (n:=n) hst hfo (gf a b) (by omega) (by omega)))) ⟨rfl,rfl⟩)
end
end Pv
namespace Lw
@[reducible] noncomputable def RJ:Ev.S:=.iff (.cmp .eq (.ix (.v 0) (.c (.int 0))) (.c (.str [107,101,101,112]))) (.cons (.ret (.ix (.v 0) (.c (.int 1)))) .nil) .nil
@[reducible] noncomputable def RK:Ev.S:=.ret (.bi .len (.cons (.ix (.v 0) (.c (.int 1))) .nil))
@[reducible] noncomputable def f0:Ev.Fn:=⟨1,1,(.cons RJ (.cons RK .nil))⟩
@[reducible] noncomputable def RL:Ev.S:=.ret (.bi .sum (.cons (.comp (.cl 0 (.cons (.v 1) .nil)) (.one 1) (.seq (.v 0)) (.yes (.cmp .ne (.ix (.v 1) (.c (.int 0))) (.c (.str [112,117,116]))))) .nil))
@[reducible] noncomputable def f1:Ev.Fn:=⟨1,2,(.cons RL .nil)⟩
@[reducible] noncomputable def RM:Ev.S:=.ret (.bi .sum (.cons (.comp (.cl 0 (.cons (.v 1) .nil)) (.one 1) (.seq (.v 0)) (.yes (.cmp .ne (.ix (.v 1) (.c (.int 0))) (.c (.str [100,114,111,112]))))) .nil))
@[reducible] noncomputable def f2:Ev.Fn:=⟨1,2,(.cons RM .nil)⟩
@[reducible] noncomputable def RN:Ev.S:=.ret (.bi .sum (.cons (.comp (.cl 0 (.cons (.v 1) .nil)) (.one 1) (.seq (.v 0)) (.yes (.cmp .ne (.ix (.v 1) (.c (.int 0))) (.c (.str [107,101,101,112]))))) .nil))
@[reducible] noncomputable def f3:Ev.Fn:=⟨1,2,(.cons RN .nil)⟩
@[reducible] noncomputable def RP:Ev.S:=.set 1 (.lst .nil)
@[reducible] noncomputable def RQ:Ev.S:=.set 2 (.c (.int 0))
@[reducible] noncomputable def RS:Ev.S:=.set 3 (.c (.str []))
@[reducible] noncomputable def RT:Ev.S:=.set 4 (.c (.str []))
@[reducible] noncomputable def RU:Ev.Ss:=(.cons (.iff (.cmp .eq (.v 5) (.c (.str [100,114,111,112]))) (.cons (.set 3 (.bin .add (.v 3) (.v 6))) .nil) (.cons (.iff (.cmp .eq (.v 5) (.c (.str [112,117,116]))) (.cons (.set 4 (.bin .add (.v 4) (.v 6))) .nil) (.cons (.iff (.cmp .gt (.v 6) (.c (.int 0))) (.cons (.iff (.orr (.cmp .ne (.v 3) (.c (.str []))) (.cmp .ne (.v 4) (.c (.str [])))) (.cons (.exp (.me .extend (.v 1) (.cons (.cl 5 (.cons (.v 2) (.cons (.v 3) (.cons (.v 4) .nil)))) .nil))) (.cons (.set 2 (.c (.int 0))) (.cons (.set 3 (.c (.str []))) (.cons (.set 4 (.c (.str []))) .nil)))) .nil) (.cons (.set 2 (.bin .add (.v 2) (.v 6))) .nil)) .nil) .nil)) .nil)) .nil)
@[reducible] noncomputable def RW:Ev.S:=.for (.many [5,6]) (.seq (.v 0)) RU
@[reducible] noncomputable def RX:Ev.S:=.exp (.me .extend (.v 1) (.cons (.cl 5 (.cons (.v 2) (.cons (.v 3) (.cons (.v 4) .nil)))) .nil))
@[reducible] noncomputable def RY:Ev.S:=.ret (.gZ (.v 1))
@[reducible] noncomputable def f4:Ev.Fn:=⟨1,7,(.cons RP (.cons RQ (.cons RS (.cons RT (.cons RW (.cons RX (.cons RY .nil)))))))⟩
@[reducible] noncomputable def RZ:Ev.S:=.set 3 (.lst .nil)
@[reducible] noncomputable def R0:Ev.S:=.iff (.cmp .gt (.v 0) (.c (.int 0))) (.cons (.exp (.me .append (.v 3) (.cons (.tup (.cons (.c (.str [107,101,101,112])) (.cons (.v 0) .nil))) .nil))) .nil) .nil
@[reducible] noncomputable def R1:Ev.S:=.iff (.cmp .ne (.v 1) (.c (.str []))) (.cons (.exp (.me .append (.v 3) (.cons (.tup (.cons (.c (.str [100,114,111,112])) (.cons (.v 1) .nil))) .nil))) .nil) .nil
@[reducible] noncomputable def R3:Ev.S:=.iff (.cmp .ne (.v 2) (.c (.str []))) (.cons (.exp (.me .append (.v 3) (.cons (.tup (.cons (.c (.str [112,117,116])) (.cons (.v 2) .nil))) .nil))) .nil) .nil
@[reducible] noncomputable def R4:Ev.S:=.ret (.v 3)
@[reducible] noncomputable def f5:Ev.Fn:=⟨3,4,(.cons RZ (.cons R0 (.cons R1 (.cons R3 (.cons R4 .nil)))))⟩
@[reducible] noncomputable def R5:Ev.S:=.ret (.ix (.ix (.cl 8 (.cons (.v 0) (.cons (.v 1) .nil))) (.neg (.c (.int 1)))) (.neg (.c (.int 1))))
@[reducible] noncomputable def f6:Ev.Fn:=⟨2,2,(.cons R5 .nil)⟩
@[reducible] noncomputable def R6:Ev.S:=.set 2 (.cl 8 (.cons (.v 0) (.cons (.v 1) .nil)))
@[reducible] noncomputable def R7:Ev.S:=.set 3 (.lst .nil)
@[reducible] noncomputable def R8:Ev.S:=.set 4 (.bi .len (.cons (.v 0) .nil))
@[reducible] noncomputable def R9:Ev.S:=.set 5 (.bi .len (.cons (.v 1) .nil))
@[reducible] noncomputable def Sa:Ev.Ss:=(.cons (.iff (.an (.cmp .gt (.v 4) (.c (.int 0))) (.an (.cmp .gt (.v 5) (.c (.int 0))) (.cmp .eq (.ix (.v 0) (.bin .sub (.v 4) (.c (.int 1)))) (.ix (.v 1) (.bin .sub (.v 5) (.c (.int 1))))))) (.cons (.exp (.me .append (.v 3) (.cons (.tup (.cons (.c (.str [107,101,101,112])) (.cons (.c (.int 1)) .nil))) .nil))) (.cons (.set 4 (.bin .sub (.v 4) (.c (.int 1)))) (.cons (.set 5 (.bin .sub (.v 5) (.c (.int 1)))) .nil))) (.cons (.iff (.an (.cmp .gt (.v 4) (.c (.int 0))) (.cmp .lt (.ix (.ix (.v 2) (.bin .sub (.v 4) (.c (.int 1)))) (.v 5)) (.ix (.ix (.v 2) (.v 4)) (.v 5)))) (.cons (.exp (.me .append (.v 3) (.cons (.tup (.cons (.c (.str [100,114,111,112])) (.cons (.ix (.v 0) (.bin .sub (.v 4) (.c (.int 1)))) .nil))) .nil))) (.cons (.set 4 (.bin .sub (.v 4) (.c (.int 1)))) .nil)) (.cons (.exp (.me .append (.v 3) (.cons (.tup (.cons (.c (.str [112,117,116])) (.cons (.ix (.v 1) (.bin .sub (.v 5) (.c (.int 1)))) .nil))) .nil))) (.cons (.set 5 (.bin .sub (.v 5) (.c (.int 1)))) .nil))) .nil)) .nil)
@[reducible] noncomputable def Sb:Ev.S:=.lu (.orr (.cmp .gt (.v 4) (.c (.int 0))) (.cmp .gt (.v 5) (.c (.int 0)))) Sa
@[reducible] noncomputable def Sd:Ev.S:=.ret (.cl 4 (.cons (.kN (.v 3)) .nil))
@[reducible] noncomputable def f7:Ev.Fn:=⟨2,6,(.cons R6 (.cons R7 (.cons R8 (.cons R9 (.cons Sb (.cons Sd .nil))))))⟩
@[reducible] noncomputable def Se:Ev.S:=.set 2 (.lst (.cons (.gp (.fY (.cons (.bin .add (.bi .len (.cons (.v 1) .nil)) (.c (.int 1))) .nil))) .nil))
@[reducible] noncomputable def Sf:Ev.Ss:=(.cons (.exp (.me .append (.v 2) (.cons (.cl 9 (.cons (.v 3) (.cons (.v 1) (.cons (.ix (.v 2) (.neg (.c (.int 1)))) .nil)))) .nil))) .nil)
@[reducible] noncomputable def Sg:Ev.S:=.for (.one 3) (.seq (.v 0)) Sf
@[reducible] noncomputable def Sh:Ev.S:=.ret (.v 2)
@[reducible] noncomputable def f8:Ev.Fn:=⟨2,4,(.cons Se (.cons Sg (.cons Sh .nil)))⟩
@[reducible] noncomputable def Si:Ev.S:=.set 3 (.lst (.cons (.bin .add (.ix (.v 2) (.c (.int 0))) (.c (.int 1))) .nil))
@[reducible] noncomputable def Sj:Ev.Ss:=(.cons (.iff (.cmp .eq (.v 5) (.v 0)) (.cons (.exp (.me .append (.v 3) (.cons (.ix (.v 2) (.v 4)) .nil))) .nil) (.cons (.exp (.me .append (.v 3) (.cons (.bin .add (.c (.int 1)) (.bi .min (.cons (.ix (.v 2) (.bin .add (.v 4) (.c (.int 1)))) (.cons (.ix (.v 3) (.v 4)) .nil)))) .nil))) .nil)) .nil)
@[reducible] noncomputable def Sk:Ev.S:=.for (.many [4,5]) (.ji (.v 1)) Sj
@[reducible] noncomputable def Sn:Ev.S:=.ret (.v 3)
@[reducible] noncomputable def f9:Ev.Fn:=⟨3,6,(.cons Si (.cons Sk (.cons Sn .nil)))⟩
@[reducible] noncomputable def NZ:Ev.S:=.set 2 (.cl 11 (.cons (.v 0) (.cons (.v 1) .nil)))
@[reducible] noncomputable def N1:Ev.S:=.set 3 (.sl (.v 0) (.yes (.v 2)) .no)
@[reducible] noncomputable def N2:Ev.S:=.set 4 (.sl (.v 1) (.yes (.v 2)) .no)
@[reducible] noncomputable def N3:Ev.S:=.set 5 (.cl 11 (.cons (.rv (.v 3)) (.cons (.rv (.v 4)) .nil)))
@[reducible] noncomputable def N4:Ev.S:=.set 6 (.cl 5 (.cons (.v 2) (.cons (.sl (.v 3) .no (.yes (.bin .sub (.bi .len (.cons (.v 3) .nil)) (.v 5)))) (.cons (.sl (.v 4) .no (.yes (.bin .sub (.bi .len (.cons (.v 4) .nil)) (.v 5)))) .nil))))
@[reducible] noncomputable def N5:Ev.S:=.ret (.cl 4 (.cons (.gZ (.bin .add (.v 6) (.cl 5 (.cons (.v 5) (.cons (.c (.str [])) (.cons (.c (.str [])) .nil)))))) .nil))
@[reducible] noncomputable def zy:Ev.Fn:=⟨2,7,(.cons NZ (.cons N1 (.cons N2 (.cons N3 (.cons N4 (.cons N5 .nil))))))⟩
@[reducible] noncomputable def N6:Ev.S:=.set 2 (.c (.int 0))
@[reducible] noncomputable def N7:Ev.Ss:=(.cons (.iff (.cmp .ne (.v 3) (.v 4)) (.cons (.ret (.v 2)) .nil) .nil) (.cons (.set 2 (.bin .add (.v 2) (.c (.int 1)))) .nil))
@[reducible] noncomputable def N8:Ev.S:=.for (.many [3,4]) (.jj (.v 0) (.v 1)) N7
@[reducible] noncomputable def N9:Ev.S:=.ret (.v 2)
@[reducible] noncomputable def Lm:Ev.Fn:=⟨2,5,(.cons N6 (.cons N8 (.cons N9 .nil)))⟩
@[reducible] noncomputable def Oa:Ev.S:=.set 2 (.c (.int 0))
@[reducible] noncomputable def Ob:Ev.Ss:=(.cons (.iff (.an (.cmp .eq (.ix (.v 3) (.c (.int 0))) (.c (.str [100,114,111,112]))) (.cmp .ne (.sl (.v 1) (.yes (.v 2)) (.yes (.bin .add (.v 2) (.cl 0 (.cons (.v 3) .nil))))) (.ix (.v 3) (.c (.int 1))))) (.cons (.ret (.c (.bl false))) .nil) .nil) (.cons (.iff (.cmp .ne (.ix (.v 3) (.c (.int 0))) (.c (.str [112,117,116]))) (.cons (.set 2 (.bin .add (.v 2) (.cl 0 (.cons (.v 3) .nil)))) .nil) .nil) .nil))
@[reducible] noncomputable def Oc:Ev.S:=.for (.one 3) (.seq (.v 0)) Ob
@[reducible] noncomputable def Od:Ev.S:=.ret (.cmp .eq (.v 2) (.bi .len (.cons (.v 1) .nil)))
@[reducible] noncomputable def Ln:Ev.Fn:=⟨2,4,(.cons Oa (.cons Oc (.cons Od .nil)))⟩
@[reducible] noncomputable def Oe:Ev.S:=.iff (.nt (.cl 12 (.cons (.v 0) (.cons (.v 1) .nil)))) (.cons (.fU 0) .nil) .nil
@[reducible] noncomputable def Of:Ev.S:=.set 2 (.lst .nil)
@[reducible] noncomputable def Og:Ev.S:=.set 3 (.c (.int 0))
@[reducible] noncomputable def Oh:Ev.Ss:=(.cons (.iff (.cmp .eq (.v 4) (.c (.str [112,117,116]))) (.cons (.exp (.me .append (.v 2) (.cons (.v 5) .nil))) .nil) (.cons (.iff (.cmp .eq (.v 4) (.c (.str [100,114,111,112]))) (.cons (.set 3 (.bin .add (.v 3) (.bi .len (.cons (.v 5) .nil)))) .nil) (.cons (.exp (.me .append (.v 2) (.cons (.sl (.v 1) (.yes (.v 3)) (.yes (.bin .add (.v 3) (.v 5)))) .nil))) (.cons (.set 3 (.bin .add (.v 3) (.v 5))) .nil))) .nil)) .nil)
@[reducible] noncomputable def Oi:Ev.S:=.for (.many [4,5]) (.seq (.v 0)) Oh
@[reducible] noncomputable def Oj:Ev.S:=.ret (.me .join (.c (.str [])) (.cons (.v 2) .nil))
@[reducible] noncomputable def Lo:Ev.Fn:=⟨2,6,(.cons Oe (.cons Of (.cons Og (.cons Oi (.cons Oj .nil)))))⟩
@[reducible] noncomputable def Ol:Ev.S:=.ret (.cl 4 (.cons (.gZ (.comp (.tup (.cons (.iO [(.str [107,101,101,112],.str [107,101,101,112]),(.str [112,117,116],.str [100,114,111,112]),(.str [100,114,111,112],.str [112,117,116])] (.v 1)) (.cons (.v 2) .nil))) (.many [1,2]) (.seq (.v 0)) .no)) .nil))
@[reducible] noncomputable def Lp:Ev.Fn:=⟨1,3,(.cons Ol .nil)⟩
@[reducible] noncomputable def Om:Ev.S:=.ret (.cl 4 (.cons (.tup (.cons (.tup (.cons (.c (.str [107,101,101,112])) (.cons (.v 0) .nil))) .nil)) .nil))
@[reducible] noncomputable def Lq:Ev.Fn:=⟨1,1,(.cons Om .nil)⟩
@[reducible] noncomputable def Oo:Ev.S:=.iff (.cmp .ne (.cl 2 (.cons (.v 0) .nil)) (.cl 1 (.cons (.v 1) .nil))) (.cons (.fU 0) .nil) .nil
@[reducible] noncomputable def Oq:Ev.S:=.set 2 (.gp (.rev (.cl 4 (.cons (.v 0) .nil))))
@[reducible] noncomputable def Ot:Ev.S:=.set 3 (.gp (.rev (.cl 4 (.cons (.v 1) .nil))))
@[reducible] noncomputable def Ou:Ev.S:=.set 4 (.lst .nil)
@[reducible] noncomputable def Ov:Ev.Ss:=(.cons (.iff (.an (.v 2) (.cmp .eq (.ix (.ix (.v 2) (.neg (.c (.int 1)))) (.c (.int 0))) (.c (.str [100,114,111,112])))) (.cons (.exp (.me .append (.v 4) (.cons (.me .pop (.v 2) .nil) .nil))) .nil) (.cons (.iff (.an (.v 3) (.cmp .eq (.ix (.ix (.v 3) (.neg (.c (.int 1)))) (.c (.int 0))) (.c (.str [112,117,116])))) (.cons (.exp (.me .append (.v 4) (.cons (.me .pop (.v 3) .nil) .nil))) .nil) (.cons (.set 5 (.bi .min (.cons (.cl 0 (.cons (.ix (.v 2) (.neg (.c (.int 1)))) .nil)) (.cons (.cl 0 (.cons (.ix (.v 3) (.neg (.c (.int 1)))) .nil)) .nil)))) (.cons (.exp (.me .extend (.v 4) (.cons (.cl 17 (.cons (.cl 18 (.cons (.v 2) (.cons (.v 5) .nil))) (.cons (.cl 18 (.cons (.v 3) (.cons (.v 5) .nil))) .nil))) .nil))) .nil))) .nil)) .nil)
@[reducible] noncomputable def Ow:Ev.S:=.lu (.orr (.v 2) (.v 3)) Ov
@[reducible] noncomputable def Ox:Ev.S:=.ret (.cl 4 (.cons (.gZ (.v 4)) .nil))
@[reducible] noncomputable def Lr:Ev.Fn:=⟨2,6,(.cons Oo (.cons Oq (.cons Ot (.cons Ou (.cons Ow (.cons Ox .nil))))))⟩
@[reducible] noncomputable def Oz:Ev.S:=.iff (.cmp .eq (.ix (.v 1) (.c (.int 0))) (.c (.str [107,101,101,112]))) (.cons (.ret (.lst (.cons (.v 0) .nil))) .nil) .nil
@[reducible] noncomputable def OA:Ev.S:=.iff (.cmp .eq (.ix (.v 0) (.c (.int 0))) (.c (.str [107,101,101,112]))) (.cons (.ret (.lst (.cons (.v 1) .nil))) .nil) .nil
@[reducible] noncomputable def OB:Ev.S:=.iff (.cmp .ne (.ix (.v 0) (.c (.int 1))) (.ix (.v 1) (.c (.int 1)))) (.cons (.fU 0) .nil) .nil
@[reducible] noncomputable def OC:Ev.S:=.ret (.lst .nil)
@[reducible] noncomputable def Ls:Ev.Fn:=⟨2,2,(.cons Oz (.cons OA (.cons OB (.cons OC .nil))))⟩
@[reducible] noncomputable def OD:Ev.S:=.set 2 (.cl 19 (.cons (.me .pop (.v 0) .nil) (.cons (.v 1) .nil)))
@[reducible] noncomputable def OE:Ev.S:=.iff (.cmp .gt (.cl 0 (.cons (.ix (.v 2) (.c (.int 1))) .nil)) (.c (.int 0))) (.cons (.exp (.me .append (.v 0) (.cons (.ix (.v 2) (.c (.int 1))) .nil))) .nil) .nil
@[reducible] noncomputable def OF:Ev.S:=.ret (.ix (.v 2) (.c (.int 0)))
@[reducible] noncomputable def Lu:Ev.Fn:=⟨2,3,(.cons OD (.cons OE (.cons OF .nil)))⟩
@[reducible] noncomputable def OG:Ev.S:=.set 2 (.ix (.v 0) (.c (.int 0)))
@[reducible] noncomputable def OH:Ev.S:=.iff (.cmp .eq (.v 2) (.c (.str [107,101,101,112]))) (.cons (.ret (.tup (.cons (.tup (.cons (.v 2) (.cons (.v 1) .nil))) (.cons (.tup (.cons (.v 2) (.cons (.bin .sub (.ix (.v 0) (.c (.int 1))) (.v 1)) .nil))) .nil)))) .nil) .nil
@[reducible] noncomputable def OI:Ev.S:=.ret (.tup (.cons (.tup (.cons (.v 2) (.cons (.sl (.ix (.v 0) (.c (.int 1))) .no (.yes (.v 1))) .nil))) (.cons (.tup (.cons (.v 2) (.cons (.sl (.ix (.v 0) (.c (.int 1))) (.yes (.v 1)) .no) .nil))) .nil)))
@[reducible] noncomputable def Lv:Ev.Fn:=⟨2,3,(.cons OG (.cons OH (.cons OI .nil)))⟩
@[reducible] noncomputable def OJ:Ev.S:=.ret (.cmp .eq (.cl 4 (.cons (.v 0) .nil)) (.cl 4 (.cons (.v 1) .nil)))
@[reducible] noncomputable def A8:Ev.Fn:=⟨2,2,(.cons OJ .nil)⟩
@[reducible] noncomputable def OL:Ev.S:=.iff (.cmp .eq (.v 0) (.lst .nil)) (.cons (.ret (.bin .mul (.c (.int 7)) (.v 1))) .nil) .nil
@[reducible] noncomputable def OM:Ev.S:=.ret (.bin .add (.ix (.v 0) (.bin .mod (.v 1) (.bi .len (.cons (.v 0) .nil)))) (.bin .mul (.c (.int 6553)) (.bin .fdiv (.v 1) (.bi .len (.cons (.v 0) .nil)))))
@[reducible] noncomputable def Lx:Ev.Fn:=⟨2,2,(.cons OL (.cons OM .nil))⟩
@[reducible] noncomputable def ON:Ev.S:=.set 3 (.bin .mod (.bin .add (.bin .mul (.bin .mod (.cl 21 (.cons (.v 0) (.cons (.v 1) .nil))) (.c (.int 2147483563))) (.c (.int 69069))) (.bin .mul (.c (.int 104723)) (.bin .add (.v 1) (.c (.int 1))))) (.c (.int 2147483563)))
@[reducible] noncomputable def OO:Ev.S:=.set 3 (.bin .mod (.bin .add (.bin .mul (.v 3) (.v 3)) (.bin .fdiv (.v 3) (.c (.int 3)))) (.c (.int 2147483399)))
@[reducible] noncomputable def OP:Ev.S:=.ret (.bin .mod (.bin .fdiv (.bin .mod (.bin .add (.bin .mul (.v 3) (.v 3)) (.bin .fdiv (.v 3) (.c (.int 7)))) (.c (.int 2147483647))) (.c (.int 11))) (.v 2))
@[reducible] noncomputable def Ly:Ev.Fn:=⟨3,4,(.cons ON (.cons OO (.cons OP .nil)))⟩
@[reducible] noncomputable def OQ:Ev.S:=.ret (.me .join (.c (.str [])) (.cons (.comp (.ix (.c (.str [97,98,99,32])) (.cl 22 (.cons (.v 0) (.cons (.bin .add (.bin .add (.v 1) (.c (.int 1))) (.v 3)) (.cons (.c (.int 4)) .nil))))) (.one 3) (.fY (.cons (.cl 22 (.cons (.v 0) (.cons (.v 1) (.cons (.bin .add (.v 2) (.c (.int 1))) .nil)))) .nil)) .no) .nil))
@[reducible] noncomputable def Lz:Ev.Fn:=⟨3,4,(.cons OQ .nil)⟩
@[reducible] noncomputable def OR:Ev.S:=.set 3 (.tup .nil)
@[reducible] noncomputable def OS:Ev.Ss:=(.cons (.iff (.cmp .eq (.cl 22 (.cons (.v 0) (.cons (.bin .add (.v 1) (.bin .mul (.c (.int 4)) (.v 4))) (.cons (.c (.int 4)) .nil)))) (.c (.int 0))) (.cons (.set 5 (.bin .mul (.ix (.c (.str [97,98,122])) (.cl 22 (.cons (.v 0) (.cons (.bin .add (.bin .add (.v 1) (.bin .mul (.c (.int 4)) (.v 4))) (.c (.int 1))) (.cons (.c (.int 3)) .nil))))) (.bin .add (.c (.int 1)) (.cl 22 (.cons (.v 0) (.cons (.bin .add (.bin .add (.v 1) (.bin .mul (.c (.int 4)) (.v 4))) (.c (.int 2))) (.cons (.c (.int 2)) .nil))))))) (.cons (.set 3 (.bin .add (.v 3) (.tup (.cons (.tup (.cons (.c (.str [112,117,116])) (.cons (.v 5) .nil))) .nil)))) .nil)) .nil) (.cons (.iff (.cmp .lt (.v 4) (.bi .len (.cons (.v 2) .nil))) (.cons (.set 6 (.cmp .gt (.cl 22 (.cons (.v 0) (.cons (.bin .add (.bin .add (.v 1) (.bin .mul (.c (.int 4)) (.v 4))) (.c (.int 3))) (.cons (.c (.int 3)) .nil)))) (.c (.int 0)))) (.cons (.set 3 (.bin .add (.v 3) (.tup (.cons (.kM (.v 6) (.tup (.cons (.c (.str [107,101,101,112])) (.cons (.c (.int 1)) .nil))) (.tup (.cons (.c (.str [100,114,111,112])) (.cons (.ix (.v 2) (.v 4)) .nil)))) .nil)))) .nil)) .nil) .nil))
@[reducible] noncomputable def OT:Ev.S:=.for (.one 4) (.fY (.cons (.bin .add (.bi .len (.cons (.v 2) .nil)) (.c (.int 1))) .nil)) OS
@[reducible] noncomputable def OU:Ev.S:=.ret (.v 3)
@[reducible] noncomputable def LA:Ev.Fn:=⟨3,7,(.cons OR (.cons OT (.cons OU .nil)))⟩
@[reducible] noncomputable def OV:Ev.S:=.set 1 (.cl 23 (.cons (.v 0) (.cons (.c (.int 0)) (.cons (.c (.int 5)) .nil))))
@[reducible] noncomputable def OW:Ev.S:=.set 2 (.cl 23 (.cons (.v 0) (.cons (.c (.int 10)) (.cons (.c (.int 5)) .nil))))
@[reducible] noncomputable def OX:Ev.S:=.set 3 (.cl 23 (.cons (.v 0) (.cons (.c (.int 20)) (.cons (.c (.int 5)) .nil))))
@[reducible] noncomputable def OY:Ev.S:=.set 4 (.cl 24 (.cons (.v 0) (.cons (.c (.int 30)) (.cons (.v 1) .nil))))
@[reducible] noncomputable def OZ:Ev.S:=.set 5 (.cl 13 (.cons (.v 4) (.cons (.v 1) .nil)))
@[reducible] noncomputable def O0:Ev.S:=.iff (.orr (.cmp .gt (.cl 6 (.cons (.v 1) (.cons (.v 5) .nil))) (.cl 3 (.cons (.v 4) .nil))) (.cmp .gt (.cl 3 (.cons (.cl 7 (.cons (.v 1) (.cons (.v 5) .nil))) .nil)) (.cl 3 (.cons (.v 4) .nil)))) (.cons (.ret (.c (.bl false))) .nil) .nil
@[reducible] noncomputable def yC:Ev.Ss:=(.cons (.set 8 (.cl 6 (.cons (.v 6) (.cons (.v 7) .nil)))) (.cons (.iff (.orr (.cmp .ne (.v 8) (.cl 6 (.cons (.v 7) (.cons (.v 6) .nil)))) (.orr (.cmp .ne (.cmp .eq (.v 8) (.c (.int 0))) (.cmp .eq (.v 6) (.v 7))) (.cmp .gt (.v 8) (.bin .add (.bi .len (.cons (.v 6) .nil)) (.bi .len (.cons (.v 7) .nil)))))) (.cons (.ret (.c (.bl false))) .nil) .nil) (.cons (.iff (.orr (.cmp .ne (.bin .mod (.bin .sub (.bin .sub (.v 8) (.bi .len (.cons (.v 6) .nil))) (.bi .len (.cons (.v 7) .nil))) (.c (.int 2))) (.c (.int 0))) (.cmp .lt (.v 8) (.bi .abs (.cons (.bin .sub (.bi .len (.cons (.v 6) .nil)) (.bi .len (.cons (.v 7) .nil))) .nil)))) (.cons (.ret (.c (.bl false))) .nil) .nil) (.cons (.iff (.orr (.cmp .ne (.cl 6 (.cons (.bin .add (.c (.str [122])) (.v 6)) (.cons (.bin .add (.c (.str [122])) (.v 7)) .nil))) (.v 8)) (.cmp .ne (.cl 6 (.cons (.bin .add (.v 6) (.c (.str [97,98]))) (.cons (.bin .add (.v 7) (.c (.str [97,98]))) .nil))) (.v 8))) (.cons (.ret (.c (.bl false))) .nil) .nil) (.cons (.set 9 (.cl 10 (.cons (.v 6) (.cons (.v 7) .nil)))) (.cons (.iff (.orr (.cmp .ne (.cl 13 (.cons (.v 9) (.cons (.v 6) .nil))) (.v 7)) (.orr (.cmp .lt (.cl 3 (.cons (.v 9) .nil)) (.v 8)) (.cmp .ne (.cl 13 (.cons (.cl 14 (.cons (.v 9) .nil)) (.cons (.v 7) .nil))) (.v 6)))) (.cons (.ret (.c (.bl false))) .nil) .nil) (.cons (.iff (.orr (.cmp .ne (.cl 13 (.cons (.cl 7 (.cons (.v 6) (.cons (.v 7) .nil))) (.cons (.v 6) .nil))) (.v 7)) (.cmp .ne (.cl 14 (.cons (.cl 10 (.cons (.v 6) (.cons (.v 7) .nil))) .nil)) (.cl 10 (.cons (.v 7) (.cons (.v 6) .nil))))) (.cons (.ret (.c (.bl false))) .nil) .nil) .nil)))))))
@[reducible] noncomputable def yD:Ev.Ss:=(.cons (.for (.one 7) (.seq (.tup (.cons (.v 1) (.cons (.v 2) (.cons (.v 3) .nil))))) yC) .nil)
@[reducible] noncomputable def O1:Ev.S:=.for (.one 6) (.seq (.tup (.cons (.v 1) (.cons (.v 2) (.cons (.v 3) .nil))))) yD
@[reducible] noncomputable def O2:Ev.S:=.iff (.cmp .gt (.cl 6 (.cons (.v 1) (.cons (.v 3) .nil))) (.bin .add (.cl 6 (.cons (.v 1) (.cons (.v 2) .nil))) (.cl 6 (.cons (.v 2) (.cons (.v 3) .nil))))) (.cons (.ret (.c (.bl false))) .nil) .nil
@[reducible] noncomputable def O3:Ev.S:=.set 10 (.cl 16 (.cons (.cl 7 (.cons (.v 1) (.cons (.v 2) .nil))) (.cons (.cl 7 (.cons (.v 2) (.cons (.v 3) .nil))) .nil)))
@[reducible] noncomputable def O4:Ev.S:=.iff (.orr (.cmp .ne (.cl 13 (.cons (.v 10) (.cons (.v 1) .nil))) (.v 3)) (.cmp .lt (.cl 3 (.cons (.v 10) .nil)) (.cl 6 (.cons (.v 1) (.cons (.v 3) .nil))))) (.cons (.ret (.c (.bl false))) .nil) .nil
@[reducible] noncomputable def LC:Ev.S:=.ret (.an (.cl 20 (.cons (.cl 7 (.cons (.v 1) (.cons (.v 1) .nil))) (.cons (.cl 15 (.cons (.bi .len (.cons (.v 1) .nil)) .nil)) .nil))) (.cmp .eq (.cl 10 (.cons (.v 1) (.cons (.v 1) .nil))) (.cl 15 (.cons (.bi .len (.cons (.v 1) .nil)) .nil))))
@[reducible] noncomputable def A9:Ev.Fn:=⟨1,11,(.cons OV (.cons OW (.cons OX (.cons OY (.cons OZ (.cons O0 (.cons O1 (.cons O2 (.cons O3 (.cons O4 (.cons LC .nil)))))))))))⟩
noncomputable def prog:List Ev.Fn:=[f0,f1,f2,f3,f4,f5,f6,f7,f8,f9,zy,Lm,Ln,Lo,Lp,Lq,Lr,Ls,Lu,Lv,A8,Lx,Ly,Lz,LA,A9]
end Lw
namespace Lw
open PySem PySem.Spec PyProof.Rows L2 Sm
open Ev (D O Hh Fr R aM E Es Eo T S Ss Fl Src br aZ TY BI ME)
noncomputable def top(i:Nat):Stmt:=PySem.Challenge.pw_pastways_k51_whole_least.main.body.getD i (.Pass ⟨0,0,0,0⟩)
abbrev i0 (a:Nat->Addr) (d:Nat->FuncData):FI:=⟨"size",a 0,d 0,["part"]⟩
abbrev i1 (a:Nat->Addr) (d:Nat->FuncData):FI:=⟨"before",a 1,d 1,["change"]⟩
abbrev i2 (a:Nat->Addr) (d:Nat->FuncData):FI:=⟨"after",a 2,d 2,["change"]⟩
abbrev i3 (a:Nat->Addr) (d:Nat->FuncData):FI:=⟨"cost",a 3,d 3,["change"]⟩
abbrev i4 (a:Nat->Addr) (d:Nat->FuncData):FI:=⟨"form",a 4,d 4,["change"]⟩
abbrev i5 (a:Nat->Addr) (d:Nat->FuncData):FI:=⟨"stretch",a 5,d 5,["kept","gone","new"]⟩
abbrev i6 (a:Nat->Addr) (d:Nat->FuncData):FI:=⟨"least_cost",a 6,d 6,["old","new"]⟩
abbrev i7 (a:Nat->Addr) (d:Nat->FuncData):FI:=⟨"least_change",a 7,d 7,["old","new"]⟩
abbrev i8 (a:Nat->Addr) (d:Nat->FuncData):FI:=⟨"first_costs",a 8,d 8,["old","new"]⟩
abbrev i9 (a:Nat->Addr) (d:Nat->FuncData):FI:=⟨"costs_with",a 9,d 9,["sign","new","costs"]⟩
abbrev LD (a:Nat->Addr) (d:Nat->FuncData):FI:=⟨"apart",a 10,d 10,["old","new"]⟩
abbrev LF (a:Nat->Addr) (d:Nat->FuncData):FI:=⟨"alike_many",a 11,d 11,["one","other"]⟩
abbrev i12 (a:Nat->Addr) (d:Nat->FuncData):FI:=⟨"fits",a 12,d 12,["change","text"]⟩
abbrev LG (a:Nat->Addr) (d:Nat->FuncData):FI:=⟨"done",a 13,d 13,["change","text"]⟩
abbrev LH (a:Nat->Addr) (d:Nat->FuncData):FI:=⟨"undone",a 14,d 14,["change"]⟩
abbrev LI (a:Nat->Addr) (d:Nat->FuncData):FI:=⟨"nothing",a 15,d 15,["many"]⟩
abbrev LJ (a:Nat->Addr) (d:Nat->FuncData):FI:=⟨"then",a 16,d 16,["one","other"]⟩
abbrev LK (a:Nat->Addr) (d:Nat->FuncData):FI:=⟨"met",a 17,d 17,["left","gone_through"]⟩
abbrev LL (a:Nat->Addr) (d:Nat->FuncData):FI:=⟨"taken",a 18,d 18,["parts","many"]⟩
abbrev LM (a:Nat->Addr) (d:Nat->FuncData):FI:=⟨"parted",a 19,d 19,["part","many"]⟩
abbrev LN (a:Nat->Addr) (d:Nat->FuncData):FI:=⟨"alike",a 20,d 20,["one","other"]⟩
abbrev LO (a:Nat->Addr) (d:Nat->FuncData):FI:=⟨"_law_cell",a 21,d 21,["_law_script","_law_k"]⟩
abbrev LP (a:Nat->Addr) (d:Nat->FuncData):FI:=⟨"_law_drawn",a 22,d 22,["_law_script","_law_k","_law_many"]⟩
abbrev LQ (a:Nat->Addr) (d:Nat->FuncData):FI:=⟨"_law_text",a 23,d 23,["_law_script","_law_at","_law_most"]⟩
abbrev LR (a:Nat->Addr) (d:Nat->FuncData):FI:=⟨"_law_change",a 24,d 24,["_law_script","_law_at","_law_text_here"]⟩
abbrev Ew (a:Nat->Addr) (d:Nat->FuncData):FI:=⟨"law",a 25,d 25,["_law_script"]⟩
noncomputable def kR:List Str:=["abs","enumerate","len","list","min","range","reversed","sum","tuple","zip"]
def O5:("abs" : Str)∈kR:=by decide +kernel
def uX:("enumerate" : Str)∈kR:=by decide +kernel
def O6:("len" : Str)∈kR:=by decide +kernel
def Ba:("list" : Str)∈kR:=by decide +kernel
def O7:("min" : Str)∈kR:=by decide +kernel
def wG:("range" : Str)∈kR:=by decide +kernel
def pI:("reversed" : Str)∈kR:=by decide +kernel
def O8:("sum" : Str)∈kR:=by decide +kernel
def wH:("tuple" : Str)∈kR:=by decide +kernel
def O9:("zip" : Str)∈kR:=by decide +kernel
noncomputable def tb (a:Nat->Addr) (d:Nat->FuncData):Tb:=⟨prog,100000,[i0 a d,i1 a d,i2 a d,i3 a d,i4 a d,i5 a d,i6 a d,i7 a d,i8 a d,i9 a d,LD a d,LF a d,i12 a d,LG a d,LH a d,LI a d,LJ a d,LK a d,LL a d,LM a d,LN a d,LO a d,LP a d,LQ a d,LR a d,Ew a d],kR,[("__name__",.str [108,97,119,95,112,97,115,116,119,97,121,115,95,107,53,49,95,119,104,111,108,101,95,108,101,97,115,116])],[("TURNED",[(.str [107,101,101,112],.str [107,101,101,112]),(.str [112,117,116],.str [100,114,111,112]),(.str [100,114,111,112],.str [112,117,116])])]⟩
section
variable{a:Nat->Addr}{d:Nat->FuncData}{n:Nat}
abbrev n0:List Str:=["part"]
def s0:bu n0 ["part"] (aN (top 1)):=⟨rfl,rfl,rfl,by decide +kernel,rfl,by decide +kernel,by decide +kernel⟩
abbrev n1:List Str:=["change"]
def s1:bu n1 ["change"] (aN (top 2)):=⟨rfl,rfl,rfl,by decide +kernel,rfl,by decide +kernel,by decide +kernel⟩
abbrev n2:List Str:=["change"]
def s2:bu n2 ["change"] (aN (top 3)):=⟨rfl,rfl,rfl,by decide +kernel,rfl,by decide +kernel,by decide +kernel⟩
abbrev n3:List Str:=["change"]
def s3:bu n3 ["change"] (aN (top 4)):=⟨rfl,rfl,rfl,by decide +kernel,rfl,by decide +kernel,by decide +kernel⟩
abbrev n4:List Str:=["change","parts","kept","gone","new","word","what"]
def s4:bu n4 ["change"] (aN (top 5)):=⟨rfl,rfl,rfl,by decide +kernel,rfl,by decide +kernel,by decide +kernel⟩
abbrev n5:List Str:=["kept","gone","new","parts"]
def s5:bu n5 ["kept","gone","new"] (aN (top 6)):=⟨rfl,rfl,rfl,by decide +kernel,rfl,by decide +kernel,by decide +kernel⟩
abbrev n6:List Str:=["old","new"]
def s6:bu n6 ["old","new"] (aN (top 8)):=⟨rfl,rfl,rfl,by decide +kernel,rfl,by decide +kernel,by decide +kernel⟩
abbrev n7:List Str:=["old","new","costs","parts","left","wanted"]
def s7:bu n7 ["old","new"] (aN (top 9)):=⟨rfl,rfl,rfl,by decide +kernel,rfl,by decide +kernel,by decide +kernel⟩
abbrev n8:List Str:=["old","new","rows","sign"]
def s8:bu n8 ["old","new"] (aN (top 10)):=⟨rfl,rfl,rfl,by decide +kernel,rfl,by decide +kernel,by decide +kernel⟩
abbrev n9:List Str:=["sign","new","costs","row","place","wanted"]
def s9:bu n9 ["sign","new","costs"] (aN (top 11)):=⟨rfl,rfl,rfl,by decide +kernel,rfl,by decide +kernel,by decide +kernel⟩
abbrev LS:List Str:=["old","new","first","gone","put","last","parts"]
def Py:bu LS ["old","new"] (aN (top 12)):=⟨rfl,rfl,rfl,by decide +kernel,rfl,by decide +kernel,by decide +kernel⟩
abbrev LU:List Str:=["one","other","many","sign","wanted"]
def DN:bu LU ["one","other"] (aN (top 13)):=⟨rfl,rfl,rfl,by decide +kernel,rfl,by decide +kernel,by decide +kernel⟩
abbrev LV:List Str:=["change","text","place","part"]
def s12:bu LV ["change","text"] (aN (top 19)):=⟨rfl,rfl,rfl,by decide +kernel,rfl,by decide +kernel,by decide +kernel⟩
abbrev LW:List Str:=["change","text","pieces","place","word","what"]
def Ub:bu LW ["change","text"] (aN (top 20)):=⟨rfl,rfl,rfl,by decide +kernel,rfl,by decide +kernel,by decide +kernel⟩
abbrev LX:List Str:=["change"]
def Uc:bu LX ["change"] (aN (top 21)):=⟨rfl,rfl,rfl,by decide +kernel,rfl,by decide +kernel,by decide +kernel⟩
abbrev LY:List Str:=["many"]
def Ud:bu LY ["many"] (aN (top 22)):=⟨rfl,rfl,rfl,by decide +kernel,rfl,by decide +kernel,by decide +kernel⟩
abbrev LZ:List Str:=["one","other","ones","others","parts","many"]
def Ue:bu LZ ["one","other"] (aN (top 23)):=⟨rfl,rfl,rfl,by decide +kernel,rfl,by decide +kernel,by decide +kernel⟩
abbrev L0:List Str:=["left","gone_through"]
def Ug:bu L0 ["left","gone_through"] (aN (top 24)):=⟨rfl,rfl,rfl,by decide +kernel,rfl,by decide +kernel,by decide +kernel⟩
abbrev L1:List Str:=["parts","many","halves"]
def Uh:bu L1 ["parts","many"] (aN (top 25)):=⟨rfl,rfl,rfl,by decide +kernel,rfl,by decide +kernel,by decide +kernel⟩
abbrev L3:List Str:=["part","many","word"]
def Ui:bu L3 ["part","many"] (aN (top 26)):=⟨rfl,rfl,rfl,by decide +kernel,rfl,by decide +kernel,by decide +kernel⟩
abbrev L4:List Str:=["one","other"]
def Uj:bu L4 ["one","other"] (aN (top 28)):=⟨rfl,rfl,rfl,by decide +kernel,rfl,by decide +kernel,by decide +kernel⟩
abbrev L5:List Str:=["_law_script","_law_k"]
def Uk:bu L5 ["_law_script","_law_k"] (aN (top 30)):=⟨rfl,rfl,rfl,by decide +kernel,rfl,by decide +kernel,by decide +kernel⟩
abbrev L6:List Str:=["_law_script","_law_k","_law_many","_law_cell_here"]
def Ul:bu L6 ["_law_script","_law_k","_law_many"] (aN (top 31)):=⟨rfl,rfl,rfl,by decide +kernel,rfl,by decide +kernel,by decide +kernel⟩
abbrev L7:List Str:=["_law_script","_law_at","_law_most"]
def Um:bu L7 ["_law_script","_law_at","_law_most"] (aN (top 32)):=⟨rfl,rfl,rfl,by decide +kernel,rfl,by decide +kernel,by decide +kernel⟩
abbrev L8:List Str:=["_law_script","_law_at","_law_text_here","_law_found","_law_k","_law_new","_law_is_kept"]
def Uo:bu L8 ["_law_script","_law_at","_law_text_here"] (aN (top 33)):=⟨rfl,rfl,rfl,by decide +kernel,rfl,by decide +kernel,by decide +kernel⟩
abbrev Mb:List Str:=["_law_script","_law_one","_law_two_of","_law_three","_law_change_here","_law_made","_law_old","_law_new","_law_least","_law_told","_law_whole"]
def Up:bu Mb ["_law_script"] (aN (top 34)):=⟨rfl,rfl,rfl,by decide +kernel,rfl,by decide +kernel,by decide +kernel⟩
set_option maxHeartbeats 0 in
def cU:allB (tb a d) n [(f0.body,top 1,n0),(f1.body,top 2,n1),(f2.body,top 3,n2),(f3.body,top 4,n3),(f4.body,top 5,n4),(f5.body,top 6,n5),(f6.body,top 8,n6),(f7.body,top 9,n7),(f8.body,top 10,n8),(f9.body,top 11,n9),(zy.body,top 12,LS),(Lm.body,top 13,LU),(Ln.body,top 19,LV),(Lo.body,top 20,LW),(Lp.body,top 21,LX),(Lq.body,top 22,LY),(Lr.body,top 23,LZ),(Ls.body,top 24,L0),(Lu.body,top 25,L1),(Lv.body,top 26,L3),(A8.body,top 28,L4),(Lx.body,top 30,L5),(Ly.body,top 31,L6),(Lz.body,top 32,L7),(LA.body,top 33,L8),(A9.body,top 34,Mb)]:=by
 refine⟨?_,?_,?_,?_,?_,?_,?_,?_,?_,?_,?_,?_,?_,?_,?_,?_,?_,?_,?_,?_,?_,?_,?_,?_,?_,?_,trivial⟩;all_goals try dsimp only
 all_goals repeat (first
  | ((with_reducible show JE _ _ _ _ _ _ _ (.BoolOp _ [_] _));refine Ik ?_)
  | ((with_reducible show JE _ _ _ _ _ _ (.v _) _);exact jv (by decide +kernel))
  | ((with_reducible show JA _ _ _ _ _ _ (.cons _ _) _);refine EV ?_ ?_)
  | ((with_reducible show kP _ _ _ _ _ _ (.cons _ _) _);refine BF ?_ ?_)
  | ((with_reducible show JA _ _ _ _ _ _ .nil _);refine Ih)
  | ((with_reducible show kP _ _ _ _ _ _ .nil _);refine E3)
  | ((with_reducible show JE _ _ _ _ _ _ (.c (.int _)) _);refine zb)
  | ((with_reducible show JE _ _ _ _ _ _ (.cl _ _) _);refine Tw (by decide +kernel) rfl rfl ?_)
  | ((with_reducible show JE _ _ _ _ _ _ (.ix _ _) _);refine M7 (λX g=>Nh) ?_ ?_)
  | ((with_reducible show JE _ _ _ _ _ _ (.c (.str _)) _);refine Ig)
  | ((with_reducible show JS _ _ _ _ _ _ (.ret _) _);refine IF ?_)
  | ((with_reducible show JE _ _ _ _ _ _ (.bin .add _ _) _);refine ly (λX g=>IX) ?_ ?_)
  | ((with_reducible show JS _ _ _ _ _ _ (.iff _ _ _) _);refine IG ?_ ?_ ?_)
  | ((with_reducible show JE _ _ _ _ _ _ (.tup _) _);refine Ii ?_)
  | ((with_reducible show JT _ _ _ _ _ _ (.cmp .ne _ _) _);refine nZ (λX g=>Nf g) ?_ ?_ (jH _))
  | ((with_reducible show JE _ _ _ _ _ _ (.bi .len _) _);refine rG (x:="len") (id:="len") (λX g=>Ji) ?_ (hb:=O6) (hv:=by decide +kernel))
  | ((with_reducible show JS _ _ _ _ _ _ (.exp _) _);refine IE ?_)
  | ((with_reducible show JT _ _ _ _ _ _ (.cmp .eq _ _) _);refine nZ (λX g=>DW g) ?_ ?_ (jH _))
  | ((with_reducible show JE _ _ _ _ _ _ (.bin .sub _ _) _);refine ly (λX g=>IY) ?_ ?_)
  | ((with_reducible show JE _ _ _ _ _ _ (.me .append _ (.cons _ _)) _);refine xr XJ PySem.F.slot_list_append PySem.F.type_list_append (λX g=>zE) rfl ?_ ?_)
  | ((with_reducible show JT _ _ _ _ _ _ (.cmp .gt _ _) _);refine nZ (λX g=>DX) ?_ ?_ (jH _))
  | ((with_reducible show JT _ _ _ _ _ _ (.orr _ _) _);refine Rt ?_ ?_)
  | ((with_reducible show JW _ _ _ _ _ _ (.orr _ _) (.BoolOp _ (_ :: _ :: _) _));refine ze ?_ ?_)
  | ((with_reducible show JE _ _ _ _ _ _ (.lst _) _);refine Ij ?_)
  | ((with_reducible show JE _ _ _ _ _ _ (.bin .mul _ _) _);refine ly (λX g=>Jg) ?_ ?_)
  | ((with_reducible show JI _ _ _ _ _ _ (.seq _) _ _);refine IA ?_)
  | ((with_reducible show qR _ _ _ _ _ _ (_ :: _) _);refine Tv (by decide +kernel) ?_)
  | ((with_reducible show JW _ _ _ _ _ _ _ (.BoolOp .Or [_] _));refine EW ?_)
  | ((with_reducible show JO _ _ _ _ _ _ (.yes _) _);refine Iu ?_)
  | ((with_reducible show JG _ _ _ _ _ _ (.one _) _);exact Tu (by decide +kernel))
  | ((with_reducible show JS _ _ _ _ _ _ (.for _ _ _) _);refine IJ ?_ ?_ ?_)
  | ((with_reducible show JE _ _ _ _ _ _ (.c (.bl _)) _);refine M4)
  | ((with_reducible show JE _ _ _ _ _ _ (.sl _ _ _) _);refine M9 (λX g=>Jf) ?_ ?_ ?_)
  | ((with_reducible show JE _ _ _ _ _ _ (.neg _) _);refine zd ?_)
  | ((with_reducible show JE _ _ _ _ _ _ (.bin .mod _ _) _);refine ly (λX g=>IZ) ?_ ?_)
  | ((with_reducible show JT _ _ _ _ _ _ (.an _ _) _);refine Rq ?_ ?_)
  | ((with_reducible show JW _ _ _ _ _ _ (.an _ _) (.BoolOp _ (_ :: _ :: _) _));refine DJ ?_ ?_)
  | ((with_reducible show JO _ _ _ _ _ _ .no _);refine M8)
  | ((with_reducible show JE _ _ _ _ _ _ (.comp _ _ _ _) _);refine Nm (by decide +kernel) (by decide +kernel) ?_ ?_ ?_ ?_)
  | ((with_reducible show JG _ _ _ _ _ _ (.many _) _);refine E2 ?_)
  | ((with_reducible show qR _ _ _ _ _ _ [] _);refine E1)
  | ((with_reducible show JW _ _ _ _ _ _ _ (.BoolOp .And [_] _));refine Io ?_)
  | ((with_reducible show JT _ _ _ _ _ _ (.cmp .lt _ _) _);refine nZ (λX g=>Ng) ?_ ?_ (jH _))
  | ((with_reducible show JE _ _ _ _ _ _ (.cmp .eq _ _) _);refine zc (λX g=>DW g) ?_ ?_ (jH _))
  | ((with_reducible show JE _ _ _ _ _ _ (.gZ _) _);refine Jo ?_ (h1:=wH))
  | ((with_reducible show JE _ _ _ _ _ _ (.bin .fdiv _ _) _);refine ly (λX g=>Fc) ?_ ?_)
  | ((with_reducible show JE _ _ _ _ _ _ (.bi .sum _) _);refine rG (x:="sum") (id:="sum") (λX g=>Jh g) ?_ (hb:=O8) (hv:=by decide +kernel))
  | ((with_reducible show JC _ _ _ _ _ _ (.yes _) _);refine IK ?_)
  | ((with_reducible show JE _ _ _ _ _ _ (.me .extend _ (.cons _ _)) _);refine xr XJ PySem.F.slot_list_extend PySem.F.type_list_extend (λX g=>zF) rfl ?_ ?_)
  | ((with_reducible show JS _ _ _ _ _ _ (.fU _) _);refine Jp)
  | ((with_reducible show JE _ _ _ _ _ _ (.me .pop _ .nil) _);refine Iv XJ PySem.F.slot_list_pop PySem.F.type_list_pop (λX g=>Jl) rfl ?_)
  | ((with_reducible show JS _ _ _ _ _ _ (.lu _ _) _);refine II ?_ ?_)
  | ((with_reducible show JE _ _ _ _ _ _ (.bi .min _) _);refine rG (x:="min") (id:="min") (λX g=>Jj g) ?_ (hb:=O7) (hv:=by decide +kernel))
  | ((with_reducible show JE _ _ _ _ _ _ (.rv _) _);refine Ni ?_)
  | ((with_reducible show JE _ _ _ _ _ _ (.me .join _ (.cons _ _)) _);refine xr PySem.F.plainAttrs_str PySem.F.slot_str_join PySem.F.type_str_join (λX g=>Fj) rfl ?_ ?_)
  | ((with_reducible show JC _ _ _ _ _ _ .no _);refine Nb)
  | ((with_reducible show JE _ _ _ _ _ _ (.gp (.rev _)) _);refine Fv ?_ (h1:=Ba) (hb:=pI))
  | ((with_reducible show JI _ _ _ _ _ _ (.fY (.cons _ .nil)) _ _);refine EZ ?_ (hb:=wG))
  | ((with_reducible show JE _ _ _ _ _ _ (.kN _) _);refine Jx ?_ (h1:=wH) (hb:=pI))
  | ((with_reducible show JE _ _ _ _ _ _ (.gp (.fY (.cons _ .nil))) _);refine BQ ?_ (h1:=Ba) (hb:=wG))
  | ((with_reducible show JI _ _ _ _ _ _ (.ji _) _ _);refine BZ ?_ (zP:=uX))
  | ((with_reducible show JI _ _ _ _ _ _ (.jj _ _) _ _);refine Fy ?_ ?_ (zP:=O9))
  | ((with_reducible show JT _ _ _ _ _ _ (.nt _) _);refine M6 ?_)
  | ((with_reducible show JE _ _ _ _ _ _ (.iO _ _) _);refine Ft (x:="TURNED") (.head _) ?_)
  | ((with_reducible show JE _ _ _ _ _ _ (.cmp .gt _ _) _);refine zc (λX g=>DX) ?_ ?_ (jH _))
  | ((with_reducible show JE _ _ _ _ _ _ (.kM _ _ _) _);refine Il ?_ ?_ ?_)
  | ((with_reducible show JE _ _ _ _ _ _ (.bi .abs _) _);refine rG (x:="abs") (id:="abs") (λX g=>Jk) ?_ (hb:=O5) (hv:=by decide +kernel))
  | ((with_reducible show JE _ _ _ _ _ _ (.an _ _) (.BoolOp _ (_ :: _ :: _) _));refine M5 ?_ ?_)
  | ((with_reducible show JS _ _ _ _ _ _ (.set _ _) _);refine Rp ?_ ?_;decide +kernel)
  | ((with_reducible show JT _ _ _ _ _ _ _ _);refine Iq ?_))
end
def kH{α:Type _}{l:List α}(h:l.length=1):∃a,l=[a]:=by
 rcases l with _|⟨a,_|⟨b,l⟩⟩<;>simp at h ⊢
def gX{α:Type _}{l:List α}(h:l.length=2):∃a b,l=[a,b]:=by
 rcases l with _|⟨a,l⟩
 .simp at h
 .obtain⟨b,rfl⟩:=kH (l:=l) (by simpa using h);exact⟨a,b,rfl⟩
def uL{α:Type _}{l:List α}(h:l.length=3):∃a b c,l=[a,b,c]:=by
 rcases l with _|⟨a,l⟩
 .simp at h
 .obtain⟨b,c,rfl⟩:=gX (l:=l) (by simpa using h);exact⟨a,b,c,rfl⟩
structure Fg(K:PySem.W.Frag)(x:Str)(i:Nat)(p:Addr)(d:FuncData):Prop where
 a:PySem.W.nsIn K mainGlobals x=some (some (.ref p))
 f:sD K x x (top i) p d
def Fg.t{K:PySem.W.Frag}{h:Heap}{mg:Str->Option Value}{x:Str}{i:Nat}{p:Addr}{d:FuncData}{ps:List Str}(F:Fg K x i p d)(X:K.In h)(G:h.Ns mainGlobals mg)(b:Binds K d ps []):mg x=some (.ref p)/\PySem.W.keepIn K (.ref p)=true/\Binds K d ps []:=⟨Yh X G F.a,F.f.kp,b⟩
def all_mk {l:PySem.W.OpenLaw}{w:World}{K:PySem.W.Frag}{h:Heap}{mg:Str->Option Value}{fa p0 p1 p2 p3 p4 p5 p6 p7 p8 p9 P4 P5 P6 P7 P8 P9 Qa Qc Qd Qe Qf Qg Qh Qi Qj Mc:Addr}{d0 d1 d2 d3 d4 d5 d6 d7 d8 d9 Qk Ql Qm Qn Qo Qp Qq Qs Qt Qu Qv Qw Qx Qy Qz Me:FuncData}(X:K.In h) (G:h.Ns mainGlobals mg) (Uq:mg "law" = some (.ref fa))
  (F0:Fg K "size" 1 p0 d0)
  (F1:Fg K "before" 2 p1 d1)
  (F2:Fg K "after" 3 p2 d2)
  (F3:Fg K "cost" 4 p3 d3)
  (F4:Fg K "form" 5 p4 d4)
  (F5:Fg K "stretch" 6 p5 d5)
  (F6:Fg K "least_cost" 8 p6 d6)
  (F7:Fg K "least_change" 9 p7 d7)
  (F8:Fg K "first_costs" 10 p8 d8)
  (F9:Fg K "costs_with" 11 p9 d9)
  (Mf:Fg K "apart" 12 P4 Qk)
  (Mg:Fg K "alike_many" 13 P5 Ql)
  (Mh:Fg K "fits" 19 P6 Qm)
  (Mi:Fg K "done" 20 P7 Qn)
  (Mj:Fg K "undone" 21 P8 Qo)
  (Ml:Fg K "nothing" 22 P9 Qp)
  (Mm:Fg K "then" 23 Qa Qq)
  (Mn:Fg K "met" 24 Qc Qs)
  (Mp:Fg K "taken" 25 Qd Qt)
  (Mq:Fg K "parted" 26 Qe Qu)
  (Mr:Fg K "alike" 28 Qf Qv)
  (Ms:Fg K "_law_cell" 30 Qg Qw)
  (Mt:Fg K "_law_drawn" 31 Qh Qx)
  (Mu:Fg K "_law_text" 32 Qi Qy)
  (Mv:Fg K "_law_change" 33 Qj Qz)
  (Bb:Fg K "law" 34 Mc Me)
  (z0:PySem.W.nsIn K mainGlobals "abs" = some none)
  (z1:PySem.W.nsIn K mainGlobals "enumerate" = some none)
  (z2:PySem.W.nsIn K mainGlobals "len" = some none)
  (z3:PySem.W.nsIn K mainGlobals "list" = some none)
  (z4:PySem.W.nsIn K mainGlobals "min" = some none)
  (z5:PySem.W.nsIn K mainGlobals "range" = some none)
  (z6:PySem.W.nsIn K mainGlobals "reversed" = some none)
  (z7:PySem.W.nsIn K mainGlobals "sum" = some none)
  (z8:PySem.W.nsIn K mainGlobals "tuple" = some none)
  (z9:PySem.W.nsIn K mainGlobals "zip" = some none)
  {t0:Tok} (q0:PySem.W.nsIn K mainGlobals "__name__" = some (some (.str "law_pastways_k51_whole_least" t0)))
  {Ex:Addr} (QA:PySem.W.nsIn K mainGlobals "TURNED" = some (some (.ref Ex))) (QB:PyProof.Rows.KTD.tabLook PyProof.Rows.KTD.flatLooks (λb=>K.lookup b) Ex [(aK [107,101,101,112],PyData.str (aK [107,101,101,112])),(aK [112,117,116],PyData.str (aK [100,114,111,112])),(aK [100,114,111,112],PyData.str (aK [112,117,116]))]=true) (QC:PyProof.Rows.KTD.hashesOf (λb=>K.lookup b) Ex=([(aK [107,101,101,112],PyData.str (aK [107,101,101,112])),(aK [112,117,116],PyData.str (aK [100,114,111,112])),(aK [100,114,111,112],PyData.str (aK [112,117,116]))]:List (Str×PyData)).map λp=>(PySem.strKind l.prog w).hash p.1)
  : ∃fd:FuncData,(∀(s:Shared) (v:Value),BindsTo s fd ⟨[v],[]⟩ [("_law_script",v)])/\∀base:Heap,K.In base->base.Ns mainGlobals mg->ig l.prog w K mg base lg 60 fa fd ["_law_script"] (mX K prog 100000 60 25):=by
 have e:=Uq.symm.trans (Yh X G Bb.a);have e2:Mc=fa:=by injection e with e;injection e with e;exact e.symm
 subst e2
 let aa:Nat->Addr:=λk=>[p0,p1,p2,p3,p4,p5,p6,p7,p8,p9,P4,P5,P6,P7,P8,P9,Qa,Qc,Qd,Qe,Qf,Qg,Qh,Qi,Qj,Mc].getD k p0
 let dd:Nat->FuncData:=λk=>[d0,d1,d2,d3,d4,d5,d6,d7,d8,d9,Qk,Ql,Qm,Qn,Qo,Qp,Qq,Qs,Qt,Qu,Qv,Qw,Qx,Qy,Qz,Me].getD k d0
 have T:Top l.prog w K mg (tb aa dd):=by
  refine⟨λf i hi=>(show ∀i∈(tb aa dd).fi,mg i.name=some (.ref i.addr)/\PySem.W.keepIn K (.ref i.addr)=true/\Binds K i.fd i.ps []from ?_) i (V9 hi),?_,?_,?_⟩
  .refine List.forall_mem_cons.mpr ⟨F0.t X G (F0.f.binds λ_ _ _ _ _ _ us hl=>by obtain⟨_,rfl⟩:=kH hl;rfl),?_⟩;refine List.forall_mem_cons.mpr ⟨F1.t X G (F1.f.binds λ_ _ _ _ _ _ us hl=>by obtain⟨_,rfl⟩:=kH hl;rfl),?_⟩;refine List.forall_mem_cons.mpr ⟨F2.t X G (F2.f.binds λ_ _ _ _ _ _ us hl=>by obtain⟨_,rfl⟩:=kH hl;rfl),?_⟩;refine List.forall_mem_cons.mpr ⟨F3.t X G (F3.f.binds λ_ _ _ _ _ _ us hl=>by obtain⟨_,rfl⟩:=kH hl;rfl),?_⟩;refine List.forall_mem_cons.mpr ⟨F4.t X G (F4.f.binds λ_ _ _ _ _ _ us hl=>by obtain⟨_,rfl⟩:=kH hl;rfl),?_⟩;refine List.forall_mem_cons.mpr ⟨F5.t X G (F5.f.binds λ_ _ _ _ _ _ us hl=>by obtain⟨_,_,_,rfl⟩:=uL hl;rfl),?_⟩;refine List.forall_mem_cons.mpr ⟨F6.t X G (F6.f.binds λ_ _ _ _ _ _ us hl=>by obtain⟨_,_,rfl⟩:=gX hl;rfl),?_⟩;refine List.forall_mem_cons.mpr ⟨F7.t X G (F7.f.binds λ_ _ _ _ _ _ us hl=>by obtain⟨_,_,rfl⟩:=gX hl;rfl),?_⟩;refine List.forall_mem_cons.mpr ⟨F8.t X G (F8.f.binds λ_ _ _ _ _ _ us hl=>by obtain⟨_,_,rfl⟩:=gX hl;rfl),?_⟩;refine List.forall_mem_cons.mpr ⟨F9.t X G (F9.f.binds λ_ _ _ _ _ _ us hl=>by obtain⟨_,_,_,rfl⟩:=uL hl;rfl),?_⟩;refine List.forall_mem_cons.mpr ⟨Mf.t X G (Mf.f.binds λ_ _ _ _ _ _ us hl=>by obtain⟨_,_,rfl⟩:=gX hl;rfl),?_⟩;refine List.forall_mem_cons.mpr ⟨Mg.t X G (Mg.f.binds λ_ _ _ _ _ _ us hl=>by obtain⟨_,_,rfl⟩:=gX hl;rfl),?_⟩;refine List.forall_mem_cons.mpr ⟨Mh.t X G (Mh.f.binds λ_ _ _ _ _ _ us hl=>by obtain⟨_,_,rfl⟩:=gX hl;rfl),?_⟩;refine List.forall_mem_cons.mpr ⟨Mi.t X G (Mi.f.binds λ_ _ _ _ _ _ us hl=>by obtain⟨_,_,rfl⟩:=gX hl;rfl),?_⟩;refine List.forall_mem_cons.mpr ⟨Mj.t X G (Mj.f.binds λ_ _ _ _ _ _ us hl=>by obtain⟨_,rfl⟩:=kH hl;rfl),?_⟩;refine List.forall_mem_cons.mpr ⟨Ml.t X G (Ml.f.binds λ_ _ _ _ _ _ us hl=>by obtain⟨_,rfl⟩:=kH hl;rfl),?_⟩;refine List.forall_mem_cons.mpr ⟨Mm.t X G (Mm.f.binds λ_ _ _ _ _ _ us hl=>by obtain⟨_,_,rfl⟩:=gX hl;rfl),?_⟩;refine List.forall_mem_cons.mpr ⟨Mn.t X G (Mn.f.binds λ_ _ _ _ _ _ us hl=>by obtain⟨_,_,rfl⟩:=gX hl;rfl),?_⟩;refine List.forall_mem_cons.mpr ⟨Mp.t X G (Mp.f.binds λ_ _ _ _ _ _ us hl=>by obtain⟨_,_,rfl⟩:=gX hl;rfl),?_⟩;refine List.forall_mem_cons.mpr ⟨Mq.t X G (Mq.f.binds λ_ _ _ _ _ _ us hl=>by obtain⟨_,_,rfl⟩:=gX hl;rfl),?_⟩;refine List.forall_mem_cons.mpr ⟨Mr.t X G (Mr.f.binds λ_ _ _ _ _ _ us hl=>by obtain⟨_,_,rfl⟩:=gX hl;rfl),?_⟩;refine List.forall_mem_cons.mpr ⟨Ms.t X G (Ms.f.binds λ_ _ _ _ _ _ us hl=>by obtain⟨_,_,rfl⟩:=gX hl;rfl),?_⟩;refine List.forall_mem_cons.mpr ⟨Mt.t X G (Mt.f.binds λ_ _ _ _ _ _ us hl=>by obtain⟨_,_,_,rfl⟩:=uL hl;rfl),?_⟩;refine List.forall_mem_cons.mpr ⟨Mu.t X G (Mu.f.binds λ_ _ _ _ _ _ us hl=>by obtain⟨_,_,_,rfl⟩:=uL hl;rfl),?_⟩;refine List.forall_mem_cons.mpr ⟨Mv.t X G (Mv.f.binds λ_ _ _ _ _ _ us hl=>by obtain⟨_,_,_,rfl⟩:=uL hl;rfl),?_⟩;refine List.forall_mem_cons.mpr ⟨Bb.t X G (Bb.f.binds λ_ _ _ _ _ _ us hl=>by obtain⟨_,rfl⟩:=kH hl;rfl),?_⟩;exact λ_ h=>nomatch h
  .exact(show ∀x∈kR,mg x=none from List.forall_mem_cons.mpr ⟨Wo X G z0,List.forall_mem_cons.mpr ⟨Wo X G z1,List.forall_mem_cons.mpr ⟨Wo X G z2,List.forall_mem_cons.mpr ⟨Wo X G z3,List.forall_mem_cons.mpr ⟨Wo X G z4,List.forall_mem_cons.mpr ⟨Wo X G z5,List.forall_mem_cons.mpr ⟨Wo X G z6,List.forall_mem_cons.mpr ⟨Wo X G z7,List.forall_mem_cons.mpr ⟨Wo X G z8,List.forall_mem_cons.mpr ⟨Wo X G z9,λ_ h=>nomatch h⟩⟩⟩⟩⟩⟩⟩⟩⟩⟩)
  .exact λx d hx=>(show ∀y∈(tb aa dd).cs,∃v u,mg y.1=some u/\RelV v u/\vj K y.2 v from List.forall_mem_cons.mpr ⟨⟨.str "law_pastways_k51_whole_least",_,Yh X G q0,⟨_,rfl⟩,λ_ _=>⟨by decide +kernel,by decide⟩⟩,λ_ h=>nomatch h⟩) (x,d) hx
  .exact λx d hx=>(show ∀y∈(tb aa dd).dk,∃a,mg y.1=some (.ref a)/\∀h:Heap,K.In h->StrTab l.prog w h a (tabOf y.2)from List.forall_mem_cons.mpr ⟨⟨Ex,Yh X G QA,λh hK=>PySem.W.kt_tab_in l.prog w hK QB (by decide +kernel) QC⟩,λ_ h=>nomatch h⟩) (x,d) hx
 refine⟨Me,λs v=>?_,λbase _ _=>?_⟩
 .obtain⟨oc,od,kV,doc,pm,an,cdv,ct,osl,e,_⟩:=Bb.f.ex;rw[e];exact .of_eq rfl
 refine zQ (P:=l.prog) (w:=w) (base:=base) T (λn A0 f i hi=>?_) 60 25 (Ew aa dd) rfl
 match f,hi with
 |0,hi=>obtain rfl:i0 aa dd=i:=RG hi;exact cz (i:=i0 aa dd) T A0 F0.f s0 rfl rfl (@allB.get _ _ _ 0 (f0.body,top 1,n0) cU rfl)
 |1,hi=>obtain rfl:i1 aa dd=i:=RG hi;exact cz (i:=i1 aa dd) T A0 F1.f s1 rfl rfl (@allB.get _ _ _ 1 (f1.body,top 2,n1) cU rfl)
 |2,hi=>obtain rfl:i2 aa dd=i:=RG hi;exact cz (i:=i2 aa dd) T A0 F2.f s2 rfl rfl (@allB.get _ _ _ 2 (f2.body,top 3,n2) cU rfl)
 |3,hi=>obtain rfl:i3 aa dd=i:=RG hi;exact cz (i:=i3 aa dd) T A0 F3.f s3 rfl rfl (@allB.get _ _ _ 3 (f3.body,top 4,n3) cU rfl)
 |4,hi=>obtain rfl:i4 aa dd=i:=RG hi;exact cz (i:=i4 aa dd) T A0 F4.f s4 rfl rfl (@allB.get _ _ _ 4 (f4.body,top 5,n4) cU rfl)
 |5,hi=>obtain rfl:i5 aa dd=i:=RG hi;exact cz (i:=i5 aa dd) T A0 F5.f s5 rfl rfl (@allB.get _ _ _ 5 (f5.body,top 6,n5) cU rfl)
 |6,hi=>obtain rfl:i6 aa dd=i:=RG hi;exact cz (i:=i6 aa dd) T A0 F6.f s6 rfl rfl (@allB.get _ _ _ 6 (f6.body,top 8,n6) cU rfl)
 |7,hi=>obtain rfl:i7 aa dd=i:=RG hi;exact cz (i:=i7 aa dd) T A0 F7.f s7 rfl rfl (@allB.get _ _ _ 7 (f7.body,top 9,n7) cU rfl)
 |8,hi=>obtain rfl:i8 aa dd=i:=RG hi;exact cz (i:=i8 aa dd) T A0 F8.f s8 rfl rfl (@allB.get _ _ _ 8 (f8.body,top 10,n8) cU rfl)
 |9,hi=>obtain rfl:i9 aa dd=i:=RG hi;exact cz (i:=i9 aa dd) T A0 F9.f s9 rfl rfl (@allB.get _ _ _ 9 (f9.body,top 11,n9) cU rfl)
 |10,hi=>obtain rfl:LD aa dd=i:=RG hi;exact cz (i:=LD aa dd) T A0 Mf.f Py rfl rfl (@allB.get _ _ _ 10 (zy.body,top 12,LS) cU rfl)
 |11,hi=>obtain rfl:LF aa dd=i:=RG hi;exact cz (i:=LF aa dd) T A0 Mg.f DN rfl rfl (@allB.get _ _ _ 11 (Lm.body,top 13,LU) cU rfl)
 |12,hi=>obtain rfl:i12 aa dd=i:=RG hi;exact cz (i:=i12 aa dd) T A0 Mh.f s12 rfl rfl (@allB.get _ _ _ 12 (Ln.body,top 19,LV) cU rfl)
 |13,hi=>obtain rfl:LG aa dd=i:=RG hi;exact cz (i:=LG aa dd) T A0 Mi.f Ub rfl rfl (@allB.get _ _ _ 13 (Lo.body,top 20,LW) cU rfl)
 |14,hi=>obtain rfl:LH aa dd=i:=RG hi;exact cz (i:=LH aa dd) T A0 Mj.f Uc rfl rfl (@allB.get _ _ _ 14 (Lp.body,top 21,LX) cU rfl)
 |15,hi=>obtain rfl:LI aa dd=i:=RG hi;exact cz (i:=LI aa dd) T A0 Ml.f Ud rfl rfl (@allB.get _ _ _ 15 (Lq.body,top 22,LY) cU rfl)
 |16,hi=>obtain rfl:LJ aa dd=i:=RG hi;exact cz (i:=LJ aa dd) T A0 Mm.f Ue rfl rfl (@allB.get _ _ _ 16 (Lr.body,top 23,LZ) cU rfl)
 |17,hi=>obtain rfl:LK aa dd=i:=RG hi;exact cz (i:=LK aa dd) T A0 Mn.f Ug rfl rfl (@allB.get _ _ _ 17 (Ls.body,top 24,L0) cU rfl)
 |18,hi=>obtain rfl:LL aa dd=i:=RG hi;exact cz (i:=LL aa dd) T A0 Mp.f Uh rfl rfl (@allB.get _ _ _ 18 (Lu.body,top 25,L1) cU rfl)
 |19,hi=>obtain rfl:LM aa dd=i:=RG hi;exact cz (i:=LM aa dd) T A0 Mq.f Ui rfl rfl (@allB.get _ _ _ 19 (Lv.body,top 26,L3) cU rfl)
 |20,hi=>obtain rfl:LN aa dd=i:=RG hi;exact cz (i:=LN aa dd) T A0 Mr.f Uj rfl rfl (@allB.get _ _ _ 20 (A8.body,top 28,L4) cU rfl)
 |21,hi=>obtain rfl:LO aa dd=i:=RG hi;exact cz (i:=LO aa dd) T A0 Ms.f Uk rfl rfl (@allB.get _ _ _ 21 (Lx.body,top 30,L5) cU rfl)
 |22,hi=>obtain rfl:LP aa dd=i:=RG hi;exact cz (i:=LP aa dd) T A0 Mt.f Ul rfl rfl (@allB.get _ _ _ 22 (Ly.body,top 31,L6) cU rfl)
 |23,hi=>obtain rfl:LQ aa dd=i:=RG hi;exact cz (i:=LQ aa dd) T A0 Mu.f Um rfl rfl (@allB.get _ _ _ 23 (Lz.body,top 32,L7) cU rfl)
 |24,hi=>obtain rfl:LR aa dd=i:=RG hi;exact cz (i:=LR aa dd) T A0 Mv.f Uo rfl rfl (@allB.get _ _ _ 24 (LA.body,top 33,L8) cU rfl)
 |25,hi=>obtain rfl:Ew aa dd=i:=RG hi;exact cz (i:=Ew aa dd) T A0 Bb.f Up rfl rfl (@allB.get _ _ _ 25 (A9.body,top 34,Mb) cU rfl)
 |j+26,hi=>exact nomatch (show(none:Option FI)=some i from hi)
end Lw
namespace Lg
open Pv
open Lw (prog A8 A9 yC yD)
open Ev (deep big rep cut bx)
def Pa(ns:List Int)(k:Int)(x:List Nat)(b:Nat)(h:x.length<=b):(chg ns k x).length<=2*b+2/\tot (chg ns k x)<=3*b+3:=by
 have h1:=lU ns k x (x.length+1);have h2:=rz ns k x (x.length+1);simp only[chg];omega
def Mw(c:List Pt):(fJ c).length<=tot c/\tot (fJ c)=tot c:=by
 have h1:tot (fJ c)=tot c:=by
  simp only[fJ];rw[fG];induction c with
  |nil=>rfl
  |cons p c ih=>cases p<;>simp[sw,Pt.sw,tot,Pt.n]at ih ⊢<;>omega
 exact⟨by have:=fS (gE (fH (sw c)));simp only[fJ]at h1 ⊢;omega,h1⟩
def uz{c:List Pt}{t:List Nat}(h:bq c t=true):bq (fJ c) (aQ c t)=true/\aQ (fJ c) (aQ c t)=t:=by
 have:=nF c t h;simp only[fJ];rw[kF,eL];exact this
def Pb{p q:Bool}:Pv.cop .ne (.bl p) (.bl q)=some (!decide (p=q)):=by rw[oO,FZ];rfl
def nC(c:List Pt):Pv.cop .ne (aO c) (aO c)=some false:=by rw[oO,An];simp
def eC(c:List Pt):Pv.cop .eq (aO c) (aO c)=some true:=by rw[Kn,An];simp
structure Mk(c:List Pt)(a b:List Nat):Prop where
 fit:bq c a=true
 dn:aQ c a=b
 le:dl a b<=cst c
 tt:tot c<=a.length+b.length
 ln:c.length<=tot c
def kI{c:List Pt}{a b:List Nat}(h:Ma (aF c) a b):Mk (aI c) a b:=by
 obtain⟨h1,h2,h3⟩:=NR h;have t:=h.len.2.2.2.2;rw[fR]at t;exact⟨by rw[kF];exact h1,by rw[eL];exact h2,by rw[jq,h3];exact pA h,by rw[fG];exact t,fS (gE (fH c))⟩
def Mx(a b:List Nat):cst (aI (g6 a b))=dl a b:=by rw[jq,je];exact(j3 a b).2
section
variable{w n:Nat}{fr:Fr}{a b:List Nat}
def kJ(ha:a.length<=1000)(hb:b.length<=1000):cX (run prog w (n+8)) 6 [.inr (.str a),.inr (.str b)] fr=.ok (.int (dl a b:Nat)) fr:=
 call2 (qC (F:=prog) (jG:=9) (nQ:=8) (i:=6) (w:=w) (n:=n+5) rfl rfl rfl a b ha hb)
def uM(hw:5000<w)(ha:a.length<=1000)(hb:b.length<=1000):cX (run prog w (n+8)) 7 [.inr (.str a),.inr (.str b)] fr=.ok (aO (aI (g6 a b))) fr:=
 call2 (nS (F:=prog) (mz:=5) (nT:=4) (jG:=9) (nQ:=8) (i:=7) (w:=w) (n:=n+5) rfl rfl rfl rfl rfl (by omega) a b ha hb)
def yE(ha:a.length<=1000)(hb:b.length<=1000):cX (run prog w (n+8)) 10 [.inr (.str a),.inr (.str b)] fr=.ok (aO (aI (gf a b))) fr:=
 call2 (A7 (F:=prog) (mz:=5) (nT:=4) (Dt:=11) (i:=10) (w:=w) (n:=n+5) rfl rfl rfl rfl a b ha hb)
def Du{c:List Pt}(h:Mk c a b)(ha:a.length<=1000)(hb:b.length<=1000):cX (run prog w (n+8)) 13 [.inr (aO c),.inr (.str a)] fr=.ok (.str b) fr:=by
 have t:=h.tt;have l:=h.ln;have:=call2 (fr:=fr) (nG (F:=prog) (aD:=0) (jr:=12) (i:=13) (w:=w) (n:=n+5) rfl rfl rfl c a (by omega) (by omega) (by omega) h.fit);rw[h.dn]at this;exact this
def uN{c:List Pt}(h1:tot c<=2000)(h2:c.length<=2000):cX (run prog w (n+8)) 3 [.inr (aO c)] fr=.ok (.int (cst c:Nat)) fr:=
 dj (CO (F:=prog) (aD:=0) (i:=3) (w:=w) (n:=n+6) rfl rfl c (by omega) (by omega))
def My{c:List Pt}(h1:tot c<=2000)(h2:c.length<=2000):cX (run prog w (n+8)) 14 [.inr (aO c)] fr=.ok (aO (fJ c)) fr:=
 dj (yt (F:=prog) (aT:=5) (bL:=4) (i:=14) (w:=w) (n:=n+5) rfl rfl rfl c (by omega) (by omega))
def Mz(h:a.length<=1000):cX (run prog w (n+8)) 15 [.inr (.int (a.length:Nat))] fr=.ok (aO (aI [.keep a.length])) fr:=
 dj (uW (F:=prog) (aT:=5) (bL:=4) (i:=15) (w:=w) (n:=n+5) rfl rfl rfl a.length (by omega))
def So{c d:List Pt}(h1:tot c<=2000)(h2:c.length<=2000)(h3:tot d<=2000)(h4:d.length<=2000)(he:aI c=aI d):cX (run prog w (n+8)) 20 [.inr (aO c),.inr (aO d)] fr=.ok (.bl true) fr:=by
 refine call2 (bW (fn:=A8) rfl rfl (ai (bJ (af:=[some (.val (aO c)),some (.val (aO d))]) (bN (aY (ay rfl (au rfl) aG) (dj (eU (F:=prog) (aT:=5) (i:=4) (w:=w) (n:=n+5) rfl rfl c (by omega) (by omega)))) (aY (ay rfl (au rfl) aG) (dj (eU (F:=prog) (aT:=5) (i:=4) (w:=w) (n:=n+5) rfl rfl d (by omega) (by omega)))) ?_) ⟨rfl,rfl⟩)));rw[he];exact eC _
end
noncomputable def lF(ns:List Int)(o t h:List Nat)(c:List Pt)(m:List Nat)(a6 a7 a8 a9:Option Sl):Fr:=[some (.val (gP ns)),some (.val (.str o)),some (.val (.str t)),some (.val (.str h)),some (.val (aO c)),some (.val (.str m)),a6,a7,a8,a9,none]
section
variable{w n:Nat}(hw:5000<w){ns:List Int}{o t h m:List Nat}{c:List Pt}
include hw
set_option maxHeartbeats 1000000 in
theorem GX{a b:List Nat}(h1:a.length<=5)(h2:b.length<=5){a8 a9:Option Sl}(v8:vo a8)(v9:vo a9){Q:Fl->Fr->Prop}(q:∀b8 b9,vo b8->vo b9->Q .nx (lF ns o t h c m (some (.val (.str a))) (some (.val (.str b))) b8 b9)) :
  Wp (exs (run prog w (n+8)) w yC (lF ns o t h c m (some (.val (.str a))) (some (.val (.str b))) a8 a9)) Q:=by
 have L:=Lj a b;have la:dw .len [.str a]=some (.int (a.length:Nat)):=WQ (by omega);have lb:dw .len [.str b]=some (.int (b.length:Nat)):=WQ (by omega);have A:=kI (uD a b);have U:=Mw (aI (gf a b));have At:=A.tt;have Al:=A.ln;have uf:=uz A.fit;rw[A.dn]at uf;have Am:Mk (fJ (aI (gf a b))) b a:=⟨uf.1,uf.2,by
  rw[uE];exact(kI (uD b a)).le,by rw[U.2];omega,by rw[U.2];exact U.1⟩
 have C:=kI (j3 a b).1;refine ai (aU (ao:=lF ns o t h c m (some (.val (.str a))) (some (.val (.str b))) (some (.val (.int (dl a b:Nat)))) a9) (aY (ay rfl (au rfl) (ay rfl (au rfl) aG)) (kJ (by omega) (by omega))) rfl (iL rfl v8) ?_);refine ai (aH (b:=false) (dI (aJ rfl (bN (au rfl) (aY (ay rfl (au rfl) (ay rfl (au rfl) aG)) (kJ (by omega) (by omega))) mL) ?_) (dI (aJ rfl (bN (bN (au rfl) (bD rfl) Cu) (bN (au rfl) (au rfl) lT) Pb) ?_) (aJ rfl (bN (au rfl) (aV (dO (aB (au rfl) aP) la) (dO (aB (au rfl) aP) lb) cK) qh) ?_))) (λz=>absurd z (by decide)) λ_=>av ?_)
 .rw[gF b a];simp[truthy]
 .show(!decide (decide (((dl a b:Nat):Int)=0)=decide (a=b)))=false;have:=GR a b;by_cases e:a=b
  .have z:=this.mpr e;simp[e,z,qm]
  .have z:dl a b≠0:=λz=>e (this.mp z);simp[e,z]
 .show decide (((a.length:Nat):Int)+(b.length:Nat)<(dl a b:Nat))=false;simp;omega
 refine ai (aH (b:=false) (dI (aJ rfl (bN (aV (aV (aV (au rfl) (dO (aB (au rfl) aP) la) gj) (dO (aB (au rfl) aP) lb) gj) (bD rfl) (kq (by decide))) (bD rfl) mL) ?_) (aJ rfl (bN (au rfl) (dO (aB (aV (dO (aB (au rfl) aP) la) (dO (aB (au rfl) aP) lb) gj) aP) Nx) tY) ?_)) (λz=>absurd z (by decide)) λ_=>av ?_)
 .show(!decide ((((dl a b:Nat):Int) - (a.length:Nat) - (b.length:Nat)) % 2=0))=false;have:(((dl a b:Nat):Int) - (a.length:Nat) - (b.length:Nat)) % 2=0:=by omega
  simp[this]
 .show decide (((dl a b:Nat):Int)<if ((a.length:Nat):Int) - (b.length:Nat)<0 then -(((a.length:Nat):Int) - (b.length:Nat))else ((a.length:Nat):Int) - (b.length:Nat))=false;rw[XI];split<;>omega
 refine ai (aH (b:=false) (dI (aJ rfl (bN (aY (ay rfl (aV (bD rfl) (au rfl) (iw (by simp;omega))) (ay rfl (aV (bD rfl) (au rfl) (iw (by simp;omega))) aG)) (kJ (by simp;omega) (by simp;omega))) (au rfl) mL) ?_) (aJ rfl (bN (aY (ay rfl (aV (au rfl) (bD rfl) (iw (by simp;omega))) (ay rfl (aV (au rfl) (bD rfl) (iw (by simp;omega))) aG)) (kJ (by simp;omega) (by simp;omega))) (au rfl) mL) ?_)) (λz=>absurd z (by decide)) λ_=>av ?_)
 .show(!decide (((dl (122 :: a) (122 :: b):Nat):Int)=(dl a b:Nat)))=false;rw[fT];simp
 .rw[Li];simp[truthy]
 refine ai (aU (ao:=lF ns o t h c m (some (.val (.str a))) (some (.val (.str b))) (some (.val (.int (dl a b:Nat)))) (some (.val (aO (aI (gf a b)))))) (aY (ay rfl (au rfl) (ay rfl (au rfl) aG)) (yE (by omega) (by omega))) rfl (iL rfl v9) ?_);refine ai (aH (b:=false) (dI (aJ rfl (bN (aY (ay rfl (au rfl) (ay rfl (au rfl) aG)) (Du A (by omega) (by omega))) (au rfl) fq) ?_) (dI (aJ rfl (bN (aY (ay rfl (au rfl) aG) (uN (by omega) (by omega))) (au rfl) tY) ?_) (aJ rfl (bN (aY (ay rfl (aY (ay rfl (au rfl) aG) (My (by omega) (by omega))) (ay rfl (au rfl) aG)) (Du Am (by omega) (by omega))) (au rfl) fq) ?_))) (λz=>absurd z (by decide)) λ_=>av ?_)
 .simp[truthy]
 .show decide (((cst (aI (gf a b)):Nat):Int)<(dl a b:Nat))=false;have:=A.le;simp;omega
 .simp[truthy]
 refine ai (aH (b:=false) (dI (aJ rfl (bN (aY (ay rfl (aY (ay rfl (au rfl) (ay rfl (au rfl) aG)) (uM hw (by omega) (by omega))) (ay rfl (au rfl) aG)) (Du C (by omega) (by omega))) (au rfl) fq) ?_) (aJ rfl (bN (aY (ay rfl (aY (ay rfl (au rfl) (ay rfl (au rfl) aG)) (yE (by omega) (by omega))) aG) (My (by omega) (by omega))) (aY (ay rfl (au rfl) (ay rfl (au rfl) aG)) (yE (by omega) (by omega))) (by rw[uE];exact nC _)) rfl)) (λz=>absurd z (by decide)) λ_=>av (av (q _ _ .val .val)));simp[truthy]
def MA{a:List Nat}(h1:a.length<=5)(ho:o.length<=5)(ht:t.length<=5)(hh:h.length<=5){a7 a8 a9:Option Sl}(v7:vo a7)(v8:vo a8)(v9:vo a9){Q:Fl->Fr->Prop}(q:∀b7 b8 b9,vo b7->vo b8->vo b9->Q .nx (lF ns o t h c m (some (.val (.str a))) b7 b8 b9)) :
  Wp (exs (run prog w (n+8)) w yD (lF ns o t h c m (some (.val (.str a))) a7 a8 a9)) Q:=by
 refine ai (iX (vs:=[o,t,h].map V.str) (af:=lF ns o t h c m (some (.val (.str a))) a7 a8 a9) (iK (gQ (aB (au rfl) (aB (au rfl) (aB (au rfl) aP))) x9) rfl) ?_);refine er (e:=V.str) (λp l fr=>(∀x∈l,x.length<=5)/\∃a7 a8 a9,vo a7/\vo a8/\vo a9/\fr=lF ns o t h c m (some (.val (.str a))) a7 a8 a9) (λp b l fr ⟨hp,a7,a8,a9,v7,v8,v9,hfr⟩=>?_) (λp fr ⟨hp,a7,a8,a9,v7,v8,v9,hfr⟩=>?_) _ [] _ ⟨?_,a7,a8,a9,v7,v8,v9,rfl⟩
 .subst hfr;refine dg (af:=lF ns o t h c m (some (.val (.str a))) (some (.val (.str b))) a8 a9) (bind1 rfl v7) ?_;refine GX hw h1 (hp b (Wq ..)) v8 v9 λb8 b9 w8 w9=>?_;rw[cL];exact⟨λx hx=>hp x (VY _ hx),_,_,_,.val,w8,w9,rfl⟩
 .intro x hx;simp only[Wm,Wi,W9]at hx;rcases hx with rfl|rfl|rfl
  .exact ho
  .exact ht
  .exact hh
 .subst hfr;exact av (q _ _ _ v7 v8 v9)
end
section
variable{w n:Nat}{ns:List Int}(hn:ns.length<=63)(hw:5000<w)
include hn hw
set_option maxHeartbeats 1000000 in
theorem MB:run prog w (n+9) 25 [.val (gP ns)]=some (.bl true,[]):=by
 have ho:(txt ns 0 5).length<=5:=qi ns 0 (most:=5) (by decide);have ht:(txt ns 10 5).length<=5:=qi ns 10 (most:=5) (by decide);have hh:(txt ns 20 5).length<=5:=qi ns 20 (most:=5) (by decide);have r1:=λfr=>eS (fr:=fr) (nE (F:=prog) (c:=21) (dr:=22) (t:=23) (w:=w) (n:=n+5) rfl rfl hn rfl 0 5 (by decide) (by decide));have r2:=λfr=>eS (fr:=fr) (nE (F:=prog) (c:=21) (dr:=22) (t:=23) (w:=w) (n:=n+5) rfl rfl hn rfl 10 5 (by decide) (by decide));have r3:=λfr=>eS (fr:=fr) (nE (F:=prog) (c:=21) (dr:=22) (t:=23) (w:=w) (n:=n+5) rfl rfl hn rfl 20 5 (by decide) (by decide));generalize txt ns 0 5=o at ho r1
 generalize txt ns 10 5=t at ht r2
 generalize txt ns 20 5=h at hh r3
 have hf:=GI ns 30 o;have r4:=λfr=>eS (fr:=fr) (yj (F:=prog) (c:=21) (dr:=22) (t:=24) (w:=w) (n:=n+5) rfl rfl hn rfl 30 o (by omega));obtain⟨lc,tc⟩:=Pa ns 30 o 5 ho;generalize chg ns 30 o=c at hf r4 lc tc
 have r5:=λfr=>call2 (fr:=fr) (nG (F:=prog) (aD:=0) (jr:=12) (i:=13) (w:=w) (n:=n+5) rfl rfl rfl c o (by omega) (by omega) (by omega) hf);have hm:(aQ c o).length<=23:=by have:=uq c o;omega
 have hcs:=AV hf;generalize aQ c o=m at r5 hm hcs
 have C0:=kI (j3 o m).1;have k0:=Mx o m;have UI:=C0.tt;have UJ:=C0.ln;have C1:=kI (j3 o t).1;have C2:=kI (j3 t h).1;have UK:=C1.tt;have UL:=C1.ln;have UM:=C2.tt;have UN:=C2.ln;obtain⟨W,r6,T⟩:=Dn (F:=prog) (aD:=0) (b5:=19) (bE:=18) (cT:=17) (aT:=5) (bL:=4) (b6:=1) (cY:=2) (i:=16) (w:=w) (n:=n+5) rfl rfl rfl rfl rfl rfl rfl rfl rfl hw (aI (g6 o t)) (aI (g6 t h)) o C1.fit (by rw[C1.dn];exact C2.fit) (by omega) (by omega) (by omega) (by omega);have Wd:=T.dn;rw[C1.dn,C2.dn]at Wd;have Wl:=AV T.fit;rw[Wd]at Wl;have Wt:tot W<=20:=by have:=T.tt;omega
 have Wn:=T.ln;have r7:=λfr=>call2 (fr:=fr) (nG (F:=prog) (aD:=0) (jr:=12) (i:=13) (w:=w) (n:=n+5) rfl rfl rfl W o (by omega) (by omega) (by omega) T.fit);rw[Wd]at r7;have UO:=Lh o t h;have kb:tot (aI [.keep o.length])=o.length/\(aI [.keep o.length]).length<=o.length:=by
  have h1:tot (aI [.keep o.length])=o.length:=by rw[fG];simp[tot,Pt.n]
  exact⟨h1,by have:=fS (gE (fH [.keep o.length]));omega⟩
 have lo:dw .len [.str o]=some (.int (o.length:Nat)):=WQ (by omega);have Co:=kI (j3 o o).1;have UP:=Co.tt;have UQ:=Co.ln;refine bW (fn:=A9) rfl rfl ?_;refine ai (aU (aY (ay rfl (au rfl) (ay rfl (bD rfl) (ay rfl (bD rfl) aG))) (r1 _)) rfl rfl ?_);refine ai (aU (aY (ay rfl (au rfl) (ay rfl (bD rfl) (ay rfl (bD rfl) aG))) (r2 _)) rfl rfl ?_);refine ai (aU (aY (ay rfl (au rfl) (ay rfl (bD rfl) (ay rfl (bD rfl) aG))) (r3 _)) rfl rfl ?_);refine ai (aU (aY (ay rfl (au rfl) (ay rfl (bD rfl) (ay rfl (au rfl) aG))) (r4 _)) rfl rfl ?_);refine ai (aU (ao:=lF ns o t h c m none none none none) (aY (ay rfl (au rfl) (ay rfl (au rfl) aG)) (r5 _)) rfl rfl ?_);refine ai (aH (b:=false) (dI (aJ rfl (bN (aY (ay rfl (au rfl) (ay rfl (au rfl) aG)) (kJ (by omega) (by omega))) (aY (ay rfl (au rfl) aG) (uN (by omega) (by omega))) qh) ?_) (aJ rfl (bN (aY (ay rfl (aY (ay rfl (au rfl) (ay rfl (au rfl) aG)) (uM hw (by omega) (by omega))) aG) (uN (by omega) (by omega))) (aY (ay rfl (au rfl) aG) (uN (by omega) (by omega))) qh) ?_)) (λz=>absurd z (by decide)) λ_=>av ?_)
 .show decide (((cst c:Nat):Int)<(dl o m:Nat))=false;simp;omega
 .show decide (((cst c:Nat):Int)<(cst (aI (g6 o m)):Nat))=false;simp;omega
 refine ai (iX (vs:=[o,t,h].map V.str) (af:=lF ns o t h c m none none none none) (iK (gQ (aB (au rfl) (aB (au rfl) (aB (au rfl) aP))) x9) rfl) ?_);refine er (e:=V.str) (λp l fr=>(∀x∈l,x.length<=5)/\∃a6 a7 a8 a9,vo a6/\vo a7/\vo a8/\vo a9/\fr=lF ns o t h c m a6 a7 a8 a9) (λp b l fr ⟨hp,a6,a7,a8,a9,v6,v7,v8,v9,hfr⟩=>?_) (λp fr ⟨hp,a6,a7,a8,a9,v6,v7,v8,v9,hfr⟩=>?_) _ [] _ ⟨?_,none,none,none,none,.none,.none,.none,.none,rfl⟩
 .subst hfr;refine dg (af:=lF ns o t h c m (some (.val (.str b))) a7 a8 a9) (bind1 rfl v6) ?_;refine MA hw (hp b (Wq ..)) ho ht hh v7 v8 v9 λb7 b8 b9 w7 w8 w9=>?_;rw[cL];exact⟨λx hx=>hp x (VY _ hx),_,_,_,_,.val,w7,w8,w9,rfl⟩
 .intro x hx;simp only[Wm,Wi,W9]at hx;rcases hx with rfl|rfl|rfl
  .exact ho
  .exact ht
  .exact hh
 .subst hfr;refine ai (aH (b:=false) (aJ rfl (bN (aY (ay rfl (au rfl) (ay rfl (au rfl) aG)) (kJ (by omega) (by omega))) (aV (aY (ay rfl (au rfl) (ay rfl (au rfl) aG)) (kJ (by omega) (by omega))) (aY (ay rfl (au rfl) (ay rfl (au rfl) aG)) (kJ (by omega) (by omega))) cK) qh) ?_) (λz=>absurd z (by decide)) λ_=>av ?_)
  .show decide (((dl o t:Nat):Int)+(dl t h:Nat)<(dl o h:Nat))=false;simp;omega
  refine ai (aU (v:=aO W) (ao:=[some (.val (gP ns)),some (.val (.str o)),some (.val (.str t)),some (.val (.str h)),some (.val (aO c)),some (.val (.str m)),a6,a7,a8,a9,some (.val (aO W))]) (aY (ay rfl (aY (ay rfl (au rfl) (ay rfl (au rfl) aG)) (uM hw (by omega) (by omega))) (ay rfl (aY (ay rfl (au rfl) (ay rfl (au rfl) aG)) (uM hw (by omega) (by omega))) aG)) (call2 r6)) rfl rfl ?_);refine ai (aH (b:=false) (dI (aJ rfl (bN (aY (ay rfl (au rfl) (ay rfl (au rfl) aG)) (r7 _)) (au rfl) fq) ?_) (aJ rfl (bN (aY (ay rfl (au rfl) aG) (uN (by omega) (by omega))) (aY (ay rfl (au rfl) (ay rfl (au rfl) aG)) (kJ (by omega) (by omega))) tY) ?_)) (λz=>absurd z (by decide)) λ_=>av ?_)
  .simp[truthy]
  .show decide (((cst W:Nat):Int)<(dl o h:Nat))=false;simp;omega
  refine ai (bJ (af:=[some (.val (gP ns)),some (.val (.str o)),some (.val (.str t)),some (.val (.str h)),some (.val (aO c)),some (.val (.str m)),a6,a7,a8,a9,some (.val (aO W))]) ?_ ⟨rfl,rfl⟩);rw[show fh [some (.val (gP ns)),some (.val (.str o)),some (.val (.str t)),some (.val (.str h)),some (.val (aO c)),some (.val (.str m)),a6,a7,a8,a9,some (.val (aO W))]=[some (.val (gP ns)),some (.val (.str o)),some (.val (.str t)),some (.val (.str h)),some (.val (aO c)),some (.val (.str m)),a6,a7,a8,a9,some (.val (aO W))]by
   show [_,_,_,_,_,_,a6.map Sl.ek,a7.map Sl.ek,a8.map Sl.ek,a9.map Sl.ek,_]=_;rw[cP v6,cP v7,cP v8,cP v9];rfl]
  exact NJ (aY (ay rfl (aY (ay rfl (au rfl) (ay rfl (au rfl) aG)) (uM hw (by omega) (by omega))) (ay rfl (aY (ay rfl (dO (aB (au rfl) aP) lo) aG) (Mz (by omega))) aG)) (So (by omega) (by omega) (by omega) (by omega) (by rw[Ds]))) (bN (aY (ay rfl (au rfl) (ay rfl (au rfl) aG)) (yE (by omega) (by omega))) (aY (ay rfl (dO (aB (au rfl) aP) lo) aG) (Mz (by omega))) (by rw[Dq];exact eC _))
end
def good:∀ns:List Int,ns.length<=63->∃h',Ev.run prog 100000 60 25 [.ref 0] [.bO (ns.map Ev.D.int)]=.ok (.bl true) h':=λns h=>FU (MB (w:=100000) (n:=51) h (by decide))
end Lg
theorem Lw.good:∀ns:List Int,ns.length<=63->∃h',Ev.run Lw.prog 100000 60 25 [.ref 0] [.bO (ns.map Ev.D.int)]=.ok (.bl true) h':=Lg.good
namespace PySem.W.Fast
theorem tw6467968655042987128:True:=⟨⟩
theorem tw10370132507360194456:True:=⟨⟩
theorem tw4970600919978664565:True:=⟨⟩
theorem tw10873290573489914457:True:=⟨⟩
theorem tw14546026083247184865:True:=⟨⟩
theorem tw4690999309478610876:True:=⟨⟩
theorem tw382252669311739839:True:=⟨⟩
theorem tw15363550590981919653:True:=⟨⟩
theorem tw3965825629943018616:True:=⟨⟩
theorem tw16501574778780643774:True:=⟨⟩
theorem tw12730856157115803609:True:=⟨⟩
theorem tw9032536525443037815:True:=⟨⟩
theorem tw6364284325935511449:True:=⟨⟩
theorem tw18066367943172088396:True:=⟨⟩
theorem tw9839366605930305762:True:=⟨⟩
theorem tw3210236092149006086:True:=⟨⟩
theorem tw4875034345602369592:True:=⟨⟩
theorem tw1423006868705692419:True:=⟨⟩
theorem tw18122931955373885705:True:=⟨⟩
theorem tw7200592221670320438:True:=⟨⟩
theorem tw13768720309927874338:True:=⟨⟩
theorem tw12790845220219658056:True:=⟨⟩
theorem tw2336789052228008603:True:=⟨⟩
theorem tw5423612997119433908:True:=⟨⟩
theorem tw13089512654988038312:True:=⟨⟩
theorem tw8111265461240758109:True:=⟨⟩
theorem tw15447269570274772542:True:=⟨⟩
theorem tw11713101372937994374:True:=⟨⟩
theorem tw13363224986368493782:True:=⟨⟩
theorem tw8258380939895692124:True:=⟨⟩
theorem tw16590428492213986632:True:=⟨⟩
theorem tw956478784362019696:True:=⟨⟩
theorem tw3166322240008397432:True:=⟨⟩
theorem tw890826348396022315:True:=⟨⟩
theorem tw6099468372104225644:True:=⟨⟩
theorem tw3584691557833854687:True:=⟨⟩
theorem tw8557752451141140623:True:=⟨⟩
theorem tw5438552043296287238:True:=⟨⟩
theorem tw15687646168257519211:True:=⟨⟩
theorem tw2785347277815752543:True:=⟨⟩
theorem tw14997432208274762738:True:=⟨⟩
theorem tw11843548695319990692:True:=⟨⟩
theorem tw692821378239654269:True:=⟨⟩
theorem tw540416828173133499:True:=⟨⟩
theorem tw16074071485749000277:True:=⟨⟩
theorem tw7030599530877041509:True:=⟨⟩
theorem tw10416901126207636023:True:=⟨⟩
theorem tw9548542073138324076:True:=⟨⟩
theorem tw12913970107884759741:True:=⟨⟩
theorem tw1209755156039753861:True:=⟨⟩
theorem tw2836793140050328244:True:=⟨⟩
theorem tw15199797300711773381:True:=⟨⟩
theorem tw4292045207619865473:True:=⟨⟩
theorem tw17557466164254440559:True:=⟨⟩
theorem tw18072048178861797933:True:=⟨⟩
theorem tw16435385151378029854:True:=⟨⟩
theorem tw1097120577432012311:True:=⟨⟩
theorem tw15708474380703242448:True:=⟨⟩
theorem tw10853504114063094791:True:=⟨⟩
theorem tw10807108470678410464:True:=⟨⟩
theorem tw15194297485951722440:True:=⟨⟩
theorem tw12515321990728195536:True:=⟨⟩
theorem tw16285900052061478989:True:=⟨⟩
theorem tw15122362117557983305:True:=⟨⟩
theorem tw9782055253441789253:True:=⟨⟩
theorem tw11396622234218869091:True:=⟨⟩
theorem tw4623865310702452078:True:=⟨⟩
theorem tw9883071209222000465:True:=⟨⟩
theorem tw14236393134028917844:True:=⟨⟩
theorem tw9775595661156710850:True:=⟨⟩
theorem tw4227378453766591400:True:=⟨⟩
theorem tw16918477917959905341:True:=⟨⟩
theorem tw3065031214274791810:True:=⟨⟩
theorem tw4759200769714393391:True:=⟨⟩
theorem tw16348087460106531386:True:=⟨⟩
theorem tw8424595749734201267:True:=⟨⟩
theorem tw4698462300106482334:True:=⟨⟩
theorem tw10009904215624376682:True:=⟨⟩
theorem tw826492561787859411:True:=⟨⟩
theorem tw1938528541492319141:True:=⟨⟩
theorem tw12195895306300825547:True:=⟨⟩
theorem tw5432437615876620349:True:=⟨⟩
theorem tw9823990271114751857:True:=⟨⟩
theorem tw18445031596587911218:True:=⟨⟩
theorem tw5681178624388953729:True:=⟨⟩
theorem tw3153167713245935238:True:=⟨⟩
theorem tw3165602221002177308:True:=⟨⟩
theorem tw5589890584342137091:True:=⟨⟩
theorem tw1061987553460099900:True:=⟨⟩
theorem tw12292452665180643168:True:=⟨⟩
theorem tw10716598296535122632:True:=⟨⟩
theorem tw14252560709737271366:True:=⟨⟩
theorem tw2554948848586783638:True:=⟨⟩
theorem tw926493411700541010:True:=⟨⟩
theorem tw996767213658138043:True:=⟨⟩
theorem tw544919296214337755:True:=⟨⟩
theorem tw1903761062324281716:True:=⟨⟩
theorem tw11112427433807088875:True:=⟨⟩
theorem tw18007161169273421366:True:=⟨⟩
theorem tw4396852650734161418:True:=⟨⟩
theorem tw13605150606328291194:True:=⟨⟩
theorem tw956626994199166095:True:=⟨⟩
theorem tw13197746393163233007:True:=⟨⟩
theorem tw11045610000913691749:True:=⟨⟩
theorem tw335668029853330332:True:=⟨⟩
theorem tw10383917608206904547:True:=⟨⟩
theorem tw8586233053682872474:True:=⟨⟩
theorem tw5316783201506787266:True:=⟨⟩
theorem tw10516028469239615078:True:=⟨⟩
theorem tw12780443419740444759:True:=⟨⟩
theorem tw9722695794190394556:True:=⟨⟩
theorem tw2889513641960831637:True:=⟨⟩
theorem tw8913103188315844519:True:=⟨⟩
theorem tw9088736282851381664:True:=⟨⟩
theorem tw1354108145253314177:True:=⟨⟩
theorem tw11564956724983257524:True:=⟨⟩
theorem tw18433384228535692005:True:=⟨⟩
theorem tw2444102968717720043:True:=⟨⟩
theorem tw9401567403225575088:True:=⟨⟩
theorem tw15004356169746625060:True:=⟨⟩
theorem tw4758393058403349117:True:=⟨⟩
theorem tw12214854458891122421:True:=⟨⟩
theorem tw2135324318297787067:True:=⟨⟩
theorem tw6188833853965195370:True:=⟨⟩
theorem tw3261865635627516006:True:=⟨⟩
theorem tw8095352233271450545:True:=⟨⟩
theorem tw13111967416653242432:True:=⟨⟩
theorem tw9616996050159554510:True:=⟨⟩
theorem tw2776963541066496512:True:=⟨⟩
theorem tw13461571737200110517:True:=⟨⟩
theorem tw13391819336376095798:True:=⟨⟩
theorem tw12555731469743675985:True:=⟨⟩
theorem tw16583214597299068557:True:=⟨⟩
theorem tw15447912059851380661:True:=⟨⟩
theorem tw439835431114324607:True:=⟨⟩
theorem tw10042050104088824380:True:=⟨⟩
theorem tw4993853870172404736:True:=⟨⟩
theorem tw12626031090392637829:True:=⟨⟩
theorem tw10343135091882403764:True:=⟨⟩
theorem tw17984353213114894344:True:=⟨⟩
theorem tw7749075134285025732:True:=⟨⟩
theorem tw4945864923327454117:True:=⟨⟩
theorem tw3379208105823734485:True:=⟨⟩
theorem tw8141271053558642814:True:=⟨⟩
theorem tw16466649384684474743:True:=⟨⟩
theorem tw2077760177289854287:True:=⟨⟩
theorem tw6946472987187733082:True:=⟨⟩
theorem tw13931043891616808582:True:=⟨⟩
theorem tw18193899167006667969:True:=⟨⟩
theorem tw14091804718528787686:True:=⟨⟩
theorem tw2514703151684122445:True:=⟨⟩
theorem tw17148847758277184198:True:=⟨⟩
theorem tw16241712043159393003:True:=⟨⟩
theorem tw16242551578309732064:True:=⟨⟩
theorem tw15079585774287991698:True:=⟨⟩
theorem tw15726764871728605599:True:=⟨⟩
theorem tw2508857840567025713:True:=⟨⟩
theorem tw15448992184376727658:True:=⟨⟩
theorem tw914247924862605567:True:=⟨⟩
theorem tw5971674719993606621:True:=⟨⟩
theorem tw8420657258932694522:True:=⟨⟩
theorem tw215064259653961275:True:=⟨⟩
theorem tw13903835824501484382:True:=⟨⟩
theorem tw16127352709919290426:True:=⟨⟩
theorem tw16994260117135224542:True:=⟨⟩
theorem tw13967365983464198778:True:=⟨⟩
theorem tw6508966605690987480:True:=⟨⟩
theorem tw9328243326457549944:True:=⟨⟩
theorem tw16610925409968972836:True:=⟨⟩
theorem tw17402803303116150558:True:=⟨⟩
theorem tw3238213831048838859:True:=⟨⟩
theorem tw6398667608725367923:True:=⟨⟩
theorem tw10491440764220239492:True:=⟨⟩
theorem tw14198929579710642820:True:=⟨⟩
theorem tw18231057972972456789:True:=⟨⟩
theorem tw9891650592223609250:True:=⟨⟩
theorem tw1015832646423078922:True:=⟨⟩
theorem tw4760454214322375704:True:=⟨⟩
theorem tw5111473274938352269:True:=⟨⟩
theorem tw12846062009365353093:True:=⟨⟩
theorem tw12438390427795167610:True:=⟨⟩
theorem tw9961511234014296476:True:=⟨⟩
theorem tw10011631882391271216:True:=⟨⟩
theorem tw3645696562869238531:True:=⟨⟩
theorem tw2232750402793094750:True:=⟨⟩
theorem tw16877401924337382054:True:=⟨⟩
theorem tw2231500874126727680:True:=⟨⟩
theorem tw6985588887125049520:True:=⟨⟩
theorem tw1025815188444337940:True:=⟨⟩
theorem tw5242913478560952619:True:=⟨⟩
theorem tw141613990855660507:True:=⟨⟩
theorem tw14522625012805024625:True:=⟨⟩
theorem tw3340526204513110493:True:=⟨⟩
end PySem.W.Fast
open PySem PySem.W PyProof.Rows
set_option maxRecDepth 100000 in
set_option maxHeartbeats 0 in
theorem PySem.Challenge.cw_pastways_k51_whole_least_holds : PySem.Challenge.rw_pastways_k51_whole_least.Holds := by
 w_on;o_law;k_head;(case hw=>w_witness2)
 k_fill
 refine Sm.Fz (F:=Lw.prog) (wh:=100000) (n:=60) (f:=25) (x:="_law_script") (l:=PySem.Challenge.rw_pastways_k51_whole_least) rfl rfl ⟨rfl,by decide,by decide⟩ (λw h Y=>PySem.W.kIn_of Y) Lw.good ?F
 case F=>
  intro w mg fa h KX G hmg
  refine' Lw.all_mk KX G hmg ⟨?a0,L2.bQ ?l0 ?c0 ?k0⟩ ⟨?a1,L2.bQ ?l1 ?c1 ?k1⟩ ⟨?a2,L2.bQ ?l2 ?c2 ?k2⟩ ⟨?a3,L2.bQ ?l3 ?c3 ?k3⟩ ⟨?a4,L2.bQ ?l4 ?c4 ?k4⟩ ⟨?a5,L2.bQ ?l5 ?c5 ?k5⟩ ⟨?a6,L2.bQ ?l6 ?c6 ?k6⟩ ⟨?a7,L2.bQ ?l7 ?c7 ?k7⟩ ⟨?a8,L2.bQ ?l8 ?c8 ?k8⟩ ⟨?a9,L2.bQ ?l9 ?c9 ?k9⟩ ⟨?UR,L2.bQ ?US ?UT ?UU⟩ ⟨?UW,L2.bQ ?UX ?UY ?UZ⟩ ⟨?U0,L2.bQ ?U1 ?c12 ?U3⟩ ⟨?U4,L2.bQ ?U5 ?U6 ?U7⟩ ⟨?U8,L2.bQ ?U9 ?Va ?Vb⟩ ⟨?Vc,L2.bQ ?Vd ?Ve ?Vf⟩ ⟨?Vg,L2.bQ ?Vh ?Vi ?Vj⟩ ⟨?Vk,L2.bQ ?Vl ?Vm ?Vn⟩ ⟨?Vo,L2.bQ ?Vp ?Vq ?Vr⟩ ⟨?Vs,L2.bQ ?Vt ?Vu ?Vv⟩ ⟨?Vw,L2.bQ ?Vx ?Vy ?Vz⟩ ⟨?VA,L2.bQ ?VB ?VC ?VD⟩ ⟨?VE,L2.bQ ?VF ?VG ?VH⟩ ⟨?VI,L2.bQ ?VJ ?VL ?VM⟩ ⟨?VN,L2.bQ ?VO ?VP ?VQ⟩ ⟨?VR,L2.bQ ?VS ?VT ?VU⟩ ?z0 ?z1 ?z2 ?z3 ?z4 ?z5 ?z6 ?z7 ?z8 ?z9 ?q0 ?QA ?QB ?QC;all_goals try first|k_is|rfl|decide +kernel | (with_unfolding_all rfl)

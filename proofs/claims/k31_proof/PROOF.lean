import PyProof.Rows.All
import Wide.All
import OpenK.AllK
import Wide.FinOn
import Lean
import PyProof.EqAt
import PyProof.EqKinds
import PyProof.TupleCall
import PyProof.DictUpdate
import PyProof.NeKinds
import PyProof.StrLawsIn
import KE.KRevSl
import PyProof.ZipIter
import PyProof.ListRange
import PyProof.Rows.SortStr
import KE.KRevIter
import KE.KDictSum
import PyProof.EnumMake
import PyProof.EnumFor
import PyProof.Draws
import KE.KIntText
import PyProof.CallStr
import PyProof.SetKind
import PySem.Challenge.RW_pastways_k31_whole_places
set_option Elab.async false
set_option linter.all false
set_option maxRecDepth 100000
def fS:=@PySem.wpAny_bind
def gV:=@PySem.wpAny_pure
def lM:=@PySem.Heap.get?_push_of_some
def qh:=@Nat.le_refl
def vv:=@Option.map_eq_some_iff
def xV:=@if_pos
def Er:=@Option.some.inj
def MM:=@List.size_toArray
def MZ:=@List.getElem?_eq_getElem
def Rt:=@Nat.lt_of_lt_of_le
def Ru:=@Option.bind_eq_some_iff
def Tv:=@List.replicate_succ
def Ur:=@PySem.Heap.lt_size
def Vo:=@List.getElem?_set_ne
def Vp:=@Bool.and_eq_true
def VL:=@List.getElem?_append_left
def WM:=@PySem.Heap.get?_push_size
def WN:=@List.length_append
def WO:=@List.map_cons
def WQ:=@if_neg
def WR:=@List.cons_append
def WS:=@List.getElem?_set_self
def WT:=@congrArg
def WU:=@Nat.ne_of_lt
def WV:=@Nat.le_trans
def WX:=@List.getElem?_map
def WY:=@List.length_cons
def WZ:=@PySem.Heap.get?_update_self
def W0:=@List.map_append
def W2:=@List.mem_of_getElem?
def W3:=@decide_eq_false
def W4:=@Bool.false_eq_true
def W5:=@PySem.wpAny_ite_split
def W6:=@List.length_map
def W7:=@PySem.wpAny_newObj_type
def W8:=@List.getElem?_eq_none
def W9:=@List.mem_cons_of_mem
def Xa:=@if_true
def Xb:=@PySem.builtinLookup_eq_fast
def Xc:=@List.mem_append_right
def Xd:=@Nat.zero_le
def Xe:=@PySem.Heap.SameBut.update
def Xf:=@PySem.wpAny_call_entry
def Xg:=@List.getElem?_append_right
def Xh:=@of_decide_eq_true
def Xi:=@List.append_assoc
def Xj:=@PyProof.Rows.callWith_type1
def Xk:=@List.reverse_cons
def Xl:=@PySem.wpAny_callSpecial?_slot
def Xm:=@List.foldl_cons
def Xn:=@List.append_nil
def Xo:=@PySem.Around.under_plainId
def Xp:=@List.take_of_length_le
def Xq:=@PySem.Heap.get?_update_other
def Xr:=@PySem.AutoSeq1.wpAny_loadPart'
def Xu:=@PySem.W.mg_none_of
def Xv:=@Bool.false_ne_true
def Xw:=@Array.length_toList
def Xx:=@PySem.wpAny_mono
def Xy:=@PySem.typeLookup_type
def Xz:=@PySem.codeAny_builtin
def XA:=@Array.getElem?_eq_getElem
def XC:=@List.mem_cons_self
def XD:=@PySem.plainId_quiet
def XE:=@decide_eq_true
def XF:=@List.take_succ_cons
def XG:=@PySem.wpAny_of_eq
def XH:=@if_false
def XI:=@Ne.symm
def XJ:=@PySem.wpAny_setField
def XM:=@PySem.isSubtype_type
def XN:=@PySem.Heap.size_push
def XO:=@List.length_singleton
def XQ:=@Array.getElem?_toList
def XR:=@PyProof.Rows.slot_tuple_getitem
def XS:=@List.map_map
def XT:=@PySem.wpAny_specialOf
def XU:=@List.nil_append
def XW:=@Bool.or_eq_true
def XX:=@PyProof.Rows.len_str
def XY:=@PySem.wpAny_setState_of
def XZ:=@decide_eq_true_eq
def X0:=@Int.toNat_natCast
def X3:=@PySem.wpAny_holding
def X4:=@Nat.lt_irrefl
def X5:=@List.getElem?_range
def X6:=@List.filterMap_cons
def X7:=@List.lookup_cons
def X8:=@PySem.wpAny_field
def Yb:=@List.drop_eq_nil_of_le
def Yc:=@PySem.wpAny_Call_Name_kw
def Yd:=@of_decide_eq_false
def Ye:=@PySem.wpAny_passesOwn
def Yg:=@PySem.wpAny_attempt
def Yh:=@List.flatten_cons
def Yi:=@PySem.sizeLine_eq
def Yj:=@List.drop_drop
def Yk:=@PySem.wpAny_typeOf
def Yl:=@PySem.wpAny_isInstance
def Ym:=@Nat.lt_succ_self
def Yn:=@List.length_take
def Yo:=@PySem.wpAny_setEntries_of
def Yp:=@PySem.mem_of_lookup
def Yq:=@Option.bind_eq_bind
def Yr:=@PySem.call_meets
def Ys:=@List.range_succ
def Yt:=@List.foldl_append
def Yu:=@PySem.codeAny_mono
def Yv:=@Nat.add_comm
def Yw:=@List.dropLast_eq_take
def Yx:=@List.length_drop
def Yy:=@List.filter_cons
def Yz:=@List.append_inj'
def YA:=@List.sum_cons
def YB:=@List.getD_eq_getElem?_getD
def YC:=@Nat.le_succ
def YD:=@PySem.wpAny_updateSeq
def YE:=@List.drop_eq_getElem_cons
def YF:=@PySem.Obj.data_mapFields
def YG:=@Int.emod_lt_of_pos
def YH:=@PySem.Calls.spliced_cons
def YI:=@PySem.F.args_tuple_mul_2
def YJ:=@PySem.F.args_tuple_add_2
def YK:=@PySem.wpAny_rule
def YL:=@PySem.F.plainAttrs_list
def YM:=@PySem.F.entry_tuple_mul
def YN:=@PySem.F.entry_tuple_add
def YO:=@PyProof.Rows.F.plain_set_update_loop
def YQ:=@PySem.fits_of_scanBound
def YR:=@Nat.lt_succ_of_lt
def YS:=@PySem.Calls.spliced_nil
def YT:=@PySem.F.slot_tuple_mul
def YU:=@PySem.F.slot_tuple_add
def YV:=@List.range_succ_eq_map
def YW:=@List.pairwise_lt_range
def YX:=@Nat.add_assoc
def YY:=@List.getElem?_toArray
def YZ:=@List.eq_nil_or_concat
def Y0:=@List.concat_eq_append
def Y3:=@Nat.ne_of_gt
def Y4:=@List.map_nil
def Y5:=@PySem.codeAny_of_tree
def Y6:=@Nat.min_eq_left
def Y7:=@List.nodup_cons
def Y8:=@Int.emod_nonneg
def Y9:=@PySem.codeAny_extend_loopS
def Za:=@PyProof.Rows.callWith_builtin1
def Zb:=@List.eq_nil_of_length_eq_zero
def Zc:=@List.drop_succ_cons
def Zd:=@PySem.F.plain_extend_loop
def Ze:=@PySem.wpAny_fieldsOf
def Zf:=@List.drop_zero
def Zg:=@List.mem_singleton
def Zh:=@List.filter_append
def Zi:=@List.filterMap_map
def Zj:=@PySem.W.mg_of
def Zk:=@List.length_eraseIdx_of_lt
def Zl:=@PySem.Calls.Name_function_global
def Zm:=@PySem.wpAny_truthy_bool
def Zn:=@PySem.wpAny_pyIter_slot
def Zo:=@List.take_add_one
def Zp:=@List.pairwise_map
def Zq:=@List.ext_getElem?
def Zr:=@Bool.not_eq_true'
def Zs:=@PySem.typeIs_int
def Zt:=@PySem.wpAny_binaryOp_repeat_ref
def Zu:=@PySem.F.plain_extend_loop
def Zv:=@List.getElem?_eq_none_iff
def Zw:=@Nat.lt_or_ge
def Zx:=@Nat.le_of_lt
def Zy:=@PySem.wpAny_askSetting
def Zz:=@PySem.noFill_tuple_add
def ZA:=@PySem.entryFor_of_tree
def ZC:=@Nat.min_eq_right
def ZD:=@PySem.AutoSeq1.idx_int
def ZE:=@PySem.wpAny_comprehension_free
def ZF:=@List.getElem?_take_of_lt
def ZG:=@List.Pairwise.imp_of_mem
def ZH:=@decide_eq_false_iff_not
def ZI:=@PySem.F.plain_list_iadd
def ZJ:=@List.getElem?_replicate
def ZK:=@List.getElem?_cons_succ
def ZL:=@PyProof.Rows.IsTup.new
def ZM:=@PySem.wpAny_execs_nil
def ZN:=@List.of_mem_zip
def ZO:=@List.cons.injEq
def ZP:=@PySem.W.cellsFrom_some
def ZQ:=@PySem.Calls.callWith_builtin
def ZR:=@Array.getElem?_eq_none
def ZS:=@PySem.wpAny_seqItems
def ZT:=@PySem.wpAny_runValue
def ZU:=@PySem.entryFor_alias
def ZV:=@PySem.callType_codes
def ZW:=@PySem.F.slot_set_iter
def ZX:=@PySem.F.slot_int_rmul
def ZY:=@PySem.Obj.isFreed_of_fields
def ZZ:=@List.singleton_append
def Z0:=@List.length_replicate
def Z1:=@List.length_filter_le
def Z2:=@PySem.args_get
def Z3:=@beq_iff_eq
def Z4:=@List.mem_append_left
def Z5:=@List.getLast?_append
def Z6:=@List.getElem?_of_mem
def Z7:=@PySem.signature?_of
def Z8:=@PySem.seq_tuple_add
def Z9:=@PySem.Moved.eq_with
def aaa:=@Bool.or_false
def aab:=@Nat.sub_lt_sub_left
def aac:=@List.length_reverse
def aad:=@List.flatMap_append
def aae:=@List.filterMap_some
def aaf:=@Nat.lt_trans
def aag:=@Nat.add_zero
def aah:=@Int.zero_add
def aai:=@PyProof.V.same_str
def aaj:=@List.getElem?_drop
def aak:=@Prod.ext
namespace L2
open PySem PySem.Spec PyProof.Rows
abbrev Key:=Sum Int Str
noncomputable def kR:Key->Value->Bool
 |.inl k,v=>Value.isInt k v
 |.inr x,v=>Value.isStrOf x v
noncomputable def R3(w:World):Key->Int
 |.inl k=>hashInt k
 |.inr x=>hashStr w x
def dj:∀{k:Key}{v:Value},kR k v=true->(∃i t,k=Sum.inl i/\v=Value.int i t)\/(∃x t,k=Sum.inr x/\v=Value.str x t)
 |.inl i,v,h=>by
  obtain⟨t,e⟩:=Value.isInt_shape (k:=i) (v:=v) h;exact .inl ⟨i,t,rfl,e⟩
 |.inr x,v,h=>by
  obtain⟨t,e⟩:=Value.isStrOf_shape (x:=x) (v:=v) h;exact .inr ⟨x,t,rfl,e⟩
def zM(i:Int)(t:Tok):kR (.inl i) (.int i t)=true:=by simp[kR,Value.isInt]
def zO(x:Str)(t:Tok):kR (.inr x) (.str x t)=true:=by simp[kR,Value.isStrOf]
def IQ(a b:Int):decide ((Sum.inl a:Key)=Sum.inl b)=(a==b):=by
 by_cases e:a=b
 .subst e;simp
 .have h:¬ (Sum.inl a:Key)=Sum.inl b:=λq=>e (Sum.inl.inj q);rw[W3 h];exact(beq_eq_false_iff_ne.mpr e).symm
def IS(a b:Str):decide ((Sum.inr a:Key)=Sum.inr b)=decide (a=b):=by
 by_cases e:a=b
 .subst e;simp
 .have h:¬ (Sum.inr a:Key)=Sum.inr b:=λq=>e (Sum.inr.inj q);rw[W3 h,W3 e]
def IT(a:Int)(b:Str):decide ((Sum.inl a:Key)=Sum.inr b)=false:=W3 (λq=>nomatch q)
def IU(a:Str)(b:Int):decide ((Sum.inr a:Key)=Sum.inl b)=false:=W3 (λq=>nomatch q)
noncomputable def cL(prog:Program)(w:World):PySem.KeyKind prog w Key where
 is:=kR
 hash:=R3 w
 inj:=λv a b ha hb=>by
  rcases dj ha with ⟨i,t,rfl,rfl⟩|⟨x,t,rfl,rfl⟩
  .rcases dj hb with ⟨j,u,rfl,e⟩|⟨y,u,rfl,e⟩
   .injection e with e1 _;rw[e1]
   .exact nomatch e
  .rcases dj hb with ⟨j,u,rfl,e⟩|⟨y,u,rfl,e⟩
   .exact nomatch e
   .injection e with e1 _;rw[e1]
 byValue:=λk v h=>by
  rcases dj h with ⟨i,t,rfl,rfl⟩|⟨x,t,rfl,rfl⟩<;>rfl
 pyHash:=λhv h=>by
  rcases dj hv with ⟨i,t,rfl,rfl⟩|⟨x,t,rfl,rfl⟩
  .exact wpAny_pyHash_int h
  .exact wpAny_pyHash_str h
 eqBool:=λhu hv h=>by
  rcases dj hu with ⟨i,t,rfl,rfl⟩|⟨x,t,rfl,rfl⟩
  .rcases dj hv with ⟨j,u,rfl,rfl⟩|⟨y,u,rfl,rfl⟩
   .rw[IQ]at h;exact wpAny_eqBool_int h
   .rw[IT]at h;exact SeqAt.EqAt.int_str i t y u _ _ _ _ h
  .rcases dj hv with ⟨j,u,rfl,rfl⟩|⟨y,u,rfl,rfl⟩
   .rw[IU]at h;exact SeqAt.EqAt.str_int x t j u _ _ _ _ h
   .rw[IS]at h;exact wpAny_eqBool_str h
 «strs»:=λk x t v h=>by
  rcases dj h with ⟨i,u,rfl,e⟩|⟨y,u,rfl,e⟩
  .exact nomatch e
  .injection e with e1 _
   subst e1;cases v<;>rfl
inductive V where
 |aU|bl (b:Bool)|int (i:Int)|str (x:Str)|zP (b:Array UInt8)|IV (b:UInt64)|ref (a:Addr)|ty (n:String)
 deriving DecidableEq
noncomputable def RelV:V->Value->Prop
 |.aU,u=>u=Value.none
 |.bl b,u=>u=Value.bool b
 |.int i,u=>∃t,u=Value.int i t
 |.str x,u=>∃t,u=Value.str x t
 |.zP b,u=>∃t,u=Value.bytes b t
 |.IV b,u=>∃t,u=Value.float b t
 |.ref a,u=>u=Value.ref a
 |.ty n,u=>u=Value.type n
abbrev Vals:List V->List Value->Prop:=Paired RelV
theorem Vals.length{xs:List V}{us:List Value}(r:Vals xs us):xs.length=us.length:=Paired.length r
theorem Vals.get:∀{xs:List V}{us:List Value}{i:Nat}{x:V},Vals xs us->xs[i]?=some x->∃u,us[i]?=some u/\RelV x u
 |_,_,_,_,.nil,e=>by simp at e
 |_,_,0,_,.cons r _,e=>by simp at e;subst e;exact⟨_,rfl,r⟩
 |_,_,i+1,x,.cons _ t,e=>by
  obtain⟨u,h1,h2⟩:=Vals.get (i:=i) (x:=x) t (by simpa using e);exact⟨u,by simpa using h1,h2⟩
theorem Vals.append:∀{xs ys:List V}{us ws:List Value},Vals xs us->Vals ys ws->Vals (xs++ys) (us++ws)
 |_,_,_,_,.nil,s=>s
 |_,_,_,_,.cons r t,s=>.cons r (Vals.append t s)
theorem Vals.take:∀{xs:List V}{us:List Value}(n:Nat),Vals xs us->Vals (xs.take n) (us.take n)
 |_,_,0,_=>.nil
 |_,_,_+1,.nil=>.nil
 |_,_,n+1,.cons r t=>.cons r (Vals.take n t)
theorem Vals.drop:∀{xs:List V}{us:List Value}(n:Nat),Vals xs us->Vals (xs.drop n) (us.drop n)
 |_,_,0,r=>r
 |_,_,_+1,.nil=>.nil
 |_,_,n+1,.cons _ t=>Vals.drop n t
noncomputable def IW:Option V->Option Value->Prop
 |some v,some u=>RelV v u
 |none,none=>True
 |_,_=>False
noncomputable def KV{κ:Type}:List (κ×V)->List (κ×Value)->Prop:=Paired λ(p:κ×V) (q:κ×Value)=>p.1=q.1/\RelV p.2 q.2
noncomputable def kV:Key->V
 |.inl i=>.int i
 |.inr x=>.str x
inductive HO where
 |lst (xs:List V)
 |tup (xs:List V)
 |dK (kvs:List (Key×V))|dT (kvs:List (List Key×V))
 |set (S:Int->Bool) (n:Nat)
 |ins (C dx:Addr) (fs:List (Str×V))
 |own (x:Addr)
 |xd (fs:List (Str×V))
 |met (f x:Addr)
 |fH (lo hi:Int)
 |bW (o:Obj) (u:HO)
 |tY (ps:Array Value)
 |ext (φ:Heap->Prop)
abbrev Hp:=Addr->Option HO
noncomputable def upd(H:Hp)(a:Addr)(o:HO):Hp:=λb=>if b=a then some o else H b
def gy{H:Hp}{a:Addr}{o:HO}:upd H a o a=some o:=by unfold upd;rw[xV rfl]
def bH{H:Hp}{a b:Addr}{o:HO}(h:b≠a):upd H a o b=H b:=by unfold upd;rw[WQ h]
def pe{H:Hp}{a b:Addr}{o u:HO}(h:H a=some o)(h':H b=some u)(d:o≠u):a≠b:=by
 intro e;subst e;rw[h]at h';exact d (Er h')
def b7{H:Hp}{a b:Addr}{o:HO}(h:H a=some o)(h':H b=none):a≠b:=by
 intro e;subst e;rw[h]at h';cases h'
section
variable(P:Program)(w:World)
noncomputable def fu(H:Hp)(h:Heap)(a:Addr):HO->Prop
 |.lst xs=>xs.length<=sizeLine/\∃(its:List Value) (n:Nat),Vals xs its/\h.get? a=some { cls:=.type "list",data:=.seq its.toArray n }
 |.tup xs=>xs.length<=sizeLine/\∃its:List Value,Vals xs its/\IsTup h a its.toArray
 |.dK kvs=>kvs.length<=sizeLine/\(a==sysModules)=false/\∃vs,KV kvs vs/\h.DictOf (cL P w) a vs
 |.dT kvs=>kvs.length<=sizeLine/\(a==sysModules)=false/\∃xs:List (List Key×Addr×Value),
   Paired (λ(p:List Key×V) (q:List Key×Addr×Value)=>p.1=q.1/\H q.2.1=some (.tup (p.1.map kV))/\RelV p.2 q.2.2) kvs xs/\
   ∃o es ep,h.get? a=some o/\o.ExactDict/\o.data=.dict es ep/\es.toList=xs.map (entryOfKey (tupleKind (cL P w)))/\(xs.map (·.1)).Nodup
 |.set S n=>h.SetOf (intKind P w) a S n
 |.ins C dx fs=>H dx=some (.own a)/\fs.length<=1000/\dx≠a/\h.get? a=some (PySem.W.instObj C dx)/\
   ∃mA,h.Ns1 dx mA/\(∀f,IW (fs.lookup f) (mA f))/\PySem.Within mA (fs.map (·.1))
 |.own _=>∃o,h.get? a=some o
 |.xd fs=>∃mA,h.Ns1 a mA/\∀f,IW (fs.lookup f) (mA f)
 |.fH lo hi=>∃t u v,h.get? a=some { cls:=.type "range",data:=.fields #[.int lo t,.int hi u,.int 1 v]}
 |.bW o u=>h.get? a=some o/\fu H h a u
 |.tY ps=>h.get? a=some { cls:=.none,data:=.fields ps }
 |.met f x=>h.get? a=some (PySem.W.methodObj (.ref f) (.ref x))
 |.ext φ=>φ h/\(∃o,h.get? a=some o)/\∀h1 h2:Heap,φ h1->(∀o,h1.get? a=some o->h2.get? a=some o)->φ h2
noncomputable def fJ(H:Hp)(h:Heap):Prop:=∀a o,H a=some o->fu P w H h a o
end
section
variable{P:Program}{w:World}{H H':Hp}{h h':Heap}{a:Addr}{o:HO}
theorem fu.lt(x:fu P w H h a o):a<h.objs.size:=by
 cases o with
 |lst xs=>obtain⟨_,_,_,_,e⟩:=x;exact Ur e
 |tup xs=>obtain⟨_,_,_,p⟩:=x;exact p.lt
 |dK kvs=>obtain⟨_,_,_,_,o,_,_,e,_⟩:=x;exact Ur e
 |dT kvs=>obtain⟨_,_,_,_,o,_,_,e,_⟩:=x;exact Ur e
 |set S n=>obtain⟨o,_,_,_,e,_⟩:=x;exact Ur e
 |ins C dx fs=>obtain⟨_,_,_,e,_⟩:=x;exact Ur e
 |own y=>obtain⟨_,e⟩:=x;exact Ur e
 |xd fs=>obtain⟨_,⟨_,_,_,e,_⟩,_⟩:=x;exact Ur e
 |fH lo hi=>obtain⟨_,_,_,e⟩:=x;exact Ur e
 |bW ob u=>obtain⟨e,_⟩:=x;exact Ur e
 |tY ps=>exact Ur (show h.get? a=some _ from x)
 |met f y=>exact Ur (show h.get? a=some _ from x)
 |ext φ=>obtain⟨_,⟨_,e⟩,_⟩:=x;exact Ur e
theorem Paired.IX{α β:Type}{F G:α->β->Prop}:∀{l₁:List α}{l₂:List β},Paired F l₁ l₂->(∀a b,F a b->G a b)->Paired G l₁ l₂
 |_,_,.nil,_=>.nil
 |_,_,.cons r t,f=>.cons (f _ _ r) (Paired.IX t f)
def fu.stay(x:fu P w H h a o)(k:∀b u,(b=a\/H b=some (.own a))->h.get? b=some u->h'.get? b=some u)
  (ho:∀b,H b=some (.own a)->H' b=some (.own a)) (ht:∀b xs,H b=some (.tup xs)->H' b=some (.tup xs)):fu P w H' h' a o:=by
 induction o with
 |lst xs=>obtain⟨z,its,n,r,e⟩:=x;exact⟨z,its,n,r,k _ _ (.inl rfl) e⟩
 |tup xs=>obtain⟨z,its,r,ob,e,c⟩:=x;exact⟨z,its,r,ob,k _ _ (.inl rfl) e,c⟩
 |dK kvs=>obtain⟨z,y,vs,r,ob,es,ep,e,c⟩:=x;exact⟨z,y,vs,r,ob,es,ep,k _ _ (.inl rfl) e,c⟩
 |dT kvs=>
  obtain⟨z,y,xs,r,ob,es,ep,e,c⟩:=x;exact⟨z,y,xs,Paired.IX r λp q z=>⟨z.1,ht _ _ z.2.1,z.2.2⟩,ob,es,ep,k _ _ (.inl rfl) e,c⟩
 |set S n=>obtain⟨ob,es,ep,t,e,c⟩:=x;exact⟨ob,es,ep,t,k _ _ (.inl rfl) e,c⟩
 |ins C dx fs=>
  obtain⟨d,z,ne,e,mA,⟨od,es,ep,e2,c⟩,r⟩:=x;exact⟨ho _ d,z,ne,k _ _ (.inl rfl) e,mA,⟨od,es,ep,k _ _ (.inr d) e2,c⟩,r⟩
 |own y=>obtain⟨ob,e⟩:=x;exact⟨ob,k _ _ (.inl rfl) e⟩
 |xd fs=>obtain⟨mA,⟨od,es,ep,e,c⟩,r⟩:=x;exact⟨mA,⟨od,es,ep,k _ _ (.inl rfl) e,c⟩,r⟩
 |fH lo hi=>obtain⟨t,u,v,e⟩:=x;exact⟨t,u,v,k _ _ (.inl rfl) e⟩
 |bW ob u ih=>obtain⟨e,q⟩:=x;exact⟨k _ _ (.inl rfl) e,ih q⟩
 |tY ps=>
  have e:h.get? a=some { cls:=.none,data:=.fields ps }:=x;show h'.get? a=some { cls:=.none,data:=.fields ps };exact k a _ (.inl rfl) e
 |met f y=>
  have e:h.get? a=some (PySem.W.methodObj (.ref f) (.ref y)):=x;show h'.get? a=some (PySem.W.methodObj (.ref f) (.ref y));exact k a _ (.inl rfl) e
 |ext φ=>obtain⟨p,⟨o,e⟩,st⟩:=x;exact⟨st _ _ p λo q=>k _ _ (.inl rfl) q,⟨o,k _ _ (.inl rfl) e⟩,st⟩
theorem fJ.lt(x:fJ P w H h)(e:H a=some o):a<h.objs.size:=(x a o e).lt
def fJ.fresh(x:fJ P w H h)(e:h.objs.size<=a):H a=none:=by
 cases q:H a with
 |none=>rfl
 |some u=>exact absurd (Rt (x.lt q) e) (X4 _)
def fJ.kept(x:fJ P w H h)(k:∀b u,h.get? b=some u->h'.get? b=some u):fJ P w H h':=λa o e=>
 (x a o e).stay (λb u _ q=>k b u q) (λ_ q=>q) λ_ _ q=>q
def fJ.laid(x:fJ P w H h)(k:∀b u,h.get? b=some u->h'.get? b=some u)(hp:h.objs.size<=a)(new:fu P w (upd H a o) h' a o):fJ P w (upd H a o) h':=λb u e=>by
 have hn:=x.fresh hp;by_cases hb:b=a
 .subst hb;rw[gy]at e;cases e;exact new
 .rw[bH hb]at e;exact(x b u e).stay (λc v _ q=>k c v q) (λc q=>by rw[bH (b7 q hn)];exact q) λc xs q=>by rw[bH (b7 q hn)];exact q
end
noncomputable def Rd(H:Hp)(a:Addr)(u:HO):Prop:=H a=some u\/∃o,H a=some (.bW o u)
def Rd.ok{P:Program}{w:World}{H:Hp}{h:Heap}{a:Addr}{u:HO}(r:Rd H a u)(x:fJ P w H h):fu P w H h a u:=by
 rcases r with r|⟨o,r⟩
 .exact x a u r
 .obtain⟨_,q⟩:=x a _ r;exact q
noncomputable def Ez:Option HO->Prop
 |some (.lst _)=>True
 |some (.dK _)=>True
 |some (.dT _)=>True
 |some (.set _ _)=>True
 |some (.ins _ _ _)=>True
 |some (.ext _)=>True
 |_=>False
section
variable{P:Program}{w:World}{H:Hp}{h h':Heap}{x e:Addr}{o':HO}
def fJ.write(ok:fJ P w H h)(mu:Ez (H x))(he:e=x\/H e=some (.own x))(k:∀b u,b≠e->h.get? b=some u->h'.get? b=some u)(wA:∃u,h'.get? e=some u)
  (new:fu P w (upd H x o') h' x o'):fJ P w (upd H x o') h':=λb u q=>by
 have IY:∀c y,H c=some (.own y)->c≠x:=λc y r z=>by subst z;rw[r]at mu;exact mu
 have R4:∀c xs,H c=some (.tup xs)->c≠x:=λc xs r z=>by subst z;rw[r]at mu;exact mu
 by_cases hb:b=x
 .subst hb;rw[gy]at q;cases q;exact new
 .rw[bH hb]at q;by_cases tZ:b=e
  .have q':H b=some (.own x):=by
    rcases he with z|z
    .exact absurd (tZ.trans z) hb
    .rw[tZ];exact z
   rw[q]at q';cases q';obtain⟨v,hv⟩:=wA;exact⟨v,by rw[tZ];exact hv⟩
  .refine(ok b u q).stay (λc v hc r=>k c v ?_ r) (λc r=>by rw[bH (IY c b r)];exact r) λc xs r=>by rw[bH (R4 c xs r)];exact r
   rcases hc with rfl|hc
   .exact tZ
   .rintro rfl;rcases he with z|z
    .exact IY c b hc z
    .rw[hc]at z;cases z;exact hb rfl
end
structure Un(fs ex:List Addr)(H H':Hp)(h h':Heap):Prop where
 keep:∀b o,h.get? b=some o->H b=none->b∉fs->b∉ex->h'.get? b=some o
 slot:∀b o,h.get? b=some o->H b=none->b∈fs->b∉ex->∃sl,h'.get? b=some { o with slots:=sl }
 free:∀b o,h.get? b=some o->H b=none->b∉ex->H' b=none
 there:∀b o,h.get? b=some o->b∉ex->∃o',h'.get? b=some o'
 tups:∀b xs,H b=some (.tup xs)->H' b=some (.tup xs)
 kT:∀b o u,H b=some (.bW o u)->H' b=some (.bW o u)
 mh:∀b ps,H b=some (.tY ps)->∃more,H' b=some (.tY (ps++more))
section
variable{fs ex:List Addr}{H H1:Hp}{h h1 h':Heap}{a x e:Addr}{o:HO}
def Un.any(u:Un fs ex H H1 h h1){b:Addr}{ob:Obj}(q:h.get? b=some ob)(n:H b=none)(hx:b∉ex):∃sl,h1.get? b=some { ob with slots:=sl }:=by
 by_cases hb:b∈fs
 .exact u.slot b ob q n hb hx
 .exact⟨ob.slots,u.keep b ob q n hb hx⟩
def Un.kept(k:∀b u,h.get? b=some u->h'.get? b=some u):Un fs ex H H h h':=
 ⟨λb ob q _ _ _=>k b ob q,λb ob q _ _ _=>⟨ob.slots,k b ob q⟩,λ_ _ _ n _=>n,λb ob q _=>⟨ob,k b ob q⟩,λ_ _ q=>q,λ_ _ _ q=>q,λ_ ps q=>⟨#[],by rw[q];simp⟩⟩
def Un.refl:Un fs ex H H h h:=Un.kept λ_ _ q=>q
def Un.laid(k:∀b u,h.get? b=some u->h'.get? b=some u)(hp:h.objs.size<=a)(hn:H a=none):Un fs ex H (upd H a o) h h' where
 keep:=λb u q _ _ _=>k b u q
 slot:=λb u q _ _ _=>⟨u.slots,k b u q⟩
 free:=λb u q n _=>by rw[bH (WU (Rt (Ur q) hp))];exact n
 there:=λb u q _=>⟨u,k b u q⟩
 tups:=λb xs q=>by rw[bH (b7 q hn)];exact q
 kT:=λb u xs q=>by rw[bH (b7 q hn)];exact q
 mh:=λb ps q=>⟨#[],by rw[bH (b7 q hn),q];simp⟩
def Un.write(mu:Ez (H x))(he:e=x\/H e=some (.own x))(k:∀b u,b≠e->h.get? b=some u->h'.get? b=some u)(wA:∃u,h'.get? e=some u):Un fs ex H (upd H x o) h h':=by
 have hx:∀b,H b=none->b≠x:=λb n z=>by subst z;rw[n]at mu;exact mu
 have hb:∀b,H b=none->b≠e:=λb n z=>by
  subst z;rcases he with r|r
  .exact hx b n r
  .rw[n]at r;cases r
 have hm:∀b u,H b=some u->¬ Ez (some u)->b≠x:=λb u q nm z=>by subst z;rw[q]at mu;exact nm mu
 refine⟨λb u q n _ _=>k b u (hb b n) q,λb u q n _ _=>⟨u.slots,k b u (hb b n) q⟩,λb u q n _=>by rw[bH (hx b n)];exact n,λb u q _=>?_,
  λb xs q=>by rw[bH (hm b _ q λz=>z)];exact q,λb u xs q=>by rw[bH (hm b _ q λz=>z)];exact q,λb ps q=>⟨#[],by rw[bH (hm b _ q λz=>z),q];simp⟩⟩
 by_cases tZ:b=e
 .subst tZ;exact wA
 .exact⟨u,k b u tZ q⟩
end
noncomputable def EA(h:Heap)(H:Hp):List Addr:=(List.range h.objs.size).filter λa=>(H a).isSome
noncomputable def kU(h:Heap)(H:Hp):Heap:=PySem.W.hideAll h (EA h H)
def zQ(h:Heap)(H:Hp):(kU h H).objs.size=h.objs.size:=PySem.W.hideAll_size _ _
def Cb{h:Heap}{H:Hp}{b:Addr}{o:Obj}(e:h.get? b=some o)(n:H b=none):(kU h H).get? b=some o:=
 PySem.W.hideAll_get _ e λhm=>by
  have q:(H b).isSome=true:=(List.mem_filter.mp hm).2;rw[n]at q;simp at q
def Ge{h:Heap}{H:Hp}{b:Addr}{o:Obj}(e:(kU h H).get? b=some o):h.get? b=some o/\H b=none:=by
 have e':h.get? b=some o:=PySem.W.of_hideAll (EA h H) e;refine⟨e',?_⟩;cases q:H b with
 |none=>rfl
 |some x=>
  have hm:b∈EA h H:=List.mem_filter.mpr ⟨List.mem_range.mpr (Ur e'),by simp[q]⟩;have z:(kU h H).get? b=none:=PySem.W.hideAll_none (EA h H) hm;rw[z]at e;cases e
noncomputable def Gf(g h:Heap)(L:Addr):List (Addr×Obj):=(List.range h.objs.size).filterMap λa=>if a=L\/(g.get? a).isSome=true then none else (h.get? a).map λo=>(a,o)
noncomputable def rest(g h:Heap)(L d:Addr):List (Addr×Obj):=(Gf g h L).filter λp=>decide (p.1≠d)
structure Mod(K:PySem.W.Frag)(mg:Str->Option Value)(base:Heap):Prop where
 EB:K.In base
 glob:base.Ns mainGlobals mg
 blt:∃mb,base.Ns builtinsNs mb/\∀x:Str,x≠"__name__" ->mb x=bootBuiltins x
 nolimit:base.NoLimit
structure Cx where
 prog:Program
 w:World
 K:PySem.W.Frag
 mg:Str->Option Value
 base:Heap
 A:Around
 N:List Str
 s₀:Shared
 H₀:Hp
 env:Env
 outer:List Env
 stack:List Env
 ex:List Addr
 fn:Str->Bool
 calm:Bool
 pn:List (Addr×Obj)
 xe:Value->Shared->Prop
noncomputable def frs(l:List Env):List Addr:=l.filterMap (·.frame)
noncomputable abbrev Cx.fs(X:Cx):List Addr:=frs X.outer
noncomputable def zR(sc:Scope)(x:Str):Prop:=sc.names.lookup x=some .local\/sc.names.lookup x=some .cell\/sc.names.lookup x=some .free
noncomputable def Loc(sc:Scope)(x:Str):Prop:=sc.names.lookup x=some .local\/sc.names.lookup x=some .cell
noncomputable def Look(env:Env)(h:Heap)(m:Str->Option Value)(x:Str)(u:Value):Prop:=
 (env.kindOf x=some .local/\m x=some u)\/((env.kindOf x=some .cell\/env.kindOf x=some .free)/\∃c,env.cells.lookup x=some c/\h.IsCell c (some u))
structure Cx.Ok(X:Cx):Prop where
 mod:Mod X.K X.mg X.base
 kind:X.env.scope.kind=.function
 glob:X.env.globals=mainGlobals
 blt:X.env.builtins=builtinsNs
 above:X.s₀.heap.objs.size<=X.env.locals
 inj:∀x y c,X.env.cells.lookup x=some c->X.env.cells.lookup y=some c->x=y
 has:∀x,(X.env.kindOf x=some .cell\/X.env.kindOf x=some .free)->∃c,X.env.cells.lookup x=some c
 wC:∀x c,X.fn x=true->X.env.cells.lookup x=some c->X.s₀.heap.objs.size<=c
 hd:X.calm=true->X.A.handled=none
 frames:X.A.frames=some X.stack
 stk:X.stack=X.outer\/(X.stack=X.env :: X.outer/\X.env.frame=some X.env.locals)
 EC:∀b∈X.ex,b≠X.env.locals/\∀x c,X.env.cells.lookup x=some c->c≠b
 bs:∀b o,X.base.get? b=some o->X.s₀.heap.get? b=some o/\X.H₀ b=none
 rJ:X.base.objs.size<=X.s₀.heap.objs.size
 qv:∀b o,X.base.get? b=some o->b∉X.ex
 qw:∀b∈X.ex,b∉X.fs
 jd:X.s₀.heap.FunFrames X.base X.outer
 t6:∀b∈X.fs,X.H₀ b=none
structure Inv(X:Cx)(pins:List (Addr×Obj))(σ:List (Option V))(H:Hp)(s:Shared):Prop where
 ok:X.Ok
 os:s.os=X.s₀.os
 bare:AllBare s.gens
 base:Un X.fs X.ex X.H₀ H X.s₀.heap s.heap
 loc:∃m,s.heap.Ns X.env.locals m/\∀(i:Nat) (x:Str) (v:V),X.N[i]?=some x->σ[i]?=some (some v)->zR X.env.scope x->∃u,RelV v u/\Look X.env s.heap m x u
 cell:∀x c,X.env.cells.lookup x=some c->∃v,s.heap.IsCell c v
 free:H X.env.locals=none
 gW:∀x c,X.env.cells.lookup x=some c->H c=none
 pin:∀p∈X.pn++pins,s.heap.get? p.1=some p.2/\H p.1=none/\p.1≠X.env.locals/\p.1∉X.fs/\∀v,p.2.data≠.cell v
 hok:fJ X.prog X.w H s.heap
 len:σ.length=X.N.length
section
variable{X:Cx}{pins:List (Addr×Obj)}{σ:List (Option V)}{H H':Hp}{s:Shared}{h':Heap}
def Cx.Ok.R5(ok:X.Ok){b:Addr}{o:Obj}(e:X.base.get? b=some o):b∉X.fs:=λhb=>by
 have:=(ok.jd.mem hb).1;rw[e]at this;cases this
theorem Inv.bs(I:Inv X pins σ H s):∀b o,X.base.get? b=some o->s.heap.get? b=some o/\H b=none:=λb o e=>
 ⟨I.base.keep b o (I.ok.bs b o e).1 (I.ok.bs b o e).2 (I.ok.R5 e) (I.ok.qv b o e),I.base.free b o (I.ok.bs b o e).1 (I.ok.bs b o e).2 (I.ok.qv b o e)⟩
def Inv.bk(I:Inv X pins σ H s):∀b o,X.base.get? b=some o->s.heap.get? b=some o:=λb o e=>(I.bs b o e).1
theorem Inv.mod(I:Inv X pins σ H s):Mod X.K X.mg X.base:=I.ok.mod
def Inv.rK(I:Inv X pins σ H s):X.K.In s.heap:=I.ok.mod.EB.keeps I.bk
theorem Inv.lt(I:Inv X pins σ H s):X.env.locals<s.heap.objs.size:=let ⟨_,hn,_⟩:=I.loc;hn.lt
def Inv.sz(I:Inv X pins σ H s):X.s₀.heap.objs.size<=s.heap.objs.size:=WV I.ok.above (Zx I.lt)
def Inv.R6(I:Inv X pins σ H s){a:Addr}(h:s.heap.objs.size<=a):a∉X.fs:=λhb=>by
 obtain⟨_,o,ho,_⟩:=I.ok.jd.mem hb;exact absurd (Rt (Ur ho) (WV I.sz h)) (X4 _)
def Inv.t7(I:Inv X pins σ H s):∀x c,X.env.cells.lookup x=some c->c≠X.env.locals:=λx c e z=>by
 obtain⟨v,o,ho,hd⟩:=I.cell x c e;obtain⟨m,⟨o',es,ep,ho',hd',_⟩,_⟩:=I.loc;rw[z,ho']at ho;cases ho;rw[hd']at hd;cases hd
theorem Inv.jd(I:Inv X pins σ H s):s.heap.FunFrames X.base X.outer:=by
 have all:∀(l:List Env),(∀b∈frs l,b∈X.fs)->X.s₀.heap.FunFrames X.base l->s.heap.FunFrames X.base l:=by
  intro l;induction l with
  |nil=>intro _ _;trivial
  |cons env r ih=>
   intro hs hl;obtain⟨hk,⟨L,o,hf,hn,ho,hd⟩,hr⟩:=hl;have hL:L∈X.fs:=hs L (by unfold frs;rw[X6,hf];exact XC);obtain⟨sl,e⟩:=I.base.slot L o ho (I.ok.t6 L hL) hL λz=>I.ok.qw L z hL;exact⟨hk,⟨L,_,hf,hn,e,hd⟩,ih (λb hb=>hs b (by unfold frs;rw[X6,hf];exact W9 _ hb)) hr⟩
 exact all X.outer (λ_ hb=>hb) I.ok.jd
theorem Inv.stack(I:Inv X pins σ H s):s.heap.FunFrames X.base X.stack:=by
 rcases I.ok.stk with e|⟨e,hf⟩
 .rw[e];exact I.jd
 .rw[e];obtain⟨m,hn,_⟩:=I.loc;refine .cons (by rw[I.ok.kind];decide) hf hn ?_ I.jd;exact Heap.get?_none_of_le (WV I.ok.rJ I.ok.above)
def Inv.t8(I:Inv X pins σ H s):∀b∈frs X.stack,b∈X.env.locals :: X.fs:=λb hb=>by
 rcases I.ok.stk with e|⟨e,hf⟩
 .rw[e]at hb;exact W9 _ hb
 .rw[e]at hb;unfold frs at hb;rw[X6,hf]at hb;exact hb
def Inv.wD(I:Inv X pins σ H s):∀b∈frs X.stack,H b=none:=λb hb=>by
 rcases List.mem_cons.mp (I.t8 b hb)with e|hb
 .rw[e];exact I.free
 .obtain⟨_,o,ho,_⟩:=I.ok.jd.mem hb;exact I.base.free b o ho (I.ok.t6 b hb) λz=>I.ok.qw b z hb
def Inv.step{g':Array GenState}{t':Nat}{d':Drawn}{ch:List Addr}(I:Inv X pins σ H s)
  (hch:∀b∈ch,(b∈X.ex\/X.s₀.heap.objs.size<=b)/\b≠X.env.locals/\(∀x c,X.env.cells.lookup x=some c->c≠b)/\∀p∈X.pn++pins,p.1≠b)
  (keep:∀b o,b≠X.env.locals->b∉X.fs->b∉ch->s.heap.get? b=some o->H b=none->h'.get? b=some o)
  (slot:∀b o,b≠X.env.locals->b∈X.fs->b∉ch->s.heap.get? b=some o->H b=none->∃sl,h'.get? b=some { o with slots:=sl }) (free:∀b o,b∉ch->s.heap.get? b=some o->H b=none->H' b=none)
  (there:∀b o,b∉ch->s.heap.get? b=some o->∃o',h'.get? b=some o')
  (tups:∀b xs,H b=some (.tup xs)->H' b=some (.tup xs)) (kT:∀b o u,H b=some (.bW o u)->H' b=some (.bW o u)) (mh:∀b ps,H b=some (.tY ps)->∃more,H' b=some (.tY (ps++more)))
  (ns:∀m,s.heap.Ns X.env.locals m->h'.Ns X.env.locals m) (hok:fJ X.prog X.w H' h') (hg:AllBare g') :
  Inv X pins σ H' { s with heap:=h',gens:=g',drawn:=d',toks:=t' }:=by
 have QJ:∀b o,X.s₀.heap.get? b=some o->b≠X.env.locals:=λb o e=>WU (Rt (Ur e) I.ok.above);have ED:∀b o,X.s₀.heap.get? b=some o->b∉X.ex->b∉ch:=λb o e hx hb=>by
  rcases(hch b hb).1 with z|z
  .exact hx z
  .exact absurd (Rt (Ur e) z) (X4 _)
 have cellK:∀x c,X.env.cells.lookup x=some c->∀v,s.heap.IsCell c v->h'.IsCell c v:=λx c e v ⟨o,ho,hd⟩=>by
  have zS:c∉ch:=λz=>(hch c z).2.2.1 x c e rfl;by_cases hc:c∈X.fs
  .obtain⟨sl,q⟩:=slot c o (I.t7 x c e) hc zS ho (I.gW x c e);exact⟨_,q,hd⟩
  .exact⟨o,keep c o (I.t7 x c e) hc zS ho (I.gW x c e),hd⟩
 refine⟨I.ok,I.os,hg,⟨λb o e n hb hx=>?_,λb o e n hb hx=>?_,λb o e n hx=>?_,λb o e hx=>?_,λb xs e=>tups b xs (I.base.tups b xs e),λb o xs e=>kT b o xs (I.base.kT b o xs e),λb ps e=>?_⟩,?_,λx c e=>?_,?_,λx c e=>?_,λp hp=>?_,hok,I.len⟩
 .exact keep b o (QJ b o e) hb (ED b o e hx) (I.base.keep b o e n hb hx) (I.base.free b o e n hx)
 .obtain⟨sl,e1⟩:=I.base.slot b o e n hb hx;obtain⟨Us,e2⟩:=slot b _ (QJ b o e) hb (ED b o e hx) e1 (I.base.free b o e n hx);exact⟨Us,e2⟩
 .obtain⟨o',e1⟩:=I.base.there b o e hx;exact free b o' (ED b o e hx) e1 (I.base.free b o e n hx)
 .obtain⟨o',e1⟩:=I.base.there b o e hx;exact there b o' (ED b o e hx) e1
 .obtain⟨m1,e1⟩:=I.base.mh b ps e;obtain⟨m2,e2⟩:=mh b _ e1;exact⟨m1++m2,by rw[e2,Array.append_assoc]⟩
 .obtain⟨m,hn,hl⟩:=I.loc;refine⟨m,ns m hn,λi x v e1 e2 e3=>?_⟩;obtain⟨u,r,l⟩:=hl i x v e1 e2 e3;refine⟨u,r,?_⟩;rcases l with l|⟨k,c,e,z⟩
  .exact .inl l
  .exact .inr ⟨k,c,e,cellK x c e _ z⟩
 .obtain⟨v,z⟩:=I.cell x c e;exact⟨v,cellK x c e v z⟩
 .obtain⟨m,⟨o,_,_,ho,_⟩,_⟩:=I.loc;exact free _ o (λz=>(hch _ z).2.1 rfl) ho I.free
 .obtain⟨v,o,ho,hd⟩:=I.cell x c e;exact free c o (λz=>(hch c z).2.2.1 x c e rfl) ho (I.gW x c e)
 .obtain⟨e,n,ne,nf,d⟩:=I.pin p hp;have zS:p.1∉ch:=λz=>(hch p.1 z).2.2.2 p hp rfl;exact⟨keep p.1 p.2 ne nf zS e n,free p.1 p.2 zS e n,ne,nf,d⟩
def Inv.un{t':Nat}(I:Inv X pins σ H s)(u:Un X.fs [] H H' s.heap h')(hok:fJ X.prog X.w H' h'):Inv X pins σ H' { s with heap:=h',toks:=t' }:=by
 obtain⟨m,⟨o,es,ep,ho,r⟩,_⟩:=id I.loc;obtain⟨sl,hL⟩:=u.any ho I.free (by simp);exact I.step (g':=s.gens) (d':=s.drawn) (ch:=[]) (λ_ z=>nomatch z) (λb o _ hb _ e n=>u.keep b o e n hb (by simp)) (λb o _ hb _ e n=>u.slot b o e n hb (by simp)) (λb o _ e n=>u.free b o e n (by simp)) (λb o _ e=>u.there b o e (by simp)) u.tups u.kT u.mh (λm' hm=>by
  obtain⟨o',es',IZ,ho',r'⟩:=hm;rw[ho]at ho';cases ho';exact⟨_,es',IZ,hL,r'⟩) hok I.bare
def Inv.call{g':Array GenState}{t':Nat}{d':Drawn}{ch:List Addr}(I:Inv X pins σ H s)(u:Un (frs X.stack) ch H H' s.heap h')(hok:fJ X.prog X.w H' h')(hg:AllBare g')
  (hch:∀b∈ch,(b∈X.ex\/X.s₀.heap.objs.size<=b)/\b≠X.env.locals/\(∀x c,X.env.cells.lookup x=some c->c≠b)/\∀p∈X.pn++pins,p.1≠b) :
  Inv X pins σ H' { s with heap:=h',gens:=g',drawn:=d',toks:=t' }:=by
 obtain⟨m,⟨o,es,ep,ho,r⟩,_⟩:=id I.loc;obtain⟨sl,hL⟩:=u.any ho I.free λz=>(hch _ z).2.1 rfl;exact I.step (ch:=ch) hch (λb o hL hb hc e n=>u.keep b o e n (λz=>(List.mem_cons.mp (I.t8 b z)).elim hL hb) hc) (λb o _ _ hc e n=>u.any e n hc) (λb o hc e n=>u.free b o e n hc) (λb o hc e=>u.there b o e hc) u.tups u.kT u.mh (λm' hm=>by
  obtain⟨o',es',IZ,ho',r'⟩:=hm;rw[ho]at ho';cases ho';exact⟨_,es',IZ,hL,r'⟩) hok hg
def Inv.turned{t':Nat}{it:Addr}(I:Inv X pins σ H s)(k:∀b o,b≠it->s.heap.get? b=some o->h'.get? b=some o)(hn:H it=none)(hL:it≠X.env.locals)
  (h1:it∈X.ex\/X.s₀.heap.objs.size<=it) (h2:∀x c,X.env.cells.lookup x=some c->c≠it) (h3:∀p∈X.pn++pins,p.1≠it):Inv X pins σ H { s with heap:=h',toks:=t' }:=by
 have QK:∀b u,H b=some u->b≠it:=λb u e z=>by rw[z,hn]at e;cases e
 refine I.step (g':=s.gens) (d':=s.drawn) (ch:=[it]) (λb hb=>?_) (λb o _ _ hc e _=>k b o (λz=>hc (by simp[z])) e) (λb o _ _ hc e _=>⟨o.slots,k b o (λz=>hc (by simp[z])) e⟩) (λ_ _ _ _ n=>n)
  (λb o hc e=>⟨o,k b o (λz=>hc (by simp[z])) e⟩) (λ_ _ e=>e) (λ_ _ _ e=>e) (λb ps e=>⟨#[],by rw[e];simp⟩) (λm hm=>?_) (λb u e=>?_) I.bare
 .have e:b=it:=by simpa using hb
  subst e;exact⟨h1,hL,h2,h3⟩
 .obtain⟨o,es,ep,ho,r⟩:=hm;exact⟨o,es,ep,k _ o (XI hL) ho,r⟩
 .refine(I.hok b u e).stay (λc v hc q=>k c v ?_ q) (λ_ q=>q) λ_ _ q=>q;rcases hc with z|z
  .rw[z];exact QK b u e
  .exact QK c _ z
def Inv.tok(I:Inv X pins σ H s)(t:Nat):Inv X pins σ H { s with toks:=t }:=I.un (h':=s.heap) (t':=t) Un.refl I.hok
theorem Inv.kept{t':Nat}(I:Inv X pins σ H s)(k:∀b u,s.heap.get? b=some u->h'.get? b=some u):Inv X pins σ H { s with heap:=h',toks:=t' }:=I.un (Un.kept k) (I.hok.kept k)
theorem Inv.laid{a:Addr}{o:HO}{t':Nat}(I:Inv X pins σ H s)(k:∀b u,s.heap.get? b=some u->h'.get? b=some u)(hp:s.heap.objs.size<=a)(new:fu X.prog X.w (upd H a o) h' a o) :
  Inv X pins σ (upd H a o) { s with heap:=h',toks:=t' }:=I.un (Un.laid k hp (I.hok.fresh hp)) (I.hok.laid k hp new)
theorem Inv.write{x e:Addr}{o:HO}{t':Nat}(I:Inv X pins σ H s)(mu:Ez (H x))(he:e=x\/H e=some (.own x))(k:∀b u,b≠e->s.heap.get? b=some u->h'.get? b=some u)(wA:∃u,h'.get? e=some u)
  (new:fu X.prog X.w (upd H x o) h' x o):Inv X pins σ (upd H x o) { s with heap:=h',toks:=t' }:=I.un (Un.write mu he k wA) (I.hok.write mu he k wA new)
def Inv.wF{EE:List (Addr×Obj)}(I:Inv X pins σ H s)(h:∀p∈EE,s.heap.get? p.1=some p.2/\H p.1=none/\p.1≠X.env.locals/\p.1∉X.fs/\∀v,p.2.data≠.cell v):Inv X EE σ H s:=
 ⟨I.ok,I.os,I.bare,I.base,I.loc,I.cell,I.free,I.gW,λp hp=>(List.mem_append.mp hp).elim (λz=>I.pin p (Z4 _ z)) (h p),I.hok,I.len⟩
def t9{N:List Str}(hN:N.Nodup){i j:Nat}{x:Str}(a:N[i]?=some x)(b:N[j]?=some x):i=j:=by
 obtain⟨h1,e1⟩:=List.getElem?_eq_some_iff.mp a;obtain⟨h2,e2⟩:=List.getElem?_eq_some_iff.mp b;exact(List.getElem_inj hN).mp (e1.trans e2.symm)
def rL{M:Model}{A:Around}{E:Value->Shared->Prop}{i:Nat}{x:Str}{v:V}{u:Value}{Q:Unit->Shared->Prop}(I:Inv X pins σ H s)(hN:X.N.Nodup)(hi:X.N[i]?=some x)(hx:Loc X.env.scope x)(r:RelV v u)
  (h:∀s',Inv X pins (σ.set i (some v)) H s'->(∃a,Heap.SameBut a s.heap s'.heap/\(a=X.env.locals\/X.env.cells.lookup x=some a))->Q () s') (hf:X.fn x=true\/X.env.scope.names.lookup x=some .local:=by first|exact .inl rfl|exact .inr rfl|assumption):wpAny M A (storeName X.env x u) Q E s:=by
 obtain⟨m,hn,hl⟩:=id I.loc;have hcls:(X.env.scope.kind==.class || (X.env.scope.kind==.module&&X.env.locals != X.env.globals))=false:=by rw[I.ok.kind];rfl
 have I0:i<σ.length:=by rw[I.len];exact(List.getElem?_eq_some_iff.mp hi).1
 have t7:=I.t7;have tracked:∀{a:Addr} {h':Heap},(∃o,s.heap.get? a=some o/\H a=none)->Heap.SameBut a s.heap h'->fJ X.prog X.w H h':=λ{a h'} ha hs b ob e=>by
  obtain⟨_,_,hfree⟩:=ha;refine(I.hok b ob e).stay (λc w' hc q=>(hs.2 c ?_).trans q) (λ_ q=>q) λ_ _ q=>q;rintro rfl;rcases hc with rfl|hc
  .rw[hfree]at e;cases e
  .rw[hfree]at hc;cases hc
 rcases hx with hk|hk
 .refine wpAny_storeName_local hk hn (λh' hn' hs=>?_) hcls;obtain⟨oL,_,_,zT,_⟩:=id hn;refine h _ ⟨I.ok,I.os,I.bare,⟨λb o e n hb hx=>?_,λb o e n hb hx=>?_,I.base.free,λb o e hx=>?_,I.base.tups,I.base.kT,I.base.mh⟩,⟨_,hn',λj y v' e1 e2 e3=>?_⟩,λy c e=>?_,I.free,I.gW,λp hp=>?_,tracked ⟨oL,zT,I.free⟩ hs,by simpa using I.len⟩ ⟨_,hs,.inl rfl⟩
  .exact(hs.2 b (WU (Rt (Ur e) I.ok.above))).trans (I.base.keep b o e n hb hx)
  .obtain⟨sl,e1⟩:=I.base.slot b o e n hb hx;exact⟨sl,(hs.2 b (WU (Rt (Ur e) I.ok.above))).trans e1⟩
  .obtain⟨o',e1⟩:=I.base.there b o e hx;exact⟨o',(hs.2 b (WU (Rt (Ur e) I.ok.above))).trans e1⟩
  .by_cases hj:j=i
   .subst hj;rw[hi]at e1;cases e1;rw[WS I0]at e2;cases e2;exact⟨u,r,.inl ⟨hk,by simp⟩⟩
   .rw[Vo (XI hj)]at e2;obtain⟨u',r',q⟩:=hl j y v' e1 e2 e3;refine⟨u',r',?_⟩;rcases q with ⟨k,e⟩|⟨k,c,e,z⟩
    .refine .inl ⟨k,?_⟩;have:y≠x:=λe=>hj (t9 hN e1 (e▸hi));simp[this,e]
    .exact .inr ⟨k,c,e,z.sameBut hs (t7 y c e)⟩
  .obtain⟨w',z⟩:=I.cell y c e;exact⟨w',z.sameBut hs (t7 y c e)⟩
  .obtain⟨e,n,ne,nf,d⟩:=I.pin p hp;exact⟨(hs.2 p.1 ne).trans e,n,ne,nf,d⟩
 .have hfn:X.fn x=true:=by
   rcases hf with z|z
   .exact z
   .rw[z]at hk;cases hk
  obtain⟨c,hc⟩:=I.ok.has x (.inl hk);obtain⟨w',z⟩:=I.cell x c hc;refine wpAny_storeName_cell I.ok.kind hk hc z (λh' hc' hs=>?_);obtain⟨oc,hoc,R7⟩:=id z;refine h { s with heap:=h' } ⟨I.ok,I.os,I.bare,⟨λb o e n hb hx=>?_,λb o e n hb hx=>?_,I.base.free,λb o e hx=>?_,I.base.tups,I.base.kT,I.base.mh⟩,⟨m,hn.sameBut hs (XI (t7 x c hc)),λj y v' e1 e2 e3=>?_⟩,λy c' e=>?_,I.free,I.gW,λp hp=>?_,tracked ⟨oc,hoc,I.gW x c hc⟩ hs,by simpa using I.len⟩ ⟨c,hs,.inr hc⟩
  .exact(hs.2 b (WU (Rt (Ur e) (I.ok.wC x c hfn hc)))).trans (I.base.keep b o e n hb hx)
  .obtain⟨sl,e1⟩:=I.base.slot b o e n hb hx;exact⟨sl,(hs.2 b (WU (Rt (Ur e) (I.ok.wC x c hfn hc)))).trans e1⟩
  .obtain⟨o',e1⟩:=I.base.there b o e hx;exact⟨o',(hs.2 b (WU (Rt (Ur e) (I.ok.wC x c hfn hc)))).trans e1⟩
  .by_cases hj:j=i
   .subst hj;rw[hi]at e1;cases e1;rw[WS I0]at e2;cases e2;exact⟨u,r,.inr ⟨.inl hk,c,hc,hc'⟩⟩
   .rw[Vo (XI hj)]at e2;obtain⟨u',r',q⟩:=hl j y v' e1 e2 e3;refine⟨u',r',?_⟩;rcases q with q|⟨k,c',e,z'⟩
    .exact .inl q
    .refine .inr ⟨k,c',e,z'.sameBut hs ?_⟩;rintro rfl;exact hj (t9 hN e1 (I.ok.inj _ _ _ e hc▸hi))
  .by_cases hcc:c'=c
   .subst hcc;exact⟨_,hc'⟩
   .obtain⟨w2,z2⟩:=I.cell y c' e;exact⟨w2,z2.sameBut hs hcc⟩
  .obtain⟨e,n,ne,nf,d⟩:=I.pin p hp;refine⟨(hs.2 p.1 ?_).trans e,n,ne,nf,d⟩;intro q;rw[q,hoc]at e;have q':oc=p.2:=Er e;exact d w' (by rw[<-q'];exact R7)
def ua{M:Model}{A:Around}{E:Value->Shared->Prop}{i:Nat}{x:Str}{v:V}{u:Value}{Q:Unit->Shared->Prop}(I:Inv X pins σ H s)(hN:X.N.Nodup)(hi:X.N[i]?=some x)(hx:Loc X.env.scope x)(r:RelV v u)
  (h:∀s',Inv X pins (σ.set i (some v)) H s'->Q () s') (hf:X.fn x=true\/X.env.scope.names.lookup x=some .local:=by first|exact .inl rfl|exact .inr rfl|assumption):wpAny M A (storeName X.env x u) Q E s:=
 rL I hN hi hx r (λs' I' _=>h s' I') hf
def Inv.Oe{s':Shared}{ch:List Addr}(I:Inv X pins σ H s)(ho:s'.os=s.os)(u:Un (frs X.stack) ch H H' s.heap s'.heap)(hok:fJ X.prog X.w H' s'.heap)(hg:AllBare s'.gens)
  (hch:∀b∈ch,(b∈X.ex\/X.s₀.heap.objs.size<=b)/\b≠X.env.locals/\(∀x c,X.env.cells.lookup x=some c->c≠b)/\∀p∈X.pn++pins,p.1≠b):Inv X pins σ H' s':=by
 obtain⟨h',g',d',t',o'⟩:=s';have e:o'=s.os:=ho;subst e;exact I.call (g':=g') (t':=t') (d':=d') u hok hg hch
end
abbrev XK:=Value->Option Addr->Hp->Prop
abbrev St:=List (Option V)
abbrev VK:=V->Hp->Prop
abbrev TE:=St->Hp->VK->Prop
abbrev TT:=St->Hp->(Bool->Hp->Prop)->Prop
abbrev TA:=St->Hp->(List V->Hp->Prop)->Prop
structure Ends where
 nx:St->Hp->Prop
 rt:VK
 bk:St->Hp->Prop:=λ_ _=>False
 ct:St->Hp->Prop:=λ_ _=>False
abbrev TS:=Ends->St->Hp->Prop
noncomputable def EP(X:Cx)(pins:List (Addr×Obj))(σ:St)(Q:VK)(u:Value)(s':Shared):Prop:=∃v H',Inv X pins σ H' s'/\RelV v u/\Q v H'
noncomputable def TP(X:Cx)(pins:List (Addr×Obj))(σ:St)(Q:Bool->Hp->Prop)(b:Bool)(s':Shared):Prop:=∃H',Inv X pins σ H' s'/\Q b H'
noncomputable def AP(X:Cx)(pins:List (Addr×Obj))(σ:St)(Q:List V->Hp->Prop)(us:List Value)(s':Shared):Prop:=∃vs H',Inv X pins σ H' s'/\Vals vs us/\Q vs H'
noncomputable def SP(X:Cx)(pins:List (Addr×Obj))(D:Ends)(f:Flow)(s':Shared):Prop:=
 match f with
 |.next=>∃σ' H',Inv X pins σ' H' s'/\D.nx σ' H'
 |.brk=>∃σ' H',Inv X pins σ' H' s'/\D.bk σ' H'
 |.cont=>∃σ' H',Inv X pins σ' H' s'/\D.ct σ' H'
 |.ret u=>∃v σ' H',Inv X pins σ' H' s'/\RelV v u/\D.rt v H'
noncomputable def PE(X:Cx)(e:Expr)(t:TE):Prop:=
 ∀(pins:List (Addr×Obj)) (s:Shared) (σ:St) (H:Hp) (Q:VK),Inv X pins σ H s->t σ H Q->wpAny (model X.prog X.w) X.A (eval e X.env) (EP X pins σ Q) X.xe s
noncomputable def PT(X:Cx)(e:Expr)(t:TT):Prop:=
 ∀(pins:List (Addr×Obj)) (s:Shared) (σ:St) (H:Hp) (Q:Bool->Hp->Prop),Inv X pins σ H s->t σ H Q->wpAny (model X.prog X.w) X.A (isTrue e X.env (eval e X.env)) (TP X pins σ Q) X.xe s
noncomputable def PW(X:Cx)(e:Expr)(t:TT):Prop:=
 ∀(whole:Sem Value) (pins:List (Addr×Obj)) (s:Shared) (σ:St) (H:Hp) (Q:Bool->Hp->Prop),Inv X pins σ H s->t σ H Q->wpAny (model X.prog X.w) X.A (isTrue e X.env whole) (TP X pins σ Q) X.xe s
def PW.pt{X:Cx}{e:Expr}{t:TT}(h:PW X e t):PT X e t:=h _
noncomputable def PA(X:Cx)(es:List Expr)(t:TA):Prop:=
 ∀(pos:Pos) (pins:List (Addr×Obj)) (s:Shared) (σ:St) (H:Hp) (Q:List V->Hp->Prop),Inv X pins σ H s->t σ H Q->wpAny (model X.prog X.w) X.A (spliced (backTo pos (starEach es X.env))) (AP X pins σ Q) X.xe s
noncomputable def PS(X:Cx)(st:Stmt)(t:TS):Prop:=
 ∀(pins:List (Addr×Obj)) (s:Shared) (σ:St) (H:Hp) (D:Ends),Inv X pins σ H s->t D σ H->wpAny (model X.prog X.w) X.A (exec st X.env) (SP X pins D) X.xe s
noncomputable def iD(X:Cx)(st:List Stmt)(t:TS):Prop:=
 ∀(pins:List (Addr×Obj)) (s:Shared) (σ:St) (H:Hp) (D:Ends),Inv X pins σ H s->t D σ H->wpAny (model X.prog X.w) X.A (execs st X.env) (SP X pins D) X.xe s
def bQ{α:Type}{t:Sem α}{Q Q':α->Shared->Prop}{M:Model}{A:Around}{E:Value->Shared->Prop}{s:Shared}(h:wpAny M A t Q E s)(hQ:∀a s,Q a s->Q' a s):wpAny M A t Q' E s:=Xx h hQ λ_ _ x=>x
section
variable{X:Cx}
def bin{a b:Expr}{ta tb:TE}(ha:PE X a ta)(hb:PE X b tb){pins:List (Addr×Obj)}{s:Shared}{σ:St}{H:Hp}{R:V->V->Hp->Prop}(I:Inv X pins σ H s)(h:ta σ H λx H1=>tb σ H1 λy H2=>R x y H2)
  {α:Type} {Q:α->Shared->Prop} {f:Value->Value->Sem α}
  (hf:∀v u s2 x y H2,Inv X pins σ H2 s2->RelV x v->RelV y u->R x y H2->wpAny (model X.prog X.w) X.A (f v u) Q X.xe s2) :
  wpAny (model X.prog X.w) X.A (eval a X.env) (λv s₁=>wpAny (model X.prog X.w) X.A (eval b X.env) (λu s₂=>wpAny (model X.prog X.w) X.A (f v u) Q X.xe s₂) X.xe s₁) X.xe s:=by
 refine bQ (ha pins s σ H _ I h) λv s1 ⟨x,H1,I1,r1,q1⟩=>?_;refine bQ (hb pins s1 σ H1 _ I1 q1) λu s2 ⟨y,H2,I2,r2,q2⟩=>?_;exact hf v u s2 x y H2 I2 r1 r2 q2
noncomputable def Ja(i:Nat):TE:=λσ H Q=>∃v,σ[i]?=some (some v)/\Q v H
noncomputable def tC(v:V):TE:=λ_ H Q=>Q v H
def zU {i:Nat}{x:Str}{pos:Pos}(hN:X.N[i]?=some x) (hv:zR X.env.scope x) (hd:(x==("__debug__" : Str))=false:=by decide) (hcd:(x==("__classdict__" : Str))=false:=by decide):PE X (.Name x pos) (Ja i):=by
 intro pins s σ H Q I h;obtain⟨v,e,h⟩:=h;obtain⟨m,hn,hl⟩:=I.loc;obtain⟨u,r,l⟩:=hl i x v hN e hv;have fin:EP X pins σ Q u s:=⟨v,H,I,r,h⟩
 rcases l with ⟨hk,hm⟩|⟨hk,c,hc,hcell⟩
 .exact wpAny_Name (wpAny_loadName_local I.ok.kind hk hn hm fin) hd
 .rcases hk with hk|hk
  .exact wpAny_Name (wpAny_loadName_cell I.ok.kind hk hc hcell fin) hd
  .exact wpAny_Name (wpAny_loadName_free I.ok.kind hk hc hcell fin hcd) hd
def Jb{i j pos}:PE X (.Constant (.int i) j pos) (tC (.int i)):=λ_ _ _ H _ I h=>wpAny_Constant_int ⟨.int i,H,I.tok _,⟨_,rfl⟩,h⟩
def Of{b j pos}:PE X (.Constant (.bool b) j pos) (tC (.bl b)):=λ_ _ _ H _ I h=>Constant_bool ⟨.bl b,H,I,rfl,h⟩
def Jc{j pos}:PE X (.Constant .none j pos) (tC .aU):=λ_ _ _ H _ I h=>Constant_none ⟨.aU,H,I,rfl,h⟩
def Jd{x j pos}:PE X (.Constant (.str x) j pos) (tC (.str x)):=λ_ _ _ H _ I h=>Calls.Constant_str ⟨.str x,H,I.tok _,⟨_,rfl⟩,h⟩
noncomputable def Gl(X:Cx)(x:Str):Prop:=X.env.kindOf x=some .globalImplicit
def wG{E:Value->Shared->Prop}{pins:List (Addr×Obj)}{s:Shared}{σ:St}{H:Hp}{x:Str}{u:Value}{pos:Pos}{Q:Value->Shared->Prop}(I:Inv X pins σ H s)(hg:Gl X x)(hm:X.mg x=some u)(h:Q u s)
  (hd:(x==("__debug__" : Str))=false:=by decide):wpAny (model X.prog X.w) X.A (eval (.Name x pos) X.env) Q E s:=
 Zl I.ok.kind hg (Calls.loadGlobal_global (by rw[I.ok.glob];exact I.mod.glob.keeps I.bk) hm h) hd
def gX{E:Value->Shared->Prop}{pins:List (Addr×Obj)}{s:Shared}{σ:St}{H:Hp}{x:Str}{u:Value}{pos:Pos}{Q:Value->Shared->Prop}(I:Inv X pins σ H s)(hg:Gl X x)(hm:X.mg x=none)(hv:bootBuiltins x=some u)(h:Q u s)
  (hn:x≠"__name__" :=by decide) (hd:(x==("__debug__" : Str))=false:=by decide):wpAny (model X.prog X.w) X.A (eval (.Name x pos) X.env) Q E s:=by
 obtain⟨mb,h1,h2⟩:=I.mod.blt;exact Zl I.ok.kind hg (Calls.loadGlobal_builtin (by rw[I.ok.glob];exact I.mod.glob.keeps I.bk) hm (by rw[I.ok.blt];exact h1.keeps I.bk) ((h2 x hn).trans hv) h) hd
def Gg {x:Str}{v:V}{u:Value}{pos:Pos}(hg:Gl X x) (hm:X.mg x=some u) (r:RelV v u) (hd:(x==("__debug__" : Str))=false:=by decide):PE X (.Name x pos) (tC v):=
 λ_ _ _ H _ I h=>wG I hg hm ⟨v,H,I,r,h⟩ hd
variable{a b:Expr}{ta tb:TE}{pos:Pos}
variable{tA EF:TT}{rest:List Expr}
noncomputable def R8(t u:TT):TT:=λσ H Q=>t σ H λc H1=>if c=true then u σ H1 Q else Q false H1
noncomputable def Ut(t u:TT):TT:=λσ H Q=>t σ H λc H1=>if c=true then Q true H1 else u σ H1 Q
noncomputable def R9(t:TT):TT:=λσ H Q=>t σ H λc H1=>Q (!c) H1
def Gh(ha:PT X a tA):PW X (.BoolOp .And [a] pos) tA:=by
 intro wh pins s σ H Q I h;refine isTrue_and (bQ (ha pins s σ H Q I h) λc s1 e=>?_);cases c with
 |true=>exact isTrue_and_nil e
 |false=>exact e
def Je(ha:PT X a tA):PW X (.BoolOp .Or [a] pos) tA:=by
 intro wh pins s σ H Q I h;refine isTrue_or (bQ (ha pins s σ H Q I h) λc s1 e=>?_);cases c with
 |false=>exact isTrue_or_nil e
 |true=>exact e
def Jf(ha:PT X a tA)(hb:PW X (.BoolOp .And (b :: rest) pos) EF):PW X (.BoolOp .And (a :: b :: rest) pos) (R8 tA EF):=by
 intro wh pins s σ H Q I h;refine isTrue_and (bQ (ha pins s σ H _ I h) λc s1 ⟨H1,I1,q1⟩=>?_);cases c with
 |true=>exact hb wh pins s1 σ H1 Q I1 q1
 |false=>exact⟨H1,I1,q1⟩
def Og(ha:PT X a tA)(hb:PW X (.BoolOp .Or (b :: rest) pos) EF):PW X (.BoolOp .Or (a :: b :: rest) pos) (Ut tA EF):=by
 intro wh pins s σ H Q I h;refine isTrue_or (bQ (ha pins s σ H _ I h) λc s1 ⟨H1,I1,q1⟩=>?_);cases c with
 |true=>exact⟨H1,I1,q1⟩
 |false=>exact hb wh pins s1 σ H1 Q I1 q1
def Jg(ha:PT X a tA):PT X (.UnaryOp .Not a pos) (R9 tA):=by
 intro pins s σ H Q I h;exact isTrue_not (ha pins s σ H (λc H1=>Q (!c) H1) I h)
noncomputable def Oh(ta tb:TE):TE:=λσ H Q=>ta σ H λx H1=>∃c,x=.bl c/\if c=true then tb σ H1 Q else Q (.bl false) H1
def Jh{op}{t:TE}(h:PE X a t):PE X (.BoolOp op [a] pos) t:=λpins s σ H Q I hw=>BoolOp_one (h pins s σ H Q I hw)
def Ji(ha:PE X a ta)(hb:PE X (.BoolOp .And (b :: rest) pos) tb):PE X (.BoolOp .And (a :: b :: rest) pos) (Oh ta tb):=by
 intro pins s σ H Q I h;refine BoolOp_and (bQ (ha pins s σ H _ I h) λv s1 ⟨x,H1,I1,r1,q1⟩=>?_);obtain⟨c,rfl,q1⟩:=q1;cases r1;refine Zm ?_;cases c with
 |true=>exact hb pins s1 σ H1 Q I1 q1
 |false=>exact⟨.bl false,H1,I1,rfl,q1⟩
noncomputable def Uu(t:TT)(ta tb:TE):TE:=λσ H Q=>t σ H λc H1=>if c=true then ta σ H1 Q else tb σ H1 Q
def Cc{c:Expr}(hc:PT X c tA)(ha:PE X a ta)(hb:PE X b tb):PE X (.IfExp c a b pos) (Uu tA ta tb):=by
 intro pins s σ H Q I h;refine wpAny_IfExp (bQ (hc pins s σ H _ I h) λd s1 ⟨H1,I1,q1⟩=>?_);cases d with
 |true=>exact ha pins s1 σ H1 Q I1 q1
 |false=>exact hb pins s1 σ H1 Q I1 q1
end
noncomputable def eU(K:PySem.W.Frag)(H:Hp)(a:Addr)(xs:List V):Prop:=
 Rd H a (.lst xs)\/
  ∃(o:Obj) (its:Array Value) (n:Nat),K.lookup a=some o/\o.cls=.type "list" /\o.dict=none/\o.data=.seq its n/\its.size<=sizeLine/\Vals xs its.toList
noncomputable def dz(K:PySem.W.Frag)(H:Hp)(a:Addr)(xs:List V):Prop:=
 Rd H a (.tup xs)\/
  ∃(o:Obj) (its:Array Value) (n:Nat),K.lookup a=some o/\o.cls=.type "tuple" /\o.data=.seq its n/\its.size<=sizeLine/\Vals xs its.toList
noncomputable def Sa:Value->Option V
 |.none=>some .aU
 |.bool b=>some (.bl b)
 |.int i _=>some (.int i)
 |.str x _=>some (.str x)
 |.bytes b _=>some (.zP b)
 |.float b _=>some (.IV b)
 |.ref a=>some (.ref a)
 |.type n=>some (.ty n)
 |_=>none
def RelV.abs{x:V}{u:Value}(r:RelV x u):Sa u=some x:=by
 cases x with
 |aU=>cases r;rfl
 |bl _=>cases r;rfl
 |int _=>obtain⟨t,rfl⟩:=r;rfl
 |str _=>obtain⟨t,rfl⟩:=r;rfl
 |zP _=>obtain⟨t,rfl⟩:=r;rfl
 |IV _=>obtain⟨t,rfl⟩:=r;rfl
 |ref _=>cases r;rfl
 |ty _=>cases r;rfl
theorem RelV.inj{x y:V}{u:Value}(r:RelV x u)(q:RelV y u):x=y:=Er (r.abs.symm.trans q.abs)
theorem Vals.inj:∀{xs ys:List V}{us:List Value},Vals xs us->Vals ys us->xs=ys
 |_,_,_,.nil,.nil=>rfl
 |_,_,_,.cons r t,.cons r' t'=>by rw[r.inj r',Vals.inj t t']
section
variable{X:Cx}{pins:List (Addr×Obj)}{σ:St}{H:Hp}{s:Shared}{a:Addr}{xs ys:List V}
def eU.of{K:PySem.W.Frag}(h:H a=some (.lst xs)):eU K H a xs:=.inl (.inl h)
def dz.of{K:PySem.W.Frag}(h:H a=some (.tup xs)):dz K H a xs:=.inl (.inl h)
def Inv.list(I:Inv X pins σ H s)(h:eU X.K H a xs):∃its:List Value,Vals xs its/\PlainL s.heap a its.toArray/\xs.length<=sizeLine:=by
 rcases h with h|⟨o,its,n,hk,hc,hd,hs,hz,r⟩
 .obtain⟨z,its,n,r,e⟩:=h.ok I.hok;exact⟨its,r,⟨_,n,e,rfl,rfl,rfl⟩,z⟩
 .refine⟨its.toList,r,⟨o,n,I.rK a o hk,hc,hd,by simpa using hs⟩,?_⟩;have e:=r.length;simp only[Xw]at e;omega
def Inv.tuple(I:Inv X pins σ H s)(h:dz X.K H a xs):∃its:List Value,Vals xs its/\IsTup s.heap a its.toArray/\xs.length<=sizeLine:=by
 rcases h with h|⟨o,its,n,hk,hc,hs,hz,r⟩
 .obtain⟨z,its,r,p⟩:=h.ok I.hok;exact⟨its,r,p,z⟩
 .refine⟨its.toList,r,⟨o,I.rK a o hk,hc,n,by simpa using hs⟩,?_⟩;have e:=r.length;simp only[Xw]at e;omega
def Inv.Cd(I:Inv X pins σ H s)(h:eU X.K H a xs)(h':eU X.K H a ys):xs=ys:=by
 obtain⟨its,r,⟨o,n,e,_,_,d⟩,_⟩:=I.list h;obtain⟨its',r',⟨o',n',e',_,_,d'⟩,_⟩:=I.list h';rw[e]at e';cases e';rw[d]at d';injection d' with d1 _
 have:its=its':=by simpa using WT Array.toList d1
 subst this;exact r.inj r'
def Inv.mj(I:Inv X pins σ H s)(h:dz X.K H a xs)(h':dz X.K H a ys):xs=ys:=by
 obtain⟨its,r,⟨o,e,_,n,d⟩,_⟩:=I.tuple h;obtain⟨its',r',⟨o',e',_,n',d'⟩,_⟩:=I.tuple h';rw[e]at e';cases e';rw[d]at d';injection d' with d1 _
 have:its=its':=by simpa using WT Array.toList d1
 subst this;exact r.inj r'
end
abbrev Cx.j3(X:Cx)(E:Value->Shared->Prop):Cx:={ X with xe:=E }
abbrev Cx.rM(X:Cx):Cx:=X.j3 λ_ _=>False
theorem Cx.Ok.j3{X:Cx}(ok:X.Ok)(E:Value->Shared->Prop):(X.j3 E).Ok:=
 ⟨ok.mod,ok.kind,ok.glob,ok.blt,ok.above,ok.inj,ok.has,ok.wC,ok.hd,ok.frames,ok.stk,ok.EC,ok.bs,ok.rJ,ok.qv,ok.qw,ok.jd,ok.t6⟩
def Cx.Ok.iY{X:Cx}{E:Value->Shared->Prop}(ok:(X.j3 E).Ok):X.Ok:=
 ⟨ok.mod,ok.kind,ok.glob,ok.blt,ok.above,ok.inj,ok.has,ok.wC,ok.hd,ok.frames,ok.stk,ok.EC,ok.bs,ok.rJ,ok.qv,ok.qw,ok.jd,ok.t6⟩
section
variable{X:Cx}{pins:List (Addr×Obj)}{σ:St}{H:Hp}{s:Shared}{E:Value->Shared->Prop}
theorem Inv.j3(I:Inv X pins σ H s)(E:Value->Shared->Prop):Inv (X.j3 E) pins σ H s:=⟨I.ok.j3 E,I.os,I.bare,I.base,I.loc,I.cell,I.free,I.gW,I.pin,I.hok,I.len⟩
theorem Inv.iY(I:Inv (X.j3 E) pins σ H s):Inv X pins σ H s:=⟨I.ok.iY,I.os,I.bare,I.base,I.loc,I.cell,I.free,I.gW,I.pin,I.hok,I.len⟩
theorem SP.iY{D:Ends}{f:Flow}{s':Shared}(h:SP (X.j3 E) pins D f s'):SP X pins D f s':=by
 cases f with
 |next=>obtain⟨σ',H',I,q⟩:=h;exact⟨σ',H',I.iY,q⟩
 |brk=>obtain⟨σ',H',I,q⟩:=h;exact⟨σ',H',I.iY,q⟩
 |cont=>obtain⟨σ',H',I,q⟩:=h;exact⟨σ',H',I.iY,q⟩
 |ret u=>obtain⟨v,σ',H',I,r,q⟩:=h;exact⟨v,σ',H',I.iY,r,q⟩
theorem iD.rM{st:List Stmt}{t:TS}(h:iD X.rM st t):iD X st t:=λpins s σ H D I hw=>
 Xx (h pins s σ H D (I.j3 _) hw) (λ_ _ q=>q.iY) λ_ _ z=>False.elim z
end
section
variable{X:Cx}{st:Stmt}{rest:List Stmt}{t u:TS}{e:Expr}{te:TE}{pos:Pos}
noncomputable def Oi:TS:=λD σ H=>D.nx σ H
noncomputable def Sb(t u:TS):TS:=λD σ H=>t { D with nx:=u D } σ H
def Gi:iD X [] Oi:=λ_ _ σ H _ I h=>ZM ⟨σ,H,I,h⟩
def Ce(h1:PS X st t)(h2:iD X rest u):iD X (st :: rest) (Sb t u):=by
 intro pins s σ H D I h;refine wpAny_execs_cons (bQ (h1 pins s σ H { D with nx:=u D } I h) λf s1 q=>?_);cases f with
 |next=>
  obtain⟨σ',H',I',q⟩:=q;exact h2 pins s1 σ' H' D I' q
 |ret v=>exact q
 |brk=>exact q
 |cont=>exact q
def Inv.quiet{pins:List (Addr×Obj)}{σ:St}{H:Hp}{s:Shared}(I:Inv X pins σ H s):interactive X.env=false:=by simp[interactive,I.ok.kind]
noncomputable def Oj(te:TE):TS:=λD σ H=>te σ H λ_ H1=>D.nx σ H1
def Gj(he:PE X e te)(hs:swapsWith e none pos.line X.env=pure false:=by rfl):PS X (.Expr e pos) (Oj te):=by
 intro pins s σ H D I h;exact wpAny_Expr_any (bQ (he pins s σ H _ I h) λv s1 ⟨x,H1,I1,r1,q1⟩=>⟨σ,H1,I1,q1⟩) I.quiet hs
noncomputable def Sd(te:TE):TS:=λD σ H=>te σ H D.rt
def Jj(he:PE X e te):PS X (.Return (some e) pos) (Sd te):=by
 intro pins s σ H D I h;exact wpAny_Return_some (bQ (he pins s σ H _ I h) λv s1 ⟨x,H1,I1,r1,q1⟩=>⟨x,σ,H1,I1,r1,q1⟩)
noncomputable def Se(c:TT)(t u:TS):TS:=λD σ H=>c σ H λb H1=>if b=true then t D σ H1 else u D σ H1
def Ol{c:Expr}{a b:List Stmt}{tc:TT}(hc:PT X c tc)(ha:iD X a t)(hb:iD X b u):PS X (.If c a b pos) (Se tc t u):=by
 intro pins s σ H D I h;refine wpAny_If (bQ (hc pins s σ H _ I h) λd s1 ⟨H1,I1,q1⟩=>?_);cases d with
 |true=>exact ha pins s1 σ H1 D I1 q1
 |false=>exact hb pins s1 σ H1 D I1 q1
noncomputable def Jk:TS:=λ_ _ _=>False
def Cf:PS X st Jk:=λ_ _ _ _ _ _ h=>h.elim
end
abbrev TG:=V->St->Hp->(St->Hp->Prop)->Prop
abbrev rN:=List V->St->Hp->(St->Hp->Prop)->Prop
noncomputable def PG(X:Cx)(target:Expr)(t:TG):Prop:=
 ∀(pins:List (Addr×Obj)) (s:Shared) (σ:St) (H:Hp) (v:V) (u:Value) (Q:St->Hp->Prop),Inv X pins σ H s->RelV v u->t v σ H Q->
  wpAny (model X.prog X.w) X.A (assign target X.env u) (λ_ s'=>∃σ' H',Inv X pins σ' H' s'/\Q σ' H') X.xe s
noncomputable def nU(X:Cx)(ts:List Expr)(t:rN):Prop:=
 ∀(pins:List (Addr×Obj)) (s:Shared) (σ:St) (H:Hp) (vs:List V) (us:List Value) (Q:St->Hp->Prop),Inv X pins σ H s->Vals vs us->t vs σ H Q->
  wpAny (model X.prog X.w) X.A (assignInOrder ((assignEach ts X.env).map (·.2)) us) (λ_ s'=>∃σ' H',Inv X pins σ' H' s'/\Q σ' H') X.xe s
section
variable{X:Cx}{pos:Pos}
noncomputable def EG(i:Nat):TG:=λv σ H Q=>Q (σ.set i (some v)) H
def wH{i:Nat}{x:Str}(hN:X.N.Nodup)(hi:X.N[i]?=some x)(hx:Loc X.env.scope x)(hf:X.fn x=true\/X.env.scope.names.lookup x=some .local:=by first|exact .inl rfl|exact .inr rfl|assumption):PG X (.Name x pos) (EG i):=by
 intro pins s σ H v u Q I r h;exact wpAny_assign_Name (ua I hN hi hx r (λs' I'=>⟨_,H,I',h⟩) hf)
noncomputable def Sf:rN:=λvs σ H Q=>vs=[]/\Q σ H
noncomputable def Om(t:TG)(u:rN):rN:=λvs σ H Q=>∃v r,vs=v :: r/\t v σ H λσ' H'=>u r σ' H' Q
def Gk:nU X [] Sf:=by
 intro pins s σ H vs us Q I r h;obtain⟨e,h⟩:=h;subst e;cases r;exact assignInOrder_nil ⟨σ,H,I,h⟩
def Cg{e:Expr}{es:List Expr}{t:TG}{u:rN}(h1:PG X e t)(h2:nU X es u)
  (hs:(assignEach (e :: es) X.env).map (·.2)=assign e X.env :: (assignEach es X.env).map (·.2):=by rfl):nU X (e :: es) (Om t u):=by
 intro pins s σ H vs us Q I r h;obtain⟨v,vr,e1,h⟩:=h;subst e1;cases r with
 |cons r rr=>
  rw[hs];refine assignInOrder_cons (bQ (h1 pins s σ H _ _ _ I r h) λ_ s1 ⟨σ1,H1,I1,q1⟩=>?_);exact h2 pins s1 σ1 H1 _ _ Q I1 rr q1
noncomputable def Sg(K:PySem.W.Frag)(n:Nat)(t:rN):TG:=λv σ H Q=>∃a xs,v=.ref a/\dz K H a xs/\xs.length=n/\t xs σ H Q
def Jl{es:List Expr}{k:Nat}{t:rN}{n:Nat}(hc:X.calm=true)(h:nU X es t)
  (hn:(assignEach es X.env).length=n:=by rfl) (hst:(assignEach es X.env).findIdx? (·.1)=none:=by rfl):PG X (.Tuple es k pos) (Sg X.K n t):=by
 intro pins s σ H v u Q I r hw;obtain⟨a,xs,e1,hq,hl,hw⟩:=hw;subst e1;cases r;obtain⟨its,rv,ht,hz⟩:=I.tuple hq;refine assign_Tuple_tuple (I.ok.hd hc) ht (by simp[hn,<-hl,rv.length]) hst λh' hx=>?_;have I1:Inv X pins σ H { s with heap:=h' }:=I.kept (t':=s.toks) λb o e=>hx b o (WU (Ur e)) e;exact h pins _ σ H xs _ Q I1 (by simpa using rv) hw
noncomputable def Sh(te:TE)(g:TG):TS:=λD σ H=>te σ H λx H1=>g x σ H1 D.nx
def zV{i:Nat}{x:Str}{e:Expr}{te:TE}{pos':Pos}(hN:X.N.Nodup)(hi:X.N[i]?=some x)(hx:Loc X.env.scope x)(he:PE X e te)(hs:swapsWith e (some (.Name x pos')) pos.line X.env=pure false:=by rfl)(hf:X.fn x=true\/X.env.scope.names.lookup x=some .local:=by first|exact .inl rfl|exact .inr rfl|assumption) :
  PS X (.Assign [.Name x pos'] e pos) (Sh te (EG i)):=by
 intro pins s σ H D I h;refine wpAny_Assign_Name (bQ (he pins s σ H _ I h) λv s1 ⟨y,H1,I1,r1,q1⟩=>?_) hs;exact ua I1 hN hi hx r1 (λs2 I2=>⟨_,H1,I2,q1⟩) hf
end
section
variable{X:Cx}{pos:Pos}
noncomputable def Jm(c:TT)(tb:TS):TS:=λD σ H=>∃W:Nat->St->Hp->Prop,(∃m,W m σ H)/\∀m σ H,W m σ H->
 c σ H λb H1=>if b=true then ∃N:St->Hp->Prop,(∀σ' H',N σ' H'->∃m',m'<m/\W m' σ' H')/\tb { D with nx:=N,ct:=N,bk:=D.nx } σ H1 else D.nx σ H1
def Ci{c:Expr}{body:List Stmt}{tc:TT}{tb:TS}(hp:PassesOwn (model X.prog X.w) X.A X.env X.xe)(hc:PT X c tc)(hb:iD X body tb):PS X (.While c body [] pos) (Jm tc tb):=by
 intro pins s σ H D I h;obtain⟨W,⟨m0,w0⟩,turn⟩:=h;refine wpAny_While (codeAny_whileLoop (λn s'=>∃σ' H',Inv X pins σ' H' s'/\W n σ' H') ?_ m0 ⟨σ,H,I,w0⟩);rintro n s1 ⟨σ1,H1,I1,w1⟩;refine Ye hp (bQ (hc pins s1 σ1 H1 _ I1 (turn n σ1 H1 w1)) λb s2 ⟨H2,I2,q2⟩=>?_);cases b with
 |true=>
  obtain⟨N,hN,q2⟩:=q2;rw[xV rfl];refine Ye hp (bQ (hb pins s2 σ1 H2 _ I2 q2) λf s3 q3=>?_);cases f with
  |next=>
   obtain⟨σ3,H3,I3,n3⟩:=q3;obtain⟨m',hm,w3⟩:=hN σ3 H3 n3;exact⟨m',hm,σ3,H3,I3,w3⟩
  |cont=>
   obtain⟨σ3,H3,I3,n3⟩:=q3;obtain⟨m',hm,w3⟩:=hN σ3 H3 n3;exact⟨m',hm,σ3,H3,I3,w3⟩
  |brk=>exact q3
  |ret v=>exact q3
 |false=>
  rw[WQ Xv];exact ZM ⟨σ1,H2,I2,q2⟩
end
structure It where
 go:Nat->Hp->Prop
 EH:Nat->Hp->V->Hp->Prop
 stop:Nat->Hp->Prop
noncomputable def gY(X:Cx)(pins:List (Addr×Obj))(H:Hp)(b:Addr):Prop:=
 H b=none/\b≠X.env.locals/\b∉X.fs/\(b∈X.ex\/X.s₀.heap.objs.size<=b)/\(∀x c,X.env.cells.lookup x=some c->c≠b)/\∀p∈X.pn++pins,p.1≠b
def Inv.Cj{X:Cx}{pins:List (Addr×Obj)}{σ:St}{H H':Hp}{s:Shared}{b:Addr}(I:Inv X pins σ H s)(hb:s.heap.objs.size<=b)(hn:H' b=none):gY X pins H' b:=by
 refine⟨hn,Y3 (Rt I.lt hb),I.R6 hb,.inr (WV I.sz hb),λx c e z=>?_,λp hp z=>?_⟩
 .obtain⟨v,q⟩:=I.cell x c e;exact absurd (Rt q.lt (by rw[z];exact hb)) (X4 _)
 .exact absurd (Rt (Ur (I.pin p hp).1) (by rw[z];exact hb)) (X4 _)
structure Turn(P:Program)(w:World)(K:PySem.W.Frag)(tg:Expr)(J:It)(fp:List Addr)(it:Addr)(tn:Nat->Heap->Prop):Prop where
 mem:it∈fp
 obj:∀i h,tn i h->∀b∈fp,∃o,h.get? b=some o/\∀v,o.data≠.cell v
 keep:∀i h h',tn i h->(∀b∈fp,∀o,h.get? b=some o->h'.get? b=some o)->tn i h'
 item:∀(X:Cx),X.prog=P->X.w=w->X.K=K->X.calm=true->∀(i:Nat) (pins:List (Addr×Obj)) (s:Shared) (σ:St) (H:Hp) (E:Value->Shared->Prop),Inv X pins σ H s->(∀b∈fp,gY X pins H b)->tn i s.heap->J.go i H->
  wpAny (model P w) X.A (pyNext (.ref it)) (λr s1=>∃u,r=some u/\
   wpAny (model P w) X.A (letOwnedTupleGo tg (.ref it) u) (λ_ s2=>∃x H',Inv X pins σ H' s2/\RelV x u/\J.EH i H x H'/\tn (i+1) s2.heap/\∀b∈fp,H' b=none) E s1) E s
 done:∀(X:Cx),X.prog=P->X.w=w->X.K=K->X.calm=true->∀(i:Nat) (pins:List (Addr×Obj)) (s:Shared) (σ:St) (H:Hp) (E:Value->Shared->Prop),Inv X pins σ H s->(∀b∈fp,gY X pins H b)->tn i s.heap->J.stop i H->
  wpAny (model P w) X.A (pyNext (.ref it)) (λr s1=>r=none/\Inv X pins σ H s1) E s
 self:∀(A:Around) (i:Nat) (s:Shared) (Q:Value->Shared->Prop) (E:Value->Shared->Prop),tn i s.heap->Q (.ref it) s->wpAny (model P w) A (pyIter (.ref it)) Q E s
abbrev TI:=St->Hp->(It->Hp->Prop)->Prop
noncomputable def QL(X:Cx)(pins:List (Addr×Obj))(σ:St)(tg:Expr)(R:It->Hp->Prop)(itv:Value)(s2:Shared):Prop:=
 ∃(it:Addr) (fp:List Addr) (tn:Nat->Heap->Prop) (J:It) (H':Hp),itv=.ref it/\Inv X pins σ H' s2/\Turn X.prog X.w X.K tg J fp it tn/\tn 0 s2.heap/\(∀b∈fp,gY X pins H' b)/\R J H'
noncomputable def PI(X:Cx)(tg iter:Expr)(wi:TI):Prop:=
 ∀(pins:List (Addr×Obj)) (s:Shared) (σ:St) (H:Hp) (R:It->Hp->Prop),Inv X pins σ H s->wi σ H R->
  wpAny (model X.prog X.w) X.A (eval iter X.env) (λv s1=>wpAny (model X.prog X.w) X.A (pyIter v) (QL X pins σ tg R) X.xe s1) X.xe s
def yh{M:Model}{A:Around}{E:Value->Shared->Prop}{s:Shared}{tg:Expr}{it:Addr}{u:Value}{o:Obj}{n:String}{vs:Array Value}{Q:Unit->Shared->Prop}(ho:s.heap.get? it=some o)(hc:o.cls=.type n)(hd:o.data=.fields vs)
    (hn:["enumerate","zip","dict_itemiterator","dict_reverseitemiterator","odict_iterator","itertools.zip_longest","itertools.pairwise"].contains n=false) (hQ:Q () s):wpAny M A (letOwnedTupleGo tg (.ref it) u) Q E s:=by
  unfold letOwnedTupleGo;cases tg<;>first
    |exact gV hQ
    | (cases u<;>first
        |exact gV hQ
        | (refine fS (wpAny_load ho ?_)
           rw[hc,hd];show wpAny M A (if (["enumerate","zip","dict_itemiterator","dict_reverseitemiterator","odict_iterator","itertools.zip_longest","itertools.pairwise"].contains n&&vs[0]?==some (rawInt _))=true then _ else _) Q E s;rw[WQ (by intro h;rw[hn,Bool.false_and]at h;cases h)];exact gV hQ))
noncomputable def QM(K:PySem.W.Frag)(a:Addr):It:=
 ⟨λi H=>∃xs x,eU K H a xs/\xs[i]?=some x,λi H x H'=>H'=H/\∀xs,eU K H a xs->xs[i]?=some x,λi H=>∃xs,eU K H a xs/\xs.length<=i⟩
noncomputable def QN(K:PySem.W.Frag)(a:Addr):It:=
 ⟨λi H=>∃xs x,dz K H a xs/\xs[i]?=some x,λi H x H'=>H'=H/\∀xs,dz K H a xs->xs[i]?=some x,λi H=>∃xs,dz K H a xs/\xs.length<=i⟩
noncomputable def EI(lo:Int)(n:Nat):It:=⟨λi _=>i<n,λi H x H'=>H'=H/\x=.int (lo+i),λi _=>n<=i⟩
def zW{P:Program}{w:World}{K:PySem.W.Frag}{tg:Expr}(a it:Addr):Turn P w K tg (QM K a) [it] it (λi h=>h.IsListIter it a i) where
 mem:=by simp
 obj:=λi h st b hb=>by
  have e:b=it:=by simpa using hb
  subst e;obtain⟨o,e,c,d⟩:=st;exact⟨o,e,λv z=>by rw[d]at z;cases z⟩
 keep:=λi h h' st k=>st.at λo e=>k it (by simp) o e
 item:=by
  intro X hP hw hK hc i pins s σ H E I hf st hg;subst hP hw hK;obtain⟨xs,x,hq,hx⟩:=hg;obtain⟨its,rv,p,hz⟩:=I.list hq;obtain⟨u,hu,ru⟩:=rv.get hx;obtain⟨f0,f1,f2,f3,f4,f5⟩:=hf it (by simp);refine wpAny_pyNext_list_item st p.isList (x:=u) (by simpa using hu) λh' st' sb=>?_;have I1:Inv X pins σ H { s with heap:=h' }:=I.turned (t':=s.toks) (λb o hb e=>(sb.2 b hb).trans e) f0 f1 f3 f4 f5;obtain⟨o,e,c,d⟩:=id st';exact⟨u,rfl,yh (s:={ s with heap:=h' }) e c d (by decide) ⟨x,H,I1,ru,⟨rfl,λys hy=>by rw[I.Cd hy hq];exact hx⟩,st',λb hb=>(hf b hb).1⟩⟩
 done:=by
  intro X hP hw hK hc i pins s σ H E I hf st hg;subst hP hw hK;obtain⟨xs,hq,hx⟩:=hg;obtain⟨its,rv,p,hz⟩:=I.list hq;obtain⟨f0,f1,f2,f3,f4,f5⟩:=hf it (by simp);have hl:=rv.length;exact wpAny_pyNext_list_end (I.ok.hd hc) st p.isList (by simp;omega) λh' eb=>⟨rfl,I.turned (t':=s.toks) (λb o hb e=>eb b o hb e) f0 f1 f3 f4 f5⟩
 self:=λ_ _ _ _ _ st h=>wpAny_pyIter_listiter st h
def yi{P:Program}{w:World}{K:PySem.W.Frag}{tg:Expr}(a it:Addr):Turn P w K tg (QN K a) [it] it (λi h=>h.IsTupleIter it a i) where
 mem:=by simp
 obj:=λi h st b hb=>by
  have e:b=it:=by simpa using hb
  subst e;obtain⟨o,e,c,d⟩:=st;exact⟨o,e,λv z=>by rw[d]at z;cases z⟩
 keep:=λi h h' st k=>st.at λo e=>k it (by simp) o e
 item:=by
  intro X hP hw hK hc i pins s σ H E I hf st hg;subst hP hw hK;obtain⟨xs,x,hq,hx⟩:=hg;obtain⟨its,rv,p,hz⟩:=I.tuple hq;obtain⟨u,hu,ru⟩:=rv.get hx;obtain⟨f0,f1,f2,f3,f4,f5⟩:=hf it (by simp);refine wpAny_pyNext_tuple_item st (show s.heap.IsTuple a its.toArray from p) (x:=u) (by simpa using hu) λh' st' sb=>?_;have I1:Inv X pins σ H { s with heap:=h' }:=I.turned (t':=s.toks) (λb o hb e=>(sb.2 b hb).trans e) f0 f1 f3 f4 f5;obtain⟨o,e,c,d⟩:=id st';exact⟨u,rfl,yh (s:={ s with heap:=h' }) e c d (by decide) ⟨x,H,I1,ru,⟨rfl,λys hy=>by rw[I.mj hy hq];exact hx⟩,st',λb hb=>(hf b hb).1⟩⟩
 done:=by
  intro X hP hw hK hc i pins s σ H E I hf st hg;subst hP hw hK;obtain⟨xs,hq,hx⟩:=hg;obtain⟨its,rv,p,hz⟩:=I.tuple hq;obtain⟨f0,f1,f2,f3,f4,f5⟩:=hf it (by simp);have hl:=rv.length;exact wpAny_pyNext_tuple_end (I.ok.hd hc) st (show s.heap.IsTuple a its.toArray from p) (by simp;omega) λh' eb=>⟨rfl,I.turned (t':=s.toks) (λb o hb e=>eb b o hb e) f0 f1 f3 f4 f5⟩
 self:=λ_ _ _ _ _ st h=>wpAny_pyIter_tupleiter st h
def yj{P:Program}{w:World}{K:PySem.W.Frag}{tg:Expr}(it:Addr)(lo:Int)(n:Nat):Turn P w K tg (EI lo n) [it] it (λi h=>IsRangeIter h it (lo+(i:Nat)*1) ((n:Int) - (i:Nat)) 1) where
 mem:=by simp
 obj:=λi h st b hb=>by
  have e:b=it:=by simpa using hb
  subst e;exact⟨_,st,λv z=>by
   have z':Data.fields _=Data.cell v:=z;cases z'⟩
 keep:=λi h h' st k=>k it (by simp) _ st
 item:=by
  intro X hP hw hK hc i pins s σ H E I hf st hg;subst hP hw hK;obtain⟨f0,f1,f2,f3,f4,f5⟩:=hf it (by simp);have W:=Walks.range (prog:=X.prog) (w:=X.w) (I.ok.hd hc) it lo 1 n;refine W.item i s _ _ hg st λv h' tk hv st' kk=>?_;obtain⟨t,rfl⟩:=hv;have I1:Inv X pins σ H { s with heap:=h',toks:=tk }:=I.turned (λb o hb e=>kk b o (by simpa using hb) e) f0 f1 f3 f4 f5;refine⟨_,rfl,yh (s:={ s with heap:=h',toks:=tk }) (n:="range_iterator") st' rfl rfl (by decide) ⟨.int (lo+i),H,I1,⟨t,?_⟩,⟨rfl,rfl⟩,st',λb hb=>(hf b hb).1⟩⟩;rw[Int.mul_one]
 done:=by
  intro X hP hw hK hc i pins s σ H E I hf st hg;subst hP hw hK;obtain⟨f0,f1,f2,f3,f4,f5⟩:=hf it (by simp);exact wpAny_pyNext_range_end (I.ok.hd hc) st (by have:n<=i:=hg;omega) λh' eb=>⟨rfl,I.turned (t':=s.toks) (λb o hb e=>eb b o hb e) f0 f1 f3 f4 f5⟩
 self:=λ_ _ _ _ _ st h=>wpAny_pyIter_rangeiter st h
section
variable{X:Cx}{tg:Expr}
def Ck{pins:List (Addr×Obj)}{σ:St}{H:Hp}{s:Shared}{R:It->Hp->Prop}{E:Value->Shared->Prop}{lo hi:Int}{t u v:Tok}{tk:Nat}(I:Inv X pins σ H s)(h1:-(2 ^ 62)<=lo)(h2:lo<2 ^ 62)(h3:-(2 ^ 62)<=hi)(h4:hi<2 ^ 62)
  (q:R (EI lo (hi - lo).toNat) H):wpAny (model X.prog X.w) X.A (pyIter (.ref s.heap.objs.size)) (QL X pins σ tg R) E { s with heap:=s.heap.push { cls:=.type "range",data:=.fields #[.int lo t,.int hi u,.int 1 v]},toks:=tk }:=by
 refine wpAny_pyIter_range (IsRange.new ..) (small_one h1 h2 h3 h4) ?_;have I1:Inv X pins σ H { s with heap:=s.heap.push { cls:=.type "range",data:=.fields #[.int lo t,.int hi u,.int 1 v]},toks:=tk }:=I.kept λb o e=>lM _ e;refine⟨(s.heap.push { cls:=.type "range",data:=.fields #[.int lo t,.int hi u,.int 1 v]}).objs.size,[(s.heap.push { cls:=.type "range",data:=.fields #[.int lo t,.int hi u,.int 1 v]}).objs.size],_,_,H,rfl,
  I1.kept (t':=tk) λb o e=>lM _ e,yj _ lo (hi - lo).toNat,?_,λb hb=>?_,q⟩
 .have e1:lo+((0:Nat):Int)*1=lo:=by simp
  have e2:(((hi - lo).toNat:Nat):Int) - ((0:Nat):Int)=Builtin.Range.rangeSize lo hi 1:=by rw[rangeSize_one];split<;>omega
  show IsRangeIter _ _ (lo+((0:Nat):Int)*1) ((((hi - lo).toNat:Nat):Int) - ((0:Nat):Int)) 1;rw[e1,e2];exact WM _ rfl
 .have e:b=(s.heap.push { cls:=.type "range",data:=.fields #[.int lo t,.int hi u,.int 1 v]}).objs.size:=by simpa using hb
  subst e;exact I1.Cj (qh _) (I1.hok.fresh (qh _))
noncomputable def Oo(ta:TA):TI:=λσ H R=>ta σ H λvs H1=>∃j:Int,vs=[.int j]/\-(2 ^ 62)<=j/\j<2 ^ 62/\R (EI 0 j.toNat) H1
def zX {a:Expr}{ta:TA}{p pos:Pos}(hg:Gl X "range") (hm:X.mg "range" = none) (ha:PA X [a] ta) (hs:starEach [a] X.env=[(false,eval a X.env)]:=by rfl):PI X tg (.Call (.Name "range" p) [a] [] pos) (Oo ta):=by
 intro pins s σ H R I h;refine Call_ (gX I hg hm boot_range (Xj (bQ (ha pos pins s σ H _ I h) λus s1 ⟨vs,H1,I1,r1,q1⟩=>?_) hs rfl));obtain⟨j,e,q1,q2,q⟩:=q1;subst e;cases r1 with
 |cons r rr=>
  cases rr;obtain⟨t,rfl⟩:=r;exact call_range_1 (Ck I1 (by omega) (by omega) q1 q2 (by simpa using q))
noncomputable def Si(wi:TI)(g:TG)(tb:TS):TS:=λD σ H=>wi σ H λJ H1=>∃W:Nat->Nat->St->Hp->Prop,(∃m,W 0 m σ H1)/\∀i m σ H,W i m σ H->
 (J.stop i H/\D.nx σ H)\/(J.go i H/\∃N:St->Hp->Prop,(∀σ' H',N σ' H'->∃m',m'<m/\W (i+1) m' σ' H')/\∀x H',J.EH i H x H'->g x σ H' λσ2 H2=>tb { D with nx:=N,ct:=N,bk:=D.nx } σ2 H2)
noncomputable def mq(fp:List Addr)(h:Heap):List (Addr×Obj):=fp.filterMap λb=>(h.get? b).map λo=>(b,o)
def jl{fp:List Addr}{h:Heap}{b:Addr}{o:Obj}(hb:b∈fp)(e:h.get? b=some o):(b,o)∈mq fp h:=List.mem_filterMap.mpr ⟨b,hb,by rw[e];rfl⟩
def zY{fp:List Addr}{h:Heap}{p:Addr×Obj}(hp:p∈mq fp h):p.1∈fp/\h.get? p.1=some p.2:=by
 obtain⟨b,hb,e⟩:=List.mem_filterMap.mp hp;cases q:h.get? b with
 |none=>rw[q]at e;cases e
 |some o=>
  rw[q]at e;have e':(b,o)=p:=Er e;subst e';exact⟨hb,q⟩
def Inv.pinned{pins:List (Addr×Obj)}{σ:St}{H:Hp}{s:Shared}{fp:List Addr}(I:Inv X pins σ H s)(hf:∀b∈fp,gY X pins H b)(ho:∀b∈fp,∃o,s.heap.get? b=some o/\∀v,o.data≠.cell v):Inv X (pins++mq fp s.heap) σ H s:=
 I.wF λp hp=>(List.mem_append.mp hp).elim (λz=>I.pin p (Xc _ z)) λz=>by
  obtain⟨hb,e⟩:=zY z;obtain⟨f0,f1,f2,_⟩:=hf p.1 hb;obtain⟨o,e',d⟩:=ho p.1 hb;rw[e]at e';cases e';exact⟨e,f0,f1,f2,d⟩
def Inv.kW{pins pl:List (Addr×Obj)}{σ:St}{H:Hp}{s:Shared}(I:Inv X (pins++pl) σ H s):Inv X pins σ H s:=I.wF λp hp=>I.pin p (Xc _ (Z4 _ hp))
def Jo{iter:Expr}{body:List Stmt}{wi:TI}{g:TG}{tb:TS}{pos:Pos}(hp:PassesOwn (model X.prog X.w) X.A X.env X.xe)(hc:X.calm=true)(hi:PI X tg iter wi)(hg:PG X tg g)(hb:iD X body tb)
  (hs:∀x,foldedSetIterable iter X.env x=pure x:=by intro _;rfl):PS X (.For tg iter body [] pos) (Si wi g tb):=by
 intro pins s σ H D I h;refine wpAny_For (bQ (hi pins s σ H _ I h) λv s1 h1=>bQ h1 λitv s2 h2=>?_) hs;obtain⟨it,fp,tn,J,H2,e,I2,T,st2,f2,W,⟨m0,w0⟩,turn⟩:=h2;subst e;have kX:∀{H':Hp},(∀b∈fp,H' b=none)->∀b∈fp,gY X pins H' b:=λhn b hb=>⟨hn b hb,(f2 b hb).2⟩
 refine codeAny_forLoop_any (λn s'=>∃i σ' H',Inv X pins σ' H' s'/\tn i s'.heap/\(∀b∈fp,H' b=none)/\W i n σ' H') ?_ m0 ⟨0,σ,H2,I2,st2,λb hb=>(f2 b hb).1,w0⟩;rintro n s3 ⟨i,σ3,H3,I3,st3,cG,w3⟩;rcases turn i n σ3 H3 w3 with ⟨stop,qn⟩|⟨go,N,hN,step⟩
 .refine Ye hp (bQ (T.done X rfl rfl rfl hc i pins s3 σ3 H3 X.xe I3 (kX cG) st3 stop) λr s4 ⟨hr,I4⟩=>?_);subst hr;exact ZM ⟨σ3,H3,I4,qn⟩
 .refine Ye hp (bQ (T.item X rfl rfl rfl hc i pins s3 σ3 H3 X.xe I3 (kX cG) st3 go) λr s4 ⟨u,hr,h4⟩=>?_);subst hr;refine Ye hp (bQ h4 λ_ s5 ⟨x,H5,I5,r5,y5,wI,rO⟩=>?_);have Uv:=I5.pinned (kX rO) (T.obj _ _ wI);refine Ye hp (bQ (hg _ s5 σ3 H5 x u _ Uv r5 (step x H5 y5)) λ_ s6 ⟨Uw,H6,I6,q6⟩=>?_);refine Ye hp (bQ (hb _ s6 Uw H6 _ I6 q6) λf s7 q7=>?_);have again:∀{mw:St} {H7:Hp},Inv X (pins++mq fp s5.heap) mw H7 s7->N mw H7->∃m,m<n/\∃i σ' H',Inv X pins σ' H' s7/\tn i s7.heap/\(∀b∈fp,H' b=none)/\W i m σ' H':=λ{mw H7} I7 n7=>by
   obtain⟨m',hm,w7⟩:=hN mw H7 n7;refine⟨m',hm,i+1,mw,H7,I7.kW,T.keep _ _ _ wI λb hb o e=>(I7.pin (b,o) (Xc _ (Xc _ (jl hb e)))).1,λb hb=>?_,w7⟩;obtain⟨o,e,d⟩:=T.obj _ _ wI b hb;exact(I7.pin (b,o) (Xc _ (Xc _ (jl hb e)))).2.1
  cases f with
  |next=>obtain⟨mw,H7,I7,n7⟩:=q7;exact again I7 n7
  |cont=>obtain⟨mw,H7,I7,n7⟩:=q7;exact again I7 n7
  |brk=>obtain⟨mw,H7,I7,q7⟩:=q7;exact⟨mw,H7,I7.kW,q7⟩
  |ret v=>obtain⟨x7,mw,H7,I7,r7,q7⟩:=q7;exact⟨x7,mw,H7,I7.kW,r7,q7⟩
end
abbrev R2:=V->V->Hp->VK->Prop
noncomputable def dB(X:Cx)(f:Value->Value->Sem Value)(r:R2):Prop:=
 ∀(pins:List (Addr×Obj)) (s:Shared) (σ:St) (H:Hp) (x y:V) (v u:Value) (Q:VK),Inv X pins σ H s->RelV x v->RelV y u->r x y H Q->
  wpAny (model X.prog X.w) X.A (f v u) (EP X pins σ Q) X.xe s
noncomputable def Jp(X:Cx)(f:Value->Sem Value)(r:V->Hp->VK->Prop):Prop:=
 ∀(pins:List (Addr×Obj)) (s:Shared) (σ:St) (H:Hp) (x:V) (v:Value) (Q:VK),Inv X pins σ H s->RelV x v->r x H Q->
  wpAny (model X.prog X.w) X.A (f v) (EP X pins σ Q) X.xe s
noncomputable def gn(X:Cx)(f:Value)(r:List V->Hp->VK->Prop):Prop:=
 ∀(pins:List (Addr×Obj)) (s:Shared) (σ:St) (H:Hp) (xs:List V) (us:List Value) (Q:VK),Inv X pins σ H s->Vals xs us->r xs H Q->
  wpAny (model X.prog X.w) X.A (call f us) (EP X pins σ Q) X.xe s
noncomputable def Sj(X:Cx)(r:V->Hp->(Bool->Hp->Prop)->Prop):Prop:=
 ∀(pins:List (Addr×Obj)) (s:Shared) (σ:St) (H:Hp) (x:V) (v:Value) (Q:Bool->Hp->Prop),Inv X pins σ H s->RelV x v->r x H Q->
  wpAny (model X.prog X.w) X.A (truthy v) (TP X pins σ Q) X.xe s
noncomputable def zZ(r:R2)(ta tb:TE):TE:=λσ H Q=>ta σ H λx H1=>tb σ H1 λy H2=>r x y H2 Q
noncomputable def Ux(r:V->Hp->VK->Prop)(ta:TE):TE:=λσ H Q=>ta σ H λx H1=>r x H1 Q
noncomputable def rI(C:Int->Int->Prop)(g:Int->Int->V):R2:=λx y H Q=>∃i j,x=.int i/\y=.int j/\C i j/\Q (g i j) H
noncomputable def uc(g:Int->Int->V):R2:=λx y H Q=>∃i j,x=.int i/\y=.int j/\Q (g i j) H
noncomputable def rU(g:Int->V):V->Hp->VK->Prop:=λx H Q=>∃i,x=.int i/\Q (g i) H
section
variable{X:Cx}{a b:Expr}{ta tb:TE}{pos:Pos}
def yk(ha:PE X a ta)(hb:PE X b tb){pins:List (Addr×Obj)}{s:Shared}{σ:St}{H:Hp}{R:V->V->Hp->Prop}(I:Inv X pins σ H s)
  (h:ta σ H λx H1=>tb σ H1 λy H2=>R x y H2) {Q:Value->Shared->Prop} {f:Value->Value->Sem Value}
  (hf:∀v u s2 x y H2,Inv X pins σ H2 s2->RelV x v->RelV y u->R x y H2->wpAny (model X.prog X.w) X.A (f v u) Q X.xe s2) :
  wpAny (model X.prog X.w) X.A (eval a X.env) (λv s₁=>wpAny (model X.prog X.w) X.A (eval b X.env) (λu s₂=>wpAny (model X.prog X.w) X.A (f v u) Q X.xe s₂) X.xe s₁) X.xe s:=by
 refine bQ (ha pins s σ H _ I h) λv s1 ⟨x,H1,I1,r1,q1⟩=>?_;refine bQ (hb pins s1 σ H1 _ I1 q1) λu s2 ⟨y,H2,I2,r2,q2⟩=>?_;exact hf v u s2 x y H2 I2 r1 r2 q2
def Oq{op:Operator}{r:R2}(ho:dB X (binaryOp op) r)(ha:PE X a ta)(hb:PE X b tb):PE X (.BinOp a op b pos) (zZ r ta tb):=by
 intro pins s σ H Q I h;exact wpAny_BinOp (yk ha hb I h λv u s2 x y H2 I2 rx ry q=>ho pins s2 σ H2 x y v u Q I2 rx ry q)
def Ot{op:UnaryOp}{r:V->Hp->VK->Prop}(ho:Jp X (unaryOp op) r)(ha:PE X a ta):PE X (.UnaryOp op a pos) (Ux r ta):=by
 intro pins s σ H Q I h;exact UnaryOp_ (bQ (ha pins s σ H _ I h) λv s1 ⟨x,H1,I1,r1,q1⟩=>ho pins s1 σ H1 x v Q I1 r1 q1)
def Jq{f:Value->Value->Sem Value}{C:Int->Int->Prop}{g:Int->Int->Int}
  (rule:∀(i j:Int) (t u:Tok) (s:Shared) (Q:Value->Shared->Prop) (E:Value->Shared->Prop),C i j->Q (.int (g i j) s.toks) { s with toks:=s.toks+1 }->wpAny (model X.prog X.w) X.A (f (.int i t) (.int j u)) Q E s) :
  dB X f (rI C λi j=>.int (g i j)):=by
 intro pins s σ H x y v u Q I rx ry h;obtain⟨i,j,rfl,rfl,hc,q⟩:=h;obtain⟨t,rfl⟩:=rx;obtain⟨t',rfl⟩:=ry;exact rule i j t t' s _ _ hc ⟨.int (g i j),H,I.tok _,⟨_,rfl⟩,q⟩
def Jr{f:Value->Value->Sem Value}{g:Int->Int->Int}
  (rule:∀(i j:Int) (t u:Tok) (s:Shared) (Q:Value->Shared->Prop) (E:Value->Shared->Prop),Q (.int (g i j) s.toks) { s with toks:=s.toks+1 }->wpAny (model X.prog X.w) X.A (f (.int i t) (.int j u)) Q E s) :
  dB X f (uc λi j=>.int (g i j)):=by
 intro pins s σ H x y v u Q I rx ry h;obtain⟨i,j,rfl,rfl,q⟩:=h;obtain⟨t,rfl⟩:=rx;obtain⟨t',rfl⟩:=ry;exact rule i j t t' s _ _ ⟨.int (g i j),H,I.tok _,⟨_,rfl⟩,q⟩
def Js{f:Value->Value->Sem Value}{g:Int->Int->Bool}
  (rule:∀(i j:Int) (t u:Tok) (s:Shared) (Q:Value->Shared->Prop) (E:Value->Shared->Prop),Q (.bool (g i j)) s->wpAny (model X.prog X.w) X.A (f (.int i t) (.int j u)) Q E s) :
  dB X f (uc λi j=>.bl (g i j)):=by
 intro pins s σ H x y v u Q I rx ry h;obtain⟨i,j,rfl,rfl,q⟩:=h;obtain⟨t,rfl⟩:=rx;obtain⟨t',rfl⟩:=ry;exact rule i j t t' s _ _ ⟨.bl (g i j),H,I,rfl,q⟩
noncomputable def Sk(i j:Int):Prop:=0<j/\j<1073741824
noncomputable def Cm(i j:Int):Prop:=(-(2 ^ 64)<i/\i<2 ^ 64)\/(-(2 ^ 64)<j/\j<2 ^ 64)
def Cm.ok{i j:Int}(h:Cm i j):IntMulOk i j:=by
 rcases h with ⟨h1,h2⟩|⟨h1,h2⟩
 .exact .of_left (intBits_le_64 h1 h2)
 .exact .of_right (intBits_le_64 h1 h2)
def Jt:dB X (binaryOp .Add) (uc λi j=>.int (i+j)):=Jr λ_ _ _ _ _ _ _ q=>add_int q
def Ju:dB X (binaryOp .Sub) (uc λi j=>.int (i - j)):=Jr λ_ _ _ _ _ _ _ q=>sub_int q
def Jv:dB X (binaryOp .Mult) (rI Cm λi j=>.int (i*j)):=Jq λ_ _ _ _ _ _ _ hc q=>mul_int q hc.ok
def Gm:dB X (binaryOp .FloorDiv) (rI Sk λi j=>.int (i / j)):=Jq λi j _ _ _ _ _ hc q=>by
 have h1:(0:Int)<j:=hc.1;have h2:j<1073741824:=hc.2;exact floordiv_int (by omega) (by rw[Int.fdiv_eq_ediv_of_nonneg i (by omega)];exact q) (.inl (PyProof.noPylong_small (by omega)))
def Jw:dB X (binaryOp .Mod) (rI (λ_ j=>0<j) λi j=>.int (i % j)):=Jq λi j _ _ _ _ _ hc q=>by
 have h1:(0:Int)<j:=hc;exact mod_int' (by omega) (by rw[Int.fmod_eq_emod_of_nonneg i (by omega)];exact q)
def Uy{f:Value->Sem Value}{g:Int->Int}
  (rule:∀(i:Int) (t:Tok) (s:Shared) (Q:Value->Shared->Prop) (E:Value->Shared->Prop),Q (.int (g i) s.toks) { s with toks:=s.toks+1 }->wpAny (model X.prog X.w) X.A (f (.int i t)) Q E s) :
  Jp X f (rU λi=>.int (g i)):=by
 intro pins s σ H x v Q I rx h;obtain⟨i,rfl,q⟩:=h;obtain⟨t,rfl⟩:=rx;exact rule i t s _ _ ⟨.int (g i),H,I.tok _,⟨_,rfl⟩,q⟩
def Jx:Jp X (unaryOp .USub) (rU λi=>.int (-i)):=Uy λ_ _ _ _ _ q=>neg_int q
end
section
variable{X:Cx}{a b c:Expr}{ta tb:TE}{pos:Pos}
def Jy{pins:List (Addr×Obj)}{σ:St}{H:Hp}{s:Shared}{Q:VK}{k k':Bool}(I:Inv X pins σ H s)(q:Q (.bl k) H)(e:k=k'):EP X pins σ Q (.bool k') s:=by
 subst e;exact⟨.bl k,H,I,rfl,q⟩
def Ou:dB X (compareOp .Lt) (uc λi j=>.bl (decide (i<j))):=Js λ_ _ _ _ _ _ _ q=>lt_int q
def Ov:dB X (compareOp .Gt) (uc λi j=>.bl (decide (j<i))):=Js λ_ _ _ _ _ _ _ q=>gt_int q
def Gn:dB X (compareOp .IsNot) (λx y H Q=>y=.aU/\Q (.bl (!decide (x=.aU))) H):=by
 intro pins s σ H x y v u Q I rx ry h;obtain⟨rfl,q⟩:=h;cases ry;refine isnot_none_gen (Jy I q ?_);cases x<;>first
  | (cases rx;rfl)
  | (obtain⟨t,rfl⟩:=rx;rfl)
def jA(b:Expr){op:CmpOp}(h:op≠.In:=by decide)(h2:op≠.NotIn:=by decide):behindInMarks op b=false:=by
 have e1:(op==CmpOp.In)=false:=by cases op<;>first|rfl|exact absurd rfl h
 have e2:(op==CmpOp.NotIn)=false:=by cases op<;>first|rfl|exact absurd rfl h2
 cases b<;>simp[behindInMarks,e1,e2]
def Gp{op:CmpOp}{r:R2}(ho:dB X (compareOp op) r)(ha:PE X a ta)(hb:PE X b tb)(hm:behindInMarks op b=false):PE X (.Compare a [op] [b] pos) (zZ r ta tb):=by
 intro pins s σ H Q I h;exact wpAny_Compare1 (yk ha hb I h λv u s2 x y H2 I2 rx ry q=>ho pins s2 σ H2 x y v u Q I2 rx ry q) hm
noncomputable def Ow(t:TE):TT:=λσ H Q=>t σ H λx H'=>∃k,x=.bl k/\Q k H'
def Gq{op:CmpOp}{r:R2}(ho:dB X (compareOp op) r)(ha:PE X a ta)(hb:PE X b tb)(hm:behindInMarks op b=false):PT X (.Compare a [op] [b] pos) (Ow (zZ r ta tb)):=by
 intro pins s σ H Q I h;refine wpAny_isTrue_Compare1 (bQ (ha pins s σ H _ I h) λv s1 ⟨x,H1,I1,r1,q1⟩=>bQ (hb pins s1 σ H1 _ I1 q1) λu s2 ⟨y,H2,I2,r2,q2⟩=>
  bQ (ho pins s2 σ H2 x y v u _ I2 r1 r2 q2) λc s3 ⟨z,H3,I3,r3,k,e,q3⟩=>?_) hm
 subst e;cases r3;exact Zm ⟨H3,I3,q3⟩
noncomputable def Cn(K:PySem.W.Frag)(x:V)(H:Hp)(k:Bool):Prop:=
 match x with
 |.aU=>k=false
 |.bl b=>k=b
 |.int i=>k=(i != 0)
 |.str y=>y.length<=sizeLine/\k=((y.length:Int) != 0)
 |.zP y=>y.size<=sizeLine/\k=((y.size:Int) != 0)
 |.ref p=>(∃xs,eU K H p xs/\k = !xs.isEmpty)\/(∃xs,dz K H p xs/\k = !xs.isEmpty)\/∃kvs,H p=some (.dK kvs)/\k = !kvs.isEmpty
 |_=>False
def yl{κ:Type}{kvs:List (κ×V)}{vs:List (κ×Value)}(r:KV kvs vs):(!vs.isEmpty) = !kvs.isEmpty:=by
 cases r<;>rfl
def pg{xs:List V}{its:List Value}(r:Vals xs its):(!its.toArray.isEmpty) = !xs.isEmpty:=by
 cases r<;>simp
def kg:(sizeLine:Nat)<2 ^ 63:=by rw[Yi];decide
def Jz:Sj X (λx H Q=>∃k,Cn X.K x H k/\Q k H):=by
 intro pins s σ H x v Q I rx h;obtain⟨k,e,q⟩:=h;have hl:=kg;have hs:sizeLine=16777216:=Yi;cases x with
 |aU=>
  cases rx;have e':k=false:=e;subst e';exact truthy_none ⟨H,I,q⟩
 |bl b=>
  cases rx;have e':k=b:=e;subst e';exact Zm ⟨H,I,q⟩
 |int i=>
  obtain⟨t,rfl⟩:=rx;have e':k=(i != 0):=e;subst e';exact PySem.P.truthy_int ⟨H,I,q⟩
 |str y=>
  obtain⟨t,rfl⟩:=rx;obtain⟨hy,e'⟩:y.length<=sizeLine/\k=((y.length:Int) != 0):=e;subst e';exact PySem.P.truthy_str (by omega) ⟨H,I.tok _,q⟩
 |zP y=>
  obtain⟨t,rfl⟩:=rx;obtain⟨hy,e'⟩:y.size<=sizeLine/\k=((y.size:Int) != 0):=e;subst e';exact PySem.W.truthy_bytes (by omega) ⟨H,I.tok _,q⟩
 |ref p=>
  cases rx;have e':(∃xs,eU X.K H p xs/\k = !xs.isEmpty)\/(∃xs,dz X.K H p xs/\k = !xs.isEmpty)\/∃kvs,H p=some (.dK kvs)/\k = !kvs.isEmpty:=e;rcases e' with ⟨xs,hx,e'⟩|⟨xs,hx,e'⟩|⟨kvs,hx,e'⟩
  .subst e';obtain⟨its,r,pl,hz⟩:=I.list hx;have hlen:=r.length;exact wpAny_truthy_list pl.isList (by simp only[MM];omega) ⟨H,I.tok _,by rw[pg r];exact q⟩
  .subst e';obtain⟨its,r,pl,hz⟩:=I.tuple hx;have hlen:=r.length;exact truthy_tuple pl (by simp only[MM];omega) ⟨H,I.tok _,by rw[pg r];exact q⟩
  .subst e';obtain⟨hz,hS,vs,r,m⟩:kvs.length<=sizeLine/\(p==sysModules)=false/\∃vs,KV kvs vs/\s.heap.DictOf (cL X.prog X.w) p vs:=I.hok p _ hx;have hlen:kvs.length=vs.length:=Paired.length r;exact wpAny_truthy_dict hS m (by omega) ⟨H,I.tok _,by rw[yl r];exact q⟩
 |_=>exact(show False from e).elim
def Co(ha:PE X a ta)(he:∀whole,isTrue a X.env whole=(do let v <-whole;standAt a.pos;holding [v] (truthy v))) :
  PT X a (λσ H Q=>ta σ H λx H'=>∃k,Cn X.K x H' k/\Q k H'):=by
 intro pins s σ H Q I h;exact isTrue_plain (bQ (ha pins s σ H _ I h) λv s1 ⟨x,H1,I1,r1,q1⟩=>Jz pins s1 σ H1 x v Q I1 r1 q1) (he _)
def ym:dB X (binaryOp .Add) (λx y H Q=>∃i j,x=.str i/\y=.str j/\i.length+j.length<=sizeLine/\Q (.str (i++j)) H):=by
 intro pins s σ H x y v u Q I rx ry h;obtain⟨i,j,rfl,rfl,hz,q⟩:=h;obtain⟨t,rfl⟩:=rx;obtain⟨t',rfl⟩:=ry;exact add_str (λt' tk=>⟨.str (i++j),H,I.tok _,⟨_,rfl⟩,q⟩) hz
def vals1{x:V}{us:List Value}(r:Vals [x] us):∃u,us=[u]/\RelV x u:=by
 cases r with
 |cons r1 r2=>cases r2;exact⟨_,rfl,r1⟩
def vals2{x y:V}{us:List Value}(r:Vals [x,y] us):∃u w',us=[u,w']/\RelV x u/\RelV y w':=by
 cases r with
 |cons r1 r2=>
  cases r2 with
  |cons r3 r4=>cases r4;exact⟨_,_,rfl,r1,r3⟩
def z9 (hc:X.calm=true):gn X (.builtin "min") (λxs H Q=>∃i j,xs=[.int i,.int j]/\Q (.int (if j<i then j else i)) H):=by
 intro pins s σ H xs us Q I r h;obtain⟨i,j,rfl,q⟩:=h;obtain⟨u,w',rfl,⟨t,rfl⟩,⟨t',rfl⟩⟩:=vals2 r;refine min_two_ints (I.ok.hd hc) λh' tk k=>⟨_,H,I.kept k,?_,q⟩
 by_cases hj:j<i
 .rw[xV hj,xV hj];exact⟨_,rfl⟩
 .rw[WQ hj,WQ hj];exact⟨_,rfl⟩
end
structure gz(k:Nat)(A:Around):Prop where
 hd:A.handled=none
 dp:A.depth+3*k+5<recursionLimit
 un:A.units+16*k+200<cLine
theorem gz.deeper{k:Nat}{A:Around}(r:gz (k+1) A)(env:Env):gz k (A.deeper env):=
 ⟨r.hd,by have:=r.dp;show A.depth+1+3*k+5<_;omega,by have:=r.un;show A.units+3+16*k+200<_;omega⟩
theorem gz.depth{k:Nat}{A:Around}(r:gz k A):A.depth<recursionLimit:=by have:=r.dp;omega
noncomputable def Sn:TA:=λ_ H Q=>Q [] H
noncomputable def Ox(ta:TE)(tr:TA):TA:=λσ H Q=>ta σ H λx H1=>tr σ H1 λxs H2=>Q (x :: xs) H2
section
variable{X:Cx}{e:Expr}{es:List Expr}{te:TE}{t:TA}{pos:Pos}
def mz:PA X [] Sn:=λ_ _ _ _ H Q I h=>YS ⟨[],H,I,.nil,h⟩
def kh(ha:PE X e te)(hr:PA X es t)(hs:starEach (e :: es) X.env=(false,eval e X.env) :: starEach es X.env:=by rfl):PA X (e :: es) (Ox te t):=by
 intro pos pins s σ H Q I h;rw[hs];show wpAny _ _ (spliced ((false,eval e X.env) :: backTo pos (starEach es X.env))) _ _ s;refine YH (bQ (ha pins s σ H _ I h) λu s1 ⟨x,H1,I1,r1,q1⟩=>?_);exact bQ (hr pos pins s1 σ H1 _ I1 q1) λus s2 ⟨xs,H2,I2,r2,q2⟩=>⟨x :: xs,H2,I2,.cons r1 r2,q2⟩
noncomputable def So(t:TA):TE:=λσ H Q=>t σ H λxs H1=>xs.length<=sizeLine/\∀p,H1 p=none->Q (.ref p) (upd H1 p (.tup xs))
noncomputable def Sq(t:TA):TE:=λσ H Q=>t σ H λxs H1=>xs.length<=sizeLine/\∀p,H1 p=none->Q (.ref p) (upd H1 p (.lst xs))
def JB{x1}(h:PA X es t):PE X (.Tuple es x1 pos) (So t):=by
 intro pins s σ H Q I hq;refine wpAny_Tuple_spliced (bQ (h pos pins s σ H _ I hq) λus s1 ⟨xs,H1,I1,r,z,q⟩=>⟨by rw[<-r.length];exact z,?_⟩);have hf:H1 s1.heap.objs.size=none:=I1.hok.fresh (qh _);refine⟨.ref s1.heap.objs.size,upd H1 s1.heap.objs.size (.tup xs),I1.laid (t':=s1.toks) (λb u e=>lM _ e) (qh _) ?_,rfl,q _ hf⟩;exact⟨z,us,r,⟨_,WM _ rfl,rfl,_,rfl⟩⟩
def JD(h:PA X es t):PE X (.List es pos) (Sq t):=by
 intro pins s σ H Q I hq;refine wpAny_List_spliced (bQ (h pos pins s σ H _ I hq) λus s1 ⟨xs,H1,I1,r,z,q⟩=>⟨by rw[<-r.length];exact z,?_⟩);have hf:H1 s1.heap.objs.size=none:=I1.hok.fresh (qh _);refine⟨.ref s1.heap.objs.size,upd H1 s1.heap.objs.size (.lst xs),I1.laid (t':=s1.toks) (λb u e=>lM _ e) (qh _) ?_,rfl,q _ hf⟩;exact⟨z,us,0,r,WM _ rfl⟩
end
abbrev Sp:=List V->Hp->VK->XK->Prop
abbrev lS:=List Env->Hp->Shared->XK->Value->Shared->Prop
structure yo(P:Program)(w:World)(K:PySem.W.Frag)(mg:Str->Option Value)(base:Heap)(A:Around)(outer:List Env)(s:Shared)(H:Hp):Prop where
 frames:A.frames=some outer
 mod:Mod K mg base
 bs:∀b o,base.get? b=some o->s.heap.get? b=some o/\H b=none
 rJ:base.objs.size<=s.heap.objs.size
 jd:s.heap.FunFrames base outer
 t6:∀b∈frs outer,H b=none
 hok:fJ P w H s.heap
 bare:AllBare s.gens
noncomputable def CE(outer:List Env)(P:Program)(w:World)(H:Hp)(s:Shared)(Q:VK)(u:Value)(s':Shared):Prop:=
 ∃v H',s'.os=s.os/\AllBare s'.gens/\Un (frs outer) [] H H' s.heap s'.heap/\fJ P w H' s'.heap/\RelV v u/\Q v H'
noncomputable def CR(CX:lS)(outer:List Env)(P:Program)(w:World)(H:Hp)(s:Shared)(Q:VK)(E:XK)(r:Result)(s':Shared):Prop:=
 match r with
 |.ok (.ret u)=>CE outer P w H s Q u s'
 |.ok _=>False
 |.error e=>CX outer H s E e s'
structure iF(P:Program)(w:World)(K:PySem.W.Frag)(mg:Str->Option Value)(base:Heap)(CX:lS)(k:Nat)(f:Addr)(fd:FuncData)(ps:List Str)(sp:Sp):Prop where
 len:∀vs H Q E,sp vs H Q E->vs.length=ps.length
 run:∀(A:Around) (outer:List Env) (s:Shared) (H:Hp) (args:Args) (us:List Value) (vs:List V) (Q:VK) (E:XK),gz k A->yo P w K mg base A outer s H->BindsTo s fd args (ps.zip us)->Vals vs us->sp vs H Q E->
  codeAny (model P w) A (.call (.ref f) args) (CR CX outer P w H s Q E) s
section
variable{X:Cx}{pins:List (Addr×Obj)}{σ:St}{H:Hp}{s s':Shared}
def Inv.Su(I:Inv X pins σ H s):yo X.prog X.w X.K X.mg X.base X.A X.stack s H:=
 ⟨I.ok.frames,I.ok.mod,I.bs,WV I.ok.rJ I.sz,I.stack,I.wD,I.hok,I.bare⟩
def Inv.after{Q:VK}{u:Value}(I:Inv X pins σ H s)(h:CE X.stack X.prog X.w H s Q u s'):EP X pins σ Q u s':=by
 obtain⟨v,H',os,bare,un,hok,r,q⟩:=h;obtain⟨hh,g,d,t,os'⟩:=s';obtain rfl:os'=s.os:=os;exact⟨v,H',I.call (h':=hh) (g':=g) (d':=d) (t':=t) (ch:=[]) un hok bare (λb z=>absurd z (by simp)),r,q⟩
end
noncomputable def Oz(sp:Sp)(jB:List V)(E:XK)(t:TA):TE:=λσ H Q=>t σ H λvs H1=>sp (vs++jB) H1 Q E
noncomputable def Binds(K:PySem.W.Frag)(fd:FuncData)(ps:List Str)(ds:List Value):Prop:=
 ∀(s:Shared) (us:List Value),K.In s.heap->(us++ds).length=ps.length->BindsTo s fd ⟨us,[]⟩ (ps.zip (us++ds))
def Binds.all{K:PySem.W.Frag}{fd:FuncData}{ps:List Str}(h:∀us:List Value,us.length=ps.length->bindArgs fd ⟨us,[]⟩=pure (ps.zip us)):Binds K fd ps []:=λs us _ hl=>by
 rw[Xn]at hl ⊢;exact .of_eq (h us hl)
noncomputable def Passes(CX:lS)(X:Cx)(E:XK):Prop:=∀(pins:List (Addr×Obj)) (σ:St) (H:Hp) (s:Shared) (e:Value) (s':Shared),Inv X pins σ H s->CX X.stack H s E e s'->X.xe e s'
section
variable{X:Cx}{CX:lS}{k:Nat}{f:Addr}{fd:FuncData}{ps:List Str}{sp:Sp}{jB:List V}{ds:List Value}{E:XK}{x:Str}{p pos:Pos}{e:Expr}{es:List Expr}{t:TA}
def JF{pins:List (Addr×Obj)}{σ:St}{H:Hp}{s:Shared}{Q:VK}{us:List Value}{vs:List V}(F:iF X.prog X.w X.K X.mg X.base CX k f fd ps sp)(hr:gz k X.A)(hb:Binds X.K fd ps ds)(hd:Vals jB ds)(hx:Passes CX X E)
  (I:Inv X pins σ H s) (r:Vals vs us) (h:sp (vs++jB) H Q E):wpAny (model X.prog X.w) X.A (call (.ref f) us) (EP X pins σ Q) X.xe s:=by
 have r2:Vals (vs++jB) (us++ds):=r.append hd;have hl:(us++ds).length=ps.length:=by rw[<-r2.length];exact F.len _ _ _ _ h
 refine wpAny_call (Yu (F.run X.A X.stack s H ⟨us,[]⟩ (us++ds) (vs++jB) Q E hr I.Su (hb s us I.rK hl) r2 h) λr s' hq=>?_);cases r with
 |error e=>exact hx pins σ H s e s' I hq
 |ok fl=>
  cases fl with
  |ret u=>exact I.after hq
  |next=>exact False.elim hq
  |brk=>exact False.elim hq
  |cont=>exact False.elim hq
def Gr(F:iF X.prog X.w X.K X.mg X.base CX k f fd ps sp)(hr:gz k X.A)(hg:Gl X x)(hm:X.mg x=some (.ref f))(hk:PySem.W.keepIn X.K (.ref f)=true)(hb:Binds X.K fd ps ds)(hd:Vals jB ds)(hx:Passes CX X E)
  (ha:PA X (e :: es) t) (hdb:(x==("__debug__" : Str))=false:=by decide) (he:starEach (e :: es) X.env=(false,eval e X.env) :: starEach es X.env:=by rfl) (hpl:(backTo pos (starEach es X.env)).any (·.1)=false:=by rfl) :
  PE X (.Call (.Name x p) (e :: es) [] pos) (Oz sp jB E t):=by
 intro pins s σ H Q I h;refine Yc (wG I hg hm ?_ hdb);refine PySem.W.callWith_K (h₀:=X.base) I.ok.mod.EB hk (bQ (ha pos pins s σ H _ I h) λus s1 ⟨vs,H1,I1,r,q⟩=>⟨I1.rK,?_⟩) he hpl;exact JF F hr hb hd hx I1 r q
end
structure bJ(N P:List Str)(sc:Scope):Prop where
 kind:sc.kind=.function
 co:sc.isCoroutine=false
 gen:sc.isGenerator=false
 nd:N.Nodup
 pre:N.take P.length=P
 par:∀x∈P,sc.names.lookup x=some .local\/sc.names.lookup x=some .cell
 JH:∀y∈sc.names,y.2≠.free
theorem rP{kindOf:Str->Option NameKind}{x:Str}:∀{binds:List (Str×Value)}{m:Str->Option Value},(∀v,(x,v)∉binds)->bindL kindOf binds m x=m x
 |[],_,_=>rfl
 | (n,v) :: r,m,h=>by
  unfold bindL;rw[rP λw hw=>h w (W9 _ hw)];split
  .have:x≠n:=by rintro rfl;exact h v XC
   simp[this]
  .rfl
theorem rQ{kindOf:Str->Option NameKind}{x:Str}:∀{binds:List (Str×Value)}{m:Str->Option Value},(∀v,(x,v)∉binds)->bindC kindOf binds m x=m x
 |[],_,_=>rfl
 | (n,v) :: r,m,h=>by
  unfold bindC;rw[rQ λw hw=>h w (W9 _ hw)];split
  .rfl
  .have:x≠n:=by rintro rfl;exact h v XC
   simp[this]
theorem rR{kindOf:Str->Option NameKind}{x:Str}{v:Value}:∀{P:List Str}{vs:List Value}{i:Nat}{m:Str->Option Value},P.Nodup->P[i]?=some x->vs[i]?=some v->kindOf x=some .local->
  bindL kindOf (P.zip vs) m x=some v
 |[],_,_,_,_,h,_,_=>by simp at h
 |_ :: _,[],_,_,_,_,h,_=>by simp at h
 |p :: P,w :: vs,0,m,nd,h1,h2,hk=>by
  simp at h1 h2;subst h1;subst h2;show bindL kindOf ((p,w) :: P.zip vs) m p=_;unfold bindL;rw[rP λv hv=>(List.nodup_cons.mp nd).1 (ZN hv).1,xV hk];simp
 |p :: P,w :: vs,i+1,m,nd,h1,h2,hk=>by
  show bindL kindOf ((p,w) :: P.zip vs) m x=_;unfold bindL;exact rR (i:=i) (List.nodup_cons.mp nd).2 (by simpa using h1) (by simpa using h2) hk
theorem rS{kindOf:Str->Option NameKind}{x:Str}{v:Value}:∀{P:List Str}{vs:List Value}{i:Nat}{m:Str->Option Value},P.Nodup->P[i]?=some x->vs[i]?=some v->kindOf x≠some .local->
  bindC kindOf (P.zip vs) m x=some v
 |[],_,_,_,_,h,_,_=>by simp at h
 |_ :: _,[],_,_,_,_,h,_=>by simp at h
 |p :: P,w :: vs,0,m,nd,h1,h2,hk=>by
  simp at h1 h2;subst h1;subst h2;show bindC kindOf ((p,w) :: P.zip vs) m p=_;unfold bindC;rw[rQ λv hv=>(List.nodup_cons.mp nd).1 (ZN hv).1,WQ hk];simp
 |p :: P,w :: vs,i+1,m,nd,h1,h2,hk=>by
  show bindC kindOf ((p,w) :: P.zip vs) m x=_;unfold bindC;exact rS (i:=i) (List.nodup_cons.mp nd).2 (by simpa using h1) (by simpa using h2) hk
noncomputable def start(N:List Str)(vs:List V):St:=vs.map some++List.replicate (N.length - vs.length) none
noncomputable def oM(CX:lS)(P:Program)(w:World)(K:PySem.W.Frag)(mg:Str->Option Value)(base:Heap)(N:List Str)(qual:Str)(scope:Scope)(f:Addr)(cd:Value)(A:Around)(outer:List Env)(s:Shared)(H:Hp)(E:XK):Cx where
 prog:=P
 w:=w
 K:=K
 mg:=mg
 base:=base
 A:=A.deeper (envOfC qual scope s.heap.objs.size f cd)
 N:=N
 s₀:=s
 H₀:=H
 env:=envOfC qual scope s.heap.objs.size f cd
 outer:=outer
 stack:=envOfC qual scope s.heap.objs.size f cd :: outer
 ex:=[]
 calm:=true
 fn:=λ_=>true
 pn:=[]
 xe:=λe s'=>wpAny (model P w) (A.deeper (envOfC qual scope s.heap.objs.size f cd)) (leaving (envOfC qual scope s.heap.objs.size f cd) e) (λ_ s''=>CX outer H s E e s'') (λe' s''=>CX outer H s E e' s'') s'
def ud{sc:Scope}{n:Nat}{x:Str}(h:sc.names.lookup x=some .cell):∃c,(cellsFrom n sc.names []).lookup x=some c:=by
 have q:=ZP sc.names n [] (.inl h);exact Option.isSome_iff_exists.mp q
def Aa{CX:lS}{P:Program}{w:World}{K:PySem.W.Frag}{mg:Str->Option Value}{base:Heap}{N ps:List Str}{qual:Str}{scope:Scope}{f:Addr}{cd:Value}{A:Around}{outer:List Env}{s s1:Shared}{H:Hp}{E:XK}{us:List Value}{vs:List V}
  (S:bJ N ps scope) (hd:A.handled=none) (e0:yo P w K mg base A outer s H) (hl:vs.length=ps.length) (r:Vals vs us)
  (x:InCallC s s.heap.objs.size (bindL (envOfC qual scope s.heap.objs.size f cd).kindOf (ps.zip us) λ_=>none) (cellsFrom (s.heap.objs.size+1) scope.names []) (bindC (envOfC qual scope s.heap.objs.size f cd).kindOf (ps.zip us) λ_=>none) s1) :
  Inv (oM CX P w K mg base N qual scope f cd A outer s H E) [] (start N vs) H s1:=by
 have hpl:ps.length<=N.length:=by have:=WT List.length S.pre;rw[Yn]at this;omega
 obtain⟨h1,tk,rfl,hk⟩:=x.done;have Ab:∀b:Addr,b∉(oM CX P w K mg base N qual scope f cd A outer s H E).ex:=λb z=>absurd (show b∈([]:List Addr)from z) (by simp);refine⟨⟨e0.mod,S.kind,rfl,rfl,qh _,λy z c h1 h2=>?_,λy hy=>?_,λy c _ h=>?_,λ_=>hd,Around.frames_deeper e0.frames,.inr ⟨rfl,rfl⟩,λb z=>absurd z (Ab b),e0.bs,e0.rJ,λb _ _=>Ab b,λb z=>absurd z (Ab b),e0.jd,e0.t6⟩,
  rfl,e0.bare,Un.kept hk,⟨_,x.toInCall.ns,λi y v h1 h2 h3=>?_⟩,λy c h=>⟨_,x.cell y c h⟩,e0.hok.fresh (qh _),λy c h=>?_,λp hp=>absurd (show p∈([]:List (Addr×Obj))from hp) (by simp),e0.hok.kept hk,?_⟩
 .exact name_of_addr x.apart (Yp h1) (Yp h2)
 .have hy:scope.names.lookup y=some .cell\/scope.names.lookup y=some .free:=hy;rcases hy with hy|hy
  .exact ud hy
  .exact absurd rfl (S.JH _ (Yp hy))
 .exact Zx (x.above y c (Yp h))
 .have hi:i<vs.length:=by
   unfold start at h2;by_cases hi:i<vs.length
   .exact hi
   .rw[Xg (by simpa using hi)]at h2;rw[ZJ]at h2;split at h2<;>cases h2
  have ha:vs[i]?=some v:=by
   unfold start at h2;rw[VL (by simpa using hi),WX]at h2;cases e:vs[i]? with
   |none=>rw[e]at h2;cases h2
   |some a=>rw[e]at h2;cases h2;rfl
  obtain⟨u,hu,rv⟩:=r.get ha;have hp:ps[i]?=some y:=by
   rw[<-S.pre,ZF (by omega)];exact h1
  have QO:ps.Nodup:=by rw[<-S.pre];exact S.nd.sublist (List.take_sublist _ _)
  refine⟨u,rv,?_⟩;rcases S.par y (W2 hp)with k|k
  .exact .inl ⟨k,rR QO hp hu k⟩
  .obtain⟨c,e⟩:=ud (n:=s.heap.objs.size+1) k;refine .inr ⟨.inl k,c,e,?_⟩;have q:=x.cell y c e;rw[rS QO hp hu (by show scope.names.lookup y≠_;rw[k];decide)]at q;exact q
 .exact e0.hok.fresh (Zx (x.above y c (Yp h)))
 .unfold start;show _=N.length;rw[WN,W6,Z0];omega
def OA{CX:lS}{P:Program}{w:World}{K:PySem.W.Frag}{mg:Str->Option Value}{base:Heap}{k:Nat}{f:Addr}{name qual:Str}{params:Arguments}{body:List Stmt}{scope:Scope}{dV kV doc pm cdv ct oc:Value}{an od:Option Addr}
  {osl:Array (Option Value)} {N ps:List Str} {sp:Sp} (lk:K.lookup f=some ⟨oc,od,.func (PySem.W.fnOf name qual params body scope dV kV doc pm an cdv ct),osl⟩) (hcd:PySem.W.codeIn K cdv qual=true) (S:bJ N ps scope)
  (len:∀vs H Q E,sp vs H Q E->vs.length=ps.length)
  (hbody:∀(A:Around) (outer:List Env) (s:Shared) (H:Hp) (vs:List V) (Q:VK) (E:XK),gz k (A.deeper (envOfC qual scope s.heap.objs.size f cdv))->sp vs H Q E->
   ∃t,iD (oM CX P w K mg base N qual scope f cdv A outer s H E) body t/\t { nx:=λ_ H'=>Q .aU H',rt:=Q } (start N vs) H) :
  iF P w K mg base CX (k+1) f (PySem.W.fnOf name qual params body scope dV kV doc pm an cdv ct) ps sp:=by
 refine⟨len,λA outer s H args us vs Q E hr e0 hb r ki=>?_⟩;have hl:=len _ _ _ _ ki;have KX:K.In s.heap:=e0.mod.EB.keeps λb o e=>(e0.bs b o e).1;have lim:s.heap.NoLimit:=e0.mod.nolimit.keeps λb o e=>(e0.bs b o e).1;have hkind:∀y∈ps.zip us,scope.names.lookup y.1=some .local\/(scope.names.lookup y.1=some .cell/\((cellsFrom (s.heap.objs.size+1) scope.names []).lookup y.1).isSome=true):=λ⟨n,v⟩ hy=>by
  rcases S.par n (ZN hy).1 with q|q
  .exact .inl q
  .exact .inr ⟨q,ZP _ _ _ (.inl q)⟩
 refine codeAny_call_function hr.depth (KX _ _ lk) rfl S.co S.gen rfl (PySem.W.codeRec_of KX hcd) (hb _ _ _ _ ?_);refine wpAny_newFunctionEnv_cells S.kind hkind λenv he s1 x=>?_;subst he;refine⟨lim.keeps x.toInCall.keep,codeAny_func ?_⟩;obtain⟨t,ht,hq⟩:=hbody A outer s H vs Q E (hr.deeper _) ki;have I:Inv (oM CX P w K mg base N qual scope f cdv A outer s H E) [] (start N vs) H s1:=Aa S hr.hd e0 hl r x;refine Xx (ht [] s1 (start N vs) H _ I hq) (λfl s' hs=>?_) λe s' hs=>hs;have fin:∀{σ':St} {H':Hp} {v:V} {u:Value},Inv (oM CX P w K mg base N qual scope f cdv A outer s H E) [] σ' H' s'->RelV v u->Q v H'->CE outer P w H s Q u s':=
  λ{σ' H' v u} J rv q=>⟨v,H',J.os,J.bare,J.base,J.hok,rv,q⟩
 cases fl with
 |ret u=>
  obtain⟨v,σ',H',J,rv,q⟩:=hs;exact fin J rv q
 |next=>
  obtain⟨σ',H',J,q⟩:=hs;exact fin (v:=V.aU) (u:=Value.none) J rfl q
 |brk=>
  obtain⟨_,_,_,q⟩:=hs;exact False.elim q
 |cont=>
  obtain⟨_,_,_,q⟩:=hs;exact False.elim q
section
variable{X:Cx}{x:Str}{p pos:Pos}{e:Expr}{es:List Expr}{t:TA}{id T:String}{r:List V->Hp->VK->Prop}
noncomputable def JJ(r:List V->Hp->VK->Prop)(t:TA):TE:=λσ H Q=>t σ H λvs H1=>r vs H1 Q
def Cp (hc:gn X (.builtin id) r) (hg:Gl X x) (hm:X.mg x=none) (hv:bootBuiltins x=some (.builtin id)) (ha:PA X (e :: es) t) (hn:x≠"__name__" :=by decide) (hdb:(x==("__debug__" : Str))=false:=by decide)
  (he:starEach (e :: es) X.env=(false,eval e X.env) :: starEach es X.env:=by rfl) (hpl:(backTo pos (starEach es X.env)).any (·.1)=false:=by rfl):PE X (.Call (.Name x p) (e :: es) [] pos) (JJ r t):=by
 intro pins s σ H Q I h;refine Yc (gX I hg hm hv ?_ hn hdb);exact Za (bQ (ha pos pins s σ H _ I h) λus s1 ⟨vs,H1,I1,r1,q1⟩=>hc pins s1 σ H1 vs us Q I1 r1 q1) he hpl
def Ac (hc:gn X (.type T) r) (hg:Gl X x) (hm:X.mg x=none) (hv:bootBuiltins x=some (.type T)) (ha:PA X (e :: es) t) (hn:x≠"__name__" :=by decide) (hdb:(x==("__debug__" : Str))=false:=by decide)
  (he:starEach (e :: es) X.env=(false,eval e X.env) :: starEach es X.env:=by rfl) (hpl:(backTo pos (starEach es X.env)).any (·.1)=false:=by rfl):PE X (.Call (.Name x p) (e :: es) [] pos) (JJ r t):=by
 intro pins s σ H Q I h;refine Yc (gX I hg hm hv ?_ hn hdb);exact Xj (bQ (ha pos pins s σ H _ I h) λus s1 ⟨vs,H1,I1,r1,q1⟩=>hc pins s1 σ H1 vs us Q I1 r1 q1) he hpl
end
end L2
namespace HT
open PySem PyProof.Rows
section
variable{prog:Program}{w:World}{A:Around}{E:Value->Shared->Prop}{s:Shared}
def Gs{t b:Addr}{vs ws:List Value}{Q:Value->Shared->Prop}(ht:IsTup s.heap t vs.toArray)(hb:IsTup s.heap b ws.toArray)(hv:vs≠[])
  (h1:ws=[]->Q (.ref t) s) (h2:ws≠[]->Q (.ref s.heap.objs.size) { s with heap:=s.heap.push { cls:=.type "tuple",data:=.seq (vs++ws).toArray }})
  (hsz:vs.length+ws.length<=sizeLine):wpAny (model prog w) A (binaryOp .Add (.ref t) (.ref b)) Q E s:=by
 obtain⟨⟨cls,dd,data,sl⟩,ho,hc,n,hd⟩:=id ht;obtain⟨⟨Sv,dd2,data2,sl2⟩,ho2,hc2,n2,hd2⟩:=id hb;simp only at hc hd hc2 hd2;subst hc hd hc2 hd2;have e:vs.toArray++ws.toArray=(vs++ws).toArray:=by simp
 by_cases hw:ws=[]
 .exact concat_meets ⟨_,ho,rfl⟩ ⟨_,ho2,rfl⟩ Zz Z8 YU YN (YJ _ _)
   (tuple_addW1 t b vs.toArray ws.toArray n n2 dd dd2 sl sl2 (by simpa using hv) (by simp[hw])) ⟨ho,ho2,h1 hw⟩
 .refine concat_meets ⟨_,ho,rfl⟩ ⟨_,ho2,rfl⟩ Zz Z8 YU YN (YJ _ _)
   (tuple_addW2 t b vs.toArray ws.toArray n n2 dd dd2 sl sl2 (by simpa using hv) (by simpa using hw) (by rw[MM,MM];exact hsz)) ⟨ho,ho2,?_⟩
  rw[e];exact h2 hw
noncomputable def aK(n d:Nat):Option Int->Nat
 |none=>d
 |some v=>if v<0 then (v+(n:Int)).toNat else min v.toNat n
def ue(n d:Nat)(hd:d<=n)(o:Option Int):aK n d o<=n:=by
 cases o with
 |none=>exact hd
 |some v=>
  show(if v<0 then (v+(n:Int)).toNat else min v.toNat n)<=n;by_cases hv:v<0
  .rw[xV hv];omega
  .rw[WQ hv];exact Nat.min_le_right _ _
def wJ(v:Int)(n d:Nat):(if v<0 then max (v+(n:Int)) 0 else min v (n:Int))=((aK n d (some v):Nat):Int):=by
 show(if v<0 then max (v+(n:Int)) 0 else min v (n:Int))=(((if v<0 then (v+(n:Int)).toNat else min v.toNat n):Nat):Int)
 by_cases hv:v<0
 .simp only[xV hv];omega
 .simp only[WQ hv];omega
def yp(lo hi:Option Int)(n:Nat):Builtin.Slice.sliceAdjust lo hi 1 (n:Int)=(((aK n 0 lo:Nat):Int),((aK n n hi:Nat):Int)):=by
 have h1:¬ ((1:Int)<0):=by omega
 unfold Builtin.Slice.sliceAdjust;simp only[h1,XH];refine aak ?_ ?_
 .cases lo with
  |none=>rfl
  |some v=>exact wJ v n 0
 .cases hi with
  |none=>rfl
  |some v=>exact wJ v n n
def yq(i j:Nat):Builtin.Slice.slicePlaces (i:Int) (j:Int) 1=j - i:=by
 unfold Builtin.Slice.slicePlaces;have h1:(1:Int) > 0:=by omega
 simp only[h1,Xa,Int.ediv_one];split<;>omega
def pq{v:Value}{o:Option Int}{Q:Option Int->Shared->Prop}(p:IsPart v o)(h:Q o s):wpAny (model prog w) A (Builtin.Slice.slicePartIndex v) Q E s:=by
 cases p with
 |none=>exact slicePart_none h
 |int i t=>exact slicePart_int h
def jC{sl:Addr}{vl vu:Value}{lo hi:Option Int}{n:Nat}{Q:Int×Int×Nat->Shared->Prop}(hs:s.heap.IsSliceOf sl vl vu .none)(pl:IsPart vl lo)(pu:IsPart vu hi)
  (h:Q (((aK n 0 lo:Nat):Int),1,aK n n hi - aK n 0 lo) s):wpAny (model prog w) A (Builtin.Slice.sliceApplied (.ref sl) (pure (n:Int))) Q E s:=by
 obtain⟨os,hos,hcs,hds⟩:=id hs;unfold Builtin.Slice.sliceApplied Builtin.Slice.sliceFields;refine fS (fS (X8 hos hds (x:=vl) rfl (fS (X8 hos hds (x:=vu) rfl (fS (X8 hos hds (x:=.none) rfl (gV ?_)))))));refine fS (slicePart_none ?_);show wpAny _ _ (if ((1:Int)==0)=true then _ else _) _ _ s;rw[WQ (by decide)];refine fS (pq pl (fS (pq pu (fS (gV ?_)))));show wpAny _ _ (match Builtin.Slice.sliceAdjust lo hi 1 (n:Int)with | (lo,hi)=>pure (lo,(1:Int),Builtin.Slice.slicePlaces lo hi 1)) _ _ s;rw[yp lo hi n];show wpAny _ _ (pure (((aK n 0 lo:Nat):Int),(1:Int),Builtin.Slice.slicePlaces ((aK n 0 lo:Nat):Int) ((aK n n hi:Nat):Int) 1)) _ _ s;rw[yq];exact gV h
def Cq(xs:Array Value)(i k:Nat):((List.range k).filterMap λ(m:Nat)=>xs[((i:Int)+(m:Int)*1).toNat]?).toArray=((xs.toList.drop i).take k).toArray:=by
 have e:(λ(m:Nat)=>xs[((i:Int)+(m:Int)*1).toNat]?)=λm=>xs[i+m]?:=by
  funext m
  have:((i:Int)+(m:Int)*1).toNat=i+m:=by omega
  rw[this]
 rw[e];have:=pick_run xs i k;rw[Zi]at this;have e2:((λx=>xs[x]?) ∘ λx=>i+x)=λm=>xs[i+m]?:=rfl;rw[e2]at this;rw[this]
def nT{t sl:Addr}{items:Array Value}{vl vu:Value}{lo hi:Option Int}{Q:Value->Shared->Prop}(ht:IsTup s.heap t items)(hs:s.heap.IsSliceOf sl vl vu .none)(pl:IsPart vl lo)(pu:IsPart vu hi)
  (hw:¬ (aK items.size 0 lo=0/\aK items.size items.size hi=items.size))
  (h:Q (.ref s.heap.objs.size) { s with heap:=s.heap.push { cls:=.type "tuple",data:=.seq ((items.toList.drop (aK items.size 0 lo)).take (aK items.size items.size hi - aK items.size 0 lo)).toArray }})
  (hsz:items.size<=sizeLine):wpAny (model prog w) A (getItem (.ref t) (.ref sl)) Q E s:=by
 have sY:sizeOk (.seq ((items.toList.drop (aK items.size 0 lo)).take (aK items.size items.size hi - aK items.size 0 lo)).toArray):=by
  show((items.toList.drop (aK items.size 0 lo)).take (aK items.size items.size hi - aK items.size 0 lo)).toArray.size<=sizeLine;rw[MM,Yn,Yx,Xw];omega
 have hj:aK items.size items.size hi<=items.size:=ue _ _ (qh _) hi;obtain⟨os,hos,hcs,hds⟩:=id hs;have JK:s.TypeIs (.ref sl) "slice" :=⟨os,hos,hcs⟩
 unfold getItem;try with_reducible refine X3 ?_
 first|refine fS (gV ?_)|skip
 refine fS (wpAny_sequenceKey ht.typeIs (by decide) ?_);refine fS (Xl (name:=Str.ofString "__getitem__") ht.typeIs XR
  (Xf XR ht.typeIs entry_tuple_getitem ?_ (args_tuple_getitem _ _)))
 show wpAny _ _ (Builtin.Tuple.tupleItemsOf (.ref t) >>= _) _ _ s;refine fS (tupleItemsOf_ ht ?_);refine fS (Yk JK ?_);rw[xV (by decide)];refine fS (jC hs pl pu ?_);have hno:¬ ((((aK items.size 0 lo:Nat):Int)==0&&(1:Int)==1&&(aK items.size items.size hi - aK items.size 0 lo)==items.size)=true):=by
  intro q;rw[Vp,Vp]at q;have q1:((aK items.size 0 lo:Nat):Int)=0:=eq_of_beq q.1.1;have q2:aK items.size items.size hi - aK items.size 0 lo=items.size:=eq_of_beq q.2;exact hw ⟨by omega,by omega⟩
 show wpAny _ _ (if (((aK items.size 0 lo:Nat):Int)==0&&(1:Int)==1&&(aK items.size items.size hi - aK items.size 0 lo)==items.size)=true then _ else _) _ _ s;rw[WQ hno,Cq];first
  |exact fS (m:=Builtin.Tuple.tupleExact _) (W7 (gV ⟨_,rfl,gV h⟩) sY)
  |exact fS (m:=Builtin.Tuple.tupleExact _) (W7 (fS (gV (gV ⟨_,rfl,gV h⟩))) sY)
  |exact fS (fS (m:=Builtin.Tuple.tupleExact _) (W7 (gV (gV ⟨_,rfl,gV h⟩)) sY))
  |exact fS (fS (m:=Builtin.Tuple.tupleExact _) (W7 (gV ⟨_,rfl,gV h⟩) sY))
end
end HT
namespace L2
open PySem PySem.Spec PyProof.Rows
abbrev TO:=St->Hp->(Option Int->Hp->Prop)->Prop
noncomputable def PO(X:Cx)(e:Option Expr)(t:TO):Prop:=
 ∀(pins:List (Addr×Obj)) (s:Shared) (σ:St) (H:Hp) (Q:Option Int->Hp->Prop),Inv X pins σ H s->t σ H Q->
  wpAny (model X.prog X.w) X.A (evalPart e X.env) (λu s'=>∃o H',Inv X pins σ H' s'/\IsPart u o/\Q o H') X.xe s
noncomputable def Gu:TO:=λ_ H Q=>Q none H
noncomputable def OB(t:TE):TO:=λσ H Q=>t σ H λx H1=>∃i,x=.int i/\Q (some i) H1
section
variable{X:Cx}{e:Expr}{te:TE}{lo hi:Option Expr}{tl th:TO}{pos p2:Pos}
def Gv:PO X none Gu:=by
 intro pins s σ H Q I h;rw[evalPart_none];exact gV ⟨none,H,I,.none,h⟩
def Gw(h:PE X e te):PO X (some e) (OB te):=by
 intro pins s σ H Q I hw;rw[evalPart_some];refine bQ (h pins s σ H _ I hw) λu s1 ⟨x,H1,I1,r1,q1⟩=>?_;obtain⟨i,rfl,q⟩:=q1;obtain⟨t,rfl⟩:=r1;exact⟨some i,H1,I1,.int i t,q⟩
noncomputable def kj(X:Cx)(r:V->Option Int->Option Int->Hp->VK->Prop):Prop:=
 ∀(pins:List (Addr×Obj)) (s:Shared) (σ:St) (H:Hp) (x:V) (v vl vu:Value) (lo hi:Option Int) (sl:Addr) (Q:VK),Inv X pins σ H s->RelV x v->s.heap.IsSliceOf sl vl vu .none->IsPart vl lo->IsPart vu hi->r x lo hi H Q->
  ∃T id,typeLookup (.type T) "__getitem__" = pure (some (.builtin id))/\s.TypeIs v T/\wpAny (model X.prog X.w) X.A (getItem v (.ref sl)) (EP X pins σ Q) X.xe s
noncomputable def Uz(r:V->Option Int->Option Int->Hp->VK->Prop)(te:TE)(tl th:TO):TE:=λσ H Q=>te σ H λx H1=>tl σ H1 λl H2=>th σ H2 λu H3=>r x l u H3 Q
def Cr{r:V->Option Int->Option Int->Hp->VK->Prop}(hr:kj X r)(he:PE X e te)(hl:PO X lo tl)(hu:PO X hi th):PE X (.Subscript e (.Slice lo hi none p2) pos) (Uz r te tl th):=by
 intro pins s σ H Q I h;refine Subscript_ (bQ (he pins s σ H _ I h) λv s1 ⟨x,H1,I1,r1,q1⟩=>?_);refine wpAny_Slice (bQ (hl pins s1 σ H1 _ I1 q1) λvl s2 ⟨l,H2,I2,pl,q2⟩=>bQ (hu pins s2 σ H2 _ I2 q2) λvu s3 ⟨u,H3,I3,pu,q3⟩=>?_);rw[evalPart_none];refine gV ?_;have I4:Inv X pins σ H3 { s3 with heap:=s3.heap.push { cls:=.type "slice",data:=.fields #[vl,vu,.none]}}:=I3.kept (t':=s3.toks) λb ob q=>lM _ q;obtain⟨T,id,hT,ht,hg⟩:=hr pins { s3 with heap:=s3.heap.push { cls:=.type "slice",data:=.fields #[vl,vu,.none]}} σ H3 x v vl vu l u s3.heap.objs.size Q I4 r1 (Heap.IsSliceOf.new ..) pl pu q3;show wpAny (model X.prog X.w) X.A (subscriptTail e (.Slice lo hi none p2) v (.ref s3.heap.objs.size)) (EP X pins σ Q) X.xe { s3 with heap:=s3.heap.push { cls:=.type "slice",data:=.fields #[vl,vu,.none]}};exact tail_any (ops:=[.ref s3.heap.objs.size,v]) ht hT hg (by with_unfolding_all rfl)
noncomputable def mC(xs:List V)(lo hi:Option Int):List V:=(xs.drop (HT.aK xs.length 0 lo)).take (HT.aK xs.length xs.length hi - HT.aK xs.length 0 lo)
def nV(xs:List V)(lo hi:Option Int):(mC xs lo hi).length<=xs.length:=by
 unfold mC;rw[Yn,Yx];omega
noncomputable def Sw(K:PySem.W.Frag):V->Option Int->Option Int->Hp->VK->Prop:=λx lo hi H Q=>∃a xs,x=.ref a/\dz K H a xs/\
 ¬ (HT.aK xs.length 0 lo=0/\HT.aK xs.length xs.length hi=xs.length)/\∀p,H p=none->Q (.ref p) (upd H p (.tup (mC xs lo hi)))
def JL:kj X (Sw X.K):=by
 intro pins s σ H x v vl vu lo hi sl Q I rx hs pl pu h;obtain⟨a,xs,rfl,hx,hw,q⟩:=h;cases rx;obtain⟨its,r,ht,hz⟩:=I.tuple hx;have hlen:its.toArray.size=xs.length:=by rw[MM];exact r.length.symm
 refine⟨"tuple",_,PyProof.Rows.slot_tuple_getitem.lookup,ht.typeIs,?_⟩;refine HT.nT ht hs pl pu (by rw[hlen];exact hw) ?_ (by rw[hlen];exact hz);rw[hlen];refine⟨.ref s.heap.objs.size,_,I.laid (t':=s.toks) (o:=.tup (mC xs lo hi)) (λb ob q=>lM _ q) (qh _) ?_,rfl,q _ (I.hok.fresh (qh _))⟩;exact⟨WV (nV xs lo hi) hz,_,(r.drop (HT.aK xs.length 0 lo)).take (HT.aK xs.length xs.length hi - HT.aK xs.length 0 lo),ZL _ _⟩
noncomputable def OC(K:PySem.W.Frag):R2:=λx y H Q=>∃a b xs ys,x=.ref a/\y=.ref b/\dz K H a xs/\dz K H b ys/\xs≠[]/\xs.length+ys.length<=sizeLine/\
 (ys=[]->Q (.ref a) H)/\(ys≠[]->∀p,H p=none->Q (.ref p) (upd H p (.tup (xs++ys))))
def Vals.qx{xs:List V}{us:List Value}(r:Vals xs us):us=[]↔xs=[]:=by
 cases r with
 |nil=>simp
 |cons _ _=>simp
def Gx:dB X (binaryOp .Add) (OC X.K):=by
 intro pins s σ H x y v u Q I rx ry h;obtain⟨a,b,xs,ys,rfl,rfl,ha,hb,hx,hz,q1,q2⟩:=h;cases rx;cases ry;obtain⟨its,r1,p1,_⟩:=I.tuple ha;obtain⟨its2,r2,p2,_⟩:=I.tuple hb;refine HT.Gs p1 p2 (λz=>hx (r1.qx.mp z)) (λz=>⟨.ref a,H,I,rfl,q1 (r2.qx.mp z)⟩) (λz=>?_) (by rw[<-r1.length,<-r2.length];exact hz);refine⟨.ref s.heap.objs.size,_,I.laid (t':=s.toks) (o:=.tup (xs++ys)) (λb ob q=>lM _ q) (qh _) ?_,rfl,q2 (λw=>z (r2.qx.mpr w)) _ (I.hok.fresh (qh _))⟩;exact⟨by rw[WN];exact hz,_,r1.append r2,ZL _ _⟩
end
noncomputable def cY(n:Nat)(i:Int):Option Nat:=if 0<=i then (if i<n then some i.toNat else none)else if -(n:Int)<=i then some (i+n).toNat else none
noncomputable def bu{α:Type}(xs:List α)(i:Int):Option α:=(cY xs.length i).bind λj=>xs[j]?
def Gy{n:Nat}{i:Int}{j:Nat}(h:cY n i=some j):seqIndex? i n=some j/\j<n/\-(n:Int)<=i/\i<n:=by
 unfold cY at h;by_cases h0:0<=i
 .rw[xV h0]at h;by_cases h1:i<n
  .rw[xV h1]at h;have e:i.toNat=j:=Er h;exact⟨by rw[seqIndex_of h0 h1,e],by omega,by omega,h1⟩
  .rw[WQ h1]at h;cases h
 .rw[WQ h0]at h;by_cases h1:-(n:Int)<=i
  .rw[xV h1]at h;have e:(i+n).toNat=j:=Er h;exact⟨by rw[seqIndex_neg (by omega) h1,e],by omega,h1,by omega⟩
  .rw[WQ h1]at h;cases h
def qy{α:Type}{xs:List α}{i:Int}{v:α}(h:bu xs i=some v):∃j,seqIndex? i xs.length=some j/\xs[j]?=some v/\j<xs.length/\-(xs.length:Int)<=i/\i<xs.length:=by
 unfold bu at h;cases e:cY xs.length i with
 |none=>rw[e]at h;cases h
 |some j=>
  rw[e]at h;obtain⟨h1,h2,h3,h4⟩:=Gy e;exact⟨j,h1,h,h2,h3,h4⟩
def gI{α:Type}{xs:List α}{j:Nat}{v:α}(h:xs[j]?=some v):bu xs (j:Int)=some v:=by
 have hj:j<xs.length:=(List.getElem?_eq_some_iff.mp h).1;have e:cY xs.length (j:Int)=some j:=by
  unfold cY;rw[xV (by omega),xV (by omega)];simp
 unfold bu;rw[e];exact h
noncomputable def qz(b:Expr):Prop:=∀o i,subscripted b false o i=operate [o,i] (getItem o i)
noncomputable def wK(X:Cx)(r:R2):Prop:=
 ∀(value slice:Expr) (pins:List (Addr×Obj)) (s:Shared) (σ:St) (H:Hp) (x y:V) (v u:Value) (Q:VK),Inv X pins σ H s->RelV x v->RelV y u->r x y H Q->
  subscripted slice false v u=operate [v,u] (getItem v u)->wpAny (model X.prog X.w) X.A (subscriptTail value slice v u) (EP X pins σ Q) X.xe s
noncomputable def rT(X:Cx)(id:String)(r:V->List V->Hp->VK->Prop):Prop:=
 ∀(pins:List (Addr×Obj)) (s:Shared) (σ:St) (H:Hp) (x:V) (xs:List V) (v:Value) (us:List Value) (Q:VK),Inv X pins σ H s->RelV x v->Vals xs us->r x xs H Q->
  wpAny (model X.prog X.w) X.A (call (.builtin id) (v :: us)) (EP X pins σ Q) X.xe s
section
variable{X:Cx}{a b:Expr}{ta tb:TE}{pos:Pos}
def OD{r:R2}(hr:wK X r)(ha:PE X a ta)(hb:PE X b tb)(hs:qz b):PE X (.Subscript a b pos) (zZ r ta tb):=by
 intro pins s σ H Q I h;exact Subscript_ (yk ha hb I h λv u s2 x y H2 I2 rx ry q=>hr a b pins s2 σ H2 x y v u Q I2 rx ry q (hs _ _))
noncomputable def Sx(K:PySem.W.Frag):R2:=λx y H Q=>∃p xs i v,x=.ref p/\y=.int i/\eU K H p xs/\bu xs i=some v/\Q v H
noncomputable def Sy(K:PySem.W.Frag):R2:=λx y H Q=>∃p xs i v,x=.ref p/\y=.int i/\dz K H p xs/\bu xs i=some v/\Q v H
noncomputable def Sz:R2:=λx y H Q=>∃z i c,x=.str z/\y=.int i/\z.length<=sizeLine/\bu z.cps.toList i=some c/\Q (.str ⟨#[c]⟩) H
def Gz:wK X (Sx X.K):=by
 intro value slice pins s σ H x y v u Q I rx ry h hs;obtain⟨p,xs,i,z,rfl,rfl,hq,he,q⟩:=h;cases rx;obtain⟨t,rfl⟩:=ry;obtain⟨its,r,pl,hz⟩:=I.list hq;obtain⟨j,h1,h2,h3,h4,h5⟩:=qy he;obtain⟨w,ew,rw'⟩:=r.get h2;have hl:=r.length;have hn:=kg;have fin:EP X pins σ Q w s:=⟨z,H,I,rw',q⟩
 by_cases h0:0<=i
 .have hj:i.toNat=j:=by
   rw[seqIndex_of h0 h5]at h1;exact Er h1
  exact item_listR pl.isList h0 (by omega) (by rw[hj];simpa using ew) fin hs
 .have hj:(i+(its.toArray.size:Int)).toNat=j:=by
   rw[seqIndex_neg (by omega) h4]at h1;rw[MM,<-hl];exact Er h1
  exact subscriptTail_builtinR (x:=w) pl.isList.typeIs slot_list_getitem.lookup
   (wpAny_getItem_list_neg (Q:=λr s'=>r=w/\EP X pins σ Q r s') pl.isList (by omega) (by rw[MM]<;>omega) (by omega) (by rw[hj];simpa using ew) ⟨rfl,fin⟩) hs
def JM:wK X (Sy X.K):=by
 intro value slice pins s σ H x y v u Q I rx ry h hs;obtain⟨p,xs,i,z,rfl,rfl,hq,he,q⟩:=h;cases rx;obtain⟨t,rfl⟩:=ry;obtain⟨its,r,pl,hz⟩:=I.tuple hq;obtain⟨j,h1,h2,h3,h4,h5⟩:=qy he;obtain⟨w,ew,rw'⟩:=r.get h2;have hl:=r.length;have hn:=kg;have fin:EP X pins σ Q w s:=⟨z,H,I,rw',q⟩
 exact subscriptTail_builtinR (x:=w) pl.typeIs slot_tuple_getitem.lookup
  (getItem_tuple (j:=j) (Q:=λr s'=>r=w/\EP X pins σ Q r s') pl (by omega) (by omega) (by rw[MM,<-hl];exact h1) (by simpa using ew) ⟨rfl,fin⟩) hs
def JN:wK X Sz:=by
 intro value slice pins s σ H x y v u Q I rx ry h hs;obtain⟨z,i,c,rfl,rfl,hz,he,q⟩:=h;obtain⟨t,rfl⟩:=rx;obtain⟨t',rfl⟩:=ry;obtain⟨j,h1,h2,h3,h4,h5⟩:=qy he;have hl:z.cps.toList.length=z.length:=by simp[Str.length]
 rw[hl]at h1 h4 h5;have hn:=kg;exact tail_any (typeIs_str s z t) slot_str_getitem.lookup (getItem_str (c:=c) (by
  have e1:decide (i < -(2 ^ 63:Int))=false:=W3 (by omega);have e2:decide (i≥2 ^ 63)=false:=W3 (by omega);rw[e1,e2,aaa]) (by rw[h1];simpa using h2) ⟨.str ⟨#[c]⟩,H,I.tok _,⟨_,rfl⟩,q⟩) hs
def uf(lo hi:Option Int)(n:Nat):(sliceBounds lo hi none n).1=((HT.aK n 0 lo:Nat):Int)/\(sliceBounds lo hi none n).2.1=((HT.aK n n hi:Nat):Int)/\(sliceBounds lo hi none n).2.2=1:=by
 refine⟨?_,?_,rfl⟩
 .cases lo with
  |none=>simp[sliceBounds,HT.aK]
  |some i=>
   simp only[sliceBounds,HT.aK,Option.getD_none,show(1:Int) > 0 by decide,Xa];by_cases h:i<0
   .simp only[h,Xa]<;>omega
   .simp only[h,XH]<;>omega
 .cases hi with
  |none=>simp[sliceBounds,HT.aK]
  |some i=>
   simp only[sliceBounds,HT.aK,Option.getD_none,show(1:Int) > 0 by decide,Xa];by_cases h:i<0
   .simp only[h,Xa]<;>omega
   .simp only[h,XH]<;>omega
def sU(its:List Value)(lo hi:Option Int):slicePick its.toArray lo hi none=((its.drop (HT.aK its.length 0 lo)).take (HT.aK its.length its.length hi - HT.aK its.length 0 lo)).toArray:=by
 obtain⟨h1,h2,h3⟩:=uf lo hi its.toArray.size;unfold slicePick;rw[h1,h2,h3];simp only[sliceRange_one,pick_run,MM]<;>rfl
noncomputable def SA(K:PySem.W.Frag):V->Option Int->Option Int->Hp->VK->Prop:=λx lo hi H Q=>∃a xs,x=.ref a/\eU K H a xs/\∀p,H p=none->Q (.ref p) (upd H p (.lst (mC xs lo hi)))
def GA:kj X (SA X.K):=by
 intro pins s σ H x v vl vu lo hi sl Q I rx hs pl pu h;obtain⟨a,xs,rfl,hx,q⟩:=h;cases rx;obtain⟨its,r,ht,hz⟩:=I.list hx;have hlen:=r.length;refine⟨"list",_,slot_list_getitem.lookup,ht.isList.typeIs,?_⟩;refine wpAny_getItem_list_slice ht.isList hs pl pu .none (by simp) ?_ (by rw[MM]<;>omega);rw[sU,<-hlen];refine⟨.ref s.heap.objs.size,_,I.laid (t':=s.toks) (o:=.lst (mC xs lo hi)) (λb ob q=>lM _ q) (qh _) ?_,rfl,q _ (I.hok.fresh (qh _))⟩;exact⟨WV (nV xs lo hi) hz,_,0,(r.drop (HT.aK xs.length 0 lo)).take (HT.aK xs.length xs.length hi - HT.aK xs.length 0 lo),WM _ rfl⟩
noncomputable def sZ:V->Bool
 |.aU=>true
 |.bl _=>true
 |.int _=>true
 |.str _=>true
 |_=>false
def mD:gn X (.builtin "len") (λxs H Q=>∃p ys,xs=[.ref p]/\(eU X.K H p ys\/dz X.K H p ys)/\Q (.int ys.length) H):=by
 intro pins s σ H xs us Q I r h;obtain⟨p,ys,rfl,hq,q⟩:=h;obtain⟨u,rfl,rx⟩:=vals1 r;cases rx;have hn:=kg;rcases hq with hq|hq
 .obtain⟨its,r',pl,hz⟩:=I.list hq;have hlen:=r'.length;exact Calls.call_len_list pl.isList (by simp only[MM]<;>omega) ⟨.int ys.length,H,I.tok _,⟨s.toks+1,by rw[MM,hlen]⟩,q⟩
 .obtain⟨its,r',pl,hz⟩:=I.tuple hq;have hlen:=r'.length;exact len_tuple pl (by simp only[MM]<;>omega) ⟨.int ys.length,H,I.tok _,⟨s.toks+1,by rw[MM,hlen]⟩,q⟩
def ug:gn X (.builtin "len") (λxs H Q=>∃z,xs=[.str z]/\z.length<=sizeLine/\Q (.int z.length) H):=by
 intro pins s σ H xs us Q I r h;obtain⟨z,rfl,hz,q⟩:=h;obtain⟨u,rfl,t,rfl⟩:=vals1 r;have hn:=kg;exact XX (by omega) ⟨.int z.length,H,I.tok _,⟨_,rfl⟩,q⟩
def lT:gn X (.type "tuple") (λxs H Q=>∃p ys,xs=[.ref p]/\((eU X.K H p ys/\∀l,H l=none->Q (.ref l) (upd H l (.tup ys)))\/(dz X.K H p ys/\Q (.ref p) H))):=by
 intro pins s σ H xs us Q I r h;obtain⟨p,ys,rfl,h⟩:=h;obtain⟨u,rfl,rx⟩:=vals1 r;cases rx;rcases h with ⟨hq,q⟩|⟨hq,q⟩
 .obtain⟨its,r',pl,hz⟩:=I.list hq;have hlen:=r'.length;refine call_tuple_list pl.isList (λh' kp=>?_) (by simp only[MM]<;>omega);have I1:Inv X pins σ H { s with heap:=h' }:=I.kept (t':=s.toks) kp;have I2:Inv X pins σ (upd H h'.objs.size (.tup ys)) { s with heap:=h'.push { cls:=.type "tuple",data:=.seq its.toArray }}:=
   I1.laid (t':=s.toks) (λb o e=>lM _ e) (qh _) (show fu X.prog X.w _ _ _ (.tup ys)from ⟨hz,its,r',ZL _ _⟩)
  exact⟨.ref h'.objs.size,_,I2,rfl,q _ (I1.hok.fresh (qh _))⟩
 .obtain⟨its,r',pl,hz⟩:=I.tuple hq;exact call_tuple_same pl ⟨.ref p,H,I,rfl,q⟩
noncomputable def Ad(K:PySem.W.Frag)(T:String)(x:V)(H:Hp):Prop:=match x with
 |.str _=>T = "str"
 |.int _=>T = "int"
 |.ref p=>(T = "list" /\∃xs,eU K H p xs)\/(T = "tuple" /\∃o,K.lookup p=some o/\o.cls=.type "tuple" /\o.dict=none)\/
   (T = "dict" /\((∃kvs,H p=some (.dK kvs))\/∃kvs,H p=some (.dT kvs)))\/(T = "set" /\∃S n,H p=some (.set S n))
 |_=>False
def Ae{pins:List (Addr×Obj)}{σ:St}{H:Hp}{s:Shared}{T:String}{x:V}{v:Value}(I:Inv X pins σ H s)(r:RelV x v)(ty:Ad X.K T x H) :
  s.TypeIs v T/\∀a,v=.ref a->∃ob,s.heap.get? a=some ob/\ob.dict=none:=by
 cases x with
 |str z=>
  obtain⟨t,rfl⟩:=r;cases (show T = "str" from ty);exact⟨typeIs_str s z t,λ_ e=>nomatch e⟩
 |int i=>
  obtain⟨t,rfl⟩:=r;cases (show T = "int" from ty);exact⟨Zs s i t,λ_ e=>nomatch e⟩
 |ref p=>
  cases r;rcases ty with ⟨rfl,xs,hq⟩|⟨rfl,o,hk,hc,hd⟩|⟨rfl,hk⟩|⟨rfl,S,n,hk⟩
  .obtain⟨its,_,pl,_⟩:=I.list hq;refine⟨pl.isList.typeIs,λa e=>?_⟩;cases e;obtain⟨o,n,e,c,hd,_⟩:=pl;exact⟨o,e,hd⟩
  .refine⟨⟨o,I.rK p o hk,hc⟩,λa e=>?_⟩;cases e;exact⟨o,I.rK _ o hk,hd⟩
  .have z:∃o,s.heap.get? p=some o/\o.ExactDict:=by
    rcases hk with ⟨kvs,hk⟩|⟨kvs,hk⟩
    .obtain⟨_,_,_,_,o,_,_,e,ex,_⟩:=I.hok p _ hk;exact⟨o,e,ex⟩
    .obtain⟨_,_,_,_,o,_,_,e,ex,_⟩:=I.hok p _ hk;exact⟨o,e,ex⟩
   obtain⟨o,e,ex⟩:=z;refine⟨⟨o,e,ex.1⟩,λa e2=>?_⟩;cases e2;exact⟨o,e,ex.2.1⟩
  .obtain⟨o,_,_,_,e,ex,_⟩:=I.hok p _ hk;refine⟨⟨o,e,ex.1⟩,λa e2=>?_⟩;cases e2;exact⟨o,e,ex.2.1⟩
 |_=>exact False.elim ty
noncomputable def SD(K:PySem.W.Frag)(T:String)(r:V->List V->Hp->VK->Prop)(to:TE):TE:=λσ H Q=>to σ H λx H1=>Ad K T x H1/\r x [] H1 Q
noncomputable def UA(K:PySem.W.Frag)(T:String)(r:V->List V->Hp->VK->Prop)(to:TE)(t:TA):TE:=λσ H Q=>to σ H λx H1=>Ad K T x H1/\t σ H1 λxs H2=>r x xs H2 Q
variable{o e:Expr}{es:List Expr}{to:TE}{t:TA}{name:Str}{apos cpos:Pos}{T id:String}{r:V->List V->Hp->VK->Prop}
def JP (pa:PlainAttrs T) (slot:Slot T name id) (hty:typeOf (.builtin id)=pure (.type "method_descriptor")) (hm:rT X id r) (ho:PE X o to)
  (hbase:attributeBase o name X.env (eval o X.env)=eval o X.env:=by rfl) (hline:(apos.endLine==cpos.line)=true:=by rfl):PE X (.Call (.Attribute o name apos) [] [] cpos) (SD X.K T r to):=by
 intro pins s σ H Q I h;refine wpAny_Call_method0_late hbase hline (bQ (ho pins s σ H _ I h) λv s1 ⟨x,H1,I1,r1,ty,q1⟩=>?_);obtain⟨h1,h2⟩:=Ae I1 r1 ty;exact⟨T,id,pa,slot,hty,h1,h2,ZQ rfl (PySem.evalArgs_none (hm pins s1 σ H1 x [] v [] Q I1 r1 .nil q1))⟩
def OE (pa:PlainAttrs T) (slot:Slot T name id) (hty:typeOf (.builtin id)=pure (.type "method_descriptor")) (hm:rT X id r) (ho:PE X o to) (ha:PA X (e :: es) t)
  (hbase:attributeBase o name X.env (eval o X.env)=eval o X.env:=by rfl)
  (hfew:((backTo cpos (starEach (e :: es) X.env)).all (λx=>!x.1)&&(backToKw cpos (keywordEach [] X.env)).all (λx=>x.1.isSome)
   &&decide ((e :: es).length+([]:List Keyword).length+(if ([]:List Keyword).isEmpty then 0 else 1)<30))=true:=by rfl)
  (hline:(apos.endLine==cpos.line)=true:=by rfl) (hs:starEach (e :: es) X.env=(false,eval e X.env) :: starEach es X.env:=by rfl) (hplain:(backTo cpos (starEach es X.env)).any (·.1)=false:=by rfl) :
  PE X (.Call (.Attribute o name apos) (e :: es) [] cpos) (UA X.K T r to t):=by
 intro pins s σ H Q I h;refine wpAny_Call_method_late hbase hfew hline rfl (bQ (ho pins s σ H _ I h) λv s1 ⟨x,H1,I1,r1,ty,q1⟩=>?_);obtain⟨h1,h2⟩:=Ae I1 r1 ty;refine⟨T,id,pa,slot,hty,h1,h2,?_⟩;have hA:=ha cpos pins s1 σ H1 _ I1 q1;rw[hs]at hA ⊢;refine ZQ (by show(false || (backTo cpos (starEach es X.env)).any (·.1))=false;rw[hplain]<;>rfl) (Calls.evalArgs_plain ?_);exact bQ hA λus s2 ⟨vs,H2,I2,r2,q2⟩=>hm pins s2 σ H2 x vs v us Q I2 r1 r2 q2
end
noncomputable def JQ(X:Cx)(id:String)(r:V->List V->Hp->VK->Prop):Prop:=
 ∀(pins:List (Addr×Obj)) (s:Shared) (σ:St) (H:Hp) (x:V) (xs:List V) (v:Value) (us:List Value) (Q:VK),Inv X pins σ H s->RelV x v->Vals xs us->r x xs H Q->
  wpAny (model X.prog X.w) X.A (call (.builtin id) (v :: us)) (EP X pins σ Q) X.xe s
def Vals.one:∀{x:V}{us:List Value},Vals [x] us->∃u,us=[u]/\RelV x u
 |_,_,.cons r .nil=>⟨_,rfl,r⟩
def Vals.zero:∀{us:List Value},Vals [] us->us=[]
 |_,.nil=>rfl
theorem Vals.dropLast{xs:List V}{us:List Value}(h:Vals xs us):Vals xs.dropLast us.dropLast:=by
 induction h with
 |nil=>exact .nil
 |cons r t ih=>
  cases t with
  |nil=>exact .nil
  |cons q t'=>exact .cons r ih
theorem Vals.reverse{xs:List V}{us:List Value}(h:Vals xs us):Vals xs.reverse us.reverse:=by
 induction h with
 |nil=>exact .nil
 |cons r t ih=>rw[Xk,Xk];exact Vals.append ih (.cons r .nil)
theorem Vals.rep{xs:List V}{us:List Value}(h:Vals xs us):∀k:Nat,Vals (List.replicate k xs).flatten (List.replicate k us).flatten
 |0=>.nil
 |k+1=>by
  rw[Tv,Tv,Yh,Yh];exact Vals.append h (Vals.rep h k)
def yr{α:Type}(l:List α):l.eraseIdx (l.length - 1)=l.dropLast:=by
 induction l with
 |nil=>rfl
 |cons a r ih=>
  cases r with
  |nil=>rfl
  |cons b r=>
   have e:(a :: b :: r).length - 1=((b :: r).length - 1)+1:=by
    have h1:(a :: b :: r).length=r.length+2:=rfl;have h2:(b :: r).length=r.length+1:=rfl;omega
   rw[e,List.eraseIdx_cons_succ,ih];all_goals rfl
theorem foldl_rep(its:List Value):∀(k:Nat) (acc:List Value),
  List.foldl (λx1 x2=>x1++x2) acc.toArray (List.replicate k its.toArray)=(acc++(List.replicate k its).flatten).toArray
 |0,acc=>by simp
 |k+1,acc=>by
  have e:acc.toArray++its.toArray=(acc++its).toArray:=by simp
  have e2:(acc++its)++(List.replicate k its).flatten=acc++(List.replicate (k+1) its).flatten:=by
   rw[Tv,Yh,Xi]
  rw[<-e2,<-foldl_rep its k (acc++its),<-e,Tv,Xm]
section
variable{X:Cx}{pins:List (Addr×Obj)}{σ:St}{H:Hp}{s:Shared}{l:Addr}{xs ys:List V}
def Inv.Cs{its its':List Value}{n:Nat}{f:Array Value->Array Value}{t':Nat}(I:Inv X pins σ H s)(hH:H l=some (.lst xs))
  (e:s.heap.get? l=some { cls:=.type "list",data:=.seq its.toArray n }) (hf:f its.toArray=its'.toArray) (hv:Vals ys its') (hz:ys.length<=sizeLine) :
  Inv X pins σ (upd H l (.lst ys)) { s with heap:=s.heap.update l (Obj.mapSeq f),toks:=t' }:=by
 have q:=PySem.IsL.update e f;rw[hf]at q;refine I.write (x:=l) (e:=l) (by rw[hH];exact trivial) (.inl rfl) (λb' u hb hu=>(Xq s.heap (Obj.mapSeq f) (XI hb)).trans hu) ⟨_,q⟩ ?_;exact⟨hz,its',_,hv,q⟩
def Inv.Ct{its:List Value}{t':Nat}(I:Inv X pins σ H s)(hv:Vals ys its)(hz:ys.length<=sizeLine) :
  Inv X pins σ (upd H s.heap.objs.size (.lst ys)) { s with heap:=s.heap.push { cls:=.type "list",data:=.seq its.toArray },toks:=t' }:=
 I.laid (λ_ _ q=>lM _ q) (qh _) ⟨hz,its,0,hv,WM _ rfl⟩
theorem Inv.fresh(I:Inv X pins σ H s):H s.heap.objs.size=none:=I.hok.fresh (qh _)
def Inv.oN (I:Inv X pins σ H s) (hH:H l=some (.lst xs)):xs.length<=sizeLine/\∃(its:List Value) (n:Nat),Vals xs its/\xs.length=its.length/\s.heap.get? l=some { cls:=.type "list",data:=.seq its.toArray n }:=by
 obtain⟨z,its,n,r,e⟩:=I.hok l _ hH;exact⟨z,its,n,r,r.length,e⟩
def uh{n:Nat}(h:n<=sizeLine):Builtin.List.listTooLong n=false:=by
 unfold Builtin.List.listTooLong;exact W3 (by omega)
end
section
variable{X:Cx}
noncomputable def GB:V->List V->Hp->VK->Prop:=λx vs H Q=>∃l xs y,x=.ref l/\vs=[y]/\H l=some (.lst xs)/\xs.length<sizeLine/\Q .aU (upd H l (.lst (xs++[y])))
def rW:JQ X "list.append" GB:=by
 intro pins s σ H x vs v us Q I rx rv h;obtain⟨l,xs,y,rfl,rfl,hH,hz,q⟩:=h;cases rx;obtain⟨u,rfl,ru⟩:=rv.one;obtain⟨z,its,n,r,hl,e⟩:=I.oN hH;refine Yr F.slot_list_append ⟨_,e,rfl⟩ F.entry_list_append (F.args_list_append_2 _ _) (PySem.list_append l its.toArray n u (by rw[MM];omega)) ⟨e,?_⟩;refine⟨.aU,_,I.Cs (its':=its++[u]) hH e (by simp) (r.append (.cons ru .nil)) ?_,rfl,q⟩;rw[WN,XO];omega
noncomputable def GC:V->List V->Hp->VK->Prop:=λx vs H Q=>∃l b xs zs,x=.ref l/\vs=[.ref b]/\H l=some (.lst xs)/\H b=some (.lst zs)/\xs.length+zs.length<=sizeLine/\Q .aU (upd H l (.lst (xs++zs)))
def Af:JQ X "list.extend" GC:=by
 intro pins s σ H x vs v us Q I rx rv h;obtain⟨l,b,xs,zs,rfl,rfl,hH,hB,hz,q⟩:=h;cases rx;obtain⟨u,rfl,ru⟩:=rv.one;cases ru;obtain⟨z,its,n,r,hl,e⟩:=I.oN hH;obtain⟨z2,its2,n2,r2,hl2,e2⟩:=I.oN hB;have hsz:its.toArray.size+its2.toArray.size<=sizeLine:=by rw[MM,MM];omega
 have yt:¬ (!its.toArray.isEmpty&&Builtin.List.listTooLong (its.toArray.size+its2.toArray.size))=true:=by
  rw[uh hsz,Bool.and_false];exact Xv
 refine Yr F.slot_list_extend ⟨_,e,rfl⟩ F.entry_list_extend (F.args_list_extend_2 _ _)
  (AutoSeq1.list_extend_list_list_0 l its.toArray n b its2.toArray n2 yt (by rw[MM];omega) (by omega)) ⟨e,e2,?_⟩
 refine⟨.aU,_,I.Cs (its':=its++its2) hH e (by simp) (r.append r2) ?_,rfl,q⟩;rw[WN];omega
noncomputable def SE:V->List V->Hp->VK->Prop:=λx vs H Q=>∃l xs y,x=.ref l/\vs=[]/\H l=some (.lst xs)/\xs[xs.length - 1]?=some y/\Q y (upd H l (.lst xs.dropLast))
def JR:JQ X "list.pop" SE:=by
 intro pins s σ H x vs v us Q I rx rv h;obtain⟨l,xs,y,rfl,rfl,hH,hy,q⟩:=h;cases rx;have UB:=rv.zero;subst UB;obtain⟨z,its,n,r,hl,e⟩:=I.oN hH;obtain⟨u,hu,ru⟩:=r.get hy;have hy':its.toArray[its.toArray.size - 1]?=some u:=by
  show its.toArray[its.length - 1]?=some u;rw[<-XQ,<-hl];exact hu
 refine Yr F.slot_list_pop ⟨_,e,rfl⟩ F.entry_list_pop (F.args_list_pop_1 _) (MeetsSeq.list_pop_last l its.toArray n u hy' (by rw[MM];omega)) ⟨e,?_⟩;refine⟨y,_,I.Cs (its':=its.dropLast) hH e ?_ r.dropLast ?_,ru,q⟩
 .show its.toArray.eraseIdxIfInBounds (its.toArray.size - 1)=its.dropLast.toArray;rw[MM,List.eraseIdxIfInBounds_toArray,yr]
 .rw[List.length_dropLast];omega
noncomputable def SG:R2:=λx y H Q=>∃l b xs zs,x=.ref l/\y=.ref b/\H l=some (.lst xs)/\H b=some (.lst zs)/\xs.length+zs.length<=sizeLine/\∀p,H p=none->Q (.ref p) (upd H p (.lst (xs++zs)))
def JU:dB X (binaryOp .Add) SG:=by
 intro pins s σ H x y v u Q I rx ry h;obtain⟨l,b,xs,zs,rfl,rfl,hH,hB,hz,q⟩:=h;cases rx;cases ry;obtain⟨z,its,n,r,hl,e⟩:=I.oN hH;obtain⟨z2,its2,n2,r2,hl2,e2⟩:=I.oN hB;refine PySem.P.add_list e e2 ?_ (by rw[MM,MM];omega);have ea:its.toArray++its2.toArray=(its++its2).toArray:=by simp
 rw[ea];exact⟨.ref _,_,I.Ct (t':=s.toks) (r.append r2) (by rw[WN];omega),rfl,q _ I.fresh⟩
noncomputable def SH:R2:=λx y H Q=>∃l k xs,x=.ref l/\y=.int k/\H l=some (.lst xs)/\-(2 ^ 63)<=k/\k<2 ^ 63/\xs.length*k.toNat<=sizeLine/\
 ∀p,H p=none->Q (.ref p) (upd H p (.lst (List.replicate k.toNat xs).flatten))
def len_rep{α:Type}(xs:List α)(k:Nat):(List.replicate k xs).flatten.length=k*xs.length:=by
 induction k with
 |zero=>simp
 |succ k ih=>rw[Tv,Yh,WN,ih,Nat.succ_mul,Yv]
def JV:dB X (binaryOp .Mult) SH:=by
 intro pins s σ H x y v u Q I rx ry h;obtain⟨l,k,xs,rfl,rfl,hH,h1,h2,hz,q⟩:=h;cases rx;obtain⟨t,rfl⟩:=ry;obtain⟨z,its,n,r,hl,e⟩:=I.oN hH;have hlen:its.toArray.size*k.toNat<=sizeLine:=by rw[MM,<-hl];exact hz
 have hcap:¬ its.toArray.size*k.toNat > (2 ^ 63 - 1) / 8:=by
  have:(sizeLine:Nat)<=(2 ^ 63 - 1) / 8:=by decide
  omega
 have hfit:¬ (!Builtin.List.listFitsIndex k)=true:=by
  rw[fitsIndex_both h1 h2];exact Xv
 have yt:¬ Builtin.List.listTooLong (its.toArray.size*k.toNat)=true:=by
  rw[uh hlen];exact Xv
 have hnew:List.foldl (λx1 x2=>x1++x2) #[] (List.replicate (if its.toArray.isEmpty=true then 0 else k.toNat) its.toArray)=(List.replicate k.toNat its).flatten.toArray:=by
  have f0:∀m:Nat,List.foldl (λx1 x2=>x1++x2) #[] (List.replicate m its.toArray)=(List.replicate m its).flatten.toArray:=λm=>by
   have:=foldl_rep its m [];rw[XU]at this;exact this
  rw[f0];cases its with
  |nil=>simp
  |cons a r'=>rw[WQ (by simp)]
 refine Zt (T:="list") (U:="int") (by decide) ⟨_,e,rfl⟩ (λs'=>Zs s' k t) noFill_list_mul F.fills_int_mul F.slot_int_rmul repeat_list F.slot_int_index.lookup
  (Yr F.slot_int_rmul (Zs s k t) F.entry_int_rmul (F.args_int_rmul_2 _ _) (int___rmul___int_list k t l its.toArray n)
   ⟨e,rfl,⟨_,e,rfl⟩,Yr F.slot_list_mul ⟨_,e,rfl⟩ F.entry_list_mul (F.args_list_mul_2 _ _) (AutoListH.list___mul___list_int_3 l its.toArray n k t hfit hcap yt) ⟨e,?_⟩⟩)
 rw[hnew];exact⟨.ref _,_,I.Ct (t':=s.toks) (r.rep k.toNat) (by rw[len_rep,Nat.mul_comm];exact hz),rfl,q _ I.fresh⟩
end
end L2
namespace QS
open PySem PySem.W PySem.Calls PyProof.Rows
def pD{P:Params}{h:Heap}:∀(ns:List Int) (vs:List Value),WellAll P h vs (ns.map WData.int)->IntsAre vs ns:=by
 intro ns;induction ns with
 |nil=>
  intro vs w;rw[Y4]at w;cases w;exact .nil
 |cons n ns ih=>
  intro vs w;rw[WO]at w;cases w with
  |cons a b=>
   cases a;exact .cons _ _ (ih _ b)
def Ag{l:OpenLaw}{n:Nat}(hn:l.most=some n){P:Params}{h:Heap}{args:List WData}{vals:List Value}
  (hpre:l.row.toRowW.claim.pre args=true) (hwl:WellAll P h vals args) :
  ∃a vs ns,vals=[Value.ref a]/\args=[WData.list (ns.map WData.int)]/\h.get? a=some { cls:=.type "list",data:=.seq vs.toArray }/\IntsAre vs ns/\ns.length<=n:=by
 have hsh:WShape.hasAll [] args [.list .int]=true:=(pre_splitW hpre).1;have hc:l.pre.holds [] { args:=args }=true:=(pre_splitW hpre).2;obtain⟨d,r,rfl,h1,h2⟩:=hasAllW_cons hsh;obtain rfl:=hasAllW_nil h2;obtain⟨xs,rfl,h3⟩:=hasW_list h1;obtain⟨ns,rfl⟩:=items_int h3;have hlen:ns.length<=n:=by
  unfold OpenLaw.pre at hc;have h4:(WTm.not (.lt (.lit (.int (n:Int))) (.len (.arg 0)))).holds [] { args:=[.list (ns.map .int)]}=true:=by
   have h4:=(holds_andW hc).1;rw[hn]at h4;exact h4
  have h5:=condW_of h4 (w_not (w_lt w_lit (w_len_list (w_arg rfl))));rw[W6]at h5;refine Nat.le_of_not_lt λq=>?_;have q':(n:Int)<((ns.length:Nat):Int):=by omega
  first
   | (rw[XE q']at h5;exact absurd h5 (by decide))
   | (simp at h5;omega)
 cases hwl with
 |cons w1 w2=>
  cases w2;cases w1 with
  |list ho hall=>exact⟨_,_,ns,rfl,rfl,ho,pD ns _ hall,hlen⟩
def Ah(l:OpenLaw)(args:List WData):l.row.toRowW.claim.post args (.bool true) args=true:=
 postW_of (r:=l.row.toRowW) (X:=(true==true))
  (show WShape.has [] (.bool true) .bool=true by first|rfl|decide|simp[WShape.has,WShape.arms,WShape.armsAll])
  (show(WTm.eq .res (.lit (.bool true))).value [] { args:=args,res:=some (.bool true),after:=args }=some (.bool (true==true))from w_eq_bool (w_res rfl) w_lit) rfl
def vS{l:OpenLaw}{n:Nat}{q:Program}{loose:List Str}{XP:(Str->Option Value)->Heap->Prop}{YP:World->Heap->Prop}{d:DefRec}
  (hn:l.most=some n) (hdf:d.params.defaults=[])
  (call:∀(w:World) (s₀ s₁:Shared) (mg mb:Str->Option Value) (fa:Addr) (o:Obj) (pm cd doc:Value) (a:Addr) (vs:List Value) (ns:List Int),
   Ground q loose [] XP w s₀ mg mb s₁.heap->YP w s₁.heap->
   s₁.heap.get? fa=some o->o.data=.func (docDef d.name d.params d.body d.scope pm cd doc)->s₁.heap.CodeRec cd d.name->mg d.name=some (.ref fa)->
   s₁.heap.get? a=some { cls:=.type "list",data:=.seq vs.toArray }->IntsAre vs ns->ns.length<=n->s₁.gens = #[]->
   codeAny (model l.prog w) callerA (.call (.ref fa) ⟨[.ref a],[]⟩) (λr s'=>r=.ok (.ret (.bool true))/\OldK s₁.heap s'.heap/\s'.os=s₁.os/\AllBare s'.gens) s₁) :
  WalkO q loose XP YP l.row.toRowW d [] (λf vs=>PySem.call f vs):=by
 intro w s₀ s₁ mg mb G Y fa o pm cd doc dV kV ho hd hcd hD hmg hg args vals as hpre hlay hrd hwl hlo;obtain rfl:dV=.none:=Dflts.none hD hdf;obtain rfl:kV=.none:=Dflts.noKw hD;obtain⟨a,vs,ns,rfl,rfl,hobj,hints,hlen⟩:=Ag hn hpre hwl;refine enter_call (Yu (call w s₀ s₁ mg mb fa o pm cd doc a vs ns G Y ho (fd_plain hd) hcd hmg hobj hints hlen hg) λr s' hq=>?_);obtain⟨rfl,h2,h3,h4⟩:=hq;exact⟨.inl ⟨.bool true,.bool true,[],rfl,λ_=>rfl,.bool true,Ah l _,λ_=>⟨List.Pairwise.nil,λ_ hm=>(nomatch hm)⟩⟩,h2,h3,h4⟩
end QS
namespace L2
open PySem PySem.Spec PyProof.Rows
theorem rX:∀{vs:List Value}{ns:List Int},IntsAre vs ns->Vals (ns.map V.int) vs
 |_,_,.nil=>.nil
 |_,_,.cons n t h=>.cons ⟨t,rfl⟩ (rX h)
noncomputable def qA(H:Hp):Prop:=∀b,H b=none\/∃o xs,H b=some (.bW o (.lst xs))
def Cu{P:Program}{w:World}{K:PySem.W.Frag}{mg mb:Str->Option Value}{CX:lS}{k:Nat}{fa a:Addr}{fd:FuncData}{x:Str}{sp:Sp}{s₁:Shared}{vs:List Value}{ns:List Int}
  (KX:K.In s₁.heap) (hns:s₁.heap.Ns mainGlobals mg) (hb:s₁.heap.Ns builtinsNs mb) (JX:∀x:Str,x≠"__name__" ->mb x=bootBuiltins x) (hlim:s₁.heap.NoLimit) (hg:s₁.gens = #[])
  (ha:s₁.heap.get? a=some { cls:=.type "list",data:=.seq vs.toArray }) (hi:IntsAre vs ns) (hl:ns.length<=sizeLine) (hr:gz k callerA)
  (F:∀base:Heap,K.In base->base.Ns mainGlobals mg->iF P w K mg base CX k fa fd [x] sp) (hbind:∀(s:Shared) (u:Value),BindsTo s fd ⟨[u],[]⟩ [(x,u)])
  (ki:∀H:Hp,qA H->eU K H a (ns.map V.int)->sp [.ref a] H (λv _=>v=.bl true) λ_ _ _=>False)
  (Ai:∀H e s',CX [] H s₁ (λ_ _ _=>False) e s'->False) :
  codeAny (model P w) callerA (.call (.ref fa) ⟨[.ref a],[]⟩) (λr s'=>r=.ok (.ret (.bool true))/\OldK s₁.heap s'.heap/\s'.os=s₁.os/\AllBare s'.gens) s₁:=by
 have rv:=rX hi;have SJ:=hi.length;have core:∀H:Hp,qA H->eU K H a (ns.map V.int)->fJ P w H s₁.heap->(∀b,H b≠none->b=a)->(H a≠none->K.lookup a=none)->
   codeAny (model P w) callerA (.call (.ref fa) ⟨[.ref a],[]⟩) (λr s'=>r=.ok (.ret (.bool true))/\OldK s₁.heap s'.heap/\s'.os=s₁.os/\AllBare s'.gens) s₁:=by
  intro H hO hS hok hA hK;have wL:∀{b:Addr} {o:Obj},s₁.heap.get? b=some o->H b=none->(kU s₁.heap H).get? b=some o:=λe n=>Cb e n;have Ab:∀{b:Addr} {o:Obj} {es:Array DictEntry} {ep:Nat},s₁.heap.get? b=some o->o.data=.dict es ep->H b=none:=λ{b o es ep} e d=>by
   cases q:H b with
   |none=>rfl
   |some u=>
    have e':b=a:=hA b (by rw[q];simp);subst e';rw[ha]at e;cases e;have d':Data.seq vs.toArray _=Data.dict es ep:=d;cases d'
  have EJ:∀{b:Addr} {m:Str->Option Value},s₁.heap.Ns b m->(kU s₁.heap H).Ns b m:=λ{b m} ⟨o,es,ep,e,d,r⟩=>⟨o,es,ep,wL e (Ab e d),d,r⟩
  have QT:K.In (kU s₁.heap H):=λb o e=>wL (KX b o e) (by
   cases q:H b with
   |none=>rfl
   |some u=>
    have e':b=a:=hA b (by rw[q];simp);subst e';rw[hK (by rw[q];simp)]at e;cases e)
  have hM:Mod K mg (kU s₁.heap H):=⟨QT,EJ hns,⟨mb,EJ hb,JX⟩,let ⟨mc,h1,h2⟩:=hlim;⟨mc,EJ h1,h2⟩⟩
  have e0:yo P w K mg (kU s₁.heap H) callerA [] s₁ H:=⟨rfl,hM,λb o e=>Ge e,Nat.le_of_eq (zQ _ _),trivial,λb hb=>absurd (show b∈([]:List Addr)from hb) (by simp),hok,.of_eq hg⟩
  refine Yu ((F _ QT (EJ hns)).run callerA [] s₁ H ⟨[.ref a],[]⟩ [.ref a] [.ref a] _ _ hr e0 (hbind s₁ (.ref a)) (.cons rfl .nil) (ki H hO hS)) λr s' h=>?_;cases r with
  |error e=>exact(Ai H e s' h).elim
  |ok fl=>
   cases fl with
   |next=>exact False.elim h
   |brk=>exact False.elim h
   |cont=>exact False.elim h
   |ret u=>
    obtain⟨v,H',os,bare,un,SK,r',q⟩:=h;have q':v=.bl true:=q;subst q';obtain rfl:u=Value.bool true:=r';refine⟨rfl,OldK.of_keep λb o e=>?_,os,bare⟩;cases q:H b with
    |none=>exact un.keep b o e q (by intro z;exact absurd (show b∈([]:List Addr)from z) (by simp)) (by simp)
    |some u=>
     rcases hO b with z|⟨ob,xs,z⟩
     .rw[q]at z;cases z
     .have z2:=un.kT b ob _ z;obtain⟨e1,_⟩:=hok b _ z;obtain⟨e2,_⟩:=SK b _ z2;rw[e]at e1;cases e1;exact e2
 cases hk:K.lookup a with
 |some o=>
  have e:=KX a o hk;rw[ha]at e;cases e;refine core (λ_=>none) (λ_=>.inl rfl) (.inr ⟨_,vs.toArray,_,hk,rfl,rfl,rfl,by rw[MM,SJ];exact hl,by simpa using rv⟩) (λb u z=>by have z':(none:Option HO)=some u:=z;cases z') (λb z=>absurd rfl z) λz=>absurd rfl z
 |none=>
  refine core (λb=>if b=a then some (.bW { cls:=.type "list",data:=.seq vs.toArray } (.lst (ns.map V.int)))else none) (λb=>?_) (.inl (.inr ⟨{ cls:=.type "list",data:=.seq vs.toArray },xV rfl⟩)) (λb u z=>?_) (λb z=>?_) λ_=>hk
  .by_cases hb:b=a
   .exact .inr ⟨_,_,xV hb⟩
   .exact .inl (WQ hb)
  .by_cases hb:b=a
   .have z':=(xV hb).symm.trans z;cases z';subst hb;exact⟨ha,by rw[W6];exact hl,vs,_,rv,ha⟩
   .have z':=(WQ hb).symm.trans z;cases z'
  .by_cases hb:b=a
   .exact hb
   .exact absurd (WQ hb) z
def GD{l:PySem.W.OpenLaw}{n k:Nat}{q:Program}{loose:List Str}{XP:(Str->Option Value)->Heap->Prop}{YP:World->Heap->Prop}{d:DefRec}{K:Params->PySem.W.Frag}{CX:World->lS}{sp:World->Sp}{x:Str}
  (hn:l.most=some n) (hn2:n<=sizeLine) (hdf:d.params.defaults=[]) (hr:gz k callerA)
  (hY:∀(w:World) (h:Heap),YP w h->(K w.params).In h)
  (F:∀(w:World) (mg:Str->Option Value) (fa:Addr) (h:Heap),(K w.params).In h->h.Ns mainGlobals mg->mg d.name=some (.ref fa)->
   ∃fd:FuncData,(∀(s:Shared) (u:Value),BindsTo s fd ⟨[u],[]⟩ [(x,u)])/\
    ∀base:Heap,(K w.params).In base->base.Ns mainGlobals mg->iF l.prog w (K w.params) mg base (CX w) k fa fd [x] (sp w))
  (ki:∀(w:World) (H:Hp) (a:Addr) (ns:List Int),ns.length<=n->qA H->eU (K w.params) H a (ns.map V.int)->sp w [.ref a] H (λv _=>v=.bl true) λ_ _ _=>False)
  (Ai:∀(w:World) (H:Hp) (s:Shared) (e:Value) (s':Shared),CX w [] H s (λ_ _ _=>False) e s'->False) :
  PySem.W.WalkO q loose XP YP l.row.toRowW d [] (λf vs=>PySem.call f vs):=by
 refine QS.vS hn hdf λw s₀ s₁ mg mb fa o pm cd doc a vs ns G Y ho hd hcd hmg hobj hints hlen hg=>?_;have KX:=hY w _ Y;obtain⟨fd,hb,hF⟩:=F w mg fa _ KX G.T.g hmg;exact Cu KX G.T.g G.T.b G.T.builtins G.T.nolimit hg hobj hints (WV hlen hn2) hr hF hb (λH hO hS=>ki w H a ns hlen hO hS) λH e s'=>Ai w H s₁ e s'
def Cv{l:PySem.W.OpenLaw}{n k:Nat}{q:Program}{loose:List Str}{XP:(Str->Option Value)->Heap->Prop}{YP:World->Heap->Prop}{d:DefRec}{K:Params->PySem.W.Frag}{CX:lS}{sp:PySem.W.Frag->Sp}{x:Str}
  (hn:l.most=some n) (hn2:n<=sizeLine) (hdf:d.params.defaults=[]) (hr:gz k callerA)
  (hY:∀(w:World) (h:Heap),YP w h->(K w.params).In h)
  (F:∀(w:World) (mg:Str->Option Value) (fa:Addr) (h:Heap),(K w.params).In h->h.Ns mainGlobals mg->mg d.name=some (.ref fa)->
   ∃fd:FuncData,(∀(s:Shared) (u:Value),BindsTo s fd ⟨[u],[]⟩ [(x,u)])/\
    ∀base:Heap,(K w.params).In base->base.Ns mainGlobals mg->iF l.prog w (K w.params) mg base CX k fa fd [x] (sp (K w.params)))
  (ki:∀(K:PySem.W.Frag) (H:Hp) (a:Addr) (ns:List Int),ns.length<=n->qA H->eU K H a (ns.map V.int)->sp K [.ref a] H (λv _=>v=.bl true) λ_ _ _=>False)
  (Ai:∀(H:Hp) (s:Shared) (e:Value) (s':Shared),CX [] H s (λ_ _ _=>False) e s'->False) :
  PySem.W.WalkO q loose XP YP l.row.toRowW d [] (λf vs=>PySem.call f vs):=
 GD (K:=K) (CX:=λ_=>CX) (sp:=λw=>sp (K w.params)) hn hn2 hdf hr hY F (λw H a ns h1 h2 h3=>ki (K w.params) H a ns h1 h2 h3) λ_ H s e s'=>Ai H s e s'
noncomputable def nu(s:Stmt):Arguments:=match s with
 |.FunctionDef _ a _ _ _ _ _ _ _ _=>a
 |_=>{ posonlyargs:=[],args:=[],vararg:=none,kwonlyargs:=[],kw_defaults:=[],kwarg:=none,defaults:=[]}
noncomputable def gK(s:Stmt):List Stmt:=match s with
 |.FunctionDef _ _ b _ _ _ _ _ _ _=>b
 |_=>[]
noncomputable def aS(s:Stmt):Scope:=match s with
 |.FunctionDef _ _ _ _ _ _ sc _ _ _=>sc
 |_=>{ kind:=.function,names:=[],isGenerator:=false,isCoroutine:=false }
abbrev mE:lS:=λ_ _ _ _ _ _=>False
abbrev E0:XK:=λ_ _ _=>False
def OF{X:Cx}:Passes mE X E0:=λ_ _ _ _ _ _ _ h=>h.elim
structure um(K:PySem.W.Frag)(x qual:Str)(st:Stmt)(f:Addr)(fd:FuncData):Prop where
 ex:∃(oc:Value) (od:Option Addr) (kV doc pm:Value) (an:Option Addr) (cdv ct:Value) (osl:Array (Option Value)),
  fd=PySem.W.fnOf x qual (nu st) (gK st) (aS st) .none kV doc pm an cdv ct/\K.lookup f=some ⟨oc,od,.func fd,osl⟩/\PySem.W.codeIn K cdv qual=true
 kp:PySem.W.keepIn K (.ref f)=true
section
variable{P:Program}{w:World}{K:PySem.W.Frag}{mg:Str->Option Value}{base:Heap}
def um.ok{x qual:Str}{st:Stmt}{f:Addr}{fd:FuncData}{N ps:List Str}{k:Nat}{sp:Sp}(F:um K x qual st f fd)(S:bJ N ps (aS st))(len:∀vs H Q E,sp vs H Q E->vs.length=ps.length)
  (hbody:∀(cdv:Value) (A:Around) (outer:List Env) (s:Shared) (H:Hp) (vs:List V) (Q:VK) (E:XK),gz k (A.deeper (envOfC qual (aS st) s.heap.objs.size f cdv))->sp vs H Q E->
   ∃t,iD (oM mE P w K mg base N qual (aS st) f cdv A outer s H E).rM (gK st) t/\t { nx:=λ_ H'=>Q .aU H',rt:=Q } (start N vs) H):iF P w K mg base mE (k+1) f fd ps sp:=by
 obtain⟨oc,od,kV,doc,pm,an,cdv,ct,osl,rfl,lk,hcd⟩:=F.ex;refine OA lk hcd S len λA outer s H vs Q E hr ki=>?_;obtain⟨t,h,q⟩:=hbody cdv A outer s H vs Q E hr ki;exact⟨t,h.rM,q⟩
def um.binds{x qual:Str}{st:Stmt}{f:Addr}{fd:FuncData}{ps:List Str}(F:um K x qual st f fd)
  (h:∀(kV doc pm:Value) (an:Option Addr) (cdv ct:Value) (us:List Value),us.length=ps.length->bindArgs (PySem.W.fnOf x qual (nu st) (gK st) (aS st) .none kV doc pm an cdv ct) ⟨us,[]⟩=pure (ps.zip us)):Binds K fd ps []:=by
 obtain⟨oc,od,kV,doc,pm,an,cdv,ct,osl,rfl,lk,hcd⟩:=F.ex;exact .all (h kV doc pm an cdv ct)
def cC{x qual:Str}{st:Stmt}{f:Addr}{oc:Value}{od an:Option Addr}{osl:Array (Option Value)}{kV doc pm cdv ct:Value}(l:K.lookup f=some ⟨oc,od,.func (PySem.W.fnOf x qual (nu st) (gK st) (aS st) .none kV doc pm an cdv ct),osl⟩)
  (c:PySem.W.codeIn K cdv qual=true) (k:PySem.W.keepIn K (.ref f)=true):um K x qual st f (PySem.W.fnOf x qual (nu st) (gK st) (aS st) .none kV doc pm an cdv ct):=⟨⟨oc,od,kV,doc,pm,an,cdv,ct,osl,rfl,l,c⟩,k⟩
end
section
variable{X:Cx}
def pv (i:Nat) {x:Str}{pos:Pos}(hN:X.N[i]?=some x:=by rfl) (hv:zR X.env.scope x:=by first|exact Or.inl rfl|exact Or.inr (Or.inl rfl)|exact Or.inr (Or.inr rfl)) (hd:(x==("__debug__" : Str))=false:=by decide)
  (hcd:(x==("__classdict__" : Str))=false:=by decide):PE X (.Name x pos) (Ja i):=zU hN hv hd hcd
end
end L2
namespace Ev
inductive D where
 |aU|bl (b:Bool)|int (i:Int)|str (s:List Nat)|tup (ds:List D)|ref (n:Nat)
inductive O where
 |lst (ds:List D)|bW (ds:List D)
abbrev Hh:=List O
abbrev Fr:=List (Option D)
inductive R(α:Type) where
 |ok (a:α) (h:Hh)
 |bad
noncomputable def R.bind{α β:Type}(r:R α)(f:α->Hh->R β):R β:=
 match r with
 |.ok a h=>f a h
 |.bad=>.bad
@[simp] theorem ak{α β:Type}(a:α)(h:Hh)(f:α->Hh->R β):(R.ok a h).bind f=f a h:=rfl
@[simp] theorem Cw{α β:Type}(f:α->Hh->R β):(R.bad:R α).bind f=.bad:=rfl
def ah{α β:Type}{r:R α}{f:α->Hh->R β}{b:β}{h:Hh}(e:r.bind f=.ok b h):∃a h1,r=.ok a h1/\f a h1=.ok b h:=by
 cases r with
 |ok a h1=>exact⟨a,h1,rfl,e⟩
 |bad=>cases e
noncomputable def R.of{α:Type}(o:Option α)(h:Hh):R α:=match o with
 |some a=>.ok a h
 |none=>.bad
@[simp] theorem dX{α:Type}(a:α)(h:Hh):R.of (some a) h=.ok a h:=rfl
@[simp] theorem of_none{α:Type}(h:Hh):R.of (none:Option α) h=.bad:=rfl
def aO{α:Type}{o:Option α}{h h':Hh}{a:α}(e:R.of o h=.ok a h'):o=some a/\h'=h:=by
 cases o with
 |none=>cases e
 |some b=>cases e;exact⟨rfl,rfl⟩
inductive bh where
 |add|sub|mul|fdiv|mod
inductive aZ where
 |eq|ne|lt|gt
 |isin|gp
 |JY|j4
inductive TY where
 |int|bool|str|tuple|list
inductive BI where
 |len|sum|min
 |jP
 |kY
inductive ME where
 |join|append|extend|pop
inductive T where
 |one (i:Nat)|many (l:List Nat)
mutual
inductive E where
 |c (d:D)|v (i:Nat)|tup (es:Es)|lst (es:Es)
 |bin (o:bh) (a b:E)|cmp (o:aZ) (a b:E)
 |nt (a:E)|neg (a:E)|an (a b:E)|orr (a b:E)|lU (t a b:E)
 |ix (a b:E)|sl (a:E) (lo hi:Eo)
 |lV (a:E)
 |cl (f:Nat) (es:Es)|bi (b:BI) (es:Es)|me (m:ME) (o:E) (es:Es)
 |comp (elt:E) (t:T) (it:It) (cond:Eo)
 |ji (it:It)
 |je (kvs:List (D×D)) (a:E)|gZ (a:E)
inductive Es where
 |nil|cons (e:E) (es:Es)
inductive Eo where
 |no|yes (e:E)
inductive It where
 |seq (e:E)|fH (es:Es)
 |enum (a:E)|rev (a:E)
end
mutual
inductive S where
 |set (i:Nat) (e:E)|yu (l:List Nat) (e:E)
 |exp (e:E)|ret (e:E)|iff (t:E) (a b:Ss)|for (t:T) (it:It) (b:Ss)|nW (t:E) (b:Ss)
 |fy (c:Nat)
inductive Ss where
 |nil|cons (s:S) (ss:Ss)
end
inductive Fl where
 |nx|bk|ct|ret (d:D)
noncomputable def big:Nat:=16777216
noncomputable def cD(f:D->D->Option Bool):List D->List D->Option Bool
 |[],[]=>some true
 |x :: xs,y :: ys=>do
  let b <-f x y
  let c <-cD f xs ys
  pure (b&&c)
 |_,_=>some false
noncomputable def bq(h:Hh)(n:Nat):Option (List D):=match h[n]? with
 |some (.lst ds)=>some ds
 |some (.bW ds)=>some ds
 |_=>none
noncomputable def b2i(b:Bool):Int:=if b then 1 else 0
noncomputable def jD(h:Hh)(f:D->D->Option Bool)(a b:Nat):Option Bool:=if a=b then (bq h a).map λ_=>true else match h[a]?,h[b]? with
 |some (.lst x),some (.lst y)=>cD f x y
 |some (.bW x),some (.lst y)=>cD f x y
 |some (.lst x),some (.bW y)=>cD f x y
 |_,_=>none
noncomputable def gc(h:Hh):Nat->D->D->Option Bool
 |0,_,_=>none
 |_+1,.aU,.aU=>some true
 |_+1,.bl a,.bl b=>some (a==b)
 |_+1,.int a,.int b=>some (a==b)
 |_+1,.bl a,.int b=>some (b2i a==b)
 |_+1,.int a,.bl b=>some (a==b2i b)
 |_+1,.str a,.str b=>some (a==b)
 |n+1,.tup a,.tup b=>cD (gc h n) a b
 |n+1,.ref a,.ref b=>jD h (gc h n) a b
 |_+1,.ref a,_=>(bq h a).map λ_=>false
 |_+1,_,.ref a=>(bq h a).map λ_=>false
 |_+1,_,_=>some false
noncomputable def deep:Nat:=20
noncomputable def truthy(h:Hh):D->Option Bool
 |.aU=>some false
 |.bl b=>some b
 |.int i=>some (i != 0)
 |.str s=>some (!s.isEmpty)
 |.tup ds=>some (!ds.isEmpty)
 |.ref n=>match h[n]? with
  |_=>(bq h n).map λds=>!ds.isEmpty
noncomputable def alloc(ds:List D)(h:Hh):R D:=if ds.length<=big then .ok (.ref h.length) (h++[.lst ds])else .bad
noncomputable def rep{α:Type}(k:Nat)(l:List α):List α:=(List.replicate k l).flatten
noncomputable def bL(i j:Int):Bool:=(decide (-(2 ^ 64)<i)&&decide (i<2 ^ 64)) || (decide (-(2 ^ 64)<j)&&decide (j<2 ^ 64))
noncomputable def bN:bh->D->D->Hh->R D
 |.add,.int i,.int j,h=>.ok (.int (i+j)) h
 |.add,.str a,.str b,h=>if a.length+b.length<=big then .ok (.str (a++b)) h else .bad
 |.add,.tup a,.tup b,h=>if a.length+b.length<=big then .ok (.tup (a++b)) h else .bad
 |.add,.ref a,.ref b,h=>match h[a]?,h[b]? with
  |some (.lst x),some (.lst y)=>alloc (x++y) h
  |_,_=>.bad
 |.sub,.int i,.int j,h=>.ok (.int (i - j)) h
 |.mul,.int i,.int j,h=>if bL i j then .ok (.int (i*j)) h else .bad
 |.mul,.str a,.int k,h=>if 0<=k/\k<=1000/\a.length<=1000 then .ok (.str (rep k.toNat a)) h else .bad
 |.mul,.tup a,.int k,h=>if 0<=k/\k<=1000/\a.length<=1000 then .ok (.tup (rep k.toNat a)) h else .bad
 |.mul,.ref a,.int k,h=>match h[a]? with
  |some (.lst x)=>if 0<=k/\k<=1000/\x.length<=1000 then alloc (rep k.toNat x) h else .bad
  |_=>.bad
 |.fdiv,.int i,.int j,h=>if 0<j/\j<1073741824 then .ok (.int (i / j)) h else .bad
 |.mod,.int i,.int j,h=>if 0<j then .ok (.int (i % j)) h else .bad
 |_,_,_,_=>.bad
noncomputable def mem(h:Hh)(x:D):List D->Option Bool
 |[]=>some false
 |y :: ys=>do
  let b <-gc h deep y x
  let c <-mem h x ys
  pure (b ||c)
noncomputable def isin(x y:D)(h:Hh):Option Bool:=match y with
 |.str s=>match x with
  |.str [c]=>some (s.contains c)
  |_=>none
 |.tup ds=>mem h x ds
 |.ref n=>(bq h n).bind λds=>mem h x ds
 |_=>none
noncomputable def cop(o:aZ)(x y:D)(h:Hh):Option Bool:=match o,x,y with
 |.eq,x,y=>gc h deep x y
 |.ne,x,y=>(gc h deep x y).map (!·)
 |.lt,.int i,.int j=>some (decide (i<j))
 |.gt,.int i,.int j=>some (decide (j<i))
 |.isin,x,y=>isin x y h
 |.gp,x,y=>(isin x y h).map (!·)
 |.JY,x,.aU=>some (match x with|.aU=>true|_=>false)
 |.j4,x,.aU=>some (match x with|.aU=>false|_=>true)
 |_,_,_=>none
noncomputable def cY(n:Nat)(i:Int):Option Nat:=if 0<=i then (if i<n then some i.toNat else none)else if -(n:Int)<=i then some (i+n).toNat else none
noncomputable def bu{α:Type}(xs:List α)(i:Int):Option α:=(cY xs.length i).bind λj=>xs[j]?
noncomputable def dg(x y:D)(h:Hh):Option D:=match x,y with
 |.tup ds,.int i=>bu ds i
 |.str s,.int i=>(bu s i).map λc=>.str [c]
 |.ref n,.int i=>(bq h n).bind λds=>bu ds i
 |_,_=>none
noncomputable def aK(n d:Nat):Option Int->Nat
 |none=>d
 |some v=>if v<0 then (v+n).toNat else min v.toNat n
noncomputable def cut{α:Type}(xs:List α)(lo hi:Option Int):List α:=(xs.drop (aK xs.length 0 lo)).take (aK xs.length xs.length hi - aK xs.length 0 lo)
noncomputable def gf(x:D)(lo hi:Option Int)(h:Hh):R D:=match x with
 |.tup ds=>.ok (.tup (cut ds lo hi)) h
 |.str s=>.ok (.str (cut s lo hi)) h
 |.ref n=>match bq h n with
  |some ds=>alloc (cut ds lo hi) h
  |none=>.bad
 |_=>.bad
noncomputable def boolsOf:List D->Option (List Bool)
 |[]=>some []
 |.bl b :: ds=>(boolsOf ds).map λr=>b :: r
 |_=>none
noncomputable def intsOf:List D->Option (List Int)
 |[]=>some []
 |.int i :: ds=>(intsOf ds).map λr=>i :: r
 |_=>none
noncomputable def strsOf:List D->Option (List (List Nat))
 |[]=>some []
 |.str s :: ds=>(strsOf ds).map λr=>s :: r
 |_=>none
noncomputable def bU(sep:List Nat):List (List Nat)->List Nat
 |[]=>[]
 |[s]=>s
 |s :: t :: r=>s++sep++bU sep (t :: r)
noncomputable def lexLe:List Nat->List Nat->Bool
 |[],_=>true
 |_ :: _,[]=>false
 |x :: xs,y :: ys=>if x=y then lexLe xs ys else decide (x<y)
noncomputable def JZ(x:List Nat):List (List Nat)->List (List Nat)
 |[]=>[x]
 |y :: ys=>if lexLe x y then x :: y :: ys else y :: JZ x ys
noncomputable def cH:List (List Nat)->List (List Nat)
 |[]=>[]
 |x :: xs=>JZ x (cH xs)
noncomputable def dd{α:Type}[DecidableEq α](l:List α):List α:=l.foldl (λa k=>if k∈a then a else a++[k]) []
noncomputable def insI(x:Int):List Int->List Int
 |[]=>[x]
 |y :: ys=>if x<=y then x :: y :: ys else y :: insI x ys
noncomputable def sortI:List Int->List Int
 |[]=>[]
 |x :: xs=>insI x (sortI xs)
noncomputable def cK(b:BI)(xs:List D)(h:Hh):R D:=match b,xs with
 |.len,[.str s]=>if s.length<=big then .ok (.int s.length) h else .bad
 |.len,[.tup ds]=>.ok (.int ds.length) h
 |.len,[.ref n]=>R.of ((bq h n).map λds=>.int ds.length) h
 |.sum,[.ref n]=>R.of (((bq h n).bind intsOf).map λis=>.int is.sum) h
 |.min,[.int i,.int j]=>.ok (.int (if j<i then j else i)) h
 |.kY,[.ref n]=>match (bq h n).bind intsOf with
  |some ss=>if ss.length<4095/\(dd ss).length<64 then alloc ((sortI (dd ss)).map .int) h else .bad
  |none=>.bad
 |.jP,[.ref n]=>match (bq h n).bind intsOf with
  |some ss=>if ss.length<64 then alloc ((sortI ss).map .int) h else .bad
  |none=>.bad
 |_,_=>.bad
noncomputable def eV(m:ME)(o:D)(xs:List D)(h:Hh):R D:=match m,o,xs with
 |.join,.str sep,[.ref n]=>match (bq h n).bind strsOf with
  |some ss=>if (ss.map (·.length)).sum+ss.length*sep.length<=big then .ok (.str (bU sep ss)) h else .bad
  |none=>.bad
 |.append,.ref n,[x]=>match h[n]? with
  |some (.lst ds)=>if ds.length<big then .ok .aU (h.set n (.lst (ds++[x])))else .bad
  |_=>.bad
 |.extend,.ref n,[.ref m]=>match h[n]?,h[m]? with
  |some (.lst ds),some (.lst es)=>if ds.length+es.length<=big then .ok .aU (h.set n (.lst (ds++es)))else .bad
  |_,_=>.bad
 |.pop,.ref n,[]=>match h[n]? with
  |some (.lst ds)=>match ds[ds.length - 1]? with
   |some x=>.ok x (h.set n (.lst ds.dropLast))
   |none=>.bad
  |_=>.bad
 |_,_,_=>.bad
noncomputable def wN(m:ME)(x:D)(h:Hh):Bool:=match m,x with
 |.join,.str _=>true
 |.join,_=>false
 |_,.ref n=>(bq h n).isSome
 |_,_=>false
noncomputable def eF(x:D):List (D×D)->Option D
 |[]=>none
 | (k,v) :: r=>match gc [] 1 k x with
  |some true=>some v
  |some false=>eF x r
  |none=>none
abbrev Src:=List D×List (Nat×List D)
noncomputable def fU(h:Hh):D->Option Src
 |.tup ds=>some (ds,[])
 |.str s=>some (s.map λc=>.str [c],[])
 |.ref n=>(bq h n).map λds=>(ds,[(n,ds)])
 |_=>none
noncomputable def range(lo:Int)(n:Nat):List D:=(List.range n).map λ(i:Nat)=>.int (lo+i)
noncomputable def eG:List D->Option Src
 |[.int j]=>if -(2 ^ 62)<=j/\j<2 ^ 62 then some (range 0 j.toNat,[])else none
 |[.int i,.int j]=>if -(2 ^ 62)<=i/\i<2 ^ 62/\-(2 ^ 62)<=j/\j<2 ^ 62 then some (range i (j - i).toNat,[])else none
 |_=>none
noncomputable def gq:Int->List D->List D
 |_,[]=>[]
 |k,x :: xs=>.tup [.int k,x] :: gq (k+1) xs
noncomputable def yv(a b:List D):Bool:=@decide (a=b) (Classical.propDecidable _)
def rY(a b:List D):yv a b=true↔a=b:=@decide_eq_true_iff _ (Classical.propDecidable _)
@[simp] theorem yw(a:List D):yv a a=true:=(rY a a).mpr rfl
noncomputable def stays(h:Hh):List (Nat×List D)->Bool
 |[]=>true
 | (n,ds) :: r=>(match bq h n with|some es=>yv es ds|none=>false)&&stays h r
noncomputable def cJ:List Nat->List D->Fr->Option Fr
 |[],[],fr=>some fr
 |i :: is,d :: ds,fr=>cJ is ds (fr.set i (some d))
 |_,_,_=>none
noncomputable def cg:T->D->Fr->Option Fr
 |.one i,d,fr=>some (fr.set i (some d))
 |.many l,.tup ds,fr=>cJ l ds fr
 |_,_,_=>none
noncomputable def slots:T->List Nat
 |.one i=>[i]
 |.many l=>l
noncomputable def undef(t:T)(fr:Fr):Bool:=(slots t).all λi=>(fr[i]?.join).isNone
noncomputable def Cy:D->Option (List D)
 |.tup ds=>some ds
 |_=>none
noncomputable def qB:D->Hh->R D
 |.tup ds,h=>.ok (.tup ds) h
 |.ref n,h=>match bq h n with
  |some ds=>if ds.length<=big then .ok (.tup ds) h else .bad
  |none=>.bad
 |_,_=>.bad
noncomputable def yx:D->Hh->R D
 |.ref n,h=>match bq h n with
  |some ds=>if ds.length<=big then .ok (.tup ds.reverse) h else .bad
  |none=>.bad
 |_,_=>.bad
noncomputable def Cz(h:Hh):D->Option Src
 |.ref n=>(bq h n).map λds=>(ds,[(n,ds)])
 |_=>none
noncomputable def bV(f:D->Hh->R (Option D))(ck:List (Nat×List D)):List D->Hh->R (List D)
 |[],h=>if stays h ck then .ok [] h else .bad
 |d :: ds,h=>if stays h ck then (f d h).bind λo h1=>(bV f ck ds h1).bind λr h2=>.ok (o.toList++r) h2 else .bad
noncomputable def forL(f:D->Fr->Hh->R (Fl×Fr))(ck:List (Nat×List D)):List D->Fr->Hh->R (Fl×Fr)
 |[],fr,h=>if stays h ck then .ok (.nx,fr) h else .bad
 |d :: ds,fr,h=>if stays h ck then (f d fr h).bind λp h1=>match p.1 with
   |.nx=>forL f ck ds p.2 h1
   |.ct=>forL f ck ds p.2 h1
   |.bk=>.ok (.nx,p.2) h1
   |.ret x=>.ok (.ret x,p.2) h1
  else .bad
noncomputable def dM(t:Fr->Hh->R Bool)(f:Fr->Hh->R (Fl×Fr)):Nat->Fr->Hh->R (Fl×Fr)
 |0,_,_=>.bad
 |n+1,fr,h=>(t fr h).bind λb h1=>if b then (f fr h1).bind λp h2=>match p.1 with
   |.nx=>dM t f n p.2 h2
   |.ct=>dM t f n p.2 h2
   |.bk=>.ok (.nx,p.2) h2
   |.ret x=>.ok (.ret x,p.2) h2
  else .ok (.nx,fr) h1
abbrev aL:=Nat->List D->Hh->R D
noncomputable def intOf:D->Option Int
 |.int i=>some i
 |_=>none
mutual
noncomputable def ev(P:aL):E->Fr->Hh->R D
 |.c d,_,h=>.ok d h
 |.v i,fr,h=>R.of (fr[i]?.join) h
 |.tup es,fr,h=>(bZ P es fr h).bind λds h1=>if ds.length<=big then .ok (.tup ds) h1 else .bad
 |.lst es,fr,h=>(bZ P es fr h).bind λds h1=>alloc ds h1
 |.bin o a b,fr,h=>(ev P a fr h).bind λx h1=>(ev P b fr h1).bind λy h2=>bN o x y h2
 |.cmp o a b,fr,h=>(ev P a fr h).bind λx h1=>(ev P b fr h1).bind λy h2=>R.of ((cop o x y h2).map .bl) h2
 |.nt a,fr,h=>(ev P a fr h).bind λx h1=>match x with
   |.bl b=>.ok (.bl (!b)) h1
   |_=>.bad
 |.neg a,fr,h=>(ev P a fr h).bind λx h1=>match x with
   |.int i=>.ok (.int (-i)) h1
   |_=>.bad
 |.an a b,fr,h=>(ev P a fr h).bind λx h1=>match x with
   |.bl true=>ev P b fr h1
   |.bl false=>.ok (.bl false) h1
   |_=>.bad
 |.orr a b,fr,h=>(ev P a fr h).bind λx h1=>match x with
   |.bl true=>.ok (.bl true) h1
   |.bl false=>ev P b fr h1
   |_=>.bad
 |.lU t a b,fr,h=>(aH P t fr h).bind λk h1=>if k then ev P a fr h1 else ev P b fr h1
 |.ix a b,fr,h=>(ev P a fr h).bind λx h1=>(ev P b fr h1).bind λy h2=>R.of (dg x y h2) h2
 |.sl a lo hi,fr,h=>(ev P a fr h).bind λx h1=>(fz P lo fr h1).bind λl h2=>(fz P hi fr h2).bind λu h3=>gf x l u h3
 |.lV a,fr,h=>(ev P a fr h).bind λx h1=>yx x h1
 |.cl f es,fr,h=>(bZ P es fr h).bind λds h1=>P f ds h1
 |.bi b es,fr,h=>(bZ P es fr h).bind λds h1=>cK b ds h1
 |.me m o es,fr,h=>(ev P o fr h).bind λx h1=>if wN m x h1 then (bZ P es fr h1).bind λds h2=>eV m x ds h2 else .bad
 |.comp elt t it cond,fr,h=>(cZ P it fr h).bind λs h1=>if undef t fr then
   (bV (λd h2=>match cg t d fr with
    |none=>.bad
    |some ao=>(g6 P cond ao h2).bind λk h3=>if k then (ev P elt ao h3).bind λx h4=>.ok (some x) h4 else .ok none h3) s.2 s.1 h1).bind λds h2=>alloc ds h2 else .bad
 |.ji it,fr,h=>(cZ P it fr h).bind λs h1=>alloc s.1 h1
 |.je kvs a,fr,h=>(ev P a fr h).bind λx h1=>R.of (eF x kvs) h1
 |.gZ a,fr,h=>(ev P a fr h).bind λx h1=>qB x h1
noncomputable def bZ(P:aL):Es->Fr->Hh->R (List D)
 |.nil,_,h=>.ok [] h
 |.cons e es,fr,h=>(ev P e fr h).bind λd h1=>(bZ P es fr h1).bind λds h2=>.ok (d :: ds) h2
noncomputable def fz(P:aL):Eo->Fr->Hh->R (Option Int)
 |.no,_,h=>.ok none h
 |.yes e,fr,h=>(ev P e fr h).bind λd h1=>R.of ((intOf d).map some) h1
noncomputable def g6(P:aL):Eo->Fr->Hh->R Bool
 |.no,_,h=>.ok true h
 |.yes e,fr,h=>aH P e fr h
noncomputable def aH(P:aL):E->Fr->Hh->R Bool
 |.an a b,fr,h=>(aH P a fr h).bind λk h1=>if k then aH P b fr h1 else .ok false h1
 |.orr a b,fr,h=>(aH P a fr h).bind λk h1=>if k then .ok true h1 else aH P b fr h1
 |.nt a,fr,h=>(aH P a fr h).bind λk h1=>.ok (!k) h1
 |e,fr,h=>(ev P e fr h).bind λx h1=>R.of (truthy h1 x) h1
noncomputable def cZ(P:aL):It->Fr->Hh->R Src
 |.seq e,fr,h=>(ev P e fr h).bind λx h1=>R.of (fU h1 x) h1
 |.fH es,fr,h=>(bZ P es fr h).bind λds h1=>R.of (eG ds) h1
 |.enum a,fr,h=>(ev P a fr h).bind λx h1=>R.of ((Cz h1 x).map λs=>(gq 0 s.1,s.2)) h1
 |.rev a,fr,h=>(ev P a fr h).bind λx h1=>R.of ((Cy x).map λds=>(ds.reverse,[])) h1
end
mutual
noncomputable def ex(P:aL)(w:Nat):S->Fr->Hh->R (Fl×Fr)
 |.set i e,fr,h=>(ev P e fr h).bind λx h1=>.ok (.nx,fr.set i (some x)) h1
 |.yu l e,fr,h=>(ev P e fr h).bind λx h1=>match cg (.many l) x fr with
   |some ao=>.ok (.nx,ao) h1
   |none=>.bad
 |.exp e,fr,h=>(ev P e fr h).bind λ_ h1=>.ok (.nx,fr) h1
 |.ret e,fr,h=>(ev P e fr h).bind λx h1=>.ok (.ret x,fr) h1
 |.iff t a b,fr,h=>(aH P t fr h).bind λk h1=>if k then exs P w a fr h1 else exs P w b fr h1
 |.for t it b,fr,h=>(cZ P it fr h).bind λs h1=>forL (λd ao h2=>match cg t d ao with
   |some cG=>exs P w b cG h2
   |none=>.bad) s.2 s.1 fr h1
 |.nW t b,fr,h=>dM (λao h2=>aH P t ao h2) (λao h2=>exs P w b ao h2) w fr h
 |.fy _,_,_=>.bad
noncomputable def exs(P:aL)(w:Nat):Ss->Fr->Hh->R (Fl×Fr)
 |.nil,fr,h=>.ok (.nx,fr) h
 |.cons s ss,fr,h=>(ex P w s fr h).bind λp h1=>match p.1 with
   |.nx=>exs P w ss p.2 h1
   |_=>.ok p h1
end
structure Fn where
 np:Nat
 ns:Nat
 body:Ss
noncomputable def eE(fn:Fn)(ds:List D):Fr:=ds.map some++List.replicate (fn.ns - fn.np) none
noncomputable def endOf(r:R (Fl×Fr)):R D:=r.bind λp h=>match p.1 with
 |.ret d=>.ok d h
 |.nx=>.ok .aU h
 |_=>.bad
noncomputable def run(F:List Fn)(w:Nat):Nat->aL
 |0,_,_,_=>.bad
 |n+1,f,ds,h=>match F[f]? with
  |some fn=>if ds.length=fn.np then endOf (exs (run F w n) w fn.body (eE fn ds) h)else .bad
  |none=>.bad
def pF(F:List Fn)(w n f:Nat)(ds:List D)(h:Hh):run F w (n+1) f ds h=match F[f]? with
  |some fn=>if ds.length=fn.np then endOf (exs (run F w n) w fn.body (eE fn ds) h)else .bad
  |none=>.bad:=rfl
end Ev
namespace Sm
open PySem PySem.Spec PyProof.Rows L2
noncomputable def aV(l:List Nat):Str:=⟨l.toArray⟩
def cO(l:List Nat):(aV l).length=l.length:=by simp[aV,Str.length]
def qC{a b:List Nat}(h:aV a=aV b):a=b:=by
 have h1:a.toArray=b.toArray:=WT Str.cps h;simpa using WT Array.toList h1
def jE:Ev.big=sizeLine:=by rw[Yi];rfl
section
variable(K:PySem.W.Frag)
mutual
noncomputable def RV(H:Hp)(r:List Addr):Ev.D->V->Prop
 |.aU,v=>v=.aU
 |.bl b,v=>v=.bl b
 |.int i,v=>v=.int i
 |.str s,v=>v=.str (aV s)/\s.length<=sizeLine
 |.ref n,v=>∃a,v=.ref a/\r[n]?=some a
 |.tup ds,v=>∃a vs,v=.ref a/\dz K H a vs/\aG H r ds vs
noncomputable def aG(H:Hp)(r:List Addr):List Ev.D->List V->Prop
 |[],vs=>vs=[]
 |d :: ds,vs=>∃v w,vs=v :: w/\RV H r d v/\aG H r ds w
end
noncomputable def yy(H:Hp)(a:Addr)(vs:List V):Prop:=(∃o,H a=some (.bW o (.lst vs)))\/
 ∃(o:Obj) (its:Array Value) (n:Nat),K.lookup a=some o/\o.cls=.type "list" /\o.dict=none/\o.data=.seq its n/\its.size<=sizeLine/\Vals vs its.toList
noncomputable def RO(H:Hp)(r:List Addr):Ev.O->Addr->Prop
 |.lst ds,a=>∃vs,H a=some (.lst vs)/\aG K H r ds vs
 |.bW ds,a=>∃vs,yy K H a vs/\aG K H r ds vs
structure HR(H:Hp)(r:List Addr)(h:Ev.Hh):Prop where
 len:r.length=h.length
 ob:∀(n:Nat) o,h[n]?=some o->∃a,r[n]?=some a/\RO K H r o a
 inj:∀(n m:Nat) a x y,r[n]?=some a->r[m]?=some a->h[n]?=some (.lst x)->h[m]?=some (.lst y)->n=m
structure Fm(r r':List Addr)(H H':Hp):Prop where
 pre:∀(n:Nat) a,r[n]?=some a->r'[n]?=some a
 new:∀a∈r',a∈r\/H a=none
 keep:∀a o,H a=some o->a∉r->H' a=some o
 tups:∀a vs,dz K H a vs->dz K H' a vs
end
section
variable{K:PySem.W.Frag}{H H1 H2:Hp}{r r1 r2:List Addr}{h:Ev.Hh}
def Fm.refl:Fm K r r H H:=⟨λ_ _ e=>e,λ_ e=>.inl e,λ_ _ e _=>e,λ_ _ e=>e⟩
def Fm.trans(a:Fm K r r1 H H1)(b:Fm K r1 r2 H1 H2):Fm K r r2 H H2 where
 pre:=λn x e=>b.pre n x (a.pre n x e)
 new:=λx e=>by
  rcases b.new x e with q|q
  .exact a.new x q
  .by_cases z:x∈r
   .exact .inl z
   .refine .inr ?_;cases w:H x with
    |none=>rfl
    |some o=>rw[a.keep x o w z]at q;cases q
 keep:=λx o e n=>by
  refine b.keep x o (a.keep x o e n) λz=>?_;rcases a.new x z with q|q
  .exact n q
  .rw[e]at q;cases q
 tups:=λx vs e=>b.tups x vs (a.tups x vs e)
mutual
theorem RV.grow(f:∀(n:Nat) a,r[n]?=some a->r1[n]?=some a)(g:∀a vs,dz K H a vs->dz K H1 a vs):∀{d:Ev.D}{v:V},RV K H r d v->RV K H1 r1 d v
 |.aU,_,e=>e
 |.bl _,_,e=>e
 |.int _,_,e=>e
 |.str _,_,e=>e
 |.ref n,_,⟨a,e,z⟩=>⟨a,e,f n a z⟩
 |.tup ds,_,⟨a,vs,e,z,q⟩=>⟨a,vs,e,g a vs z,aG.grow f g q⟩
theorem aG.grow(f:∀(n:Nat) a,r[n]?=some a->r1[n]?=some a)(g:∀a vs,dz K H a vs->dz K H1 a vs):∀{ds:List Ev.D}{vs:List V},aG K H r ds vs->aG K H1 r1 ds vs
 |[],_,e=>e
 |_ :: _,_,⟨v,w,e,z,q⟩=>⟨v,w,e,RV.grow f g z,aG.grow f g q⟩
end
def RV.mono(f:Fm K r r1 H H1){d:Ev.D}{v:V}(q:RV K H r d v):RV K H1 r1 d v:=q.grow f.pre f.tups
def aG.mono(f:Fm K r r1 H H1){ds:List Ev.D}{vs:List V}(q:aG K H r ds vs):aG K H1 r1 ds vs:=q.grow f.pre f.tups
def aG.nil:aG K H r [] []:=by simp[aG]
def aG.cons{d:Ev.D}{v:V}{ds:List Ev.D}{vs:List V}(a:RV K H r d v)(b:aG K H r ds vs):aG K H r (d :: ds) (v :: vs):=by
 simp only[aG];exact⟨v,vs,rfl,a,b⟩
theorem aG.length:∀{ds:List Ev.D}{vs:List V},aG K H r ds vs->vs.length=ds.length
 |[],_,e=>by simp only[aG]at e;subst e;rfl
 |_ :: _,_,e=>by
  simp only[aG]at e;obtain⟨v,w,rfl,_,q⟩:=e;simp[aG.length q]
theorem aG.get:∀{ds:List Ev.D}{vs:List V}{i:Nat}{d:Ev.D},aG K H r ds vs->ds[i]?=some d->∃v,vs[i]?=some v/\RV K H r d v
 |[],_,_,_,_,e=>by simp at e
 |_ :: _,_,0,_,h,e=>by
  simp only[aG]at h;obtain⟨v,w,rfl,z,q⟩:=h;simp at e;subst e;exact⟨v,by simp,z⟩
 |_ :: _,_,i+1,_,h,e=>by
  simp only[aG]at h;obtain⟨v,w,rfl,z,q⟩:=h;obtain⟨u,a,b⟩:=aG.get (i:=i) q (by simpa using e);exact⟨u,by simpa using a,b⟩
theorem aG.append:∀{ds es:List Ev.D}{vs ws:List V},aG K H r ds vs->aG K H r es ws->aG K H r (ds++es) (vs++ws)
 |[],_,_,_,a,b=>by simp only[aG]at a;subst a;simpa using b
 |_ :: _,_,_,_,a,b=>by
  simp only[aG]at a;obtain⟨v,w,rfl,z,q⟩:=a;simp only[WR];exact .cons z (aG.append q b)
theorem aG.take:∀{ds:List Ev.D}{vs:List V}(n:Nat),aG K H r ds vs->aG K H r (ds.take n) (vs.take n)
 |_,_,0,_=>by simp[aG]
 |[],_,_+1,a=>by simp only[aG]at a;subst a;simp[aG]
 |_ :: _,_,n+1,a=>by
  simp only[aG]at a;obtain⟨v,w,rfl,z,q⟩:=a;simp only[XF];exact .cons z (aG.take n q)
theorem aG.drop:∀{ds:List Ev.D}{vs:List V}(n:Nat),aG K H r ds vs->aG K H r (ds.drop n) (vs.drop n)
 |_,_,0,a=>by simpa using a
 |[],_,_+1,a=>by simp only[aG]at a;subst a;simp[aG]
 |_ :: _,_,n+1,a=>by
  simp only[aG]at a;obtain⟨v,w,rfl,z,q⟩:=a;simp only[Zc];exact aG.drop n q
theorem aG.reverse:∀{ds:List Ev.D}{vs:List V},aG K H r ds vs->aG K H r ds.reverse vs.reverse
 |[],_,a=>by simp only[aG]at a;subst a;simp[aG]
 |_ :: _,_,a=>by
  simp only[aG]at a;obtain⟨v,w,rfl,z,q⟩:=a;simp only[Xk];exact(aG.reverse q).append (.cons z .nil)
theorem aG.rep{ds:List Ev.D}{vs:List V}(a:aG K H r ds vs):∀k:Nat,aG K H r (Ev.rep k ds) (Ev.rep k vs)
 |0=>by simp[Ev.rep,aG]
 |k+1=>by
  have h:=aG.rep a k;simp only[Ev.rep,Tv,Yh]at h ⊢;exact a.append h
def Fm.laid{p:Addr}{o:HO}(hp:H p=none):Fm K r (r++[p]) H (upd H p o) where
 pre:=λn a e=>by rw[VL (List.getElem?_eq_some_iff.mp e).1];exact e
 new:=λa e=>by
  rcases List.mem_append.mp e with q|q
  .exact .inl q
  .rw[Zg]at q;subst q;exact .inr hp
 keep:=λa ob e _=>by rw[bH (b7 e hp)];exact e
 tups:=λa vs e=>by
  rcases e with (e|⟨ob,e⟩)|e
  .exact .inl (.inl (by rw[bH (b7 e hp)];exact e))
  .exact .inl (.inr ⟨ob,by rw[bH (b7 e hp)];exact e⟩)
  .exact .inr e
def Fm.tup{p:Addr}{o:HO}(hp:H p=none):Fm K r r H (upd H p o) where
 pre:=λn a e=>e
 new:=λa e=>.inl e
 keep:=λa ob e _=>by rw[bH (b7 e hp)];exact e
 tups:=(Fm.laid (r:=r) hp).tups
theorem RO.mono{o:Ev.O}{a:Addr}(f:Fm K r r1 H H1)(q:RO K H r o a)(hl:∀ds vs,o=.lst ds->H a=some (.lst vs)->H1 a=some (.lst vs))(hf:∀ob vs,H a=some (.bW ob vs)->H1 a=some (.bW ob vs))
  : RO K H1 r1 o a:=by
 cases o with
 |lst ds=>
  obtain⟨vs,e,z⟩:=q;exact⟨vs,hl ds vs rfl e,z.mono f⟩
 |bW ds=>
  obtain⟨vs,e,z⟩:=q;refine⟨vs,?_,z.mono f⟩;rcases e with ⟨ob,e⟩|e
  .exact .inl ⟨ob,hf _ _ e⟩
  .exact .inr e
theorem HR.tup{p:Addr}{o:HO}(hr:HR K H r h)(hp:H p=none):HR K (upd H p o) r h where
 len:=hr.len
 ob:=λn ob e=>by
  obtain⟨a,e1,q⟩:=hr.ob n ob e;exact⟨a,e1,q.mono (Fm.tup hp) (λ_ vs _ z=>by rw[bH (b7 z hp)];exact z) (λ_ _ z=>by rw[bH (b7 z hp)];exact z)
   ⟩
 inj:=hr.inj
theorem HR.lst{p:Addr}{ds:List Ev.D}{vs:List V}(hr:HR K H r h)(hp:H p=none)(q:aG K H r ds vs):HR K (upd H p (.lst vs)) (r++[p]) (h++[.lst ds]) where
 len:=by simp[hr.len]
 ob:=λn ob e=>by
  by_cases hn:n<h.length
  .rw[VL hn]at e;obtain⟨a,e1,z⟩:=hr.ob n ob e;exact⟨a,(Fm.laid (K:=K) (o:=.lst vs) hp).pre n a e1,z.mono (Fm.laid hp) (λ_ vs _ z=>by rw[bH (b7 z hp)];exact z) (λ_ _ z=>by rw[bH (b7 z hp)];exact z)
    ⟩
  .have e2:=(List.getElem?_eq_some_iff.mp e).1;simp only[WN,XO]at e2;have e3:n=h.length:=by omega
   subst e3;simp at e;subst e;exact⟨p,by rw[<-hr.len];simp,vs,gy,q.mono (Fm.laid hp)⟩
 inj:=λn m a x y e1 e2 e3 e4=>by
  have out:∀(k:Nat) z,(h++[Ev.O.lst ds])[k]?=some (.lst z)->(r++[p])[k]?=some a->(k<h.length/\r[k]?=some a/\h[k]?=some (.lst z)/\a≠p)\/(k=h.length/\a=p):=λk z q1 q2=>by
   by_cases hk:k<h.length
   .rw[VL hk]at q1;rw[VL (by rw[hr.len];exact hk)]at q2;obtain⟨b,e5,vs',e6,_⟩:=hr.ob k _ q1;rw[q2]at e5;cases e5;exact .inl ⟨hk,q2,q1,b7 e6 hp⟩
   .have e5:=(List.getElem?_eq_some_iff.mp q1).1;simp only[WN,XO]at e5;have e6:k=r.length:=by rw[hr.len];omega
    subst e6;simp at q2;exact .inr ⟨hr.len,q2.symm⟩
  rcases out n x e3 e1 with ⟨h1,h2,h3,h4⟩|⟨h1,h2⟩
  .rcases out m y e4 e2 with ⟨k1,k2,k3,k4⟩|⟨k1,k2⟩
   .exact hr.inj n m a x y h2 k2 h3 k3
   .exact absurd k2 h4
  .rcases out m y e4 e2 with ⟨k1,k2,k3,k4⟩|⟨k1,k2⟩
   .exact absurd h2 k4
   .rw[h1,k1]
def HR.read{n:Nat}{ds:List Ev.D}(hr:HR K H r h)(e:Ev.bq h n=some ds):∃a vs,r[n]?=some a/\eU K H a vs/\aG K H r ds vs:=by
 unfold Ev.bq at e;split at e
 .rename_i z;cases e;obtain⟨a,e1,vs,e2,e3⟩:=hr.ob n _ z;exact⟨a,vs,e1,.inl (.inl e2),e3⟩
 .rename_i z;cases e;obtain⟨a,e1,vs,e2,e3⟩:=hr.ob n _ z;refine⟨a,vs,e1,?_,e3⟩;rcases e2 with ⟨ob,e2⟩|e2
  .exact .inl (.inr ⟨ob,e2⟩)
  .exact .inr e2
 .cases e
def Fm.write{a:Addr}{vs ws:List V}(ha:H a=some (.lst vs))(hm:a∈r):Fm K r r H (upd H a (.lst ws)) where
 pre:=λn b e=>e
 new:=λb e=>.inl e
 keep:=λb ob e n=>by rw[bH (λz=>n (by rw[z];exact hm))];exact e
 tups:=λb us e=>by
  rcases e with (e|⟨ob,e⟩)|e
  .exact .inl (.inl (by rw[bH (pe e ha (by intro z;cases z))];exact e))
  .exact .inl (.inr ⟨ob,by rw[bH (pe e ha (by intro z;cases z))];exact e⟩)
  .exact .inr e
theorem HR.write{n:Nat}{a:Addr}{ds es:List Ev.D}{vs ws:List V}(hr:HR K H r h)(hn:h[n]?=some (.lst ds))(J0:r[n]?=some a)(ha:H a=some (.lst vs))(q:aG K H r es ws) :
  HR K (upd H a (.lst ws)) r (h.set n (.lst es)) where
 len:=by simp[hr.len]
 ob:=λm ob e=>by
  have f:=Fm.write (K:=K) (ws:=ws) ha (W2 J0);by_cases hm:m=n
  .subst hm;rw[WS (List.getElem?_eq_some_iff.mp hn).1]at e;cases e;exact⟨a,J0,ws,gy,q.mono f⟩
  .rw[Vo (λz=>hm z.symm)]at e;obtain⟨b,e1,z⟩:=hr.ob m ob e;refine⟨b,e1,z.mono f (λUC us z3 z2=>?_) (λVM us z2=>by rw[bH (pe z2 ha (by intro z;cases z))];exact z2)
    ⟩
   by_cases hb:b=a
   .subst hb;subst z3;exact absurd (hr.inj m n b UC ds e1 J0 e hn) hm
   .rw[bH hb];exact z2
 inj:=λk m b x y e1 e2 e3 e4=>by
  have back:∀(j:Nat) z,(h.set n (Ev.O.lst es))[j]?=some (.lst z)->∃z',h[j]?=some (.lst z'):=λj z w=>by
   by_cases hj:j=n
   .subst hj;exact⟨ds,hn⟩
   .rw[Vo (λz=>hj z.symm)]at w;exact⟨z,w⟩
  obtain⟨x',e5⟩:=back k x e3;obtain⟨y',e6⟩:=back m y e4;exact hr.inj k m b x' y' e1 e2 e5 e6
def g7{p:Addr}{vs ws:List V}(hp:H p=some (.lst vs)):∀a us,dz K H a us->dz K (upd H p (.lst ws)) a us:=λb us e=>by
 rcases e with (e|⟨ob,e⟩)|e
 .exact .inl (.inl (by rw[bH (pe e hp (by intro z;cases z))];exact e))
 .exact .inl (.inr ⟨ob,by rw[bH (pe e hp (by intro z;cases z))];exact e⟩)
 .exact .inr e
def HR.other{p:Addr}{vs ws:List V}(hr:HR K H r h)(hp:H p=some (.lst vs))(hn:p∉r):HR K (upd H p (.lst ws)) r h where
 len:=hr.len
 ob:=λn ob e=>by
  obtain⟨a,e1,q⟩:=hr.ob n ob e;have ha:a≠p:=λz=>hn (by rw[<-z];exact W2 e1);refine⟨a,e1,?_⟩;cases ob with
  |lst ds=>
   obtain⟨us,e2,e3⟩:=q;exact⟨us,by rw[bH ha];exact e2,e3.grow (λ_ _ z=>z) (g7 hp)⟩
  |bW ds=>
   obtain⟨us,e2,e3⟩:=q;refine⟨us,?_,e3.grow (λ_ _ z=>z) (g7 hp)⟩;rcases e2 with ⟨o,e2⟩|e2
   .exact .inl ⟨o,by rw[bH ha];exact e2⟩
   .exact .inr e2
 inj:=hr.inj
def Fm.other{p:Addr}{vs ws:List V}(f:Fm K r r1 H H1)(h0:H p=none)(hp:H1 p=some (.lst vs)):Fm K r r1 H (upd H1 p (.lst ws)) where
 pre:=f.pre
 new:=f.new
 keep:=λa o e n=>by rw[bH (b7 e h0)];exact f.keep a o e n
 tups:=λa us e=>g7 hp a us (f.tups a us e)
def Fm.gp{p:Addr}{o:HO}(f:Fm K r r1 H H1)(hp:H p=some o)(hn:p∉r):p∉r1/\H1 p=some o:=by
 refine⟨λz=>?_,f.keep p o hp hn⟩;rcases f.new p z with q|q
 .exact hn q
 .rw[hp]at q;cases q
def HR.known{p:Addr}{ds:List Ev.D}{vs:List V}(hr:HR K H r h)(hp:H p=some (.lst vs))(hn:p∉r)(q:aG K H r ds vs):HR K H (r++[p]) (h++[.lst ds]):=by
 have pre:∀(n:Nat) a,r[n]?=some a->(r++[p])[n]?=some a:=λn a e=>by rw[VL (List.getElem?_eq_some_iff.mp e).1];exact e
 refine⟨by simp[hr.len],λn ob e=>?_,λn m a x y e1 e2 e3 e4=>?_
  ⟩
 .by_cases hk:n<h.length
  .rw[VL hk]at e;obtain⟨a,e1,z⟩:=hr.ob n ob e;refine⟨a,pre n a e1,?_⟩;cases ob with
   |lst ds=>obtain⟨us,e2,e3⟩:=z;exact⟨us,e2,e3.grow pre λ_ _ z=>z⟩
   |bW ds=>obtain⟨us,e2,e3⟩:=z;exact⟨us,e2,e3.grow pre λ_ _ z=>z⟩
  .have e2:=(List.getElem?_eq_some_iff.mp e).1;simp only[WN,XO]at e2;have e3:n=h.length:=by omega
   subst e3;simp at e;subst e;exact⟨p,by rw[<-hr.len];simp,vs,hp,q.grow pre λ_ _ z=>z⟩
 .have out:∀(k:Nat) z,(h++[Ev.O.lst ds])[k]?=some (.lst z)->(r++[p])[k]?=some a->(k<h.length/\r[k]?=some a/\h[k]?=some (.lst z)/\a≠p)\/(k=h.length/\a=p):=λk z q1 q2=>by
   by_cases hk:k<h.length
   .rw[VL hk]at q1;rw[VL (by rw[hr.len];exact hk)]at q2;exact .inl ⟨hk,q2,q1,λz=>hn (by rw[<-z];exact W2 q2)⟩
   .have e5:=(List.getElem?_eq_some_iff.mp q1).1;simp only[WN,XO]at e5;have e6:k=r.length:=by rw[hr.len];omega
    subst e6;simp at q2;exact .inr ⟨hr.len,q2.symm⟩
  rcases out n x e3 e1 with ⟨h1,h2,h3,h4⟩|⟨h1,h2⟩
  .rcases out m y e4 e2 with ⟨k1,k2,k3,k4⟩|⟨k1,k2⟩
   .exact hr.inj n m a x y h2 k2 h3 k3
   .exact absurd k2 h4
  .rcases out m y e4 e2 with ⟨k1,k2,k3,k4⟩|⟨k1,k2⟩
   .exact absurd h2 k4
   .rw[h1,k1]
def Fm.known{p:Addr}(f:Fm K r r1 H H1)(h0:H p=none):Fm K r (r1++[p]) H H1 where
 pre:=λn a e=>by
  have e':=f.pre n a e;rw[VL (List.getElem?_eq_some_iff.mp e').1];exact e'
 new:=λa e=>by
  rcases List.mem_append.mp e with q|q
  .exact f.new a q
  .rw[Zg]at q;subst q;exact .inr h0
 keep:=f.keep
 tups:=f.tups
end
end Sm
namespace Sm
open PySem PySem.Spec PyProof.Rows L2
open Ev (D O Hh Fr R aL E Es Eo It T S Ss Fl Src bh aZ TY BI ME)
section
variable(K:PySem.W.Frag)
noncomputable def Res(r:List Addr)(H:Hp)(h':Hh)(d:D)(Q:VK):Prop:=∀v H' r',RV K H' r' d v->HR K H' r' h'->Fm K r r' H H'->Q v H'
structure SR(m:List Nat)(H:Hp)(r:List Addr)(fr:Fr)(s:L2.St):Prop where
 len:s.length=m.length
 sl:∀(j i:Nat) d,m[j]?=some i->fr[i]?=some (some d)->∃v,s[j]?=some (some v)/\RV K H r d v
inductive tJ(m:List Nat)(P:aL)(e:E)(s:L2.St)(H:Hp)(Q:VK):Prop
 |mk (r:List Addr) (fr:Fr) (h:Hh) (d:D) (h':Hh) (c0:SR K m H r fr s) (c1:HR K H r h) (c2:Ev.ev P e fr h=.ok d h') (c3:Res K r H h' d Q):tJ m P e s H Q
inductive J1(m:List Nat)(P:aL)(e:E)(s:L2.St)(H:Hp)(Q:Bool->Hp->Prop):Prop
 |mk (r:List Addr) (fr:Fr) (h:Hh) (k:Bool) (h':Hh) (c0:SR K m H r fr s) (c1:HR K H r h) (c2:Ev.aH P e fr h=.ok k h') (c3:∀H' r',HR K H' r' h'->Fm K r r' H H'->Q k H'):J1 m P e s H Q
inductive J2(m:List Nat)(P:aL)(es:Es)(s:L2.St)(H:Hp)(Q:List V->Hp->Prop):Prop
 |mk (r:List Addr) (fr:Fr) (h:Hh) (ds:List D) (h':Hh) (c0:SR K m H r fr s) (c1:HR K H r h) (c2:Ev.bZ P es fr h=.ok ds h') (c3:∀vs H' r',aG K H' r' ds vs->HR K H' r' h'->Fm K r r' H H'->Q vs H'):J2 m P es s H Q
inductive QU(m:List Nat)(P:aL)(e:Eo)(s:L2.St)(H:Hp)(Q:Option Int->Hp->Prop):Prop
 |mk (r:List Addr) (fr:Fr) (h:Hh) (o:Option Int) (h':Hh) (c0:SR K m H r fr s) (c1:HR K H r h) (c2:Ev.fz P e fr h=.ok o h') (c3:∀H' r',HR K H' r' h'->Fm K r r' H H'->Q o H'):QU m P e s H Q
inductive g8(f:D->D->Hh->R D)(x:V)(y:V)(H:Hp)(Q:VK):Prop
 |mk (r:List Addr) (h:Hh) (a:D) (b:D) (d:D) (h':Hh) (c0:HR K H r h) (c1:RV K H r a x) (c2:RV K H r b y) (c3:f a b h=.ok d h') (c4:Res K r H h' d Q):g8 f x y H Q
inductive uo(f:List D->Hh->R D)(xs:List V)(H:Hp)(Q:VK):Prop
 |mk (r:List Addr) (h:Hh) (as:List D) (d:D) (h':Hh) (c0:HR K H r h) (c1:aG K H r as xs) (c2:f as h=.ok d h') (c3:Res K r H h' d Q):uo f xs H Q
inductive uq(f:D->List D->Hh->R D)(x:V)(xs:List V)(H:Hp)(Q:VK):Prop
 |mk (r:List Addr) (h:Hh) (a:D) (as:List D) (d:D) (h':Hh) (c0:HR K H r h) (c1:RV K H r a x) (c2:aG K H r as xs) (c3:f a as h=.ok d h') (c4:Res K r H h' d Q):uq f x xs H Q
inductive J3  (x:V) (lo:Option Int) (hi:Option Int) (H:Hp) (Q:VK):Prop
 |mk (r:List Addr) (h:Hh) (a:D) (d:D) (h':Hh) (c0:HR K H r h) (c1:RV K H r a x) (c2:Ev.gf a lo hi h=.ok d h') (c3:Res K r H h' d Q):J3 x lo hi H Q
end
section
variable{K:PySem.W.Frag}{m:List Nat}{H H':Hp}{r r':List Addr}{fr:Fr}{s:L2.St}{h h':Hh}{d:D}{Q:VK}
theorem SR.mono(a:SR K m H r fr s)(f:Fm K r r' H H'):SR K m H' r' fr s:=⟨a.len,λj i d e1 e2=>by
 obtain⟨v,q,z⟩:=a.sl j i d e1 e2;exact⟨v,q,z.mono f⟩⟩
def Res.here{v:V}(q:Res K r H h d Q)(a:RV K H r d v)(b:HR K H r h):Q v H:=q v H r a b .refl
def Res.later(q:Res K r H h' d Q)(f:Fm K r r' H H'):Res K r' H' h' d Q:=λv H2 r2 a b g=>q v H2 r2 a b (f.trans g)
theorem Res.lst{ds:List D}{vs:List V}(q:Res K r H h' d Q)(e:Ev.alloc ds h=.ok d h')(a:aG K H r ds vs)(b:HR K H r h):vs.length<=sizeLine/\∀p,H p=none->Q (.ref p) (upd H p (.lst vs)):=by
 unfold Ev.alloc at e;split at e
 .rename_i z;cases e;refine⟨by rw[a.length,<-jE];exact z,λp hp=>?_⟩;exact q _ _ (r++[p]) ⟨p,rfl,by rw[<-b.len];simp⟩ (b.lst hp a) (.laid hp)
 .cases e
theorem Res.tup{ds:List D}{vs:List V}(q:Res K r H h (.tup ds) Q)(a:aG K H r ds vs)(b:HR K H r h){p:Addr}(hp:H p=none):Q (.ref p) (upd H p (.tup vs)):=
 q _ _ r ⟨p,vs,rfl,.of gy,a.mono (.tup hp)⟩ (b.tup hp) (.tup hp)
end
def PE.of{X:Cx}{e:Expr}{t t':TE}(h:PE X e t)(w:∀s H Q,t' s H Q->t s H Q):PE X e t':=λpins s σ H Q I q=>h pins s σ H Q I (w _ _ _ q)
def PT.of{X:Cx}{e:Expr}{t t':TT}(h:PT X e t)(w:∀s H Q,t' s H Q->t s H Q):PT X e t':=λpins s σ H Q I q=>h pins s σ H Q I (w _ _ _ q)
def PW.of{X:Cx}{e:Expr}{t t':TT}(h:PW X e t)(w:∀s H Q,t' s H Q->t s H Q):PW X e t':=λwh pins s σ H Q I q=>h wh pins s σ H Q I (w _ _ _ q)
def PA.of{X:Cx}{es:List Expr}{t t':TA}(h:PA X es t)(w:∀s H Q,t' s H Q->t s H Q):PA X es t':=λpos pins s σ H Q I q=>h pos pins s σ H Q I (w _ _ _ q)
def PO.of{X:Cx}{e:Option Expr}{t t':TO}(h:PO X e t)(w:∀s H Q,t' s H Q->t s H Q):PO X e t':=λpins s σ H Q I q=>h pins s σ H Q I (w _ _ _ q)
structure FI where
 name:Str
 addr:Addr
 fd:FuncData
 ps:List Str
noncomputable def nX(K:PySem.W.Frag)(F:List Ev.Fn)(w n f:Nat):Sp:=λvs H Q _=>∃r h ds d h',aG K H r ds vs/\HR K H r h/\Ev.run F w n f ds h=.ok d h'/\Res K r H h' d Q
noncomputable def wO(K:PySem.W.Frag)(d:D)(v:V):Prop:=∀H r,RV K H r d v
def wO.rv{K:PySem.W.Frag}{H:Hp}{r:List Addr}{d:D}{v:V}(h:wO K d v):RV K H r d v:=h H r
structure Tb where
 F:List Ev.Fn
 w:Nat
 fi:List FI
 bl:List Str
 cs:List (Str×D)
 dk:List (Str×List (D×D))
noncomputable def tabOf:List (D×D)->List (PyData×PyData)
 | (.str k,.str v) :: r=>(.str (aV k),.str (aV v)) :: tabOf r
 |_=>[]
structure Good(G:Tb)(n:Nat)(sc:Scope)(N:List Str)(df:Bool)(X:Cx):Prop where
 nm:X.N=N
 sc:X.env.scope=sc
 calm:X.calm=true
 own:df=true->∀x,X.fn x=true
 room:gz n X.A
 xe:X.xe=λ_ _=>False
 fn:∀(f:Nat) i,G.fi[f]?=some i->X.mg i.name=some (.ref i.addr)/\PySem.W.keepIn X.K (.ref i.addr)=true/\Binds X.K i.fd i.ps []/\iF X.prog X.w X.K X.mg X.base mE n i.addr i.fd i.ps (nX X.K G.F G.w n f)
 bl:∀x∈G.bl,X.mg x=none
 cs:∀x d,(x,d)∈G.cs->∃v u,X.mg x=some u/\RelV v u/\wO X.K d v
 dk:∀x kvs,(x,kvs)∈G.dk->∃a,X.mg x=some (.ref a)/\∀h:Heap,X.K.In h->StrTab X.prog X.w h a (tabOf kvs)
section
variable(G:Tb)(n:Nat)(sc:Scope)(N:List Str)(df:Bool)(m:List Nat)
noncomputable def JE(e:E)(x:Expr):Prop:=∀X,Good G n sc N df X->PE X x (tJ X.K m (Ev.run G.F G.w n) e)
noncomputable def JT(e:E)(x:Expr):Prop:=∀X,Good G n sc N df X->PT X x (J1 X.K m (Ev.run G.F G.w n) e)
noncomputable def JW(e:E)(x:Expr):Prop:=∀X,Good G n sc N df X->PW X x (J1 X.K m (Ev.run G.F G.w n) e)
noncomputable def JA(es:Es)(xs:List Expr):Prop:=∀X,Good G n sc N df X->PA X xs (J2 X.K m (Ev.run G.F G.w n) es)
noncomputable def JO(e:Eo)(x:Option Expr):Prop:=∀X,Good G n sc N df X->PO X x (QU X.K m (Ev.run G.F G.w n) e)
end
section
variable{G:Tb}{n:Nat}{sc:Scope}{N:List Str}{df:Bool}{m:List Nat}{a b c:E}{xa xb:Expr}{pos:Pos}
def Good.vis{X:Cx}(g:Good G n sc N df X){x:Str}(h:sc.names.lookup x=some .local\/sc.names.lookup x=some .cell\/sc.names.lookup x=some .free):zR X.env.scope x:=by
 rw[g.sc];exact h
def Good.gl{X:Cx}(g:Good G n sc N df X){x:Str}(h:sc.names.lookup x=some .globalImplicit):Gl X x:=by
 unfold Gl Env.kindOf;rw[g.sc];exact h
def SM(j i:Nat){x:Str}(hj:m[j]?=some i:=by rfl)(hN:N[j]?=some x:=by rfl)
  (hv:sc.names.lookup x=some .local\/sc.names.lookup x=some .cell\/sc.names.lookup x=some .free:=by first|exact Or.inl rfl|exact Or.inr (Or.inl rfl)|exact Or.inr (Or.inr rfl))
  (hd:(x==("__debug__" : Str))=false:=by decide) (hcd:(x==("__classdict__" : Str))=false:=by decide):JE G n sc N df m (.v i) (.Name x pos):=by
 intro X g;refine PE.of (zU (i:=j) (by rw[g.nm];exact hN) (g.vis hv) hd hcd) λs H Q q=>?_;obtain⟨r,fr,h,d,h',sr,hr,e,q⟩:=q;simp only[Ev.ev]at e;obtain⟨e2,e3⟩:=Ev.aO e;subst e3;obtain⟨v,q1,q2⟩:=sr.sl j i d hj (by
  cases z:fr[i]? with
  |none=>rw[z]at e2;cases e2
  |some o=>
   rw[z]at e2;have e':o=some d:=e2;rw[e'])
 exact⟨v,q1,q.here q2 hr⟩
def tu{K:PySem.W.Frag}{P:aL}{d:D}{v:V}(hc:wO K d v):∀s H Q,tJ K m P (.c d) s H Q->tC v s H Q:=λs H Q q=>by
 obtain⟨r,fr,h,d',h',sr,hr,e,q⟩:=q;simp only[Ev.ev]at e;cases e;exact q.here hc.rv hr
def J4{i:Int}{j}:JE G n sc N df m (.c (.int i)) (.Constant (.int i) j pos):=λX g=>PE.of Jb (tu λ_ _=>rfl)
def OG{k:Bool}{j}:JE G n sc N df m (.c (.bl k)) (.Constant (.bool k) j pos):=λX g=>PE.of Of (tu λ_ _=>rfl)
def J5{j}:JE G n sc N df m (.c .aU) (.Constant .none j pos):=λX g=>PE.of Jc (tu λ_ _=>rfl)
def J6{l:List Nat}{x:Str}{j}(hx:x=aV l:=by decide +kernel)(hl:l.length<=sizeLine:=by decide):JE G n sc N df m (.c (.str l)) (.Constant (.str x) j pos):=
 λX g=>PE.of Jd (tu λ_ _=>by subst hx;exact⟨rfl,hl⟩)
def J7:JA G n sc N df m .nil []:=λX g=>PA.of mz λs H Q q=>by
 obtain⟨r,fr,h,ds,h',sr,hr,e,q⟩:=q;simp only[Ev.bZ]at e;cases e;exact q [] H r .nil hr .refl
def GF{es:Es}{xs:List Expr}(ha:JE G n sc N df m a xa)(hs:JA G n sc N df m es xs)(hst:∀env:Env,starEach (xa :: xs) env=(false,eval xa env) :: starEach xs env:=by intro _;rfl):JA G n sc N df m (.cons a es) (xa :: xs):=
 λX g=>PA.of (kh (ha X g) (hs X g) (hst _)) λs H Q q=>by
  obtain⟨r,fr,h,ds,h',sr,hr,e,q⟩:=q;simp only[Ev.bZ]at e;obtain⟨d,h1,e1,e⟩:=Ev.ah e;obtain⟨ds',h2,e2,e⟩:=Ev.ah e;cases e;refine⟨r,fr,h,d,h1,sr,hr,e1,λv H1 r1 v1 hr1 f1=>?_⟩;refine⟨r1,fr,h1,ds',_,sr.mono f1,hr1,e2,λvs H2 r2 v2 hr2 f2=>?_⟩;exact q _ H2 r2 (.cons (v1.mono f2) v2) hr2 (f1.trans f2)
def J8{es:Es}{xs:List Expr}{k}(hs:JA G n sc N df m es xs):JE G n sc N df m (.tup es) (.Tuple xs k pos):=λX g=>PE.of (JB (hs X g)) λs H Q q=>by
 obtain⟨r,fr,h,d,h',sr,hr,e,q⟩:=q;simp only[Ev.ev]at e;obtain⟨ds,h1,e1,e⟩:=Ev.ah e;split at e
 .rename_i z;cases e;refine⟨r,fr,h,ds,_,sr,hr,e1,λvs H1 r1 v1 hr1 f1=>⟨by rw[v1.length,<-jE];exact z,λp hp=>?_⟩⟩;exact(q.later f1).tup v1 hr1 hp
 .cases e
def J9{es:Es}{xs:List Expr}(hs:JA G n sc N df m es xs):JE G n sc N df m (.lst es) (.List xs pos):=λX g=>PE.of (JD (hs X g)) λs H Q q=>by
 obtain⟨r,fr,h,d,h',sr,hr,e,q⟩:=q;simp only[Ev.ev]at e;obtain⟨ds,h1,e1,e⟩:=Ev.ah e;refine⟨r,fr,h,ds,h1,sr,hr,e1,λvs H1 r1 v1 hr1 f1=>?_⟩;exact(q.later f1).lst e v1 hr1
def pG{K:PySem.W.Frag}{P:aL}{f:D->D->Hh->R D}{e':E}(he:∀fr h,Ev.ev P e' fr h=(Ev.ev P a fr h).bind λx h1=>(Ev.ev P b fr h1).bind λy h2=>f x y h2) :
  ∀s H Q,tJ K m P e' s H Q->zZ (g8 K f) (tJ K m P a) (tJ K m P b) s H Q:=λs H Q q=>by
 obtain⟨r,fr,h,d,h',sr,hr,e,q⟩:=q;rw[he]at e;obtain⟨x,h1,e1,e⟩:=Ev.ah e;obtain⟨y,h2,e2,e⟩:=Ev.ah e;refine⟨r,fr,h,x,h1,sr,hr,e1,λv H1 r1 v1 hr1 f1=>?_⟩;refine⟨r1,fr,h1,y,h2,sr.mono f1,hr1,e2,λu H2 r2 v2 hr2 f2=>?_⟩;exact⟨r2,h2,x,y,d,h',hr2,v1.mono f2,v2,e,q.later (f1.trans f2)⟩
def mF{o:bh}{op:Operator}(ho:∀X,Good G n sc N df X->dB X (binaryOp op) (g8 X.K (Ev.bN o)))(ha:JE G n sc N df m a xa)(hb:JE G n sc N df m b xb):JE G n sc N df m (.bin o a b) (.BinOp xa op xb pos):=
 λX g=>PE.of (Oq (ho X g) (ha X g) (hb X g)) (pG λfr h=>by simp only[Ev.ev])
noncomputable def gA(o:aZ):D->D->Hh->R D:=λx y h=>R.of ((Ev.cop o x y h).map .bl) h
def Aj{o:aZ}{op:CmpOp}(ho:∀X,Good G n sc N df X->dB X (compareOp op) (g8 X.K (gA o)))(ha:JE G n sc N df m a xa)(hb:JE G n sc N df m b xb)(hm:behindInMarks op xb=false):JE G n sc N df m (.cmp o a b) (.Compare xa [op] [xb] pos):=
 λX g=>PE.of (Gp (ho X g) (ha X g) (hb X g) hm) (pG λfr h=>by simp only[Ev.ev,gA])
def jw{o:aZ}{x y d:D}{h h':Hh}(e:gA o x y h=.ok d h'):∃k,Ev.cop o x y h=some k/\d=.bl k/\h'=h:=by
 unfold gA at e;obtain⟨e1,rfl⟩:=Ev.aO e;cases z:Ev.cop o x y h' with
 |none=>rw[z]at e1;cases e1
 |some k=>rw[z]at e1;cases e1;exact⟨k,rfl,rfl,rfl⟩
def ko{o:aZ}{op:CmpOp}(ho:∀X,Good G n sc N df X->dB X (compareOp op) (g8 X.K (gA o)))(ha:JE G n sc N df m a xa)(hb:JE G n sc N df m b xb)(hm:behindInMarks op xb=false):JT G n sc N df m (.cmp o a b) (.Compare xa [op] [xb] pos):=
 λX g=>PT.of (Gq (ho X g) (ha X g) (hb X g) hm) λs H Q q=>by
  obtain⟨r,fr,h,k,h',sr,hr,e,q⟩:=q;simp only[Ev.aH]at e;obtain⟨d,h1,e1,e⟩:=Ev.ah e;have e0:=e1;simp only[Ev.ev]at e0;obtain⟨x,h2,_,e0⟩:=Ev.ah e0;obtain⟨y,h3,_,e0⟩:=Ev.ah e0;obtain⟨k',e2,e3,e4⟩:=jw (o:=o) (show gA o x y h3=_ from e0);subst e3;simp only[Ev.truthy]at e;cases e;refine pG (e':=.cmp o a b) (f:=gA o) (λfr h=>by simp only[Ev.ev,gA]) s H _ ⟨r,fr,h,.bl k,_,sr,hr,e1,λv H1 r1 v1 hr1 f1=>?_⟩;exact⟨k,v1,q H1 r1 hr1 f1⟩
end
section
variable{G:Tb}{n:Nat}{sc:Scope}{N:List Str}{df:Bool}{m:List Nat}{a b c:E}{xa xb xc:Expr}{pos:Pos}
def Ka(ha:JE G n sc N df m a xa):JE G n sc N df m (.neg a) (.UnaryOp .USub xa pos):=λX g=>PE.of (Ot Jx (ha X g)) λs H Q q=>by
 obtain⟨r,fr,h,d,h',sr,hr,e,q⟩:=q;simp only[Ev.ev]at e;obtain⟨x,h1,e1,e⟩:=Ev.ah e;split at e
 .cases e;exact⟨r,fr,h,_,_,sr,hr,e1,λv H1 r1 v1 hr1 f1=>⟨_,v1,(q.later f1).here rfl hr1⟩⟩
 .cases e
def Kc{op}(ha:JE G n sc N df m a xa):JE G n sc N df m a (.BoolOp op [xa] pos):=λX g=>Jh (ha X g)
def OH{rest:List Expr}(ha:JE G n sc N df m a xa)(hb:JE G n sc N df m b (.BoolOp .And (xb :: rest) pos)):JE G n sc N df m (.an a b) (.BoolOp .And (xa :: xb :: rest) pos):=λX g=>PE.of (Ji (ha X g) (hb X g)) λs H Q q=>by
 obtain⟨r,fr,h,d,h',sr,hr,e,q⟩:=q;simp only[Ev.ev]at e;obtain⟨x,h1,e1,e⟩:=Ev.ah e;refine⟨r,fr,h,x,h1,sr,hr,e1,λv H1 r1 v1 hr1 f1=>?_⟩;split at e
 .exact⟨true,v1,r1,fr,h1,d,h',sr.mono f1,hr1,e,q.later f1⟩
 .cases e;exact⟨false,v1,(q.later f1).here rfl hr1⟩
 .cases e
def Kd(ha:JT G n sc N df m a xa)(hb:JE G n sc N df m b xb)(hc:JE G n sc N df m c xc):JE G n sc N df m (.lU a b c) (.IfExp xa xb xc pos):=λX g=>PE.of (Cc (ha X g) (hb X g) (hc X g)) λs H Q q=>by
 obtain⟨r,fr,h,d,h',sr,hr,e,q⟩:=q;simp only[Ev.ev]at e;obtain⟨k,h1,e1,e⟩:=Ev.ah e;refine⟨r,fr,h,k,h1,sr,hr,e1,λH1 r1 hr1 f1=>?_⟩;cases k with
 |true=>exact⟨r1,fr,h1,d,h',sr.mono f1,hr1,e,q.later f1⟩
 |false=>exact⟨r1,fr,h1,d,h',sr.mono f1,hr1,e,q.later f1⟩
def Ke(h:JW G n sc N df m a xa):JT G n sc N df m a xa:=λX g=>(h X g).pt
def Kf(ha:JT G n sc N df m a xa):JW G n sc N df m a (.BoolOp .And [xa] pos):=λX g=>Gh (ha X g)
def GG(ha:JT G n sc N df m a xa):JW G n sc N df m a (.BoolOp .Or [xa] pos):=λX g=>Je (ha X g)
def EK{rest:List Expr}(ha:JT G n sc N df m a xa)(hb:JW G n sc N df m b (.BoolOp .And (xb :: rest) pos)):JW G n sc N df m (.an a b) (.BoolOp .And (xa :: xb :: rest) pos):=λX g=>PW.of (Jf (ha X g) (hb X g)) λs H Q q=>by
 obtain⟨r,fr,h,k,h',sr,hr,e,q⟩:=q;simp only[Ev.aH]at e;obtain⟨k1,h1,e1,e⟩:=Ev.ah e;refine⟨r,fr,h,k1,h1,sr,hr,e1,λH1 r1 hr1 f1=>?_⟩;cases k1 with
 |true=>exact⟨r1,fr,h1,k,h',sr.mono f1,hr1,e,λH2 r2 hr2 f2=>q H2 r2 hr2 (f1.trans f2)⟩
 |false=>
  have e':R.ok false h1=R.ok k h':=e;cases e';exact q H1 r1 hr1 f1
def Ak{rest:List Expr}(ha:JT G n sc N df m a xa)(hb:JW G n sc N df m b (.BoolOp .Or (xb :: rest) pos)):JW G n sc N df m (.orr a b) (.BoolOp .Or (xa :: xb :: rest) pos):=λX g=>PW.of (Og (ha X g) (hb X g)) λs H Q q=>by
 obtain⟨r,fr,h,k,h',sr,hr,e,q⟩:=q;simp only[Ev.aH]at e;obtain⟨k1,h1,e1,e⟩:=Ev.ah e;refine⟨r,fr,h,k1,h1,sr,hr,e1,λH1 r1 hr1 f1=>?_⟩;cases k1 with
 |false=>exact⟨r1,fr,h1,k,h',sr.mono f1,hr1,e,λH2 r2 hr2 f2=>q H2 r2 hr2 (f1.trans f2)⟩
 |true=>
  have e':R.ok true h1=R.ok k h':=e;cases e';exact q H1 r1 hr1 f1
def OI(ha:JT G n sc N df m a xa):JT G n sc N df m (.nt a) (.UnaryOp .Not xa pos):=λX g=>PT.of (Jg (ha X g)) λs H Q q=>by
 obtain⟨r,fr,h,k,h',sr,hr,e,q⟩:=q;simp only[Ev.aH]at e;obtain⟨k1,h1,e1,e⟩:=Ev.ah e;cases e;exact⟨r,fr,h,k1,_,sr,hr,e1,λH1 r1 hr1 f1=>q H1 r1 hr1 f1⟩
def Kg{K:PySem.W.Frag}{H:Hp}{r:List Addr}{h:Hh}{d:D}{v:V}{k:Bool}(hr:HR K H r h)(v1:RV K H r d v)(e:Ev.truthy h d=some k):Cn K v H k:=by
 cases d with
 |aU=>simp only[RV]at v1;subst v1;cases e;rfl
 |bl x=>simp only[RV]at v1;subst v1;cases e;rfl
 |int x=>simp only[RV]at v1;subst v1;cases e;rfl
 |str x=>
  simp only[RV]at v1;obtain⟨rfl,z⟩:=v1;cases e;refine⟨by rw[cO];exact z,?_⟩;rw[cO];cases x with
  |nil=>rfl
  |cons c l=>simp;omega
 |tup ds=>
  simp only[RV]at v1;obtain⟨p,vs,rfl,z,q⟩:=v1;cases e;refine .inr (.inl ⟨vs,z,?_⟩);have hl:=q.length;cases ds<;>cases vs<;>simp_all
 |ref i=>
  simp only[RV]at v1;obtain⟨p,rfl,z⟩:=v1;have et:Ev.truthy h (.ref i)=(Ev.bq h i).map λds=>!ds.isEmpty:=by
   first
    |rfl
    | (simp only[Ev.truthy];split<;>first|rfl | (rename_i kvs z;first|exact(VN ⟨kvs,z⟩).elim|exact(hss ⟨kvs,z⟩).elim))
  rw[et]at e;simp only[vv]at e;obtain⟨ds,e1,rfl⟩:=e;obtain⟨p',vs,e2,q1,q2⟩:=hr.read e1;rw[z]at e2;cases e2;refine .inl ⟨vs,q1,?_⟩;have hl:=q2.length;cases ds<;>cases vs<;>simp_all
def Kh(ha:JE G n sc N df m a xa)(he:∀(P:aL) fr h,Ev.aH P a fr h=(Ev.ev P a fr h).bind λx h1=>R.of (Ev.truthy h1 x) h1:=by intros;simp only[Ev.aH])
  (hx:∀(env:Env) whole,isTrue xa env whole=(do let v <-whole;standAt xa.pos;holding [v] (truthy v)):=by intro _ _;rfl):JT G n sc N df m a xa:=λX g=>PT.of (Co (ha X g) (hx _)) λs H Q q=>by
 obtain⟨r,fr,h,k,h',sr,hr,e,q⟩:=q;rw[he]at e;obtain⟨d,h1,e1,e⟩:=Ev.ah e;obtain⟨e,rfl⟩:=Ev.aO e;refine⟨r,fr,h,d,_,sr,hr,e1,λv H1 r1 v1 hr1 f1=>⟨k,Kg hr1 v1 e,q H1 r1 hr1 f1⟩⟩
noncomputable def Kl:D->D->Hh->R D:=λx y h=>R.of (Ev.dg x y h) h
def OJ(ho:∀X,Good G n sc N df X->wK X (g8 X.K Kl))(ha:JE G n sc N df m a xa)(hb:JE G n sc N df m b xb)(hs:qz xb:=by intro _ _;rfl):JE G n sc N df m (.ix a b) (.Subscript xa xb pos):=
 λX g=>PE.of (OD (ho X g) (ha X g) (hb X g) hs) (pG λfr h=>by simp only[Ev.ev,Kl])
def OL:JO G n sc N df m .no none:=λX g=>PO.of Gv λs H Q q=>by
 obtain⟨r,fr,h,o,h',sr,hr,e,q⟩:=q;simp only[Ev.fz]at e;cases e;exact q H r hr .refl
def Km(ha:JE G n sc N df m a xa):JO G n sc N df m (.yes a) (some xa):=λX g=>PO.of (Gw (ha X g)) λs H Q q=>by
 obtain⟨r,fr,h,o,h',sr,hr,e,q⟩:=q;simp only[Ev.fz]at e;obtain⟨d,h1,e1,e⟩:=Ev.ah e;obtain⟨e,rfl⟩:=Ev.aO e;cases d with
 |int i=>
  cases e;exact⟨r,fr,h,.int i,_,sr,hr,e1,λv H1 r1 v1 hr1 f1=>⟨i,v1,q H1 r1 hr1 f1⟩⟩
 |_=>cases e
def OM{lo hi:Eo}{xl xh:Option Expr}{p2}(ho:∀X,Good G n sc N df X->kj X (J3 X.K))(ha:JE G n sc N df m a xa)(hl:JO G n sc N df m lo xl)(hu:JO G n sc N df m hi xh):JE G n sc N df m (.sl a lo hi) (.Subscript xa (.Slice xl xh none p2) pos):=
 λX g=>PE.of (Cr (ho X g) (ha X g) (hl X g) (hu X g)) λs H Q q=>by
  obtain⟨r,fr,h,d,h',sr,hr,e,q⟩:=q;simp only[Ev.ev]at e;obtain⟨x,h1,e1,e⟩:=Ev.ah e;obtain⟨l,h2,e2,e⟩:=Ev.ah e;obtain⟨u,h3,e3,e⟩:=Ev.ah e;refine⟨r,fr,h,x,h1,sr,hr,e1,λv H1 r1 v1 hr1 f1=>?_⟩;refine⟨r1,fr,h1,l,h2,sr.mono f1,hr1,e2,λH2 r2 hr2 f2=>?_⟩;refine⟨r2,fr,h2,u,h3,(sr.mono f1).mono f2,hr2,e3,λH3 r3 pH f3=>?_⟩;exact⟨r3,h3,x,d,h',pH,(v1.mono f2).mono f3,e,q.later ((f1.trans f2).trans f3)⟩
def GH{K:PySem.W.Frag}{P:aL}{es:Es}{f:List D->Hh->R D}{e':E}(he:∀fr h,Ev.ev P e' fr h=(Ev.bZ P es fr h).bind f) :
  ∀s H Q,tJ K m P e' s H Q->JJ (uo K f) (J2 K m P es) s H Q:=λs H Q q=>by
 obtain⟨r,fr,h,d,h',sr,hr,e,q⟩:=q;rw[he]at e;obtain⟨ds,h1,e1,e⟩:=Ev.ah e;exact⟨r,fr,h,ds,h1,sr,hr,e1,λvs H1 r1 v1 hr1 f1=>⟨r1,h1,ds,d,h',hr1,v1,e,q.later f1⟩⟩
def tB{k:BI}{es:Es}{x:Str}{id:String}{e0:Expr}{xs:List Expr}{p:Pos}(hc:∀X,Good G n sc N df X->gn X (.builtin id) (uo X.K (Ev.cK k)))(hs:JA G n sc N df m es (e0 :: xs))(hb:x∈G.bl:=by decide +kernel)
  (hg:sc.names.lookup x=some .globalImplicit:=by rfl) (hv:bootBuiltins x=some (.builtin id)) (hn:x≠"__name__" :=by decide) (hd:(x==("__debug__" : Str))=false:=by decide)
  (hst:∀env:Env,starEach (e0 :: xs) env=(false,eval e0 env) :: starEach xs env:=by intro _;rfl) (hpl:∀env:Env,(backTo pos (starEach xs env)).any (·.1)=false:=by intro _;rfl) :
  JE G n sc N df m (.bi k es) (.Call (.Name x p) (e0 :: xs) [] pos):=
 λX g=>PE.of (Cp (hc X g) (g.gl hg) (g.bl x hb) hv (hs X g) hn hd (hst _) (hpl _)) (GH λfr h=>by simp only[Ev.ev])
def ON{f:Nat}{i:FI}{es:Es}{e0:Expr}{xs:List Expr}{p:Pos}(hf:G.fi[f]?=some i)(hs:JA G n sc N df m es (e0 :: xs))
  (hg:sc.names.lookup i.name=some .globalImplicit:=by rfl) (hd:(i.name==("__debug__" : Str))=false:=by decide)
  (hst:∀env:Env,starEach (e0 :: xs) env=(false,eval e0 env) :: starEach xs env:=by intro _;rfl) (hpl:∀env:Env,(backTo pos (starEach xs env)).any (·.1)=false:=by intro _;rfl) :
  JE G n sc N df m (.cl f es) (.Call (.Name i.name p) (e0 :: xs) [] pos):=λX g=>by
 obtain⟨h1,h2,h3,h4⟩:=g.fn f i hf;refine PE.of (Gr h4 g.room (g.gl hg) h1 h2 h3 .nil OF (hs X g) hd (hst _) (hpl _)) λs H Q q=>?_;obtain⟨r,fr,h,d,h',sr,hr,e,q⟩:=q;simp only[Ev.ev]at e;obtain⟨ds,h5,e1,e⟩:=Ev.ah e;refine⟨r,fr,h,ds,h5,sr,hr,e1,λvs H1 r1 v1 hr1 f1=>?_⟩;exact⟨r1,h5,ds,d,h',by rw[Xn];exact v1,hr1,e,q.later f1⟩
noncomputable def CA:ME->String
 |.join=>"str"
 |_=>"list"
def Am{K:PySem.W.Frag}{H:Hp}{r:List Addr}{h:Hh}{k:ME}{d:D}{v:V}{ty:String}(hr:HR K H r h)(v1:RV K H r d v)(e:Ev.wN k d h=true)(ht:ty=CA k):Ad K ty v H:=by
 subst ht;have lst:∀i,d=.ref i->(Ev.bq h i).isSome=true->Ad K "list" v H:=λi ed es=>by
  subst ed;obtain⟨ds,e1⟩:=Option.isSome_iff_exists.mp es;obtain⟨p,vs,e2,q1,q2⟩:=hr.read e1;simp only[RV]at v1;obtain⟨p',rfl,e3⟩:=v1;rw[e2]at e3;cases e3;exact .inl ⟨rfl,vs,q1⟩
 cases k with
 |join=>
  cases d with
  |str l=>simp only[RV]at v1;obtain⟨rfl,_⟩:=v1;rfl
  |_=>cases e
 |append=>cases d with|ref i=>exact lst i rfl e|_=>cases e
 |extend=>cases d with|ref i=>exact lst i rfl e|_=>cases e
 |pop=>cases d with|ref i=>exact lst i rfl e|_=>cases e
def yz {k:ME}{es:Es}{e0:Expr}{xs:List Expr}{name:Str}{apos:Pos}{ty id:String}(pa:PlainAttrs ty) (slot:Slot ty name id) (hty:typeOf (.builtin id)=pure (.type "method_descriptor"))
  (hm:∀X,Good G n sc N df X->rT X id (uq X.K (Ev.eV k))) (ht:ty=CA k) (ha:JE G n sc N df m a xa) (hs:JA G n sc N df m es (e0 :: xs))
  (hbase:∀env:Env,attributeBase xa name env (eval xa env)=eval xa env:=by intro _;rfl)
  (hfew:∀env:Env,((backTo pos (starEach (e0 :: xs) env)).all (λx=>!x.1)&&(backToKw pos (keywordEach [] env)).all (λx=>x.1.isSome)
   &&decide ((e0 :: xs).length+([]:List Keyword).length+(if ([]:List Keyword).isEmpty then 0 else 1)<30))=true:=by intro _;rfl)
  (hline:(apos.endLine==pos.line)=true:=by rfl) (hst:∀env:Env,starEach (e0 :: xs) env=(false,eval e0 env) :: starEach xs env:=by intro _;rfl) (hpl:∀env:Env,(backTo pos (starEach xs env)).any (·.1)=false:=by intro _;rfl) :
  JE G n sc N df m (.me k a es) (.Call (.Attribute xa name apos) (e0 :: xs) [] pos):=λX g=>
 PE.of (OE pa slot hty (hm X g) (ha X g) (hs X g) (hbase _) (hfew _) hline (hst _) (hpl _)) λs H Q q=>by
  obtain⟨r,fr,h,d,h',sr,hr,e,q⟩:=q;simp only[Ev.ev]at e;obtain⟨x,h1,e1,e⟩:=Ev.ah e;split at e
  .rename_i hk;obtain⟨ds,h2,e2,e⟩:=Ev.ah e;refine⟨r,fr,h,x,h1,sr,hr,e1,λv H1 r1 v1 hr1 f1=>⟨Am hr1 v1 hk ht,?_⟩⟩;refine⟨r1,fr,h1,ds,h2,sr.mono f1,hr1,e2,λvs H2 r2 v2 hr2 f2=>?_⟩;exact⟨r2,h2,x,ds,d,h',hr2,v1.mono f2,v2,e,q.later (f1.trans f2)⟩
  .cases e
def Kn {k:ME}{name:Str}{apos:Pos}{ty id:String}(pa:PlainAttrs ty) (slot:Slot ty name id) (hty:typeOf (.builtin id)=pure (.type "method_descriptor"))
  (hm:∀X,Good G n sc N df X->rT X id (uq X.K (Ev.eV k))) (ht:ty=CA k) (ha:JE G n sc N df m a xa)
  (hbase:∀env:Env,attributeBase xa name env (eval xa env)=eval xa env:=by intro _;rfl) (hline:(apos.endLine==pos.line)=true:=by rfl) :
  JE G n sc N df m (.me k a .nil) (.Call (.Attribute xa name apos) [] [] pos):=λX g=>
 PE.of (JP pa slot hty (hm X g) (ha X g) (hbase _) hline) λs H Q q=>by
  obtain⟨r,fr,h,d,h',sr,hr,e,q⟩:=q;simp only[Ev.ev]at e;obtain⟨x,h1,e1,e⟩:=Ev.ah e;split at e
  .rename_i hk;simp only[Ev.bZ,Ev.ak]at e;refine⟨r,fr,h,x,h1,sr,hr,e1,λv H1 r1 v1 hr1 f1=>⟨Am hr1 v1 hk ht,?_⟩⟩;exact⟨r1,h1,x,[],d,h',hr1,v1,.nil,e,q.later f1⟩
  .cases e
end
end Sm
namespace Sm
open PySem PySem.Spec PyProof.Rows L2
open Ev (D O Hh Fr R aL E Es Eo T S Ss Fl Src bh aZ TY BI ME)
noncomputable def qD(K:PySem.W.Frag)(r0:List Addr)(H0:Hp)(s:Src)(J:L2.It):Prop:=∀(i:Nat) H1 r1 h1,HR K H1 r1 h1->Fm K r0 r1 H0 H1->Ev.stays h1 s.2=true->
 (∀d,s.1[i]?=some d->J.go i H1/\∀x H2,J.EH i H1 x H2->∃r2,RV K H2 r2 d x/\HR K H2 r2 h1/\Fm K r1 r2 H1 H2)/\(s.1.length<=i->J.stop i H1)
inductive QV(K:PySem.W.Frag)(m:List Nat)(P:aL)(it:Ev.It)(s:L2.St)(H:Hp)(Rr:L2.It->Hp->Prop):Prop
 |mk (r:List Addr) (fr:Fr) (h:Hh) (src:Src) (h':Hh) (c0:SR K m H r fr s) (c1:HR K H r h) (c2:Ev.cZ P it fr h=.ok src h') (c3:∀J H' r',HR K H' r' h'->Fm K r r' H H'->qD K r' H' src J->Rr J H'):QV K m P it s H Rr
noncomputable def JI(G:Tb)(n:Nat)(sc:Scope)(N:List Str)(df:Bool)(m:List Nat)(it:Ev.It)(tg x:Expr):Prop:=∀X,Good G n sc N df X->PI X tg x (QV X.K m (Ev.run G.F G.w n) it)
noncomputable def EL(z:Str):L2.It:=⟨λi _=>i<z.length,λi H x H'=>H'=H/\∃c,z.cps[i]?=some c/\x=.str ⟨#[c]⟩,λi _=>z.length<=i⟩
def Ko{M:Model}{A:Around}{E:Value->Shared->Prop}{s:Shared}{tg:Expr}{it:Value}{x:Str}{t:Tok}{Q:Unit->Shared->Prop}(hQ:Q () s):wpAny M A (letOwnedTupleGo tg it (.str x t)) Q E s:=by
 unfold letOwnedTupleGo;cases tg<;>first
  |exact gV hQ
  | (cases it<;>exact gV hQ)
def ur {P:Program}{w:World}{K:PySem.W.Frag}{tg:Expr}(z:Str) (t:Tok) (it:Addr) (ty:String) (hty:ty = "str_ascii_iterator" \/ty = "str_iterator") :
  Turn P w K tg (EL z) [it] it (λi h=>h.IsStrIter it ty z t i) where
 mem:=by simp
 obj:=λi h st b hb=>by
  have e:b=it:=by simpa using hb
  subst e;obtain⟨o,e,c,d⟩:=st;exact⟨o,e,λv z=>by rw[d]at z;cases z⟩
 keep:=λi h h' st k=>by
  obtain⟨o,e,c,d⟩:=st;exact⟨o,k it (by simp) o e,c,d⟩
 item:=by
  intro X hP hw hK hc i pins s σ H E I hf st hg;subst hP hw hK;obtain⟨f0,f1,f2,f3,f4,f5⟩:=hf it (by simp);have W:Walks X.prog X.w X.A it [it] [it] z.cps.size (SignAt z) (λi h=>h.IsStrIter it ty z t i):=by
   rcases hty with e|e
   .subst e;exact Walks.strAscii (I.ok.hd hc) it z t
   .subst e;exact Walks.strWide (I.ok.hd hc) it z t
  refine W.item i s _ _ hg st λv h' tk hv st' kk=>?_;obtain⟨c,u,hc',rfl⟩:=hv;have I1:Inv X pins σ H { s with heap:=h',toks:=tk }:=I.turned (λb o hb e=>kk b o (by simpa using hb) e) f0 f1 f3 f4 f5;exact⟨_,rfl,Ko ⟨.str ⟨#[c]⟩,H,I1,⟨u,rfl⟩,⟨rfl,c,hc',rfl⟩,st',λb hb=>(hf b hb).1⟩⟩
 done:=by
  intro X hP hw hK hc i pins s σ H E I hf st hg;subst hP hw hK;obtain⟨f0,f1,f2,f3,f4,f5⟩:=hf it (by simp);rcases hty with e|e
  .subst e;exact wpAny_pyNext_ascii_end (I.ok.hd hc) st (by simpa[Str.length,EL]using hg) λh' eb=>⟨rfl,I.turned (t':=s.toks) (λb o hb e=>eb b o hb e) f0 f1 f3 f4 f5⟩
  .subst e;exact wpAny_pyNext_wide_end (I.ok.hd hc) st (by simpa[Str.length,EL]using hg) λh' eb=>⟨rfl,I.turned (t':=s.toks) (λb o hb e=>eb b o hb e) f0 f1 f3 f4 f5⟩
 self:=λ_ _ _ _ _ st h=>by
  rcases hty with e|e
  .subst e;exact wpAny_pyIter_striter_ascii st h
  .subst e;exact wpAny_pyIter_striter_wide st h
noncomputable def EM(K:PySem.W.Frag)(x:V)(H:Hp)(Rr:L2.It->Hp->Prop):Prop:=
 (∃a xs,x=.ref a/\eU K H a xs/\Rr (QM K a) H)\/(∃a xs,x=.ref a/\dz K H a xs/\Rr (QN K a) H)\/∃z,x=.str z/\Rr (EL z) H
def Kp{X:Cx}{tg l:Expr}{tl:TE}{wi:TI}(hl:PE X l tl)(hw:∀s H Rr,wi s H Rr->tl s H λx H1=>EM X.K x H1 Rr):PI X tg l wi:=by
 intro pins s σ H Rr I h;refine bQ (hl pins s σ H _ I (hw _ _ _ h)) λv s1 ⟨x,H1,I1,r1,q1⟩=>?_;have fp:∀(o:Obj) b,b∈[s1.heap.objs.size]->gY X pins H1 b:=λo b hb=>by
  have e:b=s1.heap.objs.size:=by simpa using hb
  subst e;exact I1.Cj (qh _) (I1.hok.fresh (qh _))
 rcases q1 with ⟨a,xs,rfl,hq,q⟩|⟨a,xs,rfl,hq,q⟩|⟨z,rfl,q⟩
 .cases r1;obtain⟨its,rv,p,hz⟩:=I1.list hq;refine wpAny_pyIter_list p.isList ?_;exact⟨s1.heap.objs.size,[s1.heap.objs.size],_,_,H1,rfl,I1.kept (t':=s1.toks) λb o e=>lM _ e,zW a _,⟨_,WM _ rfl,rfl,rfl⟩,fp default,q⟩
 .cases r1;obtain⟨its,rv,p,hz⟩:=I1.tuple hq;refine wpAny_pyIter_tuple (show s1.heap.IsTuple a its.toArray from p) ?_;exact⟨s1.heap.objs.size,[s1.heap.objs.size],_,_,H1,rfl,I1.kept (t':=s1.toks) λb o e=>lM _ e,yi a _,⟨_,WM _ rfl,rfl,rfl⟩,fp default,q⟩
 .obtain⟨t,rfl⟩:=r1;cases ha:z.cps.all (· < 128)
  .refine wpAny_pyIter_wide ha ?_;exact⟨s1.heap.objs.size,[s1.heap.objs.size],_,_,H1,rfl,I1.kept (t':=s1.toks) λb o e=>lM _ e,ur z t _ _ (.inr rfl),⟨_,WM _ rfl,rfl,rfl⟩,fp default,q⟩
  .refine wpAny_pyIter_ascii ha ?_;exact⟨s1.heap.objs.size,[s1.heap.objs.size],_,_,H1,rfl,I1.kept (t':=s1.toks) λb o e=>lM _ e,ur z t _ _ (.inl rfl),⟨_,WM _ rfl,rfl,rfl⟩,fp default,q⟩
def An{h:Hh}{n:Nat}{ds:List D}(e:Ev.stays h [(n,ds)]=true):Ev.bq h n=some ds:=by
 simp only[Ev.stays,Bool.and_true]at e;split at e
 .rename_i es q;rw[q,(Ev.rY _ _).mp e]
 .cases e
def GI{K:PySem.W.Frag}{H:Hp}{r:List Addr}{h:Hh}{d:D}{v:V}{src:Src}{Rr:L2.It->Hp->Prop}(hr:HR K H r h)(v1:RV K H r d v)(e:Ev.fU h d=some src)(q:∀J,qD K r H src J->Rr J H):EM K v H Rr:=by
 cases d with
 |tup ds=>
  simp only[RV]at v1;obtain⟨a,vs,rfl,z,w⟩:=v1;cases e;refine .inr (.inl ⟨a,vs,rfl,z,q _ λi H1 r1 h1 hr1 f1 st=>⟨λd' e'=>?_,λhl=>?_⟩⟩)
  .obtain⟨u,e1,e2⟩:=w.get e';refine⟨⟨vs,u,f1.tups _ _ z,e1⟩,λx H2 y=>?_⟩;obtain⟨rfl,y⟩:=y;have:=y vs (f1.tups _ _ z);rw[e1]at this;cases this;exact⟨r1,e2.mono f1,hr1,.refl⟩
  .exact⟨vs,f1.tups _ _ z,by rw[w.length];exact hl⟩
 |str l=>
  simp only[RV]at v1;obtain⟨rfl,z⟩:=v1;cases e;refine .inr (.inr ⟨_,rfl,q _ λi H1 r1 h1 hr1 f1 st=>⟨λd' e'=>?_,λhl=>?_⟩⟩)
  .rw[WX]at e';cases e2:l[i]? with
   |none=>rw[e2]at e';cases e'
   |some c=>
    rw[e2]at e';cases e';refine⟨by show i<(aV l).length;rw[cO];exact(List.getElem?_eq_some_iff.mp e2).1,λx H2 y=>?_⟩;obtain⟨rfl,c',y1,rfl⟩:=y;have e3:(aV l).cps[i]?=some c:=by simp[aV,e2]
    rw[e3]at y1;cases y1;exact⟨r1,⟨rfl,by show 1<=sizeLine;decide⟩,hr1,.refl⟩
  .show(aV l).length<=i;rw[cO];simpa using hl
 |ref k=>
  simp only[RV]at v1;obtain⟨a,rfl,z⟩:=v1;simp only[Ev.fU,vv]at e;obtain⟨ds,e1,rfl⟩:=e;obtain⟨a',vs,e2,e3,e4⟩:=hr.read e1;rw[z]at e2;cases e2;refine .inl ⟨a,vs,rfl,e3,q _ λi H1 r1 h1 hr1 f1 st=>?_⟩;obtain⟨a',us,e5,e6,e7⟩:=hr1.read (An st);rw[f1.pre _ _ z]at e5;cases e5;refine⟨λd' e'=>?_,λhl=>⟨us,e6,by rw[e7.length];exact hl⟩⟩;obtain⟨u,g1,g2⟩:=e7.get e';refine⟨⟨us,u,e6,g1⟩,λx H2 y=>?_⟩;obtain⟨rfl,y⟩:=y;have:=y us e6;rw[g1]at this;cases this;exact⟨r1,g2,hr1,.refl⟩
 |_=>cases e
section
variable{G:Tb}{n:Nat}{sc:Scope}{N:List Str}{df:Bool}{m:List Nat}{a b:E}{xa tg:Expr}{pos:Pos}
def Kq(ha:JE G n sc N df m a xa):JI G n sc N df m (.seq a) tg xa:=λX g=>Kp (ha X g) λs H Rr q=>by
 obtain⟨r,fr,h,src,h',sr,hr,e,q⟩:=q;simp only[Ev.cZ]at e;obtain⟨d,h1,e1,e⟩:=Ev.ah e;obtain⟨e,rfl⟩:=Ev.aO e;refine⟨r,fr,h,d,_,sr,hr,e1,λv H1 r1 v1 hr1 f1=>?_⟩;exact GI hr1 v1 e λJ hJ=>q J H1 r1 hr1 f1 hJ
def PI.of{X:Cx}{tg l:Expr}{t t':TI}(h:PI X tg l t)(w:∀s H Q,t' s H Q->t s H Q):PI X tg l t':=λpins s σ H Q I q=>h pins s σ H Q I (w _ _ _ q)
def Kr{K:PySem.W.Frag}{r:List Addr}{H:Hp}(lo:Int)(k:Nat):qD K r H (Ev.range lo k,[]) (EI lo k):=λi H1 r1 h1 hr1 f1 st=>by
 refine⟨λd e=>?_,λhl=>?_⟩
 .simp only[Ev.range,WX]at e;cases e2:(List.range k)[i]? with
  |none=>rw[e2]at e;cases e
  |some j=>
   rw[e2]at e;cases e;have hi:i<k:=by simpa using (List.getElem?_eq_some_iff.mp e2).1
   have hj:j=i:=by
    rw[X5 hi]at e2;exact(Er e2).symm
   subst hj;refine⟨hi,λx H2 y=>?_⟩;obtain⟨rfl,rfl⟩:=y;exact⟨r1,rfl,hr1,.refl⟩
 .have:(Ev.range lo k).length=k:=by simp[Ev.range]
  show k<=i;have hl':(Ev.range lo k).length<=i:=hl;omega
def GJ {e1:E}{p:Pos}(hs:JA G n sc N df m (.cons e1 .nil) [xa]) (hg:sc.names.lookup ("range" : Str)=some .globalImplicit:=by rfl) (hb:("range" : Str)∈G.bl:=by decide +kernel)
  (hst:∀env:Env,starEach [xa] env=[(false,eval xa env)]:=by intro _;rfl):JI G n sc N df m (.fH (.cons e1 .nil)) tg (.Call (.Name "range" p) [xa] [] pos):=λX g=>
 PI.of (zX (g.gl hg) (g.bl _ hb) (hs X g) (hst _)) λs H Rr q=>by
  obtain⟨r,fr,h,src,h',sr,hr,e,q⟩:=q;simp only[Ev.cZ]at e;obtain⟨ds,h1,e1,e⟩:=Ev.ah e;obtain⟨e,rfl⟩:=Ev.aO e;refine⟨r,fr,h,ds,_,sr,hr,e1,λvs H1 r1 v1 hr1 f1=>?_⟩;unfold Ev.eG at e;split at e
  .rename_i j;split at e
   .rename_i hj;cases e;simp only[aG,RV]at v1;obtain⟨v,w,rfl,rfl,rfl⟩:=v1;exact⟨_,rfl,hj.1,hj.2,q _ H1 r1 hr1 f1 (Kr 0 _)⟩
   .cases e
  .exfalso;simp only[Ev.bZ]at e1;obtain⟨d,_,_,e1⟩:=Ev.ah e1;simp only[Ev.ak]at e1;cases e1
  .cases e
inductive gJ(K:PySem.W.Frag)(m:List Nat)(t:T)(v:V)(s:L2.St)(H:Hp)(Q:L2.St->Hp->Prop):Prop
 |mk (r:List Addr) (fr:Fr) (h:Hh) (d:D) (aj:Fr) (c0:SR K m H r fr s) (c1:HR K H r h) (c2:RV K H r d v) (c3:Ev.cg t d fr=some aj) (c4:∀s',SR K m H r aj s'->Q s' H):gJ K m t v s H Q
noncomputable def JG(G:Tb)(n:Nat)(sc:Scope)(N:List Str)(df:Bool)(m:List Nat)(t:T)(x:Expr):Prop:=∀X,Good G n sc N df X->PG X x (gJ X.K m t)
def PG.of{X:Cx}{e:Expr}{t t':TG}(h:PG X e t)(w:∀v s H Q,t' v s H Q->t v s H Q):PG X e t':=λpins s σ H v u Q I r q=>h pins s σ H v u Q I r (w _ _ _ _ q)
theorem SR.set{K:PySem.W.Frag}{m:List Nat}{H:Hp}{r:List Addr}{fr:Fr}{s:L2.St}(sr:SR K m H r fr s)(hm:m.Nodup){j i:Nat}(hj:m[j]?=some i){d:D}{v:V}(v1:RV K H r d v):SR K m H r (fr.set i (some d)) (s.set j (some v)):=by
 refine⟨by simp[sr.len],λj' i' d' e1 e2=>?_⟩;by_cases hi:i'=i
 .subst hi;have:j'=j:=Ao hm e1 hj;subst this;have hlt:i'<fr.length:=by
   have:=(List.getElem?_eq_some_iff.mp e2).1;simpa using this
  rw[WS hlt]at e2;cases e2;refine⟨v,WS ?_,v1⟩;rw[sr.len];exact(List.getElem?_eq_some_iff.mp hj).1
 .rw[Vo (λz=>hi z.symm)]at e2;obtain⟨u,q1,q2⟩:=sr.sl j' i' d' e1 e2;refine⟨u,?_,q2⟩;rw[Vo]
  .exact q1
  .intro z;subst z;rw[hj]at e1;cases e1;exact hi rfl
where
 Ao {l:List Nat} (hl:l.Nodup) {i j:Nat} {x:Nat} (a:l[i]?=some x) (b:l[j]?=some x):i=j:=by
  have ha:=(List.getElem?_eq_some_iff.mp a)
  have hb:=(List.getElem?_eq_some_iff.mp b)
  obtain⟨h1,e1⟩:=ha;obtain⟨h2,e2⟩:=hb;exact(List.getElem_inj hl).mp (e1.trans e2.symm)
def Good.loc{X:Cx}(g:Good G n sc N df X){x:Str}(h:sc.names.lookup x=some .local\/(df=true/\sc.names.lookup x=some .cell)):Loc X.env.scope x/\(X.fn x=true\/X.env.scope.names.lookup x=some .local):=by
 rw[show Loc X.env.scope x↔Loc sc x by rw[g.sc],g.sc];rcases h with h|⟨h1,h⟩
 .exact⟨.inl h,.inr h⟩
 .exact⟨.inr h,.inl (g.own h1 x)⟩
def Ks(j i:Nat){x:Str}(hm:m.Nodup)(hN:N.Nodup)(hj:m[j]?=some i:=by rfl)(rZ:N[j]?=some x:=by rfl)
  (hl:sc.names.lookup x=some .local\/(df=true/\sc.names.lookup x=some .cell):=by first|exact Or.inl rfl|exact Or.inr ⟨rfl,rfl⟩):JG G n sc N df m (.one i) (.Name x pos):=λX g=>by
 obtain⟨h1,h2⟩:=g.loc hl;refine PG.of (wH (i:=j) (by rw[g.nm];exact hN) (by rw[g.nm];exact rZ) h1 h2) λv s H Q q=>?_;obtain⟨r,fr,h,d,aj,sr,hr,v1,e,q⟩:=q;cases e;exact q _ (sr.set hm hj v1)
inductive QW(K:PySem.W.Frag)(m:List Nat)(l:List Nat)(vs:List V)(s:L2.St)(H:Hp)(Q:L2.St->Hp->Prop):Prop
 |mk (r:List Addr) (fr:Fr) (h:Hh) (ds:List D) (aj:Fr) (c0:SR K m H r fr s) (c1:HR K H r h) (c2:aG K H r ds vs) (c3:Ev.cJ l ds fr=some aj) (c4:∀s',SR K m H r aj s'->Q s' H):QW K m l vs s H Q
noncomputable def sd(G:Tb)(n:Nat)(sc:Scope)(N:List Str)(df:Bool)(m:List Nat)(l:List Nat)(xs:List Expr):Prop:=∀X,Good G n sc N df X->nU X xs (QW X.K m l)
def nU.of{X:Cx}{e:List Expr}{t t':rN}(h:nU X e t)(w:∀v s H Q,t' v s H Q->t v s H Q):nU X e t':=λpins s σ H v u Q I r q=>h pins s σ H v u Q I r (w _ _ _ _ q)
def GK:sd G n sc N df m [] []:=λX g=>nU.of Gk λvs s H Q q=>by
 obtain⟨r,fr,h,ds,aj,sr,hr,v1,e,q⟩:=q;cases ds with
 |nil=>simp only[aG]at v1;subst v1;cases e;exact⟨rfl,q _ sr⟩
 |cons _ _=>cases e
def CB(j i:Nat){x:Str}{l:List Nat}{xs:List Expr}(hm:m.Nodup)(hN:N.Nodup)(hs:sd G n sc N df m l xs)(hj:m[j]?=some i:=by rfl)(rZ:N[j]?=some x:=by rfl)
  (hl:sc.names.lookup x=some .local\/(df=true/\sc.names.lookup x=some .cell):=by first|exact Or.inl rfl|exact Or.inr ⟨rfl,rfl⟩)
  (hst:∀env:Env,(assignEach (.Name x pos :: xs) env).map (·.2)=assign (.Name x pos) env :: (assignEach xs env).map (·.2):=by intro _;rfl):sd G n sc N df m (i :: l) (.Name x pos :: xs):=λX g=>by
 obtain⟨h1,h2⟩:=g.loc hl;refine nU.of (Cg (wH (i:=j) (by rw[g.nm];exact hN) (by rw[g.nm];exact rZ) h1 h2) (hs X g) (hst _)) λvs s H Q q=>?_;obtain⟨r,fr,h,ds,aj,sr,hr,v1,e,q⟩:=q;cases ds with
 |nil=>cases e
 |cons d ds=>
  simp only[aG]at v1;obtain⟨v,w,rfl,v2,v3⟩:=v1;exact⟨v,w,rfl,r,_,h,ds,aj,sr.set hm hj v2,hr,v3,e,q⟩
def GL{l:List Nat}{xs:List Expr}{k:Nat}(hs:sd G n sc N df m l xs)(hn:∀env:Env,(assignEach xs env).length=l.length:=by intro _;rfl)(hst:∀env:Env,(assignEach xs env).findIdx? (·.1)=none:=by intro _;rfl) :
  JG G n sc N df m (.many l) (.Tuple xs k pos):=λX g=>PG.of (Jl (n:=l.length) g.calm (hs X g) (hn _) (hst _)) λv s H Q q=>by
 obtain⟨r,fr,h,d,aj,sr,hr,v1,e,q⟩:=q;cases d with
 |tup ds=>
  simp only[RV]at v1;obtain⟨p,vs,rfl,z,w⟩:=v1;have hlen:∀(l:List Nat) (ds:List D) fr aj,Ev.cJ l ds fr=some aj->ds.length=l.length:=by
   intro l;induction l with
   |nil=>intro ds fr aj e;cases ds with|nil=>rfl|cons _ _=>cases e
   |cons i l ih=>intro ds fr aj e;cases ds with|nil=>cases e|cons d ds=>simp[ih ds _ _ e]
  exact⟨p,vs,rfl,z,by rw[w.length];exact hlen _ _ _ _ e,r,fr,h,ds,aj,sr,hr,w,e,q⟩
 |_=>cases e
end
noncomputable def Fin(K:PySem.W.Frag)(m:List Nat)(r:List Addr)(H:Hp)(h':Hh)(fl:Fl)(aj:Fr)(Q:Ends):Prop:=match fl with
 |.nx=>∀s' H' r',SR K m H' r' aj s'->HR K H' r' h'->Fm K r r' H H'->Q.nx s' H'
 |.bk=>∀s' H' r',SR K m H' r' aj s'->HR K H' r' h'->Fm K r r' H H'->Q.bk s' H'
 |.ct=>∀s' H' r',SR K m H' r' aj s'->HR K H' r' h'->Fm K r r' H H'->Q.ct s' H'
 |.ret d=>Res K r H h' d Q.rt
theorem Fin.later{K:PySem.W.Frag}{m:List Nat}{r r':List Addr}{H H':Hp}{h':Hh}{fl:Fl}{aj:Fr}{Q:Ends}(q:Fin K m r H h' fl aj Q)(f:Fm K r r' H H'):Fin K m r' H' h' fl aj Q:=by
 cases fl with
 |nx=>exact λs2 H2 r2 a b g=>q s2 H2 r2 a b (f.trans g)
 |bk=>exact λs2 H2 r2 a b g=>q s2 H2 r2 a b (f.trans g)
 |ct=>exact λs2 H2 r2 a b g=>q s2 H2 r2 a b (f.trans g)
 |ret d=>exact Res.later q f
inductive QX(K:PySem.W.Frag)(m:List Nat)(P:aL)(w:Nat)(st:S)(Q:Ends)(s:L2.St)(H:Hp):Prop
 |mk (r:List Addr) (fr:Fr) (h:Hh) (fl:Fl) (aj:Fr) (h':Hh) (c0:SR K m H r fr s) (c1:HR K H r h) (c2:Ev.ex P w st fr h=.ok (fl,aj) h') (c3:Fin K m r H h' fl aj Q):QX K m P w st Q s H
inductive CC(K:PySem.W.Frag)(m:List Nat)(P:aL)(w:Nat)(ss:Ss)(Q:Ends)(s:L2.St)(H:Hp):Prop
 |mk (r:List Addr) (fr:Fr) (h:Hh) (fl:Fl) (aj:Fr) (h':Hh) (c0:SR K m H r fr s) (c1:HR K H r h) (c2:Ev.exs P w ss fr h=.ok (fl,aj) h') (c3:Fin K m r H h' fl aj Q):CC K m P w ss Q s H
def PS.of{X:Cx}{st:Stmt}{t t':TS}(h:PS X st t)(w:∀Q s H,t' Q s H->t Q s H):PS X st t':=λpins s σ H Q I q=>h pins s σ H Q I (w _ _ _ q)
def iD.of{X:Cx}{st:List Stmt}{t t':TS}(h:iD X st t)(w:∀Q s H,t' Q s H->t Q s H):iD X st t':=λpins s σ H Q I q=>h pins s σ H Q I (w _ _ _ q)
section
variable(G:Tb)(n:Nat)(sc:Scope)(N:List Str)(df:Bool)(m:List Nat)
noncomputable def JS(st:S)(x:Stmt):Prop:=∀X,Good G n sc N df X->PS X x (QX X.K m (Ev.run G.F G.w n) G.w st)
noncomputable def lW(ss:Ss)(xs:List Stmt):Prop:=∀X,Good G n sc N df X->iD X xs (CC X.K m (Ev.run G.F G.w n) G.w ss)
end
section
variable{G:Tb}{n:Nat}{sc:Scope}{N:List Str}{df:Bool}{m:List Nat}{a b:E}{xa tg:Expr}{pos:Pos}
def GN:lW G n sc N df m .nil []:=λX g=>iD.of Gi λQ s H q=>by
 obtain⟨r,fr,h,fl,aj,h',sr,hr,e,q⟩:=q;simp only[Ev.exs]at e;cases e;exact q s H r sr hr .refl
def CD{st:S}{ss:Ss}{x:Stmt}{xs:List Stmt}(h1:JS G n sc N df m st x)(h2:lW G n sc N df m ss xs):lW G n sc N df m (.cons st ss) (x :: xs):=λX g=>iD.of (Ce (h1 X g) (h2 X g)) λQ s H q=>by
 obtain⟨r,fr,h,fl,aj,h',sr,hr,e,q⟩:=q;simp only[Ev.exs]at e;obtain⟨⟨gM,af⟩,h1,e1,e⟩:=Ev.ah e;refine⟨r,fr,h,gM,af,h1,sr,hr,e1,?_⟩;cases gM with
 |nx=>exact λs1 H1 r1 Aq hr1 f1=>⟨r1,af,h1,fl,aj,h',Aq,hr1,e,q.later f1⟩
 |bk=>cases e;exact q
 |ct=>cases e;exact q
 |ret d=>cases e;exact q
def Ku(j i:Nat){x:Str}{pos':Pos}(hm:m.Nodup)(hN:N.Nodup)(ha:JE G n sc N df m a xa)(hs:∀env:Env,swapsWith xa (some (.Name x pos')) pos.line env=pure false:=by intro _;rfl)(hj:m[j]?=some i:=by rfl)(rZ:N[j]?=some x:=by rfl)
  (hl:sc.names.lookup x=some .local\/(df=true/\sc.names.lookup x=some .cell):=by first|exact Or.inl rfl|exact Or.inr ⟨rfl,rfl⟩):JS G n sc N df m (.set i a) (.Assign [.Name x pos'] xa pos):=λX g=>by
 obtain⟨h1,h2⟩:=g.loc hl;refine PS.of (zV (i:=j) (by rw[g.nm];exact hN) (by rw[g.nm];exact rZ) h1 (ha X g) (hs _) h2) λQ s H q=>?_;obtain⟨r,fr,h,fl,aj,h',sr,hr,e,q⟩:=q;simp only[Ev.ex]at e;obtain⟨d,h1,e1,e⟩:=Ev.ah e;cases e;exact⟨r,fr,h,d,_,sr,hr,e1,λv H1 r1 v1 hr1 f1=>q _ H1 r1 ((sr.mono f1).set hm hj v1) hr1 f1⟩
def Kv(ha:JE G n sc N df m a xa)(hs:∀env:Env,swapsWith xa none pos.line env=pure false:=by intro _;rfl):JS G n sc N df m (.exp a) (.Expr xa pos):=λX g=>PS.of (Gj (ha X g) (hs _)) λQ s H q=>by
 obtain⟨r,fr,h,fl,aj,h',sr,hr,e,q⟩:=q;simp only[Ev.ex]at e;obtain⟨d,h1,e1,e⟩:=Ev.ah e;cases e;exact⟨r,fr,h,d,_,sr,hr,e1,λv H1 r1 v1 hr1 f1=>q s H1 r1 (sr.mono f1) hr1 f1⟩
def Kw(ha:JE G n sc N df m a xa):JS G n sc N df m (.ret a) (.Return (some xa) pos):=λX g=>PS.of (Jj (ha X g)) λQ s H q=>by
 obtain⟨r,fr,h,fl,aj,h',sr,hr,e,q⟩:=q;simp only[Ev.ex]at e;obtain⟨d,h1,e1,e⟩:=Ev.ah e;cases e;exact⟨r,fr,h,d,_,sr,hr,e1,q⟩
def Kz{ta tb:Ss}{ya yb:List Stmt}(hc:JT G n sc N df m a xa)(h1:lW G n sc N df m ta ya)(h2:lW G n sc N df m tb yb):JS G n sc N df m (.iff a ta tb) (.If xa ya yb pos):=λX g=>PS.of (Ol (hc X g) (h1 X g) (h2 X g)) λQ s H q=>by
 obtain⟨r,fr,h,fl,aj,h',sr,hr,e,q⟩:=q;simp only[Ev.ex]at e;obtain⟨k,h3,e1,e⟩:=Ev.ah e;refine⟨r,fr,h,k,h3,sr,hr,e1,λH1 r1 hr1 f1=>?_⟩;cases k with
 |true=>exact⟨r1,fr,h3,fl,aj,h',sr.mono f1,hr1,e,q.later f1⟩
 |false=>exact⟨r1,fr,h3,fl,aj,h',sr.mono f1,hr1,e,q.later f1⟩
def Good.pass{X:Cx}(g:Good G n sc N df X):PassesOwn (model X.prog X.w) X.A X.env X.xe:=by
 rw[g.xe];exact PassesOwn.never
noncomputable def FN(K:PySem.W.Frag)(m:List Nat)(gM:Fl)(jj:Fr)(h4:Hh)(r1:List Addr)(H1:Hp)(s5:L2.St)(H5:Hp):Prop:=(gM=.nx\/gM=.ct)/\∃r5,SR K m H5 r5 jj s5/\HR K H5 r5 h4/\Fm K r1 r5 H1 H5
section
variable{K:PySem.W.Frag}{r r1 r2:List Addr}{H H1 H2:Hp}{h4 h':Hh}{fl gM:Fl}{jj aj:Fr}{Q:Ends}
noncomputable def yC(L:R (Fl×Fr))(p:Fl×Fr)(h1:Hh):R (Fl×Fr):=match p.1 with
 |.nx=>L
 |.ct=>L
 |.bk=>.ok (.nx,p.2) h1
 |.ret x=>.ok (.ret x,p.2) h1
def wQ{L:R (Fl×Fr)}(e:yC L (gM,jj) h4=.ok (fl,aj) h')(z:gM=.nx\/gM=.ct):L=.ok (fl,aj) h':=by rcases z with rfl|rfl<;>exact e
def uu{L:R (Fl×Fr)}(e:yC L (gM,jj) h4=.ok (fl,aj) h')(q:Fin K m r H h' fl aj Q)(f:Fm K r r1 H H1)(f2:Fm K r1 r2 H1 H2):Fin K m r2 H2 h4 gM jj { Q with nx:=FN K m gM jj h4 r1 H1,ct:=FN K m gM jj h4 r1 H1,bk:=Q.nx }:=by
 cases gM with
 |nx=>exact λs6 H6 r6 Ar As f6=>⟨.inl rfl,r6,Ar,As,f2.trans f6⟩
 |ct=>exact λs6 H6 r6 Ar As f6=>⟨.inr rfl,r6,Ar,As,f2.trans f6⟩
 |bk=>
  cases e;exact λs6 H6 r6 Ar As f6=>q s6 H6 r6 Ar As ((f.trans f2).trans f6)
 |ret d=>
  cases e;exact Res.later q (f.trans f2)
noncomputable def uv(P:aL)(w:Nat)(t:T)(tb:Ss):D->Fr->Hh->R (Fl×Fr):=λd ao h2=>match Ev.cg t d ao with
 |some cG=>Ev.exs P w tb cG h2
 |none=>.bad
def uw(P:aL)(w:Nat)(t:T)(it:Ev.It)(tb:Ss)(fr:Fr)(h:Hh):Ev.ex P w (.for t it tb) fr h=(Ev.cZ P it fr h).bind λs h1=>Ev.forL (uv P w t tb) s.2 s.1 fr h1:=by simp only[Ev.ex];rfl
def se(f:D->Fr->Hh->R (Fl×Fr))(ck:List (Nat×List D))(d:D)(ds:List D)(fr:Fr)(h:Hh):Ev.forL f ck (d :: ds) fr h=if Ev.stays h ck then (f d fr h).bind λp h1=>yC (Ev.forL f ck ds p.2 h1) p h1 else .bad:=rfl
noncomputable def FW(K:PySem.W.Frag)(m:List Nat)(f:D->Fr->Hh->R (Fl×Fr))(src:Src)(r1:List Addr)(H1:Hp)(o:Fl×Fr)(h':Hh)(i k:Nat)(s3:L2.St)(H3:Hp):Prop:=
 k=src.1.length - i/\i<=src.1.length/\∃r3 cG h3,SR K m H3 r3 cG s3/\HR K H3 r3 h3/\Fm K r1 r3 H1 H3/\Ev.forL f src.2 (src.1.drop i) cG h3=.ok o h'
def CF{P:aL}{w:Nat}{t:T}{tb:Ss}{src:Src}{J:L2.It}{i k:Nat}{s3:L2.St}{H3:Hp}(hJ:qD K r1 H1 src J)(q:Fin K m r H h' fl aj Q)(f1:Fm K r r1 H H1)(hW:FW K m (uv P w t tb) src r1 H1 (fl,aj) h' i k s3 H3) :
  (J.stop i H3/\Q.nx s3 H3)\/(J.go i H3/\∃N:L2.St->Hp->Prop,(∀σ' H',N σ' H'->∃m',m'<k/\FW K m (uv P w t tb) src r1 H1 (fl,aj) h' (i+1) m' σ' H')/\∀x H',J.EH i H3 x H'->gJ K m t x s3 H' λσ2 H2=>CC K m P w tb { Q with nx:=N,ct:=N,bk:=Q.nx } σ2 H2):=by
 obtain⟨rfl,hle,r3,cG,h3,wR,pH,f3,e3⟩:=hW;rcases Zw i src.1.length with hlt|hge
 .rw[YE hlt,se]at e3;split at e3
  .rename_i hst;obtain⟨g1,g2⟩:=(hJ i H3 r3 h3 pH f3 hst).1 src.1[i] (MZ hlt);obtain⟨⟨gM,jj⟩,h4,e4,e3⟩:=Ev.ah e3;unfold uv at e4;split at e4
   .rename_i rO e5;exact .inr ⟨g1,FN K m gM jj h4 r1 H1,λs5 H5 ⟨hfl,r5,Au,sf,f5⟩=>⟨_,aab hlt (Ym i),rfl,hlt,r5,jj,h4,Au,sf,f5,wQ e3 hfl⟩,λx H4 y=>
     let ⟨r4,v4,QY,f4⟩:=g2 x H4 y
     ⟨r4,cG,h3,_,rO,wR.mono f4,QY,v4,e5,λs5 Au=>⟨r4,rO,h3,gM,jj,h4,Au,QY,e4,uu e3 q f1 (f3.trans f4)⟩⟩⟩
   .cases e4
  .cases e3
 .have hi:i=src.1.length:=Nat.le_antisymm hle hge;subst hi;rw[List.drop_length]at e3;unfold Ev.forL at e3;split at e3
  .rename_i hst;cases e3;exact .inl ⟨(hJ _ H3 r3 _ pH f3 hst).2 (qh _),q s3 H3 r3 wR pH (f1.trans f3)⟩
  .cases e3
end
def Av(t:Fr->Hh->R Bool)(f:Fr->Hh->R (Fl×Fr))(n:Nat)(fr:Fr)(h:Hh):Ev.dM t f (n+1) fr h=(t fr h).bind λb h1=>if b then (f fr h1).bind λp h2=>yC (Ev.dM t f n p.2 h2) p h2 else .ok (.nx,fr) h1:=rfl
noncomputable def WW(K:PySem.W.Frag)(m:List Nat)(P:aL)(w:Nat)(a:E)(tb:Ss)(r:List Addr)(H:Hp)(o:Fl×Fr)(h':Hh)(k:Nat)(s1:L2.St)(H1:Hp):Prop:=
 ∃r1 af h1,SR K m H1 r1 af s1/\HR K H1 r1 h1/\Fm K r r1 H H1/\Ev.dM (λao h2=>Ev.aH P a ao h2) (λao h2=>Ev.exs P w tb ao h2) k af h1=.ok o h'
def KA{tb:Ss}{yb:List Stmt}(hc:JT G n sc N df m a xa)(h1:lW G n sc N df m tb yb):JS G n sc N df m (.nW a tb) (.While xa yb [] pos):=λX g=>PS.of (Ci g.pass (hc X g) (h1 X g)) λQ s H q=>by
 obtain⟨r,fr,h,fl,aj,h',sr,hr,e,q⟩:=q;simp only[Ev.ex]at e;refine⟨WW X.K m (Ev.run G.F G.w n) G.w a tb r H (fl,aj) h',⟨_,r,fr,h,sr,hr,.refl,e⟩,λk s1 H1 hW=>?_⟩;obtain⟨r1,af,h1,Aq,hr1,f1,e1⟩:=hW;cases k with
 |zero=>cases e1
 |succ k=>
  rw[Av]at e1;obtain⟨bb,h2,e2,e1⟩:=Ev.ah e1;refine⟨r1,af,h1,bb,h2,Aq,hr1,e2,λH2 r2 hr2 f2=>?_⟩;cases bb with
  |false=>
   cases e1;exact q s1 H2 r2 (Aq.mono f2) hr2 (f1.trans f2)
  |true=>
   rw[xV rfl]at e1;obtain⟨⟨gM,ao⟩,h3,e3,e1⟩:=Ev.ah e1;exact⟨FN X.K m gM ao h3 r H,λs3 H3 ⟨hfl,r3,wR,pH,f3⟩=>⟨k,Ym k,r3,ao,h3,wR,pH,f3,wQ e1 hfl⟩,r2,af,h2,gM,ao,h3,Aq.mono f2,hr2,e3,uu e1 q .refl (f1.trans f2)⟩
def KC{t:T}{it:Ev.It}{tb:Ss}{yb:List Stmt}(hi:JI G n sc N df m it tg xa)(hg:JG G n sc N df m t tg)(h1:lW G n sc N df m tb yb)(hs:∀(env:Env) x,foldedSetIterable xa env x=pure x:=by intro _ _;rfl) :
  JS G n sc N df m (.for t it tb) (.For tg xa yb [] pos):=λX g=>PS.of (Jo g.pass g.calm (hi X g) (hg X g) (h1 X g) (hs _)) λQ s H q=>by
 obtain⟨r,fr,h,fl,aj,h',sr,hr,e,q⟩:=q;rw[uw]at e;obtain⟨src,h2,e1,e⟩:=Ev.ah e;exact⟨r,fr,h,src,h2,sr,hr,e1,λJ H1 r1 hr1 f1 hJ=>⟨FW X.K m (uv (Ev.run G.F G.w n) G.w t tb) src r1 H1 (fl,aj) h',⟨src.1.length,rfl,Xd _,r1,fr,h2,sr.mono f1,hr1,.refl,by rw[Zf];exact e⟩,λi k s3 H3 hW=>CF hJ q f1 hW⟩⟩
end
def getElem?_range'{k j i:Nat}(h:(List.range k)[j]?=some i):i=j:=by
 obtain⟨h1,h2⟩:=List.getElem?_eq_some_iff.mp h;simpa using h2.symm
def CG{K:PySem.W.Frag}{H:Hp}{r:List Addr}{ds:List D}{vs:List V}{N:List Str}{fn:Ev.Fn}(v1:aG K H r ds vs)(hN:vs.length<=N.length):SR K (List.range N.length) H r (Ev.eE fn ds) (L2.start N vs):=by
 refine⟨by unfold L2.start;simp;omega,λj i d e1 e2=>?_⟩;have e3:=getElem?_range' e1;subst e3;unfold Ev.eE at e2;by_cases hj:i<ds.length
 .rw[VL (by simpa using hj),WX]at e2;cases e4:ds[i]? with
  |none=>rw[e4]at e2;cases e2
  |some d'=>
   rw[e4]at e2;cases e2;obtain⟨v,q1,q2⟩:=v1.get e4;refine⟨v,?_,q2⟩;unfold L2.start;rw[VL (by have:=v1.length;simpa using (by omega:i<vs.length)),WX,q1];rfl
 .rw[Xg (by simpa using Nat.not_lt.mp hj),ZJ]at e2;split at e2<;>cases e2
section
variable{P:Program}{w:World}{K:PySem.W.Frag}{mg:Str->Option Value}{base:Heap}{G:Tb}
noncomputable def tD(P:Program)(w:World)(K:PySem.W.Frag)(mg:Str->Option Value)(base:Heap)(G:Tb)(n:Nat):Prop:=∀(f:Nat) i,G.fi[f]?=some i->iF P w K mg base mE n i.addr i.fd i.ps (nX K G.F G.w n f)
structure Top(P:Program)(w:World)(K:PySem.W.Frag)(mg:Str->Option Value)(G:Tb):Prop where
 fn:∀(f:Nat) i,G.fi[f]?=some i->mg i.name=some (.ref i.addr)/\PySem.W.keepIn K (.ref i.addr)=true/\Binds K i.fd i.ps []
 bl:∀x∈G.bl,mg x=none
 cs:∀x d,(x,d)∈G.cs->∃v u,mg x=some u/\RelV v u/\wO K d v
 dk:∀x kvs,(x,kvs)∈G.dk->∃a,mg x=some (.ref a)/\∀h:Heap,K.In h->StrTab P w h a (tabOf kvs)
def GO{f:Addr}{fd:FuncData}{ps:List Str}{k:Nat}:iF P w K mg base mE 0 f fd ps (nX K G.F G.w 0 k):=by
 have no:∀vs H Q E,¬ nX K G.F G.w 0 k vs H Q E:=λvs H Q E h=>by
  obtain⟨r,h,ds,d,h',_,_,e,_⟩:=h;cases e
 exact⟨λvs H Q E h=>absurd h (no vs H Q E),λA outer s H args us vs Q E _ _ _ _ h=>absurd h (no vs H Q E)⟩
def cT{x qual:Str}{st:Stmt}{i:FI}{N:List Str}{n f:Nat}{fn:Ev.Fn}(T:Top P w K mg G)(A0:tD P w K mg base G n)(F:um K x qual st i.addr i.fd)(S:bJ N i.ps (aS st))(hf:G.F[f]?=some fn)(hp:i.ps.length=fn.np)
  (hb:lW G n (aS st) N true (List.range N.length) fn.body (gK st)):iF P w K mg base mE (n+1) i.addr i.fd i.ps (nX K G.F G.w (n+1) f):=by
 have hlen:∀vs H Q E,nX K G.F G.w (n+1) f vs H Q E->vs.length=i.ps.length:=λvs H Q E h=>by
  obtain⟨r,h,ds,d,h',v1,_,e,_⟩:=h;simp only[Ev.pF,hf]at e;split at e
  .rename_i z;rw[v1.length,z,hp]
  .cases e
 refine F.ok S hlen λcdv A outer s H vs Q E hr ki=>?_;have hl:=hlen vs H Q E ki;have hN:vs.length<=N.length:=by
  have:=WT List.length S.pre;rw[Yn]at this;omega
 have g:Good G n (aS st) N true (oM mE P w K mg base N qual (aS st) i.addr cdv A outer s H E).rM:=
  ⟨rfl,rfl,rfl,λ_ _=>rfl,hr,rfl,λf i hi=>⟨(T.fn f i hi).1,(T.fn f i hi).2.1,(T.fn f i hi).2.2,A0 f i hi⟩,T.bl,T.cs,T.dk⟩
 refine⟨_,hb _ g,?_⟩;obtain⟨r,h,ds,d,h',v1,hr1,e,q⟩:=ki;simp only[Ev.pF,hf]at e;split at e
 .unfold Ev.endOf at e;obtain⟨⟨fl,aj⟩,h2,e1,e⟩:=Ev.ah e;refine⟨r,Ev.eE fn ds,h,fl,aj,h2,CG v1 hN,hr1,e1,?_⟩;cases fl with
  |nx=>
   cases e;exact λs' H' r' _ hr' f'=>q _ H' r' rfl hr' f'
  |ret d'=>
   cases e;exact q
  |bk=>cases e
  |ct=>cases e
 .cases e
end
end Sm
namespace Sm
open PySem PySem.Spec PyProof.Rows L2 PySem.SeqAt
open Ev (D O Hh Fr R aL E Es Eo T S Ss Fl Src bh aZ TY BI ME)
end Sm
namespace L2
open PySem PySem.Spec PyProof.Rows
end L2
namespace Sm
open PySem PySem.Spec PyProof.Rows L2 PySem.SeqAt
open Ev (D O Hh Fr R aL E Es Eo T S Ss Fl Src bh aZ TY BI ME)
end Sm
namespace Sm
open PySem PySem.Spec PyProof.Rows L2
open Ev (D O Hh Fr R aL E Es Eo T S Ss Fl Src bh aZ TY BI ME)
theorem qE(env:Env):∀(names:List (Str×NameKind)) (acc:List (Str×Addr)),(∀x,(x,NameKind.free)∈names->∃c,env.cells.lookup x=some c)->(∀x c,acc.lookup x=some c->env.cells.lookup x=some c)->
  ∃cl,(forIn names acc (λ(x:Str×NameKind) cs=>if (x.2==NameKind.free)=true then (do let c <-cellOf env x.1;pure (ForInStep.yield ((x.1,c) :: cs)))else pure (ForInStep.yield cs)):Sem (List (Str×Addr)))=pure cl/\
   (∀x c,cl.lookup x=some c->env.cells.lookup x=some c)/\(∀x,(x,NameKind.free)∈names->(cl.lookup x).isSome=true)/\(∀x,(acc.lookup x).isSome=true->(cl.lookup x).isSome=true)
 |[],acc,_,h2=>⟨acc,rfl,h2,(λx h=>by simp at h),λ_ h=>h⟩
 | (y,k) :: r,acc,h1,h2=>by
  by_cases hk:k=.free
  .subst hk;obtain⟨c,hc⟩:=h1 y (XC ..);have h2':∀x c',((y,c) :: acc).lookup x=some c'->env.cells.lookup x=some c':=λx c' e=>by
    rw[X7]at e;split at e
    .rename_i hx;have hx':x=y:=by simpa using hx
     cases e;rw[hx'];exact hc
    .exact h2 x c' e
   obtain⟨cl,e1,e2,e3,e4⟩:=qE env r ((y,c) :: acc) (λx hx=>h1 x (W9 _ hx)) h2';refine⟨cl,?_,e2,λx hx=>?_,λx hx=>e4 x ?_⟩
   .rw[List.forIn_cons];simp only[beq_self_eq_true,Xa];unfold cellOf;rw[hc];exact e1
   .rcases List.mem_cons.mp hx with z|z
    .cases z;exact e4 y (by simp[X7])
    .exact e3 x z
   .rw[X7];split
    .rfl
    .exact hx
  .have hk':(k==NameKind.free)=false:=by simpa using hk
   obtain⟨cl,e1,e2,e3,e4⟩:=qE env r acc (λx hx=>h1 x (W9 _ hx)) h2;refine⟨cl,?_,e2,λx hx=>?_,e4⟩
   .rw[List.forIn_cons];simp only[hk',W4,XH];exact e1
   .rcases List.mem_cons.mp hx with z|z
    .cases z;exact absurd rfl hk
    .exact e3 x z
def GP{scope:Scope}{env:Env}(h:∀x,(x,NameKind.free)∈scope.names->∃c,env.cells.lookup x=some c) :
  ∃cl,closureFor scope env=pure cl/\(∀x c,cl.lookup x=some c->env.cells.lookup x=some c)/\∀x,(x,NameKind.free)∈scope.names->∃c,cl.lookup x=some c:=by
 obtain⟨cl,e1,e2,e3,_⟩:=qE env scope.names [] h (λx c e=>by simp at e);refine⟨cl,?_,e2,λx hx=>Option.isSome_iff_exists.mp (e3 x hx)⟩;unfold closureFor;show(forIn scope.names [] _ >>= λcs=>pure cs:Sem (List (Str×Addr)))=pure cl;have e:(forIn scope.names [] (λ(x:Str×NameKind) cs=>if (x.2==NameKind.free)=true then (do let c <-cellOf env x.1;pure (ForInStep.yield ((x.1,c) :: cs)))else pure (ForInStep.yield cs)):Sem (List (Str×Addr)))=pure cl:=e1;exact WT (λt:Sem (List (Str×Addr))=>t >>= λcs=>pure cs) e
noncomputable def eK(sc scope:Scope):Scope:={ scope with names:=scope.names.map λ(n,k)=>if (k==.free&&sc.kind==.function&&sc.names.lookup n==some .cell)then (n,.cell)else (n,k)}
def qF{env:Env}{sc scope:Scope}(h:env.scope=sc):relabel scope env=eK sc scope:=by
 subst h;rfl
theorem sj{sc:Scope}:∀{names:List (Str×NameKind)}{x:Str},(∀y∈names,y.2≠.cell)->
  ((names.map λ(n,k)=>if (k==NameKind.free&&sc.kind==.function&&sc.names.lookup n==some .cell)then (n,NameKind.cell)else (n,k)).lookup x=some .cell\/
   (names.map λ(n,k)=>if (k==NameKind.free&&sc.kind==.function&&sc.names.lookup n==some .cell)then (n,NameKind.cell)else (n,k)).lookup x=some .free)->(x,NameKind.free)∈names
 |[],_,_,h=>by rcases h with h|h<;>simp at h
 | (n,k) :: r,x,hc,h=>by
  have ih:=@sj sc r x λy hy=>hc y (W9 _ hy);simp only[WO]at h;have nk:∀(k':NameKind),(if (k==NameKind.free&&sc.kind==.function&&sc.names.lookup n==some .cell)then (n,NameKind.cell)else (n,k))=(n,k')->k'=.cell\/k'=.free->k=.free:=λk' e hk'=>by
   split at e
   .rename_i z;simp only[Vp,Z3]at z;exact z.1.1
   .cases e;rcases hk' with z|z
    .exact absurd z (hc (n,_) (XC ..))
    .exact z
  generalize hg:(if (k==NameKind.free&&sc.kind==.function&&sc.names.lookup n==some .cell)then (n,NameKind.cell)else (n,k))=p at h nk
  have hp:p.1=n:=by rw[<-hg];split<;>rfl
  obtain⟨p1,p2⟩:=p;simp only at hp;subst hp;simp only[X7]at h;cases hx:(x==p1)with
  |true=>
   have hx':x=p1:=by simpa using hx
   rw[hx]at h;have:=nk p2 rfl (by rcases h with h|h<;>simp at h<;>simp[h]);subst this;rw[hx'];exact XC ..
  |false=>
   rw[hx]at h;exact W9 _ (ih h)
section
variable{prog:Program}{w:World}{A:Around}{R':Result->Shared->Prop}{s:Shared}
abbrev fy:Value->Shared->Prop:=λ_ _=>False
noncomputable def wU(ifs:List Expr)(env:Env):Sem Bool:=forIn ifs true λc r=>if r=true then do let ok <-isTrue c env (eval c env);pure (ForInStep.yield ok)else pure (ForInStep.yield r)
def uy{elt target iter:Expr}{ifs:List Expr}{scope:Scope}{pos:Pos}{it acc:Value}{env:Env}(I:Nat->Shared->Prop)
  (turn:∀n s,I n s->wpAny (model prog w) A (pyNext it) (λr s₁=>match r with
   |none=>R' (.ok .next) s₁
   |some v=>wpAny (model prog w) A (letOwnedTupleGo target it v) (λ_ s₂=>wpAny (model prog w) A (assign target env v) (λ_ s₃=>
     wpAny (model prog w) A (wU ifs env) (λok s₄=>
      if ok=true then wpAny (model prog w) A (eval elt env) (λx s₅=>
       wpAny (model prog w) A (call (.builtin "list.append") [acc,x]) (λ_ s₆=>∃m,m<n/\I m s₆) fy s₅) fy s₄
      else ∃m,m<n/\I m s₄) fy s₃) fy s₂) fy s₁) fy s)
  (n:Nat) (h:I n s):codeAny (model prog w) A (.compLoop (.ListComp elt [⟨target,iter,ifs,0⟩] scope pos) 0 it acc env) R' s:=by
 refine codeAny_loop rfl I (λn s hI=>?_) n h;show wpAny _ A ((compTurn (.ListComp elt [⟨target,iter,ifs,0⟩] scope pos) 0 it acc env).onRaise (λx=>do noteFrame x env;theTreesLotGoes x)) _ _ s;refine wpAny_noted ?_;rw[compTurn_list];refine fS (wpAny_standAt (fS (Xx (turn n s hI) (λr s₁ h₁=>?_) λ_ _ h'=>h'.elim)));cases r with
 |none=>exact gV h₁
 |some v=>
  refine fS (Xx h₁ (λ_ s₂ h₂=>?_) λ_ _ h'=>h'.elim);refine fS (Xx h₂ (λ_ s₃ h₃=>fS (Xx h₃ (λok s₄ h₄=>?_) λ_ _ h'=>h'.elim)) λ_ _ h'=>h'.elim);cases ok with
  |false=>exact gV ⟨rfl,h₄⟩
  |true=>
   exact fS (fS (Xx h₄ (λx s₅ h₅=>fS (Xx h₅ (λ_ s₆ h₆=>gV (gV ⟨rfl,h₆⟩)) λ_ _ h'=>h'.elim)) λ_ _ h'=>h'.elim))
end
inductive QZ(K:PySem.W.Frag)(m:List Nat)(P:aL)(e:Eo)(s:L2.St)(H:Hp)(Q:Bool->Hp->Prop):Prop
 |mk (r:List Addr) (fr:Fr) (h:Hh) (k:Bool) (h':Hh) (c0:SR K m H r fr s) (c1:HR K H r h) (c2:Ev.g6 P e fr h=.ok k h') (c3:∀H' r',HR K H' r' h'->Fm K r r' H H'->Q k H'):QZ K m P e s H Q
noncomputable def JC(G:Tb)(n:Nat)(sc:Scope)(N:List Str)(df:Bool)(m:List Nat)(e:Eo)(ifs:List Expr):Prop:=∀X,Good G n sc N df X->∀(pins:List (Addr×Obj)) (s:Shared) (σ:L2.St) (H:Hp) (Q:Bool->Hp->Prop),Inv X pins σ H s->
 QZ X.K m (Ev.run G.F G.w n) e σ H Q->wpAny (model X.prog X.w) X.A (wU ifs X.env) (TP X pins σ Q) X.xe s
section
variable{G:Tb}{n:Nat}{sc:Scope}{N:List Str}{df:Bool}{m:List Nat}{a:E}{xa:Expr}
def OO:JC G n sc N df m .no []:=λX g pins s σ H Q I q=>by
 obtain⟨r,fr,h,k,h',sr,hr,e,q⟩:=q;simp only[Ev.g6]at e;cases e;exact gV ⟨H,I,q H r hr .refl⟩
def KD(hc:JT G n sc N df m a xa):JC G n sc N df m (.yes a) [xa]:=λX g pins s σ H Q I q=>by
 obtain⟨r,fr,h,k,h',sr,hr,e,q⟩:=q;simp only[Ev.g6]at e;exact wpAny_tests_one (hc X g pins s σ H Q I ⟨r,fr,h,k,h',sr,hr,e,q⟩)
end
noncomputable def pI(X:Cx)(N':List Str)(scope:Scope)(cl:List (Str×Addr))(C:Addr)(s3:Shared)(H3:Hp)(fp:List Addr):Cx:=
 { X with N:=N',s₀:=s3,H₀:=H3,env:=compEnvC scope cl C X.env,outer:=X.stack,stack:=X.stack,ex:=fp,fn:=λ_=>false,pn:=[],xe:=λ_ _=>False }
noncomputable def namesOk(sc:Scope)(N:List Str)(m:List Nat)(scope:Scope)(t:T)(N':List Str)(m':List Nat):Prop:=m'.length=N'.length/\
 ∀(j:Nat) x i,N'[j]?=some x->m'[j]?=some i->i∈Ev.slots t\/((x,NameKind.free)∈scope.names/\∃jo:Nat,N[jo]?=some x/\m[jo]?=some i)
noncomputable def pJ(sc:Scope)(N:List Str)(m:List Nat)(scope:Scope)(t:T)(N':List Str)(m':List Nat):Bool:=m'.length==N'.length&&
 (List.range N'.length).all λj=>match N'[j]?,m'[j]? with
  |some x,some i=>(Ev.slots t).contains i || (scope.names.contains (x,NameKind.free)&&(List.range N.length).any λjo=>N[jo]?==some x&&m[jo]?==some i)
  |_,_=>true
def namesOk.of{sc:Scope}{N:List Str}{m:List Nat}{scope:Scope}{t:T}{N':List Str}{m':List Nat}(h:pJ sc N m scope t N' m'=true):namesOk sc N m scope t N' m':=by
 unfold pJ at h;rw[Vp]at h;refine⟨by simpa using h.1,λj x i e1 e2=>?_⟩;have hj:j<N'.length:=(List.getElem?_eq_some_iff.mp e1).1;have q:=List.all_eq_true.mp h.2 j (List.mem_range.mpr hj);rw[e1,e2]at q;simp only[XW,Vp,List.any_eq_true]at q;rcases q with q|⟨q1,jo,_,q2⟩
 .exact .inl (by simpa using q)
 .exact .inr ⟨by simpa using q1,jo,by simpa using q2.1,by simpa using q2.2⟩
def vU{t:T}{d:D}{fr ao:Fr}(e:Ev.cg t d fr=some ao){i:Nat}(hi:i∉Ev.slots t):ao[i]?=fr[i]?:=by
 have go:∀(l:List Nat) (ds:List D) (fr ao:Fr),Ev.cJ l ds fr=some ao->i∉l->ao[i]?=fr[i]?:=by
  intro l;induction l with
  |nil=>
   intro ds fr ao e _;cases ds with
   |nil=>cases e;rfl
   |cons _ _=>cases e
  |cons j l ih=>
   intro ds fr ao e hj;cases ds with
   |nil=>cases e
   |cons d ds=>
    rw[ih ds _ _ e λz=>hj (W9 _ z),Vo];intro z;exact hj (by rw[z];exact XC ..)
 cases t with
 |one j=>
  cases e;rw[Vo];intro z;exact hi (by simp[Ev.slots,z])
 |many l=>
  cases d with
  |tup ds=>exact go l ds fr ao e hi
  |_=>cases e
def SR.unbind{K:PySem.W.Frag}{m:List Nat}{H:Hp}{r:List Addr}{t:T}{d:D}{fr ao:Fr}{s:L2.St}(sr:SR K m H r ao s)(e:Ev.cg t d fr=some ao)(hu:Ev.undef t fr=true):SR K m H r fr s:=by
 refine⟨sr.len,λj i d' e1 e2=>sr.sl j i d' e1 ?_⟩;rw[vU e]
 .exact e2
 .intro hi;have q:=List.all_eq_true.mp hu i hi;rw[e2]at q;cases q
structure j5(sc scope:Scope):Prop where
 kind:scope.kind=.function
 Aw:∀y∈scope.names,y.2≠.cell
 free:∀x,(x,NameKind.free)∈scope.names->(sc.names.lookup x=some .cell\/sc.names.lookup x=some .free)/\scope.names.lookup x=some .free
 loc:∀y∈scope.names,y.2=.local->scope.names.lookup y.1=some .local
noncomputable def EN(sc scope:Scope):Bool:=scope.kind==.function&&scope.names.all λy=>y.2 != .cell&&(y.2 != .free || ((sc.names.lookup y.1==some .cell ||sc.names.lookup y.1==some .free)&&scope.names.lookup y.1==some .free))&&(y.2 != .local ||scope.names.lookup y.1==some .local)
def j5.of{sc scope:Scope}(h:EN sc scope=true):j5 sc scope:=by
 unfold EN at h;rw[Vp]at h;have q:∀y∈scope.names,y.2≠.cell/\(y.2=.free->(sc.names.lookup y.1=some .cell\/sc.names.lookup y.1=some .free)/\scope.names.lookup y.1=some .free)/\(y.2=.local->scope.names.lookup y.1=some .local):=λy hy=>by
  have z:=List.all_eq_true.mp h.2 y hy;simp only[Vp,XW,bne_iff_ne,Z3,ne_eq]at z;refine⟨z.1.1,λe=>?_,λe=>?_⟩
  .rcases z.1.2 with w|w
   .exact absurd e w
   .exact w
  .rcases z.2 with w|w
   .exact absurd e w
   .exact w
 exact⟨by simpa using h.1,λy hy=>(q y hy).1,λx hx=>(q _ hx).2.1 rfl,λy hy=>(q y hy).2.2⟩
theorem sq{sc:Scope}:∀{names:List (Str×NameKind)}{x:Str},names.lookup x=some .free->
  ((names.map λ(n,k)=>if (k==NameKind.free&&sc.kind==.function&&sc.names.lookup n==some .cell)then (n,NameKind.cell)else (n,k)).lookup x=some .cell\/
   (names.map λ(n,k)=>if (k==NameKind.free&&sc.kind==.function&&sc.names.lookup n==some .cell)then (n,NameKind.cell)else (n,k)).lookup x=some .free)
 |[],_,h=>by simp at h
 | (n,k) :: r,x,h=>by
  have ih:=@sq sc r x;simp only[WO];simp only[X7]at h;by_cases hc:(k==NameKind.free&&sc.kind==.function&&sc.names.lookup n==some .cell)=true
  .rw[xV hc];simp only[X7];cases hx:(x==n)with
   |true=>exact .inl rfl
   |false=>rw[hx]at h;exact ih h
  .rw[WQ hc];simp only[X7];cases hx:(x==n)with
   |true=>rw[hx]at h;exact .inr h
   |false=>rw[hx]at h;exact ih h
section
variable{G:Tb}{n:Nat}{sc scope:Scope}{N N':List Str}{df:Bool}{m m':List Nat}{t:T}{X:Cx}
def Good.comp(g:Good G n sc N df X){cl:List (Str×Addr)}{C:Addr}{s3:Shared}{H3:Hp}{fp:List Addr}:Good G n (eK sc scope) N' false (pI X N' scope cl C s3 H3 fp):=
 ⟨rfl,qF g.sc,g.calm,(λh=>by cases h),g.room,rfl,g.fn,g.bl,g.cs,g.dk⟩
def GQ{pins:List (Addr×Obj)}{σ:L2.St}{H3:Hp}{s3:Shared}(g:Good G n sc N df X)(I:Inv X pins σ H3 s3)(hs:j5 sc scope){cl:List (Str×Addr)}(g9:∀x c,cl.lookup x=some c->X.env.cells.lookup x=some c)
  (j6:∀x,(x,NameKind.free)∈scope.names->∃c,cl.lookup x=some c) {fp:List Addr} (hfp:∀b∈fp,gY X pins H3 b) (hfl:∀b∈fp,b<s3.heap.objs.size):(pI X N' scope cl s3.heap.objs.size s3 H3 fp).Ok where
 mod:=I.ok.mod
 kind:=hs.kind
 glob:=I.ok.glob
 blt:=I.ok.blt
 above:=qh _
 inj:=λx y c h1 h2=>I.ok.inj x y c (g9 x c h1) (g9 y c h2)
 has:=λx h=>by
  have h':(eK sc scope).names.lookup x=some .cell\/(eK sc scope).names.lookup x=some .free:=by
   rw[<-qF (scope:=scope) g.sc];exact h
  exact j6 x (sj hs.Aw h')
 wC:=λx c h=>by cases h
 hd:=I.ok.hd
 frames:=I.ok.frames
 stk:=.inl rfl
 EC:=λb hb=>⟨WU (hfl b hb),λx c e=>(hfp b hb).2.2.2.2.1 x c (g9 x c e)⟩
 bs:=I.bs
 rJ:=WV I.ok.rJ I.sz
 qv:=λb o e hb=>by
  rcases(hfp b hb).2.2.2.1 with z|z
  .exact I.ok.qv b o e z
  .have:=Ur (I.ok.bs b o e).1;exact absurd (Rt this z) (X4 _)
 qw:=λb hb z=>by
  rcases List.mem_cons.mp (I.t8 b z)with q|q
  .exact(hfp b hb).2.1 q
  .exact(hfp b hb).2.2.1 q
 jd:=I.stack
 t6:=I.wD
open Classical in
noncomputable def sig(scope:Scope)(N N':List Str)(m':List Nat)(K:PySem.W.Frag)(H:Hp)(r:List Addr)(fr:Fr)(σ:L2.St):L2.St:=
 (List.range N'.length).map λj=>if h:∃v,∃x i,N'[j]?=some x/\m'[j]?=some i/\(x,NameKind.free)∈scope.names/\(∃jo:Nat,N[jo]?=some x/\σ[jo]?=some (some v))/\∀d,fr[i]?=some (some d)->RV K H r d v then some h.choose else none
def KG{K:PySem.W.Frag}{H:Hp}{r:List Addr}{fr:Fr}{σ:L2.St}{j:Nat}{v:V}(h:(sig scope N N' m' K H r fr σ)[j]?=some (some v)) :
  ∃x i,N'[j]?=some x/\m'[j]?=some i/\(x,NameKind.free)∈scope.names/\(∃jo:Nat,N[jo]?=some x/\σ[jo]?=some (some v))/\∀d,fr[i]?=some (some d)->RV K H r d v:=by
 unfold sig at h;rw[WX]at h;cases e:(List.range N'.length)[j]? with
 |none=>rw[e]at h;cases h
 |some j'=>
  have:=getElem?_range' e;subst this;rw[e]at h;simp only[Option.map_some,Option.some.injEq]at h;split at h
  .rename_i hh;cases h;exact hh.choose_spec
  .cases h
def KH{K:PySem.W.Frag}{H:Hp}{r:List Addr}{fr:Fr}{σ:L2.St}(sr:SR K m H r fr σ)(hn:namesOk sc N m scope t N' m')(hu:Ev.undef t fr=true):SR K m' H r fr (sig scope N N' m' K H r fr σ):=by
 refine⟨by unfold sig;simp[hn.1],λj i d e1 e2=>?_⟩;have hj:j<N'.length:=by rw[<-hn.1];exact(List.getElem?_eq_some_iff.mp e1).1
 have hx:N'[j]?=some N'[j]:=MZ hj;rcases hn.2 j _ i hx e1 with hi|⟨h1,jo,h2,h3⟩
 .exfalso;have q:=List.all_eq_true.mp hu i hi;rw[e2]at q;cases q
 .obtain⟨v,h4,h5⟩:=sr.sl jo i d h3 e2;have ex:∃v,∃x i,N'[j]?=some x/\m'[j]?=some i/\(x,NameKind.free)∈scope.names/\(∃jo:Nat,N[jo]?=some x/\σ[jo]?=some (some v))/\∀d,fr[i]?=some (some d)->RV K H r d v:=
   ⟨v,N'[j],i,hx,e1,h1,⟨jo,h2,h4⟩,λd' e'=>by rw[e2]at e';cases e';exact h5⟩
  refine⟨ex.choose,?_,?_⟩
  .unfold sig;rw[WX,X5 hj];simp only[Option.map_some];rw[dif_pos ex]
  .obtain⟨x',i',q1,q2,q3,q4,q5⟩:=ex.choose_spec;rw[e1]at q2;cases q2;exact q5 d e2
def CH{pins:List (Addr×Obj)}{σ:L2.St}{H3:Hp}{s3:Shared}(g:Good G n sc N df X)(I:Inv X pins σ H3 s3)(hs:j5 sc scope){cl:List (Str×Addr)}(g9:∀x c,cl.lookup x=some c->X.env.cells.lookup x=some c)
  (j6:∀x,(x,NameKind.free)∈scope.names->∃c,cl.lookup x=some c) {fp:List Addr} (hfp:∀b∈fp,gY X pins H3 b) (hfl:∀b∈fp,b<s3.heap.objs.size) {h1:Heap} {tk:Nat} {mm:Str->Option Value}
  (hns:h1.Ns s3.heap.objs.size mm) (hk:∀b o,s3.heap.get? b=some o->h1.get? b=some o) {r:List Addr} {fr:Fr} :
  Inv (pI X N' scope cl s3.heap.objs.size s3 H3 fp) [] (sig scope N N' m' X.K H3 r fr σ) H3 { s3 with heap:=h1,toks:=tk }:=by
 refine⟨GQ g I hs g9 j6 hfp hfl,rfl,I.bare,Un.kept hk,⟨mm,hns,λj x v e1 e2 e3=>?_⟩,λx c e=>?_,I.hok.fresh (qh _),λx c e=>I.gW x c (g9 x c e),(λp hp=>by simp[pI]at hp),I.hok.kept hk,(by unfold sig;simp[pI])⟩
 .obtain⟨x',i,q1,q2,q3,⟨jo,q4,q5⟩,_⟩:=KG e2;have UD:N'[j]?=some x:=e1;rw[UD]at q1;cases q1;obtain⟨f1,f2⟩:=hs.free x q3;obtain⟨mO,VO,UE⟩:=I.loc;obtain⟨u,ru,lk⟩:=UE jo x v (by rw[g.nm];exact q4) q5 (by rw[g.sc];rcases f1 with z|z<;>simp[zR,z]);refine⟨u,ru,?_⟩;have hkd:X.env.kindOf x=some .cell\/X.env.kindOf x=some .free:=by unfold Env.kindOf;rw[g.sc];exact f1
  rcases lk with ⟨z,_⟩|⟨_,c,hc,hcell⟩
  .rcases hkd with w|w <;> (rw[z]at w;cases w)
  .obtain⟨c',hc'⟩:=j6 x q3;have:c'=c:=by
    have:=g9 x c' hc';rw[hc]at this;cases this;rfl
   subst this;refine .inr ⟨?_,c',hc',?_⟩
   .show(relabel scope X.env).names.lookup x=some .cell\/(relabel scope X.env).names.lookup x=some .free;rw[qF (scope:=scope) g.sc];exact sq f2
   .obtain⟨o,ho,hd⟩:=hcell;exact⟨o,hk _ _ ho,hd⟩
 .obtain⟨v,o,ho,hd⟩:=I.cell x c (g9 x c e);exact⟨v,o,hk _ _ ho,hd⟩
end
section
variable{G:Tb}{n:Nat}{sc scope:Scope}{N N':List Str}{df:Bool}{m m':List Nat}{elt:E}{t:T}{it:Ev.It}{cond:Eo}{xe xi tg:Expr}{ifs:List Expr}{pos:Pos}{X:Cx}
noncomputable def yD(P:aL)(elt:E)(t:T)(cond:Eo)(fr:Fr):D->Hh->R (Option D):=λd h2=>match Ev.cg t d fr with
 |none=>.bad
 |some ao=>(Ev.g6 P cond ao h2).bind λk h3=>if k then (Ev.ev P elt ao h3).bind λx h4=>.ok (some x) h4 else .ok none h3
def qG(P:aL)(elt:E)(t:T)(it:Ev.It)(cond:Eo)(fr:Fr)(h:Hh):Ev.ev P (.comp elt t it cond) fr h=(Ev.cZ P it fr h).bind λs h1=>if Ev.undef t fr then
  (Ev.bV (yD P elt t cond fr) s.2 s.1 h1).bind λds h2=>Ev.alloc ds h2 else .bad:=by
 simp only[Ev.ev];rfl
noncomputable def CI(Y:Cx)(m':List Nat)(f:D->Hh->R (Option D))(fr:Fr)(src:Src)(fp:List Addr)(tn:Nat->Heap->Prop)(r2:List Addr)(H2:Hp)(Dd:Addr)(ds:List D)(h2:Hh)(k:Nat)(s:Shared):Prop:=
 ∃i nY Hc rc hc dn vs rest,Inv Y [] nY Hc s/\tn i s.heap/\(∀b∈fp,Hc b=none)/\k=src.1.length - i/\i<=src.1.length/\
  SR Y.K m' Hc rc fr nY/\HR Y.K Hc rc hc/\Fm Y.K r2 rc H2 Hc/\Hc Dd=some (.lst vs)/\Dd∉rc/\aG Y.K Hc rc dn vs/\Ev.bV f src.2 (src.1.drop i) hc=.ok rest h2/\dn++rest=ds
section
variable{Y:Cx}{sc':Scope}{J:L2.It}{fp:List Addr}{ita:Addr}{tn:Nat->Heap->Prop}{fr:Fr}{src:Src}{r2:List Addr}{H2:Hp}{Dd:Addr}{ds:List D}{h2:Hh}
def yE(gC:Good G n sc' N' false Y){α:Type}{tt:Sem α}{Q:α->Shared->Prop}{s:Shared}(hw:wpAny (model Y.prog Y.w) Y.A tt Q Y.xe s):wpAny (model Y.prog Y.w) Y.A tt Q fy s:=by rw[gC.xe]at hw;exact hw
def wV{i:Nat}{lY:L2.St}{H9:Hp}{r9:List Addr}{h9:Hh}{dn:List D}{vs:List V}{rest':List D}{s9:Shared}{p:List (Addr×Obj)}{f:D->Hh->R (Option D)}(hlt:i<src.1.length)(I9:Inv Y ([]++p) lY H9 s9)(bk:tn (i+1) s9.heap/\∀b∈fp,H9 b=none)(q:SR Y.K m' H9 r9 fr lY)(su:HR Y.K H9 r9 h9)(fm:Fm Y.K r2 r9 H2 H9)(yF:H9 Dd=some (.lst vs))(yG:Dd∉r9)(rv:aG Y.K H9 r9 dn vs)(e7:Ev.bV f src.2 (src.1.drop (i+1)) h9=.ok rest' h2)(ed:dn++rest'=ds) :
  ∃k,k<src.1.length - i/\CI Y m' f fr src fp tn r2 H2 Dd ds h2 k s9:=
 ⟨src.1.length - (i+1),aab hlt (Ym i),i+1,lY,H9,r9,h9,dn,vs,rest',I9.kW,bk.1,bk.2,rfl,hlt,q,su,fm,yF,yG,rv,e7,ed⟩
def KI{i:Nat}{lY:L2.St}{H9:Hp}{r9:List Addr}{h9:Hh}{dn:List D}{vs:List V}{xd:D}{v10:V}{EO:Value}{rest':List D}{s9:Shared}{p:List (Addr×Obj)}{f:D->Hh->R (Option D)}(hlt:i<src.1.length)(mG:H2 Dd=none)(hsz:ds.length<=sizeLine)(gC:Good G n sc' N' false Y)(I9:Inv Y ([]++p) lY H9 s9)(CJ:RelV v10 EO)(bk:∀{σ':L2.St}{H':Hp}{s':Shared},Inv Y ([]++p) σ' H' s'->tn (i+1) s'.heap/\∀b∈fp,H' b=none)(q:SR Y.K m' H9 r9 fr lY)(su:HR Y.K H9 r9 h9)(fm:Fm Y.K r2 r9 H2 H9)(nZ:H9 Dd=some (.lst vs))(uz:Dd∉r9)(rv:aG Y.K H9 r9 dn vs)(CK:RV Y.K H9 r9 xd v10)(e7:Ev.bV f src.2 (src.1.drop (i+1)) h9=.ok rest' h2)(ed:dn++xd :: rest'=ds) :
  wpAny (model Y.prog Y.w) Y.A (call (.builtin "list.append") [.ref Dd,EO]) (λ_ ER=>∃k,k<src.1.length - i/\CI Y m' f fr src fp tn r2 H2 Dd ds h2 k ER) fy s9:=by
 have hlen:vs.length<sizeLine:=by
  have h1:=rv.length;have h2:=WT List.length ed;simp at h2;omega
 refine bQ (yE gC (rW _ s9 lY H9 (.ref Dd) [v10] (.ref Dd) [EO] (λ_ Q0=>Q0=upd H9 Dd (.lst (vs++[v10]))) I9 rfl (.cons CJ .nil) ⟨Dd,vs,v10,rfl,rfl,nZ,hlen,rfl⟩)) λ_ ER ⟨_,Q0,Q2,_,SN⟩=>?_;subst SN;refine wV (dn:=dn++[xd]) (vs:=vs++[v10]) hlt Q2 (bk Q2) ?_ (su.other nZ uz) (fm.other mG nZ) gy uz ?_ e7 ?_
 .exact⟨q.len,λj i' d' a1 a2=>by
   obtain⟨w,b1,b2⟩:=q.sl j i' d' a1 a2;exact⟨w,b1,b2.grow (λ_ _ z=>z) (g7 nZ)⟩⟩
 .exact(rv.append (.cons CK .nil)).grow (λ_ _ z=>z) (g7 nZ)
 .rw[<-ed];simp
def Ax(gC:Good G n sc' N' false Y)(hg:JG G n sc' N' false m' t tg)(hc:JC G n sc' N' false m' cond ifs)(he:JE G n sc' N' false m' elt xe)(Tn:Turn Y.prog Y.w Y.K tg J fp ita tn)(kX:∀{Hc:Hp},(∀b∈fp,Hc b=none)->∀b∈fp,gY Y [] Hc b)
  (hu:Ev.undef t fr=true) (hJ:qD Y.K r2 H2 src J) (mG:H2 Dd=none) (hsz:ds.length<=sizeLine) {R':Result->Shared->Prop}
  (SQ:∀s6 nY Hc rc vs,Inv Y [] nY Hc s6->HR Y.K Hc rc h2->Fm Y.K r2 rc H2 Hc->Hc Dd=some (.lst vs)->Dd∉rc->aG Y.K Hc rc ds vs->R' (.ok .next) s6) {k:Nat} {s:Shared}
  (h:CI Y m' (yD (Ev.run G.F G.w n) elt t cond fr) fr src fp tn r2 H2 Dd ds h2 k s):codeAny (model Y.prog Y.w) Y.A (.compLoop (.ListComp xe [⟨tg,xi,ifs,0⟩] scope pos) 0 (.ref ita) (.ref Dd) Y.env) R' s:=by
 refine uy (CI Y m' (yD (Ev.run G.F G.w n) elt t cond fr) fr src fp tn r2 H2 Dd ds h2) ?_ k h;rintro k s5 ⟨i,nY,Hc,rc,hc',dn,vs,rest,I5,wI,rO,rfl,hle,Au,sf,uA,nZ,uz,Ay,e5,ES⟩;rcases Zw i src.1.length with hlt|hge
 .rw[YE hlt]at e5;simp only[Ev.bV]at e5;split at e5
  .rename_i hst;obtain⟨hgo,_⟩:=hJ i Hc rc hc' sf uA hst;obtain⟨g1,g2⟩:=hgo src.1[i] (MZ hlt);obtain⟨o,h6,e6,e5⟩:=Ev.ah e5;obtain⟨rest',h7,e7,e5⟩:=Ev.ah e5;cases e5;refine bQ (Tn.item Y rfl rfl rfl gC.calm i [] s5 nY Hc fy I5 (kX rO) wI g1) λrr s6 ⟨u,UG,h8⟩=>?_;subst UG;refine bQ h8 λ_ s7 ⟨x,H7,I7,rx,y7,KJ,UH⟩=>?_;obtain⟨r7,v7,Q3,wW⟩:=g2 x H7 y7;obtain⟨SS,SV⟩:=wW.gp nZ uz;unfold yD at e6;split at e6
   .cases e6
   .rename_i ao eb;obtain⟨kk,h9,e9,e6⟩:=Ev.ah e6;have UI:=I7.pinned (kX UH) (Tn.obj _ _ KJ);refine bQ (yE gC (hg _ gC _ s7 nY H7 x u (λlY H8=>H8=H7/\SR Y.K m' H7 r7 ao lY) UI rx ⟨r7,fr,hc',_,ao,Au.mono wW,Q3,v7,eb,λs' q=>⟨rfl,q⟩⟩)) λ_ s8 ⟨lY,H8,I8,UJ,ET⟩=>?_;subst UJ;refine bQ (yE gC (hc _ gC _ s8 lY _ (λb H9=>b=kk/\∃r9,HR Y.K H9 r9 h9/\Fm Y.K r7 r9 _ H9) I8 ⟨r7,ao,hc',kk,h9,ET,Q3,e9,λH9 r9 su f9=>⟨rfl,r9,su,f9⟩⟩)) λbb s9 ⟨H9,I9,JX,r9,su,sy⟩=>?_;subst JX;obtain⟨yG,yF⟩:=sy.gp SV SS;have back:∀{σ':L2.St} {H':Hp} {s':Shared},Inv Y ([]++mq fp s7.heap) σ' H' s'->tn (i+1) s'.heap/\∀b∈fp,H' b=none:=λ{σ' H' s'} I'=>
     ⟨Tn.keep _ _ _ KJ λb hb o e=>(I'.pin (b,o) (Xc _ (Xc _ (jl hb e)))).1,λb hb=>
      let ⟨o,e,_⟩:=Tn.obj _ _ KJ b hb
      (I'.pin (b,o) (Xc _ (Xc _ (jl hb e)))).2.1⟩
    cases bb with
    |false=>
     simp only[W4,XH]at e6 ⊢;cases e6;exact wV hlt I9 (back I9) ((ET.mono sy).unbind eb hu) su ((uA.trans wW).trans sy) yF yG ((Ay.mono wW).mono sy) e7 ES
    |true=>
     simp only[Xa]at e6 ⊢;obtain⟨xd,VP,UK,e6⟩:=Ev.ah e6;cases e6;refine bQ (yE gC (he _ gC _ s9 lY H9 (λv Az=>∃wX,RV Y.K Az wX xd v/\HR Y.K Az wX _/\Fm Y.K r9 wX H9 Az) I9 ⟨r9,ao,h9,xd,_,ET.mono sy,su,UK,λv Az wX v10 CL AA=>⟨wX,v10,CL,AA⟩⟩)) λEO Q4 ⟨v10,Az,UL,CJ,wX,CK,CL,yH⟩=>?_;obtain⟨OP,OQ⟩:=yH.gp yF yG;exact KI hlt mG hsz gC UL CJ back (((ET.mono sy).mono yH).unbind eb hu) CL (((uA.trans wW).trans sy).trans yH) OQ OP (((Ay.mono wW).mono sy).mono yH) CK e7 ES
  .cases e5
 .have hi':i=src.1.length:=Nat.le_antisymm hle hge;subst hi';rw[List.drop_length]at e5;simp only[Ev.bV]at e5;split at e5
  .rename_i hst;cases e5;refine bQ (Tn.done Y rfl rfl rfl gC.calm _ [] s5 nY Hc fy I5 (kX rO) wI ((hJ _ Hc rc _ sf uA hst).2 (qh _))) λrr s6 ⟨hrr,I6⟩=>?_;subst hrr;rw[Xn]at ES;subst ES;exact SQ s6 nY Hc rc vs I6 sf uA nZ uz Ay
  .cases e5
end
def sA(g:Good G n sc N df X)(hi:JI G n sc N df m it tg xi)(hg:JG G n (eK sc scope) N' false m' t tg)(hc:JC G n (eK sc scope) N' false m' cond ifs)(he:JE G n (eK sc scope) N' false m' elt xe)
  (hn:namesOk sc N m scope t N' m') (hs:j5 sc scope) {cl:List (Str×Addr)} (g9:∀x c,cl.lookup x=some c->X.env.cells.lookup x=some c) (j6:∀x,(x,NameKind.free)∈scope.names->∃c,cl.lookup x=some c)
  {pins:List (Addr×Obj)} {σ:L2.St} {H:Hp} {s:Shared} (I:Inv X pins σ H s) {r:List Addr} {fr:Fr} {h:Hh} {d:D} {h':Hh} (sr:SR X.K m H r fr σ) (hr:HR X.K H r h)
  (e:Ev.ev (Ev.run G.F G.w n) (.comp elt t it cond) fr h=.ok d h') (post:Value->Addr->Result->Shared->Prop)
  (hpost:∀Dd C s' H' r',Inv X pins σ H' s'->(∃mm,s'.heap.Ns C mm)->gY X pins H' C->RV X.K H' r' d (.ref Dd)->HR X.K H' r' h'->Fm X.K r r' H H'->post (.ref Dd) C (.ok .next) s') {E:Value->Shared->Prop} (hE:X.xe=λ_ _=>False) :
  wpAny (model X.prog X.w) X.A (eval xi X.env) (λx s₁=>wpAny (model X.prog X.w) X.A (pyIter x) (λitv s₂=>wpAny (model X.prog X.w) X.A (newList []) (λacc s₃=>
   wpAny (model X.prog X.w) X.A (newFunctionEnv scope X.env.globals cl [] X.env.qual none .none (some X.env)) (λcenv s₄=>
    codeAny (model X.prog X.w) X.A (.compStart (.ListComp xe [⟨tg,xi,ifs,0⟩] scope pos) 0 itv acc { cenv with scope:=relabel scope X.env }) (post acc cenv.locals) s₄) E s₃) E s₂) E s₁) E s:=by
 rw[qG]at e;obtain⟨src,h1,e1,e⟩:=Ev.ah e;split at e
 .rename_i hu;obtain⟨ds,h2,e2,e⟩:=Ev.ah e;have rM:∀{α:Type} {tt:Sem α} {Q:α->Shared->Prop} {s:Shared},wpAny (model X.prog X.w) X.A tt Q X.xe s->wpAny (model X.prog X.w) X.A tt Q E s:=λ{α tt Q s} hw=>Xx hw (λ_ _ q=>q) λ_ _ q=>by rw[hE]at q;exact q.elim
  refine bQ (rM (hi X g pins s σ H (λJ H2=>∃r2,HR X.K H2 r2 h1/\Fm X.K r r2 H H2/\qD X.K r2 H2 src J) I ⟨r,fr,h,src,h1,sr,hr,e1,λJ H2 r2 hr2 f2 hJ=>⟨r2,hr2,f2,hJ⟩⟩)) λv s1 q1=>?_;refine bQ (rM q1) λitv s2 q2=>?_;obtain⟨ita,fp,tn,J,H2,rfl,I2,Tn,st2,f2,r2,hr2,EU,hJ⟩:=q2;refine W7 ?_;generalize EV:s2.heap.objs.size=Dd
  have mG:H2 Dd=none:=by rw[<-EV];exact I2.fresh
  have I3:Inv X pins σ (upd H2 Dd (.lst [])) { s2 with heap:=s2.heap.push { cls:=.type "list",data:=.seq ([]:List Value).toArray }}:=by
   have:=I2.Ct (ys:=[]) (its:=[]) (t':=s2.toks) .nil (Xd _);rw[EV]at this;exact this
  have KL:∀b∈fp,b<s2.heap.objs.size:=λb hb=>by
   obtain⟨o,e,_⟩:=Tn.obj 0 _ st2 b hb;exact Ur e
  generalize KN:({ s2 with heap:=s2.heap.push { cls:=.type "list",data:=.seq ([]:List Value).toArray }}:Shared)=s3 at I3
  have SX:s3.heap.objs.size=s2.heap.objs.size+1:=by rw[<-KN];exact XN ..
  have k3:∀b o,s2.heap.get? b=some o->s3.heap.get? b=some o:=λb o e=>by rw[<-KN];exact lM _ e
  have KO:∀b∈fp,b<s3.heap.objs.size:=λb hb=>Rt (KL b hb) (by rw[SX];exact YC _);have qH:∀b∈fp,gY X pins (upd H2 Dd (.lst [])) b:=λb hb=>⟨by rw[bH (λz=>absurd (KL b hb) (by rw[z,EV];exact X4 _))];exact(f2 b hb).1,(f2 b hb).2⟩
  refine wpAny_newFunctionEnv (hs.Aw) (λy hy=>by simp at hy) (λKP SY S6=>?_) hs.kind;have k4:∀b o,s3.heap.get? b=some o->KP.get? b=some o:=λb o e=>S6.extBut b o (WU (Ur e)) (lM _ e);have gC:Good G n (eK sc scope) N' false (pI X N' scope cl s3.heap.objs.size s3 (upd H2 Dd (.lst [])) fp):=g.comp;have I4:Inv (pI X N' scope cl s3.heap.objs.size s3 (upd H2 Dd (.lst [])) fp) [] (sig scope N N' m' X.K (upd H2 Dd (.lst [])) r2 fr σ) (upd H2 Dd (.lst [])) { s3 with heap:=KP,toks:=s3.toks+0 }:=
   CH g I3 hs g9 j6 qH KO SY k4
  have wR:SR X.K m' (upd H2 Dd (.lst [])) r2 fr (sig scope N N' m' X.K (upd H2 Dd (.lst [])) r2 fr σ):=KH (((sr.mono EU).mono (Fm.tup mG))) hn hu;have pH:HR X.K (upd H2 Dd (.lst [])) r2 h1:=hr2.tup mG;have Q5:Dd∉r2:=λhm=>by
   obtain⟨k,hk⟩:=Z6 hm;have hlt:k<h1.length:=by rw[<-hr2.len];exact(List.getElem?_eq_some_iff.mp hk).1
   obtain⟨a,e3,e4⟩:=hr2.ob k _ (MZ hlt);rw[hk]at e3;cases e3;cases eo:h1[k]with
   |lst dd=>rw[eo]at e4;obtain⟨us,e5,_⟩:=e4;rw[mG]at e5;cases e5
   |bW dd=>
    rw[eo]at e4;obtain⟨us,e5,_⟩:=e4;rcases e5 with ⟨ob,e5⟩|⟨ob,_,_,e5,_⟩
    .rw[mG]at e5;cases e5
    .have:=Ur (I2.rK _ _ e5);rw[EV]at this;exact absurd this (X4 _)
  have UM:H Dd=none:=by
   cases z:H Dd with
   |none=>rfl
   |some o=>
    have hnr:Dd∉r:=λhm=>by
     obtain⟨k,hk⟩:=Z6 hm;exact Q5 (W2 (EU.pre _ _ hk))
    have:=EU.keep _ _ z hnr;rw[mG]at this;cases this
  have kX:∀{Hc:Hp},(∀b∈fp,Hc b=none)->∀b∈fp,gY (pI X N' scope cl s3.heap.objs.size s3 (upd H2 Dd (.lst [])) fp) [] Hc b:=λ{Hc} hz b hb=>by
   refine⟨hz b hb,WU (KO b hb),(I4.ok).qw b hb,.inl hb,λx c e=>((I4.ok).EC b hb).2 x c e,λp hp=>?_⟩;simp[pI]at hp
  have hsz:ds.length<=sizeLine:=by
   unfold Ev.alloc at e;split at e
   .rename_i z;rw[<-jE];exact z
   .cases e
  have fin:codeAny (model X.prog X.w) X.A (.compLoop (.ListComp xe [⟨tg,xi,ifs,0⟩] scope pos) 0 (.ref ita) (.ref Dd) (compEnvC scope cl s3.heap.objs.size X.env)) (post (.ref Dd) s3.heap.objs.size) { s3 with heap:=KP,toks:=s3.toks+0 }:=by
   refine Ax gC hg hc he Tn kX hu hJ mG hsz (λs6 nY Hc rc vs I6 sf uA nZ uz Ay=>?_) ⟨0,_,_,r2,h1,[],[],ds,I4,Tn.keep _ _ _ st2 λb hb o eo=>k4 b o (k3 b o eo),λb hb=>(qH b hb).1,rfl,Xd _,wR,pH,Fm.tup mG,gy,Q5,.nil,by rw[Zf];exact e2,rfl⟩;unfold Ev.alloc at e;split at e
   .cases e;obtain⟨UN,S7,_⟩:=I6.loc;refine hpost Dd _ s6 Hc (rc++[Dd]) ?_ ⟨UN,S7⟩ ?_ ⟨Dd,rfl,?_⟩ (sf.known nZ uz Ay) ((EU.trans uA).known ?_)
    .exact I3.Oe (ch:=fp) (I6.os) I6.base I6.hok I6.bare λb hb=>⟨(qH b hb).2.2.2.1,(qH b hb).2.1,(qH b hb).2.2.2.2.1,(qH b hb).2.2.2.2.2⟩
    .exact I3.Cj (qh _) I6.free
    .rw[<-sf.len];simp
    .exact UM
   .cases e
  subst KN;exact codeAny_compStart_list fin (Tn.self _ 0 _ _ _ (Tn.keep _ _ _ st2 λb hb o eo=>k4 b o (k3 b o eo)) fin)
 .cases e
end
section
variable{G:Tb}{n:Nat}{sc scope:Scope}{N N':List Str}{df:Bool}{m m':List Nat}{elt:E}{t:T}{it:Ev.It}{cond:Eo}{xe xi tg:Expr}{ifs:List Expr}{pos:Pos}
theorem Good.cells{X:Cx}{pins:List (Addr×Obj)}{σ:L2.St}{H:Hp}{s:Shared}(g:Good G n sc N df X)(I:Inv X pins σ H s)(hs:j5 sc scope) :
  ∃cl,closureFor scope X.env=pure cl/\(∀x c,cl.lookup x=some c->X.env.cells.lookup x=some c)/\∀x,(x,NameKind.free)∈scope.names->∃c,cl.lookup x=some c:=
 GP λx hx=>I.ok.has x (by unfold Env.kindOf;rw[g.sc];exact(hs.free x hx).1)
def AB{X:Cx}{pins:List (Addr×Obj)}{σ:L2.St}{H:Hp}{s:Shared}(I:Inv X pins σ H s){C:Addr}(fp:gY X pins H C){h':Heap}(hs:Heap.SameBut C s.heap h'):Inv X pins σ H { s with heap:=h' }:=
 I.turned (t':=s.toks) (λb o hb e=>hs.extBut b o hb e) fp.1 fp.2.1 fp.2.2.2.1 fp.2.2.2.2.1 fp.2.2.2.2.2
def wY(hi:JI G n sc N df m it tg xi)(hg:JG G n (eK sc scope) N' false m' t tg)(hc:JC G n (eK sc scope) N' false m' cond ifs)(he:JE G n (eK sc scope) N' false m' elt xe)
  (hn:namesOk sc N m scope t N' m') (hs:j5 sc scope) (hf:∀(env:Env) x,foldedSetIterable xi env x=pure x:=by intro _ _;rfl):JE G n sc N df m (.comp elt t it cond) (.ListComp xe [⟨tg,xi,ifs,0⟩] scope pos):=λX g pins s σ H Q I q=>by
 obtain⟨r,fr,h,d,h',sr,hr,e,q⟩:=q;obtain⟨cl,hcl,g9,j6⟩:=g.cells I hs;rw[eval_ListComp];refine ZE (use:=none) (Q:=EP X pins σ Q) rfl (hf _) hcl hs.kind hs.loc ?_;refine sA g hi hg hc he hn hs g9 j6 I sr hr e (λacc C=>compPost (model X.prog X.w) X.A X.xe none (EP X pins σ Q) acc C) (λDd C s' H' r' I' hC fp rv hr' EW=>?_) g.xe;obtain⟨mm,hC⟩:=hC;exact⟨mm,hC,λh'' AD=>⟨.ref Dd,H',AB I' fp AD,rfl,q _ H' r' rv hr' EW⟩⟩
def GR(j i:Nat){x:Str}{pos' cpos:Pos}(hm:m.Nodup)(hN:N.Nodup)(hi:JI G n sc N df m it tg xi)(hg:JG G n (eK sc scope) N' false m' t tg)(hc:JC G n (eK sc scope) N' false m' cond ifs)(he:JE G n (eK sc scope) N' false m' elt xe)
  (hn:namesOk sc N m scope t N' m') (hs:j5 sc scope) (hj:m[j]?=some i:=by rfl) (rZ:N[j]?=some x:=by rfl)
  (hl:sc.names.lookup x=some .local\/(df=true/\sc.names.lookup x=some .cell):=by first|exact Or.inl rfl|exact Or.inr ⟨rfl,rfl⟩) (hf:∀(env:Env) x,foldedSetIterable xi env x=pure x:=by intro _ _;rfl) :
  JS G n sc N df m (.set i (.comp elt t it cond)) (.Assign [.Name x pos'] (.ListComp xe [⟨tg,xi,ifs,0⟩] scope cpos) pos):=λX g=>by
 obtain⟨h1,h2⟩:=g.loc hl;have hsw:swapsWith (.ListComp xe [⟨tg,xi,ifs,0⟩] scope cpos) (some (.Name x pos')) pos.line X.env=pure (X.env.blockKind==.function&&X.env.kindOf x==some .local&&pos'.line==(Expr.ListComp xe [⟨tg,xi,ifs,0⟩] scope cpos).pos.line&&!(scope.names.any λ(n,k)=>n==x&&(k==.local ||k==.cell))):=rfl;generalize hb:(X.env.blockKind==.function&&X.env.kindOf x==some .local&&pos'.line==(Expr.ListComp xe [⟨tg,xi,ifs,0⟩] scope cpos).pos.line&&!(scope.names.any λ(n,k)=>n==x&&(k==.local ||k==.cell)))=b at hsw
 cases b with
 |false=>
  refine PS.of (zV (i:=j) (by rw[g.nm];exact hN) (by rw[g.nm];exact rZ) h1 (wY hi hg hc he hn hs hf X g) hsw h2) λQ s H q=>?_;obtain⟨r,fr,h,fl,aj,h',sr,hr,e,q⟩:=q;simp only[Ev.ex]at e;obtain⟨d,h1,e1,e⟩:=Ev.ah e;cases e;exact⟨r,fr,h,d,_,sr,hr,e1,λv H1 r1 v1 hr1 f1=>q _ H1 r1 ((sr.mono f1).set hm hj v1) hr1 f1⟩
 |true=>
  have VQ:X.env.kindOf x=some .local:=by
   simp only[Vp,Z3]at hb;exact hb.1.1.2
  intro pins s σ H Q I q;obtain⟨r,fr,h,fl,aj,h',sr,hr,e,q⟩:=q;simp only[Ev.ex]at e;obtain⟨d,h3,e1,e⟩:=Ev.ah e;cases e;obtain⟨cl,hcl,g9,j6⟩:=g.cells I hs;rw[exec_Assign_Name_used _ _ _ _ hsw];refine fS (wpAny_standAt (fS ?_));show wpAny _ X.A (do let _ <-comprehension (.ListComp xe [⟨tg,xi,ifs,0⟩] scope cpos) scope X.env _ (newList []) false (eval xi X.env) (some (assign (.Name x pos') X.env))) _ _ s;refine fS (Xx (ZE (use:=some (assign (.Name x pos') X.env)) (Q:=λ_ s'=>SP X pins Q .next s') rfl (hf _) hcl hs.kind hs.loc ?_) (λ_ s' hq=>gV (gV hq)) λ_ _ e=>e);refine sA g hi hg hc he hn hs g9 j6 I sr hr e1 (λacc C=>compPost (model X.prog X.w) X.A X.xe (some (assign (.Name x pos') X.env)) (λ_ s'=>SP X pins Q .next s') acc C) (λDd C s' H' r' I' hC fp rv hr' EW=>?_) g.xe;obtain⟨mm,hC⟩:=hC;show wpAny _ X.A (assign (.Name x pos') X.env (.ref Dd)) _ _ s';refine wpAny_assign_Name (rL (v:=.ref Dd) I' (by rw[g.nm];exact hN) (i:=j) (by rw[g.nm];exact rZ) h1 rfl (λs'' UO AD=>?_) h2);obtain⟨a,AD,ha⟩:=AD;have UP:C≠a:=by
   rcases ha with z|z
   .rw[z];exact fp.2.1
   .exact λw=>fp.2.2.2.2.1 x a z w.symm
  refine⟨mm,hC.sameBut AD UP,λh'' S8=>?_⟩;exact⟨_,H',AB UO ⟨fp.1,fp.2⟩ S8,q _ H' r' ((sr.mono EW).set hm hj rv) hr' EW⟩
end
end Sm
namespace Sm
open PySem PySem.Spec PyProof.Rows L2 PySem.SeqAt
open Ev (D O Hh Fr R aL E Es Eo T S Ss Fl Src bh aZ TY BI ME)
structure uB(A:Around)(s:Shared)(u w:Value)(k:Bool):Prop where
 eq:EqAt A s u w k
 rc:RcAt A s u w k
 ne:RcNeAt A s u w (!k)
theorem qI{f:D->D->Option Bool}:∀{x y:List D},x.length≠y.length->∀{k},Ev.cD f x y=some k->k=false
 |[],[],h,_,_=>absurd rfl h
 |[],_ :: _,_,_,e=>by cases e;rfl
 |_ :: _,[],_,_,e=>by cases e;rfl
 |a :: x,b :: y,h,k,e=>by
  simp only[Ev.cD,Yq,Ru]at e;obtain⟨p,_,q,e2,e3⟩:=e;have:=qI (x:=x) (y:=y) (by simpa using h) e2;subst this;cases e3;simp
theorem wZ{f:D->D->Option Bool}:∀{x y:List D}{k},Ev.cD f x y=some k->x.length=y.length->∃e:Nat->Bool,(∀(j:Nat) a b,x[j]?=some a->y[j]?=some b->f a b=some (e j))/\(List.range x.length).all e=k
 |[],[],_,h,_=>⟨λ_=>true,(λj a b h1=>by simp at h1),by cases h;simp⟩
 |[],_ :: _,_,_,h=>by simp at h
 |_ :: _,[],_,_,h=>by simp at h
 |a :: x,b :: y,k,h,hl=>by
  simp only[Ev.cD,Yq,Ru]at h;obtain⟨p,e1,q,e2,e3⟩:=h;cases e3;obtain⟨e,h1,h2⟩:=wZ e2 (by simpa using hl);refine⟨λj=>match j with|0=>p|j+1=>e j,λj a' b' g1 g2=>?_,?_⟩
  .cases j with
   |zero=>simp at g1 g2;subst g1 g2;exact e1
   |succ j=>exact h1 j a' b' (by simpa using g1) (by simpa using g2)
  .rw[WY,YV,List.all_cons,List.all_map,<-h2];rfl
theorem w9{f:D->D->Option Bool}:∀{x y:List D}{k},Ev.cD f x y=some k->∃e:Nat->Bool,∀(j:Nat) a b,x[j]?=some a->y[j]?=some b->f a b=some (e j)
 |[],_,_,_=>⟨λ_=>true,λj a b h1=>by simp at h1⟩
 |_ :: _,[],_,_=>⟨λ_=>true,λj a b _ h1=>by simp at h1⟩
 |a :: x,b :: y,k,h=>by
  simp only[Ev.cD,Yq,Ru]at h;obtain⟨p,e1,q,e2,e3⟩:=h;obtain⟨e,h1⟩:=w9 e2;refine⟨λj=>match j with|0=>p|j+1=>e j,λj a' b' g1 g2=>?_⟩;cases j with
  |zero=>simp at g1 g2;subst g1 g2;exact e1
  |succ j=>exact h1 j a' b' (by simpa using g1) (by simpa using g2)
section
variable{X:Cx}{pins:List (Addr×Obj)}{σ:L2.St}{H:Hp}{s:Shared}{r:List Addr}{h:Hh}
def nv(I:Inv X pins σ H s){a b:Addr}{vs ws:List V}(h1:yy X.K H a vs)(h2:H b=some (.lst ws)):a≠b:=by
 rintro rfl;rcases h1 with ⟨o,h1⟩|⟨o,_,_,h1,_⟩
 .rw[h2]at h1;cases h1
 .have:=(I.bs a o (I.ok.mod.EB a o h1)).2;rw[h2]at this;cases this
def sC{x y:List D}{vs ws:List V}{us zs:List Value}{f:D->D->Option Bool}{A:Around}{k:Bool}(v1:aG X.K H r x vs)(v2:aG X.K H r y ws)(p1:Vals vs us)(p2:Vals ws zs)
  (ih:∀a b va vb u w k,RV X.K H r a va->RV X.K H r b vb->RelV va u->RelV vb w->f a b=some k->uB A s u w k) (hl:x.length=y.length) (e:Ev.cD f x y=some k) :
  ∃e':Nat->Bool,(∀j (h1:j<us.toArray.size) (h2:j<zs.toArray.size),EqAt A s us.toArray[j] zs.toArray[j] (e' j))/\(List.range us.toArray.size).all e'=k/\us.length=zs.length:=by
 obtain⟨e',h1,h2⟩:=wZ e hl;have l1:=v1.length;have l2:=v2.length;have l3:=p1.length;have l4:=p2.length;refine⟨e',λj g1 g2=>?_,?_,by omega⟩
 .have UQ:j<us.length:=by simpa using g1
  have UR:j<zs.length:=by simpa using g2
  have ha:x[j]?=some x[j]:=MZ (by omega);have hb:y[j]?=some y[j]:=MZ (by omega);obtain⟨va,a1,a2⟩:=v1.get ha;obtain⟨vb,b1,b2⟩:=v2.get hb;obtain⟨u,a3,a4⟩:=p1.get a1;obtain⟨w,b3,b4⟩:=p2.get b1;have eu:us.toArray[j]=u:=by
   have:=(List.getElem?_eq_some_iff.mp a3).2;simpa using this
  have ew:zs.toArray[j]=w:=by
   have:=(List.getElem?_eq_some_iff.mp b3).2;simpa using this
  rw[eu,ew];exact(ih _ _ _ _ _ _ _ a2 b2 a4 b4 (h1 j _ _ ha hb)).eq
 .rw[<-h2];have:us.toArray.size=x.length:=by simp;omega
  rw[this]
noncomputable def cj(K:PySem.W.Frag)(H:Hp)(r:List Addr):D->V->Prop
 |.aU,v=>v=.aU
 |.bl b,v=>v=.bl b
 |.int i,v=>v=.int i
 |.str l,v=>v=.str (aV l)
 |.ref n,v=>∃a,v=.ref a/\r[n]?=some a
 |.tup ds,v=>∃a vs,v=.ref a/\dz K H a vs/\aG K H r ds vs
def RV.shape{d:D}{v:V}(h:RV X.K H r d v):cj X.K H r d v:=by
 cases d<;>simp only[RV]at h<;>simp only[cj]<;>first|exact h|exact h.1
def GS{a b:List Nat}:(aV a==aV b)=(a==b):=by
 by_cases e:a=b
 .subst e;simp
 .have e1:(aV a==aV b)=false:=beq_eq_false_iff_ne.mpr λz=>e (qC z);have e2:(a==b)=false:=beq_eq_false_iff_ne.mpr e;rw[e1,e2]
def oO{n:Nat}{A:Around}{x y:List D}{a b:Addr}{vs ws:List V}{k:Bool}(I:Inv X pins σ H s)(hu:A.units<cLine)(q1:eU X.K H a vs)(q2:eU X.K H b ws)(v1:aG X.K H r x vs)(v2:aG X.K H r y ws)(hab:a≠b)
  (ih:∀a b va vb u w k,RV X.K H r a va->RV X.K H r b vb->RelV va u->RelV vb w->Ev.gc h n a b=some k->uB A.in1 s u w k) (e:Ev.cD (Ev.gc h n) x y=some k):uB A s (.ref a) (.ref b) k:=by
 obtain⟨us,p1,oh,_⟩:=I.list q1;obtain⟨zs,p2,om,_⟩:=I.list q2;by_cases hl:x.length=y.length
 .obtain⟨e',h1,h2,h3⟩:=sC v1 v2 p1 p2 ih hl e;have hs:us.toArray.size=zs.toArray.size:=by simpa using h3
  have rc:=RcAt.lists oh.isList om.isList hs hu h1;have ne:=RcNeAt.lists oh.isList om.isList hs hu h1;rw[h2]at rc ne;exact⟨.of_refs hab rc,rc,ne⟩
 .have hk:=qI hl e;subst hk;have hs:(us.toArray.size != zs.toArray.size)=true:=by
   have l1:=v1.length;have l2:=v2.length;have l3:=p1.length;have l4:=p2.length;simp only[MM,bne_iff_ne,ne_eq];omega
  exact⟨.of_refs hab (.lists_lengths oh.isList om.isList hs hu),.lists_lengths oh.isList om.isList hs hu,.lists_lengths oh.isList om.isList hs hu⟩
def AE(I:Inv X pins σ H s)(hr:HR X.K H r h){n:Nat}{a:Addr}{ds:List D}(e:Ev.bq h n=some ds)(ha:r[n]?=some a):∃us:List Value,PlainL s.heap a us.toArray:=by
 obtain⟨a',vs,e1,e2,e3⟩:=hr.read e;rw[ha]at e1;cases e1;obtain⟨us,_,pl,_⟩:=I.list e2;exact⟨us,pl⟩
def AF(I:Inv X pins σ H s)(hr:HR X.K H r h):∀(n:Nat) (a b:D) (v:V) (k:Bool),RV X.K H r a v->RV X.K H r b v->Ev.gc h n a b=some k->k=true:=by
 intro n;induction n with
 |zero=>intro a b v k _ _ e;cases e
 |succ n ih=>
  have items:∀(x y:List D) (vs:List V) (k:Bool),aG X.K H r x vs->aG X.K H r y vs->Ev.cD (Ev.gc h n) x y=some k->k=true:=by
   intro x;induction x with
   |nil=>
    intro y vs k h1 h2 e;simp only[aG]at h1;subst h1;cases y with
    |nil=>cases e;rfl
    |cons _ _=>simp only[aG]at h2;obtain⟨_,_,h2,_⟩:=h2;cases h2
   |cons d x US=>
    intro y vs k h1 h2 e;simp only[aG]at h1;obtain⟨v,w,rfl,h3,h4⟩:=h1;cases y with
    |nil=>simp only[aG]at h2;cases h2
    |cons d' y=>
     simp only[aG]at h2;obtain⟨v',w',e2,h5,h6⟩:=h2;cases e2;simp only[Ev.cD,Yq,Ru]at e;obtain⟨p,e1,q,e2,e3⟩:=e;cases e3;rw[ih d d' v p h3 h5 e1,US y w q h4 h6 e2];rfl
  have lt:∀(a:Addr) (vs:List V) (i:Nat) (ds:List D),dz X.K H a vs->r[i]?=some a->Ev.bq h i=some ds->False:=λa vs i ds h1 h2 h3=>by
   obtain⟨us,pl⟩:=AE I hr h3 h2;obtain⟨zs,_,pt,_⟩:=I.tuple h1;exact ne_of_list_tuple pl.isList pt rfl
  intro a b v k h1 h2 e;have s1:=h1.shape;have s2:=h2.shape;clear h1 h2;cases a with
  |aU=>simp only[cj]at s1;cases b with
   |aU=>cases e;rfl
   |ref m=>obtain⟨p,z,_⟩:=s2;rw[s1]at z;cases z
   |tup y=>obtain⟨p,_,z,_⟩:=s2;rw[s1]at z;cases z
   |_=>simp only[cj]at s2;rw[s1]at s2;cases s2
  |bl x=>simp only[cj]at s1;cases b with
   |bl y=>simp only[cj]at s2;rw[s1]at s2;cases s2;cases e;simp
   |ref m=>obtain⟨p,z,_⟩:=s2;rw[s1]at z;cases z
   |tup y=>obtain⟨p,_,z,_⟩:=s2;rw[s1]at z;cases z
   |_=>simp only[cj]at s2;rw[s1]at s2;cases s2
  |int x=>simp only[cj]at s1;cases b with
   |int y=>simp only[cj]at s2;rw[s1]at s2;cases s2;cases e;simp
   |ref m=>obtain⟨p,z,_⟩:=s2;rw[s1]at z;cases z
   |tup y=>obtain⟨p,_,z,_⟩:=s2;rw[s1]at z;cases z
   |_=>simp only[cj]at s2;rw[s1]at s2;cases s2
  |str x=>simp only[cj]at s1;cases b with
   |str y=>
    simp only[cj]at s2;rw[s1]at s2;have:x=y:=qC (by injection s2);subst this;cases e;simp
   |ref m=>obtain⟨p,z,_⟩:=s2;rw[s1]at z;cases z
   |tup y=>obtain⟨p,_,z,_⟩:=s2;rw[s1]at z;cases z
   |_=>simp only[cj]at s2;rw[s1]at s2;cases s2
  |tup x=>
   obtain⟨p,vs,rfl,z,w⟩:=s1;cases b with
   |tup y=>
    obtain⟨p',vs',z',z2,w2⟩:=s2;cases z';rw[I.mj z2 z]at w2;exact items x y vs k w w2 e
   |ref m=>
    obtain⟨p',z',z2⟩:=s2;cases z';obtain⟨ds,e1,_⟩:=Option.map_eq_some_iff.mp e;exact(lt _ _ _ _ z z2 e1).elim
   |_=>cases s2
  |ref i=>
   obtain⟨p,rfl,z⟩:=s1;cases b with
   |ref m=>
    obtain⟨p',z',z2⟩:=s2;cases z';replace e:Ev.jD h (Ev.gc h n) i m=some k:=e;unfold Ev.jD at e;split at e
    .simp only[vv]at e;obtain⟨_,_,e⟩:=e;exact e.symm
    .rename_i hne;split at e
     .rename_i x y g1 g2;exact absurd (hr.inj _ _ _ _ _ z z2 g1 g2) hne
     .rename_i x y g1 g2;obtain⟨p1,q1,EX,q2,_⟩:=hr.ob _ _ g1;obtain⟨p2,q3,EY,q4,_⟩:=hr.ob _ _ g2;rw[z]at q1;cases q1;rw[z2]at q3;cases q3;exact absurd rfl (nv I q2 q4)
     .rename_i x y g1 g2;obtain⟨p1,q1,EX,q2,_⟩:=hr.ob _ _ g1;obtain⟨p2,q3,EY,q4,_⟩:=hr.ob _ _ g2;rw[z]at q1;cases q1;rw[z2]at q3;cases q3;exact absurd rfl (nv I q4 q2)
     .cases e
   |tup y=>
    obtain⟨p',vs',z',z2,w2⟩:=s2;cases z';obtain⟨ds,e1,_⟩:=Option.map_eq_some_iff.mp e;exact(lt _ _ _ _ z2 z e1).elim
   |_=>cases s2
def GU{n:Nat}{A:Around}{x y:List D}{a b:Addr}{vs ws:List V}{k:Bool}(I:Inv X pins σ H s)(hr:HR X.K H r h)(hu:A.units<cLine)(q1:dz X.K H a vs)(q2:dz X.K H b ws)(v1:aG X.K H r x vs)(v2:aG X.K H r y ws)
  (ih:∀a b va vb u w k,RV X.K H r a va->RV X.K H r b vb->RelV va u->RelV vb w->Ev.gc h n a b=some k->uB A.in1 s u w k) (e:Ev.cD (Ev.gc h n) x y=some k):uB A s (.ref a) (.ref b) k:=by
 obtain⟨us,p1,oh,_⟩:=I.tuple q1;obtain⟨zs,p2,om,_⟩:=I.tuple q2;have l1:=v1.length;have l2:=v2.length;have l3:=p1.length;have l4:=p2.length;have both:RcAt A s (.ref a) (.ref b) k/\RcNeAt A s (.ref a) (.ref b) (!k):=by
  by_cases hl:x.length=y.length
  .obtain⟨e',h1,h2,h3⟩:=sC v1 v2 p1 p2 ih hl e;have rc:=RcAt.tuples oh om hu h1;have ne:=RcNeAt.tuples oh om hu h1;have hs:us.toArray.size=zs.toArray.size:=by simpa using h3
   have hb:((List.range (min us.toArray.size zs.toArray.size)).all e'&&us.toArray.size==zs.toArray.size)=k:=by
    rw[<-hs,Nat.min_self,h2];simp
   rw[hb]at rc ne;exact⟨rc,ne⟩
  .have hk:=qI hl e;subst hk;have hcl:∃e':Nat->Bool,∀j (h1:j<us.toArray.size) (h2:j<zs.toArray.size),EqAt A.in1 s us.toArray[j] zs.toArray[j] (e' j):=by
    obtain⟨e',h1⟩:=w9 e;refine⟨e',λj g1 g2=>?_⟩;have UQ:j<us.length:=by simpa using g1
    have UR:j<zs.length:=by simpa using g2
    have ha:x[j]?=some x[j]:=MZ (by omega);have hb:y[j]?=some y[j]:=MZ (by omega);obtain⟨va,a1,a2⟩:=v1.get ha;obtain⟨vb,b1,b2⟩:=v2.get hb;obtain⟨u,a3,a4⟩:=p1.get a1;obtain⟨w,b3,b4⟩:=p2.get b1;have eu:us.toArray[j]=u:=by
     have:=(List.getElem?_eq_some_iff.mp a3).2;simpa using this
    have ew:zs.toArray[j]=w:=by
     have:=(List.getElem?_eq_some_iff.mp b3).2;simpa using this
    rw[eu,ew];exact(ih _ _ _ _ _ _ _ a2 b2 a4 b4 (h1 j _ _ ha hb)).eq
   obtain⟨e',h1⟩:=hcl;have rc:=RcAt.tuples oh om hu h1;have ne:=RcNeAt.tuples oh om hu h1;have hs:(us.toArray.size==zs.toArray.size)=false:=by
    simp only[MM,beq_eq_false_iff_ne,ne_eq];omega
   rw[hs,Bool.and_false]at rc ne;exact⟨rc,ne⟩
 by_cases hab:a=b
 .subst hab;rw[I.mj q2 q1]at v2;have hk:k=true:=AF I hr (n+1) (.tup x) (.tup y) (.ref a) k ⟨a,vs,rfl,q1,v1⟩ ⟨a,vs,rfl,q1,v2⟩ e;subst hk;exact⟨.same _,both.1,both.2⟩
 .exact⟨.of_refs hab both.1,both.1,both.2⟩
end
section
variable{X:Cx}{pins:List (Addr×Obj)}{σ:L2.St}{H:Hp}{s:Shared}{r:List Addr}{h:Hh}
def yI(I:Inv X pins σ H s)(hr:HR X.K H r h):∀(n:Nat) (A:Around) (a b:D) (va vb:V) (u w:Value) (k:Bool),A.units+n<cLine->RV X.K H r a va->RV X.K H r b vb->RelV va u->RelV vb w->Ev.gc h n a b=some k->uB A s u w k:=by
 intro n;induction n with
 |zero=>intro A a b va vb u w k _ _ _ _ _ e;cases e
 |succ n ih=>
  intro A a b va vb u w k hu h1 h2 r1 r2 e;have bO:A.units<cLine:=by omega
  have ih':∀a b va vb u w k,RV X.K H r a va->RV X.K H r b vb->RelV va u->RelV vb w->Ev.gc h n a b=some k->uB A.in1 s u w k:=λa b va vb u w k=>ih A.in1 a b va vb u w k (by show A.units+1+n<cLine;omega);have s1:=h1.shape;have s2:=h2.shape;have lst:∀{i:Nat} {v:V} {u:Value} {ds:List D},cj X.K H r (.ref i) v->RelV v u->Ev.bq h i=some ds->∃p us,u=.ref p/\PlainL s.heap p (List.toArray us):=λ{i v u ds} hv ru el=>by
   obtain⟨p,rfl,z⟩:=hv;cases ru;obtain⟨us,pl⟩:=AE I hr el z;exact⟨p,us,rfl,pl⟩
  have tup:∀{ds:List D} {v:V} {u:Value},cj X.K H r (.tup ds) v->RelV v u->∃p us,u=.ref p/\s.heap.IsTuple p (List.toArray us):=λ{ds v u} hv ru=>by
   obtain⟨p,vs,rfl,z,_⟩:=hv;cases ru;obtain⟨us,_,pt,_⟩:=I.tuple z;exact⟨p,us,rfl,pt⟩
  cases a with
  |aU=>
   simp only[cj]at s1;subst s1;cases r1;cases b with
   |aU=>simp only[cj]at s2;subst s2;cases r2;cases e;exact⟨.same _,.none_none,.none_none⟩
   |bl y=>simp only[cj]at s2;subst s2;cases r2;cases e;exact⟨.none_bool _,.none_bool _,.none_bool _⟩
   |int y=>simp only[cj]at s2;subst s2;obtain⟨t,rfl⟩:=r2;cases e;exact⟨.none_int _ _,.none_int _ _,.none_int _ _⟩
   |str y=>simp only[cj]at s2;subst s2;obtain⟨t,rfl⟩:=r2;cases e;exact⟨.none_str _ _,.none_str _ _,.none_str _ _⟩
   |tup y=>obtain⟨p,us,rfl,pt⟩:=tup s2 r2;cases e;exact⟨.none_tuple pt bO,.none_tuple pt bO,.none_tuple pt bO⟩
   |ref m=>
    obtain⟨ds,e1,rfl⟩:=Option.map_eq_some_iff.mp e;obtain⟨p,us,rfl,pl⟩:=lst s2 r2 e1;exact⟨.none_list pl.isList bO,.none_list pl.isList bO,.none_list pl.isList bO⟩
  |bl x=>
   simp only[cj]at s1;subst s1;cases r1;cases b with
   |aU=>simp only[cj]at s2;subst s2;cases r2;cases e;exact⟨.bool_none _,.bool_none _,.bool_none _⟩
   |bl y=>simp only[cj]at s2;subst s2;cases r2;cases e;exact⟨.bool_bool _ _,.bool_bool _ _,.bool_bool _ _⟩
   |int y=>simp only[cj]at s2;subst s2;obtain⟨t,rfl⟩:=r2;cases e;exact⟨.bool_int _ _ _,.bool_int _ _ _,.bool_int _ _ _⟩
   |str y=>simp only[cj]at s2;subst s2;obtain⟨t,rfl⟩:=r2;cases e;exact⟨.bool_str _ _ _,.bool_str _ _ _,.bool_str _ _ _⟩
   |tup y=>obtain⟨p,us,rfl,pt⟩:=tup s2 r2;cases e;exact⟨.bool_tuple _ pt bO,.bool_tuple _ pt bO,.bool_tuple _ pt bO⟩
   |ref m=>
    obtain⟨ds,e1,rfl⟩:=Option.map_eq_some_iff.mp e;obtain⟨p,us,rfl,pl⟩:=lst s2 r2 e1;exact⟨.bool_list _ pl.isList bO,.bool_list _ pl.isList bO,.bool_list _ pl.isList bO⟩
  |int x=>
   simp only[cj]at s1;subst s1;obtain⟨t0,rfl⟩:=r1;cases b with
   |aU=>simp only[cj]at s2;subst s2;cases r2;cases e;exact⟨.int_none _ _,.int_none _ _,.int_none _ _⟩
   |bl y=>simp only[cj]at s2;subst s2;cases r2;cases e;exact⟨.int_bool _ _ _,.int_bool _ _ _,.int_bool _ _ _⟩
   |int y=>simp only[cj]at s2;subst s2;obtain⟨t,rfl⟩:=r2;cases e;exact⟨.int_int _ _ _ _,.int_int _ _ _ _,.int_int _ _ _ _⟩
   |str y=>simp only[cj]at s2;subst s2;obtain⟨t,rfl⟩:=r2;cases e;exact⟨.int_str _ _ _ _,.int_str _ _ _ _,.int_str _ _ _ _⟩
   |tup y=>obtain⟨p,us,rfl,pt⟩:=tup s2 r2;cases e;exact⟨.int_tuple _ _ pt bO,.int_tuple _ _ pt bO,.int_tuple _ _ pt bO⟩
   |ref m=>
    obtain⟨ds,e1,rfl⟩:=Option.map_eq_some_iff.mp e;obtain⟨p,us,rfl,pl⟩:=lst s2 r2 e1;exact⟨.int_list _ _ pl.isList bO,.int_list _ _ pl.isList bO,.int_list _ _ pl.isList bO⟩
  |str x=>
   simp only[cj]at s1;subst s1;obtain⟨t0,rfl⟩:=r1;cases b with
   |aU=>simp only[cj]at s2;subst s2;cases r2;cases e;exact⟨.str_none _ _,.str_none _ _,.str_none _ _⟩
   |bl y=>simp only[cj]at s2;subst s2;cases r2;cases e;exact⟨.str_bool _ _ _,.str_bool _ _ _,.str_bool _ _ _⟩
   |int y=>simp only[cj]at s2;subst s2;obtain⟨t,rfl⟩:=r2;cases e;exact⟨.str_int _ _ _ _,.str_int _ _ _ _,.str_int _ _ _ _⟩
   |str y=>
    simp only[cj]at s2;subst s2;obtain⟨t,rfl⟩:=r2;cases e;rw[<-GS];exact⟨.str_str _ _ _ _,.str_str _ _ _ _,.str_str _ _ _ _⟩
   |tup y=>obtain⟨p,us,rfl,pt⟩:=tup s2 r2;cases e;exact⟨.str_tuple _ _ pt bO,.str_tuple _ _ pt bO,.str_tuple _ _ pt bO⟩
   |ref m=>
    obtain⟨ds,e1,rfl⟩:=Option.map_eq_some_iff.mp e;obtain⟨p,us,rfl,pl⟩:=lst s2 r2 e1;exact⟨.str_list _ _ pl.isList bO,.str_list _ _ pl.isList bO,.str_list _ _ pl.isList bO⟩
  |tup x=>
   cases b with
   |tup y=>
    obtain⟨p,vs,rfl,z,w1⟩:=s1;obtain⟨p',vs',rfl,z',w2⟩:=s2;cases r1;cases r2;exact GU I hr bO z z' w1 w2 ih' e
   |aU=>obtain⟨p,us,rfl,pt⟩:=tup s1 r1;simp only[cj]at s2;subst s2;cases r2;cases e;exact⟨.tuple_none pt bO,.tuple_none pt bO,.tuple_none pt bO⟩
   |bl y=>obtain⟨p,us,rfl,pt⟩:=tup s1 r1;simp only[cj]at s2;subst s2;cases r2;cases e;exact⟨.tuple_bool _ pt bO,.tuple_bool _ pt bO,.tuple_bool _ pt bO⟩
   |int y=>obtain⟨p,us,rfl,pt⟩:=tup s1 r1;simp only[cj]at s2;subst s2;obtain⟨t,rfl⟩:=r2;cases e;exact⟨.tuple_int _ _ pt bO,.tuple_int _ _ pt bO,.tuple_int _ _ pt bO⟩
   |str y=>obtain⟨p,us,rfl,pt⟩:=tup s1 r1;simp only[cj]at s2;subst s2;obtain⟨t,rfl⟩:=r2;cases e;exact⟨.tuple_str _ _ pt bO,.tuple_str _ _ pt bO,.tuple_str _ _ pt bO⟩
   |ref m=>
    obtain⟨p,us,rfl,pt⟩:=tup s1 r1;obtain⟨ds,e1,rfl⟩:=Option.map_eq_some_iff.mp e;obtain⟨p',us',rfl,pl⟩:=lst s2 r2 e1;exact⟨.tuple_list pt pl.isList bO,.tuple_list pt pl.isList bO,.tuple_list pt pl.isList bO⟩
  |ref i=>
   cases b with
   |ref m=>
    replace e:Ev.jD h (Ev.gc h n) i m=some k:=e;unfold Ev.jD at e;split at e
    .rename_i UT;subst UT;simp only[vv]at e;obtain⟨ds,e1,rfl⟩:=e;obtain⟨p,us,rfl,pl⟩:=lst s1 r1 e1;obtain⟨p0,rfl,z⟩:=s1;obtain⟨p1,rfl,z'⟩:=s2;rw[z]at z';cases z';cases r1;cases r2;have q:(List.range (List.toArray us).size).all (λ_=>true)=true:=by simp
     have rc:=RcAt.lists (A:=A) (e:=λ_=>true) pl.isList pl.isList rfl bO λj _ _=>EqAt.same _;have ne:=RcNeAt.lists (A:=A) (e:=λ_=>true) pl.isList pl.isList rfl bO λj _ _=>EqAt.same _;rw[q]at rc ne;exact⟨.same _,rc,ne⟩
    .rename_i hne;obtain⟨p0,rfl,z⟩:=s1;obtain⟨p1,rfl,z'⟩:=s2;cases r1;cases r2;split at e
     .rename_i x y g1 g2;obtain⟨q0,q1,EX,q2,q3⟩:=hr.ob _ _ g1;obtain⟨q4,q5,EY,q6,q7⟩:=hr.ob _ _ g2;rw[z]at q1;cases q1;rw[z']at q5;cases q5;exact oO I bO (.of q2) (.of q6) q3 q7 (λw=>hne (hr.inj _ _ _ _ _ z (by rw[w];exact z') g1 g2)) ih' e
     .rename_i x y g1 g2;obtain⟨q0,q1,EX,q2,q3⟩:=hr.ob _ _ g1;obtain⟨q4,q5,EY,q6,q7⟩:=hr.ob _ _ g2;rw[z]at q1;cases q1;rw[z']at q5;cases q5;exact oO I bO (EZ q2) (.of q6) q3 q7 (nv I q2 q6) ih' e
     .rename_i x y g1 g2;obtain⟨q0,q1,EX,q2,q3⟩:=hr.ob _ _ g1;obtain⟨q4,q5,EY,q6,q7⟩:=hr.ob _ _ g2;rw[z]at q1;cases q1;rw[z']at q5;cases q5;exact oO I bO (.of q2) (EZ q6) q3 q7 (nv I q6 q2).symm ih' e
     .cases e
   |aU=>obtain⟨ds,e1,rfl⟩:=Option.map_eq_some_iff.mp e;obtain⟨p,us,rfl,pl⟩:=lst s1 r1 e1;simp only[cj]at s2;subst s2;cases r2;exact⟨.list_none pl.isList bO,.list_none pl.isList bO,.list_none pl.isList bO⟩
   |bl y=>obtain⟨ds,e1,rfl⟩:=Option.map_eq_some_iff.mp e;obtain⟨p,us,rfl,pl⟩:=lst s1 r1 e1;simp only[cj]at s2;subst s2;cases r2;exact⟨.list_bool _ pl.isList bO,.list_bool _ pl.isList bO,.list_bool _ pl.isList bO⟩
   |int y=>obtain⟨ds,e1,rfl⟩:=Option.map_eq_some_iff.mp e;obtain⟨p,us,rfl,pl⟩:=lst s1 r1 e1;simp only[cj]at s2;subst s2;obtain⟨t,rfl⟩:=r2;exact⟨.list_int _ _ pl.isList bO,.list_int _ _ pl.isList bO,.list_int _ _ pl.isList bO⟩
   |str y=>obtain⟨ds,e1,rfl⟩:=Option.map_eq_some_iff.mp e;obtain⟨p,us,rfl,pl⟩:=lst s1 r1 e1;simp only[cj]at s2;subst s2;obtain⟨t,rfl⟩:=r2;exact⟨.list_str _ _ pl.isList bO,.list_str _ _ pl.isList bO,.list_str _ _ pl.isList bO⟩
   |tup y=>
    obtain⟨ds,e1,rfl⟩:=Option.map_eq_some_iff.mp e;obtain⟨p,us,rfl,pl⟩:=lst s1 r1 e1;obtain⟨p',us',rfl,pt⟩:=tup s2 r2;exact⟨.list_tuple pl.isList pt bO,.list_tuple pl.isList pt bO,.list_tuple pl.isList pt bO⟩
where
 EZ {K:PySem.W.Frag} {H:Hp} {a:Addr} {vs:List V} (q:yy K H a vs):eU K H a vs:=by
  rcases q with ⟨ob,e2⟩|e2
  .exact .inl (.inr ⟨ob,e2⟩)
  .exact .inr e2
end
theorem Good.units{G:Tb}{n:Nat}{sc:Scope}{N:List Str}{df:Bool}{X:Cx}(g:Good G n sc N df X):X.A.units+1+Ev.deep<cLine:=by
 have:=g.room.un;have:Ev.deep=20:=rfl;omega
section
variable{G:Tb}{n:Nat}{sc:Scope}{N:List Str}{df:Bool}{X:Cx}
def qJ{pins:List (Addr×Obj)}{σ:L2.St}{H:Hp}{s:Shared}{Q:VK}{r:List Addr}{h:Hh}{k:Bool}(I:Inv X pins σ H s)(hr:HR X.K H r h)(q:Res X.K r H h (.bl k) Q):EP X pins σ Q (.bool k) s:=
 ⟨.bl k,H,I,rfl,q.here rfl hr⟩
def E2(g:Good G n sc N df X):dB X (compareOp .Eq) (g8 X.K (gA .eq)):=by
 intro pins s σ H x y v u Q I rx ry q;obtain⟨r,h,a,b,d,h',hr,v1,v2,e,q⟩:=q;obtain⟨k,e1,rfl,rfl⟩:=jw e;have:=g.units;exact(yI I hr Ev.deep X.A a b x y v u k (by omega) v1 v2 rx ry e1).rc _ _ _ _ (qJ I hr q)
def OR(g:Good G n sc N df X):dB X (compareOp .NotEq) (g8 X.K (gA .ne)):=by
 intro pins s σ H x y v u Q I rx ry q;obtain⟨r,h,a,b,d,h',hr,v1,v2,e,q⟩:=q;obtain⟨k,e1,rfl,rfl⟩:=jw e;have:=g.units
 delta Ev.cop at e1;dsimp only at e1;simp only[vv]at e1
 obtain⟨k',e2,rfl⟩:=e1;exact(yI I hr Ev.deep X.A a b x y v u k' (by omega) v1 v2 rx ry e2).ne _ _ _ _ (qJ I hr q)
def AG{op:CmpOp}{o:aZ}{p:Int->Int->Bool}(ho:dB X (compareOp op) (uc λi j=>.bl (p i j)))(hc:∀a b h k,Ev.cop o a b h=some k->∃i j,a=.int i/\b=.int j/\k=p i j):dB X (compareOp op) (g8 X.K (gA o)):=by
 intro pins s σ H x y v u Q I rx ry q;obtain⟨r,h,a,b,d,h',hr,v1,v2,e,q⟩:=q;obtain⟨k,e1,rfl,rfl⟩:=jw e;obtain⟨i,j,rfl,rfl,rfl⟩:=hc _ _ _ _ e1;exact ho pins s σ H x y v u Q I rx ry ⟨i,j,v1,v2,q.here rfl hr⟩
def OS:dB X (compareOp .Lt) (g8 X.K (gA .lt)):=AG Ou λa b h k e=>by
 cases a<;>cases b <;> (delta Ev.cop at e;dsimp only at e)<;>first | (cases e;exact⟨_,_,rfl,rfl,rfl⟩)|cases e
def E3:dB X (compareOp .Gt) (g8 X.K (gA .gt)):=AG Ov λa b h k e=>by
 cases a<;>cases b <;> (delta Ev.cop at e;dsimp only at e)<;>first | (cases e;exact⟨_,_,rfl,rfl,rfl⟩)|cases e
def GV:dB X (compareOp .IsNot) (g8 X.K (gA .j4)):=by
 intro pins s σ H x y v u Q I rx ry q;obtain⟨r,h,a,b,d,h',hr,v1,v2,e,q⟩:=q;obtain⟨k,e1,rfl,rfl⟩:=jw e;cases b with
 |aU=>
  refine Gn pins s σ H x y v u Q I rx ry ⟨v2,?_⟩;have:=v1.shape;cases a with
  |aU=>simp only[cj]at this;subst this;cases e1;exact q.here rfl hr
  |bl _=>simp only[cj]at this;subst this;cases e1;exact q.here rfl hr
  |int _=>simp only[cj]at this;subst this;cases e1;exact q.here rfl hr
  |str _=>simp only[cj]at this;subst this;cases e1;exact q.here rfl hr
  |ref _=>obtain⟨p,rfl,_⟩:=this;cases e1;exact q.here rfl hr
  |tup _=>obtain⟨p,_,rfl,_⟩:=this;cases e1;exact q.here rfl hr
 |_=>cases a<;>cases e1
end
theorem xg{h:Hh}{x:D}:∀{ys:List D}{k:Bool},Ev.mem h x ys=some k->∃e:Nat->Bool,(∀(j:Nat) y,ys[j]?=some y->Ev.gc h Ev.deep y x=some (e j))/\(List.range ys.length).any e=k
 |[],_,e=>⟨λ_=>true,(λj y h=>by simp at h),by cases e;simp⟩
 |y :: ys,k,e=>by
  simp only[Ev.mem,Yq,Ru]at e;obtain⟨p,e1,q,e2,e3⟩:=e;cases e3;obtain⟨e,h1,h2⟩:=xg e2;refine⟨λj=>match j with|0=>p|j+1=>e j,λj y' g=>?_,?_⟩
  .cases j with
   |zero=>simp at g;subst g;exact e1
   |succ j=>exact h1 j y' (by simpa using g)
  .rw[WY,YV,List.any_cons,List.any_map,<-h2];rfl
section
variable{X:Cx}{pins:List (Addr×Obj)}{σ:L2.St}{H:Hp}{s:Shared}{r:List Addr}{h:Hh}
open Classical in
def xj(I:Inv X pins σ H s)(hr:HR X.K H r h){A:Around}(hu:A.units+1+Ev.deep<cLine){x:D}{vx:V}{ux:Value}(v1:RV X.K H r x vx)(rx:RelV vx ux){ys:List D}{vs:List V}{us:List Value}(v2:aG X.K H r ys vs)(p2:Vals vs us){k:Bool}(e:Ev.mem h x ys=some k) :
  ∃f:Value->Bool,(∀y,y∈us.toArray->EqAt A.in1 s y ux (f y))/\us.toArray.any f=k:=by
 obtain⟨e',h1,h2⟩:=xg e;have l1:=v2.length;have l2:=p2.length;have at':∀(j:Nat) (hj:j<us.length),EqAt A.in1 s us[j] ux (e' j):=λj hj=>by
  have ha:ys[j]?=some ys[j]:=MZ (by omega);obtain⟨va,a1,a2⟩:=v2.get ha;obtain⟨u,a3,a4⟩:=p2.get a1;have eu:us[j]=u:=(List.getElem?_eq_some_iff.mp a3).2;rw[eu];exact(yI I hr Ev.deep A.in1 _ _ _ _ _ _ _ (by show A.units+1+Ev.deep<cLine;exact hu) a2 v1 a4 rx (h1 j _ ha)).eq
 refine⟨λy=>decide (∃j,∃hj:j<us.length,us[j]=y/\e' j=true),λy hy=>?_,?_⟩
 .by_cases hx:∃j,∃hj:j<us.length,us[j]=y/\e' j=true
  .obtain⟨j,hj,rfl,ej⟩:=hx;have q:=at' j hj;rw[ej]at q;have:decide (∃j',∃hj':j'<us.length,us[j']=us[j]/\e' j'=true)=true:=XE ⟨j,hj,rfl,ej⟩;show EqAt A.in1 s us[j] ux (decide (∃j',∃hj':j'<us.length,us[j']=us[j]/\e' j'=true));rw[this];exact q
  .show EqAt A.in1 s y ux (decide (∃j',∃hj':j'<us.length,us[j']=y/\e' j'=true));rw[W3 hx];have hy':y∈us:=by simpa using hy
   obtain⟨j,hj,rfl⟩:=List.getElem_of_mem hy';have q:=at' j hj;have:e' j=false:=by
    cases z:e' j with
    |false=>rfl
    |true=>exact absurd ⟨j,hj,rfl,z⟩ hx
   rw[this]at q;exact q
 .rw[<-h2,Bool.eq_iff_iff,Array.any_eq_true',List.any_eq_true];constructor
  .rintro⟨y,hy,hd⟩;obtain⟨j,hj,_,ej⟩:=Xh hd;exact⟨j,List.mem_range.mpr (by omega),ej⟩
  .rintro⟨j,hj,ej⟩;have hj':j<us.length:=by have:=List.mem_range.mp hj;omega
   exact⟨us[j],by simp,XE ⟨j,hj',rfl,ej⟩⟩
end
section
variable{G:Tb}{n:Nat}{sc:Scope}{N:List Str}{df:Bool}{X:Cx}
def in_of(g:Good G n sc N df X){pins:List (Addr×Obj)}{σ:L2.St}{H:Hp}{s:Shared}{r:List Addr}{h:Hh}(I:Inv X pins σ H s)(hr:HR X.K H r h){a b:D}{x y:V}{v u:Value}{k:Bool}(v1:RV X.K H r a x)(v2:RV X.K H r b y)(rx:RelV x v)(ry:RelV y u)(e:Ev.isin a b h=some k) :
  (∀Q:Value->Shared->Prop,∀E:Value->Shared->Prop,Q (.bool k) s->wpAny (model X.prog X.w) X.A (compareOp .In v u) Q E s)/\(∀Q:Value->Shared->Prop,∀E:Value->Shared->Prop,Q (.bool (!k)) s->wpAny (model X.prog X.w) X.A (compareOp .NotIn v u) Q E s):=by
 have hu:=g.units;cases b with
 |str l=>
  cases a with
  |str c=>
   have s1:=v1.shape;have s2:=v2.shape;simp only[cj]at s1 s2;subst s1 s2;obtain⟨t,rfl⟩:=rx;obtain⟨t',rfl⟩:=ry
   match c,e with
   |[c],e=>
    cases e;have q:(!(Builtin.Str.occurrences (aV l) (aV [c]) 0 (aV l).length 1).isEmpty)=l.contains c:=by
     have:=PySem.StrLaws.found_one (aV l) c;rw[show(aV [c])=⟨#[c]⟩from rfl,this,Bool.eq_iff_iff];have e1:l.contains c=true↔c∈l:=by simp
     rw[e1];exact⟨λz=>by simpa[aV]using Xh z,λz=>XE (by simpa[aV]using z)⟩
    refine⟨λQ E hq=>in_str (by rw[q];exact hq),λQ E hq=>notIn_str (by rw[q];exact hq)⟩
   |[],e=>cases e
   |_ :: _ :: _,e=>cases e
  |_=>cases e
 |tup ys=>
  obtain⟨p,vs,rfl,z,w⟩:=v2.shape;cases ry;obtain⟨us,pv,pt,_⟩:=I.tuple z;obtain⟨f,f1,f2⟩:=xj I hr hu v1 rx w pv e;refine⟨λQ E hq=>in_tupleAt f pt f1 (by rw[f2];exact hq),λQ E hq=>notIn_tupleAt f pt f1 (by rw[f2];exact hq)⟩
 |ref i=>
  simp only[Ev.isin,Ru]at e;obtain⟨ds,e1,e2⟩:=e;obtain⟨p,rfl,z⟩:=v2.shape;cases ry;obtain⟨p',vs,z',q1,w⟩:=hr.read e1;rw[z]at z';cases z';obtain⟨us,pv,pl,_⟩:=I.list q1;obtain⟨f,f1,f2⟩:=xj I hr hu v1 rx w pv e2;refine⟨λQ E hq=>in_listAt f pl.isList f1 (by rw[f2];exact hq),λQ E hq=>notIn_listAt f pl.isList f1 (by rw[f2];exact hq)⟩
 |_=>cases e
def CM(g:Good G n sc N df X):dB X (compareOp .NotIn) (g8 X.K (gA .gp)):=by
 intro pins s σ H x y v u Q I rx ry q;obtain⟨r,h,a,b,d,h',hr,v1,v2,e,q⟩:=q;obtain⟨k,e1,rfl,rfl⟩:=jw e;have e2:(Ev.isin a b h').map (!·)=some k:=by cases a<;>cases b<;>exact e1
 simp only[vv]at e2;obtain⟨k',e3,rfl⟩:=e2;exact(in_of g I hr v1 v2 rx ry e3).2 _ _ (qJ I hr q)
def qK(a b:List Nat):aV a++aV b=aV (a++b):=by
 show Str.append (aV a) (aV b)=_;simp[Str.append,aV]
def GW{pins:List (Addr×Obj)}{σ:L2.St}{H:Hp}{s:Shared}{Q:Value->Shared->Prop}{E:Value->Shared->Prop}(I:Inv X pins σ H s){a b:Addr}{ys:List V}(h1:dz X.K H a [])(h2:dz X.K H b ys)(q:Q (.ref b) s):wpAny (model X.prog X.w) X.A (binaryOp .Add (.ref a) (.ref b)) Q E s:=by
 obtain⟨us,p1,UU,_⟩:=I.tuple h1;obtain⟨zs,p2,UW,_⟩:=I.tuple h2;cases p1;obtain⟨⟨cls,dd,data,sl⟩,ho,hc,n,hd⟩:=id UU;obtain⟨⟨Sv,dd2,data2,sl2⟩,ho2,hc2,n2,hd2⟩:=id UW;simp only at hc hd hc2 hd2;subst hc hd hc2 hd2;exact concat_meets ⟨_,ho,rfl⟩ ⟨_,ho2,rfl⟩ Zz Z8 YU YN (YJ _ _)
  (tuple_addW0 a b _ _ n n2 dd dd2 sl sl2 (by simp)) ⟨ho,ho2,q⟩
def KQ:dB X (binaryOp .Add) (g8 X.K (Ev.bN .add)):=by
 intro pins s σ H x y v u Q I rx ry q;obtain⟨r,h,a,b,d,h',hr,v1,v2,e,q⟩:=q;have s1:=v1.shape;have s2:=v2.shape;cases a with
 |int i=>cases b with
  |int j=>cases e;exact Jt pins s σ H x y v u Q I rx ry ⟨i,j,s1,s2,q.here rfl hr⟩
  |_=>cases e
 |str i=>cases b with
  |str j=>
   delta Ev.bN at e;dsimp only at e
   split at e
   .rename_i hz;cases e;rw[jE]at hz;refine ym pins s σ H x y v u Q I rx ry ⟨aV i,aV j,s1,s2,by rw[cO,cO];exact hz,?_⟩;rw[qK];exact q.here ⟨rfl,by rw[WN];exact hz⟩ hr
   .cases e
  |_=>cases e
 |tup i=>cases b with
  |tup j=>
   delta Ev.bN at e;dsimp only at e
   split at e
   .rename_i hz;cases e;rw[jE]at hz;obtain⟨pa,vs,rfl,z1,w1⟩:=s1;obtain⟨pb,ws,rfl,z2,w2⟩:=s2;have l1:=w1.length;have l2:=w2.length;cases vs with
    |nil=>
     cases rx;cases ry;refine GW I z1 z2 ⟨.ref pb,H,I,rfl,q.here ?_ hr⟩;have:i=[]:=by cases i with|nil=>rfl|cons _ _=>simp at l1
     subst this;exact⟨pb,ws,rfl,z2,by simpa using w2⟩
    |cons v0 vs=>
     refine Gx pins s σ H _ _ v u Q I rx ry ⟨pa,pb,v0 :: vs,ws,rfl,rfl,z1,z2,by simp,by rw[l1,l2];exact hz,λhw=>?_,λhw p hp=>?_⟩
     .subst hw;have:j=[]:=by cases j with|nil=>rfl|cons _ _=>simp at l2
      subst this;exact q.here ⟨pa,v0 :: vs,rfl,z1,by simpa using w1⟩ hr
     .exact q.tup (w1.append w2) hr hp
   .cases e
  |_=>cases e
 |ref i=>cases b with
  |ref j=>
   delta Ev.bN at e;dsimp only at e
   split at e
   .rename_i ds es e1 e2;obtain⟨pa,rfl,z1⟩:=s1;obtain⟨pb,rfl,z2⟩:=s2;cases rx;cases ry;obtain⟨p1,g1,vs,g2,g3⟩:=hr.ob _ _ e1;obtain⟨p2,k1,ws,k2,k3⟩:=hr.ob _ _ e2;rw[z1]at g1;cases g1;rw[z2]at k1;cases k1;obtain⟨hz,q2⟩:=q.lst e (g3.append k3) hr;exact JU pins s σ H (.ref pa) (.ref pb) _ _ Q I rfl rfl ⟨_,_,vs,ws,rfl,rfl,g2,k2,by rw[WN]at hz;exact hz,q2⟩
   .cases e
  |_=>cases e
 |_=>cases b<;>cases e
def KR:dB X (binaryOp .Sub) (g8 X.K (Ev.bN .sub)):=by
 intro pins s σ H x y v u Q I rx ry q;obtain⟨r,h,a,b,d,h',hr,v1,v2,e,q⟩:=q;cases a with
 |int i=>cases b with
  |int j=>cases e;exact Ju pins s σ H x y v u Q I rx ry ⟨i,j,v1,v2,q.here rfl hr⟩
  |_=>cases e
 |_=>cases b<;>cases e
def GX:dB X (binaryOp .FloorDiv) (g8 X.K (Ev.bN .fdiv)):=by
 intro pins s σ H x y v u Q I rx ry q;obtain⟨r,h,a,b,d,h',hr,v1,v2,e,q⟩:=q;cases a with
 |int i=>cases b with
  |int j=>
   delta Ev.bN at e;dsimp only at e
   split at e
   .rename_i hz;cases e;exact Gm pins s σ H x y v u Q I rx ry ⟨i,j,v1,v2,hz,q.here rfl hr⟩
   .cases e
  |_=>cases e
 |_=>cases b<;>cases e
def KS:dB X (binaryOp .Mod) (g8 X.K (Ev.bN .mod)):=by
 intro pins s σ H x y v u Q I rx ry q;obtain⟨r,h,a,b,d,h',hr,v1,v2,e,q⟩:=q;cases a with
 |int i=>cases b with
  |int j=>
   delta Ev.bN at e;dsimp only at e
   split at e
   .rename_i hz;cases e;exact Jw pins s σ H x y v u Q I rx ry ⟨i,j,v1,v2,hz,q.here rfl hr⟩
   .cases e
  |_=>cases e
 |_=>cases b<;>cases e
end
section
variable{X:Cx}
def KU(n:Nat)(i:Int):Ev.cY n i=L2.cY n i:=rfl
def KW{α:Type}(xs:List α)(i:Int):Ev.bu xs i=L2.bu xs i:=rfl
theorem aG.bu{K:PySem.W.Frag}{H:Hp}{r:List Addr}{ds:List D}{vs:List V}{i:Int}{d:D}(w:aG K H r ds vs)(e:Ev.bu ds i=some d):∃v,L2.bu vs i=some v/\RV K H r d v:=by
 unfold Ev.bu at e;obtain⟨j,e1,e2⟩:=Option.bind_eq_some_iff.mp e;obtain⟨v,e3,e4⟩:=w.get e2;exact⟨v,by unfold L2.bu;rw[w.length,<-KU,e1];exact e3,e4⟩
def OT:wK X (g8 X.K Kl):=by
 intro value slice pins s σ H x y v u Q I rx ry q hs;obtain⟨r,h,a,b,d,h',hr,v1,v2,e,q⟩:=q;obtain⟨e,rfl⟩:=Ev.aO e;cases b with
 |int i=>
  have s2:=v2.shape;cases a with
  |tup ds=>
   obtain⟨p,vs,rfl,z,w⟩:=v1.shape;obtain⟨v',g1,g2⟩:=w.bu e;exact JM value slice pins s σ H _ y v u Q I rx ry ⟨p,vs,i,v',rfl,s2,z,g1,q.here g2 hr⟩ hs
  |str l=>
   simp only[RV]at v1;obtain⟨rfl,hl⟩:=v1;simp only[Ev.dg,vv]at e;obtain⟨c,e1,rfl⟩:=e;exact JN value slice pins s σ H _ y v u Q I rx ry ⟨aV l,i,c,rfl,s2,by rw[cO];exact hl,by simpa[aV,KW]using e1,q.here ⟨rfl,by show 1<=sizeLine;decide⟩ hr⟩ hs
  |ref m=>
   simp only[Ev.dg,Ru]at e;obtain⟨ds,e1,e2⟩:=e;obtain⟨p,rfl,z⟩:=v1.shape;obtain⟨p',vs,z',q1,w⟩:=hr.read e1;rw[z]at z';cases z';obtain⟨v',g1,g2⟩:=w.bu e2;exact Gz value slice pins s σ H _ y v u Q I rx ry ⟨p,vs,i,v',rfl,s2,q1,g1,q.here g2 hr⟩ hs
  |_=>cases e
 |_=>cases a<;>cases e
theorem aG.cut{K:PySem.W.Frag}{H:Hp}{r:List Addr}{ds:List D}{vs:List V}(w:aG K H r ds vs)(lo hi:Option Int):aG K H r (Ev.cut ds lo hi) (mC vs lo hi):=by
 unfold Ev.cut mC;rw[w.length];exact(w.drop _).take _
def sD{α:Type}(xs:List α)(lo hi:Option Int)(h:Ev.aK xs.length 0 lo=0/\Ev.aK xs.length xs.length hi=xs.length):Ev.cut xs lo hi=xs:=by
 unfold Ev.cut;rw[h.1,h.2];simp
def GY{α:Type}(xs:List α)(lo hi:Option Int):(Ev.cut xs lo hi).length<=xs.length:=by
 unfold Ev.cut;rw[Yn,Yx];omega
def sV{prog:Program}{w:World}{A:Around}{E:Value->Shared->Prop}{s:Shared}{t sl:Addr}{items:Array Value}{vl vu:Value}{lo hi:Option Int}{Q:Value->Shared->Prop}(ht:IsTup s.heap t items)(hs:s.heap.IsSliceOf sl vl vu .none)(pl:IsPart vl lo)(pu:IsPart vu hi)
  (hw:HT.aK items.size 0 lo=0/\HT.aK items.size items.size hi=items.size) (h:Q (.ref t) s):wpAny (model prog w) A (getItem (.ref t) (.ref sl)) Q E s:=by
 obtain⟨os,hos,hcs,hds⟩:=id hs;have JK:s.TypeIs (.ref sl) "slice" :=⟨os,hos,hcs⟩
 unfold getItem;try with_reducible refine X3 ?_
 first|refine fS (gV ?_)|skip
 refine fS (wpAny_sequenceKey ht.typeIs (by decide) ?_);refine fS (Xl (name:=Str.ofString "__getitem__") ht.typeIs XR
  (Xf XR ht.typeIs entry_tuple_getitem ?_ (args_tuple_getitem _ _)))
 show wpAny _ _ (Builtin.Tuple.tupleItemsOf (.ref t) >>= _) _ _ s;refine fS (tupleItemsOf_ ht ?_);refine fS (Yk JK ?_);rw[xV (by decide)];refine fS (HT.jC hs pl pu ?_);have hyes:(((HT.aK items.size 0 lo:Nat):Int)==0&&(1:Int)==1&&(HT.aK items.size items.size hi - HT.aK items.size 0 lo)==items.size)=true:=by
  rw[hw.1,hw.2];simp
 show wpAny _ _ (if (((HT.aK items.size 0 lo:Nat):Int)==0&&(1:Int)==1&&(HT.aK items.size items.size hi - HT.aK items.size 0 lo)==items.size)=true then _ else _) _ _ s;rw[xV hyes];refine fS (m:=Builtin.Tuple.tupleIsExact (.ref t)) (fS (Yk ht.typeIs (gV ?_)));show wpAny _ _ (if ((Value.type "tuple" ==Value.type "tuple")=true)then _ else _) _ _ s;rw[xV (by decide)];exact fS (YK (fS (gV (gV ⟨_,rfl,gV h⟩))))
def AH(lo hi:Option Int)(n:Nat):Builtin.Str.strSliceIndices lo hi 1 n=(List.range (Ev.aK n n hi - Ev.aK n 0 lo)).map (λk=>Ev.aK n 0 lo+k):=by
 have KY:∀o:Option Int,((match o with|none=>(0:Int)|some i=>max 0 (min (if i<0 then i+(n:Int)else i) (n:Int))))=((Ev.aK n 0 o:Nat):Int):=λo=>by
  cases o with
  |none=>rfl
  |some i=>simp only[Ev.aK];split<;>omega
 have KZ:∀o:Option Int,((match o with|none=>(n:Int)|some i=>max 0 (min (if i<0 then i+(n:Int)else i) (n:Int))))=((Ev.aK n n o:Nat):Int):=λo=>by
  cases o with
  |none=>rfl
  |some i=>simp only[Ev.aK];split<;>omega
 have e:Builtin.Str.strSliceIndices lo hi 1 n=sliceRange (match lo with|none=>(0:Int)|some i=>max 0 (min (if i<0 then i+(n:Int)else i) (n:Int))) (match hi with|none=>(n:Int)|some i=>max 0 (min (if i<0 then i+(n:Int)else i) (n:Int))) 1:=by
  unfold Builtin.Str.strSliceIndices;cases lo<;>cases hi<;>simp
 rw[e,KY,KZ,sliceRange_one]
def K0(l:List Nat)(lo hi:Option Int):((Builtin.Str.strSliceIndices lo hi 1 (aV l).length).filterMap ((aV l).cps[·]?)).toArray=(Ev.cut l lo hi).toArray:=by
 rw[cO,AH,pick_run];simp[aV,Ev.cut]
def K1:kj X (J3 X.K):=by
 intro pins s σ H x v vl vu lo hi sl Q I rx hs pl pu q;obtain⟨r,h,a,d,h',hr,v1,e,q⟩:=q;cases a with
 |tup ds=>
  cases e;obtain⟨p,vs,rfl,z,w⟩:=v1.shape;by_cases hw:HT.aK vs.length 0 lo=0/\HT.aK vs.length vs.length hi=vs.length
  .cases rx;obtain⟨us,pv,pt,hz⟩:=I.tuple z;have hl:=pv.length;have UX:Ev.aK ds.length 0 lo=0/\Ev.aK ds.length ds.length hi=ds.length:=by rw[<-w.length];exact hw
   refine⟨"tuple",_,PyProof.Rows.slot_tuple_getitem.lookup,pt.typeIs,?_⟩;refine sV pt hs pl pu (by rw[MM,<-hl];exact hw) ⟨.ref p,H,I,rfl,q.here ?_ hr⟩;rw[sD ds lo hi UX];exact⟨p,vs,rfl,z,w⟩
  .exact JL pins s σ H _ v vl vu lo hi sl Q I rx hs pl pu ⟨p,vs,rfl,z,hw,λp' hp=>q.tup (w.cut lo hi) hr hp⟩
 |str l=>
  simp only[RV]at v1;obtain⟨rfl,hl⟩:=v1;obtain⟨t,rfl⟩:=rx;cases e;refine⟨"str",_,PySem.F.slot_str_getitem.lookup,typeIs_str s _ t,?_⟩;have part:∀{v:Value} {o:Option Int},IsPart v o->∃p:Option (Int×Tok),v=partValue p/\p.map (·.1)=o:=λ{v o} hp=>by
   cases hp with
   |none=>exact⟨none,rfl,rfl⟩
   |int i t=>exact⟨some (i,t),rfl,rfl⟩
  obtain⟨l1,e1,e2⟩:=part pl;obtain⟨u1,e3,e4⟩:=part pu;subst e1 e3;obtain⟨os,hos,hcs,hds⟩:=hs;refine wpAny_getItem_str_slice (l:=l1) (u:=u1) (st:=none) ⟨os,hos,hcs,hds⟩ rfl ?_;have E4:((slicePicked (aV l) l1 u1 none).filterMap ((aV l).cps[·]?)).toArray=(Ev.cut l lo hi).toArray:=by
   show((Builtin.Str.strSliceIndices (l1.map (·.1)) (u1.map (·.1)) 1 (aV l).length).filterMap ((aV l).cps[·]?)).toArray=_;rw[e2,e4];exact K0 l lo hi
  have hcl:=GY l lo hi;unfold sliceMade;refine post_val_or_made (λ_=>?_) λt' k=>?_
  .rw[E4];show(Ev.cut l lo hi).toArray.size<=sizeLine;simp only[MM];omega
  .have hres:(if (((none:Option (Int×Tok)).map (·.1)).getD 1==1&&(slicePicked (aV l) l1 u1 none).length==(aV l).length)=true then aV l else (⟨((slicePicked (aV l) l1 u1 none).filterMap ((aV l).cps[·]?)).toArray⟩:Str))=aV (Ev.cut l lo hi):=by
    split
    .rename_i hc;rw[Vp]at hc;have hlen:(slicePicked (aV l) l1 u1 none).length=(aV l).length:=eq_of_beq hc.2;have hlen2:(slicePicked (aV l) l1 u1 none).length=Ev.aK l.length l.length hi - Ev.aK l.length 0 lo:=by
      show(Builtin.Str.strSliceIndices (l1.map (·.1)) (u1.map (·.1)) 1 (aV l).length).length=_;rw[e2,e4,AH,cO];simp
     rw[cO]at hlen;have hb:Ev.aK l.length l.length hi<=l.length:=HT.ue _ _ (qh _) hi;have ha:Ev.aK l.length 0 lo<=l.length:=HT.ue _ _ (Xd _) lo;rw[sD l lo hi ⟨by omega,by omega⟩]
    .rw[E4];rfl
   rw[hres];exact⟨.str (aV (Ev.cut l lo hi)),H,I.tok _,⟨_,rfl⟩,q.here ⟨rfl,by omega⟩ hr⟩
 |ref m=>
  simp only[Ev.gf]at e;split at e
  .rename_i ds e1;obtain⟨p,rfl,z⟩:=v1.shape;obtain⟨p',vs,z',q1,w⟩:=hr.read e1;rw[z]at z';cases z';obtain⟨hz,q2⟩:=q.lst e (w.cut lo hi) hr;exact GA pins s σ H _ v vl vu lo hi sl Q I rx hs pl pu ⟨p,vs,rfl,q1,q2⟩
  .cases e
 |_=>cases e
theorem uC:∀(k:Nat) (l:List Nat) (acc:List Nat),(List.replicate k l.toArray).foldl (·++·) acc.toArray=(acc++Ev.rep k l).toArray
 |0,l,acc=>by simp[Ev.rep]
 |k+1,l,acc=>by
  rw[Tv,Xm];have:acc.toArray++l.toArray=(acc++l).toArray:=by simp
  rw[this,uC k l (acc++l)];simp[Ev.rep,Tv]
def ny{α:Type}(k:Nat)(l:List α):(Ev.rep k l).length=k*l.length:=by
 unfold Ev.rep;exact len_rep l k
def GZ{l:List Nat}{k:Int}(h:0<=k):Txt.mul (aV l) k=aV (Ev.rep k.toNat l):=by
 unfold Txt.mul;by_cases h1:k<1
 .have:k=0:=by omega
  subst this;rw[xV (by decide)];rfl
 .rw[WQ h1];split
  .rename_i hc;rw[XW]at hc;rcases hc with hc|hc
   .have:k=1:=by simpa using hc
    subst this;simp[Ev.rep]
   .rw[cO]at hc;have:l=[]:=by cases l with|nil=>rfl|cons _ _=>simp at hc
    subst this;simp[Ev.rep,aV]
  .show(⟨(List.replicate k.toNat (aV l).cps).foldl (·++·) #[]⟩:Str)=_;have:=uC k.toNat l [];simp only[XU]at this;exact WT Str.mk this
def jQ{a b:Nat}(h1:a<=1000)(h2:b<=1000):a*b<=sizeLine:=WV (Nat.mul_le_mul h1 h2) (by decide)
def G0{pins:List (Addr×Obj)}{σ:L2.St}{H:Hp}{s:Shared}{Q:VK}(I:Inv X pins σ H s){l:List Nat}{k:Int}{t u:Tok}(hk:0<=k/\k<=1000/\l.length<=1000)(q:Q (.str (aV (Ev.rep k.toNat l))) H) :
  wpAny (model X.prog X.w) X.A (binaryOp .Mult (.str (aV l) t) (.int k u)) (EP X pins σ Q) X.xe s:=by
 have hok:MulOk (aV l) k:=mulOk_of 1000 1000 (by rw[cO];exact hk.2.2) (by exact hk.2.1) (by omega) (by decide) (by decide);refine SB.mul hok λt' k'=>?_;rw[GZ hk.1];exact⟨.str _,H,I.tok _,⟨_,rfl⟩,q⟩
def oQ:fillsNumberSlot (.type "tuple") "mul" = pure false:=
 PySem.fillsNumberSlot_seq (id:="tuple.__mul__") (r:=some (.builtin "tuple.__rmul__")) PySem.F.slot_tuple_mul.lookup (by decide +kernel) PySem.F.slot_tuple_rmul.lookup (by decide +kernel)
def uD:seqRepeat? (.type "tuple")=pure (some (.builtin "tuple.__mul__")):=by
 unfold seqRepeat?;rw[PySem.seqSlot_of (T:="tuple") (name:="__mul__") (id:="tuple.__mul__") PySem.F.slot_tuple_mul.lookup (by decide +kernel),PySem.seqSlot_of (T:="tuple") (name:="__rmul__") (id:="tuple.__rmul__") PySem.F.slot_tuple_rmul.lookup (by decide +kernel)];rfl
def yJ(a:Int)(t:Tok)(l:Addr)(items:Array Value)(n:Nat)(dd:Option Addr)(sl:Array (Option Value)) :
  Meets (Builtin.«int.__rmul__» ⟨[.int a t,.ref l],[]⟩) (λ_ R s=>s.heap.get? l=some { cls:=.type "tuple",dict:=dd,data:=.seq items n,slots:=sl }/\R (.ok (.ret Value.notImplemented)) s):=
 .of_wp λprog w A R s h=>by obtain⟨hp,g,d,tk,os⟩:=s;obtain⟨hl,h⟩:=h;wp_walk;exact⟨_,rfl,h⟩
def yK(l:Addr)(items:Array Value)(n:Nat)(dd:Option Addr)(sl:Array (Option Value))(k:Int)(u:Tok)(h1:¬ (decide (k < -2 ^ 63) ||decide (k≥2 ^ 63))=true)(h3:(items.isEmpty ||k==1)=true) :
  Meets (Builtin.«tuple.__mul__» ⟨[.ref l,.int k u],[]⟩) (λ_ R s=>s.heap.get? l=some { cls:=.type "tuple",dict:=dd,data:=.seq items n,slots:=sl }/\R (.ok (.ret (.ref l))) s):=
 .of_wp λprog w A R s h=>by obtain⟨hp,g,d,tk,os⟩:=s;obtain⟨hl,h⟩:=h;have f1:=ZD;wp_walk using Xr hl;rw[WQ h1];wp_walk using Xr hl;exact⟨_,rfl,h⟩
def yL(l:Addr)(items:Array Value)(n:Nat)(dd:Option Addr)(sl:Array (Option Value))(k:Int)(u:Tok)(h1:¬ (decide (k < -2 ^ 63) ||decide (k≥2 ^ 63))=true)(h3:¬ (items.isEmpty ||k==1)=true)(h4:(decide (k<=0) ||items.isEmpty)=true) :
  Meets (Builtin.«tuple.__mul__» ⟨[.ref l,.int k u],[]⟩) (λ_ R s=>s.heap.get? l=some { cls:=.type "tuple",dict:=dd,data:=.seq items n,slots:=sl }/\R (.ok (.ret (Value.ref s.heap.objs.size))) { s with heap:=s.heap.push { cls:=Value.type "tuple",data:=Data.seq #[]},toks:=s.toks }):=
 .of_wp λprog w A R s h=>by obtain⟨hp,g,d,tk,os⟩:=s;obtain⟨hl,h⟩:=h;have f1:=ZD;wp_walk using Xr hl;rw[WQ h1];wp_walk using Xr hl;exact⟨_,rfl,h⟩
def yN(l:Addr)(items:Array Value)(n:Nat)(dd:Option Addr)(sl:Array (Option Value))(k:Int)(u:Tok)(h1:¬ (decide (k < -2 ^ 63) ||decide (k≥2 ^ 63))=true)(h3:¬ (items.isEmpty ||k==1)=true)(h4:¬ (decide (k<=0) ||items.isEmpty)=true)
  (h5:¬ (items.size*k > (2 ^ 63 - 1) / 8)) (h6:¬ Builtin.Tuple.tupleTooMany (items.size*k)=true) (hsz:(List.foldl (λx1 x2=>x1++x2) #[] (List.replicate k.toNat items)).size<=sizeLine) :
  Meets (Builtin.«tuple.__mul__» ⟨[.ref l,.int k u],[]⟩) (λ_ R s=>s.heap.get? l=some { cls:=.type "tuple",dict:=dd,data:=.seq items n,slots:=sl }/\R (.ok (.ret (Value.ref s.heap.objs.size))) { s with heap:=s.heap.push { cls:=Value.type "tuple",data:=Data.seq (List.foldl (λx1 x2=>x1++x2) #[] (List.replicate k.toNat items))},toks:=s.toks }):=
 .of_wp λprog w A R s h=>by obtain⟨hp,g,d,tk,os⟩:=s;obtain⟨hl,h⟩:=h;have f1:=ZD;wp_walk using Xr hl;rw[WQ h1];wp_walk using Xr hl;rw[WQ h5];wp_walk using Xr hl;exact⟨_,rfl,h⟩
theorem sE:∀(k:Nat) (l acc:List Value),(List.replicate k l.toArray).foldl (·++·) acc.toArray=(acc++Ev.rep k l).toArray
 |0,l,acc=>by simp[Ev.rep]
 |k+1,l,acc=>by
  rw[Tv,Xm];have:acc.toArray++l.toArray=(acc++l).toArray:=by simp
  rw[this,sE k l (acc++l)];simp[Ev.rep,Tv]
def G1{pins:List (Addr×Obj)}{σ:L2.St}{H:Hp}{s:Shared}{Q:VK}(I:Inv X pins σ H s){p:Addr}{vs:List V}{k:Int}{u:Tok}(hk:0<=k/\k<=1000/\vs.length<=1000)(hp:dz X.K H p vs)
  (q1:Ev.rep k.toNat vs=vs->Q (.ref p) H) (q2:∀p',H p'=none->Q (.ref p') (upd H p' (.tup (Ev.rep k.toNat vs)))) :
  wpAny (model X.prog X.w) X.A (binaryOp .Mult (.ref p) (.int k u)) (EP X pins σ Q) X.xe s:=by
 obtain⟨us,pv,pt,hz⟩:=I.tuple hp;obtain⟨⟨cls,dd,data,sl⟩,ho,hc,n,hd⟩:=id pt;simp only at hc hd;subst hc hd;have hl:=pv.length;have h1:¬ (decide (k < -2 ^ 63) ||decide (k≥2 ^ 63))=true:=by simp;omega
 refine Zt (T:="tuple") (U:="int") (by decide) ⟨_,ho,rfl⟩ (λs'=>Zs s' k u) oQ PySem.F.fills_int_mul ZX uD PySem.F.slot_int_index.lookup
  (Yr ZX (Zs s k u) PySem.F.entry_int_rmul (PySem.F.args_int_rmul_2 _ _) (yJ k u p us.toArray n dd sl) ⟨ho,rfl,⟨_,ho,rfl⟩,?_⟩)
 have hrep:∀m:Nat,(Ev.rep m us).length=m*us.length:=λm=>ny m us;by_cases h3:(us.toArray.isEmpty ||k==1)=true
 .refine Yr YT ⟨_,ho,rfl⟩ YM (YI _ _) (yK p us.toArray n dd sl k u h1 h3) ⟨ho,?_⟩;refine⟨.ref p,H,I,rfl,q1 ?_⟩;rw[XW]at h3;rcases h3 with h3|h3
  .have:us=[]:=by simpa using h3
   subst this;cases pv;simp[Ev.rep]
  .have:k=1:=by simpa using h3
   subst this;simp[Ev.rep]
 .have laid:∀m:Nat,m=k.toNat->EP X pins σ Q (.ref s.heap.objs.size) { s with heap:=s.heap.push { cls:=.type "tuple",data:=.seq (Ev.rep m us).toArray }}:=λm hm=>by
   subst hm;refine⟨.ref s.heap.objs.size,_,I.laid (t':=s.toks) (o:=.tup (Ev.rep k.toNat vs)) (λb ob q=>lM _ q) (qh _) ?_,rfl,q2 _ (I.hok.fresh (qh _))⟩;exact⟨by rw[ny];exact jQ (by omega) hk.2.2,_,pv.rep k.toNat,ZL _ _⟩
  by_cases h4:(decide (k<=0) ||us.toArray.isEmpty)=true
  .refine Yr YT ⟨_,ho,rfl⟩ YM (YI _ _) (yL p us.toArray n dd sl k u h1 h3 h4) ⟨ho,?_⟩;have hk0:k=0:=by
    rw[XW]at h4 h3;rcases h4 with h4|h4
    .have:k<=0:=Xh h4;omega
    .exact absurd (.inl h4) h3
   have:=laid 0 (by rw[hk0];rfl);exact this
  .have hm:us.toArray.size*k.toNat<=1000000:=by
    rw[MM];exact Nat.mul_le_mul (by omega:us.length<=1000) (by omega:k.toNat<=1000)
   have hm':(us.toArray.size:Int)*k<=1000000:=by
    have e:(us.toArray.size:Int)*k=((us.toArray.size*k.toNat:Nat):Int):=by
     rw[Int.natCast_mul,Int.toNat_of_nonneg hk.1]
    rw[e];omega
   have hf:List.foldl (λx1 x2=>x1++x2) #[] (List.replicate k.toNat us.toArray)=(Ev.rep k.toNat us).toArray:=by
    have:=sE k.toNat us [];simpa using this
   refine Yr YT ⟨_,ho,rfl⟩ YM (YI _ _) (yN p us.toArray n dd sl k u h1 h3 h4 (by omega) ?_ ?_) ⟨ho,?_⟩
   .unfold Builtin.Tuple.tupleTooMany;simp only[XZ];have:(sizeLine:Int)=16777216:=by rw[Yi];rfl
    omega
   .rw[hf];simp only[MM];rw[ny];exact jQ (by omega) (by omega)
   .rw[hf];exact laid _ rfl
def K2:dB X (binaryOp .Mult) (g8 X.K (Ev.bN .mul)):=by
 intro pins s σ H x y v u Q I rx ry q;obtain⟨r,h,a,b,d,h',hr,v1,v2,e,q⟩:=q;cases b with
 |int k=>
  have s2:=v2.shape;simp only[cj]at s2;subst s2;cases a with
  |int i=>
   delta Ev.bN at e;dsimp only at e
   split at e
   .rename_i hz;cases e;refine Jv pins s σ H x _ v u Q I rx ry ⟨i,k,v1,rfl,?_,q.here rfl hr⟩;unfold Ev.bL at hz;simp only[XW,Vp,XZ]at hz;exact hz
   .cases e
  |str l=>
   delta Ev.bN at e;dsimp only at e
   split at e
   .rename_i hz;cases e;simp only[RV]at v1;obtain⟨rfl,hl⟩:=v1;obtain⟨t,rfl⟩:=rx;obtain⟨t',rfl⟩:=ry;exact G0 I hz (q.here ⟨rfl,by rw[ny];exact jQ (by omega) hz.2.2⟩ hr)
   .cases e
  |tup ds=>
   delta Ev.bN at e;dsimp only at e
   split at e
   .rename_i hz;cases e;obtain⟨p,vs,rfl,z,w⟩:=v1.shape;cases rx;obtain⟨t',rfl⟩:=ry;refine G1 I ⟨hz.1,hz.2.1,by rw[w.length];exact hz.2.2⟩ z (λUY=>q.here ⟨p,vs,rfl,z,?_⟩ hr) λp' hp=>q.tup (w.rep k.toNat) hr hp;have:=w.rep k.toNat;rw[UY]at this;exact this
   .cases e
  |ref i=>
   delta Ev.bN at e;dsimp only at e
   split at e
   .rename_i ds e1;split at e
    .rename_i hz;obtain⟨p,rfl,z⟩:=v1.shape;obtain⟨p',g1,vs,g2,g3⟩:=hr.ob _ _ e1;rw[z]at g1;cases g1;obtain⟨hz2,q2⟩:=q.lst e (g3.rep k.toNat) hr;exact JV pins s σ H (.ref p) _ v u Q I rx ry ⟨p,k,vs,rfl,rfl,g2,by omega,by omega,jQ (by rw[g3.length];exact hz.2.2) (by omega),q2⟩
    .cases e
   .cases e
  |_=>cases e
 |_=>cases a<;>cases e
end
section
variable{X:Cx}
theorem nA{K:PySem.W.Frag}{H:Hp}{r:List Addr}:∀{ds:List D}{is:List Int}{vs:List V}{us:List Value},Ev.intsOf ds=some is->aG K H r ds vs->Vals vs us->IntsAre us is
 |[],bs,vs,us,e,w,p=>by
  cases e;simp only[aG]at w;subst w;cases p;exact .nil
 |d :: ds,bs,vs,us,e,w,p=>by
  cases d with
  |int b=>
   simp only[Ev.intsOf,vv]at e;obtain⟨bs',e1,rfl⟩:=e;simp only[aG,RV]at w;obtain⟨v,w',rfl,rfl,w2⟩:=w;cases p with
   |cons p1 p2=>
    obtain⟨t,rfl⟩:=p1;exact .cons _ _ (nA e1 w2 p2)
  |_=>cases e
theorem xm{K:PySem.W.Frag}{H:Hp}{r:List Addr}:∀{ds:List D}{ss:List (List Nat)}{vs:List V}{us:List Value},Ev.strsOf ds=some ss->aG K H r ds vs->Vals vs us->StrsAre us (ss.map aV)/\∀l∈ss,l.length<=sizeLine
 |[],bs,vs,us,e,w,p=>by
  cases e;simp only[aG]at w;subst w;cases p;exact⟨.nil,λl h=>nomatch h⟩
 |d :: ds,bs,vs,us,e,w,p=>by
  cases d with
  |str b=>
   simp only[Ev.strsOf,vv]at e;obtain⟨bs',e1,rfl⟩:=e;simp only[aG,RV]at w;obtain⟨v,w',rfl,⟨rfl,hb⟩,w2⟩:=w;cases p with
   |cons p1 p2=>
    obtain⟨t,rfl⟩:=p1;obtain⟨g1,g2⟩:=xm e1 w2 p2;refine⟨.cons _ _ g1,λl hl=>?_⟩;rcases List.mem_cons.mp hl with z|z
    .subst z;exact hb
    .exact g2 l z
  |_=>cases e
variable{G:Tb}{n:Nat}{sc:Scope}{N:List Str}{df:Bool}
def K3 (g:Good G n sc N df X):gn X (.builtin "sum") (uo X.K (Ev.cK .sum)):=by
 intro pins s σ H xs us Q I r q;obtain⟨rr,h,as,d,h',hr,v1,e,q⟩:=q
 match as,e with
 |[.ref m],e=>
  obtain⟨e,rfl⟩:=Ev.aO e;simp only[vv,Ru]at e;obtain⟨is,⟨ds,e1,e2⟩,rfl⟩:=e;simp only[aG,RV]at v1;obtain⟨v,w,rfl,⟨p,rfl,z⟩,rfl⟩:=v1;obtain⟨u,rfl,ru⟩:=vals1 r;cases ru;obtain⟨p',vs,z',q1,w⟩:=hr.read e1;rw[z]at z';cases z';obtain⟨zs,pv,pl,_⟩:=I.list q1;have hi:=nA e2 w pv;obtain⟨ys,hys⟩:=(hi.allInts).items;have hl:s.heap.IsList p (intItems ys):=by rw[<-hys];exact pl.isList
  refine sum_intListG (I.ok.hd g.calm) hl λh'' tk t' hk=>?_;have hsum:preSum (numAt ys) ys.size=is.sum:=by
   have h1:numsOf zs.toArray.toList=is:=by rw[show zs.toArray.toList=zs from rfl];exact hi.numsOf
   rw[hys,nums_intItems]at h1;rw[preSum_eq,Xp (by simp),h1]
  rw[hsum];exact⟨.int is.sum,H,I.kept hk,⟨_,rfl⟩,q.here rfl hr⟩
def K4:gn X (.builtin "len") (uo X.K (Ev.cK .len)):=by
 intro pins s σ H xs us Q I r q;obtain⟨rr,h,as,d,h',hr,v1,e,q⟩:=q
 match as,e with
 |[.str l],e=>
  delta Ev.cK at e;dsimp only at e
  split at e
  .cases e;simp only[aG,RV]at v1;obtain⟨v,w,rfl,⟨rfl,hl⟩,rfl⟩:=v1;refine ug pins s σ H _ us Q I r ⟨_,rfl,by rw[cO];exact hl,?_⟩;rw[cO];exact q.here rfl hr
  .cases e
 |[.tup ds],e=>
  cases e;simp only[aG,RV]at v1;obtain⟨v,w,rfl,⟨p,vs,rfl,z,w'⟩,rfl⟩:=v1;refine mD pins s σ H _ us Q I r ⟨p,vs,rfl,.inr z,?_⟩;rw[w'.length];exact q.here rfl hr
 |[.ref m],e=>
  obtain⟨e,rfl⟩:=Ev.aO e;simp only[vv]at e;obtain⟨ds,e1,rfl⟩:=e;simp only[aG,RV]at v1;obtain⟨v,w,rfl,⟨p,rfl,z⟩,rfl⟩:=v1;obtain⟨p',vs,z',q1,w⟩:=hr.read e1;rw[z]at z';cases z';refine mD pins s σ H _ us Q I r ⟨p,vs,rfl,.inl q1,?_⟩;rw[w.length];exact q.here rfl hr
def K5 (g:Good G n sc N df X):gn X (.builtin "min") (uo X.K (Ev.cK .min)):=by
 intro pins s σ H xs us Q I r q;obtain⟨rr,h,as,d,h',hr,v1,e,q⟩:=q
 match as,e with
 |[.int i,.int j],e=>
  cases e;simp only[aG,RV]at v1;obtain⟨v,w,rfl,rfl,v',w',rfl,rfl,rfl⟩:=v1;exact z9 g.calm pins s σ H _ us Q I r ⟨i,j,rfl,q.here rfl hr⟩
def AI:rT X "list.append" (uq X.K (Ev.eV .append)):=by
 intro pins s σ H x xs v us Q I rx rs q;obtain⟨r,h,a,as,d,h',hr,v1,v2,e,q⟩:=q;cases a with
 |ref m=>
  match as,e with
  |[b],e=>
   delta Ev.eV at e;dsimp only at e
   split at e
   .rename_i ds e1;split at e
    .rename_i hz;cases e;rw[jE]at hz;obtain⟨p,rfl,z⟩:=v1.shape;simp only[aG]at v2;obtain⟨y,w,rfl,v3,rfl⟩:=v2;obtain⟨p',g1,vs,g2,g3⟩:=hr.ob _ _ e1;rw[z]at g1;cases g1;refine rW pins s σ H _ _ v us Q I rx rs ⟨p,vs,y,rfl,rfl,g2,by rw[g3.length];exact hz,?_⟩;have f:=Fm.write (K:=X.K) (ws:=vs++[y]) g2 (W2 z);exact q _ _ r rfl (hr.write e1 z g2 (g3.append (.cons v3 .nil))) f
    .cases e
   .cases e
  |[],e=>cases e
  |_ :: _ :: _,e=>cases e
 |_=>cases e
def AJ:rT X "list.extend" (uq X.K (Ev.eV .extend)):=by
 intro pins s σ H x xs v us Q I rx rs q;obtain⟨r,h,a,as,d,h',hr,v1,v2,e,q⟩:=q;cases a with
 |ref m=>
  match as,e with
  |[.ref k],e=>
   delta Ev.eV at e;dsimp only at e
   split at e
   .rename_i ds es e1 e2;split at e
    .rename_i hz;cases e;rw[jE]at hz;obtain⟨p,rfl,z⟩:=v1.shape;simp only[aG,RV]at v2;obtain⟨y,w,rfl,⟨p2,rfl,z2⟩,rfl⟩:=v2;obtain⟨p',g1,vs,g2,g3⟩:=hr.ob _ _ e1;rw[z]at g1;cases g1;obtain⟨p'',k1,ws,k2,k3⟩:=hr.ob _ _ e2;rw[z2]at k1;cases k1;refine Af pins s σ H _ _ v us Q I rx rs ⟨p,p2,vs,ws,rfl,rfl,g2,k2,by rw[g3.length,k3.length];exact hz,?_⟩;have f:=Fm.write (K:=X.K) (ws:=vs++ws) g2 (W2 z);exact q _ _ r rfl (hr.write e1 z g2 (g3.append k3)) f
    .cases e
   .cases e
 |_=>cases e
def K6:rT X "list.pop" (uq X.K (Ev.eV .pop)):=by
 intro pins s σ H x xs v us Q I rx rs q;obtain⟨r,h,a,as,d,h',hr,v1,v2,e,q⟩:=q;cases a with
 |ref m=>
  match as,e with
  |[],e=>
   delta Ev.eV at e;dsimp only at e
   split at e
   .rename_i ds e1;split at e
    .rename_i y e2;cases e;obtain⟨p,rfl,z⟩:=v1.shape;simp only[aG]at v2;subst v2;obtain⟨p',g1,vs,g2,g3⟩:=hr.ob _ _ e1;rw[z]at g1;cases g1;obtain⟨vy,g4,g5⟩:=g3.get e2;refine JR pins s σ H _ _ v us Q I rx rs ⟨p,vs,vy,rfl,rfl,g2,by rw[g3.length];exact g4,?_⟩;have f:=Fm.write (K:=X.K) (ws:=vs.dropLast) g2 (W2 z);have hd:aG X.K H r ds.dropLast vs.dropLast:=by
      rw[Yw,Yw,g3.length];exact g3.take _
     exact q _ _ r (g5.mono f) (hr.write e1 z g2 hd) f
    .cases e
   .cases e
  |_ :: _,e=>cases e
 |_=>cases e
theorem oR(sep:List Nat):∀ss:List (List Nat),Str.join (aV sep) (ss.map aV)=aV (Ev.bU sep ss)
 |[]=>rfl
 |[s]=>rfl
 |s :: t :: r=>by
  have ih:=oR sep (t :: r);show aV s++aV sep++Str.join (aV sep) ((t :: r).map aV)=_;rw[ih,qK,qK];rfl
def join_eq(sep:List Nat)(ss:List (List Nat)):Txt.join (aV sep) (ss.map aV)=aV (Ev.bU sep ss):=by
 rw[<-oR];exact PySem.StrLaws.glued_eq_join _ _
def G2:rT X "str.join" (uq X.K (Ev.eV .join)):=by
 intro pins s σ H x xs v us Q I rx rs q;obtain⟨r,h,a,as,d,h',hr,v1,v2,e,q⟩:=q;cases a with
 |str sep=>
  match as,e with
  |[.ref k],e=>
   delta Ev.eV at e;dsimp only at e
   split at e
   .rename_i ss e1;split at e
    .rename_i hz;cases e;simp only[Ru]at e1;obtain⟨ds,e1,e2⟩:=e1;simp only[RV]at v1;obtain⟨rfl,hl⟩:=v1;obtain⟨t,rfl⟩:=rx;simp only[aG,RV]at v2;obtain⟨y,w,rfl,⟨p2,rfl,z2⟩,rfl⟩:=v2;obtain⟨u,rfl,ru⟩:=vals1 rs;cases ru;obtain⟨p',vs,z',q1,w⟩:=hr.read e1;rw[z2]at z';cases z';obtain⟨zs,pv,pl,_⟩:=I.list q1;obtain⟨g1,g2⟩:=xm e2 w pv;have hlen:((ss.map aV).map (·.length)).sum+(ss.map aV).length*(aV sep).length<=16777216:=by
      rw[XS,W6,cO];have:(λx:Str=>x.length) ∘ aV=λl:List Nat=>l.length:=funext λl=>cO l;rw[this];exact hz
     refine join_list pl.isList g1 hlen λt' k'=>?_;rw[join_eq];refine⟨.str _,H,I.tok _,⟨_,rfl⟩,q.here ⟨rfl,?_⟩ hr⟩;have hj:=PySem.StrLaws.join_length_le (aV sep) (ss.map aV);rw[oR,cO]at hj;have:sizeLine=16777216:=Yi;omega
    .cases e
   .cases e
 |_=>cases e
end
section
variable{a:E}
theorem Vals.reverse{vs:List V}{us:List Value}(w:Vals vs us):Vals vs.reverse us.reverse:=by
 induction w with
 |nil=>exact .nil
 |cons a _ ih=>rw[Xk,Xk];exact ih.append (.cons a .nil)
end
section
variable{G:Tb}{n:Nat}{sc:Scope}{N:List Str}{df:Bool}{m:List Nat}{a c:E}{xa:Expr}{pos:Pos}
def CN (g:Good G n sc N df X):gn X (.type "tuple") (λxs H Q=>∃r h d x d' h',HR X.K H r h/\RV X.K H r d x/\xs=[x]/\Ev.qB d h=.ok d' h'/\Res X.K r H h' d' Q):=by
 intro pins s σ H xs us Q I rv q;obtain⟨r,h,d,x,d',h',hr,v1,rfl,e,q⟩:=q;cases d with
 |tup ds=>
  cases e;have v2:=v1;obtain⟨p,vs,rfl,z,w⟩:=v1.shape;exact lT pins s σ H _ us Q I rv ⟨p,vs,rfl,.inr ⟨z,q.here v2 hr⟩⟩
 |ref i=>
  simp only[Ev.qB]at e;split at e
  .rename_i ds e1;split at e
   .cases e;obtain⟨p,rfl,z⟩:=v1.shape;obtain⟨p',vs,z',q1,w⟩:=hr.read e1;rw[z]at z';cases z';exact lT pins s σ H _ us Q I rv ⟨p,vs,rfl,.inl ⟨q1,λl hl=>q.tup w hr hl⟩⟩
   .cases e
  .cases e
 |_=>cases e
def K7 {p:Pos}(ha:JE G n sc N df m a xa) (h1:("tuple" : Str)∈G.bl:=by decide +kernel) (uE:sc.names.lookup ("tuple" : Str)=some .globalImplicit:=by rfl)
  (hst:∀env:Env,starEach [xa] env=[(false,eval xa env)]:=by intro _;rfl):JE G n sc N df m (.gZ a) (.Call (.Name "tuple" p) [xa] [] pos):=λX g=>by
 refine PE.of (Ac (CN g) (g.gl uE) (g.bl _ h1) (by decide +kernel) (kh (ha X g) mz (hst _)) (by decide) (by decide) (hst _) rfl) λs H Q q=>?_;obtain⟨r,fr,h,d,h',sr,hr,e,q⟩:=q;simp only[Ev.ev]at e;obtain⟨x,h3,e1,e⟩:=Ev.ah e;refine⟨r,fr,h,x,_,sr,hr,e1,λv H1 r1 v1 hr1 f1=>?_⟩;exact⟨r1,h3,x,v,d,h',hr1,v1,rfl,e,q.later f1⟩
def K8{c:Nat}{st:Stmt}:JS G n sc N df m (.fy c) st:=λX g=>PS.of Cf λQ s H q=>by
 obtain⟨r,fr,h,fl,aj,h',sr,hr,e,q⟩:=q;simp only[Ev.ex]at e;cases e
end
noncomputable def qL:List (D×D)->Bool
 |[]=>true
 | (.str k,.str v) :: r=>decide (v.length<=1000)&&qL r
 |_=>false
theorem uF{s:List Nat}{r:D}:∀{kvs:List (D×D)},qL kvs=true->Ev.eF (.str s) kvs=some r->∃t,r=.str t/\t.length<=1000/\PySem.Spec.lookup (.str (aV s)) (tabOf kvs)=some (.str (aV t))
 |[],_,e=>by simp[Ev.eF]at e
 | (k,v) :: l,ha,e=>by
  cases k<;>cases v<;>simp only[qL,W4,Vp,XZ]at ha
  rename_i k v;simp only[Ev.eF]at e;rw[show Ev.gc [] 1 (.str k) (.str s)=some (k==s)from rfl]at e;simp only[tabOf,PySem.Spec.lookup];by_cases h:k=s
  .subst h;simp at e;subst e;refine⟨v,rfl,ha.1,?_⟩;have:PySem.Spec.same (.str (aV k)) (.str (aV k))=true:=by rw[aai];simp
   rw[this];rfl
  .have hb:(k==s)=false:=by simpa using h
   rw[hb]at e;simp only at e;obtain⟨t,h1,h2,h3⟩:=uF ha.2 e;refine⟨t,h1,h2,?_⟩;have:PySem.Spec.same (.str (aV k)) (.str (aV s))=false:=by
    rw[aai];simp;exact λz=>h (qC z)
   rw[this];exact h3
theorem uG{y r:D}:∀{kvs:List (D×D)},qL kvs=true->Ev.eF y kvs=some r->∃s,y=.str s
 |[],_,e=>by simp[Ev.eF]at e
 | (k,v) :: l,ha,e=>by
  cases k<;>cases v<;>simp only[qL,W4,Vp,XZ]at ha
  cases y with
  |str s=>exact⟨s,rfl⟩
  |ref a=>cases e
  |_=>first|exact uG ha.2 e|cases e
section
variable{G:Tb}{n:Nat}{sc:Scope}{N:List Str}{df:Bool}{m:List Nat}{a:E}{xa:Expr}{pos:Pos}
def G3 {x:Str}{kvs:List (D×D)}{p:Pos}(hm:(x,kvs)∈G.dk) (ha:JE G n sc N df m a xa) (hk:qL kvs=true:=by decide) (hg:sc.names.lookup x=some .globalImplicit:=by rfl) (hd:(x==("__debug__" : Str))=false:=by decide) (hs:qz xa:=by intro _ _;rfl) :
  JE G n sc N df m (.je kvs a) (.Subscript (.Name x p) xa pos):=λX g=>by
 intro pins s σ H Q I q;obtain⟨r,fr,h,d,h',sr,hr,e,q⟩:=q;simp only[Ev.ev]at e;replace e:=Ev.ah e;obtain⟨y,h1,e1,e⟩:=e;replace e:=Ev.aO e;obtain⟨e,y0⟩:=e;subst y0;obtain⟨ad,hmg,htab⟩:=g.dk x kvs hm;refine Subscript_ (yk (Gg (v:=.ref ad) (g.gl hg) hmg rfl hd) (ha X g) I (R:=λx' y' H2=>x'=.ref ad/\∃r1,RV X.K H2 r1 y y'/\HR X.K H2 r1 h'/\Fm X.K r r1 H H2) ?_ λv u s2 x' y' H2 I2 rx ry z=>?_)
 .refine⟨r,fr,h,y,h',sr,hr,e1,λv H1 r1 v1 hr1 f1=>⟨rfl,r1,v1,hr1,f1⟩⟩
 .obtain⟨rfl,r1,v1,hr1,f1⟩:=z;obtain rfl:v=Value.ref ad:=rx;have hy:∃sx,y=.str sx:=uG hk e;obtain⟨sx,rfl⟩:=hy;obtain⟨t,rfl,ht,hl⟩:=uF hk e;simp only[RV]at v1;obtain⟨rfl,_⟩:=v1;obtain⟨tk,rfl⟩:=ry;refine item_strTab (htab s2.heap I2.rK) hl (λv hv=>?_) (hs _ _);obtain⟨t2,rfl⟩:=PyProof.V.Flat.str_inv hv;exact⟨.str (aV t),H2,I2.tok _,⟨t2,rfl⟩,q _ H2 r1 ⟨rfl,WV ht (by rw[Yi];decide)⟩ hr1 f1⟩
end
end Sm
namespace Rv
open PySem PyProof.Rows
def mH:Manifest.owners.lookup (String.ofList ['d','e','s','r','e','v','e','r'].reverse)=some Manifest.sig_reversed:=by kernel_rfl
def slot_next:Slot "reversed" "__next__" "reversed.__next__" :=
 .of (owner:="reversed") (n:="__next__") (by rw[Xy,Xb];kernel_rfl) (by decide +kernel) (by decide +kernel) (by decide +kernel)
  (by first|exact .inl (by decide +kernel)|exact .inr (by decide +kernel)) (by rw[XM];kernel_rfl)
def entry_next:entryFor table "reversed.__next__" = some Builtin.«reversed.__next__»:=ZA (by kernel_rfl)
def args_next (a:Value):argsOk "reversed.__next__" ⟨[a],[]⟩:=by
 unfold argsOk;rw[Z7 (id:="reversed.__next__") (n:=['_','_','t','x','e','n','_','_']) (o:=['d','e','s','r','e','v','e','r']) (by kernel_rfl) mH];kernel_rfl
def sF:Slot "reversed" "__iter__" "reversed.__iter__" :=
 .of (owner:="reversed") (n:="__iter__") (by rw[Xy,Xb];kernel_rfl) (by decide +kernel) (by decide +kernel) (by decide +kernel)
  (by first|exact .inl (by decide +kernel)|exact .inr (by decide +kernel)) (by rw[XM];kernel_rfl)
def AK (a:Value):argsOk "reversed.__iter__" ⟨[a],[]⟩:=by
 unfold argsOk;rw[Z7 (id:="reversed.__iter__") (n:=['_','_','r','e','t','i','_','_']) (o:=['d','e','s','r','e','v','e','r']) (by kernel_rfl) mH];kernel_rfl
def yO:entryFor table "reversed.__iter__" = some Builtin.«dict_keyiterator.__iter__»:=
 ZU (id':="dict_keyiterator.__iter__") (by kernel_rfl) (by first|rfl|decide +kernel | (unfold String.splitOn;simp +decide [String.splitOnAux])) (by decide +kernel) (by kernel_rfl)
def mJ:Slot "reversed" "__length_hint__" "reversed.__length_hint__" :=
 .of (owner:="reversed") (n:="__length_hint__") (by rw[Xy,Xb];kernel_rfl) (by decide +kernel) (by decide +kernel) (by decide +kernel)
  (by first|exact .inl (by decide +kernel)|exact .inr (by decide +kernel)) (by rw[XM];kernel_rfl)
def yP:entryFor table "reversed.__length_hint__" = some Builtin.«reversed.__length_hint__»:=ZA (by kernel_rfl)
def AL (a:Value):argsOk "reversed.__length_hint__" ⟨[a],[]⟩:=by
 unfold argsOk;rw[Z7 (id:="reversed.__length_hint__") (n:=['_','_','t','n','i','h','_','h','t','g','n','e','l','_','_']) (o:=['d','e','s','r','e','v','e','r']) (by kernel_rfl) mH];kernel_rfl
def K9:typeLookup (.type "reversed") "__len__" = pure none:=by rw[Xy,Xb];kernel_rfl
def La:typeLookup (.type "tuple") "__reversed__" = pure none:=by rw[Xy,Xb];kernel_rfl
section
variable{prog:Program}{w:World}{A:Around}{E:Value->Shared->Prop}{s:Shared}
def AM:Slot "reversed" "__init__" "object.__init__" :=
 .of (owner:="object") (n:="__init__") (by rw[Xy,Xb];kernel_rfl) (by decide +kernel) (by decide +kernel) (by decide +kernel)
  (by first|exact .inl (by decide +kernel)|exact .inr (by decide +kernel)) (by rw[XM];kernel_rfl)
def called:TypeCalled "reversed" "reversed.__new__" "object.__init__" :=
 ⟨by decide +kernel,by decide +kernel,⟨_,_,F.mro_reversed⟩,F.made_reversed,by decide +kernel,F.sub_reversed_self,AM⟩
noncomputable def fZ (h:Heap) (a t:Addr) (i:Int):Prop:=∃o,h.get? a=some o/\o.cls=.type "reversed" /\o.data=.fields #[.ref t,rawInt i]
def fZ.typeIs {a l:Addr}{i:Int}(x:fZ s.heap a l i):s.TypeIs (.ref a) "reversed" :=let ⟨o,ho,hc,_⟩:=x;⟨o,ho,hc⟩
def fZ.at{h h':Heap}{a l:Addr}{i:Int}(x:fZ h a l i)(e:∀o,h.get? a=some o->h'.get? a=some o):fZ h' a l i:=let ⟨o,ho,r⟩:=x;⟨o,e _ ho,r⟩
noncomputable def nB (l:Addr) (i:Int):Obj:={ cls:=.type "reversed",data:=.fields #[.ref l,rawInt i]}
def nC{h h':Heap}{t:Addr}{items:Array Value}(x:IsTup h t items)(e:∀o,h.get? t=some o->h'.get? t=some o):IsTup h' t items:=let ⟨o,ho,r⟩:=x;⟨o,e _ ho,r⟩
def CO{t:Addr}{items:Array Value}{Q₁:Value->Shared->Prop}(ht:IsTup s.heap t items)(hfit:(items.size:Int)<2 ^ 63)
  (h:Q₁ (.ref s.heap.objs.size) { s with heap:=s.heap.push (nB t ((items.size:Int) - 1)),toks:=s.toks+1+1 }) :
  codeAny (model prog w) A (.call (.builtin "reversed.__new__") ⟨[.type "reversed",.ref t],[]⟩) (wants Q₁ E) s:=by
 refine Y5 ?_;show wpAny _ A.in1 (do checkBuiltinCall "reversed.__new__" ⟨[.type "reversed",.ref t],[]⟩;again (.builtin "reversed.__new__" ⟨[.type "reversed",.ref t],[]⟩)) _ _ s;refine fS (XG (F.newCall_reversed_1 _) (gV ⟨XD F.plain_reversed_new _,Xz F.entry_reversed_new ?_⟩));rw[Xo F.plain_reversed_new _];unfold Builtin.«reversed.__new__»;refine fS (XG (newClass_reversed _) ?_);try dsimp only
 refine fS (XG (a:=()) (by first|rfl|kernel_rfl) ?_);refine fS (XG (a:=()) (by first|rfl|kernel_rfl) ?_);try dsimp only
 refine fS (XT ht.typeIs La ?_);try dsimp only
 refine fS ?_
 wp_delta
 refine fS (Yl (T:="tuple") (b:=false) ht.typeIs (by rw[XM];kernel_rfl) ?_);refine W5 (λhab=>absurd hab (by decide)) (λ_=>?_);refine fS (XT ht.typeIs slot_tuple_getitem.lookup ?_);try dsimp only
 refine W5 (λ_=>?_) (λhab=>absurd (by decide) hab);refine gV ?_;refine W5 (λhab=>absurd hab (by decide)) (λ_=>?_);refine fS (len_tuple ht hfit ?_);refine fS (m:=asInt? _) (gV ?_);try dsimp only
 refine fS (m:=Builtin.SmallTypes.newRecord _ _) ?_;unfold Builtin.SmallTypes.newRecord;refine W7 ?_ (by size_fits);exact gV h
def CP{t:Addr}{items:Array Value}{Q:Value->Shared->Prop}(ht:IsTup s.heap t items)(hfit:(items.size:Int)<2 ^ 63)
  (h:Q (.ref s.heap.objs.size) { s with heap:=s.heap.push (nB t ((items.size:Int) - 1)),toks:=s.toks+1+1 }):wpAny (model prog w) A (call (.type "reversed") [.ref t]) Q E s:=by
 refine ZV (Q₁:=λobj s₁=>obj=.ref s.heap.objs.size/\s₁={ s with heap:=s.heap.push (nB t ((items.size:Int) - 1)),toks:=s.toks+1+1 }) called (F.typeCall_reversed_1 _) F.entry_object_init (CO ht hfit ⟨rfl,rfl⟩) ?_;rintro obj s₁ ⟨rfl,rfl⟩;have hT:({ s with heap:=s.heap.push (nB t ((items.size:Int) - 1)),toks:=s.toks+1+1 }:Shared).TypeIs (.ref s.heap.objs.size) "reversed" :=⟨_,WM _ rfl,rfl⟩
 refine⟨hT,F.args_object_init_2 _ _,?_⟩;exact object_init_meets (self:=Value.ref s.heap.objs.size) (rest:=[Value.ref t]) called.init.lookup called.made (by decide) prog w A.in1 _ _ ⟨hT,rfl,h⟩
def next_item{it t:Addr}{i:Nat}{items:Array Value}{x:Value}{Q:Option Value->Shared->Prop}(hit:fZ s.heap it t (i:Int))(ht:IsTup s.heap t items)(hx:items[i]?=some x)(hfit:(items.size:Int)<2 ^ 62)
  (hQ:∀h' tk,fZ h' it t ((i:Int) - 1)->Heap.SameBut it s.heap h'->Q (some x) { s with heap:=h',toks:=tk }):wpAny (model prog w) A (pyNext (.ref it)) Q E s:=by
 obtain⟨o,ho,hc,hd⟩:=id hit;have hi:i<items.size:=(Array.getElem?_eq_some_iff.mp hx).1;unfold pyNext;refine fS (Yg (Xl (name:=Str.ofString "__next__") hit.typeIs slot_next
  (Xf slot_next hit.typeIs entry_next ?_ (args_next _))))
 unfold Builtin.«reversed.__next__»;refine fS (XG (a:=(Value.ref it,[])) rfl ?_);try dsimp only
 refine fS (X8 ho hd (x:=.ref t) rfl ?_);refine fS (X8 ho hd (x:=rawInt (i:Int)) rfl ?_);show wpAny _ _ (if (i:Int)<0 then _ else _) _ _ s;rw[WQ (by omega)];try dsimp only
 refine fS (XT ht.typeIs slot_tuple_getitem.lookup ?_);try dsimp only
 refine W5 (λhab=>absurd hab (by decide)) (λ_=>?_);refine fS (wpAny_mkInt ?_);refine fS (Yg (getItem_tuple (j:=i) ht (by omega) (by omega) (by unfold seqIndex?;simp;omega) hx ?_));try dsimp only
 refine fS (X8 ho hd (x:=rawInt (i:Int)) rfl ?_);show wpAny _ _ (setField (.ref it) 1 (rawInt ((i:Int) - 1)) >>= _) _ _ _;refine fS (XJ ho hd (by simp) ?_);refine gV ⟨x,rfl,gV (hQ _ _ ?_ (Xe ..))⟩;exact⟨_,WZ _ ho (ZY (YF hd _)),(Obj.cls_mapFields ..).trans hc,by
  rw[YF hd];simp⟩
def next_end{it t:Addr}{Q:Option Value->Shared->Prop}(hh:A.handled=none)(hit:fZ s.heap it t (-1))
  (hQ:∀h',Heap.ExtBut it s.heap h'->Q none { s with heap:=h' }):wpAny (model prog w) A (pyNext (.ref it)) Q E s:=by
 obtain⟨o,ho,hc,hd⟩:=id hit;unfold pyNext;refine fS (Yg (Xl (name:=Str.ofString "__next__") hit.typeIs slot_next
  (Xf slot_next hit.typeIs entry_next ?_ (args_next _))))
 unfold Builtin.«reversed.__next__»;refine fS (XG (a:=(Value.ref it,[])) rfl ?_);try dsimp only
 refine fS (X8 ho hd (x:=.ref t) rfl ?_);refine fS (X8 ho hd (x:=rawInt (-1)) rfl ?_);show wpAny _ _ (if (-1:Int)<0 then _ else _) _ _ s;rw[xV (by decide)];refine fS (YK ?_);refine fS ?_
 wp_delta
 refine fS (XJ ho hd (by simp) ?_);have ho2:=WZ (Obj.mapFields λx=>x.setIfInBounds 1 (rawInt (-1))) ho (ZY (YF hd _));refine XJ ho2 (YF hd _) (by simp) ?_;refine fS ?_;unfold Builtin.SmallTypes.stopIteration;first
 |show wpAny _ _ (newExc (.type "StopIteration") [] >>= _) _ _ _
 | (refine fS ?_;show wpAny _ _ (newExc (.type "StopIteration") [] >>= _) _ _ _)
 refine fS ?_;simp only[newExc,newTuple];refine fS (W7 ?_ (by size_fits));refine fS (m:=firstArgMember _ _) (XG (a:=Value.none) (by first|rfl | (simp only[firstArgMember];rfl)) ?_);refine W7 ?_ (by size_fits);simp only[raiseNew];refine fS (wpAny_handled ?_);first|rw[show A.in1.handled=none from hh]|rw[hh]
 refine fS (gV (wpAny_throw ?_));refine fS (Yl (T:="StopIteration") (b:=true) ⟨_,WM _ rfl,rfl⟩ isSubtype_stop ?_);exact gV (hQ _ ((((Xe ..).extBut.trans (Xe ..).extBut).push _).push _))
def uH{it t:Addr}{i:Int}{Q:Value->Shared->Prop}(hit:fZ s.heap it t i)(h:Q (.ref it) s):wpAny (model prog w) A (pyIter (.ref it)) Q E s:=by
 refine Zn hit.typeIs sF (Xf sF hit.typeIs yO ?_ (AK _));show wpAny _ _ (ret (.ref it)) _ _ s;exact gV ⟨_,rfl,"reversed",_,hit.typeIs,slot_next.lookup,h⟩
def CQ{it t:Addr}{items:Array Value}{Q:Bool->Shared->Prop}(hit:fZ s.heap it t ((items.size:Int) - 1))(ht:IsTup s.heap t items)(hfit:items.size<=sizeLine)
  (h:∀tk,Q ((items.size:Int) != 0) { s with toks:=tk }):wpAny (model prog w) A (Builtin.List.listLengthHint (.ref it)) Q E s:=by
 obtain⟨o,ho,hc,hd⟩:=id hit;unfold Builtin.List.listLengthHint;refine fS (XT hit.typeIs K9 ?_);refine W5 (λhab=>absurd hab (by decide +kernel)) (λ_=>?_);refine W5 (λhab=>absurd hab (by decide)) (λ_=>?_);refine fS (XT hit.typeIs mJ.lookup ?_);generalize hid:("reversed.__length_hint__" : String)=Lb
 dsimp only;rw[show splitId Lb=some ("reversed","__length_hint__")from by subst hid;decide +kernel];subst hid;dsimp only;refine fS (Yl (T:="reversed") (b:=true) hit.typeIs (by rw[XM];kernel_rfl) ?_);refine W5 (λhab=>absurd hab (by decide)) (λ_=>?_);refine W5 (λhab=>absurd hab (by decide +kernel)) (λ_=>?_);refine fS (YK ?_);refine fS (XG (mJ.bind _) ?_);refine fS (Yg (Xf mJ hit.typeIs yP ?_ (AL _)));unfold Builtin.«reversed.__length_hint__»;refine fS (XG (a:=Value.ref it) rfl ?_);refine fS (X8 ho hd (x:=.ref t) rfl ?_);refine W5 (λhab=>absurd hab Xv) (λ_=>?_);have hf2:(items.size:Int)<2 ^ 63:=by rw[Yi]at hfit;omega
 refine fS (len_tuple ht hf2 ?_);refine fS (m:=asInt? _) (gV ?_);refine fS (X8 ho hd (x:=rawInt ((items.size:Int) - 1)) rfl ?_);show wpAny _ _ (if (items.size:Int)<(items.size:Int) - 1+1 then _ else _) _ _ _;rw[WQ (by omega)];have e1:(items.size:Int) - 1+1=(items.size:Int):=by omega
 rw[e1];unfold retInt;refine fS (wpAny_mkInt (gV ⟨_,rfl,?_⟩));generalize s.toks+1+1=tk
 show wpAny _ _ (asInt? (Value.int (items.size:Int) tk) >>= _) _ _ _;refine fS ?_;refine gV (a:=some (items.size:Int)) ?_;have UZ:Builtin.List.listFitsIndex (items.size:Int)=true:=by unfold Builtin.List.listFitsIndex;rw[XE (by omega),XE (by omega)];rfl
 show wpAny _ _ (if (!Builtin.List.listFitsIndex (items.size:Int))=true then _ else _) _ _ _;rw[WQ (by rw[UZ];decide)];show wpAny _ _ (if (items.size:Int)<0 then _ else _) _ _ _;rw[WQ (by omega)];have U0:Builtin.List.listTooLong ((items.size:Int).toNat)=false:=by unfold Builtin.List.listTooLong;rw[X0];exact W3 (by omega)
 show wpAny _ _ (if Builtin.List.listTooLong ((items.size:Int).toNat)=true then _ else _) _ _ _;rw[WQ (by rw[U0];decide)];exact gV (h _)
def _root_.PySem.Walks.Lc(hh:A.handled=none)(I t:Addr)(hne:t≠I)(items:Array Value)(hfit:(items.size:Int)<2 ^ 62) :
  Walks prog w A I [I,t] [I] items.size (λi v=>items[items.size - 1 - i]?=some v) (λi h=>i<=items.size/\fZ h I t ((items.size:Int) - 1 - (i:Int))/\IsTup h t items) where
 sub:=λb hb=>by simp at hb;simp[hb]
 frame:=λ_ _ _ x hk=>⟨x.1,x.2.1.at λo e=>hk I (by simp) o e,nC x.2.2 λo e=>hk t (by simp) o e⟩
 item:=λi s Q E hi x hQ=>by
  have e:(items.size:Int) - 1 - (i:Int)=((items.size - 1 - i:Nat):Int):=by omega
  have hit:=x.2.1;rw[e]at hit;have hx:items[items.size - 1 - i]?=some (items[items.size - 1 - i]'(by omega)):=XA (by omega);refine next_item hit x.2.2 hx hfit λh' tk Ld hs'=>?_;have e2:((items.size - 1 - i:Nat):Int) - 1=(items.size:Int) - 1 - ((i+1:Nat):Int):=by omega
  rw[e2]at Ld;exact hQ _ h' tk hx ⟨hi,Ld,nC x.2.2 λo eo=>(hs'.2 t hne).trans eo⟩ λb o hb eo=>hs'.extBut b o (λh=>hb (by simp[h])) eo
 done:=λs Q E x hQ=>by
  have e:(items.size:Int) - 1 - (items.size:Int) = -1:=by omega
  have hit:=x.2.1;rw[e]at hit;exact next_end hh hit λh' he'=>hQ h' s.toks λb o hb eo=>he' b o (λh=>hb (by simp[h])) eo
 self:=λ_ _ _ _ x hQ=>uH x.2.1 hQ
def yQ{R:Result->Shared->Prop}{I t:Addr}{items:Array Value}(hh:A.handled=none)(hit:fZ s.heap I t ((items.size:Int) - 1))(ht:IsTup s.heap t items)(hne:t≠I)(hlen:items.size<=sizeLine)
  (S:Addr) (hSI:S≠I) (hSt:S≠t) (res:Value) (c₀:Nat) (hS:s.heap.get? S=some { cls:=.type "list",data:=.seq #[] c₀ })
  (hR:∀h' tk acc' c',(∀b o,b≠S->b≠I->s.heap.get? b=some o->h'.get? b=some o)->h'.get? S=some { cls:=.type "list",dict:=none,data:=.seq acc' c',slots:=#[]}->
   ItemsOf (λi v=>items[items.size - 1 - i]?=some v) acc' items.size->R (.ok (.ret res)) { s with heap:=h',toks:=tk }) :
  wpAny (model prog w) A.in1 (Builtin.List.listExtendWith (.ref S) (.ref I) res)
   (λfin s'=>match fin with|.done f=>R (.ok f) s'|.again c'=>c'.quiet=true/\codeAny (model prog w) A c' R s') (λe s'=>R (.error e) s') s:=by
 have hf:(items.size:Int)<2 ^ 62:=by rw[Yi]at hlen;omega
 have hSf:S∉[I,t]:=λhm=>by rcases List.mem_cons.mp hm with e|e;exact hSI e;exact hSt (List.mem_singleton.mp e)
 have W:=(Walks.Lc (prog:=prog) (w:=w) (A:=A.in1) hh I t hne items hf).toS;have key:∀(h:Heap) (c₁ tk:Nat),fZ h I t ((items.size:Int) - 1 - ((0:Nat):Int))->IsTup h t items->(∀b o,b≠S->s.heap.get? b=some o->h.get? b=some o)->
   h.get? S=some { cls:=.type "list",data:=.seq #[] c₁ }->codeAny (model prog w) A (.builtin "list.extend.loop" ⟨[.ref S,.ref I,res],[]⟩) R { s with heap:=h,toks:=tk }:=by
  intro h c₁ tk hit ht hk yR;refine Y9 W hlen S hSf res items.size 0 _ #[] c₁ rfl (Xd _) ⟨Xd _,hit,ht⟩ yR (ItemsOf.nil _) λs' acc' c' hm hS' hacc=>?_;rw[Z9 hm];refine hR s'.heap s'.toks acc' c' (λb o hb hb2 e=>hm.heap b o (λhmem=>?_) (hk b o hb e)) hS' hacc;rcases List.mem_cons.mp hmem with e'|hmem
  .exact hb e'
  .exact hb2 (List.mem_singleton.mp hmem)
 unfold Builtin.List.listExtendWith;refine fS (Yk (T:="reversed") hit.typeIs ?_);have h1:Builtin.List.listSameRef (.ref S) (.ref I)=false:=by simp[Builtin.List.listSameRef,hSI]
 have h2:(Value.type "reversed" ==Value.type "list")=false:=by decide
 have h3:(Value.type "reversed" ==Value.type "tuple")=false:=by decide
 simp only[h1,h2,h3,aaa,W4,XH];refine fS (uH hit ?_);refine fS (X3 (CQ hit ht hlen λtk=>?_));have Le:fZ s.heap I t ((items.size:Int) - 1 - ((0:Nat):Int)):=by simpa using hit
 refine W5 (λ_=>?_) (λ_=>gV ⟨XD Zd _,key _ c₀ _ Le ht (λb o _ e=>e) hS⟩);refine fS (YK ?_);refine fS ?_;show wpAny _ _ (updateSeq S (·.push .none) >>= λ_=>updateSeq S (·.pop)) _ _ _;refine fS (YD hS rfl ?_);have tE:=WZ (Obj.mapSeq (·.push Value.none)) hS rfl;refine YD (hz:=by seq_fits) tE rfl ?_;have OU:=WZ (Obj.mapSeq (·.pop)) tE rfl;have ot:∀b o,b≠S->s.heap.get? b=some o->((s.heap.update S (Obj.mapSeq (·.push Value.none))).update S (Obj.mapSeq (·.pop))).get? b=some o:=λb o hb e=>(Xq _ _ (XI hb)).trans ((Xq _ _ (XI hb)).trans e);exact gV ⟨XD Zd _,key _ _ _ (Le.at λo e=>ot _ _ (XI hSI) e) (nC ht λo e=>ot _ _ (XI hSt) e) ot OU⟩
def CS{R:Result->Shared->Prop}{I t:Addr}{items:Array Value}(hh:A.handled=none)(hit:fZ s.heap I t ((items.size:Int) - 1))(ht:IsTup s.heap t items)(hne:t≠I)(hlen:items.size<=sizeLine)
  (S:Addr) (hSI:S≠I) (hSt:S≠t) (hS:s.heap.get? S=some { cls:=.type "list",data:=.seq #[]})
  (hR:∀h' tk acc' c',(∀b o,b≠S->b≠I->s.heap.get? b=some o->h'.get? b=some o)->h'.get? S=some { cls:=.type "list",dict:=none,data:=.seq acc' c',slots:=#[]}->
   ItemsOf (λi v=>items[items.size - 1 - i]?=some v) acc' items.size->R (.ok (.ret .none)) { s with heap:=h',toks:=tk }) :
  wpAny (model prog w) A.in1 (Builtin.«list.__init__» ⟨[.ref S,.ref I],[]⟩)
   (λfin s'=>match fin with|.done f=>R (.ok f) s'|.again c'=>c'.quiet=true/\codeAny (model prog w) A c' R s') (λe s'=>R (.error e) s') s:=by
 show wpAny _ _ (do let old <-Builtin.List.listItems (.ref S);Builtin.List.listUpdate (.ref S) (λ_=>#[]);letGo old.toList.reverse;Builtin.List.listExtendWith (.ref S) (.ref I) .none) _ _ s;refine fS ?_;unfold Builtin.List.listItems;refine fS (ZS hS rfl (gV ?_));show wpAny _ _ (updateSeq S (λ_=>#[]) >>= λ_=>letGo (#[]:Array Value).toList.reverse >>= λ_=>Builtin.List.listExtendWith (.ref S) (.ref I) .none) _ _ s;refine fS (YD hS rfl ?_);have tE:=WZ (Obj.mapSeq (λ_=>(#[]:Array Value))) hS rfl;have Lf:∀b o,b≠S->s.heap.get? b=some o->(s.heap.update S (Obj.mapSeq (λ_=>(#[]:Array Value)))).get? b=some o:=
  λb o hb e=>(Xq _ _ (XI hb)).trans e
 refine fS (wpAny_letGo ?_);refine yQ hh (hit.at λo e=>Lf _ _ (XI hSI) e) (nC ht λo e=>Lf _ _ (XI hSt) e) hne hlen S hSI hSt .none _ tE λh' tk acc' c' hk hS' hacc=>?_;exact hR h' tk acc' c' (λb o hb hb2 e=>hk b o hb hb2 (Lf b o hb e)) hS' hacc
def sW{Q:Value->Shared->Prop}{I t:Addr}{items:Array Value}(hh:A.handled=none)(hit:fZ s.heap I t ((items.size:Int) - 1))(ht:IsTup s.heap t items)(hne:t≠I)(hlen:items.size<=sizeLine)
  (hQ:∀h' tk acc' c',(∀b o,b≠I->s.heap.get? b=some o->h'.get? b=some o)->
   h'.get? s.heap.objs.size=some { cls:=.type "list",dict:=none,data:=.seq acc' c',slots:=#[]}->ItemsOf (λi v=>items[items.size - 1 - i]?=some v) acc' items.size->Q (.ref s.heap.objs.size) { s with heap:=h',toks:=tk }) :
  wpAny (model prog w) A (call (.type "list") [.ref I]) Q E s:=by
 refine ZV (Q₁:=λobj s₁=>obj=.ref s.heap.objs.size/\s₁={ s with heap:=s.heap.push { cls:=.type "list",data:=.seq #[]}}) F.called_list (F.typeCall_list_1 _) F.entry_list_init
  (code_list_new _ ⟨rfl,rfl⟩) λobj s₁ h₁=>?_
 obtain⟨rfl,rfl⟩:=h₁;have hS:(s.heap.push { cls:=.type "list",data:=.seq #[]}).get? s.heap.objs.size=some { cls:=.type "list",data:=.seq #[]}:=WM _ rfl;have hI:I<s.heap.objs.size:=by obtain⟨o,ho,_⟩:=hit;exact Ur ho
 have hT:t<s.heap.objs.size:=by obtain⟨o,ho,_⟩:=ht;exact Ur ho
 refine⟨⟨_,hS,rfl⟩,F.args_list_init_2 _ _,CS (A:=A.in1) hh (hit.at λo e=>lM _ e) (nC ht λo e=>lM _ e) hne hlen _ (Y3 hI) (Y3 hT) hS λh' tk acc' c' hk hS' hacc=>?_⟩;exact⟨rfl,hQ h' tk acc' c' (λb o hb e=>hk b o (WU (Ur e)) hb (lM _ e)) hS' hacc⟩
end
end Rv
namespace Sm
open PySem PySem.Spec PyProof.Rows L2 PySem.SeqAt
open Ev (D O Hh Fr R aL E Es Eo T S Ss Fl Src bh aZ TY BI ME)
section
variable{X:Cx}{G:Tb}{n:Nat}{sc:Scope}{N:List Str}{df:Bool}{m:List Nat}{a b:E}{xa:Expr}{pos:Pos}
def uI{vs:List V}{us:List Value}(r:Vals vs us){acc:Array Value}(h:ItemsOf (λi v=>us.toArray[us.toArray.size - 1 - i]?=some v) acc us.toArray.size):Vals vs.reverse acc.toList:=by
 obtain⟨h1,h2⟩:=h;have e:acc.toList=us.reverse:=by
  apply Zq;intro i;by_cases hi:i<us.length
  .have ha:i<acc.size:=by rw[h1];simpa using hi
   have:=h2 i _ (XA ha);rw[List.getElem?_reverse hi];simp only[MM,YY]at this;rw[this];simp[ha]
  .have hs:acc.size=us.length:=by rw[h1];simp
   rw[W8 (by rw[Xw];omega),W8 (by rw[aac];omega)]
 rw[e];exact Vals.reverse r
def G4 {p p2 pos2:Pos}(ha:JE G n sc N df m a xa) (h1:("list" : Str)∈G.bl:=by decide +kernel) (uE:sc.names.lookup ("list" : Str)=some .globalImplicit:=by rfl)
  (hg:sc.names.lookup ("reversed" : Str)=some .globalImplicit:=by rfl) (hb:("reversed" : Str)∈G.bl:=by decide +kernel)
  (hst:∀env:Env,starEach [xa] env=[(false,eval xa env)]:=by intro _;rfl)
  (mK:∀env:Env,starEach [Expr.Call (.Name "reversed" p2) [xa] [] pos2] env=[(false,eval (Expr.Call (.Name "reversed" p2) [xa] [] pos2) env)]:=by intro _;rfl) :
  JE G n sc N df m (.ji (.rev a)) (.Call (.Name "list" p) [.Call (.Name "reversed" p2) [xa] [] pos2] [] pos):=λX g=>by
 intro pins s σ H Q I q;obtain⟨r,fr,h,d,h',sr,hr,e,q⟩:=q;rw[Ev.ev,Ev.cZ]at e;replace e:=Ev.ah e;obtain⟨src,h3,e1,e⟩:=e;replace e1:=Ev.ah e1;obtain⟨x,h4,e2,e1⟩:=e1;replace e1:=Ev.aO e1;obtain⟨e1,y0⟩:=e1;subst y0;refine Yc (gX I (g.gl uE) (g.bl _ h1) (show bootBuiltins ("list" : Str)=some (.type "list")by decide +kernel) ?_ (by decide) (by decide));refine Xj ?_ (mK _) rfl;rw[mK];show wpAny _ _ (spliced ((false,eval (Expr.Call (.Name "reversed" p2) [xa] [] pos2) X.env) :: backTo pos [])) _ _ s;refine YH ?_;have AN:PA X [xa] _:=kh (ha X g) mz (by rw[hst];rfl);refine Call_ (gX I (g.gl hg) (g.bl _ hb) (show bootBuiltins ("reversed" : Str)=some (.type "reversed")by decide +kernel) (Xj (bQ (AN pos2 pins s σ H (λvs H1=>∃r1 u,vs=[u]/\RV X.K H1 r1 x u/\HR X.K H1 r1 h3/\Fm X.K r r1 H H1) I ⟨r,fr,h,x,h3,sr,hr,e2,λu H1 r1 v1 hr1 f1=>⟨r1,u,rfl,v1,hr1,f1⟩⟩) λus s1 z=>?_) (hst _) rfl));obtain⟨vs,H1,I1,rv,r1,u,rfl,v1,hr1,f1⟩:=z;cases x<;>simp only[Ev.Cy,Option.map,reduceCtorEq]at e1
 rename_i ds;cases e1;obtain⟨t,ws,rfl,z,w⟩:=v1.shape;cases rv with
 |cons ra rb=>
 cases rb;cases ra;obtain⟨its,pv,pt,hz⟩:=I1.tuple z;have hlen:its.toArray.size<=sizeLine:=by rw[MM,<-pv.length];exact hz
 have hf:(its.toArray.size:Int)<2 ^ 63:=by rw[Yi]at hlen;omega
 refine Rv.CP pt hf ?_;refine YS ?_;have I2:Inv X pins σ H1 { s1 with heap:=s1.heap.push (Rv.nB t ((its.toArray.size:Int) - 1)),toks:=s1.toks+1+1 }:=I1.kept λb o e=>lM _ e;have hne:t≠s1.heap.objs.size:=by obtain⟨o,ho,_⟩:=pt;exact WU (Ur ho)
 refine Rv.sW (I1.ok.hd g.calm) ⟨_,WM _ rfl,rfl,rfl⟩ (Rv.nC pt λo e=>lM _ e) hne hlen λh' tk acc' c' hk hS' hacc=>?_;obtain⟨hz2,q2⟩:=(q.later f1).lst e w.reverse hr1;have hp:s1.heap.objs.size<=(s1.heap.push (Rv.nB t ((its.toArray.size:Int) - 1))).objs.size:=by rw[size_push'];exact YC _
 refine⟨.ref _,_,I1.laid (t':=tk) (o:=.lst ws.reverse) (λb u e=>hk b u (WU (Ur e)) (lM _ e)) hp ?_,rfl,q2 _ (I1.hok.fresh hp)⟩;exact⟨by simpa using hz,acc'.toList,c',uI pv hacc,by simpa using hS'⟩
end
end Sm
namespace Rv
open PySem PySem.Spec PyProof.Rows
section
variable{prog:Program}{w:World}{A:Around}{E:Value->Shared->Prop}{s:Shared}
def AO:typeLookup (.type "list_reverseiterator") "__len__" = pure none:=by rw[Xy,Xb];kernel_rfl
def CT:typeLookup (.type "list_reverseiterator") "__length_hint__" = pure (some (.builtin "list_reverseiterator.__length_hint__")):=by rw[Xy,Xb];kernel_rfl
def vV{Q:List Value->Shared->Prop}{I:Addr}{fp wr:List Addr}{G:Array GenState->Array GenState->Prop}{n:Nat}{P:Nat->Value->Prop}{St:Nat->Shared->Prop}
  (W:WalksS prog w A.in1 I fp wr G n P St) (hT:∀i s,St i s->s.TypeIs (.ref I) "list_reverseiterator") (hst:St 0 s) (hfp:∀b∈fp,b<s.heap.objs.size) (hI:I∈fp)
  (hQ:∀s' acc,Moved wr G s s'->ItemsOf P acc n->Q acc.toList s') (hn:n<=sizeLine):wpAny (model prog w) A (collect (.ref I)) Q E s:=by
 have hSf:s.heap.objs.size∉fp:=λhm=>X4 _ (hfp _ hm);have hSI:s.heap.objs.size≠I:=λe=>hSf (e▸hI);unfold collect;refine fS (ZT (Xz F.entry_proto_collect ?_));rw[Xo F.plain_proto_collect _];show wpAny _ A.in1 (newList [] >>= λl=>again (.builtin "list.__iadd__" ⟨[l,.ref I],[]⟩)) _ _ s;refine fS (W7 ?_);refine gV ⟨XD F.plain_list_iadd _,Xz F.entry_list_iadd ?_⟩;rw[Xo F.plain_list_iadd _];have kq:=W.frame 0 s (s.heap.push { cls:=.type "list",data:=.seq ([]:List Value).toArray }) s.toks hst (qh _) λb _ o e=>lM _ e;have yR:(s.heap.push { cls:=.type "list",data:=.seq ([]:List Value).toArray }).get? s.heap.objs.size=some { cls:=.type "list",data:=.seq ([]:List Value).toArray }:=WM _ rfl;have h1:Builtin.List.listSameRef (.ref s.heap.objs.size) (.ref I)=false:=by simp[Builtin.List.listSameRef,hSI]
 show wpAny _ A.in1 (Builtin.List.listExtendWith (.ref s.heap.objs.size) (.ref I) (.ref s.heap.objs.size)) _ _ _;unfold Builtin.List.listExtendWith;refine fS (Yk (hT 0 _ kq) ?_);rw[WQ (by rw[h1];decide)];refine fS (W.self 0 _ _ _ kq ?_);refine fS (X3 ?_);unfold Builtin.List.listLengthHint;refine fS (XT (hT 0 _ kq) AO ?_);show wpAny _ A.in1 (specialOf (Value.ref I) (Str.ofString "__length_hint__") >>= _) _ _ _;refine fS (XT (hT 0 _ kq) CT ?_);generalize hid:("list_reverseiterator.__length_hint__" : String)=Lb
 wp_delta
 rw[show splitId Lb=some ("list_reverseiterator","__length_hint__")from by subst hid;decide +kernel];subst hid;refine fS (Yl (b:=true) (hT 0 _ kq) (by rw[XM];kernel_rfl) ?_);refine gV ?_;rw[WQ (by decide)];refine gV ⟨XD Zd _,Y9 W hn _ hSf _ n 0 _ _ _ rfl (Xd _) kq yR (ItemsOf.nil P) λs' acc' c' hm hS' hacc=>?_⟩;show wpAny _ A (load s.heap.objs.size >>= _) _ _ s';refine fS (wpAny_load hS' ?_);exact gV (hQ s' acc' (Moved.drop_new (o:={ cls:=.type "list",data:=.seq ([]:List Value).toArray }) (tk:=s.toks) hm (qh _)) hacc)
def qM{Q₁:Value->Shared->Prop}{I:Addr}{fp wr:List Addr}{G:Array GenState->Array GenState->Prop}{n:Nat}{P:Nat->Value->Prop}{St:Nat->Shared->Prop}
  (W:WalksS prog w A.in1.in1 I fp wr G n P St) (hT:∀i s,St i s->s.TypeIs (.ref I) "list_reverseiterator") (hst:St 0 s) (hfp:∀b∈fp,b<s.heap.objs.size) (hI:I∈fp)
  (h:∀s' acc,Moved wr G s s'->ItemsOf P acc n->Q₁ (.ref s'.heap.objs.size) { s' with heap:=s'.heap.push { cls:=.type "tuple",data:=.seq acc }}) (hsz:n<=sizeLine) :
  codeAny (model prog w) A (.call (.builtin "tuple.__new__") ⟨[.type "tuple",.ref I],[]⟩) (wants Q₁ E) s:=by
 refine Y5 ?_;show wpAny _ A.in1 (do checkBuiltinCall "tuple.__new__" ⟨[.type "tuple",.ref I],[]⟩;again (.builtin "tuple.__new__" ⟨[.type "tuple",.ref I],[]⟩)) _ _ s;refine fS (XG (F.newCall_tuple_1 _) (gV ⟨XD F.plain_tuple_new _,Xz F.entry_tuple_new ?_⟩));rw[Xo F.plain_tuple_new _];have hsub:=sub_tuple_self;have VI:=init_tuple_lookup;have VR:=madeHere_tuple;have hTI:=hT 0 s hst
 wp_walk using Yk hTI,vV (hn:=hsz) W hT hst hfp hI
 intro s' acc hm hacc;show wpAny _ _ (Builtin.Tuple.tupleExact acc.toList.toArray >>= λv=>ret v) _ _ _;unfold Builtin.Tuple.tupleExact;refine fS (W7 ?_ (by show acc.toList.toArray.size<=sizeLine;simp only[Array.toArray_toList];rw[hacc.1];exact hsz));refine gV ?_;have e:acc.toList.toArray=acc:=by simp
 rw[e];exact h s' acc hm hacc
def qN{Q:Value->Shared->Prop}{I:Addr}{fp wr:List Addr}{G:Array GenState->Array GenState->Prop}{n:Nat}{P:Nat->Value->Prop}{St:Nat->Shared->Prop}
  (W:WalksS prog w A.in1.in1.in1 I fp wr G n P St) (hT:∀i s,St i s->s.TypeIs (.ref I) "list_reverseiterator") (hst:St 0 s) (hfp:∀b∈fp,b<s.heap.objs.size) (hI:I∈fp)
  (hQ:∀s' acc,Moved wr G s s'->ItemsOf P acc n->Q (.ref s'.heap.objs.size) { s' with heap:=s'.heap.push { cls:=.type "tuple",data:=.seq acc }}) (hsz:n<=sizeLine) :
  wpAny (model prog w) A (call (.type "tuple") [.ref I]) Q E s:=by
 refine ZV (Q₁:=λobj s₁=>s₁.TypeIs obj "tuple" /\Q obj s₁) F.called_tuple (F.typeCall_tuple_1 _) F.entry_object_init
  (qM (hsz:=hsz) W hT hst hfp hI λs' acc hm hacc=>⟨⟨_,WM _ rfl,rfl⟩,hQ s' acc hm hacc⟩) λobj s₁ h₁=>?_
 exact⟨h₁.1,F.args_object_init_2 obj _,object_init_meets F.called_tuple.init.lookup F.called_tuple.made (by decide) prog w A.in1 _ s₁ ⟨h₁.1,rfl,h₁.2⟩⟩
def qO{Q:Value->Shared->Prop}{I l:Addr}{items:Array Value}(hh:A.handled=none)(hit:s.heap.IsRevIter I l ((items.size:Int) - 1))(hl:s.heap.IsList l items)(hne:l≠I)(hlen:items.size<=sizeLine)
  (hQ:∀(h':Heap) (tk:Nat) (acc:Array Value),(∀b o,b≠I->s.heap.get? b=some o->h'.get? b=some o)->ItemsOf (λi v=>items[items.size - 1 - i]?=some v) acc items.size->
   Q (.ref h'.objs.size) { s with heap:=h'.push { cls:=.type "tuple",data:=.seq acc },toks:=tk }):wpAny (model prog w) A (call (.type "tuple") [.ref I]) Q E s:=by
 have W:=(Walks.listRev (prog:=prog) (w:=w) (A:=A.in1.in1.in1) hh I l hne items).toS;refine qN W (λi s x=>x.2.1.typeIs) ⟨Xd _,by simpa using hit,hl⟩ (λb hb=>?_) (by simp) (λs' acc hm hacc=>?_) hlen
 .rcases List.mem_cons.mp hb with rfl|hb
  .obtain⟨o,ho,_⟩:=hit;exact Ur ho
  .rw[List.mem_singleton.mp hb];obtain⟨o,ho,_⟩:=hl;exact Ur ho
 .rw[Z9 hm];exact hQ s'.heap s'.toks acc (λb o hb e=>hm.heap b o (λhmem=>hb (List.mem_singleton.mp hmem)) e) hacc
end
end Rv
namespace Sm
open PySem PySem.Spec PyProof.Rows L2 PySem.SeqAt
open Ev (D O Hh Fr R aL E Es Eo T S Ss Fl Src bh aZ TY BI ME)
section
variable{X:Cx}{G:Tb}{n:Nat}{sc:Scope}{N:List Str}{df:Bool}{m:List Nat}{a b:E}{xa:Expr}{pos:Pos}
def Lh {p p2 pos2:Pos}(ha:JE G n sc N df m a xa) (h1:("tuple" : Str)∈G.bl:=by decide +kernel) (uE:sc.names.lookup ("tuple" : Str)=some .globalImplicit:=by rfl)
  (hg:sc.names.lookup ("reversed" : Str)=some .globalImplicit:=by rfl) (hb:("reversed" : Str)∈G.bl:=by decide +kernel)
  (hst:∀env:Env,starEach [xa] env=[(false,eval xa env)]:=by intro _;rfl)
  (mK:∀env:Env,starEach [Expr.Call (.Name "reversed" p2) [xa] [] pos2] env=[(false,eval (Expr.Call (.Name "reversed" p2) [xa] [] pos2) env)]:=by intro _;rfl) :
  JE G n sc N df m (.lV a) (.Call (.Name "tuple" p) [.Call (.Name "reversed" p2) [xa] [] pos2] [] pos):=λX g=>by
 intro pins s σ H Q I q;obtain⟨r,fr,h,d,h',sr,hr,e,q⟩:=q;rw[Ev.ev]at e;replace e:=Ev.ah e;obtain⟨x,h3,e2,e⟩:=e;refine Yc (gX I (g.gl uE) (g.bl _ h1) (show bootBuiltins ("tuple" : Str)=some (.type "tuple")by decide +kernel) ?_ (by decide) (by decide));refine Xj ?_ (mK _) rfl;rw[mK];show wpAny _ _ (spliced ((false,eval (Expr.Call (.Name "reversed" p2) [xa] [] pos2) X.env) :: backTo pos [])) _ _ s;refine YH ?_;have AN:PA X [xa] _:=kh (ha X g) mz (by rw[hst];rfl);refine Call_ (gX I (g.gl hg) (g.bl _ hb) (show bootBuiltins ("reversed" : Str)=some (.type "reversed")by decide +kernel) (Xj (bQ (AN pos2 pins s σ H (λvs H1=>∃r1 u,vs=[u]/\RV X.K H1 r1 x u/\HR X.K H1 r1 h3/\Fm X.K r r1 H H1) I ⟨r,fr,h,x,h3,sr,hr,e2,λu H1 r1 v1 hr1 f1=>⟨r1,u,rfl,v1,hr1,f1⟩⟩) λus s1 z=>?_) (hst _) rfl));obtain⟨vs,H1,I1,rv,r1,u,rfl,v1,hr1,f1⟩:=z;cases x<;>simp only[Ev.yx,reduceCtorEq]at e
 rename_i i;split at e
 .rename_i ds e1;split at e
  .cases e;obtain⟨t,rfl,z⟩:=v1.shape;obtain⟨t',ws,z',q1,w⟩:=hr1.read e1;rw[z]at z';cases z';cases rv with
   |cons ra rb=>
   cases rb;cases ra;obtain⟨its,pv,pl,hz⟩:=I1.list q1;have hlen:its.toArray.size<=sizeLine:=by rw[MM,<-pv.length];exact hz
   refine call_reversed_list pl.isList ?_;refine YS ?_;have I2:Inv X pins σ H1 { s1 with heap:=s1.heap.push (revObj t ((its.toArray.size:Int) - 1))}:=I1.kept λb o e=>lM _ e;have hne:t≠s1.heap.objs.size:=by obtain⟨o,ho,_⟩:=pl.isList;exact WU (Ur ho)
   refine Rv.qO (I1.ok.hd g.calm) ⟨_,WM _ rfl,rfl,rfl⟩ (pl.isList.at λo e=>lM _ e) hne hlen λh4 tk acc hk hacc=>?_;have I3:Inv X pins σ H1 { s1 with heap:=h4 }:=I1.kept λb o e=>hk b o (WU (Ur e)) (lM _ e);have I4:Inv X pins σ (upd H1 h4.objs.size (.tup ws.reverse)) { s1 with heap:=h4.push { cls:=.type "tuple",data:=.seq acc },toks:=tk }:=
    I3.laid (t':=tk) (λb o e=>lM _ e) (qh _) (show fu X.prog X.w _ _ _ (.tup ws.reverse)from ⟨by simpa using hz,acc.toList,uI pv hacc,by simpa using ZL h4 acc⟩)
   exact⟨.ref h4.objs.size,_,I4,rfl,(q.later f1).tup w.reverse hr1 (I3.hok.fresh (qh _))⟩
  .cases e
 .cases e
end
theorem insI_perm(x:Int):∀l,(Ev.insI x l).Perm (x :: l)
 |[]=>.refl _
 |y :: l=>by
  unfold Ev.insI;split
  .exact .refl _
  .exact((insI_perm x l).cons y).trans (.swap x y l)
theorem sortI_perm:∀l,(Ev.sortI l).Perm l
 |[]=>.refl _
 |x :: l=>(insI_perm x _).trans ((sortI_perm l).cons x)
theorem oq(x:Int):∀{l},l.Pairwise (·<=·)->(Ev.insI x l).Pairwise (·<=·)
 |[],_=>List.pairwise_singleton _ _
 |y :: l,h=>by
  unfold Ev.insI;obtain⟨h1,h2⟩:=List.pairwise_cons.mp h;split
  .rename_i hx;exact List.pairwise_cons.mpr ⟨λz hz=>by
    rcases List.mem_cons.mp hz with rfl|hz
    .exact hx
    .exact Int.le_trans hx (h1 z hz),h⟩
  .rename_i hx;refine List.pairwise_cons.mpr ⟨λz hz=>?_,oq x h2⟩;rcases List.mem_cons.mp ((insI_perm x l).mem_iff.mp hz)with rfl|hz
   .omega
   .exact h1 z hz
theorem mL:∀l,(Ev.sortI l).Pairwise (·<=·)
 |[]=>.nil
 |x :: l=>oq x (mL l)
def pK{l m:List Int}(h:m.Perm l)(s:m.Pairwise (·<=·)):m=Ev.sortI l:=
 (h.trans (sortI_perm l).symm).eq_of_pairwise (λa b _ _ h1 h2=>Int.le_antisymm h1 h2) s (mL l)
theorem qP:∀{us:List Value}{is:List Int},IntsAre us is->Vals (is.map V.int) us
 |_,_,.nil=>.nil
 |_,_,.cons _ _ h=>.cons ⟨_,rfl⟩ (qP h)
theorem aG.CU{K:PySem.W.Frag}{H:Hp}{r:List Addr}:∀{ss:List Int},aG K H r (ss.map D.int) (ss.map V.int)
 |[]=>.nil
 |l :: ss=>.cons rfl aG.CU
def CV {X:Cx}:gn X (.builtin "sorted") (uo X.K (Ev.cK .jP)):=by
 intro pins s σ H xs us Q I r q;obtain⟨rr,h,as,d,h',hr,v1,e,q⟩:=q
 match as,e with
 |[.ref n],e=>
  delta Ev.cK at e;dsimp only at e
  split at e
  case h_2=>cases e
  rename_i ss e1;split at e
  case isFalse=>cases e
  rename_i h64;obtain⟨ds,e2,e3⟩:=Option.bind_eq_some_iff.mp e1;simp only[aG,RV]at v1;obtain⟨v,w,rfl,⟨p,rfl,z⟩,rfl⟩:=v1;obtain⟨p',vs,z',q1,w⟩:=hr.read e2;rw[z]at z';cases z';obtain⟨u,rfl,ru⟩:=vals1 r;cases ru;obtain⟨us,pv,pl,hz⟩:=I.list q1;have hI:=nA e3 w pv;have hlen:us.length<64:=by
   have h1:=hI.length;omega
  refine sorted_ints pl.isList hI hlen λout ns' a1 a2 a3=>?_;have hq:=pK a2 a3;subst hq;obtain⟨e',he⟩:=sortedAll_at s.heap us out;obtain⟨hz2,q2⟩:=q.lst e aG.CU hr;refine⟨.ref (s.heap.objs.size+1),_,I.laid (t':=s.toks) (o:=.lst ((Ev.sortI ss).map V.int)) (λb ob q=>sortedAll_old q) (YC _) ?_,rfl,q2 _ (I.hok.fresh (YC _))⟩;exact⟨hz2,out.toList,e',qP a1,by simpa[seqObj]using he⟩
theorem aG.ofInts{K:PySem.W.Frag}{H:Hp}{r:List Addr}:∀ns:List Int,aG K H r (ns.map D.int) (ns.map V.int)
 |[]=>.nil
 |_ :: l=>.cons rfl (aG.ofInts l)
def Li{K:PySem.W.Frag}{H:Hp}{a:Addr}{vs:List V}(hO:qA H)(hS:eU K H a vs):yy K H a vs:=by
 rcases hS with h|h
 .rcases h with h|⟨o,h⟩
  .rcases hO a with q|⟨o,xs,q⟩
   .rw[q]at h;cases h
   .rw[q]at h;cases h
  .exact .inl ⟨o,h⟩
 .exact .inr h
def OV{K:PySem.W.Frag}{F:List Ev.Fn}{w n f:Nat}{H:Hp}{a:Addr}{ns:List Int}(hO:qA H)(hS:eU K H a (ns.map V.int)){h':Hh}(e:Ev.run F w n f [.ref 0] [.bW (ns.map D.int)]=.ok (.bl true) h') :
  nX K F w n f [.ref a] H (λv _=>v=.bl true) λ_ _ _=>False:=by
 refine⟨[a],[.bW (ns.map D.int)],[.ref 0],.bl true,h',.cons (show RV K H [a] (.ref 0) (.ref a)from ⟨a,rfl,rfl⟩) .nil,⟨rfl,λk o hk=>?_,λk l b x y _ _ hk _=>?_
  ⟩,e,λv H' r' v1 _ _=>v1⟩
 .cases k with
  |zero=>
   simp at hk;subst hk;exact⟨a,rfl,_,Li hO hS,aG.ofInts ns⟩
  |succ k=>simp at hk
 .cases k with
  |zero=>simp at hk
  |succ k=>simp at hk
def G5{F:List Ev.Fn}{wh n f:Nat}{l:PySem.W.OpenLaw}{q:Program}{loose:List Str}{XP:(Str->Option Value)->Heap->Prop}{YP:World->Heap->Prop}{d:DefRec}{K:Params->PySem.W.Frag}{x:Str}(hn:l.most=some 63)(hdf:d.params.defaults=[])(hr:gz n callerA)
  (hY:∀(w:World) (h:Heap),YP w h->(K w.params).In h) (good:∀ns:List Int,ns.length<=63->∃h',Ev.run F wh n f [.ref 0] [.bW (ns.map D.int)]=.ok (.bl true) h')
  (Fo:∀(w:World) (mg:Str->Option Value) (fa:Addr) (h:Heap),(K w.params).In h->h.Ns mainGlobals mg->mg d.name=some (.ref fa)->
   ∃fd:FuncData,(∀(s:Shared) (u:Value),BindsTo s fd ⟨[u],[]⟩ [(x,u)])/\∀base:Heap,(K w.params).In base->base.Ns mainGlobals mg->iF l.prog w (K w.params) mg base mE n fa fd [x] (nX (K w.params) F wh n f)) :
  PySem.W.WalkO q loose XP YP l.row.toRowW d [] (λf vs=>PySem.call f vs):=
 L2.Cv (n:=63) (k:=n) (x:=x) (CX:=mE) (sp:=λK=>nX K F wh n f) hn (by decide) hdf hr hY Fo (λK H a ns hl hO hS=>by
  obtain⟨h',e⟩:=good ns hl;exact OV hO hS e) λ_ _ _ _ z=>z
theorem AQ{P:Program}{w:World}{K:PySem.W.Frag}{mg:Str->Option Value}{base:Heap}{G:Tb}(T:Top P w K mg G)
  (st:∀n,tD P w K mg base G n->tD P w K mg base G (n+1)):∀n,tD P w K mg base G n
 |0=>λf i _=>GO
 |n+1=>st n (AQ T st n)
end Sm
namespace Sm
open PySem PySem.Spec PyProof.Rows L2
open Ev (D O Hh Fr R aL E Es Eo It T S Ss Fl Src bh aZ TY BI ME)
section
variable{G:Tb}{n:Nat}{sc:Scope}{N:List Str}{df:Bool}{m:List Nat}{a b:E}{xa xb:Expr}{pos:Pos}
noncomputable def hasB(N:List Str)(m:List Nat)(x:Str)(i:Nat):Bool:=(List.range N.length).any λj=>m[j]?==some i&&N[j]?==some x
def hasB.of{x:Str}{i:Nat}(h:hasB N m x i=true):∃j:Nat,m[j]?=some i/\N[j]?=some x:=by
 obtain⟨j,_,q⟩:=List.any_eq_true.mp h;rw[Vp]at q;exact⟨j,by simpa using q.1,by simpa using q.2⟩
noncomputable def vB (sc:Scope) (N:List Str) (m:List Nat) (x:Str) (i:Nat):Bool:=hasB N m x i&&(sc.names.lookup x==some .local ||sc.names.lookup x==some .cell ||sc.names.lookup x==some .free)&&!(x==("__debug__" : Str))&&!(x==("__classdict__" : Str))
def jv{x:Str}{i:Nat}(h:vB sc N m x i=true):JE G n sc N df m (.v i) (.Name x pos):=by
 unfold vB at h;simp only[Vp,Zr,XW]at h;obtain⟨⟨⟨h1,h2⟩,h3⟩,h4⟩:=h;obtain⟨j,e1,e2⟩:=hasB.of h1;exact SM j i e1 e2 (by rcases h2 with (h2|h2)|h2;exact .inl (by simpa using h2);exact .inr (.inl (by simpa using h2));exact .inr (.inr (by simpa using h2))) h3 h4
noncomputable def gB(sc:Scope)(N:List Str)(df:Bool)(m:List Nat)(x:Str)(i:Nat):Bool:=hasB N m x i&&(sc.names.lookup x==some .local || (df&&sc.names.lookup x==some .cell))&&decide m.Nodup&&decide N.Nodup
theorem gB.of{x:Str}{i:Nat}(h:gB sc N df m x i=true):∃j:Nat,m[j]?=some i/\N[j]?=some x/\(sc.names.lookup x=some .local\/(df=true/\sc.names.lookup x=some .cell))/\m.Nodup/\N.Nodup:=by
 unfold gB at h;simp only[Vp,XW]at h;obtain⟨⟨⟨h1,h2⟩,h3⟩,h4⟩:=h;obtain⟨j,e1,e2⟩:=hasB.of h1;exact⟨j,e1,e2,by rcases h2 with h2|⟨h2,h5⟩;exact .inl (by simpa using h2);exact .inr ⟨h2,by simpa using h5⟩,Xh h3,Xh h4⟩
def U1{x:Str}{i:Nat}(h:gB sc N df m x i=true):JG G n sc N df m (.one i) (.Name x pos):=by
 obtain⟨j,e1,e2,e3,e4,e5⟩:=gB.of h;exact Ks j i e4 e5 e1 e2 e3
def U3{x:Str}{i:Nat}{l:List Nat}{xs:List Expr}(h:gB sc N df m x i=true)(hs:sd G n sc N df m l xs):sd G n sc N df m (i :: l) (.Name x pos :: xs):=by
 obtain⟨j,e1,e2,e3,e4,e5⟩:=gB.of h;exact CB j i e4 e5 hs e1 e2 e3
def S9{i:Nat}{x:Str}{pos':Pos}(h:gB sc N df m x i=true)(ha:JE G n sc N df m a xa)(hs:∀env:Env,swapsWith xa (some (.Name x pos')) pos.line env=pure false:=by intro _;rfl):JS G n sc N df m (.set i a) (.Assign [.Name x pos'] xa pos):=by
 obtain⟨j,e1,e2,e3,e4,e5⟩:=gB.of h;exact Ku j i e4 e5 ha hs e1 e2 e3
noncomputable def Q6 (sc:Scope) (x:Str):Bool:=sc.names.lookup x==some .globalImplicit&&!(x==("__debug__" : Str))
def U4{f:Nat}{i:FI}{es:Es}{x:Str}{e0:Expr}{xs:List Expr}{p:Pos}(h:Q6 sc x=true)(hf:G.fi[f]?=some i)(hx:i.name=x)(hs:JA G n sc N df m es (e0 :: xs))
  (hst:∀env:Env,starEach (e0 :: xs) env=(false,eval e0 env) :: starEach xs env:=by intro _;rfl) (hpl:∀env:Env,(backTo pos (starEach xs env)).any (·.1)=false:=by intro _;rfl) :
  JE G n sc N df m (.cl f es) (.Call (.Name x p) (e0 :: xs) [] pos):=by
 subst hx;unfold Q6 at h;simp only[Vp,Zr]at h;exact ON hf hs (by simpa using h.1) h.2 hst hpl
noncomputable def U5:Expr->List Str
 |.Name x _=>[x]
 |.Tuple xs _ _=>xs.filterMap λy=>match y with|.Name x _=>some x|_=>none
 |_=>[]
noncomputable def Q7(N:List Str)(m:List Nat)(scope:Scope):List (Str×Nat):=(N.zip m).filter λp=>scope.names.contains (p.1,NameKind.free)
noncomputable def cN(N:List Str)(m:List Nat)(scope:Scope)(tg:Expr):List Str:=U5 tg++(Q7 N m scope).map (·.1)
noncomputable def cM(N:List Str)(m:List Nat)(scope:Scope)(t:T):List Nat:=Ev.slots t++(Q7 N m scope).map (·.2)
def OW{elt:E}{t:T}{it:Ev.It}{cond:Eo}{tg xi xe:Expr}{ifs:List Expr}{scope:Scope}(hn:pJ sc N m scope t (cN N m scope tg) (cM N m scope t)=true)(hs:EN sc scope=true)
  (hi:JI G n sc N df m it tg xi) (hg:JG G n (eK sc scope) (cN N m scope tg) false (cM N m scope t) t tg) (hc:JC G n (eK sc scope) (cN N m scope tg) false (cM N m scope t) cond ifs)
  (he:JE G n (eK sc scope) (cN N m scope tg) false (cM N m scope t) elt xe) (hf:∀(env:Env) x,foldedSetIterable xi env x=pure x:=by intro _ _;rfl):JE G n sc N df m (.comp elt t it cond) (.ListComp xe [⟨tg,xi,ifs,0⟩] scope pos):=
 wY hi hg hc he (namesOk.of hn) (j5.of hs) hf
def OX{i:Nat}{x:Str}{pos' cpos:Pos}{elt:E}{t:T}{it:Ev.It}{cond:Eo}{tg xi xe:Expr}{ifs:List Expr}{scope:Scope}(h:gB sc N df m x i=true)(hn:pJ sc N m scope t (cN N m scope tg) (cM N m scope t)=true)(hs:EN sc scope=true)
  (hi:JI G n sc N df m it tg xi) (hg:JG G n (eK sc scope) (cN N m scope tg) false (cM N m scope t) t tg) (hc:JC G n (eK sc scope) (cN N m scope tg) false (cM N m scope t) cond ifs)
  (he:JE G n (eK sc scope) (cN N m scope tg) false (cM N m scope t) elt xe) (hf:∀(env:Env) x,foldedSetIterable xi env x=pure x:=by intro _ _;rfl) :
  JS G n sc N df m (.set i (.comp elt t it cond)) (.Assign [.Name x pos'] (.ListComp xe [⟨tg,xi,ifs,0⟩] scope cpos) pos):=by
 obtain⟨j,e1,e2,e3,e4,e5⟩:=gB.of h;exact GR j i e4 e5 hi hg hc he (namesOk.of hn) (j5.of hs) e1 e2 e3 hf
def Tc{rest:List Expr}(ha:JT G n sc N df m a xa)(hb:JW G n sc N df m b (.BoolOp .And (xb :: rest) pos)):JT G n sc N df m (.an a b) (.BoolOp .And (xa :: xb :: rest) pos):=Ke (EK ha hb)
def Td{rest:List Expr}(ha:JT G n sc N df m a xa)(hb:JW G n sc N df m b (.BoolOp .Or (xb :: rest) pos)):JT G n sc N df m (.orr a b) (.BoolOp .Or (xa :: xb :: rest) pos):=Ke (Ak ha hb)
noncomputable def allB(G:Tb)(n:Nat):List (Ss×Stmt×List Str)->Prop
 |[]=>True
 |p :: r=>lW G n (aS p.2.1) p.2.2 true (List.range p.2.2.length) p.1 (gK p.2.1)/\allB G n r
theorem allB.get:∀{l:List (Ss×Stmt×List Str)}{k:Nat}{p:Ss×Stmt×List Str},allB G n l->l[k]?=some p->lW G n (aS p.2.1) p.2.2 true (List.range p.2.2.length) p.1 (gK p.2.1)
 |[],_,_,_,e=>nomatch e
 |_ :: _,0,_,h,e=>by cases e;exact h.1
 |_ :: r,k+1,p,h,e=>allB.get (l:=r) (k:=k) h.2 (by simpa using e)
end
end Sm
namespace Sm
open PySem PySem.Spec PyProof.Rows L2 PySem.SeqAt
open Ev (D O Hh Fr R aL E Es Eo T S Ss Fl Src bh aZ TY BI ME)
end Sm
namespace Sm
open PySem PySem.Spec PyProof.Rows L2
open Ev (D O Hh Fr R aL E Es Eo It T S Ss Fl Src bh aZ TY BI ME)
end Sm
namespace Sm
open PySem PySem.Spec PyProof.Rows
noncomputable def Rs(xs:Array Nat):Prop:=xs.toList.Pairwise (· < ·)
def Rs.lt{xs:Array Nat}(h:Rs xs){i j:Nat}(a:i<j)(b:j<xs.size):xs.getD i 0<xs.getD j 0:=by
 have hi:i<xs.size:=aaf a b;have e1:xs.getD i 0=xs.toList[i]'(by simpa using hi):=by simp[Array.getD,hi]
 have e2:xs.getD j 0=xs.toList[j]'(by simpa using b):=by simp[Array.getD,b]
 rw[e1,e2];exact(List.pairwise_iff_getElem.mp h) i j _ _ a
theorem oS{xs:Array Nat}{j:Nat}(h:Rs xs):∀(f lo hi:Nat),lo<=hi->hi<=xs.size->hi - lo<=f->(∀i,i<lo->xs.getD i 0<j)->(∀i,hi<=i->i<xs.size->j<=xs.getD i 0)->
  SetTable.below.go xs j f lo hi<=xs.size/\(∀i,i<SetTable.below.go xs j f lo hi->xs.getD i 0<j)/\∀i,SetTable.below.go xs j f lo hi<=i->i<xs.size->j<=xs.getD i 0
 |0,lo,hi,a,b,c,d,e=>by
  have:lo=hi:=by omega
  subst this;exact⟨b,d,e⟩
 |f+1,lo,hi,a,b,c,d,e=>by
  unfold SetTable.below.go;by_cases q:lo<hi
  .rw[xV q];have hm:(lo+hi) / 2<xs.size:=by omega
   have hg:xs.getD ((lo+hi) / 2) j=xs.getD ((lo+hi) / 2) 0:=by simp[Array.getD,hm]
   dsimp only;rw[hg];by_cases z:xs.getD ((lo+hi) / 2) 0<j
   .rw[xV z];refine oS h f _ hi (by omega) b (by omega) (λi hi'=>?_) e;by_cases y:i=(lo+hi) / 2
    .rw[y];exact z
    .exact aaf (h.lt (show i<(lo+hi) / 2 by omega) hm) z
   .rw[WQ z];refine oS h f lo _ (by omega) (by omega) (by omega) d (λi hi' hs=>?_);by_cases y:i=(lo+hi) / 2
    .rw[y];omega
    .have:=h.lt (show(lo+hi) / 2<i by omega) hs;omega
  .rw[WQ q];have:lo=hi:=by omega
   subst this;exact⟨b,d,e⟩
def oU{xs:Array Nat}{j:Nat}(h:Rs xs):SetTable.below xs j<=xs.size/\(∀i,i<SetTable.below xs j->xs.getD i 0<j)/\∀i,SetTable.below xs j<=i->i<xs.size->j<=xs.getD i 0:=
 oS h xs.size 0 xs.size (Xd _) (qh _) (by omega) (λ_ q=>absurd q (Nat.not_lt_zero _)) (λi a b=>absurd b (by omega))
def xo{xs:Array Nat}{i:Nat}(h:i<xs.size):xs[i]?=some (xs.getD i 0):=by simp[Array.getD,h]
def below_at{xs:Array Nat}(h:Rs xs){i:Nat}(hi:i<xs.size){j:Nat}(a:j<=xs.getD i 0)(b:∀k,k<i->xs.getD k 0<j):SetTable.below xs j=i:=by
 obtain⟨c,d,e⟩:=oU (j:=j) h;rcases Nat.lt_trichotomy (SetTable.below xs j) i with q|q|q
 .have:=e _ (qh _) (by omega);have:=b _ q;omega
 .exact q
 .have:=d _ q;omega
def AR{xs:Array Nat}(h:Rs xs){j:Nat}(b:∀k,k<xs.size->xs.getD k 0<j):SetTable.below xs j=xs.size:=by
 obtain⟨c,d,e⟩:=oU (j:=j) h;rcases Zw (SetTable.below xs j) xs.size with q|q
 .have:=e _ (qh _) q;have:=b _ q;omega
 .omega
def AS{xs:Array Nat}(h:Rs xs){j:Nat}(n:xs[SetTable.below xs j]?≠some j):Rs (SetTable.insertAt xs (SetTable.below xs j) j):=by
 obtain⟨c,d,e⟩:=oU (j:=j) h;unfold Rs;rw[SetTable.toList_insertAt,List.pairwise_append];have hd:∀x∈xs.toList.drop (SetTable.below xs j),j<x:=by
  intro x hx;obtain⟨i,hi,rfl⟩:=List.mem_iff_getElem.mp hx;rw[Yx,Xw]at hi;rw[List.getElem_drop];have hz:SetTable.below xs j+i<xs.size:=by omega
  have e1:xs.toList[SetTable.below xs j+i]'(by simpa using hz)=xs.getD (SetTable.below xs j+i) 0:=by simp[Array.getD,hz]
  rw[e1];have q1:=e _ (qh _) (show SetTable.below xs j<xs.size by omega);have q2:xs.getD (SetTable.below xs j) 0≠j:=λq=>n (by rw[xo (by omega),q]);by_cases z:i=0
  .subst z;rw[aag];omega
  .have:=h.lt (show SetTable.below xs j<SetTable.below xs j+i by omega) (by omega);omega
 have ht:∀x∈xs.toList.take (SetTable.below xs j),x<j:=by
  intro x hx;obtain⟨i,hi,rfl⟩:=List.mem_iff_getElem.mp hx;rw[Yn,Xw]at hi;rw[List.getElem_take];have hz:i<xs.size:=by omega
  have e1:xs.toList[i]'(by simpa using hz)=xs.getD i 0:=by simp[Array.getD,hz]
  rw[e1];exact d i (by omega)
 refine⟨h.sublist (List.take_sublist _ _),List.pairwise_cons.mpr ⟨hd,h.sublist (List.drop_sublist _ _)⟩,λa ha b hb=>?_⟩;rcases List.mem_cons.mp hb with rfl|hb
 .exact ht a ha
 .exact aaf (ht a ha) (hd b hb)
def CW(n:Nat):Rs (Array.range n):=by
 unfold Rs;rw[Array.toList_range];exact YW
noncomputable def Tw(t:SetTable):Prop:=t.dummies = #[]/\Rs t.place
def G6{j:Nat}:SetTable.has #[] j=false:=rfl
theorem uJ{t:SetTable}(hd:t.dummies = #[]){f:Nat->Int}{h:Int}:∀(n:Nat) (p:SetTable.Probe) {j:Nat}{d:Option Nat},p.dummy=none->SetTable.probe.go t f h n p=some (.empty j d)->d=none/\t.place[SetTable.below t.place j]?≠some j
 |0,p,j,d,hp,e=>by cases e
 |n+1,p,j,d,hp,e=>by
  unfold SetTable.probe.go at e;cases hs:t.slot p.j with
  |empty=>
   rw[hs]at e;dsimp only at e;injection e with e
   injection e with e1 e2
   subst e1;refine⟨by rw[<-e2];exact hp,λq=>?_⟩;unfold SetTable.slot at hs;dsimp only at hs;rw[q]at hs;simp at hs
  |dummy=>
   unfold SetTable.slot at hs;dsimp only at hs;rw[hd]at hs;split at hs<;>cases hs
  |live i=>
   rw[hs]at e;dsimp only at e;split at e
   .cases e
   .refine uJ hd n _ ?_ e;unfold SetTable.advance;split<;>exact hp
theorem Tw.standIn(t:SetTable)(n:Nat):Tw (t.standIn n):=⟨rfl,CW n⟩
def Tw.lay{t:SetTable}(w:Tw t){es:Array (Int×Value)}{h:Int}{x:Value}:Tw (layNew t es h x).2.1/\(layNew t es h x).2.1.led=t.led:=by
 unfold layNew;cases hf:t.freeSlot h with
 |none=>exact⟨.standIn _ _,rfl⟩
 |some q=>
  obtain⟨slot,wd⟩:=q;dsimp only;unfold SetTable.freeSlot at hf;split at hf
  .rename_i j d hp;obtain⟨rfl,hn⟩:=uJ w.1 _ _ rfl hp;cases hf;rw[show((none:Option Nat).getD j)=j from rfl];unfold SetTable.orStandIn;split
   .refine⟨⟨?_,AS w.2 hn⟩,rfl⟩;show(if SetTable.has t.dummies j then _ else t.dummies) = #[];rw[w.1,G6];rfl
   .exact⟨.standIn _ _,rfl⟩
  .cases hf
def Tw.CY{t:SetTable}(w:Tw t):Tw { t with plain:=false }:=w
def Tw.OY{t:SetTable}{es:Array (Int×Value)}{n:Nat}:Tw (relayAll t es n).2.1/\(relayAll t es n).2.1.led=t.led:=by
 unfold relayAll;cases hr:t.relaid (es.map (·.1)) n with
 |none=>exact⟨.standIn _ _,rfl⟩
 |some q=>
  obtain⟨t',o⟩:=q;dsimp only;split
  .unfold SetTable.relaid SetTable.laid at hr;obtain⟨ow,_,e⟩:=Option.bind_eq_some_iff.mp hr;cases e;refine⟨⟨rfl,?_⟩,rfl⟩;show List.Pairwise _ (List.map _ _);rw[Zp];refine List.Pairwise.filterMap _ (R:=(· < ·)) (λa b hab x hx y hy=>?_) YW;simp only[vv]at hx hy;obtain⟨_,_,rfl⟩:=hx;obtain⟨_,_,rfl⟩:=hy;exact hab
  .exact⟨.standIn _ _,rfl⟩
end Sm
namespace Sm
open PySem PySem.Spec PyProof.Rows L2
noncomputable def dF:Value->Key
 |.int n _=>.inl n
 |.str x _=>.inr x
 |_=>.inl 0
inductive Ky:Value->Prop where
 |i (n:Int) (t:Tok):Ky (.int n t)
 |s (x:Str) (t:Tok):Ky (.str x t)
def Ky.is{v:Value}(h:Ky v):kR (dF v) v=true:=by
 cases h
 .exact zM _ _
 .exact zO _ _
def Ky.sc{v:Value}(h:Ky v):v.scannable=true:=by cases h<;>rfl
inductive SW(P:Program)(w:World)(h:Heap)(a:Addr)(ks:List Key):Prop where
 |mk (es:Array (Int×Value)) (ep:Nat) (t:SetTable) (ob:h.get? a=some { cls:=.type "set",dict:=none,data:=.set es ep t })
   (el:∀e∈es.toList,e.1=(cL P w).hash (dF e.2)/\Ky e.2) (fit:t.fits es.size=true) (sm:es.size<scanBound) (tw:Tw t) (led:w.params.followText "set-order" = false->t.led=true)
   (pm:(es.toList.map λe=>dF e.2).Perm ks) (nd:ks.Nodup)
def OZ{P:Program}{w:World}{es:List (Int×Value)}(el:∀e∈es,e.1=(cL P w).hash (dF e.2)/\Ky e.2):ElemsOf (cL P w) es:=λe he=>
 ⟨⟨_,(el e he).2.is,(el e he).1⟩,(el e he).2.sc⟩
def SW.at'{P:Program}{w:World}{h h':Heap}{a:Addr}{ks:List Key}(z:SW P w h a ks)(k:∀o,h.get? a=some o->h'.get? a=some o):SW P w h' a ks:=by
 obtain⟨es,ep,t,ob,x⟩:=z;exact⟨es,ep,t,k _ ob,‹_›,‹_›,‹_›,‹_›,‹_›,‹_›,‹_›⟩
noncomputable def fK(ks:List Key)(k:Key):List Key:=open Classical in if k∈ks then ks else ks++[k]
def CZ(ks:List Key)(k:Key):(fK ks k).length<=ks.length+1:=by unfold fK;split<;>simp
def qQ{ks:List Key}{k:Key}(h:ks.Nodup):(fK ks k).Nodup:=by
 unfold fK;split
 .exact h
 .rename_i q;exact List.nodup_append.mpr ⟨h,by simp,λa ha b hb=>by simp at hb;subst hb;intro e;subst e;exact q ha⟩
section
variable{P:Program}{w:World}{A:Around}{E:Value->Shared->Prop}{s:Shared}
def G7{a:Addr}{ks:List Key}{x:Value}{Q:Bool->Shared->Prop}(hx:Ky x)(S:SW P w s.heap a ks)(hr:ks.length+1<scanBound)
  (h:∀b h',Heap.SameBut a s.heap h'->SW P w h' a (fK ks (dF x))->Q b { s with heap:=h' }):wpAny (model P w) A (setAddHashed a x ((cL P w).hash (dF x))) Q E s:=by
 obtain⟨es,ep,t,ob,el,fit,sm,tw,led,pm,nd⟩:=S;have hel:=OZ el;have hlen:es.size=ks.length:=by rw[<-pm.length_eq];simp
 unfold setAddHashed setAddHashedIn;refine X3 (fS (XY ob rfl fit ?_));dsimp only;rw[byScan_of hx.sc sm hel,xV rfl];unfold setAddByScan;refine fS (fS (YK (fS (wpAny_setScan_of (knd:=cL P w) hx.is ob rfl fit hel ?_))));have hmem:dF x∈ks↔∃e∈es.toList,(cL P w).is (dF x) e.2=true:=by
  rw[<-pm.mem_iff,List.mem_map];constructor
  .rintro⟨e,he,q⟩;exact⟨e,he,by rw[<-q];exact(el e he).2.is⟩
  .rintro⟨e,he,q⟩;exact⟨e,he,((cL P w).inj e.2 _ _ q (el e he).2.is).symm⟩
 cases hf:List.findIdx? (λe=>(cL P w).is (dF x) e.2) es.toList with
 |some j=>
  obtain⟨hj,hp,_⟩:=List.findIdx?_eq_some_iff_getElem.mp hf;have hin:dF x∈ks:=hmem.mpr ⟨_,List.getElem_mem hj,hp⟩;have hq:=h false s.heap (Heap.SameBut.refl a s.heap) ⟨es,ep,t,ob,el,fit,sm,tw,led,by rw[fK,xV hin];exact pm,qQ nd⟩;exact gV (gV hq)
 |none=>
  have hin:dF x∉ks:=λq=>by
   obtain⟨e,he,hp⟩:=hmem.mp q;have:=List.findIdx?_eq_none_iff.mp hf e he;rw[hp]at this;cases this
  have hk:fK ks (dF x)=ks++[dF x]:=by rw[fK,WQ hin]
  dsimp only;have gw:∀(b:Bool) {s1:Shared} {Q1:Unit->Shared->Prop},Q1 () s1->wpAny (model P w) A (match b with|true=>rule "set.scan.the-table-gave-way" |false=>pure ()) Q1 E s1:=λb s1 Q1 q=>by
   cases b
   .exact gV q
   .exact YK q
  obtain⟨AU,Lj⟩:=Tw.lay tw (es:=es) (h:=(cL P w).hash (dF x)) (x:=x);have xq:=layNew_perm t es ((cL P w).hash (dF x)) x;have AV:=layNew_fits t es ((cL P w).hash (dF x)) x;generalize layNew t es ((cL P w).hash (dF x)) x=L at AU Lj xq AV ⊢
  obtain⟨es1,t1,wd,gv⟩:=L;dsimp only at AU Lj xq AV ⊢;rw[Array.toList_push]at xq;have Q8:∀e∈es1.toList,e.1=(cL P w).hash (dF e.2)/\Ky e.2:=λe he=>by
   rcases List.mem_append.mp (xq.mem_iff.mp he)with q|q
   .exact el e q
   .rw[List.mem_singleton.mp q];exact⟨rfl,hx⟩
  have Q9:(es1.toList.map λe=>dF e.2).Perm (fK ks (dF x)):=by
   rw[hk];exact(xq.map _).trans (by rw[W0];exact pm.append_right _)
  have Ra:es1.size<scanBound:=by
   have:=xq.length_eq;simp at this;omega
  have Lk:w.params.followText "set-order" = false->t1.led=true:=λq=>by rw[Lj];exact led q
  refine fS (gw _ ?_);have fin:∀(t2:SetTable),Tw t2->t2.led=t1.led->t2.fits es1.size=true->wpAny (model P w) A (do
    storeSet a es1 t2
    if (!wd&&t2.tooFull)=true then do
      (match (relayAll t2 es1 (SetTable.grown es1.size)).2.2 with|true=>rule "set.scan.the-table-gave-way" |false=>pure ():Sem Unit)
      storeSet a (relayAll t2 es1 (SetTable.grown es1.size)).1 (relayAll t2 es1 (SetTable.grown es1.size)).2.1
      pure (some true)
     else pure (some true):Sem (Option Bool)) (λr s'=>∃h',r=some true/\s'={ s with heap:=h' }/\Heap.SameBut a s.heap h'/\SW P w h' a (fK ks (dF x))) E s:=by
   intro t2 U6 Rb U7;refine fS (wpAny_storeSet_of ob rfl ?_ (YQ Ra));have uK:(s.heap.update a (Obj.putSet es1 t2)).get? a=some { cls:=.type "set",dict:=none,data:=.set es1 (ep+1) t2 }:=WZ (Obj.putSet es1 t2) ob rfl;have Rc:=Xe s.heap a (Obj.putSet es1 t2);split
   .have AW:=relayAll_perm t2 es1 (SetTable.grown es1.size);have Ll:=relayAll_fits t2 es1 (SetTable.grown es1.size);obtain⟨Lm,Ln⟩:=Tw.OY (t:=t2) (es:=es1) (n:=SetTable.grown es1.size);generalize relayAll t2 es1 (SetTable.grown es1.size)=L at AW Ll Lm Ln ⊢
    obtain⟨Lo,t3,g3⟩:=L;dsimp only at AW Ll Lm Ln ⊢;have Rf:Lo.size<scanBound:=by
     have:=AW.length_eq;simp at this;omega
    refine fS (gw _ (fS (wpAny_storeSet_of uK rfl (gV ⟨_,rfl,rfl,Rc.trans (Xe _ a _),?_⟩) (YQ Rf))));exact⟨Lo,ep+1+1,t3,WZ (Obj.putSet Lo t3) uK rfl,λe he=>Q8 e (AW.mem_iff.mp he),Ll,Rf,Lm,λq=>by rw[Ln,Rb];exact Lk q,(AW.map _).trans Q9,qQ nd⟩
   .exact gV ⟨_,rfl,rfl,Rc,es1,ep+1,t2,uK,Q8,U7,Ra,U6,λq=>by rw[Rb];exact Lk q,Q9,qQ nd⟩
  split
  .refine fS ?_;rw[hashByValue_scannable 8 hx.sc];refine gV ?_;refine Xx (fin _ ?_ ?_ ?_) (λr s' q=>?_) λ_ _ q=>q
   .split
    .exact AU
    .exact AU.CY
   .split<;>rfl
   .split
    .exact AV
    .exact SetTable.fits_plain_off AV
   .obtain⟨h',rfl,rfl,sb,S'⟩:=q;exact gV (h _ _ sb S')
  .refine fS (gV ?_);rw[xV rfl];refine Xx (fin t1 AU rfl AV) (λr s' q=>?_) λ_ _ q=>q;obtain⟨h',rfl,rfl,sb,S'⟩:=q;exact gV (h _ _ sb S')
end
noncomputable def ig(ks:List Key)(vs:List Value):List Key:=vs.foldl (λk v=>fK k (dF v)) ks
theorem uL:∀(vs:List Value) (ks:List Key),(ig ks vs).length<=ks.length+vs.length
 |[],ks=>qh _
 |v :: vs,ks=>by
  have h1:=uL vs (fK ks (dF v));have h2:=CZ ks (dF v);show(ig (fK ks (dF v)) vs).length<=ks.length+(vs.length+1)
  omega
def C0(ks:List Key)(a b:List Value):ig ks (a++b)=ig (ig ks a) b:=Yt
section
variable{P:Program}{w:World}{A:Around}{E:Value->Shared->Prop}{s:Shared}
def C1{R:Result->Shared->Prop}{I S:Addr}{items:Array Value}{l:Addr}(hh:A.in1.handled=none)(hne:l≠I)(AX:S≠I)(U8:S≠l)(hb:items.size+1<scanBound)(hk:∀v∈items.toList,Ky v) :
  ∀(k i:Nat) (s:Shared),items.size - i=k->i<=items.size->s.heap.IsListIter I l i/\s.heap.IsList l items->SW P w s.heap S (ig [] (items.toList.take i))->
   (∀h' tk,(∀b o,b≠S->b≠I->s.heap.get? b=some o->h'.get? b=some o)->SW P w h' S (ig [] items.toList)->R (.ok (.ret .none)) { s with heap:=h',toks:=tk })->
   codeAny (model P w) A (.builtin "set.update.loop" ⟨[.ref S,.ref I],[]⟩) R s:=by
 have W:=Walks.list (prog:=P) (w:=w) hh I l hne items;intro k;induction k with
 |zero=>
  intro i s e1 e2 st hS hR;have:i=items.size:=by omega
  subst this;refine Xz F.entry_set_update_loop ?_;rw[Xo YO _];show wpAny _ A.in1 (pyNext (.ref I) >>= _) _ _ s;refine fS (W.done s _ _ st λh' tk q=>?_);refine gV (hR h' tk (λb o _ z=>q b o (by simpa using z)) (SW.at' (by
   rw[show items.toList.take items.size=items.toList from Xp (by simp)]at hS;exact hS) λo e=>q S o (by simpa using AX) e))
 |succ k ih=>
  intro i s e1 e2 st hS hR;have hlt:i<items.size:=by omega
  refine Xz F.entry_set_update_loop ?_;rw[Xo YO _];show wpAny _ A.in1 (pyNext (.ref I) >>= _) _ _ s;refine fS (W.item i s _ _ hlt st λv h1 t1 hv st1 q1=>?_);have hv':Ky v:=hk v (by
   have:items.toList[i]?=some v:=by rw[XQ];exact hv
   exact W2 this)
  have hS':=hS.at' (h':=h1) λo e=>q1 S o (by simpa using AX) e;show wpAny _ A.in1 (holding [v] (setAdd S v) >>= _) _ _ _;refine fS (X3 ?_);unfold setAdd;refine X3 (fS ((cL P w).pyHash hv'.is ?_));refine G7 (s:={ s with heap:=h1,toks:=t1+1 }) hv' hS' (by
   have:=uL (items.toList.take i) [];simp at this;omega) λb h2 sb S2=>?_
  refine gV ⟨XD YO _,ih (i+1) _ (by omega) (by omega) ?_ ?_ λh3 t3 q3 S3=>?_⟩
  .exact⟨st1.1.at λo e=>by rw[sb.2 I (XI AX)];exact e,st1.2.at λo e=>by rw[sb.2 l (XI U8)];exact e⟩
  .have ht:items.toList.take (i+1)=items.toList.take i++[v]:=by
    rw[Zo,XQ,hv];rfl
   rw[ht,C0];exact S2
  .refine hR h3 t3 (λb o a1 a2 e=>q3 b o a1 a2 ?_) S3;show h2.get? b=some o;rw[sb.2 b a1];exact q1 b o (by simpa using a2) e
def G8(a:Value){Q:Value->Shared->Prop}
  (h:Q (.ref s.heap.objs.size) { s with heap:=s.heap.push { cls:=.type "set",dict:=none,data:=.set #[] 0 (.fresh 0 0 (!w.params.followText "set-order"))}}) :
  codeAny (model P w) A (.call (.builtin "set.__new__") ⟨[.type "set",a],[]⟩) (wants Q E) s:=by
 refine Y5 ?_;refine fS (XG (PySem.F.newCall_set_1 a) (gV ⟨XD F.plain_set_new _,Xz F.entry_set_new ?_⟩));rw[Xo F.plain_set_new _];unfold Builtin.«set.__new__» Builtin.Frozenset.newClass;have hsub:=sub_set_self;obtain⟨hp,g,d,tk,os⟩:=s;dsimp only
 wp_walk
 refine Zy (gV ?_);dsimp only;simp only[newObj];exact fS (wpAny_alloc (gV (gV h)))
set_option maxHeartbeats 4000000 in
def C2{l:Addr}{items:Array Value}{Q:Value->Shared->Prop}(hh:A.handled=none)(hl:s.heap.IsList l items)(hk:∀v∈items.toList,Ky v)(hb:items.size+1<scanBound)
  (h:∀h' tk,SW P w h' s.heap.objs.size (ig [] items.toList)->(∀b o,s.heap.get? b=some o->h'.get? b=some o)->Q (.ref s.heap.objs.size) { s with heap:=h',toks:=tk }) :
  wpAny (model P w) A (call (.type "set") [.ref l]) Q E s:=by
 obtain⟨c,tl,hm⟩:=F.called_set.mro;have x1:=F.called_set.made;have x2:=F.called_set.sub;refine wpAny_call (Y5 ?_);show wpAny _ _ (callAny (.type "set") _) _ _ _;refine gV ⟨Code.quiet_builtin _ (by decide +kernel),Xz F.entry_type_call ?_⟩;rw[Around.under_plain (weight_type_call_type "set" [.ref l] []) rfl];have x3:=F.called_set.notType;have x4:=F.called_set.canCreate;have x5:=PySem.F.typeCall_set_1 (.ref l);repeat (any_goals (first|assumption|wp_step))
 refine Yu (G8 (.ref l) (E:=E) (Q:=λv s1=>v=.ref s.heap.objs.size/\s1={ s with heap:=s.heap.push { cls:=.type "set",dict:=none,data:=.set #[] 0 (.fresh 0 0 (!w.params.followText "set-order"))}}) ⟨rfl,rfl⟩) λr s1 q=>?_;cases r with
 |error e=>exact q
 |ok fl=>
  cases fl with
  |ret v=>
   obtain⟨rfl,rfl⟩:=q;generalize hso:({ cls:=.type "set",dict:=none,data:=.set #[] 0 (.fresh 0 0 (!w.params.followText "set-order"))}:Obj)=so
   have hS:(s.heap.push so).get? s.heap.objs.size=some so:=WM _ (by subst hso;rfl);have hT:Shared.TypeIs { s with heap:=s.heap.push so } (.ref s.heap.objs.size) "set" :=⟨_,hS,by subst hso;rfl⟩
   have y1:=F.called_set.init.lookup;have y2:=F.called_set.init.bind (.ref s.heap.objs.size);repeat (any_goals (first|assumption|wp_step))
   refine Yu (codeAny_call_builtin (R:=wants (λr s2=>r=.none/\∃h' tk,s2={ s with heap:=h',toks:=tk }/\SW P w h' s.heap.objs.size (ig [] items.toList)/\(∀b o,s.heap.get? b=some o->h'.get? b=some o)) E) F.called_set.init.plain F.entry_set_init (check_set_init_1 hT ?_)) λr2 s2 q2=>?_
   .obtain⟨ol,z1,z2,nl,z3⟩:=hl;obtain⟨c1,c2,c3,c4⟩:=ol;simp only at z2 z3;subst z2;subst z3;have z4:(s.heap.push so).get? l=some { cls:=.type "list",dict:=c2,data:=.seq items nl,slots:=c4 }:=lM _ z1;have n1:=PySem.F.sub_list_set;have n2:=PySem.F.sub_list_frozenset;have n3:(Value.type "list" ==Value.type "dict")=false:=by decide
    have hl1:(s.heap.push so).IsList l items:=⟨_,z4,rfl,nl,rfl⟩
    subst hso;unfold Builtin.«set.__init__» noKeywords Builtin.Frozenset.updateFrom;generalize U9:pyIter=PI
    wp_walk
    subst U9;refine wpAny_pyIter_list (l:=l) (items:=items) ?_ ?_
    .exact hl1
    refine fS (ZT ?_);have Rg:l<s.heap.objs.size:=Ur z1;refine C1 (I:=(s.heap.push _).objs.size) (l:=l) (items:=items) (by simp[hh]) (by rw[XN];exact WU (YR Rg)) (by rw[XN];exact WU (Ym _)) (Y3 Rg) hb hk (items.size - 0) 0 _ rfl (Xd _)
     ⟨⟨_,WM _ rfl,rfl,rfl⟩,hl1.push _⟩ ?_ λh' tk q S'=>?_
    .refine⟨#[],0,.fresh 0 0 (!w.params.followText "set-order"),?_,λe he=>by simp at he,rfl,by decide,⟨rfl,List.Pairwise.nil⟩,λz=>by show(!w.params.followText "set-order")=true;rw[z];rfl,?_,?_⟩
     .exact lM _ hS
     .simp[ig]
     .simp[ig]
    .show wpAny _ _ _ _ _ _;refine gV ?_;show wpAny _ _ (ret Value.none) _ _ _;refine gV ⟨rfl,h',tk,rfl,S',λb o e=>q b o (WU (Ur e)) ?_ (lM _ (lM _ e))⟩;rw[XN];exact WU (YR (Ur e))
   .cases r2 with
    |error e=>exact q2
    |ok f2=>
     cases f2 with
     |ret r=>
      obtain⟨rfl,h',tk,rfl,S',k'⟩:=q2;repeat (any_goals (first|assumption|wp_step))
      exact h _ _ S' k'
     |_=>exact q2.elim
  |_=>exact q.elim
end
def AY:entryFor table "set.__iter__" = some Builtin.«frozenset.__iter__»:=by
 refine ZU (id':="frozenset.__iter__") ?_ rfl ?_ ?_
 .kernel_rfl
 .decide +kernel
 .kernel_rfl
def jR:entryFor table "set_iterator.__next__" = some Builtin.«set_iterator.__next__»:=ZA (by kernel_rfl)
def ez:Slot "set_iterator" "__next__" "set_iterator.__next__" :=by
 refine .of (owner:="set_iterator") (n:="__next__") ?_ ?_ ?_ ?_ (.inl ?_) ?_
 .rw[Xy,Xb];kernel_rfl
 .decide +kernel
 .decide +kernel
 .decide +kernel
 .decide +kernel
 .rw[XM];kernel_rfl
def kZ (a:Value):argsOk "set_iterator.__next__" ⟨[a],[]⟩:=by unfold argsOk;kernel_rfl
def xr{α:Type}{l:List α}{i:Nat}(h:i<l.length):(l[i] :: l.eraseIdx i).Perm l:=by
 rw[List.eraseIdx_eq_take_drop_succ];refine List.perm_middle.symm.trans ?_;rw[<-YE h,List.take_append_drop]
theorem xu{α:Type}(nx:Nat->Nat):∀(f k:Nat) (l:List α) (out:Array α),f=l.length->(pickOrder.go nx f k l out).toList.Perm (out.toList++l)
 |0,k,l,out,e=>by
  have:l=[]:=Zb e.symm;subst this;unfold pickOrder.go;simp
 |f+1,k,l,out,e=>by
  have hl:nx k % l.length<l.length:=Nat.mod_lt _ (by omega);unfold pickOrder.go;rw[MZ hl];dsimp only;refine(xu nx f (k+1) _ _ (by rw[Zk hl];omega)).trans ?_;rw[Array.toList_push,Xi];exact(xr hl).append_left _
def sG{α:Type}(nx:Nat->Nat)(xs:Array α):(pickOrder nx xs).toList.Perm xs.toList:=by
 have:=xu nx xs.size 0 xs.toList #[] (by simp);simpa[pickOrder]using this
section
variable{P:Program}{w:World}{A:Around}{E:Value->Shared->Prop}{s:Shared}
def yS{src:Source}{n:Nat}{Q:Nat->Shared->Prop}(hn:n≠0)(h:∀i d,i<n->Q i { s with drawn:=d }):wpAny (model P w) A (choose src n) Q E s:=λΓ p _=>by
 show Sem.wp _ Γ (.choose src n .pure) _ _ p s;rw[Sem.wp_choose];exact⟨hn,h _ _ (Nat.mod_lt _ (Nat.pos_of_ne_zero hn))⟩
theorem xw{α:Type}:∀(n:Nat) (xs:List α) (s:Shared) {Q:List α->Shared->Prop},n=xs.length->(∀ys d,ys.Perm xs->Q ys { s with drawn:=d })->wpAny (model P w) A (drawOrder n xs) Q E s
 |0,xs,s,Q,e,h=>by
  have:xs=[]:=Zb e.symm;subst this;exact gV (h [] s.drawn .nil)
 |n+1,[],s,Q,e,h=>by cases e
 |n+1,x :: xs,s,Q,e,h=>by
  show wpAny _ _ (choose .order (x :: xs).length >>= _) _ _ _;refine fS (yS (by simp) λi d hi=>?_);rw[MZ hi];dsimp only;refine fS (xw n ((x :: xs).eraseIdx i) _ (by rw[Zk hi];omega) λys d' p=>?_);exact gV (h _ d' ((p.cons _).trans (xr hi)))
noncomputable def SO (h:Heap) (a:Addr) (es:Array (Int×Value)) (ep:Nat) (t:SetTable):Prop:=h.get? a=some { cls:=.type "set",dict:=none,data:=.set es ep t }
noncomputable def SI (h:Heap) (I a:Addr) (f:Value) (i n ep:Nat):Prop:=h.get? I=some { cls:=.type "set_iterator",dict:=none,data:=.fields #[f,.int i 0,.ref a,.int n 0,.int ep 0]}
def kr {Q:Bool->Shared->Prop}(h:Q (w.params.followText "set-order") s):wpAny (model P w) A setsByText Q E s:=fS (Zy (gV h))
def sH{Q:Option Value->Shared->Prop}(hh:A.handled=none)(h:∀h',(∀b o,s.heap.get? b=some o->h'.get? b=some o)->Q none { s with heap:=h' }) :
  wpAny (model P w) A.in1 (newExc (.type "StopIteration") [] >>= λx=>(raiseNew x:Sem PySem.Fin)) (λ_ _=>False) (λe s1=>wpAny (model P w) A (do
   if <-isInstance e (.type "StopIteration")then pure none else throw e) Q E s1) s:=by
 refine fS ?_;simp only[newExc,newTuple];refine fS (W7 ?_ (by size_fits));refine fS (m:=firstArgMember _ _) (XG (a:=Value.none) (by first|rfl | (simp only[firstArgMember];rfl)) ?_);refine W7 ?_ (by size_fits);simp only[raiseNew];refine fS (wpAny_handled ?_);rw[show A.in1.handled=none from hh];refine fS (gV (wpAny_throw ?_));refine fS (Yl (T:="StopIteration") (b:=true) ⟨_,WM _ rfl,rfl⟩ isSubtype_stop ?_);exact gV (h _ λb o e=>lM _ (lM _ e))
end
section
variable{P:Program}{w:World}{A:Around}{E:Value->Shared->Prop}{s:Shared}{I a:Addr}{es:Array (Int×Value)}{ep:Nat}{t:SetTable}
noncomputable def NX(P:Program)(w:World)(a:Addr)(es:Array (Int×Value))(ep:Nat)(t:SetTable)(slot i:Nat)(r:Option (Value×Nat)):Prop:=
 ∀(A:Around) (E:Value->Shared->Prop) (s:Shared) (Q:Option (Value×Nat)->Shared->Prop),SO s.heap a es ep t->Q r s->wpAny (model P w) A (setNext a slot i ep) Q E s
def SI.ty {f:Value}{i n:Nat}(h:SI s.heap I a f i n ep):s.TypeIs (.ref I) "set_iterator" :=⟨_,h,rfl⟩
def SO.ty (h:SO s.heap a es ep t):s.TypeIs (.ref a) "set" :=⟨_,h,rfl⟩
def Lp{slot i nx:Nat}{v:Value}{Q:Option Value->Shared->Prop}(hI:SI s.heap I a (.int slot 0) i es.size ep)(hS:SO s.heap a es ep t)(fit:t.fits es.size=true)(hne:a≠I)(hx:NX P w a es ep t slot i (some (v,nx)))
  (hQ:∀h',SI h' I a (.int nx 0) (i+1) es.size ep->Heap.SameBut I s.heap h'->Q (some v) { s with heap:=h' }):wpAny (model P w) A (pyNext (.ref I)) Q E s:=by
 unfold pyNext;refine fS (Yg (Xl (name:=Str.ofString "__next__") hI.ty ez (Xf ez hI.ty jR ?_ (kZ _))));refine fS (gV ?_);refine fS (Ze hI rfl ?_);refine fS (Yo hS rfl fit ?_);rw[WQ (by simp)];refine fS (hx _ _ _ _ hS ?_);dsimp only;refine fS (XJ hI rfl (by simp) ?_);have h1:SI (s.heap.update I (Obj.mapFields (·.setIfInBounds 0 (rawInt nx)))) I a (.int nx 0) i es.size ep:=WZ _ hI rfl;refine fS (XJ h1 rfl (by simp) ?_);refine gV ⟨_,rfl,gV (hQ _ ?_ ((Xe ..).trans (Xe ..)))⟩;exact WZ _ h1 rfl
def yT{slot i:Nat}{Q:Option Value->Shared->Prop}(hh:A.handled=none)(hI:SI s.heap I a (.int slot 0) i es.size ep)(hS:SO s.heap a es ep t)(fit:t.fits es.size=true)(hx:NX P w a es ep t slot i none)
  (hQ:∀h',Heap.ExtBut I s.heap h'->Q none { s with heap:=h' }):wpAny (model P w) A (pyNext (.ref I)) Q E s:=by
 unfold pyNext;refine fS (Yg (Xl (name:=Str.ofString "__next__") hI.ty ez (Xf ez hI.ty jR ?_ (kZ _))));refine fS (gV ?_);refine fS (Ze hI rfl ?_);refine fS (Yo hS rfl fit ?_);rw[WQ (by simp)];refine fS (hx _ _ _ _ hS ?_);dsimp only;refine fS (XJ hI rfl (by simp) ?_);refine Xx (sH (Q:=Q) (E:=E) (s:={ s with heap:=s.heap.update I (Obj.mapFields (·.setIfInBounds 2 Value.none))}) hh λh' k=>hQ h' ?_) (λ_ _ f=>f.elim) λe s1 q=>q;exact λb o e1 e2=>k b o ((Xe ..).extBut b o e1 e2)
noncomputable def TP (h:Heap) (T:Addr) (ps:List Nat):Prop:=h.get? T=some { cls:=.type "tuple",dict:=none,data:=.seq (ps.map λ(i:Nat)=>rawInt i).toArray }
def Lq{T:Addr}{ps:List Nat}{i p:Nat}{hv:Int}{v:Value}{Q:Option Value->Shared->Prop}(hI:SI s.heap I a (.ref T) i es.size ep)(hS:SO s.heap a es ep t)(fit:t.fits es.size=true)(hT:TP s.heap T ps)(hp:ps[i]?=some p)(hx:es[p]?=some (hv,v))
  (hQ:∀h',SI h' I a (.ref T) (i+1) es.size ep->Heap.SameBut I s.heap h'->Q (some v) { s with heap:=h' }):wpAny (model P w) A (pyNext (.ref I)) Q E s:=by
 unfold pyNext;refine fS (Yg (Xl (name:=Str.ofString "__next__") hI.ty ez (Xf ez hI.ty jR ?_ (kZ _))));refine fS (gV ?_);refine fS (Ze hI rfl ?_);refine fS (Yo hS rfl fit ?_);rw[WQ (by simp)];refine fS (ZS hT rfl ?_);dsimp only;have e1:((ps.map λ(i:Nat)=>rawInt i).toArray)[(Int.toNat ((i:Nat):Int))]?=some (rawInt p):=by
  rw[X0,YY,WX,hp];rfl
 rw[e1];show wpAny _ _ (setNextDrawn a (Int.toNat ((p:Nat):Int)) (Int.toNat ((ep:Nat):Int)) >>= _) _ _ _;unfold setNextDrawn;refine fS (fS (XY hS rfl fit ?_));dsimp only;rw[WQ (by simp),X0,hx];refine gV ?_;refine fS (XJ hI rfl (by simp) ?_);refine gV ⟨_,rfl,gV (hQ _ ?_ (Xe ..))⟩;exact WZ _ hI rfl
def yU{T:Addr}{ps:List Nat}{i:Nat}{Q:Option Value->Shared->Prop}(hh:A.handled=none)(hI:SI s.heap I a (.ref T) i es.size ep)(hS:SO s.heap a es ep t)(fit:t.fits es.size=true)(hT:TP s.heap T ps)(hp:ps[i]?=none)
  (hQ:∀h',Heap.ExtBut I s.heap h'->Q none { s with heap:=h' }):wpAny (model P w) A (pyNext (.ref I)) Q E s:=by
 unfold pyNext;refine fS (Yg (Xl (name:=Str.ofString "__next__") hI.ty ez (Xf ez hI.ty jR ?_ (kZ _))));refine fS (gV ?_);refine fS (Ze hI rfl ?_);refine fS (Yo hS rfl fit ?_);rw[WQ (by simp)];refine fS (ZS hT rfl ?_);dsimp only;have e1:((ps.map λ(i:Nat)=>rawInt i).toArray)[(Int.toNat ((i:Nat):Int))]?=none:=by
  rw[X0,YY,WX,hp];rfl
 rw[e1];dsimp only;refine fS (XJ hI rfl (by simp) ?_);have h1:SI (s.heap.update I (Obj.mapFields (·.setIfInBounds 0 (rawInt 0)))) I a (.int 0 0) i es.size ep:=WZ _ hI rfl;refine fS (XJ h1 rfl (by simp) ?_);refine Xx (sH (Q:=Q) (E:=E) hh λh' k=>hQ h' ?_) (λ_ _ f=>f.elim) λe s1 q=>q;exact λb o e1 e2=>k b o (((Xe ..).trans (Xe ..)).extBut b o e1 e2)
end
def AZ:entryFor table "set_iterator.__iter__" = some Builtin.«dict_keyiterator.__iter__»:=by
 refine ZU (id':="dict_keyiterator.__iter__") ?_ rfl ?_ ?_
 .kernel_rfl
 .decide +kernel
 .kernel_rfl
def uM:Slot "set_iterator" "__iter__" "set_iterator.__iter__" :=by
 refine .of (owner:="set_iterator") (n:="__iter__") ?_ ?_ ?_ ?_ (.inl ?_) ?_
 .rw[Xy,Xb];kernel_rfl
 .decide +kernel
 .decide +kernel
 .decide +kernel
 .decide +kernel
 .rw[XM];kernel_rfl
def C3 (a:Value):argsOk "set_iterator.__iter__" ⟨[a],[]⟩:=by unfold argsOk;kernel_rfl
section
variable{P:Program}{w:World}{A:Around}{E:Value->Shared->Prop}{s:Shared}{I a:Addr}{es:Array (Int×Value)}{ep:Nat}{t:SetTable}
def xx{f:Value}{i n:Nat}{Q:Value->Shared->Prop}(h:SI s.heap I a f i n ep)(q:Q (.ref I) s):wpAny (model P w) A (pyIter (.ref I)) Q E s:=by
 refine Zn h.ty uM (Xf uM h.ty AZ ?_ (C3 _));show wpAny _ _ (ret (.ref I)) _ _ s;exact gV ⟨_,rfl,"set_iterator",_,h.ty,ez.lookup,q⟩
noncomputable def xy(t:SetTable):Nat->Nat
 |0=>0
 |i+1=>t.place.getD i 0+1
def A2(fit:t.fits es.size=true):t.place.size=es.size:=by
 simp only[SetTable.fits,Vp,Z3]at fit;exact fit.1
def Lr (hb:w.params.followText "set-order" = false) (led:t.led=true) (tw:Tw t) (fit:t.fits es.size=true) (dr:(!t.plain&&decide (es.size > 1))=false) {i:Nat} {e:Int×Value} (hx:es[i]?=some e):NX P w a es ep t (xy t i) i (some (e.2,xy t (i+1))):=by
 intro A E s Q hS q;have hi:i<t.place.size:=by rw[A2 fit];exact(Array.getElem?_eq_some_iff.mp hx).1
 have Ls:SetTable.below t.place (xy t i)=i:=by
  refine below_at tw.2 hi ?_ λk hk=>?_
  .cases i with
   |zero=>exact Xd _
   |succ i=>exact tw.2.lt (Ym i) hi
  .cases i with
   |zero=>omega
   |succ i=>
    show _<t.place.getD i 0+1;by_cases z:k=i
    .rw[z];omega
    .have:=tw.2.lt (show k<i by omega) (by omega);omega
 unfold setNext;refine fS (XY hS rfl fit ?_);dsimp only;refine fS (kr ?_);rw[hb,WQ Xv];refine W5 (λz=>absurd z (by show ¬ (!t.plain&&decide (es.size > 1))=true;rw[dr];exact Xv)) λ_=>?_;refine fS ?_;show wpAny _ _ (if (!t.led&&!es.isEmpty)=true then unsupported "set:maker-not-led" else pure ()) _ _ _;rw[led];refine gV (gV ?_);rw[Ls,hx,xo hi];exact q
def yV (hb:w.params.followText "set-order" = false) (led:t.led=true) (tw:Tw t) (fit:t.fits es.size=true) (dr:(!t.plain&&decide (es.size > 1))=false):NX P w a es ep t (xy t es.size) es.size none:=by
 intro A E s Q hS q;have Ls:SetTable.below t.place (xy t es.size)=es.size:=by
  rw[<-A2 fit];refine AR tw.2 λk hk=>?_;cases hz:t.place.size with
  |zero=>omega
  |succ i=>
   show _<t.place.getD i 0+1;by_cases z:k=i
   .rw[z];omega
   .have:=tw.2.lt (show k<i by omega) (by omega);omega
 unfold setNext;refine fS (XY hS rfl fit ?_);dsimp only;refine fS (kr ?_);rw[hb,WQ Xv];refine W5 (λz=>absurd z (by show ¬ (!t.plain&&decide (es.size > 1))=true;rw[dr];exact Xv)) λ_=>?_;refine fS ?_;show wpAny _ _ (if (!t.led&&!es.isEmpty)=true then unsupported "set:maker-not-led" else pure ()) _ _ _;rw[led];refine gV (gV ?_);rw[Ls,ZR (qh _)];exact q
def A3 (hb:w.params.followText "set-order" = true) (fit:t.fits es.size=true) (i:Nat):NX P w a es ep t 0 i (((pickOrder (w.params.setOrder a ep) es)[i]?).map λe=>(e.2,0)):=by
 intro A E s Q hS q;unfold setNext;refine fS (XY hS rfl fit ?_);dsimp only;refine fS (kr ?_);rw[hb,xV rfl,WQ (by simp)];unfold setWalk;refine fS (fS (XY hS rfl fit ?_));dsimp only;refine fS (kr ?_);rw[hb,xV rfl];exact fS (Zy (gV (gV q)))
def C4 {Q:Value->Shared->Prop}(hS:SO s.heap a es ep t) (fit:t.fits es.size=true) (sm:es.size<scanBound) (tw:Tw t) (led:w.params.followText "set-order" = false->t.led=true)
  (h:∀(I:Addr) (h':Heap) d (vs:List Value) (St:Nat->Heap->Prop) (fp:List Addr),vs.Perm (es.toList.map (·.2))->(∀A:Around,A.handled=none->Walks P w A I fp [I] es.size (λi v=>vs[i]?=some v) St)->St 0 h'->
   (∀b o,s.heap.get? b=some o->h'.get? b=some o)->s.heap.objs.size<=I->(∀b∈fp,b=a\/s.heap.objs.size<=b)->Q (.ref I) { s with heap:=h',drawn:=d }) :
  wpAny (model P w) A (pyIter (.ref a)) Q E s:=by
 have E5:a<s.heap.objs.size:=Ur hS;refine Zn hS.ty ZW (Xf ZW hS.ty AY ?_ (PySem.F.args_set_iter_1 _));unfold Builtin.«frozenset.__iter__» Builtin.Frozenset.slot0;refine fS (fS (gV (gV ?_)));unfold Builtin.Frozenset.sizeOf;refine fS (fS (Yo hS rfl fit (gV ?_)));refine fS ?_;unfold setDrawn;refine fS (XY hS rfl fit ?_);dsimp only;refine fS (kr (gV ?_));have last:∀(s1:Shared) (f:Value) (St:Nat->Heap->Prop) (fp:List Addr) (vs:List Value),SO s1.heap a es ep t->s.heap.objs.size<=s1.heap.objs.size->s1.gens=s.gens->s1.toks=s.toks->s1.os=s.os->(∀b o,s.heap.get? b=some o->s1.heap.get? b=some o)->vs.Perm (es.toList.map (·.2))->
   (∀A:Around,A.handled=none->Walks P w A s1.heap.objs.size fp [s1.heap.objs.size] es.size (λi v=>vs[i]?=some v) St)->(∀b∈fp,b=a\/s.heap.objs.size<=b)->
   (∀h',SI h' s1.heap.objs.size a f 0 es.size ep->(∀b o,s1.heap.get? b=some o->h'.get? b=some o)->St 0 h')->
   wpAny (model P w) A.in1 (do ret (<-newFields "set_iterator" [f,rawInt 0,.ref a,rawInt es.size,rawInt (<-setEpoch a)])) (λx s2=>∃v,x=PySem.Fin.done (.ret v)/\∃T idx,s2.TypeIs v T/\typeLookup (.type T) (Str.ofString "__next__")=pure (some idx)/\Q v s2) E s1:=by
  intro s1 f St fp vs AX l1 l2 l3 l4 l5 pv W hf hst;refine fS (wpAny_setEpoch_of AX rfl fit ?_);refine fS (W7 (gV ⟨_,rfl,"set_iterator",_,⟨_,WM _ rfl,rfl⟩,ez.lookup,?_⟩));have hq:=h s1.heap.objs.size _ s1.drawn vs St fp pv W (hst (s1.heap.push { cls:=.type "set_iterator",dict:=none,data:=.fields #[f,.int 0 0,.ref a,.int es.size 0,.int ep 0]}) (WM _ rfl) λb o e=>lM _ e) (λb o e=>lM _ (l5 b o e)) l1 hf;obtain⟨p1,p2,p3,p4,p5⟩:=s1;simp only at l2 l3 l4;subst l2;subst l3;subst l4;exact hq
 refine W5 (λz=>?_) λz=>?_
 .have hz:es.size<=sizeLine:=YQ sm;refine fS (xw _ _ _ (by simp) λps d pp=>?_);have pl:ps.length=es.size:=by rw[pp.length_eq];simp
  refine fS (wpAny_newTuple ?_ (by rw[W6,pl];exact hz));have hlt:∀p∈ps,p<es.size:=λp hp=>List.mem_range.mp (pp.mem_iff.mp hp);generalize hto:({ cls:=.type "tuple",data:=.seq (ps.map λ(i:Nat)=>rawInt i).toArray }:Obj)=to
  refine last { s with heap:=s.heap.push to,drawn:=d } (.ref s.heap.objs.size) (λi h=>SI h (s.heap.push to).objs.size a (.ref s.heap.objs.size) i es.size ep/\SO h a es ep t/\TP h s.heap.objs.size ps) [(s.heap.push to).objs.size,a,s.heap.objs.size] (ps.map λp=>((es[p]?).map (·.2)).getD .none)
   (lM _ hS) (by rw[XN];exact YC _) rfl rfl rfl (λb o e=>lM _ e) ?_ (λA1 hh=>?_) ?_ λh' x k=>⟨x,k _ _ (lM _ hS),k _ _ (by subst hto;exact WM _ rfl)⟩
  .refine(pp.map _).trans (List.Perm.of_eq ?_);refine List.ext_getElem (by simp) λi h1 h2=>?_;have hi:i<es.size:=by simpa using h1
   simp[XA hi]
  .have ne1:a≠(s.heap.push to).objs.size:=by rw[XN];exact WU (YR E5)
   have ne2:s.heap.objs.size≠(s.heap.push to).objs.size:=by rw[XN];exact WU (Ym _)
   exact {
    sub:=λb hb=>by simp at hb;simp[hb]
    frame:=λi h h' st hk=>⟨hk _ (by simp) _ st.1,hk _ (by simp) _ st.2.1,hk _ (by simp) _ st.2.2⟩
    item:=λi s1 Q1 E1 hi st hq=>by
     have hp:ps[i]?=some (ps[i]'(by rw[pl];exact hi)):=MZ _;have hp2:ps[i]'(by rw[pl];exact hi)<es.size:=hlt _ (List.getElem_mem _);refine Lq (hv:=(es[ps[i]'(by rw[pl];exact hi)]).1) (v:=(es[ps[i]'(by rw[pl];exact hi)]).2) st.1 st.2.1 fit st.2.2 hp (XA hp2) λh' a1 a2=>hq _ h' s1.toks ?_ ⟨a1,?_,?_⟩ λb o hb e=>?_
     .rw[WX,hp];simp[XA hp2]
     .exact(a2.2 _ ne1).trans st.2.1
     .exact(a2.2 _ ne2).trans st.2.2
     .exact(a2.2 _ (by simpa using hb)).trans e
    done:=λs1 Q1 E1 st hq=>yU hh st.1 st.2.1 fit st.2.2 (W8 (by rw[pl];exact qh _)) λh' a1=>hq h' s1.toks λb o hb e=>a1 b o (by simpa using hb) e
    self:=λi s1 Q1 E1 st hq=>xx st.1 hq }
  .intro b hb;simp at hb;rcases hb with rfl|rfl|rfl
   .exact .inr (by exact YC _)
   .exact .inl rfl
   .exact .inr (qh _)
 .refine fS (gV ?_);have ne1:a≠s.heap.objs.size:=WU E5;have hf:∀b∈[s.heap.objs.size,a],b=a\/s.heap.objs.size<=b:=λb hb=>by
   simp at hb;rcases hb with rfl|rfl
   .exact .inr (qh _)
   .exact .inl rfl
  have go:∀(sl:Nat->Nat) (vs:List Value),sl 0=0->vs.Perm (es.toList.map (·.2))->(∀i v,vs[i]?=some v->NX P w a es ep t (sl i) i (some (v,sl (i+1))))->NX P w a es ep t (sl es.size) es.size none->wpAny (model P w) A.in1 (do ret (<-newFields "set_iterator" [rawInt 0,rawInt 0,.ref a,rawInt es.size,rawInt (<-setEpoch a)])) (λx s2=>∃v,x=PySem.Fin.done (.ret v)/\∃T idx,s2.TypeIs v T/\typeLookup (.type T) (Str.ofString "__next__")=pure (some idx)/\Q v s2) E s:=by
   intro sl vs e0 pv hx hend;have vl:vs.length=es.size:=by rw[pv.length_eq];simp
   refine last s (rawInt 0) (λi h=>SI h s.heap.objs.size a (.int (sl i) 0) i es.size ep/\SO h a es ep t) [s.heap.objs.size,a] vs hS (qh _) rfl rfl rfl (λb o e=>e) pv (λA1 hh=>?_) hf λh' x k=>⟨by rw[e0];exact x,k _ _ hS⟩
   exact {
    sub:=λb hb=>by simp at hb;simp[hb]
    frame:=λi h h' st hk=>⟨hk _ (by simp) _ st.1,hk _ (by simp) _ st.2⟩
    item:=λi s1 Q1 E1 hi st hq=>by
     have hp:vs[i]?=some (vs[i]'(by rw[vl];exact hi)):=MZ _;refine Lp st.1 st.2 fit ne1 (hx i _ hp) λh' a1 a2=>hq _ h' s1.toks hp ⟨a1,?_⟩ λb o hb e=>?_
     .exact(a2.2 _ ne1).trans st.2
     .exact(a2.2 _ (by simpa using hb)).trans e
    done:=λs1 Q1 E1 st hq=>yT hh st.1 st.2 fit hend λh' a1=>hq h' s1.toks λb o hb e=>a1 b o (by simpa using hb) e
    self:=λi s1 Q1 E1 st hq=>xx st.1 hq }
  cases hb:w.params.followText "set-order" with
  |true=>
   refine go (λ_=>0) ((pickOrder (w.params.setOrder a ep) es).toList.map (·.2)) rfl ((sG _ _).map _) (λi v e=>?_) ?_
   .rw[WX,XQ]at e;obtain⟨x,x1,x2⟩:=Option.map_eq_some_iff.mp e;have:=A3 (P:=P) (a:=a) (ep:=ep) hb fit i;rw[x1]at this;subst x2;exact this
   .have:=A3 (P:=P) (a:=a) (ep:=ep) hb fit es.size;rw[ZR (by rw[<-Xw,(sG _ _).length_eq];simp)]at this;exact this
  |false=>
   have dr:(!t.plain&&decide (es.size > 1))=false:=by
    rw[hb]at z;cases hd:(!t.plain&&decide (es.size > 1))with
    |false=>rfl
    |true=>exact absurd hd z
   refine go (xy t) (es.toList.map (·.2)) rfl .rfl (λi v e=>?_) (yV hb (led hb) tw fit dr);rw[WX,XQ]at e;obtain⟨x,x1,x2⟩:=Option.map_eq_some_iff.mp e;subst x2;exact Lr hb (led hb) tw fit dr x1
end
end Sm
namespace Sm
open PySem PySem.Spec PyProof.Rows L2 PySem.SeqAt
open Ev (D O Hh Fr R aL E Es Eo T S Ss Fl Src bh aZ TY BI ME)
section
variable{P:Program}{w:World}{A:Around}{E:Value->Shared->Prop}{s:Shared}
def C5 {r:Addr}{Q:Bool->Shared->Prop}(hT:s.TypeIs (.ref r) "set") (h:Q false s):wpAny (model P w) A (Builtin.List.listLengthHint (.ref r)) Q E s:=by
 unfold Builtin.List.listLengthHint;refine fS (XT hT PySem.F.slot_set_len.lookup ?_);generalize hid:("set.__len__" : String)=i0
 wp_delta
 rw[show splitId i0=some ("set","__len__")from by subst hid;decide +kernel];subst hid;refine fS (Yl (T:="set") (b:=true) hT sub_set_self ?_);refine W5 (λz=>absurd z (by decide)) λ_=>?_;refine W5 (λ_=>?_) λz=>absurd (by decide +kernel) z;exact fS (Yk hT (gV h))
def vW{a:Addr}{ks:List Key}{R:List Value->Shared->Prop}(hh:A.handled=none)(S:SW P w s.heap a ks)
  (h:∀(h':Heap) (tk:Nat) d (vs:List Value),(∀b o,s.heap.get? b=some o->h'.get? b=some o)->(vs.map dF).Perm ks->(∀v∈vs,Ky v)->R vs { s with heap:=h',toks:=tk,drawn:=d }) :
  wpAny (model P w) A (collect (.ref a)) R E s:=by
 obtain⟨es,ep,t,ob,el,fit,sm,tw,led,pm,nd⟩:=S;have hn:es.size<=sizeLine:=YQ sm;have E5:a<s.heap.objs.size:=Ur ob;unfold collect;refine fS (ZT (Xz entry_proto_collect' ?_));rw[Xo PySem.F.plain_proto_collect _];refine fS (W7 ?_);refine gV ⟨XD ZI _,Xz entry_list_iadd' ?_⟩;rw[Xo ZI _];show wpAny _ A.in1 (Builtin.List.listExtendWith (.ref s.heap.objs.size) (.ref a) (.ref s.heap.objs.size)) _ _ _;generalize hlo:({ cls:=.type "list",data:=.seq ([]:List Value).toArray }:Obj)=lo
 have hL:(s.heap.push lo).get? s.heap.objs.size=some { cls:=.type "list",data:=.seq #[]}:=by subst hlo;exact WM _ rfl
 have uK:SO (s.heap.push lo) a es ep t:=lM _ ob;have Rh:s.heap.objs.size≠a:=Y3 E5;unfold Builtin.List.listExtendWith;refine fS (Yk (T:="set") (SO.ty (s:={ s with heap:=s.heap.push lo }) uK) ?_);have e1:Builtin.List.listSameRef (.ref s.heap.objs.size) (.ref a)=false:=by simp[Builtin.List.listSameRef,Rh]
 have e2:(Value.type "set" ==Value.type "list")=false:=by decide
 have e3:(Value.type "set" ==Value.type "tuple")=false:=by decide
 simp only[e1,e2,e3,aaa,W4,XH];refine fS (C4 (s:={ s with heap:=s.heap.push lo }) uK fit sm tw led λI h1 d vs St fp pv W st k1 lI hf=>?_);have Lu:=k1 _ _ hL;have hLf:s.heap.objs.size∉fp:=λq=>by
  rcases hf _ q with z|z
  .exact Rh z
  .rw[show(({ s with heap:=s.heap.push lo }:Shared).heap.objs.size)=s.heap.objs.size+1 from XN _ _]at z;exact absurd z (Nat.not_succ_le_self _)
 refine fS (X3 (C5 (SO.ty (s:={ s with heap:=h1,drawn:=d }) (k1 _ _ uK)) ?_));have fin:∀(h2:Heap) (tk c:Nat),St 0 h2->(∀b o,b≠s.heap.objs.size->h1.get? b=some o->h2.get? b=some o)->h2.get? s.heap.objs.size=some { cls:=.type "list",data:=.seq #[] c }->
   codeAny (model P w) A (.builtin "list.extend.loop" ⟨[.ref s.heap.objs.size,.ref I,.ref s.heap.objs.size],[]⟩) (λq s'=>∃h' tk acc c',q=.ok (.ret (.ref s.heap.objs.size))/\s'={ s with heap:=h',toks:=tk,drawn:=d }/\(∀b o,s.heap.get? b=some o->h'.get? b=some o)/\h'.get? s.heap.objs.size=some { cls:=.type "list",dict:=none,data:=.seq acc c',slots:=#[]}/\acc.toList=vs) { s with heap:=h2,toks:=tk,drawn:=d }:=by
  intro h2 tk c st2 k2 Va;refine Y9 (W A.in1 (by simpa using hh)).toS hn _ hLf _ es.size 0 _ #[] c rfl (Xd _) st2 Va (ItemsOf.nil _) λs' acc c' hm hL' hacc=>?_;have z:=Z9 hm;rw[z];refine⟨s'.heap,s'.toks,acc,c',rfl,rfl,λb o e=>?_,hL',?_⟩
  .have lb:=Ur e;refine hm.heap b o (λq=>?_) (k2 b o (WU lb) (k1 b o (lM _ e)));rcases List.mem_cons.mp q with z|z
   .exact WU lb z
   .rw[List.mem_singleton.mp z]at lb;have:s.heap.objs.size+1<=I:=by rw[<-XN s.heap lo];exact lI
    exact absurd (Rt lb (YC _)) (Nat.not_lt.mpr this)
  .refine Zq λi=>?_;have vl:vs.length=es.size:=by rw[pv.length_eq];simp
   by_cases hi:i<es.size
   .obtain⟨v,hv⟩:∃v,acc[i]?=some v:=⟨acc[i]'(by rw[hacc.1];exact hi),XA _⟩
    rw[XQ,hv];exact(hacc.2 i v hv).symm
   .rw[W8 (by rw[Xw,hacc.1];omega),W8 (by omega)]
 have done:∀(h':Heap) (tk':Nat) (acc:Array Value) (c':Nat),(∀b o,s.heap.get? b=some o->h'.get? b=some o)->h'.get? s.heap.objs.size=some { cls:=.type "list",dict:=none,data:=.seq acc c',slots:=#[]}->acc.toList=vs->
   wpAny (model P w) A (load s.heap.objs.size >>= λo=>match o.data with|.seq xs _=>pure xs.toList|_=>unsupported "internal:collect") R E { s with heap:=h',toks:=tk',drawn:=d }:=by
  intro h' tk' acc c' k' g' av;refine fS (wpAny_load g' (gV ?_));rw[av];refine h h' tk' d vs k' ?_ λv hv=>?_
  .refine(pv.map dF).trans ?_;rw[XS];exact pm
  .obtain⟨e,he,rfl⟩:=List.mem_map.mp (pv.mem_iff.mp hv);exact(el e he).2
 refine W5 (λ_=>?_) λ_=>?_
 .refine fS (YK (fS ?_));show wpAny _ _ (updateSeq s.heap.objs.size (·.push .none) >>= λ_=>updateSeq s.heap.objs.size (·.pop)) _ _ _;refine fS (YD Lu rfl ?_);have u1:=WZ (Obj.mapSeq (·.push Value.none)) Lu rfl;refine YD (hz:=by seq_fits) u1 rfl ?_;have u2:=WZ (Obj.mapSeq (·.pop)) u1 rfl;refine gV ⟨XD Zu _,Yu (fin _ s.toks _ ?_ (λb o hb e=>?_) u2) λr s' q=>?_⟩
  .refine(W A.in1 (by simpa using hh)).frame 0 _ _ st λb hb o e=>?_;have Ri:b≠s.heap.objs.size:=λz=>hLf (z▸hb);exact(Xq _ _ (XI Ri)).trans ((Xq _ _ (XI Ri)).trans e)
  .exact(Xq _ _ (XI hb)).trans ((Xq _ _ (XI hb)).trans e)
  .obtain⟨h',tk',acc,c',rfl,rfl,k',g',av⟩:=q;exact done h' tk' acc c' k' g' av
 .refine gV ⟨XD Zu _,Yu (fin _ s.toks 0 st (λb o _ e=>e) Lu) λr s' q=>?_⟩;obtain⟨h',tk',acc,c',rfl,rfl,k',g',av⟩:=q;exact done h' tk' acc c' k' g' av
def yW{a:Addr}{ks:List Key}{ns:List Int}{Q:Value->Shared->Prop}(S:SW P w s.heap a ks)(hh:A.handled=none)(hk:ks=ns.map Sum.inl)(h64:ns.length<64)
  (h:∀(h1 h2:Heap) (tk:Nat) d (out:Array Value) (ns':List Int) (e:Nat),(∀b o,s.heap.get? b=some o->h1.get? b=some o)->(∀b o,h1.get? b=some o->h2.get? b=some o)->h2.get? h1.objs.size=some (seqObj "list" out e)->IntsAre out.toList ns'->ns'.Perm ns->ns'.Pairwise (·<=·)->Q (.ref h1.objs.size) { s with heap:=h2,toks:=tk,drawn:=d }) :
  wpAny (model P w) A (call (.builtin "sorted") [.ref a]) Q E s:=by
 refine Calls.call_function_entry kind_sorted plain_sorted entry_sorted (args_sorted1 _) ?_;unfold Builtin.«sorted»;refine fS (m:=checkCount "sorted" 1 1 _) (gV ?_);refine fS (vW (A:=A.in1) hh S λh' tk d vs k pm ky=>?_);have hl:vs.length=ns.length:=by
  have:=pm.length_eq;rw[hk]at this;simpa using this
 have hsz:vs.length<=sizeLine:=WV (Zx (by rw[hl];exact h64)) (by decide);refine fS (wpAny_newList ?_ hsz);obtain⟨is,hI,hp⟩:∃is:List Int,IntsAre vs is/\is.Perm ns:=by
  have:∀vs:List Value,(∀v∈vs,Ky v)->(∀k∈vs.map dF,∃i:Int,k=Sum.inl i)->∃is:List Int,IntsAre vs is/\vs.map dF=is.map Sum.inl:=by
   intro vs;induction vs with
   |nil=>intro _ _;exact⟨[],.nil,rfl⟩
   |cons v vs ih=>
    intro q1 q2;obtain⟨is,j1,j2⟩:=ih (λv hv=>q1 v (by simp[hv])) (λk hk=>q2 k (by simp at hk ⊢;exact .inr hk));have:=q1 v (by simp);cases this with
    |i n t=>exact⟨n :: is,.cons n t j1,by simp[dF,j2]⟩
    |s x t=>
     obtain⟨i,z⟩:=q2 (.inr x) (by simp[dF]);cases z
  obtain⟨is,j1,j2⟩:=this vs ky λk hk'=>by
   have:=pm.mem_iff.mp hk';rw[hk]at this;obtain⟨i,_,rfl⟩:=List.mem_map.mp this;exact⟨i,rfl⟩
  refine⟨is,j1,?_⟩;rw[j2,hk]at pm;have:=pm.filterMap (λk:Key=>match k with|.inl i=>some i|.inr _=>none);have fe:((λk:Key=>match k with|.inl i=>some i|.inr _=>none) ∘ (Sum.inl:Int->Key))=some:=rfl;rw[Zi,Zi,fe,aae,aae]at this;exact this
 have zT:(h'.push (seqObj "list" vs.toArray 0)).get? h'.objs.size=some (seqObj "list" vs.toArray 0):=WM _ rfl;refine fS (X3 (Xf slot_list_sort ⟨_,zT,rfl⟩ entry_list_sort (list_sort_tree zT hI (by rw[hl];exact h64) λout ns' a1 a2 a3=>⟨_,rfl,?_⟩) (args_list_sort _)));obtain⟨e,he⟩:=sortedHeap_at (out:=out) zT;exact gV ⟨_,rfl,h h' _ tk d out ns' e k (λb o e2=>by
  have lt:=Ur e2;rw[sortedHeap_old (WU lt) (by rw[size_push'];exact YR lt),Heap.get?_push_ne _ _ _ (WU lt)];exact e2) he a1 (a2.trans hp) a3⟩
end
theorem sI:∀{vs:List Value}{is:List Int}(ns:List Int),IntsAre vs is->ig (ns.map Sum.inl) vs=(is.foldl (λa k=>if k∈a then a else a++[k]) ns).map Sum.inl
 |_,_,ns,.nil=>rfl
 |_,_,ns,.cons n t h=>by
  have e:fK (ns.map Sum.inl) (dF (.int n t))=(if n∈ns then ns else ns++[n]).map Sum.inl:=by
   show fK (ns.map Sum.inl) (Sum.inl n)=_;unfold fK;by_cases q:n∈ns
   .rw[xV (List.mem_map.mpr ⟨n,q,rfl⟩),xV q]
   .rw[WQ (λz=>by obtain⟨x,x1,x2⟩:=List.mem_map.mp z;cases x2;exact q x1),WQ q,W0];rfl
  show ig (fK (ns.map Sum.inl) (dF (.int n t))) _=_;rw[e,sI _ h];rfl
theorem xA:∀{vs:List Value}{is:List Int},IntsAre vs is->∀v∈vs,Ky v
 |_,_,.nil,v,h=>by cases h
 |_,_,.cons n t h,v,hv=>by
  rcases List.mem_cons.mp hv with rfl|hv
  .exact .i n t
  .exact xA h v hv
section
variable{X:Cx}{G:Tb}{n:Nat}{sc:Scope}{N:List Str}{df:Bool}{m:List Nat}{a:E}{xa:Expr}{pos:Pos}
def A4{pins:List (Addr×Obj)}{σ:L2.St}{H:Hp}{s:Shared}{d:Drawn}(I:Inv X pins σ H s):Inv X pins σ H { s with drawn:=d }:=
 ⟨I.ok,I.os,I.bare,I.base,I.loc,I.cell,I.free,I.gW,I.pin,I.hok,I.len⟩
def C6 {p p2 pos2:Pos}(ha:JE G n sc N df m a xa) (h1:("sorted" : Str)∈G.bl:=by decide +kernel) (uE:sc.names.lookup ("sorted" : Str)=some .globalImplicit:=by rfl)
  (hg:sc.names.lookup ("set" : Str)=some .globalImplicit:=by rfl) (hb:("set" : Str)∈G.bl:=by decide +kernel)
  (hst:∀env:Env,starEach [xa] env=[(false,eval xa env)]:=by intro _;rfl)
  (mK:∀env:Env,starEach [Expr.Call (.Name "set" p2) [xa] [] pos2] env=[(false,eval (Expr.Call (.Name "set" p2) [xa] [] pos2) env)]:=by intro _;rfl) :
  JE G n sc N df m (.bi .kY (.cons a .nil)) (.Call (.Name "sorted" p) [.Call (.Name "set" p2) [xa] [] pos2] [] pos):=λX g=>by
 intro pins s σ H Q I q;obtain⟨r,fr,h,d,h',sr,hr,e,q⟩:=q;rw[Ev.ev]at e;obtain⟨ds,h3,e2,e⟩:=Ev.ah e;refine Yc (gX I (g.gl uE) (g.bl _ h1) (show bootBuiltins ("sorted" : Str)=some (.builtin "sorted")by decide +kernel) ?_ (by decide) (by decide));refine Za ?_ (mK _) rfl;rw[mK];show wpAny _ _ (spliced ((false,eval (Expr.Call (.Name "set" p2) [xa] [] pos2) X.env) :: backTo pos [])) _ _ s;refine YH ?_;have AN:PA X [xa] _:=kh (ha X g) mz (by rw[hst];rfl);rw[Ev.bZ]at e2;obtain⟨x,h4,e3,e4⟩:=Ev.ah e2;rw[Ev.bZ]at e4;cases e4;refine Call_ (gX I (g.gl hg) (g.bl _ hb) (show bootBuiltins ("set" : Str)=some (.type "set")by decide +kernel) (Xj (bQ (AN pos2 pins s σ H (λvs H1=>∃r1 u,vs=[u]/\RV X.K H1 r1 x u/\HR X.K H1 r1 h3/\Fm X.K r r1 H H1) I ⟨r,fr,h,x,h3,sr,hr,e3,λu H1 r1 v1 hr1 f1=>⟨r1,u,rfl,v1,hr1,f1⟩⟩) λus s1 z=>?_) (hst _) rfl));obtain⟨vs,H1,I1,rv,r1,u,rfl,v1,hr1,f1⟩:=z;have hx:∃i,x=.ref i:=by
  cases x<;>first|exact⟨_,rfl⟩ | (exfalso;delta Ev.cK at e;dsimp only at e;cases e)
 obtain⟨i,rfl⟩:=hx
 delta Ev.cK at e;dsimp only at e
 split at e
 case h_2=>cases e
 rename_i ss e1;split at e
 case isFalse=>cases e
 rename_i h64;obtain⟨ds,e5,e6⟩:=Option.bind_eq_some_iff.mp e1;obtain⟨t,rfl,z⟩:=v1.shape;obtain⟨t',ws,z',q1,w⟩:=hr1.read e5;rw[z]at z';cases z';cases rv with
 |cons ra rb=>
 cases rb;cases ra;obtain⟨its,pv,pl,hz⟩:=I1.list q1;have hI:=nA e6 w pv;have hlen:its.toArray.size+1<scanBound:=by
  have:=hI.length;rw[MM];unfold scanBound;omega
 refine C2 (I1.ok.hd g.calm) pl.isList (by simpa using xA hI) hlen λh5 Rj S5 k5=>?_;refine YS ?_;have I2:Inv X pins σ H1 { s1 with heap:=h5,toks:=Rj }:=I1.kept k5;have hk:ig [] its.toArray.toList=(Ev.dd ss).map Sum.inl:=by
  have:=sI [] hI;simpa[Ev.dd]using this
 refine yW (s:={ s1 with heap:=h5,toks:=Rj }) S5 (I1.ok.hd g.calm) hk h64.2 λh6 h7 tk d' out ns' e7 c1 c2 c3 a1 a2 a3=>?_;have hq:=pK a2 a3;subst hq;obtain⟨hz2,q2⟩:=(q.later f1).lst e aG.CU hr1;have I6:Inv X pins σ H1 { s1 with heap:=h6,toks:=tk,drawn:=d' }:=A4 (I2.kept (t':=tk) c1);refine⟨.ref h6.objs.size,_,I6.laid (t':=tk) (o:=.lst ((Ev.sortI (Ev.dd ss)).map V.int)) c2 (qh _) ?_,rfl,q2 _ (I6.hok.fresh (qh _))⟩;exact⟨hz2,out.toList,e7,qP a1,by simpa[seqObj]using c3⟩
end
end Sm
namespace Pv
open Ev (D bh aZ TY BI ME T E Es Eo It S Ss Fn big deep b2i rep bL cY bu aK cut bU cH slots)
def nd{α:Type _}{a b:α}(h:a=b):a=b:=h
inductive V where
 |aU|bl (b:Bool)|int (i:Int)|str (s:List Nat)|tup (l:List V)|lst (l:List V)|bW (l:List V)
inductive Sl where
 |val (v:V)|own (l:List V)|bor (l:List V)|ro (l:List V)
abbrev Fr:=List (Option Sl)
inductive R(α:Type) where
 |ok (a:α) (fr:Fr)
 |bad
noncomputable def R.bind{α β:Type}(r:R α)(f:α->Fr->R β):R β:=
 match r with
 |.ok a h=>f a h
 |.bad=>.bad
@[simp] theorem ak{α β:Type}(a:α)(h:Fr)(f:α->Fr->R β):(R.ok a h).bind f=f a h:=nd rfl
@[simp] theorem Cw{α β:Type}(f:α->Fr->R β):(R.bad:R α).bind f=.bad:=nd rfl
def ah{α β:Type}{r:R α}{f:α->Fr->R β}{b:β}{h:Fr}(e:r.bind f=.ok b h):∃a h1,r=.ok a h1/\f a h1=.ok b h:=by
 cases r with
 |ok a h1=>exact⟨a,h1,rfl,e⟩
 |bad=>cases e
noncomputable def R.of{α:Type}(o:Option α)(h:Fr):R α:=match o with
 |some a=>.ok a h
 |none=>.bad
@[simp] theorem dX{α:Type}(a:α)(h:Fr):R.of (some a) h=.ok a h:=nd rfl
@[simp] theorem of_none{α:Type}(h:Fr):R.of (none:Option α) h=.bad:=nd rfl
def aO{α:Type}{o:Option α}{h h':Fr}{a:α}(e:R.of o h=.ok a h'):o=some a/\h'=h:=by
 cases o with
 |none=>cases e
 |some b=>cases e;exact⟨rfl,rfl⟩
inductive Fl where
 |nx|bk|ct|ret (v:V)
mutual
noncomputable def ofD:D->Option V
 |.aU=>some .aU
 |.bl b=>some (.bl b)
 |.int i=>some (.int i)
 |.str s=>some (.str s)
 |.tup ds=>(uN ds).map .tup
 |.ref _=>none
noncomputable def uN:List D->Option (List V)
 |[]=>some []
 |d :: ds=>(ofD d).bind λv=>(uN ds).map λvs=>v :: vs
end
noncomputable def cD(f:V->V->Option Bool):List V->List V->Option Bool
 |[],[]=>some true
 |x :: xs,y :: ys=>(f x y).bind λb=>(cD f xs ys).bind λc=>some (b&&c)
 |_,_=>some false
noncomputable def dG:Nat->V->V->Option Bool
 |0,_,_=>none
 |_+1,.aU,.aU=>some true
 |_+1,.bl a,.bl b=>some (a==b)
 |_+1,.int a,.int b=>some (a==b)
 |_+1,.bl a,.int b=>some (b2i a==b)
 |_+1,.int a,.bl b=>some (a==b2i b)
 |_+1,.str a,.str b=>some (a==b)
 |n+1,.tup a,.tup b=>cD (dG n) a b
 |n+1,.lst a,.lst b=>cD (dG n) a b
 |n+1,.bW a,.lst b=>cD (dG n) a b
 |n+1,.lst a,.bW b=>cD (dG n) a b
 |_+1,.bW _,.bW _=>none
 |_+1,_,_=>some false
noncomputable def truthy:V->Bool
 |.aU=>false
 |.bl b=>b
 |.int i=>i != 0
 |.str s=>!s.isEmpty
 |.tup ds=>!ds.isEmpty
 |.lst ds=>!ds.isEmpty
 |.bW ds=>!ds.isEmpty
noncomputable def ee(l:List V):Option V:=if l.length<=big then some (.lst l)else none
noncomputable def gg(l:List V):Option V:=if l.length<=big then some (.tup l)else none
noncomputable def bN:bh->V->V->Option V
 |.add,.int i,.int j=>some (.int (i+j))
 |.add,.str a,.str b=>if a.length+b.length<=big then some (.str (a++b))else none
 |.add,.tup a,.tup b=>if a.length+b.length<=big then some (.tup (a++b))else none
 |.add,.lst a,.lst b=>ee (a++b)
 |.sub,.int i,.int j=>some (.int (i - j))
 |.mul,.int i,.int j=>if bL i j then some (.int (i*j))else none
 |.mul,.str a,.int k=>if 0<=k/\k<=1000/\a.length<=1000 then some (.str (rep k.toNat a))else none
 |.mul,.tup a,.int k=>if 0<=k/\k<=1000/\a.length<=1000 then some (.tup (rep k.toNat a))else none
 |.mul,.lst a,.int k=>if 0<=k/\k<=1000/\a.length<=1000 then ee (rep k.toNat a)else none
 |.fdiv,.int i,.int j=>if 0<j/\j<1073741824 then some (.int (i / j))else none
 |.mod,.int i,.int j=>if 0<j then some (.int (i % j))else none
 |_,_,_=>none
noncomputable def mem(x:V):List V->Option Bool
 |[]=>some false
 |y :: ys=>(dG deep y x).bind λb=>(mem x ys).bind λc=>some (b ||c)
noncomputable def isin(x y:V):Option Bool:=match y with
 |.str s=>match x with
  |.str [c]=>some (s.contains c)
  |_=>none
 |.tup ds=>mem x ds
 |.lst ds=>mem x ds
 |.bW ds=>mem x ds
 |_=>none
noncomputable def cop(o:aZ)(x y:V):Option Bool:=match o,x,y with
 |.eq,x,y=>dG deep x y
 |.ne,x,y=>(dG deep x y).map (!·)
 |.lt,.int i,.int j=>some (decide (i<j))
 |.gt,.int i,.int j=>some (decide (j<i))
 |.isin,x,y=>isin x y
 |.gp,x,y=>(isin x y).map (!·)
 |.JY,x,.aU=>some (match x with|.aU=>true|_=>false)
 |.j4,x,.aU=>some (match x with|.aU=>false|_=>true)
 |_,_,_=>none
noncomputable def dg(x y:V):Option V:=match x,y with
 |.tup ds,.int i=>bu ds i
 |.str s,.int i=>(bu s i).map λc=>.str [c]
 |.lst ds,.int i=>bu ds i
 |.bW ds,.int i=>bu ds i
 |_,_=>none
noncomputable def gf(x:V)(lo hi:Option Int):Option V:=match x with
 |.tup ds=>some (.tup (cut ds lo hi))
 |.str s=>some (.str (cut s lo hi))
 |.lst ds=>ee (cut ds lo hi)
 |.bW ds=>ee (cut ds lo hi)
 |_=>none
noncomputable def toT:V->Option V
 |.tup l=>some (.tup l)
 |.lst l=>gg l
 |.bW l=>gg l
 |_=>none
noncomputable def qR:V->Option V
 |.lst l=>gg l.reverse
 |_=>none
noncomputable def boolsOf:List V->Option (List Bool)
 |[]=>some []
 |.bl b :: ds=>(boolsOf ds).map λr=>b :: r
 |_=>none
noncomputable def intsOf:List V->Option (List Int)
 |[]=>some []
 |.int i :: ds=>(intsOf ds).map λr=>i :: r
 |_=>none
noncomputable def strsOf:List V->Option (List (List Nat))
 |[]=>some []
 |.str s :: ds=>(strsOf ds).map λr=>s :: r
 |_=>none
noncomputable def oz:V->Option (List V)
 |.lst l=>some l
 |.bW l=>some l
 |_=>none
noncomputable def cK(b:BI)(xs:List V):Option V:=match b,xs with
 |.len,[.str s]=>if s.length<=big then some (.int s.length)else none
 |.len,[.tup ds]=>some (.int ds.length)
 |.len,[x]=>(oz x).map λds=>.int ds.length
 |.sum,[x]=>((oz x).bind intsOf).map λis=>.int is.sum
 |.min,[.int i,.int j]=>some (.int (if j<i then j else i))
 |.jP,[x]=>((oz x).bind intsOf).bind λss=>if ss.length<64 then ee ((Ev.sortI ss).map .int)else none
 |.kY,[x]=>((oz x).bind intsOf).bind λss=>if ss.length<4095/\(Ev.dd ss).length<64 then ee ((Ev.sortI (Ev.dd ss)).map .int)else none
 |_,_=>none
noncomputable def eV(m:ME)(o:V)(xs:List V):Option V:=match m,o,xs with
 |.join,.str sep,[x]=>((oz x).bind strsOf).bind λss=>if (ss.map (·.length)).sum+ss.length*sep.length<=big then some (.str (bU sep ss))else none
 |_,_,_=>none
noncomputable def jS(m:ME)(l:List V)(xs:List V):Option (V×List V):=match m,xs with
 |.append,[x]=>if l.length<big then some (.aU,l++[x])else none
 |.extend,[.lst es]=>if l.length+es.length<=big then some (.aU,l++es)else none
 |.pop,[]=>match l[l.length - 1]? with
  |some x=>some (x,l.dropLast)
  |none=>none
 |_,_=>none
noncomputable def A5:ME->Bool
 |.extend=>true
 |_=>false
noncomputable def iQ:ME->Bool
 |.append=>true
 |.extend=>true
 |.pop=>true
 |_=>false
noncomputable def sZ:V->Bool
 |.aU=>true
 |.bl _=>true
 |.int _=>true
 |.str _=>true
 |_=>false
noncomputable def yX(x:V):List (D×D)->Option V
 |[]=>none
 | (k,v) :: r=>match (ofD k).bind λk'=>dG 1 k' x with
  |some true=>ofD v
  |some false=>yX x r
  |none=>none
noncomputable def eF(x:V)(kvs:List (D×D)):Option V:=if sZ x then yX x kvs else none
noncomputable def fU:V->Option (List V)
 |.tup ds=>some ds
 |.str s=>some (s.map λc=>.str [c])
 |.lst ds=>some ds
 |.bW ds=>some ds
 |_=>none
noncomputable def yY:V->Option (List V)
 |.tup ds=>some ds
 |_=>none
noncomputable def range(lo:Int)(n:Nat):List V:=(List.range n).map λ(i:Nat)=>.int (lo+i)
noncomputable def eG:List V->Option (List V)
 |[.int j]=>if -(2 ^ 62)<=j/\j<2 ^ 62 then some (range 0 j.toNat)else none
 |[.int i,.int j]=>if -(2 ^ 62)<=i/\i<2 ^ 62/\-(2 ^ 62)<=j/\j<2 ^ 62 then some (range i (j - i).toNat)else none
 |_=>none
noncomputable def gq:Int->List V->List V
 |_,[]=>[]
 |k,x :: xs=>.tup [.int k,x] :: gq (k+1) xs
noncomputable def put(fr:Fr)(i:Nat)(s:Sl):Option Fr:=match fr[i]? with
 |some (some (.bor _))=>none
 |some (some (.ro _))=>none
 |_=>some (fr.set i (some s))
noncomputable def cJ:List Nat->List V->Fr->Option Fr
 |[],[],fr=>some fr
 |i :: is,d :: ds,fr=>(put fr i (.val d)).bind (cJ is ds)
 |_,_,_=>none
noncomputable def cg:T->V->Fr->Option Fr
 |.one i,d,fr=>put fr i (.val d)
 |.many l,.tup ds,fr=>cJ l ds fr
 |_,_,_=>none
noncomputable def undef(t:T)(fr:Fr):Bool:=(slots t).all λi=>(fr[i]?.join).isNone
noncomputable def Sl.read:Sl->Sl
 |.own l=>.ro l
 |.bor l=>.ro l
 |s=>s
noncomputable def sJ(fr:Fr):Fr:=fr.map (Option.map Sl.read)
noncomputable def Sl.gb:Sl->Sl
 |.own l=>.val (.lst l)
 |s=>s
noncomputable def gr(fr:Fr):Fr:=fr.map (Option.map Sl.gb)
noncomputable def Sl.walk:Sl->Sl
 |.own l=>.val (.lst l)
 |.bor l=>.ro l
 |s=>s
noncomputable def tG(is:List Nat)(fr:Fr):Fr:=is.foldl (λfr i=>match fr[i]? with
 |some (some s)=>fr.set i (some s.walk)
 |_=>fr) fr
noncomputable def Sl.out:Sl->Option (List V)
 |.bor l=>some l
 |.ro l=>some l
 |_=>none
noncomputable def Sl.lend:Sl->Option Sl
 |.own l=>some (.bor l)
 |.bor l=>some (.bor l)
 |.ro l=>some (.ro l)
 |.val _=>none
noncomputable def lent(fr:Fr)(i:Nat):Option Sl:=match fr[i]? with
 |some (some s)=>s.lend
 |_=>none
noncomputable def Sl.with:Sl->List V->Sl
 |.own _,l=>.own l
 |.bor _,l=>.bor l
 |s,_=>s
noncomputable def back:List Nat->List (List V)->Fr->Option Fr
 |[],[],fr=>some fr
 |i :: is,l :: ls,fr=>match fr[i]? with
  |some (some s)=>back is ls (fr.set i (some (s.with l)))
  |_=>none
 |_,_,_=>none
noncomputable def bV(f:V->Option (Option V)):List V->Option (List V)
 |[]=>some []
 |d :: ds=>(f d).bind λo=>(bV f ds).bind λr=>some (o.toList++r)
noncomputable def forL(f:V->Fr->R Fl):List V->Fr->R Fl
 |[],fr=>.ok .nx fr
 |d :: ds,fr=>(f d fr).bind λp af=>match p with
   |.nx=>forL f ds af
   |.ct=>forL f ds af
   |.bk=>.ok .nx af
   |.ret x=>.ok (.ret x) af
noncomputable def dM(t:Fr->R Bool)(f:Fr->R Fl):Nat->Fr->R Fl
 |0,_=>.bad
 |n+1,fr=>(t fr).bind λb af=>if b then (f af).bind λp ao=>match p with
   |.nx=>dM t f n ao
   |.ct=>dM t f n ao
   |.bk=>.ok .nx ao
   |.ret x=>.ok (.ret x) ao
  else .ok .nx af
noncomputable def jB:Es->List Nat
 |.nil=>[]
 |.cons (.v i) es=>i :: jB es
 |.cons _ es=>jB es
noncomputable def Rk(m:ME):E->List Nat
 |.v i=>if iQ m then [i]else []
 |_=>[]
mutual
noncomputable def b5:E->List Nat
 |.c _=>[]|.v _=>[]|.tup es=>fL es|.lst es=>fL es
 |.bin _ a b=>b5 a++b5 b|.cmp _ a b=>b5 a++b5 b
 |.nt a=>b5 a|.neg a=>b5 a|.an a b=>b5 a++b5 b|.orr a b=>b5 a++b5 b|.lU t a b=>b5 t++(b5 a++b5 b)
 |.ix a b=>b5 a++b5 b|.sl a lo hi=>b5 a++(j7 lo++j7 hi)
 |.lV a=>b5 a
 |.cl _ es=>fL es++jB es|.bi _ es=>fL es|.me m o es=>b5 o++(fL es++Rk m o)
 |.comp _ _ it _=>C7 it
 |.ji it=>C7 it
 |.je _ a=>b5 a
 |.gZ a=>b5 a
noncomputable def fL:Es->List Nat
 |.nil=>[]
 |.cons e es=>b5 e++fL es
noncomputable def j7:Eo->List Nat
 |.no=>[]
 |.yes e=>b5 e
noncomputable def C7:It->List Nat
 |.seq e=>b5 e|.fH es=>fL es
 |.enum a=>b5 a|.rev a=>b5 a
end
noncomputable def kf(a:E)(l:List Nat):Bool:=match a with
 |.v i=>!l.contains i
 |_=>l.isEmpty
noncomputable def itv:It->List Nat
 |.seq (.v i)=>[i]
 |.enum (.v i)=>[i]
 |.rev (.v i)=>[i]
 |_=>[]
abbrev aL:=Nat->List Sl->Option (V×List (List V))
noncomputable def intOf:V->Option Int
 |.int i=>some i
 |_=>none
noncomputable def qS(k:Bool)(fr:Fr)(i:Nat):Option V:=match fr[i]? with
 |some (some (.val v))=>some v
 |some (some (.own l))=>if k then some (.lst l)else none
 |some (some (.bor l))=>if k then some (.lst l)else none
 |some (some (.ro l))=>if k then some (.lst l)else none
 |_=>none
noncomputable def yZ(k:Bool)(fr:Fr)(i:Nat):Option V:=match fr[i]? with
 |some (some (.ro l))=>some (.lst l)
 |_=>qS k fr i
noncomputable def src(k:Bool)(fr:Fr)(e:E)(r:R V):R V:=match e with
 |.v i=>R.of (yZ k fr i) fr
 |_=>r
noncomputable def ku(fr:Fr):E->Option Nat
 |.v i=>if (lent fr i).isSome then some i else none
 |_=>none
noncomputable def args(fr:Fr):List (Nat ⊕ V)->Option (List Sl)
 |[]=>some []
 |.inl i :: r=>(lent fr i).bind λs=>(args fr r).map λl=>s :: l
 |.inr v :: r=>(args fr r).map λl=>.val v :: l
noncomputable def bM:List (Nat ⊕ V)->List Nat
 |[]=>[]
 |.inl i :: r=>i :: bM r
 |.inr _ :: r=>bM r
noncomputable def gu(P:aL)(f:Nat)(as:List (Nat ⊕ V))(fr:Fr):R V:=
 if (bM as).Nodup then match args fr as with
  |some sl=>match P f sl with
   |some (v,outs)=>R.of ((back (bM as) outs fr).map λaf=>(v,af)) fr |>.bind λp _=>.ok p.1 p.2
   |none=>.bad
  |none=>.bad
 else .bad
mutual
noncomputable def ev(P:aL):Bool->E->Fr->R V
 |_,.c d,fr=>R.of (ofD d) fr
 |k,.v i,fr=>R.of (qS k fr i) fr
 |_,.tup es,fr=>(bZ P false es fr).bind λds af=>R.of (gg ds) af
 |_,.lst es,fr=>(bZ P false es fr).bind λds af=>R.of (ee ds) af
 |_,.bin o a b,fr=>(ev P (kf a (b5 b)) a fr).bind λx af=>(ev P true b af).bind λy ao=>R.of (bN o x y) ao
 |_,.cmp o a b,fr=>(ev P (kf a (b5 b)) a fr).bind λx af=>(ev P true b af).bind λy ao=>R.of ((cop o x y).map .bl) ao
 |_,.nt a,fr=>(ev P true a fr).bind λx af=>match x with
   |.bl b=>.ok (.bl (!b)) af
   |_=>.bad
 |_,.neg a,fr=>(ev P true a fr).bind λx af=>match x with
   |.int i=>.ok (.int (-i)) af
   |_=>.bad
 |k,.an a b,fr=>(ev P true a fr).bind λx af=>match x with
   |.bl true=>ev P k b af
   |.bl false=>.ok (.bl false) af
   |_=>.bad
 |k,.orr a b,fr=>(ev P true a fr).bind λx af=>match x with
   |.bl true=>.ok (.bl true) af
   |.bl false=>ev P k b af
   |_=>.bad
 |k,.lU t a b,fr=>(aH P t fr).bind λc af=>if c then ev P k a af else ev P k b af
 |_,.ix a b,fr=>(ev P (kf a (b5 b)) a fr).bind λx af=>(ev P true b af).bind λy ao=>R.of (dg x y) ao
 |_,.sl a lo hi,fr=>(ev P (kf a (j7 lo++j7 hi)) a fr).bind λx af=>(fz P lo af).bind λl ao=>(fz P hi ao).bind λu cG=>R.of (gf x l u) cG
 |_,.lV a,fr=>(ev P true a fr).bind λx af=>R.of (qR x) af
 |_,.cl f es,fr=>(fC P es fr).bind λas af=>gu P f as af
 |_,.bi b es,fr=>(bZ P true es fr).bind λds af=>R.of (cK b ds) af
 |_,.me m o es,fr=>if iQ m then match ku fr o with
   |some i=>(bZ P (A5 m) es fr).bind λds af=>match af[i]? with
    |some (some (.own l))=>match jS m l ds with
     |some (v,l')=>.ok v (af.set i (some (.own l')))
     |none=>.bad
    |some (some (.bor l))=>match jS m l ds with
     |some (v,l')=>.ok v (af.set i (some (.bor l')))
     |none=>.bad
    |_=>.bad
   |none=>.bad
  else (ev P (kf o (fL es)) o fr).bind λx af=>(bZ P true es af).bind λds ao=>R.of (eV m x ds) ao
 |_,.comp elt t it cond,fr=>(cZ P true it fr).bind λs af=>if undef t af then
   R.of ((bV (λd=>match cg t d (sJ af)with
    |none=>none
    |some ao=>match g6 P cond ao with
     |.ok c _=>if c then (match ev P false elt ao with|.ok x _=>some (some x)|.bad=>none)else some none
     |.bad=>none) s).bind ee) af else .bad
 |_,.ji it,fr=>(cZ P true it fr).bind λs af=>R.of (ee s) af
 |_,.je kvs a,fr=>(ev P true a fr).bind λx af=>R.of (eF x kvs) af
 |_,.gZ a,fr=>(ev P true a fr).bind λx af=>R.of (toT x) af
termination_by _ e=>(sizeOf e,0)
noncomputable def bZ(P:aL):Bool->Es->Fr->R (List V)
 |_,.nil,fr=>.ok [] fr
 |k,.cons e es,fr=>(ev P (k&&kf e (fL es)) e fr).bind λd af=>(bZ P k es af).bind λds ao=>.ok (d :: ds) ao
termination_by _ e=>(sizeOf e,0)
noncomputable def fC(P:aL):Es->Fr->R (List (Nat ⊕ V))
 |.nil,fr=>.ok [] fr
 |.cons e es,fr=>match ku fr e with
   |some i=>(fC P es fr).bind λr af=>.ok (.inl i :: r) af
   |none=>(ev P false e fr).bind λd af=>(fC P es af).bind λr ao=>.ok (.inr d :: r) ao
termination_by e=>(sizeOf e,0)
noncomputable def fz(P:aL):Eo->Fr->R (Option Int)
 |.no,fr=>.ok none fr
 |.yes e,fr=>(ev P true e fr).bind λd af=>R.of ((intOf d).map some) af
termination_by e=>(sizeOf e,0)
noncomputable def g6(P:aL):Eo->Fr->R Bool
 |.no,fr=>.ok true fr
 |.yes e,fr=>aH P e fr
termination_by e=>(sizeOf e,0)
noncomputable def aH(P:aL):E->Fr->R Bool
 |.an a b,fr=>(aH P a fr).bind λk af=>if k then aH P b af else .ok false af
 |.orr a b,fr=>(aH P a fr).bind λk af=>if k then .ok true af else aH P b af
 |.nt a,fr=>(aH P a fr).bind λk af=>.ok (!k) af
 |e,fr=>(ev P true e fr).bind λx af=>.ok (truthy x) af
termination_by e=>(sizeOf e,1)
noncomputable def cZ(P:aL):Bool->It->Fr->R (List V)
 |k,.seq e,fr=>(src k fr e (ev P k e fr)).bind λx af=>R.of (fU x) af
 |_,.fH es,fr=>(bZ P true es fr).bind λds af=>R.of (eG ds) af
 |k,.enum a,fr=>(src k fr a (ev P k a fr)).bind λx af=>R.of ((oz x).map λs=>gq 0 s) af
 |_,.rev a,fr=>(ev P true a fr).bind λx af=>R.of ((yY x).map λs=>s.reverse) af
termination_by _ e=>(sizeOf e,0)
end
noncomputable def isNew:E->Bool
 |.lst _=>true
 |.ji _=>true
 |_=>false
mutual
noncomputable def ex(P:aL)(w:Nat):S->Fr->R Fl
 |.set i e,fr=>(ev P false e fr).bind λx af=>if isNew e then (match x with
   |.lst l=>(R.of (put af i (.own l)) af).bind λao _=>.ok .nx ao
   |_=>.bad)
  else (R.of (put af i (.val x)) af).bind λao _=>.ok .nx ao
 |.yu l e,fr=>(ev P false e fr).bind λx af=>(R.of (cg (.many l) x af) af).bind λao _=>.ok .nx ao
 |.exp e,fr=>(ev P true e fr).bind λ_ af=>.ok .nx af
 |.ret e,fr=>(ev P false e (gr fr)).bind λx af=>.ok (.ret x) af
 |.iff t a b,fr=>(aH P t fr).bind λk af=>if k then exs P w a af else exs P w b af
 |.for t it b,fr=>(cZ P false it (tG (itv it) fr)).bind λs af=>forL (λd ao=>match cg t d ao with
   |some cG=>exs P w b cG
   |none=>.bad) s af
 |.nW t b,fr=>dM (λao=>aH P t ao) (λao=>exs P w b ao) w fr
 |.fy _,_=>.bad
noncomputable def exs(P:aL)(w:Nat):Ss->Fr->R Fl
 |.nil,fr=>.ok .nx fr
 |.cons s ss,fr=>(ex P w s fr).bind λp af=>match p with
   |.nx=>exs P w ss af
   |p=>.ok p af
end
noncomputable def eE(fn:Fn)(ds:List Sl):Fr:=ds.map some++List.replicate (fn.ns - fn.np) none
noncomputable def outs(np:Nat)(fr:Fr):List (List V):=(fr.take np).filterMap λo=>o.bind Sl.out
noncomputable def Lv(_:Fn)(_:List Sl):Option (V×List (List V)):=none
noncomputable def run(F:List Fn)(w:Nat):Nat->aL
 |0,_,_=>none
 |n+1,f,ds=>match F[f]? with
  |some fn=>if ds.length=fn.np then match exs (run F w n) w fn.body (eE fn ds)with
    |.ok (.ret v) fr=>some (v,outs fn.np fr)
    |.ok .nx fr=>some (.aU,outs fn.np fr)
    |_=>Lv fn ds
   else none
  |none=>none
def pF(F:List Fn)(w n f:Nat)(ds:List Sl):run F w (n+1) f ds=match F[f]? with
  |some fn=>if ds.length=fn.np then match exs (run F w n) w fn.body (eE fn ds)with
    |.ok (.ret v) fr=>some (v,outs fn.np fr)
    |.ok .nx fr=>some (.aU,outs fn.np fr)
    |_=>Lv fn ds
   else none
  |none=>none:=nd rfl
end Pv
namespace Pv
open Ev (D O Hh bh aZ TY BI ME T E Es Eo It S Ss Fn big deep b2i rep bL cY bu aK cut bU cH slots bq)
section
variable(h:Hh)(S:Nat->Prop)
mutual
noncomputable def Rep:V->D->Prop
 |.aU,d=>d=.aU
 |.bl b,d=>d=.bl b
 |.int i,d=>d=.int i
 |.str s,d=>d=.str s
 |.tup l,d=>∃ds,d=.tup ds/\aq l ds
 |.lst l,d=>∃n ds,d=.ref n/\S n/\h[n]?=some (.lst ds)/\aq l ds
 |.bW l,d=>∃n ds,d=.ref n/\S n/\h[n]?=some (.bW ds)/\aq l ds
noncomputable def aq:List V->List D->Prop
 |[],ds=>ds=[]
 |v :: vs,ds=>∃d es,ds=d :: es/\Rep v d/\aq vs es
end
noncomputable def bB:V->D->Prop
 |.lst l,d=>∃n ds,d=.ref n/\h[n]?=some (.lst ds)/\aq h S l ds
 |v,d=>Rep h S v d
noncomputable def fD:List V->List D->Prop
 |[],ds=>ds=[]
 |v :: vs,ds=>∃d es,ds=d :: es/\bB h S v d/\fD vs es
end
abbrev U:Nat->Prop:=λ_=>True
section
variable{h h':Hh}{S S':Nat->Prop}
mutual
theorem Rep.mono(f:∀m,S m->h'[m]?=h[m]?)(g:∀m,S m->S' m):∀{v:V}{d:D},Rep h S v d->Rep h' S' v d
 |.aU,_,q=>q
 |.bl _,_,q=>q
 |.int _,_,q=>q
 |.str _,_,q=>q
 |.tup l,_,⟨ds,a,b⟩=>⟨ds,a,aq.mono f g b⟩
 |.lst l,_,⟨n,ds,a,b,c,e⟩=>⟨n,ds,a,g n b,by rw[f n b];exact c,aq.mono f g e⟩
 |.bW l,_,⟨n,ds,a,b,c,e⟩=>⟨n,ds,a,g n b,by rw[f n b];exact c,aq.mono f g e⟩
theorem aq.mono(f:∀m,S m->h'[m]?=h[m]?)(g:∀m,S m->S' m):∀{v:List V}{d:List D},aq h S v d->aq h' S' v d
 |[],_,q=>q
 |_ :: _,_,⟨d,es,a,b,c⟩=>⟨d,es,a,Rep.mono f g b,aq.mono f g c⟩
end
def aq.nil:aq h S [] []:=by simp[aq]
def aq.cons{v:V}{d:D}{vs:List V}{ds:List D}(a:Rep h S v d)(b:aq h S vs ds):aq h S (v :: vs) (d :: ds):=by simp only[aq];exact⟨d,ds,rfl,a,b⟩
def Rep.top{v:V}{d:D}(q:Rep h S v d):bB h S v d:=by
 cases v<;>first|exact q | (obtain⟨n,ds,a,b,c,e⟩:=q;exact⟨n,ds,a,c,e⟩)
def bB.u{v:V}{d:D}(q:bB h S v d):Rep h U v d:=by
 cases v with
 |lst l=>obtain⟨n,ds,a,b,c⟩:=q;exact⟨n,ds,a,trivial,b,c.mono (λ_ _=>rfl) λ_ _=>trivial⟩
 |_=>exact Rep.mono (S:=S) (λ_ _=>rfl) (λ_ _=>trivial) q
def aq.u{v:List V}{d:List D}(q:aq h S v d):aq h U v d:=q.mono (λ_ _=>rfl) λ_ _=>trivial
theorem bB.mono{v:V}{d:D}(f:∀m,m<h.length->h'[m]?=h[m]?)(k:∀m,S m->m<h.length)(g:∀m,S m->S' m)(q:bB h S v d):bB h' S' v d:=by
 cases v with
 |lst l=>
  obtain⟨n,ds,a,b,c⟩:=q;exact⟨n,ds,a,by rw[f n (List.getElem?_eq_some_iff.mp b).1];exact b,c.mono (λm z=>f m (k m z)) g⟩
 |_=>exact Rep.mono (λm z=>f m (k m z)) g q
theorem aq.length:∀{v:List V}{d:List D},aq h S v d->v.length=d.length
 |[],_,q=>by simp only[aq]at q;subst q;rfl
 |_ :: _,_,q=>by simp only[aq]at q;obtain⟨d,es,rfl,_,c⟩:=q;simp[c.length]
theorem aq.get:∀{v:List V}{d:List D}{i:Nat}{x:V},aq h S v d->v[i]?=some x->∃y,d[i]?=some y/\Rep h S x y
 |[],_,_,_,_,e=>by simp at e
 |_ :: _,_,0,_,q,e=>by
  simp only[aq]at q;obtain⟨d,es,rfl,b,_⟩:=q;simp at e;subst e;exact⟨d,by simp,b⟩
 |_ :: _,_,i+1,_,q,e=>by
  simp only[aq]at q;obtain⟨d,es,rfl,_,c⟩:=q;obtain⟨y,a,b⟩:=c.get (i:=i) (by simpa using e);exact⟨y,by simpa using a,b⟩
theorem aq.append:∀{v w:List V}{d e:List D},aq h S v d->aq h S w e->aq h S (v++w) (d++e)
 |[],_,_,_,a,b=>by simp only[aq]at a;subst a;simpa using b
 |_ :: _,_,_,_,a,b=>by
  simp only[aq]at a;obtain⟨d,es,rfl,x,y⟩:=a;exact .cons x (y.append b)
theorem aq.take:∀{v:List V}{d:List D}(n:Nat),aq h S v d->aq h S (v.take n) (d.take n)
 |_,_,0,_=>by simp[aq]
 |[],_,_+1,a=>by simp only[aq]at a;subst a;simp[aq]
 |_ :: _,_,n+1,a=>by
  simp only[aq]at a;obtain⟨d,es,rfl,x,y⟩:=a;simp only[XF];exact .cons x (y.take n)
theorem aq.drop:∀{v:List V}{d:List D}(n:Nat),aq h S v d->aq h S (v.drop n) (d.drop n)
 |_,_,0,a=>by simpa using a
 |[],_,_+1,a=>by simp only[aq]at a;subst a;simp[aq]
 |_ :: _,_,n+1,a=>by
  simp only[aq]at a;obtain⟨d,es,rfl,x,y⟩:=a;simp only[Zc];exact y.drop n
theorem aq.dropLast:∀{v:List V}{d:List D},aq h S v d->aq h S v.dropLast d.dropLast:=λ{v d} a=>by
 rw[Yw,Yw,a.length];exact a.take _
theorem aq.reverse:∀{v:List V}{d:List D},aq h S v d->aq h S v.reverse d.reverse
 |[],_,a=>by simp only[aq]at a;subst a;simp[aq]
 |_ :: _,_,a=>by
  simp only[aq]at a;obtain⟨d,es,rfl,x,y⟩:=a;simp only[Xk];exact y.reverse.append (.cons x .nil)
theorem aq.rep{v:List V}{d:List D}(a:aq h S v d):∀k:Nat,aq h S (Ev.rep k v) (Ev.rep k d)
 |0=>by simp[Ev.rep,aq]
 |k+1=>by
  have z:=aq.rep a k;simp only[Ev.rep,Tv,Yh]at z ⊢;exact a.append z
theorem aq.cut{v:List V}{d:List D}(a:aq h S v d)(lo hi:Option Int):aq h S (Ev.cut v lo hi) (Ev.cut d lo hi):=by
 unfold Ev.cut;rw[a.length];exact(a.drop _).take _
theorem aq.map{α:Type}{f:α->V}{g:α->D}(q:∀a,Rep h S (f a) (g a)):∀l:List α,aq h S (l.map f) (l.map g)
 |[]=>.nil
 |_ :: l=>.cons (q _) (aq.map q l)
mutual
theorem Rep.uniq:∀{v w:V}{d:D},Rep h U v d->Rep h U w d->v=w
 |.aU,w,_,a,b=>by simp only[Rep]at a;subst a;cases w<;>simp[Rep]at b<;>rfl
 |.bl _,w,_,a,b=>by simp only[Rep]at a;subst a;cases w<;>simp[Rep]at b<;>rw[b]
 |.int _,w,_,a,b=>by simp only[Rep]at a;subst a;cases w<;>simp[Rep]at b<;>rw[b]
 |.str _,w,_,a,b=>by simp only[Rep]at a;subst a;cases w<;>simp[Rep]at b<;>rw[b]
 |.tup l,w,_,a,b=>by
  simp only[Rep]at a;obtain⟨ds,rfl,a⟩:=a;cases w<;>simp[Rep]at b
  rw[aq.uniq a b]
 |.lst l,w,_,a,b=>by
  simp only[Rep]at a;obtain⟨n,ds,rfl,_,a1,a⟩:=a;cases w<;>simp[Rep]at b
  .obtain⟨ds',b1,b⟩:=b;rw[a1]at b1;cases b1;rw[aq.uniq a b]
  .obtain⟨ds',b1,b⟩:=b;rw[a1]at b1;cases b1
 |.bW l,w,_,a,b=>by
  simp only[Rep]at a;obtain⟨n,ds,rfl,_,a1,a⟩:=a;cases w<;>simp[Rep]at b
  .obtain⟨ds',b1,b⟩:=b;rw[a1]at b1;cases b1
  .obtain⟨ds',b1,b⟩:=b;rw[a1]at b1;cases b1;rw[aq.uniq a b]
theorem aq.uniq:∀{v w:List V}{d:List D},aq h U v d->aq h U w d->v=w
 |[],w,_,a,b=>by simp only[aq]at a;subst a;cases w<;>simp[aq]at b;rfl
 |x :: xs,w,_,a,b=>by
  simp only[aq]at a;obtain⟨d,es,rfl,a1,a2⟩:=a;cases w<;>simp only[aq]at b
  .cases b
  obtain⟨d',es',e,b1,b2⟩:=b;cases e;rw[Rep.uniq a1 b1,aq.uniq a2 b2]
end
theorem uO{n:Nat}(f:∀v b,dG n v v=some b->b=true):∀l b,cD (dG n) l l=some b->b=true
 |[],b,e=>by simp[cD]at e;exact e
 |x :: xs,b,e=>by
  simp only[cD,Ru]at e;obtain⟨c,e1,c2,e2,e⟩:=e;rw[f x c e1,uO f xs c2 e2]at e;simpa using e.symm
theorem uP:∀n v b,dG n v v=some b->b=true
 |0,_,_,e=>by cases e
 |n+1,v,b,e=>by
  cases v<;>first|exact uO (uP n) _ _ e | (cases e<;>first|rfl|exact beq_self_eq_true _)
theorem uQ{n:Nat}(f:∀{v w:V}{d e:D}{b},dG n v w=some b->Rep h U v d->Rep h U w e->Ev.gc h n d e=some b):∀{l m:List V}{ds es:List D}{b},cD (dG n) l m=some b->aq h U l ds->aq h U m es->Ev.cD (Ev.gc h n) ds es=some b
 |[],[],_,_,b,e,p,q=>by simp only[aq]at p q;subst p q;simpa[cD,Ev.cD]using e
 |[],_ :: _,_,_,b,e,p,q=>by simp only[aq]at p q;subst p;obtain⟨_,_,rfl,_⟩:=q;simpa[cD,Ev.cD]using e
 |_ :: _,[],_,_,b,e,p,q=>by simp only[aq]at p q;subst q;obtain⟨_,_,rfl,_⟩:=p;simpa[cD,Ev.cD]using e
 |x :: xs,y :: ys,_,_,b,e,p,q=>by
  simp only[aq]at p q;obtain⟨d,ds,rfl,p1,p2⟩:=p;obtain⟨d',ds',rfl,q1,q2⟩:=q;simp only[cD,Ru]at e;obtain⟨c,e1,c2,e2,e⟩:=e;simp[Ev.cD,f e1 p1 q1,uQ f e2 p2 q2];simpa using e
def gD{n:Nat}{ds:List D}(q:h[n]?=some (.lst ds)):bq h n=some ds:=by simp[bq,q]
def iG{n:Nat}{ds:List D}(q:h[n]?=some (.bW ds)):bq h n=some ds:=by simp[bq,q]
theorem jF:∀(n:Nat) {v w:V}{d e:D}{b},dG n v w=some b->Rep h U v d->Rep h U w e->Ev.gc h n d e=some b
  |0,_,_,_,_,_,e,_,_=>by cases e
  |n+1,v,w,d,e,b,x,p,q=>by
    by_cases hr:∃m,d=.ref m/\e=.ref m
    . obtain⟨m,rfl,rfl⟩:=hr;have hvw:=p.uniq q;subst hvw;have hb:=uP _ _ _ x;subst hb;cases v<;>simp[Rep]at p
      . obtain⟨ds,p1,p2⟩:=p;show Ev.jD _ _ _ _=_;rw[Ev.jD,xV rfl,gD p1];rfl
      . obtain⟨ds,p1,p2⟩:=p;show Ev.jD _ _ _ _=_;rw[Ev.jD,xV rfl,iG p1];rfl
    . cases v<;>cases w<;>simp only[Rep]at p q <;>
      first
      | (subst p;subst q;exact x)
      | (obtain⟨ds,rfl,p⟩:=p;subst q;exact x)
      | (obtain⟨ds,rfl,q⟩:=q;subst p;exact x)
      | (obtain⟨ds,rfl,p⟩:=p;obtain⟨es,rfl,q⟩:=q;exact uQ (λa b c=>jF n a b c) x p q)
      | (cases x;done)
      | (obtain⟨m,ds,rfl,_,p1,p⟩:=p;obtain⟨k,es,rfl,_,q1,q⟩:=q
         have hne:m≠k:=λz=>hr ⟨m,rfl,by rw[z]⟩;show Ev.jD _ _ _ _=_;rw[Ev.jD,WQ hne,p1,q1];exact uQ (λa b c=>jF n a b c) x p q)
      | (cases x;obtain⟨m,ds,rfl,_,p1,p⟩:=p;subst q;exact WT (Option.map λ_=>false) (gD p1))
      | (cases x;obtain⟨m,ds,rfl,_,p1,p⟩:=p;subst q;exact WT (Option.map λ_=>false) (iG p1))
      | (cases x;obtain⟨m,ds,rfl,_,p1,p⟩:=p;obtain⟨es,rfl,q⟩:=q;exact WT (Option.map λ_=>false) (gD p1))
      | (cases x;obtain⟨m,ds,rfl,_,p1,p⟩:=p;obtain⟨es,rfl,q⟩:=q;exact WT (Option.map λ_=>false) (iG p1))
      | (cases x;obtain⟨m,ds,rfl,_,q1,q⟩:=q;subst p;exact WT (Option.map λ_=>false) (gD q1))
      | (cases x;obtain⟨m,ds,rfl,_,q1,q⟩:=q;subst p;exact WT (Option.map λ_=>false) (iG q1))
      | (cases x;obtain⟨m,ds,rfl,_,q1,q⟩:=q;obtain⟨es,rfl,p⟩:=p;exact WT (Option.map λ_=>false) (gD q1))
      | (cases x;obtain⟨m,ds,rfl,_,q1,q⟩:=q;obtain⟨es,rfl,p⟩:=p;exact WT (Option.map λ_=>false) (iG q1))
end
structure Al(h:Hh)(S:Nat->Prop)(h':Hh)(S':Nat->Prop):Prop where
 len:h.length<=h'.length
 keep:∀m,m<h.length->h'[m]?=h[m]?
 sub:∀m,S m->S' m
 new:∀m,S' m->S m\/(h.length<=m/\m<h'.length)
section
variable{h h':Hh}{S S':Nat->Prop}
def Al.refl:Al h S h S:=⟨qh _,λ_ _=>rfl,λ_ q=>q,λ_ q=>.inl q⟩
def Al.snoc(o:O):Al h S (h++[o]) (λm=>S m\/m=h.length) where
 len:=by simp
 keep:=λm q=>by rw[VL q]
 sub:=λ_ q=>.inl q
 new:=λm q=>by
  rcases q with q|q
  .exact .inl q
  .subst q;exact .inr ⟨qh _,by simp⟩
def ir{l:List V}{v:V}{ds:List D}(w:∀m,S m->m<h.length)(e:ee l=some v)(q:aq h S l ds):∃r h' S',Ev.alloc ds h=.ok r h'/\Rep h' S' v r/\Al h S h' S':=by
 unfold ee at e;split at e
 .rename_i z;cases e;refine⟨.ref h.length,h++[.lst ds],λm=>S m\/m=h.length,by unfold Ev.alloc;rw[xV (by rw[<-q.length];exact z)],?_,Al.snoc _⟩;simp only[Rep];refine⟨h.length,ds,rfl,.inr rfl,by simp,q.mono (λm z=>?_) λ_ z=>.inl z⟩;rw[VL (w m z)]
 .cases e
def kB{v:V}{l:List V}{d:D}(e:oz v=some l)(q:bB h S v d):∃n ds,d=.ref n/\bq h n=some ds/\aq h S l ds:=by
 cases v<;>simp[oz]at e
 .subst e;simp only[bB]at q;obtain⟨n,ds,rfl,a,b⟩:=q;exact⟨n,ds,rfl,gD a,b⟩
 .subst e;simp only[bB,Rep]at q;obtain⟨n,ds,rfl,_,a,b⟩:=q;exact⟨n,ds,rfl,iG a,b⟩
mutual
theorem mP:∀{d:D}{v:V},ofD d=some v->Rep h S v d
 |.aU,_,e=>by simp[ofD]at e;subst e;simp[Rep]
 |.bl _,_,e=>by simp[ofD]at e;subst e;simp[Rep]
 |.int _,_,e=>by simp[ofD]at e;subst e;simp[Rep]
 |.str _,_,e=>by simp[ofD]at e;subst e;simp[Rep]
 |.ref _,_,e=>by simp[ofD]at e
 |.tup ds,_,e=>by
  simp[ofD]at e;obtain⟨vs,e,rfl⟩:=e;exact⟨ds,rfl,xB e⟩
theorem xB:∀{d:List D}{v:List V},uN d=some v->aq h S v d
 |[],_,e=>by simp[uN]at e;subst e;exact .nil
 |d :: ds,_,e=>by
  simp only[uN,Ru,vv]at e;obtain⟨v,e1,vs,e2,rfl⟩:=e;exact .cons (mP e1) (xB e2)
end
def aq.emp{l:List V}{ds:List D}(q:aq h S l ds):ds.isEmpty=l.isEmpty:=by
 have:=q.length;cases l<;>cases ds<;>simp at this ⊢
def A6{v:V}{d:D}(q:bB h S v d):Ev.truthy h d=some (truthy v):=by
 cases v<;>simp only[bB,Rep]at q
 .subst q;rfl
 .subst q;rfl
 .subst q;rfl
 .subst q;rfl
 .obtain⟨ds,rfl,q⟩:=q;simp only[Ev.truthy,truthy,q.emp]
 .obtain⟨n,ds,rfl,a,q⟩:=q;simp only[Ev.truthy,truthy,gD a,Option.map,q.emp];first|done|rw[a]
 .obtain⟨n,ds,rfl,_,a,q⟩:=q;simp only[Ev.truthy,truthy,iG a,Option.map,q.emp];first|done|rw[a]
def nn{α:Type}{v:α}{p:Prop}(z:none=some v):p:=Option.noConfusion rfl (heq_of_eq z)
def Lx{o:bh}{x y v:V}{d e:D}(w:∀m,S m->m<h.length)(z:bN o x y=some v)(p:bB h S x d)(q:bB h S y e):∃r h' S',Ev.bN o d e h=.ok r h'/\Rep h' S' v r/\Al h S h' S':=by
 cases o<;>cases x<;>first|exact nn z | (cases y<;>first|exact nn z|skip)
 all_goals (delta bN at z;dsimp only at z;simp only[bB,Rep]at p q)
 .subst p q;cases z;exact⟨_,_,S,rfl,rfl,.refl⟩
 .subst p q;split at z
  .rename_i k;cases z;exact⟨_,_,S,by delta Ev.bN;dsimp only;rw[xV k],rfl,.refl⟩
  .cases z
 .obtain⟨ds,rfl,p⟩:=p;obtain⟨es,rfl,q⟩:=q;split at z
  .rename_i k;cases z;exact⟨_,_,S,by delta Ev.bN;dsimp only;rw[xV (by rw[<-p.length,<-q.length];exact k)],⟨_,rfl,p.append q⟩,.refl⟩
  .cases z
 .obtain⟨n,ds,rfl,a,p⟩:=p;obtain⟨m,es,rfl,b,q⟩:=q
  delta Ev.bN;dsimp only;simp only[a,b]
  exact ir w z (p.append q)
 .subst p q;cases z;exact⟨_,_,S,rfl,rfl,.refl⟩
 .subst p q;split at z
  .rename_i k;cases z;exact⟨_,_,S,by delta Ev.bN;dsimp only;rw[xV k],rfl,.refl⟩
  .cases z
 .subst p q;split at z
  .rename_i k;cases z;exact⟨_,_,S,by delta Ev.bN;dsimp only;rw[xV k],rfl,.refl⟩
  .cases z
 .obtain⟨ds,rfl,p⟩:=p;subst q;split at z
  .rename_i k;cases z;exact⟨_,_,S,by delta Ev.bN;dsimp only;rw[xV (by rw[<-p.length];exact k)],⟨_,rfl,p.rep _⟩,.refl⟩
  .cases z
 .obtain⟨n,ds,rfl,a,p⟩:=p;subst q;split at z
  .rename_i k
   delta Ev.bN;dsimp only;simp only[a]
   rw[xV (by rw[<-p.length];exact k)];exact ir w z (p.rep _)
  .cases z
 .subst p q;split at z
  .rename_i k;cases z;exact⟨_,_,S,by delta Ev.bN;dsimp only;rw[xV k],rfl,.refl⟩
  .cases z
 .subst p q;split at z
  .rename_i k;cases z;exact⟨_,_,S,by delta Ev.bN;dsimp only;rw[xV k],rfl,.refl⟩
  .cases z
theorem pL{x:V}{d:D}(p:Rep h U x d):∀{l:List V}{ds:List D}{b},mem x l=some b->aq h U l ds->Ev.mem h d ds=some b
 |[],_,b,e,q=>by simp only[aq]at q;subst q;simpa[mem,Ev.mem]using e
 |y :: ys,_,b,e,q=>by
  simp only[aq]at q;obtain⟨d',ds,rfl,q1,q2⟩:=q;simp only[mem,Ru]at e;obtain⟨c,e1,c2,e2,e⟩:=e;simp[Ev.mem,jF deep e1 q1 p,pL p e2 q2];simpa using e
def xC{x y:V}{d e:D}{b:Bool}(z:isin x y=some b)(p:Rep h U x d)(q:Rep h U y e):Ev.isin d e h=some b:=by
 cases y<;>simp only[isin,reduceCtorEq]at z<;>simp only[Rep]at q
 .subst q;split at z
  .simp only[Rep]at p;subst p;simpa[Ev.isin]using z
  .cases z
 .obtain⟨ds,rfl,q⟩:=q;simpa[Ev.isin]using pL p z q
 .obtain⟨n,ds,rfl,_,a,q⟩:=q;simpa[Ev.isin,gD a]using pL p z q
 .obtain⟨n,ds,rfl,_,a,q⟩:=q;simpa[Ev.isin,iG a]using pL p z q
def Ly{o:aZ}{x y:V}{d e:D}{b:Bool}(z:cop o x y=some b)(p:Rep h U x d)(q:Rep h U y e):Ev.cop o d e h=some b:=by
 cases o
 case eq=>delta cop at z;dsimp only at z;delta Ev.cop;dsimp only;exact jF deep z p q
 case ne=>
  delta cop at z;dsimp only at z;simp only[vv]at z;obtain⟨c,z,rfl⟩:=z
  delta Ev.cop;dsimp only;simp only[jF deep z p q];rfl
 case isin=>delta cop at z;dsimp only at z;delta Ev.cop;dsimp only;exact xC z p q
 case gp=>
  delta cop at z;dsimp only at z;simp only[vv]at z;obtain⟨c,z,rfl⟩:=z
  delta Ev.cop;dsimp only;simp only[xC z p q];rfl
 case JY=>
  cases y <;> (delta cop at z;dsimp only at z) <;> (try simp only[reduceCtorEq]at z)
  simp only[Rep]at q;subst q;cases x<;>simp only[Rep]at p <;> (try obtain⟨_,rfl,_⟩:=p) <;> (try obtain⟨_,_,rfl,_⟩:=p) <;> (try subst p) <;> (delta Ev.cop;dsimp only;simpa using z)
 case j4=>
  cases y <;> (delta cop at z;dsimp only at z) <;> (try simp only[reduceCtorEq]at z)
  simp only[Rep]at q;subst q;cases x<;>simp only[Rep]at p <;> (try obtain⟨_,rfl,_⟩:=p) <;> (try obtain⟨_,_,rfl,_⟩:=p) <;> (try subst p) <;> (delta Ev.cop;dsimp only;simpa using z)
 all_goals (
  cases x<;>first|exact nn z | (cases y<;>first|exact nn z|skip)
  simp only[Rep]at p q;subst p q;exact z)
def y9{l:List V}{ds:List D}{i:Int}{v:V}(e:bu l i=some v)(q:aq h S l ds):∃d,bu ds i=some d/\Rep h S v d:=by
 unfold bu at e ⊢;rw[q.length]at e;cases z:cY ds.length i with
 |none=>rw[z]at e;cases e
 |some j=>rw[z]at e;exact q.get e
def Lz{x y v:V}{d e:D}(z:dg x y=some v)(p:bB h S x d)(q:bB h S y e):∃r,Ev.dg d e h=some r/\Rep h S v r:=by
 cases x<;>cases y<;>simp only[dg,reduceCtorEq]at z<;>simp only[bB,Rep]at p q
 .subst p q;simp only[vv]at z;obtain⟨c,z,rfl⟩:=z;exact⟨.str [c],by simp[Ev.dg,z],rfl⟩
 .obtain⟨ds,rfl,p⟩:=p;subst q;simpa[Ev.dg]using y9 z p
 .obtain⟨n,ds,rfl,a,p⟩:=p;subst q;simpa[Ev.dg,gD a]using y9 z p
 .obtain⟨n,ds,rfl,_,a,p⟩:=p;subst q;simpa[Ev.dg,iG a]using y9 z p
def LA{x v:V}{d:D}{lo hi:Option Int}(w:∀m,S m->m<h.length)(z:gf x lo hi=some v)(p:bB h S x d):∃r h' S',Ev.gf d lo hi h=.ok r h'/\Rep h' S' v r/\Al h S h' S':=by
 cases x<;>simp only[gf,reduceCtorEq]at z<;>simp only[bB,Rep]at p
 .subst p;cases z;exact⟨_,_,S,rfl,rfl,.refl⟩
 .obtain⟨ds,rfl,p⟩:=p;cases z;exact⟨_,_,S,rfl,⟨_,rfl,p.cut _ _⟩,.refl⟩
 .obtain⟨n,ds,rfl,a,p⟩:=p;simp only[Ev.gf,gD a];exact ir w z (p.cut _ _)
 .obtain⟨n,ds,rfl,_,a,p⟩:=p;simp only[Ev.gf,iG a];exact ir w z (p.cut _ _)
def G9{x v:V}{d:D}(z:qR x=some v)(p:bB h S x d):∃r,Ev.yx d h=.ok r h/\Rep h S v r:=by
 cases x<;>simp only[qR,reduceCtorEq]at z<;>simp only[bB,Rep]at p
 obtain⟨n,ds,rfl,a,p⟩:=p;unfold gg at z;split at z
 .rename_i k;cases z;refine⟨.tup ds.reverse,?_,⟨_,rfl,p.reverse⟩⟩;rw[aac]at k;simp only[Ev.yx,gD a];rw[xV (by rw[<-p.length];exact k)]
 .cases z
def LC{x v:V}{d:D}(z:toT x=some v)(p:bB h S x d):∃r,Ev.qB d h=.ok r h/\Rep h S v r:=by
 cases x<;>simp only[toT,reduceCtorEq]at z<;>simp only[bB,Rep]at p
 .obtain⟨ds,rfl,p⟩:=p;cases z;exact⟨_,rfl,⟨_,rfl,p⟩⟩
 .obtain⟨n,ds,rfl,a,p⟩:=p;unfold gg at z;split at z
  .rename_i k;cases z;refine⟨.tup ds,?_,⟨_,rfl,p⟩⟩;simp only[Ev.qB,gD a];rw[xV (by rw[<-p.length];exact k)]
  .cases z
 .obtain⟨n,ds,rfl,_,a,p⟩:=p;unfold gg at z;split at z
  .rename_i k;cases z;refine⟨.tup ds,?_,⟨_,rfl,p⟩⟩;simp only[Ev.qB,iG a];rw[xV (by rw[<-p.length];exact k)]
  .cases z
def Hf{x:V}{l:List V}{d:D}(z:oz x=some l)(p:bB h S x d):∃s,Ev.Cz h d=some s/\aq h S l s.1/\(∀q∈s.2,d=.ref q.1/\bq h q.1=some q.2):=by
 obtain⟨n,ds,rfl,a,q⟩:=kB z p;exact⟨(ds,[(n,ds)]),by simp[Ev.Cz,a],q,by simp[a]⟩
theorem C8:∀{l:List V}{ds:List D}{bs},boolsOf l=some bs->aq h S l ds->Ev.boolsOf ds=some bs
 |[],_,_,e,q=>by simp only[aq]at q;subst q;exact e
 |x :: xs,_,bs,e,q=>by
  cases x<;>simp only[boolsOf,reduceCtorEq,vv]at e
  obtain⟨r,e,rfl⟩:=e;simp only[aq,Rep]at q;obtain⟨_,ds,rfl,rfl,q⟩:=q;simp[Ev.boolsOf,C8 e q]
theorem nD:∀{l:List V}{ds:List D}{bs},intsOf l=some bs->aq h S l ds->Ev.intsOf ds=some bs
 |[],_,_,e,q=>by simp only[aq]at q;subst q;exact e
 |x :: xs,_,bs,e,q=>by
  cases x<;>simp only[intsOf,reduceCtorEq,vv]at e
  obtain⟨r,e,rfl⟩:=e;simp only[aq,Rep]at q;obtain⟨_,ds,rfl,rfl,q⟩:=q;simp[Ev.intsOf,nD e q]
theorem xD:∀{l:List V}{ds:List D}{bs},strsOf l=some bs->aq h S l ds->Ev.strsOf ds=some bs
 |[],_,_,e,q=>by simp only[aq]at q;subst q;exact e
 |x :: xs,_,bs,e,q=>by
  cases x<;>simp only[strsOf,reduceCtorEq,vv]at e
  obtain⟨r,e,rfl⟩:=e;simp only[aq,Rep]at q;obtain⟨_,ds,rfl,rfl,q⟩:=q;simp[Ev.strsOf,xD e q]
def fD.one{v:V}{ds:List D}(q:fD h S [v] ds):∃d,ds=[d]/\bB h S v d:=by
 simp only[fD]at q;obtain⟨d,es,rfl,a,rfl⟩:=q;exact⟨d,rfl,a⟩
def LD{b:BI}{xs:List V}{v:V}{ds:List D}(w:∀m,S m->m<h.length)(z:cK b xs=some v)(p:fD h S xs ds):∃r h' S',Ev.cK b ds h=.ok r h'/\Rep h' S' v r/\Al h S h' S':=by
 delta cK at z
 rcases xs with _|⟨x,_|⟨y,_|⟨u,xs⟩⟩⟩
 .cases b<;>exact nn z
 .obtain⟨d,rfl,p1⟩:=p.one;cases b
  case len=>
   cases x
   case str s=>
    dsimp only at z;simp only[bB,Rep]at p1;subst p1;split at z
    .rename_i k;cases z;exact⟨_,_,S,by delta Ev.cK;dsimp only;rw[xV k],rfl,.refl⟩
    .cases z
   case tup l=>
    dsimp only at z;simp only[bB,Rep]at p1;obtain⟨es,rfl,p2⟩:=p1;cases z;exact⟨_,_,S,rfl,by simp[Rep,p2.length],.refl⟩
   all_goals
    dsimp only at z;simp only[vv]at z;obtain⟨l,z,rfl⟩:=z;obtain⟨n,es,rfl,a,q⟩:=kB z p1;exact⟨.int es.length,h,S,by delta Ev.cK;dsimp only;simp[a],by simp[Rep,q.length],.refl⟩
  case sum=>
   dsimp only at z;simp only[vv,Ru]at z;obtain⟨bs,⟨l,z,z2⟩,rfl⟩:=z;obtain⟨n,es,rfl,a,q⟩:=kB z p1;exact⟨_,_,S,by delta Ev.cK;dsimp only;simp only[a,Option.bind,nD z2 q];rfl,rfl,.refl⟩
  case min=>cases x<;>exact nn z
  case jP=>
   dsimp only at z;simp only[Ru]at z;obtain⟨ss,⟨l,z,z2⟩,z3⟩:=z;obtain⟨n,es,rfl,a,q⟩:=kB z p1;split at z3
   .rename_i hl
    delta Ev.cK;dsimp only;simp only[a,Option.bind,nD z2 q]
    rw[xV hl];exact ir w z3 (aq.map (f:=V.int) (g:=D.int) (λs=>by simp[Rep]) _)
   .cases z3
  case kY=>
   dsimp only at z;simp only[Ru]at z;obtain⟨ss,⟨l,z,z2⟩,z3⟩:=z;obtain⟨n,es,rfl,a,q⟩:=kB z p1;split at z3
   .rename_i hl
    delta Ev.cK;dsimp only;simp only[a,Option.bind,nD z2 q]
    rw[xV hl];exact ir w z3 (aq.map (f:=V.int) (g:=D.int) (λs=>by simp[Rep]) _)
   .cases z3
 .cases b
  case min=>
   cases x
   case int i=>
    cases y
    case int j=>
     dsimp only at z;simp only[fD,bB,Rep]at p;obtain⟨_,_,rfl,rfl,_,_,rfl,rfl,rfl⟩:=p;cases z;exact⟨_,_,S,rfl,rfl,.refl⟩
    all_goals exact nn z
   all_goals exact nn z
  case len=>cases x<;>exact nn z
  all_goals exact nn z
 .cases b
  case min=>cases x <;> (try cases y)<;>exact nn z
  case len=>cases x<;>exact nn z
  all_goals exact nn z
def LF{m:ME}{o:V}{xs:List V}{v:V}{d:D}{ds:List D}(z:eV m o xs=some v)(hm:iQ m=false)(po:bB h S o d)(p:fD h S xs ds):Ev.wN m d h=true/\∃r,Ev.eV m d ds h=.ok r h/\Rep h S v r:=by
 unfold eV at z;split at z
 .obtain⟨d,rfl,p1⟩:=p.one;simp only[bB,Rep]at po;subst po;simp only[Ru]at z;obtain⟨ss,⟨l,z,z2⟩,z3⟩:=z;obtain⟨n,es,rfl,a,q⟩:=kB z p1;split at z3
  .rename_i k;cases z3;refine⟨rfl,_,?_,rfl⟩
   delta Ev.eV;dsimp only;simp only[a,Option.bind,xD z2 q]
   rw[xV k]
  .cases z3
 .cases z
def Hg{x:V}{d:D}(f:sZ x=true)(p:Rep h U x d):Rep [] U x d:=by
 cases x<;>simp only[sZ,W4]at f<;>exact p
def C9{x:V}{d:D}(p:Rep h U x d):∀{kvs:List (D×D)}{v:V},eF x kvs=some v->∃r,Ev.eF d kvs=some r/\Rep h S v r:=by
 intro kvs v z;unfold eF at z;split at z
 .rename_i f;have p':=Hg f p;induction kvs with
  |nil=>cases z
  |cons kv r ih=>
   obtain⟨k,u⟩:=kv;simp only[yX]at z;simp only[Ev.eF];split at z
   .rename_i y;simp only[Ru]at y;obtain⟨k',y1,y2⟩:=y;rw[jF 1 y2 (mP y1) p'];exact⟨u,rfl,mP z⟩
   .rename_i y;simp only[Ru]at y;obtain⟨k',y1,y2⟩:=y;rw[jF 1 y2 (mP y1) p'];exact ih z
   .cases z
 .cases z
def Dc{x:V}{l:List V}{d:D}(z:fU x=some l)(p:bB h S x d):∃s,Ev.fU h d=some s/\aq h S l s.1/\(∀q∈s.2,d=.ref q.1/\bq h q.1=some q.2):=by
 cases x<;>simp only[fU,reduceCtorEq]at z<;>simp only[bB,Rep]at p
 .subst p;cases z;exact⟨_,rfl,aq.map (f:=λc=>V.str [c]) (g:=λc=>D.str [c]) (λ_=>by simp[Rep]) _,by simp⟩
 .obtain⟨ds,rfl,p⟩:=p;cases z;exact⟨_,rfl,p,by simp⟩
 .obtain⟨n,ds,rfl,a,p⟩:=p;cases z;exact⟨(ds,[(n,ds)]),by simp[Ev.fU,gD a],p,by simp[gD a]⟩
 .obtain⟨n,ds,rfl,_,a,p⟩:=p;cases z;exact⟨(ds,[(n,ds)]),by simp[Ev.fU,iG a],p,by simp[iG a]⟩
def uR(lo:Int)(n:Nat):aq h S (range lo n) (Ev.range lo n):=aq.map (f:=λ(i:Nat)=>V.int (lo+i)) (g:=λ(i:Nat)=>D.int (lo+i)) (λ_=>by simp[Rep]) _
def LG{xs l:List V}{ds:List D}(z:eG xs=some l)(p:fD h S xs ds):∃s,Ev.eG ds=some (s,[])/\aq h S l s:=by
 unfold eG at z;split at z
 .obtain⟨d,rfl,p1⟩:=p.one;simp only[bB,Rep]at p1;subst p1;split at z
  .rename_i k;cases z;exact⟨_,by simp only[Ev.eG];rw[xV k],uR _ _⟩
  .cases z
 .simp only[fD,bB,Rep]at p;obtain⟨_,_,rfl,rfl,_,_,rfl,rfl,rfl⟩:=p;split at z
  .rename_i k;cases z;exact⟨_,by simp only[Ev.eG];rw[xV k],uR _ _⟩
  .cases z
 .cases z
theorem xE:∀{a:List V}{ds:List D}(k:Int),aq h S a ds->aq h S (gq k a) (Ev.gq k ds)
 |[],_,_,p=>by simp only[aq]at p;subst p;simp[gq,Ev.gq,aq]
 |x :: xs,_,k,p=>by
  simp only[aq]at p;obtain⟨d,ds,rfl,p1,p2⟩:=p;simp only[gq,Ev.gq];exact .cons ⟨_,rfl,.cons rfl (.cons p1 .nil)⟩ (xE _ p2)
end
noncomputable def kj(M B:Nat->Prop)(h:Hh)(S:Nat->Prop):Option Sl->Option D->Prop
 |none,p=>p=none
 |some (.val v),p=>∃d,p=some d/\Rep h S v d
 |some (.own l),p=>∃m ds,p=some (.ref m)/\(M m/\¬ B m)/\h[m]?=some (.lst ds)/\aq h S l ds
 |some (.bor l),p=>∃m ds,p=some (.ref m)/\(M m/\B m)/\h[m]?=some (.lst ds)/\aq h S l ds
 |some (.ro l),p=>∃m ds,p=some (.ref m)/\¬ M m/\h[m]?=some (.lst ds)/\aq h S l ds
noncomputable def gO:Option Sl->Bool
 |some (.own _)=>true
 |some (.bor _)=>true
 |_=>false
noncomputable def xF:Option Sl->Bool
 |some (.bor _)=>true
 |some (.ro _)=>true
 |_=>false
noncomputable def locked(fr:Fr)(i:Nat):Bool:=match fr[i]? with
 |some o=>xF o
 |none=>false
structure bx(M B:Nat->Prop)(h:Hh)(S:Nat->Prop)(fr:Fr)(aj:Ev.Fr):Prop where
 wS:∀m,S m->m<h.length/\¬ M m/\¬ B m
 wM:∀m,M m->m<h.length
 wB:∀m,B m->m<h.length
 len:fr.length=aj.length
 sl:∀(i:Nat) o p,fr[i]?=some o->aj[i]?=some p->kj M B h S o p
 inj:∀(i j:Nat) o o' m,fr[i]?=some o->fr[j]?=some o'->gO o=true->gO o'=true->aj[i]?=some (some (.ref m))->aj[j]?=some (some (.ref m))->i=j
structure Tk(X:Nat->Prop)(h:Hh)(S:Nat->Prop)(h':Hh)(S':Nat->Prop):Prop where
 len:h.length<=h'.length
 keep:∀m,m<h.length->¬ X m->h'[m]?=h[m]?
 sub:∀m,S m->S' m
 new:∀m,S' m->S m\/(h.length<=m/\m<h'.length)
noncomputable def Xs(M:Nat->Prop)(aj:Ev.Fr)(l:List Nat):Nat->Prop:=λm=>M m/\∃i∈l,aj[i]?=some (some (.ref m))
structure Out(M B:Nat->Prop)(c:List Nat)(h:Hh)(S:Nat->Prop)(fr:Fr)(aj:Ev.Fr)(h':Hh)(S':Nat->Prop)(af:Fr):Prop where
 f:bx M B h' S' af aj
 tr:Tk (Xs M aj c) h S h' S'
 lk:∀i,locked af i=locked fr i
section
variable{M B:Nat->Prop}{h h' h1 h2:Hh}{S S' S1 S2:Nat->Prop}{fr af ao:Fr}{aj:Ev.Fr}{c c1 c2:List Nat}{v:V}{d:D}{X X1 X2:Nat->Prop}
def bx.get(f:bx M B h S fr aj){i:Nat}{o:Option Sl}(e:fr[i]?=some o):∃p,aj[i]?=some p/\kj M B h S o p:=by
 have h1:=(List.getElem?_eq_some_iff.mp e).1;rw[f.len]at h1;exact⟨aj[i],MZ h1,f.sl i o _ e (MZ h1)⟩
def bx.w(f:bx M B h S fr aj):∀m,S m->m<h.length:=λm q=>(f.wS m q).1
def Al.tr(a:Al h S h' S'):Tk X h S h' S':=⟨a.len,λm q _=>a.keep m q,a.sub,a.new⟩
def Tk.al(t:Tk X h S h' S')(z:∀m,¬ X m):Al h S h' S':=⟨t.len,λm q=>t.keep m q (z m),t.sub,t.new⟩
def Tk.weak(t:Tk X h S h' S')(q:∀m,X m->X1 m):Tk X1 h S h' S':=⟨t.len,λm k z=>t.keep m k λy=>z (q m y),t.sub,t.new⟩
def Tk.trans(a:Tk X1 h S h1 S1)(b:Tk X2 h1 S1 h2 S2):Tk (λm=>X1 m\/X2 m) h S h2 S2 where
 len:=WV a.len b.len
 keep:=λm q z=>by rw[b.keep m (Rt q a.len) (λy=>z (.inr y)),a.keep m q (λy=>z (.inl y))]
 sub:=λm q=>b.sub m (a.sub m q)
 new:=λm q=>by
  rcases b.new m q with q|⟨q1,q2⟩
  .rcases a.new m q with q|⟨q1,q2⟩
   .exact .inl q
   .exact .inr ⟨q1,Rt q2 b.len⟩
  .exact .inr ⟨WV a.len q1,q2⟩
theorem Al.trans(a:Al h S h1 S1)(b:Al h1 S1 h2 S2):Al h S h2 S2:=((a.tr (X:=λ_=>False)).trans (b.tr (X:=λ_=>False))).al λm z=>by simp at z
def Tk.refl:Tk X h S h S:=⟨qh _,λ_ _ _=>rfl,λ_ q=>q,λ_ q=>.inl q⟩
def Xs.app{l1 l2:List Nat}{m:Nat}:Xs M aj (l1++l2) m↔Xs M aj l1 m\/Xs M aj l2 m:=by
 unfold Xs;constructor
 .rintro⟨a,i,hi,e⟩;rcases List.mem_append.mp hi with hi|hi
  .exact .inl ⟨a,i,hi,e⟩
  .exact .inr ⟨a,i,hi,e⟩
 .rintro(⟨a,i,hi,e⟩|⟨a,i,hi,e⟩)
  .exact⟨a,i,List.mem_append.mpr (.inl hi),e⟩
  .exact⟨a,i,List.mem_append.mpr (.inr hi),e⟩
def Xs.nil{m:Nat}:¬ Xs M aj [] m:=by rintro⟨_,i,hi,_⟩;simp at hi
def Xs.mono{l1 l2:List Nat}(q:∀i∈l1,i∈l2){m:Nat}:Xs M aj l1 m->Xs M aj l2 m:=λ⟨a,i,hi,e⟩=>⟨a,i,q i hi,e⟩
def Rep.tr(q:Rep h S v d)(f:bx M B h S fr aj)(t:Tk (Xs M aj c) h S h' S'):Rep h' S' v d:=q.mono (λm z=>t.keep m (f.wS m z).1 (λy=>(f.wS m z).2.1 y.1)) t.sub
def aq.tr{l:List V}{ds:List D}(q:aq h S l ds)(f:bx M B h S fr aj)(t:Tk (Xs M aj c) h S h' S'):aq h' S' l ds:=q.mono (λm z=>t.keep m (f.wS m z).1 (λy=>(f.wS m z).2.1 y.1)) t.sub
def bB.tr(q:bB h S v d)(f:bx M B h S fr aj)(t:Tk X h S h' S')(z:∀m,¬ X m):bB h' S' v d:=q.mono (λm k=>t.keep m k (z m)) f.w t.sub
def kj.al{o:Option Sl}{p:Option D}(q:kj M B h S o p)(w:∀m,S m->m<h.length)(a:Al h S h' S'):kj M B h' S' o p:=by
 have k:∀m,S m->h'[m]?=h[m]?:=λm z=>a.keep m (w m z);have g:∀(m:Nat) (ds:List D),h[m]?=some (O.lst ds)->h'[m]?=some (O.lst ds):=λm ds z=>by rw[a.keep m (List.getElem?_eq_some_iff.mp z).1];exact z
 rcases o with _|s
 .exact q
 .cases s with
  |val v=>obtain⟨d,e,q⟩:=q;exact⟨d,e,q.mono k a.sub⟩
  |own l=>obtain⟨m,ds,e,z,y,q⟩:=q;exact⟨m,ds,e,z,g m ds y,q.mono k a.sub⟩
  |bor l=>obtain⟨m,ds,e,z,y,q⟩:=q;exact⟨m,ds,e,z,g m ds y,q.mono k a.sub⟩
  |ro l=>obtain⟨m,ds,e,z,y,q⟩:=q;exact⟨m,ds,e,z,g m ds y,q.mono k a.sub⟩
theorem bx.al(f:bx M B h S fr aj)(a:Al h S h' S'):bx M B h' S' fr aj where
 wS:=λm q=>by
  rcases a.new m q with q|⟨q1,q2⟩
  .exact⟨Rt (f.wS m q).1 a.len,(f.wS m q).2⟩
  .exact⟨q2,λz=>by have:=f.wM m z;omega,λz=>by have:=f.wB m z;omega⟩
 wM:=λm q=>Rt (f.wM m q) a.len
 wB:=λm q=>Rt (f.wB m q) a.len
 len:=f.len
 sl:=λi o p e1 e2=>(f.sl i o p e1 e2).al f.w a
 inj:=f.inj
theorem Out.refl(f:bx M B h S fr aj):Out M B c h S fr aj h S fr:=⟨f,.refl,λ_=>rfl⟩
theorem Out.trans(a:Out M B c1 h S fr aj h1 S1 af)(b:Out M B c2 h1 S1 af aj h2 S2 ao):Out M B (c1++c2) h S fr aj h2 S2 ao:=⟨b.f,(a.tr.trans b.tr).weak λm z=>Xs.app.mpr z,λi=>(b.lk i).trans (a.lk i)⟩
theorem Out.al(a:Out M B c h S fr aj h1 S1 af)(b:Al h1 S1 h2 S2):Out M B c h S fr aj h2 S2 af:=⟨a.f.al b,(a.tr.trans (b.tr (X:=λ_=>False))).weak (λm z=>by rcases z with z|z;exact z;exact z.elim),a.lk⟩
theorem Out.weak(a:Out M B c h S fr aj h1 S1 af)(q:∀i∈c,i∈c1):Out M B c1 h S fr aj h1 S1 af:=⟨a.f,a.tr.weak λm z=>Xs.mono q z,a.lk⟩
noncomputable def fM(k:Bool)(h:Hh)(S:Nat->Prop)(v:V)(d:D):Prop:=if k=true then bB h S v d else Rep h S v d
def fM.of{k:Bool}(q:Rep h S v d):fM k h S v d:=by unfold fM;split;exact q.top;exact q
def fM.t{k:Bool}(q:fM k h S v d):bB h S v d:=by unfold fM at q;split at q;exact q;exact q.top
def fM.n(q:fM false h S v d):Rep h S v d:=by simpa[fM]using q
def bx.slot(f:bx M B h S fr aj){i m:Nat}(e:aj[i]?=some (some (.ref m)))(hm:M m):∃o,fr[i]?=some o/\gO o=true:=by
 have hl:i<fr.length:=by rw[f.len];exact(List.getElem?_eq_some_iff.mp e).1
 refine⟨fr[i],MZ hl,?_⟩;have s:=f.sl i _ _ (MZ hl) e
 revert s
 generalize fr[i]=o
 intro s;rcases o with _|s'
 .cases s
 .cases s' with
  |own l=>rfl
  |bor l=>rfl
  |ro l=>obtain⟨m',ds,e,y,_⟩:=s;cases e;exact absurd hm y
  |val v=>
   obtain⟨d,e,q⟩:=s;cases e;exfalso;cases v<;>simp only[Rep,reduceCtorEq]at q
   .obtain⟨_,e,_⟩:=q;cases e
   .obtain⟨n,ds,e,sn,_⟩:=q;cases e;exact(f.wS _ sn).2.1 hm
   .obtain⟨n,ds,e,sn,_⟩:=q;cases e;exact(f.wS _ sn).2.1 hm
theorem fM.tr{k:Bool}{a:E}(q:fM k h S v d)(f:bx M B h S fr aj)(t:Tk (Xs M aj c) h S h' S')(hk:k=true->kf a c=true)(ha:∀i,a=.v i->aj[i]?.join=some d):fM k h' S' v d:=by
 unfold fM at q ⊢;split at q
 .rename_i e;rw[xV e];have hk:=hk e;have gen:c=[]->bB h' S' v d:=λz=>q.tr f t λm y=>by subst z;exact Xs.nil y
  by_cases hv:∃i,a=.v i
  .obtain⟨i0,rfl⟩:=hv;simp only[kf,Zr,List.contains_eq_mem,ZH]at hk;cases v
   case lst l=>
    simp only[bB]at q ⊢;obtain⟨n,ds,rfl,b1,b2⟩:=q;refine⟨n,ds,rfl,?_,b2.tr f t⟩;rw[t.keep n (List.getElem?_eq_some_iff.mp b1).1 ?_]
    .exact b1
    .rintro⟨mn,j,hj,ej⟩;have e2:aj[i0]?=some (some (D.ref n)):=by
      have:=ha i0 rfl;cases z:aj[i0]? with
      |none=>rw[z]at this;cases this
      |some p=>rw[z]at this;simp at this;rw[this]
     obtain⟨o1,y1,y2⟩:=f.slot e2 mn;obtain⟨o2,y3,y4⟩:=f.slot ej mn;have:=f.inj i0 j o1 o2 n y1 y3 y2 y4 e2 ej;subst this;exact hk hj
   all_goals exact Rep.tr (show Rep h S _ d from q) f t
  .have:kf a c=c.isEmpty:=by
    cases a<;>first|rfl|exact absurd ⟨_,rfl⟩ hv
   rw[this,List.isEmpty_iff]at hk;exact gen hk
 .rename_i e;rw[WQ e];exact q.tr f t
def Hi{k:Bool}{i:Nat}(e:qS k fr i=some v)(f:bx M B h S fr aj):∃d,aj[i]?.join=some d/\fM k h S v d:=by
  unfold qS at e;split at e
  . rename_i z;obtain⟨p,e1,q⟩:=f.get z;obtain⟨d,rfl,q⟩:=q;cases e;exact⟨d,by rw[e1];rfl,.of q⟩
  all_goals first
    | (rename_i z
       obtain⟨p,e1,q⟩:=f.get z;obtain⟨m,ds,rfl,_,y,q⟩:=q;split at e
       . rename_i hk;cases e;exact⟨.ref m,by rw[e1];rfl,by unfold fM;rw[xV hk];exact⟨m,ds,rfl,y,q⟩⟩
       . cases e)
    |cases e
def jx{i:Nat}{s:Sl}(e:lent fr i=some s)(f:bx M B h S fr aj):∃m ds l o,fr[i]?=some o/\aj[i]?=some (some (.ref m))/\h[m]?=some (.lst ds)/\aq h S l ds/\((s=.bor l/\M m/\gO o=true)\/(s=.ro l/\¬ M m/\o=some (.ro l))):=by
 unfold lent at e;split at e
 .rename_i s' z;obtain⟨p,e1,q⟩:=f.get z;cases s' with
  |val v=>simp[Sl.lend]at e
  |own l=>
   simp[Sl.lend]at e;subst e;obtain⟨m,ds,rfl,y,y1,q⟩:=q;exact⟨m,ds,l,_,z,e1,y1,q,.inl ⟨rfl,y.1,rfl⟩⟩
  |bor l=>
   simp[Sl.lend]at e;subst e;obtain⟨m,ds,rfl,y,y1,q⟩:=q;exact⟨m,ds,l,_,z,e1,y1,q,.inl ⟨rfl,y.1,rfl⟩⟩
  |ro l=>
   simp[Sl.lend]at e;subst e;obtain⟨m,ds,rfl,y,y1,q⟩:=q;exact⟨m,ds,l,_,z,e1,y1,q,.inr ⟨rfl,y,rfl⟩⟩
 .cases e
noncomputable def sL(h:Hh)(S:Nat->Prop)(aj:Ev.Fr):List (Nat ⊕ V)->List D->Prop
 |[],ds=>ds=[]
 |.inl i :: r,ds=>∃d es,ds=d :: es/\aj[i]?=some (some d)/\sL h S aj r es
 |.inr v :: r,ds=>∃d es,ds=d :: es/\Rep h S v d/\sL h S aj r es
noncomputable def mQ(h:Hh)(S:Nat->Prop):List Sl->List D->List (List V)->Prop
 |[],_,os=>os=[]
 |.val _ :: sl,ds,os=>∃d es,ds=d :: es/\mQ h S sl es os
 |.own _ :: _,_,_=>False
 |_ :: sl,ds,os=>∃d es l r m cs,ds=d :: es/\os=l :: r/\d=.ref m/\h[m]?=some (.lst cs)/\aq h S l cs/\mQ h S sl es r
noncomputable def pM(P:aL)(P':Ev.aL):Prop:=∀f sl v os,P f sl=some (v,os)->∀(h:Hh) (S B:Nat->Prop) (ds:List D),bx B B h S (sl.map some) (ds.map some)->
 ∃d h' S',P' f ds h=.ok d h'/\Rep h' S' v d/\Tk B h S h' S'/\mQ h' S' sl ds os
theorem Z2(f:bx M B h S fr aj):∀{as:List (Nat ⊕ V)}{sl:List Sl}{ds:List D},args fr as=some sl->sL h S aj as ds->sl.length=ds.length/\∀(a:Nat) s d,sl[a]?=some s->ds[a]?=some d->
  (∃i,as[a]?=some (.inl i)/\lent fr i=some s/\aj[i]?=some (some d))\/(∃v,s=.val v/\Rep h S v d)
 |[],sl,ds,e,q=>by
  simp[args]at e;simp only[sL]at q;subst e q;simp
 |.inl i :: r,sl,ds,e,q=>by
  simp only[args,Ru,vv]at e;obtain⟨s,e1,l,e2,rfl⟩:=e;obtain⟨d,es,rfl,q1,q⟩:=q;obtain⟨h1,h2⟩:=Z2 f e2 q;refine⟨by simp[h1],λa s' d' z1 z2=>?_⟩;cases a with
  |zero=>simp at z1 z2;subst z1 z2;exact .inl ⟨i,by simp,e1,q1⟩
  |succ a=>exact(h2 a s' d' (by simpa using z1) (by simpa using z2)).imp (λ⟨i,k,z⟩=>⟨i,by simpa using k,z⟩) id
 |.inr v :: r,sl,ds,e,q=>by
  simp only[args,vv]at e;obtain⟨l,e2,rfl⟩:=e;obtain⟨d,es,rfl,q1,q⟩:=q;obtain⟨h1,h2⟩:=Z2 f e2 q;refine⟨by simp[h1],λa s' d' z1 z2=>?_⟩;cases a with
  |zero=>simp at z1 z2;subst z1 z2;exact .inr ⟨v,rfl,q1⟩
  |succ a=>exact(h2 a s' d' (by simpa using z1) (by simpa using z2)).imp (λ⟨i,k,z⟩=>⟨i,by simpa using k,z⟩) id
theorem gP:∀{as:List (Nat ⊕ V)}{a i:Nat},as[a]?=some (.inl i)->i∈bM as
 |[],_,_,e=>by simp at e
 |.inl j :: r,0,i,e=>by simp at e;subst e;simp[bM]
 |.inr j :: r,0,i,e=>by simp at e
 |.inl j :: r,a+1,i,e=>by have:=gP (as:=r) (a:=a) (i:=i) (by simpa using e);simp[bM,this]
 |.inr j :: r,a+1,i,e=>by have:=gP (as:=r) (a:=a) (i:=i) (by simpa using e);simp[bM,this]
theorem mR:∀{as:List (Nat ⊕ V)}{a b i:Nat},(bM as).Nodup->as[a]?=some (.inl i)->as[b]?=some (.inl i)->a=b
 |[],_,_,_,_,e,_=>by simp at e
 |x :: r,0,0,_,_,_,_=>rfl
 |.inr j :: r,0,b+1,i,n,e,_=>by simp at e
 |.inl j :: r,0,b+1,i,n,e,e2=>by
  simp at e;subst e;simp only[bM,Y7]at n;exact absurd (gP (as:=r) (a:=b) (by simpa using e2)) n.1
 |.inr j :: r,a+1,0,i,n,_,e=>by simp at e
 |.inl j :: r,a+1,0,i,n,e2,e=>by
  simp at e;subst e;simp only[bM,Y7]at n;exact absurd (gP (as:=r) (a:=a) (by simpa using e2)) n.1
 |.inl j :: r,a+1,b+1,i,n,e1,e2=>by
  simp only[bM,Y7]at n;have:=mR (as:=r) (a:=a) (b:=b) (i:=i) n.2 (by simpa using e1) (by simpa using e2);omega
 |.inr j :: r,a+1,b+1,i,n,e1,e2=>by
  simp only[bM]at n;have:=mR (as:=r) (a:=a) (b:=b) (i:=i) n (by simpa using e1) (by simpa using e2);omega
def De{s:Sl}{l:List V}:gO (some (s.with l))=gO (some s):=by cases s<;>rfl
def xG{s:Sl}{l:List V}:xF (some (s.with l))=xF (some s):=by cases s<;>rfl
theorem uS:∀{is:List Nat}{ls:List (List V)}{fr af:Fr},back is ls fr=some af->is.Nodup->af.length=fr.length/\(∀i,i∉is->af[i]?=fr[i]?)/\∀i∈is,∃(k:Nat) (s:Sl) (l:List V),is[k]?=some i/\ls[k]?=some l/\fr[i]?=some (some s)/\af[i]?=some (some (s.with l))
 |[],[],fr,af,e,_=>by simp[back]at e;subst e;simp
 |[],_ :: _,_,_,e,_=>by simp[back]at e
 |_ :: _,[],_,_,e,_=>by simp[back]at e
 |i :: is,l :: ls,fr,af,e,n=>by
  simp only[back]at e;simp only[Y7]at n;split at e
  .rename_i s z;obtain⟨h1,h2,h3⟩:=uS e n.2;refine⟨by simpa using h1,λj hj=>?_,λj hj=>?_⟩
   .simp at hj;rw[h2 j hj.2,Vo (λq=>hj.1 q.symm)]
   .rcases List.mem_cons.mp hj with rfl|hj
    .exact⟨0,s,l,by simp,by simp,z,by rw[h2 j n.1,WS (List.getElem?_eq_some_iff.mp z).1]⟩
    .obtain⟨k,s',l',a,b,c,d⟩:=h3 j hj;have hne:i≠j:=λq=>n.1 (q▸hj);rw[Vo hne]at c;exact⟨k+1,s',l',by simpa using a,by simpa using b,c,d⟩
  .cases e
theorem mS(f:bx M B h S fr aj):∀{as:List (Nat ⊕ V)}{sl:List Sl}{ds:List D}{os:List (List V)},args fr as=some sl->sL h S aj as ds->mQ h' S' sl ds os->
  ∀(k i:Nat) l,(bM as)[k]?=some i->os[k]?=some l->∃m cs,aj[i]?=some (some (.ref m))/\h'[m]?=some (.lst cs)/\aq h' S' l cs
 |[],sl,ds,os,e,q,o=>by simp[bM]
 |.inl i :: r,sl,ds,os,e,q,o=>by
  simp only[args,Ru,vv]at e;obtain⟨s,e1,l,e2,rfl⟩:=e;obtain⟨d,es,rfl,q1,q⟩:=q;obtain⟨m,cs,l0,o0,_,z2,z3,z4,z5⟩:=jx e1 f;have key:∃l1 r1 cs,os=l1 :: r1/\h'[m]?=some (.lst cs)/\aq h' S' l1 cs/\mQ h' S' l es r1:=by
   rw[q1]at z2;cases z2;rcases z5 with ⟨rfl,_⟩|⟨rfl,_⟩
   .obtain⟨d',es',l1,r1,m1,A7,a1,a2,a3,a4,a5,a6⟩:=o;cases a1;cases a3;exact⟨l1,r1,A7,a2,a4,a5,a6⟩
   .obtain⟨d',es',l1,r1,m1,A7,a1,a2,a3,a4,a5,a6⟩:=o;cases a1;cases a3;exact⟨l1,r1,A7,a2,a4,a5,a6⟩
  obtain⟨l1,r1,A7,rfl,a4,a5,a6⟩:=key;intro k j l' y1 y2;cases k with
  |zero=>simp[bM]at y1 y2;subst y1 y2;exact⟨m,A7,z2,a4,a5⟩
  |succ k=>exact mS f e2 q a6 k j l' (by simpa[bM]using y1) (by simpa using y2)
 |.inr v :: r,sl,ds,os,e,q,o=>by
  simp only[args,vv]at e;obtain⟨l,e2,rfl⟩:=e;obtain⟨d,es,rfl,q1,q⟩:=q;obtain⟨d',es',a1,a2⟩:=o;cases a1;intro k j l' y1 y2;exact mS f e2 q a2 k j l' (by simpa[bM]using y1) y2
theorem lq:∀{as:List (Nat ⊕ V)}{sl:List Sl}{i:Nat},args fr as=some sl->i∈bM as->∃s,lent fr i=some s
 |[],_,_,_,q=>by simp[bM]at q
 |.inl j :: r,_,i,z,q=>by
  simp only[args,Ru,vv]at z;obtain⟨s,e1,l,e2,rfl⟩:=z;simp[bM]at q;rcases q with rfl|q
  .exact⟨s,e1⟩
  .exact lq e2 q
 |.inr u :: r,_,i,z,q=>by
  simp only[args,vv]at z;obtain⟨l,e2,rfl⟩:=z;exact lq e2 (by simpa[bM]using q)
noncomputable def LB(fr:Fr)(aj:Ev.Fr)(as:List (Nat ⊕ V)):Nat->Prop:=λm=>∃(i:Nat) (o:Option Sl),i∈bM as/\fr[i]?=some o/\gO o=true/\aj[i]?=some (some (.ref m))
theorem LB.m(f:bx M B h S fr aj){as:List (Nat ⊕ V)}:∀m,LB fr aj as m->M m:=λm ⟨i,o,_,a,b,c⟩=>by
  have s:=f.sl i o _ a c;rcases o with _|s'
  .cases b
  .cases s' with
   |val v=>cases b
   |ro l=>cases b
   |own l=>obtain⟨m',ds',e,y,_⟩:=s;cases e;exact y.1
   |bor l=>obtain⟨m',ds',e,y,_⟩:=s;cases e;exact y.1
def Hj(f:bx M B h S fr aj){as:List (Nat ⊕ V)}{sl:List Sl}{ds:List D}(nd:(bM as).Nodup)(z:args fr as=some sl)(q:sL h S aj as ds):bx (LB fr aj as) (LB fr aj as) h S (sl.map some) (ds.map some):=by
 have oA:=LB.m f (as:=as);obtain⟨hl,hg⟩:=Z2 f z q;refine⟨λm y=>⟨(f.wS m y).1,λz=>(f.wS m y).2.1 (oA m z),λz=>(f.wS m y).2.1 (oA m z)⟩,λm y=>f.wM m (oA m y),λm y=>f.wM m (oA m y),by simp[hl],λa o p y1 y2=>?_,λa b o o' m y1 y2 y3 y4 y5 y6=>?_⟩
 .simp at y1 y2;obtain⟨s,y1,rfl⟩:=y1;obtain⟨d,y2,rfl⟩:=y2;rcases hg a s d y1 y2 with ⟨i,k1,k2,k3⟩|⟨u,rfl,k⟩
  .obtain⟨m,cs,l0,o0,w1,w2,w3,w4,w5⟩:=jx k2 f;rw[k3]at w2;cases w2;rcases w5 with ⟨rfl,w6,w7⟩|⟨rfl,w6,w7⟩
   .exact⟨m,cs,rfl,⟨⟨i,o0,gP k1,w1,w7,k3⟩,⟨i,o0,gP k1,w1,w7,k3⟩⟩,w3,w4⟩
   .exact⟨m,cs,rfl,λz=>w6 (oA m z),w3,w4⟩
  .exact⟨d,rfl,k⟩
 .simp at y1 y2 y5 y6;obtain⟨s,y1,rfl⟩:=y1;obtain⟨s',y2,rfl⟩:=y2;rcases hg a s _ y1 y5 with ⟨i,k1,k2,k3⟩|⟨u,rfl,k⟩
  .rcases hg b s' _ y2 y6 with ⟨j,k4,k5,k6⟩|⟨u,rfl,k⟩
   .obtain⟨m1,_,l1,o1,w1,w2,_,_,w5⟩:=jx k2 f;obtain⟨m2,_,l2,o2,x1,x2,_,_,x5⟩:=jx k5 f;have i1:gO o1=true:=by rcases w5 with ⟨_,_,w7⟩|⟨rfl,_,_⟩;exact w7;cases y3
    have i2:gO o2=true:=by rcases x5 with ⟨_,_,w7⟩|⟨rfl,_,_⟩;exact w7;cases y4
    have:=f.inj i j o1 o2 m w1 x1 i1 i2 k3 k6;subst this;exact mR nd k1 k4
   .cases y4
  .cases y3
def Df{P:aL}{P':Ev.aL}(HP:pM P P'){g:Nat}{as:List (Nat ⊕ V)}{ds:List D}(e:gu P g as fr=.ok v af)(f:bx M B h S fr aj)(q:sL h S aj as ds) :
  ∃d h' S',P' g ds h=.ok d h'/\Rep h' S' v d/\Out M B (bM as) h S fr aj h' S' af:=by
 unfold gu at e;split at e
 case isFalse=>cases e
 rename_i nd;cases z:args fr as with
 |none=>rw[z]at e;cases e
 |some sl=>
 rw[z]at e;simp only at e;cases z2:P g sl with
 |none=>rw[z2]at e;cases e
 |some vo=>
 obtain⟨v',os⟩:=vo;rw[z2]at e;simp only at e;cases z3:back (bM as) os fr with
 |none=>rw[z3]at e;cases e
 |some ao=>
 rw[z3]at e;simp at e;obtain⟨rfl,rfl⟩:=e;obtain⟨hl,hg⟩:=Z2 f z q
 let B0:Nat->Prop:=LB fr aj as
 have oA:∀m,B0 m->M m:=LB.m f;have F0:bx B0 B0 h S (sl.map some) (ds.map some):=Hj f nd z q;obtain⟨d,h',S',c1,c2,c3,c4⟩:=HP g sl v' os z2 h S B0 ds F0;obtain⟨b1,b2,b3⟩:=uS z3 nd;have hL:=mS f z q c4;have pN:∀m,S m->h'[m]?=h[m]?:=λm y=>c3.keep m (f.wS m y).1 (λz=>(f.wS m y).2.1 (oA m z));refine⟨d,h',S',c1,c2,⟨?_,?_,?_⟩⟩
 .refine⟨λm y=>?_,λm y=>Rt (f.wM m y) c3.len,λm y=>Rt (f.wB m y) c3.len,by rw[b1,f.len],λi o p y1 y2=>?_,λi j o o' m y1 y2 y3 y4 y5 y6=>?_⟩
  .rcases c3.new m y with y|⟨y1,y2⟩
   .exact⟨Rt (f.wS m y).1 c3.len,(f.wS m y).2⟩
   .exact⟨y2,λz=>by have:=f.wM m z;omega,λz=>by have:=f.wB m z;omega⟩
  .by_cases hi:i∈bM as
   .obtain⟨k,s,l,w1,w2,w3,w4⟩:=b3 i hi;rw[w4]at y1;cases y1;obtain⟨m,cs,x1,x2,x3⟩:=hL k i l w1 w2;rw[x1]at y2;cases y2;have old:=f.sl i _ _ w3 x1;cases s with
    |val u=>
     exfalso;have:∃s,lent fr i=some s:=lq z hi;obtain⟨s,hs⟩:=this;simp[lent,w3,Sl.lend]at hs
    |own u=>obtain⟨m',ds',e,y,_⟩:=old;cases e;exact⟨m,cs,rfl,y,x2,x3⟩
    |bor u=>obtain⟨m',ds',e,y,_⟩:=old;cases e;exact⟨m,cs,rfl,y,x2,x3⟩
    |ro u=>
     obtain⟨m',ds',e,y,y1,y2⟩:=old;cases e;refine⟨m,ds',rfl,y,?_,y2.mono pN c3.sub⟩;rw[c3.keep m (List.getElem?_eq_some_iff.mp y1).1 (λz=>y (oA m z))];exact y1
   .rw[b2 i hi]at y1;have old:=f.sl i o p y1 y2;rcases o with _|s
    .exact old
    .cases s with
     |val u=>obtain⟨d,e,q⟩:=old;exact⟨d,e,q.mono pN c3.sub⟩
     |own u=>
      obtain⟨m,ds',rfl,w1,w2,w3⟩:=old;refine⟨m,ds',rfl,w1,?_,w3.mono pN c3.sub⟩;rw[c3.keep m (f.wM m w1.1) (λ⟨j,o2,x1,x2,x3,x4⟩=>hi (f.inj i j _ o2 m y1 x2 rfl x3 y2 x4▸x1))];exact w2
     |bor u=>
      obtain⟨m,ds',rfl,w1,w2,w3⟩:=old;refine⟨m,ds',rfl,w1,?_,w3.mono pN c3.sub⟩;rw[c3.keep m (f.wM m w1.1) (λ⟨j,o2,x1,x2,x3,x4⟩=>hi (f.inj i j _ o2 m y1 x2 rfl x3 y2 x4▸x1))];exact w2
     |ro u=>
      obtain⟨m,ds',rfl,w1,w2,w3⟩:=old;refine⟨m,ds',rfl,w1,?_,w3.mono pN c3.sub⟩;rw[c3.keep m (List.getElem?_eq_some_iff.mp w2).1 (λz=>w1 (oA m z))];exact w2
  .have kind:∀(i:Nat) o,ao[i]?=some o->gO o=true->∃o0,fr[i]?=some o0/\gO o0=true:=λi o w1 w2=>by
    by_cases hi:i∈bM as
    .obtain⟨k,s,l,x1,x2,x3,x4⟩:=b3 i hi;rw[x4]at w1;cases w1;exact⟨_,x3,by rw[De]at w2;exact w2⟩
    .rw[b2 i hi]at w1;exact⟨o,w1,w2⟩
   obtain⟨oi,k1,k2⟩:=kind i o y1 y3;obtain⟨oj,k3,k4⟩:=kind j o' y2 y4;exact f.inj i j oi oj m k1 k3 k2 k4 y5 y6
 .exact c3.weak λm z=>⟨oA m z,by obtain⟨i,o,a1,a2,a3,a4⟩:=z;exact⟨i,a1,a4⟩⟩
 .intro i;unfold locked;by_cases hi:i∈bM as
  .obtain⟨k,s,l,x1,x2,x3,x4⟩:=b3 i hi;rw[x3,x4];exact xG
  .rw[b2 i hi]
end
end Pv
namespace Pv
open Ev (D O Hh)
end Pv
namespace Pv
open Ev (D O Hh bh aZ TY BI ME T E Es Eo It S Ss Fn big deep b2i rep bL cY bu aK cut bU cH slots bq)
section
variable{M B:Nat->Prop}{h h' h1 h2:Hh}{S S' S1 S2:Nat->Prop}{fr af ao:Fr}{aj:Ev.Fr}{c:List Nat}{v:V}{d:D}
def kC{n m:Nat}{o:O}(q:n≠m):(h.set n o)[m]?=h[m]?:=Vo q
def bx.mM(f:bx M B h S fr aj){i n:Nat}{o:Option Sl}(e:fr[i]?=some o)(hM:gO o=true)(e':aj[i]?=some (some (.ref n))):M n:=by
 have s:=f.sl i o _ e e';rcases o with _|s'
 .cases hM
 .cases s' with
  |val v=>cases hM
  |ro l=>cases hM
  |own l=>obtain⟨m',ds',e,y,_⟩:=s;cases e;exact y.1
  |bor l=>obtain⟨m',ds',e,y,_⟩:=s;cases e;exact y.1
def bx.write(f:bx M B h S fr aj){i n:Nat}{s:Sl}{l':List V}{ds':List D}(e:fr[i]?=some (some s))(hM:gO (some s)=true)(e':aj[i]?=some (some (.ref n)))(q:aq h S l' ds') :
  bx M B (h.set n (.lst ds')) S (fr.set i (some (s.with l'))) aj:=by
 have mn:=f.mM e hM e';have kp:∀m,S m->(h.set n (.lst ds'))[m]?=h[m]?:=λm z=>kC λy=>(f.wS m z).2.1 (y▸mn);have il:=(List.getElem?_eq_some_iff.mp e).1;refine⟨λm y=>by simpa using f.wS m y,λm y=>by simpa using f.wM m y,λm y=>by simpa using f.wB m y,by simp[f.len],λj o p y1 y2=>?_,λj k o o' m y1 y2 y3 y4 y5 y6=>?_⟩
 .by_cases hj:i=j
  .subst hj;rw[WS il]at y1;cases y1;rw[e']at y2;cases y2;have old:=f.sl i _ _ e e';have hn:(h.set n (.lst ds'))[n]?=some (.lst ds'):=WS (f.wM n mn);cases s with
   |val v=>cases hM
   |ro l=>cases hM
   |own l=>obtain⟨m',_,e,y,_⟩:=old;cases e;exact⟨n,ds',rfl,y,hn,q.mono kp λ_ z=>z⟩
   |bor l=>obtain⟨m',_,e,y,_⟩:=old;cases e;exact⟨n,ds',rfl,y,hn,q.mono kp λ_ z=>z⟩
  .rw[Vo hj]at y1;have old:=f.sl j o p y1 y2;rcases o with _|s'
   .exact old
   .cases s' with
    |val u=>obtain⟨d,e,q⟩:=old;exact⟨d,e,q.mono kp λ_ z=>z⟩
    |own u=>
     obtain⟨m,es,rfl,w1,w2,w3⟩:=old;refine⟨m,es,rfl,w1,?_,w3.mono kp λ_ z=>z⟩;rw[kC λ(z:n=m)=>hj (f.inj i j _ _ n e y1 hM rfl e' (by rw[z];exact y2))];exact w2
    |bor u=>
     obtain⟨m,es,rfl,w1,w2,w3⟩:=old;refine⟨m,es,rfl,w1,?_,w3.mono kp λ_ z=>z⟩;rw[kC λ(z:n=m)=>hj (f.inj i j _ _ n e y1 hM rfl e' (by rw[z];exact y2))];exact w2
    |ro u=>
     obtain⟨m,es,rfl,w1,w2,w3⟩:=old;refine⟨m,es,rfl,w1,?_,w3.mono kp λ_ z=>z⟩;rw[kC λ(z:n=m)=>w1 (z▸mn)];exact w2
 .have kind:∀(j:Nat) o,(fr.set i (some (s.with l')))[j]?=some o->gO o=true->∃o0,fr[j]?=some o0/\gO o0=true:=λj o w1 w2=>by
   by_cases hj:i=j
   .subst hj;exact⟨_,e,hM⟩
   .rw[Vo hj]at w1;exact⟨o,w1,w2⟩
  obtain⟨oi,k1,k2⟩:=kind j o y1 y3;obtain⟨oj,k3,k4⟩:=kind k o' y2 y4;exact f.inj j k oi oj m k1 k3 k2 k4 y5 y6
def LH{m:ME}{l l':List V}{xs:List V}{n:Nat}{ds es:List D}(z:jS m l xs=some (v,l'))(e:h[n]?=some (.lst ds))(q:aq h S l ds)(p:fD h S xs es)(p':A5 m=false->aq h S xs es)(hS:∀k,S k->k≠n) :
  ∃r ds',Ev.eV m (.ref n) es h=.ok r (h.set n (.lst ds'))/\Rep h S v r/\aq h S l' ds':=by
 unfold jS at z;split at z
 .have p':=p' rfl;split at z
  .rename_i k;cases z;simp only[aq]at p';obtain⟨d,_,rfl,p1,rfl⟩:=p';refine⟨_,_,?_,rfl,q.append (.cons p1 .nil)⟩
   delta Ev.eV;dsimp only;simp only[e]
   rw[xV (by rw[<-q.length];exact k)]
  .cases z
 .split at z
  .rename_i k;cases z;obtain⟨d,rfl,p1⟩:=p.one;simp only[bB]at p1;obtain⟨n2,cs,rfl,e2,p1⟩:=p1;refine⟨_,_,?_,rfl,q.append p1⟩
   delta Ev.eV;dsimp only;simp only[e,e2]
   rw[xV (by rw[<-q.length,<-p1.length];exact k)]
  .cases z
 .simp only[fD]at p;subst p;split at z
  .rename_i x y;cases z;obtain⟨d,k1,k2⟩:=q.get y;refine⟨d,_,?_,k2,q.dropLast⟩
   delta Ev.eV;dsimp only;simp only[e]
   rw[<-q.length,k1]
  .cases z
 .cases z
theorem bx.set(f:bx M B h S fr aj){i:Nat}(e:put fr i (.val v)=some af)(q:Rep h S v d):bx M B h S af (aj.set i (some d))/\(∀j,locked af j=locked fr j)/\∀j,locked fr j=true->(aj.set i (some d))[j]?=aj[j]?:=by
 have hx:af=fr.set i (some (.val v))/\locked fr i=false:=by
  unfold put at e;unfold locked;split at e
  .cases e
  .cases e
  .rename_i k1 k2;cases e;refine⟨rfl,?_⟩;cases z:fr[i]? with
   |none=>rfl
   |some o=>
    rcases o with _|s
    .rfl
    .cases s with
     |bor l=>exact absurd z (k1 l)
     |ro l=>exact absurd z (k2 l)
     |_=>rfl
 obtain⟨rfl,hk⟩:=hx;have lk:∀j,locked (fr.set i (some (.val v))) j=locked fr j:=λj=>by
  by_cases hj:i=j
  .subst hj;rw[hk];unfold locked;by_cases hl:i<fr.length
   .rw[WS hl];rfl
   .rw[W8 (by simpa using hl)]
  .unfold locked;rw[Vo hj]
 refine⟨⟨f.wS,f.wM,f.wB,by simp[f.len],λj o p y1 y2=>?_,λj k o o' m y1 y2 y3 y4 y5 y6=>?_⟩,lk,λj hj=>?_⟩
 .by_cases hj:i=j
  .subst hj;have hl:i<fr.length:=by have:=(List.getElem?_eq_some_iff.mp y1).1;simpa using this
   rw[WS hl]at y1;rw[WS (by rw[<-f.len];exact hl)]at y2;cases y1;cases y2;exact⟨d,rfl,q⟩
  .rw[Vo hj]at y1 y2;exact f.sl j o p y1 y2
 .have hn:∀(j:Nat) o,(fr.set i (some (.val v)))[j]?=some o->gO o=true->i≠j:=λj o w1 w2 w3=>by
   subst w3;have hl:i<fr.length:=by have:=(List.getElem?_eq_some_iff.mp w1).1;simpa using this
   rw[WS hl]at w1;cases w1;cases w2
  have n1:=hn j o y1 y3;have n2:=hn k o' y2 y4;rw[Vo n1]at y1 y5;rw[Vo n2]at y2 y6;exact f.inj j k o o' m y1 y2 y3 y4 y5 y6
 .have:i≠j:=λz=>by subst z;rw[hk]at hj;cases hj
  rw[Vo this]
theorem bx.cJ:∀{is:List Nat}{vs:List V}{ds:List D}{fr af:Fr}{aj:Ev.Fr},bx M B h S fr aj->cJ is vs fr=some af->aq h S vs ds->∃bK,Ev.cJ is ds aj=some bK/\bx M B h S af bK/\(∀j,locked af j=locked fr j)/\∀j,locked fr j=true->bK[j]?=aj[j]?
 |[],[],ds,fr,af,aj,f,e,q=>by
  simp[Pv.cJ]at e;simp only[aq]at q;subst e q;exact⟨aj,rfl,f,λ_=>rfl,λ_ _=>rfl⟩
 |[],_ :: _,_,_,_,_,_,e,_=>by simp[Pv.cJ]at e
 |_ :: _,[],_,_,_,_,_,e,_=>by simp[Pv.cJ]at e
 |i :: is,v :: vs,ds,fr,af,aj,f,e,q=>by
  simp only[Pv.cJ,Ru]at e;obtain⟨ao,e1,e2⟩:=e;simp only[aq]at q;obtain⟨d,es,rfl,q1,q2⟩:=q;obtain⟨f2,l2,r2⟩:=f.set e1 q1;obtain⟨bK,a,f3,l3,r3⟩:=f2.cJ e2 q2;exact⟨bK,a,f3,λj=>(l3 j).trans (l2 j),λj hj=>(r3 j (by rw[l2 j];exact hj)).trans (r2 j hj)⟩
theorem bx.cg(f:bx M B h S fr aj){t:T}(e:cg t v fr=some af)(q:Rep h S v d):∃bK,Ev.cg t d aj=some bK/\bx M B h S af bK/\(∀j,locked af j=locked fr j)/\∀j,locked fr j=true->bK[j]?=aj[j]?:=by
 cases t with
 |one i=>exact⟨_,rfl,f.set e q⟩
 |many l=>
  cases v<;>simp only[Pv.cg,reduceCtorEq]at e
  simp only[Rep]at q;obtain⟨ds,rfl,q⟩:=q;exact f.cJ e q
theorem bx.undef(f:bx M B h S fr aj){t:T}(e:undef t fr=true):Ev.undef t aj=true:=by
 unfold Pv.undef at e;unfold Ev.undef;rw[List.all_eq_true]at e ⊢;intro i hi;have:=e i hi;cases z:fr[i]? with
 |none=>
  have:aj[i]?=none:=by
   rw[Zv]at z ⊢;rw[<-f.len];exact z
  rw[this];rfl
 |some o=>
  obtain⟨p,e1,q⟩:=f.get z;rw[z]at this;rcases o with _|s
  .simp only[kj]at q;subst q;rw[e1];rfl
  .simp at this
def xH{i:Nat}{o:Option Sl}(e:(sJ fr)[i]?=some o):∃o0,fr[i]?=some o0/\o=o0.map Sl.read:=by
 unfold sJ at e;rw[WX]at e;cases z:fr[i]? with
 |none=>rw[z]at e;cases e
 |some o0=>rw[z]at e;cases e;exact⟨o0,rfl,rfl⟩
theorem bx.ro(f:bx M B h S fr aj):bx (λ_=>False) B h S (sJ fr) aj:=by
 refine⟨λm y=>⟨(f.wS m y).1,id,(f.wS m y).2.2⟩,λm y=>y.elim,f.wB,by simp[sJ,f.len],λi o p y1 y2=>?_,λi j o o' m y1 y2 y3 y4 y5 y6=>?_⟩
 .obtain⟨o0,z,rfl⟩:=xH y1;have q:=f.sl i o0 p z y2;rcases o0 with _|s
  .exact q
  .cases s with
   |val v=>exact q
   |own l=>obtain⟨m,ds,a,b,c,d⟩:=q;exact⟨m,ds,a,id,c,d⟩
   |bor l=>obtain⟨m,ds,a,b,c,d⟩:=q;exact⟨m,ds,a,id,c,d⟩
   |ro l=>obtain⟨m,ds,a,b,c,d⟩:=q;exact⟨m,ds,a,id,c,d⟩
 .obtain⟨o0,z,rfl⟩:=xH y1;rcases o0 with _|s
  .cases y3
  .cases s<;>cases y3
theorem jG:∀{ck:List (Nat×List D)},(∀q∈ck,bq h q.1=some q.2)->Ev.stays h ck=true
 |[],_=>rfl
 | (n,ds) :: r,q=>by
  simp only[Ev.stays,Vp];refine⟨?_,jG λx hx=>q x (W9 _ hx)⟩;rw[q (n,ds) (XC ..)];exact Ev.yw _
def lu{n:Nat}{ds:List D}(q:bq h n=some ds)(k:h'[n]?=h[n]?):bq h' n=some ds:=by
 unfold bq at q ⊢;rw[k];exact q
def pO{n:Nat}{ds:List D}(q:bq h n=some ds):n<h.length:=by
 unfold bq at q;cases z:h[n]? with
 |none=>rw[z]at q;cases q
 |some o=>exact(List.getElem?_eq_some_iff.mp z).1
noncomputable def Dg(h:Hh)(S:Nat->Prop):Option V->Option D->Prop
 |none,o=>o=none
 |some v,o=>∃d,o=some d/\Rep h S v d
theorem xJ{f:V->Option (Option V)}{f':D->Hh->Ev.R (Option D)}{ck:List (Nat×List D)}{h0:Hh}{S0:Nat->Prop}(w0:∀m,S0 m->m<h0.length)(st:∀q∈ck,bq h0 q.1=some q.2)
  (turn:∀v o d h S,Al h0 S0 h S->f v=some o->Rep h S v d->∃o' h' S',f' d h=.ok o' h'/\Dg h' S' o o'/\Al h S h' S') :
  ∀{vs:List V} {ds:List D} {rs:List V} {h:Hh} {S:Nat->Prop},Al h0 S0 h S->bV f vs=some rs->aq h S vs ds->∃rs' h' S',Ev.bV f' ck ds h=.ok rs' h'/\aq h' S' rs rs'/\Al h S h' S'
 |[],ds,rs,h,S,a,e,q=>by
  simp[bV]at e;simp only[aq]at q;subst e q;refine⟨[],h,S,?_,.nil,.refl⟩;simp only[Ev.bV];rw[xV (jG λx hx=>lu (st x hx) (a.keep _ (pO (st x hx))))]
 |v :: vs,ds,rs,h,S,a,e,q=>by
  simp only[bV,Ru]at e;obtain⟨o,e1,r,e2,e3⟩:=e;cases e3;simp only[aq]at q;obtain⟨d,es,rfl,q1,q2⟩:=q;have w:∀m,S m->m<h.length:=λm z=>by
   rcases a.new m z with z|z
   .exact Rt (w0 m z) a.len
   .exact z.2
  obtain⟨o',h1,S1,t1,t2,t3⟩:=turn v o d h S a e1 q1;obtain⟨rs',h2,S2,u1,u2,u3⟩:=xJ w0 st turn (a.trans t3) e2 (q2.mono (λm z=>t3.keep m (w m z)) t3.sub);have w1:∀m,S1 m->m<h1.length:=λm z=>by
   rcases t3.new m z with z|z
   .exact Rt (w m z) t3.len
   .exact z.2
  refine⟨o'.toList++rs',h2,S2,?_,?_,t3.trans u3⟩
  .simp only[Ev.bV];rw[xV (jG λx hx=>lu (st x hx) (a.keep _ (pO (st x hx)))),t1,Ev.ak,u1,Ev.ak]
  .cases o with
   |none=>simp only[Dg]at t2;subst t2;simpa using u2
   |some v'=>
    simp only[Dg]at t2;obtain⟨d',rfl,t2⟩:=t2;exact .cons (t2.mono (λm z=>u3.keep m (w1 m z)) u3.sub) u2
end
noncomputable def jm(k:Bool)(h:Hh)(S:Nat->Prop)(v:List V)(d:List D):Prop:=if k=true then fD h S v d else aq h S v d
inductive LI(P':Ev.aL)(e:E)(k:Bool)(v:V)(M B:Nat->Prop)(h:Hh)(S:Nat->Prop)(fr:Fr)(aj:Ev.Fr)(af:Fr):Prop
 |mk (d:D) (h':Hh) (S':Nat->Prop) (c0:Ev.ev P' e aj h=.ok d h') (c1:fM k h' S' v d) (c2:Out M B (b5 e) h S fr aj h' S' af):LI P' e k v M B h S fr aj af
inductive LJ(P':Ev.aL)(e:E)(b:Bool)(M B:Nat->Prop)(h:Hh)(S:Nat->Prop)(fr:Fr)(aj:Ev.Fr)(af:Fr):Prop
 |mk (h':Hh) (S':Nat->Prop) (c0:Ev.aH P' e aj h=.ok b h') (c1:Out M B (b5 e) h S fr aj h' S' af):LJ P' e b M B h S fr aj af
inductive LK(P':Ev.aL)(e:Es)(k:Bool)(v:List V)(M B:Nat->Prop)(h:Hh)(S:Nat->Prop)(fr:Fr)(aj:Ev.Fr)(af:Fr):Prop
 |mk (d:List D) (h':Hh) (S':Nat->Prop) (c0:Ev.bZ P' e aj h=.ok d h') (c1:jm k h' S' v d) (c2:Out M B (fL e) h S fr aj h' S' af):LK P' e k v M B h S fr aj af
inductive LL(P':Ev.aL)(e:Es)(v:List (Nat ⊕ V))(M B:Nat->Prop)(h:Hh)(S:Nat->Prop)(fr:Fr)(aj:Ev.Fr)(af:Fr):Prop
 |mk (d:List D) (h':Hh) (S':Nat->Prop) (c0:Ev.bZ P' e aj h=.ok d h') (c1:sL h' S' aj v d) (c2:Out M B (fL e) h S fr aj h' S' af):LL P' e v M B h S fr aj af
inductive LM(P':Ev.aL)(e:Eo)(v:Option Int)(M B:Nat->Prop)(h:Hh)(S:Nat->Prop)(fr:Fr)(aj:Ev.Fr)(af:Fr):Prop
 |mk (h':Hh) (S':Nat->Prop) (c0:Ev.fz P' e aj h=.ok v h') (c1:Out M B (j7 e) h S fr aj h' S' af):LM P' e v M B h S fr aj af
inductive LN(P':Ev.aL)(e:Eo)(v:Bool)(M B:Nat->Prop)(h:Hh)(S:Nat->Prop)(fr:Fr)(aj:Ev.Fr)(af:Fr):Prop
 |mk (h':Hh) (S':Nat->Prop) (c0:Ev.g6 P' e aj h=.ok v h') (c1:Out M B (j7 e) h S fr aj h' S' af):LN P' e v M B h S fr aj af
inductive LO(P':Ev.aL)(e:It)(k:Bool)(v:List V)(M B:Nat->Prop)(h:Hh)(S:Nat->Prop)(fr:Fr)(aj:Ev.Fr)(af:Fr):Prop
 |mk (s:Ev.Src) (h':Hh) (S':Nat->Prop) (c0:Ev.cZ P' e aj h=.ok s h') (c1:aq h' S' v s.1) (c2:∀q∈s.2,bq h' q.1=some q.2/\(k=false->¬ M q.1)) (c3:Out M B (C7 e) h S fr aj h' S' af):LO P' e k v M B h S fr aj af
section
variable(P:aL)(P':Ev.aL)
noncomputable def bF(e:E):Prop:=∀{k:Bool} {fr:Fr} {v:V} {af:Fr} {M B:Nat->Prop} {h:Hh} {S:Nat->Prop} {aj:Ev.Fr},ev P k e fr=.ok v af->bx M B h S fr aj->LI P' e k v M B h S fr aj af
noncomputable def gx(e:E):Prop:=∀{fr:Fr} {b:Bool} {af:Fr} {M B:Nat->Prop} {h:Hh} {S:Nat->Prop} {aj:Ev.Fr},aH P e fr=.ok b af->bx M B h S fr aj->LJ P' e b M B h S fr aj af
noncomputable def jn(e:Es):Prop:=∀{k:Bool} {fr:Fr} {v:List V} {af:Fr} {M B:Nat->Prop} {h:Hh} {S:Nat->Prop} {aj:Ev.Fr},bZ P k e fr=.ok v af->bx M B h S fr aj->LK P' e k v M B h S fr aj af
noncomputable def pP(e:Es):Prop:=∀{fr:Fr} {v:List (Nat ⊕ V)} {af:Fr} {M B:Nat->Prop} {h:Hh} {S:Nat->Prop} {aj:Ev.Fr},fC P e fr=.ok v af->bx M B h S fr aj->LL P' e v M B h S fr aj af
noncomputable def pQ(e:Eo):Prop:=∀{fr:Fr} {v:Option Int} {af:Fr} {M B:Nat->Prop} {h:Hh} {S:Nat->Prop} {aj:Ev.Fr},fz P e fr=.ok v af->bx M B h S fr aj->LM P' e v M B h S fr aj af
noncomputable def tH(e:Eo):Prop:=∀{fr:Fr} {v:Bool} {af:Fr} {M B:Nat->Prop} {h:Hh} {S:Nat->Prop} {aj:Ev.Fr},g6 P e fr=.ok v af->bx M B h S fr aj->LN P' e v M B h S fr aj af
noncomputable def ly(e:It):Prop:=∀{k:Bool} {fr:Fr} {v:List V} {af:Fr} {M B:Nat->Prop} {h:Hh} {S:Nat->Prop} {aj:Ev.Fr},cZ P k e fr=.ok v af->bx M B h S fr aj->LO P' e k v M B h S fr aj af
end
section
variable{P:aL}{P':Ev.aL}{a b e tt:E}{es:Es}{lo hi:Eo}{it:It}
def LP{d:D}:bF P P' (.c d):=λz f=>by
 simp only[ev]at z;replace z:=aO z;obtain⟨z,y0⟩:=z;subst y0;exact⟨d,_,_,by simp only[Ev.ev],.of (mP z),.refl f⟩
def LQ{i:Nat}:bF P P' (.v i):=λz f=>by
 simp only[ev]at z;replace z:=aO z;obtain⟨z,y0⟩:=z;subst y0;obtain⟨d,e1,q⟩:=Hi z f;exact⟨d,_,_,by simp only[Ev.ev,e1,Ev.dX],q,.refl f⟩
def jm.n{h:Hh}{S:Nat->Prop}{v:List V}{d:List D}(q:jm false h S v d):aq h S v d:=by simpa[jm]using q
theorem aq.tl{h:Hh}{S:Nat->Prop}:∀{v:List V}{d:List D},aq h S v d->fD h S v d
 |[],_,q=>q
 |_ :: _,_,⟨d,es,a,b,q⟩=>⟨d,es,a,b.top,q.tl⟩
def jm.t{k:Bool}{h:Hh}{S:Nat->Prop}{v:List V}{d:List D}(q:jm k h S v d):fD h S v d:=by
 unfold jm at q;split at q
 .exact q
 .exact q.tl
def A8(is:jn P P' es):bF P P' (.tup es):=λz f=>by
 simp only[ev]at z;obtain⟨ds,ao,z1,z2⟩:=ah z;replace z2:=aO z2;obtain⟨z2,y0⟩:=z2;subst y0;obtain⟨ds',h',S',e1,q,o⟩:=is z1 f;unfold gg at z2;split at z2
 .rename_i hk;cases z2;refine⟨.tup ds',h',S',?_,.of ⟨ds',rfl,q.n⟩,o⟩;simp only[Ev.ev,e1,Ev.ak];rw[xV (by rw[<-q.n.length];exact hk)]
 .cases z2
def A9(is:jn P P' es):bF P P' (.lst es):=λz f=>by
 simp only[ev]at z;obtain⟨ds,ao,z1,z2⟩:=ah z;replace z2:=aO z2;obtain⟨z2,y0⟩:=z2;subst y0;obtain⟨ds',h',S',e1,q,o⟩:=is z1 f;obtain⟨r,h2,S2,a1,a2,a3⟩:=ir o.f.w z2 q.n;exact⟨r,h2,S2,by simp only[Ev.ev,e1,Ev.ak,a1],.of a2,o.al a3⟩
def tK{a:E}{aj:Ev.Fr}{h h1:Hh}{d:D}(e:Ev.ev P' a aj h=.ok d h1):∀i,a=.v i->aj[i]?.join=some d:=λi hi=>by
 subst hi;simp only[Ev.ev]at e;exact(Ev.aO e).1
def two(ia:bF P P' a)(ib:bF P P' b){α:Type}{X:V->V->Fr->R α}{u:α}{fr bW:Fr}{M B:Nat->Prop}{h:Hh}{S:Nat->Prop}{aj:Ev.Fr}
  (z:((ev P (kf a (b5 b)) a fr).bind λx af=>(ev P true b af).bind λy ao=>X x y ao)=.ok u bW) (f:bx M B h S fr aj) :
  ∃x y d e h2 S2 ao,(∀{β:Type} (g:D->D->Hh->Ev.R β),((Ev.ev P' a aj h).bind λx h1=>(Ev.ev P' b aj h1).bind λy h2=>g x y h2)=g d e h2)/\X x y ao=.ok u bW/\bB h2 S2 x d/\bB h2 S2 y e/\Out M B (b5 a++b5 b) h S fr aj h2 S2 ao:=by
 replace z:=ah z;obtain⟨x,af,z1,z⟩:=z;replace z:=ah z;obtain⟨y,ao,z2,z⟩:=z;obtain⟨d,h1,S1,e1,q1,o1⟩:=ia z1 f;obtain⟨e,h2,S2,e2,q2,o2⟩:=ib z2 o1.f;exact⟨x,y,d,e,h2,S2,ao,λg=>by rw[e1,Ev.ak,e2,Ev.ak],z,(q1.tr o1.f o2.tr id (tK e1)).t,q2.t,o1.trans o2⟩
def Ba{o:bh}(ia:bF P P' a)(ib:bF P P' b):bF P P' (.bin o a b):=λz f=>by
 simp only[ev]at z;replace z:=two ia ib z f;obtain⟨x,y,d,e,h2,S2,ao,k,z,q1,q2,ou⟩:=z;replace z:=aO z;obtain⟨z,y0⟩:=z;subst y0;obtain⟨r,h3,S3,a1,a2,a3⟩:=Lx ou.f.w z q1 q2;exact⟨r,h3,S3,by simp only[Ev.ev];rw[k];exact a1,.of a2,ou.al a3⟩
def Bb{o:aZ}(ia:bF P P' a)(ib:bF P P' b):bF P P' (.cmp o a b):=λz f=>by
 simp only[ev]at z;replace z:=two ia ib z f;obtain⟨x,y,d,e,h2,S2,ao,k,z,q1,q2,ou⟩:=z;replace z:=aO z;obtain⟨z,y0⟩:=z;subst y0;simp only[vv]at z;obtain⟨b,z,rfl⟩:=z;exact⟨.bl b,h2,S2,by simp only[Ev.ev];rw[k,Ly z q1.u q2.u];rfl,.of rfl,ou⟩
def E6(ia:bF P P' a)(ib:bF P P' b):bF P P' (.ix a b):=λz f=>by
 simp only[ev]at z;replace z:=two ia ib z f;obtain⟨x,y,d,e,h2,S2,ao,k,z,q1,q2,ou⟩:=z;replace z:=aO z;obtain⟨z,y0⟩:=z;subst y0;obtain⟨r,a1,a2⟩:=Lz z q1 q2;exact⟨r,h2,S2,by simp only[Ev.ev];rw[k,a1];rfl,.of a2,ou⟩
def O0(ia:bF P P' a):bF P P' (.nt a):=λz f=>by
 simp only[ev]at z;replace z:=ah z;obtain⟨x,af,z1,z⟩:=z;obtain⟨d,h1,S1,e1,q1,o1⟩:=ia z1 f;cases x<;>simp only[reduceCtorEq]at z
 cases z;have q:=q1.t;simp only[bB,Rep]at q;subst q;exact⟨_,h1,S1,by simp only[Ev.ev,e1,Ev.ak],.of rfl,o1⟩
def Bc(ia:bF P P' a):bF P P' (.neg a):=λz f=>by
 simp only[ev]at z;replace z:=ah z;obtain⟨x,af,z1,z⟩:=z;obtain⟨d,h1,S1,e1,q1,o1⟩:=ia z1 f;cases x<;>simp only[reduceCtorEq]at z
 cases z;have q:=q1.t;simp only[bB,Rep]at q;subst q;exact⟨_,h1,S1,by simp only[Ev.ev,e1,Ev.ak],.of rfl,o1⟩
def O1(ia:bF P P' a)(ib:bF P P' b):bF P P' (.an a b):=λz f=>by
 simp only[ev]at z;replace z:=ah z;obtain⟨x,af,z1,z⟩:=z;obtain⟨d,h1,S1,e1,q1,o1⟩:=ia z1 f;cases x<;>try (cases z;done)
 rename_i k;have q:=q1.t;simp only[bB,Rep]at q;subst q;cases k with
 |true=>
  try simp only at z
  obtain⟨d,h2,S2,e2,q2,o2⟩:=ib z o1.f;exact⟨d,h2,S2,by simp only[Ev.ev,e1,Ev.ak,e2],q2,o1.trans o2⟩
 |false=>
  try simp only at z
  cases z;exact⟨_,h1,S1,by simp only[Ev.ev,e1,Ev.ak],.of rfl,o1.weak (by simp only[b5];intro i hi;simp[hi])⟩
def LR(ia:bF P P' a)(ib:bF P P' b):bF P P' (.orr a b):=λz f=>by
 simp only[ev]at z;replace z:=ah z;obtain⟨x,af,z1,z⟩:=z;obtain⟨d,h1,S1,e1,q1,o1⟩:=ia z1 f;cases x<;>try (cases z;done)
 rename_i k;have q:=q1.t;simp only[bB,Rep]at q;subst q;cases k with
 |false=>
  try simp only at z
  obtain⟨d,h2,S2,e2,q2,o2⟩:=ib z o1.f;exact⟨d,h2,S2,by simp only[Ev.ev,e1,Ev.ak,e2],q2,o1.trans o2⟩
 |true=>
  try simp only at z
  cases z;exact⟨_,h1,S1,by simp only[Ev.ev,e1,Ev.ak],.of rfl,o1.weak (by simp only[b5];intro i hi;simp[hi])⟩
def Bd(it:gx P P' tt)(ia:bF P P' a)(ib:bF P P' b):bF P P' (.lU tt a b):=λz f=>by
 simp only[ev]at z;replace z:=ah z;obtain⟨k,af,z1,z⟩:=z;obtain⟨h1,S1,e1,o1⟩:=it z1 f;cases k with
 |true=>
  simp only[Xa]at z;obtain⟨d,h2,S2,e2,q2,o2⟩:=ia z o1.f;exact⟨d,h2,S2,by simp only[Ev.ev,e1,Ev.ak,Xa,e2],q2,(o1.trans o2).weak (by simp only[b5];intro i hi;simp at hi ⊢;rcases hi with hi|hi<;>simp[hi])⟩
 |false=>
  simp only[W4,XH]at z;obtain⟨d,h2,S2,e2,q2,o2⟩:=ib z o1.f;exact⟨d,h2,S2,by simp only[Ev.ev,e1,Ev.ak];rw[WQ (by decide)];exact e2,q2,(o1.trans o2).weak (by simp only[b5];intro i hi;simp at hi ⊢;rcases hi with hi|hi<;>simp[hi])⟩
def E7(ia:bF P P' a)(il:pQ P P' lo)(ih:pQ P P' hi):bF P P' (.sl a lo hi):=λz f=>by
 simp only[ev]at z;replace z:=ah z;obtain⟨x,af,z1,z⟩:=z;replace z:=ah z;obtain⟨l,ao,z2,z⟩:=z;replace z:=ah z;obtain⟨u,cG,z3,z⟩:=z;replace z:=aO z;obtain⟨z,y0⟩:=z;subst y0;obtain⟨d,h1,S1,e1,q1,o1⟩:=ia z1 f;obtain⟨h2,S2,e2,o2⟩:=il z2 o1.f;obtain⟨h3,S3,e3,o3⟩:=ih z3 o2.f;have q:=(q1.tr o1.f (o2.trans o3).tr id (tK e1)).t;obtain⟨r,h4,S4,a1,a2,a3⟩:=LA o3.f.w z q;exact⟨r,h4,S4,by simp only[Ev.ev,e1,Ev.ak,e2,e3,a1],.of a2,(o1.trans (o2.trans o3)).al a3⟩
theorem mT:∀{es:Es}{fr af:Fr}{as:List (Nat ⊕ V)},fC P es fr=.ok as af->∀i∈bM as,i∈jB es
 |.nil,_,_,_,z=>by simp only[fC]at z;cases z;simp[bM]
 |.cons e es,fr,af,as,z=>by
  simp only[fC]at z;cases y:ku fr e with
  |some i=>
   rw[y]at z;simp only at z;replace z:=ah z;obtain⟨xs,cG,z2,z⟩:=z;cases z;have hy:e=.v i:=by
    cases e<;>simp only[ku,reduceCtorEq]at y
    split at y
    .cases y;rfl
    .cases y
   subst hy;intro j hj;simp only[bM,List.mem_cons]at hj;simp only[jB,List.mem_cons];exact hj.imp id λhj=>mT z2 j hj
  |none=>
   rw[y]at z;simp only at z;replace z:=ah z;obtain⟨x,ao,z1,z⟩:=z;replace z:=ah z;obtain⟨xs,cG,z2,z⟩:=z;cases z;intro j hj;simp only[bM]at hj;have:=mT z2 j hj;cases e<;>simp only[jB]<;>first|exact this|exact W9 _ this
def E8(HP:pM P P'){g:Nat}(is:pP P P' es):bF P P' (.cl g es):=λz f=>by
 simp only[ev]at z;replace z:=ah z;obtain⟨as,af,z1,z⟩:=z;obtain⟨ds,h1,S1,e1,q1,o1⟩:=is z1 f;obtain⟨d,h2,S2,e2,q2,o2⟩:=Df HP z o1.f q1;exact⟨d,h2,S2,by simp only[Ev.ev,e1,Ev.ak,e2],.of q2,(o1.trans o2).weak (by
  simp only[b5];intro i hi;rcases List.mem_append.mp hi with hi|hi
  .exact List.mem_append.mpr (.inl hi)
  .exact List.mem_append.mpr (.inr (mT z1 i hi)))⟩
def E9{g:BI}(is:jn P P' es):bF P P' (.bi g es):=λz f=>by
 simp only[ev]at z;replace z:=ah z;obtain⟨as,af,z1,z⟩:=z;replace z:=aO z;obtain⟨z,y0⟩:=z;subst y0;obtain⟨ds,h1,S1,e1,q1,o1⟩:=is z1 f;obtain⟨r,h4,S4,a1,a2,a3⟩:=LD o1.f.w z q1.t;exact⟨r,h4,S4,by simp only[Ev.ev,e1,Ev.ak,a1],.of a2,o1.al a3⟩
def xK{kvs:List (D×D)}(ia:bF P P' a):bF P P' (.je kvs a):=λz f=>by
 simp only[ev]at z;replace z:=ah z;obtain⟨x,af,z1,z⟩:=z;replace z:=aO z;obtain⟨z,y0⟩:=z;subst y0;obtain⟨d,h1,S1,e1,q1,o1⟩:=ia z1 f;obtain⟨r,a1,a2⟩:=C9 (S:=S1) q1.t.u z;exact⟨r,h1,S1,by simp only[Ev.ev,e1,Ev.ak,a1,Ev.dX],.of a2,o1⟩
def Be(ia:bF P P' a):bF P P' (.lV a):=λz f=>by
 simp only[ev]at z;replace z:=ah z;obtain⟨x,af,z1,z⟩:=z;replace z:=aO z;obtain⟨z,y0⟩:=z;subst y0;obtain⟨d,h1,S1,e1,q1,o1⟩:=ia z1 f;obtain⟨r,a1,a2⟩:=G9 z q1.t;exact⟨r,h1,S1,by simp only[Ev.ev,e1,Ev.ak,a1],.of a2,o1⟩
def Bf(ia:bF P P' a):bF P P' (.gZ a):=λz f=>by
 simp only[ev]at z;replace z:=ah z;obtain⟨x,af,z1,z⟩:=z;replace z:=aO z;obtain⟨z,y0⟩:=z;subst y0;obtain⟨d,h1,S1,e1,q1,o1⟩:=ia z1 f;obtain⟨r,a1,a2⟩:=LC z q1.t;exact⟨r,h1,S1,by simp only[Ev.ev,e1,Ev.ak,a1],.of a2,o1⟩
def Fb{m:ME}{o:E}(io:bF P P' o)(is:jn P P' es):bF P P' (.me m o es):=λ{k fr v af M B h S aj} z f=>by
 simp only[ev]at z;by_cases hm:iQ m=true
 .rw[xV hm]at z;cases y:ku fr o with
  |none=>rw[y]at z;cases z
  |some i=>
  rw[y]at z;try simp only at z
  replace z:=ah z;obtain⟨as,ao,z1,z⟩:=z;have hy:o=.v i/\∃s,lent fr i=some s:=by
   cases o<;>simp only[ku,reduceCtorEq]at y
   rename_i j;split at y
   .rename_i hs;cases y;exact⟨rfl,Option.isSome_iff_exists.mp hs⟩
   .cases y
  obtain⟨rfl,s,hs⟩:=hy;obtain⟨n,cs,_,_,_,w2,w3,_,_⟩:=jx hs f;obtain⟨ds,h1,S1,e1,q1,o1⟩:=is z1 f;have hr:Ev.wN m (.ref n) h=true:=by cases m<;>simp[iQ]at hm<;>simp[Ev.wN,gD w3]
  have hap:A5 m=false->aq h1 S1 as ds:=λhh=>by rw[hh]at q1;exact q1.n
  have fin:∀s l l',ao[i]?=some (some s)->gO (some s)=true->(∃m' cs',aj[i]?=some (some (.ref m'))/\h1[m']?=some (.lst cs')/\aq h1 S1 l cs')->jS m l as=some (v,l')->af=ao.set i (some (s.with l'))->
    LI P' (.me m (.v i) es) k v M B h S fr aj af:=by
   intro s l l' k1 k2 ⟨m',cs',k3,k4,k5⟩ k6 k7;rw[w2]at k3;cases k3;have mn:=o1.f.mM k1 k2 w2;obtain⟨r,ds',a1,a2,a3⟩:=LH k6 k4 k5 q1.t hap λk z y=>(o1.f.wS k z).2.1 (y▸mn);have fw:=o1.f.write (l':=l') k1 k2 w2 a3;subst k7;refine⟨r,_,S1,?_,.of (a2.mono (λm z=>kC λy=>(o1.f.wS m z).2.1 (y▸mn)) λ_ z=>z),fw,?_,λj=>?_⟩
   .simp only[Ev.ev,w2,Option.join,Ev.dX,Ev.ak,hr,Xa,e1];simp only[Option.bind,id,Ev.dX,Ev.ak,hr,Xa,e1];exact a1
   .refine⟨by simpa using o1.tr.len,λm y1 y2=>?_,o1.tr.sub,λm y=>by simpa using o1.tr.new m y⟩;have y3:¬ Xs M aj (fL es) m:=λz=>y2 (Xs.mono (by simp only[b5];intro i hi;simp[hi]) z);have y4:m≠n:=λz=>y2 ⟨z▸mn,i,by simp[b5,Rk,hm],by rw[z];exact w2⟩;rw[kC (λ(z:n=m)=>y4 z.symm)];exact o1.tr.keep m y1 y3
   .rw[<-o1.lk j];unfold locked;by_cases hj:i=j
    .subst hj;rw[WS (List.getElem?_eq_some_iff.mp k1).1,k1];exact xG
    .rw[Vo hj]
  split at z
  .rename_i l k1;have old:=o1.f.get k1;obtain⟨p,k2,m',cs',rfl,_,k4,k5⟩:=old;split at z
   .rename_i v' l' k6;cases z;exact fin _ l l' k1 rfl ⟨m',cs',k2,k4,k5⟩ k6 rfl
   .cases z
  .rename_i l k1;have old:=o1.f.get k1;obtain⟨p,k2,m',cs',rfl,_,k4,k5⟩:=old;split at z
   .rename_i v' l' k6;cases z;exact fin _ l l' k1 rfl ⟨m',cs',k2,k4,k5⟩ k6 rfl
   .cases z
  .cases z
 .rw[WQ hm]at z;replace z:=ah z;obtain⟨x,ao,z1,z⟩:=z;replace z:=ah z;obtain⟨as,cG,z2,z⟩:=z;replace z:=aO z;obtain⟨z,y0⟩:=z;subst y0;obtain⟨d,h1,S1,e1,q1,o1⟩:=io z1 f;obtain⟨ds,h2,S2,e2,q2,o2⟩:=is z2 o1.f;have hm':iQ m=false:=by simpa using hm
  have Fc:=(q1.tr o1.f o2.tr id (tK e1)).t;obtain⟨a1,r,a2,a3⟩:=LF z hm' Fc q2.t;have hr:Ev.wN m d h1=true:=by
   unfold eV at z;split at z
   .have:=q1.t;simp only[bB,Rep]at this;subst this;rfl
   .cases z
  exact⟨r,h2,S2,by simp only[Ev.ev,e1,Ev.ak,hr,Xa,e2,a2],.of a3,(o1.trans o2).weak (by simp only[b5];intro i hi;simp at hi ⊢;rcases hi with hi|hi<;>simp[hi])⟩
def uT{elt:E}{t:T}{cond:Eo}(ii:ly P P' it)(ic:tH P P' cond)(ie:bF P P' elt):bF P P' (.comp elt t it cond):=λz f=>by
 simp only[ev]at z;replace z:=ah z;obtain⟨vs,ao,z1,z⟩:=z;split at z
 case isFalse=>cases z
 rename_i hu;replace z:=aO z;obtain⟨z,y0⟩:=z;subst y0;simp only[Ru]at z;obtain⟨rs,z2,z3⟩:=z;obtain⟨s,h1,S1,e1,q1,q2,o1⟩:=ii z1 f;have Vb:=o1.f.ro;obtain⟨rs',h2,S2,c1,c2,c3⟩:=xJ (f':=λd h2=>match Ev.cg t d _ with
    |none=>.bad
    |some ao=>(Ev.g6 P' cond ao h2).bind λk h3=>if k then (Ev.ev P' elt ao h3).bind λx h4=>.ok (some x) h4 else .ok none h3) (ck:=s.2) o1.f.w (λq hq=>(q2 q hq).1) (λv o d h S al y q=>by
  split at y
  .cases y
  .rename_i cG y1;obtain⟨jf,b1,b2,_,_⟩:=(Vb.al al).cg y1 q;rw[b1];split at y
   .rename_i c jj y2;obtain⟨h3,S3,c1,oc⟩:=ic y2 b2;have LS:Al h S h3 S3:=oc.tr.al λm z=>z.1;split at y
    .rename_i hc;subst hc;split at y
     .rename_i x rO y3;cases y;obtain⟨d',h4,S4,d1,d2,od⟩:=ie y3 (b2.al LS);refine⟨some d',h4,S4,?_,⟨d',rfl,d2.n⟩,LS.trans (od.tr.al λm z=>z.1)⟩;simp only[c1,Ev.ak,Xa,d1]
     .cases y
    .rename_i hc;cases y;refine⟨none,h3,S3,?_,rfl,LS⟩;simp only[c1,Ev.ak];rw[WQ hc]
   .cases y) Al.refl z2 q1
 obtain⟨r,h4,S4,a1,a2,a3⟩:=ir (o1.f.al c3).w z3 c2;refine⟨r,h4,S4,?_,.of a2,(o1.al c3).al a3⟩;simp only[Ev.ev,e1,Ev.ak];rw[xV (o1.f.undef hu)];refine Eq.trans (WT (λq:Ev.R (List D)=>q.bind λds h2=>Ev.alloc ds h2) c1) ?_;simp only[Ev.ak,a1]
def Bg(ii:ly P P' it):bF P P' (.ji it):=λz f=>by
 simp only[ev]at z;replace z:=ah z;obtain⟨vs,ao,z1,z⟩:=z;replace z:=aO z;obtain⟨z,y0⟩:=z;subst y0;obtain⟨s,h1,S1,e1,q1,q2,o1⟩:=ii z1 f;obtain⟨r,h4,S4,a1,a2,a3⟩:=ir o1.f.w z q1;exact⟨r,h4,S4,by simp only[Ev.ev,e1,Ev.ak,a1],.of a2,o1.al a3⟩
def LU:jn P P' .nil:=λ{k fr v af M B h S aj} z f=>by
 simp only[bZ]at z;cases z;refine⟨[],_,_,by simp only[Ev.bZ],?_,.refl f⟩;unfold jm;split<;>rfl
def Hl(ie:bF P P' e)(is:jn P P' es):jn P P' (.cons e es):=λ{k fr v af M B h S aj} z f=>by
 simp only[bZ]at z;replace z:=ah z;obtain⟨x,ao,z1,z⟩:=z;replace z:=ah z;obtain⟨xs,cG,z2,z⟩:=z;cases z;obtain⟨d,h1,S1,e1,q1,o1⟩:=ie z1 f;obtain⟨ds,h2,S2,e2,q2,o2⟩:=is z2 o1.f;have Fc:=q1.tr (a:=e) o1.f o2.tr (by intro z;simp at z;exact z.2) (tK e1);refine⟨d :: ds,h2,S2,by simp only[Ev.bZ,e1,Ev.ak,e2],?_,o1.trans o2⟩;unfold jm at q2 ⊢;cases k with
 |true=>simp only[Xa]at q2 ⊢;exact⟨d,ds,rfl,Fc.t,q2⟩
 |false=>
  simp only[W4,XH]at q2 ⊢;exact .cons (by simpa[fM]using Fc) q2
def Ho:pP P P' .nil:=λz f=>by
 simp only[fC]at z;cases z;exact⟨[],_,_,by simp only[Ev.bZ],rfl,.refl f⟩
def Dh(ie:bF P P' e)(is:pP P P' es):pP P P' (.cons e es):=λ{fr v af M B h S aj} z f=>by
 simp only[fC]at z;cases y:ku fr e with
 |some i=>
  rw[y]at z;try simp only at z
  replace z:=ah z;obtain⟨xs,cG,z2,z⟩:=z;cases z;have hy:e=.v i/\∃s,lent fr i=some s:=by
   cases e<;>simp only[ku,reduceCtorEq]at y
   rename_i j;split at y
   .rename_i hs;cases y;exact⟨rfl,Option.isSome_iff_exists.mp hs⟩
   .cases y
  obtain⟨rfl,s,hs⟩:=hy;obtain⟨n,cs,_,_,_,w2,w3,_,_⟩:=jx hs f;obtain⟨ds,h2,S2,e2,q2,o2⟩:=is z2 f;refine⟨.ref n :: ds,h2,S2,?_,⟨_,_,rfl,w2,q2⟩,o2.weak (by simp only[fL,b5];intro i hi;simpa using hi)⟩;simp only[Ev.bZ,Ev.ev,w2,Option.join,Option.bind,id,Ev.dX,Ev.ak,e2]
 |none=>
  rw[y]at z;try simp only at z
  replace z:=ah z;obtain⟨x,ao,z1,z⟩:=z;replace z:=ah z;obtain⟨xs,cG,z2,z⟩:=z;cases z;obtain⟨d,h1,S1,e1,q1,o1⟩:=ie z1 f;obtain⟨ds,h2,S2,e2,q2,o2⟩:=is z2 o1.f;exact⟨d :: ds,h2,S2,by simp only[Ev.bZ,e1,Ev.ak,e2],⟨_,_,rfl,q1.n.tr o1.f o2.tr,q2⟩,o1.trans o2⟩
def O2:pQ P P' .no:=λz f=>by
 simp only[fz]at z;cases z;exact⟨_,_,by simp only[Ev.fz],.refl f⟩
def LV(ie:bF P P' e):pQ P P' (.yes e):=λz f=>by
 simp only[fz]at z;replace z:=ah z;obtain⟨x,ao,z1,z⟩:=z;replace z:=aO z;obtain⟨z,y0⟩:=z;subst y0;obtain⟨d,h1,S1,e1,q1,o1⟩:=ie z1 f;cases x<;>simp[intOf]at z
 subst z;have q:=q1.t;simp only[bB,Rep]at q;subst q;exact⟨h1,S1,by simp only[Ev.fz,e1,Ev.ak];rfl,o1⟩
def LW:tH P P' .no:=λz f=>by
 simp only[g6]at z;cases z;exact⟨_,_,by simp only[Ev.g6],.refl f⟩
def Hq(ie:gx P P' e):tH P P' (.yes e):=λz f=>by
 simp only[g6]at z;obtain⟨h1,S1,e1,o1⟩:=ie z f;exact⟨h1,S1,by simp only[Ev.g6,e1],o1⟩
def Te(ia:gx P P' a)(ib:gx P P' b):gx P P' (.an a b):=λz f=>by
 simp only[aH]at z;replace z:=ah z;obtain⟨k,af,z1,z⟩:=z;obtain⟨h1,S1,e1,o1⟩:=ia z1 f;cases k with
 |true=>
  simp only[Xa]at z;obtain⟨h2,S2,e2,o2⟩:=ib z o1.f;exact⟨h2,S2,by simp only[Ev.aH,e1,Ev.ak,Xa,e2],o1.trans o2⟩
 |false=>
  simp only[W4,XH]at z;cases z;exact⟨h1,S1,by simp only[Ev.aH,e1,Ev.ak];rfl,o1.weak (by simp only[b5];intro i hi;simp[hi])⟩
def O3(ia:gx P P' a)(ib:gx P P' b):gx P P' (.orr a b):=λz f=>by
 simp only[aH]at z;replace z:=ah z;obtain⟨k,af,z1,z⟩:=z;obtain⟨h1,S1,e1,o1⟩:=ia z1 f;cases k with
 |false=>
  simp only[W4,XH]at z;obtain⟨h2,S2,e2,o2⟩:=ib z o1.f;exact⟨h2,S2,by simp only[Ev.aH,e1,Ev.ak];rw[WQ (by decide)];exact e2,o1.trans o2⟩
 |true=>
  simp only[Xa]at z;cases z;exact⟨h1,S1,by simp only[Ev.aH,e1,Ev.ak];rfl,o1.weak (by simp only[b5];intro i hi;simp[hi])⟩
def Tf(ia:gx P P' a):gx P P' (.nt a):=λz f=>by
 simp only[aH]at z;replace z:=ah z;obtain⟨k,af,z1,z⟩:=z;obtain⟨h1,S1,e1,o1⟩:=ia z1 f;cases z;exact⟨h1,S1,by simp only[Ev.aH,e1,Ev.ak],o1⟩
def dS(ie:bF P P' e)(h1:∀fr,aH P e fr=(ev P true e fr).bind λx af=>.ok (truthy x) af)(h2:∀fr h,Ev.aH P' e fr h=(Ev.ev P' e fr h).bind λx h1=>Ev.R.of (Ev.truthy h1 x) h1):gx P P' e:=λz f=>by
 rw[h1]at z;replace z:=ah z;obtain⟨x,af,z1,z⟩:=z;cases z;obtain⟨d,h1,S1,e1,q1,o1⟩:=ie z1 f;exact⟨h1,S1,by rw[h2,e1,Ev.ak,A6 q1.t];rfl,o1⟩
def Bh(ie:bF P P' e){k:Bool}{fr:Fr}{v:V}{af:Fr}{M B:Nat->Prop}{h:Hh}{S:Nat->Prop}{aj:Ev.Fr}(z:src k fr e (ev P k e fr)=.ok v af)(f:bx M B h S fr aj) :
  ∃d h' S',Ev.ev P' e aj h=.ok d h'/\bB h' S' v d/\(k=false->∀n,d=.ref n->¬ M n)/\Out M B (b5 e) h S fr aj h' S' af:=by
 have gen:ev P k e fr=.ok v af->∃d h' S',Ev.ev P' e aj h=.ok d h'/\bB h' S' v d/\(k=false->∀n,d=.ref n->¬ M n)/\Out M B (b5 e) h S fr aj h' S' af:=λz=>by
  obtain⟨d,h1,S1,e1,q1,o1⟩:=ie z f;refine⟨d,h1,S1,e1,q1.t,λhk n hd=>?_,o1⟩;subst hk;have q:=q1.n;cases v<;>simp only[Rep]at q
  .cases q.symm.trans hd
  .cases q.symm.trans hd
  .cases q.symm.trans hd
  .cases q.symm.trans hd
  .obtain⟨_,q,_⟩:=q;cases q.symm.trans hd
  .obtain⟨m,ds,q,sm,_⟩:=q;cases q.symm.trans hd;exact(o1.f.wS _ sm).2.1
  .obtain⟨m,ds,q,sm,_⟩:=q;cases q.symm.trans hd;exact(o1.f.wS _ sm).2.1
 cases e
 case v i=>
  simp only[src]at z;replace z:=aO z;obtain⟨z,y0⟩:=z;subst y0;unfold yZ at z;split at z
  .rename_i l y;cases z;obtain⟨p,e1,m,ds,rfl,y1,y2,y3⟩:=f.get y;exact⟨.ref m,h,S,by simp only[Ev.ev,e1,Option.join,Option.bind,id,Ev.dX],⟨m,ds,rfl,y2,y3⟩,λ_ n hn=>by cases hn;exact y1,.refl f⟩
  .exact gen (by simp only[ev,z,dX])
 all_goals exact gen z
def LX(ie:bF P P' e):ly P P' (.seq e):=λz f=>by
 simp only[cZ]at z;replace z:=ah z;obtain⟨x,af,z1,z⟩:=z;replace z:=aO z;obtain⟨z,y0⟩:=z;subst y0;obtain⟨d,h1,S1,e1,q1,q2,o1⟩:=Bh ie z1 f;obtain⟨s,a1,a2,a3⟩:=Dc z q1;exact⟨s,h1,S1,by simp only[Ev.cZ,e1,Ev.ak,a1,Ev.dX],a2,λq hq=>⟨(a3 q hq).2,λhk=>q2 hk _ (a3 q hq).1⟩,o1⟩
def Hr(is:jn P P' es):ly P P' (.fH es):=λz f=>by
 simp only[cZ]at z;replace z:=ah z;obtain⟨x,af,z1,z⟩:=z;replace z:=aO z;obtain⟨z,y0⟩:=z;subst y0;obtain⟨d,h1,S1,e1,q1,o1⟩:=is z1 f;obtain⟨s,a1,a2⟩:=LG z q1.t;exact⟨(s,[]),h1,S1,by simp only[Ev.cZ,e1,Ev.ak,a1,Ev.dX],a2,λq hq=>by simp at hq,o1⟩
def Di(ie:bF P P' e):ly P P' (.enum e):=λz f=>by
 simp only[cZ]at z;replace z:=ah z;obtain⟨x,af,z1,z⟩:=z;replace z:=aO z;obtain⟨z,y0⟩:=z;subst y0;obtain⟨d,h1,S1,e1,q1,q2,o1⟩:=Bh ie z1 f;simp only[vv]at z;obtain⟨l,z,rfl⟩:=z;obtain⟨s,a1,a2,a3⟩:=Hf z q1;exact⟨(Ev.gq 0 s.1,s.2),h1,S1,by simp only[Ev.cZ,e1,Ev.ak,a1,Option.map,Ev.dX],xE 0 a2,λq hq=>⟨(a3 q hq).2,λhk=>q2 hk _ (a3 q hq).1⟩,o1⟩
def Hs(ie:bF P P' e):ly P P' (.rev e):=λz f=>by
 simp only[cZ]at z;replace z:=ah z;obtain⟨x,af,z1,z⟩:=z;replace z:=aO z;obtain⟨z,y0⟩:=z;subst y0;obtain⟨d,h1,S1,e1,q1,o1⟩:=ie z1 f;simp only[vv]at z;obtain⟨l,z,rfl⟩:=z;cases x<;>simp only[yY,reduceCtorEq]at z
 cases z;have k1:=q1.t;simp only[bB,Rep]at k1;obtain⟨ds,y1,k2⟩:=k1;subst y1;exact⟨(ds.reverse,[]),h1,S1,by simp only[Ev.cZ,e1,Ev.ak,Ev.Cy,Option.map,Ev.dX],k2.reverse,λq hq=>by simp at hq,o1⟩
end
section
variable{P:aL}{P':Ev.aL}(HP:pM P P')
include HP
mutual
theorem bw:∀e:E,bF P P' e
 |.c _=>LP
 |.v _=>LQ
 |.tup es=>A8 (fN es)
 |.lst es=>A9 (fN es)
 |.bin _ a b=>Ba (bw a) (bw b)
 |.cmp _ a b=>Bb (bw a) (bw b)
 |.nt a=>O0 (bw a)
 |.neg a=>Bc (bw a)
 |.an a b=>O1 (bw a) (bw b)
 |.orr a b=>LR (bw a) (bw b)
 |.lU t a b=>Bd (gh t) (bw a) (bw b)
 |.ix a b=>E6 (bw a) (bw b)
 |.sl a lo hi=>E7 (bw a) (pR lo) (pR hi)
 |.lV a=>Be (bw a)
 |.cl _ es=>E8 HP (uU es)
 |.bi _ es=>E9 (fN es)
 |.me _ o es=>Fb (bw o) (fN es)
 |.comp elt _ it cond=>uT (kD it) (Bj cond) (bw elt)
 |.ji it=>Bg (kD it)
 |.je _ a=>xK (bw a)
 |.gZ a=>Bf (bw a)
theorem gh:∀e:E,gx P P' e
 |.an a b=>Te (gh a) (gh b)
 |.orr a b=>O3 (gh a) (gh b)
 |.nt a=>Tf (gh a)
 |.c x=>dS LP (λ_=>by simp only[aH]) (λ_ _=>by simp only[Ev.aH])
 |.v x=>dS LQ (λ_=>by simp only[aH]) (λ_ _=>by simp only[Ev.aH])
 |.tup es=>dS (A8 (fN es)) (λ_=>by simp only[aH]) (λ_ _=>by simp only[Ev.aH])
 |.lst es=>dS (A9 (fN es)) (λ_=>by simp only[aH]) (λ_ _=>by simp only[Ev.aH])
 |.bin _ a b=>dS (Ba (bw a) (bw b)) (λ_=>by simp only[aH]) (λ_ _=>by simp only[Ev.aH])
 |.cmp _ a b=>dS (Bb (bw a) (bw b)) (λ_=>by simp only[aH]) (λ_ _=>by simp only[Ev.aH])
 |.neg a=>dS (Bc (bw a)) (λ_=>by simp only[aH]) (λ_ _=>by simp only[Ev.aH])
 |.lU t a b=>dS (Bd (gh t) (bw a) (bw b)) (λ_=>by simp only[aH]) (λ_ _=>by simp only[Ev.aH])
 |.ix a b=>dS (E6 (bw a) (bw b)) (λ_=>by simp only[aH]) (λ_ _=>by simp only[Ev.aH])
 |.sl a lo hi=>dS (E7 (bw a) (pR lo) (pR hi)) (λ_=>by simp only[aH]) (λ_ _=>by simp only[Ev.aH])
 |.lV a=>dS (Be (bw a)) (λ_=>by simp only[aH]) (λ_ _=>by simp only[Ev.aH])
 |.cl _ es=>dS (E8 HP (uU es)) (λ_=>by simp only[aH]) (λ_ _=>by simp only[Ev.aH])
 |.bi _ es=>dS (E9 (fN es)) (λ_=>by simp only[aH]) (λ_ _=>by simp only[Ev.aH])
 |.me _ o es=>dS (Fb (bw o) (fN es)) (λ_=>by simp only[aH]) (λ_ _=>by simp only[Ev.aH])
 |.comp elt _ it cond=>dS (uT (kD it) (Bj cond) (bw elt)) (λ_=>by simp only[aH]) (λ_ _=>by simp only[Ev.aH])
 |.ji it=>dS (Bg (kD it)) (λ_=>by simp only[aH]) (λ_ _=>by simp only[Ev.aH])
 |.je _ a=>dS (xK (bw a)) (λ_=>by simp only[aH]) (λ_ _=>by simp only[Ev.aH])
 |.gZ a=>dS (Bf (bw a)) (λ_=>by simp only[aH]) (λ_ _=>by simp only[Ev.aH])
theorem fN:∀e:Es,jn P P' e
 |.nil=>LU
 |.cons e es=>Hl (bw e) (fN es)
theorem uU:∀e:Es,pP P P' e
 |.nil=>Ho
 |.cons e es=>Dh (bw e) (uU es)
theorem pR:∀e:Eo,pQ P P' e
 |.no=>O2
 |.yes e=>LV (bw e)
theorem Bj:∀e:Eo,tH P P' e
 |.no=>LW
 |.yes e=>Hq (gh e)
theorem kD:∀e:It,ly P P' e
 |.seq e=>LX (bw e)
 |.fH es=>Hr (fN es)
 |.enum a=>Di (bw a)
 |.rev a=>Hs (bw a)
end
end
structure Tr(M B:Nat->Prop)(h:Hh)(S:Nat->Prop)(M':Nat->Prop)(h':Hh)(S':Nat->Prop):Prop where
 len:h.length<=h'.length
 keep:∀m,m<h.length->¬ M m->h'[m]?=h[m]?
 sub:∀m,S m->S' m
 new:∀m,S' m->S m\/(h.length<=m/\m<h'.length)\/(M m/\¬ B m)
 za:∀m,M' m->M m\/h.length<=m
structure dN(M B:Nat->Prop)(h:Hh)(S:Nat->Prop)(fr:Fr)(aj:Ev.Fr)(M':Nat->Prop)(h':Hh)(S':Nat->Prop)(af:Fr)(bK:Ev.Fr):Prop where
 f:bx M' B h' S' af bK
 tr:Tr M B h S M' h' S'
 lk:∀i,locked af i=locked fr i
 rf:∀i,locked fr i=true->bK[i]?=aj[i]?
noncomputable def gQ(h:Hh)(S:Nat->Prop):Fl->Ev.Fl->Prop
 |.nx,g=>g=.nx
 |.bk,g=>g=.bk
 |.ct,g=>g=.ct
 |.ret v,g=>∃d,g=.ret d/\Rep h S v d
section
variable{M B M' M1 M2:Nat->Prop}{h h1 h2:Hh}{S S' S1 S2:Nat->Prop}{fr af ao:Fr}{aj bK lz:Ev.Fr}{c:List Nat}{v:V}{d:D}
def dN.refl(f:bx M B h S fr aj):dN M B h S fr aj M h S fr aj:=⟨f,⟨qh _,λ_ _ _=>rfl,λ_ q=>q,λ_ q=>.inl q,λ_ q=>.inl q⟩,λ_=>rfl,λ_ _=>rfl⟩
def Out.s(o:Out M B c h S fr aj h1 S1 af):dN M B h S fr aj M h1 S1 af aj:=⟨o.f,⟨o.tr.len,λm y1 y2=>o.tr.keep m y1 (λz=>y2 z.1),o.tr.sub,λm q=>(o.tr.new m q).imp id .inl,λ_ q=>.inl q⟩,o.lk,λ_ _=>rfl⟩
theorem dN.trans(f0:bx M B h S fr aj)(a:dN M B h S fr aj M1 h1 S1 af bK)(b:dN M1 B h1 S1 af bK M2 h2 S2 ao lz):dN M B h S fr aj M2 h2 S2 ao lz where
 f:=b.f
 tr:=⟨WV a.tr.len b.tr.len,λm y1 y2=>by
   rw[b.tr.keep m (Rt y1 a.tr.len) (λz=>by
    rcases a.tr.za m z with z|z
    .exact y2 z
    .omega),a.tr.keep m y1 y2],λm q=>b.tr.sub m (a.tr.sub m q),λm q=>by
   rcases b.tr.new m q with q|q|q
   .rcases a.tr.new m q with q|q|q
    .exact .inl q
    .exact .inr (.inl ⟨q.1,Rt q.2 b.tr.len⟩)
    .exact .inr (.inr q)
   .exact .inr (.inl ⟨WV a.tr.len q.1,q.2⟩)
   .rcases a.tr.za m q.1 with z|z
    .exact .inr (.inr ⟨z,q.2⟩)
    .exact .inr (.inl ⟨z,Rt (a.f.wM m q.1) b.tr.len⟩),λm q=>by
   rcases b.tr.za m q with q|q
   .exact a.tr.za m q
   .exact .inr (WV a.tr.len q)⟩
 lk:=λi=>(b.lk i).trans (a.lk i)
 rf:=λi q=>(b.rf i (by rw[a.lk i];exact q)).trans (a.rf i q)
def bx.kind(f:bx M B h S fr aj)(g:Option Sl->Option Sl->Prop)(hl:af.length=fr.length)(hg:∀(i:Nat) o,af[i]?=some o->∃o0,fr[i]?=some o0/\(o=o0\/(∃l,o0=some (.own l)/\o=some (.val (.lst l)))\/(∃l,o0=some (.bor l)/\o=some (.ro l)))) :
  ∃M' S',dN M B h S fr aj M' h S' af aj:=by
 let X:Nat->Prop:=λm=>∃(i:Nat) (l:List V),fr[i]?=some (some (Sl.own l))/\af[i]?=some (some (Sl.val (V.lst l)))/\aj[i]?=some (some (D.ref m))
 let Y:Nat->Prop:=λm=>∃(i:Nat) (l:List V),fr[i]?=some (some (Sl.bor l))/\af[i]?=some (some (Sl.ro l))/\aj[i]?=some (some (D.ref m))
 have xM:∀m,X m->M m/\¬ B m:=λm ⟨i,l,a,_,b⟩=>by
  obtain⟨m',ds,e,q,_⟩:=f.sl i _ _ a b;cases e;exact q
 have yM:∀m,Y m->M m/\B m:=λm ⟨i,l,a,_,b⟩=>by
  obtain⟨m',ds,e,q,_⟩:=f.sl i _ _ a b;cases e;exact q
 have mono:∀{l:List V} {ds:List D},aq h S l ds->aq h (λm=>S m\/X m) l ds:=λq=>q.mono (λ_ _=>rfl) λ_ z=>.inl z;refine⟨λm=>M m/\¬ X m/\¬ Y m,λm=>S m\/X m,⟨⟨λm q=>?_,λm q=>f.wM m q.1,f.wB,by rw[hl,f.len],λi o p e1 e2=>?_,λi j o o' m y1 y2 y3 y4 y5 y6=>?_⟩,⟨qh _,λ_ _ _=>rfl,λ_ q=>.inl q,λm q=>?_,λm q=>.inl q.1⟩,λi=>?_,λ_ _=>rfl⟩⟩
 .rcases q with q|q
  .exact⟨(f.wS m q).1,λz=>(f.wS m q).2.1 z.1,(f.wS m q).2.2⟩
  .exact⟨f.wM m (xM m q).1,λz=>z.2.1 q,(xM m q).2⟩
 .obtain⟨o0,e0,k⟩:=hg i o e1;have old:=f.sl i o0 p e0 e2;rcases k with rfl|⟨l,rfl,rfl⟩|⟨l,rfl,rfl⟩
  .rcases o with _|s
   .exact old
   .cases s with
    |val v=>obtain⟨d,e,q⟩:=old;exact⟨d,e,q.mono (λ_ _=>rfl) λ_ z=>.inl z⟩
    |own l=>
     obtain⟨m,ds,rfl,z,y,q⟩:=old;refine⟨m,ds,rfl,⟨⟨z.1,λ⟨j,l',a1,a2,a3⟩=>?_,λ⟨j,l',a1,a2,a3⟩=>?_⟩,z.2⟩,y,mono q⟩
     .have:=f.inj i j _ _ m e0 a1 rfl rfl e2 a3;subst this;rw[e1]at a2;cases a2
     .have:=f.inj i j _ _ m e0 a1 rfl rfl e2 a3;subst this;rw[e1]at a2;cases a2
    |bor l=>
     obtain⟨m,ds,rfl,z,y,q⟩:=old;refine⟨m,ds,rfl,⟨⟨z.1,λ⟨j,l',a1,a2,a3⟩=>?_,λ⟨j,l',a1,a2,a3⟩=>?_⟩,z.2⟩,y,mono q⟩
     .have:=f.inj i j _ _ m e0 a1 rfl rfl e2 a3;subst this;rw[e1]at a2;cases a2
     .have:=f.inj i j _ _ m e0 a1 rfl rfl e2 a3;subst this;rw[e1]at a2;cases a2
    |ro l=>obtain⟨m,ds,rfl,z,y,q⟩:=old;exact⟨m,ds,rfl,λw=>z w.1,y,mono q⟩
  .obtain⟨m,ds,rfl,z,y,q⟩:=old;exact⟨.ref m,rfl,m,ds,rfl,.inr ⟨i,l,e0,e1,e2⟩,y,mono q⟩
  .obtain⟨m,ds,rfl,z,y,q⟩:=old;exact⟨m,ds,rfl,λw=>w.2.2 ⟨i,l,e0,e1,e2⟩,y,mono q⟩
 .have kd:∀(i:Nat) o,af[i]?=some o->gO o=true->∃o0,fr[i]?=some o0/\gO o0=true:=λi o w1 w2=>by
   obtain⟨o0,e0,k⟩:=hg i o w1;rcases k with rfl|⟨l,rfl,rfl⟩|⟨l,rfl,rfl⟩
   .exact⟨o,e0,w2⟩
   .cases w2
   .cases w2
  obtain⟨oi,k1,k2⟩:=kd i o y1 y3;obtain⟨oj,k3,k4⟩:=kd j o' y2 y4;exact f.inj i j oi oj m k1 k3 k2 k4 y5 y6
 .rcases q with q|q
  .exact .inl q
  .exact .inr (.inr (xM m q))
 .unfold locked;cases z:af[i]? with
  |none=>
   have:fr[i]?=none:=by rw[Zv]at z ⊢;omega
   rw[this]
  |some o=>
   obtain⟨o0,e0,k⟩:=hg i o z;rw[e0];rcases k with rfl|⟨l,rfl,rfl⟩|⟨l,rfl,rfl⟩<;>rfl
def bx.gb(f:bx M B h S fr aj):∃M' S',dN M B h S fr aj M' h S' (gr fr) aj:=by
 refine f.kind (λ_ _=>True) (by simp[gr]) λi o e=>?_;unfold gr at e;rw[WX]at e;cases z:fr[i]? with
 |none=>rw[z]at e;cases e
 |some o0=>
  rw[z]at e;cases e;refine⟨o0,rfl,?_⟩;rcases o0 with _|s
  .exact .inl rfl
  .cases s with
   |own l=>exact .inr (.inl ⟨l,rfl,rfl⟩)
   |_=>exact .inl rfl
theorem bx.walk:∀(is:List Nat) {M:Nat->Prop}{S:Nat->Prop}{fr:Fr},bx M B h S fr aj->∃M' S',dN M B h S fr aj M' h S' (tG is fr) aj
 |[],_,_,_,f=>⟨_,_,.refl f⟩
 |i :: is,M,S,fr,f=>by
  have one:∃M1 S1,dN M B h S fr aj M1 h S1 (match fr[i]? with|some (some s)=>fr.set i (some s.walk)|_=>fr) aj:=by
   split
   .rename_i s z;have hl:=(List.getElem?_eq_some_iff.mp z).1;refine f.kind (λ_ _=>True) (by simp) λj o e=>?_;by_cases hj:i=j
    .subst hj;rw[WS hl]at e;cases e;refine⟨_,z,?_⟩;cases s with
     |own l=>exact .inr (.inl ⟨l,rfl,rfl⟩)
     |bor l=>exact .inr (.inr ⟨l,rfl,rfl⟩)
     |_=>exact .inl rfl
    .rw[Vo hj]at e;exact⟨o,e,.inl rfl⟩
   .exact⟨M,S,.refl f⟩
  obtain⟨M1,S1,o1⟩:=one;obtain⟨M2,S2,o2⟩:=bx.walk is o1.f;exact⟨M2,S2,o1.trans f o2⟩
theorem bx.own(f:bx M B h S fr aj){i:Nat}{l:List V}{ds:List D}(e:put fr i (.own l)=some af)(q:aq h S l ds):dN M B h S fr aj (λm=>M m\/m=h.length) (h++[.lst ds]) S af (aj.set i (some (.ref h.length))):=by
 have hx:af=fr.set i (some (.own l))/\locked fr i=false:=by
  unfold put at e;unfold locked;split at e
  .cases e
  .cases e
  .rename_i k1 k2;cases e;refine⟨rfl,?_⟩;cases z:fr[i]? with
   |none=>rfl
   |some o=>
    rcases o with _|s
    .rfl
    .cases s with
     |bor l=>exact absurd z (k1 l)
     |ro l=>exact absurd z (k2 l)
     |_=>rfl
 obtain⟨rfl,hk⟩:=hx;have kp:∀m,m<h.length->(h++[O.lst ds])[m]?=h[m]?:=λm z=>by rw[VL z]
 have kS:∀m,S m->(h++[O.lst ds])[m]?=h[m]?:=λm z=>kp m (f.w m z);refine⟨⟨λm y=>⟨by have:=(f.wS m y).1;simp;omega,λz=>?_,(f.wS m y).2.2⟩,λm y=>?_,λm y=>by have:=f.wB m y;simp;omega,by simp[f.len],λj o p y1 y2=>?_,λj k o o' m y1 y2 y3 y4 y5 y6=>?_⟩,⟨by simp,λm y _=>kp m y,λ_ z=>z,λ_ z=>.inl z,λm z=>z.imp id (λz=>by omega)⟩,λj=>?_,λj hj=>?_⟩
 .rcases z with z|z
  .exact(f.wS m y).2.1 z
  .have:=(f.wS m y).1;omega
 .rcases y with y|y
  .have:=f.wM m y;simp;omega
  .subst y;simp
 .by_cases hj:i=j
  .subst hj;have hl:i<fr.length:=by have:=(List.getElem?_eq_some_iff.mp y1).1;simpa using this
   rw[WS hl]at y1;rw[WS (by rw[<-f.len];exact hl)]at y2;cases y1;cases y2;exact⟨h.length,ds,rfl,⟨.inr rfl,λz=>by have:=f.wB _ z;omega⟩,by simp,q.mono kS λ_ z=>z⟩
  .rw[Vo hj]at y1 y2;have old:=f.sl j o p y1 y2;rcases o with _|s
   .exact old
   .cases s with
    |val v=>obtain⟨d,e,q⟩:=old;exact⟨d,e,q.mono kS λ_ z=>z⟩
    |own l=>obtain⟨m,es,rfl,z,y,q⟩:=old;exact⟨m,es,rfl,⟨.inl z.1,z.2⟩,by rw[kp m (f.wM m z.1)];exact y,q.mono kS λ_ z=>z⟩
    |bor l=>obtain⟨m,es,rfl,z,y,q⟩:=old;exact⟨m,es,rfl,⟨.inl z.1,z.2⟩,by rw[kp m (f.wM m z.1)];exact y,q.mono kS λ_ z=>z⟩
    |ro l=>
     obtain⟨m,es,rfl,z,y,q⟩:=old;have hm:=(List.getElem?_eq_some_iff.mp y).1;exact⟨m,es,rfl,λw=>by rcases w with w|w;exact z w;omega,by rw[kp m hm];exact y,q.mono kS λ_ z=>z⟩
 .have low:∀(j:Nat) o,i≠j->fr[j]?=some o->gO o=true->aj[j]?=some (some (.ref m))->m<h.length:=λj o _ w1 w2 w3=>f.wM m (f.mM w1 w2 w3);have new:∀(j:Nat),j<fr.length->i=j->(aj.set i (some (.ref h.length)))[j]?=some (some (.ref m))->m=h.length:=λj hl hj w=>by
   subst hj;rw[WS (by rw[<-f.len];exact hl)]at w;cases w;rfl
  have lj:j<fr.length:=by have:=(List.getElem?_eq_some_iff.mp y1).1;simpa using this
  have lk:k<fr.length:=by have:=(List.getElem?_eq_some_iff.mp y2).1;simpa using this
  by_cases hj:i=j
  .by_cases hk2:i=k
   .rw[<-hj,<-hk2]
   .have a:=new j lj hj y5;rw[Vo hk2]at y2 y6;have b:=low k o' hk2 y2 y4 y6;omega
  .by_cases hk2:i=k
   .have a:=new k lk hk2 y6;rw[Vo hj]at y1 y5;have b:=low j o hj y1 y3 y5;omega
   .rw[Vo hj]at y1 y5;rw[Vo hk2]at y2 y6;exact f.inj j k o o' m y1 y2 y3 y4 y5 y6
 .by_cases hj:i=j
  .subst hj;rw[hk];unfold locked;by_cases hl:i<fr.length
   .rw[WS hl];rfl
   .rw[W8 (by simpa using hl)]
  .unfold locked;rw[Vo hj]
 .have:i≠j:=λz=>by subst z;rw[hk]at hj;cases hj
  rw[Vo this]
end
inductive Rl(P':Ev.aL)(w:Nat)(s:S)(g:Fl)(M B:Nat->Prop)(h:Hh)(S:Nat->Prop)(fr:Fr)(aj:Ev.Fr)(af:Fr):Prop
 |mk (g':Ev.Fl) (bK:Ev.Fr) (M':Nat->Prop) (h':Hh) (S':Nat->Prop) (c0:Ev.ex P' w s aj h=.ok (g',bK) h') (c1:gQ h' S' g g') (c2:dN M B h S fr aj M' h' S' af bK):Rl P' w s g M B h S fr aj af
inductive LY(P':Ev.aL)(w:Nat)(s:Ss)(g:Fl)(M B:Nat->Prop)(h:Hh)(S:Nat->Prop)(fr:Fr)(aj:Ev.Fr)(af:Fr):Prop
 |mk (g':Ev.Fl) (bK:Ev.Fr) (M':Nat->Prop) (h':Hh) (S':Nat->Prop) (c0:Ev.exs P' w s aj h=.ok (g',bK) h') (c1:gQ h' S' g g') (c2:dN M B h S fr aj M' h' S' af bK):LY P' w s g M B h S fr aj af
section
variable(P:aL)(P':Ev.aL)(w:Nat)
noncomputable def oV(s:S):Prop:=∀{fr:Fr} {g:Fl} {af:Fr} {M B:Nat->Prop} {h:Hh} {S:Nat->Prop} {aj:Ev.Fr},ex P w s fr=.ok g af->bx M B h S fr aj->Rl P' w s g M B h S fr aj af
noncomputable def pS(s:Ss):Prop:=∀{fr:Fr} {g:Fl} {af:Fr} {M B:Nat->Prop} {h:Hh} {S:Nat->Prop} {aj:Ev.Fr},exs P w s fr=.ok g af->bx M B h S fr aj->LY P' w s g M B h S fr aj af
end
section
variable{P:aL}{P':Ev.aL}{w:Nat}(HP:pM P P')
include HP
def Ht{i:Nat}{e:E}:oV P P' w (.set i e):=λ{fr g af M B h S aj} z f=>by
 simp only[ex]at z;replace z:=ah z;obtain⟨x,ao,z1,z⟩:=z;by_cases hn:isNew e=true
 .rw[xV hn]at z;have key:∃l ds h1 S1,x=.lst l/\aq h1 S1 l ds/\Ev.ev P' e aj h=.ok (.ref h1.length) (h1++[.lst ds])/\Out M B (b5 e) h S fr aj h1 S1 ao:=by
   cases e <;> (try simp only[isNew,W4]at hn)
   case lst es=>
    simp only[ev]at z1;replace z1:=ah z1;obtain⟨l,cG,z2,z1⟩:=z1;replace z1:=aO z1;obtain⟨z1,y0⟩:=z1;subst y0;unfold ee at z1;split at z1
    case isFalse=>cases z1
    rename_i hk;cases z1;obtain⟨ds,h1,S1,e1,q1,o1⟩:=fN HP es z2 f;refine⟨l,ds,h1,S1,rfl,q1.n,?_,o1⟩;simp only[Ev.ev,e1,Ev.ak,Ev.alloc];rw[xV (by rw[<-q1.n.length];exact hk)]
   case ji it=>
    simp only[ev]at z1;replace z1:=ah z1;obtain⟨l,cG,z2,z1⟩:=z1;replace z1:=aO z1;obtain⟨z1,y0⟩:=z1;subst y0;unfold ee at z1;split at z1
    case isFalse=>cases z1
    rename_i hk;cases z1;obtain⟨s,h1,S1,e1,q1,q2,o1⟩:=kD HP it z2 f;refine⟨l,s.1,h1,S1,rfl,q1,?_,o1⟩;simp only[Ev.ev,e1,Ev.ak,Ev.alloc];rw[xV (by rw[<-q1.length];exact hk)]
  obtain⟨l,ds,h1,S1,rfl,q1,e1,o1⟩:=key;simp only at z;replace z:=ah z;obtain⟨cG,jj,z2,z⟩:=z;replace z2:=aO z2;obtain⟨z2,y0⟩:=z2;subst y0;cases z;have o2:=o1.f.own z2 q1;exact⟨.nx,_,_,_,_,by simp only[Ev.ex,e1,Ev.ak],rfl,o1.s.trans f o2⟩
 .rw[WQ hn]at z;replace z:=ah z;obtain⟨cG,jj,z2,z⟩:=z;replace z2:=aO z2;obtain⟨z2,y0⟩:=z2;subst y0;cases z;obtain⟨d,h1,S1,e1,q1,o1⟩:=bw HP e z1 f;obtain⟨f2,l2,r2⟩:=o1.f.set z2 q1.n;refine⟨.nx,_,_,_,_,by simp only[Ev.ex,e1,Ev.ak],rfl,o1.s.trans f ⟨f2,(dN.refl f2).tr,l2,r2⟩⟩
def Hu{l:List Nat}{e:E}:oV P P' w (.yu l e):=λ{fr g af M B h S aj} z f=>by
 simp only[ex]at z;replace z:=ah z;obtain⟨x,ao,z1,z⟩:=z;replace z:=ah z;obtain⟨cG,jj,z2,z⟩:=z;replace z2:=aO z2;obtain⟨z2,y0⟩:=z2;subst y0;cases z;obtain⟨d,h1,S1,e1,q1,o1⟩:=bw HP e z1 f;obtain⟨jf,b1,f2,l2,r2⟩:=o1.f.cg z2 q1.n;exact⟨.nx,_,_,_,_,by simp only[Ev.ex,e1,Ev.ak,b1],rfl,o1.s.trans f ⟨f2,(dN.refl f2).tr,l2,r2⟩⟩
def LZ{e:E}:oV P P' w (.exp e):=λ{fr g af M B h S aj} z f=>by
 simp only[ex]at z;replace z:=ah z;obtain⟨x,ao,z1,z⟩:=z;cases z;obtain⟨d,h1,S1,e1,q1,o1⟩:=bw HP e z1 f;exact⟨.nx,_,_,_,_,by simp only[Ev.ex,e1,Ev.ak],rfl,o1.s⟩
def L0{e:E}:oV P P' w (.ret e):=λ{fr g af M B h S aj} z f=>by
 simp only[ex]at z;replace z:=ah z;obtain⟨x,ao,z1,z⟩:=z;cases z;obtain⟨M1,S1,o1⟩:=f.gb;obtain⟨d,h2,S2,e1,q1,o2⟩:=bw HP e z1 o1.f;exact⟨.ret d,_,_,_,_,by simp only[Ev.ex,e1,Ev.ak],⟨d,rfl,q1.n⟩,o1.trans f o2.s⟩
omit HP in
theorem qT{F:V->Fr->R Fl}{F':D->Ev.Fr->Hh->Ev.R (Ev.Fl×Ev.Fr)}{ck:List (Nat×List D)}{B:Nat->Prop}{M0:Nat->Prop}{h0:Hh}{S0:Nat->Prop}{eE:Fr}{Dj:Ev.Fr}(f0:bx M0 B h0 S0 eE Dj)(st:∀q∈ck,bq h0 q.1=some q.2/\¬ M0 q.1)
  (turn:∀v d fr g af M h S aj,F v fr=.ok g af->bx M B h S fr aj->Rep h S v d->∃g' bK M' h' S',F' d aj h=.ok (g',bK) h'/\gQ h' S' g g'/\dN M B h S fr aj M' h' S' af bK) :
  ∀{vs:List V} {ds:List D} {fr:Fr} {g:Fl} {af:Fr} {M:Nat->Prop} {h:Hh} {S:Nat->Prop} {aj:Ev.Fr},forL F vs fr=.ok g af->dN M0 B h0 S0 eE Dj M h S fr aj->aq h S vs ds->
  ∃g' bK M' h' S',Ev.forL F' ck ds aj h=.ok (g',bK) h'/\gQ h' S' g g'/\dN M0 B h0 S0 eE Dj M' h' S' af bK
 |[],ds,fr,g,af,M,h,S,aj,e,o,q=>by
  simp only[forL]at e;simp only[aq]at q;subst q;cases e;refine⟨.nx,aj,M,h,S,?_,rfl,o⟩;simp only[Ev.forL];rw[xV (jG λx hx=>lu (st x hx).1 (o.tr.keep _ (pO (st x hx).1) (st x hx).2))]
 |v :: vs,ds,fr,g,af,M,h,S,aj,e,o,q=>by
  simp only[forL]at e;replace e:=ah e;obtain⟨p,ao,e1,e⟩:=e;simp only[aq]at q;obtain⟨d,es,rfl,q1,q2⟩:=q;obtain⟨g',lz,M2,h2,S2,t1,t2,t3⟩:=turn v d fr p ao M h S aj e1 o.f q1;have o2:=o.trans f0 t3;have Fd:Ev.stays h ck=true:=jG λx hx=>lu (st x hx).1 (o.tr.keep _ (pO (st x hx).1) (st x hx).2);have Rm:aq h2 S2 vs es:=q2.mono (λm z=>t3.tr.keep m (o.f.wS m z).1 (o.f.wS m z).2.1) t3.tr.sub;cases p with
  |nx=>
   simp only[gQ]at t2;subst t2;simp only at e;obtain⟨pT,jf,M3,h3,S3,u1,u2,u3⟩:=qT f0 st turn e o2 Rm;refine⟨pT,jf,M3,h3,S3,?_,u2,u3⟩;simp only[Ev.forL];rw[xV Fd,t1,Ev.ak];exact u1
  |ct=>
   simp only[gQ]at t2;subst t2;simp only at e;obtain⟨pT,jf,M3,h3,S3,u1,u2,u3⟩:=qT f0 st turn e o2 Rm;refine⟨pT,jf,M3,h3,S3,?_,u2,u3⟩;simp only[Ev.forL];rw[xV Fd,t1,Ev.ak];exact u1
  |bk=>
   simp only[gQ]at t2;subst t2;simp only at e;cases e;refine⟨.nx,lz,M2,h2,S2,?_,rfl,o2⟩;simp only[Ev.forL];rw[xV Fd,t1,Ev.ak]
  |ret x=>
   simp only[gQ]at t2;obtain⟨d2,rfl,t2⟩:=t2;simp only at e;cases e;refine⟨.ret d2,lz,M2,h2,S2,?_,⟨d2,rfl,t2⟩,o2⟩;simp only[Ev.forL];rw[xV Fd,t1,Ev.ak]
def L1{t:T}{it:It}{b:Ss}(ib:pS P P' w b):oV P P' w (.for t it b):=λ{fr g af M B h S aj} z f=>by
 simp only[ex]at z;replace z:=ah z;obtain⟨vs,ao,z1,z⟩:=z;obtain⟨M1,S1,o1⟩:=f.walk (itv it);obtain⟨s,h2,S2,e1,q1,q2,o2⟩:=kD HP it z1 o1.f;have o3:=o1.trans f o2.s;obtain⟨g',bK,M',h',S',u1,u2,u3⟩:=qT (F':=λd ao h2=>match Ev.cg t d ao with
   |some cG=>Ev.exs P' w b cG h2
   |none=>.bad) (ck:=s.2) o2.f (λq hq=>⟨(q2 q hq).1,(q2 q hq).2 rfl⟩) (λv d fr g af M h S aj y f q=>by
  split at y
  .rename_i cG y1;obtain⟨jf,b1,b2,b3,b4⟩:=f.cg y1 q;rw[b1];obtain⟨g',bK,M',h',S',c1,c2,c3⟩:=ib y b2;exact⟨g',bK,M',h',S',c1,c2,(⟨b2,(dN.refl b2).tr,b3,b4⟩:dN M _ h S fr aj M h S cG jf).trans f c3⟩
  .cases y) z (dN.refl o2.f) q1
 refine⟨g',bK,M',h',S',?_,u2,o3.trans f u3⟩;simp only[Ev.ex,e1,Ev.ak];exact u1
theorem uV{t:E}{b:Ss}(ib:pS P P' w b):∀(n:Nat) {fr:Fr}{g:Fl}{af:Fr}{M B:Nat->Prop}{h:Hh}{S:Nat->Prop}{aj:Ev.Fr},dM (λao=>aH P t ao) (λao=>exs P w b ao) n fr=.ok g af->bx M B h S fr aj->
  ∃g' bK M' h' S',Ev.dM (λao h2=>Ev.aH P' t ao h2) (λao h2=>Ev.exs P' w b ao h2) n aj h=.ok (g',bK) h'/\gQ h' S' g g'/\dN M B h S fr aj M' h' S' af bK
 |0,_,_,_,_,_,_,_,_,z,_=>by simp only[dM]at z;cases z
 |n+1,fr,g,af,M,B,h,S,aj,z,f=>by
  simp only[dM]at z;replace z:=ah z;obtain⟨k,ao,z1,z⟩:=z;obtain⟨h1,S1,e1,o1⟩:=gh HP t z1 f;cases k with
  |false=>
   simp only[W4,XH]at z;cases z;refine⟨.nx,aj,M,h1,S1,?_,rfl,o1.s⟩;simp only[Ev.dM,e1,Ev.ak];rw[WQ (by decide)]
  |true=>
   simp only[Xa]at z;replace z:=ah z;obtain⟨p,cG,z2,z⟩:=z;obtain⟨g',jf,M2,h2,S2,t1,t2,t3⟩:=ib z2 o1.f;have o2:=o1.s.trans f t3;cases p with
   |nx=>
    simp only[gQ]at t2;subst t2;simp only at z;obtain⟨pT,Dk,M3,h3,S3,u1,u2,u3⟩:=uV ib n z t3.f;refine⟨pT,Dk,M3,h3,S3,?_,u2,o2.trans f u3⟩;simp only[Ev.dM,e1,Ev.ak,Xa,t1];exact u1
   |ct=>
    simp only[gQ]at t2;subst t2;simp only at z;obtain⟨pT,Dk,M3,h3,S3,u1,u2,u3⟩:=uV ib n z t3.f;refine⟨pT,Dk,M3,h3,S3,?_,u2,o2.trans f u3⟩;simp only[Ev.dM,e1,Ev.ak,Xa,t1];exact u1
   |bk=>
    simp only[gQ]at t2;subst t2;simp only at z;cases z;refine⟨.nx,jf,M2,h2,S2,?_,rfl,o2⟩;simp only[Ev.dM,e1,Ev.ak,Xa,t1]
   |ret x=>
    simp only[gQ]at t2;obtain⟨d2,rfl,t2⟩:=t2;simp only at z;cases z;refine⟨.ret d2,jf,M2,h2,S2,?_,⟨d2,rfl,t2⟩,o2⟩;simp only[Ev.dM,e1,Ev.ak,Xa,t1]
def L3{t:E}{a b:Ss}(ia:pS P P' w a)(ib:pS P P' w b):oV P P' w (.iff t a b):=λ{fr g af M B h S aj} z f=>by
 simp only[ex]at z;replace z:=ah z;obtain⟨k,ao,z1,z⟩:=z;obtain⟨h1,S1,e1,o1⟩:=gh HP t z1 f;cases k with
 |true=>
  simp only[Xa]at z;obtain⟨g',bK,M',h',S',c1,c2,c3⟩:=ia z o1.f;exact⟨g',bK,M',h',S',by simp only[Ev.ex,e1,Ev.ak,Xa,c1],c2,o1.s.trans f c3⟩
 |false=>
  simp only[W4,XH]at z;obtain⟨g',bK,M',h',S',c1,c2,c3⟩:=ib z o1.f;exact⟨g',bK,M',h',S',by simp only[Ev.ex,e1,Ev.ak];rw[WQ (by decide)];exact c1,c2,o1.s.trans f c3⟩
mutual
theorem O4:∀s:S,oV P P' w s
 |.set _ _=>Ht HP
 |.yu _ _=>Hu HP
 |.exp _=>LZ HP
 |.ret _=>L0 HP
 |.iff _ a b=>L3 HP (kE a) (kE b)
 |.for _ _ b=>L1 HP (kE b)
 |.nW _ b=>λz f=>by
  simp only[ex]at z;obtain⟨g',bK,M',h',S',c1,c2,c3⟩:=uV HP (kE b) w z f;exact⟨g',bK,M',h',S',by simp only[Ev.ex];exact c1,c2,c3⟩
 |.fy _=>λz _=>by simp only[ex]at z;cases z
theorem kE:∀s:Ss,pS P P' w s
 |.nil=>λz f=>by simp only[exs]at z;cases z;exact⟨.nx,_,_,_,_,by simp only[Ev.exs],rfl,.refl f⟩
 |.cons s ss=>λz f=>by
  simp only[exs]at z;replace z:=ah z;obtain⟨p,ao,z1,z⟩:=z;obtain⟨g',lz,M2,h2,S2,t1,t2,t3⟩:=O4 s z1 f;cases p with
  |nx=>
   simp only[gQ]at t2;subst t2;simp only at z;obtain⟨pT,jf,M3,h3,S3,u1,u2,u3⟩:=kE ss z t3.f;exact⟨pT,jf,M3,h3,S3,by simp only[Ev.exs,t1,Ev.ak,u1],u2,t3.trans f u3⟩
  |ct=>
   simp only[gQ]at t2;subst t2;simp only at z;cases z;exact⟨.ct,lz,M2,h2,S2,by simp only[Ev.exs,t1,Ev.ak],rfl,t3⟩
  |bk=>
   simp only[gQ]at t2;subst t2;simp only at z;cases z;exact⟨.bk,lz,M2,h2,S2,by simp only[Ev.exs,t1,Ev.ak],rfl,t3⟩
  |ret x=>
   simp only[gQ]at t2;obtain⟨d2,rfl,t2⟩:=t2;simp only at z;cases z;exact⟨.ret d2,lz,M2,h2,S2,by simp only[Ev.exs,t1,Ev.ak],⟨d2,rfl,t2⟩,t3⟩
end
end
theorem qU{h:Hh}{S:Nat->Prop}{B:Nat->Prop}{h0:Hh}{S0:Nat->Prop}:∀{sl:List Sl}{ds:List D}{cs:Fr},sl.length=ds.length->
  (∀(a:Nat) s d,sl[a]?=some s->ds[a]?=some d->kj B B h0 S0 (some s) (some d)/\locked cs a=xF (some s)/\(xF (some s)=true->∃m es l s',d=.ref m/\h[m]?=some (.lst es)/\aq h S l es/\cs[a]?=some (some s')/\s'.out=some l))->mQ h S sl ds ((cs.take sl.length).filterMap λo=>o.bind Sl.out)
 |[],ds,cs,_,_=>by simp[mQ]
 |s :: sl,[],cs,hl,_=>by simp at hl
 |s :: sl,d :: ds,[],hl,q=>by
  have ih:=qU (h:=h) (S:=S) (sl:=sl) (ds:=ds) (cs:=[]) (by simpa using hl) λa s' d' e1 e2=>by
   obtain⟨w1,w2,w3⟩:=q (a+1) s' d' (by simpa using e1) (by simpa using e2);exact⟨w1,by simpa[locked]using w2,λz=>by obtain⟨_,_,_,_,_,_,_,y,_⟩:=w3 z;simp at y⟩
  obtain⟨w1,w2,w3⟩:=q 0 s d (by simp) (by simp);cases s with
  |val v=>simp at ih ⊢;exact⟨d,ds,rfl,ih⟩
  |own l=>exact absurd w1 (by rintro⟨m,es,e,q,_⟩;exact q.2 q.1)
  |bor l=>obtain⟨_,_,_,_,_,_,_,y,_⟩:=w3 rfl;simp at y
  |ro l=>obtain⟨_,_,_,_,_,_,_,y,_⟩:=w3 rfl;simp at y
 |s :: sl,d :: ds,o :: cs,hl,q=>by
  have ih:=qU (h:=h) (S:=S) (sl:=sl) (ds:=ds) (cs:=cs) (by simpa using hl) λa s' d' e1 e2=>by
   obtain⟨w1,w2,w3⟩:=q (a+1) s' d' (by simpa using e1) (by simpa using e2);exact⟨w1,by simpa[locked]using w2,λz=>by simpa using w3 z⟩
  obtain⟨w1,w2,w3⟩:=q 0 s d (by simp) (by simp);cases s with
  |val v=>
   have:o.bind Sl.out=none:=by
    simp[locked]at w2;rcases o with _|s
    .rfl
    .cases s<;>first|rfl|cases w2
   simp only[WY,XF,X6,this];exact⟨d,ds,rfl,ih⟩
  |own l=>exact absurd w1 (by rintro⟨m,es,e,q,_⟩;exact q.2 q.1)
  |bor l=>
   obtain⟨m,es,l',s',a1,a2,a3,a4,a5⟩:=w3 rfl;simp at a4;subst a4;simp only[WY,XF,X6,Option.bind,a5];exact⟨d,ds,l',_,m,es,rfl,rfl,a1,a2,a3,ih⟩
  |ro l=>
   obtain⟨m,es,l',s',a1,a2,a3,a4,a5⟩:=w3 rfl;simp at a4;subst a4;simp only[WY,XF,X6,Option.bind,a5];exact⟨d,ds,l',_,m,es,rfl,rfl,a1,a2,a3,ih⟩
def L4{fn:Fn}{sl:List Sl}{ds:List D}{B:Nat->Prop}{h:Hh}{S:Nat->Prop}(F0:bx B B h S (sl.map some) (ds.map some))(hlen:sl.length=ds.length):bx B B h S (eE fn sl) (Ev.eE fn ds):=by
 unfold eE Ev.eE;have sp:∀(i:Nat) o,(sl.map some++List.replicate (fn.ns - fn.np) none)[i]?=some o->(sl.map some)[i]?=some o\/(sl.length<=i/\o=none):=λi o y=>by
  by_cases hi:i<sl.length
  .rw[VL (by simpa using hi)]at y;exact .inl y
  .rw[Xg (by simpa using hi)]at y;have:=W2 y;exact .inr ⟨by omega,(List.mem_replicate.mp this).2⟩
 have lo:∀(i:Nat) p,i<sl.length->(ds.map some++List.replicate (fn.ns - fn.np) none)[i]?=some p->(ds.map some)[i]?=some p:=λi p hi y=>by
  rw[VL (by simpa[<-hlen]using hi)]at y;exact y
 refine⟨F0.wS,F0.wM,F0.wB,by simp[hlen],λi o p y1 y2=>?_,λi j o o' m y1 y2 y3 y4 y5 y6=>?_⟩
 .rcases sp i o y1 with y1|⟨hi,rfl⟩
  .have hi:i<sl.length:=by have:=(List.getElem?_eq_some_iff.mp y1).1;simpa using this
   exact F0.sl i o p y1 (lo i p hi y2)
  .rw[Xg (by simpa[<-hlen]using hi)]at y2;have:=W2 y2;exact(List.mem_replicate.mp this).2
 .rcases sp i o y1 with y1|⟨hi,rfl⟩
  .rcases sp j o' y2 with y2|⟨hj,rfl⟩
   .have hi:i<sl.length:=by have:=(List.getElem?_eq_some_iff.mp y1).1;simpa using this
    have hj:j<sl.length:=by have:=(List.getElem?_eq_some_iff.mp y2).1;simpa using this
    exact F0.inj i j o o' m y1 y2 y3 y4 (lo i _ hi y5) (lo j _ hj y6)
   .cases y4
  .cases y3
theorem Bk(F:List Fn)(w:Nat):∀n,pM (run F w n) (Ev.run F w n)
 |0=>λf sl v os e=>by simp[run]at e
 |n+1=>λf sl v os e h S B ds F0=>by
  have HP:=Bk F w n;simp only[run]at e;cases z:F[f]? with
  |none=>rw[z]at e;cases e
  |some fn=>
  rw[z]at e;simp only at e;split at e
  case isFalse=>cases e
  rename_i hl;have hlen:sl.length=ds.length:=by have:=F0.len;simpa using this
  have f1:bx B B h S (eE fn sl) (Ev.eE fn ds):=L4 F0 hlen;have fin:∀{g:Fl} {af:Fr},exs (run F w n) w fn.body (eE fn sl)=.ok g af->∃g' bK M' h' S',Ev.exs (Ev.run F w n) w fn.body (Ev.eE fn ds) h=.ok (g',bK) h'/\gQ h' S' g g'/\Tk B h S h' S'/\mQ h' S' sl ds (outs fn.np af):=λ{g af} y=>by
   obtain⟨g',bK,M',h',S',c1,c2,c3⟩:=kE HP fn.body y f1;refine⟨g',bK,M',h',S',c1,c2,⟨c3.tr.len,λm y1 y2=>c3.tr.keep m y1 y2,c3.tr.sub,λm q=>?_⟩,?_⟩
   .rcases c3.tr.new m q with q|q|q
    .exact .inl q
    .exact .inr q
    .exact absurd q.1 q.2
   .unfold outs;rw[<-hl];refine qU (B:=B) (h0:=h) (S0:=S) hlen λa s d e1 e2=>?_;have ha:a<sl.length:=(List.getElem?_eq_some_iff.mp e1).1;have h0:(eE fn sl)[a]?=some (some s):=by unfold eE;rw[VL (by simpa using ha)];simp[e1]
    have hlk:locked af a=xF (some s):=by rw[c3.lk a];unfold locked;rw[h0]
    refine⟨F0.sl a _ _ (by simp[e1]) (by simp[e2]),hlk,λhk=>?_⟩;have hr:=c3.rf a (by unfold locked;rw[h0];exact hk);have hd:(Ev.eE fn ds)[a]?=some (some d):=by unfold Ev.eE;rw[VL (by simpa[<-hlen]using ha)];simp[e2]
    rw[hd]at hr;cases y2:af[a]? with
    |none=>unfold locked at hlk;rw[y2]at hlk;rw[<-hlk]at hk;cases hk
    |some o=>
     have sr:=c3.f.sl a _ _ y2 hr;unfold locked at hlk;rw[y2,hk]at hlk;rcases o with _|s'
     .cases hlk
     .cases s' with
      |val v=>cases hlk
      |own l=>cases hlk
      |bor l=>obtain⟨m,es,e,_,k1,k2⟩:=sr;cases e;exact⟨m,es,l,_,rfl,k1,k2,rfl,rfl⟩
      |ro l=>obtain⟨m,es,e,_,k1,k2⟩:=sr;cases e;exact⟨m,es,l,_,rfl,k1,k2,rfl,rfl⟩
  simp only[Ev.pF,z];have hl':ds.length=fn.np:=by omega
  rw[xV hl'];split at e
  .rename_i v' af y;cases e;obtain⟨g',bK,M',h',S',c1,c2,c3,c4⟩:=fin y;simp only[gQ]at c2;obtain⟨d,rfl,c2⟩:=c2;exact⟨d,h',S',by simp only[Ev.endOf,c1,Ev.ak],c2,c3,c4⟩
  .rename_i af y;cases e;obtain⟨g',bK,M',h',S',c1,c2,c3,c4⟩:=fin y;simp only[gQ]at c2;subst c2;exact⟨.aU,h',S',by simp only[Ev.endOf,c1,Ev.ak],rfl,c3,c4⟩
  .cases e
end Pv
namespace Pv
open Ev (D O Hh Fn)
def Hv{F:List Fn}{w n f:Nat}{ns:List Int}(e:run F w n f [.val (.bW (ns.map V.int))]=some (.bl true,[]))(hF:F.length<=1000:=by decide):∃h',Ev.run F w n f [.ref 0] [.bW (ns.map D.int)]=.ok (.bl true) h':=by
 have F0:bx (λ_=>False) (λ_=>False) [O.bW (ns.map D.int)] (λm=>m=0) ([Sl.val (.bW (ns.map V.int))].map some) ([D.ref 0].map some):=by
  refine⟨λm q=>⟨by subst q;simp,id,id⟩,λm q=>q.elim,λm q=>q.elim,rfl,λi o p y1 y2=>?_,λi j o o' m y1 y2 y3 y4 y5 y6=>?_⟩
  .cases i with
   |zero=>
    simp at y1 y2;subst y1 y2;refine⟨.ref 0,rfl,?_⟩;simp only[Rep];exact⟨0,_,rfl,rfl,rfl,aq.map (f:=V.int) (g:=D.int) (λ_=>by simp[Rep]) ns⟩
   |succ i=>simp at y1
  .cases i with
   |zero=>simp at y1;subst y1;cases y3
   |succ i=>simp at y1
 obtain⟨d,h',S',a,b,_,_⟩:=Bk F w n f _ _ _ e _ _ _ _ F0;simp only[Rep]at b;subst b;exact⟨h',a⟩
end Pv
namespace Pv
open Ev (D bh aZ TY BI ME T E Es Eo It S Ss Fn big deep b2i rep bL cY bu aK cut bU cH slots)
def bS{n:Nat}(h:n<=100000):n<=big:=WV h (by decide)
section
variable{i j:Int}{a b:List Nat}{x y:List V}{d e:V}{m n:Nat}{k l:Bool}
def dH(h:x.length<=big):ee x=some (.lst x):=by simp[ee,h]
def iZ(h:x.length<=big):gg x=some (.tup x):=by simp[gg,h]
@[simp] theorem iR:ee []=some (.lst []):=dH (bS (by simp))
@[simp] theorem O5:gg []=some (.tup []):=iZ (bS (by simp))
@[simp] theorem O6{a}:ee [a]=some (.lst [a]):=dH (bS (by simp))
@[simp] theorem pU{a}:gg [a]=some (.tup [a]):=iZ (bS (by simp))
@[simp] theorem O7{a b}:ee [a,b]=some (.lst [a,b]):=dH (bS (by simp))
@[simp] theorem nE{a b}:gg [a,b]=some (.tup [a,b]):=iZ (bS (by simp))
@[simp] theorem Fe{a b c}:gg [a,b,c]=some (.tup [a,b,c]):=iZ (bS (by simp))
@[simp] theorem bR:bN .add (.int i) (.int j)=some (.int (i+j)):=nd rfl
def uW(h:a.length+b.length<=100000):bN .add (.str a) (.str b)=some (.str (a++b)):=by delta bN;dsimp only;simp[bS h]
def Dl(h:x.length+y.length<=100000):bN .add (.tup x) (.tup y)=some (.tup (x++y)):=by delta bN;dsimp only;simp[bS h]
@[simp] theorem iH:bN .sub (.int i) (.int j)=some (.int (i - j)):=nd rfl
@[simp] theorem oW:bN .mul (.int i) (.int j)=if bL i j then some (.int (i*j))else none:=nd rfl
def Dm(h0:0<=j)(h1:j<=1000)(h2:a.length<=1000):bN .mul (.str a) (.int j)=some (.str (rep j.toNat a)):=by delta bN;dsimp only;simp[h0,h1,h2]
@[simp] theorem Dn:bN .fdiv (.int i) (.int j)=if 0<j/\j<1073741824 then some (.int (i / j))else none:=nd rfl
@[simp] theorem Hw:bN .mod (.int i) (.int j)=if 0<j then some (.int (i % j))else none:=nd rfl
@[simp] theorem jH:cop .ne d e=(dG deep d e).map (!·):=nd rfl
@[simp] theorem Bm:cop .gp d e=(isin d e).map (!·):=nd rfl
@[simp] theorem Hx:mem d []=some false:=nd rfl
@[simp] theorem mem_cons:mem d (e :: x)=(dG deep e d).bind λb=>(mem d x).bind λc=>some (b ||c):=nd rfl
@[simp] theorem Dp:cop .j4 .aU .aU=some false:=nd rfl
@[simp] theorem uX:cop .j4 (.int i) .aU=some true:=nd rfl
@[simp] theorem Bo:dG (n+1) (.int i) (.int j)=some (decide (i=j)):=by show some (i==j)=_;by_cases h:i=j<;>simp[h]
@[simp] theorem Bp:dG (n+1) (.str a) (.str b)=some (decide (a=b)):=by show some (a==b)=_;by_cases h:a=b<;>simp[h]
@[simp] theorem Vc:dG (n+1) (.str a) (.int i)=some false:=nd rfl
@[simp] theorem Vd:dG (n+1) (.int i) (.str a)=some false:=nd rfl
@[simp] theorem Ve:dG (n+1) (.tup x) (.tup y)=cD (dG n) x y:=nd rfl
@[simp] theorem nF:dG deep (.int i) (.int j)=some (decide (i=j)):=Bo
@[simp] theorem qV:dG deep (.str a) (.str b)=some (decide (a=b)):=Bp
@[simp] theorem Hy:dG deep (.tup x) (.tup y)=cD (dG (18+1)) x y:=nd rfl
@[simp] theorem nG:dG deep (.lst x) (.lst y)=cD (dG (18+1)) x y:=nd rfl
@[simp] theorem xN{f:V->V->Option Bool}:cD f [] []=some true:=nd rfl
@[simp] theorem Vf{f:V->V->Option Bool}:cD f [] (d :: x)=some false:=nd rfl
@[simp] theorem Vg{f:V->V->Option Bool}:cD f (d :: x) []=some false:=nd rfl
@[simp] theorem Tg{f:V->V->Option Bool}:cD f (d :: x) (e :: y)=(f d e).bind λb=>(cD f x y).bind λc=>some (b&&c):=nd rfl
theorem nH{α:Type}[DecidableEq α]{f:V->V->Option Bool}{g:α->V}(h:∀a b,f (g a) (g b)=some (decide (a=b))):∀l m:List α,cD f (l.map g) (m.map g)=some (decide (l=m))
 |[],[]=>by simp
 |[],_ :: _=>by simp
 |_ :: _,[]=>by simp
 |a :: l,b :: m=>by simp[h,nH h l m]
@[simp] theorem kF:dg (.str a) (.int i)=(bu a i).map λc=>.str [c]:=nd rfl
@[simp] theorem nI:dg (.lst x) (.int i)=bu x i:=nd rfl
@[simp] theorem iI{lo hi:Option Int}:gf (.str a) lo hi=some (.str (cut a lo hi)):=nd rfl
def XX(h:a.length<=100000):cK .len [.str a]=some (.int a.length):=by delta cK;dsimp only;simp[bS h]
@[simp] theorem Hz:cK .len [.lst x]=some (.int x.length):=nd rfl
@[simp] theorem xO:cK .len [.bW x]=some (.int x.length):=nd rfl
@[simp] theorem xP:cK .sum [.lst x]=(intsOf x).map λis=>.int is.sum:=nd rfl
@[simp] theorem L5:cK .min [.int i,.int j]=some (.int (if j<i then j else i)):=nd rfl
@[simp] theorem HA:toT (.lst x)=gg x:=nd rfl
def L6(h0:0<=j)(h1:j<=100000):eG [.int j]=some (range 0 j.toNat):=by
 simp only[eG];rw[xV ⟨by omega,by omega⟩]
def jq{α:Type}(g:α->Int)(l:List α):intsOf (l.map λx=>.int (g x))=some (l.map g):=by induction l<;>simp[intsOf, *]
def pV{α:Type}(g:α->List Nat)(l:List α):strsOf (l.map λx=>.str (g x))=some (l.map g):=by induction l<;>simp[strsOf, *]
theorem sM:∀l:List (List Nat),bU [] l=l.flatten
 |[]=>rfl
 |[s]=>by simp[bU]
 |s :: t :: r=>by simp[bU,sM (t :: r)]
@[simp] theorem Vh:truthy (.bl k)=k:=nd rfl
@[simp] theorem Up:truthy (.lst x) = !x.isEmpty:=nd rfl
def Ff{l:List (List Nat)}(h:l.flatten.length<=100000):eV .join (.str []) [.lst (l.map V.str)]=some (.str l.flatten):=by
 have hs:=pV (λx=>x) l;have:(l.map (·.length)).sum<=big:=bS (by rw[<-List.length_flatten];exact h);simp only[List.map_id']at hs;have hs':strsOf (l.map V.str)=some l:=by simpa using pV (λx=>x) l
 delta eV;dsimp only;simp[oz,hs',sM,this]
end
def eW{α:Type}{f:V->Option (Option V)}(e:α->V)(g:α->V)(l:List α)(h:∀a∈l,f (e a)=some (some (g a))):bV f (l.map e)=some (l.map g):=by
 induction l with
 |nil=>rfl
 |cons a l ih=>simp only[WO,bV,h a (by simp),ih λu hu=>h u (by simp[hu]),Option.bind];rfl
def mU{α:Type}{f:V->Option (Option V)}(e:α->V)(p:α->Bool)(g:α->V)(l:List α)(h:∀a∈l,f (e a)=some (if p a then some (g a)else none)):bV f (l.map e)=some ((l.filter p).map g):=by
 induction l with
 |nil=>rfl
 |cons a l ih=>
  simp only[WO,bV,h a (by simp),ih λu hu=>h u (by simp[hu]),Option.bind];cases z:p a<;>simp[z]
noncomputable def Wp{α:Type}(r:R α)(Q:α->Fr->Prop):Prop:=∃a h,r=.ok a h/\Q a h
section
variable{α β:Type}{Q Q':α->Fr->Prop}
@[simp] theorem pW(a:α)(h:Fr):Wp (.ok a h) Q=Q a h:=propext ⟨λ⟨_,_,e,q⟩=>by cases e;exact q,λq=>⟨_,_,rfl,q⟩⟩
@[simp] theorem Vi:Wp (.bad:R α) Q=False:=propext ⟨λq=>(by obtain⟨_,_,e,_⟩:=q;cases e),False.elim⟩
@[simp] theorem wp_bind(r:R β)(f:β->Fr->R α):Wp (r.bind f) Q=Wp r λa h=>Wp (f a h) Q:=by cases r<;>simp
def Wp.mono{r:R α}(h:Wp r Q)(f:∀a h,Q a h->Q' a h):Wp r Q':=by
 obtain⟨a,h',e,q⟩:=h;exact⟨a,h',e,f a h' q⟩
end
noncomputable def fl(I Q:Fr->Prop)(X:V->Fr->Prop):Fl->Fr->Prop
 |.nx,fr=>I fr
 |.ct,fr=>I fr
 |.bk,fr=>Q fr
 |.ret v,fr=>X v fr
section
variable{I J:Fr->Prop}{X:V->Fr->Prop}{fr:Fr}
@[simp] theorem dU:fl I J X .nx fr=I fr:=nd rfl
end
theorem fV{α:Type}{e:α->V}{f:V->Fr->R Fl}{Q:Fl->Fr->Prop}(I:List α->List α->Fr->Prop)(turn:∀p a l fr,I p (a :: l) fr->Wp (f (e a) fr) (fl (I (p++[a]) l) (Q .nx) λv=>Q (.ret v)))(fin:∀p fr,I p [] fr->Q .nx fr):∀(l p:List α) (fr:Fr),I p l fr->Wp (forL f (l.map e) fr) Q
 |[],p,fr,i=>by simp only[Y4,forL,pW];exact fin p fr i
 |a :: l,p,fr,i=>by
  simp only[WO,forL,wp_bind];refine(turn p a l fr i).mono λg h2 q=>?_;cases g with
  |nx=>exact fV I turn fin l _ h2 q
  |ct=>exact fV I turn fin l _ h2 q
  |bk=>exact(pW _ _).mpr q
  |ret x=>exact(pW _ _).mpr q
def HB{f:V->Fr->R Fl}{Q:Fl->Fr->Prop}{lo:Int}{N:Nat}(I:Nat->Fr->Prop)(turn:∀(k:Nat) fr,k<N->I k fr->Wp (f (.int (lo+(k:Nat))) fr) (fl (I (k+1)) (Q .nx) λv=>Q (.ret v)))(fin:∀fr,I N fr->Q .nx fr){fr:Fr}(i:I 0 fr):Wp (forL f (range lo N) fr) Q:=by
 have h:=fV (e:=λ(k:Nat)=>V.int (lo+k)) (f:=f) (Q:=Q) (λp l fr=>∃k,k<=N/\p=List.range k/\p++l=List.range N/\I k fr)
  (λp a l fr ⟨k,hk,hp,hl,q⟩=>by
   subst hp;have hlen:=WT List.length hl;simp at hlen;have ha:a=k:=by
    have:=WT (·[k]?) hl;simp[Xg]at this;rw[X5 (by omega)]at this;simpa using this
   subst ha;refine(turn a fr (by omega) q).mono λg h2 z=>?_;cases g with
   |nx=>exact⟨a+1,by omega,by simp[Ys],by simpa using hl,z⟩
   |ct=>exact⟨a+1,by omega,by simp[Ys],by simpa using hl,z⟩
   |bk=>exact z
   |ret x=>exact z)
  (λp fr ⟨k,hk,hp,hl,q⟩=>by
   subst hp;have hlen:=WT List.length hl;simp at hlen;subst hlen;exact fin fr q) (List.range N) [] fr ⟨0,Xd _,rfl,by simp,i⟩
 exact h
theorem uY{t:Fr->R Bool}{f:Fr->R Fl}{Q:Fl->Fr->Prop}(I:Nat->Fr->Prop)(turn:∀k fr,I k fr->Wp (t fr) λb af=>if b then Wp (f af) (fl (λao=>∃j,j<k/\I j ao) (Q .nx) λv=>Q (.ret v))else Q .nx af):∀(n k:Nat) (fr:Fr),k<n->I k fr->Wp (dM t f n fr) Q
 |0,k,fr,hk,_=>by omega
 |n+1,k,fr,hk,i=>by
  simp only[dM,wp_bind];refine(turn k fr i).mono λb af q=>?_;cases b with
  |false=>simpa using q
  |true=>
   simp only[Xa,wp_bind]at q ⊢;refine q.mono λg ao z=>?_;cases g with
   |nx=>obtain⟨j,hj,z⟩:=z;exact uY I turn n j ao (by omega) z
   |ct=>obtain⟨j,hj,z⟩:=z;exact uY I turn n j ao (by omega) z
   |bk=>exact(pW _ _).mpr z
   |ret x=>exact(pW _ _).mpr z
noncomputable def fin(fn:Fn)(ds:List Sl):R Fl->Option (V×List (List V))
 |.ok (.ret v) fr=>some (v,outs fn.np fr)
 |.ok .nx fr=>some (.aU,outs fn.np fr)
 |_=>Lv fn ds
def run_eq{F:List Fn}{w n f:Nat}{ds:List Sl}{fn:Fn}(hf:F[f]?=some fn)(hl:ds.length=fn.np):run F w (n+1) f ds=fin fn ds (exs (run F w n) w fn.body (eE fn ds)):=by
 simp only[pF,hf,hl,Xa];cases exs (run F w n) w fn.body (eE fn ds)with
 |bad=>rfl
 |ok g fr=>cases g<;>rfl
def cy{F:List Fn}{w n f:Nat}{ds:List Sl}{fn:Fn}{v:V}{os:List (List V)}(hf:F[f]?=some fn)(hl:ds.length=fn.np)(q:Wp (exs (run F w n) w fn.body (eE fn ds)) λg fr=>g=.ret v/\outs fn.np fr=os):run F w (n+1) f ds=some (v,os):=by
 rw[run_eq hf hl];obtain⟨g,fr,e,rfl,rfl⟩:=q;rw[e];rfl
section
variable{P:aL}{w:Nat}{fr:Fr}{k:Bool}{a b c:E}{es:Es}{ss sa sb:Ss}{st:S}{lo hi:Eo}{it:It}
@[simp] theorem Th{d:D}:ev P k (.c d) fr=R.of (ofD d) fr:=by rw[ev]
@[simp] theorem Ti{i:Nat}:ev P k (.v i) fr=R.of (qS k fr i) fr:=by rw[ev]
@[simp] theorem L7:ev P k (.tup es) fr=(bZ P false es fr).bind λds af=>R.of (gg ds) af:=by rw[ev]
@[simp] theorem L8:ev P k (.lst es) fr=(bZ P false es fr).bind λds af=>R.of (ee ds) af:=by rw[ev]
@[simp] theorem Ma{o:bh}:ev P k (.bin o a b) fr=(ev P (kf a (b5 b)) a fr).bind λx af=>(ev P true b af).bind λy ao=>R.of (bN o x y) ao:=by rw[ev]
@[simp] theorem Mb{o:aZ}:ev P k (.cmp o a b) fr=(ev P (kf a (b5 b)) a fr).bind λx af=>(ev P true b af).bind λy ao=>R.of ((cop o x y).map .bl) ao:=by rw[ev]
noncomputable def Vj:V->Fr->R V:=λx h1=>match x with
 |.bl b=>.ok (.bl (!b)) h1
 |_=>.bad
@[simp] theorem O8:ev P k (.nt a) fr=(ev P true a fr).bind Vj:=by rw[ev];rfl
noncomputable def Tj:V->Fr->R V:=λx h1=>match x with
 |.int i=>.ok (.int (-i)) h1
 |_=>.bad
@[simp] theorem Mc:ev P k (.neg a) fr=(ev P true a fr).bind Tj:=by rw[ev];rfl
noncomputable def Rn(r:Fr->R V):V->Fr->R V:=λx h1=>match x with
 |.bl true=>r h1
 |.bl false=>.ok (.bl false) h1
 |_=>.bad
@[simp] theorem Me{k:Bool}{r:Fr->R V}:Rn r (.bl k) fr=if k then r fr else .ok (.bl false) fr:=by cases k<;>rfl
@[simp] theorem O9:ev P k (.an a b) fr=(ev P true a fr).bind (Rn λh1=>ev P k b h1):=by rw[ev];rfl
@[simp] theorem Mf:ev P k (.lU a b c) fr=(aH P a fr).bind λt af=>if t then ev P k b af else ev P k c af:=by rw[ev]
@[simp] theorem Pa:ev P k (.ix a b) fr=(ev P (kf a (b5 b)) a fr).bind λx af=>(ev P true b af).bind λy ao=>R.of (dg x y) ao:=by rw[ev]
@[simp] theorem Pb:ev P k (.sl a lo hi) fr=(ev P (kf a (j7 lo++j7 hi)) a fr).bind λx af=>(fz P lo af).bind λl ao=>(fz P hi ao).bind λu cG=>R.of (gf x l u) cG:=by rw[ev]
def Mg:ev P k (.lV a) fr=(ev P true a fr).bind λx af=>R.of (qR x) af:=by rw[ev]
@[simp] theorem Pc{f:Nat}:ev P k (.cl f es) fr=(fC P es fr).bind λas af=>gu P f as af:=by rw[ev]
@[simp] theorem Pd{g:BI}:ev P k (.bi g es) fr=(bZ P true es fr).bind λds af=>R.of (cK g ds) af:=by rw[ev]
noncomputable def Dq(m:ME)(i:Nat):List V->Fr->R V:=λds af=>match af[i]? with
 |some (some (.own l))=>match jS m l ds with
  |some (v,l')=>.ok v (af.set i (some (.own l')))
  |none=>.bad
 |some (some (.bor l))=>match jS m l ds with
  |some (v,l')=>.ok v (af.set i (some (.bor l')))
  |none=>.bad
 |_=>.bad
def Mh{m:ME}{i:Nat}(hm:iQ m=true):ev P k (.me m (.v i) es) fr=if (lent fr i).isSome then (bZ P (A5 m) es fr).bind (Dq m i)else .bad:=by
 rw[ev,xV hm];unfold ku;cases z:(lent fr i).isSome<;>simp[z]<;>rfl
def Mi{m:ME}(hm:iQ m=false):ev P k (.me m a es) fr=(ev P (kf a (fL es)) a fr).bind λx af=>(bZ P true es af).bind λds ao=>R.of (eV m x ds) ao:=by rw[ev,hm];rfl
noncomputable def fE(P:aL)(elt:E)(t:T)(cond:Eo)(fr:Fr):V->Option (Option V):=λd=>match cg t d (sJ fr)with
 |none=>none
 |some ao=>match g6 P cond ao with
  |.ok c _=>if c then (match ev P false elt ao with|.ok x _=>some (some x)|.bad=>none)else some none
  |.bad=>none
@[simp] theorem qG{elt:E}{t:T}{cond:Eo}:ev P k (.comp elt t it cond) fr=(cZ P true it fr).bind λs af=>if undef t af then R.of ((bV (fE P elt t cond af) s).bind ee) af else .bad:=by rw[ev];rfl
@[simp] theorem Mj:ev P k (.ji it) fr=(cZ P true it fr).bind λs af=>R.of (ee s) af:=by rw[ev]
@[simp] theorem HC{kvs:List (D×D)}:ev P k (.je kvs a) fr=(ev P true a fr).bind λx af=>R.of (eF x kvs) af:=by rw[ev]
@[simp] theorem Mk:ev P k (.gZ a) fr=(ev P true a fr).bind λx af=>R.of (toT x) af:=by rw[ev]
@[simp] theorem HD:bZ P k .nil fr=.ok [] fr:=by rw[bZ]
@[simp] theorem Dr:bZ P k (.cons a es) fr=(ev P (k&&kf a (fL es)) a fr).bind λd af=>(bZ P k es af).bind λds ao=>.ok (d :: ds) ao:=by rw[bZ]
@[simp] theorem HE:fC P .nil fr=.ok [] fr:=by rw[fC]
noncomputable def zb(P:aL)(a:E)(es:Es)(fr:Fr):Option Nat->R (List (Nat ⊕ V))
 |some i=>(fC P es fr).bind λr af=>.ok (.inl i :: r) af
 |none=>(ev P false a fr).bind λd af=>(fC P es af).bind λr ao=>.ok (.inr d :: r) ao
@[simp] theorem zc{i:Nat}:zb P a es fr (some i)=(fC P es fr).bind λr af=>.ok (.inl i :: r) af:=nd rfl
@[simp] theorem zd:zb P a es fr none=(ev P false a fr).bind λd af=>(fC P es af).bind λr ao=>.ok (.inr d :: r) ao:=nd rfl
@[simp] theorem uZ:fC P (.cons a es) fr=zb P a es fr (ku fr a):=by rw[fC];cases ku fr a<;>rfl
@[simp] theorem Ml:fz P .no fr=.ok none fr:=by rw[fz]
@[simp] theorem HF:fz P (.yes a) fr=(ev P true a fr).bind λd af=>R.of ((intOf d).map some) af:=by rw[fz]
@[simp] theorem Mm:g6 P .no fr=.ok true fr:=by rw[g6]
@[simp] theorem HG:g6 P (.yes a) fr=aH P a fr:=by rw[g6]
@[simp] theorem Bq:aH P (.an a b) fr=(aH P a fr).bind λk af=>if k then aH P b af else .ok false af:=by rw[aH]
@[simp] theorem xQ:aH P (.orr a b) fr=(aH P a fr).bind λk af=>if k then .ok true af else aH P b af:=by rw[aH]
@[simp] theorem Mn:aH P (.nt a) fr=(aH P a fr).bind λk af=>.ok (!k) af:=by rw[aH]
noncomputable def Mp:V->Fr->R Bool:=λx af=>.ok (truthy x) af
@[simp] theorem HH{x:V}:Mp x fr=.ok (truthy x) fr:=nd rfl
@[simp] theorem HJ:cZ P k (.seq a) fr=(src k fr a (ev P k a fr)).bind λx af=>R.of (fU x) af:=by rw[cZ]
@[simp] theorem HK:cZ P k (.fH es) fr=(bZ P true es fr).bind λds af=>R.of (eG ds) af:=by rw[cZ]
@[simp] theorem HL:cZ P k (.rev a) fr=(ev P true a fr).bind λx af=>R.of ((yY x).map λs=>s.reverse) af:=by rw[cZ]
noncomputable def Mq(i:Nat)(af:Fr):V->R Fl
 |.lst l=>(R.of (put af i (.own l)) af).bind λao _=>.ok .nx ao
 |_=>.bad
@[simp] theorem Ds{i:Nat}{l:List V}:Mq i fr (.lst l)=(R.of (put fr i (.own l)) fr).bind λao _=>.ok .nx ao:=nd rfl
@[simp] theorem Br{i:Nat}:ex P w (.set i a) fr=(ev P false a fr).bind λx af=>if isNew a then Mq i af x else (R.of (put af i (.val x)) af).bind λao _=>.ok .nx ao:=by
 rw[ex];rfl
@[simp] theorem Mr:ex P w (.exp a) fr=(ev P true a fr).bind λ_ af=>.ok .nx af:=by rw[ex]
@[simp] theorem Ms:ex P w (.ret a) fr=(ev P false a (gr fr)).bind λx af=>.ok (.ret x) af:=by rw[ex]
@[simp] theorem Mt:ex P w (.iff a sa sb) fr=(aH P a fr).bind λk af=>if k then exs P w sa af else exs P w sb af:=by rw[ex]
noncomputable def turnF(P:aL)(w:Nat)(t:T)(b:Ss):V->Fr->R Fl:=λd ao=>match cg t d ao with
 |some cG=>exs P w b cG
 |none=>.bad
@[simp] theorem uw{t:T}:ex P w (.for t it ss) fr=(cZ P false it (tG (itv it) fr)).bind λs af=>forL (turnF P w t ss) s af:=by rw[ex];rfl
@[simp] theorem Mu:ex P w (.nW a ss) fr=dM (λao=>aH P a ao) (λao=>exs P w ss ao) w fr:=by rw[ex]
@[simp] theorem HM:exs P w .nil fr=.ok .nx fr:=by rw[exs]
noncomputable def Pe(P:aL)(w:Nat)(ss:Ss):Fl->Fr->R Fl:=λp h1=>match p with
 |.nx=>exs P w ss h1
 |p=>.ok p h1
@[simp] theorem Dt:exs P w (.cons st ss) fr=(ex P w st fr).bind (Pe P w ss):=by rw[exs];rfl
end
def mV{P:aL}{f:Nat}{vs:List V}{fr:Fr}{v:V}(h:P f (vs.map .val)=some (v,[])):gu P f (vs.map .inr) fr=.ok v fr:=by
 have h1:∀vs:List V,bM (vs.map .inr)=[]:=λvs=>by induction vs<;>simp[bM, *]
 have h2:∀vs:List V,args fr (vs.map .inr)=some (vs.map .val):=λvs=>by induction vs<;>simp[args, *]
 simp[gu,h1,h2,h,back]
section
variable{P:aL}{f:Nat}{fr:Fr}{a b c v:V}
def dm(h:P f [.val a]=some (v,[])):gu P f [.inr a] fr=.ok v fr:=mV (vs:=[a]) h
def call2(h:P f [.val a,.val b]=some (v,[])):gu P f [.inr a,.inr b] fr=.ok v fr:=mV (vs:=[a,b]) h
def eH(h:P f [.val a,.val b,.val c]=some (v,[])):gu P f [.inr a,.inr b,.inr c] fr=.ok v fr:=mV (vs:=[a,b,c]) h
end
section
variable{fr:Fr}{i:Nat}{k:Bool}{s:Sl}{v:V}{l:List V}
noncomputable def VS(k:Bool):Option (Option Sl)->Option V
 |some (some (.val v))=>some v
 |some (some (.own l))=>if k then some (.lst l)else none
 |some (some (.bor l))=>if k then some (.lst l)else none
 |some (some (.ro l))=>if k then some (.lst l)else none
 |_=>none
@[simp] theorem Pf{r:R V}:src k fr (.v i) r=R.of (yZ k fr i) fr:=nd rfl
noncomputable def Mv:Option (Option Sl)->Option Sl
 |some (some s)=>s.lend
 |_=>none
@[simp] theorem HN:lent fr i=Mv fr[i]?:=by unfold lent Mv;split<;>simp_all
@[simp] theorem Uq:Mv (some (some (.own l)))=some (.bor l):=nd rfl
noncomputable def Mw(fr:Fr)(i:Nat)(s:Sl):Option (Option Sl)->Option Fr
 |some (some (.bor _))=>none
 |some (some (.ro _))=>none
 |_=>some (fr.set i (some s))
@[simp] theorem Mx:put fr i s=Mw fr i s fr[i]?:=by unfold put Mw;split<;>simp_all
@[simp] theorem ze{l:List Nat}{x:List V}:cg (.many l) (.tup x) fr=cJ l x fr:=nd rfl
@[simp] theorem zf:cJ [] [] fr=some fr:=nd rfl
@[simp] theorem vX{l:List Nat}{x:List V}:cJ (i :: l) (v :: x) fr=(put fr i (.val v)).bind (cJ l x):=nd rfl
noncomputable def gR(m:ME)(i:Nat)(ds:List V)(fr:Fr):Option (Option Sl)->R V
 |some (some (.own l))=>match jS m l ds with
  |some (v,l')=>.ok v (fr.set i (some (.own l')))
  |none=>.bad
 |some (some (.bor l))=>match jS m l ds with
  |some (v,l')=>.ok v (fr.set i (some (.bor l')))
  |none=>.bad
 |_=>.bad
@[simp] theorem HQ{m:ME}{ds:List V}:Dq m i ds fr=gR m i ds fr fr[i]?:=by unfold Dq gR;split<;>simp_all<;>rfl
def kG{d:V}(h:l.length<100000):gR .append i [d] fr (some (some (.own l)))=.ok .aU (fr.set i (some (.own (l++[d])))):=by
 simp[gR,jS,Rt h (show 100000<=big by decide)]
def HS{d:V}(h:l.length<100000):gR .append i [d] fr (some (some (.bor l)))=.ok .aU (fr.set i (some (.bor (l++[d])))):=by
 simp[gR,jS,Rt h (show 100000<=big by decide)]
def qW{d:List V}(h:l.length+d.length<=100000):gR .extend i [.lst d] fr (some (some (.own l)))=.ok .aU (fr.set i (some (.own (l++d)))):=by
 simp[gR,jS,bS h]
def HU:gR .pop i [] fr (some (some (.own (l++[v]))))=.ok v (fr.set i (some (.own l))):=by
 simp[gR,jS]
def HV:gR .pop i [] fr (some (some (.bor (l++[v]))))=.ok v (fr.set i (some (.bor l))):=by
 simp[gR,jS]
end
noncomputable def vo(o:Option Sl):Prop:=o=none\/∃y,o=some (.val y)
theorem vo.none:vo none:=.inl rfl
theorem vo.val{v:V}:vo (some (.val v)):=.inr ⟨v,rfl⟩
def My{fr:Fr}{i:Nat}{s:Sl}{b:Option Sl}(h:vo b):Mw fr i s (some b)=some (fr.set i (some s)):=by rcases h with rfl|⟨y,rfl⟩<;>rfl
def dY{b:Option Sl}(h:vo b):b.map Sl.gb=b:=by rcases h with rfl|⟨y,rfl⟩<;>rfl
noncomputable def Pg(f:V->Fr->R Fl)(ds:List V):Fl->Fr->R Fl:=λp af=>match p with
 |.nx=>forL f ds af
 |.ct=>forL f ds af
 |.bk=>.ok .nx af
 |.ret x=>.ok (.ret x) af
section
variable{f:V->Fr->R Fl}{ds:List V}{d:V}{fr:Fr}
@[simp] theorem se:forL f (d :: ds) fr=(f d fr).bind (Pg f ds):=nd rfl
end
def u0{α:Type}{l:List α}{i:Int}(h0:0<=i):bu l i=l[i.toNat]?:=by
 unfold bu cY;rw[xV h0];split
 .rfl
 .rw[W8 (by omega)];rfl
@[simp] theorem gI{α:Type}{l:List α}{n:Nat}:bu l (n:Int)=l[n]?:=by rw[u0 (by omega)];simp
def u5{α:Type}{l:List α}:bu l (-1:Int)=l.getLast?:=by
 unfold bu cY;cases l with
 |nil=>rfl
 |cons a l=>
  have h1:¬ (0:Int)<=-1:=by omega
  have h2:-(((a :: l).length:Nat):Int)<=-1:=by simp;omega
  rw[WQ h1,xV h2,List.getLast?_eq_getElem?];simp only[Option.bind]
  congr 1
  simp;omega
noncomputable def tL:Fn:=⟨2,2,(.cons (.iff (.cmp .eq (.v 0) (.lst .nil)) (.cons (.ret (.bin .mul (.c (.int 7)) (.v 1))) .nil) .nil) (.cons (.ret (.bin .add (.ix (.v 0) (.bin .mod (.v 1) (.bi .len (.cons (.v 0) .nil)))) (.bin .mul (.c (.int 6553)) (.bin .fdiv (.v 1) (.bi .len (.cons (.v 0) .nil)))))) .nil))⟩
noncomputable def u6(c:Nat):Fn:=⟨3,4,(.cons (.set 3 (.bin .mod (.bin .add (.bin .mul (.bin .mod (.cl c (.cons (.v 0) (.cons (.v 1) .nil))) (.c (.int 2147483563))) (.c (.int 69069))) (.bin .mul (.c (.int 104723)) (.bin .add (.v 1) (.c (.int 1))))) (.c (.int 2147483563)))) (.cons (.set 3 (.bin .mod (.bin .add (.bin .mul (.v 3) (.v 3)) (.bin .fdiv (.v 3) (.c (.int 3)))) (.c (.int 2147483399)))) (.cons (.ret (.bin .mod (.bin .fdiv (.bin .mod (.bin .add (.bin .mul (.v 3) (.v 3)) (.bin .fdiv (.v 3) (.c (.int 7)))) (.c (.int 2147483647))) (.c (.int 11))) (.v 2))) .nil)))⟩
noncomputable def tM(ns:List Int)(k:Int):Int:=if ns=[]then 7*k else (ns[(k % ns.length).toNat]?.getD 0)+6553*(k / ns.length)
noncomputable def cP(ns:List Int)(k many:Int):Int:=
 let c:=(tM ns k % 2147483563*69069+104723*(k+1)) % 2147483563
 let c:=(c*c+c / 3) % 2147483399
 (c*c+c / 7) % 2147483647 / 11 % many
def kH(ns:List Int)(k:Int){many:Int}(h:0<many):0<=cP ns k many:=Y8 _ (by omega)
def kI(ns:List Int)(k:Int){many:Int}(h:0<many):cP ns k many<many:=YG _ h
noncomputable def fF(ns:List Int):V:=.bW (ns.map V.int)
def HW(ns:List Int):cD (dG (18+1)) (ns.map V.int) []=some (decide (ns=[])):=by cases ns<;>simp
section
variable{P:aL}{w:Nat}{fr af ao cG:Fr}{k b:Bool}{a e c:E}{es:Es}{ss sa sb:Ss}{st:S}{lo hi:Eo}{it:It}{v x y z:V}{vs:List V}{i:Nat}{l:List V}{Q:Fl->Fr->Prop}
def aN{d:D}(h:ofD d=some v):ev P k (.c d) fr=.ok v fr:=by rw[Th,h];rfl
def au(h:qS k fr i=some v):ev P k (.v i) fr=.ok v fr:=by rw[Ti,h];rfl
def iu(h:bZ P false es fr=.ok vs af)(h2:gg vs=some v):ev P k (.tup es) fr=.ok v af:=by rw[L7,h,ak,h2];rfl
def jT(h:bZ P false es fr=.ok vs af)(h2:ee vs=some v):ev P k (.lst es) fr=.ok v af:=by rw[L8,h,ak,h2];rfl
def bz{o:bh}(h:ev P (kf a (b5 e)) a fr=.ok x af)(h2:ev P true e af=.ok y ao)(h3:bN o x y=some v):ev P k (.bin o a e) fr=.ok v ao:=by rw[Ma,h,ak,h2,ak,h3];rfl
def aR{o:aZ}(h:ev P (kf a (b5 e)) a fr=.ok x af)(h2:ev P true e af=.ok y ao)(h3:cop o x y=some b):ev P k (.cmp o a e) fr=.ok (.bl b) ao:=by rw[Mb,h,ak,h2,ak,h3];rfl
def To(h:ev P true a fr=.ok (.bl b) af):ev P k (.nt a) fr=.ok (.bl (!b)) af:=by rw[O8,h];rfl
def lB{j:Int}(h:ev P true a fr=.ok (.int j) af):ev P k (.neg a) fr=.ok (.int (-j)) af:=by rw[Mc,h];rfl
def Tp(h:ev P true a fr=.ok (.bl b) af)(h2:b=true->ev P k e af=.ok v ao)(h3:b=false->.bl false=v/\af=ao):ev P k (.an a e) fr=.ok v ao:=by
 rw[O9,h,ak,Me];cases b with
 |true=>exact h2 rfl
 |false=>obtain⟨rfl,rfl⟩:=h3 rfl;rfl
def Fi(h:aH P a fr=.ok b af)(h2:b=true->ev P k e af=.ok v ao)(h3:b=false->ev P k c af=.ok v ao):ev P k (.lU a e c) fr=.ok v ao:=by
 rw[Mf,h,ak];cases b with
 |true=>exact h2 rfl
 |false=>exact h3 rfl
def bT(h:ev P (kf a (b5 e)) a fr=.ok x af)(h2:ev P true e af=.ok y ao)(h3:dg x y=some v):ev P k (.ix a e) fr=.ok v ao:=by rw[Pa,h,ak,h2,ak,h3];rfl
def Du{p q:Option Int}(h:ev P (kf a (j7 lo++j7 hi)) a fr=.ok x af)(h2:fz P lo af=.ok p ao)(h3:fz P hi ao=.ok q cG)(h4:gf x p q=some v):ev P k (.sl a lo hi) fr=.ok v cG:=by rw[Pb,h,ak,h2,ak,h3,ak,h4];rfl
def Ph(h:ev P true a fr=.ok x af)(h2:qR x=some v):ev P k (.lV a) fr=.ok v af:=by rw[Mg,h,ak,h2];rfl
def b9{f:Nat}{as:List (Nat ⊕ V)}(h:fC P es fr=.ok as af)(h2:gu P f as af=.ok v ao):ev P k (.cl f es) fr=.ok v ao:=by rw[Pc,h,ak];exact h2
def cQ{g:BI}(h:bZ P true es fr=.ok vs af)(h2:cK g vs=some v):ev P k (.bi g es) fr=.ok v af:=by rw[Pd,h,ak,h2];rfl
def tN{m:ME}(hm:iQ m=true)(hl:(lent fr i).isSome=true)(h:bZ P (A5 m) es fr=.ok vs af)(h2:gR m i vs af af[i]?=.ok v ao):ev P k (.me m (.v i) es) fr=.ok v ao:=by
 rw[Mh hm,xV hl,h,ak,HQ];exact h2
def Fj{m:ME}(hm:iQ m=false)(h:ev P (kf a (fL es)) a fr=.ok x af)(h2:bZ P true es af=.ok vs ao)(h3:eV m x vs=some v):ev P k (.me m a es) fr=.ok v ao:=by rw[Mi hm,h,ak,h2,ak,h3];rfl
def ff{t:T}{cond:Eo}(h:cZ P true it fr=.ok vs af)(hu:undef t af=true)(h2:bV (fE P a t cond af) vs=some l)(h3:ee l=some v):ev P k (.comp a t it cond) fr=.ok v af:=by
 rw[qG,h,ak,xV hu,h2];show R.of (ee l) af=_;rw[h3];rfl
def Fp(h:cZ P true it fr=.ok vs af)(h2:ee vs=some v):ev P k (.ji it) fr=.ok v af:=by rw[Mj,h,ak,h2];rfl
def Bs{kvs:List (D×D)}(h:ev P true a fr=.ok x af)(h2:eF x kvs=some v):ev P k (.je kvs a) fr=.ok v af:=by rw[HC,h,ak,h2];rfl
def pX(h:ev P true a fr=.ok x af)(h2:toT x=some v):ev P k (.gZ a) fr=.ok v af:=by rw[Mk,h,ak,h2];rfl
def aI:bZ P k .nil fr=.ok [] fr:=HD
def aF(h:ev P (k&&kf a (fL es)) a fr=.ok v af)(h2:bZ P k es af=.ok vs ao):bZ P k (.cons a es) fr=.ok (v :: vs) ao:=by rw[Dr,h,ak,h2];rfl
def br:fC P .nil fr=.ok [] fr:=HE
def aX{as:List (Nat ⊕ V)}(hi:ku fr a=none)(h:ev P false a fr=.ok v af)(h2:fC P es af=.ok as ao):fC P (.cons a es) fr=.ok (.inr v :: as) ao:=by rw[uZ,hi,zd,h,ak,h2];rfl
def Tt{as:List (Nat ⊕ V)}(hi:ku fr a=some i)(h2:fC P es fr=.ok as ao):fC P (.cons a es) fr=.ok (.inl i :: as) ao:=by rw[uZ,hi,zc,h2];rfl
def Fq:fz P .no fr=.ok none fr:=Ml
def pY{j:Int}(h:ev P true a fr=.ok (.int j) af):fz P (.yes a) fr=.ok (some j) af:=by rw[HF,h];rfl
def mW(h:aH P a fr=.ok false af):aH P (.an a e) fr=.ok false af:=by rw[Bq,h];rfl
def fh{b2:Bool}(h:aH P a fr=.ok true af)(h2:aH P e af=.ok b2 ao):aH P (.an a e) fr=.ok b2 ao:=by rw[Bq,h];exact h2
def pZ(h:aH P a fr=.ok true af):aH P (.orr a e) fr=.ok true af:=by rw[xQ,h];rfl
def dO{b2:Bool}(h:aH P a fr=.ok false af)(h2:aH P e af=.ok b2 ao):aH P (.orr a e) fr=.ok b2 ao:=by rw[xQ,h];exact h2
def zg(h:aH P a fr=.ok b af):aH P (.nt a) fr=.ok (!b) af:=by rw[Mn,h];rfl
noncomputable def plainT:E->Bool
 |.an _ _=>false
 |.orr _ _=>false
 |.nt _=>false
 |_=>true
def ay(hp:plainT a=true)(h:ev P true a fr=.ok x af)(h2:truthy x=b):aH P a fr=.ok b af:=by
 have:aH P a fr=(ev P true a fr).bind Mp:=by
  cases a<;>first | (cases hp;done) | (rw[aH];rfl;all_goals (intros;contradiction))
 rw[this,h,ak,HH,h2]
def fO(h:src k fr a (ev P k a fr)=.ok x af)(h2:fU x=some vs):cZ P k (.seq a) fr=.ok vs af:=by rw[HJ,h,ak,h2];rfl
def fj(h:yZ k fr i=some v){r:R V}:src k fr (.v i) r=.ok v fr:=by rw[Pf,h];rfl
def ja(h:bZ P true es fr=.ok vs af)(h2:eG vs=some l):cZ P k (.fH es) fr=.ok l af:=by rw[HK,h,ak,h2];rfl
def Mz(h:ev P true a fr=.ok x af)(h2:yY x=some vs):cZ P k (.rev a) fr=.ok vs.reverse af:=by rw[HL,h,ak,h2];rfl
def aW(h:ev P false a fr=.ok v af)(hn:isNew a=false)(hp:put af i (.val v)=some ao)(q:Q .nx ao):Wp (ex P w (.set i a) fr) Q:=by
 rw[Br,h,ak,hn,hp];exact⟨_,_,rfl,q⟩
def jI(h:ev P false a fr=.ok (.lst l) af)(hn:isNew a=true)(hp:put af i (.own l)=some ao)(q:Q .nx ao):Wp (ex P w (.set i a) fr) Q:=by
 rw[Br,h,ak,hn,xV rfl,Ds,hp];exact⟨_,_,rfl,q⟩
def fW(h:ev P true a fr=.ok v af)(q:Q .nx af):Wp (ex P w (.exp a) fr) Q:=by rw[Mr,h];exact⟨_,_,rfl,q⟩
def b8(h:ev P false a (gr fr)=.ok v af)(q:Q (.ret v) af):Wp (ex P w (.ret a) fr) Q:=by rw[Ms,h];exact⟨_,_,rfl,q⟩
def aP(h:aH P a fr=.ok b af)(h2:b=true->Wp (exs P w sa af) Q)(h3:b=false->Wp (exs P w sb af) Q):Wp (ex P w (.iff a sa sb) fr) Q:=by
 rw[Mt,h,ak];cases b with
 |true=>exact h2 rfl
 |false=>exact h3 rfl
def aC(q:Q .nx fr):Wp (exs P w .nil fr) Q:=by rw[HM];exact⟨_,_,rfl,q⟩
noncomputable def nx(P:aL)(w:Nat)(ss:Ss)(Q:Fl->Fr->Prop):Fl->Fr->Prop
 |.nx,fr=>Wp (exs P w ss fr) Q
 |g,fr=>Q g fr
def ai(q:Wp (ex P w st fr) (nx P w ss Q)):Wp (exs P w (.cons st ss) fr) Q:=by
 rw[Dt,wp_bind];refine q.mono λg af z=>?_;cases g with
 |nx=>exact z
 |bk=>exact⟨_,_,rfl,z⟩
 |ct=>exact⟨_,_,rfl,z⟩
 |ret v=>exact⟨_,_,rfl,z⟩
def lD{t:T}(h:cZ P false it (tG (itv it) fr)=.ok vs af)(q:Wp (forL (turnF P w t ss) vs af) Q):Wp (ex P w (.for t it ss) fr) Q:=by rw[uw,h,ak];exact q
def Pj(q:Wp (dM (λao=>aH P a ao) (λao=>exs P w ss ao) w fr) Q):Wp (ex P w (.nW a ss) fr) Q:=by rw[Mu];exact q
def dI{t:T}{d:V}(hb:cg t d fr=some af)(q:Wp (exs P w ss af) Q):Wp (turnF P w t ss d fr) Q:=by unfold turnF;rw[hb];exact q
def jb{t:T}{d:V}(hb:cg t d (sJ fr)=some af)(h:ev P false a af=.ok v ao):fE P a t .no fr d=some (some v):=by
 unfold fE;rw[hb];dsimp only;rw[Mm];dsimp only;rw[h];rfl
def kJ{t:T}{d:V}(hb:cg t d (sJ fr)=some af)(h:aH P c af=.ok b ao)(h2:b=true->ev P false a af=.ok v cG):fE P a t (.yes c) fr d=some (if b then some v else none):=by
 unfold fE;rw[hb];dsimp only;rw[HG,h];dsimp only;cases b with
 |true=>rw[h2 rfl];rfl
 |false=>rfl
def eX{p q:List Nat}:cop .eq (.str p) (.str q)=some (decide (p=q)):=qV
def fG{p q:List Nat}:cop .ne (.str p) (.str q)=some (!decide (p=q)):=by rw[jH,qV];rfl
def Dv{p q:Int}:cop .eq (.int p) (.int q)=some (decide (p=q)):=nF
def Ft{p q:Int}:cop .ne (.int p) (.int q)=some (!decide (p=q)):=by rw[jH,nF];rfl
def Dw{p q:Int}:cop .lt (.int p) (.int q)=some (decide (p<q)):=rfl
def mX{p q:Int}:cop .gt (.int p) (.int q)=some (decide (q<p)):=rfl
def nJ{p q:Int}(h:bL p q=true):bN .mul (.int p) (.int q)=some (.int (p*q)):=by rw[oW,xV h]
def nK{p q:Int}(h:0<q):bN .mod (.int p) (.int q)=some (.int (p % q)):=by rw[Hw,xV h]
def tO{p q:Int}(h:0<q)(h2:q<1073741824):bN .fdiv (.int p) (.int q)=some (.int (p / q)):=by rw[Dn,xV ⟨h,h2⟩]
end
def gi{fr:Fr}{i:Nat}{s:Sl}{o:Option Sl}(e:fr[i]?=some o)(h:vo o):put fr i s=some (fr.set i (some s)):=by rw[Mx,e,My h]
def jr{fr:Fr}{i j:Nat}{u v:V}{a b:Option Sl}(ea:fr[i]?=some a)(ha:vo a)(eb:(fr.set i (some (.val u)))[j]?=some b)(hb:vo b):cg (.many [i,j]) (.tup [u,v]) fr=some ((fr.set i (some (.val u))).set j (some (.val v))):=by
 simp only[ze,vX,zf,gi ea ha,Option.bind,gi eb hb]
def bind1{fr:Fr}{i:Nat}{v:V}{a:Option Sl}(ea:fr[i]?=some a)(ha:vo a):cg (.one i) v fr=some (fr.set i (some (.val v))):=gi ea ha
end Pv
local macro_rules|`(tactic|array_get_dec)=>`(tactic|first
 |exact Pv.aI|exact Pv.br|exact Pv.Fq
 | (apply Pv.au;rfl) | (apply Pv.aN;rfl)|apply Pv.bz|apply Pv.aR|apply Pv.iu|apply Pv.jT|apply Pv.bT|apply Pv.Du|apply Pv.b9|apply Pv.cQ
 |apply Pv.To|apply Pv.lB|apply Pv.pX|apply Pv.Fp  | (apply Pv.tN rfl rfl) | (apply Pv.Fj rfl)|apply Pv.Bs
 |apply Pv.aF | (apply Pv.aX rfl) | (apply Pv.Tt rfl)|apply Pv.pY|apply Pv.zg|apply Pv.ay rfl
 |exact Pv.O5|exact Pv.pU|exact Pv.nE|exact Pv.Fe|exact Pv.iR|exact Pv.O6|exact Pv.O7
 | (with_reducible assumption)|exact Pv.bR|exact Pv.iH|exact Pv.eX|exact Pv.fG|exact Pv.Dv|exact Pv.Ft|exact Pv.Dw  | exact Pv.mX
 | (show Pv.truthy _=_;rfl) | (show Pv.dg _ _=some _;rfl) | (show Pv.toT _=some _;rfl) | (show Pv.eF _ _=some _;rfl) | (show Pv.fU _=some _;rfl)|assumption)
namespace Pv
open Ev (D bh aZ TY BI ME T E Es Eo It S Ss Fn big deep b2i rep bL cY bu aK cut bU cH slots)
def MA(a b:Int):bL (a % 2147483563) b=true:=by have h1:=Y8 a (b:=2147483563) (by decide);have h2:=YG a (b:=2147483563) (by decide);simp[bL];omega
def Tu(a b:Int):bL (a % 2147483399) b=true:=by have h1:=Y8 a (b:=2147483399) (by decide);have h2:=YG a (b:=2147483399) (by decide);simp[bL];omega
def MB{l:List V}{j:Int}{v:V}(h:bu l j=some v):dg (.bW l) (.int j)=some v:=h
def MC{l m:List V}:cop .eq (.bW l) (.lst m)=cD (dG (18+1)) l m:=rfl
def Dy{F:List Fn}{w n c:Nat}(hc:F[c]?=some tL){ns:List Int}(hn:ns.length<=63)(k:Int):run F w (n+1) c [.val (fF ns),.val (.int k)]=some (.int (tM ns k),[]):=by
 refine cy hc rfl (ai (aP (b:=decide (ns=[])) (ay rfl (aR (au rfl) (jT aI iR) (MC.trans (HW ns))) rfl) (λh=>?_) λh=>aC ?_))
 .have h0:=Xh h;exact ai (b8 (bz (aN rfl) (au rfl) (nJ rfl)) ⟨by rw[tM,xV h0],rfl⟩)
 .have h0:=Yd h;have hlen:0<ns.length:=List.length_pos_iff.mpr h0;have Ro:(0:Int)<(ns.map V.int).length:=by rw[W6];exact Int.natCast_pos.mpr hlen
  have h30:((ns.map V.int).length:Int)<1073741824:=by rw[W6];omega
  have hm0:=Y8 k (b:=(ns.length:Int)) (by omega);have hlt:(k % (ns.length:Int)).toNat<ns.length:=by have:=YG k (b:=(ns.length:Int)) (by omega);omega
  have hx:bu (ns.map V.int) (k % ((ns.map V.int).length:Int))=some (.int (ns[(k % (ns.length:Int)).toNat]?.getD 0)):=by
   rw[W6,u0 hm0,WX,MZ hlt];rfl
  refine ai (b8 (bz (bT (au rfl) (bz (au rfl) (cQ (aF (au rfl) aI) xO) (nK Ro)) (MB hx)) (bz (aN rfl) (bz (au rfl) (cQ (aF (au rfl) aI) xO) (tO Ro h30)) (nJ rfl)) bR) ⟨?_,rfl⟩);rw[tM,WQ h0,W6]
def gS{F:List Fn}{w n c dr:Nat}(hc:F[c]?=some tL)(hd:F[dr]?=some (u6 c)){ns:List Int}(hn:ns.length<=63)(k:Int){many:Int}(hm:0<many):run F w (n+2) dr [.val (fF ns),.val (.int k),.val (.int many)]=some (.int (cP ns k many),[]):=by
 refine cy hd rfl (ai (aW (bz (bz (bz (bz (b9 (aX rfl (au rfl) (aX rfl (au rfl) br)) (call2 (Dy hc hn k))) (aN rfl) (nK (by decide))) (aN rfl) (nJ (MA _ _))) (bz (aN rfl) (bz (au rfl) (aN rfl) bR) (nJ rfl)) bR) (aN rfl) (nK (by decide))) rfl rfl ?_));refine ai (aW (bz (bz (bz (au rfl) (au rfl) (nJ (MA _ _))) (bz (au rfl) (aN rfl) (tO (by decide) (by decide))) bR) (aN rfl) (nK (by decide))) rfl rfl ?_);exact ai (b8 (bz (bz (bz (bz (bz (au rfl) (au rfl) (nJ (Tu _ _))) (bz (au rfl) (aN rfl) (tO (by decide) (by decide))) bR) (aN rfl) (nK (by decide))) (aN rfl) (tO (by decide) (by decide))) (au rfl) (nK hm)) ⟨rfl,rfl⟩)
noncomputable def fText(dr:Nat):Fn:=⟨3,4,(.cons (.ret (.me .join (.c (.str [])) (.cons (.comp (.ix (.c (.str [97,98,99,32])) (.cl dr (.cons (.v 0) (.cons (.bin .add (.bin .add (.v 1) (.c (.int 1))) (.v 3)) (.cons (.c (.int 4)) .nil))))) (.one 3) (.fH (.cons (.cl dr (.cons (.v 0) (.cons (.v 1) (.cons (.bin .add (.v 2) (.c (.int 1))) .nil)))) .nil)) .no) .nil))) .nil)⟩
noncomputable def Fv(dr:Nat):S:=.iff (.cmp .eq (.cl dr (.cons (.v 0) (.cons (.bin .add (.v 1) (.bin .mul (.c (.int 4)) (.v 4))) (.cons (.c (.int 4)) .nil)))) (.c (.int 0))) (.cons (.set 5 (.bin .mul (.ix (.c (.str [97,98,122])) (.cl dr (.cons (.v 0) (.cons (.bin .add (.bin .add (.v 1) (.bin .mul (.c (.int 4)) (.v 4))) (.c (.int 1))) (.cons (.c (.int 3)) .nil))))) (.bin .add (.c (.int 1)) (.cl dr (.cons (.v 0) (.cons (.bin .add (.bin .add (.v 1) (.bin .mul (.c (.int 4)) (.v 4))) (.c (.int 2))) (.cons (.c (.int 2)) .nil))))))) (.cons (.set 3 (.bin .add (.v 3) (.tup (.cons (.tup (.cons (.c (.str [112,117,116])) (.cons (.v 5) .nil))) .nil)))) .nil)) .nil
noncomputable def Fw(dr:Nat):S:=.iff (.cmp .lt (.v 4) (.bi .len (.cons (.v 2) .nil))) (.cons (.set 6 (.cmp .gt (.cl dr (.cons (.v 0) (.cons (.bin .add (.bin .add (.v 1) (.bin .mul (.c (.int 4)) (.v 4))) (.c (.int 3))) (.cons (.c (.int 3)) .nil)))) (.c (.int 0)))) (.cons (.set 3 (.bin .add (.v 3) (.tup (.cons (.lU (.v 6) (.tup (.cons (.c (.str [107,101,101,112])) (.cons (.c (.int 1)) .nil))) (.tup (.cons (.c (.str [100,114,111,112])) (.cons (.ix (.v 2) (.v 4)) .nil)))) .nil)))) .nil)) .nil
noncomputable def HX(dr:Nat):Fn:=⟨3,7,(.cons (.set 3 (.tup .nil)) (.cons (.for (.one 4) (.fH (.cons (.bin .add (.bi .len (.cons (.v 2) .nil)) (.c (.int 1))) .nil)) (.cons (Fv dr) (.cons (Fw dr) .nil))) (.cons (.ret (.v 3)) .nil)))⟩
inductive Pt where
 |keep (n:Nat)|put (s:List Nat)|drop (s:List Nat)
deriving DecidableEq
noncomputable def bY:List Nat:=[107,101,101,112]
noncomputable def iw:List Nat:=[112,117,116]
noncomputable def fX:List Nat:=[100,114,111,112]
noncomputable def Pt.v:Pt->V
 |.keep n=>.tup [.str bY,.int n]
 |.put s=>.tup [.str iw,.str s]
 |.drop s=>.tup [.str fX,.str s]
noncomputable def aJ(c:List Pt):V:=.tup (c.map Pt.v)
def MD(n:Nat)(a b:Pt):dG (n+2) a.v b.v=some (decide (a=b)):=by
 cases a<;>cases b<;>simp[Pt.v,bY,iw,fX]
 all_goals omega
def Bt(a b:List Pt):dG deep (aJ a) (aJ b)=some (decide (a=b)):=by
 simp only[aJ,Hy];exact nH (λa b=>MD 17 a b) a b
noncomputable def txt(ns:List Int)(at_ most:Int):List Nat:=(List.range (cP ns at_ (most+1)).toNat).map λ(k:Nat)=>[97,98,99,32].getD (cP ns (at_+1+k) 4).toNat 0
def HY(ns:List Int)(at_:Int){most:Int}(h:0<=most):(txt ns at_ most).length<=most.toNat:=by
 unfold txt;have h1:=kI ns at_ (many:=most+1) (by omega);have h2:=kH ns at_ (many:=most+1) (by omega);simp;omega
def getD_at{α:Type}{l:List α}{i:Int}(h0:0<=i)(h1:i<l.length)(d:α):bu l i=some (l.getD i.toNat d):=by
 have:i.toNat<l.length:=by omega
 rw[u0 h0];simp[List.getD,MZ this]
def oB{α β:Type}(l:List α)(f:α->β):(l.map λx=>[f x]).flatten=l.map f:=by induction l<;>simp[*]
def sN(lo:Int)(n:Nat):range lo n=(List.range n).map λ(i:Nat)=>V.int (lo+i):=rfl
section
variable{F:List Fn}{w n c dr t:Nat}(hc:F[c]?=some tL)(hd:F[dr]?=some (u6 c)){ns:List Int}(hn:ns.length<=63)
include hc hd hn
theorem Dz(ht:F[t]?=some (fText dr))(k most:Int)(hm:0<=most)(hm2:most<=1000):run F w (n+3) t [.val (fF ns),.val (.int k),.val (.int most)]=some (.str (txt ns k most),[]):=by
 have b0:=kH ns k (many:=most+1) (by omega);have b1:=kI ns k (many:=most+1) (by omega);have d0:=λfr=>eH (fr:=fr) (gS (w:=w) (n:=n) hc hd hn k (many:=most+1) (by omega));have Pk:bV (fE (run F w (n+2)) (.ix (.c (.str [97,98,99,32])) (.cl dr (.cons (.v 0) (.cons (.bin .add (.bin .add (.v 1) (.c (.int 1))) (.v 3)) (.cons (.c (.int 4)) .nil))))) (.one 3) .no [some (.val (fF ns)),some (.val (.int k)),some (.val (.int most)),none]) (range 0 (cP ns k (most+1)).toNat)=some (((List.range (cP ns k (most+1)).toNat).map λ(j:Nat)=>[[97,98,99,32].getD (cP ns (k+1+j) 4).toNat 0]).map V.str):=by
  rw[sN,XS];refine eW _ _ _ λj _=>?_;have d1:=λfr=>eH (fr:=fr) (gS (w:=w) (n:=n) hc hd hn (k+1+j) (many:=4) (by decide));have ix:dg (.str [97,98,99,32]) (.int (cP ns (k+1+j) 4))=some (.str [[97,98,99,32].getD (cP ns (k+1+j) 4).toNat 0]):=by
   rw[kF,getD_at (l:=[97,98,99,32]) (kH ns (k+1+j) (many:=4) (by decide)) (kI ns (k+1+j) (many:=4) (by decide)) 0];rfl
  rw[show(0:Int)+(j:Int)=j from aah _];exact jb rfl (by (repeat (first|array_get_dec|exact d1 _)))
 have hj:=Ff (l:=(List.range (cP ns k (most+1)).toNat).map λ(j:Nat)=>[[97,98,99,32].getD (cP ns (k+1+j) 4).toNat 0]) (by rw[oB];simp;omega);rw[oB]at hj;have Vk:ee (((List.range (cP ns k (most+1)).toNat).map λ(j:Nat)=>[[97,98,99,32].getD (cP ns (k+1+j) 4).toNat 0]).map V.str)=some (.lst _):=dH (bS (by simp;omega));have rg:=L6 b0 (show cP ns k (most+1)<=100000 by omega);refine cy ht rfl (ai (b8 (Fj rfl (aN rfl) (aF (ff (ja (by (repeat (first|array_get_dec|exact d0 _))) rg) rfl Pk Vk) aI) hj) ⟨rfl,rfl⟩))
end
noncomputable def jt(ns:List Int)(at_:Int)(s:List Nat)(k:Nat):List Pt:=
 (if cP ns (at_+4*k) 4=0 then [.put (rep (1+cP ns (at_+4*k+2) 2).toNat [[97,98,122].getD (cP ns (at_+4*k+1) 3).toNat 0])]else [])++
 (match s[k]? with
 |some c=>[if 0<cP ns (at_+4*k+3) 3 then .keep 1 else .drop [c]]
 |none=>[])
noncomputable def eY(ns:List Int)(at_:Int)(s:List Nat)(k:Nat):List Pt:=(List.range k).flatMap (jt ns at_ s)
noncomputable def chg(ns:List Int)(at_:Int)(s:List Nat):List Pt:=eY ns at_ s (s.length+1)
def Bu(ns:List Int)(at_:Int)(s:List Nat)(k:Nat):(jt ns at_ s k).length<=2:=by
 unfold jt;split<;>split<;>simp
def ju(ns:List Int)(at_:Int)(s:List Nat)(k:Nat):eY ns at_ s (k+1)=eY ns at_ s k++jt ns at_ s k:=by simp[eY,Ys]
theorem mY(ns:List Int)(at_:Int)(s:List Nat):∀k,(eY ns at_ s k).length<=2*k
 |0=>by simp[eY]
 |k+1=>by
  have h1:=Bu ns at_ s k;have h2:=mY ns at_ s k;rw[ju,WN];omega
def MF(i:Int):bL 4 i=true:=by simp[bL]
def tP{a b:List Pt}(h:a.length+b.length<=100000):bN .add (aJ a) (aJ b)=some (aJ (a++b)):=by
 simp only[aJ];rw[Dl (by simpa using h)];simp
def MG{j:Int}{n:Nat}(h:n<=100000)(e:j=n):eG [.int j]=some (range 0 n):=by
 subst e;rw[L6 (by omega) (by omega)];rfl
def HZ{a:List Pt}{s:List Nat}(h:a.length<100000):bN .add (aJ a) (.tup [.tup [.str [112,117,116],.str s]])=some (aJ (a++[.put s])):=tP (a:=a) (b:=[.put s]) (by simp;omega)
def DA{a:List Pt}{s:List Nat}(h:a.length<100000):bN .add (aJ a) (.tup [.tup [.str [100,114,111,112],.str s]])=some (aJ (a++[.drop s])):=tP (a:=a) (b:=[.drop s]) (by simp;omega)
def DB{a:List Pt}(h:a.length<100000):bN .add (aJ a) (.tup [.tup [.str [107,101,101,112],.int 1]])=some (aJ (a++[.keep 1])):=tP (a:=a) (b:=[.keep 1]) (by simp;omega)
section
variable{F:List Fn}{w n c dr t:Nat}(hc:F[c]?=some tL)(hd:F[dr]?=some (u6 c)){ns:List Int}(hn:ns.length<=63)
include hc hd hn
theorem DC(k:Int)(x:V)(fd:List Pt)(j:Nat)(u v:Option Sl)(hu:vo u)(hfd:fd.length<=10000) :
  Wp (ex (run F w (n+2)) w (Fv dr) [some (.val (fF ns)),some (.val (.int k)),some (.val x),some (.val (aJ fd)),some (.val (.int j)),u,v]) λg fr=>g=.nx/\∃b,vo b/\fr=[some (.val (fF ns)),some (.val (.int k)),some (.val x),some (.val (aJ (fd++if cP ns (k+4*j) 4=0 then [.put (rep (1+cP ns (k+4*j+2) 2).toNat [[97,98,122].getD (cP ns (k+4*j+1) 3).toNat 0])]else []))),some (.val (.int j)),b,v]:=by
 have d1:=λfr=>eH (fr:=fr) (gS (w:=w) (n:=n) hc hd hn (k+4*j) (many:=4) (by decide));have m4:bN .mul (.int 4) (.int j)=some (.int (4*j)):=by rw[oW,MF];rfl
 refine aP (by (repeat (first|array_get_dec|exact d1 _))) (λh=>?_) λh=>?_
 .have h0:=Xh h;have d2:=λfr=>eH (fr:=fr) (gS (w:=w) (n:=n) hc hd hn (k+4*j+1) (many:=3) (by decide));have d3:=λfr=>eH (fr:=fr) (gS (w:=w) (n:=n) hc hd hn (k+4*j+2) (many:=2) (by decide));have c2:=kH ns (k+4*j+2) (many:=2) (by decide);have c3:=kI ns (k+4*j+2) (many:=2) (by decide);have ix:dg (.str [97,98,122]) (.int (cP ns (k+4*j+1) 3))=some (.str [[97,98,122].getD (cP ns (k+4*j+1) 3).toNat 0]):=by
   rw[kF,getD_at (l:=[97,98,122]) (kH ns (k+4*j+1) (many:=3) (by decide)) (kI ns (k+4*j+1) (many:=3) (by decide)) 0];rfl
  have ml:=Dm (j:=1+cP ns (k+4*j+2) 2) (a:=[[97,98,122].getD (cP ns (k+4*j+1) 3).toNat 0]) (by omega) (by omega) (by simp);have ad:=HZ (a:=fd) (s:=rep (1+cP ns (k+4*j+2) 2).toNat [[97,98,122].getD (cP ns (k+4*j+1) 3).toNat 0]) (by omega);refine ai (aW (by (repeat (first|array_get_dec|exact d2 _|exact d3 _))) rfl (gi rfl hu) ?_);refine ai (aW (by repeat array_get_dec) rfl rfl (aC ?_));rw[xV h0];exact⟨rfl,_,.val,rfl⟩
 .have h0:=Yd h;rw[WQ h0,Xn];exact aC ⟨rfl,u,hu,rfl⟩
theorem DE(k:Int)(x:List Nat)(hx:x.length<=1000)(fd:List Pt)(j:Nat)(u v:Option Sl)(hv:vo v)(hfd:fd.length<=10000) :
  Wp (ex (run F w (n+2)) w (Fw dr) [some (.val (fF ns)),some (.val (.int k)),some (.val (.str x)),some (.val (aJ fd)),some (.val (.int j)),u,v]) λg fr=>g=.nx/\∃b,vo b/\fr=[some (.val (fF ns)),some (.val (.int k)),some (.val (.str x)),some (.val (aJ (fd++match x[j]? with
     |some c=>[if 0<cP ns (k+4*j+3) 3 then .keep 1 else .drop [c]]
     |none=>[]))),some (.val (.int j)),u,b]:=by
 have ln:cK .len [.str x]=some (.int (x.length:Nat)):=XX (by omega);refine aP (by repeat array_get_dec) (λh=>?_) λh=>?_
 .have hlt:j<x.length:=by have:=Xh h;omega
  have d1:=λfr=>eH (fr:=fr) (gS (w:=w) (n:=n) hc hd hn (k+4*j+3) (many:=3) (by decide));have m4:bN .mul (.int 4) (.int j)=some (.int (4*j)):=by rw[oW,MF];rfl
  have hg:x[j]?=some x[j]:=MZ hlt;have ix:dg (.str x) (.int j)=some (.str [x[j]]):=by rw[kF,gI,hg];rfl
  rw[hg];refine ai (aW (by (repeat (first|array_get_dec|exact d1 _))) rfl (gi rfl hv) ?_);by_cases hk:0<cP ns (k+4*j+3) 3
  .have ad:=DB (a:=fd) (by omega);have ht:truthy (.bl (decide (0<cP ns (k+4*j+3) 3)))=true:=XE hk;refine ai (aW (bz (au rfl) (iu (aF (Fi (b:=true) (ay rfl (au rfl) ht) (λ_=>by repeat array_get_dec) λh=>absurd h (by decide)) aI) pU) ad) rfl rfl (aC ?_));refine⟨rfl,some (.val (.bl (decide (0<cP ns (k+4*j+3) 3)))),.val,?_⟩;simp only[xV hk];rfl
  .have ad:=DA (a:=fd) (s:=[x[j]]) (by omega);have ht:truthy (.bl (decide (0<cP ns (k+4*j+3) 3)))=false:=W3 hk;refine ai (aW (bz (au rfl) (iu (aF (Fi (b:=false) (ay rfl (au rfl) ht) (λh=>absurd h (by decide)) λ_=>by repeat array_get_dec) aI) pU) ad) rfl rfl (aC ?_));refine⟨rfl,some (.val (.bl (decide (0<cP ns (k+4*j+3) 3)))),.val,?_⟩;simp only[WQ hk];rfl
 .have hlt:¬ j<x.length:=by have:=Yd h;omega
  rw[W8 (by omega),Xn];exact aC ⟨rfl,v,hv,rfl⟩
theorem zh(ht:F[t]?=some (HX dr))(k:Int)(x:List Nat)(hx:x.length<=1000):run F w (n+3) t [.val (fF ns),.val (.int k),.val (.str x)]=some (aJ (chg ns k x),[]):=by
 refine cy ht rfl ?_;have ln:cK .len [.str x]=some (.int (x.length:Nat)):=XX (by omega);have rg:eG [.int ((x.length:Nat)+1)]=some (range 0 (x.length+1)):=MG (by omega) (by omega);refine ai (aW (by repeat array_get_dec) rfl rfl ?_);refine ai (lD (ja (aF (bz (cQ (aF (au rfl) aI) ln) (aN rfl) bR) aI) rg) ?_);refine HB (λj fr=>∃a b c,vo a/\vo b/\vo c/\fr=[some (.val (fF ns)),some (.val (.int k)),some (.val (.str x)),some (.val (aJ (eY ns k x j))),a,b,c]) (λj fr hj ⟨a,b,c',ha,hb,hc',hfr⟩=>?_) (λfr ⟨a,b,c',ha,hb,hc',hfr⟩=>?_) ⟨none,none,none,.none,.none,.none,rfl⟩
 .subst hfr;have hz:=mY ns k x j;rw[show(0:Int)+(j:Int)=j from aah _];refine dI (bind1 rfl ha) (ai ?_);refine(DC hc hd hn k (.str x) (eY ns k x j) j b c' hb (by omega)).mono λg fr ⟨q1,b2,hb2,q3⟩=>?_;subst q1 q3;refine ai ?_;refine(DE hc hd hn k x hx _ j b2 c' hc' (by split<;>simp<;>omega)).mono λg fr ⟨q1,b3,Vl,q3⟩=>?_;subst q1 q3;refine aC ?_;rw[dU];refine⟨some (.val (.int j)),b2,b3,.val,hb2,Vl,?_⟩;rw[ju,jt,Xi]
 .subst hfr;refine ai (b8 (v:=aJ (chg ns k x)) (af:=[some (.val (fF ns)),some (.val (.int k)),some (.val (.str x)),some (.val (aJ (eY ns k x (x.length+1)))),a,b,c']) ?_ ⟨rfl,rfl⟩);have sh:gr [some (.val (fF ns)),some (.val (.int k)),some (.val (.str x)),some (.val (aJ (eY ns k x (x.length+1)))),a,b,c']=[some (.val (fF ns)),some (.val (.int k)),some (.val (.str x)),some (.val (aJ (eY ns k x (x.length+1)))),a,b,c']:=by
   show _ :: _ :: _ :: _ :: a.map Sl.gb :: b.map Sl.gb :: [c'.map Sl.gb]=_;rw[dY ha,dY hb,dY hc'];rfl
  rw[sh];exact au rfl
end
noncomputable def DF:S:=.iff (.cmp .eq (.ix (.v 0) (.c (.int 0))) (.c (.str [107,101,101,112]))) (.cons (.ret (.ix (.v 0) (.c (.int 1)))) .nil) .nil
noncomputable def DG:S:=.ret (.bi .len (.cons (.ix (.v 0) (.c (.int 1))) .nil))
noncomputable def dh:Fn:=⟨1,1,(.cons DF (.cons DG .nil))⟩
noncomputable def zj(bD:Nat):S:=.ret (.bi .sum (.cons (.comp (.cl bD (.cons (.v 1) .nil)) (.one 1) (.seq (.v 0)) (.yes (.cmp .ne (.ix (.v 1) (.c (.int 0))) (.c (.str [112,117,116]))))) .nil))
noncomputable def gE(bD:Nat):Fn:=⟨1,2,(.cons (zj bD) .nil)⟩
noncomputable def Bv(bD:Nat):S:=.ret (.bi .sum (.cons (.comp (.cl bD (.cons (.v 1) .nil)) (.one 1) (.seq (.v 0)) (.yes (.cmp .ne (.ix (.v 1) (.c (.int 0))) (.c (.str [100,114,111,112]))))) .nil))
noncomputable def jy(bD:Nat):Fn:=⟨1,2,(.cons (Bv bD) .nil)⟩
noncomputable def DH(bD:Nat):S:=.ret (.bi .sum (.cons (.comp (.cl bD (.cons (.v 1) .nil)) (.one 1) (.seq (.v 0)) (.yes (.cmp .ne (.ix (.v 1) (.c (.int 0))) (.c (.str [107,101,101,112]))))) .nil))
noncomputable def MH(bD:Nat):Fn:=⟨1,2,(.cons (DH bD) .nil)⟩
noncomputable def DI:S:=.set 1 (.lst .nil)
noncomputable def DJ:S:=.set 2 (.c (.int 0))
noncomputable def DK:S:=.set 3 (.c (.str []))
noncomputable def DL:S:=.set 4 (.c (.str []))
noncomputable def DM(b6:Nat):Ss:=(.cons (.iff (.cmp .eq (.v 5) (.c (.str [100,114,111,112]))) (.cons (.set 3 (.bin .add (.v 3) (.v 6))) .nil) (.cons (.iff (.cmp .eq (.v 5) (.c (.str [112,117,116]))) (.cons (.set 4 (.bin .add (.v 4) (.v 6))) .nil) (.cons (.iff (.cmp .gt (.v 6) (.c (.int 0))) (.cons (.iff (.orr (.cmp .ne (.v 3) (.c (.str []))) (.cmp .ne (.v 4) (.c (.str [])))) (.cons (.exp (.me .extend (.v 1) (.cons (.cl b6 (.cons (.v 2) (.cons (.v 3) (.cons (.v 4) .nil)))) .nil))) (.cons (.set 2 (.c (.int 0))) (.cons (.set 3 (.c (.str []))) (.cons (.set 4 (.c (.str []))) .nil)))) .nil) (.cons (.set 2 (.bin .add (.v 2) (.v 6))) .nil)) .nil) .nil)) .nil)) .nil)
noncomputable def DN(b6:Nat):S:=.for (.many [5,6]) (.seq (.v 0)) (DM b6)
noncomputable def DO(b6:Nat):S:=.exp (.me .extend (.v 1) (.cons (.cl b6 (.cons (.v 2) (.cons (.v 3) (.cons (.v 4) .nil)))) .nil))
noncomputable def DP:S:=.ret (.gZ (.v 1))
noncomputable def eL(b6:Nat):Fn:=⟨1,7,(.cons DI (.cons DJ (.cons DK (.cons DL (.cons (DN b6) (.cons (DO b6) (.cons DP .nil)))))))⟩
noncomputable def vY:S:=.set 3 (.lst .nil)
noncomputable def vZ:S:=.iff (.cmp .gt (.v 0) (.c (.int 0))) (.cons (.exp (.me .append (.v 3) (.cons (.tup (.cons (.c (.str [107,101,101,112])) (.cons (.v 0) .nil))) .nil))) .nil) .nil
noncomputable def oE:S:=.iff (.cmp .ne (.v 1) (.c (.str []))) (.cons (.exp (.me .append (.v 3) (.cons (.tup (.cons (.c (.str [100,114,111,112])) (.cons (.v 1) .nil))) .nil))) .nil) .nil
noncomputable def j8:S:=.iff (.cmp .ne (.v 2) (.c (.str []))) (.cons (.exp (.me .append (.v 3) (.cons (.tup (.cons (.c (.str [112,117,116])) (.cons (.v 2) .nil))) .nil))) .nil) .nil
noncomputable def iS:S:=.ret (.v 3)
noncomputable def cI:Fn:=⟨3,4,(.cons vY (.cons vZ (.cons oE (.cons j8 (.cons iS .nil)))))⟩
noncomputable def Pt.n:Pt->Nat
 |.keep n=>n
 |.put s=>s.length
 |.drop s=>s.length
noncomputable def tot(c:List Pt):Nat:=(c.map Pt.n).sum
def iJ(a b:List Pt):tot (a++b)=tot a+tot b:=by simp[tot]
def cU(p:Pt)(c:List Pt):tot (p :: c)=p.n+tot c:=by simp[tot]
noncomputable def dw:Pt->Bool
 |.put _=>true
 |_=>false
noncomputable def di:Pt->Bool
 |.drop _=>true
 |_=>false
noncomputable def cV:Pt->Bool
 |.keep _=>true
 |_=>false
noncomputable def az(c:List Pt):Nat:=tot (c.filter λp=>!dw p)
noncomputable def bP(c:List Pt):Nat:=tot (c.filter λp=>!di p)
noncomputable def cst(c:List Pt):Nat:=tot (c.filter λp=>!cV p)
section
variable{F:List Fn}{w n aE i:Nat}
def lE(hs:F[i]?=some dh)(p:Pt)(hp:p.n<=100000):run F w (n+1) i [.val p.v]=some (.int p.n,[]):=by
 cases p with
 |keep k=>exact cy hs rfl (ai (aP (b:=true) (ay rfl (aR (bT (au rfl) (aN rfl) rfl) (aN rfl) eX) rfl) (λ_=>ai (b8 (bT (au rfl) (aN rfl) rfl) ⟨rfl,rfl⟩)) nofun))
 |put s=>exact cy hs rfl (ai (aP (b:=false) (ay rfl (aR (bT (au rfl) (aN rfl) rfl) (aN rfl) eX) rfl) nofun (λ_=>aC (ai (b8 (cQ (aF (bT (au rfl) (aN rfl) rfl) aI) (XX hp)) ⟨rfl,rfl⟩)))))
 |drop s=>exact cy hs rfl (ai (aP (b:=false) (ay rfl (aR (bT (au rfl) (aN rfl) rfl) (aN rfl) eX) rfl) nofun (λ_=>aC (ai (b8 (cQ (aF (bT (au rfl) (aN rfl) rfl) aI) (XX hp)) ⟨rfl,rfl⟩)))))
def MI{c:List Pt}{p:Pt}(h:p∈c):p.n<=tot c:=by
 induction c with
 |nil=>simp at h
 |cons q c ih=>
  rw[cU];rcases List.mem_cons.mp h with rfl|h
  .omega
  .have:=ih h;omega
def Pn(c:List Pt):(c.map λp=>(p.n:Int)).sum=(tot c:Int):=by
 induction c with
 |nil=>rfl
 |cons p c ih=>simp only[WO,YA,ih,cU];omega
def qX{word:List Nat}{pr:Pt->Bool}(hs:F[aE]?=some dh)(hb:F[i]?=some ⟨1,2,.cons (.ret (.bi .sum (.cons (.comp (.cl aE (.cons (.v 1) .nil)) (.one 1) (.seq (.v 0)) (.yes (.cmp .ne (.ix (.v 1) (.c (.int 0))) (.c (.str word))))) .nil))) .nil⟩)
  (hw:∀p:Pt,∃x u,p.v=.tup [.str x,u]/\(!decide (x=word))=pr p) (c:List Pt) (h1:c.length<=10000) (h2:tot c<=100000):run F w (n+2) i [.val (aJ c)]=some (.int (tot (c.filter pr)),[]):=by
 refine cy hb rfl (ai (b8 (cQ (aF (ff (fO (fj rfl) rfl) rfl (mU (e:=Pt.v) (p:=pr) (g:=λp=>.int p.n) c λp hp=>?_) (dH (bS ?_))) aI) ?_) ⟨rfl,rfl⟩))
 .obtain⟨x,u,hx,Vm⟩:=hw p;have hcall:=λfr=>dm (fr:=fr) (lE (w:=w) (n:=n) hs p (WV (MI hp) h2));rw[hx]at hcall;rw[hx,<-Vm];exact kJ rfl (ay rfl (aR (bT (au rfl) (aN rfl) rfl) (aN rfl) fG) rfl) λ_=>b9 (aX rfl (au rfl) br) (hcall _)
 .rw[W6];exact WV (Z1 _ _) (WV h1 (by decide))
 .rw[xP,jq (λp:Pt=>(p.n:Int))];show some (V.int _)=_;rw[Pn]
def qa(hs:F[aE]?=some dh)(hb:F[i]?=some (gE aE))(c:List Pt)(h1:c.length<=10000)(h2:tot c<=100000):run F w (n+2) i [.val (aJ c)]=some (.int (az c),[]):=
 qX (pr:=λp=>!dw p) hs hb (λp=>by cases p<;>exact⟨_,_,rfl,rfl⟩) c h1 h2
def mZ(hs:F[aE]?=some dh)(hb:F[i]?=some (jy aE))(c:List Pt)(h1:c.length<=10000)(h2:tot c<=100000):run F w (n+2) i [.val (aJ c)]=some (.int (bP c),[]):=
 qX (pr:=λp=>!di p) hs hb (λp=>by cases p<;>exact⟨_,_,rfl,rfl⟩) c h1 h2
def u7(hs:F[aE]?=some dh)(hb:F[i]?=some (MH aE))(c:List Pt)(h1:c.length<=10000)(h2:tot c<=100000):run F w (n+2) i [.val (aJ c)]=some (.int (cst c),[]):=
 qX (pr:=λp=>!cV p) hs hb (λp=>by cases p<;>exact⟨_,_,rfl,rfl⟩) c h1 h2
end
noncomputable def bf(k:Nat)(g w:List Nat):List Pt:=(if 0<k then [.keep k]else [])++(if g=[]then []else [.drop g])++(if w=[]then []else [.put w])
def gj(k:Nat)(g w:List Nat):(bf k g w).length<=3:=by unfold bf;split<;>split<;>split<;>simp
def j9{F:List Fn}{w n i:Nat}(hs:F[i]?=some cI)(k:Nat)(g x:List Nat):run F w (n+1) i [.val (.int k),.val (.str g),.val (.str x)]=some (.lst ((bf k g x).map Pt.v),[]):=by
 refine cy hs rfl ?_;refine ai (jI (l:=[]) (by repeat array_get_dec) rfl rfl ?_);have ap:∀(l:List V) (d:V) (fr:Fr) (i:Nat),l.length<=3->fr[i]?=some (some (.own l))->gR .append i [d] fr fr[i]?=.ok .aU (fr.set i (some (.own (l++[d])))):=λl d fr i h e=>by rw[e];exact kG (by omega)
 have fin:∀l:List V,Wp (exs (run F w n) w (.cons iS .nil) [some (.val (.int k)),some (.val (.str g)),some (.val (.str x)),some (.own l)]) λg fr=>g=.ret (.lst l)/\outs 3 fr=[]:=λl=>ai (b8 (by repeat array_get_dec) ⟨rfl,rfl⟩);have s3:∀l:List V,l.length<=2->Wp (exs (run F w n) w (.cons j8 (.cons iS .nil)) [some (.val (.int k)),some (.val (.str g)),some (.val (.str x)),some (.own l)]) λg fr=>g=.ret (.lst (l++(if x=[]then []else [Pt.put x]).map Pt.v))/\outs 3 fr=[]:=λl hl=>by
  refine ai (aP (by repeat array_get_dec) (λh=>?_) λh=>?_)
  .have hx:x≠[]:=by simpa using h
   refine ai (fW (by (repeat array_get_dec);exact ap _ _ _ _ (by omega) rfl) (aC ?_));rw[WQ hx];exact fin _
  .have hx:x=[]:=by simpa using h
   refine aC ?_;rw[xV hx,Y4,Xn];exact fin _
 have s2:∀l:List V,l.length<=1->Wp (exs (run F w n) w (.cons oE (.cons j8 (.cons iS .nil))) [some (.val (.int k)),some (.val (.str g)),some (.val (.str x)),some (.own l)]) λy fr=>y=.ret (.lst (l++((if g=[]then []else [Pt.drop g])++(if x=[]then []else [Pt.put x])).map Pt.v))/\outs 3 fr=[]:=λl hl=>by
  refine ai (aP (by repeat array_get_dec) (λh=>?_) λh=>?_)
  .have hx:g≠[]:=by simpa using h
   refine ai (fW (by (repeat array_get_dec);exact ap _ _ _ _ (by omega) rfl) (aC ?_));rw[WQ hx,W0,<-Xi];exact s3 _ (by simp;omega)
  .have hx:g=[]:=by simpa using h
   refine aC ?_;rw[xV hx,XU];exact s3 _ (by omega)
 refine ai (aP (by repeat array_get_dec) (λh=>?_) λh=>?_)
 .have hx:0<k:=by have:=Xh h;omega
  refine ai (fW (by (repeat array_get_dec);exact ap _ _ _ _ (by decide) rfl) (aC ?_));unfold bf;rw[xV hx,Xi];exact s2 _ (qh 1)
 .have hx:¬ 0<k:=by have:=Yd h;omega
  refine aC ?_;unfold bf;rw[WQ hx];exact s2 _ (by decide)
abbrev FS:=List Pt×Nat×List Nat×List Nat
noncomputable def bG(st:FS):Pt->FS
 |.drop s=>(st.1,st.2.1,st.2.2.1++s,st.2.2.2)
 |.put s=>(st.1,st.2.1,st.2.2.1,st.2.2.2++s)
 |.keep k=>if 0<k then (if st.2.2.1=[]/\st.2.2.2=[]then (st.1,st.2.1+k,[],[])else (st.1++bf st.2.1 st.2.2.1 st.2.2.2,k,[],[]))else st
noncomputable def eN:FS:=([],0,[],[])
noncomputable def cW(st:FS):List Pt:=st.1++bf st.2.1 st.2.2.1 st.2.2.2
noncomputable def aM(c:List Pt):List Pt:=cW (c.foldl bG eN)
def Ia(p:List Pt)(a:Pt):(p++[a]).foldl bG eN=bG (p.foldl bG eN) a:=by simp
def u9(c:List Pt):∀st:FS,(c.foldl bG st).1.length<=st.1.length+3*c.length/\(c.foldl bG st).2.2.1.length<=st.2.2.1.length+tot c/\(c.foldl bG st).2.2.2.length<=st.2.2.2.length+tot c:=by
 induction c with
 |nil=>intro st;simp[tot]
 |cons p c ih=>
  intro st;have h:=ih (bG st p);have h2:(bG st p).1.length<=st.1.length+3/\(bG st p).2.2.1.length<=st.2.2.1.length+p.n/\(bG st p).2.2.2.length<=st.2.2.2.length+p.n:=by
   have:=gj st.2.1 st.2.2.1 st.2.2.2;cases p with
   |drop s=>simp[bG,Pt.n]
   |put s=>simp[bG,Pt.n]
   |keep k=>
    simp only[bG];split
    .split
     .simp
     .simp;omega
    .simp
  simp only[Xm,WY,cU];omega
def iK{F:List Fn}{w n aD i:Nat}(hs:F[aD]?=some cI)(hf:F[i]?=some (eL aD))(c:List Pt)(h1:c.length<=10000)(h2:tot c<=10000):run F w (n+2) i [.val (aJ c)]=some (aJ (aM c),[]):=by
 refine cy hf rfl ?_;refine ai (jI (l:=[]) (by repeat array_get_dec) rfl rfl ?_);refine ai (aW (by repeat array_get_dec) rfl rfl ?_);refine ai (aW (by repeat array_get_dec) rfl rfl ?_);refine ai (aW (by repeat array_get_dec) rfl rfl ?_);refine ai (lD (vs:=c.map Pt.v) (fO (fj rfl) rfl) ?_);have ext:∀(st:FS) (fr:Fr),st.1.length<=30010->gR .extend 1 [.lst ((bf st.2.1 st.2.2.1 st.2.2.2).map Pt.v)] fr (some (some (.own (st.1.map Pt.v))))=.ok .aU (fr.set 1 (some (.own ((cW st).map Pt.v)))):=λst fr h=>by
  have:=gj st.2.1 st.2.2.1 st.2.2.2;unfold cW;rw[W0];exact qW (by simp;omega)
 refine fV (e:=Pt.v) (λp l fr=>p++l=c/\∃a b,vo a/\vo b/\fr=[some (.val (aJ c)),some (.own ((p.foldl bG eN).1.map Pt.v)),some (.val (.int (p.foldl bG eN).2.1)),some (.val (.str (p.foldl bG eN).2.2.1)),some (.val (.str (p.foldl bG eN).2.2.2)),a,b]) (λp x l fr ⟨hpl,a,b,ha,hb,hfr⟩=>?_) (λp fr ⟨hpl,a,b,ha,hb,hfr⟩=>?_) c [] _ ⟨rfl,none,none,.none,.none,rfl⟩
 .subst hfr;obtain⟨b1,b2,b3⟩:=u9 p eN;have hlen:p.length+l.length+1=c.length:=by rw[<-hpl];simp;omega
  have vc:tot p+x.n+tot l=tot c:=by rw[<-hpl,iJ,cU];omega
  rw[Ia];have iL:(p++[x])++l=c:=by simpa using hpl
  generalize p.foldl bG eN=st at *
  simp[eN]at b1 b2 b3;have rs:=λfr=>eH (fr:=fr) (j9 (w:=w) (n:=n) hs st.2.1 st.2.2.1 st.2.2.2);have ex:=λfr=>ext st fr (by omega);cases x with
  |drop s=>
   have hs:s.length<=tot c:=by simp only[Pt.n]at vc;omega
   have ad:=uW (a:=st.2.2.1) (b:=s) (by omega);refine dI (jr rfl ha rfl hb) (ai (aP (by repeat array_get_dec) (λ_=>?_) λh=>absurd h (by decide)));refine ai (aW (by repeat array_get_dec) rfl rfl (aC (aC ?_)));rw[dU];exact⟨iL,_,_,.val,.val,rfl⟩
  |put s=>
   have hs:s.length<=tot c:=by simp only[Pt.n]at vc;omega
   have ad:=uW (a:=st.2.2.2) (b:=s) (by omega);refine dI (jr rfl ha rfl hb) (ai (aP (by repeat array_get_dec) (λh=>absurd h (by decide)) λ_=>?_));refine ai (aP (by repeat array_get_dec) (λ_=>?_) λh=>absurd h (by decide));refine ai (aW (by repeat array_get_dec) rfl rfl (aC (aC (aC ?_))));rw[dU];exact⟨iL,_,_,.val,.val,rfl⟩
  |keep k=>
   refine dI (jr rfl ha rfl hb) (ai (aP (by repeat array_get_dec) (λh=>absurd h (by decide)) λ_=>?_));refine ai (aP (by repeat array_get_dec) (λh=>absurd h (by decide)) λ_=>?_);refine ai (aP (by repeat array_get_dec) (λh=>?_) λh=>?_)
   .have hk:0<k:=by have:=Xh h;omega
    by_cases hg:st.2.2.1=[]/\st.2.2.2=[]
    .have n1:cop .ne (.str st.2.2.1) (.str [])=some false:=by rw[fG,hg.1];rfl
     have n2:cop .ne (.str st.2.2.2) (.str [])=some false:=by rw[fG,hg.2];rfl
     refine ai (aP (b:=false) (dO (ay rfl (by repeat array_get_dec) rfl) (ay rfl (by repeat array_get_dec) rfl)) (λh=>absurd h (by decide)) λ_=>aC ?_);refine ai (aW (by repeat array_get_dec) rfl rfl (aC (aC (aC (aC ?_)))));rw[dU];refine⟨iL,some (.val (.str bY)),some (.val (.int k)),.val,.val,?_⟩;simp only[bG,xV hk,xV hg];rw[hg.1,hg.2];rfl
    .have tt:aH (run F w (n+1)) (.orr (.cmp .ne (.v 3) (.c (.str []))) (.cmp .ne (.v 4) (.c (.str [])))) [some (.val (aJ c)),some (.own (st.1.map Pt.v)),some (.val (.int st.2.1)),some (.val (.str st.2.2.1)),some (.val (.str st.2.2.2)),some (.val (.str bY)),some (.val (.int k))]=.ok true [some (.val (aJ c)),some (.own (st.1.map Pt.v)),some (.val (.int st.2.1)),some (.val (.str st.2.2.1)),some (.val (.str st.2.2.2)),some (.val (.str bY)),some (.val (.int k))]:=by
      by_cases h3:st.2.2.1=[]
      .have h4:¬ st.2.2.2=[]:=λz=>hg ⟨h3,z⟩;have n1:cop .ne (.str st.2.2.1) (.str [])=some false:=by rw[fG,h3];rfl
       have n2:cop .ne (.str st.2.2.2) (.str [])=some true:=by rw[fG,W3 h4];rfl
       exact dO (ay rfl (by repeat array_get_dec) rfl) (ay rfl (by repeat array_get_dec) rfl)
      .have n1:cop .ne (.str st.2.2.1) (.str [])=some true:=by rw[fG,W3 h3];rfl
       exact pZ (ay rfl (by repeat array_get_dec) rfl)
     refine ai (aP tt (λ_=>?_) λh=>absurd h (by decide));refine ai (fW (by (repeat (first|array_get_dec|exact rs _|exact ex _))) ?_);refine ai (aW (by repeat array_get_dec) rfl rfl ?_);refine ai (aW (by repeat array_get_dec) rfl rfl ?_);refine ai (aW (by repeat array_get_dec) rfl rfl (aC ?_));refine ai (aW (by repeat array_get_dec) rfl rfl (aC (aC (aC (aC ?_)))));rw[dU];refine⟨iL,some (.val (.str bY)),some (.val (.int k)),.val,.val,?_⟩;simp only[bG,xV hk,WQ hg];rw[aah];rfl
   .have hk:¬ 0<k:=by have:=Yd h;omega
    refine aC (aC (aC (aC ?_)));rw[dU];refine⟨iL,some (.val (.str bY)),some (.val (.int k)),.val,.val,?_⟩;simp only[bG,WQ hk];rfl
 .subst hfr;simp at hpl;subst hpl;obtain⟨b1,b2,b3⟩:=u9 p eN;have e:aM p=cW (p.foldl bG eN):=rfl;rw[e];generalize p.foldl bG eN=st at *
  simp[eN]at b1 b2 b3;have sl:=gj st.2.1 st.2.2.1 st.2.2.2;have rs:=λfr=>eH (fr:=fr) (j9 (w:=w) (n:=n) hs st.2.1 st.2.2.1 st.2.2.2);have ex:=λfr=>ext st fr (by omega);have mk:toT (.lst ((cW st).map Pt.v))=some (aJ (cW st)):=by rw[HA];exact iZ (bS (by simp[cW];omega))
  refine ai (fW (by (repeat (first|array_get_dec|exact rs _|exact ex _))) ?_);exact ai (b8 (pX (au rfl) mk) ⟨rfl,rfl⟩)
inductive Tq where
 |at (i:Nat)|sg (c:Nat)
deriving DecidableEq
noncomputable def Pt.asks:Pt->List (List Nat)
 |.keep n=>List.replicate n []
 |.drop s=>s.map λc=>[c]
 |.put _=>[]
noncomputable def asks(c:List Pt):List (List Nat):=c.flatMap Pt.asks
noncomputable def Pt.told(k:Nat):Pt->List Tq
 |.keep n=>(List.range n).map λj=>.at (k+j)
 |.drop _=>[]
 |.put s=>s.map .sg
noncomputable def told(k:Nat):List Pt->List Tq
 |[]=>[]
 |p :: c=>p.told k++told (k+p.asks.length) c
def dP(a b:List Pt):asks (a++b)=asks a++asks b:=by simp[asks]
def fP(a b:List Pt):∀k,told k (a++b)=told k a++told (k+(asks a).length) b:=by
 induction a with
 |nil=>intro k;simp[told,asks]
 |cons p a ih=>
  intro k;simp only[WR,told,ih,Xi]
  congr 3
  simp[asks];omega
noncomputable def iT(c:List Pt):List (List Nat)×List Tq:=(asks c,told 0 c)
noncomputable def Pt.word:Pt->List Nat
 |.keep _=>bY
 |.put _=>iw
 |.drop _=>fX
noncomputable def ef(a b:List Nat):Bool:=!(decide (a=b) || (decide (a=iw)&&decide (b=fX)))
noncomputable def jg:List (List Nat)->Bool
 |a :: b :: r=>ef a b&&jg (b :: r)
 |_=>true
noncomputable def Bw(p:Pt):Bool:=p.n != 0
noncomputable def eg(c:List Pt):Bool:=jg (c.map Pt.word)&&c.all Bw
def eO(k:Nat)(g x:List Nat):asks (bf k g x)=List.replicate k []++g.map λc=>[c]:=by
  unfold bf;by_cases hk:0<k<;>by_cases hg:g=[]<;>by_cases hx:x=[]<;>simp[hk,hg,hx,asks,Pt.asks]
  all_goals (have:k=0:=by omega
             subst this;simp)
def iy(k:Nat)(g x:List Nat)(j:Nat):told j (bf k g x)=(List.range k).map (λi=>Tq.at (j+i))++x.map Tq.sg:=by
  unfold bf;by_cases hk:0<k<;>by_cases hg:g=[]<;>by_cases hx:x=[]<;>simp[hk,hg,hx,told,Pt.told,Pt.asks]
  all_goals (have:k=0:=by omega
             subst this;simp)
def zk(st:FS)(p:Pt):asks (cW (bG st p))=asks (cW st++[p])/\∀j,told j (cW (bG st p))=told j (cW st++[p]):=by
 obtain⟨ps,k,g,x⟩:=st;have e1:∀a:List Pt,asks (a++[p])=asks a++p.asks:=λa=>by simp[asks]
 have e2:∀(a:List Pt) j,told j (a++[p])=told j a++p.told (j+(asks a).length):=λa j=>by simp[fP,told]
 rw[e1];cases p with
 |drop s=>
  refine⟨by simp[bG,cW,dP,eO,Pt.asks],λj=>?_⟩;rw[e2];simp[bG,cW,fP,iy,Pt.told]
 |put s=>
  refine⟨by simp[bG,cW,dP,eO,Pt.asks],λj=>?_⟩;rw[e2];simp[bG,cW,fP,iy,Pt.told]
 |keep m=>
  simp only[bG];split
  .split
   .rename_i h;obtain⟨rfl,rfl⟩:=h;refine⟨by simp[cW,dP,eO,Pt.asks],λj=>?_⟩;rw[e2];simp[cW,dP,fP,iy,eO,Pt.told,List.range_add,YX]
   .refine⟨by simp[cW,dP,eO,Pt.asks],λj=>?_⟩;rw[e2];simp[cW,dP,fP,iy,eO,Pt.told,YX]
  .rename_i h;have:m=0:=by omega
   subst this;refine⟨by simp[Pt.asks],λj=>?_⟩;rw[e2];simp[Pt.told]
def qb(c:List Pt):∀st:FS,asks (cW (c.foldl bG st))=asks (cW st++c)/\∀j,told j (cW (c.foldl bG st))=told j (cW st++c):=by
 induction c with
 |nil=>intro st;simp
 |cons p c ih=>
  intro st;obtain⟨h1,h2⟩:=ih (bG st p);obtain⟨h3,h4⟩:=zk st p;simp only[Xm];have e:cW st++p :: c=(cW st++[p])++c:=by simp
  refine⟨?_,λj=>?_⟩
  .rw[h1,e,dP,dP _ c,h3]
  .rw[h2 j,e,fP,fP _ c,h4 j,h3]
def dJ(c:List Pt):asks (aM c)=asks c:=by
 have:=(qb c eN).1;simpa[aM,eN,cW,bf]using this
def ek(c:List Pt)(j:Nat):told j (aM c)=told j c:=by
 have:=(qb c eN).2 j;simpa[aM,eN,cW,bf]using this
def lF(c:List Pt):iT (aM c)=iT c:=by simp[iT,dJ,ek]
noncomputable def kps(c:List Pt):Nat:=tot (c.filter cV)
def fQ(c:List Pt):(asks c).length=az c:=by
 induction c with
 |nil=>rfl
 |cons p c ih=>cases p<;>simp[asks,az,tot,dw,Pt.asks,Pt.n]at ih ⊢<;>omega
def lH(c:List Pt):∀j,(told j c).length=bP c:=by
 induction c with
 |nil=>intro j;rfl
 |cons p c ih=>intro j;cases p<;>simp[told,bP,tot,di,Pt.told,Pt.n,ih]at ih ⊢
def iz(n:Nat)(c:List Pt):az (.keep n :: c)=n+az c:=by simp[az,tot,dw,Pt.n]
def iU(s:List Nat)(c:List Pt):az (.drop s :: c)=s.length+az c:=by simp[az,tot,dw,Pt.n]
def iA(s:List Nat)(c:List Pt):az (.put s :: c)=az c:=by simp[az,tot,dw,Pt.n]
def tQ(n:Nat)(c:List Pt):bP (.keep n :: c)=n+bP c:=by simp[bP,tot,di,Pt.n]
def tR(s:List Nat)(c:List Pt):bP (.drop s :: c)=bP c:=by simp[bP,tot,di,Pt.n]
def tS(s:List Nat)(c:List Pt):bP (.put s :: c)=s.length+bP c:=by simp[bP,tot,di,Pt.n]
def Fx(n:Nat)(c:List Pt):cst (.keep n :: c)=cst c:=by simp[cst,tot,cV,Pt.n]
def Fy(s:List Nat)(c:List Pt):cst (.drop s :: c)=s.length+cst c:=by simp[cst,tot,cV,Pt.n]
def Fz(s:List Nat)(c:List Pt):cst (.put s :: c)=s.length+cst c:=by simp[cst,tot,cV,Pt.n]
def FA(n:Nat)(c:List Pt):kps (.keep n :: c)=n+kps c:=by simp[kps,tot,Yy,cV,Pt.n]
def FD(s:List Nat)(c:List Pt):kps (.drop s :: c)=kps c:=by simp[kps,tot,cV,Pt.n]
def FE(s:List Nat)(c:List Pt):kps (.put s :: c)=kps c:=by simp[kps,tot,cV,Pt.n]
noncomputable def isAt:Tq->Bool
 |.at _=>true
 |_=>false
def Bx(c:List Pt):∀j,((told j c).filter isAt).length=kps c:=by
 induction c with
 |nil=>intro j;rfl
 |cons p c ih=>
  intro j;have e1:∀(m:Nat) (f:Nat->Nat),(((List.range m).map λi=>Tq.at (f i)).filter isAt).length=m:=λm f=>by
   rw[List.filter_eq_self.mpr]
   .simp
   .intro a ha;obtain⟨i,_,rfl⟩:=List.mem_map.mp ha;rfl
  have e2:∀s:List Nat,((s.map Tq.sg).filter isAt).length=0:=λs=>by
   rw[List.filter_eq_nil_iff.mpr]
   .rfl
   .intro a ha;obtain⟨i,_,rfl⟩:=List.mem_map.mp ha;simp[isAt]
  cases p with
  |keep m=>simp only[told,Pt.told,Zh,WN,e1,ih,kps,tot,cV,Yy,Xa,WO,YA,Pt.n]
  |put s=>simp only[told,Pt.told,Zh,WN,e2,ih,kps,cV,Yy];simp
  |drop s=>simp only[told,Pt.told,Zh,WN,ih,kps,cV,Yy];simp
def By(c:List Pt):(cst c:Int)=az c - kps c+bP c - kps c:=by
 induction c with
 |nil=>rfl
 |cons p c ih=>cases p<;>simp only[Fx,Fy,Fz,iz,iU,iA,tQ,tR,tS,FA,FD,FE]<;>omega
def BA(c:List Pt):tot c+kps c=az c+bP c:=by
 induction c with
 |nil=>rfl
 |cons p c ih=>cases p<;>simp only[cU,Pt.n,iz,iU,iA,tQ,tR,tS,FA,FD,FE]<;>omega
def fR(c:List Pt):az (aM c)=az c:=by rw[<-fQ,<-fQ,dJ]
def lJ(c:List Pt):bP (aM c)=bP c:=by rw[<-lH _ 0,<-lH _ 0,ek]
def vd(c:List Pt):kps (aM c)=kps c:=by rw[<-Bx _ 0,<-Bx _ 0,ek]
def lK(c:List Pt):cst (aM c)=cst c:=by
 have h1:=By (aM c);have h2:=By c;rw[fR,lJ,vd]at h1;omega
def iM(c:List Pt):tot (aM c)=tot c:=by
 have h1:=BA (aM c);have h2:=BA c;rw[fR,lJ,vd]at h1;omega
theorem nL:∀(a:List (List Nat)) (b:List (List Nat)),jg (a++b)=true↔jg a=true/\jg b=true/\∀x∈a.getLast?,∀y∈b.head?,ef x y=true
 |[],b=>by simp[jg]
 |[x],[]=>by simp[jg]
 |[x],y :: b=>by simp[jg,and_comm]
 |x :: y :: a,b=>by
  have:=nL (y :: a) b;simp only[WR]at this ⊢;simp only[jg,Vp,this,List.getLast?_cons_cons];constructor
  .rintro⟨h1,h2,h3,h4⟩;exact⟨⟨h1,h2⟩,h3,h4⟩
  .rintro⟨⟨h1,h2⟩,h3,h4⟩;exact⟨h1,h2,h3,h4⟩
def v5(k:Nat)(g x:List Nat):eg (bf k g x)=true:=by
 unfold bf;by_cases hk:0<k<;>by_cases hg:g=[]<;>by_cases hx:x=[]<;>simp[hk,hg,hx,eg,Bw,jg,ef,Pt.word,Pt.n,bY,iw,fX]
 all_goals omega
noncomputable def ve(st:FS):Prop:=eg st.1=true/\(st.1≠[]->0<st.2.1)/\∀p∈st.1.getLast?,p.word≠bY
def nM{a b:List Pt}(ha:eg a=true)(hb:eg b=true)(h:∀p∈a.getLast?,∀q∈b.head?,ef p.word q.word=true):eg (a++b)=true:=by
 simp only[eg,Vp]at ha hb ⊢;refine⟨?_,by rw[List.all_append,ha.2,hb.2];rfl⟩;rw[W0,nL];refine⟨ha.1,hb.1,λx hx y hy=>?_⟩;simp at hx hy;obtain⟨p,hp,rfl⟩:=hx;obtain⟨q,hq,rfl⟩:=hy;exact h p hp q hq
def vf{k:Nat}{g x:List Nat}(hk:0<k):(bf k g x).head?=some (.keep k):=by simp[bf,hk]
def Ib{w:List Nat}(h:w≠bY)(hw:w=iw\/w=fX):ef w bY=true:=by
 rcases hw with rfl|rfl<;>decide
def Ic(p:Pt):p.word=bY\/p.word=iw\/p.word=fX:=by cases p<;>simp[Pt.word]
def vg{st:FS}(h:ve st):eg (cW st)=true:=by
 refine nM h.1 (v5 _ _ _) λp hp q hq=>?_;have hne:st.1≠[]:=by intro z;rw[z]at hp;simp at hp
 rw[vf (h.2.1 hne)]at hq;simp at hq;subst hq;have hw:=h.2.2 p hp;exact Ib hw ((Ic p).resolve_left hw)
def vh{k:Nat}{g x:List Nat}(h:¬ (g=[]/\x=[])):∀p∈(bf k g x).getLast?,p.word≠bY:=by
 unfold bf;by_cases hx:x=[]
 .have hg:g≠[]:=λz=>h ⟨z,hx⟩;intro p hp;simp[hg,hx]at hp;subst hp;simp[Pt.word,fX,bY]
 .intro p hp;simp[hx]at hp;subst hp;simp[Pt.word,iw,bY]
def BB{st:FS}(h:ve st)(p:Pt):ve (bG st p):=by
 cases p with
 |drop s=>exact h
 |put s=>exact h
 |keep k=>
  simp only[bG];split
  .rename_i hk;split
   .exact⟨h.1,λz=>by simp;omega,h.2.2⟩
   .rename_i Rp;refine⟨vg h,λ_=>hk,λp hp=>?_⟩;rw[Z5]at hp;cases z:(bf st.2.1 st.2.2.1 st.2.2.2).getLast? with
    |none=>
     exfalso;rw[List.getLast?_eq_none_iff]at z;unfold bf at z;by_cases hx:st.2.2.2=[]<;>by_cases hg:st.2.2.1=[]<;>simp[hx,hg]at z Rp
    |some q=>
     rw[z]at hp;simp at hp;subst hp;exact vh Rp q z
  .exact h
def cF(c:List Pt):eg (aM c)=true:=by
 have:∀(c:List Pt) (st:FS),ve st->ve (c.foldl bG st):=λc=>by
  induction c with
  |nil=>exact λst h=>h
  |cons p c ih=>exact λst h=>ih _ (BB h p)
 exact vg (this c eN ⟨rfl,λz=>absurd rfl z,λp hp=>by simp[eN]at hp⟩)
abbrev Bl:=List Nat×List Nat
abbrev BS:=List Bl×Bl
noncomputable def dW(st:BS):Pt->BS
 |.drop s=>(st.1,(st.2.1++s,st.2.2))
 |.put s=>(st.1,(st.2.1,st.2.2++s))
 |.keep 0=>st
 |.keep (n+1)=>(st.1++st.2 :: List.replicate n ([],[]),([],[]))
noncomputable def oG:BS:=([],([],[]))
noncomputable def blocks(c:List Pt):BS:=c.foldl dW oG
noncomputable def kK(st:List Pt×Nat)(b:Bl):List Pt×Nat:=if b.1=[]/\b.2=[]then (st.1,st.2+1)else (st.1++bf st.2 b.1 b.2,1)
noncomputable def pk(bs:List Bl):List Pt×Nat:=bs.foldl kK ([],0)
def DQ(n:Nat):∀st:List Pt×Nat,(List.replicate n (([],[]):Bl)).foldl kK st=(st.1,st.2+n):=by
 induction n with
 |zero=>intro st;simp
 |succ n ih=>intro st;simp[Tv,kK,ih];omega
noncomputable def xR(st:BS):FS:=((pk st.1).1,(pk st.1).2,st.2.1,st.2.2)
def DR(st:BS)(p:Pt):bG (xR st) p=xR (dW st p):=by
 obtain⟨bs,g,x⟩:=st;cases p with
 |drop s=>rfl
 |put s=>rfl
 |keep n=>
  cases n with
  |zero=>rfl
  |succ n=>
   have e:pk (bs++(g,x) :: List.replicate n ([],[]))=((kK (pk bs) (g,x)).1,(kK (pk bs) (g,x)).2+n):=by
    simp only[pk,Yt,Xm,DQ]
   simp only[xR,dW,e,bG,Nat.succ_pos,Xa,kK];by_cases h:g=[]/\x=[]
   .simp[h];omega
   .simp[h];omega
def DS(c:List Pt):∀st:BS,c.foldl bG (xR st)=xR (c.foldl dW st):=by
 induction c with
 |nil=>intro st;rfl
 |cons p c ih=>intro st;simp only[Xm,DR,ih]
def iV(c:List Pt):aM c=cW (xR (blocks c)):=by
 unfold aM blocks;rw[<-DS];rfl
noncomputable def BC(st:List (List Nat)×List Nat):List Nat->List (List Nat)×List Nat
 |[]=>(st.1++[st.2],[])
 |c :: _=>(st.1,st.2++[c])
noncomputable def spT(st:List (List Nat)×List Nat):Tq->List (List Nat)×List Nat
 |.at _=>(st.1++[st.2],[])
 |.sg c=>(st.1,st.2++[c])
def BD(s:List Nat):∀st,(s.map λc=>[c]).foldl BC st=(st.1,st.2++s):=by
 induction s with
 |nil=>intro st;simp
 |cons c s ih=>intro st;simp[BC,ih]
def DT(n:Nat):∀st,(List.replicate n []).foldl BC st=if n=0 then st else (st.1++st.2 :: List.replicate (n - 1) [],[]):=by
 induction n with
 |zero=>intro st;rfl
 |succ n ih=>
  intro st;simp only[Tv,Xm,BC,ih];cases n with
  |zero=>simp
  |succ n=>simp[Tv]
def BE(s:List Nat):∀st,(s.map Tq.sg).foldl spT st=(st.1,st.2++s):=by
 induction s with
 |nil=>intro st;simp
 |cons c s ih=>intro st;simp[spT,ih]
def DU(n:Nat):∀(k:Nat) st,((List.range n).map λj=>Tq.at (k+j)).foldl spT st=if n=0 then st else (st.1++st.2 :: List.replicate (n - 1) [],[]):=by
 induction n with
 |zero=>intro k st;rfl
 |succ n ih=>
  intro k st;rw[Ys,W0,Yt,ih];cases n with
  |zero=>simp[spT]
  |succ n=>
   simp[spT];rw[<-List.replicate_succ',Tv]
def qc(c:List Pt):∀st:BS,(asks c).foldl BC (st.1.map Prod.fst,st.2.1)=((c.foldl dW st).1.map Prod.fst,(c.foldl dW st).2.1):=by
 induction c with
 |nil=>intro st;rfl
 |cons p c ih=>
  intro st;have e:asks (p :: c)=p.asks++asks c:=by simp[asks]
  rw[e,Yt,Xm,<-ih]
  congr 1
  cases p with
  |drop s=>simp[Pt.asks,BD,dW]
  |put s=>simp[Pt.asks,dW]
  |keep n=>
   simp only[Pt.asks,DT];cases n with
   |zero=>rfl
   |succ n=>simp[dW]
def qd(c:List Pt):∀(k:Nat) (st:BS),(told k c).foldl spT (st.1.map Prod.snd,st.2.2)=((c.foldl dW st).1.map Prod.snd,(c.foldl dW st).2.2):=by
 induction c with
 |nil=>intro k st;rfl
 |cons p c ih=>
  intro k st;rw[told,Yt,Xm,<-ih (k+p.asks.length)]
  congr 1
  cases p with
  |put s=>simp[Pt.told,BE,dW]
  |drop s=>simp[Pt.told,dW]
  |keep n=>
   simp only[Pt.told,DU];cases n with
   |zero=>rfl
   |succ n=>simp[dW]
theorem xS{α β:Type}:∀{a b:List (α×β)},a.map Prod.fst=b.map Prod.fst->a.map Prod.snd=b.map Prod.snd->a=b
 |[],[],_,_=>rfl
 |[],_ :: _,h,_=>by simp at h
 |_ :: _,[],h,_=>by simp at h
 | (x,y) :: a,(x',y') :: b,h1,h2=>by
  simp at h1 h2;rw[h1.1,h2.1,xS h1.2 h2.2]
def m5{a b:List Pt}(h:iT a=iT b):blocks a=blocks b:=by
 have hA:asks a=asks b:=WT Prod.fst h;have hT:told 0 a=told 0 b:=WT Prod.snd h;have a1:=qc a oG;have b1:=qc b oG;have a2:=qd a 0 oG;have b2:=qd b 0 oG;rw[hA,b1]at a1;rw[hT,b2]at a2;have e1:=WT Prod.fst a1;have e2:=WT Prod.snd a1;have e3:=WT Prod.fst a2;have e4:=WT Prod.snd a2;unfold blocks;exact aak (xS e1.symm e3.symm) (aak e2.symm e4.symm)
def gF(a b:List Pt):aM a=aM b↔iT a=iT b:=by
 constructor
 .intro h;rw[<-lF a,<-lF b,h]
 .intro h;rw[iV,iV,m5 h]
def jU(a:List Pt):aM (aM a)=aM a:=(gF _ _).mpr (lF a)
noncomputable def Pt.sw:Pt->Pt
 |.keep n=>.keep n
 |.put s=>.drop s
 |.drop s=>.put s
noncomputable def sw(c:List Pt):List Pt:=c.map Pt.sw
def sO(c:List Pt):∀st:BS,(sw c).foldl dW (st.1.map Prod.swap,st.2.swap)=((c.foldl dW st).1.map Prod.swap,(c.foldl dW st).2.swap):=by
 induction c with
 |nil=>intro st;rfl
 |cons p c ih=>
  intro st;simp only[sw,WO,Xm]at ih ⊢;rw[<-ih]
  congr 1
  cases p with
  |put s=>rfl
  |drop s=>rfl
  |keep n=>cases n<;>simp[Pt.sw,dW]
def Ie{a b:List Pt}(h:aM a=aM b):aM (sw a)=aM (sw b):=by
 have hb:=m5 ((gF a b).mp h);rw[iV,iV];have a1:=sO a oG;have b1:=sO b oG;have e:blocks (sw a)=blocks (sw b):=by
  unfold blocks at hb ⊢;have z:((oG.1.map Prod.swap,oG.2.swap):BS)=oG:=rfl;rw[z]at a1 b1;rw[a1,b1,hb]
 rw[e]
noncomputable def cR(c:List Pt):List Pt:=aM (sw c)
def m6(c:List Pt):az (sw c)=bP c:=by
 induction c with
 |nil=>rfl
 |cons p c ih=>cases p<;>simp only[sw,WO,Pt.sw,iz,iU,iA,tQ,tR,tS]at ih ⊢<;>omega
def MJ(c:List Pt):bP (sw c)=az c:=by
 induction c with
 |nil=>rfl
 |cons p c ih=>cases p<;>simp only[sw,WO,Pt.sw,iz,iU,iA,tQ,tR,tS]at ih ⊢<;>omega
noncomputable def bg:List Pt->List Nat->Bool
 |[],t=>t.isEmpty
 |.keep n :: c,t=>decide (n<=t.length)&&bg c (t.drop n)
 |.drop s :: c,t=>s.isPrefixOf t&&bg c (t.drop s.length)
 |.put _ :: c,t=>bg c t
noncomputable def aT:List Pt->List Nat->List Nat
 |[],_=>[]
 |.keep n :: c,t=>t.take n++aT c (t.drop n)
 |.drop s :: c,t=>aT c (t.drop s.length)
 |.put s :: c,t=>s++aT c t
noncomputable def dc:List (List Nat)->List Nat->Bool
 |[],[]=>true
 |x :: a,c :: t=>(decide (x=[]) ||decide (x=[c]))&&dc a t
 |_,_=>false
def BF(n:Nat)(a:List (List Nat)):∀t,dc (List.replicate n []++a) t=(decide (n<=t.length)&&dc a (t.drop n)):=by
 induction n with
 |zero=>intro t;simp
 |succ n ih=>
  intro t;cases t with
  |nil=>simp[Tv,dc]
  |cons c t=>simp[Tv,dc,ih]
def BG(s:List Nat)(a:List (List Nat)):∀t,dc ((s.map λc=>[c])++a) t=(s.isPrefixOf t&&dc a (t.drop s.length)):=by
 induction s with
 |nil=>intro t;simp
 |cons c s ih=>
  intro t;cases t with
  |nil=>simp[dc]
  |cons d t=>
   simp only[WO,WR,dc,ih,List.isPrefixOf,WY,Zc];by_cases h:c=d<;>simp[h]
def kL(c:List Pt):∀t,bg c t=dc (asks c) t:=by
 induction c with
 |nil=>intro t;cases t<;>rfl
 |cons p c ih=>
  intro t;have e:asks (p :: c)=p.asks++asks c:=by simp[asks]
  rw[e];cases p with
  |keep n=>simp[bg,Pt.asks,BF,ih]
  |drop s=>simp[bg,Pt.asks,BG,ih]
  |put s=>simp[bg,Pt.asks,ih]
def oX(c:List Pt)(t:List Nat):bg (aM c) t=bg c t:=by rw[kL,kL,dJ]
noncomputable def pick(t:List Nat):Tq->List Nat
 |.at i=>(t[i]?).toList
 |.sg c=>[c]
def BH(c:List Pt):∀(t:List Nat) (k:Nat),aT c (t.drop k)=(told k c).flatMap (pick t):=by
 induction c with
 |nil=>intro t k;rfl
 |cons p c ih=>
  intro t k;rw[told,aad,<-ih];cases p with
  |put s=>
   simp only[aT,Pt.told,Pt.asks,List.length_nil,aag]
   congr 1
   induction s with
   |nil=>rfl
   |cons c s ih=>simp[pick]at ih ⊢;exact ih
  |drop s=>simp[aT,Pt.told,Pt.asks,Yv]
  |keep n=>
   simp only[aT,Pt.told,Pt.asks,Z0,Yj]
   congr 1
   induction n generalizing k with
   |zero=>simp
   |succ n ihn=>
    rw[Ys,W0,aad,<-ihn];rw[Zo];simp[pick]
def BJ(c:List Pt)(t:List Nat):aT (aM c) t=aT c t:=by
 have h1:=BH (aM c) t 0;have h2:=BH c t 0;rw[ek,<-h2]at h1;simpa using h1
def DV(c:List Pt):∀t,bg c t=true->bg (sw c) (aT c t)=true/\aT (sw c) (aT c t)=t:=by
 induction c with
 |nil=>intro t h;simp[bg]at h;subst h;simp[sw,bg,aT]
 |cons p c ih=>
  intro t h;cases p with
  |keep n=>
   simp only[bg,Vp,XZ]at h;obtain⟨h1,h2⟩:=ih _ h.2;have hl:(t.take n).length=n:=by simp;omega
   simp only[sw,WO,Pt.sw,aT,bg]at h1 h2 ⊢;have e1:(t.take n++aT c (t.drop n)).drop n=aT c (t.drop n):=by rw[List.drop_append_of_le_length (by omega),Yb (by omega)];rfl
   have e2:(t.take n++aT c (t.drop n)).take n=t.take n:=by rw[List.take_append_of_le_length (by omega),List.take_take,Nat.min_self]
   rw[e1,e2,h1,h2];simp;omega
  |drop s=>
   simp only[bg,Vp]at h;obtain⟨h1,h2⟩:=ih _ h.2;simp only[sw,WO,Pt.sw,aT,bg]at h1 h2 ⊢;rw[h2];refine⟨h1,?_⟩;obtain⟨r,rfl⟩:=List.isPrefixOf_iff_prefix.mp h.1;simp
  |put s=>
   simp only[bg]at h;obtain⟨h1,h2⟩:=ih _ h;simp only[sw,WO,Pt.sw,aT,bg]at h1 h2 ⊢;simp[h1,h2]
noncomputable def DW:S:=.set 2 (.c (.int 0))
noncomputable def DX(bD:Nat):Ss:=(.cons (.iff (.an (.cmp .eq (.ix (.v 3) (.c (.int 0))) (.c (.str [100,114,111,112]))) (.cmp .ne (.sl (.v 1) (.yes (.v 2)) (.yes (.bin .add (.v 2) (.cl bD (.cons (.v 3) .nil))))) (.ix (.v 3) (.c (.int 1))))) (.cons (.ret (.c (.bl false))) .nil) .nil) (.cons (.iff (.cmp .ne (.ix (.v 3) (.c (.int 0))) (.c (.str [112,117,116]))) (.cons (.set 2 (.bin .add (.v 2) (.cl bD (.cons (.v 3) .nil)))) .nil) .nil) .nil))
noncomputable def DY(bD:Nat):S:=.for (.one 3) (.seq (.v 0)) (DX bD)
noncomputable def DZ:S:=.ret (.cmp .eq (.v 2) (.bi .len (.cons (.v 1) .nil)))
noncomputable def BK(bD:Nat):Fn:=⟨2,4,(.cons DW (.cons (DY bD) (.cons DZ .nil)))⟩
noncomputable def D0(vj:Nat):S:=.iff (.nt (.cl vj (.cons (.v 0) (.cons (.v 1) .nil)))) (.cons (.fy 0) .nil) .nil
noncomputable def D3:S:=.set 2 (.lst .nil)
noncomputable def D4:S:=.set 3 (.c (.int 0))
noncomputable def D5:Ss:=(.cons (.iff (.cmp .eq (.v 4) (.c (.str [112,117,116]))) (.cons (.exp (.me .append (.v 2) (.cons (.v 5) .nil))) .nil) (.cons (.iff (.cmp .eq (.v 4) (.c (.str [100,114,111,112]))) (.cons (.set 3 (.bin .add (.v 3) (.bi .len (.cons (.v 5) .nil)))) .nil) (.cons (.exp (.me .append (.v 2) (.cons (.sl (.v 1) (.yes (.v 3)) (.yes (.bin .add (.v 3) (.v 5)))) .nil))) (.cons (.set 3 (.bin .add (.v 3) (.v 5))) .nil))) .nil)) .nil)
noncomputable def D6:S:=.for (.many [4,5]) (.seq (.v 0)) D5
noncomputable def D7:S:=.ret (.me .join (.c (.str [])) (.cons (.v 2) .nil))
noncomputable def MK(vj:Nat):Fn:=⟨2,6,(.cons (D0 vj) (.cons D3 (.cons D4 (.cons D6 (.cons D7 .nil)))))⟩
noncomputable def zl(bI:Nat):S:=.ret (.cl bI (.cons (.gZ (.comp (.tup (.cons (.je [(.str [107,101,101,112],.str [107,101,101,112]),(.str [112,117,116],.str [100,114,111,112]),(.str [100,114,111,112],.str [112,117,116])] (.v 1)) (.cons (.v 2) .nil))) (.many [1,2]) (.seq (.v 0)) .no)) .nil))
noncomputable def vm(bI:Nat):Fn:=⟨1,3,(.cons (zl bI) .nil)⟩
noncomputable def v8(bI:Nat):S:=.ret (.cl bI (.cons (.tup (.cons (.tup (.cons (.c (.str [107,101,101,112])) (.cons (.v 0) .nil))) .nil)) .nil))
noncomputable def jV(bI:Nat):Fn:=⟨1,1,(.cons (v8 bI) .nil)⟩
def vn{α:Type}(l:List α)(p k:Nat):cut l (some (p:Int)) (some ((p:Int)+k))=(l.drop p).take k:=by
 have h1:¬ (p:Int)<0:=by omega
 have h2:¬ (p:Int)+k<0:=by omega
 have h3:((p:Int)+k).toNat=p+k:=by omega
 simp only[cut,aK,h1,h2,XH,h3,X0];by_cases hp:p<=l.length
 .rw[Y6 hp];by_cases hk:p+k<=l.length
  .rw[Y6 hk];congr 1;omega
  .rw[ZC (by omega),Xp (by simp),Xp (by simp;omega)]
 .have e1:min p l.length=l.length:=by omega
  rw[e1,Yb (qh _),Yb (by omega)];simp
def pre_take{s t:List Nat}:s.isPrefixOf t=decide (t.take s.length=s):=by
 cases h:s.isPrefixOf t with
 |true=>
  obtain⟨r,rfl⟩:=List.isPrefixOf_iff_prefix.mp h;simp
 |false=>
  symm
  rw[ZH];intro e;have:s.isPrefixOf t=true:=List.isPrefixOf_iff_prefix.mpr (by have z:=List.take_prefix s.length t;rw[e]at z;exact z);rw[h]at this;cases this
def kM(a b:List Pt):az (a++b)=az a+az b:=by simp[az,tot]
def xT{c:List Pt}:∀{t:List Nat},bg c t=true->t.length=az c:=by
 induction c with
 |nil=>intro t h;simp[bg]at h;subst h;rfl
 |cons p c ih=>
  intro t h;cases p with
  |keep n=>simp only[bg,Vp,XZ]at h;have:=ih h.2;rw[iz];simp at this;omega
  |drop s=>
   simp only[bg,Vp]at h;have h2:=ih h.2;obtain⟨r,rfl⟩:=List.isPrefixOf_iff_prefix.mp h.1;rw[iU];simp at h2 ⊢;omega
  |put s=>rw[iA];exact ih h
def D8(c:List Pt):∀t,(aT c t).length<=t.length+tot c:=by
 induction c with
 |nil=>intro t;simp[aT]
 |cons p c ih=>
  intro t;rw[cU];cases p with
  |keep n=>have:=ih (t.drop n);simp[aT,Pt.n]at this ⊢;omega
  |drop s=>have:=ih (t.drop s.length);simp[aT,Pt.n]at this ⊢;omega
  |put s=>have:=ih t;simp[aT,Pt.n]at this ⊢;omega
section
variable{F:List Fn}{w n aE m7 aQ aD i:Nat}
def D9(c:List Pt)(t:List Nat)(q:Nat)(p:Pt)(l:List Pt)(h:bg c t=(decide (q<=t.length)&&bg (p :: l) (t.drop q))) :
  (di p=true->(∃s,p=.drop s/\(if (t.drop q).take s.length=s then bg c t=(decide (q+s.length<=t.length)&&bg l (t.drop (q+s.length)))else bg c t=false)))/\
  (di p=false->bg c t=(decide (q+az [p]<=t.length)&&bg l (t.drop (q+az [p])))):=by
 cases p with
 |drop s=>
  refine⟨λ_=>⟨s,rfl,?_⟩,λz=>by simp[di]at z⟩;simp only[bg,pre_take,Yj]at h;split
  .rename_i hs;rw[h];simp only[hs,decide_true,Bool.true_and];have hl:=WT List.length hs;simp at hl;by_cases hq:q<=t.length
   .by_cases hq2:q+s.length<=t.length
    .simp[hq,hq2]
    .omega
   .have:¬ q+s.length<=t.length:=by omega
    simp[hq,this]
  .rename_i hs;rw[h];simp[hs]
 |keep k=>
  refine⟨λz=>by simp[di]at z,λ_=>?_⟩;have e:az [.keep k]=k:=by rw[iz];rfl
  rw[h,e];simp only[bg,Yj,Yx];by_cases hq:q<=t.length
  .by_cases hq2:q+k<=t.length
   .have:k<=t.length - q:=by omega
    simp[hq,hq2,this]
   .have:¬ k<=t.length - q:=by omega
    simp[hq2,this]
  .have:¬ q+k<=t.length:=by omega
   simp[hq,this]
 |put s=>
  refine⟨λz=>by simp[di]at z,λ_=>?_⟩;have e:az [.put s]=0:=by rw[iA];rfl
  rw[h,e];simp[bg]
def Ea(hs:F[aE]?=some dh)(hf:F[i]?=some (BK aE))(c:List Pt)(t:List Nat)(h1:tot c<=10000)(h2:t.length<=10000):run F w (n+2) i [.val (aJ c),.val (.str t)]=some (.bl (bg c t),[]):=by
 refine cy hf rfl ?_;refine ai (aW (by repeat array_get_dec) rfl rfl ?_);refine ai (lD (vs:=c.map Pt.v) (fO (fj rfl) rfl) ?_);refine fV (e:=Pt.v) (λp l fr=>p++l=c/\bg c t=(decide (az p<=t.length)&&bg l (t.drop (az p)))/\∃a,vo a/\fr=[some (.val (aJ c)),some (.val (.str t)),some (.val (.int (az p))),a]) (λp x l fr ⟨hpl,hfit,a,ha,hfr⟩=>?_) (λp fr ⟨hpl,hfit,a,ha,hfr⟩=>?_) c [] _ ⟨rfl,by simp[az,tot],none,.none,rfl⟩
 .subst hfr;have vc:tot p+x.n+tot l=tot c:=by rw[<-hpl,iJ,cU];omega
  have sz:=λfr=>dm (fr:=fr) (lE (w:=w) (n:=n) hs x (by omega));obtain⟨k1,k2⟩:=D9 c t (az p) x l hfit;have iL:(p++[x])++l=c:=by simpa using hpl
  have eb:az (p++[x])=az p+az [x]:=kM p [x];have ei:((az (p++[x]):Nat):Int)=(az p:Int)+(az [x]:Nat):=by rw[eb];simp
  cases x with
  |drop s=>
   obtain⟨s',e,k1⟩:=k1 rfl;cases e;have e2:az [.drop s]=s.length:=by rw[iU];rfl
   rw[e2]at eb ei;have cu:gf (.str t) (some (az p:Int)) (some ((az p:Int)+((Pt.drop s).n:Nat)))=some (.str ((t.drop (az p)).take s.length)):=by rw[iI];exact WT (λz=>some (V.str z)) (vn t (az p) s.length)
   by_cases hx:(t.drop (az p)).take s.length=s
   .rw[xV hx]at k1;have ne:cop .ne (.str ((t.drop (az p)).take s.length)) (.str s)=some false:=by rw[fG,XE hx];rfl
    refine dI (bind1 rfl ha) (ai (aP (b:=false) (fh (b2:=false) (ay rfl (by repeat array_get_dec) rfl) (ay rfl (by (repeat (first|array_get_dec|exact sz _))) rfl)) (λh=>absurd h (by decide)) λ_=>aC ?_));refine ai (aP (by repeat array_get_dec) (λ_=>?_) λh=>absurd h (by decide));refine ai (aW (by (repeat (first|array_get_dec|exact sz _))) rfl rfl (aC (aC ?_)));rw[dU];exact⟨iL,by rw[eb];exact k1,some (.val (Pt.drop s).v),.val,by rw[ei];rfl⟩
   .rw[WQ hx]at k1;have ne:cop .ne (.str ((t.drop (az p)).take s.length)) (.str s)=some true:=by rw[fG,W3 hx];rfl
    refine dI (bind1 rfl ha) (ai (aP (b:=true) (fh (b2:=true) (ay rfl (by repeat array_get_dec) rfl) (ay rfl (by (repeat (first|array_get_dec|exact sz _))) rfl)) (λ_=>?_) λh=>absurd h (by decide)));refine ai (b8 (by repeat array_get_dec) ?_);show nx _ _ _ _ _ _;rw[k1];exact⟨rfl,rfl⟩
  |keep k=>
   have k2:=k2 rfl;have e2:az [.keep k]=k:=by rw[iz];rfl
   rw[e2]at k2 eb ei;refine dI (bind1 rfl ha) (ai (aP (b:=false) (mW (ay rfl (by repeat array_get_dec) rfl)) (λh=>absurd h (by decide)) λ_=>aC ?_));refine ai (aP (by repeat array_get_dec) (λ_=>?_) λh=>absurd h (by decide));refine ai (aW (by (repeat (first|array_get_dec|exact sz _))) rfl rfl (aC (aC ?_)));rw[dU];exact⟨iL,by rw[eb];exact k2,some (.val (Pt.keep k).v),.val,by rw[ei];rfl⟩
  |put s=>
   have k2:=k2 rfl;have e2:az [.put s]=0:=by rw[iA];rfl
   rw[e2]at k2 eb;refine dI (bind1 rfl ha) (ai (aP (b:=false) (mW (ay rfl (by repeat array_get_dec) rfl)) (λh=>absurd h (by decide)) λ_=>aC ?_));refine ai (aP (by repeat array_get_dec) (λh=>absurd h (by decide)) λ_=>aC (aC ?_));rw[dU];exact⟨iL,by rw[eb];exact k2,some (.val (Pt.put s).v),.val,by rw[eb];rfl⟩
 .subst hfr;simp at hpl;subst hpl;have e:decide ((az p:Int)=(t.length:Nat))=bg p t:=by
   rw[hfit];simp only[bg];by_cases hq:az p=t.length
   .have:(az p:Int)=t.length:=by omega
    simp[this,hq]
   .have:¬ (az p:Int)=t.length:=by omega
    simp[this];intro h;omega
  have ln:cK .len [.str t]=some (.int (t.length:Nat)):=XX (by omega);have eq:cop .eq (.int (az p)) (.int (t.length:Nat))=some (bg p t):=by rw[Dv,e]
  have sh:gr [some (.val (aJ p)),some (.val (.str t)),some (.val (.int (az p))),a]=[some (.val (aJ p)),some (.val (.str t)),some (.val (.int (az p))),a]:=by
   show _ :: _ :: _ :: [a.map Sl.gb]=_;rw[dY ha];rfl
  refine ai (b8 (v:=.bl (bg p t)) (af:=[some (.val (aJ p)),some (.val (.str t)),some (.val (.int (az p))),a]) ?_ ⟨rfl,rfl⟩);rw[sh];repeat array_get_dec
def Eb(hs:F[aE]?=some dh)(hf:F[m7]?=some (BK aE))(hd:F[i]?=some (MK m7))(c:List Pt)(t:List Nat)(h1:tot c<=10000)(h2:t.length<=10000)(h3:c.length<=10000)(h:bg c t=true):run F w (n+3) i [.val (aJ c),.val (.str t)]=some (.str (aT c t),[]):=by
 refine cy hd rfl ?_;have ft:=λfr=>call2 (fr:=fr) (Ea (w:=w) (n:=n) hs hf c t h1 h2);rw[h]at ft;refine ai (aP (b:=false) (zg (ay (b:=true) rfl (by (repeat (first|array_get_dec|exact ft _))) rfl)) (λh=>absurd h (by decide)) λ_=>aC ?_);refine ai (jI (l:=[]) (by repeat array_get_dec) rfl rfl ?_);refine ai (aW (by repeat array_get_dec) rfl rfl ?_);refine ai (lD (vs:=c.map Pt.v) (fO (fj rfl) rfl) ?_);refine fV (e:=Pt.v) (λp l fr=>p++l=c/\∃ps a b,vo a/\vo b/\ps.length<=p.length/\ps.flatten++aT l (t.drop (az p))=aT c t/\fr=[some (.val (aJ c)),some (.val (.str t)),some (.own (ps.map V.str)),some (.val (.int (az p))),a,b]) (λp x l fr ⟨hpl,ps,a,b,ha,hb,hl,hd,hfr⟩=>?_) (λp fr ⟨hpl,ps,a,b,ha,hb,hl,hd,hfr⟩=>?_) c [] _ ⟨rfl,[],none,none,.none,.none,by simp,by simp[az,tot],rfl⟩
 .subst hfr;have iL:(p++[x])++l=c:=by simpa using hpl
  have eb:az (p++[x])=az p+az [x]:=kM p [x];have ei:((az (p++[x]):Nat):Int)=(az p:Int)+(az [x]:Nat):=by rw[eb];simp
  have vc:tot p+x.n+tot l=tot c:=by rw[<-hpl,iJ,cU];omega
  have hlen:p.length+l.length+1=c.length:=by rw[<-hpl];simp;omega
  have ap:∀(fr:Fr) (z:List Nat),gR .append 2 [.str z] fr (some (some (.own (ps.map V.str))))=.ok .aU (fr.set 2 (some (.own ((ps++[z]).map V.str)))):=λfr z=>by
   rw[W0];exact kG (by simp;omega)
  cases x with
  |put s=>
   have e2:az [.put s]=0:=by rw[iA];rfl
   rw[e2]at eb;refine dI (jr rfl ha rfl hb) (ai (aP (by repeat array_get_dec) (λ_=>?_) λh=>absurd h (by decide)));refine ai (fW (by (repeat (first|array_get_dec|exact ap _ _))) (aC (aC ?_)));rw[dU];exact⟨iL,ps++[s],some (.val (.str iw)),some (.val (.str s)),.val,.val,by simp;omega,by rw[eb];simpa[aT]using hd,by rw[eb];rfl⟩
  |drop s=>
   have e2:az [.drop s]=s.length:=by rw[iU];rfl
   rw[e2]at eb ei;have VT:s.length<=tot c:=by simp only[Pt.n]at vc;omega
   have ln:cK .len [.str s]=some (.int (s.length:Nat)):=XX (by omega);refine dI (jr rfl ha rfl hb) (ai (aP (by repeat array_get_dec) (λh=>absurd h (by decide)) λ_=>?_));refine ai (aP (by repeat array_get_dec) (λ_=>?_) λh=>absurd h (by decide));refine ai (aW (by repeat array_get_dec) rfl rfl (aC (aC (aC ?_))));rw[dU];exact⟨iL,ps,some (.val (.str fX)),some (.val (.str s)),.val,.val,by simp;omega,by rw[eb];simpa[aT]using hd,by rw[ei];rfl⟩
  |keep k=>
   have e2:az [.keep k]=k:=by rw[iz];rfl
   rw[e2]at eb ei;have cu:gf (.str t) (some (az p:Int)) (some ((az p:Int)+(k:Nat)))=some (.str ((t.drop (az p)).take k)):=by rw[iI,vn]
   refine dI (jr rfl ha rfl hb) (ai (aP (by repeat array_get_dec) (λh=>absurd h (by decide)) λ_=>?_));refine ai (aP (by repeat array_get_dec) (λh=>absurd h (by decide)) λ_=>?_);refine ai (fW (by (repeat (first|array_get_dec|exact ap _ _))) ?_);refine ai (aW (by repeat array_get_dec) rfl rfl (aC (aC (aC ?_))));rw[dU];exact⟨iL,ps++[(t.drop (az p)).take k],some (.val (.str bY)),some (.val (.int k)),.val,.val,by simp;omega,by rw[eb];simpa[aT]using hd,by rw[ei];rfl⟩
 .subst hfr;simp at hpl;subst hpl;have hd':ps.flatten=aT p t:=by simpa[aT]using hd
  have dl:=D8 p t;have hj:=Ff (l:=ps) (by rw[hd'];omega);rw[hd']at hj;have sh:gr [some (.val (aJ p)),some (.val (.str t)),some (.own (ps.map V.str)),some (.val (.int (az p))),a,b]=[some (.val (aJ p)),some (.val (.str t)),some (.val (.lst (ps.map V.str))),some (.val (.int (az p))),a,b]:=by
   show _ :: _ :: _ :: _ :: a.map Sl.gb :: [b.map Sl.gb]=_;rw[dY ha,dY hb];rfl
  refine ai (b8 (v:=.str (aT p t)) (af:=[some (.val (aJ p)),some (.val (.str t)),some (.val (.lst (ps.map V.str))),some (.val (.int (az p))),a,b]) ?_ ⟨rfl,rfl⟩);rw[sh];repeat array_get_dec
def ML(c:List Pt):tot (sw c)=tot c:=by
 induction c with
 |nil=>rfl
 |cons p c ih=>simp only[sw,WO,cU]at ih ⊢;rw[ih];cases p<;>rfl
def zm(hst:F[aD]?=some cI)(hf:F[aQ]?=some (eL aD))(hu:F[i]?=some (vm aQ))(c:List Pt)(h1:c.length<=10000)(h2:tot c<=10000):run F w (n+3) i [.val (aJ c)]=some (aJ (cR c),[]):=by
 have hl:(c.map λp=>p.sw.v).length<=big:=by rw[W6];exact WV h1 (by decide)
 have cf:=λfr=>dm (fr:=fr) (iK (w:=w) (n:=n) hst hf (sw c) (by rw[sw,W6];exact h1) (by rw[ML];exact h2));rw[show aJ (sw c)=.tup (c.map λp=>p.sw.v)by simp only[aJ,sw,XS];rfl]at cf;exact cy hu rfl (ai (b8 (b9 (aX rfl (pX (ff (fO (fj rfl) rfl) rfl (eW _ (λp=>p.sw.v) c λp _=>by
  cases p<;>exact jb rfl (iu (aF (Bs (au rfl) rfl) (aF (au rfl) aI)) nE)) (dH hl)) (iZ hl)) br) (cf _)) ⟨rfl,rfl⟩))
def oH(hst:F[aD]?=some cI)(hf:F[aQ]?=some (eL aD))(hu:F[i]?=some (jV aQ))(m:Nat)(h:m<=10000):run F w (n+3) i [.val (.int m)]=some (aJ (aM [.keep m]),[]):=
 cy hu rfl (ai (b8 (b9 (aX rfl (iu (aF (iu (aF (aN rfl) (aF (au rfl) aI)) nE) aI) pU) br) (dm (iK hst hf [.keep m] (Nat.succ_le_of_lt (Nat.zero_lt_succ _)) h))) ⟨rfl,rfl⟩))
end
end Pv
namespace Pv
open Ev (rep)
def BL(ns:List Int)(at_:Int)(s:List Nat)(k:Nat):tot (jt ns at_ s k)<=3:=by
 have h1:=kI ns (at_+4*k+2) (many:=2) (by decide);have h2:=kH ns (at_+4*k+2) (many:=2) (by decide);unfold jt;rw[iJ];have a:tot (if cP ns (at_+4*k) 4=0 then [Pt.put (rep (1+cP ns (at_+4*k+2) 2).toNat [[97,98,122].getD (cP ns (at_+4*k+1) 3).toNat 0])]else [])<=2:=by
  split
  .simp[tot,Pt.n,rep];omega
  .simp[tot]
 cases s[k]? with
 |none=>simp[tot]at a ⊢;omega
 |some c=>
  have b:tot [if 0<cP ns (at_+4*k+3) 3 then Pt.keep 1 else Pt.drop [c]]<=1:=by split<;>simp[tot,Pt.n]
  simp only at b ⊢;omega
theorem sP(ns:List Int)(at_:Int)(s:List Nat):∀k,tot (eY ns at_ s k)<=3*k
 |0=>by simp[eY,tot]
 |k+1=>by
  have h1:=BL ns at_ s k;have h2:=sP ns at_ s k;rw[ju,iJ];omega
theorem vp:∀{a b:List (List Nat)}{t u:List Nat},dc a t=true->dc b u=true->dc (a++b) (t++u)=true
 |[],_,[],_,_,hb=>hb
 |x :: a,b,c :: t,u,ha,hb=>by
  simp only[dc,Vp]at ha;simp only[WR,dc,Vp];exact⟨ha.1,vp ha.2 hb⟩
 |[],_,_ :: _,_,ha,_=>by simp[dc]at ha
 |_ :: _,_,[],_,ha,_=>by simp[dc]at ha
def Ig(ns:List Int)(at_:Int)(s:List Nat)(k:Nat):dc (asks (jt ns at_ s k)) (s[k]?).toList=true:=by
 unfold jt;rw[dP];have a:asks (if cP ns (at_+4*k) 4=0 then [Pt.put (rep (1+cP ns (at_+4*k+2) 2).toNat [[97,98,122].getD (cP ns (at_+4*k+1) 3).toNat 0])]else [])=[]:=by
  split<;>simp[asks,Pt.asks]
 rw[a];cases s[k]? with
 |none=>simp[asks,dc]
 |some c=>simp only;split<;>simp[asks,Pt.asks,dc]
theorem BN(ns:List Int)(at_:Int)(s:List Nat):∀k,dc (asks (eY ns at_ s k)) (s.take k)=true
 |0=>by simp[eY,asks,dc]
 |k+1=>by
  rw[ju,dP,Zo];exact vp (BN ns at_ s k) (Ig ns at_ s k)
def Ih(ns:List Int)(at_:Int)(s:List Nat):bg (chg ns at_ s) s=true:=by
 have:=BN ns at_ s (s.length+1);rw[Xp (by omega)]at this;rw[kL];exact this
end Pv
namespace Pv
inductive At where
 |k|d (c:Nat)|p (c:Nat)
noncomputable def Pt.aB:Pt->List At
 |.keep n=>List.replicate n .k
 |.drop s=>s.map .d
 |.put s=>s.map .p
noncomputable def aB(c:List Pt):List At:=c.flatMap Pt.aB
def eS(a b:List Pt):aB (a++b)=aB a++aB b:=by simp[aB]
def cX(p:Pt)(c:List Pt):aB (p :: c)=p.aB++aB c:=by simp[aB]
def vq(p:Pt):p.aB.length=p.n:=by cases p<;>simp[Pt.aB,Pt.n]
def gT(c:List Pt):(aB c).length=tot c:=by
 induction c with
 |nil=>rfl
 |cons p c ih=>rw[cX,WN,vq,ih,cU]
noncomputable def tA:Nat->List At->List Tq
 |_,[]=>[]
 |i,.k :: a=>.at i :: tA (i+1) a
 |i,.d _ :: a=>tA (i+1) a
 |i,.p c :: a=>.sg c :: tA i a
noncomputable def aA:List At->List (List Nat)
 |[]=>[]
 |.k :: a=>[] :: aA a
 |.d c :: a=>[c] :: aA a
 |.p _ :: a=>aA a
noncomputable def dA:List At->List Nat->List Nat
 |[],_=>[]
 |.k :: a,t=>t.take 1++dA a (t.drop 1)
 |.d _ :: a,t=>dA a (t.drop 1)
 |.p c :: a,t=>c :: dA a t
noncomputable def BO:At->At
 |.k=>.k
 |.d c=>.p c
 |.p c=>.d c
noncomputable def cA:List At->Nat
 |[]=>0
 |.k :: a=>cA a
 |_ :: a=>cA a+1
theorem iB:∀a b:List At,aA (a++b)=aA a++aA b
 |[],_=>rfl
 |.k :: a,b=>by simp[aA,iB a b]
 |.d c :: a,b=>by simp[aA,iB a b]
 |.p c :: a,b=>by simp[aA,iB a b]
theorem qe:∀(a b:List At) (i:Nat),tA i (a++b)=tA i a++tA (i+(aA a).length) b
 |[],_,_=>rfl
 |.k :: a,b,i=>by simp[tA,aA,qe a b,YX,Yv 1]
 |.d c :: a,b,i=>by simp[tA,aA,qe a b,YX,Yv 1]
 |.p c :: a,b,i=>by simp[tA,aA,qe a b]
theorem qf:∀a b:List At,cA (a++b)=cA a+cA b
 |[],b=>by simp[cA]
 |.k :: a,b=>by simp[cA,qf a b]
 |.d c :: a,b=>by simp[cA,qf a b];omega
 |.p c :: a,b=>by simp[cA,qf a b];omega
def FF(p:Pt):aA p.aB=p.asks:=by
 cases p with
 |keep n=>simp only[Pt.aB,Pt.asks];induction n<;>simp_all [Tv,aA]
 |drop s=>simp only[Pt.aB,Pt.asks];induction s<;>simp_all [aA]
 |put s=>simp only[Pt.aB,Pt.asks];induction s<;>simp_all [aA]
def Po(p:Pt):∀i,tA i p.aB=p.told i:=by
 cases p with
 |keep n=>
  simp only[Pt.aB,Pt.told];induction n with
  |zero=>intro i;rfl
  |succ n ih=>intro i;simp only[Tv,tA,ih,YV,WO,XS];simp[Function.comp_def,YX,Yv 1]
 |drop s=>intro i;simp only[Pt.aB,Pt.told];induction s generalizing i<;>simp_all [tA]
 |put s=>intro i;simp only[Pt.aB,Pt.told];induction s generalizing i<;>simp_all [tA]
def Pp(p:Pt):cA p.aB=cst [p]:=by
 cases p with
 |keep n=>simp only[Pt.aB];rw[Fx];induction n<;>simp_all [Tv,cA,cst,tot]
 |drop s=>simp only[Pt.aB];rw[Fy];induction s<;>simp_all [cA,cst,tot]
 |put s=>simp only[Pt.aB];rw[Fz];induction s<;>simp_all [cA,cst,tot]
def bX(c:List Pt):asks c=aA (aB c):=by
 induction c with
 |nil=>rfl
 |cons p c ih=>rw[cX,iB,FF,<-ih];simp[asks]
def eZ(c:List Pt):∀i,told i c=tA i (aB c):=by
 induction c with
 |nil=>intro i;rfl
 |cons p c ih=>intro i;rw[cX,qe,Po,FF,<-ih,told]
def qY(c:List Pt):cst c=cA (aB c):=by
 induction c with
 |nil=>rfl
 |cons p c ih=>
  rw[cX,qf,Pp,<-ih];simp[cst,tot];cases p<;>simp[Yy,cV]
def oY:∀(c:List Pt) (t:List Nat),aT c t=dA (aB c) t:=by
 have k:∀(n:Nat) (a:List At) (t:List Nat),dA (List.replicate n .k++a) t=t.take n++dA a (t.drop n):=λn=>by
  induction n with
  |zero=>intro a t;simp
  |succ n ih=>
   intro a t;simp only[Tv,WR,dA,ih,Yj];cases t with
   |nil=>simp
   |cons c t=>simp[Yv 1]
 have d:∀(s:List Nat) (a:List At) (t:List Nat),dA (s.map .d++a) t=dA a (t.drop s.length):=λs=>by
  induction s with
  |nil=>intro a t;simp
  |cons c s ih=>intro a t;simp[dA,ih,Yv 1]
 have p:∀(s:List Nat) (a:List At) (t:List Nat),dA (s.map .p++a) t=s++dA a t:=λs=>by
  induction s with
  |nil=>intro a t;simp
  |cons c s ih=>intro a t;simp[dA,ih]
 intro c;induction c with
 |nil=>intro t;rfl
 |cons q c ih=>
  intro t;rw[cX];cases q with
  |keep n=>simp only[Pt.aB,k,aT,ih]
  |drop s=>simp only[Pt.aB,d,aT,ih]
  |put s=>simp only[Pt.aB,p,aT,ih]
noncomputable def BP:List At->Bool
 |.d _ :: _=>false
 |_=>true
noncomputable def sub(L:List Tq):Tq->Tq
 |.at j=>L.getD j (.sg 0)
 |.sg c=>.sg c
def oZ{c:List Pt}{t:List Nat}(h:bg c t=true):(aT c t).length=bP c:=by
 rw[xT (DV c t h).1,m6]
end Pv
namespace Pv
open Ev (D bh aZ TY BI ME T E Es Eo It S Ss Fn big deep b2i rep bL cY bu aK cut bU cH slots)
noncomputable def Ec(dD:Nat)(gG:Nat):S:=.iff (.cmp .ne (.cl dD (.cons (.v 0) .nil)) (.cl gG (.cons (.v 1) .nil))) (.cons (.fy 0) .nil) .nil
noncomputable def Ed(bI:Nat):S:=.set 2 (.ji (.rev (.cl bI (.cons (.v 0) .nil))))
noncomputable def Ef(bI:Nat):S:=.set 3 (.ji (.rev (.cl bI (.cons (.v 1) .nil))))
noncomputable def Eg:S:=.set 4 (.lst .nil)
noncomputable def Eh(bD:Nat)(qg:Nat)(dZ:Nat):Ss:=(.cons (.iff (.an (.v 2) (.cmp .eq (.ix (.ix (.v 2) (.neg (.c (.int 1)))) (.c (.int 0))) (.c (.str [100,114,111,112])))) (.cons (.exp (.me .append (.v 4) (.cons (.me .pop (.v 2) .nil) .nil))) .nil) (.cons (.iff (.an (.v 3) (.cmp .eq (.ix (.ix (.v 3) (.neg (.c (.int 1)))) (.c (.int 0))) (.c (.str [112,117,116])))) (.cons (.exp (.me .append (.v 4) (.cons (.me .pop (.v 3) .nil) .nil))) .nil) (.cons (.set 5 (.bi .min (.cons (.cl bD (.cons (.ix (.v 2) (.neg (.c (.int 1)))) .nil)) (.cons (.cl bD (.cons (.ix (.v 3) (.neg (.c (.int 1)))) .nil)) .nil)))) (.cons (.exp (.me .extend (.v 4) (.cons (.cl qg (.cons (.cl dZ (.cons (.v 2) (.cons (.v 5) .nil))) (.cons (.cl dZ (.cons (.v 3) (.cons (.v 5) .nil))) .nil))) .nil))) .nil))) .nil)) .nil)
noncomputable def Ei(bD:Nat)(qg:Nat)(dZ:Nat):S:=.nW (.orr (.v 2) (.v 3)) (Eh bD qg dZ)
noncomputable def Ej(bI:Nat):S:=.ret (.cl bI (.cons (.gZ (.v 4)) .nil))
noncomputable def BQ(dD:Nat)(gG:Nat)(bI:Nat)(bD:Nat)(qg:Nat)(dZ:Nat):Fn:=⟨2,6,(.cons (Ec dD gG) (.cons (Ed bI) (.cons (Ef bI) (.cons Eg (.cons (Ei bD qg dZ) (.cons (Ej bI) .nil))))))⟩
noncomputable def Ii:S:=.iff (.cmp .eq (.ix (.v 1) (.c (.int 0))) (.c (.str [107,101,101,112]))) (.cons (.ret (.lst (.cons (.v 0) .nil))) .nil) .nil
noncomputable def Ij:S:=.iff (.cmp .eq (.ix (.v 0) (.c (.int 0))) (.c (.str [107,101,101,112]))) (.cons (.ret (.lst (.cons (.v 1) .nil))) .nil) .nil
noncomputable def Ik:S:=.iff (.cmp .ne (.ix (.v 0) (.c (.int 1))) (.ix (.v 1) (.c (.int 1)))) (.cons (.fy 0) .nil) .nil
noncomputable def Il:S:=.ret (.lst .nil)
noncomputable def zo:Fn:=⟨2,2,(.cons Ii (.cons Ij (.cons Ik (.cons Il .nil))))⟩
noncomputable def BR(o4:Nat):S:=.set 2 (.cl o4 (.cons (.me .pop (.v 0) .nil) (.cons (.v 1) .nil)))
noncomputable def BU(bD:Nat):S:=.iff (.cmp .gt (.cl bD (.cons (.ix (.v 2) (.c (.int 1))) .nil)) (.c (.int 0))) (.cons (.exp (.me .append (.v 0) (.cons (.ix (.v 2) (.c (.int 1))) .nil))) .nil) .nil
noncomputable def BV:S:=.ret (.ix (.v 2) (.c (.int 0)))
noncomputable def fk(o4:Nat)(bD:Nat):Fn:=⟨2,3,(.cons (BR o4) (.cons (BU bD) (.cons BV .nil)))⟩
noncomputable def zp:S:=.set 2 (.ix (.v 0) (.c (.int 0)))
noncomputable def zq:S:=.iff (.cmp .eq (.v 2) (.c (.str [107,101,101,112]))) (.cons (.ret (.tup (.cons (.tup (.cons (.v 2) (.cons (.v 1) .nil))) (.cons (.tup (.cons (.v 2) (.cons (.bin .sub (.ix (.v 0) (.c (.int 1))) (.v 1)) .nil))) .nil)))) .nil) .nil
noncomputable def zu:S:=.ret (.tup (.cons (.tup (.cons (.v 2) (.cons (.sl (.ix (.v 0) (.c (.int 1))) .no (.yes (.v 1))) .nil))) (.cons (.tup (.cons (.v 2) (.cons (.sl (.ix (.v 0) (.c (.int 1))) (.yes (.v 1)) .no) .nil))) .nil)))
noncomputable def dQ:Fn:=⟨2,3,(.cons zp (.cons zq (.cons zu .nil)))⟩
noncomputable def Pt.tk(m:Nat):Pt->Pt
 |.keep _=>.keep m
 |.put s=>.put (s.take m)
 |.drop s=>.drop (s.take m)
noncomputable def Pt.dp(m:Nat):Pt->Pt
 |.keep k=>.keep (k - m)
 |.put s=>.put (s.drop m)
 |.drop s=>.drop (s.drop m)
def FG{α:Type}(l:List α)(m:Nat):cut l none (some (m:Int))=l.take m:=by
 have h1:¬ (m:Int)<0:=by omega
 simp only[cut,aK,h1,XH,X0,Zf,Nat.sub_zero];by_cases h:m<=l.length
 .rw[Y6 h]
 .rw[ZC (by omega),Xp (qh _),Xp (by omega)]
def FH{α:Type}(l:List α)(m:Nat):cut l (some (m:Int)) none=l.drop m:=by
 have h1:¬ (m:Int)<0:=by omega
 simp only[cut,aK,h1,XH,X0];by_cases h:m<=l.length
 .rw[Y6 h,Xp (by simp)]
 .rw[ZC (by omega),Yb (qh _),Yb (by omega)];simp
section
variable{F:List Fn}{w n aY aE i:Nat}
def zv(hf:F[i]?=some dQ)(p:Pt)(m:Nat)(h:m<=p.n):run F w (n+1) i [.val p.v,.val (.int m)]=some (.tup [(p.tk m).v,(p.dp m).v],[]):=by
 refine cy hf rfl ?_;cases p with
 |keep k=>
  refine ai (aW (by repeat array_get_dec) rfl rfl ?_);refine ai (aP (by repeat array_get_dec) (λ_=>?_) λh=>absurd h (by decide));refine ai (b8 (by repeat array_get_dec) ⟨?_,rfl⟩);have:(k:Int) - m=((k - m:Nat):Int):=by simp only[Pt.n]at h;omega
  exact WT (λz=>Fl.ret (V.tup [V.tup [V.str bY,V.int m],V.tup [V.str bY,V.int z]])) this
 |put s=>
  have c1:gf (.str s) none (some (m:Int))=some (.str (s.take m)):=by rw[iI,FG]
  have c2:gf (.str s) (some (m:Int)) none=some (.str (s.drop m)):=by rw[iI,FH]
  refine ai (aW (by repeat array_get_dec) rfl rfl ?_);refine ai (aP (by repeat array_get_dec) (λh=>absurd h (by decide)) λ_=>aC ?_);exact ai (b8 (by repeat array_get_dec) ⟨rfl,rfl⟩)
 |drop s=>
  have c1:gf (.str s) none (some (m:Int))=some (.str (s.take m)):=by rw[iI,FG]
  have c2:gf (.str s) (some (m:Int)) none=some (.str (s.drop m)):=by rw[iI,FH]
  refine ai (aW (by repeat array_get_dec) rfl rfl ?_);refine ai (aP (by repeat array_get_dec) (λh=>absurd h (by decide)) λ_=>aC ?_);exact ai (b8 (by repeat array_get_dec) ⟨rfl,rfl⟩)
def o5(m:Nat)(p:Pt):(p.dp m).n=p.n - m:=by cases p<;>simp[Pt.dp,Pt.n]
def BW(hs:F[aE]?=some dh)(hp:F[aY]?=some dQ)(hf:F[i]?=some (fk aY aE))(L:List V)(p:Pt)(m:Nat)(h:m<=p.n)(hn:p.n<=100000)(hL:L.length<=10000) :
  run F w (n+2) i [.bor (L++[p.v]),.val (.int m)]=some ((p.tk m).v,[L++if 0<p.n - m then [(p.dp m).v]else []]):=by
 refine cy hf rfl ?_;have c1:=λfr=>call2 (fr:=fr) (zv (F:=F) (w:=w) (n:=n) hp p m h);have c2:=λfr=>dm (fr:=fr) (lE (F:=F) (w:=w) (n:=n) hs (p.dp m) (by rw[o5];omega));have po:∀fr:Fr,gR .pop 0 [] fr (some (some (.bor (L++[p.v]))))=.ok p.v (fr.set 0 (some (.bor L))):=λfr=>HV;have ap:∀fr:Fr,gR .append 0 [(p.dp m).v] fr (some (some (.bor L)))=.ok .aU (fr.set 0 (some (.bor (L++[(p.dp m).v])))):=λfr=>HS (by omega);refine ai (aW (by (repeat (first|array_get_dec|exact po _|exact c1 _))) rfl rfl ?_);refine ai (aP (by (repeat (first|array_get_dec|exact c2 _))) (λh=>?_) λh=>?_)
 .have h':=Xh h;rw[o5]at h';rw[xV (by omega)];refine ai (fW (by (repeat (first|array_get_dec|exact ap _))) (aC ?_));exact ai (b8 (by repeat array_get_dec) ⟨rfl,rfl⟩)
 .have h':=Yd h;rw[o5]at h';rw[WQ (by omega),Xn];exact aC (ai (b8 (by repeat array_get_dec) ⟨rfl,rfl⟩))
def iO{l:List V}{v:V}:dg (.lst (l++[v])) (.int (-1))=some v:=by rw[nI,u5];simp
def Pq{l:List V}{v:V}:truthy (.lst (l++[v]))=true:=by simp
def Pr{P:aL}{f i:Nat}{fr:Fr}{b v:V}{l l':List V}(e:fr[i]?=some (some (.own l)))(h:P f [.bor l,.val b]=some (v,[l'])):gu P f [.inl i,.inr b] fr=.ok v (fr.set i (some (.own l'))):=by
 have e1:lent fr i=some (.bor l):=by rw[HN,e];rfl
 simp[gu,bM,args,e1,h,back,e,Sl.with]
def fq{c:List Pt}(h:eg c=true):∀p∈c,0<p.n:=λp hp=>by
 simp only[eg,Vp,List.all_eq_true]at h;have:=h.2 p hp;simp only[Bw,bne_iff_ne,ne_eq]at this;omega
theorem gU:∀{c:List Pt},(∀p∈c,0<p.n)->c.length<=tot c
 |[],_=>by simp[tot]
 |p :: c,h=>by
  have h1:=h p (by simp);have h2:=gU (c:=c) λq hq=>h q (by simp[hq]);rw[cU,WY];omega
def zw{p:Pt}{m:Nat}(h:m<=p.n):(p.tk m).aB++(p.dp m).aB=p.aB/\(p.tk m).n=m:=by
 cases p with
 |keep k=>simp only[Pt.n]at h;simp[Pt.tk,Pt.dp,Pt.aB,Pt.n,h]
 |put s=>simp only[Pt.n]at h;simp[Pt.tk,Pt.dp,Pt.aB,Pt.n,h,<-W0]
 |drop s=>simp only[Pt.n]at h;simp[Pt.tk,Pt.dp,Pt.aB,Pt.n,h,<-W0]
noncomputable def jJ(m:Nat)(p:Pt):List Pt:=if 0<p.n - m then [p.dp m]else []
def Im{p:Pt}{m:Nat}(h:m<=p.n):p.aB=(p.tk m).aB++aB (jJ m p):=by
 rw[<- (zw h).1]
 congr 1
 unfold jJ;split
 .simp[aB]
 .rename_i hz;have:(p.dp m).aB.length=0:=by rw[vq,o5];omega
  rw[List.length_eq_zero_iff.mp this];rfl
def Io(m:Nat)(p:Pt):∀q∈jJ m p,0<q.n:=λq hq=>by
 unfold jJ at hq;split at hq
 .simp at hq;subst hq;rw[o5];omega
 .simp at hq
def Ip(m:Nat)(p:Pt)(A:List Pt):((jJ m p++A).map Pt.v).reverse=(A.map Pt.v).reverse++if 0<p.n - m then [(p.dp m).v]else []:=by
 unfold jJ;split<;>simp
def Iq(m:Nat)(p:Pt):tot (jJ m p)=p.n - m:=by
 unfold jJ;split
 .simp[tot,o5]
 .simp[tot];omega
end
section
noncomputable def zx(rs:List (List Pt)):Nat:=(rs.map tot).sum
end
noncomputable def scan:List Nat->List (List Pt)->List (List Nat)
 |t,[]=>[t]
 |t,c :: rs=>t :: scan (aT c t) rs
end Pv
namespace Pv
open Ev (deep big rep cut bu)
noncomputable def VJ:At->Bool
 |.p _=>false
 |_=>true
def vt{a b:List Pt}(h:aB a=aB b):aM a=aM b:=(gF a b).mpr (by simp only[iT,bX,eZ,h])
def Ek{a a' b b':List Pt}(h1:aM a=aM a')(h2:aM b=aM b'):aM (a++b)=aM (a'++b'):=by
 have e1:=(gF _ _).mp h1;have e2:=(gF _ _).mp h2;simp only[iT,Prod.mk.injEq]at e1 e2;refine(gF _ _).mpr ?_;have key:∀k,told k b=told k b':=λk=>by
  have q1:=(ek b k).symm;rw[h2,ek]at q1;exact q1
 simp only[iT,dP,fP,e1.1,e1.2,e2.1,key]
theorem qi:∀{x y:List (List Nat)}{t:List Nat},dc (x++y) t=true->dc x (t.take x.length)=true/\dc y (t.drop x.length)=true
 |[],_,_,h=>⟨rfl,h⟩
 |_ :: x,y,[],h=>by simp[dc]at h
 |z :: x,y,c :: t,h=>by
  simp only[WR,dc,Vp]at h;obtain⟨h1,h2⟩:=qi h.2;exact⟨by simp only[WY,XF,dc,Vp];exact⟨h.1,h1⟩,by simpa using h2⟩
theorem qj:∀(a b:List At) (t:List Nat),dA (a++b) t=dA a (t.take (aA a).length)++dA b (t.drop (aA a).length)
 |[],b,t=>by simp[dA,aA]
 |.k :: a,b,t=>by
  simp only[WR,dA,aA,WY,qj a b];cases t with
  |nil=>simp
  |cons c t=>simp
 |.d c :: a,b,t=>by
  simp only[WR,dA,aA,WY,qj a b];cases t with
  |nil=>simp
  |cons c t=>simp
 |.p c :: a,b,t=>by simp only[WR,dA,aA,qj a b]
noncomputable def sQ:List At->Bool
 |.p _ :: _=>false
 |_=>true
structure Cut(c:List Pt)(p:Nat)(A B:List Pt):Prop where
 at_:aB A++aB B=aB (aM c)
 bA:az A=p
 hd:sQ (aB B)=true
 pA:∀q∈A,0<q.n
 pB:∀q∈B,0<q.n
 fA:eg A=true
 fB:eg B=true
section
variable{c A B:List Pt}{p:Nat}{t:List Nat}
def gk(c:List Pt):az c=(aA (aB c)).length:=by rw[<-bX,fQ]
def Cut.fit(h:Cut c p A B)(hf:bg c t=true):bg A (t.take p)=true/\bg B (t.drop p)=true:=by
 rw[<-oX,kL,bX,<-h.at_,iB]at hf;obtain⟨h1,h2⟩:=qi hf;rw[<-gk,h.bA]at h1 h2;exact⟨by rw[kL,bX];exact h1,by rw[kL,bX];exact h2⟩
def Cut.done(h:Cut c p A B):aT A (t.take p)++aT B (t.drop p)=aT c t:=by
 rw[<-BJ c,oY (aM c),<-h.at_,qj,<-gk,h.bA,<-oY,<-oY]
def Cut.join(h:Cut c p A B):aM (A++B)=aM c:=by
 rw[vt (show aB (A++B)=aB (aM c)by rw[eS];exact h.at_),jU]
def Cut.MN(h:Cut c p A B):p+az B=az c:=by rw[<-fR c,gk (aM c),<-h.at_,iB,WN,<-gk,<-gk,h.bA]
def Cut.zx(h:Cut c p A B):tot A+tot B=tot c:=by rw[<-iM c,<-gT (aM c),<-h.at_,WN,gT,gT]
def Cut.lA(h:Cut c p A B):A.length<=tot A:=gU h.pA
end
end Pv
namespace Pv
open Ev (D bh aZ TY BI ME T E Es Eo It S Ss Fn big deep rep cut bu)
noncomputable def zy(bI:Nat):S:=.ret (.cl bI (.cons (.bin .add (.v 0) (.v 1)) .nil))
noncomputable def El(bI:Nat):Fn:=⟨2,2,(.cons (zy bI) .nil)⟩
noncomputable def Ir(gG:Nat):S:=.iff (.orr (.cmp .lt (.v 1) (.c (.int 0))) (.cmp .gt (.v 1) (.cl gG (.cons (.v 0) .nil)))) (.cons (.fy 2) .nil) .nil
noncomputable def Iu(bI:Nat):S:=.set 2 (.ji (.rev (.cl bI (.cons (.v 0) .nil))))
noncomputable def Iv:S:=.set 3 (.lst .nil)
noncomputable def Iw:S:=.set 4 (.v 1)
noncomputable def qZ(bD:Nat)(dZ:Nat):Ss:=(.cons (.iff (.cmp .eq (.ix (.ix (.v 2) (.neg (.c (.int 1)))) (.c (.int 0))) (.c (.str [112,117,116]))) (.cons (.exp (.me .append (.v 3) (.cons (.me .pop (.v 2) .nil) .nil))) .nil) (.cons (.set 5 (.bi .min (.cons (.v 4) (.cons (.cl bD (.cons (.ix (.v 2) (.neg (.c (.int 1)))) .nil)) .nil)))) (.cons (.exp (.me .append (.v 3) (.cons (.cl dZ (.cons (.v 2) (.cons (.v 5) .nil))) .nil))) (.cons (.set 4 (.bin .sub (.v 4) (.v 5))) .nil)))) .nil)
noncomputable def Iz(bD:Nat)(dZ:Nat):S:=.nW (.an (.v 2) (.orr (.cmp .gt (.v 4) (.c (.int 0))) (.cmp .eq (.ix (.ix (.v 2) (.neg (.c (.int 1)))) (.c (.int 0))) (.c (.str [112,117,116]))))) (qZ bD dZ)
noncomputable def xU:S:=.ret (.tup (.cons (.gZ (.v 3)) (.cons (.lV (.v 2)) .nil)))
noncomputable def nN(gG:Nat)(bI:Nat)(bD:Nat)(dZ:Nat):Fn:=⟨2,6,(.cons (Ir gG) (.cons (Iu bI) (.cons Iv (.cons Iw (.cons (Iz bD dZ) (.cons xU .nil))))))⟩
noncomputable def BX(lN:Nat)(jW:Nat):S:=.ret (.cl lN (.cons (.cl lN (.cons (.cl jW (.cons (.v 0) .nil)) (.cons (.v 1) .nil))) (.cons (.cl jW (.cons (.v 2) .nil)) .nil)))
noncomputable def IA(lN:Nat)(jW:Nat):Fn:=⟨3,3,(.cons (BX lN jW) .nil)⟩
section
variable{F:List Fn}{w n aE aD aQ bE aY bC i:Nat}
noncomputable def fT(c:List Pt)(p:Nat)(R C:List Pt)(l:Nat)(a:Option Sl):Fr:=[some (.val (aJ c)),some (.val (.int p)),some (.own (R.map Pt.v).reverse),some (.own (C.map Pt.v)),some (.val (.int l)),a]
noncomputable def qk(C R:List Pt)(l:Nat):Prop:=eg C=true/\eg R=true/\((∀x∈C.getLast?,∀y∈R.head?,ef x.word y.word=true)\/l=0/\∀y∈R.head?,dw y=false)
noncomputable def FJ(c:List Pt)(p k:Nat)(fr:Fr):Prop:=∃R C l a,qk C R l/\aB C++aB R=aB (aM c)/\az C+l=p/\l<=az R/\(∀q∈R,0<q.n)/\(∀q∈C,0<q.n)/\k=tot R/\vo a/\fr=fT c p R C l a
noncomputable def Vn:E:=.an (.v 2) (.orr (.cmp .gt (.v 4) (.c (.int 0))) (.cmp .eq (.ix (.ix (.v 2) (.neg (.c (.int 1)))) (.c (.int 0))) (.c (.str [112,117,116]))))
def e8{q:Pt}{R:List Pt}(h:eg (q :: R)=true):eg R=true/\eg [q]=true/\∀y∈R.head?,ef q.word y.word=true:=by
 simp only[eg,Vp,WO,List.all_cons]at h ⊢;cases R with
 |nil=>exact⟨⟨rfl,rfl⟩,⟨rfl,by simp[h.2.1]⟩,λy hy=>by cases hy⟩
 |cons r R=>
  have:=nL [q.word] ((r :: R).map Pt.word);have h2:=this.mp h.1;exact⟨⟨h2.2.1,h.2.2⟩,⟨rfl,by simp[h.2.1]⟩,λy hy=>by simp at hy;subst hy;exact h2.2.2 _ (by simp) _ (by simp)⟩
def Em{q:Pt}{R:List Pt}(h:eg R=true)(hq:0<q.n)(hr:∀y∈R.head?,ef q.word y.word=true):eg (q :: R)=true:=
 nM (a:=[q]) (b:=R) (by simp[eg,jg,Bw];omega) h λp hp y hy=>by simp at hp;subst hp;exact hr y hy
def qk.put{C R:List Pt}{q:Pt}{l:Nat}(h:qk C (q :: R) l)(hq:dw q=true):qk (C++[q]) R l:=by
 obtain⟨h1,h2,h3⟩:=h;obtain⟨t1,t2,t3⟩:=e8 h2;rcases h3 with h3|⟨_,h3⟩
 .exact⟨nM h1 t2 λp hp y hy=>by simp at hy;subst hy;exact h3 p hp _ (by simp),t1,.inl λx hx y hy=>by simp at hx;subst hx;exact t3 y hy⟩
 .have:=h3 q (by simp);rw[hq]at this;cases this
def q8(m:Nat)(q:Pt):(q.tk m).word=q.word/\(q.dp m).word=q.word:=by cases q<;>exact⟨rfl,rfl⟩
def qk.two{C R:List Pt}{q:Pt}{l m:Nat}(h:qk C (q :: R) l)(l0:0<l)(hq:dw q=false)(m0:0<m)(hm:m<=q.n)(Rq:m=l\/m=q.n):qk (C++[q.tk m]) (jJ m q++R) (l - m):=by
 obtain⟨h1,h2,h3⟩:=h;obtain⟨t1,t2,t3⟩:=e8 h2;rcases h3 with h3|⟨h3,_⟩
 .have hn:=(zw hm).2;refine⟨nM h1 (by simp[eg,jg,Bw];omega) λp hp y hy=>by simp at hy;subst hy;rw[(q8 m q).1];exact h3 p hp _ (by simp),?_,?_⟩
  .unfold jJ;split
   .rename_i hlt;exact Em t1 (by rw[o5];exact hlt) λy hy=>by rw[(q8 m q).2];exact t3 y hy
   .exact t1
  .unfold jJ;split
   .exact .inr ⟨by omega,λy hy=>by simp at hy;subst hy;cases q<;>first|rfl|cases hq⟩
   .refine .inl λx hx y hy=>?_;simp at hx;subst hx;rw[(q8 m q).1];exact t3 y hy
 .omega
def MO{q:Pt}{m:Nat}(h:m<=q.n)(hq:dw q=false):az [q.tk m]=m:=by
 cases q with
 |put s=>cases hq
 |keep k=>simp[Pt.tk,az,tot,dw,Pt.n]
 |drop s=>simp[Pt.tk,az,tot,dw,Pt.n]at h ⊢;omega
def IB{q:Pt}{m:Nat}(hq:dw q=false):az (jJ m q)=q.n - m:=by
 cases q with
 |put s=>cases hq
 |keep k=>unfold jJ;split<;>simp[Pt.dp,az,tot,dw,Pt.n]at *<;>omega
 |drop s=>unfold jJ;split<;>simp[Pt.dp,az,tot,dw,Pt.n]at *<;>omega
def En{q:Pt}{R:List Pt}(hq:dw q=false):az (q :: R)=q.n+az R:=by cases q<;>simp_all [az,tot,dw,Pt.n]
def MP{q:Pt}{m:Nat}(h:m<=q.n)(h0:0<m):0<(q.tk m).n:=by rw[(zw h).2];exact h0
def MQ(hs:F[aE]?=some dh){c:List Pt}{p:Nat}(R C:List Pt)(s:List Nat)(l:Nat)(a:Option Sl)(hJ:qk C (.put s :: R) l)(hC:aB C++aB (.put s :: R)=aB (aM c))(hl:az C+l=p)(hb:l<=az (.put s :: R))(hR:∀q∈Pt.put s :: R,0<q.n)(pC:∀q∈C,0<q.n)(lC:C.length<=5000)(ha:vo a) :
  Wp (exs (run F w (n+2)) w (qZ aE bC) (fT c p (.put s :: R) C l a)) λg fr=>g=.nx/\∃j,j<tot (.put s :: R)/\FJ c p j fr:=by
 have ap:∀fr:Fr,gR .append 3 [(Pt.put s).v] fr (some (some (.own (C.map Pt.v))))=.ok .aU (fr.set 3 (some (.own ((C++[Pt.put s]).map Pt.v)))):=λfr=>by
  rw[W0];exact kG (by simp;omega)
 unfold fT;rw[WO,Xk];refine ai (aP (b:=true) (ay rfl (by (repeat (first|array_get_dec|exact iO))) rfl) (λ_=>?_) λh=>absurd h (by decide));refine ai (fW (by (repeat (first|array_get_dec|exact HU|exact ap _))) (aC (aC ?_)));have h0:=hR _ (.head _);refine⟨rfl,tot R,by rw[cU];omega,R,C++[.put s],l,a,hJ.put rfl,?_,?_,?_,λq hq=>hR q (.tail _ hq),λq hq=>?_,rfl,ha,rfl⟩
 .rw[<-hC,eS,cX];simp[aB]
 .rw[kM];simp[az,tot,dw]at hl ⊢;exact hl
 .rw[iA]at hb;exact hb
 .rcases List.mem_append.mp hq with hq|hq
  .exact pC q hq
  .rw[List.mem_singleton.mp hq];exact h0
def MR(hs:F[aE]?=some dh)(hp:F[aY]?=some dQ)(ht:F[bC]?=some (fk aY aE)){c:List Pt}{p:Nat}(R C:List Pt)(q:Pt)(l:Nat)(a:Option Sl)(hJ:qk C (q :: R) l)(hq:dw q=false)(l0:0<l)(hC:aB C++aB (q :: R)=aB (aM c))(hl:az C+l=p)(hb:l<=az (q :: R))
  (hR:∀x∈q :: R,0<x.n) (pC:∀x∈C,0<x.n) (lC:C.length<=5000) (lR:tot (q :: R)<=5000) (ha:vo a) :
  Wp (exs (run F w (n+2)) w (qZ aE bC) (fT c p (q :: R) C l a)) λg fr=>g=.nx/\∃j,j<tot (q :: R)/\FJ c p j fr:=by
 have q0:=hR q (.head _);rw[cU]at lR;have l2:=gU (c:=R) λx hx=>hR x (.tail _ hx);obtain⟨m,hm1,hm2,Rq⟩:∃m:Nat,m<=l/\m<=q.n/\(m=l\/m=q.n):=⟨min l q.n,by omega,by omega,by omega⟩
 have m0:0<m:=by omega
 have mn:cK .min [.int l,.int q.n]=some (.int m):=by
  rw[L5];split
  .congr 2;omega
  .congr 2;omega
 have z1:=λfr=>dm (fr:=fr) (lE (F:=F) (w:=w) (n:=n+1) hs q (by omega));have t1:=BW (F:=F) (w:=w) (n:=n) hs hp ht (R.map Pt.v).reverse q m hm2 (by omega) (by simp;omega);rw[<-Ip]at t1;have ap:∀fr:Fr,gR .append 3 [(q.tk m).v] fr (some (some (.own (C.map Pt.v))))=.ok .aU (fr.set 3 (some (.own ((C++[q.tk m]).map Pt.v)))):=λfr=>by
  rw[W0];exact kG (by simp;omega)
 have fin:(Fl.nx=Fl.nx/\∃j,j<tot (q :: R)/\FJ c p j (fT c p (jJ m q++R) (C++[q.tk m]) (l - m) (some (.val (.int m))))):=by
  refine⟨rfl,_,?_,_,_,_,_,hJ.two l0 hq m0 hm2 Rq,?_,?_,?_,?_,?_,rfl,.val,rfl⟩
  .rw[iJ,Iq,cU];omega
  .rw[<-hC,eS,eS,cX q,Im hm2];simp[aB]
  .rw[kM,MO hm2 hq];omega
  .rw[kM,IB hq];rw[En hq]at hb;omega
  .intro x hx;rcases List.mem_append.mp hx with hx|hx
   .exact Io m q x hx
   .exact hR x (.tail _ hx)
  .intro x hx;rcases List.mem_append.mp hx with hx|hx
   .exact pC x hx
   .rw[List.mem_singleton.mp hx];exact MP hm2 m0
 have sb:bN .sub (.int (l:Int)) (.int (m:Int))=some (.int ((l - m:Nat):Int)):=by rw[iH];congr 2;omega
 unfold fT at fin ⊢;rw[WO,Xk];have MS:aH (run F w (n+2)) (.cmp .eq (.ix (.ix (.v 2) (.neg (.c (.int 1)))) (.c (.int 0))) (.c (.str [112,117,116]))) [some (.val (aJ c)),some (.val (.int p)),some (.own ((R.map Pt.v).reverse++[q.v])),some (.own (C.map Pt.v)),some (.val (.int l)),a]=.ok false [some (.val (aJ c)),some (.val (.int p)),some (.own ((R.map Pt.v).reverse++[q.v])),some (.own (C.map Pt.v)),some (.val (.int l)),a]:=by
  cases q with
  |put s=>cases hq
  |keep k=>exact ay rfl (by (repeat (first|array_get_dec|exact iO))) rfl
  |drop s=>exact ay rfl (by (repeat (first|array_get_dec|exact iO))) rfl
 refine ai (aP MS (λh=>absurd h (by decide)) λ_=>?_);refine ai (aW (by (repeat (first|exact mn|array_get_dec|exact iO|exact z1 _))) rfl (gi rfl ha) ?_);refine ai (fW (by (repeat (first|array_get_dec|exact Pr rfl t1|exact ap _))) ?_);exact ai (aW (by (repeat (first|exact sb|array_get_dec))) rfl rfl (aC (aC fin)))
def q9(hst:F[aD]?=some cI)(hf:F[aQ]?=some (eL aD))(hs:F[aE]?=some dh)(hp:F[aY]?=some dQ)(ht:F[bC]?=some (fk aY aE))(hb:F[bE]?=some (gE aE))(hd:F[i]?=some (nN bE aQ aE bC))(hw:5000<w)
  (c:List Pt) (p:Nat) (h1:c.length<=5000) (h2:tot c<=4000) (h:p<=az c):∃A B,run F w (n+3) i [.val (aJ c),.val (.int p)]=some (.tup [aJ A,aJ B],[])/\Cut c p A B:=by
 have c1:=λfr=>dm (fr:=fr) (qa (F:=F) (w:=w) (n:=n) hs hb c (by omega) (by omega));have c2:=λfr=>dm (fr:=fr) (iK (F:=F) (w:=w) (n:=n) hst hf c (by omega) (by omega));have t1:=iM c;have g1:=gU (fq (cF c));have m1:ee ((aM c).map Pt.v).reverse=some (.lst ((aM c).map Pt.v).reverse):=dH (bS (by simp;omega));have n1:cop .lt (.int (p:Int)) (.int 0)=some false:=by rw[Dw];simp
 have n2:cop .gt (.int (p:Int)) (.int (az c))=some false:=by rw[mX];simp;omega
 have key:Wp (exs (run F w (n+2)) w (nN bE aQ aE bC).body (eE (nN bE aQ aE bC) [.val (aJ c),.val (.int p)])) λg fr=>∃A B,Cut c p A B/\g=.ret (.tup [aJ A,aJ B])/\outs 2 fr=[]:=by
  refine ai (aP (b:=false) (dO (ay rfl (aR (au rfl) (aN rfl) n1) rfl) (ay rfl (aR (au rfl) (b9 (aX rfl (au rfl) br) (c1 _)) n2) rfl)) (λh=>absurd h (by decide)) λ_=>aC ?_);refine ai (jI (l:=((aM c).map Pt.v).reverse) (Fp (Mz (b9 (aX rfl (au rfl) br) (c2 _)) rfl) m1) rfl rfl ?_);refine ai (jI (l:=[]) (by repeat array_get_dec) rfl rfl ?_);refine ai (aW (au rfl) rfl rfl ?_);refine ai (Pj (uY (FJ c p) (λk fr hI=>?_) w (tot (aM c)) _ (by omega) ⟨aM c,[],p,none,⟨rfl,cF c,.inl λx hx=>by cases hx⟩,rfl,by simp[az,tot],by rw[fR];exact h,fq (cF c),(λq hq=>by cases hq),rfl,.none,rfl⟩));obtain⟨R,C,l,a,hJ,hC,hl,MT,hR,pC,hkk,MU,rfl⟩:=hI;have ln:=WT List.length hC;rw[WN,gT,gT,gT]at ln;have lC:=gU pC;have lR:=gU hR;have fin:l=0->sQ (aB R)=true->nx (run F w (n+2)) w (.cons xU .nil) (λg fr=>∃A B,Cut c p A B/\g=.ret (.tup [aJ A,aJ B])/\outs 2 fr=[]) .nx (fT c p R C l a):=λe0 e1=>by
   have sh:gr (fT c p R C l a)=[some (.val (aJ c)),some (.val (.int p)),some (.val (.lst (R.map Pt.v).reverse)),some (.val (.lst (C.map Pt.v))),some (.val (.int l)),a]:=by
    show _ :: _ :: _ :: _ :: _ :: [a.map Sl.gb]=_;rw[dY MU];rfl
   have m2:gg (C.map Pt.v)=some (aJ C):=iZ (bS (by simp;omega));have m3:qR (.lst (R.map Pt.v).reverse)=some (aJ R):=by
    show gg (R.map Pt.v).reverse.reverse=_;rw[List.reverse_reverse];exact iZ (bS (by simp;omega))
   refine ai (b8 (v:=.tup [aJ C,aJ R]) (af:=[some (.val (aJ c)),some (.val (.int p)),some (.val (.lst (R.map Pt.v).reverse)),some (.val (.lst (C.map Pt.v))),some (.val (.int l)),a]) ?_ ⟨C,R,⟨hC,by omega,e1,pC,hR,hJ.1,hJ.2.1⟩,rfl,rfl⟩);rw[sh];exact iu (aF (pX (au rfl) m2) (aF (Ph (au rfl) m3) aI)) nE
  cases R with
  |nil=>
   refine⟨false,_,mW (ay rfl (au rfl) rfl),?_⟩;dsimp only;rw[WQ (by decide)];exact fin (by simp[az,tot]at MT;omega) rfl
  |cons q R=>
   have MV:aH (run F w (n+2)) (.v 2) (fT c p (q :: R) C l a)=.ok true (fT c p (q :: R) C l a):=by
    unfold fT;rw[WO,Xk];exact ay rfl (au rfl) Pq
   by_cases hq:dw q=true
   .cases q with
    |keep k=>cases hq
    |drop s=>cases hq
    |put s=>
     have ht1:aH (run F w (n+2)) Vn (fT c p (.put s :: R) C l a)=.ok true (fT c p (.put s :: R) C l a):=by
      refine fh MV ?_;by_cases h0:0<l
      .exact pZ (ay rfl (aR (au rfl) (aN rfl) (by rw[mX];simp;exact h0)) rfl)
      .refine dO (ay rfl (aR (b:=false) (au rfl) (aN rfl) (by rw[mX];simp;omega)) rfl) ?_;unfold fT;rw[WO,Xk];exact ay rfl (by (repeat (first|array_get_dec|exact iO))) rfl
     refine⟨true,_,ht1,?_⟩;dsimp only;rw[xV rfl];refine(MQ hs R C s l a hJ hC hl MT hR pC (by omega) MU).mono λg fr ⟨hg,hx⟩=>?_;subst hg hkk;exact hx
   .have hq':dw q=false:=by simpa using hq
    by_cases h0:0<l
    .refine⟨true,_,fh MV (pZ (ay rfl (aR (au rfl) (aN rfl) (by rw[mX];simp;exact h0)) rfl)),?_⟩;dsimp only;rw[xV rfl];refine(MR hs hp ht R C q l a hJ hq' h0 hC hl MT hR pC (by omega) (by omega) MU).mono λg fr ⟨hg,hx⟩=>?_;subst hg hkk;exact hx
    .have MS:aH (run F w (n+2)) (.cmp .eq (.ix (.ix (.v 2) (.neg (.c (.int 1)))) (.c (.int 0))) (.c (.str [112,117,116]))) (fT c p (q :: R) C l a)=.ok false (fT c p (q :: R) C l a):=by
      unfold fT;rw[WO,Xk];cases q with
      |put s=>cases hq'
      |keep k=>exact ay rfl (by (repeat (first|array_get_dec|exact iO))) rfl
      |drop s=>exact ay rfl (by (repeat (first|array_get_dec|exact iO))) rfl
     refine⟨false,_,fh MV (dO (ay rfl (aR (b:=false) (au rfl) (aN rfl) (by rw[mX];simp;omega)) rfl) MS),?_⟩;dsimp only;rw[WQ (by decide)];refine fin (by omega) ?_;have q0:=hR q (.head _);rw[cX];cases q with
     |put s=>cases hq'
     |keep k=>cases k with
      |zero=>exact absurd q0 (by simp[Pt.n])
      |succ k=>simp[Pt.aB,Tv,sQ]
     |drop s=>cases s with
      |nil=>exact absurd q0 (by simp[Pt.n])
      |cons x s=>simp[Pt.aB,sQ]
 obtain⟨g,fr,e,A,B,hc,hg,ho⟩:=key;exact⟨A,B,cy hd rfl ⟨g,fr,e,hg,ho⟩,hc⟩
section
def IC(a b:List Pt):bP (a++b)=bP a+bP b:=by simp[bP,tot]
end
end
noncomputable def cE:List At->Bool
 |.p _ :: .d _ :: _=>false
 |_ :: a=>cE a
 |[]=>true
def jX(a:List At):cE (.k :: a)=cE a:=by rw[cE];intro c d r h;cases h
def tT(c:Nat)(a:List At):cE (.d c :: a)=cE a:=by rw[cE];intro c d r h;cases h
def jK(c:Nat)(a:List At):cE (.p c :: .k :: a)=cE a:=by rw[cE,jX];intro c d r h1 h;cases h
def jL(c d:Nat)(a:List At):cE (.p c :: .p d :: a)=cE (.p d :: a):=by rw[cE];intro c d r h1 h;cases h
def zz(c:Nat):cE [.p c]=true:=by rw[cE];rfl;intro c d r h1 h;cases h
def eB{x:At}{a:List At}(h:cE (x :: a)=true):cE a=true:=by
 cases x with
 |k=>rw[jX]at h;exact h
 |d c=>rw[tT]at h;exact h
 |p c=>
  cases a with
  |nil=>rfl
  |cons y a=>
   cases y with
   |k=>rw[jK]at h;rw[jX];exact h
   |d e=>simp[cE]at h
   |p e=>rw[jL]at h;exact h
theorem vz:∀(b:List At) (x c:Nat) (l:List (List Nat)),cE (.p x :: b)=true->aA b=[c] :: l->False
 |[],_,_,_,_,h=>by simp[aA]at h
 |.k :: b,_,_,_,_,h=>by simp[aA]at h
 |.d y :: b,_,_,_,hn,_=>by simp[cE]at hn
 |.p y :: b,x,c,l,hn,h=>vz b y c l (eB hn) h
theorem nO:∀(a b:List At) (i:Nat),cE a=true->cE b=true->aA a=aA b->tA i a=tA i b->a=b
 |[],[],_,_,_,_,_=>rfl
 |[],.k :: b,i,_,_,h,_=>by simp[aA]at h
 |[],.d c :: b,i,_,_,h,_=>by simp[aA]at h
 |[],.p c :: b,i,_,_,_,h=>by simp[tA]at h
 |.k :: a,[],i,_,_,h,_=>by simp[aA]at h
 |.d c :: a,[],i,_,_,h,_=>by simp[aA]at h
 |.p c :: a,[],i,_,_,_,h=>by simp[tA]at h
 |.k :: a,.k :: b,i,h1,h2,h3,h4=>by
  simp only[aA,tA,ZO,true_and]at h3 h4;rw[nO a b (i+1) (eB h1) (eB h2) h3 h4]
 |.k :: a,.d c :: b,i,_,_,h,_=>by simp[aA]at h
 |.k :: a,.p c :: b,i,_,_,_,h=>by simp[tA]at h
 |.d c :: a,.k :: b,i,_,_,h,_=>by simp[aA]at h
 |.d c :: a,.d e :: b,i,h1,h2,h3,h4=>by
  simp only[aA,tA,ZO,and_true]at h3 h4;obtain⟨rfl,h3⟩:=h3;rw[nO a b (i+1) (eB h1) (eB h2) h3 h4]
 |.d c :: a,.p e :: b,i,h1,h2,h3,_=>(vz b e c (aA a) h2 (by simpa[aA]using h3.symm)).elim
 |.p c :: a,.k :: b,i,_,_,_,h=>by simp[tA]at h
 |.p c :: a,.d e :: b,i,h1,h2,h3,_=>(vz a c e (aA b) h1 (by simpa[aA]using h3)).elim
 |.p c :: a,.p e :: b,i,h1,h2,h3,h4=>by
  simp only[aA,tA,ZO,Tq.sg.injEq]at h3 h4;obtain⟨rfl,h4⟩:=h4;rw[nO a b i (eB h1) (eB h2) h3 h4]
def MW(n:Nat)(a:List At):cE (List.replicate n .k++a)=cE a:=by
 induction n with
 |zero=>rfl
 |succ n ih=>rw[Tv,WR,jX,ih]
def MX(s:List Nat)(a:List At):cE (s.map .d++a)=cE a:=by
 induction s with
 |nil=>rfl
 |cons c s ih=>rw[WO,WR,tT,ih]
theorem xW:∀(s:List Nat) (a:List At),BP a=true->cE a=true->cE (s.map .p++a)=true
 |[],a,_,h=>h
 |[c],a,h1,h=>by
  cases a with
  |nil=>exact zz c
  |cons y a=>
   cases y with
   |k=>rw[jX]at h;show cE (.p c :: .k :: a)=true;rw[jK];exact h
   |d e=>simp[BP]at h1
   |p e=>show cE (.p c :: .p e :: a)=true;rw[jL];exact h
 |c :: d :: s,a,h1,h=>by
  have:=xW (d :: s) a h1 h;show cE (.p c :: .p d :: (s.map At.p++a))=true;rw[jL];exact this
theorem iP:∀{A:List Pt},eg A=true->cE (aB A)=true
 |[],_=>rfl
 |q :: R,h=>by
  obtain⟨t1,t2,t3⟩:=e8 h;have ih:=iP t1;rw[cX];cases q with
  |keep n=>rw[Pt.aB,MW];exact ih
  |drop s=>rw[Pt.aB,MX];exact ih
  |put s=>
   rw[Pt.aB];refine xW s _ ?_ ih;cases R with
   |nil=>rfl
   |cons r R=>
    have:=t3 r (by simp);rw[cX];cases r with
    |keep n=>
     cases n with
     |zero=>have:=fq t1 (.keep 0) (.head _);simp[Pt.n]at this
     |succ n=>simp[Pt.aB,Tv,BP]
    |drop s2=>simp[ef,Pt.word]at this
    |put s2=>simp[ef,Pt.word]at this
def Ep{X:List Pt}(h:cE (aB X)=true):aB (aM X)=aB X:=
 nO _ _ 0 (iP (cF X)) h (by rw[<-bX,<-bX,dJ]) (by rw[<-eZ,<-eZ,ek])
noncomputable def jY(A:List Pt):Nat:=match A.getLast? with
 |some (.put _)=>bP A.dropLast
 |_=>bP A
def ql(c:List Pt):bP c=(tA 0 (aB c)).length:=by rw[<-eZ,lH]
noncomputable def qm(lO:Nat):S:=.set 3 (.ix (.cl lO (.cons (.v 0) (.cons (.v 1) .nil))) (.c (.int 0)))
noncomputable def qo(dD:Nat):S:=.iff (.an (.cmp .eq (.v 2) (.c (.str [97,104,101,97,100]))) (.an (.v 3) (.cmp .eq (.ix (.ix (.v 3) (.neg (.c (.int 1)))) (.c (.int 0))) (.c (.str [112,117,116]))))) (.cons (.ret (.cl dD (.cons (.sl (.v 3) .no (.yes (.neg (.c (.int 1))))) .nil))) .nil) .nil
noncomputable def jZ(dD:Nat):S:=.ret (.cl dD (.cons (.v 3) .nil))
noncomputable def lZ(lO:Nat)(dD:Nat):Fn:=⟨3,4,(.cons (qm lO) (.cons (qo dD) (.cons (jZ dD) .nil)))⟩
section
variable{F:List Fn}{w n aE aD aQ bE cB aY bC fY i:Nat}
def MY{α:Type}(m:List α)(x:α):cut (m++[x]) none (some (-1))=m:=by
 have e:Ev.aK (m++[x]).length (m++[x]).length (some (-1))=m.length:=by
  unfold Ev.aK;dsimp only;rw[xV (by decide)];simp;omega
 unfold Ev.cut;rw[e];simp[Ev.aK]
def qp(hst:F[aD]?=some cI)(hf:F[aQ]?=some (eL aD))(hs:F[aE]?=some dh)(hp:F[aY]?=some dQ)(ht:F[bC]?=some (fk aY aE))(hb:F[bE]?=some (gE aE))(ha:F[cB]?=some (jy aE))(hc:F[fY]?=some (nN bE aQ aE bC))
  (hd:F[i]?=some (lZ fY cB)) (hw:5000<w) (c:List Pt) (p:Nat) (h1:c.length<=900) (h2:tot c<=900) (h:p<=az c) :
  ∃A B,Cut c p A B/\run F w (n+4) i [.val (aJ c),.val (.int p),.val (.str [97,104,101,97,100])]=some (.int (jY A),[]):=by
 obtain⟨A,B,r,C⟩:=q9 (F:=F) (w:=w) (n:=n) hst hf hs hp ht hb hc hw c p (by omega) (by omega) h;refine⟨A,B,C,?_⟩;have q1:=λfr=>call2 (fr:=fr) r;have b1:=C.zx;have b2:=C.lA;have q2:=λ(x:List Pt) (l1:x.length<=900) (l2:tot x<=900) fr=>dm (fr:=fr) (mZ (F:=F) (w:=w) (n:=n+1) hs ha x (by omega) (by omega));refine cy hd rfl ?_;refine ai (aW (bT (b9 (aX rfl (au rfl) (aX rfl (au rfl) br)) (q1 _)) (aN rfl) rfl) rfl rfl ?_);have fin:jY A=bP A->Wp (exs (run F w (n+3)) w (.cons (jZ cB) .nil) [some (.val (aJ c)),some (.val (.int p)),some (.val (.str [97,104,101,97,100])),some (.val (aJ A))]) λg fr=>g=.ret (.int (jY A))/\outs 3 fr=[]:=λe=>by
  rw[e];exact ai (b8 (b9 (aX rfl (au rfl) br) (q2 A (by omega) (by omega) _)) ⟨rfl,rfl⟩)
 rcases YZ A with rfl|⟨X,q,hX⟩
 .exact ai (aP (b:=false) (fh (ay rfl (aR (au rfl) (aN rfl) eX) rfl) (mW (ay rfl (au rfl) rfl))) (λh=>absurd h (by decide)) λ_=>aC (fin rfl))
 .rw[Y0]at hX;subst hX;have il:dg (aJ (X++[q])) (.int (-1))=some q.v:=by
   show bu ((X++[q]).map Pt.v) (-1)=_;rw[u5,W0];simp
  have tr:truthy (aJ (X++[q]))=true:=by show(!((X++[q]).map Pt.v).isEmpty)=true;simp
  have sl:gf (aJ (X++[q])) none (some (-1))=some (aJ X):=by
   show some (V.tup (cut ((X++[q]).map Pt.v) none (some (-1))))=_;rw[W0];exact WT (λz=>some (V.tup z)) (MY (X.map Pt.v) q.v)
  have tX:tot X<=900:=by rw[iJ]at b1;omega
  have lX:X.length<=900:=by simp at b2;omega
  have ng:ev (run F w (n+3)) true (.neg (.c (.int 1)))=λfr=>.ok (.int (-1)) fr:=by funext fr;exact lB (aN rfl)
  cases q with
  |put s=>
   have e:jY (X++[.put s])=bP X:=by simp[jY]
   refine ai (aP (b:=true) (fh (ay rfl (aR (au rfl) (aN rfl) eX) rfl) (fh (ay rfl (au rfl) tr) (ay rfl (aR (bT (bT (au rfl) (lB (aN rfl)) il) (aN rfl) rfl) (aN rfl) eX) rfl))) (λ_=>?_) λh=>absurd h (by decide));rw[e];exact ai (b8 (b9 (aX rfl (Du (au rfl) Fq (pY (lB (aN rfl))) sl) br) (q2 X lX tX _)) ⟨rfl,rfl⟩)
  |keep k=>
   have e:jY (X++[.keep k])=bP (X++[.keep k]):=by simp[jY]
   exact ai (aP (b:=false) (fh (ay rfl (aR (au rfl) (aN rfl) eX) rfl) (fh (ay rfl (au rfl) tr) (ay rfl (aR (bT (bT (au rfl) (lB (aN rfl)) il) (aN rfl) rfl) (aN rfl) eX) rfl))) (λh=>absurd h (by decide)) λ_=>aC (fin e))
  |drop s=>
   have e:jY (X++[.drop s])=bP (X++[.drop s]):=by simp[jY]
   exact ai (aP (b:=false) (fh (ay rfl (aR (au rfl) (aN rfl) eX) rfl) (fh (ay rfl (au rfl) tr) (ay rfl (aR (bT (bT (au rfl) (lB (aN rfl)) il) (aN rfl) rfl) (aN rfl) eX) rfl))) (λh=>absurd h (by decide)) λ_=>aC (fin e))
end
abbrev Row:=List Nat×List Pt
noncomputable def sX:S:=.ret (.an (.cmp .gt (.bi .len (.cons (.v 0) .nil)) (.c (.int 0))) (.cmp .eq (.ix (.ix (.v 0) (.neg (.c (.int 1)))) (.c (.int 0))) (.c (.str [112,117,116]))))
noncomputable def v9:Fn:=⟨1,1,(.cons sX .nil)⟩
end Pv
namespace Pv
end Pv
namespace Pv
open Ev (D bh aZ TY BI ME T E Es Eo It S Ss Fn big deep rep cut bu)
noncomputable def vl(x:List Nat):Tq->Nat
 |.at p=>x.getD p 0
 |.sg c=>c
noncomputable def kp(g:Nat->Bool):Nat->List (List Nat)->List Nat
 |_,[]=>[]
 |i,y :: a=>if decide (y=[])&&g i then i :: kp g (i+1) a else kp g (i+1) a
section
noncomputable def ou(c:List Pt)(x:List Nat):Option (List Nat):=if bg c x=true then some (aT c x)else none
end
end Pv
namespace Pv
open Ev (D bh aZ TY BI ME T E Es Eo It S Ss Fn big deep b2i rep bL cY bu aK cut bU cH slots)
noncomputable def mk(x:List Nat)(l:List Pt)(k:Nat)(f:List Nat):Option (List Nat):=if k<=x.length/\bg l (x.drop k)=true then some (f++aT l (x.drop k))else none
end Pv
namespace Pv
noncomputable def cz:List At->List Nat->List (List Nat)
 |[],l=>[l]
 |.p c :: a,l=>cz a (l++[c])
 |.d _ :: a,l=>[] :: cz a l
 |.k :: a,l=>l :: cz a []
noncomputable def ofT:Nat->List (List Nat)->List (List Nat)->List Tq
 |_,[],_=>[]
 |i,n :: ps,[]=>n.map .sg++ofT (i+1) ps []
 |i,n :: ps,k :: as=>n.map .sg++((if k=[]then [.at i]else [])++ofT (i+1) ps as)
theorem tU:∀(a:List At) (i:Nat) (l:List Nat),ofT i (cz a l) (aA a)=l.map .sg++tA i a
 |[],i,l=>by simp[cz,aA,ofT,tA]
 |.p c :: a,i,l=>by rw[cz,aA,tA,tU a i (l++[c])];simp
 |.d c :: a,i,l=>by simp only[cz,aA,tA,ofT];rw[tU a (i+1) l];simp
 |.k :: a,i,l=>by simp only[cz,aA,tA,ofT,Xa];rw[tU a (i+1) []];simp
noncomputable def xX:List (List Nat)->List Tq->List (List Nat)
 |[],T=>[T.filterMap λq=>match q with|.sg c=>some c|.at _=>none]
 |k :: as,T=>if k=[]then (T.takeWhile λq=>match q with|.sg _=>true|.at _=>false).filterMap (λq=>match q with|.sg c=>some c|.at _=>none) :: xX as ((T.dropWhile λq=>match q with|.sg _=>true|.at _=>false).tail)else [] :: xX as T
def BY(l:List Nat):(l.map Tq.sg).filterMap (λq=>match q with|.sg c=>some c|.at _=>none)=l:=by
 induction l with
 |nil=>rfl
 |cons c l ih=>simp[ih]
def FL(l:List Nat)(i:Nat)(T:List Tq):(l.map Tq.sg++.at i :: T).takeWhile (λq=>match q with|.sg _=>true|.at _=>false)=l.map Tq.sg/\(l.map Tq.sg++.at i :: T).dropWhile (λq=>match q with|.sg _=>true|.at _=>false)=.at i :: T:=by
 induction l with
 |nil=>simp[List.takeWhile,List.dropWhile]
 |cons c l ih=>simpa[List.takeWhile,List.dropWhile]using ih
theorem vA:∀(a:List At) (i:Nat) (l:List Nat),cz a l=xX (aA a) (l.map .sg++tA i a)
 |[],i,l=>by simp only[cz,aA,tA,xX,Xn];rw[BY]
 |.p c :: a,i,l=>by rw[cz,aA,tA,vA a i (l++[c])];simp
 |.d c :: a,i,l=>by
  simp only[cz,aA,tA,xX];rw[WQ (by simp),vA a (i+1) l]
 |.k :: a,i,l=>by
  simp only[cz,aA,tA,xX,Xa];rw[(FL l i _).1,(FL l i _).2,BY,vA a (i+1) []];simp
noncomputable def eT(c:List Pt):List (List Nat):=cz (aB c) []
def vC(c:List Pt):eT (aM c)=eT c:=by
 unfold eT;rw[vA _ 0,vA (aB c) 0,<-bX,<-bX,<-eZ,<-eZ,dJ,ek]
theorem m8:∀(a:List At) (l:List Nat),(cz a l).length=(aA a).length+1
 |[],l=>rfl
 |.p c :: a,l=>by rw[cz,aA,m8 a]
 |.d c :: a,l=>by simp[cz,aA,m8 a]
 |.k :: a,l=>by simp[cz,aA,m8 a]
def ID(c:List Pt):told 0 c=ofT 0 (eT c) (asks c):=by
 rw[eZ,bX,eT,tU];rfl
theorem iC:∀(x b:List At) (l:List Nat),∃I e,cz x l=I++[e]/\cz (x++b) l=I++cz b e
 |[],b,l=>⟨[],l,rfl,rfl⟩
 |.p c :: x,b,l=>iC x b (l++[c])
 |.d c :: x,b,l=>by obtain⟨I,e,h1,h2⟩:=iC x b l;exact⟨[] :: I,e,by simp[cz,h1],by simp[cz,h2]⟩
 |.k :: x,b,l=>by obtain⟨I,e,h1,h2⟩:=iC x b [];exact⟨l :: I,e,by simp[cz,h1],by simp[cz,h2]⟩
def FO:∀(b:List At) (e:List Nat),sQ b=true->(BP b=false->e=[])->cz b e=e :: (cz b []).tail
 |[],e,_,_=>rfl
 |.k :: b,e,_,_=>rfl
 |.d c :: b,e,_,h=>by obtain rfl:=h rfl;rfl
 |.p c :: b,e,h,_=>by cases h
def M4{x b:List At}(h:sQ b=true)(h2:BP b=false->∀I e,cz x []=I++[e]->e=[]):cz (x++b) []=cz x []++(cz b []).tail/\cz b []=[] :: (cz b []).tail:=by
 obtain⟨I,e,h3,h4⟩:=iC x b [];refine⟨?_,FO b [] h λ_=>rfl⟩;rw[h4,h3,FO b e h λz=>h2 z I e h3];simp
end Pv
namespace Pv
open Ev (D bh aZ TY BI ME T E Es Eo It S Ss Fn big deep b2i rep bL cY bu aK cut bU cH slots)
theorem FP:∀(s e:List Nat),cz (s.map .p) e=[e++s]
 |[],e=>by simp[cz]
 |c :: s,e=>by rw[WO,cz,FP s];simp
theorem zA:∀(s e:List Nat),cz (s.map .d) e=List.replicate s.length []++[e]
 |[],e=>by simp[cz]
 |c :: s,e=>by simp[cz,zA s,Tv]
theorem zB:∀(k:Nat) (e:List Nat),cz (List.replicate (k+1) .k) e=e :: (List.replicate k []++[[]])
 |0,e=>by simp[cz]
 |k+1,e=>by rw[Tv,cz,zB k];simp[Tv]
def FQ{x b:List At}{I:List (List Nat)}{e:List Nat}(h:cz x []=I++[e]):cz (x++b) []=I++cz b e:=by
 obtain⟨I',e',h1,h2⟩:=iC x b [];rw[h]at h1;obtain⟨e1,e2⟩:=Yz h1 rfl;cases e2;subst e1;exact h2
end Pv
namespace Pv
open Ev (D bh aZ TY BI ME T E Es Eo It S Ss Fn)
def Pu(a b:Nat):∀y:List At,cE (.p a :: y)=cE (.p b :: y)
 |[]=>by rw[zz,zz]
 |.k :: y=>by rw[jK,jK]
 |.d c :: y=>by simp[cE]
 |.p c :: y=>by rw[jL,jL]
theorem jz{c:Nat}{b:List At}:∀(x:List At) (l:List Nat) (I:List (List Nat)) (e:List Nat),(l≠[]->cE (.p 0 :: (x++.d c :: b))=true)->cE (x++.d c :: b)=true->cz x l=I++[e]->e=[]
 |[],l,I,e,h,_,h2=>by
  obtain⟨rfl,h3⟩:=Yz (s₁:=[]) (t₁:=[l]) h2 rfl;cases h3;by_cases hl:l=[]
  .exact hl
  .have:=h hl;simp[cE]at this
 |.p a :: x,l,I,e,h,h1,h2=>by
  refine jz x (l++[a]) I e (λ_=>?_) (eB h1) h2;rw[Pu 0 a];exact h1
 |.d a :: x,l,I,e,h,h1,h2=>by
  have hl:l=[]:=by
   by_cases hl:l=[]
   .exact hl
   .have:=h hl;simp[cE]at this
  subst hl;obtain⟨I',e',h3,_⟩:=iC x [] [];simp only[cz]at h2;rw[h3,<-WR]at h2;obtain⟨_,h4⟩:=Yz h2 rfl;cases h4;exact jz x [] I' _ (λz=>absurd rfl z) (eB h1) h3
 |.k :: x,l,I,e,h,h1,h2=>by
  obtain⟨I',e',h3,_⟩:=iC x [] [];simp only[cz]at h2;rw[h3,<-WR]at h2;obtain⟨_,h4⟩:=Yz h2 rfl;cases h4;exact jz x [] I' _ (λz=>absurd rfl z) (eB h1) h3
def xY{c A B:List Pt}{p:Nat}(hn:cE (aB (aM c))=true)(h:Cut c p A B):eT A=(eT c).take (p+1)/\eT B=[] :: (eT c).drop (p+1)/\asks A=(asks c).take p/\asks B=(asks c).drop p:=by
 have e1:asks A++asks B=asks c:=by rw[<-dJ c,bX,bX,bX,<-iB,h.at_]
 have lA:(asks A).length=p:=by rw[fQ,h.bA]
 rw[<-h.at_]at hn;obtain⟨g1,g2⟩:=M4 (x:=aB A) h.hd λz I e hI=>by
  cases hb:aB B with
  |nil=>rw[hb]at z;cases z
  |cons y b=>
   rw[hb]at z hn;cases y with
   |k=>cases z
   |p c=>cases z
   |d c=>exact jz (aB A) [] I e (λz=>absurd rfl z) hn hI
 have g3:eT c=eT A++(eT B).tail:=by rw[<-vC c];unfold eT;rw[<-h.at_];exact g1
 have lG:(eT A).length=p+1:=by unfold eT;rw[m8,<-bX,lA]
 refine⟨?_,?_,?_,?_⟩
 .rw[g3,List.take_left' lG]
 .rw[g3,List.drop_left' lG];exact g2
 .rw[<-e1,List.take_left' lA]
 .rw[<-e1,List.drop_left' lA]
noncomputable def bare(A:List (List Nat)):List Nat:=(List.range A.length).filter λj=>decide (A.getD j [0]=[])
end Pv
namespace Pv
open Ev (D bh aZ TY BI ME T E Es Eo It S Ss Fn big deep b2i rep bL cY bu aK cut bU cH slots)
noncomputable def o6(jh:Nat)(o7:Nat):S:=.ret (.cl jh (.cons (.cl o7 (.cons (.v 0) .nil)) (.cons (.v 1) (.cons (.v 2) .nil))))
noncomputable def ri(jh:Nat)(o7:Nat):Fn:=⟨3,3,(.cons (o6 jh o7) .nil)⟩
noncomputable def rj(lO:Nat):S:=.set 2 (.cl lO (.cons (.v 0) (.cons (.v 1) .nil)))
noncomputable def rm:S:=.iff (.nt (.ix (.v 2) (.c (.int 1)))) (.cons (.fy 2) .nil) .nil
noncomputable def kN:S:=.iff (.cmp .eq (.ix (.ix (.ix (.v 2) (.c (.int 1))) (.c (.int 0))) (.c (.int 0))) (.c (.str [100,114,111,112]))) (.cons (.ret (.c (.aU))) .nil) .nil
noncomputable def kO(dD:Nat):S:=.ret (.cl dD (.cons (.ix (.v 2) (.c (.int 0))) .nil))
noncomputable def vD(lO:Nat)(dD:Nat):Fn:=⟨2,3,(.cons (rj lO) (.cons rm (.cons kN (.cons (kO dD) .nil))))⟩
noncomputable def wc:S:=.set 1 (.lst .nil)
noncomputable def we:S:=.set 2 (.c (.int 0))
noncomputable def wg:S:=.set 3 (.c (.str []))
noncomputable def wj:S:=.set 4 (.c (.str []))
noncomputable def wk:Ss:=(.cons (.iff (.cmp .eq (.v 5) (.c (.str [100,114,111,112]))) (.cons (.set 3 (.v 6)) .nil) (.cons (.iff (.cmp .eq (.v 5) (.c (.str [112,117,116]))) (.cons (.set 4 (.v 6)) .nil) (.cons (.iff (.orr (.cmp .ne (.v 3) (.c (.str []))) (.cmp .ne (.v 4) (.c (.str [])))) (.cons (.exp (.me .append (.v 1) (.cons (.tup (.cons (.v 2) (.cons (.v 3) (.cons (.v 4) .nil)))) .nil))) .nil) .nil) (.cons (.set 2 (.bin .add (.bin .add (.v 2) (.bi .len (.cons (.v 3) .nil))) (.v 6))) (.cons (.set 3 (.c (.str []))) (.cons (.set 4 (.c (.str []))) .nil))))) .nil)) .nil)
noncomputable def wm(bI:Nat):S:=.for (.many [5,6]) (.seq (.bin .add (.cl bI (.cons (.v 0) .nil)) (.tup (.cons (.tup (.cons (.c (.str [107,101,101,112])) (.cons (.c (.int 1)) .nil))) .nil)))) wk
noncomputable def wo:S:=.ret (.v 1)
noncomputable def BZ(bI:Nat):Fn:=⟨1,7,(.cons wc (.cons we (.cons wg (.cons wj (.cons (wm bI) (.cons wo .nil))))))⟩
noncomputable def rq:S:=.set 2 (.lst .nil)
noncomputable def rz:S:=.set 3 (.c (.int 0))
noncomputable def rA(b6:Nat):Ss:=(.cons (.exp (.me .extend (.v 2) (.cons (.cl b6 (.cons (.bin .sub (.v 4) (.v 3)) (.cons (.v 5) (.cons (.v 6) .nil)))) .nil))) (.cons (.set 3 (.bin .add (.v 4) (.bi .len (.cons (.v 5) .nil)))) .nil))
noncomputable def rB(b6:Nat):S:=.for (.many [4,5,6]) (.seq (.v 1)) (rA b6)
noncomputable def rC(b6:Nat):S:=.exp (.me .extend (.v 2) (.cons (.cl b6 (.cons (.bin .sub (.v 0) (.v 3)) (.cons (.c (.str [])) (.cons (.c (.str [])) .nil)))) .nil))
noncomputable def rD(bI:Nat):S:=.ret (.cl bI (.cons (.gZ (.v 2)) .nil))
noncomputable def vE(b6:Nat)(bI:Nat):Fn:=⟨2,7,(.cons rq (.cons rz (.cons (rB b6) (.cons (rC b6) (.cons (rD bI) .nil)))))⟩
noncomputable def jk:Nat->List (List Nat)->List (List Nat)->List (Nat×Nat)
 |_,[],_=>[]
 |x,p :: ps,A=>(x,x+p.length) :: jk (x+p.length+(if A.head?=some []then 1 else 0)) ps A.tail
noncomputable def gm(c:List Pt):List (Nat×Nat):=jk 0 (eT c) (asks c)
theorem vG:∀(P A:List (List Nat)) (x:Nat),(jk x P A).length=P.length
 |[],_,_=>rfl
 |p :: P,A,x=>by simp[jk,vG P]
theorem cm_get:∀(P A:List (List Nat)) (k x i:Nat),P.length=A.length+1->k<=A.length->∃lo,(jk x P A)[k]?=some (lo,x+(ofT i (P.take (k+1)) (A.take k)).length)/\lo+(P.getD k []).length=x+(ofT i (P.take (k+1)) (A.take k)).length
 |[],_,_,_,_,h,_=>by simp at h
 |p :: ps,A,0,x,i,_,_=>⟨x,by simp[jk,ofT],by simp[ofT]⟩
 |p :: ps,[],k+1,x,i,_,h=>by simp at h
 |p :: ps,a :: A,k+1,x,i,h,hk=>by
  obtain⟨lo,h1,h2⟩:=cm_get ps A k (x+p.length+(if a=[]then 1 else 0)) (i+1) (by simpa using h) (by simpa using hk);have e:x+(ofT i ((p :: ps).take (k+1+1)) ((a :: A).take (k+1))).length=x+p.length+(if a=[]then 1 else 0)+(ofT (i+1) (ps.take (k+1)) (A.take k)).length:=by
   simp only[XF,ofT,WN,W6];split<;>simp<;>omega
  refine⟨lo,?_,?_⟩
  .rw[e,<-h1];simp[jk]
  .rw[e,<-h2];simp
def gH{α:Type}{I J:List α}{x y:α}(h:I++[x]=J++[y]):x=y:=by
 obtain⟨_,h⟩:=Yz h rfl;simpa using h
def FT{X:List Pt}{r:Pt}(h:eg (X++[r])=true)(hr:r.word≠bY){I:List (List Nat)}{e:List Nat}(hg:cz (aB X) []=I++[e]):e=[]:=by
 have hn:=iP h;rw[eS]at hn;have hr0:=fq h r (by simp);cases r with
 |keep n=>exact absurd rfl hr
 |drop s=>
  cases s with
  |nil=>simp[Pt.n]at hr0
  |cons c s=>
   have:aB [Pt.drop (c :: s)]=.d c :: s.map .d:=by simp[aB,Pt.aB]
   rw[this]at hn;exact jz (aB X) [] I e (λz=>absurd rfl z) hn hg
 |put ps=>
  rcases YZ X with rfl|⟨Y,q,hX⟩
  .exact(gH (I:=[]) (x:=[]) hg).symm
  .rw[Y0]at hX;subst hX;obtain⟨J,e1,g1,_⟩:=iC (aB Y) [] [];rw[eS]at hg;have h2:=FQ (b:=aB [q]) g1;rw[hg]at h2;have FU:=fq h q (by simp);have Tz:ef q.word iw=true:=by
    simp only[eg,Vp]at h;rw[W0,nL]at h;exact h.1.2.2 q.word (by simp) iw (by simp[Pt.word])
   cases q with
   |keep k=>
    obtain⟨k',rfl⟩:∃k',k=k'+1:=⟨k - 1,by simp[Pt.n]at FU;omega⟩
    have:aB [Pt.keep (k'+1)]=List.replicate (k'+1) .k:=by simp[aB,Pt.aB]
    rw[this,zB,show J++e1 :: (List.replicate k' []++[[]])=(J++e1 :: List.replicate k' [])++[[]]by simp]at h2;exact gH h2
   |put s=>simp[ef,Pt.word]at Tz
   |drop s=>
    have:aB [Pt.drop s]=s.map .d:=by simp[aB,Pt.aB]
    rw[this,zA,<-Xi]at h2;rw[gH h2];cases s with
    |nil=>simp[Pt.n]at FU
    |cons c s=>
     have e2:aB (Y++[Pt.drop (c :: s)])++aB [Pt.put ps]=aB Y++.d c :: (s.map .d++aB [Pt.put ps]):=by simp[eS,aB,Pt.aB]
     rw[e2]at hn;exact jz (aB Y) [] J e1 (λz=>absurd rfl z) hn g1
def Et{A:List Pt}(h:eg A=true){I:List (List Nat)}{e:List Nat}(hg:eT A=I++[e]):jY A+e.length=bP A:=by
 rcases YZ A with rfl|⟨X,q,hX⟩
 .rw[<-gH (I:=[]) (x:=[]) hg];rfl
 .rw[Y0]at hX;subst hX;obtain⟨J,e1,g1,_⟩:=iC (aB X) [] [];unfold eT at hg;rw[eS]at hg;have h2:=FQ (b:=aB [q]) g1;rw[hg]at h2;have FU:=fq h q (by simp);cases q with
  |keep k=>
   obtain⟨k',rfl⟩:∃k',k=k'+1:=⟨k - 1,by simp[Pt.n]at FU;omega⟩
   have:aB [Pt.keep (k'+1)]=List.replicate (k'+1) .k:=by simp[aB,Pt.aB]
   rw[this,zB,show J++e1 :: (List.replicate k' []++[[]])=(J++e1 :: List.replicate k' [])++[[]]by simp]at h2;rw[gH h2];simp[jY]
  |drop s=>
   have:aB [Pt.drop s]=s.map .d:=by simp[aB,Pt.aB]
   rw[this,zA,<-Xi]at h2;rw[gH h2,FT h (by simp[Pt.word,fX,bY]) g1];simp[jY]
  |put s=>
   have:aB [Pt.put s]=s.map .p:=by simp[aB,Pt.aB]
   rw[this,FP]at h2;rw[gH h2,FT h (by simp[Pt.word,iw,bY]) g1];simp[jY,IC,bP,tot,di,Pt.n]
def jM(c:List Pt):(eT c).length=(asks c).length+1:=by unfold eT;rw[m8,<-bX]
def kP{c A B:List Pt}{k:Nat}(h:Cut c k A B):(gm c)[k]?=some (jY A,bP A):=by
 obtain⟨g1,_,g3,_⟩:=xY (iP (cF c)) h;have hk:k<=(asks c).length:=by rw[fQ];have:=h.MN;omega
 obtain⟨lo,h1,h2⟩:=cm_get (eT c) (asks c) k 0 0 (jM c) hk;have e:0+(ofT 0 ((eT c).take (k+1)) ((asks c).take k)).length=bP A:=by rw[<-g1,<-g3,<-ID,lH,Nat.zero_add]
 rw[e]at h1 h2;have hlt:k<(eT c).length:=by rw[jM];omega
 have hl:=Et h.fA (I:=(eT c).take k) (e:=(eT c).getD k []) (by rw[g1,List.take_succ_eq_append_getElem hlt,YB,MZ hlt];rfl);rw[gm,h1]
 congr 2;omega
abbrev Rw:=Nat×List Nat×List Nat
noncomputable def m9(p:Nat)(g w:List Nat):List Rw:=if g≠[]\/w≠[]then [(p,g,w)]else []
noncomputable def iE:List Pt->Nat->List Nat->List Nat->List Rw
 |[],p,g,w=>m9 p g w
 |.drop s :: r,p,_,w=>iE r p s w
 |.put s :: r,p,g,_=>iE r p g s
 |.keep n :: r,p,g,w=>m9 p g w++iE r (p+g.length+n) [] []
def iW(k:Nat)(g w:List Nat):aB (bf k g w)=List.replicate k .k++(g.map .d++w.map .p):=by
 unfold bf;by_cases hk:0<k<;>by_cases hg:g=[]<;>by_cases hw:w=[]<;>simp[hk,hg,hw,aB,Pt.aB]<;>omega
noncomputable def er:List Rw->Nat->Nat->List Pt
 |[],th,m=>bf (m - th) [] []
 | (p,g,w) :: r,th,m=>bf (p - th) g w++er r (p+g.length) m
def B3{p th m:Nat}{g w:List Nat}(r:List Rw)(x:List At)(ht:th<=p)(h1:aB (er r (p+g.length) m)=x)(h2:g=[]->w=[]->aB (er r th m)=List.replicate (p - th) .k++x):aB (er (m9 p g w++r) th m)=List.replicate (p - th) .k++(g.map .d++(w.map .p++x)):=by
 unfold m9;split
 .simp only[ZZ,er];rw[eS,iW,h1];simp
 .rename_i h;simp only[not_or,ne_eq,Classical.not_not]at h;obtain⟨rfl,rfl⟩:=h;rw[XU,h2 rfl rfl];simp
theorem tV:∀(R:List Pt) (p th m:Nat) (g w:List Nat),eg R=true->(g≠[]->∀q∈R.head?,di q=false)->(w≠[]->∀q∈R.head?,cV q=true)->th<=p->m=p+g.length+az R->aB (er (iE R p g w) th m)=List.replicate (p - th) .k++(g.map .d++(w.map .p++aB R))
 |[],p,th,m,g,w,_,_,_,ht,hm=>by
  have hm:m=p+g.length:=by simpa[az,tot]using hm
  have:=B3 (p:=p) (th:=th) (m:=m) (g:=g) (w:=w) [] [] ht (by simp only[er];rw[iW,hm];simp) (λh1 h2=>by subst h1;simp only[er];rw[iW,hm];simp);rw[Xn]at this;simp only[iE];rw[this];simp[aB]
 |.keep n :: R,p,th,m,g,w,h,_,_,ht,hm=>by
  obtain⟨h1,_,_⟩:=e8 h;rw[iz]at hm;have ih:=λth (ht:th<=p+g.length+n)=>tV R (p+g.length+n) th m [] [] h1 (λz=>absurd rfl z) (λz=>absurd rfl z) ht (by simp;omega);simp only[iE];have e:aB (.keep n :: R)=List.replicate n .k++aB R:=by simp[aB,Pt.aB]
  rw[e];refine B3 _ _ ht ?_ λh2 h3=>?_
  .rw[ih _ (by omega),show p+g.length+n - (p+g.length)=n by omega];simp
  .subst h2;rw[ih th (by simp;omega)];simp only[Y4,XU,List.length_nil,aag];rw[<-Xi,List.replicate_append_replicate]
   congr 2;omega
 |.drop s :: R,p,th,m,g,w,h,hg,hw,ht,hm=>by
  obtain⟨h1,_,h3⟩:=e8 h;have g0:g=[]:=by
   by_cases z:g=[]
   .exact z
   .exact absurd (hg z _ rfl) (by simp[di])
  have w0:w=[]:=by
   by_cases z:w=[]
   .exact z
   .exact absurd (hw z _ rfl) (by simp[cV])
  subst g0;subst w0;rw[iU]at hm;simp only[iE];rw[tV R p th m s [] h1 (λ_ q hq=>by
   have:=h3 q hq;cases q with
   |drop s=>simp[ef,Pt.word]at this
   |_=>rfl) (λz=>absurd rfl z) ht (by simp at hm ⊢;omega)]
  simp[aB,Pt.aB]
 |.put s :: R,p,th,m,g,w,h,_,hw,ht,hm=>by
  obtain⟨h1,_,h3⟩:=e8 h;have w0:w=[]:=by
   by_cases z:w=[]
   .exact z
   .exact absurd (hw z _ rfl) (by simp[cV])
  subst w0;rw[iA]at hm;simp only[iE];have hk:∀q∈R.head?,cV q=true:=λq hq=>by
   have:=h3 q hq;cases q with
   |keep n=>rfl
   |put s=>simp[ef,Pt.word]at this
   |drop s=>simp[ef,Pt.word]at this
  rw[tV R p th m g s h1 (λ_ q hq=>by have:=hk q hq;cases q<;>simp_all [cV,di]) (λ_=>hk) ht hm];simp[aB,Pt.aB]
noncomputable def cS(c:List Pt):List Rw:=iE (aM c) 0 [] []
def kQ(c:List Pt):aM (er (cS c) 0 (az c))=aM c:=by
 have:=tV (aM c) 0 0 (az c) [] [] (cF c) (λz=>absurd rfl z) (λz=>absurd rfl z) (qh _) (by rw[fR];simp);rw[<-jU c];exact vt (by rw[cS,this];simp)
noncomputable def M5:List Nat:=[97,104,101,97,100]
noncomputable def Eu:List Nat:=[98,101,104,105,110,100]
noncomputable def rV(r:Rw):V:=.tup [.int (r.1:Nat),.str r.2.1,.str r.2.2]
def Pw{fr:Fr}{i j k:Nat}{u v x:V}{a b c:Option Sl}(ea:fr[i]?=some a)(ha:vo a)(eb:(fr.set i (some (.val u)))[j]?=some b)(hb:vo b)(ec:((fr.set i (some (.val u))).set j (some (.val v)))[k]?=some c)(hc:vo c):cg (.many [i,j,k]) (.tup [u,v,x]) fr=some (((fr.set i (some (.val u))).set j (some (.val v))).set k (some (.val x))):=by
 show(put fr i (.val u)).bind _=_;rw[gi ea ha];show(put _ j (.val v)).bind _=_;rw[gi eb hb];show(put _ k (.val x)).bind _=_;rw[gi ec hc];rfl
def IE(c:List Pt):(cR c).length<=tot c/\tot (cR c)=tot c:=by
 have h1:tot (cR c)=tot c:=by
  simp only[cR];rw[iM];induction c with
  |nil=>rfl
  |cons p c ih=>cases p<;>simp[sw,Pt.sw,tot,Pt.n]at ih ⊢<;>omega
 exact⟨by have:=gU (fq (cF (sw c)));simp only[cR]at h1 ⊢;omega,h1⟩
section
variable{F:List Fn}{w n i aD aQ aE aY bC bE cB fY zC tW:Nat}
def jN(hst:F[aD]?=some cI)(hf:F[aQ]?=some (eL aD))(hs:F[aE]?=some dh)(hp:F[aY]?=some dQ)(ht:F[bC]?=some (fk aY aE))(hb:F[bE]?=some (gE aE))(ha:F[cB]?=some (jy aE))(hc:F[fY]?=some (nN bE aQ aE bC))
  (hd:F[i]?=some (lZ fY cB)) (hw:5000<w) (c:List Pt) (p:Nat) (h1:c.length<=900) (h2:tot c<=900) (h:p<=az c) :
  ∃A B,Cut c p A B/\run F w (n+4) i [.val (aJ c),.val (.int p),.val (.str Eu)]=some (.int (bP A),[]):=by
 obtain⟨A,B,r,C⟩:=q9 (F:=F) (w:=w) (n:=n) hst hf hs hp ht hb hc hw c p (by omega) (by omega) h;have b1:=C.zx;have b2:=C.lA;refine⟨A,B,C,cy hd rfl ?_⟩;refine ai (aW (bT (b9 (aX rfl (au rfl) (aX rfl (au rfl) br)) (call2 r)) (aN rfl) rfl) rfl rfl ?_);refine ai (aP (b:=false) (mW (ay rfl (aR (au rfl) (aN rfl) eX) rfl)) (λh=>absurd h (by decide)) λ_=>aC ?_);exact ai (b8 (b9 (aX rfl (au rfl) br) (dm (mZ (F:=F) (w:=w) (n:=n+1) hs ha A (by omega) (by omega)))) ⟨rfl,rfl⟩)
def jO(hst:F[aD]?=some cI)(hf:F[aQ]?=some (eL aD))(hu:F[tW]?=some (vm aQ))(hd:F[i]?=some (ri zC tW))(c:List Pt)(p s:V)(h1:c.length<=900)(h2:tot c<=900){v:V}(r:run F w (n+4) zC [.val (aJ (cR c)),.val p,.val s]=some (v,[])) :
  run F w (n+5) i [.val (aJ c),.val p,.val s]=some (v,[]):=
 cy hd rfl (ai (b8 (b9 (aX rfl (b9 (aX rfl (au rfl) br) (dm (zm (F:=F) (w:=w) (n:=n+1) hst hf hu c (by omega) (by omega)))) (aX rfl (au rfl) (aX rfl (au rfl) br))) (eH r)) ⟨rfl,rfl⟩))
def vH{c A B:List Pt}{p:Nat}(C:Cut c p A B):(p=az c/\B=[])\/(p<az c/\∃q R,B=q :: R/\((cV q=true/\(asks c)[p]?=some [])\/(di q=true/\∃x,(asks c)[p]?=some [x]))):=by
 have hb:=C.MN;obtain⟨_,_,_,g4⟩:=xY (iP (cF c)) C;cases B with
 |nil=>exact .inl ⟨by simpa[az,tot]using hb,rfl⟩
 |cons q R=>
  have hq:=C.pB q (by simp);have hd:=C.hd;have e:(asks c)[p]?=(asks (q :: R))[0]?:=by rw[g4,aaj];simp
  cases q with
  |put s=>
   cases s with
   |nil=>simp[Pt.n]at hq
   |cons x s=>simp[aB,Pt.aB,sQ]at hd
  |keep k=>
   obtain⟨m,rfl⟩:∃m,k=m+1:=⟨k - 1,by simp[Pt.n]at hq;omega⟩
   rw[iz]at hb;refine .inr ⟨by omega,_,_,rfl,.inl ⟨rfl,?_⟩⟩;rw[e];simp[asks,Pt.asks,Tv]
  |drop s=>
   cases s with
   |nil=>simp[Pt.n]at hq
   |cons x s=>
    rw[iU,WY]at hb;refine .inr ⟨by omega,_,_,rfl,.inr ⟨rfl,x,?_⟩⟩;rw[e];simp[asks,Pt.asks]
def Ew(hst:F[aD]?=some cI)(hf:F[aQ]?=some (eL aD))(hs:F[aE]?=some dh)(hp:F[aY]?=some dQ)(ht:F[bC]?=some (fk aY aE))(hb:F[bE]?=some (gE aE))(ha:F[cB]?=some (jy aE))(hc:F[fY]?=some (nN bE aQ aE bC))
  (hd:F[i]?=some (vD fY cB)) (hw:5000<w) (c:List Pt) (p:Nat) (h1:c.length<=900) (h2:tot c<=900) (h:p<az c) :
  ∃A B,Cut c p A B/\((run F w (n+4) i [.val (aJ c),.val (.int p)]=some (.int (bP A),[])/\(asks c)[p]?=some [])\/(run F w (n+4) i [.val (aJ c),.val (.int p)]=some (.aU,[])/\∃x,(asks c)[p]?=some [x])):=by
 obtain⟨A,B,r,C⟩:=q9 (F:=F) (w:=w) (n:=n) hst hf hs hp ht hb hc hw c p (by omega) (by omega) (by omega);have b1:=C.zx;have b2:=C.lA;refine⟨A,B,C,?_⟩;rcases vH C with ⟨h0,_⟩|⟨_,q,R,rfl,hq⟩
 .omega
 .have st:∀v:V,Wp (exs (run F w (n+3)) w (.cons kN (.cons (kO cB) .nil)) [some (.val (aJ c)),some (.val (.int p)),some (.val (.tup [aJ A,aJ (q :: R)]))]) (λg fr=>g=.ret v/\outs 2 fr=[])->run F w (n+4) i [.val (aJ c),.val (.int p)]=some (v,[]):=λv q'=>by
   refine cy hd rfl ?_;refine ai (aW (b9 (aX rfl (au rfl) (aX rfl (au rfl) br)) (call2 r)) rfl rfl ?_);exact ai (aP (b:=false) (zg (b:=true) (ay rfl (bT (au rfl) (aN rfl) rfl) rfl)) (λh=>absurd h (by decide)) λ_=>aC q')
  rcases hq with ⟨hk,ha1⟩|⟨hk,x,ha1⟩
  .refine .inl ⟨st _ ?_,ha1⟩;cases q with
   |keep k=>
    have i0:dg (aJ (Pt.keep k :: R)) (.int 0)=some (Pt.v (.keep k)):=by show bu (Pt.v (.keep k) :: R.map Pt.v) ((0:Nat):Int)=_;rw[gI];rfl
    have i1:dg (Pt.v (.keep k)) (.int 0)=some (.str bY):=rfl;refine ai (aP (b:=false) (ay rfl (aR (bT (bT (bT (au rfl) (aN rfl) rfl) (aN rfl) i0) (aN rfl) i1) (aN rfl) eX) rfl) (λh=>absurd h (by decide)) λ_=>aC ?_);exact ai (b8 (b9 (aX rfl (bT (au rfl) (aN rfl) rfl) br) (dm (mZ (F:=F) (w:=w) (n:=n+1) hs ha A (by omega) (by omega)))) ⟨rfl,rfl⟩)
   |put s=>cases hk
   |drop s=>cases hk
  .refine .inr ⟨st _ ?_,x,ha1⟩;cases q with
   |drop s=>
    have i0:dg (aJ (Pt.drop s :: R)) (.int 0)=some (Pt.v (.drop s)):=by show bu (Pt.v (.drop s) :: R.map Pt.v) ((0:Nat):Int)=_;rw[gI];rfl
    have i1:dg (Pt.v (.drop s)) (.int 0)=some (.str fX):=rfl;exact ai (aP (b:=true) (ay rfl (aR (bT (bT (bT (au rfl) (aN rfl) rfl) (aN rfl) i0) (aN rfl) i1) (aN rfl) eX) rfl) (λ_=>ai (b8 (aN rfl) ⟨rfl,rfl⟩)) λh=>absurd h (by decide))
   |keep k=>cases hk
   |put s=>cases hk
noncomputable def nc:List Pt->Nat->List Nat->List Nat->List Rw
 |[],_,_,_=>[]
 |.drop s :: r,p,_,w=>nc r p s w
 |.put s :: r,p,g,_=>nc r p g s
 |.keep n :: r,p,g,w=>m9 p g w++nc r (p+g.length+n) [] []
theorem nP:∀(R:List Pt) (p:Nat) (g w:List Nat),nc (R++[Pt.keep 1]) p g w=iE R p g w
 |[],p,g,w=>by simp[nc,iE]
 |.drop s :: R,p,g,w=>by simp only[WR,nc,iE,nP R]
 |.put s :: R,p,g,w=>by simp only[WR,nc,iE,nP R]
 |.keep n :: R,p,g,w=>by simp only[WR,nc,iE,nP R]
noncomputable def tF(c:List Pt)(rows:List Rw)(st:Nat)(g x:List Nat)(a b:Option Sl):Fr:=[some (.val (aJ c)),some (.own (rows.map rV)),some (.val (.int st)),some (.val (.str g)),some (.val (.str x)),a,b]
def xZ{P:aL}{c:List Pt}{rows:List Rw}{st m:Nat}{g x:List Nat}{Q:Fl->Fr->Prop}(hg:g.length<=900)(q:Q .nx (tF c rows (st+g.length+m) [] [] (some (.val (.str bY))) (some (.val (.int m))))):Wp (exs P w (.cons (.set 2 (.bin .add (.bin .add (.v 2) (.bi .len (.cons (.v 3) .nil))) (.v 6))) (.cons (.set 3 (.c (.str []))) (.cons (.set 4 (.c (.str []))) .nil))) (tF c rows st g x (some (.val (.str bY))) (some (.val (.int m))))) Q:=by
 have lg:cK .len [.str g]=some (.int (g.length:Nat)):=XX (by omega);have a1:Pv.bN .add (.int (st:Int)) (.int (g.length:Nat))=some (.int ((st+g.length:Nat):Int)):=by rw[bR];congr 2
 have a2:Pv.bN .add (.int ((st+g.length:Nat):Int)) (.int (m:Nat))=some (.int ((st+g.length+m:Nat):Int)):=by rw[bR];congr 2
 refine ai (aW (ao:=tF c rows (st+g.length+m) g x (some (.val (.str bY))) (some (.val (.int m)))) (bz (bz (au rfl) (cQ (aF (au rfl) aI) lg) a1) (au rfl) a2) rfl rfl ?_);refine ai (aW (ao:=tF c rows (st+g.length+m) [] x (some (.val (.str bY))) (some (.val (.int m)))) (aN rfl) rfl rfl ?_);exact ai (aW (ao:=tF c rows (st+g.length+m) [] [] (some (.val (.str bY))) (some (.val (.int m)))) (aN rfl) rfl rfl (aC q))
def wu(hst:F[aD]?=some cI)(hf:F[aQ]?=some (eL aD))(hd:F[i]?=some (BZ aQ))(c:List Pt)(h1:c.length<=900)(h2:tot c<=900):run F w (n+3) i [.val (aJ c)]=some (.lst ((cS c).map rV),[]):=by
 have t1:=iM c;have l1:=gU (fq (cF c));have ad:Pv.bN .add (aJ (aM c)) (.tup [.tup [.str [107,101,101,112],.int 1]])=some (aJ (aM c++[Pt.keep 1])):=tP (a:=aM c) (b:=[Pt.keep 1]) (by simp;omega);refine cy hd rfl ?_;refine ai (jI (l:=[]) (jT aI iR) rfl rfl ?_);refine ai (aW (aN rfl) rfl rfl ?_);refine ai (aW (aN rfl) rfl rfl ?_);refine ai (aW (aN rfl) rfl rfl ?_);refine ai (lD (vs:=(aM c++[Pt.keep 1]).map Pt.v) (af:=tF c [] 0 [] [] none none) (fO (bz (b9 (aX rfl (au rfl) br) (dm (iK (F:=F) (w:=w) (n:=n) hst hf c (by omega) (by omega)))) (iu (aF (iu (aF (aN rfl) (aF (aN rfl) aI)) nE) aI) pU) ad) rfl) ?_);have hbd:∀q∈aM c++[Pt.keep 1],q.n<=900:=λq hq=>by
  rcases List.mem_append.mp hq with hq|hq
  .have:=MI hq;omega
  .rw[List.mem_singleton.mp hq];decide
 refine fV (e:=Pt.v) (λp l fr=>p++l=aM c++[Pt.keep 1]/\∃rows st g x a b,rows.length<=p.length/\g.length<=900/\rows++nc l st g x=cS c/\vo a/\vo b/\fr=tF c rows st g x a b) (λp q l fr ⟨hp,rows,st,g,x,a,b,hl,hg,he,ha,hb,hfr⟩=>?_) (λp fr ⟨hp,rows,st,g,x,a,b,hl,hg,he,ha,hb,hfr⟩=>?_) _ [] _ ⟨rfl,[],0,[],[],none,none,by simp,by simp,by rw[XU,nP];rfl,.none,.none,rfl⟩
 .subst hfr;have hq:=hbd q (by rw[<-hp];simp);have hpl:=WT List.length hp;rw[WN,WY,WN,XO]at hpl;have hp2:(p++[q])++l=aM c++[Pt.keep 1]:=by simpa using hp
  cases q with
  |drop s=>
   refine dI (af:=tF c rows st g x (some (.val (.str fX))) (some (.val (.str s)))) (jr rfl ha rfl hb) ?_;refine ai (aP (b:=true) (ay rfl (aR (au rfl) (aN rfl) eX) rfl) (λ_=>?_) λh=>absurd h (by decide));refine ai (aW (ao:=tF c rows st s x (some (.val (.str fX))) (some (.val (.str s)))) (au rfl) rfl rfl (aC (aC ?_)));rw[dU];exact⟨hp2,rows,st,s,x,_,_,by simp;omega,hq,he,.val,.val,rfl⟩
  |put s=>
   refine dI (af:=tF c rows st g x (some (.val (.str iw))) (some (.val (.str s)))) (jr rfl ha rfl hb) ?_;refine ai (aP (b:=false) (ay rfl (aR (au rfl) (aN rfl) eX) rfl) (λh=>absurd h (by decide)) λ_=>?_);refine ai (aP (b:=true) (ay rfl (aR (au rfl) (aN rfl) eX) rfl) (λ_=>?_) λh=>absurd h (by decide));refine ai (aW (ao:=tF c rows st g s (some (.val (.str iw))) (some (.val (.str s)))) (au rfl) rfl rfl (aC (aC (aC ?_))));rw[dU];exact⟨hp2,rows,st,g,s,_,_,by simp;omega,hg,he,.val,.val,rfl⟩
  |keep m=>
   refine dI (af:=tF c rows st g x (some (.val (.str bY))) (some (.val (.int m)))) (jr rfl ha rfl hb) ?_;refine ai (aP (b:=false) (ay rfl (aR (au rfl) (aN rfl) eX) rfl) (λh=>absurd h (by decide)) λ_=>?_);refine ai (aP (b:=false) (ay rfl (aR (au rfl) (aN rfl) eX) rfl) (λh=>absurd h (by decide)) λ_=>?_);simp only[nc]at he;by_cases hr:g≠[]\/x≠[]
   .rw[m9,xV hr,<-Xi]at he;have Vq:aH (run F w (n+2)) (.orr (.cmp .ne (.v 3) (.c (.str []))) (.cmp .ne (.v 4) (.c (.str [])))) (tF c rows st g x (some (.val (.str bY))) (some (.val (.int m))))=.ok true (tF c rows st g x (some (.val (.str bY))) (some (.val (.int m)))):=by
     by_cases M6:g=[]
     .exact dO (ay rfl (aR (au rfl) (aN rfl) fG) (by show(!decide (g=[]))=false;simp[M6])) (ay rfl (aR (au rfl) (aN rfl) fG) (by show(!decide (x=[]))=true;have:x≠[]:=hr.resolve_left (λz=>z M6);simp[this]))
     .exact pZ (ay rfl (aR (au rfl) (aN rfl) fG) (by show(!decide (g=[]))=true;simp[M6]))
    refine ai (aP (b:=true) Vq (λ_=>?_) λh=>absurd h (by decide));refine ai (fW (v:=.aU) (af:=tF c (rows++[(st,g,x)]) st g x (some (.val (.str bY))) (some (.val (.int m)))) (tN rfl rfl (aF (iu (aF (au rfl) (aF (au rfl) (aF (au rfl) aI))) Fe) aI) ((kG (by simp;omega)).trans (by simp[tF,rV]))) (aC ?_));refine xZ hg (aC (aC ?_));rw[dU];exact⟨hp2,_,_,_,_,_,_,by simp;omega,by simp,he,.val,.val,rfl⟩
   .rw[m9,WQ hr,XU]at he;have hr':g=[]/\x=[]:=by simpa using hr
    refine ai (aP (b:=false) (dO (ay rfl (aR (au rfl) (aN rfl) fG) (by show(!decide (g=[]))=false;simp[hr'.1])) (ay rfl (aR (au rfl) (aN rfl) fG) (by show(!decide (x=[]))=false;simp[hr'.2]))) (λh=>absurd h (by decide)) λ_=>aC ?_);refine xZ hg (aC (aC ?_));rw[dU];exact⟨hp2,_,_,_,_,_,_,by simp;omega,by simp,he,.val,.val,rfl⟩
 .subst hfr;simp only[nc,Xn]at he;rw[<-he];refine ai (b8 (af:=[some (.val (aJ c)),some (.val (.lst (rows.map rV))),some (.val (.int st)),some (.val (.str g)),some (.val (.str x)),a,b]) ?_ ⟨rfl,rfl⟩);rw[show gr (tF c rows st g x a b)=[some (.val (aJ c)),some (.val (.lst (rows.map rV))),some (.val (.int st)),some (.val (.str g)),some (.val (.str x)),a,b]by
   show [_,_,_,_,_,a.map Sl.gb,b.map Sl.gb]=_;rw[dY ha,dY hb];rfl]
  exact au rfl
noncomputable def Ord:List Rw->Nat->Nat->Prop
 |[],th,m=>th<=m
 | (p,g,_) :: r,th,m=>th<=p/\Ord r (p+g.length) m
def x6{p th m:Nat}{g x:List Nat}{r:List Rw}(ht:th<=p)(h1:Ord r (p+g.length) m)(h2:g=[]->x=[]->Ord r th m):Ord (m9 p g x++r) th m:=by
 unfold m9;split
 .exact⟨ht,h1⟩
 .rename_i h;simp only[not_or,ne_eq,Classical.not_not]at h;exact h2 h.1 h.2
theorem qq:∀(R:List Pt) (p th m:Nat) (g x:List Nat),eg R=true->(g≠[]->∀q∈R.head?,di q=false)->th<=p->m=p+g.length+az R->Ord (iE R p g x) th m
 |[],p,th,m,g,x,_,_,ht,hm=>by
  have hm:m=p+g.length:=by simpa[az,tot]using hm
  have:=x6 (x:=x) (r:=[]) (m:=m) (g:=g) ht (by show p+g.length<=m;omega) (λ_ _=>by show th<=m;omega)
  rwa [Xn]at this
 |.keep k :: R,p,th,m,g,x,h,_,ht,hm=>by
  obtain⟨h1,_,_⟩:=e8 h;rw[iz]at hm;have ih:=λth (ht:th<=p+g.length+k)=>qq R (p+g.length+k) th m [] [] h1 (λz=>absurd rfl z) ht (by simp;omega);exact x6 ht (ih _ (by omega)) λ_ _=>ih th (by omega)
 |.drop s :: R,p,th,m,g,x,h,hg,ht,hm=>by
  obtain⟨h1,_,h3⟩:=e8 h;have g0:g=[]:=by
   by_cases z:g=[]
   .exact z
   .exact absurd (hg z _ rfl) (by simp[di])
  subst g0;rw[iU]at hm;exact qq R p th m s x h1 (λ_ q hq=>by
   have:=h3 q hq;cases q with
   |drop s=>simp[ef,Pt.word]at this
   |_=>rfl) ht (by simp at hm ⊢;omega)
 |.put s :: R,p,th,m,g,x,h,_,ht,hm=>by
  obtain⟨h1,_,h3⟩:=e8 h;rw[iA]at hm;exact qq R p th m g s h1 (λ_ q hq=>by
   have:=h3 q hq;cases q with
   |drop s=>simp[ef,Pt.word]at this
   |_=>rfl) ht hm
def x8(c:List Pt):Ord (cS c) 0 (az c):=qq (aM c) 0 0 (az c) [] [] (cF c) (λz=>absurd rfl z) (qh _) (by rw[fR];simp)
noncomputable def oF(m:Nat)(s:Sl)(ps:List Pt)(th:Nat)(a b d:Option Sl):Fr:=[some (.val (.int m)),some s,some (.own (ps.map Pt.v)),some (.val (.int th)),a,b,d]
end
end Pv
namespace Pv
open Ev (deep big rep cut bu)
open Ev (D bh aZ TY BI ME T E Es Eo It S Ss Fn)
theorem zD:∀(P A:List (List Nat)) (x:Nat) (q:Nat×Nat),q∈jk x P A->x<=q.1/\q.1<=q.2
 |[],_,_,_,h=>by cases h
 |p :: ps,A,x,q,h=>by
  rcases List.mem_cons.mp h with rfl|h
  .exact⟨qh _,Nat.le_add_right _ _⟩
  .have:=zD ps A.tail _ q h;omega
theorem x9:∀(P A:List (List Nat)) (x:Nat),(jk x P A).Pairwise λp q=>p.2<=q.1
 |[],_,_=>.nil
 |p :: ps,A,x=>List.pairwise_cons.mpr ⟨λq hq=>by have:=zD ps A.tail _ q hq;show x+p.length<=q.1;omega,x9 ps A.tail _⟩
theorem rE:∀(P A:List (List Nat)) (x k:Nat) (p q:Nat×Nat) (a:List Nat),(jk x P A)[k]?=some p->(jk x P A)[k+1]?=some q->A[k]?=some a->q.1=p.2+(if a=[]then 1 else 0)
 |[],_,_,_,_,_,_,h,_,_=>by simp[jk]at h
 |[p0],A,x,0,p,q,a,h1,h2,h3=>by simp[jk]at h2
 |p0 :: p1 :: ps,A,x,0,p,q,a,h1,h2,h3=>by
  simp only[jk,List.getElem?_cons_zero,Option.some.injEq,ZK]at h1 h2;subst h1;subst h2;have:A.head?=some a:=by rw[<-h3];cases A<;>rfl
  rw[this];simp
 |p0 :: ps,A,x,k+1,p,q,a,h1,h2,h3=>by
  simp only[jk,ZK]at h1 h2;exact rE ps A.tail _ k p q a h1 h2 (by cases A with|nil=>simp at h3|cons y A=>simpa using h3)
def IF(P A:List (List Nat))(x:Nat)(h:P≠[]):∃p,(jk x P A)[0]?=some (x,p):=by
 cases P with
 |nil=>exact absurd rfl h
 |cons p ps=>exact⟨_,rfl⟩
theorem nh:∀(a b:List At),cE a=true->cE (.k :: b)=true->cE (a++.k :: b)=true
 |[],b,_,h=>h
 |.k :: a,b,h1,h2=>by rw[WR,jX];exact nh a b (by rw[jX]at h1;exact h1) h2
 |.d x :: a,b,h1,h2=>by rw[WR,tT];exact nh a b (by rw[tT]at h1;exact h1) h2
 |[.p x],b,h1,h2=>by rw[ZZ,jK];rw[jX]at h2;exact h2
 |.p x :: .k :: a,b,h1,h2=>by rw[WR,WR,jK];exact nh a b (by rw[jK]at h1;exact h1) h2
 |.p x :: .p y :: a,b,h1,h2=>by rw[WR,WR,jL,<-WR];exact nh (.p y :: a) b (by rw[jL]at h1;exact h1) h2
 |.p x :: .d y :: a,b,h1,h2=>by simp[cE]at h1
def IG{X:List Pt}{l:List (List Nat)}{m:List Tq}(h1:asks X=[] :: l)(h2:told 0 X=.at 0 :: m):∃r,aB X=.k :: r:=by
 rw[bX]at h1;rw[eZ]at h2;cases hx:aB X with
 |nil=>rw[hx]at h1;simp[aA]at h1
 |cons a r=>
  cases a with
  |k=>exact⟨r,rfl⟩
  |d c=>rw[hx]at h1;simp[aA]at h1
  |p c=>rw[hx]at h2;simp[tA]at h2
def M7(c:List Pt):aB (sw c)=(aB c).map BO:=by
 induction c with
 |nil=>rfl
 |cons p c ih=>
  have e:sw (p :: c)=p.sw :: sw c:=rfl;rw[e,cX,cX,W0,ih]
  congr 1
  cases p<;>simp[Pt.sw,Pt.aB,BO,Function.comp_def]
def B4{B:List Pt}{r:List At}(h:aB B=.k :: r):∃r',aB (cR B)=.k :: r':=by
 have e:aB (sw B)=.k :: r.map BO:=by rw[M7,h];rfl
 refine IG (l:=aA (r.map BO)) (m:=tA 1 (r.map BO)) ?_ ?_
 .rw[cR,dJ,bX,e];rfl
 .rw[cR,ek,eZ,e];rfl
def B5{c A B:List Pt}{k:Nat}(C:Cut c k A B){r:List At}(h:aB B=.k :: r):Cut (sw c) (bP A) (cR A) (cR B):=by
 obtain⟨r',hr⟩:=B4 h;have e1:aM (cR A++cR B)=aM (sw c):=by
  rw[Ek (a:=cR A) (a':=sw A) (b:=cR B) (b':=sw B) (jU _) (jU _)];have:sw A++sw B=sw (A++B):=by simp[sw]
  rw[this];exact Ie C.join
 have e2:cE (aB (cR A++cR B))=true:=by
  rw[eS,hr];exact nh _ _ (iP (cF _)) (by rw[<-hr];exact iP (cF _))
 exact {
  at_:=by rw[<-eS,<-Ep e2,e1]
  bA:=by rw[cR,fR,m6]
  hd:=by rw[hr];rfl
  pA:=fq (cF _)
  pB:=fq (cF _)
  fA:=cF _
  fB:=cF _ }
def sR{c A B:List Pt}{k:Nat}(C:Cut c k A B){r:List At}(h:aB B=.k :: r):(asks (sw c))[bP A]?=some []:=by
 obtain⟨r',hr⟩:=B4 h;have C':=B5 C h;have e:asks (sw c)=aA (aB (cR A))++aA (aB (cR B)):=by rw[<-iB,C'.at_,<-bX,dJ]
 rw[e,Xg (by rw[<-gk,C'.bA];exact qh _),hr,<-gk,C'.bA];simp[aA]
def M8{c A B:List Pt}{k:Nat}(C:Cut c k A B){r:List At}(h:aB B=.k :: r):(∃a,(gm (sw c))[bP A]?=some (a,k))/\∃b,(gm (sw c))[bP A+1]?=some (k+1,b):=by
 have C':=B5 C h;have e1:=kP C';have e2:bP (cR A)=k:=by rw[cR,lJ,MJ];exact C.bA
 rw[e2]at e1;refine⟨⟨_,e1⟩,?_⟩;have hl:bP A+1<(gm (sw c)).length:=by
  have:=(List.getElem?_eq_some_iff.mp (sR C h)).1;rw[gm,vG,jM];omega
 have e3:(gm (sw c))[bP A+1]?=some ((gm (sw c))[bP A+1]):=MZ hl;have:=rE _ _ _ _ _ _ _ e1 e3 (sR C h);rw[xV rfl]at this;exact⟨_,by rw[e3];exact WT some (aak this rfl)⟩
noncomputable def nk(c:List Pt):Nat:=(asks c).countP (λa=>decide (a=[]))
def B6(c:List Pt):2*nk c+cst c=bP c+az c:=by
 unfold nk;rw[qY,ql,gk,bX];generalize aB c=a
 suffices ∀i,2*(aA a).countP (λa=>decide (a=[]))+cA a=(tA i a).length+(aA a).length from this 0
 induction a with
 |nil=>intro i;rfl
 |cons x a ih=>intro i;cases x<;>simp[aA,tA,cA]<;>first | (have:=ih (i+1);omega) | (have:=ih i;omega)
noncomputable def ni(rows:List Rw):Nat:=(rows.map λr=>r.2.1.length+r.2.2.length).sum
def II(a b:List Pt):cst (a++b)=cst a+cst b:=by simp[cst,tot]
def oJ(k:Nat)(g w:List Nat):cst (bf k g w)=g.length+w.length:=by
 rw[qY,iW];have h1:∀(k:Nat) (x:List At),cA (List.replicate k .k++x)=cA x:=λk x=>by
  induction k with
  |zero=>simp
  |succ k ih=>rw[Tv,WR];exact ih
 have h2:∀(g:List Nat) (x:List At),cA (g.map .d++x)=g.length+cA x:=λg x=>by
  induction g with
  |nil=>simp
  |cons y g ih=>simp only[WO,WR,cA,ih,WY];omega
 have h3:∀(g:List Nat),cA (g.map .p)=g.length:=λg=>by
  induction g with
  |nil=>rfl
  |cons y g ih=>simp only[WO,cA,ih,WY];try omega
 rw[h1,h2,h3]
theorem B7:∀(rows:List Rw) (th m:Nat),cst (er rows th m)=ni rows
 |[],th,m=>by rw[er,oJ];rfl
 | (p,g,w) :: r,th,m=>by rw[er,II,oJ,B7 r];simp[ni]
def nQ(c:List Pt):ni (cS c)=cst c:=by rw[<-B7 (cS c) 0 (az c),<-lK,kQ,lK]
def FY:∀(R:List Pt) (p:Nat) (g w:List Nat),∀r∈iE R p g w,0<r.2.1.length+r.2.2.length:=by
  have h1:∀(p:Nat) (g w:List Nat),∀r∈m9 p g w,0<r.2.1.length+r.2.2.length:=λp g w r hr=>by
    unfold m9 at hr;split at hr
    . rename_i h;rw[Zg]at hr;subst hr;rcases h with h|h
      . have:=List.length_pos_iff.mpr h;show 0<g.length+w.length;omega
      . have:=List.length_pos_iff.mpr h;show 0<g.length+w.length;omega
    . cases hr
  intro R;induction R with
  |nil=>intro p g w r hr;unfold iE at hr;exact h1 _ _ _ r hr
  |cons q R ih=>
    intro p g w r hr;cases q<;>unfold iE at hr
    all_goals first
      |exact ih _ _ _ r hr
      | (rcases List.mem_append.mp hr with hr|hr
         . exact h1 _ _ _ r hr
         . exact ih _ _ _ r hr)
def IJ(c:List Pt):cS c=[]↔cst c=0:=by
 rw[<-nQ];constructor
 .intro h;rw[h];rfl
 .intro h;cases hr:cS c with
  |nil=>rfl
  |cons r l=>
   have:=FY (aM c) 0 [] [] r (by show r∈cS c;rw[hr];simp);rw[hr]at h;simp only[ni,WO,YA]at h;omega
def wz(k:Nat)(g w:List Nat)(R:List Pt)(t:List Nat)(h:bg (bf k g w++R) t=true):k<=t.length/\g.isPrefixOf (t.drop k)=true/\bg R (t.drop (k+g.length))=true:=by
 have h3:∀{t:List Nat},bg ((if w=[]then []else [.put w])++R) t=true->bg R t=true:=λ{t} h=>by
  by_cases hw:w=[]
  .simpa[hw]using h
  .rw[WQ hw]at h;exact h
 have h2:∀{t:List Nat},bg ((if g=[]then []else [.drop g])++((if w=[]then []else [.put w])++R)) t=true->g.isPrefixOf t=true/\bg R (t.drop g.length)=true:=λ{t} h=>by
  by_cases hg:g=[]
  .subst hg;exact⟨by simp,by simpa using h3 (by simpa using h)⟩
  .rw[WQ hg]at h;have h:(g.isPrefixOf t&&bg ((if w=[]then []else [.put w])++R) (t.drop g.length))=true:=h;rw[Vp]at h;exact⟨h.1,h3 h.2⟩
 unfold bf at h;rw[Xi,Xi]at h;by_cases hk:0<k
 .rw[xV hk]at h;have h:(decide (k<=t.length)&&bg _ (t.drop k))=true:=h;rw[Vp,XZ]at h;obtain⟨a,b⟩:=h2 h.2;exact⟨h.1,a,by rw[Yj]at b;exact b⟩
 .have:k=0:=by omega
  subst this;rw[WQ hk]at h;obtain⟨a,b⟩:=h2 h;exact⟨Xd _,by simpa using a,by simpa using b⟩
theorem yc:∀(rows:List Rw) (th m:Nat) (t:List Nat),Ord rows th m->bg (er rows th m) (t.drop th)=true->∀r∈rows,(t.drop r.1).take r.2.1.length=r.2.1
 |[],_,_,_,_,_,r,h=>by cases h
 | (p,g,w) :: rs,th,m,t,⟨o1,o2⟩,hf,r,hr=>by
  rw[er]at hf;obtain⟨f1,f2,f3⟩:=wz _ _ _ _ _ hf;rw[Yj,show th+(p - th)=p by omega]at f2;rw[Yj,show th+(p - th+g.length)=p+g.length by omega]at f3;rcases List.mem_cons.mp hr with rfl|hr
  .obtain⟨z,hz⟩:=List.isPrefixOf_iff_prefix.mp f2;show(t.drop p).take g.length=g;rw[<-hz];simp
  .exact yc rs _ m t o2 f3 r hr
def M9{c:List Pt}{t:List Nat}(h:bg c t=true):∀r∈cS c,(t.drop r.1).take r.2.1.length=r.2.1:=
 yc (cS c) 0 (az c) t (x8 c) (by rw[Zf,<-oX,kQ,oX];exact h)
theorem o8:∀{l:List Int},l.Pairwise (·<=·)->Ev.sortI l=l
 |[],_=>rfl
 |[x],_=>rfl
 |x :: y :: l,h=>by
  rw[List.pairwise_cons]at h;show Ev.insI x (Ev.sortI (y :: l))=_;rw[o8 h.2,Ev.insI,xV (h.1 y (by simp))]
theorem FZ{α:Type}[DecidableEq α]:∀(l a:List α),(a++l).Nodup->l.foldl (λa k=>if k∈a then a else a++[k]) a=a++l
 |[],a,_=>by simp
 |x :: l,a,h=>by
  have hx:x∉a:=λq=>by
   rw[List.nodup_append]at h;exact h.2.2 x q x (by simp) rfl
  rw[Xm,WQ hx,FZ l (a++[x]) (by simpa using h)];simp
section
variable{F:List Fn}{w n aD aQ i:Nat}
def j0(hst:F[aD]?=some cI)(hf:F[aQ]?=some (eL aD))(hd:F[i]?=some (vE aD aQ))(rows:List Rw)(m:Nat)(ho:Ord rows 0 m)(hl:rows.length<=900)(hg:∀r∈rows,r.2.1.length<=900)(ht:tot (er rows 0 m)<=900):run F w (n+3) i [.val (.int m),.val (.lst (rows.map rV))]=some (aJ (aM (er rows 0 m)),[]):=by
 have st:=λ(k:Nat) (g x:List Nat) fr=>eH (fr:=fr) (j9 (F:=F) (w:=w) (n:=n+1) (i:=aD) hst k g x);refine cy hd rfl ?_;refine ai (jI (l:=[]) (jT aI iR) rfl rfl ?_);refine ai (aW (aN rfl) rfl rfl ?_);refine ai (lD (vs:=rows.map rV) (af:=oF m (.val (.lst (rows.map rV))) [] 0 none none none) (fO (fj rfl) rfl) ?_);refine fV (e:=rV) (λp l fr=>p++l=rows/\∃ps th a b d,ps++er l th m=er rows 0 m/\Ord l th m/\ps.length<=3*p.length/\vo a/\vo b/\vo d/\fr=oF m (.val (.lst (rows.map rV))) ps th a b d) (λp r l fr ⟨hp,ps,th,a,b,d,he,hO,hpl,ha,hb,hd,hfr⟩=>?_) (λp fr ⟨hp,ps,th,a,b,d,he,hO,hpl,ha,hb,hd,hfr⟩=>?_) _ [] _ ⟨rfl,[],0,none,none,none,rfl,ho,by simp,.none,.none,.none,rfl⟩
 .subst hfr;obtain⟨p0,g,x⟩:=r;obtain⟨h1,h2⟩:=hO;have Vr:=WT List.length hp;rw[WN,WY]at Vr;have VU:g.length<=900:=hg (p0,g,x) (by rw[<-hp];simp);have sl:=gj (p0 - th) g x;have s1:Pv.bN .sub (.int (p0:Int)) (.int (th:Int))=some (.int ((p0 - th:Nat):Int)):=by rw[iH];congr 2;omega
  have a1:Pv.bN .add (.int (p0:Int)) (.int (g.length:Nat))=some (.int ((p0+g.length:Nat):Int)):=by rw[bR];congr 2
  refine dI (af:=oF m (.val (.lst (rows.map rV))) ps th (some (.val (.int p0))) (some (.val (.str g))) (some (.val (.str x)))) (Pw rfl ha rfl hb rfl hd) ?_;refine ai (fW (v:=.aU) (af:=oF m (.val (.lst (rows.map rV))) (ps++bf (p0 - th) g x) th (some (.val (.int p0))) (some (.val (.str g))) (some (.val (.str x)))) (tN rfl rfl (aF (b9 (aX rfl (bz (au rfl) (au rfl) s1) (aX rfl (au rfl) (aX rfl (au rfl) br))) (st _ _ _ _)) aI) ((qW (by simp;omega)).trans (by simp[oF]))) ?_);refine ai (aW (ao:=oF m (.val (.lst (rows.map rV))) (ps++bf (p0 - th) g x) (p0+g.length) (some (.val (.int p0))) (some (.val (.str g))) (some (.val (.str x)))) (bz (au rfl) (cQ (aF (au rfl) aI) (XX (by omega))) a1) rfl rfl (aC ?_));rw[dU];exact⟨by simpa using hp,_,_,_,_,_,by rw[<-he];simp[er],h2,by simp;omega,.val,.val,.val,rfl⟩
 .subst hfr;rw[Xn]at hp;subst hp;simp only[er]at he;have sl:=gj (m - th) [] [];have hO:th<=m:=hO;have s1:Pv.bN .sub (.int (m:Int)) (.int (th:Int))=some (.int ((m - th:Nat):Int)):=by rw[iH];congr 2;omega
  refine ai (fW (v:=.aU) (af:=oF m (.val (.lst (p.map rV))) (ps++bf (m - th) [] []) th a b d) (tN rfl rfl (aF (b9 (aX rfl (bz (au rfl) (au rfl) s1) (aX rfl (aN rfl) (aX rfl (aN rfl) br))) (st _ _ _ _)) aI) ((qW (by simp;omega)).trans (by simp[oF]))) ?_);rw[he];have hlen:(er p 0 m).length<=3000:=by rw[<-he];simp;omega
  refine ai (b8 (af:=[some (.val (.int m)),some (.val (.lst (p.map rV))),some (.val (.lst ((er p 0 m).map Pt.v))),some (.val (.int th)),a,b,d]) ?_ ⟨rfl,rfl⟩);rw[show gr (oF m (.val (.lst (p.map rV))) (er p 0 m) th a b d)=[some (.val (.int m)),some (.val (.lst (p.map rV))),some (.val (.lst ((er p 0 m).map Pt.v))),some (.val (.int th)),a,b,d]by
   show [_,_,_,_,a.map Sl.gb,b.map Sl.gb,d.map Sl.gb]=_;rw[dY ha,dY hb,dY hd];rfl]
  exact b9 (aX rfl (pX (au rfl) (by show gg _=some (aJ (er p 0 m));unfold gg;rw[xV (bS (by simp;omega))];rfl)) br) (dm (iK (F:=F) (w:=w) (n:=n) hst hf (er p 0 m) (by omega) (by omega)))
end
end Pv
namespace Pv
open Ev (D bh aZ TY BI ME T E Es Eo It S Ss Fn big deep b2i rep bL cY bu aK cut bU cH slots)
noncomputable def dl:List Nat->List Nat->Nat
 |[],b=>b.length
 |_ :: a,[]=>a.length+1
 |x :: a,y :: b=>if x=y then dl a b else 1+min (dl a (y :: b)) (dl (x :: a) b)
termination_by a b=>a.length+b.length
noncomputable def Vs:At->Pt
 |.k=>.keep 1
 |.d c=>.drop [c]
 |.p c=>.put [c]
noncomputable def Vt(A new:List Nat)(j:Nat):V:=.int (dl A (new.take j).reverse:Nat)
noncomputable def TF(A new:List Nat):List V:=(List.range (new.length+1)).map (Vt A new)
noncomputable def Vu(old new:List Nat)(i:Nat):V:=.lst (TF (old.take i).reverse new)
noncomputable def Vv(old new:List Nat):List V:=(List.range (old.length+1)).map (Vu old new)
section
variable{i:Nat}
noncomputable def hF(old new:List Nat)(ps:List At)(i j:Nat):Fr:=[some (.val (.str old)),some (.val (.str new)),some (.val (.lst (Vv old new))),some (.own (ps.map λx=>(Vs x).v)),some (.val (.int (i:Nat))),some (.val (.int (j:Nat)))]
end
end Pv
namespace Lw
@[reducible] noncomputable def TH:Ev.S:=.iff (.cmp .eq (.ix (.v 0) (.c (.int 0))) (.c (.str [107,101,101,112]))) (.cons (.ret (.ix (.v 0) (.c (.int 1)))) .nil) .nil
@[reducible] noncomputable def TJ:Ev.S:=.ret (.bi .len (.cons (.ix (.v 0) (.c (.int 1))) .nil))
@[reducible] noncomputable def f0:Ev.Fn:=⟨1,1,(.cons TH (.cons TJ .nil))⟩
@[reducible] noncomputable def TL:Ev.S:=.ret (.bi .sum (.cons (.comp (.cl 0 (.cons (.v 1) .nil)) (.one 1) (.seq (.v 0)) (.yes (.cmp .ne (.ix (.v 1) (.c (.int 0))) (.c (.str [112,117,116]))))) .nil))
@[reducible] noncomputable def f1:Ev.Fn:=⟨1,2,(.cons TL .nil)⟩
@[reducible] noncomputable def TM:Ev.S:=.ret (.bi .sum (.cons (.comp (.cl 0 (.cons (.v 1) .nil)) (.one 1) (.seq (.v 0)) (.yes (.cmp .ne (.ix (.v 1) (.c (.int 0))) (.c (.str [100,114,111,112]))))) .nil))
@[reducible] noncomputable def f2:Ev.Fn:=⟨1,2,(.cons TM .nil)⟩
@[reducible] noncomputable def TN:Ev.S:=.ret (.bi .sum (.cons (.comp (.cl 0 (.cons (.v 1) .nil)) (.one 1) (.seq (.v 0)) (.yes (.cmp .ne (.ix (.v 1) (.c (.int 0))) (.c (.str [107,101,101,112]))))) .nil))
@[reducible] noncomputable def f3:Ev.Fn:=⟨1,2,(.cons TN .nil)⟩
@[reducible] noncomputable def TQ:Ev.S:=.set 1 (.lst .nil)
@[reducible] noncomputable def TR:Ev.S:=.set 2 (.c (.int 0))
@[reducible] noncomputable def TU:Ev.S:=.set 3 (.c (.str []))
@[reducible] noncomputable def TV:Ev.S:=.set 4 (.c (.str []))
@[reducible] noncomputable def TX:Ev.Ss:=(.cons (.iff (.cmp .eq (.v 5) (.c (.str [100,114,111,112]))) (.cons (.set 3 (.bin .add (.v 3) (.v 6))) .nil) (.cons (.iff (.cmp .eq (.v 5) (.c (.str [112,117,116]))) (.cons (.set 4 (.bin .add (.v 4) (.v 6))) .nil) (.cons (.iff (.cmp .gt (.v 6) (.c (.int 0))) (.cons (.iff (.orr (.cmp .ne (.v 3) (.c (.str []))) (.cmp .ne (.v 4) (.c (.str [])))) (.cons (.exp (.me .extend (.v 1) (.cons (.cl 5 (.cons (.v 2) (.cons (.v 3) (.cons (.v 4) .nil)))) .nil))) (.cons (.set 2 (.c (.int 0))) (.cons (.set 3 (.c (.str []))) (.cons (.set 4 (.c (.str []))) .nil)))) .nil) (.cons (.set 2 (.bin .add (.v 2) (.v 6))) .nil)) .nil) .nil)) .nil)) .nil)
@[reducible] noncomputable def TZ:Ev.S:=.for (.many [5,6]) (.seq (.v 0)) TX
@[reducible] noncomputable def T3:Ev.S:=.exp (.me .extend (.v 1) (.cons (.cl 5 (.cons (.v 2) (.cons (.v 3) (.cons (.v 4) .nil)))) .nil))
@[reducible] noncomputable def T4:Ev.S:=.ret (.gZ (.v 1))
@[reducible] noncomputable def f4:Ev.Fn:=⟨1,7,(.cons TQ (.cons TR (.cons TU (.cons TV (.cons TZ (.cons T3 (.cons T4 .nil)))))))⟩
@[reducible] noncomputable def T5:Ev.S:=.set 3 (.lst .nil)
@[reducible] noncomputable def T6:Ev.S:=.iff (.cmp .gt (.v 0) (.c (.int 0))) (.cons (.exp (.me .append (.v 3) (.cons (.tup (.cons (.c (.str [107,101,101,112])) (.cons (.v 0) .nil))) .nil))) .nil) .nil
@[reducible] noncomputable def T7:Ev.S:=.iff (.cmp .ne (.v 1) (.c (.str []))) (.cons (.exp (.me .append (.v 3) (.cons (.tup (.cons (.c (.str [100,114,111,112])) (.cons (.v 1) .nil))) .nil))) .nil) .nil
@[reducible] noncomputable def T8:Ev.S:=.iff (.cmp .ne (.v 2) (.c (.str []))) (.cons (.exp (.me .append (.v 3) (.cons (.tup (.cons (.c (.str [112,117,116])) (.cons (.v 2) .nil))) .nil))) .nil) .nil
@[reducible] noncomputable def T9:Ev.S:=.ret (.v 3)
@[reducible] noncomputable def f5:Ev.Fn:=⟨3,4,(.cons T5 (.cons T6 (.cons T7 (.cons T8 (.cons T9 .nil)))))⟩
@[reducible] noncomputable def Ua:Ev.S:=.set 2 (.c (.int 0))
@[reducible] noncomputable def Ub:Ev.Ss:=(.cons (.iff (.an (.cmp .eq (.ix (.v 3) (.c (.int 0))) (.c (.str [100,114,111,112]))) (.cmp .ne (.sl (.v 1) (.yes (.v 2)) (.yes (.bin .add (.v 2) (.cl 0 (.cons (.v 3) .nil))))) (.ix (.v 3) (.c (.int 1))))) (.cons (.ret (.c (.bl false))) .nil) .nil) (.cons (.iff (.cmp .ne (.ix (.v 3) (.c (.int 0))) (.c (.str [112,117,116]))) (.cons (.set 2 (.bin .add (.v 2) (.cl 0 (.cons (.v 3) .nil)))) .nil) .nil) .nil))
@[reducible] noncomputable def Uc:Ev.S:=.for (.one 3) (.seq (.v 0)) Ub
@[reducible] noncomputable def Ud:Ev.S:=.ret (.cmp .eq (.v 2) (.bi .len (.cons (.v 1) .nil)))
@[reducible] noncomputable def f6:Ev.Fn:=⟨2,4,(.cons Ua (.cons Uc (.cons Ud .nil)))⟩
@[reducible] noncomputable def Ue:Ev.S:=.iff (.nt (.cl 6 (.cons (.v 0) (.cons (.v 1) .nil)))) (.cons (.fy 0) .nil) .nil
@[reducible] noncomputable def Ug:Ev.S:=.set 2 (.lst .nil)
@[reducible] noncomputable def Uh:Ev.S:=.set 3 (.c (.int 0))
@[reducible] noncomputable def Ui:Ev.Ss:=(.cons (.iff (.cmp .eq (.v 4) (.c (.str [112,117,116]))) (.cons (.exp (.me .append (.v 2) (.cons (.v 5) .nil))) .nil) (.cons (.iff (.cmp .eq (.v 4) (.c (.str [100,114,111,112]))) (.cons (.set 3 (.bin .add (.v 3) (.bi .len (.cons (.v 5) .nil)))) .nil) (.cons (.exp (.me .append (.v 2) (.cons (.sl (.v 1) (.yes (.v 3)) (.yes (.bin .add (.v 3) (.v 5)))) .nil))) (.cons (.set 3 (.bin .add (.v 3) (.v 5))) .nil))) .nil)) .nil)
@[reducible] noncomputable def Uj:Ev.S:=.for (.many [4,5]) (.seq (.v 0)) Ui
@[reducible] noncomputable def Uk:Ev.S:=.ret (.me .join (.c (.str [])) (.cons (.v 2) .nil))
@[reducible] noncomputable def f7:Ev.Fn:=⟨2,6,(.cons Ue (.cons Ug (.cons Uh (.cons Uj (.cons Uk .nil)))))⟩
@[reducible] noncomputable def Ul:Ev.S:=.ret (.cl 4 (.cons (.gZ (.comp (.tup (.cons (.je [(.str [107,101,101,112],.str [107,101,101,112]),(.str [112,117,116],.str [100,114,111,112]),(.str [100,114,111,112],.str [112,117,116])] (.v 1)) (.cons (.v 2) .nil))) (.many [1,2]) (.seq (.v 0)) .no)) .nil))
@[reducible] noncomputable def f8:Ev.Fn:=⟨1,3,(.cons Ul .nil)⟩
@[reducible] noncomputable def Um:Ev.S:=.ret (.cl 4 (.cons (.tup (.cons (.tup (.cons (.c (.str [107,101,101,112])) (.cons (.v 0) .nil))) .nil)) .nil))
@[reducible] noncomputable def f9:Ev.Fn:=⟨1,1,(.cons Um .nil)⟩
@[reducible] noncomputable def Px:Ev.S:=.set 2 (.cl 11 (.cons (.me .pop (.v 0) .nil) (.cons (.v 1) .nil)))
@[reducible] noncomputable def Py:Ev.S:=.iff (.cmp .gt (.cl 0 (.cons (.ix (.v 2) (.c (.int 1))) .nil)) (.c (.int 0))) (.cons (.exp (.me .append (.v 0) (.cons (.ix (.v 2) (.c (.int 1))) .nil))) .nil) .nil
@[reducible] noncomputable def Pz:Ev.S:=.ret (.ix (.v 2) (.c (.int 0)))
@[reducible] noncomputable def AA:Ev.Fn:=⟨2,3,(.cons Px (.cons Py (.cons Pz .nil)))⟩
@[reducible] noncomputable def PB:Ev.S:=.set 2 (.ix (.v 0) (.c (.int 0)))
@[reducible] noncomputable def PC:Ev.S:=.iff (.cmp .eq (.v 2) (.c (.str [107,101,101,112]))) (.cons (.ret (.tup (.cons (.tup (.cons (.v 2) (.cons (.v 1) .nil))) (.cons (.tup (.cons (.v 2) (.cons (.bin .sub (.ix (.v 0) (.c (.int 1))) (.v 1)) .nil))) .nil)))) .nil) .nil
@[reducible] noncomputable def PD:Ev.S:=.ret (.tup (.cons (.tup (.cons (.v 2) (.cons (.sl (.ix (.v 0) (.c (.int 1))) .no (.yes (.v 1))) .nil))) (.cons (.tup (.cons (.v 2) (.cons (.sl (.ix (.v 0) (.c (.int 1))) (.yes (.v 1)) .no) .nil))) .nil)))
@[reducible] noncomputable def Na:Ev.Fn:=⟨2,3,(.cons PB (.cons PC (.cons PD .nil)))⟩
@[reducible] noncomputable def PF:Ev.S:=.iff (.orr (.cmp .lt (.v 1) (.c (.int 0))) (.cmp .gt (.v 1) (.cl 1 (.cons (.v 0) .nil)))) (.cons (.fy 2) .nil) .nil
@[reducible] noncomputable def PJ:Ev.S:=.set 2 (.ji (.rev (.cl 4 (.cons (.v 0) .nil))))
@[reducible] noncomputable def PK:Ev.S:=.set 3 (.lst .nil)
@[reducible] noncomputable def PL:Ev.S:=.set 4 (.v 1)
@[reducible] noncomputable def PM:Ev.Ss:=(.cons (.iff (.cmp .eq (.ix (.ix (.v 2) (.neg (.c (.int 1)))) (.c (.int 0))) (.c (.str [112,117,116]))) (.cons (.exp (.me .append (.v 3) (.cons (.me .pop (.v 2) .nil) .nil))) .nil) (.cons (.set 5 (.bi .min (.cons (.v 4) (.cons (.cl 0 (.cons (.ix (.v 2) (.neg (.c (.int 1)))) .nil)) .nil)))) (.cons (.exp (.me .append (.v 3) (.cons (.cl 10 (.cons (.v 2) (.cons (.v 5) .nil))) .nil))) (.cons (.set 4 (.bin .sub (.v 4) (.v 5))) .nil)))) .nil)
@[reducible] noncomputable def PN:Ev.S:=.nW (.an (.v 2) (.orr (.cmp .gt (.v 4) (.c (.int 0))) (.cmp .eq (.ix (.ix (.v 2) (.neg (.c (.int 1)))) (.c (.int 0))) (.c (.str [112,117,116]))))) PM
@[reducible] noncomputable def PR:Ev.S:=.ret (.tup (.cons (.gZ (.v 3)) (.cons (.lV (.v 2)) .nil)))
@[reducible] noncomputable def Nb:Ev.Fn:=⟨2,6,(.cons PF (.cons PJ (.cons PK (.cons PL (.cons PN (.cons PR .nil))))))⟩
@[reducible] noncomputable def PU:Ev.S:=.set 3 (.ix (.cl 12 (.cons (.v 0) (.cons (.v 1) .nil))) (.c (.int 0)))
@[reducible] noncomputable def PV:Ev.S:=.iff (.an (.cmp .eq (.v 2) (.c (.str [97,104,101,97,100]))) (.an (.v 3) (.cmp .eq (.ix (.ix (.v 3) (.neg (.c (.int 1)))) (.c (.int 0))) (.c (.str [112,117,116]))))) (.cons (.ret (.cl 2 (.cons (.sl (.v 3) .no (.yes (.neg (.c (.int 1))))) .nil))) .nil) .nil
@[reducible] noncomputable def PX:Ev.S:=.ret (.cl 2 (.cons (.v 3) .nil))
@[reducible] noncomputable def Nc:Ev.Fn:=⟨3,4,(.cons PU (.cons PV (.cons PX .nil)))⟩
@[reducible] noncomputable def PY:Ev.S:=.ret (.cl 13 (.cons (.cl 8 (.cons (.v 0) .nil)) (.cons (.v 1) (.cons (.v 2) .nil))))
@[reducible] noncomputable def Nd:Ev.Fn:=⟨3,3,(.cons PY .nil)⟩
@[reducible] noncomputable def PZ:Ev.S:=.set 2 (.cl 12 (.cons (.v 0) (.cons (.v 1) .nil)))
@[reducible] noncomputable def P0:Ev.S:=.iff (.nt (.ix (.v 2) (.c (.int 1)))) (.cons (.fy 2) .nil) .nil
@[reducible] noncomputable def P1:Ev.S:=.iff (.cmp .eq (.ix (.ix (.ix (.v 2) (.c (.int 1))) (.c (.int 0))) (.c (.int 0))) (.c (.str [100,114,111,112]))) (.cons (.ret (.c (.aU))) .nil) .nil
@[reducible] noncomputable def P4:Ev.S:=.ret (.cl 2 (.cons (.ix (.v 2) (.c (.int 0))) .nil))
@[reducible] noncomputable def Nf:Ev.Fn:=⟨2,3,(.cons PZ (.cons P0 (.cons P1 (.cons P4 .nil))))⟩
@[reducible] noncomputable def P5:Ev.S:=.set 1 (.lst .nil)
@[reducible] noncomputable def P6:Ev.S:=.set 2 (.c (.int 0))
@[reducible] noncomputable def P7:Ev.S:=.set 3 (.c (.str []))
@[reducible] noncomputable def P8:Ev.S:=.set 4 (.c (.str []))
@[reducible] noncomputable def P9:Ev.Ss:=(.cons (.iff (.cmp .eq (.v 5) (.c (.str [100,114,111,112]))) (.cons (.set 3 (.v 6)) .nil) (.cons (.iff (.cmp .eq (.v 5) (.c (.str [112,117,116]))) (.cons (.set 4 (.v 6)) .nil) (.cons (.iff (.orr (.cmp .ne (.v 3) (.c (.str []))) (.cmp .ne (.v 4) (.c (.str [])))) (.cons (.exp (.me .append (.v 1) (.cons (.tup (.cons (.v 2) (.cons (.v 3) (.cons (.v 4) .nil)))) .nil))) .nil) .nil) (.cons (.set 2 (.bin .add (.bin .add (.v 2) (.bi .len (.cons (.v 3) .nil))) (.v 6))) (.cons (.set 3 (.c (.str []))) (.cons (.set 4 (.c (.str []))) .nil))))) .nil)) .nil)
@[reducible] noncomputable def Qa:Ev.S:=.for (.many [5,6]) (.seq (.bin .add (.cl 4 (.cons (.v 0) .nil)) (.tup (.cons (.tup (.cons (.c (.str [107,101,101,112])) (.cons (.c (.int 1)) .nil))) .nil)))) P9
@[reducible] noncomputable def Qc:Ev.S:=.ret (.v 1)
@[reducible] noncomputable def Ng:Ev.Fn:=⟨1,7,(.cons P5 (.cons P6 (.cons P7 (.cons P8 (.cons Qa (.cons Qc .nil))))))⟩
@[reducible] noncomputable def Qd:Ev.S:=.set 2 (.lst .nil)
@[reducible] noncomputable def Qe:Ev.S:=.set 3 (.c (.int 0))
@[reducible] noncomputable def Qf:Ev.Ss:=(.cons (.exp (.me .extend (.v 2) (.cons (.cl 5 (.cons (.bin .sub (.v 4) (.v 3)) (.cons (.v 5) (.cons (.v 6) .nil)))) .nil))) (.cons (.set 3 (.bin .add (.v 4) (.bi .len (.cons (.v 5) .nil)))) .nil))
@[reducible] noncomputable def Qg:Ev.S:=.for (.many [4,5,6]) (.seq (.v 1)) Qf
@[reducible] noncomputable def Qh:Ev.S:=.exp (.me .extend (.v 2) (.cons (.cl 5 (.cons (.bin .sub (.v 0) (.v 3)) (.cons (.c (.str [])) (.cons (.c (.str [])) .nil)))) .nil))
@[reducible] noncomputable def Qi:Ev.S:=.ret (.cl 4 (.cons (.gZ (.v 2)) .nil))
@[reducible] noncomputable def Nh:Ev.Fn:=⟨2,7,(.cons Qd (.cons Qe (.cons Qg (.cons Qh (.cons Qi .nil)))))⟩
@[reducible] noncomputable def Qj:Ev.S:=.iff (.cmp .eq (.v 0) (.lst .nil)) (.cons (.ret (.bin .mul (.c (.int 7)) (.v 1))) .nil) .nil
@[reducible] noncomputable def Qk:Ev.S:=.ret (.bin .add (.ix (.v 0) (.bin .mod (.v 1) (.bi .len (.cons (.v 0) .nil)))) (.bin .mul (.c (.int 6553)) (.bin .fdiv (.v 1) (.bi .len (.cons (.v 0) .nil)))))
@[reducible] noncomputable def Ni:Ev.Fn:=⟨2,2,(.cons Qj (.cons Qk .nil))⟩
@[reducible] noncomputable def Ql:Ev.S:=.set 3 (.bin .mod (.bin .add (.bin .mul (.bin .mod (.cl 18 (.cons (.v 0) (.cons (.v 1) .nil))) (.c (.int 2147483563))) (.c (.int 69069))) (.bin .mul (.c (.int 104723)) (.bin .add (.v 1) (.c (.int 1))))) (.c (.int 2147483563)))
@[reducible] noncomputable def Qm:Ev.S:=.set 3 (.bin .mod (.bin .add (.bin .mul (.v 3) (.v 3)) (.bin .fdiv (.v 3) (.c (.int 3)))) (.c (.int 2147483399)))
@[reducible] noncomputable def Qn:Ev.S:=.ret (.bin .mod (.bin .fdiv (.bin .mod (.bin .add (.bin .mul (.v 3) (.v 3)) (.bin .fdiv (.v 3) (.c (.int 7)))) (.c (.int 2147483647))) (.c (.int 11))) (.v 2))
@[reducible] noncomputable def Nj:Ev.Fn:=⟨3,4,(.cons Ql (.cons Qm (.cons Qn .nil)))⟩
@[reducible] noncomputable def Qo:Ev.S:=.ret (.me .join (.c (.str [])) (.cons (.comp (.ix (.c (.str [97,98,99,32])) (.cl 19 (.cons (.v 0) (.cons (.bin .add (.bin .add (.v 1) (.c (.int 1))) (.v 3)) (.cons (.c (.int 4)) .nil))))) (.one 3) (.fH (.cons (.cl 19 (.cons (.v 0) (.cons (.v 1) (.cons (.bin .add (.v 2) (.c (.int 1))) .nil)))) .nil)) .no) .nil))
@[reducible] noncomputable def Nk:Ev.Fn:=⟨3,4,(.cons Qo .nil)⟩
@[reducible] noncomputable def Qp:Ev.S:=.set 3 (.tup .nil)
@[reducible] noncomputable def Qq:Ev.Ss:=(.cons (.iff (.cmp .eq (.cl 19 (.cons (.v 0) (.cons (.bin .add (.v 1) (.bin .mul (.c (.int 4)) (.v 4))) (.cons (.c (.int 4)) .nil)))) (.c (.int 0))) (.cons (.set 5 (.bin .mul (.ix (.c (.str [97,98,122])) (.cl 19 (.cons (.v 0) (.cons (.bin .add (.bin .add (.v 1) (.bin .mul (.c (.int 4)) (.v 4))) (.c (.int 1))) (.cons (.c (.int 3)) .nil))))) (.bin .add (.c (.int 1)) (.cl 19 (.cons (.v 0) (.cons (.bin .add (.bin .add (.v 1) (.bin .mul (.c (.int 4)) (.v 4))) (.c (.int 2))) (.cons (.c (.int 2)) .nil))))))) (.cons (.set 3 (.bin .add (.v 3) (.tup (.cons (.tup (.cons (.c (.str [112,117,116])) (.cons (.v 5) .nil))) .nil)))) .nil)) .nil) (.cons (.iff (.cmp .lt (.v 4) (.bi .len (.cons (.v 2) .nil))) (.cons (.set 6 (.cmp .gt (.cl 19 (.cons (.v 0) (.cons (.bin .add (.bin .add (.v 1) (.bin .mul (.c (.int 4)) (.v 4))) (.c (.int 3))) (.cons (.c (.int 3)) .nil)))) (.c (.int 0)))) (.cons (.set 3 (.bin .add (.v 3) (.tup (.cons (.lU (.v 6) (.tup (.cons (.c (.str [107,101,101,112])) (.cons (.c (.int 1)) .nil))) (.tup (.cons (.c (.str [100,114,111,112])) (.cons (.ix (.v 2) (.v 4)) .nil)))) .nil)))) .nil)) .nil) .nil))
@[reducible] noncomputable def Qs:Ev.S:=.for (.one 4) (.fH (.cons (.bin .add (.bi .len (.cons (.v 2) .nil)) (.c (.int 1))) .nil)) Qq
@[reducible] noncomputable def Qt:Ev.S:=.ret (.v 3)
@[reducible] noncomputable def Nl:Ev.Fn:=⟨3,7,(.cons Qp (.cons Qs (.cons Qt .nil)))⟩
@[reducible] noncomputable def Qu:Ev.S:=.set 1 (.cl 20 (.cons (.v 0) (.cons (.c (.int 0)) (.cons (.c (.int 5)) .nil))))
@[reducible] noncomputable def Qv:Ev.S:=.set 2 (.cl 21 (.cons (.v 0) (.cons (.c (.int 10)) (.cons (.v 1) .nil))))
@[reducible] noncomputable def Qw:Ev.S:=.set 3 (.cl 7 (.cons (.v 2) (.cons (.v 1) .nil)))
@[reducible] noncomputable def Qx:Ev.S:=.set 4 (.comp (.cl 13 (.cons (.v 2) (.cons (.v 10) (.cons (.c (.str [97,104,101,97,100])) .nil)))) (.one 10) (.fH (.cons (.bin .add (.bi .len (.cons (.v 1) .nil)) (.c (.int 1))) .nil)) .no)
@[reducible] noncomputable def Qy:Ev.S:=.set 5 (.comp (.cl 13 (.cons (.v 2) (.cons (.v 11) (.cons (.c (.str [98,101,104,105,110,100])) .nil)))) (.one 11) (.fH (.cons (.bin .add (.bi .len (.cons (.v 1) .nil)) (.c (.int 1))) .nil)) .no)
@[reducible] noncomputable def zE:Ev.S:=.iff (.orr (.cmp .ne (.v 4) (.bi .jP (.cons (.v 4) .nil))) (.orr (.cmp .ne (.v 5) (.bi .jP (.cons (.v 5) .nil))) (.orr (.cmp .ne (.ix (.v 4) (.c (.int 0))) (.c (.int 0))) (.cmp .ne (.ix (.v 5) (.neg (.c (.int 1)))) (.bi .len (.cons (.v 3) .nil)))))) (.cons (.ret (.c (.bl false))) .nil) .nil
@[reducible] noncomputable def zF:Ev.S:=.iff (.cmp .ne (.comp (.v 12) (.one 12) (.fH (.cons (.bin .add (.bi .len (.cons (.v 1) .nil)) (.c (.int 1))) .nil)) (.yes (.cmp .gt (.ix (.v 4) (.v 12)) (.ix (.v 5) (.v 12))))) (.lst .nil)) (.cons (.ret (.c (.bl false))) .nil) .nil
@[reducible] noncomputable def zG:Ev.S:=.iff (.cmp .ne (.comp (.v 13) (.one 13) (.fH (.cons (.bi .len (.cons (.v 1) .nil)) .nil)) (.yes (.cmp .gp (.bin .sub (.ix (.v 4) (.bin .add (.v 13) (.c (.int 1)))) (.ix (.v 5) (.v 13))) (.tup (.cons (.c (.int 0)) (.cons (.c (.int 1)) .nil)))))) (.lst .nil)) (.cons (.ret (.c (.bl false))) .nil) .nil
@[reducible] noncomputable def zH:Ev.S:=.set 6 (.comp (.cl 15 (.cons (.v 2) (.cons (.v 14) .nil))) (.one 14) (.fH (.cons (.bi .len (.cons (.v 1) .nil)) .nil)) .no)
@[reducible] noncomputable def zI:Ev.S:=.set 7 (.comp (.v 15) (.one 15) (.seq (.v 6)) (.yes (.cmp .j4 (.v 15) (.c (.aU)))))
@[reducible] noncomputable def vI:Ev.S:=.iff (.orr (.cmp .ne (.v 7) (.bi .kY (.cons (.v 7) .nil))) (.cmp .ne (.bin .add (.bi .len (.cons (.v 7) .nil)) (.cl 3 (.cons (.v 2) .nil))) (.bin .sub (.bin .add (.bi .len (.cons (.v 3) .nil)) (.bi .len (.cons (.v 1) .nil))) (.bi .len (.cons (.v 7) .nil))))) (.cons (.ret (.c (.bl false))) .nil) .nil
@[reducible] noncomputable def zJ:Ev.Ss:=(.cons (.iff (.cmp .j4 (.ix (.v 6) (.v 8)) (.c (.aU))) (.cons (.iff (.orr (.cmp .ne (.ix (.v 3) (.ix (.v 6) (.v 8))) (.ix (.v 1) (.v 8))) (.orr (.cmp .ne (.ix (.v 6) (.v 8)) (.ix (.v 5) (.v 8))) (.cmp .ne (.ix (.v 4) (.bin .add (.v 8) (.c (.int 1)))) (.bin .add (.ix (.v 6) (.v 8)) (.c (.int 1)))))) (.cons (.ret (.c (.bl false))) .nil) .nil) (.cons (.iff (.orr (.cmp .gt (.cl 14 (.cons (.v 2) (.cons (.ix (.v 6) (.v 8)) (.cons (.c (.str [98,101,104,105,110,100])) .nil)))) (.v 8)) (.cmp .lt (.cl 14 (.cons (.v 2) (.cons (.bin .add (.ix (.v 6) (.v 8)) (.c (.int 1))) (.cons (.c (.str [97,104,101,97,100])) .nil)))) (.v 8))) (.cons (.ret (.c (.bl false))) .nil) .nil) .nil)) .nil) .nil)
@[reducible] noncomputable def vJ:Ev.S:=.for (.one 8) (.fH (.cons (.bi .len (.cons (.v 1) .nil)) .nil)) zJ
@[reducible] noncomputable def vK:Ev.S:=.set 9 (.cl 16 (.cons (.v 2) .nil))
@[reducible] noncomputable def vL:Ev.S:=.iff (.cmp .ne (.bi .sum (.cons (.comp (.bin .add (.bi .len (.cons (.v 17) .nil)) (.bi .len (.cons (.v 18) .nil))) (.many [16,17,18]) (.seq (.v 9)) .no) .nil)) (.cl 3 (.cons (.v 2) .nil))) (.cons (.ret (.c (.bl false))) .nil) .nil
@[reducible] noncomputable def vM:Ev.S:=.iff (.cmp .ne (.comp (.sl (.v 1) (.yes (.v 19)) (.yes (.bin .add (.v 19) (.bi .len (.cons (.v 20) .nil))))) (.many [19,20,21]) (.seq (.v 9)) .no) (.comp (.v 23) (.many [22,23,24]) (.seq (.v 9)) .no)) (.cons (.ret (.c (.bl false))) .nil) .nil
@[reducible] noncomputable def vN:Ev.S:=.iff (.orr (.cmp .ne (.cmp .eq (.v 9) (.lst .nil)) (.cmp .eq (.cl 4 (.cons (.v 2) .nil)) (.cl 9 (.cons (.bi .len (.cons (.v 1) .nil)) .nil)))) (.cmp .ne (.cl 17 (.cons (.bi .len (.cons (.v 1) .nil)) (.cons (.v 9) .nil))) (.cl 4 (.cons (.v 2) .nil)))) (.cons (.ret (.c (.bl false))) .nil) .nil
@[reducible] noncomputable def vO:Ev.S:=.ret (.an (.cmp .eq (.cl 1 (.cons (.v 2) .nil)) (.bi .len (.cons (.v 1) .nil))) (.cmp .eq (.cl 17 (.cons (.c (.int 3)) (.cons (.lst .nil) .nil))) (.cl 9 (.cons (.c (.int 3)) .nil))))
@[reducible] noncomputable def B8:Ev.Fn:=⟨1,25,(.cons Qu (.cons Qv (.cons Qw (.cons Qx (.cons Qy (.cons zE (.cons zF (.cons zG (.cons zH (.cons zI (.cons vI (.cons vJ (.cons vK (.cons vL (.cons vM (.cons vN (.cons vO .nil)))))))))))))))))⟩
noncomputable def prog:List Ev.Fn:=[f0,f1,f2,f3,f4,f5,f6,f7,f8,f9,AA,Na,Nb,Nc,Nd,Nf,Ng,Nh,Ni,Nj,Nk,Nl,B8]
end Lw
namespace Lw
open PySem PySem.Spec PyProof.Rows L2 Sm
open Ev (D O Hh Fr R aL E Es Eo T S Ss Fl Src bh aZ TY BI ME)
noncomputable def top(i:Nat):Stmt:=PySem.Challenge.pw_pastways_k31_whole_places.main.body.getD i (.Pass ⟨0,0,0,0⟩)
abbrev i0 (a:Nat->Addr) (d:Nat->FuncData):FI:=⟨"size",a 0,d 0,["part"]⟩
abbrev i1 (a:Nat->Addr) (d:Nat->FuncData):FI:=⟨"before",a 1,d 1,["change"]⟩
abbrev i2 (a:Nat->Addr) (d:Nat->FuncData):FI:=⟨"after",a 2,d 2,["change"]⟩
abbrev i3 (a:Nat->Addr) (d:Nat->FuncData):FI:=⟨"cost",a 3,d 3,["change"]⟩
abbrev i4 (a:Nat->Addr) (d:Nat->FuncData):FI:=⟨"form",a 4,d 4,["change"]⟩
abbrev i5 (a:Nat->Addr) (d:Nat->FuncData):FI:=⟨"stretch",a 5,d 5,["kept","gone","new"]⟩
abbrev i6 (a:Nat->Addr) (d:Nat->FuncData):FI:=⟨"fits",a 6,d 6,["change","text"]⟩
abbrev i7 (a:Nat->Addr) (d:Nat->FuncData):FI:=⟨"done",a 7,d 7,["change","text"]⟩
abbrev i8 (a:Nat->Addr) (d:Nat->FuncData):FI:=⟨"undone",a 8,d 8,["change"]⟩
abbrev i9 (a:Nat->Addr) (d:Nat->FuncData):FI:=⟨"nothing",a 9,d 9,["many"]⟩
abbrev Nm (a:Nat->Addr) (d:Nat->FuncData):FI:=⟨"taken",a 10,d 10,["parts","many"]⟩
abbrev Nn (a:Nat->Addr) (d:Nat->FuncData):FI:=⟨"parted",a 11,d 11,["part","many"]⟩
abbrev i12 (a:Nat->Addr) (d:Nat->FuncData):FI:=⟨"cut",a 12,d 12,["change","place"]⟩
abbrev Np (a:Nat->Addr) (d:Nat->FuncData):FI:=⟨"place_after",a 13,d 13,["change","place","side"]⟩
abbrev Nq (a:Nat->Addr) (d:Nat->FuncData):FI:=⟨"place_before",a 14,d 14,["change","place","side"]⟩
abbrev Nr (a:Nat->Addr) (d:Nat->FuncData):FI:=⟨"sign_after",a 15,d 15,["change","place"]⟩
abbrev Nt (a:Nat->Addr) (d:Nat->FuncData):FI:=⟨"touched",a 16,d 16,["change"]⟩
abbrev Nu (a:Nat->Addr) (d:Nat->FuncData):FI:=⟨"of_touched",a 17,d 17,["many","rows"]⟩
abbrev Nv (a:Nat->Addr) (d:Nat->FuncData):FI:=⟨"_law_cell",a 18,d 18,["_law_script","_law_k"]⟩
abbrev Nx (a:Nat->Addr) (d:Nat->FuncData):FI:=⟨"_law_drawn",a 19,d 19,["_law_script","_law_k","_law_many"]⟩
abbrev Ny (a:Nat->Addr) (d:Nat->FuncData):FI:=⟨"_law_text",a 20,d 20,["_law_script","_law_at","_law_most"]⟩
abbrev Nz (a:Nat->Addr) (d:Nat->FuncData):FI:=⟨"_law_change",a 21,d 21,["_law_script","_law_at","_law_text_here"]⟩
abbrev Ga (a:Nat->Addr) (d:Nat->FuncData):FI:=⟨"law",a 22,d 22,["_law_script"]⟩
noncomputable def nj:List Str:=["len","list","min","range","reversed","set","sorted","sum","tuple"]
def Qz:("len" : Str)∈nj:=by decide +kernel
def NB:("list" : Str)∈nj:=by decide +kernel
def QA:("min" : Str)∈nj:=by decide +kernel
def IK:("range" : Str)∈nj:=by decide +kernel
def qs:("reversed" : Str)∈nj:=by decide +kernel
def QB:("set" : Str)∈nj:=by decide +kernel
def vP:("sorted" : Str)∈nj:=by decide +kernel
def QC:("sum" : Str)∈nj:=by decide +kernel
def yd:("tuple" : Str)∈nj:=by decide +kernel
noncomputable def tb (a:Nat->Addr) (d:Nat->FuncData):Tb:=⟨prog,100000,[i0 a d,i1 a d,i2 a d,i3 a d,i4 a d,i5 a d,i6 a d,i7 a d,i8 a d,i9 a d,Nm a d,Nn a d,i12 a d,Np a d,Nq a d,Nr a d,Nt a d,Nu a d,Nv a d,Nx a d,Ny a d,Nz a d,Ga a d],nj,[("__name__",.str [108,97,119,95,112,97,115,116,119,97,121,115,95,107,51,49,95,119,104,111,108,101,95,112,108,97,99,101,115])],[("TURNED",[(.str [107,101,101,112],.str [107,101,101,112]),(.str [112,117,116],.str [100,114,111,112]),(.str [100,114,111,112],.str [112,117,116])])]⟩
section
variable{a:Nat->Addr}{d:Nat->FuncData}{n:Nat}
abbrev n0:List Str:=["part"]
def s0:bJ n0 ["part"] (aS (top 1)):=⟨rfl,rfl,rfl,by decide +kernel,rfl,by decide +kernel,by decide +kernel⟩
abbrev n1:List Str:=["change"]
def s1:bJ n1 ["change"] (aS (top 2)):=⟨rfl,rfl,rfl,by decide +kernel,rfl,by decide +kernel,by decide +kernel⟩
abbrev n2:List Str:=["change"]
def s2:bJ n2 ["change"] (aS (top 3)):=⟨rfl,rfl,rfl,by decide +kernel,rfl,by decide +kernel,by decide +kernel⟩
abbrev n3:List Str:=["change"]
def s3:bJ n3 ["change"] (aS (top 4)):=⟨rfl,rfl,rfl,by decide +kernel,rfl,by decide +kernel,by decide +kernel⟩
abbrev n4:List Str:=["change","parts","kept","gone","new","word","what"]
def s4:bJ n4 ["change"] (aS (top 5)):=⟨rfl,rfl,rfl,by decide +kernel,rfl,by decide +kernel,by decide +kernel⟩
abbrev n5:List Str:=["kept","gone","new","parts"]
def s5:bJ n5 ["kept","gone","new"] (aS (top 6)):=⟨rfl,rfl,rfl,by decide +kernel,rfl,by decide +kernel,by decide +kernel⟩
abbrev n6:List Str:=["change","text","place","part"]
def s6:bJ n6 ["change","text"] (aS (top 13)):=⟨rfl,rfl,rfl,by decide +kernel,rfl,by decide +kernel,by decide +kernel⟩
abbrev n7:List Str:=["change","text","pieces","place","word","what"]
def s7:bJ n7 ["change","text"] (aS (top 14)):=⟨rfl,rfl,rfl,by decide +kernel,rfl,by decide +kernel,by decide +kernel⟩
abbrev n8:List Str:=["change"]
def s8:bJ n8 ["change"] (aS (top 15)):=⟨rfl,rfl,rfl,by decide +kernel,rfl,by decide +kernel,by decide +kernel⟩
abbrev n9:List Str:=["many"]
def s9:bJ n9 ["many"] (aS (top 16)):=⟨rfl,rfl,rfl,by decide +kernel,rfl,by decide +kernel,by decide +kernel⟩
abbrev NC:List Str:=["parts","many","halves"]
def Q4:bJ NC ["parts","many"] (aS (top 17)):=⟨rfl,rfl,rfl,by decide +kernel,rfl,by decide +kernel,by decide +kernel⟩
abbrev ND:List Str:=["part","many","word"]
def ER:bJ ND ["part","many"] (aS (top 18)):=⟨rfl,rfl,rfl,by decide +kernel,rfl,by decide +kernel,by decide +kernel⟩
abbrev NF:List Str:=["change","place","parts","first","left","many"]
def s12:bJ NF ["change","place"] (aS (top 20)):=⟨rfl,rfl,rfl,by decide +kernel,rfl,by decide +kernel,by decide +kernel⟩
abbrev NG:List Str:=["change","place","side","first"]
def Vw:bJ NG ["change","place","side"] (aS (top 22)):=⟨rfl,rfl,rfl,by decide +kernel,rfl,by decide +kernel,by decide +kernel⟩
abbrev NH:List Str:=["change","place","side"]
def Vx:bJ NH ["change","place","side"] (aS (top 23)):=⟨rfl,rfl,rfl,by decide +kernel,rfl,by decide +kernel,by decide +kernel⟩
abbrev NI:List Str:=["change","place","halves"]
def Vy:bJ NI ["change","place"] (aS (top 24)):=⟨rfl,rfl,rfl,by decide +kernel,rfl,by decide +kernel,by decide +kernel⟩
abbrev NJ:List Str:=["change","rows","place","gone","new","word","what"]
def Vz:bJ NJ ["change"] (aS (top 25)):=⟨rfl,rfl,rfl,by decide +kernel,rfl,by decide +kernel,by decide +kernel⟩
abbrev NK:List Str:=["many","rows","parts","gone_through","place","gone","new"]
def VA:bJ NK ["many","rows"] (aS (top 26)):=⟨rfl,rfl,rfl,by decide +kernel,rfl,by decide +kernel,by decide +kernel⟩
abbrev NL:List Str:=["_law_script","_law_k"]
def VB:bJ NL ["_law_script","_law_k"] (aS (top 28)):=⟨rfl,rfl,rfl,by decide +kernel,rfl,by decide +kernel,by decide +kernel⟩
abbrev NN:List Str:=["_law_script","_law_k","_law_many","_law_cell_here"]
def VC:bJ NN ["_law_script","_law_k","_law_many"] (aS (top 29)):=⟨rfl,rfl,rfl,by decide +kernel,rfl,by decide +kernel,by decide +kernel⟩
abbrev NO:List Str:=["_law_script","_law_at","_law_most"]
def VD:bJ NO ["_law_script","_law_at","_law_most"] (aS (top 30)):=⟨rfl,rfl,rfl,by decide +kernel,rfl,by decide +kernel,by decide +kernel⟩
abbrev NP:List Str:=["_law_script","_law_at","_law_text_here","_law_found","_law_k","_law_new","_law_is_kept"]
def VE:bJ NP ["_law_script","_law_at","_law_text_here"] (aS (top 31)):=⟨rfl,rfl,rfl,by decide +kernel,rfl,by decide +kernel,by decide +kernel⟩
abbrev NQ:List Str:=["_law_script","_law_text_here","_law_change_here","_law_made","_law_lows","_law_highs","_law_places","_law_kept","_law_at","_law_rows"]
def VF:bJ NQ ["_law_script"] (aS (top 32)):=⟨rfl,rfl,rfl,by decide +kernel,rfl,by decide +kernel,by decide +kernel⟩
set_option maxHeartbeats 0 in
def dR:allB (tb a d) n [(f0.body,top 1,n0),(f1.body,top 2,n1),(f2.body,top 3,n2),(f3.body,top 4,n3),(f4.body,top 5,n4),(f5.body,top 6,n5),(f6.body,top 13,n6),(f7.body,top 14,n7),(f8.body,top 15,n8),(f9.body,top 16,n9),(AA.body,top 17,NC),(Na.body,top 18,ND),(Nb.body,top 20,NF),(Nc.body,top 22,NG),(Nd.body,top 23,NH),(Nf.body,top 24,NI),(Ng.body,top 25,NJ),(Nh.body,top 26,NK),(Ni.body,top 28,NL),(Nj.body,top 29,NN),(Nk.body,top 30,NO),(Nl.body,top 31,NP),(B8.body,top 32,NQ)]:=by
 refine⟨?_,?_,?_,?_,?_,?_,?_,?_,?_,?_,?_,?_,?_,?_,?_,?_,?_,?_,?_,?_,?_,?_,?_,trivial⟩;all_goals try dsimp only
 all_goals repeat (first
  | ((with_reducible show JE _ _ _ _ _ _ _ (.BoolOp _ [_] _));refine Kc ?_)
  | ((with_reducible show JE _ _ _ _ _ _ (.v _) _);exact jv (by decide +kernel))
  | ((with_reducible show JA _ _ _ _ _ _ (.cons _ _) _);refine GF ?_ ?_)
  | ((with_reducible show lW _ _ _ _ _ _ (.cons _ _) _);refine CD ?_ ?_)
  | ((with_reducible show JA _ _ _ _ _ _ .nil _);refine J7)
  | ((with_reducible show lW _ _ _ _ _ _ .nil _);refine GN)
  | ((with_reducible show JE _ _ _ _ _ _ (.c (.int _)) _);refine J4)
  | ((with_reducible show JE _ _ _ _ _ _ (.cl _ _) _);refine U4 (by decide +kernel) rfl rfl ?_)
  | ((with_reducible show JE _ _ _ _ _ _ (.c (.str _)) _);refine J6)
  | ((with_reducible show JE _ _ _ _ _ _ (.ix _ _) _);refine OJ (λX g=>OT) ?_ ?_)
  | ((with_reducible show JE _ _ _ _ _ _ (.bin .add _ _) _);refine mF (λX g=>KQ) ?_ ?_)
  | ((with_reducible show JS _ _ _ _ _ _ (.ret _) _);refine Kw ?_)
  | ((with_reducible show JS _ _ _ _ _ _ (.iff _ _ _) _);refine Kz ?_ ?_ ?_)
  | ((with_reducible show JE _ _ _ _ _ _ (.bi .len _) _);refine tB (x:="len") (id:="len") (λX g=>K4) ?_ (hb:=Qz) (hv:=by decide +kernel))
  | ((with_reducible show JT _ _ _ _ _ _ (.cmp .ne _ _) _);refine ko (λX g=>OR g) ?_ ?_ (jA _))
  | ((with_reducible show JE _ _ _ _ _ _ (.tup _) _);refine J8 ?_)
  | ((with_reducible show sd _ _ _ _ _ _ (_ :: _) _);refine U3 (by decide +kernel) ?_)
  | ((with_reducible show JT _ _ _ _ _ _ (.cmp .eq _ _) _);refine ko (λX g=>E2 g) ?_ ?_ (jA _))
  | ((with_reducible show JI _ _ _ _ _ _ (.seq _) _ _);refine Kq ?_)
  | ((with_reducible show JG _ _ _ _ _ _ (.one _) _);exact U1 (by decide +kernel))
  | ((with_reducible show JS _ _ _ _ _ _ (.exp _) _);refine Kv ?_)
  | ((with_reducible show JT _ _ _ _ _ _ (.orr _ _) _);refine Td ?_ ?_)
  | ((with_reducible show JW _ _ _ _ _ _ (.orr _ _) (.BoolOp _ (_ :: _ :: _) _));refine Ak ?_ ?_)
  | ((with_reducible show JE _ _ _ _ _ _ (.lst _) _);refine J9 ?_)
  | ((with_reducible show JE _ _ _ _ _ _ (.bin .mul _ _) _);refine mF (λX g=>K2) ?_ ?_)
  | ((with_reducible show JE _ _ _ _ _ _ (.comp _ _ _ _) _);refine OW (by decide +kernel) (by decide +kernel) ?_ ?_ ?_ ?_)
  | ((with_reducible show JE _ _ _ _ _ _ (.c (.bl _)) _);refine OG)
  | ((with_reducible show JW _ _ _ _ _ _ _ (.BoolOp .Or [_] _));refine GG ?_)
  | ((with_reducible show JE _ _ _ _ _ _ (.me .append _ (.cons _ _)) _);refine yz YL PySem.F.slot_list_append PySem.F.type_list_append (λX g=>AI) rfl ?_ ?_)
  | ((with_reducible show JO _ _ _ _ _ _ (.yes _) _);refine Km ?_)
  | ((with_reducible show JG _ _ _ _ _ _ (.many _) _);refine GL ?_)
  | ((with_reducible show sd _ _ _ _ _ _ [] _);refine GK)
  | ((with_reducible show JC _ _ _ _ _ _ .no _);refine OO)
  | ((with_reducible show JI _ _ _ _ _ _ (.fH (.cons _ .nil)) _ _);refine GJ ?_ (hb:=IK))
  | ((with_reducible show JS _ _ _ _ _ _ (.for _ _ _) _);refine KC ?_ ?_ ?_)
  | ((with_reducible show JT _ _ _ _ _ _ (.cmp .gt _ _) _);refine ko (λX g=>E3) ?_ ?_ (jA _))
  | ((with_reducible show JC _ _ _ _ _ _ (.yes _) _);refine KD ?_)
  | ((with_reducible show JE _ _ _ _ _ _ (.sl _ _ _) _);refine OM (λX g=>K1) ?_ ?_ ?_)
  | ((with_reducible show JE _ _ _ _ _ _ (.bin .sub _ _) _);refine mF (λX g=>KR) ?_ ?_)
  | ((with_reducible show JE _ _ _ _ _ _ (.neg _) _);refine Ka ?_)
  | ((with_reducible show JE _ _ _ _ _ _ (.bin .mod _ _) _);refine mF (λX g=>KS) ?_ ?_)
  | ((with_reducible show JE _ _ _ _ _ _ (.cmp .eq _ _) _);refine Aj (λX g=>E2 g) ?_ ?_ (jA _))
  | ((with_reducible show JE _ _ _ _ _ _ (.bi .sum _) _);refine tB (x:="sum") (id:="sum") (λX g=>K3 g) ?_ (hb:=QC) (hv:=by decide +kernel))
  | ((with_reducible show JE _ _ _ _ _ _ (.me .extend _ (.cons _ _)) _);refine yz YL PySem.F.slot_list_extend PySem.F.type_list_extend (λX g=>AJ) rfl ?_ ?_)
  | ((with_reducible show JE _ _ _ _ _ _ (.gZ _) _);refine K7 ?_ (h1:=yd))
  | ((with_reducible show JT _ _ _ _ _ _ (.an _ _) _);refine Tc ?_ ?_)
  | ((with_reducible show JW _ _ _ _ _ _ (.an _ _) (.BoolOp _ (_ :: _ :: _) _));refine EK ?_ ?_)
  | ((with_reducible show JE _ _ _ _ _ _ (.bin .fdiv _ _) _);refine mF (λX g=>GX) ?_ ?_)
  | ((with_reducible show JS _ _ _ _ _ _ (.set _ (.comp _ _ _ _)) _);refine OX (by decide +kernel) (by decide +kernel) (by decide +kernel) ?_ ?_ ?_ ?_)
  | ((with_reducible show JW _ _ _ _ _ _ _ (.BoolOp .And [_] _));refine Kf ?_)
  | ((with_reducible show JS _ _ _ _ _ _ (.fy _) _);refine K8)
  | ((with_reducible show JO _ _ _ _ _ _ .no _);refine OL)
  | ((with_reducible show JT _ _ _ _ _ _ (.cmp .lt _ _) _);refine ko (λX g=>OS) ?_ ?_ (jA _))
  | ((with_reducible show JE _ _ _ _ _ _ (.c .aU) _);refine J5)
  | ((with_reducible show JT _ _ _ _ _ _ (.nt _) _);refine OI ?_)
  | ((with_reducible show JE _ _ _ _ _ _ (.me .join _ (.cons _ _)) _);refine yz PySem.F.plainAttrs_str PySem.F.slot_str_join PySem.F.type_str_join (λX g=>G2) rfl ?_ ?_)
  | ((with_reducible show JE _ _ _ _ _ _ (.me .pop _ .nil) _);refine Kn YL PySem.F.slot_list_pop PySem.F.type_list_pop (λX g=>K6) rfl ?_)
  | ((with_reducible show JE _ _ _ _ _ _ (.bi .jP _) _);refine tB (x:="sorted") (id:="sorted") (λX g=>CV) ?_ (hb:=vP) (hv:=by decide +kernel))
  | ((with_reducible show JT _ _ _ _ _ _ (.cmp .j4 _ _) _);refine ko (λX g=>GV) ?_ ?_ (jA _))
  | ((with_reducible show JE _ _ _ _ _ _ (.je _ _) _);refine G3 (x:="TURNED") (.head _) ?_)
  | ((with_reducible show JE _ _ _ _ _ _ (.ji (.rev _)) _);refine G4 ?_ (h1:=NB) (hb:=qs))
  | ((with_reducible show JS _ _ _ _ _ _ (.nW _ _) _);refine KA ?_ ?_)
  | ((with_reducible show JE _ _ _ _ _ _ (.bi .min _) _);refine tB (x:="min") (id:="min") (λX g=>K5 g) ?_ (hb:=QA) (hv:=by decide +kernel))
  | ((with_reducible show JE _ _ _ _ _ _ (.lV _) _);refine Lh ?_ (h1:=yd) (hb:=qs))
  | ((with_reducible show JE _ _ _ _ _ _ (.cmp .gt _ _) _);refine Aj (λX g=>E3) ?_ ?_ (jA _))
  | ((with_reducible show JE _ _ _ _ _ _ (.lU _ _ _) _);refine Kd ?_ ?_ ?_)
  | ((with_reducible show JT _ _ _ _ _ _ (.cmp .gp _ _) _);refine ko (λX g=>CM g) ?_ ?_ (by with_unfolding_all rfl))
  | ((with_reducible show JE _ _ _ _ _ _ (.bi .kY _) _);refine C6 ?_ (h1:=vP) (hb:=QB))
  | ((with_reducible show JE _ _ _ _ _ _ (.an _ _) (.BoolOp _ (_ :: _ :: _) _));refine OH ?_ ?_)
  | ((with_reducible show JS _ _ _ _ _ _ (.set _ _) _);refine S9 ?_ ?_;decide +kernel)
  | ((with_reducible show JT _ _ _ _ _ _ _ _);refine Kh ?_))
end
def kc{α:Type _}{l:List α}(h:l.length=1):∃a,l=[a]:=by
 rcases l with _|⟨a,_|⟨b,l⟩⟩<;>simp at h ⊢
def lP{α:Type _}{l:List α}(h:l.length=2):∃a b,l=[a,b]:=by
 rcases l with _|⟨a,l⟩
 .simp at h
 .obtain⟨b,rfl⟩:=kc (l:=l) (by simpa using h);exact⟨a,b,rfl⟩
def rF{α:Type _}{l:List α}(h:l.length=3):∃a b c,l=[a,b,c]:=by
 rcases l with _|⟨a,l⟩
 .simp at h
 .obtain⟨b,c,rfl⟩:=lP (l:=l) (by simpa using h);exact⟨a,b,c,rfl⟩
structure Fg(K:PySem.W.Frag)(x:Str)(i:Nat)(p:Addr)(d:FuncData):Prop where
 a:PySem.W.nsIn K mainGlobals x=some (some (.ref p))
 f:um K x x (top i) p d
def Fg.t{K:PySem.W.Frag}{h:Heap}{mg:Str->Option Value}{x:Str}{i:Nat}{p:Addr}{d:FuncData}{ps:List Str}(F:Fg K x i p d)(X:K.In h)(G:h.Ns mainGlobals mg)(b:Binds K d ps []):mg x=some (.ref p)/\PySem.W.keepIn K (.ref p)=true/\Binds K d ps []:=⟨Zj X G F.a,F.f.kp,b⟩
def all_mk {l:PySem.W.OpenLaw}{w:World}{K:PySem.W.Frag}{h:Heap}{mg:Str->Option Value}{fa p0 p1 p2 p3 p4 p5 p6 p7 p8 p9 Rx Ry Rz RA RB RC RD RE RG RH RI RJ NR:Addr}{d0 d1 d2 d3 d4 d5 d6 d7 d8 d9 RK RL RM RN RP RQ RS RT RU RW RX RY NS:FuncData}(X:K.In h) (G:h.Ns mainGlobals mg) (VG:mg "law" = some (.ref fa))
  (F0:Fg K "size" 1 p0 d0)
  (F1:Fg K "before" 2 p1 d1)
  (F2:Fg K "after" 3 p2 d2)
  (F3:Fg K "cost" 4 p3 d3)
  (F4:Fg K "form" 5 p4 d4)
  (F5:Fg K "stretch" 6 p5 d5)
  (F6:Fg K "fits" 13 p6 d6)
  (F7:Fg K "done" 14 p7 d7)
  (F8:Fg K "undone" 15 p8 d8)
  (F9:Fg K "nothing" 16 p9 d9)
  (NT:Fg K "taken" 17 Rx RK)
  (NU:Fg K "parted" 18 Ry RL)
  (NV:Fg K "cut" 20 Rz RM)
  (NW:Fg K "place_after" 22 RA RN)
  (NY:Fg K "place_before" 23 RB RP)
  (NZ:Fg K "sign_after" 24 RC RQ)
  (N1:Fg K "touched" 25 RD RS)
  (N2:Fg K "of_touched" 26 RE RT)
  (N3:Fg K "_law_cell" 28 RG RU)
  (N4:Fg K "_law_drawn" 29 RH RW)
  (N5:Fg K "_law_text" 30 RI RX)
  (N6:Fg K "_law_change" 31 RJ RY)
  (B9:Fg K "law" 32 NR NS)
  (z0:PySem.W.nsIn K mainGlobals "len" = some none)
  (z1:PySem.W.nsIn K mainGlobals "list" = some none)
  (z2:PySem.W.nsIn K mainGlobals "min" = some none)
  (z3:PySem.W.nsIn K mainGlobals "range" = some none)
  (z4:PySem.W.nsIn K mainGlobals "reversed" = some none)
  (z5:PySem.W.nsIn K mainGlobals "set" = some none)
  (z6:PySem.W.nsIn K mainGlobals "sorted" = some none)
  (z7:PySem.W.nsIn K mainGlobals "sum" = some none)
  (z8:PySem.W.nsIn K mainGlobals "tuple" = some none)
  {t0:Tok} (q0:PySem.W.nsIn K mainGlobals "__name__" = some (some (.str "law_pastways_k31_whole_places" t0)))
  {Gb:Addr} (RZ:PySem.W.nsIn K mainGlobals "TURNED" = some (some (.ref Gb))) (R0:PyProof.Rows.KTD.tabLook PyProof.Rows.KTD.flatLooks (λb=>K.lookup b) Gb [(aV [107,101,101,112],PyData.str (aV [107,101,101,112])),(aV [112,117,116],PyData.str (aV [100,114,111,112])),(aV [100,114,111,112],PyData.str (aV [112,117,116]))]=true) (R1:PyProof.Rows.KTD.hashesOf (λb=>K.lookup b) Gb=([(aV [107,101,101,112],PyData.str (aV [107,101,101,112])),(aV [112,117,116],PyData.str (aV [100,114,111,112])),(aV [100,114,111,112],PyData.str (aV [112,117,116]))]:List (Str×PyData)).map λp=>(PySem.strKind l.prog w).hash p.1)
  : ∃fd:FuncData,(∀(s:Shared) (v:Value),BindsTo s fd ⟨[v],[]⟩ [("_law_script",v)])/\∀base:Heap,K.In base->base.Ns mainGlobals mg->iF l.prog w K mg base mE 60 fa fd ["_law_script"] (nX K prog 100000 60 22):=by
 have e:=VG.symm.trans (Zj X G B9.a);have e2:NR=fa:=by injection e with e;injection e with e;exact e.symm
 subst e2
 let aa:Nat->Addr:=λk=>[p0,p1,p2,p3,p4,p5,p6,p7,p8,p9,Rx,Ry,Rz,RA,RB,RC,RD,RE,RG,RH,RI,RJ,NR].getD k p0
 let dd:Nat->FuncData:=λk=>[d0,d1,d2,d3,d4,d5,d6,d7,d8,d9,RK,RL,RM,RN,RP,RQ,RS,RT,RU,RW,RX,RY,NS].getD k d0
 have T:Top l.prog w K mg (tb aa dd):=by
  refine⟨λf i hi=>(show ∀i∈(tb aa dd).fi,mg i.name=some (.ref i.addr)/\PySem.W.keepIn K (.ref i.addr)=true/\Binds K i.fd i.ps []from ?_) i (W2 hi),?_,?_,?_⟩
  .refine List.forall_mem_cons.mpr ⟨F0.t X G (F0.f.binds λ_ _ _ _ _ _ us hl=>by obtain⟨_,rfl⟩:=kc hl;rfl),?_⟩;refine List.forall_mem_cons.mpr ⟨F1.t X G (F1.f.binds λ_ _ _ _ _ _ us hl=>by obtain⟨_,rfl⟩:=kc hl;rfl),?_⟩;refine List.forall_mem_cons.mpr ⟨F2.t X G (F2.f.binds λ_ _ _ _ _ _ us hl=>by obtain⟨_,rfl⟩:=kc hl;rfl),?_⟩;refine List.forall_mem_cons.mpr ⟨F3.t X G (F3.f.binds λ_ _ _ _ _ _ us hl=>by obtain⟨_,rfl⟩:=kc hl;rfl),?_⟩;refine List.forall_mem_cons.mpr ⟨F4.t X G (F4.f.binds λ_ _ _ _ _ _ us hl=>by obtain⟨_,rfl⟩:=kc hl;rfl),?_⟩;refine List.forall_mem_cons.mpr ⟨F5.t X G (F5.f.binds λ_ _ _ _ _ _ us hl=>by obtain⟨_,_,_,rfl⟩:=rF hl;rfl),?_⟩;refine List.forall_mem_cons.mpr ⟨F6.t X G (F6.f.binds λ_ _ _ _ _ _ us hl=>by obtain⟨_,_,rfl⟩:=lP hl;rfl),?_⟩;refine List.forall_mem_cons.mpr ⟨F7.t X G (F7.f.binds λ_ _ _ _ _ _ us hl=>by obtain⟨_,_,rfl⟩:=lP hl;rfl),?_⟩;refine List.forall_mem_cons.mpr ⟨F8.t X G (F8.f.binds λ_ _ _ _ _ _ us hl=>by obtain⟨_,rfl⟩:=kc hl;rfl),?_⟩;refine List.forall_mem_cons.mpr ⟨F9.t X G (F9.f.binds λ_ _ _ _ _ _ us hl=>by obtain⟨_,rfl⟩:=kc hl;rfl),?_⟩;refine List.forall_mem_cons.mpr ⟨NT.t X G (NT.f.binds λ_ _ _ _ _ _ us hl=>by obtain⟨_,_,rfl⟩:=lP hl;rfl),?_⟩;refine List.forall_mem_cons.mpr ⟨NU.t X G (NU.f.binds λ_ _ _ _ _ _ us hl=>by obtain⟨_,_,rfl⟩:=lP hl;rfl),?_⟩;refine List.forall_mem_cons.mpr ⟨NV.t X G (NV.f.binds λ_ _ _ _ _ _ us hl=>by obtain⟨_,_,rfl⟩:=lP hl;rfl),?_⟩;refine List.forall_mem_cons.mpr ⟨NW.t X G (NW.f.binds λ_ _ _ _ _ _ us hl=>by obtain⟨_,_,_,rfl⟩:=rF hl;rfl),?_⟩;refine List.forall_mem_cons.mpr ⟨NY.t X G (NY.f.binds λ_ _ _ _ _ _ us hl=>by obtain⟨_,_,_,rfl⟩:=rF hl;rfl),?_⟩;refine List.forall_mem_cons.mpr ⟨NZ.t X G (NZ.f.binds λ_ _ _ _ _ _ us hl=>by obtain⟨_,_,rfl⟩:=lP hl;rfl),?_⟩;refine List.forall_mem_cons.mpr ⟨N1.t X G (N1.f.binds λ_ _ _ _ _ _ us hl=>by obtain⟨_,rfl⟩:=kc hl;rfl),?_⟩;refine List.forall_mem_cons.mpr ⟨N2.t X G (N2.f.binds λ_ _ _ _ _ _ us hl=>by obtain⟨_,_,rfl⟩:=lP hl;rfl),?_⟩;refine List.forall_mem_cons.mpr ⟨N3.t X G (N3.f.binds λ_ _ _ _ _ _ us hl=>by obtain⟨_,_,rfl⟩:=lP hl;rfl),?_⟩;refine List.forall_mem_cons.mpr ⟨N4.t X G (N4.f.binds λ_ _ _ _ _ _ us hl=>by obtain⟨_,_,_,rfl⟩:=rF hl;rfl),?_⟩;refine List.forall_mem_cons.mpr ⟨N5.t X G (N5.f.binds λ_ _ _ _ _ _ us hl=>by obtain⟨_,_,_,rfl⟩:=rF hl;rfl),?_⟩;refine List.forall_mem_cons.mpr ⟨N6.t X G (N6.f.binds λ_ _ _ _ _ _ us hl=>by obtain⟨_,_,_,rfl⟩:=rF hl;rfl),?_⟩;refine List.forall_mem_cons.mpr ⟨B9.t X G (B9.f.binds λ_ _ _ _ _ _ us hl=>by obtain⟨_,rfl⟩:=kc hl;rfl),?_⟩;exact λ_ h=>nomatch h
  .exact(show ∀x∈nj,mg x=none from List.forall_mem_cons.mpr ⟨Xu X G z0,List.forall_mem_cons.mpr ⟨Xu X G z1,List.forall_mem_cons.mpr ⟨Xu X G z2,List.forall_mem_cons.mpr ⟨Xu X G z3,List.forall_mem_cons.mpr ⟨Xu X G z4,List.forall_mem_cons.mpr ⟨Xu X G z5,List.forall_mem_cons.mpr ⟨Xu X G z6,List.forall_mem_cons.mpr ⟨Xu X G z7,List.forall_mem_cons.mpr ⟨Xu X G z8,λ_ h=>nomatch h⟩⟩⟩⟩⟩⟩⟩⟩⟩)
  .exact λx d hx=>(show ∀y∈(tb aa dd).cs,∃v u,mg y.1=some u/\RelV v u/\wO K y.2 v from List.forall_mem_cons.mpr ⟨⟨.str "law_pastways_k31_whole_places",_,Zj X G q0,⟨_,rfl⟩,λ_ _=>⟨by decide +kernel,by decide⟩⟩,λ_ h=>nomatch h⟩) (x,d) hx
  .exact λx d hx=>(show ∀y∈(tb aa dd).dk,∃a,mg y.1=some (.ref a)/\∀h:Heap,K.In h->StrTab l.prog w h a (tabOf y.2)from List.forall_mem_cons.mpr ⟨⟨Gb,Zj X G RZ,λh hK=>PySem.W.kt_tab_in l.prog w hK R0 (by decide +kernel) R1⟩,λ_ h=>nomatch h⟩) (x,d) hx
 refine⟨NS,λs v=>?_,λbase _ _=>?_⟩
 .obtain⟨oc,od,kV,doc,pm,an,cdv,ct,osl,e,_⟩:=B9.f.ex;rw[e];exact .of_eq rfl
 refine AQ (P:=l.prog) (w:=w) (base:=base) T (λn A0 f i hi=>?_) 60 22 (Ga aa dd) rfl
 match f,hi with
 |0,hi=>obtain rfl:i0 aa dd=i:=Er hi;exact cT (i:=i0 aa dd) T A0 F0.f s0 rfl rfl (@allB.get _ _ _ 0 (f0.body,top 1,n0) dR rfl)
 |1,hi=>obtain rfl:i1 aa dd=i:=Er hi;exact cT (i:=i1 aa dd) T A0 F1.f s1 rfl rfl (@allB.get _ _ _ 1 (f1.body,top 2,n1) dR rfl)
 |2,hi=>obtain rfl:i2 aa dd=i:=Er hi;exact cT (i:=i2 aa dd) T A0 F2.f s2 rfl rfl (@allB.get _ _ _ 2 (f2.body,top 3,n2) dR rfl)
 |3,hi=>obtain rfl:i3 aa dd=i:=Er hi;exact cT (i:=i3 aa dd) T A0 F3.f s3 rfl rfl (@allB.get _ _ _ 3 (f3.body,top 4,n3) dR rfl)
 |4,hi=>obtain rfl:i4 aa dd=i:=Er hi;exact cT (i:=i4 aa dd) T A0 F4.f s4 rfl rfl (@allB.get _ _ _ 4 (f4.body,top 5,n4) dR rfl)
 |5,hi=>obtain rfl:i5 aa dd=i:=Er hi;exact cT (i:=i5 aa dd) T A0 F5.f s5 rfl rfl (@allB.get _ _ _ 5 (f5.body,top 6,n5) dR rfl)
 |6,hi=>obtain rfl:i6 aa dd=i:=Er hi;exact cT (i:=i6 aa dd) T A0 F6.f s6 rfl rfl (@allB.get _ _ _ 6 (f6.body,top 13,n6) dR rfl)
 |7,hi=>obtain rfl:i7 aa dd=i:=Er hi;exact cT (i:=i7 aa dd) T A0 F7.f s7 rfl rfl (@allB.get _ _ _ 7 (f7.body,top 14,n7) dR rfl)
 |8,hi=>obtain rfl:i8 aa dd=i:=Er hi;exact cT (i:=i8 aa dd) T A0 F8.f s8 rfl rfl (@allB.get _ _ _ 8 (f8.body,top 15,n8) dR rfl)
 |9,hi=>obtain rfl:i9 aa dd=i:=Er hi;exact cT (i:=i9 aa dd) T A0 F9.f s9 rfl rfl (@allB.get _ _ _ 9 (f9.body,top 16,n9) dR rfl)
 |10,hi=>obtain rfl:Nm aa dd=i:=Er hi;exact cT (i:=Nm aa dd) T A0 NT.f Q4 rfl rfl (@allB.get _ _ _ 10 (AA.body,top 17,NC) dR rfl)
 |11,hi=>obtain rfl:Nn aa dd=i:=Er hi;exact cT (i:=Nn aa dd) T A0 NU.f ER rfl rfl (@allB.get _ _ _ 11 (Na.body,top 18,ND) dR rfl)
 |12,hi=>obtain rfl:i12 aa dd=i:=Er hi;exact cT (i:=i12 aa dd) T A0 NV.f s12 rfl rfl (@allB.get _ _ _ 12 (Nb.body,top 20,NF) dR rfl)
 |13,hi=>obtain rfl:Np aa dd=i:=Er hi;exact cT (i:=Np aa dd) T A0 NW.f Vw rfl rfl (@allB.get _ _ _ 13 (Nc.body,top 22,NG) dR rfl)
 |14,hi=>obtain rfl:Nq aa dd=i:=Er hi;exact cT (i:=Nq aa dd) T A0 NY.f Vx rfl rfl (@allB.get _ _ _ 14 (Nd.body,top 23,NH) dR rfl)
 |15,hi=>obtain rfl:Nr aa dd=i:=Er hi;exact cT (i:=Nr aa dd) T A0 NZ.f Vy rfl rfl (@allB.get _ _ _ 15 (Nf.body,top 24,NI) dR rfl)
 |16,hi=>obtain rfl:Nt aa dd=i:=Er hi;exact cT (i:=Nt aa dd) T A0 N1.f Vz rfl rfl (@allB.get _ _ _ 16 (Ng.body,top 25,NJ) dR rfl)
 |17,hi=>obtain rfl:Nu aa dd=i:=Er hi;exact cT (i:=Nu aa dd) T A0 N2.f VA rfl rfl (@allB.get _ _ _ 17 (Nh.body,top 26,NK) dR rfl)
 |18,hi=>obtain rfl:Nv aa dd=i:=Er hi;exact cT (i:=Nv aa dd) T A0 N3.f VB rfl rfl (@allB.get _ _ _ 18 (Ni.body,top 28,NL) dR rfl)
 |19,hi=>obtain rfl:Nx aa dd=i:=Er hi;exact cT (i:=Nx aa dd) T A0 N4.f VC rfl rfl (@allB.get _ _ _ 19 (Nj.body,top 29,NN) dR rfl)
 |20,hi=>obtain rfl:Ny aa dd=i:=Er hi;exact cT (i:=Ny aa dd) T A0 N5.f VD rfl rfl (@allB.get _ _ _ 20 (Nk.body,top 30,NO) dR rfl)
 |21,hi=>obtain rfl:Nz aa dd=i:=Er hi;exact cT (i:=Nz aa dd) T A0 N6.f VE rfl rfl (@allB.get _ _ _ 21 (Nl.body,top 31,NP) dR rfl)
 |22,hi=>obtain rfl:Ga aa dd=i:=Er hi;exact cT (i:=Ga aa dd) T A0 B9.f VF rfl rfl (@allB.get _ _ _ 22 (B8.body,top 32,NQ) dR rfl)
 |j+23,hi=>exact nomatch (show(none:Option FI)=some i from hi)
end Lw
namespace Lg
open Pv
open Lw (prog B8 zJ vJ vK vL vM vN vO zE zF zG zH zI vI)
open Ev (deep big rep cut bu)
def QD(ns:List Int)(k:Int)(x:List Nat)(b:Nat)(h:x.length<=b):(chg ns k x).length<=2*b+2/\tot (chg ns k x)<=3*b+3:=by
 have h1:=mY ns k x (x.length+1);have h2:=sP ns k x (x.length+1);simp only[chg];omega
def ne_int(a:Int):Pv.cop .ne (.int a) (.int a)=some false:=by rw[Ft];simp
def QE(c:List Pt):Pv.cop .ne (aJ c) (aJ c)=some false:=by rw[jH,Bt];simp
def ne_is(l:List Int):Pv.cop .ne (.lst (l.map V.int)) (.lst (l.map V.int))=some false:=by
 rw[jH,nG,nH (λa b=>Bo)];simp
def QF(l:List (List Nat)):Pv.cop .ne (.lst (l.map V.str)) (.lst (l.map V.str))=some false:=by
 rw[jH,nG,nH (λa b=>Bp)];simp
def ne_nil:Pv.cop .ne (.lst []) (.lst [])=some false:=by rw[jH,nG,xN];rfl
def none_of{α:Type}{f:V->Option (Option V)}(e:α->V)(l:List α)(h:∀a∈l,f (e a)=some none):bV f (l.map e)=some []:=by
 induction l with
 |nil=>rfl
 |cons a l ih=>simp only[WO,bV,h a (by simp),ih λu hu=>h u (by simp[hu]),Option.bind];rfl
def rG(c:List Pt):(gm c).length=az c+1:=by rw[gm,vG,jM,fQ]
def vQ(c:List Pt):gm (cR c)=gm (sw c):=by unfold gm cR;rw[vC,dJ]
noncomputable def lo(c:List Pt)(k:Nat):Nat:=((gm c).getD k (0,0)).1
noncomputable def hi(c:List Pt)(k:Nat):Nat:=((gm c).getD k (0,0)).2
def iX{c:List Pt}{k:Nat}(h:k<=az c):(gm c)[k]?=some (lo c k,hi c k):=by
 have:k<(gm c).length:=by rw[rG];omega
 simp[lo,hi,YB,MZ this]
noncomputable def jc(c:List Pt):List Int:=(List.range (az c+1)).map λk=>(lo c k:Int)
noncomputable def his(c:List Pt):List Int:=(List.range (az c+1)).map λk=>(hi c k:Int)
noncomputable def kp(c:List Pt)(k:Nat):Bool:=decide ((asks c).getD k []=[])
noncomputable def oK(c:List Pt)(k:Nat):V:=if kp c k then .int (hi c k:Nat)else .aU
noncomputable def qt(c:List Pt):List Int:=((List.range (az c)).filter (kp c)).map λk=>(hi c k:Int)
def nR(c:List Pt){k:Nat}(h:k<=az c):lo c k<=hi c k:=(zD _ _ _ _ (W2 (iX h))).2
def zK(c:List Pt){j k:Nat}(h:j<k)(hk:k<=az c):hi c j<=lo c k:=by
 have p:=x9 (eT c) (asks c) 0;have l:(gm c).length=az c+1:=rG c;have e1:=iX (c:=c) (k:=j) (by omega);have e2:=iX hk;obtain⟨a1,a2⟩:=List.getElem?_eq_some_iff.mp e1;obtain⟨b1,b2⟩:=List.getElem?_eq_some_iff.mp e2;have:=(List.pairwise_iff_getElem.mp p) j k a1 b1 h;have z:(gm c)[j].2<=(gm c)[k].1:=this;rw[a2,b2]at z;exact z
def nq{c:List Pt}{k:Nat}(h:k<az c):(asks c)[k]?=some ((asks c).getD k []):=by
 have:k<(asks c).length:=by rw[fQ];exact h
 simp[YB,MZ this]
def rH(c:List Pt){k:Nat}(h:k<az c):lo c (k+1)=hi c k+(if kp c k then 1 else 0):=by
 have:=rE _ _ _ _ _ _ _ (iX (c:=c) (k:=k) (by omega)) (iX (c:=c) (k:=k+1) (by omega)) (nq h);rw[show lo c (k+1)=_ from this];simp[kp]
def ye{f:Nat->Nat}{n:Nat}(h:∀j k,j<k->k<n->f j<=f k):((List.range n).map λk=>(f k:Int)).Pairwise (·<=·):=by
 rw[Zp];refine ZG (R:=(· < ·)) (λ{a b} ha hb hab=>?_) YW;have:=h a b hab (List.mem_range.mp hb);omega
def N7(c:List Pt):(jc c).Pairwise (·<=·):=ye λj k h hk=>WV (nR c (k:=j) (by omega)) (zK c h (by omega))
def N8(c:List Pt):(his c).Pairwise (·<=·):=ye λj k h hk=>WV (zK c h (by omega)) (nR c (k:=k) (by omega))
def N9(c:List Pt):(qt c).Pairwise (· < ·):=by
 unfold qt;rw[Zp];refine ZG (R:=(· < ·)) (λ{a b} ha hb hab=>?_) (List.pairwise_lt_range.filter _);rw[List.mem_filter,List.mem_range]at ha hb;have h1:=rH c ha.1;rw[ha.2,xV rfl]at h1;have h2:lo c (a+1)<=hi c b:=by
  rcases Zw (a+1) b with z|z
  .exact WV (nR c (by omega)) (WV (zK c z (by omega)) (nR c (by omega)))
  .have:b=a+1:=by omega
   subst this;exact nR c (by omega)
 show(hi c a:Int)<hi c b;omega
def kpt_len(c:List Pt):(qt c).length=nk c:=by
 unfold qt nk;rw[W6,<-List.countP_eq_length_filter];have e:asks c=(List.range (az c)).map λk=>(asks c).getD k []:=by
  refine Zq λi=>?_;rw[WX];by_cases h:i<az c
  .rw[nq h,X5 h];rfl
  .rw[W8 (by rw[fQ];omega),W8 (by simp;omega)];rfl
 have e2:=WT (List.countP (λa=>decide (a=[]))) e;rw[List.countP_map]at e2;exact e2.symm
def yf{l:List Int}(h:l.Pairwise (·<=·))(h64:l.length<64):cK .jP [.lst (l.map V.int)]=some (.lst (l.map V.int)):=by
 show((intsOf (l.map V.int)).bind λss=>if ss.length<64 then ee ((Ev.sortI ss).map .int)else none)=_;rw[show intsOf (l.map V.int)=some l from (jq (λi=>i) l).trans (by simp)];show(if l.length<64 then _ else _)=_;rw[xV h64,o8 h];exact dH (bS (by simp;omega))
def IL{l:List Int}(h:l.Pairwise (· < ·))(h64:l.length<64):cK .kY [.lst (l.map V.int)]=some (.lst (l.map V.int)):=by
 have hd:Ev.dd l=l:=by
  have:=FZ l [] (by rw[XU];exact List.Pairwise.imp (λq=>Int.ne_of_lt q) h);simpa[Ev.dd]using this
 show((intsOf (l.map V.int)).bind λss=>if ss.length<4095/\(Ev.dd ss).length<64 then ee ((Ev.sortI (Ev.dd ss)).map .int)else none)=_;rw[show intsOf (l.map V.int)=some l from (jq (λi=>i) l).trans (by simp)];show(if l.length<4095/\(Ev.dd l).length<64 then _ else _)=_;rw[hd,xV ⟨by omega,h64⟩,o8 (h.imp λq=>Int.le_of_lt q)];exact dH (bS (by simp;omega))
def lQ{f:Nat->Nat}{n k:Nat}(h:k<n):dg (.lst (((List.range n).map λk=>(f k:Int)).map V.int)) (.int (k:Int))=some (.int (f k:Nat)):=by
 rw[nI,gI,WX,WX,X5 h];rfl
def rg(j:Int){n:Nat}(h:n<=1000)(e:j=n):eG [.int j]=some ((List.range n).map λ(i:Nat)=>V.int (i:Int)):=by
 rw[MG (n:=n) (by omega) e,sN];simp
def Oa{c A B:List Pt}{k:Nat}(C:Cut c k A B)(hk:k<az c)(h:kp c k=true):∃r,aB B=.k :: r:=by
 have e:asks c=aA (aB A)++aA (aB B):=by rw[<-iB,C.at_,<-bX,dJ]
 have h1:=nq hk;rw[show(asks c).getD k []=[]from Xh h,e,Xg (by rw[<-gk,C.bA];exact qh _),<-gk,C.bA,Nat.sub_self]at h1;have h2:=C.hd;cases hB:aB B with
 |nil=>rw[hB]at h1;simp[aA]at h1
 |cons a r=>
  cases a with
  |k=>exact⟨r,rfl⟩
  |d x=>rw[hB]at h1;simp[aA]at h1
  |p x=>rw[hB]at h2;simp[sQ]at h2
def IM{c A B:List Pt}{k:Nat}{t:List Nat}(C:Cut c k A B)(hk:k<t.length)(hf:bg c t=true){r:List At}(h:aB B=.k :: r):(aT c t)[bP A]?=t[k]?:=by
 obtain⟨f1,f2⟩:=C.fit hf;rw[<-C.done,Xg (by rw[oZ f1];exact qh _),oZ f1,Nat.sub_self];cases B with
 |nil=>simp[aB]at h
 |cons q R=>
  have hq:=C.pB q (by simp);cases q with
  |keep n=>
   simp only[Pt.n]at hq;simp only[aT];have:(t.drop k).take n≠[]:=by
    intro z;have:=WT List.length z;simp at this;omega
   rw[VL (by exact List.length_pos_iff.mpr this),ZF hq,aaj];rfl
  |drop s=>
   rw[cX]at h;cases s with
   |nil=>simp[Pt.n]at hq
   |cons x s=>simp[Pt.aB]at h
  |put s=>
   rw[cX]at h;cases s with
   |nil=>simp[Pt.n]at hq
   |cons x s=>simp[Pt.aB]at h
section
variable{w n:Nat}
variable(hw:5000<w)
theorem o9(hw:5000<w)(c:List Pt)(k:Nat)(h1:c.length<=400)(h2:tot c<=400)(hk:k<=az c):run prog w (n+4) 13 [.val (aJ c),.val (.int k),.val (.str M5)]=some (.int (lo c k:Nat),[])/\run prog w (n+4) 13 [.val (aJ c),.val (.int k),.val (.str Eu)]=some (.int (hi c k:Nat),[]):=by
 obtain⟨A,B,C,r⟩:=qp (F:=prog) (aD:=5) (aQ:=4) (aE:=0) (aY:=11) (bC:=10) (bE:=1) (cB:=2) (fY:=12) (i:=13) (w:=w) (n:=n) rfl rfl rfl rfl rfl rfl rfl rfl rfl hw c k (by omega) (by omega) hk;obtain⟨A',B',C',r'⟩:=jN (F:=prog) (aD:=5) (aQ:=4) (aE:=0) (aY:=11) (bC:=10) (bE:=1) (cB:=2) (fY:=12) (i:=13) (w:=w) (n:=n) rfl rfl rfl rfl rfl rfl rfl rfl rfl hw c k (by omega) (by omega) hk;have e:=kP C;have e':=kP C';rw[iX hk]at e e';have e1:=WT Prod.fst (Er e);have e2:=WT Prod.snd (Er e');exact⟨r.trans (WT (λz:Nat=>some (V.int (z:Int),([]:List (List V)))) e1.symm),r'.trans (WT (λz:Nat=>some (V.int (z:Int),([]:List (List V)))) e2.symm)⟩
theorem sS(hw:5000<w)(c:List Pt)(k:Nat)(h2:tot c<=400)(h1:c.length<=400)(hk:k<=bP c):run prog w (n+5) 14 [.val (aJ c),.val (.int k),.val (.str M5)]=some (.int (lo (sw c) k:Nat),[])/\run prog w (n+5) 14 [.val (aJ c),.val (.int k),.val (.str Eu)]=some (.int (hi (sw c) k:Nat),[]):=by
 obtain⟨u1,u2⟩:=IE c;have hb:az (cR c)=bP c:=by simp only[cR];rw[fR,m6]
 obtain⟨r1,r2⟩:=o9 (w:=w) (n:=n) hw (cR c) k (by omega) (by omega) (by omega);have el:lo (cR c) k=lo (sw c) k:=by unfold lo;rw[vQ]
 have eh:hi (cR c) k=hi (sw c) k:=by unfold hi;rw[vQ]
 rw[el]at r1;rw[eh]at r2;exact⟨jO (F:=prog) (aD:=5) (aQ:=4) (tW:=8) (zC:=13) rfl rfl rfl rfl c _ _ (by omega) (by omega) r1,jO (F:=prog) (aD:=5) (aQ:=4) (tW:=8) (zC:=13) rfl rfl rfl rfl c _ _ (by omega) (by omega) r2⟩
theorem yg(hw:5000<w)(c:List Pt)(k:Nat)(h1:c.length<=400)(h2:tot c<=400)(hk:k<az c):run prog w (n+4) 15 [.val (aJ c),.val (.int k)]=some (oK c k,[])/\(kp c k=true->∃A B r,Cut c k A B/\aB B=.k :: r/\bP A=hi c k):=by
 obtain⟨A,B,C,hr⟩:=Ew (F:=prog) (aD:=5) (aQ:=4) (aE:=0) (aY:=11) (bC:=10) (bE:=1) (cB:=2) (fY:=12) (i:=15) (w:=w) (n:=n) rfl rfl rfl rfl rfl rfl rfl rfl rfl hw c k (by omega) (by omega) hk;have e:=kP C;rw[iX (by omega)]at e;have e2:hi c k=bP A:=WT Prod.snd (Er e);refine⟨?_,λh=>?_⟩
 .rcases hr with ⟨r,a⟩|⟨r,x,a⟩
  .have:kp c k=true:=by rw[nq hk]at a;exact XE (Er a)
   rw[r,oK,this,xV rfl,e2]
  .have:kp c k=false:=by rw[nq hk]at a;exact W3 (by rw[Er a];simp)
   rw[r,oK,this];rfl
 .obtain⟨r,hB⟩:=Oa C hk h;exact⟨A,B,r,C,hB,e2.symm⟩
noncomputable def lG(x:List V)(a b:Option Sl):Fr:=x.map (λv=>some (.val v))++[a,b]++List.replicate 15 none
noncomputable def qu(c:List Pt):List V:=(List.range (az c)).map (oK c)
noncomputable def xs(ns:List Int)(t:List Nat)(c:List Pt):List V:=[fF ns,.str t,aJ c,.str (aT c t),.lst ((jc c).map V.int),.lst ((his c).map V.int),.lst (qu c),.lst ((qt c).map V.int)]
variable{ns:List Int}
def QG{c:List Pt}{k:Nat}(h:k<az c):dg (.lst (qu c)) (.int (k:Int))=some (oK c k):=by
 rw[nI,gI,qu,WX,X5 h];rfl
theorem Ob(hw:5000<w){t:List Nat}{c:List Pt}(h1:c.length<=400)(h2:tot c<=400)(ht:t.length=az c)(hf:bg c t=true){k:Nat}(hk:k<az c){a:Option Sl}(ha:vo a){Q:Fl->Fr->Prop}(q:∀a,vo a->Q .nx (lG (xs ns t c) a none)) :
  Wp (turnF (run prog w (n+8)) w (.one 8) zJ (.int (k:Int)) (lG (xs ns t c) a none)) Q:=by
 obtain⟨_,hs⟩:=yg (w:=w) (n:=n) hw c k h1 h2 hk;refine dI (af:=lG (xs ns t c) (some (.val (.int (k:Int)))) none) (gi rfl ha) ?_;have ip:=QG hk;cases hp:kp c k with
 |false=>
  have e:oK c k=.aU:=by rw[oK,hp];rfl
  rw[e]at ip;exact ai (aP (b:=false) (ay rfl (aR (bT (au rfl) (au rfl) ip) (aN rfl) rfl) rfl) (λh=>absurd h (by decide)) λ_=>aC (aC (q _ .val)))
 |true=>
  have e:oK c k=.int (hi c k:Nat):=by rw[oK,hp];rfl
  rw[e]at ip;obtain⟨A,B,r,C,hB,hA⟩:=hs hp;have m1:=IM C (by omega) hf hB;rw[hA]at m1;have ht1:t[k]?=some (t[k]'(by omega)):=MZ _;rw[ht1]at m1;have i1:dg (.str (aT c t)) (.int ((hi c k:Nat):Int))=some (.str [t[k]'(by omega)]):=by rw[kF,gI,m1];rfl
  have i2:dg (.str t) (.int (k:Int))=some (.str [t[k]'(by omega)]):=by rw[kF,gI,ht1];rfl
  have i3:dg (.lst ((his c).map V.int)) (.int (k:Int))=some (.int (hi c k:Nat)):=lQ (f:=hi c) (by omega);have i4:dg (.lst ((jc c).map V.int)) (.int ((k:Int)+1))=some (.int ((hi c k:Nat)+1)):=by
   have:=lQ (f:=lo c) (n:=az c+1) (k:=k+1) (by omega);rw[rH c hk,hp,xV rfl]at this;exact this
  obtain⟨⟨b1,b2⟩,⟨b3,b4⟩⟩:=M8 C hB;rw[hA]at b2 b4;have hl:hi c k+1<=bP c:=by
   have:=(List.getElem?_eq_some_iff.mp b4).1;rw[rG,m6]at this;omega
  have p1:=(sS (w:=w) (n:=n+3) hw c (hi c k) h2 h1 (by omega)).2;have p2:=(sS (w:=w) (n:=n+3) hw c (hi c k+1) h2 h1 hl).1;rw[iX (by rw[m6];omega)]at b2 b4;rw[show hi (sw c) (hi c k)=k from WT Prod.snd (Er b2)]at p1;rw[show lo (sw c) (hi c k+1)=k+1 from WT Prod.fst (Er b4)]at p2;have p1:=λfr=>eH (fr:=fr) p1;have p2:=λfr=>eH (fr:=fr) p2;have ad:Pv.bN .add (.int ((hi c k:Nat):Int)) (.int 1)=some (.int ((hi c k+1:Nat):Int)):=by rw[bR];rfl
  have nS:Pv.cop .ne (.str [t[k]'(by omega)]) (.str [t[k]'(by omega)])=some false:=by rw[jH,qV];simp
  have g1:Pv.cop .gt (.int (k:Int)) (.int (k:Int))=some false:=by rw[mX];simp
  have g2:Pv.cop .lt (.int ((k+1:Nat):Int)) (.int (k:Int))=some false:=by rw[Dw];congr 1;exact W3 (by omega)
  refine ai (aP (b:=true) (ay rfl (aR (bT (au rfl) (au rfl) ip) (aN rfl) uX) rfl) (λ_=>?_) λh=>absurd h (by decide));refine ai (aP (b:=false) (dO (ay rfl (aR (bT (au rfl) (bT (au rfl) (au rfl) ip) i1) (bT (au rfl) (au rfl) i2) nS) rfl) (dO (ay rfl (aR (bT (au rfl) (au rfl) ip) (bT (au rfl) (au rfl) i3) (ne_int _)) rfl)
   (ay rfl (aR (bT (au rfl) (bz (au rfl) (aN rfl) bR) i4) (bz (bT (au rfl) (au rfl) ip) (aN rfl) bR) (ne_int _)) rfl))) (λh=>absurd h (by decide)) λ_=>aC ?_)
  refine ai (aP (b:=false) (dO (ay rfl (aR (b9 (aX rfl (au rfl) (aX rfl (bT (au rfl) (au rfl) ip) (aX rfl (aN rfl) br))) (p1 _)) (au rfl) g1) rfl)
   (ay rfl (aR (b9 (aX rfl (au rfl) (aX rfl (bz (bT (au rfl) (au rfl) ip) (aN rfl) ad) (aX rfl (aN rfl) br))) (p2 _)) (au rfl) g2) rfl)) (λh=>absurd h (by decide)) λ_=>aC (aC (aC (q _ .val))))
theorem Uo(t:List Nat)(p k:Nat):gf (.str t) (some (p:Int)) (some ((p:Int)+(k:Nat)))=some (.str ((t.drop p).take k)):=by
 have:((p:Int)+(k:Nat))=((p+k:Nat):Int):=by omega
 rw[this,iI];exact WT (λz=>some (V.str z)) (vn t p k)
def QH(a:Bool):Pv.cop .ne (.bl a) (.bl a)=some false:=by cases a<;>rfl
def QI(r:List Rw):Pv.cop .eq (.lst (r.map rV)) (.lst [])=some (decide (r=[])):=by
 cases r with
 |nil=>rw[show Pv.cop .eq (.lst (([]:List Rw).map rV)) (.lst [])=dG deep (.lst []) (.lst [])from rfl,nG,xN];rfl
 |cons x r=>rfl
def Gd(a b:List Pt):Pv.cop .eq (aJ a) (aJ b)=some (decide (a=b)):=Bt a b
theorem IP(m:Nat):aM (bf m [] [])=aM [.keep m]:=by
 unfold bf;by_cases h:0<m
 .simp[h]
 .have:m=0:=by omega
  subst this;rw[gF];rfl
def Ex(c:List Pt):decide (cS c=[])=decide (aM c=aM [.keep (az c)]):=by
 refine decide_eq_decide.mpr ⟨λh=>?_,λh=>?_⟩
 .rw[<-kQ c,h,er,Nat.sub_zero];exact IP _
 .rw[IJ,<-lK,h,lK];rfl
theorem vR(c:List Pt):cst c<=tot c:=by
 rw[qY,<-gT];generalize aB c=a
 induction a with
 |nil=>exact Xd _
 |cons x a ih=>cases x<;>simp only[cA,WY]<;>omega
theorem zL{c:List Pt}{r:Rw}(h:r∈cS c):r.2.1.length+r.2.2.length<=tot c:=by
 have h1:=vR c;have h2:∀(l:List Rw),r∈l->r.2.1.length+r.2.2.length<=ni l:=λl=>by
  induction l with
  |nil=>intro h;cases h
  |cons x l ih=>
   intro h;simp only[ni,WO,YA];rcases List.mem_cons.mp h with rfl|h
   .omega
   .have:=ih h;simp only[ni]at this;omega
 have:=h2 _ h;rw[nQ]at this;omega
theorem Oc(l:List Rw):(l.map λr=>(r.2.1.length:Int)+(r.2.2.length:Int)).sum=(ni l:Int):=by
 induction l with
 |nil=>rfl
 |cons x l ih=>simp only[ni,WO,YA]at ih ⊢;omega
noncomputable def s12:Ev.Ss:=.cons vK (.cons vL (.cons vM (.cons vN (.cons vO .nil))))
theorem Ca(hw:5000<w){t:List Nat}{c:List Pt}(h1:c.length<=400)(h2:tot c<=400)(ht:t.length=az c)(hl:t.length<=5)(hf:bg c t=true){a:Option Sl}(ha:vo a):Wp (exs (run prog w (n+8)) w s12 (lG (xs ns t c) a none)) λg fr=>g=.ret (.bl true)/\outs 1 fr=[]:=by
 have lt:cK .len [.str t]=some (.int (t.length:Nat)):=XX (by omega);have ll:(cS c).length<=400:=by
  have h3:∀l:List Rw,(∀r∈l,0<r.2.1.length+r.2.2.length)->l.length<=ni l:=λl=>by
   induction l with
   |nil=>intro _;exact Xd _
   |cons x l ih=>
    intro h;have q1:=h x (by simp);have q2:=ih λr hr=>h r (by simp[hr]);simp only[ni,WO,YA,WY]at q2 ⊢;omega
  have:=h3 (cS c) λr hr=>FY (aM c) 0 [] [] r hr;rw[nQ]at this;have h4:=vR c;omega
 have r1:=λfr=>dm (fr:=fr) (wu (F:=prog) (aD:=5) (aQ:=4) (i:=16) (w:=w) (n:=n+5) rfl rfl rfl c (by omega) (by omega));have r2:=λfr=>dm (fr:=fr) (u7 (F:=prog) (aE:=0) (i:=3) (w:=w) (n:=n+6) rfl rfl c (by omega) (by omega));have r3:=λfr=>dm (fr:=fr) (iK (F:=prog) (aD:=5) (i:=4) (w:=w) (n:=n+6) rfl rfl c (by omega) (by omega));have r4:=λfr=>dm (fr:=fr) (oH (F:=prog) (aD:=5) (aQ:=4) (i:=9) (w:=w) (n:=n+5) rfl rfl rfl t.length (by omega));have VH:tot (er (cS c) 0 (az c))<=900:=by rw[<-iM,kQ,iM];omega
 have r5:=λfr=>call2 (fr:=fr) (j0 (F:=prog) (aD:=5) (aQ:=4) (i:=17) (w:=w) (n:=n+5) rfl rfl rfl (cS c) (az c) (x8 c) (by omega) (λr hr=>by have:=zL hr;omega) VH);have r6:=λfr=>dm (fr:=fr) (qa (F:=prog) (aE:=0) (i:=1) (w:=w) (n:=n+6) rfl rfl c (by omega) (by omega));have r7:=λfr=>call2 (fr:=fr) (j0 (F:=prog) (aD:=5) (aQ:=4) (i:=17) (w:=w) (n:=n+5) rfl rfl rfl [] 3 (Xd _) (by simp) (by simp) (by decide));have r8:=λfr=>dm (fr:=fr) (oH (F:=prog) (aD:=5) (aQ:=4) (i:=9) (w:=w) (n:=n+5) rfl rfl rfl 3 (by omega));rw[kQ]at r5;refine ai (aW (ao:=lG (xs ns t c) a (some (.val (.lst ((cS c).map rV))))) (b9 (aX rfl (au rfl) br) (r1 _)) rfl rfl ?_);have c1:bV (fE (run prog w (n+8)) (.bin .add (.bi .len (.cons (.v 17) .nil)) (.bi .len (.cons (.v 18) .nil))) (.many [16,17,18]) .no (lG (xs ns t c) a (some (.val (.lst ((cS c).map rV)))))) ((cS c).map rV)=some ((cS c).map λr=>V.int ((r.2.1.length:Int)+(r.2.2.length:Int))):=
  eW _ _ _ λr hr=>by
   have:=zL hr;exact jb rfl (bz (cQ (aF (au rfl) aI) (XX (by omega))) (cQ (aF (au rfl) aI) (XX (by omega))) bR)
 have sm:cK .sum [.lst ((cS c).map λr=>V.int ((r.2.1.length:Int)+(r.2.2.length:Int)))]=some (.int (cst c:Nat)):=by
  rw[xP,jq (λr:Rw=>(r.2.1.length:Int)+(r.2.2.length:Int))];show some (V.int _)=_;rw[Oc,nQ]
 refine ai (aP (b:=false) (ay rfl (aR (cQ (aF (ff (fO (fj rfl) rfl) rfl c1 (dH (bS (by simp;omega)))) aI) sm) (b9 (aX rfl (au rfl) br) (r2 _)) (ne_int _)) rfl) (λh=>absurd h (by decide)) λ_=>aC ?_);have c2:bV (fE (run prog w (n+8)) (.sl (.v 1) (.yes (.v 19)) (.yes (.bin .add (.v 19) (.bi .len (.cons (.v 20) .nil))))) (.many [19,20,21]) .no (lG (xs ns t c) a (some (.val (.lst ((cS c).map rV)))))) ((cS c).map rV)=some (((cS c).map λr=>r.2.1).map V.str):=by
  rw[XS];refine eW _ _ _ λr hr=>?_;have:=zL hr;have e:=Uo t r.1 r.2.1.length;rw[M9 hf r hr]at e;exact jb rfl (Du (au rfl) (pY (au rfl)) (pY (bz (au rfl) (cQ (aF (au rfl) aI) (XX (by omega))) bR)) e)
 have c3:bV (fE (run prog w (n+8)) (.v 23) (.many [22,23,24]) .no (lG (xs ns t c) a (some (.val (.lst ((cS c).map rV)))))) ((cS c).map rV)=some (((cS c).map λr=>r.2.1).map V.str):=by
  rw[XS];exact eW _ _ _ λr hr=>jb rfl (au rfl)
 refine ai (aP (b:=false) (ay rfl (aR (ff (fO (fj rfl) rfl) rfl c2 (dH (bS (by simp;omega)))) (ff (fO (fj rfl) rfl) rfl c3 (dH (bS (by simp;omega)))) (QF _)) rfl) (λh=>absurd h (by decide)) λ_=>aC ?_);have e1:=Ex c;rw[<-ht]at e1 r5;have n1:Pv.cop .ne (.bl (decide (cS c=[]))) (.bl (decide (aM c=aM [.keep t.length])))=some false:=by rw[e1];exact QH _
 refine ai (aP (b:=false) (dO (ay rfl (aR (aR (au rfl) (jT aI iR) (QI _)) (aR (b9 (aX rfl (au rfl) br) (r3 _)) (b9 (aX rfl (cQ (aF (au rfl) aI) lt) br) (r4 _)) (Gd _ _)) n1) rfl)
  (ay rfl (aR (b9 (aX rfl (cQ (aF (au rfl) aI) lt) (aX rfl (au rfl) br)) (r5 _)) (b9 (aX rfl (au rfl) br) (r3 _)) (QE _)) rfl)) (λh=>absurd h (by decide)) λ_=>aC ?_)
 have e2:Pv.cop .eq (.int (az c:Nat)) (.int (t.length:Nat))=some true:=by rw[Dv,ht];simp
 have e3:Pv.cop .eq (aJ (aM (er [] 0 3))) (aJ (aM [.keep 3]))=some true:=by rw[Gd];exact WT some (XE rfl)
 refine ai (b8 (v:=.bl true) (Tp (b:=true) (aR (b9 (aX rfl (au rfl) br) (r6 _)) (cQ (aF (au rfl) aI) lt) e2) (λ_=>aR (b9 (aX rfl (aN rfl) (aX rfl (jT aI iR) br)) (r7 _)) (b9 (aX rfl (aN rfl) br) (r8 _)) e3) λh=>absurd h (by decide)) ⟨rfl,rfl⟩)
noncomputable def s5:Ev.Ss:=.cons zE (.cons zF (.cons zG (.cons zH (.cons zI (.cons vI (.cons vJ s12))))))
noncomputable def vF(l:List V)(k:Nat):Fr:=l.map (λv=>some (.val v))++List.replicate k none
theorem Ey(hw:5000<w){t:List Nat}{c:List Pt}(h1:c.length<=400)(h2:tot c<=400)(ht:t.length=az c)(hl:t.length<=5)(hf:bg c t=true):Wp (exs (run prog w (n+8)) w s5 (vF [fF ns,.str t,aJ c,.str (aT c t),.lst ((jc c).map V.int),.lst ((his c).map V.int)] 19)) λg fr=>g=.ret (.bl true)/\outs 1 fr=[]:=by
 have lt:cK .len [.str t]=some (.int (t.length:Nat)):=XX (by omega);have dl:=oZ hf;have at_:bP c<=400:=by have:=B6 c;have:=vR c;have:bP c<=tot c:=(by rw[ql,<-gT];generalize aB c=a;suffices ∀i,(tA i a).length<=a.length from this 0;induction a with|nil=>intro i;exact Xd _|cons x a ih=>intro i;cases x<;>simp only[tA,WY]<;>first | (have:=ih (i+1);omega) | (have:=ih i;omega));omega
 have lm:cK .len [.str (aT c t)]=some (.int (bP c:Nat)):=by rw[<-dl];exact XX (by omega)
 have l1:(jc c).length<64:=by simp[jc];omega
 have l2:(his c).length<64:=by simp[his];omega
 have z0:lo c 0=0:=by
  obtain⟨p,hp⟩:=IF (eT c) (asks c) 0 (by intro z;have:=jM c;rw[z]at this;simp at this);have:=iX (c:=c) (k:=0) (Xd _);rw[show(gm c)[0]?=some (0,p)from hp]at this;exact(WT Prod.fst (Er this)).symm
 have zN:hi c (az c)=bP c:=by
  obtain⟨A,B,C,_⟩:=jN (F:=prog) (aD:=5) (aQ:=4) (aE:=0) (aY:=11) (bC:=10) (bE:=1) (cB:=2) (fY:=12) (i:=13) (w:=w) (n:=n) rfl rfl rfl rfl rfl rfl rfl rfl rfl hw c (az c) (by omega) (by omega) (qh _);have e:=kP C;rw[iX (qh _)]at e;have e2:hi c (az c)=bP A:=WT Prod.snd (Er e);have hB:B=[]:=by
   rcases vH C with ⟨_,z⟩|⟨z,_⟩
   .exact z
   .omega
  have:=C.at_;rw[hB]at this;rw[e2,ql,<-lJ c,ql (aM c),<-this];simp[aB]
 have i0:dg (.lst ((jc c).map V.int)) (.int 0)=some (.int 0):=by
  have:=lQ (f:=lo c) (n:=az c+1) (k:=0) (by omega);rw[z0]at this;exact this
 have iN:dg (.lst ((his c).map V.int)) (.int (-1))=some (.int (bP c:Nat)):=by
  have hlen:(his c).length=az c+1:=by simp[his]
  rw[nI,u5,his,Ys,W0,W0];simp only[WO,Y4,Z5,List.getLast?_singleton,Option.some_or];show some (V.int ((hi c (az c):Nat):Int))=_;rw[zN]
 refine ai (aP (b:=false) (dO (ay rfl (aR (au rfl) (cQ (aF (au rfl) aI) (yf (N7 c) l1)) (ne_is _)) rfl) (dO (ay rfl (aR (au rfl) (cQ (aF (au rfl) aI) (yf (N8 c) l2)) (ne_is _)) rfl) (dO (ay rfl (aR (bT (au rfl) (aN rfl) i0) (aN rfl) (ne_int _)) rfl)
  (ay rfl (aR (bT (au rfl) (lB (aN rfl)) iN) (cQ (aF (au rfl) aI) lm) (ne_int _)) rfl)))) (λh=>absurd h (by decide)) λ_=>aC ?_)
 have g1:=rg ((t.length:Int)+1) (n:=az c+1) (by omega) (by omega);have g2:=rg (t.length:Int) (n:=az c) (by omega) (by omega);refine ai (aP (b:=false) (ay rfl (aR (ff (ja (aF (bz (cQ (aF (au rfl) aI) lt) (aN rfl) bR) aI) g1) rfl (none_of (λ(i:Nat)=>V.int (i:Int)) (List.range (az c+1)) λk hk=>?_) iR) (jT aI iR) ne_nil) rfl) (λh=>absurd h (by decide)) λ_=>aC ?_)
 .have hk:=List.mem_range.mp hk;exact kJ (b:=false) (v:=.aU) (cG:=[]) rfl (ay rfl (aR (bT (au rfl) (au rfl) (lQ (f:=lo c) (by omega))) (bT (au rfl) (au rfl) (lQ (f:=hi c) (by omega))) mX) (by show decide _=false;have:=nR c (k:=k) (by omega);exact W3 (by omega))) λh=>absurd h (by decide)
 refine ai (aP (b:=false) (ay rfl (aR (ff (ja (aF (cQ (aF (au rfl) aI) lt) aI) g2) rfl (none_of (λ(i:Nat)=>V.int (i:Int)) (List.range (az c)) λk hk=>?_) iR) (jT aI iR) ne_nil) rfl) (λh=>absurd h (by decide)) λ_=>aC ?_)
 .have hk:=List.mem_range.mp hk;have i1:dg (.lst ((jc c).map V.int)) (.int ((k:Int)+1))=some (.int (lo c (k+1):Nat)):=lQ (f:=lo c) (n:=az c+1) (k:=k+1) (by omega);have hs:=rH c hk;have hm:Pv.cop .gp (.int (((lo c (k+1):Nat):Int) - (hi c k:Nat))) (.tup [.int 0,.int 1])=some false:=by
   rw[Bm];show(Pv.mem _ _).map _=_;rw[mem_cons,mem_cons,Hx,nF,nF];cases hp:kp c k<;>rw[hp]at hs<;>rw[hs]<;>simp<;>omega
  exact kJ (b:=false) (v:=.aU) (cG:=[]) rfl (ay rfl (aR (bz (bT (au rfl) (bz (au rfl) (aN rfl) bR) i1) (bT (au rfl) (au rfl) (lQ (f:=hi c) (n:=az c+1) (by omega))) iH) (iu (aF (aN rfl) (aF (aN rfl) aI)) nE) hm) rfl) λh=>absurd h (by decide)
 have c6:bV (fE (run prog w (n+8)) (.cl 15 (.cons (.v 2) (.cons (.v 14) .nil))) (.one 14) .no (vF [fF ns,.str t,aJ c,.str (aT c t),.lst ((jc c).map V.int),.lst ((his c).map V.int)] 19)) ((List.range (az c)).map λ(i:Nat)=>V.int (i:Int))=some (qu c):=
  eW _ _ _ λk hk=>jb rfl (b9 (aX rfl (au rfl) (aX rfl (au rfl) br)) (call2 (yg (w:=w) (n:=n+4) hw c k h1 h2 (List.mem_range.mp hk)).1))
 refine ai (aW (ao:=vF [fF ns,.str t,aJ c,.str (aT c t),.lst ((jc c).map V.int),.lst ((his c).map V.int),.lst (qu c)] 18) (ff (ja (aF (cQ (aF (au rfl) aI) lt) aI) g2) rfl c6 (dH (bS (by simp[qu];omega)))) rfl rfl ?_);have c7:bV (fE (run prog w (n+8)) (.v 15) (.one 15) (.yes (.cmp .j4 (.v 15) (.c (.aU)))) (vF [fF ns,.str t,aJ c,.str (aT c t),.lst ((jc c).map V.int),.lst ((his c).map V.int),.lst (qu c)] 18)) (qu c)=some ((qt c).map V.int):=by
  unfold qt qu;rw[XS];refine mU _ _ _ _ λk hk=>?_;unfold oK;cases hp:kp c k with
  |true=>exact kJ (b:=true) rfl (ay rfl (aR (au rfl) (aN rfl) uX) rfl) λ_=>au rfl
  |false=>exact kJ (b:=false) (v:=.aU) (cG:=[]) rfl (ay rfl (aR (au rfl) (aN rfl) Dp) rfl) λh=>absurd h (by decide)
 have kl:=kpt_len c;have kn:=B6 c;have kb:nk c<=az c:=by rw[<-kl];unfold qt;rw[W6];exact WV (Z1 _ _) (by simp)
 refine ai (aW (ao:=lG (xs ns t c) none none) (ff (fO (fj rfl) rfl) rfl c7 (dH (bS (by simp;omega)))) rfl rfl ?_);have r2:=λfr=>dm (fr:=fr) (u7 (F:=prog) (aE:=0) (i:=3) (w:=w) (n:=n+6) rfl rfl c (by omega) (by omega));have lk:cK .len [.lst ((qt c).map V.int)]=some (.int (nk c:Nat)):=by rw[Hz,W6,kl]
 have nn:Pv.cop .ne (.int ((nk c:Nat)+(cst c:Nat):Int)) (.int ((bP c:Nat)+(t.length:Nat) - (nk c:Nat):Int))=some false:=by
  rw[show((bP c:Nat)+(t.length:Nat) - (nk c:Nat):Int)=((nk c:Nat)+(cst c:Nat):Int)by omega];exact ne_int _
 refine ai (aP (b:=false) (dO (ay rfl (aR (au rfl) (cQ (aF (au rfl) aI) (IL (N9 c) (by omega))) (ne_is _)) rfl)
  (ay rfl (aR (bz (cQ (aF (au rfl) aI) lk) (b9 (aX rfl (au rfl) br) (r2 _)) bR) (bz (bz (cQ (aF (au rfl) aI) lm) (cQ (aF (au rfl) aI) lt) bR) (cQ (aF (au rfl) aI) lk) iH) nn) rfl)) (λh=>absurd h (by decide)) λ_=>aC ?_)
 refine ai (lD (vs:=(List.range (az c)).map λ(i:Nat)=>V.int (i:Int)) (af:=lG (xs ns t c) none none) (ja (aF (cQ (aF (au rfl) aI) lt) aI) g2) ?_);refine fV (e:=λ(i:Nat)=>V.int (i:Int)) (λp l fr=>(∀k∈l,k<az c)/\∃a,vo a/\fr=lG (xs ns t c) a none) (λp k l fr ⟨hq,a,ha,hfr⟩=>?_) (λp fr ⟨hq,a,ha,hfr⟩=>?_) _ [] _ ⟨λk hk=>List.mem_range.mp hk,none,.none,rfl⟩
 .subst hfr;refine Ob hw h1 h2 ht hf (hq k (by simp)) ha λa ha=>?_;rw[dU];exact⟨λr hr=>hq r (by simp[hr]),a,ha,rfl⟩
 .subst hfr;exact Ca hw h1 h2 ht hl hf ha
variable(hn:ns.length<=63)
include hn in
theorem Od(hw:5000<w):run prog w (n+9) 22 [.val (fF ns)]=some (.bl true,[]):=by
 have ht:(txt ns 0 5).length<=5:=HY ns 0 (most:=5) (by decide);have c1:=λfr=>eH (fr:=fr) (Dz (F:=prog) (c:=18) (dr:=19) (t:=20) (w:=w) (n:=n+5) rfl rfl hn rfl 0 5 (by decide) (by decide));have c2:=λfr=>eH (fr:=fr) (zh (F:=prog) (c:=18) (dr:=19) (t:=21) (w:=w) (n:=n+5) rfl rfl hn rfl 10 (txt ns 0 5) (by omega));obtain⟨l1,t1⟩:=QD ns 10 (txt ns 0 5) 5 ht;have hf:=Ih ns 10 (txt ns 0 5);have fc:=xT hf;generalize txt ns 0 5=t at *
 generalize chg ns 10 t=c at *
 have h1:c.length<=400:=by omega
 have h2:tot c<=400:=by omega
 have lt:cK .len [.str t]=some (.int (t.length:Nat)):=XX (by omega);have c3:=λfr=>call2 (fr:=fr) (Eb (F:=prog) (aE:=0) (m7:=6) (i:=7) (w:=w) (n:=n+5) rfl rfl rfl c t (by omega) (by omega) (by omega) hf);have g1:=rg ((t.length:Int)+1) (n:=az c+1) (by omega) (by omega);refine cy (fn:=B8) rfl rfl ?_;refine ai (aW (b9 (aX rfl (au rfl) (aX rfl (aN rfl) (aX rfl (aN rfl) br))) (c1 _)) rfl rfl ?_);refine ai (aW (b9 (aX rfl (au rfl) (aX rfl (aN rfl) (aX rfl (au rfl) br))) (c2 _)) rfl rfl ?_);refine ai (aW (ao:=vF [fF ns,.str t,aJ c,.str (aT c t)] 21) (b9 (aX rfl (au rfl) (aX rfl (au rfl) br)) (c3 _)) rfl rfl ?_);have c4:bV (fE (run prog w (n+8)) (.cl 13 (.cons (.v 2) (.cons (.v 10) (.cons (.c (.str [97,104,101,97,100])) .nil)))) (.one 10) .no (vF [fF ns,.str t,aJ c,.str (aT c t)] 21)) ((List.range (az c+1)).map λ(i:Nat)=>V.int (i:Int))=some ((jc c).map V.int):=by
  unfold jc;rw[XS];exact eW _ _ _ λk hk=>jb rfl (b9 (aX rfl (au rfl) (aX rfl (au rfl) (aX rfl (aN rfl) br))) (eH (o9 (w:=w) (n:=n+4) hw c k h1 h2 (by have:=List.mem_range.mp hk;omega)).1))
 have c5:bV (fE (run prog w (n+8)) (.cl 13 (.cons (.v 2) (.cons (.v 11) (.cons (.c (.str [98,101,104,105,110,100])) .nil)))) (.one 11) .no (vF [fF ns,.str t,aJ c,.str (aT c t),.lst ((jc c).map V.int)] 20)) ((List.range (az c+1)).map λ(i:Nat)=>V.int (i:Int))=some ((his c).map V.int):=by
  unfold his;rw[XS];exact eW _ _ _ λk hk=>jb rfl (b9 (aX rfl (au rfl) (aX rfl (au rfl) (aX rfl (aN rfl) br))) (eH (o9 (w:=w) (n:=n+4) hw c k h1 h2 (by have:=List.mem_range.mp hk;omega)).2))
 refine ai (aW (ao:=vF [fF ns,.str t,aJ c,.str (aT c t),.lst ((jc c).map V.int)] 20) (ff (ja (aF (bz (cQ (aF (au rfl) aI) lt) (aN rfl) bR) aI) g1) rfl c4 (dH (bS (by simp[jc];omega)))) rfl rfl ?_);refine ai (aW (ao:=vF [fF ns,.str t,aJ c,.str (aT c t),.lst ((jc c).map V.int),.lst ((his c).map V.int)] 19) (ff (ja (aF (bz (cQ (aF (au rfl) aI) lt) (aN rfl) bR) aI) g1) rfl c5 (dH (bS (by simp[his];omega)))) rfl rfl ?_);exact Ey hw h1 h2 fc ht hf
end
def good:∀ns:List Int,ns.length<=63->∃h',Ev.run prog 100000 60 22 [.ref 0] [.bW (ns.map Ev.D.int)]=.ok (.bl true) h':=λns h=>Hv (Od (w:=100000) (n:=51) h (by decide))
end Lg
theorem Lw.good:∀ns:List Int,ns.length<=63->∃h',Ev.run Lw.prog 100000 60 22 [.ref 0] [.bW (ns.map Ev.D.int)]=.ok (.bl true) h':=Lg.good
namespace PySem.W.Fast
theorem tw7297509810777651160:True:=⟨⟩
theorem tw5888419119781298105:True:=⟨⟩
theorem tw688704923516985523:True:=⟨⟩
theorem tw739080580160270320:True:=⟨⟩
theorem tw186080471005429794:True:=⟨⟩
theorem tw14088014671971192356:True:=⟨⟩
theorem tw15935687679570700667:True:=⟨⟩
theorem tw2415830328677885487:True:=⟨⟩
theorem tw16600617806768478088:True:=⟨⟩
theorem tw9422226620330173498:True:=⟨⟩
theorem tw3488433036502503855:True:=⟨⟩
theorem tw4738095929401936341:True:=⟨⟩
theorem tw15836401810713392121:True:=⟨⟩
theorem tw10464622463999805025:True:=⟨⟩
theorem tw11930582132003519823:True:=⟨⟩
theorem tw10509955405760142204:True:=⟨⟩
theorem tw3271471430186046037:True:=⟨⟩
theorem tw4132221387980202895:True:=⟨⟩
theorem tw5617575023167556005:True:=⟨⟩
theorem tw16378985516156332187:True:=⟨⟩
theorem tw8272441636236624084:True:=⟨⟩
theorem tw3903041835931285417:True:=⟨⟩
theorem tw15640254646918427123:True:=⟨⟩
theorem tw9354933486567813814:True:=⟨⟩
theorem tw11415213941482270781:True:=⟨⟩
theorem tw8053709875751637959:True:=⟨⟩
theorem tw13078529646756080818:True:=⟨⟩
theorem tw12881224359996857436:True:=⟨⟩
theorem tw4013162386009728588:True:=⟨⟩
theorem tw2859843353764336334:True:=⟨⟩
theorem tw2158461981544086475:True:=⟨⟩
theorem tw9276738293556249341:True:=⟨⟩
theorem tw3618032234343105040:True:=⟨⟩
theorem tw5597071051364875136:True:=⟨⟩
theorem tw856571414038428642:True:=⟨⟩
theorem tw16275823469512270449:True:=⟨⟩
theorem tw14578263937759950844:True:=⟨⟩
theorem tw9027180923704296995:True:=⟨⟩
theorem tw4484615584954265243:True:=⟨⟩
theorem tw428597841878010350:True:=⟨⟩
theorem tw12851966447469051142:True:=⟨⟩
theorem tw8790045008327139607:True:=⟨⟩
theorem tw1407910102112900930:True:=⟨⟩
theorem tw3473646849445289243:True:=⟨⟩
theorem tw8555507316881097318:True:=⟨⟩
theorem tw6885908540708512571:True:=⟨⟩
theorem tw10599513510621135471:True:=⟨⟩
theorem tw1426379407520217353:True:=⟨⟩
theorem tw18169512084760423906:True:=⟨⟩
theorem tw1377872907026807120:True:=⟨⟩
theorem tw16613855926945893779:True:=⟨⟩
theorem tw883563465167934649:True:=⟨⟩
theorem tw16342960663227400351:True:=⟨⟩
theorem tw10479482779593472080:True:=⟨⟩
theorem tw18128795326217462966:True:=⟨⟩
theorem tw4627184905495020358:True:=⟨⟩
theorem tw4260658390906672538:True:=⟨⟩
theorem tw898597356600510710:True:=⟨⟩
theorem tw16965330245686672246:True:=⟨⟩
theorem tw5676665827388409454:True:=⟨⟩
theorem tw8445155913860983465:True:=⟨⟩
theorem tw14815846274521109371:True:=⟨⟩
theorem tw16408264372650155096:True:=⟨⟩
theorem tw14166495742861704637:True:=⟨⟩
theorem tw16792765903526004693:True:=⟨⟩
theorem tw1815210157000653929:True:=⟨⟩
theorem tw13071203278728466106:True:=⟨⟩
theorem tw18188909741298305470:True:=⟨⟩
theorem tw6710161773639198262:True:=⟨⟩
theorem tw6186002600989551065:True:=⟨⟩
theorem tw16275307205201717755:True:=⟨⟩
theorem tw8383934230373309183:True:=⟨⟩
theorem tw15408410572669669493:True:=⟨⟩
theorem tw7533650567427974010:True:=⟨⟩
theorem tw16492233281229018363:True:=⟨⟩
theorem tw14713451760471709600:True:=⟨⟩
theorem tw16814052747145062236:True:=⟨⟩
theorem tw10476690073280995437:True:=⟨⟩
theorem tw8276265811582405075:True:=⟨⟩
theorem tw15574380822152436775:True:=⟨⟩
theorem tw5550930747397538169:True:=⟨⟩
theorem tw16006079380907635885:True:=⟨⟩
theorem tw11217710281138374675:True:=⟨⟩
theorem tw13976629539726199870:True:=⟨⟩
theorem tw2444495623283078871:True:=⟨⟩
theorem tw10618796881237184497:True:=⟨⟩
theorem tw17494218748492697280:True:=⟨⟩
theorem tw916423500490329030:True:=⟨⟩
theorem tw16653485711916229846:True:=⟨⟩
theorem tw3693774818623684516:True:=⟨⟩
theorem tw16017405243162002095:True:=⟨⟩
theorem tw16876779686078218501:True:=⟨⟩
theorem tw4087856805577187501:True:=⟨⟩
theorem tw13001692122706933393:True:=⟨⟩
theorem tw2293491888989229062:True:=⟨⟩
theorem tw1639298857809772734:True:=⟨⟩
theorem tw9464861817241241482:True:=⟨⟩
theorem tw7663422677836790336:True:=⟨⟩
theorem tw14842471021065206921:True:=⟨⟩
theorem tw2642245824728849761:True:=⟨⟩
theorem tw8140519344698958397:True:=⟨⟩
theorem tw5614115648297789244:True:=⟨⟩
theorem tw2062327222645739616:True:=⟨⟩
theorem tw9550522081216840229:True:=⟨⟩
theorem tw520007424521214780:True:=⟨⟩
theorem tw8200630834162221222:True:=⟨⟩
theorem tw10190451643056672640:True:=⟨⟩
theorem tw1814102646213650400:True:=⟨⟩
theorem tw10025195334515790997:True:=⟨⟩
theorem tw7079035278778848584:True:=⟨⟩
theorem tw14122837424626655656:True:=⟨⟩
theorem tw1194040405999104934:True:=⟨⟩
theorem tw17879132913280852383:True:=⟨⟩
theorem tw18023581477045676763:True:=⟨⟩
theorem tw13815002481670520241:True:=⟨⟩
theorem tw5133515545771844186:True:=⟨⟩
theorem tw17097480806799008937:True:=⟨⟩
theorem tw11600088248298959350:True:=⟨⟩
theorem tw5514339321746330540:True:=⟨⟩
theorem tw16004365668974105389:True:=⟨⟩
theorem tw17738904947330599167:True:=⟨⟩
theorem tw8587330693930497207:True:=⟨⟩
theorem tw1572589043940533777:True:=⟨⟩
theorem tw17386332135966565893:True:=⟨⟩
theorem tw8701550147445608624:True:=⟨⟩
theorem tw5907675315546308188:True:=⟨⟩
theorem tw15178196247453309134:True:=⟨⟩
theorem tw4857896142075518434:True:=⟨⟩
theorem tw12824666834800733659:True:=⟨⟩
theorem tw6850875296186943165:True:=⟨⟩
theorem tw15983887962308837050:True:=⟨⟩
theorem tw16216309505799472747:True:=⟨⟩
theorem tw9467900832940800424:True:=⟨⟩
theorem tw6688300305172742018:True:=⟨⟩
theorem tw16962893397978557551:True:=⟨⟩
theorem tw14536770635058282440:True:=⟨⟩
theorem tw13250239015077379754:True:=⟨⟩
theorem tw1981756660981236430:True:=⟨⟩
theorem tw9583771003535085907:True:=⟨⟩
theorem tw2113570889092788587:True:=⟨⟩
theorem tw17929998263490412042:True:=⟨⟩
theorem tw18358062755266990887:True:=⟨⟩
theorem tw14313512450137669051:True:=⟨⟩
theorem tw3552131659230848781:True:=⟨⟩
theorem tw4767332853267545864:True:=⟨⟩
theorem tw13929611568438202388:True:=⟨⟩
theorem tw8447206013717241687:True:=⟨⟩
theorem tw9730838169924167298:True:=⟨⟩
theorem tw5010999721902185713:True:=⟨⟩
theorem tw10762136601618508284:True:=⟨⟩
theorem tw12860423316785246849:True:=⟨⟩
theorem tw15174708641300278237:True:=⟨⟩
theorem tw8853914498915060313:True:=⟨⟩
theorem tw6722851708390408723:True:=⟨⟩
theorem tw4203976347925165433:True:=⟨⟩
theorem tw7078427154133162535:True:=⟨⟩
theorem tw12835770749932708773:True:=⟨⟩
theorem tw3206851748850202494:True:=⟨⟩
theorem tw16581681045285181850:True:=⟨⟩
theorem tw12744348074728802014:True:=⟨⟩
theorem tw17839799817303210669:True:=⟨⟩
theorem tw2159556976037377672:True:=⟨⟩
theorem tw13671497093742097228:True:=⟨⟩
theorem tw17031070573651746419:True:=⟨⟩
theorem tw5801827101804481768:True:=⟨⟩
theorem tw8600137220874732717:True:=⟨⟩
theorem tw9664841858013110710:True:=⟨⟩
theorem tw4202226705357758265:True:=⟨⟩
theorem tw2076809464935382288:True:=⟨⟩
theorem tw12404970499267043247:True:=⟨⟩
theorem tw7729890162248312401:True:=⟨⟩
theorem tw8788645246429117297:True:=⟨⟩
theorem tw10319773798028573220:True:=⟨⟩
theorem tw816974433270066893:True:=⟨⟩
theorem tw11608527013245564133:True:=⟨⟩
theorem tw12153328507840384920:True:=⟨⟩
theorem tw2060859899396743733:True:=⟨⟩
theorem tw6873715520742425080:True:=⟨⟩
theorem tw12250392884000986920:True:=⟨⟩
theorem tw14597127620474012840:True:=⟨⟩
theorem tw12566859160444844400:True:=⟨⟩
theorem tw8265846661308873372:True:=⟨⟩
theorem tw13387188845891325280:True:=⟨⟩
theorem tw14952638452890636132:True:=⟨⟩
theorem tw8450622746967762064:True:=⟨⟩
theorem tw16164457640679396540:True:=⟨⟩
theorem tw4868004883991716550:True:=⟨⟩
theorem tw10949492585714943095:True:=⟨⟩
theorem tw14071612842624509130:True:=⟨⟩
end PySem.W.Fast
open PySem PySem.W PyProof.Rows
set_option maxRecDepth 100000 in
set_option maxHeartbeats 0 in
theorem PySem.Challenge.cw_pastways_k31_whole_places_holds : PySem.Challenge.rw_pastways_k31_whole_places.Holds := by
 w_on;o_law;k_head;(case hw=>w_witness2)
 k_fill
 refine Sm.G5 (F:=Lw.prog) (wh:=100000) (n:=60) (f:=22) (x:="_law_script") (l:=PySem.Challenge.rw_pastways_k31_whole_places) rfl rfl ⟨rfl,by decide,by decide⟩ (λw h Y=>PySem.W.kIn_of Y) Lw.good ?F
 case F=>
  intro w mg fa h KX G hmg
  refine' Lw.all_mk KX G hmg ⟨?a0,L2.cC ?l0 ?c0 ?k0⟩ ⟨?a1,L2.cC ?l1 ?c1 ?k1⟩ ⟨?a2,L2.cC ?l2 ?c2 ?k2⟩ ⟨?a3,L2.cC ?l3 ?c3 ?k3⟩ ⟨?a4,L2.cC ?l4 ?c4 ?k4⟩ ⟨?a5,L2.cC ?l5 ?c5 ?k5⟩ ⟨?a6,L2.cC ?l6 ?c6 ?k6⟩ ⟨?a7,L2.cC ?l7 ?c7 ?k7⟩ ⟨?a8,L2.cC ?l8 ?c8 ?k8⟩ ⟨?a9,L2.cC ?l9 ?c9 ?k9⟩ ⟨?VV,L2.cC ?VW ?VX ?VY⟩ ⟨?VZ,L2.cC ?V0 ?V1 ?V2⟩ ⟨?V3,L2.cC ?V4 ?c12 ?V5⟩ ⟨?V6,L2.cC ?V7 ?V8 ?V9⟩ ⟨?Wa,L2.cC ?Wb ?Wc ?Wd⟩ ⟨?We,L2.cC ?Wf ?Wg ?Wh⟩ ⟨?Wi,L2.cC ?Wj ?Wk ?Wl⟩ ⟨?Wm,L2.cC ?Wn ?Wo ?Wq⟩ ⟨?Wr,L2.cC ?Ws ?Wt ?Wu⟩ ⟨?Wv,L2.cC ?Ww ?Wx ?Wy⟩ ⟨?Wz,L2.cC ?WA ?WB ?WC⟩ ⟨?WD,L2.cC ?WE ?WG ?WH⟩ ⟨?WI,L2.cC ?WJ ?WK ?WL⟩ ?z0 ?z1 ?z2 ?z3 ?z4 ?z5 ?z6 ?z7 ?z8 ?q0 ?RZ ?R0 ?R1;all_goals try first|k_is|rfl|decide +kernel | (with_unfolding_all rfl)

import PyProof.Rows.All
import Wide.All
import OpenK.AllK
import Wide.FinOn
import Lean
import PyProof.EqAt
import PyProof.EqKinds
import PyProof.TupleCall
import PyProof.NeKinds
import PyProof.StrLawsIn
import KE.KRevSl
import PyProof.ZipIter
import PyProof.ListRange
import PyProof.Rows.SortStr
import KE.KRevIter
import PyProof.EnumMake
import PyProof.EnumFor
import KE.KIntText
import PyProof.CallStr
import PyProof.ToksMono
import PyProof.StrLawsReplace
import PySem.Challenge.RW_pastways_k92_whole_forms_written
set_option bootstrap.genMatcherCode false
set_option compiler.extract_closed false
set_option maxHeartbeats 4000000
noncomputable section
set_option Elab.async false
set_option linter.all false
set_option maxRecDepth 100000
def gV:=@PySem.wpAny_bind
def wj:=@Option.map_eq_some_iff
def IC:=@if_pos
def M6:=@Option.some.inj
def M7:=@List.map_cons
def OS:=@Bool.and_eq_true
def Qj:=@Option.bind_eq_some_iff
def Q4:=@List.size_toArray
def Q5:=@Nat.lt_of_lt_of_le
def Tw:=@PySem.Heap.get?_push_of_some
def Tz:=@List.getElem?_set_ne
def T7:=@List.length_append
def T8:=@if_neg
def Vf:=@List.getElem?_append_left
def Vg:=@PySem.wpAny_pure
def VG:=@Nat.le_refl
def VR:=@List.replicate_succ
def VS:=@PySem.Heap.lt_size
def Xl:=@List.getElem?_eq_getElem
def Xm:=@Nat.le_trans
def Xn:=@List.getElem?_set_self
def Xo:=@List.length_cons
def Xp:=@congrArg
def Xq:=@if_true
def Xr:=@decide_eq_false
def Xu:=@List.mem_append_right
def Xv:=@PySem.Heap.get?_push_size
def Xw:=@Bool.false_eq_true
def Xx:=@List.mem_of_getElem?
def Xy:=@List.mem_cons_of_mem
def Xz:=@List.map_append
def XA:=@List.length_map
def XC:=@List.reverse_cons
def XD:=@PySem.W.mg_none_of
def XE:=@if_false
def XF:=@decide_eq_true_eq
def XG:=@List.mem_singleton
def XH:=@List.map_map
def XI:=@List.foldl_cons
def XJ:=@Nat.ne_of_lt
def XM:=@List.cons_append
def XN:=@of_decide_eq_true
def XO:=@List.getElem?_map
def XQ:=@List.take_of_length_le
def XR:=@PySem.W.kia_one
def XS:=@Nat.lt_irrefl
def XT:=@PySem.wpAny_passesOwn
def XU:=@List.append_assoc
def XW:=@decide_eq_true
def XX:=@List.getElem?_eq_none
def XY:=@PySem.AutoSeq1.wpAny_loadPart'
def XZ:=@List.append_nil
def X0:=@PySem.wpAny_truthy_bool
def X3:=@List.flatten_cons
def X4:=@PySem.wpAny_ite_split
def X5:=@List.mem_cons_self
def X6:=@List.drop_zero
def X7:=@PySem.wpAny_newObj_type
def X8:=@List.foldl_append
def Yb:=@List.length_nil
def Yc:=@PyProof.Rows.callWith_type1
def Yd:=@List.take_succ_cons
def Ye:=@List.drop_succ_cons
def Yg:=@PySem.W.mg_of
def Yh:=@List.getElem?_append_right
def Yi:=@PySem.Calls.spliced_cons
def Yj:=@Bool.false_ne_true
def Yk:=@PySem.builtinLookup_eq_fast
def Yl:=@List.length_replicate
def Ym:=@PyProof.Rows.slot_tuple_getitem
def Yn:=@PySem.call_meets
def Yo:=@Bool.or_eq_true
def Yp:=@List.map_congr_left
def Yq:=@List.filterMap_cons
def Yr:=@Ne.symm
def Ys:=@List.lookup_cons
def Yt:=@List.all_eq_true
def Yu:=@PySem.wpAny_mono
def Yv:=@PySem.wpAny_field
def Yw:=@List.drop_eq_nil_of_le
def Yx:=@PySem.wpAny_Call_Name_kw
def Yy:=@of_decide_eq_false
def Yz:=@List.nil_append
def YA:=@List.length_singleton
def YB:=@PySem.Heap.get?_update_self
def YC:=@PySem.wpAny_of_eq
def YD:=@PySem.sizeLine_eq
def YE:=@Nat.zero_le
def YF:=@PySem.wpAny_call_entry
def YG:=@List.length_drop
def YH:=@PySem.mem_of_lookup
def YI:=@Option.bind_eq_bind
def YJ:=@PySem.wpAny_callSpecial?_slot
def YK:=@PyProof.Rows.len_str
def YL:=@PySem.typeLookup_type
def YM:=@PySem.Heap.get?_update_other
def YN:=@PySem.Calls.callWith_builtin
def YO:=@Nat.add_comm
def YQ:=@PySem.isSubtype_type
def YR:=@List.drop_drop
def YS:=@List.singleton_append
def YT:=@List.dropLast_eq_take
def YU:=@Nat.lt_succ_self
def YV:=@List.length_take
def YW:=@List.filter_cons
def YX:=@PySem.F.slot_str_split
def YY:=@Nat.add_assoc
def YZ:=@Array.length_toList
def Y0:=@PySem.wpAny_specialOf
def Y3:=@List.range_succ
def Y4:=@List.map_nil
def Y5:=@PySem.Obj.data_mapFields
def Y6:=@Int.emod_lt_of_pos
def Y7:=@PySem.F.args_tuple_mul_2
def Y8:=@PySem.F.args_tuple_add_2
def Y9:=@List.eq_of_mem_replicate
def Za:=@PySem.typeIs_str
def Zb:=@PySem.F.plainAttrs_list
def Zc:=@PySem.F.entry_tuple_mul
def Zd:=@PySem.F.entry_tuple_add
def Ze:=@Option.some.injEq
def Zf:=@Int.toNat_natCast
def Zg:=@Bool.not_eq_true'
def Zh:=@PySem.wpAny_Call_method_late
def Zi:=@PySem.F.slot_tuple_mul
def Zj:=@PySem.F.slot_tuple_add
def Zk:=@List.range_succ_eq_map
def Zl:=@List.mem_cons
def Zm:=@List.any_eq_true
def Zn:=@PySem.wpAny_isTrue_Compare1
def Zo:=@PyProof.Rows.vals1
def Zp:=@PySem.wpAny_execs_nil
def Zq:=@Nat.min_eq_left
def Zr:=@List.nodup_cons
def Zs:=@List.forIn_cons
def Zt:=@Int.emod_nonneg
def Zu:=@Bool.eq_iff_iff
def Zv:=@PySem.Calls.evalArgs_plain
def Zw:=@PyProof.Rows.callWith_builtin1
def Zx:=@List.getElem_of_mem
def Zy:=@List.getElem?_range
def Zz:=@PySem.Heap.SameBut.update
def ZA:=@List.foldl_nil
def ZC:=@PyProof.V.same_str
def ZD:=@List.zip_cons_cons
def ZE:=@List.filter_append
def ZF:=@PySem.F.args_str_split_2
def ZG:=@PySem.Calls.Constant_str
def ZH:=@PySem.wpAny_attempt
def ZI:=@Bool.or_false
def ZJ:=@PySem.Calls.Name_function_global
def ZK:=@PySem.W.kt_tab_in
def ZL:=@PySem.W.kitx_list
def ZM:=@List.ext_getElem?
def ZN:=@PySem.F.entry_str_split
def ZO:=@PySem.Calls.spliced_nil
def ZP:=@PySem.typeIs_int
def ZQ:=@PySem.wpAny_binaryOp_repeat_ref
def ZR:=@List.getElem?_eq_none_iff
def ZS:=@List.drop_eq_getElem_cons
def ZT:=@Array.getElem?_eq_getElem
def ZU:=@PySem.wpAny_typeOf
def ZV:=@Nat.succ_mul
def ZW:=@Nat.ne_of_gt
def ZX:=@PySem.wpAny_isInstance
def ZY:=@PySem.wpAny_execs_cons
def ZZ:=@PySem.noFill_tuple_add
def Z0:=@Nat.min_eq_right
def Z1:=@PySem.F.plainAttrs_str
def Z2:=@PySem.AutoSeq1.idx_int
def Z3:=@decide_eq_false_iff_not
def Z4:=@List.getElem?_replicate
def Z5:=@PyProof.Rows.split_len
def Z6:=@PySem.wpAny_updateSeq
def Z7:=@List.of_mem_zip
def Z8:=@List.mem_append
def Z9:=@Nat.le_succ
def aaa:=@PySem.W.cellsFrom_some
def aab:=@PySem.wpAny_setField
def aac:=@PySem.F.slot_int_rmul
def aad:=@List.getElem?_toArray
def aae:=@PySem.wpAny_rule
def aaf:=@Nat.pow_le_pow_right
def aag:=@List.replicate_succ'
def aah:=@List.mem_of_mem_take
def aai:=@List.mem_of_mem_drop
def aaj:=@List.mem_append_left
def aak:=@List.getElem?_of_mem
def aal:=@List.getElem?_modify
def aam:=@List.extract_toArray
def aan:=@List.sum_cons
def aao:=@Nat.sub_lt_sub_left
def aap:=@List.flatMap_append
def aaq:=@Nat.sub_zero
def aar:=@Nat.le_of_lt
def aas:=@Int.zero_add
def aat:=@PySem.W.kitx_tuple
def aau:=@PySem.W.callWith_K
def aav:=@List.contains_cons
def aaw:=@List.map_id
theorem zf{a b:Bool}{p:Prop}(h:a=b)(q:a≠b:=by decide):p:=absurd h q
namespace L2
open PySem PySem.Spec PyProof.Rows
abbrev Key:=Sum Int Str
noncomputable def ED:Key->Value->Bool
 |.inl k,v=>Value.isInt k v
 |.inr x,v=>Value.isStrOf x v
noncomputable def R7(w:World):Key->Int
 |.inl k=>hashInt k
 |.inr x=>hashStr w x
def dc:∀{k:Key}{v:Value},ED k v=true->(∃i t,k=Sum.inl i/\v=Value.int i t)\/(∃x t,k=Sum.inr x/\v=Value.str x t)
 |.inl i,v,h=>by
  obtain⟨t,e⟩:=Value.isInt_shape (k:=i) (v:=v) h;exact .inl ⟨i,t,rfl,e⟩
 |.inr x,v,h=>by
  obtain⟨t,e⟩:=Value.isStrOf_shape (x:=x) (v:=v) h;exact .inr ⟨x,t,rfl,e⟩
def IQ(a b:Int):decide ((Sum.inl a:Key)=Sum.inl b)=(a==b):=by
 by_cases e:a=b
 .subst e;simp
 .have h:¬ (Sum.inl a:Key)=Sum.inl b:=λq=>e (Sum.inl.inj q);rw[Xr h];exact(beq_eq_false_iff_ne.mpr e).symm
def IS(a b:Str):decide ((Sum.inr a:Key)=Sum.inr b)=decide (a=b):=by
 by_cases e:a=b
 .subst e;simp
 .have h:¬ (Sum.inr a:Key)=Sum.inr b:=λq=>e (Sum.inr.inj q);rw[Xr h,Xr e]
def IT(a:Int)(b:Str):decide ((Sum.inl a:Key)=Sum.inr b)=false:=Xr (λq=>nomatch q)
def IU(a:Str)(b:Int):decide ((Sum.inr a:Key)=Sum.inl b)=false:=Xr (λq=>nomatch q)
noncomputable def qG(prog:Program)(w:World):PySem.KeyKind prog w Key where
 is:=ED
 hash:=R7 w
 inj:=λv a b g f=>by
  rcases dc g with ⟨i,t,rfl,rfl⟩|⟨x,t,rfl,rfl⟩
  .rcases dc f with ⟨j,u,rfl,e⟩|⟨y,u,rfl,e⟩
   .injection e with c _;rw[c]
   .exact nomatch e
  .rcases dc f with ⟨j,u,rfl,e⟩|⟨y,u,rfl,e⟩
   .exact nomatch e
   .injection e with c _;rw[c]
 byValue:=λk v h=>by
  rcases dc h with ⟨i,t,rfl,rfl⟩|⟨x,t,rfl,rfl⟩<;>rfl
 pyHash:=λd h=>by
  rcases dc d with ⟨i,t,rfl,rfl⟩|⟨x,t,rfl,rfl⟩
  .exact wpAny_pyHash_int h
  .exact wpAny_pyHash_str h
 eqBool:=λl d h=>by
  rcases dc l with ⟨i,t,rfl,rfl⟩|⟨x,t,rfl,rfl⟩
  .rcases dc d with ⟨j,u,rfl,rfl⟩|⟨y,u,rfl,rfl⟩
   .rw[IQ]at h;exact wpAny_eqBool_int h
   .rw[IT]at h;exact SeqAt.EqAt.int_str i t y u _ _ _ _ h
  .rcases dc d with ⟨j,u,rfl,rfl⟩|⟨y,u,rfl,rfl⟩
   .rw[IU]at h;exact SeqAt.EqAt.str_int x t j u _ _ _ _ h
   .rw[IS]at h;exact wpAny_eqBool_str h
 «strs»:=λk x t v h=>by
  rcases dc h with ⟨i,u,rfl,e⟩|⟨y,u,rfl,e⟩
  .exact nomatch e
  .injection e with c _
   subst c;cases v<;>rfl
inductive V where
 |bG|bl (b:Bool)|int (i:Int)|str (x:Str)|AB (b:Array UInt8)|wZ (b:UInt64)|ref (a:Addr)|ty (n:String)
 deriving DecidableEq
def RelV:V->Value->Prop
 |.bG,u=>u=Value.none
 |.bl b,u=>u=Value.bool b
 |.int i,u=>∃t,u=Value.int i t
 |.str x,u=>∃t,u=Value.str x t
 |.AB b,u=>∃t,u=Value.bytes b t
 |.wZ b,u=>∃t,u=Value.float b t
 |.ref a,u=>u=Value.ref a
 |.ty n,u=>u=Value.type n
abbrev Vals:List V->List Value->Prop:=Paired RelV
theorem Vals.length{xs:List V}{us:List Value}(r:Vals xs us):xs.length=us.length:=Paired.length r
theorem Vals.get:∀{xs:List V}{us:List Value}{i:Nat}{x:V},Vals xs us->xs[i]?=some x->∃u,us[i]?=some u/\RelV x u
 |_,_,_,_,.nil,e=>by simp at e
 |_,_,0,_,.cons r _,e=>by simp at e;subst e;exact⟨_,rfl,r⟩
 |_,_,i+1,x,.cons _ t,e=>by
  obtain⟨u,a,b⟩:=Vals.get (i:=i) (x:=x) t (by simpa using e);exact⟨u,by simpa using a,b⟩
theorem Vals.append:∀{xs ys:List V}{us ws:List Value},Vals xs us->Vals ys ws->Vals (xs++ys) (us++ws)
 |_,_,_,_,.nil,s=>s
 |_,_,_,_,.cons r t,s=>.cons r (Vals.append t s)
theorem Vals.take:∀{xs:List V}{us:List Value}(n:Nat),Vals xs us->Vals (xs.take n) (us.take n)
 |_,_,0,_=>.nil
 |_,_,_+1,.nil=>.nil
 |_,_,n+1,.cons r t=>.cons r (Vals.take n t)
theorem Vals.drop:∀{xs:List V}{us:List Value}(n:Nat),Vals xs us->Vals (xs.drop n) (us.drop n)
 |_,_,0,r=>r
 |_,_,_+1,.nil=>.nil
 |_,_,n+1,.cons _ t=>Vals.drop n t
def CN:Option V->Option Value->Prop
 |some v,some u=>RelV v u
 |none,none=>True
 |_,_=>False
def KV{κ:Type}:List (κ×V)->List (κ×Value)->Prop:=Paired λ(p:κ×V) (q:κ×Value)=>p.1=q.1/\RelV p.2 q.2
noncomputable def kV:Key->V
 |.inl i=>.int i
 |.inr x=>.str x
inductive HO where
 |lst (xs:List V)
 |tup (xs:List V)
 |dK (kvs:List (Key×V))|dT (kvs:List (List Key×V))
 |set (S:Int->Bool) (n:Nat)
 |ins (C dx:Addr) (fs:List (Str×V))
 |own (x:Addr)
 |xd (fs:List (Str×V))
 |met (f x:Addr)
 |gp (lo hi:Int)
 |bT (o:Obj) (u:HO)
 |ua (ps:Array Value)
 |ext (φ:Heap->Prop)
abbrev Hp:=Addr->Option HO
noncomputable def upd(H:Hp)(a:Addr)(o:HO):Hp:=λb=>if b=a then some o else H b
def gI{H:Hp}{a:Addr}{o:HO}:upd H a o a=some o:=by unfold upd;rw[IC rfl]
def bH{H:Hp}{a b:Addr}{o:HO}(h:b≠a):upd H a o b=H b:=by unfold upd;rw[T8 h]
def pM{H:Hp}{a b:Addr}{o u:HO}(h:H a=some o)(h':H b=some u)(d:o≠u):a≠b:=by
 intro e;subst e;rw[h]at h';exact d (M6 h')
def cg{H:Hp}{a b:Addr}{o:HO}(h:H a=some o)(h':H b=none):a≠b:=by
 intro e;subst e;rw[h]at h';cases h'
section
variable(P:Program)(w:World)
def dG(H:Hp)(h:Heap)(a:Addr):HO->Prop
 |.lst c=>c.length<=sizeLine/\∃(its:List Value) (n:Nat),Vals c its/\h.get? a=some { cls:=.type "list",data:=.seq its.toArray n }
 |.tup c=>c.length<=sizeLine/\∃its:List Value,Vals c its/\IsTup h a its.toArray
 |.dK b=>b.length<=sizeLine/\(a==sysModules)=false/\∃vs,KV b vs/\h.DictOf (qG P w) a vs
 |.dT b=>b.length<=sizeLine/\(a==sysModules)=false/\∃c:List (List Key×Addr×Value),
   Paired (λ(p:List Key×V) (q:List Key×Addr×Value)=>p.1=q.1/\H q.2.1=some (.tup (p.1.map kV))/\RelV p.2 q.2.2) b c/\
   ∃o es ep,h.get? a=some o/\o.ExactDict/\o.data=.dict es ep/\es.toList=c.map (entryOfKey (tupleKind (qG P w)))/\(c.map (·.1)).Nodup
 |.set S n=>h.SetOf (intKind P w) a S n
 |.ins C d fs=>H d=some (.own a)/\fs.length<=1000/\d≠a/\h.get? a=some (PySem.W.instObj C d)/\
   ∃mA,h.Ns1 d mA/\(∀f,CN (fs.lookup f) (mA f))/\PySem.Within mA (fs.map (·.1))
 |.own _=>∃o,h.get? a=some o
 |.xd fs=>∃mA,h.Ns1 a mA/\∀f,CN (fs.lookup f) (mA f)
 |.gp e g=>∃t u v,h.get? a=some { cls:=.type "range",data:=.fields #[.int e t,.int g u,.int 1 v]}
 |.bT o u=>h.get? a=some o/\dG H h a u
 |.ua ps=>h.get? a=some { cls:=.none,data:=.fields ps }
 |.met f x=>h.get? a=some (PySem.W.methodObj (.ref f) (.ref x))
 |.ext φ=>φ h/\(∃o,h.get? a=some o)/\∀h1 h2:Heap,φ h1->(∀o,h1.get? a=some o->h2.get? a=some o)->φ h2
def fM(H:Hp)(h:Heap):Prop:=∀a o,H a=some o->dG P w H h a o
end
section
variable{P:Program}{w:World}{H H':Hp}{h h':Heap}{a:Addr}{o:HO}
theorem dG.lt(x:dG P w H h a o):a<h.objs.size:=by
 cases o with
 |lst c=>obtain⟨_,_,_,_,e⟩:=x;exact VS e
 |tup c=>obtain⟨_,_,_,p⟩:=x;exact p.lt
 |dK b=>obtain⟨_,_,_,_,o,_,_,e,_⟩:=x;exact VS e
 |dT b=>obtain⟨_,_,_,_,o,_,_,e,_⟩:=x;exact VS e
 |set S n=>obtain⟨o,_,_,_,e,_⟩:=x;exact VS e
 |ins C d fs=>obtain⟨_,_,_,e,_⟩:=x;exact VS e
 |own y=>obtain⟨_,e⟩:=x;exact VS e
 |xd fs=>obtain⟨_,⟨_,_,_,e,_⟩,_⟩:=x;exact VS e
 |gp g i=>obtain⟨_,_,_,e⟩:=x;exact VS e
 |bT j u=>obtain⟨e,_⟩:=x;exact VS e
 |ua ps=>exact VS (show h.get? a=some _ from x)
 |met f y=>exact VS (show h.get? a=some _ from x)
 |ext φ=>obtain⟨_,⟨_,e⟩,_⟩:=x;exact VS e
theorem Paired.IV{α β:Type}{F G:α->β->Prop}:∀{l₁:List α}{l₂:List β},Paired F l₁ l₂->(∀a b,F a b->G a b)->Paired G l₁ l₂
 |_,_,.nil,_=>.nil
 |_,_,.cons r t,f=>.cons (f _ _ r) (Paired.IV t f)
def dG.stay(x:dG P w H h a o)(k:∀b u,(b=a\/H b=some (.own a))->h.get? b=some u->h'.get? b=some u)
  (ho:∀b,H b=some (.own a)->H' b=some (.own a)) (ht:∀b xs,H b=some (.tup xs)->H' b=some (.tup xs)):dG P w H' h' a o:=by
 induction o with
 |lst xs=>obtain⟨z,l,n,r,e⟩:=x;exact⟨z,l,n,r,k _ _ (.inl rfl) e⟩
 |tup xs=>obtain⟨z,l,r,g,e,c⟩:=x;exact⟨z,l,r,g,k _ _ (.inl rfl) e,c⟩
 |dK A=>obtain⟨z,y,I,r,g,i,j,e,c⟩:=x;exact⟨z,y,I,r,g,i,j,k _ _ (.inl rfl) e,c⟩
 |dT A=>
  obtain⟨z,y,xs,r,g,i,j,e,c⟩:=x;exact⟨z,y,xs,Paired.IV r λp q z=>⟨z.1,ht _ _ z.2.1,z.2.2⟩,g,i,j,k _ _ (.inl rfl) e,c⟩
 |set S n=>obtain⟨g,i,j,t,e,c⟩:=x;exact⟨g,i,j,t,k _ _ (.inl rfl) e,c⟩
 |ins C M fs=>
  obtain⟨d,z,J,e,B,⟨F,i,j,K,c⟩,r⟩:=x;exact⟨ho _ d,z,J,k _ _ (.inl rfl) e,B,⟨F,i,j,k _ _ (.inr d) K,c⟩,r⟩
 |own y=>obtain⟨g,e⟩:=x;exact⟨g,k _ _ (.inl rfl) e⟩
 |xd fs=>obtain⟨B,⟨F,i,j,e,c⟩,r⟩:=x;exact⟨B,⟨F,i,j,k _ _ (.inl rfl) e,c⟩,r⟩
 |gp N Q=>obtain⟨t,u,v,e⟩:=x;exact⟨t,u,v,k _ _ (.inl rfl) e⟩
 |bT g u L=>obtain⟨e,q⟩:=x;exact⟨k _ _ (.inl rfl) e,L q⟩
 |ua ps=>
  have e:h.get? a=some { cls:=.none,data:=.fields ps }:=x;show h'.get? a=some { cls:=.none,data:=.fields ps };exact k a _ (.inl rfl) e
 |met f y=>
  have e:h.get? a=some (PySem.W.methodObj (.ref f) (.ref y)):=x;show h'.get? a=some (PySem.W.methodObj (.ref f) (.ref y));exact k a _ (.inl rfl) e
 |ext φ=>obtain⟨p,⟨o,e⟩,G⟩:=x;exact⟨G _ _ p λo q=>k _ _ (.inl rfl) q,⟨o,k _ _ (.inl rfl) e⟩,G⟩
theorem fM.lt(x:fM P w H h)(e:H a=some o):a<h.objs.size:=(x a o e).lt
def fM.fresh(x:fM P w H h)(e:h.objs.size<=a):H a=none:=by
 cases q:H a with
 |none=>rfl
 |some u=>exact absurd (Q5 (x.lt q) e) (XS _)
def fM.kept(x:fM P w H h)(k:∀b u,h.get? b=some u->h'.get? b=some u):fM P w H h':=λa o e=>
 (x a o e).stay (λb u _ q=>k b u q) (λ_ q=>q) λ_ _ q=>q
def fM.laid(x:fM P w H h)(k:∀b u,h.get? b=some u->h'.get? b=some u)(hp:h.objs.size<=a)(new:dG P w (upd H a o) h' a o):fM P w (upd H a o) h':=λb u e=>by
 have d:=x.fresh hp;by_cases f:b=a
 .subst f;rw[gI]at e;cases e;exact new
 .rw[bH f]at e;exact(x b u e).stay (λc v _ q=>k c v q) (λc q=>by rw[bH (cg q d)];exact q) λc g q=>by rw[bH (cg q d)];exact q
end
def Rd(H:Hp)(a:Addr)(u:HO):Prop:=H a=some u\/∃o,H a=some (.bT o u)
def Rd.ok{P:Program}{w:World}{H:Hp}{h:Heap}{a:Addr}{u:HO}(r:Rd H a u)(x:fM P w H h):dG P w H h a u:=by
 rcases r with r|⟨o,r⟩
 .exact x a u r
 .obtain⟨_,q⟩:=x a _ r;exact q
def EE:Option HO->Prop
 |some (.lst _)=>True
 |some (.dK _)=>True
 |some (.dT _)=>True
 |some (.set _ _)=>True
 |some (.ins _ _ _)=>True
 |some (.ext _)=>True
 |_=>False
section
variable{P:Program}{w:World}{H:Hp}{h h':Heap}{x e:Addr}{o':HO}
def fM.write(ok:fM P w H h)(mu:EE (H x))(he:e=x\/H e=some (.own x))(k:∀b u,b≠e->h.get? b=some u->h'.get? b=some u)(w9:∃u,h'.get? e=some u)
  (new:dG P w (upd H x o') h' x o'):fM P w (upd H x o') h':=λb u q=>by
 have IW:∀c y,H c=some (.own y)->c≠x:=λc y r z=>by subst z;rw[r]at mu;exact mu
 have R8:∀c a,H c=some (.tup a)->c≠x:=λc a r z=>by subst z;rw[r]at mu;exact mu
 by_cases d:b=x
 .subst d;rw[gI]at q;cases q;exact new
 .rw[bH d]at q;by_cases f:b=e
  .have i:H b=some (.own x):=by
    rcases he with z|z
    .exact absurd (f.trans z) d
    .rw[f];exact z
   rw[q]at i;cases i;obtain⟨v,j⟩:=w9;exact⟨v,by rw[f];exact j⟩
  .refine(ok b u q).stay (λc v g r=>k c v ?_ r) (λc r=>by rw[bH (IW c b r)];exact r) λc a r=>by rw[bH (R8 c a r)];exact r
   rcases g with rfl|g
   .exact f
   .rintro rfl;rcases he with z|z
    .exact IW c b g z
    .rw[g]at z;cases z;exact d rfl
end
structure Un(fs ex:List Addr)(H H':Hp)(h h':Heap):Prop where
 keep:∀b o,h.get? b=some o->H b=none->b∉fs->b∉ex->h'.get? b=some o
 slot:∀b o,h.get? b=some o->H b=none->b∈fs->b∉ex->∃sl,h'.get? b=some { o with slots:=sl }
 free:∀b o,h.get? b=some o->H b=none->b∉ex->H' b=none
 there:∀b o,h.get? b=some o->b∉ex->∃o',h'.get? b=some o'
 tups:∀b xs,H b=some (.tup xs)->H' b=some (.tup xs)
 kT:∀b o u,H b=some (.bT o u)->H' b=some (.bT o u)
 mw:∀b ps,H b=some (.ua ps)->∃more,H' b=some (.ua (ps++more))
section
variable{fs ex:List Addr}{H H1:Hp}{h h1 h':Heap}{a x e:Addr}{o:HO}
def Un.any(u:Un fs ex H H1 h h1){b:Addr}{ob:Obj}(q:h.get? b=some ob)(n:H b=none)(hx:b∉ex):∃sl,h1.get? b=some { ob with slots:=sl }:=by
 by_cases c:b∈fs
 .exact u.slot b ob q n c hx
 .exact⟨ob.slots,u.keep b ob q n c hx⟩
def Un.kept(k:∀b u,h.get? b=some u->h'.get? b=some u):Un fs ex H H h h':=
 ⟨λb c q _ _ _=>k b c q,λb c q _ _ _=>⟨c.slots,k b c q⟩,λ_ _ _ n _=>n,λb c q _=>⟨c,k b c q⟩,λ_ _ q=>q,λ_ _ _ q=>q,λ_ ps q=>⟨#[],by rw[q];simp⟩⟩
def Un.refl:Un fs ex H H h h:=Un.kept λ_ _ q=>q
def Un.laid(k:∀b u,h.get? b=some u->h'.get? b=some u)(hp:h.objs.size<=a)(hn:H a=none):Un fs ex H (upd H a o) h h' where
 keep:=λb u q _ _ _=>k b u q
 slot:=λb u q _ _ _=>⟨u.slots,k b u q⟩
 free:=λb u q n _=>by rw[bH (XJ (Q5 (VS q) hp))];exact n
 there:=λb u q _=>⟨u,k b u q⟩
 tups:=λb c q=>by rw[bH (cg q hn)];exact q
 kT:=λb u c q=>by rw[bH (cg q hn)];exact q
 mw:=λb ps q=>⟨#[],by rw[bH (cg q hn),q];simp⟩
def Un.write(mu:EE (H x))(he:e=x\/H e=some (.own x))(k:∀b u,b≠e->h.get? b=some u->h'.get? b=some u)(w9:∃u,h'.get? e=some u):Un fs ex H (upd H x o) h h':=by
 have d:∀b,H b=none->b≠x:=λb n z=>by subst z;rw[n]at mu;exact mu
 have f:∀b,H b=none->b≠e:=λb n z=>by
  subst z;rcases he with r|r
  .exact d b n r
  .rw[n]at r;cases r
 have c:∀b u,H b=some u->¬ EE (some u)->b≠x:=λb u q i z=>by subst z;rw[q]at mu;exact i mu
 refine⟨λb u q n _ _=>k b u (f b n) q,λb u q n _ _=>⟨u.slots,k b u (f b n) q⟩,λb u q n _=>by rw[bH (d b n)];exact n,λb u q _=>?_,
  λb j q=>by rw[bH (c b _ q λz=>z)];exact q,λb u j q=>by rw[bH (c b _ q λz=>z)];exact q,λb ps q=>⟨#[],by rw[bH (c b _ q λz=>z),q];simp⟩⟩
 by_cases g:b=e
 .subst g;exact w9
 .exact⟨u,k b u g q⟩
end
noncomputable def EF(h:Heap)(H:Hp):List Addr:=(List.range h.objs.size).filter λa=>(H a).isSome
noncomputable def kU(h:Heap)(H:Hp):Heap:=PySem.W.hideAll h (EF h H)
def AD(h:Heap)(H:Hp):(kU h H).objs.size=h.objs.size:=PySem.W.hideAll_size _ _
def CO{h:Heap}{H:Hp}{b:Addr}{o:Obj}(e:h.get? b=some o)(n:H b=none):(kU h H).get? b=some o:=
 PySem.W.hideAll_get _ e λa=>by
  have q:(H b).isSome=true:=(List.mem_filter.mp a).2;rw[n]at q;simp at q
def Gk{h:Heap}{H:Hp}{b:Addr}{o:Obj}(e:(kU h H).get? b=some o):h.get? b=some o/\H b=none:=by
 have a:h.get? b=some o:=PySem.W.of_hideAll (EF h H) e;refine⟨a,?_⟩;cases q:H b with
 |none=>rfl
 |some x=>
  have c:b∈EF h H:=List.mem_filter.mpr ⟨List.mem_range.mpr (VS a),by simp[q]⟩;have z:(kU h H).get? b=none:=PySem.W.hideAll_none (EF h H) c;rw[z]at e;cases e
noncomputable def Gm(g h:Heap)(L:Addr):List (Addr×Obj):=(List.range h.objs.size).filterMap λa=>if a=L\/(g.get? a).isSome=true then none else (h.get? a).map λo=>(a,o)
noncomputable def rest(g h:Heap)(L d:Addr):List (Addr×Obj):=(Gm g h L).filter λp=>decide (p.1≠d)
structure Mod(K:PySem.W.Frag)(mg:Str->Option Value)(base:Heap):Prop where
 AE:K.In base
 glob:base.Ns mainGlobals mg
 blt:∃mb,base.Ns builtinsNs mb/\∀x:Str,x≠"__name__" ->mb x=bootBuiltins x
 nolimit:base.NoLimit
structure Cx where
 prog:Program
 w:World
 K:PySem.W.Frag
 mg:Str->Option Value
 base:Heap
 A:Around
 N:List Str
 s₀:Shared
 H₀:Hp
 env:Env
 outer:List Env
 stack:List Env
 ex:List Addr
 fn:Str->Bool
 calm:Bool
 pn:List (Addr×Obj)
 xe:Value->Shared->Prop
noncomputable def frs(l:List Env):List Addr:=l.filterMap (·.frame)
noncomputable abbrev Cx.fs(X:Cx):List Addr:=frs X.outer
def AF(sc:Scope)(x:Str):Prop:=sc.names.lookup x=some .local\/sc.names.lookup x=some .cell\/sc.names.lookup x=some .free
def Loc(sc:Scope)(x:Str):Prop:=sc.names.lookup x=some .local\/sc.names.lookup x=some .cell
def Look(env:Env)(h:Heap)(m:Str->Option Value)(x:Str)(u:Value):Prop:=
 (env.kindOf x=some .local/\m x=some u)\/((env.kindOf x=some .cell\/env.kindOf x=some .free)/\∃c,env.cells.lookup x=some c/\h.IsCell c (some u))
structure Cx.Ok(X:Cx):Prop where
 mod:Mod X.K X.mg X.base
 kind:X.env.scope.kind=.function
 glob:X.env.globals=mainGlobals
 blt:X.env.builtins=builtinsNs
 above:X.s₀.heap.objs.size<=X.env.locals
 inj:∀x y c,X.env.cells.lookup x=some c->X.env.cells.lookup y=some c->x=y
 has:∀x,(X.env.kindOf x=some .cell\/X.env.kindOf x=some .free)->∃c,X.env.cells.lookup x=some c
 xg:∀x c,X.fn x=true->X.env.cells.lookup x=some c->X.s₀.heap.objs.size<=c
 hd:X.calm=true->X.A.handled=none
 frames:X.A.frames=some X.stack
 stk:X.stack=X.outer\/(X.stack=X.env :: X.outer/\X.env.frame=some X.env.locals)
 EG:∀b∈X.ex,b≠X.env.locals/\∀x c,X.env.cells.lookup x=some c->c≠b
 bs:∀b o,X.base.get? b=some o->X.s₀.heap.get? b=some o/\X.H₀ b=none
 rP:X.base.objs.size<=X.s₀.heap.objs.size
 qH:∀b o,X.base.get? b=some o->b∉X.ex
 qI:∀b∈X.ex,b∉X.fs
 jn:X.s₀.heap.FunFrames X.base X.outer
 ue:∀b∈X.fs,X.H₀ b=none
structure Inv(X:Cx)(pins:List (Addr×Obj))(σ:List (Option V))(H:Hp)(s:Shared):Prop where
 ok:X.Ok
 os:s.os=X.s₀.os
 bare:AllBare s.gens
 base:Un X.fs X.ex X.H₀ H X.s₀.heap s.heap
 loc:∃m,s.heap.Ns X.env.locals m/\∀(i:Nat) (x:Str) (v:V),X.N[i]?=some x->σ[i]?=some (some v)->AF X.env.scope x->∃u,RelV v u/\Look X.env s.heap m x u
 cell:∀x c,X.env.cells.lookup x=some c->∃v,s.heap.IsCell c v
 free:H X.env.locals=none
 iU:∀x c,X.env.cells.lookup x=some c->H c=none
 pin:∀p∈X.pn++pins,s.heap.get? p.1=some p.2/\H p.1=none/\p.1≠X.env.locals/\p.1∉X.fs/\∀v,p.2.data≠.cell v
 hok:fM X.prog X.w H s.heap
 len:σ.length=X.N.length
section
variable{X:Cx}{pins:List (Addr×Obj)}{σ:List (Option V)}{H H':Hp}{s:Shared}{h':Heap}
def Cx.Ok.R9(ok:X.Ok){b:Addr}{o:Obj}(e:X.base.get? b=some o):b∉X.fs:=λa=>by
 have:=(ok.jn.mem a).1;rw[e]at this;cases this
theorem Inv.bs(I:Inv X pins σ H s):∀b o,X.base.get? b=some o->s.heap.get? b=some o/\H b=none:=λb o e=>
 ⟨I.base.keep b o (I.ok.bs b o e).1 (I.ok.bs b o e).2 (I.ok.R9 e) (I.ok.qH b o e),I.base.free b o (I.ok.bs b o e).1 (I.ok.bs b o e).2 (I.ok.qH b o e)⟩
def Inv.bk(I:Inv X pins σ H s):∀b o,X.base.get? b=some o->s.heap.get? b=some o:=λb o e=>(I.bs b o e).1
theorem Inv.mod(I:Inv X pins σ H s):Mod X.K X.mg X.base:=I.ok.mod
def Inv.fR(I:Inv X pins σ H s):X.K.In s.heap:=I.ok.mod.AE.keeps I.bk
theorem Inv.lt(I:Inv X pins σ H s):X.env.locals<s.heap.objs.size:=let ⟨_,hn,_⟩:=I.loc;hn.lt
def Inv.sz(I:Inv X pins σ H s):X.s₀.heap.objs.size<=s.heap.objs.size:=Xm I.ok.above (aar I.lt)
def Inv.Sa(I:Inv X pins σ H s){a:Addr}(h:s.heap.objs.size<=a):a∉X.fs:=λb=>by
 obtain⟨_,o,c,_⟩:=I.ok.jn.mem b;exact absurd (Q5 (VS c) (Xm I.sz h)) (XS _)
def Inv.uf(I:Inv X pins σ H s):∀x c,X.env.cells.lookup x=some c->c≠X.env.locals:=λx c e z=>by
 obtain⟨v,o,d,f⟩:=I.cell x c e;obtain⟨m,⟨g,h,i,a,b,_⟩,_⟩:=I.loc;rw[z,a]at d;cases d;rw[b]at f;cases f
theorem Inv.jn(I:Inv X pins σ H s):s.heap.FunFrames X.base X.outer:=by
 have all:∀(l:List Env),(∀b∈frs l,b∈X.fs)->X.s₀.heap.FunFrames X.base l->s.heap.FunFrames X.base l:=by
  intro l;induction l with
  |nil=>intro _ _;trivial
  |cons g r h=>
   intro f i;obtain⟨j,⟨L,o,a,k,p,q⟩,x⟩:=i;have c:L∈X.fs:=f L (by unfold frs;rw[Yq,a];exact X5);obtain⟨y,e⟩:=I.base.slot L o p (I.ok.ue L c) c λz=>I.ok.qI L z c;exact⟨j,⟨L,_,a,k,e,q⟩,h (λb d=>f b (by unfold frs;rw[Yq,a];exact Xy _ d)) x⟩
 exact all X.outer (λ_ d=>d) I.ok.jn
theorem Inv.stack(I:Inv X pins σ H s):s.heap.FunFrames X.base X.stack:=by
 rcases I.ok.stk with e|⟨e,a⟩
 .rw[e];exact I.jn
 .rw[e];obtain⟨m,b,_⟩:=I.loc;refine .cons (by rw[I.ok.kind];decide) a b ?_ I.jn;exact Heap.get?_none_of_le (Xm I.ok.rP I.ok.above)
def Inv.ug(I:Inv X pins σ H s):∀b∈frs X.stack,b∈X.env.locals :: X.fs:=λb a=>by
 rcases I.ok.stk with e|⟨e,c⟩
 .rw[e]at a;exact Xy _ a
 .rw[e]at a;unfold frs at a;rw[Yq,c]at a;exact a
def Inv.xj(I:Inv X pins σ H s):∀b∈frs X.stack,H b=none:=λb a=>by
 rcases List.mem_cons.mp (I.ug b a)with e|a
 .rw[e];exact I.free
 .obtain⟨_,o,c,_⟩:=I.ok.jn.mem a;exact I.base.free b o c (I.ok.ue b a) λz=>I.ok.qI b z a
def Inv.step{g':Array GenState}{t':Nat}{d':Drawn}{ch:List Addr}(I:Inv X pins σ H s)
  (hch:∀b∈ch,(b∈X.ex\/X.s₀.heap.objs.size<=b)/\b≠X.env.locals/\(∀x c,X.env.cells.lookup x=some c->c≠b)/\∀p∈X.pn++pins,p.1≠b)
  (keep:∀b o,b≠X.env.locals->b∉X.fs->b∉ch->s.heap.get? b=some o->H b=none->h'.get? b=some o)
  (slot:∀b o,b≠X.env.locals->b∈X.fs->b∉ch->s.heap.get? b=some o->H b=none->∃sl,h'.get? b=some { o with slots:=sl }) (free:∀b o,b∉ch->s.heap.get? b=some o->H b=none->H' b=none)
  (there:∀b o,b∉ch->s.heap.get? b=some o->∃o',h'.get? b=some o')
  (tups:∀b xs,H b=some (.tup xs)->H' b=some (.tup xs)) (kT:∀b o u,H b=some (.bT o u)->H' b=some (.bT o u)) (mw:∀b ps,H b=some (.ua ps)->∃more,H' b=some (.ua (ps++more)))
  (ns:∀m,s.heap.Ns X.env.locals m->h'.Ns X.env.locals m) (hok:fM X.prog X.w H' h') (hg:AllBare g') :
  Inv X pins σ H' { s with heap:=h',gens:=g',drawn:=d',toks:=t' }:=by
 have Qs:∀b o,X.s₀.heap.get? b=some o->b≠X.env.locals:=λb o e=>XJ (Q5 (VS e) I.ok.above);have EH:∀b o,X.s₀.heap.get? b=some o->b∉X.ex->b∉ch:=λb o e a h=>by
  rcases(hch b h).1 with z|z
  .exact a z
  .exact absurd (Q5 (VS e) z) (XS _)
 have f:∀x c,X.env.cells.lookup x=some c->∀v,s.heap.IsCell c v->h'.IsCell c v:=λx c e v ⟨o,j,A⟩=>by
  have AG:c∉ch:=λz=>(hch c z).2.2.1 x c e rfl;by_cases B:c∈X.fs
  .obtain⟨sl,q⟩:=slot c o (I.uf x c e) B AG j (I.iU x c e);exact⟨_,q,A⟩
  .exact⟨o,keep c o (I.uf x c e) B AG j (I.iU x c e),A⟩
 refine⟨I.ok,I.os,hg,⟨λb o e n h a=>?_,λb o e n h a=>?_,λb o e n a=>?_,λb o e a=>?_,λb xs e=>tups b xs (I.base.tups b xs e),λb o xs e=>kT b o xs (I.base.kT b o xs e),λb ps e=>?_⟩,?_,λx c e=>?_,?_,λx c e=>?_,λp C=>?_,hok,I.len⟩
 .exact keep b o (Qs b o e) h (EH b o e a) (I.base.keep b o e n h a) (I.base.free b o e n a)
 .obtain⟨sl,g⟩:=I.base.slot b o e n h a;obtain⟨T9,y⟩:=slot b _ (Qs b o e) h (EH b o e a) g (I.base.free b o e n a);exact⟨T9,y⟩
 .obtain⟨o',g⟩:=I.base.there b o e a;exact free b o' (EH b o e a) g (I.base.free b o e n a)
 .obtain⟨o',g⟩:=I.base.there b o e a;exact there b o' (EH b o e a) g
 .obtain⟨J,g⟩:=I.base.mw b ps e;obtain⟨K,y⟩:=mw b _ g;exact⟨J++K,by rw[y,Array.append_assoc]⟩
 .obtain⟨m,L,M⟩:=I.loc;refine⟨m,ns m L,λi x v g y N=>?_⟩;obtain⟨u,r,l⟩:=M i x v g y N;refine⟨u,r,?_⟩;rcases l with l|⟨k,c,e,z⟩
  .exact .inl l
  .exact .inr ⟨k,c,e,f x c e _ z⟩
 .obtain⟨v,z⟩:=I.cell x c e;exact⟨v,f x c e v z⟩
 .obtain⟨m,⟨o,_,_,j,_⟩,_⟩:=I.loc;exact free _ o (λz=>(hch _ z).2.1 rfl) j I.free
 .obtain⟨v,o,j,A⟩:=I.cell x c e;exact free c o (λz=>(hch c z).2.2.1 x c e rfl) j (I.iU x c e)
 .obtain⟨e,n,F,G,d⟩:=I.pin p C;have AG:p.1∉ch:=λz=>(hch p.1 z).2.2.2 p C rfl;exact⟨keep p.1 p.2 F G AG e n,free p.1 p.2 AG e n,F,G,d⟩
def Inv.un{t':Nat}(I:Inv X pins σ H s)(u:Un X.fs [] H H' s.heap h')(hok:fM X.prog X.w H' h'):Inv X pins σ H' { s with heap:=h',toks:=t' }:=by
 obtain⟨m,⟨o,j,k,f,r⟩,_⟩:=id I.loc;obtain⟨l,g⟩:=u.any f I.free (by simp);exact I.step (g':=s.gens) (d':=s.drawn) (ch:=[]) (λ_ z=>nomatch z) (λb o _ c _ e n=>u.keep b o e n c (by simp)) (λb o _ c _ e n=>u.slot b o e n c (by simp)) (λb o _ e n=>u.free b o e n (by simp)) (λb o _ e=>u.there b o e (by simp)) u.tups u.kT u.mw (λp h=>by
  obtain⟨q,d,IX,a,i⟩:=h;rw[f]at a;cases a;exact⟨_,d,IX,g,i⟩) hok I.bare
def Inv.call{g':Array GenState}{t':Nat}{d':Drawn}{ch:List Addr}(I:Inv X pins σ H s)(u:Un (frs X.stack) ch H H' s.heap h')(hok:fM X.prog X.w H' h')(hg:AllBare g')
  (hch:∀b∈ch,(b∈X.ex\/X.s₀.heap.objs.size<=b)/\b≠X.env.locals/\(∀x c,X.env.cells.lookup x=some c->c≠b)/\∀p∈X.pn++pins,p.1≠b) :
  Inv X pins σ H' { s with heap:=h',gens:=g',drawn:=d',toks:=t' }:=by
 obtain⟨m,⟨o,l,q,h,r⟩,_⟩:=id I.loc;obtain⟨y,f⟩:=u.any h I.free λz=>(hch _ z).2.1 rfl;exact I.step (ch:=ch) hch (λb o f i a e n=>u.keep b o e n (λz=>(List.mem_cons.mp (I.ug b z)).elim f i) a) (λb o _ _ a e n=>u.any e n a) (λb o a e n=>u.free b o e n a) (λb o a e=>u.there b o e a) u.tups u.kT u.mw (λA j=>by
  obtain⟨B,g,IX,d,k⟩:=j;rw[h]at d;cases d;exact⟨_,g,IX,f,k⟩) hok hg
def Inv.turned{t':Nat}{it:Addr}(I:Inv X pins σ H s)(k:∀b o,b≠it->s.heap.get? b=some o->h'.get? b=some o)(hn:H it=none)(hL:it≠X.env.locals)
  (h1:it∈X.ex\/X.s₀.heap.objs.size<=it) (h2:∀x c,X.env.cells.lookup x=some c->c≠it) (h3:∀p∈X.pn++pins,p.1≠it):Inv X pins σ H { s with heap:=h',toks:=t' }:=by
 have Qt:∀b u,H b=some u->b≠it:=λb u e z=>by rw[z,hn]at e;cases e
 refine I.step (g':=s.gens) (d':=s.drawn) (ch:=[it]) (λb d=>?_) (λb o _ _ a e _=>k b o (λz=>a (by simp[z])) e) (λb o _ _ a e _=>⟨o.slots,k b o (λz=>a (by simp[z])) e⟩) (λ_ _ _ _ n=>n)
  (λb o a e=>⟨o,k b o (λz=>a (by simp[z])) e⟩) (λ_ _ e=>e) (λ_ _ _ e=>e) (λb ps e=>⟨#[],by rw[e];simp⟩) (λm f=>?_) (λb u e=>?_) I.bare
 .have e:b=it:=by simpa using d
  subst e;exact⟨h1,hL,h2,h3⟩
 .obtain⟨o,g,h,i,r⟩:=f;exact⟨o,g,h,k _ o (Yr hL) i,r⟩
 .refine(I.hok b u e).stay (λc v a q=>k c v ?_ q) (λ_ q=>q) λ_ _ q=>q;rcases a with z|z
  .rw[z];exact Qt b u e
  .exact Qt c _ z
def Inv.tok(I:Inv X pins σ H s)(t:Nat):Inv X pins σ H { s with toks:=t }:=I.un (h':=s.heap) (t':=t) Un.refl I.hok
theorem Inv.kept{t':Nat}(I:Inv X pins σ H s)(k:∀b u,s.heap.get? b=some u->h'.get? b=some u):Inv X pins σ H { s with heap:=h',toks:=t' }:=I.un (Un.kept k) (I.hok.kept k)
theorem Inv.laid{a:Addr}{o:HO}{t':Nat}(I:Inv X pins σ H s)(k:∀b u,s.heap.get? b=some u->h'.get? b=some u)(hp:s.heap.objs.size<=a)(new:dG X.prog X.w (upd H a o) h' a o) :
  Inv X pins σ (upd H a o) { s with heap:=h',toks:=t' }:=I.un (Un.laid k hp (I.hok.fresh hp)) (I.hok.laid k hp new)
theorem Inv.write{x e:Addr}{o:HO}{t':Nat}(I:Inv X pins σ H s)(mu:EE (H x))(he:e=x\/H e=some (.own x))(k:∀b u,b≠e->s.heap.get? b=some u->h'.get? b=some u)(w9:∃u,h'.get? e=some u)
  (new:dG X.prog X.w (upd H x o) h' x o):Inv X pins σ (upd H x o) { s with heap:=h',toks:=t' }:=I.un (Un.write mu he k w9) (I.hok.write mu he k w9 new)
def Inv.xm{EI:List (Addr×Obj)}(I:Inv X pins σ H s)(h:∀p∈EI,s.heap.get? p.1=some p.2/\H p.1=none/\p.1≠X.env.locals/\p.1∉X.fs/\∀v,p.2.data≠.cell v):Inv X EI σ H s:=
 ⟨I.ok,I.os,I.bare,I.base,I.loc,I.cell,I.free,I.iU,λp a=>(List.mem_append.mp a).elim (λz=>I.pin p (aaj _ z)) (h p),I.hok,I.len⟩
def uh{N:List Str}(hN:N.Nodup){i j:Nat}{x:Str}(a:N[i]?=some x)(b:N[j]?=some x):i=j:=by
 obtain⟨e,c⟩:=List.getElem?_eq_some_iff.mp a;obtain⟨f,d⟩:=List.getElem?_eq_some_iff.mp b;exact(List.getElem_inj hN).mp (c.trans d.symm)
def AH{M:Model}{A:Around}{E:Value->Shared->Prop}{i:Nat}{x:Str}{v:V}{u:Value}{Q:Unit->Shared->Prop}(I:Inv X pins σ H s)(hN:X.N.Nodup)(hi:X.N[i]?=some x)(hx:Loc X.env.scope x)(r:RelV v u)
  (h:∀s',Inv X pins (σ.set i (some v)) H s'->(∃a,Heap.SameBut a s.heap s'.heap/\(a=X.env.locals\/X.env.cells.lookup x=some a))->Q () s') (hf:X.fn x=true\/X.env.scope.names.lookup x=some .local:=by first|exact .inl rfl|exact .inr rfl|assumption):wpAny M A (storeName X.env x u) Q E s:=by
 obtain⟨m,hn,hl⟩:=id I.loc;have P:(X.env.scope.kind==.class || (X.env.scope.kind==.module&&X.env.locals != X.env.globals))=false:=by rw[I.ok.kind];rfl
 have IY:i<σ.length:=by rw[I.len];exact(List.getElem?_eq_some_iff.mp hi).1
 have uf:=I.uf;have g:∀{a:Addr} {h':Heap},(∃o,s.heap.get? a=some o/\H a=none)->Heap.SameBut a s.heap h'->fM X.prog X.w H h':=λ{a h'} ha f b ob e=>by
  obtain⟨_,_,C⟩:=ha;refine(I.hok b ob e).stay (λc w' B q=>(f.2 c ?_).trans q) (λ_ q=>q) λ_ _ q=>q;rintro rfl;rcases B with rfl|B
  .rw[C]at e;cases e
  .rw[C]at B;cases B
 rcases hx with G|G
 .refine wpAny_storeName_local G hn (λh' hn' f=>?_) P;obtain⟨oL,_,_,Ua,_⟩:=id hn;refine h _ ⟨I.ok,I.os,I.bare,⟨λb o e n J hx=>?_,λb o e n J hx=>?_,I.base.free,λb o e hx=>?_,I.base.tups,I.base.kT,I.base.mw⟩,⟨_,hn',λj y v' l F e3=>?_⟩,λy c e=>?_,I.free,I.iU,λp hp=>?_,g ⟨oL,Ua,I.free⟩ f,by simpa using I.len⟩ ⟨_,f,.inl rfl⟩
  .exact(f.2 b (XJ (Q5 (VS e) I.ok.above))).trans (I.base.keep b o e n J hx)
  .obtain⟨sl,l⟩:=I.base.slot b o e n J hx;exact⟨sl,(f.2 b (XJ (Q5 (VS e) I.ok.above))).trans l⟩
  .obtain⟨o',l⟩:=I.base.there b o e hx;exact⟨o',(f.2 b (XJ (Q5 (VS e) I.ok.above))).trans l⟩
  .by_cases K:j=i
   .subst K;rw[hi]at l;cases l;rw[Xn IY]at F;cases F;exact⟨u,r,.inl ⟨G,by simp⟩⟩
   .rw[Tz (Yr K)]at F;obtain⟨u',r',q⟩:=hl j y v' l F e3;refine⟨u',r',?_⟩;rcases q with ⟨k,e⟩|⟨k,c,e,z⟩
    .refine .inl ⟨k,?_⟩;have:y≠x:=λe=>K (uh hN l (e▸hi));simp[this,e]
    .exact .inr ⟨k,c,e,z.sameBut f (uf y c e)⟩
  .obtain⟨w',z⟩:=I.cell y c e;exact⟨w',z.sameBut f (uf y c e)⟩
  .obtain⟨e,n,ne,nf,d⟩:=I.pin p hp;exact⟨(f.2 p.1 ne).trans e,n,ne,nf,d⟩
 .have L:X.fn x=true:=by
   rcases hf with z|z
   .exact z
   .rw[z]at G;cases G
  obtain⟨c,B⟩:=I.ok.has x (.inl G);obtain⟨w',z⟩:=I.cell x c B;refine wpAny_storeName_cell I.ok.kind G B z (λh' W f=>?_);obtain⟨oc,Y,Sb⟩:=id z;refine h { s with heap:=h' } ⟨I.ok,I.os,I.bare,⟨λb o e n J hx=>?_,λb o e n J hx=>?_,I.base.free,λb o e hx=>?_,I.base.tups,I.base.kT,I.base.mw⟩,⟨m,hn.sameBut f (Yr (uf x c B)),λj y v' l F e3=>?_⟩,λy c' e=>?_,I.free,I.iU,λp hp=>?_,g ⟨oc,Y,I.iU x c B⟩ f,by simpa using I.len⟩ ⟨c,f,.inr B⟩
  .exact(f.2 b (XJ (Q5 (VS e) (I.ok.xg x c L B)))).trans (I.base.keep b o e n J hx)
  .obtain⟨sl,l⟩:=I.base.slot b o e n J hx;exact⟨sl,(f.2 b (XJ (Q5 (VS e) (I.ok.xg x c L B)))).trans l⟩
  .obtain⟨o',l⟩:=I.base.there b o e hx;exact⟨o',(f.2 b (XJ (Q5 (VS e) (I.ok.xg x c L B)))).trans l⟩
  .by_cases K:j=i
   .subst K;rw[hi]at l;cases l;rw[Xn IY]at F;cases F;exact⟨u,r,.inr ⟨.inl G,c,B,W⟩⟩
   .rw[Tz (Yr K)]at F;obtain⟨u',r',q⟩:=hl j y v' l F e3;refine⟨u',r',?_⟩;rcases q with q|⟨k,c',e,z'⟩
    .exact .inl q
    .refine .inr ⟨k,c',e,z'.sameBut f ?_⟩;rintro rfl;exact K (uh hN l (I.ok.inj _ _ _ e B▸hi))
  .by_cases Z:c'=c
   .subst Z;exact⟨_,W⟩
   .obtain⟨w2,z2⟩:=I.cell y c' e;exact⟨w2,z2.sameBut f Z⟩
  .obtain⟨e,n,ne,nf,d⟩:=I.pin p hp;refine⟨(f.2 p.1 ?_).trans e,n,ne,nf,d⟩;intro q;rw[q,Y]at e;have q':oc=p.2:=M6 e;exact d w' (by rw[<-q'];exact Sb)
def o5{M:Model}{A:Around}{E:Value->Shared->Prop}{i:Nat}{x:Str}{v:V}{u:Value}{Q:Unit->Shared->Prop}(I:Inv X pins σ H s)(hN:X.N.Nodup)(hi:X.N[i]?=some x)(hx:Loc X.env.scope x)(r:RelV v u)
  (h:∀s',Inv X pins (σ.set i (some v)) H s'->Q () s') (hf:X.fn x=true\/X.env.scope.names.lookup x=some .local:=by first|exact .inl rfl|exact .inr rfl|assumption):wpAny M A (storeName X.env x u) Q E s:=
 AH I hN hi hx r (λs' I' _=>h s' I') hf
def Inv.OT{s':Shared}{ch:List Addr}(I:Inv X pins σ H s)(ho:s'.os=s.os)(u:Un (frs X.stack) ch H H' s.heap s'.heap)(hok:fM X.prog X.w H' s'.heap)(hg:AllBare s'.gens)
  (hch:∀b∈ch,(b∈X.ex\/X.s₀.heap.objs.size<=b)/\b≠X.env.locals/\(∀x c,X.env.cells.lookup x=some c->c≠b)/\∀p∈X.pn++pins,p.1≠b):Inv X pins σ H' s':=by
 obtain⟨h',g',d',t',a⟩:=s';have e:a=s.os:=ho;subst e;exact I.call (g':=g') (t':=t') (d':=d') u hok hg hch
end
abbrev XK:=Value->Option Addr->Hp->Prop
abbrev St:=List (Option V)
abbrev VK:=V->Hp->Prop
abbrev TE:=St->Hp->VK->Prop
abbrev TT:=St->Hp->(Bool->Hp->Prop)->Prop
abbrev TA:=St->Hp->(List V->Hp->Prop)->Prop
structure Ends where
 nx:St->Hp->Prop
 rt:VK
 bk:St->Hp->Prop:=λ_ _=>False
 ct:St->Hp->Prop:=λ_ _=>False
abbrev TS:=Ends->St->Hp->Prop
def EP(X:Cx)(pins:List (Addr×Obj))(σ:St)(Q:VK)(u:Value)(s':Shared):Prop:=∃v H',Inv X pins σ H' s'/\RelV v u/\Q v H'
def TP(X:Cx)(pins:List (Addr×Obj))(σ:St)(Q:Bool->Hp->Prop)(b:Bool)(s':Shared):Prop:=∃H',Inv X pins σ H' s'/\Q b H'
def AP(X:Cx)(pins:List (Addr×Obj))(σ:St)(Q:List V->Hp->Prop)(us:List Value)(s':Shared):Prop:=∃vs H',Inv X pins σ H' s'/\Vals vs us/\Q vs H'
def SP(X:Cx)(pins:List (Addr×Obj))(D:Ends)(f:Flow)(s':Shared):Prop:=
 match f with
 |.next=>∃σ' H',Inv X pins σ' H' s'/\D.nx σ' H'
 |.brk=>∃σ' H',Inv X pins σ' H' s'/\D.bk σ' H'
 |.cont=>∃σ' H',Inv X pins σ' H' s'/\D.ct σ' H'
 |.ret u=>∃v σ' H',Inv X pins σ' H' s'/\RelV v u/\D.rt v H'
def PE(X:Cx)(e:Expr)(t:TE):Prop:=
 ∀(pins:List (Addr×Obj)) (s:Shared) (σ:St) (H:Hp) (Q:VK),Inv X pins σ H s->t σ H Q->wpAny (model X.prog X.w) X.A (eval e X.env) (EP X pins σ Q) X.xe s
def PT(X:Cx)(e:Expr)(t:TT):Prop:=
 ∀(pins:List (Addr×Obj)) (s:Shared) (σ:St) (H:Hp) (Q:Bool->Hp->Prop),Inv X pins σ H s->t σ H Q->wpAny (model X.prog X.w) X.A (isTrue e X.env (eval e X.env)) (TP X pins σ Q) X.xe s
def PW(X:Cx)(e:Expr)(t:TT):Prop:=
 ∀(whole:Sem Value) (pins:List (Addr×Obj)) (s:Shared) (σ:St) (H:Hp) (Q:Bool->Hp->Prop),Inv X pins σ H s->t σ H Q->wpAny (model X.prog X.w) X.A (isTrue e X.env whole) (TP X pins σ Q) X.xe s
def PW.pt{X:Cx}{e:Expr}{t:TT}(h:PW X e t):PT X e t:=h _
def PA(X:Cx)(es:List Expr)(t:TA):Prop:=
 ∀(pos:Pos) (pins:List (Addr×Obj)) (s:Shared) (σ:St) (H:Hp) (Q:List V->Hp->Prop),Inv X pins σ H s->t σ H Q->wpAny (model X.prog X.w) X.A (spliced (backTo pos (starEach es X.env))) (AP X pins σ Q) X.xe s
def PS(X:Cx)(st:Stmt)(t:TS):Prop:=
 ∀(pins:List (Addr×Obj)) (s:Shared) (σ:St) (H:Hp) (D:Ends),Inv X pins σ H s->t D σ H->wpAny (model X.prog X.w) X.A (exec st X.env) (SP X pins D) X.xe s
def gq(X:Cx)(st:List Stmt)(t:TS):Prop:=
 ∀(pins:List (Addr×Obj)) (s:Shared) (σ:St) (H:Hp) (D:Ends),Inv X pins σ H s->t D σ H->wpAny (model X.prog X.w) X.A (execs st X.env) (SP X pins D) X.xe s
def aX{α:Type}{t:Sem α}{Q Q':α->Shared->Prop}{M:Model}{A:Around}{E:Value->Shared->Prop}{s:Shared}(h:wpAny M A t Q E s)(hQ:∀a s,Q a s->Q' a s):wpAny M A t Q' E s:=Yu h hQ λ_ _ x=>x
section
variable{X:Cx}
def bin{a b:Expr}{ta tb:TE}(ha:PE X a ta)(hb:PE X b tb){pins:List (Addr×Obj)}{s:Shared}{σ:St}{H:Hp}{R:V->V->Hp->Prop}(I:Inv X pins σ H s)(h:ta σ H λx H1=>tb σ H1 λy H2=>R x y H2)
  {α:Type} {Q:α->Shared->Prop} {f:Value->Value->Sem α}
  (hf:∀v u s2 x y H2,Inv X pins σ H2 s2->RelV x v->RelV y u->R x y H2->wpAny (model X.prog X.w) X.A (f v u) Q X.xe s2) :
  wpAny (model X.prog X.w) X.A (eval a X.env) (λv s₁=>wpAny (model X.prog X.w) X.A (eval b X.env) (λu s₂=>wpAny (model X.prog X.w) X.A (f v u) Q X.xe s₂) X.xe s₁) X.xe s:=by
 refine aX (ha pins s σ H _ I h) λv s1 ⟨x,H1,I1,c,d⟩=>?_;refine aX (hb pins s1 σ H1 _ I1 d) λu s2 ⟨y,H2,I2,e,g⟩=>?_;exact hf v u s2 x y H2 I2 c e g
noncomputable def IZ(i:Nat):TE:=λσ H Q=>∃v,σ[i]?=some (some v)/\Q v H
noncomputable def tC(v:V):TE:=λ_ H Q=>Q v H
def AI {i:Nat}{x:Str}{pos:Pos}(hN:X.N[i]?=some x) (hv:AF X.env.scope x) (hd:(x==("__debug__" : Str))=false:=by decide) (hcd:(x==("__classdict__" : Str))=false:=by decide):PE X (.Name x pos) (IZ i):=by
 intro d s σ H Q I h;obtain⟨v,e,h⟩:=h;obtain⟨m,g,j⟩:=I.loc;obtain⟨u,r,l⟩:=j i x v hN e hv;have fin:EP X d σ Q u s:=⟨v,H,I,r,h⟩
 rcases l with ⟨b,k⟩|⟨b,c,f,a⟩
 .exact wpAny_Name (wpAny_loadName_local I.ok.kind b g k fin) hd
 .rcases b with b|b
  .exact wpAny_Name (wpAny_loadName_cell I.ok.kind b f a fin) hd
  .exact wpAny_Name (wpAny_loadName_free I.ok.kind b f a fin hcd) hd
def I0{i j pos}:PE X (.Constant (.int i) j pos) (tC (.int i)):=λ_ _ _ H _ I h=>wpAny_Constant_int ⟨.int i,H,I.tok _,⟨_,rfl⟩,h⟩
def OU{b j pos}:PE X (.Constant (.bool b) j pos) (tC (.bl b)):=λ_ _ _ H _ I h=>Constant_bool ⟨.bl b,H,I,rfl,h⟩
def Ja{x j pos}:PE X (.Constant (.str x) j pos) (tC (.str x)):=λ_ _ _ H _ I h=>ZG ⟨.str x,H,I.tok _,⟨_,rfl⟩,h⟩
def Gl(X:Cx)(x:Str):Prop:=X.env.kindOf x=some .globalImplicit
def qJ{E:Value->Shared->Prop}{pins:List (Addr×Obj)}{s:Shared}{σ:St}{H:Hp}{x:Str}{u:Value}{pos:Pos}{Q:Value->Shared->Prop}(I:Inv X pins σ H s)(hg:Gl X x)(hm:X.mg x=some u)(h:Q u s)
  (hd:(x==("__debug__" : Str))=false:=by decide):wpAny (model X.prog X.w) X.A (eval (.Name x pos) X.env) Q E s:=
 ZJ I.ok.kind hg (Calls.loadGlobal_global (by rw[I.ok.glob];exact I.mod.glob.keeps I.bk) hm h) hd
def iZ{E:Value->Shared->Prop}{pins:List (Addr×Obj)}{s:Shared}{σ:St}{H:Hp}{x:Str}{u:Value}{pos:Pos}{Q:Value->Shared->Prop}(I:Inv X pins σ H s)(hg:Gl X x)(hm:X.mg x=none)(hv:bootBuiltins x=some u)(h:Q u s)
  (hn:x≠"__name__" :=by decide) (hd:(x==("__debug__" : Str))=false:=by decide):wpAny (model X.prog X.w) X.A (eval (.Name x pos) X.env) Q E s:=by
 obtain⟨c,a,b⟩:=I.mod.blt;exact ZJ I.ok.kind hg (Calls.loadGlobal_builtin (by rw[I.ok.glob];exact I.mod.glob.keeps I.bk) hm (by rw[I.ok.blt];exact a.keeps I.bk) ((b x hn).trans hv) h) hd
def qK {x:Str}{v:V}{u:Value}{pos:Pos}(hg:Gl X x) (hm:X.mg x=some u) (r:RelV v u) (hd:(x==("__debug__" : Str))=false:=by decide):PE X (.Name x pos) (tC v):=
 λ_ _ _ H _ I h=>qJ I hg hm ⟨v,H,I,r,h⟩ hd
def Gn {x:Str}{v:V}{u:Value}{pos:Pos}(hg:Gl X x) (hm:X.mg x=none) (hv:bootBuiltins x=some u) (r:RelV v u) (hn:x≠"__name__" :=by decide) (hd:(x==("__debug__" : Str))=false:=by decide):PE X (.Name x pos) (tC v):=
 λ_ _ _ H _ I h=>iZ I hg hm hv ⟨v,H,I,r,h⟩ hn hd
variable{a b:Expr}{ta tb:TE}{pos:Pos}
def PC(X:Cx)(op:CmpOp)(a b:Expr)(t:TE):Prop:=
 ∀(pins:List (Addr×Obj)) (s:Shared) (σ:St) (H:Hp) (Q:VK),Inv X pins σ H s->t σ H Q->
  wpAny (model X.prog X.w) X.A (eval a X.env) (λv c=>wpAny (model X.prog X.w) X.A (eval b X.env) (λu d=>wpAny (model X.prog X.w) X.A (compareOp op v u) (EP X pins σ Q) X.xe d) X.xe c) X.xe s
def CP(b:Expr){op:CmpOp}(h:op≠.In)(h2:op≠.NotIn):behindInMarks op b=false:=by
 have c:(op==CmpOp.In)=false:=by cases op<;>first|rfl|exact absurd rfl h
 have d:(op==CmpOp.NotIn)=false:=by cases op<;>first|rfl|exact absurd rfl h2
 cases b<;>simp[behindInMarks,c,d]
noncomputable def tB(t:TE):TT:=λσ H Q=>t σ H λx H1=>∃c,x=.bl c/\Q c H1
def Jb{op:CmpOp}{t:TE}(h:PC X op a b t)(h1:behindInMarks op b=false:=by first|exact CP _ (by decide) (by decide)|rfl):PT X (.Compare a [op] [b] pos) (tB t):=by
 intro e s σ H Q I hw;refine Zn (aX (h e s σ H _ I hw) λv s1 h1=>aX h1 λu s2 f=>aX f λc s3 ⟨x,H1,I1,g,i⟩=>?_) h1;obtain⟨d,rfl,q⟩:=i;cases g;exact X0 ⟨H1,I1,q⟩
variable{tA EJ:TT}{rest:List Expr}
noncomputable def Sd(t u:TT):TT:=λσ H Q=>t σ H λc H1=>if c=true then u σ H1 Q else Q false H1
noncomputable def Ub(t u:TT):TT:=λσ H Q=>t σ H λc H1=>if c=true then Q true H1 else u σ H1 Q
noncomputable def Se(t:TT):TT:=λσ H Q=>t σ H λc H1=>Q (!c) H1
def Gp(ha:PT X a tA):PW X (.BoolOp .And [a] pos) tA:=by
 intro f d s σ H Q I h;refine isTrue_and (aX (ha d s σ H Q I h) λc s1 e=>?_);cases c with
 |true=>exact isTrue_and_nil e
 |false=>exact e
def Jc(ha:PT X a tA):PW X (.BoolOp .Or [a] pos) tA:=by
 intro f d s σ H Q I h;refine isTrue_or (aX (ha d s σ H Q I h) λc s1 e=>?_);cases c with
 |false=>exact isTrue_or_nil e
 |true=>exact e
def Jd(ha:PT X a tA)(hb:PW X (.BoolOp .And (b :: rest) pos) EJ):PW X (.BoolOp .And (a :: b :: rest) pos) (Sd tA EJ):=by
 intro f d s σ H Q I h;refine isTrue_and (aX (ha d s σ H _ I h) λc s1 ⟨H1,I1,e⟩=>?_);cases c with
 |true=>exact hb f d s1 σ H1 Q I1 e
 |false=>exact⟨H1,I1,e⟩
def OV(ha:PT X a tA)(hb:PW X (.BoolOp .Or (b :: rest) pos) EJ):PW X (.BoolOp .Or (a :: b :: rest) pos) (Ub tA EJ):=by
 intro f d s σ H Q I h;refine isTrue_or (aX (ha d s σ H _ I h) λc s1 ⟨H1,I1,e⟩=>?_);cases c with
 |true=>exact⟨H1,I1,e⟩
 |false=>exact hb f d s1 σ H1 Q I1 e
def Je(ha:PT X a tA):PT X (.UnaryOp .Not a pos) (Se tA):=by
 intro d s σ H Q I h;exact isTrue_not (ha d s σ H (λc H1=>Q (!c) H1) I h)
noncomputable def OW(ta tb:TE):TE:=λσ H Q=>ta σ H λx H1=>∃c,x=.bl c/\if c=true then tb σ H1 Q else Q (.bl false) H1
def Jf{op}{t:TE}(h:PE X a t):PE X (.BoolOp op [a] pos) t:=λpins s σ H Q I hw=>BoolOp_one (h pins s σ H Q I hw)
def Jg(ha:PE X a ta)(hb:PE X (.BoolOp .And (b :: rest) pos) tb):PE X (.BoolOp .And (a :: b :: rest) pos) (OW ta tb):=by
 intro d s σ H Q I h;refine BoolOp_and (aX (ha d s σ H _ I h) λv s1 ⟨x,H1,I1,f,e⟩=>?_);obtain⟨c,rfl,e⟩:=e;cases f;refine X0 ?_;cases c with
 |true=>exact hb d s1 σ H1 Q I1 e
 |false=>exact⟨.bl false,H1,I1,rfl,e⟩
noncomputable def Uc(t:TT)(ta tb:TE):TE:=λσ H Q=>t σ H λc H1=>if c=true then ta σ H1 Q else tb σ H1 Q
def CQ{c:Expr}(hc:PT X c tA)(ha:PE X a ta)(hb:PE X b tb):PE X (.IfExp c a b pos) (Uc tA ta tb):=by
 intro e s σ H Q I h;refine wpAny_IfExp (aX (hc e s σ H _ I h) λd s1 ⟨H1,I1,f⟩=>?_);cases d with
 |true=>exact ha e s1 σ H1 Q I1 f
 |false=>exact hb e s1 σ H1 Q I1 f
end
def eY(K:PySem.W.Frag)(H:Hp)(a:Addr)(xs:List V):Prop:=
 Rd H a (.lst xs)\/
  ∃(o:Obj) (its:Array Value) (n:Nat),K.lookup a=some o/\o.cls=.type "list" /\o.dict=none/\o.data=.seq its n/\its.size<=sizeLine/\Vals xs its.toList
def dm(K:PySem.W.Frag)(H:Hp)(a:Addr)(xs:List V):Prop:=
 Rd H a (.tup xs)\/
  ∃(o:Obj) (its:Array Value) (n:Nat),K.lookup a=some o/\o.cls=.type "tuple" /\o.data=.seq its n/\its.size<=sizeLine/\Vals xs its.toList
noncomputable def Sf:Value->Option V
 |.none=>some .bG
 |.bool b=>some (.bl b)
 |.int i _=>some (.int i)
 |.str x _=>some (.str x)
 |.bytes b _=>some (.AB b)
 |.float b _=>some (.wZ b)
 |.ref a=>some (.ref a)
 |.type n=>some (.ty n)
 |_=>none
def RelV.abs{x:V}{u:Value}(r:RelV x u):Sf u=some x:=by
 cases x with
 |bG=>cases r;rfl
 |bl _=>cases r;rfl
 |int _=>obtain⟨t,rfl⟩:=r;rfl
 |str _=>obtain⟨t,rfl⟩:=r;rfl
 |AB _=>obtain⟨t,rfl⟩:=r;rfl
 |wZ _=>obtain⟨t,rfl⟩:=r;rfl
 |ref _=>cases r;rfl
 |ty _=>cases r;rfl
theorem RelV.inj{x y:V}{u:Value}(r:RelV x u)(q:RelV y u):x=y:=M6 (r.abs.symm.trans q.abs)
theorem Vals.inj:∀{xs ys:List V}{us:List Value},Vals xs us->Vals ys us->xs=ys
 |_,_,_,.nil,.nil=>rfl
 |_,_,_,.cons r t,.cons r' t'=>by rw[r.inj r',Vals.inj t t']
section
variable{X:Cx}{pins:List (Addr×Obj)}{σ:St}{H:Hp}{s:Shared}{a:Addr}{xs ys:List V}
def eY.of{K:PySem.W.Frag}(h:H a=some (.lst xs)):eY K H a xs:=.inl (.inl h)
def dm.of{K:PySem.W.Frag}(h:H a=some (.tup xs)):dm K H a xs:=.inl (.inl h)
def Inv.list(I:Inv X pins σ H s)(h:eY X.K H a xs):∃its:List Value,Vals xs its/\PlainL s.heap a its.toArray/\xs.length<=sizeLine:=by
 rcases h with h|⟨o,its,n,b,c,d,f,g,r⟩
 .obtain⟨z,its,n,r,e⟩:=h.ok I.hok;exact⟨its,r,⟨_,n,e,rfl,rfl,rfl⟩,z⟩
 .refine⟨its.toList,r,⟨o,n,I.fR a o b,c,d,by simpa using f⟩,?_⟩;have e:=r.length;simp only[YZ]at e;omega
def Inv.tuple(I:Inv X pins σ H s)(h:dm X.K H a xs):∃its:List Value,Vals xs its/\IsTup s.heap a its.toArray/\xs.length<=sizeLine:=by
 rcases h with h|⟨o,its,n,b,c,d,f,r⟩
 .obtain⟨z,its,r,p⟩:=h.ok I.hok;exact⟨its,r,p,z⟩
 .refine⟨its.toList,r,⟨o,I.fR a o b,c,n,by simpa using d⟩,?_⟩;have e:=r.length;simp only[YZ]at e;omega
def Inv.CS(I:Inv X pins σ H s)(h:eY X.K H a xs)(h':eY X.K H a ys):xs=ys:=by
 obtain⟨c,r,⟨o,n,e,_,_,d⟩,_⟩:=I.list h;obtain⟨b,i,⟨k,l,f,_,_,g⟩,_⟩:=I.list h';rw[e]at f;cases f;rw[d]at g;injection g with j _
 have:c=b:=by simpa using Xp Array.toList j
 subst this;exact r.inj i
def Inv.mz(I:Inv X pins σ H s)(h:dm X.K H a xs)(h':dm X.K H a ys):xs=ys:=by
 obtain⟨c,r,⟨o,e,_,n,d⟩,_⟩:=I.tuple h;obtain⟨b,i,⟨k,f,_,l,g⟩,_⟩:=I.tuple h';rw[e]at f;cases f;rw[d]at g;injection g with j _
 have:c=b:=by simpa using Xp Array.toList j
 subst this;exact r.inj i
end
abbrev Cx.kg(X:Cx)(E:Value->Shared->Prop):Cx:={ X with xe:=E }
abbrev Cx.rQ(X:Cx):Cx:=X.kg λ_ _=>False
theorem Cx.Ok.kg{X:Cx}(ok:X.Ok)(E:Value->Shared->Prop):(X.kg E).Ok:=
 ⟨ok.mod,ok.kind,ok.glob,ok.blt,ok.above,ok.inj,ok.has,ok.xg,ok.hd,ok.frames,ok.stk,ok.EG,ok.bs,ok.rP,ok.qH,ok.qI,ok.jn,ok.ue⟩
def Cx.Ok.ja{X:Cx}{E:Value->Shared->Prop}(ok:(X.kg E).Ok):X.Ok:=
 ⟨ok.mod,ok.kind,ok.glob,ok.blt,ok.above,ok.inj,ok.has,ok.xg,ok.hd,ok.frames,ok.stk,ok.EG,ok.bs,ok.rP,ok.qH,ok.qI,ok.jn,ok.ue⟩
section
variable{X:Cx}{pins:List (Addr×Obj)}{σ:St}{H:Hp}{s:Shared}{E:Value->Shared->Prop}
theorem Inv.kg(I:Inv X pins σ H s)(E:Value->Shared->Prop):Inv (X.kg E) pins σ H s:=⟨I.ok.kg E,I.os,I.bare,I.base,I.loc,I.cell,I.free,I.iU,I.pin,I.hok,I.len⟩
theorem Inv.ja(I:Inv (X.kg E) pins σ H s):Inv X pins σ H s:=⟨I.ok.ja,I.os,I.bare,I.base,I.loc,I.cell,I.free,I.iU,I.pin,I.hok,I.len⟩
theorem SP.ja{D:Ends}{f:Flow}{s':Shared}(h:SP (X.kg E) pins D f s'):SP X pins D f s':=by
 cases f with
 |next=>obtain⟨a,H',I,q⟩:=h;exact⟨a,H',I.ja,q⟩
 |brk=>obtain⟨a,H',I,q⟩:=h;exact⟨a,H',I.ja,q⟩
 |cont=>obtain⟨a,H',I,q⟩:=h;exact⟨a,H',I.ja,q⟩
 |ret u=>obtain⟨v,a,H',I,r,q⟩:=h;exact⟨v,a,H',I.ja,r,q⟩
theorem gq.rQ{st:List Stmt}{t:TS}(h:gq X.rQ st t):gq X st t:=λpins s σ H D I hw=>
 Yu (h pins s σ H D (I.kg _) hw) (λ_ _ q=>q.ja) λ_ _ z=>False.elim z
end
section
variable{X:Cx}{st:Stmt}{rest:List Stmt}{t u:TS}{e:Expr}{te:TE}{pos:Pos}
noncomputable def OX:TS:=λD σ H=>D.nx σ H
noncomputable def CT(t u:TS):TS:=λD σ H=>t { D with nx:=u D } σ H
def Gq:gq X [] OX:=λ_ _ σ H _ I h=>Zp ⟨σ,H,I,h⟩
def CU(h1:PS X st t)(h2:gq X rest u):gq X (st :: rest) (CT t u):=by
 intro a s σ H D I h;refine ZY (aX (h1 a s σ H { D with nx:=u D } I h) λf s1 q=>?_);cases f with
 |next=>
  obtain⟨b,H',I',q⟩:=q;exact h2 a s1 b H' D I' q
 |ret v=>exact q
 |brk=>exact q
 |cont=>exact q
def Inv.quiet{pins:List (Addr×Obj)}{σ:St}{H:Hp}{s:Shared}(I:Inv X pins σ H s):interactive X.env=false:=by simp[interactive,I.ok.kind]
noncomputable def OY(te:TE):TS:=λD σ H=>te σ H λ_ H1=>D.nx σ H1
def Gr(he:PE X e te)(hs:swapsWith e none pos.line X.env=pure false:=by rfl):PS X (.Expr e pos) (OY te):=by
 intro a s σ H D I h;exact wpAny_Expr_any (aX (he a s σ H _ I h) λv s1 ⟨x,H1,I1,c,b⟩=>⟨σ,H1,I1,b⟩) I.quiet hs
noncomputable def Sg(te:TE):TS:=λD σ H=>te σ H D.rt
def Jh(he:PE X e te):PS X (.Return (some e) pos) (Sg te):=by
 intro a s σ H D I h;exact wpAny_Return_some (aX (he a s σ H _ I h) λv s1 ⟨x,H1,I1,b,c⟩=>⟨x,σ,H1,I1,b,c⟩)
noncomputable def Ji(c:TT)(t u:TS):TS:=λD σ H=>c σ H λb H1=>if b=true then t D σ H1 else u D σ H1
def OZ{c:Expr}{a b:List Stmt}{tc:TT}(hc:PT X c tc)(ha:gq X a t)(hb:gq X b u):PS X (.If c a b pos) (Ji tc t u):=by
 intro f s σ H D I h;refine wpAny_If (aX (hc f s σ H _ I h) λd s1 ⟨H1,I1,g⟩=>?_);cases d with
 |true=>exact ha f s1 σ H1 D I1 g
 |false=>exact hb f s1 σ H1 D I1 g
noncomputable def Jj:TS:=λ_ _ _=>False
def CV:PS X st Jj:=λ_ _ _ _ _ _ h=>h.elim
end
abbrev TG:=V->St->Hp->(St->Hp->Prop)->Prop
abbrev rR:=List V->St->Hp->(St->Hp->Prop)->Prop
def PG(X:Cx)(target:Expr)(t:TG):Prop:=
 ∀(pins:List (Addr×Obj)) (s:Shared) (σ:St) (H:Hp) (v:V) (u:Value) (Q:St->Hp->Prop),Inv X pins σ H s->RelV v u->t v σ H Q->
  wpAny (model X.prog X.w) X.A (assign target X.env u) (λ_ a=>∃σ' H',Inv X pins σ' H' a/\Q σ' H') X.xe s
def om(X:Cx)(ts:List Expr)(t:rR):Prop:=
 ∀(pins:List (Addr×Obj)) (s:Shared) (σ:St) (H:Hp) (vs:List V) (us:List Value) (Q:St->Hp->Prop),Inv X pins σ H s->Vals vs us->t vs σ H Q->
  wpAny (model X.prog X.w) X.A (assignInOrder ((assignEach ts X.env).map (·.2)) us) (λ_ a=>∃σ' H',Inv X pins σ' H' a/\Q σ' H') X.xe s
section
variable{X:Cx}{pos:Pos}
noncomputable def yV(i:Nat):TG:=λv σ H Q=>Q (σ.set i (some v)) H
def xo{i:Nat}{x:Str}(hN:X.N.Nodup)(hi:X.N[i]?=some x)(hx:Loc X.env.scope x)(hf:X.fn x=true\/X.env.scope.names.lookup x=some .local:=by first|exact .inl rfl|exact .inr rfl|assumption):PG X (.Name x pos) (yV i):=by
 intro a s σ H v u Q I r h;exact wpAny_assign_Name (o5 I hN hi hx r (λb I'=>⟨_,H,I',h⟩) hf)
noncomputable def Sh:rR:=λvs σ H Q=>vs=[]/\Q σ H
noncomputable def O0(t:TG)(u:rR):rR:=λvs σ H Q=>∃v r,vs=v :: r/\t v σ H λσ' H'=>u r σ' H' Q
def Gs:om X [] Sh:=by
 intro a s σ H vs us Q I r h;obtain⟨e,h⟩:=h;subst e;cases r;exact assignInOrder_nil ⟨σ,H,I,h⟩
def CW{e:Expr}{es:List Expr}{t:TG}{u:rR}(h1:PG X e t)(h2:om X es u)
  (hs:(assignEach (e :: es) X.env).map (·.2)=assign e X.env :: (assignEach es X.env).map (·.2):=by rfl):om X (e :: es) (O0 t u):=by
 intro a s σ H vs us Q I r h;obtain⟨v,d,b,h⟩:=h;subst b;cases r with
 |cons r c=>
  rw[hs];refine assignInOrder_cons (aX (h1 a s σ H _ _ _ I r h) λ_ s1 ⟨σ1,H1,I1,q1⟩=>?_);exact h2 a s1 σ1 H1 _ _ Q I1 c q1
noncomputable def Si(K:PySem.W.Frag)(n:Nat)(t:rR):TG:=λv σ H Q=>∃a xs,v=.ref a/\dm K H a xs/\xs.length=n/\t xs σ H Q
def Jk{es:List Expr}{k:Nat}{t:rR}{n:Nat}(hc:X.calm=true)(h:om X es t)
  (hn:(assignEach es X.env).length=n:=by rfl) (hst:(assignEach es X.env).findIdx? (·.1)=none:=by rfl):PG X (.Tuple es k pos) (Si X.K n t):=by
 intro c s σ H v u Q I r d;obtain⟨a,f,g,i,j,d⟩:=d;subst g;cases r;obtain⟨l,rv,p,y⟩:=I.tuple i;refine assign_Tuple_tuple (I.ok.hd hc) p (by simp[hn,<-j,rv.length]) hst λq x=>?_;have I1:Inv X c σ H { s with heap:=q }:=I.kept (t':=s.toks) λb o e=>x b o (XJ (VS e)) e;exact h c _ σ H f _ Q I1 (by simpa using rv) d
noncomputable def Jl(te:TE)(g:TG):TS:=λD σ H=>te σ H λx H1=>g x σ H1 D.nx
def Jm{i:Nat}{x:Str}{e:Expr}{te:TE}{pos':Pos}(hN:X.N.Nodup)(hi:X.N[i]?=some x)(hx:Loc X.env.scope x)(he:PE X e te)(hs:swapsWith e (some (.Name x pos')) pos.line X.env=pure false:=by rfl)(hf:X.fn x=true\/X.env.scope.names.lookup x=some .local:=by first|exact .inl rfl|exact .inr rfl|assumption) :
  PS X (.Assign [.Name x pos'] e pos) (Jl te (yV i)):=by
 intro a s σ H D I h;refine wpAny_Assign_Name (aX (he a s σ H _ I h) λv s1 ⟨y,H1,I1,b,c⟩=>?_) hs;exact o5 I1 hN hi hx b (λs2 I2=>⟨_,H1,I2,c⟩) hf
end
section
variable{X:Cx}{pos:Pos}
noncomputable def Jo(c:TT)(tb:TS):TS:=λD σ H=>∃W:Nat->St->Hp->Prop,(∃m,W m σ H)/\∀m σ H,W m σ H->
 c σ H λb H1=>if b=true then ∃N:St->Hp->Prop,(∀σ' H',N σ' H'->∃m',m'<m/\W m' σ' H')/\tb { D with nx:=N,ct:=N,bk:=D.nx } σ H1 else D.nx σ H1
def CY{c:Expr}{body:List Stmt}{tc:TT}{tb:TS}(hp:PassesOwn (model X.prog X.w) X.A X.env X.xe)(hc:PT X c tc)(hb:gq X body tb):PS X (.While c body [] pos) (Jo tc tb):=by
 intro a s σ H D I h;obtain⟨W,⟨p,q⟩,d⟩:=h;refine wpAny_While (codeAny_whileLoop (λn r=>∃σ' H',Inv X a σ' H' r/\W n σ' H') ?_ p ⟨σ,H,I,q⟩);rintro n s1 ⟨σ1,H1,I1,w1⟩;refine XT hp (aX (hc a s1 σ1 H1 _ I1 (d n σ1 H1 w1)) λb s2 ⟨H2,I2,g⟩=>?_);cases b with
 |true=>
  obtain⟨N,o,g⟩:=g;rw[IC rfl];refine XT hp (aX (hb a s2 σ1 H2 _ I2 g) λf s3 i=>?_);cases f with
  |next=>
   obtain⟨e,H3,I3,n3⟩:=i;obtain⟨j,k,l⟩:=o e H3 n3;exact⟨j,k,e,H3,I3,l⟩
  |cont=>
   obtain⟨e,H3,I3,n3⟩:=i;obtain⟨j,k,l⟩:=o e H3 n3;exact⟨j,k,e,H3,I3,l⟩
  |brk=>exact i
  |ret v=>exact i
 |false=>
  rw[T8 Yj];exact Zp ⟨σ1,H2,I2,g⟩
end
structure It where
 go:Nat->Hp->Prop
 EK:Nat->Hp->V->Hp->Prop
 stop:Nat->Hp->Prop
def gK(X:Cx)(pins:List (Addr×Obj))(H:Hp)(b:Addr):Prop:=
 H b=none/\b≠X.env.locals/\b∉X.fs/\(b∈X.ex\/X.s₀.heap.objs.size<=b)/\(∀x c,X.env.cells.lookup x=some c->c≠b)/\∀p∈X.pn++pins,p.1≠b
def Inv.CZ{X:Cx}{pins:List (Addr×Obj)}{σ:St}{H H':Hp}{s:Shared}{b:Addr}(I:Inv X pins σ H s)(hb:s.heap.objs.size<=b)(hn:H' b=none):gK X pins H' b:=by
 refine⟨hn,ZW (Q5 I.lt hb),I.Sa hb,.inr (Xm I.sz hb),λx c e z=>?_,λp a z=>?_⟩
 .obtain⟨v,q⟩:=I.cell x c e;exact absurd (Q5 q.lt (by rw[z];exact hb)) (XS _)
 .exact absurd (Q5 (VS (I.pin p a).1) (by rw[z];exact hb)) (XS _)
structure Turn(P:Program)(w:World)(K:PySem.W.Frag)(tg:Expr)(J:It)(fp:List Addr)(it:Addr)(tn:Nat->Heap->Prop):Prop where
 mem:it∈fp
 obj:∀i h,tn i h->∀b∈fp,∃o,h.get? b=some o/\∀v,o.data≠.cell v
 keep:∀i h h',tn i h->(∀b∈fp,∀o,h.get? b=some o->h'.get? b=some o)->tn i h'
 item:∀(X:Cx),X.prog=P->X.w=w->X.K=K->X.calm=true->∀(i:Nat) (pins:List (Addr×Obj)) (s:Shared) (σ:St) (H:Hp) (E:Value->Shared->Prop),Inv X pins σ H s->(∀b∈fp,gK X pins H b)->tn i s.heap->J.go i H->
  wpAny (model P w) X.A (pyNext (.ref it)) (λr s1=>∃u,r=some u/\
   wpAny (model P w) X.A (letOwnedTupleGo tg (.ref it) u) (λ_ s2=>∃x H',Inv X pins σ H' s2/\RelV x u/\J.EK i H x H'/\tn (i+1) s2.heap/\∀b∈fp,H' b=none) E s1) E s
 done:∀(X:Cx),X.prog=P->X.w=w->X.K=K->X.calm=true->∀(i:Nat) (pins:List (Addr×Obj)) (s:Shared) (σ:St) (H:Hp) (E:Value->Shared->Prop),Inv X pins σ H s->(∀b∈fp,gK X pins H b)->tn i s.heap->J.stop i H->
  wpAny (model P w) X.A (pyNext (.ref it)) (λr s1=>r=none/\Inv X pins σ H s1) E s
 self:∀(A:Around) (i:Nat) (s:Shared) (Q:Value->Shared->Prop) (E:Value->Shared->Prop),tn i s.heap->Q (.ref it) s->wpAny (model P w) A (pyIter (.ref it)) Q E s
abbrev TI:=St->Hp->(It->Hp->Prop)->Prop
def Qu(X:Cx)(pins:List (Addr×Obj))(σ:St)(tg:Expr)(R:It->Hp->Prop)(itv:Value)(s2:Shared):Prop:=
 ∃(it:Addr) (fp:List Addr) (tn:Nat->Heap->Prop) (J:It) (H':Hp),itv=.ref it/\Inv X pins σ H' s2/\Turn X.prog X.w X.K tg J fp it tn/\tn 0 s2.heap/\(∀b∈fp,gK X pins H' b)/\R J H'
def PI(X:Cx)(tg iter:Expr)(wi:TI):Prop:=
 ∀(pins:List (Addr×Obj)) (s:Shared) (σ:St) (H:Hp) (R:It->Hp->Prop),Inv X pins σ H s->wi σ H R->
  wpAny (model X.prog X.w) X.A (eval iter X.env) (λv s1=>wpAny (model X.prog X.w) X.A (pyIter v) (Qu X pins σ tg R) X.xe s1) X.xe s
def yW{M:Model}{A:Around}{E:Value->Shared->Prop}{s:Shared}{tg:Expr}{it:Addr}{u:Value}{o:Obj}{n:String}{vs:Array Value}{Q:Unit->Shared->Prop}(ho:s.heap.get? it=some o)(hc:o.cls=.type n)(hd:o.data=.fields vs)
    (hn:["enumerate","zip","dict_itemiterator","dict_reverseitemiterator","odict_iterator","itertools.zip_longest","itertools.pairwise"].contains n=false) (hQ:Q () s):wpAny M A (letOwnedTupleGo tg (.ref it) u) Q E s:=by
  unfold letOwnedTupleGo;cases tg<;>first
    |exact Vg hQ
    | (cases u<;>first
        |exact Vg hQ
        | (refine gV (wpAny_load ho ?_)
           rw[hc,hd];show wpAny M A (if (["enumerate","zip","dict_itemiterator","dict_reverseitemiterator","odict_iterator","itertools.zip_longest","itertools.pairwise"].contains n&&vs[0]?==some (rawInt _))=true then _ else _) Q E s;rw[T8 (by intro h;rw[hn,Bool.false_and]at h;cases h)];exact Vg hQ))
noncomputable def Qv(K:PySem.W.Frag)(a:Addr):It:=
 ⟨λi H=>∃xs x,eY K H a xs/\xs[i]?=some x,λi H x H'=>H'=H/\∀xs,eY K H a xs->xs[i]?=some x,λi H=>∃xs,eY K H a xs/\xs.length<=i⟩
noncomputable def Qw(K:PySem.W.Frag)(a:Addr):It:=
 ⟨λi H=>∃xs x,dm K H a xs/\xs[i]?=some x,λi H x H'=>H'=H/\∀xs,dm K H a xs->xs[i]?=some x,λi H=>∃xs,dm K H a xs/\xs.length<=i⟩
noncomputable def AJ(lo:Int)(n:Nat):It:=⟨λi _=>i<n,λi H x H'=>H'=H/\x=.int (lo+i),λi _=>n<=i⟩
def AK{P:Program}{w:World}{K:PySem.W.Frag}{tg:Expr}(a it:Addr):Turn P w K tg (Qv K a) [it] it (λi h=>h.IsListIter it a i) where
 mem:=by simp
 obj:=λi h f b j=>by
  have e:b=it:=by simpa using j
  subst e;obtain⟨o,e,c,d⟩:=f;exact⟨o,e,λv z=>by rw[d]at z;cases z⟩
 keep:=λi h q f k=>f.at λo e=>k it (by simp) o e
 item:=by
  intro X y A B G i g s σ H E I hf f hg;subst y A B;obtain⟨J,x,r,C⟩:=hg;obtain⟨F,rv,p,L⟩:=I.list r;obtain⟨u,M,N⟩:=rv.get C;obtain⟨f0,f1,f2,f3,f4,f5⟩:=hf it (by simp);refine wpAny_pyNext_list_item f p.isList (x:=u) (by simpa using M) λq l Q=>?_;have I1:Inv X g σ H { s with heap:=q }:=I.turned (t':=s.toks) (λb o j e=>(Q.2 b j).trans e) f0 f1 f3 f4 f5;obtain⟨o,e,c,d⟩:=id l;exact⟨u,rfl,yW (s:={ s with heap:=q }) e c d (by decide) ⟨x,H,I1,N,⟨rfl,λys Y=>by rw[I.CS Y r];exact C⟩,l,λb j=>(hf b j).1⟩⟩
 done:=by
  intro X y A B G i g s σ H E I hf f hg;subst y A B;obtain⟨J,r,C⟩:=hg;obtain⟨F,rv,p,L⟩:=I.list r;obtain⟨f0,f1,f2,f3,f4,f5⟩:=hf it (by simp);have hl:=rv.length;exact wpAny_pyNext_list_end (I.ok.hd G) f p.isList (by simp;omega) λq Z=>⟨rfl,I.turned (t':=s.toks) (λb o j e=>Z b o j e) f0 f1 f3 f4 f5⟩
 self:=λ_ _ _ _ _ f h=>wpAny_pyIter_listiter f h
def yX{P:Program}{w:World}{K:PySem.W.Frag}{tg:Expr}(a it:Addr):Turn P w K tg (Qw K a) [it] it (λi h=>h.IsTupleIter it a i) where
 mem:=by simp
 obj:=λi h f b j=>by
  have e:b=it:=by simpa using j
  subst e;obtain⟨o,e,c,d⟩:=f;exact⟨o,e,λv z=>by rw[d]at z;cases z⟩
 keep:=λi h r f k=>f.at λo e=>k it (by simp) o e
 item:=by
  intro X A B C G i g s σ H E I hf f hg;subst A B C;obtain⟨J,x,y,F⟩:=hg;obtain⟨l,rv,p,L⟩:=I.tuple y;obtain⟨u,M,N⟩:=rv.get F;obtain⟨f0,f1,f2,f3,f4,f5⟩:=hf it (by simp);refine wpAny_pyNext_tuple_item f (show s.heap.IsTuple a l.toArray from p) (x:=u) (by simpa using M) λr q Q=>?_;have I1:Inv X g σ H { s with heap:=r }:=I.turned (t':=s.toks) (λb o j e=>(Q.2 b j).trans e) f0 f1 f3 f4 f5;obtain⟨o,e,c,d⟩:=id q;exact⟨u,rfl,yW (s:={ s with heap:=r }) e c d (by decide) ⟨x,H,I1,N,⟨rfl,λys Y=>by rw[I.mz Y y];exact F⟩,q,λb j=>(hf b j).1⟩⟩
 done:=by
  intro X A B C G i g s σ H E I hf f hg;subst A B C;obtain⟨J,y,F⟩:=hg;obtain⟨l,rv,p,L⟩:=I.tuple y;obtain⟨f0,f1,f2,f3,f4,f5⟩:=hf it (by simp);have hl:=rv.length;exact wpAny_pyNext_tuple_end (I.ok.hd G) f (show s.heap.IsTuple a l.toArray from p) (by simp;omega) λr Z=>⟨rfl,I.turned (t':=s.toks) (λb o j e=>Z b o j e) f0 f1 f3 f4 f5⟩
 self:=λ_ _ _ _ _ f h=>wpAny_pyIter_tupleiter f h
def yY{P:Program}{w:World}{K:PySem.W.Frag}{tg:Expr}(it:Addr)(lo:Int)(n:Nat):Turn P w K tg (AJ lo n) [it] it (λi h=>IsRangeIter h it (lo+(i:Nat)*1) ((n:Int) - (i:Nat)) 1) where
 mem:=by simp
 obj:=λi h a b d=>by
  have e:b=it:=by simpa using d
  subst e;exact⟨_,a,λv z=>by
   have r:Data.fields _=Data.cell v:=z;cases r⟩
 keep:=λi h g a k=>k it (by simp) _ a
 item:=by
  intro X j l p q i c s σ H E I hf a hg;subst j l p;obtain⟨f0,f1,f2,f3,f4,f5⟩:=hf it (by simp);have W:=Walks.range (prog:=X.prog) (w:=X.w) (I.ok.hd q) it lo 1 n;refine W.item i s _ _ hg a λv g tk x f y=>?_;obtain⟨t,rfl⟩:=x;have I1:Inv X c σ H { s with heap:=g,toks:=tk }:=I.turned (λb o d e=>y b o (by simpa using d) e) f0 f1 f3 f4 f5;refine⟨_,rfl,yW (s:={ s with heap:=g,toks:=tk }) (n:="range_iterator") f rfl rfl (by decide) ⟨.int (lo+i),H,I1,⟨t,?_⟩,⟨rfl,rfl⟩,f,λb d=>(hf b d).1⟩⟩;rw[Int.mul_one]
 done:=by
  intro X j l p q i c s σ H E I hf a hg;subst j l p;obtain⟨f0,f1,f2,f3,f4,f5⟩:=hf it (by simp);exact wpAny_pyNext_range_end (I.ok.hd q) a (by have:n<=i:=hg;omega) λg A=>⟨rfl,I.turned (t':=s.toks) (λb o d e=>A b o d e) f0 f1 f3 f4 f5⟩
 self:=λ_ _ _ _ _ a h=>wpAny_pyIter_rangeiter a h
section
variable{X:Cx}{tg:Expr}
def um{pins:List (Addr×Obj)}{σ:St}{H:Hp}{s:Shared}{R:It->Hp->Prop}{E:Value->Shared->Prop}{lo hi:Int}{t u v:Tok}{tk:Nat}(I:Inv X pins σ H s)(h1:-(2 ^ 62)<=lo)(h2:lo<2 ^ 62)(h3:-(2 ^ 62)<=hi)(h4:hi<2 ^ 62)
  (q:R (AJ lo (hi - lo).toNat) H):wpAny (model X.prog X.w) X.A (pyIter (.ref s.heap.objs.size)) (Qu X pins σ tg R) E { s with heap:=s.heap.push { cls:=.type "range",data:=.fields #[.int lo t,.int hi u,.int 1 v]},toks:=tk }:=by
 refine wpAny_pyIter_range (IsRange.new ..) (small_one h1 h2 h3 h4) ?_;have I1:Inv X pins σ H { s with heap:=s.heap.push { cls:=.type "range",data:=.fields #[.int lo t,.int hi u,.int 1 v]},toks:=tk }:=I.kept λb o e=>Tw _ e;refine⟨(s.heap.push { cls:=.type "range",data:=.fields #[.int lo t,.int hi u,.int 1 v]}).objs.size,[(s.heap.push { cls:=.type "range",data:=.fields #[.int lo t,.int hi u,.int 1 v]}).objs.size],_,_,H,rfl,
  I1.kept (t':=tk) λb o e=>Tw _ e,yY _ lo (hi - lo).toNat,?_,λb a=>?_,q⟩
 .have c:lo+((0:Nat):Int)*1=lo:=by simp
  have d:(((hi - lo).toNat:Nat):Int) - ((0:Nat):Int)=Builtin.Range.rangeSize lo hi 1:=by rw[rangeSize_one];split<;>omega
  show IsRangeIter _ _ (lo+((0:Nat):Int)*1) ((((hi - lo).toNat:Nat):Int) - ((0:Nat):Int)) 1;rw[c,d];exact Xv _ rfl
 .have e:b=(s.heap.push { cls:=.type "range",data:=.fields #[.int lo t,.int hi u,.int 1 v]}).objs.size:=by simpa using a
  subst e;exact I1.CZ (VG _) (I1.hok.fresh (VG _))
noncomputable def O1(ta:TA):TI:=λσ H R=>ta σ H λa H1=>∃j:Int,a=[.int j]/\-(2 ^ 62)<=j/\j<2 ^ 62/\R (AJ 0 j.toNat) H1
noncomputable def O2(ta:TA):TI:=λσ H R=>ta σ H λa H1=>∃i j:Int,a=[.int i,.int j]/\(-(2 ^ 62)<=i/\i<2 ^ 62/\-(2 ^ 62)<=j/\j<2 ^ 62)/\R (AJ i (j - i).toNat) H1
def AL {a:Expr}{ta:TA}{p pos:Pos}(hg:Gl X "range") (hm:X.mg "range" = none) (ha:PA X [a] ta) (hs:starEach [a] X.env=[(false,eval a X.env)]:=by rfl):PI X tg (.Call (.Name "range" p) [a] [] pos) (O1 ta):=by
 intro b s σ H R I h;refine Call_ (iZ I hg hm boot_range (Yc (aX (ha pos b s σ H _ I h) λi s1 ⟨k,H1,I1,d,c⟩=>?_) hs rfl));obtain⟨j,e,c,f,q⟩:=c;subst e;cases d with
 |cons r g=>
  cases g;obtain⟨t,rfl⟩:=r;exact call_range_1 (um I1 (by omega) (by omega) c f (by simpa using q))
def AM {a b:Expr}{ta:TA}{p pos:Pos}(hg:Gl X "range") (hm:X.mg "range" = none) (ha:PA X [a,b] ta) (hs:starEach [a,b] X.env=[(false,eval a X.env),(false,eval b X.env)]:=by rfl) (hs2:starEach [b] X.env=[(false,eval b X.env)]:=by rfl) :
  PI X tg (.Call (.Name "range" p) [a,b] [] pos) (O2 ta):=by
 intro c s σ H R I h;refine Call_ (iZ I hg hm boot_range (Yc (aX (ha pos c s σ H _ I h) λy s1 ⟨z,H1,I1,g,d⟩=>?_) (by rw[hs,hs2]) (by rw[hs2];rfl)));obtain⟨i,j,e,⟨d,k,l,o⟩,q⟩:=d;subst e;cases g with
 |cons r f=>
  cases f with
  |cons x f=>
   cases f;obtain⟨t,rfl⟩:=r;obtain⟨A,rfl⟩:=x;exact call_range_2 (um I1 d k l o q)
noncomputable def Jp(wi:TI)(g:TG)(tb:TS):TS:=λD σ H=>wi σ H λJ H1=>∃W:Nat->Nat->St->Hp->Prop,(∃m,W 0 m σ H1)/\∀i m σ H,W i m σ H->
 (J.stop i H/\D.nx σ H)\/(J.go i H/\∃N:St->Hp->Prop,(∀σ' H',N σ' H'->∃m',m'<m/\W (i+1) m' σ' H')/\∀x H',J.EK i H x H'->g x σ H' λσ2 H2=>tb { D with nx:=N,ct:=N,bk:=D.nx } σ2 H2)
noncomputable def kC(fp:List Addr)(h:Heap):List (Addr×Obj):=fp.filterMap λb=>(h.get? b).map λo=>(b,o)
def gh{fp:List Addr}{h:Heap}{b:Addr}{o:Obj}(hb:b∈fp)(e:h.get? b=some o):(b,o)∈kC fp h:=List.mem_filterMap.mpr ⟨b,hb,by rw[e];rfl⟩
def AN{fp:List Addr}{h:Heap}{p:Addr×Obj}(hp:p∈kC fp h):p.1∈fp/\h.get? p.1=some p.2:=by
 obtain⟨b,a,e⟩:=List.mem_filterMap.mp hp;cases q:h.get? b with
 |none=>rw[q]at e;cases e
 |some o=>
  rw[q]at e;have c:(b,o)=p:=M6 e;subst c;exact⟨a,q⟩
def Inv.pinned{pins:List (Addr×Obj)}{σ:St}{H:Hp}{s:Shared}{fp:List Addr}(I:Inv X pins σ H s)(hf:∀b∈fp,gK X pins H b)(ho:∀b∈fp,∃o,s.heap.get? b=some o/\∀v,o.data≠.cell v):Inv X (pins++kC fp s.heap) σ H s:=
 I.xm λp f=>(List.mem_append.mp f).elim (λz=>I.pin p (Xu _ z)) λz=>by
  obtain⟨a,e⟩:=AN z;obtain⟨f0,f1,f2,_⟩:=hf p.1 a;obtain⟨o,c,d⟩:=ho p.1 a;rw[e]at c;cases c;exact⟨e,f0,f1,f2,d⟩
def Inv.gM{pins pl:List (Addr×Obj)}{σ:St}{H:Hp}{s:Shared}(I:Inv X (pins++pl) σ H s):Inv X pins σ H s:=I.xm λp a=>I.pin p (Xu _ (aaj _ a))
def Jq{iter:Expr}{body:List Stmt}{wi:TI}{g:TG}{tb:TS}{pos:Pos}(hp:PassesOwn (model X.prog X.w) X.A X.env X.xe)(hc:X.calm=true)(hi:PI X tg iter wi)(hg:PG X tg g)(hb:gq X body tb)
  (hs:∀x,foldedSetIterable iter X.env x=pure x:=by intro _;rfl):PS X (.For tg iter body [] pos) (Jp wi g tb):=by
 intro a s σ H D I h;refine wpAny_For (aX (hi a s σ H _ I h) λv s1 K=>aX K λitv s2 L=>?_) hs;obtain⟨it,l,F,J,H2,e,I2,T,y,f2,W,⟨M,P⟩,p⟩:=L;subst e;have z:∀{H':Hp},(∀b∈l,H' b=none)->∀b∈l,gK X a H' b:=λQ b hb=>⟨Q b hb,(f2 b hb).2⟩
 refine codeAny_forLoop_any (λn G=>∃i σ' H',Inv X a σ' H' G/\F i G.heap/\(∀b∈l,H' b=none)/\W i n σ' H') ?_ M ⟨0,σ,H2,I2,y,λb hb=>(f2 b hb).1,P⟩;rintro n s3 ⟨i,σ3,H3,I3,st3,cy,w3⟩;rcases p i n σ3 H3 w3 with ⟨q,Y⟩|⟨Z,N,hN,step⟩
 .refine XT hp (aX (T.done X rfl rfl rfl hc i a s3 σ3 H3 X.xe I3 (z cy) st3 q) λr s4 ⟨B,I4⟩=>?_);subst B;exact Zp ⟨σ3,H3,I4,Y⟩
 .refine XT hp (aX (T.item X rfl rfl rfl hc i a s3 σ3 H3 X.xe I3 (z cy) st3 Z) λr s4 ⟨u,B,h4⟩=>?_);subst B;refine XT hp (aX h4 λ_ s5 ⟨x,H5,I5,r5,y5,C,ow⟩=>?_);have Jr:=I5.pinned (z ow) (T.obj _ _ C);refine XT hp (aX (hg _ s5 σ3 H5 x u _ Jr r5 (step x H5 y5)) λ_ s6 ⟨Js,H6,I6,q6⟩=>?_);refine XT hp (aX (hb _ s6 Js H6 _ I6 q6) λf s7 k=>?_);have c:∀{j:St} {H7:Hp},Inv X (a++kC l s5.heap) j H7 s7->N j H7->∃m,m<n/\∃i σ' H',Inv X a σ' H' s7/\F i s7.heap/\(∀b∈l,H' b=none)/\W i m σ' H':=λ{j H7} I7 n7=>by
   obtain⟨m',hm,w7⟩:=hN j H7 n7;refine⟨m',hm,i+1,j,H7,I7.gM,T.keep _ _ _ C λb hb o e=>(I7.pin (b,o) (Xu _ (Xu _ (gh hb e)))).1,λb hb=>?_,w7⟩;obtain⟨o,e,d⟩:=T.obj _ _ C b hb;exact(I7.pin (b,o) (Xu _ (Xu _ (gh hb e)))).2.1
  cases f with
  |next=>obtain⟨j,H7,I7,n7⟩:=k;exact c I7 n7
  |cont=>obtain⟨j,H7,I7,n7⟩:=k;exact c I7 n7
  |brk=>obtain⟨j,H7,I7,k⟩:=k;exact⟨j,H7,I7.gM,k⟩
  |ret v=>obtain⟨x7,j,H7,I7,r7,k⟩:=k;exact⟨x7,j,H7,I7.gM,r7,k⟩
end
abbrev R2:=V->V->Hp->VK->Prop
def cH(X:Cx)(f:Value->Value->Sem Value)(r:R2):Prop:=
 ∀(pins:List (Addr×Obj)) (s:Shared) (σ:St) (H:Hp) (x y:V) (v u:Value) (Q:VK),Inv X pins σ H s->RelV x v->RelV y u->r x y H Q->
  wpAny (model X.prog X.w) X.A (f v u) (EP X pins σ Q) X.xe s
def Jt(X:Cx)(f:Value->Sem Value)(r:V->Hp->VK->Prop):Prop:=
 ∀(pins:List (Addr×Obj)) (s:Shared) (σ:St) (H:Hp) (x:V) (v:Value) (Q:VK),Inv X pins σ H s->RelV x v->r x H Q->
  wpAny (model X.prog X.w) X.A (f v) (EP X pins σ Q) X.xe s
def dh(X:Cx)(f:Value)(r:List V->Hp->VK->Prop):Prop:=
 ∀(pins:List (Addr×Obj)) (s:Shared) (σ:St) (H:Hp) (xs:List V) (us:List Value) (Q:VK),Inv X pins σ H s->Vals xs us->r xs H Q->
  wpAny (model X.prog X.w) X.A (call f us) (EP X pins σ Q) X.xe s
def Sj(X:Cx)(r:V->Hp->(Bool->Hp->Prop)->Prop):Prop:=
 ∀(pins:List (Addr×Obj)) (s:Shared) (σ:St) (H:Hp) (x:V) (v:Value) (Q:Bool->Hp->Prop),Inv X pins σ H s->RelV x v->r x H Q->
  wpAny (model X.prog X.w) X.A (truthy v) (TP X pins σ Q) X.xe s
noncomputable def xq(r:R2)(ta tb:TE):TE:=λσ H Q=>ta σ H λx H1=>tb σ H1 λy H2=>r x y H2 Q
noncomputable def Ud(r:V->Hp->VK->Prop)(ta:TE):TE:=λσ H Q=>ta σ H λx H1=>r x H1 Q
noncomputable def rI(C:Int->Int->Prop)(g:Int->Int->V):R2:=λx y H Q=>∃i j,x=.int i/\y=.int j/\C i j/\Q (g i j) H
noncomputable def rS(g:Int->Int->V):R2:=λx y H Q=>∃i j,x=.int i/\y=.int j/\Q (g i j) H
def rU(g:Int->V):V->Hp->VK->Prop:=λx H Q=>∃i,x=.int i/\Q (g i) H
section
variable{X:Cx}{a b:Expr}{ta tb:TE}{pos:Pos}
def yZ(ha:PE X a ta)(hb:PE X b tb){pins:List (Addr×Obj)}{s:Shared}{σ:St}{H:Hp}{R:V->V->Hp->Prop}(I:Inv X pins σ H s)
  (h:ta σ H λx H1=>tb σ H1 λy H2=>R x y H2) {Q:Value->Shared->Prop} {f:Value->Value->Sem Value}
  (hf:∀v u s2 x y H2,Inv X pins σ H2 s2->RelV x v->RelV y u->R x y H2->wpAny (model X.prog X.w) X.A (f v u) Q X.xe s2) :
  wpAny (model X.prog X.w) X.A (eval a X.env) (λv s₁=>wpAny (model X.prog X.w) X.A (eval b X.env) (λu s₂=>wpAny (model X.prog X.w) X.A (f v u) Q X.xe s₂) X.xe s₁) X.xe s:=by
 refine aX (ha pins s σ H _ I h) λv s1 ⟨x,H1,I1,c,d⟩=>?_;refine aX (hb pins s1 σ H1 _ I1 d) λu s2 ⟨y,H2,I2,e,g⟩=>?_;exact hf v u s2 x y H2 I2 c e g
def O3{op:Operator}{r:R2}(ho:cH X (binaryOp op) r)(ha:PE X a ta)(hb:PE X b tb):PE X (.BinOp a op b pos) (xq r ta tb):=by
 intro c s σ H Q I h;exact wpAny_BinOp (yZ ha hb I h λv u s2 x y H2 I2 d e q=>ho c s2 σ H2 x y v u Q I2 d e q)
def O4{op:UnaryOp}{r:V->Hp->VK->Prop}(ho:Jt X (unaryOp op) r)(ha:PE X a ta):PE X (.UnaryOp op a pos) (Ud r ta):=by
 intro c s σ H Q I h;exact UnaryOp_ (aX (ha c s σ H _ I h) λv s1 ⟨x,H1,I1,d,e⟩=>ho c s1 σ H1 x v Q I1 d e)
def Ju{f:Value->Value->Sem Value}{C:Int->Int->Prop}{g:Int->Int->Int}
  (rule:∀(i j:Int) (t u:Tok) (s:Shared) (Q:Value->Shared->Prop) (E:Value->Shared->Prop),C i j->Q (.int (g i j) s.toks) { s with toks:=s.toks+1 }->wpAny (model X.prog X.w) X.A (f (.int i t) (.int j u)) Q E s) :
  cH X f (rI C λi j=>.int (g i j)):=by
 intro c s σ H x y v u Q I rx ry h;obtain⟨i,j,rfl,rfl,d,q⟩:=h;obtain⟨t,rfl⟩:=rx;obtain⟨e,rfl⟩:=ry;exact rule i j t e s _ _ d ⟨.int (g i j),H,I.tok _,⟨_,rfl⟩,q⟩
def Jv{f:Value->Value->Sem Value}{g:Int->Int->Int}
  (rule:∀(i j:Int) (t u:Tok) (s:Shared) (Q:Value->Shared->Prop) (E:Value->Shared->Prop),Q (.int (g i j) s.toks) { s with toks:=s.toks+1 }->wpAny (model X.prog X.w) X.A (f (.int i t) (.int j u)) Q E s) :
  cH X f (rS λi j=>.int (g i j)):=by
 intro c s σ H x y v u Q I rx ry h;obtain⟨i,j,rfl,rfl,q⟩:=h;obtain⟨t,rfl⟩:=rx;obtain⟨d,rfl⟩:=ry;exact rule i j t d s _ _ ⟨.int (g i j),H,I.tok _,⟨_,rfl⟩,q⟩
def C0{f:Value->Value->Sem Value}{g:Int->Int->Bool}
  (rule:∀(i j:Int) (t u:Tok) (s:Shared) (Q:Value->Shared->Prop) (E:Value->Shared->Prop),Q (.bool (g i j)) s->wpAny (model X.prog X.w) X.A (f (.int i t) (.int j u)) Q E s) :
  cH X f (rS λi j=>.bl (g i j)):=by
 intro c s σ H x y v u Q I rx ry h;obtain⟨i,j,rfl,rfl,q⟩:=h;obtain⟨t,rfl⟩:=rx;obtain⟨d,rfl⟩:=ry;exact rule i j t d s _ _ ⟨.bl (g i j),H,I,rfl,q⟩
def Sk(i j:Int):Prop:=0<j/\j<1073741824
def C1(i j:Int):Prop:=(-(2 ^ 64)<i/\i<2 ^ 64)\/(-(2 ^ 64)<j/\j<2 ^ 64)
def C1.ok{i j:Int}(h:C1 i j):IntMulOk i j:=by
 rcases h with ⟨c,d⟩|⟨c,d⟩
 .exact .of_left (intBits_le_64 c d)
 .exact .of_right (intBits_le_64 c d)
def Jw:cH X (binaryOp .Add) (rS λi j=>.int (i+j)):=Jv λ_ _ _ _ _ _ _ q=>add_int q
def Jx:cH X (binaryOp .Sub) (rS λi j=>.int (i - j)):=Jv λ_ _ _ _ _ _ _ q=>sub_int q
def Jy:cH X (binaryOp .Mult) (rI C1 λi j=>.int (i*j)):=Ju λ_ _ _ _ _ _ _ c q=>mul_int q c.ok
def Gu:cH X (binaryOp .FloorDiv) (rI Sk λi j=>.int (i / j)):=Ju λi j _ _ _ _ _ c q=>by
 have d:(0:Int)<j:=c.1;have e:j<1073741824:=c.2;exact floordiv_int (by omega) (by rw[Int.fdiv_eq_ediv_of_nonneg i (by omega)];exact q) (.inl (PyProof.noPylong_small (by omega)))
def Jz:cH X (binaryOp .Mod) (rI (λ_ j=>0<j) λi j=>.int (i % j)):=Ju λi j _ _ _ _ _ c q=>by
 have d:(0:Int)<j:=c;exact mod_int' (by omega) (by rw[Int.fmod_eq_emod_of_nonneg i (by omega)];exact q)
def Ue{f:Value->Sem Value}{g:Int->Int}
  (rule:∀(i:Int) (t:Tok) (s:Shared) (Q:Value->Shared->Prop) (E:Value->Shared->Prop),Q (.int (g i) s.toks) { s with toks:=s.toks+1 }->wpAny (model X.prog X.w) X.A (f (.int i t)) Q E s) :
  Jt X f (rU λi=>.int (g i)):=by
 intro c s σ H x v Q I rx h;obtain⟨i,rfl,q⟩:=h;obtain⟨t,rfl⟩:=rx;exact rule i t s _ _ ⟨.int (g i),H,I.tok _,⟨_,rfl⟩,q⟩
def JB:Jt X (unaryOp .USub) (rU λi=>.int (-i)):=Ue λ_ _ _ _ _ q=>neg_int q
end
section
variable{X:Cx}{a b c:Expr}{ta tb tc:TE}{pos:Pos}
def O5:cH X (compareOp .Lt) (rS λi j=>.bl (decide (i<j))):=C0 λ_ _ _ _ _ _ _ q=>lt_int q
def O6:cH X (compareOp .LtE) (rS λi j=>.bl (decide (i<=j))):=C0 λ_ _ _ _ _ _ _ q=>le_int q
def O7:cH X (compareOp .Gt) (rS λi j=>.bl (decide (j<i))):=C0 λ_ _ _ _ _ _ _ q=>gt_int q
def jK(b:Expr){op:CmpOp}(h:op≠.In:=by decide)(h2:op≠.NotIn:=by decide):behindInMarks op b=false:=by
 have d:(op==CmpOp.In)=false:=by cases op<;>first|rfl|exact absurd rfl h
 have e:(op==CmpOp.NotIn)=false:=by cases op<;>first|rfl|exact absurd rfl h2
 cases b<;>simp[behindInMarks,d,e]
def Gv{op:CmpOp}{r:R2}(ho:cH X (compareOp op) r)(ha:PE X a ta)(hb:PE X b tb)(hm:behindInMarks op b=false):PE X (.Compare a [op] [b] pos) (xq r ta tb):=by
 intro d s σ H Q I h;exact wpAny_Compare1 (yZ ha hb I h λv u s2 x y H2 I2 e f q=>ho d s2 σ H2 x y v u Q I2 e f q) hm
noncomputable def tO(t:TE):TT:=λσ H Q=>t σ H λx H'=>∃k,x=.bl k/\Q k H'
def Gw{op:CmpOp}{r:R2}(ho:cH X (compareOp op) r)(ha:PE X a ta)(hb:PE X b tb)(hm:behindInMarks op b=false):PT X (.Compare a [op] [b] pos) (tO (xq r ta tb)):=by
 intro d s σ H Q I h;refine Zn (aX (ha d s σ H _ I h) λv s1 ⟨x,H1,I1,f,g⟩=>aX (hb d s1 σ H1 _ I1 g) λu s2 ⟨y,H2,I2,i,j⟩=>
  aX (ho d s2 σ H2 x y v u _ I2 f i j) λc s3 ⟨z,H3,I3,l,k,e,o⟩=>?_) hm
 subst e;cases l;exact X0 ⟨H3,I3,o⟩
noncomputable def uo(r r':R2)(ta tb tc:TE):TE:=λσ H Q=>ta σ H λx H1=>tb σ H1 λy H2=>r x y H2 λz H3=>∃k,z=.bl k/\
 (if k=true then tc σ H3 λd H4=>r' y d H4 Q else Q (.bl false) H3)
def C2{op op':CmpOp}{r r':R2}(ho:cH X (compareOp op) r)(ho':cH X (compareOp op') r')(ha:PE X a ta)(hb:PE X b tb)(hc:PE X c tc)
  (hm:lastMarks [op,op'] [b,c]=false:=by with_unfolding_all rfl):PE X (.Compare a [op,op'] [b,c] pos) (uo r r' ta tb tc):=by
 intro f s σ H Q I h;refine Compare_chain (aX (ha f s σ H _ I h) λv s1 ⟨x,H1,I1,j,l⟩=>chain_link (aX (hb f s1 σ H1 _ I1 l) λu s2 ⟨y,H2,I2,g,o⟩=>
  aX (ho f s2 σ H2 x y v u _ I2 j g o) λd s3 ⟨z,H3,I3,p,k,e,i⟩=>?_)) hm
 subst e;cases p;refine X0 ?_;cases k with
 |false=>exact ite_ff ⟨.bl false,H3,I3,rfl,i⟩
 |true=>exact ite_tt (chain_last (aX (hc f s3 σ H3 _ I3 i) λq s4 ⟨A,H4,I4,B,C⟩=>ho' f s4 σ H4 y A u q Q I4 g B C))
def C3{op op':CmpOp}{r r':R2}(ho:cH X (compareOp op) r)(ho':cH X (compareOp op') r')(ha:PE X a ta)(hb:PE X b tb)(hc:PE X c tc)
  (hm:lastMarks [op,op'] [b,c]=false:=by with_unfolding_all rfl):PT X (.Compare a [op,op'] [b,c] pos) (tO (uo r r' ta tb tc)):=by
 intro f s σ H Q I h;refine isTrue_chain (aX (ha f s σ H _ I h) λv s1 ⟨x,H1,I1,j,l⟩=>test_link (aX (hb f s1 σ H1 _ I1 l) λu s2 ⟨y,H2,I2,g,o⟩=>
  aX (ho f s2 σ H2 x y v u _ I2 j g o) λd s3 ⟨z,H3,I3,p,k,e,i⟩=>?_)) hm
 subst e;cases p;refine X0 ?_;cases k with
 |false=>
  obtain⟨M,q,A⟩:=i;cases q;exact ite_ff ⟨H3,I3,A⟩
 |true=>
  refine ite_tt (test_last (aX (hc f s3 σ H3 _ I3 i) λB s4 ⟨C,H4,I4,F,G⟩=>aX (ho' f s4 σ H4 y C u B _ I4 g F G) λN s5 ⟨P,H5,I5,J,W,K,L⟩=>?_));subst K;cases J;exact X0 ⟨H5,I5,L⟩
def C4(K:PySem.W.Frag)(x:V)(H:Hp)(k:Bool):Prop:=
 match x with
 |.bG=>k=false
 |.bl b=>k=b
 |.int i=>k=(i != 0)
 |.str y=>y.length<=sizeLine/\k=((y.length:Int) != 0)
 |.AB y=>y.size<=sizeLine/\k=((y.size:Int) != 0)
 |.ref p=>(∃xs,eY K H p xs/\k = !xs.isEmpty)\/(∃xs,dm K H p xs/\k = !xs.isEmpty)\/∃kvs,H p=some (.dK kvs)/\k = !kvs.isEmpty
 |_=>False
def y9{κ:Type}{kvs:List (κ×V)}{vs:List (κ×Value)}(r:KV kvs vs):(!vs.isEmpty) = !kvs.isEmpty:=by
 cases r<;>rfl
def pO{xs:List V}{its:List Value}(r:Vals xs its):(!its.toArray.isEmpty) = !xs.isEmpty:=by
 cases r<;>simp
def kD:(sizeLine:Nat)<2 ^ 63:=by rw[YD];decide
def JD:Sj X (λx H Q=>∃k,C4 X.K x H k/\Q k H):=by
 intro A s σ H x v Q I rx h;obtain⟨k,e,q⟩:=h;have C:=kD;have F:sizeLine=16777216:=YD;cases x with
 |bG=>
  cases rx;have d:k=false:=e;subst d;exact truthy_none ⟨H,I,q⟩
 |bl b=>
  cases rx;have d:k=b:=e;subst d;exact X0 ⟨H,I,q⟩
 |int i=>
  obtain⟨t,rfl⟩:=rx;have d:k=(i != 0):=e;subst d;exact PySem.P.truthy_int ⟨H,I,q⟩
 |str y=>
  obtain⟨t,rfl⟩:=rx;obtain⟨hy,d⟩:y.length<=sizeLine/\k=((y.length:Int) != 0):=e;subst d;exact PySem.P.truthy_str (by omega) ⟨H,I.tok _,q⟩
 |AB y=>
  obtain⟨t,rfl⟩:=rx;obtain⟨hy,d⟩:y.size<=sizeLine/\k=((y.size:Int) != 0):=e;subst d;exact PySem.W.truthy_bytes (by omega) ⟨H,I.tok _,q⟩
 |ref p=>
  cases rx;have d:(∃j,eY X.K H p j/\k = !j.isEmpty)\/(∃j,dm X.K H p j/\k = !j.isEmpty)\/∃f,H p=some (.dK f)/\k = !f.isEmpty:=e;rcases d with ⟨j,l,d⟩|⟨j,l,d⟩|⟨f,l,d⟩
  .subst d;obtain⟨o,r,z,B⟩:=I.list l;have g:=r.length;exact wpAny_truthy_list z.isList (by simp only[Q4];omega) ⟨H,I.tok _,by rw[pO r];exact q⟩
  .subst d;obtain⟨o,r,z,B⟩:=I.tuple l;have g:=r.length;exact truthy_tuple z (by simp only[Q4];omega) ⟨H,I.tok _,by rw[pO r];exact q⟩
  .subst d;obtain⟨B,hS,vs,r,m⟩:f.length<=sizeLine/\(p==sysModules)=false/\∃vs,KV f vs/\s.heap.DictOf (qG X.prog X.w) p vs:=I.hok p _ l;have g:f.length=vs.length:=Paired.length r;exact wpAny_truthy_dict hS m (by omega) ⟨H,I.tok _,by rw[y9 r];exact q⟩
 |_=>exact(show False from e).elim
def C5(ha:PE X a ta)(he:∀whole,isTrue a X.env whole=(do let v <-whole;standAt a.pos;holding [v] (truthy v))) :
  PT X a (λσ H Q=>ta σ H λx H'=>∃k,C4 X.K x H' k/\Q k H'):=by
 intro d s σ H Q I h;exact isTrue_plain (aX (ha d s σ H _ I h) λv s1 ⟨x,H1,I1,e,f⟩=>JD d s1 σ H1 x v Q I1 e f) (he _)
def za:cH X (binaryOp .Add) (λx y H Q=>∃i j,x=.str i/\y=.str j/\i.length+j.length<=sizeLine/\Q (.str (i++j)) H):=by
 intro d s σ H x y v u Q I rx ry h;obtain⟨i,j,rfl,rfl,e,q⟩:=h;obtain⟨t,rfl⟩:=rx;obtain⟨f,rfl⟩:=ry;exact add_str (λf tk=>⟨.str (i++j),H,I.tok _,⟨_,rfl⟩,q⟩) e
def Zo{x:V}{us:List Value}(r:Vals [x] us):∃u,us=[u]/\RelV x u:=by
 cases r with
 |cons d e=>cases e;exact⟨_,rfl,d⟩
def vals2{x y:V}{us:List Value}(r:Vals [x,y] us):∃u w',us=[u,w']/\RelV x u/\RelV y w':=by
 cases r with
 |cons d e=>
  cases e with
  |cons f g=>cases g;exact⟨_,_,rfl,d,f⟩
def AO (hc:X.calm=true):dh X (.builtin "max") (λxs H Q=>∃i j,xs=[.int i,.int j]/\Q (.int (if j > i then j else i)) H):=by
 intro e s σ H xs us Q I r h;obtain⟨i,j,rfl,q⟩:=h;obtain⟨u,f,rfl,⟨t,rfl⟩,⟨g,rfl⟩⟩:=vals2 r;refine max_two_ints (I.ok.hd hc) λl tk k=>⟨_,H,I.kept k,?_,q⟩
 by_cases d:j > i
 .rw[IC d,IC d];exact⟨_,rfl⟩
 .rw[T8 d,T8 d];exact⟨_,rfl⟩
def AQ (hc:X.calm=true):dh X (.builtin "min") (λxs H Q=>∃i j,xs=[.int i,.int j]/\Q (.int (if j<i then j else i)) H):=by
 intro e s σ H xs us Q I r h;obtain⟨i,j,rfl,q⟩:=h;obtain⟨u,f,rfl,⟨t,rfl⟩,⟨g,rfl⟩⟩:=vals2 r;refine min_two_ints (I.ok.hd hc) λl tk k=>⟨_,H,I.kept k,?_,q⟩
 by_cases d:j<i
 .rw[IC d,IC d];exact⟨_,rfl⟩
 .rw[T8 d,T8 d];exact⟨_,rfl⟩
end
structure C6(h:Heap)(x dx C:Addr)(mA:Str->Option Value):Prop where
 obj:h.get? x=some (PySem.W.instObj C dx)
 ns:h.Ns1 dx mA
 ne:dx≠x
def AR{h:Heap}{dx:Addr}{mA:Str->Option Value}(n:h.Ns1 dx mA):∃od,h.get? dx=some od/\∀name,PySem.W.lookIn name od=some (mA name):=by
 obtain⟨o,c,l,d,f,g,_,i⟩:=n;refine⟨o,d,λname=>?_⟩;have e:=i name;unfold nsFind findBy at e;rw[<-Array.find?_toList]at e;unfold PySem.W.lookIn;rw[f];dsimp only;split
 .rename_i y q;rw[q]at e;exact Xp some e
 .rename_i q;rw[q]at e;have a:c.toList.any (·.refKey)=false:=by
   rw[List.any_eq_false];intro y j;obtain⟨z,t,b⟩:=g y (Array.mem_toList_iff.mp j);simp[DictEntry.refKey,b]
  have k:¬ c.toList.any (·.refKey)=true:=by rw[a];exact Yj
  rw[T8 k];exact Xp some e
def C6.look{h:Heap}{x dx C:Addr}{mA:Str->Option Value}(I:C6 h x dx C mA):∃od,PySem.W.InstAt h x (PySem.W.instObj C dx) C (some od)/\∀name,PySem.W.lookIn name od=some (mA name):=
 let ⟨od,ho,hl⟩:=AR I.ns
 ⟨od,⟨I.obj,rfl,rfl,ho⟩,hl⟩
section
variable{P:Program}{w:World}{H:Hp}{h:Heap}{a C dx:Addr}{fs:List (Str×V)}
def Gx(hok:fM P w H h)(e:H a=some (.ins C dx fs)):∃mA,C6 h a dx C mA/\(∀f,CN (fs.lookup f) (mA f))/\PySem.Within mA (fs.map (·.1))/\fs.length<=1000/\H dx=some (.own a):=by
 obtain⟨d,z,b,c,mA,n,r,q⟩:=(show dG P w H h a (.ins C dx fs)from hok a _ e)
 exact⟨mA,⟨c,n,b⟩,r,q,z,d⟩
end
structure JF(K:PySem.W.Frag)(C:Addr):Prop where
 pg:PySem.W.plainGet K C Str.empty=true
 hd:PySem.W.hasDictIn K C=true
 po:PySem.W.plainOver K C=true
 sa:PySem.W.findIn K (.ref C) "__setattr__" = some (some (.builtin "object.__setattr__"))
def JF.get{K:PySem.W.Frag}{C:Addr}(c:JF K C)(f:Str):PySem.W.plainGet K C f=true:=c.pg
section
variable{X:Cx}{pins:List (Addr×Obj)}{σ:St}{H:Hp}{s:Shared}{A:Around}{E:Value->Shared->Prop}{Q:Value->Shared->Prop}{c:Value}{b:Bool}
inductive jq(K:PySem.W.Frag)(H:Hp):V->Value->Prop where
 |bG:jq K H .bG (.type "NoneType")
 |bl (x:Bool):jq K H (.bl x) (.type "bool")
 |int (i:Int):jq K H (.int i) (.type "int")
 |str (x:Str):jq K H (.str x) (.type "str")
 |wZ (x:UInt64):jq K H (.wZ x) (.type "float")
 |lst {a:Addr} {xs:List V} (e:H a=some (.lst xs)):jq K H (.ref a) (.type "list")
 |bT {a:Addr} {o:Obj} {xs:List V} (e:H a=some (.bT o (.lst xs))):jq K H (.ref a) (.type "list")
 |tup {a:Addr} {xs:List V} (e:H a=some (.tup xs)):jq K H (.ref a) (.type "tuple")
 |dK {a:Addr} {kvs:List (Key×V)} (e:H a=some (.dK kvs)):jq K H (.ref a) (.type "dict")
 |dT {a:Addr} {kvs:List (List Key×V)} (e:H a=some (.dT kvs)):jq K H (.ref a) (.type "dict")
 |ins {a C dx:Addr} {fs:List (Str×V)} (e:H a=some (.ins C dx fs)) (cl:JF K C) (ha:PySem.W.findIn K (.ref C) "__class__" = some (some (.builtin "object.__class__")))
   (hn:PySem.W.specialIn K (.builtin "object.__class__") "__get__" = some (some (.builtin "getset_descriptor.__get__"))) (htk:PySem.W.takesIn K (.builtin "object.__class__")=some true)
   (hm:PySem.W.mroIn K C (.type "object")=some true):jq K H (.ref a) (.ref C)
def jV{x:V}{u t:Value}(I:Inv X pins σ H s)(rx:RelV x u)(ty:jq X.K H x t)(e:PySem.W.kitOne X.K t c=some b)(h:∀tk,Q (.bool b) { s with toks:=tk }) :
  wpAny (model X.prog X.w) A (call (.builtin "isinstance") [u,c]) Q E s:=by
 cases ty with
 |bG=>cases (show u=Value.none from rx);exact XR PySem.W.kitx_none I.fR True.intro e (λz=>nomatch z) h
 |bl y=>cases (show u=Value.bool y from rx);exact XR PySem.W.kitx_bool I.fR True.intro e (λz=>nomatch z) h
 |int i=>obtain⟨t,q⟩:=(show ∃t,u=Value.int i t from rx);cases q;exact XR PySem.W.kitx_int I.fR True.intro e (λz=>nomatch z) h
 |str y=>obtain⟨t,q⟩:=(show ∃t,u=Value.str y t from rx);cases q;exact XR PySem.W.kitx_str I.fR True.intro e (λz=>nomatch z) h
 |wZ y=>obtain⟨t,q⟩:=(show ∃t,u=Value.float y t from rx);cases q;exact XR PySem.W.kitx_float I.fR True.intro e (λz=>nomatch z) h
 |@lst a j d=>
  cases (show u=Value.ref a from rx);obtain⟨_,_,n,_,f⟩:=(show dG X.prog X.w H s.heap a (.lst j)from I.hok a _ d)
  exact XR ZL I.fR ⟨_,f,rfl⟩ e (λz=>nomatch z) h
 |@bT a B j d=>
  cases (show u=Value.ref a from rx);obtain⟨_,_,_,n,_,f⟩:=(show dG X.prog X.w H s.heap a (.bT B (.lst j))from I.hok a _ d)
  exact XR ZL I.fR ⟨_,f,rfl⟩ e (λz=>nomatch z) h
 |@tup a j d=>
  cases (show u=Value.ref a from rx);obtain⟨_,_,_,p⟩:=(show dG X.prog X.w H s.heap a (.tup j)from I.hok a _ d)
  obtain⟨o,f,k,_⟩:=p;exact XR aat I.fR ⟨o,f,k⟩ e (λz=>nomatch z) h
 |@dK a g d=>
  cases (show u=Value.ref a from rx);obtain⟨_,_,P,_,p⟩:=(show dG X.prog X.w H s.heap a (.dK g)from I.hok a _ d)
  obtain⟨o,F,G,f,k,_⟩:=p;exact XR PySem.W.kitx_dict I.fR ⟨o,f,k.1⟩ e (λz=>nomatch z) h
 |@dT a g d=>
  cases (show u=Value.ref a from rx);obtain⟨_,_,j,_,o,F,G,f,k,_⟩:=(show dG X.prog X.w H s.heap a (.dT g)from I.hok a _ d)
  exact XR PySem.W.kitx_dict I.fR ⟨o,f,k.1⟩ e (λz=>nomatch z) h
 |@ins a C Y fs d r L M l N=>
  cases (show u=Value.ref a from rx);obtain⟨Z,O,_⟩:=Gx I.hok d;obtain⟨od,J,_⟩:=O.look;exact XR (PySem.W.kitx_own (r.get _) r.hd L M l N) I.fR J e (λz=>nomatch z) h
end
structure gO(k:Nat)(A:Around):Prop where
 hd:A.handled=none
 dp:A.depth+3*k+5<recursionLimit
 un:A.units+16*k+200<cLine
theorem gO.deeper{k:Nat}{A:Around}(r:gO (k+1) A)(env:Env):gO k (A.deeper env):=
 ⟨r.hd,by have:=r.dp;show A.depth+1+3*k+5<_;omega,by have:=r.un;show A.units+3+16*k+200<_;omega⟩
theorem gO.depth{k:Nat}{A:Around}(r:gO k A):A.depth<recursionLimit:=by have:=r.dp;omega
noncomputable def Sn:TA:=λ_ H Q=>Q [] H
noncomputable def tP(ta:TE)(tr:TA):TA:=λσ H Q=>ta σ H λx H1=>tr σ H1 λa H2=>Q (x :: a) H2
section
variable{X:Cx}{e:Expr}{es:List Expr}{te:TE}{t:TA}{pos:Pos}
def pP:PA X [] Sn:=λ_ _ _ _ H Q I h=>ZO ⟨[],H,I,.nil,h⟩
def kE(ha:PE X e te)(hr:PA X es t)(hs:starEach (e :: es) X.env=(false,eval e X.env) :: starEach es X.env:=by rfl):PA X (e :: es) (tP te t):=by
 intro pos a s σ H Q I h;rw[hs];show wpAny _ _ (spliced ((false,eval e X.env) :: backTo pos (starEach es X.env))) _ _ s;refine Yi (aX (ha a s σ H _ I h) λu s1 ⟨x,H1,I1,b,c⟩=>?_);exact aX (hr pos a s1 σ H1 _ I1 c) λi s2 ⟨d,H2,I2,f,g⟩=>⟨x :: d,H2,I2,.cons b f,g⟩
noncomputable def So(t:TA):TE:=λσ H Q=>t σ H λa H1=>a.length<=sizeLine/\∀p,H1 p=none->Q (.ref p) (upd H1 p (.tup a))
noncomputable def Sq(t:TA):TE:=λσ H Q=>t σ H λa H1=>a.length<=sizeLine/\∀p,H1 p=none->Q (.ref p) (upd H1 p (.lst a))
def JH{x1}(h:PA X es t):PE X (.Tuple es x1 pos) (So t):=by
 intro a s σ H Q I hq;refine wpAny_Tuple_spliced (aX (h pos a s σ H _ I hq) λc s1 ⟨d,H1,I1,r,z,q⟩=>⟨by rw[<-r.length];exact z,?_⟩);have f:H1 s1.heap.objs.size=none:=I1.hok.fresh (VG _);refine⟨.ref s1.heap.objs.size,upd H1 s1.heap.objs.size (.tup d),I1.laid (t':=s1.toks) (λb u e=>Tw _ e) (VG _) ?_,rfl,q _ f⟩;exact⟨z,c,r,⟨_,Xv _ rfl,rfl,_,rfl⟩⟩
def JJ(h:PA X es t):PE X (.List es pos) (Sq t):=by
 intro a s σ H Q I hq;refine wpAny_List_spliced (aX (h pos a s σ H _ I hq) λc s1 ⟨d,H1,I1,r,z,q⟩=>⟨by rw[<-r.length];exact z,?_⟩);have f:H1 s1.heap.objs.size=none:=I1.hok.fresh (VG _);refine⟨.ref s1.heap.objs.size,upd H1 s1.heap.objs.size (.lst d),I1.laid (t':=s1.toks) (λb u e=>Tw _ e) (VG _) ?_,rfl,q _ f⟩;exact⟨z,c,0,r,Xv _ rfl⟩
end
abbrev Sp:=List V->Hp->VK->XK->Prop
abbrev lU:=List Env->Hp->Shared->XK->Value->Shared->Prop
structure zb(P:Program)(w:World)(K:PySem.W.Frag)(mg:Str->Option Value)(base:Heap)(A:Around)(outer:List Env)(s:Shared)(H:Hp):Prop where
 frames:A.frames=some outer
 mod:Mod K mg base
 bs:∀b o,base.get? b=some o->s.heap.get? b=some o/\H b=none
 rP:base.objs.size<=s.heap.objs.size
 jn:s.heap.FunFrames base outer
 ue:∀b∈frs outer,H b=none
 hok:fM P w H s.heap
 bare:AllBare s.gens
def CE(outer:List Env)(P:Program)(w:World)(H:Hp)(s:Shared)(Q:VK)(u:Value)(s':Shared):Prop:=
 ∃v H',s'.os=s.os/\AllBare s'.gens/\Un (frs outer) [] H H' s.heap s'.heap/\fM P w H' s'.heap/\RelV v u/\Q v H'
def CR(CX:lU)(outer:List Env)(P:Program)(w:World)(H:Hp)(s:Shared)(Q:VK)(E:XK)(r:Result)(s':Shared):Prop:=
 match r with
 |.ok (.ret u)=>CE outer P w H s Q u s'
 |.ok _=>False
 |.error e=>CX outer H s E e s'
structure iP(P:Program)(w:World)(K:PySem.W.Frag)(mg:Str->Option Value)(base:Heap)(CX:lU)(k:Nat)(f:Addr)(fd:FuncData)(ps:List Str)(sp:Sp):Prop where
 len:∀vs H Q E,sp vs H Q E->vs.length=ps.length
 run:∀(A:Around) (outer:List Env) (s:Shared) (H:Hp) (args:Args) (us:List Value) (vs:List V) (Q:VK) (E:XK),gO k A->zb P w K mg base A outer s H->BindsTo s fd args (ps.zip us)->Vals vs us->sp vs H Q E->
  codeAny (model P w) A (.call (.ref f) args) (CR CX outer P w H s Q E) s
section
variable{X:Cx}{pins:List (Addr×Obj)}{σ:St}{H:Hp}{s s':Shared}
def Inv.Su(I:Inv X pins σ H s):zb X.prog X.w X.K X.mg X.base X.A X.stack s H:=
 ⟨I.ok.frames,I.ok.mod,I.bs,Xm I.ok.rP I.sz,I.stack,I.xj,I.hok,I.bare⟩
def Inv.after{Q:VK}{u:Value}(I:Inv X pins σ H s)(h:CE X.stack X.prog X.w H s Q u s'):EP X pins σ Q u s':=by
 obtain⟨v,H',f,a,un,c,r,q⟩:=h;obtain⟨i,g,d,t,e⟩:=s';obtain rfl:e=s.os:=f;exact⟨v,H',I.call (h':=i) (g':=g) (d':=d) (t':=t) (ch:=[]) un c a (λb z=>absurd z (by simp)),r,q⟩
end
noncomputable def EL(sp:Sp)(jb:List V)(E:XK)(t:TA):TE:=λσ H Q=>t σ H λa H1=>sp (a++jb) H1 Q E
def Binds(K:PySem.W.Frag)(fd:FuncData)(ps:List Str)(ds:List Value):Prop:=
 ∀(s:Shared) (us:List Value),K.In s.heap->(us++ds).length=ps.length->BindsTo s fd ⟨us,[]⟩ (ps.zip (us++ds))
def Binds.all{K:PySem.W.Frag}{fd:FuncData}{ps:List Str}(h:∀us:List Value,us.length=ps.length->bindArgs fd ⟨us,[]⟩=pure (ps.zip us)):Binds K fd ps []:=λs us _ a=>by
 rw[XZ]at a ⊢;exact .of_eq (h us a)
def Passes(CX:lU)(X:Cx)(E:XK):Prop:=∀(pins:List (Addr×Obj)) (σ:St) (H:Hp) (s:Shared) (e:Value) (s':Shared),Inv X pins σ H s->CX X.stack H s E e s'->X.xe e s'
section
variable{X:Cx}{CX:lU}{k:Nat}{f:Addr}{fd:FuncData}{ps:List Str}{sp:Sp}{jb:List V}{ds:List Value}{E:XK}{x:Str}{p pos:Pos}{e:Expr}{es:List Expr}{t:TA}
def AS{pins:List (Addr×Obj)}{σ:St}{H:Hp}{s:Shared}{Q:VK}{us:List Value}{vs:List V}(F:iP X.prog X.w X.K X.mg X.base CX k f fd ps sp)(hr:gO k X.A)(hb:Binds X.K fd ps ds)(hd:Vals jb ds)(hx:Passes CX X E)
  (I:Inv X pins σ H s) (r:Vals vs us) (h:sp (vs++jb) H Q E):wpAny (model X.prog X.w) X.A (call (.ref f) us) (EP X pins σ Q) X.xe s:=by
 have b:Vals (vs++jb) (us++ds):=r.append hd;have c:(us++ds).length=ps.length:=by rw[<-b.length];exact F.len _ _ _ _ h
 refine wpAny_call (codeAny_mono (F.run X.A X.stack s H ⟨us,[]⟩ (us++ds) (vs++jb) Q E hr I.Su (hb s us I.fR c) b h) λr d a=>?_);cases r with
 |error e=>exact hx pins σ H s e d I a
 |ok fl=>
  cases fl with
  |ret u=>exact I.after a
  |next=>exact False.elim a
  |brk=>exact False.elim a
  |cont=>exact False.elim a
def Gy(F:iP X.prog X.w X.K X.mg X.base CX k f fd ps sp)(hr:gO k X.A)(hg:Gl X x)(hm:X.mg x=some (.ref f))(hk:PySem.W.keepIn X.K (.ref f)=true)(hb:Binds X.K fd ps ds)(hd:Vals jb ds)(hx:Passes CX X E)
  (ha:PA X (e :: es) t) (hdb:(x==("__debug__" : Str))=false:=by decide) (he:starEach (e :: es) X.env=(false,eval e X.env) :: starEach es X.env:=by rfl) (hpl:(backTo pos (starEach es X.env)).any (·.1)=false:=by rfl) :
  PE X (.Call (.Name x p) (e :: es) [] pos) (EL sp jb E t):=by
 intro a s σ H Q I h;refine Yx (qJ I hg hm ?_ hdb);refine aau (h₀:=X.base) I.ok.mod.AE hk (aX (ha pos a s σ H _ I h) λb s1 ⟨c,H1,I1,r,q⟩=>⟨I1.fR,?_⟩) he hpl;exact AS F hr hb hd hx I1 r q
end
structure bg(N P:List Str)(sc:Scope):Prop where
 kind:sc.kind=.function
 co:sc.isCoroutine=false
 gen:sc.isGenerator=false
 nd:N.Nodup
 pre:N.take P.length=P
 par:∀x∈P,sc.names.lookup x=some .local\/sc.names.lookup x=some .cell
 JK:∀y∈sc.names,y.2≠.free
theorem rT{kindOf:Str->Option NameKind}{x:Str}:∀{binds:List (Str×Value)}{m:Str->Option Value},(∀v,(x,v)∉binds)->bindL kindOf binds m x=m x
 |[],_,_=>rfl
 | (n,v) :: r,m,h=>by
  unfold bindL;rw[rT λw a=>h w (Xy _ a)];split
  .have:x≠n:=by rintro rfl;exact h v X5
   simp[this]
  .rfl
theorem rV{kindOf:Str->Option NameKind}{x:Str}:∀{binds:List (Str×Value)}{m:Str->Option Value},(∀v,(x,v)∉binds)->bindC kindOf binds m x=m x
 |[],_,_=>rfl
 | (n,v) :: r,m,h=>by
  unfold bindC;rw[rV λw a=>h w (Xy _ a)];split
  .rfl
  .have:x≠n:=by rintro rfl;exact h v X5
   simp[this]
theorem rW{kindOf:Str->Option NameKind}{x:Str}{v:Value}:∀{P:List Str}{vs:List Value}{i:Nat}{m:Str->Option Value},P.Nodup->P[i]?=some x->vs[i]?=some v->kindOf x=some .local->
  bindL kindOf (P.zip vs) m x=some v
 |[],_,_,_,_,h,_,_=>by simp at h
 |_ :: _,[],_,_,_,_,h,_=>by simp at h
 |p :: P,w :: vs,0,m,nd,h1,h2,hk=>by
  simp at h1 h2;subst h1;subst h2;show bindL kindOf ((p,w) :: P.zip vs) m p=_;unfold bindL;rw[rT λv a=>(List.nodup_cons.mp nd).1 (Z7 a).1,IC hk];simp
 |p :: P,w :: vs,i+1,m,nd,h1,h2,hk=>by
  show bindL kindOf ((p,w) :: P.zip vs) m x=_;unfold bindL;exact rW (i:=i) (List.nodup_cons.mp nd).2 (by simpa using h1) (by simpa using h2) hk
theorem rX{kindOf:Str->Option NameKind}{x:Str}{v:Value}:∀{P:List Str}{vs:List Value}{i:Nat}{m:Str->Option Value},P.Nodup->P[i]?=some x->vs[i]?=some v->kindOf x≠some .local->
  bindC kindOf (P.zip vs) m x=some v
 |[],_,_,_,_,h,_,_=>by simp at h
 |_ :: _,[],_,_,_,_,h,_=>by simp at h
 |p :: P,w :: vs,0,m,nd,h1,h2,hk=>by
  simp at h1 h2;subst h1;subst h2;show bindC kindOf ((p,w) :: P.zip vs) m p=_;unfold bindC;rw[rV λv a=>(List.nodup_cons.mp nd).1 (Z7 a).1,T8 hk];simp
 |p :: P,w :: vs,i+1,m,nd,h1,h2,hk=>by
  show bindC kindOf ((p,w) :: P.zip vs) m x=_;unfold bindC;exact rX (i:=i) (List.nodup_cons.mp nd).2 (by simpa using h1) (by simpa using h2) hk
noncomputable def start(N:List Str)(vs:List V):St:=vs.map some++List.replicate (N.length - vs.length) none
noncomputable def o6(CX:lU)(P:Program)(w:World)(K:PySem.W.Frag)(mg:Str->Option Value)(base:Heap)(N:List Str)(qual:Str)(scope:Scope)(f:Addr)(cd:Value)(A:Around)(outer:List Env)(s:Shared)(H:Hp)(E:XK):Cx where
 prog:=P
 w:=w
 K:=K
 mg:=mg
 base:=base
 A:=A.deeper (envOfC qual scope s.heap.objs.size f cd)
 N:=N
 s₀:=s
 H₀:=H
 env:=envOfC qual scope s.heap.objs.size f cd
 outer:=outer
 stack:=envOfC qual scope s.heap.objs.size f cd :: outer
 ex:=[]
 calm:=true
 fn:=λ_=>true
 pn:=[]
 xe:=λe b=>wpAny (model P w) (A.deeper (envOfC qual scope s.heap.objs.size f cd)) (leaving (envOfC qual scope s.heap.objs.size f cd) e) (λ_ a=>CX outer H s E e a) (λc a=>CX outer H s E c a) b
def uq{sc:Scope}{n:Nat}{x:Str}(h:sc.names.lookup x=some .cell):∃c,(cellsFrom n sc.names []).lookup x=some c:=by
 have q:=aaa sc.names n [] (.inl h);exact Option.isSome_iff_exists.mp q
def AU{CX:lU}{P:Program}{w:World}{K:PySem.W.Frag}{mg:Str->Option Value}{base:Heap}{N ps:List Str}{qual:Str}{scope:Scope}{f:Addr}{cd:Value}{A:Around}{outer:List Env}{s s1:Shared}{H:Hp}{E:XK}{us:List Value}{vs:List V}
  (S:bg N ps scope) (hd:A.handled=none) (e0:zb P w K mg base A outer s H) (hl:vs.length=ps.length) (r:Vals vs us)
  (x:InCallC s s.heap.objs.size (bindL (envOfC qual scope s.heap.objs.size f cd).kindOf (ps.zip us) λ_=>none) (cellsFrom (s.heap.objs.size+1) scope.names []) (bindC (envOfC qual scope s.heap.objs.size f cd).kindOf (ps.zip us) λ_=>none) s1) :
  Inv (o6 CX P w K mg base N qual scope f cd A outer s H E) [] (start N vs) H s1:=by
 have F:ps.length<=N.length:=by have:=Xp List.length S.pre;rw[YV]at this;omega
 obtain⟨l,tk,rfl,B⟩:=x.done;have AV:∀b:Addr,b∉(o6 CX P w K mg base N qual scope f cd A outer s H E).ex:=λb z=>absurd (show b∈([]:List Addr)from z) (by simp);refine⟨⟨e0.mod,S.kind,rfl,rfl,VG _,λy z c l d=>?_,λy g=>?_,λy c _ h=>?_,λ_=>hd,Around.frames_deeper e0.frames,.inr ⟨rfl,rfl⟩,λb z=>absurd z (AV b),e0.bs,e0.rP,λb _ _=>AV b,λb z=>absurd z (AV b),e0.jn,e0.ue⟩,
  rfl,e0.bare,Un.kept B,⟨_,x.toInCall.ns,λi y v l d I=>?_⟩,λy c h=>⟨_,x.cell y c h⟩,e0.hok.fresh (VG _),λy c h=>?_,λp j=>absurd (show p∈([]:List (Addr×Obj))from j) (by simp),e0.hok.kept B,?_⟩
 .exact name_of_addr x.apart (YH l) (YH d)
 .have g:scope.names.lookup y=some .cell\/scope.names.lookup y=some .free:=g;rcases g with g|g
  .exact uq g
  .exact absurd rfl (S.JK _ (YH g))
 .exact aar (x.above y c (YH h))
 .have o:i<vs.length:=by
   unfold start at d;by_cases o:i<vs.length
   .exact o
   .rw[Yh (by simpa using o)]at d;rw[Z4]at d;split at d<;>cases d
  have G:vs[i]?=some v:=by
   unfold start at d;rw[Vf (by simpa using o),XO]at d;cases e:vs[i]? with
   |none=>rw[e]at d;cases d
   |some a=>rw[e]at d;cases d;rfl
  obtain⟨u,C,rv⟩:=r.get G;have j:ps[i]?=some y:=by
   rw[<-S.pre,List.getElem?_take_of_lt (by omega)];exact l
  have Qx:ps.Nodup:=by rw[<-S.pre];exact S.nd.sublist (List.take_sublist _ _)
  refine⟨u,rv,?_⟩;rcases S.par y (Xx j)with k|k
  .exact .inl ⟨k,rW Qx j C k⟩
  .obtain⟨c,e⟩:=uq (n:=s.heap.objs.size+1) k;refine .inr ⟨.inl k,c,e,?_⟩;have q:=x.cell y c e;rw[rX Qx j C (by show scope.names.lookup y≠_;rw[k];decide)]at q;exact q
 .exact e0.hok.fresh (aar (x.above y c (YH h)))
 .unfold start;show _=N.length;rw[T7,XA,Yl];omega
def O8{CX:lU}{P:Program}{w:World}{K:PySem.W.Frag}{mg:Str->Option Value}{base:Heap}{k:Nat}{f:Addr}{name qual:Str}{params:Arguments}{body:List Stmt}{scope:Scope}{dV kV doc pm cdv ct oc:Value}{an od:Option Addr}
  {osl:Array (Option Value)} {N ps:List Str} {sp:Sp} (lk:K.lookup f=some ⟨oc,od,.func (PySem.W.fnOf name qual params body scope dV kV doc pm an cdv ct),osl⟩) (hcd:PySem.W.codeIn K cdv qual=true) (S:bg N ps scope)
  (len:∀vs H Q E,sp vs H Q E->vs.length=ps.length)
  (hbody:∀(A:Around) (outer:List Env) (s:Shared) (H:Hp) (vs:List V) (Q:VK) (E:XK),gO k (A.deeper (envOfC qual scope s.heap.objs.size f cdv))->sp vs H Q E->
   ∃t,gq (o6 CX P w K mg base N qual scope f cdv A outer s H E) body t/\t { nx:=λ_ H'=>Q .bG H',rt:=Q } (start N vs) H) :
  iP P w K mg base CX (k+1) f (PySem.W.fnOf name qual params body scope dV kV doc pm an cdv ct) ps sp:=by
 refine⟨len,λA outer s H args p vs Q E h d z r l=>?_⟩;have B:=len _ _ _ _ l;have KX:K.In s.heap:=d.mod.AE.keeps λb o e=>(d.bs b o e).1;have i:s.heap.NoLimit:=d.mod.nolimit.keeps λb o e=>(d.bs b o e).1;have a:∀y∈ps.zip p,scope.names.lookup y.1=some .local\/(scope.names.lookup y.1=some .cell/\((cellsFrom (s.heap.objs.size+1) scope.names []).lookup y.1).isSome=true):=λ⟨n,v⟩ C=>by
  rcases S.par n (Z7 C).1 with q|q
  .exact .inl q
  .exact .inr ⟨q,aaa _ _ _ (.inl q)⟩
 refine codeAny_call_function h.depth (KX _ _ lk) rfl S.co S.gen rfl (PySem.W.codeRec_of KX hcd) (z _ _ _ _ ?_);refine wpAny_newFunctionEnv_cells S.kind a λF G s1 x=>?_;subst G;refine⟨i.keeps x.toInCall.keep,codeAny_func ?_⟩;obtain⟨t,L,M⟩:=hbody A outer s H vs Q E (h.deeper _) l;have I:Inv (o6 CX P w K mg base N qual scope f cdv A outer s H E) [] (start N vs) H s1:=AU S h.hd d B r x;refine Yu (L [] s1 (start N vs) H _ I M) (λfl j c=>?_) λe j c=>c;have fin:∀{g:St} {H':Hp} {v:V} {u:Value},Inv (o6 CX P w K mg base N qual scope f cdv A outer s H E) [] g H' j->RelV v u->Q v H'->CE outer P w H s Q u j:=
  λ{g H' v u} J rv q=>⟨v,H',J.os,J.bare,J.base,J.hok,rv,q⟩
 cases fl with
 |ret u=>
  obtain⟨v,g,H',J,rv,q⟩:=c;exact fin J rv q
 |next=>
  obtain⟨g,H',J,q⟩:=c;exact fin (v:=V.bG) (u:=Value.none) J rfl q
 |brk=>
  obtain⟨_,_,_,q⟩:=c;exact False.elim q
 |cont=>
  obtain⟨_,_,_,q⟩:=c;exact False.elim q
section
variable{X:Cx}{x:Str}{p pos:Pos}{e:Expr}{es:List Expr}{t:TA}{id T:String}{r:List V->Hp->VK->Prop}
noncomputable def EM(r:List V->Hp->VK->Prop)(t:TA):TE:=λσ H Q=>t σ H λa H1=>r a H1 Q
def ur (hc:dh X (.builtin id) r) (hg:Gl X x) (hm:X.mg x=none) (hv:bootBuiltins x=some (.builtin id)) (ha:PA X (e :: es) t) (hn:x≠"__name__" :=by decide) (hdb:(x==("__debug__" : Str))=false:=by decide)
  (he:starEach (e :: es) X.env=(false,eval e X.env) :: starEach es X.env:=by rfl) (hpl:(backTo pos (starEach es X.env)).any (·.1)=false:=by rfl):PE X (.Call (.Name x p) (e :: es) [] pos) (EM r t):=by
 intro a s σ H Q I h;refine Yx (iZ I hg hm hv ?_ hn hdb);exact Zw (aX (ha pos a s σ H _ I h) λb s1 ⟨c,H1,I1,d,f⟩=>hc a s1 σ H1 c b Q I1 d f) he hpl
def rY (hc:dh X (.type T) r) (hg:Gl X x) (hm:X.mg x=none) (hv:bootBuiltins x=some (.type T)) (ha:PA X (e :: es) t) (hn:x≠"__name__" :=by decide) (hdb:(x==("__debug__" : Str))=false:=by decide)
  (he:starEach (e :: es) X.env=(false,eval e X.env) :: starEach es X.env:=by rfl) (hpl:(backTo pos (starEach es X.env)).any (·.1)=false:=by rfl):PE X (.Call (.Name x p) (e :: es) [] pos) (EM r t):=by
 intro a s σ H Q I h;refine Yx (iZ I hg hm hv ?_ hn hdb);exact Yc (aX (ha pos a s σ H _ I h) λb s1 ⟨c,H1,I1,d,f⟩=>hc a s1 σ H1 c b Q I1 d f) he hpl
end
end L2
namespace HT
open PySem PyProof.Rows
section
variable{prog:Program}{w:World}{A:Around}{E:Value->Shared->Prop}{s:Shared}
def Gz{t b:Addr}{vs ws:List Value}{Q:Value->Shared->Prop}(ht:IsTup s.heap t vs.toArray)(hb:IsTup s.heap b ws.toArray)(hv:vs≠[])
  (h1:ws=[]->Q (.ref t) s) (h2:ws≠[]->Q (.ref s.heap.objs.size) { s with heap:=s.heap.push { cls:=.type "tuple",data:=.seq (vs++ws).toArray }})
  (hsz:vs.length+ws.length<=sizeLine):wpAny (model prog w) A (binaryOp .Add (.ref t) (.ref b)) Q E s:=by
 obtain⟨⟨cls,k,data,l⟩,h,o,n,p⟩:=id ht;obtain⟨⟨Sv,c,j,d⟩,a,f,n2,g⟩:=id hb;simp only at o p f g;subst o p f g;have e:vs.toArray++ws.toArray=(vs++ws).toArray:=by simp
 by_cases i:ws=[]
 .exact concat_meets ⟨_,h,rfl⟩ ⟨_,a,rfl⟩ ZZ seq_tuple_add Zj Zd (Y8 _ _)
   (tuple_addW1 t b vs.toArray ws.toArray n n2 k c l d (by simpa using hv) (by simp[i])) ⟨h,a,h1 i⟩
 .refine concat_meets ⟨_,h,rfl⟩ ⟨_,a,rfl⟩ ZZ seq_tuple_add Zj Zd (Y8 _ _)
   (tuple_addW2 t b vs.toArray ws.toArray n n2 k c l d (by simpa using hv) (by simpa using i) (by rw[Q4,Q4];exact hsz)) ⟨h,a,?_⟩
  rw[e];exact h2 i
noncomputable def aR(n d:Nat):Option Int->Nat
 |none=>d
 |some v=>if v<0 then (v+(n:Int)).toNat else min v.toNat n
def uu(n d:Nat)(hd:d<=n)(o:Option Int):aR n d o<=n:=by
 cases o with
 |none=>exact hd
 |some v=>
  show(if v<0 then (v+(n:Int)).toNat else min v.toNat n)<=n;by_cases a:v<0
  .rw[IC a];omega
  .rw[T8 a];exact Nat.min_le_right _ _
def xr(v:Int)(n d:Nat):(if v<0 then max (v+(n:Int)) 0 else min v (n:Int))=((aR n d (some v):Nat):Int):=by
 show(if v<0 then max (v+(n:Int)) 0 else min v (n:Int))=(((if v<0 then (v+(n:Int)).toNat else min v.toNat n):Nat):Int)
 by_cases a:v<0
 .simp only[IC a];omega
 .simp only[T8 a];omega
def zc(lo hi:Option Int)(n:Nat):Builtin.Slice.sliceAdjust lo hi 1 (n:Int)=(((aR n 0 lo:Nat):Int),((aR n n hi:Nat):Int)):=by
 have a:¬ ((1:Int)<0):=by omega
 unfold Builtin.Slice.sliceAdjust;simp only[a,XE];refine Prod.ext ?_ ?_
 .cases lo with
  |none=>rfl
  |some v=>exact xr v n 0
 .cases hi with
  |none=>rfl
  |some v=>exact xr v n n
def zd(i j:Nat):Builtin.Slice.slicePlaces (i:Int) (j:Int) 1=j - i:=by
 unfold Builtin.Slice.slicePlaces;have a:(1:Int) > 0:=by omega
 simp only[a,Xq,Int.ediv_one];split<;>omega
def pQ{v:Value}{o:Option Int}{Q:Option Int->Shared->Prop}(p:IsPart v o)(h:Q o s):wpAny (model prog w) A (Builtin.Slice.slicePartIndex v) Q E s:=by
 cases p with
 |none=>exact slicePart_none h
 |int i t=>exact slicePart_int h
def jL{sl:Addr}{vl vu:Value}{lo hi:Option Int}{n:Nat}{Q:Int×Int×Nat->Shared->Prop}(hs:s.heap.IsSliceOf sl vl vu .none)(pl:IsPart vl lo)(pu:IsPart vu hi)
  (h:Q (((aR n 0 lo:Nat):Int),1,aR n n hi - aR n 0 lo) s):wpAny (model prog w) A (Builtin.Slice.sliceApplied (.ref sl) (pure (n:Int))) Q E s:=by
 obtain⟨d,a,c,b⟩:=id hs;unfold Builtin.Slice.sliceApplied Builtin.Slice.sliceFields;refine gV (gV (Yv a b (x:=vl) rfl (gV (Yv a b (x:=vu) rfl (gV (Yv a b (x:=.none) rfl (Vg ?_)))))));refine gV (slicePart_none ?_);show wpAny _ _ (if ((1:Int)==0)=true then _ else _) _ _ s;rw[T8 (by decide)];refine gV (pQ pl (gV (pQ pu (gV (Vg ?_)))));show wpAny _ _ (match Builtin.Slice.sliceAdjust lo hi 1 (n:Int)with | (lo,hi)=>pure (lo,(1:Int),Builtin.Slice.slicePlaces lo hi 1)) _ _ s;rw[zc lo hi n];show wpAny _ _ (pure (((aR n 0 lo:Nat):Int),(1:Int),Builtin.Slice.slicePlaces ((aR n 0 lo:Nat):Int) ((aR n n hi:Nat):Int) 1)) _ _ s;rw[zd];exact Vg h
def C7(xs:Array Value)(i k:Nat):((List.range k).filterMap λ(m:Nat)=>xs[((i:Int)+(m:Int)*1).toNat]?).toArray=((xs.toList.drop i).take k).toArray:=by
 have e:(λ(m:Nat)=>xs[((i:Int)+(m:Int)*1).toNat]?)=λm=>xs[i+m]?:=by
  funext m
  have:((i:Int)+(m:Int)*1).toNat=i+m:=by omega
  rw[this]
 rw[e];have:=pick_run xs i k;rw[List.filterMap_map]at this;have a:((λx=>xs[x]?) ∘ λx=>i+x)=λm=>xs[i+m]?:=rfl;rw[a]at this;rw[this]
def oh{t sl:Addr}{items:Array Value}{vl vu:Value}{lo hi:Option Int}{Q:Value->Shared->Prop}(ht:IsTup s.heap t items)(hs:s.heap.IsSliceOf sl vl vu .none)(pl:IsPart vl lo)(pu:IsPart vu hi)
  (hw:¬ (aR items.size 0 lo=0/\aR items.size items.size hi=items.size))
  (h:Q (.ref s.heap.objs.size) { s with heap:=s.heap.push { cls:=.type "tuple",data:=.seq ((items.toList.drop (aR items.size 0 lo)).take (aR items.size items.size hi - aR items.size 0 lo)).toArray }})
  (hsz:items.size<=sizeLine):wpAny (model prog w) A (getItem (.ref t) (.ref sl)) Q E s:=by
 have a:sizeOk (.seq ((items.toList.drop (aR items.size 0 lo)).take (aR items.size items.size hi - aR items.size 0 lo)).toArray):=by
  show((items.toList.drop (aR items.size 0 lo)).take (aR items.size items.size hi - aR items.size 0 lo)).toArray.size<=sizeLine;rw[Q4,YV,YG,YZ];omega
 have g:aR items.size items.size hi<=items.size:=uu _ _ (VG _) hi;obtain⟨e,b,c,f⟩:=id hs;have JL:s.TypeIs (.ref sl) "slice" :=⟨e,b,c⟩
 unfold getItem;try with_reducible refine wpAny_holding ?_
 first|refine gV (Vg ?_)|skip
 refine gV (wpAny_sequenceKey ht.typeIs (by decide) ?_);refine gV (YJ (name:=Str.ofString "__getitem__") ht.typeIs Ym
  (YF Ym ht.typeIs entry_tuple_getitem ?_ (args_tuple_getitem _ _)))
 show wpAny _ _ (Builtin.Tuple.tupleItemsOf (.ref t) >>= _) _ _ s;refine gV (tupleItemsOf_ ht ?_);refine gV (ZU JL ?_);rw[IC (by decide)];refine gV (jL hs pl pu ?_);have d:¬ ((((aR items.size 0 lo:Nat):Int)==0&&(1:Int)==1&&(aR items.size items.size hi - aR items.size 0 lo)==items.size)=true):=by
  intro q;rw[OS,OS]at q;have i:((aR items.size 0 lo:Nat):Int)=0:=eq_of_beq q.1.1;have j:aR items.size items.size hi - aR items.size 0 lo=items.size:=eq_of_beq q.2;exact hw ⟨by omega,by omega⟩
 show wpAny _ _ (if (((aR items.size 0 lo:Nat):Int)==0&&(1:Int)==1&&(aR items.size items.size hi - aR items.size 0 lo)==items.size)=true then _ else _) _ _ s;rw[T8 d,C7];first
  |exact gV (m:=Builtin.Tuple.tupleExact _) (X7 (Vg ⟨_,rfl,Vg h⟩) a)
  |exact gV (m:=Builtin.Tuple.tupleExact _) (X7 (gV (Vg (Vg ⟨_,rfl,Vg h⟩))) a)
  |exact gV (gV (m:=Builtin.Tuple.tupleExact _) (X7 (Vg (Vg ⟨_,rfl,Vg h⟩)) a))
  |exact gV (gV (m:=Builtin.Tuple.tupleExact _) (X7 (Vg ⟨_,rfl,Vg h⟩) a))
end
end HT
namespace L2
open PySem PySem.Spec PyProof.Rows
abbrev TO:=St->Hp->(Option Int->Hp->Prop)->Prop
def PO(X:Cx)(e:Option Expr)(t:TO):Prop:=
 ∀(pins:List (Addr×Obj)) (s:Shared) (σ:St) (H:Hp) (Q:Option Int->Hp->Prop),Inv X pins σ H s->t σ H Q->
  wpAny (model X.prog X.w) X.A (evalPart e X.env) (λu a=>∃o H',Inv X pins σ H' a/\IsPart u o/\Q o H') X.xe s
noncomputable def GA:TO:=λ_ H Q=>Q none H
noncomputable def O9(t:TE):TO:=λσ H Q=>t σ H λx H1=>∃i,x=.int i/\Q (some i) H1
section
variable{X:Cx}{e:Expr}{te:TE}{lo hi:Option Expr}{tl th:TO}{pos p2:Pos}
def GB:PO X none GA:=by
 intro a s σ H Q I h;rw[evalPart_none];exact Vg ⟨none,H,I,.none,h⟩
def GC(h:PE X e te):PO X (some e) (O9 te):=by
 intro a s σ H Q I hw;rw[evalPart_some];refine aX (h a s σ H _ I hw) λu s1 ⟨x,H1,I1,b,c⟩=>?_;obtain⟨i,rfl,q⟩:=c;obtain⟨t,rfl⟩:=b;exact⟨some i,H1,I1,.int i t,q⟩
def kF(X:Cx)(r:V->Option Int->Option Int->Hp->VK->Prop):Prop:=
 ∀(pins:List (Addr×Obj)) (s:Shared) (σ:St) (H:Hp) (x:V) (v vl vu:Value) (lo hi:Option Int) (sl:Addr) (Q:VK),Inv X pins σ H s->RelV x v->s.heap.IsSliceOf sl vl vu .none->IsPart vl lo->IsPart vu hi->r x lo hi H Q->
  ∃T id,typeLookup (.type T) "__getitem__" = pure (some (.builtin id))/\s.TypeIs v T/\wpAny (model X.prog X.w) X.A (getItem v (.ref sl)) (EP X pins σ Q) X.xe s
noncomputable def Ug(r:V->Option Int->Option Int->Hp->VK->Prop)(te:TE)(tl th:TO):TE:=λσ H Q=>te σ H λx H1=>tl σ H1 λl H2=>th σ H2 λu H3=>r x l u H3 Q
def C8{r:V->Option Int->Option Int->Hp->VK->Prop}(hr:kF X r)(he:PE X e te)(hl:PO X lo tl)(hu:PO X hi th):PE X (.Subscript e (.Slice lo hi none p2) pos) (Ug r te tl th):=by
 intro a s σ H Q I h;refine Subscript_ (aX (he a s σ H _ I h) λv s1 ⟨x,H1,I1,f,g⟩=>?_);refine wpAny_Slice (aX (hl a s1 σ H1 _ I1 g) λc s2 ⟨l,H2,I2,i,j⟩=>aX (hu a s2 σ H2 _ I2 j) λd s3 ⟨u,H3,I3,k,o⟩=>?_);rw[evalPart_none];refine Vg ?_;have I4:Inv X a σ H3 { s3 with heap:=s3.heap.push { cls:=.type "slice",data:=.fields #[c,d,.none]}}:=I3.kept (t':=s3.toks) λb B q=>Tw _ q;obtain⟨T,id,p,y,z⟩:=hr a { s3 with heap:=s3.heap.push { cls:=.type "slice",data:=.fields #[c,d,.none]}} σ H3 x v c d l u s3.heap.objs.size Q I4 f (Heap.IsSliceOf.new ..) i k o;show wpAny (model X.prog X.w) X.A (subscriptTail e (.Slice lo hi none p2) v (.ref s3.heap.objs.size)) (EP X a σ Q) X.xe { s3 with heap:=s3.heap.push { cls:=.type "slice",data:=.fields #[c,d,.none]}};exact tail_any (ops:=[.ref s3.heap.objs.size,v]) y p z (by with_unfolding_all rfl)
noncomputable def mC(xs:List V)(lo hi:Option Int):List V:=(xs.drop (HT.aR xs.length 0 lo)).take (HT.aR xs.length xs.length hi - HT.aR xs.length 0 lo)
def oz(xs:List V)(lo hi:Option Int):(mC xs lo hi).length<=xs.length:=by
 unfold mC;rw[YV,YG];omega
def Sw(K:PySem.W.Frag):V->Option Int->Option Int->Hp->VK->Prop:=λx lo hi H Q=>∃a xs,x=.ref a/\dm K H a xs/\
 ¬ (HT.aR xs.length 0 lo=0/\HT.aR xs.length xs.length hi=xs.length)/\∀p,H p=none->Q (.ref p) (upd H p (.tup (mC xs lo hi)))
def JM:kF X (Sw X.K):=by
 intro g s σ H x v vl vu lo hi sl Q I rx hs pl pu h;obtain⟨a,d,rfl,k,l,q⟩:=h;cases rx;obtain⟨f,r,i,j⟩:=I.tuple k;have c:f.toArray.size=d.length:=by rw[Q4];exact r.length.symm
 refine⟨"tuple",_,PyProof.Rows.slot_tuple_getitem.lookup,i.typeIs,?_⟩;refine HT.oh i hs pl pu (by rw[c];exact l) ?_ (by rw[c];exact j);rw[c];refine⟨.ref s.heap.objs.size,_,I.laid (t':=s.toks) (o:=.tup (mC d lo hi)) (λb p q=>Tw _ q) (VG _) ?_,rfl,q _ (I.hok.fresh (VG _))⟩;exact⟨Xm (oz d lo hi) j,_,(r.drop (HT.aR d.length 0 lo)).take (HT.aR d.length d.length hi - HT.aR d.length 0 lo),IsTup.new _ _⟩
noncomputable def Pa(K:PySem.W.Frag):R2:=λx y H Q=>∃a b xs ys,x=.ref a/\y=.ref b/\dm K H a xs/\dm K H b ys/\xs≠[]/\xs.length+ys.length<=sizeLine/\
 (ys=[]->Q (.ref a) H)/\(ys≠[]->∀p,H p=none->Q (.ref p) (upd H p (.tup (xs++ys))))
def Vals.qL{xs:List V}{us:List Value}(r:Vals xs us):us=[]↔xs=[]:=by
 cases r with
 |nil=>simp
 |cons _ _=>simp
def GD:cH X (binaryOp .Add) (Pa X.K):=by
 intro f s σ H x y v u Q I rx ry h;obtain⟨a,b,j,k,rfl,rfl,l,p,r,g,A,B⟩:=h;cases rx;cases ry;obtain⟨C,d,F,_⟩:=I.tuple l;obtain⟨i,c,p2,_⟩:=I.tuple p;refine HT.Gz F p2 (λz=>r (d.qL.mp z)) (λz=>⟨.ref a,H,I,rfl,A (c.qL.mp z)⟩) (λz=>?_) (by rw[<-d.length,<-c.length];exact g);refine⟨.ref s.heap.objs.size,_,I.laid (t':=s.toks) (o:=.tup (j++k)) (λb G q=>Tw _ q) (VG _) ?_,rfl,B (λw=>z (c.qL.mpr w)) _ (I.hok.fresh (VG _))⟩;exact⟨by rw[T7];exact g,_,d.append c,IsTup.new _ _⟩
end
noncomputable def dR(n:Nat)(i:Int):Option Nat:=if 0<=i then (if i<n then some i.toNat else none)else if -(n:Int)<=i then some (i+n).toNat else none
noncomputable def bL{α:Type}(xs:List α)(i:Int):Option α:=(dR xs.length i).bind λj=>xs[j]?
def GF{n:Nat}{i:Int}{j:Nat}(h:dR n i=some j):seqIndex? i n=some j/\j<n/\-(n:Int)<=i/\i<n:=by
 unfold dR at h;by_cases b:0<=i
 .rw[IC b]at h;by_cases a:i<n
  .rw[IC a]at h;have e:i.toNat=j:=M6 h;exact⟨by rw[seqIndex_of b a,e],by omega,by omega,a⟩
  .rw[T8 a]at h;cases h
 .rw[T8 b]at h;by_cases a:-(n:Int)<=i
  .rw[IC a]at h;have e:(i+n).toNat=j:=M6 h;exact⟨by rw[seqIndex_neg (by omega) a,e],by omega,a,by omega⟩
  .rw[T8 a]at h;cases h
def qM{α:Type}{xs:List α}{i:Int}{v:α}(h:bL xs i=some v):∃j,seqIndex? i xs.length=some j/\xs[j]?=some v/\j<xs.length/\-(xs.length:Int)<=i/\i<xs.length:=by
 unfold bL at h;cases e:dR xs.length i with
 |none=>rw[e]at h;cases h
 |some j=>
  rw[e]at h;obtain⟨a,b,c,d⟩:=GF e;exact⟨j,a,h,b,c,d⟩
def xu{α:Type}{xs:List α}{j:Nat}{v:α}(h:xs[j]?=some v):bL xs (j:Int)=some v:=by
 have a:j<xs.length:=(List.getElem?_eq_some_iff.mp h).1;have e:dR xs.length (j:Int)=some j:=by
  unfold dR;rw[IC (by omega),IC (by omega)];simp
 unfold bL;rw[e];exact h
def qN(b:Expr):Prop:=∀o i,subscripted b false o i=operate [o,i] (getItem o i)
def xw(X:Cx)(r:R2):Prop:=
 ∀(value slice:Expr) (pins:List (Addr×Obj)) (s:Shared) (σ:St) (H:Hp) (x y:V) (v u:Value) (Q:VK),Inv X pins σ H s->RelV x v->RelV y u->r x y H Q->
  subscripted slice false v u=operate [v,u] (getItem v u)->wpAny (model X.prog X.w) X.A (subscriptTail value slice v u) (EP X pins σ Q) X.xe s
def oA(X:Cx)(id:String)(r:V->List V->Hp->VK->Prop):Prop:=
 ∀(pins:List (Addr×Obj)) (s:Shared) (σ:St) (H:Hp) (x:V) (xs:List V) (v:Value) (us:List Value) (Q:VK),Inv X pins σ H s->RelV x v->Vals xs us->r x xs H Q->
  wpAny (model X.prog X.w) X.A (call (.builtin id) (v :: us)) (EP X pins σ Q) X.xe s
section
variable{X:Cx}{a b:Expr}{ta tb:TE}{pos:Pos}
def Pb{r:R2}(hr:xw X r)(ha:PE X a ta)(hb:PE X b tb)(hs:qN b):PE X (.Subscript a b pos) (xq r ta tb):=by
 intro c s σ H Q I h;exact Subscript_ (yZ ha hb I h λv u s2 x y H2 I2 d e q=>hr a b c s2 σ H2 x y v u Q I2 d e q (hs _ _))
noncomputable def Sx(K:PySem.W.Frag):R2:=λx y H Q=>∃p xs i v,x=.ref p/\y=.int i/\eY K H p xs/\bL xs i=some v/\Q v H
noncomputable def Sy(K:PySem.W.Frag):R2:=λx y H Q=>∃p xs i v,x=.ref p/\y=.int i/\dm K H p xs/\bL xs i=some v/\Q v H
noncomputable def Sz:R2:=λx y H Q=>∃z i c,x=.str z/\y=.int i/\z.length<=sizeLine/\bL z.cps.toList i=some c/\Q (.str ⟨#[c]⟩) H
def GG:xw X (Sx X.K):=by
 intro e f c s σ H x y v u Q I rx ry h hs;obtain⟨p,P,i,z,rfl,rfl,C,F,q⟩:=h;cases rx;obtain⟨t,rfl⟩:=ry;obtain⟨g,r,k,W⟩:=I.list C;obtain⟨j,d,G,Y,J,L⟩:=qM F;obtain⟨w,A,l⟩:=r.get G;have M:=r.length;have Z:=kD;have fin:EP X c σ Q w s:=⟨z,H,I,l,q⟩
 by_cases B:0<=i
 .have o:i.toNat=j:=by
   rw[seqIndex_of B L]at d;exact M6 d
  exact item_listR k.isList B (by omega) (by rw[o];simpa using A) fin hs
 .have o:(i+(g.toArray.size:Int)).toNat=j:=by
   rw[seqIndex_neg (by omega) J]at d;rw[Q4,<-M];exact M6 d
  exact subscriptTail_builtinR (x:=w) k.isList.typeIs slot_list_getitem.lookup
   (wpAny_getItem_list_neg (Q:=λr N=>r=w/\EP X c σ Q r N) k.isList (by omega) (by rw[Q4]<;>omega) (by omega) (by rw[o];simpa using A) ⟨rfl,fin⟩) hs
def JN:xw X (Sy X.K):=by
 intro d e c s σ H x y v u Q I rx ry h hs;obtain⟨p,J,i,z,rfl,rfl,k,l,q⟩:=h;cases rx;obtain⟨t,rfl⟩:=ry;obtain⟨o,r,g,L⟩:=I.tuple k;obtain⟨j,A,B,M,N,P⟩:=qM l;obtain⟨w,C,f⟩:=r.get B;have F:=r.length;have W:=kD;have fin:EP X c σ Q w s:=⟨z,H,I,f,q⟩
 exact subscriptTail_builtinR (x:=w) g.typeIs slot_tuple_getitem.lookup
  (getItem_tuple (j:=j) (Q:=λr G=>r=w/\EP X c σ Q r G) g (by omega) (by omega) (by rw[Q4,<-F];exact A) (by simpa using C) ⟨rfl,fin⟩) hs
def JP:xw X Sz:=by
 intro d e f s σ H x y v u Q I rx ry h hs;obtain⟨z,i,c,rfl,rfl,C,k,q⟩:=h;obtain⟨t,rfl⟩:=rx;obtain⟨F,rfl⟩:=ry;obtain⟨j,g,l,G,o,p⟩:=qM k;have r:z.cps.toList.length=z.length:=by simp[Str.length]
 rw[r]at g o p;have J:=kD;exact tail_any (Za s z t) slot_str_getitem.lookup (getItem_str (c:=c) (by
  have A:decide (i < -(2 ^ 63:Int))=false:=Xr (by omega);have B:decide (i≥2 ^ 63)=false:=Xr (by omega);rw[A,B,ZI]) (by rw[g];simpa using l) ⟨.str ⟨#[c]⟩,H,I.tok _,⟨_,rfl⟩,q⟩) hs
def uv(lo hi:Option Int)(n:Nat):(sliceBounds lo hi none n).1=((HT.aR n 0 lo:Nat):Int)/\(sliceBounds lo hi none n).2.1=((HT.aR n n hi:Nat):Int)/\(sliceBounds lo hi none n).2.2=1:=by
 refine⟨?_,?_,rfl⟩
 .cases lo with
  |none=>simp[sliceBounds,HT.aR]
  |some i=>
   simp only[sliceBounds,HT.aR,Option.getD_none,show(1:Int) > 0 by decide,Xq];by_cases h:i<0
   .simp only[h,Xq]<;>omega
   .simp only[h,XE]<;>omega
 .cases hi with
  |none=>simp[sliceBounds,HT.aR]
  |some i=>
   simp only[sliceBounds,HT.aR,Option.getD_none,show(1:Int) > 0 by decide,Xq];by_cases h:i<0
   .simp only[h,Xq]<;>omega
   .simp only[h,XE]<;>omega
def tD(its:List Value)(lo hi:Option Int):slicePick its.toArray lo hi none=((its.drop (HT.aR its.length 0 lo)).take (HT.aR its.length its.length hi - HT.aR its.length 0 lo)).toArray:=by
 obtain⟨c,d,e⟩:=uv lo hi its.toArray.size;unfold slicePick;rw[c,d,e];simp only[sliceRange_one,pick_run,Q4]<;>rfl
def SA(K:PySem.W.Frag):V->Option Int->Option Int->Hp->VK->Prop:=λx c d H Q=>∃a xs,x=.ref a/\eY K H a xs/\∀p,H p=none->Q (.ref p) (upd H p (.lst (mC xs c d)))
def GH:kF X (SA X.K):=by
 intro e s σ H x v vl vu lo hi sl Q I rx hs pl pu h;obtain⟨a,c,rfl,g,q⟩:=h;cases rx;obtain⟨i,r,f,j⟩:=I.list g;have d:=r.length;refine⟨"list",_,slot_list_getitem.lookup,f.isList.typeIs,?_⟩;refine wpAny_getItem_list_slice f.isList hs pl pu .none (by simp) ?_ (by rw[Q4]<;>omega);rw[tD,<-d];refine⟨.ref s.heap.objs.size,_,I.laid (t':=s.toks) (o:=.lst (mC c lo hi)) (λb k q=>Tw _ q) (VG _) ?_,rfl,q _ (I.hok.fresh (VG _))⟩;exact⟨Xm (oz c lo hi) j,_,0,(r.drop (HT.aR c.length 0 lo)).take (HT.aR c.length c.length hi - HT.aR c.length 0 lo),Xv _ rfl⟩
noncomputable def tR:V->Bool
 |.bG=>true
 |.bl _=>true
 |.int _=>true
 |.str _=>true
 |_=>false
def mD:dh X (.builtin "len") (λxs H Q=>∃p ys,xs=[.ref p]/\(eY X.K H p ys\/dm X.K H p ys)/\Q (.int ys.length) H):=by
 intro i s σ H xs us Q I r h;obtain⟨p,ys,rfl,d,q⟩:=h;obtain⟨u,rfl,j⟩:=Zo r;cases j;have l:=kD;rcases d with d|d
 .obtain⟨e,f,g,k⟩:=I.list d;have c:=f.length;exact Calls.call_len_list g.isList (by simp only[Q4]<;>omega) ⟨.int ys.length,H,I.tok _,⟨s.toks+1,by rw[Q4,c]⟩,q⟩
 .obtain⟨e,f,g,k⟩:=I.tuple d;have c:=f.length;exact len_tuple g (by simp only[Q4]<;>omega) ⟨.int ys.length,H,I.tok _,⟨s.toks+1,by rw[Q4,c]⟩,q⟩
def uw:dh X (.builtin "len") (λxs H Q=>∃z,xs=[.str z]/\z.length<=sizeLine/\Q (.int z.length) H):=by
 intro c s σ H xs us Q I r h;obtain⟨z,rfl,d,q⟩:=h;obtain⟨u,rfl,t,rfl⟩:=Zo r;have e:=kD;exact YK (by omega) ⟨.int z.length,H,I.tok _,⟨_,rfl⟩,q⟩
def lV:dh X (.type "tuple") (λxs H Q=>∃p ys,xs=[.ref p]/\((eY X.K H p ys/\∀l,H l=none->Q (.ref l) (upd H l (.tup ys)))\/(dm X.K H p ys/\Q (.ref p) H))):=by
 intro c s σ H xs us Q I r h;obtain⟨p,ys,rfl,h⟩:=h;obtain⟨u,rfl,y⟩:=Zo r;cases y;rcases h with ⟨g,q⟩|⟨g,q⟩
 .obtain⟨d,i,j,k⟩:=I.list g;have x:=i.length;refine call_tuple_list j.isList (λf z=>?_) (by simp only[Q4]<;>omega);have I1:Inv X c σ H { s with heap:=f }:=I.kept (t':=s.toks) z;have I2:Inv X c σ (upd H f.objs.size (.tup ys)) { s with heap:=f.push { cls:=.type "tuple",data:=.seq d.toArray }}:=
   I1.laid (t':=s.toks) (λb o e=>Tw _ e) (VG _) (show dG X.prog X.w _ _ _ (.tup ys)from ⟨k,d,i,IsTup.new _ _⟩)
  exact⟨.ref f.objs.size,_,I2,rfl,q _ (I1.hok.fresh (VG _))⟩
 .obtain⟨d,i,j,k⟩:=I.tuple g;exact call_tuple_same j ⟨.ref p,H,I,rfl,q⟩
def AW(K:PySem.W.Frag)(T:String)(x:V)(H:Hp):Prop:=match x with
 |.str _=>T = "str"
 |.int _=>T = "int"
 |.ref p=>(T = "list" /\∃xs,eY K H p xs)\/(T = "tuple" /\∃o,K.lookup p=some o/\o.cls=.type "tuple" /\o.dict=none)\/
   (T = "dict" /\((∃kvs,H p=some (.dK kvs))\/∃kvs,H p=some (.dT kvs)))\/(T = "set" /\∃S n,H p=some (.set S n))
 |_=>False
def uy{pins:List (Addr×Obj)}{σ:St}{H:Hp}{s:Shared}{T:String}{x:V}{v:Value}(I:Inv X pins σ H s)(r:RelV x v)(ty:AW X.K T x H) :
  s.TypeIs v T/\∀a,v=.ref a->∃ob,s.heap.get? a=some ob/\ob.dict=none:=by
 cases x with
 |str z=>
  obtain⟨t,rfl⟩:=r;cases (show T = "str" from ty);exact⟨Za s z t,λ_ e=>nomatch e⟩
 |int i=>
  obtain⟨t,rfl⟩:=r;cases (show T = "int" from ty);exact⟨ZP s i t,λ_ e=>nomatch e⟩
 |ref p=>
  cases r;rcases ty with ⟨rfl,y,k⟩|⟨rfl,o,d,l,f⟩|⟨rfl,d⟩|⟨rfl,S,n,d⟩
  .obtain⟨q,_,j,_⟩:=I.list k;refine⟨j.isList.typeIs,λa e=>?_⟩;cases e;obtain⟨o,n,e,c,f,_⟩:=j;exact⟨o,e,f⟩
  .refine⟨⟨o,I.fR p o d,l⟩,λa e=>?_⟩;cases e;exact⟨o,I.fR _ o d,f⟩
  .have z:∃o,s.heap.get? p=some o/\o.ExactDict:=by
    rcases d with ⟨g,d⟩|⟨g,d⟩
    .obtain⟨_,_,_,_,o,_,_,e,ex,_⟩:=I.hok p _ d;exact⟨o,e,ex⟩
    .obtain⟨_,_,_,_,o,_,_,e,ex,_⟩:=I.hok p _ d;exact⟨o,e,ex⟩
   obtain⟨o,e,ex⟩:=z;refine⟨⟨o,e,ex.1⟩,λa h=>?_⟩;cases h;exact⟨o,e,ex.2.1⟩
  .obtain⟨o,_,_,_,e,ex,_⟩:=I.hok p _ d;refine⟨⟨o,e,ex.1⟩,λa h=>?_⟩;cases h;exact⟨o,e,ex.2.1⟩
 |_=>exact False.elim ty
noncomputable def SD(K:PySem.W.Frag)(T:String)(r:V->List V->Hp->VK->Prop)(to:TE):TE:=λσ H Q=>to σ H λx H1=>AW K T x H1/\r x [] H1 Q
noncomputable def Qy(K:PySem.W.Frag)(T:String)(r:V->List V->Hp->VK->Prop)(to:TE)(t:TA):TE:=λσ H Q=>to σ H λx H1=>AW K T x H1/\t σ H1 λc H2=>r x c H2 Q
variable{o e:Expr}{es:List Expr}{to:TE}{t:TA}{name:Str}{apos cpos:Pos}{T id:String}{r:V->List V->Hp->VK->Prop}
def JQ (pa:PlainAttrs T) (slot:Slot T name id) (hty:typeOf (.builtin id)=pure (.type "method_descriptor")) (hm:oA X id r) (ho:PE X o to)
  (hbase:attributeBase o name X.env (eval o X.env)=eval o X.env:=by rfl) (hline:(apos.endLine==cpos.line)=true:=by rfl):PE X (.Call (.Attribute o name apos) [] [] cpos) (SD X.K T r to):=by
 intro c s σ H Q I h;refine wpAny_Call_method0_late hbase hline (aX (ho c s σ H _ I h) λv s1 ⟨x,H1,I1,d,f,g⟩=>?_);obtain⟨i,j⟩:=uy I1 d f;exact⟨T,id,pa,slot,hty,i,j,YN rfl (PySem.evalArgs_none (hm c s1 σ H1 x [] v [] Q I1 d .nil g))⟩
def EN (pa:PlainAttrs T) (slot:Slot T name id) (hty:typeOf (.builtin id)=pure (.type "method_descriptor")) (hm:oA X id r) (ho:PE X o to) (ha:PA X (e :: es) t)
  (hbase:attributeBase o name X.env (eval o X.env)=eval o X.env:=by rfl)
  (hfew:((backTo cpos (starEach (e :: es) X.env)).all (λx=>!x.1)&&(backToKw cpos (keywordEach [] X.env)).all (λx=>x.1.isSome)
   &&decide ((e :: es).length+([]:List Keyword).length+(if ([]:List Keyword).isEmpty then 0 else 1)<30))=true:=by rfl)
  (hline:(apos.endLine==cpos.line)=true:=by rfl) (hs:starEach (e :: es) X.env=(false,eval e X.env) :: starEach es X.env:=by rfl) (hplain:(backTo cpos (starEach es X.env)).any (·.1)=false:=by rfl) :
  PE X (.Call (.Attribute o name apos) (e :: es) [] cpos) (Qy X.K T r to t):=by
 intro c s σ H Q I h;refine Zh hbase hfew hline rfl (aX (ho c s σ H _ I h) λv s1 ⟨x,H1,I1,d,g,i⟩=>?_);obtain⟨j,k⟩:=uy I1 d g;refine⟨T,id,pa,slot,hty,j,k,?_⟩;have f:=ha cpos c s1 σ H1 _ I1 i;rw[hs]at f ⊢;refine YN (by show(false || (backTo cpos (starEach es X.env)).any (·.1))=false;rw[hplain]<;>rfl) (Zv ?_);exact aX f λl s2 ⟨p,H2,I2,q,y⟩=>hm c s2 σ H2 x p v l Q I2 d q y
end
def JR(X:Cx)(id:String)(r:V->List V->Hp->VK->Prop):Prop:=
 ∀(pins:List (Addr×Obj)) (s:Shared) (σ:St) (H:Hp) (x:V) (xs:List V) (v:Value) (us:List Value) (Q:VK),Inv X pins σ H s->RelV x v->Vals xs us->r x xs H Q->
  wpAny (model X.prog X.w) X.A (call (.builtin id) (v :: us)) (EP X pins σ Q) X.xe s
def Vals.one:∀{x:V}{us:List Value},Vals [x] us->∃u,us=[u]/\RelV x u
 |_,_,.cons r .nil=>⟨_,rfl,r⟩
def Vals.zero:∀{us:List Value},Vals [] us->us=[]
 |_,.nil=>rfl
theorem Vals.dropLast{xs:List V}{us:List Value}(h:Vals xs us):Vals xs.dropLast us.dropLast:=by
 induction h with
 |nil=>exact .nil
 |cons r t a=>
  cases t with
  |nil=>exact .nil
  |cons q b=>exact .cons r a
theorem Vals.reverse{xs:List V}{us:List Value}(h:Vals xs us):Vals xs.reverse us.reverse:=by
 induction h with
 |nil=>exact .nil
 |cons r t a=>rw[XC,XC];exact Vals.append a (.cons r .nil)
theorem Vals.rep{xs:List V}{us:List Value}(h:Vals xs us):∀k:Nat,Vals (List.replicate k xs).flatten (List.replicate k us).flatten
 |0=>.nil
 |k+1=>by
  rw[VR,VR,X3,X3];exact Vals.append h (Vals.rep h k)
def ze{α:Type}(l:List α):l.eraseIdx (l.length - 1)=l.dropLast:=by
 induction l with
 |nil=>rfl
 |cons a r c=>
  cases r with
  |nil=>rfl
  |cons b r=>
   have e:(a :: b :: r).length - 1=((b :: r).length - 1)+1:=by
    have d:(a :: b :: r).length=r.length+2:=rfl;have f:(b :: r).length=r.length+1:=rfl;omega
   rw[e,List.eraseIdx_cons_succ,c];all_goals rfl
theorem foldl_rep(its:List Value):∀(k:Nat) (acc:List Value),
  List.foldl (λx1 x2=>x1++x2) acc.toArray (List.replicate k its.toArray)=(acc++(List.replicate k its).flatten).toArray
 |0,acc=>by simp
 |k+1,acc=>by
  have e:acc.toArray++its.toArray=(acc++its).toArray:=by simp
  have a:(acc++its)++(List.replicate k its).flatten=acc++(List.replicate (k+1) its).flatten:=by
   rw[VR,X3,XU]
  rw[<-a,<-foldl_rep its k (acc++its),<-e,VR,XI]
section
variable{X:Cx}{pins:List (Addr×Obj)}{σ:St}{H:Hp}{s:Shared}{l:Addr}{xs ys:List V}
def Inv.C9{its its':List Value}{n:Nat}{f:Array Value->Array Value}{t':Nat}(I:Inv X pins σ H s)(hH:H l=some (.lst xs))
  (e:s.heap.get? l=some { cls:=.type "list",data:=.seq its.toArray n }) (hf:f its.toArray=its'.toArray) (hv:Vals ys its') (hz:ys.length<=sizeLine) :
  Inv X pins σ (upd H l (.lst ys)) { s with heap:=s.heap.update l (Obj.mapSeq f),toks:=t' }:=by
 have q:=PySem.IsL.update e f;rw[hf]at q;refine I.write (x:=l) (e:=l) (by rw[hH];exact trivial) (.inl rfl) (λc u a b=>(YM s.heap (Obj.mapSeq f) (Yr a)).trans b) ⟨_,q⟩ ?_;exact⟨hz,its',_,hv,q⟩
def Inv.Dc{its:List Value}{t':Nat}(I:Inv X pins σ H s)(hv:Vals ys its)(hz:ys.length<=sizeLine) :
  Inv X pins σ (upd H s.heap.objs.size (.lst ys)) { s with heap:=s.heap.push { cls:=.type "list",data:=.seq its.toArray },toks:=t' }:=
 I.laid (λ_ _ q=>Tw _ q) (VG _) ⟨hz,its,0,hv,Xv _ rfl⟩
theorem Inv.fresh(I:Inv X pins σ H s):H s.heap.objs.size=none:=I.hok.fresh (VG _)
def Inv.o7 (I:Inv X pins σ H s) (hH:H l=some (.lst xs)):xs.length<=sizeLine/\∃(its:List Value) (n:Nat),Vals xs its/\xs.length=its.length/\s.heap.get? l=some { cls:=.type "list",data:=.seq its.toArray n }:=by
 obtain⟨z,its,n,r,e⟩:=I.hok l _ hH;exact⟨z,its,n,r,r.length,e⟩
def uz{n:Nat}(h:n<=sizeLine):Builtin.List.listTooLong n=false:=by
 unfold Builtin.List.listTooLong;exact Xr (by omega)
end
section
variable{X:Cx}
def GI:V->List V->Hp->VK->Prop:=λx a H Q=>∃l xs y,x=.ref l/\a=[y]/\H l=some (.lst xs)/\xs.length<sizeLine/\Q .bG (upd H l (.lst (xs++[y])))
def rZ:JR X "list.append" GI:=by
 intro b s σ H x vs v us Q I rx rv h;obtain⟨l,f,y,rfl,rfl,c,g,q⟩:=h;cases rx;obtain⟨u,rfl,d⟩:=rv.one;obtain⟨z,a,n,r,i,e⟩:=I.o7 c;refine Yn F.slot_list_append ⟨_,e,rfl⟩ F.entry_list_append (F.args_list_append_2 _ _) (PySem.list_append l a.toArray n u (by rw[Q4];omega)) ⟨e,?_⟩;refine⟨.bG,_,I.C9 (its':=a++[u]) c e (by simp) (r.append (.cons d .nil)) ?_,rfl,q⟩;rw[T7,YA];omega
def GJ:V->List V->Hp->VK->Prop:=λx a H Q=>∃l b xs zs,x=.ref l/\a=[.ref b]/\H l=some (.lst xs)/\H b=some (.lst zs)/\xs.length+zs.length<=sizeLine/\Q .bG (upd H l (.lst (xs++zs)))
def AX:JR X "list.extend" GJ:=by
 intro f s σ H x vs v us Q I rx rv h;obtain⟨l,b,A,B,rfl,rfl,g,i,C,q⟩:=h;cases rx;obtain⟨u,rfl,j⟩:=rv.one;cases j;obtain⟨z,c,n,r,G,e⟩:=I.o7 g;obtain⟨J,a,n2,k,o,p⟩:=I.o7 i;have d:c.toArray.size+a.toArray.size<=sizeLine:=by rw[Q4,Q4];omega
 have y:¬ (!c.toArray.isEmpty&&Builtin.List.listTooLong (c.toArray.size+a.toArray.size))=true:=by
  rw[uz d,Bool.and_false];exact Yj
 refine Yn F.slot_list_extend ⟨_,e,rfl⟩ F.entry_list_extend (F.args_list_extend_2 _ _)
  (AutoSeq1.list_extend_list_list_0 l c.toArray n b a.toArray n2 y (by rw[Q4];omega) (by omega)) ⟨e,p,?_⟩
 refine⟨.bG,_,I.C9 (its':=c++a) g e (by simp) (r.append k) ?_,rfl,q⟩;rw[T7];omega
def SE:V->List V->Hp->VK->Prop:=λx a H Q=>∃l xs y,x=.ref l/\a=[]/\H l=some (.lst xs)/\xs[xs.length - 1]?=some y/\Q y (upd H l (.lst xs.dropLast))
def JU:JR X "list.pop" SE:=by
 intro c s σ H x vs v us Q I rx rv h;obtain⟨l,k,y,rfl,rfl,d,f,q⟩:=h;cases rx;have Uh:=rv.zero;subst Uh;obtain⟨z,a,n,r,g,e⟩:=I.o7 d;obtain⟨u,i,j⟩:=r.get f;have b:a.toArray[a.toArray.size - 1]?=some u:=by
  show a.toArray[a.length - 1]?=some u;rw[<-Array.getElem?_toList,<-g];exact i
 refine Yn F.slot_list_pop ⟨_,e,rfl⟩ F.entry_list_pop (F.args_list_pop_1 _) (MeetsSeq.list_pop_last l a.toArray n u b (by rw[Q4];omega)) ⟨e,?_⟩;refine⟨y,_,I.C9 (its':=a.dropLast) d e ?_ r.dropLast ?_,j,q⟩
 .show a.toArray.eraseIdxIfInBounds (a.toArray.size - 1)=a.dropLast.toArray;rw[Q4,List.eraseIdxIfInBounds_toArray,ze]
 .rw[List.length_dropLast];omega
noncomputable def SG:R2:=λx y H Q=>∃l b xs zs,x=.ref l/\y=.ref b/\H l=some (.lst xs)/\H b=some (.lst zs)/\xs.length+zs.length<=sizeLine/\∀p,H p=none->Q (.ref p) (upd H p (.lst (xs++zs)))
def JV:cH X (binaryOp .Add) SG:=by
 intro d s σ H x y v u Q I rx ry h;obtain⟨l,b,p,A,rfl,rfl,f,g,B,q⟩:=h;cases rx;cases ry;obtain⟨z,c,n,r,C,e⟩:=I.o7 f;obtain⟨F,a,n2,i,j,k⟩:=I.o7 g;refine PySem.P.add_list e k ?_ (by rw[Q4,Q4];omega);have o:c.toArray++a.toArray=(c++a).toArray:=by simp
 rw[o];exact⟨.ref _,_,I.Dc (t':=s.toks) (r.append i) (by rw[T7];omega),rfl,q _ I.fresh⟩
noncomputable def SH:R2:=λx y H Q=>∃l k xs,x=.ref l/\y=.int k/\H l=some (.lst xs)/\-(2 ^ 63)<=k/\k<2 ^ 63/\xs.length*k.toNat<=sizeLine/\
 ∀p,H p=none->Q (.ref p) (upd H p (.lst (List.replicate k.toNat xs).flatten))
def len_rep{α:Type}(xs:List α)(k:Nat):(List.replicate k xs).flatten.length=k*xs.length:=by
 induction k with
 |zero=>simp
 |succ k a=>rw[VR,X3,T7,a,ZV,YO]
def JX:cH X (binaryOp .Mult) SH:=by
 intro o s σ H x y v u Q I rx ry h;obtain⟨l,k,L,rfl,rfl,A,B,C,p,q⟩:=h;cases rx;obtain⟨t,rfl⟩:=ry;obtain⟨z,b,n,r,G,e⟩:=I.o7 A;have c:b.toArray.size*k.toNat<=sizeLine:=by rw[Q4,<-G];exact p
 have d:¬ b.toArray.size*k.toNat > (2 ^ 63 - 1) / 8:=by
  have:(sizeLine:Nat)<=(2 ^ 63 - 1) / 8:=by decide
  omega
 have f:¬ (!Builtin.List.listFitsIndex k)=true:=by
  rw[fitsIndex_both B C];exact Yj
 have J:¬ Builtin.List.listTooLong (b.toArray.size*k.toNat)=true:=by
  rw[uz c];exact Yj
 have g:List.foldl (λi j=>i++j) #[] (List.replicate (if b.toArray.isEmpty=true then 0 else k.toNat) b.toArray)=(List.replicate k.toNat b).flatten.toArray:=by
  have f0:∀m:Nat,List.foldl (λi j=>i++j) #[] (List.replicate m b.toArray)=(List.replicate m b).flatten.toArray:=λm=>by
   have:=foldl_rep b m [];rw[Yz]at this;exact this
  rw[f0];cases b with
  |nil=>simp
  |cons a M=>rw[T8 (by simp)]
 refine ZQ (T:="list") (U:="int") (by decide) ⟨_,e,rfl⟩ (λK=>ZP K k t) noFill_list_mul F.fills_int_mul F.slot_int_rmul repeat_list F.slot_int_index.lookup
  (Yn F.slot_int_rmul (ZP s k t) F.entry_int_rmul (F.args_int_rmul_2 _ _) (int___rmul___int_list k t l b.toArray n)
   ⟨e,rfl,⟨_,e,rfl⟩,Yn F.slot_list_mul ⟨_,e,rfl⟩ F.entry_list_mul (F.args_list_mul_2 _ _) (AutoListH.list___mul___list_int_3 l b.toArray n k t f d J) ⟨e,?_⟩⟩)
 rw[g];exact⟨.ref _,_,I.Dc (t':=s.toks) (r.rep k.toNat) (by rw[len_rep,Nat.mul_comm];exact p),rfl,q _ I.fresh⟩
end
end L2
namespace Qz
open PySem PySem.W PySem.Calls PyProof.Rows
def pR{P:Params}{h:Heap}:∀(ns:List Int) (vs:List Value),WellAll P h vs (ns.map WData.int)->IntsAre vs ns:=by
 intro ns;induction ns with
 |nil=>
  intro vs w;rw[Y4]at w;cases w;exact .nil
 |cons n ns c=>
  intro vs w;rw[M7]at w;cases w with
  |cons a b=>
   cases a;exact .cons _ _ (c _ b)
def AY{l:OpenLaw}{n:Nat}(hn:l.most=some n){P:Params}{h:Heap}{args:List WData}{vals:List Value}
  (hpre:l.row.toRowW.claim.pre args=true) (hwl:WellAll P h vals args) :
  ∃a vs ns,vals=[Value.ref a]/\args=[WData.list (ns.map WData.int)]/\h.get? a=some { cls:=.type "list",data:=.seq vs.toArray }/\IntsAre vs ns/\ns.length<=n:=by
 have g:WShape.hasAll [] args [.list .int]=true:=(pre_splitW hpre).1;have i:l.pre.holds [] { args:=args }=true:=(pre_splitW hpre).2;obtain⟨d,r,rfl,j,k⟩:=hasAllW_cons g;obtain rfl:=hasAllW_nil k;obtain⟨A,rfl,o⟩:=hasW_list j;obtain⟨ns,rfl⟩:=items_int o;have b:ns.length<=n:=by
  unfold OpenLaw.pre at i;have e:(WTm.not (.lt (.lit (.int (n:Int))) (.len (.arg 0)))).holds [] { args:=[.list (ns.map .int)]}=true:=by
   have e:=(holds_andW i).1;rw[hn]at e;exact e
  have f:=condW_of e (w_not (w_lt w_lit (w_len_list (w_arg rfl))));rw[XA]at f;refine Nat.le_of_not_lt λq=>?_;have p:(n:Int)<((ns.length:Nat):Int):=by omega
  first
   | (rw[XW p]at f;exact absurd f (by decide))
   | (simp at f;omega)
 cases hwl with
 |cons x y=>
  cases y;cases x with
  |list z c=>exact⟨_,_,ns,rfl,rfl,z,pR ns _ c,b⟩
def AZ(l:OpenLaw)(args:List WData):l.row.toRowW.claim.post args (.bool true) args=true:=
 postW_of (r:=l.row.toRowW) (X:=(true==true))
  (show WShape.has [] (.bool true) .bool=true by first|rfl|decide|simp[WShape.has,WShape.arms,WShape.armsAll])
  (show(WTm.eq .res (.lit (.bool true))).value [] { args:=args,res:=some (.bool true),after:=args }=some (.bool (true==true))from w_eq_bool (w_res rfl) w_lit) rfl
def wK{l:OpenLaw}{n:Nat}{q:Program}{loose:List Str}{XP:(Str->Option Value)->Heap->Prop}{YP:World->Heap->Prop}{d:DefRec}
  (hn:l.most=some n) (hdf:d.params.defaults=[])
  (call:∀(w:World) (s₀ s₁:Shared) (mg mb:Str->Option Value) (fa:Addr) (o:Obj) (pm cd doc:Value) (a:Addr) (vs:List Value) (ns:List Int),
   Ground q loose [] XP w s₀ mg mb s₁.heap->YP w s₁.heap->
   s₁.heap.get? fa=some o->o.data=.func (docDef d.name d.params d.body d.scope pm cd doc)->s₁.heap.CodeRec cd d.name->mg d.name=some (.ref fa)->
   s₁.heap.get? a=some { cls:=.type "list",data:=.seq vs.toArray }->IntsAre vs ns->ns.length<=n->s₁.gens = #[]->
   codeAny (model l.prog w) callerA (.call (.ref fa) ⟨[.ref a],[]⟩) (λr s'=>r=.ok (.ret (.bool true))/\OldK s₁.heap s'.heap/\s'.os=s₁.os/\AllBare s'.gens) s₁) :
  WalkO q loose XP YP l.row.toRowW d [] (λf vs=>PySem.call f vs):=by
 intro w s₀ s₁ mg mb G Y fa o pm cd doc y kV z A h k i B args p M c x C j F;obtain rfl:y=.none:=Dflts.none k hdf;obtain rfl:kV=.none:=Dflts.noKw k;obtain⟨a,vs,ns,rfl,rfl,e,b,g⟩:=AY hn c j;refine enter_call (codeAny_mono (call w s₀ s₁ mg mb fa o pm cd doc a vs ns G Y z (fd_plain A) h i e b g B) λr s' H=>?_);obtain⟨rfl,I,J,K⟩:=H;exact⟨.inl ⟨.bool true,.bool true,[],rfl,λ_=>rfl,.bool true,AZ l _,λ_=>⟨List.Pairwise.nil,λ_ L=>(nomatch L)⟩⟩,I,J,K⟩
end Qz
namespace L2
open PySem PySem.Spec PyProof.Rows
theorem r8:∀{vs:List Value}{ns:List Int},IntsAre vs ns->Vals (ns.map V.int) vs
 |_,_,.nil=>.nil
 |_,_,.cons n t h=>.cons ⟨t,rfl⟩ (r8 h)
def qO(H:Hp):Prop:=∀b,H b=none\/∃o xs,H b=some (.bT o (.lst xs))
def De{P:Program}{w:World}{K:PySem.W.Frag}{mg mb:Str->Option Value}{CX:lU}{k:Nat}{fa a:Addr}{fd:FuncData}{x:Str}{sp:Sp}{s₁:Shared}{vs:List Value}{ns:List Int}
  (KX:K.In s₁.heap) (hns:s₁.heap.Ns mainGlobals mg) (hb:s₁.heap.Ns builtinsNs mb) (JY:∀x:Str,x≠"__name__" ->mb x=bootBuiltins x) (hlim:s₁.heap.NoLimit) (hg:s₁.gens = #[])
  (ha:s₁.heap.get? a=some { cls:=.type "list",data:=.seq vs.toArray }) (hi:IntsAre vs ns) (hl:ns.length<=sizeLine) (hr:gO k callerA)
  (F:∀base:Heap,K.In base->base.Ns mainGlobals mg->iP P w K mg base CX k fa fd [x] sp) (hbind:∀(s:Shared) (u:Value),BindsTo s fd ⟨[u],[]⟩ [(x,u)])
  (iy:∀H:Hp,qO H->eY K H a (ns.map V.int)->sp [.ref a] H (λv _=>v=.bl true) λ_ _ _=>False)
  (A1:∀H e s',CX [] H s₁ (λ_ _ _=>False) e s'->False) :
  codeAny (model P w) callerA (.call (.ref fa) ⟨[.ref a],[]⟩) (λr s'=>r=.ok (.ret (.bool true))/\OldK s₁.heap s'.heap/\s'.os=s₁.os/\AllBare s'.gens) s₁:=by
 have rv:=r8 hi;have SI:=hi.length;have c:∀H:Hp,qO H->eY K H a (ns.map V.int)->fM P w H s₁.heap->(∀b,H b≠none->b=a)->(H a≠none->K.lookup a=none)->
   codeAny (model P w) callerA (.call (.ref fa) ⟨[.ref a],[]⟩) (λr s'=>r=.ok (.ret (.bool true))/\OldK s₁.heap s'.heap/\s'.os=s₁.os/\AllBare s'.gens) s₁:=by
  intro H l B f p C;have y:∀{b:Addr} {o:Obj},s₁.heap.get? b=some o->H b=none->(kU s₁.heap H).get? b=some o:=λe n=>CO e n;have AV:∀{b:Addr} {o:Obj} {es:Array DictEntry} {ep:Nat},s₁.heap.get? b=some o->o.data=.dict es ep->H b=none:=λ{b o es ep} e d=>by
   cases q:H b with
   |none=>rfl
   |some u=>
    have j:b=a:=p b (by rw[q];simp);subst j;rw[ha]at e;cases e;have G:Data.seq vs.toArray _=Data.dict es ep:=d;cases G
  have EO:∀{b:Addr} {m:Str->Option Value},s₁.heap.Ns b m->(kU s₁.heap H).Ns b m:=λ{b m} ⟨o,es,ep,e,d,r⟩=>⟨o,es,ep,y e (AV e d),d,r⟩
  have QA:K.In (kU s₁.heap H):=λb o e=>y (KX b o e) (by
   cases q:H b with
   |none=>rfl
   |some u=>
    have j:b=a:=p b (by rw[q];simp);subst j;rw[C (by rw[q];simp)]at e;cases e)
  have I:Mod K mg (kU s₁.heap H):=⟨QA,EO hns,⟨mb,EO hb,JY⟩,let ⟨mc,h1,h2⟩:=hlim;⟨mc,EO h1,h2⟩⟩
  have J:zb P w K mg (kU s₁.heap H) callerA [] s₁ H:=⟨rfl,I,λb o e=>Gk e,Nat.le_of_eq (AD _ _),trivial,λb hb=>absurd (show b∈([]:List Addr)from hb) (by simp),f,.of_eq hg⟩
  refine codeAny_mono ((F _ QA (EO hns)).run callerA [] s₁ H ⟨[.ref a],[]⟩ [.ref a] [.ref a] _ _ hr J (hbind s₁ (.ref a)) (.cons rfl .nil) (iy H l B)) λr s' h=>?_;cases r with
  |error e=>exact(A1 H e s' h).elim
  |ok fl=>
   cases fl with
   |next=>exact False.elim h
   |brk=>exact False.elim h
   |cont=>exact False.elim h
   |ret u=>
    obtain⟨v,H',os,g,un,SJ,L,q⟩:=h;have M:v=.bl true:=q;subst M;obtain rfl:u=Value.bool true:=L;refine⟨rfl,OldK.of_keep λb o e=>?_,os,g⟩;cases q:H b with
    |none=>exact un.keep b o e q (by intro z;exact absurd (show b∈([]:List Addr)from z) (by simp)) (by simp)
    |some u=>
     rcases l b with z|⟨N,Y,z⟩
     .rw[q]at z;cases z
     .have Q:=un.kT b N _ z;obtain⟨A,_⟩:=f b _ z;obtain⟨X,_⟩:=SJ b _ Q;rw[e]at A;cases A;exact X
 cases hk:K.lookup a with
 |some o=>
  have e:=KX a o hk;rw[ha]at e;cases e;refine c (λ_=>none) (λ_=>.inl rfl) (.inr ⟨_,vs.toArray,_,hk,rfl,rfl,rfl,by rw[Q4,SI];exact hl,by simpa using rv⟩) (λb u z=>by have i:(none:Option HO)=some u:=z;cases i) (λb z=>absurd rfl z) λz=>absurd rfl z
 |none=>
  refine c (λb=>if b=a then some (.bT { cls:=.type "list",data:=.seq vs.toArray } (.lst (ns.map V.int)))else none) (λb=>?_) (.inl (.inr ⟨{ cls:=.type "list",data:=.seq vs.toArray },IC rfl⟩)) (λb u z=>?_) (λb z=>?_) λ_=>hk
  .by_cases hb:b=a
   .exact .inr ⟨_,_,IC hb⟩
   .exact .inl (T8 hb)
  .by_cases hb:b=a
   .have i:=(IC hb).symm.trans z;cases i;subst hb;exact⟨ha,by rw[XA];exact hl,vs,_,rv,ha⟩
   .have i:=(T8 hb).symm.trans z;cases i
  .by_cases hb:b=a
   .exact hb
   .exact absurd (T8 hb) z
def GK{l:PySem.W.OpenLaw}{n k:Nat}{q:Program}{loose:List Str}{XP:(Str->Option Value)->Heap->Prop}{YP:World->Heap->Prop}{d:DefRec}{K:Params->PySem.W.Frag}{CX:World->lU}{sp:World->Sp}{x:Str}
  (hn:l.most=some n) (hn2:n<=sizeLine) (hdf:d.params.defaults=[]) (hr:gO k callerA)
  (hY:∀(w:World) (h:Heap),YP w h->(K w.params).In h)
  (F:∀(w:World) (mg:Str->Option Value) (fa:Addr) (h:Heap),(K w.params).In h->h.Ns mainGlobals mg->mg d.name=some (.ref fa)->
   ∃fd:FuncData,(∀(s:Shared) (u:Value),BindsTo s fd ⟨[u],[]⟩ [(x,u)])/\
    ∀base:Heap,(K w.params).In base->base.Ns mainGlobals mg->iP l.prog w (K w.params) mg base (CX w) k fa fd [x] (sp w))
  (iy:∀(w:World) (H:Hp) (a:Addr) (ns:List Int),ns.length<=n->qO H->eY (K w.params) H a (ns.map V.int)->sp w [.ref a] H (λv _=>v=.bl true) λ_ _ _=>False)
  (A1:∀(w:World) (H:Hp) (s:Shared) (e:Value) (s':Shared),CX w [] H s (λ_ _ _=>False) e s'->False) :
  PySem.W.WalkO q loose XP YP l.row.toRowW d [] (λf vs=>PySem.call f vs):=by
 refine Qz.wK hn hdf λw L r mg M fa o N P y a vs ns G Y Q X z p j i c A=>?_;have KX:=hY w _ Y;obtain⟨fd,B,C⟩:=F w mg fa _ KX G.T.g p;exact De KX G.T.g G.T.b G.T.builtins G.T.nolimit A j i (Xm c hn2) hr C B (λH I J=>iy w H a ns c I J) λH e s'=>A1 w H r e s'
def Df{l:PySem.W.OpenLaw}{n k:Nat}{q:Program}{loose:List Str}{XP:(Str->Option Value)->Heap->Prop}{YP:World->Heap->Prop}{d:DefRec}{K:Params->PySem.W.Frag}{CX:lU}{sp:PySem.W.Frag->Sp}{x:Str}
  (hn:l.most=some n) (hn2:n<=sizeLine) (hdf:d.params.defaults=[]) (hr:gO k callerA)
  (hY:∀(w:World) (h:Heap),YP w h->(K w.params).In h)
  (F:∀(w:World) (mg:Str->Option Value) (fa:Addr) (h:Heap),(K w.params).In h->h.Ns mainGlobals mg->mg d.name=some (.ref fa)->
   ∃fd:FuncData,(∀(s:Shared) (u:Value),BindsTo s fd ⟨[u],[]⟩ [(x,u)])/\
    ∀base:Heap,(K w.params).In base->base.Ns mainGlobals mg->iP l.prog w (K w.params) mg base CX k fa fd [x] (sp (K w.params)))
  (iy:∀(K:PySem.W.Frag) (H:Hp) (a:Addr) (ns:List Int),ns.length<=n->qO H->eY K H a (ns.map V.int)->sp K [.ref a] H (λv _=>v=.bl true) λ_ _ _=>False)
  (A1:∀(H:Hp) (s:Shared) (e:Value) (s':Shared),CX [] H s (λ_ _ _=>False) e s'->False) :
  PySem.W.WalkO q loose XP YP l.row.toRowW d [] (λf vs=>PySem.call f vs):=
 GK (K:=K) (CX:=λ_=>CX) (sp:=λw=>sp (K w.params)) hn hn2 hdf hr hY F (λw H a ns b c g=>iy (K w.params) H a ns b c g) λ_ H s e s'=>A1 H s e s'
noncomputable def nB(s:Stmt):Arguments:=match s with
 |.FunctionDef _ a _ _ _ _ _ _ _ _=>a
 |_=>{ posonlyargs:=[],args:=[],vararg:=none,kwonlyargs:=[],kw_defaults:=[],kwarg:=none,defaults:=[]}
noncomputable def gW(s:Stmt):List Stmt:=match s with
 |.FunctionDef _ _ b _ _ _ _ _ _ _=>b
 |_=>[]
noncomputable def aJ(s:Stmt):Scope:=match s with
 |.FunctionDef _ _ _ _ _ _ a _ _ _=>a
 |_=>{ kind:=.function,names:=[],isGenerator:=false,isCoroutine:=false }
abbrev mE:lU:=λ_ _ _ _ _ _=>False
abbrev E0:XK:=λ_ _ _=>False
def ER{X:Cx}:Passes mE X E0:=λ_ _ _ _ _ _ _ h=>h.elim
structure uA(K:PySem.W.Frag)(x qual:Str)(st:Stmt)(f:Addr)(fd:FuncData):Prop where
 ex:∃(oc:Value) (od:Option Addr) (kV doc pm:Value) (an:Option Addr) (cdv ct:Value) (osl:Array (Option Value)),
  fd=PySem.W.fnOf x qual (nB st) (gW st) (aJ st) .none kV doc pm an cdv ct/\K.lookup f=some ⟨oc,od,.func fd,osl⟩/\PySem.W.codeIn K cdv qual=true
 kp:PySem.W.keepIn K (.ref f)=true
section
variable{P:Program}{w:World}{K:PySem.W.Frag}{mg:Str->Option Value}{base:Heap}
def uA.ok{x qual:Str}{st:Stmt}{f:Addr}{fd:FuncData}{N ps:List Str}{k:Nat}{sp:Sp}(F:uA K x qual st f fd)(S:bg N ps (aJ st))(len:∀vs H Q E,sp vs H Q E->vs.length=ps.length)
  (hbody:∀(cdv:Value) (A:Around) (outer:List Env) (s:Shared) (H:Hp) (vs:List V) (Q:VK) (E:XK),gO k (A.deeper (envOfC qual (aJ st) s.heap.objs.size f cdv))->sp vs H Q E->
   ∃t,gq (o6 mE P w K mg base N qual (aJ st) f cdv A outer s H E).rQ (gW st) t/\t { nx:=λ_ H'=>Q .bG H',rt:=Q } (start N vs) H):iP P w K mg base mE (k+1) f fd ps sp:=by
 obtain⟨i,j,kV,b,l,o,cdv,ct,c,rfl,d,a⟩:=F.ex;refine O8 d a S len λA outer s H vs Q E e g=>?_;obtain⟨t,h,q⟩:=hbody cdv A outer s H vs Q E e g;exact⟨t,h.rQ,q⟩
def uA.binds{x qual:Str}{st:Stmt}{f:Addr}{fd:FuncData}{ps:List Str}(F:uA K x qual st f fd)
  (h:∀(kV doc pm:Value) (an:Option Addr) (cdv ct:Value) (us:List Value),us.length=ps.length->bindArgs (PySem.W.fnOf x qual (nB st) (gW st) (aJ st) .none kV doc pm an cdv ct) ⟨us,[]⟩=pure (ps.zip us)):Binds K fd ps []:=by
 obtain⟨c,d,kV,doc,pm,an,cdv,ct,a,rfl,e,b⟩:=F.ex;exact .all (h kV doc pm an cdv ct)
def bP{x qual:Str}{st:Stmt}{f:Addr}{oc:Value}{od an:Option Addr}{osl:Array (Option Value)}{kV doc pm cdv ct:Value}(l:K.lookup f=some ⟨oc,od,.func (PySem.W.fnOf x qual (nB st) (gW st) (aJ st) .none kV doc pm an cdv ct),osl⟩)
  (c:PySem.W.codeIn K cdv qual=true) (k:PySem.W.keepIn K (.ref f)=true):uA K x qual st f (PySem.W.fnOf x qual (nB st) (gW st) (aJ st) .none kV doc pm an cdv ct):=⟨⟨oc,od,kV,doc,pm,an,cdv,ct,osl,rfl,l,c⟩,k⟩
end
section
variable{X:Cx}
def pv (i:Nat) {x:Str}{pos:Pos}(hN:X.N[i]?=some x:=by rfl) (hv:AF X.env.scope x:=by first|exact Or.inl rfl|exact Or.inr (Or.inl rfl)|exact Or.inr (Or.inr rfl)) (hd:(x==("__debug__" : Str))=false:=by decide)
  (hcd:(x==("__classdict__" : Str))=false:=by decide):PE X (.Name x pos) (IZ i):=AI hN hv hd hcd
end
end L2
namespace Ev
inductive D where
 |bG|bl (b:Bool)|int (i:Int)|str (s:List Nat)|tup (ds:List D)|ref (n:Nat)
inductive O where
 |lst (ds:List D)|bT (ds:List D)
abbrev Hh:=List O
abbrev Fr:=List (Option D)
inductive R(α:Type) where
 |ok (a:α) (h:Hh)
 |bad
noncomputable def R.bind{α β:Type}(r:R α)(f:α->Hh->R β):R β:=
 match r with
 |.ok a h=>f a h
 |.bad=>.bad
@[simp] theorem ak{α β:Type}(a:α)(h:Hh)(f:α->Hh->R β):(R.ok a h).bind f=f a h:=rfl
@[simp] theorem Dh{α β:Type}(f:α->Hh->R β):(R.bad:R α).bind f=.bad:=rfl
def ah{α β:Type}{r:R α}{f:α->Hh->R β}{b:β}{h:Hh}(e:r.bind f=.ok b h):∃a h1,r=.ok a h1/\f a h1=.ok b h:=by
 cases r with
 |ok a h1=>exact⟨a,h1,rfl,e⟩
 |bad=>cases e
noncomputable def R.of{α:Type}(o:Option α)(h:Hh):R α:=match o with
 |some a=>.ok a h
 |none=>.bad
@[simp] theorem dP{α:Type}(a:α)(h:Hh):R.of (some a) h=.ok a h:=rfl
@[simp] theorem of_none{α:Type}(h:Hh):R.of (none:Option α) h=.bad:=rfl
def aE{α:Type}{o:Option α}{h h':Hh}{a:α}(e:R.of o h=.ok a h'):o=some a/\h'=h:=by
 cases o with
 |none=>cases e
 |some b=>cases e;exact⟨rfl,rfl⟩
inductive bO where
 |add|sub|mul|fdiv|mod
inductive bz where
 |eq|ne|lt|gt
 |le|ge
 |isin|eE
inductive TY where
 |int|bool|str|tuple|list
inductive BI where
 |len|sum|min
 |all
 |max
 |sorted
 |uB
 |fT|kW
inductive ME where
 |join|append|extend|pop
 |repl
inductive T where
 |one (i:Nat)|many (l:List Nat)
mutual
inductive E where
 |c (d:D)|v (i:Nat)|tup (es:Es)|lst (es:Es)
 |bin (o:bO) (a b:E)|cmp (o:bz) (a b:E)
 |ch (o p:bz) (a b c:E)
 |nt (a:E)|neg (a:E)|an (a b:E)|orr (a b:E)|jW (t a b:E)
 |ix (a b:E)|sl (a:E) (lo hi:Eo)
 |cl (f:Nat) (es:Es)|bi (b:BI) (es:Es)|me (m:ME) (o:E) (es:Es)
 |fz (a:E) (ts:List TY)
 |comp (elt:E) (t:T) (it:It) (cond:Eo)
 |eG (it:It)
 |eB (kvs:List (D×D)) (a:E)
 |gX (a:E)
inductive Es where
 |nil|cons (e:E) (es:Es)
inductive Eo where
 |no|yes (e:E)
inductive It where
 |seq (e:E)|gp (es:Es)
 |iN (a b:E)
 |rev (a:E)
end
mutual
inductive S where
 |set (i:Nat) (e:E)
 |exp (e:E)|ret (e:E)|iff (t:E) (a b:Ss)|for (t:T) (it:It) (b:Ss)|oB (t:E) (b:Ss)
 |dS (c:Nat)
inductive Ss where
 |nil|cons (s:S) (ss:Ss)
end
inductive Fl where
 |nx|bk|ct|ret (d:D)
noncomputable def big:Nat:=16777216
noncomputable def cC(f:D->D->Option Bool):List D->List D->Option Bool
 |[],[]=>some true
 |x :: xs,y :: ys=>do
  let b <-f x y
  let c <-cC f xs ys
  pure (b&&c)
 |_,_=>some false
noncomputable def br(h:Hh)(n:Nat):Option (List D):=match h[n]? with
 |some (.lst ds)=>some ds
 |some (.bT ds)=>some ds
 |_=>none
noncomputable def b2i(b:Bool):Int:=if b then 1 else 0
noncomputable def jM(h:Hh)(f:D->D->Option Bool)(a b:Nat):Option Bool:=if a=b then (br h a).map λ_=>true else match h[a]?,h[b]? with
 |some (.lst x),some (.lst y)=>cC f x y
 |some (.bT x),some (.lst y)=>cC f x y
 |some (.lst x),some (.bT y)=>cC f x y
 |_,_=>none
noncomputable def gw(h:Hh):Nat->D->D->Option Bool
 |0,_,_=>none
 |_+1,.bG,.bG=>some true
 |_+1,.bl a,.bl b=>some (a==b)
 |_+1,.int a,.int b=>some (a==b)
 |_+1,.bl a,.int b=>some (b2i a==b)
 |_+1,.int a,.bl b=>some (a==b2i b)
 |_+1,.str a,.str b=>some (a==b)
 |n+1,.tup a,.tup b=>cC (gw h n) a b
 |n+1,.ref a,.ref b=>jM h (gw h n) a b
 |_+1,.ref a,_=>(br h a).map λ_=>false
 |_+1,_,.ref a=>(br h a).map λ_=>false
 |_+1,_,_=>some false
noncomputable def deep:Nat:=20
noncomputable def truthy(h:Hh):D->Option Bool
 |.bG=>some false
 |.bl b=>some b
 |.int i=>some (i != 0)
 |.str s=>some (!s.isEmpty)
 |.tup ds=>some (!ds.isEmpty)
 |.ref n=>match h[n]? with
  |_=>(br h n).map λds=>!ds.isEmpty
noncomputable def alloc(ds:List D)(h:Hh):R D:=if ds.length<=big then .ok (.ref h.length) (h++[.lst ds])else .bad
noncomputable def rep{α:Type}(k:Nat)(l:List α):List α:=(List.replicate k l).flatten
noncomputable def cB(i j:Int):Bool:=(decide (-(2 ^ 64)<i)&&decide (i<2 ^ 64)) || (decide (-(2 ^ 64)<j)&&decide (j<2 ^ 64))
noncomputable def bX:bO->D->D->Hh->R D
 |.add,.int i,.int j,h=>.ok (.int (i+j)) h
 |.add,.str a,.str b,h=>if a.length+b.length<=big then .ok (.str (a++b)) h else .bad
 |.add,.tup a,.tup b,h=>if a.length+b.length<=big then .ok (.tup (a++b)) h else .bad
 |.add,.ref a,.ref b,h=>match h[a]?,h[b]? with
  |some (.lst x),some (.lst y)=>alloc (x++y) h
  |_,_=>.bad
 |.sub,.int i,.int j,h=>.ok (.int (i - j)) h
 |.mul,.int i,.int j,h=>if cB i j then .ok (.int (i*j)) h else .bad
 |.mul,.str a,.int k,h=>if 0<=k/\k<=1000/\a.length<=1000 then .ok (.str (rep k.toNat a)) h else .bad
 |.mul,.tup a,.int k,h=>if 0<=k/\k<=1000/\a.length<=1000 then .ok (.tup (rep k.toNat a)) h else .bad
 |.mul,.ref a,.int k,h=>match h[a]? with
  |some (.lst x)=>if 0<=k/\k<=1000/\x.length<=1000 then alloc (rep k.toNat x) h else .bad
  |_=>.bad
 |.fdiv,.int i,.int j,h=>if 0<j/\j<1073741824 then .ok (.int (i / j)) h else .bad
 |.mod,.int i,.int j,h=>if 0<j then .ok (.int (i % j)) h else .bad
 |_,_,_,_=>.bad
noncomputable def mem(h:Hh)(x:D):List D->Option Bool
 |[]=>some false
 |y :: ys=>do
  let b <-gw h deep y x
  let c <-mem h x ys
  pure (b ||c)
noncomputable def isin(x y:D)(h:Hh):Option Bool:=match y with
 |.str s=>match x with
  |.str [c]=>some (s.contains c)
  |_=>none
 |.tup ds=>mem h x ds
 |.ref n=>(br h n).bind λds=>mem h x ds
 |_=>none
noncomputable def lexLe:List Nat->List Nat->Bool
 |[],_=>true
 |_ :: _,[]=>false
 |x :: xs,y :: ys=>if x=y then lexLe xs ys else decide (x<y)
noncomputable def cop(o:bz)(x y:D)(h:Hh):Option Bool:=match o,x,y with
 |.eq,x,y=>gw h deep x y
 |.ne,x,y=>(gw h deep x y).map (!·)
 |.lt,.int i,.int j=>some (decide (i<j))
 |.le,.int i,.int j=>some (decide (i<=j))
 |.gt,.int i,.int j=>some (decide (j<i))
 |.ge,.int i,.int j=>some (decide (j<=i))
 |.isin,x,y=>isin x y h
 |.eE,x,y=>(isin x y h).map (!·)
 |_,_,_=>none
noncomputable def dR(n:Nat)(i:Int):Option Nat:=if 0<=i then (if i<n then some i.toNat else none)else if -(n:Int)<=i then some (i+n).toNat else none
noncomputable def bL{α:Type}(xs:List α)(i:Int):Option α:=(dR xs.length i).bind λj=>xs[j]?
noncomputable def fN(x y:D)(h:Hh):Option D:=match x,y with
 |.tup ds,.int i=>bL ds i
 |.str s,.int i=>(bL s i).map λc=>.str [c]
 |.ref n,.int i=>(br h n).bind λds=>bL ds i
 |_,_=>none
noncomputable def aR(n d:Nat):Option Int->Nat
 |none=>d
 |some v=>if v<0 then (v+n).toNat else min v.toNat n
noncomputable def cut{α:Type}(xs:List α)(lo hi:Option Int):List α:=(xs.drop (aR xs.length 0 lo)).take (aR xs.length xs.length hi - aR xs.length 0 lo)
noncomputable def fB(x:D)(lo hi:Option Int)(h:Hh):R D:=match x with
 |.tup ds=>.ok (.tup (cut ds lo hi)) h
 |.str s=>.ok (.str (cut s lo hi)) h
 |.ref n=>match br h n with
  |some ds=>alloc (cut ds lo hi) h
  |none=>.bad
 |_=>.bad
noncomputable def cX(h:Hh):D->TY->Bool
 |.bl _,.bool=>true
 |.bl _,.int=>true
 |.int _,.int=>true
 |.str _,.str=>true
 |.tup _,.tuple=>true
 |.ref n,.list=>(br h n).isSome
 |_,_=>false
noncomputable def boolsOf:List D->Option (List Bool)
 |[]=>some []
 |.bl b :: ds=>(boolsOf ds).map λr=>b :: r
 |_=>none
noncomputable def intsOf:List D->Option (List Int)
 |[]=>some []
 |.int i :: ds=>(intsOf ds).map λr=>i :: r
 |_=>none
noncomputable def strsOf:List D->Option (List (List Nat))
 |[]=>some []
 |.str s :: ds=>(strsOf ds).map λr=>s :: r
 |_=>none
noncomputable def aY(sep:List Nat):List (List Nat)->List Nat
 |[]=>[]
 |[s]=>s
 |s :: t :: r=>s++sep++aY sep (t :: r)
noncomputable def dU(x:List Nat):List (List Nat)->List (List Nat)
 |[]=>[x]
 |y :: ys=>if lexLe x y then x :: y :: ys else y :: dU x ys
noncomputable def bJ:List (List Nat)->List (List Nat)
 |[]=>[]
 |x :: xs=>dU x (bJ xs)
noncomputable def cQ(i:Int):List Nat:=(toString i).toList.map Char.toNat
noncomputable def o8(a:Nat):Bool:=decide (48<=a)&&decide (a<=57)
noncomputable def o9:List Nat->Option Int
 |[a]=>if o8 a then some ((a:Int) - 48)else none
 |[a,b]=>if o8 a&&o8 b then some (10*((a:Int) - 48)+((b:Int) - 48))else none
 |_=>none
noncomputable def aS(c:Nat):List Nat->List (List Nat)
 |[]=>[[]]
 |x :: s=>if x=c then [] :: aS c s else match aS c s with
  |p :: ps=>(x :: p) :: ps
  |[]=>[[x]]
noncomputable def uC(x y:D):Option (List D):=match x,y with
 |.str a,.str [c]=>if c<128 then some ((aS c a).map .str)else none
 |_,_=>none
noncomputable def b7(b:BI)(xs:List D)(h:Hh):R D:=match b,xs with
 |.len,[.str s]=>if s.length<=big then .ok (.int s.length) h else .bad
 |.len,[.tup ds]=>.ok (.int ds.length) h
 |.len,[.ref n]=>R.of ((br h n).map λds=>.int ds.length) h
 |.all,[.ref n]=>R.of (((br h n).bind boolsOf).map λbs=>.bl (bs.all id)) h
 |.sum,[.ref n]=>R.of (((br h n).bind intsOf).map λc=>.int c.sum) h
 |.min,[.int i,.int j]=>.ok (.int (if j<i then j else i)) h
 |.max,[.int i,.int j]=>.ok (.int (if j > i then j else i)) h
 |.uB,[.bl b]=>.ok (.int (if b then 1 else 0)) h
 |.fT,[.int i]=>if -1000000<i/\i<1000000 then .ok (.str (cQ i)) h else .bad
 |.fT,[.str s]=>.ok (.str s) h
 |.kW,[.str s]=>R.of ((o9 s).map .int) h
 |.sorted,[.ref n]=>match (br h n).bind strsOf with
  |some a=>if a.length<64 then alloc ((bJ a).map .str) h else .bad
  |none=>.bad
 |_,_=>.bad
noncomputable def dW(p q:Nat)(a:List Nat):List Nat:=a.map λc=>if c=p then q else c
noncomputable def dw(m:ME)(o:D)(xs:List D)(h:Hh):R D:=match m,o,xs with
 |.join,.str sep,[.ref n]=>match (br h n).bind strsOf with
  |some b=>if (b.map (·.length)).sum+b.length*sep.length<=big then .ok (.str (aY sep b)) h else .bad
  |none=>.bad
 |.repl,.str a,[.str [p],.str [q]]=>if p≠q/\a.length<=100000 then .ok (.str (dW p q a)) h else .bad
 |.append,.ref n,[x]=>match h[n]? with
  |some (.lst ds)=>if ds.length<big then .ok .bG (h.set n (.lst (ds++[x])))else .bad
  |_=>.bad
 |.extend,.ref n,[.ref m]=>match h[n]?,h[m]? with
  |some (.lst ds),some (.lst es)=>if ds.length+es.length<=big then .ok .bG (h.set n (.lst (ds++es)))else .bad
  |_,_=>.bad
 |.pop,.ref n,[]=>match h[n]? with
  |some (.lst ds)=>match ds[ds.length - 1]? with
   |some x=>.ok x (h.set n (.lst ds.dropLast))
   |none=>.bad
  |_=>.bad
 |_,_,_=>.bad
noncomputable def xy(m:ME)(x:D)(h:Hh):Bool:=match m,x with
 |.join,.str _=>true
 |.join,_=>false
 |.repl,.str _=>true
 |.repl,_=>false
 |_,.ref n=>(br h n).isSome
 |_,_=>false
noncomputable def eK(x:D):List (D×D)->Option D
 |[]=>none
 | (k,v) :: r=>match gw [] 1 k x with
  |some true=>some v
  |some false=>eK x r
  |none=>none
abbrev Src:=List D×List (Nat×List D)
noncomputable def gi(h:Hh):D->Option Src
 |.tup ds=>some (ds,[])
 |.str s=>some (s.map λc=>.str [c],[])
 |.ref n=>(br h n).map λds=>(ds,[(n,ds)])
 |_=>none
noncomputable def range(lo:Int)(n:Nat):List D:=(List.range n).map λ(i:Nat)=>.int (lo+i)
noncomputable def dH:List D->Option Src
 |[.int j]=>if -(2 ^ 62)<=j/\j<2 ^ 62 then some (range 0 j.toNat,[])else none
 |[.int i,.int j]=>if -(2 ^ 62)<=i/\i<2 ^ 62/\-(2 ^ 62)<=j/\j<2 ^ 62 then some (range i (j - i).toNat,[])else none
 |_=>none
noncomputable def jw:Int->List D->List D
 |_,[]=>[]
 |k,x :: xs=>.tup [.int k,x] :: jw (k+1) xs
noncomputable def zg(a b:List D):Bool:=@decide (a=b) (Classical.propDecidable _)
def sd(a b:List D):zg a b=true↔a=b:=@decide_eq_true_iff _ (Classical.propDecidable _)
@[simp] theorem zh(a:List D):zg a a=true:=(sd a a).mpr rfl
noncomputable def stays(h:Hh):List (Nat×List D)->Bool
 |[]=>true
 | (n,ds) :: r=>(match br h n with|some es=>zg es ds|none=>false)&&stays h r
noncomputable def cK:List Nat->List D->Fr->Option Fr
 |[],[],fr=>some fr
 |i :: is,d :: ds,fr=>cK is ds (fr.set i (some d))
 |_,_,_=>none
noncomputable def cG:T->D->Fr->Option Fr
 |.one i,d,fr=>some (fr.set i (some d))
 |.many l,.tup ds,fr=>cK l ds fr
 |_,_,_=>none
noncomputable def slots:T->List Nat
 |.one i=>[i]
 |.many l=>l
noncomputable def undef(t:T)(fr:Fr):Bool:=(slots t).all λi=>(fr[i]?.join).isNone
noncomputable def Di:D->Option (List D)
 |.tup ds=>some ds
 |_=>none
noncomputable def qP:D->Hh->R D
 |.tup ds,h=>.ok (.tup ds) h
 |.ref n,h=>match br h n with
  |some ds=>if ds.length<=big then .ok (.tup ds) h else .bad
  |none=>.bad
 |_,_=>.bad
noncomputable def JZ(h:Hh):D->Option Src
 |.ref n=>(br h n).map λds=>(ds,[(n,ds)])
 |_=>none
noncomputable def b8(f:D->Hh->R (Option D))(ck:List (Nat×List D)):List D->Hh->R (List D)
 |[],h=>if stays h ck then .ok [] h else .bad
 |d :: ds,h=>if stays h ck then (f d h).bind λo a=>(b8 f ck ds a).bind λr b=>.ok (o.toList++r) b else .bad
noncomputable def forL(f:D->Fr->Hh->R (Fl×Fr))(ck:List (Nat×List D)):List D->Fr->Hh->R (Fl×Fr)
 |[],fr,h=>if stays h ck then .ok (.nx,fr) h else .bad
 |d :: ds,fr,h=>if stays h ck then (f d fr h).bind λp a=>match p.1 with
   |.nx=>forL f ck ds p.2 a
   |.ct=>forL f ck ds p.2 a
   |.bk=>.ok (.nx,p.2) a
   |.ret x=>.ok (.ret x,p.2) a
  else .bad
noncomputable def dI(t:Fr->Hh->R Bool)(f:Fr->Hh->R (Fl×Fr)):Nat->Fr->Hh->R (Fl×Fr)
 |0,_,_=>.bad
 |n+1,fr,h=>(t fr h).bind λb c=>if b then (f fr c).bind λp a=>match p.1 with
   |.nx=>dI t f n p.2 a
   |.ct=>dI t f n p.2 a
   |.bk=>.ok (.nx,p.2) a
   |.ret x=>.ok (.ret x,p.2) a
  else .ok (.nx,fr) c
abbrev aP:=Nat->List D->Hh->R D
noncomputable def intOf:D->Option Int
 |.int i=>some i
 |_=>none
mutual
noncomputable def ev(P:aP):E->Fr->Hh->R D
 |.c d,_,h=>.ok d h
 |.v i,fr,h=>R.of (fr[i]?.join) h
 |.tup es,fr,h=>(bY P es fr h).bind λds e=>if ds.length<=big then .ok (.tup ds) e else .bad
 |.lst es,fr,h=>(bY P es fr h).bind λds e=>alloc ds e
 |.bin o a b,fr,h=>(ev P a fr h).bind λx e=>(ev P b fr e).bind λy g=>bX o x y g
 |.cmp o a b,fr,h=>(ev P a fr h).bind λx e=>(ev P b fr e).bind λy g=>R.of ((cop o x y g).map .bl) g
 |.ch o p a b c,fr,h=>(ev P a fr h).bind λx e=>(ev P b fr e).bind λy g=>(R.of (cop o x y g) g).bind λk j=>
   if k then (ev P c fr j).bind λz q=>R.of ((cop p y z q).map .bl) q else .ok (.bl false) j
 |.nt a,fr,h=>(ev P a fr h).bind λx e=>match x with
   |.bl b=>.ok (.bl (!b)) e
   |_=>.bad
 |.neg a,fr,h=>(ev P a fr h).bind λx e=>match x with
   |.int i=>.ok (.int (-i)) e
   |_=>.bad
 |.an a b,fr,h=>(ev P a fr h).bind λx e=>match x with
   |.bl true=>ev P b fr e
   |.bl false=>.ok (.bl false) e
   |_=>.bad
 |.orr a b,fr,h=>(ev P a fr h).bind λx e=>match x with
   |.bl true=>.ok (.bl true) e
   |.bl false=>ev P b fr e
   |_=>.bad
 |.jW t a b,fr,h=>(aI P t fr h).bind λk e=>if k then ev P a fr e else ev P b fr e
 |.ix a b,fr,h=>(ev P a fr h).bind λx e=>(ev P b fr e).bind λy g=>R.of (fN x y g) g
 |.sl a lo hi,fr,h=>(ev P a fr h).bind λx e=>(fO P lo fr e).bind λl g=>(fO P hi fr g).bind λu j=>fB x l u j
 |.cl f es,fr,h=>(bY P es fr h).bind λds e=>P f ds e
 |.bi b es,fr,h=>(bY P es fr h).bind λds e=>b7 b ds e
 |.me m o es,fr,h=>(ev P o fr h).bind λx e=>if xy m x e then (bY P es fr e).bind λds g=>dw m x ds g else .bad
 |.fz a ts,fr,h=>(ev P a fr h).bind λx e=>.ok (.bl (ts.any (cX e x))) e
 |.comp elt t it cond,fr,h=>(cI P it fr h).bind λs e=>if undef t fr then
   (b8 (λd g=>match cG t d fr with
    |none=>.bad
    |some r=>(iz P cond r g).bind λk j=>if k then (ev P elt r j).bind λx q=>.ok (some x) q else .ok none j) s.2 s.1 e).bind λds g=>alloc ds g else .bad
 |.eG it,fr,h=>(cI P it fr h).bind λs e=>alloc s.1 e
 |.eB kvs a,fr,h=>(ev P a fr h).bind λx e=>R.of (eK x kvs) e
 |.gX a,fr,h=>(ev P a fr h).bind λx e=>qP x e
noncomputable def bY(P:aP):Es->Fr->Hh->R (List D)
 |.nil,_,h=>.ok [] h
 |.cons e es,fr,h=>(ev P e fr h).bind λd a=>(bY P es fr a).bind λds b=>.ok (d :: ds) b
noncomputable def fO(P:aP):Eo->Fr->Hh->R (Option Int)
 |.no,_,h=>.ok none h
 |.yes e,fr,h=>(ev P e fr h).bind λd a=>R.of ((intOf d).map some) a
noncomputable def iz(P:aP):Eo->Fr->Hh->R Bool
 |.no,_,h=>.ok true h
 |.yes e,fr,h=>aI P e fr h
noncomputable def aI(P:aP):E->Fr->Hh->R Bool
 |.an a b,fr,h=>(aI P a fr h).bind λk c=>if k then aI P b fr c else .ok false c
 |.orr a b,fr,h=>(aI P a fr h).bind λk c=>if k then .ok true c else aI P b fr c
 |.nt a,fr,h=>(aI P a fr h).bind λk c=>.ok (!k) c
 |e,fr,h=>(ev P e fr h).bind λx c=>R.of (truthy c x) c
noncomputable def cI(P:aP):It->Fr->Hh->R Src
 |.seq e,fr,h=>(ev P e fr h).bind λx c=>R.of (gi c x) c
 |.gp es,fr,h=>(bY P es fr h).bind λds c=>R.of (dH ds) c
 |.iN a b,fr,h=>(ev P a fr h).bind λx c=>(ev P b fr c).bind λy d=>R.of ((uC x y).map λl=>(l,[])) d
 |.rev a,fr,h=>(ev P a fr h).bind λx c=>R.of ((Di x).map λds=>(ds.reverse,[])) c
end
mutual
noncomputable def ex(P:aP)(w:Nat):S->Fr->Hh->R (Fl×Fr)
 |.set i e,fr,h=>(ev P e fr h).bind λx c=>.ok (.nx,fr.set i (some x)) c
 |.exp e,fr,h=>(ev P e fr h).bind λ_ c=>.ok (.nx,fr) c
 |.ret e,fr,h=>(ev P e fr h).bind λx c=>.ok (.ret x,fr) c
 |.iff t a b,fr,h=>(aI P t fr h).bind λk c=>if k then exs P w a fr c else exs P w b fr c
 |.for t it b,fr,h=>(cI P it fr h).bind λs c=>forL (λd f g=>match cG t d f with
   |some j=>exs P w b j g
   |none=>.bad) s.2 s.1 fr c
 |.oB t b,fr,h=>dI (λf g=>aI P t f g) (λf g=>exs P w b f g) w fr h
 |.dS _,_,_=>.bad
noncomputable def exs(P:aP)(w:Nat):Ss->Fr->Hh->R (Fl×Fr)
 |.nil,fr,h=>.ok (.nx,fr) h
 |.cons s ss,fr,h=>(ex P w s fr h).bind λp a=>match p.1 with
   |.nx=>exs P w ss p.2 a
   |_=>.ok p a
end
def jc(P:aP)(w:Nat)(fr:Fr)(h:Hh):(∀e,ex P w (.exp e) fr h=((ev P e fr h).bind λ_ h1=>.ok (.nx,fr) h1))
 /\(∀i e,ex P w (.set i e) fr h=((ev P e fr h).bind λx h1=>.ok (.nx,fr.set i (some x)) h1))
 /\(∀e,ex P w (.exp e) fr h=((ev P e fr h).bind λ_ h1=>.ok (.nx,fr) h1))
 /\(∀e,ex P w (.ret e) fr h=((ev P e fr h).bind λx h1=>.ok (.ret x,fr) h1))
 /\(∀t a b,ex P w (.iff t a b) fr h=((aI P t fr h).bind λk h1=>if k then exs P w a fr h1 else exs P w b fr h1))
 /\(∀t it b,ex P w (.for t it b) fr h=((cI P it fr h).bind λs h1=>forL (λd ao h2=>match cG t d ao with
   |some cy=>exs P w b cy h2
   |none=>.bad) s.2 s.1 fr h1))
 /\(∀t b,ex P w (.oB t b) fr h=(dI (λao h2=>aI P t ao h2) (λao h2=>exs P w b ao h2) w fr h))
 /\(∀x1,ex P w (.dS x1) fr h=(.bad))
 /\True:=by and_intros<;>intros<;>first|rfl|trivial
structure Fn where
 np:Nat
 ns:Nat
 body:Ss
noncomputable def er(fn:Fn)(ds:List D):Fr:=ds.map some++List.replicate (fn.ns - fn.np) none
noncomputable def endOf(r:R (Fl×Fr)):R D:=r.bind λp h=>match p.1 with
 |.ret d=>.ok d h
 |.nx=>.ok .bG h
 |_=>.bad
noncomputable def run(F:List Fn)(w:Nat):Nat->aP
 |0,_,_,_=>.bad
 |n+1,f,ds,h=>match F[f]? with
  |some a=>if ds.length=a.np then endOf (exs (run F w n) w a.body (er a ds) h)else .bad
  |none=>.bad
def pS(F:List Fn)(w n f:Nat)(ds:List D)(h:Hh):run F w (n+1) f ds h=match F[f]? with
  |some a=>if ds.length=a.np then endOf (exs (run F w n) w a.body (er a ds) h)else .bad
  |none=>.bad:=rfl
end Ev
namespace Sm
open PySem PySem.Spec PyProof.Rows L2
noncomputable def au(l:List Nat):Str:=⟨l.toArray⟩
def bh(l:List Nat):(au l).length=l.length:=by simp[au,Str.length]
def jE{a b:List Nat}(h:au a=au b):a=b:=by
 have c:a.toArray=b.toArray:=Xp Str.cps h;simpa using Xp Array.toList c
def jN:Ev.big=sizeLine:=by rw[YD];rfl
section
variable(K:PySem.W.Frag)
mutual
def RV(H:Hp)(r:List Addr):Ev.D->V->Prop
 |.bG,v=>v=.bG
 |.bl b,v=>v=.bl b
 |.int i,v=>v=.int i
 |.str s,v=>v=.str (au s)/\s.length<=sizeLine
 |.ref n,v=>∃a,v=.ref a/\r[n]?=some a
 |.tup ds,v=>∃a vs,v=.ref a/\dm K H a vs/\aD H r ds vs
def aD(H:Hp)(r:List Addr):List Ev.D->List V->Prop
 |[],vs=>vs=[]
 |d :: ds,vs=>∃v w,vs=v :: w/\RV H r d v/\aD H r ds w
end
def zj(H:Hp)(a:Addr)(vs:List V):Prop:=(∃o,H a=some (.bT o (.lst vs)))\/
 ∃(o:Obj) (its:Array Value) (n:Nat),K.lookup a=some o/\o.cls=.type "list" /\o.dict=none/\o.data=.seq its n/\its.size<=sizeLine/\Vals vs its.toList
def RO(H:Hp)(r:List Addr):Ev.O->Addr->Prop
 |.lst ds,a=>∃vs,H a=some (.lst vs)/\aD K H r ds vs
 |.bT ds,a=>∃vs,zj K H a vs/\aD K H r ds vs
structure HR(H:Hp)(r:List Addr)(h:Ev.Hh):Prop where
 len:r.length=h.length
 ob:∀(n:Nat) o,h[n]?=some o->∃a,r[n]?=some a/\RO K H r o a
 inj:∀(n m:Nat) a x y,r[n]?=some a->r[m]?=some a->h[n]?=some (.lst x)->h[m]?=some (.lst y)->n=m
structure Fm(r r':List Addr)(H H':Hp):Prop where
 pre:∀(n:Nat) a,r[n]?=some a->r'[n]?=some a
 new:∀a∈r',a∈r\/H a=none
 keep:∀a o,H a=some o->a∉r->H' a=some o
 tups:∀a vs,dm K H a vs->dm K H' a vs
end
section
variable{K:PySem.W.Frag}{H H1 H2:Hp}{r r1 r2:List Addr}{h:Ev.Hh}
def Fm.refl:Fm K r r H H:=⟨λ_ _ e=>e,λ_ e=>.inl e,λ_ _ e _=>e,λ_ _ e=>e
 ⟩
def Fm.trans(a:Fm K r r1 H H1)(b:Fm K r1 r2 H1 H2):Fm K r r2 H H2 where
 pre:=λn x e=>b.pre n x (a.pre n x e)
 new:=λx e=>by
  rcases b.new x e with q|q
  .exact a.new x q
  .by_cases z:x∈r
   .exact .inl z
   .refine .inr ?_;cases w:H x with
    |none=>rfl
    |some o=>rw[a.keep x o w z]at q;cases q
 keep:=λx o e n=>by
  refine b.keep x o (a.keep x o e n) λz=>?_;rcases a.new x z with q|q
  .exact n q
  .rw[e]at q;cases q
 tups:=λx c e=>b.tups x c (a.tups x c e)
mutual
theorem RV.grow(f:∀(n:Nat) a,r[n]?=some a->r1[n]?=some a)(g:∀a vs,dm K H a vs->dm K H1 a vs):∀{d:Ev.D}{v:V},RV K H r d v->RV K H1 r1 d v
 |.bG,_,e=>e
 |.bl _,_,e=>e
 |.int _,_,e=>e
 |.str _,_,e=>e
 |.ref n,_,⟨a,e,z⟩=>⟨a,e,f n a z⟩
 |.tup ds,_,⟨a,vs,e,z,q⟩=>⟨a,vs,e,g a vs z,aD.grow f g q⟩
theorem aD.grow(f:∀(n:Nat) a,r[n]?=some a->r1[n]?=some a)(g:∀a vs,dm K H a vs->dm K H1 a vs):∀{ds:List Ev.D}{vs:List V},aD K H r ds vs->aD K H1 r1 ds vs
 |[],_,e=>e
 |_ :: _,_,⟨v,w,e,z,q⟩=>⟨v,w,e,RV.grow f g z,aD.grow f g q⟩
end
def RV.mono(f:Fm K r r1 H H1){d:Ev.D}{v:V}(q:RV K H r d v):RV K H1 r1 d v:=q.grow f.pre f.tups
def aD.mono(f:Fm K r r1 H H1){ds:List Ev.D}{vs:List V}(q:aD K H r ds vs):aD K H1 r1 ds vs:=q.grow f.pre f.tups
def aD.nil:aD K H r [] []:=by simp[aD]
def aD.cons{d:Ev.D}{v:V}{ds:List Ev.D}{vs:List V}(a:RV K H r d v)(b:aD K H r ds vs):aD K H r (d :: ds) (v :: vs):=by
 simp only[aD];exact⟨v,vs,rfl,a,b⟩
theorem aD.length:∀{ds:List Ev.D}{vs:List V},aD K H r ds vs->vs.length=ds.length
 |[],_,e=>by simp only[aD]at e;subst e;rfl
 |_ :: _,_,e=>by
  simp only[aD]at e;obtain⟨v,w,rfl,_,q⟩:=e;simp[aD.length q]
theorem aD.get:∀{ds:List Ev.D}{vs:List V}{i:Nat}{d:Ev.D},aD K H r ds vs->ds[i]?=some d->∃v,vs[i]?=some v/\RV K H r d v
 |[],_,_,_,_,e=>by simp at e
 |_ :: _,_,0,_,h,e=>by
  simp only[aD]at h;obtain⟨v,w,rfl,z,q⟩:=h;simp at e;subst e;exact⟨v,by simp,z⟩
 |_ :: _,_,i+1,_,h,e=>by
  simp only[aD]at h;obtain⟨v,w,rfl,z,q⟩:=h;obtain⟨u,a,b⟩:=aD.get (i:=i) q (by simpa using e);exact⟨u,by simpa using a,b⟩
theorem aD.append:∀{ds es:List Ev.D}{vs ws:List V},aD K H r ds vs->aD K H r es ws->aD K H r (ds++es) (vs++ws)
 |[],_,_,_,a,b=>by simp only[aD]at a;subst a;simpa using b
 |_ :: _,_,_,_,a,b=>by
  simp only[aD]at a;obtain⟨v,w,rfl,z,q⟩:=a;simp only[XM];exact .cons z (aD.append q b)
theorem aD.take:∀{ds:List Ev.D}{vs:List V}(n:Nat),aD K H r ds vs->aD K H r (ds.take n) (vs.take n)
 |_,_,0,_=>by simp[aD]
 |[],_,_+1,a=>by simp only[aD]at a;subst a;simp[aD]
 |_ :: _,_,n+1,a=>by
  simp only[aD]at a;obtain⟨v,w,rfl,z,q⟩:=a;simp only[Yd];exact .cons z (aD.take n q)
theorem aD.drop:∀{ds:List Ev.D}{vs:List V}(n:Nat),aD K H r ds vs->aD K H r (ds.drop n) (vs.drop n)
 |_,_,0,a=>by simpa using a
 |[],_,_+1,a=>by simp only[aD]at a;subst a;simp[aD]
 |_ :: _,_,n+1,a=>by
  simp only[aD]at a;obtain⟨v,w,rfl,z,q⟩:=a;simp only[Ye];exact aD.drop n q
theorem aD.reverse:∀{ds:List Ev.D}{vs:List V},aD K H r ds vs->aD K H r ds.reverse vs.reverse
 |[],_,a=>by simp only[aD]at a;subst a;simp[aD]
 |_ :: _,_,a=>by
  simp only[aD]at a;obtain⟨v,w,rfl,z,q⟩:=a;simp only[XC];exact(aD.reverse q).append (.cons z .nil)
theorem aD.rep{ds:List Ev.D}{vs:List V}(a:aD K H r ds vs):∀k:Nat,aD K H r (Ev.rep k ds) (Ev.rep k vs)
 |0=>by simp[Ev.rep,aD]
 |k+1=>by
  have h:=aD.rep a k;simp only[Ev.rep,VR,X3]at h ⊢;exact a.append h
def Fm.laid{p:Addr}{o:HO}(hp:H p=none):Fm K r (r++[p]) H (upd H p o) where
 pre:=λn a e=>by rw[Vf (List.getElem?_eq_some_iff.mp e).1];exact e
 new:=λa e=>by
  rcases List.mem_append.mp e with q|q
  .exact .inl q
  .rw[XG]at q;subst q;exact .inr hp
 keep:=λa b e _=>by rw[bH (cg e hp)];exact e
 tups:=λa c e=>by
  rcases e with (e|⟨b,e⟩)|e
  .exact .inl (.inl (by rw[bH (cg e hp)];exact e))
  .exact .inl (.inr ⟨b,by rw[bH (cg e hp)];exact e⟩)
  .exact .inr e
def Fm.tup{p:Addr}{o:HO}(hp:H p=none):Fm K r r H (upd H p o) where
 pre:=λn a e=>e
 new:=λa e=>.inl e
 keep:=λa b e _=>by rw[bH (cg e hp)];exact e
 tups:=(Fm.laid (r:=r) hp).tups
theorem RO.mono{o:Ev.O}{a:Addr}(f:Fm K r r1 H H1)(q:RO K H r o a)(hl:∀ds vs,o=.lst ds->H a=some (.lst vs)->H1 a=some (.lst vs))(hf:∀ob vs,H a=some (.bT ob vs)->H1 a=some (.bT ob vs))
  : RO K H1 r1 o a:=by
 cases o with
 |lst ds=>
  obtain⟨vs,e,z⟩:=q;exact⟨vs,hl ds vs rfl e,z.mono f⟩
 |bT ds=>
  obtain⟨vs,e,z⟩:=q;refine⟨vs,?_,z.mono f⟩;rcases e with ⟨ob,e⟩|e
  .exact .inl ⟨ob,hf _ _ e⟩
  .exact .inr e
theorem HR.tup{p:Addr}{o:HO}(hr:HR K H r h)(hp:H p=none):HR K (upd H p o) r h where
 len:=hr.len
 ob:=λn ob e=>by
  obtain⟨a,b,q⟩:=hr.ob n ob e;exact⟨a,b,q.mono (Fm.tup hp) (λ_ c _ z=>by rw[bH (cg z hp)];exact z) (λ_ _ z=>by rw[bH (cg z hp)];exact z)
   ⟩
 inj:=hr.inj
theorem HR.lst{p:Addr}{ds:List Ev.D}{vs:List V}(hr:HR K H r h)(hp:H p=none)(q:aD K H r ds vs):HR K (upd H p (.lst vs)) (r++[p]) (h++[.lst ds]) where
 len:=by simp[hr.len]
 ob:=λn ob e=>by
  by_cases M:n<h.length
  .rw[Vf M]at e;obtain⟨a,l,z⟩:=hr.ob n ob e;exact⟨a,(Fm.laid (K:=K) (o:=.lst vs) hp).pre n a l,z.mono (Fm.laid hp) (λ_ vs _ z=>by rw[bH (cg z hp)];exact z) (λ_ _ z=>by rw[bH (cg z hp)];exact z)
    ⟩
  .have f:=(List.getElem?_eq_some_iff.mp e).1;simp only[T7,YA]at f;have A:n=h.length:=by omega
   subst A;simp at e;subst e;exact⟨p,by rw[<-hr.len];simp,vs,gI,q.mono (Fm.laid hp)⟩
 inj:=λn m a x y l f A G=>by
  have out:∀(k:Nat) z,(h++[Ev.O.lst ds])[k]?=some (.lst z)->(r++[p])[k]?=some a->(k<h.length/\r[k]?=some a/\h[k]?=some (.lst z)/\a≠p)\/(k=h.length/\a=p):=λk z g c=>by
   by_cases B:k<h.length
   .rw[Vf B]at g;rw[Vf (by rw[hr.len];exact B)]at c;obtain⟨b,i,N,C,_⟩:=hr.ob k _ g;rw[c]at i;cases i;exact .inl ⟨B,c,g,cg C hp⟩
   .have i:=(List.getElem?_eq_some_iff.mp g).1;simp only[T7,YA]at i;have C:k=r.length:=by rw[hr.len];omega
    subst C;simp at c;exact .inr ⟨hr.len,c.symm⟩
  rcases out n x A l with ⟨I,F,P,Q⟩|⟨I,F⟩
  .rcases out m y G f with ⟨j,d,J,L⟩|⟨j,d⟩
   .exact hr.inj n m a x y F d P J
   .exact absurd d Q
  .rcases out m y G f with ⟨j,d,J,L⟩|⟨j,d⟩
   .exact absurd F L
   .rw[I,j]
def HR.read{n:Nat}{ds:List Ev.D}(hr:HR K H r h)(e:Ev.br h n=some ds):∃a vs,r[n]?=some a/\eY K H a vs/\aD K H r ds vs:=by
 unfold Ev.br at e;split at e
 .rename_i z;cases e;obtain⟨a,c,vs,b,d⟩:=hr.ob n _ z;exact⟨a,vs,c,.inl (.inl b),d⟩
 .rename_i z;cases e;obtain⟨a,c,vs,b,d⟩:=hr.ob n _ z;refine⟨a,vs,c,?_,d⟩;rcases b with ⟨f,b⟩|b
  .exact .inl (.inr ⟨f,b⟩)
  .exact .inr b
 .cases e
def Fm.write{a:Addr}{vs ws:List V}(ha:H a=some (.lst vs))(hm:a∈r):Fm K r r H (upd H a (.lst ws)) where
 pre:=λn b e=>e
 new:=λb e=>.inl e
 keep:=λb c e n=>by rw[bH (λz=>n (by rw[z];exact hm))];exact e
 tups:=λb d e=>by
  rcases e with (e|⟨c,e⟩)|e
  .exact .inl (.inl (by rw[bH (pM e ha (by intro z;cases z))];exact e))
  .exact .inl (.inr ⟨c,by rw[bH (pM e ha (by intro z;cases z))];exact e⟩)
  .exact .inr e
theorem HR.write{n:Nat}{a:Addr}{ds es:List Ev.D}{vs ws:List V}(hr:HR K H r h)(hn:h[n]?=some (.lst ds))(J0:r[n]?=some a)(ha:H a=some (.lst vs))(q:aD K H r es ws) :
  HR K (upd H a (.lst ws)) r (h.set n (.lst es)) where
 len:=by simp[hr.len]
 ob:=λm ob e=>by
  have f:=Fm.write (K:=K) (ws:=ws) ha (Xx J0);by_cases g:m=n
  .subst g;rw[Xn (List.getElem?_eq_some_iff.mp hn).1]at e;cases e;exact⟨a,J0,ws,gI,q.mono f⟩
  .rw[Tz (λz=>g z.symm)]at e;obtain⟨b,c,z⟩:=hr.ob m ob e;refine⟨b,c,z.mono f (λUi o p d=>?_) (λVH o d=>by rw[bH (pM d ha (by intro z;cases z))];exact d)
    ⟩
   by_cases i:b=a
   .subst i;subst p;exact absurd (hr.inj m n b Ui ds c J0 e hn) g
   .rw[bH i];exact d
 inj:=λk m b x y c A B C=>by
  have back:∀(j:Nat) z,(h.set n (Ev.O.lst es))[j]?=some (.lst z)->∃z',h[j]?=some (.lst z'):=λj z w=>by
   by_cases l:j=n
   .subst l;exact⟨ds,hn⟩
   .rw[Tz (λz=>l z.symm)]at w;exact⟨z,w⟩
  obtain⟨F,G⟩:=back k x B;obtain⟨I,J⟩:=back m y C;exact hr.inj k m b F I c A G J
def iA{p:Addr}{vs ws:List V}(hp:H p=some (.lst vs)):∀a us,dm K H a us->dm K (upd H p (.lst ws)) a us:=λb us e=>by
 rcases e with (e|⟨ob,e⟩)|e
 .exact .inl (.inl (by rw[bH (pM e hp (by intro z;cases z))];exact e))
 .exact .inl (.inr ⟨ob,by rw[bH (pM e hp (by intro z;cases z))];exact e⟩)
 .exact .inr e
def HR.other{p:Addr}{vs ws:List V}(hr:HR K H r h)(hp:H p=some (.lst vs))(hn:p∉r):HR K (upd H p (.lst ws)) r h where
 len:=hr.len
 ob:=λn ob e=>by
  obtain⟨a,f,q⟩:=hr.ob n ob e;have g:a≠p:=λz=>hn (by rw[<-z];exact Xx f);refine⟨a,f,?_⟩;cases ob with
  |lst ds=>
   obtain⟨c,b,d⟩:=q;exact⟨c,by rw[bH g];exact b,d.grow (λ_ _ z=>z) (iA hp)⟩
  |bT ds=>
   obtain⟨c,b,d⟩:=q;refine⟨c,?_,d.grow (λ_ _ z=>z) (iA hp)⟩;rcases b with ⟨o,b⟩|b
   .exact .inl ⟨o,by rw[bH g];exact b⟩
   .exact .inr b
 inj:=hr.inj
def Fm.other{p:Addr}{vs ws:List V}(f:Fm K r r1 H H1)(h0:H p=none)(hp:H1 p=some (.lst vs)):Fm K r r1 H (upd H1 p (.lst ws)) where
 pre:=f.pre
 new:=f.new
 keep:=λa o e n=>by rw[bH (cg e h0)];exact f.keep a o e n
 tups:=λa b e=>iA hp a b (f.tups a b e)
def Fm.eE{p:Addr}{o:HO}(f:Fm K r r1 H H1)(hp:H p=some o)(hn:p∉r):p∉r1/\H1 p=some o:=by
 refine⟨λz=>?_,f.keep p o hp hn⟩;rcases f.new p z with q|q
 .exact hn q
 .rw[hp]at q;cases q
def HR.known{p:Addr}{ds:List Ev.D}{vs:List V}(hr:HR K H r h)(hp:H p=some (.lst vs))(hn:p∉r)(q:aD K H r ds vs):HR K H (r++[p]) (h++[.lst ds]):=by
 have pre:∀(n:Nat) a,r[n]?=some a->(r++[p])[n]?=some a:=λn a e=>by rw[Vf (List.getElem?_eq_some_iff.mp e).1];exact e
 refine⟨by simp[hr.len],λn B e=>?_,λn m a x y j b c C=>?_
  ⟩
 .by_cases d:n<h.length
  .rw[Vf d]at e;obtain⟨a,j,z⟩:=hr.ob n B e;refine⟨a,pre n a j,?_⟩;cases B with
   |lst ds=>obtain⟨l,b,c⟩:=z;exact⟨l,b,c.grow pre λ_ _ z=>z⟩
   |bT ds=>obtain⟨l,b,c⟩:=z;exact⟨l,b,c.grow pre λ_ _ z=>z⟩
  .have b:=(List.getElem?_eq_some_iff.mp e).1;simp only[T7,YA]at b;have c:n=h.length:=by omega
   subst c;simp at e;subst e;exact⟨p,by rw[<-hr.len];simp,vs,hp,q.grow pre λ_ _ z=>z⟩
 .have out:∀(k:Nat) z,(h++[Ev.O.lst ds])[k]?=some (.lst z)->(r++[p])[k]?=some a->(k<h.length/\r[k]?=some a/\h[k]?=some (.lst z)/\a≠p)\/(k=h.length/\a=p):=λk z o f=>by
   by_cases d:k<h.length
   .rw[Vf d]at o;rw[Vf (by rw[hr.len];exact d)]at f;exact .inl ⟨d,f,o,λz=>hn (by rw[<-z];exact Xx f)⟩
   .have J:=(List.getElem?_eq_some_iff.mp o).1;simp only[T7,YA]at J;have L:k=r.length:=by rw[hr.len];omega
    subst L;simp at f;exact .inr ⟨hr.len,f.symm⟩
  rcases out n x c j with ⟨F,A,M,N⟩|⟨F,A⟩
  .rcases out m y C b with ⟨i,g,G,I⟩|⟨i,g⟩
   .exact hr.inj n m a x y A g M G
   .exact absurd g N
  .rcases out m y C b with ⟨i,g,G,I⟩|⟨i,g⟩
   .exact absurd A I
   .rw[F,i]
def Fm.known{p:Addr}(f:Fm K r r1 H H1)(h0:H p=none):Fm K r (r1++[p]) H H1 where
 pre:=λn a e=>by
  have b:=f.pre n a e;rw[Vf (List.getElem?_eq_some_iff.mp b).1];exact b
 new:=λa e=>by
  rcases List.mem_append.mp e with q|q
  .exact f.new a q
  .rw[XG]at q;subst q;exact .inr h0
 keep:=f.keep
 tups:=f.tups
end
end Sm
namespace Sm
open PySem PySem.Spec PyProof.Rows L2
open Ev (D O Hh Fr R aP E Es Eo It T S Ss Fl Src bO bz TY BI ME)
section
variable(K:PySem.W.Frag)
def Res(r:List Addr)(H:Hp)(h':Hh)(d:D)(Q:VK):Prop:=∀v H' r',RV K H' r' d v->HR K H' r' h'->Fm K r r' H H'->Q v H'
structure SR(m:List Nat)(H:Hp)(r:List Addr)(fr:Fr)(s:L2.St):Prop where
 len:s.length=m.length
 sl:∀(j i:Nat) d,m[j]?=some i->fr[i]?=some (some d)->∃v,s[j]?=some (some v)/\RV K H r d v
inductive tJ(m:List Nat)(P:aP)(e:E)(s:L2.St)(H:Hp)(Q:VK):Prop
 |mk (r:List Addr) (fr:Fr) (h:Hh) (d:D) (h':Hh) (c0:SR K m H r fr s) (c1:HR K H r h) (c2:Ev.ev P e fr h=.ok d h') (c3:Res K r H h' d Q):tJ m P e s H Q
inductive A2(m:List Nat)(P:aP)(e:E)(s:L2.St)(H:Hp)(Q:Bool->Hp->Prop):Prop
 |mk (r:List Addr) (fr:Fr) (h:Hh) (k:Bool) (h':Hh) (c0:SR K m H r fr s) (c1:HR K H r h) (c2:Ev.aI P e fr h=.ok k h') (c3:∀H' r',HR K H' r' h'->Fm K r r' H H'->Q k H'):A2 m P e s H Q
inductive xA(m:List Nat)(P:aP)(es:Es)(s:L2.St)(H:Hp)(Q:List V->Hp->Prop):Prop
 |mk (r:List Addr) (fr:Fr) (h:Hh) (ds:List D) (h':Hh) (c0:SR K m H r fr s) (c1:HR K H r h) (c2:Ev.bY P es fr h=.ok ds h') (c3:∀vs H' r',aD K H' r' ds vs->HR K H' r' h'->Fm K r r' H H'->Q vs H'):xA m P es s H Q
inductive QB(m:List Nat)(P:aP)(e:Eo)(s:L2.St)(H:Hp)(Q:Option Int->Hp->Prop):Prop
 |mk (r:List Addr) (fr:Fr) (h:Hh) (o:Option Int) (h':Hh) (c0:SR K m H r fr s) (c1:HR K H r h) (c2:Ev.fO P e fr h=.ok o h') (c3:∀H' r',HR K H' r' h'->Fm K r r' H H'->Q o H'):QB m P e s H Q
inductive eT(f:D->D->Hh->R D)(x:V)(y:V)(H:Hp)(Q:VK):Prop
 |mk (r:List Addr) (h:Hh) (a:D) (b:D) (d:D) (h':Hh) (c0:HR K H r h) (c1:RV K H r a x) (c2:RV K H r b y) (c3:f a b h=.ok d h') (c4:Res K r H h' d Q):eT f x y H Q
inductive kG(f:List D->Hh->R D)(xs:List V)(H:Hp)(Q:VK):Prop
 |mk (r:List Addr) (h:Hh) (as:List D) (d:D) (h':Hh) (c0:HR K H r h) (c1:aD K H r as xs) (c2:f as h=.ok d h') (c3:Res K r H h' d Q):kG f xs H Q
inductive se(f:D->List D->Hh->R D)(x:V)(xs:List V)(H:Hp)(Q:VK):Prop
 |mk (r:List Addr) (h:Hh) (a:D) (as:List D) (d:D) (h':Hh) (c0:HR K H r h) (c1:RV K H r a x) (c2:aD K H r as xs) (c3:f a as h=.ok d h') (c4:Res K r H h' d Q):se f x xs H Q
inductive J1  (x:V) (lo:Option Int) (hi:Option Int) (H:Hp) (Q:VK):Prop
 |mk (r:List Addr) (h:Hh) (a:D) (d:D) (h':Hh) (c0:HR K H r h) (c1:RV K H r a x) (c2:Ev.fB a lo hi h=.ok d h') (c3:Res K r H h' d Q):J1 x lo hi H Q
end
section
variable{K:PySem.W.Frag}{m:List Nat}{H H':Hp}{r r':List Addr}{fr:Fr}{s:L2.St}{h h':Hh}{d:D}{Q:VK}
theorem SR.mono(a:SR K m H r fr s)(f:Fm K r r' H H'):SR K m H' r' fr s:=⟨a.len,λj i d b c=>by
 obtain⟨v,q,z⟩:=a.sl j i d b c;exact⟨v,q,z.mono f⟩⟩
def Res.here{v:V}(q:Res K r H h d Q)(a:RV K H r d v)(b:HR K H r h):Q v H:=q v H r a b .refl
def Res.later(q:Res K r H h' d Q)(f:Fm K r r' H H'):Res K r' H' h' d Q:=λv H2 c a b g=>q v H2 c a b (f.trans g)
theorem Res.lst{ds:List D}{vs:List V}(q:Res K r H h' d Q)(e:Ev.alloc ds h=.ok d h')(a:aD K H r ds vs)(b:HR K H r h):vs.length<=sizeLine/\∀p,H p=none->Q (.ref p) (upd H p (.lst vs)):=by
 unfold Ev.alloc at e;split at e
 .rename_i z;cases e;refine⟨by rw[a.length,<-jN];exact z,λp c=>?_⟩;exact q _ _ (r++[p]) ⟨p,rfl,by rw[<-b.len];simp⟩ (b.lst c a) (.laid c)
 .cases e
theorem Res.tup{ds:List D}{vs:List V}(q:Res K r H h (.tup ds) Q)(a:aD K H r ds vs)(b:HR K H r h){p:Addr}(hp:H p=none):Q (.ref p) (upd H p (.tup vs)):=
 q _ _ r ⟨p,vs,rfl,.of gI,a.mono (.tup hp)⟩ (b.tup hp) (.tup hp)
end
def PE.of{X:Cx}{e:Expr}{t t':TE}(h:PE X e t)(w:∀s H Q,t' s H Q->t s H Q):PE X e t':=λpins s σ H Q I q=>h pins s σ H Q I (w _ _ _ q)
def PT.of{X:Cx}{e:Expr}{t t':TT}(h:PT X e t)(w:∀s H Q,t' s H Q->t s H Q):PT X e t':=λpins s σ H Q I q=>h pins s σ H Q I (w _ _ _ q)
def PW.of{X:Cx}{e:Expr}{t t':TT}(h:PW X e t)(w:∀s H Q,t' s H Q->t s H Q):PW X e t':=λwh pins s σ H Q I q=>h wh pins s σ H Q I (w _ _ _ q)
def PA.of{X:Cx}{es:List Expr}{t t':TA}(h:PA X es t)(w:∀s H Q,t' s H Q->t s H Q):PA X es t':=λpos pins s σ H Q I q=>h pos pins s σ H Q I (w _ _ _ q)
def PO.of{X:Cx}{e:Option Expr}{t t':TO}(h:PO X e t)(w:∀s H Q,t' s H Q->t s H Q):PO X e t':=λpins s σ H Q I q=>h pins s σ H Q I (w _ _ _ q)
structure FI where
 name:Str
 addr:Addr
 fd:FuncData
 ps:List Str
noncomputable def mF(K:PySem.W.Frag)(F:List Ev.Fn)(w n f:Nat):Sp:=λa H Q _=>∃r h ds d h',aD K H r ds a/\HR K H r h/\Ev.run F w n f ds h=.ok d h'/\Res K r H h' d Q
def xB(K:PySem.W.Frag)(d:D)(v:V):Prop:=∀H r,RV K H r d v
def xB.rv{K:PySem.W.Frag}{H:Hp}{r:List Addr}{d:D}{v:V}(h:xB K d v):RV K H r d v:=h H r
structure Tb where
 F:List Ev.Fn
 w:Nat
 fi:List FI
 bl:List Str
 cs:List (Str×D)
 dk:List (Str×List (D×D))
noncomputable def tabOf:List (D×D)->List (PyData×PyData)
 | (.str k,.str v) :: r=>(.str (au k),.str (au v)) :: tabOf r
 |_=>[]
structure Good(G:Tb)(n:Nat)(sc:Scope)(N:List Str)(df:Bool)(X:Cx):Prop where
 nm:X.N=N
 sc:X.env.scope=sc
 calm:X.calm=true
 own:df=true->∀x,X.fn x=true
 room:gO n X.A
 xe:X.xe=λ_ _=>False
 fn:∀(f:Nat) i,G.fi[f]?=some i->X.mg i.name=some (.ref i.addr)/\PySem.W.keepIn X.K (.ref i.addr)=true/\Binds X.K i.fd i.ps []/\iP X.prog X.w X.K X.mg X.base mE n i.addr i.fd i.ps (mF X.K G.F G.w n f)
 bl:∀x∈G.bl,X.mg x=none
 cs:∀x d,(x,d)∈G.cs->∃v u,X.mg x=some u/\RelV v u/\xB X.K d v
 dk:∀x kvs,(x,kvs)∈G.dk->∃a,X.mg x=some (.ref a)/\∀h:Heap,X.K.In h->StrTab X.prog X.w h a (tabOf kvs)
section
variable(G:Tb)(n:Nat)(sc:Scope)(N:List Str)(df:Bool)(m:List Nat)
def JE(e:E)(x:Expr):Prop:=∀X,Good G n sc N df X->PE X x (tJ X.K m (Ev.run G.F G.w n) e)
def JT(e:E)(x:Expr):Prop:=∀X,Good G n sc N df X->PT X x (A2 X.K m (Ev.run G.F G.w n) e)
def JW(e:E)(x:Expr):Prop:=∀X,Good G n sc N df X->PW X x (A2 X.K m (Ev.run G.F G.w n) e)
def JA(es:Es)(xs:List Expr):Prop:=∀X,Good G n sc N df X->PA X xs (xA X.K m (Ev.run G.F G.w n) es)
def JO(e:Eo)(x:Option Expr):Prop:=∀X,Good G n sc N df X->PO X x (QB X.K m (Ev.run G.F G.w n) e)
end
section
variable{G:Tb}{n:Nat}{sc:Scope}{N:List Str}{df:Bool}{m:List Nat}{a b c:E}{xa xb:Expr}{pos:Pos}
def Good.vis{X:Cx}(g:Good G n sc N df X){x:Str}(h:sc.names.lookup x=some .local\/sc.names.lookup x=some .cell\/sc.names.lookup x=some .free):AF X.env.scope x:=by
 rw[g.sc];exact h
def Good.gl{X:Cx}(g:Good G n sc N df X){x:Str}(h:sc.names.lookup x=some .globalImplicit):Gl X x:=by
 unfold Gl Env.kindOf;rw[g.sc];exact h
def SK(j i:Nat){x:Str}(hj:m[j]?=some i:=by rfl)(hN:N[j]?=some x:=by rfl)
  (hv:sc.names.lookup x=some .local\/sc.names.lookup x=some .cell\/sc.names.lookup x=some .free:=by first|exact Or.inl rfl|exact Or.inr (Or.inl rfl)|exact Or.inr (Or.inr rfl))
  (hd:(x==("__debug__" : Str))=false:=by decide) (hcd:(x==("__classdict__" : Str))=false:=by decide):JE G n sc N df m (.v i) (.Name x pos):=by
 intro X g;refine PE.of (AI (i:=j) (by rw[g.nm];exact hN) (g.vis hv) hd hcd) λs H Q q=>?_;obtain⟨r,k,h,d,F,l,p,e,q⟩:=q;simp only[Ev.ev]at e;obtain⟨f,y⟩:=Ev.aE e;subst y;obtain⟨v,A,B⟩:=l.sl j i d hj (by
  cases z:k[i]? with
  |none=>rw[z]at f;cases f
  |some o=>
   rw[z]at f;have C:o=some d:=f;rw[C])
 exact⟨v,A,q.here B p⟩
def tT{K:PySem.W.Frag}{P:aP}{d:D}{v:V}(hc:xB K d v):∀s H Q,tJ K m P (.c d) s H Q->tC v s H Q:=λs H Q q=>by
 obtain⟨r,g,h,i,j,k,f,e,q⟩:=q;simp only[Ev.ev]at e;cases e;exact q.here hc.rv f
def J2{i:Int}{j}:JE G n sc N df m (.c (.int i)) (.Constant (.int i) j pos):=λX g=>PE.of I0 (tT λ_ _=>rfl)
def Pc{k:Bool}{j}:JE G n sc N df m (.c (.bl k)) (.Constant (.bool k) j pos):=λX g=>PE.of OU (tT λ_ _=>rfl)
def J3{l:List Nat}{x:Str}{j}(hx:x=au l:=by decide +kernel)(hl:l.length<=sizeLine:=by decide):JE G n sc N df m (.c (.str l)) (.Constant (.str x) j pos):=
 λX g=>PE.of Ja (tT λ_ _=>by subst hx;exact⟨rfl,hl⟩)
def nC {x:Str}{d:D}(hm:(x,d)∈G.cs) (hg:sc.names.lookup x=some .globalImplicit:=by rfl) (hd:(x==("__debug__" : Str))=false:=by decide):JE G n sc N df m (.c d) (.Name x pos):=λX g=>by
 obtain⟨v,u,e,f,h⟩:=g.cs x d hm;exact PE.of (qK (g.gl hg) e f hd) (tT h)
def J4:JA G n sc N df m .nil []:=λX g=>PA.of pP λs H Q q=>by
 obtain⟨r,f,h,ds,i,j,d,e,q⟩:=q;simp only[Ev.bY]at e;cases e;exact q [] H r .nil d .refl
def GL{es:Es}{xs:List Expr}(ha:JE G n sc N df m a xa)(hs:JA G n sc N df m es xs)(hst:∀env:Env,starEach (xa :: xs) env=(false,eval xa env) :: starEach xs env:=by intro _;rfl):JA G n sc N df m (.cons a es) (xa :: xs):=
 λX g=>PA.of (kE (ha X g) (hs X g) (hst _)) λs H Q q=>by
  obtain⟨r,k,h,ds,F,l,p,e,q⟩:=q;simp only[Ev.bY]at e;obtain⟨d,o,x,e⟩:=Ev.ah e;obtain⟨f,I,y,e⟩:=Ev.ah e;cases e;refine⟨r,k,h,d,o,l,p,x,λv H1 z A i f1=>?_⟩;refine⟨z,k,o,f,_,l.mono f1,i,y,λJ H2 B C j f2=>?_⟩;exact q _ H2 B (.cons (A.mono f2) C) j (f1.trans f2)
def J5{es:Es}{xs:List Expr}{k}(hs:JA G n sc N df m es xs):JE G n sc N df m (.tup es) (.Tuple xs k pos):=λX g=>PE.of (JH (hs X g)) λs H Q q=>by
 obtain⟨r,j,h,d,A,l,o,e,q⟩:=q;simp only[Ev.ev]at e;obtain⟨ds,B,x,e⟩:=Ev.ah e;split at e
 .rename_i z;cases e;refine⟨r,j,h,ds,_,l,o,x,λC H1 F i f f1=>⟨by rw[i.length,<-jN];exact z,λp y=>?_⟩⟩;exact(q.later f1).tup i f y
 .cases e
def J6{es:Es}{xs:List Expr}(hs:JA G n sc N df m es xs):JE G n sc N df m (.lst es) (.List xs pos):=λX g=>PE.of (JJ (hs X g)) λs H Q q=>by
 obtain⟨r,i,h,d,x,j,k,e,q⟩:=q;simp only[Ev.ev]at e;obtain⟨ds,l,o,e⟩:=Ev.ah e;refine⟨r,i,h,ds,l,j,k,o,λy H1 z p f f1=>?_⟩;exact(q.later f1).lst e p f
def mG{K:PySem.W.Frag}{P:aP}{f:D->D->Hh->R D}{e':E}(he:∀fr h,Ev.ev P e' fr h=(Ev.ev P a fr h).bind λx h1=>(Ev.ev P b fr h1).bind λy h2=>f x y h2) :
  ∀s H Q,tJ K m P e' s H Q->xq (eT K f) (tJ K m P a) (tJ K m P b) s H Q:=λs H Q q=>by
 obtain⟨r,fr,h,d,k,j,l,e,q⟩:=q;rw[he]at e;obtain⟨x,h1,o,e⟩:=Ev.ah e;obtain⟨y,h2,p,e⟩:=Ev.ah e;refine⟨r,fr,h,x,h1,j,l,o,λv H1 z A g f1=>?_⟩;refine⟨z,fr,h1,y,h2,j.mono f1,g,p,λu H2 B C i f2=>?_⟩;exact⟨B,h2,x,y,d,k,i,A.mono f2,C,e,q.later (f1.trans f2)⟩
def mH{o:bO}{op:Operator}(ho:∀X,Good G n sc N df X->cH X (binaryOp op) (eT X.K (Ev.bX o)))(ha:JE G n sc N df m a xa)(hb:JE G n sc N df m b xb):JE G n sc N df m (.bin o a b) (.BinOp xa op xb pos):=
 λX g=>PE.of (O3 (ho X g) (ha X g) (hb X g)) (mG λd h=>by simp only[Ev.ev])
noncomputable def cT(o:bz):D->D->Hh->R D:=λx y h=>R.of ((Ev.cop o x y h).map .bl) h
def uD{o:bz}{op:CmpOp}(ho:∀X,Good G n sc N df X->cH X (compareOp op) (eT X.K (cT o)))(ha:JE G n sc N df m a xa)(hb:JE G n sc N df m b xb)(hm:behindInMarks op xb=false):JE G n sc N df m (.cmp o a b) (.Compare xa [op] [xb] pos):=
 λX g=>PE.of (Gv (ho X g) (ha X g) (hb X g) hm) (mG λd h=>by simp only[Ev.ev,cT])
def gY{o:bz}{x y d:D}{h h':Hh}(e:cT o x y h=.ok d h'):∃k,Ev.cop o x y h=some k/\d=.bl k/\h'=h:=by
 unfold cT at e;obtain⟨f,rfl⟩:=Ev.aE e;cases z:Ev.cop o x y h' with
 |none=>rw[z]at f;cases f
 |some k=>rw[z]at f;cases f;exact⟨k,rfl,rfl,rfl⟩
def mJ{o:bz}{op:CmpOp}(ho:∀X,Good G n sc N df X->cH X (compareOp op) (eT X.K (cT o)))(ha:JE G n sc N df m a xa)(hb:JE G n sc N df m b xb)(hm:behindInMarks op xb=false):JT G n sc N df m (.cmp o a b) (.Compare xa [op] [xb] pos):=
 λX g=>PT.of (Gw (ho X g) (ha X g) (hb X g) hm) λs H Q q=>by
  obtain⟨r,l,h,k,J,z,A,e,q⟩:=q;simp only[Ev.aI]at e;obtain⟨d,L,p,e⟩:=Ev.ah e;have i:=p;simp only[Ev.ev]at i;obtain⟨x,M,_,i⟩:=Ev.ah i;obtain⟨y,B,_,i⟩:=Ev.ah i;obtain⟨P,W,C,Y⟩:=gY (o:=o) (show cT o x y B=_ from i);subst C;simp only[Ev.truthy]at e;cases e;refine mG (e':=.cmp o a b) (f:=cT o) (λl h=>by simp only[Ev.ev,cT]) s H _ ⟨r,l,h,.bl k,_,z,A,p,λv H1 F I j f1=>?_⟩;exact⟨k,I,q H1 F j f1⟩
def ES{K:PySem.W.Frag}{P:aP}{o p:bz}:∀s H Q,tJ K m P (.ch o p a b c) s H Q->uo (eT K (cT o)) (eT K (cT p)) (tJ K m P a) (tJ K m P b) (tJ K m P c) s H Q:=λs H Q q=>by
 obtain⟨r,g,h,d,J,i,L,e,q⟩:=q;simp only[Ev.ev]at e;obtain⟨x,B,M,e⟩:=Ev.ah e;obtain⟨y,h2,X,e⟩:=Ev.ah e;obtain⟨k,f,j,e⟩:=Ev.ah e;obtain⟨j,Y⟩:=Ev.aE j;subst Y;refine⟨r,g,h,x,B,i,L,M,λv H1 Z v1 l f1=>?_⟩;refine⟨Z,g,B,y,f,i.mono f1,l,X,λu H2 r2 C A f2=>?_⟩;refine⟨r2,f,x,y,.bl k,f,A,v1.mono f2,C,by simp[cT,j],λw H3 r3 v3 F f3=>?_⟩;refine⟨k,v3,?_⟩;cases k with
 |false=>
  simp only[Xw,XE]at e;cases e;exact(q.later ((f1.trans f2).trans f3)).here rfl F
 |true=>
  simp only[Xq]at e;obtain⟨z,I,e5,e⟩:=Ev.ah e;refine⟨r3,g,f,z,I,((i.mono f1).mono f2).mono f3,F,e5,λt H4 r4 v4 ET f4=>?_⟩;exact⟨r4,I,y,z,d,J,ET,(C.mono f3).mono f4,v4,e,q.later (((f1.trans f2).trans f3).trans f4)⟩
end
section
variable{G:Tb}{n:Nat}{sc:Scope}{N:List Str}{df:Bool}{m:List Nat}{a b c:E}{xa xb xc:Expr}{pos:Pos}
def Pd{o p:bz}{op op':CmpOp}(ho:∀X,Good G n sc N df X->cH X (compareOp op) (eT X.K (cT o)))(hp:∀X,Good G n sc N df X->cH X (compareOp op') (eT X.K (cT p)))
  (ha:JE G n sc N df m a xa) (hb:JE G n sc N df m b xb) (hc:JE G n sc N df m c xc) (hm:lastMarks [op,op'] [xb,xc]=false:=by with_unfolding_all rfl):JE G n sc N df m (.ch o p a b c) (.Compare xa [op,op'] [xb,xc] pos):=
 λX g=>PE.of (C2 (ho X g) (hp X g) (ha X g) (hb X g) (hc X g) hm) ES
def Pe{K:PySem.W.Frag}{P:aP}{e':E}{t:TE}(h:∀s H Q,tJ K m P e' s H Q->t s H Q)(hb:∀fr h d h',Ev.ev P e' fr h=.ok d h'->∃k,d=.bl k)
  (ht:∀fr h,Ev.aI P e' fr h=(Ev.ev P e' fr h).bind λx h1=>R.of (Ev.truthy h1 x) h1):∀s H Q,A2 K m P e' s H Q->tO t s H Q:=λs H Q q=>by
 obtain⟨r,fr,h1,k,h',i,j,e,q⟩:=q;rw[ht]at e;obtain⟨d,y,g,e⟩:=Ev.ah e;obtain⟨z,l⟩:=hb _ _ _ _ g;subst l;simp only[Ev.truthy]at e;cases e;exact h s H _ ⟨r,fr,h1,.bl k,_,i,j,g,λv H1 o p f f1=>⟨k,p,q H1 o f f1⟩⟩
def Pf{P:aP}{o p:bz}(fr:Fr)(h:Hh)(d:D)(h':Hh)(e:Ev.ev P (.ch o p a b c) fr h=.ok d h'):∃k,d=.bl k:=by
 simp only[Ev.ev]at e;obtain⟨x,j,l,e⟩:=Ev.ah e;obtain⟨y,q,r,e⟩:=Ev.ah e;obtain⟨k,A,B,e⟩:=Ev.ah e;split at e
 .obtain⟨z,f,C,e⟩:=Ev.ah e;obtain⟨g,_,i,_⟩:=gY (o:=p) (show cT p y z f=_ from e);exact⟨g,i⟩
 .cases e;exact⟨false,rfl⟩
def Pg{o p:bz}{op op':CmpOp}(ho:∀X,Good G n sc N df X->cH X (compareOp op) (eT X.K (cT o)))(hp:∀X,Good G n sc N df X->cH X (compareOp op') (eT X.K (cT p)))
  (ha:JE G n sc N df m a xa) (hb:JE G n sc N df m b xb) (hc:JE G n sc N df m c xc) (hm:lastMarks [op,op'] [xb,xc]=false:=by with_unfolding_all rfl):JT G n sc N df m (.ch o p a b c) (.Compare xa [op,op'] [xb,xc] pos):=
 λX g=>PT.of (C3 (ho X g) (hp X g) (ha X g) (hb X g) (hc X g) hm) (Pe ES Pf λd h=>by simp only[Ev.aI])
def J7(ha:JE G n sc N df m a xa):JE G n sc N df m (.neg a) (.UnaryOp .USub xa pos):=λX g=>PE.of (O4 JB (ha X g)) λs H Q q=>by
 obtain⟨r,i,h,d,p,j,k,e,q⟩:=q;simp only[Ev.ev]at e;obtain⟨x,y,l,e⟩:=Ev.ah e;split at e
 .cases e;exact⟨r,i,h,_,_,j,k,l,λv H1 z o f f1=>⟨_,o,(q.later f1).here rfl f⟩⟩
 .cases e
def J8{op}(ha:JE G n sc N df m a xa):JE G n sc N df m a (.BoolOp op [xa] pos):=λX g=>Jf (ha X g)
def Ph{rest:List Expr}(ha:JE G n sc N df m a xa)(hb:JE G n sc N df m b (.BoolOp .And (xb :: rest) pos)):JE G n sc N df m (.an a b) (.BoolOp .And (xa :: xb :: rest) pos):=λX g=>PE.of (Jg (ha X g) (hb X g)) λs H Q q=>by
 obtain⟨r,i,h,d,o,j,p,e,q⟩:=q;simp only[Ev.ev]at e;obtain⟨x,k,y,e⟩:=Ev.ah e;refine⟨r,i,h,x,k,j,p,y,λv H1 z l f f1=>?_⟩;split at e
 .exact⟨true,l,z,i,k,d,o,j.mono f1,f,e,q.later f1⟩
 .cases e;exact⟨false,l,(q.later f1).here rfl f⟩
 .cases e
def J9(ha:JT G n sc N df m a xa)(hb:JE G n sc N df m b xb)(hc:JE G n sc N df m c xc):JE G n sc N df m (.jW a b c) (.IfExp xa xb xc pos):=λX g=>PE.of (CQ (ha X g) (hb X g) (hc X g)) λs H Q q=>by
 obtain⟨r,i,h,d,o,j,x,e,q⟩:=q;simp only[Ev.ev]at e;obtain⟨k,l,y,e⟩:=Ev.ah e;refine⟨r,i,h,k,l,j,x,y,λH1 p f f1=>?_⟩;cases k with
 |true=>exact⟨p,i,l,d,o,j.mono f1,f,e,q.later f1⟩
 |false=>exact⟨p,i,l,d,o,j.mono f1,f,e,q.later f1⟩
def Ka(h:JW G n sc N df m a xa):JT G n sc N df m a xa:=λX g=>(h X g).pt
def Kc(ha:JT G n sc N df m a xa):JW G n sc N df m a (.BoolOp .And [xa] pos):=λX g=>Gp (ha X g)
def GN(ha:JT G n sc N df m a xa):JW G n sc N df m a (.BoolOp .Or [xa] pos):=λX g=>Jc (ha X g)
def EU{rest:List Expr}(ha:JT G n sc N df m a xa)(hb:JW G n sc N df m b (.BoolOp .And (xb :: rest) pos)):JW G n sc N df m (.an a b) (.BoolOp .And (xa :: xb :: rest) pos):=λX g=>PW.of (Jd (ha X g) (hb X g)) λs H Q q=>by
 obtain⟨r,j,h,k,l,o,y,e,q⟩:=q;simp only[Ev.aI]at e;obtain⟨p,f,z,e⟩:=Ev.ah e;refine⟨r,j,h,p,f,o,y,z,λH1 x d f1=>?_⟩;cases p with
 |true=>exact⟨x,j,f,k,l,o.mono f1,d,e,λH2 A i f2=>q H2 A i (f1.trans f2)⟩
 |false=>
  have B:R.ok false f=R.ok k l:=e;cases B;exact q H1 x d f1
def A3{rest:List Expr}(ha:JT G n sc N df m a xa)(hb:JW G n sc N df m b (.BoolOp .Or (xb :: rest) pos)):JW G n sc N df m (.orr a b) (.BoolOp .Or (xa :: xb :: rest) pos):=λX g=>PW.of (OV (ha X g) (hb X g)) λs H Q q=>by
 obtain⟨r,j,h,k,l,o,y,e,q⟩:=q;simp only[Ev.aI]at e;obtain⟨p,f,z,e⟩:=Ev.ah e;refine⟨r,j,h,p,f,o,y,z,λH1 x d f1=>?_⟩;cases p with
 |false=>exact⟨x,j,f,k,l,o.mono f1,d,e,λH2 A i f2=>q H2 A i (f1.trans f2)⟩
 |true=>
  have B:R.ok true f=R.ok k l:=e;cases B;exact q H1 x d f1
def Pj(ha:JT G n sc N df m a xa):JT G n sc N df m (.nt a) (.UnaryOp .Not xa pos):=λX g=>PT.of (Je (ha X g)) λs H Q q=>by
 obtain⟨r,f,h,k,x,i,j,e,q⟩:=q;simp only[Ev.aI]at e;obtain⟨l,y,o,e⟩:=Ev.ah e;cases e;exact⟨r,f,h,l,_,i,j,o,λH1 p d f1=>q H1 p d f1⟩
def Kd{K:PySem.W.Frag}{H:Hp}{r:List Addr}{h:Hh}{d:D}{v:V}{k:Bool}(hr:HR K H r h)(v1:RV K H r d v)(e:Ev.truthy h d=some k):C4 K v H k:=by
 cases d with
 |bG=>simp only[RV]at v1;subst v1;cases e;rfl
 |bl x=>simp only[RV]at v1;subst v1;cases e;rfl
 |int x=>simp only[RV]at v1;subst v1;cases e;rfl
 |str x=>
  simp only[RV]at v1;obtain⟨rfl,z⟩:=v1;cases e;refine⟨by rw[bh];exact z,?_⟩;rw[bh];cases x with
  |nil=>rfl
  |cons c l=>simp;omega
 |tup ds=>
  simp only[RV]at v1;obtain⟨p,f,rfl,z,q⟩:=v1;cases e;refine .inr (.inl ⟨f,z,?_⟩);have o:=q.length;cases ds<;>cases f<;>simp_all
 |ref i=>
  simp only[RV]at v1;obtain⟨p,rfl,z⟩:=v1;have y:Ev.truthy h (.ref i)=(Ev.br h i).map λds=>!ds.isEmpty:=by
   first
    |rfl
    | (simp only[Ev.truthy];split<;>first|rfl | (rename_i g z;first|exact(VI ⟨g,z⟩).elim|exact(hss ⟨g,z⟩).elim))
  rw[y]at e;simp only[wj]at e;obtain⟨ds,A,rfl⟩:=e;obtain⟨F,f,j,B,C⟩:=hr.read A;rw[z]at j;cases j;refine .inl ⟨f,B,?_⟩;have o:=C.length;cases ds<;>cases f<;>simp_all
def Ke(ha:JE G n sc N df m a xa)(he:∀(P:aP) fr h,Ev.aI P a fr h=(Ev.ev P a fr h).bind λx h1=>R.of (Ev.truthy h1 x) h1:=by intros;simp only[Ev.aI])
  (hx:∀(env:Env) whole,isTrue xa env whole=(do let v <-whole;standAt xa.pos;holding [v] (truthy v)):=by intro _ _;rfl):JT G n sc N df m a xa:=λX g=>PT.of (C5 (ha X g) (hx _)) λs H Q q=>by
 obtain⟨r,fr,h,k,y,i,j,e,q⟩:=q;rw[he]at e;obtain⟨d,h1,l,e⟩:=Ev.ah e;obtain⟨e,rfl⟩:=Ev.aE e;refine⟨r,fr,h,d,_,i,j,l,λv H1 o p f f1=>⟨k,Kd f p e,q H1 o f f1⟩⟩
noncomputable def Kf:D->D->Hh->R D:=λx y h=>R.of (Ev.fN x y h) h
def Pk(ho:∀X,Good G n sc N df X->xw X (eT X.K Kf))(ha:JE G n sc N df m a xa)(hb:JE G n sc N df m b xb)(hs:qN xb:=by intro _ _;rfl):JE G n sc N df m (.ix a b) (.Subscript xa xb pos):=
 λX g=>PE.of (Pb (ho X g) (ha X g) (hb X g) hs) (mG λd h=>by simp only[Ev.ev,Kf])
def Pn:JO G n sc N df m .no none:=λX g=>PO.of GB λs H Q q=>by
 obtain⟨r,f,h,o,i,j,d,e,q⟩:=q;simp only[Ev.fO]at e;cases e;exact q H r d .refl
def Kg(ha:JE G n sc N df m a xa):JO G n sc N df m (.yes a) (some xa):=λX g=>PO.of (GC (ha X g)) λs H Q q=>by
 obtain⟨r,j,h,o,z,k,l,e,q⟩:=q;simp only[Ev.fO]at e;obtain⟨d,A,p,e⟩:=Ev.ah e;obtain⟨e,rfl⟩:=Ev.aE e;cases d with
 |int i=>
  cases e;exact⟨r,j,h,.int i,_,k,l,p,λv H1 x y f f1=>⟨i,y,q H1 x f f1⟩⟩
 |_=>cases e
def Po{lo hi:Eo}{xl xh:Option Expr}{p2}(ho:∀X,Good G n sc N df X->kF X (J1 X.K))(ha:JE G n sc N df m a xa)(hl:JO G n sc N df m lo xl)(hu:JO G n sc N df m hi xh):JE G n sc N df m (.sl a lo hi) (.Subscript xa (.Slice xl xh none p2) pos):=
 λX g=>PE.of (C8 (ho X g) (ha X g) (hl X g) (hu X g)) λs H Q q=>by
  obtain⟨r,f,h,d,z,i,A,e,q⟩:=q;simp only[Ev.ev]at e;obtain⟨x,o,B,e⟩:=Ev.ah e;obtain⟨l,p,C,e⟩:=Ev.ah e;obtain⟨u,y,F,e⟩:=Ev.ah e;refine⟨r,f,h,x,o,i,A,B,λv H1 I J j f1=>?_⟩;refine⟨I,f,o,l,p,i.mono f1,j,C,λH2 L k f2=>?_⟩;refine⟨L,f,p,u,y,(i.mono f1).mono f2,k,F,λH3 M P f3=>?_⟩;exact⟨M,y,x,d,z,P,(J.mono f2).mono f3,e,q.later ((f1.trans f2).trans f3)⟩
def qQ{K:PySem.W.Frag}{P:aP}{es:Es}{f:List D->Hh->R D}{e':E}(he:∀fr h,Ev.ev P e' fr h=(Ev.bY P es fr h).bind f) :
  ∀s H Q,tJ K m P e' s H Q->EM (kG K f) (xA K m P es) s H Q:=λs H Q q=>by
 obtain⟨r,fr,h,d,j,k,l,e,q⟩:=q;rw[he]at e;obtain⟨ds,i,o,e⟩:=Ev.ah e;exact⟨r,fr,h,ds,i,k,l,o,λy H1 p x g f1=>⟨p,i,ds,d,j,g,x,e,q.later f1⟩⟩
def nD{k:BI}{es:Es}{x:Str}{id:String}{e0:Expr}{xs:List Expr}{p:Pos}(hc:∀X,Good G n sc N df X->dh X (.builtin id) (kG X.K (Ev.b7 k)))(hs:JA G n sc N df m es (e0 :: xs))(hb:x∈G.bl:=by decide +kernel)
  (hg:sc.names.lookup x=some .globalImplicit:=by rfl) (hv:bootBuiltins x=some (.builtin id)) (hn:x≠"__name__" :=by decide) (hd:(x==("__debug__" : Str))=false:=by decide)
  (hst:∀env:Env,starEach (e0 :: xs) env=(false,eval e0 env) :: starEach xs env:=by intro _;rfl) (hpl:∀env:Env,(backTo pos (starEach xs env)).any (·.1)=false:=by intro _;rfl) :
  JE G n sc N df m (.bi k es) (.Call (.Name x p) (e0 :: xs) [] pos):=
 λX g=>PE.of (ur (hc X g) (g.gl hg) (g.bl x hb) hv (hs X g) hn hd (hst _) (hpl _)) (qQ λd h=>by simp only[Ev.ev])
def EV{k:BI}{es:Es}{x:Str}{id:String}{e0:Expr}{xs:List Expr}{p:Pos}(hc:∀X,Good G n sc N df X->dh X (.type id) (kG X.K (Ev.b7 k)))(hs:JA G n sc N df m es (e0 :: xs))(hb:x∈G.bl:=by decide +kernel)
  (hg:sc.names.lookup x=some .globalImplicit:=by rfl) (hv:bootBuiltins x=some (.type id)) (hn:x≠"__name__" :=by decide) (hd:(x==("__debug__" : Str))=false:=by decide)
  (hst:∀env:Env,starEach (e0 :: xs) env=(false,eval e0 env) :: starEach xs env:=by intro _;rfl) (hpl:∀env:Env,(backTo pos (starEach xs env)).any (·.1)=false:=by intro _;rfl) :
  JE G n sc N df m (.bi k es) (.Call (.Name x p) (e0 :: xs) [] pos):=
 λX g=>PE.of (rY (hc X g) (g.gl hg) (g.bl x hb) hv (hs X g) hn hd (hst _) (hpl _)) (qQ λd h=>by simp only[Ev.ev])
def Pp{f:Nat}{i:FI}{es:Es}{e0:Expr}{xs:List Expr}{p:Pos}(hf:G.fi[f]?=some i)(hs:JA G n sc N df m es (e0 :: xs))
  (hg:sc.names.lookup i.name=some .globalImplicit:=by rfl) (hd:(i.name==("__debug__" : Str))=false:=by decide)
  (hst:∀env:Env,starEach (e0 :: xs) env=(false,eval e0 env) :: starEach xs env:=by intro _;rfl) (hpl:∀env:Env,(backTo pos (starEach xs env)).any (·.1)=false:=by intro _;rfl) :
  JE G n sc N df m (.cl f es) (.Call (.Name i.name p) (e0 :: xs) [] pos):=λX g=>by
 obtain⟨l,o,x,y⟩:=g.fn f i hf;refine PE.of (Gy y g.room (g.gl hg) l o x .nil ER (hs X g) hd (hst _) (hpl _)) λs H Q q=>?_;obtain⟨r,z,h,d,A,B,C,e,q⟩:=q;simp only[Ev.ev]at e;obtain⟨ds,k,F,e⟩:=Ev.ah e;refine⟨r,z,h,ds,k,B,C,F,λK H1 I J j f1=>?_⟩;exact⟨I,k,ds,d,A,by rw[XZ];exact J,j,e,q.later f1⟩
noncomputable def Dj:ME->String
 |.join=>"str"
 |.repl=>"str"
 |_=>"list"
def A4{K:PySem.W.Frag}{H:Hp}{r:List Addr}{h:Hh}{k:ME}{d:D}{v:V}{ty:String}(hr:HR K H r h)(v1:RV K H r d v)(e:Ev.xy k d h=true)(ht:ty=Dj k):AW K ty v H:=by
 subst ht;have lst:∀i,d=.ref i->(Ev.br h i).isSome=true->AW K "list" v H:=λi g j=>by
  subst g;obtain⟨ds,o⟩:=Option.isSome_iff_exists.mp j;obtain⟨p,q,x,y,z⟩:=hr.read o;simp only[RV]at v1;obtain⟨A,rfl,f⟩:=v1;rw[x]at f;cases f;exact .inl ⟨rfl,q,y⟩
 cases k with
 |join=>
  cases d with
  |str l=>simp only[RV]at v1;obtain⟨rfl,_⟩:=v1;rfl
  |_=>cases e
 |repl=>
  cases d with
  |str l=>simp only[RV]at v1;obtain⟨rfl,_⟩:=v1;rfl
  |_=>cases e
 |append=>cases d with|ref i=>exact lst i rfl e|_=>cases e
 |extend=>cases d with|ref i=>exact lst i rfl e|_=>cases e
 |pop=>cases d with|ref i=>exact lst i rfl e|_=>cases e
def zk {k:ME}{es:Es}{e0:Expr}{xs:List Expr}{name:Str}{apos:Pos}{ty id:String}(pa:PlainAttrs ty) (slot:Slot ty name id) (hty:typeOf (.builtin id)=pure (.type "method_descriptor"))
  (hm:∀X,Good G n sc N df X->oA X id (se X.K (Ev.dw k))) (ht:ty=Dj k) (ha:JE G n sc N df m a xa) (hs:JA G n sc N df m es (e0 :: xs))
  (hbase:∀env:Env,attributeBase xa name env (eval xa env)=eval xa env:=by intro _;rfl)
  (hfew:∀env:Env,((backTo pos (starEach (e0 :: xs) env)).all (λx=>!x.1)&&(backToKw pos (keywordEach [] env)).all (λx=>x.1.isSome)
   &&decide ((e0 :: xs).length+([]:List Keyword).length+(if ([]:List Keyword).isEmpty then 0 else 1)<30))=true:=by intro _;rfl)
  (hline:(apos.endLine==pos.line)=true:=by rfl) (hst:∀env:Env,starEach (e0 :: xs) env=(false,eval e0 env) :: starEach xs env:=by intro _;rfl) (hpl:∀env:Env,(backTo pos (starEach xs env)).any (·.1)=false:=by intro _;rfl) :
  JE G n sc N df m (.me k a es) (.Call (.Attribute xa name apos) (e0 :: xs) [] pos):=λX g=>
 PE.of (EN pa slot hty (hm X g) (ha X g) (hs X g) (hbase _) (hfew _) hline (hst _) (hpl _)) λs H Q q=>by
  obtain⟨r,j,h,d,z,l,A,e,q⟩:=q;simp only[Ev.ev]at e;obtain⟨x,o,B,e⟩:=Ev.ah e;split at e
  .rename_i C;obtain⟨ds,p,F,e⟩:=Ev.ah e;refine⟨r,j,h,x,o,l,A,B,λv H1 I y f f1=>⟨A4 f y C ht,?_⟩⟩;refine⟨I,j,o,ds,p,l.mono f1,f,F,λM H2 J L i f2=>?_⟩;exact⟨J,p,x,ds,d,z,i,y.mono f2,L,e,q.later (f1.trans f2)⟩
  .cases e
def Kh {k:ME}{name:Str}{apos:Pos}{ty id:String}(pa:PlainAttrs ty) (slot:Slot ty name id) (hty:typeOf (.builtin id)=pure (.type "method_descriptor"))
  (hm:∀X,Good G n sc N df X->oA X id (se X.K (Ev.dw k))) (ht:ty=Dj k) (ha:JE G n sc N df m a xa)
  (hbase:∀env:Env,attributeBase xa name env (eval xa env)=eval xa env:=by intro _;rfl) (hline:(apos.endLine==pos.line)=true:=by rfl) :
  JE G n sc N df m (.me k a .nil) (.Call (.Attribute xa name apos) [] [] pos):=λX g=>
 PE.of (JQ pa slot hty (hm X g) (ha X g) (hbase _) hline) λs H Q q=>by
  obtain⟨r,l,h,d,o,p,y,e,q⟩:=q;simp only[Ev.ev]at e;obtain⟨x,i,z,e⟩:=Ev.ah e;split at e
  .rename_i A;simp only[Ev.bY,Ev.ak]at e;refine⟨r,l,h,x,i,p,y,z,λv H1 B j f f1=>⟨A4 f j A ht,?_⟩⟩;exact⟨B,i,x,[],d,o,f,j,.nil,e,q.later f1⟩
  .cases e
end
end Sm
namespace Sm
open PySem PySem.Spec PyProof.Rows L2
open Ev (D O Hh Fr R aP E Es Eo T S Ss Fl Src bO bz TY BI ME)
def qR(K:PySem.W.Frag)(r0:List Addr)(H0:Hp)(s:Src)(J:L2.It):Prop:=∀(i:Nat) H1 r1 h1,HR K H1 r1 h1->Fm K r0 r1 H0 H1->Ev.stays h1 s.2=true->
 (∀d,s.1[i]?=some d->J.go i H1/\∀x H2,J.EK i H1 x H2->∃r2,RV K H2 r2 d x/\HR K H2 r2 h1/\Fm K r1 r2 H1 H2)/\(s.1.length<=i->J.stop i H1)
inductive QC(K:PySem.W.Frag)(m:List Nat)(P:aP)(it:Ev.It)(s:L2.St)(H:Hp)(Rr:L2.It->Hp->Prop):Prop
 |mk (r:List Addr) (fr:Fr) (h:Hh) (src:Src) (h':Hh) (c0:SR K m H r fr s) (c1:HR K H r h) (c2:Ev.cI P it fr h=.ok src h') (c3:∀J H' r',HR K H' r' h'->Fm K r r' H H'->qR K r' H' src J->Rr J H'):QC K m P it s H Rr
def JI(G:Tb)(n:Nat)(sc:Scope)(N:List Str)(df:Bool)(m:List Nat)(it:Ev.It)(tg x:Expr):Prop:=∀X,Good G n sc N df X->PI X tg x (QC X.K m (Ev.run G.F G.w n) it)
noncomputable def EW(z:Str):L2.It:=⟨λi _=>i<z.length,λi H x H'=>H'=H/\∃c,z.cps[i]?=some c/\x=.str ⟨#[c]⟩,λi _=>z.length<=i⟩
def Kl{M:Model}{A:Around}{E:Value->Shared->Prop}{s:Shared}{tg:Expr}{it:Value}{x:Str}{t:Tok}{Q:Unit->Shared->Prop}(hQ:Q () s):wpAny M A (letOwnedTupleGo tg it (.str x t)) Q E s:=by
 unfold letOwnedTupleGo;cases tg<;>first
  |exact Vg hQ
  | (cases it<;>exact Vg hQ)
def uE {P:Program}{w:World}{K:PySem.W.Frag}{tg:Expr}(z:Str) (t:Tok) (it:Addr) (ty:String) (hty:ty = "str_ascii_iterator" \/ty = "str_iterator") :
  Turn P w K tg (EW z) [it] it (λi h=>h.IsStrIter it ty z t i) where
 mem:=by simp
 obj:=λi h a b f=>by
  have e:b=it:=by simpa using f
  subst e;obtain⟨o,e,c,d⟩:=a;exact⟨o,e,λv z=>by rw[d]at z;cases z⟩
 keep:=λi h l a k=>by
  obtain⟨o,e,c,d⟩:=a;exact⟨o,k it (by simp) o e,c,d⟩
 item:=by
  intro X p q r j i g s σ H E I hf a hg;subst p q r;obtain⟨f0,f1,f2,f3,f4,f5⟩:=hf it (by simp);have W:Walks X.prog X.w X.A it [it] [it] z.cps.size (SignAt z) (λi h=>h.IsStrIter it ty z t i):=by
   rcases hty with e|e
   .subst e;exact Walks.strAscii (I.ok.hd j) it z t
   .subst e;exact Walks.strWide (I.ok.hd j) it z t
  refine W.item i s _ _ hg a λv l tk C x F=>?_;obtain⟨c,u,y,rfl⟩:=C;have I1:Inv X g σ H { s with heap:=l,toks:=tk }:=I.turned (λb o f e=>F b o (by simpa using f) e) f0 f1 f3 f4 f5;exact⟨_,rfl,Kl ⟨.str ⟨#[c]⟩,H,I1,⟨u,rfl⟩,⟨rfl,c,y,rfl⟩,x,λb f=>(hf b f).1⟩⟩
 done:=by
  intro X p q r j i g s σ H E I hf a hg;subst p q r;obtain⟨f0,f1,f2,f3,f4,f5⟩:=hf it (by simp);rcases hty with e|e
  .subst e;exact wpAny_pyNext_ascii_end (I.ok.hd j) a (by simpa[Str.length,EW]using hg) λl B=>⟨rfl,I.turned (t':=s.toks) (λb o f e=>B b o f e) f0 f1 f3 f4 f5⟩
  .subst e;exact wpAny_pyNext_wide_end (I.ok.hd j) a (by simpa[Str.length,EW]using hg) λl B=>⟨rfl,I.turned (t':=s.toks) (λb o f e=>B b o f e) f0 f1 f3 f4 f5⟩
 self:=λ_ _ _ _ _ a h=>by
  rcases hty with e|e
  .subst e;exact wpAny_pyIter_striter_ascii a h
  .subst e;exact wpAny_pyIter_striter_wide a h
def EX(K:PySem.W.Frag)(x:V)(H:Hp)(Rr:L2.It->Hp->Prop):Prop:=
 (∃a xs,x=.ref a/\eY K H a xs/\Rr (Qv K a) H)\/(∃a xs,x=.ref a/\dm K H a xs/\Rr (Qw K a) H)\/∃z,x=.str z/\Rr (EW z) H
def Km{X:Cx}{tg l:Expr}{tl:TE}{wi:TI}(hl:PE X l tl)(hw:∀s H Rr,wi s H Rr->tl s H λx H1=>EX X.K x H1 Rr):PI X tg l wi:=by
 intro c s σ H Rr I h;refine aX (hl c s σ H _ I (hw _ _ _ h)) λv s1 ⟨x,H1,I1,g,j⟩=>?_;have f:∀(o:Obj) b,b∈[s1.heap.objs.size]->gK X c H1 b:=λo b k=>by
  have e:b=s1.heap.objs.size:=by simpa using k
  subst e;exact I1.CZ (VG _) (I1.hok.fresh (VG _))
 rcases j with ⟨a,r,rfl,i,q⟩|⟨a,r,rfl,i,q⟩|⟨z,rfl,q⟩
 .cases g;obtain⟨d,rv,p,y⟩:=I1.list i;refine wpAny_pyIter_list p.isList ?_;exact⟨s1.heap.objs.size,[s1.heap.objs.size],_,_,H1,rfl,I1.kept (t':=s1.toks) λb o e=>Tw _ e,AK a _,⟨_,Xv _ rfl,rfl,rfl⟩,f default,q⟩
 .cases g;obtain⟨d,rv,p,y⟩:=I1.tuple i;refine wpAny_pyIter_tuple (show s1.heap.IsTuple a d.toArray from p) ?_;exact⟨s1.heap.objs.size,[s1.heap.objs.size],_,_,H1,rfl,I1.kept (t':=s1.toks) λb o e=>Tw _ e,yX a _,⟨_,Xv _ rfl,rfl,rfl⟩,f default,q⟩
 .obtain⟨t,rfl⟩:=g;cases ha:z.cps.all (· < 128)
  .refine wpAny_pyIter_wide ha ?_;exact⟨s1.heap.objs.size,[s1.heap.objs.size],_,_,H1,rfl,I1.kept (t':=s1.toks) λb o e=>Tw _ e,uE z t _ _ (.inr rfl),⟨_,Xv _ rfl,rfl,rfl⟩,f default,q⟩
  .refine wpAny_pyIter_ascii ha ?_;exact⟨s1.heap.objs.size,[s1.heap.objs.size],_,_,H1,rfl,I1.kept (t':=s1.toks) λb o e=>Tw _ e,uE z t _ _ (.inl rfl),⟨_,Xv _ rfl,rfl,rfl⟩,f default,q⟩
def A5{h:Hh}{n:Nat}{ds:List D}(e:Ev.stays h [(n,ds)]=true):Ev.br h n=some ds:=by
 simp only[Ev.stays,Bool.and_true]at e;split at e
 .rename_i a q;rw[q,(Ev.sd _ _).mp e]
 .cases e
def GO{K:PySem.W.Frag}{H:Hp}{r:List Addr}{h:Hh}{d:D}{v:V}{src:Src}{Rr:L2.It->Hp->Prop}(hr:HR K H r h)(v1:RV K H r d v)(e:Ev.gi h d=some src)(q:∀J,qR K r H src J->Rr J H):EX K v H Rr:=by
 cases d with
 |tup ds=>
  simp only[RV]at v1;obtain⟨a,j,rfl,z,w⟩:=v1;cases e;refine .inr (.inl ⟨a,j,rfl,z,q _ λi H1 o I b f1 B=>⟨λL f=>?_,λp=>?_⟩⟩)
  .obtain⟨u,A,g⟩:=w.get f;refine⟨⟨j,u,f1.tups _ _ z,A⟩,λx H2 y=>?_⟩;obtain⟨rfl,y⟩:=y;have:=y j (f1.tups _ _ z);rw[A]at this;cases this;exact⟨o,g.mono f1,b,.refl⟩
  .exact⟨j,f1.tups _ _ z,by rw[w.length];exact p⟩
 |str l=>
  simp only[RV]at v1;obtain⟨rfl,z⟩:=v1;cases e;refine .inr (.inr ⟨_,rfl,q _ λi H1 o I b f1 B=>⟨λL f=>?_,λp=>?_⟩⟩)
  .rw[XO]at f;cases g:l[i]? with
   |none=>rw[g]at f;cases f
   |some c=>
    rw[g]at f;cases f;refine⟨by show i<(au l).length;rw[bh];exact(List.getElem?_eq_some_iff.mp g).1,λx H2 y=>?_⟩;obtain⟨rfl,Z,M,rfl⟩:=y;have C:(au l).cps[i]?=some c:=by simp[au,g]
    rw[C]at M;cases M;exact⟨o,⟨rfl,by show 1<=sizeLine;decide⟩,b,.refl⟩
  .show(au l).length<=i;rw[bh];simpa using p
 |ref k=>
  simp only[RV]at v1;obtain⟨a,rfl,z⟩:=v1;simp only[Ev.gi,wj]at e;obtain⟨ds,A,rfl⟩:=e;obtain⟨X,j,g,C,e4⟩:=hr.read A;rw[z]at g;cases g;refine .inl ⟨a,j,rfl,C,q _ λi H1 o I b f1 B=>?_⟩;obtain⟨X,F,N,G,P⟩:=b.read (A5 B);rw[f1.pre _ _ z]at N;cases N;refine⟨λL f=>?_,λp=>⟨F,G,by rw[P.length];exact p⟩⟩;obtain⟨u,Q,Y⟩:=P.get f;refine⟨⟨F,u,G,Q⟩,λx H2 y=>?_⟩;obtain⟨rfl,y⟩:=y;have:=y F G;rw[Q]at this;cases this;exact⟨o,Y,b,.refl⟩
 |_=>cases e
section
variable{G:Tb}{n:Nat}{sc:Scope}{N:List Str}{df:Bool}{m:List Nat}{a b:E}{xa xb tg:Expr}{pos:Pos}
def Kn(ha:JE G n sc N df m a xa):JI G n sc N df m (.seq a) tg xa:=λX g=>Km (ha X g) λs H Rr q=>by
 obtain⟨r,f,h,src,x,i,j,e,q⟩:=q;simp only[Ev.cI]at e;obtain⟨d,y,k,e⟩:=Ev.ah e;obtain⟨e,rfl⟩:=Ev.aE e;refine⟨r,f,h,d,_,i,j,k,λv H1 l o c f1=>?_⟩;exact GO c o e λJ p=>q J H1 l c f1 p
def PI.of{X:Cx}{tg l:Expr}{t t':TI}(h:PI X tg l t)(w:∀s H Q,t' s H Q->t s H Q):PI X tg l t':=λpins s σ H Q I q=>h pins s σ H Q I (w _ _ _ q)
def A6{K:PySem.W.Frag}{r:List Addr}{H:Hp}(lo:Int)(k:Nat):qR K r H (Ev.range lo k,[]) (AJ lo k):=λi H1 g p c f1 q=>by
 refine⟨λd e=>?_,λh=>?_⟩
 .simp only[Ev.range,XO]at e;cases e2:(List.range k)[i]? with
  |none=>rw[e2]at e;cases e
  |some j=>
   rw[e2]at e;cases e;have f:i<k:=by simpa using (List.getElem?_eq_some_iff.mp e2).1
   have l:j=i:=by
    rw[Zy f]at e2;exact(M6 e2).symm
   subst l;refine⟨f,λx H2 y=>?_⟩;obtain⟨rfl,rfl⟩:=y;exact⟨g,rfl,c,.refl⟩
 .have:(Ev.range lo k).length=k:=by simp[Ev.range]
  show k<=i;have o:(Ev.range lo k).length<=i:=h;omega
def GP {e1:E}{p:Pos}(hs:JA G n sc N df m (.cons e1 .nil) [xa]) (hg:sc.names.lookup ("range" : Str)=some .globalImplicit:=by rfl) (hb:("range" : Str)∈G.bl:=by decide +kernel)
  (hst:∀env:Env,starEach [xa] env=[(false,eval xa env)]:=by intro _;rfl):JI G n sc N df m (.gp (.cons e1 .nil)) tg (.Call (.Name "range" p) [xa] [] pos):=λX g=>
 PI.of (AL (g.gl hg) (g.bl _ hb) (hs X g) (hst _)) λs H Rr q=>by
  obtain⟨r,k,h,src,y,l,o,e,q⟩:=q;simp only[Ev.cI]at e;obtain⟨ds,z,e1,e⟩:=Ev.ah e;obtain⟨e,rfl⟩:=Ev.aE e;refine⟨r,k,h,ds,_,l,o,e1,λA H1 x f c f1=>?_⟩;unfold Ev.dH at e;split at e
  .rename_i j;split at e
   .rename_i i;cases e;simp only[aD,RV]at f;obtain⟨v,w,rfl,rfl,rfl⟩:=f;exact⟨_,rfl,i.1,i.2,q _ H1 x c f1 (A6 0 _)⟩
   .cases e
  .exfalso;simp only[Ev.bY]at e1;obtain⟨d,_,_,e1⟩:=Ev.ah e1;simp only[Ev.ak]at e1;cases e1
  .cases e
def GQ {e1 e2:E}{p:Pos}(hs:JA G n sc N df m (.cons e1 (.cons e2 .nil)) [xa,xb]) (hg:sc.names.lookup ("range" : Str)=some .globalImplicit:=by rfl) (hb:("range" : Str)∈G.bl:=by decide +kernel)
  (hst:∀env:Env,starEach [xa,xb] env=[(false,eval xa env),(false,eval xb env)]:=by intro _;rfl) (SM:∀env:Env,starEach [xb] env=[(false,eval xb env)]:=by intro _;rfl) :
  JI G n sc N df m (.gp (.cons e1 (.cons e2 .nil))) tg (.Call (.Name "range" p) [xa,xb] [] pos):=λX g=>
 PI.of (AM (g.gl hg) (g.bl _ hb) (hs X g) (hst _) (SM _)) λs H Rr q=>by
  obtain⟨r,k,h,src,z,l,o,e,q⟩:=q;simp only[Ev.cI]at e;obtain⟨ds,A,e1,e⟩:=Ev.ah e;obtain⟨e,rfl⟩:=Ev.aE e;refine⟨r,k,h,ds,_,l,o,e1,λB H1 x f c f1=>?_⟩;unfold Ev.dH at e;split at e
  .exfalso;simp only[Ev.bY]at e1;obtain⟨d,_,_,e1⟩:=Ev.ah e1;obtain⟨C,_,e2,e1⟩:=Ev.ah e1;obtain⟨F,_,I,e2⟩:=Ev.ah e2;simp only[Ev.ak]at e2;cases e2;cases e1
  .rename_i i j;split at e
   .rename_i y;cases e;simp only[aD,RV]at f;obtain⟨v,w,rfl,rfl,J,K,rfl,rfl,rfl⟩:=f;exact⟨_,_,rfl,y,q _ H1 x c f1 (A6 _ _)⟩
   .cases e
  .cases e
inductive gJ(K:PySem.W.Frag)(m:List Nat)(t:T)(v:V)(s:L2.St)(H:Hp)(Q:L2.St->Hp->Prop):Prop
 |mk (r:List Addr) (fr:Fr) (h:Hh) (d:D) (aj:Fr) (c0:SR K m H r fr s) (c1:HR K H r h) (c2:RV K H r d v) (c3:Ev.cG t d fr=some aj) (c4:∀s',SR K m H r aj s'->Q s' H):gJ K m t v s H Q
def JG(G:Tb)(n:Nat)(sc:Scope)(N:List Str)(df:Bool)(m:List Nat)(t:T)(x:Expr):Prop:=∀X,Good G n sc N df X->PG X x (gJ X.K m t)
def PG.of{X:Cx}{e:Expr}{t t':TG}(h:PG X e t)(w:∀v s H Q,t' v s H Q->t v s H Q):PG X e t':=λpins s σ H v u Q I r q=>h pins s σ H v u Q I r (w _ _ _ _ q)
theorem SR.set{K:PySem.W.Frag}{m:List Nat}{H:Hp}{r:List Addr}{fr:Fr}{s:L2.St}(sr:SR K m H r fr s)(hm:m.Nodup){j i:Nat}(hj:m[j]?=some i){d:D}{v:V}(v1:RV K H r d v):SR K m H r (fr.set i (some d)) (s.set j (some v)):=by
 refine⟨by simp[sr.len],λk f l e c=>?_⟩;by_cases g:f=i
 .subst g;have:k=j:=A7 hm e hj;subst this;have h:f<fr.length:=by
   have:=(List.getElem?_eq_some_iff.mp c).1;simpa using this
  rw[Xn h]at c;cases c;refine⟨v,Xn ?_,v1⟩;rw[sr.len];exact(List.getElem?_eq_some_iff.mp hj).1
 .rw[Tz (λz=>g z.symm)]at c;obtain⟨u,o,p⟩:=sr.sl k f l e c;refine⟨u,?_,p⟩;rw[Tz]
  .exact o
  .intro z;subst z;rw[hj]at e;cases e;exact g rfl
where
 A7 {l:List Nat} (hl:l.Nodup) {i j:Nat} {x:Nat} (a:l[i]?=some x) (b:l[j]?=some x):i=j:=by
  have ha:=(List.getElem?_eq_some_iff.mp a)
  have hb:=(List.getElem?_eq_some_iff.mp b)
  obtain⟨h1,e1⟩:=ha;obtain⟨h2,e2⟩:=hb;exact(List.getElem_inj hl).mp (e1.trans e2.symm)
def Good.loc{X:Cx}(g:Good G n sc N df X){x:Str}(h:sc.names.lookup x=some .local\/(df=true/\sc.names.lookup x=some .cell)):Loc X.env.scope x/\(X.fn x=true\/X.env.scope.names.lookup x=some .local):=by
 rw[show Loc X.env.scope x↔Loc sc x by rw[g.sc],g.sc];rcases h with h|⟨c,h⟩
 .exact⟨.inl h,.inr h⟩
 .exact⟨.inr h,.inl (g.own c x)⟩
def Ko(j i:Nat){x:Str}(hm:m.Nodup)(hN:N.Nodup)(hj:m[j]?=some i:=by rfl)(uF:N[j]?=some x:=by rfl)
  (hl:sc.names.lookup x=some .local\/(df=true/\sc.names.lookup x=some .cell):=by first|exact Or.inl rfl|exact Or.inr ⟨rfl,rfl⟩):JG G n sc N df m (.one i) (.Name x pos):=λX g=>by
 obtain⟨c,f⟩:=g.loc hl;refine PG.of (xo (i:=j) (by rw[g.nm];exact hN) (by rw[g.nm];exact uF) c f) λv s H Q q=>?_;obtain⟨r,o,h,d,p,k,y,l,e,q⟩:=q;cases e;exact q _ (k.set hm hj l)
inductive QD(K:PySem.W.Frag)(m:List Nat)(l:List Nat)(vs:List V)(s:L2.St)(H:Hp)(Q:L2.St->Hp->Prop):Prop
 |mk (r:List Addr) (fr:Fr) (h:Hh) (ds:List D) (aj:Fr) (c0:SR K m H r fr s) (c1:HR K H r h) (c2:aD K H r ds vs) (c3:Ev.cK l ds fr=some aj) (c4:∀s',SR K m H r aj s'->Q s' H):QD K m l vs s H Q
def sj(G:Tb)(n:Nat)(sc:Scope)(N:List Str)(df:Bool)(m:List Nat)(l:List Nat)(xs:List Expr):Prop:=∀X,Good G n sc N df X->om X xs (QD X.K m l)
def om.of{X:Cx}{e:List Expr}{t t':rR}(h:om X e t)(w:∀v s H Q,t' v s H Q->t v s H Q):om X e t':=λpins s σ H v u Q I r q=>h pins s σ H v u Q I r (w _ _ _ _ q)
def GR:sj G n sc N df m [] []:=λX g=>om.of Gs λf s H Q q=>by
 obtain⟨r,i,h,ds,j,d,k,c,e,q⟩:=q;cases ds with
 |nil=>simp only[aD]at c;subst c;cases e;exact⟨rfl,q _ d⟩
 |cons _ _=>cases e
def Dk(j i:Nat){x:Str}{l:List Nat}{xs:List Expr}(hm:m.Nodup)(hN:N.Nodup)(hs:sj G n sc N df m l xs)(hj:m[j]?=some i:=by rfl)(uF:N[j]?=some x:=by rfl)
  (hl:sc.names.lookup x=some .local\/(df=true/\sc.names.lookup x=some .cell):=by first|exact Or.inl rfl|exact Or.inr ⟨rfl,rfl⟩)
  (hst:∀env:Env,(assignEach (.Name x pos :: xs) env).map (·.2)=assign (.Name x pos) env :: (assignEach xs env).map (·.2):=by intro _;rfl):sj G n sc N df m (i :: l) (.Name x pos :: xs):=λX g=>by
 obtain⟨f,k⟩:=g.loc hl;refine om.of (CW (xo (i:=j) (by rw[g.nm];exact hN) (by rw[g.nm];exact uF) f k) (hs X g) (hst _)) λB s H Q q=>?_;obtain⟨r,C,h,ds,o,p,y,c,e,q⟩:=q;cases ds with
 |nil=>cases e
 |cons d ds=>
  simp only[aD]at c;obtain⟨v,w,rfl,z,A⟩:=c;exact⟨v,w,rfl,r,_,h,ds,o,p.set hm hj z,y,A,e,q⟩
def GS{l:List Nat}{xs:List Expr}{k:Nat}(hs:sj G n sc N df m l xs)(hn:∀env:Env,(assignEach xs env).length=l.length:=by intro _;rfl)(hst:∀env:Env,(assignEach xs env).findIdx? (·.1)=none:=by intro _;rfl) :
  JG G n sc N df m (.many l) (.Tuple xs k pos):=λX g=>PG.of (Jk (n:=l.length) g.calm (hs X g) (hn _) (hst _)) λv s H Q q=>by
 obtain⟨r,c,h,d,f,x,y,o,e,q⟩:=q;cases d with
 |tup ds=>
  simp only[RV]at o;obtain⟨p,A,rfl,z,w⟩:=o;have j:∀(l:List Nat) (ds:List D) c f,Ev.cK l ds c=some f->ds.length=l.length:=by
   intro l;induction l with
   |nil=>intro ds c f e;cases ds with|nil=>rfl|cons _ _=>cases e
   |cons i l B=>intro ds c f e;cases ds with|nil=>cases e|cons d ds=>simp[B ds _ _ e]
  exact⟨p,A,rfl,z,by rw[w.length];exact j _ _ _ _ e,r,c,h,ds,f,x,y,w,e,q⟩
 |_=>cases e
end
def Fin(K:PySem.W.Frag)(m:List Nat)(r:List Addr)(H:Hp)(h':Hh)(fl:Fl)(aj:Fr)(Q:Ends):Prop:=match fl with
 |.nx=>∀s' H' r',SR K m H' r' aj s'->HR K H' r' h'->Fm K r r' H H'->Q.nx s' H'
 |.bk=>∀s' H' r',SR K m H' r' aj s'->HR K H' r' h'->Fm K r r' H H'->Q.bk s' H'
 |.ct=>∀s' H' r',SR K m H' r' aj s'->HR K H' r' h'->Fm K r r' H H'->Q.ct s' H'
 |.ret d=>Res K r H h' d Q.rt
theorem Fin.later{K:PySem.W.Frag}{m:List Nat}{r r':List Addr}{H H':Hp}{h':Hh}{fl:Fl}{aj:Fr}{Q:Ends}(q:Fin K m r H h' fl aj Q)(f:Fm K r r' H H'):Fin K m r' H' h' fl aj Q:=by
 cases fl with
 |nx=>exact λs2 H2 c a b g=>q s2 H2 c a b (f.trans g)
 |bk=>exact λs2 H2 c a b g=>q s2 H2 c a b (f.trans g)
 |ct=>exact λs2 H2 c a b g=>q s2 H2 c a b (f.trans g)
 |ret d=>exact Res.later q f
inductive Kp(K:PySem.W.Frag)(m:List Nat)(P:aP)(w:Nat)(st:S)(Q:Ends)(s:L2.St)(H:Hp):Prop
 |mk (r:List Addr) (fr:Fr) (h:Hh) (fl:Fl) (aj:Fr) (h':Hh) (c0:SR K m H r fr s) (c1:HR K H r h) (c2:Ev.ex P w st fr h=.ok (fl,aj) h') (c3:Fin K m r H h' fl aj Q):Kp K m P w st Q s H
inductive zl(K:PySem.W.Frag)(m:List Nat)(P:aP)(w:Nat)(ss:Ss)(Q:Ends)(s:L2.St)(H:Hp):Prop
 |mk (r:List Addr) (fr:Fr) (h:Hh) (fl:Fl) (aj:Fr) (h':Hh) (c0:SR K m H r fr s) (c1:HR K H r h) (c2:Ev.exs P w ss fr h=.ok (fl,aj) h') (c3:Fin K m r H h' fl aj Q):zl K m P w ss Q s H
def PS.of{X:Cx}{st:Stmt}{t t':TS}(h:PS X st t)(w:∀Q s H,t' Q s H->t Q s H):PS X st t':=λpins s σ H Q I q=>h pins s σ H Q I (w _ _ _ q)
def gq.of{X:Cx}{st:List Stmt}{t t':TS}(h:gq X st t)(w:∀Q s H,t' Q s H->t Q s H):gq X st t':=λpins s σ H Q I q=>h pins s σ H Q I (w _ _ _ q)
section
variable(G:Tb)(n:Nat)(sc:Scope)(N:List Str)(df:Bool)(m:List Nat)
def JS(st:S)(x:Stmt):Prop:=∀X,Good G n sc N df X->PS X x (Kp X.K m (Ev.run G.F G.w n) G.w st)
def jd(ss:Ss)(xs:List Stmt):Prop:=∀X,Good G n sc N df X->gq X xs (zl X.K m (Ev.run G.F G.w n) G.w ss)
end
section
variable{G:Tb}{n:Nat}{sc:Scope}{N:List Str}{df:Bool}{m:List Nat}{a b:E}{xa tg:Expr}{pos:Pos}
def xC:jd G n sc N df m .nil []:=λX g=>gq.of Gq λQ s H q=>by
 obtain⟨r,f,h,fl,i,j,c,d,e,q⟩:=q;simp only[Ev.exs]at e;cases e;exact q s H r c d .refl
def Dl{st:S}{ss:Ss}{x:Stmt}{xs:List Stmt}(h1:JS G n sc N df m st x)(h2:jd G n sc N df m ss xs):jd G n sc N df m (.cons st ss) (x :: xs):=λX g=>gq.of (CU (h1 X g) (h2 X g)) λQ s H q=>by
 obtain⟨r,j,h,fl,k,l,o,p,e,q⟩:=q;simp only[Ev.exs]at e;obtain⟨⟨f,i⟩,h1,y,e⟩:=Ev.ah e;refine⟨r,j,h,f,i,h1,o,p,y,?_⟩;cases f with
 |nx=>exact λs1 H1 z A c f1=>⟨z,i,h1,fl,k,l,A,c,e,q.later f1⟩
 |bk=>cases e;exact q
 |ct=>cases e;exact q
 |ret d=>cases e;exact q
def Kq(j i:Nat){x:Str}{pos':Pos}(hm:m.Nodup)(hN:N.Nodup)(ha:JE G n sc N df m a xa)(hs:∀env:Env,swapsWith xa (some (.Name x pos')) pos.line env=pure false:=by intro _;rfl)(hj:m[j]?=some i:=by rfl)(uF:N[j]?=some x:=by rfl)
  (hl:sc.names.lookup x=some .local\/(df=true/\sc.names.lookup x=some .cell):=by first|exact Or.inl rfl|exact Or.inr ⟨rfl,rfl⟩):JS G n sc N df m (.set i a) (.Assign [.Name x pos'] xa pos):=λX g=>by
 obtain⟨f,l⟩:=g.loc hl;refine PS.of (Jm (i:=j) (by rw[g.nm];exact hN) (by rw[g.nm];exact uF) f (ha X g) (hs _) l) λQ s H q=>?_;obtain⟨r,o,h,fl,B,C,k,p,e,q⟩:=q;simp only[Ev.jc]at e;obtain⟨d,f,y,e⟩:=Ev.ah e;cases e;exact⟨r,o,h,d,_,k,p,y,λv H1 z A c f1=>q _ H1 z ((k.mono f1).set hm hj A) c f1⟩
def Kr(ha:JE G n sc N df m a xa)(hs:∀env:Env,swapsWith xa none pos.line env=pure false:=by intro _;rfl):JS G n sc N df m (.exp a) (.Expr xa pos):=λX g=>PS.of (Gr (ha X g) (hs _)) λQ s H q=>by
 obtain⟨r,i,h,fl,o,p,f,j,e,q⟩:=q;simp only[Ev.jc]at e;obtain⟨d,x,k,e⟩:=Ev.ah e;cases e;exact⟨r,i,h,d,_,f,j,k,λv H1 l y c f1=>q s H1 l (f.mono f1) c f1⟩
def Ks(ha:JE G n sc N df m a xa):JS G n sc N df m (.ret a) (.Return (some xa) pos):=λX g=>PS.of (Jh (ha X g)) λQ s H q=>by
 obtain⟨r,c,h,fl,k,l,f,i,e,q⟩:=q;simp only[Ev.jc]at e;obtain⟨d,o,j,e⟩:=Ev.ah e;cases e;exact⟨r,c,h,d,_,f,i,j,q⟩
def Ku{ta tb:Ss}{ya yb:List Stmt}(hc:JT G n sc N df m a xa)(h1:jd G n sc N df m ta ya)(h2:jd G n sc N df m tb yb):JS G n sc N df m (.iff a ta tb) (.If xa ya yb pos):=λX g=>PS.of (OZ (hc X g) (h1 X g) (h2 X g)) λQ s H q=>by
 obtain⟨r,d,h,fl,j,l,f,p,e,q⟩:=q;simp only[Ev.jc]at e;obtain⟨k,i,x,e⟩:=Ev.ah e;refine⟨r,d,h,k,i,f,p,x,λH1 o c f1=>?_⟩;cases k with
 |true=>exact⟨o,d,i,fl,j,l,f.mono f1,c,e,q.later f1⟩
 |false=>exact⟨o,d,i,fl,j,l,f.mono f1,c,e,q.later f1⟩
def Good.pass{X:Cx}(g:Good G n sc N df X):PassesOwn (model X.prog X.w) X.A X.env X.xe:=by
 rw[g.xe];exact PassesOwn.never
def FN(K:PySem.W.Frag)(m:List Nat)(fP:Fl)(gZ:Fr)(h4:Hh)(r1:List Addr)(H1:Hp)(s5:L2.St)(H5:Hp):Prop:=(fP=.nx\/fP=.ct)/\∃r5,SR K m H5 r5 gZ s5/\HR K H5 r5 h4/\Fm K r1 r5 H1 H5
section
variable{K:PySem.W.Frag}{r r1 r2:List Addr}{H H1 H2:Hp}{h4 h':Hh}{fl fP:Fl}{gZ aj:Fr}{Q:Ends}
noncomputable def zm(L:R (Fl×Fr))(p:Fl×Fr)(h1:Hh):R (Fl×Fr):=match p.1 with
 |.nx=>L
 |.ct=>L
 |.bk=>.ok (.nx,p.2) h1
 |.ret x=>.ok (.ret x,p.2) h1
def xD{L:R (Fl×Fr)}(e:zm L (fP,gZ) h4=.ok (fl,aj) h')(z:fP=.nx\/fP=.ct):L=.ok (fl,aj) h':=by rcases z with rfl|rfl<;>exact e
def uH{L:R (Fl×Fr)}(e:zm L (fP,gZ) h4=.ok (fl,aj) h')(q:Fin K m r H h' fl aj Q)(f:Fm K r r1 H H1)(f2:Fm K r1 r2 H1 H2):Fin K m r2 H2 h4 fP gZ { Q with nx:=FN K m fP gZ h4 r1 H1,ct:=FN K m fP gZ h4 r1 H1,bk:=Q.nx }:=by
 cases fP with
 |nx=>exact λs6 H6 c A8 A9 f6=>⟨.inl rfl,c,A8,A9,f2.trans f6⟩
 |ct=>exact λs6 H6 c A8 A9 f6=>⟨.inr rfl,c,A8,A9,f2.trans f6⟩
 |bk=>
  cases e;exact λs6 H6 c A8 A9 f6=>q s6 H6 c A8 A9 ((f.trans f2).trans f6)
 |ret d=>
  cases e;exact Res.later q (f.trans f2)
noncomputable def qS(P:aP)(w:Nat)(t:T)(tb:Ss):D->Fr->Hh->R (Fl×Fr):=λd c e=>match Ev.cG t d c with
 |some f=>Ev.exs P w tb f e
 |none=>.bad
def pT(P:aP)(w:Nat)(t:T)(it:Ev.It)(tb:Ss)(fr:Fr)(h:Hh):Ev.ex P w (.for t it tb) fr h=(Ev.cI P it fr h).bind λs h1=>Ev.forL (qS P w t tb) s.2 s.1 fr h1:=by simp only[Ev.jc];rfl
def sq(f:D->Fr->Hh->R (Fl×Fr))(ck:List (Nat×List D))(d:D)(ds:List D)(fr:Fr)(h:Hh):Ev.forL f ck (d :: ds) fr h=if Ev.stays h ck then (f d fr h).bind λp h1=>zm (Ev.forL f ck ds p.2 h1) p h1 else .bad:=rfl
def FW(K:PySem.W.Frag)(m:List Nat)(f:D->Fr->Hh->R (Fl×Fr))(src:Src)(r1:List Addr)(H1:Hp)(o:Fl×Fr)(h':Hh)(i k:Nat)(s3:L2.St)(H3:Hp):Prop:=
 k=src.1.length - i/\i<=src.1.length/\∃r3 cy h3,SR K m H3 r3 cy s3/\HR K H3 r3 h3/\Fm K r1 r3 H1 H3/\Ev.forL f src.2 (src.1.drop i) cy h3=.ok o h'
def uI{P:aP}{w:Nat}{t:T}{tb:Ss}{src:Src}{J:L2.It}{i k:Nat}{s3:L2.St}{H3:Hp}(hJ:qR K r1 H1 src J)(q:Fin K m r H h' fl aj Q)(f1:Fm K r r1 H H1)(hW:FW K m (qS P w t tb) src r1 H1 (fl,aj) h' i k s3 H3) :
  (J.stop i H3/\Q.nx s3 H3)\/(J.go i H3/\∃N:L2.St->Hp->Prop,(∀σ' H',N σ' H'->∃m',m'<k/\FW K m (qS P w t tb) src r1 H1 (fl,aj) h' (i+1) m' σ' H')/\∀x H',J.EK i H3 x H'->gJ K m t x s3 H' λσ2 H2=>zl K m P w tb { Q with nx:=N,ct:=N,bk:=Q.nx } σ2 H2):=by
 obtain⟨rfl,g,h,B,j,z,l,f3,c⟩:=hW;rcases Nat.lt_or_ge i src.1.length with d|o
 .rw[ZS d,sq]at c;split at c
  .rename_i e;obtain⟨C,F⟩:=(hJ i H3 h j l f3 e).1 src.1[i] (Xl d);obtain⟨⟨fP,gZ⟩,h4,f,c⟩:=Ev.ah c;unfold qS at f;split at f
   .rename_i A I;exact .inr ⟨C,FN K m fP gZ h4 r1 H1,λs5 H5 ⟨p,L,Ba,M,f5⟩=>⟨_,aao d (YU i),rfl,d,L,gZ,h4,Ba,M,f5,xD c p⟩,λx H4 y=>
     let ⟨r4,v4,ET,f4⟩:=F x H4 y
     ⟨r4,B,j,_,A,z.mono f4,ET,v4,I,λs5 Ba=>⟨r4,A,j,fP,gZ,h4,Ba,ET,f,uH c q f1 (f3.trans f4)⟩⟩⟩
   .cases f
  .cases c
 .have X:i=src.1.length:=Nat.le_antisymm g o;subst X;rw[List.drop_length]at c;unfold Ev.forL at c;split at c
  .rename_i e;cases c;exact .inl ⟨(hJ _ H3 h _ l f3 e).2 (VG _),q s3 H3 h z l (f1.trans f3)⟩
  .cases c
end
def Bb(t:Fr->Hh->R Bool)(f:Fr->Hh->R (Fl×Fr))(n:Nat)(fr:Fr)(h:Hh):Ev.dI t f (n+1) fr h=(t fr h).bind λb h1=>if b then (f fr h1).bind λp h2=>zm (Ev.dI t f n p.2 h2) p h2 else .ok (.nx,fr) h1:=rfl
def WW(K:PySem.W.Frag)(m:List Nat)(P:aP)(w:Nat)(a:E)(tb:Ss)(r:List Addr)(H:Hp)(o:Fl×Fr)(h':Hh)(k:Nat)(s1:L2.St)(H1:Hp):Prop:=
 ∃r1 af h1,SR K m H1 r1 af s1/\HR K H1 r1 h1/\Fm K r r1 H H1/\Ev.dI (λc d=>Ev.aI P a c d) (λc d=>Ev.exs P w tb c d) k af h1=.ok o h'
def Kv{tb:Ss}{yb:List Stmt}(hc:JT G n sc N df m a xa)(h1:jd G n sc N df m tb yb):JS G n sc N df m (.oB a tb) (.While xa yb [] pos):=λX g=>PS.of (CY g.pass (hc X g) (h1 X g)) λQ s H q=>by
 obtain⟨r,B,h,fl,C,I,J,L,e,q⟩:=q;simp only[Ev.jc]at e;refine⟨WW X.K m (Ev.run G.F G.w n) G.w a tb r H (fl,C) I,⟨_,r,B,h,J,L,.refl,e⟩,λk s1 H1 M=>?_⟩;obtain⟨P,p,h1,f,i,f1,c⟩:=M;cases k with
 |zero=>cases c
 |succ k=>
  rw[Bb]at c;obtain⟨x,y,W,c⟩:=Ev.ah c;refine⟨P,p,h1,x,y,f,i,W,λH2 z d f2=>?_⟩;cases x with
  |false=>
   cases c;exact q s1 H2 z (f.mono f2) d (f1.trans f2)
  |true=>
   rw[IC rfl]at c;obtain⟨⟨A,j⟩,l,Y,c⟩:=Ev.ah c;exact⟨FN X.K m A j l r H,λs3 H3 ⟨o,Z,xE,lW,f3⟩=>⟨k,YU k,Z,j,l,xE,lW,f3,xD c o⟩,z,p,y,A,j,l,f.mono f2,d,Y,uH c q .refl (f1.trans f2)⟩
def Kw{t:T}{it:Ev.It}{tb:Ss}{yb:List Stmt}(hi:JI G n sc N df m it tg xa)(hg:JG G n sc N df m t tg)(h1:jd G n sc N df m tb yb)(hs:∀(env:Env) x,foldedSetIterable xa env x=pure x:=by intro _ _;rfl) :
  JS G n sc N df m (.for t it tb) (.For tg xa yb [] pos):=λX g=>PS.of (Jq g.pass g.calm (hi X g) (hg X g) (h1 X g) (hs _)) λQ s H q=>by
 obtain⟨r,d,h,fl,o,p,f,y,e,q⟩:=q;rw[pT]at e;obtain⟨src,j,z,e⟩:=Ev.ah e;exact⟨r,d,h,src,j,f,y,z,λJ H1 l c f1 A=>⟨FW X.K m (qS (Ev.run G.F G.w n) G.w t tb) src l H1 (fl,o) p,⟨src.1.length,rfl,YE _,l,d,j,f.mono f1,c,.refl,by rw[X6];exact e⟩,λi k s3 H3 B=>uI A q f1 B⟩⟩
end
def getElem?_range'{k j i:Nat}(h:(List.range k)[j]?=some i):i=j:=by
 obtain⟨b,a⟩:=List.getElem?_eq_some_iff.mp h;simpa using a.symm
def Dm{K:PySem.W.Frag}{H:Hp}{r:List Addr}{ds:List D}{vs:List V}{N:List Str}{fn:Ev.Fn}(v1:aD K H r ds vs)(hN:vs.length<=N.length):SR K (List.range N.length) H r (Ev.er fn ds) (L2.start N vs):=by
 refine⟨by unfold L2.start;simp;omega,λj i d c a=>?_⟩;have e:=getElem?_range' c;subst e;unfold Ev.er at a;by_cases b:i<ds.length
 .rw[Vf (by simpa using b),XO]at a;cases e4:ds[i]? with
  |none=>rw[e4]at a;cases a
  |some h=>
   rw[e4]at a;cases a;obtain⟨v,f,g⟩:=v1.get e4;refine⟨v,?_,g⟩;unfold L2.start;rw[Vf (by have:=v1.length;simpa using (by omega:i<vs.length)),XO,f];rfl
 .rw[Yh (by simpa using Nat.not_lt.mp b),Z4]at a;split at a<;>cases a
section
variable{P:Program}{w:World}{K:PySem.W.Frag}{mg:Str->Option Value}{base:Heap}{G:Tb}
def tU(P:Program)(w:World)(K:PySem.W.Frag)(mg:Str->Option Value)(base:Heap)(G:Tb)(n:Nat):Prop:=∀(f:Nat) i,
 G.fi[f]?=some i
 ->iP P w K mg base mE n i.addr i.fd i.ps (mF K G.F G.w n f)
structure Top(P:Program)(w:World)(K:PySem.W.Frag)(mg:Str->Option Value)(G:Tb):Prop where
 fn:∀(f:Nat) i,G.fi[f]?=some i->mg i.name=some (.ref i.addr)/\PySem.W.keepIn K (.ref i.addr)=true/\Binds K i.fd i.ps []
 bl:∀x∈G.bl,mg x=none
 cs:∀x d,(x,d)∈G.cs->∃v u,mg x=some u/\RelV v u/\xB K d v
 dk:∀x kvs,(x,kvs)∈G.dk->∃a,mg x=some (.ref a)/\∀h:Heap,K.In h->StrTab P w h a (tabOf kvs)
def GU{f:Addr}{fd:FuncData}{ps:List Str}{k:Nat}:iP P w K mg base mE 0 f fd ps (mF K G.F G.w 0 k):=by
 have c:∀a H Q E,¬ mF K G.F G.w 0 k a H Q E:=λa H Q E h=>by
  obtain⟨r,h,ds,d,g,_,_,e,_⟩:=h;cases e
 exact⟨λa H Q E h=>absurd h (c a H Q E),λA b s H args i a Q E _ _ _ _ h=>absurd h (c a H Q E)⟩
def cj{x qual:Str}{st:Stmt}{i:FI}{N:List Str}{n f:Nat}{fn:Ev.Fn}(T:Top P w K mg G)(A0:tU P w K mg base G n)(F:uA K x qual st i.addr i.fd)(S:bg N i.ps (aJ st))(hf:G.F[f]?=some fn)(hp:i.ps.length=fn.np)
  (hb:jd G n (aJ st) N true (List.range N.length) fn.body (gW st)):iP P w K mg base mE (n+1) i.addr i.fd i.ps (mF K G.F G.w (n+1) f):=by
 have a:∀c H Q E,mF K G.F G.w (n+1) f c H Q E->c.length=i.ps.length:=λc H Q E h=>by
  obtain⟨r,h,ds,d,B,k,_,e,_⟩:=h;simp only[Ev.pS,hf]at e;split at e
  .rename_i z;rw[k.length,z,hp]
  .cases e
 refine F.ok S a λl A b s H c Q E C y=>?_;have Z:=a c H Q E y;have I:c.length<=N.length:=by
  have:=Xp List.length S.pre;rw[YV]at this;omega
 have g:Good G n (aJ st) N true (o6 mE P w K mg base N qual (aJ st) i.addr l A b s H E).rQ:=
  ⟨rfl,rfl,rfl,λ_ _=>rfl,C,rfl,λf i j=>⟨(T.fn f i j).1,(T.fn f i j).2.1,(T.fn f i j).2.2,A0 f i
   j
   ⟩,T.bl,T.cs,T.dk
   ⟩
 refine⟨_,hb _ g,?_⟩;obtain⟨r,h,ds,d,B,k,o,e,q⟩:=y;simp only[Ev.pS,hf]at e;split at e
 .unfold Ev.endOf at e;obtain⟨⟨fl,J⟩,L,M,e⟩:=Ev.ah e;refine⟨r,Ev.er fn ds,h,fl,J,L,Dm k I,o,M,?_⟩;cases fl with
  |nx=>
   cases e;exact λs' H' X _ p Y=>q _ H' X rfl p Y
  |ret d'=>
   cases e;exact q
  |bk=>cases e
  |ct=>cases e
 .cases e
end
end Sm
namespace Sm
open PySem PySem.Spec PyProof.Rows L2 PySem.SeqAt
open Ev (D O Hh Fr R aP E Es Eo T S Ss Fl Src bO bz TY BI ME)
end Sm
namespace Sm
open PySem PySem.Spec PyProof.Rows L2
open Ev (D O Hh Fr R aP E Es Eo T S Ss Fl Src bO bz TY BI ME)
theorem qT(env:Env):∀(names:List (Str×NameKind)) (acc:List (Str×Addr)),(∀x,(x,NameKind.free)∈names->∃c,env.cells.lookup x=some c)->(∀x c,acc.lookup x=some c->env.cells.lookup x=some c)->
  ∃cl,(forIn names acc (λ(x:Str×NameKind) cs=>if (x.2==NameKind.free)=true then (do let c <-cellOf env x.1;pure (ForInStep.yield ((x.1,c) :: cs)))else pure (ForInStep.yield cs)):Sem (List (Str×Addr)))=pure cl/\
   (∀x c,cl.lookup x=some c->env.cells.lookup x=some c)/\(∀x,(x,NameKind.free)∈names->(cl.lookup x).isSome=true)/\(∀x,(acc.lookup x).isSome=true->(cl.lookup x).isSome=true)
 |[],acc,_,h2=>⟨acc,rfl,h2,(λx h=>by simp at h),λ_ h=>h⟩
 | (y,k) :: r,acc,h1,h2=>by
  by_cases f:k=.free
  .subst f;obtain⟨c,q⟩:=h1 y (X5 ..);have g:∀x b,((y,c) :: acc).lookup x=some b->env.cells.lookup x=some b:=λx b e=>by
    rw[Ys]at e;split at e
    .rename_i a;have i:x=y:=by simpa using a
     cases e;rw[i];exact q
    .exact h2 x b e
   obtain⟨cl,j,l,o,d⟩:=qT env r ((y,c) :: acc) (λx a=>h1 x (Xy _ a)) g;refine⟨cl,?_,l,λx a=>?_,λx a=>d x ?_⟩
   .rw[Zs];simp only[beq_self_eq_true,Xq];unfold cellOf;rw[q];exact j
   .rcases List.mem_cons.mp a with z|z
    .cases z;exact d y (by simp[Ys])
    .exact o x z
   .rw[Ys];split
    .rfl
    .exact a
  .have p:(k==NameKind.free)=false:=by simpa using f
   obtain⟨cl,j,l,o,d⟩:=qT env r acc (λx a=>h1 x (Xy _ a)) h2;refine⟨cl,?_,l,λx a=>?_,d⟩
   .rw[Zs];simp only[p,Xw,XE];exact j
   .rcases List.mem_cons.mp a with z|z
    .cases z;exact absurd rfl f
    .exact o x z
def GV{scope:Scope}{env:Env}(h:∀x,(x,NameKind.free)∈scope.names->∃c,env.cells.lookup x=some c) :
  ∃cl,closureFor scope env=pure cl/\(∀x c,cl.lookup x=some c->env.cells.lookup x=some c)/\∀x,(x,NameKind.free)∈scope.names->∃c,cl.lookup x=some c:=by
 obtain⟨cl,b,d,f,_⟩:=qT env scope.names [] h (λx c e=>by simp at e);refine⟨cl,?_,d,λx g=>Option.isSome_iff_exists.mp (f x g)⟩;unfold closureFor;show(forIn scope.names [] _ >>= λa=>pure a:Sem (List (Str×Addr)))=pure cl;have e:(forIn scope.names [] (λ(x:Str×NameKind) a=>if (x.2==NameKind.free)=true then (do let c <-cellOf env x.1;pure (ForInStep.yield ((x.1,c) :: a)))else pure (ForInStep.yield a)):Sem (List (Str×Addr)))=pure cl:=b;exact Xp (λt:Sem (List (Str×Addr))=>t >>= λa=>pure a) e
noncomputable def iB(sc scope:Scope):Scope:={ scope with names:=scope.names.map λ(n,k)=>if (k==.free&&sc.kind==.function&&sc.names.lookup n==some .cell)then (n,.cell)else (n,k)}
def qU{env:Env}{sc scope:Scope}(h:env.scope=sc):relabel scope env=iB sc scope:=by
 subst h;rfl
theorem sy{sc:Scope}:∀{names:List (Str×NameKind)}{x:Str},(∀y∈names,y.2≠.cell)->
  ((names.map λ(n,k)=>if (k==NameKind.free&&sc.kind==.function&&sc.names.lookup n==some .cell)then (n,NameKind.cell)else (n,k)).lookup x=some .cell\/
   (names.map λ(n,k)=>if (k==NameKind.free&&sc.kind==.function&&sc.names.lookup n==some .cell)then (n,NameKind.cell)else (n,k)).lookup x=some .free)->(x,NameKind.free)∈names
 |[],_,_,h=>by rcases h with h|h<;>simp at h
 | (n,k) :: r,x,hc,h=>by
  have i:=@sy sc r x λy j=>hc y (Xy _ j);simp only[M7]at h;have d:∀(a:NameKind),(if (k==NameKind.free&&sc.kind==.function&&sc.names.lookup n==some .cell)then (n,NameKind.cell)else (n,k))=(n,a)->a=.cell\/a=.free->k=.free:=λa e b=>by
   split at e
   .rename_i z;simp only[OS,beq_iff_eq]at z;exact z.1.1
   .cases e;rcases b with z|z
    .exact absurd z (hc (n,_) (X5 ..))
    .exact z
  generalize hg:(if (k==NameKind.free&&sc.kind==.function&&sc.names.lookup n==some .cell)then (n,NameKind.cell)else (n,k))=p at h d
  have f:p.1=n:=by rw[<-hg];split<;>rfl
  obtain⟨g,l⟩:=p;simp only at f;subst f;simp only[Ys]at h;cases hx:(x==g)with
  |true=>
   have c:x=g:=by simpa using hx
   rw[hx]at h;have:=d l rfl (by rcases h with h|h<;>simp at h<;>simp[h]);subst this;rw[c];exact X5 ..
  |false=>
   rw[hx]at h;exact Xy _ (i h)
section
variable{prog:Program}{w:World}{A:Around}{R':Result->Shared->Prop}{s:Shared}
abbrev dS:Value->Shared->Prop:=λ_ _=>False
noncomputable def xF(ifs:List Expr)(env:Env):Sem Bool:=forIn ifs true λc r=>if r=true then do let ok <-isTrue c env (eval c env);pure (ForInStep.yield ok)else pure (ForInStep.yield r)
def uJ{elt target iter:Expr}{ifs:List Expr}{scope:Scope}{pos:Pos}{it acc:Value}{env:Env}(I:Nat->Shared->Prop)
  (turn:∀n s,I n s->wpAny (model prog w) A (pyNext it) (λr s₁=>match r with
   |none=>R' (.ok .next) s₁
   |some v=>wpAny (model prog w) A (letOwnedTupleGo target it v) (λ_ s₂=>wpAny (model prog w) A (assign target env v) (λ_ s₃=>
     wpAny (model prog w) A (xF ifs env) (λok s₄=>
      if ok=true then wpAny (model prog w) A (eval elt env) (λx s₅=>
       wpAny (model prog w) A (call (.builtin "list.append") [acc,x]) (λ_ s₆=>∃m,m<n/\I m s₆) dS s₅) dS s₄
      else ∃m,m<n/\I m s₄) dS s₃) dS s₂) dS s₁) dS s)
  (n:Nat) (h:I n s):codeAny (model prog w) A (.compLoop (.ListComp elt [⟨target,iter,ifs,0⟩] scope pos) 0 it acc env) R' s:=by
 refine codeAny_loop rfl I (λn s d=>?_) n h;show wpAny _ A ((compTurn (.ListComp elt [⟨target,iter,ifs,0⟩] scope pos) 0 it acc env).onRaise (λx=>do noteFrame x env;theTreesLotGoes x)) _ _ s;refine wpAny_noted ?_;rw[compTurn_list];refine gV (wpAny_standAt (gV (Yu (turn n s d) (λr s₁ b=>?_) λ_ _ a=>a.elim)));cases r with
 |none=>exact Vg b
 |some v=>
  refine gV (Yu b (λ_ s₂ e=>?_) λ_ _ a=>a.elim);refine gV (Yu e (λ_ s₃ f=>gV (Yu f (λok s₄ c=>?_) λ_ _ a=>a.elim)) λ_ _ a=>a.elim);cases ok with
  |false=>exact Vg ⟨rfl,c⟩
  |true=>
   exact gV (gV (Yu c (λx s₅ g=>gV (Yu g (λ_ s₆ i=>Vg (Vg ⟨rfl,i⟩)) λ_ _ a=>a.elim)) λ_ _ a=>a.elim))
end
inductive QE(K:PySem.W.Frag)(m:List Nat)(P:aP)(e:Eo)(s:L2.St)(H:Hp)(Q:Bool->Hp->Prop):Prop
 |mk (r:List Addr) (fr:Fr) (h:Hh) (k:Bool) (h':Hh) (c0:SR K m H r fr s) (c1:HR K H r h) (c2:Ev.iz P e fr h=.ok k h') (c3:∀H' r',HR K H' r' h'->Fm K r r' H H'->Q k H'):QE K m P e s H Q
def JC(G:Tb)(n:Nat)(sc:Scope)(N:List Str)(df:Bool)(m:List Nat)(e:Eo)(ifs:List Expr):Prop:=∀X,Good G n sc N df X->∀(pins:List (Addr×Obj)) (s:Shared) (σ:L2.St) (H:Hp) (Q:Bool->Hp->Prop),Inv X pins σ H s->
 QE X.K m (Ev.run G.F G.w n) e σ H Q->wpAny (model X.prog X.w) X.A (xF ifs X.env) (TP X pins σ Q) X.xe s
section
variable{G:Tb}{n:Nat}{sc:Scope}{N:List Str}{df:Bool}{m:List Nat}{a:E}{xa:Expr}
def Pq:JC G n sc N df m .no []:=λX g pins s σ H Q I q=>by
 obtain⟨r,c,h,k,d,f,b,e,q⟩:=q;simp only[Ev.iz]at e;cases e;exact Vg ⟨H,I,q H r b .refl⟩
def Ky(hc:JT G n sc N df m a xa):JC G n sc N df m (.yes a) [xa]:=λX g pins s σ H Q I q=>by
 obtain⟨r,b,h,k,c,d,f,e,q⟩:=q;simp only[Ev.iz]at e;exact wpAny_tests_one (hc X g pins s σ H Q I ⟨r,b,h,k,c,d,f,e,q⟩)
end
noncomputable def pU(X:Cx)(N':List Str)(scope:Scope)(cl:List (Str×Addr))(C:Addr)(s3:Shared)(H3:Hp)(fp:List Addr):Cx:=
 { X with N:=N',s₀:=s3,H₀:=H3,env:=compEnvC scope cl C X.env,outer:=X.stack,stack:=X.stack,ex:=fp,fn:=λ_=>false,pn:=[],xe:=λ_ _=>False }
def namesOk(sc:Scope)(N:List Str)(m:List Nat)(scope:Scope)(t:T)(N':List Str)(m':List Nat):Prop:=m'.length=N'.length/\
 ∀(j:Nat) x i,N'[j]?=some x->m'[j]?=some i->i∈Ev.slots t\/((x,NameKind.free)∈scope.names/\∃jo:Nat,N[jo]?=some x/\m[jo]?=some i)
noncomputable def uK(sc:Scope)(N:List Str)(m:List Nat)(scope:Scope)(t:T)(N':List Str)(m':List Nat):Bool:=m'.length==N'.length&&
 (List.range N'.length).all λj=>match N'[j]?,m'[j]? with
  |some x,some i=>(Ev.slots t).contains i || (scope.names.contains (x,NameKind.free)&&(List.range N.length).any λa=>N[a]?==some x&&m[a]?==some i)
  |_,_=>true
def namesOk.of{sc:Scope}{N:List Str}{m:List Nat}{scope:Scope}{t:T}{N':List Str}{m':List Nat}(h:uK sc N m scope t N' m'=true):namesOk sc N m scope t N' m':=by
 unfold uK at h;rw[OS]at h;refine⟨by simpa using h.1,λj x i a c=>?_⟩;have d:j<N'.length:=(List.getElem?_eq_some_iff.mp a).1;have q:=List.all_eq_true.mp h.2 j (List.mem_range.mpr d);rw[a,c]at q;simp only[Yo,OS,Zm]at q;rcases q with q|⟨e,f,_,b⟩
 .exact .inl (by simpa using q)
 .exact .inr ⟨by simpa using e,f,by simpa using b.1,by simpa using b.2⟩
def wL{t:T}{d:D}{fr ao:Fr}(e:Ev.cG t d fr=some ao){i:Nat}(hi:i∉Ev.slots t):ao[i]?=fr[i]?:=by
 have b:∀(l:List Nat) (ds:List D) (fr ao:Fr),Ev.cK l ds fr=some ao->i∉l->ao[i]?=fr[i]?:=by
  intro l;induction l with
  |nil=>
   intro ds fr ao e _;cases ds with
   |nil=>cases e;rfl
   |cons _ _=>cases e
  |cons j l c=>
   intro ds fr ao e a;cases ds with
   |nil=>cases e
   |cons d ds=>
    rw[c ds _ _ e λz=>a (Xy _ z),Tz];intro z;exact a (by rw[z];exact X5 ..)
 cases t with
 |one j=>
  cases e;rw[Tz];intro z;exact hi (by simp[Ev.slots,z])
 |many l=>
  cases d with
  |tup ds=>exact b l ds fr ao e hi
  |_=>cases e
def SR.unbind{K:PySem.W.Frag}{m:List Nat}{H:Hp}{r:List Addr}{t:T}{d:D}{fr ao:Fr}{s:L2.St}(sr:SR K m H r ao s)(e:Ev.cG t d fr=some ao)(hu:Ev.undef t fr=true):SR K m H r fr s:=by
 refine⟨sr.len,λj i b c a=>sr.sl j i b c ?_⟩;rw[wL e]
 .exact a
 .intro f;have q:=List.all_eq_true.mp hu i f;rw[a]at q;cases q
structure mK(sc scope:Scope):Prop where
 kind:scope.kind=.function
 Bc:∀y∈scope.names,y.2≠.cell
 free:∀x,(x,NameKind.free)∈scope.names->(sc.names.lookup x=some .cell\/sc.names.lookup x=some .free)/\scope.names.lookup x=some .free
 loc:∀y∈scope.names,y.2=.local->scope.names.lookup y.1=some .local
noncomputable def Kz(sc scope:Scope):Bool:=scope.kind==.function&&scope.names.all λy=>y.2 != .cell&&(y.2 != .free || ((sc.names.lookup y.1==some .cell ||sc.names.lookup y.1==some .free)&&scope.names.lookup y.1==some .free))&&(y.2 != .local ||scope.names.lookup y.1==some .local)
def mK.of{sc scope:Scope}(h:Kz sc scope=true):mK sc scope:=by
 unfold Kz at h;rw[OS]at h;have q:∀y∈scope.names,y.2≠.cell/\(y.2=.free->(sc.names.lookup y.1=some .cell\/sc.names.lookup y.1=some .free)/\scope.names.lookup y.1=some .free)/\(y.2=.local->scope.names.lookup y.1=some .local):=λy a=>by
  have z:=List.all_eq_true.mp h.2 y a;simp only[OS,Yo,bne_iff_ne,beq_iff_eq,ne_eq]at z;refine⟨z.1.1,λe=>?_,λe=>?_⟩
  .rcases z.1.2 with w|w
   .exact absurd e w
   .exact w
  .rcases z.2 with w|w
   .exact absurd e w
   .exact w
 exact⟨by simpa using h.1,λy a=>(q y a).1,λx b=>(q _ b).2.1 rfl,λy a=>(q y a).2.2⟩
theorem sA{sc:Scope}:∀{names:List (Str×NameKind)}{x:Str},names.lookup x=some .free->
  ((names.map λ(n,k)=>if (k==NameKind.free&&sc.kind==.function&&sc.names.lookup n==some .cell)then (n,NameKind.cell)else (n,k)).lookup x=some .cell\/
   (names.map λ(n,k)=>if (k==NameKind.free&&sc.kind==.function&&sc.names.lookup n==some .cell)then (n,NameKind.cell)else (n,k)).lookup x=some .free)
 |[],_,h=>by simp at h
 | (n,k) :: r,x,h=>by
  have a:=@sA sc r x;simp only[M7];simp only[Ys]at h;by_cases b:(k==NameKind.free&&sc.kind==.function&&sc.names.lookup n==some .cell)=true
  .rw[IC b];simp only[Ys];cases hx:(x==n)with
   |true=>exact .inl rfl
   |false=>rw[hx]at h;exact a h
  .rw[T8 b];simp only[Ys];cases hx:(x==n)with
   |true=>rw[hx]at h;exact .inr h
   |false=>rw[hx]at h;exact a h
section
variable{G:Tb}{n:Nat}{sc scope:Scope}{N N':List Str}{df:Bool}{m m':List Nat}{t:T}{X:Cx}
def Good.comp(g:Good G n sc N df X){cl:List (Str×Addr)}{C:Addr}{s3:Shared}{H3:Hp}{fp:List Addr}:Good G n (iB sc scope) N' false (pU X N' scope cl C s3 H3 fp):=
 ⟨rfl,qU g.sc,g.calm,(λh=>by cases h),g.room,rfl,g.fn,g.bl,g.cs,g.dk
 ⟩
def GW{pins:List (Addr×Obj)}{σ:L2.St}{H3:Hp}{s3:Shared}(g:Good G n sc N df X)(I:Inv X pins σ H3 s3)(hs:mK sc scope){cl:List (Str×Addr)}(jr:∀x c,cl.lookup x=some c->X.env.cells.lookup x=some c)
  (mL:∀x,(x,NameKind.free)∈scope.names->∃c,cl.lookup x=some c) {fp:List Addr} (hfp:∀b∈fp,gK X pins H3 b) (hfl:∀b∈fp,b<s3.heap.objs.size):(pU X N' scope cl s3.heap.objs.size s3 H3 fp).Ok where
 mod:=I.ok.mod
 kind:=hs.kind
 glob:=I.ok.glob
 blt:=I.ok.blt
 above:=VG _
 inj:=λx y c d f=>I.ok.inj x y c (jr x c d) (jr y c f)
 has:=λx h=>by
  have i:(iB sc scope).names.lookup x=some .cell\/(iB sc scope).names.lookup x=some .free:=by
   rw[<-qU (scope:=scope) g.sc];exact h
  exact mL x (sy hs.Bc i)
 xg:=λx c h=>by cases h
 hd:=I.ok.hd
 frames:=I.ok.frames
 stk:=.inl rfl
 EG:=λb a=>⟨XJ (hfl b a),λx c e=>(hfp b a).2.2.2.2.1 x c (jr x c e)⟩
 bs:=I.bs
 rP:=Xm I.ok.rP I.sz
 qH:=λb o e a=>by
  rcases(hfp b a).2.2.2.1 with z|z
  .exact I.ok.qH b o e z
  .have:=VS (I.ok.bs b o e).1;exact absurd (Q5 this z) (XS _)
 qI:=λb a z=>by
  rcases List.mem_cons.mp (I.ug b z)with q|q
  .exact(hfp b a).2.1 q
  .exact(hfp b a).2.2.1 q
 jn:=I.stack
 ue:=I.xj
open Classical in
noncomputable def sig(scope:Scope)(N N':List Str)(m':List Nat)(K:PySem.W.Frag)(H:Hp)(r:List Addr)(fr:Fr)(σ:L2.St):L2.St:=
 (List.range N'.length).map λj=>if h:∃v,∃x i,N'[j]?=some x/\m'[j]?=some i/\(x,NameKind.free)∈scope.names/\(∃jo:Nat,N[jo]?=some x/\σ[jo]?=some (some v))/\∀d,fr[i]?=some (some d)->RV K H r d v then some h.choose else none
def KA{K:PySem.W.Frag}{H:Hp}{r:List Addr}{fr:Fr}{σ:L2.St}{j:Nat}{v:V}(h:(sig scope N N' m' K H r fr σ)[j]?=some (some v)) :
  ∃x i,N'[j]?=some x/\m'[j]?=some i/\(x,NameKind.free)∈scope.names/\(∃jo:Nat,N[jo]?=some x/\σ[jo]?=some (some v))/\∀d,fr[i]?=some (some d)->RV K H r d v:=by
 unfold sig at h;rw[XO]at h;cases e:(List.range N'.length)[j]? with
 |none=>rw[e]at h;cases h
 |some b=>
  have:=getElem?_range' e;subst this;rw[e]at h;simp only[Option.map_some,Ze]at h;split at h
  .rename_i a;cases h;exact a.choose_spec
  .cases h
def KC{K:PySem.W.Frag}{H:Hp}{r:List Addr}{fr:Fr}{σ:L2.St}(sr:SR K m H r fr σ)(hn:namesOk sc N m scope t N' m')(hu:Ev.undef t fr=true):SR K m' H r fr (sig scope N N' m' K H r fr σ):=by
 refine⟨by unfold sig;simp[hn.1],λj i d b c=>?_⟩;have e:j<N'.length:=by rw[<-hn.1];exact(List.getElem?_eq_some_iff.mp b).1
 have f:N'[j]?=some N'[j]:=Xl e;rcases hn.2 j _ i f b with k|⟨l,a,o,p⟩
 .exfalso;have q:=List.all_eq_true.mp hu i k;rw[c]at q;cases q
 .obtain⟨v,y,z⟩:=sr.sl a i d p c;have ex:∃v,∃x i,N'[j]?=some x/\m'[j]?=some i/\(x,NameKind.free)∈scope.names/\(∃a:Nat,N[a]?=some x/\σ[a]?=some (some v))/\∀d,fr[i]?=some (some d)->RV K H r d v:=
   ⟨v,N'[j],i,f,b,l,⟨a,o,y⟩,λB g=>by rw[c]at g;cases g;exact z⟩
  refine⟨ex.choose,?_,?_⟩
  .unfold sig;rw[XO,Zy e];simp only[Option.map_some];rw[dif_pos ex]
  .obtain⟨C,F,I,h,J,L,A⟩:=ex.choose_spec;rw[b]at h;cases h;exact A d c
def Dn{pins:List (Addr×Obj)}{σ:L2.St}{H3:Hp}{s3:Shared}(g:Good G n sc N df X)(I:Inv X pins σ H3 s3)(hs:mK sc scope){cl:List (Str×Addr)}(jr:∀x c,cl.lookup x=some c->X.env.cells.lookup x=some c)
  (mL:∀x,(x,NameKind.free)∈scope.names->∃c,cl.lookup x=some c) {fp:List Addr} (hfp:∀b∈fp,gK X pins H3 b) (hfl:∀b∈fp,b<s3.heap.objs.size) {h1:Heap} {tk:Nat} {mm:Str->Option Value}
  (hns:h1.Ns s3.heap.objs.size mm) (hk:∀b o,s3.heap.get? b=some o->h1.get? b=some o) {r:List Addr} {fr:Fr} :
  Inv (pU X N' scope cl s3.heap.objs.size s3 H3 fp) [] (sig scope N N' m' X.K H3 r fr σ) H3 { s3 with heap:=h1,toks:=tk }:=by
 refine⟨GW g I hs jr mL hfp hfl,rfl,I.bare,Un.kept hk,⟨mm,hns,λj x v A B Q=>?_⟩,λx c e=>?_,I.hok.fresh (VG _),λx c e=>I.iU x c (jr x c e),(λp C=>by simp[pU]at C),I.hok.kept hk,(by unfold sig;simp[pU])⟩
 .obtain⟨W,i,q,Y,y,⟨F,H,J⟩,_⟩:=KA B;have Uj:N'[j]?=some x:=A;rw[Uj]at q;cases q;obtain⟨f1,f2⟩:=hs.free x y;obtain⟨Z,VJ,Uk⟩:=I.loc;obtain⟨u,L,M⟩:=Uk F x v (by rw[g.nm];exact H) J (by rw[g.sc];rcases f1 with z|z<;>simp[AF,z]);refine⟨u,L,?_⟩;have f:X.env.kindOf x=some .cell\/X.env.kindOf x=some .free:=by unfold Env.kindOf;rw[g.sc];exact f1
  rcases M with ⟨z,_⟩|⟨_,c,P,a⟩
  .rcases f with w|w <;> (rw[z]at w;cases w)
  .obtain⟨h,d⟩:=mL x y;have:h=c:=by
    have:=jr x h d;rw[P]at this;cases this;rfl
   subst this;refine .inr ⟨?_,h,d,?_⟩
   .show(relabel scope X.env).names.lookup x=some .cell\/(relabel scope X.env).names.lookup x=some .free;rw[qU (scope:=scope) g.sc];exact sA f2
   .obtain⟨o,k,l⟩:=a;exact⟨o,hk _ _ k,l⟩
 .obtain⟨v,o,k,l⟩:=I.cell x c (jr x c e);exact⟨v,o,hk _ _ k,l⟩
end
section
variable{G:Tb}{n:Nat}{sc scope:Scope}{N N':List Str}{df:Bool}{m m':List Nat}{elt:E}{t:T}{it:Ev.It}{cond:Eo}{xe xi tg:Expr}{ifs:List Expr}{pos:Pos}{X:Cx}
noncomputable def zo(P:aP)(elt:E)(t:T)(cond:Eo)(fr:Fr):D->Hh->R (Option D):=λd c=>match Ev.cG t d fr with
 |none=>.bad
 |some a=>(Ev.iz P cond a c).bind λk b=>if k then (Ev.ev P elt a b).bind λx e=>.ok (some x) e else .ok none b
def qV(P:aP)(elt:E)(t:T)(it:Ev.It)(cond:Eo)(fr:Fr)(h:Hh):Ev.ev P (.comp elt t it cond) fr h=(Ev.cI P it fr h).bind λs h1=>if Ev.undef t fr then
  (Ev.b8 (zo P elt t cond fr) s.2 s.1 h1).bind λds h2=>Ev.alloc ds h2 else .bad:=by
 simp only[Ev.ev];rfl
inductive CI(Y:Cx)(m':List Nat)(f:D->Hh->R (Option D))(fr:Fr)(src:Src)(fp:List Addr)(tn:Nat->Heap->Prop)(r2:List Addr)(H2:Hp)(Dd:Addr)(ds:List D)(h2:Hh)(k:Nat)(s:Shared):Prop
 |mk (i:Nat) (oE:L2.St) (Hc:Hp) (rc:List Addr) (hc:Hh) (dn:List D) (vs:List V) (rest:List D) (c0:Inv Y [] oE Hc s) (c1:tn i s.heap) (c2:∀b∈fp,Hc b=none) (c3:k=src.1.length - i) (c4:i<=src.1.length) (c5:SR Y.K m' Hc rc fr oE) (c6:HR Y.K Hc rc hc) (c7:Fm Y.K r2 rc H2 Hc) (c8:Hc Dd=some (.lst vs)) (c9:Dd∉rc) (d0:aD Y.K Hc rc dn vs) (d1:Ev.b8 f src.2 (src.1.drop i) hc=.ok rest h2) (d2:dn++rest=ds):CI Y m' f fr src fp tn r2 H2 Dd ds h2 k s
section
variable{Y:Cx}{sc':Scope}{J:L2.It}{fp:List Addr}{ita:Addr}{tn:Nat->Heap->Prop}{fr:Fr}{src:Src}{r2:List Addr}{H2:Hp}{Dd:Addr}{ds:List D}{h2:Hh}
def zp(gC:Good G n sc' N' false Y){α:Type}{tt:Sem α}{Q:α->Shared->Prop}{s:Shared}(hw:wpAny (model Y.prog Y.w) Y.A tt Q Y.xe s):wpAny (model Y.prog Y.w) Y.A tt Q dS s:=by rw[gC.xe]at hw;exact hw
def xG{i:Nat}{lX:L2.St}{H9:Hp}{r9:List Addr}{h9:Hh}{dn:List D}{vs:List V}{rest':List D}{s9:Shared}{p:List (Addr×Obj)}{f:D->Hh->R (Option D)}(hlt:i<src.1.length)(I9:Inv Y ([]++p) lX H9 s9)(bk:tn (i+1) s9.heap/\∀b∈fp,H9 b=none)(q:SR Y.K m' H9 r9 fr lX)(sC:HR Y.K H9 r9 h9)(fm:Fm Y.K r2 r9 H2 H9)(zq:H9 Dd=some (.lst vs))(zu:Dd∉r9)(rv:aD Y.K H9 r9 dn vs)(e7:Ev.b8 f src.2 (src.1.drop (i+1)) h9=.ok rest' h2)(ed:dn++rest'=ds) :
  ∃k,k<src.1.length - i/\CI Y m' f fr src fp tn r2 H2 Dd ds h2 k s9:=
 ⟨src.1.length - (i+1),aao hlt (YU i),i+1,lX,H9,r9,h9,dn,vs,rest',I9.gM,bk.1,bk.2,rfl,hlt,q,sC,fm,zq,zu,rv,e7,ed⟩
def KD{i:Nat}{lX:L2.St}{H9:Hp}{r9:List Addr}{h9:Hh}{dn:List D}{vs:List V}{xd:D}{v10:V}{EY:Value}{rest':List D}{s9:Shared}{p:List (Addr×Obj)}{f:D->Hh->R (Option D)}(hlt:i<src.1.length)(mP:H2 Dd=none)(hsz:ds.length<=sizeLine)(gC:Good G n sc' N' false Y)(I9:Inv Y ([]++p) lX H9 s9)(Dp:RelV v10 EY)(bk:∀{σ':L2.St}{H':Hp}{s':Shared},Inv Y ([]++p) σ' H' s'->tn (i+1) s'.heap/\∀b∈fp,H' b=none)(q:SR Y.K m' H9 r9 fr lX)(sC:HR Y.K H9 r9 h9)(fm:Fm Y.K r2 r9 H2 H9)(oG:H9 Dd=some (.lst vs))(uL:Dd∉r9)(rv:aD Y.K H9 r9 dn vs)(Dq:RV Y.K H9 r9 xd v10)(e7:Ev.b8 f src.2 (src.1.drop (i+1)) h9=.ok rest' h2)(ed:dn++xd :: rest'=ds) :
  wpAny (model Y.prog Y.w) Y.A (call (.builtin "list.append") [.ref Dd,EY]) (λ_ EZ=>∃k,k<src.1.length - i/\CI Y m' f fr src fp tn r2 H2 Dd ds h2 k EZ) dS s9:=by
 have a:vs.length<sizeLine:=by
  have o:=rv.length;have h2:=Xp List.length ed;simp at h2;omega
 refine aX (zp gC (rZ _ s9 lX H9 (.ref Dd) [v10] (.ref Dd) [EY] (λ_ QF=>QF=upd H9 Dd (.lst (vs++[v10]))) I9 rfl (.cons Dp .nil) ⟨Dd,vs,v10,rfl,rfl,oG,a,rfl⟩)) λ_ EZ ⟨_,QF,QG,_,SN⟩=>?_;subst SN;refine xG (dn:=dn++[xd]) (vs:=vs++[v10]) hlt QG (bk QG) ?_ (sC.other oG uL) (fm.other mP oG) gI uL ?_ e7 ?_
 .exact⟨q.len,λj c d e g=>by
   obtain⟨w,h,l⟩:=q.sl j c d e g;exact⟨w,h,l.grow (λ_ _ z=>z) (iA oG)⟩⟩
 .exact(rv.append (.cons Dq .nil)).grow (λ_ _ z=>z) (iA oG)
 .rw[<-ed];simp
def Be(gC:Good G n sc' N' false Y)(hg:JG G n sc' N' false m' t tg)(hc:JC G n sc' N' false m' cond ifs)(he:JE G n sc' N' false m' elt xe)(Tn:Turn Y.prog Y.w Y.K tg J fp ita tn)(iO:∀{Hc:Hp},(∀b∈fp,Hc b=none)->∀b∈fp,gK Y [] Hc b)
  (hu:Ev.undef t fr=true) (hJ:qR Y.K r2 H2 src J) (mP:H2 Dd=none) (hsz:ds.length<=sizeLine) {R':Result->Shared->Prop}
  (SO:∀s6 oE Hc rc vs,Inv Y [] oE Hc s6->HR Y.K Hc rc h2->Fm Y.K r2 rc H2 Hc->Hc Dd=some (.lst vs)->Dd∉rc->aD Y.K Hc rc ds vs->R' (.ok .next) s6) {k:Nat} {s:Shared}
  (h:CI Y m' (zo (Ev.run G.F G.w n) elt t cond fr) fr src fp tn r2 H2 Dd ds h2 k s):codeAny (model Y.prog Y.w) Y.A (.compLoop (.ListComp xe [⟨tg,xi,ifs,0⟩] scope pos) 0 (.ref ita) (.ref Dd) Y.env) R' s:=by
 refine uJ (CI Y m' (zo (Ev.run G.F G.w n) elt t cond fr) fr src fp tn r2 H2 Dd ds h2) ?_ k h;rintro k s5 ⟨i,oE,Hc,rc,hc',dn,vs,rest,I5,oq,ow,rfl,hle,Ba,su,uM,oG,uL,Bf,a,E1⟩;rcases Nat.lt_or_ge i src.1.length with d|M
 .rw[ZS d]at a;simp only[Ev.b8]at a;split at a
  .rename_i g;obtain⟨P,_⟩:=hJ i Hc rc hc' su uM g;obtain⟨g1,g2⟩:=P src.1[i] (Xl d);obtain⟨o,h6,c,a⟩:=Ev.ah a;obtain⟨Q,h7,e7,a⟩:=Ev.ah a;cases a;refine aX (Tn.item Y rfl rfl rfl gC.calm i [] s5 oE Hc dS I5 (iO ow) oq g1) λrr s6 ⟨u,Ul,h8⟩=>?_;subst Ul;refine aX h8 λ_ s7 ⟨x,H7,I7,rx,y7,KG,Um⟩=>?_;obtain⟨y,v7,QH,l⟩:=g2 x H7 y7;obtain⟨SQ,SS⟩:=l.eE oG uL;unfold zo at c;split at c
   .cases c
   .rename_i z W;obtain⟨kk,Z,e9,c⟩:=Ev.ah c;have Uo:=I7.pinned (iO Um) (Tn.obj _ _ KG);refine aX (zp gC (hg _ gC _ s7 oE H7 x u (λB H8=>H8=H7/\SR Y.K m' H7 y z B) Uo rx ⟨y,fr,hc',_,z,Ba.mono l,QH,v7,W,λC q=>⟨rfl,q⟩⟩)) λ_ s8 ⟨B,H8,I8,Up,E2⟩=>?_;subst Up;refine aX (zp gC (hc _ gC _ s8 B _ (λb H9=>b=kk/\∃j,HR Y.K H9 j Z/\Fm Y.K y j _ H9) I8 ⟨y,z,hc',kk,Z,E2,QH,e9,λH9 j H f9=>⟨rfl,j,H,f9⟩⟩)) λbb s9 ⟨H9,I9,JY,j,H,f⟩=>?_;subst JY;obtain⟨zu,zq⟩:=f.eE SS SQ;have back:∀{σ':L2.St} {H':Hp} {C:Shared},Inv Y ([]++kC fp s7.heap) σ' H' C->tn (i+1) C.heap/\∀b∈fp,H' b=none:=λ{σ' H' C} I'=>
     ⟨Tn.keep _ _ _ KG λb I o e=>(I'.pin (b,o) (Xu _ (Xu _ (gh I e)))).1,λb I=>
      let ⟨o,e,_⟩:=Tn.obj _ _ KG b I
      (I'.pin (b,o) (Xu _ (Xu _ (gh I e)))).2.1⟩
    cases bb with
    |false=>
     simp only[Xw,XE]at c ⊢;cases c;exact xG d I9 (back I9) ((E2.mono f).unbind W hu) H ((uM.trans l).trans f) zq zu ((Bf.mono l).mono f) e7 E1
    |true=>
     simp only[Xq]at c ⊢;obtain⟨xd,QI,Uq,c⟩:=Ev.ah c;cases c;refine aX (zp gC (he _ gC _ s9 B H9 (λv Bg=>∃p,RV Y.K Bg p xd v/\HR Y.K Bg p _/\Fm Y.K j p H9 Bg) I9 ⟨j,z,Z,xd,_,E2.mono f,H,Uq,λv Bg p r Dr Bh=>⟨p,r,Dr,Bh⟩⟩)) λEY QJ ⟨r,Bg,Ur,Dp,p,Dq,Dr,L⟩=>?_;obtain⟨Pr,Pu⟩:=L.eE zq zu;exact KD d mP hsz gC Ur Dp back (((E2.mono f).mono L).unbind W hu) Dr (((uM.trans l).trans f).trans L) Pu Pr (((Bf.mono l).mono f).mono L) Dq e7 E1
  .cases a
 .have hi':i=src.1.length:=Nat.le_antisymm hle M;subst hi';rw[List.drop_length]at a;simp only[Ev.b8]at a;split at a
  .rename_i g;cases a;refine aX (Tn.done Y rfl rfl rfl gC.calm _ [] s5 oE Hc dS I5 (iO ow) oq ((hJ _ Hc rc _ su uM g).2 (VG _))) λrr s6 ⟨hrr,I6⟩=>?_;subst hrr;rw[XZ]at E1;subst E1;exact SO s6 oE Hc rc vs I6 su uM oG uL Bf
  .cases a
end
def Bj(g:Good G n sc N df X)(hi:JI G n sc N df m it tg xi)(hg:JG G n (iB sc scope) N' false m' t tg)(hc:JC G n (iB sc scope) N' false m' cond ifs)(he:JE G n (iB sc scope) N' false m' elt xe)
  (hn:namesOk sc N m scope t N' m') (hs:mK sc scope) {cl:List (Str×Addr)} (jr:∀x c,cl.lookup x=some c->X.env.cells.lookup x=some c) (mL:∀x,(x,NameKind.free)∈scope.names->∃c,cl.lookup x=some c)
  {pins:List (Addr×Obj)} {σ:L2.St} {H:Hp} {s:Shared} (I:Inv X pins σ H s) {r:List Addr} {fr:Fr} {h:Hh} {d:D} {h':Hh} (sr:SR X.K m H r fr σ) (hr:HR X.K H r h)
  (e:Ev.ev (Ev.run G.F G.w n) (.comp elt t it cond) fr h=.ok d h') (post:Value->Addr->Result->Shared->Prop)
  (hpost:∀Dd C s' H' r',Inv X pins σ H' s'->(∃mm,s'.heap.Ns C mm)->gK X pins H' C->RV X.K H' r' d (.ref Dd)->HR X.K H' r' h'->Fm X.K r r' H H'->post (.ref Dd) C (.ok .next) s') {E:Value->Shared->Prop} (hE:X.xe=λ_ _=>False) :
  wpAny (model X.prog X.w) X.A (eval xi X.env) (λx s₁=>wpAny (model X.prog X.w) X.A (pyIter x) (λitv s₂=>wpAny (model X.prog X.w) X.A (newList []) (λacc s₃=>
   wpAny (model X.prog X.w) X.A (newFunctionEnv scope X.env.globals cl [] X.env.qual none .none (some X.env)) (λcenv s₄=>
    codeAny (model X.prog X.w) X.A (.compStart (.ListComp xe [⟨tg,xi,ifs,0⟩] scope pos) 0 itv acc { cenv with scope:=relabel scope X.env }) (post acc cenv.locals) s₄) E s₃) E s₂) E s₁) E s:=by
 rw[qV]at e;obtain⟨src,P,e1,e⟩:=Ev.ah e;split at e
 .rename_i hu;obtain⟨ds,h2,e2,e⟩:=Ev.ah e;have rQ:∀{α:Type} {tt:Sem α} {Q:α->Shared->Prop} {s:Shared},wpAny (model X.prog X.w) X.A tt Q X.xe s->wpAny (model X.prog X.w) X.A tt Q E s:=λ{α tt Q s} hw=>Yu hw (λ_ _ q=>q) λ_ _ q=>by rw[hE]at q;exact q.elim
  refine aX (rQ (hi X g pins s σ H (λJ H2=>∃i,HR X.K H2 i P/\Fm X.K r i H H2/\qR X.K i H2 src J) I ⟨r,fr,h,src,P,sr,hr,e1,λJ H2 i j f2 hJ=>⟨i,j,f2,hJ⟩⟩)) λv s1 q1=>?_;refine aX (rQ q1) λitv s2 q2=>?_;obtain⟨ita,l,tn,J,H2,rfl,I2,Tn,L,f2,i,j,E3,hJ⟩:=q2;refine X7 ?_;generalize E4:s2.heap.objs.size=Dd
  have M:H2 Dd=none:=by rw[<-E4];exact I2.fresh
  have I3:Inv X pins σ (upd H2 Dd (.lst [])) { s2 with heap:=s2.heap.push { cls:=.type "list",data:=.seq ([]:List Value).toArray }}:=by
   have:=I2.Dc (ys:=[]) (its:=[]) (t':=s2.toks) .nil (YE _);rw[E4]at this;exact this
  have KH:∀b∈l,b<s2.heap.objs.size:=λb f=>by
   obtain⟨o,e,_⟩:=Tn.obj 0 _ L b f;exact VS e
  generalize KI:({ s2 with heap:=s2.heap.push { cls:=.type "list",data:=.seq ([]:List Value).toArray }}:Shared)=s3 at I3
  have SV:s3.heap.objs.size=s2.heap.objs.size+1:=by rw[<-KI];exact Heap.size_push ..
  have k3:∀b o,s2.heap.get? b=some o->s3.heap.get? b=some o:=λb o e=>by rw[<-KI];exact Tw _ e
  have KJ:∀b∈l,b<s3.heap.objs.size:=λb f=>Q5 (KH b f) (by rw[SV];exact Z9 _);have W:∀b∈l,gK X pins (upd H2 Dd (.lst [])) b:=λb f=>⟨by rw[bH (λz=>absurd (KH b f) (by rw[z,E4];exact XS _))];exact(f2 b f).1,(f2 b f).2⟩
  refine wpAny_newFunctionEnv (hs.Bc) (λy hy=>by simp at hy) (λKL SW SX=>?_) hs.kind;have k4:∀b o,s3.heap.get? b=some o->KL.get? b=some o:=λb o e=>SX.extBut b o (XJ (VS e)) (Tw _ e);have gC:Good G n (iB sc scope) N' false (pU X N' scope cl s3.heap.objs.size s3 (upd H2 Dd (.lst [])) l):=g.comp;have I4:Inv (pU X N' scope cl s3.heap.objs.size s3 (upd H2 Dd (.lst [])) l) [] (sig scope N N' m' X.K (upd H2 Dd (.lst [])) i fr σ) (upd H2 Dd (.lst [])) { s3 with heap:=KL,toks:=s3.toks+0 }:=
   Dn g I3 hs jr mL W KJ SW k4
  have xE:SR X.K m' (upd H2 Dd (.lst [])) i fr (sig scope N N' m' X.K (upd H2 Dd (.lst [])) i fr σ):=KC (((sr.mono E3).mono (Fm.tup M))) hn hu;have lW:HR X.K (upd H2 Dd (.lst [])) i P:=j.tup M;have QK:Dd∉i:=λhm=>by
   obtain⟨k,Z⟩:=aak hm;have hlt:k<P.length:=by rw[<-j.len];exact(List.getElem?_eq_some_iff.mp Z).1
   obtain⟨a,e3,e4⟩:=j.ob k _ (Xl hlt);rw[Z]at e3;cases e3;cases Y:P[k]with
   |lst dd=>rw[Y]at e4;obtain⟨us,B,_⟩:=e4;rw[M]at B;cases B
   |bT dd=>
    rw[Y]at e4;obtain⟨us,B,_⟩:=e4;rcases B with ⟨ob,B⟩|⟨ob,_,_,B,_⟩
    .rw[M]at B;cases B
    .have:=VS (I2.fR _ _ B);rw[E4]at this;exact absurd this (XS _)
  have Us:H Dd=none:=by
   cases z:H Dd with
   |none=>rfl
   |some o=>
    have hnr:Dd∉r:=λhm=>by
     obtain⟨k,Z⟩:=aak hm;exact QK (Xx (E3.pre _ _ Z))
    have:=E3.keep _ _ z hnr;rw[M]at this;cases this
  have iO:∀{Hc:Hp},(∀b∈l,Hc b=none)->∀b∈l,gK (pU X N' scope cl s3.heap.objs.size s3 (upd H2 Dd (.lst [])) l) [] Hc b:=λ{Hc} hz b f=>by
   refine⟨hz b f,XJ (KJ b f),(I4.ok).qI b f,.inl f,λx c e=>((I4.ok).EG b f).2 x c e,λp hp=>?_⟩;simp[pU]at hp
  have hsz:ds.length<=sizeLine:=by
   unfold Ev.alloc at e;split at e
   .rename_i z;rw[<-jN];exact z
   .cases e
  have fin:codeAny (model X.prog X.w) X.A (.compLoop (.ListComp xe [⟨tg,xi,ifs,0⟩] scope pos) 0 (.ref ita) (.ref Dd) (compEnvC scope cl s3.heap.objs.size X.env)) (post (.ref Dd) s3.heap.objs.size) { s3 with heap:=KL,toks:=s3.toks+0 }:=by
   refine Be gC hg hc he Tn iO hu hJ M hsz (λs6 oE Hc rc vs I6 su uM oG uL Bf=>?_) ⟨0,_,_,i,P,[],[],ds,I4,Tn.keep _ _ _ L λb f o Y=>k4 b o (k3 b o Y),λb f=>(W b f).1,rfl,YE _,xE,lW,Fm.tup M,gI,QK,.nil,by rw[X6];exact e2,rfl⟩;unfold Ev.alloc at e;split at e
   .cases e;obtain⟨Ut,SY,_⟩:=I6.loc;refine hpost Dd _ s6 Hc (rc++[Dd]) ?_ ⟨Ut,SY⟩ ?_ ⟨Dd,rfl,?_⟩ (su.known oG uL Bf) ((E3.trans uM).known ?_)
    .exact I3.OT (ch:=l) (I6.os) I6.base I6.hok I6.bare λb f=>⟨(W b f).2.2.2.1,(W b f).2.1,(W b f).2.2.2.2.1,(W b f).2.2.2.2.2⟩
    .exact I3.CZ (VG _) I6.free
    .rw[<-su.len];simp
    .exact Us
   .cases e
  subst KI;exact codeAny_compStart_list fin (Tn.self _ 0 _ _ _ (Tn.keep _ _ _ L λb f o Y=>k4 b o (k3 b o Y)) fin)
 .cases e
end
section
variable{G:Tb}{n:Nat}{sc scope:Scope}{N N':List Str}{df:Bool}{m m':List Nat}{elt:E}{t:T}{it:Ev.It}{cond:Eo}{xe xi tg:Expr}{ifs:List Expr}{pos:Pos}
theorem Good.cells{X:Cx}{pins:List (Addr×Obj)}{σ:L2.St}{H:Hp}{s:Shared}(g:Good G n sc N df X)(I:Inv X pins σ H s)(hs:mK sc scope) :
  ∃cl,closureFor scope X.env=pure cl/\(∀x c,cl.lookup x=some c->X.env.cells.lookup x=some c)/\∀x,(x,NameKind.free)∈scope.names->∃c,cl.lookup x=some c:=
 GV λx a=>I.ok.has x (by unfold Env.kindOf;rw[g.sc];exact(hs.free x a).1)
def KN{X:Cx}{pins:List (Addr×Obj)}{σ:L2.St}{H:Hp}{s:Shared}(I:Inv X pins σ H s){C:Addr}(fp:gK X pins H C){h':Heap}(hs:Heap.SameBut C s.heap h'):Inv X pins σ H { s with heap:=h' }:=
 I.turned (t':=s.toks) (λb o a e=>hs.extBut b o a e) fp.1 fp.2.1 fp.2.2.2.1 fp.2.2.2.2.1 fp.2.2.2.2.2
def GX(hi:JI G n sc N df m it tg xi)(hg:JG G n (iB sc scope) N' false m' t tg)(hc:JC G n (iB sc scope) N' false m' cond ifs)(he:JE G n (iB sc scope) N' false m' elt xe)
  (hn:namesOk sc N m scope t N' m') (hs:mK sc scope) (hf:∀(env:Env) x,foldedSetIterable xi env x=pure x:=by intro _ _;rfl):JE G n sc N df m (.comp elt t it cond) (.ListComp xe [⟨tg,xi,ifs,0⟩] scope pos):=λX g pins s σ H Q I q=>by
 obtain⟨r,B,h,d,F,i,j,e,q⟩:=q;obtain⟨J,a,k,l⟩:=g.cells I hs;rw[eval_ListComp];refine wpAny_comprehension_free (use:=none) (Q:=EP X pins σ Q) rfl (hf _) a hs.kind hs.loc ?_;refine Bj g hi hg hc he hn hs k l I i j e (λb C=>compPost (model X.prog X.w) X.A X.xe none (EP X pins σ Q) b C) (λDd C K H' o I' c p rv f Uu=>?_) g.xe;obtain⟨y,c⟩:=c;exact⟨y,c,λz Uv=>⟨.ref Dd,H',KN I' p Uv,rfl,q _ H' o rv f Uu⟩⟩
end
end Sm
namespace Sm
open PySem PySem.Spec PyProof.Rows L2 PySem.SeqAt
open Ev (D O Hh Fr R aP E Es Eo T S Ss Fl Src bO bz TY BI ME)
structure uN(A:Around)(s:Shared)(u w:Value)(k:Bool):Prop where
 eq:EqAt A s u w k
 rc:RcAt A s u w k
 ne:RcNeAt A s u w (!k)
theorem qX{f:D->D->Option Bool}:∀{x y:List D},x.length≠y.length->∀{k},Ev.cC f x y=some k->k=false
 |[],[],h,_,_=>absurd rfl h
 |[],_ :: _,_,_,e=>by cases e;rfl
 |_ :: _,[],_,_,e=>by cases e;rfl
 |a :: x,b :: y,h,k,e=>by
  simp only[Ev.cC,YI,Qj]at e;obtain⟨p,_,q,c,d⟩:=e;have:=qX (x:=x) (y:=y) (by simpa using h) c;subst this;cases d;simp
theorem xK{f:D->D->Option Bool}:∀{x y:List D}{k},Ev.cC f x y=some k->x.length=y.length->∃e:Nat->Bool,(∀(j:Nat) a b,x[j]?=some a->y[j]?=some b->f a b=some (e j))/\(List.range x.length).all e=k
 |[],[],_,h,_=>⟨λ_=>true,(λj a b c=>by simp at c),by cases h;simp⟩
 |[],_ :: _,_,_,h=>by simp at h
 |_ :: _,[],_,_,h=>by simp at h
 |a :: x,b :: y,k,h,hl=>by
  simp only[Ev.cC,YI,Qj]at h;obtain⟨p,i,q,l,o⟩:=h;cases o;obtain⟨e,c,r⟩:=xK l (by simpa using hl);refine⟨λj=>match j with|0=>p|j+1=>e j,λj z A d g=>?_,?_⟩
  .cases j with
   |zero=>simp at d g;subst d g;exact i
   |succ j=>exact c j z A (by simpa using d) (by simpa using g)
  .rw[Xo,Zk,List.all_cons,List.all_map,<-r];rfl
theorem xN{f:D->D->Option Bool}:∀{x y:List D}{k},Ev.cC f x y=some k->∃e:Nat->Bool,∀(j:Nat) a b,x[j]?=some a->y[j]?=some b->f a b=some (e j)
 |[],_,_,_=>⟨λ_=>true,λj a b c=>by simp at c⟩
 |_ :: _,[],_,_=>⟨λ_=>true,λj a b _ c=>by simp at c⟩
 |a :: x,b :: y,k,h=>by
  simp only[Ev.cC,YI,Qj]at h;obtain⟨p,i,q,l,z⟩:=h;obtain⟨e,c⟩:=xN l;refine⟨λj=>match j with|0=>p|j+1=>e j,λj o r d g=>?_⟩;cases j with
  |zero=>simp at d g;subst d g;exact i
  |succ j=>exact c j o r (by simpa using d) (by simpa using g)
section
variable{X:Cx}{pins:List (Addr×Obj)}{σ:L2.St}{H:Hp}{s:Shared}{r:List Addr}{h:Hh}
def nE(I:Inv X pins σ H s){a b:Addr}{vs ws:List V}(h1:zj X.K H a vs)(h2:H b=some (.lst ws)):a≠b:=by
 rintro rfl;rcases h1 with ⟨o,h1⟩|⟨o,_,_,h1,_⟩
 .rw[h2]at h1;cases h1
 .have:=(I.bs a o (I.ok.mod.AE a o h1)).2;rw[h2]at this;cases this
def sE{x y:List D}{vs ws:List V}{us zs:List Value}{f:D->D->Option Bool}{A:Around}{k:Bool}(v1:aD X.K H r x vs)(v2:aD X.K H r y ws)(p1:Vals vs us)(p2:Vals ws zs)
  (ih:∀a b va vb u w k,RV X.K H r a va->RV X.K H r b vb->RelV va u->RelV vb w->f a b=some k->uN A s u w k) (hl:x.length=y.length) (e:Ev.cC f x y=some k) :
  ∃e':Nat->Bool,(∀j (h1:j<us.toArray.size) (h2:j<zs.toArray.size),EqAt A s us.toArray[j] zs.toArray[j] (e' j))/\(List.range us.toArray.size).all e'=k/\us.length=zs.length:=by
 obtain⟨e',h1,h2⟩:=xK e hl;have J:=v1.length;have L:=v2.length;have M:=p1.length;have N:=p2.length;refine⟨e',λj g i=>?_,?_,by omega⟩
 .have Uw:j<us.length:=by simpa using g
  have Ux:j<zs.length:=by simpa using i
  have c:x[j]?=some x[j]:=Xl (by omega);have d:y[j]?=some y[j]:=Xl (by omega);obtain⟨va,l,o⟩:=v1.get c;obtain⟨vb,p,q⟩:=v2.get d;obtain⟨u,z,B⟩:=p1.get l;obtain⟨w,C,F⟩:=p2.get p;have G:us.toArray[j]=u:=by
   have:=(List.getElem?_eq_some_iff.mp z).2;simpa using this
  have I:zs.toArray[j]=w:=by
   have:=(List.getElem?_eq_some_iff.mp C).2;simpa using this
  rw[G,I];exact(ih _ _ _ _ _ _ _ o q B F (h1 j _ _ c d)).eq
 .rw[<-h2];have:us.toArray.size=x.length:=by simp;omega
  rw[this]
def cD(K:PySem.W.Frag)(H:Hp)(r:List Addr):D->V->Prop
 |.bG,v=>v=.bG
 |.bl b,v=>v=.bl b
 |.int i,v=>v=.int i
 |.str l,v=>v=.str (au l)
 |.ref n,v=>∃a,v=.ref a/\r[n]?=some a
 |.tup ds,v=>∃a vs,v=.ref a/\dm K H a vs/\aD K H r ds vs
def RV.shape{d:D}{v:V}(h:RV X.K H r d v):cD X.K H r d v:=by
 cases d<;>simp only[RV]at h<;>simp only[cD]<;>first|exact h|exact h.1
def GY{a b:List Nat}:(au a==au b)=(a==b):=by
 by_cases e:a=b
 .subst e;simp
 .have c:(au a==au b)=false:=beq_eq_false_iff_ne.mpr λz=>e (jE z);have d:(a==b)=false:=beq_eq_false_iff_ne.mpr e;rw[c,d]
def pe{n:Nat}{A:Around}{x y:List D}{a b:Addr}{vs ws:List V}{k:Bool}(I:Inv X pins σ H s)(hu:A.units<cLine)(q1:eY X.K H a vs)(q2:eY X.K H b ws)(v1:aD X.K H r x vs)(v2:aD X.K H r y ws)(hab:a≠b)
  (ih:∀a b va vb u w k,RV X.K H r a va->RV X.K H r b vb->RelV va u->RelV vb w->Ev.gw h n a b=some k->uN A.in1 s u w k) (e:Ev.cC (Ev.gw h n) x y=some k):uN A s (.ref a) (.ref b) k:=by
 obtain⟨i,j,d,_⟩:=I.list q1;obtain⟨l,o,f,_⟩:=I.list q2;by_cases p:x.length=y.length
 .obtain⟨G,q,B,C⟩:=sE v1 v2 j o ih p e;have c:i.toArray.size=l.toArray.size:=by simpa using C
  have g:=RcAt.lists d.isList f.isList c hu q;have z:=RcNeAt.lists d.isList f.isList c hu q;rw[B]at g z;exact⟨.of_refs hab g,g,z⟩
 .have F:=qX p e;subst F;have c:(i.toArray.size != l.toArray.size)=true:=by
   have J:=v1.length;have L:=v2.length;have M:=j.length;have N:=o.length;simp only[Q4,bne_iff_ne,ne_eq];omega
  exact⟨.of_refs hab (.lists_lengths d.isList f.isList c hu),.lists_lengths d.isList f.isList c hu,.lists_lengths d.isList f.isList c hu⟩
def uO(I:Inv X pins σ H s)(hr:HR X.K H r h){n:Nat}{a:Addr}{ds:List D}(e:Ev.br h n=some ds)(ha:r[n]?=some a):∃us:List Value,PlainL s.heap a us.toArray:=by
 obtain⟨f,g,b,c,i⟩:=hr.read e;rw[ha]at b;cases b;obtain⟨us,_,d,_⟩:=I.list c;exact⟨us,d⟩
def Bm(I:Inv X pins σ H s)(hr:HR X.K H r h):∀(n:Nat) (a b:D) (v:V) (k:Bool),RV X.K H r a v->RV X.K H r b v->Ev.gw h n a b=some k->k=true:=by
 intro n;induction n with
 |zero=>intro a b v k _ _ e;cases e
 |succ n Z=>
  have l:∀(x y:List D) (g:List V) (k:Bool),aD X.K H r x g->aD X.K H r y g->Ev.cC (Ev.gw h n) x y=some k->k=true:=by
   intro x;induction x with
   |nil=>
    intro y g k f c e;simp only[aD]at f;subst f;cases y with
    |nil=>cases e;rfl
    |cons _ _=>simp only[aD]at c;obtain⟨_,_,c,_⟩:=c;cases c
   |cons d x Uy=>
    intro y g k f c e;simp only[aD]at f;obtain⟨v,w,rfl,J,h4⟩:=f;cases y with
    |nil=>simp only[aD]at c;cases c
    |cons d' y=>
     simp only[aD]at c;obtain⟨v',w',L,h5,h6⟩:=c;cases L;simp only[Ev.cC,YI,Qj]at e;obtain⟨p,A,q,L,e3⟩:=e;cases e3;rw[Z d d' v p J h5 A,Uy y w q h4 h6 L];rfl
  have lt:∀(a:Addr) (g:List V) (i:Nat) (ds:List D),dm X.K H a g->r[i]?=some a->Ev.br h i=some ds->False:=λa g i ds f c J=>by
   obtain⟨us,pl⟩:=uO I hr J c;obtain⟨zs,_,pt,_⟩:=I.tuple f;exact ne_of_list_tuple pl.isList pt rfl
  intro a b v k f c e;have s1:=f.shape;have s2:=c.shape;clear f c;cases a with
  |bG=>simp only[cD]at s1;cases b with
   |bG=>cases e;rfl
   |ref m=>obtain⟨p,z,_⟩:=s2;rw[s1]at z;cases z
   |tup y=>obtain⟨p,_,z,_⟩:=s2;rw[s1]at z;cases z
   |_=>simp only[cD]at s2;rw[s1]at s2;cases s2
  |bl x=>simp only[cD]at s1;cases b with
   |bl y=>simp only[cD]at s2;rw[s1]at s2;cases s2;cases e;simp
   |ref m=>obtain⟨p,z,_⟩:=s2;rw[s1]at z;cases z
   |tup y=>obtain⟨p,_,z,_⟩:=s2;rw[s1]at z;cases z
   |_=>simp only[cD]at s2;rw[s1]at s2;cases s2
  |int x=>simp only[cD]at s1;cases b with
   |int y=>simp only[cD]at s2;rw[s1]at s2;cases s2;cases e;simp
   |ref m=>obtain⟨p,z,_⟩:=s2;rw[s1]at z;cases z
   |tup y=>obtain⟨p,_,z,_⟩:=s2;rw[s1]at z;cases z
   |_=>simp only[cD]at s2;rw[s1]at s2;cases s2
  |str x=>simp only[cD]at s1;cases b with
   |str y=>
    simp only[cD]at s2;rw[s1]at s2;have:x=y:=jE (by injection s2);subst this;cases e;simp
   |ref m=>obtain⟨p,z,_⟩:=s2;rw[s1]at z;cases z
   |tup y=>obtain⟨p,_,z,_⟩:=s2;rw[s1]at z;cases z
   |_=>simp only[cD]at s2;rw[s1]at s2;cases s2
  |tup x=>
   obtain⟨p,g,rfl,z,w⟩:=s1;cases b with
   |tup y=>
    obtain⟨M,N,o,j,P⟩:=s2;cases o;rw[I.mz j z]at P;exact l x y g k w P e
   |ref m=>
    obtain⟨M,o,j⟩:=s2;cases o;obtain⟨ds,A,_⟩:=Option.map_eq_some_iff.mp e;exact(lt _ _ _ _ z j A).elim
   |_=>cases s2
  |ref i=>
   obtain⟨p,rfl,z⟩:=s1;cases b with
   |ref m=>
    obtain⟨M,o,j⟩:=s2;cases o;replace e:Ev.jM h (Ev.gw h n) i m=some k:=e;unfold Ev.jM at e;split at e
    .simp only[wj]at e;obtain⟨_,_,e⟩:=e;exact e.symm
    .rename_i Q;split at e
     .rename_i x y B C;exact absurd (hr.inj _ _ _ _ _ z j B C) Q
     .rename_i x y B C;obtain⟨p1,F,E5,W,_⟩:=hr.ob _ _ B;obtain⟨p2,G,E6,Y,_⟩:=hr.ob _ _ C;rw[z]at F;cases F;rw[j]at G;cases G;exact absurd rfl (nE I W Y)
     .rename_i x y B C;obtain⟨p1,F,E5,W,_⟩:=hr.ob _ _ B;obtain⟨p2,G,E6,Y,_⟩:=hr.ob _ _ C;rw[z]at F;cases F;rw[j]at G;cases G;exact absurd rfl (nE I Y W)
     .cases e
   |tup y=>
    obtain⟨M,N,o,j,P⟩:=s2;cases o;obtain⟨ds,A,_⟩:=Option.map_eq_some_iff.mp e;exact(lt _ _ _ _ j z A).elim
   |_=>cases s2
def GZ{n:Nat}{A:Around}{x y:List D}{a b:Addr}{vs ws:List V}{k:Bool}(I:Inv X pins σ H s)(hr:HR X.K H r h)(hu:A.units<cLine)(q1:dm X.K H a vs)(q2:dm X.K H b ws)(v1:aD X.K H r x vs)(v2:aD X.K H r y ws)
  (ih:∀a b va vb u w k,RV X.K H r a va->RV X.K H r b vb->RelV va u->RelV vb w->Ev.gw h n a b=some k->uN A.in1 s u w k) (e:Ev.cC (Ev.gw h n) x y=some k):uN A s (.ref a) (.ref b) k:=by
 obtain⟨d,C,q,_⟩:=I.tuple q1;obtain⟨f,F,z,_⟩:=I.tuple q2;have l1:=v1.length;have l2:=v2.length;have l3:=C.length;have l4:=F.length;have c:RcAt A s (.ref a) (.ref b) k/\RcNeAt A s (.ref a) (.ref b) (!k):=by
  by_cases M:x.length=y.length
  .obtain⟨i,g,N,Q⟩:=sE v1 v2 C F ih M e;have l:=RcAt.tuples q z hu g;have o:=RcNeAt.tuples q z hu g;have G:d.toArray.size=f.toArray.size:=by simpa using Q
   have B:((List.range (min d.toArray.size f.toArray.size)).all i&&d.toArray.size==f.toArray.size)=k:=by
    rw[<-G,Nat.min_self,N];simp
   rw[B]at l o;exact⟨l,o⟩
  .have J:=qX M e;subst J;have L:∃i:Nat->Bool,∀j (g:j<d.toArray.size) (N:j<f.toArray.size),EqAt A.in1 s d.toArray[j] f.toArray[j] (i j):=by
    obtain⟨i,g⟩:=xN e;refine⟨i,λj W Y=>?_⟩;have Uw:j<d.length:=by simpa using W
    have Ux:j<f.length:=by simpa using Y
    have P:x[j]?=some x[j]:=Xl (by omega);have B:y[j]?=some y[j]:=Xl (by omega);obtain⟨va,Z,a2⟩:=v1.get P;obtain⟨vb,b1,b2⟩:=v2.get B;obtain⟨u,a3,a4⟩:=C.get Z;obtain⟨w,b3,b4⟩:=F.get b1;have eu:d.toArray[j]=u:=by
     have:=(List.getElem?_eq_some_iff.mp a3).2;simpa using this
    have ew:f.toArray[j]=w:=by
     have:=(List.getElem?_eq_some_iff.mp b3).2;simpa using this
    rw[eu,ew];exact(ih _ _ _ _ _ _ _ a2 b2 a4 b4 (g j _ _ P B)).eq
   obtain⟨i,g⟩:=L;have l:=RcAt.tuples q z hu g;have o:=RcNeAt.tuples q z hu g;have G:(d.toArray.size==f.toArray.size)=false:=by
    simp only[Q4,beq_eq_false_iff_ne,ne_eq];omega
   rw[G,Bool.and_false]at l o;exact⟨l,o⟩
 by_cases p:a=b
 .subst p;rw[I.mz q2 q1]at v2;have J:k=true:=Bm I hr (n+1) (.tup x) (.tup y) (.ref a) k ⟨a,vs,rfl,q1,v1⟩ ⟨a,vs,rfl,q1,v2⟩ e;subst J;exact⟨.same _,c.1,c.2⟩
 .exact⟨.of_refs p c.1,c.1,c.2⟩
end
section
variable{X:Cx}{pins:List (Addr×Obj)}{σ:L2.St}{H:Hp}{s:Shared}{r:List Addr}{h:Hh}
def zw(I:Inv X pins σ H s)(hr:HR X.K H r h):∀(n:Nat) (A:Around) (a b:D) (va vb:V) (u w:Value) (k:Bool),A.units+n<cLine->RV X.K H r a va->RV X.K H r b vb->RelV va u->RelV vb w->Ev.gw h n a b=some k->uN A s u w k:=by
 intro n;induction n with
 |zero=>intro A a b va vb u w k _ _ _ _ _ e;cases e
 |succ n ih=>
  intro A a b va vb u w k hu h1 h2 o f e;have c:A.units<cLine:=by omega
  have B:∀a b va vb u w k,RV X.K H r a va->RV X.K H r b vb->RelV va u->RelV vb w->Ev.gw h n a b=some k->uN A.in1 s u w k:=λa b va vb u w k=>ih A.in1 a b va vb u w k (by show A.units+1+n<cLine;omega);have s1:=h1.shape;have s2:=h2.shape;have lst:∀{i:Nat} {v:V} {u:Value} {ds:List D},cD X.K H r (.ref i) v->RelV v u->Ev.br h i=some ds->∃p g,u=.ref p/\PlainL s.heap p (List.toArray g):=λ{i v u ds} hv ru el=>by
   obtain⟨p,rfl,z⟩:=hv;cases ru;obtain⟨g,d⟩:=uO I hr el z;exact⟨p,g,rfl,d⟩
  have tup:∀{ds:List D} {v:V} {u:Value},cD X.K H r (.tup ds) v->RelV v u->∃p g,u=.ref p/\s.heap.IsTuple p (List.toArray g):=λ{ds v u} hv ru=>by
   obtain⟨p,vs,rfl,z,_⟩:=hv;cases ru;obtain⟨g,_,pt,_⟩:=I.tuple z;exact⟨p,g,rfl,pt⟩
  cases a with
  |bG=>
   simp only[cD]at s1;subst s1;cases o;cases b with
   |bG=>simp only[cD]at s2;subst s2;cases f;cases e;exact⟨.same _,.none_none,.none_none⟩
   |bl y=>simp only[cD]at s2;subst s2;cases f;cases e;exact⟨.none_bool _,.none_bool _,.none_bool _⟩
   |int y=>simp only[cD]at s2;subst s2;obtain⟨t,rfl⟩:=f;cases e;exact⟨.none_int _ _,.none_int _ _,.none_int _ _⟩
   |str y=>simp only[cD]at s2;subst s2;obtain⟨t,rfl⟩:=f;cases e;exact⟨.none_str _ _,.none_str _ _,.none_str _ _⟩
   |tup y=>obtain⟨p,g,rfl,pt⟩:=tup s2 f;cases e;exact⟨.none_tuple pt c,.none_tuple pt c,.none_tuple pt c⟩
   |ref m=>
    obtain⟨ds,l,rfl⟩:=Option.map_eq_some_iff.mp e;obtain⟨p,g,rfl,d⟩:=lst s2 f l;exact⟨.none_list d.isList c,.none_list d.isList c,.none_list d.isList c⟩
  |bl x=>
   simp only[cD]at s1;subst s1;cases o;cases b with
   |bG=>simp only[cD]at s2;subst s2;cases f;cases e;exact⟨.bool_none _,.bool_none _,.bool_none _⟩
   |bl y=>simp only[cD]at s2;subst s2;cases f;cases e;exact⟨.bool_bool _ _,.bool_bool _ _,.bool_bool _ _⟩
   |int y=>simp only[cD]at s2;subst s2;obtain⟨t,rfl⟩:=f;cases e;exact⟨.bool_int _ _ _,.bool_int _ _ _,.bool_int _ _ _⟩
   |str y=>simp only[cD]at s2;subst s2;obtain⟨t,rfl⟩:=f;cases e;exact⟨.bool_str _ _ _,.bool_str _ _ _,.bool_str _ _ _⟩
   |tup y=>obtain⟨p,g,rfl,pt⟩:=tup s2 f;cases e;exact⟨.bool_tuple _ pt c,.bool_tuple _ pt c,.bool_tuple _ pt c⟩
   |ref m=>
    obtain⟨ds,l,rfl⟩:=Option.map_eq_some_iff.mp e;obtain⟨p,g,rfl,d⟩:=lst s2 f l;exact⟨.bool_list _ d.isList c,.bool_list _ d.isList c,.bool_list _ d.isList c⟩
  |int x=>
   simp only[cD]at s1;subst s1;obtain⟨t0,rfl⟩:=o;cases b with
   |bG=>simp only[cD]at s2;subst s2;cases f;cases e;exact⟨.int_none _ _,.int_none _ _,.int_none _ _⟩
   |bl y=>simp only[cD]at s2;subst s2;cases f;cases e;exact⟨.int_bool _ _ _,.int_bool _ _ _,.int_bool _ _ _⟩
   |int y=>simp only[cD]at s2;subst s2;obtain⟨t,rfl⟩:=f;cases e;exact⟨.int_int _ _ _ _,.int_int _ _ _ _,.int_int _ _ _ _⟩
   |str y=>simp only[cD]at s2;subst s2;obtain⟨t,rfl⟩:=f;cases e;exact⟨.int_str _ _ _ _,.int_str _ _ _ _,.int_str _ _ _ _⟩
   |tup y=>obtain⟨p,g,rfl,pt⟩:=tup s2 f;cases e;exact⟨.int_tuple _ _ pt c,.int_tuple _ _ pt c,.int_tuple _ _ pt c⟩
   |ref m=>
    obtain⟨ds,l,rfl⟩:=Option.map_eq_some_iff.mp e;obtain⟨p,g,rfl,d⟩:=lst s2 f l;exact⟨.int_list _ _ d.isList c,.int_list _ _ d.isList c,.int_list _ _ d.isList c⟩
  |str x=>
   simp only[cD]at s1;subst s1;obtain⟨t0,rfl⟩:=o;cases b with
   |bG=>simp only[cD]at s2;subst s2;cases f;cases e;exact⟨.str_none _ _,.str_none _ _,.str_none _ _⟩
   |bl y=>simp only[cD]at s2;subst s2;cases f;cases e;exact⟨.str_bool _ _ _,.str_bool _ _ _,.str_bool _ _ _⟩
   |int y=>simp only[cD]at s2;subst s2;obtain⟨t,rfl⟩:=f;cases e;exact⟨.str_int _ _ _ _,.str_int _ _ _ _,.str_int _ _ _ _⟩
   |str y=>
    simp only[cD]at s2;subst s2;obtain⟨t,rfl⟩:=f;cases e;rw[<-GY];exact⟨.str_str _ _ _ _,.str_str _ _ _ _,.str_str _ _ _ _⟩
   |tup y=>obtain⟨p,g,rfl,pt⟩:=tup s2 f;cases e;exact⟨.str_tuple _ _ pt c,.str_tuple _ _ pt c,.str_tuple _ _ pt c⟩
   |ref m=>
    obtain⟨ds,l,rfl⟩:=Option.map_eq_some_iff.mp e;obtain⟨p,g,rfl,d⟩:=lst s2 f l;exact⟨.str_list _ _ d.isList c,.str_list _ _ d.isList c,.str_list _ _ d.isList c⟩
  |tup x=>
   cases b with
   |tup y=>
    obtain⟨p,vs,rfl,z,w1⟩:=s1;obtain⟨Z,vs',rfl,C,w2⟩:=s2;cases o;cases f;exact GZ I hr c z C w1 w2 B e
   |bG=>obtain⟨p,g,rfl,pt⟩:=tup s1 o;simp only[cD]at s2;subst s2;cases f;cases e;exact⟨.tuple_none pt c,.tuple_none pt c,.tuple_none pt c⟩
   |bl y=>obtain⟨p,g,rfl,pt⟩:=tup s1 o;simp only[cD]at s2;subst s2;cases f;cases e;exact⟨.tuple_bool _ pt c,.tuple_bool _ pt c,.tuple_bool _ pt c⟩
   |int y=>obtain⟨p,g,rfl,pt⟩:=tup s1 o;simp only[cD]at s2;subst s2;obtain⟨t,rfl⟩:=f;cases e;exact⟨.tuple_int _ _ pt c,.tuple_int _ _ pt c,.tuple_int _ _ pt c⟩
   |str y=>obtain⟨p,g,rfl,pt⟩:=tup s1 o;simp only[cD]at s2;subst s2;obtain⟨t,rfl⟩:=f;cases e;exact⟨.tuple_str _ _ pt c,.tuple_str _ _ pt c,.tuple_str _ _ pt c⟩
   |ref m=>
    obtain⟨p,g,rfl,pt⟩:=tup s1 o;obtain⟨ds,l,rfl⟩:=Option.map_eq_some_iff.mp e;obtain⟨Z,W,rfl,d⟩:=lst s2 f l;exact⟨.tuple_list pt d.isList c,.tuple_list pt d.isList c,.tuple_list pt d.isList c⟩
  |ref i=>
   cases b with
   |ref m=>
    replace e:Ev.jM h (Ev.gw h n) i m=some k:=e;unfold Ev.jM at e;split at e
    .rename_i Uz;subst Uz;simp only[wj]at e;obtain⟨ds,l,rfl⟩:=e;obtain⟨p,g,rfl,d⟩:=lst s1 o l;obtain⟨p0,rfl,z⟩:=s1;obtain⟨p1,rfl,C⟩:=s2;rw[z]at C;cases C;cases o;cases f;have q:(List.range (List.toArray g).size).all (λ_=>true)=true:=by simp
     have rc:=RcAt.lists (A:=A) (e:=λ_=>true) d.isList d.isList rfl c λj _ _=>EqAt.same _;have ne:=RcNeAt.lists (A:=A) (e:=λ_=>true) d.isList d.isList rfl c λj _ _=>EqAt.same _;rw[q]at rc ne;exact⟨.same _,rc,ne⟩
    .rename_i Y;obtain⟨p0,rfl,z⟩:=s1;obtain⟨p1,rfl,C⟩:=s2;cases o;cases f;split at e
     .rename_i x y M N;obtain⟨q0,F,E5,J,P⟩:=hr.ob _ _ M;obtain⟨q4,G,E6,L,Q⟩:=hr.ob _ _ N;rw[z]at F;cases F;rw[C]at G;cases G;exact pe I c (.of J) (.of L) P Q (λw=>Y (hr.inj _ _ _ _ _ z (by rw[w];exact C) M N)) B e
     .rename_i x y M N;obtain⟨q0,F,E5,J,P⟩:=hr.ob _ _ M;obtain⟨q4,G,E6,L,Q⟩:=hr.ob _ _ N;rw[z]at F;cases F;rw[C]at G;cases G;exact pe I c (E7 J) (.of L) P Q (nE I J L) B e
     .rename_i x y M N;obtain⟨q0,F,E5,J,P⟩:=hr.ob _ _ M;obtain⟨q4,G,E6,L,Q⟩:=hr.ob _ _ N;rw[z]at F;cases F;rw[C]at G;cases G;exact pe I c (.of J) (E7 L) P Q (nE I L J).symm B e
     .cases e
   |bG=>obtain⟨ds,l,rfl⟩:=Option.map_eq_some_iff.mp e;obtain⟨p,g,rfl,d⟩:=lst s1 o l;simp only[cD]at s2;subst s2;cases f;exact⟨.list_none d.isList c,.list_none d.isList c,.list_none d.isList c⟩
   |bl y=>obtain⟨ds,l,rfl⟩:=Option.map_eq_some_iff.mp e;obtain⟨p,g,rfl,d⟩:=lst s1 o l;simp only[cD]at s2;subst s2;cases f;exact⟨.list_bool _ d.isList c,.list_bool _ d.isList c,.list_bool _ d.isList c⟩
   |int y=>obtain⟨ds,l,rfl⟩:=Option.map_eq_some_iff.mp e;obtain⟨p,g,rfl,d⟩:=lst s1 o l;simp only[cD]at s2;subst s2;obtain⟨t,rfl⟩:=f;exact⟨.list_int _ _ d.isList c,.list_int _ _ d.isList c,.list_int _ _ d.isList c⟩
   |str y=>obtain⟨ds,l,rfl⟩:=Option.map_eq_some_iff.mp e;obtain⟨p,g,rfl,d⟩:=lst s1 o l;simp only[cD]at s2;subst s2;obtain⟨t,rfl⟩:=f;exact⟨.list_str _ _ d.isList c,.list_str _ _ d.isList c,.list_str _ _ d.isList c⟩
   |tup y=>
    obtain⟨ds,l,rfl⟩:=Option.map_eq_some_iff.mp e;obtain⟨p,g,rfl,d⟩:=lst s1 o l;obtain⟨Z,W,rfl,pt⟩:=tup s2 f;exact⟨.list_tuple d.isList pt c,.list_tuple d.isList pt c,.list_tuple d.isList pt c⟩
where
 E7 {K:PySem.W.Frag} {H:Hp} {a:Addr} {vs:List V} (q:zj K H a vs):eY K H a vs:=by
  rcases q with ⟨ob,e2⟩|e2
  .exact .inl (.inr ⟨ob,e2⟩)
  .exact .inr e2
end
theorem Good.units{G:Tb}{n:Nat}{sc:Scope}{N:List Str}{df:Bool}{X:Cx}(g:Good G n sc N df X):X.A.units+1+Ev.deep<cLine:=by
 have:=g.room.un;have:Ev.deep=20:=rfl;omega
section
variable{G:Tb}{n:Nat}{sc:Scope}{N:List Str}{df:Bool}{X:Cx}
def nF{pins:List (Addr×Obj)}{σ:L2.St}{H:Hp}{s:Shared}{Q:VK}{r:List Addr}{h:Hh}{k:Bool}(I:Inv X pins σ H s)(hr:HR X.K H r h)(q:Res X.K r H h (.bl k) Q):EP X pins σ Q (.bool k) s:=
 ⟨.bl k,H,I,rfl,q.here rfl hr⟩
def E8(g:Good G n sc N df X):cH X (compareOp .Eq) (eT X.K (cT .eq)):=by
 intro c s σ H x y v u Q I rx ry q;obtain⟨r,h,a,b,d,o,f,i,j,e,q⟩:=q;obtain⟨k,l,rfl,rfl⟩:=gY e;have:=g.units;exact(zw I f Ev.deep X.A a b x y v u k (by omega) i j rx ry l).rc _ _ _ _ (nF I f q)
def E9(g:Good G n sc N df X):cH X (compareOp .NotEq) (eT X.K (cT .ne)):=by
 intro f s σ H x y v u Q I rx ry q;obtain⟨r,h,a,b,d,z,i,j,l,e,q⟩:=q;obtain⟨k,c,rfl,rfl⟩:=gY e;have:=g.units
 delta Ev.cop at c;dsimp only at c;simp only[wj]at c
 obtain⟨o,p,rfl⟩:=c;exact(zw I i Ev.deep X.A a b x y v u o (by omega) j l rx ry p).ne _ _ _ _ (nF I i q)
def uP{op:CmpOp}{o:bz}{p:Int->Int->Bool}(ho:cH X (compareOp op) (rS λi j=>.bl (p i j)))(hc:∀a b h k,Ev.cop o a b h=some k->∃i j,a=.int i/\b=.int j/\k=p i j):cH X (compareOp op) (eT X.K (cT o)):=by
 intro c s σ H x y v u Q I rx ry q;obtain⟨r,h,a,b,d,A,f,g,l,e,q⟩:=q;obtain⟨k,z,rfl,rfl⟩:=gY e;obtain⟨i,j,rfl,rfl,rfl⟩:=hc _ _ _ _ z;exact ho c s σ H x y v u Q I rx ry ⟨i,j,g,l,q.here rfl f⟩
def Pw:cH X (compareOp .Lt) (eT X.K (cT .lt)):=uP O5 λa b h k e=>by
 cases a<;>cases b <;> (delta Ev.cop at e;dsimp only at e)<;>first | (cases e;exact⟨_,_,rfl,rfl,rfl⟩)|cases e
def tV:cH X (compareOp .LtE) (eT X.K (cT .le)):=uP O6 λa b h k e=>by
 cases a<;>cases b <;> (delta Ev.cop at e;dsimp only at e)<;>first | (cases e;exact⟨_,_,rfl,rfl,rfl⟩)|cases e
def Fb:cH X (compareOp .Gt) (eT X.K (cT .gt)):=uP O7 λa b h k e=>by
 cases a<;>cases b <;> (delta Ev.cop at e;dsimp only at e)<;>first | (cases e;exact⟨_,_,rfl,rfl,rfl⟩)|cases e
end
theorem xO{h:Hh}{x:D}:∀{ys:List D}{k:Bool},Ev.mem h x ys=some k->∃e:Nat->Bool,(∀(j:Nat) y,ys[j]?=some y->Ev.gw h Ev.deep y x=some (e j))/\(List.range ys.length).any e=k
 |[],_,e=>⟨λ_=>true,(λj y h=>by simp at h),by cases e;simp⟩
 |y :: ys,k,e=>by
  simp only[Ev.mem,YI,Qj]at e;obtain⟨p,a,q,b,c⟩:=e;cases c;obtain⟨e,d,f⟩:=xO b;refine⟨λj=>match j with|0=>p|j+1=>e j,λj i g=>?_,?_⟩
  .cases j with
   |zero=>simp at g;subst g;exact a
   |succ j=>exact d j i (by simpa using g)
  .rw[Xo,Zk,List.any_cons,List.any_map,<-f];rfl
section
variable{X:Cx}{pins:List (Addr×Obj)}{σ:L2.St}{H:Hp}{s:Shared}{r:List Addr}{h:Hh}
open Classical in
def xP(I:Inv X pins σ H s)(hr:HR X.K H r h){A:Around}(hu:A.units+1+Ev.deep<cLine){x:D}{vx:V}{ux:Value}(v1:RV X.K H r x vx)(rx:RelV vx ux){ys:List D}{vs:List V}{us:List Value}(v2:aD X.K H r ys vs)(p2:Vals vs us){k:Bool}(e:Ev.mem h x ys=some k) :
  ∃f:Value->Bool,(∀y,y∈us.toArray->EqAt A.in1 s y ux (f y))/\us.toArray.any f=k:=by
 obtain⟨c,B,C⟩:=xO e;have N:=v2.length;have P:=p2.length;have g:∀(j:Nat) (a:j<us.length),EqAt A.in1 s us[j] ux (c j):=λj a=>by
  have o:ys[j]?=some ys[j]:=Xl (by omega);obtain⟨Q,F,G⟩:=v2.get o;obtain⟨u,J,L⟩:=p2.get F;have M:us[j]=u:=(List.getElem?_eq_some_iff.mp J).2;rw[M];exact(zw I hr Ev.deep A.in1 _ _ _ _ _ _ _ (by show A.units+1+Ev.deep<cLine;exact hu) G v1 L rx (B j _ o)).eq
 refine⟨λy=>decide (∃j,∃a:j<us.length,us[j]=y/\c j=true),λy p=>?_,?_⟩
 .by_cases i:∃j,∃a:j<us.length,us[j]=y/\c j=true
  .obtain⟨j,a,rfl,d⟩:=i;have q:=g j a;rw[d]at q;have:decide (∃j',∃b:j'<us.length,us[j']=us[j]/\c j'=true)=true:=XW ⟨j,a,rfl,d⟩;show EqAt A.in1 s us[j] ux (decide (∃j',∃b:j'<us.length,us[j']=us[j]/\c j'=true));rw[this];exact q
  .show EqAt A.in1 s y ux (decide (∃j',∃b:j'<us.length,us[j']=y/\c j'=true));rw[Xr i];have l:y∈us:=by simpa using p
   obtain⟨j,a,rfl⟩:=Zx l;have q:=g j a;have:c j=false:=by
    cases z:c j with
    |false=>rfl
    |true=>exact absurd ⟨j,a,rfl,z⟩ i
   rw[this]at q;exact q
 .rw[<-C,Zu,Array.any_eq_true',Zm];constructor
  .rintro⟨y,p,hd⟩;obtain⟨j,a,_,d⟩:=XN hd;exact⟨j,List.mem_range.mpr (by omega),d⟩
  .rintro⟨j,a,d⟩;have b:j<us.length:=by have:=List.mem_range.mp a;omega
   exact⟨us[j],by simp,XW ⟨j,b,rfl,d⟩⟩
end
section
variable{G:Tb}{n:Nat}{sc:Scope}{N:List Str}{df:Bool}{X:Cx}
def in_of(g:Good G n sc N df X){pins:List (Addr×Obj)}{σ:L2.St}{H:Hp}{s:Shared}{r:List Addr}{h:Hh}(I:Inv X pins σ H s)(hr:HR X.K H r h){a b:D}{x y:V}{v u:Value}{k:Bool}(v1:RV X.K H r a x)(v2:RV X.K H r b y)(rx:RelV x v)(ry:RelV y u)(e:Ev.isin a b h=some k) :
  (∀Q:Value->Shared->Prop,∀E:Value->Shared->Prop,Q (.bool k) s->wpAny (model X.prog X.w) X.A (compareOp .In v u) Q E s)/\(∀Q:Value->Shared->Prop,∀E:Value->Shared->Prop,Q (.bool (!k)) s->wpAny (model X.prog X.w) X.A (compareOp .NotIn v u) Q E s):=by
 have o:=g.units;cases b with
 |str l=>
  cases a with
  |str c=>
   have s1:=v1.shape;have s2:=v2.shape;simp only[cD]at s1 s2;subst s1 s2;obtain⟨t,rfl⟩:=rx;obtain⟨P,rfl⟩:=ry
   match c,e with
   |[c],e=>
    cases e;have q:(!(Builtin.Str.occurrences (au l) (au [c]) 0 (au l).length 1).isEmpty)=l.contains c:=by
     have:=PySem.StrLaws.found_one (au l) c;rw[show(au [c])=⟨#[c]⟩from rfl,this,Zu];have j:l.contains c=true↔c∈l:=by simp
     rw[j];exact⟨λz=>by simpa[au]using XN z,λz=>XW (by simpa[au]using z)⟩
    refine⟨λQ E d=>in_str (by rw[q];exact d),λQ E d=>notIn_str (by rw[q];exact d)⟩
   |[],e=>cases e
   |_ :: _ :: _,e=>cases e
  |_=>cases e
 |tup W=>
  obtain⟨p,F,rfl,z,w⟩:=v2.shape;cases ry;obtain⟨J,pv,pt,_⟩:=I.tuple z;obtain⟨f,f1,f2⟩:=xP I hr o v1 rx w pv e;refine⟨λQ E d=>in_tupleAt f pt f1 (by rw[f2];exact d),λQ E d=>notIn_tupleAt f pt f1 (by rw[f2];exact d)⟩
 |ref i=>
  simp only[Ev.isin,Qj]at e;obtain⟨ds,j,L⟩:=e;obtain⟨p,rfl,z⟩:=v2.shape;cases ry;obtain⟨Y,F,B,M,w⟩:=hr.read j;rw[z]at B;cases B;obtain⟨J,pv,C,_⟩:=I.list M;obtain⟨f,f1,f2⟩:=xP I hr o v1 rx w pv L;refine⟨λQ E d=>in_listAt f C.isList f1 (by rw[f2];exact d),λQ E d=>notIn_listAt f C.isList f1 (by rw[f2];exact d)⟩
 |_=>cases e
def Px(g:Good G n sc N df X):cH X (compareOp .In) (eT X.K (cT .isin)):=by
 intro c s σ H x y v u Q I rx ry q;obtain⟨r,h,a,b,d,i,f,j,l,e,q⟩:=q;obtain⟨k,o,rfl,rfl⟩:=gY e;exact(in_of g I f j l rx ry (show Ev.isin a b i=some k by cases a<;>cases b<;>exact o)).1 _ _ (nF I f q)
def Ds(g:Good G n sc N df X):cH X (compareOp .NotIn) (eT X.K (cT .eE)):=by
 intro c s σ H x y v u Q I rx ry q;obtain⟨r,h,a,b,d,j,f,l,o,e,q⟩:=q;obtain⟨k,p,rfl,rfl⟩:=gY e;have i:(Ev.isin a b j).map (!·)=some k:=by cases a<;>cases b<;>exact p
 simp only[wj]at i;obtain⟨A,z,rfl⟩:=i;exact(in_of g I f l o rx ry z).2 _ _ (nF I f q)
def qY(a b:List Nat):au a++au b=au (a++b):=by
 show Str.append (au a) (au b)=_;simp[Str.append,au]
def G0{pins:List (Addr×Obj)}{σ:L2.St}{H:Hp}{s:Shared}{Q:Value->Shared->Prop}{E:Value->Shared->Prop}(I:Inv X pins σ H s){a b:Addr}{ys:List V}(h1:dm X.K H a [])(h2:dm X.K H b ys)(q:Q (.ref b) s):wpAny (model X.prog X.w) X.A (binaryOp .Add (.ref a) (.ref b)) Q E s:=by
 obtain⟨y,o,UA,_⟩:=I.tuple h1;obtain⟨z,B,UB,_⟩:=I.tuple h2;cases o;obtain⟨⟨p,r,i,x⟩,j,k,n,l⟩:=id UA;obtain⟨⟨Sv,f,g,h⟩,c,d,n2,e⟩:=id UB;simp only at k l d e;subst k l d e;exact concat_meets ⟨_,j,rfl⟩ ⟨_,c,rfl⟩ ZZ seq_tuple_add Zj Zd (Y8 _ _)
  (tuple_addW0 a b _ _ n n2 r f x h (by simp)) ⟨j,c,q⟩
def KO:cH X (binaryOp .Add) (eT X.K (Ev.bX .add)):=by
 intro c s σ H x y v u Q I rx ry q;obtain⟨r,h,a,b,d,h',g,Z,v2,e,q⟩:=q;have s1:=Z.shape;have s2:=v2.shape;cases a with
 |int i=>cases b with
  |int j=>cases e;exact Jw c s σ H x y v u Q I rx ry ⟨i,j,s1,s2,q.here rfl g⟩
  |_=>cases e
 |str i=>cases b with
  |str j=>
   delta Ev.bX at e;dsimp only at e
   split at e
   .rename_i f;cases e;rw[jN]at f;refine za c s σ H x y v u Q I rx ry ⟨au i,au j,s1,s2,by rw[bh,bh];exact f,?_⟩;rw[qY];exact q.here ⟨rfl,by rw[T7];exact f⟩ g
   .cases e
  |_=>cases e
 |tup i=>cases b with
  |tup j=>
   delta Ev.bX at e;dsimp only at e
   split at e
   .rename_i f;cases e;rw[jN]at f;obtain⟨A,k,rfl,l,C⟩:=s1;obtain⟨o,B,rfl,z,F⟩:=s2;have J:=C.length;have L:=F.length;cases k with
    |nil=>
     cases rx;cases ry;refine G0 I l z ⟨.ref o,H,I,rfl,q.here ?_ g⟩;have:i=[]:=by cases i with|nil=>rfl|cons _ _=>simp at J
     subst this;exact⟨o,B,rfl,z,by simpa using F⟩
    |cons M k=>
     refine GD c s σ H _ _ v u Q I rx ry ⟨A,o,M :: k,B,rfl,rfl,l,z,by simp,by rw[J,L];exact f,λP=>?_,λP p hp=>?_⟩
     .subst P;have:j=[]:=by cases j with|nil=>rfl|cons _ _=>simp at L
      subst this;exact q.here ⟨A,M :: k,rfl,l,by simpa using C⟩ g
     .exact q.tup (C.append F) g hp
   .cases e
  |_=>cases e
 |ref i=>cases b with
  |ref j=>
   delta Ev.bX at e;dsimp only at e
   split at e
   .rename_i ds es e1 e2;obtain⟨A,rfl,l⟩:=s1;obtain⟨o,rfl,z⟩:=s2;cases rx;cases ry;obtain⟨p1,W,k,g2,g3⟩:=g.ob _ _ e1;obtain⟨p2,Y,B,k2,k3⟩:=g.ob _ _ e2;rw[l]at W;cases W;rw[z]at Y;cases Y;obtain⟨f,q2⟩:=q.lst e (g3.append k3) g;exact JV c s σ H (.ref A) (.ref o) _ _ Q I rfl rfl ⟨_,_,k,B,rfl,rfl,g2,k2,by rw[T7]at f;exact f,q2⟩
   .cases e
  |_=>cases e
 |_=>cases b<;>cases e
def KP:cH X (binaryOp .Sub) (eT X.K (Ev.bX .sub)):=by
 intro c s σ H x y v u Q I rx ry q;obtain⟨r,h,a,b,d,l,f,g,k,e,q⟩:=q;cases a with
 |int i=>cases b with
  |int j=>cases e;exact Jx c s σ H x y v u Q I rx ry ⟨i,j,g,k,q.here rfl f⟩
  |_=>cases e
 |_=>cases b<;>cases e
def G1:cH X (binaryOp .FloorDiv) (eT X.K (Ev.bX .fdiv)):=by
 intro c s σ H x y v u Q I rx ry q;obtain⟨r,h,a,b,d,o,f,g,k,e,q⟩:=q;cases a with
 |int i=>cases b with
  |int j=>
   delta Ev.bX at e;dsimp only at e
   split at e
   .rename_i l;cases e;exact Gu c s σ H x y v u Q I rx ry ⟨i,j,g,k,l,q.here rfl f⟩
   .cases e
  |_=>cases e
 |_=>cases b<;>cases e
def KQ:cH X (binaryOp .Mod) (eT X.K (Ev.bX .mod)):=by
 intro c s σ H x y v u Q I rx ry q;obtain⟨r,h,a,b,d,o,f,g,k,e,q⟩:=q;cases a with
 |int i=>cases b with
  |int j=>
   delta Ev.bX at e;dsimp only at e
   split at e
   .rename_i l;cases e;exact Jz c s σ H x y v u Q I rx ry ⟨i,j,g,k,l,q.here rfl f⟩
   .cases e
  |_=>cases e
 |_=>cases b<;>cases e
end
section
variable{X:Cx}
def KR(n:Nat)(i:Int):Ev.dR n i=L2.dR n i:=rfl
def KS{α:Type}(xs:List α)(i:Int):Ev.bL xs i=L2.bL xs i:=rfl
theorem aD.bL{K:PySem.W.Frag}{H:Hp}{r:List Addr}{ds:List D}{vs:List V}{i:Int}{d:D}(w:aD K H r ds vs)(e:Ev.bL ds i=some d):∃v,L2.bL vs i=some v/\RV K H r d v:=by
 unfold Ev.bL at e;obtain⟨j,a,b⟩:=Option.bind_eq_some_iff.mp e;obtain⟨v,c,f⟩:=w.get b;exact⟨v,by unfold L2.bL;rw[w.length,<-KR,a];exact c,f⟩
def Py:xw X (eT X.K Kf):=by
 intro f g j s σ H x y v u Q I rx ry q hs;obtain⟨r,h,a,b,d,W,k,o,L,e,q⟩:=q;obtain⟨e,rfl⟩:=Ev.aE e;cases b with
 |int i=>
  have s2:=L.shape;cases a with
  |tup ds=>
   obtain⟨p,A,rfl,z,w⟩:=o.shape;obtain⟨B,C,F⟩:=w.bL e;exact JN f g j s σ H _ y v u Q I rx ry ⟨p,A,i,B,rfl,s2,z,C,q.here F k⟩ hs
  |str l=>
   simp only[RV]at o;obtain⟨rfl,M⟩:=o;simp only[Ev.fN,wj]at e;obtain⟨c,G,rfl⟩:=e;exact JP f g j s σ H _ y v u Q I rx ry ⟨au l,i,c,rfl,s2,by rw[bh];exact M,by simpa[au,KS]using G,q.here ⟨rfl,by show 1<=sizeLine;decide⟩ k⟩ hs
  |ref m=>
   simp only[Ev.fN,Qj]at e;obtain⟨ds,G,N⟩:=e;obtain⟨p,rfl,z⟩:=o.shape;obtain⟨Y,A,J,P,w⟩:=k.read G;rw[z]at J;cases J;obtain⟨B,C,F⟩:=w.bL N;exact GG f g j s σ H _ y v u Q I rx ry ⟨p,A,i,B,rfl,s2,P,C,q.here F k⟩ hs
  |_=>cases e
 |_=>cases a<;>cases e
theorem aD.cut{K:PySem.W.Frag}{H:Hp}{r:List Addr}{ds:List D}{vs:List V}(w:aD K H r ds vs)(lo hi:Option Int):aD K H r (Ev.cut ds lo hi) (mC vs lo hi):=by
 unfold Ev.cut mC;rw[w.length];exact(w.drop _).take _
def sF{α:Type}(xs:List α)(lo hi:Option Int)(h:Ev.aR xs.length 0 lo=0/\Ev.aR xs.length xs.length hi=xs.length):Ev.cut xs lo hi=xs:=by
 unfold Ev.cut;rw[h.1,h.2];simp
def G2{α:Type}(xs:List α)(lo hi:Option Int):(Ev.cut xs lo hi).length<=xs.length:=by
 unfold Ev.cut;rw[YV,YG];omega
def tE{prog:Program}{w:World}{A:Around}{E:Value->Shared->Prop}{s:Shared}{t sl:Addr}{items:Array Value}{vl vu:Value}{lo hi:Option Int}{Q:Value->Shared->Prop}(ht:IsTup s.heap t items)(hs:s.heap.IsSliceOf sl vl vu .none)(pl:IsPart vl lo)(pu:IsPart vu hi)
  (hw:HT.aR items.size 0 lo=0/\HT.aR items.size items.size hi=items.size) (h:Q (.ref t) s):wpAny (model prog w) A (getItem (.ref t) (.ref sl)) Q E s:=by
 obtain⟨d,b,c,e⟩:=id hs;have JL:s.TypeIs (.ref sl) "slice" :=⟨d,b,c⟩
 unfold getItem;try with_reducible refine wpAny_holding ?_
 first|refine gV (Vg ?_)|skip
 refine gV (wpAny_sequenceKey ht.typeIs (by decide) ?_);refine gV (YJ (name:=Str.ofString "__getitem__") ht.typeIs Ym
  (YF Ym ht.typeIs entry_tuple_getitem ?_ (args_tuple_getitem _ _)))
 show wpAny _ _ (Builtin.Tuple.tupleItemsOf (.ref t) >>= _) _ _ s;refine gV (tupleItemsOf_ ht ?_);refine gV (ZU JL ?_);rw[IC (by decide)];refine gV (HT.jL hs pl pu ?_);have a:(((HT.aR items.size 0 lo:Nat):Int)==0&&(1:Int)==1&&(HT.aR items.size items.size hi - HT.aR items.size 0 lo)==items.size)=true:=by
  rw[hw.1,hw.2];simp
 show wpAny _ _ (if (((HT.aR items.size 0 lo:Nat):Int)==0&&(1:Int)==1&&(HT.aR items.size items.size hi - HT.aR items.size 0 lo)==items.size)=true then _ else _) _ _ s;rw[IC a];refine gV (m:=Builtin.Tuple.tupleIsExact (.ref t)) (gV (ZU ht.typeIs (Vg ?_)));show wpAny _ _ (if ((Value.type "tuple" ==Value.type "tuple")=true)then _ else _) _ _ s;rw[IC (by decide)];exact gV (aae (gV (Vg (Vg ⟨_,rfl,Vg h⟩))))
def Bo(lo hi:Option Int)(n:Nat):Builtin.Str.strSliceIndices lo hi 1 n=(List.range (Ev.aR n n hi - Ev.aR n 0 lo)).map (λk=>Ev.aR n 0 lo+k):=by
 have KU:∀o:Option Int,((match o with|none=>(0:Int)|some i=>max 0 (min (if i<0 then i+(n:Int)else i) (n:Int))))=((Ev.aR n 0 o:Nat):Int):=λo=>by
  cases o with
  |none=>rfl
  |some i=>simp only[Ev.aR];split<;>omega
 have KW:∀o:Option Int,((match o with|none=>(n:Int)|some i=>max 0 (min (if i<0 then i+(n:Int)else i) (n:Int))))=((Ev.aR n n o:Nat):Int):=λo=>by
  cases o with
  |none=>rfl
  |some i=>simp only[Ev.aR];split<;>omega
 have e:Builtin.Str.strSliceIndices lo hi 1 n=sliceRange (match lo with|none=>(0:Int)|some i=>max 0 (min (if i<0 then i+(n:Int)else i) (n:Int))) (match hi with|none=>(n:Int)|some i=>max 0 (min (if i<0 then i+(n:Int)else i) (n:Int))) 1:=by
  unfold Builtin.Str.strSliceIndices;cases lo<;>cases hi<;>simp
 rw[e,KU,KW,sliceRange_one]
def KY(l:List Nat)(lo hi:Option Int):((Builtin.Str.strSliceIndices lo hi 1 (au l).length).filterMap ((au l).cps[·]?)).toArray=(Ev.cut l lo hi).toArray:=by
 rw[bh,Bo,pick_run];simp[au,Ev.cut]
def KZ:kF X (J1 X.K):=by
 intro b s σ H x v vl vu lo hi sl Q I rx hs pl pu q;obtain⟨r,h,a,d,h',y,C,e,q⟩:=q;cases a with
 |tup ds=>
  cases e;obtain⟨p,c,rfl,z,w⟩:=C.shape;by_cases G:HT.aR c.length 0 lo=0/\HT.aR c.length c.length hi=c.length
  .cases rx;obtain⟨us,pv,pt,hz⟩:=I.tuple z;have Y:=pv.length;have UC:Ev.aR ds.length 0 lo=0/\Ev.aR ds.length ds.length hi=ds.length:=by rw[<-w.length];exact G
   refine⟨"tuple",_,PyProof.Rows.slot_tuple_getitem.lookup,pt.typeIs,?_⟩;refine tE pt hs pl pu (by rw[Q4,<-Y];exact G) ⟨.ref p,H,I,rfl,q.here ?_ y⟩;rw[sF ds lo hi UC];exact⟨p,c,rfl,z,w⟩
  .exact JM b s σ H _ v vl vu lo hi sl Q I rx hs pl pu ⟨p,c,rfl,z,G,λp' J=>q.tup (w.cut lo hi) y J⟩
 |str l=>
  simp only[RV]at C;obtain⟨rfl,Y⟩:=C;obtain⟨t,rfl⟩:=rx;cases e;refine⟨"str",_,PySem.F.slot_str_getitem.lookup,Za s _ t,?_⟩;have f:∀{v:Value} {o:Option Int},IsPart v o->∃p:Option (Int×Tok),v=partValue p/\p.map (·.1)=o:=λ{v o} J=>by
   cases J with
   |none=>exact⟨none,rfl,rfl⟩
   |int i t=>exact⟨some (i,t),rfl,rfl⟩
  obtain⟨g,L,Z⟩:=f pl;obtain⟨j,e3,e4⟩:=f pu;subst L e3;obtain⟨os,M,N,P⟩:=hs;refine wpAny_getItem_str_slice (l:=g) (u:=j) (st:=none) ⟨os,M,N,P⟩ rfl ?_;have Fc:((slicePicked (au l) g j none).filterMap ((au l).cps[·]?)).toArray=(Ev.cut l lo hi).toArray:=by
   show((Builtin.Str.strSliceIndices (g.map (·.1)) (j.map (·.1)) 1 (au l).length).filterMap ((au l).cps[·]?)).toArray=_;rw[Z,e4];exact KY l lo hi
  have hcl:=G2 l lo hi;unfold sliceMade;refine post_val_or_made (λ_=>?_) λt' k=>?_
  .rw[Fc];show(Ev.cut l lo hi).toArray.size<=sizeLine;simp only[Q4];omega
  .have A:(if (((none:Option (Int×Tok)).map (·.1)).getD 1==1&&(slicePicked (au l) g j none).length==(au l).length)=true then au l else (⟨((slicePicked (au l) g j none).filterMap ((au l).cps[·]?)).toArray⟩:Str))=au (Ev.cut l lo hi):=by
    split
    .rename_i hc;rw[OS]at hc;have B:(slicePicked (au l) g j none).length=(au l).length:=eq_of_beq hc.2;have W:(slicePicked (au l) g j none).length=Ev.aR l.length l.length hi - Ev.aR l.length 0 lo:=by
      show(Builtin.Str.strSliceIndices (g.map (·.1)) (j.map (·.1)) 1 (au l).length).length=_;rw[Z,e4,Bo,bh];simp
     rw[bh]at B;have hb:Ev.aR l.length l.length hi<=l.length:=HT.uu _ _ (VG _) hi;have ha:Ev.aR l.length 0 lo<=l.length:=HT.uu _ _ (YE _) lo;rw[sF l lo hi ⟨by omega,by omega⟩]
    .rw[Fc];rfl
   rw[A];exact⟨.str (au (Ev.cut l lo hi)),H,I.tok _,⟨_,rfl⟩,q.here ⟨rfl,by omega⟩ y⟩
 |ref m=>
  simp only[Ev.fB]at e;split at e
  .rename_i ds L;obtain⟨p,rfl,z⟩:=C.shape;obtain⟨p',c,z',q1,w⟩:=y.read L;rw[z]at z';cases z';obtain⟨hz,q2⟩:=q.lst e (w.cut lo hi) y;exact GH b s σ H _ v vl vu lo hi sl Q I rx hs pl pu ⟨p,c,rfl,q1,q2⟩
  .cases e
 |_=>cases e
theorem uQ:∀(k:Nat) (l:List Nat) (acc:List Nat),(List.replicate k l.toArray).foldl (·++·) acc.toArray=(acc++Ev.rep k l).toArray
 |0,l,acc=>by simp[Ev.rep]
 |k+1,l,acc=>by
  rw[VR,XI];have:acc.toArray++l.toArray=(acc++l).toArray:=by simp
  rw[this,uQ k l (acc++l)];simp[Ev.rep,VR]
def nG{α:Type}(k:Nat)(l:List α):(Ev.rep k l).length=k*l.length:=by
 unfold Ev.rep;exact len_rep l k
def G3{l:List Nat}{k:Int}(h:0<=k):Txt.mul (au l) k=au (Ev.rep k.toNat l):=by
 unfold Txt.mul;by_cases b:k<1
 .have:k=0:=by omega
  subst this;rw[IC (by decide)];rfl
 .rw[T8 b];split
  .rename_i a;rw[Yo]at a;rcases a with a|a
   .have:k=1:=by simpa using a
    subst this;simp[Ev.rep]
   .rw[bh]at a;have:l=[]:=by cases l with|nil=>rfl|cons _ _=>simp at a
    subst this;simp[Ev.rep,au]
  .show(⟨(List.replicate k.toNat (au l).cps).foldl (·++·) #[]⟩:Str)=_;have:=uQ k.toNat l [];simp only[Yz]at this;exact Xp Str.mk this
def jX{a b:Nat}(h1:a<=1000)(h2:b<=1000):a*b<=sizeLine:=Xm (Nat.mul_le_mul h1 h2) (by decide)
def G4{pins:List (Addr×Obj)}{σ:L2.St}{H:Hp}{s:Shared}{Q:VK}(I:Inv X pins σ H s){l:List Nat}{k:Int}{t u:Tok}(hk:0<=k/\k<=1000/\l.length<=1000)(q:Q (.str (au (Ev.rep k.toNat l))) H) :
  wpAny (model X.prog X.w) X.A (binaryOp .Mult (.str (au l) t) (.int k u)) (EP X pins σ Q) X.xe s:=by
 have a:MulOk (au l) k:=mulOk_of 1000 1000 (by rw[bh];exact hk.2.2) (by exact hk.2.1) (by omega) (by decide) (by decide);refine SB.mul a λb c=>?_;rw[G3 hk.1];exact⟨.str _,H,I.tok _,⟨_,rfl⟩,q⟩
def pq:fillsNumberSlot (.type "tuple") "mul" = pure false:=
 PySem.fillsNumberSlot_seq (id:="tuple.__mul__") (r:=some (.builtin "tuple.__rmul__")) PySem.F.slot_tuple_mul.lookup (by decide +kernel) PySem.F.slot_tuple_rmul.lookup (by decide +kernel)
def uR:seqRepeat? (.type "tuple")=pure (some (.builtin "tuple.__mul__")):=by
 unfold seqRepeat?;rw[PySem.seqSlot_of (T:="tuple") (name:="__mul__") (id:="tuple.__mul__") PySem.F.slot_tuple_mul.lookup (by decide +kernel),PySem.seqSlot_of (T:="tuple") (name:="__rmul__") (id:="tuple.__rmul__") PySem.F.slot_tuple_rmul.lookup (by decide +kernel)];rfl
def zx(a:Int)(t:Tok)(l:Addr)(items:Array Value)(n:Nat)(dd:Option Addr)(sl:Array (Option Value)) :
  Meets (Builtin.«int.__rmul__» ⟨[.int a t,.ref l],[]⟩) (λ_ R s=>s.heap.get? l=some { cls:=.type "tuple",dict:=dd,data:=.seq items n,slots:=sl }/\R (.ok (.ret Value.notImplemented)) s):=
 .of_wp λprog w A R s h=>by obtain⟨b,g,d,tk,c⟩:=s;obtain⟨e,h⟩:=h;wp_walk;exact⟨_,rfl,h⟩
def zy(l:Addr)(items:Array Value)(n:Nat)(dd:Option Addr)(sl:Array (Option Value))(k:Int)(u:Tok)(h1:¬ (decide (k < -2 ^ 63) ||decide (k≥2 ^ 63))=true)(h3:(items.isEmpty ||k==1)=true) :
  Meets (Builtin.«tuple.__mul__» ⟨[.ref l,.int k u],[]⟩) (λ_ R s=>s.heap.get? l=some { cls:=.type "tuple",dict:=dd,data:=.seq items n,slots:=sl }/\R (.ok (.ret (.ref l))) s):=
 .of_wp λprog w A R s h=>by obtain⟨b,g,d,tk,c⟩:=s;obtain⟨a,h⟩:=h;have f1:=Z2;wp_walk using XY a;rw[T8 h1];wp_walk using XY a;exact⟨_,rfl,h⟩
def zz(l:Addr)(items:Array Value)(n:Nat)(dd:Option Addr)(sl:Array (Option Value))(k:Int)(u:Tok)(h1:¬ (decide (k < -2 ^ 63) ||decide (k≥2 ^ 63))=true)(h3:¬ (items.isEmpty ||k==1)=true)(h4:(decide (k<=0) ||items.isEmpty)=true) :
  Meets (Builtin.«tuple.__mul__» ⟨[.ref l,.int k u],[]⟩) (λ_ R s=>s.heap.get? l=some { cls:=.type "tuple",dict:=dd,data:=.seq items n,slots:=sl }/\R (.ok (.ret (Value.ref s.heap.objs.size))) { s with heap:=s.heap.push { cls:=Value.type "tuple",data:=Data.seq #[]},toks:=s.toks }):=
 .of_wp λprog w A R s h=>by obtain⟨b,g,d,tk,c⟩:=s;obtain⟨a,h⟩:=h;have f1:=Z2;wp_walk using XY a;rw[T8 h1];wp_walk using XY a;exact⟨_,rfl,h⟩
def zA(l:Addr)(items:Array Value)(n:Nat)(dd:Option Addr)(sl:Array (Option Value))(k:Int)(u:Tok)(h1:¬ (decide (k < -2 ^ 63) ||decide (k≥2 ^ 63))=true)(h3:¬ (items.isEmpty ||k==1)=true)(h4:¬ (decide (k<=0) ||items.isEmpty)=true)
  (h5:¬ (items.size*k > (2 ^ 63 - 1) / 8)) (h6:¬ Builtin.Tuple.tupleTooMany (items.size*k)=true) (hsz:(List.foldl (λx1 x2=>x1++x2) #[] (List.replicate k.toNat items)).size<=sizeLine) :
  Meets (Builtin.«tuple.__mul__» ⟨[.ref l,.int k u],[]⟩) (λ_ R s=>s.heap.get? l=some { cls:=.type "tuple",dict:=dd,data:=.seq items n,slots:=sl }/\R (.ok (.ret (Value.ref s.heap.objs.size))) { s with heap:=s.heap.push { cls:=Value.type "tuple",data:=Data.seq (List.foldl (λx1 x2=>x1++x2) #[] (List.replicate k.toNat items))},toks:=s.toks }):=
 .of_wp λprog w A R s h=>by obtain⟨b,g,d,tk,c⟩:=s;obtain⟨a,h⟩:=h;have f1:=Z2;wp_walk using XY a;rw[T8 h1];wp_walk using XY a;rw[T8 h5];wp_walk using XY a;exact⟨_,rfl,h⟩
theorem sG:∀(k:Nat) (l acc:List Value),(List.replicate k l.toArray).foldl (·++·) acc.toArray=(acc++Ev.rep k l).toArray
 |0,l,acc=>by simp[Ev.rep]
 |k+1,l,acc=>by
  rw[VR,XI];have:acc.toArray++l.toArray=(acc++l).toArray:=by simp
  rw[this,sG k l (acc++l)];simp[Ev.rep,VR]
def G5{pins:List (Addr×Obj)}{σ:L2.St}{H:Hp}{s:Shared}{Q:VK}(I:Inv X pins σ H s){p:Addr}{vs:List V}{k:Int}{u:Tok}(hk:0<=k/\k<=1000/\vs.length<=1000)(hp:dm X.K H p vs)
  (q1:Ev.rep k.toNat vs=vs->Q (.ref p) H) (q2:∀p',H p'=none->Q (.ref p') (upd H p' (.tup (Ev.rep k.toNat vs)))) :
  wpAny (model X.prog X.w) X.A (binaryOp .Mult (.ref p) (.int k u)) (EP X pins σ Q) X.xe s:=by
 obtain⟨a,pv,pt,L⟩:=I.tuple hp;obtain⟨⟨cls,g,data,h⟩,d,l,n,r⟩:=id pt;simp only at l r;subst l r;have M:=pv.length;have i:¬ (decide (k < -2 ^ 63) ||decide (k≥2 ^ 63))=true:=by simp;omega
 refine ZQ (T:="tuple") (U:="int") (by decide) ⟨_,d,rfl⟩ (λB=>ZP B k u) pq PySem.F.fills_int_mul aac uR PySem.F.slot_int_index.lookup
  (Yn aac (ZP s k u) PySem.F.entry_int_rmul (PySem.F.args_int_rmul_2 _ _) (zx k u p a.toArray n g h) ⟨d,rfl,⟨_,d,rfl⟩,?_⟩)
 have x:∀m:Nat,(Ev.rep m a).length=m*a.length:=λm=>nG m a;by_cases c:(a.toArray.isEmpty ||k==1)=true
 .refine Yn Zi ⟨_,d,rfl⟩ Zc (Y7 _ _) (zy p a.toArray n g h k u i c) ⟨d,?_⟩;refine⟨.ref p,H,I,rfl,q1 ?_⟩;rw[Yo]at c;rcases c with c|c
  .have:a=[]:=by simpa using c
   subst this;cases pv;simp[Ev.rep]
  .have:k=1:=by simpa using c
   subst this;simp[Ev.rep]
 .have laid:∀m:Nat,m=k.toNat->EP X pins σ Q (.ref s.heap.objs.size) { s with heap:=s.heap.push { cls:=.type "tuple",data:=.seq (Ev.rep m a).toArray }}:=λm y=>by
   subst y;refine⟨.ref s.heap.objs.size,_,I.laid (t':=s.toks) (o:=.tup (Ev.rep k.toNat vs)) (λb N q=>Tw _ q) (VG _) ?_,rfl,q2 _ (I.hok.fresh (VG _))⟩;exact⟨by rw[nG];exact jX (by omega) hk.2.2,_,pv.rep k.toNat,IsTup.new _ _⟩
  by_cases f:(decide (k<=0) ||a.toArray.isEmpty)=true
  .refine Yn Zi ⟨_,d,rfl⟩ Zc (Y7 _ _) (zz p a.toArray n g h k u i c f) ⟨d,?_⟩;have j:k=0:=by
    rw[Yo]at f c;rcases f with f|f
    .have:k<=0:=XN f;omega
    .exact absurd (.inl f) c
   have:=laid 0 (by rw[j];rfl);exact this
  .have y:a.toArray.size*k.toNat<=1000000:=by
    rw[Q4];exact Nat.mul_le_mul (by omega:a.length<=1000) (by omega:k.toNat<=1000)
   have C:(a.toArray.size:Int)*k<=1000000:=by
    have e:(a.toArray.size:Int)*k=((a.toArray.size*k.toNat:Nat):Int):=by
     rw[Int.natCast_mul,Int.toNat_of_nonneg hk.1]
    rw[e];omega
   have z:List.foldl (λG J=>G++J) #[] (List.replicate k.toNat a.toArray)=(Ev.rep k.toNat a).toArray:=by
    have:=sG k.toNat a [];simpa using this
   refine Yn Zi ⟨_,d,rfl⟩ Zc (Y7 _ _) (zA p a.toArray n g h k u i c f (by omega) ?_ ?_) ⟨d,?_⟩
   .unfold Builtin.Tuple.tupleTooMany;simp only[XF];have:(sizeLine:Int)=16777216:=by rw[YD];rfl
    omega
   .rw[z];simp only[Q4];rw[nG];exact jX (by omega) (by omega)
   .rw[z];exact laid _ rfl
def K0:cH X (binaryOp .Mult) (eT X.K (Ev.bX .mul)):=by
 intro f s σ H x y v u Q I rx ry q;obtain⟨r,h,a,b,d,W,g,j,C,e,q⟩:=q;cases b with
 |int k=>
  have s2:=C.shape;simp only[cD]at s2;subst s2;cases a with
  |int i=>
   delta Ev.bX at e;dsimp only at e
   split at e
   .rename_i c;cases e;refine Jy f s σ H x _ v u Q I rx ry ⟨i,k,j,rfl,?_,q.here rfl g⟩;unfold Ev.cB at c;simp only[Yo,OS,XF]at c;exact c
   .cases e
  |str l=>
   delta Ev.bX at e;dsimp only at e
   split at e
   .rename_i c;cases e;simp only[RV]at j;obtain⟨rfl,Y⟩:=j;obtain⟨t,rfl⟩:=rx;obtain⟨F,rfl⟩:=ry;exact G4 I c (q.here ⟨rfl,by rw[nG];exact jX (by omega) c.2.2⟩ g)
   .cases e
  |tup ds=>
   delta Ev.bX at e;dsimp only at e
   split at e
   .rename_i c;cases e;obtain⟨p,o,rfl,z,w⟩:=j.shape;cases rx;obtain⟨F,rfl⟩:=ry;refine G5 I ⟨c.1,c.2.1,by rw[w.length];exact c.2.2⟩ z (λUD=>q.here ⟨p,o,rfl,z,?_⟩ g) λG J=>q.tup (w.rep k.toNat) g J;have:=w.rep k.toNat;rw[UD]at this;exact this
   .cases e
  |ref i=>
   delta Ev.bX at e;dsimp only at e
   split at e
   .rename_i ds L;split at e
    .rename_i c;obtain⟨p,rfl,z⟩:=j.shape;obtain⟨G,A,o,M,B⟩:=g.ob _ _ L;rw[z]at A;cases A;obtain⟨N,P⟩:=q.lst e (B.rep k.toNat) g;exact JX f s σ H (.ref p) _ v u Q I rx ry ⟨p,k,o,rfl,rfl,M,by omega,by omega,jX (by rw[B.length];exact c.2.2) (by omega),P⟩
    .cases e
   .cases e
  |_=>cases e
 |_=>cases a<;>cases e
end
section
variable{X:Cx}
theorem uS{K:PySem.W.Frag}{H:Hp}{r:List Addr}:∀{ds:List D}{bs:List Bool}{vs:List V}{us:List Value},Ev.boolsOf ds=some bs->aD K H r ds vs->Vals vs us->us=bs.map Value.bool
 |[],bs,vs,us,e,w,p=>by
  cases e;simp only[aD]at w;subst w;cases p;rfl
 |d :: ds,bs,vs,us,e,w,p=>by
  cases d with
  |bl b=>
   simp only[Ev.boolsOf,wj]at e;obtain⟨a,c,rfl⟩:=e;simp only[aD,RV]at w;obtain⟨v,i,rfl,rfl,f⟩:=w;cases p with
   |cons g h=>
    cases g;rw[uS c f h];rfl
  |_=>cases e
theorem xQ{K:PySem.W.Frag}{H:Hp}{r:List Addr}:∀{ds:List D}{is:List Int}{vs:List V}{us:List Value},Ev.intsOf ds=some is->aD K H r ds vs->Vals vs us->IntsAre us is
 |[],bs,vs,us,e,w,p=>by
  cases e;simp only[aD]at w;subst w;cases p;exact .nil
 |d :: ds,bs,vs,us,e,w,p=>by
  cases d with
  |int b=>
   simp only[Ev.intsOf,wj]at e;obtain⟨a,c,rfl⟩:=e;simp only[aD,RV]at w;obtain⟨v,i,rfl,rfl,f⟩:=w;cases p with
   |cons g h=>
    obtain⟨t,rfl⟩:=g;exact .cons _ _ (xQ c f h)
  |_=>cases e
theorem qZ{K:PySem.W.Frag}{H:Hp}{r:List Addr}:∀{ds:List D}{ss:List (List Nat)}{vs:List V}{us:List Value},Ev.strsOf ds=some ss->aD K H r ds vs->Vals vs us->StrsAre us (ss.map au)/\∀l∈ss,l.length<=sizeLine
 |[],bs,vs,us,e,w,p=>by
  cases e;simp only[aD]at w;subst w;cases p;exact⟨.nil,λl h=>nomatch h⟩
 |d :: ds,bs,vs,us,e,w,p=>by
  cases d with
  |str b=>
   simp only[Ev.strsOf,wj]at e;obtain⟨a,c,rfl⟩:=e;simp only[aD,RV]at w;obtain⟨v,x,rfl,⟨rfl,f⟩,g⟩:=w;cases p with
   |cons i j=>
    obtain⟨t,rfl⟩:=i;obtain⟨k,o⟩:=qZ c g j;refine⟨.cons _ _ k,λl q=>?_⟩;rcases List.mem_cons.mp q with z|z
    .subst z;exact f
    .exact o l z
  |_=>cases e
def sH{A:Around}{pins:List (Addr×Obj)}{σ:L2.St}{H:Hp}{s:Shared}(I:Inv X pins σ H s){p:Addr}{us:List Value}(pl:PlainL s.heap p us.toArray){Q:Value->Shared->Prop}{E:Value->Shared->Prop}
  (h:∀s₂:Shared,s₂={ s with heap:=s.heap.push { cls:=.type "list_iterator",data:=.fields #[.ref p,.int 0 0]}}->(s₂.heap.IsListIter s.heap.objs.size p 0/\s₂.heap.IsList p us.toArray)->p≠s.heap.objs.size->(∀b∈[s.heap.objs.size,p],b<s₂.heap.objs.size)->Q (.ref s.heap.objs.size) s₂) :
  wpAny (model X.prog X.w) A (pyIter (.ref p)) Q E s:=by
 have a:p<s.heap.objs.size:=by obtain⟨_,e,_⟩:=pl.isList;exact VS e
 refine wpAny_pyIter_list pl.isList (h _ rfl ⟨⟨_,Xv _ rfl,rfl,rfl⟩,pl.isList.push _⟩ (XJ a) λb c=>?_);show b<(s.heap.push _).objs.size;rw[Heap.size_push];rcases List.mem_cons.mp c with z|z
 .rw[z];exact YU _
 .rw[List.mem_singleton.mp z];exact Nat.lt_succ_of_lt a
def all_range{bs:List Bool}:(List.range bs.length).all (λi=>bs[i]?.getD true)=bs.all id:=by
 rw[Zu,Yt,Yt];constructor
 .intro h b d;obtain⟨i,a,rfl⟩:=Zx d;simpa[a]using h i (List.mem_range.mpr a)
 .intro h i a;have c:=List.mem_range.mp a;simpa[c]using h bs[i] (by simp)
def any_range{bs:List Bool}:(List.range bs.length).any (λi=>bs[i]?.getD true)=bs.any id:=by
 rw[Zu,Zm,Zm];constructor
 .rintro⟨i,a,h⟩;have c:=List.mem_range.mp a;exact⟨bs[i],by simp,by simpa[c]using h⟩
 .rintro⟨b,hb,h⟩;obtain⟨i,a,rfl⟩:=Zx hb;exact⟨i,List.mem_range.mpr a,by simpa[a]using h⟩
def sI {s s₂:Shared}{I p:Addr}{h':Heap}(e:s₂.heap=s.heap.push { cls:=.type "list_iterator",data:=.fields #[.ref p,.int 0 0]}) (hI:I=s.heap.objs.size) (hk:∀b o,b∉[I]->s₂.heap.get? b=some o->h'.get? b=some o) :
  ∀b o,s.heap.get? b=some o->h'.get? b=some o:=λb o q=>hk b o (by simp;rw[hI];exact XJ (VS q)) (by rw[e];exact Tw _ q)
variable{G:Tb}{n:Nat}{sc:Scope}{N:List Str}{df:Bool}
def Dt(g:Good G n sc N df X){pins:List (Addr×Obj)}{σ:L2.St}{H:Hp}{s:Shared}(I:Inv X pins σ H s){p:Addr}{bs:List Bool}(pl:PlainL s.heap p (bs.map Value.bool).toArray){Q:VK} :
  (Q (.bl (bs.all id)) H->wpAny (model X.prog X.w) X.A (call (.builtin "all") [.ref p]) (EP X pins σ Q) X.xe s)/\(Q (.bl (bs.any id)) H->wpAny (model X.prog X.w) X.A (call (.builtin "any") [.ref p]) (EP X pins σ Q) X.xe s):=by
 have j:=I.ok.hd g.calm;have tr:TruthOf X.prog X.w X.A.in1 (λi v=>(bs.map Value.bool).toArray[i]?=some v) (λi=>bs[i]?.getD true):=λi v l Q' E' k o=>by
  simp only[aad,XO,wj]at k;obtain⟨b,r,rfl⟩:=k;have QL:Q' (bs[i]?.getD true) l:=o;rw[r]at QL;exact X0 QL
 have c:(bs.map Value.bool).toArray.size=bs.length:=by simp
 constructor
 .intro q;refine call_all_walk (sH I pl λx e d a f=>?_);subst e;refine⟨_,_,_,_,_,_,_,rfl,Walks.list (A:=X.A.in1) j _ p a (bs.map Value.bool).toArray,d,tr,λy tk h=>?_⟩;rw[c,all_range];exact⟨.bl _,H,I.kept (sI rfl rfl h),rfl,q⟩
 .intro q;refine call_any_walk (sH I pl λx e d a f=>?_);subst e;refine⟨_,_,_,_,_,_,_,rfl,Walks.list (A:=X.A.in1) j _ p a (bs.map Value.bool).toArray,d,tr,λy tk h=>?_⟩;rw[c,any_range];exact⟨.bl _,H,I.kept (sI rfl rfl h),rfl,q⟩
def K1 (g:Good G n sc N df X):dh X (.builtin "all") (kG X.K (Ev.b7 .all)):=by
 intro a s σ H xs us Q I r q;obtain⟨y,h,i,d,A,b,c,e,q⟩:=q
 match i,e with
 |[.ref m],e=>
  obtain⟨e,rfl⟩:=Ev.aE e;simp only[wj,Qj]at e;obtain⟨bs,⟨ds,j,k⟩,rfl⟩:=e;simp only[aD,RV]at c;obtain⟨v,w,rfl,⟨p,rfl,z⟩,rfl⟩:=c;obtain⟨u,rfl,l⟩:=Zo r;cases l;obtain⟨B,C,f,o,w⟩:=b.read j;rw[z]at f;cases f;obtain⟨F,pv,x,_⟩:=I.list o;have:=uS k w pv;subst this;exact(Dt g I x).1 (q.here rfl b)
def K2 (g:Good G n sc N df X):dh X (.builtin "sum") (kG X.K (Ev.b7 .sum)):=by
 intro j s σ H xs us Q I r q;obtain⟨Y,h,A,d,Z,k,l,e,q⟩:=q
 match A,e with
 |[.ref m],e=>
  obtain⟨e,rfl⟩:=Ev.aE e;simp only[wj,Qj]at e;obtain⟨c,⟨ds,B,C⟩,rfl⟩:=e;simp only[aD,RV]at l;obtain⟨v,w,rfl,⟨p,rfl,z⟩,rfl⟩:=l;obtain⟨u,rfl,F⟩:=Zo r;cases F;obtain⟨p',vs,o,J,w⟩:=k.read B;rw[z]at o;cases o;obtain⟨f,pv,L,_⟩:=I.list J;have x:=xQ C w pv;obtain⟨i,a⟩:=(x.allInts).items;have M:s.heap.IsList p (intItems i):=by rw[<-a];exact L.isList
  refine sum_intListG (I.ok.hd g.calm) M λP tk t' W=>?_;have b:preSum (numAt i) i.size=c.sum:=by
   have y:numsOf f.toArray.toList=c:=by rw[show f.toArray.toList=f from rfl];exact x.numsOf
   rw[a,nums_intItems]at y;rw[preSum_eq,XQ (by simp),y]
  rw[b];exact⟨.int c.sum,H,I.kept W,⟨_,rfl⟩,q.here rfl k⟩
def K3:dh X (.builtin "len") (kG X.K (Ev.b7 .len)):=by
 intro a s σ H xs us Q I r q;obtain⟨y,h,i,d,A,c,b,e,q⟩:=q
 match i,e with
 |[.str l],e=>
  delta Ev.b7 at e;dsimp only at e
  split at e
  .cases e;simp only[aD,RV]at b;obtain⟨v,w,rfl,⟨rfl,j⟩,rfl⟩:=b;refine uw a s σ H _ us Q I r ⟨_,rfl,by rw[bh];exact j,?_⟩;rw[bh];exact q.here rfl c
  .cases e
 |[.tup ds],e=>
  cases e;simp only[aD,RV]at b;obtain⟨v,w,rfl,⟨p,f,rfl,z,k⟩,rfl⟩:=b;refine mD a s σ H _ us Q I r ⟨p,f,rfl,.inr z,?_⟩;rw[k.length];exact q.here rfl c
 |[.ref m],e=>
  obtain⟨e,rfl⟩:=Ev.aE e;simp only[wj]at e;obtain⟨ds,o,rfl⟩:=e;simp only[aD,RV]at b;obtain⟨v,w,rfl,⟨p,rfl,z⟩,rfl⟩:=b;obtain⟨B,f,g,x,w⟩:=c.read o;rw[z]at g;cases g;refine mD a s σ H _ us Q I r ⟨p,f,rfl,.inl x,?_⟩;rw[w.length];exact q.here rfl c
def K4 (g:Good G n sc N df X):dh X (.builtin "min") (kG X.K (Ev.b7 .min)):=by
 intro a s σ H xs us Q I r q;obtain⟨k,h,c,d,l,f,b,e,q⟩:=q
 match c,e with
 |[.int i,.int j],e=>
  cases e;simp only[aD,RV]at b;obtain⟨v,w,rfl,rfl,o,p,rfl,rfl,rfl⟩:=b;exact AQ g.calm a s σ H _ us Q I r ⟨i,j,rfl,q.here rfl f⟩
def K5 (g:Good G n sc N df X):dh X (.builtin "max") (kG X.K (Ev.b7 .max)):=by
 intro a s σ H xs us Q I r q;obtain⟨k,h,c,d,l,f,b,e,q⟩:=q
 match c,e with
 |[.int i,.int j],e=>
  cases e;simp only[aD,RV]at b;obtain⟨v,w,rfl,rfl,o,p,rfl,rfl,rfl⟩:=b;exact AO g.calm a s σ H _ us Q I r ⟨i,j,rfl,q.here rfl f⟩
def Bq:oA X "list.append" (se X.K (Ev.dw .append)):=by
 intro c s σ H x xs v us Q I rx rs q;obtain⟨r,h,a,C,d,L,i,F,j,e,q⟩:=q;cases a with
 |ref m=>
  match C,e with
  |[b],e=>
   delta Ev.dw at e;dsimp only at e
   split at e
   .rename_i ds k;split at e
    .rename_i l;cases e;rw[jN]at l;obtain⟨p,rfl,z⟩:=F.shape;simp only[aD]at j;obtain⟨y,w,rfl,J,rfl⟩:=j;obtain⟨M,o,A,g,B⟩:=i.ob _ _ k;rw[z]at o;cases o;refine rZ c s σ H _ _ v us Q I rx rs ⟨p,A,y,rfl,rfl,g,by rw[B.length];exact l,?_⟩;have f:=Fm.write (K:=X.K) (ws:=A++[y]) g (Xx z);exact q _ _ r rfl (i.write k z g (B.append (.cons J .nil))) f
    .cases e
   .cases e
  |[],e=>cases e
  |_ :: _ :: _,e=>cases e
 |_=>cases e
def Br:oA X "list.extend" (se X.K (Ev.dw .extend)):=by
 intro b s σ H x xs v us Q I rx rs q;obtain⟨r,h,a,J,d,h',c,L,i,e,q⟩:=q;cases a with
 |ref m=>
  match J,e with
  |[.ref k],e=>
   delta Ev.dw at e;dsimp only at e
   split at e
   .rename_i ds es j M;split at e
    .rename_i l;cases e;rw[jN]at l;obtain⟨p,rfl,z⟩:=L.shape;simp only[aD,RV]at i;obtain⟨y,w,rfl,⟨P,rfl,W⟩,rfl⟩:=i;obtain⟨p',o,A,g,B⟩:=c.ob _ _ j;rw[z]at o;cases o;obtain⟨Y,C,ws,Z,F⟩:=c.ob _ _ M;rw[W]at C;cases C;refine AX b s σ H _ _ v us Q I rx rs ⟨p,P,A,ws,rfl,rfl,g,Z,by rw[B.length,F.length];exact l,?_⟩;have f:=Fm.write (K:=X.K) (ws:=A++ws) g (Xx z);exact q _ _ r rfl (c.write j z g (B.append F)) f
    .cases e
   .cases e
 |_=>cases e
def K6:oA X "list.pop" (se X.K (Ev.dw .pop)):=by
 intro b s σ H x xs v us Q I rx rs q;obtain⟨r,h,a,A,d,P,j,B,k,e,q⟩:=q;cases a with
 |ref m=>
  match A,e with
  |[],e=>
   delta Ev.dw at e;dsimp only at e
   split at e
   .rename_i ds l;split at e
    .rename_i y C;cases e;obtain⟨p,rfl,z⟩:=B.shape;simp only[aD]at k;subst k;obtain⟨W,o,g,i,c⟩:=j.ob _ _ l;rw[z]at o;cases o;obtain⟨F,J,L⟩:=c.get C;refine JU b s σ H _ _ v us Q I rx rs ⟨p,g,F,rfl,rfl,i,by rw[c.length];exact J,?_⟩;have f:=Fm.write (K:=X.K) (ws:=g.dropLast) i (Xx z);have M:aD X.K H r ds.dropLast g.dropLast:=by
      rw[YT,YT,c.length];exact c.take _
     exact q _ _ r (L.mono f) (j.write l z i M) f
    .cases e
   .cases e
  |_ :: _,e=>cases e
 |_=>cases e
theorem kX(sep:List Nat):∀ss:List (List Nat),Str.join (au sep) (ss.map au)=au (Ev.aY sep ss)
 |[]=>rfl
 |[s]=>rfl
 |s :: t :: r=>by
  have a:=kX sep (t :: r);show au s++au sep++Str.join (au sep) ((t :: r).map au)=_;rw[a,qY,qY];rfl
def join_eq(sep:List Nat)(ss:List (List Nat)):Txt.join (au sep) (ss.map au)=au (Ev.aY sep ss):=by
 rw[<-kX];exact PySem.StrLaws.glued_eq_join _ _
def G6:oA X "str.join" (se X.K (Ev.dw .join)):=by
 intro i s σ H x xs v us Q I rx rs q;obtain⟨r,h,a,A,d,Y,j,o,p,e,q⟩:=q;cases a with
 |str b=>
  match A,e with
  |[.ref k],e=>
   delta Ev.dw at e;dsimp only at e
   split at e
   .rename_i g f;split at e
    .rename_i B;cases e;simp only[Qj]at f;obtain⟨ds,f,C⟩:=f;simp only[RV]at o;obtain⟨rfl,Z⟩:=o;obtain⟨t,rfl⟩:=rx;simp only[aD,RV]at p;obtain⟨y,w,rfl,⟨p2,rfl,F⟩,rfl⟩:=p;obtain⟨u,rfl,J⟩:=Zo rs;cases J;obtain⟨p',vs,z,L,w⟩:=j.read f;rw[F]at z;cases z;obtain⟨zs,pv,M,_⟩:=I.list L;obtain⟨P,g2⟩:=qZ C w pv;have c:((g.map au).map (·.length)).sum+(g.map au).length*(au b).length<=16777216:=by
      rw[XH,XA,bh];have:(λx:Str=>x.length) ∘ au=λl:List Nat=>l.length:=funext λl=>bh l;rw[this];exact B
     refine join_list M.isList P c λt' k'=>?_;rw[join_eq];refine⟨.str _,H,I.tok _,⟨_,rfl⟩,q.here ⟨rfl,?_⟩ j⟩;have W:=PySem.StrLaws.join_length_le (au b) (g.map au);rw[kX,bh]at W;have:sizeLine=16777216:=YD;omega
    .cases e
   .cases e
 |_=>cases e
end
section
variable{X:Cx}{G:Tb}{n:Nat}{sc:Scope}{N:List Str}{df:Bool}{m:List Nat}{a b:E}{xa:Expr}{pos:Pos}
noncomputable def oK:TY->String
 |.int=>"int" |.bool=>"bool" |.str=>"str" |.tuple=>"tuple" |.list=>"list"
def S5 (K:PySem.W.Frag) (t:TY):PySem.W.kitOne K (.type "NoneType") (.type (oK t))=some false/\PySem.W.kitOne K (.type "bool") (.type (oK t))=some (Ev.cX [] (.bl true) t)/\PySem.W.kitOne K (.type "int") (.type (oK t))=some (Ev.cX [] (.int 0) t)/\
  PySem.W.kitOne K (.type "str") (.type (oK t))=some (Ev.cX [] (.str []) t)/\PySem.W.kitOne K (.type "tuple") (.type (oK t))=some (Ev.cX [] (.tup []) t)/\PySem.W.kitOne K (.type "list") (.type (oK t))=some (match t with|.list=>true|_=>false):=by
 cases t<;>refine⟨?_,?_,?_,?_,?_,?_⟩<;>kernel_rfl
def LD(h:Hh)(i:Nat):Prop:=(Ev.br h i).isSome=true
 \/False
def G7{pins:List (Addr×Obj)}{σ:L2.St}{H:Hp}{s:Shared}{r:List Addr}{h:Hh}(I:Inv X pins σ H s)(hr:HR X.K H r h){d:D}{x:V}{u:Value}(v1:RV X.K H r d x)(rx:RelV x u)(hd:∀i,d=.ref i->LD h i)(t:TY){Q:Value->Shared->Prop}{E:Value->Shared->Prop}(q:∀tk,Q (.bool (Ev.cX h d t)) { s with toks:=tk }) :
  wpAny (model X.prog X.w) X.A (call (.builtin "isinstance") [u,.type (oK t)]) Q E s:=by
 obtain⟨g,j,k,l,y,B⟩:=S5 X.K t;have s1:=v1.shape;cases d with
 |bG=>simp only[cD]at s1;subst s1;exact jV I rx .bG g (by simpa[Ev.cX]using q)
 |bl b=>simp only[cD]at s1;subst s1;exact jV I rx (.bl _) j (by cases t<;>simpa[Ev.cX]using q)
 |int b=>simp only[cD]at s1;subst s1;exact jV I rx (.int _) k (by cases t<;>simpa[Ev.cX]using q)
 |str b=>simp only[cD]at s1;subst s1;exact jV I rx (.str _) l (by cases t<;>simpa[Ev.cX]using q)
 |tup ds=>
  obtain⟨p,J,rfl,z,w⟩:=s1;cases rx;obtain⟨C,_,pt,_⟩:=I.tuple z;obtain⟨o,c,e,_⟩:=pt;exact XR aat I.fR ⟨o,c,e⟩ y (λz=>nomatch z) (by cases t<;>simpa[Ev.cX]using q)
 |ref i=>
  obtain⟨p,rfl,z⟩:=s1;cases rx;rcases hd i rfl with hd|hd
  case inr=>
   exact hd.elim
  obtain⟨ds,f⟩:=Option.isSome_iff_exists.mp hd;obtain⟨C,F⟩:=uO I hr f z;obtain⟨o,c,e,_⟩:=F.isList;exact XR ZL I.fR ⟨o,c,e⟩ B (λz=>nomatch z) (by cases t<;>simpa[Ev.cX,f]using q)
def pV {t:TY}{T:Str}{p q:Pos}(ha:JE G n sc N df m a xa) (hT:bootBuiltins T=some (.type (oK t))) (h1:("isinstance" : Str)∈G.bl:=by decide +kernel) (h2:T∈G.bl:=by decide +kernel)
  (Bs:sc.names.lookup ("isinstance" : Str)=some .globalImplicit:=by rfl) (UE:sc.names.lookup T=some .globalImplicit:=by rfl) (hn:T≠"__name__" :=by decide) (hd:(T==("__debug__" : Str))=false:=by decide)
  (hst:∀env:Env,starEach [xa,.Name T q] env=(false,eval xa env) :: starEach [.Name T q] env:=by intro _;rfl):JE G n sc N df m (.fz a [t]) (.Call (.Name "isinstance" p) [xa,.Name T q] [] pos):=λX g=>by
 have j:PE X (.Name T q) (tC (.ty (oK t))):=Gn (g.gl UE) (g.bl T h2) hT rfl hn hd;have C:dh X (.builtin "isinstance") (λA H Q=>∃r h d x,HR X.K H r h/\RV X.K H r d x/\A=[x,.ty (oK t)]/\(∀i,d=.ref i->LD h i)/\Q (.bl (Ev.cX h d t)) H):=by
  intro B s σ H A us Q I rv q;obtain⟨r,h,d,x,k,f,rfl,hd,q⟩:=q;obtain⟨u,w,rfl,l,F⟩:=vals2 rv;cases F;exact G7 I k f l hd t λtk=>⟨.bl _,H,I.tok _,rfl,q⟩
 refine PE.of (ur C (g.gl Bs) (g.bl _ h1) (by decide +kernel) (kE (ha X g) (kE j pP) (hst _)) (by decide) (by decide) (hst _) rfl) λs H Q q=>?_;obtain⟨r,J,h,d,o,L,k,e,q⟩:=q;simp only[Ev.ev]at e;obtain⟨x,W,M,e⟩:=Ev.ah e;cases e;refine⟨r,J,h,x,_,L,k,M,λv H1 l f c f1=>?_⟩;refine⟨l,_,x,v,c,f,rfl,λi P=>?_,?_⟩
 .subst P;simp only[RV]at f;obtain⟨p,_,z⟩:=f;have y:i<o.length:=by rw[<-c.len];exact(List.getElem?_eq_some_iff.mp z).1
  unfold LD Ev.br;rw[Xl y];cases o[i]with
  |lst ds=>(try intro _);exact .inl rfl
  |bT ds=>(try intro _);exact .inl rfl
 .have:=(q.later f1).here (v:=.bl (Ev.cX o x t)) (by simp[RV]) c;exact this
end
section
variable{a:E}
theorem Vals.reverse{vs:List V}{us:List Value}(w:Vals vs us):Vals vs.reverse us.reverse:=by
 induction w with
 |nil=>exact .nil
 |cons a _ b=>rw[XC,XC];exact b.append (.cons a .nil)
end
section
variable{G:Tb}{n:Nat}{sc:Scope}{N:List Str}{df:Bool}{m:List Nat}{a c:E}{xa:Expr}{pos:Pos}
def Du (g:Good G n sc N df X):dh X (.type "tuple") (λxs H Q=>∃r h d x d' h',HR X.K H r h/\RV X.K H r d x/\xs=[x]/\Ev.qP d h=.ok d' h'/\Res X.K r H h' d' Q):=by
 intro b s σ H xs us Q I rv q;obtain⟨r,h,d,x,d',h',f,j,rfl,e,q⟩:=q;cases d with
 |tup ds=>
  cases e;have y:=j;obtain⟨p,k,rfl,z,w⟩:=j.shape;exact lV b s σ H _ us Q I rv ⟨p,k,rfl,.inr ⟨z,q.here y f⟩⟩
 |ref i=>
  simp only[Ev.qP]at e;split at e
  .rename_i ds A;split at e
   .cases e;obtain⟨p,rfl,z⟩:=j.shape;obtain⟨F,k,o,B,w⟩:=f.read A;rw[z]at o;cases o;exact lV b s σ H _ us Q I rv ⟨p,k,rfl,.inl ⟨B,λl C=>q.tup w f C⟩⟩
   .cases e
  .cases e
 |_=>cases e
def K7 {p:Pos}(ha:JE G n sc N df m a xa) (h1:("tuple" : Str)∈G.bl:=by decide +kernel) (Bs:sc.names.lookup ("tuple" : Str)=some .globalImplicit:=by rfl)
  (hst:∀env:Env,starEach [xa] env=[(false,eval xa env)]:=by intro _;rfl):JE G n sc N df m (.gX a) (.Call (.Name "tuple" p) [xa] [] pos):=λX g=>by
 refine PE.of (rY (Du g) (g.gl Bs) (g.bl _ h1) (by decide +kernel) (kE (ha X g) pP (hst _)) (by decide) (by decide) (hst _) rfl) λs H Q q=>?_;obtain⟨r,f,h,d,i,j,k,e,q⟩:=q;simp only[Ev.ev]at e;obtain⟨x,l,o,e⟩:=Ev.ah e;refine⟨r,f,h,x,_,j,k,o,λv H1 y z b f1=>?_⟩;exact⟨y,l,x,v,d,i,b,z,rfl,e,q.later f1⟩
def K8{c:Nat}{st:Stmt}:JS G n sc N df m (.dS c) st:=λX g=>PS.of CV λQ s H q=>by
 obtain⟨r,b,h,fl,d,f,i,j,e,q⟩:=q;simp only[Ev.jc]at e;cases e
end
noncomputable def q8:List (D×D)->Bool
 |[]=>true
 | (.str k,.str v) :: r=>decide (v.length<=1000)&&q8 r
 |_=>false
theorem uT{s:List Nat}{r:D}:∀{kvs:List (D×D)},q8 kvs=true->Ev.eK (.str s) kvs=some r->∃t,r=.str t/\t.length<=1000/\PySem.Spec.lookup (.str (au s)) (tabOf kvs)=some (.str (au t))
 |[],_,e=>by simp[Ev.eK]at e
 | (k,v) :: l,ha,e=>by
  cases k<;>cases v<;>simp only[q8,Xw,OS,XF]at ha
  rename_i k v;simp only[Ev.eK]at e;rw[show Ev.gw [] 1 (.str k) (.str s)=some (k==s)from rfl]at e;simp only[tabOf,PySem.Spec.lookup];by_cases h:k=s
  .subst h;simp at e;subst e;refine⟨v,rfl,ha.1,?_⟩;have:PySem.Spec.same (.str (au k)) (.str (au k))=true:=by rw[ZC];simp
   rw[this];rfl
  .have a:(k==s)=false:=by simpa using h
   rw[a]at e;simp only at e;obtain⟨t,b,c,d⟩:=uT ha.2 e;refine⟨t,b,c,?_⟩;have:PySem.Spec.same (.str (au k)) (.str (au s))=false:=by
    rw[ZC];simp;exact λz=>h (jE z)
   rw[this];exact d
theorem uU{y r:D}:∀{kvs:List (D×D)},q8 kvs=true->Ev.eK y kvs=some r->∃s,y=.str s
 |[],_,e=>by simp[Ev.eK]at e
 | (k,v) :: l,ha,e=>by
  cases k<;>cases v<;>simp only[q8,Xw,OS,XF]at ha
  cases y with
  |str s=>exact⟨s,rfl⟩
  |ref a=>cases e
  |_=>first|exact uU ha.2 e|cases e
section
variable{G:Tb}{n:Nat}{sc:Scope}{N:List Str}{df:Bool}{m:List Nat}{a:E}{xa:Expr}{pos:Pos}
def q9 {x:Str}{kvs:List (D×D)}{p:Pos}(hm:(x,kvs)∈G.dk) (ha:JE G n sc N df m a xa) (hk:q8 kvs=true:=by decide) (hg:sc.names.lookup x=some .globalImplicit:=by rfl) (hd:(x==("__debug__" : Str))=false:=by decide) (hs:qN xa:=by intro _ _;rfl) :
  JE G n sc N df m (.eB kvs a) (.Subscript (.Name x p) xa pos):=λX g=>by
 intro l s σ H Q I q;obtain⟨r,F,h,d,o,J,L,e,q⟩:=q;simp only[Ev.ev]at e;replace e:=Ev.ah e;obtain⟨y,h1,M,e⟩:=e;replace e:=Ev.aE e;obtain⟨e,P⟩:=e;subst P;obtain⟨j,k,f⟩:=g.dk x kvs hm;refine Subscript_ (yZ (qK (v:=.ref j) (g.gl hg) k rfl hd) (ha X g) I (R:=λA B H2=>A=.ref j/\∃b,RV X.K H2 b y B/\HR X.K H2 b o/\Fm X.K r b H H2) ?_ λv u s2 A B H2 I2 W Y z=>?_)
 .refine⟨r,F,h,y,o,J,L,M,λv H1 b i c f1=>⟨rfl,b,i,c,f1⟩⟩
 .obtain⟨rfl,b,i,c,f1⟩:=z;obtain rfl:v=Value.ref j:=W;have Z:∃C,y=.str C:=uU hk e;obtain⟨C,rfl⟩:=Z;obtain⟨t,rfl,ht,hl⟩:=uT hk e;simp only[RV]at i;obtain⟨rfl,_⟩:=i;obtain⟨tk,rfl⟩:=Y;refine item_strTab (f s2.heap I2.fR) hl (λv hv=>?_) (hs _ _);obtain⟨t2,rfl⟩:=PyProof.V.Flat.str_inv hv;exact⟨.str (au t),H2,I2.tok _,⟨t2,rfl⟩,q _ H2 b ⟨rfl,Xm ht (by rw[YD];decide)⟩ c f1⟩
end
theorem xR:∀{a b:List Nat},Ev.lexLe a b=true->Ev.lexLe b a=true->a=b
 |[],[],_,_=>rfl
 |[],_ :: _,_,h=>by simp[Ev.lexLe]at h
 |_ :: _,[],h,_=>by simp[Ev.lexLe]at h
 |x :: xs,y :: ys,h1,h2=>by
  simp only[Ev.lexLe]at h1 h2;by_cases e:x=y
  .subst e;simp only[Xq]at h1 h2;rw[xR h1 h2]
  .rw[T8 e]at h1;rw[T8 (Yr e)]at h2;simp at h1 h2;omega
theorem le_trans':∀{a b c:List Nat},Ev.lexLe a b=true->Ev.lexLe b c=true->Ev.lexLe a c=true
 |[],_,_,_,_=>by simp[Ev.lexLe]
 |_ :: _,[],_,h,_=>by simp[Ev.lexLe]at h
 |_ :: _,_ :: _,[],_,h=>by simp[Ev.lexLe]at h
 |x :: xs,y :: ys,z :: zs,h1,h2=>by
  simp only[Ev.lexLe]at h1 h2 ⊢;by_cases e:x=y
  .subst e;rw[IC rfl]at h1;by_cases f:x=z
   .subst f;rw[IC rfl]at h2 ⊢;exact le_trans' h1 h2
   .rw[T8 f]at h2 ⊢;exact h2
  .rw[T8 e]at h1;by_cases f:y=z
   .subst f;rw[T8 e];exact h1
   .rw[T8 f]at h2;simp at h1 h2;have:x≠z:=by omega
    rw[T8 this];simp;omega
theorem le_total':∀a b:List Nat,Ev.lexLe a b=false->Ev.lexLe b a=true
 |[],_,h=>by simp[Ev.lexLe]at h
 |_ :: _,[],_=>by simp[Ev.lexLe]
 |x :: xs,y :: ys,h=>by
  simp only[Ev.lexLe]at h ⊢;by_cases e:x=y
  .subst e;rw[IC rfl]at h ⊢;exact le_total' _ _ h
  .rw[T8 e]at h;rw[T8 (Yr e)];simp at h ⊢;omega
abbrev Le(a b:List Nat):Prop:=Ev.lexLe a b=true
theorem pA(x:List Nat):∀l,(Ev.dU x l).Perm (x :: l)
 |[]=>.refl _
 |y :: l=>by
  simp only[Ev.dU];split
  .exact .refl _
  .exact((pA x l).cons y).trans (.swap ..)
theorem pW(x:List Nat):∀{l},l.Pairwise Le->(Ev.dU x l).Pairwise Le
 |[],_=>by simp[Ev.dU]
 |y :: l,h=>by
  obtain⟨c,d⟩:=List.pairwise_cons.mp h;simp only[Ev.dU];split
  .rename_i b;exact List.pairwise_cons.mpr ⟨λz a=>by
    rcases List.mem_cons.mp a with rfl|a
    .exact b
    .exact le_trans' b (c z a),h⟩
  .rename_i b;refine List.pairwise_cons.mpr ⟨λz a=>?_,pW x d⟩;rcases List.mem_cons.mp ((pA x l).mem_iff.mp a)with rfl|a
   .exact le_total' _ _ (by simpa using b)
   .exact c z a
theorem kY:∀l,(Ev.bJ l).Perm l
 |[]=>.refl _
 |x :: l=>(pA x _).trans ((kY l).cons x)
theorem mQ:∀l,(Ev.bJ l).Pairwise Le
 |[]=>.nil
 |x :: l=>pW x (mQ l)
def zB{l m:List (List Nat)}(h:m.Perm l)(s:m.Pairwise Le):m=Ev.bJ l:=
 (h.trans (kY l).symm).eq_of_pairwise (λa b _ _=>xR) s (mQ l)
theorem uV:∀a b:List Nat,Ev.lexLe a b = !ltCps b a
 |[],[]=>by simp[Ev.lexLe,ltCps]
 |[],_ :: _=>by simp[Ev.lexLe,ltCps]
 |_ :: _,[]=>by simp[Ev.lexLe,ltCps]
 |x :: xs,y :: ys=>by
  have c:=uV xs ys;simp only[Ev.lexLe,ltCps];by_cases e:x=y
  .subst e;simp[c]
  .have d:¬ y=x:=λz=>e z.symm;rw[T8 e];by_cases h:x<y
   .have:¬ y<x:=by omega
    simp[h,this,d]
   .have:y<x:=by omega
    simp[h,this]
theorem oM:∀(p:Str) (l:List Str),risingS p l=true->(p :: l).Pairwise λa b=>Le a.cps.toList b.cps.toList
 |p,[],_=>by simp
 |p,x :: r,h=>by
  have c:(!ltCps x.cps.toList p.cps.toList&&risingS x r)=true:=h;rw[OS,<-uV]at c;have e:=oM x r c.2;refine List.pairwise_cons.mpr ⟨λz d=>?_,e⟩;rcases List.mem_cons.mp d with rfl|d
  .exact c.1
  .exact le_trans' c.1 ((List.pairwise_cons.mp e).1 z d)
def Bt{ss:List (List Nat)}{ss':List Str}(hp:ss'.Perm (ss.map au))(hs:sortedS ss'=true):ss'=(Ev.bJ ss).map au:=by
 have UG:ss'.Pairwise λa b=>Le a.cps.toList b.cps.toList:=by
  cases ss' with
  |nil=>exact .nil
  |cons p l=>exact oM p l hs
 have c:(ss'.map λz=>z.cps.toList).Perm ss:=by
  have:=hp.map λz:Str=>z.cps.toList;rw[XH]at this;have e:ss.map ((λz:Str=>z.cps.toList) ∘ au)=ss:=by
   rw[show((λz:Str=>z.cps.toList) ∘ au)=id from funext λl=>by simp[au]];simp
  rw[e]at this;exact this
 have d:=zB c (List.pairwise_map.mpr UG);rw[<-d,XH];rw[show(au ∘ λz:Str=>z.cps.toList)=id from funext λz=>by simp[au]];simp
section
variable{X:Cx}{n:Nat}{b:E}
theorem sJ:∀{us:List Value}{ss:List (List Nat)},StrsAre us (ss.map au)->Vals (ss.map λl=>V.str (au l)) us
 |[],[],_=>.nil
 |[],_ :: _,h=>by cases h
 |u :: us,[],h=>by cases h
 |u :: us,l :: ss,h=>by
  cases h with
  |cons x t h=>exact .cons ⟨_,rfl⟩ (sJ h)
theorem aD.ofStrs{K:PySem.W.Frag}{H:Hp}{r:List Addr}:∀{ss:List (List Nat)},(∀l∈ss,l.length<=sizeLine)->aD K H r (ss.map D.str) (ss.map λl=>V.str (au l))
 |[],_=>.nil
 |l :: ss,h=>.cons ⟨rfl,h l (by simp)⟩ (aD.ofStrs λz a=>h z (by simp[a]))
def sL:dh X (.builtin "sorted") (kG X.K (Ev.b7 .sorted)):=by
 intro k s σ H xs c Q I r q;obtain⟨rr,h,C,d,h',x,y,e,q⟩:=q
 match C,e with
 |[.ref n],e=>
  delta Ev.b7 at e;dsimp only at e
  split at e
  case h_2=>cases e
  rename_i f F;split at e
  case isFalse=>cases e
  rename_i G;obtain⟨ds,J,L⟩:=Option.bind_eq_some_iff.mp F;simp only[aD,RV]at y;obtain⟨v,w,rfl,⟨p,rfl,z⟩,rfl⟩:=y;obtain⟨p',vs,A,M,w⟩:=x.read J;rw[z]at A;cases A;obtain⟨u,rfl,N⟩:=Zo r;cases N;obtain⟨c,pv,P,hz⟩:=I.list M;obtain⟨B,W⟩:=qZ L w pv;have a:c.length<64:=by
   have Y:=B.length;simp at Y;omega
  refine sorted_strs P.isList B a λout Z a1 a2 a3=>?_;have hq:=Bt a2 a3;subst hq;have g:∀l∈Ev.bJ f,l.length<=sizeLine:=λl i=>W l ((kY f).mem_iff.mp i);obtain⟨e',he⟩:=sortedAll_at s.heap c out;obtain⟨j,q2⟩:=q.lst e (aD.ofStrs g) x;refine⟨.ref (s.heap.objs.size+1),_,I.laid (t':=s.toks) (o:=.lst ((Ev.bJ f).map λl=>V.str (au l))) (λb ob q=>sortedAll_old q) (Z9 _) ?_,rfl,q2 _ (I.hok.fresh (Z9 _))⟩;exact⟨j,out.toList,e',sJ a1,by simpa[seqObj]using he⟩
end
end Sm
namespace Rv
open PySem PyProof.Rows
def mR:Manifest.owners.lookup (String.ofList ['d','e','s','r','e','v','e','r'].reverse)=some Manifest.sig_reversed:=by kernel_rfl
def slot_next:Slot "reversed" "__next__" "reversed.__next__" :=
 .of (owner:="reversed") (n:="__next__") (by rw[YL,Yk];kernel_rfl) (by decide +kernel) (by decide +kernel) (by decide +kernel)
  (by first|exact .inl (by decide +kernel)|exact .inr (by decide +kernel)) (by rw[YQ];kernel_rfl)
def entry_next:entryFor table "reversed.__next__" = some Builtin.«reversed.__next__»:=entryFor_of_tree (by kernel_rfl)
def args_next (a:Value):argsOk "reversed.__next__" ⟨[a],[]⟩:=by
 unfold argsOk;rw[signature?_of (id:="reversed.__next__") (n:=['_','_','t','x','e','n','_','_']) (o:=['d','e','s','r','e','v','e','r']) (by kernel_rfl) mR];kernel_rfl
def sM:Slot "reversed" "__iter__" "reversed.__iter__" :=
 .of (owner:="reversed") (n:="__iter__") (by rw[YL,Yk];kernel_rfl) (by decide +kernel) (by decide +kernel) (by decide +kernel)
  (by first|exact .inl (by decide +kernel)|exact .inr (by decide +kernel)) (by rw[YQ];kernel_rfl)
def Bu (a:Value):argsOk "reversed.__iter__" ⟨[a],[]⟩:=by
 unfold argsOk;rw[signature?_of (id:="reversed.__iter__") (n:=['_','_','r','e','t','i','_','_']) (o:=['d','e','s','r','e','v','e','r']) (by kernel_rfl) mR];kernel_rfl
def zC:entryFor table "reversed.__iter__" = some Builtin.«dict_keyiterator.__iter__»:=
 entryFor_alias (id':="dict_keyiterator.__iter__") (by kernel_rfl) (by first|rfl|decide +kernel | (unfold String.splitOn;simp +decide [String.splitOnAux])) (by decide +kernel) (by kernel_rfl)
def mS:Slot "reversed" "__length_hint__" "reversed.__length_hint__" :=
 .of (owner:="reversed") (n:="__length_hint__") (by rw[YL,Yk];kernel_rfl) (by decide +kernel) (by decide +kernel) (by decide +kernel)
  (by first|exact .inl (by decide +kernel)|exact .inr (by decide +kernel)) (by rw[YQ];kernel_rfl)
def zD:entryFor table "reversed.__length_hint__" = some Builtin.«reversed.__length_hint__»:=entryFor_of_tree (by kernel_rfl)
def Bv (a:Value):argsOk "reversed.__length_hint__" ⟨[a],[]⟩:=by
 unfold argsOk;rw[signature?_of (id:="reversed.__length_hint__") (n:=['_','_','t','n','i','h','_','h','t','g','n','e','l','_','_']) (o:=['d','e','s','r','e','v','e','r']) (by kernel_rfl) mR];kernel_rfl
def K9:typeLookup (.type "reversed") "__len__" = pure none:=by rw[YL,Yk];kernel_rfl
def La:typeLookup (.type "tuple") "__reversed__" = pure none:=by rw[YL,Yk];kernel_rfl
section
variable{prog:Program}{w:World}{A:Around}{E:Value->Shared->Prop}{s:Shared}
def Bw:Slot "reversed" "__init__" "object.__init__" :=
 .of (owner:="object") (n:="__init__") (by rw[YL,Yk];kernel_rfl) (by decide +kernel) (by decide +kernel) (by decide +kernel)
  (by first|exact .inl (by decide +kernel)|exact .inr (by decide +kernel)) (by rw[YQ];kernel_rfl)
def called:TypeCalled "reversed" "reversed.__new__" "object.__init__" :=
 ⟨by decide +kernel,by decide +kernel,⟨_,_,F.mro_reversed⟩,F.made_reversed,by decide +kernel,F.sub_reversed_self,Bw⟩
def gu (h:Heap) (a t:Addr) (i:Int):Prop:=∃o,h.get? a=some o/\o.cls=.type "reversed" /\o.data=.fields #[.ref t,rawInt i]
def gu.typeIs {a l:Addr}{i:Int}(x:gu s.heap a l i):s.TypeIs (.ref a) "reversed" :=let ⟨o,ho,hc,_⟩:=x;⟨o,ho,hc⟩
def gu.at{h h':Heap}{a l:Addr}{i:Int}(x:gu h a l i)(e:∀o,h.get? a=some o->h'.get? a=some o):gu h' a l i:=let ⟨o,ho,r⟩:=x;⟨o,e _ ho,r⟩
noncomputable def nH (l:Addr) (i:Int):Obj:={ cls:=.type "reversed",data:=.fields #[.ref l,rawInt i]}
def nI{h h':Heap}{t:Addr}{items:Array Value}(x:IsTup h t items)(e:∀o,h.get? t=some o->h'.get? t=some o):IsTup h' t items:=let ⟨o,ho,r⟩:=x;⟨o,e _ ho,r⟩
def Dv{t:Addr}{items:Array Value}{Q₁:Value->Shared->Prop}(ht:IsTup s.heap t items)(hfit:(items.size:Int)<2 ^ 63)
  (h:Q₁ (.ref s.heap.objs.size) { s with heap:=s.heap.push (nH t ((items.size:Int) - 1)),toks:=s.toks+1+1 }) :
  codeAny (model prog w) A (.call (.builtin "reversed.__new__") ⟨[.type "reversed",.ref t],[]⟩) (wants Q₁ E) s:=by
 refine codeAny_of_tree ?_;show wpAny _ A.in1 (do checkBuiltinCall "reversed.__new__" ⟨[.type "reversed",.ref t],[]⟩;again (.builtin "reversed.__new__" ⟨[.type "reversed",.ref t],[]⟩)) _ _ s;refine gV (YC (F.newCall_reversed_1 _) (Vg ⟨plainId_quiet F.plain_reversed_new _,codeAny_builtin F.entry_reversed_new ?_⟩));rw[Around.under_plainId F.plain_reversed_new _];unfold Builtin.«reversed.__new__»;refine gV (YC (newClass_reversed _) ?_);try dsimp only
 refine gV (YC (a:=()) (by first|rfl|kernel_rfl) ?_);refine gV (YC (a:=()) (by first|rfl|kernel_rfl) ?_);try dsimp only
 refine gV (Y0 ht.typeIs La ?_);try dsimp only
 refine gV ?_
 wp_delta
 refine gV (ZX (T:="tuple") (b:=false) ht.typeIs (by rw[YQ];kernel_rfl) ?_);refine X4 (λc=>absurd c (by decide)) (λ_=>?_);refine gV (Y0 ht.typeIs slot_tuple_getitem.lookup ?_);try dsimp only
 refine X4 (λ_=>?_) (λc=>absurd (by decide) c);refine Vg ?_;refine X4 (λc=>absurd c (by decide)) (λ_=>?_);refine gV (len_tuple ht hfit ?_);refine gV (m:=asInt? _) (Vg ?_);try dsimp only
 refine gV (m:=Builtin.SmallTypes.newRecord _ _) ?_;unfold Builtin.SmallTypes.newRecord;refine X7 ?_ (by size_fits);exact Vg h
def Dw{t:Addr}{items:Array Value}{Q:Value->Shared->Prop}(ht:IsTup s.heap t items)(hfit:(items.size:Int)<2 ^ 63)
  (h:Q (.ref s.heap.objs.size) { s with heap:=s.heap.push (nH t ((items.size:Int) - 1)),toks:=s.toks+1+1 }):wpAny (model prog w) A (call (.type "reversed") [.ref t]) Q E s:=by
 refine callType_codes (Q₁:=λa b=>a=.ref s.heap.objs.size/\b={ s with heap:=s.heap.push (nH t ((items.size:Int) - 1)),toks:=s.toks+1+1 }) called (F.typeCall_reversed_1 _) F.entry_object_init (Dv ht hfit ⟨rfl,rfl⟩) ?_;rintro a b ⟨rfl,rfl⟩;have c:({ s with heap:=s.heap.push (nH t ((items.size:Int) - 1)),toks:=s.toks+1+1 }:Shared).TypeIs (.ref s.heap.objs.size) "reversed" :=⟨_,Xv _ rfl,rfl⟩
 refine⟨c,F.args_object_init_2 _ _,?_⟩;exact object_init_meets (self:=Value.ref s.heap.objs.size) (rest:=[Value.ref t]) called.init.lookup called.made (by decide) prog w A.in1 _ _ ⟨c,rfl,h⟩
def next_item{it t:Addr}{i:Nat}{items:Array Value}{x:Value}{Q:Option Value->Shared->Prop}(hit:gu s.heap it t (i:Int))(ht:IsTup s.heap t items)(hx:items[i]?=some x)(hfit:(items.size:Int)<2 ^ 62)
  (hQ:∀h' tk,gu h' it t ((i:Int) - 1)->Heap.SameBut it s.heap h'->Q (some x) { s with heap:=h',toks:=tk }):wpAny (model prog w) A (pyNext (.ref it)) Q E s:=by
 obtain⟨o,c,e,b⟩:=id hit;have f:i<items.size:=(Array.getElem?_eq_some_iff.mp hx).1;unfold pyNext;refine gV (ZH (YJ (name:=Str.ofString "__next__") hit.typeIs slot_next
  (YF slot_next hit.typeIs entry_next ?_ (args_next _))))
 unfold Builtin.«reversed.__next__»;refine gV (YC (a:=(Value.ref it,[])) rfl ?_);try dsimp only
 refine gV (Yv c b (x:=.ref t) rfl ?_);refine gV (Yv c b (x:=rawInt (i:Int)) rfl ?_);show wpAny _ _ (if (i:Int)<0 then _ else _) _ _ s;rw[T8 (by omega)];try dsimp only
 refine gV (Y0 ht.typeIs slot_tuple_getitem.lookup ?_);try dsimp only
 refine X4 (λd=>absurd d (by decide)) (λ_=>?_);refine gV (wpAny_mkInt ?_);refine gV (ZH (getItem_tuple (j:=i) ht (by omega) (by omega) (by unfold seqIndex?;simp;omega) hx ?_));try dsimp only
 refine gV (Yv c b (x:=rawInt (i:Int)) rfl ?_);show wpAny _ _ (setField (.ref it) 1 (rawInt ((i:Int) - 1)) >>= _) _ _ _;refine gV (aab c b (by simp) ?_);refine Vg ⟨x,rfl,Vg (hQ _ _ ?_ (Zz ..))⟩;exact⟨_,YB _ c (Obj.isFreed_of_fields (Y5 b _)),(Obj.cls_mapFields ..).trans e,by
  rw[Y5 b];simp⟩
def next_end{it t:Addr}{Q:Option Value->Shared->Prop}(hh:A.handled=none)(hit:gu s.heap it t (-1))
  (hQ:∀h',Heap.ExtBut it s.heap h'->Q none { s with heap:=h' }):wpAny (model prog w) A (pyNext (.ref it)) Q E s:=by
 obtain⟨o,d,f,c⟩:=id hit;unfold pyNext;refine gV (ZH (YJ (name:=Str.ofString "__next__") hit.typeIs slot_next
  (YF slot_next hit.typeIs entry_next ?_ (args_next _))))
 unfold Builtin.«reversed.__next__»;refine gV (YC (a:=(Value.ref it,[])) rfl ?_);try dsimp only
 refine gV (Yv d c (x:=.ref t) rfl ?_);refine gV (Yv d c (x:=rawInt (-1)) rfl ?_);show wpAny _ _ (if (-1:Int)<0 then _ else _) _ _ s;rw[IC (by decide)];refine gV (aae ?_);refine gV ?_
 wp_delta
 refine gV (aab d c (by simp) ?_);have e:=YB (Obj.mapFields λx=>x.setIfInBounds 1 (rawInt (-1))) d (Obj.isFreed_of_fields (Y5 c _));refine aab e (Y5 c _) (by simp) ?_;refine gV ?_;unfold Builtin.SmallTypes.stopIteration;first
 |show wpAny _ _ (newExc (.type "StopIteration") [] >>= _) _ _ _
 | (refine gV ?_;show wpAny _ _ (newExc (.type "StopIteration") [] >>= _) _ _ _)
 refine gV ?_;simp only[newExc,newTuple];refine gV (X7 ?_ (by size_fits));refine gV (m:=firstArgMember _ _) (YC (a:=Value.none) (by first|rfl | (simp only[firstArgMember];rfl)) ?_);refine X7 ?_ (by size_fits);simp only[raiseNew];refine gV (wpAny_handled ?_);first|rw[show A.in1.handled=none from hh]|rw[hh]
 refine gV (Vg (wpAny_throw ?_));refine gV (ZX (T:="StopIteration") (b:=true) ⟨_,Xv _ rfl,rfl⟩ isSubtype_stop ?_);exact Vg (hQ _ ((((Zz ..).extBut.trans (Zz ..).extBut).push _).push _))
def uW{it t:Addr}{i:Int}{Q:Value->Shared->Prop}(hit:gu s.heap it t i)(h:Q (.ref it) s):wpAny (model prog w) A (pyIter (.ref it)) Q E s:=by
 refine wpAny_pyIter_slot hit.typeIs sM (YF sM hit.typeIs zC ?_ (Bu _));show wpAny _ _ (ret (.ref it)) _ _ s;exact Vg ⟨_,rfl,"reversed",_,hit.typeIs,slot_next.lookup,h⟩
def Dy{it t:Addr}{items:Array Value}{Q:Bool->Shared->Prop}(hit:gu s.heap it t ((items.size:Int) - 1))(ht:IsTup s.heap t items)(hfit:items.size<=sizeLine)
  (h:∀tk,Q ((items.size:Int) != 0) { s with toks:=tk }):wpAny (model prog w) A (Builtin.List.listLengthHint (.ref it)) Q E s:=by
 obtain⟨o,e,i,f⟩:=id hit;unfold Builtin.List.listLengthHint;refine gV (Y0 hit.typeIs K9 ?_);refine X4 (λc=>absurd c (by decide +kernel)) (λ_=>?_);refine X4 (λc=>absurd c (by decide)) (λ_=>?_);refine gV (Y0 hit.typeIs mS.lookup ?_);generalize hid:("reversed.__length_hint__" : String)=UH
 dsimp only;rw[show splitId UH=some ("reversed","__length_hint__")from by subst hid;decide +kernel];subst hid;dsimp only;refine gV (ZX (T:="reversed") (b:=true) hit.typeIs (by rw[YQ];kernel_rfl) ?_);refine X4 (λc=>absurd c (by decide)) (λ_=>?_);refine X4 (λc=>absurd c (by decide +kernel)) (λ_=>?_);refine gV (aae ?_);refine gV (YC (mS.bind _) ?_);refine gV (ZH (YF mS hit.typeIs zD ?_ (Bv _)));unfold Builtin.«reversed.__length_hint__»;refine gV (YC (a:=Value.ref it) rfl ?_);refine gV (Yv e f (x:=.ref t) rfl ?_);refine X4 (λc=>absurd c Yj) (λ_=>?_);have d:(items.size:Int)<2 ^ 63:=by rw[YD]at hfit;omega
 refine gV (len_tuple ht d ?_);refine gV (m:=asInt? _) (Vg ?_);refine gV (Yv e f (x:=rawInt ((items.size:Int) - 1)) rfl ?_);show wpAny _ _ (if (items.size:Int)<(items.size:Int) - 1+1 then _ else _) _ _ _;rw[T8 (by omega)];have g:(items.size:Int) - 1+1=(items.size:Int):=by omega
 rw[g];unfold retInt;refine gV (wpAny_mkInt (Vg ⟨_,rfl,?_⟩));generalize s.toks+1+1=tk
 show wpAny _ _ (asInt? (Value.int (items.size:Int) tk) >>= _) _ _ _;refine gV ?_;refine Vg (a:=some (items.size:Int)) ?_;have UI:Builtin.List.listFitsIndex (items.size:Int)=true:=by unfold Builtin.List.listFitsIndex;rw[XW (by omega),XW (by omega)];rfl
 show wpAny _ _ (if (!Builtin.List.listFitsIndex (items.size:Int))=true then _ else _) _ _ _;rw[T8 (by rw[UI];decide)];show wpAny _ _ (if (items.size:Int)<0 then _ else _) _ _ _;rw[T8 (by omega)];have UJ:Builtin.List.listTooLong ((items.size:Int).toNat)=false:=by unfold Builtin.List.listTooLong;rw[Zf];exact Xr (by omega)
 show wpAny _ _ (if Builtin.List.listTooLong ((items.size:Int).toNat)=true then _ else _) _ _ _;rw[T8 (by rw[UJ];decide)];exact Vg (h _)
def _root_.PySem.Walks.Lb(hh:A.handled=none)(I t:Addr)(hne:t≠I)(items:Array Value)(hfit:(items.size:Int)<2 ^ 62) :
  Walks prog w A I [I,t] [I] items.size (λi v=>items[items.size - 1 - i]?=some v) (λi h=>i<=items.size/\gu h I t ((items.size:Int) - 1 - (i:Int))/\IsTup h t items) where
 sub:=λb c=>by simp at c;simp[c]
 frame:=λ_ _ _ x l=>⟨x.1,x.2.1.at λo e=>l I (by simp) o e,nI x.2.2 λo e=>l t (by simp) o e⟩
 item:=λi s Q E q x d=>by
  have e:(items.size:Int) - 1 - (i:Int)=((items.size - 1 - i:Nat):Int):=by omega
  have a:=x.2.1;rw[e]at a;have p:items[items.size - 1 - i]?=some (items[items.size - 1 - i]'(by omega)):=ZT (by omega);refine next_item a x.2.2 p hfit λj tk Lc f=>?_;have r:((items.size - 1 - i:Nat):Int) - 1=(items.size:Int) - 1 - ((i+1:Nat):Int):=by omega
  rw[r]at Lc;exact d _ j tk p ⟨q,Lc,nI x.2.2 λo g=>(f.2 t hne).trans g⟩ λb o c g=>f.extBut b o (λh=>c (by simp[h])) g
 done:=λs Q E x d=>by
  have e:(items.size:Int) - 1 - (items.size:Int) = -1:=by omega
  have a:=x.2.1;rw[e]at a;exact next_end hh a λj k=>d j s.toks λb o c g=>k b o (λh=>c (by simp[h])) g
 self:=λ_ _ _ _ x d=>uW x.2.1 d
def zE{R:Result->Shared->Prop}{I t:Addr}{items:Array Value}(hh:A.handled=none)(hit:gu s.heap I t ((items.size:Int) - 1))(ht:IsTup s.heap t items)(hne:t≠I)(hlen:items.size<=sizeLine)
  (S:Addr) (hSI:S≠I) (hSt:S≠t) (res:Value) (c₀:Nat) (hS:s.heap.get? S=some { cls:=.type "list",data:=.seq #[] c₀ })
  (hR:∀h' tk acc' c',(∀b o,b≠S->b≠I->s.heap.get? b=some o->h'.get? b=some o)->h'.get? S=some { cls:=.type "list",dict:=none,data:=.seq acc' c',slots:=#[]}->
   ItemsOf (λi v=>items[items.size - 1 - i]?=some v) acc' items.size->R (.ok (.ret res)) { s with heap:=h',toks:=tk }) :
  wpAny (model prog w) A.in1 (Builtin.List.listExtendWith (.ref S) (.ref I) res)
   (λfin s'=>match fin with|.done f=>R (.ok f) s'|.again c'=>c'.quiet=true/\codeAny (model prog w) A c' R s') (λe s'=>R (.error e) s') s:=by
 have y:(items.size:Int)<2 ^ 62:=by rw[YD]at hlen;omega
 have k:S∉[I,t]:=λj=>by rcases List.mem_cons.mp j with e|e;exact hSI e;exact hSt (List.mem_singleton.mp e)
 have W:=(Walks.Lb (prog:=prog) (w:=w) (A:=A.in1) hh I t hne items y).toS;have c:∀(h:Heap) (l tk:Nat),gu h I t ((items.size:Int) - 1 - ((0:Nat):Int))->IsTup h t items->(∀b o,b≠S->s.heap.get? b=some o->h.get? b=some o)->
   h.get? S=some { cls:=.type "list",data:=.seq #[] l }->codeAny (model prog w) A (.builtin "list.extend.loop" ⟨[.ref S,.ref I,res],[]⟩) R { s with heap:=h,toks:=tk }:=by
  intro h l tk hit ht z Pz;refine codeAny_extend_loopS W hlen S k res items.size 0 _ #[] l rfl (YE _) ⟨YE _,hit,ht⟩ Pz (ItemsOf.nil _) λs' acc' c' j p d=>?_;rw[Moved.eq_with j];refine hR s'.heap s'.toks acc' c' (λb o g q e=>j.heap b o (λa=>?_) (z b o g e)) p d;rcases List.mem_cons.mp a with B|a
  .exact g B
  .exact q (List.mem_singleton.mp a)
 unfold Builtin.List.listExtendWith;refine gV (ZU (T:="reversed") hit.typeIs ?_);have C:Builtin.List.listSameRef (.ref S) (.ref I)=false:=by simp[Builtin.List.listSameRef,hSI]
 have G:(Value.type "reversed" ==Value.type "list")=false:=by decide
 have H:(Value.type "reversed" ==Value.type "tuple")=false:=by decide
 simp only[C,G,H,ZI,Xw,XE];refine gV (uW hit ?_);refine gV (wpAny_holding (Dy hit ht hlen λtk=>?_));have Ld:gu s.heap I t ((items.size:Int) - 1 - ((0:Nat):Int)):=by simpa using hit
 refine X4 (λ_=>?_) (λ_=>Vg ⟨plainId_quiet F.plain_extend_loop _,c _ c₀ _ Ld ht (λb o _ e=>e) hS⟩);refine gV (aae ?_);refine gV ?_;show wpAny _ _ (updateSeq S (·.push .none) >>= λ_=>updateSeq S (·.pop)) _ _ _;refine gV (Z6 hS rfl ?_);have x:=YB (Obj.mapSeq (·.push Value.none)) hS rfl;refine Z6 (hz:=by seq_fits) x rfl ?_;have PB:=YB (Obj.mapSeq (·.pop)) x rfl;have r:∀b o,b≠S->s.heap.get? b=some o->((s.heap.update S (Obj.mapSeq (·.push Value.none))).update S (Obj.mapSeq (·.pop))).get? b=some o:=λb o g e=>(YM _ _ (Yr g)).trans ((YM _ _ (Yr g)).trans e);exact Vg ⟨plainId_quiet F.plain_extend_loop _,c _ _ _ (Ld.at λo e=>r _ _ (Yr hSI) e) (nI ht λo e=>r _ _ (Yr hSt) e) r PB⟩
def Dz{R:Result->Shared->Prop}{I t:Addr}{items:Array Value}(hh:A.handled=none)(hit:gu s.heap I t ((items.size:Int) - 1))(ht:IsTup s.heap t items)(hne:t≠I)(hlen:items.size<=sizeLine)
  (S:Addr) (hSI:S≠I) (hSt:S≠t) (hS:s.heap.get? S=some { cls:=.type "list",data:=.seq #[]})
  (hR:∀h' tk acc' c',(∀b o,b≠S->b≠I->s.heap.get? b=some o->h'.get? b=some o)->h'.get? S=some { cls:=.type "list",dict:=none,data:=.seq acc' c',slots:=#[]}->
   ItemsOf (λi v=>items[items.size - 1 - i]?=some v) acc' items.size->R (.ok (.ret .none)) { s with heap:=h',toks:=tk }) :
  wpAny (model prog w) A.in1 (Builtin.«list.__init__» ⟨[.ref S,.ref I],[]⟩)
   (λfin s'=>match fin with|.done f=>R (.ok f) s'|.again c'=>c'.quiet=true/\codeAny (model prog w) A c' R s') (λe s'=>R (.error e) s') s:=by
 show wpAny _ _ (do let old <-Builtin.List.listItems (.ref S);Builtin.List.listUpdate (.ref S) (λ_=>#[]);letGo old.toList.reverse;Builtin.List.listExtendWith (.ref S) (.ref I) .none) _ _ s;refine gV ?_;unfold Builtin.List.listItems;refine gV (wpAny_seqItems hS rfl (Vg ?_));show wpAny _ _ (updateSeq S (λ_=>#[]) >>= λ_=>letGo (#[]:Array Value).toList.reverse >>= λ_=>Builtin.List.listExtendWith (.ref S) (.ref I) .none) _ _ s;refine gV (Z6 hS rfl ?_);have h:=YB (Obj.mapSeq (λ_=>(#[]:Array Value))) hS rfl;have Lf:∀b o,b≠S->s.heap.get? b=some o->(s.heap.update S (Obj.mapSeq (λ_=>(#[]:Array Value)))).get? b=some o:=
  λb o c e=>(YM _ _ (Yr c)).trans e
 refine gV (wpAny_letGo ?_);refine zE hh (hit.at λo e=>Lf _ _ (Yr hSI) e) (nI ht λo e=>Lf _ _ (Yr hSt) e) hne hlen S hSI hSt .none _ h λh' tk acc' c' j d a=>?_;exact hR h' tk acc' c' (λb o c g e=>j b o c g (Lf b o c e)) d a
def tF{Q:Value->Shared->Prop}{I t:Addr}{items:Array Value}(hh:A.handled=none)(hit:gu s.heap I t ((items.size:Int) - 1))(ht:IsTup s.heap t items)(hne:t≠I)(hlen:items.size<=sizeLine)
  (hQ:∀h' tk acc' c',(∀b o,b≠I->s.heap.get? b=some o->h'.get? b=some o)->
   h'.get? s.heap.objs.size=some { cls:=.type "list",dict:=none,data:=.seq acc' c',slots:=#[]}->ItemsOf (λi v=>items[items.size - 1 - i]?=some v) acc' items.size->Q (.ref s.heap.objs.size) { s with heap:=h',toks:=tk }) :
  wpAny (model prog w) A (call (.type "list") [.ref I]) Q E s:=by
 refine callType_codes (Q₁:=λa g=>a=.ref s.heap.objs.size/\g={ s with heap:=s.heap.push { cls:=.type "list",data:=.seq #[]}}) F.called_list (F.typeCall_list_1 _) F.entry_list_init
  (code_list_new _ ⟨rfl,rfl⟩) λa g j=>?_
 obtain⟨rfl,rfl⟩:=j;have h:(s.heap.push { cls:=.type "list",data:=.seq #[]}).get? s.heap.objs.size=some { cls:=.type "list",data:=.seq #[]}:=Xv _ rfl;have k:I<s.heap.objs.size:=by obtain⟨o,d,_⟩:=hit;exact VS d
 have l:t<s.heap.objs.size:=by obtain⟨o,d,_⟩:=ht;exact VS d
 refine⟨⟨_,h,rfl⟩,F.args_list_init_2 _ _,Dz (A:=A.in1) hh (hit.at λo e=>Tw _ e) (nI ht λo e=>Tw _ e) hne hlen _ (ZW k) (ZW l) h λh' tk acc' c' p f c=>?_⟩;exact⟨rfl,hQ h' tk acc' c' (λb o q e=>p b o (XJ (VS e)) q (Tw _ e)) f c⟩
end
end Rv
namespace Sm
open PySem PySem.Spec PyProof.Rows L2 PySem.SeqAt
open Ev (D O Hh Fr R aP E Es Eo T S Ss Fl Src bO bz TY BI ME)
section
variable{X:Cx}{G:Tb}{n:Nat}{sc:Scope}{N:List Str}{df:Bool}{m:List Nat}{a b:E}{xa:Expr}{pos:Pos}
def DA{vs:List V}{us:List Value}(r:Vals vs us){acc:Array Value}(h:ItemsOf (λi v=>us.toArray[us.toArray.size - 1 - i]?=some v) acc us.toArray.size):Vals vs.reverse acc.toList:=by
 obtain⟨c,g⟩:=h;have e:acc.toList=us.reverse:=by
  apply ZM;intro i;by_cases d:i<us.length
  .have f:i<acc.size:=by rw[c];simpa using d
   have:=g i _ (ZT f);rw[List.getElem?_reverse d];simp only[Q4,aad]at this;rw[this];simp[f]
  .have j:acc.size=us.length:=by rw[c];simp
   rw[XX (by rw[YZ];omega),XX (by rw[List.length_reverse];omega)]
 rw[e];exact Vals.reverse r
def G8 {p p2 pos2:Pos}(ha:JE G n sc N df m a xa) (h1:("list" : Str)∈G.bl:=by decide +kernel) (Bs:sc.names.lookup ("list" : Str)=some .globalImplicit:=by rfl)
  (hg:sc.names.lookup ("reversed" : Str)=some .globalImplicit:=by rfl) (hb:("reversed" : Str)∈G.bl:=by decide +kernel)
  (hst:∀env:Env,starEach [xa] env=[(false,eval xa env)]:=by intro _;rfl)
  (Lh:∀env:Env,starEach [Expr.Call (.Name "reversed" p2) [xa] [] pos2] env=[(false,eval (Expr.Call (.Name "reversed" p2) [xa] [] pos2) env)]:=by intro _;rfl) :
  JE G n sc N df m (.eG (.rev a)) (.Call (.Name "list" p) [.Call (.Name "reversed" p2) [xa] [] pos2] [] pos):=λX g=>by
 intro i s σ H Q I q;obtain⟨r,W,h,d,Y,Z,hr,e,q⟩:=q;rw[Ev.ev,Ev.cI]at e;replace e:=Ev.ah e;obtain⟨src,J,c,e⟩:=e;replace c:=Ev.ah c;obtain⟨x,h4,e2,c⟩:=c;replace c:=Ev.aE c;obtain⟨c,y0⟩:=c;subst y0;refine Yx (iZ I (g.gl Bs) (g.bl _ h1) (show bootBuiltins ("list" : Str)=some (.type "list")by decide +kernel) ?_ (by decide) (by decide));refine Yc ?_ (Lh _) rfl;rw[Lh];show wpAny _ _ (spliced ((false,eval (Expr.Call (.Name "reversed" p2) [xa] [] pos2) X.env) :: backTo pos [])) _ _ s;refine Yi ?_;have mT:PA X [xa] _:=kE (ha X g) pP (by rw[hst];rfl);refine Call_ (iZ I (g.gl hg) (g.bl _ hb) (show bootBuiltins ("reversed" : Str)=some (.type "reversed")by decide +kernel) (Yc (aX (mT pos2 i s σ H (λL H1=>∃l u,L=[u]/\RV X.K H1 l x u/\HR X.K H1 l J/\Fm X.K r l H H1) I ⟨r,W,h,x,J,Z,hr,e2,λu H1 l B k f1=>⟨l,u,rfl,B,k,f1⟩⟩) λus s1 z=>?_) (hst _) rfl));obtain⟨L,H1,I1,rv,l,u,rfl,B,k,f1⟩:=z;cases x<;>simp only[Ev.Di,Option.map,reduceCtorEq]at c
 rename_i ds;cases c;obtain⟨t,ws,rfl,z,w⟩:=B.shape;cases rv with
 |cons ra rb=>
 cases rb;cases ra;obtain⟨f,pv,pt,M⟩:=I1.tuple z;have j:f.toArray.size<=sizeLine:=by rw[Q4,<-pv.length];exact M
 have hf:(f.toArray.size:Int)<2 ^ 63:=by rw[YD]at j;omega
 refine Rv.Dw pt hf ?_;refine ZO ?_;have I2:Inv X i σ H1 { s1 with heap:=s1.heap.push (Rv.nH t ((f.toArray.size:Int) - 1)),toks:=s1.toks+1+1 }:=I1.kept λb o e=>Tw _ e;have C:t≠s1.heap.objs.size:=by obtain⟨o,ho,_⟩:=pt;exact XJ (VS ho)
 refine Rv.tF (I1.ok.hd g.calm) ⟨_,Xv _ rfl,rfl,rfl⟩ (Rv.nI pt λo e=>Tw _ e) C j λY tk y c' hk F A=>?_;obtain⟨hz2,q2⟩:=(q.later f1).lst e w.reverse k;have P:s1.heap.objs.size<=(s1.heap.push (Rv.nH t ((f.toArray.size:Int) - 1))).objs.size:=by rw[size_push'];exact Z9 _
 refine⟨.ref _,_,I1.laid (t':=tk) (o:=.lst ws.reverse) (λb u e=>hk b u (XJ (VS e)) (Tw _ e)) P ?_,rfl,q2 _ (I1.hok.fresh P)⟩;exact⟨by simpa using M,y.toList,c',DA pv A,by simpa using F⟩
end
theorem aD.ofInts{K:PySem.W.Frag}{H:Hp}{r:List Addr}:∀ns:List Int,aD K H r (ns.map D.int) (ns.map V.int)
 |[]=>.nil
 |_ :: l=>.cons rfl (aD.ofInts l)
def Li{K:PySem.W.Frag}{H:Hp}{a:Addr}{vs:List V}(hO:qO H)(hS:eY K H a vs):zj K H a vs:=by
 rcases hS with h|h
 .rcases h with h|⟨o,h⟩
  .rcases hO a with q|⟨o,b,q⟩
   .rw[q]at h;cases h
   .rw[q]at h;cases h
  .exact .inl ⟨o,h⟩
 .exact .inr h
def PD{K:PySem.W.Frag}{F:List Ev.Fn}{w n f:Nat}{H:Hp}{a:Addr}{ns:List Int}(hO:qO H)(hS:eY K H a (ns.map V.int)){h':Hh}(e:Ev.run F w n f [.ref 0] [.bT (ns.map D.int)]=.ok (.bl true) h') :
  mF K F w n f [.ref a] H (λv _=>v=.bl true) λ_ _ _=>False:=by
 refine⟨[a],[.bT (ns.map D.int)],[.ref 0],.bl true,h',.cons (show RV K H [a] (.ref 0) (.ref a)from ⟨a,rfl,rfl⟩) .nil,⟨rfl,λk o c=>?_,λk l b x y _ _ c _=>?_
  ⟩,e,λv H' g d _ _=>d⟩
 .cases k with
  |zero=>
   simp at c;subst c;exact⟨a,rfl,_,Li hO hS,aD.ofInts ns⟩
  |succ k=>simp at c
 .cases k with
  |zero=>simp at c
  |succ k=>simp at c
def G9{F:List Ev.Fn}{wh n f:Nat}{l:PySem.W.OpenLaw}{q:Program}{loose:List Str}{XP:(Str->Option Value)->Heap->Prop}{YP:World->Heap->Prop}{d:DefRec}{K:Params->PySem.W.Frag}{x:Str}(hn:l.most=some 63)(hdf:d.params.defaults=[])(hr:gO n callerA)
  (hY:∀(w:World) (h:Heap),YP w h->(K w.params).In h) (good:∀ns:List Int,ns.length<=63->∃h',Ev.run F wh n f [.ref 0] [.bT (ns.map D.int)]=.ok (.bl true) h')
  (Fo:∀(w:World) (mg:Str->Option Value) (fa:Addr) (h:Heap),(K w.params).In h->h.Ns mainGlobals mg->mg d.name=some (.ref fa)->
   ∃fd:FuncData,(∀(s:Shared) (u:Value),BindsTo s fd ⟨[u],[]⟩ [(x,u)])/\∀base:Heap,(K w.params).In base->base.Ns mainGlobals mg->iP l.prog w (K w.params) mg base mE n fa fd [x] (mF (K w.params) F wh n f)) :
  PySem.W.WalkO q loose XP YP l.row.toRowW d [] (λf vs=>PySem.call f vs):=
 L2.Df (n:=63) (k:=n) (x:=x) (CX:=mE) (sp:=λK=>mF K F wh n f) hn (by decide) hdf hr hY Fo (λK H a ns b c g=>by
  obtain⟨h',e⟩:=good ns b;exact PD c g e) λ_ _ _ _ z=>z
theorem Bx{P:Program}{w:World}{K:PySem.W.Frag}{mg:Str->Option Value}{base:Heap}{G:Tb}(T:Top P w K mg G)
  (st:∀n,tU P w K mg base G n->tU P w K mg base G (n+1)):∀n,tU P w K mg base G n
 |0=>λf i _=>GU
 |n+1=>st n (Bx T st n)
end Sm
namespace Sm
open PySem PySem.Spec PyProof.Rows L2
open Ev (D O Hh Fr R aP E Es Eo It T S Ss Fl Src bO bz TY BI ME)
section
variable{G:Tb}{n:Nat}{sc:Scope}{N:List Str}{df:Bool}{m:List Nat}{a b:E}{xa xb:Expr}{pos:Pos}
noncomputable def hasB(N:List Str)(m:List Nat)(x:Str)(i:Nat):Bool:=(List.range N.length).any λj=>m[j]?==some i&&N[j]?==some x
def hasB.of{x:Str}{i:Nat}(h:hasB N m x i=true):∃j:Nat,m[j]?=some i/\N[j]?=some x:=by
 obtain⟨j,_,q⟩:=List.any_eq_true.mp h;rw[OS]at q;exact⟨j,by simpa using q.1,by simpa using q.2⟩
noncomputable def vB (sc:Scope) (N:List Str) (m:List Nat) (x:Str) (i:Nat):Bool:=hasB N m x i&&(sc.names.lookup x==some .local ||sc.names.lookup x==some .cell ||sc.names.lookup x==some .free)&&!(x==("__debug__" : Str))&&!(x==("__classdict__" : Str))
def jv{x:Str}{i:Nat}(h:vB sc N m x i=true):JE G n sc N df m (.v i) (.Name x pos):=by
 unfold vB at h;simp only[OS,Zg,Yo]at h;obtain⟨⟨⟨d,c⟩,e⟩,f⟩:=h;obtain⟨j,g,k⟩:=hasB.of d;exact SK j i g k (by rcases c with (c|c)|c;exact .inl (by simpa using c);exact .inr (.inl (by simpa using c));exact .inr (.inr (by simpa using c))) e f
noncomputable def gB(sc:Scope)(N:List Str)(df:Bool)(m:List Nat)(x:Str)(i:Nat):Bool:=hasB N m x i&&(sc.names.lookup x==some .local || (df&&sc.names.lookup x==some .cell))&&decide m.Nodup&&decide N.Nodup
theorem gB.of{x:Str}{i:Nat}(h:gB sc N df m x i=true):∃j:Nat,m[j]?=some i/\N[j]?=some x/\(sc.names.lookup x=some .local\/(df=true/\sc.names.lookup x=some .cell))/\m.Nodup/\N.Nodup:=by
 unfold gB at h;simp only[OS,Yo]at h;obtain⟨⟨⟨d,c⟩,e⟩,f⟩:=h;obtain⟨j,g,k⟩:=hasB.of d;exact⟨j,g,k,by rcases c with c|⟨c,l⟩;exact .inl (by simpa using c);exact .inr ⟨c,by simpa using l⟩,XN e,XN f⟩
def UK{x:Str}{i:Nat}(h:gB sc N df m x i=true):JG G n sc N df m (.one i) (.Name x pos):=by
 obtain⟨j,c,d,e,f,g⟩:=gB.of h;exact Ko j i f g c d e
def UL{x:Str}{i:Nat}{l:List Nat}{xs:List Expr}(h:gB sc N df m x i=true)(hs:sj G n sc N df m l xs):sj G n sc N df m (i :: l) (.Name x pos :: xs):=by
 obtain⟨j,c,d,e,f,g⟩:=gB.of h;exact Dk j i f g hs c d e
def S6{i:Nat}{x:Str}{pos':Pos}(h:gB sc N df m x i=true)(ha:JE G n sc N df m a xa)(hs:∀env:Env,swapsWith xa (some (.Name x pos')) pos.line env=pure false:=by intro _;rfl):JS G n sc N df m (.set i a) (.Assign [.Name x pos'] xa pos):=by
 obtain⟨j,c,d,e,f,g⟩:=gB.of h;exact Kq j i f g ha hs c d e
noncomputable def Fd (sc:Scope) (x:Str):Bool:=sc.names.lookup x==some .globalImplicit&&!(x==("__debug__" : Str))
def UM{f:Nat}{i:FI}{es:Es}{x:Str}{e0:Expr}{xs:List Expr}{p:Pos}(h:Fd sc x=true)(hf:G.fi[f]?=some i)(hx:i.name=x)(hs:JA G n sc N df m es (e0 :: xs))
  (hst:∀env:Env,starEach (e0 :: xs) env=(false,eval e0 env) :: starEach xs env:=by intro _;rfl) (hpl:∀env:Env,(backTo pos (starEach xs env)).any (·.1)=false:=by intro _;rfl) :
  JE G n sc N df m (.cl f es) (.Call (.Name x p) (e0 :: xs) [] pos):=by
 subst hx;unfold Fd at h;simp only[OS,Zg]at h;exact Pp hf hs (by simpa using h.1) h.2 hst hpl
noncomputable def UN:Expr->List Str
 |.Name x _=>[x]
 |.Tuple c _ _=>c.filterMap λy=>match y with|.Name x _=>some x|_=>none
 |_=>[]
noncomputable def QM(N:List Str)(m:List Nat)(scope:Scope):List (Str×Nat):=(N.zip m).filter λp=>scope.names.contains (p.1,NameKind.free)
noncomputable def cN(N:List Str)(m:List Nat)(scope:Scope)(tg:Expr):List Str:=UN tg++(QM N m scope).map (·.1)
noncomputable def cM(N:List Str)(m:List Nat)(scope:Scope)(t:T):List Nat:=Ev.slots t++(QM N m scope).map (·.2)
def PF{elt:E}{t:T}{it:Ev.It}{cond:Eo}{tg xi xe:Expr}{ifs:List Expr}{scope:Scope}(hn:uK sc N m scope t (cN N m scope tg) (cM N m scope t)=true)(hs:Kz sc scope=true)
  (hi:JI G n sc N df m it tg xi) (hg:JG G n (iB sc scope) (cN N m scope tg) false (cM N m scope t) t tg) (hc:JC G n (iB sc scope) (cN N m scope tg) false (cM N m scope t) cond ifs)
  (he:JE G n (iB sc scope) (cN N m scope tg) false (cM N m scope t) elt xe) (hf:∀(env:Env) x,foldedSetIterable xi env x=pure x:=by intro _ _;rfl):JE G n sc N df m (.comp elt t it cond) (.ListComp xe [⟨tg,xi,ifs,0⟩] scope pos):=
 GX hi hg hc he (namesOk.of hn) (mK.of hs) hf
def S7{rest:List Expr}(ha:JT G n sc N df m a xa)(hb:JW G n sc N df m b (.BoolOp .And (xb :: rest) pos)):JT G n sc N df m (.an a b) (.BoolOp .And (xa :: xb :: rest) pos):=Ka (EU ha hb)
def S8{rest:List Expr}(ha:JT G n sc N df m a xa)(hb:JW G n sc N df m b (.BoolOp .Or (xb :: rest) pos)):JT G n sc N df m (.orr a b) (.BoolOp .Or (xa :: xb :: rest) pos):=Ka (A3 ha hb)
def allB(G:Tb)(n:Nat):List (Ss×Stmt×List Str)->Prop
 |[]=>True
 |p :: r=>jd G n (aJ p.2.1) p.2.2 true (List.range p.2.2.length) p.1 (gW p.2.1)/\allB G n r
theorem allB.get:∀{l:List (Ss×Stmt×List Str)}{k:Nat}{p:Ss×Stmt×List Str},allB G n l->l[k]?=some p->jd G n (aJ p.2.1) p.2.2 true (List.range p.2.2.length) p.1 (gW p.2.1)
 |[],_,_,_,e=>nomatch e
 |_ :: _,0,_,h,e=>by cases e;exact h.1
 |_ :: r,k+1,p,h,e=>allB.get (l:=r) (k:=k) h.2 (by simpa using e)
end
end Sm
namespace Sm
open PySem PySem.Spec PyProof.Rows L2 PySem.SeqAt
open Ev (D O Hh Fr R aP E Es Eo T S Ss Fl Src bO bz TY BI ME)
def xS(i:Int):Str.ofString (toString i)=au (Ev.cQ i):=by
 rw[Str.ofString_eq_byList];rfl
def sO{i:Int}(h:-1000000<i/\i<1000000):i.natAbs.log2<1920:=by
 refine Nat.lt_of_not_le λz=>?_;have a:i.natAbs≠0:=λe=>by rw[e]at z;exact absurd z (by decide)
 have b:2 ^ 1920<=i.natAbs:=Xm (aaf (by decide) z) (Nat.log2_self_le a);have c:2 ^ 20<=(2:Nat) ^ 1920:=aaf (by decide) (by decide);have d:i.natAbs<2 ^ 20:=by omega
 exact absurd (Xm c b) (Nat.not_le.mpr d)
def Hf {X:Cx}:dh X (.type "str") (kG X.K (Ev.b7 .fT)):=by
 intro c s σ H xs us Q I r q;obtain⟨o,h,g,d,p,f,a,e,q⟩:=q
 match g,e with
 |[.int i],e=>
  delta Ev.b7 at e;dsimp only at e
  split at e
  .rename_i k;cases e;simp only[aD,RV]at a;obtain⟨v,w,rfl,rfl,rfl⟩:=a;obtain⟨u,rfl,b⟩:=Zo r;obtain⟨t,rfl⟩:=b;refine PySem.P.str_of_int (sO k) ⟨.str (au (Ev.cQ i)),H,I.tok _,⟨_,Xp (λz=>Value.str z _) (xS i)⟩,q.here ⟨rfl,?_⟩ f⟩;have:=int_text_fits (sO k);rw[xS,bh]at this;exact this
  .cases e
 |[.str l],e=>
  cases e;simp only[aD,RV]at a;obtain⟨v,w,rfl,⟨rfl,j⟩,rfl⟩:=a;obtain⟨u,rfl,b⟩:=Zo r;obtain⟨t,rfl⟩:=b;exact PySem.P.str_of_str ⟨.str (au l),H,I,⟨_,rfl⟩,q.here ⟨rfl,j⟩ f⟩
def xT:((List.range 10).all λa=>intText? (au [a+48])==some (a:Int))=true/\((List.range 10).all λa=>(List.range 10).all λb=>intText? (au [a+48,b+48])==some (10*(a:Int)+b))=true:=by
 constructor<;>decide +kernel
def uX{a:Nat}(h:Ev.o8 a=true):∃k,k∈List.range 10/\a=k+48:=by
 simp only[Ev.o8,OS,XF]at h;exact⟨a - 48,by simp;omega,by omega⟩
def Lj{l:List Nat}{i:Int}(e:Ev.o9 l=some i):intText? (au l)=some i/\l.length<=640:=by
 match l,e with
 |[a],e=>
  simp only[Ev.o9]at e;split at e
  .rename_i h;obtain⟨k,c,rfl⟩:=uX h;have:=List.all_eq_true.mp xT.1 k c;cases e;exact⟨by rw[beq_iff_eq.mp this];congr 1;omega,by simp⟩
  .cases e
 |[a,b],e=>
  simp only[Ev.o9,OS]at e;split at e
  .rename_i h;obtain⟨k,c,rfl⟩:=uX h.1;obtain⟨j,d,rfl⟩:=uX h.2;have:=List.all_eq_true.mp (List.all_eq_true.mp xT.2 k c) j d;cases e;exact⟨by rw[beq_iff_eq.mp this];congr 1;omega,by simp⟩
  .cases e
def Hg {X:Cx}:dh X (.type "int") (kG X.K (Ev.b7 .kW)):=by
 intro a s σ H xs us Q I r q;obtain⟨p,h,c,d,x,f,b,e,q⟩:=q
 match c,e with
 |[.str l],e=>
  delta Ev.b7 at e;dsimp only at e
  obtain⟨g,j⟩:=Ev.aE e;subst j;obtain⟨i,k,rfl⟩:=Option.map_eq_some_iff.mp g;obtain⟨n1,n2⟩:=Lj k;simp only[aD,RV]at b;obtain⟨v,w,rfl,⟨rfl,y⟩,rfl⟩:=b;obtain⟨u,rfl,o⟩:=Zo r;obtain⟨t,rfl⟩:=o;exact PySem.W.KIN.call_text n1 (by rw[bh];exact n2) ⟨.int i,H,I.tok _,⟨_,rfl⟩,q.here rfl f⟩
noncomputable def iC(c:Nat):Nat->List Nat->List Nat
 |_,[]=>[]
 |k,x :: l=>if x=c then k :: iC c (k+1) l else iC c (k+1) l
def sub_one(a:List Nat)(c i:Nat):Builtin.Str.subAt (au a) (au [c]) i=decide ((a.drop i).take 1=[c]):=by
 unfold Builtin.Str.subAt;have e:(au a).cps.extract i (i+(au [c]).length)=((a.drop i).take 1).toArray:=by
  rw[bh];show a.toArray.extract _ _=_;rw[aam]
  congr 1
  rw[List.extract_eq_drop_take]
  congr 1;simp
 rw[e];show(((a.drop i).take 1).toArray==[c].toArray)=_;by_cases q:(a.drop i).take 1=[c]
 .simp[q]
 .rw[Xr q];exact beq_eq_false_iff_ne.mpr λz=>q (by simpa using z)
theorem uY(a:List Nat)(c:Nat):∀(l:List Nat) (k:Nat) (acc:Array Nat) (free:Nat),a.drop k=l->k+l.length=a.length->acc.size<=k->free<=k->
  (forIn (List.range' k (l.length+1)) (acc,free) (StrLaws.occBody (au a) (au [c]) a.length (a.length+1))).run.fst.toList=acc.toList++iC c k l
 |[],k,acc,free,hd,hk,hs,hf=>by
  simp only[Yb,Nat.zero_add,List.range'_one,Zs,List.forIn_nil];unfold StrLaws.occBody;rw[T8 (λz=>by have:=z.1.2;rw[bh]at this;simp at this hk;omega)];simp[iC]
 |x :: l,k,acc,free,hd,hk,hs,hf=>by
  rw[Xo]at hk;rw[Xo,List.range'_succ,Zs];have d:a.drop (k+1)=l:=by rw[<-YR,hd];rfl
  unfold StrLaws.occBody;have b:Builtin.Str.subAt (au a) (au [c]) k=decide (x=c):=by rw[sub_one,hd];simp
  by_cases f:x=c
  .rw[IC ⟨⟨⟨by simp;omega,by simpa using hf⟩,by rw[bh];simp;omega⟩,by rw[b];simpa using f⟩];have e:=uY a c l (k+1) (acc.push k) (k+(au [c]).length) d (by omega) (by simp;omega) (by rw[bh];simp);unfold StrLaws.occBody at e;simp only[iC,IC f];refine Eq.trans ?_ (e.trans (by simp));rfl
  .rw[T8 (λz=>by have:=z.2;rw[b]at this;exact f (by simpa using this))];have e:=uY a c l (k+1) acc free d (by omega) (by omega) (by omega);unfold StrLaws.occBody at e;simp only[iC,T8 f];exact Eq.trans rfl e
def nJ(a:List Nat)(c:Nat):Builtin.Str.occurrences (au a) (au [c]) 0 (au a).length ((au a).length+1)=iC c 0 a:=by
 rw[StrLaws.occ_eq,bh];have:=uY a c a 0 #[] 0 rfl (by simp) (by simp) (by simp);simpa using this
def kZ(a:List Nat)(i j:Nat):Builtin.Str.strSub (au a) i j=au ((a.drop i).take (j - i)):=by
 unfold Builtin.Str.strSub;show(⟨a.toArray.extract i j⟩:Str)=_;rw[aam,List.extract_eq_drop_take];rfl
theorem pB(a:List Nat)(c:Nat):∀(l cur:List Nat) (s k:Nat),a.drop s=cur++l->k=s+cur.length->k+l.length=a.length->
  ((s :: (iC c k l).map (· + 1)).zip (iC c k l++[a.length])).map (λp=>Builtin.Str.strSub (au a) p.1 p.2)=((cur++(Ev.aS c l).headD []) :: (Ev.aS c l).tail).map au
 |[],cur,s,k,hd,hk,hl=>by
  have e:(a.drop s).take (a.length - s)=cur:=by rw[hd,XZ,XQ (by simp at hl;omega)]
  simp[iC,Ev.aS,kZ,e]
 |x :: l,cur,s,k,hd,hk,hl=>by
  rw[Xo]at hl;have d:a.drop (k+1)=l:=by
   have g:a.drop (s+(cur.length+1))=l:=by
    rw[<-YR,hd,show cur++x :: l=(cur++[x])++l by simp,List.drop_left' (by simp)]
   rw[<-g,hk];rfl
  by_cases b:x=c
  .have f:=pB a c l [] (k+1) (k+1) d (by simp) (by omega);simp only[iC,IC b,M7,XM,ZD];rw[kZ,hd,show k - s=cur.length by omega,List.take_left' rfl];refine(Xp _ f).trans ?_;simp only[Ev.aS,IC b,List.headD_cons,XZ,List.tail_cons,Yz,M7]
   congr 1
   cases h:Ev.aS c l with
   |nil=>exact absurd h (by cases l<;>simp only[Ev.aS] <;> (try split) <;> (try split)<;>simp)
   |cons p ps=>simp
  .have f:=pB a c l (cur++[x]) s (k+1) (by rw[hd];simp) (by simp;omega) (by omega);simp only[iC,T8 b];rw[f];simp only[Ev.aS,T8 b];cases h:Ev.aS c l with
   |nil=>exact absurd h (by cases l<;>simp only[Ev.aS] <;> (try split) <;> (try split)<;>simp)
   |cons p ps=>simp
def lg(c:Nat)(l:List Nat):∃p ps,Ev.aS c l=p :: ps:=by
 cases h:Ev.aS c l with
 |nil=>exact absurd h (by cases l<;>simp only[Ev.aS] <;> (try split) <;> (try split)<;>simp)
 |cons p ps=>exact⟨p,ps,rfl⟩
def lu(a:List Nat)(c:Nat):Builtin.Str.partsBetween (au a) (iC c 0 a) (au [c]).length=(Ev.aS c a).map au:=by
 have:=pB a c a [] 0 0 (by simp) (by simp) (by simp);obtain⟨p,ps,e⟩:=lg c a;rw[e]at this ⊢;unfold Builtin.Str.partsBetween;rw[bh,bh];exact this.trans (by simp)
theorem Z5(c:Nat):∀(a:List Nat),∀p∈Ev.aS c a,p.length<=a.length
 |[],p,h=>by simp[Ev.aS]at h;simp[h]
 |x :: a,p,h=>by
  simp only[Ev.aS]at h;split at h
  .rcases List.mem_cons.mp h with rfl|h
   .simp
   .exact Xm (Z5 c a p h) (by simp)
  .split at h
   .rename_i q ps e;rcases List.mem_cons.mp h with rfl|h
    .have:=Z5 c a q (by rw[e];simp);simp;omega
    .exact Xm (Z5 c a p (by rw[e];simp[h])) (by simp)
   .simp at h;simp[h]
noncomputable def zF(a:D)(as:List D)(h:Hh):R D:=match as with
 |[b]=>(R.of (Ev.uC a b) h).bind λl c=>Ev.alloc l c
 |_=>.bad
theorem xU:∀(l:List (List Nat)) (k:Nat),Vals (l.map λp=>V.str (au p)) (strsFrom k (l.map au))
 |[],_=>.nil
 |_ :: l,k=>.cons ⟨_,rfl⟩ (xU l (k+1))
theorem aD.Lk{K:PySem.W.Frag}{H:Hp}{r:List Addr}:∀{ss:List (List Nat)},(∀l∈ss,l.length<=sizeLine)->aD K H r (ss.map D.str) (ss.map λl=>V.str (au l))
 |[],_=>.nil
 |l :: ss,h=>.cons ⟨rfl,h l (by simp)⟩ (aD.Lk λx a=>h x (by simp[a]))
def ri{x y:D}{l:List D}(e:Ev.uC x y=some l):∃a c,x=.str a/\y=.str [c]/\c<128/\l=(Ev.aS c a).map .str:=by
 unfold Ev.uC at e;split at e
 .split at e
  .rename_i b;cases e;exact⟨_,_,rfl,rfl,b,rfl⟩
  .cases e
 .cases e
def uZ {X:Cx}:oA X "str.split" (se X.K zF):=by
 intro i s σ H x xs v us Q I rx rs q;obtain⟨r,h,a,J,d,h',L,B,C,e,q⟩:=q
 match J,e with
 |[b],e=>
  simp only[zF]at e;obtain⟨l,h1,M,N⟩:=Ev.ah e;obtain⟨g,P⟩:=Ev.aE M;subst P;obtain⟨a,c,rfl,rfl,hc,rfl⟩:=ri g;simp only[RV]at B;obtain⟨rfl,F⟩:=B;obtain⟨t,rfl⟩:=rx;simp only[aD,RV]at C;obtain⟨y,w,rfl,⟨rfl,W⟩,rfl⟩:=C;obtain⟨u,rfl,Y⟩:=Zo rs;obtain⟨t2,rfl⟩:=Y;obtain⟨j,Z⟩:=q.lst N (aD.Lk λp hp=>Xm (Z5 c a p hp) F) L;have fin:∀(f:List Value) (k:Nat),Vals ((Ev.aS c a).map λp=>V.str (au p)) f->EP X i σ Q (.ref s.heap.objs.size) { s with toks:=k,heap:=s.heap.push { cls:=.type "list",data:=.seq f.toArray }}:=λf k A=>
   ⟨.ref s.heap.objs.size,_,I.laid (t':=k) (o:=.lst ((Ev.aS c a).map λp=>V.str (au p))) (λb ob q=>Tw _ q) (VG _) ⟨j,f,_,A,Xv _ rfl⟩,rfl,Z _ (I.hok.fresh (VG _))⟩
  have G:((au [c]).length==0)=false:=by rw[bh];rfl
  have one:Ev.aS c a=[a]->Vals ((Ev.aS c a).map λp=>V.str (au p)) [Value.str (au a) t]:=λz=>by rw[z];exact .cons ⟨_,rfl⟩ .nil
  cases c1:(decide ((au a).length<(au [c]).length) ||decide (Builtin.Str.strKind (au a)<Builtin.Str.strKind (au [c])))
  .cases c2:(Builtin.Str.occurrences (au a) (au [c]) 0 (au a).length ((au a).length+1)).isEmpty
   .refine Yn YX (Za _ _ _) ZN (ZF _ _) (meets_str_split_sep _ _ _ _ c1 G c2 (by rw[bh];exact F) ?_) ?_
    .rw[nJ,lu,XA];simpa using j
    .have A:=xU (Ev.aS c a) s.toks;rw[nJ,lu];exact fin _ _ A
   .refine Yn YX (Za _ _ _) ZN (ZF _ _) (meets_str_split_not_found _ _ _ _ c1 G c2) (fin _ s.toks (one ?_));rw[nJ]at c2;have g:=lu a c;rw[List.isEmpty_iff.mp c2]at g;unfold Builtin.Str.partsBetween at g;simp only[Y4,Yz,ZD,List.zip_nil_left,M7,kZ,bh,X6,aaq,List.take_length]at g;obtain⟨p,ps,e3⟩:=lg c a;rw[e3]at g ⊢;simp only[M7,List.cons.injEq]at g;obtain⟨e4,e5⟩:=g;rw[<-jE e4,List.map_eq_nil_iff.mp e5.symm]
  .refine Yn YX (Za _ _ _) ZN (ZF _ _) (meets_str_split_cannot_occur _ _ _ _ c1) (fin _ s.toks (one ?_));have k1:Builtin.Str.strKind (au [c])=1:=by unfold Builtin.Str.strKind;rw[IC (by simp[au];omega)]
   have k2:1<=Builtin.Str.strKind (au a):=by unfold Builtin.Str.strKind;split <;> (try split)<;>decide
   rw[k1,Xr (p:=Builtin.Str.strKind (au a)<1) (by omega),ZI,bh,bh]at c1;have:a=[]:=by simpa using c1
   rw[this];rfl
section
variable{G:Tb}{n:Nat}{sc:Scope}{N:List Str}{df:Bool}{m:List Nat}{a b c:E}{xa xb:Expr}{pos:Pos}
def DB{apos:Pos}(ha:JE G n sc N df m a xa)(hs:JA G n sc N df m (.cons b .nil) [xb])
  (hbase:∀env:Env,attributeBase xa "split" env (eval xa env)=eval xa env:=by intro _;rfl)
  (hfew:∀env:Env,((backTo pos (starEach [xb] env)).all (λx=>!x.1)&&(backToKw pos (keywordEach [] env)).all (λx=>x.1.isSome)
   &&decide ([xb].length+([]:List Keyword).length+(if ([]:List Keyword).isEmpty then 0 else 1)<30))=true:=by intro _;rfl)
  (hline:(apos.endLine==pos.line)=true:=by rfl) (hst:∀env:Env,starEach [xb] env=(false,eval xb env) :: starEach [] env:=by intro _;rfl) (hpl:∀env:Env,(backTo pos (starEach [] env)).any (·.1)=false:=by intro _;rfl) :
  JE G n sc N df m (.eG (.iN a b)) (.Call (.Attribute xa "split" apos) [xb] [] pos):=λX g=>
 PE.of (EN (T:="str") (id:="str.split") Z1 YX F.type_str_split uZ (ha X g) (hs X g) (hbase _) (hfew _) hline (hst _) (hpl _)) λs H Q q=>by
  obtain⟨r,k,h,d,B,o,C,e,q⟩:=q;simp only[Ev.ev,Ev.cI]at e;obtain⟨sx,p,I,J⟩:=Ev.ah e;obtain⟨x,z,K,L⟩:=Ev.ah I;obtain⟨y,h2,M,P⟩:=Ev.ah L;obtain⟨W,Y⟩:=Ev.aE P;subst Y;obtain⟨l,A,rfl⟩:=Option.map_eq_some_iff.mp W;obtain⟨t,_,rfl,_⟩:=ri A;refine⟨r,k,h,.str t,z,o,C,K,λv H1 Z f i f1=>⟨?_,?_⟩⟩
  .simp only[RV]at f;obtain⟨rfl,_⟩:=f;rfl
  .refine⟨Z,k,z,[y],p,o.mono f1,i,by simp only[Ev.bY,M,Ev.ak],λvs H2 r2 v2 j f2=>?_⟩;exact⟨r2,p,.str t,[y],d,B,j,f.mono f2,v2,by simp only[zF,A];exact J,q.later (f1.trans f2)⟩
noncomputable def QN:D->Option Nat
 |.str [c]=>some c
 |_=>none
noncomputable def QO:D->Bool
 |.str _=>true
 |_=>false
noncomputable def zG:List (D×D)->Option (List Nat)
 |[]=>some []
 | (k,v) :: r=>if QO v then (QN k).bind λc=>(zG r).map λl=>c :: l else none
theorem u0{c:Nat}:∀{kvs:List (D×D)}{ks:List Nat},zG kvs=some ks->(PySem.Spec.lookup (.str (au [c])) (tabOf kvs)).isSome=ks.contains c
 |[],ks,e=>by cases e;rfl
 | (k,v) :: l,ks,e=>by
  simp only[zG]at e;split at e
  case isFalse=>cases e
  rename_i g;obtain⟨d,f,i⟩:=Option.bind_eq_some_iff.mp e;obtain⟨q,j,rfl⟩:=Option.map_eq_some_iff.mp i;have o:k=.str [d]:=by
   unfold QN at f;split at f
   .cases f;rfl
   .cases f
  have ev:∃w,v=.str w:=by
   unfold QO at g;split at g
   .exact⟨_,rfl⟩
   .cases g
  obtain⟨w,rfl⟩:=ev;subst o;simp only[tabOf,PySem.Spec.lookup];rw[ZC,aav];by_cases h:d=c
  .subst h;simp
  .have p:¬ au [d]=au [c]:=λz=>h (by simpa using jE z);rw[Xr p,show(c==d)=false from by simp;exact λz=>h z.symm];exact u0 j
def Ll {x:Str}{kvs:List (D×D)}{ks:List Nat}{p:Pos}(hm:(x,kvs)∈G.dk) (ha:JE G n sc N df m a xa) (hk:zG kvs=some ks:=by decide +kernel) (hg:sc.names.lookup x=some .globalImplicit:=by rfl) (hd:(x==("__debug__" : Str))=false:=by decide) :
  JT G n sc N df m (.cmp .eE a (.c (.str ks))) (.Compare xa [.NotIn] [.Name x p] pos):=λX g=>by
 obtain⟨l,o,i⟩:=g.dk x kvs hm;have M:PC X .NotIn xa (.Name x p) (λσ H Q=>tJ X.K m (Ev.run G.F G.w n) a σ H λy H1=>∃c,y=.str (au [c])/\Q (.bl (!ks.contains c)) H1):=by
  intro f s σ H Q I h;refine aX (ha X g f s σ H _ I h) λiv s1 ⟨y,H1,I1,P,c,W,Y⟩=>aX (qK (v:=.ref l) (pos:=p) (g.gl hg) o rfl hd f s1 σ H1 (λv H2=>v=.ref l/\Q (.bl (!ks.contains c)) H2) I1 ⟨rfl,Y⟩) λu s2 ⟨z,H2,I2,Z,ez,q2⟩=>?_;subst W;subst ez;obtain rfl:u=Value.ref l:=Z;obtain⟨tk,rfl⟩:=P;refine notin_strTab (i s2.heap I2.fR) ?_;rw[u0 hk];exact⟨.bl _,H2,I2.tok _,rfl,q2⟩
 refine PT.of (Jb M) λs H Q q=>?_;obtain⟨r,fr,h,k,B,sr,hr,e,q⟩:=q;simp only[Ev.aI,Ev.ev]at e;obtain⟨d,h1,e1,e9⟩:=Ev.ah e;obtain⟨y,h2,e2,C⟩:=Ev.ah e1;simp only[Ev.ak]at C;obtain⟨e4,y0⟩:=Ev.aE C;obtain⟨J,y1⟩:=Ev.aE e9;subst y0;subst y1;obtain⟨b,e6,rfl⟩:=Option.map_eq_some_iff.mp e4;simp only[Ev.truthy,Ze]at J;subst J;have e7:(Ev.isin y (.str ks) B).map (!·)=some b:=e6;obtain⟨b',j,rfl⟩:=Option.map_eq_some_iff.mp e7;have hy:∃c,y=.str [c]/\b'=ks.contains c:=by
  unfold Ev.isin at j;dsimp only at j;split at j
  .cases j;exact⟨_,rfl,rfl⟩
  .cases j
 obtain⟨c,rfl,rfl⟩:=hy;exact⟨r,fr,h,.str [c],B,sr,hr,e2,λv H1 r1 L A f1=>by
  simp only[RV]at L;exact⟨c,L.1,_,rfl,q _ _ A f1⟩⟩
end
end Sm
namespace L2
open PySem PySem.Spec PyProof.Rows
section
variable{X:Cx}
def mU{α:Type}{M:Model}{A:Around}{t:Sem α}{Q Q':α->Shared->Prop}{E:Value->Shared->Prop}{s:Shared}(k:1<=s.toks)(h:wpAny M A t Q E s)(hQ:∀a s',1<=s'.toks->Q a s'->Q' a s'):wpAny M A t Q' E s:=
 Yu (wpAny_toks_of k h) (λa s q=>hQ a s q.1 q.2) λe s q=>q.2
def jY(X:Cx)(e:Expr)(t:TE):Prop:=
 ∀(pins:List (Addr×Obj)) (s:Shared) (σ:St) (H:Hp) (Q:VK),1<=s.toks->Inv X pins σ H s->t σ H Q->wpAny (model X.prog X.w) X.A (eval e X.env) (EP X pins σ Q) X.xe s
def u5(X:Cx)(e:Expr)(t:TT):Prop:=
 ∀(pins:List (Addr×Obj)) (s:Shared) (σ:St) (H:Hp) (Q:Bool->Hp->Prop),1<=s.toks->Inv X pins σ H s->t σ H Q->wpAny (model X.prog X.w) X.A (isTrue e X.env (eval e X.env)) (TP X pins σ Q) X.xe s
def u6(X:Cx)(es:List Expr)(t:TA):Prop:=
 ∀(pos:Pos) (pins:List (Addr×Obj)) (s:Shared) (σ:St) (H:Hp) (Q:List V->Hp->Prop),1<=s.toks->Inv X pins σ H s->t σ H Q->wpAny (model X.prog X.w) X.A (spliced (backTo pos (starEach es X.env))) (AP X pins σ Q) X.xe s
def pX(X:Cx)(st:Stmt)(t:TS):Prop:=
 ∀(pins:List (Addr×Obj)) (s:Shared) (σ:St) (H:Hp) (D:Ends),1<=s.toks->Inv X pins σ H s->t D σ H->wpAny (model X.prog X.w) X.A (exec st X.env) (SP X pins D) X.xe s
def ly(X:Cx)(st:List Stmt)(t:TS):Prop:=
 ∀(pins:List (Addr×Obj)) (s:Shared) (σ:St) (H:Hp) (D:Ends),1<=s.toks->Inv X pins σ H s->t D σ H->wpAny (model X.prog X.w) X.A (execs st X.env) (SP X pins D) X.xe s
variable{a b e o:Expr}{es:List Expr}{pos cpos apos p:Pos}{te ta tb to:TE}{t u:TS}{tA:TA}{st:Stmt}{rest:List Stmt}
def jY.of{t t':TE}(h:jY X e t)(w:∀s H Q,t' s H Q->t s H Q):jY X e t':=λpins s σ H Q k I q=>h pins s σ H Q k I (w _ _ _ q)
def u5.of{t t':TT}(h:u5 X e t)(w:∀s H Q,t' s H Q->t s H Q):u5 X e t':=λpins s σ H Q k I q=>h pins s σ H Q k I (w _ _ _ q)
def u6.of{t t':TA}(h:u6 X es t)(w:∀s H Q,t' s H Q->t s H Q):u6 X es t':=λpos pins s σ H Q k I q=>h pos pins s σ H Q k I (w _ _ _ q)
def pX.of{t t':TS}(h:pX X st t)(w:∀Q s H,t' Q s H->t Q s H):pX X st t':=λpins s σ H Q k I q=>h pins s σ H Q k I (w _ _ _ q)
def ly.of{t t':TS}(h:ly X rest t)(w:∀Q s H,t' Q s H->t Q s H):ly X rest t':=λpins s σ H Q k I q=>h pins s σ H Q k I (w _ _ _ q)
def By(h1:pX X st t)(h2:ly X rest u):ly X (st :: rest) (CT t u):=by
 intro c s σ H D k I h;refine ZY (mU k (h1 c s σ H { D with nx:=u D } k I h) λf s1 d q=>?_);cases f with
 |next=>
  obtain⟨g,H',I',q⟩:=q;exact h2 c s1 g H' D d I' q
 |ret v=>exact q
 |brk=>exact q
 |cont=>exact q
def Lm{c:Expr}{a b:List Stmt}{tc:TT}(hc:u5 X c tc)(ha:gq X a t)(hb:gq X b u):pX X (.If c a b pos) (Ji tc t u):=by
 intro f s σ H D k I h;refine wpAny_If (aX (hc f s σ H _ k I h) λd s1 ⟨H1,I1,g⟩=>?_);cases d with
 |true=>exact ha f s1 σ H1 D I1 g
 |false=>exact hb f s1 σ H1 D I1 g
def DC{op:CmpOp}{r:R2}(ho:cH X (compareOp op) r)(ha:jY X a ta)(hb:PE X b tb)(hm:behindInMarks op b=false):u5 X (.Compare a [op] [b] pos) (tO (xq r ta tb)):=by
 intro d s σ H Q k I h;refine Zn (aX (ha d s σ H _ k I h) λv s1 ⟨x,H1,I1,f,g⟩=>aX (hb d s1 σ H1 _ I1 g) λu s2 ⟨y,H2,I2,i,j⟩=>
  aX (ho d s2 σ H2 x y v u _ I2 f i j) λc s3 ⟨z,H3,I3,l,k,e,q⟩=>?_) hm
 subst e;cases l;exact X0 ⟨H3,I3,q⟩
def DE(ha:jY X e te)(hr:PA X es tA)(hs:starEach (e :: es) X.env=(false,eval e X.env) :: starEach es X.env:=by rfl):u6 X (e :: es) (tP te tA):=by
 intro pos c s σ H Q k I h;rw[hs];show wpAny _ _ (spliced ((false,eval e X.env) :: backTo pos (starEach es X.env))) _ _ s;refine Yi (aX (ha c s σ H _ k I h) λu s1 ⟨x,H1,I1,d,f⟩=>?_);exact aX (hr pos c s1 σ H1 _ I1 f) λl s2 ⟨g,H2,I2,i,j⟩=>⟨x :: g,H2,I2,.cons d i,j⟩
def BA {id:String}{r:List V->Hp->VK->Prop}{x:Str}(hc:dh X (.builtin id) r) (hg:Gl X x) (hm:X.mg x=none) (hv:bootBuiltins x=some (.builtin id)) (ha:u6 X (e :: es) tA) (hn:x≠"__name__" :=by decide) (hdb:(x==("__debug__" : Str))=false:=by decide)
  (he:starEach (e :: es) X.env=(false,eval e X.env) :: starEach es X.env:=by rfl) (hpl:(backTo pos (starEach es X.env)).any (·.1)=false:=by rfl):jY X (.Call (.Name x p) (e :: es) [] pos) (EM r tA):=by
 intro c s σ H Q k I h;refine Yx (iZ I hg hm hv ?_ hn hdb);exact Zw (aX (ha pos c s σ H _ k I h) λd s1 ⟨f,H1,I1,g,i⟩=>hc c s1 σ H1 f d Q I1 g i) he hpl
def Ln {name:Str}{T id:String}{r:V->List V->Hp->VK->Prop}(pa:PlainAttrs T) (slot:Slot T name id) (hty:typeOf (.builtin id)=pure (.type "method_descriptor")) (hm:oA X id r) (ho:jY X o to) (ha:PA X (e :: es) tA)
  (hbase:attributeBase o name X.env (eval o X.env)=eval o X.env:=by rfl)
  (hfew:((backTo cpos (starEach (e :: es) X.env)).all (λx=>!x.1)&&(backToKw cpos (keywordEach [] X.env)).all (λx=>x.1.isSome)
   &&decide ((e :: es).length+([]:List Keyword).length+(if ([]:List Keyword).isEmpty then 0 else 1)<30))=true:=by rfl)
  (hline:(apos.endLine==cpos.line)=true:=by rfl) (hs:starEach (e :: es) X.env=(false,eval e X.env) :: starEach es X.env:=by rfl) (hplain:(backTo cpos (starEach es X.env)).any (·.1)=false:=by rfl) :
  jY X (.Call (.Attribute o name apos) (e :: es) [] cpos) (Qy X.K T r to tA):=by
 intro c s σ H Q k I h;refine Zh hbase hfew hline rfl (aX (ho c s σ H _ k I h) λv s1 ⟨x,H1,I1,d,g,i⟩=>?_);obtain⟨j,l⟩:=uy I1 d g;refine⟨T,id,pa,slot,hty,j,l,?_⟩;have f:=ha cpos c s1 σ H1 _ I1 i;rw[hs]at f ⊢;refine YN (by show(false || (backTo cpos (starEach es X.env)).any (·.1))=false;rw[hplain]<;>rfl) (Zv ?_);exact aX f λq s2 ⟨y,H2,I2,z,A⟩=>hm c s2 σ H2 x y v q Q I2 d z A
def Hi{tg iter:Expr}{body:List Stmt}{wi:TI}{g:TG}{tb:TS}{pos:Pos}(hp:PassesOwn (model X.prog X.w) X.A X.env X.xe)(hc:X.calm=true)(hi:PI X tg iter wi)(hg:PG X tg g)(hb:ly X body tb)
  (hs:∀x,foldedSetIterable iter X.env x=pure x:=by intro _;rfl):pX X (.For tg iter body [] pos) (Jp wi g tb):=by
 intro c s σ H D k I h;refine wpAny_For (mU k (hi c s σ H _ I h) λv s1 Q Y=>mU Q Y λitv s2 Z h2=>?_) hs;obtain⟨it,y,M,J,H2,e,I2,T,C,f2,W,⟨m0,w0⟩,z⟩:=h2;subst e;have F:∀{H':Hp},(∀b∈y,H' b=none)->∀b∈y,gK X c H' b:=λhn b hb=>⟨hn b hb,(f2 b hb).2⟩
 refine codeAny_forLoop_any (λn G=>1<=G.toks/\∃i σ' H',Inv X c σ' H' G/\M i G.heap/\(∀b∈y,H' b=none)/\W i n σ' H') ?_ m0 ⟨Z,0,σ,H2,I2,C,λb hb=>(f2 b hb).1,w0⟩;rintro n s3 ⟨k3,i,σ3,H3,I3,st3,cy,w3⟩;rcases z i n σ3 H3 w3 with ⟨B,qn⟩|⟨go,N,hN,step⟩
 .refine XT hp (aX (T.done X rfl rfl rfl hc i c s3 σ3 H3 X.xe I3 (F cy) st3 B) λr s4 ⟨K,I4⟩=>?_);subst K;exact Zp ⟨σ3,H3,I4,qn⟩
 .refine XT hp (mU k3 (T.item X rfl rfl rfl hc i c s3 σ3 H3 X.xe I3 (F cy) st3 go) λr s4 k4 ⟨u,K,h4⟩=>?_);subst K;refine XT hp (mU k4 h4 λ_ s5 k5 ⟨x,H5,I5,r5,y5,L,ow⟩=>?_);have Jr:=I5.pinned (F ow) (T.obj _ _ L);refine XT hp (mU k5 (hg _ s5 σ3 H5 x u _ Jr r5 (step x H5 y5)) λ_ s6 P ⟨Js,H6,I6,q6⟩=>?_);refine XT hp (mU P (hb _ s6 Js H6 _ P I6 q6) λf s7 k7 q=>?_);have j:∀{l:St} {H7:Hp},Inv X (c++kC y s5.heap) l H7 s7->N l H7->∃m,m<n/\1<=s7.toks/\∃i σ' H',Inv X c σ' H' s7/\M i s7.heap/\(∀b∈y,H' b=none)/\W i m σ' H':=λ{l H7} I7 n7=>by
   obtain⟨m',hm,w7⟩:=hN l H7 n7;refine⟨m',hm,k7,i+1,l,H7,I7.gM,T.keep _ _ _ L λb hb o e=>(I7.pin (b,o) (Xu _ (Xu _ (gh hb e)))).1,λb hb=>?_,w7⟩;obtain⟨o,e,d⟩:=T.obj _ _ L b hb;exact(I7.pin (b,o) (Xu _ (Xu _ (gh hb e)))).2.1
  cases f with
  |next=>obtain⟨l,H7,I7,n7⟩:=q;exact j I7 n7
  |cont=>obtain⟨l,H7,I7,n7⟩:=q;exact j I7 n7
  |brk=>obtain⟨l,H7,I7,q⟩:=q;exact⟨l,H7,I7.gM,q⟩
  |ret v=>obtain⟨x7,l,H7,I7,r7,q⟩:=q;exact⟨x7,l,H7,I7.gM,r7,q⟩
def BB{x:Str}{pos':Pos}{i:Nat}(hN:X.N.Nodup)(hi:X.N[i]?=some x)(hx:Loc X.env.scope x)
  (he:∀(pins:List (Addr×Obj)) (s:Shared) (σ:St) (H:Hp) (Q:VK),Inv X pins σ H s->te σ H Q->wpAny (model X.prog X.w) X.A (eval e X.env) (λv s'=>EP X pins σ Q v s'/\1<=s'.toks) X.xe s)
  (h2:ly X rest u) (hs:swapsWith e (some (.Name x pos')) pos.line X.env=pure false:=by rfl) (hf:X.fn x=true\/X.env.scope.names.lookup x=some .local:=by first|exact .inl rfl|exact .inr rfl) :
  gq X (.Assign [.Name x pos'] e pos :: rest) (CT (Jl te (yV i)) u):=by
 intro pins s σ H D I h;refine ZY (wpAny_Assign_Name (aX (he pins s σ H _ I h) λv s1 ⟨⟨y,H1,I1,d,f⟩,g⟩=>?_) hs);refine mU g (o5 (Q:=λ_ s2=>∃c H',Inv X pins c H' s2/\u D c H') I1 hN hi hx d (λs2 I2=>⟨_,H1,I2,f⟩) hf) λ_ s2 j q=>?_;obtain⟨c,H',I',q⟩:=q;exact h2 pins s2 c H' D j I' q
noncomputable def S9(y z:Str)(to:TE):TE:=λσ H Q=>to σ H λx H1=>∃a,x=.str a/\a.length<=100000/\Q (.str (Txt.replace a y z)) H1
def Lo{y z:Str}{j1 j2:Nat}{p1 p2:Pos}(hyz:(y==z)=false)(hz:z.length<=1)(ho:jY X o to)
  (hbase:attributeBase o "replace" X.env (eval o X.env)=eval o X.env:=by rfl)
  (hfew:((backTo cpos (starEach [.Constant (.str y) j1 p1,.Constant (.str z) j2 p2] X.env)).all (λx=>!x.1)&&(backToKw cpos (keywordEach [] X.env)).all (λx=>x.1.isSome)
   &&decide ([Expr.Constant (.str y) j1 p1,.Constant (.str z) j2 p2].length+([]:List Keyword).length+(if ([]:List Keyword).isEmpty then 0 else 1)<30))=true:=by rfl)
  (hline:(apos.endLine==cpos.line)=true:=by rfl) :
  jY X (.Call (.Attribute o "replace" apos) [.Constant (.str y) j1 p1,.Constant (.str z) j2 p2] [] cpos) (S9 y z to):=by
 intro c s σ H Q k I h;refine Zh hbase hfew hline rfl (mU k (ho c s σ H _ k I h) λv s1 d ⟨x,H1,I1,f,a,ex,i,g⟩=>?_);subst ex;obtain⟨j,rfl⟩:=f;refine⟨"str","str.replace",Z1,F.slot_str_replace,F.type_str_replace,Za _ _ _,by simp,?_⟩;refine YN rfl (Zv ?_);refine Yi (ZG (k:=j1) (pos:=p1) (Yi (ZG (k:=j2) (pos:=p2) (ZO ?_))));refine SC.replace (ZW d) (Nat.succ_ne_zero _) (XJ (YU _)) hyz (by
  have:(a.length+1)*z.length<=(a.length+1)*1:=Nat.mul_le_mul_left _ hz;omega) λl q=>?_
 exact⟨.str (Txt.replace a y z),H1,(I1.tok _),⟨_,rfl⟩,g⟩
end
section
variable{X:Cx}{e:Expr}{es:List Expr}{te:TE}{tA:TA}{pos:Pos}
def mT(X:Cx)(es:List Expr)(t:TA):Prop:=
 ∀(pos:Pos) (pins:List (Addr×Obj)) (s:Shared) (σ:St) (H:Hp) (Q:List V->Hp->Prop),Inv X pins σ H s->t σ H Q->wpAny (model X.prog X.w) X.A (spliced (backTo pos (starEach es X.env))) (λb a=>AP X pins σ Q b a/\1<=a.toks) X.xe s
def mT.of{t t':TA}(h:mT X es t)(w:∀s H Q,t' s H Q->t s H Q):mT X es t':=λpos pins s σ H Q I q=>h pos pins s σ H Q I (w _ _ _ q)
def DF(ha:PE X e te)(hr:mT X es tA)(hs:starEach (e :: es) X.env=(false,eval e X.env) :: starEach es X.env:=by rfl):mT X (e :: es) (tP te tA):=by
 intro pos a s σ H Q I h;rw[hs];show wpAny _ _ (spliced ((false,eval e X.env) :: backTo pos (starEach es X.env))) _ _ s;refine Yi (aX (ha a s σ H _ I h) λu s1 ⟨x,H1,I1,b,c⟩=>?_);exact aX (hr pos a s1 σ H1 _ I1 c) λi s2 ⟨⟨d,H2,I2,f,g⟩,k⟩=>⟨⟨x :: d,H2,I2,.cons b f,g⟩,k⟩
def Hj{i:Int}{j:Nat}{p0:Pos}(hr:PA X es tA)(hs:starEach (.Constant (.int i) j p0 :: es) X.env=(false,eval (.Constant (.int i) j p0) X.env) :: starEach es X.env:=by rfl):mT X (.Constant (.int i) j p0 :: es) (tP (tC (.int i)) tA):=by
 intro pos a s σ H Q I h;rw[hs];show wpAny _ _ (spliced ((false,eval (.Constant (.int i) j p0) X.env) :: backTo pos (starEach es X.env))) _ _ s;refine Yi (wpAny_Constant_int (k:=j) (pos:=p0) ?_);have I1:Inv X a σ H { s with toks:=s.toks+1 }:=I.tok _;refine mU (Nat.succ_le_succ (YE s.toks)) (hr pos a _ σ H _ I1 h) λf s2 k ⟨b,H2,I2,c,d⟩=>⟨⟨.int i :: b,H2,I2,.cons ⟨_,rfl⟩ c,d⟩,k⟩
end
end L2
namespace Sm
open PySem PySem.Spec PyProof.Rows L2 PySem.SeqAt
open Ev (D O Hh Fr R aP E Es Eo T S Ss Fl Src bO bz TY BI ME)
section
variable(G:Tb)(n:Nat)(sc:Scope)(N:List Str)(df:Bool)(m:List Nat)
def lY(e:E)(x:Expr):Prop:=∀X,Good G n sc N df X->jY X x (tJ X.K m (Ev.run G.F G.w n) e)
def BC(e:E)(x:Expr):Prop:=∀X,Good G n sc N df X->u5 X x (A2 X.K m (Ev.run G.F G.w n) e)
def Lp(es:Es)(xs:List Expr):Prop:=∀X,Good G n sc N df X->u6 X xs (xA X.K m (Ev.run G.F G.w n) es)
def xV(es:Es)(xs:List Expr):Prop:=∀X,Good G n sc N df X->mT X xs (xA X.K m (Ev.run G.F G.w n) es)
def u7(st:S)(x:Stmt):Prop:=∀X,Good G n sc N df X->pX X x (Kp X.K m (Ev.run G.F G.w n) G.w st)
def pC(ss:Ss)(xs:List Stmt):Prop:=∀X,Good G n sc N df X->ly X xs (zl X.K m (Ev.run G.F G.w n) G.w ss)
end
section
variable{K:PySem.W.Frag}{G:Tb}{n:Nat}{sc:Scope}{N:List Str}{df:Bool}{m:List Nat}{a b c:E}{xa xb tg:Expr}{pos:Pos}
def PJ(h:JE G n sc N df m a xa):lY G n sc N df m a xa:=λX g pins s σ H Q _ I q=>h X g pins s σ H Q I q
def PK(h:JT G n sc N df m a xa):BC G n sc N df m a xa:=λX g pins s σ H Q _ I q=>h X g pins s σ H Q I q
def PL{st:S}{x:Stmt}(h:JS G n sc N df m st x):u7 G n sc N df m st x:=λX g pins s σ H Q _ I q=>h X g pins s σ H Q I q
def Lq{ss:Ss}{xs:List Stmt}(h:jd G n sc N df m ss xs):pC G n sc N df m ss xs:=λX g pins s σ H Q _ I q=>h X g pins s σ H Q I q
def BD{st:S}{ss:Ss}{x:Stmt}{xs:List Stmt}(h1:u7 G n sc N df m st x)(h2:pC G n sc N df m ss xs):pC G n sc N df m (.cons st ss) (x :: xs):=λX g=>ly.of (By (h1 X g) (h2 X g)) λQ s H q=>by
 obtain⟨r,k,h,fl,l,o,p,y,e,q⟩:=q;simp only[Ev.exs]at e;obtain⟨⟨i,j⟩,h1,z,e⟩:=Ev.ah e;refine⟨r,k,h,i,j,h1,p,y,z,?_⟩;cases i with
 |nx=>exact λs1 H1 A B f f1=>⟨A,j,h1,fl,l,o,B,f,e,q.later f1⟩
 |bk=>cases e;exact q
 |ct=>cases e;exact q
 |ret d=>cases e;exact q
def Hl{ta tb:Ss}{ya yb:List Stmt}(hc:BC G n sc N df m a xa)(h1:jd G n sc N df m ta ya)(h2:jd G n sc N df m tb yb):u7 G n sc N df m (.iff a ta tb) (.If xa ya yb pos):=λX g=>pX.of (Lm (hc X g) (h1 X g) (h2 X g)) λQ s H q=>by
 obtain⟨r,f,h,fl,l,o,i,x,e,q⟩:=q;simp only[Ev.jc]at e;obtain⟨k,j,y,e⟩:=Ev.ah e;refine⟨r,f,h,k,j,i,x,y,λH1 p d f1=>?_⟩;cases k with
 |true=>exact⟨p,f,j,fl,l,o,i.mono f1,d,e,q.later f1⟩
 |false=>exact⟨p,f,j,fl,l,o,i.mono f1,d,e,q.later f1⟩
def Ho{t:T}{it:Ev.It}{tb:Ss}{yb:List Stmt}(hi:JI G n sc N df m it tg xa)(hg:JG G n sc N df m t tg)(h1:pC G n sc N df m tb yb)(hs:∀(env:Env) x,foldedSetIterable xa env x=pure x:=by intro _ _;rfl) :
  u7 G n sc N df m (.for t it tb) (.For tg xa yb [] pos):=λX g=>pX.of (Hi g.pass g.calm (hi X g) (hg X g) (h1 X g) (hs _)) λQ s H q=>by
 obtain⟨r,f,h,fl,p,y,j,z,e,q⟩:=q;rw[pT]at e;obtain⟨src,l,A,e⟩:=Ev.ah e;exact⟨r,f,h,src,l,j,z,A,λJ H1 o d f1 B=>⟨FW X.K m (qS (Ev.run G.F G.w n) G.w t tb) src o H1 (fl,p) y,⟨src.1.length,rfl,YE _,o,f,l,j.mono f1,d,.refl,by rw[X6];exact e⟩,λi k s3 H3 C=>uI B q f1 C⟩⟩
def Hq{o:bz}{op:CmpOp}(ho:∀X,Good G n sc N df X->cH X (compareOp op) (eT X.K (cT o)))(ha:lY G n sc N df m a xa)(hb:JE G n sc N df m b xb)(hm:behindInMarks op xb=false):BC G n sc N df m (.cmp o a b) (.Compare xa [op] [xb] pos):=
 λX g=>u5.of (DC (ho X g) (ha X g) (hb X g) hm) λs H Q q=>by
  obtain⟨r,l,h,k,J,z,A,e,q⟩:=q;simp only[Ev.aI]at e;obtain⟨d,L,p,e⟩:=Ev.ah e;have i:=p;simp only[Ev.ev]at i;obtain⟨x,M,_,i⟩:=Ev.ah i;obtain⟨y,B,_,i⟩:=Ev.ah i;obtain⟨P,Y,C,Z⟩:=gY (o:=o) (show cT o x y B=_ from i);subst C;simp only[Ev.truthy]at e;cases e;refine mG (e':=.cmp o a b) (f:=cT o) (λl h=>by simp only[Ev.ev,cT]) s H _ ⟨r,l,h,.bl k,_,z,A,p,λv H1 F I j f1=>?_⟩;exact⟨k,I,q H1 F j f1⟩
def DG{es:Es}{xs:List Expr}(ha:lY G n sc N df m a xa)(hs:JA G n sc N df m es xs)(hst:∀env:Env,starEach (xa :: xs) env=(false,eval xa env) :: starEach xs env:=by intro _;rfl):Lp G n sc N df m (.cons a es) (xa :: xs):=
 λX g=>u6.of (DE (ha X g) (hs X g) (hst _)) λs H Q q=>by
  obtain⟨r,k,h,ds,F,l,p,e,q⟩:=q;simp only[Ev.bY]at e;obtain⟨d,o,x,e⟩:=Ev.ah e;obtain⟨f,I,y,e⟩:=Ev.ah e;cases e;refine⟨r,k,h,d,o,l,p,x,λv H1 z A i f1=>?_⟩;refine⟨z,k,o,f,_,l.mono f1,i,y,λJ H2 B C j f2=>?_⟩;exact q _ H2 B (.cons (A.mono f2) C) j (f1.trans f2)
def Lr{k:BI}{es:Es}{x:Str}{id:String}{e0:Expr}{xs:List Expr}{p:Pos}(hc:∀X,Good G n sc N df X->dh X (.builtin id) (kG X.K (Ev.b7 k)))(hs:Lp G n sc N df m es (e0 :: xs))(hb:x∈G.bl:=by decide +kernel)
  (hg:sc.names.lookup x=some .globalImplicit:=by rfl) (hv:bootBuiltins x=some (.builtin id)) (hn:x≠"__name__" :=by decide) (hd:(x==("__debug__" : Str))=false:=by decide)
  (hst:∀env:Env,starEach (e0 :: xs) env=(false,eval e0 env) :: starEach xs env:=by intro _;rfl) (hpl:∀env:Env,(backTo pos (starEach xs env)).any (·.1)=false:=by intro _;rfl) :
  lY G n sc N df m (.bi k es) (.Call (.Name x p) (e0 :: xs) [] pos):=
 λX g=>jY.of (BA (hc X g) (g.gl hg) (g.bl x hb) hv (hs X g) hn hd (hst _) (hpl _)) (qQ λd h=>by simp only[Ev.ev])
def BE{apos:Pos}(ha:lY G n sc N df m a xa)(hs:JA G n sc N df m (.cons b .nil) [xb])
  (hbase:∀env:Env,attributeBase xa "split" env (eval xa env)=eval xa env:=by intro _;rfl)
  (hfew:∀env:Env,((backTo pos (starEach [xb] env)).all (λx=>!x.1)&&(backToKw pos (keywordEach [] env)).all (λx=>x.1.isSome)
   &&decide ([xb].length+([]:List Keyword).length+(if ([]:List Keyword).isEmpty then 0 else 1)<30))=true:=by intro _;rfl)
  (hline:(apos.endLine==pos.line)=true:=by rfl) (hst:∀env:Env,starEach [xb] env=(false,eval xb env) :: starEach [] env:=by intro _;rfl) (hpl:∀env:Env,(backTo pos (starEach [] env)).any (·.1)=false:=by intro _;rfl) :
  lY G n sc N df m (.eG (.iN a b)) (.Call (.Attribute xa "split" apos) [xb] [] pos):=λX g=>
 jY.of (Ln (T:="str") (id:="str.split") Z1 YX F.type_str_split uZ (ha X g) (hs X g) (hbase _) (hfew _) hline (hst _) (hpl _)) λs H Q q=>by
  obtain⟨r,k,h,d,B,o,C,e,q⟩:=q;simp only[Ev.ev,Ev.cI]at e;obtain⟨sx,p,I,J⟩:=Ev.ah e;obtain⟨x,z,L,M⟩:=Ev.ah I;obtain⟨y,h2,P,Y⟩:=Ev.ah M;obtain⟨Z,y0⟩:=Ev.aE Y;subst y0;obtain⟨l,A,rfl⟩:=Option.map_eq_some_iff.mp Z;obtain⟨t,_,rfl,_⟩:=ri A;refine⟨r,k,h,.str t,z,o,C,L,λv H1 r1 f i f1=>⟨?_,?_⟩⟩
  .simp only[RV]at f;obtain⟨rfl,_⟩:=f;rfl
  .refine⟨r1,k,z,[y],p,o.mono f1,i,by simp only[Ev.bY,P,Ev.ak],λvs H2 r2 v2 j f2=>?_⟩;exact⟨r2,p,.str t,[y],d,B,j,f.mono f2,v2,by simp only[zF,A];exact J,q.later (f1.trans f2)⟩
def DH{es:Es}{xs:List Expr}(ha:JE G n sc N df m a xa)(hs:xV G n sc N df m es xs)(hst:∀env:Env,starEach (xa :: xs) env=(false,eval xa env) :: starEach xs env:=by intro _;rfl):xV G n sc N df m (.cons a es) (xa :: xs):=
 λX g=>mT.of (DF (ha X g) (hs X g) (hst _)) λs H Q q=>by
  obtain⟨r,k,h,ds,F,l,p,e,q⟩:=q;simp only[Ev.bY]at e;obtain⟨d,o,x,e⟩:=Ev.ah e;obtain⟨f,I,y,e⟩:=Ev.ah e;cases e;refine⟨r,k,h,d,o,l,p,x,λv H1 z A i f1=>?_⟩;refine⟨z,k,o,f,_,l.mono f1,i,y,λJ H2 B C j f2=>?_⟩;exact q _ H2 B (.cons (A.mono f2) C) j (f1.trans f2)
def Hr{es:Es}{xs:List Expr}{i:Int}{j:Nat}{p0:Pos}(hs:JA G n sc N df m es xs)(hst:∀env:Env,starEach (.Constant (.int i) j p0 :: xs) env=(false,eval (.Constant (.int i) j p0) env) :: starEach xs env:=by intro _;rfl):xV G n sc N df m (.cons (.c (.int i)) es) (.Constant (.int i) j p0 :: xs):=
 λX g=>mT.of (Hj (hs X g) (hst _)) λs H Q q=>by
  obtain⟨r,k,h,ds,z,l,o,e,q⟩:=q;simp only[Ev.bY,Ev.ev,Ev.ak]at e;obtain⟨d,A,p,e⟩:=Ev.ah e;cases e;refine⟨r,k,h,d,_,l,o,p,λB H2 x y f f2=>?_⟩;exact q _ H2 x (.cons rfl y) f f2
def BF(j i:Nat){ss:Ss}{xs:List Stmt}{x:Str}{pos' p:Pos}{f:Nat}{i0:FI}{y:Str}{es:Es}{e0:Expr}{ys:List Expr}{cp:Pos}(hm:m.Nodup)(hN:N.Nodup)(hcl:Fd sc y=true)(hf:G.fi[f]?=some i0)(hy:i0.name=y)(hA:xV G n sc N df m es (e0 :: ys))(h2:pC G n sc N df m ss xs)
  (hst:∀env:Env,starEach (e0 :: ys) env=(false,eval e0 env) :: starEach ys env:=by intro _;rfl) (hpl:∀env:Env,(backTo cp (starEach ys env)).any (·.1)=false:=by intro _;rfl)
  (hs:∀env:Env,swapsWith (.Call (.Name y p) (e0 :: ys) [] cp) (some (.Name x pos')) pos.line env=pure false:=by intro _;rfl) (hj:m[j]?=some i:=by rfl) (uF:N[j]?=some x:=by rfl)
  (hl:sc.names.lookup x=some .local\/(df=true/\sc.names.lookup x=some .cell):=by first|exact Or.inl rfl|exact Or.inr ⟨rfl,rfl⟩):jd G n sc N df m (.cons (.set i (.cl f es)) ss) (.Assign [.Name x pos'] (.Call (.Name y p) (e0 :: ys) [] cp) pos :: xs):=λX g=>by
 subst hy;unfold Fd at hcl;simp only[OS,Zg]at hcl;have UO:sc.names.lookup i0.name=some .globalImplicit:=by simpa using hcl.1
 obtain⟨J,L⟩:=g.loc hl;obtain⟨M,l,P,Y⟩:=g.fn f i0 hf;refine gq.of (BB (te:=EL (mF X.K G.F G.w n f) [] (λ_ _ _=>False) (xA X.K m (Ev.run G.F G.w n) es)) (i:=j) (by rw[g.nm];exact hN) (by rw[g.nm];exact uF) J (λpins s σ H Q I h=>?_) (h2 X g) (hs _) L) λQ s H q=>?_
 .refine Yx (qJ I (g.gl UO) M ?_ hcl.2);refine aau (h₀:=X.base) I.ok.mod.AE l (aX (hA X g cp pins s σ H _ I h) λus s1 ⟨⟨Z,H1,I1,r,q⟩,k⟩=>⟨I1.fR,?_⟩) (hst _) (hpl _);exact mU k (AS Y g.room P .nil ER I1 r q) λv s2 l q=>⟨q,l⟩
 .obtain⟨r,fr,h,fl,aj,h',A,hr,e,q⟩:=q;simp only[Ev.exs,Ev.jc]at e;obtain⟨⟨fP,af⟩,VL,e1,e⟩:=Ev.ah e;obtain⟨d,h2',B,e3⟩:=Ev.ah e1;cases e3;simp only[Ev.ev]at B;obtain⟨ds,C,e4,e5⟩:=Ev.ah B;refine⟨r,fr,h,ds,C,A,hr,e4,λZ H1 r1 v1 o f1=>?_⟩;exact⟨r1,C,ds,d,_,by rw[XZ];exact v1,o,e5,λv H2 r2 v2 z f2=>⟨r2,_,_,fl,aj,h',(A.mono (f1.trans f2)).set hm hj v2,z,e,q.later (f1.trans f2)⟩⟩
end
theorem pD(p q:Nat):∀a:List Nat,Ev.aY [q] (Ev.aS p a)=Ev.dW p q a
 |[]=>rfl
 |x :: a=>by
  have b:=pD p q a;obtain⟨t,r,e⟩:=lg p a;rw[e]at b;unfold Ev.dW at b ⊢;by_cases h:x=p
  .simp only[Ev.aS,h,Xq,e,Ev.aY,M7,b,Yz,XM]
  .simp only[Ev.aS,h,XE,e,M7];cases r with
   |nil=>simp only[Ev.aY]at b ⊢;rw[b]
   |cons u r=>simp only[Ev.aY,XM]at b ⊢;rw[b]
def Ls(a:List Nat)(p q:Nat):Txt.replace (au a) (au [p]) (au [q])=au (Ev.dW p q a):=by
 have b:=lu a p;have QI:((au [p]).length==0)=false:=by rw[bh];rfl
 unfold Txt.replace;rw[nJ,QI,Bool.false_and,ZI];cases he:(iC p 0 a).isEmpty
 .rw[T8 Yj,b,StrLaws.glued_eq_join,kX,pD]
 .rw[IC rfl,<-pD];rw[List.isEmpty_iff.mp he]at b;unfold Builtin.Str.partsBetween at b;simp only[Y4,Yz,ZD,List.zip_nil_left,M7,kZ,bh,X6,aaq,List.take_length]at b;obtain⟨t,r,c⟩:=lg p a;rw[c]at b ⊢;simp only[M7,List.cons.injEq]at b;obtain⟨d,e⟩:=b;rw[List.map_eq_nil_iff.mp e.symm,<-jE d];rfl
section
variable{G:Tb}{n:Nat}{sc:Scope}{N:List Str}{df:Bool}{m:List Nat}{a c:E}{xa:Expr}{pos:Pos}
def Lu{p q:Nat}{y z:Str}{j1 j2:Nat}{p1 p2 apos:Pos}(ha:lY G n sc N df m a xa)(hy:y=au [p]:=by decide +kernel)(hz:z=au [q]:=by decide +kernel)(hyz:(y==z)=false:=by decide +kernel)
  (hbase:∀env:Env,attributeBase xa "replace" env (eval xa env)=eval xa env:=by intro _;rfl)
  (hfew:∀env:Env,((backTo pos (starEach [.Constant (.str y) j1 p1,.Constant (.str z) j2 p2] env)).all (λx=>!x.1)&&(backToKw pos (keywordEach [] env)).all (λx=>x.1.isSome)
   &&decide ([Expr.Constant (.str y) j1 p1,.Constant (.str z) j2 p2].length+([]:List Keyword).length+(if ([]:List Keyword).isEmpty then 0 else 1)<30))=true:=by intro _;rfl)
  (hline:(apos.endLine==pos.line)=true:=by rfl) :
  lY G n sc N df m (.me .repl a (.cons (.c (.str [p])) (.cons (.c (.str [q])) .nil))) (.Call (.Attribute xa "replace" apos) [.Constant (.str y) j1 p1,.Constant (.str z) j2 p2] [] pos):=λX g=>
 jY.of (Lo hyz (by rw[hz,bh];exact VG _) (ha X g) (hbase _) (hfew _) hline) λs H Q b=>by
  obtain⟨r,j,h,d,K,k,o,e,b⟩:=b;simp only[Ev.ev,Ev.bY,Ev.ak]at e;obtain⟨x,L,A,e⟩:=Ev.ah e;split at e
  case isFalse=>cases e
  rename_i B;have C:∃l,x=.str l:=by cases x<;>first|exact⟨_,rfl⟩ | (exfalso;cases B)
  obtain⟨l,rfl⟩:=C
  delta Ev.dw at e;dsimp only at e
  split at e
  case isFalse=>cases e
  rename_i F;cases e;refine⟨r,j,h,.str l,_,k,o,A,λv H1 I i f f1=>?_⟩;simp only[RV]at i;obtain⟨rfl,J⟩:=i;refine⟨au l,rfl,by rw[bh];exact F.2,?_⟩;rw[hy,hz,Ls];exact b _ H1 I ⟨rfl,by unfold Ev.dW;rw[XA];exact J⟩ f f1
end
end Sm
namespace Pv
open Ev (D bO bz TY BI ME T E Es Eo It S Ss Fn big deep b2i rep cB dR bL aR cut aY bJ slots)
def nd{α:Type _}{a b:α}(h:a=b):a=b:=h
inductive V where
 |bG|bl (b:Bool)|int (i:Int)|str (s:List Nat)|tup (l:List V)|lst (l:List V)|bT (l:List V)
inductive Sl where
 |val (v:V)|own (l:List V)|bor (l:List V)|ro (l:List V)
abbrev Fr:=List (Option Sl)
inductive R(α:Type) where
 |ok (a:α) (fr:Fr)
 |bad
noncomputable def R.bind{α β:Type}(r:R α)(f:α->Fr->R β):R β:=
 match r with
 |.ok a h=>f a h
 |.bad=>.bad
@[simp] theorem ak{α β:Type}(a:α)(h:Fr)(f:α->Fr->R β):(R.ok a h).bind f=f a h:=nd rfl
@[simp] theorem Dh{α β:Type}(f:α->Fr->R β):(R.bad:R α).bind f=.bad:=nd rfl
def ah{α β:Type}{r:R α}{f:α->Fr->R β}{b:β}{h:Fr}(e:r.bind f=.ok b h):∃a h1,r=.ok a h1/\f a h1=.ok b h:=by
 cases r with
 |ok a h1=>exact⟨a,h1,rfl,e⟩
 |bad=>cases e
noncomputable def R.of{α:Type}(o:Option α)(h:Fr):R α:=match o with
 |some a=>.ok a h
 |none=>.bad
@[simp] theorem dP{α:Type}(a:α)(h:Fr):R.of (some a) h=.ok a h:=nd rfl
@[simp] theorem of_none{α:Type}(h:Fr):R.of (none:Option α) h=.bad:=nd rfl
def aE{α:Type}{o:Option α}{h h':Fr}{a:α}(e:R.of o h=.ok a h'):o=some a/\h'=h:=by
 cases o with
 |none=>cases e
 |some b=>cases e;exact⟨rfl,rfl⟩
inductive Fl where
 |nx|bk|ct|ret (v:V)
mutual
noncomputable def ofD:D->Option V
 |.bG=>some .bG
 |.bl b=>some (.bl b)
 |.int i=>some (.int i)
 |.str s=>some (.str s)
 |.tup ds=>(u9 ds).map .tup
 |.ref _=>none
noncomputable def u9:List D->Option (List V)
 |[]=>some []
 |d :: ds=>(ofD d).bind λv=>(u9 ds).map λa=>v :: a
end
noncomputable def cC(f:V->V->Option Bool):List V->List V->Option Bool
 |[],[]=>some true
 |x :: xs,y :: ys=>(f x y).bind λb=>(cC f xs ys).bind λc=>some (b&&c)
 |_,_=>some false
noncomputable def cO:Nat->V->V->Option Bool
 |0,_,_=>none
 |_+1,.bG,.bG=>some true
 |_+1,.bl a,.bl b=>some (a==b)
 |_+1,.int a,.int b=>some (a==b)
 |_+1,.bl a,.int b=>some (b2i a==b)
 |_+1,.int a,.bl b=>some (a==b2i b)
 |_+1,.str a,.str b=>some (a==b)
 |n+1,.tup a,.tup b=>cC (cO n) a b
 |n+1,.lst a,.lst b=>cC (cO n) a b
 |n+1,.bT a,.lst b=>cC (cO n) a b
 |n+1,.lst a,.bT b=>cC (cO n) a b
 |_+1,.bT _,.bT _=>none
 |_+1,_,_=>some false
noncomputable def truthy:V->Bool
 |.bG=>false
 |.bl b=>b
 |.int i=>i != 0
 |.str s=>!s.isEmpty
 |.tup ds=>!ds.isEmpty
 |.lst ds=>!ds.isEmpty
 |.bT ds=>!ds.isEmpty
noncomputable def eH(l:List V):Option V:=if l.length<=big then some (.lst l)else none
noncomputable def je(l:List V):Option V:=if l.length<=big then some (.tup l)else none
noncomputable def bX:bO->V->V->Option V
 |.add,.int i,.int j=>some (.int (i+j))
 |.add,.str a,.str b=>if a.length+b.length<=big then some (.str (a++b))else none
 |.add,.tup a,.tup b=>if a.length+b.length<=big then some (.tup (a++b))else none
 |.add,.lst a,.lst b=>eH (a++b)
 |.sub,.int i,.int j=>some (.int (i - j))
 |.mul,.int i,.int j=>if cB i j then some (.int (i*j))else none
 |.mul,.str a,.int k=>if 0<=k/\k<=1000/\a.length<=1000 then some (.str (rep k.toNat a))else none
 |.mul,.tup a,.int k=>if 0<=k/\k<=1000/\a.length<=1000 then some (.tup (rep k.toNat a))else none
 |.mul,.lst a,.int k=>if 0<=k/\k<=1000/\a.length<=1000 then eH (rep k.toNat a)else none
 |.fdiv,.int i,.int j=>if 0<j/\j<1073741824 then some (.int (i / j))else none
 |.mod,.int i,.int j=>if 0<j then some (.int (i % j))else none
 |_,_,_=>none
noncomputable def mem(x:V):List V->Option Bool
 |[]=>some false
 |y :: ys=>(cO deep y x).bind λb=>(mem x ys).bind λc=>some (b ||c)
noncomputable def isin(x y:V):Option Bool:=match y with
 |.str s=>match x with
  |.str [c]=>some (s.contains c)
  |_=>none
 |.tup ds=>mem x ds
 |.lst ds=>mem x ds
 |.bT ds=>mem x ds
 |_=>none
noncomputable def cop(o:bz)(x y:V):Option Bool:=match o,x,y with
 |.eq,x,y=>cO deep x y
 |.ne,x,y=>(cO deep x y).map (!·)
 |.lt,.int i,.int j=>some (decide (i<j))
 |.le,.int i,.int j=>some (decide (i<=j))
 |.gt,.int i,.int j=>some (decide (j<i))
 |.ge,.int i,.int j=>some (decide (j<=i))
 |.isin,x,y=>isin x y
 |.eE,x,y=>(isin x y).map (!·)
 |_,_,_=>none
noncomputable def fN(x y:V):Option V:=match x,y with
 |.tup ds,.int i=>bL ds i
 |.str s,.int i=>(bL s i).map λc=>.str [c]
 |.lst ds,.int i=>bL ds i
 |.bT ds,.int i=>bL ds i
 |_,_=>none
noncomputable def fB(x:V)(lo hi:Option Int):Option V:=match x with
 |.tup ds=>some (.tup (cut ds lo hi))
 |.str s=>some (.str (cut s lo hi))
 |.lst ds=>eH (cut ds lo hi)
 |.bT ds=>eH (cut ds lo hi)
 |_=>none
noncomputable def toT:V->Option V
 |.tup l=>some (.tup l)
 |.lst l=>je l
 |.bT l=>je l
 |_=>none
noncomputable def cX:V->TY->Bool
 |.bl _,.bool=>true
 |.bl _,.int=>true
 |.int _,.int=>true
 |.str _,.str=>true
 |.tup _,.tuple=>true
 |.lst _,.list=>true
 |.bT _,.list=>true
 |_,_=>false
noncomputable def boolsOf:List V->Option (List Bool)
 |[]=>some []
 |.bl b :: ds=>(boolsOf ds).map λr=>b :: r
 |_=>none
noncomputable def intsOf:List V->Option (List Int)
 |[]=>some []
 |.int i :: ds=>(intsOf ds).map λr=>i :: r
 |_=>none
noncomputable def strsOf:List V->Option (List (List Nat))
 |[]=>some []
 |.str s :: ds=>(strsOf ds).map λr=>s :: r
 |_=>none
noncomputable def lZ:V->Option (List V)
 |.lst l=>some l
 |.bT l=>some l
 |_=>none
noncomputable def b7(b:BI)(xs:List V):Option V:=match b,xs with
 |.len,[.str s]=>if s.length<=big then some (.int s.length)else none
 |.len,[.tup ds]=>some (.int ds.length)
 |.len,[x]=>(lZ x).map λds=>.int ds.length
 |.all,[x]=>((lZ x).bind boolsOf).map λbs=>.bl (bs.all id)
 |.sum,[x]=>((lZ x).bind intsOf).map λc=>.int c.sum
 |.min,[.int i,.int j]=>some (.int (if j<i then j else i))
 |.max,[.int i,.int j]=>some (.int (if j > i then j else i))
 |.uB,[.bl b]=>some (.int (if b then 1 else 0))
 |.fT,[.int i]=>if -1000000<i/\i<1000000 then some (.str (Ev.cQ i))else none
 |.fT,[.str s]=>some (.str s)
 |.kW,[.str s]=>(Ev.o9 s).map .int
 |.sorted,[x]=>((lZ x).bind strsOf).bind λa=>if a.length<64 then eH ((bJ a).map .str)else none
 |_,_=>none
noncomputable def dw(m:ME)(o:V)(xs:List V):Option V:=match m,o,xs with
 |.join,.str sep,[x]=>((lZ x).bind strsOf).bind λb=>if (b.map (·.length)).sum+b.length*sep.length<=big then some (.str (aY sep b))else none
 |.repl,.str a,[.str [p],.str [q]]=>if p≠q/\a.length<=100000 then some (.str (Ev.dW p q a))else none
 |_,_,_=>none
noncomputable def jZ(m:ME)(l:List V)(xs:List V):Option (V×List V):=match m,xs with
 |.append,[x]=>if l.length<big then some (.bG,l++[x])else none
 |.extend,[.lst es]=>if l.length+es.length<=big then some (.bG,l++es)else none
 |.pop,[]=>match l[l.length - 1]? with
  |some x=>some (x,l.dropLast)
  |none=>none
 |_,_=>none
noncomputable def BG:ME->Bool
 |.extend=>true
 |_=>false
noncomputable def iV:ME->Bool
 |.append=>true
 |.extend=>true
 |.pop=>true
 |_=>false
noncomputable def tR:V->Bool
 |.bG=>true
 |.bl _=>true
 |.int _=>true
 |.str _=>true
 |_=>false
noncomputable def zH(x:V):List (D×D)->Option V
 |[]=>none
 | (k,v) :: r=>match (ofD k).bind λa=>cO 1 a x with
  |some true=>ofD v
  |some false=>zH x r
  |none=>none
noncomputable def eK(x:V)(kvs:List (D×D)):Option V:=if tR x then zH x kvs else none
noncomputable def gi:V->Option (List V)
 |.tup ds=>some ds
 |.str s=>some (s.map λc=>.str [c])
 |.lst ds=>some ds
 |.bT ds=>some ds
 |_=>none
noncomputable def zI:V->Option (List V)
 |.tup ds=>some ds
 |_=>none
noncomputable def range(lo:Int)(n:Nat):List V:=(List.range n).map λ(i:Nat)=>.int (lo+i)
noncomputable def dH:List V->Option (List V)
 |[.int j]=>if -(2 ^ 62)<=j/\j<2 ^ 62 then some (range 0 j.toNat)else none
 |[.int i,.int j]=>if -(2 ^ 62)<=i/\i<2 ^ 62/\-(2 ^ 62)<=j/\j<2 ^ 62 then some (range i (j - i).toNat)else none
 |_=>none
noncomputable def mV(x y:V):Option (List V):=match x,y with
 |.str a,.str [c]=>if c<128 then some ((Ev.aS c a).map .str)else none
 |_,_=>none
noncomputable def jw:Int->List V->List V
 |_,[]=>[]
 |k,x :: xs=>.tup [.int k,x] :: jw (k+1) xs
noncomputable def put(fr:Fr)(i:Nat)(s:Sl):Option Fr:=match fr[i]? with
 |some (some (.bor _))=>none
 |some (some (.ro _))=>none
 |_=>some (fr.set i (some s))
noncomputable def cK:List Nat->List V->Fr->Option Fr
 |[],[],fr=>some fr
 |i :: is,d :: ds,fr=>(put fr i (.val d)).bind (cK is ds)
 |_,_,_=>none
noncomputable def cG:T->V->Fr->Option Fr
 |.one i,d,fr=>put fr i (.val d)
 |.many l,.tup ds,fr=>cK l ds fr
 |_,_,_=>none
noncomputable def undef(t:T)(fr:Fr):Bool:=(slots t).all λi=>(fr[i]?.join).isNone
noncomputable def Sl.read:Sl->Sl
 |.own l=>.ro l
 |.bor l=>.ro l
 |s=>s
noncomputable def sP(fr:Fr):Fr:=fr.map (Option.map Sl.read)
noncomputable def Sl.eU:Sl->Sl
 |.own l=>.val (.lst l)
 |s=>s
noncomputable def gj(fr:Fr):Fr:=fr.map (Option.map Sl.eU)
noncomputable def rj(e:E)(fr:Fr):Fr:=match e with
 |.v j=>fr.modify j (Option.map Sl.eU)
 |_=>fr
noncomputable def Sl.walk:Sl->Sl
 |.own l=>.val (.lst l)
 |.bor l=>.ro l
 |s=>s
noncomputable def tX(is:List Nat)(fr:Fr):Fr:=is.foldl (λfr i=>match fr[i]? with
 |some (some s)=>fr.set i (some s.walk)
 |_=>fr) fr
noncomputable def Sl.out:Sl->Option (List V)
 |.bor l=>some l
 |.ro l=>some l
 |_=>none
noncomputable def Sl.lend:Sl->Option Sl
 |.own l=>some (.bor l)
 |.bor l=>some (.bor l)
 |.ro l=>some (.ro l)
 |.val _=>none
noncomputable def lent(fr:Fr)(i:Nat):Option Sl:=match fr[i]? with
 |some (some s)=>s.lend
 |_=>none
noncomputable def Sl.with:Sl->List V->Sl
 |.own _,l=>.own l
 |.bor _,l=>.bor l
 |s,_=>s
noncomputable def back:List Nat->List (List V)->Fr->Option Fr
 |[],[],fr=>some fr
 |i :: is,l :: ls,fr=>match fr[i]? with
  |some (some s)=>back is ls (fr.set i (some (s.with l)))
  |_=>none
 |_,_,_=>none
noncomputable def b8(f:V->Option (Option V)):List V->Option (List V)
 |[]=>some []
 |d :: ds=>(f d).bind λo=>(b8 f ds).bind λr=>some (o.toList++r)
noncomputable def forL(f:V->Fr->R Fl):List V->Fr->R Fl
 |[],fr=>.ok .nx fr
 |d :: ds,fr=>(f d fr).bind λp a=>match p with
   |.nx=>forL f ds a
   |.ct=>forL f ds a
   |.bk=>.ok .nx a
   |.ret x=>.ok (.ret x) a
noncomputable def dI(t:Fr->R Bool)(f:Fr->R Fl):Nat->Fr->R Fl
 |0,_=>.bad
 |n+1,fr=>(t fr).bind λb c=>if b then (f c).bind λp a=>match p with
   |.nx=>dI t f n a
   |.ct=>dI t f n a
   |.bk=>.ok .nx a
   |.ret x=>.ok (.ret x) a
  else .ok .nx c
noncomputable def jb:Es->List Nat
 |.nil=>[]
 |.cons (.v i) a=>i :: jb a
 |.cons _ a=>jb a
noncomputable def Fe(m:ME):E->List Nat
 |.v i=>if iV m then [i]else []
 |_=>[]
mutual
noncomputable def aB:E->List Nat
 |.c _=>[]|.v _=>[]|.tup d=>cY d|.lst d=>cY d
 |.bin _ a b=>aB a++aB b|.cmp _ a b=>aB a++aB b
 |.ch _ _ a b c=>aB a++(aB b++aB c)
 |.nt a=>aB a|.neg a=>aB a|.an a b=>aB a++aB b|.orr a b=>aB a++aB b|.jW t a b=>aB t++(aB a++aB b)
 |.ix a b=>aB a++aB b|.sl a lo hi=>aB a++(iD lo++iD hi)
 |.cl _ d=>cY d++jb d|.bi _ d=>cY d|.me m o d=>aB o++(cY d++Fe m o)
 |.fz a _=>aB a
 |.comp _ _ e _=>vc e
 |.eG e=>vc e
 |.eB _ a=>aB a
 |.gX a=>aB a
noncomputable def cY:Es->List Nat
 |.nil=>[]
 |.cons e a=>aB e++cY a
noncomputable def iD:Eo->List Nat
 |.no=>[]
 |.yes e=>aB e
noncomputable def vc:It->List Nat
 |.seq e=>aB e|.gp es=>cY es
 |.iN a b=>aB a++aB b
 |.rev a=>aB a
end
noncomputable def kf(a:E)(l:List Nat):Bool:=match a with
 |.v i=>!l.contains i
 |_=>l.isEmpty
noncomputable def itv:It->List Nat
 |.seq (.v i)=>[i]
 |.rev (.v i)=>[i]
 |_=>[]
abbrev aP:=Nat->List Sl->Option (V×List (List V))
noncomputable def intOf:V->Option Int
 |.int i=>some i
 |_=>none
noncomputable def pF(k:Bool)(fr:Fr)(i:Nat):Option V:=match fr[i]? with
 |some (some (.val v))=>some v
 |some (some (.own l))=>if k then some (.lst l)else none
 |some (some (.bor l))=>if k then some (.lst l)else none
 |some (some (.ro l))=>if k then some (.lst l)else none
 |_=>none
noncomputable def zJ(k:Bool)(fr:Fr)(i:Nat):Option V:=match fr[i]? with
 |some (some (.ro l))=>some (.lst l)
 |_=>pF k fr i
noncomputable def src(k:Bool)(fr:Fr)(e:E)(r:R V):R V:=match e with
 |.v i=>R.of (zJ k fr i) fr
 |_=>r
noncomputable def kH(fr:Fr):E->Option Nat
 |.v i=>if (lent fr i).isSome then some i else none
 |_=>none
noncomputable def args(fr:Fr):List (Nat ⊕ V)->Option (List Sl)
 |[]=>some []
 |.inl i :: r=>(lent fr i).bind λs=>(args fr r).map λl=>s :: l
 |.inr v :: r=>(args fr r).map λl=>.val v :: l
noncomputable def bR:List (Nat ⊕ V)->List Nat
 |[]=>[]
 |.inl i :: r=>i :: bR r
 |.inr _ :: r=>bR r
noncomputable def ff(P:aP)(f:Nat)(as:List (Nat ⊕ V))(fr:Fr):R V:=
 if (bR as).Nodup then match args fr as with
  |some a=>match P f a with
   |some (v,outs)=>R.of ((back (bR as) outs fr).map λb=>(v,b)) fr |>.bind λp _=>.ok p.1 p.2
   |none=>.bad
  |none=>.bad
 else .bad
mutual
noncomputable def ev(P:aP):Bool->E->Fr->R V
 |_,.c d,fr=>R.of (ofD d) fr
 |k,.v i,fr=>R.of (pF k fr i) fr
 |_,.tup es,fr=>(bY P false es fr).bind λds e=>R.of (je ds) e
 |_,.lst es,fr=>(bY P false es fr).bind λds e=>R.of (eH ds) e
 |_,.bin o a b,fr=>(ev P (kf a (aB b)) a fr).bind λx e=>(ev P true b e).bind λy g=>R.of (bX o x y) g
 |_,.cmp o a b,fr=>(ev P (kf a (aB b)) a fr).bind λx e=>(ev P true b e).bind λy g=>R.of ((cop o x y).map .bl) g
 |_,.ch o p a b c,fr=>(ev P (kf a (aB b)) a fr).bind λx e=>(ev P (kf b (aB c)) b e).bind λy g=>(R.of (cop o x y) g).bind λk h=>
   if k then (ev P true c h).bind λz j=>R.of ((cop p y z).map .bl) j else .ok (.bl false) h
 |_,.nt a,fr=>(ev P true a fr).bind λx e=>match x with
   |.bl b=>.ok (.bl (!b)) e
   |_=>.bad
 |_,.neg a,fr=>(ev P true a fr).bind λx e=>match x with
   |.int i=>.ok (.int (-i)) e
   |_=>.bad
 |k,.an a b,fr=>(ev P true a fr).bind λx e=>match x with
   |.bl true=>ev P k b e
   |.bl false=>.ok (.bl false) e
   |_=>.bad
 |k,.orr a b,fr=>(ev P true a fr).bind λx e=>match x with
   |.bl true=>.ok (.bl true) e
   |.bl false=>ev P k b e
   |_=>.bad
 |k,.jW t a b,fr=>(aI P t fr).bind λc e=>if c then ev P k a e else ev P k b e
 |_,.ix a b,fr=>(ev P (kf a (aB b)) a fr).bind λx e=>(ev P true b e).bind λy g=>R.of (fN x y) g
 |_,.sl a lo hi,fr=>(ev P (kf a (iD lo++iD hi)) a fr).bind λx e=>(fO P lo e).bind λl g=>(fO P hi g).bind λu h=>R.of (fB x l u) h
 |_,.cl f es,fr=>(fQ P es fr).bind λq e=>ff P f q e
 |_,.bi b es,fr=>(bY P true es fr).bind λds e=>R.of (b7 b ds) e
 |_,.me m o es,fr=>if iV m then match kH fr o with
   |some i=>(bY P (BG m) es fr).bind λds e=>match e[i]? with
    |some (some (.own l))=>match jZ m l ds with
     |some (v,l')=>.ok v (e.set i (some (.own l')))
     |none=>.bad
    |some (some (.bor l))=>match jZ m l ds with
     |some (v,l')=>.ok v (e.set i (some (.bor l')))
     |none=>.bad
    |_=>.bad
   |none=>.bad
  else (ev P (kf o (cY es)) o fr).bind λx e=>(bY P true es e).bind λds g=>R.of (dw m x ds) g
 |_,.fz a ts,fr=>(ev P true a fr).bind λx e=>.ok (.bl (ts.any (cX x))) e
 |_,.comp elt t it cond,fr=>(cI P true it fr).bind λs e=>if undef t e then
   R.of ((b8 (λd=>match cG t d (sP e)with
    |none=>none
    |some g=>match iz P cond g with
     |.ok c _=>if c then (match ev P false elt g with|.ok x _=>some (some x)|.bad=>none)else some none
     |.bad=>none) s).bind eH) e else .bad
 |_,.eG it,fr=>(cI P true it fr).bind λs e=>R.of (eH s) e
 |_,.eB kvs a,fr=>(ev P true a fr).bind λx e=>R.of (eK x kvs) e
 |_,.gX a,fr=>(ev P true a fr).bind λx e=>R.of (toT x) e
termination_by _ e=>(sizeOf e,0)
noncomputable def bY(P:aP):Bool->Es->Fr->R (List V)
 |_,.nil,fr=>.ok [] fr
 |k,.cons e es,fr=>(ev P (k&&kf e (cY es)) e fr).bind λd a=>(bY P k es a).bind λds b=>.ok (d :: ds) b
termination_by _ e=>(sizeOf e,0)
noncomputable def fQ(P:aP):Es->Fr->R (List (Nat ⊕ V))
 |.nil,fr=>.ok [] fr
 |.cons e es,fr=>match kH fr e with
   |some i=>(fQ P es fr).bind λr a=>.ok (.inl i :: r) a
   |none=>(ev P false e fr).bind λd a=>(fQ P es a).bind λr b=>.ok (.inr d :: r) b
termination_by e=>(sizeOf e,0)
noncomputable def fO(P:aP):Eo->Fr->R (Option Int)
 |.no,fr=>.ok none fr
 |.yes e,fr=>(ev P true e fr).bind λd a=>R.of ((intOf d).map some) a
termination_by e=>(sizeOf e,0)
noncomputable def iz(P:aP):Eo->Fr->R Bool
 |.no,fr=>.ok true fr
 |.yes e,fr=>aI P e fr
termination_by e=>(sizeOf e,0)
noncomputable def aI(P:aP):E->Fr->R Bool
 |.an a b,fr=>(aI P a fr).bind λk c=>if k then aI P b c else .ok false c
 |.orr a b,fr=>(aI P a fr).bind λk c=>if k then .ok true c else aI P b c
 |.nt a,fr=>(aI P a fr).bind λk c=>.ok (!k) c
 |e,fr=>(ev P true e fr).bind λx c=>.ok (truthy x) c
termination_by e=>(sizeOf e,1)
noncomputable def cI(P:aP):Bool->It->Fr->R (List V)
 |k,.seq e,fr=>(src k fr e (ev P k e fr)).bind λx c=>R.of (gi x) c
 |_,.gp es,fr=>(bY P true es fr).bind λds c=>R.of (dH ds) c
 |_,.iN a b,fr=>(ev P (kf a (aB b)) a fr).bind λx c=>(ev P true b c).bind λy d=>R.of (mV x y) d
 |_,.rev a,fr=>(ev P true a fr).bind λx c=>R.of ((zI x).map λs=>s.reverse) c
termination_by _ e=>(sizeOf e,0)
end
noncomputable def isNew:E->Bool
 |.lst _=>true
 |.eG _=>true
 |_=>false
mutual
noncomputable def ex(P:aP)(w:Nat):S->Fr->R Fl
 |.set i e,fr=>(ev P false e (rj e fr)).bind λx c=>if isNew e then (match x with
   |.lst l=>(R.of (put c i (.own l)) c).bind λf _=>.ok .nx f
   |_=>.bad)
  else (R.of (put c i (.val x)) c).bind λf _=>.ok .nx f
 |.exp e,fr=>(ev P true e fr).bind λ_ c=>.ok .nx c
 |.ret e,fr=>(ev P false e (gj fr)).bind λx c=>.ok (.ret x) c
 |.iff t a b,fr=>(aI P t fr).bind λk c=>if k then exs P w a c else exs P w b c
 |.for t it b,fr=>(cI P false it (tX (itv it) fr)).bind λs c=>forL (λd f=>match cG t d f with
   |some g=>exs P w b g
   |none=>.bad) s c
 |.oB t b,fr=>dI (λf=>aI P t f) (λf=>exs P w b f) w fr
 |.dS _,_=>.bad
noncomputable def exs(P:aP)(w:Nat):Ss->Fr->R Fl
 |.nil,fr=>.ok .nx fr
 |.cons s ss,fr=>(ex P w s fr).bind λp a=>match p with
   |.nx=>exs P w ss a
   |p=>.ok p a
end
noncomputable def er(fn:Fn)(ds:List Sl):Fr:=ds.map some++List.replicate (fn.ns - fn.np) none
noncomputable def outs(np:Nat)(fr:Fr):List (List V):=(fr.take np).filterMap λo=>o.bind Sl.out
noncomputable def Lv(_:Fn)(_:List Sl):Option (V×List (List V)):=none
noncomputable def run(F:List Fn)(w:Nat):Nat->aP
 |0,_,_=>none
 |n+1,f,ds=>match F[f]? with
  |some a=>if ds.length=a.np then match exs (run F w n) w a.body (er a ds)with
    |.ok (.ret v) fr=>some (v,outs a.np fr)
    |.ok .nx fr=>some (.bG,outs a.np fr)
    |_=>Lv a ds
   else none
  |none=>none
def pS(F:List Fn)(w n f:Nat)(ds:List Sl):run F w (n+1) f ds=match F[f]? with
  |some a=>if ds.length=a.np then match exs (run F w n) w a.body (er a ds)with
    |.ok (.ret v) fr=>some (v,outs a.np fr)
    |.ok .nx fr=>some (.bG,outs a.np fr)
    |_=>Lv a ds
   else none
  |none=>none:=nd rfl
end Pv
namespace Pv
open Ev (D O Hh bO bz TY BI ME T E Es Eo It S Ss Fn big deep b2i rep cB dR bL aR cut aY bJ slots br)
section
variable(h:Hh)(S:Nat->Prop)
mutual
def Rep:V->D->Prop
 |.bG,d=>d=.bG
 |.bl b,d=>d=.bl b
 |.int i,d=>d=.int i
 |.str s,d=>d=.str s
 |.tup l,d=>∃ds,d=.tup ds/\aq l ds
 |.lst l,d=>∃n ds,d=.ref n/\S n/\h[n]?=some (.lst ds)/\aq l ds
 |.bT l,d=>∃n ds,d=.ref n/\S n/\h[n]?=some (.bT ds)/\aq l ds
def aq:List V->List D->Prop
 |[],ds=>ds=[]
 |v :: vs,ds=>∃d es,ds=d :: es/\Rep v d/\aq vs es
end
def bq:V->D->Prop
 |.lst l,d=>∃n ds,d=.ref n/\h[n]?=some (.lst ds)/\aq h S l ds
 |v,d=>Rep h S v d
def eL:List V->List D->Prop
 |[],ds=>ds=[]
 |v :: vs,ds=>∃d es,ds=d :: es/\bq h S v d/\eL vs es
end
abbrev U:Nat->Prop:=λ_=>True
section
variable{h h':Hh}{S S':Nat->Prop}
mutual
theorem Rep.mono(f:∀m,S m->h'[m]?=h[m]?)(g:∀m,S m->S' m):∀{v:V}{d:D},Rep h S v d->Rep h' S' v d
 |.bG,_,q=>q
 |.bl _,_,q=>q
 |.int _,_,q=>q
 |.str _,_,q=>q
 |.tup l,_,⟨ds,a,b⟩=>⟨ds,a,aq.mono f g b⟩
 |.lst l,_,⟨n,ds,a,b,c,e⟩=>⟨n,ds,a,g n b,by rw[f n b];exact c,aq.mono f g e⟩
 |.bT l,_,⟨n,ds,a,b,c,e⟩=>⟨n,ds,a,g n b,by rw[f n b];exact c,aq.mono f g e⟩
theorem aq.mono(f:∀m,S m->h'[m]?=h[m]?)(g:∀m,S m->S' m):∀{v:List V}{d:List D},aq h S v d->aq h' S' v d
 |[],_,q=>q
 |_ :: _,_,⟨d,es,a,b,c⟩=>⟨d,es,a,Rep.mono f g b,aq.mono f g c⟩
end
def aq.nil:aq h S [] []:=by simp[aq]
def aq.cons{v:V}{d:D}{vs:List V}{ds:List D}(a:Rep h S v d)(b:aq h S vs ds):aq h S (v :: vs) (d :: ds):=by simp only[aq];exact⟨d,ds,rfl,a,b⟩
def Rep.top{v:V}{d:D}(q:Rep h S v d):bq h S v d:=by
 cases v<;>first|exact q | (obtain⟨n,ds,a,b,c,e⟩:=q;exact⟨n,ds,a,c,e⟩)
def bq.u{v:V}{d:D}(q:bq h S v d):Rep h U v d:=by
 cases v with
 |lst l=>obtain⟨n,ds,a,b,c⟩:=q;exact⟨n,ds,a,trivial,b,c.mono (λ_ _=>rfl) λ_ _=>trivial⟩
 |_=>exact Rep.mono (S:=S) (λ_ _=>rfl) (λ_ _=>trivial) q
def aq.u{v:List V}{d:List D}(q:aq h S v d):aq h U v d:=q.mono (λ_ _=>rfl) λ_ _=>trivial
theorem bq.mono{v:V}{d:D}(f:∀m,m<h.length->h'[m]?=h[m]?)(k:∀m,S m->m<h.length)(g:∀m,S m->S' m)(q:bq h S v d):bq h' S' v d:=by
 cases v with
 |lst l=>
  obtain⟨n,ds,a,b,c⟩:=q;exact⟨n,ds,a,by rw[f n (List.getElem?_eq_some_iff.mp b).1];exact b,c.mono (λm z=>f m (k m z)) g⟩
 |_=>exact Rep.mono (λm z=>f m (k m z)) g q
theorem aq.length:∀{v:List V}{d:List D},aq h S v d->v.length=d.length
 |[],_,q=>by simp only[aq]at q;subst q;rfl
 |_ :: _,_,q=>by simp only[aq]at q;obtain⟨d,a,rfl,_,c⟩:=q;simp[c.length]
theorem aq.get:∀{v:List V}{d:List D}{i:Nat}{x:V},aq h S v d->v[i]?=some x->∃y,d[i]?=some y/\Rep h S x y
 |[],_,_,_,_,e=>by simp at e
 |_ :: _,_,0,_,q,e=>by
  simp only[aq]at q;obtain⟨d,f,rfl,b,_⟩:=q;simp at e;subst e;exact⟨d,by simp,b⟩
 |_ :: _,_,i+1,_,q,e=>by
  simp only[aq]at q;obtain⟨d,f,rfl,_,c⟩:=q;obtain⟨y,a,b⟩:=c.get (i:=i) (by simpa using e);exact⟨y,by simpa using a,b⟩
theorem aq.append:∀{v w:List V}{d e:List D},aq h S v d->aq h S w e->aq h S (v++w) (d++e)
 |[],_,_,_,a,b=>by simp only[aq]at a;subst a;simpa using b
 |_ :: _,_,_,_,a,b=>by
  simp only[aq]at a;obtain⟨d,c,rfl,x,y⟩:=a;exact .cons x (y.append b)
theorem aq.take:∀{v:List V}{d:List D}(n:Nat),aq h S v d->aq h S (v.take n) (d.take n)
 |_,_,0,_=>by simp[aq]
 |[],_,_+1,a=>by simp only[aq]at a;subst a;simp[aq]
 |_ :: _,_,n+1,a=>by
  simp only[aq]at a;obtain⟨d,b,rfl,x,y⟩:=a;simp only[Yd];exact .cons x (y.take n)
theorem aq.drop:∀{v:List V}{d:List D}(n:Nat),aq h S v d->aq h S (v.drop n) (d.drop n)
 |_,_,0,a=>by simpa using a
 |[],_,_+1,a=>by simp only[aq]at a;subst a;simp[aq]
 |_ :: _,_,n+1,a=>by
  simp only[aq]at a;obtain⟨d,b,rfl,x,y⟩:=a;simp only[Ye];exact y.drop n
theorem aq.set:∀{v:List V}{d:List D}(j:Nat) {x:V}{y:D},aq h S v d->Rep h S x y->aq h S (v.set j x) (d.set j y)
 |[],_,_,_,_,a,_=>by simp only[aq]at a;subst a;simp[aq]
 |_ :: _,_,0,_,_,a,b=>by
  simp only[aq]at a;obtain⟨d,c,rfl,x,y⟩:=a;exact .cons b y
 |_ :: _,_,j+1,_,_,a,b=>by
  simp only[aq]at a;obtain⟨d,c,rfl,x,y⟩:=a;exact .cons x (y.set j b)
theorem aq.dropLast:∀{v:List V}{d:List D},aq h S v d->aq h S v.dropLast d.dropLast:=λ{v d} a=>by
 rw[YT,YT,a.length];exact a.take _
theorem aq.reverse:∀{v:List V}{d:List D},aq h S v d->aq h S v.reverse d.reverse
 |[],_,a=>by simp only[aq]at a;subst a;simp[aq]
 |_ :: _,_,a=>by
  simp only[aq]at a;obtain⟨d,b,rfl,x,y⟩:=a;simp only[XC];exact y.reverse.append (.cons x .nil)
theorem aq.rep{v:List V}{d:List D}(a:aq h S v d):∀k:Nat,aq h S (Ev.rep k v) (Ev.rep k d)
 |0=>by simp[Ev.rep,aq]
 |k+1=>by
  have z:=aq.rep a k;simp only[Ev.rep,VR,X3]at z ⊢;exact a.append z
theorem aq.cut{v:List V}{d:List D}(a:aq h S v d)(lo hi:Option Int):aq h S (Ev.cut v lo hi) (Ev.cut d lo hi):=by
 unfold Ev.cut;rw[a.length];exact(a.drop _).take _
theorem aq.map{α:Type}{f:α->V}{g:α->D}(q:∀a,Rep h S (f a) (g a)):∀l:List α,aq h S (l.map f) (l.map g)
 |[]=>.nil
 |_ :: l=>.cons (q _) (aq.map q l)
mutual
theorem Rep.uniq:∀{v w:V}{d:D},Rep h U v d->Rep h U w d->v=w
 |.bG,w,_,a,b=>by simp only[Rep]at a;subst a;cases w<;>simp[Rep]at b<;>rfl
 |.bl _,w,_,a,b=>by simp only[Rep]at a;subst a;cases w<;>simp[Rep]at b<;>rw[b]
 |.int _,w,_,a,b=>by simp only[Rep]at a;subst a;cases w<;>simp[Rep]at b<;>rw[b]
 |.str _,w,_,a,b=>by simp only[Rep]at a;subst a;cases w<;>simp[Rep]at b<;>rw[b]
 |.tup l,w,_,a,b=>by
  simp only[Rep]at a;obtain⟨ds,rfl,a⟩:=a;cases w<;>simp[Rep]at b
  rw[aq.uniq a b]
 |.lst l,w,_,a,b=>by
  simp only[Rep]at a;obtain⟨n,ds,rfl,_,f,a⟩:=a;cases w<;>simp[Rep]at b
  .obtain⟨e,c,b⟩:=b;rw[f]at c;cases c;rw[aq.uniq a b]
  .obtain⟨e,c,b⟩:=b;rw[f]at c;cases c
 |.bT l,w,_,a,b=>by
  simp only[Rep]at a;obtain⟨n,ds,rfl,_,f,a⟩:=a;cases w<;>simp[Rep]at b
  .obtain⟨e,c,b⟩:=b;rw[f]at c;cases c
  .obtain⟨e,c,b⟩:=b;rw[f]at c;cases c;rw[aq.uniq a b]
theorem aq.uniq:∀{v w:List V}{d:List D},aq h U v d->aq h U w d->v=w
 |[],w,_,a,b=>by simp only[aq]at a;subst a;cases w<;>simp[aq]at b;rfl
 |x :: xs,w,_,a,b=>by
  simp only[aq]at a;obtain⟨d,k,rfl,c,f⟩:=a;cases w<;>simp only[aq]at b
  .cases b
  obtain⟨l,g,e,i,j⟩:=b;cases e;rw[Rep.uniq c i,aq.uniq f j]
end
theorem vd{n:Nat}(f:∀v b,cO n v v=some b->b=true):∀l b,cC (cO n) l l=some b->b=true
 |[],b,e=>by simp[cC]at e;exact e
 |x :: xs,b,e=>by
  simp only[cC,Qj]at e;obtain⟨c,a,d,g,e⟩:=e;rw[f x c a,vd f xs d g]at e;simpa using e.symm
theorem ve:∀n v b,cO n v v=some b->b=true
 |0,_,_,e=>by cases e
 |n+1,v,b,e=>by
  cases v<;>first|exact vd (ve n) _ _ e | (cases e<;>first|rfl|exact beq_self_eq_true _)
theorem vf{n:Nat}(f:∀{v w:V}{d e:D}{b},cO n v w=some b->Rep h U v d->Rep h U w e->Ev.gw h n d e=some b):∀{l m:List V}{ds es:List D}{b},cC (cO n) l m=some b->aq h U l ds->aq h U m es->Ev.cC (Ev.gw h n) ds es=some b
 |[],[],_,_,b,e,p,q=>by simp only[aq]at p q;subst p q;simpa[cC,Ev.cC]using e
 |[],_ :: _,_,_,b,e,p,q=>by simp only[aq]at p q;subst p;obtain⟨_,_,rfl,_⟩:=q;simpa[cC,Ev.cC]using e
 |_ :: _,[],_,_,b,e,p,q=>by simp only[aq]at p q;subst q;obtain⟨_,_,rfl,_⟩:=p;simpa[cC,Ev.cC]using e
 |x :: xs,y :: ys,_,_,b,e,p,q=>by
  simp only[aq]at p q;obtain⟨d,ds,rfl,a,g⟩:=p;obtain⟨z,i,rfl,j,k⟩:=q;simp only[cC,Qj]at e;obtain⟨c,o,A,r,e⟩:=e;simp[Ev.cC,f o a j,vf f r g k];simpa using e
def gP{n:Nat}{ds:List D}(q:h[n]?=some (.lst ds)):br h n=some ds:=by simp[br,q]
def iE{n:Nat}{ds:List D}(q:h[n]?=some (.bT ds)):br h n=some ds:=by simp[br,q]
theorem jO:∀(n:Nat) {v w:V}{d e:D}{b},cO n v w=some b->Rep h U v d->Rep h U w e->Ev.gw h n d e=some b
  |0,_,_,_,_,_,e,_,_=>by cases e
  |n+1,v,w,d,e,b,x,p,q=>by
    by_cases o:∃m,d=.ref m/\e=.ref m
    . obtain⟨m,rfl,rfl⟩:=o;have j:=p.uniq q;subst j;have r:=ve _ _ _ x;subst r;cases v<;>simp[Rep]at p
      . obtain⟨ds,f,y⟩:=p;show Ev.jM _ _ _ _=_;rw[Ev.jM,IC rfl,gP f];rfl
      . obtain⟨ds,f,y⟩:=p;show Ev.jM _ _ _ _=_;rw[Ev.jM,IC rfl,iE f];rfl
    . cases v<;>cases w<;>simp only[Rep]at p q <;>
      first
      | (subst p;subst q;exact x)
      | (obtain⟨ds,rfl,p⟩:=p;subst q;exact x)
      | (obtain⟨ds,rfl,q⟩:=q;subst p;exact x)
      | (obtain⟨ds,rfl,p⟩:=p;obtain⟨i,rfl,q⟩:=q;exact vf (λa b c=>jO n a b c) x p q)
      | (cases x;done)
      | (obtain⟨m,ds,rfl,_,f,p⟩:=p;obtain⟨k,i,rfl,_,g,q⟩:=q
         have l:m≠k:=λz=>o ⟨m,rfl,by rw[z]⟩;show Ev.jM _ _ _ _=_;rw[Ev.jM,T8 l,f,g];exact vf (λa b c=>jO n a b c) x p q)
      | (cases x;obtain⟨m,ds,rfl,_,f,p⟩:=p;subst q;exact Xp (Option.map λ_=>false) (gP f))
      | (cases x;obtain⟨m,ds,rfl,_,f,p⟩:=p;subst q;exact Xp (Option.map λ_=>false) (iE f))
      | (cases x;obtain⟨m,ds,rfl,_,f,p⟩:=p;obtain⟨i,rfl,q⟩:=q;exact Xp (Option.map λ_=>false) (gP f))
      | (cases x;obtain⟨m,ds,rfl,_,f,p⟩:=p;obtain⟨i,rfl,q⟩:=q;exact Xp (Option.map λ_=>false) (iE f))
      | (cases x;obtain⟨m,ds,rfl,_,g,q⟩:=q;subst p;exact Xp (Option.map λ_=>false) (gP g))
      | (cases x;obtain⟨m,ds,rfl,_,g,q⟩:=q;subst p;exact Xp (Option.map λ_=>false) (iE g))
      | (cases x;obtain⟨m,ds,rfl,_,g,q⟩:=q;obtain⟨i,rfl,p⟩:=p;exact Xp (Option.map λ_=>false) (gP g))
      | (cases x;obtain⟨m,ds,rfl,_,g,q⟩:=q;obtain⟨i,rfl,p⟩:=p;exact Xp (Option.map λ_=>false) (iE g))
end
structure Al(h:Hh)(S:Nat->Prop)(h':Hh)(S':Nat->Prop):Prop where
 len:h.length<=h'.length
 keep:∀m,m<h.length->h'[m]?=h[m]?
 sub:∀m,S m->S' m
 new:∀m,S' m->S m\/(h.length<=m/\m<h'.length)
section
variable{h h':Hh}{S S':Nat->Prop}
def Al.refl:Al h S h S:=⟨VG _,λ_ _=>rfl,λ_ q=>q,λ_ q=>.inl q⟩
def Al.snoc(o:O):Al h S (h++[o]) (λm=>S m\/m=h.length) where
 len:=by simp
 keep:=λm q=>by rw[Vf q]
 sub:=λ_ q=>.inl q
 new:=λm q=>by
  rcases q with q|q
  .exact .inl q
  .subst q;exact .inr ⟨VG _,by simp⟩
def jf{l:List V}{v:V}{ds:List D}(w:∀m,S m->m<h.length)(e:eH l=some v)(q:aq h S l ds):∃r h' S',Ev.alloc ds h=.ok r h'/\Rep h' S' v r/\Al h S h' S':=by
 unfold eH at e;split at e
 .rename_i z;cases e;refine⟨.ref h.length,h++[.lst ds],λm=>S m\/m=h.length,by unfold Ev.alloc;rw[IC (by rw[<-q.length];exact z)],?_,Al.snoc _⟩;simp only[Rep];refine⟨h.length,ds,rfl,.inr rfl,by simp,q.mono (λm z=>?_) λ_ z=>.inl z⟩;rw[Vf (w m z)]
 .cases e
def kI{v:V}{l:List V}{d:D}(e:lZ v=some l)(q:bq h S v d):∃n ds,d=.ref n/\br h n=some ds/\aq h S l ds:=by
 cases v<;>simp[lZ]at e
 .subst e;simp only[bq]at q;obtain⟨n,ds,rfl,a,b⟩:=q;exact⟨n,ds,rfl,gP a,b⟩
 .subst e;simp only[bq,Rep]at q;obtain⟨n,ds,rfl,_,a,b⟩:=q;exact⟨n,ds,rfl,iE a,b⟩
mutual
theorem mW:∀{d:D}{v:V},ofD d=some v->Rep h S v d
 |.bG,_,e=>by simp[ofD]at e;subst e;simp[Rep]
 |.bl _,_,e=>by simp[ofD]at e;subst e;simp[Rep]
 |.int _,_,e=>by simp[ofD]at e;subst e;simp[Rep]
 |.str _,_,e=>by simp[ofD]at e;subst e;simp[Rep]
 |.ref _,_,e=>by simp[ofD]at e
 |.tup ds,_,e=>by
  simp[ofD]at e;obtain⟨a,e,rfl⟩:=e;exact⟨ds,rfl,xW e⟩
theorem xW:∀{d:List D}{v:List V},u9 d=some v->aq h S v d
 |[],_,e=>by simp[u9]at e;subst e;exact .nil
 |d :: ds,_,e=>by
  simp only[u9,Qj,wj]at e;obtain⟨v,a,c,b,rfl⟩:=e;exact .cons (mW a) (xW b)
end
def aq.emp{l:List V}{ds:List D}(q:aq h S l ds):ds.isEmpty=l.isEmpty:=by
 have:=q.length;cases l<;>cases ds<;>simp at this ⊢
def BH{v:V}{d:D}(q:bq h S v d):Ev.truthy h d=some (truthy v):=by
 cases v<;>simp only[bq,Rep]at q
 .subst q;rfl
 .subst q;rfl
 .subst q;rfl
 .subst q;rfl
 .obtain⟨ds,rfl,q⟩:=q;simp only[Ev.truthy,truthy,q.emp]
 .obtain⟨n,ds,rfl,a,q⟩:=q;simp only[Ev.truthy,truthy,gP a,Option.map,q.emp];first|done|rw[a]
 .obtain⟨n,ds,rfl,_,a,q⟩:=q;simp only[Ev.truthy,truthy,iE a,Option.map,q.emp];first|done|rw[a]
def nn{α:Type}{v:α}{p:Prop}(z:none=some v):p:=Option.noConfusion rfl (heq_of_eq z)
def Lx{o:bO}{x y v:V}{d e:D}(w:∀m,S m->m<h.length)(z:bX o x y=some v)(p:bq h S x d)(q:bq h S y e):∃r h' S',Ev.bX o d e h=.ok r h'/\Rep h' S' v r/\Al h S h' S':=by
 cases o<;>cases x<;>first|exact nn z | (cases y<;>first|exact nn z|skip)
 all_goals (delta bX at z;dsimp only at z;simp only[bq,Rep]at p q)
 .subst p q;cases z;exact⟨_,_,S,rfl,rfl,.refl⟩
 .subst p q;split at z
  .rename_i k;cases z;exact⟨_,_,S,by delta Ev.bX;dsimp only;rw[IC k],rfl,.refl⟩
  .cases z
 .obtain⟨ds,rfl,p⟩:=p;obtain⟨c,rfl,q⟩:=q;split at z
  .rename_i k;cases z;exact⟨_,_,S,by delta Ev.bX;dsimp only;rw[IC (by rw[<-p.length,<-q.length];exact k)],⟨_,rfl,p.append q⟩,.refl⟩
  .cases z
 .obtain⟨n,ds,rfl,a,p⟩:=p;obtain⟨m,c,rfl,b,q⟩:=q
  delta Ev.bX;dsimp only;simp only[a,b]
  exact jf w z (p.append q)
 .subst p q;cases z;exact⟨_,_,S,rfl,rfl,.refl⟩
 .subst p q;split at z
  .rename_i k;cases z;exact⟨_,_,S,by delta Ev.bX;dsimp only;rw[IC k],rfl,.refl⟩
  .cases z
 .subst p q;split at z
  .rename_i k;cases z;exact⟨_,_,S,by delta Ev.bX;dsimp only;rw[IC k],rfl,.refl⟩
  .cases z
 .obtain⟨ds,rfl,p⟩:=p;subst q;split at z
  .rename_i k;cases z;exact⟨_,_,S,by delta Ev.bX;dsimp only;rw[IC (by rw[<-p.length];exact k)],⟨_,rfl,p.rep _⟩,.refl⟩
  .cases z
 .obtain⟨n,ds,rfl,a,p⟩:=p;subst q;split at z
  .rename_i k
   delta Ev.bX;dsimp only;simp only[a]
   rw[IC (by rw[<-p.length];exact k)];exact jf w z (p.rep _)
  .cases z
 .subst p q;split at z
  .rename_i k;cases z;exact⟨_,_,S,by delta Ev.bX;dsimp only;rw[IC k],rfl,.refl⟩
  .cases z
 .subst p q;split at z
  .rename_i k;cases z;exact⟨_,_,S,by delta Ev.bX;dsimp only;rw[IC k],rfl,.refl⟩
  .cases z
theorem pY{x:V}{d:D}(p:Rep h U x d):∀{l:List V}{ds:List D}{b},mem x l=some b->aq h U l ds->Ev.mem h d ds=some b
 |[],_,b,e,q=>by simp only[aq]at q;subst q;simpa[mem,Ev.mem]using e
 |y :: ys,_,b,e,q=>by
  simp only[aq]at q;obtain⟨j,ds,rfl,a,f⟩:=q;simp only[mem,Qj]at e;obtain⟨c,g,k,i,e⟩:=e;simp[Ev.mem,jO deep g a p,pY p i f];simpa using e
def xX{x y:V}{d e:D}{b:Bool}(z:isin x y=some b)(p:Rep h U x d)(q:Rep h U y e):Ev.isin d e h=some b:=by
 cases y<;>simp only[isin,reduceCtorEq]at z<;>simp only[Rep]at q
 .subst q;split at z
  .simp only[Rep]at p;subst p;simpa[Ev.isin]using z
  .cases z
 .obtain⟨ds,rfl,q⟩:=q;simpa[Ev.isin]using pY p z q
 .obtain⟨n,ds,rfl,_,a,q⟩:=q;simpa[Ev.isin,gP a]using pY p z q
 .obtain⟨n,ds,rfl,_,a,q⟩:=q;simpa[Ev.isin,iE a]using pY p z q
def vg{o:bz}{x y:V}{d e:D}{b:Bool}(z:cop o x y=some b)(p:Rep h U x d)(q:Rep h U y e):Ev.cop o d e h=some b:=by
 cases o
 case eq=>delta cop at z;dsimp only at z;delta Ev.cop;dsimp only;exact jO deep z p q
 case ne=>
  delta cop at z;dsimp only at z;simp only[wj]at z;obtain⟨c,z,rfl⟩:=z
  delta Ev.cop;dsimp only;simp only[jO deep z p q];rfl
 case isin=>delta cop at z;dsimp only at z;delta Ev.cop;dsimp only;exact xX z p q
 case eE=>
  delta cop at z;dsimp only at z;simp only[wj]at z;obtain⟨c,z,rfl⟩:=z
  delta Ev.cop;dsimp only;simp only[xX z p q];rfl
 all_goals (
  cases x<;>first|exact nn z | (cases y<;>first|exact nn z|skip)
  simp only[Rep]at p q;subst p q;exact z)
def zK{l:List V}{ds:List D}{i:Int}{v:V}(e:bL l i=some v)(q:aq h S l ds):∃d,bL ds i=some d/\Rep h S v d:=by
 unfold bL at e ⊢;rw[q.length]at e;cases z:dR ds.length i with
 |none=>rw[z]at e;cases e
 |some j=>rw[z]at e;exact q.get e
def Ly{x y v:V}{d e:D}(z:fN x y=some v)(p:bq h S x d)(q:bq h S y e):∃r,Ev.fN d e h=some r/\Rep h S v r:=by
 cases x<;>cases y<;>simp only[fN,reduceCtorEq]at z<;>simp only[bq,Rep]at p q
 .subst p q;simp only[wj]at z;obtain⟨c,z,rfl⟩:=z;exact⟨.str [c],by simp[Ev.fN,z],rfl⟩
 .obtain⟨ds,rfl,p⟩:=p;subst q;simpa[Ev.fN]using zK z p
 .obtain⟨n,ds,rfl,a,p⟩:=p;subst q;simpa[Ev.fN,gP a]using zK z p
 .obtain⟨n,ds,rfl,_,a,p⟩:=p;subst q;simpa[Ev.fN,iE a]using zK z p
def Lz{x v:V}{d:D}{lo hi:Option Int}(w:∀m,S m->m<h.length)(z:fB x lo hi=some v)(p:bq h S x d):∃r h' S',Ev.fB d lo hi h=.ok r h'/\Rep h' S' v r/\Al h S h' S':=by
 cases x<;>simp only[fB,reduceCtorEq]at z<;>simp only[bq,Rep]at p
 .subst p;cases z;exact⟨_,_,S,rfl,rfl,.refl⟩
 .obtain⟨ds,rfl,p⟩:=p;cases z;exact⟨_,_,S,rfl,⟨_,rfl,p.cut _ _⟩,.refl⟩
 .obtain⟨n,ds,rfl,a,p⟩:=p;simp only[Ev.fB,gP a];exact jf w z (p.cut _ _)
 .obtain⟨n,ds,rfl,_,a,p⟩:=p;simp only[Ev.fB,iE a];exact jf w z (p.cut _ _)
def LA{x v:V}{d:D}(z:toT x=some v)(p:bq h S x d):∃r,Ev.qP d h=.ok r h/\Rep h S v r:=by
 cases x<;>simp only[toT,reduceCtorEq]at z<;>simp only[bq,Rep]at p
 .obtain⟨ds,rfl,p⟩:=p;cases z;exact⟨_,rfl,⟨_,rfl,p⟩⟩
 .obtain⟨n,ds,rfl,a,p⟩:=p;unfold je at z;split at z
  .rename_i k;cases z;refine⟨.tup ds,?_,⟨_,rfl,p⟩⟩;simp only[Ev.qP,gP a];rw[IC (by rw[<-p.length];exact k)]
  .cases z
 .obtain⟨n,ds,rfl,_,a,p⟩:=p;unfold je at z;split at z
  .rename_i k;cases z;refine⟨.tup ds,?_,⟨_,rfl,p⟩⟩;simp only[Ev.qP,iE a];rw[IC (by rw[<-p.length];exact k)]
  .cases z
def TL{x:V}{l:List V}{d:D}(z:lZ x=some l)(p:bq h S x d):∃s,Ev.JZ h d=some s/\aq h S l s.1/\(∀q∈s.2,d=.ref q.1/\br h q.1=some q.2):=by
 obtain⟨n,ds,rfl,a,q⟩:=kI z p;exact⟨(ds,[(n,ds)]),by simp[Ev.JZ,a],q,by simp[a]⟩
def Hs{x:V}{d:D}(p:bq h S x d)(t:TY):Ev.cX h d t=cX x t:=by
 cases x<;>simp only[bq,Rep]at p
 .subst p;cases t<;>rfl
 .subst p;cases t<;>rfl
 .subst p;cases t<;>rfl
 .subst p;cases t<;>rfl
 .obtain⟨_,rfl,_⟩:=p;cases t<;>rfl
 .obtain⟨n,ds,rfl,a,p⟩:=p;cases t<;>simp[Ev.cX,cX,gP a]
 .obtain⟨n,ds,rfl,_,a,p⟩:=p;cases t<;>simp[Ev.cX,cX,iE a]
theorem vh:∀{l:List V}{ds:List D}{bs},boolsOf l=some bs->aq h S l ds->Ev.boolsOf ds=some bs
 |[],_,_,e,q=>by simp only[aq]at q;subst q;exact e
 |x :: xs,_,bs,e,q=>by
  cases x<;>simp only[boolsOf,reduceCtorEq,wj]at e
  obtain⟨r,e,rfl⟩:=e;simp only[aq,Rep]at q;obtain⟨_,ds,rfl,rfl,q⟩:=q;simp[Ev.boolsOf,vh e q]
theorem xY:∀{l:List V}{ds:List D}{bs},intsOf l=some bs->aq h S l ds->Ev.intsOf ds=some bs
 |[],_,_,e,q=>by simp only[aq]at q;subst q;exact e
 |x :: xs,_,bs,e,q=>by
  cases x<;>simp only[intsOf,reduceCtorEq,wj]at e
  obtain⟨r,e,rfl⟩:=e;simp only[aq,Rep]at q;obtain⟨_,ds,rfl,rfl,q⟩:=q;simp[Ev.intsOf,xY e q]
theorem rm:∀{l:List V}{ds:List D}{bs},strsOf l=some bs->aq h S l ds->Ev.strsOf ds=some bs
 |[],_,_,e,q=>by simp only[aq]at q;subst q;exact e
 |x :: xs,_,bs,e,q=>by
  cases x<;>simp only[strsOf,reduceCtorEq,wj]at e
  obtain⟨r,e,rfl⟩:=e;simp only[aq,Rep]at q;obtain⟨_,ds,rfl,rfl,q⟩:=q;simp[Ev.strsOf,rm e q]
def eL.one{v:V}{ds:List D}(q:eL h S [v] ds):∃d,ds=[d]/\bq h S v d:=by
 simp only[eL]at q;obtain⟨d,b,rfl,a,rfl⟩:=q;exact⟨d,rfl,a⟩
def LC{b:BI}{xs:List V}{v:V}{ds:List D}(w:∀m,S m->m<h.length)(z:b7 b xs=some v)(p:eL h S xs ds):∃r h' S',Ev.b7 b ds h=.ok r h'/\Rep h' S' v r/\Al h S h' S':=by
 delta b7 at z
 rcases xs with _|⟨x,_|⟨y,_|⟨u,xs⟩⟩⟩
 .cases b<;>exact nn z
 .obtain⟨d,rfl,c⟩:=p.one;cases b
  case len=>
   cases x
   case str s=>
    dsimp only at z;simp only[bq,Rep]at c;subst c;split at z
    .rename_i k;cases z;exact⟨_,_,S,by delta Ev.b7;dsimp only;rw[IC k],rfl,.refl⟩
    .cases z
   case tup l=>
    dsimp only at z;simp only[bq,Rep]at c;obtain⟨o,rfl,C⟩:=c;cases z;exact⟨_,_,S,rfl,by simp[Rep,C.length],.refl⟩
   all_goals
    dsimp only at z;simp only[wj]at z;obtain⟨l,z,rfl⟩:=z;obtain⟨n,o,rfl,a,q⟩:=kI z c;exact⟨.int o.length,h,S,by delta Ev.b7;dsimp only;simp[a],by simp[Rep,q.length],.refl⟩
  case all=>
   dsimp only at z;simp only[wj,Qj]at z;obtain⟨bs,⟨l,z,A⟩,rfl⟩:=z;obtain⟨n,o,rfl,a,q⟩:=kI z c;exact⟨_,_,S,by delta Ev.b7;dsimp only;simp only[a,Option.bind,vh A q];rfl,rfl,.refl⟩
  case sum=>
   dsimp only at z;simp only[wj,Qj]at z;obtain⟨bs,⟨l,z,A⟩,rfl⟩:=z;obtain⟨n,o,rfl,a,q⟩:=kI z c;exact⟨_,_,S,by delta Ev.b7;dsimp only;simp only[a,Option.bind,xY A q];rfl,rfl,.refl⟩
  case min=>cases x<;>exact nn z
  case max=>cases x<;>exact nn z
  case uB=>
   cases x
   case bl i=>
    dsimp only at z;simp only[bq,Rep]at c;subst c;cases z;exact⟨_,_,S,rfl,rfl,.refl⟩
   all_goals exact nn z
  case fT=>
   cases x
   case int i=>
    dsimp only at z;simp only[bq,Rep]at c;subst c;split at z
    .rename_i k;cases z;exact⟨_,_,S,by delta Ev.b7;dsimp only;rw[IC k],rfl,.refl⟩
    .cases z
   case str s=>
    dsimp only at z;simp only[bq,Rep]at c;subst c;cases z;exact⟨_,_,S,rfl,rfl,.refl⟩
   all_goals exact nn z
  case kW=>
   cases x
   case str s=>
    dsimp only at z;simp only[bq,Rep]at c;subst c;obtain⟨i,e,rfl⟩:=Option.map_eq_some_iff.mp z;exact⟨.int i,_,S,by delta Ev.b7;dsimp only;rw[e];rfl,rfl,.refl⟩
   all_goals exact nn z
  case sorted=>
   dsimp only at z;simp only[Qj]at z;obtain⟨G,⟨l,z,A⟩,B⟩:=z;obtain⟨n,o,rfl,a,q⟩:=kI z c;split at B
   .rename_i F
    delta Ev.b7;dsimp only;simp only[a,Option.bind,rm A q]
    rw[IC F];exact jf w B (aq.map (f:=V.str) (g:=D.str) (λs=>by simp[Rep]) _)
   .cases B
 .cases b
  case min=>
   cases x
   case int i=>
    cases y
    case int j=>
     dsimp only at z;simp only[eL,bq,Rep]at p;obtain⟨_,_,rfl,rfl,_,_,rfl,rfl,rfl⟩:=p;cases z;exact⟨_,_,S,rfl,rfl,.refl⟩
    all_goals exact nn z
   all_goals exact nn z
  case max=>
   cases x
   case int i=>
    cases y
    case int j=>
     dsimp only at z;simp only[eL,bq,Rep]at p;obtain⟨_,_,rfl,rfl,_,_,rfl,rfl,rfl⟩:=p;cases z;exact⟨_,_,S,rfl,rfl,.refl⟩
    all_goals exact nn z
   all_goals exact nn z
  case len=>cases x<;>exact nn z
  case uB=>cases x<;>exact nn z
  case fT=>cases x<;>exact nn z
  case kW=>cases x<;>exact nn z
  all_goals exact nn z
 .cases b
  case min=>cases x <;> (try cases y)<;>exact nn z
  case max=>cases x <;> (try cases y)<;>exact nn z
  case len=>cases x<;>exact nn z
  case uB=>cases x<;>exact nn z
  case fT=>cases x<;>exact nn z
  case kW=>cases x<;>exact nn z
  all_goals exact nn z
def LF{m:ME}{o:V}{xs:List V}{v:V}{d:D}{ds:List D}(z:dw m o xs=some v)(hm:iV m=false)(po:bq h S o d)(p:eL h S xs ds):Ev.xy m d h=true/\∃r,Ev.dw m d ds h=.ok r h/\Rep h S v r:=by
 unfold dw at z;split at z
 .obtain⟨d,rfl,b⟩:=p.one;simp only[bq,Rep]at po;subst po;simp only[Qj]at z;obtain⟨j,⟨l,z,f⟩,c⟩:=z;obtain⟨n,x,rfl,a,q⟩:=kI z b;split at c
  .rename_i k;cases c;refine⟨rfl,_,?_,rfl⟩
   delta Ev.dw;dsimp only;simp only[a,Option.bind,rm f q]
   rw[IC k]
  .cases c
 .obtain⟨y,VM,rfl,b,g⟩:=p;obtain⟨A,rfl,e⟩:=eL.one g;simp only[bq,Rep]at po b e;subst po b e;split at z
  .rename_i i;cases z;exact⟨rfl,_,by delta Ev.dw;dsimp only;rw[IC i],rfl⟩
  .cases z
 .cases z
def Ht{x:V}{d:D}(f:tR x=true)(p:Rep h U x d):Rep [] U x d:=by
 cases x<;>simp only[tR,Xw]at f<;>exact p
def DI{x:V}{d:D}(p:Rep h U x d):∀{kvs:List (D×D)}{v:V},eK x kvs=some v->∃r,Ev.eK d kvs=some r/\Rep h S v r:=by
 intro kvs v z;unfold eK at z;split at z
 .rename_i f;have c:=Ht f p;induction kvs with
  |nil=>cases z
  |cons e r g=>
   obtain⟨k,u⟩:=e;simp only[zH]at z;simp only[Ev.eK];split at z
   .rename_i y;simp only[Qj]at y;obtain⟨i,a,b⟩:=y;rw[jO 1 b (mW a) c];exact⟨u,rfl,mW z⟩
   .rename_i y;simp only[Qj]at y;obtain⟨i,a,b⟩:=y;rw[jO 1 b (mW a) c];exact g z
   .cases z
 .cases z
def DJ{x:V}{l:List V}{d:D}(z:gi x=some l)(p:bq h S x d):∃s,Ev.gi h d=some s/\aq h S l s.1/\(∀q∈s.2,d=.ref q.1/\br h q.1=some q.2):=by
 cases x<;>simp only[gi,reduceCtorEq]at z<;>simp only[bq,Rep]at p
 .subst p;cases z;exact⟨_,rfl,aq.map (f:=λc=>V.str [c]) (g:=λc=>D.str [c]) (λ_=>by simp[Rep]) _,by simp⟩
 .obtain⟨ds,rfl,p⟩:=p;cases z;exact⟨_,rfl,p,by simp⟩
 .obtain⟨n,ds,rfl,a,p⟩:=p;cases z;exact⟨(ds,[(n,ds)]),by simp[Ev.gi,gP a],p,by simp[gP a]⟩
 .obtain⟨n,ds,rfl,_,a,p⟩:=p;cases z;exact⟨(ds,[(n,ds)]),by simp[Ev.gi,iE a],p,by simp[iE a]⟩
def vj(lo:Int)(n:Nat):aq h S (range lo n) (Ev.range lo n):=aq.map (f:=λ(i:Nat)=>V.int (lo+i)) (g:=λ(i:Nat)=>D.int (lo+i)) (λ_=>by simp[Rep]) _
def LG{xs l:List V}{ds:List D}(z:dH xs=some l)(p:eL h S xs ds):∃s,Ev.dH ds=some (s,[])/\aq h S l s:=by
 unfold dH at z;split at z
 .obtain⟨d,rfl,a⟩:=p.one;simp only[bq,Rep]at a;subst a;split at z
  .rename_i k;cases z;exact⟨_,by simp only[Ev.dH];rw[IC k],vj _ _⟩
  .cases z
 .simp only[eL,bq,Rep]at p;obtain⟨_,_,rfl,rfl,_,_,rfl,rfl,rfl⟩:=p;split at z
  .rename_i k;cases z;exact⟨_,by simp only[Ev.dH];rw[IC k],vj _ _⟩
  .cases z
 .cases z
theorem Hu:∀{a:List V}{ds:List D}(k:Int),aq h S a ds->aq h S (jw k a) (Ev.jw k ds)
 |[],_,_,p=>by simp only[aq]at p;subst p;simp[jw,Ev.jw,aq]
 |x :: xs,_,k,p=>by
  simp only[aq]at p;obtain⟨d,ds,rfl,b,c⟩:=p;simp only[jw,Ev.jw];exact .cons ⟨_,rfl,.cons rfl (.cons b .nil)⟩ (Hu _ c)
end
def kF(M B:Nat->Prop)(h:Hh)(S:Nat->Prop):Option Sl->Option D->Prop
 |none,p=>p=none
 |some (.val v),p=>∃d,p=some d/\Rep h S v d
 |some (.own l),p=>∃m ds,p=some (.ref m)/\(M m/\¬ B m)/\h[m]?=some (.lst ds)/\aq h S l ds
 |some (.bor l),p=>∃m ds,p=some (.ref m)/\(M m/\B m)/\h[m]?=some (.lst ds)/\aq h S l ds
 |some (.ro l),p=>∃m ds,p=some (.ref m)/\¬ M m/\h[m]?=some (.lst ds)/\aq h S l ds
noncomputable def oO:Sl->List D->O
 |_,ds=>.lst ds
noncomputable def g6:Option Sl->Bool
 |some (.own _)=>true
 |some (.bor _)=>true
 |_=>false
noncomputable def xZ:Option Sl->Bool
 |some (.bor _)=>true
 |some (.ro _)=>true
 |_=>false
noncomputable def locked(fr:Fr)(i:Nat):Bool:=match fr[i]? with
 |some o=>xZ o
 |none=>false
structure bx(M B:Nat->Prop)(h:Hh)(S:Nat->Prop)(fr:Fr)(aj:Ev.Fr):Prop where
 wS:∀m,S m->m<h.length/\¬ M m/\¬ B m
 wM:∀m,M m->m<h.length
 wB:∀m,B m->m<h.length
 len:fr.length=aj.length
 sl:∀(i:Nat) o p,fr[i]?=some o->aj[i]?=some p->kF M B h S o p
 inj:∀(i j:Nat) o o' m,fr[i]?=some o->fr[j]?=some o'->g6 o=true->g6 o'=true->aj[i]?=some (some (.ref m))->aj[j]?=some (some (.ref m))->i=j
structure Tk(X:Nat->Prop)(h:Hh)(S:Nat->Prop)(h':Hh)(S':Nat->Prop):Prop where
 len:h.length<=h'.length
 keep:∀m,m<h.length->¬ X m->h'[m]?=h[m]?
 sub:∀m,S m->S' m
 new:∀m,S' m->S m\/(h.length<=m/\m<h'.length)
def Xs(M:Nat->Prop)(aj:Ev.Fr)(l:List Nat):Nat->Prop:=λm=>M m/\∃i∈l,aj[i]?=some (some (.ref m))
structure Out(M B:Nat->Prop)(c:List Nat)(h:Hh)(S:Nat->Prop)(fr:Fr)(aj:Ev.Fr)(h':Hh)(S':Nat->Prop)(af:Fr):Prop where
 f:bx M B h' S' af aj
 tr:Tk (Xs M aj c) h S h' S'
 lk:∀i,locked af i=locked fr i
section
variable{M B:Nat->Prop}{h h' h1 h2:Hh}{S S' S1 S2:Nat->Prop}{fr af ao:Fr}{aj:Ev.Fr}{c c1 c2:List Nat}{v:V}{d:D}{X X1 X2:Nat->Prop}
def bx.get(f:bx M B h S fr aj){i:Nat}{o:Option Sl}(e:fr[i]?=some o):∃p,aj[i]?=some p/\kF M B h S o p:=by
 have h1:=(List.getElem?_eq_some_iff.mp e).1;rw[f.len]at h1;exact⟨aj[i],Xl h1,f.sl i o _ e (Xl h1)⟩
def bx.w(f:bx M B h S fr aj):∀m,S m->m<h.length:=λm q=>(f.wS m q).1
def Al.tr(a:Al h S h' S'):Tk X h S h' S':=⟨a.len,λm q _=>a.keep m q,a.sub,a.new
 ⟩
def Tk.al(t:Tk X h S h' S')(z:∀m,¬ X m):Al h S h' S':=⟨t.len,λm q=>t.keep m q (z m),t.sub,t.new⟩
def Tk.weak(t:Tk X h S h' S')(q:∀m,X m->X1 m):Tk X1 h S h' S':=⟨t.len,λm k z=>t.keep m k λy=>z (q m y),t.sub,t.new
 ⟩
def Tk.trans(a:Tk X1 h S h1 S1)(b:Tk X2 h1 S1 h2 S2):Tk (λm=>X1 m\/X2 m) h S h2 S2 where
 len:=Xm a.len b.len
 keep:=λm q z=>by rw[b.keep m (Q5 q a.len) (λy=>z (.inr y)),a.keep m q (λy=>z (.inl y))]
 sub:=λm q=>b.sub m (a.sub m q)
 new:=λm q=>by
  rcases b.new m q with q|⟨e,f⟩
  .rcases a.new m q with q|⟨e,f⟩
   .exact .inl q
   .exact .inr ⟨e,Q5 f b.len⟩
  .exact .inr ⟨Xm a.len e,f⟩
theorem Al.trans(a:Al h S h1 S1)(b:Al h1 S1 h2 S2):Al h S h2 S2:=((a.tr (X:=λ_=>False)).trans (b.tr (X:=λ_=>False))).al λm z=>by simp at z
def Tk.refl:Tk X h S h S:=⟨VG _,λ_ _ _=>rfl,λ_ q=>q,λ_ q=>.inl q
 ⟩
def Xs.app{l1 l2:List Nat}{m:Nat}:Xs M aj (l1++l2) m↔Xs M aj l1 m\/Xs M aj l2 m:=by
 unfold Xs;constructor
 .rintro⟨a,i,b,e⟩;rcases List.mem_append.mp b with b|b
  .exact .inl ⟨a,i,b,e⟩
  .exact .inr ⟨a,i,b,e⟩
 .rintro(⟨a,i,b,e⟩|⟨a,i,b,e⟩)
  .exact⟨a,i,List.mem_append.mpr (.inl b),e⟩
  .exact⟨a,i,List.mem_append.mpr (.inr b),e⟩
def Xs.nil{m:Nat}:¬ Xs M aj [] m:=by rintro⟨_,i,hi,_⟩;simp at hi
def Xs.mono{l1 l2:List Nat}(q:∀i∈l1,i∈l2){m:Nat}:Xs M aj l1 m->Xs M aj l2 m:=λ⟨a,i,b,e⟩=>⟨a,i,q i b,e⟩
def Rep.tr(q:Rep h S v d)(f:bx M B h S fr aj)(t:Tk (Xs M aj c) h S h' S'):Rep h' S' v d:=q.mono (λm z=>t.keep m (f.wS m z).1 (λy=>(f.wS m z).2.1 y.1)) t.sub
def aq.tr{l:List V}{ds:List D}(q:aq h S l ds)(f:bx M B h S fr aj)(t:Tk (Xs M aj c) h S h' S'):aq h' S' l ds:=q.mono (λm z=>t.keep m (f.wS m z).1 (λy=>(f.wS m z).2.1 y.1)) t.sub
def bq.tr(q:bq h S v d)(f:bx M B h S fr aj)(t:Tk X h S h' S')(z:∀m,¬ X m):bq h' S' v d:=q.mono (λm k=>t.keep m k (z m)) f.w t.sub
def kF.al{o:Option Sl}{p:Option D}(q:kF M B h S o p)(w:∀m,S m->m<h.length)(a:Al h S h' S'):kF M B h' S' o p:=by
 have k:∀m,S m->h'[m]?=h[m]?:=λm z=>a.keep m (w m z);have g:∀(m:Nat) (ds:O),h[m]?=some ds->h'[m]?=some ds:=λm ds z=>by rw[a.keep m (List.getElem?_eq_some_iff.mp z).1];exact z
 rcases o with _|s
 .exact q
 .cases s with
  |val v=>obtain⟨d,e,q⟩:=q;exact⟨d,e,q.mono k a.sub⟩
  |own l=>obtain⟨m,ds,e,z,y,q⟩:=q;exact⟨m,ds,e,z,g m _ y,q.mono k a.sub⟩
  |bor l=>obtain⟨m,ds,e,z,y,q⟩:=q;exact⟨m,ds,e,z,g m _ y,q.mono k a.sub⟩
  |ro l=>obtain⟨m,ds,e,z,y,q⟩:=q;exact⟨m,ds,e,z,g m _ y,q.mono k a.sub⟩
theorem bx.al(f:bx M B h S fr aj)(a:Al h S h' S'):bx M B h' S' fr aj where
 wS:=λm q=>by
  rcases a.new m q with q|⟨j,b⟩
  .exact⟨Q5 (f.wS m q).1 a.len,(f.wS m q).2⟩
  .exact⟨b,λz=>by have:=f.wM m z;omega,λz=>by have:=f.wB m z;omega⟩
 wM:=λm q=>Q5 (f.wM m q) a.len
 wB:=λm q=>Q5 (f.wB m q) a.len
 len:=f.len
 sl:=λi o p e g=>(f.sl i o p e g).al f.w a
 inj:=f.inj
theorem Out.refl(f:bx M B h S fr aj):Out M B c h S fr aj h S fr:=⟨f,.refl,λ_=>rfl⟩
theorem Out.trans(a:Out M B c1 h S fr aj h1 S1 af)(b:Out M B c2 h1 S1 af aj h2 S2 ao):Out M B (c1++c2) h S fr aj h2 S2 ao:=⟨b.f,(a.tr.trans b.tr).weak λm z=>Xs.app.mpr z,λi=>(b.lk i).trans (a.lk i)⟩
theorem Out.al(a:Out M B c h S fr aj h1 S1 af)(b:Al h1 S1 h2 S2):Out M B c h S fr aj h2 S2 af:=⟨a.f.al b,(a.tr.trans (b.tr (X:=λ_=>False))).weak (λm z=>by rcases z with z|z;exact z;exact z.elim),a.lk⟩
theorem Out.weak(a:Out M B c h S fr aj h1 S1 af)(q:∀i∈c,i∈c1):Out M B c1 h S fr aj h1 S1 af:=⟨a.f,a.tr.weak λm z=>Xs.mono q z,a.lk⟩
def fU(k:Bool)(h:Hh)(S:Nat->Prop)(v:V)(d:D):Prop:=if k=true then bq h S v d else Rep h S v d
def fU.of{k:Bool}(q:Rep h S v d):fU k h S v d:=by unfold fU;split;exact q.top;exact q
def fU.t{k:Bool}(q:fU k h S v d):bq h S v d:=by unfold fU at q;split at q;exact q;exact q.top
def fU.n(q:fU false h S v d):Rep h S v d:=by simpa[fU]using q
def bx.slot(f:bx M B h S fr aj){i m:Nat}(e:aj[i]?=some (some (.ref m)))(hm:M m):∃o,fr[i]?=some o/\g6 o=true:=by
 have b:i<fr.length:=by rw[f.len];exact(List.getElem?_eq_some_iff.mp e).1
 refine⟨fr[i],Xl b,?_⟩;have s:=f.sl i _ _ (Xl b) e
 revert s
 generalize fr[i]=o
 intro s;rcases o with _|g
 .cases s
 .cases g with
  |own l=>rfl
  |bor l=>rfl
  |ro l=>obtain⟨j,ds,e,y,_⟩:=s;cases e;exact absurd hm y
  |val v=>
   obtain⟨d,e,q⟩:=s;cases e;exfalso;cases v<;>simp only[Rep,reduceCtorEq]at q
   .obtain⟨_,e,_⟩:=q;cases e
   .obtain⟨n,ds,e,a,_⟩:=q;cases e;exact(f.wS _ a).2.1 hm
   .obtain⟨n,ds,e,a,_⟩:=q;cases e;exact(f.wS _ a).2.1 hm
theorem fU.tr{k:Bool}{a:E}(q:fU k h S v d)(f:bx M B h S fr aj)(t:Tk (Xs M aj c) h S h' S')(hk:k=true->kf a c=true)(ha:∀i,a=.v i->aj[i]?.join=some d):fU k h' S' v d:=by
 unfold fU at q ⊢;split at q
 .rename_i e;rw[IC e];have hk:=hk e;have b:c=[]->bq h' S' v d:=λz=>q.tr f t λm y=>by subst z;exact Xs.nil y
  by_cases g:∃i,a=.v i
  .obtain⟨i0,rfl⟩:=g;simp only[kf,Zg,List.contains_eq_mem,Z3]at hk;cases v
   case lst l=>
    simp only[bq]at q ⊢;obtain⟨n,ds,rfl,o,x⟩:=q;refine⟨n,ds,rfl,?_,x.tr f t⟩;rw[t.keep n (List.getElem?_eq_some_iff.mp o).1 ?_]
    .exact o
    .rintro⟨mn,j,hj,ej⟩;have r:aj[i0]?=some (some (D.ref n)):=by
      have:=ha i0 rfl;cases z:aj[i0]? with
      |none=>rw[z]at this;cases this
      |some p=>rw[z]at this;simp at this;rw[this]
     obtain⟨A,C,F⟩:=f.slot r mn;obtain⟨G,H,I⟩:=f.slot ej mn;have:=f.inj i0 j A G n C H F I r ej;subst this;exact hk hj
   all_goals exact Rep.tr (show Rep h S _ d from q) f t
  .have:kf a c=c.isEmpty:=by
    cases a<;>first|rfl|exact absurd ⟨_,rfl⟩ g
   rw[this,List.isEmpty_iff]at hk;exact b hk
 .rename_i e;rw[T8 e];exact q.tr f t
def Hv{k:Bool}{i:Nat}(e:pF k fr i=some v)(f:bx M B h S fr aj):∃d,aj[i]?.join=some d/\fU k h S v d:=by
  unfold pF at e;split at e
  . rename_i z;obtain⟨p,a,q⟩:=f.get z;obtain⟨d,rfl,q⟩:=q;cases e;exact⟨d,by rw[a];rfl,.of q⟩
  all_goals first
    | (rename_i z
       obtain⟨p,a,q⟩:=f.get z;obtain⟨m,ds,rfl,_,y,q⟩:=q;split at e
       . rename_i b;cases e;exact⟨.ref m,by rw[a];rfl,by unfold fU;rw[IC b];exact⟨m,ds,rfl,y,q⟩⟩
       . cases e)
    |cases e
def QS:Sl->List V->Prop
 |.bor l,l'=>l=l'
 |_,_=>False
def QT:Sl->List V->Prop
 |.ro l,l'=>l=l'
 |_,_=>False
def jF{i:Nat}{s:Sl}(e:lent fr i=some s)(f:bx M B h S fr aj):∃m ds l o,fr[i]?=some o/\aj[i]?=some (some (.ref m))/\h[m]?=some (oO s ds)/\aq h S l ds/\((QS s l/\M m/\g6 o=true)\/(QT s l/\¬ M m/\o=some s)):=by
 unfold lent at e;split at e
 .rename_i g z;obtain⟨p,b,q⟩:=f.get z;cases g with
  |val v=>simp[Sl.lend]at e
  |own l=>
   simp[Sl.lend]at e;subst e;obtain⟨m,ds,rfl,y,a,q⟩:=q;exact⟨m,ds,l,_,z,b,a,q,.inl ⟨rfl,y.1,rfl⟩⟩
  |bor l=>
   simp[Sl.lend]at e;subst e;obtain⟨m,ds,rfl,y,a,q⟩:=q;exact⟨m,ds,l,_,z,b,a,q,.inl ⟨rfl,y.1,rfl⟩⟩
  |ro l=>
   simp[Sl.lend]at e;subst e;obtain⟨m,ds,rfl,y,a,q⟩:=q;exact⟨m,ds,l,_,z,b,a,q,.inr ⟨rfl,y,rfl⟩⟩
 .cases e
def sQ(h:Hh)(S:Nat->Prop)(aj:Ev.Fr):List (Nat ⊕ V)->List D->Prop
 |[],ds=>ds=[]
 |.inl i :: r,ds=>∃d es,ds=d :: es/\aj[i]?=some (some d)/\sQ h S aj r es
 |.inr v :: r,ds=>∃d es,ds=d :: es/\Rep h S v d/\sQ h S aj r es
def mX(h:Hh)(S:Nat->Prop):List Sl->List D->List (List V)->Prop
 |[],_,os=>os=[]
 |.val _ :: sl,ds,os=>∃d es,ds=d :: es/\mX h S sl es os
 |.own _ :: _,_,_=>False
 |s :: sl,ds,os=>∃d es l r m cs,ds=d :: es/\os=l :: r/\d=.ref m/\h[m]?=some (oO s cs)/\aq h S l cs/\mX h S sl es r
def pZ(P:aP)(P':Ev.aP):Prop:=∀f sl v os,P f sl=some (v,os)->∀(h:Hh) (S B:Nat->Prop) (ds:List D),bx B B h S (sl.map some) (ds.map some)->
 ∃d h' S',P' f ds h=.ok d h'/\Rep h' S' v d/\Tk B h S h' S'/\mX h' S' sl ds os
theorem args_get(f:bx M B h S fr aj):∀{as:List (Nat ⊕ V)}{sl:List Sl}{ds:List D},args fr as=some sl->sQ h S aj as ds->sl.length=ds.length/\∀(a:Nat) s d,sl[a]?=some s->ds[a]?=some d->
  (∃i,as[a]?=some (.inl i)/\lent fr i=some s/\aj[i]?=some (some d))\/(∃v,s=.val v/\Rep h S v d)
 |[],sl,ds,e,q=>by
  simp[args]at e;simp only[sQ]at q;subst e q;simp
 |.inl i :: r,sl,ds,e,q=>by
  simp only[args,Qj,wj]at e;obtain⟨s,y,l,j,rfl⟩:=e;obtain⟨d,A,rfl,o,q⟩:=q;obtain⟨h1,h2⟩:=args_get f j q;refine⟨by simp[h1],λa p x b g=>?_⟩;cases a with
  |zero=>simp at b g;subst b g;exact .inl ⟨i,by simp,y,o⟩
  |succ a=>exact(h2 a p x (by simpa using b) (by simpa using g)).imp (λ⟨i,k,z⟩=>⟨i,by simpa using k,z⟩) id
 |.inr v :: r,sl,ds,e,q=>by
  simp only[args,wj]at e;obtain⟨l,j,rfl⟩:=e;obtain⟨d,A,rfl,o,q⟩:=q;obtain⟨h1,h2⟩:=args_get f j q;refine⟨by simp[h1],λa p x b g=>?_⟩;cases a with
  |zero=>simp at b g;subst b g;exact .inr ⟨v,rfl,o⟩
  |succ a=>exact(h2 a p x (by simpa using b) (by simpa using g)).imp (λ⟨i,k,z⟩=>⟨i,by simpa using k,z⟩) id
theorem g7:∀{as:List (Nat ⊕ V)}{a i:Nat},as[a]?=some (.inl i)->i∈bR as
 |[],_,_,e=>by simp at e
 |.inl j :: r,0,i,e=>by simp at e;subst e;simp[bR]
 |.inr j :: r,0,i,e=>by simp at e
 |.inl j :: r,a+1,i,e=>by have:=g7 (as:=r) (a:=a) (i:=i) (by simpa using e);simp[bR,this]
 |.inr j :: r,a+1,i,e=>by have:=g7 (as:=r) (a:=a) (i:=i) (by simpa using e);simp[bR,this]
theorem mY:∀{as:List (Nat ⊕ V)}{a b i:Nat},(bR as).Nodup->as[a]?=some (.inl i)->as[b]?=some (.inl i)->a=b
 |[],_,_,_,_,e,_=>by simp at e
 |x :: r,0,0,_,_,_,_=>rfl
 |.inr j :: r,0,b+1,i,n,e,_=>by simp at e
 |.inl j :: r,0,b+1,i,n,e,e2=>by
  simp at e;subst e;simp only[bR,Zr]at n;exact absurd (g7 (as:=r) (a:=b) (by simpa using e2)) n.1
 |.inr j :: r,a+1,0,i,n,_,e=>by simp at e
 |.inl j :: r,a+1,0,i,n,e2,e=>by
  simp at e;subst e;simp only[bR,Zr]at n;exact absurd (g7 (as:=r) (a:=a) (by simpa using e2)) n.1
 |.inl j :: r,a+1,b+1,i,n,e1,e2=>by
  simp only[bR,Zr]at n;have:=mY (as:=r) (a:=a) (b:=b) (i:=i) n.2 (by simpa using e1) (by simpa using e2);omega
 |.inr j :: r,a+1,b+1,i,n,e1,e2=>by
  simp only[bR]at n;have:=mY (as:=r) (a:=a) (b:=b) (i:=i) n (by simpa using e1) (by simpa using e2);omega
def DK{s:Sl}{l:List V}:g6 (some (s.with l))=g6 (some s):=by cases s<;>rfl
def yc{s:Sl}{l:List V}:xZ (some (s.with l))=xZ (some s):=by cases s<;>rfl
theorem vm:∀{is:List Nat}{ls:List (List V)}{fr af:Fr},back is ls fr=some af->is.Nodup->af.length=fr.length/\(∀i,i∉is->af[i]?=fr[i]?)/\∀i∈is,∃(k:Nat) (s:Sl) (l:List V),is[k]?=some i/\ls[k]?=some l/\fr[i]?=some (some s)/\af[i]?=some (some (s.with l))
 |[],[],fr,af,e,_=>by simp[back]at e;subst e;simp
 |[],_ :: _,_,_,e,_=>by simp[back]at e
 |_ :: _,[],_,_,e,_=>by simp[back]at e
 |i :: is,l :: ls,fr,af,e,n=>by
  simp only[back]at e;simp only[Zr]at n;split at e
  .rename_i s z;obtain⟨h1,h2,o⟩:=vm e n.2;refine⟨by simpa using h1,λj f=>?_,λj f=>?_⟩
   .simp at f;rw[h2 j f.2,Tz (λq=>f.1 q.symm)]
   .rcases List.mem_cons.mp f with rfl|f
    .exact⟨0,s,l,by simp,by simp,z,by rw[h2 j n.1,Xn (List.getElem?_eq_some_iff.mp z).1]⟩
    .obtain⟨k,p,r,a,b,c,d⟩:=o j f;have g:i≠j:=λq=>n.1 (q▸f);rw[Tz g]at c;exact⟨k+1,p,r,by simpa using a,by simpa using b,c,d⟩
  .cases e
theorem mZ(f:bx M B h S fr aj):∀{as:List (Nat ⊕ V)}{sl:List Sl}{ds:List D}{os:List (List V)},args fr as=some sl->sQ h S aj as ds->mX h' S' sl ds os->
    ∀(k i:Nat) l,(bR as)[k]?=some i->os[k]?=some l->∃m cs s,lent fr i=some s/\aj[i]?=some (some (.ref m))/\h'[m]?=some (oO s cs)/\aq h' S' l cs
  |[],sl,ds,os,e,q,o=>by simp[bR]
  |.inl i :: r,sl,ds,os,e,q,o=>by
    simp only[args,Qj,wj]at e;obtain⟨s,L,l,y,rfl⟩:=e;obtain⟨d,N,rfl,P,q⟩:=q;obtain⟨m,cs,Y,Z,_,z,z3,z4,x⟩:=jF L f;have A:∃a b cs,os=a :: b/\h'[m]?=some (oO s cs)/\aq h' S' a cs/\mX h' S' l N b:=by
      rw[P]at z;cases z;cases s<;>first
        | (obtain⟨Q,C,a,b,m1,LH,F,G,W,H,I,J⟩:=o
           cases F;cases W;exact⟨a,b,LH,G,H,I,J⟩)
        | (rcases x with x|x<;>exact x.1.elim)
    obtain⟨a,b,LH,rfl,H,I,J⟩:=A;intro k j K g p;cases k with
    |zero=>simp[bR]at g p;subst g p;exact⟨m,LH,s,L,z,H,I⟩
    |succ k=>exact mZ f y q J k j K (by simpa[bR]using g) (by simpa using p)
  |.inr v :: r,sl,ds,os,e,q,o=>by
    simp only[args,wj]at e;obtain⟨l,y,rfl⟩:=e;obtain⟨d,N,rfl,P,q⟩:=q;obtain⟨Q,C,F,G⟩:=o;cases F;intro k j K g p;exact mZ f y q G k j K (by simpa[bR]using g) p
theorem lz:∀{as:List (Nat ⊕ V)}{sl:List Sl}{i:Nat},args fr as=some sl->i∈bR as->∃s,lent fr i=some s
 |[],_,_,_,q=>by simp[bR]at q
 |.inl j :: r,_,i,z,q=>by
  simp only[args,Qj,wj]at z;obtain⟨s,b,l,a,rfl⟩:=z;simp[bR]at q;rcases q with rfl|q
  .exact⟨s,b⟩
  .exact lz a q
 |.inr u :: r,_,i,z,q=>by
  simp only[args,wj]at z;obtain⟨l,a,rfl⟩:=z;exact lz a (by simpa[bR]using q)
def LB(fr:Fr)(aj:Ev.Fr)(as:List (Nat ⊕ V)):Nat->Prop:=λm=>∃(i:Nat) (o:Option Sl),i∈bR as/\fr[i]?=some o/\g6 o=true/\aj[i]?=some (some (.ref m))
theorem LB.m(f:bx M B h S fr aj){as:List (Nat ⊕ V)}:∀m,LB fr aj as m->M m:=λm ⟨i,o,_,a,b,c⟩=>by
  have s:=f.sl i o _ a c;rcases o with _|j
  .cases b
  .cases j with
   |val v=>cases b
   |ro l=>cases b
   |own l=>obtain⟨k,g,e,y,_⟩:=s;cases e;exact y.1
   |bor l=>obtain⟨k,g,e,y,_⟩:=s;cases e;exact y.1
def Hw(f:bx M B h S fr aj){as:List (Nat ⊕ V)}{sl:List Sl}{ds:List D}(nd:(bR as).Nodup)(z:args fr as=some sl)(q:sQ h S aj as ds):bx (LB fr aj as) (LB fr aj as) h S (sl.map some) (ds.map some):=by
 have x:=LB.m f (as:=as);obtain⟨hl,G⟩:=args_get f z q;refine⟨λm y=>⟨(f.wS m y).1,λz=>(f.wS m y).2.1 (x m z),λz=>(f.wS m y).2.1 (x m z)⟩,λm y=>f.wM m (x m y),λm y=>f.wM m (x m y),by simp[hl],λa o p g l=>?_,λa b o o' m g l J K L N=>?_⟩
 .simp at g l;obtain⟨s,g,rfl⟩:=g;obtain⟨d,l,rfl⟩:=l;rcases G a s d g l with ⟨i,C,H,A⟩|⟨u,rfl,k⟩
  .obtain⟨m,P,l0,Q,F,I,W,Y,e⟩:=jF H f;rw[A]at I;cases I;rcases e with ⟨e,Z,r⟩|⟨e,Z,r⟩
   .cases s<;>first
     | (simp only[QS]at e;subst e;exact⟨m,P,rfl,⟨⟨i,Q,g7 C,F,r,A⟩,⟨i,Q,g7 C,F,r,A⟩⟩,W,Y⟩)
     |exact e.elim
   .cases s<;>first
     | (simp only[QT]at e;subst e;exact⟨m,P,rfl,λz=>Z (x m z),W,Y⟩)
     |exact e.elim
  .exact⟨d,rfl,k⟩
 .simp at g l L N;obtain⟨s,g,rfl⟩:=g;obtain⟨s',l,rfl⟩:=l;rcases G a s _ g L with ⟨i,C,H,A⟩|⟨u,rfl,k⟩
  .rcases G b s' _ l N with ⟨j,k4,k5,k6⟩|⟨u,rfl,k⟩
   .obtain⟨m1,_,l1,o1,F,I,_,_,e⟩:=jF H f;obtain⟨m2,_,l2,o2,x1,x2,_,_,x5⟩:=jF k5 f;have i1:g6 o1=true:=by rcases e with ⟨_,_,r⟩|⟨e,_,rfl⟩;exact r;exact J
    have i2:g6 o2=true:=by rcases x5 with ⟨_,_,r⟩|⟨x5,_,rfl⟩;exact r;exact K
    have:=f.inj i j o1 o2 m F x1 i1 i2 A k6;subst this;exact mY nd C k4
   .cases K
  .cases J
def DL{P:aP}{P':Ev.aP}(HP:pZ P P'){g:Nat}{as:List (Nat ⊕ V)}{ds:List D}(e:ff P g as fr=.ok v af)(f:bx M B h S fr aj)(q:sQ h S aj as ds) :
  ∃d h' S',P' g ds h=.ok d h'/\Rep h' S' v d/\Out M B (bR as) h S fr aj h' S' af:=by
 unfold ff at e;split at e
 case isFalse=>cases e
 rename_i nd;cases z:args fr as with
 |none=>rw[z]at e;cases e
 |some W=>
 rw[z]at e;simp only at e;cases z2:P g W with
 |none=>rw[z2]at e;cases e
 |some vo=>
 obtain⟨v',os⟩:=vo;rw[z2]at e;simp only at e;cases z3:back (bR as) os fr with
 |none=>rw[z3]at e;cases e
 |some ao=>
 rw[z3]at e;simp at e;obtain⟨rfl,rfl⟩:=e;obtain⟨hl,hg⟩:=args_get f z q
 let B0:Nat->Prop:=LB fr aj as
 have Q:∀m,B0 m->M m:=LB.m f;have F0:bx B0 B0 h S (W.map some) (ds.map some):=Hw f nd z q;obtain⟨d,h',S',c1,c2,r,c4⟩:=HP g W v' os z2 h S B0 ds F0;obtain⟨b1,Y,Z⟩:=vm z3 nd;have hL:=mZ f z q c4;have N:∀m,S m->h'[m]?=h[m]?:=λm y=>r.keep m (f.wS m y).1 (λz=>(f.wS m y).2.1 (Q m z));refine⟨d,h',S',c1,c2,⟨?_,?_,?_⟩⟩
 .refine⟨λm y=>?_,λm y=>Q5 (f.wM m y) r.len,λm y=>Q5 (f.wB m y) r.len,by rw[b1,f.len],λi o p A F=>?_,λi j o o' m A F y3 y4 y5 y6=>?_⟩
  .rcases r.new m y with y|⟨A,F⟩
   .exact⟨Q5 (f.wS m y).1 r.len,(f.wS m y).2⟩
   .exact⟨F,λz=>by have:=f.wM m z;omega,λz=>by have:=f.wB m z;omega⟩
  .by_cases G:i∈bR as
   .obtain⟨k,s,l,x,C,I,w4⟩:=Z i G;rw[w4]at A;cases A;obtain⟨m,cs,s',x0,J,K,H⟩:=hL k i l x C;rw[J]at F;cases F;simp only[lent,I]at x0;have a:=f.sl i _ _ I J;cases s with
    |val u=>
     exfalso;have:∃s,lent fr i=some s:=lz z G;obtain⟨s,hs⟩:=this;simp[lent,I,Sl.lend]at hs
    |own u=>cases x0;obtain⟨m',b,e,y,_⟩:=a;cases e;exact⟨m,cs,rfl,y,K,H⟩
    |bor u=>cases x0;obtain⟨m',b,e,y,_⟩:=a;cases e;exact⟨m,cs,rfl,y,K,H⟩
    |ro u=>
     obtain⟨m',b,e,y,A,F⟩:=a;cases e;refine⟨m,b,rfl,y,?_,F.mono N r.sub⟩;rw[r.keep m (List.getElem?_eq_some_iff.mp A).1 (λz=>y (Q m z))];exact A
   .rw[Y i G]at A;have a:=f.sl i o p A F;rcases o with _|s
    .exact a
    .cases s with
     |val u=>obtain⟨d,e,q⟩:=a;exact⟨d,e,q.mono N r.sub⟩
     |own u=>
      obtain⟨m,b,rfl,x,C,I⟩:=a;refine⟨m,b,rfl,x,?_,I.mono N r.sub⟩;rw[r.keep m (f.wM m x.1) (λ⟨j,o2,J,K,H,L⟩=>G (f.inj i j _ o2 m A K rfl H F L▸J))];exact C
     |bor u=>
      obtain⟨m,b,rfl,x,C,I⟩:=a;refine⟨m,b,rfl,x,?_,I.mono N r.sub⟩;rw[r.keep m (f.wM m x.1) (λ⟨j,o2,J,K,H,L⟩=>G (f.inj i j _ o2 m A K rfl H F L▸J))];exact C
     |ro u=>
      obtain⟨m,b,rfl,x,C,I⟩:=a;refine⟨m,b,rfl,x,?_,I.mono N r.sub⟩;rw[r.keep m (List.getElem?_eq_some_iff.mp C).1 (λz=>x (Q m z))];exact C
  .have kind:∀(i:Nat) o,ao[i]?=some o->g6 o=true->∃o0,fr[i]?=some o0/\g6 o0=true:=λi o x C=>by
    by_cases G:i∈bR as
    .obtain⟨k,s,l,J,K,H,L⟩:=Z i G;rw[L]at x;cases x;exact⟨_,H,by rw[DK]at C;exact C⟩
    .rw[Y i G]at x;exact⟨o,x,C⟩
   obtain⟨oi,k1,k2⟩:=kind i o A y3;obtain⟨oj,k3,k4⟩:=kind j o' F y4;exact f.inj i j oi oj m k1 k3 k2 k4 y5 y6
 .exact r.weak λm z=>⟨Q m z,by obtain⟨i,o,a1,a2,a3,a4⟩:=z;exact⟨i,a1,a4⟩⟩
 .intro i;unfold locked;by_cases G:i∈bR as
  .obtain⟨k,s,l,J,K,H,L⟩:=Z i G;rw[H,L];exact yc
  .rw[Y i G]
end
end Pv
namespace Pv
open Ev (D O Hh)
end Pv
namespace Pv
open Ev (D O Hh bO bz TY BI ME T E Es Eo It S Ss Fn big deep b2i rep cB dR bL aR cut aY bJ slots br)
section
variable{M B:Nat->Prop}{h h' h1 h2:Hh}{S S' S1 S2:Nat->Prop}{fr af ao:Fr}{aj:Ev.Fr}{c:List Nat}{v:V}{d:D}
def jt:(∀d,aB (.c d)=[])/\(∀i,aB (.v i)=[])/\(∀es,aB (.tup es)=cY es)/\(∀es,aB (.lst es)=cY es)/\(∀o a b,aB (.bin o a b)=aB a++aB b)/\(∀o a b,aB (.cmp o a b)=aB a++aB b)
 /\(∀o p a b c,aB (.ch o p a b c)=aB a++(aB b++aB c))
 /\(∀a,aB (.nt a)=aB a)/\(∀a,aB (.neg a)=aB a)/\(∀a b,aB (.an a b)=aB a++aB b)/\(∀a b,aB (.orr a b)=aB a++aB b)/\(∀t a b,aB (.jW t a b)=aB t++(aB a++aB b))
 /\(∀a b,aB (.ix a b)=aB a++aB b)/\(∀a lo hi,aB (.sl a lo hi)=aB a++(iD lo++iD hi))
 /\(∀f es,aB (.cl f es)=cY es++jb es)/\(∀f es,aB (.bi f es)=cY es)/\(∀m o es,aB (.me m o es)=aB o++(cY es++Fe m o))
 /\(∀a l,aB (.fz a l)=aB a)
 /\(∀i a,aB (.eB i a)=aB a)
 /\(∀a,aB (.gX a)=aB a):=by and_intros<;>intros<;>rfl
def kJ{n m:Nat}{o:O}(q:n≠m):(h.set n o)[m]?=h[m]?:=Tz q
def bx.mM(f:bx M B h S fr aj){i n:Nat}{o:Option Sl}(e:fr[i]?=some o)(hM:g6 o=true)(e':aj[i]?=some (some (.ref n))):M n:=by
 have s:=f.sl i o _ e e';rcases o with _|b
 .cases hM
 .cases b with
  |val v=>cases hM
  |ro l=>cases hM
  |own l=>obtain⟨g,a,e,y,_⟩:=s;cases e;exact y.1
  |bor l=>obtain⟨g,a,e,y,_⟩:=s;cases e;exact y.1
def bx.write(f:bx M B h S fr aj){i n:Nat}{s:Sl}{l':List V}{ds':List D}(e:fr[i]?=some (some s))(hM:g6 (some s)=true)(e':aj[i]?=some (some (.ref n)))(q:aq h S l' ds') :
  bx M B (h.set n (oO s ds')) S (fr.set i (some (s.with l'))) aj:=by
 have H:=f.mM e hM e';have C:∀m,S m->(h.set n (oO s ds'))[m]?=h[m]?:=λm z=>kJ λy=>(f.wS m z).2.1 (y▸H);have J:=(List.getElem?_eq_some_iff.mp e).1;refine⟨λm y=>by simpa using f.wS m y,λm y=>by simpa using f.wM m y,λm y=>by simpa using f.wB m y,by simp[f.len],λj o p g r=>?_,λj k o K m g r L N P Q=>?_⟩
 .by_cases x:i=j
  .subst x;rw[Xn J]at g;cases g;rw[e']at r;cases r;have a:=f.sl i _ _ e e';have I:(h.set n (oO s ds'))[n]?=some (oO s ds'):=Xn (f.wM n H);cases s with
   |val v=>cases hM
   |ro l=>cases hM
   |own l=>obtain⟨W,_,e,y,_⟩:=a;cases e;exact⟨n,ds',rfl,y,I,q.mono C λ_ z=>z⟩
   |bor l=>obtain⟨W,_,e,y,_⟩:=a;cases e;exact⟨n,ds',rfl,y,I,q.mono C λ_ z=>z⟩
  .rw[Tz x]at g;have a:=f.sl j o p g r;rcases o with _|X
   .exact a
   .cases X with
    |val u=>obtain⟨d,e,q⟩:=a;exact⟨d,e,q.mono C λ_ z=>z⟩
    |own u=>
     obtain⟨m,F,rfl,b,A,G⟩:=a;refine⟨m,F,rfl,b,?_,G.mono C λ_ z=>z⟩;rw[kJ λ(z:n=m)=>x (f.inj i j _ _ n e g hM rfl e' (by rw[z];exact r))];exact A
    |bor u=>
     obtain⟨m,F,rfl,b,A,G⟩:=a;refine⟨m,F,rfl,b,?_,G.mono C λ_ z=>z⟩;rw[kJ λ(z:n=m)=>x (f.inj i j _ _ n e g hM rfl e' (by rw[z];exact r))];exact A
    |ro u=>
     obtain⟨m,F,rfl,b,A,G⟩:=a;refine⟨m,F,rfl,b,?_,G.mono C λ_ z=>z⟩;rw[kJ λ(z:n=m)=>b (z▸H)];exact A
 .have kind:∀(j:Nat) o,(fr.set i (some (s.with l')))[j]?=some o->g6 o=true->∃o0,fr[j]?=some o0/\g6 o0=true:=λj o b A=>by
   by_cases x:i=j
   .subst x;exact⟨_,e,hM⟩
   .rw[Tz x]at b;exact⟨o,b,A⟩
  obtain⟨Y,Z,k2⟩:=kind j o g L;obtain⟨oj,k3,k4⟩:=kind k K r N;exact f.inj j k Y oj m Z k3 k2 k4 P Q
def LI{m:ME}{l l':List V}{xs:List V}{n:Nat}{ds es:List D}(z:jZ m l xs=some (v,l'))(e:h[n]?=some (.lst ds))(q:aq h S l ds)(p:eL h S xs es)(p':BG m=false->aq h S xs es)(hS:∀k,S k->k≠n) :
  ∃r ds',Ev.dw m (.ref n) es h=.ok r (h.set n (.lst ds'))/\Rep h S v r/\aq h S l' ds':=by
 unfold jZ at z;split at z
 .have p':=p' rfl;split at z
  .rename_i k;cases z;simp only[aq]at p';obtain⟨d,_,rfl,a,rfl⟩:=p';refine⟨_,_,?_,rfl,q.append (.cons a .nil)⟩
   delta Ev.dw;dsimp only;simp only[e]
   rw[IC (by rw[<-q.length];exact k)]
  .cases z
 .split at z
  .rename_i k;cases z;obtain⟨d,rfl,a⟩:=p.one;simp only[bq]at a;obtain⟨n2,i,rfl,b,a⟩:=a;refine⟨_,_,?_,rfl,q.append a⟩
   delta Ev.dw;dsimp only;simp only[e,b]
   rw[IC (by rw[<-q.length,<-a.length];exact k)]
  .cases z
 .simp only[eL]at p;subst p;split at z
  .rename_i x y;cases z;obtain⟨d,f,g⟩:=q.get y;refine⟨d,_,?_,g,q.dropLast⟩
   delta Ev.dw;dsimp only;simp only[e]
   rw[<-q.length,f]
  .cases z
 .cases z
theorem bx.set(f:bx M B h S fr aj){i:Nat}(e:put fr i (.val v)=some af)(q:Rep h S v d):bx M B h S af (aj.set i (some d))/\(∀j,locked af j=locked fr j)/\∀j,locked fr j=true->(aj.set i (some d))[j]?=aj[j]?:=by
 have J:af=fr.set i (some (.val v))/\locked fr i=false:=by
  unfold put at e;unfold locked;split at e
  .cases e
  .cases e
  .rename_i K L;cases e;refine⟨rfl,?_⟩;cases z:fr[i]? with
   |none=>rfl
   |some o=>
    rcases o with _|s
    .rfl
    .cases s with
     |bor l=>exact absurd z (K l)
     |ro l=>exact absurd z (L l)
     |_=>rfl
 obtain⟨rfl,y⟩:=J;have N:∀j,locked (fr.set i (some (.val v))) j=locked fr j:=λj=>by
  by_cases b:i=j
  .subst b;rw[y];unfold locked;by_cases r:i<fr.length
   .rw[Xn r];rfl
   .rw[XX (by simpa using r)]
  .unfold locked;rw[Tz b]
 refine⟨⟨f.wS,f.wM,f.wB,by simp[f.len],λj o p a g=>?_,λj k o A m a g C F G H=>?_⟩,N,λj b=>?_⟩
 .by_cases b:i=j
  .subst b;have r:i<fr.length:=by have:=(List.getElem?_eq_some_iff.mp a).1;simpa using this
   rw[Xn r]at a;rw[Xn (by rw[<-f.len];exact r)]at g;cases a;cases g;exact⟨d,rfl,q⟩
  .rw[Tz b]at a g;exact f.sl j o p a g
 .have I:∀(j:Nat) o,(fr.set i (some (.val v)))[j]?=some o->g6 o=true->i≠j:=λj o x P Q=>by
   subst Q;have r:i<fr.length:=by have:=(List.getElem?_eq_some_iff.mp x).1;simpa using this
   rw[Xn r]at x;cases x;cases P
  have n1:=I j o a C;have n2:=I k A g F;rw[Tz n1]at a G;rw[Tz n2]at g H;exact f.inj j k o A m a g C F G H
 .have:i≠j:=λz=>by subst z;rw[y]at b;cases b
  rw[Tz this]
theorem bx.cK:∀{is:List Nat}{vs:List V}{ds:List D}{fr af:Fr}{aj:Ev.Fr},bx M B h S fr aj->cK is vs fr=some af->aq h S vs ds->∃bS,Ev.cK is ds aj=some bS/\bx M B h S af bS/\(∀j,locked af j=locked fr j)/\∀j,locked fr j=true->bS[j]?=aj[j]?
 |[],[],ds,fr,af,aj,f,e,q=>by
  simp[Pv.cK]at e;simp only[aq]at q;subst e q;exact⟨aj,rfl,f,λ_=>rfl,λ_ _=>rfl⟩
 |[],_ :: _,_,_,_,_,_,e,_=>by simp[Pv.cK]at e
 |_ :: _,[],_,_,_,_,_,e,_=>by simp[Pv.cK]at e
 |i :: is,v :: vs,ds,fr,af,aj,f,e,q=>by
  simp only[Pv.cK,Qj]at e;obtain⟨ao,k,l⟩:=e;simp only[aq]at q;obtain⟨d,z,rfl,o,p⟩:=q;obtain⟨f2,b,r⟩:=f.set k o;obtain⟨bS,a,f3,x,y⟩:=f2.cK l p;exact⟨bS,a,f3,λj=>(x j).trans (b j),λj g=>(y j (by rw[b j];exact g)).trans (r j g)⟩
theorem bx.cG(f:bx M B h S fr aj){t:T}(e:cG t v fr=some af)(q:Rep h S v d):∃bS,Ev.cG t d aj=some bS/\bx M B h S af bS/\(∀j,locked af j=locked fr j)/\∀j,locked fr j=true->bS[j]?=aj[j]?:=by
 cases t with
 |one i=>exact⟨_,rfl,f.set e q⟩
 |many l=>
  cases v<;>simp only[Pv.cG,reduceCtorEq]at e
  simp only[Rep]at q;obtain⟨ds,rfl,q⟩:=q;exact f.cK e q
theorem bx.undef(f:bx M B h S fr aj){t:T}(e:undef t fr=true):Ev.undef t aj=true:=by
 unfold Pv.undef at e;unfold Ev.undef;rw[Yt]at e ⊢;intro i a;have:=e i a;cases z:fr[i]? with
 |none=>
  have:aj[i]?=none:=by
   rw[ZR]at z ⊢;rw[<-f.len];exact z
  rw[this];rfl
 |some o=>
  obtain⟨p,b,q⟩:=f.get z;rw[z]at this;rcases o with _|s
  .simp only[kF]at q;subst q;rw[b];rfl
  .simp at this
def yd{i:Nat}{o:Option Sl}(e:(sP fr)[i]?=some o):∃o0,fr[i]?=some o0/\o=o0.map Sl.read:=by
 unfold sP at e;rw[XO]at e;cases z:fr[i]? with
 |none=>rw[z]at e;cases e
 |some o0=>rw[z]at e;cases e;exact⟨o0,rfl,rfl⟩
theorem bx.ro(f:bx M B h S fr aj):bx (λ_=>False) B h S (sP fr) aj:=by
 refine⟨λm y=>⟨(f.wS m y).1,id,(f.wS m y).2.2⟩,λm y=>y.elim,f.wB,by simp[sP,f.len],λi o p g k=>?_,λi j o x m g k r A C F=>?_⟩
 .obtain⟨e,z,rfl⟩:=yd g;have q:=f.sl i e p z k;rcases e with _|s
  .exact q
  .cases s with
   |val v=>exact q
   |own l=>obtain⟨m,ds,a,b,c,d⟩:=q;exact⟨m,ds,a,id,c,d⟩
   |bor l=>obtain⟨m,ds,a,b,c,d⟩:=q;exact⟨m,ds,a,id,c,d⟩
   |ro l=>obtain⟨m,ds,a,b,c,d⟩:=q;exact⟨m,ds,a,id,c,d⟩
 .obtain⟨e,z,rfl⟩:=yd g;rcases e with _|s
  .cases r
  .cases s<;>cases r
theorem jP:∀{ck:List (Nat×List D)},(∀q∈ck,br h q.1=some q.2)->Ev.stays h ck=true
 |[],_=>rfl
 | (n,ds) :: r,q=>by
  simp only[Ev.stays,OS];refine⟨?_,jP λx a=>q x (Xy _ a)⟩;rw[q (n,ds) (X5 ..)];exact Ev.zh _
def lD{n:Nat}{ds:List D}(q:br h n=some ds)(k:h'[n]?=h[n]?):br h' n=some ds:=by
 unfold br at q ⊢;rw[k];exact q
def qb{n:Nat}{ds:List D}(q:br h n=some ds):n<h.length:=by
 unfold br at q;cases z:h[n]? with
 |none=>rw[z]at q;cases q
 |some o=>exact(List.getElem?_eq_some_iff.mp z).1
def DM(h:Hh)(S:Nat->Prop):Option V->Option D->Prop
 |none,o=>o=none
 |some v,o=>∃d,o=some d/\Rep h S v d
theorem ye{f:V->Option (Option V)}{f':D->Hh->Ev.R (Option D)}{ck:List (Nat×List D)}{h0:Hh}{S0:Nat->Prop}(w0:∀m,S0 m->m<h0.length)(st:∀q∈ck,br h0 q.1=some q.2)
  (turn:∀v o d h S,Al h0 S0 h S->f v=some o->Rep h S v d->∃o' h' S',f' d h=.ok o' h'/\DM h' S' o o'/\Al h S h' S') :
  ∀{vs:List V} {ds:List D} {rs:List V} {h:Hh} {S:Nat->Prop},Al h0 S0 h S->b8 f vs=some rs->aq h S vs ds->∃rs' h' S',Ev.b8 f' ck ds h=.ok rs' h'/\aq h' S' rs rs'/\Al h S h' S'
 |[],ds,rs,h,S,a,e,q=>by
  simp[b8]at e;simp only[aq]at q;subst e q;refine⟨[],h,S,?_,.nil,.refl⟩;simp only[Ev.b8];rw[IC (jP λx i=>lD (st x i) (a.keep _ (qb (st x i))))]
 |v :: vs,ds,rs,h,S,a,e,q=>by
  simp only[b8,Qj]at e;obtain⟨o,l,r,p,y⟩:=e;cases y;simp only[aq]at q;obtain⟨d,I,rfl,A,C⟩:=q;have w:∀m,S m->m<h.length:=λm z=>by
   rcases a.new m z with z|z
   .exact Q5 (w0 m z) a.len
   .exact z.2
  obtain⟨o',h1,S1,F,b,g⟩:=turn v o d h S a l A;obtain⟨rs',h2,S2,G,k,j⟩:=ye w0 st turn (a.trans g) p (C.mono (λm z=>g.keep m (w m z)) g.sub);have H:∀m,S1 m->m<h1.length:=λm z=>by
   rcases g.new m z with z|z
   .exact Q5 (w m z) g.len
   .exact z.2
  refine⟨o'.toList++rs',h2,S2,?_,?_,g.trans j⟩
  .simp only[Ev.b8];rw[IC (jP λx i=>lD (st x i) (a.keep _ (qb (st x i)))),F,Ev.ak,G,Ev.ak]
  .cases o with
   |none=>simp only[DM]at b;subst b;simpa using k
   |some J=>
    simp only[DM]at b;obtain⟨K,rfl,b⟩:=b;exact .cons (b.mono (λm z=>j.keep m (H m z)) j.sub) k
end
def jx(k:Bool)(h:Hh)(S:Nat->Prop)(v:List V)(d:List D):Prop:=if k=true then eL h S v d else aq h S v d
inductive LJ(P':Ev.aP)(e:E)(k:Bool)(v:V)(M B:Nat->Prop)(h:Hh)(S:Nat->Prop)(fr:Fr)(aj:Ev.Fr)(af:Fr):Prop
 |mk (d:D) (h':Hh) (S':Nat->Prop) (c0:Ev.ev P' e aj h=.ok d h') (c1:fU k h' S' v d) (c2:Out M B (aB e) h S fr aj h' S' af):LJ P' e k v M B h S fr aj af
inductive LK(P':Ev.aP)(e:E)(b:Bool)(M B:Nat->Prop)(h:Hh)(S:Nat->Prop)(fr:Fr)(aj:Ev.Fr)(af:Fr):Prop
 |mk (h':Hh) (S':Nat->Prop) (c0:Ev.aI P' e aj h=.ok b h') (c1:Out M B (aB e) h S fr aj h' S' af):LK P' e b M B h S fr aj af
inductive LL(P':Ev.aP)(e:Es)(k:Bool)(v:List V)(M B:Nat->Prop)(h:Hh)(S:Nat->Prop)(fr:Fr)(aj:Ev.Fr)(af:Fr):Prop
 |mk (d:List D) (h':Hh) (S':Nat->Prop) (c0:Ev.bY P' e aj h=.ok d h') (c1:jx k h' S' v d) (c2:Out M B (cY e) h S fr aj h' S' af):LL P' e k v M B h S fr aj af
inductive LM(P':Ev.aP)(e:Es)(v:List (Nat ⊕ V))(M B:Nat->Prop)(h:Hh)(S:Nat->Prop)(fr:Fr)(aj:Ev.Fr)(af:Fr):Prop
 |mk (d:List D) (h':Hh) (S':Nat->Prop) (c0:Ev.bY P' e aj h=.ok d h') (c1:sQ h' S' aj v d) (c2:Out M B (cY e) h S fr aj h' S' af):LM P' e v M B h S fr aj af
inductive LN(P':Ev.aP)(e:Eo)(v:Option Int)(M B:Nat->Prop)(h:Hh)(S:Nat->Prop)(fr:Fr)(aj:Ev.Fr)(af:Fr):Prop
 |mk (h':Hh) (S':Nat->Prop) (c0:Ev.fO P' e aj h=.ok v h') (c1:Out M B (iD e) h S fr aj h' S' af):LN P' e v M B h S fr aj af
inductive LO(P':Ev.aP)(e:Eo)(v:Bool)(M B:Nat->Prop)(h:Hh)(S:Nat->Prop)(fr:Fr)(aj:Ev.Fr)(af:Fr):Prop
 |mk (h':Hh) (S':Nat->Prop) (c0:Ev.iz P' e aj h=.ok v h') (c1:Out M B (iD e) h S fr aj h' S' af):LO P' e v M B h S fr aj af
inductive LP(P':Ev.aP)(e:It)(k:Bool)(v:List V)(M B:Nat->Prop)(h:Hh)(S:Nat->Prop)(fr:Fr)(aj:Ev.Fr)(af:Fr):Prop
 |mk (s:Ev.Src) (h':Hh) (S':Nat->Prop) (c0:Ev.cI P' e aj h=.ok s h') (c1:aq h' S' v s.1) (c2:∀q∈s.2,br h' q.1=some q.2/\(k=false->¬ M q.1)) (c3:Out M B (vc e) h S fr aj h' S' af):LP P' e k v M B h S fr aj af
section
variable(P:aP)(P':Ev.aP)
def bD(e:E):Prop:=∀{k:Bool} {fr:Fr} {v:V} {af:Fr} {M B:Nat->Prop} {h:Hh} {S:Nat->Prop} {aj:Ev.Fr},ev P k e fr=.ok v af->bx M B h S fr aj->LJ P' e k v M B h S fr aj af
def gE(e:E):Prop:=∀{fr:Fr} {b:Bool} {af:Fr} {M B:Nat->Prop} {h:Hh} {S:Nat->Prop} {aj:Ev.Fr},aI P e fr=.ok b af->bx M B h S fr aj->LK P' e b M B h S fr aj af
def jy(e:Es):Prop:=∀{k:Bool} {fr:Fr} {v:List V} {af:Fr} {M B:Nat->Prop} {h:Hh} {S:Nat->Prop} {aj:Ev.Fr},bY P k e fr=.ok v af->bx M B h S fr aj->LL P' e k v M B h S fr aj af
def qc(e:Es):Prop:=∀{fr:Fr} {v:List (Nat ⊕ V)} {af:Fr} {M B:Nat->Prop} {h:Hh} {S:Nat->Prop} {aj:Ev.Fr},fQ P e fr=.ok v af->bx M B h S fr aj->LM P' e v M B h S fr aj af
def qd(e:Eo):Prop:=∀{fr:Fr} {v:Option Int} {af:Fr} {M B:Nat->Prop} {h:Hh} {S:Nat->Prop} {aj:Ev.Fr},fO P e fr=.ok v af->bx M B h S fr aj->LN P' e v M B h S fr aj af
def tY(e:Eo):Prop:=∀{fr:Fr} {v:Bool} {af:Fr} {M B:Nat->Prop} {h:Hh} {S:Nat->Prop} {aj:Ev.Fr},iz P e fr=.ok v af->bx M B h S fr aj->LO P' e v M B h S fr aj af
def lE(e:It):Prop:=∀{k:Bool} {fr:Fr} {v:List V} {af:Fr} {M B:Nat->Prop} {h:Hh} {S:Nat->Prop} {aj:Ev.Fr},cI P k e fr=.ok v af->bx M B h S fr aj->LP P' e k v M B h S fr aj af
end
section
variable{P:aP}{P':Ev.aP}{a b e tt:E}{es:Es}{lo hi:Eo}{it:It}
def LQ{d:D}:bD P P' (.c d):=λz f=>by
 simp only[ev]at z;replace z:=aE z;obtain⟨z,g⟩:=z;subst g;exact⟨d,_,_,by simp only[Ev.ev],.of (mW z),.refl f⟩
def LR{i:Nat}:bD P P' (.v i):=λz f=>by
 simp only[ev]at z;replace z:=aE z;obtain⟨z,c⟩:=z;subst c;obtain⟨d,g,q⟩:=Hv z f;exact⟨d,_,_,by simp only[Ev.ev,g,Ev.dP],q,.refl f⟩
def jx.n{h:Hh}{S:Nat->Prop}{v:List V}{d:List D}(q:jx false h S v d):aq h S v d:=by simpa[jx]using q
theorem aq.tl{h:Hh}{S:Nat->Prop}:∀{v:List V}{d:List D},aq h S v d->eL h S v d
 |[],_,q=>q
 |_ :: _,_,⟨d,es,a,b,q⟩=>⟨d,es,a,b.top,q.tl⟩
def jx.t{k:Bool}{h:Hh}{S:Nat->Prop}{v:List V}{d:List D}(q:jx k h S v d):eL h S v d:=by
 unfold jx at q;split at q
 .exact q
 .exact q.tl
def BJ(is:jy P P' es):bD P P' (.tup es):=λz f=>by
 simp only[ev]at z;obtain⟨ds,l,g,c⟩:=ah z;replace c:=aE c;obtain⟨c,h⟩:=c;subst h;obtain⟨d,i,S',j,q,o⟩:=is g f;unfold je at c;split at c
 .rename_i k;cases c;refine⟨.tup d,i,S',?_,.of ⟨d,rfl,q.n⟩,o⟩;simp only[Ev.ev,j,Ev.ak];rw[IC (by rw[<-q.n.length];exact k)]
 .cases c
def BK(is:jy P P' es):bD P P' (.lst es):=λz f=>by
 simp only[ev]at z;obtain⟨ds,x,d,c⟩:=ah z;replace c:=aE c;obtain⟨c,g⟩:=c;subst g;obtain⟨h,y,S',i,q,o⟩:=is d f;obtain⟨r,j,S2,k,l,p⟩:=jf o.f.w c q.n;exact⟨r,j,S2,by simp only[Ev.ev,i,Ev.ak,k],.of l,o.al p⟩
def nK{a:E}{aj:Ev.Fr}{h h1:Hh}{d:D}(e:Ev.ev P' a aj h=.ok d h1):∀i,a=.v i->aj[i]?.join=some d:=λi hi=>by
 subst hi;simp only[Ev.ev]at e;exact(Ev.aE e).1
def two(ia:bD P P' a)(ib:bD P P' b){α:Type}{X:V->V->Fr->R α}{u:α}{fr bT:Fr}{M B:Nat->Prop}{h:Hh}{S:Nat->Prop}{aj:Ev.Fr}
  (z:((ev P (kf a (aB b)) a fr).bind λx af=>(ev P true b af).bind λy ao=>X x y ao)=.ok u bT) (f:bx M B h S fr aj) :
  ∃x y d e h2 S2 ao,(∀{β:Type} (g:D->D->Hh->Ev.R β),((Ev.ev P' a aj h).bind λx h1=>(Ev.ev P' b aj h1).bind λy h2=>g x y h2)=g d e h2)/\X x y ao=.ok u bT/\bq h2 S2 x d/\bq h2 S2 y e/\Out M B (aB a++aB b) h S fr aj h2 S2 ao:=by
 replace z:=ah z;obtain⟨x,af,k,z⟩:=z;replace z:=ah z;obtain⟨y,ao,l,z⟩:=z;obtain⟨d,h1,S1,i,o,c⟩:=ia k f;obtain⟨e,h2,S2,p,q,j⟩:=ib l c.f;exact⟨x,y,d,e,h2,S2,ao,λg=>by rw[i,Ev.ak,p,Ev.ak],z,(o.tr c.f j.tr id (nK i)).t,q.t,c.trans j⟩
def BL{o:bO}(ia:bD P P' a)(ib:bD P P' b):bD P P' (.bin o a b):=λz f=>by
 simp only[ev]at z;replace z:=two ia ib z f;obtain⟨x,y,d,e,A,S2,B,k,z,g,h,c⟩:=z;replace z:=aE z;obtain⟨z,i⟩:=z;subst i;obtain⟨r,j,S3,l,p,q⟩:=Lx c.f.w z g h;exact⟨r,j,S3,by simp only[Ev.ev];rw[k];exact l,.of p,c.al q⟩
def BN{o:bz}(ia:bD P P' a)(ib:bD P P' b):bD P P' (.cmp o a b):=λz f=>by
 simp only[ev]at z;replace z:=two ia ib z f;obtain⟨x,y,d,e,c,S2,l,k,z,g,h,i⟩:=z;replace z:=aE z;obtain⟨z,j⟩:=z;subst j;simp only[wj]at z;obtain⟨b,z,rfl⟩:=z;exact⟨.bl b,c,S2,by simp only[Ev.ev];rw[k,vg z g.u h.u];rfl,.of rfl,i⟩
def Ff(ia:bD P P' a)(ib:bD P P' b):bD P P' (.ix a b):=λz f=>by
 simp only[ev]at z;replace z:=two ia ib z f;obtain⟨x,y,d,e,c,S2,p,k,z,g,h,i⟩:=z;replace z:=aE z;obtain⟨z,j⟩:=z;subst j;obtain⟨r,l,o⟩:=Ly z g h;exact⟨r,c,S2,by simp only[Ev.ev];rw[k,l];rfl,.of o,i⟩
def Fi{o p:bz}{c:E}(ia:bD P P' a)(ib:bD P P' b)(ic:bD P P' c):bD P P' (.ch o p a b c):=λz f=>by
 simp only[ev]at z;replace z:=ah z;obtain⟨x,Y,G,z⟩:=z;replace z:=ah z;obtain⟨y,Z,H,z⟩:=z;replace z:=ah z;obtain⟨k,cy,h,z⟩:=z;replace h:=aE h;obtain⟨h,q⟩:=h;subst q;obtain⟨d,h1,S1,r,I,l⟩:=ia G f;obtain⟨e,J,S2,A,B,j⟩:=ib H l.f;have K:=(I.tr l.f j.tr id (nK r)).t;have C:=vg h K.u B.t.u;cases k with
 |false=>
  simp only[Xw,XE]at z;cases z;refine⟨.bl false,J,S2,by simp only[Ev.ev,r,Ev.ak,A,C,Ev.dP];rfl,.of rfl,?_⟩;exact(l.trans j).weak (by simp only[jt];intro i hi;simp at hi ⊢;rcases hi with hi|hi<;>simp[hi])
 |true=>
  simp only[Xq]at z;replace z:=ah z;obtain⟨y2,gZ,L,z⟩:=z;replace z:=aE z;obtain⟨z,q⟩:=z;subst q;obtain⟨g,M,S3,N,Q,F⟩:=ic L j.f;simp only[wj]at z;obtain⟨W,z,rfl⟩:=z;have X:=vg z (B.tr j.f F.tr id (nK A)).t.u Q.t.u;exact⟨.bl W,M,S3,by simp only[Ev.ev,r,Ev.ak,A,C,Ev.dP,Xq,N,X];rfl,.of rfl,l.trans (j.trans F)⟩
def PM(ia:bD P P' a):bD P P' (.nt a):=λz f=>by
 simp only[ev]at z;replace z:=ah z;obtain⟨x,k,c,z⟩:=z;obtain⟨d,g,S1,h,i,j⟩:=ia c f;cases x<;>simp only[reduceCtorEq]at z
 cases z;have q:=i.t;simp only[bq,Rep]at q;subst q;exact⟨_,g,S1,by simp only[Ev.ev,h,Ev.ak],.of rfl,j⟩
def BO(ia:bD P P' a):bD P P' (.neg a):=λz f=>by
 simp only[ev]at z;replace z:=ah z;obtain⟨x,k,c,z⟩:=z;obtain⟨d,g,S1,h,i,j⟩:=ia c f;cases x<;>simp only[reduceCtorEq]at z
 cases z;have q:=i.t;simp only[bq,Rep]at q;subst q;exact⟨_,g,S1,by simp only[Ev.ev,h,Ev.ak],.of rfl,j⟩
def PN(ia:bD P P' a)(ib:bD P P' b):bD P P' (.an a b):=λz f=>by
 simp only[ev]at z;replace z:=ah z;obtain⟨x,A,h,z⟩:=z;obtain⟨d,j,S1,g,l,c⟩:=ia h f;cases x<;>try (cases z;done)
 rename_i k;have q:=l.t;simp only[bq,Rep]at q;subst q;cases k with
 |true=>
  try simp only at z
  obtain⟨d,o,S2,p,r,y⟩:=ib z c.f;exact⟨d,o,S2,by simp only[Ev.ev,g,Ev.ak,p],r,c.trans y⟩
 |false=>
  try simp only at z
  cases z;exact⟨_,j,S1,by simp only[Ev.ev,g,Ev.ak],.of rfl,c.weak (by simp only[jt];intro i hi;simp[hi])⟩
def LS(ia:bD P P' a)(ib:bD P P' b):bD P P' (.orr a b):=λz f=>by
 simp only[ev]at z;replace z:=ah z;obtain⟨x,A,h,z⟩:=z;obtain⟨d,j,S1,g,l,c⟩:=ia h f;cases x<;>try (cases z;done)
 rename_i k;have q:=l.t;simp only[bq,Rep]at q;subst q;cases k with
 |false=>
  try simp only at z
  obtain⟨d,o,S2,p,r,y⟩:=ib z c.f;exact⟨d,o,S2,by simp only[Ev.ev,g,Ev.ak,p],r,c.trans y⟩
 |true=>
  try simp only at z
  cases z;exact⟨_,j,S1,by simp only[Ev.ev,g,Ev.ak],.of rfl,c.weak (by simp only[jt];intro i hi;simp[hi])⟩
def BP(it:gE P P' tt)(ia:bD P P' a)(ib:bD P P' b):bD P P' (.jW tt a b):=λz f=>by
 simp only[ev]at z;replace z:=ah z;obtain⟨k,q,p,z⟩:=z;obtain⟨r,S1,o,c⟩:=it p f;cases k with
 |true=>
  simp only[Xq]at z;obtain⟨d,g,S2,h,j,l⟩:=ia z c.f;exact⟨d,g,S2,by simp only[Ev.ev,o,Ev.ak,Xq,h],j,(c.trans l).weak (by simp only[jt];intro i hi;simp at hi ⊢;rcases hi with hi|hi<;>simp[hi])⟩
 |false=>
  simp only[Xw,XE]at z;obtain⟨d,g,S2,h,j,l⟩:=ib z c.f;exact⟨d,g,S2,by simp only[Ev.ev,o,Ev.ak];rw[T8 (by decide)];exact h,j,(c.trans l).weak (by simp only[jt];intro i hi;simp at hi ⊢;rcases hi with hi|hi<;>simp[hi])⟩
def Fj(ia:bD P P' a)(il:qd P P' lo)(ih:qd P P' hi):bD P P' (.sl a lo hi):=λz f=>by
 simp only[ev]at z;replace z:=ah z;obtain⟨x,I,j,z⟩:=z;replace z:=ah z;obtain⟨l,J,k,z⟩:=z;replace z:=ah z;obtain⟨u,K,o,z⟩:=z;replace z:=aE z;obtain⟨z,p⟩:=z;subst p;obtain⟨d,L,S1,i,y,c⟩:=ia j f;obtain⟨M,S2,A,g⟩:=il k c.f;obtain⟨N,S3,B,h⟩:=ih o g.f;have q:=(y.tr c.f (g.trans h).tr id (nK i)).t;obtain⟨r,C,S4,F,G,H⟩:=Lz h.f.w z q;exact⟨r,C,S4,by simp only[Ev.ev,i,Ev.ak,A,B,F],.of G,(c.trans (g.trans h)).al H⟩
theorem m5:∀{es:Es}{fr af:Fr}{as:List (Nat ⊕ V)},fQ P es fr=.ok as af->∀i∈bR as,i∈jb es
 |.nil,_,_,_,z=>by simp only[fQ]at z;cases z;simp[bR]
 |.cons e es,fr,af,as,z=>by
  simp only[fQ]at z;cases y:kH fr e with
  |some i=>
   rw[y]at z;simp only at z;replace z:=ah z;obtain⟨f,g,d,z⟩:=z;cases z;have h:e=.v i:=by
    cases e<;>simp only[kH,reduceCtorEq]at y
    split at y
    .cases y;rfl
    .cases y
   subst h;intro j c;simp only[bR,Zl]at c;simp only[jb,Zl];exact c.imp id λc=>m5 d j c
  |none=>
   rw[y]at z;simp only at z;replace z:=ah z;obtain⟨x,k,l,z⟩:=z;replace z:=ah z;obtain⟨f,g,d,z⟩:=z;cases z;intro j c;simp only[bR]at c;have:=m5 d j c;cases e<;>simp only[jb]<;>first|exact this|exact Xy _ this
def Fp(HP:pZ P P'){g:Nat}(is:qc P P' es):bD P P' (.cl g es):=λz f=>by
 simp only[ev]at z;replace z:=ah z;obtain⟨r,x,c,z⟩:=z;obtain⟨ds,y,S1,j,k,h⟩:=is c f;obtain⟨d,l,S2,o,p,q⟩:=DL HP z h.f k;exact⟨d,l,S2,by simp only[Ev.ev,j,Ev.ak,o],.of p,(h.trans q).weak (by
  simp only[jt];intro i hi;rcases List.mem_append.mp hi with hi|hi
  .exact List.mem_append.mpr (.inl hi)
  .exact List.mem_append.mpr (.inr (m5 c i hi)))⟩
def Fq{g:BI}(is:jy P P' es):bD P P' (.bi g es):=λz f=>by
 simp only[ev]at z;replace z:=ah z;obtain⟨q,x,d,z⟩:=z;replace z:=aE z;obtain⟨z,h⟩:=z;subst h;obtain⟨ds,y,S1,i,j,c⟩:=is d f;obtain⟨r,k,S4,l,o,p⟩:=LC c.f.w z j.t;exact⟨r,k,S4,by simp only[Ev.ev,i,Ev.ak,l],.of o,c.al p⟩
def BQ{ts:List TY}(ia:bD P P' a):bD P P' (.fz a ts):=λz f=>by
 simp only[ev]at z;replace z:=ah z;obtain⟨x,k,g,z⟩:=z;cases z;obtain⟨d,c,S1,h,i,j⟩:=ia g f;have:Ev.cX c d=cX x:=funext λt=>Hs i.t t;refine⟨.bl (ts.any (Ev.cX c d)),c,S1,by simp only[Ev.ev,h,Ev.ak],.of ?_,j⟩;rw[this];rfl
def yg{kvs:List (D×D)}(ia:bD P P' a):bD P P' (.eB kvs a):=λz f=>by
 simp only[ev]at z;replace z:=ah z;obtain⟨x,p,c,z⟩:=z;replace z:=aE z;obtain⟨z,g⟩:=z;subst g;obtain⟨d,h,S1,i,j,k⟩:=ia c f;obtain⟨r,l,o⟩:=DI (S:=S1) j.t.u z;exact⟨r,h,S1,by simp only[Ev.ev,i,Ev.ak,l,Ev.dP],.of o,k⟩
def BR(ia:bD P P' a):bD P P' (.gX a):=λz f=>by
 simp only[ev]at z;replace z:=ah z;obtain⟨x,p,c,z⟩:=z;replace z:=aE z;obtain⟨z,g⟩:=z;subst g;obtain⟨d,h,S1,i,j,k⟩:=ia c f;obtain⟨r,l,o⟩:=LA z j.t;exact⟨r,h,S1,by simp only[Ev.ev,i,Ev.ak,l],.of o,k⟩
def Ft{m:ME}{o:E}(io:bD P P' o)(is:jy P P' es):bD P P' (.me m o es):=λ{k fr v af M B h S aj} z f=>by
 simp only[ev]at z;by_cases H:iV m=true
 .rw[IC H]at z;cases y:kH fr o with
  |none=>rw[y]at z;cases z
  |some i=>
  rw[y]at z;try simp only at z
  replace z:=ah z;obtain⟨X,Y,Z,z⟩:=z;have hy:o=.v i/\∃s,lent fr i=some s:=by
   cases o<;>simp only[kH,reduceCtorEq]at y
   rename_i j;split at y
   .rename_i hs;cases y;exact⟨rfl,Option.isSome_iff_exists.mp hs⟩
   .cases y
  obtain⟨rfl,s,hs⟩:=hy;obtain⟨n,cs,_,_,_,I,w3,_,_⟩:=jF hs f;obtain⟨ds,J,S1,K,A,c⟩:=is Z f;have W:Ev.xy m (.ref n) h=true:=by cases m<;>simp[iV]at H<;>simp[Ev.xy,gP w3]
  have hap:BG m=false->aq J S1 X ds:=λhh=>by rw[hh]at A;exact A.n
  have fin:∀s l l',Y[i]?=some (some s)->g6 (some s)=true->(∀ds,oO s ds=.lst ds)->(∃C g,aj[i]?=some (some (.ref C))/\J[C]?=some (.lst g)/\aq J S1 l g)->jZ m l X=some (v,l')->af=Y.set i (some (s.with l'))->
    LJ P' (.me m (.v i) es) k v M B h S fr aj af:=by
   intro s l l' q G k0 ⟨C,g,k3,L,N⟩ Q k7;rw[I]at k3;cases k3;have mn:=c.f.mM q G I;obtain⟨r,ds',a1,a2,a3⟩:=LI Q L N A.t hap λk z y=>(c.f.wS k z).2.1 (y▸mn);have fw:=c.f.write (l':=l') q G I a3;subst k7;refine⟨r,_,S1,?_,.of (a2.mono (λm z=>kJ λy=>(c.f.wS m z).2.1 (y▸mn)) λ_ z=>z),fw,?_,λj=>?_⟩
   .simp only[Ev.ev,I,Option.join,Ev.dP,Ev.ak,W,Xq,K];simp only[Option.bind,id,Ev.dP,Ev.ak,W,Xq,K];rw[k0];exact a1
   .refine⟨by simpa using c.tr.len,λm y1 y2=>?_,c.tr.sub,λm y=>by simpa using c.tr.new m y
     ⟩
    have y3:¬ Xs M aj (cY es) m:=λz=>y2 (Xs.mono (by simp only[jt];intro i hi;simp[hi]) z);have y4:m≠n:=λz=>y2 ⟨z▸mn,i,by simp[jt,Fe,H],by rw[z];exact I⟩;rw[kJ (λ(z:n=m)=>y4 z.symm)];exact c.tr.keep m y1 y3
   .rw[<-c.lk j];unfold locked;by_cases hj:i=j
    .subst hj;rw[Xn (List.getElem?_eq_some_iff.mp q).1,q];exact yc
    .rw[Tz hj]
  split at z
  .rename_i l q;have F:=c.f.get q;obtain⟨p,G,C,g,rfl,_,L,N⟩:=F;split at z
   .rename_i v' l' Q;cases z;exact fin _ l l' q rfl (λ_=>rfl) ⟨C,g,G,L,N⟩ Q rfl
   .cases z
  .rename_i l q;have F:=c.f.get q;obtain⟨p,G,C,g,rfl,_,L,N⟩:=F;split at z
   .rename_i v' l' Q;cases z;exact fin _ l l' q rfl (λ_=>rfl) ⟨C,g,G,L,N⟩ Q rfl
   .cases z
  .cases z
 .rw[T8 H]at z;replace z:=ah z;obtain⟨x,Y,Z,z⟩:=z;replace z:=ah z;obtain⟨X,cy,z2,z⟩:=z;replace z:=aE z;obtain⟨z,y0⟩:=z;subst y0;obtain⟨d,J,S1,K,A,c⟩:=io Z f;obtain⟨ds,h2,S2,e2,q2,o2⟩:=is z2 c.f;have hm':iV m=false:=by simpa using H
  have yf:=(A.tr c.f o2.tr id (nK K)).t;obtain⟨a1,r,a2,a3⟩:=LF z hm' yf q2.t;have W:Ev.xy m d J=true:=by
   unfold dw at z;split at z
   .have:=A.t;simp only[bq,Rep]at this;subst this;rfl
   .have:=A.t;simp only[bq,Rep]at this;subst this;rfl
   .cases z
  exact⟨r,h2,S2,by simp only[Ev.ev,K,Ev.ak,W,Xq,e2,a2],.of a3,(c.trans o2).weak (by simp only[jt];intro i hi;simp at hi ⊢;rcases hi with hi|hi<;>simp[hi])⟩
def vn{elt:E}{t:T}{cond:Eo}(ii:lE P P' it)(ic:tY P P' cond)(ie:bD P P' elt):bD P P' (.comp elt t it cond):=λz f=>by
 simp only[ev]at z;replace z:=ah z;obtain⟨vs,A,H,z⟩:=z;split at z
 case isFalse=>cases z
 rename_i I;replace z:=aE z;obtain⟨z,J⟩:=z;subst J;simp only[Qj]at z;obtain⟨rs,K,L⟩:=z;obtain⟨s,h1,S1,M,N,Q,g⟩:=ii H f;have UP:=g.f.ro;obtain⟨W,l,S2,p,X,C⟩:=ye (f':=λd l=>match Ev.cG t d _ with
    |none=>.bad
    |some A=>(Ev.iz P' cond A l).bind λk i=>if k then (Ev.ev P' elt A i).bind λx j=>.ok (some x) j else .ok none i) (ck:=s.2) g.f.w (λq Y=>(Q q Y).1) (λv o d h S al y q=>by
  split at y
  .cases y
  .rename_i cy Z;obtain⟨jQ,b1,F,_,_⟩:=(UP.al al).cG Z q;rw[b1];split at y
   .rename_i c gZ y2;obtain⟨i,S3,p,oc⟩:=ic y2 F;have LU:Al h S i S3:=oc.tr.al λm z=>z.1;split at y
    .rename_i B;subst B;split at y
     .rename_i x ow y3;cases y;obtain⟨G,j,S4,d1,d2,od⟩:=ie y3 (F.al LU);refine⟨some G,j,S4,?_,⟨G,rfl,d2.n⟩,LU.trans (od.tr.al λm z=>z.1)⟩;simp only[p,Ev.ak,Xq,d1]
     .cases y
    .rename_i B;cases y;refine⟨none,i,S3,?_,rfl,LU⟩;simp only[p,Ev.ak];rw[T8 B]
   .cases y) Al.refl K N
 obtain⟨r,j,S4,a1,a2,a3⟩:=jf (g.f.al C).w L X;refine⟨r,j,S4,?_,.of a2,(g.al C).al a3⟩;simp only[Ev.ev,M,Ev.ak];rw[IC (g.f.undef I)];refine Eq.trans (Xp (λq:Ev.R (List D)=>q.bind λds l=>Ev.alloc ds l) p) ?_;simp only[Ev.ak,a1]
def BU(ii:lE P P' it):bD P P' (.eG it):=λz f=>by
 simp only[ev]at z;replace z:=ah z;obtain⟨p,q,d,z⟩:=z;replace z:=aE z;obtain⟨z,g⟩:=z;subst g;obtain⟨s,x,S1,h,i,y,c⟩:=ii d f;obtain⟨r,j,S4,k,l,o⟩:=jf c.f.w z i;exact⟨r,j,S4,by simp only[Ev.ev,h,Ev.ak,k],.of l,c.al o⟩
def LV:jy P P' .nil:=λ{k fr v af M B h S aj} z f=>by
 simp only[bY]at z;cases z;refine⟨[],_,_,by simp only[Ev.bY],?_,.refl f⟩;unfold jx;split<;>rfl
def Hx(ie:bD P P' e)(is:jy P P' es):jy P P' (.cons e es):=λ{k fr v af M B h S aj} z f=>by
 simp only[bY]at z;replace z:=ah z;obtain⟨x,A,o,z⟩:=z;replace z:=ah z;obtain⟨C,F,p,z⟩:=z;cases z;obtain⟨d,G,S1,i,q,g⟩:=ie o f;obtain⟨ds,r,S2,y,c,j⟩:=is p g.f;have l:=q.tr (a:=e) g.f j.tr (by intro z;simp at z;exact z.2) (nK i);refine⟨d :: ds,r,S2,by simp only[Ev.bY,i,Ev.ak,y],?_,g.trans j⟩;unfold jx at c ⊢;cases k with
 |true=>simp only[Xq]at c ⊢;exact⟨d,ds,rfl,l.t,c⟩
 |false=>
  simp only[Xw,XE]at c ⊢;exact .cons (by simpa[fU]using l) c
def Hy:qc P P' .nil:=λz f=>by
 simp only[fQ]at z;cases z;exact⟨[],_,_,by simp only[Ev.bY],rfl,.refl f⟩
def DN(ie:bD P P' e)(is:qc P P' es):qc P P' (.cons e es):=λ{fr v af M B h S aj} z f=>by
 simp only[fQ]at z;cases y:kH fr e with
 |some i=>
  rw[y]at z;try simp only at z
  replace z:=ah z;obtain⟨A,C,g,z⟩:=z;cases z;have F:e=.v i/\∃s,lent fr i=some s:=by
   cases e<;>simp only[kH,reduceCtorEq]at y
   rename_i j;split at y
   .rename_i k;cases y;exact⟨rfl,Option.isSome_iff_exists.mp k⟩
   .cases y
  obtain⟨rfl,s,k⟩:=F;obtain⟨n,J,_,_,_,r,K,_,_⟩:=jF k f;obtain⟨ds,l,S2,o,p,c⟩:=is g f;refine⟨.ref n :: ds,l,S2,?_,⟨_,_,rfl,r,p⟩,c.weak (by simp only[cY,jt];intro i hi;simpa using hi)⟩;simp only[Ev.bY,Ev.ev,r,Option.join,Option.bind,id,Ev.dP,Ev.ak,o]
 |none=>
  rw[y]at z;try simp only at z
  replace z:=ah z;obtain⟨x,L,G,z⟩:=z;replace z:=ah z;obtain⟨A,C,g,z⟩:=z;cases z;obtain⟨d,N,S1,H,I,q⟩:=ie G f;obtain⟨ds,l,S2,o,p,c⟩:=is g q.f;exact⟨d :: ds,l,S2,by simp only[Ev.bY,H,Ev.ak,o],⟨_,_,rfl,I.n.tr q.f c.tr,p⟩,q.trans c⟩
def PR:qd P P' .no:=λz f=>by
 simp only[fO]at z;cases z;exact⟨_,_,by simp only[Ev.fO],.refl f⟩
def LW(ie:bD P P' e):qd P P' (.yes e):=λz f=>by
 simp only[fO]at z;replace z:=ah z;obtain⟨x,l,c,z⟩:=z;replace z:=aE z;obtain⟨z,g⟩:=z;subst g;obtain⟨d,h,S1,i,j,k⟩:=ie c f;cases x<;>simp[intOf]at z
 subst z;have q:=j.t;simp only[bq,Rep]at q;subst q;exact⟨h,S1,by simp only[Ev.fO,i,Ev.ak];rfl,k⟩
def LX:tY P P' .no:=λz f=>by
 simp only[iz]at z;cases z;exact⟨_,_,by simp only[Ev.iz],.refl f⟩
def Hz(ie:gE P P' e):tY P P' (.yes e):=λz f=>by
 simp only[iz]at z;obtain⟨c,S1,d,g⟩:=ie z f;exact⟨c,S1,by simp only[Ev.iz,d],g⟩
def Tc(ia:gE P P' a)(ib:gE P P' b):gE P P' (.an a b):=λz f=>by
 simp only[aI]at z;replace z:=ah z;obtain⟨k,p,g,z⟩:=z;obtain⟨h,S1,d,c⟩:=ia g f;cases k with
 |true=>
  simp only[Xq]at z;obtain⟨j,S2,l,o⟩:=ib z c.f;exact⟨j,S2,by simp only[Ev.aI,d,Ev.ak,Xq,l],c.trans o⟩
 |false=>
  simp only[Xw,XE]at z;cases z;exact⟨h,S1,by simp only[Ev.aI,d,Ev.ak];rfl,c.weak (by simp only[jt];intro i hi;simp[hi])⟩
def PU(ia:gE P P' a)(ib:gE P P' b):gE P P' (.orr a b):=λz f=>by
 simp only[aI]at z;replace z:=ah z;obtain⟨k,p,g,z⟩:=z;obtain⟨h,S1,d,c⟩:=ia g f;cases k with
 |false=>
  simp only[Xw,XE]at z;obtain⟨j,S2,l,o⟩:=ib z c.f;exact⟨j,S2,by simp only[Ev.aI,d,Ev.ak];rw[T8 (by decide)];exact l,c.trans o⟩
 |true=>
  simp only[Xq]at z;cases z;exact⟨h,S1,by simp only[Ev.aI,d,Ev.ak];rfl,c.weak (by simp only[jt];intro i hi;simp[hi])⟩
def Td(ia:gE P P' a):gE P P' (.nt a):=λz f=>by
 simp only[aI]at z;replace z:=ah z;obtain⟨k,i,c,z⟩:=z;obtain⟨d,S1,g,h⟩:=ia c f;cases z;exact⟨d,S1,by simp only[Ev.aI,g,Ev.ak],h⟩
def dJ(ie:bD P P' e)(h1:∀fr,aI P e fr=(ev P true e fr).bind λx af=>.ok (truthy x) af)(h2:∀fr h,Ev.aI P' e fr h=(Ev.ev P' e fr h).bind λx h1=>Ev.R.of (Ev.truthy h1 x) h1):gE P P' e:=λz f=>by
 rw[h1]at z;replace z:=ah z;obtain⟨x,af,c,z⟩:=z;cases z;obtain⟨d,h1,S1,g,i,j⟩:=ie c f;exact⟨h1,S1,by rw[h2,g,Ev.ak,BH i.t];rfl,j⟩
def LY(ie:bD P P' e){k:Bool}{fr:Fr}{v:V}{af:Fr}{M B:Nat->Prop}{h:Hh}{S:Nat->Prop}{aj:Ev.Fr}(z:src k fr e (ev P k e fr)=.ok v af)(f:bx M B h S fr aj) :
  ∃d h' S',Ev.ev P' e aj h=.ok d h'/\bq h' S' v d/\(k=false->∀n,d=.ref n->¬ M n)/\Out M B (aB e) h S fr aj h' S' af:=by
 have g:ev P k e fr=.ok v af->∃d h' S',Ev.ev P' e aj h=.ok d h'/\bq h' S' v d/\(k=false->∀n,d=.ref n->¬ M n)/\Out M B (aB e) h S fr aj h' S' af:=λz=>by
  obtain⟨d,A,S1,j,x,o⟩:=ie z f;refine⟨d,A,S1,j,x.t,λC n c=>?_,o⟩;subst C;have q:=x.n;cases v<;>simp only[Rep]at q
  .cases q.symm.trans c
  .cases q.symm.trans c
  .cases q.symm.trans c
  .cases q.symm.trans c
  .obtain⟨_,q,_⟩:=q;cases q.symm.trans c
  .obtain⟨m,ds,q,r,_⟩:=q;cases q.symm.trans c;exact(o.f.wS _ r).2.1
  .obtain⟨m,ds,q,r,_⟩:=q;cases q.symm.trans c;exact(o.f.wS _ r).2.1
 cases e
 case v i=>
  simp only[src]at z;replace z:=aE z;obtain⟨z,F⟩:=z;subst F;unfold zJ at z;split at z
  .rename_i l y;cases z;obtain⟨p,j,m,ds,rfl,G,H,I⟩:=f.get y;exact⟨.ref m,h,S,by simp only[Ev.ev,j,Option.join,Option.bind,id,Ev.dP],⟨m,ds,rfl,H,I⟩,λ_ n J=>by cases J;exact G,.refl f⟩
  .exact g (by simp only[ev,z,dP])
 all_goals exact g z
def LZ(ie:bD P P' e):lE P P' (.seq e):=λz f=>by
 simp only[cI]at z;replace z:=ah z;obtain⟨x,B,h,z⟩:=z;replace z:=aE z;obtain⟨z,i⟩:=z;subst i;obtain⟨d,j,S1,k,l,o,p⟩:=LY ie h f;obtain⟨s,r,y,c⟩:=DJ z l;exact⟨s,j,S1,by simp only[Ev.cI,k,Ev.ak,r,Ev.dP],y,λq g=>⟨(c q g).2,λA=>o A _ (c q g).1⟩,p⟩
def HA(is:jy P P' es):lE P P' (.gp es):=λz f=>by
 simp only[cI]at z;replace z:=ah z;obtain⟨x,r,c,z⟩:=z;replace z:=aE z;obtain⟨z,g⟩:=z;subst g;obtain⟨d,h,S1,i,j,k⟩:=is c f;obtain⟨s,l,o⟩:=LG z j.t;exact⟨(s,[]),h,S1,by simp only[Ev.cI,i,Ev.ak,l,Ev.dP],o,λq p=>by simp at p,k⟩
def HB(ie:bD P P' e):lE P P' (.rev e):=λz f=>by
 simp only[cI]at z;replace z:=ah z;obtain⟨x,A,g,z⟩:=z;replace z:=aE z;obtain⟨z,h⟩:=z;subst h;obtain⟨d,i,S1,j,k,o⟩:=ie g f;simp only[wj]at z;obtain⟨l,z,rfl⟩:=z;cases x<;>simp only[zI,reduceCtorEq]at z
 cases z;have c:=k.t;simp only[bq,Rep]at c;obtain⟨ds,p,r⟩:=c;subst p;exact⟨(ds.reverse,[]),i,S1,by simp only[Ev.cI,j,Ev.ak,Ev.Di,Option.map,Ev.dP],r.reverse,λq y=>by simp at y,o⟩
def HC(ia:bD P P' a)(ib:bD P P' b):lE P P' (.iN a b):=λz f=>by
 simp only[cI]at z;replace z:=two ia ib z f;obtain⟨x,y,d,e,j,S2,A,k,z,h,i,l⟩:=z;replace z:=aE z;obtain⟨z,o⟩:=z;subst o;unfold mV at z;split at z
 .rename_i a c;simp only[bq,Rep]at h i;subst h;subst i;split at z
  case isFalse=>cases z
  rename_i p;cases z;exact⟨((Ev.aS c a).map .str,[]),j,S2,by simp only[Ev.cI];rw[k];simp[Ev.uC,p],aq.map (f:=V.str) (g:=D.str) (λs=>by simp[Rep]) _,λq r=>by simp at r,l⟩
 .cases z
end
section
variable{P:aP}{P':Ev.aP}(HP:pZ P P')
include HP
mutual
theorem aZ:∀e:E,bD P P' e
 |.c _=>LQ
 |.v _=>LR
 |.tup d=>BJ (fV d)
 |.lst d=>BK (fV d)
 |.bin _ a b=>BL (aZ a) (aZ b)
 |.cmp _ a b=>BN (aZ a) (aZ b)
 |.ch _ _ a b c=>Fi (aZ a) (aZ b) (aZ c)
 |.nt a=>PM (aZ a)
 |.neg a=>BO (aZ a)
 |.an a b=>PN (aZ a) (aZ b)
 |.orr a b=>LS (aZ a) (aZ b)
 |.jW t a b=>BP (gx t) (aZ a) (aZ b)
 |.ix a b=>Ff (aZ a) (aZ b)
 |.sl a i j=>Fj (aZ a) (qe i) (qe j)
 |.cl _ d=>Fp HP (vp d)
 |.bi _ d=>Fq (fV d)
 |.me _ o d=>Ft (aZ o) (fV d)
 |.fz a _=>BQ (aZ a)
 |.comp g _ h f=>vn (kK h) (BV f) (aZ g)
 |.eG h=>BU (kK h)
 |.eB _ a=>yg (aZ a)
 |.gX a=>BR (aZ a)
theorem gx:∀e:E,gE P P' e
 |.an a b=>Tc (gx a) (gx b)
 |.orr a b=>PU (gx a) (gx b)
 |.nt a=>Td (gx a)
 |.c x=>dJ LQ (λ_=>by simp only[aI]) (λ_ _=>by simp only[Ev.aI])
 |.v x=>dJ LR (λ_=>by simp only[aI]) (λ_ _=>by simp only[Ev.aI])
 |.tup d=>dJ (BJ (fV d)) (λ_=>by simp only[aI]) (λ_ _=>by simp only[Ev.aI])
 |.lst d=>dJ (BK (fV d)) (λ_=>by simp only[aI]) (λ_ _=>by simp only[Ev.aI])
 |.bin _ a b=>dJ (BL (aZ a) (aZ b)) (λ_=>by simp only[aI]) (λ_ _=>by simp only[Ev.aI])
 |.cmp _ a b=>dJ (BN (aZ a) (aZ b)) (λ_=>by simp only[aI]) (λ_ _=>by simp only[Ev.aI])
 |.ch _ _ a b c=>dJ (Fi (aZ a) (aZ b) (aZ c)) (λ_=>by simp only[aI]) (λ_ _=>by simp only[Ev.aI])
 |.neg a=>dJ (BO (aZ a)) (λ_=>by simp only[aI]) (λ_ _=>by simp only[Ev.aI])
 |.jW t a b=>dJ (BP (gx t) (aZ a) (aZ b)) (λ_=>by simp only[aI]) (λ_ _=>by simp only[Ev.aI])
 |.ix a b=>dJ (Ff (aZ a) (aZ b)) (λ_=>by simp only[aI]) (λ_ _=>by simp only[Ev.aI])
 |.sl a i j=>dJ (Fj (aZ a) (qe i) (qe j)) (λ_=>by simp only[aI]) (λ_ _=>by simp only[Ev.aI])
 |.cl _ d=>dJ (Fp HP (vp d)) (λ_=>by simp only[aI]) (λ_ _=>by simp only[Ev.aI])
 |.bi _ d=>dJ (Fq (fV d)) (λ_=>by simp only[aI]) (λ_ _=>by simp only[Ev.aI])
 |.me _ o d=>dJ (Ft (aZ o) (fV d)) (λ_=>by simp only[aI]) (λ_ _=>by simp only[Ev.aI])
 |.fz a _=>dJ (BQ (aZ a)) (λ_=>by simp only[aI]) (λ_ _=>by simp only[Ev.aI])
 |.comp g _ h f=>dJ (vn (kK h) (BV f) (aZ g)) (λ_=>by simp only[aI]) (λ_ _=>by simp only[Ev.aI])
 |.eG h=>dJ (BU (kK h)) (λ_=>by simp only[aI]) (λ_ _=>by simp only[Ev.aI])
 |.eB _ a=>dJ (yg (aZ a)) (λ_=>by simp only[aI]) (λ_ _=>by simp only[Ev.aI])
 |.gX a=>dJ (BR (aZ a)) (λ_=>by simp only[aI]) (λ_ _=>by simp only[Ev.aI])
theorem fV:∀e:Es,jy P P' e
 |.nil=>LV
 |.cons e a=>Hx (aZ e) (fV a)
theorem vp:∀e:Es,qc P P' e
 |.nil=>Hy
 |.cons e a=>DN (aZ e) (vp a)
theorem qe:∀e:Eo,qd P P' e
 |.no=>PR
 |.yes e=>LW (aZ e)
theorem BV:∀e:Eo,tY P P' e
 |.no=>LX
 |.yes e=>Hz (gx e)
theorem kK:∀e:It,lE P P' e
 |.seq e=>LZ (aZ e)
 |.gp c=>HA (fV c)
 |.rev a=>HB (aZ a)
 |.iN a b=>HC (aZ a) (aZ b)
end
end
structure Tr(M B:Nat->Prop)(h:Hh)(S:Nat->Prop)(M':Nat->Prop)(h':Hh)(S':Nat->Prop):Prop where
 len:h.length<=h'.length
 keep:∀m,m<h.length->¬ M m->h'[m]?=h[m]?
 sub:∀m,S m->S' m
 new:∀m,S' m->S m\/(h.length<=m/\m<h'.length)\/(M m/\¬ B m)
 zL:∀m,M' m->M m\/h.length<=m
structure dM(M B:Nat->Prop)(h:Hh)(S:Nat->Prop)(fr:Fr)(aj:Ev.Fr)(M':Nat->Prop)(h':Hh)(S':Nat->Prop)(af:Fr)(bS:Ev.Fr):Prop where
 f:bx M' B h' S' af bS
 tr:Tr M B h S M' h' S'
 lk:∀i,locked af i=locked fr i
 rf:∀i,locked fr i=true->bS[i]?=aj[i]?
def g8(h:Hh)(S:Nat->Prop):Fl->Ev.Fl->Prop
 |.nx,g=>g=.nx
 |.bk,g=>g=.bk
 |.ct,g=>g=.ct
 |.ret v,g=>∃d,g=.ret d/\Rep h S v d
section
variable{M B M' M1 M2:Nat->Prop}{h h1 h2:Hh}{S S' S1 S2:Nat->Prop}{fr af ao:Fr}{aj bS lF:Ev.Fr}{c:List Nat}{v:V}{d:D}
def dM.refl(f:bx M B h S fr aj):dM M B h S fr aj M h S fr aj:=⟨f,⟨VG _,λ_ _ _=>rfl,λ_ q=>q,λ_ q=>.inl q,λ_ q=>.inl q
 ⟩,λ_=>rfl,λ_ _=>rfl⟩
def Out.s(o:Out M B c h S fr aj h1 S1 af):dM M B h S fr aj M h1 S1 af aj:=⟨o.f,⟨o.tr.len,λm a b=>o.tr.keep m a (λz=>b z.1),o.tr.sub,λm q=>(o.tr.new m q).imp id .inl,λ_ q=>.inl q
 ⟩,o.lk,λ_ _=>rfl⟩
theorem dM.trans(f0:bx M B h S fr aj)(a:dM M B h S fr aj M1 h1 S1 af bS)(b:dM M1 B h1 S1 af bS M2 h2 S2 ao lF):dM M B h S fr aj M2 h2 S2 ao lF where
 f:=b.f
 tr:=⟨Xm a.tr.len b.tr.len,λm e g=>by
   rw[b.tr.keep m (Q5 e a.tr.len) (λz=>by
    rcases a.tr.zL m z with z|z
    .exact g z
    .omega),a.tr.keep m e g],λm q=>b.tr.sub m (a.tr.sub m q),λm q=>by
   rcases b.tr.new m q with q|q|q
   .rcases a.tr.new m q with q|q|q
    .exact .inl q
    .exact .inr (.inl ⟨q.1,Q5 q.2 b.tr.len⟩)
    .exact .inr (.inr q)
   .exact .inr (.inl ⟨Xm a.tr.len q.1,q.2⟩)
   .rcases a.tr.zL m q.1 with z|z
    .exact .inr (.inr ⟨z,q.2⟩)
    .exact .inr (.inl ⟨z,Q5 (a.f.wM m q.1) b.tr.len⟩),λm q=>by
   rcases b.tr.zL m q with q|q
   .exact a.tr.zL m q
   .exact .inr (Xm a.tr.len q)
  ⟩
 lk:=λi=>(b.lk i).trans (a.lk i)
 rf:=λi q=>(b.rf i (by rw[a.lk i];exact q)).trans (a.rf i q)
def bx.kind(f:bx M B h S fr aj)(g:Option Sl->Option Sl->Prop)(hl:af.length=fr.length)(hg:∀(i:Nat) o,af[i]?=some o->∃o0,fr[i]?=some o0/\(o=o0\/(∃l,o0=some (.own l)/\o=some (.val (.lst l)))\/(∃l,o0=some (.bor l)/\o=some (.ro l)))) :
  ∃M' S',dM M B h S fr aj M' h S' af aj:=by
 let X:Nat->Prop:=λm=>∃(i:Nat) (l:List V),fr[i]?=some (some (Sl.own l))/\af[i]?=some (some (Sl.val (V.lst l)))/\aj[i]?=some (some (D.ref m))
 let Y:Nat->Prop:=λm=>∃(i:Nat) (l:List V),fr[i]?=some (some (Sl.bor l))/\af[i]?=some (some (Sl.ro l))/\aj[i]?=some (some (D.ref m))
 have I:∀m,X m->M m/\¬ B m:=λm ⟨i,l,a,_,b⟩=>by
  obtain⟨N,ds,e,q,_⟩:=f.sl i _ _ a b;cases e;exact q
 have yM:∀m,Y m->M m/\B m:=λm ⟨i,l,a,_,b⟩=>by
  obtain⟨N,ds,e,q,_⟩:=f.sl i _ _ a b;cases e;exact q
 have mono:∀{l:List V} {ds:List D},aq h S l ds->aq h (λm=>S m\/X m) l ds:=λq=>q.mono (λ_ _=>rfl) λ_ z=>.inl z;refine⟨λm=>M m/\¬ X m/\¬ Y m,λm=>S m\/X m,⟨⟨λm q=>?_,λm q=>f.wM m q.1,f.wB,by rw[hl,f.len],λi o p C F=>?_,λi j o P m Q W Z y4 y5 y6=>?_⟩,⟨VG _,λ_ _ _=>rfl,λ_ q=>.inl q,λm q=>?_,λm q=>.inl q.1
  ⟩,λi=>?_,λ_ _=>rfl⟩⟩
 .rcases q with q|q
  .exact⟨(f.wS m q).1,λz=>(f.wS m q).2.1 z.1,(f.wS m q).2.2⟩
  .exact⟨f.wM m (I m q).1,λz=>z.2.1 q,(I m q).2⟩
 .obtain⟨o0,x,k⟩:=hg i o C;have r:=f.sl i o0 p x F;rcases k with rfl|⟨l,rfl,rfl⟩|⟨l,rfl,rfl⟩
  .rcases o with _|s
   .exact r
   .cases s with
    |val v=>obtain⟨d,e,q⟩:=r;exact⟨d,e,q.mono (λ_ _=>rfl) λ_ z=>.inl z⟩
    |own l=>
     obtain⟨m,ds,rfl,z,y,q⟩:=r;refine⟨m,ds,rfl,⟨⟨z.1,λ⟨j,J,G,A,H⟩=>?_,λ⟨j,J,G,A,H⟩=>?_⟩,z.2⟩,y,mono q⟩
     .have:=f.inj i j _ _ m x G rfl rfl F H;subst this;rw[C]at A;cases A
     .have:=f.inj i j _ _ m x G rfl rfl F H;subst this;rw[C]at A;cases A
    |bor l=>
     obtain⟨m,ds,rfl,z,y,q⟩:=r;refine⟨m,ds,rfl,⟨⟨z.1,λ⟨j,J,G,A,H⟩=>?_,λ⟨j,J,G,A,H⟩=>?_⟩,z.2⟩,y,mono q⟩
     .have:=f.inj i j _ _ m x G rfl rfl F H;subst this;rw[C]at A;cases A
     .have:=f.inj i j _ _ m x G rfl rfl F H;subst this;rw[C]at A;cases A
    |ro l=>obtain⟨m,ds,rfl,z,y,q⟩:=r;exact⟨m,ds,rfl,λw=>z w.1,y,mono q⟩
  .obtain⟨m,ds,rfl,z,y,q⟩:=r;exact⟨.ref m,rfl,m,ds,rfl,.inr ⟨i,l,x,C,F⟩,y,mono q⟩
  .obtain⟨m,ds,rfl,z,y,q⟩:=r;exact⟨m,ds,rfl,λw=>w.2.2 ⟨i,l,x,C,F⟩,y,mono q⟩
 .have L:∀(i:Nat) o,af[i]?=some o->g6 o=true->∃o0,fr[i]?=some o0/\g6 o0=true:=λi o w1 K=>by
   obtain⟨o0,x,k⟩:=hg i o w1;rcases k with rfl|⟨l,rfl,rfl⟩|⟨l,rfl,rfl⟩
   .exact⟨o,x,K⟩
   .cases K
   .cases K
  obtain⟨oi,k1,k2⟩:=L i o Q Z;obtain⟨oj,k3,k4⟩:=L j P W y4;exact f.inj i j oi oj m k1 k3 k2 k4 y5 y6
 .rcases q with q|q
  .exact .inl q
  .exact .inr (.inr (I m q))
 .unfold locked;cases z:af[i]? with
  |none=>
   have:fr[i]?=none:=by rw[ZR]at z ⊢;omega
   rw[this]
  |some o=>
   obtain⟨o0,x,k⟩:=hg i o z;rw[x];rcases k with rfl|⟨l,rfl,rfl⟩|⟨l,rfl,rfl⟩<;>rfl
def bx.eU(f:bx M B h S fr aj):∃M' S',dM M B h S fr aj M' h S' (gj fr) aj:=by
 refine f.kind (λ_ _=>True) (by simp[gj]) λi o e=>?_;unfold gj at e;rw[XO]at e;cases z:fr[i]? with
 |none=>rw[z]at e;cases e
 |some a=>
  rw[z]at e;cases e;refine⟨a,rfl,?_⟩;rcases a with _|s
  .exact .inl rfl
  .cases s with
   |own l=>exact .inr (.inl ⟨l,rfl,rfl⟩)
   |_=>exact .inl rfl
def bx.pre(e:E)(f:bx M B h S fr aj):∃M' S',dM M B h S fr aj M' h S' (rj e fr) aj:=by
 cases e with
 |v j=>
  refine f.kind (λ_ _=>True) (by simp[rj]) λi o e=>?_;simp only[rj]at e;rw[aal]at e;cases z:fr[i]? with
  |none=>rw[z]at e;simp at e
  |some a=>
   rw[z]at e;replace e:(if j=i then Option.map Sl.eU a else a)=o:=M6 e;by_cases b:j=i
   .rw[IC b]at e;subst e;refine⟨a,rfl,?_⟩;rcases a with _|s
    .exact .inl rfl
    .cases s with
     |own l=>exact .inr (.inl ⟨l,rfl,rfl⟩)
     |_=>exact .inl rfl
   .rw[T8 b]at e;subst e;exact⟨a,rfl,.inl rfl⟩
 |_=>exact⟨_,_,.refl f⟩
theorem bx.walk:∀(is:List Nat) {M:Nat->Prop}{S:Nat->Prop}{fr:Fr},bx M B h S fr aj->∃M' S',dM M B h S fr aj M' h S' (tX is fr) aj
 |[],_,_,_,f=>⟨_,_,.refl f⟩
 |i :: is,M,S,fr,f=>by
  have one:∃M1 S1,dM M B h S fr aj M1 h S1 (match fr[i]? with|some (some s)=>fr.set i (some s.walk)|_=>fr) aj:=by
   split
   .rename_i s z;have g:=(List.getElem?_eq_some_iff.mp z).1;refine f.kind (λ_ _=>True) (by simp) λj o e=>?_;by_cases a:i=j
    .subst a;rw[Xn g]at e;cases e;refine⟨_,z,?_⟩;cases s with
     |own l=>exact .inr (.inl ⟨l,rfl,rfl⟩)
     |bor l=>exact .inr (.inr ⟨l,rfl,rfl⟩)
     |_=>exact .inl rfl
    .rw[Tz a]at e;exact⟨o,e,.inl rfl⟩
   .exact⟨M,S,.refl f⟩
  obtain⟨M1,S1,b⟩:=one;obtain⟨M2,S2,k⟩:=bx.walk is b.f;exact⟨M2,S2,b.trans f k⟩
def QU:Sl->List V->Prop
 |.own l,l'=>l=l'
 |_,_=>False
def bx.Te(f:bx M B h S fr aj){i:Nat}{s:Sl}{l:List V}{ds:List D}{rest:List O}(hs:QU s l)(e:put fr i s=some af)(q:aq h S l ds):dM M B h S fr aj (λm=>M m\/m=h.length) (h++oO s ds :: rest) S af (aj.set i (some (.ref h.length))):=by
 have Y:af=fr.set i (some s)/\locked fr i=false:=by
  unfold put at e;unfold locked;split at e
  .cases e
  .cases e
  .rename_i Z k2;cases e;refine⟨rfl,?_⟩;cases z:fr[i]? with
   |none=>rfl
   |some o=>
    rcases o with _|s
    .rfl
    .cases s with
     |bor l=>exact absurd z (Z l)
     |ro l=>exact absurd z (k2 l)
     |_=>rfl
 obtain⟨rfl,P⟩:=Y;have G:∀m,m<h.length->(h++oO s ds :: rest)[m]?=h[m]?:=λm z=>by rw[Vf z]
 have H:∀m,S m->(h++oO s ds :: rest)[m]?=h[m]?:=λm z=>G m (f.w m z);refine⟨⟨λm y=>⟨by have:=(f.wS m y).1;simp;omega,λz=>?_,(f.wS m y).2.2⟩,λm y=>?_,λm y=>by have:=f.wB m y;simp;omega,by simp[f.len],λj o p x C=>?_,λj k o Q m x C W X I J=>?_⟩,⟨by simp,λm y _=>G m y,λ_ z=>z,λ_ z=>.inl z,λm z=>z.imp id (λz=>by omega)
   ⟩,λj=>?_,λj g=>?_⟩
 .rcases z with z|z
  .exact(f.wS m y).2.1 z
  .have:=(f.wS m y).1;omega
 .rcases y with y|y
  .have:=f.wM m y;simp;omega
  .subst y;simp
 .by_cases g:i=j
  .subst g;have F:i<fr.length:=by have:=(List.getElem?_eq_some_iff.mp x).1;simpa using this
   rw[Xn F]at x;rw[Xn (by rw[<-f.len];exact F)]at C;cases x;cases C;cases s<;>first
    |exact hs.elim
    | (simp only[QU]at hs;subst hs;exact⟨h.length,ds,rfl,⟨.inr rfl,λz=>by have:=f.wB _ z;omega⟩,by simp[oO],q.mono H λ_ z=>z⟩)
  .rw[Tz g]at x C;have A:=f.sl j o p x C;rcases o with _|s
   .exact A
   .cases s with
    |val v=>obtain⟨d,e,q⟩:=A;exact⟨d,e,q.mono H λ_ z=>z⟩
    |own l=>obtain⟨m,K,rfl,z,y,q⟩:=A;exact⟨m,K,rfl,⟨.inl z.1,z.2⟩,by rw[G m (f.wM m z.1)];exact y,q.mono H λ_ z=>z⟩
    |bor l=>obtain⟨m,K,rfl,z,y,q⟩:=A;exact⟨m,K,rfl,⟨.inl z.1,z.2⟩,by rw[G m (f.wM m z.1)];exact y,q.mono H λ_ z=>z⟩
    |ro l=>
     obtain⟨m,K,rfl,z,y,q⟩:=A;have hm:=(List.getElem?_eq_some_iff.mp y).1;exact⟨m,K,rfl,λw=>by rcases w with w|w;exact z w;omega,by rw[G m hm];exact y,q.mono H λ_ z=>z⟩
 .have L:∀(j:Nat) o,i≠j->fr[j]?=some o->g6 o=true->aj[j]?=some (some (.ref m))->m<h.length:=λj o _ w1 w2 w3=>f.wM m (f.mM w1 w2 w3);have N:∀(j:Nat),j<fr.length->i=j->(aj.set i (some (.ref h.length)))[j]?=some (some (.ref m))->m=h.length:=λj F g w=>by
   subst g;rw[Xn (by rw[<-f.len];exact F)]at w;cases w;rfl
  have lj:j<fr.length:=by have:=(List.getElem?_eq_some_iff.mp x).1;simpa using this
  have lk:k<fr.length:=by have:=(List.getElem?_eq_some_iff.mp C).1;simpa using this
  by_cases g:i=j
  .by_cases r:i=k
   .rw[<-g,<-r]
   .have a:=N j lj g I;rw[Tz r]at C J;have b:=L k Q r C X J;omega
  .by_cases r:i=k
   .have a:=N k lk r J;rw[Tz g]at x I;have b:=L j o g x W I;omega
   .rw[Tz g]at x I;rw[Tz r]at C J;exact f.inj j k o Q m x C W X I J
 .by_cases g:i=j
  .subst g;rw[P];unfold locked;by_cases F:i<fr.length
   .rw[Xn F];cases s<;>first|rfl|exact hs.elim
   .rw[XX (by simpa using F)]
  .unfold locked;rw[Tz g]
 .have:i≠j:=λz=>by subst z;rw[P]at g;cases g
  rw[Tz this]
theorem bx.own(f:bx M B h S fr aj){i:Nat}{l:List V}{ds:List D}(e:put fr i (.own l)=some af)(q:aq h S l ds):dM M B h S fr aj (λm=>M m\/m=h.length) (h++[.lst ds]) S af (aj.set i (some (.ref h.length))):=f.Te (s:=.own l) (rest:=[]) rfl e q
end
inductive L0(P':Ev.aP)(w:Nat)(s:S)(g:Fl)(M B:Nat->Prop)(h:Hh)(S:Nat->Prop)(fr:Fr)(aj:Ev.Fr)(af:Fr):Prop
 |mk (g':Ev.Fl) (bS:Ev.Fr) (M':Nat->Prop) (h':Hh) (S':Nat->Prop) (c0:Ev.ex P' w s aj h=.ok (g',bS) h') (c1:g8 h' S' g g') (c2:dM M B h S fr aj M' h' S' af bS):L0 P' w s g M B h S fr aj af
inductive L1(P':Ev.aP)(w:Nat)(s:Ss)(g:Fl)(M B:Nat->Prop)(h:Hh)(S:Nat->Prop)(fr:Fr)(aj:Ev.Fr)(af:Fr):Prop
 |mk (g':Ev.Fl) (bS:Ev.Fr) (M':Nat->Prop) (h':Hh) (S':Nat->Prop) (c0:Ev.exs P' w s aj h=.ok (g',bS) h') (c1:g8 h' S' g g') (c2:dM M B h S fr aj M' h' S' af bS):L1 P' w s g M B h S fr aj af
section
variable(P:aP)(P':Ev.aP)(w:Nat)
def rq(s:S):Prop:=∀{fr:Fr} {g:Fl} {af:Fr} {M B:Nat->Prop} {h:Hh} {S:Nat->Prop} {aj:Ev.Fr},ex P w s fr=.ok g af->bx M B h S fr aj->L0 P' w s g M B h S fr aj af
def qf(s:Ss):Prop:=∀{fr:Fr} {g:Fl} {af:Fr} {M B:Nat->Prop} {h:Hh} {S:Nat->Prop} {aj:Ev.Fr},exs P w s fr=.ok g af->bx M B h S fr aj->L1 P' w s g M B h S fr aj af
end
section
variable{P:aP}{P':Ev.aP}{w:Nat}(HP:pZ P P')
include HP
def DO{i:Nat}{e:E}{fr:Fr}{g:Fl}{af:Fr}{M B:Nat->Prop}{h:Hh}{S:Nat->Prop}{aj:Ev.Fr}(z:((ev P false e fr).bind λx af=>if isNew e then (match x with
   |.lst l=>(R.of (put af i (.own l)) af).bind λao _=>.ok .nx ao
   |_=>.bad)
  else (R.of (put af i (.val x)) af).bind λao _=>.ok .nx ao)=.ok g af) (f:bx M B h S fr aj):L0 P' w (.set i e) g M B h S fr aj af:=by
 replace z:=ah z;obtain⟨x,ao,a,z⟩:=z;by_cases q:isNew e=true
 .rw[IC q]at z;have r:∃l ds c S1,x=.lst l/\aq c S1 l ds/\Ev.ev P' e aj h=.ok (.ref c.length) (c++[.lst ds])/\Out M B (aB e) h S fr aj c S1 ao:=by
   cases e <;> (try simp only[isNew,Xw]at q)
   case lst es=>
    simp only[ev]at a;replace a:=ah a;obtain⟨l,y,b,a⟩:=a;replace a:=aE a;obtain⟨a,o⟩:=a;subst o;unfold eH at a;split at a
    case isFalse=>cases a
    rename_i A;cases a;obtain⟨ds,c,S1,p,j,k⟩:=fV HP es b f;refine⟨l,ds,c,S1,rfl,j.n,?_,k⟩;simp only[Ev.ev,p,Ev.ak,Ev.alloc];rw[IC (by rw[<-j.n.length];exact A)]
   case eG it=>
    simp only[ev]at a;replace a:=ah a;obtain⟨l,y,b,a⟩:=a;replace a:=aE a;obtain⟨a,o⟩:=a;subst o;unfold eH at a;split at a
    case isFalse=>cases a
    rename_i A;cases a;obtain⟨s,c,S1,p,j,I,k⟩:=kK HP it b f;refine⟨l,s.1,c,S1,rfl,j,?_,k⟩;simp only[Ev.ev,p,Ev.ak,Ev.alloc];rw[IC (by rw[<-j.length];exact A)]
  obtain⟨l,ds,c,S1,rfl,j,p,k⟩:=r;simp only at z;replace z:=ah z;obtain⟨y,C,b,z⟩:=z;replace b:=aE b;obtain⟨b,o⟩:=b;subst o;cases z;have F:=k.f.own b j;exact⟨.nx,_,_,_,_,by simp only[Ev.jc,p,Ev.ak],rfl,k.s.trans f F⟩
 .rw[T8 q]at z;replace z:=ah z;obtain⟨y,C,b,z⟩:=z;replace b:=aE b;obtain⟨b,o⟩:=b;subst o;cases z;obtain⟨d,c,S1,p,j,k⟩:=aZ HP e a f;obtain⟨f2,G,H⟩:=k.f.set b j.n;refine⟨.nx,_,_,_,_,by simp only[Ev.jc,p,Ev.ak],rfl,k.s.trans f ⟨f2,(dM.refl f2).tr,G,H⟩⟩
def HD{i:Nat}{e:E}:rq P P' w (.set i e):=λ{fr g af M B h S aj} z f=>by
 simp only[ex]at z;obtain⟨M0,S0,a⟩:=f.pre e;obtain⟨b,c,d,j,k,l,p,o⟩:=DO HP z a.f;exact⟨b,c,d,j,k,l,p,a.trans f o⟩
def L3{e:E}:rq P P' w (.exp e):=λ{fr g af M B h S aj} z f=>by
 simp only[ex]at z;replace z:=ah z;obtain⟨x,i,a,z⟩:=z;cases z;obtain⟨d,j,S1,b,k,c⟩:=aZ HP e a f;exact⟨.nx,_,_,_,_,by simp only[Ev.jc,b,Ev.ak],rfl,c.s⟩
def L4{e:E}:rq P P' w (.ret e):=λ{fr g af M B h S aj} z f=>by
 simp only[ex]at z;replace z:=ah z;obtain⟨x,k,b,z⟩:=z;cases z;obtain⟨M1,S1,a⟩:=f.eU;obtain⟨d,l,S2,c,i,j⟩:=aZ HP e b a.f;exact⟨.ret d,_,_,_,_,by simp only[Ev.jc,c,Ev.ak],⟨d,rfl,i.n⟩,a.trans f j.s⟩
omit HP in
theorem rA{F:V->Fr->R Fl}{F':D->Ev.Fr->Hh->Ev.R (Ev.Fl×Ev.Fr)}{ck:List (Nat×List D)}{B:Nat->Prop}{M0:Nat->Prop}{h0:Hh}{S0:Nat->Prop}{er:Fr}{DP:Ev.Fr}(f0:bx M0 B h0 S0 er DP)(st:∀q∈ck,br h0 q.1=some q.2/\¬ M0 q.1)
  (turn:∀v d fr g af M h S aj,F v fr=.ok g af->bx M B h S fr aj->Rep h S v d->∃g' bS M' h' S',F' d aj h=.ok (g',bS) h'/\g8 h' S' g g'/\dM M B h S fr aj M' h' S' af bS) :
  ∀{vs:List V} {ds:List D} {fr:Fr} {g:Fl} {af:Fr} {M:Nat->Prop} {h:Hh} {S:Nat->Prop} {aj:Ev.Fr},forL F vs fr=.ok g af->dM M0 B h0 S0 er DP M h S fr aj->aq h S vs ds->
  ∃g' bS M' h' S',Ev.forL F' ck ds aj h=.ok (g',bS) h'/\g8 h' S' g g'/\dM M0 B h0 S0 er DP M' h' S' af bS
 |[],ds,fr,g,af,M,h,S,aj,e,o,q=>by
  simp only[forL]at e;simp only[aq]at q;subst q;cases e;refine⟨.nx,aj,M,h,S,?_,rfl,o⟩;simp only[Ev.forL];rw[IC (jP λx b=>lD (st x b).1 (o.tr.keep _ (qb (st x b).1) (st x b).2))]
 |v :: vs,ds,fr,g,af,M,h,S,aj,e,o,q=>by
  simp only[forL]at e;replace e:=ah e;obtain⟨p,J,K,e⟩:=e;simp only[aq]at q;obtain⟨d,L,rfl,N,Q⟩:=q;obtain⟨g',H,M2,j,S2,c,a,k⟩:=turn v d fr p J M h S aj K o.f N;have i:=o.trans f0 k;have Fv:Ev.stays h ck=true:=jP λx b=>lD (st x b).1 (o.tr.keep _ (qb (st x b).1) (st x b).2);have QV:aq j S2 vs L:=Q.mono (λm z=>k.tr.keep m (o.f.wS m z).1 (o.f.wS m z).2.1) k.tr.sub;cases p with
  |nx=>
   simp only[g8]at a;subst a;simp only at e;obtain⟨l,r,M3,y,S3,A,C,G⟩:=rA f0 st turn e i QV;refine⟨l,r,M3,y,S3,?_,C,G⟩;simp only[Ev.forL];rw[IC Fv,c,Ev.ak];exact A
  |ct=>
   simp only[g8]at a;subst a;simp only at e;obtain⟨l,r,M3,y,S3,A,C,G⟩:=rA f0 st turn e i QV;refine⟨l,r,M3,y,S3,?_,C,G⟩;simp only[Ev.forL];rw[IC Fv,c,Ev.ak];exact A
  |bk=>
   simp only[g8]at a;subst a;simp only at e;cases e;refine⟨.nx,H,M2,j,S2,?_,rfl,i⟩;simp only[Ev.forL];rw[IC Fv,c,Ev.ak]
  |ret x=>
   simp only[g8]at a;obtain⟨I,rfl,a⟩:=a;simp only at e;cases e;refine⟨.ret I,H,M2,j,S2,?_,⟨I,rfl,a⟩,i⟩;simp only[Ev.forL];rw[IC Fv,c,Ev.ak]
def L5{t:T}{it:It}{b:Ss}(ib:qf P P' w b):rq P P' w (.for t it b):=λ{l g F M B h S o} z f=>by
 simp only[ex]at z;replace z:=ah z;obtain⟨vs,p,G,z⟩:=z;obtain⟨M1,S1,r⟩:=f.walk (itv it);obtain⟨s,x,S2,H,I,A,a⟩:=kK HP it G r.f;have J:=r.trans f a.s;obtain⟨c,e,M',i,S',K,L,N⟩:=rA (F':=λd p x=>match Ev.cG t d p with
   |some j=>Ev.exs P' w b j x
   |none=>.bad) (ck:=s.2) a.f (λq C=>⟨(A q C).1,(A q C).2 rfl⟩) (λv d l g F M h S o y f q=>by
  split at y
  .rename_i j Q;obtain⟨W,X,k,Y,Z⟩:=f.cG Q q;rw[X];obtain⟨c,e,M',i,S',c1,c2,c3⟩:=ib y k;exact⟨c,e,M',i,S',c1,c2,(⟨k,(dM.refl k).tr,Y,Z⟩:dM M _ h S l o M h S j W).trans f c3⟩
  .cases y) z (dM.refl a.f) I
 refine⟨c,e,M',i,S',?_,L,J.trans f N⟩;simp only[Ev.jc,H,Ev.ak];exact K
theorem vq{t:E}{b:Ss}(ib:qf P P' w b):∀(n:Nat) {fr:Fr}{g:Fl}{af:Fr}{M B:Nat->Prop}{h:Hh}{S:Nat->Prop}{aj:Ev.Fr},dI (λao=>aI P t ao) (λao=>exs P w b ao) n fr=.ok g af->bx M B h S fr aj->
  ∃g' bS M' h' S',Ev.dI (λao h2=>Ev.aI P' t ao h2) (λao h2=>Ev.exs P' w b ao h2) n aj h=.ok (g',bS) h'/\g8 h' S' g g'/\dM M B h S fr aj M' h' S' af bS
 |0,_,_,_,_,_,_,_,_,z,_=>by simp only[dI]at z;cases z
 |n+1,fr,g,af,M,B,h,S,aj,z,f=>by
  simp only[dI]at z;replace z:=ah z;obtain⟨k,ao,F,z⟩:=z;obtain⟨G,S1,c,i⟩:=gx HP t F f;cases k with
  |false=>
   simp only[Xw,XE]at z;cases z;refine⟨.nx,aj,M,G,S1,?_,rfl,i.s⟩;simp only[Ev.dI,c,Ev.ak];rw[T8 (by decide)]
  |true=>
   simp only[Xq]at z;replace z:=ah z;obtain⟨p,I,H,z⟩:=z;obtain⟨g',A,M2,h2,S2,d,a,j⟩:=ib H i.f;have e:=i.s.trans f j;cases p with
   |nx=>
    simp only[g8]at a;subst a;simp only at z;obtain⟨l,DQ,M3,o,S3,q,r,y⟩:=vq ib n z j.f;refine⟨l,DQ,M3,o,S3,?_,r,e.trans f y⟩;simp only[Ev.dI,c,Ev.ak,Xq,d];exact q
   |ct=>
    simp only[g8]at a;subst a;simp only at z;obtain⟨l,DQ,M3,o,S3,q,r,y⟩:=vq ib n z j.f;refine⟨l,DQ,M3,o,S3,?_,r,e.trans f y⟩;simp only[Ev.dI,c,Ev.ak,Xq,d];exact q
   |bk=>
    simp only[g8]at a;subst a;simp only at z;cases z;refine⟨.nx,A,M2,h2,S2,?_,rfl,e⟩;simp only[Ev.dI,c,Ev.ak,Xq,d]
   |ret x=>
    simp only[g8]at a;obtain⟨C,rfl,a⟩:=a;simp only at z;cases z;refine⟨.ret C,A,M2,h2,S2,?_,⟨C,rfl,a⟩,e⟩;simp only[Ev.dI,c,Ev.ak,Xq,d]
def L6{t:E}{a b:Ss}(ia:qf P P' w a)(ib:qf P P' w b):rq P P' w (.iff t a b):=λ{fr g af M B h S aj} z f=>by
 simp only[ex]at z;replace z:=ah z;obtain⟨k,r,q,z⟩:=z;obtain⟨x,S1,p,c⟩:=gx HP t q f;cases k with
 |true=>
  simp only[Xq]at z;obtain⟨d,e,M',i,S',j,l,o⟩:=ia z c.f;exact⟨d,e,M',i,S',by simp only[Ev.jc,p,Ev.ak,Xq,j],l,c.s.trans f o⟩
 |false=>
  simp only[Xw,XE]at z;obtain⟨d,e,M',i,S',j,l,o⟩:=ib z c.f;exact⟨d,e,M',i,S',by simp only[Ev.jc,p,Ev.ak];rw[T8 (by decide)];exact j,l,c.s.trans f o⟩
mutual
theorem PV:∀s:S,rq P P' w s
 |.set _ _=>HD HP
 |.exp _=>L3 HP
 |.ret _=>L4 HP
 |.iff _ a b=>L6 HP (kM a) (kM b)
 |.for _ _ b=>L5 HP (kM b)
 |.oB _ b=>λz f=>by
  simp only[ex]at z;obtain⟨c,d,M',e,S',g,h,i⟩:=vq HP (kM b) w z f;exact⟨c,d,M',e,S',by simp only[Ev.jc];exact g,h,i⟩
 |.dS _=>λz _=>by simp only[ex]at z;cases z
theorem kM:∀s:Ss,qf P P' w s
 |.nil=>λz f=>by simp only[exs]at z;cases z;exact⟨.nx,_,_,_,_,by simp only[Ev.exs],rfl,.refl f⟩
 |.cons s h=>λz f=>by
  simp only[exs]at z;replace z:=ah z;obtain⟨p,y,i,z⟩:=z;obtain⟨A,d,M2,e,S2,c,a,b⟩:=PV s i f;cases p with
  |nx=>
   simp only[g8]at a;subst a;simp only at z;obtain⟨j,k,M3,l,S3,o,q,r⟩:=kM h z b.f;exact⟨j,k,M3,l,S3,by simp only[Ev.exs,c,Ev.ak,o],q,b.trans f r⟩
  |ct=>
   simp only[g8]at a;subst a;simp only at z;cases z;exact⟨.ct,d,M2,e,S2,by simp only[Ev.exs,c,Ev.ak],rfl,b⟩
  |bk=>
   simp only[g8]at a;subst a;simp only at z;cases z;exact⟨.bk,d,M2,e,S2,by simp only[Ev.exs,c,Ev.ak],rfl,b⟩
  |ret x=>
   simp only[g8]at a;obtain⟨g,rfl,a⟩:=a;simp only at z;cases z;exact⟨.ret g,d,M2,e,S2,by simp only[Ev.exs,c,Ev.ak],⟨g,rfl,a⟩,b⟩
end
end
def yh{s s':Sl}{m:Nat}{es:List D}{h':Hh}(k1:h'[m]?=some (oO s' es)):h'[m]?=some (oO s es):=k1
theorem rB{h:Hh}{S:Nat->Prop}{B:Nat->Prop}{h0:Hh}{S0:Nat->Prop}:∀{sl:List Sl}{ds:List D}{cs:Fr},sl.length=ds.length->
  (∀(a:Nat) s d,sl[a]?=some s->ds[a]?=some d->kF B B h0 S0 (some s) (some d)/\locked cs a=xZ (some s)/\(xZ (some s)=true->∃m es l s',d=.ref m/\h[m]?=some (oO s es)/\aq h S l es/\cs[a]?=some (some s')/\s'.out=some l))->mX h S sl ds ((cs.take sl.length).filterMap λo=>o.bind Sl.out)
 |[],ds,cs,_,_=>by simp[mX]
 |s :: sl,[],cs,hl,_=>by simp at hl
 |s :: sl,d :: ds,[],hl,q=>by
  have g:=rB (h:=h) (S:=S) (sl:=sl) (ds:=ds) (cs:=[]) (by simpa using hl) λa s' j k p=>by
   obtain⟨c,f,b⟩:=q (a+1) s' j (by simpa using k) (by simpa using p);exact⟨c,by simpa[locked]using f,λz=>by obtain⟨_,_,_,_,_,_,_,y,_⟩:=b z;simp at y⟩
  obtain⟨c,f,b⟩:=q 0 s d (by simp) (by simp);cases s with
  |val v=>simp at g ⊢;exact⟨d,ds,rfl,g⟩
  |own l=>exact absurd c (by rintro⟨m,es,e,q,_⟩;exact q.2 q.1)
  |bor l=>obtain⟨_,_,_,_,_,_,_,y,_⟩:=b rfl;simp at y
  |ro l=>obtain⟨_,_,_,_,_,_,_,y,_⟩:=b rfl;simp at y
 |s :: sl,d :: ds,o :: cs,hl,q=>by
  have g:=rB (h:=h) (S:=S) (sl:=sl) (ds:=ds) (cs:=cs) (by simpa using hl) λa s' j k p=>by
   obtain⟨c,f,b⟩:=q (a+1) s' j (by simpa using k) (by simpa using p);exact⟨c,by simpa[locked]using f,λz=>by simpa using b z⟩
  obtain⟨c,f,b⟩:=q 0 s d (by simp) (by simp);cases s with
  |val v=>
   have:o.bind Sl.out=none:=by
    simp[locked]at f;rcases o with _|s
    .rfl
    .cases s<;>first|rfl|cases f
   simp only[Xo,Yd,Yq,this];exact⟨d,ds,rfl,g⟩
  |own l=>exact absurd c (by rintro⟨m,es,e,q,_⟩;exact q.2 q.1)
  |bor l=>
   obtain⟨m,es,r,s',x,A,C,i,F⟩:=b rfl;simp at i;subst i;simp only[Xo,Yd,Yq,Option.bind,F];exact⟨d,ds,r,_,m,es,rfl,rfl,x,A,C,g⟩
  |ro l=>
   obtain⟨m,es,r,s',x,A,C,i,F⟩:=b rfl;simp at i;subst i;simp only[Xo,Yd,Yq,Option.bind,F];exact⟨d,ds,r,_,m,es,rfl,rfl,x,A,C,g⟩
def L7{fn:Fn}{sl:List Sl}{ds:List D}{B:Nat->Prop}{h:Hh}{S:Nat->Prop}(F0:bx B B h S (sl.map some) (ds.map some))(hlen:sl.length=ds.length):bx B B h S (er fn sl) (Ev.er fn ds):=by
 unfold er Ev.er;have d:∀(i:Nat) o,(sl.map some++List.replicate (fn.ns - fn.np) none)[i]?=some o->(sl.map some)[i]?=some o\/(sl.length<=i/\o=none):=λi o y=>by
  by_cases a:i<sl.length
  .rw[Vf (by simpa using a)]at y;exact .inl y
  .rw[Yh (by simpa using a)]at y;have:=Xx y;exact .inr ⟨by omega,(List.mem_replicate.mp this).2⟩
 have e:∀(i:Nat) p,i<sl.length->(ds.map some++List.replicate (fn.ns - fn.np) none)[i]?=some p->(ds.map some)[i]?=some p:=λi p a y=>by
  rw[Vf (by simpa[<-hlen]using a)]at y;exact y
 refine⟨F0.wS,F0.wM,F0.wB,by simp[hlen],λi o p b c=>?_,λi j o f m b c g k q r=>?_⟩
 .rcases d i o b with b|⟨a,rfl⟩
  .have a:i<sl.length:=by have:=(List.getElem?_eq_some_iff.mp b).1;simpa using this
   exact F0.sl i o p b (e i p a c)
  .rw[Yh (by simpa[<-hlen]using a)]at c;have:=Xx c;exact(List.mem_replicate.mp this).2
 .rcases d i o b with b|⟨a,rfl⟩
  .rcases d j f c with c|⟨l,rfl⟩
   .have a:i<sl.length:=by have:=(List.getElem?_eq_some_iff.mp b).1;simpa using this
    have l:j<sl.length:=by have:=(List.getElem?_eq_some_iff.mp c).1;simpa using this
    exact F0.inj i j o f m b c g k (e i _ a q) (e j _ l r)
   .cases k
  .cases g
theorem BW(F:List Fn)(w:Nat):∀n,pZ (run F w n) (Ev.run F w n)
 |0=>λf r v Z e=>by simp[run]at e
 |n+1=>λf r v Z e h S B ds F0=>by
  have HP:=BW F w n;simp only[run]at e;cases z:F[f]? with
  |none=>rw[z]at e;cases e
  |some c=>
  rw[z]at e;simp only at e;split at e
  case isFalse=>cases e
  rename_i hl;have i:r.length=ds.length:=by have:=F0.len;simpa using this
  have f1:bx B B h S (er c r) (Ev.er c ds):=L7 F0 i;have fin:∀{g:Fl} {x:Fr},exs (run F w n) w c.body (er c r)=.ok g x->∃A C M' k S',Ev.exs (Ev.run F w n) w c.body (Ev.er c ds) h=.ok (A,C) k/\g8 k S' g A/\Tk B h S k S'/\mX k S' r ds (outs c.np x):=λ{g x} y=>by
   obtain⟨A,C,M',k,S',G,p,j⟩:=kM HP c.body y f1;refine⟨A,C,M',k,S',G,p,⟨j.tr.len,λm y1 H=>j.tr.keep m y1 H,j.tr.sub,λm q=>?_
    ⟩,?_⟩
   .rcases j.tr.new m q with q|q|q
    .exact .inl q
    .exact .inr q
    .exact absurd q.1 q.2
   .unfold outs;rw[<-hl];refine rB (B:=B) (h0:=h) (S0:=S) i λa s d I K=>?_;have W:a<r.length:=(List.getElem?_eq_some_iff.mp I).1;have h0:(er c r)[a]?=some (some s):=by unfold er;rw[Vf (by simpa using W)];simp[I]
    have b:locked x a=xZ (some s):=by rw[j.lk a];unfold locked;rw[h0]
    refine⟨F0.sl a _ _ (by simp[I]) (by simp[K]),b,λJ=>?_⟩;have X:=j.rf a (by unfold locked;rw[h0];exact J);have hd:(Ev.er c ds)[a]?=some (some d):=by unfold Ev.er;rw[Vf (by simpa[<-i]using W)];simp[K]
    rw[hd]at X;cases H:x[a]? with
    |none=>unfold locked at b;rw[H]at b;rw[<-b]at J;cases J
    |some o=>
     have Y:=j.f.sl a _ _ H X;have s0:=F0.sl a (some s) (some d) (by simp[I]) (by simp[K]);unfold locked at b;rw[H,J]at b;rcases o with _|s'
     .cases b
     .cases s' with
      |val v=>cases b
      |own l=>cases b
      |bor l=>obtain⟨m,L,e,_,M,N⟩:=Y;cases e;exact⟨m,L,l,_,rfl,yh (s':=.bor l)
        M,N,rfl,rfl⟩
      |ro l=>obtain⟨m,L,e,_,M,N⟩:=Y;cases e;exact⟨m,L,l,_,rfl,yh (s':=.ro l)
        M,N,rfl,rfl⟩
  simp only[Ev.pS,z];have P:ds.length=c.np:=by omega
  rw[IC P];split at e
  .rename_i v' x y;cases e;obtain⟨A,C,M',k,S',G,p,j,Q⟩:=fin y;simp only[g8]at p;obtain⟨d,rfl,p⟩:=p;exact⟨d,k,S',by simp only[Ev.endOf,G,Ev.ak],p,j,Q⟩
  .rename_i x y;cases e;obtain⟨A,C,M',k,S',G,p,j,Q⟩:=fin y;simp only[g8]at p;subst p;exact⟨.bG,k,S',by simp only[Ev.endOf,G,Ev.ak],rfl,j,Q⟩
  .cases e
end Pv
namespace Pv
open Ev (D O Hh Fn)
def HE{F:List Fn}{w n f:Nat}{ns:List Int}(e:run F w n f [.val (.bT (ns.map V.int))]=some (.bl true,[]))(hF:F.length<=1000:=by decide):∃h',Ev.run F w n f [.ref 0] [.bT (ns.map D.int)]=.ok (.bl true) h':=by
 have F0:bx (λ_=>False) (λ_=>False) [O.bT (ns.map D.int)] (λm=>m=0) ([Sl.val (.bT (ns.map V.int))].map some) ([D.ref 0].map some):=by
  refine⟨λm q=>⟨by subst q;simp,id,id⟩,λm q=>q.elim,λm q=>q.elim,rfl,λi o p c h=>?_,λi j o l m c h k r x y=>?_⟩
  .cases i with
   |zero=>
    simp at c h;subst c h;refine⟨.ref 0,rfl,?_⟩;simp only[Rep];exact⟨0,_,rfl,rfl,rfl,aq.map (f:=V.int) (g:=D.int) (λ_=>by simp[Rep]) ns⟩
   |succ i=>simp at c
  .cases i with
   |zero=>simp at c;subst c;cases k
   |succ i=>simp at c
 obtain⟨d,h',S',a,b,_,_⟩:=BW F w n f _ _ _ e _ _ _ _ F0;simp only[Rep]at b;subst b;exact⟨h',a⟩
end Pv
namespace Pv
open Ev (D bO bz TY BI ME T E Es Eo It S Ss Fn big deep b2i rep cB dR bL aR cut aY bJ slots)
def bE{n:Nat}(h:n<=100000):n<=big:=Xm h (by decide)
section
variable{i j:Int}{a b:List Nat}{x y:List V}{d e:V}{m n:Nat}{k l:Bool}
def cE(h:x.length<=big):eH x=some (.lst x):=by simp[eH,h]
def jR(h:x.length<=big):je x=some (.tup x):=by simp[je,h]
@[simp] theorem zM:eH []=some (.lst []):=cE (bE (by simp))
@[simp] theorem zN:je []=some (.tup []):=jR (bE (by simp))
@[simp] theorem Fw{a}:eH [a]=some (.lst [a]):=cE (bE (by simp))
@[simp] theorem qh{a}:je [a]=some (.tup [a]):=jR (bE (by simp))
@[simp] theorem PX{a b}:eH [a,b]=some (.lst [a,b]):=cE (bE (by simp))
@[simp] theorem jz{a b}:je [a,b]=some (.tup [a,b]):=jR (bE (by simp))
@[simp] theorem PY{a b c}:je [a,b,c]=some (.tup [a,b,c]):=jR (bE (by simp))
@[simp] theorem fh:bX .add (.int i) (.int j)=some (.int (i+j)):=nd rfl
def fj(h:a.length+b.length<=100000):bX .add (.str a) (.str b)=some (.str (a++b)):=by delta bX;dsimp only;simp[bE h]
def vt(h:x.length+y.length<=100000):bX .add (.tup x) (.tup y)=some (.tup (x++y)):=by delta bX;dsimp only;simp[bE h]
def DR(h:x.length+y.length<=100000):bX .add (.lst x) (.lst y)=some (.lst (x++y)):=by delta bX;dsimp only;simp[cE (bE (show(x++y).length<=100000 by simpa using h))]
@[simp] theorem vv:bX .sub (.int i) (.int j)=some (.int (i - j)):=nd rfl
@[simp] theorem pG:bX .mul (.int i) (.int j)=if cB i j then some (.int (i*j))else none:=nd rfl
def DS(h0:0<=j)(h1:j<=1000)(h2:a.length<=1000):bX .mul (.str a) (.int j)=some (.str (rep j.toNat a)):=by delta bX;dsimp only;simp[h0,h1,h2]
def DT(h0:0<=j)(h1:j<=1000)(h2:x.length<=1000):bX .mul (.tup x) (.int j)=some (.tup (rep j.toNat x)):=by delta bX;dsimp only;simp[h0,h1,h2]
@[simp] theorem DU:bX .fdiv (.int i) (.int j)=if 0<j/\j<1073741824 then some (.int (i / j))else none:=nd rfl
@[simp] theorem HF:bX .mod (.int i) (.int j)=if 0<j then some (.int (i % j))else none:=nd rfl
@[simp] theorem iF:cop .ne d e=(cO deep d e).map (!·):=nd rfl
@[simp] theorem BX:cop .eE d e=(isin d e).map (!·):=nd rfl
@[simp] theorem DV:isin d (.lst x)=mem d x:=nd rfl
@[simp] theorem DW{c:Nat}:isin (.str [c]) (.str b)=some (b.contains c):=nd rfl
@[simp] theorem mem_cons:mem d (e :: x)=(cO deep e d).bind λb=>(mem d x).bind λc=>some (b ||c):=nd rfl
@[simp] theorem L8:cO (n+1) (.int i) (.int j)=some (decide (i=j)):=by show some (i==j)=_;by_cases h:i=j<;>simp[h]
@[simp] theorem qi:cO (n+1) (.str a) (.str b)=some (decide (a=b)):=by show some (a==b)=_;by_cases h:a=b<;>simp[h]
@[simp] theorem UQ:cO (n+1) (.str a) (.int i)=some false:=nd rfl
@[simp] theorem UR:cO (n+1) (.int i) (.str a)=some false:=nd rfl
@[simp] theorem US:cO (n+1) (.tup x) (.tup y)=cC (cO n) x y:=nd rfl
@[simp] theorem yi:cO deep (.int i) (.int j)=some (decide (i=j)):=L8
@[simp] theorem rC:cO deep (.str a) (.str b)=some (decide (a=b)):=qi
@[simp] theorem HG:cO deep (.tup x) (.tup y)=cC (cO (18+1)) x y:=nd rfl
@[simp] theorem nM:cO deep (.lst x) (.lst y)=cC (cO (18+1)) x y:=nd rfl
@[simp] theorem HH{f:V->V->Option Bool}:cC f [] []=some true:=nd rfl
@[simp] theorem UT{f:V->V->Option Bool}:cC f [] (d :: x)=some false:=nd rfl
@[simp] theorem UU{f:V->V->Option Bool}:cC f (d :: x) []=some false:=nd rfl
@[simp] theorem vz{f:V->V->Option Bool}:cC f (d :: x) (e :: y)=(f d e).bind λb=>(cC f x y).bind λc=>some (b&&c):=nd rfl
theorem g9{α:Type}[DecidableEq α]{f:V->V->Option Bool}{g:α->V}(h:∀a b,f (g a) (g b)=some (decide (a=b))):∀l m:List α,cC f (l.map g) (m.map g)=some (decide (l=m))
 |[],[]=>by simp
 |[],_ :: _=>by simp
 |_ :: _,[]=>by simp
 |a :: l,b :: m=>by simp[h,g9 h l m]
@[simp] theorem rD:fN (.str a) (.int i)=(bL a i).map λc=>.str [c]:=nd rfl
@[simp] theorem HJ:fN (.lst x) (.int i)=bL x i:=nd rfl
@[simp] theorem HK{lo hi:Option Int}:fB (.tup x) lo hi=some (.tup (cut x lo hi)):=nd rfl
@[simp] theorem gk{lo hi:Option Int}:fB (.str a) lo hi=some (.str (cut a lo hi)):=nd rfl
def YK(h:a.length<=100000):b7 .len [.str a]=some (.int a.length):=by delta b7;dsimp only;simp[bE h]
@[simp] theorem yj:b7 .len [.tup x]=some (.int x.length):=nd rfl
@[simp] theorem yk:b7 .len [.bT x]=some (.int x.length):=nd rfl
@[simp] theorem yl:b7 .all [.lst x]=(boolsOf x).map λbs=>.bl (bs.all id):=nd rfl
@[simp] theorem HL:b7 .sum [.lst x]=(intsOf x).map λis=>.int is.sum:=nd rfl
@[simp] theorem Ma:b7 .min [.int i,.int j]=some (.int (if j<i then j else i)):=nd rfl
@[simp] theorem Mb:b7 .max [.int i,.int j]=some (.int (if j > i then j else i)):=nd rfl
@[simp] theorem HM:lZ (.lst x)=some x:=nd rfl
@[simp] theorem ym:toT (.lst x)=je x:=nd rfl
def Mc(h0:0<=j)(h1:j<=100000):dH [.int j]=some (range 0 j.toNat):=by
 simp only[dH];rw[IC ⟨by omega,by omega⟩]
def Tf(h0:-100000<=i)(h1:i<=100000)(h2:-100000<=j)(h3:j<=100000):dH [.int i,.int j]=some (range i (j - i).toNat):=by
 simp only[dH];rw[IC ⟨by omega,by omega,by omega,by omega⟩]
def oQ{α:Type}(g:α->Bool)(l:List α):boolsOf (l.map λx=>.bl (g x))=some (l.map g):=by induction l<;>simp[boolsOf, *]
def zO{α:Type}(g:α->Int)(l:List α):intsOf (l.map λx=>.int (g x))=some (l.map g):=by induction l<;>simp[intsOf, *]
def jA{α:Type}(g:α->List Nat)(l:List α):strsOf (l.map λx=>.str (g x))=some (l.map g):=by induction l<;>simp[strsOf, *]
theorem sR:∀l:List (List Nat),aY [] l=l.flatten
 |[]=>rfl
 |[s]=>by simp[aY]
 |s :: t :: r=>by simp[aY,sR (t :: r)]
@[simp] theorem UW:truthy (.bl k)=k:=nd rfl
@[simp] theorem TM:truthy (.lst x) = !x.isEmpty:=nd rfl
def zP{l:List (List Nat)}(h:l.flatten.length<=100000):dw .join (.str []) [.lst (l.map V.str)]=some (.str l.flatten):=by
 have f:=jA (λx=>x) l;have:(l.map (·.length)).sum<=big:=bE (by rw[<-List.length_flatten];exact h);simp only[List.map_id']at f;have c:strsOf (l.map V.str)=some l:=by simpa using jA (λx=>x) l
 delta dw;dsimp only;simp[lZ,c,sR,this]
end
def dj{α:Type}{f:V->Option (Option V)}(e:α->V)(g:α->V)(l:List α)(h:∀a∈l,f (e a)=some (some (g a))):b8 f (l.map e)=some (l.map g):=by
 induction l with
 |nil=>rfl
 |cons a l b=>simp only[M7,b8,h a (by simp),b λu c=>h u (by simp[c]),Option.bind];rfl
def vA{α:Type}{f:V->Option (Option V)}(e:α->V)(p:α->Bool)(g:α->V)(l:List α)(h:∀a∈l,f (e a)=some (if p a then some (g a)else none)):b8 f (l.map e)=some ((l.filter p).map g):=by
 induction l with
 |nil=>rfl
 |cons a l b=>
  simp only[M7,b8,h a (by simp),b λu c=>h u (by simp[c]),Option.bind];cases z:p a<;>simp[z]
def Wp{α:Type}(r:R α)(Q:α->Fr->Prop):Prop:=∃a h,r=.ok a h/\Q a h
section
variable{α β:Type}{Q Q':α->Fr->Prop}
@[simp] theorem qj(a:α)(h:Fr):Wp (.ok a h) Q=Q a h:=propext ⟨λ⟨_,_,e,q⟩=>by cases e;exact q,λq=>⟨_,_,rfl,q⟩⟩
@[simp] theorem UX:Wp (.bad:R α) Q=False:=propext ⟨λq=>(by obtain⟨_,_,e,_⟩:=q;cases e),False.elim⟩
@[simp] theorem wp_bind(r:R β)(f:β->Fr->R α):Wp (r.bind f) Q=Wp r λa h=>Wp (f a h) Q:=by cases r<;>simp
def Wp.mono{r:R α}(h:Wp r Q)(f:∀a h,Q a h->Q' a h):Wp r Q':=by
 obtain⟨a,b,e,q⟩:=h;exact⟨a,b,e,f a b q⟩
end
def fl(I Q:Fr->Prop)(X:V->Fr->Prop):Fl->Fr->Prop
 |.nx,fr=>I fr
 |.ct,fr=>I fr
 |.bk,fr=>Q fr
 |.ret v,fr=>X v fr
section
variable{I J:Fr->Prop}{X:V->Fr->Prop}{fr:Fr}
@[simp] theorem eO:fl I J X .nx fr=I fr:=nd rfl
end
theorem gm{α:Type}{e:α->V}{f:V->Fr->R Fl}{Q:Fl->Fr->Prop}(I:List α->List α->Fr->Prop)(turn:∀p a l fr,I p (a :: l) fr->Wp (f (e a) fr) (fl (I (p++[a]) l) (Q .nx) λv=>Q (.ret v)))(fin:∀p fr,I p [] fr->Q .nx fr):∀(l p:List α) (fr:Fr),I p l fr->Wp (forL f (l.map e) fr) Q
 |[],p,fr,i=>by simp only[Y4,forL,qj];exact fin p fr i
 |a :: l,p,fr,i=>by
  simp only[M7,forL,wp_bind];refine(turn p a l fr i).mono λg b q=>?_;cases g with
  |nx=>exact gm I turn fin l _ b q
  |ct=>exact gm I turn fin l _ b q
  |bk=>exact(qj _ _).mpr q
  |ret x=>exact(qj _ _).mpr q
def yo{f:V->Fr->R Fl}{Q:Fl->Fr->Prop}{lo:Int}{N:Nat}(I:Nat->Fr->Prop)(turn:∀(k:Nat) fr,k<N->I k fr->Wp (f (.int (lo+(k:Nat))) fr) (fl (I (k+1)) (Q .nx) λv=>Q (.ret v)))(fin:∀fr,I N fr->Q .nx fr){fr:Fr}(i:I 0 fr):Wp (forL f (range lo N) fr) Q:=by
 have h:=gm (e:=λ(k:Nat)=>V.int (lo+k)) (f:=f) (Q:=Q) (λp l fr=>∃k,k<=N/\p=List.range k/\p++l=List.range N/\I k fr)
  (λp a l fr ⟨k,j,d,c,q⟩=>by
   subst d;have b:=Xp List.length c;simp at b;have o:a=k:=by
    have:=Xp (·[k]?) c;simp[Yh]at this;rw[Zy (by omega)]at this;simpa using this
   subst o;refine(turn a fr (by omega) q).mono λg r z=>?_;cases g with
   |nx=>exact⟨a+1,by omega,by simp[Y3],by simpa using c,z⟩
   |ct=>exact⟨a+1,by omega,by simp[Y3],by simpa using c,z⟩
   |bk=>exact z
   |ret x=>exact z)
  (λp fr ⟨k,j,d,c,q⟩=>by
   subst d;have b:=Xp List.length c;simp at b;subst b;exact fin fr q) (List.range N) [] fr ⟨0,YE _,rfl,by simp,i⟩
 exact h
theorem vC{t:Fr->R Bool}{f:Fr->R Fl}{Q:Fl->Fr->Prop}(I:Nat->Fr->Prop)(turn:∀k fr,I k fr->Wp (t fr) λb af=>if b then Wp (f af) (fl (λao=>∃j,j<k/\I j ao) (Q .nx) λv=>Q (.ret v))else Q .nx af):∀(n k:Nat) (fr:Fr),k<n->I k fr->Wp (dI t f n fr) Q
 |0,k,fr,hk,_=>by omega
 |n+1,k,fr,hk,i=>by
  simp only[dI,wp_bind];refine(turn k fr i).mono λb af q=>?_;cases b with
  |false=>simpa using q
  |true=>
   simp only[Xq,wp_bind]at q ⊢;refine q.mono λg ao z=>?_;cases g with
   |nx=>obtain⟨j,a,z⟩:=z;exact vC I turn n j ao (by omega) z
   |ct=>obtain⟨j,a,z⟩:=z;exact vC I turn n j ao (by omega) z
   |bk=>exact(qj _ _).mpr z
   |ret x=>exact(qj _ _).mpr z
noncomputable def fin(fn:Fn)(ds:List Sl):R Fl->Option (V×List (List V))
 |.ok (.ret v) fr=>some (v,outs fn.np fr)
 |.ok .nx fr=>some (.bG,outs fn.np fr)
 |_=>Lv fn ds
@[simp] theorem yp{fn:Fn}{ds:List Sl}{v:V}{fr:Fr}:fin fn ds (.ok (.ret v) fr)=some (v,outs fn.np fr):=nd rfl
def run_eq{F:List Fn}{w n f:Nat}{ds:List Sl}{fn:Fn}(hf:F[f]?=some fn)(hl:ds.length=fn.np):run F w (n+1) f ds=fin fn ds (exs (run F w n) w fn.body (er fn ds)):=by
 simp only[pS,hf,hl,Xq];cases exs (run F w n) w fn.body (er fn ds)with
 |bad=>rfl
 |ok g a=>cases g<;>rfl
def bQ{F:List Fn}{w n f:Nat}{ds:List Sl}{fn:Fn}{v:V}{os:List (List V)}(hf:F[f]?=some fn)(hl:ds.length=fn.np)(q:Wp (exs (run F w n) w fn.body (er fn ds)) λg fr=>g=.ret v/\outs fn.np fr=os):run F w (n+1) f ds=some (v,os):=by
 rw[run_eq hf hl];obtain⟨g,fr,e,rfl,rfl⟩:=q;rw[e];rfl
section
variable{P:aP}{w:Nat}{fr:Fr}{k:Bool}{a b c:E}{es:Es}{ss sa sb:Ss}{st:S}{lo hi:Eo}{it:It}
@[simp] theorem Tg{d:D}:ev P k (.c d) fr=R.of (ofD d) fr:=by rw[ev]
@[simp] theorem Me{i:Nat}:ev P k (.v i) fr=R.of (pF k fr i) fr:=by rw[ev]
@[simp] theorem Mf:ev P k (.tup es) fr=(bY P false es fr).bind λds af=>R.of (je ds) af:=by rw[ev]
@[simp] theorem Mg:ev P k (.lst es) fr=(bY P false es fr).bind λds af=>R.of (eH ds) af:=by rw[ev]
@[simp] theorem Mh{o:bO}:ev P k (.bin o a b) fr=(ev P (kf a (aB b)) a fr).bind λx af=>(ev P true b af).bind λy ao=>R.of (bX o x y) ao:=by rw[ev]
@[simp] theorem Mi{o:bz}:ev P k (.cmp o a b) fr=(ev P (kf a (aB b)) a fr).bind λx af=>(ev P true b af).bind λy ao=>R.of ((cop o x y).map .bl) ao:=by rw[ev]
@[simp] theorem PZ{o p:bz}:ev P k (.ch o p a b c) fr=(ev P (kf a (aB b)) a fr).bind λx af=>(ev P (kf b (aB c)) b af).bind λy ao=>(R.of (cop o x y) ao).bind λk cy=>
   if k then (ev P true c cy).bind λz gZ=>R.of ((cop p y z).map .bl) gZ else .ok (.bl false) cy:=by rw[ev]
noncomputable def UY:V->Fr->R V:=λx d=>match x with
 |.bl b=>.ok (.bl (!b)) d
 |_=>.bad
@[simp] theorem P0:ev P k (.nt a) fr=(ev P true a fr).bind UY:=by rw[ev];rfl
noncomputable def Ti:V->Fr->R V:=λx d=>match x with
 |.int i=>.ok (.int (-i)) d
 |_=>.bad
@[simp] theorem Mj:ev P k (.neg a) fr=(ev P true a fr).bind Ti:=by rw[ev];rfl
noncomputable def QW(r:Fr->R V):V->Fr->R V:=λx d=>match x with
 |.bl true=>r d
 |.bl false=>.ok (.bl false) d
 |_=>.bad
@[simp] theorem Mk{k:Bool}{r:Fr->R V}:QW r (.bl k) fr=if k then r fr else .ok (.bl false) fr:=by cases k<;>rfl
@[simp] theorem P1:ev P k (.an a b) fr=(ev P true a fr).bind (QW λh1=>ev P k b h1):=by rw[ev];rfl
@[simp] theorem Ml:ev P k (.jW a b c) fr=(aI P a fr).bind λt af=>if t then ev P k b af else ev P k c af:=by rw[ev]
@[simp] theorem P4:ev P k (.ix a b) fr=(ev P (kf a (aB b)) a fr).bind λx af=>(ev P true b af).bind λy ao=>R.of (fN x y) ao:=by rw[ev]
@[simp] theorem P5:ev P k (.sl a lo hi) fr=(ev P (kf a (iD lo++iD hi)) a fr).bind λx af=>(fO P lo af).bind λl ao=>(fO P hi ao).bind λu cy=>R.of (fB x l u) cy:=by rw[ev]
@[simp] theorem P6{f:Nat}:ev P k (.cl f es) fr=(fQ P es fr).bind λas af=>ff P f as af:=by rw[ev]
@[simp] theorem P7{g:BI}:ev P k (.bi g es) fr=(bY P true es fr).bind λds af=>R.of (b7 g ds) af:=by rw[ev]
noncomputable def DX(m:ME)(i:Nat):List V->Fr->R V:=λds d=>match d[i]? with
 |some (some (.own l))=>match jZ m l ds with
  |some (v,l')=>.ok v (d.set i (some (.own l')))
  |none=>.bad
 |some (some (.bor l))=>match jZ m l ds with
  |some (v,l')=>.ok v (d.set i (some (.bor l')))
  |none=>.bad
 |_=>.bad
def Mm{m:ME}{i:Nat}(hm:iV m=true):ev P k (.me m (.v i) es) fr=if (lent fr i).isSome then (bY P (BG m) es fr).bind (DX m i)else .bad:=by
 rw[ev,IC hm];unfold kH;cases z:(lent fr i).isSome<;>simp[z]<;>rfl
def Mn{m:ME}(hm:iV m=false):ev P k (.me m a es) fr=(ev P (kf a (cY es)) a fr).bind λx af=>(bY P true es af).bind λds ao=>R.of (dw m x ds) ao:=by rw[ev,hm];rfl
@[simp] theorem Mp{ts:List TY}:ev P k (.fz a ts) fr=(ev P true a fr).bind λx af=>.ok (.bl (ts.any (cX x))) af:=by rw[ev]
noncomputable def fq(P:aP)(elt:E)(t:T)(cond:Eo)(fr:Fr):V->Option (Option V):=λd=>match cG t d (sP fr)with
 |none=>none
 |some e=>match iz P cond e with
  |.ok c _=>if c then (match ev P false elt e with|.ok x _=>some (some x)|.bad=>none)else some none
  |.bad=>none
@[simp] theorem qV{elt:E}{t:T}{cond:Eo}:ev P k (.comp elt t it cond) fr=(cI P true it fr).bind λs af=>if undef t af then R.of ((b8 (fq P elt t cond af) s).bind eH) af else .bad:=by rw[ev];rfl
@[simp] theorem Mq:ev P k (.eG it) fr=(cI P true it fr).bind λs af=>R.of (eH s) af:=by rw[ev]
@[simp] theorem HN{kvs:List (D×D)}:ev P k (.eB kvs a) fr=(ev P true a fr).bind λx af=>R.of (eK x kvs) af:=by rw[ev]
@[simp] theorem Mr:ev P k (.gX a) fr=(ev P true a fr).bind λx af=>R.of (toT x) af:=by rw[ev]
@[simp] theorem HQ:bY P k .nil fr=.ok [] fr:=by rw[bY]
@[simp] theorem DY:bY P k (.cons a es) fr=(ev P (k&&kf a (cY es)) a fr).bind λd af=>(bY P k es af).bind λds ao=>.ok (d :: ds) ao:=by rw[bY]
@[simp] theorem HS:fQ P .nil fr=.ok [] fr:=by rw[fQ]
noncomputable def zQ(P:aP)(a:E)(es:Es)(fr:Fr):Option Nat->R (List (Nat ⊕ V))
 |some i=>(fQ P es fr).bind λr e=>.ok (.inl i :: r) e
 |none=>(ev P false a fr).bind λd e=>(fQ P es e).bind λr f=>.ok (.inr d :: r) f
@[simp] theorem zR{i:Nat}:zQ P a es fr (some i)=(fQ P es fr).bind λr af=>.ok (.inl i :: r) af:=nd rfl
@[simp] theorem zS:zQ P a es fr none=(ev P false a fr).bind λd af=>(fQ P es af).bind λr ao=>.ok (.inr d :: r) ao:=nd rfl
@[simp] theorem vD:fQ P (.cons a es) fr=zQ P a es fr (kH fr a):=by rw[fQ];cases kH fr a<;>rfl
@[simp] theorem Ms:fO P .no fr=.ok none fr:=by rw[fO]
@[simp] theorem HU:fO P (.yes a) fr=(ev P true a fr).bind λd af=>R.of ((intOf d).map some) af:=by rw[fO]
@[simp] theorem Mt:iz P .no fr=.ok true fr:=by rw[iz]
@[simp] theorem HV:iz P (.yes a) fr=aI P a fr:=by rw[iz]
@[simp] theorem BY:aI P (.an a b) fr=(aI P a fr).bind λk af=>if k then aI P b af else .ok false af:=by rw[aI]
@[simp] theorem yq:aI P (.orr a b) fr=(aI P a fr).bind λk af=>if k then .ok true af else aI P b af:=by rw[aI]
@[simp] theorem Mu:aI P (.nt a) fr=(aI P a fr).bind λk af=>.ok (!k) af:=by rw[aI]
noncomputable def Mv:V->Fr->R Bool:=λx d=>.ok (truthy x) d
@[simp] theorem HW{x:V}:Mv x fr=.ok (truthy x) fr:=nd rfl
@[simp] theorem HX:cI P k (.seq a) fr=(src k fr a (ev P k a fr)).bind λx af=>R.of (gi x) af:=by rw[cI]
@[simp] theorem HY:cI P k (.gp es) fr=(bY P true es fr).bind λds af=>R.of (dH ds) af:=by rw[cI]
@[simp] theorem HZ:cI P k (.iN a b) fr=(ev P (kf a (aB b)) a fr).bind λx af=>(ev P true b af).bind λy ao=>R.of (mV x y) ao:=by rw[cI]
@[simp] theorem Ia:cI P k (.rev a) fr=(ev P true a fr).bind λx af=>R.of ((zI x).map λs=>s.reverse) af:=by rw[cI]
noncomputable def Mw(i:Nat)(af:Fr):V->R Fl
 |.lst l=>(R.of (put af i (.own l)) af).bind λd _=>.ok .nx d
 |_=>.bad
@[simp] theorem DZ{i:Nat}{l:List V}:Mw i fr (.lst l)=(R.of (put fr i (.own l)) fr).bind λao _=>.ok .nx ao:=nd rfl
@[simp] theorem BZ{i:Nat}:ex P w (.set i a) fr=(ev P false a (rj a fr)).bind λx af=>if isNew a then Mw i af x else (R.of (put af i (.val x)) af).bind λao _=>.ok .nx ao:=by
 rw[ex];rfl
@[simp] theorem Mx:ex P w (.exp a) fr=(ev P true a fr).bind λ_ af=>.ok .nx af:=by rw[ex]
@[simp] theorem My:ex P w (.ret a) fr=(ev P false a (gj fr)).bind λx af=>.ok (.ret x) af:=by rw[ex]
@[simp] theorem Mz:ex P w (.iff a sa sb) fr=(aI P a fr).bind λk af=>if k then exs P w sa af else exs P w sb af:=by rw[ex]
noncomputable def turnF(P:aP)(w:Nat)(t:T)(b:Ss):V->Fr->R Fl:=λd e=>match cG t d e with
 |some f=>exs P w b f
 |none=>.bad
@[simp] theorem pT{t:T}:ex P w (.for t it ss) fr=(cI P false it (tX (itv it) fr)).bind λs af=>forL (turnF P w t ss) s af:=by rw[ex];rfl
@[simp] theorem MA:ex P w (.oB a ss) fr=dI (λao=>aI P a ao) (λao=>exs P w ss ao) w fr:=by rw[ex]
@[simp] theorem Ib:exs P w .nil fr=.ok .nx fr:=by rw[exs]
noncomputable def P8(P:aP)(w:Nat)(ss:Ss):Fl->Fr->R Fl:=λp d=>match p with
 |.nx=>exs P w ss d
 |p=>.ok p d
@[simp] theorem D0:exs P w (.cons st ss) fr=(ex P w st fr).bind (P8 P w ss):=by rw[exs];rfl
end
def m6{P:aP}{f:Nat}{vs:List V}{fr:Fr}{v:V}(h:P f (vs.map .val)=some (v,[])):ff P f (vs.map .inr) fr=.ok v fr:=by
 have a:∀vs:List V,bR (vs.map .inr)=[]:=λvs=>by induction vs<;>simp[bR, *]
 have b:∀vs:List V,args fr (vs.map .inr)=some (vs.map .val):=λvs=>by induction vs<;>simp[args, *]
 simp[ff,a,b,h,back]
section
variable{P:aP}{f:Nat}{fr:Fr}{a b c v:V}
def bU(h:P f [.val a]=some (v,[])):ff P f [.inr a] fr=.ok v fr:=m6 (vs:=[a]) h
def call2(h:P f [.val a,.val b]=some (v,[])):ff P f [.inr a,.inr b] fr=.ok v fr:=m6 (vs:=[a,b]) h
def gF(h:P f [.val a,.val b,.val c]=some (v,[])):ff P f [.inr a,.inr b,.inr c] fr=.ok v fr:=m6 (vs:=[a,b,c]) h
end
section
variable{fr:Fr}{i:Nat}{k:Bool}{s:Sl}{v:V}{l:List V}
noncomputable def VN(k:Bool):Option (Option Sl)->Option V
 |some (some (.val v))=>some v
 |some (some (.own l))=>if k then some (.lst l)else none
 |some (some (.bor l))=>if k then some (.lst l)else none
 |some (some (.ro l))=>if k then some (.lst l)else none
 |_=>none
@[simp] theorem P9{r:R V}:src k fr (.v i) r=R.of (zJ k fr i) fr:=nd rfl
noncomputable def MB:Option (Option Sl)->Option Sl
 |some (some s)=>s.lend
 |_=>none
@[simp] theorem yr:lent fr i=MB fr[i]?:=by unfold lent MB;split<;>simp_all
@[simp] theorem TN:MB (some (some (.own l)))=some (.bor l):=nd rfl
noncomputable def MC(fr:Fr)(i:Nat)(s:Sl):Option (Option Sl)->Option Fr
 |some (some (.bor _))=>none
 |some (some (.ro _))=>none
 |_=>some (fr.set i (some s))
@[simp] theorem MD:put fr i s=MC fr i s fr[i]?:=by unfold put MC;split<;>simp_all
@[simp] theorem zT{l:List Nat}{x:List V}:cG (.many l) (.tup x) fr=cK l x fr:=nd rfl
@[simp] theorem zU:cK [] [] fr=some fr:=nd rfl
@[simp] theorem wN{l:List Nat}{x:List V}:cK (i :: l) (v :: x) fr=(put fr i (.val v)).bind (cK l x):=nd rfl
noncomputable def ig(m:ME)(i:Nat)(ds:List V)(fr:Fr):Option (Option Sl)->R V
 |some (some (.own l))=>match jZ m l ds with
  |some (v,l')=>.ok v (fr.set i (some (.own l')))
  |none=>.bad
 |some (some (.bor l))=>match jZ m l ds with
  |some (v,l')=>.ok v (fr.set i (some (.bor l')))
  |none=>.bad
 |_=>.bad
@[simp] theorem Ic{m:ME}{ds:List V}:DX m i ds fr=ig m i ds fr fr[i]?:=by unfold DX ig;split<;>simp_all<;>rfl
def nN{d:V}(h:l.length<100000):ig .append i [d] fr (some (some (.own l)))=.ok .bG (fr.set i (some (.own (l++[d])))):=by
 simp[ig,jZ,Q5 h (show 100000<=big by decide)]
def Ie{d:V}(h:l.length<100000):ig .append i [d] fr (some (some (.bor l)))=.ok .bG (fr.set i (some (.bor (l++[d])))):=by
 simp[ig,jZ,Q5 h (show 100000<=big by decide)]
def yt{d:List V}(h:l.length+d.length<=100000):ig .extend i [.lst d] fr (some (some (.own l)))=.ok .bG (fr.set i (some (.own (l++d)))):=by
 simp[ig,jZ,bE h]
def rE:ig .pop i [] fr (some (some (.own (l++[v]))))=.ok v (fr.set i (some (.own l))):=by
 simp[ig,jZ]
def Ig:ig .pop i [] fr (some (some (.bor (l++[v]))))=.ok v (fr.set i (some (.bor l))):=by
 simp[ig,jZ]
end
def vo(o:Option Sl):Prop:=o=none\/∃y,o=some (.val y)
theorem vo.none:vo none:=.inl rfl
theorem vo.val{v:V}:vo (some (.val v)):=.inr ⟨v,rfl⟩
def MF{fr:Fr}{i:Nat}{s:Sl}{b:Option Sl}(h:vo b):MC fr i s (some b)=some (fr.set i (some s)):=by rcases h with rfl|⟨y,rfl⟩<;>rfl
def dQ{b:Option Sl}(h:vo b):b.map Sl.eU=b:=by rcases h with rfl|⟨y,rfl⟩<;>rfl
noncomputable def Qa(f:V->Fr->R Fl)(ds:List V):Fl->Fr->R Fl:=λp a=>match p with
 |.nx=>forL f ds a
 |.ct=>forL f ds a
 |.bk=>.ok .nx a
 |.ret x=>.ok (.ret x) a
section
variable{f:V->Fr->R Fl}{ds:List V}{d:V}{fr:Fr}
@[simp] theorem sq:forL f (d :: ds) fr=(f d fr).bind (Qa f ds):=nd rfl
end
section
variable{a b c:E}{es:Es}{lo hi:Eo}{it:It}
@[simp] theorem VE{d:D}:aB (.c d)=[]:=rfl
@[simp] theorem VF{i:Nat}:aB (.v i)=[]:=rfl
@[simp] theorem TQ:aB (.tup es)=cY es:=rfl
@[simp] theorem TR:aB (.lst es)=cY es:=rfl
@[simp] theorem TU{o:bO}:aB (.bin o a b)=aB a++aB b:=rfl
@[simp] theorem TV{o:bz}:aB (.cmp o a b)=aB a++aB b:=rfl
@[simp] theorem UZ{o p:bz}:aB (.ch o p a b c)=aB a++(aB b++aB c):=rfl
@[simp] theorem U0:aB (.nt a)=aB a:=rfl
@[simp] theorem TX:aB (.neg a)=aB a:=rfl
@[simp] theorem U1:aB (.an a b)=aB a++aB b:=rfl
@[simp] theorem TZ:aB (.orr a b)=aB a++aB b:=rfl
@[simp] theorem T3:aB (.jW a b c)=aB a++(aB b++aB c):=rfl
@[simp] theorem U3:aB (.ix a b)=aB a++aB b:=rfl
@[simp] theorem U4:aB (.sl a lo hi)=aB a++(iD lo++iD hi):=rfl
@[simp] theorem U5{f:Nat}:aB (.cl f es)=cY es++jb es:=rfl
@[simp] theorem U6{f:BI}:aB (.bi f es)=cY es:=rfl
@[simp] theorem U7{m:ME}:aB (.me m a es)=aB a++(cY es++Fe m a):=rfl
@[simp] theorem T4{ts:List TY}:aB (.fz a ts)=aB a:=rfl
@[simp] theorem Tj{t:T}:aB (.comp a t it lo)=vc it:=rfl
@[simp] theorem T5:aB (.eG it)=vc it:=rfl
@[simp] theorem T6:aB (.gX a)=aB a:=rfl
@[simp] theorem To{kvs:List (D×D)}:aB (.eB kvs a)=aB a:=rfl
end
def vE{α:Type}{l:List α}{i:Int}(h0:0<=i):bL l i=l[i.toNat]?:=by
 unfold bL dR;rw[IC h0];split
 .rfl
 .rw[XX (by omega)];rfl
@[simp] theorem xu{α:Type}{l:List α}{n:Nat}:bL l (n:Int)=l[n]?:=by rw[vE (by omega)];simp
def MG{α:Type}{l:List α}:bL l (-1:Int)=l.getLast?:=by
 unfold bL dR;cases l with
 |nil=>rfl
 |cons a l=>
  have b:¬ (0:Int)<=-1:=by omega
  have c:-(((a :: l).length:Nat):Int)<=-1:=by simp;omega
  rw[T8 b,IC c,List.getLast?_eq_getElem?];simp only[Option.bind]
  congr 1
  simp;omega
noncomputable def tZ:Fn:=⟨2,2,(.cons (.iff (.cmp .eq (.v 0) (.lst .nil)) (.cons (.ret (.bin .mul (.c (.int 7)) (.v 1))) .nil) .nil) (.cons (.ret (.bin .add (.ix (.v 0) (.bin .mod (.v 1) (.bi .len (.cons (.v 0) .nil)))) (.bin .mul (.c (.int 6553)) (.bin .fdiv (.v 1) (.bi .len (.cons (.v 0) .nil)))))) .nil))⟩
noncomputable def vF(c:Nat):Fn:=⟨3,4,(.cons (.set 3 (.bin .mod (.bin .add (.bin .mul (.bin .mod (.cl c (.cons (.v 0) (.cons (.v 1) .nil))) (.c (.int 2147483563))) (.c (.int 69069))) (.bin .mul (.c (.int 104723)) (.bin .add (.v 1) (.c (.int 1))))) (.c (.int 2147483563)))) (.cons (.set 3 (.bin .mod (.bin .add (.bin .mul (.v 3) (.v 3)) (.bin .fdiv (.v 3) (.c (.int 3)))) (.c (.int 2147483399)))) (.cons (.ret (.bin .mod (.bin .fdiv (.bin .mod (.bin .add (.bin .mul (.v 3) (.v 3)) (.bin .fdiv (.v 3) (.c (.int 7)))) (.c (.int 2147483647))) (.c (.int 11))) (.v 2))) .nil)))⟩
noncomputable def t6(ns:List Int)(k:Int):Int:=if ns=[]then 7*k else (ns[(k % ns.length).toNat]?.getD 0)+6553*(k / ns.length)
noncomputable def b9(ns:List Int)(k many:Int):Int:=
 let c:=(t6 ns k % 2147483563*69069+104723*(k+1)) % 2147483563
 let c:=(c*c+c / 3) % 2147483399
 (c*c+c / 7) % 2147483647 / 11 % many
def fC(ns:List Int)(k:Int){many:Int}(h:0<many):0<=b9 ns k many:=Zt _ (by omega)
def fD(ns:List Int)(k:Int){many:Int}(h:0<many):b9 ns k many<many:=Y6 _ h
noncomputable def gy(ns:List Int):V:=.bT (ns.map V.int)
def Ih(ns:List Int):cC (cO (18+1)) (ns.map V.int) []=some (decide (ns=[])):=by cases ns<;>simp
section
variable{P:aP}{w:Nat}{fr af ao cy:Fr}{k b:Bool}{a e c:E}{es:Es}{ss sa sb:Ss}{st:S}{lo hi:Eo}{it:It}{v x y z:V}{vs:List V}{i:Nat}{l:List V}{Q:Fl->Fr->Prop}
def aQ{d:D}(h:ofD d=some v):ev P k (.c d) fr=.ok v fr:=by rw[Tg,h];rfl
def az(h:pF k fr i=some v):ev P k (.v i) fr=.ok v fr:=by rw[Me,h];rfl
def fu(h:bY P false es fr=.ok vs af)(h2:je vs=some v):ev P k (.tup es) fr=.ok v af:=by rw[Mf,h,ak,h2];rfl
def t7(h:bY P false es fr=.ok vs af)(h2:eH vs=some v):ev P k (.lst es) fr=.ok v af:=by rw[Mg,h,ak,h2];rfl
def bK{o:bO}(h:ev P (kf a (aB e)) a fr=.ok x af)(h2:ev P true e af=.ok y ao)(h3:bX o x y=some v):ev P k (.bin o a e) fr=.ok v ao:=by rw[Mh,h,ak,h2,ak,h3];rfl
def bV{o:bz}(h:ev P (kf a (aB e)) a fr=.ok x af)(h2:ev P true e af=.ok y ao)(h3:cop o x y=some b):ev P k (.cmp o a e) fr=.ok (.bl b) ao:=by rw[Mi,h,ak,h2,ak,h3];rfl
def Tp(h:ev P true a fr=.ok (.bl b) af):ev P k (.nt a) fr=.ok (.bl (!b)) af:=by rw[P0,h];rfl
def Fx{j:Int}(h:ev P true a fr=.ok (.int j) af):ev P k (.neg a) fr=.ok (.int (-j)) af:=by rw[Mj,h];rfl
def Fy(h:ev P true a fr=.ok (.bl true) af)(h2:ev P k e af=.ok v ao):ev P k (.an a e) fr=.ok v ao:=by rw[P1,h,ak,Mk];exact h2
def Fz(h:aI P a fr=.ok b af)(h2:b=true->ev P k e af=.ok v ao)(h3:b=false->ev P k c af=.ok v ao):ev P k (.jW a e c) fr=.ok v ao:=by
 rw[Ml,h,ak];cases b with
 |true=>exact h2 rfl
 |false=>exact h3 rfl
def fK(h:ev P (kf a (aB e)) a fr=.ok x af)(h2:ev P true e af=.ok y ao)(h3:fN x y=some v):ev P k (.ix a e) fr=.ok v ao:=by rw[P4,h,ak,h2,ak,h3];rfl
def iQ{p q:Option Int}(h:ev P (kf a (iD lo++iD hi)) a fr=.ok x af)(h2:fO P lo af=.ok p ao)(h3:fO P hi ao=.ok q cy)(h4:fB x p q=some v):ev P k (.sl a lo hi) fr=.ok v cy:=by rw[P5,h,ak,h2,ak,h3,ak,h4];rfl
def bI{f:Nat}{as:List (Nat ⊕ V)}(h:fQ P es fr=.ok as af)(h2:ff P f as af=.ok v ao):ev P k (.cl f es) fr=.ok v ao:=by rw[P6,h,ak];exact h2
def cZ{g:BI}(h:bY P true es fr=.ok vs af)(h2:b7 g vs=some v):ev P k (.bi g es) fr=.ok v af:=by rw[P7,h,ak,h2];rfl
def zV{m:ME}(hm:iV m=true)(hl:(lent fr i).isSome=true)(h:bY P (BG m) es fr=.ok vs af)(h2:ig m i vs af af[i]?=.ok v ao):ev P k (.me m (.v i) es) fr=.ok v ao:=by
 rw[Mm hm,IC hl,h,ak,Ic];exact h2
def j0{m:ME}(hm:iV m=false)(h:ev P (kf a (cY es)) a fr=.ok x af)(h2:bY P true es af=.ok vs ao)(h3:dw m x vs=some v):ev P k (.me m a es) fr=.ok v ao:=by rw[Mn hm,h,ak,h2,ak,h3];rfl
def qk{ts:List TY}(h:ev P true a fr=.ok x af)(h2:ts.any (cX x)=b):ev P k (.fz a ts) fr=.ok (.bl b) af:=by rw[Mp,h,ak,h2]
def fE{t:T}{cond:Eo}(h:cI P true it fr=.ok vs af)(hu:undef t af=true)(h2:b8 (fq P a t cond af) vs=some l)(h3:eH l=some v):ev P k (.comp a t it cond) fr=.ok v af:=by
 rw[qV,h,ak,IC hu,h2];show R.of (eH l) af=_;rw[h3];rfl
def j3(h:cI P true it fr=.ok vs af)(h2:eH vs=some v):ev P k (.eG it) fr=.ok v af:=by rw[Mq,h,ak,h2];rfl
def fW{kvs:List (D×D)}(h:ev P true a fr=.ok x af)(h2:eK x kvs=some v):ev P k (.eB kvs a) fr=.ok v af:=by rw[HN,h,ak,h2];rfl
def ql(h:ev P true a fr=.ok x af)(h2:toT x=some v):ev P k (.gX a) fr=.ok v af:=by rw[Mr,h,ak,h2];rfl
def aN:bY P k .nil fr=.ok [] fr:=HQ
def ay(h:ev P (k&&kf a (cY es)) a fr=.ok v af)(h2:bY P k es af=.ok vs ao):bY P k (.cons a es) fr=.ok (v :: vs) ao:=by rw[DY,h,ak,h2];rfl
def aU:fQ P .nil fr=.ok [] fr:=HS
def bu{as:List (Nat ⊕ V)}(hi:kH fr a=none)(h:ev P false a fr=.ok v af)(h2:fQ P es af=.ok as ao):fQ P (.cons a es) fr=.ok (.inr v :: as) ao:=by rw[vD,hi,zS,h,ak,h2];rfl
def zW{as:List (Nat ⊕ V)}(hi:kH fr a=some i)(h2:fQ P es fr=.ok as ao):fQ P (.cons a es) fr=.ok (.inl i :: as) ao:=by rw[vD,hi,zR,h2];rfl
def gn:fO P .no fr=.ok none fr:=Ms
def eV{j:Int}(h:ev P true a fr=.ok (.int j) af):fO P (.yes a) fr=.ok (some j) af:=by rw[HU,h];rfl
def vG(h:aI P a fr=.ok false af):aI P (.an a e) fr=.ok false af:=by rw[BY,h];rfl
def jg{b2:Bool}(h:aI P a fr=.ok true af)(h2:aI P e af=.ok b2 ao):aI P (.an a e) fr=.ok b2 ao:=by rw[BY,h];exact h2
def B3(h:aI P a fr=.ok true af):aI P (.orr a e) fr=.ok true af:=by rw[yq,h];rfl
def fX{b2:Bool}(h:aI P a fr=.ok false af)(h2:aI P e af=.ok b2 ao):aI P (.orr a e) fr=.ok b2 ao:=by rw[yq,h];exact h2
def jB(h:aI P a fr=.ok b af):aI P (.nt a) fr=.ok (!b) af:=by rw[Mu,h];rfl
noncomputable def plainT:E->Bool
 |.an _ _=>false
 |.orr _ _=>false
 |.nt _=>false
 |_=>true
def aF(hp:plainT a=true)(h:ev P true a fr=.ok x af)(h2:truthy x=b):aI P a fr=.ok b af:=by
 have:aI P a fr=(ev P true a fr).bind Mv:=by
  cases a<;>first | (cases hp;done) | (rw[aI];rfl;all_goals (intros;contradiction))
 rw[this,h,ak,HW,h2]
def dD(h:src k fr a (ev P k a fr)=.ok x af)(h2:gi x=some vs):cI P k (.seq a) fr=.ok vs af:=by rw[HX,h,ak,h2];rfl
def dz(h:zJ k fr i=some v){r:R V}:src k fr (.v i) r=.ok v fr:=by rw[P9,h];rfl
def qm(h:bY P true es fr=.ok vs af)(h2:dH vs=some l):cI P k (.gp es) fr=.ok l af:=by rw[HY,h,ak,h2];rfl
def m7{y:V}(h:ev P (kf a (aB e)) a fr=.ok x af)(h2:ev P true e af=.ok y ao)(h3:mV x y=some l):cI P k (.iN a e) fr=.ok l ao:=by rw[HZ,h,ak,h2,ak,h3];rfl
def B4(h:ev P true a fr=.ok x af)(h2:zI x=some vs):cI P k (.rev a) fr=.ok vs.reverse af:=by rw[Ia,h,ak,h2];rfl
def yu(h:ev P false a fr=.ok v af):rj a fr=fr:=by
 cases a with
 |v j=>
  simp only[Me]at h;show fr.modify j _=fr;apply ZM;intro i;rw[aal];cases z:fr[i]? with
  |none=>rfl
  |some o=>
   show some (if j=i then Option.map Sl.eU o else o)=some o;by_cases d:j=i
   .subst d;rw[IC rfl];unfold pF at h;rw[z]at h;rcases o with _|s
    .rfl
    .cases s with
     |own l=>cases h
     |_=>rfl
   .rw[T8 d]
 |_=>rfl
def bF(h:ev P false a fr=.ok v af)(hn:isNew a=false)(hp:put af i (.val v)=some ao)(q:Q .nx ao):Wp (ex P w (.set i a) fr) Q:=by
 rw[BZ,yu h,h,ak,hn,hp];exact⟨_,_,rfl,q⟩
def iG(h:ev P false a fr=.ok (.lst l) af)(hn:isNew a=true)(hp:put af i (.own l)=some ao)(q:Q .nx ao):Wp (ex P w (.set i a) fr) Q:=by
 rw[BZ,yu h,h,ak,hn,IC rfl,DZ,hp];exact⟨_,_,rfl,q⟩
def gG(h:ev P true a fr=.ok v af)(q:Q .nx af):Wp (ex P w (.exp a) fr) Q:=by rw[Mx,h];exact⟨_,_,rfl,q⟩
def bB(h:ev P false a (gj fr)=.ok v af)(q:Q (.ret v) af):Wp (ex P w (.ret a) fr) Q:=by rw[My,h];exact⟨_,_,rfl,q⟩
def aG(h:aI P a fr=.ok b af)(h2:b=true->Wp (exs P w sa af) Q)(h3:b=false->Wp (exs P w sb af) Q):Wp (ex P w (.iff a sa sb) fr) Q:=by
 rw[Mz,h,ak];cases b with
 |true=>exact h2 rfl
 |false=>exact h3 rfl
def av(q:Q .nx fr):Wp (exs P w .nil fr) Q:=by rw[Ib];exact⟨_,_,rfl,q⟩
def nx(P:aP)(w:Nat)(ss:Ss)(Q:Fl->Fr->Prop):Fl->Fr->Prop
 |.nx,fr=>Wp (exs P w ss fr) Q
 |g,fr=>Q g fr
def ai(q:Wp (ex P w st fr) (nx P w ss Q)):Wp (exs P w (.cons st ss) fr) Q:=by
 rw[D0,wp_bind];refine q.mono λg af z=>?_;cases g with
 |nx=>exact z
 |bk=>exact⟨_,_,rfl,z⟩
 |ct=>exact⟨_,_,rfl,z⟩
 |ret v=>exact⟨_,_,rfl,z⟩
def j4{t:T}(h:cI P false it (tX (itv it) fr)=.ok vs af)(q:Wp (forL (turnF P w t ss) vs af) Q):Wp (ex P w (.for t it ss) fr) Q:=by rw[pT,h,ak];exact q
def Qc(q:Wp (dI (λao=>aI P a ao) (λao=>exs P w ss ao) w fr) Q):Wp (ex P w (.oB a ss) fr) Q:=by rw[MA];exact q
def dX{t:T}{d:V}(hb:cG t d fr=some af)(q:Wp (exs P w ss af) Q):Wp (turnF P w t ss d fr) Q:=by unfold turnF;rw[hb];exact q
def dY{t:T}{d:V}(hb:cG t d (sP fr)=some af)(h:ev P false a af=.ok v ao):fq P a t .no fr d=some (some v):=by
 unfold fq;rw[hb];dsimp only;rw[Mt];dsimp only;rw[h];rfl
def Ii{t:T}{d:V}(hb:cG t d (sP fr)=some af)(h:aI P c af=.ok b ao)(h2:b=true->ev P false a af=.ok v cy):fq P a t (.yes c) fr d=some (if b then some v else none):=by
 unfold fq;rw[hb];dsimp only;rw[HV,h];dsimp only;cases b with
 |true=>rw[h2 rfl];rfl
 |false=>rfl
def iH{p q:List Nat}:cop .eq (.str p) (.str q)=some (decide (p=q)):=rC
def iI{p q:List Nat}:cop .ne (.str p) (.str q)=some (!decide (p=q)):=by rw[iF,rC];rfl
def MH{p q:Int}:cop .eq (.int p) (.int q)=some (decide (p=q)):=yi
def zX{p q:Int}:cop .ne (.int p) (.int q)=some (!decide (p=q)):=by rw[iF,yi];rfl
def Tt{p q:Int}:cop .lt (.int p) (.int q)=some (decide (p<q)):=rfl
def vH{p q:Int}:cop .le (.int p) (.int q)=some (decide (p<=q)):=rfl
def D3{p q:Int}:cop .gt (.int p) (.int q)=some (decide (q<p)):=rfl
def lG{p q:Int}(h:cB p q=true):bX .mul (.int p) (.int q)=some (.int (p*q)):=by rw[pG,IC h]
def nO{p q:Int}(h:0<q):bX .mod (.int p) (.int q)=some (.int (p % q)):=by rw[HF,IC h]
def t8{p q:Int}(h:0<q)(h2:q<1073741824):bX .fdiv (.int p) (.int q)=some (.int (p / q)):=by rw[DU,IC ⟨h,h2⟩]
end
def jh{fr:Fr}{i:Nat}{s:Sl}{o:Option Sl}(e:fr[i]?=some o)(h:vo o):put fr i s=some (fr.set i (some s)):=by rw[MD,e,MF h]
def nP{fr:Fr}{i j:Nat}{u v:V}{a b:Option Sl}(ea:fr[i]?=some a)(ha:vo a)(eb:(fr.set i (some (.val u)))[j]?=some b)(hb:vo b):cG (.many [i,j]) (.tup [u,v]) fr=some ((fr.set i (some (.val u))).set j (some (.val v))):=by
 simp only[zT,wN,zU,jh ea ha,Option.bind,jh eb hb]
def bind1{fr:Fr}{i:Nat}{v:V}{a:Option Sl}(ea:fr[i]?=some a)(ha:vo a):cG (.one i) v fr=some (fr.set i (some (.val v))):=jh ea ha
end Pv
local macro_rules|`(tactic|array_get_dec)=>`(tactic|first
 |exact Pv.aN|exact Pv.aU|exact Pv.gn
 | (apply Pv.az;rfl) | (apply Pv.aQ;rfl)|apply Pv.bK|apply Pv.bV|apply Pv.fu|apply Pv.t7|apply Pv.fK|apply Pv.iQ|apply Pv.bI|apply Pv.cZ
 |apply Pv.Tp|apply Pv.Fx|apply Pv.ql|apply Pv.j3  | (apply Pv.zV rfl rfl) | (apply Pv.j0 rfl)|apply Pv.fW
 |apply Pv.ay | (apply Pv.bu rfl) | (apply Pv.zW rfl)|apply Pv.eV|apply Pv.jB|apply Pv.aF rfl
 |exact Pv.zN|exact Pv.qh|exact Pv.jz|exact Pv.PY|exact Pv.zM|exact Pv.Fw|exact Pv.PX
 | (with_reducible assumption)|exact Pv.fh|exact Pv.vv|exact Pv.iH|exact Pv.iI|exact Pv.MH|exact Pv.zX|exact Pv.Tt|exact Pv.vH|exact Pv.D3
 | (show Pv.truthy _=_;rfl) | (show Pv.fN _ _=some _;rfl) | (show Pv.toT _=some _;rfl) | (show Pv.eK _ _=some _;rfl) | (show Pv.gi _=some _;rfl)|assumption)
namespace Pv
open Ev (D bO bz TY BI ME T E Es Eo It S Ss Fn big deep b2i rep cB dR bL aR cut aY bJ slots)
def MI(a b:Int):cB (a % 2147483563) b=true:=by have c:=Zt a (b:=2147483563) (by decide);have d:=Y6 a (b:=2147483563) (by decide);simp[cB];omega
def Tu(a b:Int):cB (a % 2147483399) b=true:=by have c:=Zt a (b:=2147483399) (by decide);have d:=Y6 a (b:=2147483399) (by decide);simp[cB];omega
def MJ{l:List V}{j:Int}{v:V}(h:bL l j=some v):fN (.bT l) (.int j)=some v:=h
def MK{l m:List V}:cop .eq (.bT l) (.lst m)=cC (cO (18+1)) l m:=rfl
def D4{F:List Fn}{w n c:Nat}(hc:F[c]?=some tZ){ns:List Int}(hn:ns.length<=63)(k:Int):run F w (n+1) c [.val (gy ns),.val (.int k)]=some (.int (t6 ns k),[]):=by
 refine bQ hc rfl (ai (aG (b:=decide (ns=[])) (aF rfl (bV (az rfl) (t7 aN zM) (MK.trans (Ih ns))) rfl) (λh=>?_) λh=>av ?_))
 .have d:=XN h;exact ai (bB (bK (aQ rfl) (az rfl) (lG rfl)) ⟨by rw[t6,IC d],rfl⟩)
 .have d:=Yy h;have a:0<ns.length:=List.length_pos_iff.mpr d;have QX:(0:Int)<(ns.map V.int).length:=by rw[XA];exact Int.natCast_pos.mpr a
  have e:((ns.map V.int).length:Int)<1073741824:=by rw[XA];omega
  have f:=Zt k (b:=(ns.length:Int)) (by omega);have g:(k % (ns.length:Int)).toNat<ns.length:=by have:=Y6 k (b:=(ns.length:Int)) (by omega);omega
  have i:bL (ns.map V.int) (k % ((ns.map V.int).length:Int))=some (.int (ns[(k % (ns.length:Int)).toNat]?.getD 0)):=by
   rw[XA,vE f,XO,Xl g];rfl
  refine ai (bB (bK (fK (az rfl) (bK (az rfl) (cZ (ay (az rfl) aN) yk) (nO QX)) (MJ i)) (bK (aQ rfl) (bK (az rfl) (cZ (ay (az rfl) aN) yk) (t8 QX e)) (lG rfl)) fh) ⟨?_,rfl⟩);rw[t6,T8 d,XA]
def fY{F:List Fn}{w n c dr:Nat}(hc:F[c]?=some tZ)(hd:F[dr]?=some (vF c)){ns:List Int}(hn:ns.length<=63)(k:Int){many:Int}(hm:0<many):run F w (n+2) dr [.val (gy ns),.val (.int k),.val (.int many)]=some (.int (b9 ns k many),[]):=by
 refine bQ hd rfl (ai (bF (bK (bK (bK (bK (bI (bu rfl (az rfl) (bu rfl (az rfl) aU)) (call2 (D4 hc hn k))) (aQ rfl) (nO (by decide))) (aQ rfl) (lG (MI _ _))) (bK (aQ rfl) (bK (az rfl) (aQ rfl) fh) (lG rfl)) fh) (aQ rfl) (nO (by decide))) rfl rfl ?_));refine ai (bF (bK (bK (bK (az rfl) (az rfl) (lG (MI _ _))) (bK (az rfl) (aQ rfl) (t8 (by decide) (by decide))) fh) (aQ rfl) (nO (by decide))) rfl rfl ?_);exact ai (bB (bK (bK (bK (bK (bK (az rfl) (az rfl) (lG (Tu _ _))) (bK (az rfl) (aQ rfl) (t8 (by decide) (by decide))) fh) (aQ rfl) (nO (by decide))) (aQ rfl) (t8 (by decide) (by decide))) (az rfl) (nO hm)) ⟨rfl,rfl⟩)
noncomputable def fText(dr:Nat):Fn:=⟨3,4,(.cons (.ret (.me .join (.c (.str [])) (.cons (.comp (.ix (.c (.str [97,98,99,32])) (.cl dr (.cons (.v 0) (.cons (.bin .add (.bin .add (.v 1) (.c (.int 1))) (.v 3)) (.cons (.c (.int 4)) .nil))))) (.one 3) (.gp (.cons (.cl dr (.cons (.v 0) (.cons (.v 1) (.cons (.bin .add (.v 2) (.c (.int 1))) .nil)))) .nil)) .no) .nil))) .nil)⟩
noncomputable def FA(dr:Nat):S:=.iff (.cmp .eq (.cl dr (.cons (.v 0) (.cons (.bin .add (.v 1) (.bin .mul (.c (.int 4)) (.v 4))) (.cons (.c (.int 4)) .nil)))) (.c (.int 0))) (.cons (.set 5 (.bin .mul (.ix (.c (.str [97,98,122])) (.cl dr (.cons (.v 0) (.cons (.bin .add (.bin .add (.v 1) (.bin .mul (.c (.int 4)) (.v 4))) (.c (.int 1))) (.cons (.c (.int 3)) .nil))))) (.bin .add (.c (.int 1)) (.cl dr (.cons (.v 0) (.cons (.bin .add (.bin .add (.v 1) (.bin .mul (.c (.int 4)) (.v 4))) (.c (.int 2))) (.cons (.c (.int 2)) .nil))))))) (.cons (.set 3 (.bin .add (.v 3) (.tup (.cons (.tup (.cons (.c (.str [112,117,116])) (.cons (.v 5) .nil))) .nil)))) .nil)) .nil
noncomputable def FD(dr:Nat):S:=.iff (.cmp .lt (.v 4) (.bi .len (.cons (.v 2) .nil))) (.cons (.set 6 (.cmp .gt (.cl dr (.cons (.v 0) (.cons (.bin .add (.bin .add (.v 1) (.bin .mul (.c (.int 4)) (.v 4))) (.c (.int 3))) (.cons (.c (.int 3)) .nil)))) (.c (.int 0)))) (.cons (.set 3 (.bin .add (.v 3) (.tup (.cons (.jW (.v 6) (.tup (.cons (.c (.str [107,101,101,112])) (.cons (.c (.int 1)) .nil))) (.tup (.cons (.c (.str [100,114,111,112])) (.cons (.ix (.v 2) (.v 4)) .nil)))) .nil)))) .nil)) .nil
noncomputable def Ij(dr:Nat):Fn:=⟨3,7,(.cons (.set 3 (.tup .nil)) (.cons (.for (.one 4) (.gp (.cons (.bin .add (.bi .len (.cons (.v 2) .nil)) (.c (.int 1))) .nil)) (.cons (FA dr) (.cons (FD dr) .nil))) (.cons (.ret (.v 3)) .nil)))⟩
inductive Pt where
 |keep (n:Nat)|put (s:List Nat)|drop (s:List Nat)
deriving DecidableEq
noncomputable def dO:List Nat:=[107,101,101,112]
noncomputable def lH:List Nat:=[112,117,116]
noncomputable def jC:List Nat:=[100,114,111,112]
noncomputable def Pt.v:Pt->V
 |.keep n=>.tup [.str dO,.int n]
 |.put s=>.tup [.str lH,.str s]
 |.drop s=>.tup [.str jC,.str s]
noncomputable def aC(c:List Pt):V:=.tup (c.map Pt.v)
def vI(n:Nat)(a b:Pt):cO (n+2) a.v b.v=some (decide (a=b)):=by
 cases a<;>cases b<;>simp[Pt.v,dO,lH,jC]
 all_goals omega
def m8(a b:List Pt):cO deep (aC a) (aC b)=some (decide (a=b)):=by
 simp only[aC,HG];exact g9 (λa b=>vI 17 a b) a b
noncomputable def txt(ns:List Int)(at_ most:Int):List Nat:=(List.range (b9 ns at_ (most+1)).toNat).map λ(k:Nat)=>[97,98,99,32].getD (b9 ns (at_+1+k) 4).toNat 0
def Ik(ns:List Int)(at_:Int){most:Int}(h:0<=most):(txt ns at_ most).length<=most.toNat:=by
 unfold txt;have a:=fD ns at_ (many:=most+1) (by omega);have b:=fC ns at_ (many:=most+1) (by omega);simp;omega
def getD_at{α:Type}{l:List α}{i:Int}(h0:0<=i)(h1:i<l.length)(d:α):bL l i=some (l.getD i.toNat d):=by
 have:i.toNat<l.length:=by omega
 rw[vE h0];simp[List.getD,Xl this]
def oR{α β:Type}(l:List α)(f:α->β):(l.map λx=>[f x]).flatten=l.map f:=by induction l<;>simp[*]
def B5(lo:Int)(n:Nat):range lo n=(List.range n).map λ(i:Nat)=>V.int (lo+i):=rfl
section
variable{F:List Fn}{w n c dr t:Nat}(hc:F[c]?=some tZ)(hd:F[dr]?=some (vF c)){ns:List Int}(hn:ns.length<=63)
include hc hd hn
theorem D5(ht:F[t]?=some (fText dr))(k most:Int)(hm:0<=most)(hm2:most<=1000):run F w (n+3) t [.val (gy ns),.val (.int k),.val (.int most)]=some (.str (txt ns k most),[]):=by
 have b:=fC ns k (many:=most+1) (by omega);have g:=fD ns k (many:=most+1) (by omega);have d:=λfr=>gF (fr:=fr) (fY (w:=w) (n:=n) hc hd hn k (many:=most+1) (by omega));have Qd:b8 (fq (run F w (n+2)) (.ix (.c (.str [97,98,99,32])) (.cl dr (.cons (.v 0) (.cons (.bin .add (.bin .add (.v 1) (.c (.int 1))) (.v 3)) (.cons (.c (.int 4)) .nil))))) (.one 3) .no [some (.val (gy ns)),some (.val (.int k)),some (.val (.int most)),none]) (range 0 (b9 ns k (most+1)).toNat)=some (((List.range (b9 ns k (most+1)).toNat).map λ(j:Nat)=>[[97,98,99,32].getD (b9 ns (k+1+j) 4).toNat 0]).map V.str):=by
  rw[B5,XH];refine dj _ _ _ λj _=>?_;have e:=λfr=>gF (fr:=fr) (fY (w:=w) (n:=n) hc hd hn (k+1+j) (many:=4) (by decide));have h:fN (.str [97,98,99,32]) (.int (b9 ns (k+1+j) 4))=some (.str [[97,98,99,32].getD (b9 ns (k+1+j) 4).toNat 0]):=by
   rw[rD,getD_at (l:=[97,98,99,32]) (fC ns (k+1+j) (many:=4) (by decide)) (fD ns (k+1+j) (many:=4) (by decide)) 0];rfl
  rw[show(0:Int)+(j:Int)=j from aas _];exact dY rfl (by (repeat (first|array_get_dec|exact e _)))
 have a:=zP (l:=(List.range (b9 ns k (most+1)).toNat).map λ(j:Nat)=>[[97,98,99,32].getD (b9 ns (k+1+j) 4).toNat 0]) (by rw[oR];simp;omega);rw[oR]at a;have U8:eH (((List.range (b9 ns k (most+1)).toNat).map λ(j:Nat)=>[[97,98,99,32].getD (b9 ns (k+1+j) 4).toNat 0]).map V.str)=some (.lst _):=cE (bE (by simp;omega));have f:=Mc b (show b9 ns k (most+1)<=100000 by omega);refine bQ ht rfl (ai (bB (j0 rfl (aQ rfl) (ay (fE (qm (by (repeat (first|array_get_dec|exact d _))) f) rfl Qd U8) aN) a) ⟨rfl,rfl⟩))
end
noncomputable def eS(ns:List Int)(at_:Int)(s:List Nat)(k:Nat):List Pt:=
 (if b9 ns (at_+4*k) 4=0 then [.put (rep (1+b9 ns (at_+4*k+2) 2).toNat [[97,98,122].getD (b9 ns (at_+4*k+1) 3).toNat 0])]else [])++
 (match s[k]? with
 |some c=>[if 0<b9 ns (at_+4*k+3) 3 then .keep 1 else .drop [c]]
 |none=>[])
noncomputable def di(ns:List Int)(at_:Int)(s:List Nat)(k:Nat):List Pt:=(List.range k).flatMap (eS ns at_ s)
noncomputable def chg(ns:List Int)(at_:Int)(s:List Nat):List Pt:=di ns at_ s (s.length+1)
def B6(ns:List Int)(at_:Int)(s:List Nat)(k:Nat):(eS ns at_ s k).length<=2:=by
 unfold eS;split<;>split<;>simp
def iJ(ns:List Int)(at_:Int)(s:List Nat)(k:Nat):di ns at_ s (k+1)=di ns at_ s k++eS ns at_ s k:=by simp[di,Y3]
theorem ji(ns:List Int)(at_:Int)(s:List Nat):∀k,(di ns at_ s k).length<=2*k
 |0=>by simp[di]
 |k+1=>by
  have a:=B6 ns at_ s k;have b:=ji ns at_ s k;rw[iJ,T7];omega
def ML(i:Int):cB 4 i=true:=by simp[cB]
def zY{a b:List Pt}(h:a.length+b.length<=100000):bX .add (aC a) (aC b)=some (aC (a++b)):=by
 simp only[aC];rw[vt (by simpa using h)];simp
def MM{j:Int}{n:Nat}(h:n<=100000)(e:j=n):dH [.int j]=some (range 0 n):=by
 subst e;rw[Mc (by omega) (by omega)];rfl
def Il{a:List Pt}{s:List Nat}(h:a.length<100000):bX .add (aC a) (.tup [.tup [.str [112,117,116],.str s]])=some (aC (a++[.put s])):=zY (a:=a) (b:=[.put s]) (by simp;omega)
def D6{a:List Pt}{s:List Nat}(h:a.length<100000):bX .add (aC a) (.tup [.tup [.str [100,114,111,112],.str s]])=some (aC (a++[.drop s])):=zY (a:=a) (b:=[.drop s]) (by simp;omega)
def D7{a:List Pt}(h:a.length<100000):bX .add (aC a) (.tup [.tup [.str [107,101,101,112],.int 1]])=some (aC (a++[.keep 1])):=zY (a:=a) (b:=[.keep 1]) (by simp;omega)
section
variable{F:List Fn}{w n c dr t:Nat}(hc:F[c]?=some tZ)(hd:F[dr]?=some (vF c)){ns:List Int}(hn:ns.length<=63)
include hc hd hn
theorem D8(k:Int)(x:V)(fd:List Pt)(j:Nat)(u v:Option Sl)(hu:vo u)(hfd:fd.length<=10000) :
  Wp (ex (run F w (n+2)) w (FA dr) [some (.val (gy ns)),some (.val (.int k)),some (.val x),some (.val (aC fd)),some (.val (.int j)),u,v]) λg fr=>g=.nx/\∃b,vo b/\fr=[some (.val (gy ns)),some (.val (.int k)),some (.val x),some (.val (aC (fd++if b9 ns (k+4*j) 4=0 then [.put (rep (1+b9 ns (k+4*j+2) 2).toNat [[97,98,122].getD (b9 ns (k+4*j+1) 3).toNat 0])]else []))),some (.val (.int j)),b,v]:=by
 have e:=λfr=>gF (fr:=fr) (fY (w:=w) (n:=n) hc hd hn (k+4*j) (many:=4) (by decide));have o:bX .mul (.int 4) (.int j)=some (.int (4*j)):=by rw[pG,ML];rfl
 refine aG (by (repeat (first|array_get_dec|exact e _))) (λh=>?_) λh=>?_
 .have d:=XN h;have f:=λfr=>gF (fr:=fr) (fY (w:=w) (n:=n) hc hd hn (k+4*j+1) (many:=3) (by decide));have i:=λfr=>gF (fr:=fr) (fY (w:=w) (n:=n) hc hd hn (k+4*j+2) (many:=2) (by decide));have p:=fC ns (k+4*j+2) (many:=2) (by decide);have q:=fD ns (k+4*j+2) (many:=2) (by decide);have r:fN (.str [97,98,122]) (.int (b9 ns (k+4*j+1) 3))=some (.str [[97,98,122].getD (b9 ns (k+4*j+1) 3).toNat 0]):=by
   rw[rD,getD_at (l:=[97,98,122]) (fC ns (k+4*j+1) (many:=3) (by decide)) (fD ns (k+4*j+1) (many:=3) (by decide)) 0];rfl
  have y:=DS (j:=1+b9 ns (k+4*j+2) 2) (a:=[[97,98,122].getD (b9 ns (k+4*j+1) 3).toNat 0]) (by omega) (by omega) (by simp);have z:=Il (a:=fd) (s:=rep (1+b9 ns (k+4*j+2) 2).toNat [[97,98,122].getD (b9 ns (k+4*j+1) 3).toNat 0]) (by omega);refine ai (bF (by (repeat (first|array_get_dec|exact f _|exact i _))) rfl (jh rfl hu) ?_);refine ai (bF (by repeat array_get_dec) rfl rfl (av ?_));rw[IC d];exact⟨rfl,_,.val,rfl⟩
 .have d:=Yy h;rw[T8 d,XZ];exact av ⟨rfl,u,hu,rfl⟩
theorem D9(k:Int)(x:List Nat)(hx:x.length<=1000)(fd:List Pt)(j:Nat)(u v:Option Sl)(hv:vo v)(hfd:fd.length<=10000) :
  Wp (ex (run F w (n+2)) w (FD dr) [some (.val (gy ns)),some (.val (.int k)),some (.val (.str x)),some (.val (aC fd)),some (.val (.int j)),u,v]) λg fr=>g=.nx/\∃b,vo b/\fr=[some (.val (gy ns)),some (.val (.int k)),some (.val (.str x)),some (.val (aC (fd++match x[j]? with
     |some c=>[if 0<b9 ns (k+4*j+3) 3 then .keep 1 else .drop [c]]
     |none=>[]))),some (.val (.int j)),u,b]:=by
 have p:b7 .len [.str x]=some (.int (x.length:Nat)):=YK (by omega);refine aG (by repeat array_get_dec) (λh=>?_) λh=>?_
 .have d:j<x.length:=by have:=XN h;omega
  have o:=λfr=>gF (fr:=fr) (fY (w:=w) (n:=n) hc hd hn (k+4*j+3) (many:=3) (by decide));have q:bX .mul (.int 4) (.int j)=some (.int (4*j)):=by rw[pG,ML];rfl
  have l:x[j]?=some x[j]:=Xl d;have r:fN (.str x) (.int j)=some (.str [x[j]]):=by rw[rD,xu,l];rfl
  rw[l];refine ai (bF (by (repeat (first|array_get_dec|exact o _))) rfl (jh rfl hv) ?_);by_cases e:0<b9 ns (k+4*j+3) 3
  .have f:=D7 (a:=fd) (by omega);have i:truthy (.bl (decide (0<b9 ns (k+4*j+3) 3)))=true:=XW e;refine ai (bF (bK (az rfl) (fu (ay (Fz (b:=true) (aF rfl (az rfl) i) (λ_=>by repeat array_get_dec) λh=>absurd h (by decide)) aN) qh) f) rfl rfl (av ?_));refine⟨rfl,some (.val (.bl (decide (0<b9 ns (k+4*j+3) 3)))),.val,?_⟩;simp only[IC e];rfl
  .have f:=D6 (a:=fd) (s:=[x[j]]) (by omega);have i:truthy (.bl (decide (0<b9 ns (k+4*j+3) 3)))=false:=Xr e;refine ai (bF (bK (az rfl) (fu (ay (Fz (b:=false) (aF rfl (az rfl) i) (zf ·) λ_=>by repeat array_get_dec) aN) qh) f) rfl rfl (av ?_));refine⟨rfl,some (.val (.bl (decide (0<b9 ns (k+4*j+3) 3)))),.val,?_⟩;simp only[T8 e];rfl
 .have d:¬ j<x.length:=by have:=Yy h;omega
  rw[XX (by omega),XZ];exact av ⟨rfl,v,hv,rfl⟩
theorem qo(ht:F[t]?=some (Ij dr))(k:Int)(x:List Nat)(hx:x.length<=1000):run F w (n+3) t [.val (gy ns),.val (.int k),.val (.str x)]=some (aC (chg ns k x),[]):=by
 refine bQ ht rfl ?_;have y:b7 .len [.str x]=some (.int (x.length:Nat)):=YK (by omega);have z:dH [.int ((x.length:Nat)+1)]=some (range 0 (x.length+1)):=MM (by omega) (by omega);refine ai (bF (by repeat array_get_dec) rfl rfl ?_);refine ai (j4 (qm (ay (bK (cZ (ay (az rfl) aN) y) (aQ rfl) fh) aN) z) ?_);refine yo (λj h=>∃a b c,vo a/\vo b/\vo c/\h=[some (.val (gy ns)),some (.val (.int k)),some (.val (.str x)),some (.val (aC (di ns k x j))),a,b,c]) (λj h C ⟨a,b,d,i,l,e,f⟩=>?_) (λh ⟨a,b,d,i,l,e,f⟩=>?_) ⟨none,none,none,.none,.none,.none,rfl⟩
 .subst f;have G:=ji ns k x j;rw[show(0:Int)+(j:Int)=j from aas _];refine dX (bind1 rfl i) (ai ?_);refine(D8 hc hd hn k (.str x) (di ns k x j) j b d l (by omega)).mono λg h ⟨o,r,p,q⟩=>?_;subst o q;refine ai ?_;refine(D9 hc hd hn k x hx _ j r d e (by split<;>simp<;>omega)).mono λg h ⟨o,A,U9,q⟩=>?_;subst o q;refine av ?_;rw[eO];refine⟨some (.val (.int j)),r,A,.val,p,U9,?_⟩;rw[iJ,eS,XU]
 .subst f;refine ai (bB (v:=aC (chg ns k x)) (af:=[some (.val (gy ns)),some (.val (.int k)),some (.val (.str x)),some (.val (aC (di ns k x (x.length+1)))),a,b,d]) ?_ ⟨rfl,rfl⟩);have B:gj [some (.val (gy ns)),some (.val (.int k)),some (.val (.str x)),some (.val (aC (di ns k x (x.length+1)))),a,b,d]=[some (.val (gy ns)),some (.val (.int k)),some (.val (.str x)),some (.val (aC (di ns k x (x.length+1)))),a,b,d]:=by
   show _ :: _ :: _ :: _ :: a.map Sl.eU :: b.map Sl.eU :: [d.map Sl.eU]=_;rw[dQ i,dQ l,dQ e];rfl
  rw[B];exact az rfl
end
noncomputable def fF:Fn:=⟨1,1,(.cons (.iff (.cmp .eq (.ix (.v 0) (.c (.int 0))) (.c (.str [107,101,101,112]))) (.cons (.ret (.ix (.v 0) (.c (.int 1)))) .nil) .nil) (.cons (.ret (.bi .len (.cons (.ix (.v 0) (.c (.int 1))) .nil))) .nil))⟩
noncomputable def lI(dZ:Nat):Fn:=⟨1,2,(.cons (.ret (.bi .sum (.cons (.comp (.cl dZ (.cons (.v 1) .nil)) (.one 1) (.seq (.v 0)) (.yes (.cmp .ne (.ix (.v 1) (.c (.int 0))) (.c (.str [112,117,116]))))) .nil))) .nil)⟩
noncomputable def nQ(dZ:Nat):Fn:=⟨1,2,(.cons (.ret (.bi .sum (.cons (.comp (.cl dZ (.cons (.v 1) .nil)) (.one 1) (.seq (.v 0)) (.yes (.cmp .ne (.ix (.v 1) (.c (.int 0))) (.c (.str [100,114,111,112]))))) .nil))) .nil)⟩
noncomputable def MN(dZ:Nat):Fn:=⟨1,2,(.cons (.ret (.bi .sum (.cons (.comp (.cl dZ (.cons (.v 1) .nil)) (.one 1) (.seq (.v 0)) (.yes (.cmp .ne (.ix (.v 1) (.c (.int 0))) (.c (.str [107,101,101,112]))))) .nil))) .nil)⟩
noncomputable def jj(sS:Nat):Fn:=⟨1,7,(.cons (.set 1 (.lst .nil)) (.cons (.set 2 (.c (.int 0))) (.cons (.set 3 (.c (.str []))) (.cons (.set 4 (.c (.str []))) (.cons (.for (.many [5,6]) (.seq (.v 0)) (.cons (.iff (.cmp .eq (.v 5) (.c (.str [100,114,111,112]))) (.cons (.set 3 (.bin .add (.v 3) (.v 6))) .nil) (.cons (.iff (.cmp .eq (.v 5) (.c (.str [112,117,116]))) (.cons (.set 4 (.bin .add (.v 4) (.v 6))) .nil) (.cons (.iff (.cmp .gt (.v 6) (.c (.int 0))) (.cons (.iff (.orr (.cmp .ne (.v 3) (.c (.str []))) (.cmp .ne (.v 4) (.c (.str [])))) (.cons (.exp (.me .extend (.v 1) (.cons (.cl sS (.cons (.v 2) (.cons (.v 3) (.cons (.v 4) .nil)))) .nil))) (.cons (.set 2 (.c (.int 0))) (.cons (.set 3 (.c (.str []))) (.cons (.set 4 (.c (.str []))) .nil)))) .nil) (.cons (.set 2 (.bin .add (.v 2) (.v 6))) .nil)) .nil) .nil)) .nil)) .nil)) (.cons (.exp (.me .extend (.v 1) (.cons (.cl sS (.cons (.v 2) (.cons (.v 3) (.cons (.v 4) .nil)))) .nil))) (.cons (.ret (.gX (.v 1))) .nil)))))))⟩
noncomputable def oS:S:=.iff (.cmp .ne (.v 1) (.c (.str []))) (.cons (.exp (.me .append (.v 3) (.cons (.tup (.cons (.c (.str [100,114,111,112])) (.cons (.v 1) .nil))) .nil))) .nil) .nil
noncomputable def kh:S:=.iff (.cmp .ne (.v 2) (.c (.str []))) (.cons (.exp (.me .append (.v 3) (.cons (.tup (.cons (.c (.str [112,117,116])) (.cons (.v 2) .nil))) .nil))) .nil) .nil
noncomputable def iW:S:=.ret (.v 3)
noncomputable def eF:Fn:=⟨3,4,(.cons (.set 3 (.lst .nil)) (.cons (.iff (.cmp .gt (.v 0) (.c (.int 0))) (.cons (.exp (.me .append (.v 3) (.cons (.tup (.cons (.c (.str [107,101,101,112])) (.cons (.v 0) .nil))) .nil))) .nil) .nil) (.cons oS (.cons kh (.cons iW .nil)))))⟩
noncomputable def Pt.n:Pt->Nat
 |.keep n=>n
 |.put s=>s.length
 |.drop s=>s.length
noncomputable def tot(c:List Pt):Nat:=(c.map Pt.n).sum
def fJ(a b:List Pt):tot (a++b)=tot a+tot b:=by simp[tot]
def bZ(p:Pt)(c:List Pt):tot (p :: c)=p.n+tot c:=by simp[tot]
noncomputable def iK:Pt->Bool
 |.put _=>true
 |_=>false
noncomputable def dF:Pt->Bool
 |.drop _=>true
 |_=>false
noncomputable def fG:Pt->Bool
 |.keep _=>true
 |_=>false
noncomputable def bC(c:List Pt):Nat:=tot (c.filter λp=>!iK p)
noncomputable def ir(c:List Pt):Nat:=tot (c.filter λp=>!dF p)
noncomputable def cst(c:List Pt):Nat:=tot (c.filter λp=>!fG p)
section
variable{F:List Fn}{w n aO i:Nat}
def jS(hs:F[i]?=some fF)(p:Pt)(hp:p.n<=100000):run F w (n+1) i [.val p.v]=some (.int p.n,[]):=by
 cases p with
 |keep k=>exact bQ hs rfl (ai (aG (b:=true) (aF rfl (bV (fK (az rfl) (aQ rfl) rfl) (aQ rfl) iH) rfl) (λ_=>ai (bB (fK (az rfl) (aQ rfl) rfl) ⟨rfl,rfl⟩)) nofun))
 |put s=>exact bQ hs rfl (ai (aG (b:=false) (aF rfl (bV (fK (az rfl) (aQ rfl) rfl) (aQ rfl) iH) rfl) nofun (λ_=>av (ai (bB (cZ (ay (fK (az rfl) (aQ rfl) rfl) aN) (YK hp)) ⟨rfl,rfl⟩)))))
 |drop s=>exact bQ hs rfl (ai (aG (b:=false) (aF rfl (bV (fK (az rfl) (aQ rfl) rfl) (aQ rfl) iH) rfl) nofun (λ_=>av (ai (bB (cZ (ay (fK (az rfl) (aQ rfl) rfl) aN) (YK hp)) ⟨rfl,rfl⟩)))))
def Tv{c:List Pt}{p:Pt}(h:p∈c):p.n<=tot c:=by
 induction c with
 |nil=>simp at h
 |cons q c a=>
  rw[bZ];rcases List.mem_cons.mp h with rfl|h
  .omega
  .have:=a h;omega
def Qe(c:List Pt):(c.map λp=>(p.n:Int)).sum=(tot c:Int):=by
 induction c with
 |nil=>rfl
 |cons p c a=>simp only[M7,aan,a,bZ];omega
def yv{word:List Nat}{pr:Pt->Bool}(hs:F[aO]?=some fF)(hb:F[i]?=some ⟨1,2,.cons (.ret (.bi .sum (.cons (.comp (.cl aO (.cons (.v 1) .nil)) (.one 1) (.seq (.v 0)) (.yes (.cmp .ne (.ix (.v 1) (.c (.int 0))) (.c (.str word))))) .nil))) .nil⟩)
  (hw:∀p:Pt,∃x u,p.v=.tup [.str x,u]/\(!decide (x=word))=pr p) (c:List Pt) (h1:c.length<=10000) (h2:tot c<=100000):run F w (n+2) i [.val (aC c)]=some (.int (tot (c.filter pr)),[]):=by
 refine bQ hb rfl (ai (bB (cZ (ay (fE (dD (dz rfl) rfl) rfl (vA (e:=Pt.v) (p:=pr) (g:=λp=>.int p.n) c λp d=>?_) (cE (bE ?_))) aN) ?_) ⟨rfl,rfl⟩))
 .obtain⟨x,u,b,Va⟩:=hw p;have a:=λfr=>bU (fr:=fr) (jS (w:=w) (n:=n) hs p (Xm (Tv d) h2));rw[b]at a;rw[b,<-Va];exact Ii rfl (aF rfl (bV (fK (az rfl) (aQ rfl) rfl) (aQ rfl) iI) rfl) λ_=>bI (bu rfl (az rfl) aU) (a _)
 .rw[XA];exact Xm (List.length_filter_le _ _) (Xm h1 (by decide))
 .rw[HL,zO (λp:Pt=>(p.n:Int))];show some (V.int _)=_;rw[Qe]
def zZ(hs:F[aO]?=some fF)(hb:F[i]?=some (lI aO))(c:List Pt)(h1:c.length<=10000)(h2:tot c<=100000):run F w (n+2) i [.val (aC c)]=some (.int (bC c),[]):=
 yv (pr:=λp=>!iK p) hs hb (λp=>by cases p<;>exact⟨_,_,rfl,rfl⟩) c h1 h2
def B7(hs:F[aO]?=some fF)(hb:F[i]?=some (nQ aO))(c:List Pt)(h1:c.length<=10000)(h2:tot c<=100000):run F w (n+2) i [.val (aC c)]=some (.int (ir c),[]):=
 yv (pr:=λp=>!dF p) hs hb (λp=>by cases p<;>exact⟨_,_,rfl,rfl⟩) c h1 h2
end
noncomputable def bw(k:Nat)(g w:List Nat):List Pt:=(if 0<k then [.keep k]else [])++(if g=[]then []else [.drop g])++(if w=[]then []else [.put w])
def ki(k:Nat)(g w:List Nat):(bw k g w).length<=3:=by unfold bw;split<;>split<;>split<;>simp
def oU{F:List Fn}{w n i:Nat}(hs:F[i]?=some eF)(k:Nat)(g x:List Nat):run F w (n+1) i [.val (.int k),.val (.str g),.val (.str x)]=some (.lst ((bw k g x).map Pt.v),[]):=by
 refine bQ hs rfl ?_;refine ai (iG (l:=[]) (by repeat array_get_dec) rfl rfl ?_);have c:∀(l:List V) (d:V) (a:Fr) (i:Nat),l.length<=3->a[i]?=some (some (.own l))->ig .append i [d] a a[i]?=.ok .bG (a.set i (some (.own (l++[d])))):=λl d a i h e=>by rw[e];exact nN (by omega)
 have fin:∀l:List V,Wp (exs (run F w n) w (.cons iW .nil) [some (.val (.int k)),some (.val (.str g)),some (.val (.str x)),some (.own l)]) λg a=>g=.ret (.lst l)/\outs 3 a=[]:=λl=>ai (bB (by repeat array_get_dec) ⟨rfl,rfl⟩);have s3:∀l:List V,l.length<=2->Wp (exs (run F w n) w (.cons kh (.cons iW .nil)) [some (.val (.int k)),some (.val (.str g)),some (.val (.str x)),some (.own l)]) λg a=>g=.ret (.lst (l++(if x=[]then []else [Pt.put x]).map Pt.v))/\outs 3 a=[]:=λl f=>by
  refine ai (aG (by repeat array_get_dec) (λh=>?_) λh=>?_)
  .have b:x≠[]:=by simpa using h
   refine ai (gG (by (repeat array_get_dec);exact c _ _ _ _ (by omega) rfl) (av ?_));rw[T8 b];exact fin _
  .have b:x=[]:=by simpa using h
   refine av ?_;rw[IC b,Y4,XZ];exact fin _
 have s2:∀l:List V,l.length<=1->Wp (exs (run F w n) w (.cons oS (.cons kh (.cons iW .nil))) [some (.val (.int k)),some (.val (.str g)),some (.val (.str x)),some (.own l)]) λy a=>y=.ret (.lst (l++((if g=[]then []else [Pt.drop g])++(if x=[]then []else [Pt.put x])).map Pt.v))/\outs 3 a=[]:=λl f=>by
  refine ai (aG (by repeat array_get_dec) (λh=>?_) λh=>?_)
  .have b:g≠[]:=by simpa using h
   refine ai (gG (by (repeat array_get_dec);exact c _ _ _ _ (by omega) rfl) (av ?_));rw[T8 b,Xz,<-XU];exact s3 _ (by simp;omega)
  .have b:g=[]:=by simpa using h
   refine av ?_;rw[IC b,Yz];exact s3 _ (by omega)
 refine ai (aG (by repeat array_get_dec) (λh=>?_) λh=>?_)
 .have b:0<k:=by have:=XN h;omega
  refine ai (gG (by (repeat array_get_dec);exact c _ _ _ _ (by decide) rfl) (av ?_));unfold bw;rw[IC b,XU];exact s2 _ (VG 1)
 .have b:¬ 0<k:=by have:=Yy h;omega
  refine av ?_;unfold bw;rw[T8 b];exact s2 _ (by decide)
abbrev FS:=List Pt×Nat×List Nat×List Nat
noncomputable def aH(st:FS):Pt->FS
 |.drop s=>(st.1,st.2.1,st.2.2.1++s,st.2.2.2)
 |.put s=>(st.1,st.2.1,st.2.2.1,st.2.2.2++s)
 |.keep k=>if 0<k then (if st.2.2.1=[]/\st.2.2.2=[]then (st.1,st.2.1+k,[],[])else (st.1++bw st.2.1 st.2.2.1 st.2.2.2,k,[],[]))else st
noncomputable def cz:FS:=([],0,[],[])
noncomputable def b5(st:FS):List Pt:=st.1++bw st.2.1 st.2.2.1 st.2.2.2
noncomputable def aK(c:List Pt):List Pt:=b5 (c.foldl aH cz)
def Im(p:List Pt)(a:Pt):(p++[a]).foldl aH cz=aH (p.foldl aH cz) a:=by simp
def vJ(c:List Pt):∀st:FS,(c.foldl aH st).1.length<=st.1.length+3*c.length/\(c.foldl aH st).2.2.1.length<=st.2.2.1.length+tot c/\(c.foldl aH st).2.2.2.length<=st.2.2.2.length+tot c:=by
 induction c with
 |nil=>intro st;simp[tot]
 |cons p c a=>
  intro st;have h:=a (aH st p);have b:(aH st p).1.length<=st.1.length+3/\(aH st p).2.2.1.length<=st.2.2.1.length+p.n/\(aH st p).2.2.2.length<=st.2.2.2.length+p.n:=by
   have:=ki st.2.1 st.2.2.1 st.2.2.2;cases p with
   |drop s=>simp[aH,Pt.n]
   |put s=>simp[aH,Pt.n]
   |keep k=>
    simp only[aH];split
    .split
     .simp
     .simp;omega
    .simp
  simp only[XI,Xo,bZ];omega
def ee{F:List Fn}{w n aV i:Nat}(hs:F[aV]?=some eF)(hf:F[i]?=some (jj aV))(c:List Pt)(h1:c.length<=10000)(h2:tot c<=10000):run F w (n+2) i [.val (aC c)]=some (aC (aK c),[]):=by
 refine bQ hf rfl ?_;refine ai (iG (l:=[]) (by repeat array_get_dec) rfl rfl ?_);refine ai (bF (by repeat array_get_dec) rfl rfl ?_);refine ai (bF (by repeat array_get_dec) rfl rfl ?_);refine ai (bF (by repeat array_get_dec) rfl rfl ?_);refine ai (j4 (vs:=c.map Pt.v) (dD (dz rfl) rfl) ?_);have ext:∀(d:FS) (fr:Fr),d.1.length<=30010->ig .extend 1 [.lst ((bw d.2.1 d.2.2.1 d.2.2.2).map Pt.v)] fr (some (some (.own (d.1.map Pt.v))))=.ok .bG (fr.set 1 (some (.own ((b5 d).map Pt.v)))):=λd fr h=>by
  have:=ki d.2.1 d.2.2.1 d.2.2.2;unfold b5;rw[Xz];exact yt (by simp;omega)
 refine gm (e:=Pt.v) (λp l fr=>p++l=c/\∃a b,vo a/\vo b/\fr=[some (.val (aC c)),some (.own ((p.foldl aH cz).1.map Pt.v)),some (.val (.int (p.foldl aH cz).2.1)),some (.val (.str (p.foldl aH cz).2.2.1)),some (.val (.str (p.foldl aH cz).2.2.2)),a,b]) (λp x l fr ⟨f,a,b,q,r,g⟩=>?_) (λp fr ⟨f,a,b,q,r,g⟩=>?_) c [] _ ⟨rfl,none,none,.none,.none,rfl⟩
 .subst g;obtain⟨A,B,C⟩:=vJ p cz;have I:p.length+l.length+1=c.length:=by rw[<-f];simp;omega
  have J:tot p+x.n+tot l=tot c:=by rw[<-f,fJ,bZ];omega
  rw[Im];have o:(p++[x])++l=c:=by simpa using f
  generalize p.foldl aH cz=d at *
  simp[cz]at A B C;have G:=λfr=>gF (fr:=fr) (oU (w:=w) (n:=n) hs d.2.1 d.2.2.1 d.2.2.2);have ex:=λfr=>ext d fr (by omega);cases x with
  |drop s=>
   have hs:s.length<=tot c:=by simp only[Pt.n]at J;omega
   have K:=fj (a:=d.2.2.1) (b:=s) (by omega);refine dX (nP rfl q rfl r) (ai (aG (by repeat array_get_dec) (λ_=>?_) λh=>absurd h (by decide)));refine ai (bF (by repeat array_get_dec) rfl rfl (av (av ?_)));rw[eO];exact⟨o,_,_,.val,.val,rfl⟩
  |put s=>
   have hs:s.length<=tot c:=by simp only[Pt.n]at J;omega
   have K:=fj (a:=d.2.2.2) (b:=s) (by omega);refine dX (nP rfl q rfl r) (ai (aG (by repeat array_get_dec) (zf ·) λ_=>?_));refine ai (aG (by repeat array_get_dec) (λ_=>?_) λh=>absurd h (by decide));refine ai (bF (by repeat array_get_dec) rfl rfl (av (av (av ?_))));rw[eO];exact⟨o,_,_,.val,.val,rfl⟩
  |keep k=>
   refine dX (nP rfl q rfl r) (ai (aG (by repeat array_get_dec) (zf ·) λ_=>?_));refine ai (aG (by repeat array_get_dec) (zf ·) λ_=>?_);refine ai (aG (by repeat array_get_dec) (λh=>?_) λh=>?_)
   .have y:0<k:=by have:=XN h;omega
    by_cases j:d.2.2.1=[]/\d.2.2.2=[]
    .have n1:cop .ne (.str d.2.2.1) (.str [])=some false:=by rw[iI,j.1];rfl
     have n2:cop .ne (.str d.2.2.2) (.str [])=some false:=by rw[iI,j.2];rfl
     refine ai (aG (b:=false) (fX (aF rfl (by repeat array_get_dec) rfl) (aF rfl (by repeat array_get_dec) rfl)) (zf ·) λ_=>av ?_);refine ai (bF (by repeat array_get_dec) rfl rfl (av (av (av (av ?_)))));rw[eO];refine⟨o,some (.val (.str dO)),some (.val (.int k)),.val,.val,?_⟩;simp only[aH,IC y,IC j];rw[j.1,j.2];rfl
    .have L:aI (run F w (n+1)) (.orr (.cmp .ne (.v 3) (.c (.str []))) (.cmp .ne (.v 4) (.c (.str [])))) [some (.val (aC c)),some (.own (d.1.map Pt.v)),some (.val (.int d.2.1)),some (.val (.str d.2.2.1)),some (.val (.str d.2.2.2)),some (.val (.str dO)),some (.val (.int k))]=.ok true [some (.val (aC c)),some (.own (d.1.map Pt.v)),some (.val (.int d.2.1)),some (.val (.str d.2.2.1)),some (.val (.str d.2.2.2)),some (.val (.str dO)),some (.val (.int k))]:=by
      by_cases H:d.2.2.1=[]
      .have M:¬ d.2.2.2=[]:=λz=>j ⟨H,z⟩;have n1:cop .ne (.str d.2.2.1) (.str [])=some false:=by rw[iI,H];rfl
       have n2:cop .ne (.str d.2.2.2) (.str [])=some true:=by rw[iI,Xr M];rfl
       exact fX (aF rfl (by repeat array_get_dec) rfl) (aF rfl (by repeat array_get_dec) rfl)
      .have n1:cop .ne (.str d.2.2.1) (.str [])=some true:=by rw[iI,Xr H];rfl
       exact B3 (aF rfl (by repeat array_get_dec) rfl)
     refine ai (aG L (λ_=>?_) λh=>absurd h (by decide));refine ai (gG (by (repeat (first|array_get_dec|exact G _|exact ex _))) ?_);refine ai (bF (by repeat array_get_dec) rfl rfl ?_);refine ai (bF (by repeat array_get_dec) rfl rfl ?_);refine ai (bF (by repeat array_get_dec) rfl rfl (av ?_));refine ai (bF (by repeat array_get_dec) rfl rfl (av (av (av (av ?_)))));rw[eO];refine⟨o,some (.val (.str dO)),some (.val (.int k)),.val,.val,?_⟩;simp only[aH,IC y,T8 j];rw[aas];rfl
   .have y:¬ 0<k:=by have:=Yy h;omega
    refine av (av (av (av ?_)));rw[eO];refine⟨o,some (.val (.str dO)),some (.val (.int k)),.val,.val,?_⟩;simp only[aH,T8 y];rfl
 .subst g;simp at f;subst f;obtain⟨A,B,C⟩:=vJ p cz;have e:aK p=b5 (p.foldl aH cz):=rfl;rw[e];generalize p.foldl aH cz=d at *
  simp[cz]at A B C;have P:=ki d.2.1 d.2.2.1 d.2.2.2;have G:=λfr=>gF (fr:=fr) (oU (w:=w) (n:=n) hs d.2.1 d.2.2.1 d.2.2.2);have ex:=λfr=>ext d fr (by omega);have N:toT (.lst ((b5 d).map Pt.v))=some (aC (b5 d)):=by rw[ym];exact jR (bE (by simp[b5];omega))
  refine ai (gG (by (repeat (first|array_get_dec|exact G _|exact ex _))) ?_);exact ai (bB (ql (az rfl) N) ⟨rfl,rfl⟩)
inductive Tq where
 |at (i:Nat)|sg (c:Nat)
deriving DecidableEq
noncomputable def Pt.asks:Pt->List (List Nat)
 |.keep n=>List.replicate n []
 |.drop s=>s.map λc=>[c]
 |.put _=>[]
noncomputable def asks(c:List Pt):List (List Nat):=c.flatMap Pt.asks
noncomputable def Pt.told(k:Nat):Pt->List Tq
 |.keep n=>(List.range n).map λj=>.at (k+j)
 |.drop _=>[]
 |.put s=>s.map .sg
noncomputable def told(k:Nat):List Pt->List Tq
 |[]=>[]
 |p :: c=>p.told k++told (k+p.asks.length) c
def ef(a b:List Pt):asks (a++b)=asks a++asks b:=by simp[asks]
def gR(a b:List Pt):∀k,told k (a++b)=told k a++told (k+(asks a).length) b:=by
 induction a with
 |nil=>intro k;simp[told,asks]
 |cons p a c=>
  intro k;simp only[XM,told,c,XU]
  congr 3
  simp[asks];omega
noncomputable def lJ(c:List Pt):List (List Nat)×List Tq:=(asks c,told 0 c)
def rG{α:Type}(n:Nat)(a:α):rep n [a]=List.replicate n a:=by
 induction n with
 |zero=>rfl
 |succ n b=>simp only[rep,VR,X3]at b ⊢;rw[b];rfl
noncomputable def Pt.word:Pt->List Nat
 |.keep _=>dO
 |.put _=>lH
 |.drop _=>jC
noncomputable def qp(a b:List Nat):Bool:=!(decide (a=b) || (decide (a=lH)&&decide (b=jC)))
noncomputable def kj:List (List Nat)->Bool
 |a :: b :: r=>qp a b&&kj (b :: r)
 |_=>true
noncomputable def MO(p:Pt):Bool:=p.n != 0
noncomputable def m9(c:List Pt):Bool:=kj (c.map Pt.word)&&c.all MO
def eW(k:Nat)(g x:List Nat):asks (bw k g x)=List.replicate k []++g.map λc=>[c]:=by
  unfold bw;by_cases a:0<k<;>by_cases b:g=[]<;>by_cases d:x=[]<;>simp[a,b,d,asks,Pt.asks]
  all_goals (have:k=0:=by omega
             subst this;simp)
def iL(k:Nat)(g x:List Nat)(j:Nat):told j (bw k g x)=(List.range k).map (λi=>Tq.at (j+i))++x.map Tq.sg:=by
  unfold bw;by_cases a:0<k<;>by_cases b:g=[]<;>by_cases c:x=[]<;>simp[a,b,c,told,Pt.told,Pt.asks]
  all_goals (have:k=0:=by omega
             subst this;simp)
def Aa(st:FS)(p:Pt):asks (b5 (aH st p))=asks (b5 st++[p])/\∀j,told j (b5 (aH st p))=told j (b5 st++[p]):=by
 obtain⟨ps,k,g,x⟩:=st;have c:∀a:List Pt,asks (a++[p])=asks a++p.asks:=λa=>by simp[asks]
 have b:∀(a:List Pt) j,told j (a++[p])=told j a++p.told (j+(asks a).length):=λa j=>by simp[gR,told]
 rw[c];cases p with
 |drop s=>
  refine⟨by simp[aH,b5,ef,eW,Pt.asks],λj=>?_⟩;rw[b];simp[aH,b5,gR,iL,Pt.told]
 |put s=>
  refine⟨by simp[aH,b5,ef,eW,Pt.asks],λj=>?_⟩;rw[b];simp[aH,b5,gR,iL,Pt.told]
 |keep m=>
  simp only[aH];split
  .split
   .rename_i h;obtain⟨rfl,rfl⟩:=h;refine⟨by simp[b5,ef,eW,Pt.asks],λj=>?_⟩;rw[b];simp[b5,ef,gR,iL,eW,Pt.told,List.range_add,YY]
   .refine⟨by simp[b5,ef,eW,Pt.asks],λj=>?_⟩;rw[b];simp[b5,ef,gR,iL,eW,Pt.told,YY]
  .rename_i h;have:m=0:=by omega
   subst this;refine⟨by simp[Pt.asks],λj=>?_⟩;rw[b];simp[Pt.told]
def qq(c:List Pt):∀st:FS,asks (b5 (c.foldl aH st))=asks (b5 st++c)/\∀j,told j (b5 (c.foldl aH st))=told j (b5 st++c):=by
 induction c with
 |nil=>intro st;simp
 |cons p c b=>
  intro st;obtain⟨d,f⟩:=b (aH st p);obtain⟨a,g⟩:=Aa st p;simp only[XI];have e:b5 st++p :: c=(b5 st++[p])++c:=by simp
  refine⟨?_,λj=>?_⟩
  .rw[d,e,ef,ef _ c,a]
  .rw[f j,e,gR,gR _ c,g j,a]
def fZ(c:List Pt):asks (aK c)=asks c:=by
 have:=(qq c cz).1;simpa[aK,cz,b5,bw]using this
def cP(c:List Pt)(j:Nat):told j (aK c)=told j c:=by
 have:=(qq c cz).2 j;simpa[aK,cz,b5,bw]using this
def lK(c:List Pt):lJ (aK c)=lJ c:=by simp[lJ,fZ,cP]
noncomputable def kps(c:List Pt):Nat:=tot (c.filter fG)
def lM(c:List Pt):(asks c).length=bC c:=by
 induction c with
 |nil=>rfl
 |cons p c a=>cases p<;>simp[asks,bC,tot,iK,Pt.asks,Pt.n]at a ⊢<;>omega
def pH(c:List Pt):∀j,(told j c).length=ir c:=by
 induction c with
 |nil=>intro j;rfl
 |cons p c a=>intro j;cases p<;>simp[told,ir,tot,dF,Pt.told,Pt.n,a]at a ⊢
def lN(n:Nat)(c:List Pt):bC (.keep n :: c)=n+bC c:=by simp[bC,tot,iK,Pt.n]
def nT(s:List Nat)(c:List Pt):bC (.drop s :: c)=s.length+bC c:=by simp[bC,tot,iK,Pt.n]
def lO(s:List Nat)(c:List Pt):bC (.put s :: c)=bC c:=by simp[bC,tot,iK,Pt.n]
def Ab(n:Nat)(c:List Pt):ir (.keep n :: c)=n+ir c:=by simp[ir,tot,dF,Pt.n]
def Ac(s:List Nat)(c:List Pt):ir (.drop s :: c)=ir c:=by simp[ir,tot,dF,Pt.n]
def Ad(s:List Nat)(c:List Pt):ir (.put s :: c)=s.length+ir c:=by simp[ir,tot,dF,Pt.n]
def FE(n:Nat)(c:List Pt):cst (.keep n :: c)=cst c:=by simp[cst,tot,fG,Pt.n]
def FF(s:List Nat)(c:List Pt):cst (.drop s :: c)=s.length+cst c:=by simp[cst,tot,fG,Pt.n]
def FG(s:List Nat)(c:List Pt):cst (.put s :: c)=s.length+cst c:=by simp[cst,tot,fG,Pt.n]
def FH(n:Nat)(c:List Pt):kps (.keep n :: c)=n+kps c:=by simp[kps,tot,YW,fG,Pt.n]
def FJ(s:List Nat)(c:List Pt):kps (.drop s :: c)=kps c:=by simp[kps,tot,fG,Pt.n]
def FL(s:List Nat)(c:List Pt):kps (.put s :: c)=kps c:=by simp[kps,tot,fG,Pt.n]
noncomputable def isAt:Tq->Bool
 |.at _=>true
 |_=>false
def B8(c:List Pt):∀j,((told j c).filter isAt).length=kps c:=by
 induction c with
 |nil=>intro j;rfl
 |cons p c b=>
  intro j;have e:∀(m:Nat) (f:Nat->Nat),(((List.range m).map λi=>Tq.at (f i)).filter isAt).length=m:=λm f=>by
   rw[List.filter_eq_self.mpr]
   .simp
   .intro a d;obtain⟨i,_,rfl⟩:=List.mem_map.mp d;rfl
  have g:∀s:List Nat,((s.map Tq.sg).filter isAt).length=0:=λs=>by
   rw[List.filter_eq_nil_iff.mpr]
   .rfl
   .intro a d;obtain⟨i,_,rfl⟩:=List.mem_map.mp d;simp[isAt]
  cases p with
  |keep m=>simp only[told,Pt.told,ZE,T7,e,b,kps,tot,fG,YW,Xq,M7,aan,Pt.n]
  |put s=>simp only[told,Pt.told,ZE,T7,g,b,kps,fG,YW];simp
  |drop s=>simp only[told,Pt.told,ZE,T7,b,kps,fG,YW];simp
def B9(c:List Pt):(cst c:Int)=bC c - kps c+ir c - kps c:=by
 induction c with
 |nil=>rfl
 |cons p c a=>cases p<;>simp only[FE,FF,FG,lN,nT,lO,Ab,Ac,Ad,FH,FJ,FL]<;>omega
def Ca(c:List Pt):tot c+kps c=bC c+ir c:=by
 induction c with
 |nil=>rfl
 |cons p c a=>cases p<;>simp only[bZ,Pt.n,lN,nT,lO,Ab,Ac,Ad,FH,FJ,FL]<;>omega
def vL(c:List Pt):bC (aK c)=bC c:=by rw[<-lM,<-lM,fZ]
def vM(c:List Pt):ir (aK c)=ir c:=by rw[<-pH _ 0,<-pH _ 0,cP]
def vN(c:List Pt):kps (aK c)=kps c:=by rw[<-B8 _ 0,<-B8 _ 0,cP]
def pI(c:List Pt):cst (aK c)=cst c:=by
 have a:=B9 (aK c);have b:=B9 c;rw[vL,vM,vN]at a;omega
def gb(c:List Pt):tot (aK c)=tot c:=by
 have a:=Ca (aK c);have b:=Ca c;rw[vL,vM,vN]at a;omega
theorem yw:∀(a:List (List Nat)) (b:List (List Nat)),kj (a++b)=true↔kj a=true/\kj b=true/\∀x∈a.getLast?,∀y∈b.head?,qp x y=true
 |[],b=>by simp[kj]
 |[x],[]=>by simp[kj]
 |[x],y :: b=>by simp[kj,and_comm]
 |x :: y :: a,b=>by
  have:=yw (y :: a) b;simp only[XM]at this ⊢;simp only[kj,OS,this,List.getLast?_cons_cons];constructor
  .rintro⟨h1,h2,h3,h4⟩;exact⟨⟨h1,h2⟩,h3,h4⟩
  .rintro⟨⟨h1,h2⟩,h3,h4⟩;exact⟨h1,h2,h3,h4⟩
def wO(k:Nat)(g x:List Nat):m9 (bw k g x)=true:=by
 unfold bw;by_cases a:0<k<;>by_cases b:g=[]<;>by_cases c:x=[]<;>simp[a,b,c,m9,MO,kj,qp,Pt.word,Pt.n,dO,lH,jC]
 all_goals omega
def vO(st:FS):Prop:=m9 st.1=true/\(st.1≠[]->0<st.2.1)/\∀p∈st.1.getLast?,p.word≠dO
def Io{a b:List Pt}(ha:m9 a=true)(hb:m9 b=true)(h:∀p∈a.getLast?,∀q∈b.head?,qp p.word q.word=true):m9 (a++b)=true:=by
 simp only[m9,OS]at ha hb ⊢;refine⟨?_,by rw[List.all_append,ha.2,hb.2];rfl⟩;rw[Xz,yw];refine⟨ha.1,hb.1,λx c y d=>?_⟩;simp at c d;obtain⟨p,e,rfl⟩:=c;obtain⟨q,f,rfl⟩:=d;exact h p e q f
def vP{k:Nat}{g x:List Nat}(hk:0<k):(bw k g x).head?=some (.keep k):=by simp[bw,hk]
def Ip{w:List Nat}(h:w≠dO)(hw:w=lH\/w=jC):qp w dO=true:=by
 rcases hw with rfl|rfl<;>decide
def Iq(p:Pt):p.word=dO\/p.word=lH\/p.word=jC:=by cases p<;>simp[Pt.word]
def vQ{st:FS}(h:vO st):m9 (b5 st)=true:=by
 refine Io h.1 (wO _ _ _) λp a q b=>?_;have c:st.1≠[]:=by intro z;rw[z]at a;simp at a
 rw[vP (h.2.1 c)]at b;simp at b;subst b;have d:=h.2.2 p a;exact Ip d ((Iq p).resolve_left d)
def vR{k:Nat}{g x:List Nat}(h:¬ (g=[]/\x=[])):∀p∈(bw k g x).getLast?,p.word≠dO:=by
 unfold bw;by_cases b:x=[]
 .have c:g≠[]:=λz=>h ⟨z,b⟩;intro p a;simp[c,b]at a;subst a;simp[Pt.word,jC,dO]
 .intro p a;simp[b]at a;subst a;simp[Pt.word,lH,dO]
def Cb{st:FS}(h:vO st)(p:Pt):vO (aH st p):=by
 cases p with
 |drop s=>exact h
 |put s=>exact h
 |keep k=>
  simp only[aH];split
  .rename_i b;split
   .exact⟨h.1,λz=>by simp;omega,h.2.2⟩
   .rename_i QY;refine⟨vQ h,λ_=>b,λp a=>?_⟩;rw[List.getLast?_append]at a;cases z:(bw st.2.1 st.2.2.1 st.2.2.2).getLast? with
    |none=>
     exfalso;rw[List.getLast?_eq_none_iff]at z;unfold bw at z;by_cases c:st.2.2.2=[]<;>by_cases d:st.2.2.1=[]<;>simp[c,d]at z QY
    |some q=>
     rw[z]at a;simp at a;subst a;exact vR QY q z
  .exact h
def iR(c:List Pt):m9 (aK c)=true:=by
 have:∀(c:List Pt) (a:FS),vO a->vO (c.foldl aH a):=λc=>by
  induction c with
  |nil=>exact λa h=>h
  |cons p c b=>exact λa h=>b _ (Cb h p)
 exact vQ (this c cz ⟨rfl,λz=>absurd rfl z,λp d=>by simp[cz]at d⟩)
abbrev Bl:=List Nat×List Nat
abbrev BS:=List Bl×Bl
noncomputable def eg(st:BS):Pt->BS
 |.drop s=>(st.1,(st.2.1++s,st.2.2))
 |.put s=>(st.1,(st.2.1,st.2.2++s))
 |.keep 0=>st
 |.keep (n+1)=>(st.1++st.2 :: List.replicate n ([],[]),([],[]))
noncomputable def oV:BS:=([],([],[]))
noncomputable def blocks(c:List Pt):BS:=c.foldl eg oV
noncomputable def kO(st:List Pt×Nat)(b:Bl):List Pt×Nat:=if b.1=[]/\b.2=[]then (st.1,st.2+1)else (st.1++bw st.2 b.1 b.2,1)
noncomputable def pk(bs:List Bl):List Pt×Nat:=bs.foldl kO ([],0)
def Ea(n:Nat):∀st:List Pt×Nat,(List.replicate n (([],[]):Bl)).foldl kO st=(st.1,st.2+n):=by
 induction n with
 |zero=>intro st;simp
 |succ n a=>intro st;simp[VR,kO,a];omega
noncomputable def yx(st:BS):FS:=((pk st.1).1,(pk st.1).2,st.2.1,st.2.2)
def Eb(st:BS)(p:Pt):aH (yx st) p=yx (eg st p):=by
 obtain⟨bs,g,x⟩:=st;cases p with
 |drop s=>rfl
 |put s=>rfl
 |keep n=>
  cases n with
  |zero=>rfl
  |succ n=>
   have e:pk (bs++(g,x) :: List.replicate n ([],[]))=((kO (pk bs) (g,x)).1,(kO (pk bs) (g,x)).2+n):=by
    simp only[pk,X8,XI,Ea]
   simp only[yx,eg,e,aH,Nat.succ_pos,Xq,kO];by_cases h:g=[]/\x=[]
   .simp[h];omega
   .simp[h];omega
def Ec(c:List Pt):∀st:BS,c.foldl aH (yx st)=yx (c.foldl eg st):=by
 induction c with
 |nil=>intro st;rfl
 |cons p c a=>intro st;simp only[XI,Eb,a]
def iX(c:List Pt):aK c=b5 (yx (blocks c)):=by
 unfold aK blocks;rw[<-Ec];rfl
noncomputable def Cc(st:List (List Nat)×List Nat):List Nat->List (List Nat)×List Nat
 |[]=>(st.1++[st.2],[])
 |c :: _=>(st.1,st.2++[c])
noncomputable def spT(st:List (List Nat)×List Nat):Tq->List (List Nat)×List Nat
 |.at _=>(st.1++[st.2],[])
 |.sg c=>(st.1,st.2++[c])
def Cd(s:List Nat):∀st,(s.map λc=>[c]).foldl Cc st=(st.1,st.2++s):=by
 induction s with
 |nil=>intro st;simp
 |cons c s a=>intro st;simp[Cc,a]
def Ed(n:Nat):∀st,(List.replicate n []).foldl Cc st=if n=0 then st else (st.1++st.2 :: List.replicate (n - 1) [],[]):=by
 induction n with
 |zero=>intro st;rfl
 |succ n a=>
  intro st;simp only[VR,XI,Cc,a];cases n with
  |zero=>simp
  |succ n=>simp[VR]
def Ce(s:List Nat):∀st,(s.map Tq.sg).foldl spT st=(st.1,st.2++s):=by
 induction s with
 |nil=>intro st;simp
 |cons c s a=>intro st;simp[spT,a]
def Ef(n:Nat):∀(k:Nat) st,((List.range n).map λj=>Tq.at (k+j)).foldl spT st=if n=0 then st else (st.1++st.2 :: List.replicate (n - 1) [],[]):=by
 induction n with
 |zero=>intro k st;rfl
 |succ n a=>
  intro k st;rw[Y3,Xz,X8,a];cases n with
  |zero=>simp[spT]
  |succ n=>
   simp[spT];rw[<-aag,VR]
def qs(c:List Pt):∀st:BS,(asks c).foldl Cc (st.1.map Prod.fst,st.2.1)=((c.foldl eg st).1.map Prod.fst,(c.foldl eg st).2.1):=by
 induction c with
 |nil=>intro st;rfl
 |cons p c a=>
  intro st;have e:asks (p :: c)=p.asks++asks c:=by simp[asks]
  rw[e,X8,XI,<-a]
  congr 1
  cases p with
  |drop s=>simp[Pt.asks,Cd,eg]
  |put s=>simp[Pt.asks,eg]
  |keep n=>
   simp only[Pt.asks,Ed];cases n with
   |zero=>rfl
   |succ n=>simp[eg]
def qt(c:List Pt):∀(k:Nat) (st:BS),(told k c).foldl spT (st.1.map Prod.snd,st.2.2)=((c.foldl eg st).1.map Prod.snd,(c.foldl eg st).2.2):=by
 induction c with
 |nil=>intro k st;rfl
 |cons p c a=>
  intro k st;rw[told,X8,XI,<-a (k+p.asks.length)]
  congr 1
  cases p with
  |put s=>simp[Pt.told,Ce,eg]
  |drop s=>simp[Pt.told,eg]
  |keep n=>
   simp only[Pt.told,Ef];cases n with
   |zero=>rfl
   |succ n=>simp[eg]
theorem yy{α β:Type}:∀{a b:List (α×β)},a.map Prod.fst=b.map Prod.fst->a.map Prod.snd=b.map Prod.snd->a=b
 |[],[],_,_=>rfl
 |[],_ :: _,h,_=>by simp at h
 |_ :: _,[],h,_=>by simp at h
 | (x,y) :: a,(x',y') :: b,h1,h2=>by
  simp at h1 h2;rw[h1.1,h2.1,yy h1.2 h2.2]
def ng{a b:List Pt}(h:lJ a=lJ b):blocks a=blocks b:=by
 have e:asks a=asks b:=Xp Prod.fst h;have f:told 0 a=told 0 b:=Xp Prod.snd h;have c:=qs a oV;have g:=qs b oV;have d:=qt a 0 oV;have i:=qt b 0 oV;rw[e,g]at c;rw[f,i]at d;have j:=Xp Prod.fst c;have k:=Xp Prod.snd c;have l:=Xp Prod.fst d;have o:=Xp Prod.snd d;unfold blocks;exact Prod.ext (yy j.symm l.symm) (Prod.ext k.symm o.symm)
def vS(a b:List Pt):aK a=aK b↔lJ a=lJ b:=by
 constructor
 .intro h;rw[<-lK a,<-lK b,h]
 .intro h;rw[iX,iX,ng h]
def jk(a:List Pt):aK (aK a)=aK a:=(vS _ _).mpr (lK a)
noncomputable def Pt.sw:Pt->Pt
 |.keep n=>.keep n
 |.put s=>.drop s
 |.drop s=>.put s
noncomputable def sw(c:List Pt):List Pt:=c.map Pt.sw
def Qf(c:List Pt):sw (sw c)=c:=by
 induction c with
 |nil=>rfl
 |cons p c a=>cases p<;>simp[sw,Pt.sw]at a ⊢<;>exact a
def sU(c:List Pt):∀st:BS,(sw c).foldl eg (st.1.map Prod.swap,st.2.swap)=((c.foldl eg st).1.map Prod.swap,(c.foldl eg st).2.swap):=by
 induction c with
 |nil=>intro st;rfl
 |cons p c a=>
  intro st;simp only[sw,M7,XI]at a ⊢;rw[<-a]
  congr 1
  cases p with
  |put s=>rfl
  |drop s=>rfl
  |keep n=>cases n<;>simp[Pt.sw,eg]
def yz{a b:List Pt}(h:aK a=aK b):aK (sw a)=aK (sw b):=by
 have c:=ng ((vS a b).mp h);rw[iX,iX];have d:=sU a oV;have f:=sU b oV;have e:blocks (sw a)=blocks (sw b):=by
  unfold blocks at c ⊢;have z:((oV.1.map Prod.swap,oV.2.swap):BS)=oV:=rfl;rw[z]at d f;rw[d,f,c]
 rw[e]
noncomputable def eX(c:List Pt):List Pt:=aK (sw c)
def MP(c:List Pt):bC (sw c)=ir c:=by
 induction c with
 |nil=>rfl
 |cons p c a=>cases p<;>simp only[sw,M7,Pt.sw,lN,nT,lO,Ab,Ac,Ad]at a ⊢<;>omega
noncomputable def bf:List Pt->List Nat->Bool
 |[],t=>t.isEmpty
 |.keep n :: c,t=>decide (n<=t.length)&&bf c (t.drop n)
 |.drop s :: c,t=>s.isPrefixOf t&&bf c (t.drop s.length)
 |.put _ :: c,t=>bf c t
noncomputable def aM:List Pt->List Nat->List Nat
 |[],_=>[]
 |.keep n :: c,t=>t.take n++aM c (t.drop n)
 |.drop s :: c,t=>aM c (t.drop s.length)
 |.put s :: c,t=>s++aM c t
noncomputable def bA:List (List Nat)->List Nat->Bool
 |[],[]=>true
 |x :: a,c :: t=>(decide (x=[]) ||decide (x=[c]))&&bA a t
 |_,_=>false
def Cf(n:Nat)(a:List (List Nat)):∀t,bA (List.replicate n []++a) t=(decide (n<=t.length)&&bA a (t.drop n)):=by
 induction n with
 |zero=>intro t;simp
 |succ n b=>
  intro t;cases t with
  |nil=>simp[VR,bA]
  |cons c t=>simp[VR,bA,b]
def Cg(s:List Nat)(a:List (List Nat)):∀t,bA ((s.map λc=>[c])++a) t=(s.isPrefixOf t&&bA a (t.drop s.length)):=by
 induction s with
 |nil=>intro t;simp
 |cons c s b=>
  intro t;cases t with
  |nil=>simp[bA]
  |cons d t=>
   simp only[M7,XM,bA,b,List.isPrefixOf,Xo,Ye];by_cases h:c=d<;>simp[h]
def gz(c:List Pt):∀t,bf c t=bA (asks c) t:=by
 induction c with
 |nil=>intro t;cases t<;>rfl
 |cons p c a=>
  intro t;have e:asks (p :: c)=p.asks++asks c:=by simp[asks]
  rw[e];cases p with
  |keep n=>simp[bf,Pt.asks,Cf,a]
  |drop s=>simp[bf,Pt.asks,Cg,a]
  |put s=>simp[bf,Pt.asks,a]
def lP(c:List Pt)(t:List Nat):bf (aK c) t=bf c t:=by rw[gz,gz,fZ]
noncomputable def pick(t:List Nat):Tq->List Nat
 |.at i=>(t[i]?).toList
 |.sg c=>[c]
def Ci(c:List Pt):∀(t:List Nat) (k:Nat),aM c (t.drop k)=(told k c).flatMap (pick t):=by
 induction c with
 |nil=>intro t k;rfl
 |cons p c a=>
  intro t k;rw[told,aap,<-a];cases p with
  |put s=>
   simp only[aM,Pt.told,Pt.asks,Yb,Nat.add_zero]
   congr 1
   induction s with
   |nil=>rfl
   |cons c s a=>simp[pick]at a ⊢;exact a
  |drop s=>simp[aM,Pt.told,Pt.asks,YO]
  |keep n=>
   simp only[aM,Pt.told,Pt.asks,Yl,YR]
   congr 1
   induction n generalizing k with
   |zero=>simp
   |succ n b=>
    rw[Y3,Xz,aap,<-b];rw[List.take_add_one];simp[pick]
def eZ(c:List Pt)(t:List Nat):aM (aK c) t=aM c t:=by
 have a:=Ci (aK c) t 0;have b:=Ci c t 0;rw[cP,<-b]at a;simpa using a
def vU(c:List Pt):∀t,bf c t=true->bf (sw c) (aM c t)=true/\aM (sw c) (aM c t)=t:=by
 induction c with
 |nil=>intro t h;simp[bf]at h;subst h;simp[sw,bf,aM]
 |cons p c d=>
  intro t h;cases p with
  |keep n=>
   simp only[bf,OS,XF]at h;obtain⟨a,b⟩:=d _ h.2;have g:(t.take n).length=n:=by simp;omega
   simp only[sw,M7,Pt.sw,aM,bf]at a b ⊢;have e:(t.take n++aM c (t.drop n)).drop n=aM c (t.drop n):=by rw[List.drop_append_of_le_length (by omega),Yw (by omega)];rfl
   have f:(t.take n++aM c (t.drop n)).take n=t.take n:=by rw[List.take_append_of_le_length (by omega),List.take_take,Nat.min_self]
   rw[e,f,a,b];simp;omega
  |drop s=>
   simp only[bf,OS]at h;obtain⟨a,b⟩:=d _ h.2;simp only[sw,M7,Pt.sw,aM,bf]at a b ⊢;rw[b];refine⟨a,?_⟩;obtain⟨r,rfl⟩:=List.isPrefixOf_iff_prefix.mp h.1;simp
  |put s=>
   simp only[bf]at h;obtain⟨a,b⟩:=d _ h;simp only[sw,M7,Pt.sw,aM,bf]at a b ⊢;simp[a,b]
noncomputable def Cj(dZ:Nat):Fn:=⟨2,4,(.cons (.set 2 (.c (.int 0))) (.cons (.for (.one 3) (.seq (.v 0)) (.cons (.iff (.an (.cmp .eq (.ix (.v 3) (.c (.int 0))) (.c (.str [100,114,111,112]))) (.cmp .ne (.sl (.v 1) (.yes (.v 2)) (.yes (.bin .add (.v 2) (.cl dZ (.cons (.v 3) .nil))))) (.ix (.v 3) (.c (.int 1))))) (.cons (.ret (.c (.bl false))) .nil) .nil) (.cons (.iff (.cmp .ne (.ix (.v 3) (.c (.int 0))) (.c (.str [112,117,116]))) (.cons (.set 2 (.bin .add (.v 2) (.cl dZ (.cons (.v 3) .nil)))) .nil) .nil) .nil))) (.cons (.ret (.cmp .eq (.v 2) (.bi .len (.cons (.v 1) .nil)))) .nil)))⟩
noncomputable def MQ(MR:Nat):Fn:=⟨2,6,(.cons (.iff (.nt (.cl MR (.cons (.v 0) (.cons (.v 1) .nil)))) (.cons (.dS 0) .nil) .nil) (.cons (.set 2 (.lst .nil)) (.cons (.set 3 (.c (.int 0))) (.cons (.for (.many [4,5]) (.seq (.v 0)) (.cons (.iff (.cmp .eq (.v 4) (.c (.str [112,117,116]))) (.cons (.exp (.me .append (.v 2) (.cons (.v 5) .nil))) .nil) (.cons (.iff (.cmp .eq (.v 4) (.c (.str [100,114,111,112]))) (.cons (.set 3 (.bin .add (.v 3) (.bi .len (.cons (.v 5) .nil)))) .nil) (.cons (.exp (.me .append (.v 2) (.cons (.sl (.v 1) (.yes (.v 3)) (.yes (.bin .add (.v 3) (.v 5)))) .nil))) (.cons (.set 3 (.bin .add (.v 3) (.v 5))) .nil))) .nil)) .nil)) (.cons (.ret (.me .join (.c (.str [])) (.cons (.v 2) .nil))) .nil)))))⟩
noncomputable def Eg(gA:Nat):Fn:=⟨1,3,(.cons (.ret (.cl gA (.cons (.gX (.comp (.tup (.cons (.eB [(.str [107,101,101,112],.str [107,101,101,112]),(.str [112,117,116],.str [100,114,111,112]),(.str [100,114,111,112],.str [112,117,116])] (.v 1)) (.cons (.v 2) .nil))) (.many [1,2]) (.seq (.v 0)) .no)) .nil))) .nil)⟩
noncomputable def j5(gA:Nat):Fn:=⟨1,1,(.cons (.ret (.cl gA (.cons (.tup (.cons (.tup (.cons (.c (.str [107,101,101,112])) (.cons (.v 0) .nil))) .nil)) .nil))) .nil)⟩
def Ck{α:Type}(l:List α)(p k:Nat):cut l (some (p:Int)) (some ((p:Int)+k))=(l.drop p).take k:=by
 have a:¬ (p:Int)<0:=by omega
 have b:¬ (p:Int)+k<0:=by omega
 have c:((p:Int)+k).toNat=p+k:=by omega
 simp only[cut,aR,a,b,XE,c,Zf];by_cases d:p<=l.length
 .rw[Zq d];by_cases e:p+k<=l.length
  .rw[Zq e];congr 1;omega
  .rw[Z0 (by omega),XQ (by simp),XQ (by simp;omega)]
 .have f:min p l.length=l.length:=by omega
  rw[f,Yw (VG _),Yw (by omega)];simp
def pre_take{s t:List Nat}:s.isPrefixOf t=decide (t.take s.length=s):=by
 cases h:s.isPrefixOf t with
 |true=>
  obtain⟨r,rfl⟩:=List.isPrefixOf_iff_prefix.mp h;simp
 |false=>
  symm
  rw[Z3];intro e;have:s.isPrefixOf t=true:=List.isPrefixOf_iff_prefix.mpr (by have z:=List.take_prefix s.length t;rw[e]at z;exact z);rw[h]at this;cases this
def yC(a b:List Pt):bC (a++b)=bC a+bC b:=by simp[bC,tot]
def nU{c:List Pt}:∀{t:List Nat},bf c t=true->t.length=bC c:=by
 induction c with
 |nil=>intro t h;simp[bf]at h;subst h;rfl
 |cons p c a=>
  intro t h;cases p with
  |keep n=>simp only[bf,OS,XF]at h;have:=a h.2;rw[lN];simp at this;omega
  |drop s=>
   simp only[bf,OS]at h;have b:=a h.2;obtain⟨r,rfl⟩:=List.isPrefixOf_iff_prefix.mp h.1;rw[nT];simp at b ⊢;omega
  |put s=>rw[lO];exact a h
def vV(c:List Pt):∀t,(aM c t).length<=t.length+tot c:=by
 induction c with
 |nil=>intro t;simp[aM]
 |cons p c a=>
  intro t;rw[bZ];cases p with
  |keep n=>have:=a (t.drop n);simp[aM,Pt.n]at this ⊢;omega
  |drop s=>have:=a (t.drop s.length);simp[aM,Pt.n]at this ⊢;omega
  |put s=>have:=a t;simp[aM,Pt.n]at this ⊢;omega
section
variable{F:List Fn}{w n aO nh bM aV i:Nat}
def Eh(c:List Pt)(t:List Nat)(q:Nat)(p:Pt)(l:List Pt)(h:bf c t=(decide (q<=t.length)&&bf (p :: l) (t.drop q))) :
  (dF p=true->(∃s,p=.drop s/\(if (t.drop q).take s.length=s then bf c t=(decide (q+s.length<=t.length)&&bf l (t.drop (q+s.length)))else bf c t=false)))/\
  (dF p=false->bf c t=(decide (q+bC [p]<=t.length)&&bf l (t.drop (q+bC [p])))):=by
 cases p with
 |drop s=>
  refine⟨λ_=>⟨s,rfl,?_⟩,λz=>by simp[dF]at z⟩;simp only[bf,pre_take,YR]at h;split
  .rename_i d;rw[h];simp only[d,decide_true,Bool.true_and];have f:=Xp List.length d;simp at f;by_cases b:q<=t.length
   .by_cases a:q+s.length<=t.length
    .simp[b,a]
    .omega
   .have:¬ q+s.length<=t.length:=by omega
    simp[b,this]
  .rename_i d;rw[h];simp[d]
 |keep k=>
  refine⟨λz=>by simp[dF]at z,λ_=>?_⟩;have e:bC [.keep k]=k:=by rw[lN];rfl
  rw[h,e];simp only[bf,YR,YG];by_cases b:q<=t.length
  .by_cases a:q+k<=t.length
   .have:k<=t.length - q:=by omega
    simp[b,a,this]
   .have:¬ k<=t.length - q:=by omega
    simp[a,this]
  .have:¬ q+k<=t.length:=by omega
   simp[b,this]
 |put s=>
  refine⟨λz=>by simp[dF]at z,λ_=>?_⟩;have e:bC [.put s]=0:=by rw[lO];rfl
  rw[h,e];simp[bf]
def Ei(hs:F[aO]?=some fF)(hf:F[i]?=some (Cj aO))(c:List Pt)(t:List Nat)(h1:tot c<=10000)(h2:t.length<=10000):run F w (n+2) i [.val (aC c),.val (.str t)]=some (.bl (bf c t),[]):=by
 refine bQ hf rfl ?_;refine ai (bF (by repeat array_get_dec) rfl rfl ?_);refine ai (j4 (vs:=c.map Pt.v) (dD (dz rfl) rfl) ?_);refine gm (e:=Pt.v) (λp l fr=>p++l=c/\bf c t=(decide (bC p<=t.length)&&bf l (t.drop (bC p)))/\∃a,vo a/\fr=[some (.val (aC c)),some (.val (.str t)),some (.val (.int (bC p))),a]) (λp x l fr ⟨d,f,a,q,o⟩=>?_) (λp fr ⟨d,f,a,q,o⟩=>?_) c [] _ ⟨rfl,by simp[bC,tot],none,.none,rfl⟩
 .subst o;have J:tot p+x.n+tot l=tot c:=by rw[<-d,fJ,bZ];omega
  have sz:=λfr=>bU (fr:=fr) (jS (w:=w) (n:=n) hs x (by omega));obtain⟨r,g⟩:=Eh c t (bC p) x l f;have C:(p++[x])++l=c:=by simpa using d
  have j:bC (p++[x])=bC p+bC [x]:=yC p [x];have A:((bC (p++[x]):Nat):Int)=(bC p:Int)+(bC [x]:Nat):=by rw[j];simp
  cases x with
  |drop s=>
   obtain⟨K,e,r⟩:=r rfl;cases e;have y:bC [.drop s]=s.length:=by rw[nT];rfl
   rw[y]at j A;have L:fB (.str t) (some (bC p:Int)) (some ((bC p:Int)+((Pt.drop s).n:Nat)))=some (.str ((t.drop (bC p)).take s.length)):=by rw[gk];exact Xp (λz=>some (V.str z)) (Ck t (bC p) s.length)
   by_cases B:(t.drop (bC p)).take s.length=s
   .rw[IC B]at r;have G:cop .ne (.str ((t.drop (bC p)).take s.length)) (.str s)=some false:=by rw[iI,XW B];rfl
    refine dX (bind1 rfl q) (ai (aG (b:=false) (jg (b2:=false) (aF rfl (by repeat array_get_dec) rfl) (aF rfl (by (repeat (first|array_get_dec|exact sz _))) rfl)) (zf ·) λ_=>av ?_));refine ai (aG (by repeat array_get_dec) (λ_=>?_) λh=>absurd h (by decide));refine ai (bF (by (repeat (first|array_get_dec|exact sz _))) rfl rfl (av (av ?_)));rw[eO];exact⟨C,by rw[j];exact r,some (.val (Pt.drop s).v),.val,by rw[A];rfl⟩
   .rw[T8 B]at r;have G:cop .ne (.str ((t.drop (bC p)).take s.length)) (.str s)=some true:=by rw[iI,Xr B];rfl
    refine dX (bind1 rfl q) (ai (aG (b:=true) (jg (b2:=true) (aF rfl (by repeat array_get_dec) rfl) (aF rfl (by (repeat (first|array_get_dec|exact sz _))) rfl)) (λ_=>?_) λh=>absurd h (by decide)));refine ai (bB (by repeat array_get_dec) ?_);show nx _ _ _ _ _ _;rw[r];exact⟨rfl,rfl⟩
  |keep k=>
   have g:=g rfl;have y:bC [.keep k]=k:=by rw[lN];rfl
   rw[y]at g j A;refine dX (bind1 rfl q) (ai (aG (b:=false) (vG (aF rfl (by repeat array_get_dec) rfl)) (zf ·) λ_=>av ?_));refine ai (aG (by repeat array_get_dec) (λ_=>?_) λh=>absurd h (by decide));refine ai (bF (by (repeat (first|array_get_dec|exact sz _))) rfl rfl (av (av ?_)));rw[eO];exact⟨C,by rw[j];exact g,some (.val (Pt.keep k).v),.val,by rw[A];rfl⟩
  |put s=>
   have g:=g rfl;have y:bC [.put s]=0:=by rw[lO];rfl
   rw[y]at g j;refine dX (bind1 rfl q) (ai (aG (b:=false) (vG (aF rfl (by repeat array_get_dec) rfl)) (zf ·) λ_=>av ?_));refine ai (aG (by repeat array_get_dec) (zf ·) λ_=>av (av ?_));rw[eO];exact⟨C,by rw[j];exact g,some (.val (Pt.put s).v),.val,by rw[j];rfl⟩
 .subst o;simp at d;subst d;have e:decide ((bC p:Int)=(t.length:Nat))=bf p t:=by
   rw[f];simp only[bf];by_cases H:bC p=t.length
   .have:(bC p:Int)=t.length:=by omega
    simp[this,H]
   .have:¬ (bC p:Int)=t.length:=by omega
    simp[this];intro h;omega
  have M:b7 .len [.str t]=some (.int (t.length:Nat)):=YK (by omega);have N:cop .eq (.int (bC p)) (.int (t.length:Nat))=some (bf p t):=by rw[MH,e]
  have I:gj [some (.val (aC p)),some (.val (.str t)),some (.val (.int (bC p))),a]=[some (.val (aC p)),some (.val (.str t)),some (.val (.int (bC p))),a]:=by
   show _ :: _ :: _ :: [a.map Sl.eU]=_;rw[dQ q];rfl
  refine ai (bB (v:=.bl (bf p t)) (af:=[some (.val (aC p)),some (.val (.str t)),some (.val (.int (bC p))),a]) ?_ ⟨rfl,rfl⟩);rw[I];repeat array_get_dec
def vW(hs:F[aO]?=some fF)(hf:F[nh]?=some (Cj aO))(hd:F[i]?=some (MQ nh))(c:List Pt)(t:List Nat)(h1:tot c<=10000)(h2:t.length<=10000)(h3:c.length<=10000)(h:bf c t=true):run F w (n+3) i [.val (aC c),.val (.str t)]=some (.str (aM c t),[]):=by
 refine bQ hd rfl ?_;have B:=λfr=>call2 (fr:=fr) (Ei (w:=w) (n:=n) hs hf c t h1 h2);rw[h]at B;refine ai (aG (b:=false) (jB (aF (b:=true) rfl (by (repeat (first|array_get_dec|exact B _))) rfl)) (zf ·) λ_=>av ?_);refine ai (iG (l:=[]) (by repeat array_get_dec) rfl rfl ?_);refine ai (bF (by repeat array_get_dec) rfl rfl ?_);refine ai (j4 (vs:=c.map Pt.v) (dD (dz rfl) rfl) ?_);refine gm (e:=Pt.v) (λp l fr=>p++l=c/\∃ps a b,vo a/\vo b/\ps.length<=p.length/\ps.flatten++aM l (t.drop (bC p))=aM c t/\fr=[some (.val (aC c)),some (.val (.str t)),some (.own (ps.map V.str)),some (.val (.int (bC p))),a,b]) (λp x l fr ⟨d,ps,a,b,j,o,H,hd,g⟩=>?_) (λp fr ⟨d,ps,a,b,j,o,H,hd,g⟩=>?_) c [] _ ⟨rfl,[],none,none,.none,.none,by simp,by simp[bC,tot],rfl⟩
 .subst g;have A:(p++[x])++l=c:=by simpa using d
  have f:bC (p++[x])=bC p+bC [x]:=yC p [x];have y:((bC (p++[x]):Nat):Int)=(bC p:Int)+(bC [x]:Nat):=by rw[f];simp
  have I:tot p+x.n+tot l=tot c:=by rw[<-d,fJ,bZ];omega
  have C:p.length+l.length+1=c.length:=by rw[<-d];simp;omega
  have G:∀(fr:Fr) (z:List Nat),ig .append 2 [.str z] fr (some (some (.own (ps.map V.str))))=.ok .bG (fr.set 2 (some (.own ((ps++[z]).map V.str)))):=λfr z=>by
   rw[Xz];exact nN (by simp;omega)
  cases x with
  |put s=>
   have q:bC [.put s]=0:=by rw[lO];rfl
   rw[q]at f;refine dX (nP rfl j rfl o) (ai (aG (by repeat array_get_dec) (λ_=>?_) λh=>absurd h (by decide)));refine ai (gG (by (repeat (first|array_get_dec|exact G _ _))) (av (av ?_)));rw[eO];exact⟨A,ps++[s],some (.val (.str lH)),some (.val (.str s)),.val,.val,by simp;omega,by rw[f];simpa[aM]using hd,by rw[f];rfl⟩
  |drop s=>
   have q:bC [.drop s]=s.length:=by rw[nT];rfl
   rw[q]at f y;have VO:s.length<=tot c:=by simp only[Pt.n]at I;omega
   have L:b7 .len [.str s]=some (.int (s.length:Nat)):=YK (by omega);refine dX (nP rfl j rfl o) (ai (aG (by repeat array_get_dec) (zf ·) λ_=>?_));refine ai (aG (by repeat array_get_dec) (λ_=>?_) λh=>absurd h (by decide));refine ai (bF (by repeat array_get_dec) rfl rfl (av (av (av ?_))));rw[eO];exact⟨A,ps,some (.val (.str jC)),some (.val (.str s)),.val,.val,by simp;omega,by rw[f];simpa[aM]using hd,by rw[y];rfl⟩
  |keep k=>
   have q:bC [.keep k]=k:=by rw[lN];rfl
   rw[q]at f y;have M:fB (.str t) (some (bC p:Int)) (some ((bC p:Int)+(k:Nat)))=some (.str ((t.drop (bC p)).take k)):=by rw[gk,Ck]
   refine dX (nP rfl j rfl o) (ai (aG (by repeat array_get_dec) (zf ·) λ_=>?_));refine ai (aG (by repeat array_get_dec) (zf ·) λ_=>?_);refine ai (gG (by (repeat (first|array_get_dec|exact G _ _))) ?_);refine ai (bF (by repeat array_get_dec) rfl rfl (av (av (av ?_))));rw[eO];exact⟨A,ps++[(t.drop (bC p)).take k],some (.val (.str dO)),some (.val (.int k)),.val,.val,by simp;omega,by rw[f];simpa[aM]using hd,by rw[y];rfl⟩
 .subst g;simp at d;subst d;have r:ps.flatten=aM p t:=by simpa[aM]using hd
  have N:=vV p t;have J:=zP (l:=ps) (by rw[r];omega);rw[r]at J;have K:gj [some (.val (aC p)),some (.val (.str t)),some (.own (ps.map V.str)),some (.val (.int (bC p))),a,b]=[some (.val (aC p)),some (.val (.str t)),some (.val (.lst (ps.map V.str))),some (.val (.int (bC p))),a,b]:=by
   show _ :: _ :: _ :: _ :: a.map Sl.eU :: [b.map Sl.eU]=_;rw[dQ j,dQ o];rfl
  refine ai (bB (v:=.str (aM p t)) (af:=[some (.val (aC p)),some (.val (.str t)),some (.val (.lst (ps.map V.str))),some (.val (.int (bC p))),a,b]) ?_ ⟨rfl,rfl⟩);rw[K];repeat array_get_dec
def MS(c:List Pt):tot (sw c)=tot c:=by
 induction c with
 |nil=>rfl
 |cons p c a=>simp only[sw,M7,bZ]at a ⊢;rw[a];cases p<;>rfl
def Ae(hst:F[aV]?=some eF)(hf:F[bM]?=some (jj aV))(hu:F[i]?=some (Eg bM))(c:List Pt)(h1:c.length<=10000)(h2:tot c<=10000):run F w (n+3) i [.val (aC c)]=some (aC (eX c),[]):=by
 have a:(c.map λp=>p.sw.v).length<=big:=by rw[XA];exact Xm h1 (by decide)
 have b:=λfr=>bU (fr:=fr) (ee (w:=w) (n:=n) hst hf (sw c) (by rw[sw,XA];exact h1) (by rw[MS];exact h2));rw[show aC (sw c)=.tup (c.map λp=>p.sw.v)by simp only[aC,sw,XH];rfl]at b;exact bQ hu rfl (ai (bB (bI (bu rfl (ql (fE (dD (dz rfl) rfl) rfl (dj _ (λp=>p.sw.v) c λp _=>by
  cases p<;>exact dY rfl (fu (ay (fW (az rfl) rfl) (ay (az rfl) aN)) jz)) (cE a)) (jR a)) aU) (b _)) ⟨rfl,rfl⟩))
def wQ(hst:F[aV]?=some eF)(hf:F[bM]?=some (jj aV))(hu:F[i]?=some (j5 bM))(m:Nat)(h:m<=10000):run F w (n+3) i [.val (.int m)]=some (aC (aK [.keep m]),[]):=
 bQ hu rfl (ai (bB (bI (bu rfl (fu (ay (fu (ay (aQ rfl) (ay (az rfl) aN)) jz) aN) qh) aU) (bU (ee hst hf [.keep m] (Nat.succ_le_of_lt (Nat.zero_lt_succ _)) h))) ⟨rfl,rfl⟩))
end
end Pv
namespace Pv
open Ev (rep)
def Cm(ns:List Int)(at_:Int)(s:List Nat)(k:Nat):tot (eS ns at_ s k)<=3:=by
 have d:=fD ns (at_+4*k+2) (many:=2) (by decide);have e:=fC ns (at_+4*k+2) (many:=2) (by decide);unfold eS;rw[fJ];have a:tot (if b9 ns (at_+4*k) 4=0 then [Pt.put (rep (1+b9 ns (at_+4*k+2) 2).toNat [[97,98,122].getD (b9 ns (at_+4*k+1) 3).toNat 0])]else [])<=2:=by
  split
  .simp[tot,Pt.n,rep];omega
  .simp[tot]
 cases s[k]? with
 |none=>simp[tot]at a ⊢;omega
 |some c=>
  have b:tot [if 0<b9 ns (at_+4*k+3) 3 then Pt.keep 1 else Pt.drop [c]]<=1:=by split<;>simp[tot,Pt.n]
  simp only at b ⊢;omega
theorem sV(ns:List Int)(at_:Int)(s:List Nat):∀k,tot (di ns at_ s k)<=3*k
 |0=>by simp[di,tot]
 |k+1=>by
  have a:=Cm ns at_ s k;have b:=sV ns at_ s k;rw[iJ,fJ];omega
theorem pJ:∀{a b:List (List Nat)}{t u:List Nat},bA a t=true->bA b u=true->bA (a++b) (t++u)=true
 |[],_,[],_,_,hb=>hb
 |x :: a,b,c :: t,u,ha,hb=>by
  simp only[bA,OS]at ha;simp only[XM,bA,OS];exact⟨ha.1,pJ ha.2 hb⟩
 |[],_,_ :: _,_,ha,_=>by simp[bA]at ha
 |_ :: _,_,[],_,ha,_=>by simp[bA]at ha
def Ir(ns:List Int)(at_:Int)(s:List Nat)(k:Nat):bA (asks (eS ns at_ s k)) (s[k]?).toList=true:=by
 unfold eS;rw[ef];have a:asks (if b9 ns (at_+4*k) 4=0 then [Pt.put (rep (1+b9 ns (at_+4*k+2) 2).toNat [[97,98,122].getD (b9 ns (at_+4*k+1) 3).toNat 0])]else [])=[]:=by
  split<;>simp[asks,Pt.asks]
 rw[a];cases s[k]? with
 |none=>simp[asks,bA]
 |some c=>simp only;split<;>simp[asks,Pt.asks,bA]
theorem Cn(ns:List Int)(at_:Int)(s:List Nat):∀k,bA (asks (di ns at_ s k)) (s.take k)=true
 |0=>by simp[di,asks,bA]
 |k+1=>by
  rw[iJ,ef,List.take_add_one];exact pJ (Cn ns at_ s k) (Ir ns at_ s k)
def Iu(ns:List Int)(at_:Int)(s:List Nat):bf (chg ns at_ s) s=true:=by
 have:=Cn ns at_ s (s.length+1);rw[XQ (by omega)]at this;rw[gz];exact this
end Pv
namespace Pv
inductive At where
 |k|d (c:Nat)|p (c:Nat)
noncomputable def Pt.aW:Pt->List At
 |.keep n=>List.replicate n .k
 |.drop s=>s.map .d
 |.put s=>s.map .p
noncomputable def aW(c:List Pt):List At:=c.flatMap Pt.aW
def jG(a b:List Pt):aW (a++b)=aW a++aW b:=by simp[aW]
def cR(p:Pt)(c:List Pt):aW (p :: c)=p.aW++aW c:=by simp[aW]
def vX(p:Pt):p.aW.length=p.n:=by cases p<;>simp[Pt.aW,Pt.n]
def jH(c:List Pt):(aW c).length=tot c:=by
 induction c with
 |nil=>rfl
 |cons p c a=>rw[cR,T7,vX,a,bZ]
noncomputable def tA:Nat->List At->List Tq
 |_,[]=>[]
 |i,.k :: a=>.at i :: tA (i+1) a
 |i,.d _ :: a=>tA (i+1) a
 |i,.p c :: a=>.sg c :: tA i a
noncomputable def aA:List At->List (List Nat)
 |[]=>[]
 |.k :: a=>[] :: aA a
 |.d c :: a=>[c] :: aA a
 |.p _ :: a=>aA a
noncomputable def dA:List At->List Nat->List Nat
 |[],_=>[]
 |.k :: a,t=>t.take 1++dA a (t.drop 1)
 |.d _ :: a,t=>dA a (t.drop 1)
 |.p c :: a,t=>c :: dA a t
noncomputable def oW:At->At
 |.k=>.k
 |.d c=>.p c
 |.p c=>.d c
noncomputable def cA:List At->Nat
 |[]=>0
 |.k :: a=>cA a
 |_ :: a=>cA a+1
theorem qu:∀a b:List At,aA (a++b)=aA a++aA b
 |[],_=>rfl
 |.k :: a,b=>by simp[aA,qu a b]
 |.d c :: a,b=>by simp[aA,qu a b]
 |.p c :: a,b=>by simp[aA,qu a b]
theorem qv:∀(a b:List At) (i:Nat),tA i (a++b)=tA i a++tA (i+(aA a).length) b
 |[],_,_=>rfl
 |.k :: a,b,i=>by simp[tA,aA,qv a b,YY,YO 1]
 |.d c :: a,b,i=>by simp[tA,aA,qv a b,YY,YO 1]
 |.p c :: a,b,i=>by simp[tA,aA,qv a b]
theorem qw:∀a b:List At,cA (a++b)=cA a+cA b
 |[],b=>by simp[cA]
 |.k :: a,b=>by simp[cA,qw a b]
 |.d c :: a,b=>by simp[cA,qw a b];omega
 |.p c :: a,b=>by simp[cA,qw a b];omega
def FO(p:Pt):aA p.aW=p.asks:=by
 cases p with
 |keep n=>simp only[Pt.aW,Pt.asks];induction n<;>simp_all [VR,aA]
 |drop s=>simp only[Pt.aW,Pt.asks];induction s<;>simp_all [aA]
 |put s=>simp only[Pt.aW,Pt.asks];induction s<;>simp_all [aA]
def Qg(p:Pt):∀i,tA i p.aW=p.told i:=by
 cases p with
 |keep n=>
  simp only[Pt.aW,Pt.told];induction n with
  |zero=>intro i;rfl
  |succ n a=>intro i;simp only[VR,tA,a,Zk,M7,XH];simp[Function.comp_def,YY,YO 1]
 |drop s=>intro i;simp only[Pt.aW,Pt.told];induction s generalizing i<;>simp_all [tA]
 |put s=>intro i;simp only[Pt.aW,Pt.told];induction s generalizing i<;>simp_all [tA]
def Qh(p:Pt):cA p.aW=cst [p]:=by
 cases p with
 |keep n=>simp only[Pt.aW];rw[FE];induction n<;>simp_all [VR,cA,cst,tot]
 |drop s=>simp only[Pt.aW];rw[FF];induction s<;>simp_all [cA,cst,tot]
 |put s=>simp only[Pt.aW];rw[FG];induction s<;>simp_all [cA,cst,tot]
def gS(c:List Pt):asks c=aA (aW c):=by
 induction c with
 |nil=>rfl
 |cons p c a=>rw[cR,qu,FO,<-a];simp[asks]
def gT(c:List Pt):∀i,told i c=tA i (aW c):=by
 induction c with
 |nil=>intro i;rfl
 |cons p c a=>intro i;rw[cR,qv,Qg,FO,<-a,told]
def rH(c:List Pt):cst c=cA (aW c):=by
 induction c with
 |nil=>rfl
 |cons p c a=>
  rw[cR,qw,Qh,<-a];simp[cst,tot];cases p<;>simp[YW,fG]
def vY(c:List Pt):aW (sw c)=(aW c).map oW:=by
 induction c with
 |nil=>rfl
 |cons p c a=>
  have:aW (sw (p :: c))=p.sw.aW++aW (sw c):=by simp[aW,sw]
  rw[this,a,cR,Xz]
  congr 1
  cases p<;>simp[Pt.sw,Pt.aW,oW,Function.comp_def]
def gc:∀(c:List Pt) (t:List Nat),aM c t=dA (aW c) t:=by
 have k:∀(n:Nat) (a:List At) (t:List Nat),dA (List.replicate n .k++a) t=t.take n++dA a (t.drop n):=λn=>by
  induction n with
  |zero=>intro a t;simp
  |succ n b=>
   intro a t;simp only[VR,XM,dA,b,YR];cases t with
   |nil=>simp
   |cons c t=>simp[YO 1]
 have d:∀(s:List Nat) (a:List At) (t:List Nat),dA (s.map .d++a) t=dA a (t.drop s.length):=λs=>by
  induction s with
  |nil=>intro a t;simp
  |cons c s b=>intro a t;simp[dA,b,YO 1]
 have p:∀(s:List Nat) (a:List At) (t:List Nat),dA (s.map .p++a) t=s++dA a t:=λs=>by
  induction s with
  |nil=>intro a t;simp
  |cons c s b=>intro a t;simp[dA,b]
 intro c;induction c with
 |nil=>intro t;rfl
 |cons q c b=>
  intro t;rw[cR];cases q with
  |keep n=>simp only[Pt.aW,k,aM,b]
  |drop s=>simp only[Pt.aW,d,aM,b]
  |put s=>simp only[Pt.aW,p,aM,b]
noncomputable def Co:List At->Bool
 |.d _ :: _=>false
 |_=>true
inductive Th:List At->List At->List At->Prop
 |nil:Th [] [] []
 |d {a b r c}:Th a b r->Th (.d c :: a) b (.d c :: r)
 |p {a b r c}:Co a=true->Th a b r->Th a (.p c :: b) (.p c :: r)
 |kk {a b r}:Th a b r->Th (.k :: a) (.k :: b) (.k :: r)
 |kd {a b r c}:Th a b r->Th (.k :: a) (.d c :: b) (.d c :: r)
 |pk {a b r c}:Th a b r->Th (.p c :: a) (.k :: b) (.p c :: r)
 |pd {a b r c}:Th a b r->Th (.p c :: a) (.d c :: b) r
noncomputable def sub(L:List Tq):Tq->Tq
 |.at j=>L.getD j (.sg 0)
 |.sg c=>.sg c
def qx{L M:List Tq}{q:Tq}{j:Nat}(h:L.length=j):sub (L++q :: M) (.at j)=q:=by
 subst h;simp[sub]
def Th.told{a b r:List At}(h:Th a b r):∀(i j:Nat) (L:List Tq),L.length=j->tA i r=(tA j b).map (sub (L++tA i a)):=by
 induction h with
 |nil=>intro i j L e;rfl
 |d h f=>intro i j L e;exact f (i+1) j L e
 |p _ h f=>intro i j L e;simp only[tA,M7];rw[f i j L e];rfl
 |kk h f=>
  intro i j L e;simp only[tA,M7];rw[f (i+1) (j+1) (L++[.at i]) (by simp[e]),qx e];simp
 |kd h f=>
  intro i j L e;simp only[tA];rw[f (i+1) (j+1) (L++[.at i]) (by simp[e])];simp
 |@pk _ _ _ c h f=>
  intro i j L e;simp only[tA,M7];rw[f i (j+1) (L++[.sg c]) (by simp[e]),qx e];simp
 |@pd _ _ _ c h f=>
  intro i j L e;simp only[tA];rw[f i (j+1) (L++[.sg c]) (by simp[e])];simp
def Th.back{a b r:List At}(h:Th a b r):∀(i j:Nat) (L:List Tq),L.length=j->tA i (r.map oW)=(tA j (a.map oW)).map (sub (L++tA i (b.map oW))):=by
 induction h with
 |nil=>intro i j L e;rfl
 |d h f=>intro i j L e;simp only[M7,oW,tA];rw[f i j L e];rfl
 |p _ h f=>intro i j L e;exact f (i+1) j L e
 |kk h f=>
  intro i j L e;simp only[M7,oW,tA];rw[f (i+1) (j+1) (L++[.at i]) (by simp[e]),qx e];simp
 |@kd _ _ _ c h f=>
  intro i j L e;simp only[M7,oW,tA];rw[f i (j+1) (L++[.sg c]) (by simp[e]),qx e];simp
 |pk h f=>
  intro i j L e;simp only[M7,oW,tA];rw[f (i+1) (j+1) (L++[.at i]) (by simp[e])];simp
 |@pd _ _ _ c h f=>
  intro i j L e;simp only[M7,oW,tA];rw[f i (j+1) (L++[.sg c]) (by simp[e])];simp
def Th.fit{a b r:List At}(h:Th a b r):∀t,bA (aA a) t=true->bA (aA b) (dA a t)=true->bA (aA r) t=true:=by
 induction h with
 |nil=>intro t c _;exact c
 |d h f=>
  intro t c e;cases t with
  |nil=>simp[aA,bA]at c
  |cons x t=>simp only[aA,bA,OS]at c ⊢;exact⟨c.1,f t c.2 e⟩
 |p _ h f=>intro t c e;exact f t c e
 |kk h f=>
  intro t c e;cases t with
  |nil=>simp[aA,bA]at c
  |cons x t=>simp only[aA,bA,OS,dA,Yd,List.take_zero,Ye,X6,YS]at c e ⊢;exact⟨c.1,f t c.2 e.2⟩
 |kd h f=>
  intro t c e;cases t with
  |nil=>simp[aA,bA]at c
  |cons x t=>simp only[aA,bA,OS,dA,Yd,List.take_zero,Ye,X6,YS]at c e ⊢;exact⟨e.1,f t c.2 e.2⟩
 |pk h f=>intro t c e;simp only[aA,dA,bA,OS]at c e ⊢;exact f t c e.2
 |pd h f=>intro t c e;simp only[aA,dA,bA,OS]at c e ⊢;exact f t c e.2
def Th.all:∀(n:Nat) (a b:List At) (t:List Nat),a.length+b.length<=n->bA (aA a) t=true->bA (aA b) (dA a t)=true->∃r,Th a b r:=by
 intro n;induction n with
 |zero=>
  intro a b t g _ _;obtain rfl:a=[]:=List.length_eq_zero_iff.mp (by omega);obtain rfl:b=[]:=List.length_eq_zero_iff.mp (by omega);exact⟨[],.nil⟩
 |succ n i=>
  intro a b t g f e;cases a with
  |nil=>
   cases b with
   |nil=>exact⟨[],.nil⟩
   |cons y b=>
    cases y with
    |p c=>obtain⟨r,h⟩:=i [] b t (by simp at g ⊢;omega) f e;exact⟨_,.p rfl h⟩
    |k=>simp[aA,dA,bA]at e
    |d c=>simp[aA,dA,bA]at e
  |cons x a=>
   by_cases j:Co (x :: a)=true
   .cases b with
    |nil=>
     cases x with
     |d c=>cases j
     |k=>cases t<;>simp[aA,dA,bA]at f e
     |p c=>simp[aA,dA,bA]at e
    |cons y b=>
     cases y with
     |p c=>obtain⟨r,h⟩:=i (x :: a) b t (by simp at g ⊢;omega) f e;exact⟨_,.p j h⟩
     |k=>
      cases x with
      |d c=>cases j
      |k=>
       cases t with
       |nil=>simp[aA,bA]at f
       |cons z t=>
        simp[aA,bA,dA]at f e;obtain⟨r,h⟩:=i a b t (by simp at g ⊢;omega) f e;exact⟨_,.kk h⟩
      |p c=>
       simp[aA,bA,dA]at f e;obtain⟨r,h⟩:=i a b t (by simp at g ⊢;omega) f e;exact⟨_,.pk h⟩
     |d l=>
      cases x with
      |d c=>cases j
      |k=>
       cases t with
       |nil=>simp[aA,bA]at f
       |cons z t=>
        simp[aA,bA,dA]at f e;obtain⟨r,h⟩:=i a b t (by simp at g ⊢;omega) f e.2;exact⟨_,.kd h⟩
      |p c=>
       simp[aA,bA,dA]at f e;obtain⟨rfl,e⟩:=e;obtain⟨r,h⟩:=i a b t (by simp at g ⊢;omega) f e;exact⟨_,.pd h⟩
   .cases x with
    |k=>exact absurd rfl j
    |p c=>exact absurd rfl j
    |d c=>
     cases t with
     |nil=>simp[aA,bA]at f
     |cons z t=>
      simp[aA,bA]at f;obtain⟨r,h⟩:=i a b t (by simp at g ⊢;omega) f.2 e;exact⟨_,.d h⟩
def Th.done{a b r:List At}(h:Th a b r):∀t,bA (aA a) t=true->dA r t=dA b (dA a t):=by
 induction h with
 |nil=>intro t _;rfl
 |d h e=>
  intro t c;cases t with
  |nil=>simp[aA,bA]at c
  |cons x t=>simp only[aA,bA,OS]at c;simp only[dA];exact e t c.2
 |p _ h e=>intro t c;simp only[dA];rw[e t c]
 |kk h e=>
  intro t c;cases t with
  |nil=>simp[aA,bA]at c
  |cons x t=>simp only[aA,bA,OS]at c;simp[dA,e t c.2]
 |kd h e=>
  intro t c;cases t with
  |nil=>simp[aA,bA]at c
  |cons x t=>simp only[aA,bA,OS]at c;simp[dA,e t c.2]
 |pk h e=>intro t c;simp[dA,e t c]
 |pd h e=>intro t c;simp[dA,e t c]
def Th.cost{a b r:List At}(h:Th a b r):cA r<=cA a+cA b:=by induction h<;>simp[cA]<;>omega
def Th.len{a b r:List At}(h:Th a b r):r.length<=a.length+b.length:=by induction h<;>simp<;>omega
theorem Th.ds{b r:List At}:∀{s:List Nat}{a:List At},Th (s.map .d++a) b r->∃r',r=s.map .d++r'/\Th a b r'
 |[],a,h=>⟨r,rfl,h⟩
 |c :: s,a,h=>by
  cases h with
  |d h=>obtain⟨r',rfl,e⟩:=Th.ds h;exact⟨r',rfl,e⟩
  |p f h=>cases f
theorem Th.ps{a r:List At}(hn:Co a=true):∀{s:List Nat}{b:List At},Th a (s.map .p++b) r->∃r',r=s.map .p++r'/\Th a b r'
 |[],b,h=>⟨r,rfl,h⟩
 |c :: s,b,h=>by
  cases h with
  |d h=>cases hn
  |p _ h=>obtain⟨r',rfl,e⟩:=Th.ps hn h;exact⟨r',rfl,e⟩
def Th.Vb{a b r:List At}:∀{n:Nat},Th (List.replicate n .k++a) (List.replicate n .k++b) r->∃r',r=List.replicate n .k++r'/\Th a b r':=λ{n}=>by
 induction n generalizing r with
 |zero=>intro h;exact⟨r,rfl,h⟩
 |succ n c=>intro h;cases h with|kk h=>obtain⟨r',rfl,d⟩:=c h;exact⟨r',rfl,d⟩
def Th.Vc{a b r:List At}:∀{s:List Nat},Th (List.replicate s.length .k++a) (s.map .d++b) r->∃r',r=s.map .d++r'/\Th a b r':=λ{s}=>by
 induction s generalizing r with
 |nil=>intro h;exact⟨r,rfl,h⟩
 |cons c s e=>intro h;cases h with|kd h=>obtain⟨r',rfl,f⟩:=e h;exact⟨r',rfl,f⟩
def Th.Vd{a b r:List At}:∀{s:List Nat},Th (s.map .p++a) (List.replicate s.length .k++b) r->∃r',r=s.map .p++r'/\Th a b r':=λ{s}=>by
 induction s generalizing r with
 |nil=>intro h;exact⟨r,rfl,h⟩
 |cons c s d=>intro h;cases h with|pk h=>obtain⟨r',rfl,e⟩:=d h;exact⟨r',rfl,e⟩
theorem Th.QZ{a b r:List At}:∀{s s':List Nat},s.length=s'.length->Th (s.map .p++a) (s'.map .d++b) r->s=s'/\Th a b r
 |[],[],_,h=>⟨rfl,h⟩
 |[],_ :: _,hl,_=>by simp at hl
 |_ :: _,[],hl,_=>by simp at hl
 |c :: s,c' :: s',hl,h=>by cases h with|pd h=>obtain⟨rfl,e⟩:=Th.QZ (by simpa using hl) h;exact⟨rfl,e⟩
theorem j6:∀(a:List At) (i q:Nat),Tq.at q∈tA i a↔∃j,q=i+j/\(aA a)[j]?=some []
 |[],i,q=>by simp[tA,aA]
 |.k :: a,i,q=>by
  simp only[tA,Zl,j6 a,aA];constructor
  .rintro(h|⟨j,rfl,h⟩)
   .cases h;exact⟨0,rfl,by simp⟩
   .exact⟨j+1,by omega,by simpa using h⟩
  .rintro⟨j,rfl,h⟩;cases j with
   |zero=>exact .inl rfl
   |succ j=>exact .inr ⟨j,by omega,by simpa using h⟩
 |.d c :: a,i,q=>by
  simp only[tA,j6 a,aA];constructor
  .rintro⟨j,rfl,h⟩;exact⟨j+1,by omega,by simpa using h⟩
  .rintro⟨j,rfl,h⟩;cases j with
   |zero=>simp at h
   |succ j=>exact⟨j,by omega,by simpa using h⟩
 |.p c :: a,i,q=>by simp[tA,j6 a,aA]
def sub_sub(L M:List Tq)(q:Tq):sub M (sub L q)=sub (L.map (sub M)) q:=by
 cases q with
 |sg c=>rfl
 |«at» j=>
  simp only[sub,List.getD_eq_getElem?_getD,XO];cases L[j]?<;>rfl
def Ej(L M T:List Tq):(T.map (sub L)).map (sub M)=T.map (sub (L.map (sub M))):=by
 rw[XH];exact Yp λq _=>sub_sub L M q
def Ek{a:List At}{M:List Tq}(h:∀j:Nat,(aA a)[j]?=some []->M[j]?=some (Tq.at j)):(tA 0 a).map (sub M)=tA 0 a:=by
 refine(Yp λq b=>?_).trans (aaw _);cases q with
 |sg c=>rfl
 |«at» j=>
  obtain⟨i,d,e⟩:=(j6 a 0 j).mp b;obtain rfl:i=j:=by omega
  simp[sub,h i e]
def Iv(L:List Tq):((List.range L.length).map Tq.at).map (sub L)=L:=by
 apply ZM;intro i;by_cases h:i<L.length
 .simp[sub,h]
 .rw[XX (by simp;omega),XX (by omega)]
def vZ{c:List Pt}{t:List Nat}(h:bf c t=true):(aM c t).length=ir c:=by
 rw[nU (vU c t h).1,MP]
end Pv
namespace Pv
open Ev (D bO bz TY BI ME T E Es Eo It S Ss Fn big deep b2i rep cB dR bL aR cut aY bJ slots)
noncomputable def v5(dZ:Nat)(Af:Nat)(nV:Nat):Ss:=(.cons (.iff (.an (.v 2) (.cmp .eq (.ix (.ix (.v 2) (.neg (.c (.int 1)))) (.c (.int 0))) (.c (.str [100,114,111,112])))) (.cons (.exp (.me .append (.v 4) (.cons (.me .pop (.v 2) .nil) .nil))) .nil) (.cons (.iff (.an (.v 3) (.cmp .eq (.ix (.ix (.v 3) (.neg (.c (.int 1)))) (.c (.int 0))) (.c (.str [112,117,116])))) (.cons (.exp (.me .append (.v 4) (.cons (.me .pop (.v 3) .nil) .nil))) .nil) (.cons (.set 5 (.bi .min (.cons (.cl dZ (.cons (.ix (.v 2) (.neg (.c (.int 1)))) .nil)) (.cons (.cl dZ (.cons (.ix (.v 3) (.neg (.c (.int 1)))) .nil)) .nil)))) (.cons (.exp (.me .extend (.v 4) (.cons (.cl Af (.cons (.cl nV (.cons (.v 2) (.cons (.v 5) .nil))) (.cons (.cl nV (.cons (.v 3) (.cons (.v 5) .nil))) .nil))) .nil))) .nil))) .nil)) .nil)
noncomputable def kP(Iw:Nat)(El:Nat)(gA:Nat)(dZ:Nat)(Af:Nat)(nV:Nat):Fn:=⟨2,6,(.cons (.iff (.cmp .ne (.cl Iw (.cons (.v 0) .nil)) (.cl El (.cons (.v 1) .nil))) (.cons (.dS 0) .nil) .nil) (.cons (.set 2 (.eG (.rev (.cl gA (.cons (.v 0) .nil))))) (.cons (.set 3 (.eG (.rev (.cl gA (.cons (.v 1) .nil))))) (.cons (.set 4 (.lst .nil)) (.cons (.oB (.orr (.v 2) (.v 3)) (v5 dZ Af nV)) (.cons (.ret (.cl gA (.cons (.gX (.v 4)) .nil))) .nil))))))⟩
noncomputable def jD(Cp:Nat)(MT:Nat):Fn:=⟨2,4,(.cons (.set 2 (.cl Cp (.cons (.v 0) .nil))) (.cons (.for (.one 3) (.seq (.v 1)) (.cons (.set 2 (.cl MT (.cons (.v 2) (.cons (.v 3) .nil)))) .nil)) (.cons (.ret (.v 2)) .nil)))⟩
noncomputable def t9:Fn:=⟨2,2,(.cons (.iff (.cmp .eq (.ix (.v 1) (.c (.int 0))) (.c (.str [107,101,101,112]))) (.cons (.ret (.lst (.cons (.v 0) .nil))) .nil) .nil) (.cons (.iff (.cmp .eq (.ix (.v 0) (.c (.int 0))) (.c (.str [107,101,101,112]))) (.cons (.ret (.lst (.cons (.v 1) .nil))) .nil) .nil) (.cons (.iff (.cmp .ne (.ix (.v 0) (.c (.int 1))) (.ix (.v 1) (.c (.int 1)))) (.cons (.dS 0) .nil) .nil) (.cons (.ret (.lst .nil)) .nil))))⟩
noncomputable def kQ(Em:Nat)(dZ:Nat):Fn:=⟨2,3,(.cons (.set 2 (.cl Em (.cons (.me .pop (.v 0) .nil) (.cons (.v 1) .nil)))) (.cons (.iff (.cmp .gt (.cl dZ (.cons (.ix (.v 2) (.c (.int 1))) .nil)) (.c (.int 0))) (.cons (.exp (.me .append (.v 0) (.cons (.ix (.v 2) (.c (.int 1))) .nil))) .nil) .nil) (.cons (.ret (.ix (.v 2) (.c (.int 0)))) .nil)))⟩
noncomputable def iS:Fn:=⟨2,3,(.cons (.set 2 (.ix (.v 0) (.c (.int 0)))) (.cons (.iff (.cmp .eq (.v 2) (.c (.str [107,101,101,112]))) (.cons (.ret (.tup (.cons (.tup (.cons (.v 2) (.cons (.v 1) .nil))) (.cons (.tup (.cons (.v 2) (.cons (.bin .sub (.ix (.v 0) (.c (.int 1))) (.v 1)) .nil))) .nil)))) .nil) .nil) (.cons (.ret (.tup (.cons (.tup (.cons (.v 2) (.cons (.sl (.ix (.v 0) (.c (.int 1))) .no (.yes (.v 1))) .nil))) (.cons (.tup (.cons (.v 2) (.cons (.sl (.ix (.v 0) (.c (.int 1))) (.yes (.v 1)) .no) .nil))) .nil)))) .nil)))⟩
noncomputable def Pt.tk(m:Nat):Pt->Pt
 |.keep _=>.keep m
 |.put s=>.put (s.take m)
 |.drop s=>.drop (s.take m)
noncomputable def Pt.dp(m:Nat):Pt->Pt
 |.keep k=>.keep (k - m)
 |.put s=>.put (s.drop m)
 |.drop s=>.drop (s.drop m)
def qy{α:Type}(l:List α)(m:Nat):cut l none (some (m:Int))=l.take m:=by
 have a:¬ (m:Int)<0:=by omega
 simp only[cut,aR,a,XE,Zf,X6,aaq];by_cases h:m<=l.length
 .rw[Zq h]
 .rw[Z0 (by omega),XQ (VG _),XQ (by omega)]
def Ag{α:Type}(l:List α)(m:Nat):cut l (some (m:Int)) none=l.drop m:=by
 have a:¬ (m:Int)<0:=by omega
 simp only[cut,aR,a,XE,Zf];by_cases h:m<=l.length
 .rw[Zq h,XQ (by simp)]
 .rw[Z0 (by omega),Yw (VG _),Yw (by omega)];simp
section
variable{F:List Fn}{w n cF aO cU bN bM aV dB cJ i:Nat}
def Ah(hf:F[i]?=some iS)(p:Pt)(m:Nat)(h:m<=p.n):run F w (n+1) i [.val p.v,.val (.int m)]=some (.tup [(p.tk m).v,(p.dp m).v],[]):=by
 refine bQ hf rfl ?_;cases p with
 |keep k=>
  refine ai (bF (by repeat array_get_dec) rfl rfl ?_);refine ai (aG (by repeat array_get_dec) (λ_=>?_) λh=>absurd h (by decide));refine ai (bB (by repeat array_get_dec) ⟨?_,rfl⟩);have:(k:Int) - m=((k - m:Nat):Int):=by simp only[Pt.n]at h;omega
  exact Xp (λz=>Fl.ret (V.tup [V.tup [V.str dO,V.int m],V.tup [V.str dO,V.int z]])) this
 |put s=>
  have a:fB (.str s) none (some (m:Int))=some (.str (s.take m)):=by rw[gk,qy]
  have b:fB (.str s) (some (m:Int)) none=some (.str (s.drop m)):=by rw[gk,Ag]
  refine ai (bF (by repeat array_get_dec) rfl rfl ?_);refine ai (aG (by repeat array_get_dec) (zf ·) λ_=>av ?_);exact ai (bB (by repeat array_get_dec) ⟨rfl,rfl⟩)
 |drop s=>
  have a:fB (.str s) none (some (m:Int))=some (.str (s.take m)):=by rw[gk,qy]
  have b:fB (.str s) (some (m:Int)) none=some (.str (s.drop m)):=by rw[gk,Ag]
  refine ai (bF (by repeat array_get_dec) rfl rfl ?_);refine ai (aG (by repeat array_get_dec) (zf ·) λ_=>av ?_);exact ai (bB (by repeat array_get_dec) ⟨rfl,rfl⟩)
def rJ(m:Nat)(p:Pt):(p.dp m).n=p.n - m:=by cases p<;>simp[Pt.dp,Pt.n]
def sW(hs:F[aO]?=some fF)(hp:F[cF]?=some iS)(hf:F[i]?=some (kQ cF aO))(L:List V)(p:Pt)(m:Nat)(h:m<=p.n)(hn:p.n<=100000)(hL:L.length<=10000) :
  run F w (n+2) i [.bor (L++[p.v]),.val (.int m)]=some ((p.tk m).v,[L++if 0<p.n - m then [(p.dp m).v]else []]):=by
 refine bQ hf rfl ?_;have b:=λfr=>call2 (fr:=fr) (Ah (F:=F) (w:=w) (n:=n) hp p m h);have c:=λfr=>bU (fr:=fr) (jS (F:=F) (w:=w) (n:=n) hs (p.dp m) (by rw[rJ];omega));have d:∀fr:Fr,ig .pop 0 [] fr (some (some (.bor (L++[p.v]))))=.ok p.v (fr.set 0 (some (.bor L))):=λfr=>Ig;have e:∀fr:Fr,ig .append 0 [(p.dp m).v] fr (some (some (.bor L)))=.ok .bG (fr.set 0 (some (.bor (L++[(p.dp m).v])))):=λfr=>Ie (by omega);refine ai (bF (by (repeat (first|array_get_dec|exact d _|exact b _))) rfl rfl ?_);refine ai (aG (by (repeat (first|array_get_dec|exact c _))) (λh=>?_) λh=>?_)
 .have a:=XN h;rw[rJ]at a;rw[IC (by omega)];refine ai (gG (by (repeat (first|array_get_dec|exact e _))) (av ?_));exact ai (bB (by repeat array_get_dec) ⟨rfl,rfl⟩)
 .have a:=Yy h;rw[rJ]at a;rw[T8 (by omega),XZ];exact av (ai (bB (by repeat array_get_dec) ⟨rfl,rfl⟩))
noncomputable def lQ:Pt->Pt->Option (List Pt)
 |l,.keep _=>some [l]
 |.keep _,g=>some [g]
 |.put s,.drop s'=>if s=s' then some []else none
 |_,_=>none
def Iz(hf:F[i]?=some t9)(p q:Pt)(r:List Pt)(h:lQ p q=some r):run F w (n+1) i [.val p.v,.val q.v]=some (.lst (r.map Pt.v),[]):=by
 refine bQ hf rfl ?_;cases q with
 |keep k=>
  simp only[lQ,Ze]at h;subst h;refine ai (aG (by repeat array_get_dec) (λ_=>?_) λh=>absurd h (by decide));exact ai (bB (by repeat array_get_dec) ⟨rfl,rfl⟩)
 |put s=>
  cases p<;>simp[lQ]at h
  subst h;refine ai (aG (by repeat array_get_dec) (zf ·) λ_=>av ?_);refine ai (aG (by repeat array_get_dec) (λ_=>?_) λh=>absurd h (by decide));exact ai (bB (by repeat array_get_dec) ⟨rfl,rfl⟩)
 |drop b=>
  cases p with
  |keep k=>
   simp only[lQ,Ze]at h;subst h;refine ai (aG (by repeat array_get_dec) (zf ·) λ_=>av ?_);refine ai (aG (by repeat array_get_dec) (λ_=>?_) λh=>absurd h (by decide));exact ai (bB (by repeat array_get_dec) ⟨rfl,rfl⟩)
  |drop s=>simp[lQ]at h
  |put s=>
   simp only[lQ]at h;split at h
   .rename_i a;subst a;cases h;refine ai (aG (by repeat array_get_dec) (zf ·) λ_=>av ?_);refine ai (aG (by repeat array_get_dec) (zf ·) λ_=>av ?_);refine ai (aG (by repeat array_get_dec) (λh=>?_) λ_=>av ?_)
    .simp at h
    .exact ai (bB (by repeat array_get_dec) ⟨rfl,rfl⟩)
   .cases h
def iu{l:List V}{v:V}:fN (.lst (l++[v])) (.int (-1))=some v:=by rw[HJ,MG];simp
def j7{l:List V}{v:V}:truthy (.lst (l++[v]))=true:=by simp
def FP{P:aP}{f i:Nat}{fr:Fr}{b v:V}{l l':List V}(e:fr[i]?=some (some (.own l)))(h:P f [.bor l,.val b]=some (v,[l'])):ff P f [.inl i,.inr b] fr=.ok v (fr.set i (some (.own l'))):=by
 have a:lent fr i=some (.bor l):=by rw[yr,e];rfl
 simp[ff,bR,args,a,h,back,e,Sl.with]
def jI{c:List Pt}(h:m9 c=true):∀p∈c,0<p.n:=λp a=>by
 simp only[m9,OS,Yt]at h;have:=h.2 p a;simp only[MO,bne_iff_ne,ne_eq]at this;omega
theorem iT:∀{c:List Pt},(∀p∈c,0<p.n)->c.length<=tot c
 |[],_=>by simp[tot]
 |p :: c,h=>by
  have b:=h p (by simp);have d:=iT (c:=c) λq a=>h q (by simp[a]);rw[bZ,Xo];omega
def Ai{p:Pt}{m:Nat}(h:m<=p.n):(p.tk m).aW++(p.dp m).aW=p.aW/\(p.tk m).n=m:=by
 cases p with
 |keep k=>simp only[Pt.n]at h;simp[Pt.tk,Pt.dp,Pt.aW,Pt.n,h]
 |put s=>simp only[Pt.n]at h;simp[Pt.tk,Pt.dp,Pt.aW,Pt.n,h,<-Xz]
 |drop s=>simp only[Pt.n]at h;simp[Pt.tk,Pt.dp,Pt.aW,Pt.n,h,<-Xz]
noncomputable def j8(m:Nat)(p:Pt):List Pt:=if 0<p.n - m then [p.dp m]else []
def yD{p:Pt}{m:Nat}(h:m<=p.n):p.aW=(p.tk m).aW++aW (j8 m p):=by
 rw[<- (Ai h).1]
 congr 1
 unfold j8;split
 .simp[aW]
 .rename_i a;have:(p.dp m).aW.length=0:=by rw[vX,rJ];omega
  rw[List.length_eq_zero_iff.mp this];rfl
def yE(m:Nat)(p:Pt):∀q∈j8 m p,0<q.n:=λq a=>by
 unfold j8 at a;split at a
 .simp at a;subst a;rw[rJ];omega
 .simp at a
def IA(m:Nat)(p:Pt)(A:List Pt):((j8 m p++A).map Pt.v).reverse=(A.map Pt.v).reverse++if 0<p.n - m then [(p.dp m).v]else []:=by
 unfold j8;split<;>simp
def nW(m:Nat)(p:Pt):tot (j8 m p)=p.n - m:=by
 unfold j8;split
 .simp[tot,rJ]
 .simp[tot];omega
def yF{m:Nat}{p:Pt}:dF (p.tk m)=dF p/\iK (p.tk m)=iK p:=by cases p<;>exact⟨rfl,rfl⟩
def MU{A B r:List At}(p q:Pt)(hp:dF p=false)(hq:iK q=false)(hn:p.n=q.n)(h:Th (p.aW++A) (q.aW++B) r):∃m r',lQ p q=some m/\m.length<=1/\r=aW m++r'/\Th A B r':=by
 cases p with
 |drop s=>cases hp
 |keep k=>
  cases q with
  |put s=>cases hq
  |keep b=>simp only[Pt.n]at hn;subst hn;obtain⟨r',rfl,a⟩:=Th.Vb h;exact⟨[.keep k],r',rfl,by simp,by simp[aW,Pt.aW],a⟩
  |drop s=>simp only[Pt.n]at hn;subst hn;obtain⟨r',rfl,a⟩:=Th.Vc h;exact⟨[.drop s],r',rfl,by simp,by simp[aW,Pt.aW],a⟩
 |put s=>
  cases q with
  |put c=>cases hq
  |keep b=>simp only[Pt.n]at hn;subst hn;obtain⟨r',rfl,a⟩:=Th.Vd h;exact⟨[.put s],r',rfl,by simp,by simp[aW,Pt.aW],a⟩
  |drop c=>simp only[Pt.n]at hn;obtain⟨rfl,a⟩:=Th.QZ hn h;exact⟨[],r,by simp[lQ],by simp,by simp[aW],a⟩
structure Tn(one other c:List Pt)(t:List Nat):Prop where
 Q0:aK c=c
 fit:bf c t=true
 dn:aM c t=aM other (aM one t)
 MV:told 0 c=(told 0 other).map (sub (told 0 one))
 MW:told 0 (sw c)=(told 0 (sw one)).map (sub (told 0 (sw other)))
 cs:cst c<=cst one+cst other
 tt:tot c<=tot one+tot other
 ln:c.length<=tot c
 th:∃ps,c=aK ps/\Th (aW (aK one)) (aW (aK other)) (aW ps)
def Qi{one other ps:List Pt}{t:List Nat}(h1:bf one t=true)(h2:bf other (aM one t)=true)(h:Th (aW (aK one)) (aW (aK other)) (aW ps)):Tn one other (aK ps) t:=by
 have f1:bA (aA (aW (aK one))) t=true:=by rw[<-gS,fZ,<-gz];exact h1
 have f2:bA (aA (aW (aK other))) (dA (aW (aK one)) t)=true:=by rw[<-gS,fZ,<-gc,eZ,<-gz];exact h2
 have b:=h.back 0 0 [] rfl;rw[<-vY,<-vY,<-vY,<-gT,<-gT,<-gT]at b;have a:∀c i,told i (sw (aK c))=told i (sw c):=λc i=>by
  have:=Xp (told i) (yz (jk c));rwa [cP,cP]at this
 refine⟨jk _,?_,?_,?_,?_,?_,?_,iT (jI (iR _)),ps,rfl,h⟩
 .rw[lP,gz,gS];exact h.fit t f1 f2
 .rw[eZ,gc,h.done t f1,<-gc,eZ,<-gc,eZ]
 .have:=h.told 0 0 [] rfl;rw[<-gT,<-gT,<-gT,cP,cP]at this;rw[cP];exact this
 .rw[a,<-a one,<-a other];exact b
 .have:=h.cost;rw[<-rH,<-rH,<-rH,pI,pI]at this;rw[pI];exact this
 .have:=h.len;rw[jH,jH,jH,gb,gb]at this;rw[gb];exact this
section
variable(hs:F[aO]?=some fF)(hp:F[cF]?=some iS)(ht:F[bN]?=some (kQ cF aO))(hm:F[cU]?=some t9){one other:List Pt}{r:List At}{N:Nat}(hN:N<=5000)
noncomputable def fL(one other A B C:List Pt)(a:Option Sl):Fr:=[some (.val (aC one)),some (.val (aC other)),some (.own (A.map Pt.v).reverse),some (.own (B.map Pt.v).reverse),some (.own (C.map Pt.v)),a]
inductive MX(one other:List Pt)(r:List At)(N k:Nat)(fr:Fr):Prop
 |mk (A B C:List Pt) (r':List At) (a:Option Sl) (c0:Th (aW A) (aW B) r') (c1:aW C++r'=r) (c2:∀p∈A,0<p.n) (c3:∀p∈B,0<p.n) (c4:C.length+k<=N) (c5:k=tot A+tot B) (c6:vo a) (c7:fr=fL one other A B C a):MX one other r N k fr
include hs hp ht hm hN
noncomputable def Cq(aO cU bN:Nat):Ss:=(.cons (.set 5 (.bi .min (.cons (.cl aO (.cons (.ix (.v 2) (.neg (.c (.int 1)))) .nil)) (.cons (.cl aO (.cons (.ix (.v 3) (.neg (.c (.int 1)))) .nil)) .nil)))) (.cons (.exp (.me .extend (.v 4) (.cons (.cl cU (.cons (.cl bN (.cons (.v 2) (.cons (.v 5) .nil))) (.cons (.cl bN (.cons (.v 3) (.cons (.v 5) .nil))) .nil))) .nil))) .nil))
noncomputable def v8(aO cU bN:Nat):Ss:=.cons (.iff (.an (.v 3) (.cmp .eq (.ix (.ix (.v 3) (.neg (.c (.int 1)))) (.c (.int 0))) (.c (.str [112,117,116])))) (.cons (.exp (.me .append (.v 4) (.cons (.me .pop (.v 3) .nil) .nil))) .nil) (Cq aO cU bN)) .nil
def v9(one other:List Pt)(r:List At)(N t:Nat)(g:Fl)(fr:Fr):Prop:=g=.nx/\∃j,j<t/\MX one other r N j fr
omit hs hp ht hm hN in
theorem Cr{C:List Pt}(lC:C.length<=5000)(d:Pt)(fr:Fr):ig .append 4 [d.v] fr (some (some (.own (C.map Pt.v))))=.ok .bG (fr.set 4 (some (.own ((C++[d]).map Pt.v)))):=by
 rw[Xz];exact nN (by simp;omega)
omit hs hp ht hm in
theorem wc(A B C:List Pt)(s:List Nat)(r':List At)(a:Option Sl)(h:Th (aW A) (aW (.put s :: B)) r')(hn:Co (aW A)=true)(hC:aW C++r'=r)(hA:∀p∈A,0<p.n)(hB:∀p∈(.put s :: B),0<p.n)(hk:C.length+(tot A+tot (.put s :: B))<=N)(ha:vo a) :
  Wp (exs (run F w (n+2)) w (v8 aO cU bN) (fL one other A (.put s :: B) C a)) (v9 one other r N (tot A+tot (.put s :: B))):=by
 have b:C.length<=5000:=by omega
 rw[cR]at h;obtain⟨c,d,e⟩:=Th.ps hn h;have f:=hB (.put s) (by simp);unfold fL;rw[M7,XC];refine ai (aG (jg (aF rfl (az rfl) j7) (by (repeat (first|array_get_dec|exact iu)))) (λ_=>?_) λh=>absurd h (by decide));refine ai (gG (by (repeat (first|array_get_dec|exact rE|exact Cr b _ _))) (av (av ?_)));refine⟨rfl,tot A+tot B,by rw[bZ];omega,A,B,C++[.put s],c,a,e,?_,hA,λx g=>hB x (by simp[g]),?_,rfl,ha,rfl⟩
 .rw[<-hC,d,jG];simp[aW,Pt.aW]
 .rw[bZ]at hk;simp;omega
omit hN in
theorem MY(A B C mm:List Pt)(p q:Pt)(m:Nat)(a:Option Sl)(mn:b7 .min [.int p.n,.int q.n]=some (.int m))(hm1:m<=p.n)(hm2:m<=q.n)(lp:p.n<=5000)(lq:q.n<=5000)(lA:A.length<=5000)(lB:B.length<=5000)(lC:C.length+mm.length<=10000)(e1:lQ (p.tk m) (q.tk m)=some mm)(ha:vo a)(Q:Fl->Fr->Prop)
  (hQ:Q .nx (fL one other (j8 m p++A) (j8 m q++B) (C++mm) (some (.val (.int m))))):Wp (exs (run F w (n+2)) w (Cq aO cU bN) (fL one other (p :: A) (q :: B) C a)) Q:=by
 have d:=λfr=>bU (fr:=fr) (jS (F:=F) (w:=w) (n:=n+1) hs p (Xm lp (by decide)));have e:=λfr=>bU (fr:=fr) (jS (F:=F) (w:=w) (n:=n+1) hs q (Xm lq (by decide)));have b:=sW (F:=F) (w:=w) (n:=n) hs hp ht (A.map Pt.v).reverse p m hm1 (by omega) (by simp;omega);have c:=sW (F:=F) (w:=w) (n:=n) hs hp ht (B.map Pt.v).reverse q m hm2 (by omega) (by simp;omega);rw[<-IA]at b c;have f:=λfr=>call2 (fr:=fr) (Iz (F:=F) (w:=w) (n:=n+1) hm _ _ mm e1);have ex:∀fr:Fr,ig .extend 4 [.lst (mm.map Pt.v)] fr (some (some (.own (C.map Pt.v))))=.ok .bG (fr.set 4 (some (.own ((C++mm).map Pt.v)))):=λfr=>by
  rw[Xz];exact yt (by simp;omega)
 unfold fL at hQ ⊢;rw[M7,XC,M7,XC];refine ai (bF (by (repeat (first|array_get_dec|exact iu|exact d _|exact e _))) rfl (jh rfl ha) ?_);exact ai (gG (by (repeat (first|array_get_dec|exact FP rfl b|exact FP rfl c|exact f _|exact ex _))) (av hQ))
theorem En(A B C:List Pt)(p q:Pt)(r':List At)(a:Option Sl)(hd:dF p=false)(hq:iK q=false)(h:Th (aW (p :: A)) (aW (q :: B)) r')(hC:aW C++r'=r)(hA:∀x∈p :: A,0<x.n)(hB:∀x∈q :: B,0<x.n)(hk:C.length+(tot (p :: A)+tot (q :: B))<=N)(ha:vo a) :
  Wp (exs (run F w (n+2)) w (v8 aO cU bN) (fL one other (p :: A) (q :: B) C a)) (v9 one other r N (tot (p :: A)+tot (q :: B))):=by
 have f:=hA p (by simp);have VP:=hB q (by simp);obtain⟨m,hm1,hm2,VQ⟩:∃m:Nat,m<=p.n/\m<=q.n/\(m=p.n\/m=q.n):=⟨min p.n q.n,by omega,by omega,by omega⟩
 have g:b7 .min [.int p.n,.int q.n]=some (.int m):=by
  rw[Ma];split
  .congr 2;omega
  .congr 2;omega
 rw[bZ,bZ]at hk;have G:=iT (c:=A) λx b=>hA x (by simp[b]);have H:=iT (c:=B) λx b=>hB x (by simp[b]);have j:Th ((p.tk m).aW++aW (j8 m p++A)) ((q.tk m).aW++aW (j8 m q++B)) r':=by
  rw[jG,jG,<-XU,<-XU,<-yD hm1,<-yD hm2,<-cR,<-cR];exact h
 obtain⟨e,l,o,I,y,z⟩:=MU (p.tk m) (q.tk m) (by rw[yF.1];exact hd) (by rw[yF.2];exact hq) (by rw[(Ai hm1).2,(Ai hm2).2]) j;have fin:v9 one other r N (tot (p :: A)+tot (q :: B)) .nx (fL one other (j8 m p++A) (j8 m q++B) (C++e) (some (.val (.int m)))):=by
  refine⟨rfl,_,?_,_,_,_,l,_,z,?_,?_,?_,?_,rfl,.val,rfl⟩
  .rw[fJ,fJ,nW,nW,bZ,bZ];omega
  .rw[jG,XU,<-y];exact hC
  .intro x b;rcases List.mem_append.mp b with b|b
   .exact yE m p x b
   .exact hA x (Xy _ b)
  .intro x b;rcases List.mem_append.mp b with b|b
   .exact yE m q x b
   .exact hB x (Xy _ b)
  .rw[fJ,fJ,nW,nW,T7];omega
 have d:=MY (one:=one) (other:=other) (w:=w) (n:=n) hs hp ht hm A B C e p q m a g hm1 hm2 (by omega) (by omega) (by omega) (by omega) (by omega) o ha _ (show nx (run F w (n+2)) w .nil (v9 one other r N (tot (p :: A)+tot (q :: B))) .nx _ from av fin);unfold fL at d ⊢;rw[M7,XC,M7,XC]at d ⊢;cases q with
 |put s=>cases hq
 |keep k=>exact ai (aG (jg (aF rfl (az rfl) j7) (by (repeat (first|array_get_dec|exact iu)))) (zf ·) λ_=>d)
 |drop s=>exact ai (aG (jg (aF rfl (az rfl) j7) (by (repeat (first|array_get_dec|exact iu)))) (zf ·) λ_=>d)
omit hs hp ht hm hN in
theorem Q2{b r:List At}{x:At}(h:Th [] (x :: b) r):∃c,x=.p c:=by cases h with|p=>exact⟨_,rfl⟩
omit hs hp ht hm hN in
theorem Q3{a r:List At}{x:At}(h:Th (x :: a) [] r):∃c,x=.d c:=by cases h with|d=>exact⟨_,rfl⟩
theorem Cs(A B C:List Pt)(r':List At)(a:Option Sl)(hne:A≠[]\/B≠[])(h:Th (aW A) (aW B) r')(hC:aW C++r'=r)(hA:∀p∈A,0<p.n)(hB:∀p∈B,0<p.n)(hk:C.length+(tot A+tot B)<=N)(ha:vo a) :
  Wp (exs (run F w (n+2)) w (v5 aO cU bN) (fL one other A B C a)) (v9 one other r N (tot A+tot B)):=by
 cases A with
 |nil=>
  cases B with
  |nil=>exact absurd hne (by simp)
  |cons q B'=>
   refine ai (aG (vG (aF rfl (az rfl) rfl)) (zf ·) λ_=>?_);have f:=hB q (by simp);cases q with
   |put s=>exact(wc hN [] B' C s r' a h rfl hC hA hB hk ha).mono λg z ⟨o,l⟩=>by subst o;exact av ⟨rfl,l⟩
   |keep k=>
    rw[cR]at h;cases k with
    |zero=>exact absurd f (XS 0)
    |succ k=>obtain⟨c,e⟩:=Q2 (x:=.k) h;cases e
   |drop s=>
    rw[cR]at h;cases s with
    |nil=>exact absurd f (XS 0)
    |cons c s=>obtain⟨c,e⟩:=Q2 (x:=.d c) h;cases e
 |cons p A'=>
  have b:=hA p (by simp);cases hd:dF p with
  |true=>
   cases p with
   |keep k=>cases hd
   |put s=>cases hd
   |drop s=>
    have G:C.length<=5000:=by omega
    rw[cR]at h;obtain⟨H,I,J⟩:=Th.ds h;unfold fL;rw[M7,XC];refine ai (aG (jg (aF rfl (az rfl) j7) (by (repeat (first|array_get_dec|exact iu)))) (λ_=>?_) λh=>absurd h (by decide));refine ai (gG (by (repeat (first|array_get_dec|exact rE|exact Cr G _ _))) (av (av ?_)));refine⟨rfl,tot A'+tot B,by rw[bZ];omega,A',B,C++[.drop s],H,a,J,?_,λx l=>hA x (by simp[l]),hB,?_,rfl,ha,rfl⟩
    .rw[<-hC,I,jG];simp[aW,Pt.aW]
    .rw[bZ]at hk;simp;omega
  |false=>
   have j:Wp (exs (run F w (n+2)) w (v8 aO cU bN) (fL one other (p :: A') B C a)) (v9 one other r N (tot (p :: A')+tot B)):=by
    cases B with
    |nil=>
     exfalso;rw[cR]at h;cases p with
     |drop s=>cases hd
     |keep k=>cases k with|zero=>exact absurd b (XS 0)|succ k=>obtain⟨c,e⟩:=Q3 (x:=.k) h;cases e
     |put s=>cases s with|nil=>exact absurd b (XS 0)|cons c s=>obtain⟨c,e⟩:=Q3 (x:=.p c) h;cases e
    |cons q B'=>
     cases f:iK q with
     |true=>
      have y:Co (aW (p :: A'))=true:=by
       rw[cR];cases p with
       |drop s=>cases hd
       |keep k=>cases k<;>first|exact absurd b (XS 0)|rfl
       |put s=>cases s<;>first|exact absurd b (XS 0)|rfl
      cases q with
      |keep k=>cases f
      |drop s=>cases f
      |put s=>exact wc hN (p :: A') B' C s r' a h y hC hA hB hk ha
     |false=>exact En hs hp ht hm hN A' B' C p q r' a hd f h hC hA hB hk ha
   replace j:=j.mono (Q':=nx (run F w (n+2)) w .nil (v9 one other r N (tot (p :: A')+tot B))) λg z ⟨o,l⟩=>by subst o;exact av ⟨rfl,l⟩
   unfold fL at j ⊢;rw[M7,XC]at j ⊢;cases p with
   |drop s=>cases hd
   |keep k=>exact ai (aG (jg (aF rfl (az rfl) j7) (by (repeat (first|array_get_dec|exact iu)))) (zf ·) λ_=>j)
   |put s=>exact ai (aG (jg (aF rfl (az rfl) j7) (by (repeat (first|array_get_dec|exact iu)))) (zf ·) λ_=>j)
omit hN in
theorem Ep(hst:F[aV]?=some eF)(hf:F[bM]?=some (jj aV))(hb:F[cJ]?=some (lI aO))(ha:F[dB]?=some (nQ aO))(yG:F[i]?=some (kP dB cJ bM aO cU bN))(hw:5000<w)
  (one other:List Pt) (t:List Nat) (h1:bf one t=true) (h2:bf other (aM one t)=true) (b1:tot one<=2000) (b2:tot other<=2000) (l1:one.length<=2000) (l2:other.length<=2000) :
  ∃c,run F w (n+3) i [.val (aC one),.val (aC other)]=some (aC c,[])/\Tn one other c t:=by
 have f1:bA (aA (aW (aK one))) t=true:=by rw[<-gS,fZ,<-gz];exact h1
 have f2:bA (aA (aW (aK other))) (dA (aW (aK one)) t)=true:=by rw[<-gS,fZ,<-gc,eZ,<-gz];exact h2
 obtain⟨r,d⟩:=Th.all _ _ _ t (VG _) f1 f2;have H:ir one=bC other:=by rw[<-vZ h1,nU h2]
 have ne:cop .ne (.int (ir one)) (.int (bC other))=some false:=by rw[zX,H];simp
 have I:=λfr=>bU (fr:=fr) (B7 (F:=F) (w:=w) (n:=n) hs ha one (by omega) (by omega));have J:=λfr=>bU (fr:=fr) (zZ (F:=F) (w:=w) (n:=n) hs hb other (by omega) (by omega));have K:=λfr=>bU (fr:=fr) (ee (F:=F) (w:=w) (n:=n) hst hf one (by omega) (by omega));have L:=λfr=>bU (fr:=fr) (ee (F:=F) (w:=w) (n:=n) hst hf other (by omega) (by omega));have t1:=gb one;have t2:=gb other;have g1:=iT (jI (iR one));have g2:=iT (jI (iR other));have M:eH ((aK one).map Pt.v).reverse=some (.lst ((aK one).map Pt.v).reverse):=cE (bE (by simp;omega));have P:eH ((aK other).map Pt.v).reverse=some (.lst ((aK other).map Pt.v).reverse):=cE (bE (by simp;omega));have f:Wp (exs (run F w (n+2)) w (kP dB cJ bM aO cU bN).body (er (kP dB cJ bM aO cU bN) [.val (aC one),.val (aC other)])) λg fr=>∃ps,aW ps=r/\g=.ret (aC (aK ps))/\outs 2 fr=[]:=by
  refine ai (aG (by (repeat (first|array_get_dec|exact I _|exact J _))) (zf ·) λ_=>av ?_);refine ai (iG (l:=((aK one).map Pt.v).reverse) (j3 (B4 (bI (bu rfl (az rfl) aU) (K _)) rfl) M) rfl rfl ?_);refine ai (iG (l:=((aK other).map Pt.v).reverse) (j3 (B4 (bI (bu rfl (az rfl) aU) (L _)) rfl) P) rfl rfl ?_);refine ai (iG (l:=[]) (by repeat array_get_dec) rfl rfl ?_);refine ai (Qc (vC (MX one other r (tot one+tot other)) (λk fr Q=>?_) w (tot one+tot other) _ (by omega) ⟨aK one,aK other,[],r,none,d,rfl,jI (iR one),jI (iR other),by simp,by omega,.none,rfl⟩));obtain⟨A,B,C,W,a,z,j,X,Y,hk,o,G,rfl⟩:=Q;by_cases b:A≠[]\/B≠[]
  .have x:aI (run F w (n+2)) (.orr (.v 2) (.v 3)) (fL one other A B C a)=.ok true (fL one other A B C a):=by
    cases A with
    |cons p A=>unfold fL;rw[M7,XC];exact B3 (aF rfl (az rfl) j7)
    |nil=>
     cases B with
     |nil=>simp at b
     |cons q B=>unfold fL;rw[M7,XC];exact fX (aF rfl (az rfl) rfl) (aF rfl (az rfl) j7)
   refine⟨true,_,x,?_⟩;dsimp only;rw[IC rfl];refine(Cs hs hp ht hm (N:=tot one+tot other) (by omega) A B C W a b z j X Y (by omega) G).mono λg fr ⟨Z,hx⟩=>?_;subst Z o;exact hx
  .obtain⟨rfl,rfl⟩:A=[]/\B=[]:=by simpa using b
   refine⟨false,_,fX (aF rfl (az rfl) rfl) (aF rfl (az rfl) rfl),?_⟩;dsimp only;rw[T8 (by decide)];cases z;rw[XZ]at j;subst j;have lC:=d.len;rw[jH,jH,jH]at lC;have mt:toT (.lst (C.map Pt.v))=some (aC C):=by rw[ym];exact jR (bE (by simp;omega))
   have c5:=λfr=>bU (fr:=fr) (ee (F:=F) (w:=w) (n:=n) hst hf C (by omega) (by omega));have sh:gj (fL one other [] [] C a)=[some (.val (aC one)),some (.val (aC other)),some (.val (.lst [])),some (.val (.lst [])),some (.val (.lst (C.map Pt.v))),a]:=by
    show _ :: _ :: _ :: _ :: _ :: [a.map Sl.eU]=_;rw[dQ G];rfl
   refine ai (bB (v:=aC (aK C)) (af:=[some (.val (aC one)),some (.val (aC other)),some (.val (.lst [])),some (.val (.lst [])),some (.val (.lst (C.map Pt.v))),a]) ?_ ⟨C,rfl,rfl,rfl⟩);rw[sh];exact bI (bu rfl (ql (az rfl) mt) aU) (c5 _)
 obtain⟨g,fr,e,ps,y,rfl,ho⟩:=f;refine⟨aK ps,?_,Qi h1 h2 (y▸d)⟩;rw[run_eq yG rfl,e];simp only[yp];rw[show outs (kP dB cJ bM aO cU bN).np fr=[]from ho]
end
end
section
variable{F:List Fn}{w n cF aO cU bN bM aV dB cJ cS gD i:Nat}
def Ch:List Nat->List (List Pt)->Prop
 |_,[]=>True
 |t,c :: rs=>bf c t=true/\Ch (aM c t) rs
noncomputable def b6(t:List Nat)(rs:List (List Pt)):List Nat:=rs.foldl (λs c=>aM c s) t
noncomputable def oX(T:List Tq)(rs:List (List Pt)):List Tq:=rs.foldl (λT c=>(told 0 c).map (sub T)) T
noncomputable def gv(rs:List (List Pt)):Nat:=(rs.map tot).sum
def Er{c:List Pt}{t:List Nat}(h:bf c t=true):bf (eX c) (aM c t)=true/\aM (eX c) (aM c t)=t:=by
 have:=vU c t h;simp only[eX];rw[lP,eZ];exact this
def ni(c:List Pt):told 0 (eX c)=told 0 (sw c):=by simp only[eX];rw[cP]
def sX(n:Nat):told 0 [.keep n]=(List.range n).map Tq.at:=by simp[told,Pt.told]
def IB(t:List Nat)(p q:List (List Pt)):b6 t (p++q)=b6 (b6 t p) q:=by simp[b6]
theorem yI(T:List Tq):∀(rs:List (List Pt)) (U:List Tq),(oX U rs).map (sub T)=oX (U.map (sub T)) rs
 |[],U=>rfl
 |c :: rs,U=>by
  show(oX ((told 0 c).map (sub U)) rs).map (sub T)=oX ((told 0 c).map (sub (U.map (sub T)))) rs;rw[yI T rs,Ej]
theorem Ct{t:List Nat}:∀{p q:List (List Pt)},Ch t (p++q)↔Ch t p/\Ch (b6 t p) q
 |[],q=>⟨λh=>⟨trivial,h⟩,λh=>h.2⟩
 |c :: p,q=>by
  show(bf c t=true/\Ch (aM c t) (p++q))↔(bf c t=true/\Ch (aM c t) p)/\Ch (b6 (aM c t) p) q;rw[Ct,and_assoc]
def Cu{c:List Pt}{t:List Nat}(h:bf c t=true):(told 0 c).length=(aM c t).length:=by rw[pH,vZ h]
def MZ{L:List Tq}{n:Nat}(h:L.length=n):(told 0 [.keep n]).map (sub L)=L:=by rw[sX,<-h];exact Iv L
def Ve{c:List Pt}{t:List Nat}(h:bf c t=true):(told 0 c).map (sub (told 0 [.keep t.length]))=told 0 c:=by
 rw[gT c,sX];refine Ek λj a=>?_;have:j<(aA (aW c)).length:=(List.getElem?_eq_some_iff.mp a).1;rw[<-gS,lM,<-nU h]at this;simp[this]
def Et(c:List Pt)(i:Nat):told i (sw (aK c))=told i (sw c):=by
 have:=Xp (told i) (yz (jk c));rwa [cP,cP]at this
def rK(n:Nat):told 0 (eX (aK [.keep n]))=told 0 [.keep n]:=by
 rw[ni,Et];rfl
def Cv{t:List Nat}{p:List (List Pt)}{x:List Pt}(h:bf x (b6 t p)=true):(oX (told 0 [.keep (b6 t p).length]) (p.map eX).reverse).map (sub (told 0 (sw x)))=oX (told 0 [.keep (b6 t (p++[x])).length]) ((p++[x]).map eX).reverse:=by
 obtain⟨a,b⟩:=Er h;have c:b6 t (p++[x])=aM x (b6 t p):=by rw[IB];rfl
 rw[yI,Xz,List.reverse_append,c];show _=oX ((told 0 (eX x)).map (sub (told 0 [.keep (aM x (b6 t p)).length]))) _;rw[Ve a,<-ni,MZ (by rw[Cu a,b])];rfl
structure An(c:List Pt)(t:List Nat)(rs:List (List Pt)):Prop where
 Q0:aK c=c
 fit:bf c t=true
 dn:aM c t=b6 t rs
 MV:told 0 c=oX (told 0 [.keep t.length]) rs
 MW:told 0 (sw c)=oX (told 0 [.keep (b6 t rs).length]) (rs.map eX).reverse
 tt:tot c<=t.length+gv rs
 ln:c.length<=tot c
def M4(t:List Nat):An (aK [.keep t.length]) t []:=by
 refine⟨jk _,by rw[lP];simp[bf],by rw[eZ];simp[aM,b6],by rw[cP];rfl,by rw[<-ni,rK];rfl,by rw[gb];simp[tot,Pt.n,gv],iT (jI (iR _))⟩
section
variable(hs:F[aO]?=some fF)(hp:F[cF]?=some iS)(ht:F[bN]?=some (kQ cF aO))(hm:F[cU]?=some t9)(hst:F[aV]?=some eF)(hf:F[bM]?=some (jj aV))(hb:F[cJ]?=some (lI aO))(ha:F[dB]?=some (nQ aO))(yG:F[gD]?=some (kP dB cJ bM aO cU bN))(hno:F[cS]?=some (j5 bM))(hw:5000<w)
include hs hp ht hm hst hf hb ha yG hno hw
theorem we(hat:F[i]?=some (jD cS gD))(t:List Nat)(rs:List (List Pt))(hch:Ch t rs)(hB:t.length+gv rs<=2000)(hL:∀c∈rs,c.length<=2000) :
  ∃c,run F w (n+4) i [.val (.int t.length),.val (.lst (rs.map aC))]=some (aC c,[])/\An c t rs:=by
 have q:=λfr=>bU (fr:=fr) (wQ (F:=F) (w:=w) (n:=n) hst hf hno t.length (by omega));have k:Wp (exs (run F w (n+3)) w (jD cS gD).body (er (jD cS gD) [.val (.int t.length),.val (.lst (rs.map aC))])) λg fr=>∃c,An c t rs/\g=.ret (aC c)/\outs 2 fr=[]:=by
  refine ai (bF (by (repeat (first|array_get_dec|exact q _))) rfl rfl ?_);refine ai (j4 (vs:=rs.map aC) (dD (dz rfl) rfl) ?_);refine gm (e:=aC) (λp l fr=>p++l=rs/\Ch (b6 t p) l/\∃c a,An c t p/\vo a/\fr=[some (.val (.int t.length)),some (.val (.lst (rs.map aC))),some (.val (aC c)),a]) (λp x l fr ⟨b,j,c,a,d,o,f⟩=>?_) (λp fr ⟨b,j,c,a,d,o,f⟩=>?_) rs [] _ ⟨rfl,hch,_,none,M4 t,.none,rfl⟩
  .subst f;have r:(p++[x])++l=rs:=by simpa using b
   have y:x∈rs:=by rw[<-b];simp
   have I:gv rs=gv p+tot x+gv l:=by rw[<-b];simp[gv];omega
   have z:=d.tt;have J:=d.ln;obtain⟨A,B,h⟩:=Ep (F:=F) (w:=w) (n:=n) hs hp ht hm hst hf hb ha yG hw c x t d.fit (by rw[d.dn];exact j.1) (by omega) (by omega) (by omega) (hL x y);have C:=λfr=>call2 (fr:=fr) B;refine dX (bind1 rfl o) (ai (bF (by (repeat (first|array_get_dec|exact C _))) rfl rfl (av ?_)));rw[eO];refine⟨r,?_,A,_,⟨h.Q0,h.fit,?_,?_,?_,?_,h.ln⟩,.val,rfl⟩
   .have:=j.2;simpa[b6]using this
   .rw[h.dn,d.dn];simp[b6]
   .rw[h.MV,d.MV];simp[oX]
   .rw[h.MW,d.MW];exact Cv j.1
   .have:=h.tt;simp[gv]at z ⊢;omega
  .subst f;simp at b;subst b;have G:gj [some (.val (.int t.length)),some (.val (.lst (p.map aC))),some (.val (aC c)),a]=[some (.val (.int t.length)),some (.val (.lst (p.map aC))),some (.val (aC c)),a]:=by
    show _ :: _ :: _ :: [a.map Sl.eU]=_;rw[dQ o];rfl
   refine ai (bB (v:=aC c) (af:=[some (.val (.int t.length)),some (.val (.lst (p.map aC))),some (.val (aC c)),a]) ?_ ⟨c,d,rfl,rfl⟩);rw[G];exact az rfl
 obtain⟨g,fr,e,c,d,rfl,H⟩:=k;refine⟨c,?_,d⟩;rw[run_eq hat rfl,e];simp only[yp];rw[show outs (jD cS gD).np fr=[]from H]
end
end
end Pv
namespace Pv
open Ev (deep big rep cut bL)
theorem qz:∀(a b:List At) (t:List Nat),dA (a++b) t=dA a (t.take (aA a).length)++dA b (t.drop (aA a).length)
 |[],b,t=>by simp[dA,aA]
 |.k :: a,b,t=>by
  simp only[XM,dA,aA,Xo,qz a b];cases t with
  |nil=>simp
  |cons c t=>simp
 |.d c :: a,b,t=>by
  simp only[XM,dA,aA,Xo,qz a b];cases t with
  |nil=>simp
  |cons c t=>simp
 |.p c :: a,b,t=>by simp only[XM,dA,aA,qz a b]
section
variable{c:List Pt}
def M5(c:List Pt):bC c=(aA (aW c)).length:=by rw[<-gS,lM]
end
end Pv
namespace Pv
open Ev (D bO bz TY BI ME T E Es Eo It S Ss Fn big deep rep cut bL)
abbrev Row:=List Nat×List Pt
noncomputable def Aj(r:Row):V:=.tup [.str r.1,aC r.2]
open Classical in
noncomputable def aX(t:List Nat)(a c:List Pt):List Pt:=if h:∃X,Tn a c X t then h.choose else []
end Pv
namespace Pv
open Ev (deep big rep cut bL E Es Eo It T S Ss Fn)
def FQ(ns:List Int)(k:Int)(x:List Nat)(b:Nat)(h:x.length<=b):(chg ns k x).length<=2*b+2/\tot (chg ns k x)<=3*b+3:=by
 have a:=ji ns k x (x.length+1);have c:=sV ns k x (x.length+1);simp only[chg];omega
def ID{c o:List Pt}{t u:List Nat}(h:bf c t=true)(h2:bf o u=true):bf (c++o) (t++u)=true/\aM (c++o) (t++u)=aM c t++aM o u:=by
 have a:(aA (aW c)).length=t.length:=by rw[<-M5,nU h]
 refine⟨?_,?_⟩
 .rw[gz,ef];rw[gz]at h h2;exact pJ h h2
 .rw[gc,jG,qz,a,<-gc,<-gc];simp
def drawn{ns:List Int}(k:Int)(m:Nat)(h:0<m):∃p:Nat,b9 ns k (m:Int)=(p:Int)/\p<m:=by
 have a:=fC ns k (many:=(m:Int)) (by omega);have b:=fD ns k (many:=(m:Int)) (by omega);exact⟨(b9 ns k (m:Int)).toNat,by omega,by omega⟩
def IE(a b:Row):cO (18+1) (Aj a) (Aj b)=some (decide (a=b)):=by
 have h:cO 18 (aC a.2) (aC b.2)=some (decide (a.2=b.2)):=g9 (f:=cO 17) (g:=Pt.v) (vI 15) a.2 b.2;show cC (cO 18) [.str a.1,aC a.2] [.str b.1,aC b.2]=_;rw[vz,vz,HH,h,qi];obtain⟨c,d⟩:=a;obtain⟨e,i⟩:=b;by_cases j:c=e<;>by_cases k:d=i<;>simp[j,k]
def nR(K:List Row):Pv.cop .ne (.lst (K.map Aj)) (.lst (K.map Aj))=some false:=by rw[iF,nM,g9 IE];simp
end Pv
namespace Pv
open Ev (D bO bz TY BI ME T E Es Eo It S Ss Fn big deep rep cut bL)
end Pv
namespace Pv
end Pv
namespace Pv
open Ev (D bO bz TY BI ME T E Es Eo It S Ss Fn big deep rep cut bL)
noncomputable def IF(gA:Nat):Fn:=⟨2,2,(.cons (.ret (.cmp .eq (.cl gA (.cons (.v 0) .nil)) (.cl gA (.cons (.v 1) .nil)))) .nil)⟩
section
variable{F:List Fn}{w n bM aV i:Nat}
def sY(hst:F[aV]?=some eF)(hf:F[bM]?=some (jj aV))(h:F[i]?=some (IF bM))(c d:List Pt)(b1:tot c<=2000)(b2:tot d<=2000)(l1:c.length<=2000)(l2:d.length<=2000):run F w (n+3) i [.val (aC c),.val (aC d)]=some (.bl (decide (aK c=aK d)),[]):=by
 have a:=λfr=>bU (fr:=fr) (ee (F:=F) (w:=w) (n:=n) hst hf c (by omega) (by omega));have b:=λfr=>bU (fr:=fr) (ee (F:=F) (w:=w) (n:=n) hst hf d (by omega) (by omega));exact bQ h rfl (ai (bB (bV (bI (bu rfl (az rfl) aU) (a _)) (bI (bu rfl (az rfl) aU) (b _)) (m8 _ _)) ⟨rfl,rfl⟩))
end
end Pv
namespace Pv
open Ev (D bO bz TY BI ME T E Es Eo It S Ss Fn big deep b2i rep cB dR bL aR cut aY bJ slots)
noncomputable def ko(Cw:Nat):Fn:=⟨1,2,(.cons (.iff (.orr (.nt (.fz (.v 0) [.tuple])) (.cmp .gt (.bi .len (.cons (.v 0) .nil)) (.c (.int 12)))) (.cons (.ret (.c (.bl false))) .nil) .nil) (.cons (.ret (.bi .all (.cons (.comp (.cl Cw (.cons (.v 1) .nil)) (.one 1) (.seq (.v 0)) .no) .nil))) .nil))⟩
noncomputable def oY(nj:Nat):S:=.iff (.cmp .eq (.ix (.v 0) (.c (.int 0))) (.c (.str [107,101,101,112]))) (.cons (.ret (.cl nj (.cons (.ix (.v 0) (.c (.int 1))) .nil))) .nil) .nil
noncomputable def oZ(nq:Nat):S:=.ret (.an (.cmp .isin (.ix (.v 0) (.c (.int 0))) (.tup (.cons (.c (.str [112,117,116])) (.cons (.c (.str [100,114,111,112])) .nil)))) (.cl nq (.cons (.ix (.v 0) (.c (.int 1))) .nil)))
noncomputable def gf(nj:Nat)(nq:Nat):Fn:=⟨1,1,(.cons (.iff (.orr (.nt (.fz (.v 0) [.tuple])) (.cmp .ne (.bi .len (.cons (.v 0) .nil)) (.c (.int 2)))) (.cons (.ret (.c (.bl false))) .nil) .nil) (.cons (oY nj) (.cons (oZ nq) .nil)))⟩
noncomputable def jl:Fn:=⟨1,1,(.cons (.iff (.orr (.fz (.v 0) [.bool]) (.nt (.fz (.v 0) [.int]))) (.cons (.ret (.c (.bl false))) .nil) .nil) (.cons (.ret (.ch .le .le (.c (.int 1)) (.v 0) (.c (.int 99)))) .nil))⟩
noncomputable def jm:Fn:=⟨1,2,(.cons (.iff (.orr (.nt (.fz (.v 0) [.str])) (.nt (.ch .le .le (.c (.int 1)) (.bi .len (.cons (.v 0) .nil)) (.c (.int 8))))) (.cons (.ret (.c (.bl false))) .nil) .nil) (.cons (.ret (.bi .all (.cons (.comp (.cmp .isin (.v 1) (.c (.str [97,98,99,100,101,102,103,104,105,106,107,108,109,110,111,112,113,114,115,116,117,118,119,120,121,122,32]))) (.one 1) (.seq (.v 0)) .no) .nil))) .nil))⟩
noncomputable def mh:Fn:=⟨1,3,(.cons (.ret (.me .join (.c (.str [47])) (.cons (.comp (.bin .add (.eB [(.str [107,101,101,112],.str [61]),(.str [112,117,116],.str [43]),(.str [100,114,111,112],.str [45])] (.v 1)) (.bi .fT (.cons (.v 2) .nil))) (.many [1,2]) (.seq (.v 0)) .no) .nil))) .nil)⟩
noncomputable def wR(tG:Nat):Fn:=⟨1,2,(.cons (.ret (.me .join (.c (.str [])) (.cons (.comp (.bin .add (.cl tG (.cons (.v 1) .nil)) (.c (.str [10]))) (.one 1) (.seq (.v 0)) .no) .nil))) .nil)⟩
noncomputable def mj(wU:Nat)(wV:Nat):Fn:=⟨1,3,(.cons (.iff (.cmp .eq (.v 0) (.c (.str []))) (.cons (.ret (.tup .nil)) .nil) .nil) (.cons (.set 1 (.gX (.comp (.cl wU (.cons (.v 2) .nil)) (.one 2) (.seq (.eG (.iN (.v 0) (.c (.str [47]))))) .no))) (.cons (.iff (.nt (.cl wV (.cons (.v 1) .nil))) (.cons (.dS 4) .nil) .nil) (.cons (.ret (.v 1)) .nil))))⟩
noncomputable def wW(Ak:Nat)(tH:Nat):Fn:=⟨1,2,(.cons (.ret (.comp (.cl tH (.cons (.v 1) .nil)) (.one 1) (.seq (.cl Ak (.cons (.v 0) .nil))) .no)) .nil)⟩
noncomputable def kq(tK:Nat):Fn:=⟨1,2,(.cons (.iff (.cmp .eE (.sl (.v 0) .no (.yes (.c (.int 1)))) (.c (.str [61,43,45]))) (.cons (.dS 4) .nil) .nil) (.cons (.set 1 (.eB [(.str [61],.str [107,101,101,112]),(.str [43],.str [112,117,116]),(.str [45],.str [100,114,111,112])] (.sl (.v 0) .no (.yes (.c (.int 1)))))) (.cons (.iff (.cmp .eq (.v 1) (.c (.str [107,101,101,112]))) (.cons (.ret (.tup (.cons (.v 1) (.cons (.cl tK (.cons (.sl (.v 0) (.yes (.c (.int 1))) .no) .nil)) .nil)))) .nil) .nil) (.cons (.ret (.tup (.cons (.v 1) (.cons (.sl (.v 0) (.yes (.c (.int 1))) .no) .nil)))) .nil))))⟩
noncomputable def gH:Fn:=⟨1,2,(.cons (.iff (.cmp .eE (.v 0) (.comp (.bi .fT (.cons (.v 1) .nil)) (.one 1) (.gp (.cons (.c (.int 1)) (.cons (.bin .add (.c (.int 99)) (.c (.int 1))) .nil))) .no)) (.cons (.dS 4) .nil) .nil) (.cons (.ret (.bi .kW (.cons (.v 0) .nil))) .nil))⟩
noncomputable def qA:Fn:=⟨1,2,(.cons (.set 1 (.eG (.iN (.v 0) (.c (.str [10]))))) (.cons (.iff (.cmp .ne (.me .pop (.v 1) .nil) (.c (.str []))) (.cons (.dS 4) .nil) .nil) (.cons (.ret (.v 1)) .nil)))⟩
def M8{P:aP}{k:Bool}{fr af ao:Fr}{o p:bz}{a b c:E}{x y z:V}{b1 b2:Bool}(h1:ev P (kf a (aB b)) a fr=.ok x af)(h2:ev P (kf b (aB c)) b af=.ok y ao)(h3:cop o x y=some b1)(h4:b1=true->ev P true c ao=.ok z ao/\cop p y z=some b2)(h5:b1=false->b2=false):ev P k (.ch o p a b c) fr=.ok (.bl b2) ao:=by
 rw[PZ,h1,ak,h2,ak,h3];show(R.ok b1 ao).bind _=_;rw[ak];cases b1 with
 |false=>rw[h5 rfl];rfl
 |true=>obtain⟨d,e⟩:=h4 rfl;rw[IC rfl,d,ak,e];rfl
noncomputable def wk(n:Nat):List Nat:=(Nat.toDigits 10 n).map Char.toNat
def Eu(n:Nat):Ev.cQ (n:Int)=wk n:=by
 show((toString (n:Int)).toList).map Char.toNat=_;rw[show toString (n:Int)=String.ofList (Nat.toDigits 10 n)from rfl,String.toList_ofList];rfl
def IG:((List.range 100).all λn=>decide (1<=(wk n).length)&&decide ((wk n).length<=2)&&(wk n).all Ev.o8&&(Ev.o9 (wk n)==some (n:Int)))=true:=by decide +kernel
structure Dg(n:Nat):Prop where
 lo:1<=(Ev.cQ (n:Int)).length
 hi:(Ev.cQ (n:Int)).length<=2
 sg:∀x∈Ev.cQ (n:Int),48<=x/\x<=57
 nm:Ev.o9 (Ev.cQ (n:Int))=some (n:Int)
def dg{n:Nat}(h:n<=99):Dg n:=by
 have:=List.all_eq_true.mp IG n (by simp;omega);rw[<-Eu]at this;simp only[OS,XF,beq_iff_eq,Yt,Ev.o8]at this;exact⟨this.1.1.1,this.1.1.2,this.1.2,this.2⟩
theorem wm{c:Nat}:∀{s:List Nat},c∉s->Ev.aS c s=[s]
 |[],_=>rfl
 |x :: s,h=>by
  simp only[Zl,not_or]at h;simp only[Ev.aS,T8 (show ¬ x=c from λz=>h.1 z.symm),wm h.2]
theorem nu{c:Nat}{r:List Nat}:∀{s:List Nat},c∉s->Ev.aS c (s++c :: r)=s :: Ev.aS c r
 |[],_=>by simp[Ev.aS]
 |x :: s,h=>by
  simp only[Zl,not_or]at h;simp only[XM,Ev.aS,T8 (show ¬ x=c from λz=>h.1 z.symm),nu h.2]
theorem qB{c:Nat}:∀{ps:List (List Nat)},ps≠[]->(∀p∈ps,c∉p)->Ev.aS c (aY [c] ps)=ps
 |[],h,_=>absurd rfl h
 |[s],_,h=>by simp only[aY];exact wm (h s (by simp))
 |s :: t :: r,_,h=>by
  simp only[aY];rw[XU,YS,nu (h s (by simp)),qB (by simp) λp a=>h p (by simp[a])]
theorem kr{c:Nat}:∀{ps:List (List Nat)},(∀p∈ps,c∉p)->Ev.aS c (ps.map λp=>p++[c]).flatten=ps++[[]]
 |[],_=>rfl
 |s :: r,h=>by
  simp only[M7,X3];rw[XU,YS,nu (h s (by simp)),kr λp a=>h p (by simp[a])];rfl
noncomputable def sgn:List Nat:=[97,98,99,100,101,102,103,104,105,106,107,108,109,110,111,112,113,114,115,116,117,118,119,120,121,122,32]
def WS(s:List Nat):Prop:=1<=s.length/\s.length<=8/\∀x∈s,sgn.contains x=true
def WP:Pt->Prop
 |.keep n=>1<=n/\n<=99
 |.put s=>WS s
 |.drop s=>WS s
structure Wide(c:List Pt):Prop where
 len:c.length<=12
 pt:∀p∈c,WP p
noncomputable def Pt.t:Pt->List Nat
 |.keep n=>61 :: Ev.cQ n
 |.put s=>43 :: s
 |.drop s=>45 :: s
noncomputable def ct(c:List Pt):List Nat:=aY [47] (c.map Pt.t)
def Cy{x:Nat}(h:sgn.contains x=true):x≠47/\x≠10:=by
 constructor <;> (intro e;subst e;revert h;decide)
def rL{p:Pt}(h:WP p):1<=p.t.length/\p.t.length<=9/\∀x∈p.t,x≠47/\x≠10:=by
 cases p with
 |keep n=>
  have d:=dg h.2;have f:=d.hi;refine⟨by simp[Pt.t],by simp[Pt.t];omega,λx a=>?_⟩;rcases List.mem_cons.mp a with rfl|a
  .decide
  .have:=d.sg x a;omega
 |put s=>
  obtain⟨c,e,b⟩:=h;refine⟨by simp[Pt.t],by simp[Pt.t];omega,λx a=>?_⟩;rcases List.mem_cons.mp a with rfl|a
  .decide
  .exact Cy (b x a)
 |drop s=>
  obtain⟨c,e,b⟩:=h;refine⟨by simp[Pt.t],by simp[Pt.t];omega,λx a=>?_⟩;rcases List.mem_cons.mp a with rfl|a
  .decide
  .exact Cy (b x a)
theorem pK{x:Nat}{s:List Nat}:∀{l:List (List Nat)},x∈aY s l->x∈s\/∃p∈l,x∈p
 |[],h=>by simp[aY]at h
 |[p],h=>.inr ⟨p,by simp,h⟩
 |p :: q :: r,h=>by
  simp only[aY,Z8]at h;rcases h with (h|h)|h
  .exact .inr ⟨p,by simp,h⟩
  .exact .inl h
  .rcases pK h with h|⟨t,a,b⟩
   .exact .inl h
   .exact .inr ⟨t,by simp[a],b⟩
theorem join_le{s:List Nat}{b:Nat}:∀{l:List (List Nat)},(∀p∈l,p.length<=b)->(aY s l).length<=l.length*(b+s.length)
 |[],_=>by simp[aY]
 |[p],h=>by have:=h p (by simp);simp[aY];omega
 |p :: q :: r,h=>by
  have c:=h p (by simp);have d:=join_le (s:=s) (l:=q :: r) λx a=>h x (by simp[a]);simp only[aY,T7];rw[Xo,ZV];omega
def FT{c:List Pt}(h:Wide c):10∉ct c:=λz=>by
 rcases pK z with z|⟨p,a,b⟩
 .simp at z
 .obtain⟨q,d,rfl⟩:=List.mem_map.mp a;exact((rL (h.pt q d)).2.2 10 b).2 rfl
def nv{c:List Pt}(h:Wide c):(ct c).length<=120:=by
 have a:(ct c).length<=(c.map Pt.t).length*(9+[47].length):=join_le λp b=>by
  obtain⟨q,d,rfl⟩:=List.mem_map.mp b;exact(rL (h.pt q d)).2.1
 have e:=h.len;simp at a;omega
def lR{c:List Pt}(h:Wide c)(h0:c≠[]):Ev.aS 47 (ct c)=c.map Pt.t:=qB (by simpa using h0) λp a z=>by
 obtain⟨q,b,rfl⟩:=List.mem_map.mp a;exact((rL (h.pt q b)).2.2 47 z).1 rfl
def Cz{c:List Pt}(h:Wide c):ct c=[]↔c=[]:=by
 constructor
 .intro e;cases c with
  |nil=>rfl
  |cons p c=>
   have a:=(rL (h.pt p (by simp))).1;cases c with
   |nil=>simp only[ct,M7,Y4,aY]at e;rw[e]at a;cases a
   |cons q c=>
    have:=Xp List.length e;simp[ct,aY]at this
 .rintro rfl;rfl
def FU{s:List Nat}{l:List (List Nat)}{b:Nat}(hb:∀p∈l,p.length<=b)(h:l.length*(b+s.length)<=100000):dw .join (.str s) [.lst (l.map V.str)]=some (.str (aY s l)):=by
 have a:strsOf (l.map V.str)=some l:=by simpa using jA (λx=>x) l
 have d:∀{l:List (List Nat)},(∀p∈l,p.length<=b)->(l.map (·.length)).sum<=l.length*b:=λ{l}=>by
  induction l with
  |nil=>simp
  |cons p l e=>
   intro h;have c:=e λq f=>h q (by simp[f]);have g:=h p (by simp);simp only[M7,aan,Xo,ZV];omega
 have c:(l.map (·.length)).sum+l.length*s.length<=big:=bE (by have:=d hb;rw[Nat.mul_add]at h;omega)
 delta dw;dsimp only;simp only[lZ,a,Option.bind];rw[IC c]
theorem wo(t:List Nat):∀l:List (List Nat),mem (.str t) (l.map V.str)=some (l.contains t)
 |[]=>rfl
 |x :: l=>by
  rw[M7,mem_cons,wo t l,rC];show some (decide (x=t) ||l.contains t)=_;rw[aav]
  congr 2
  by_cases h:x=t
  .simp[h]
  .rw[Xr h];simp;exact λz=>h z.symm
section
variable{F:List Fn}{w n i:Nat}
def wX(h:F[i]?=some jl){k:Nat}(h1:1<=k)(h2:k<=99):run F w (n+1) i [.val (.int k)]=some (.bl true,[]):=by
 refine bQ h rfl (ai (aG (b:=false) (fX (aF rfl (qk (az rfl) rfl) rfl) (jB (b:=true) (aF rfl (qk (az rfl) rfl) rfl))) (zf ·) λ_=>av ?_));exact ai (bB (M8 (b1:=true) (b2:=true) (z:=.int 99) (aQ rfl) (az rfl) (by rw[vH,XW (by omega)]) (λ_=>⟨aQ rfl,by rw[vH,XW (by omega)]⟩) (zf ·)) ⟨rfl,rfl⟩)
def o4(h:F[i]?=some jm){s:List Nat}(hs:WS s):run F w (n+1) i [.val (.str s)]=some (.bl true,[]):=by
 obtain⟨g,j,d⟩:=hs;refine bQ h rfl (ai (aG (b:=false) (fX (jB (b:=true) (aF rfl (qk (az rfl) rfl) rfl)) (jB (b:=true) (aF rfl (M8 (b1:=true) (b2:=true) (z:=.int 8) (aQ rfl) (cZ (ay (az rfl) aN) (YK (by omega))) (by rw[vH,XW (by omega)]) (λ_=>⟨aQ rfl,by rw[vH,XW (by omega)]⟩) (zf ·)) rfl))) (zf ·) λ_=>av ?_));have a:b8 (fq (run F w n) (.cmp .isin (.v 1) (.c (.str sgn))) (.one 1) .no [some (.val (.str s)),none]) (s.map λc=>.str [c])=some (s.map λc=>.bl (sgn.contains c)):=
  dj _ _ _ λc _=>dY rfl (bV (az rfl) (aQ rfl) DW)
 have e:b7 .all [.lst (s.map λc=>.bl (sgn.contains c))]=some (.bl true):=by
  rw[yl,oQ];show some (V.bl _)=_;rw[List.all_eq_true.mpr];intro x f;obtain⟨c,a,rfl⟩:=List.mem_map.mp f;exact d c a
 exact ai (bB (cZ (ay (fE (dD (dz rfl) rfl) rfl a (cE (bE (by simp;omega)))) aN) e) ⟨rfl,rfl⟩)
def wY{cV cW:Nat}(hk:F[cV]?=some jl)(hs:F[cW]?=some jm)(h:F[i]?=some (gf cV cW)){p:Pt}(hp:WP p):run F w (n+2) i [.val p.v]=some (.bl true,[]):=by
 refine bQ h rfl ?_;have e:∃a b,p.v=.tup [a,b]:=by cases p<;>exact⟨_,_,rfl⟩
 have c:∀a b,Wp (exs (run F w (n+1)) w (.cons (oY cV) (.cons (oZ cW) .nil)) [some (.val (.tup [a,b]))]) (λg d=>g=.ret (.bl true)/\outs 1 d=[])->Wp (exs (run F w (n+1)) w (gf cV cW).body (er (gf cV cW) [.val (.tup [a,b])])) λg d=>g=.ret (.bl true)/\outs (gf cV cW).np d=[]:=λa b q=>
  ai (aG (b:=false) (fX (jB (b:=true) (aF rfl (qk (az rfl) rfl) rfl)) (aF rfl (bV (cZ (ay (az rfl) aN) yj) (aQ rfl) zX) rfl)) (zf ·) λ_=>av q)
 cases p with
 |keep k=>
  exact c _ _ (ai (aG (b:=true) (aF rfl (bV (fK (az rfl) (aQ rfl) rfl) (aQ rfl) iH) rfl) (λ_=>ai (bB (bI (bu rfl (fK (az rfl) (aQ rfl) rfl) aU) (bU (wX hk hp.1 hp.2))) ⟨rfl,rfl⟩)) λh=>absurd h (by decide)))
 |put s=>
  exact c _ _ (ai (aG (b:=false) (aF rfl (bV (fK (az rfl) (aQ rfl) rfl) (aQ rfl) iH) rfl) (zf ·) λ_=>av (ai (bB (Fy (bV (fK (az rfl) (aQ rfl) rfl) (fu (ay (aQ rfl) (ay (aQ rfl) aN)) jz) rfl) (bI (bu rfl (fK (az rfl) (aQ rfl) rfl) aU) (bU (o4 hs hp)))) ⟨rfl,rfl⟩))))
 |drop s=>
  exact c _ _ (ai (aG (b:=false) (aF rfl (bV (fK (az rfl) (aQ rfl) rfl) (aQ rfl) iH) rfl) (zf ·) λ_=>av (ai (bB (Fy (bV (fK (az rfl) (aQ rfl) rfl) (fu (ay (aQ rfl) (ay (aQ rfl) aN)) jz) rfl) (bI (bu rfl (fK (az rfl) (aQ rfl) rfl) aU) (bU (o4 hs hp)))) ⟨rfl,rfl⟩))))
def mq{cV cW fH:Nat}(hk:F[cV]?=some jl)(hs:F[cW]?=some jm)(hp:F[fH]?=some (gf cV cW))(h:F[i]?=some (ko fH)){c:List Pt}(hc:Wide c):run F w (n+3) i [.val (aC c)]=some (.bl true,[]):=by
 have g:=hc.len;have a:b8 (fq (run F w (n+2)) (.cl fH (.cons (.v 1) .nil)) (.one 1) .no [some (.val (aC c)),none]) (c.map Pt.v)=some (c.map λ_=>.bl true):=
  dj _ _ _ λp d=>dY rfl (bI (bu rfl (az rfl) aU) (bU (wY hk hs hp (hc.pt p d))))
 have e:b7 .all [.lst (c.map λ_=>.bl true)]=some (.bl true):=by
  rw[yl,oQ (λ_=>true) c];show some (V.bl _)=_;rw[List.all_eq_true.mpr];intro x f;obtain⟨_,_,rfl⟩:=List.mem_map.mp f;rfl
 refine bQ h rfl (ai (aG (b:=false) (fX (jB (b:=true) (aF rfl (qk (az rfl) rfl) rfl)) (aF rfl (bV (cZ (ay (az rfl) aN) yj) (aQ rfl) D3) (by show decide _=false;exact Xr (by simp;omega)))) (zf ·) λ_=>av ?_));exact ai (bB (cZ (ay (fE (dD (dz rfl) rfl) rfl a (cE (bE (by simp;omega)))) aN) e) ⟨rfl,rfl⟩)
def wu{k:Nat}(h:k<=99):b7 .fT [.int (k:Int)]=some (.str (Ev.cQ k)):=by
 delta b7;dsimp only;rw[IC (by omega)]
def j9(h:F[i]?=some mh){c:List Pt}(hc:Wide c):run F w (n+1) i [.val (aC c)]=some (.str (ct c),[]):=by
 have o:=hc.len;have e:b8 (fq (run F w n) (.bin .add (.eB [(.str [107,101,101,112],.str [61]),(.str [112,117,116],.str [43]),(.str [100,114,111,112],.str [45])] (.v 1)) (.bi .fT (.cons (.v 2) .nil))) (.many [1,2]) .no [some (.val (aC c)),none,none]) (c.map Pt.v)=some (c.map λp=>.str p.t):=
  dj _ _ _ λp f=>by
   have a:=hc.pt p f;have d:=(rL a).2.1;cases p with
   |keep k=>exact dY rfl (bK (fW (az rfl) rfl) (cZ (ay (az rfl) aN) (wu a.2)) (fj (by simp[Pt.t]at d ⊢;omega)))
   |put s=>exact dY rfl (bK (fW (az rfl) rfl) (cZ (ay (az rfl) aN) rfl) (fj (by simp[Pt.t]at d ⊢;omega)))
   |drop s=>exact dY rfl (bK (fW (az rfl) rfl) (cZ (ay (az rfl) aN) rfl) (fj (by simp[Pt.t]at d ⊢;omega)))
 have g:dw .join (.str [47]) [.lst (c.map λp=>V.str p.t)]=some (.str (ct c)):=by
  have:=FU (s:=[47]) (l:=c.map Pt.t) (b:=9) (λp a=>by
   obtain⟨q,j,rfl⟩:=List.mem_map.mp a;exact(rL (hc.pt q j)).2.1) (by simp;omega)
  rwa [XH]at this
 exact bQ h rfl (ai (bB (j0 rfl (aQ rfl) (ay (fE (dD (dz rfl) rfl) rfl e (cE (bE (by simp;omega)))) aN) g) ⟨rfl,rfl⟩))
noncomputable def rt(rows:List (List Pt)):List Nat:=(rows.map λc=>ct c++[10]).flatten
theorem CA:∀{rows:List (List Pt)},(∀c∈rows,Wide c)->(rt rows).length<=rows.length*121
 |[],_=>by simp[rt]
 |c :: rows,h=>by
  have d:=nv (h c (by simp));have a:=CA (rows:=rows) λx b=>h x (by simp[b]);simp only[rt,M7,X3,T7,Xo,Yb]at a ⊢;rw[ZV];omega
def qC(h:F[i]?=some gH){k:Nat}(h1:1<=k)(h2:k<=99):run F w (n+1) i [.val (.str (Ev.cQ k))]=some (.int k,[]):=by
 have c:dH [.int 1,.int (99+1)]=some ((List.range 99).map λ(j:Nat)=>V.int (1+j)):=Tf (by decide) (by decide) (by decide) (by decide);have d:b8 (fq (run F w n) (.bi .fT (.cons (.v 1) .nil)) (.one 1) .no [some (.val (.str (Ev.cQ k))),none]) ((List.range 99).map λ(j:Nat)=>V.int (1+j))=some (((List.range 99).map λ(j:Nat)=>Ev.cQ ((1+j:Nat):Int)).map V.str):=by
  rw[XH];refine dj _ _ _ λj e=>dY rfl (cZ (ay (az rfl) aN) ?_);have:=List.mem_range.mp e;rw[show(1:Int)+(j:Int)=((1+j:Nat):Int)by simp];exact wu (by omega)
 have a:cop .eE (.str (Ev.cQ k)) (.lst (((List.range 99).map λ(j:Nat)=>Ev.cQ ((1+j:Nat):Int)).map V.str))=some false:=by
  rw[BX,DV,wo];show some (!_)=_;rw[show((List.range 99).map λ(j:Nat)=>Ev.cQ ((1+j:Nat):Int)).contains (Ev.cQ k)=true from ?_];rfl;rw[List.contains_iff_mem];exact List.mem_map.mpr ⟨k - 1,by simp;omega,by congr 1;omega⟩
 refine bQ h rfl (ai (aG (b:=false) (aF rfl (bV (az rfl) (fE (qm (ay (aQ rfl) (ay (bK (aQ rfl) (aQ rfl) fh) aN)) c) rfl d (cE (bE (by simp)))) a) rfl) (zf ·) λ_=>av ?_));exact ai (bB (cZ (ay (az rfl) aN) (by delta b7;dsimp only;rw[(dg h2).nm];rfl)) ⟨rfl,rfl⟩)
def tM{iY:Nat}(hn:F[iY]?=some gH)(h:F[i]?=some (kq iY)){p:Pt}(hp:WP p):run F w (n+2) i [.val (.str p.t)]=some (p.v,[]):=by
 have s1:∀(x:Nat) (r:List Nat),fB (.str (x :: r)) none (some 1)=some (.str [x]):=λx r=>by rw[gk];exact Xp (λz=>some (V.str z)) (qy (x :: r) 1)
 have s2:∀(x:Nat) (r:List Nat),fB (.str (x :: r)) (some 1) none=some (.str r):=λx r=>by rw[gk];exact Xp (λz=>some (V.str z)) (Ag (x :: r) 1)
 refine bQ h rfl ?_;cases p with
 |keep k=>
  refine ai (aG (b:=false) (aF rfl (bV (iQ (az rfl) gn (eV (aQ rfl)) (s1 _ _)) (aQ rfl) rfl) rfl) (zf ·) λ_=>av ?_);refine ai (bF (fW (iQ (az rfl) gn (eV (aQ rfl)) (s1 _ _)) rfl) rfl rfl ?_);exact ai (aG (b:=true) (aF rfl (bV (az rfl) (aQ rfl) iH) rfl) (λ_=>ai (bB (fu (ay (az rfl) (ay (bI (bu rfl (iQ (az rfl) (eV (aQ rfl)) gn (s2 _ _)) aU) (bU (qC hn hp.1 hp.2))) aN)) jz) ⟨rfl,rfl⟩)) λh=>absurd h (by decide))
 |put s=>
  refine ai (aG (b:=false) (aF rfl (bV (iQ (az rfl) gn (eV (aQ rfl)) (s1 _ _)) (aQ rfl) rfl) rfl) (zf ·) λ_=>av ?_);refine ai (bF (fW (iQ (az rfl) gn (eV (aQ rfl)) (s1 _ _)) rfl) rfl rfl ?_);exact ai (aG (b:=false) (aF rfl (bV (az rfl) (aQ rfl) iH) rfl) (zf ·) λ_=>av (ai (bB (fu (ay (az rfl) (ay (iQ (az rfl) (eV (aQ rfl)) gn (s2 _ _)) aN)) jz) ⟨rfl,rfl⟩)))
 |drop s=>
  refine ai (aG (b:=false) (aF rfl (bV (iQ (az rfl) gn (eV (aQ rfl)) (s1 _ _)) (aQ rfl) rfl) rfl) (zf ·) λ_=>av ?_);refine ai (bF (fW (iQ (az rfl) gn (eV (aQ rfl)) (s1 _ _)) rfl) rfl rfl ?_);exact ai (aG (b:=false) (aF rfl (bV (az rfl) (aQ rfl) iH) rfl) (zf ·) λ_=>av (ai (bB (fu (ay (az rfl) (ay (iQ (az rfl) (eV (aQ rfl)) gn (s2 _ _)) aN)) jz) ⟨rfl,rfl⟩)))
def kc{cV cW fH lS iY ny:Nat}(hk:F[cV]?=some jl)(hs:F[cW]?=some jm)(hp:F[fH]?=some (gf cV cW))(hi:F[lS]?=some (ko fH))(hn:F[iY]?=some gH)(hr:F[ny]?=some (kq iY))(h:F[i]?=some (mj ny lS)){c:List Pt}(hc:Wide c):run F w (n+4) i [.val (.str (ct c))]=some (aC c,[]):=by
 have j:=hc.len;refine bQ h rfl ?_;by_cases a:c=[]
 .subst a;exact ai (aG (b:=true) (aF rfl (bV (az rfl) (aQ rfl) iH) rfl) (λ_=>ai (bB (fu aN zN) ⟨rfl,rfl⟩)) λh=>absurd h (by decide))
 .have d:ct c≠[]:=λz=>a ((Cz hc).mp z);have e:mV (.str (ct c)) (.str [47])=some (c.map λp=>.str p.t):=by
   show(if 47<128 then some ((Ev.aS 47 (ct c)).map V.str)else none)=_;rw[IC (by decide),lR hc a,XH];rfl
  have f:b8 (fq (run F w (n+3)) (.cl ny (.cons (.v 2) .nil)) (.one 2) .no [some (.val (.str (ct c))),none,none]) (c.map λp=>V.str p.t)=some (c.map Pt.v):=
   dj _ _ _ λp g=>dY rfl (bI (bu rfl (az rfl) aU) (bU (tM (n:=n+1) hn hr (hc.pt p g))))
  refine ai (aG (b:=false) (aF rfl (bV (az rfl) (aQ rfl) iH) (Xr d)) (zf ·) λ_=>av ?_);refine ai (bF (v:=aC c) (ql (fE (dD (j3 (m7 (az rfl) (aQ rfl) e) (cE (bE (by simp;omega)))) rfl) rfl f (cE (bE (by simp;omega)))) (by show je (c.map Pt.v)=_;unfold je;rw[IC (bE (by simp;omega))];rfl)) rfl rfl ?_);refine ai (aG (b:=false) (jB (b:=true) (aF rfl (bI (bu rfl (az rfl) aU) (bU (mq hk hs hp hi hc))) rfl)) (zf ·) λ_=>av ?_);exact ai (bB (az rfl) ⟨rfl,rfl⟩)
def wz(h:F[i]?=some qA){rows:List (List Pt)}(hr:∀c∈rows,Wide c)(hl:rows.length<=100):run F w (n+1) i [.val (.str (rt rows))]=some (.lst (rows.map λc=>.str (ct c)),[]):=by
 have a:mV (.str (rt rows)) (.str [10])=some ((rows.map λc=>.str (ct c))++[.str []]):=by
  show(if 10<128 then some ((Ev.aS 10 (rt rows)).map V.str)else none)=_;have:=kr (c:=10) (ps:=rows.map ct) λp d=>by
   obtain⟨c,e,rfl⟩:=List.mem_map.mp d;exact FT (hr c e)
  rw[XH]at this;rw[IC (by decide),show rt rows=(rows.map ((λp=>p++[10]) ∘ ct)).flatten from rfl,this];simp
 refine bQ h rfl ?_;refine ai (iG (j3 (m7 (az rfl) (aQ rfl) a) (cE (bE (by simp;omega)))) rfl rfl ?_);refine ai (aG (b:=false) (aF rfl (bV (zV rfl rfl aN rE) (aQ rfl) iI) rfl) (zf ·) λ_=>av ?_);exact ai (bB (az rfl) ⟨rfl,rfl⟩)
def tN{cV cW fH lS iY ny Ew Am:Nat}(hk:F[cV]?=some jl)(hs:F[cW]?=some jm)(hp:F[fH]?=some (gf cV cW))(hi:F[lS]?=some (ko fH))(hn:F[iY]?=some gH)(hr:F[ny]?=some (kq iY))(Vh:F[Am]?=some (mj ny lS))(hlo:F[Ew]?=some qA)(h:F[i]?=some (wW Ew Am))
  {rows:List (List Pt)} (hrs:∀c∈rows,Wide c) (hl:rows.length<=100):run F w (n+5) i [.val (.str (rt rows))]=some (.lst (rows.map aC),[]):=by
 have a:b8 (fq (run F w (n+4)) (.cl Am (.cons (.v 1) .nil)) (.one 1) .no [some (.val (.str (rt rows))),none]) (rows.map λc=>V.str (ct c))=some (rows.map aC):=
  dj _ _ _ λc b=>dY rfl (bI (bu rfl (az rfl) aU) (bU (kc hk hs hp hi hn hr Vh (hrs c b))))
 exact bQ h rfl (ai (bB (fE (dD (bI (bu rfl (az rfl) aU) (bU (wz hlo hrs hl))) rfl) rfl a (cE (bE (by simp;omega)))) ⟨rfl,rfl⟩))
end
end Pv
namespace Pv
open Ev (lexLe dU bJ aS aY dW)
theorem yJ(x:List Nat):∀l,(Ev.dU x l).length=l.length+1
 |[]=>rfl
 |y :: l=>by
  unfold Ev.dU;split
  .rfl
  .simp[yJ x l]
theorem wA:∀l,(bJ l).length=l.length
 |[]=>rfl
 |x :: l=>by unfold bJ;rw[yJ,wA l];rfl
def II(l:List (List Nat)):strsOf (l.map V.str)=some l:=by simpa using jA id l
theorem nA:∀a b:List Nat,lexLe a b=true\/lexLe b a=true
 |[],b=>.inl rfl
 |_ :: _,[]=>.inr rfl
 |x :: a,y :: b=>by
  simp only[lexLe];by_cases h:x=y
  .subst h;simpa using nA a b
  .simp only[h,Yr h,XE,XF];omega
theorem pL:∀{a b:List Nat},lexLe a b=true->lexLe b a=true->a=b
 |[],[],_,_=>rfl
 |[],_ :: _,_,h=>by cases h
 |_ :: _,[],h,_=>by cases h
 |x :: a,y :: b,h1,h2=>by
  simp only[lexLe]at h1 h2;by_cases h:x=y
  .subst h;simp only[Xq]at h1 h2;rw[pL h1 h2]
  .simp only[h,Yr h,XE,XF]at h1 h2;omega
theorem lex_trans:∀{a b c:List Nat},lexLe a b=true->lexLe b c=true->lexLe a c=true
 |[],_,_,_,_=>rfl
 |_ :: _,[],_,h,_=>by cases h
 |_ :: _,_ :: _,[],_,h=>by cases h
 |x :: a,y :: b,z :: c,h1,h2=>by
  simp only[lexLe]at h1 h2 ⊢;by_cases e:x=y
  .subst e;simp only[Xq]at h1;by_cases d:x=z
   .subst d;simp only[Xq]at h2 ⊢;exact lex_trans h1 h2
   .simp only[d,XE]at h2 ⊢;exact h2
  .simp only[e,XE,XF]at h1;by_cases d:y=z
   .subst d;simp only[e,XE,XF];exact h1
   .simp only[d,XE,XF]at h2;have f:x≠z:=by omega
    simp only[f,XE,XF];omega
theorem wC(x y:List Nat):∀l,dU x (dU y l)=dU y (dU x l)
 |[]=>by
  simp only[dU];by_cases a:lexLe x y=true<;>by_cases d:lexLe y x=true
  .rw[pL a d]
  .simp[a,d,dU]
  .simp[a,d,dU]
  .rcases nA x y with h|h<;>contradiction
 |z :: l=>by
  have e:=wC x y l;by_cases b:lexLe y z=true<;>by_cases c:lexLe x z=true
  .simp only[dU,b,c,Xq];by_cases a:lexLe x y=true<;>by_cases d:lexLe y x=true
   .rw[pL a d]
   .simp[a,d,dU,b,c]
   .simp[a,d,dU,b,c]
   .rcases nA x y with h|h<;>contradiction
  .have a:¬ lexLe x y=true:=λh=>c (lex_trans h b);simp[dU,b,c,a]
  .have a:¬ lexLe y x=true:=λh=>b (lex_trans h c);simp[dU,b,c,a]
  .simp[dU,b,c,e]
def CB{l l':List (List Nat)}(h:l.Perm l'):bJ l=bJ l':=by
 induction h with
 |nil=>rfl
 |cons x _ a=>simp only[bJ,a]
 |swap x y l=>simp only[bJ];exact wC y x _
 |trans _ _ b c=>exact b.trans c
def CC(a b:List Pt):sw (a++b)=sw a++sw b:=by unfold sw;exact Xz
def yK(k:Nat)(g x:List Nat):(sw (bw k x g)).Perm (bw k g x):=by
 unfold bw sw;by_cases a:0<k<;>by_cases b:g=[]<;>by_cases c:x=[]<;>simp[a,b,c,Pt.sw]
 all_goals first|exact .refl _|exact .swap _ _ _|exact .cons _ (.swap _ _ _)
theorem iw:∀(c:List Pt) (st st':FS),(sw st'.1).Perm st.1->st'.2.1=st.2.1->st'.2.2.1=st.2.2.2->st'.2.2.2=st.2.2.1->
  (sw (b5 ((sw c).foldl aH st'))).Perm (b5 (c.foldl aH st))
 |[],st,st',h1,h2,h3,h4=>by
  show(sw (b5 st')).Perm (b5 st);unfold b5;rw[CC,h2,h3,h4];exact h1.append (yK _ _ _)
 |p :: c,st,st',h1,h2,h3,h4=>by
  show(sw (b5 ((sw c).foldl aH (aH st' p.sw)))).Perm (b5 (c.foldl aH (aH st p)));cases p with
  |put s=>exact iw c _ _ h1 h2 (by simp only[Pt.sw,aH];rw[h3]) (by simp only[Pt.sw,aH];exact h4)
  |drop s=>exact iw c _ _ h1 h2 (by simp only[Pt.sw,aH];exact h3) (by simp only[Pt.sw,aH];rw[h4])
  |keep k=>
   simp only[Pt.sw,aH];by_cases d:0<k
   .simp only[d,Xq];by_cases b:st.2.2.1=[]/\st.2.2.2=[]
    .have a:st'.2.2.1=[]/\st'.2.2.2=[]:=⟨by rw[h3];exact b.2,by rw[h4];exact b.1⟩
     rw[IC b,IC a];exact iw c _ _ h1 (by simp only;rw[h2]) rfl rfl
    .have a:¬ (st'.2.2.1=[]/\st'.2.2.2=[]):=λz=>b ⟨by rw[<-h4];exact z.2,by rw[<-h3];exact z.1⟩;rw[T8 b,T8 a];refine iw c _ _ ?_ rfl rfl rfl;simp only;rw[CC,h2,h3,h4];exact h1.append (yK _ _ _)
   .simp only[d,XE];exact iw c _ _ h1 h2 h3 h4
def sZ(c:List Pt):(sw (eX c)).Perm (aK c):=iw c cz cz (by unfold sw cz;exact .refl _) rfl rfl rfl
noncomputable def tr(c:Nat):Nat:=if c=43 then 45 else if c=45 then 43 else c
def M9{x:List Nat}(h:42∉x):dW 42 45 (dW 45 43 (dW 43 42 x))=x.map tr:=by
 unfold dW;rw[XH,XH];refine Yp λc d=>?_;have:c≠42:=λe=>h (by rw[<-e];exact d);simp only[Function.comp,tr];by_cases a:c=43
 .simp[a]
 .by_cases b:c=45
  .simp[b]
  .simp[a,b,this]
theorem yL:∀l:List (List Nat),(aY [47] l).map tr=aY [47] (l.map (·.map tr))
 |[]=>rfl
 |[s]=>rfl
 |s :: t :: r=>by
  have a:=yL (t :: r);simp only[aY,Xz,M7]at a ⊢;rw[a];rfl
def CD{s:List Nat}(h:WS s):s.map tr=s:=by
 refine(Yp λc b=>?_).trans (aaw s);have a:=h.2.2 c b;unfold tr;rw[T8 (λe=>by rw[e]at a;revert a;decide),T8 (λe=>by rw[e]at a;revert a;decide)];rfl
def CF(n:Nat)(h:n<=99):∀x∈Ev.cQ (n:Int),x≠42/\x≠43/\x≠45:=by
 have:((List.range 100).all λn=>(Ev.cQ ((n:Nat):Int)).all λx=>decide (x≠42/\x≠43/\x≠45))=true:=by decide +kernel
 rw[Yt]at this;have a:=this n (List.mem_range.mpr (by omega));rw[Yt]at a;exact λx b=>XN (a x b)
def TF{p:Pt}(h:WP p):p.t.map tr=p.sw.t:=by
 cases p with
 |keep n=>
  show tr 61 :: (Ev.cQ (n:Int)).map tr=61 :: Ev.cQ (n:Int);have:(Ev.cQ (n:Int)).map tr=Ev.cQ (n:Int):=by
   refine(Yp λc a=>?_).trans (aaw _);obtain⟨_,b,d⟩:=CF n h.2 c a;unfold tr;rw[T8 b,T8 d];rfl
  rw[this];rfl
 |put s=>show tr 43 :: s.map tr=_;rw[CD h];rfl
 |drop s=>show tr 45 :: s.map tr=_;rw[CD h];rfl
def FY{c:List Pt}(h:Wide c):(ct c).map tr=ct (sw c):=by
 unfold ct sw;rw[yL,XH,XH]
 congr 1
 exact Yp λp a=>TF (h.pt p a)
def Na{p:Pt}(h:WP p):42∉p.t:=λz=>by
 cases p with
 |keep n=>
  rcases List.mem_cons.mp z with e|e
  .cases e
  .exact(CF n h.2 42 e).1 rfl
 |put s=>
  rcases List.mem_cons.mp z with e|e
  .cases e
  .have:=h.2.2 42 e;revert this;decide
 |drop s=>
  rcases List.mem_cons.mp z with e|e
  .cases e
  .have:=h.2.2 42 e;revert this;decide
def yN{c:List Pt}(h:Wide c):42∉ct c:=λz=>by
 rcases pK z with e|⟨p,a,e⟩
 .revert e;decide
 .obtain⟨q,b,rfl⟩:=List.mem_map.mp a;exact Na (h.pt q b) e
def CG{a b:List Pt}(h:Wide a)(p:a.Perm b):Wide b:=⟨by rw[<-p.length_eq];exact h.len,λq c=>h.pt q (p.mem_iff.mpr c)⟩
def Qk{p:Pt}(h:WP p):WP p.sw:=by cases p<;>exact h
def rM{c:List Pt}(h:Wide c):Wide (sw c):=⟨by unfold sw;rw[XA];exact h.len,λq a=>by
 unfold sw at a;obtain⟨p,b,rfl⟩:=List.mem_map.mp a;exact Qk (h.pt p b)⟩
def tu{c:List Pt}(h:Wide c)(hf:aK c=c):Wide (eX c):=by
 have p:=sZ c;rw[hf]at p;have:=rM (CG h p.symm)
 rwa [Qf]at this
def Nb{c:List Pt}(h:Wide c)(hf:aK c=c):bJ (aS 47 (dW 42 45 (dW 45 43 (dW 43 42 (ct (eX c))))))=bJ (aS 47 (ct c)):=by
 have a:=tu h hf;have p:=sZ c;rw[hf]at p;rw[M9 (yN a),FY a];by_cases b:c=[]
 .subst b;rw[List.perm_nil.mp p]
 .have d:sw (eX c)≠[]:=λe=>b (by rw[e]at p;exact List.nil_perm.mp p);rw[lR (rM a) d,lR h b];exact CB (p.map Pt.t)
noncomputable def wD(l:List Nat):Nat:=if l=[]then 0 else 1
noncomputable def yO(k:Nat):Nat:=if 0<k then 1 else 0
def CH(l:List Nat):wD l<=1:=by unfold wD;split<;>omega
def CJ(k:Nat):yO k<=1:=by unfold yO;split<;>omega
noncomputable def jT(k:Nat)(g x:List Nat):Nat:=yO k+wD g+wD x
def yP(k:Nat)(g x:List Nat):(bw k g x).length=jT k g x:=by
 unfold bw jT yO wD;by_cases a:0<k<;>by_cases b:g=[]<;>by_cases c:x=[]<;>simp[a,b,c]
theorem yQ:∀(c:List Pt) (st:FS),(b5 (c.foldl aH st)).length<=st.1.length+jT st.2.1 st.2.2.1 st.2.2.2+c.length
 |[],st=>by unfold b5;simp only[ZA,T7,yP,Yb];omega
 |p :: c,st=>by
  have h:=yQ c (aH st p);rw[XI];have e:(aH st p).1.length+jT (aH st p).2.1 (aH st p).2.2.1 (aH st p).2.2.2<=st.1.length+jT st.2.1 st.2.2.1 st.2.2.2+1:=by
   obtain⟨a,k,g,x⟩:=st;cases p with
   |put s=>have:=CH (x++s);simp only[aH,jT];omega
   |drop s=>have:=CH (g++s);simp only[aH,jT];omega
   |keep m=>
    have:=CJ (k+m);have:=CJ m;simp only[aH];by_cases d:0<m
    .simp only[d,Xq];by_cases b:g=[]/\x=[]
     .rw[IC b,b.1,b.2];simp only[jT];omega
     .rw[T8 b];simp only[T7,yP];have f:jT m [] []=yO m:=by simp[jT,wD]
      rw[f];omega
    .simp only[d,XE];omega
  simp only[Xo];omega
def ku(c:List Pt):(aK c).length<=c.length:=by
 have:=yQ c cz;unfold aK;simp[cz,jT,wD,yO]at this ⊢;exact this
end Pv
namespace Pv
open Ev (rep)
def gr(s:List Nat):Prop:=∀x∈s,sgn.contains x=true
def tw:Pt->Prop
 |.keep _=>True
 |.put s=>gr s
 |.drop s=>gr s
def FZ(Bp Bd Bk:Nat):Pt->Prop
 |.keep n=>1<=n/\n<=Bk
 |.put s=>1<=s.length/\s.length<=Bp/\gr s
 |.drop s=>1<=s.length/\s.length<=Bd/\gr s
noncomputable def pN:Pt->Nat
 |.put s=>s.length
 |_=>0
noncomputable def dN:Pt->Nat
 |.drop s=>s.length
 |_=>0
noncomputable def kN:Pt->Nat
 |.keep k=>k
 |_=>0
noncomputable def sN(f:Pt->Nat)(c:List Pt):Nat:=(c.map f).sum
def rN(f:Pt->Nat)(p:Pt)(c:List Pt):sN f (p :: c)=f p+sN f c:=by simp[sN]
def gg(f:Pt->Nat)(a b:List Pt):sN f (a++b)=sN f a+sN f b:=by simp[sN]
def nX{a b:List Nat}(h1:gr a)(h2:gr b):gr (a++b):=λx c=>(List.mem_append.mp c).elim (h1 x) (h2 x)
def CK{Bp Bd Bk k:Nat}{g x:List Nat}(h1:gr g)(h2:gr x)(b1:k<=Bk)(b2:g.length<=Bd)(b3:x.length<=Bp):∀p∈bw k g x,FZ Bp Bd Bk p:=λp a=>by
 unfold bw at a;rw[Z8,Z8]at a;rcases a with (a|a)|a
 .split at a
  .rw[XG]at a;subst a;exact⟨by omega,b1⟩
  .cases a
 .split at a
  .cases a
  .rename_i b;rw[XG]at a;subst a;exact⟨List.length_pos_iff.mpr b,b2,h1⟩
 .split at a
  .cases a
  .rename_i b;rw[XG]at a;subst a;exact⟨List.length_pos_iff.mpr b,b3,h2⟩
theorem gU{Bp Bd Bk:Nat}:∀(c:List Pt) (st:FS),(∀p∈c,tw p)->(∀p∈st.1,FZ Bp Bd Bk p)->gr st.2.2.1->gr st.2.2.2->st.2.1+sN kN c<=Bk->st.2.2.1.length+sN dN c<=Bd->st.2.2.2.length+sN pN c<=Bp->∀p∈b5 (c.foldl aH st),FZ Bp Bd Bk p
 |[],st,_,h1,h2,h3,b1,b2,b3=>λp a=>by
  simp only[ZA]at a;unfold b5 at a;rcases List.mem_append.mp a with a|a
  .exact h1 p a
  .exact CK h2 h3 (by omega) (by omega) (by omega) p a
 |q :: c,st,hs,h1,h2,h3,b1,b2,b3=>by
  have b:∀p∈c,tw p:=λp a=>hs p (by simp[a]);have d:=hs q (by simp);rw[rN]at b1 b2 b3;rw[XI];cases q with
  |put s=>exact gU c _ b h1 h2 (nX h3 d) (by simpa[aH,kN]using b1) (by simpa[aH,dN]using b2) (by simp only[aH,pN,T7]at b3 ⊢;omega)
  |drop s=>exact gU c _ b h1 (nX h2 d) h3 (by simpa[aH,kN]using b1) (by simp only[aH,dN,T7]at b2 ⊢;omega) (by simpa[aH,pN]using b3)
  |keep k=>
   have n0:gr []:=λx g=>by cases g
   simp only[kN,dN,pN]at b1 b2 b3;simp only[aH];by_cases e:0<k
   .simp only[e,Xq];by_cases f:st.2.2.1=[]/\st.2.2.2=[]
    .rw[IC f];exact gU c _ b h1 n0 n0 (by simp only;omega) (by simp;omega) (by simp;omega)
    .rw[T8 f];refine gU c _ b (λp a=>?_) n0 n0 (by simp only;omega) (by simp;omega) (by simp;omega);rcases List.mem_append.mp a with a|a
     .exact h1 p a
     .exact CK h2 h3 (by omega) (by omega) (by omega) p a
   .simp only[e,XE];exact gU c _ b h1 h2 h3 (by omega) (by omega) (by omega)
theorem wF:∀(m:Nat) (st:FS),(List.replicate (m+1) (Pt.keep 1)).foldl aH st=aH st (.keep (m+1))
 |0,st=>rfl
 |m+1,st=>by
  rw[aag,X8,wF m st];simp only[XI,ZA,aH];have a:0<m+1:=by omega
  have b:0<m+1+1:=by omega
  by_cases c:st.2.2.1=[]/\st.2.2.2=[]
  .simp[a,b,c,YY]
  .simp[a,b,c]
def Ex(c:List Pt)(m:Nat):(aK (c++List.replicate m (.keep 1))).length<=c.length+1:=by
 cases m with
 |zero=>have:=ku c;simp;omega
 |succ m=>
  have e:aK (c++List.replicate (m+1) (.keep 1))=aK (c++[.keep (m+1)]):=by
   unfold aK;rw[X8,X8,wF];rfl
  rw[e];have:=ku (c++[.keep (m+1)]);simpa using this
def TH(ns:List Int)(at_:Int)(s:List Nat)(hs:gr s)(k:Nat):(∀p∈eS ns at_ s k,tw p)/\sN pN (eS ns at_ s k)<=2/\sN dN (eS ns at_ s k)<=(if k<s.length then 1 else 0)/\sN kN (eS ns at_ s k)<=(if k<s.length then 1 else 0):=by
 have z:=fD ns (at_+4*k+1) (many:=3) (by decide);have B:=fC ns (at_+4*k+1) (many:=3) (by decide);have C:=fD ns (at_+4*k+2) (many:=2) (by decide);have F:=fC ns (at_+4*k+2) (many:=2) (by decide);have j:sgn.contains ([97,98,122].getD (b9 ns (at_+4*k+1) 3).toNat 0)=true:=by
  generalize b9 ns (at_+4*k+1) 3=d at *
  have:d=0\/d=1\/d=2:=by omega
  rcases this with rfl|rfl|rfl<;>decide
 have q:(1+b9 ns (at_+4*k+2) 2).toNat<=2:=by omega
 unfold eS;rw[rG];generalize [97,98,122].getD (b9 ns (at_+4*k+1) 3).toNat 0=x at j
 generalize (1+b9 ns (at_+4*k+2) 2).toNat=m at q
 have A:∀b:Prop,[Decidable b]->(∀p∈(if b then [Pt.put (List.replicate m x)]else []),tw p)/\sN pN (if b then [Pt.put (List.replicate m x)]else [])<=2/\sN dN (if b then [Pt.put (List.replicate m x)]else [])=0/\sN kN (if b then [Pt.put (List.replicate m x)]else [])=0:=λb _=>by
  by_cases l:b
  .simp only[l,Xq];refine⟨λp a=>?_,by simp[sN,pN];omega,by simp[sN,dN],by simp[sN,kN]⟩;rw[XG]at a;subst a;exact λy f=>by rw[Y9 f];exact j
  .simp only[l,XE];exact⟨(λp a=>by cases a),by simp[sN],by simp[sN],by simp[sN]⟩
 obtain⟨g,e,h,i⟩:=A (b9 ns (at_+4*k) 4=0);generalize (if b9 ns (at_+4*k) 4=0 then [Pt.put (List.replicate m x)]else [])=L at g e h i
 rw[gg,gg,gg];cases hk:s[k]? with
 |none=>exact⟨λp a=>g p (by simpa using a),by simp[sN]at e ⊢;exact e,by simp[sN]at h ⊢;omega,by simp[sN]at i ⊢;omega⟩
 |some c=>
  have Vi:k<s.length:=(List.getElem?_eq_some_iff.mp hk).1;have r:=hs c (Xx hk);simp only[Vi,Xq];by_cases o:0<b9 ns (at_+4*k+3) 3
  .simp only[o,Xq];exact⟨λp a=>(List.mem_append.mp a).elim (g p) λa=>by rw[XG]at a;subst a;trivial,by simp[sN,pN]at e ⊢;exact e,by simp[sN,dN]at h ⊢;omega,by simp[sN,kN]at i ⊢;omega⟩
  .simp only[o,XE];exact⟨λp a=>(List.mem_append.mp a).elim (g p) λa=>by rw[XG]at a;subst a;intro y f;rw[XG]at f;subst f;exact r,by simp[sN,pN]at e ⊢;exact e,by simp[sN,dN]at h ⊢;omega,by simp[sN,kN]at i ⊢;omega⟩
theorem Ey(ns:List Int)(at_:Int)(s:List Nat)(hs:gr s):∀k,(∀p∈di ns at_ s k,tw p)/\sN pN (di ns at_ s k)<=2*k/\sN dN (di ns at_ s k)<=min k s.length/\sN kN (di ns at_ s k)<=min k s.length
 |0=>by simp[di,sN]
 |k+1=>by
  obtain⟨a,f,g,h⟩:=Ey ns at_ s hs k;obtain⟨b,i,c,d⟩:=TH ns at_ s hs k;rw[iJ,gg,gg,gg];refine⟨λp e=>(List.mem_append.mp e).elim (a p) (b p),by omega,?_,?_⟩
  .split at c<;>omega
  .split at d<;>omega
def IJ(m:Nat):∀p∈List.replicate m (Pt.keep 1),tw p:=λp a=>by rw[Y9 a];trivial
def wG(f:Pt->Nat)(m:Nat):sN f (List.replicate m (.keep 1))=m*f (.keep 1):=by simp[sN]
def Ez(ns:List Int)(at_:Int){t:List Nat}(ht:gr t)(hl:t.length<=90):Wide (aK (chg ns at_ (t.take 3)++List.replicate (t.length - 3) (.keep 1))):=by
 have e:(t.take 3).length<=3:=by simp;omega
 obtain⟨d,f,g,h⟩:=Ey ns at_ (t.take 3) (λx a=>ht x (aah a)) ((t.take 3).length+1);have c:=ji ns at_ (t.take 3) ((t.take 3).length+1);have ok:=gU (Bp:=8) (Bd:=8) (Bk:=99) (chg ns at_ (t.take 3)++List.replicate (t.length - 3) (.keep 1)) cz
  (λp b=>(List.mem_append.mp b).elim (d p) (IJ _ p)) (λp b=>by cases b) (λx a=>by cases a) (λx a=>by cases a)
  (by rw[gg,wG];simp only[cz,kN,chg];omega) (by rw[gg,wG];simp only[cz,dN,chg,Yb];omega) (by rw[gg,wG];simp only[cz,pN,chg,Yb];omega)
 refine⟨?_,λp b=>?_⟩
 .have:=Ex (chg ns at_ (t.take 3)) (t.length - 3);unfold chg at this ⊢;omega
 .have:=ok p b;cases p with
  |keep n=>exact this
  |put s=>exact this
  |drop s=>exact this
theorem nY:∀(c:List Pt) (t:List Nat),gr t->(∀p∈c,tw p)->gr (aM c t)
 |[],t,_,_=>by intro x a;simp[aM]at a
 |.put s :: c,t,h,hc=>by
  simp only[aM];exact nX (hc (.put s) (by simp)) (nY c t h λp b=>hc p (by simp[b]))
 |.keep k :: c,t,h,hc=>by
  simp only[aM];exact nX (λx a=>h x (aah a)) (nY c _ (λx a=>h x (aai a)) λp b=>hc p (by simp[b]))
 |.drop s :: c,t,h,hc=>by
  simp only[aM];exact nY c _ (λx a=>h x (aai a)) λp b=>hc p (by simp[b])
def IK{c:List Pt}(h:Wide c):∀p∈c,tw p:=λp a=>by
 have:=h.pt p a;cases p with
 |keep n=>trivial
 |put s=>exact this.2.2
 |drop s=>exact this.2.2
def Nc(ns:List Int)(a m:Int):gr (txt ns a m):=λx b=>by
 unfold txt at b;obtain⟨k,-,e⟩:=List.mem_map.mp b;have c:=fD ns (a+1+(k:Nat)) (many:=4) (by decide);have f:=fC ns (a+1+(k:Nat)) (many:=4) (by decide);subst e;generalize b9 ns (a+1+(k:Nat)) 4=d at *
 have:d=0\/d=1\/d=2\/d=3:=by omega
 rcases this with rfl|rfl|rfl|rfl<;>decide
noncomputable def tL(p:Pt):Nat:=p.t.length+1
theorem Ao:∀c:List Pt,c≠[]->(ct c).length+1=sN tL c
 |[],h=>absurd rfl h
 |[p],_=>by simp[ct,sN,tL,Ev.aY]
 |p :: q :: c,_=>by
  have a:=Ao (q :: c) (by simp);rw[rN];unfold ct at a ⊢;simp only[M7,Ev.aY,T7,Xo,Yb]at a ⊢;unfold tL at a ⊢;omega
def nZ{k:Nat}(h:k<=99):1<=(Ev.cQ (k:Int)).length/\(Ev.cQ (k:Int)).length<=2:=by
 have:=dg h;exact⟨this.lo,this.hi⟩
noncomputable def tS(k:Nat)(g x:List Nat):Nat:=sN tL (bw k g x)
def qD(k:Nat)(g x:List Nat):tS k g x=(if 0<k then (Ev.cQ (k:Int)).length+2 else 0)+(if g=[]then 0 else g.length+2)+(if x=[]then 0 else x.length+2):=by
 unfold tS bw;by_cases a:0<k<;>by_cases b:g=[]<;>by_cases c:x=[]<;>simp[a,b,c,sN,tL,Pt.t]<;>omega
theorem jJ:∀(c:List Pt) (st:FS),st.2.1+sN kN c<=99->sN tL (b5 (c.foldl aH st))<=sN tL st.1+tS st.2.1 st.2.2.1 st.2.2.2+sN tL c
 |[],st,_=>by
  simp only[ZA];unfold b5;rw[gg];simp[tS,sN]
 |p :: c,st,hk=>by
  rw[rN]at hk ⊢;rw[XI];obtain⟨a,k,g,x⟩:=st;simp only at hk ⊢;cases p with
  |put s=>
   have b:=jJ c (a,k,g,x++s) (by simp only[kN]at hk ⊢;omega);refine Xm b ?_;simp only[qD];have:tL (.put s)=s.length+2:=by simp[tL,Pt.t]
   rw[this];by_cases d:x=[]
   .subst d;by_cases h:s=[]<;>simp[h]<;>omega
   .simp[d];omega
  |drop s=>
   have b:=jJ c (a,k,g++s,x) (by simp only[kN]at hk ⊢;omega);refine Xm b ?_;simp only[qD];have:tL (.drop s)=s.length+2:=by simp[tL,Pt.t]
   rw[this];by_cases d:g=[]
   .subst d;by_cases h:s=[]<;>simp[h]<;>omega
   .simp[d];omega
  |keep m=>
   have j:tL (.keep m)=(Ev.cQ (m:Int)).length+2:=by simp[tL,Pt.t]
   simp only[kN]at hk;simp only[aH];by_cases f:0<m
   .simp only[f,Xq];by_cases i:g=[]/\x=[]
    .rw[IC i];have b:=jJ c (a,k+m,[],[]) (by simp only;omega);refine Xm b ?_;obtain⟨rfl,rfl⟩:=i;simp only[qD,j];have r:=nZ (k:=k+m) (by omega);have y:=nZ (k:=m) (by omega);by_cases l:0<k
     .have z:=nZ (k:=k) (by omega);have o:0<k+m:=by omega
      simp only[l,o,Xq];generalize (Ev.cQ ((k+m:Nat):Int)).length=z1 at *
      omega
     .have:k=0:=by omega
      subst this;simp[f];omega
    .rw[T8 i];have b:=jJ c (a++bw k g x,m,[],[]) (by simp only;omega);refine Xm b ?_;simp only[gg];have e:tS m [] []=tL (.keep m):=by rw[qD,j];simp[f]
     have q:tS k g x=sN tL (bw k g x):=rfl;rw[e,q];omega
   .simp only[f,XE];have b:=jJ c (a,k,g,x) (by simp only;omega);refine Xm b ?_;simp only;omega
def IL{c:List Pt}(h:sN kN c<=99):(ct (aK c)).length<=(ct c).length:=by
 have b:=jJ c cz (by simpa[cz]using h);have g:sN tL (aK c)<=sN tL c:=by
  have e:tS 0 [] []=0:=by rw[qD];simp
  simp only[cz,e]at b;have d:sN tL []=0:=rfl;rw[d]at b;show sN tL (b5 (c.foldl aH cz))<=_;unfold cz;omega
 by_cases a:aK c=[]
 .rw[a];simp[ct,Ev.aY]
 .have f:c≠[]:=λe=>a (by rw[e];rfl);have i:=Ao _ a;have j:=Ao _ f;omega
end Pv
namespace Lw
noncomputable abbrev f0:Ev.Fn:=⟨1,2,(.cons (.iff (.orr (.nt (.fz (.v 0) [.tuple])) (.cmp .gt (.bi .len (.cons (.v 0) .nil)) (.c (.int 12)))) (.cons (.ret (.c (.bl false))) .nil) .nil) (.cons (.ret (.bi .all (.cons (.comp (.cl 1 (.cons (.v 1) .nil)) (.one 1) (.seq (.v 0)) .no) .nil))) .nil))⟩
noncomputable abbrev f1:Ev.Fn:=⟨1,1,(.cons (.iff (.orr (.nt (.fz (.v 0) [.tuple])) (.cmp .ne (.bi .len (.cons (.v 0) .nil)) (.c (.int 2)))) (.cons (.ret (.c (.bl false))) .nil) .nil) (.cons (.iff (.cmp .eq (.ix (.v 0) (.c (.int 0))) (.c (.str [107,101,101,112]))) (.cons (.ret (.cl 2 (.cons (.ix (.v 0) (.c (.int 1))) .nil))) .nil) .nil) (.cons (.ret (.an (.cmp .isin (.ix (.v 0) (.c (.int 0))) (.tup (.cons (.c (.str [112,117,116])) (.cons (.c (.str [100,114,111,112])) .nil)))) (.cl 3 (.cons (.ix (.v 0) (.c (.int 1))) .nil)))) .nil)))⟩
noncomputable abbrev f2:Ev.Fn:=⟨1,1,(.cons (.iff (.orr (.fz (.v 0) [.bool]) (.nt (.fz (.v 0) [.int]))) (.cons (.ret (.c (.bl false))) .nil) .nil) (.cons (.ret (.ch .le .le (.c (.int 1)) (.v 0) (.c (.int 99)))) .nil))⟩
noncomputable abbrev f3:Ev.Fn:=⟨1,2,(.cons (.iff (.orr (.nt (.fz (.v 0) [.str])) (.nt (.ch .le .le (.c (.int 1)) (.bi .len (.cons (.v 0) .nil)) (.c (.int 8))))) (.cons (.ret (.c (.bl false))) .nil) .nil) (.cons (.ret (.bi .all (.cons (.comp (.cmp .isin (.v 1) (.c (.str [97,98,99,100,101,102,103,104,105,106,107,108,109,110,111,112,113,114,115,116,117,118,119,120,121,122,32]))) (.one 1) (.seq (.v 0)) .no) .nil))) .nil))⟩
noncomputable abbrev f4:Ev.Fn:=⟨1,1,(.cons (.iff (.cmp .eq (.ix (.v 0) (.c (.int 0))) (.c (.str [107,101,101,112]))) (.cons (.ret (.ix (.v 0) (.c (.int 1)))) .nil) .nil) (.cons (.ret (.bi .len (.cons (.ix (.v 0) (.c (.int 1))) .nil))) .nil))⟩
noncomputable abbrev f5:Ev.Fn:=⟨1,2,(.cons (.ret (.bi .sum (.cons (.comp (.cl 4 (.cons (.v 1) .nil)) (.one 1) (.seq (.v 0)) (.yes (.cmp .ne (.ix (.v 1) (.c (.int 0))) (.c (.str [112,117,116]))))) .nil))) .nil)⟩
noncomputable abbrev f6:Ev.Fn:=⟨1,2,(.cons (.ret (.bi .sum (.cons (.comp (.cl 4 (.cons (.v 1) .nil)) (.one 1) (.seq (.v 0)) (.yes (.cmp .ne (.ix (.v 1) (.c (.int 0))) (.c (.str [100,114,111,112]))))) .nil))) .nil)⟩
noncomputable abbrev f7:Ev.Fn:=⟨1,7,(.cons (.set 1 (.lst .nil)) (.cons (.set 2 (.c (.int 0))) (.cons (.set 3 (.c (.str []))) (.cons (.set 4 (.c (.str []))) (.cons (.for (.many [5,6]) (.seq (.v 0)) (.cons (.iff (.cmp .eq (.v 5) (.c (.str [100,114,111,112]))) (.cons (.set 3 (.bin .add (.v 3) (.v 6))) .nil) (.cons (.iff (.cmp .eq (.v 5) (.c (.str [112,117,116]))) (.cons (.set 4 (.bin .add (.v 4) (.v 6))) .nil) (.cons (.iff (.cmp .gt (.v 6) (.c (.int 0))) (.cons (.iff (.orr (.cmp .ne (.v 3) (.c (.str []))) (.cmp .ne (.v 4) (.c (.str [])))) (.cons (.exp (.me .extend (.v 1) (.cons (.cl 8 (.cons (.v 2) (.cons (.v 3) (.cons (.v 4) .nil)))) .nil))) (.cons (.set 2 (.c (.int 0))) (.cons (.set 3 (.c (.str []))) (.cons (.set 4 (.c (.str []))) .nil)))) .nil) (.cons (.set 2 (.bin .add (.v 2) (.v 6))) .nil)) .nil) .nil)) .nil)) .nil)) (.cons (.exp (.me .extend (.v 1) (.cons (.cl 8 (.cons (.v 2) (.cons (.v 3) (.cons (.v 4) .nil)))) .nil))) (.cons (.ret (.gX (.v 1))) .nil)))))))⟩
noncomputable abbrev f8:Ev.Fn:=⟨3,4,(.cons (.set 3 (.lst .nil)) (.cons (.iff (.cmp .gt (.v 0) (.c (.int 0))) (.cons (.exp (.me .append (.v 3) (.cons (.tup (.cons (.c (.str [107,101,101,112])) (.cons (.v 0) .nil))) .nil))) .nil) .nil) (.cons (.iff (.cmp .ne (.v 1) (.c (.str []))) (.cons (.exp (.me .append (.v 3) (.cons (.tup (.cons (.c (.str [100,114,111,112])) (.cons (.v 1) .nil))) .nil))) .nil) .nil) (.cons (.iff (.cmp .ne (.v 2) (.c (.str []))) (.cons (.exp (.me .append (.v 3) (.cons (.tup (.cons (.c (.str [112,117,116])) (.cons (.v 2) .nil))) .nil))) .nil) .nil) (.cons (.ret (.v 3)) .nil)))))⟩
noncomputable abbrev f9:Ev.Fn:=⟨1,3,(.cons (.ret (.me .join (.c (.str [47])) (.cons (.comp (.bin .add (.eB [(.str [107,101,101,112],.str [61]),(.str [112,117,116],.str [43]),(.str [100,114,111,112],.str [45])] (.v 1)) (.bi .fT (.cons (.v 2) .nil))) (.many [1,2]) (.seq (.v 0)) .no) .nil))) .nil)⟩
noncomputable abbrev Bh:Ev.Fn:=⟨1,2,(.cons (.ret (.me .join (.c (.str [])) (.cons (.comp (.bin .add (.cl 9 (.cons (.v 1) .nil)) (.c (.str [10]))) (.one 1) (.seq (.v 0)) .no) .nil))) .nil)⟩
noncomputable abbrev Nd:Ev.Fn:=⟨1,3,(.cons (.iff (.cmp .eq (.v 0) (.c (.str []))) (.cons (.ret (.tup .nil)) .nil) .nil) (.cons (.set 1 (.gX (.comp (.cl 13 (.cons (.v 2) .nil)) (.one 2) (.seq (.eG (.iN (.v 0) (.c (.str [47]))))) .no))) (.cons (.iff (.nt (.cl 0 (.cons (.v 1) .nil))) (.cons (.dS 4) .nil) .nil) (.cons (.ret (.v 1)) .nil))))⟩
noncomputable abbrev Nf:Ev.Fn:=⟨1,2,(.cons (.ret (.comp (.cl 11 (.cons (.v 1) .nil)) (.one 1) (.seq (.cl 15 (.cons (.v 0) .nil))) .no)) .nil)⟩
noncomputable abbrev Ng:Ev.Fn:=⟨1,2,(.cons (.iff (.cmp .eE (.sl (.v 0) .no (.yes (.c (.int 1)))) (.c (.str [61,43,45]))) (.cons (.dS 4) .nil) .nil) (.cons (.set 1 (.eB [(.str [61],.str [107,101,101,112]),(.str [43],.str [112,117,116]),(.str [45],.str [100,114,111,112])] (.sl (.v 0) .no (.yes (.c (.int 1)))))) (.cons (.iff (.cmp .eq (.v 1) (.c (.str [107,101,101,112]))) (.cons (.ret (.tup (.cons (.v 1) (.cons (.cl 14 (.cons (.sl (.v 0) (.yes (.c (.int 1))) .no) .nil)) .nil)))) .nil) .nil) (.cons (.ret (.tup (.cons (.v 1) (.cons (.sl (.v 0) (.yes (.c (.int 1))) .no) .nil)))) .nil))))⟩
noncomputable abbrev Nh:Ev.Fn:=⟨1,2,(.cons (.iff (.cmp .eE (.v 0) (.comp (.bi .fT (.cons (.v 1) .nil)) (.one 1) (.gp (.cons (.c (.int 1)) (.cons (.bin .add (.c (.int 99)) (.c (.int 1))) .nil))) .no)) (.cons (.dS 4) .nil) .nil) (.cons (.ret (.bi .kW (.cons (.v 0) .nil))) .nil))⟩
noncomputable abbrev Ni:Ev.Fn:=⟨1,2,(.cons (.set 1 (.eG (.iN (.v 0) (.c (.str [10]))))) (.cons (.iff (.cmp .ne (.me .pop (.v 1) .nil) (.c (.str []))) (.cons (.dS 4) .nil) .nil) (.cons (.ret (.v 1)) .nil)))⟩
noncomputable abbrev Nj:Ev.Fn:=⟨2,4,(.cons (.set 2 (.c (.int 0))) (.cons (.for (.one 3) (.seq (.v 0)) (.cons (.iff (.an (.cmp .eq (.ix (.v 3) (.c (.int 0))) (.c (.str [100,114,111,112]))) (.cmp .ne (.sl (.v 1) (.yes (.v 2)) (.yes (.bin .add (.v 2) (.cl 4 (.cons (.v 3) .nil))))) (.ix (.v 3) (.c (.int 1))))) (.cons (.ret (.c (.bl false))) .nil) .nil) (.cons (.iff (.cmp .ne (.ix (.v 3) (.c (.int 0))) (.c (.str [112,117,116]))) (.cons (.set 2 (.bin .add (.v 2) (.cl 4 (.cons (.v 3) .nil)))) .nil) .nil) .nil))) (.cons (.ret (.cmp .eq (.v 2) (.bi .len (.cons (.v 1) .nil)))) .nil)))⟩
noncomputable abbrev Nk:Ev.Fn:=⟨2,6,(.cons (.iff (.nt (.cl 16 (.cons (.v 0) (.cons (.v 1) .nil)))) (.cons (.dS 0) .nil) .nil) (.cons (.set 2 (.lst .nil)) (.cons (.set 3 (.c (.int 0))) (.cons (.for (.many [4,5]) (.seq (.v 0)) (.cons (.iff (.cmp .eq (.v 4) (.c (.str [112,117,116]))) (.cons (.exp (.me .append (.v 2) (.cons (.v 5) .nil))) .nil) (.cons (.iff (.cmp .eq (.v 4) (.c (.str [100,114,111,112]))) (.cons (.set 3 (.bin .add (.v 3) (.bi .len (.cons (.v 5) .nil)))) .nil) (.cons (.exp (.me .append (.v 2) (.cons (.sl (.v 1) (.yes (.v 3)) (.yes (.bin .add (.v 3) (.v 5)))) .nil))) (.cons (.set 3 (.bin .add (.v 3) (.v 5))) .nil))) .nil)) .nil)) (.cons (.ret (.me .join (.c (.str [])) (.cons (.v 2) .nil))) .nil)))))⟩
noncomputable abbrev Nl:Ev.Fn:=⟨1,3,(.cons (.ret (.cl 7 (.cons (.gX (.comp (.tup (.cons (.eB [(.str [107,101,101,112],.str [107,101,101,112]),(.str [112,117,116],.str [100,114,111,112]),(.str [100,114,111,112],.str [112,117,116])] (.v 1)) (.cons (.v 2) .nil))) (.many [1,2]) (.seq (.v 0)) .no)) .nil))) .nil)⟩
noncomputable abbrev Nm:Ev.Fn:=⟨1,1,(.cons (.ret (.cl 7 (.cons (.tup (.cons (.tup (.cons (.c (.str [107,101,101,112])) (.cons (.v 0) .nil))) .nil)) .nil))) .nil)⟩
noncomputable abbrev Nn:Ev.Fn:=⟨2,6,(.cons (.iff (.cmp .ne (.cl 6 (.cons (.v 0) .nil)) (.cl 5 (.cons (.v 1) .nil))) (.cons (.dS 0) .nil) .nil) (.cons (.set 2 (.eG (.rev (.cl 7 (.cons (.v 0) .nil))))) (.cons (.set 3 (.eG (.rev (.cl 7 (.cons (.v 1) .nil))))) (.cons (.set 4 (.lst .nil)) (.cons (.oB (.orr (.v 2) (.v 3)) (.cons (.iff (.an (.v 2) (.cmp .eq (.ix (.ix (.v 2) (.neg (.c (.int 1)))) (.c (.int 0))) (.c (.str [100,114,111,112])))) (.cons (.exp (.me .append (.v 4) (.cons (.me .pop (.v 2) .nil) .nil))) .nil) (.cons (.iff (.an (.v 3) (.cmp .eq (.ix (.ix (.v 3) (.neg (.c (.int 1)))) (.c (.int 0))) (.c (.str [112,117,116])))) (.cons (.exp (.me .append (.v 4) (.cons (.me .pop (.v 3) .nil) .nil))) .nil) (.cons (.set 5 (.bi .min (.cons (.cl 4 (.cons (.ix (.v 2) (.neg (.c (.int 1)))) .nil)) (.cons (.cl 4 (.cons (.ix (.v 3) (.neg (.c (.int 1)))) .nil)) .nil)))) (.cons (.exp (.me .extend (.v 4) (.cons (.cl 22 (.cons (.cl 23 (.cons (.v 2) (.cons (.v 5) .nil))) (.cons (.cl 23 (.cons (.v 3) (.cons (.v 5) .nil))) .nil))) .nil))) .nil))) .nil)) .nil)) (.cons (.ret (.cl 7 (.cons (.gX (.v 4)) .nil))) .nil))))))⟩
noncomputable abbrev Np:Ev.Fn:=⟨2,4,(.cons (.set 2 (.cl 19 (.cons (.v 0) .nil))) (.cons (.for (.one 3) (.seq (.v 1)) (.cons (.set 2 (.cl 20 (.cons (.v 2) (.cons (.v 3) .nil)))) .nil)) (.cons (.ret (.v 2)) .nil)))⟩
noncomputable abbrev Nq:Ev.Fn:=⟨2,2,(.cons (.iff (.cmp .eq (.ix (.v 1) (.c (.int 0))) (.c (.str [107,101,101,112]))) (.cons (.ret (.lst (.cons (.v 0) .nil))) .nil) .nil) (.cons (.iff (.cmp .eq (.ix (.v 0) (.c (.int 0))) (.c (.str [107,101,101,112]))) (.cons (.ret (.lst (.cons (.v 1) .nil))) .nil) .nil) (.cons (.iff (.cmp .ne (.ix (.v 0) (.c (.int 1))) (.ix (.v 1) (.c (.int 1)))) (.cons (.dS 0) .nil) .nil) (.cons (.ret (.lst .nil)) .nil))))⟩
noncomputable abbrev Nr:Ev.Fn:=⟨2,3,(.cons (.set 2 (.cl 24 (.cons (.me .pop (.v 0) .nil) (.cons (.v 1) .nil)))) (.cons (.iff (.cmp .gt (.cl 4 (.cons (.ix (.v 2) (.c (.int 1))) .nil)) (.c (.int 0))) (.cons (.exp (.me .append (.v 0) (.cons (.ix (.v 2) (.c (.int 1))) .nil))) .nil) .nil) (.cons (.ret (.ix (.v 2) (.c (.int 0)))) .nil)))⟩
noncomputable abbrev Nt:Ev.Fn:=⟨2,3,(.cons (.set 2 (.ix (.v 0) (.c (.int 0)))) (.cons (.iff (.cmp .eq (.v 2) (.c (.str [107,101,101,112]))) (.cons (.ret (.tup (.cons (.tup (.cons (.v 2) (.cons (.v 1) .nil))) (.cons (.tup (.cons (.v 2) (.cons (.bin .sub (.ix (.v 0) (.c (.int 1))) (.v 1)) .nil))) .nil)))) .nil) .nil) (.cons (.ret (.tup (.cons (.tup (.cons (.v 2) (.cons (.sl (.ix (.v 0) (.c (.int 1))) .no (.yes (.v 1))) .nil))) (.cons (.tup (.cons (.v 2) (.cons (.sl (.ix (.v 0) (.c (.int 1))) (.yes (.v 1)) .no) .nil))) .nil)))) .nil)))⟩
noncomputable abbrev Nu:Ev.Fn:=⟨2,2,(.cons (.ret (.cmp .eq (.cl 7 (.cons (.v 0) .nil)) (.cl 7 (.cons (.v 1) .nil)))) .nil)⟩
noncomputable abbrev Nv:Ev.Fn:=⟨2,2,(.cons (.iff (.cmp .eq (.v 0) (.lst .nil)) (.cons (.ret (.bin .mul (.c (.int 7)) (.v 1))) .nil) .nil) (.cons (.ret (.bin .add (.ix (.v 0) (.bin .mod (.v 1) (.bi .len (.cons (.v 0) .nil)))) (.bin .mul (.c (.int 6553)) (.bin .fdiv (.v 1) (.bi .len (.cons (.v 0) .nil)))))) .nil))⟩
noncomputable abbrev Nx:Ev.Fn:=⟨3,4,(.cons (.set 3 (.bin .mod (.bin .add (.bin .mul (.bin .mod (.cl 26 (.cons (.v 0) (.cons (.v 1) .nil))) (.c (.int 2147483563))) (.c (.int 69069))) (.bin .mul (.c (.int 104723)) (.bin .add (.v 1) (.c (.int 1))))) (.c (.int 2147483563)))) (.cons (.set 3 (.bin .mod (.bin .add (.bin .mul (.v 3) (.v 3)) (.bin .fdiv (.v 3) (.c (.int 3)))) (.c (.int 2147483399)))) (.cons (.ret (.bin .mod (.bin .fdiv (.bin .mod (.bin .add (.bin .mul (.v 3) (.v 3)) (.bin .fdiv (.v 3) (.c (.int 7)))) (.c (.int 2147483647))) (.c (.int 11))) (.v 2))) .nil)))⟩
noncomputable abbrev Ny:Ev.Fn:=⟨3,4,(.cons (.ret (.me .join (.c (.str [])) (.cons (.comp (.ix (.c (.str [97,98,99,32])) (.cl 27 (.cons (.v 0) (.cons (.bin .add (.bin .add (.v 1) (.c (.int 1))) (.v 3)) (.cons (.c (.int 4)) .nil))))) (.one 3) (.gp (.cons (.cl 27 (.cons (.v 0) (.cons (.v 1) (.cons (.bin .add (.v 2) (.c (.int 1))) .nil)))) .nil)) .no) .nil))) .nil)⟩
noncomputable abbrev Nz:Ev.Fn:=⟨3,7,(.cons (.set 3 (.tup .nil)) (.cons (.for (.one 4) (.gp (.cons (.bin .add (.bi .len (.cons (.v 2) .nil)) (.c (.int 1))) .nil)) (.cons (.iff (.cmp .eq (.cl 27 (.cons (.v 0) (.cons (.bin .add (.v 1) (.bin .mul (.c (.int 4)) (.v 4))) (.cons (.c (.int 4)) .nil)))) (.c (.int 0))) (.cons (.set 5 (.bin .mul (.ix (.c (.str [97,98,122])) (.cl 27 (.cons (.v 0) (.cons (.bin .add (.bin .add (.v 1) (.bin .mul (.c (.int 4)) (.v 4))) (.c (.int 1))) (.cons (.c (.int 3)) .nil))))) (.bin .add (.c (.int 1)) (.cl 27 (.cons (.v 0) (.cons (.bin .add (.bin .add (.v 1) (.bin .mul (.c (.int 4)) (.v 4))) (.c (.int 2))) (.cons (.c (.int 2)) .nil))))))) (.cons (.set 3 (.bin .add (.v 3) (.tup (.cons (.tup (.cons (.c (.str [112,117,116])) (.cons (.v 5) .nil))) .nil)))) .nil)) .nil) (.cons (.iff (.cmp .lt (.v 4) (.bi .len (.cons (.v 2) .nil))) (.cons (.set 6 (.cmp .gt (.cl 27 (.cons (.v 0) (.cons (.bin .add (.bin .add (.v 1) (.bin .mul (.c (.int 4)) (.v 4))) (.c (.int 3))) (.cons (.c (.int 3)) .nil)))) (.c (.int 0)))) (.cons (.set 3 (.bin .add (.v 3) (.tup (.cons (.jW (.v 6) (.tup (.cons (.c (.str [107,101,101,112])) (.cons (.c (.int 1)) .nil))) (.tup (.cons (.c (.str [100,114,111,112])) (.cons (.ix (.v 2) (.v 4)) .nil)))) .nil)))) .nil)) .nil) .nil))) (.cons (.ret (.v 3)) .nil)))⟩
noncomputable abbrev Aq:Ev.Ss:=(.cons (.exp (.me .append (.v 2) (.cons (.cl 7 (.cons (.bin .add (.cl 29 (.cons (.v 0) (.cons (.bin .add (.c (.int 10)) (.bin .mul (.c (.int 60)) (.v 4))) (.cons (.sl (.v 3) .no (.yes (.c (.int 3)))) .nil)))) (.bin .mul (.tup (.cons (.tup (.cons (.c (.str [107,101,101,112])) (.cons (.c (.int 1)) .nil))) .nil)) (.bi .max (.cons (.c (.int 0)) (.cons (.bin .sub (.bi .len (.cons (.v 3) .nil)) (.c (.int 3))) .nil))))) .nil)) .nil))) (.cons (.set 3 (.cl 17 (.cons (.ix (.v 2) (.neg (.c (.int 1)))) (.cons (.v 3) .nil)))) .nil))
noncomputable abbrev Ga:Ev.S:=.set 5 (.eG (.iN (.cl 10 (.cons (.v 2) .nil)) (.c (.str [10]))))
noncomputable abbrev Gb:Ev.S:=.iff (.orr (.cmp .ne (.v 5) (.bin .add (.comp (.cl 9 (.cons (.v 11) .nil)) (.one 11) (.seq (.v 2)) .no) (.lst (.cons (.c (.str [])) .nil)))) (.cmp .ne (.cl 12 (.cons (.cl 10 (.cons (.v 2) .nil)) .nil)) (.v 2))) (.cons (.ret (.c (.bl false))) .nil) .nil
noncomputable abbrev Gd:Ev.S:=.iff (.cmp .ne (.cl 17 (.cons (.cl 21 (.cons (.bi .len (.cons (.v 1) .nil)) (.cons (.cl 12 (.cons (.cl 10 (.cons (.v 2) .nil)) .nil)) .nil))) (.cons (.v 1) .nil))) (.v 3)) (.cons (.ret (.c (.bl false))) .nil) .nil
noncomputable abbrev Ar:Ev.Ss:=(.cons (.iff (.cmp .ne (.cl 25 (.cons (.v 6) (.cons (.v 9) .nil))) (.cmp .eq (.cl 9 (.cons (.cl 7 (.cons (.v 6) .nil)) .nil)) (.cl 9 (.cons (.cl 7 (.cons (.v 9) .nil)) .nil)))) (.cons (.ret (.c (.bl false))) .nil) .nil) .nil)
noncomputable abbrev As:Ev.Ss:=(.cons (.set 7 (.cl 9 (.cons (.v 6) .nil))) (.cons (.iff (.orr (.nt (.cl 0 (.cons (.v 6) .nil))) (.orr (.cmp .ne (.cl 11 (.cons (.v 7) .nil)) (.v 6)) (.cmp .ne (.cmp .eq (.v 7) (.c (.str []))) (.cmp .eq (.v 6) (.tup .nil))))) (.cons (.ret (.c (.bl false))) .nil) .nil) (.cons (.set 8 (.cl 9 (.cons (.cl 18 (.cons (.v 6) .nil)) .nil))) (.cons (.iff (.cmp .ne (.bi .sorted (.cons (.eG (.iN (.me .repl (.me .repl (.me .repl (.v 8) (.cons (.c (.str [43])) (.cons (.c (.str [42])) .nil))) (.cons (.c (.str [45])) (.cons (.c (.str [43])) .nil))) (.cons (.c (.str [42])) (.cons (.c (.str [45])) .nil))) (.c (.str [47])))) .nil)) (.bi .sorted (.cons (.eG (.iN (.v 7) (.c (.str [47])))) .nil))) (.cons (.ret (.c (.bl false))) .nil) .nil) (.cons (.for (.one 9) (.seq (.v 2)) Ar) .nil)))))
noncomputable abbrev Au:Ev.S:=.for (.one 6) (.seq (.v 2)) As
noncomputable abbrev Av:Ev.S:=.set 10 (.cl 29 (.cons (.v 0) (.cons (.c (.int 300)) (.cons (.v 1) .nil))))
noncomputable abbrev Aw:Ev.S:=.iff (.cmp .gt (.bi .len (.cons (.cl 9 (.cons (.cl 7 (.cons (.v 10) .nil)) .nil)) .nil)) (.bi .len (.cons (.cl 9 (.cons (.v 10) .nil)) .nil))) (.cons (.ret (.c (.bl false))) .nil) .nil
noncomputable abbrev wH:Ev.S:=.ret (.cl 25 (.cons (.cl 11 (.cons (.cl 9 (.cons (.sl (.v 10) .no (.yes (.c (.int 12)))) .nil)) .nil)) (.cons (.sl (.v 10) .no (.yes (.c (.int 12)))) .nil)))
noncomputable abbrev CL:Ev.Fn:=⟨1,12,(.cons (.set 1 (.cl 28 (.cons (.v 0) (.cons (.c (.int 0)) (.cons (.c (.int 4)) .nil))))) (.cons (.set 2 (.lst .nil)) (.cons (.set 3 (.v 1)) (.cons (.for (.one 4) (.gp (.cons (.cl 27 (.cons (.v 0) (.cons (.c (.int 5)) (.cons (.c (.int 4)) .nil)))) .nil)) Aq) (.cons Ga (.cons Gb (.cons Gd (.cons Au (.cons Av (.cons Aw (.cons wH .nil)))))))))))⟩
noncomputable def prog:List Ev.Fn:=[f0,f1,f2,f3,f4,f5,f6,f7,f8,f9,Bh,Nd,Nf,Ng,Nh,Ni,Nj,Nk,Nl,Nm,Nn,Np,Nq,Nr,Nt,Nu,Nv,Nx,Ny,Nz,CL]
end Lw
namespace Lw
open PySem PySem.Spec PyProof.Rows L2 Sm
open Ev (D O Hh Fr R aP E Es Eo T S Ss Fl Src bO bz TY BI ME)
noncomputable def top(i:Nat):Stmt:=PySem.Challenge.pw_pastways_k92_whole_forms_written.main.body.getD i (.Pass ⟨0,0,0,0⟩)
abbrev i0 (a:Nat->Addr) (d:Nat->FuncData):FI:=⟨"is_change",a 0,d 0,["thing"]⟩
abbrev i1 (a:Nat->Addr) (d:Nat->FuncData):FI:=⟨"is_part",a 1,d 1,["thing"]⟩
abbrev i2 (a:Nat->Addr) (d:Nat->FuncData):FI:=⟨"is_kept",a 2,d 2,["thing"]⟩
abbrev i3 (a:Nat->Addr) (d:Nat->FuncData):FI:=⟨"is_some",a 3,d 3,["thing"]⟩
abbrev i4 (a:Nat->Addr) (d:Nat->FuncData):FI:=⟨"size",a 4,d 4,["part"]⟩
abbrev i5 (a:Nat->Addr) (d:Nat->FuncData):FI:=⟨"before",a 5,d 5,["change"]⟩
abbrev i6 (a:Nat->Addr) (d:Nat->FuncData):FI:=⟨"after",a 6,d 6,["change"]⟩
abbrev i7 (a:Nat->Addr) (d:Nat->FuncData):FI:=⟨"form",a 7,d 7,["change"]⟩
abbrev i8 (a:Nat->Addr) (d:Nat->FuncData):FI:=⟨"stretch",a 8,d 8,["kept","gone","new"]⟩
abbrev i9 (a:Nat->Addr) (d:Nat->FuncData):FI:=⟨"change_text",a 9,d 9,["change"]⟩
abbrev NB (a:Nat->Addr) (d:Nat->FuncData):FI:=⟨"rows_text",a 10,d 10,["rows"]⟩
abbrev NC (a:Nat->Addr) (d:Nat->FuncData):FI:=⟨"read_change",a 11,d 11,["text"]⟩
abbrev i12 (a:Nat->Addr) (d:Nat->FuncData):FI:=⟨"read_rows",a 12,d 12,["text"]⟩
abbrev ND (a:Nat->Addr) (d:Nat->FuncData):FI:=⟨"read_part",a 13,d 13,["text"]⟩
abbrev NF (a:Nat->Addr) (d:Nat->FuncData):FI:=⟨"read_number",a 14,d 14,["text"]⟩
abbrev NG (a:Nat->Addr) (d:Nat->FuncData):FI:=⟨"lines_of",a 15,d 15,["text"]⟩
abbrev NH (a:Nat->Addr) (d:Nat->FuncData):FI:=⟨"fits",a 16,d 16,["change","text"]⟩
abbrev NI (a:Nat->Addr) (d:Nat->FuncData):FI:=⟨"done",a 17,d 17,["change","text"]⟩
abbrev NJ (a:Nat->Addr) (d:Nat->FuncData):FI:=⟨"undone",a 18,d 18,["change"]⟩
abbrev NK (a:Nat->Addr) (d:Nat->FuncData):FI:=⟨"nothing",a 19,d 19,["many"]⟩
abbrev NL (a:Nat->Addr) (d:Nat->FuncData):FI:=⟨"then",a 20,d 20,["one","other"]⟩
abbrev NN (a:Nat->Addr) (d:Nat->FuncData):FI:=⟨"all_then",a 21,d 21,["many","rows"]⟩
abbrev NO (a:Nat->Addr) (d:Nat->FuncData):FI:=⟨"met",a 22,d 22,["left","gone_through"]⟩
abbrev NP (a:Nat->Addr) (d:Nat->FuncData):FI:=⟨"taken",a 23,d 23,["parts","many"]⟩
abbrev NQ (a:Nat->Addr) (d:Nat->FuncData):FI:=⟨"parted",a 24,d 24,["part","many"]⟩
abbrev NR (a:Nat->Addr) (d:Nat->FuncData):FI:=⟨"alike",a 25,d 25,["one","other"]⟩
abbrev NS (a:Nat->Addr) (d:Nat->FuncData):FI:=⟨"_law_cell",a 26,d 26,["_law_script","_law_k"]⟩
abbrev NT (a:Nat->Addr) (d:Nat->FuncData):FI:=⟨"_law_drawn",a 27,d 27,["_law_script","_law_k","_law_many"]⟩
abbrev NU (a:Nat->Addr) (d:Nat->FuncData):FI:=⟨"_law_text",a 28,d 28,["_law_script","_law_at","_law_most"]⟩
abbrev NV (a:Nat->Addr) (d:Nat->FuncData):FI:=⟨"_law_change",a 29,d 29,["_law_script","_law_at","_law_text_here"]⟩
abbrev Ge (a:Nat->Addr) (d:Nat->FuncData):FI:=⟨"law",a 30,d 30,["_law_script"]⟩
noncomputable def ju:List Str:=["all","bool","int","isinstance","len","list","max","min","range","reversed","sorted","str","sum","tuple"]
def Ql:("all" : Str)∈ju:=by decide +kernel
def NW:("bool" : Str)∈ju:=by decide +kernel
def Gf:("int" : Str)∈ju:=by decide +kernel
def iM:("isinstance" : Str)∈ju:=by decide +kernel
def Qm:("len" : Str)∈ju:=by decide +kernel
def NX:("list" : Str)∈ju:=by decide +kernel
def Qn:("max" : Str)∈ju:=by decide +kernel
def Qo:("min" : Str)∈ju:=by decide +kernel
def yR:("range" : Str)∈ju:=by decide +kernel
def Ax:("reversed" : Str)∈ju:=by decide +kernel
def wI:("sorted" : Str)∈ju:=by decide +kernel
def Gg:("str" : Str)∈ju:=by decide +kernel
def Qp:("sum" : Str)∈ju:=by decide +kernel
def yS:("tuple" : Str)∈ju:=by decide +kernel
noncomputable def tb (a:Nat->Addr) (d:Nat->FuncData):Tb:=⟨prog,100000,[i0 a d,i1 a d,i2 a d,i3 a d,i4 a d,i5 a d,i6 a d,i7 a d,i8 a d,i9 a d,NB a d,NC a d,i12 a d,ND a d,NF a d,NG a d,NH a d,NI a d,NJ a d,NK a d,NL a d,NN a d,NO a d,NP a d,NQ a d,NR a d,NS a d,NT a d,NU a d,NV a d,Ge a d],ju,[("__name__",.str [108,97,119,95,112,97,115,116,119,97,121,115,95,107,57,50,95,119,104,111,108,101,95,102,111,114,109,115,95,119,114,105,116,116,101,110]),("SIGNS",.str [97,98,99,100,101,102,103,104,105,106,107,108,109,110,111,112,113,114,115,116,117,118,119,120,121,122,32]),("MOST_KEPT",.int 99),("MOST_SIGNS",.int 8),("MOST_PARTS",.int 12)],[("MARKS",[(.str [107,101,101,112],.str [61]),(.str [112,117,116],.str [43]),(.str [100,114,111,112],.str [45])]),("WORDS",[(.str [61],.str [107,101,101,112]),(.str [43],.str [112,117,116]),(.str [45],.str [100,114,111,112])]),("TURNED",[(.str [107,101,101,112],.str [107,101,101,112]),(.str [112,117,116],.str [100,114,111,112]),(.str [100,114,111,112],.str [112,117,116])])]⟩
section
variable{a:Nat->Addr}{d:Nat->FuncData}{n:Nat}
abbrev n0:List Str:=["thing"]
def s0:bg n0 ["thing"] (aJ (top 5)):=⟨rfl,rfl,rfl,by decide +kernel,rfl,by decide +kernel,by decide +kernel⟩
abbrev n1:List Str:=["thing"]
def s1:bg n1 ["thing"] (aJ (top 6)):=⟨rfl,rfl,rfl,by decide +kernel,rfl,by decide +kernel,by decide +kernel⟩
abbrev n2:List Str:=["thing"]
def s2:bg n2 ["thing"] (aJ (top 7)):=⟨rfl,rfl,rfl,by decide +kernel,rfl,by decide +kernel,by decide +kernel⟩
abbrev n3:List Str:=["thing"]
def s3:bg n3 ["thing"] (aJ (top 8)):=⟨rfl,rfl,rfl,by decide +kernel,rfl,by decide +kernel,by decide +kernel⟩
abbrev n4:List Str:=["part"]
def s4:bg n4 ["part"] (aJ (top 9)):=⟨rfl,rfl,rfl,by decide +kernel,rfl,by decide +kernel,by decide +kernel⟩
abbrev n5:List Str:=["change"]
def s5:bg n5 ["change"] (aJ (top 10)):=⟨rfl,rfl,rfl,by decide +kernel,rfl,by decide +kernel,by decide +kernel⟩
abbrev n6:List Str:=["change"]
def s6:bg n6 ["change"] (aJ (top 11)):=⟨rfl,rfl,rfl,by decide +kernel,rfl,by decide +kernel,by decide +kernel⟩
abbrev n7:List Str:=["change","parts","kept","gone","new","word","what"]
def s7:bg n7 ["change"] (aJ (top 12)):=⟨rfl,rfl,rfl,by decide +kernel,rfl,by decide +kernel,by decide +kernel⟩
abbrev n8:List Str:=["kept","gone","new","parts"]
def s8:bg n8 ["kept","gone","new"] (aJ (top 13)):=⟨rfl,rfl,rfl,by decide +kernel,rfl,by decide +kernel,by decide +kernel⟩
abbrev n9:List Str:=["change"]
def s9:bg n9 ["change"] (aJ (top 21)):=⟨rfl,rfl,rfl,by decide +kernel,rfl,by decide +kernel,by decide +kernel⟩
abbrev NY:List Str:=["rows"]
def QJ:bg NY ["rows"] (aJ (top 22)):=⟨rfl,rfl,rfl,by decide +kernel,rfl,by decide +kernel,by decide +kernel⟩
abbrev NZ:List Str:=["text","change"]
def EZ:bg NZ ["text"] (aJ (top 23)):=⟨rfl,rfl,rfl,by decide +kernel,rfl,by decide +kernel,by decide +kernel⟩
abbrev N1:List Str:=["text"]
def s12:bg N1 ["text"] (aJ (top 24)):=⟨rfl,rfl,rfl,by decide +kernel,rfl,by decide +kernel,by decide +kernel⟩
abbrev N2:List Str:=["text","word"]
def Vj:bg N2 ["text"] (aJ (top 25)):=⟨rfl,rfl,rfl,by decide +kernel,rfl,by decide +kernel,by decide +kernel⟩
abbrev N3:List Str:=["text"]
def Vk:bg N3 ["text"] (aJ (top 26)):=⟨rfl,rfl,rfl,by decide +kernel,rfl,by decide +kernel,by decide +kernel⟩
abbrev N4:List Str:=["text","lines"]
def Vl:bg N4 ["text"] (aJ (top 27)):=⟨rfl,rfl,rfl,by decide +kernel,rfl,by decide +kernel,by decide +kernel⟩
abbrev N5:List Str:=["change","text","place","part"]
def Vm:bg N5 ["change","text"] (aJ (top 30)):=⟨rfl,rfl,rfl,by decide +kernel,rfl,by decide +kernel,by decide +kernel⟩
abbrev N6:List Str:=["change","text","pieces","place","word","what"]
def Vn:bg N6 ["change","text"] (aJ (top 31)):=⟨rfl,rfl,rfl,by decide +kernel,rfl,by decide +kernel,by decide +kernel⟩
abbrev N7:List Str:=["change"]
def Vo:bg N7 ["change"] (aJ (top 32)):=⟨rfl,rfl,rfl,by decide +kernel,rfl,by decide +kernel,by decide +kernel⟩
abbrev N8:List Str:=["many"]
def Vp:bg N8 ["many"] (aJ (top 33)):=⟨rfl,rfl,rfl,by decide +kernel,rfl,by decide +kernel,by decide +kernel⟩
abbrev N9:List Str:=["one","other","ones","others","parts","many"]
def Vq:bg N9 ["one","other"] (aJ (top 34)):=⟨rfl,rfl,rfl,by decide +kernel,rfl,by decide +kernel,by decide +kernel⟩
abbrev Oa:List Str:=["many","rows","whole","change"]
def Vr:bg Oa ["many","rows"] (aJ (top 35)):=⟨rfl,rfl,rfl,by decide +kernel,rfl,by decide +kernel,by decide +kernel⟩
abbrev Ob:List Str:=["left","gone_through"]
def Vs:bg Ob ["left","gone_through"] (aJ (top 36)):=⟨rfl,rfl,rfl,by decide +kernel,rfl,by decide +kernel,by decide +kernel⟩
abbrev Oc:List Str:=["parts","many","halves"]
def Vt:bg Oc ["parts","many"] (aJ (top 37)):=⟨rfl,rfl,rfl,by decide +kernel,rfl,by decide +kernel,by decide +kernel⟩
abbrev Od:List Str:=["part","many","word"]
def Vu:bg Od ["part","many"] (aJ (top 38)):=⟨rfl,rfl,rfl,by decide +kernel,rfl,by decide +kernel,by decide +kernel⟩
abbrev Oe:List Str:=["one","other"]
def Vv:bg Oe ["one","other"] (aJ (top 40)):=⟨rfl,rfl,rfl,by decide +kernel,rfl,by decide +kernel,by decide +kernel⟩
abbrev Of:List Str:=["_law_script","_law_k"]
def Vw:bg Of ["_law_script","_law_k"] (aJ (top 42)):=⟨rfl,rfl,rfl,by decide +kernel,rfl,by decide +kernel,by decide +kernel⟩
abbrev Og:List Str:=["_law_script","_law_k","_law_many","_law_cell_here"]
def Vx:bg Og ["_law_script","_law_k","_law_many"] (aJ (top 43)):=⟨rfl,rfl,rfl,by decide +kernel,rfl,by decide +kernel,by decide +kernel⟩
abbrev Oh:List Str:=["_law_script","_law_at","_law_most"]
def Vy:bg Oh ["_law_script","_law_at","_law_most"] (aJ (top 44)):=⟨rfl,rfl,rfl,by decide +kernel,rfl,by decide +kernel,by decide +kernel⟩
abbrev Oi:List Str:=["_law_script","_law_at","_law_text_here","_law_found","_law_k","_law_new","_law_is_kept"]
def Vz:bg Oi ["_law_script","_law_at","_law_text_here"] (aJ (top 45)):=⟨rfl,rfl,rfl,by decide +kernel,rfl,by decide +kernel,by decide +kernel⟩
abbrev Oj:List Str:=["_law_script","_law_first","_law_rows","_law_text_here","_law_k","_law_lines","_law_one","_law_told","_law_back","_law_other","_law_change_here"]
def VA:bg Oj ["_law_script"] (aJ (top 46)):=⟨rfl,rfl,rfl,by decide +kernel,rfl,by decide +kernel,by decide +kernel⟩
set_option maxHeartbeats 0 in
def cL:allB (tb a d) n [(f0.body,top 5,n0),(f1.body,top 6,n1),(f2.body,top 7,n2),(f3.body,top 8,n3),(f4.body,top 9,n4),(f5.body,top 10,n5),(f6.body,top 11,n6),(f7.body,top 12,n7),(f8.body,top 13,n8),(f9.body,top 21,n9),(Bh.body,top 22,NY),(Nd.body,top 23,NZ),(Nf.body,top 24,N1),(Ng.body,top 25,N2),(Nh.body,top 26,N3),(Ni.body,top 27,N4),(Nj.body,top 30,N5),(Nk.body,top 31,N6),(Nl.body,top 32,N7),(Nm.body,top 33,N8),(Nn.body,top 34,N9),(Np.body,top 35,Oa),(Nq.body,top 36,Ob),(Nr.body,top 37,Oc),(Nt.body,top 38,Od),(Nu.body,top 40,Oe),(Nv.body,top 42,Of),(Nx.body,top 43,Og),(Ny.body,top 44,Oh),(Nz.body,top 45,Oi),(CL.body,top 46,Oj)]:=by
 refine⟨?_,?_,?_,?_,?_,?_,?_,?_,?_,?_,?_,?_,?_,?_,?_,?_,?_,?_,?_,?_,?_,?_,?_,?_,?_,?_,?_,?_,?_,?_,?_,trivial⟩;all_goals try dsimp only
 all_goals repeat (first
  | ((with_reducible show JE _ _ _ _ _ _ (.c _) (.Name _ _));refine nC (x:="MOST_KEPT") (.tail _ (.tail _ (.head _))))
  | ((with_reducible show JE _ _ _ _ _ _ (.c _) (.Name _ _));refine nC (x:="MOST_PARTS") (.tail _ (.tail _ (.tail _ (.tail _ (.head _))))))
  | ((with_reducible show JE _ _ _ _ _ _ _ (.BoolOp _ [_] _));refine J8 ?_)
  | ((with_reducible show JE _ _ _ _ _ _ (.c _) (.Name _ _));refine nC (x:="MOST_SIGNS") (.tail _ (.tail _ (.tail _ (.head _)))))
  | ((with_reducible show JE _ _ _ _ _ _ (.c _) (.Name _ _));refine nC (x:="SIGNS") (.tail _ (.head _)))
  | ((with_reducible show JT _ _ _ _ _ _ (.cmp .eE _ _) _);refine Ll (x:="WORDS") (.tail _ (.head _)) ?_)
  | ((with_reducible show jd _ _ _ _ _ _ (.cons (.set 1 (.cl 28 _)) _) _);refine BF 1 1 (by decide +kernel) (by decide +kernel) (by decide +kernel) rfl rfl ?_ ?_)
  | ((with_reducible show JE _ _ _ _ _ _ (.v _) _);exact jv (by decide +kernel))
  | ((with_reducible show JA _ _ _ _ _ _ (.cons _ _) _);refine GL ?_ ?_)
  | ((with_reducible show jd _ _ _ _ _ _ (.cons _ _) _);refine Dl ?_ ?_)
  | ((with_reducible show JA _ _ _ _ _ _ .nil _);refine J4)
  | ((with_reducible show jd _ _ _ _ _ _ .nil _);refine xC)
  | ((with_reducible show JE _ _ _ _ _ _ (.c (.int _)) _);refine J2)
  | ((with_reducible show JE _ _ _ _ _ _ (.cl _ _) _);refine UM (by decide +kernel) rfl rfl ?_)
  | ((with_reducible show JS _ _ _ _ _ _ (.ret _) _);refine Ks ?_)
  | ((with_reducible show JE _ _ _ _ _ _ (.c (.str _)) _);refine J3)
  | ((with_reducible show JS _ _ _ _ _ _ (.iff _ _ _) _);refine Ku ?_ ?_ ?_)
  | ((with_reducible show JE _ _ _ _ _ _ (.ix _ _) _);refine Pk (λX g=>Py) ?_ ?_)
  | ((with_reducible show JE _ _ _ _ _ _ (.bin .add _ _) _);refine mH (λX g=>KO) ?_ ?_)
  | ((with_reducible show JE _ _ _ _ _ _ (.tup _) _);refine J5 ?_)
  | ((with_reducible show JT _ _ _ _ _ _ (.cmp .ne _ _) _);refine mJ (λX g=>E9 g) ?_ ?_ (jK _))
  | ((with_reducible show JI _ _ _ _ _ _ (.seq _) _ _);refine Kn ?_)
  | ((with_reducible show JG _ _ _ _ _ _ (.one _) _);exact UK (by decide +kernel))
  | ((with_reducible show JT _ _ _ _ _ _ (.cmp .eq _ _) _);refine mJ (λX g=>E8 g) ?_ ?_ (jK _))
  | ((with_reducible show JE _ _ _ _ _ _ (.bi .len _) _);refine nD (x:="len") (id:="len") (λX g=>K3) ?_ (hb:=Qm) (hv:=by decide +kernel))
  | ((with_reducible show JO _ _ _ _ _ _ (.yes _) _);refine Kg ?_)
  | ((with_reducible show JE _ _ _ _ _ _ (.bin .mul _ _) _);refine mH (λX g=>K0) ?_ ?_)
  | ((with_reducible show JE _ _ _ _ _ _ (.comp _ _ _ _) _);refine PF (by decide +kernel) (by decide +kernel) ?_ ?_ ?_ ?_)
  | ((with_reducible show JS _ _ _ _ _ _ (.exp _) _);refine Kr ?_)
  | ((with_reducible show JE _ _ _ _ _ _ (.c (.bl _)) _);refine Pc)
  | ((with_reducible show JE _ _ _ _ _ _ (.sl _ _ _) _);refine Po (λX g=>KZ) ?_ ?_ ?_)
  | ((with_reducible show JC _ _ _ _ _ _ .no _);refine Pq)
  | ((with_reducible show JE _ _ _ _ _ _ (.lst _) _);refine J6 ?_)
  | ((with_reducible show JT _ _ _ _ _ _ (.orr _ _) _);refine S8 ?_ ?_)
  | ((with_reducible show JW _ _ _ _ _ _ (.orr _ _) (.BoolOp _ (_ :: _ :: _) _));refine A3 ?_ ?_)
  | ((with_reducible show JE _ _ _ _ _ _ (.me .append _ (.cons _ _)) _);refine zk Zb PySem.F.slot_list_append PySem.F.type_list_append (λX g=>Bq) rfl ?_ ?_)
  | ((with_reducible show JO _ _ _ _ _ _ .no _);refine Pn)
  | ((with_reducible show JT _ _ _ _ _ _ (.nt _) _);refine Pj ?_)
  | ((with_reducible show JW _ _ _ _ _ _ _ (.BoolOp .Or [_] _));refine GN ?_)
  | ((with_reducible show JS _ _ _ _ _ _ (.for _ _ _) _);refine Kw ?_ ?_ ?_)
  | ((with_reducible show sj _ _ _ _ _ _ (_ :: _) _);refine UL (by decide +kernel) ?_)
  | ((with_reducible show JS _ _ _ _ _ _ (.dS _) _);refine K8)
  | ((with_reducible show JE _ _ _ _ _ _ (.bin .mod _ _) _);refine mH (λX g=>KQ) ?_ ?_)
  | ((with_reducible show JT _ _ _ _ _ _ (.cmp .gt _ _) _);refine mJ (λX g=>Fb) ?_ ?_ (jK _))
  | ((with_reducible show JE _ _ _ _ _ _ (.eG (.iN _ _)) _);refine DB ?_ ?_)
  | ((with_reducible show JE _ _ _ _ _ _ (.cmp .eq _ _) _);refine uD (λX g=>E8 g) ?_ ?_ (jK _))
  | ((with_reducible show JE _ _ _ _ _ _ (.neg _) _);refine J7 ?_)
  | ((with_reducible show JG _ _ _ _ _ _ (.many _) _);refine GS ?_)
  | ((with_reducible show sj _ _ _ _ _ _ [] _);refine GR)
  | ((with_reducible show JE _ _ _ _ _ _ (.gX _) _);refine K7 ?_ (h1:=yS))
  | ((with_reducible show JE _ _ _ _ _ _ (.me .join _ (.cons _ _)) _);refine zk PySem.F.plainAttrs_str PySem.F.slot_str_join PySem.F.type_str_join (λX g=>G6) rfl ?_ ?_)
  | ((with_reducible show JE _ _ _ _ _ _ (.me .pop _ .nil) _);refine Kh Zb PySem.F.slot_list_pop PySem.F.type_list_pop (λX g=>K6) rfl ?_)
  | ((with_reducible show JE _ _ _ _ _ _ (.bin .fdiv _ _) _);refine mH (λX g=>G1) ?_ ?_)
  | ((with_reducible show JE _ _ _ _ _ _ (.me .extend _ (.cons _ _)) _);refine zk Zb PySem.F.slot_list_extend PySem.F.type_list_extend (λX g=>Br) rfl ?_ ?_)
  | ((with_reducible show JT _ _ _ _ _ _ (.an _ _) _);refine S7 ?_ ?_)
  | ((with_reducible show JW _ _ _ _ _ _ (.an _ _) (.BoolOp _ (_ :: _ :: _) _));refine EU ?_ ?_)
  | ((with_reducible show JW _ _ _ _ _ _ _ (.BoolOp .And [_] _));refine Kc ?_)
  | ((with_reducible show JI _ _ _ _ _ _ (.gp (.cons _ .nil)) _ _);refine GP ?_ (hb:=yR))
  | ((with_reducible show lY _ _ _ _ _ _ (.me .repl _ _) _);refine Lu ?_)
  | ((with_reducible show JE _ _ _ _ _ _ (.fz _ [.tuple]) _);refine pV (t:=.tuple) (T:="tuple") ?_ (by decide +kernel) (h1:=iM) (h2:=yS))
  | ((with_reducible show JE _ _ _ _ _ _ (.bi .all _) _);refine nD (x:="all") (id:="all") (λX g=>K1 g) ?_ (hb:=Ql) (hv:=by decide +kernel))
  | ((with_reducible show JE _ _ _ _ _ _ (.cmp .isin _ _) _);refine uD (λX g=>Px g) ?_ ?_ (by with_unfolding_all rfl))
  | ((with_reducible show JE _ _ _ _ _ _ (.bi .sum _) _);refine nD (x:="sum") (id:="sum") (λX g=>K2 g) ?_ (hb:=Qp) (hv:=by decide +kernel))
  | ((with_reducible show JC _ _ _ _ _ _ (.yes _) _);refine Ky ?_)
  | ((with_reducible show JE _ _ _ _ _ _ (.bi .fT _) _);refine EV (x:="str") (id:="str") (λX g=>Hf) ?_ (hb:=Gg) (hv:=by decide +kernel))
  | ((with_reducible show JE _ _ _ _ _ _ (.eG (.rev _)) _);refine G8 ?_ (h1:=NX) (hb:=Ax))
  | ((with_reducible show JE _ _ _ _ _ _ (.bin .sub _ _) _);refine mH (λX g=>KP) ?_ ?_)
  | ((with_reducible show JE _ _ _ _ _ _ (.bi .sorted _) _);refine nD (x:="sorted") (id:="sorted") (λX g=>sL) ?_ (hb:=wI) (hv:=by decide +kernel))
  | ((with_reducible show JE _ _ _ _ _ _ (.an _ _) (.BoolOp _ (_ :: _ :: _) _));refine Ph ?_ ?_)
  | ((with_reducible show JE _ _ _ _ _ _ (.fz _ [.bool]) _);refine pV (t:=.bool) (T:="bool") ?_ (by decide +kernel) (h1:=iM) (h2:=NW))
  | ((with_reducible show JE _ _ _ _ _ _ (.fz _ [.int]) _);refine pV (t:=.int) (T:="int") ?_ (by decide +kernel) (h1:=iM) (h2:=Gf))
  | ((with_reducible show JE _ _ _ _ _ _ (.ch _ _ _ _ _) _);refine Pd (λX g=>tV) (λX g=>tV) ?_ ?_ ?_)
  | ((with_reducible show JE _ _ _ _ _ _ (.fz _ [.str]) _);refine pV (t:=.str) (T:="str") ?_ (by decide +kernel) (h1:=iM) (h2:=Gg))
  | ((with_reducible show JT _ _ _ _ _ _ (.ch _ _ _ _ _) _);refine Pg (λX g=>tV) (λX g=>tV) ?_ ?_ ?_)
  | ((with_reducible show JE _ _ _ _ _ _ (.eB _ _) _);refine q9 (x:="MARKS") (.head _) ?_)
  | ((with_reducible show JE _ _ _ _ _ _ (.eB _ _) _);refine q9 (x:="WORDS") (.tail _ (.head _)) ?_)
  | ((with_reducible show JT _ _ _ _ _ _ (.cmp .eE _ _) _);refine mJ (λX g=>Ds g) ?_ ?_ (by with_unfolding_all rfl))
  | ((with_reducible show JI _ _ _ _ _ _ (.gp (.cons _ (.cons _ .nil))) _ _);refine GQ ?_ (hb:=yR))
  | ((with_reducible show JE _ _ _ _ _ _ (.bi .kW _) _);refine EV (x:="int") (id:="int") (λX g=>Hg) ?_ (hb:=Gf) (hv:=by decide +kernel))
  | ((with_reducible show JE _ _ _ _ _ _ (.eB _ _) _);refine q9 (x:="TURNED") (.tail _ (.tail _ (.head _))) ?_)
  | ((with_reducible show JS _ _ _ _ _ _ (.oB _ _) _);refine Kv ?_ ?_)
  | ((with_reducible show JE _ _ _ _ _ _ (.bi .min _) _);refine nD (x:="min") (id:="min") (λX g=>K4 g) ?_ (hb:=Qo) (hv:=by decide +kernel))
  | ((with_reducible show JT _ _ _ _ _ _ (.cmp .lt _ _) _);refine mJ (λX g=>Pw) ?_ ?_ (jK _))
  | ((with_reducible show JE _ _ _ _ _ _ (.cmp .gt _ _) _);refine uD (λX g=>Fb) ?_ ?_ (jK _))
  | ((with_reducible show JE _ _ _ _ _ _ (.jW _ _ _) _);refine J9 ?_ ?_ ?_)
  | ((with_reducible show JE _ _ _ _ _ _ (.bi .max _) _);refine nD (x:="max") (id:="max") (λX g=>K5 g) ?_ (hb:=Qn) (hv:=by decide +kernel))
  | ((with_reducible show xV _ _ _ _ _ _ (.cons (.c (.int _)) _) _);refine Hr ?_)
  | ((with_reducible show xV _ _ _ _ _ _ (.cons (.v _) _) _);refine DH ?_ ?_)
  | ((with_reducible show pC _ _ _ _ _ _ .nil _);exact Lq xC)
  | ((with_reducible show pC _ _ _ _ _ _ (.cons _ _) _);refine BD ?_ ?_)
  | ((with_reducible show u7 _ _ _ _ _ _ (.for _ _ _) _);refine Ho ?_ ?_ ?_)
  | ((with_reducible show u7 _ _ _ _ _ _ (.iff _ _ _) _);refine Hl ?_ ?_ ?_)
  | ((with_reducible show BC _ _ _ _ _ _ (.cmp .ne (.bi .sorted _) _) _);refine Hq (λX g=>E9 g) ?_ ?_ (jK _))
  | ((with_reducible show Lp _ _ _ _ _ _ (.cons _ _) _);refine DG ?_ ?_)
  | ((with_reducible show lY _ _ _ _ _ _ (.bi .sorted _) _);refine Lr (x:="sorted") (id:="sorted") (λX g=>sL) ?_ (hb:=wI) (hv:=by decide +kernel))
  | ((with_reducible show lY _ _ _ _ _ _ (.eG (.iN _ _)) _);refine BE ?_ ?_)
  | ((with_reducible show lY _ _ _ _ _ _ (.v _) _);refine PJ ?_)
  | ((with_reducible show JS _ _ _ _ _ _ (.set _ _) _);refine S6 ?_ ?_;decide +kernel)
  | ((with_reducible show JT _ _ _ _ _ _ _ _);refine Ke ?_)
  | ((with_reducible show u7 _ _ _ _ _ _ _ _);refine PL ?_)
  | ((with_reducible show BC _ _ _ _ _ _ _ _);refine PK ?_))
end
def fy{α:Type _}{l:List α}(h:l.length=1):∃a,l=[a]:=by
 rcases l with _|⟨a,_|⟨b,l⟩⟩<;>simp at h ⊢
def kB{α:Type _}{l:List α}(h:l.length=2):∃a b,l=[a,b]:=by
 rcases l with _|⟨a,l⟩
 .simp at h
 .obtain⟨b,rfl⟩:=fy (l:=l) (by simpa using h);exact⟨a,b,rfl⟩
def Ay{α:Type _}{l:List α}(h:l.length=3):∃a b c,l=[a,b,c]:=by
 rcases l with _|⟨a,l⟩
 .simp at h
 .obtain⟨b,c,rfl⟩:=kB (l:=l) (by simpa using h);exact⟨a,b,c,rfl⟩
structure Fg(K:PySem.W.Frag)(x:Str)(i:Nat)(p:Addr)(d:FuncData):Prop where
 a:PySem.W.nsIn K mainGlobals x=some (some (.ref p))
 f:uA K x x (top i) p d
def Fg.t{K:PySem.W.Frag}{h:Heap}{mg:Str->Option Value}{x:Str}{i:Nat}{p:Addr}{d:FuncData}{ps:List Str}(F:Fg K x i p d)(X:K.In h)(G:h.Ns mainGlobals mg)(b:Binds K d ps []):mg x=some (.ref p)/\PySem.W.keepIn K (.ref p)=true/\Binds K d ps []:=⟨Yg X G F.a,F.f.kp,b⟩
def all_mk {l:PySem.W.OpenLaw}{w:World}{K:PySem.W.Frag}{h:Heap}{mg:Str->Option Value}{fa p0 p1 p2 p3 p4 p5 p6 p7 p8 p9 Q6 Q7 Q8 Q9 Ra Rb Rc Rf Rg Rh Ri Rj Rk Rl Rm Rn Ro Rp Rq Rt Ol:Addr}{d0 d1 d2 d3 d4 d5 d6 d7 d8 d9 Ru Rw Rx Ry Rz RA RB RC RD RE RG RH RI RJ RK RL RM RN RP RQ Om:FuncData}(X:K.In h) (G:h.Ns mainGlobals mg) (VB:mg "law" = some (.ref fa))
  (F0:Fg K "is_change" 5 p0 d0)
  (F1:Fg K "is_part" 6 p1 d1)
  (F2:Fg K "is_kept" 7 p2 d2)
  (F3:Fg K "is_some" 8 p3 d3)
  (F4:Fg K "size" 9 p4 d4)
  (F5:Fg K "before" 10 p5 d5)
  (F6:Fg K "after" 11 p6 d6)
  (F7:Fg K "form" 12 p7 d7)
  (F8:Fg K "stretch" 13 p8 d8)
  (F9:Fg K "change_text" 21 p9 d9)
  (Oo:Fg K "rows_text" 22 Q6 Ru)
  (Oq:Fg K "read_change" 23 Q7 Rw)
  (Ot:Fg K "read_rows" 24 Q8 Rx)
  (Ou:Fg K "read_part" 25 Q9 Ry)
  (Ov:Fg K "read_number" 26 Ra Rz)
  (Ow:Fg K "lines_of" 27 Rb RA)
  (Ox:Fg K "fits" 30 Rc RB)
  (Oz:Fg K "done" 31 Rf RC)
  (OA:Fg K "undone" 32 Rg RD)
  (OB:Fg K "nothing" 33 Rh RE)
  (OC:Fg K "then" 34 Ri RG)
  (OD:Fg K "all_then" 35 Rj RH)
  (OE:Fg K "met" 36 Rk RI)
  (OF:Fg K "taken" 37 Rl RJ)
  (OG:Fg K "parted" 38 Rm RK)
  (OH:Fg K "alike" 40 Rn RL)
  (OI:Fg K "_law_cell" 42 Ro RM)
  (OJ:Fg K "_law_drawn" 43 Rp RN)
  (OL:Fg K "_law_text" 44 Rq RP)
  (OM:Fg K "_law_change" 45 Rt RQ)
  (CM:Fg K "law" 46 Ol Om)
  (z0:PySem.W.nsIn K mainGlobals "all" = some none)
  (z1:PySem.W.nsIn K mainGlobals "bool" = some none)
  (z2:PySem.W.nsIn K mainGlobals "int" = some none)
  (z3:PySem.W.nsIn K mainGlobals "isinstance" = some none)
  (z4:PySem.W.nsIn K mainGlobals "len" = some none)
  (z5:PySem.W.nsIn K mainGlobals "list" = some none)
  (z6:PySem.W.nsIn K mainGlobals "max" = some none)
  (z7:PySem.W.nsIn K mainGlobals "min" = some none)
  (z8:PySem.W.nsIn K mainGlobals "range" = some none)
  (z9:PySem.W.nsIn K mainGlobals "reversed" = some none)
  (RS:PySem.W.nsIn K mainGlobals "sorted" = some none)
  (RT:PySem.W.nsIn K mainGlobals "str" = some none)
  (RU:PySem.W.nsIn K mainGlobals "sum" = some none)
  (RW:PySem.W.nsIn K mainGlobals "tuple" = some none)
  {t0:Tok} (q0:PySem.W.nsIn K mainGlobals "__name__" = some (some (.str "law_pastways_k92_whole_forms_written" t0)))
  {t1:Tok} (q1:PySem.W.nsIn K mainGlobals "SIGNS" = some (some (.str "abcdefghijklmnopqrstuvwxyz " t1)))
  {t2:Tok} (q2:PySem.W.nsIn K mainGlobals "MOST_KEPT" = some (some (.int 99 t2)))
  {t3:Tok} (q3:PySem.W.nsIn K mainGlobals "MOST_SIGNS" = some (some (.int 8 t3)))
  {t4:Tok} (q4:PySem.W.nsIn K mainGlobals "MOST_PARTS" = some (some (.int 12 t4)))
  {Gh:Addr} (RX:PySem.W.nsIn K mainGlobals "MARKS" = some (some (.ref Gh))) (RY:PyProof.Rows.KTD.tabLook PyProof.Rows.KTD.flatLooks (λb=>K.lookup b) Gh [(au [107,101,101,112],PyData.str (au [61])),(au [112,117,116],PyData.str (au [43])),(au [100,114,111,112],PyData.str (au [45]))]=true) (RZ:PyProof.Rows.KTD.hashesOf (λb=>K.lookup b) Gh=([(au [107,101,101,112],PyData.str (au [61])),(au [112,117,116],PyData.str (au [43])),(au [100,114,111,112],PyData.str (au [45]))]:List (Str×PyData)).map λp=>(PySem.strKind l.prog w).hash p.1)
  {Gi:Addr} (R0:PySem.W.nsIn K mainGlobals "WORDS" = some (some (.ref Gi))) (R1:PyProof.Rows.KTD.tabLook PyProof.Rows.KTD.flatLooks (λb=>K.lookup b) Gi [(au [61],PyData.str (au [107,101,101,112])),(au [43],PyData.str (au [112,117,116])),(au [45],PyData.str (au [100,114,111,112]))]=true) (R3:PyProof.Rows.KTD.hashesOf (λb=>K.lookup b) Gi=([(au [61],PyData.str (au [107,101,101,112])),(au [43],PyData.str (au [112,117,116])),(au [45],PyData.str (au [100,114,111,112]))]:List (Str×PyData)).map λp=>(PySem.strKind l.prog w).hash p.1)
  {Gj:Addr} (R4:PySem.W.nsIn K mainGlobals "TURNED" = some (some (.ref Gj))) (R5:PyProof.Rows.KTD.tabLook PyProof.Rows.KTD.flatLooks (λb=>K.lookup b) Gj [(au [107,101,101,112],PyData.str (au [107,101,101,112])),(au [112,117,116],PyData.str (au [100,114,111,112])),(au [100,114,111,112],PyData.str (au [112,117,116]))]=true) (R6:PyProof.Rows.KTD.hashesOf (λb=>K.lookup b) Gj=([(au [107,101,101,112],PyData.str (au [107,101,101,112])),(au [112,117,116],PyData.str (au [100,114,111,112])),(au [100,114,111,112],PyData.str (au [112,117,116]))]:List (Str×PyData)).map λp=>(PySem.strKind l.prog w).hash p.1)
  : ∃fd:FuncData,(∀(s:Shared) (v:Value),BindsTo s fd ⟨[v],[]⟩ [("_law_script",v)])/\∀base:Heap,K.In base->base.Ns mainGlobals mg->iP l.prog w K mg base mE 60 fa fd ["_law_script"] (mF K prog 100000 60 30):=by
 have e:=VB.symm.trans (Yg X G CM.a);have z:Ol=fa:=by injection e with e;injection e with e;exact e.symm
 subst z
 let aa:Nat->Addr:=λk=>[p0,p1,p2,p3,p4,p5,p6,p7,p8,p9,Q6,Q7,Q8,Q9,Ra,Rb,Rc,Rf,Rg,Rh,Ri,Rj,Rk,Rl,Rm,Rn,Ro,Rp,Rq,Rt,Ol].getD k p0
 let dd:Nat->FuncData:=λk=>[d0,d1,d2,d3,d4,d5,d6,d7,d8,d9,Ru,Rw,Rx,Ry,Rz,RA,RB,RC,RD,RE,RG,RH,RI,RJ,RK,RL,RM,RN,RP,RQ,Om].getD k d0
 have T:Top l.prog w K mg (tb aa dd):=by
  refine⟨λf i c=>(show ∀i∈(tb aa dd).fi,mg i.name=some (.ref i.addr)/\PySem.W.keepIn K (.ref i.addr)=true/\Binds K i.fd i.ps []from ?_) i (Xx c),?_,?_,?_⟩
  .refine List.forall_mem_cons.mpr ⟨F0.t X G (F0.f.binds λ_ _ _ _ _ _ o g=>by obtain⟨_,rfl⟩:=fy g;rfl),?_⟩;refine List.forall_mem_cons.mpr ⟨F1.t X G (F1.f.binds λ_ _ _ _ _ _ o g=>by obtain⟨_,rfl⟩:=fy g;rfl),?_⟩;refine List.forall_mem_cons.mpr ⟨F2.t X G (F2.f.binds λ_ _ _ _ _ _ o g=>by obtain⟨_,rfl⟩:=fy g;rfl),?_⟩;refine List.forall_mem_cons.mpr ⟨F3.t X G (F3.f.binds λ_ _ _ _ _ _ o g=>by obtain⟨_,rfl⟩:=fy g;rfl),?_⟩;refine List.forall_mem_cons.mpr ⟨F4.t X G (F4.f.binds λ_ _ _ _ _ _ o g=>by obtain⟨_,rfl⟩:=fy g;rfl),?_⟩;refine List.forall_mem_cons.mpr ⟨F5.t X G (F5.f.binds λ_ _ _ _ _ _ o g=>by obtain⟨_,rfl⟩:=fy g;rfl),?_⟩;refine List.forall_mem_cons.mpr ⟨F6.t X G (F6.f.binds λ_ _ _ _ _ _ o g=>by obtain⟨_,rfl⟩:=fy g;rfl),?_⟩;refine List.forall_mem_cons.mpr ⟨F7.t X G (F7.f.binds λ_ _ _ _ _ _ o g=>by obtain⟨_,rfl⟩:=fy g;rfl),?_⟩;refine List.forall_mem_cons.mpr ⟨F8.t X G (F8.f.binds λ_ _ _ _ _ _ o g=>by obtain⟨_,_,_,rfl⟩:=Ay g;rfl),?_⟩;refine List.forall_mem_cons.mpr ⟨F9.t X G (F9.f.binds λ_ _ _ _ _ _ o g=>by obtain⟨_,rfl⟩:=fy g;rfl),?_⟩;refine List.forall_mem_cons.mpr ⟨Oo.t X G (Oo.f.binds λ_ _ _ _ _ _ o g=>by obtain⟨_,rfl⟩:=fy g;rfl),?_⟩;refine List.forall_mem_cons.mpr ⟨Oq.t X G (Oq.f.binds λ_ _ _ _ _ _ o g=>by obtain⟨_,rfl⟩:=fy g;rfl),?_⟩;refine List.forall_mem_cons.mpr ⟨Ot.t X G (Ot.f.binds λ_ _ _ _ _ _ o g=>by obtain⟨_,rfl⟩:=fy g;rfl),?_⟩;refine List.forall_mem_cons.mpr ⟨Ou.t X G (Ou.f.binds λ_ _ _ _ _ _ o g=>by obtain⟨_,rfl⟩:=fy g;rfl),?_⟩;refine List.forall_mem_cons.mpr ⟨Ov.t X G (Ov.f.binds λ_ _ _ _ _ _ o g=>by obtain⟨_,rfl⟩:=fy g;rfl),?_⟩;refine List.forall_mem_cons.mpr ⟨Ow.t X G (Ow.f.binds λ_ _ _ _ _ _ o g=>by obtain⟨_,rfl⟩:=fy g;rfl),?_⟩;refine List.forall_mem_cons.mpr ⟨Ox.t X G (Ox.f.binds λ_ _ _ _ _ _ o g=>by obtain⟨_,_,rfl⟩:=kB g;rfl),?_⟩;refine List.forall_mem_cons.mpr ⟨Oz.t X G (Oz.f.binds λ_ _ _ _ _ _ o g=>by obtain⟨_,_,rfl⟩:=kB g;rfl),?_⟩;refine List.forall_mem_cons.mpr ⟨OA.t X G (OA.f.binds λ_ _ _ _ _ _ o g=>by obtain⟨_,rfl⟩:=fy g;rfl),?_⟩;refine List.forall_mem_cons.mpr ⟨OB.t X G (OB.f.binds λ_ _ _ _ _ _ o g=>by obtain⟨_,rfl⟩:=fy g;rfl),?_⟩;refine List.forall_mem_cons.mpr ⟨OC.t X G (OC.f.binds λ_ _ _ _ _ _ o g=>by obtain⟨_,_,rfl⟩:=kB g;rfl),?_⟩;refine List.forall_mem_cons.mpr ⟨OD.t X G (OD.f.binds λ_ _ _ _ _ _ o g=>by obtain⟨_,_,rfl⟩:=kB g;rfl),?_⟩;refine List.forall_mem_cons.mpr ⟨OE.t X G (OE.f.binds λ_ _ _ _ _ _ o g=>by obtain⟨_,_,rfl⟩:=kB g;rfl),?_⟩;refine List.forall_mem_cons.mpr ⟨OF.t X G (OF.f.binds λ_ _ _ _ _ _ o g=>by obtain⟨_,_,rfl⟩:=kB g;rfl),?_⟩;refine List.forall_mem_cons.mpr ⟨OG.t X G (OG.f.binds λ_ _ _ _ _ _ o g=>by obtain⟨_,_,rfl⟩:=kB g;rfl),?_⟩;refine List.forall_mem_cons.mpr ⟨OH.t X G (OH.f.binds λ_ _ _ _ _ _ o g=>by obtain⟨_,_,rfl⟩:=kB g;rfl),?_⟩;refine List.forall_mem_cons.mpr ⟨OI.t X G (OI.f.binds λ_ _ _ _ _ _ o g=>by obtain⟨_,_,rfl⟩:=kB g;rfl),?_⟩;refine List.forall_mem_cons.mpr ⟨OJ.t X G (OJ.f.binds λ_ _ _ _ _ _ o g=>by obtain⟨_,_,_,rfl⟩:=Ay g;rfl),?_⟩;refine List.forall_mem_cons.mpr ⟨OL.t X G (OL.f.binds λ_ _ _ _ _ _ o g=>by obtain⟨_,_,_,rfl⟩:=Ay g;rfl),?_⟩;refine List.forall_mem_cons.mpr ⟨OM.t X G (OM.f.binds λ_ _ _ _ _ _ o g=>by obtain⟨_,_,_,rfl⟩:=Ay g;rfl),?_⟩;refine List.forall_mem_cons.mpr ⟨CM.t X G (CM.f.binds λ_ _ _ _ _ _ o g=>by obtain⟨_,rfl⟩:=fy g;rfl),?_⟩;exact λ_ h=>nomatch h
  .exact(show ∀x∈ju,mg x=none from List.forall_mem_cons.mpr ⟨XD X G z0,List.forall_mem_cons.mpr ⟨XD X G z1,List.forall_mem_cons.mpr ⟨XD X G z2,List.forall_mem_cons.mpr ⟨XD X G z3,List.forall_mem_cons.mpr ⟨XD X G z4,List.forall_mem_cons.mpr ⟨XD X G z5,List.forall_mem_cons.mpr ⟨XD X G z6,List.forall_mem_cons.mpr ⟨XD X G z7,List.forall_mem_cons.mpr ⟨XD X G z8,List.forall_mem_cons.mpr ⟨XD X G z9,List.forall_mem_cons.mpr ⟨XD X G RS,List.forall_mem_cons.mpr ⟨XD X G RT,List.forall_mem_cons.mpr ⟨XD X G RU,List.forall_mem_cons.mpr ⟨XD X G RW,λ_ h=>nomatch h⟩⟩⟩⟩⟩⟩⟩⟩⟩⟩⟩⟩⟩⟩)
  .exact λx d r=>(show ∀y∈(tb aa dd).cs,∃v u,mg y.1=some u/\RelV v u/\xB K y.2 v from List.forall_mem_cons.mpr ⟨⟨.str "law_pastways_k92_whole_forms_written",_,Yg X G q0,⟨_,rfl⟩,λ_ _=>⟨by decide +kernel,by decide⟩⟩,List.forall_mem_cons.mpr ⟨⟨.str "abcdefghijklmnopqrstuvwxyz ",_,Yg X G q1,⟨_,rfl⟩,λ_ _=>⟨by decide +kernel,by decide⟩⟩,List.forall_mem_cons.mpr ⟨⟨.int 99,_,Yg X G q2,⟨_,rfl⟩,λ_ _=>rfl⟩,List.forall_mem_cons.mpr ⟨⟨.int 8,_,Yg X G q3,⟨_,rfl⟩,λ_ _=>rfl⟩,List.forall_mem_cons.mpr ⟨⟨.int 12,_,Yg X G q4,⟨_,rfl⟩,λ_ _=>rfl⟩,λ_ h=>nomatch h⟩⟩⟩⟩⟩) (x,d) r
  .exact λx d r=>(show ∀y∈(tb aa dd).dk,∃a,mg y.1=some (.ref a)/\∀h:Heap,K.In h->StrTab l.prog w h a (tabOf y.2)from List.forall_mem_cons.mpr ⟨⟨Gh,Yg X G RX,λh q=>ZK l.prog w q RY (by decide +kernel) RZ⟩,List.forall_mem_cons.mpr ⟨⟨Gi,Yg X G R0,λh q=>ZK l.prog w q R1 (by decide +kernel) R3⟩,List.forall_mem_cons.mpr ⟨⟨Gj,Yg X G R4,λh q=>ZK l.prog w q R5 (by decide +kernel) R6⟩,λ_ h=>nomatch h⟩⟩⟩) (x,d) r
 refine⟨Om,λs v=>?_,λbase _ _=>?_⟩
 .obtain⟨F,H,kV,A,I,J,B,ct,C,e,_⟩:=CM.f.ex;rw[e];exact .of_eq rfl
 refine Bx (P:=l.prog) (w:=w) (base:=base) T (λn A0 f i c=>?_) 60 30 (Ge aa dd) rfl
 match f,c with
 |0,c=>obtain rfl:i0 aa dd=i:=M6 c;exact cj (i:=i0 aa dd) T A0 F0.f s0 rfl rfl (@allB.get _ _ _ 0 (f0.body,top 5,n0) cL rfl)
 |1,c=>obtain rfl:i1 aa dd=i:=M6 c;exact cj (i:=i1 aa dd) T A0 F1.f s1 rfl rfl (@allB.get _ _ _ 1 (f1.body,top 6,n1) cL rfl)
 |2,c=>obtain rfl:i2 aa dd=i:=M6 c;exact cj (i:=i2 aa dd) T A0 F2.f s2 rfl rfl (@allB.get _ _ _ 2 (f2.body,top 7,n2) cL rfl)
 |3,c=>obtain rfl:i3 aa dd=i:=M6 c;exact cj (i:=i3 aa dd) T A0 F3.f s3 rfl rfl (@allB.get _ _ _ 3 (f3.body,top 8,n3) cL rfl)
 |4,c=>obtain rfl:i4 aa dd=i:=M6 c;exact cj (i:=i4 aa dd) T A0 F4.f s4 rfl rfl (@allB.get _ _ _ 4 (f4.body,top 9,n4) cL rfl)
 |5,c=>obtain rfl:i5 aa dd=i:=M6 c;exact cj (i:=i5 aa dd) T A0 F5.f s5 rfl rfl (@allB.get _ _ _ 5 (f5.body,top 10,n5) cL rfl)
 |6,c=>obtain rfl:i6 aa dd=i:=M6 c;exact cj (i:=i6 aa dd) T A0 F6.f s6 rfl rfl (@allB.get _ _ _ 6 (f6.body,top 11,n6) cL rfl)
 |7,c=>obtain rfl:i7 aa dd=i:=M6 c;exact cj (i:=i7 aa dd) T A0 F7.f s7 rfl rfl (@allB.get _ _ _ 7 (f7.body,top 12,n7) cL rfl)
 |8,c=>obtain rfl:i8 aa dd=i:=M6 c;exact cj (i:=i8 aa dd) T A0 F8.f s8 rfl rfl (@allB.get _ _ _ 8 (f8.body,top 13,n8) cL rfl)
 |9,c=>obtain rfl:i9 aa dd=i:=M6 c;exact cj (i:=i9 aa dd) T A0 F9.f s9 rfl rfl (@allB.get _ _ _ 9 (f9.body,top 21,n9) cL rfl)
 |10,c=>obtain rfl:NB aa dd=i:=M6 c;exact cj (i:=NB aa dd) T A0 Oo.f QJ rfl rfl (@allB.get _ _ _ 10 (Bh.body,top 22,NY) cL rfl)
 |11,c=>obtain rfl:NC aa dd=i:=M6 c;exact cj (i:=NC aa dd) T A0 Oq.f EZ rfl rfl (@allB.get _ _ _ 11 (Nd.body,top 23,NZ) cL rfl)
 |12,c=>obtain rfl:i12 aa dd=i:=M6 c;exact cj (i:=i12 aa dd) T A0 Ot.f s12 rfl rfl (@allB.get _ _ _ 12 (Nf.body,top 24,N1) cL rfl)
 |13,c=>obtain rfl:ND aa dd=i:=M6 c;exact cj (i:=ND aa dd) T A0 Ou.f Vj rfl rfl (@allB.get _ _ _ 13 (Ng.body,top 25,N2) cL rfl)
 |14,c=>obtain rfl:NF aa dd=i:=M6 c;exact cj (i:=NF aa dd) T A0 Ov.f Vk rfl rfl (@allB.get _ _ _ 14 (Nh.body,top 26,N3) cL rfl)
 |15,c=>obtain rfl:NG aa dd=i:=M6 c;exact cj (i:=NG aa dd) T A0 Ow.f Vl rfl rfl (@allB.get _ _ _ 15 (Ni.body,top 27,N4) cL rfl)
 |16,c=>obtain rfl:NH aa dd=i:=M6 c;exact cj (i:=NH aa dd) T A0 Ox.f Vm rfl rfl (@allB.get _ _ _ 16 (Nj.body,top 30,N5) cL rfl)
 |17,c=>obtain rfl:NI aa dd=i:=M6 c;exact cj (i:=NI aa dd) T A0 Oz.f Vn rfl rfl (@allB.get _ _ _ 17 (Nk.body,top 31,N6) cL rfl)
 |18,c=>obtain rfl:NJ aa dd=i:=M6 c;exact cj (i:=NJ aa dd) T A0 OA.f Vo rfl rfl (@allB.get _ _ _ 18 (Nl.body,top 32,N7) cL rfl)
 |19,c=>obtain rfl:NK aa dd=i:=M6 c;exact cj (i:=NK aa dd) T A0 OB.f Vp rfl rfl (@allB.get _ _ _ 19 (Nm.body,top 33,N8) cL rfl)
 |20,c=>obtain rfl:NL aa dd=i:=M6 c;exact cj (i:=NL aa dd) T A0 OC.f Vq rfl rfl (@allB.get _ _ _ 20 (Nn.body,top 34,N9) cL rfl)
 |21,c=>obtain rfl:NN aa dd=i:=M6 c;exact cj (i:=NN aa dd) T A0 OD.f Vr rfl rfl (@allB.get _ _ _ 21 (Np.body,top 35,Oa) cL rfl)
 |22,c=>obtain rfl:NO aa dd=i:=M6 c;exact cj (i:=NO aa dd) T A0 OE.f Vs rfl rfl (@allB.get _ _ _ 22 (Nq.body,top 36,Ob) cL rfl)
 |23,c=>obtain rfl:NP aa dd=i:=M6 c;exact cj (i:=NP aa dd) T A0 OF.f Vt rfl rfl (@allB.get _ _ _ 23 (Nr.body,top 37,Oc) cL rfl)
 |24,c=>obtain rfl:NQ aa dd=i:=M6 c;exact cj (i:=NQ aa dd) T A0 OG.f Vu rfl rfl (@allB.get _ _ _ 24 (Nt.body,top 38,Od) cL rfl)
 |25,c=>obtain rfl:NR aa dd=i:=M6 c;exact cj (i:=NR aa dd) T A0 OH.f Vv rfl rfl (@allB.get _ _ _ 25 (Nu.body,top 40,Oe) cL rfl)
 |26,c=>obtain rfl:NS aa dd=i:=M6 c;exact cj (i:=NS aa dd) T A0 OI.f Vw rfl rfl (@allB.get _ _ _ 26 (Nv.body,top 42,Of) cL rfl)
 |27,c=>obtain rfl:NT aa dd=i:=M6 c;exact cj (i:=NT aa dd) T A0 OJ.f Vx rfl rfl (@allB.get _ _ _ 27 (Nx.body,top 43,Og) cL rfl)
 |28,c=>obtain rfl:NU aa dd=i:=M6 c;exact cj (i:=NU aa dd) T A0 OL.f Vy rfl rfl (@allB.get _ _ _ 28 (Ny.body,top 44,Oh) cL rfl)
 |29,c=>obtain rfl:NV aa dd=i:=M6 c;exact cj (i:=NV aa dd) T A0 OM.f Vz rfl rfl (@allB.get _ _ _ 29 (Nz.body,top 45,Oi) cL rfl)
 |30,c=>obtain rfl:Ge aa dd=i:=M6 c;exact cj (i:=Ge aa dd) T A0 CM.f VA rfl rfl (@allB.get _ _ _ 30 (CL.body,top 46,Oj) cL rfl)
 |j+31,c=>exact nomatch (show(none:Option FI)=some i from c)
end Lw
namespace Lg
open Pv
open Lw (prog CL Aq Ar As Ga Gb Gd Au Av Aw wH)
open Ev (deep big rep cut bL)
section
variable{w n:Nat}{ns:List Int}
def kL{P:aP}{g i:Nat}{fr:Fr}{l:List V}{v:V}(e:fr[i]?=some (some (.own l)))(h:P g [.bor l]=some (v,[l])):ff P g [.inl i] fr=.ok v (fr.set i (some (.own l))):=by
 have a:lent fr i=some (.bor l):=by rw[yr,e];rfl
 simp[ff,bR,args,a,h,back,e,Sl.with]
def ON{rows:List (List Pt)}(hr:∀c∈rows,Wide c)(hl:rows.length<=100):run prog w (n+2) 10 [.bor (rows.map aC)]=some (.str (rt rows),[rows.map aC]):=by
 have b:b8 (fq (run prog w (n+1)) (.bin .add (.cl 9 (.cons (.v 1) .nil)) (.c (.str [10]))) (.one 1) .no [some (.bor (rows.map aC)),none]) (rows.map aC)=some (rows.map λc=>.str (ct c++[10])):=
  dj _ _ _ λc a=>by
   have:=nv (hr c a);exact dY rfl (bK (bI (bu rfl (az rfl) aU) (bU (j9 (F:=prog) (i:=9) rfl (hr c a)))) (aQ rfl) (fj (by simp;omega)))
 have d:dw .join (.str []) [.lst (rows.map λc=>V.str (ct c++[10]))]=some (.str (rt rows)):=by
  have e:=CA hr;have:=zP (l:=rows.map λc=>ct c++[10]) (by unfold rt at e;omega)
  rwa [XH]at this
 exact bQ (fn:=wR 9) rfl rfl (ai (bB (j0 rfl (aQ rfl) (ay (fE (dD (dz rfl) rfl) rfl b (cE (bE (by simp;omega)))) aN) d) ⟨rfl,rfl⟩))
def jU{c:List Pt}(h:Wide c)(fr:Fr):ff (run prog w (n+1)) 9 [.inr (aC c)] fr=.ok (.str (ct c)) fr:=bU (j9 (F:=prog) (i:=9) rfl h)
def qE{c:List Pt}(h:Wide c):run prog w (n+4) 11 [.val (.str (ct c))]=some (aC c,[]):=kc (F:=prog) (cV:=2) (cW:=3) (fH:=1) (lS:=0) (iY:=14) (ny:=13) (i:=11) rfl rfl rfl rfl rfl rfl rfl h
def OO{rows:List (List Pt)}(hr:∀c∈rows,Wide c)(hl:rows.length<=100):run prog w (n+5) 12 [.val (.str (rt rows))]=some (.lst (rows.map aC),[]):=tN (F:=prog) (cV:=2) (cW:=3) (fH:=1) (lS:=0) (iY:=14) (ny:=13) (Ew:=15) (Am:=11) (i:=12) rfl rfl rfl rfl rfl rfl rfl rfl rfl hr hl
def OP{a b:List Pt}(ha:Wide a)(hb:Wide b)(h:ct a=ct b):a=b:=by
 have d:=qE (w:=0) (n:=0) ha;have g:=qE (w:=0) (n:=0) hb;rw[h,g]at d;have e:=(Prod.mk.inj (M6 d)).1;have f:=m8 a a;rw[show aC a=aC b from e.symm]at f;have c:=m8 b a;rw[show aC a=aC b from e.symm]at c;rw[f]at c;simpa[eq_comm]using c
def lT{c:List Pt}(h:Wide c):tot c<=12*99:=by
 have:∀(c:List Pt),(∀p∈c,WP p)->tot c<=c.length*99:=λc=>by
  induction c with
  |nil=>intro _;simp[tot]
  |cons p c b=>
   intro a;have d:=b λq e=>a q (by simp[e]);have f:p.n<=99:=by
    have:=a p (by simp);cases p with
    |keep n=>exact this.2
    |put s=>have:=this.2.1;simp[Pt.n];omega
    |drop s=>have:=this.2.1;simp[Pt.n];omega
   rw[bZ,Xo];omega
 have d:=this c h.pt;have f:=h.len;omega
theorem yT:∀v:List Nat,bf (List.replicate v.length (.keep 1)) v=true/\aM (List.replicate v.length (.keep 1)) v=v
 |[]=>⟨rfl,rfl⟩
 |d :: v=>by
  have a:=yT v;rw[Xo,VR];constructor
  .simp only[bf,Xo,Ye,X6,a.1];simp
  .simp only[aM,Ye,X6,a.2];simp
noncomputable def row(ns:List Int)(a:Int)(u:List Nat):List Pt:=aK (chg ns a (u.take 3)++List.replicate (u.length - 3) (.keep 1))
def IM(ns:List Int)(a:Int)(u:List Nat):bf (row ns a u) u=true/\(aM (row ns a u) u).length<=u.length+12/\tot (row ns a u)<=12+u.length/\aK (row ns a u)=row ns a u:=by
 have c:=Iu ns a (u.take 3);have b:=yT (u.drop 3);rw[YG]at b;have A:=ID c b.1;rw[List.take_append_drop]at A;have d:=vV (chg ns a (u.take 3)) (u.take 3);obtain⟨g,h⟩:=FQ ns a (u.take 3) 3 (by simp;omega);have e:tot (List.replicate (u.length - 3) (Pt.keep 1))=u.length - 3:=by
  generalize u.length - 3=m
  induction m with
  |zero=>rfl
  |succ m f=>rw[VR,bZ,f];simp[Pt.n];omega
 unfold row;refine⟨by rw[lP];exact A.1,?_,?_,jk _⟩
 .rw[eZ,A.2,b.2,T7,YG];simp at d;omega
 .rw[gb,fJ,e];omega
def VC(l:Nat):b7 .max [.int 0,.int ((l:Int) - 3)]=some (.int ((l - 3:Nat):Int)):=by
 rw[Mb]
 congr 2
 split<;>omega
noncomputable def rF(ns:List Int)(t:List Nat)(rs:List (List Pt))(x4:Option Sl):Fr:=[some (.val (gy ns)),some (.val (.str t)),some (.own (rs.map aC)),some (.val (.str (b6 t rs))),x4]++List.replicate 7 none
structure qF(t:List Nat)(rs:List (List Pt))(k:Nat):Prop where
 ln:rs.length=k
 wd:∀c∈rs,Wide c/\aK c=c
 ch:Ch t rs
 ok:gr (b6 t rs)
 lt:(b6 t rs).length<=4+12*k
 tt:gv rs<=60*k
variable(hn:ns.length<=63)
include hn
theorem EA{t:List Nat}{rs:List (List Pt)}{k:Nat}{x4:Option Sl}{Q:Fl->Fr->Prop}(R:qF t rs k)(hk:k<3)(h4:vo x4)(q:∀rs' x4,qF t rs' (k+1)->vo x4->Q .nx (rF ns t rs' x4)) :
  Wp (turnF (run prog w (n+9)) w (.one 4) Aq (.int ((0:Int)+(k:Nat))) (rF ns t rs x4)) Q:=by
 obtain⟨f1,f2,f3,f4⟩:=IM ns (10+60*((0:Int)+(k:Nat))) (b6 t rs);have lt:=R.lt;have x:=R.tt;have W:=Ez ns (10+60*((0:Int)+(k:Nat))) R.ok (by omega);have y:=R.ln;have VD:=λfr=>gF (fr:=fr) (qo (F:=prog) (c:=26) (dr:=27) (t:=29) (w:=w) (n:=n+6) rfl rfl hn rfl (10+60*((0:Int)+(k:Nat))) ((b6 t rs).take 3) (by simp;omega));obtain⟨A,B⟩:=FQ ns (10+60*((0:Int)+(k:Nat))) ((b6 t rs).take 3) 3 (by simp;omega);have f:=λfr=>bU (fr:=fr) (ee (F:=prog) (aV:=8) (i:=7) (w:=w) (n:=n+7) rfl rfl (chg ns (10+60*((0:Int)+(k:Nat))) ((b6 t rs).take 3)++List.replicate ((b6 t rs).length - 3) (.keep 1)) (by rw[T7,Yl];omega) (by have:=f3;unfold row at this;rw[gb]at this;omega));have g:b7 .len [.str (b6 t rs)]=some (.int ((b6 t rs).length:Nat)):=YK (by omega);have j:fB (.str (b6 t rs)) none (some 3)=some (.str ((b6 t rs).take 3)):=by
  rw[gk];exact Xp (λz=>some (V.str z)) (qy (b6 t rs) 3)
 have l:Pv.bX .mul (.tup [.tup [.str [107,101,101,112],.int 1]]) (.int (((b6 t rs).length - 3:Nat):Int))=some (.tup (List.replicate ((b6 t rs).length - 3) (Pt.v (.keep 1)))):=by
  rw[DT (by omega) (by omega) (by simp),rG];rfl
 have o:Pv.bX .add (aC (chg ns (10+60*((0:Int)+(k:Nat))) ((b6 t rs).take 3))) (.tup (List.replicate ((b6 t rs).length - 3) (Pt.v (.keep 1))))=some (aC (chg ns (10+60*((0:Int)+(k:Nat))) ((b6 t rs).take 3)++List.replicate ((b6 t rs).length - 3) (.keep 1))):=by
  show Pv.bX .add (.tup _) (.tup _)=_;rw[vt (by rw[XA,Yl];omega)];show _=some (V.tup (List.map Pt.v _));rw[Xz,List.map_replicate]
 have p:=λfr=>call2 (fr:=fr) (vW (F:=prog) (aO:=4) (nh:=16) (i:=17) (w:=w) (n:=n+6) rfl rfl rfl (row ns (10+60*((0:Int)+(k:Nat))) (b6 t rs)) (b6 t rs) (by omega) (by omega) (by have:=W.len;unfold row;omega) f1);have lst:fN (.lst (rs.map aC++[aC (row ns (10+60*((0:Int)+(k:Nat))) (b6 t rs))])) (.int (-1))=some (aC (row ns (10+60*((0:Int)+(k:Nat))) (b6 t rs))):=iu;have d:b6 t (rs++[row ns (10+60*((0:Int)+(k:Nat))) (b6 t rs)])=aM (row ns (10+60*((0:Int)+(k:Nat))) (b6 t rs)) (b6 t rs):=by unfold b6;rw[X8];rfl
 refine dX (bind1 rfl h4) ?_;refine ai (gG (zV rfl rfl (ay (bI (bu rfl (bK (bI (bu rfl (az rfl) (bu rfl (bK (aQ rfl) (bK (aQ rfl) (az rfl) (lG (by simp[Ev.cB]))) fh) (bu rfl (iQ (az rfl) gn (eV (aQ rfl)) j) aU))) (VD _)) (bK (fu (ay (fu (ay (aQ rfl) (ay (aQ rfl) aN)) jz) aN) qh) (cZ (ay (aQ rfl) (ay (bK (cZ (ay (az rfl) aN) g) (aQ rfl) vv) aN)) (VC _)) l) o) aU) (f _)) aN) (nN (by simp;omega))) ?_);refine ai (bF (bI (bu rfl (fK (az rfl) (Fx (aQ rfl)) lst) (bu rfl (az rfl) aU)) (p _)) rfl rfl (av ?_));have:=q (rs++[row ns (10+60*((0:Int)+(k:Nat))) (b6 t rs)]) _ ?_ (.val (v:=.int ((0:Int)+(k:Nat))))
 .unfold rF at this;rw[Xz,d]at this;exact this
 .refine⟨by rw[T7,R.ln];rfl,λc r=>?_,Ct.mpr ⟨R.ch,f1,trivial⟩,?_,?_,?_⟩
  .rcases List.mem_append.mp r with h|h
   .exact R.wd c h
   .rw[XG]at h;subst h;exact⟨W,f4⟩
  .rw[d];exact nY _ _ R.ok (IK W)
  .rw[d];omega
  .have:∀a b:List (List Pt),gv (a++b)=gv a+gv b:=λa b=>by simp[gv]
   rw[this];have e:gv [row ns (10+60*((0:Int)+(k:Nat))) (b6 t rs)]=tot (row ns (10+60*((0:Int)+(k:Nat))) (b6 t rs)):=by simp[gv]
   rw[e];omega
omit hn in
theorem IP{c:List Pt}(hc:∀p∈c,FZ 100 100 99 p)(hl:c.length<=50):run prog w (n+1) 9 [.val (aC c)]=some (.str (ct c),[]):=by
 have tl:∀p∈c,p.t.length<=101:=λp a=>by
  have:=hc p a;cases p with
  |keep k=>have:=nZ this.2;simp[Pt.t];omega
  |put s=>have:=this.2.1;simp[Pt.t];omega
  |drop s=>have:=this.2.1;simp[Pt.t];omega
 have f:b8 (fq (run prog w n) (.bin .add (.eB [(.str [107,101,101,112],.str [61]),(.str [112,117,116],.str [43]),(.str [100,114,111,112],.str [45])] (.v 1)) (.bi .fT (.cons (.v 2) .nil))) (.many [1,2]) .no [some (.val (aC c)),none,none]) (c.map Pt.v)=some (c.map λp=>.str p.t):=
  dj _ _ _ λp e=>by
   have a:=hc p e;have d:=tl p e;cases p with
   |keep k=>exact dY rfl (bK (fW (az rfl) rfl) (cZ (ay (az rfl) aN) (wu a.2)) (fj (by simp[Pt.t]at d ⊢;omega)))
   |put s=>exact dY rfl (bK (fW (az rfl) rfl) (cZ (ay (az rfl) aN) rfl) (fj (by simp[Pt.t]at d ⊢;omega)))
   |drop s=>exact dY rfl (bK (fW (az rfl) rfl) (cZ (ay (az rfl) aN) rfl) (fj (by simp[Pt.t]at d ⊢;omega)))
 have g:dw .join (.str [47]) [.lst (c.map λp=>V.str p.t)]=some (.str (ct c)):=by
  have:=FU (s:=[47]) (l:=c.map Pt.t) (b:=101) (λp a=>by
   obtain⟨q,h,rfl⟩:=List.mem_map.mp a;exact tl q h) (by simp;omega)
  rwa [XH]at this
 exact bQ (fn:=mh) rfl rfl (ai (bB (j0 rfl (aQ rfl) (ay (fE (dD (dz rfl) rfl) rfl f (cE (bE (by simp;omega)))) aN) g) ⟨rfl,rfl⟩))
omit hn in
theorem yU{x:List Nat}{l:List (List Nat)}(e:Ev.aS 47 x=l)(hl:l.length<=12):mV (.str x) (.str [47])=some (l.map V.str)/\eH (l.map V.str)=some (.lst (l.map V.str))/\b7 .sorted [.lst (l.map V.str)]=some (.lst ((Ev.bJ l).map V.str)):=by
 refine⟨?_,cE (bE (by simp;omega)),?_⟩
 .show(if 47<128 then some ((Ev.aS 47 x).map V.str)else none)=_;rw[IC (by decide),e]
 .show((lZ _).bind strsOf).bind _=_;rw[HM,Option.bind_some,II,Option.bind_some,IC (by omega)];exact cE (bE (by rw[XA,wA];omega))
omit hn in
theorem wJ{c:List Pt}(h:Wide c):(Ev.aS 47 (ct c)).length<=12:=by
 by_cases a:c=[]
 .subst a;decide
 .rw[lR h a,XA];exact h.len
omit hn in
theorem Az{p q:Nat}{a:List Nat}(h:p≠q)(hl:a.length<=100000):dw .repl (.str a) [.str [p],.str [q]]=some (.str (Ev.dW p q a)):=by
 show(if p≠q/\a.length<=100000 then _ else _)=_;rw[IC ⟨h,hl⟩]
omit hn in
theorem rO(p q:Nat)(a:List Nat):(Ev.dW p q a).length=a.length:=by simp[Ev.dW]
noncomputable def oF(ns:List Int)(t:List Nat)(rs:List (List Pt))(x4:Option Sl)(L:List V)(x6 x7 x8 x9:Option Sl):Fr:=[some (.val (gy ns)),some (.val (.str t)),some (.val (.lst (rs.map aC))),some (.val (.str (b6 t rs))),x4,some (.own L),x6,x7,x8,x9,none,none]
omit hn in
theorem AA{t:List Nat}{rs:List (List Pt)}{x4 x7 x8 x9:Option Sl}{L:List V}{c d:List Pt}{Q:Fl->Fr->Prop}(hc:Wide c/\aK c=c)(hd:Wide d/\aK d=d)(h9:vo x9)(q:Q .nx (oF ns t rs x4 L (some (.val (aC c))) x7 x8 (some (.val (aC d))))) :
  Wp (turnF (run prog w (n+9)) w (.one 9) Ar (aC d) (oF ns t rs x4 L (some (.val (aC c))) x7 x8 x9)) Q:=by
 have g:=lT hc.1;have j:=lT hd.1;have k:=hc.1.len;have l:=hd.1.len;have al:=λfr=>call2 (fr:=fr) (sY (F:=prog) (aV:=8) (bM:=7) (i:=25) (w:=w) (n:=n+6) rfl rfl rfl c d (by omega) (by omega) (by omega) (by omega));have a:=λfr=>bU (fr:=fr) (ee (F:=prog) (aV:=8) (i:=7) (w:=w) (n:=n+7) rfl rfl c (by omega) (by omega));have f:=λfr=>bU (fr:=fr) (ee (F:=prog) (aV:=8) (i:=7) (w:=w) (n:=n+7) rfl rfl d (by omega) (by omega));rw[hc.2,hd.2]at al;rw[hc.2]at a;rw[hd.2]at f;have e:decide (ct c=ct d)=decide (c=d):=decide_eq_decide.mpr ⟨OP hc.1 hd.1,λh=>by rw[h]⟩;refine dX (bind1 rfl h9) ?_;refine ai (aG (b:=false) (aF rfl (bV (bI (bu rfl (az rfl) (bu rfl (az rfl) aU)) (al _)) (bV (bI (bu rfl (bI (bu rfl (az rfl) aU) (a _)) aU) (jU hc.1 _)) (bI (bu rfl (bI (bu rfl (az rfl) aU) (f _)) aU) (jU hd.1 _)) iH) ?_) rfl) (zf ·) λ_=>av (av q));rw[e,iF];cases decide (c=d)<;>rfl
omit hn in
theorem EB{t:List Nat}{rs:List (List Pt)}{x4 x6 x7 x8 x9:Option Sl}{L:List V}{c:List Pt}{Q:Fl->Fr->Prop}(hr:∀c∈rs,Wide c/\aK c=c)(hc:c∈rs)(h6:vo x6)(h7:vo x7)(h8:vo x8)(h9:vo x9)(q:∀x6 x7 x8 x9,vo x6->vo x7->vo x8->vo x9->Q .nx (oF ns t rs x4 L x6 x7 x8 x9)) :
  Wp (turnF (run prog w (n+9)) w (.one 6) As (aC c) (oF ns t rs x4 L x6 x7 x8 x9)) Q:=by
 obtain⟨f,r⟩:=hr c hc;have X:=lT f;have Y:=f.len;have o:=tu f r;have z:=λfr=>bU (fr:=fr) (mq (F:=prog) (cV:=2) (cW:=3) (fH:=1) (i:=0) (w:=w) (n:=n+6) rfl rfl rfl rfl f);have A:=λfr=>bU (fr:=fr) (qE (w:=w) (n:=n+5) f);have B:=λfr=>bU (fr:=fr) (Ae (F:=prog) (aV:=8) (bM:=7) (i:=18) (w:=w) (n:=n+6) rfl rfl rfl c (by omega) (by omega));have Z:=nv f;have ul:=nv o;have C:Ev.dW 42 45 (Ev.dW 45 43 (Ev.dW 43 42 (ct (eX c))))=ct (sw (eX c)):=by rw[M9 (yN o),FY o]
 obtain⟨G,H,y⟩:=yU (x:=Ev.dW 42 45 (Ev.dW 45 43 (Ev.dW 43 42 (ct (eX c))))) rfl (by rw[C];exact wJ (rM o));obtain⟨I,J,K⟩:=yU (x:=ct c) rfl (wJ f);rw[Nb f r]at y;have M:Pv.cop .ne (.lst ((Ev.bJ (Ev.aS 47 (ct c))).map V.str)) (.lst ((Ev.bJ (Ev.aS 47 (ct c))).map V.str))=some false:=by
  have:∀l:List (List Nat),cC (cO (18+1)) (l.map V.str) (l.map V.str)=some true:=λl=>by
   rw[g9 (g:=V.str) (λa b=>qi) l l];simp
  rw[iF,nM,this];rfl
 have N:Pv.cop .ne (aC c) (aC c)=some false:=by rw[iF,m8];simp
 have P:Pv.cop .eq (aC c) (.tup [])=some (decide (c=[])):=m8 c [];have W:Pv.cop .ne (.bl (decide (ct c=[]))) (.bl (decide (c=[])))=some false:=by
  rw[decide_eq_decide.mpr (Cz f),iF];cases decide (c=[])<;>rfl
 refine dX (bind1 rfl h6) ?_;refine ai (bF (bI (bu rfl (az rfl) aU) (jU f _)) rfl (jh rfl h7) ?_);refine ai (aG (b:=false) (fX (jB (b:=true) (aF rfl (bI (bu rfl (az rfl) aU) (z _)) rfl)) (fX (aF rfl (bV (bI (bu rfl (az rfl) aU) (A _)) (az rfl) N) rfl) (aF rfl (bV (bV (az rfl) (aQ rfl) iH) (bV (az rfl) (fu aN zN) P) W) rfl))) (zf ·) λ_=>av ?_);refine ai (bF (bI (bu rfl (bI (bu rfl (az rfl) aU) (B _)) aU) (jU o _)) rfl (jh rfl h8) ?_);refine ai (aG (b:=false) (aF rfl (bV (cZ (ay (j3 (m7 (j0 rfl (j0 rfl (j0 rfl (az rfl) (ay (aQ rfl) (ay (aQ rfl) aN)) (Az (by decide) (by omega))) (ay (aQ rfl) (ay (aQ rfl) aN)) (Az (by decide) (by rw[rO];omega))) (ay (aQ rfl) (ay (aQ rfl) aN)) (Az (by decide) (by rw[rO,rO];omega))) (aQ rfl) G) H) aN) y) (cZ (ay (j3 (m7 (az rfl) (aQ rfl) I) J) aN) K) M) rfl) (zf ·) λ_=>av ?_);refine ai (j4 (vs:=rs.map aC) (dD (dz rfl) rfl) ?_);refine gm (e:=aC) (λp l fr=>p++l=rs/\∃x9,vo x9/\fr=oF ns t rs x4 L (some (.val (aC c))) (some (.val (.str (ct c)))) (some (.val (.str (ct (eX c))))) x9) (λp d l fr ⟨j,x9,h9,k⟩=>?_) (λp fr ⟨j,x9,h9,k⟩=>?_) rs [] _ ⟨rfl,x9,h9,rfl⟩
 .subst k;refine AA ⟨f,r⟩ (hr d (by rw[<-j];simp)) h9 ?_;rw[eO];exact⟨by simpa using j,_,.val (v:=aC d),rfl⟩
 .subst k;exact av (q _ _ _ _ (.val (v:=aC c)) (.val (v:=.str (ct c))) (.val (v:=.str (ct (eX c)))) h9)
omit hn in
theorem Qq(ns:List Int)(at_:Int)(s:List Nat)(hs:gr s)(k:Nat):∀p∈eS ns at_ s k,WP p:=λp a=>by
 have g:=fD ns (at_+4*k+1) (many:=3) (by decide);have h:=fC ns (at_+4*k+1) (many:=3) (by decide);have i:=fD ns (at_+4*k+2) (many:=2) (by decide);have j:=fC ns (at_+4*k+2) (many:=2) (by decide);have e:sgn.contains ([97,98,122].getD (b9 ns (at_+4*k+1) 3).toNat 0)=true:=by
  generalize b9 ns (at_+4*k+1) 3=d at *
  have:d=0\/d=1\/d=2:=by omega
  rcases this with rfl|rfl|rfl<;>decide
 unfold eS at a;rw[rG]at a;rcases List.mem_append.mp a with a|a
 .split at a
  .rw[XG]at a;subst a;refine⟨by rw[Yl];omega,by rw[Yl];omega,λy b=>?_⟩;rw[Y9 b];exact e
  .cases a
 .cases hk:s[k]? with
  |none=>rw[hk]at a;cases a
  |some c=>
   rw[hk]at a;simp only[XG]at a;have f:=hs c (Xx hk);split at a
   .subst a;exact⟨by decide,by decide⟩
   .subst a;exact⟨by simp,by simp,λy b=>by rw[XG]at b;subst b;exact f⟩
omit hn in
theorem EC(ns:List Int)(a:Int){t:List Nat}(ht:gr t)(hl:t.length<=4):Wide (chg ns a t):=⟨by have:=ji ns a t (t.length+1);unfold chg;omega,λp b=>by
 unfold chg di at b;obtain⟨k,-,c⟩:=List.mem_flatMap.mp b;exact Qq ns a t ht k p c⟩
theorem TJ{t:List Nat}{rs:List (List Pt)}{x4:Option Sl}{L:List V}{k:Nat}(R:qF t rs k)(ht:gr t)(hl:t.length<=4)(h4:vo x4):Wp (exs (run prog w (n+9)) w (.cons Au (.cons Av (.cons Aw (.cons wH .nil)))) ([some (.val (gy ns)),some (.val (.str t)),some (.own (rs.map aC)),some (.val (.str (b6 t rs))),x4,some (.own L)]++List.replicate 6 none)) λg fr=>g=.ret (.bl true)/\outs 1 fr=[]:=by
 have W:=EC ns 300 ht hl;obtain⟨H,g2,g3,g4⟩:=Ey ns 300 t ht (t.length+1);have wl:=W.len;have wt:=lT W;have I:=gU (Bp:=100) (Bd:=100) (Bk:=99) (chg ns 300 t) cz H (λp J=>by cases J) (λx C=>by cases C) (λx C=>by cases C) (by simp only[cz,chg];omega) (by simp only[cz,chg,Yb];omega) (by simp only[cz,chg,Yb];omega);have fl:=ku (chg ns 300 t);have VT:=IL (c:=chg ns 300 t) (by unfold chg;omega);have K:=λfr=>gF (fr:=fr) (qo (F:=prog) (c:=26) (dr:=27) (t:=29) (w:=w) (n:=n+6) rfl rfl hn rfl 300 t (by omega));generalize chg ns 300 t=c at *
 have M:=λfr=>bU (fr:=fr) (ee (F:=prog) (aV:=8) (i:=7) (w:=w) (n:=n+7) rfl rfl c (by omega) (by omega));have N:=λfr=>bU (fr:=fr) (IP (w:=w) (n:=n+8) (c:=aK c) I (by omega));have P:=λfr=>bU (fr:=fr) (qE (w:=w) (n:=n+5) W);have al:=λfr=>call2 (fr:=fr) (sY (F:=prog) (aV:=8) (bM:=7) (i:=25) (w:=w) (n:=n+6) rfl rfl rfl c c (by omega) (by omega) (by omega) (by omega));have cl:=nv W;have Q:b7 .len [.str (ct (aK c))]=some (.int ((ct (aK c)).length:Nat)):=YK (by omega);have X:b7 .len [.str (ct c)]=some (.int ((ct c).length:Nat)):=YK (by omega);have G:fB (aC c) none (some 12)=some (aC c):=by
  show fB (.tup (c.map Pt.v)) none (some ((12:Nat):Int))=some (.tup (c.map Pt.v));rw[HK,qy,XQ (by simp;omega)]
 refine ai (j4 (vs:=rs.map aC) (af:=oF ns t rs x4 L none none none none) (dD (dz rfl) rfl) ?_);refine gm (e:=aC) (λp l fr=>p++l=rs/\∃a f j o,vo a/\vo f/\vo j/\vo o/\fr=oF ns t rs x4 L a f j o) (λp d l fr ⟨q,a,f,j,o,y,z,A,B,r⟩=>?_) (λp fr ⟨q,a,f,j,o,y,z,A,B,r⟩=>?_) rs [] _ ⟨rfl,none,none,none,none,.none,.none,.none,.none,rfl⟩
 .subst r;refine EB R.wd (by rw[<-q];simp) y z A B λa f j o y z A B=>?_;rw[eO];exact⟨by simpa using q,a,f,j,o,y,z,A,B,rfl⟩
 .subst r;refine ai (bF (bI (bu rfl (az rfl) (bu rfl (aQ rfl) (bu rfl (az rfl) aU))) (K _)) rfl rfl ?_);refine ai (aG (b:=false) (aF rfl (bV (cZ (ay (bI (bu rfl (bI (bu rfl (az rfl) aU) (M _)) aU) (N _)) aN) Q) (cZ (ay (bI (bu rfl (az rfl) aU) (jU W _)) aN) X) D3) (by show decide _=false;exact Xr (by omega))) (zf ·) λ_=>av ?_);have Y:gj [some (.val (gy ns)),some (.val (.str t)),some (.val (.lst (rs.map aC))),some (.val (.str (b6 t rs))),x4,some (.own L),a,f,j,o,some (.val (aC c)),none]=[some (.val (gy ns)),some (.val (.str t)),some (.val (.lst (rs.map aC))),some (.val (.str (b6 t rs))),x4,some (.val (.lst L)),a,f,j,o,some (.val (aC c)),none]:=by
   show [_,_,_,_,x4.map Sl.eU,_,a.map Sl.eU,f.map Sl.eU,j.map Sl.eU,o.map Sl.eU,_,_]=_;rw[dQ h4,dQ y,dQ z,dQ A,dQ B];rfl
  refine ai (bB (af:=[some (.val (gy ns)),some (.val (.str t)),some (.val (.lst (rs.map aC))),some (.val (.str (b6 t rs))),x4,some (.val (.lst L)),a,f,j,o,some (.val (aC c)),none]) (v:=.bl true) ?_ ⟨rfl,rfl⟩);show ev _ _ _ (gj [some (.val (gy ns)),some (.val (.str t)),some (.val (.lst (rs.map aC))),some (.val (.str (b6 t rs))),x4,some (.own L),a,f,j,o,some (.val (aC c)),none])=_;rw[Y];have Z:decide (aK c=aK c)=true:=by simp
  rw[Z]at al;exact bI (bu rfl (bI (bu rfl (bI (bu rfl (iQ (az rfl) gn (eV (aQ rfl)) G) aU) (jU W _)) aU) (P _)) (bu rfl (iQ (az rfl) gn (eV (aQ rfl)) G) aU)) (al _)
theorem OQ(hw:5000<w):run prog w (n+10) 30 [.val (gy ns)]=some (.bl true,[]):=by
 have J:(txt ns 0 4).length<=4:=Ik ns 0 (most:=4) (by decide);have B:=Nc ns 0 4;have K:=λfr=>gF (fr:=fr) (D5 (F:=prog) (c:=26) (dr:=27) (t:=28) (w:=w) (n:=n+6) rfl rfl hn rfl 0 4 (by decide) (by decide));generalize txt ns 0 4=t at J B K
 obtain⟨N,Q,hN⟩:=drawn (ns:=ns) 5 4 (by decide);have L:=λfr=>gF (fr:=fr) (fY (F:=prog) (c:=26) (dr:=27) (w:=w) (n:=n+7) rfl rfl hn 5 (many:=4) (by omega));rw[show(4:Int)=((4:Nat):Int)from rfl,Q]at L;refine bQ (fn:=CL) rfl rfl ?_;refine ai (bF (bI (bu rfl (az rfl) (bu rfl (aQ rfl) (bu rfl (aQ rfl) aU))) (K _)) rfl rfl ?_);refine ai (iG (l:=[]) (t7 aN zM) rfl rfl ?_);refine ai (bF (az rfl) rfl rfl ?_);refine ai (j4 (vs:=range 0 N) (qm (ay (bI (bu rfl (az rfl) (bu rfl (aQ rfl) (bu rfl (aQ rfl) aU))) (L _)) aN) (MM (by omega) rfl)) ?_);refine yo (lo:=0) (N:=N) (λk fr=>∃d q,qF t d k/\vo q/\fr=rF ns t d q) (λk fr hk ⟨d,q,R,r,j⟩=>?_) (λfr ⟨d,q,R,r,j⟩=>?_) ⟨[],none,⟨rfl,λc o=>(List.not_mem_nil o).elim,trivial,B,by show t.length<=_;omega,by simp[gv]⟩,.none,rfl⟩
 .subst j;refine EA hn R (by omega) r λC q R' r=>?_;rw[eO];exact⟨C,q,R',r,rfl⟩
 .subst j;have z:∀c∈d,Wide c:=λc o=>(R.wd c o).1;have rl:=R.ln;have tt:=R.tt;have lt:=R.lt;have OR:=ON (w:=w) (n:=n+7) z (by omega);have M:=λfr=>bU (fr:=fr) (OO (w:=w) (n:=n+4) z (by omega));have X:mV (.str (rt d)) (.str [10])=some ((d.map λc=>.str (ct c))++[.str []]):=by
   show(if 10<128 then some ((Ev.aS 10 (rt d)).map V.str)else none)=_;have:=kr (c:=10) (ps:=d.map ct) λp Y=>by
    obtain⟨c,Z,rfl⟩:=List.mem_map.mp Y;exact FT (z c Z)
   rw[XH]at this;rw[IC (by decide),show rt d=(d.map ((λp=>p++[10]) ∘ ct)).flatten from rfl,this];simp
  have G:=cE (x:=(d.map λc=>V.str (ct c))++[.str []]) (bE (by simp;omega));have H:=cE (x:=d.map λc=>V.str (ct c)) (bE (by simp;omega));have ad:=DR (x:=d.map λc=>V.str (ct c)) (y:=[.str []]) (by simp;omega);have nL:Pv.cop .ne (.lst ((d.map λc=>V.str (ct c))++[.str []])) (.lst ((d.map λc=>V.str (ct c))++[.str []]))=some false:=by
   have:∀l:List (List Nat),cC (cO (18+1)) (l.map V.str) (l.map V.str)=some true:=λl=>by
    rw[g9 (g:=V.str) (λa b=>qi) l l];simp
   have e:=this (d.map ct++[[]]);rw[Xz,XH]at e;rw[iF,nM];show(cC (cO (18+1)) _ _).map _=_;rw[show((d.map λc=>V.str (ct c))++[.str []])=(d.map (V.str ∘ ct)++[[]].map V.str)from rfl,e];rfl
  have nR:Pv.cop .ne (.lst (d.map aC)) (.lst (d.map aC))=some false:=by
   rw[iF,nM,g9 (g:=aC) (λa b=>(show cO (18+1) (aC a) (aC b)=_ from g9 (f:=cO 18) (g:=Pt.v) (vI 16) a b)) d d];simp
  obtain⟨W,I,A⟩:=we (F:=prog) (aO:=4) (cF:=24) (bN:=23) (cU:=22) (aV:=8) (bM:=7) (cJ:=5) (dB:=6) (gD:=20) (cS:=19) (i:=21) (w:=w) (n:=n+5) rfl rfl rfl rfl rfl rfl rfl rfl rfl rfl hw rfl t d R.ch (by omega) (λc o=>by have:=(z c o).len;omega);have I:=λfr=>call2 (fr:=fr) I;have aT:=A.tt;have aL:=A.ln;have P:=λfr=>call2 (fr:=fr) (vW (F:=prog) (aO:=4) (nh:=16) (i:=17) (w:=w) (n:=n+6) rfl rfl rfl W t (by omega) (by omega) (by omega) A.fit);rw[A.dn]at P;have ln:b7 .len [.str t]=some (.int (t.length:Nat)):=YK (by omega);have nS:Pv.cop .ne (.str (b6 t d)) (.str (b6 t d))=some false:=by rw[iI];simp
  refine ai (iG (j3 (m7 (bI (zW rfl aU) (kL rfl OR)) (aQ rfl) X) G) rfl rfl ?_);refine ai (aG (b:=false) (fX (aF rfl (bV (az rfl) (bK (fE (dD (dz rfl) rfl) rfl (dj aC (λc=>V.str (ct c)) d λc o=>dY rfl (bI (bu rfl (az rfl) aU) (jU (z c o) _))) H) (t7 (ay (aQ rfl) aN) Fw) ad) nL) rfl) (aF rfl (bV (bI (bu rfl (bI (zW rfl aU) (kL rfl OR)) aU) (M _)) (az rfl) nR) rfl)) (zf ·) λ_=>av ?_);refine ai (aG (b:=false) (aF rfl (bV (bI (bu rfl (bI (bu rfl (cZ (ay (az rfl) aN) ln) (bu rfl (bI (bu rfl (bI (zW rfl aU) (kL rfl OR)) aU) (M _)) aU)) (I _)) (bu rfl (az rfl) aU)) (P _)) (az rfl) nS) rfl) (zf ·) λ_=>av ?_);exact TJ hn R B J r
end
def good:∀ns:List Int,ns.length<=63->∃h',Ev.run prog 100000 60 30 [.ref 0] [.bT (ns.map Ev.D.int)]=.ok (.bl true) h':=λns h=>HE (OQ (w:=100000) (n:=50) h (by decide))
end Lg
theorem Lw.good:∀ns:List Int,ns.length<=63->∃h',Ev.run Lw.prog 100000 60 30 [.ref 0] [.bT (ns.map Ev.D.int)]=.ok (.bl true) h':=Lg.good
structure PySem.W.Fast:Prop where(tw15856681908293486645 tw14720151624243287014 tw11001693747405079254 tw5256855866844964224 tw10624374607505449468 tw7004904298087265352 tw16586382542532676982 tw7660575009134179548 tw14333620092509850887 tw9203520338664749084 tw1760668417359650295 tw10957201989287614534 tw12291590105606975377 tw14611687636985834870 tw15309084529479749022 tw1609611051129618875 tw7761703270477687384 tw13459942018856899449 tw13656996895624820736 tw14435256811265397690 tw9474523154938415744 tw1445999256667220093 tw16214490175666862463 tw4396106272105491967 tw12744987507459946016 tw4302869965081592758 tw4160868171198840911 tw4328325465299962924 tw8105543771454363098 tw10271988749389460330 tw637673593932010530 tw608525885270979277 tw1543437950441509643 tw14774345280458017313 tw14944550799327616766 tw12862602971311531037 tw2370391343392408461 tw11589637500784464466 tw16014943651769702537 tw17167394088911801716 tw531281164056779632 tw15270917194391068246 tw9087071638066368323 tw1704570069724224469 tw18079947413721027820 tw9796181095148620505 tw16332181925829835174 tw14461854379047510350 tw15506649388109251294 tw1478412485906010553 tw8257346876328344919 tw2391785835246257162 tw7989275103391276862 tw17414894869095622672 tw10403950658965779771 tw15057876389774766995 tw8233080188995147686 tw60578239905830027 tw2746361104185133060 tw2999528587400191366 tw16951008027049471425 tw10295955550449293613 tw14342884374346126426 tw6471395163149518810 tw7498132123005737670 tw17424480892737677881 tw13606437749074384231 tw17884588196569963480 tw9044189108600888586 tw7553340197492445609 tw14988061378009898527 tw8498957496387176723 tw17590423571132250321 tw2476957472655092695 tw10735643191663505484 tw9350960105755191904 tw8117202086968112437 tw13941985045597550526 tw15479667843514604575 tw16114642156957395586 tw5296335398065936151 tw12506605720079714258 tw2600338965600962206 tw5551979162698370834 tw5491386799997253988 tw1733877070931538580 tw4784655967278656874 tw534829207582076986 tw15493587928890981637 tw18444297883708289951 tw2928143784180126536 tw8532780396911677770 tw14070390022908135071 tw6111644779747004551 tw7628964127584114950 tw12207163851583016472 tw17996390959070376649 tw17452735972477334285 tw12737698425609278029 tw7553993243928463026 tw4693528937563988441 tw14796959067712020898 tw860082461457356381 tw14474909510971518798 tw1033538526320401370 tw12980265449370217785 tw17462816133350820447 tw6705260399348451575 tw13566700428829355147 tw17861199161415853946 tw1879535470033722324 tw7752743140316632002 tw14518398979718673651 tw18208752287992194131 tw18325581509657094501 tw14182362413359807622 tw12605134930718593048 tw1041028618816184694 tw2052573292625685444 tw13549532598213828655 tw8415137332180740276 tw14208461631401192904 tw18009719165438891068 tw18061198232936954082 tw13927293096300323772 tw15475969079558767378 tw13798292141876047305 tw11870113846249093607 tw11585858913787157557 tw5948957410805857998 tw13359496730550544851 tw12008671506619236697 tw10861014526401047511 tw2648313011317678480 tw9543659667177961829 tw7748342129617620351 tw12230909573332480123 tw17591788771059476967 tw2298446274224314419 tw531037533653735646 tw162760025420287798 tw4647157784692689953 tw3261059580131922753 tw1445389054747079341 tw15709378394486638822 tw3575391225394655289 tw12071854908220040849 tw7023694814996214356 tw5630465657087297306 tw5735850475693234420 tw5193301116615741781 tw17532645096738377547 tw9029881614813900348 tw11904282551481020767 tw17717278648725676458 tw15373030675999352498 tw4372186125494562281 tw10447894947474573043 tw6872921563953744050 tw6380895948890695165 tw13652873038268022708 tw66637479088789029 tw11772917815939052010 tw5889459002753197776 tw18016616857730009016 tw738950410108957111 tw12656758754975234812 tw14187203275465582847 tw17999688351752273059 tw10072542286281096060 tw9505116380951698088 tw7619421586543496724 tw1189681894455752818 tw6482946917073930742 tw17627987645031193927 tw11032125650200105801 tw11933519759994459278 tw13470741607065340025 tw5783228573686548308 tw14327699203828150922 tw1958475369709624403 tw6056290720542731344 tw5032456349065436457 tw8645718820206581208 tw14498990182084443862 tw7083668015433550588 tw6027032451585274952 tw4576165229144204209 tw18199603929942218817 tw17963524785072886367 tw13857328237105293044 tw4731967352400515936 tw10315630587244783341 tw2471286210457790820 tw3944703018060718829 tw7256361635543697038 tw14399366317459266078 tw14912496371827640777 tw18223678605285193690 tw17048531152878247727 tw15935583583316235559 tw18282650125118648057 tw11755851803544531449 tw6400549730916612542 tw1221053396897761953 tw1753661454966351168 tw3473980240283467404 tw8032614776807941866 tw4301684346919301289 tw2368324806001351808 tw618723202759559903 tw16203478346900811621 tw9994794655750730920 tw4626678133774195366 tw17500270262851606994 tw15026414332028611567 tw7655053338954869195 tw13027850292964170973 tw11854750948746849531 tw3005694919504366301 tw14148067455519841748 tw7112569779043941409 tw5399844472634586018 tw11759786219726376547 tw15834205551972422559 tw17969009309951071662:True)
open PySem PySem.W PyProof.Rows
set_option maxRecDepth 100000 in
set_option maxHeartbeats 0 in
theorem PySem.Challenge.cw_pastways_k92_whole_forms_written_holds : PySem.Challenge.rw_pastways_k92_whole_forms_written.Holds := by
 w_on;o_law;k_head;(case hw=>w_witness2)
 k_fill
 refine Sm.G9 (F:=Lw.prog) (wh:=100000) (n:=60) (f:=30) (x:="_law_script") (l:=PySem.Challenge.rw_pastways_k92_whole_forms_written) rfl rfl ⟨rfl,by decide,by decide⟩ (λw h Y=>PySem.W.kIn_of Y) Lw.good ?F
 case F=>
  intro w mg fa h KX G hmg
  refine' Lw.all_mk KX G hmg ⟨?a0,L2.bP ?l0 ?c0 ?k0⟩ ⟨?a1,L2.bP ?l1 ?c1 ?k1⟩ ⟨?a2,L2.bP ?l2 ?c2 ?k2⟩ ⟨?a3,L2.bP ?l3 ?c3 ?k3⟩ ⟨?a4,L2.bP ?l4 ?c4 ?k4⟩ ⟨?a5,L2.bP ?l5 ?c5 ?k5⟩ ⟨?a6,L2.bP ?l6 ?c6 ?k6⟩ ⟨?a7,L2.bP ?l7 ?c7 ?k7⟩ ⟨?a8,L2.bP ?l8 ?c8 ?k8⟩ ⟨?a9,L2.bP ?l9 ?c9 ?k9⟩ ⟨?VU,L2.bP ?VV ?VW ?VX⟩ ⟨?VY,L2.bP ?VZ ?V0 ?V1⟩ ⟨?V2,L2.bP ?V3 ?c12 ?V4⟩ ⟨?V5,L2.bP ?V6 ?V7 ?V8⟩ ⟨?V9,L2.bP ?Wa ?Wb ?Wc⟩ ⟨?Wd,L2.bP ?We ?Wf ?Wg⟩ ⟨?Wh,L2.bP ?Wi ?Wj ?Wk⟩ ⟨?Wl,L2.bP ?Wm ?Wn ?Wo⟩ ⟨?Wq,L2.bP ?Wr ?Ws ?Wt⟩ ⟨?Wu,L2.bP ?Wv ?Ww ?Wx⟩ ⟨?Wy,L2.bP ?Wz ?WA ?WB⟩ ⟨?WC,L2.bP ?WD ?WE ?WG⟩ ⟨?WH,L2.bP ?WI ?WJ ?WK⟩ ⟨?WL,L2.bP ?WM ?WN ?WO⟩ ⟨?WQ,L2.bP ?WR ?WT ?WU⟩ ⟨?WV,L2.bP ?WX ?WY ?WZ⟩ ⟨?W0,L2.bP ?W2 ?W3 ?W4⟩ ⟨?W5,L2.bP ?W6 ?W7 ?W8⟩ ⟨?W9,L2.bP ?Xa ?Xb ?Xc⟩ ⟨?Xd,L2.bP ?Xe ?Xf ?Xg⟩ ⟨?Xh,L2.bP ?Xi ?Xj ?Xk⟩ ?z0 ?z1 ?z2 ?z3 ?z4 ?z5 ?z6 ?z7 ?z8 ?z9 ?RS ?RT ?RU ?RW ?q0 ?q1 ?q2 ?q3 ?q4 ?RX ?RY ?RZ ?R0 ?R1 ?R3 ?R4 ?R5 ?R6;all_goals try first|k_is|rfl|decide +kernel | (with_unfolding_all rfl)
